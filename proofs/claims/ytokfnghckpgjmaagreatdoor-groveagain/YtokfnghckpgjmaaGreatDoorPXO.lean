/- What the package variables read as: the tables. -/
import Derived.Test.YtokfnghckpgjmaaGreatDoorQYM
import Derived.Test.YtokfnghckpgjmaaGreatDoorTie
import Derived.ProofKit
import Derived.LaidMore
import Derived.OpenShut
import Derived.ShutString
import Derived.Lib.LaidTab
set_option maxRecDepth 100000
namespace Go.Proofs.YtokfnghckpgjmaaGreatDoor
section
open Go.ChangeShapes Go.WideShapes Go.ChangeAt Go.RowKit
theorem own:ownKnob Tryz.prog.godebug=none:=by kernel_rfl
theorem gSha : Tryz.prog.globalNamed "sphragis/sha.constants" = some 3 := by kernel_rfl
theorem tSha:(Tryz.prog.globals[3]?).map (·.type)=some 323:=by kernel_rfl
theorem znH : Tryz.prog.globalNamed "sphragis/arx.turns" = some 2 := by kernel_rfl
theorem zpI:(Tryz.prog.globals[2]?).map (·.type)=some 346:=by kernel_rfl
theorem zmz (cs:Array Value) (h:cs.toList=KL.map fun z=>Value.int .u32 z):cs=w64 (lf KL):=by
 apply Array.toList_inj.1;rw[h];rfl
theorem row_of {W:World} {m:Nat} {cs:Array Value} {q:List MemPlace}
  (h:DataW.trod (fun _=>()) Tryz.prog W 0 (fun _=>true) false m 323 cs.toList=some (Lib.tabData .u32 KL,q)):cs=w64 (lf KL):=
 zmz _ (Lib.cells_of_tab Tryz.underlying323 Tryz.underlying41 (by kernel_rfl) (by kernel_rfl) h)
theorem zh0 {W:World} {g:Nat} {n:String} {cs:Array Value} (hg:Tryz.prog.globalNamed n=some g) (h:World.var? Tryz.prog W n=some cs):∃ tt fr,W.heap[g]? =some (.cells cs tt fr):=by
 unfold World.var? at h;rw[hg] at h;simp only[Option.bind_some] at h;split at h
 ·rename_i cs tt fr hh
  cases h;exact⟨tt,fr,hh⟩
 ·cases h
theorem zfW {α:Type} (l:List α) (k:Nat):l.drop k=(l.drop k).take 4++l.drop (k+4):=by
 rw[←List.drop_drop];exact(List.take_append_drop 4 _).symm
theorem zcl {W:World} {xs:List (DataW Unit × List MemPlace)} {m:Nat} {l:List Value} {i:Nat} {zs:List Int}
  (h:DataW.trod (fun _=>()) Tryz.prog W 0 (fun _=>true) false m 345 ((l.drop (i*4)).take 4)=xs[i]?) (hx:(xs.map (·.1))[i]? =some (Lib.tabData .i64 zs)):(l.drop (i*4)).take 4=zs.map fun z=>Value.int .i64 z:=by
 rw[List.getElem?_map] at hx;obtain⟨x,hx1,hx2⟩:=Option.map_eq_some_iff.1 hx;rw[hx1] at h;obtain⟨d,q⟩:=x;cases hx2;exact Lib.cells_of_tab Tryz.underlying345 Tryz.underlying3 (by kernel_rfl) (by kernel_rfl) h
theorem zpJ {W:World} {m:Nat} {cs:Array Value} {q:List MemPlace}
  (h:DataW.trod (fun _=>()) Tryz.prog W 0 (fun _=>true) false m 346 cs.toList=some (Rows.laid_sphragis_arx_turns,q)):cs=Ra.tab:=by
 obtain⟨xs,m1,rfl,hx1,hlen,hn3,hel⟩:=DataW.trod_array Tryz.underlying346 h;have c58:Tryz.prog.cellsOf 345=4:=by kernel_rfl
 have c59:Tryz.prog.cellsOf 346=32:=by kernel_rfl
 rw[c58] at hel;rw[c59] at hlen;have hxl:Rows.laid_sphragis_arx_turns=DataW.agg (xs.map (·.1)):=(Prod.mk.inj hx1).1;unfold Rows.laid_sphragis_arx_turns at hxl;have hxs:=DataW.agg.inj hxl;have r0:=zcl (zs:=[0,4,8,12]) (hel 0 (by omega)) (by rw[←hxs];rfl);have r1:=zcl (zs:=[1,5,9,13]) (hel 1 (by omega)) (by rw[←hxs];rfl);have r2:=zcl (zs:=[2,6,10,14]) (hel 2 (by omega)) (by rw[←hxs];rfl);have r3:=zcl (zs:=[3,7,11,15]) (hel 3 (by omega)) (by rw[←hxs];rfl);have r4:=zcl (zs:=[0,5,10,15]) (hel 4 (by omega)) (by rw[←hxs];rfl);have r5:=zcl (zs:=[1,6,11,12]) (hel 5 (by omega)) (by rw[←hxs];rfl);have r6:=zcl (zs:=[2,7,8,13]) (hel 6 (by omega)) (by rw[←hxs];rfl);have r7:=zcl (zs:=[3,4,9,14]) (hel 7 (by omega)) (by rw[←hxs];rfl)
 have hl:cs.toList=Ra.tab.toList:=by
  have h32:cs.toList.drop 32=[]:=List.drop_eq_nil_of_le (by omega);have e0:cs.toList=cs.toList.drop (0*4):=rfl;rw[e0];rw[zfW _ (0*4),r0];rw[show cs.toList.drop (0*4+4)=cs.toList.drop (1*4) from rfl,zfW _ (1*4),r1];rw[show cs.toList.drop (1*4+4)=cs.toList.drop (2*4) from rfl,zfW _ (2*4),r2];rw[show cs.toList.drop (2*4+4)=cs.toList.drop (3*4) from rfl,zfW _ (3*4),r3];rw[show cs.toList.drop (3*4+4)=cs.toList.drop (4*4) from rfl,zfW _ (4*4),r4];rw[show cs.toList.drop (4*4+4)=cs.toList.drop (5*4) from rfl,zfW _ (5*4),r5];rw[show cs.toList.drop (5*4+4)=cs.toList.drop (6*4) from rfl,zfW _ (6*4),r6];rw[show cs.toList.drop (6*4+4)=cs.toList.drop (7*4) from rfl,zfW _ (7*4),r7];rw[show cs.toList.drop (7*4+4)=cs.toList.drop 32 from rfl,h32];rfl
 have hc:cs=Ra.tab:=Array.toList_inj.1 hl;exact hc
theorem laid_two (W : World) (h : laidMetH Tryz.prog [("sphragis/arx.turns", Rows.laid_sphragis_arx_turns), ("sphragis/sha.constants", Rows.laid_sphragis_sha_constants)] W) :
  (∃ tt fr,W.heap[3]? =some (.cells (w64 (lf KL)) tt fr))∧∃ tt fr,W.heap[2]? =some (.cells Ra.tab tt fr):=by
 rw[MakeChecks.laidMetH_plain _ _ _ (by kernel_rfl)] at h;obtain⟨ps,⟨g0,t0,cs0,f0,p0,q0,hg0,ht0,hv0,hd0,⟨g1,t1,cs1,f1,p1,q1,hg1,ht1,hv1,hd1,_,_⟩,_⟩,_,_⟩:=h;obtain rfl:=Option.some.inj (znH.symm.trans hg0);obtain rfl:=Option.some.inj (zpI.symm.trans ht0);obtain rfl:=Option.some.inj (gSha.symm.trans hg1);obtain rfl:=Option.some.inj (tSha.symm.trans ht1);obtain rfl:=zpJ hd0;obtain rfl:=row_of hd1;exact⟨zh0 gSha hv1,zh0 znH hv0⟩
theorem door_two (os : Os) (args : Array Value) : laidMetH Tryz.prog [("sphragis/arx.turns", Rows.laid_sphragis_arx_turns), ("sphragis/sha.constants", Rows.laid_sphragis_sha_constants)] ((World.doorLaid Tryz.prog 400 os).forCall (fun _ _ => 0) ⟨#[], args, []⟩).memory := by
 rw[MakeChecks.laidMetH_plain _ _ _ (by kernel_rfl)];exact laidMet_of_run' 8 (by kernel_rfl) (by kernel_rfl)
end
end Go.Proofs.YtokfnghckpgjmaaGreatDoor
