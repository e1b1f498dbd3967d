/- Proved: whichever rows are handed in, as many pages are taken as there are nodes of the tree, and one more for each four rows more at one point (P14.1). Conditions: the package variables that the statement lists read as the program's text lays them (the card ties them). -/
import Derived.Test.YtokfnghckpgjmaaGreatDoorQHja
import Derived.Test.YtokfnghckpgjmaaGreatDoorPHicr
import Derived.Test.YtokfnghckpgjmaaGreatDoorPPo
import Derived.Test.YtokfnghckpgjmaaGreatDoorQYM
import Derived.Test.YtokfnghckpgjmaaGreatDoorTie
import Derived.ProofKit
import Derived.LaidMore
import Derived.OpenShut
import Derived.ShutString
import Derived.Lib.LaidTab
import Derived.Test.YtokfnghckpgjmaaGreatDoorQCK
import Derived.Deep.SlicePairs
set_option maxRecDepth 100000
namespace Go.Proofs.YtokfnghckpgjmaaGreatDoor
section
open Go.ChangeShapes Go.WideShapes Go.ChangeAt Go.RowKit
theorem own:ownKnob Tryz.prog.godebug=none:=uk
theorem oX : Tryz.prog.globalNamed "sphragis/sha.constants" = some 3 := by kernel_rfl
theorem sB:(Tryz.prog.globals[3]?).map (·.type)=some 323:=uk
theorem znH : Tryz.prog.globalNamed "sphragis/arx.turns" = some 2 := by kernel_rfl
theorem zpI:(Tryz.prog.globals[2]?).map (·.type)=some 346:=uk
theorem zmz (cs:Array Value) (h:cs.toList=KL.map fun z=>Value.int .u32 z):cs=dH (lf KL):=by
 apply Array.toList_inj.1;rw[h];rfl
theorem row_of {W:World} {m:Nat} {cs:Array Value} {q:List MemPlace}
  (h:DataW.trod (fun _=>()) Tryz.prog W 0 (fun _=>true) false m 323 cs.toList=some (Lib.tabData .u32 KL,q)):cs=dH (lf KL):=
 zmz _ (Lib.cells_of_tab Tryz.underlying323 Tryz.underlying41 uk uk h)
theorem zh0 {W:World} {g:Nat} {n:String} {cs:Array Value} (hg:Tryz.prog.globalNamed n=some g) (h:World.var? Tryz.prog W n=some cs):∃ tt fr,W.heap[g]? =some (.cells cs tt fr):=by
 unfold World.var? at h;rw[hg] at h;simp only[Option.bind_some] at h;split at h
 ·rename_i cs tt fr hh
  cases h;exact⟨tt,fr,hh⟩
 ·cases h
theorem mD {α:Type} (l:List α) (k:Nat):l.drop k=(l.drop k).take 4++l.drop (k+4):=by
 rw[←List.drop_drop];exact(List.take_append_drop 4 _).symm
theorem mE {W:World} {xs:List (DataW Unit × List MemPlace)} {m:Nat} {l:List Value} {i:Nat} {zs:List Int}
  (h:DataW.trod (fun _=>()) Tryz.prog W 0 (fun _=>true) false m 345 ((l.drop (i*4)).take 4)=xs[i]?) (hx:(xs.map (·.1))[i]? =some (Lib.tabData .i64 zs)):(l.drop (i*4)).take 4=zs.map fun z=>Value.int .i64 z:=by
 rw[List.getElem?_map] at hx;obtain⟨x,hx1,hx2⟩:=Option.map_eq_some_iff.1 hx;rw[hx1] at h;obtain⟨d,q⟩:=x;cases hx2;exact Lib.cells_of_tab Tryz.underlying345 Tryz.underlying3 uk uk h
theorem zpJ {W:World} {m:Nat} {cs:Array Value} {q:List MemPlace}
  (h:DataW.trod (fun _=>()) Tryz.prog W 0 (fun _=>true) false m 346 cs.toList=some (Rows.laid_sphragis_arx_turns,q)):cs=Ra.tab:=by
 obtain⟨xs,m1,rfl,hx1,hlen,hn3,hel⟩:=DataW.trod_array Tryz.underlying346 h;have c58:Tryz.prog.cellsOf 345=4:=uk
 have c59:Tryz.prog.cellsOf 346=32:=uk
 rw[c58] at hel;rw[c59] at hlen;have hxl:Rows.laid_sphragis_arx_turns=DataW.agg (xs.map (·.1)):=(Prod.mk.inj hx1).1;unfold Rows.laid_sphragis_arx_turns at hxl;have hxs:=DataW.agg.inj hxl;have r0:=mE (zs:=[0,4,8,12]) (hel 0 uo) (by rw[←hxs];rfl);have r1:=mE (zs:=[1,5,9,13]) (hel 1 uo) (by rw[←hxs];rfl);have r2:=mE (zs:=[2,6,10,14]) (hel 2 uo) (by rw[←hxs];rfl);have r3:=mE (zs:=[3,7,11,15]) (hel 3 uo) (by rw[←hxs];rfl);have r4:=mE (zs:=[0,5,10,15]) (hel 4 uo) (by rw[←hxs];rfl);have r5:=mE (zs:=[1,6,11,12]) (hel 5 uo) (by rw[←hxs];rfl);have r6:=mE (zs:=[2,7,8,13]) (hel 6 uo) (by rw[←hxs];rfl);have r7:=mE (zs:=[3,4,9,14]) (hel 7 uo) (by rw[←hxs];rfl)
 have hl:cs.toList=Ra.tab.toList:=by
  have h32:cs.toList.drop 32=[]:=List.drop_eq_nil_of_le uo;have e0:cs.toList=cs.toList.drop (0*4):=rfl;rw[e0];rw[mD _ (0*4),r0];rw[show cs.toList.drop (0*4+4)=cs.toList.drop (1*4) from rfl,mD _ (1*4),r1];rw[show cs.toList.drop (1*4+4)=cs.toList.drop (2*4) from rfl,mD _ (2*4),r2];rw[show cs.toList.drop (2*4+4)=cs.toList.drop (3*4) from rfl,mD _ (3*4),r3];rw[show cs.toList.drop (3*4+4)=cs.toList.drop (4*4) from rfl,mD _ (4*4),r4];rw[show cs.toList.drop (4*4+4)=cs.toList.drop (5*4) from rfl,mD _ (5*4),r5];rw[show cs.toList.drop (5*4+4)=cs.toList.drop (6*4) from rfl,mD _ (6*4),r6];rw[show cs.toList.drop (6*4+4)=cs.toList.drop (7*4) from rfl,mD _ (7*4),r7];rw[show cs.toList.drop (7*4+4)=cs.toList.drop 32 from rfl,h32];rfl
 have hc:cs=Ra.tab:=Array.toList_inj.1 hl;exact hc
theorem laid_two (W : World) (h : laidMetH Tryz.prog [("sphragis/arx.turns", Rows.laid_sphragis_arx_turns), ("sphragis/sha.constants", Rows.laid_sphragis_sha_constants)] W) :
  (∃ tt fr,W.heap[3]? =some (.cells (dH (lf KL)) tt fr))∧∃ tt fr,W.heap[2]? =some (.cells Ra.tab tt fr):=by
 rw[MakeChecks.laidMetH_plain _ _ _ uk] at h;obtain⟨ps,⟨g0,t0,cs0,f0,p0,q0,hg0,ht0,hv0,hd0,⟨g1,t1,cs1,f1,p1,q1,hg1,ht1,hv1,hd1,_,_⟩,_⟩,_,_⟩:=h;obtain rfl:=Option.some.inj (znH.symm.trans hg0);obtain rfl:=Option.some.inj (zpI.symm.trans ht0);obtain rfl:=Option.some.inj (oX.symm.trans hg1);obtain rfl:=Option.some.inj (sB.symm.trans ht1);obtain rfl:=zpJ hd0;obtain rfl:=row_of hd1;exact⟨zh0 oX hv1,zh0 znH hv0⟩
theorem door_two (os : Os) (args : Array Value) : laidMetH Tryz.prog [("sphragis/arx.turns", Rows.laid_sphragis_arx_turns), ("sphragis/sha.constants", Rows.laid_sphragis_sha_constants)] ((World.doorLaid Tryz.prog 400 os).forCall (fun _ _ => 0) ⟨#[], args, []⟩).memory := by
 rw[MakeChecks.laidMetH_plain _ _ _ uk];exact laidMet_of_run' 8 uk uk
end
end Go.Proofs.YtokfnghckpgjmaaGreatDoor
set_option maxRecDepth 100000
set_option maxHeartbeats 1000000
namespace Go.Proofs.YtokfnghckpgjmaaGreatDoor
section
namespace Rq
open Go.RowKit Go.ChangeShapes Go.WideShapes Go.ChangeAt Go.Deep
open Rc
theorem zgW:Tryz.prog.cellsOf 41=1:=uk
theorem zov:Tryz.prog.cellsOf 42=1:=uk
theorem zks:Tryz.prog.cellsOf 9=1:=uk
theorem zmy:Tryz.prog.cellsOf 79=4:=uk
theorem ox {n:Int} (h:(Lit.int .u32 n).wf=true):∃ m:Nat,n=(m:Int)∧m<4294967296:=by
 simp only[Lit.wf,IntKind.min,IntKind.max,IntKind.signed,IntKind.bits,Bool.and_eq_true] at h;simp at h;exact⟨n.toNat,by omega,by omega⟩
theorem tW {n:Int} (h:(Lit.int .u64 n).wf=true):∃ m:Nat,n=(m:Int)∧m<18446744073709551616:=by
 simp only[Lit.wf,IntKind.min,IntKind.max,IntKind.signed,IntKind.bits,Bool.and_eq_true] at h;simp at h;exact⟨n.toNat,by omega,by omega⟩
theorem zfV {H:Type} {enc:TypeId × Value→H} {W:World} {fuel:Nat} {cs:List Value} {x:DataW H × List MemPlace} (h:DataW.trod enc Tryz.prog W 0 (fun _=>true) true fuel 79 cs=some x) (hl:cs.length=4):∃ r:Rw,cs=rc r∧fI r:=by
 obtain⟨xs,n,_,rfl,_,hxs,hf⟩:=DataW.trod_struct Tryz.underlying79 h;have g0:DataW.trod enc Tryz.prog W 0 (fun _=>true) true n 42 ((cs.drop 0).take (Tryz.prog.cellsOf 42))=xs[0]? :=hf 0 _ rfl;have g1:DataW.trod enc Tryz.prog W 0 (fun _=>true) true n 41 ((cs.drop 1).take (Tryz.prog.cellsOf 41))=xs[1]? :=hf 1 _ rfl;have g2:DataW.trod enc Tryz.prog W 0 (fun _=>true) true n 41 ((cs.drop 2).take (Tryz.prog.cellsOf 41))=xs[2]? :=hf 2 _ rfl;have g3:DataW.trod enc Tryz.prog W 0 (fun _=>true) true n 9 ((cs.drop 3).take (Tryz.prog.cellsOf 9))=xs[3]? :=hf 3 _ rfl;simp only[zgW,zov,zks] at g0 g1 g2 g3
 obtain⟨v0,v1,v2,v3,rfl⟩:∃ v0 v1 v2 v3,cs=[v0,v1,v2,v3]:=by
  match cs,hl with
  |[v0,v1,v2,v3],_=>exact⟨v0,v1,v2,v3,rfl⟩
 obtain⟨x0,x1,x2,x3,rfl⟩:∃ x0 x1 x2 x3,xs=[x0,x1,x2,x3]:=by
  match xs,hxs with
  |[x0,x1,x2,x3],_=>exact⟨x0,x1,x2,x3,rfl⟩
 simp at g0 g1 g2 g3;obtain⟨a0,e0,_,u0⟩:=DataW.trod_int Tryz.underlying42 g0;obtain⟨a1,e1,_,u1⟩:=DataW.trod_int Tryz.underlying41 g1;obtain⟨a2,e2,_,u2⟩:=DataW.trod_int Tryz.underlying41 g2;obtain⟨a3,e3,_,u3⟩:=DataW.trod_string Tryz.underlying9 g3;obtain⟨m0,rfl,b0⟩:=tW u0;obtain⟨m1,rfl,b1⟩:=ox u1;obtain⟨m2,rfl,b2⟩:=ox u2;cases e0;cases e1;cases e2;cases e3
 exact⟨⟨m0,m1,m2,a3⟩,rfl,b0,b1,b2⟩
theorem rows_of_arg {H:Type} {enc:TypeId × Value→H} {W:World} {o:Option Addr} {n c:Nat} {d:DataW H} {p:List MemPlace} (h:DataW.Trod enc Tryz.prog W 0 (fun _=>true) true 22 (.slice o n c) d p) (hlt:∀ x∈p,x.block<W.heap.size):
  ∃ l:List Rw,n=l.length∧cH W o c l∧∀ r∈l,fI r:=by
 obtain⟨fuel,hf⟩:=h;rcases DataW.trod_slice Tryz.underlying22 hf with⟨hcs,hx⟩|⟨a,len,cap,elems,rest,n',_,hcs,hx,hb,hl,hm,hlen,hel,_,_⟩
 ·simp[Value.cells] at hcs
  obtain⟨rfl,rfl,rfl⟩:=hcs;exact⟨[],rfl,Sl.nil 4 W,fun r hr=>by simp at hr⟩
 ·simp[Value.cells] at hcs
  obtain⟨rfl,rfl,rfl⟩:=hcs;simp only[Prod.mk.injEq] at hx;obtain⟨rfl,rfl⟩:=hx;rw[zmy] at hel hlt;by_cases hn0:n=0
  ·subst hn0
   exact⟨[],rfl,⟨by simp,hm,(fun e=>by cases e),rfl,fun h=>absurd h us⟩,fun r hr=>by simp at hr⟩
  have each:∀ i,i<n→∃ cs y,W.cells? 0 (a.add (i*4)) 4=some cs∧DataW.trod enc Tryz.prog W 0 (fun _=>true) true n' 79 cs=some y:=by
   intro i hi;have h1:=hel i hi;have h2:elems[i]? =some elems[i]:=List.getElem?_eq_getElem uo;rw[h2,Option.bind_eq_some_iff] at h1;obtain⟨cs,e1,e2⟩:=h1;exact⟨cs,_,e1,e2⟩
  obtain⟨ab,off,spot⟩:=a
  have hspot:spot=none:=by
   obtain⟨cs,y,e1,_⟩:=each 0 uo;obtain⟨_,hcl,hce⟩:=World.cells?_some e1;have h0:=hce 0 uo;rw[List.getElem?_eq_getElem uo] at h0;simpa [Addr.add] using World.cell?_spot h0
  subst hspot;have hadd (k:Nat) (o2:Nat):(⟨ab,o2,none⟩:Addr).add k=⟨ab,o2+k,none⟩:=by unfold Addr.add;split<;>simp_all
  have hbW:ab<W.heap.size:=hlt (.cell ab off) (by rw[List.mem_append];exact .inl (MemPlace.mem_row.2 ⟨0,by omega,by simp⟩))
  have all:∀ i,∃ r:Rw,i<n→fI r∧∀ j u,(rc r)[j]? =some u→W.cell? ⟨ab,off+i*4+j,none⟩=some u:=by
   intro i;by_cases hi:i<n
   ·obtain⟨cs,y,e1,e2⟩:=each i hi
    obtain⟨_,hcl,hce⟩:=World.cells?_some e1;obtain⟨r,rfl,ok⟩:=zfV e2 hcl;refine⟨r,fun _=>⟨ok,fun j u hu=>?_⟩⟩;have hj:j<4:=(List.getElem?_eq_some_iff.1 hu).1;have:=hce j hj;rw[hadd,hadd,hu] at this;exact this
   ·exact⟨⟨0,0,0,⟨#[]⟩⟩,fun h=>absurd h hi⟩
  obtain⟨f,hf⟩:=Classical.axiomOfChoice all;have hlen2:((List.range n).map f).length=n:=by simp
  refine⟨(List.range n).map f,hlen2.symm,⟨by rw[hlen2];exact hl,hm,(fun e=>by cases e),nk rc 4 (fun _=>rfl) _,fun _=>⟨ab,off,rfl,hbW,fun j u hu=>?_⟩⟩,fun r hr=>?_⟩
  ·have hj:=(List.getElem?_eq_some_iff.1 hu).1
   rw[nk rc 4 (fun _=>rfl),hlen2] at hj;have hi:j/4<n:=uo
   have e:j=j/4*4+j%4:=uo
   have g:=flat_get rc 4 (fun _=>rfl) ((List.range n).map f) (j/4) (f (j/4)) (by simp[hi]) (j%4) uo;rw[←e,hu] at g;have:=(hf (j/4) hi).2 (j%4) u g.symm;rw[show off+j/4*4+j%4=off+j by omega] at this;exact this
  ·obtain⟨i,hi,rfl⟩:=List.mem_map.1 hr
   exact(hf i (by simpa using hi)).1
end Rq
end
end Go.Proofs.YtokfnghckpgjmaaGreatDoor
namespace Go.Proofs.YtokfnghckpgjmaaGreatDoor
open Go.ChangeShapes Go.WideShapes Go.ChangeAt Go.RowKit
open Go.ChangeMaps (open_string)
set_option maxRecDepth 100000 in
theorem groveFew_lifted (os : Os) (started : os.Started) (H : Type) (enc : TypeId × Value → H) :
    ReturnsInHanded {} Tryz.checked os 10 .any (fun w args => (Rows.groveFewSpec.pre enc Tryz.prog Tryz.f10 [] false w args ∧ laidMetH Tryz.prog [("sphragis/arx.turns", Rows.laid_sphragis_arx_turns), ("sphragis/sha.constants", Rows.laid_sphragis_sha_constants)] w) ∧ sizedMet enc Tryz.prog Tryz.f10 (OpenSpec.ofChange Rows.groveFewSpec) false w args)
      (Rows.groveFewSpec.post enc Tryz.prog Tryz.f10 false true false false) := by
  refine returnsInHanded_of_change_and (C := Tryz.checked) (X := fun w _ => laidMetH Tryz.prog [("sphragis/arx.turns", Rows.laid_sphragis_arx_turns), ("sphragis/sha.constants", Rows.laid_sphragis_sha_constants)] w) (fun _ _ _ hh h => h.of_heap hh) own started (by kernel_rfl) Tryz.func10
    (ChangeSpec.witness_shaped (enc := enc) (C := Tryz.checked) (os := os) (X := fun w _ => laidMetH Tryz.prog [("sphragis/arx.turns", Rows.laid_sphragis_arx_turns), ("sphragis/sha.constants", Rows.laid_sphragis_sha_constants)] w) false (World.doorLaid Tryz.prog 400 os) #[.slice none 0 0] 8 rfl (World.shaped_of_RefB (by kernel_rfl) (by kernel_rfl)) (by kernel_rfl) (by kernel_rfl) (by kernel_rfl) (door_two os _)) ?_
  intro W base args ds gs before hval0 hW _ _ hL _
  have hval : ∀ (j : Nat) t v, Tryz.f10.params[j]? = some t → args[j]? = some v → Value.okWide Tryz.prog W .any base t v := hval0
  have hW' := hW
  obtain ⟨p, q, hA0, hV, rfl, hfz, hnd⟩ := hW
  have hA : DataW.TrodAll enc Tryz.prog W 0 (fun _ => true) true Tryz.f10.params.toList args.toList ds p := hA0
  rw [Tryz.params10] at hA hval
  obtain ⟨v0, vs0, d0, ds0, p0, q0, hargs, rfl, rfl, h0, r0⟩ := trodAll_cons hA
  obtain ⟨rfl, rfl, rfl⟩ := trodAll_nil r0
  obtain rfl : args = #[v0] := by cases args; simp_all
  obtain ⟨rfl, rfl⟩ := trodVars_none hV
  clear hA0 hval0
  simp only [List.append_nil] at hW'
  have hTb := laid_two W hL
  have hlt : ∀ x, (x ∈ p0) → x.block < W.heap.size := fun x hx => hW'.lt x (by simpa using hx)
  have fin : ∀ W' : World, Below W.heap.size W W' → Rows.groveFewSpec.post enc Tryz.checked.prog Tryz.f10 false true false false W #[v0] (.bool true) W' := fun W' hb =>
    ⟨_, _, _, [] ++ [], _, [], hW', trodAll_cons_mk (shut_bool Tryz.underlying4 _) trodAll_mk0, (trodAll_cons_mk (Below.trod (by kernel_rfl) (by kernel_rfl) (of_decide_eq_true (by kernel_rfl)) h0 hb (fun x hx => hlt x (hx))) trodAll_mk0), rfl, hb.frame _, fun h => by cases h⟩
  obtain ⟨o0, len0, cap0, rfl⟩ := okWide_slice Tryz.underlying22 (hval 0 22 v0 rfl rfl)
  obtain ⟨l0, rfl, R0, K0⟩ := Rq.rows_of_arg h0 (fun x hx => hlt x (hx))
  refine (Rz.groveFew_walk (lf KL) l0 o0 cap0 K0 W R0 hTb).mono fun e W' ⟨he, hb⟩ => ?_
  subst he
  exact ⟨_, rfl, fin W' hb⟩
theorem groveFew_card : Rows.GroveFewCardSaid := groveFew_card_of (groveFew_row_of groveFew_lifted)
#print axioms groveFew_card
end Go.Proofs.YtokfnghckpgjmaaGreatDoor
