/- pad.body: a text's body. -/
import Derived.Test.YtfaflomephjkgaaGreatDoorQYA
import Derived.Deep.OwnRows
import Derived.Laws.IdiomStrings
import Derived.Test.YtfaflomephjkgaaGreatDoorQYM
import Derived.Lib.OthersKept
import Derived.Lib.UnsafeStr
import Derived.Laws.Externs
import Derived.OrdersHeld
import Derived.Test.YtfaflomephjkgaaGreatDoorPPl
set_option maxRecDepth 100000
set_option maxHeartbeats 2000000
namespace Go.Proofs.YtfaflomephjkgaaGreatDoor.Rp
open Go.RowKit
def natOf:Value→Nat|.int _ x=>x.toNat|_=>0
theorem info5:(Tryz.prog.info? 5).map (fun i=>(i.zero,i.size,i.bytes))=some (some (.int .u8 0),1,1):=by kernel_rfl
theorem idx_s (s:ByteArray) (p:Nat) (hp:p<s.size) (w:World):(Instr.index 9 (.string s) (.int .i64 (p:Int))).run Tryz.prog w=.ok (.int .u8 (bt s p)) w:=by
 have h0:(p:Int)<(s.size:Int):=by omega
 simp[Instr.index,run_underlying Tryz.underlying9,go_sem,hp]
 unfold bt
 rw[Array.getElem?_eq_getElem (by exact hp)]
 rfl
theorem set_at (w:World) (b i:Nat) (cs:Array Value) (T:TypeId) (fr:Nat × Nat) (v:Value) (hb:w.heap[b]? =some (.cells cs T fr)):(w.setCell ⟨b,i,none⟩ v).heap[b]? =some (.cells (cs.setIfInBounds i v) T fr):=by
 rw[setCell_eq_setRow w b i cs T fr v hb]
 exact setRow_heap w b cs _ T _ hb
theorem body_any (s:ByteArray) (hs:s.size≤198) (w:World):
  Calls Tryz.prog 115 #[.string s] w fun e w'=>e=.returned (.string (bodyS s))∧Below w.heap.size w w':=by
 have hmk:∀ w:World,(Instr.makeSlice 98 (.int .i64 200) (.int .i64 200)).run Tryz.prog w=.ok (.slice (some ⟨w.heap.size,0,none⟩) 200 200) (w.alloc (.cells (madeCells #[.int .u8 0] 200) 5)):=fun w=>
  run_make_row' 98 5 (.int .u8 0) 1 Tryz.underlying98 info5 rfl .i64 .i64 200 (by decide) (by decide) w
 have hcs:∀ j,j<200→(madeCells #[Value.int .u8 0] 200)[j]? =some (.int .u8 0):=fun j hj=>by
  simp[madeCells,hj,Nat.mod_one]
 obtain⟨cs,hc⟩:∃ cs,madeCells #[Value.int .u8 0] 200=cs:=⟨_,rfl⟩
 rw[hc] at hmk hcs
 clear hc
 have HC:Hid (∀ j,j<200→cs[j]? =some (.int .u8 0)):=hcs
 have k0:=hcs 0 (by omega)
 have k1:=hcs 1 (by omega)
 have k2:(cs.setIfInBounds 0 (.int .u8 ((s.size:Int)/256)))[1]? =some (.int .u8 0):=by rw[Array.getElem?_setIfInBounds_ne (by omega)];exact k1
 clear hcs k1
 go_enter Tryz.func115,Tryz.ntmps115
 go_wp2_with fail
 have D0:Hid (∀ j,j<200→((cs.setIfInBounds 0 (.int .u8 ((s.size:Int)/256))).setIfInBounds 1 (.int .u8 (s.size:Int)))[j]? =some (.int .u8 (if j<0+2 then bodyN s j else 0))):=fun j hj=>by
  have hz:200≤cs.size:=by
   have:=(Array.getElem?_eq_some_iff.1 (HC.out 199 (by omega))).1
   omega
  by_cases h1:j=1
  ·subst h1
   rw[Array.getElem?_setIfInBounds_self_of_lt (by rw[Array.size_setIfInBounds];omega),if_pos (by omega)]
   simp only[bodyN,if_true,if_false,Nat.one_ne_zero]
   congr 2;omega
  ·rw[Array.getElem?_setIfInBounds_ne (fun h=>h1 h.symm)]
   by_cases h0:j=0
   ·subst h0
    rw[Array.getElem?_setIfInBounds_self_of_lt (by omega),if_pos (by omega)]
    simp only[bodyN,if_true]
    congr 2
   ·rw[Array.getElem?_setIfInBounds_ne (fun h=>h0 h.symm),HC.out j hj,if_neg (by omega)]
 generalize (cs.setIfInBounds 0 (.int .u8 ((s.size:Int)/256))).setIfInBounds 1 (.int .u8 (s.size:Int))=es at*
 clear k0 k2 HC hmk
 go_loopw [19] (fun i wr=>∃ (k:Nat) (ds:Array Value),k≤s.size∧i=.int .i64 (k:Int)∧wr.heap[w.heap.size]? =some (.cells ds 5 (0,0))∧(∀ j,j<200→ds[j]? =some (.int .u8 (if j<k+2 then bodyN s j else 0)))∧Below w.heap.size w wr) (fun i _=>s.size - natOf i)
 case atStart=>exact⟨0,es,by omega,rfl,heap_alloc_new w _,D0.out,below_new w _⟩
 case round=>
  clear D0
  obtain⟨k,ds,hk,rfl,hrow,hds,hbe⟩:=hrel
  have RX:Hid (wr.heap[w.heap.size]? =some (.cells ds 5 (0,0))):=hrow
  have DX:Hid (∀ j,j<200→ds[j]? =some (.int .u8 (if j<k+2 then bodyN s j else 0))):=hds
  have BX:Hid (Below w.heap.size w wr):=hbe
  clear hds hbe
  by_cases hlt:k<s.size
  ·have c1:wr.cell? ⟨w.heap.size,k+2,none⟩=some (.int .u8 0):=by rw[cell_of_row _ _ _ _ _ _ hrow,DX.out (k+2) (by omega)];simp
   have c2:wr.cell? ⟨w.heap.size,2+k,none⟩=some (.int .u8 0):=by rw[Nat.add_comm];exact c1
   have hz:wr.frozen? ⟨w.heap.size,2+k,none⟩=false:=frozen_of_row wr _ _ _ _ hrow
   have g0:(0:Int)≤(k:Int):=by omega
   have g1:(k:Int)<(s.size:Int):=by omega
   have g2:(k:Int)<198:=by omega
   have hix:=idx_s s k hlt
   obtain⟨x,hx⟩:∃ x,bt s k=x:=⟨_,rfl⟩
   have HX:Hid (bt s k=x):=hx
   rw[hx] at hix
   clear hrow hx c1
   go_wp2_with fail
   go_roundw
   case rel=>
    refine⟨k+1,ds.setIfInBounds (2+k) (.int .u8 x),hlt,by go_num,set_at _ _ _ _ _ _ _ RX.out,fun j hj=>?_,BX.out.setCell (Nat.le_refl _) _⟩
    by_cases e:j=2+k
    ·subst e
     rw[Array.getElem?_setIfInBounds_self_of_lt (by have:=DX.out _ hj;exact(Array.getElem?_eq_some_iff.1 this).1),if_pos (by omega)]
     unfold bodyN
     rw[if_neg (by omega),if_neg (by omega),show 2+k - 2=k by omega,HX.out]
    ·rw[Array.getElem?_setIfInBounds_ne (fun h=>e h.symm),DX.out j hj]
     by_cases h2:j<k+2
     ·rw[if_pos h2,if_pos (by omega)]
     ·rw[if_neg h2,if_neg (by omega)]
   case measure=>simp[natOf];omega
  ·obtain rfl:k=s.size:=by omega
   have a0:¬(s.size:Int)<(s.size:Int):=by omega
   have hcb:(convert 98 9 (.slice (some ⟨w.heap.size,0,none⟩) 200 200)).run Tryz.prog wr=.ok (.string (bodyS s)) wr:=by
    unfold bodyS
    refine run_convert_bytes_arg wr 98 5 Tryz.underlying98 Tryz.underlying5 w.heap.size 0 200 200 _ (by rw[upto_length]) (fun i hi=>?_) 9 Tryz.underlying9
    rw[Nat.zero_add,cell_of_row _ _ _ _ _ _ hrow,DX.out i hi,upto_get _ _ _ hi]
    by_cases h2:i<s.size+2
    ·rw[if_pos h2]
    ·rw[if_neg h2]
     unfold bodyN
     rw[if_neg (by omega),if_neg (by omega),bt_out _ _ (by omega)]
   clear hrow
   go_wp2_with fail
   go_ret
   exact⟨rfl,BX.out⟩
end Go.Proofs.YtfaflomephjkgaaGreatDoor.Rp
namespace Go.Proofs.YtfaflomephjkgaaGreatDoor.Rs
open Go.RowKit Go.Lib
theorem cell_one' (W:World) (v:Value) (t:TypeId):∀ j u,[v][j]? =some u→(W.alloc (.cells #[v] t)).cell? ((⟨W.heap.size,0,none⟩:Addr).add j)=some u:=by
 intro j u hj
 match j,hj with
 |0,hj=>simp at hj;subst hj;simp[Addr.add]
theorem infoBuilder:(Tryz.prog.info? 136).map (·.size)=some 2:=by kernel_rfl
theorem liesBuilder:liesAt Tryz.prog Tryz.prog.depth 168 (2/Tryz.prog.cellsOf 168) 0 136 1=true:=by kernel_rfl
abbrev Wr (B b:Nat) (bs:List Value) (w:World):Prop:=IsBuilder 168 5 B b bs w
theorem check_any (B b:Nat) (bs:List Value) (w:World) (h:Wr B b bs w):
  Calls Tryz.prog 121 #[.pointer (some ⟨b,0,none⟩)] w fun e w'=>e=.returned (.tuple #[])∧BuilderAt 168 5 B b (.pointer (some ⟨b,0,none⟩)) bs w'∧Below B w w'∧OthersKept 5 (some b) w w':=by
 obtain⟨j,hj,hjs⟩:=Option.map_eq_some_iff.1 infoBuilder
 rcases h with h|h
 ·have h0:=h.cell0
  have hsh:=h.shape
  have hfz:=h.frozen0
  have HH:Hid (BuilderAt 168 5 B b (.pointer none) bs w):=h
  clear h
  go_enter Tryz.func121,Tryz.ntmps121
  go_wp2
  rw[run_to_unsafe w ⟨b,0,none⟩ Tryz.underlying134 Tryz.underlying184 hj (by rw[hjs];decide) hsh (Nat.zero_lt_succ 1)]
  go_simp
  go_wp2
  rw[run_callFunc_extern Tryz.func144 (by kernel_rfl) (by kernel_rfl) (by kernel_rfl) (e:=Extern.AbiNoEscape.same) (by kernel_rfl)]
  rw[run_noEscape]
  go_simp
  go_wp2
  rw[run_from_unsafe w ⟨b,0,none⟩ Tryz.underlying184 Tryz.underlying134 hj hsh liesBuilder]
  go_simp
  go_wp2
  go_end0
  exact⟨rfl,HH.out.used _,(Below.refl B w).setCell (p:=⟨b,0,none⟩) HH.out.1 _,(OthersKept.refl 5 (some b) w).setCell ⟨b,0,none⟩ rfl _⟩
 ·have h0:=h.cell0
  have HH:Hid (BuilderAt 168 5 B b (.pointer (some ⟨b,0,none⟩)) bs w):=h
  clear h
  go_enter Tryz.func121,Tryz.ntmps121
  go_wp2
  rw[run_neq_ptr_same w _ Tryz.underlying134 hj]
  go_wp2
  go_end0
  exact⟨rfl,HH.out,Below.refl B _,OthersKept.refl _ _ _⟩
theorem len_any (B b:Nat) (bs:List Value) (w:World) (h:Wr B b bs w):
  Calls Tryz.prog 96 #[.pointer (some ⟨b,0,none⟩)] w fun e w'=>e=.returned (.int .i64 bs.length)∧w'=w:=by
 obtain⟨p,hB,v,hbk,hown,hne⟩:∃ p,BuilderAt 168 5 B b p bs w:=h.elim (fun h=>⟨_,h⟩) (fun h=>⟨_,h⟩)
 obtain⟨ao,cap,rfl⟩:∃ ao cap,v=.slice ao bs.length cap:=by
  rcases hown.2 with⟨hv,h0⟩|⟨g,cap,cur,hv,_⟩
  ·exact⟨none,0,by rw[hv,h0]⟩
  ·exact⟨_,_,hv⟩
 have c1:w.cell? ⟨b,1,none⟩=some (.slice ao bs.length cap):=by rw[cell_of_heap hbk];rfl
 clear hbk hown hne
 go_enter Tryz.func96,Tryz.ntmps96
 go_wp2
 go_ret
 exact⟨rfl,rfl⟩
theorem neW:(168:TypeId)≠5:=by decide
theorem write_any (B b:Nat) (bs:List Value) (c:Int) (w:World) (h:Wr B b bs w) (hlen:bs.length≤1000) (hBw:B≤w.heap.size):
  Calls Tryz.prog 151 #[.pointer (some ⟨b,0,none⟩),.int .u8 c] w fun e w'=>e=.returned .nilIface∧Wr B b (bs++[.int .u8 c]) w'∧Below B w w'∧OthersKept 5 (some b) w w':=by
 obtain⟨i0,hi,hz0,hz1,hz2⟩:=info_parts Rp.info5
 go_enter Tryz.func151,Tryz.ntmps151
 go_wp2_with (go_at_call 121;refine(check_any B b bs _ h).mono ?_)
 rintro e w1 ⟨rfl,⟨hB,v,hbk,hown,hne⟩,hb1,hk1⟩
 have BK:Hid (w1.heap[b]? =some (.cells #[.pointer (some ⟨b,0,none⟩),v] 168 (0,0))):=hbk
 have c0:w1.cell? ⟨b,0,none⟩=some (.pointer (some ⟨b,0,none⟩)):=by rw[cell_of_heap hbk];rfl
 have c1:w1.cell? ⟨b,1,none⟩=some v:=by rw[cell_of_heap hbk];rfl
 have hlt:b<w1.heap.size:=(Array.getElem?_eq_some_iff.1 hbk).1
 have s1:=hb1.size
 have HO:Hid (w1.ownsRow B 5 1 v bs.length bs):=hown
 have HN:Hid (v.ownBlock≠some b):=hne
 have HB1:Hid (Below B w w1):=hb1
 have HK1:Hid (OthersKept 5 (some b) w w1):=hk1
 clear hbk hown hne hb1 hk1 h
 go_wp2_with (at_builtin;refine wpList_append_own _ rfl _ _ 98 rfl B 5 i0 (.int .u8 0) 1 1 Tryz.underlying98 hi hz0 hz1 hz2 rfl (by decide) _ _ _ rfl (HO.out.alloc _) ⟨w1.heap.size,0,none⟩ 1 1 [.int .u8 c] rfl rfl ?c1 ?c2 ?c3 ?c4 ?c5 ?_)
 case c1=>exact cell_one' _ _ _
 case c2=>intro u hu;simp at hu;subst hu;rfl
 case c3=>unfold maxLen;omega
 case c4=>omega
 case c5=>simp;omega
 intro v' w2 hown' hgrow _
 have KND:∀ g,v.ownBlock=some g→∃ cc fz,(w1.alloc (.cells #[.int .u8 c] 5)).heap[g]? =some (.cells cc 5 fz):=fun g hg=>by
  rcases(HO.out.alloc (.cells #[.int .u8 c] 5)).2 with⟨hv,_⟩|⟨g',cap,cur,hv,_,hh,_⟩
  ·rw[hv] at hg;cases hg
  ·rw[hv] at hg;cases hg;exact⟨_,_,hh⟩
 have X2:w2.heap[b]? =some (.cells #[.pointer (some ⟨b,0,none⟩),v] 168 (0,0)):=by
  rw[hgrow.block b (by simp;omega) (fun e=>HN.out e.symm),alloc_old w1 _ b hlt]
  exact BK.out
 have d0:w2.cell? ⟨b,0,none⟩=some (.pointer (some ⟨b,0,none⟩)):=by rw[cell_of_heap X2];rfl
 have d1:w2.cell? ⟨b,1,none⟩=some v:=by rw[cell_of_heap X2];rfl
 have f1:w2.frozen? ⟨b,1,none⟩=false:=frozen_of_heap X2 1
 obtain⟨g,cap,rfl⟩:∃ g cap,v'=.slice (some ⟨g,0,none⟩) (bs.length+1) cap:=by
  rcases hown'.2 with⟨_,h0⟩|⟨g,cap,cur,hv,_⟩
  ·simp at h0
  ·exact⟨g,cap,hv⟩
 have FW:Hid (Wr B b (bs++[.int .u8 c]) (w2.setCell ⟨b,1,none⟩ (.slice (some ⟨g,0,none⟩) (bs.length+1) cap))):=.inr (BuilderAt.put hB X2 (bs':=bs++[.int .u8 c]) (by simpa using hown') neW)
 have FB:Hid (Below B w (w2.setCell ⟨b,1,none⟩ (.slice (some ⟨g,0,none⟩) (bs.length+1) cap))):=((HB1.out.alloc (by omega) _).grown hgrow (by simp;omega) (fun k hk=>(HO.out.lt k hk).1)).setCell (p:=⟨b,1,none⟩) hB _
 have FK:Hid (OthersKept 5 (some b) w (w2.setCell ⟨b,1,none⟩ (.slice (some ⟨g,0,none⟩) (bs.length+1) cap))):=((HK1.out.alloc _).grown hgrow (fun g hg=>KND g hg)).setCell ⟨b,1,none⟩ rfl _
 clear hown' hgrow KND
 go_wp2
 go_ret
 exact⟨rfl,FW.out,FB.out,FK.out⟩
end Go.Proofs.YtfaflomephjkgaaGreatDoor.Rs
namespace Go.Proofs.YtfaflomephjkgaaGreatDoor.Rp
open Go.RowKit
theorem pad_any (s:ByteArray) (w:World):
  Calls Tryz.prog 90 #[.string s] w fun e w'=>e=.returned (.tuple #[.string (padV s),.int .i64 (padE s)])∧Below w.heap.size w w':=by
 by_cases hs:s.size≤198
 ·have q:¬(198:Int)<(s.size:Int):=by omega
  have HV:Hid (padV s=bodyS s∧padE s=0):=by refine(?_:padV s=bodyS s∧padE s=0);simp[padV,padE,hs]
  have HS:Hid (s.size≤198):=hs
  clear hs
  go_enter Tryz.func90,Tryz.ntmps90
  go_wp2_with fail
  refine(body_any s HS.out w).mono ?_
  rintro e w1 ⟨rfl,b1⟩
  generalize bodyS s=b at*
  go_wp2_with fail
  refine bodyPost_ret (results_tmp2 rfl _ _ _) rfl ?_
  exact⟨by rw[HV.out.1,HV.out.2];rfl,b1⟩
 ·have q:(198:Int)<(s.size:Int):=by omega
  have HV:Hid (padV s=⟨#[]⟩∧padE s=50):=by refine(?_:padV s=⟨#[]⟩∧padE s=50);simp[padV,padE,hs]
  clear hs
  go_enter Tryz.func90,Tryz.ntmps90
  go_wp2_with fail
  refine bodyPost_ret (results_tmp2 rfl _ _ _) rfl ?_
  exact⟨by rw[HV.out.1,HV.out.2];rfl,Below.refl _ _⟩
theorem run_text (b:ByteArray) (n:Nat) (hb:b.size=200) (hn:n≤198) (w:World):(Instr.sliceAt 9 (.string b) (some (.int .i64 2)) (some (.int .i64 (2+(n:Int)))) none).run Tryz.prog w=.ok (.string (b.extract 2 (2+n))) w:=by
 have h1:(2:Int)+(n:Int)≤200:=by omega
 simp[Instr.sliceAt,Instr.slice,run_underlying Tryz.underlying9,go_sem,hb]
 rw[if_pos (by omega),if_pos (by omega),show((2:Int)+(n:Int)).toNat=2+n by omega]
theorem or_bytes (x y:Int) (x0:0≤x) (x1:x<256) (y0:0≤y) (y1:y<256):bits .or .i64 (x*256) y=256*x+y:=by
 obtain⟨a,rfl⟩:=Int.eq_ofNat_of_zero_le x0
 obtain⟨b,rfl⟩:=Int.eq_ofNat_of_zero_le y0
 have e1:(BitVec.ofInt 64 ((a:Int)*256)).toNat=2 ^ 8*a:=by
  rw[show(a:Int)*256=((2 ^ 8*a:Nat):Int) by omega,BitVec.ofInt_natCast,BitVec.toNat_ofNat]
  exact Nat.mod_eq_of_lt (by omega)
 have e2:(BitVec.ofInt 64 (b:Int)).toNat=b:=by
  rw[BitVec.ofInt_natCast,BitVec.toNat_ofNat]
  exact Nat.mod_eq_of_lt (by omega)
 have e3:2 ^ 8*a|||b=2 ^ 8*a+b:=(Nat.two_pow_add_eq_or_of_lt (by omega) a).symm
 show IntKind.i64.wrap ((BitVec.ofInt 64 ((a:Int)*256)|||BitVec.ofInt 64 (b:Int)).toNat:Nat)=_
 rw[BitVec.toNat_or,e1,e2,e3,IntKind.wrap_i64]
 all_goals omega
theorem unpad_any (b:ByteArray) (w:World):
  Calls Tryz.prog 130 #[.string b] w fun e w'=>e=.returned (.tuple #[.string (unV b),.int .i64 (unE b)])∧Below w.heap.size w w':=by
 by_cases hb:b.size=200
 ·have q:(b.size:Int)=200:=by omega
  have HB:Hid (b.size=200):=hb
  have i0:=idx_s b 0 (by omega)
  have i1:=idx_s b 1 (by omega)
  obtain⟨a0,a1⟩:=bt_range b 0
  obtain⟨c0,c1⟩:=bt_range b 1
  have hl:=lenOf_cast b
  obtain⟨x,hx⟩:∃ x,bt b 0=x:=⟨_,rfl⟩
  obtain⟨y,hy⟩:∃ y,bt b 1=y:=⟨_,rfl⟩
  rw[hx] at i0 a0 a1 hl
  rw[hy] at i1 c0 c1 hl
  simp only[Int.natCast_zero,Int.natCast_one] at i0 i1
  have ho:bits .or .i64 (IntKind.i64.wrap (IntKind.i64.wrap x*256)) (IntKind.i64.wrap y)=(lenOf b:Int):=by
   rw[show IntKind.i64.wrap x=x by rw[IntKind.wrap_i64];omega,show IntKind.i64.wrap y=y by rw[IntKind.wrap_i64];omega,show IntKind.i64.wrap (x*256)=x*256 by rw[IntKind.wrap_i64];omega,or_bytes x y a0 a1 c0 c1,hl]
  obtain⟨n,hn⟩:∃ n,lenOf b=n:=⟨_,rfl⟩
  have HN:Hid (lenOf b=n):=hn
  rw[hn] at ho
  have n0:(n:Int)≤65535:=by omega
  clear hb hx hy hl hn
  go_enter Tryz.func130,Tryz.ntmps130
  go_wp2_with fail
  refine wp_region_any (by kernel_rfl) ?_
  change wpAny _ _ _ _ _ _ _ (World.drew _)
  refine plan [0,1,2,3,4,5,6,7] ?_
  iterate 8
   refine tkA (v:=?_) rfl (by kernel_rfl) (fun _ _ _ h=>h) (by kernel_rfl) ?_ ?_
   rotate_left
   ·intro w;go_simp;try with_reducible rfl
   conv in(Act.put _ _ _)=>simp only[List.getElem_toArray,List.getElem_cons_succ,List.getElem_cons_zero,Act.put,List.setIfInBounds_toArray,List.set_cons_succ,List.set_cons_zero]
  refine plan0 ?_
  refine wpAny_ready (rs:=[8]) (by kernel_rfl) (by simp) ?_
  refine(AllReady.cons rfl (fun K hK=>?_) AllReady.nil)
  go_simp
  refine hK _ _ ?_
  clear hK K
  refine wpAny_done (by kernel_rfl) ?_ _
  clear ho a0 a1 c0 c1 i0 i1
  by_cases hn:n≤198
  ·have hn':¬(198:Int)<(n:Int):=by omega
   have ht:=run_text b n HB.out hn
   have HT:Hid (b.extract 2 (2+n)=textOf b):=by refine(?_:b.extract 2 (2+n)=textOf b);unfold textOf;rw[HN.out]
   rw[HT.out] at ht
   have HS:Hid ((textOf b).size≤198):=by refine(?_:(textOf b).size≤198);rw[textOf_size b HB.out (by rw[HN.out];exact hn),HN.out];exact hn
   have HI:Hid (isBody b=decide (bodyS (textOf b)=b)):=by
    refine(?_:isBody b=decide (bodyS (textOf b)=b))
    unfold isBody
    rw[decide_eq_true HB.out,HN.out,decide_eq_true hn];rfl
   obtain⟨t,ht'⟩:∃ t,textOf b=t:=⟨_,rfl⟩
   have HTT:Hid (textOf b=t):=ht'
   rw[ht'] at ht HS HI
   clear hn HT ht'
   go_wp2_with fail
   refine(body_any t HS.out _).mono ?_
   rintro e w1 ⟨rfl,b1⟩
   have B1:Hid (Below w.heap.size w w1):=((Below.refl _ w).drew).trans b1
   obtain⟨z,hz⟩:∃ z,bodyS t=z:=⟨_,rfl⟩
   rw[hz] at HI ⊢
   clear hz b1
   have he:=toList_dec z b
   by_cases hzb:z=b
   ·rw[decide_eq_true hzb] at he
    have HV:Hid (unV b=t∧unE b=0):=by
     refine(?_:unV b=t∧unE b=0)
     have:isBody b=true:=by rw[HI.out,decide_eq_true hzb]
     simp[unV,unE,this,HTT.out]
    clear hzb
    go_wp2_with fail
    refine bodyPost_ret (results_tmp2 rfl _ _ _) rfl ?_
    exact⟨by rw[HV.out.1,HV.out.2];rfl,B1.out⟩
   ·rw[decide_eq_false hzb] at he
    have HV:Hid (unV b=⟨#[]⟩∧unE b=50):=by
     refine(?_:unV b=⟨#[]⟩∧unE b=50)
     have:isBody b=false:=by rw[HI.out,decide_eq_false hzb]
     simp[unV,unE,this]
    clear hzb
    go_wp2_with fail
    refine bodyPost_ret (results_tmp2 rfl _ _ _) rfl ?_
    exact⟨by rw[HV.out.1,HV.out.2];rfl,B1.out⟩
  ·have hn':(198:Int)<(n:Int):=by omega
   have HV:Hid (unV b=⟨#[]⟩∧unE b=50):=by
    refine(?_:unV b=⟨#[]⟩∧unE b=50)
    have:isBody b=false:=by unfold isBody;rw[HN.out,decide_eq_false hn];simp
    simp[unV,unE,this]
   clear hn
   go_wp2_with fail
   refine bodyPost_ret (results_tmp2 rfl _ _ _) rfl ?_
   exact⟨by rw[HV.out.1,HV.out.2];rfl,(Below.refl _ w).drew⟩
 ·have q:¬(b.size:Int)=200:=by omega
  have HV:Hid (unV b=⟨#[]⟩∧unE b=50):=by
   refine(?_:unV b=⟨#[]⟩∧unE b=50)
   have:isBody b=false:=by unfold isBody;rw[decide_eq_false hb];rfl
   simp[unV,unE,this]
  clear hb
  go_enter Tryz.func130,Tryz.ntmps130
  go_wp2_with fail
  refine bodyPost_ret (results_tmp2 rfl _ _ _) rfl ?_
  exact⟨by rw[HV.out.1,HV.out.2];rfl,Below.refl _ _⟩
theorem pad_short (s:ByteArray) (h:s.size≤198):padV s=bodyS s∧padE s=0:=by simp[padV,padE,h]
theorem pad_long (s:ByteArray) (h:¬s.size≤198):padV s=⟨#[]⟩∧padE s=50:=by simp[padV,padE,h]
end Go.Proofs.YtfaflomephjkgaaGreatDoor.Rp
namespace Go.Proofs.YtfaflomephjkgaaGreatDoor.Rs
open Go.RowKit Go.Lib
theorem one_str (W:World) (q:Nat) (x:Int) (h:W.heap[q]? =some (.cells #[.int .u8 x] 5 (0,0))):(convert 98 9 (.slice (some ⟨q,0,none⟩) 1 1)).run Tryz.prog W=.ok (.string (strOfNums [x])) W:=by
 refine run_convert_bytes_arg W 98 5 Tryz.underlying98 Tryz.underlying5 q 0 1 1 [x] rfl (fun i hi=>?_) 9 Tryz.underlying9
 rw[Nat.zero_add,cell_of_row _ _ _ _ _ _ h]
 match i,hi with
 |0,_=>rfl
theorem four_cells {W:World} {p:Nat} {x y z u:Value} {T:TypeId} (h:W.heap[p]? =some (.cells #[x,y,z,u] T (0,0))):
  W.cell? ⟨p,0,none⟩=some x∧W.cell? ⟨p,1,none⟩=some y∧W.cell? ⟨p,2,none⟩=some z∧W.cell? ⟨p,3,none⟩=some u∧W.frozen? ⟨p,0,none⟩=false∧W.frozen? ⟨p,1,none⟩=false∧W.frozen? ⟨p,2,none⟩=false∧W.frozen? ⟨p,3,none⟩=false:=
 ⟨by rw[cell_of_row _ _ _ _ _ _ h];rfl,by rw[cell_of_row _ _ _ _ _ _ h];rfl,by rw[cell_of_row _ _ _ _ _ _ h];rfl,by rw[cell_of_row _ _ _ _ _ _ h];rfl,frozen_of_heap h 0,frozen_of_heap h 1,frozen_of_heap h 2,frozen_of_heap h 3⟩
end Go.Proofs.YtfaflomephjkgaaGreatDoor.Rs
namespace Go.Proofs.YtfaflomephjkgaaGreatDoor.Rp
open Go.RowKit
def sizeOfV:Value→Nat|.string s=>s.size|_=>0
def fillS (s:ByteArray) (k:Nat):ByteArray:=strOfNums (upto (bodyN s) k)
theorem fill_size (s:ByteArray) (k:Nat):(fillS s k).size=k:=by unfold fillS;rw[strOfNums_size,upto_length]
theorem fill_bt (s:ByteArray) (hs:s.size≤198) (k j:Nat) (h:j<k):bt (fillS s k) j=bodyN s j:=by
 have:=bodyN_range s hs j
 exact bt_str _ _ _ h this.1 this.2
theorem fill_more (s:ByteArray) (hs:s.size≤198) (k:Nat) (h:s.size+2≤k):fillS s k++⟨#[0]⟩=fillS s (k+1):=by
 refine bt_same _ _ (by rw[ByteArray.size_append,fill_size,fill_size];rfl) fun j hj=>?_
 rw[ByteArray.size_append,fill_size] at hj
 have hj':j<k+1:=hj
 rw[bt_app,fill_size,fill_bt s hs _ _ hj']
 by_cases e:j<k
 ·rw[if_pos e,fill_bt s hs _ _ e]
 ·obtain rfl:j=k:=by omega
  rw[if_neg e,Nat.sub_self]
  unfold bodyN
  rw[if_neg (by omega),if_neg (by omega),bt_out s _ (by omega)]
  rfl
theorem fill_first (s:ByteArray) (hs:s.size≤198):strOfNums [((s.size/256:Nat):Int),((s.size%256:Nat):Int)]++s=fillS s (s.size+2):=by
 refine bt_same _ _ (by rw[ByteArray.size_append,fill_size,strOfNums_size];simp;omega) fun j hj=>?_
 rw[ByteArray.size_append,strOfNums_size] at hj
 simp only[List.length_cons,List.length_nil] at hj
 rw[bt_app,fill_bt s hs _ _ (by omega),strOfNums_size]
 simp only[List.length_cons,List.length_nil]
 unfold bodyN
 by_cases h0:j=0
 ·subst h0
  rw[if_pos (by omega),if_pos rfl]
  simp[bt,strOfNums];omega
 ·by_cases h1:j=1
  ·subst h1
   rw[if_pos (by omega),if_neg (by omega),if_pos rfl]
   simp[bt,strOfNums];omega
  ·rw[if_neg (by omega),if_neg (by omega),if_neg (by omega)]
theorem refPad_any (s:ByteArray) (w:World):
  Calls Tryz.prog 100 #[.string s] w fun e w'=>e=.returned (.tuple #[.string (padV s),.int .i64 (padE s)])∧Below w.heap.size w w':=by
 by_cases hs:s.size≤198
 ·have q:¬(198:Int)<(s.size:Int):=by omega
  have HV:Hid (padV s=bodyS s∧padE s=0):=by refine(?_:padV s=bodyS s∧padE s=0);simp[padV,padE,hs]
  have HS:Hid (s.size≤198):=hs
  have hcv:(convert 98 9 (.slice (some ⟨w.heap.size,0,none⟩) 2 2)).run Tryz.prog (w.alloc (.cells #[.int .u8 ((s.size:Int)/256),.int .u8 ((s.size:Int)%256)] 5))=.ok (.string (strOfNums [((s.size/256:Nat):Int),((s.size%256:Nat):Int)])) (w.alloc (.cells #[.int .u8 ((s.size:Int)/256),.int .u8 ((s.size:Int)%256)] 5)):=by
   refine run_convert_bytes_arg _ 98 5 Tryz.underlying98 Tryz.underlying5 w.heap.size 0 2 2 _ rfl (fun i hi=>?_) 9 Tryz.underlying9
   rw[cell_of_row _ _ _ _ _ _ (heap_alloc_new w _),Nat.zero_add]
   match i,hi with
   |0,_=>rfl
   |1,_=>rfl
  have H1:Hid (strOfNums [((s.size/256:Nat):Int),((s.size%256:Nat):Int)]++s=fillS s (s.size+2)):=fill_first s hs
  have hz:(strOfNums [((s.size/256:Nat):Int),((s.size%256:Nat):Int)]).size=2:=by rw[strOfNums_size];rfl
  generalize strOfNums [((s.size/256:Nat):Int),((s.size%256:Nat):Int)]=u at*
  go_enter Tryz.func100,Tryz.ntmps100
  go_wp2_with fail
  rw[H1.out]
  clear hcv H1 hz
  go_loopw [4] (fun v wr=>∃ k:Nat,s.size+2≤k∧k≤200∧v=.string (fillS s k)∧Below w.heap.size w wr) (fun v _=>200 - sizeOfV v)
  case atStart=>exact⟨s.size+2,by omega,by omega,rfl,below_new w _⟩
  case round=>
   obtain⟨k,hk1,hk2,rfl,hb⟩:=hrel
   have HB:Hid (Below w.heap.size w wr):=hb
   have hz:=fill_size s k
   have HM:Hid (fillS s k++⟨#[0]⟩=fillS s (k+1)):=fill_more s HS.out k hk1
   have HK:Hid (s.size+2≤k):=hk1
   obtain⟨f,hf⟩:∃ f,fillS s k=f:=⟨_,rfl⟩
   have HF:Hid (fillS s k=f):=hf
   rw[hf] at hz HM ⊢
   clear hb hf hk1
   by_cases hlt:k<200
   ·have q1:(f.size:Int)<200:=by omega
    go_wp2_with fail
    go_roundw
    case rel=>exact⟨k+1,by have:=HK.out;omega,by omega,by rw[←HM.out],HB.out⟩
    case measure=>rw[HM.out];simp only[sizeOfV,fill_size,hz];omega
   ·obtain rfl:k=200:=by omega
    have q1:¬(f.size:Int)<200:=by omega
    clear hlt
    go_wp2_with fail
    refine bodyPost_ret (results_tmp2 rfl _ _ _) rfl ?_
    exact⟨by rw[HV.out.1,HV.out.2,←HF.out];rfl,HB.out⟩
 ·have q:(198:Int)<(s.size:Int):=by omega
  have HV:Hid (padV s=⟨#[]⟩∧padE s=50):=by refine(?_:padV s=⟨#[]⟩∧padE s=50);simp[padV,padE,hs]
  clear hs
  go_enter Tryz.func100,Tryz.ntmps100
  go_wp2_with fail
  refine bodyPost_ret (results_tmp2 rfl _ _ _) rfl ?_
  exact⟨by rw[HV.out.1,HV.out.2];rfl,Below.refl _ _⟩
theorem refUnpad_any (b:ByteArray) (w:World):
  Calls Tryz.prog 111 #[.string b] w fun e w'=>e=.returned (.tuple #[.string (unV b),.int .i64 (unE b)])∧Below w.heap.size w w':=by
 by_cases hb:b.size=200
 ·have q:(b.size:Int)=200:=by omega
  have HB:Hid (b.size=200):=hb
  have i0:=idx_s b 0 (by omega)
  have i1:=idx_s b 1 (by omega)
  obtain⟨a0,a1⟩:=bt_range b 0
  obtain⟨c0,c1⟩:=bt_range b 1
  have hl:=lenOf_cast b
  obtain⟨x,hx⟩:∃ x,bt b 0=x:=⟨_,rfl⟩
  obtain⟨y,hy⟩:∃ y,bt b 1=y:=⟨_,rfl⟩
  rw[hx] at i0 a0 a1 hl
  rw[hy] at i1 c0 c1 hl
  simp only[Int.natCast_zero,Int.natCast_one] at i0 i1
  have ho:IntKind.i64.wrap (IntKind.i64.wrap (256*IntKind.i64.wrap x)+IntKind.i64.wrap y)=(lenOf b:Int):=by
   rw[show IntKind.i64.wrap x=x by rw[IntKind.wrap_i64];omega,show IntKind.i64.wrap y=y by rw[IntKind.wrap_i64];omega,show IntKind.i64.wrap (256*x)=256*x by rw[IntKind.wrap_i64];omega,IntKind.wrap_i64,hl]
   omega
  obtain⟨n,hn⟩:∃ n,lenOf b=n:=⟨_,rfl⟩
  have HN:Hid (lenOf b=n):=hn
  rw[hn] at ho
  have n0:(n:Int)≤65535:=by omega
  clear hb hx hy hl hn
  go_enter Tryz.func111,Tryz.ntmps111
  go_wp2_with fail
  refine wp_region_any (by kernel_rfl) ?_
  change wpAny _ _ _ _ _ _ _ (World.drew _)
  refine plan [0,1,2,3,4,5,6,7] ?_
  iterate 8
   refine tkA (v:=?_) rfl (by kernel_rfl) (fun _ _ _ h=>h) (by kernel_rfl) ?_ ?_
   rotate_left
   ·intro w;go_simp;try with_reducible rfl
   conv in(Act.put _ _ _)=>simp only[List.getElem_toArray,List.getElem_cons_succ,List.getElem_cons_zero,Act.put,List.setIfInBounds_toArray,List.set_cons_succ,List.set_cons_zero]
  refine plan0 ?_
  refine wpAny_ready (rs:=[8]) (by kernel_rfl) (by simp) ?_
  refine(AllReady.cons rfl (fun K hK=>?_) AllReady.nil)
  go_simp
  refine hK _ _ ?_
  clear hK K
  refine wpAny_done (by kernel_rfl) ?_ _
  clear ho a0 a1 c0 c1 i0 i1
  by_cases hn:n≤198
  ·have hn':¬(198:Int)<(n:Int):=by omega
   have ht:=run_text b n HB.out hn
   have HT:Hid (b.extract 2 (2+n)=textOf b):=by refine(?_:b.extract 2 (2+n)=textOf b);unfold textOf;rw[HN.out]
   rw[HT.out] at ht
   have HI:Hid (isBody b=true↔∀ i,2+n≤i→i<200→bt b i=0):=by
    have:=isBody_rest b HB.out (by rw[HN.out];exact hn)
    rw[HN.out] at this
    exact this
   have HNN:Hid (n≤198):=hn
   clear HT
   go_wp2_with fail
   go_loopw [5] (fun i wr=>∃ k:Nat,2+n≤k∧k≤200∧i=.int .i64 (k:Int)∧(∀ i,2+n≤i→i<k→bt b i=0)∧Below w.heap.size w wr) (fun i _=>200 - natOf i)
   case atStart=>exact⟨2+n,by omega,by omega,by go_num,fun i h1 h2=>by omega,(Below.refl _ _).drew⟩
   case round=>
    obtain⟨k,hk1,hk2,rfl,hz,hbe⟩:=hrel
    have HZ:Hid (∀ i,2+n≤i→i<k→bt b i=0):=hz
    have HBe:Hid (Below w.heap.size w wr):=hbe
    clear hz hbe
    by_cases hlt:k<200
    ·have g0:(k:Int)<200:=by omega
     have g1:(0:Int)≤(k:Int):=by omega
     have hix:=idx_s b k (by have:=HB.out;omega)
     obtain⟨z,hz⟩:∃ z,bt b k=z:=⟨_,rfl⟩
     have HX:Hid (bt b k=z):=hz
     rw[hz] at hix
     clear hz
     by_cases hz:z=0
     ·subst hz
      go_wp2_with fail
      go_roundw
      case rel=>
       refine⟨k+1,by omega,by omega,by go_num,fun i h1 h2=>?_,HBe.out⟩
       by_cases e:i=k
       ·rw[e];exact HX.out
       ·exact HZ.out i h1 (by omega)
      case measure=>simp[natOf];omega
     ·have HV:Hid (unV b=⟨#[]⟩∧unE b=50):=by
       refine(?_:unV b=⟨#[]⟩∧unE b=50)
       have:isBody b=false:=by
        cases e:isBody b
        ·rfl
        ·exact absurd (HX.out.symm.trans (HI.out.1 e k hk1 hlt)) hz
       simp[unV,unE,this]
      go_wp2_with fail
      refine bodyPost_ret (results_tmp2 rfl _ _ _) rfl ?_
      exact⟨by rw[HV.out.1,HV.out.2];rfl,HBe.out⟩
    ·obtain rfl:k=200:=by omega
     have HV:Hid (unV b=textOf b∧unE b=0):=by
      refine(?_:unV b=textOf b∧unE b=0)
      have:isBody b=true:=HI.out.2 HZ.out
      simp[unV,unE,this]
     clear hlt
     go_wp2_with fail
     refine bodyPost_ret (results_tmp2 rfl _ _ _) rfl ?_
     exact⟨by rw[HV.out.1,HV.out.2];rfl,HBe.out⟩
  ·have hn':(198:Int)<(n:Int):=by omega
   have HV:Hid (unV b=⟨#[]⟩∧unE b=50):=by
    refine(?_:unV b=⟨#[]⟩∧unE b=50)
    have:isBody b=false:=by unfold isBody;rw[HN.out,decide_eq_false hn];simp
    simp[unV,unE,this]
   clear hn
   go_wp2_with fail
   refine bodyPost_ret (results_tmp2 rfl _ _ _) rfl ?_
   exact⟨by rw[HV.out.1,HV.out.2];rfl,(Below.refl _ w).drew⟩
 ·have q:¬(b.size:Int)=200:=by omega
  have HV:Hid (unV b=⟨#[]⟩∧unE b=50):=by
   refine(?_:unV b=⟨#[]⟩∧unE b=50)
   have:isBody b=false:=by unfold isBody;rw[decide_eq_false hb];rfl
   simp[unV,unE,this]
  clear hb
  go_enter Tryz.func111,Tryz.ntmps111
  go_wp2_with fail
  refine bodyPost_ret (results_tmp2 rfl _ _ _) rfl ?_
  exact⟨by rw[HV.out.1,HV.out.2];rfl,Below.refl _ _⟩
end Go.Proofs.YtfaflomephjkgaaGreatDoor.Rp
