/- pad.body: a text's body. -/
import Derived.Test.YtokfnghckpgjmaaGreatDoorPPo
import Derived.Test.YtokfnghckpgjmaaGreatDoorPPk
import Derived.Test.YtokfnghckpgjmaaGreatDoorQYA
import Derived.Deep.OwnRows
import Derived.Test.YtokfnghckpgjmaaGreatDoorPPl
set_option maxRecDepth 100000
set_option maxHeartbeats 2000000
namespace Go.Proofs.YtokfnghckpgjmaaGreatDoor
namespace Rp
open Go.RowKit
def bu:Value→Nat|.int _ x=>x.toNat|_=>0
theorem info5:(Tryz.prog.info? 5).map (fun i=>(i.zero,i.size,i.bytes))=some (some (.int .u8 0),1,1):=uk
theorem lO (s:ByteArray) (p:Nat) (b:p<s.size) (w:World):(Instr.index 9 (.string s) (.int .i64 (p:Int))).run Tryz.prog w=.ok (.int .u8 (bt s p)) w:=by
 simp[Instr.index,run_underlying Tryz.underlying9,go_sem,b];unfold bt;rw[Array.getElem?_eq_getElem (by exact b)];rfl
theorem gu (w:World) (b i:Nat) (cs:Array Value) (T:TypeId) (fr:Nat × Nat) (v:Value) (hb:w.heap[b]? =some (.cells cs T fr)):(w.setCell ⟨b,i,none⟩ v).heap[b]? =some (.cells (cs.setIfInBounds i v) T fr):=by
 rw[setCell_eq_setRow w b i cs T fr v hb];exact setRow_heap w b cs _ T _ hb
theorem zhP (s:ByteArray) (hs:s.size≤198) (w:World):
  Calls Tryz.prog 176 #[.string s] w fun e w'=>e=.returned (.string (ef s))∧Below w.heap.size w w':=by
 have hmk:∀ w:World,(Instr.makeSlice 140 (.int .i64 200) (.int .i64 200)).run Tryz.prog w=.ok (.slice (some ⟨w.heap.size,0,none⟩) 200 200) (w.alloc (.cells (madeCells #[.int .u8 0] 200) 5)):=fun w=>
  run_make_row' 140 5 (.int .u8 0) 1 Tryz.underlying140 info5 rfl .i64 .i64 200 ud ud w
 have hcs:∀ j,j<200→(madeCells #[Value.int .u8 0] 200)[j]? =some (.int .u8 0):=fun j hj=>by
  simp[madeCells,hj,Nat.mod_one]
 obtain⟨cs,hc⟩:∃ cs,madeCells #[Value.int .u8 0] 200=cs:=⟨_,rfl⟩;rw[hc] at hmk hcs;clear hc;have HC:Hid (∀ j,j<200→cs[j]? =some (.int .u8 0)):=hcs;have k0:=hcs 0 uo;have k1:=hcs 1 uo;have k2:(cs.setIfInBounds 0 (.int .u8 ((s.size:Int)/256)))[1]? =some (.int .u8 0):=by rw[Array.getElem?_setIfInBounds_ne uo];exact k1
 clear hcs k1;go_enter Tryz.func176,Tryz.ntmps176;go_wp2_with fail
 have D0:Hid (∀ j,j<200→((cs.setIfInBounds 0 (.int .u8 ((s.size:Int)/256))).setIfInBounds 1 (.int .u8 (s.size:Int)))[j]? =some (.int .u8 (if j<0+2 then jF s j else 0))):=fun j hj=>by
  have hz:200≤cs.size:=by
   have:=(zi (HC.o 199 uo)).1;omega
  by_cases h1:j=1
  ·subst h1
   rw[Array.getElem?_setIfInBounds_self_of_lt (by rw[Array.size_setIfInBounds];omega),if_pos uo];simp only[jF,if_true,if_false,Nat.one_ne_zero]
   congr 2;omega
  ·rw[Array.getElem?_setIfInBounds_ne (fun h=>h1 h.symm)]
   by_cases h0:j=0
   ·subst h0
    rw[Array.getElem?_setIfInBounds_self_of_lt uo,if_pos uo];simp only[jF,if_true]
    congr 2
   ·rw[Array.getElem?_setIfInBounds_ne (fun h=>h0 h.symm),HC.o j hj,if_neg uo]
 generalize (cs.setIfInBounds 0 (.int .u8 ((s.size:Int)/256))).setIfInBounds 1 (.int .u8 (s.size:Int))=es at*
 clear k0 k2 HC hmk
 go_loopw [19] (fun i wr=>∃ (k:Nat) (ds:Array Value),k≤s.size∧i=.int .i64 (k:Int)∧wr.heap[w.heap.size]? =some (.cells ds 5 (0,0))∧(∀ j,j<200→ds[j]? =some (.int .u8 (if j<k+2 then jF s j else 0)))∧Below w.heap.size w wr) (fun i _=>s.size - bu i)
 case atStart=>exact⟨0,es,by omega,rfl,zq w _,D0.o,bF w _⟩
 case round=>
  clear D0;obtain⟨k,ds,hk,rfl,hrow,hds,hbe⟩:=hrel;have RX:Hid (wr.heap[w.heap.size]? =some (.cells ds 5 (0,0))):=hrow;have DX:Hid (∀ j,j<200→ds[j]? =some (.int .u8 (if j<k+2 then jF s j else 0))):=hds;have BX:Hid (Below w.heap.size w wr):=hbe;clear hds hbe;by_cases hlt:k<s.size
  ·have c1:wr.cell? ⟨w.heap.size,k+2,none⟩=some (.int .u8 0):=by rw[zr hrow,DX.o (k+2) uo];simp
   have c2:wr.cell? ⟨w.heap.size,2+k,none⟩=some (.int .u8 0):=by rw[Nat.add_comm];exact c1
   have hz:wr.frozen? ⟨w.heap.size,2+k,none⟩=false:=frozen_of_row wr _ _ _ _ hrow;have g0:(0:Int)≤(k:Int):=uo
   have g1:(k:Int)<(s.size:Int):=uo
   have g2:(k:Int)<198:=uo
   have hix:=lO s k hlt;obtain⟨x,hx⟩:∃ x,bt s k=x:=⟨_,rfl⟩;have HX:Hid (bt s k=x):=hx;rw[hx] at hix;clear hrow hx c1;go_wp2_with fail
   go_roundw
   case rel=>
    refine⟨k+1,ds.setIfInBounds (2+k) (.int .u8 x),hlt,by go_num,gu _ _ _ _ _ _ _ RX.o,fun j hj=>?_,BX.o.setCell zn _⟩;by_cases e:j=2+k
    ·subst e
     rw[Array.getElem?_setIfInBounds_self_of_lt (by have:=DX.o _ hj;exact(zi this).1),if_pos uo];unfold jF;rw[if_neg uo,if_neg uo,show 2+k - 2=k by omega,HX.o]
    ·rw[Array.getElem?_setIfInBounds_ne (fun h=>e h.symm),DX.o j hj]
     by_cases h2:j<k+2
     ·rw[if_pos h2,if_pos uo]
     ·rw[if_neg h2,if_neg uo]
   case measure=>simp[bu];omega
  ·obtain rfl:k=s.size:=uo
   have a0:¬(s.size:Int)<(s.size:Int):=uo
   have hcb:(convert 140 9 (.slice (some ⟨w.heap.size,0,none⟩) 200 200)).run Tryz.prog wr=.ok (.string (ef s)) wr:=by
    unfold ef;refine run_convert_bytes_arg wr 140 5 Tryz.underlying140 Tryz.underlying5 w.heap.size 0 200 200 _ (by rw[fZ]) (fun i hi=>?_) 9 Tryz.underlying9;rw[Nat.zero_add,zr hrow,DX.o i hi,zl1 _ _ _ hi];by_cases h2:i<s.size+2
    ·rw[if_pos h2]
    ·rw[if_neg h2]
     unfold jF;rw[if_neg uo,if_neg uo,rM _ _ uo]
   clear hrow;go_wp2_with fail;go_ret;exact⟨rfl,BX.o⟩
end Rp
namespace Rs
open Go.RowKit Go.Lib
theorem zjZ (W:World) (v:Value) (t:TypeId):∀ j u,[v][j]? =some u→(W.alloc (.cells #[v] t)).cell? ((⟨W.heap.size,0,none⟩:Addr).add j)=some u:=by
 intro j u hj
 match j,hj with
 |0,hj=>simp at hj;subst hj;simp[Addr.add]
theorem zgP:(Tryz.prog.info? 223).map (·.size)=some 2:=uk
theorem liesBuilder:liesAt Tryz.prog Tryz.prog.depth 284 (2/Tryz.prog.cellsOf 284) 0 223 1=true:=uk
abbrev Wr (B b:Nat) (bs:List Value) (w:World):Prop:=IsBuilder 284 5 B b bs w
theorem zj0 (B b:Nat) (bs:List Value) (w:World) (h:Wr B b bs w):
  Calls Tryz.prog 193 #[.pointer (some ⟨b,0,none⟩)] w fun e w'=>e=.returned (.tuple #[])∧BuilderAt 284 5 B b (.pointer (some ⟨b,0,none⟩)) bs w'∧Below B w w'∧OthersKept 5 (some b) w w':=by
 obtain⟨j,hj,hjs⟩:=Option.map_eq_some_iff.1 zgP;rcases h with h|h
 ·have h0:=h.cell0
  have hsh:=h.shape;have hfz:=h.frozen0;have HH:Hid (BuilderAt 284 5 B b (.pointer none) bs w):=h;clear h;go_enter Tryz.func193,Tryz.ntmps193
  go_wp2
  rw[run_to_unsafe w ⟨b,0,none⟩ Tryz.underlying221 Tryz.underlying296 hj (by rw[hjs];decide) hsh (Nat.zero_lt_succ 1)];go_simp
  go_wp2
  rw[run_callFunc_extern Tryz.func228 uk uk uk (e:=Extern.AbiNoEscape.same) uk];rw[run_noEscape];go_simp
  go_wp2
  rw[run_from_unsafe w ⟨b,0,none⟩ Tryz.underlying296 Tryz.underlying221 hj hsh liesBuilder];go_simp
  go_wp2
  go_end0
  exact⟨rfl,HH.o.used _,(Below.refl B w).setCell (p:=⟨b,0,none⟩) HH.o.1 _,(OthersKept.refl 5 (some b) w).setCell ⟨b,0,none⟩ rfl _⟩
 ·have h0:=h.cell0
  have HH:Hid (BuilderAt 284 5 B b (.pointer (some ⟨b,0,none⟩)) bs w):=h;clear h;go_enter Tryz.func193,Tryz.ntmps193
  go_wp2
  rw[run_neq_ptr_same w _ Tryz.underlying221 hj]
  go_wp2
  go_end0
  exact⟨rfl,HH.o,Below.refl B _,OthersKept.refl _ _ _⟩
theorem zj1 (B b:Nat) (bs:List Value) (w:World) (h:Wr B b bs w):
  Calls Tryz.prog 152 #[.pointer (some ⟨b,0,none⟩)] w fun e w'=>e=.returned (.int .i64 bs.length)∧w'=w:=by
 obtain⟨p,hB,v,hbk,hown,hne⟩:∃ p,BuilderAt 284 5 B b p bs w:=h.elim (fun h=>⟨_,h⟩) (fun h=>⟨_,h⟩)
 obtain⟨ao,cap,rfl⟩:∃ ao cap,v=.slice ao bs.length cap:=by
  rcases hown.2 with⟨hv,h0⟩|⟨g,cap,cur,hv,_⟩
  ·exact⟨none,0,by rw[hv,h0]⟩
  ·exact⟨_,_,hv⟩
 have c1:w.cell? ⟨b,1,none⟩=some (.slice ao bs.length cap):=by rw[cell_of_heap hbk];rfl
 clear hbk hown hne;go_enter Tryz.func152,Tryz.ntmps152
 go_wp2
 go_ret;exact⟨rfl,rfl⟩
theorem neW:(284:TypeId)≠5:=by decide
theorem oK (B b:Nat) (bs:List Value) (c:Int) (w:World) (h:Wr B b bs w) (hlen:bs.length≤1000) (hBw:B≤w.heap.size):
  Calls Tryz.prog 246 #[.pointer (some ⟨b,0,none⟩),.int .u8 c] w fun e w'=>e=.returned .nilIface∧Wr B b (bs++[.int .u8 c]) w'∧Below B w w'∧OthersKept 5 (some b) w w':=by
 obtain⟨i0,hi,hz0,hz1,hz2⟩:=info_parts Rp.info5;go_enter Tryz.func246,Tryz.ntmps246
 go_wp2_with (go_at_call 193;refine(zj0 B b bs _ h).mono ?_)
 rintro e w1 ⟨rfl,⟨hB,v,hbk,hown,hne⟩,hb1,hk1⟩;have BK:Hid (w1.heap[b]? =some (.cells #[.pointer (some ⟨b,0,none⟩),v] 284 (0,0))):=hbk;have c0:w1.cell? ⟨b,0,none⟩=some (.pointer (some ⟨b,0,none⟩)):=by rw[cell_of_heap hbk];rfl
 have c1:w1.cell? ⟨b,1,none⟩=some v:=by rw[cell_of_heap hbk];rfl
 have hlt:b<w1.heap.size:=(zi hbk).1;have s1:=hb1.size;have HO:Hid (w1.ownsRow B 5 1 v bs.length bs):=hown;have HN:Hid (v.ownBlock≠some b):=hne;have HB1:Hid (Below B w w1):=hb1;have HK1:Hid (OthersKept 5 (some b) w w1):=hk1;clear hbk hown hne hb1 hk1 h
 go_wp2_with (at_builtin;refine wpList_append_own _ rfl _ _ 140 rfl B 5 i0 (.int .u8 0) 1 1 Tryz.underlying140 hi hz0 hz1 hz2 rfl ud _ _ _ rfl (HO.o.alloc _) ⟨w1.heap.size,0,none⟩ 1 1 [.int .u8 c] rfl rfl ?c1 ?c2 ?c3 ?c4 ?c5 ?_)
 case c1=>exact zjZ _ _ _
 case c2=>intro u hu;simp at hu;subst hu;rfl
 case c3=>unfold maxLen;omega
 case c4=>omega
 case c5=>simp;omega
 intro v' w2 hown' hgrow _
 have KND:∀ g,v.ownBlock=some g→∃ cc fz,(w1.alloc (.cells #[.int .u8 c] 5)).heap[g]? =some (.cells cc 5 fz):=fun g hg=>by
  rcases(HO.o.alloc (.cells #[.int .u8 c] 5)).2 with⟨hv,_⟩|⟨g',cap,cur,hv,_,hh,_⟩
  ·rw[hv] at hg;cases hg
  ·rw[hv] at hg;cases hg;exact⟨_,_,hh⟩
 have X2:w2.heap[b]? =some (.cells #[.pointer (some ⟨b,0,none⟩),v] 284 (0,0)):=by
  rw[hgrow.block b (by simp;omega) (fun e=>HN.o e.symm),alloc_old w1 _ b hlt];exact BK.o
 have d0:w2.cell? ⟨b,0,none⟩=some (.pointer (some ⟨b,0,none⟩)):=by rw[cell_of_heap X2];rfl
 have d1:w2.cell? ⟨b,1,none⟩=some v:=by rw[cell_of_heap X2];rfl
 have f1:w2.frozen? ⟨b,1,none⟩=false:=frozen_of_heap X2 1
 obtain⟨g,cap,rfl⟩:∃ g cap,v'=.slice (some ⟨g,0,none⟩) (bs.length+1) cap:=by
  rcases hown'.2 with⟨_,h0⟩|⟨g,cap,cur,hv,_⟩
  ·simp at h0
  ·exact⟨g,cap,hv⟩
 have FW:Hid (Wr B b (bs++[.int .u8 c]) (w2.setCell ⟨b,1,none⟩ (.slice (some ⟨g,0,none⟩) (bs.length+1) cap))):=.inr (BuilderAt.put hB X2 (bs':=bs++[.int .u8 c]) (by simpa using hown') neW);have FB:Hid (Below B w (w2.setCell ⟨b,1,none⟩ (.slice (some ⟨g,0,none⟩) (bs.length+1) cap))):=((HB1.o.alloc uo _).grown hgrow (by simp;omega) (fun k hk=>(HO.o.lt k hk).1)).setCell (p:=⟨b,1,none⟩) hB _;have FK:Hid (OthersKept 5 (some b) w (w2.setCell ⟨b,1,none⟩ (.slice (some ⟨g,0,none⟩) (bs.length+1) cap))):=((HK1.o.alloc _).grown hgrow (fun g hg=>KND g hg)).setCell ⟨b,1,none⟩ rfl _;clear hown' hgrow KND
 go_wp2
 go_ret;exact⟨rfl,FW.o,FB.o,FK.o⟩
end Rs
namespace Rp
open Go.RowKit
theorem zn6 (s:ByteArray) (w:World):
  Calls Tryz.prog 137 #[.string s] w fun e w'=>e=.returned (.tuple #[.string (fd s),.int .i64 (eh s)])∧Below w.heap.size w w':=by
 by_cases hs:s.size≤198
 ·have q:¬(198:Int)<(s.size:Int):=uo
  have HV:Hid (fd s=ef s∧eh s=0):=by refine(?_:fd s=ef s∧eh s=0);simp[fd,eh,hs]
  have HS:Hid (s.size≤198):=hs;clear hs;go_enter Tryz.func137,Tryz.ntmps137;go_wp2_with fail;refine um (zhP s HS.o w) fun w1 b1=>?_;generalize ef s=b at*
  go_wp2_with fail;refine bodyPost_ret (results_tmp2 rfl _ _ _) rfl ?_;exact⟨by rw[HV.o.1,HV.o.2];rfl,b1⟩
 ·have q:(198:Int)<(s.size:Int):=uo
  have HV:Hid (fd s=⟨#[]⟩∧eh s=50):=by refine(?_:fd s=⟨#[]⟩∧eh s=50);simp[fd,eh,hs]
  clear hs;go_enter Tryz.func137,Tryz.ntmps137;go_wp2_with fail;refine bodyPost_ret (results_tmp2 rfl _ _ _) rfl ?_;exact⟨by rw[HV.o.1,HV.o.2];rfl,Below.refl _ _⟩
theorem run_text (b:ByteArray) (n:Nat) (hb:b.size=200) (hn:n≤198) (w:World):(Instr.sliceAt 9 (.string b) (some (.int .i64 2)) (some (.int .i64 (2+(n:Int)))) none).run Tryz.prog w=.ok (.string (b.extract 2 (2+n))) w:=by
 have h1:(2:Int)+(n:Int)≤200:=uo
 simp[Instr.sliceAt,Instr.slice,run_underlying Tryz.underlying9,go_sem,hb];rw[if_pos uo,if_pos uo,show((2:Int)+(n:Int)).toNat=2+n by omega]
theorem zma (x y:Int) (x0:0≤x) (x1:x<256) (y0:0≤y) (y1:y<256):bits .or .i64 (x*256) y=256*x+y:=by
 obtain⟨a,rfl⟩:=Int.eq_ofNat_of_zero_le x0;obtain⟨b,rfl⟩:=Int.eq_ofNat_of_zero_le y0
 have e1:(BitVec.ofInt 64 ((a:Int)*256)).toNat=2 ^ 8*a:=by
  rw[show(a:Int)*256=((2 ^ 8*a:Nat):Int) by omega,BitVec.ofInt_natCast,BitVec.toNat_ofNat];exact Nat.mod_eq_of_lt uo
 have e2:(BitVec.ofInt 64 (b:Int)).toNat=b:=by
  rw[BitVec.ofInt_natCast,BitVec.toNat_ofNat];exact Nat.mod_eq_of_lt uo
 have e3:2 ^ 8*a|||b=2 ^ 8*a+b:=(Nat.two_pow_add_eq_or_of_lt uo a).symm
 show IntKind.i64.wrap ((BitVec.ofInt 64 ((a:Int)*256)|||BitVec.ofInt 64 (b:Int)).toNat:Nat)=_;rw[BitVec.toNat_or,e1,e2,e3,IntKind.wrap_i64]
 all_goals omega
theorem zj2 (b:ByteArray) (w:World):
  Calls Tryz.prog 261 #[.string b] w fun e w'=>e=.returned (.tuple #[.string (gx b),.int .i64 (gY b)])∧Below w.heap.size w w':=by
 by_cases hb:b.size=200
 ·have q:(b.size:Int)=200:=uo
  have HB:Hid (b.size=200):=hb;have i0:=lO b 0 uo;have i1:=lO b 1 uo;obtain⟨a0,a1⟩:=iW b 0;obtain⟨c0,c1⟩:=iW b 1;have hl:=zeq b;obtain⟨x,hx⟩:∃ x,bt b 0=x:=⟨_,rfl⟩;obtain⟨y,hy⟩:∃ y,bt b 1=y:=⟨_,rfl⟩;rw[hx] at i0 a0 a1 hl;rw[hy] at i1 c0 c1 hl;simp only[Int.natCast_zero,Int.natCast_one] at i0 i1
  have ho:bits .or .i64 (IntKind.i64.wrap (IntKind.i64.wrap x*256)) (IntKind.i64.wrap y)=(lenOf b:Int):=by
   rw[show IntKind.i64.wrap x=x by rw[IntKind.wrap_i64];omega,show IntKind.i64.wrap y=y by rw[IntKind.wrap_i64];omega,show IntKind.i64.wrap (x*256)=x*256 by rw[IntKind.wrap_i64];omega,zma x y a0 a1 c0 c1,hl]
  obtain⟨n,hn⟩:∃ n,lenOf b=n:=⟨_,rfl⟩;have HN:Hid (lenOf b=n):=hn;rw[hn] at ho;have n0:(n:Int)≤65535:=uo
  clear hb hx hy hl hn;go_enter Tryz.func261,Tryz.ntmps261;go_wp2_with fail;refine wp_region_any uk ?_;change wpAny _ _ _ _ _ _ _ (World.drew _);refine bB [0,1,2,3,4,5,6,7] ?_
  iterate 8
   refine fS (v:=?_) rfl ?_ ?_;rotate_left
   ·intro w;go_simp;try with_reducible rfl
   conv in(Act.put _ _ _)=>simp only[bH,bI,bJ,Act.put,bK,bL,bM]
  refine bA ?_;refine wpAny_ready (rs:=[8]) uk us ?_;refine(AllReady.cons rfl (fun K hK=>?_) AllReady.nil);go_simp;refine hK _ _ ?_;clear hK K;refine wpAny_done uk ?_ _;clear ho a0 a1 c0 c1 i0 i1;by_cases hn:n≤198
  ·have hn':¬(198:Int)<(n:Int):=uo
   have ht:=run_text b n HB.o hn;have HT:Hid (b.extract 2 (2+n)=textOf b):=by refine(?_:b.extract 2 (2+n)=textOf b);unfold textOf;rw[HN.o]
   rw[HT.o] at ht;have HS:Hid ((textOf b).size≤198):=by refine(?_:(textOf b).size≤198);rw[textOf_size b HB.o (by rw[HN.o];exact hn),HN.o];exact hn
   have HI:Hid (ig b=decide (ef (textOf b)=b)):=by
    refine(?_:ig b=decide (ef (textOf b)=b));unfold ig;rw[decide_eq_true HB.o,HN.o,decide_eq_true hn];rfl
   obtain⟨t,ht'⟩:∃ t,textOf b=t:=⟨_,rfl⟩;have HTT:Hid (textOf b=t):=ht';rw[ht'] at ht HS HI;clear hn HT ht';go_wp2_with fail;refine um (zhP t HS.o _) fun w1 b1=>?_;have B1:Hid (Below w.heap.size w w1):=((Below.refl _ w).drew).trans b1;obtain⟨z,hz⟩:∃ z,ef t=z:=⟨_,rfl⟩;rw[hz] at HI ⊢;clear hz b1;have he:=nM z b;by_cases hzb:z=b
   ·rw[decide_eq_true hzb] at he
    have HV:Hid (gx b=t∧gY b=0):=by
     refine(?_:gx b=t∧gY b=0);have:ig b=true:=by rw[HI.o,decide_eq_true hzb]
     simp[gx,gY,this,HTT.o]
    clear hzb;go_wp2_with fail;refine bodyPost_ret (results_tmp2 rfl _ _ _) rfl ?_;exact⟨by rw[HV.o.1,HV.o.2];rfl,B1.o⟩
   ·rw[decide_eq_false hzb] at he
    have HV:Hid (gx b=⟨#[]⟩∧gY b=50):=by
     refine(?_:gx b=⟨#[]⟩∧gY b=50);have:ig b=false:=by rw[HI.o,decide_eq_false hzb]
     simp[gx,gY,this]
    clear hzb;go_wp2_with fail;refine bodyPost_ret (results_tmp2 rfl _ _ _) rfl ?_;exact⟨by rw[HV.o.1,HV.o.2];rfl,B1.o⟩
  ·have hn':(198:Int)<(n:Int):=uo
   have HV:Hid (gx b=⟨#[]⟩∧gY b=50):=by
    refine(?_:gx b=⟨#[]⟩∧gY b=50);have:ig b=false:=by unfold ig;rw[HN.o,decide_eq_false hn];simp
    simp[gx,gY,this]
   clear hn;go_wp2_with fail;refine bodyPost_ret (results_tmp2 rfl _ _ _) rfl ?_;exact⟨by rw[HV.o.1,HV.o.2];rfl,(Below.refl _ w).drew⟩
 ·have q:¬(b.size:Int)=200:=uo
  have HV:Hid (gx b=⟨#[]⟩∧gY b=50):=by
   refine(?_:gx b=⟨#[]⟩∧gY b=50);have:ig b=false:=by unfold ig;rw[decide_eq_false hb];rfl
   simp[gx,gY,this]
  clear hb;go_enter Tryz.func261,Tryz.ntmps261;go_wp2_with fail;refine bodyPost_ret (results_tmp2 rfl _ _ _) rfl ?_;exact⟨by rw[HV.o.1,HV.o.2];rfl,Below.refl _ _⟩
theorem zfI (s:ByteArray) (h:s.size≤198):fd s=ef s∧eh s=0:=by simp[fd,eh,h]
theorem zhQ (s:ByteArray) (h:¬s.size≤198):fd s=⟨#[]⟩∧eh s=50:=by simp[fd,eh,h]
end Rp
end Go.Proofs.YtokfnghckpgjmaaGreatDoor
