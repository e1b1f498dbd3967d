/- hadOr: a page that was had is where it is; any other one is where the other one says. -/
import Derived.Test.YtokfnghckpgjmaaGreatDoorPPo
import Derived.Test.YtokfnghckpgjmaaGreatDoorPPk
import Derived.Test.YtokfnghckpgjmaaGreatDoorQHgc
set_option maxRecDepth 100000
set_option maxHeartbeats 4000000
namespace Go.Proofs.YtokfnghckpgjmaaGreatDoor
namespace Rz
open Go.RowKit Go.Lib Go.Shelf
open Rc Rq
open Rw (Rf dR fc eO Pp dt eG fj encS dM pz gv Pg rpp pB cX)
open Rv (FB fD gQ)
attribute [local go_sem] Oper.semAt_some
def cB {σ:Type} (f:ByteArray→Option Rf) (pl:Pm σ):Pm σ:=fun s t=>match f t with
 |some r=>((r,0),s)
 |none=>pl s t
def wh:List Sv→ByteArray→Option Rf
 |[],_=>none
 |x::l,t=>if t=x.t then some x.r else wh l t
theorem zo8 (x:Sv) (l:List Sv):wh (x::l)=cE (wh l) x.t (some x.r):=by
 funext t
 simp only[wh,cE]
theorem zji (f:ByteArray→Option Rf) (m b3 b5:Nat) (W:World) (t:ByteArray) (r:Rf) (hw:Wh W m f) (h5:W.heap[b5]? =some (.cells #[.map (some m)] 145 (0,0))) (hf:f t=some r):
  Calls Tryz.prog 79 #[.string t,.pointer (some ⟨b5,0,none⟩),.pointer (some ⟨b3,0,none⟩)] W fun e W'=>e=.returned (.tuple #[dR r,.int .i64 0])∧Below W.heap.size W W':=by
 obtain⟨W0,hW0⟩:∃ W0,W.alloc (.cells #[.int .u32 0,.string ⟨#[]⟩] 49)=W0:=⟨_,rfl⟩;have b0:Below W.heap.size W W0:=by rw[←hW0];exact bF _ _
 have y0:FB W.heap.size 0 ⟨#[]⟩ W0:=by rw[←hW0];exact gQ W
 obtain⟨W1,hW1⟩:∃ W1,W0.alloc (.cells #[.int .u32 (r.p:Int),.string r.t] 49)=W1:=⟨_,rfl⟩;have b1:Below W0.heap.size W0 W1:=by rw[←hW1];exact bF _ _
 have z1:FB W0.heap.size (r.p:Int) r.t W1:=by rw[←hW1];exact zq W0 _
 have hl:=(hw.same (b0.block _ hw.lt)).look t true;rw[hf,if_pos rfl] at hl;have c5:W0.cell? ⟨b5,0,none⟩=some (.map (some m)):=by rw[zr ((b0.block _ (zi h5).1).trans h5)];rfl
 obtain⟨u1,u2,u3,u4⟩:=(y0.grow b1).facts;obtain⟨v1,v2,v3,v4⟩:=z1.facts;obtain⟨y2,b2⟩:=(y0.grow b1).set (r.p:Int) r.t;have HY:Hid (FB W.heap.size (r.p:Int) r.t ((W1.setCell ⟨W.heap.size,0,none⟩ (.int .u32 (r.p:Int))).setCell ⟨W.heap.size,1,none⟩ (.string r.t))):=y2;have HB:Hid (Below W.heap.size W ((W1.setCell ⟨W.heap.size,0,none⟩ (.int .u32 (r.p:Int))).setCell ⟨W.heap.size,1,none⟩ (.string r.t))):=(b0.trans (b1.mono b0.size)).trans (b2 _ zn);have HW0:Hid _:=hW0;have HW1:Hid _:=hW1;have hl':(Instr.lookup 145 (.map (some m)) (.string t) true).run Tryz.prog W0=.ok (.tuple #[.agg #[.int .u32 (r.p:Int),.string r.t],.bool true]) W0:=hl;clear hw h5 hf b0 y0 b1 z1 hl y2 b2 hW0 hW1;go_enter Tryz.func79,Tryz.ntmps79
 go_wp2_with (first|(rw[HW0.o];clear HW0)|(rw[HW1.o];clear HW1))
 refine bodyPost_ret (fD rfl _ _ _ _ _ _ rfl rfl HY.o) rfl ?_;exact⟨rfl,HB.o⟩
theorem zls {σ:Type} {pl:Pm σ} {pf:Nat} {pb:Array Value} {I:σ→(Nat→Prop)→World→Prop} (hP:mL pl pf pb I) (f:ByteArray→Option Rf) (m b3 b5:Nat) (s:σ) (F:Nat→Prop) (W:World) (t:ByteArray) (ht:t.size≤198) (hI:I s F W) (hw:Wh W m f)
  (h5:W.heap[b5]? =some (.cells #[.map (some m)] 145 (0,0))) (h3:W.heap[b3]? =some (.cells #[.func (.func pf) #[] pb] 63 (0,0))) (hf:f t=none):
  Calls Tryz.prog 79 #[.string t,.pointer (some ⟨b5,0,none⟩),.pointer (some ⟨b3,0,none⟩)] W fun e W'=>e=.returned (.tuple #[dR (pl s t).1.1,.int .i64 (pl s t).1.2])∧∃ F',I (pl s t).2 F' W'∧bC F W W'∧cu F F' W W':=by
 obtain⟨W0,hW0⟩:∃ W0,W.alloc (.cells #[.int .u32 0,.string ⟨#[]⟩] 49)=W0:=⟨_,rfl⟩;have b0:Below W.heap.size W W0:=by rw[←hW0];exact bF _ _
 have y0:FB W.heap.size 0 ⟨#[]⟩ W0:=by rw[←hW0];exact gQ W
 obtain⟨W1,hW1⟩:∃ W1,W0.alloc (.cells #[.int .u32 0,.string ⟨#[]⟩] 49)=W1:=⟨_,rfl⟩;have b1:Below W0.heap.size W0 W1:=by rw[←hW1];exact bF _ _
 have hl:=(hw.same (b0.block _ hw.lt)).look t true;rw[hf,if_pos rfl] at hl;have c5:W0.cell? ⟨b5,0,none⟩=some (.map (some m)):=by rw[zr ((b0.block _ (zi h5).1).trans h5)];rfl
 have b01:=b0.trans (b1.mono b0.size);have c3:W0.cell? ⟨b3,0,none⟩=some (.func (.func pf) #[] pb):=by rw[zr ((b0.block _ (zi h3).1).trans h3)];rfl
 have l3:b3<W0.heap.size:=by have:=(zi h3).1;have:=b0.size;omega
 have HFl:Hid (∀ j,F j→j<W.heap.size):=hP.lt s F W hI;have hC:=hP.call s F W1 t ht (hP.keep s F W W1 hI b01.size fun j hj=>b01.block j (HFl.o j hj));have HKp:Hid (∀ s F W W',I s F W→W.heap.size≤W'.heap.size→(∀ k,F k→W'.heap[k]? =W.heap[k]?)→I s F W'):=hP.keep;have HLt:Hid (∀ s F W,I s F W→∀ k,F k→k<W.heap.size):=hP.lt;have heg:=hP.eg;generalize pl s t=rr at hC ⊢;obtain⟨⟨r,e0⟩,s2⟩:=rr;simp only at hC ⊢;have HC:Hid (Calls Tryz.prog pf (#[.string t]++pb) W1 fun e W'=>e=.returned (.tuple #[dR r,.int .i64 e0])∧∃ F',I s2 F' W'∧bC F W1 W'∧cu F F' W1 W'):=hC;have HY:Hid (FB W.heap.size 0 ⟨#[]⟩ W1):=y0.grow b1;have HB:Hid (Below W.heap.size W W1):=b01;have HW0:Hid _:=hW0;have HW1:Hid _:=hW1;have hl':(Instr.lookup 145 (.map (some m)) (.string t) true).run Tryz.prog W0=.ok (.tuple #[.agg #[.int .u32 0,.string ⟨#[]⟩],.bool false]) W0:=hl;clear hP hI hw h5 h3 hf b0 y0 b1 hl b01 hW0 hW1 hC;go_enter Tryz.func79,Tryz.ntmps79
 go_wp2_with (first|(rw[HW0.o];clear HW0))
 rw[HW1.o];refine Calls.mono HC.o ?_;rintro e W2 ⟨rfl,F',hI2,hb2,hg2⟩;have hlt:W.heap.size<W1.heap.size:=(zi HY.o).1;have hy2:FB W.heap.size 0 ⟨#[]⟩ W2:=(hb2.block _ hlt fun e=>by have:=HFl.o _ e;omega).trans HY.o;obtain⟨u1,u2,u3,u4⟩:=hy2.facts;obtain⟨y3,b3'⟩:=hy2.put6 (r.p:Int) r.t;obtain⟨W3,hW3⟩:∃ W3,(W2.setCell ⟨W.heap.size,0,none⟩ (.int .u32 (r.p:Int))).setCell ⟨W.heap.size,1,none⟩ (.string r.t)=W3:=⟨_,rfl⟩;rw[hW3] at y3 b3';have HY3:Hid (FB W.heap.size (r.p:Int) r.t W3):=y3
 have HR:Hid (∃ F',I s2 F' W3∧bC F W W3∧cu F F' W W3):=by
  have s1:=HB.o.size;have s3:=b3'.size;have s2:=hb2.size;refine⟨F',HKp.o _ F' W2 W3 hI2 s3 fun j hj=>b3'.block j (HLt.o _ F' W2 hI2 j hj) fun e=>?_,⟨b3'.os.trans (hb2.os.trans HB.o.os),b3'.tape.trans (hb2.tape.trans HB.o.tape),b3'.output.trans (hb2.output.trans HB.o.output),by omega,fun j hj hn=>?_⟩,fun j hj=>?_⟩
  ·rcases hg2 j hj with x|x
   ·have:=HFl.o j x;omega
   ·omega
  ·rw[b3'.block j uo uo,hb2.block j uo hn,HB.o.block j hj]
  ·rcases hg2 j hj with x|x
   ·exact .inl x
   ·exact .inr ⟨by omega,by omega⟩
 clear hI2 hb2 hg2 hlt hy2 y3 b3' HC c3 l3;go_wp2_with fail;refine bodyPost_ret (fD rfl _ _ _ _ _ _ rfl rfl HY3.o) rfl ?_;exact⟨rfl,HR.o⟩
def Ih {σ:Type} (pf:Nat) (pb:Array Value) (f:ByteArray→Option Rf) (m b3 b5:Nat) (I:σ→(Nat→Prop)→World→Prop):σ→(Nat→Prop)→World→Prop:=fun s F W=>
 ∃ F0,I s F0 W∧(∀ j,F j↔F0 j∨j=m∨j=b3∨j=b5)∧¬F0 m∧¬F0 b3∧¬F0 b5∧Wh W m f∧W.heap[b3]? =some (.cells #[.func (.func pf) #[] pb] 63 (0,0))∧W.heap[b5]? =some (.cells #[.map (some m)] 145 (0,0))
theorem zlt:∀ args w,(callFunc 79 args).run Tryz.prog w=.ok (.enter 79 args) w:=enters_of Tryz.func79 uk rfl
theorem zeQ {σ:Type} {pl:Pm σ} {pf:Nat} {pb:Array Value} {I:σ→(Nat→Prop)→World→Prop} (hP:mL pl pf pb I) (f:ByteArray→Option Rf) (hf:∀ t r,f t=some r→r.p<4294967296) (m b3 b5:Nat):
  mL (cB f pl) 79 #[.pointer (some ⟨b5,0,none⟩),.pointer (some ⟨b3,0,none⟩)] (Ih pf pb f m b3 b5 I) where
 eg:=zlt
 lt:=fun s F W ⟨F0,h1,h2,h3,h4,h5,h6,h7,h8⟩ k hk=>by
  rcases(h2 k).1 hk with x|rfl|rfl|rfl
  ·exact hP.lt s F0 W h1 k x
  ·exact h6.lt
  ·exact(zi h7).1
  ·exact(zi h8).1
 keep:=fun s F W W' ⟨F0,h1,h2,h3,h4,h5,h6,h7,h8⟩ hs hk=>⟨F0,hP.keep s F0 W W' h1 hs fun j hj=>hk j ((h2 j).2 (.inl hj)),h2,h3,h4,h5,h6.same (hk m ((h2 m).2 (.inr (.inl rfl)))),(hk b3 ((h2 b3).2 (.inr (.inr (.inl rfl))))).trans h7,(hk b5 ((h2 b5).2 (.inr (.inr (.inr rfl))))).trans h8⟩
 small:=fun s t=>by
  unfold cB;cases h:f t with
  |none=>exact hP.small s t
  |some r=>exact hf t r h
 call:=fun s F W t ht ⟨F0,h1,h2,h3,h4,h5,h6,h7,h8⟩=>by
  cases h:f t with
  |some r=>
   refine um (zji f m b3 b5 W t r h6 h8 h) fun W' hb=>?_;have e1:cB f pl s t=((r,0),s):=by unfold cB;rw[h]
   rw[e1];have l3:=(zi h7).1;have l5:=(zi h8).1;exact⟨rfl,F,⟨F0,hP.keep s F0 W W' h1 hb.size fun j hj=>hb.block j (hP.lt s F0 W h1 j hj),h2,h3,h4,h5,h6.same (hb.block _ h6.lt),(hb.block _ l3).trans h7,(hb.block _ l5).trans h8⟩,bC.of_below hb,cu.refl _ _ _⟩
  |none=>
   refine(zls hP f m b3 b5 s F0 W t ht h1 h6 h8 h7 h).mono ?_;rintro e W' ⟨rfl,F1,g1,g2,g3⟩;have e1:cB f pl s t=pl s t:=by unfold cB;rw[h]
   rw[e1];have l3:=(zi h7).1;have l5:=(zi h8).1;have l1:=h6.lt
   have no:∀ j,j<W.heap.size→¬F0 j→¬F1 j:=fun j hj hn h=>by
    rcases g3 j h with x|x
    ·exact hn x
    ·omega
   refine⟨rfl,fun j=>F1 j∨j=m∨j=b3∨j=b5,⟨F1,g1,fun j=>Iff.rfl,no m l1 h3,no b3 l3 h4,no b5 l5 h5,h6.same (g2.block _ l1 h3),(g2.block _ l3 h4).trans h7,(g2.block _ l5 h5).trans h8⟩,g2.more fun j _ hj=>(h2 j).2 (.inl hj),fun j hj=>?_⟩;rcases hj with x|x
   ·exact(g3 j x).imp (fun y=>(h2 j).2 (.inl y)) id
   ·exact .inl ((h2 j).2 (.inr x))
theorem zgt (o:Option Addr) (n cap:Nat) (W:World):
  Calls Tryz.prog 78 #[.slice o n cap] W fun e W'=>e=.returned (.func (.func 114) #[] #[.pointer (some ⟨W.heap.size,0,none⟩)])∧W'=W.alloc (.cells #[.slice o n cap] 29):=by
 go_enter Tryz.func78,Tryz.ntmps78;go_wp2_with fail;go_ret;exact⟨rfl,rfl⟩
end Rz
namespace Rz
open Go.RowKit Go.Lib Go.Shelf
open Rc Rq
open Rw (Rf dR fc eO Pp dt eG fj encS dM pz gv Pg rpp pB cX)
open Rv (FB fD gQ)
attribute [local go_sem] Oper.semAt_some
def up1 (v:Value):Nat:=match v with
 |.int _ z=>(z+1).toNat
 |_=>0
def sat (l:List Sv) (i:Nat):Sv:=(l[i]?).getD zs
theorem lI {l:List Sv} {i:Nat} (h:i<l.length):l[i]? =some (sat l i):=by unfold sat;rw[List.getElem?_eq_getElem h];rfl
def Fs3 (w:World) (b x:Nat) (y:Sv):Prop:=w.cell? ⟨b,x,none⟩=some (.string y.t)∧w.cell? ⟨b,x+1,none⟩=some (.int .u32 (y.r.p:Int))∧w.cell? ⟨b,x+2,none⟩=some (.string y.r.t)
theorem cF.one {w:World} {o:Option Addr} {cap:Nat} {l:List Sv} (h:cF w o cap l) {i:Nat} (hi:i<l.length):∃ b off,o=some ⟨b,off,none⟩∧b<w.heap.size∧Fs3 w b (off+i*3) (sat l i):=by
 obtain⟨b,off,e,hlt,hc⟩:=h.2.2.2.2 uo;have g:=fun j hj=>flat_get sc 3 (fun _=>rfl) l i _ (lI hi) j hj
 refine⟨b,off,e,hlt,?_,?_,?_⟩
 ·have:=hc (i*3+0) _ (g 0 uo);rwa[show off+(i*3+0)=off+i*3 by omega] at this
 ·have:=hc (i*3+1) _ (g 1 uo);rwa[show off+(i*3+1)=off+i*3+1 by omega] at this
 ·have:=hc (i*3+2) _ (g 2 uo);rwa[show off+(i*3+2)=off+i*3+2 by omega] at this
theorem cF.keep {W W':World} {o:Option Addr} {cap:Nat} {l:List Sv} (h:cF W o cap l) (hs:W.heap.size≤W'.heap.size) (hk:∀ b off,o=some ⟨b,off,none⟩→0<l.length→b<W.heap.size→W'.heap[b]? =W.heap[b]?):cF W' o cap l:=by
 refine⟨h.1,h.2.1,h.2.2.1,h.2.2.2.1,fun hn=>?_⟩;obtain⟨b,off,e,hlt,hc⟩:=h.2.2.2.2 hn;exact⟨b,off,e,Nat.lt_of_lt_of_le hlt hs,fun j u hu=>(World.cell?_of_block (a:=⟨b,off+j,none⟩) (hk b off e hn hlt)).trans (hc j u hu)⟩
theorem cF.below {W W':World} {o:Option Addr} {cap B:Nat} {l:List Sv} (h:cF W o cap l) (hb:Below B W W') (hB:W.heap.size≤B):cF W' o cap l:=h.keep hb.size fun b _ _ _ hl=>hb.block b uo
theorem zfx (g1:Nat) (l:List Sv) (o:Option Addr) (cap:Nat) (hmax:l.length≤100000) (W1:World) (hr:cF W1 o cap l)
  (hg1:W1.heap[g1]? =some (.cells #[.slice o l.length cap] 29 (0,0)))
  (yl:Nat) (R:(Nat→Prop)→Nat→World→Prop) (Rx:(Nat→Prop)→World→Prop) (own:Nat→Prop) (hown:(∀ j,own j→j<W1.heap.size)∧¬own g1∧∀ b off,o=some ⟨b,off,none⟩→0<l.length→¬own b)
  (hY:∀ own k j W,j+1+k=l.length→R own k W→(∀ j,own j→j<W.heap.size)→YieldAt Fence.wide 0 Tryz.prog yl #[.int .i64 (j:Int),sv (sat l j)] W (YP R Rx own (k+1) W true))
  (h0:R own 0 W1):
  Calls Tryz.prog 114 (#[.func (.yield yl) #[] #[]]++#[.pointer (some ⟨g1,0,none⟩)]) W1 fun e W'=>(∃ v,e=.returned v)∧∃ own',R own' l.length W':=by
 have HY:Hid _:=hY;have H0:Hid (R own 0 W1):=h0;have HSt:Hid (cF W1 o cap l∧W1.heap[g1]? =some (.cells #[.slice o l.length cap] 29 (0,0))∧(∀ j,own j→j<W1.heap.size)∧¬own g1∧∀ b off,o=some ⟨b,off,none⟩→0<l.length→¬own b):=⟨hr,hg1,hown⟩;have c1:W1.cell? ⟨g1,0,none⟩=some (.slice o l.length cap):=by rw[zr hg1];rfl
 have l1:=(zi hg1).1;obtain⟨n,hn⟩:∃ n,l.length=n:=⟨_,rfl⟩;rw[hn] at HY HSt c1 ⊢;have HN:Hid (l.length=n):=hn;have n64:(n:Int)≤100000:=uo
 clear hY h0 hr hown hg1 hn hmax;refine(callsIn_wide (n:=4)).1 ?_;refine callsIn_of_wp Tryz.func114 rfl trivial ?_ rfl;simp only[Tryz.ntmps114,eR,eS,eT,Nat.reduceAdd,Nat.reduceSub,eU,eV,eW,eX,eY,eZ];gi_wp2;clear c1 l1
 gi_loopw [3] (fun iv wr=>∃ (m:Nat) (own2:Nat→Prop),m≤n∧iv=.int .i64 ((m:Int) - 1)∧cF wr o cap l∧wr.heap[g1]? =some (.cells #[.slice o n cap] 29 (0,0))∧(∀ j,own2 j→j<wr.heap.size)∧(¬own2 g1∧∀ b off,o=some ⟨b,off,none⟩→0<n→¬own2 b)∧R own2 (n - m) wr) (fun iv _=>up1 iv)
 case atStart=>exact⟨n,own,Nat.le_refl _,rfl,HSt.o.1,HSt.o.2.1,HSt.o.2.2.1,HSt.o.2.2.2,by rw[Nat.sub_self];exact H0.o⟩
 case round=>
  obtain⟨m,own2,hm,rfl,hr2,hg2,hlt2,ho2,hR2⟩:=hrel;have HS2:Hid (cF wr o cap l∧wr.heap[g1]? =some (.cells #[.slice o n cap] 29 (0,0))∧(∀ j,own2 j→j<wr.heap.size)∧(¬own2 g1∧∀ b off,o=some ⟨b,off,none⟩→0<n→¬own2 b)):=⟨hr2,hg2,hlt2,ho2⟩;have HR2:Hid (R own2 (n - m) wr):=hR2;clear HSt H0 hR2 hlt2 ho2;cases m with
  |zero=>
   have e0:(((0:Nat):Int) - 1)=-1:=rfl;rw[e0];have HR3:Hid (R own2 n wr):=HR2.o;clear hr2 hg2 HR2;gi_wp2;refine bodyPost_end (results_none rfl _ _ _) rfl ?_;exact⟨⟨_,rfl⟩,own2,HR3.o⟩
  |succ j=>
   have e0:(((j+1:Nat):Int) - 1)=(j:Int):=uo
   rw[e0];have HR3:Hid (R own2 (n - (j+1)) wr):=HR2.o;obtain⟨b,off,rfl,hbl,k0,k1,k2⟩:=hr2.one (i:=j) (by rw[HN.o];omega);have c1:wr.cell? ⟨g1,0,none⟩=some (.slice (some ⟨b,off,none⟩) n cap):=by rw[zr hg2];rfl
   have l1:=(zi hg2).1;have q0:(0:Int)≤(j:Int):=uo
   have q1:(j:Int)<(n:Int):=uo
   have hy0:=lX (m:=3)<|HY.o own2 (n - (j+1)) j wr uo HR2.o HS2.o.2.2.1
   have HSb:Hid (n - (j+1)+1=n - j):=by refine(?_:n - (j+1)+1=n - j);omega
   rw[HSb.o] at hy0;generalize sat l j=y at k0 k1 k2 hy0;obtain⟨yt,yp,ys⟩:=y;simp only[sv] at k0 k1 k2 hy0;obtain⟨fn,tmps,assign,body,hy,hRd⟩:=hy0;have HRd:Hid (RoundIn Fence.wide 3 Tryz.prog yl fn tmps assign body wr (YP R Rx own2 (n - j) wr true)):=hRd;have HM:Hid (j+1≤n):=hm;clear hr2 hg2 HR2 hRd hm;gi_wp2;refine HRd.o.mono ?_;rintro e W6 ⟨own6,ho6,hb6,rfl,(⟨-,hR6⟩|⟨hx,-⟩)⟩
   ·have HS6:Hid (cF W6 (some ⟨b,off,none⟩) cap l∧W6.heap[g1]? =some (.cells #[.slice (some ⟨b,off,none⟩) n cap] 29 (0,0))∧(∀ j,own6 j→j<W6.heap.size)∧(¬own6 g1∧∀ b' off',some (⟨b,off,none⟩:Addr)=some ⟨b',off',none⟩→0<n→¬own6 b')):=by
     obtain⟨s1,s2,s3,s4,s5⟩:=HS2.o;have lg:=(zi s2).1;refine⟨s1.keep hb6.size fun b' off' e hn hl=>hb6.block b' hl (s5 b' off' e (by rw[←HN.o];exact hn)),(hb6.block _ lg s4).trans s2,fun j hj=>?_,fun e=>?_,fun b' off' e hn hj=>?_⟩
     ·rcases ho6 j hj with a|a
      ·exact Nat.lt_of_lt_of_le (s3 j a) hb6.size
      ·exact a.2
     ·rcases ho6 _ e with a|a
      ·exact s4 a
      ·omega
     ·cases e
      rcases ho6 _ hj with a|a
      ·exact s5 b off rfl hn a
      ·omega
    have HR6:Hid (R own6 (n - j) W6):=hR6;clear hy HRd ho6 hb6 hR6;gi_wp2
    go_roundw
    case rel=>exact⟨j,own6,by have:=HM.o;omega,rfl,HS6.o.1,HS6.o.2.1,HS6.o.2.2.1,HS6.o.2.2.2,HR6.o⟩
    case measure=>simp[up1]
   ·cases hx
end Rz
namespace Rz
open Go.RowKit Go.Lib Go.Shelf
open Rc Rq
open Rw (Rf dR fc eO Pp dt eG fj encS dM pz gv Pg rpp pB cX)
open Rv (FB fD gQ)
attribute [local go_sem] Oper.semAt_some
structure HJ (w:World) (v3:Value) (l:List Sv) (L:Nat) (own:Nat→Prop) (k:Nat) (W:World):Prop where
 b3:W.heap[w.heap.size]? =some (.cells #[v3] 63 (0,0))
 mp:Wh W (w.heap.size+1) (wh (l.drop (l.length - k)))
 b5:W.heap[w.heap.size+2]? =some (.cells #[.map (some (w.heap.size+1))] 145 (0,0))
 bel:Below w.heap.size w W
 mine:own (w.heap.size+1)
 only:∀ j,own j→j=w.heap.size+1∨L≤j
theorem HJ.keep {w:World} {v3:Value} {l:List Sv} {L:Nat} {own:Nat→Prop} {k:Nat} {W W':World} (h:HJ w v3 l L own k W) (hL:w.heap.size+3≤L) (hb:Kv L (fun _=>False) own W W'):HJ w v3 l L own k W':=
 ⟨(hb.block _ (zi h.b3).1 (.inl ⟨by omega,id⟩)).trans h.b3,h.mp.same (hb.block _ h.mp.lt (.inl ⟨by omega,id⟩)),(hb.block _ (zi h.b5).1 (.inl ⟨by omega,id⟩)).trans h.b5,h.bel.trans ⟨hb.os,hb.tape,hb.output,hb.size,fun j hj=>hb.block j (Nat.lt_of_lt_of_le hj h.bel.size) (.inl ⟨by omega,id⟩)⟩,h.mine,h.only⟩
theorem zgu:∀ args w,(callFunc 114 args).run Tryz.prog w=.ok (.enter 114 args) w:=enters_of Tryz.func114 uk rfl
theorem zgv (pf:Nat) (pb:Array Value) (l:List Sv) (o:Option Addr) (cap:Nat) (hmax:l.length≤100000) (w:World) (hr:cF w o cap l):
  Calls Tryz.prog 47 #[.slice o l.length cap,.func (.func pf) #[] pb] w fun e w'=>e=.returned (.func (.func 79) #[] #[.pointer (some ⟨w.heap.size+2,0,none⟩),.pointer (some ⟨w.heap.size,0,none⟩)])∧w'.heap[w.heap.size]? =some (.cells #[.func (.func pf) #[] pb] 63 (0,0))∧Wh w' (w.heap.size+1) (wh l)∧w'.heap[w.heap.size+2]? =some (.cells #[.map (some (w.heap.size+1))] 145 (0,0))∧Below w.heap.size w w':=by
 obtain⟨n,hn⟩:∃ n,l.length=n:=⟨_,rfl⟩;have HR:Hid (cF w o cap l):=hr;have HM:Hid (l.length≤100000):=hmax;have HNl:Hid (l.length=n):=hn;rw[hn];obtain⟨PST,hPST⟩:∃ PST:Ending→World→Prop,(fun e w'=>e=.returned (.func (.func 79) #[] #[.pointer (some ⟨w.heap.size+2,0,none⟩),.pointer (some ⟨w.heap.size,0,none⟩)])∧w'.heap[w.heap.size]? =some (.cells #[.func (.func pf) #[] pb] 63 (0,0))∧Wh w' (w.heap.size+1) (wh l)∧w'.heap[w.heap.size+2]? =some (.cells #[.map (some (w.heap.size+1))] 145 (0,0))∧Below w.heap.size w w')=PST:=⟨_,rfl⟩;rw[hPST];have HP:Hid (∀ w',w'.heap[w.heap.size]? =some (.cells #[.func (.func pf) #[] pb] 63 (0,0))∧Wh w' (w.heap.size+1) (wh l)∧w'.heap[w.heap.size+2]? =some (.cells #[.map (some (w.heap.size+1))] 145 (0,0))∧Below w.heap.size w w'→PST (.returned (.func (.func 79) #[] #[.pointer (some ⟨w.heap.size+2,0,none⟩),.pointer (some ⟨w.heap.size,0,none⟩)])) w'):=fun w' h=>by rw[←hPST];exact⟨rfl,h⟩
 obtain⟨W2,hW2⟩:∃ W2,(w.alloc (.cells #[.func (.func pf) #[] pb] 63)).alloc (.map #[] 0)=W2:=⟨_,rfl⟩;obtain⟨W3,hW3⟩:∃ W3,W2.alloc (.cells #[.map (some (w.heap.size+1))] 145)=W3:=⟨_,rfl⟩;have s1:(w.alloc (.cells #[.func (.func pf) #[] pb] 63)).heap.size=w.heap.size+1:=by simp
 have s2:W2.heap.size=w.heap.size+2:=by rw[←hW2];simp
 have s3:W3.heap.size=w.heap.size+3:=by rw[←hW3];simp;omega
 have b1:=bF w (.cells #[.func (.func pf) #[] pb] 63);have b2:Below (w.heap.size+1) (w.alloc (.cells #[.func (.func pf) #[] pb] 63)) W2:=by rw[←hW2,←s1];exact bF _ _
 have b3:Below (w.heap.size+2) W2 W3:=by rw[←hW3,←s2];exact bF _ _
 have k1:W3.heap[w.heap.size]? =some (.cells #[.func (.func pf) #[] pb] 63 (0,0)):=(b3.block _ uo).trans ((b2.block _ uo).trans (zq w _))
 have k2:Wh W3 (w.heap.size+1) (wh []):=by
  have:=Wh.made (w.alloc (.cells #[.func (.func pf) #[] pb] 63));rw[hW2,s1] at this;exact this.same (b3.block _ uo)
 have k3:W3.heap[w.heap.size+2]? =some (.cells #[.map (some (w.heap.size+1))] 145 (0,0)):=by rw[←hW3,←s2];exact zq W2 _
 have HB3:Hid (Below w.heap.size w W3):=b1.trans ((b2.mono uo).trans (b3.mono uo));have HK3:Hid (W3.heap[w.heap.size]? =some (.cells #[.func (.func pf) #[] pb] 63 (0,0))∧Wh W3 (w.heap.size+1) (wh [])∧W3.heap[w.heap.size+2]? =some (.cells #[.map (some (w.heap.size+1))] 145 (0,0))∧W3.heap.size=w.heap.size+3):=⟨k1,k2,k3,s3⟩
 have hmm:(Instr.makeMap 145 none).run Tryz.prog (w.alloc (.cells #[.func (.func pf) #[] pb] 63))=.ok (.map (some (w.heap.size+1))) W2:=by
  rw[←hW2,←s1];rfl
 have HW3:Hid _:=hW3;have s2x:=s2;clear hr hmax hn hPST hW2 hW3 b1 b2 b3 k1 k2 k3 s1 s2 s3;refine(callsIn_wide (n:=5)).1 ?_;refine callsIn_of_wp_marks Tryz.func47 rfl trivial ?_ rfl;simp only[Tryz.ntmps47,eR,eS,eT,Nat.reduceAdd,Nat.reduceSub,eU,eV,eW,eX,eY,eZ];have HSW2:Hid (W2.heap.size=w.heap.size+2):=s2x;clear s2x;gi_wp2;rw[HW3.o,HSW2.o];refine⟨trivial,callsIn_wide.2 ((zgt o n cap W3).mono ?_)⟩;rintro e W4 ⟨rfl,hW4⟩;have t1:=bF W3 (.cells #[.slice o n cap] 29);have u1:=zq W3 (.cells #[.slice o n cap] 29);have v1:W4.heap.size=W3.heap.size+1:=by rw[hW4];simp
 rw[←hW4] at t1 u1;have q3:=HK3.o.2.2.2;have HS4:Hid (W4.heap.size=w.heap.size+4∧W3.heap.size=w.heap.size+3):=⟨by omega,q3⟩;have HB4:Hid (Below w.heap.size w W4):=HB3.o.trans (t1.mono uo);have HC4:Hid (W4.heap[W3.heap.size]? =some (.cells #[.slice o n cap] 29 (0,0))):=u1
 have HJ0:Hid (HJ w (.func (.func pf) #[] pb) l (w.heap.size+4) (fun j=>j=w.heap.size+1) 0 W4):=
  ⟨(t1.block _ uo).trans HK3.o.1,by rw[Nat.sub_zero,List.drop_length];exact HK3.o.2.1.same (t1.block _ uo),(t1.block _ uo).trans HK3.o.2.2.1,HB4.o,rfl,fun j hj=>.inl hj⟩
 clear t1 u1 v1 hW4 q3 HK3 HB3;gi_wp2
 refine zd4 uo (gf:=114) (lb:=#[.pointer (some ⟨W3.heap.size,0,none⟩)]) rfl zgu (α:=Nat × Sv) n (fun x=>#[.int .i64 (x.1:Int),sv x.2]) (fun _=>rfl)
  (fun k x b=>b=true∧x.1+1+k=n∧x.2=sat l x.1) (fun _=>False) (fun j hj=>hj.elim) (fun own k W=>HJ w (.func (.func pf) #[] pb) l (w.heap.size+4) own k W) (fun _ _=>False) (.exit 0) ?hJ (fun _ _ _ h _=>h)
  (fun _ _=>True) (fun _ _ _ _ _ _ _=>trivial) (fun j=>j=w.heap.size+1) ?hown0 ?h0
  (fun x a' W=>∃ bx,w.heap.size+6≤bx∧bx<W.heap.size∧W.heap[bx]? =some (.cells #[.string x.2.t,.int .u32 (x.2.r.p:Int),.string x.2.r.t] 51 (0,0))∧a'={ tmps:=#[.slice o n cap,.func (.func pf) #[] pb,undef,.pointer (some ⟨w.heap.size,0,none⟩),.nilFunc,.pointer (some ⟨w.heap.size+2,0,none⟩),undef,.pointer (some ⟨bx,0,none⟩),.map (some (w.heap.size+1)),.slice o n cap,.func (.func 114) #[] #[.pointer (some ⟨W3.heap.size,0,none⟩)],.int .i64 (x.1:Int),sv x.2,undef,undef,undef,undef,undef,undef],defers:=[] }) ?hA ?assign ?body ?iter ?done ?stop
 case hJ=>intro own k X Y h hb;have:=HS4.o;exact h.keep uo (by rw[←HS4.o.1];exact hb)
 case hown0=>intro j hj;have:=HS4.o;omega
 case h0=>exact HJ0.o
 case hA=>
  rintro x a' X l' o' ⟨bx,h1,h2,h3,h4⟩ hl1 hl2;have hs:=HS4.o;exact⟨bx,h1,by simpa [World.putObj] using h2,(World.putObj_heap_other uo).trans h3,h4⟩
 case assign=>
  intro l' own k x b W' K' hit hJk hsz hK';obtain⟨xi,⟨xt,⟨xp,xs⟩⟩⟩:=x;have HZ:Hid (w.heap.size+6≤W'.heap.size):=by refine(?_:w.heap.size+6≤W'.heap.size);have:=HS4.o;omega
  have HK':Hid _:=hK';clear hit hJk hsz hK';gi_wp2;exact HK'.o _ _ (bF W' _) ⟨W'.heap.size,HZ.o,by simp,zq W' _,rfl⟩
 case iter=>
  intro l' W5 hl' hB5 hs5 R' Rx' ow how hR' hRx' hY' h0';have hs:=HS4.o;have hb5:Below w.heap.size w W5:=HB4.o.trans (hB5.mono uo);rw[←HNl.o] at HC4 hY' ⊢;refine(zfx W3.heap.size l o cap HM.o W5 (HR.o.below hb5 zn) ((hB5.block _ uo).trans HC4.o) l' R' Rx' ow ⟨fun j hj=>?_,fun e=>?_,fun b off e h0 hj=>?_⟩ (fun own k j W h1 h2 h3=>hY' own k (j,sat l j) true W ⟨rfl,h1,rfl⟩ h2 h3) h0').mono ?_
  ·rcases(how j).1 hj with rfl|rfl<;>omega
  ·rcases(how _).1 e with a|a<;>omega
  ·obtain⟨b',off',e',hlt',-⟩:=HR.o.2.2.2.2 h0
   rw[e] at e';cases e';rcases(how _).1 hj with a|a<;>omega
  ·rintro e W' ⟨h1,own',h2⟩
   exact⟨h1,own',trivial,.inl h2⟩
 case body=>
  rintro l' own k x b a' W' ⟨rfl,hk,hx⟩ hJ ⟨bx,h1,h2,h3,rfl⟩ hsz hol;obtain⟨xi,⟨xt,⟨xp,xs⟩⟩⟩:=x;simp only at hk hx h3;have HJe:Hid (HJ w (.func (.func pf) #[] pb) l (w.heap.size+4) own k W'):=hJ;have c0:W'.cell? ⟨w.heap.size+2,0,none⟩=some (.map (some (w.heap.size+1))):=by rw[zr hJ.b5];rfl
  have l0:w.heap.size+2<W'.heap.size:=(zi hJ.b5).1;obtain⟨s0,s1,s2⟩:=zpZ h3;obtain⟨W2',hrun0,hm2,hb2,hz2⟩:=hJ.mp.update xt ⟨xp,xs⟩;have hrun:(Instr.mapUpdate 145 (.map (some (w.heap.size+1))) (.string xt) (.agg #[.int .u32 (xp:Int),.string xs])).run Tryz.prog W'=.ok () W2':=hrun0
  have hdr:l.drop (l.length - (k+1))=⟨xt,⟨xp,xs⟩⟩::l.drop (l.length - k):=by
   have hlt:xi<l.length:=by have:=HNl.o;omega
   have e1:l.length - (k+1)=xi:=by have:=HNl.o;omega
   have e2:l.length - k=xi+1:=by have:=HNl.o;omega
   rw[e1,e2,List.drop_eq_getElem_cons hlt];have:=lI hlt;rw[List.getElem?_eq_getElem hlt] at this;rw[Option.some.inj this,hx]
  have HFin:Hid (∃ own',cu own own' W' W2'∧bC own W' W2'∧HJ w (.func (.func pf) #[] pb) l (w.heap.size+4) own' (k+1) W2'):=by
   refine⟨own,cu.refl _ _ _,hb2.more fun j _ hj=>hj▸HJe.o.mine,⟨(hb2.block _ (zi HJe.o.b3).1 uo).trans HJe.o.b3,?_,(hb2.block _ l0 uo).trans HJe.o.b5,HJe.o.bel.trans ⟨hb2.os,hb2.tape,hb2.output,hb2.size,fun j hj=>hb2.block j (Nat.lt_of_lt_of_le hj HJe.o.bel.size) uo⟩,HJe.o.mine,HJe.o.only⟩⟩;rw[hdr,zo8];exact hm2
  clear hJ hsz hol hk hx h1 h3 hm2 hb2 hz2 hrun0 hdr;gi_wp2;exact⟨rfl,HFin.o⟩
 case stop=>intro D own W' _ _ h;exact h.elim
 case done=>
  intro D own W' hDe hno hJ _ hdf;have HDf:Hid (W'.heap[D]? =some (.deferred (some []))):=hdf
  have HFin:Hid (∀ W'' e,bC (fun j=>j∈[D]) W' W''→e=.returned (.func (.func 79) #[] #[.pointer (some ⟨w.heap.size+2,0,none⟩),.pointer (some ⟨w.heap.size,0,none⟩)])→PST e W''):=by
   intro W'' e hb he;subst he;have hs:=HS4.o;have hk:∀ j,j<W'.heap.size→j≠D→W''.heap[j]? =W'.heap[j]? :=fun j hj hn=>hb.block j hj (by simpa using hn)
   have e0:l.drop (l.length - n)=l:=by rw[HNl.o,Nat.sub_self];rfl
   have hmp:=hJ.mp;rw[e0] at hmp;exact HP.o W'' ⟨(hk _ (zi hJ.b3).1 uo).trans hJ.b3,hmp.same (hk _ hmp.lt uo),(hk _ (zi hJ.b5).1 uo).trans hJ.b5,hJ.bel.trans ⟨hb.os,hb.tape,hb.output,hb.size,fun j hj=>hk j (Nat.lt_of_lt_of_le hj hJ.bel.size) uo⟩⟩
  clear hdf hDe hno hJ;gi_wp2;refine lY (fun W=>results_tmp rfl _ _ _) [D] W' us (fun E hE=>by simp at hE;subst hE;exact HDf.o) fun W'' hb=>HFin.o W'' _ hb rfl
end Rz
end Go.Proofs.YtokfnghckpgjmaaGreatDoor
