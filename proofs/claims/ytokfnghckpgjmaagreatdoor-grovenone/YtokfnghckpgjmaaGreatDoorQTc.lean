/- The reference: words made of words, and what appends leave. -/
import Derived.Test.YtokfnghckpgjmaaGreatDoorQE
set_option maxRecDepth 100000
set_option maxHeartbeats 2000000
namespace Go.Proofs.YtokfnghckpgjmaaGreatDoor
section
open Go.RowKit Go.Lib
theorem zar {P:Program} {md:Region.Mode} {ops:Array Oper} {Q:Exit→Act→World→Prop} {S:World→Prop} {fuel:Nat} {listed:Array Bool} {a:Act} {w:World} (k:Nat) (o:Oper) (hr:Region.ready md ops listed=[k]) (ho:ops[k]? =some o)
  (hw:Region.wanted o (yielded ops a.tmps)=true)
  (h:∀ K:Act→World→Prop,(∀ a w,S w→wpAnyH P md ops Q S fuel (listed.setIfInBounds k true) a w→K a w)→Oper.wp P o a w K Q):wpAnyH P md ops Q S (fuel+1) listed a w:=by
 refine wpAnyH_all hr (by simp) fun j hj=>?_
 obtain rfl:j=k:=by simpa using hj
 unfold wpOp;simp only[ho,hw,if_true];exact .inl (h _ fun a w h1 h2=>⟨h1,h2⟩)
open Go.RowKit
theorem ziZ {α:Type} {F:Fence} {n:Nat} {P:Program} {g:Operand} {ps:Array Tmp} {assign body:Code} {Q:Exit→Act→World→Prop} {a:Act} {w:World}
  (hro:F.round=none) (h1:1≤n) {gf:Nat} {lb:Array Value} (hg:a.eval g=.func (.func gf) #[] lb) (hFg:F.fn gf) (eg:∀ args w,(callFunc gf args).run P w=.ok (.enter gf args) w)
  (encs:α→Array Value) (hps:∀ x,(encs x).size=ps.size) (Kp:World→World→Prop) (hKt:∀ {A B C:World},Kp A B→Kp B C→Kp A C)
  (hKb:∀ (W:World) (l:Nat) (o o':Obj),W.heap[l]? =some o→o.isCells=false→Kp W (W.putObj l o'))
  (Y:Nat→α→World→Prop) (hY:∀ k x W l o',Y k x W→w.heap.size≤l→l<w.heap.size+2→Y k x (W.putObj l o'))
  (J:Nat→World→Prop) (Jx:World→Prop) (id:Nat) (hJ:∀ k W W',J k W→Below w.heap.size W W'→J k W') (hJx:∀ W W',Jx W→Below w.heap.size W W'→Jx W') (h0:J 0 w)
  (bad:Nat→Prop) (hbad:∀ k W,J k W→bad k→False) (a₁:α→Act)
  (hassign:∀ (l:Nat) (x:α) (W:World) (K:Act→World→Prop),K (a₁ x) W→
   assign.wpIn (F.inRound l) (n - 1 - 1) P (Exit.then K (fun _ _ _=>False)) { tmps:=(ps.zip (encs x)).foldl (fun t (p,v)=>t.setIfInBounds p v) a.tmps,defers:=[] } W)
  (hbody:∀ (l k:Nat) (x:α) (W:World),J k W→Y k x W→body.wpIn (F.inRound l) (n - 1 - 1) P (zpC w.heap.size Kp (J (k+1)) Jx id W) (a₁ x) W)
  (hiter:∀ (l:Nat) (W1:World),Below w.heap.size w W1→W1.heap.size=w.heap.size+2→∀ (R:Nat→World→Prop) (Rx:World→Prop),(∀ k W W',R k W→Below W1.heap.size W W'→R k W')→(∀ W W',Rx W→Below W1.heap.size W W'→Rx W')→
   (∀ k x W,R k W→Y k x W→YieldAt F (n - 1 - 1) P l (encs x) W fun e W'=>(e=.returned (.bool true)∧R (k+1) W'∧Kp W W')∨(e=.returned (.bool false)∧Rx W'))→(∀ k W,R k W→¬bad k)→R 0 W1→
   CallsIn F (n - 1) P gf (#[.func (.yield l) #[] #[]]++lb) W1 fun e W'=>(∃ v,e=.returned v)∧Rx W')
  (hstop:∀ (D:Nat) (W:World),w.heap.size≤D→Jx W→W.heap[D]? =some (.deferred (some []))→(Code.exit id).wpIn F n P Q { a with defers:={ target:=.collected D,args:=#[] }::a.defers } W):
  (Code.rangeFunc g ps assign body).wpIn F n P Q a w:=by
 refine wpIn_rangeFunc fun fn hfn=>?_
 rw[hro];obtain⟨rc,hrc⟩:∃ rc:LoopState→Option Code→Loop,rc=fun st pe=>{ state:=st,pending:=pe,fn,tmps:=a.tmps,params:=ps,assign,body,defers:=w.heap.size }:=⟨_,rfl⟩
 obtain⟨W1,hW1⟩:∃ W1,(w.alloc (.deferred (some []))).alloc (.loop (rc .ready none))=W1:=⟨_,rfl⟩;have hn2:=zay w (.deferred (some [])) (.loop (rc .ready none));have hs:W1.heap.size=w.heap.size+2:=by rw[←hW1];simp
 rw[hW1] at hn2;obtain⟨hD1,hL1,hB1⟩:=hn2
 refine⟨w.heap.size+1,[{ target:=.collected w.heap.size,args:=#[] }],W1,{ target:=.fn (.func gf) lb,args:=#[.func (.yield (w.heap.size+1)) #[] #[]] },W1,gf,
  #[.func (.yield (w.heap.size+1)) #[] #[]]++lb,W1,?_,?_,?_,?_,fun _=>h1,?_⟩
 ·rw[←hW1,hrc];exact run_enterLoop_outer _ _ _ _ _
 ·simp only[resolve,hg]
  simp[go_sem]
 ·intro f' hf'
  simp[Target.leads] at hf';subst hf';exact hFg
 ·simp[invoke,go_sem,eg]
 ·refine(hiter (w.heap.size+1) W1 hB1 hs
   (fun k W=>J k W∧W.heap[w.heap.size+1]? =some (.loop (rc .ready none))∧W.heap[w.heap.size]? =some (.deferred (some [])))
   (fun W=>Jx W∧W.heap[w.heap.size+1]? =some (.loop (rc .done (some (.exit id))))∧W.heap[w.heap.size]? =some (.deferred (some [])))
   (fun k W W' h hb=>⟨hJ k W W' h.1 (hb.mono (by omega)),(hb.block _ (by omega)).trans h.2.1,(hb.block _ (by omega)).trans h.2.2⟩)
   (fun W W' h hb=>⟨hJx W W' h.1 (hb.mono (by omega)),(hb.block _ (by omega)).trans h.2.1,(hb.block _ (by omega)).trans h.2.2⟩)
   ?_ (fun k W h hk=>hbad k W h.1 hk) ⟨hJ 0 w W1 h0 hB1,hL1,hD1⟩).mono ?_
  ·rintro k x W ⟨hj,hl,hd⟩ hy
   have hlt:w.heap.size+1<W.heap.size:=(zi hl).1;have hyr:=run_yield (P:=P) (args:=encs x) hl (by rw[hrc];exact hps x);rw[hrc] at hyr;refine⟨fn,_,assign,body,hyr,roundIn_of_wpIn hfn (hassign _ x W _ ?_)⟩;refine⟨_,run_beginRound hl (by rw[hrc]),?_⟩;have hl2:(W.putObj (w.heap.size+1) (.loop { rc .ready none with state:=.busy })).heap[w.heap.size+1]? =some (.loop { rc .ready none with state:=.busy }):=World.putObj_heap_same hlt;have hd2:(W.putObj (w.heap.size+1) (.loop { rc .ready none with state:=.busy })).heap[w.heap.size]? =some (.deferred (some [])):=(World.putObj_heap_other (by omega)).trans hd;refine wpIn_mono (hbody _ k x _ (hJ k _ _ hj (zak W _ (by omega))) (hY k x W _ _ hy (by omega) (by omega))) ?_;rintro e a3 W3 hp;cases e with
   |normal=>
    obtain⟨hk3,hkp,hj3⟩:=hp;have hl3:=hk3.same _ _ (by omega) hl2 rfl;have hd3:=hk3.same _ _ zn hd2 rfl;have hr:=run_endRound (P:=P) none hl3;refine⟨_,_,hr,.inl ⟨rfl,⟨hJ _ _ _ hj3 (zak W3 _ (by omega)),?_,(World.putObj_heap_other (by omega)).trans hd3⟩,hKt (hKb W _ _ _ hl rfl) (hKt hkp (hKb W3 _ _ _ hl3 rfl))⟩⟩;rw[World.putObj_heap_same (zi hl3).1,hrc];rfl
   |exit i=>
    obtain⟨rfl,hk3,hj3⟩:=hp;have hl3:=hk3.same _ _ (by omega) hl2 rfl;have hd3:=hk3.same _ _ zn hd2 rfl;have hr:=run_endRound (P:=P) (some (.exit i)) hl3;refine⟨_,_,hr,.inr ⟨rfl,hJx _ _ hj3 (zak W3 _ (by omega)),?_,(World.putObj_heap_other (by omega)).trans hd3⟩⟩;rw[World.putObj_heap_same (zi hl3).1,hrc];rfl
   |ret=>exact hp.elim
   |goto t=>exact hp.elim
   |panic ch=>exact hp.elim
   |outgrown=>exact hp.elim
  ·rintro e W2 ⟨⟨v,rfl⟩,hx,hl,hd⟩
   refine⟨some (.exit id),_,by have:=run_endLoop (P:=P) hl (by rw[hrc];simp);rw[hrc] at this;exact this,?_⟩;exact hstop _ _ zn (hJx _ _ hx (zak W2 _ (by omega))) ((World.putObj_heap_other (by omega)).trans hd)
open Go.RowKit Go.Shelf Go.Lib
attribute [local go_sem] Oper.semAt_some
def Kq (b:Nat) (A B:World):Prop:=A.heap.size≤B.heap.size∧∀ j o,j<b→A.heap[j]? =some o→o.isCells=true→B.heap[j]? =some o
theorem Kq.refl (b:Nat) (A:World):Kq b A A:=⟨Nat.le_refl _,fun _ _ _ h _=>h⟩
theorem Kq.trans {b:Nat} {A B C:World} (h:Kq b A B) (k:Kq b B C):Kq b A C:=⟨Nat.le_trans h.1 k.1,fun j o hj ho hc=>k.2 j o hj (h.2 j o hj ho hc) hc⟩
theorem Kq.put (b:Nat) (W:World) (l:Nat) (o o':Obj) (h:W.heap[l]? =some o) (hc:o.isCells=false):Kq b W (W.putObj l o'):=
 ⟨by simp[World.putObj],fun j p _ hp hpc=>by
  by_cases e:j=l
  ·subst e;rw[h] at hp;cases hp;rw[hc] at hpc;cases hpc
  ·exact(World.putObj_heap_other e).trans hp⟩
theorem Kq.below {b B:Nat} {X Y:World} (h:Below B X Y) (hB:b≤B):Kq b X Y:=⟨h.size,fun j _ hj ho _=>(h.block j (by omega)).trans ho⟩
def zgU (gf:Nat) (lb:Array Value) (m:Nat→Int) (N:Nat) (w0:World):Prop:=
 ∀ (l:Nat) (W1:World),Kq w0.heap.size w0 W1→∀ (R:Nat→World→Prop) (Rx:World→Prop),(∀ k W W',R k W→Below W1.heap.size W W'→R k W')→(∀ W W',Rx W→Below W1.heap.size W W'→Rx W')→
  (∀ k W,R k W→YieldAt Fence.wide 3 Tryz.prog l #[.int .u8 (m k)] W fun e W'=>(e=.returned (.bool true)∧R (k+1) W'∧Kq w0.heap.size W W')∨(e=.returned (.bool false)∧Rx W'))→
  (∀ k W,R k W→k<N)→R 0 W1→
  CallsIn Fence.wide 4 Tryz.prog gf (#[.func (.yield l) #[] #[]]++lb) W1 fun e W'=>(∃ v,e=.returned v)∧Rx W'
def Fst (m:Nat→Int) (n:Nat) (w:World) (q k:Nat) (W:World):Prop:=
 k≤n∧W.heap[w.heap.size]? =some (.cells #[.int .i64 (n:Int)] 3 (0,0))∧W.heap[q]? =some (.cells #[.slice (some ⟨w.heap.size+1,0,none⟩) k n] 140 (0,0))∧W.ownsRow (w.heap.size+1) 5 1 (.slice (some ⟨w.heap.size+1,0,none⟩) k n) k ((upto m k).map (Value.int .u8))∧Below w.heap.size w W
theorem zko {W W':World} {base p n cap B:Nat} {xs:List Value} (ho:W.ownsRow base 5 1 (.slice (some ⟨p,0,none⟩) n cap) n xs) (hb:Below B W W') (hp:p<B):W'.ownsRow base 5 1 (.slice (some ⟨p,0,none⟩) n cap) n xs:=by
 refine⟨ho.1,?_⟩;rcases ho.2 with⟨hv,_⟩|⟨g',cap',cur,hv,hb',hh,rest⟩
 ·cases hv
 ·cases hv
  exact .inr ⟨p,cap,cur,rfl,hb',(hb.block p hp).trans hh,rest⟩
theorem Fst.below {m:Nat→Int} {n q k B:Nat} {w W W':World} (h:Fst m n w q k W) (hb:Below B W W') (h1:w.heap.size+1<B) (h2:q<B):Fst m n w q k W':=
 ⟨h.1,(hb.block _ (by omega)).trans h.2.1,(hb.block _ h2).trans h.2.2.1,zko h.2.2.2.1 hb h1,h.2.2.2.2.trans (hb.mono (by omega))⟩
theorem zhX (gf:Nat) (lb:Array Value) (m:Nat→Int) (n:Nat) (hn:n≤100000) (w:World) (eg:∀ args w,(callFunc gf args).run Tryz.prog w=.ok (.enter gf args) w) (hI:zgU gf lb m (max n 1) w):
  CallsIn Fence.wide 5 Tryz.prog 248 #[.int .i64 (n:Int),.func (.func gf) #[] lb] w fun e w'=>e=.returned (.string (strOfNums (upto m n)))∧Below w.heap.size w w':=by
 obtain⟨i0,hi,hz0,hz1,hz2⟩:=info_parts info5;refine callsIn_of_wp_marks Tryz.func248 rfl trivial ?_ rfl;simp only[Tryz.ntmps248,zS1,zS2,zS3,Nat.reduceAdd,Nat.reduceSub,zS4,zS5,zS6,zS7,zS8,zS9];have n0:(0:Int)≤(n:Int):=by omega
 have n1:(n:Int)≤100000:=by omega
 gi_wp2;obtain⟨w0,hw0⟩:∃ w0,w.alloc (.cells #[.int .i64 (n:Int)] 3)=w0:=⟨_,rfl⟩;have s0:w0.heap.size=w.heap.size+1:=by rw[←hw0];simp
 have hb0:Below w.heap.size w w0:=by rw[←hw0];exact(Below.refl _ w).alloc zn _
 have X0:Hid (w0.heap[w.heap.size]? =some (.cells #[.int .i64 (n:Int)] 3 (0,0))):=by rw[←hw0];exact zq w _
 have c0:w0.cell? ⟨w.heap.size,0,none⟩=some (.int .i64 (n:Int)):=by rw[zr X0.out];rfl
 obtain⟨w2,hmk0,hown,hgrow⟩:=run_make_own (P:=Tryz.prog) w0 w0.heap.size 140 5 i0 (.int .u8 0) 1 Tryz.underlying140 hi hz0 hz1 .i64 .i64 n (by rw[hz2];omega) (by unfold maxLen;omega) zn;have hmk:(Instr.makeSlice 140 (.int .i64 0) (.int .i64 (n:Int))).run Tryz.prog w0=.ok (.slice (some ⟨w0.heap.size,0,none⟩) 0 n) w2:=hmk0;rw[hw0];clear hw0 hmk0;refine(wpIn_wide (n:=5)).2 (wp_scope_straight ((wpIn_wide (n:=5)).1 ?_));gi_wp2;obtain⟨w3,hw3⟩:∃ w3,w2.alloc (.cells #[.slice (some ⟨w.heap.size+1,0,none⟩) 0 n] 140)=w3:=⟨_,rfl⟩;have b2:Below w.heap.size w w2:=hb0.grown hgrow (by omega) (fun k e=>by cases e);have b3:Below w2.heap.size w2 w3:=by rw[←hw3];exact(Below.refl _ w2).alloc zn _
 have O3:w3.ownsRow (w.heap.size+1) 5 1 (.slice (some ⟨w.heap.size+1,0,none⟩) 0 n) 0 []:=by rw[s0] at hown;rw[←hw3];exact hown.alloc _
 have l2:w.heap.size+1<w2.heap.size:=by rw[s0] at hown;exact zaI hown
 have X3:w3.heap[w.heap.size]? =some (.cells #[.int .i64 (n:Int)] 3 (0,0)):=(b3.block _ (by omega)).trans ((hgrow.block _ (by omega) (by simp)).trans X0.out);have Q3:w3.heap[w2.heap.size]? =some (.cells #[.slice (some ⟨w.heap.size+1,0,none⟩) 0 n] 140 (0,0)):=by rw[←hw3];exact zq w2 _
 have B3:Below w.heap.size w w3:=b2.trans (b3.mono (by omega));have s3:w3.heap.size=w2.heap.size+1:=by rw[←hw3];simp
 rw[hw3];clear hw3 hmk hown hgrow hb0 b2 b3 X0 c0;generalize w2.heap.size=q at*
 clear s0;refine wpIn_label ?_;gi_wp2
 refine ziZ rfl (by omega) (gf:=gf) (lb:=lb) rfl trivial eg (fun x:Int=>#[.int .u8 x]) (fun _=>rfl) (Kq w.heap.size) Kq.trans (fun W l o o' h hc=>Kq.put w.heap.size W l o o' h hc)
  (fun k x _=>x=m k) (fun k x W l o' hy _ _=>hy)
  (fun k W=>k<max n 1∧Fst m n w q k W) (fun W=>Fst m n w q n W) 0
  (fun k W W' h hb=>⟨h.1,h.2.below hb (by omega) (by omega)⟩) (fun W W' h hb=>h.below hb (by omega) (by omega))
  ⟨by omega,Nat.zero_le _,X3,Q3,O3,B3⟩ (fun k=>¬k<max n 1) (fun k W h hk=>hk h.1)
  (fun x=>{ tmps:=#[Value.int IntKind.i64 (n:Int),Value.func (Fn.func gf) #[] lb,
     Value.pointer (some ⟨w.heap.size,0,none⟩),undef,Value.string ⟨#[]⟩,
     Value.pointer (some ⟨q,0,none⟩),Value.int IntKind.u8 x,Value.int IntKind.i64 (n:Int),
     Value.slice (some ⟨w.heap.size+1,0,none⟩) 0 n,Value.func (Fn.func gf) #[] lb,Value.int IntKind.u8 x,undef,
     undef,undef,undef,undef,undef,undef,undef,undef,undef,undef,undef,undef,undef],defers:=[] }) ?assign ?body ?iter ?stop
 case assign=>
  intro l x W K hK;gi_wp2;exact hK
 case iter=>
  intro l W1 hB1 hs1 R Rx hR hRx hY hbd h0;refine hI l W1 (Kq.trans (Kq.below B3 zn) (Kq.below hB1 (by omega))) R Rx hR hRx (fun k W hk=>hY k (m k) W hk rfl) (fun k W h=>by have:=hbd k W h;omega) h0
 case body=>
  rintro l k x W ⟨hk,hkn,hx,hq,ho,hbw⟩ rfl;have HX:Hid (W.heap[w.heap.size]? =some (.cells #[.int .i64 (n:Int)] 3 (0,0))):=hx;have HQ:Hid (W.heap[q]? =some (.cells #[.slice (some ⟨w.heap.size+1,0,none⟩) k n] 140 (0,0))):=hq;have HO:Hid (W.ownsRow (w.heap.size+1) 5 1 (.slice (some ⟨w.heap.size+1,0,none⟩) k n) k ((upto m k).map (Value.int .u8))):=ho;have HB:Hid (Below w.heap.size w W):=hbw;have c1:W.cell? ⟨w.heap.size,0,none⟩=some (.int .i64 (n:Int)):=by rw[zr hx];rfl
  have c2:W.cell? ⟨q,0,none⟩=some (.slice (some ⟨w.heap.size+1,0,none⟩) k n):=by rw[zr hq];rfl
  clear hx hq ho hbw;by_cases hn0:n=0
  ·subst hn0
   obtain rfl:k=0:=by omega
   gi_wp2;exact⟨rfl,KeepsFrom.refl _ _,Nat.le_refl _,HX.out,HQ.out,HO.out,HB.out⟩
  ·have hkl:k<n:=by omega
   have k1:(k:Int)<(n:Int):=by omega
   have k0:(0:Int)≤(k:Int):=by omega
   obtain⟨x,hxm⟩:∃ x,m k=x:=⟨_,rfl⟩;have HXM:Hid (m k=x):=hxm;rw[hxm];clear hxm;have hWl:q<W.heap.size:=(zi HQ.out).1;obtain⟨W5,hrun5,hown5,hgrow5⟩:=run_append_fits (P:=Tryz.prog) (W.alloc (.cells #[.int .u8 x] 5)) (w.heap.size+1) 140 140 5 i0 1 Tryz.underlying140 hi hz1 (w.heap.size+1) k n _ (HO.out.alloc _) ⟨W.heap.size,0,none⟩ 1 1 [.int .u8 x] rfl (za9 _ _ _) (fun u hu=>by simp at hu;subst hu;rfl) (by omega);have g5:(W.alloc (.cells #[.int .u8 x] 5)).grownBy W5 (some (w.heap.size+1)):=hgrow5;have ba:Below W.heap.size W (W.alloc (.cells #[.int .u8 x] 5)):=(Below.refl _ W).alloc zn _;have sa:(W.alloc (.cells #[.int .u8 x] 5)).heap.size=W.heap.size+1:=by simp
   have Q5:W5.heap[q]? =some (.cells #[.slice (some ⟨w.heap.size+1,0,none⟩) k n] 140 (0,0)):=(g5.block q (by omega) (by intro e;cases e;omega)).trans ((ba.block q hWl).trans HQ.out);have X5:Hid (W5.heap[w.heap.size]? =some (.cells #[.int .i64 (n:Int)] 3 (0,0))):=(g5.block _ (by omega) (by simp)).trans ((ba.block _ (by omega)).trans HX.out);have c3:W5.cell? ⟨q,0,none⟩=some (.slice (some ⟨w.heap.size+1,0,none⟩) k n):=by rw[zr Q5];rfl
   have z3:=frozen_of_row W5 q 0 _ _ Q5;have B5:Hid (Below w.heap.size w W5):=(HB.out.trans (ba.mono HB.out.size)).grown g5 (by omega) (fun j e=>by cases e;omega);have K5:Hid (KeepsFrom w3.heap.size W W5):=(KeepsFrom.of_grownBy (row:=none) ⟨ba.os,ba.tape,ba.output,ba.size,fun j hj _=>ba.block j hj⟩ (fun j e=>by cases e)).trans (KeepsFrom.of_grownBy g5 (fun j e=>by cases e;omega))
   have O5:Hid (W5.ownsRow (w.heap.size+1) 5 1 (.slice (some ⟨w.heap.size+1,0,none⟩) (k+1) n) (k+1) ((upto m (k+1)).map (Value.int .u8))):=by
    rw[zbm,List.map_append,HXM.out];exact hown5
   have Q6:Hid ((W5.setCell ⟨q,0,none⟩ (.slice (some ⟨w.heap.size+1,0,none⟩) (k+1) n)).heap[q]? =some (.cells #[.slice (some ⟨w.heap.size+1,0,none⟩) (k+1) n] 140 (0,0))):=by
    rw[zx W5 q 0 _ _ _ Q5];rfl
   have g6:=zbn W5 q 0 (.slice (some ⟨w.heap.size+1,0,none⟩) (k+1) n);have b6:Below q W5 (W5.setCell ⟨q,0,none⟩ (.slice (some ⟨w.heap.size+1,0,none⟩) (k+1) n)):=zae g6 zn (by have:=(zi Q5).1;omega);have FF:Hid (Fst m n w q (k+1) (W5.setCell ⟨q,0,none⟩ (.slice (some ⟨w.heap.size+1,0,none⟩) (k+1) n))):=⟨by omega,(b6.block _ (by omega)).trans X5.out,Q6.out,zko O5.out b6 (by omega),B5.out.trans (b6.mono (by omega))⟩;have KF:Hid (KeepsFrom w3.heap.size W (W5.setCell ⟨q,0,none⟩ (.slice (some ⟨w.heap.size+1,0,none⟩) (k+1) n))):=K5.out.trans (KeepsFrom.of_grownBy g6 (fun j e=>by cases e;omega));have KK:Hid (Kq w.heap.size W (W5.setCell ⟨q,0,none⟩ (.slice (some ⟨w.heap.size+1,0,none⟩) (k+1) n))):=Kq.trans (Kq.below ba (by omega)) (Kq.trans (Kq.below (zae (B:=w.heap.size) g5 (by omega) (by omega)) zn) (Kq.below b6 (by omega)));have FJ:Hid (∀ j,j=k+1→Fst m n w q j (W5.setCell ⟨q,0,none⟩ (.slice (some ⟨w.heap.size+1,0,none⟩) (k+1) n))):=fun j hj=>by rw[hj];exact FF.out
   have d6:(W5.setCell ⟨q,0,none⟩ (.slice (some ⟨w.heap.size+1,0,none⟩) (k+1) n)).cell? ⟨w.heap.size,0,none⟩=some (.int .i64 (n:Int)):=by rw[zr FF.out.2.1];rfl
   clear hgrow5 hown5 g5 ba sa Q5 g6 b6 K5 B5 O5 X5 HB HQ HX HO Q6;by_cases hend:k+1=n
   ·have q1:((k:Int)+1==(n:Int))=true:=by simp;omega
    have HE:Hid (k+1=n):=hend;clear hend
    gi_wp2_with (gi_at_builtin;refine zaN rfl 140 140 (.tmp 15) (.tmp 17) rfl (vs:=.slice (some ⟨w.heap.size+1,0,none⟩) k n) (vx:=.slice (some ⟨W.heap.size,0,none⟩) 1 1) rfl rfl hrun5 ?_)
    exact⟨rfl,KF.out,FJ.out n HE.out.symm⟩
   ·have q1:((k:Int)+1==(n:Int))=false:=by simp;omega
    gi_wp2_with (gi_at_builtin;refine zaN rfl 140 140 (.tmp 15) (.tmp 17) rfl (vs:=.slice (some ⟨w.heap.size+1,0,none⟩) k n) (vx:=.slice (some ⟨W.heap.size,0,none⟩) 1 1) rfl rfl hrun5 ?_)
    exact⟨KF.out,KK.out,by omega,FF.out⟩
 case stop=>
  rintro D W hD ⟨_,hx,hq,ho,hbw⟩ hdf;have c2:W.cell? ⟨q,0,none⟩=some (.slice (some ⟨w.heap.size+1,0,none⟩) n n):=by rw[zr hq];rfl
  have hcv:(convert 140 9 (.slice (some ⟨w.heap.size+1,0,none⟩) n n)).run Tryz.prog W=.ok (.string (strOfNums (upto m n))) W:=by
   refine run_convert_bytes_arg W 140 5 Tryz.underlying140 Tryz.underlying5 (w.heap.size+1) 0 n n (upto m n) (by rw[zaj]) (fun i hi=>?_) 9 Tryz.underlying9;rw[Nat.zero_add];refine zbL ho ?_;simp[upto,List.getD,hi]
  have HB:Hid (Below w.heap.size w W):=hbw;clear hx hq ho hbw;gi_wp2;rw[Exit.noGoto_ret];refine⟨by simp,.inl ⟨_,_,rfl,run_takeDeferred hdf,?_⟩⟩;refine⟨_,results_tmp rfl _ _ _,rfl,HB.out.trans (zak W _ (by omega))⟩
end
section
open Go.RowKit Go.Shelf Go.Lib
attribute [local go_sem] Oper.semAt_some
def zam:Value→Nat|.int _ x=>x.toNat|_=>0
theorem zjy (s:ByteArray) (k:Nat) (h:s.size≤k):bt s k=0:=by
 unfold bt;rw[Array.getElem?_eq_none (by exact h)];rfl
theorem ze4 (s:ByteArray) (p:Nat) (hp:p<s.size) (w:World):(Instr.index 9 (.string s) (.int .i64 (p:Int))).run Tryz.prog w=.ok (.int .u8 (bt s p)) w:=by
 have h0:(p:Int)<(s.size:Int):=by omega
 simp[Instr.index,run_underlying Tryz.underlying9,go_sem,hp];unfold bt;rw[Array.getElem?_eq_getElem (by exact hp)];rfl
theorem zi0 (s:ByteArray) (b1 N:Nat) (hN:N≤1000000) (w0:World) (hb1:b1<w0.heap.size) (h1:w0.heap[b1]? =some (.cells #[.string s] 9 (0,0))):
  zgU 266 #[.pointer (some ⟨b1,0,none⟩)] (bt s) N w0:=by
 intro l W hKq R Rx hR hRx hY hN' h0;have HY:Hid _:=hY;have HN:Hid _:=hN';have HR:Hid _:=hR;have HRx:Hid _:=hRx;have H0:Hid (R 0 W):=h0;have HB:Hid (W.heap[b1]? =some (.cells #[.string s] 9 (0,0))):=hKq.2 b1 _ hb1 h1 rfl;clear hY hN' hR hRx h0 hKq h1;refine callsIn_of_wp Tryz.func266 rfl trivial ?_ rfl;simp only[Tryz.ntmps266,zS1,zS2,zS3,Nat.reduceAdd,Nat.reduceSub,zS4,zS5,zS6,zS7,zS8,zS9];gi_wp2
 gi_loopw [3] (fun i wr=>∃ k:Nat,i=.int .i64 (k:Int)∧R k wr∧wr.heap[b1]? =some (.cells #[.string s] 9 (0,0))) (fun i _=>N - zam i)
 case atStart=>exact⟨0,rfl,H0.out,HB.out⟩
 case round=>
  clear H0 HB;obtain⟨k,rfl,hRk,hb⟩:=hrel;have HRk:Hid (R k wr):=hRk;have HB:Hid (wr.heap[b1]? =some (.cells #[.string s] 9 (0,0))):=hb;have hkN:=HN.out k wr hRk;have c1:wr.cell? ⟨b1,0,none⟩=some (.string s):=by rw[zr hb];rfl
  have k0:(0:Int)≤(k:Int):=by omega
  have k1:(k:Int)≤1000000:=by omega
  obtain⟨fn,tmps,assign,body,hy,hRd⟩:=HY.out k wr hRk;clear hRk hb;by_cases hlt:k<s.size
  ·have q1:(k:Int)<(s.size:Int):=by omega
   have hix:=ze4 s k hlt;generalize bt s k=x at*
   gi_wp2;refine hRd.mono ?_;rintro e W6 (⟨rfl,hR6,hk6⟩|⟨rfl,hx6⟩)
   ·gi_wp2
    go_roundw
    case rel=>exact⟨k+1,by go_num,hR6,hk6.2 b1 _ hb1 HB.out rfl⟩
    case measure=>simp[zam];omega
   ·gi_wp2
    refine bodyPost_ret (results_none rfl _ _ _) rfl ?_;exact⟨⟨_,rfl⟩,hx6⟩
  ·have q1:¬(k:Int)<(s.size:Int):=by omega
   rw[zjy s k (by omega)] at hy;gi_wp2;refine hRd.mono ?_;rintro e W6 (⟨rfl,hR6,hk6⟩|⟨rfl,hx6⟩)
   ·gi_wp2
    go_roundw
    case rel=>exact⟨k+1,by go_num,hR6,hk6.2 b1 _ hb1 HB.out rfl⟩
    case measure=>simp[zam];omega
   ·gi_wp2
    refine bodyPost_ret (results_none rfl _ _ _) rfl ?_;exact⟨⟨_,rfl⟩,hx6⟩
theorem zdW (s:ByteArray) (w:World):
  Calls Tryz.prog 249 #[.string s] w fun e w'=>e=.returned (.func (.func 266) #[] #[.pointer (some ⟨w.heap.size,0,none⟩)])∧w'=w.alloc (.cells #[.string s] 9):=by
 go_enter Tryz.func249,Tryz.ntmps249;go_wp2_with fail;go_ret;exact⟨rfl,rfl⟩
theorem zdX (s:ByteArray) (n:Nat) (hn:n≤100000) (w:World) (b1:Nat) (h1:w.heap[b1]? =some (.cells #[.string s] 9 (0,0))):
  Calls Tryz.prog 248 #[.int .i64 (n:Int),.func (.func 266) #[] #[.pointer (some ⟨b1,0,none⟩)]] w fun e w'=>e=.returned (.string (strOfNums (upto (bt s) n)))∧Below w.heap.size w w':=
 callsIn_wide.1 (zhX 266 _ (bt s) n hn w (enters_of Tryz.func266 (by kernel_rfl) rfl) (zi0 s b1 (max n 1) (by omega) w (zi h1).1 h1))
def kp (Kt:Nat→Int) (key:ByteArray):ByteArray:=if 64<key.size then strOfNums (dig Kt (lf IV) (bt key) key.size) else key
def zcC (Kt:Nat→Int) (key:ByteArray):ByteArray:=strOfNums (upto (bt (kp Kt key)) 64)
theorem zmx (Kt:Nat→Int) (key:ByteArray) (hk:key.size≤1000000) (w:World) {tt:TypeId} {fr:Nat × Nat} (hK:w.heap[3]? =some (.cells (w64 Kt) tt fr)):
  Calls Tryz.prog 217 #[.string key] w fun e w'=>e=.returned (.string (zcC Kt key))∧Below w.heap.size w w':=by
 have FA:∀ (s:ByteArray) (W:World),Hid (Calls Tryz.prog 248 #[.int .i64 64,.func (.func 266) #[] #[.pointer (some ⟨W.heap.size,0,none⟩)]] (W.alloc (.cells #[.string s] 9)) fun e w'=>e=.returned (.string (strOfNums (upto (bt s) 64)))∧Below W.heap.size W w'):=fun s W=>
  (zdX s 64 (by decide) (W.alloc (.cells #[.string s] 9)) W.heap.size (zq W _)).mono fun e w' ⟨h1,h2⟩=>⟨h1,(zaa W _).trans (h2.mono (by simp))⟩
 have HK:Hid (w.heap[3]? =some (.cells (w64 Kt) tt fr)):=hK;clear hK;by_cases h64:64<key.size
 ·have q1:(64:Int)<(key.size:Int):=by omega
  have HP:Hid (zcC Kt key=strOfNums (upto (bt (strOfNums (dig Kt (lf IV) (bt key) key.size))) 64)):=by
   refine(?_:zcC Kt key=_);unfold zcC kp;rw[if_pos h64]
  have hds:(strOfNums (dig Kt (lf IV) (bt key) key.size)).size=32:=by rw[strOfNums_size,zeA]
  go_enter Tryz.func217,Tryz.ntmps217;go_wp2_with fail;refine(ziY Kt key w HK.out (by omega)).mono ?_;rintro e w1 ⟨rfl,b1⟩;have B1:Hid (Below w.heap.size w w1):=b1;generalize strOfNums (dig Kt (lf IV) (bt key) key.size)=D at*
  clear b1;go_wp2_with fail;refine(zdW D w1).mono ?_;rintro e w2 ⟨rfl,rfl⟩;have F2:=FA D w1;clear FA;go_wp2_with fail;refine F2.out.mono ?_;rintro e w3 ⟨rfl,b3⟩;have B3:Hid (Below w.heap.size w w3):=B1.out.trans (b3.mono B1.out.size);clear b3 B1 F2;go_wp2_with fail;go_ret;exact⟨by rw[HP.out];rfl,B3.out⟩
 ·have q1:¬(64:Int)<(key.size:Int):=by omega
  have HP:Hid (zcC Kt key=strOfNums (upto (bt key) 64)):=by
   refine(?_:zcC Kt key=_);unfold zcC kp;rw[if_neg h64]
  have F2:=FA key w;clear FA;go_enter Tryz.func217,Tryz.ntmps217;go_wp2_with fail;refine(zdW key w).mono ?_;rintro e w2 ⟨rfl,rfl⟩;go_wp2_with fail;refine F2.out.mono ?_;rintro e w3 ⟨rfl,b3⟩;have B3:Hid (Below w.heap.size w w3):=b3;clear b3 F2;go_wp2_with fail;go_ret;exact⟨by rw[HP.out];rfl,B3.out⟩
end
section
open Go.RowKit Go.Lib
def msk (s:ByteArray) (c:Int):ByteArray:=strOfNums (upto (fun j=>bits .xor .u8 (bt s j) c) s.size)
theorem zhY (s:ByteArray) (c:Int):(msk s c).size=s.size:=by unfold msk;rw[strOfNums_size,zaj]
theorem zbe (w:World) (b i:Nat) (cs:Array Value) (T:TypeId) (fr:Nat × Nat) (v:Value) (hb:w.heap[b]? =some (.cells cs T fr)):(w.setCell ⟨b,i,none⟩ v).heap[b]? =some (.cells (cs.setIfInBounds i v) T fr):=by
 rw[setCell_eq_setRow w b i cs T fr v hb];exact setRow_heap w b cs _ T _ hb
theorem zeB (s:ByteArray) (hs:s.size≤1000000) (c:Int) (w:World):
  Calls Tryz.prog 218 #[.string s,.int .u8 c] w fun e w'=>e=.returned (.string (msk s c))∧Below w.heap.size w w':=by
 have hcv:=run_bytes_of_string (P:=Tryz.prog) w 9 140 5 s Tryz.underlying9 Tryz.underlying140 Tryz.underlying5;obtain⟨cap,hcap⟩:∃ cap,grownCap w s.size 0 5=cap:=⟨_,rfl⟩;rw[hcap] at hcv;obtain⟨Z,hZ⟩:∃ Z,(bytesRow s cap).size=Z:=⟨_,rfl⟩;rw[hZ] at hcv
 have hZs:s.size≤Z:=by
  rw[←hZ];unfold bytesRow;rw[Array.size_append,Array.size_map];exact Nat.le_add_right _ _
 obtain⟨W1,hW1⟩:∃ W1,w.drew.alloc (.cells (bytesRow s cap) 5 (Z,Z+1))=W1:=⟨_,rfl⟩;rw[hW1] at hcv;have R1:Hid (W1.heap[w.heap.size]? =some (.cells (bytesRow s cap) 5 (Z,Z+1))):=by rw[←hW1];exact zq w.drew _
 have B1:Hid (Below w.heap.size w W1):=by rw[←hW1];exact((Below.refl _ w).drew).alloc zn _
 have C1:Hid (∀ j,j<s.size→(bytesRow s cap)[j]? =some (.int .u8 (bt s j))):=fun j hj=>by
  rw[bytesRow_at s cap j hj];unfold bt;rw[Array.getElem?_eq_getElem hj];rfl
 have hsz:(s.size:Int)≤1000000:=by omega
 generalize bytesRow s cap=cs at*
 clear hW1 hcap hZ;go_enter Tryz.func218,Tryz.ntmps218;go_wp2_with fail
 go_loopw [11] (fun i wr=>∃ (k:Nat) (ds:Array Value),k≤s.size∧i=.int .i64 (k:Int)∧wr.heap[w.heap.size]? =some (.cells ds 5 (Z,Z+1))∧(∀ j,j<s.size→ds[j]? =some (.int .u8 (if j<k then bits .xor .u8 (bt s j) c else bt s j)))∧Below w.heap.size w wr) (fun i _=>s.size - (intOf i).toNat)
 case atStart=>exact⟨0,cs,by omega,rfl,R1.out,fun j hj=>by simpa using C1.out j hj,B1.out⟩
 case round=>
  clear R1 B1 C1;obtain⟨k,ds,hk,rfl,hrow,hds,hbe⟩:=hrel;have RX:Hid (wr.heap[w.heap.size]? =some (.cells ds 5 (Z,Z+1))):=hrow;have DX:Hid (∀ j,j<s.size→ds[j]? =some (.int .u8 (if j<k then bits .xor .u8 (bt s j) c else bt s j))):=hds;have BX:Hid (Below w.heap.size w wr):=hbe;clear hds hbe;by_cases hlt:k<s.size
  ·have c1:wr.cell? ⟨w.heap.size,k,none⟩=some (.int .u8 (bt s k)):=by rw[zr hrow,DX.out k hlt];simp
   have hz:wr.frozen? ⟨w.heap.size,k,none⟩=false:=by simp[World.frozen?,hrow];omega
   have g0:(0:Int)≤(k:Int):=by omega
   have g1:(k:Int)<(s.size:Int):=by omega
   clear hrow;obtain⟨x,hx⟩:∃ x,bt s k=x:=⟨_,rfl⟩;have HX:Hid (bt s k=x):=hx;rw[hx] at c1;clear hx;go_wp2_with fail
   go_roundw
   case rel=>
    refine⟨k+1,ds.setIfInBounds k (.int .u8 (bits .xor .u8 x c)),hlt,by go_num,zbe _ _ _ _ _ _ _ RX.out,fun j hj=>?_,BX.out.setCell zn _⟩;by_cases e:j=k
    ·subst e
     rw[Array.getElem?_setIfInBounds_self_of_lt (by have:=DX.out j hj;exact(zi this).1),if_pos (by omega),HX.out]
    ·rw[Array.getElem?_setIfInBounds_ne (fun h=>e h.symm),DX.out j hj]
     by_cases h2:j<k
     ·rw[if_pos h2,if_pos (by omega)]
     ·rw[if_neg h2,if_neg (by omega)]
   case measure=>simp[intOf];omega
  ·obtain rfl:k=s.size:=by omega
   have a0:¬(s.size:Int)<(s.size:Int):=by omega
   have hcb:(convert 140 9 (.slice (some ⟨w.heap.size,0,none⟩) s.size cap)).run Tryz.prog wr=.ok (.string (msk s c)) wr:=by
    unfold msk;refine run_convert_bytes_arg wr 140 5 Tryz.underlying140 Tryz.underlying5 w.heap.size 0 s.size cap _ (by rw[zaj]) (fun i hi=>?_) 9 Tryz.underlying9;rw[Nat.zero_add,zr hrow,DX.out i hi,if_pos hi];simp[upto,List.getD,hi]
   clear hrow;go_wp2_with fail;go_ret;exact⟨rfl,BX.out⟩
def catS (ts:Nat→ByteArray):Nat→ByteArray
 |0=>⟨#[]⟩
 |j+1=>catS ts j++ts j
theorem zfS (ts:Nat→ByteArray) (n:Nat):(catS ts n).size=offs ts n:=by
 induction n with
 |zero=>rfl
 |succ n ih=>show(catS ts n++ts n).size=offs ts n+(ts n).size;rw[ByteArray.size_append,ih]
theorem zop (ts:Nat→ByteArray):∀ n i,i<n→∀ j,j<(ts i).size→bt (ts i) j=bt (catS ts n) (offs ts i+j):=by
 intro n
 induction n with
 |zero=>intro i hi;omega
 |succ n ih=>
  intro i hi j hj;show _=bt (catS ts n++ts n) (offs ts i+j);rw[zhE,zfS];by_cases e:i=n
  ·subst e
   rw[if_neg (by omega),show offs ts i+j - offs ts i=j by omega]
  ·have h1:offs ts (i+1)≤offs ts n:=zbB ts (by omega)
   have h2:offs ts (i+1)=offs ts i+(ts i).size:=rfl;rw[if_pos (by omega)];exact ih i (by omega) j hj
def shaS (Kt:Nat→Int) (s:ByteArray):ByteArray:=strOfNums (dig Kt (lf IV) (bt s) s.size)
theorem zfT (Kt:Nat→Int) (s:ByteArray):(shaS Kt s).size=32:=by unfold shaS;rw[strOfNums_size,zeA]
theorem zi1 (Kt:Nat→Int) (key:ByteArray):(zcC Kt key).size=64:=by unfold zcC;rw[strOfNums_size,zaj]
def macS (Kt:Nat→Int) (key C:ByteArray):ByteArray:=shaS Kt (msk (zcC Kt key) 92++shaS Kt (msk (zcC Kt key) 54++C))
theorem zdY (Kt:Nat→Int) (key C:ByteArray):(macS Kt key C).size=32:=zfT _ _
theorem zkp (Kt:Nat→Int) (len cap:Nat) (o:Option Addr) (ts:Nat→ByteArray) (C:ByteArray) (hC:catS ts len=C) (w:World) {tt:TypeId} {fr:Nat × Nat} (hK:w.heap[3]? =some (.cells (w64 Kt) tt fr))
  (hL:C.size≤1000000000000) (hlen:len≤1099511627776)
  (hts:∀ i,i<len→∃ b off,o=some ⟨b,off,none⟩∧b<w.heap.size∧w.cell? ⟨b,off+i,none⟩=some (.string (ts i))):
  Calls Tryz.prog 219 #[.slice o len cap] w fun e w'=>e=.returned (.string (shaS Kt C))∧Below w.heap.size w w':=by
 have hz:C.size=offs ts len:=by rw[←hC];exact zfS ts len
 refine(zdf Kt (bt C) (zaK C) len cap o ts w hK (by omega) hlen fun i hi=>⟨hts i hi,fun j hj=>by rw[←hC];exact zop ts len i hi j hj⟩).mono ?_;rintro e w' ⟨rfl,h⟩;exact⟨by unfold shaS;rw[hz],h⟩
theorem zoq:(Tryz.prog.info? 9).map (fun i=>(i.zero,i.size,i.bytes))=some (some (.string ⟨#[]⟩),1,16):=by kernel_rfl
def ahead (x:ByteArray) (ts:Nat→ByteArray):Nat→ByteArray
 |0=>x
 |i+1=>ts i
theorem zkq (x:ByteArray) (ts:Nat→ByteArray) (n:Nat):catS (ahead x ts) (n+1)=x++catS ts n:=by
 induction n with
 |zero=>apply ByteArray.ext;simp[catS,ahead]
 |succ n ih=>
  show catS (ahead x ts) (n+1)++ts n=x++(catS ts n++ts n);rw[ih,zkn]
theorem zkr (W:World) (B:Nat) (x:ByteArray) (hB:W.heap[B]? =some (.cells #[.string x] 9 (0,0))) (o:Option Addr) (len cap:Nat) (ho:o=none→len=0∧cap=0) (ts:Nat→ByteArray) (hlen:len≤1000000)
  (hts:∀ i,i<len→∃ b off,o=some ⟨b,off,none⟩∧b<W.heap.size∧W.cell? ⟨b,off+i,none⟩=some (.string (ts i))) (ty:TypeId):
  ∃ p c W',(Builtin.append_ #[37,37] ty #[.slice (some ⟨B,0,none⟩) 1 1,.slice o len cap]).run Tryz.prog W=.ok (.slice (some ⟨p,0,none⟩) (len+1) c) W'∧p<W'.heap.size∧Below B W W'∧∀ i,i<len+1→W'.cell? ⟨p,i,none⟩=some (.string (ahead x ts i)):=by
 obtain⟨i0,hi,hz0,hz1,hz2⟩:=info_parts zoq;have hBl:B<W.heap.size:=(zi hB).1;cases o with
 |none=>
  obtain⟨rfl,rfl⟩:=ho rfl;refine⟨B,1,W,?_,hBl,Below.refl _ _,fun i hi=>?_⟩
  ·simp[Builtin.append_,run_underlying Tryz.underlying37,sizeOf,typeInfo,hi,Builtin.lenOf,Builtin.firstCells,loadCells,storeCells]
  ·obtain rfl:i=0:=by omega
   rw[zr hB];rfl
 |some a=>
  have hown:W.ownsRow B 9 1 (.slice (some ⟨B,0,none⟩) 1 1) 1 [.string x]:=⟨rfl,.inr ⟨B,1,#[.string x],rfl,Nat.le_refl _,hB,Nat.le_refl _,by decide,rfl,rfl⟩⟩
  have hcat:∀ j u,((List.range len).map fun i=>Value.string (ts i))[j]? =some u→W.cell? (a.add j)=some u:=fun j u hj=>by
   have hjl:j<len:=by have:=(List.getElem?_eq_some_iff.1 hj).1;simpa using this
   obtain⟨b,off,hab,_,hc⟩:=hts j hjl;rw[Option.some.inj hab,Addr.add_lit,hc];simpa [hjl] using hj
  obtain⟨v',W',hr,ho',hg,_,_⟩:=run_append_own_at (P:=Tryz.prog) W B 37 ty 9 i0 (.string ⟨#[]⟩) 1 16 Tryz.underlying37 hi hz0 hz1 hz2 rfl (by decide) _ 1 _ hown a len cap ((List.range len).map fun i=>Value.string (ts i)) (by simp) hcat (fun u hu=>by obtain⟨i,_,rfl⟩:=List.mem_map.1 hu;rfl) (by unfold maxLen;omega) (by omega) (Nat.le_of_lt hBl)
  obtain⟨p,c,hv⟩:∃ p c,v'=.slice (some ⟨p,0,none⟩) (1+len) c:=by
   rcases ho'.2 with⟨_,h0⟩|⟨p,c,_,h,_⟩
   ·omega
   ·exact⟨p,c,h⟩
  subst hv;refine⟨p,c,W',by rw[hr,Nat.add_comm],zaI ho',zae hg zn (Nat.le_of_lt hBl),fun i hi'=>zbL ho' ?_⟩
  match i,hi' with
  |0,_=>rfl
  |i+1,h=>simp[ahead,show i<len by omega]
theorem zor (Kt:Nat→Int) (key:ByteArray) (hk:key.size≤1000000) (len cap:Nat) (o:Option Addr) (ho:o=none→len=0∧cap=0) (ts:Nat→ByteArray) (C:ByteArray) (hC:catS ts len=C) (w:World) {tt:TypeId} {fr:Nat × Nat} (hK:w.heap[3]? =some (.cells (w64 Kt) tt fr))
  (hL:C.size≤1000000000) (hlen:len≤1000000) (hts:∀ i,i<len→∃ b off,o=some ⟨b,off,none⟩∧b<w.heap.size∧w.cell? ⟨b,off+i,none⟩=some (.string (ts i))):
  Calls Tryz.prog 181 #[.string key,.slice o len cap] w fun e w'=>e=.returned (.string (macS Kt key C))∧Below w.heap.size w w':=by
 have h1l:3<w.heap.size:=(zi hK).1;have HK:Hid (w.heap[3]? =some (.cells (w64 Kt) tt fr)):=hK;have HTS:Hid (∀ i,i<len→∃ b off,o=some ⟨b,off,none⟩∧b<w.heap.size∧w.cell? ⟨b,off+i,none⟩=some (.string (ts i))):=hts;have HO:Hid (o=none→len=0∧cap=0):=ho;have HC:Hid (catS ts len=C):=hC;have HM:Hid (macS Kt key C=shaS Kt (msk (zcC Kt key) 92++shaS Kt (msk (zcC Kt key) 54++C))):=rfl;have PA:Hid (Calls Tryz.prog 217 #[.string key] w fun e w'=>e=.returned (.string (zcC Kt key))∧Below w.heap.size w w'):=zmx Kt key hk w hK;have hps:=zi1 Kt key;clear hK hts ho hC;generalize zcC Kt key=p at*
 go_enter Tryz.func181,Tryz.ntmps181;go_wp2_with fail;refine PA.out.mono ?_;rintro e w1 ⟨rfl,b1⟩;have B1:Hid (Below w.heap.size w w1):=b1;clear b1 PA;go_wp2_with fail;refine(zeB p (by omega) 54 w1).mono ?_;rintro e w2 ⟨rfl,b2⟩;have B2:Hid (Below w.heap.size w w2):=B1.out.trans (b2.mono B1.out.size);have hxs:=zhY p 54;clear b2 B1;obtain⟨x,hx⟩:∃ x,msk p 54=x:=⟨_,rfl⟩;rw[hx] at HM hxs ⊢;clear hx;obtain⟨W3,hW3⟩:∃ W3,w2.alloc (.cells #[.string x] 9)=W3:=⟨_,rfl⟩;have B3:Hid (Below w.heap.size w W3):=by rw[←hW3];exact B2.out.alloc B2.out.size _
 have R3:W3.heap[w2.heap.size]? =some (.cells #[.string x] 9 (0,0)):=by rw[←hW3];exact zq w2 _
 obtain⟨pp,c,W4,hr4,hp4,b4,hc4⟩:=zkr W3 w2.heap.size x R3 o len cap HO.out ts hlen (fun i hi=>by
  obtain⟨b,off,h1,h2,h3⟩:=HTS.out i hi;exact⟨b,off,h1,Nat.lt_of_lt_of_le h2 B3.out.size,(zbC (B3.out.block b h2) _).trans h3⟩) 37
 have B4:Hid (Below w.heap.size w W4):=B3.out.trans (b4.mono B2.out.size);have C4:Hid (∀ i,i<len+1→W4.cell? ⟨pp,i,none⟩=some (.string (ahead x ts i))):=hc4;rw[←hW3] at hr4;clear R3 hW3 b4 hc4 B3
 go_wp2_with (at_builtin;refine zaq rfl 37 37 (.tmp 11) (.tmp 12) rfl (vs:=.slice (some ⟨w2.heap.size,0,none⟩) 1 1) (vx:=.slice o len cap) rfl rfl hr4 ?_)
 refine(zeB p (by omega) 92 W4).mono ?_;rintro e w5 ⟨rfl,b5⟩;have B5:Hid (Below w.heap.size w w5):=B4.out.trans (b5.mono B4.out.size);have C5:Hid (∀ i,i<len+1→w5.cell? ⟨pp,i,none⟩=some (.string (ahead x ts i))):=fun i hi=>(zbC (b5.block pp hp4) _).trans (C4.out i hi)
 have hp5:pp<w5.heap.size:=Nat.lt_of_lt_of_le hp4 b5.size;have hys:=zhY p 92;clear b5 B4 C4 B2 hr4;obtain⟨y,hy⟩:∃ y,msk p 92=y:=⟨_,rfl⟩;rw[hy] at HM hys ⊢;clear hy;have hAC:(x++C).size=x.size+C.size:=ByteArray.size_append;go_wp2_with fail;refine(zkp Kt (len+1) c (some ⟨pp,0,none⟩) (ahead x ts) (x++C) (by rw[zkq,HC.out]) w5 ((B5.out.block 3 h1l).trans HK.out) (by omega) (by omega) (fun i hi=>⟨pp,0,rfl,hp5,by rw[Nat.zero_add];exact C5.out i hi⟩)).mono ?_;rintro e w6 ⟨rfl,b6⟩;have B6:Hid (Below w.heap.size w w6):=B5.out.trans (b6.mono B5.out.size);have hzs:=zfT Kt (x++C);clear b6 B5 C5;obtain⟨z,hz⟩:∃ z,shaS Kt (x++C)=z:=⟨_,rfl⟩;rw[hz] at HM hzs ⊢;clear hz;have hBC:(y++z).size=y.size+z.size:=ByteArray.size_append
 have AD:∀ T,Hid (Calls Tryz.prog 219 #[.slice (some ⟨w6.heap.size,0,none⟩) 2 2] (w6.alloc (.cells #[.string y,.string z] T)) fun e w'=>e=.returned (.string (shaS Kt (y++z)))∧Below w6.heap.size w6 w'):=fun T=>
  (zkp Kt 2 2 (some ⟨w6.heap.size,0,none⟩) (fun i=>if i=0 then y else z) (y++z) (by apply ByteArray.ext;simp[catS]) (w6.alloc (.cells #[.string y,.string z] T)) (((zaa w6 _).block 3 (by have:=B6.out.size;omega)).trans ((B6.out.block 3 h1l).trans HK.out)) (by omega) (by decide) (fun i hi=>⟨w6.heap.size,0,rfl,by simp,by
   rw[Nat.zero_add,zr (zq w6 _)]
   match i,hi with
   |0,_=>rfl
   |1,_=>rfl⟩)).mono fun e w' ⟨h1,h2⟩=>⟨h1,(zaa w6 _).trans (h2.mono (by simp))⟩
 go_wp2_with fail;refine(AD _).out.mono ?_;rintro e w7 ⟨rfl,b7⟩;have B7:Hid (Below w.heap.size w w7):=B6.out.trans (b7.mono B6.out.size);clear b7 B6 AD;go_wp2_with fail;go_ret;exact⟨by rw[HM.out];rfl,B7.out⟩
theorem zgV (Kt:Nat→Int) (key:ByteArray) (hk:key.size≤1000000) (n:Nat) (hn:n≤1000) (cs:Array Value) (T:TypeId) (ts:Nat→ByteArray) (C:ByteArray) (hC:catS ts n=C) (hL:C.size≤1000000000) (hc:∀ i,i<n→cs[i]? =some (.string (ts i))) (w:World) {tt:TypeId} {fr:Nat × Nat} (hK:w.heap[3]? =some (.cells (w64 Kt) tt fr)):
  Calls Tryz.prog 181 #[.string key,.slice (some ⟨w.heap.size,0,none⟩) n n] (w.alloc (.cells cs T)) fun e w'=>e=.returned (.string (macS Kt key C))∧Below w.heap.size w w':=by
 have h1l:3<w.heap.size:=(zi hK).1;refine(zor Kt key hk n n (some ⟨w.heap.size,0,none⟩) (fun h=>by cases h) ts C hC (w.alloc (.cells cs T)) (((zaa w _).block 3 h1l).trans hK) hL (by omega) fun i hi=>⟨w.heap.size,0,rfl,by simp,?_⟩).mono fun e w' ⟨h1,h2⟩=>⟨h1,(zaa w _).trans (h2.mono (by simp))⟩
 rw[Nat.zero_add,zr (zq w _)];exact hc i hi
theorem zos (x y:Int) (x0:0≤x) (x1:x<256) (y0:0≤y) (y1:y<256):(bits .or .u8 x y=0↔x=0∧y=0)∧0≤bits .or .u8 x y∧bits .or .u8 x y<256:=by
 obtain⟨a,rfl⟩:=Int.eq_ofNat_of_zero_le x0;obtain⟨b,rfl⟩:=Int.eq_ofNat_of_zero_le y0;rw[u8_or_nat a b (by omega) (by omega)];have h1:a|||b<2 ^ 8:=Nat.or_lt_two_pow (by omega) (by omega)
 refine⟨?_,by omega,by omega⟩;have h2:a|||b=0↔a=0∧b=0:=Nat.or_eq_zero_iff
 omega
theorem xor_zero (x y:Int) (x0:0≤x) (x1:x<256) (y0:0≤y) (y1:y<256):(bits .xor .u8 x y=0↔x=y)∧0≤bits .xor .u8 x y∧bits .xor .u8 x y<256:=by
 obtain⟨a,rfl⟩:=Int.eq_ofNat_of_zero_le x0;obtain⟨b,rfl⟩:=Int.eq_ofNat_of_zero_le y0;rw[u8_xor_nat a b (by omega) (by omega)];have h1:a ^^^ b<2 ^ 8:=Nat.xor_lt_two_pow (by omega) (by omega);refine⟨?_,by omega,by omega⟩
 have h2:a ^^^ b=0↔a=b:=by
  constructor
  ·intro h
   have e:(a ^^^ b) ^^^ b=a:=by rw[Nat.xor_assoc,Nat.xor_self,Nat.xor_zero]
   rw[h,Nat.zero_xor] at e;exact e.symm
  ·rintro rfl
   exact Nat.xor_self _
 omega
theorem zc6 (a b:ByteArray) (hs:a.size=b.size) (h:∀ j,j<a.size→bt a j=bt b j):a=b:=by
 apply ByteArray.ext;apply Array.ext
 ·exact hs
 ·intro i h1 h2
  have:=h i h1;unfold bt at this;rw[Array.getElem?_eq_getElem h1,Array.getElem?_eq_getElem h2] at this;simp only[Option.getD_some] at this;exact UInt8.toNat_inj.1 (by omega)
theorem zdZ (a b:ByteArray) (ha:a.size≤maxLen) (w:World):
  Calls Tryz.prog 260 #[.string a,.string b] w fun e w'=>e=.returned (.bool (decide (a=b)))∧Below w.heap.size w w':=by
 unfold maxLen at ha;by_cases hs:a.size=b.size
 ·have q0:((a.size:Int) !=(b.size:Int))=false:=by simp[hs]
  have HS:Hid (a.size=b.size):=hs;have hsz:(a.size:Int)≤9223372036854775807:=by omega
  clear hs;go_enter Tryz.func260,Tryz.ntmps260;go_wp2_with fail
  go_loopw [5,14] (fun v i wr=>∃ (k:Nat) (x:Int),k≤a.size∧v=.int .u8 x∧i=.int .i64 (k:Int)∧(x=0↔∀ j,j<k→bt a j=bt b j)∧0≤x∧x<256∧Below w.heap.size w wr) (fun _ i _=>a.size - (intOf i).toNat)
  case atStart=>exact⟨0,0,by omega,rfl,rfl,by simp,by decide,by decide,Below.refl _ _⟩
  case round=>
   obtain⟨k,x,hk,rfl,rfl,hx,x0,x1,hbe⟩:=hrel;have HX:Hid (x=0↔∀ j,j<k→bt a j=bt b j):=hx;have BX:Hid (Below w.heap.size w wr):=hbe;clear hx hbe;by_cases hlt:k<a.size
   ·have g0:(k:Int)<(a.size:Int):=by omega
    have g1:(0:Int)≤(k:Int):=by omega
    have i1:=ze4 a k hlt;have i2:=ze4 b k (by have:=HS.out;omega);have ra:=zaK a k;have rb:=zaK b k;have HV:Hid (∀ j,j<k→True):=fun _ _=>trivial
    obtain⟨p,hp⟩:∃ p,bt a k=p:=⟨_,rfl⟩;obtain⟨q,hq⟩:∃ q,bt b k=q:=⟨_,rfl⟩;rw[hp] at i1 ra;rw[hq] at i2 rb;have HPQ:Hid (bt a k=p∧bt b k=q):=⟨hp,hq⟩;have hxo:=xor_zero p q ra.1 ra.2 rb.1 rb.2;have hoo:=zos x (bits .xor .u8 p q) x0 x1 hxo.2.1 hxo.2.2;have HOO:Hid (((bits .or .u8 x (bits .xor .u8 p q)=0↔x=0∧bits .xor .u8 p q=0)∧0≤bits .or .u8 x (bits .xor .u8 p q)∧bits .or .u8 x (bits .xor .u8 p q)<256)∧(bits .xor .u8 p q=0↔p=q)):=⟨hoo,hxo.1⟩;clear hp hq hxo hoo HV;go_wp2_with fail;refine wp_region_any (by kernel_rfl) ?_;change wpAny _ _ _ _ _ _ _ (World.drew _);refine plan [0,1,2,3,4,5,6,7,8] ?_
    iterate 9
     refine tkA (v:=?_) rfl ?_ ?_;rotate_left
     ·intro w;go_simp;try with_reducible rfl
     conv in(Act.put _ _ _)=>simp only[zL1,zL2,zL3,Act.put,zL4,zL5,zL6]
    refine plan0 ?_;refine wpAny_ready (rs:=[9]) (by kernel_rfl) (by simp) ?_;refine(AllReady.cons rfl (fun K hK=>?_) AllReady.nil);go_simp;refine hK _ _ ?_;clear hK K;refine wpAny_done (by kernel_rfl) ?_ _;go_wp2_with fail
    go_roundw
    case rel=>
     refine⟨k+1,_,hlt,rfl,by go_num,?_,HOO.out.1.2.1,HOO.out.1.2.2,BX.out.drew⟩;rw[HOO.out.1.1,HOO.out.2,HX.out];obtain⟨hp,hq⟩:=HPQ.out;constructor
     ·rintro⟨h1,h2⟩ j hj
      by_cases e:j=k
      ·subst e;rw[hp,hq,h2]
      ·exact h1 j (by omega)
     ·intro h
      exact⟨fun j hj=>h j (by omega),by rw[←hp,←hq];exact h k (by omega)⟩
    case measure=>simp[intOf];omega
   ·obtain rfl:k=a.size:=by omega
    have a0:¬(a.size:Int)<(a.size:Int):=by omega
    have hfin:(x==0)=decide (a=b):=by
     by_cases e:a=b
     ·subst e
      have:x=0:=HX.out.2 (fun j _=>rfl);simp[this]
     ·have:¬x=0:=fun h0=>e (zc6 a b HS.out (HX.out.1 h0))
      simp[this,e]
    have HF:Hid ((x==0)=decide (a=b)):=hfin;clear hfin;go_wp2_with fail;go_ret;exact⟨by rw[←HF.out];rfl,BX.out⟩
 ·have q0:((a.size:Int) !=(b.size:Int))=true:=by simp;omega
  have hd:decide (a=b)=false:=by simp;intro e;exact hs (by rw[e])
  rw[hd];clear hd;go_enter Tryz.func260,Tryz.ntmps260;go_wp2_with fail;go_ret;exact⟨rfl,Below.refl _ _⟩
open Go.RowKit Go.Shelf Go.Lib
attribute [local go_sem] Oper.semAt_some
def tsq (Kt:Nat→Int) (key label:ByteArray):Nat→ByteArray
 |0=>⟨#[]⟩
 |i+1=>macS Kt key (tsq Kt key label i++label++strOfNums [((i+1:Nat):Int)])
theorem zhZ (Kt:Nat→Int) (key label:ByteArray) (i:Nat):(tsq Kt key label (i+1)).size=32:=zdY _ _ _
theorem zpG (Kt:Nat→Int) (key label:ByteArray) (i:Nat):(tsq Kt key label i).size≤32:=by
 cases i with
 |zero=>exact Nat.zero_le _
 |succ i=>rw[zhZ];exact Nat.le_refl _
def xpd (Kt:Nat→Int) (key label:ByteArray) (k:Nat):Int:=bt (tsq Kt key label (k/32+1)) (k%32)
theorem zpH (Kt:Nat→Int) (key label:ByteArray) (i k:Nat) (hk:k<32):xpd Kt key label (32*i+k)=bt (tsq Kt key label (i+1)) k:=by
 unfold xpd;rw[show(32*i+k)/32=i by omega,show(32*i+k)%32=k by omega]
theorem zot (w:World) (x:Int):(convert 140 9 (.slice (some ⟨w.heap.size,0,none⟩) 1 1)).run Tryz.prog (w.alloc (.cells #[.int .u8 x] 5))=.ok (.string (strOfNums [x])) (w.alloc (.cells #[.int .u8 x] 5)):=
 zmw w #[.int .u8 x] [x] 1 rfl (fun i hi=>by
  match i,hi with
  |0,_=>rfl)
theorem zfU (Kt:Nat→Int) (key label:ByteArray) (hk:key.size≤1000000) (hlb:label.size≤1000000) (b1 b2 N:Nat) (hN:N≤8160) (w0:World) (hb1:b1<w0.heap.size) (hb2:b2<w0.heap.size) (h1:w0.heap[b1]? =some (.cells #[.string key] 9 (0,0))) (h2:w0.heap[b2]? =some (.cells #[.string label] 9 (0,0)))
  {tt:TypeId} {fr:Nat × Nat} (hK:w0.heap[3]? =some (.cells (w64 Kt) tt fr)):
  zgU 274 #[.pointer (some ⟨b1,0,none⟩),.pointer (some ⟨b2,0,none⟩)] (xpd Kt key label) N w0:=by
 intro l W hKq R Rx hR hRx hY hN' h0;have h1l:3<w0.heap.size:=(zi hK).1;have HY:Hid _:=hY;have HN:Hid _:=hN';have HR:Hid _:=hR;have HRx:Hid _:=hRx;have H0:Hid (R 0 W):=h0
 have KB:Hid (∀ A:World,Kq w0.heap.size W A→A.heap[b1]? =some (.cells #[.string key] 9 (0,0))∧A.heap[b2]? =some (.cells #[.string label] 9 (0,0))∧A.heap[3]? =some (.cells (w64 Kt) tt fr)):=fun A hA=>
  ⟨(hKq.trans hA).2 b1 _ hb1 h1 rfl,(hKq.trans hA).2 b2 _ hb2 h2 rfl,(hKq.trans hA).2 3 _ h1l hK rfl⟩
 have hWl:w0.heap.size≤W.heap.size:=hKq.1;clear hY hN' hR hRx h0 hKq h1 h2 hK;refine callsIn_of_wp Tryz.func274 rfl trivial ?_ rfl;simp only[Tryz.ntmps274,zS1,zS2,zS3,Nat.reduceAdd,Nat.reduceSub,zS4,zS5,zS6,zS7,zS8,zS9];gi_wp2
 gi_loopw [4,7] (fun v i wr=>∃ k:Nat,k≤255∧v=.string (tsq Kt key label k)∧i=.int .i64 (k:Int)∧R (32*k) wr∧Kq w0.heap.size W wr) (fun _ i _=>255 - zam i)
 case atStart=>exact⟨0,by omega,rfl,rfl,H0.out,Kq.refl _ _⟩
 case round=>
  clear H0;obtain⟨k,hk255,rfl,rfl,hRk,hKk⟩:=hrel;have HRk:Hid (R (32*k) wr):=hRk;have HKk:Hid (Kq w0.heap.size W wr):=hKk;obtain⟨f1,f2,f3⟩:=KB.out wr hKk;have c1:wr.cell? ⟨b1,0,none⟩=some (.string key):=by rw[zr f1];rfl
  have c2:wr.cell? ⟨b2,0,none⟩=some (.string label):=by rw[zr f2];rfl
  have F3:Hid (wr.heap[3]? =some (.cells (w64 Kt) tt fr)):=f3;have k0:(0:Int)≤(k:Int):=by omega
  clear hRk hKk f1 f2 f3;by_cases hlt:k<255
  ·have k1:(k:Int)<255:=by omega
   have hoc:=zot wr ((k:Int)+1);have hts:=zpG Kt key label k;have HT1:Hid (tsq Kt key label (k+1)=macS Kt key (tsq Kt key label k++label++strOfNums [(k:Int)+1])):=rfl;have hT1s:=zhZ Kt key label k;have HXP:Hid (∀ j,j<32→xpd Kt key label (32*k+j)=bt (tsq Kt key label (k+1)) j):=fun j hj=>zpH Kt key label k j hj
   obtain⟨T1,hTT⟩:∃ T1,tsq Kt key label (k+1)=T1:=⟨_,rfl⟩;have HTT:Hid (tsq Kt key label (k+1)=T1):=hTT;rw[hTT] at HT1 hT1s HXP;clear hTT;generalize tsq Kt key label k=T0 at*
   have hos:(strOfNums [(k:Int)+1]).size=1:=strOfNums_size _;generalize strOfNums [(k:Int)+1]=O1 at*
   have hcat:(T0++label++O1).size=T0.size+label.size+O1.size:=by rw[ByteArray.size_append,ByteArray.size_append]
   have MC:Hid (Calls Tryz.prog 181 #[.string key,.slice (some ⟨wr.heap.size+1,0,none⟩) 3 3] ((wr.alloc (.cells #[.int .u8 ((k:Int)+1)] 5)).alloc (.cells #[.string T0,.string label,.string O1] 9)) fun e w'=>e=.returned (.string T1)∧Below wr.heap.size wr w'):=by
    have hsz:(wr.alloc (.cells #[.int .u8 ((k:Int)+1)] 5)).heap.size=wr.heap.size+1:=by simp
    refine(?_:Calls Tryz.prog 181 #[.string key,.slice (some ⟨wr.heap.size+1,0,none⟩) 3 3] ((wr.alloc (.cells #[.int .u8 ((k:Int)+1)] 5)).alloc (.cells #[.string T0,.string label,.string O1] 9)) fun e w'=>e=.returned (.string T1)∧Below wr.heap.size wr w');rw[HT1.out,←hsz]
    refine(zgV Kt key hk 3 (by decide) #[.string T0,.string label,.string O1] 9 (fun i=>if i=0 then T0 else if i=1 then label else O1) (T0++label++O1) (by apply ByteArray.ext;simp[catS]) (by omega) (fun i hi=>by
     match i,hi with
     |0,_=>rfl
     |1,_=>rfl
     |2,_=>rfl) (wr.alloc (.cells #[.int .u8 ((k:Int)+1)] 5)) (((zaa wr _).block 3 (by have:=HKk.out.1;omega)).trans F3.out)).mono fun e w' ⟨e1,e2⟩=>⟨e1,(zaa wr _).trans (e2.mono (by omega))⟩
   gi_wp2;refine⟨trivial,?_⟩;refine(callsIn_wide.2 MC.out).mono ?_;rintro e w3 ⟨rfl,b3⟩;have R3:Hid (R (32*k) w3):=HR.out _ wr w3 HRk.out (b3.mono HKk.out.1);have K3:Hid (Kq w0.heap.size W w3):=HKk.out.trans (Kq.below b3 (by have:=HKk.out.1;omega));clear b3 MC HRk HKk F3 c1 c2 hoc HT1 hcat;gi_wp2
   gi_loopw [22] (fun i wx=>∃ j:Nat,j≤32∧i=.int .i64 (j:Int)∧R (32*k+j) wx∧Kq w0.heap.size W wx) (fun i _=>32 - zam i)
   case atStart=>exact⟨0,by omega,rfl,R3.out,K3.out⟩
   case round=>
    clear R3 K3;obtain⟨j,hj,rfl,hRj,hKj⟩:=hrel;have HRj:Hid (R (32*k+j) wr):=hRj;have HKj:Hid (Kq w0.heap.size W wr):=hKj;have j0:(0:Int)≤(j:Int):=by omega
    by_cases hj32:j<32
    ·have j1:(j:Int)<32:=by omega
     have hix:=ze4 T1 j (by omega);obtain⟨fn,tmps,assign,body,hy,hRd⟩:=HY.out (32*k+j) wr hRj;rw[HXP.out j hj32] at hy;generalize bt T1 j=x at*
     clear hRj hKj;gi_wp2;refine hRd.mono ?_;rintro e W6 (⟨rfl,hR6,hk6⟩|⟨rfl,hx6⟩)
     ·gi_wp2
      go_roundw
      case rel=>exact⟨j+1,hj32,by go_num,hR6,HKj.out.trans hk6⟩
      case measure=>simp[zam];omega
     ·gi_wp2
      refine bodyPost_ret (results_none rfl _ _ _) rfl ?_;exact⟨⟨_,rfl⟩,hx6⟩
    ·obtain rfl:j=32:=by omega
     clear hRj hKj;gi_wp2
     go_roundw
     case rel=>exact⟨k+1,hlt,by rw[HTT.out],by go_num,HRj.out,HKj.out⟩
     case measure=>simp[zam];omega
  ·obtain rfl:k=255:=by omega
   have hlast:=HN.out _ wr HRk.out;omega
theorem zfg (key label:ByteArray) (w:World):
  Calls Tryz.prog 262 #[.string key,.string label] w fun e w'=>e=.returned (.func (.func 274) #[] #[.pointer (some ⟨w.heap.size,0,none⟩),.pointer (some ⟨w.heap.size+1,0,none⟩)])∧w'=(w.alloc (.cells #[.string key] 9)).alloc (.cells #[.string label] 9):=by
 go_enter Tryz.func262,Tryz.ntmps262;go_wp2_with fail;go_ret;exact⟨rfl,rfl⟩
def xS (Kt:Nat→Int) (key label:ByteArray) (n:Nat):ByteArray:=strOfNums (upto (xpd Kt key label) n)
theorem zou (Kt:Nat→Int) (key label:ByteArray) (n:Nat):(xS Kt key label n).size=n:=by unfold xS;rw[strOfNums_size,zaj]
theorem zi2 (Kt:Nat→Int) (key label:ByteArray) (hk:key.size≤1000000) (hlb:label.size≤1000000) (n:Nat) (hn:n≤8160) (w:World) {tt:TypeId} {fr:Nat × Nat} (hK:w.heap[3]? =some (.cells (w64 Kt) tt fr)):
  Calls Tryz.prog 239 #[.string key,.string label,.int .i64 (n:Int)] w fun e w'=>e=.returned (.tuple #[.string (xS Kt key label n),.int .i64 0])∧Below w.heap.size w w':=by
 have FE:Hid (Calls Tryz.prog 248 #[.int .i64 (n:Int),.func (.func 274) #[] #[.pointer (some ⟨w.heap.size,0,none⟩),.pointer (some ⟨w.heap.size+1,0,none⟩)]] ((w.alloc (.cells #[.string key] 9)).alloc (.cells #[.string label] 9)) fun e w'=>e=.returned (.string (xS Kt key label n))∧Below w.heap.size w w'):=by
  obtain⟨e1,e2,hb⟩:=zay w (.cells #[.string key] 9) (.cells #[.string label] 9);have h1l:3<w.heap.size:=(zi hK).1;refine(callsIn_wide.1 (zhX 274 _ (xpd Kt key label) n (by omega) _ (enters_of Tryz.func274 (by kernel_rfl) rfl) (zfU Kt key label hk hlb w.heap.size (w.heap.size+1) (max n 1) (by omega) _ (by simp;omega) (by simp) e1 e2 ((hb.block 3 h1l).trans hK)))).mono fun e w' ⟨h1,h2⟩=>⟨h1,hb.trans (h2.mono (by simp;omega))⟩
 have q1:decide ((n:Int)<0)=false:=by simp
 have q2:decide ((8160:Int)<(n:Int))=false:=by simp;omega
 generalize xS Kt key label n=X at*
 clear hK;go_enter Tryz.func239,Tryz.ntmps239;go_wp2_with fail;refine(zfg key label w).mono ?_;rintro e w1 ⟨rfl,rfl⟩;go_wp2_with fail;refine FE.out.mono ?_;rintro e w2 ⟨rfl,b2⟩;have B2:Hid (Below w.heap.size w w2):=b2;clear b2 FE;go_wp2_with fail;go_ret2;exact⟨rfl,B2.out⟩
end
end Go.Proofs.YtokfnghckpgjmaaGreatDoor
