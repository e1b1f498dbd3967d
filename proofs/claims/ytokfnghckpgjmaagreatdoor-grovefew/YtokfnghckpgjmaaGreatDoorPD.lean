/- A law of our own: a range over a function whose body is told what lies in the iterator's own blocks, and whose last round leaves by a label. -/
import Derived.Test.YtokfnghckpgjmaaGreatDoorPPo
import Derived.Test.YtokfnghckpgjmaaGreatDoorQB
import Derived.RangeFuncNested
import Derived.RangeFuncBound
import Derived.OwnWalkIn
import Derived.TacticsInMore
import Derived.LoopNIn
import Derived.LoopIn
set_option maxRecDepth 100000
namespace Go.Proofs.YtokfnghckpgjmaaGreatDoor
section
open Go.RowKit
theorem fh {B l:Nat} (W:World) (o:Obj) (h:B≤l):Below B W (W.putObj l o):=
 ⟨rfl,rfl,rfl,by simp[World.putObj],fun k hk=>World.putObj_heap_other uo⟩
def zpC (B:Nat) (Kp:World→World→Prop) (J Jx:World→Prop) (id:Nat) (W:World):Exit→Act→World→Prop
 |.normal,_,W'=>KeepsFrom B W W'∧Kp W W'∧J W'
 |.exit i,_,W'=>i=id∧KeepsFrom B W W'∧Jx W'
 |_,_,_=>False
theorem zkh {α:Type} {F:Fence} {n:Nat} {P:Program} {g:Operand} {ps:Array Tmp} {assign body:Code} {Q:Exit→Act→World→Prop} {a:Act} {w:World}
  (hro:F.round=none) (h1:1≤n) {gf:Nat} {lb:Array Value} (hg:a.eval g=.func (.func gf) #[] lb) (hFg:F.fn gf) (eg:∀ args w,(callFunc gf args).run P w=.ok (.enter gf args) w)
  (encs:α→Array Value) (hps:∀ x,(encs x).size=ps.size) (Kp:World→World→Prop) (hKt:∀ {A B C:World},Kp A B→Kp B C→Kp A C)
  (hKb:∀ (W:World) (l:Nat) (o o':Obj),W.heap[l]? =some o→o.isCells=false→Kp W (W.putObj l o'))
  (Y:Nat→α→World→Prop) (hY:∀ k x W l o',Y k x W→w.heap.size≤l→l<w.heap.size+2→Y k x (W.putObj l o'))
  (J:Nat→World→Prop) (Jx:World→Prop) (id:Nat) (hJ:∀ k W W',J k W→Below w.heap.size W W'→J k W') (hJx:∀ W W',Jx W→Below w.heap.size W W'→Jx W') (h0:J 0 w)
  (bad:Nat→Prop) (hbad:∀ k W,J k W→bad k→False) (a₁:α→Act)
  (hassign:∀ (l:Nat) (x:α) (W:World) (K:Act→World→Prop),K (a₁ x) W→
   assign.wpIn (F.inRound l) (n - 1 - 1) P (Exit.then K (fun _ _ _=>False)) { tmps:=(ps.zip (encs x)).foldl (fun t (p,v)=>t.setIfInBounds p v) a.tmps,defers:=[] } W)
  (hbody:∀ (l k:Nat) (x:α) (W:World),J k W→Y k x W→body.wpIn (F.inRound l) (n - 1 - 1) P (zpC w.heap.size Kp (J (k+1)) Jx id W) (a₁ x) W)
  (hiter:∀ (l:Nat) (W1:World),Below w.heap.size w W1→W1.heap.size=w.heap.size+2→∀ (R:Nat→World→Prop) (Rx:World→Prop),(∀ k W W',R k W→Below W1.heap.size W W'→R k W')→(∀ W W',Rx W→Below W1.heap.size W W'→Rx W')→
   (∀ k x W,R k W→Y k x W→YieldAt F (n - 1 - 1) P l (encs x) W fun e W'=>(e=.returned (.bool true)∧R (k+1) W'∧Kp W W')∨(e=.returned (.bool false)∧Rx W'))→R 0 W1→
   CallsIn F (n - 1) P gf (#[.func (.yield l) #[] #[]]++lb) W1 fun e W'=>(∃ v,e=.returned v)∧(Rx W'∨∃ k,R k W'∧bad k))
  (hstop:∀ (D:Nat) (W:World),w.heap.size≤D→Jx W→W.heap[D]? =some (.deferred (some []))→(Code.exit id).wpIn F n P Q { a with defers:={ target:=.collected D,args:=#[] }::a.defers } W):
  (Code.rangeFunc g ps assign body).wpIn F n P Q a w:=by
 refine wpIn_rangeFunc fun fn hfn=>?_
 rw[hro];obtain⟨rc,hrc⟩:∃ rc:LoopState→Option Code→Loop,rc=fun st pe=>{ state:=st,pending:=pe,fn,tmps:=a.tmps,params:=ps,assign,body,defers:=w.heap.size }:=⟨_,rfl⟩
 obtain⟨W1,hW1⟩:∃ W1,(w.alloc (.deferred (some []))).alloc (.loop (rc .ready none))=W1:=⟨_,rfl⟩;have hn2:=fJ w (.deferred (some [])) (.loop (rc .ready none));have hs:W1.heap.size=w.heap.size+2:=by rw[←hW1];simp
 rw[hW1] at hn2;obtain⟨hD1,hL1,hB1⟩:=hn2
 refine⟨w.heap.size+1,[{ target:=.collected w.heap.size,args:=#[] }],W1,{ target:=.fn (.func gf) lb,args:=#[.func (.yield (w.heap.size+1)) #[] #[]] },W1,gf,
  #[.func (.yield (w.heap.size+1)) #[] #[]]++lb,W1,?_,?_,?_,?_,fun _=>h1,?_⟩
 ·rw[←hW1,hrc];exact run_enterLoop_outer _ _ _ _ _
 ·simp only[resolve,hg]
  simp[go_sem]
 ·intro f' hf'
  simp[Target.leads] at hf';subst hf';exact hFg
 ·simp[invoke,go_sem,eg]
 ·refine(hiter (w.heap.size+1) W1 hB1 hs
   (fun k W=>J k W∧W.heap[w.heap.size+1]? =some (.loop (rc .ready none))∧W.heap[w.heap.size]? =some (.deferred (some [])))
   (fun W=>Jx W∧W.heap[w.heap.size+1]? =some (.loop (rc .done (some (.exit id))))∧W.heap[w.heap.size]? =some (.deferred (some [])))
   (fun k W W' h hb=>⟨hJ k W W' h.1 (hb.mono uo),(hb.block _ uo).trans h.2.1,(hb.block _ uo).trans h.2.2⟩)
   (fun W W' h hb=>⟨hJx W W' h.1 (hb.mono uo),(hb.block _ uo).trans h.2.1,(hb.block _ uo).trans h.2.2⟩)
   ?_ ⟨hJ 0 w W1 h0 hB1,hL1,hD1⟩).mono ?_
  ·rintro k x W ⟨hj,hl,hd⟩ hy
   have hlt:w.heap.size+1<W.heap.size:=(zi hl).1;have hyr:=run_yield (P:=P) (args:=encs x) hl (by rw[hrc];exact hps x);rw[hrc] at hyr;refine⟨fn,_,assign,body,hyr,roundIn_of_wpIn hfn (hassign _ x W _ ?_)⟩;refine⟨_,run_beginRound hl (by rw[hrc]),?_⟩;have hl2:(W.putObj (w.heap.size+1) (.loop { rc .ready none with state:=.busy })).heap[w.heap.size+1]? =some (.loop { rc .ready none with state:=.busy }):=World.putObj_heap_same hlt;have hd2:(W.putObj (w.heap.size+1) (.loop { rc .ready none with state:=.busy })).heap[w.heap.size]? =some (.deferred (some [])):=(World.putObj_heap_other uo).trans hd;refine wpIn_mono (hbody _ k x _ (hJ k _ _ hj (fh W _ uo)) (hY k x W _ _ hy uo uo)) ?_;rintro e a3 W3 hp;cases e with
   |normal=>
    obtain⟨hk3,hkp,hj3⟩:=hp;have hl3:=hk3.same _ _ uo hl2 rfl;have hd3:=hk3.same _ _ zn hd2 rfl;have hr:=run_endRound (P:=P) none hl3;refine⟨_,_,hr,.inl ⟨rfl,⟨hJ _ _ _ hj3 (fh W3 _ uo),?_,(World.putObj_heap_other uo).trans hd3⟩,hKt (hKb W _ _ _ hl rfl) (hKt hkp (hKb W3 _ _ _ hl3 rfl))⟩⟩;rw[World.putObj_heap_same (zi hl3).1,hrc];rfl
   |exit i=>
    obtain⟨rfl,hk3,hj3⟩:=hp;have hl3:=hk3.same _ _ uo hl2 rfl;have hd3:=hk3.same _ _ zn hd2 rfl;have hr:=run_endRound (P:=P) (some (.exit i)) hl3;refine⟨_,_,hr,.inr ⟨rfl,hJx _ _ hj3 (fh W3 _ uo),?_,(World.putObj_heap_other uo).trans hd3⟩⟩;rw[World.putObj_heap_same (zi hl3).1,hrc];rfl
   |ret=>exact hp.elim
   |goto t=>exact hp.elim
   |panic ch=>exact hp.elim
   |outgrown=>exact hp.elim
  ·rintro e W2 ⟨⟨v,rfl⟩,⟨hx,hl,hd⟩|⟨k,⟨hj,_⟩,hk⟩⟩
   case inr=>exact(hbad k W2 hj hk).elim
   refine⟨some (.exit id),_,by have:=run_endLoop (P:=P) hl (by rw[hrc];simp);rw[hrc] at this;exact this,?_⟩;exact hstop _ _ zn (hJx _ _ hx (fh W2 _ uo)) ((World.putObj_heap_other uo).trans hd)
end
end Go.Proofs.YtokfnghckpgjmaaGreatDoor
