/- A range over a function, left at its end, by a return or by a label; the loop variable in a block of its own. -/
import Derived.Test.YtokfnghckpgjmaaGreatDoorPPo
import Derived.Test.YtokfnghckpgjmaaGreatDoorRows
import Derived.Test.YtokfnghckpgjmaaGreatDoorQYM
import Derived.WalkSpells
import Derived.WalkLawsBesides
import Derived.RangeFuncNested
import Derived.RangeFuncBound
import Derived.Shelf.RegionOpen
import Derived.OwnWalkIn
import Derived.LoopNIn
import Derived.LoopIn
import Derived.Deep.MidRow
import Derived.Test.YtokfnghckpgjmaaGreatDoorPPk
import Derived.Test.YtokfnghckpgjmaaGreatDoorPPm
set_option maxRecDepth 100000
namespace Go.Proofs.YtokfnghckpgjmaaGreatDoor
namespace Rp
open Go.RowKit
theorem fh {B l:Nat} (W:World) (o:Obj) (h:B≤l):Below B W (W.putObj l o):=
 ⟨rfl,rfl,rfl,by simp[World.putObj],fun k hk=>World.putObj_heap_other uo⟩
theorem bF (w:World) (o:Obj):Below w.heap.size w (w.alloc o):=(Below.refl _ w).alloc zn _
theorem fJ (w:World) (a b:Obj):((w.alloc a).alloc b).heap[w.heap.size]? =some a∧((w.alloc a).alloc b).heap[w.heap.size+1]? =some b∧Below w.heap.size w ((w.alloc a).alloc b):=by
 refine⟨?_,?_,((Below.refl _ w).alloc zn _).alloc us _⟩
 ·exact(Below.heap_alloc _ _ _ us).trans (zq w a)
 ·have:=zq (w.alloc a) b;simpa using this
def Kz (b:Nat) (A B:World):Prop:=Below b A B∧∀ (j:Nat) (o:Obj),A.heap[j]? =some o→o.isCells=true→B.heap[j]? =some o
theorem Kz.of_below {b:Nat} {A B:World} (h:Below A.heap.size A B) (hb:b≤A.heap.size):Kz b A B:=⟨h.mono hb,fun j _ ho _=>(h.block j (zi ho).1).trans ho⟩
theorem Kz.put {b:Nat} (W:World) (l:Nat) (o o':Obj) (h:W.heap[l]? =some o) (hc:o.isCells=false) (hl:b≤l):Kz b W (W.putObj l o'):=
 ⟨fh W o' hl,fun j p hp hpc=>by
  by_cases e:j=l
  ·subst e;rw[h] at hp;cases hp;rw[hc] at hpc;cases hpc
  ·exact(World.putObj_heap_other e).trans hp⟩
def zps (B:Nat) (J Jx:World→Prop) (jump:Code) (W:World):Exit→Act→World→Prop
 |.normal,_,W'=>KeepsFrom B W W'∧J W'
 |.exit i,_,W'=>jump=.exit i∧KeepsFrom B W W'∧Jx W'
 |.ret,_,W'=>jump=.ret∧KeepsFrom B W W'∧Jx W'
 |_,_,_=>False
theorem ziN {F:Fence} {n:Nat} {P:Program} {g:Operand} {ps:Array Tmp} {assign body:Code} {Q:Exit→Act→World→Prop} {a:Act} {w:World}
  (hro:F.round=none) (h1:1≤n) {gf:Nat} {lb:Array Value} (hg:a.eval g=.func (.func gf) #[] lb) (hFg:F.fn gf) (eg:∀ args w,(callFunc gf args).run P w=.ok (.enter gf args) w)
  (N:Nat) (encs:Nat→Array Value) (hps:∀ k,(encs k).size=ps.size)
  (J:Nat→World→Prop) (Jx:World→Prop) (jump:Code) (hJ:∀ k W W',J k W→Kz w.heap.size W W'→J k W') (hJx:∀ W W',Jx W→Kz w.heap.size W W'→Jx W') (h0:J 0 w)
  (A:Nat→Act→World→Prop) (hA:∀ k a' W l o',A k a' W→w.heap.size≤l→l<w.heap.size+2→A k a' (W.putObj l o'))
  (hassign:∀ (l k:Nat) (W:World) (K:Act→World→Prop),k<N→J k W→w.heap.size+2≤W.heap.size→(∀ a' W',Below W.heap.size W W'→A k a' W'→K a' W')→
   assign.wpIn (F.inRound l) (n - 1 - 1) P (Exit.then K (fun _ _ _=>False)) { tmps:=(ps.zip (encs k)).foldl (fun t (p,v)=>t.setIfInBounds p v) a.tmps,defers:=[] } W)
  (hbody:∀ (l k:Nat) (a':Act) (W:World),k<N→J k W→A k a' W→w.heap.size+2≤W.heap.size→body.wpIn (F.inRound l) (n - 1 - 1) P (zps w.heap.size (J (k+1)) Jx jump W) a' W)
  (hiter:∀ (l:Nat) (W1:World),Below w.heap.size w W1→W1.heap.size=w.heap.size+2→∀ (R:Nat→World→Prop) (Rx:World→Prop),(∀ k W W',R k W→Below W.heap.size W W'→R k W')→(∀ W W',Rx W→Below W.heap.size W W'→Rx W')→(∀ k W,R k W→J k W)→
   (∀ k W,k<N→R k W→YieldAt F (n - 1 - 1) P l (encs k) W fun e W'=>(e=.returned (.bool true)∧R (k+1) W')∨(e=.returned (.bool false)∧Rx W'))→R 0 W1→
   CallsIn F (n - 1) P gf (#[.func (.yield l) #[] #[]]++lb) W1 fun e W'=>(∃ v,e=.returned v)∧(R N W'∨Rx W'))
  (hdone:∀ (D:Nat) (W:World),w.heap.size≤D→J N W→W.heap[D]? =some (.deferred (some []))→Q .normal { a with defers:={ target:=.collected D,args:=#[] }::a.defers } W)
  (hstop:∀ (D:Nat) (W:World),w.heap.size≤D→Jx W→W.heap[D]? =some (.deferred (some []))→jump.wpIn F n P Q { a with defers:={ target:=.collected D,args:=#[] }::a.defers } W):
  (Code.rangeFunc g ps assign body).wpIn F n P Q a w:=by
 refine wpIn_rangeFunc fun fn hfn=>?_
 rw[hro];obtain⟨rc,hrc⟩:∃ rc:LoopState→Option Code→Loop,rc=fun st pe=>{ state:=st,pending:=pe,fn,tmps:=a.tmps,params:=ps,assign,body,defers:=w.heap.size }:=⟨_,rfl⟩
 obtain⟨W1,hW1⟩:∃ W1,(w.alloc (.deferred (some []))).alloc (.loop (rc .ready none))=W1:=⟨_,rfl⟩;have hn2:=fJ w (.deferred (some [])) (.loop (rc .ready none));have hs:W1.heap.size=w.heap.size+2:=by rw[←hW1];simp
 rw[hW1] at hn2;obtain⟨hD1,hL1,hB1⟩:=hn2
 refine⟨w.heap.size+1,[{ target:=.collected w.heap.size,args:=#[] }],W1,{ target:=.fn (.func gf) lb,args:=#[.func (.yield (w.heap.size+1)) #[] #[]] },W1,gf,
  #[.func (.yield (w.heap.size+1)) #[] #[]]++lb,W1,?_,?_,?_,?_,fun _=>h1,?_⟩
 ·rw[←hW1,hrc];exact run_enterLoop_outer _ _ _ _ _
 ·simp only[resolve,hg]
  simp[go_sem]
 ·intro f' hf'
  simp[Target.leads] at hf';subst hf';exact hFg
 ·simp[invoke,go_sem,eg]
 ·refine(hiter (w.heap.size+1) W1 hB1 hs
   (fun k W=>J k W∧W.heap[w.heap.size+1]? =some (.loop (rc .ready none))∧W.heap[w.heap.size]? =some (.deferred (some [])))
   (fun W=>Jx W∧W.heap[w.heap.size+1]? =some (.loop (rc .done (some jump)))∧W.heap[w.heap.size]? =some (.deferred (some [])))
   (fun k W W' h hb=>by
    have:=(zi h.2.1).1;exact⟨hJ k W W' h.1 (Kz.of_below hb uo),(hb.block _ uo).trans h.2.1,(hb.block _ uo).trans h.2.2⟩)
   (fun W W' h hb=>by
    have:=(zi h.2.1).1;exact⟨hJx W W' h.1 (Kz.of_below hb uo),(hb.block _ uo).trans h.2.1,(hb.block _ uo).trans h.2.2⟩)
   (fun k W h=>h.1) ?_ ⟨hJ 0 w W1 h0 (Kz.of_below hB1 zn),hL1,hD1⟩).mono ?_
  ·rintro k Wb hkN ⟨hj,hl,hd⟩
   have hyr:=run_yield (P:=P) (args:=encs k) hl (by rw[hrc];exact hps k);rw[hrc] at hyr;refine⟨fn,_,assign,body,hyr,roundIn_of_wpIn hfn (hassign _ k Wb _ hkN hj (by have:=(zi hl).1;omega) ?_)⟩;intro a' W hBa hAx;have hltb:=(zi hl).1
   replace hj:=hJ k _ _ hj (Kz.of_below hBa uo)
   replace hl:=(hBa.block _ uo).trans hl
   replace hd:=(hBa.block _ uo).trans hd
   have hlt:w.heap.size+1<W.heap.size:=(zi hl).1;refine⟨_,run_beginRound hl (by rw[hrc]),?_⟩;have hl2:(W.putObj (w.heap.size+1) (.loop { rc .ready none with state:=.busy })).heap[w.heap.size+1]? =some (.loop { rc .ready none with state:=.busy }):=World.putObj_heap_same hlt;have hd2:(W.putObj (w.heap.size+1) (.loop { rc .ready none with state:=.busy })).heap[w.heap.size]? =some (.deferred (some [])):=(World.putObj_heap_other uo).trans hd;refine wpIn_mono (hbody _ k a' _ hkN (hJ k _ _ hj (Kz.put W _ _ _ hl rfl uo)) (hA k a' W _ _ hAx uo uo) (by simp[World.putObj];omega)) ?_
   have fin:∀ (W3:World),KeepsFrom w.heap.size (W.putObj (w.heap.size+1) (.loop { rc .ready none with state:=.busy })) W3→Jx W3→
     (Instr.endRound (w.heap.size+1) (some jump)).run P W3=.ok (.bool false) (W3.putObj (w.heap.size+1) (.loop (rc .done (some jump))))∧Jx (W3.putObj (w.heap.size+1) (.loop (rc .done (some jump))))∧
     (W3.putObj (w.heap.size+1) (.loop (rc .done (some jump)))).heap[w.heap.size+1]? =some (.loop (rc .done (some jump)))∧
     (W3.putObj (w.heap.size+1) (.loop (rc .done (some jump)))).heap[w.heap.size]? =some (.deferred (some [])):=fun W3 hk3 hj3=>by
    have hl3:=hk3.same _ _ uo hl2 rfl;have hd3:=hk3.same _ _ zn hd2 rfl;have hr:=run_endRound (P:=P) (some jump) hl3;rw[hrc] at hr ⊢;exact⟨hr,hJx _ _ hj3 (Kz.put W3 _ _ _ hl3 rfl uo),World.putObj_heap_same (zi hl3).1,(World.putObj_heap_other uo).trans hd3⟩
   rintro e a3 W3 hp;cases e with
   |normal=>
    obtain⟨hk3,hj3⟩:=hp;have hl3:=hk3.same _ _ uo hl2 rfl;have hd3:=hk3.same _ _ zn hd2 rfl;have hr:=run_endRound (P:=P) none hl3;refine⟨_,_,hr,.inl ⟨rfl,hJ _ _ _ hj3 (Kz.put W3 _ _ _ hl3 rfl uo),?_,(World.putObj_heap_other uo).trans hd3⟩⟩;rw[World.putObj_heap_same (zi hl3).1,hrc];rfl
   |exit i=>
    obtain⟨rfl,hk3,hj3⟩:=hp;obtain⟨hr,f1,f2,f3⟩:=fin W3 hk3 hj3;exact⟨_,_,hr,.inr ⟨rfl,f1,f2,f3⟩⟩
   |ret=>
    obtain⟨rfl,hk3,hj3⟩:=hp;obtain⟨hr,f1,f2,f3⟩:=fin W3 hk3 hj3;exact⟨_,_,hr,.inr ⟨rfl,f1,f2,f3⟩⟩
   |goto t=>exact hp.elim
   |panic ch=>exact hp.elim
   |outgrown=>exact hp.elim
  ·rintro e W2 ⟨⟨v,rfl⟩,⟨hx,hl,hd⟩|⟨hx,hl,hd⟩⟩
   ·refine⟨none,_,by have:=run_endLoop (P:=P) hl (by rw[hrc];simp);rw[hrc] at this;exact this,?_⟩
    exact hdone _ _ zn (hJ _ _ _ hx (Kz.put W2 _ _ _ hl rfl uo)) ((World.putObj_heap_other uo).trans hd)
   ·refine⟨some jump,_,by have:=run_endLoop (P:=P) hl (by rw[hrc];simp);rw[hrc] at this;exact this,?_⟩
    exact hstop _ _ zn (hJx _ _ hx (Kz.put W2 _ _ _ hl rfl uo)) ((World.putObj_heap_other uo).trans hd)
end Rp
end Go.Proofs.YtokfnghckpgjmaaGreatDoor
