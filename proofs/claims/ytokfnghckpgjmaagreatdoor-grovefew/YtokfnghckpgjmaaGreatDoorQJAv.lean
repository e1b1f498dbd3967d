/- A range over a function whose body owns blocks, some of them new; what the function itself keeps is no block of the body's. -/
import Derived.Test.YtokfnghckpgjmaaGreatDoorPPo
import Derived.Test.YtokfnghckpgjmaaGreatDoorQKA
import Derived.Test.YtokfnghckpgjmaaGreatDoorQDG
set_option maxRecDepth 100000
set_option maxHeartbeats 1000000
namespace Go.Proofs.YtokfnghckpgjmaaGreatDoor
namespace Rq
open Go.RowKit
open Rk
structure bC (S:Nat→Prop) (w w':World):Prop where
 os:w'.os=w.os
 tape:w'.tape=w.tape
 output:w'.output=w.output
 size:w.heap.size≤w'.heap.size
 block:∀ k,k<w.heap.size→¬S k→w'.heap[k]? =w.heap[k]?
theorem bC.refl (S:Nat→Prop) (w:World):bC S w w:=⟨rfl,rfl,rfl,Nat.le_refl _,fun _ _ _=>rfl⟩
theorem bC.trans {S:Nat→Prop} {a b c:World} (h:bC S a b) (k:bC S b c):bC S a c:=
 ⟨k.os.trans h.os,k.tape.trans h.tape,k.output.trans h.output,Nat.le_trans h.size k.size,fun i hi hs=>(k.block i (Nat.lt_of_lt_of_le hi h.size) hs).trans (h.block i hi hs)⟩
theorem bC.of_below {S:Nat→Prop} {w w':World} (h:Below w.heap.size w w'):bC S w w':=⟨h.os,h.tape,h.output,h.size,fun k hk _=>h.block k hk⟩
theorem bC.more {S S':Nat→Prop} {w w':World} (h:bC S w w') (hs:∀ k,k<w.heap.size→S k→S' k):bC S' w w':=⟨h.os,h.tape,h.output,h.size,fun k hk hn=>h.block k hk fun e=>hn (hs k hk e)⟩
theorem bC.below {S:Nat→Prop} {w w':World} {B:Nat} (h:bC S w w') (hs:∀ k,S k→B≤k) (hB:B≤w.heap.size):Below B w w':=
 ⟨h.os,h.tape,h.output,h.size,fun k hk=>h.block k uo fun e=>by have:=hs k e;omega⟩
theorem bC.put {S:Nat→Prop} (w:World) (l:Nat) (o:Obj) (hl:S l):bC S w (w.putObj l o):=
 ⟨rfl,rfl,rfl,by simp[World.putObj],fun k _ hn=>World.putObj_heap_other fun e=>hn (by rw[e];exact hl)⟩
structure Kw (B:Nat) (own:Nat→Prop) (w w':World):Prop where
 os:w'.os=w.os
 tape:w'.tape=w.tape
 output:w'.output=w.output
 size:w.heap.size≤w'.heap.size
 block:∀ k,k<w.heap.size→(k<B∨own k)→w'.heap[k]? =w.heap[k]?
theorem Kw.of_below {B:Nat} {own:Nat→Prop} {w w':World} (h:Below w.heap.size w w'):Kw B own w w':=⟨h.os,h.tape,h.output,h.size,fun k hk _=>h.block k hk⟩
theorem Kw.put {B:Nat} {own:Nat→Prop} (w:World) (l:Nat) (o:Obj) (h1:B≤l) (h2:¬own l):Kw B own w (w.putObj l o):=
 ⟨rfl,rfl,rfl,by simp[World.putObj],fun k _ hn=>World.putObj_heap_other fun e=>by
  rcases hn with hn|hn
  ·omega
  ·exact h2 (by rw[←e];exact hn)⟩
theorem Kw.less {B B':Nat} {own own':Nat→Prop} {w w':World} (h:Kw B own w w') (hB:B'≤B) (ho:∀ k,own' k→own k∨k<B):Kw B' own' w w':=
 ⟨h.os,h.tape,h.output,h.size,fun k hk hn=>h.block k hk (by
  rcases hn with hn|hn
  ·exact .inl uo
  ·rcases ho k hn with a|a
   ·exact .inr a
   ·exact .inl a)⟩
theorem lX {P:Program} {n m l:Nat} {args:Array Value} {W:World} {R:Ending→World→Prop} (h:YieldAt Fence.wide n P l args W R):YieldAt Fence.wide m P l args W R:=by
 obtain⟨fn,tmps,assign,body,h1,h2⟩:=h;exact⟨fn,tmps,assign,body,h1,h2.1,fun c cs _=>h2.2 c cs (room_wide _)⟩
def mH {ι:Type} (R:(Nat→Prop)→ι→World→Prop) (Rx:(Nat→Prop)→World→Prop) (own:Nat→Prop) (i:ι) (W:World) (e:Ending) (W':World):Prop:=
 ∃ own',(∀ j,own' j→own j∨(W.heap.size≤j∧j<W'.heap.size))∧bC own W W'∧((e=.returned (.bool true)∧R own' i W')∨(e=.returned (.bool false)∧Rx own' W'))
def znK (J:(Nat→Prop)→World→Prop) (Jx:(Nat→Prop)→World→Prop) (jump:Code) (own:Nat→Prop) (W:World):Exit→Act→World→Prop
 |.normal,_,W'=>∃ own',(∀ j,own' j→own j∨(W.heap.size≤j∧j<W'.heap.size))∧bC own W W'∧J own' W'
 |.exit i,_,W'=>jump=.exit i∧∃ own',(∀ j,own' j→own j∨(W.heap.size≤j∧j<W'.heap.size))∧bC own W W'∧Jx own' W'
 |.ret,_,W'=>jump=.ret∧∃ own',(∀ j,own' j→own j∨(W.heap.size≤j∧j<W'.heap.size))∧bC own W W'∧Jx own' W'
 |_,_,_=>False
theorem zeI {n:Nat} {P:Program} {g:Operand} {ps:Array Tmp} {assign body:Code} {Q:Exit→Act→World→Prop} {a:Act} {w:World}
  (h1:1≤n) {gf:Nat} {lb:Array Value} (hg:a.eval g=.func (.func gf) #[] lb) (eg:∀ args w,(callFunc gf args).run P w=.ok (.enter gf args) w)
  {α:Type} (N:Nat) (encs:α→Array Value) (hps:∀ k,(encs k).size=ps.size) (ok:Nat→α→Prop)
  (J:(Nat→Prop)→Nat→World→Prop) (Jx:(Nat→Prop)→World→Prop) (jump:Code)
  (hJ:∀ own k W W',J own k W→Kw w.heap.size own W W'→J own k W') (hJx:∀ own W W',Jx own W→Kw w.heap.size own W W'→Jx own W')
  (own0:Nat→Prop) (hown0:∀ j,own0 j→j<w.heap.size) (h0:J own0 0 w)
  (A:α→Act→World→Prop) (hA:∀ x a' W l o',A x a' W→w.heap.size≤l→l<w.heap.size+2→A x a' (W.putObj l o'))
  (hassign:∀ (l:Nat) (own:Nat→Prop) (k:Nat) (x:α) (W:World) (K:Act→World→Prop),k<N→ok k x→J own k W→w.heap.size+2≤W.heap.size→(∀ a' W',Below W.heap.size W W'→A x a' W'→K a' W')→
   assign.wpIn (Fence.wide.inRound l) (n - 1 - 1) P (Exit.then K (fun _ _ _=>False)) { tmps:=(ps.zip (encs x)).foldl (fun t (p,v)=>t.setIfInBounds p v) a.tmps,defers:=[] } W)
  (hbody:∀ (l:Nat) (own:Nat→Prop) (k:Nat) (x:α) (a':Act) (W:World),k<N→ok k x→J own k W→A x a' W→w.heap.size+2≤W.heap.size→(∀ j,own j→j<W.heap.size)→body.wpIn (Fence.wide.inRound l) (n - 1 - 1) P (znK (fun own' W'=>J own' (k+1) W') Jx jump own W) a' W)
  (hiter:∀ (l:Nat) (W1:World),l=w.heap.size+1→Below w.heap.size w W1→W1.heap.size=w.heap.size+2→∀ (R:(Nat→Prop)→Nat→World→Prop) (Rx:(Nat→Prop)→World→Prop) (own:Nat→Prop),(∀ j,own j↔own0 j∨j=l)→
   (∀ own k W W',R own k W→Kw W1.heap.size own W W'→R own k W')→(∀ own W W',Rx own W→Kw W1.heap.size own W W'→Rx own W')→
   (∀ own k x W,k<N→ok k x→R own k W→(∀ j,own j→j<W.heap.size)→YieldAt Fence.wide 0 P l (encs x) W (mH R Rx own (k+1) W))→R own 0 W1→
   Calls P gf (#[.func (.yield l) #[] #[]]++lb) W1 fun e W'=>(∃ v,e=.returned v)∧∃ own',(R own' N W'∨Rx own' W'))
  (hdone:∀ (D:Nat) (own:Nat→Prop) (W:World),D=w.heap.size→¬own D→J own N W→W.heap[D]? =some (.deferred (some []))→Q .normal { a with defers:={ target:=.collected D,args:=#[] }::a.defers } W)
  (hstop:∀ (D:Nat) (own:Nat→Prop) (W:World),D=w.heap.size→¬own D→Jx own W→W.heap[D]? =some (.deferred (some []))→jump.wpIn Fence.wide n P Q { a with defers:={ target:=.collected D,args:=#[] }::a.defers } W):
  (Code.rangeFunc g ps assign body).wpIn Fence.wide n P Q a w:=by
 refine wpIn_rangeFunc fun fn hfn=>?_
 rw[show Fence.wide.round=none from rfl];obtain⟨rc',hrc⟩:∃ rc':LoopState→Option Code→Loop,rc'=fun st pe=>{ state:=st,pending:=pe,fn,tmps:=a.tmps,params:=ps,assign,body,defers:=w.heap.size }:=⟨_,rfl⟩
 obtain⟨W1,hW1⟩:∃ W1,(w.alloc (.deferred (some []))).alloc (.loop (rc' .ready none))=W1:=⟨_,rfl⟩;have hn2:=fJ w (.deferred (some [])) (.loop (rc' .ready none));have hs:W1.heap.size=w.heap.size+2:=by rw[←hW1];simp
 rw[hW1] at hn2;obtain⟨hD1,hL1,hB1⟩:=hn2
 refine⟨w.heap.size+1,[{ target:=.collected w.heap.size,args:=#[] }],W1,{ target:=.fn (.func gf) lb,args:=#[.func (.yield (w.heap.size+1)) #[] #[]] },W1,gf,
  #[.func (.yield (w.heap.size+1)) #[] #[]]++lb,W1,?_,?_,?_,?_,fun _=>h1,?_⟩
 ·rw[←hW1,hrc];exact run_enterLoop_outer _ _ _ _ _
 ·simp only[resolve,hg]
  simp[go_sem]
 ·intro f' hf'
  trivial
 ·simp[invoke,go_sem,eg]
 ·have out:∀ own:Nat→Prop,(∀ j,own j→j<w.heap.size∨w.heap.size+2≤j)→¬own w.heap.size∧¬own (w.heap.size+1):=fun own h=>⟨fun e=>by have:=h _ e;omega,fun e=>by have:=h _ e;omega⟩
  refine callsIn_wide.2 ((hiter (w.heap.size+1) W1 rfl hB1 hs
   (fun oy k W=>∃ own,(∀ j,oy j↔own j∨j=w.heap.size+1)∧(∀ j,own j→j<w.heap.size∨w.heap.size+2≤j)∧J own k W∧W.heap[w.heap.size+1]? =some (.loop (rc' .ready none))∧W.heap[w.heap.size]? =some (.deferred (some [])))
   (fun oy W=>∃ own,(∀ j,oy j↔own j∨j=w.heap.size+1)∧(∀ j,own j→j<w.heap.size∨w.heap.size+2≤j)∧Jx own W∧W.heap[w.heap.size+1]? =some (.loop (rc' .done (some jump)))∧W.heap[w.heap.size]? =some (.deferred (some [])))
   (fun j=>own0 j∨j=w.heap.size+1) (fun j=>Iff.rfl)
   (fun oy k W W' h hb=>?_) (fun oy W W' h hb=>?_) ?_ ⟨own0,fun j=>Iff.rfl,fun j hj=>.inl (hown0 j hj),hJ own0 0 w W1 h0 (Kw.of_below hB1),hL1,hD1⟩).mono ?_)
  ·obtain⟨own,h1,h2,h3,h4,h5⟩:=h
   have l4:=(zi h4).1;exact⟨own,h1,h2,hJ own k W W' h3 (hb.less uo fun j hj=>.inl ((h1 j).2 (.inl hj))),(hb.block _ l4 (.inl uo)).trans h4,(hb.block _ uo (.inl uo)).trans h5⟩
  ·obtain⟨own,h1,h2,h3,h4,h5⟩:=h
   have l4:=(zi h4).1;exact⟨own,h1,h2,hJx own W W' h3 (hb.less uo fun j hj=>.inl ((h1 j).2 (.inl hj))),(hb.block _ l4 (.inl uo)).trans h4,(hb.block _ uo (.inl uo)).trans h5⟩
  ·rintro oy k x Wb hkN hok ⟨own,g1,g2,hj,hl,hd⟩ hsz
   have hyr:=run_yield (P:=P) (args:=encs x) hl (by rw[hrc];exact hps x);rw[hrc] at hyr;refine lX (n:=n - 1 - 1) ⟨fn,_,assign,body,hyr,roundIn_of_wpIn hfn (hassign _ own k x Wb _ hkN hok hj (by have:=(zi hl).1;omega) ?_)⟩;intro a' W hBa hAx;have hltb:=(zi hl).1;have hO:=out own g2
   replace hj:=hJ own k _ _ hj (Kw.of_below hBa)
   replace hl:=(hBa.block _ uo).trans hl
   replace hd:=(hBa.block _ uo).trans hd
   have hlt:w.heap.size+1<W.heap.size:=(zi hl).1;have hszW:=hBa.size;refine⟨_,run_beginRound hl (by rw[hrc]),?_⟩;obtain⟨Wp,hWp⟩:∃ Wp,W.putObj (w.heap.size+1) (.loop { rc' .ready none with state:=.busy })=Wp:=⟨_,rfl⟩;have hl2:Wp.heap[w.heap.size+1]? =some (.loop { rc' .ready none with state:=.busy }):=by rw[←hWp];exact World.putObj_heap_same hlt
   have hd2:Wp.heap[w.heap.size]? =some (.deferred (some [])):=by rw[←hWp];exact(World.putObj_heap_other uo).trans hd
   have hsp:Wp.heap.size=W.heap.size:=by rw[←hWp];simp[World.putObj]
   have hjp:J own k Wp:=by rw[←hWp];exact hJ own k _ _ hj (Kw.put W _ _ uo hO.2)
   have hAp:A x a' Wp:=by rw[←hWp];exact hA x a' W _ _ hAx uo uo
   have hbp:bC (fun j=>own j∨j=w.heap.size+1) Wb Wp:=by rw[←hWp];exact(bC.of_below hBa).trans (bC.put W _ _ (.inr rfl))
   rw[hWp];have hownlt:∀ j,own j→j<Wp.heap.size:=fun j hj'=>by have:=hsz j ((g1 j).2 (.inl hj'));omega
   refine wpIn_mono (hbody _ own k x a' Wp hkN hok hjp hAp uo hownlt) ?_
   have fin:∀ (W3:World) (own':Nat→Prop) (stt:LoopState) (pe:Option Code),(∀ j,own' j→own j∨(Wp.heap.size≤j∧j<W3.heap.size))→bC own Wp W3→
     W3.heap[w.heap.size+1]? =some (.loop { rc' .ready none with state:=.busy })∧W3.heap[w.heap.size]? =some (.deferred (some []))∧(∀ j,own' j→j<w.heap.size∨w.heap.size+2≤j)∧
     (∀ j,(own' j∨j=w.heap.size+1)→oy j∨(Wb.heap.size≤j∧j<(W3.putObj (w.heap.size+1) (.loop (rc' stt pe))).heap.size))∧bC oy Wb (W3.putObj (w.heap.size+1) (.loop (rc' stt pe))):=fun W3 own' stt pe ho hb=>by
    have hs3:=hb.size;refine⟨(hb.block _ uo hO.2).trans hl2,(hb.block _ uo hO.1).trans hd2,fun j hj'=>?_,fun j hj'=>?_,?_⟩
    ·rcases ho j hj' with a|a
     ·exact g2 j a
     ·omega
    ·rcases hj' with hj'|rfl
     ·rcases ho j hj' with a|a
      ·exact .inl ((g1 j).2 (.inl a))
      ·exact .inr ⟨by omega,by simp[World.putObj];omega⟩
     ·exact .inl ((g1 _).2 (.inr rfl))
    ·have e:bC (fun j=>own j∨j=w.heap.size+1) Wb (W3.putObj (w.heap.size+1) (.loop (rc' stt pe))):=hbp.trans ((hb.more fun j _ hj'=>.inl hj').trans (bC.put W3 _ _ (.inr rfl)))
     exact e.more fun j _ hj'=>(g1 j).2 hj'
   have stop3:∀ (W3:World),(∃ own',(∀ j,own' j→own j∨(Wp.heap.size≤j∧j<W3.heap.size))∧bC own Wp W3∧Jx own' W3)→
     (Instr.endRound (w.heap.size+1) (some jump)).run P W3=.ok (.bool false) (W3.putObj (w.heap.size+1) (.loop (rc' .done (some jump))))∧
     mH (fun oy k W=>∃ own,(∀ j,oy j↔own j∨j=w.heap.size+1)∧(∀ j,own j→j<w.heap.size∨w.heap.size+2≤j)∧J own k W∧W.heap[w.heap.size+1]? =some (.loop (rc' .ready none))∧W.heap[w.heap.size]? =some (.deferred (some [])))
      (fun oy W=>∃ own,(∀ j,oy j↔own j∨j=w.heap.size+1)∧(∀ j,own j→j<w.heap.size∨w.heap.size+2≤j)∧Jx own W∧W.heap[w.heap.size+1]? =some (.loop (rc' .done (some jump)))∧W.heap[w.heap.size]? =some (.deferred (some []))) oy (k+1) Wb (.returned (.bool false)) (W3.putObj (w.heap.size+1) (.loop (rc' .done (some jump)))):=fun W3 ⟨own',ho,hb3,hj3⟩=>by
    obtain⟨f1,f2,f3,f4,f5⟩:=fin W3 own' .done (some jump) ho hb3;have hr:=run_endRound (P:=P) (some jump) f1;rw[hrc] at hr f4 f5 ⊢;refine⟨hr,fun j=>own' j∨j=w.heap.size+1,f4,f5,.inr ⟨rfl,own',fun _=>Iff.rfl,f3,hJx own' _ _ hj3 (Kw.put W3 _ _ uo (out own' f3).2),World.putObj_heap_same (zi f1).1,(World.putObj_heap_other uo).trans f2⟩⟩
   rintro e a3 W3 hp;cases e with
   |normal=>
    obtain⟨own',ho,hb3,hj3⟩:=hp;obtain⟨f1,f2,f3,f4,f5⟩:=fin W3 own' .ready none ho hb3;have hr:=run_endRound (P:=P) none f1;rw[hrc] at hr f4 f5 ⊢;refine⟨_,_,hr,fun j=>own' j∨j=w.heap.size+1,f4,f5,.inl ⟨rfl,own',fun _=>Iff.rfl,f3,hJ own' _ _ _ hj3 (Kw.put W3 _ _ uo (out own' f3).2),World.putObj_heap_same (zi f1).1,(World.putObj_heap_other uo).trans f2⟩⟩
   |exit i=>
    obtain⟨rfl,hp⟩:=hp;obtain⟨hr,hy⟩:=stop3 W3 hp;exact⟨_,_,hr,hy⟩
   |ret=>
    obtain⟨rfl,hp⟩:=hp;obtain⟨hr,hy⟩:=stop3 W3 hp;exact⟨_,_,hr,hy⟩
   |goto t=>exact hp.elim
   |panic ch=>exact hp.elim
   |outgrown=>exact hp.elim
  ·rintro e W2 ⟨⟨v,rfl⟩,oy,⟨own,g1,g2,hx,hl,hd⟩|⟨own,g1,g2,hx,hl,hd⟩⟩
   ·refine⟨none,_,by have:=run_endLoop (P:=P) hl (by rw[hrc];simp);rw[hrc] at this;exact this,?_⟩
    exact hdone _ own _ rfl (out own g2).1 (hJ _ _ _ _ hx (Kw.put W2 _ _ uo (out own g2).2)) ((World.putObj_heap_other uo).trans hd)
   ·refine⟨some jump,_,by have:=run_endLoop (P:=P) hl (by rw[hrc];simp);rw[hrc] at this;exact this,?_⟩
    exact hstop _ own _ rfl (out own g2).1 (hJx _ _ _ hx (Kw.put W2 _ _ uo (out own g2).2)) ((World.putObj_heap_other uo).trans hd)
theorem lY {F:Fence} {n:Nat} {P:Program} {fn:Func} {tmps:Array Value} {R:Ending→World→Prop} {v:Value} (hres:∀ W,(results fn tmps).run P W=.ok v W):
  ∀ (Ds:List Nat) (W:World),Ds.Nodup→(∀ D∈Ds,W.heap[D]? =some (.deferred (some [])))→(∀ W',bC (fun j=>j∈Ds) W W'→R (.returned v) W')→
   LeavesInM F n P fn tmps R (Ds.map fun D=>{ target:=.collected D,args:=#[] }) .returning W
 |[],W,_,_,h=>⟨v,hres W,h W (bC.refl _ _)⟩
 |D::Ds,W,hn,hd,h=>by
  have hD:=hd D us;refine⟨by simp,.inl ⟨D,_,rfl,run_takeDeferred hD,?_⟩⟩;obtain⟨h1,h2⟩:=List.nodup_cons.1 hn;refine lY hres Ds _ h2 (fun E hE=>?_) fun W' hb=>h W' ?_
  ·exact(World.putObj_heap_other (fun e=>h1 (by rw[←e];exact hE))).trans (hd E (by simp[hE]))
  ·exact(bC.put W D _ us).trans (hb.more fun j _ hj=>by simp[hj])
structure Kv (B:Nat) (V own:Nat→Prop) (w w':World):Prop where
 os:w'.os=w.os
 tape:w'.tape=w.tape
 output:w'.output=w.output
 size:w.heap.size≤w'.heap.size
 block:∀ k,k<w.heap.size→((k<B∧¬V k)∨own k)→w'.heap[k]? =w.heap[k]?
theorem Kv.of_below {B:Nat} {V own:Nat→Prop} {w w':World} (h:Below w.heap.size w w'):Kv B V own w w':=⟨h.os,h.tape,h.output,h.size,fun k hk _=>h.block k hk⟩
theorem Kv.trans {B:Nat} {V own:Nat→Prop} {a b c:World} (h:Kv B V own a b) (k:Kv B V own b c):Kv B V own a c:=
 ⟨k.os.trans h.os,k.tape.trans h.tape,k.output.trans h.output,Nat.le_trans h.size k.size,fun i hi hs=>(k.block i (Nat.lt_of_lt_of_le hi h.size) hs).trans (h.block i hi hs)⟩
theorem Kv.of_but {B:Nat} {V own F:Nat→Prop} {w w':World} (h:bC F w w') (hF:∀ k,k<w.heap.size→F k→(V k∨B≤k)∧¬own k):Kv B V own w w':=
 ⟨h.os,h.tape,h.output,h.size,fun k hk hn=>h.block k hk fun e=>by
  obtain⟨h1,h2⟩:=hF k hk e;rcases hn with hn|hn
  ·rcases h1 with h1|h1
   ·exact hn.2 h1
   ·omega
  ·exact h2 hn⟩
theorem Kv.put {B:Nat} {V own:Nat→Prop} (w:World) (l:Nat) (o:Obj) (h1:B≤l) (h2:¬own l):Kv B V own w (w.putObj l o):=
 ⟨rfl,rfl,rfl,by simp[World.putObj],fun k _ hn=>World.putObj_heap_other fun e=>by
  rcases hn with hn|hn
  ·omega
  ·exact h2 (by rw[←e];exact hn)⟩
theorem Kv.less {B B':Nat} {V own own':Nat→Prop} {w w':World} (h:Kv B V own w w') (hB:B'≤B) (ho:∀ k,own' k→own k):Kv B' V own' w w':=
 ⟨h.os,h.tape,h.output,h.size,fun k hk hn=>h.block k hk (by
  rcases hn with hn|hn
  ·exact .inl ⟨by omega,hn.2⟩
  ·exact .inr (ho k hn))⟩
def cu (own own':Nat→Prop) (W W':World):Prop:=∀ j,own' j→own j∨(W.heap.size≤j∧j<W'.heap.size)
def YP (R:(Nat→Prop)→Nat→World→Prop) (Rx:(Nat→Prop)→World→Prop) (own:Nat→Prop) (i:Nat) (W:World) (b:Bool) (e:Ending) (W':World):Prop:=
 ∃ own',cu own own' W W'∧bC own W W'∧e=.returned (.bool b)∧((b=true∧R own' i W')∨(b=false∧Rx own' W'))
def zoB (J:(Nat→Prop)→World→Prop) (Jx:(Nat→Prop)→World→Prop) (jump:Code) (own:Nat→Prop) (W:World) (b:Bool):Exit→Act→World→Prop
 |.normal,_,W'=>b=true∧∃ own',cu own own' W W'∧bC own W W'∧J own' W'
 |.exit i,_,W'=>b=false∧jump=.exit i∧∃ own',cu own own' W W'∧bC own W W'∧Jx own' W'
 |_,_,_=>False
theorem zd4 {n:Nat} {P:Program} {g:Operand} {ps:Array Tmp} {assign body:Code} {Q:Exit→Act→World→Prop} {a:Act} {w:World}
  (h1:1≤n) {gf:Nat} {lb:Array Value} (hg:a.eval g=.func (.func gf) #[] lb) (eg:∀ args w,(callFunc gf args).run P w=.ok (.enter gf args) w)
  {α:Type} (N:Nat) (encs:α→Array Value) (hps:∀ k,(encs k).size=ps.size) (it:Nat→α→Bool→Prop) (V:Nat→Prop) (hV:∀ j,V j→j<w.heap.size)
  (J:(Nat→Prop)→Nat→World→Prop) (Jx:(Nat→Prop)→World→Prop) (jump:Code)
  (hJ:∀ own k W W',J own k W→Kv w.heap.size V own W W'→J own k W') (hJx:∀ own W W',Jx own W→Kv w.heap.size V own W W'→Jx own W')
  (E:(Nat→Prop)→World→Prop) (hE:∀ own own' W o',E own' W→own' (w.heap.size+1)→(∀ j,own j→own' j)→E own (W.putObj (w.heap.size+1) o'))
  (own0:Nat→Prop) (hown0:∀ j,own0 j→j<w.heap.size) (h0:J own0 0 w)
  (A:α→Act→World→Prop) (hA:∀ x a' W l o',A x a' W→w.heap.size≤l→l<w.heap.size+2→A x a' (W.putObj l o'))
  (hassign:∀ (l:Nat) (own:Nat→Prop) (k:Nat) (x:α) (b:Bool) (W:World) (K:Act→World→Prop),it k x b→J own k W→w.heap.size+2≤W.heap.size→(∀ a' W',Below W.heap.size W W'→A x a' W'→K a' W')→
   assign.wpIn (Fence.wide.inRound l) (n - 1 - 1) P (Exit.then K (fun _ _ _=>False)) { tmps:=(ps.zip (encs x)).foldl (fun t (p,v)=>t.setIfInBounds p v) a.tmps,defers:=[] } W)
  (hbody:∀ (l:Nat) (own:Nat→Prop) (k:Nat) (x:α) (b:Bool) (a':Act) (W:World),it k x b→J own k W→A x a' W→w.heap.size+2≤W.heap.size→(∀ j,own j→j<W.heap.size)→body.wpIn (Fence.wide.inRound l) (n - 1 - 1) P (zoB (fun own' W'=>J own' (k+1) W') Jx jump own W b) a' W)
  (hiter:∀ (l:Nat) (W1:World),l=w.heap.size+1→Below w.heap.size w W1→W1.heap.size=w.heap.size+2→∀ (R:(Nat→Prop)→Nat→World→Prop) (Rx:(Nat→Prop)→World→Prop) (own:Nat→Prop),(∀ j,own j↔own0 j∨j=l)→
   (∀ own k W W',R own k W→Kv W1.heap.size V own W W'→R own k W')→(∀ own W W',Rx own W→Kv W1.heap.size V own W W'→Rx own W')→
   (∀ own k x b W,it k x b→R own k W→(∀ j,own j→j<W.heap.size)→YieldAt Fence.wide 0 P l (encs x) W (YP R Rx own (k+1) W b))→R own 0 W1→
   Calls P gf (#[.func (.yield l) #[] #[]]++lb) W1 fun e W'=>(∃ v,e=.returned v)∧∃ own',E own' W'∧(R own' N W'∨Rx own' W'))
  (hdone:∀ (D:Nat) (own:Nat→Prop) (W:World),D=w.heap.size→¬own D→J own N W→E own W→W.heap[D]? =some (.deferred (some []))→Q .normal { a with defers:={ target:=.collected D,args:=#[] }::a.defers } W)
  (hstop:∀ (D:Nat) (own:Nat→Prop) (W:World),D=w.heap.size→¬own D→Jx own W→E own W→W.heap[D]? =some (.deferred (some []))→jump.wpIn Fence.wide n P Q { a with defers:={ target:=.collected D,args:=#[] }::a.defers } W):
  (Code.rangeFunc g ps assign body).wpIn Fence.wide n P Q a w:=by
 refine wpIn_rangeFunc fun fn hfn=>?_
 rw[show Fence.wide.round=none from rfl];obtain⟨rc',hrc⟩:∃ rc':LoopState→Option Code→Loop,rc'=fun st pe=>{ state:=st,pending:=pe,fn,tmps:=a.tmps,params:=ps,assign,body,defers:=w.heap.size }:=⟨_,rfl⟩
 obtain⟨W1,hW1⟩:∃ W1,(w.alloc (.deferred (some []))).alloc (.loop (rc' .ready none))=W1:=⟨_,rfl⟩;have hn2:=fJ w (.deferred (some [])) (.loop (rc' .ready none));have hs:W1.heap.size=w.heap.size+2:=by rw[←hW1];simp
 rw[hW1] at hn2;obtain⟨hD1,hL1,hB1⟩:=hn2;have nV:∀ j,w.heap.size≤j→¬V j:=fun j hj hv=>by have:=hV j hv;omega
 refine⟨w.heap.size+1,[{ target:=.collected w.heap.size,args:=#[] }],W1,{ target:=.fn (.func gf) lb,args:=#[.func (.yield (w.heap.size+1)) #[] #[]] },W1,gf,
  #[.func (.yield (w.heap.size+1)) #[] #[]]++lb,W1,?_,?_,?_,?_,fun _=>h1,?_⟩
 ·rw[←hW1,hrc];exact run_enterLoop_outer _ _ _ _ _
 ·simp only[resolve,hg]
  simp[go_sem]
 ·intro f' hf'
  trivial
 ·simp[invoke,go_sem,eg]
 ·have out:∀ own:Nat→Prop,(∀ j,own j→j<w.heap.size∨w.heap.size+2≤j)→¬own w.heap.size∧¬own (w.heap.size+1):=fun own h=>⟨fun e=>by have:=h _ e;omega,fun e=>by have:=h _ e;omega⟩
  refine callsIn_wide.2 ((hiter (w.heap.size+1) W1 rfl hB1 hs
   (fun oy k W=>∃ own,(∀ j,oy j↔own j∨j=w.heap.size+1)∧(∀ j,own j→j<w.heap.size∨w.heap.size+2≤j)∧J own k W∧W.heap[w.heap.size+1]? =some (.loop (rc' .ready none))∧W.heap[w.heap.size]? =some (.deferred (some [])))
   (fun oy W=>∃ own,(∀ j,oy j↔own j∨j=w.heap.size+1)∧(∀ j,own j→j<w.heap.size∨w.heap.size+2≤j)∧Jx own W∧W.heap[w.heap.size+1]? =some (.loop (rc' .done (some jump)))∧W.heap[w.heap.size]? =some (.deferred (some [])))
   (fun j=>own0 j∨j=w.heap.size+1) (fun j=>Iff.rfl)
   (fun oy k W W' h hb=>?_) (fun oy W W' h hb=>?_) ?_ ⟨own0,fun j=>Iff.rfl,fun j hj=>.inl (hown0 j hj),hJ own0 0 w W1 h0 (Kv.of_below hB1),hL1,hD1⟩).mono ?_)
  ·obtain⟨own,h1,h2,h3,h4,h5⟩:=h
   have l4:=(zi h4).1;exact⟨own,h1,h2,hJ own k W W' h3 (hb.less uo fun j hj=>(h1 j).2 (.inl hj)),(hb.block _ l4 (.inl ⟨by omega,nV _ uo⟩)).trans h4,(hb.block _ uo (.inl ⟨by omega,nV _ uo⟩)).trans h5⟩
  ·obtain⟨own,h1,h2,h3,h4,h5⟩:=h
   have l4:=(zi h4).1;exact⟨own,h1,h2,hJx own W W' h3 (hb.less uo fun j hj=>(h1 j).2 (.inl hj)),(hb.block _ l4 (.inl ⟨by omega,nV _ uo⟩)).trans h4,(hb.block _ uo (.inl ⟨by omega,nV _ uo⟩)).trans h5⟩
  ·rintro oy k x b Wb hok ⟨own,g1,g2,hj,hl,hd⟩ hsz
   have hyr:=run_yield (P:=P) (args:=encs x) hl (by rw[hrc];exact hps x);rw[hrc] at hyr;refine lX (n:=n - 1 - 1) ⟨fn,_,assign,body,hyr,roundIn_of_wpIn hfn (hassign _ own k x b Wb _ hok hj (by have:=(zi hl).1;omega) ?_)⟩;intro a' W hBa hAx;have hltb:=(zi hl).1;have hO:=out own g2
   replace hj:=hJ own k _ _ hj (Kv.of_below hBa)
   replace hl:=(hBa.block _ uo).trans hl
   replace hd:=(hBa.block _ uo).trans hd
   have hlt:w.heap.size+1<W.heap.size:=(zi hl).1;have hszW:=hBa.size;refine⟨_,run_beginRound hl (by rw[hrc]),?_⟩;obtain⟨Wp,hWp⟩:∃ Wp,W.putObj (w.heap.size+1) (.loop { rc' .ready none with state:=.busy })=Wp:=⟨_,rfl⟩;have hl2:Wp.heap[w.heap.size+1]? =some (.loop { rc' .ready none with state:=.busy }):=by rw[←hWp];exact World.putObj_heap_same hlt
   have hd2:Wp.heap[w.heap.size]? =some (.deferred (some [])):=by rw[←hWp];exact(World.putObj_heap_other uo).trans hd
   have hsp:Wp.heap.size=W.heap.size:=by rw[←hWp];simp[World.putObj]
   have hjp:J own k Wp:=by rw[←hWp];exact hJ own k _ _ hj (Kv.put W _ _ uo hO.2)
   have hAp:A x a' Wp:=by rw[←hWp];exact hA x a' W _ _ hAx uo uo
   have hbp:bC (fun j=>own j∨j=w.heap.size+1) Wb Wp:=by rw[←hWp];exact(bC.of_below hBa).trans (bC.put W _ _ (.inr rfl))
   rw[hWp];have hownlt:∀ j,own j→j<Wp.heap.size:=fun j hj'=>by have:=hsz j ((g1 j).2 (.inl hj'));omega
   refine wpIn_mono (hbody _ own k x b a' Wp hok hjp hAp uo hownlt) ?_
   have fin:∀ (W3:World) (own':Nat→Prop) (stt:LoopState) (pe:Option Code),cu own own' Wp W3→bC own Wp W3→
     W3.heap[w.heap.size+1]? =some (.loop { rc' .ready none with state:=.busy })∧W3.heap[w.heap.size]? =some (.deferred (some []))∧(∀ j,own' j→j<w.heap.size∨w.heap.size+2≤j)∧
     (∀ j,(own' j∨j=w.heap.size+1)→oy j∨(Wb.heap.size≤j∧j<(W3.putObj (w.heap.size+1) (.loop (rc' stt pe))).heap.size))∧bC oy Wb (W3.putObj (w.heap.size+1) (.loop (rc' stt pe))):=fun W3 own' stt pe ho hb=>by
    have hs3:=hb.size;refine⟨(hb.block _ uo hO.2).trans hl2,(hb.block _ uo hO.1).trans hd2,fun j hj'=>?_,fun j hj'=>?_,?_⟩
    ·rcases ho j hj' with a|a
     ·exact g2 j a
     ·omega
    ·rcases hj' with hj'|rfl
     ·rcases ho j hj' with a|a
      ·exact .inl ((g1 j).2 (.inl a))
      ·exact .inr ⟨by omega,by simp[World.putObj];omega⟩
     ·exact .inl ((g1 _).2 (.inr rfl))
    ·have e:bC (fun j=>own j∨j=w.heap.size+1) Wb (W3.putObj (w.heap.size+1) (.loop (rc' stt pe))):=hbp.trans ((hb.more fun j _ hj'=>.inl hj').trans (bC.put W3 _ _ (.inr rfl)))
     exact e.more fun j _ hj'=>(g1 j).2 hj'
   rintro e a3 W3 hp;cases e with
   |normal=>
    obtain⟨rfl,own',ho,hb3,hj3⟩:=hp;obtain⟨f1,f2,f3,f4,f5⟩:=fin W3 own' .ready none ho hb3;have hr:=run_endRound (P:=P) none f1;rw[hrc] at hr f4 f5 ⊢;refine⟨_,_,hr,fun j=>own' j∨j=w.heap.size+1,f4,f5,rfl,.inl ⟨rfl,own',fun _=>Iff.rfl,f3,hJ own' _ _ _ hj3 (Kv.put W3 _ _ uo (out own' f3).2),World.putObj_heap_same (zi f1).1,(World.putObj_heap_other uo).trans f2⟩⟩
   |exit i=>
    obtain⟨rfl,rfl,own',ho,hb3,hj3⟩:=hp;obtain⟨f1,f2,f3,f4,f5⟩:=fin W3 own' .done (some (.exit i)) ho hb3;have hr:=run_endRound (P:=P) (some (.exit i)) f1;rw[hrc] at hr f4 f5 ⊢;refine⟨_,_,hr,fun j=>own' j∨j=w.heap.size+1,f4,f5,rfl,.inr ⟨rfl,own',fun _=>Iff.rfl,f3,hJx own' _ _ hj3 (Kv.put W3 _ _ uo (out own' f3).2),World.putObj_heap_same (zi f1).1,(World.putObj_heap_other uo).trans f2⟩⟩
   |ret=>exact hp.elim
   |goto t=>exact hp.elim
   |panic ch=>exact hp.elim
   |outgrown=>exact hp.elim
  ·rintro e W2 ⟨⟨v,rfl⟩,oy,hEW,⟨own,g1,g2,hx,hl,hd⟩|⟨own,g1,g2,hx,hl,hd⟩⟩
   ·refine⟨none,_,by have:=run_endLoop (P:=P) hl (by rw[hrc];simp);rw[hrc] at this;exact this,?_⟩
    exact hdone _ own _ rfl (out own g2).1 (hJ _ _ _ _ hx (Kv.put W2 _ _ uo (out own g2).2)) (hE own oy _ _ hEW ((g1 _).2 (.inr rfl)) fun j hj=>(g1 j).2 (.inl hj)) ((World.putObj_heap_other uo).trans hd)
   ·refine⟨some jump,_,by have:=run_endLoop (P:=P) hl (by rw[hrc];simp);rw[hrc] at this;exact this,?_⟩
    exact hstop _ own _ rfl (out own g2).1 (hJx _ _ _ hx (Kv.put W2 _ _ uo (out own g2).2)) (hE own oy _ _ hEW ((g1 _).2 (.inr rfl)) fun j hj=>(g1 j).2 (.inl hj)) ((World.putObj_heap_other uo).trans hd)
theorem zg0 {n:Nat} {P:Program} {g:Operand} {ps:Array Tmp} {assign body:Code} {Q:Exit→Act→World→Prop} {a:Act} {w:World}
  (h1:1≤n) {gf:Nat} {lb:Array Value} (hg:a.eval g=.func (.func gf) #[] lb) (eg:∀ args w,(callFunc gf args).run P w=.ok (.enter gf args) w)
  {α:Type} (N:Nat) (encs:α→Array Value) (hps:∀ k,(encs k).size=ps.size) (ok:Nat→α→World→Prop)
  (J:(Nat→Prop)→Nat→World→Prop) (Jx:(Nat→Prop)→World→Prop) (jump:Code)
  (hJ:∀ own k W W',J own k W→Below W.heap.size W W'→J own k W') (hJx:∀ own W W',Jx own W→Below W.heap.size W W'→Jx own W') (hJp:∀ own k W o',J own k W→J own k (W.putObj (w.heap.size+1) o')) (hJxp:∀ own W o',Jx own W→Jx own (W.putObj (w.heap.size+1) o'))
  (J2:(Nat→Prop)→Nat→α→World→Prop) (hJ2p:∀ own k x W o',J2 own k x W→J2 own k x (W.putObj (w.heap.size+1) o'))
  (own0:Nat→Prop) (hown0:∀ j,own0 j→j<w.heap.size) (h0:J own0 0 w)
  (A:α→Act→World→Prop) (hA:∀ x a' W l o',A x a' W→w.heap.size≤l→l<w.heap.size+2→A x a' (W.putObj l o'))
  (hassign:∀ (l:Nat) (own:Nat→Prop) (k:Nat) (x:α) (W:World) (K:Act→World→Prop),k<N→ok k x W→J own k W→w.heap.size+2≤W.heap.size→(∀ j,own j→j<W.heap.size)→(∀ a' W',bC own W W'→J2 own k x W'→A x a' W'→K a' W')→
   assign.wpIn (Fence.wide.inRound l) (n - 1 - 1) P (Exit.then K (fun _ _ _=>False)) { tmps:=(ps.zip (encs x)).foldl (fun t (p,v)=>t.setIfInBounds p v) a.tmps,defers:=[] } W)
  (hbody:∀ (l:Nat) (own:Nat→Prop) (k:Nat) (x:α) (a':Act) (W:World),k<N→J2 own k x W→A x a' W→w.heap.size+2≤W.heap.size→(∀ j,own j→j<W.heap.size)→body.wpIn (Fence.wide.inRound l) (n - 1 - 1) P (znK (fun own' W'=>J own' (k+1) W') Jx jump own W) a' W)
  (hiter:∀ (l:Nat) (W1:World),l=w.heap.size+1→Below w.heap.size w W1→W1.heap.size=w.heap.size+2→∀ (R:(Nat→Prop)→Nat→World→Prop) (Rx:(Nat→Prop)→World→Prop) (own:Nat→Prop),(∀ j,own j↔own0 j∨j=l)→
   (∀ own k W W',R own k W→Below W.heap.size W W'→R own k W')→(∀ own W W',Rx own W→Below W.heap.size W W'→Rx own W')→
   (∀ own k x W,k<N→ok k x W→R own k W→(∀ j,own j→j<W.heap.size)→YieldAt Fence.wide 0 P l (encs x) W (mH R Rx own (k+1) W))→R own 0 W1→
   Calls P gf (#[.func (.yield l) #[] #[]]++lb) W1 fun e W'=>(∃ v,e=.returned v)∧∃ own',(R own' N W'∨Rx own' W'))
  (hdone:∀ (D:Nat) (own:Nat→Prop) (W:World),D=w.heap.size→¬own D→J own N W→W.heap[D]? =some (.deferred (some []))→Q .normal { a with defers:={ target:=.collected D,args:=#[] }::a.defers } W)
  (hstop:∀ (D:Nat) (own:Nat→Prop) (W:World),D=w.heap.size→¬own D→Jx own W→W.heap[D]? =some (.deferred (some []))→jump.wpIn Fence.wide n P Q { a with defers:={ target:=.collected D,args:=#[] }::a.defers } W):
  (Code.rangeFunc g ps assign body).wpIn Fence.wide n P Q a w:=by
 refine wpIn_rangeFunc fun fn hfn=>?_
 rw[show Fence.wide.round=none from rfl];obtain⟨rc',hrc⟩:∃ rc':LoopState→Option Code→Loop,rc'=fun st pe=>{ state:=st,pending:=pe,fn,tmps:=a.tmps,params:=ps,assign,body,defers:=w.heap.size }:=⟨_,rfl⟩
 obtain⟨W1,hW1⟩:∃ W1,(w.alloc (.deferred (some []))).alloc (.loop (rc' .ready none))=W1:=⟨_,rfl⟩;have hn2:=fJ w (.deferred (some [])) (.loop (rc' .ready none));have hs:W1.heap.size=w.heap.size+2:=by rw[←hW1];simp
 rw[hW1] at hn2;obtain⟨hD1,hL1,hB1⟩:=hn2
 refine⟨w.heap.size+1,[{ target:=.collected w.heap.size,args:=#[] }],W1,{ target:=.fn (.func gf) lb,args:=#[.func (.yield (w.heap.size+1)) #[] #[]] },W1,gf,
  #[.func (.yield (w.heap.size+1)) #[] #[]]++lb,W1,?_,?_,?_,?_,fun _=>h1,?_⟩
 ·rw[←hW1,hrc];exact run_enterLoop_outer _ _ _ _ _
 ·simp only[resolve,hg]
  simp[go_sem]
 ·intro f' hf'
  trivial
 ·simp[invoke,go_sem,eg]
 ·have out:∀ own:Nat→Prop,(∀ j,own j→j<w.heap.size∨w.heap.size+2≤j)→¬own w.heap.size∧¬own (w.heap.size+1):=fun own h=>⟨fun e=>by have:=h _ e;omega,fun e=>by have:=h _ e;omega⟩
  refine callsIn_wide.2 ((hiter (w.heap.size+1) W1 rfl hB1 hs
   (fun oy k W=>∃ own,(∀ j,oy j↔own j∨j=w.heap.size+1)∧(∀ j,own j→j<w.heap.size∨w.heap.size+2≤j)∧J own k W∧W.heap[w.heap.size+1]? =some (.loop (rc' .ready none))∧W.heap[w.heap.size]? =some (.deferred (some [])))
   (fun oy W=>∃ own,(∀ j,oy j↔own j∨j=w.heap.size+1)∧(∀ j,own j→j<w.heap.size∨w.heap.size+2≤j)∧Jx own W∧W.heap[w.heap.size+1]? =some (.loop (rc' .done (some jump)))∧W.heap[w.heap.size]? =some (.deferred (some [])))
   (fun j=>own0 j∨j=w.heap.size+1) (fun j=>Iff.rfl)
   (fun oy k W W' h hb=>?_) (fun oy W W' h hb=>?_) ?_ ⟨own0,fun j=>Iff.rfl,fun j hj=>.inl (hown0 j hj),hJ own0 0 w W1 h0 hB1,hL1,hD1⟩).mono ?_)
  ·obtain⟨own,h1,h2,h3,h4,h5⟩:=h
   have l4:=(zi h4).1;exact⟨own,h1,h2,hJ own k W W' h3 hb,(hb.block _ l4).trans h4,(hb.block _ uo).trans h5⟩
  ·obtain⟨own,h1,h2,h3,h4,h5⟩:=h
   have l4:=(zi h4).1;exact⟨own,h1,h2,hJx own W W' h3 hb,(hb.block _ l4).trans h4,(hb.block _ uo).trans h5⟩
  ·rintro oy k x Wb hkN hok ⟨own,g1,g2,hj,hl,hd⟩ hsz
   have hyr:=run_yield (P:=P) (args:=encs x) hl (by rw[hrc];exact hps x);rw[hrc] at hyr;refine lX (n:=n - 1 - 1) ⟨fn,_,assign,body,hyr,roundIn_of_wpIn hfn (hassign _ own k x Wb _ hkN hok hj (by have:=(zi hl).1;omega) (fun j hj'=>hsz j ((g1 j).2 (.inl hj'))) ?_)⟩;intro a' W hBa hj2 hAx;have hltb:=(zi hl).1;have hO:=out own g2
   replace hl:=(hBa.block _ uo hO.2).trans hl
   replace hd:=(hBa.block _ uo hO.1).trans hd
   have hlt:w.heap.size+1<W.heap.size:=(zi hl).1;have hszW:=hBa.size;refine⟨_,run_beginRound hl (by rw[hrc]),?_⟩;obtain⟨Wp,hWp⟩:∃ Wp,W.putObj (w.heap.size+1) (.loop { rc' .ready none with state:=.busy })=Wp:=⟨_,rfl⟩;have hl2:Wp.heap[w.heap.size+1]? =some (.loop { rc' .ready none with state:=.busy }):=by rw[←hWp];exact World.putObj_heap_same hlt
   have hd2:Wp.heap[w.heap.size]? =some (.deferred (some [])):=by rw[←hWp];exact(World.putObj_heap_other uo).trans hd
   have hsp:Wp.heap.size=W.heap.size:=by rw[←hWp];simp[World.putObj]
   have hjp:J2 own k x Wp:=by rw[←hWp];exact hJ2p own k x _ _ hj2
   have hAp:A x a' Wp:=by rw[←hWp];exact hA x a' W _ _ hAx uo uo
   have hbp:bC (fun j=>own j∨j=w.heap.size+1) Wb Wp:=by rw[←hWp];exact(hBa.more fun j _ hj'=>.inl hj').trans (bC.put W _ _ (.inr rfl))
   rw[hWp];have hownlt:∀ j,own j→j<Wp.heap.size:=fun j hj'=>by have:=hsz j ((g1 j).2 (.inl hj'));omega
   refine wpIn_mono (hbody _ own k x a' Wp hkN hjp hAp uo hownlt) ?_
   have fin:∀ (W3:World) (own':Nat→Prop) (stt:LoopState) (pe:Option Code),(∀ j,own' j→own j∨(Wp.heap.size≤j∧j<W3.heap.size))→bC own Wp W3→
     W3.heap[w.heap.size+1]? =some (.loop { rc' .ready none with state:=.busy })∧W3.heap[w.heap.size]? =some (.deferred (some []))∧(∀ j,own' j→j<w.heap.size∨w.heap.size+2≤j)∧
     (∀ j,(own' j∨j=w.heap.size+1)→oy j∨(Wb.heap.size≤j∧j<(W3.putObj (w.heap.size+1) (.loop (rc' stt pe))).heap.size))∧bC oy Wb (W3.putObj (w.heap.size+1) (.loop (rc' stt pe))):=fun W3 own' stt pe ho hb=>by
    have hs3:=hb.size;refine⟨(hb.block _ uo hO.2).trans hl2,(hb.block _ uo hO.1).trans hd2,fun j hj'=>?_,fun j hj'=>?_,?_⟩
    ·rcases ho j hj' with a|a
     ·exact g2 j a
     ·omega
    ·rcases hj' with hj'|rfl
     ·rcases ho j hj' with a|a
      ·exact .inl ((g1 j).2 (.inl a))
      ·exact .inr ⟨by omega,by simp[World.putObj];omega⟩
     ·exact .inl ((g1 _).2 (.inr rfl))
    ·have e:bC (fun j=>own j∨j=w.heap.size+1) Wb (W3.putObj (w.heap.size+1) (.loop (rc' stt pe))):=hbp.trans ((hb.more fun j _ hj'=>.inl hj').trans (bC.put W3 _ _ (.inr rfl)))
     exact e.more fun j _ hj'=>(g1 j).2 hj'
   have stop3:∀ (W3:World),(∃ own',(∀ j,own' j→own j∨(Wp.heap.size≤j∧j<W3.heap.size))∧bC own Wp W3∧Jx own' W3)→
     (Instr.endRound (w.heap.size+1) (some jump)).run P W3=.ok (.bool false) (W3.putObj (w.heap.size+1) (.loop (rc' .done (some jump))))∧
     mH (fun oy k W=>∃ own,(∀ j,oy j↔own j∨j=w.heap.size+1)∧(∀ j,own j→j<w.heap.size∨w.heap.size+2≤j)∧J own k W∧W.heap[w.heap.size+1]? =some (.loop (rc' .ready none))∧W.heap[w.heap.size]? =some (.deferred (some [])))
      (fun oy W=>∃ own,(∀ j,oy j↔own j∨j=w.heap.size+1)∧(∀ j,own j→j<w.heap.size∨w.heap.size+2≤j)∧Jx own W∧W.heap[w.heap.size+1]? =some (.loop (rc' .done (some jump)))∧W.heap[w.heap.size]? =some (.deferred (some []))) oy (k+1) Wb (.returned (.bool false)) (W3.putObj (w.heap.size+1) (.loop (rc' .done (some jump)))):=fun W3 ⟨own',ho,hb3,hj3⟩=>by
    obtain⟨f1,f2,f3,f4,f5⟩:=fin W3 own' .done (some jump) ho hb3;have hr:=run_endRound (P:=P) (some jump) f1;rw[hrc] at hr f4 f5 ⊢;refine⟨hr,fun j=>own' j∨j=w.heap.size+1,f4,f5,.inr ⟨rfl,own',fun _=>Iff.rfl,f3,hJxp own' _ _ hj3,World.putObj_heap_same (zi f1).1,(World.putObj_heap_other uo).trans f2⟩⟩
   rintro e a3 W3 hp;cases e with
   |normal=>
    obtain⟨own',ho,hb3,hj3⟩:=hp;obtain⟨f1,f2,f3,f4,f5⟩:=fin W3 own' .ready none ho hb3;have hr:=run_endRound (P:=P) none f1;rw[hrc] at hr f4 f5 ⊢;refine⟨_,_,hr,fun j=>own' j∨j=w.heap.size+1,f4,f5,.inl ⟨rfl,own',fun _=>Iff.rfl,f3,hJp own' _ _ _ hj3,World.putObj_heap_same (zi f1).1,(World.putObj_heap_other uo).trans f2⟩⟩
   |exit i=>
    obtain⟨rfl,hp⟩:=hp;obtain⟨hr,hy⟩:=stop3 W3 hp;exact⟨_,_,hr,hy⟩
   |ret=>
    obtain⟨rfl,hp⟩:=hp;obtain⟨hr,hy⟩:=stop3 W3 hp;exact⟨_,_,hr,hy⟩
   |goto t=>exact hp.elim
   |panic ch=>exact hp.elim
   |outgrown=>exact hp.elim
  ·rintro e W2 ⟨⟨v,rfl⟩,oy,⟨own,g1,g2,hx,hl,hd⟩|⟨own,g1,g2,hx,hl,hd⟩⟩
   ·refine⟨none,_,by have:=run_endLoop (P:=P) hl (by rw[hrc];simp);rw[hrc] at this;exact this,?_⟩
    exact hdone _ own _ rfl (out own g2).1 (hJp _ _ _ _ hx) ((World.putObj_heap_other uo).trans hd)
   ·refine⟨some jump,_,by have:=run_endLoop (P:=P) hl (by rw[hrc];simp);rw[hrc] at this;exact this,?_⟩
    exact hstop _ own _ rfl (out own g2).1 (hJxp _ _ _ hx) ((World.putObj_heap_other uo).trans hd)
end Rq
end Go.Proofs.YtokfnghckpgjmaaGreatDoor
