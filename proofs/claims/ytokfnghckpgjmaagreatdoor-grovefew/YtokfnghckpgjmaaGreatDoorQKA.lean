/- A range over a function, left at its end, by a return or by a label; the loop variable in a block of its own. -/
import Derived.Test.YtokfnghckpgjmaaGreatDoorPPo
import Derived.Test.YtokfnghckpgjmaaGreatDoorRows
import Derived.Test.YtokfnghckpgjmaaGreatDoorPKM
import Derived.WalkSpells
import Derived.WalkLawsBesides
import Derived.RangeFuncNested
import Derived.RangeFuncBound
import Derived.Shelf.RegionOpen
import Derived.OwnWalkIn
import Derived.LoopNIn
import Derived.LoopIn
import Derived.Deep.MidRow
import Derived.Test.YtokfnghckpgjmaaGreatDoorPPk
import Derived.Test.YtokfnghckpgjmaaGreatDoorPPm
set_option maxRecDepth 100000
set_option maxHeartbeats 2000000
namespace Go.Proofs.YtokfnghckpgjmaaGreatDoor
namespace Rk
open Go.RowKit
theorem fh {B l:Nat} (W:World) (o:Obj) (h:B≤l):Below B W (W.putObj l o):=
 ⟨rfl,rfl,rfl,by simp[World.putObj],fun k hk=>World.putObj_heap_other uo⟩
theorem bF (w:World) (o:Obj):Below w.heap.size w (w.alloc o):=(Below.refl _ w).alloc zn _
theorem fJ (w:World) (a b:Obj):((w.alloc a).alloc b).heap[w.heap.size]? =some a∧((w.alloc a).alloc b).heap[w.heap.size+1]? =some b∧Below w.heap.size w ((w.alloc a).alloc b):=by
 refine⟨?_,?_,((Below.refl _ w).alloc zn _).alloc us _⟩
 ·exact(Below.heap_alloc _ _ _ us).trans (zq w a)
 ·have:=zq (w.alloc a) b;simpa using this
theorem iI (w:World) (g k:Nat) (v:Value):w.grownBy (w.setCell ⟨g,k,none⟩ v) (some g):=
 ⟨rfl,rfl,rfl,by simp[World.setCell],fun j _ hne=>Below.heap_setCell _ _ _ _ (fun e=>hne (by rw[e]))⟩
theorem ff {B r:Nat} {X Y:World} (hg:X.grownBy Y (some r)) (hr:B≤r) (hB:B≤X.heap.size):Below B X Y:=⟨hg.os,hg.tape,hg.output,hg.size,fun k hk=>hg.block k uo (by intro e;cases e;omega)⟩
def Kq (b c:Nat) (A B:World):Prop:=A.heap.size≤B.heap.size∧∀ j o,j<b∨j=c→A.heap[j]? =some o→o.isCells=true→B.heap[j]? =some o
theorem Kq.refl (b c:Nat) (A:World):Kq b c A A:=⟨Nat.le_refl _,fun _ _ _ h _=>h⟩
theorem Kq.trans {b c:Nat} {A B C:World} (h:Kq b c A B) (k:Kq b c B C):Kq b c A C:=⟨Nat.le_trans h.1 k.1,fun j o hj ho hc=>k.2 j o hj (h.2 j o hj ho hc) hc⟩
theorem Kq.put (b c:Nat) (W:World) (l:Nat) (o o':Obj) (h:W.heap[l]? =some o) (hc:o.isCells=false):Kq b c W (W.putObj l o'):=
 ⟨by simp[World.putObj],fun j p _ hp hpc=>by
  by_cases e:j=l
  ·subst e;rw[h] at hp;cases hp;rw[hc] at hpc;cases hpc
  ·exact(World.putObj_heap_other e).trans hp⟩
theorem Kq.below {b c B:Nat} {X Y:World} (h:Below B X Y) (hB:b≤B) (hc:c<B):Kq b c X Y:=⟨h.size,fun j _ hj ho _=>(h.block j uo).trans ho⟩
theorem Kq.set {b c:Nat} (W:World) (g k:Nat) (v:Value) (h1:b≤g) (h2:c≠g):Kq b c W (W.setCell ⟨g,k,none⟩ v):=
 ⟨by simp[World.setCell],fun j _ hj ho _=>(Below.heap_setCell _ _ _ _ (by simp only;omega)).trans ho⟩
def zj4 (B:Nat) (Kp:World→World→Prop) (J Jx:World→Prop) (jump:Code) (W:World):Exit→Act→World→Prop
 |.normal,_,W'=>KeepsFrom B W W'∧Kp W W'∧J W'
 |.exit i,_,W'=>jump=.exit i∧KeepsFrom B W W'∧Jx W'
 |.ret,_,W'=>jump=.ret∧KeepsFrom B W W'∧Jx W'
 |_,_,_=>False
theorem ni {F:Fence} {n:Nat} {P:Program} {g:Operand} {ps:Array Tmp} {assign body:Code} {Q:Exit→Act→World→Prop} {a:Act} {w:World}
  (ac:F.round=none) (h1:1≤n) {gf:Nat} {lb:Array Value} (hg:a.eval g=.func (.func gf) #[] lb) (ad:F.fn gf) (eg:∀ args w,(callFunc gf args).run P w=.ok (.enter gf args) w)
  (N:Nat) (m:Nat→Array Value) (ae:∀ k,(m k).size=ps.size) (z:World→World→Prop) (E:∀ {A B C:World},z A B→z B C→z A C)
  (a1:∀ (W:World) (l:Nat) (o o':Obj),W.heap[l]? =some o→o.isCells=false→z W (W.putObj l o'))
  (J:Nat→World→Prop) (G:World→Prop) (b:Code) (Y:∀ k W W',J k W→Below w.heap.size W W'→J k W') (H:∀ W W',G W→Below w.heap.size W W'→G W') (h0:J 0 w)
  (A:Nat→Act→World→Prop) (hA:∀ k u W l o',A k u W→w.heap.size≤l→l<w.heap.size+2→A k u (W.putObj l o'))
  (x:∀ (l k:Nat) (W:World) (K:Act→World→Prop),k<N→J k W→w.heap.size+2≤W.heap.size→(∀ u W',Below W.heap.size W W'→z W W'→A k u W'→K u W')→
   assign.wpIn (F.inRound l) (n - 1 - 1) P (Exit.then K (fun _ _ _=>False)) { tmps:=(ps.zip (m k)).foldl (fun t (p,v)=>t.setIfInBounds p v) a.tmps,defers:=[] } W)
  (I:∀ (l k:Nat) (u:Act) (W:World),k<N→J k W→A k u W→body.wpIn (F.inRound l) (n - 1 - 1) P (zj4 w.heap.size z (J (k+1)) G b W) u W)
  (L:∀ (l:Nat) (W1:World),Below w.heap.size w W1→W1.heap.size=w.heap.size+2→∀ (R:Nat→World→Prop) (Rx:World→Prop),(∀ k W W',R k W→Below W1.heap.size W W'→R k W')→(∀ W W',Rx W→Below W1.heap.size W W'→Rx W')→
   (∀ k W,k<N→R k W→YieldAt F (n - 1 - 1) P l (m k) W fun e W'=>(e=.returned (.bool true)∧R (k+1) W'∧z W W')∨(e=.returned (.bool false)∧Rx W'))→R 0 W1→
   CallsIn F (n - 1) P gf (#[.func (.yield l) #[] #[]]++lb) W1 fun e W'=>(∃ v,e=.returned v)∧(R N W'∨Rx W'))
  (M:∀ (D:Nat) (W:World),w.heap.size≤D→J N W→W.heap[D]? =some (.deferred (some []))→Q .normal { a with defers:={ target:=.collected D,args:=#[] }::a.defers } W)
  (O:∀ (D:Nat) (W:World),w.heap.size≤D→G W→W.heap[D]? =some (.deferred (some []))→b.wpIn F n P Q { a with defers:={ target:=.collected D,args:=#[] }::a.defers } W):
  (Code.rangeFunc g ps assign body).wpIn F n P Q a w:=by
 refine wpIn_rangeFunc fun fn af=>?_
 rw[ac];obtain⟨f,c⟩:∃ f:LoopState→Option Code→Loop,f=fun st pe=>{ state:=st,pending:=pe,fn,tmps:=a.tmps,params:=ps,assign,body,defers:=w.heap.size }:=⟨_,rfl⟩
 obtain⟨W1,S⟩:∃ W1,(w.alloc (.deferred (some []))).alloc (.loop (f .ready none))=W1:=⟨_,rfl⟩;have a2:=fJ w (.deferred (some [])) (.loop (f .ready none));have hs:W1.heap.size=w.heap.size+2:=by rw[←S];simp
 rw[S] at a2;obtain⟨ag,ah,a4⟩:=a2
 refine⟨w.heap.size+1,[{ target:=.collected w.heap.size,args:=#[] }],W1,{ target:=.fn (.func gf) lb,args:=#[.func (.yield (w.heap.size+1)) #[] #[]] },W1,gf,
  #[.func (.yield (w.heap.size+1)) #[] #[]]++lb,W1,?_,?_,?_,?_,fun _=>h1,?_⟩
 ·rw[←S,c];exact run_enterLoop_outer _ _ _ _ _
 ·simp only[resolve,hg]
  simp[go_sem]
 ·intro f' a5
  simp[Target.leads] at a5;subst a5;exact ad
 ·simp[invoke,go_sem,eg]
 ·refine(L (w.heap.size+1) W1 a4 hs
   (fun k W=>J k W∧W.heap[w.heap.size+1]? =some (.loop (f .ready none))∧W.heap[w.heap.size]? =some (.deferred (some [])))
   (fun W=>G W∧W.heap[w.heap.size+1]? =some (.loop (f .done (some b)))∧W.heap[w.heap.size]? =some (.deferred (some [])))
   (fun k W W' h T=>⟨Y k W W' h.1 (T.mono uo),(T.block _ uo).trans h.2.1,(T.block _ uo).trans h.2.2⟩)
   (fun W W' h T=>⟨H W W' h.1 (T.mono uo),(T.block _ uo).trans h.2.1,(T.block _ uo).trans h.2.2⟩)
   ?_ ⟨Y 0 w W1 h0 a4,ah,ag⟩).mono ?_
  ·rintro k Wb a6 ⟨hj,s,U⟩
   have a7:=run_yield (P:=P) (args:=m k) s (by rw[c];exact ae k);rw[c] at a7;refine⟨fn,_,assign,body,a7,roundIn_of_wpIn af (x _ k Wb _ a6 hj (by have:=(zi s).1;omega) ?_)⟩;intro u W V ai aj;have an:=(zi s).1
   replace hj:=Y k _ _ hj (V.mono uo)
   replace s:=(V.block _ uo).trans s
   replace U:=(V.block _ uo).trans U
   refine⟨_,run_beginRound s (by rw[c]),?_⟩;have a8:(W.putObj (w.heap.size+1) (.loop { f .ready none with state:=.busy })).heap[w.heap.size+1]? =some (.loop { f .ready none with state:=.busy }):=World.putObj_heap_same ((zi s).1);have a9:(W.putObj (w.heap.size+1) (.loop { f .ready none with state:=.busy })).heap[w.heap.size]? =some (.deferred (some [])):=(World.putObj_heap_other uo).trans U;refine wpIn_mono (I _ k u _ a6 (Y k _ _ hj (fh W _ uo)) (hA k u W _ _ aj uo uo)) ?_
   have aa:∀ (q:World),KeepsFrom w.heap.size (W.putObj (w.heap.size+1) (.loop { f .ready none with state:=.busy })) q→G q→
     (Instr.endRound (w.heap.size+1) (some b)).run P q=.ok (.bool false) (q.putObj (w.heap.size+1) (.loop (f .done (some b))))∧G (q.putObj (w.heap.size+1) (.loop (f .done (some b))))∧
     (q.putObj (w.heap.size+1) (.loop (f .done (some b)))).heap[w.heap.size+1]? =some (.loop (f .done (some b)))∧
     (q.putObj (w.heap.size+1) (.loop (f .done (some b)))).heap[w.heap.size]? =some (.deferred (some [])):=fun q d j=>by
    have r:=d.same _ _ uo a8 rfl;have X:=d.same _ _ zn a9 rfl;have y:=run_endRound (P:=P) (some b) r;rw[c] at y ⊢;exact⟨y,H _ _ j (fh q _ uo),World.putObj_heap_same (zi r).1,(World.putObj_heap_other uo).trans X⟩
   rintro e a3 q Z;cases e with
   |normal=>
    obtain⟨d,hkp,j⟩:=Z;have r:=d.same _ _ uo a8 rfl;have y:=run_endRound (P:=P) none r;refine⟨_,_,y,.inl ⟨rfl,⟨Y _ _ _ j (fh q _ uo),?_,(World.putObj_heap_other uo).trans (d.same _ _ zn a9 rfl)⟩,E ai (E (a1 W _ _ _ s rfl) (E hkp (a1 q _ _ _ r rfl)))⟩⟩;rw[World.putObj_heap_same (zi r).1,c];rfl
   |exit i=>
    obtain⟨rfl,d,j⟩:=Z;obtain⟨y,f1,f2,f3⟩:=aa q d j;exact⟨_,_,y,.inr ⟨rfl,f1,f2,f3⟩⟩
   |ret=>
    obtain⟨rfl,d,j⟩:=Z;obtain⟨y,f1,f2,f3⟩:=aa q d j;exact⟨_,_,y,.inr ⟨rfl,f1,f2,f3⟩⟩
   |goto t=>exact Z.elim
   |panic ch=>exact Z.elim
   |outgrown=>exact Z.elim
  ·rintro e W2 ⟨⟨v,rfl⟩,⟨hx,s,U⟩|⟨hx,s,U⟩⟩
   ·refine⟨none,_,by have:=run_endLoop (P:=P) s (by rw[c];simp);rw[c] at this;exact this,?_⟩
    exact M _ _ zn (Y _ _ _ hx (fh W2 _ uo)) ((World.putObj_heap_other uo).trans U)
   ·refine⟨some b,_,by have:=run_endLoop (P:=P) s (by rw[c];simp);rw[c] at this;exact this,?_⟩
    exact O _ _ zn (H _ _ hx (fh W2 _ uo)) ((World.putObj_heap_other uo).trans U)
open Go.RowKit Go.Shelf Go.Lib
attribute [local go_sem] Oper.semAt_some
def bu:Value→Nat|.int _ x=>x.toNat|_=>0
def kv (k:Ky):Value:=.agg #[.int .u32 k.1,.string k.2]
def dh (l:List Ky) (i:Nat):Ky:=(l[i]?).getD (0,ByteArray.empty)
theorem qC {l:List Ky} {i:Nat} (h:i<l.length):l[i]? =some (dh l i):=by unfold dh;rw[List.getElem?_eq_getElem h];rfl
theorem zpL {l:List Ky} {i:Nat} {k:Ky} (h:l[i]? =some k):dh l i=k:=by unfold dh;rw[h];rfl
def qD (w:World) (b x:Nat) (k:Ky):Prop:=w.cell? ⟨b,x,none⟩=some (.int .u32 k.1)∧w.cell? ⟨b,x+1,none⟩=some (.string k.2)
def Ring (w:World) (o:Option Addr) (cap:Nat) (l:List Ky):Prop:=
 l.length≤cap∧cap≤maxLen∧(o=none→cap=0)∧(l≠[]→∃ b off,o=some ⟨b,off,none⟩∧b<w.heap.size∧∀ i,i<l.length→qD w b (off+i*2) (dh l i))
theorem qD.same {w w':World} {b x:Nat} {k:Ky} (h:qD w b x k) (e:w'.heap[b]? =w.heap[b]?):qD w' b x k:=
 ⟨(World.cell?_of_block (a:=⟨b,x,none⟩) e).trans h.1,(World.cell?_of_block (a:=⟨b,x+1,none⟩) e).trans h.2⟩
theorem Ring.below {w f:World} {o:Option Addr} {a B:Nat} {l:List Ky} (h:Ring w o a l) (g:Below B w f) (n:w.heap.size≤B):Ring f o a l:=by
 refine⟨h.1,h.2.1,h.2.2.1,fun j=>?_⟩;obtain⟨b,c,e,d,k⟩:=h.2.2.2 j;exact⟨b,c,e,Nat.lt_of_lt_of_le d g.size,fun i m=>(k i m).same (g.block b uo)⟩
theorem Ring.kq {w j:World} {o:Option Addr} {a B c:Nat} {l:List Ky} (h:Ring w o a l) (k:Kq B c w j) (s:w.heap.size≤B):Ring j o a l:=by
 refine⟨h.1,h.2.1,h.2.2.1,fun q=>?_⟩;obtain⟨b,d,e,f,m⟩:=h.2.2.2 q;refine⟨b,d,e,Nat.lt_of_lt_of_le f k.1,fun i n=>(m i n).same ?_⟩;obtain⟨r,p,g⟩:=cells_of_cell (m i n).1;exact(k.2 b r (.inl uo) p g).trans p.symm
def zoy (gf:Nat) (lb:Array Value) (l:List Ky) (B c:Nat) (w0:World):Prop:=
 ∀ (p:Nat) (W1:World),Kq B c w0 W1→∀ (R:Nat→World→Prop) (Rx:World→Prop),(∀ k W W',R k W→Below W1.heap.size W W'→R k W')→(∀ W W',Rx W→Below W1.heap.size W W'→Rx W')→
  (∀ k W,k<l.length→R k W→YieldAt Fence.wide 3 Tryz.prog p #[kv (dh l k)] W fun e W'=>(e=.returned (.bool true)∧R (k+1) W'∧Kq B c W W')∨(e=.returned (.bool false)∧Rx W'))→R 0 W1→
  CallsIn Fence.wide 4 Tryz.prog gf (#[.func (.yield p) #[] #[]]++lb) W1 fun e W'=>(∃ v,e=.returned v)∧(R l.length W'∨Rx W')
theorem zeD (l:List Ky) (o:Option Addr) (c a:Nat) (w u:World) (x:Ring w o c l) (I:Kq w.heap.size a w u) (y:a<u.heap.size) (J:u.heap[a]? =some (.cells #[.slice o l.length c] 40 (0,0))):
  zoy 230 #[.pointer (some ⟨a,0,none⟩)] l w.heap.size a u:=by
 intro p W h R Rx K L M N;have O:Hid _:=M;have P:Hid _:=K;have Q:Hid _:=N;have S:Hid (Ring w o c l):=x;have j:Hid (Kq w.heap.size a w W):=I.trans h;have E:=Nat.lt_of_lt_of_le y h.1;have T:Hid _:=h.2 a _ (.inr rfl) J rfl;have F:W.cell? ⟨a,0,none⟩=some (.slice o l.length c):=by rw[zr T.o];rfl
 refine callsIn_of_wp Tryz.func230 rfl trivial ?_ rfl;simp only[Tryz.ntmps230,eR,eS,eT,Nat.reduceAdd,Nat.reduceSub,eU,eV,eW,eX,eY,eZ];gi_wp2
 gi_loopw [7] (fun i wr=>∃ k:Nat,k≤l.length∧i=.int .i64 (k:Int)∧R k wr∧W.heap.size≤wr.heap.size∧Kq w.heap.size a W wr) (fun i _=>l.length - bu i)
 case atStart=>exact⟨0,by omega,rfl,Q.o,Nat.le_refl _,Kq.refl _ _ _⟩
 case round=>
  obtain⟨k,U,rfl,z,A,G⟩:=hrel;have n:Hid _:=z;have v:Hid _:=A;have V:Hid (Kq w.heap.size a W wr):=G;by_cases d:k<l.length
  ·obtain⟨b,Y,rfl,Z,hc⟩:=(S.o.kq (j.o.trans G) zn).2.2.2 (by intro e;rw[e] at d;simp at d)
   obtain⟨F,c2⟩:=hc k d;have q1:(k:Int)<(l.length:Int):=uo
   have k1:(k:Int)+1≤9223372036854775807:=by have:=(Nat.le_trans x.1 x.2.1);simp only[maxLen] at this;omega
   generalize q:dh l k=gs at*
   obtain⟨g,s⟩:=gs;simp only at F c2;have r:=O.o k (wr.alloc (.cells #[.int .u32 g,.string s] 142)) d (P.o _ _ _ n.o ((bF wr _).mono v.o));rw[q] at r;obtain⟨fn,H,assign,body,hy,B⟩:=r;simp only[kv] at hy;gi_wp2;refine B.mono ?_;rintro e W6 (⟨rfl,C,t⟩|⟨rfl,D⟩)
   ·gi_wp2
    go_roundw
    case rel=>exact⟨k+1,by omega,by go_num,C,Nat.le_trans v.o (Nat.le_trans us t.1),V.o.trans ((Kq.below (bF wr _) (by have:=j.o.1;have:=v.o;omega) (by have:=v.o;omega)).trans t)⟩
    case measure=>simp[bu];omega
   ·gi_wp2
    refine bodyPost_ret (results_none rfl _ _ _) rfl ?_;exact⟨⟨_,rfl⟩,.inr D⟩
  ·have hk:k=l.length:=uo
   have HE:Hid (R l.length wr):=by have:=n.o;rw[hk] at this;exact this
   gi_wp2;refine bodyPost_end (results_none rfl _ _ _) rfl ?_;exact⟨⟨_,rfl⟩,.inl HE.o⟩
theorem zeE (o:Option Addr) (n a:Nat) (w:World):
  Calls Tryz.prog 195 #[.slice o n a] w fun e b=>e=.returned (.func (.func 230) #[] #[.pointer (some ⟨w.heap.size,0,none⟩)])∧b=w.alloc (.cells #[.slice o n a] 40):=by
 go_enter Tryz.func195,Tryz.ntmps195;go_wp2_with fail;go_ret;exact⟨rfl,rfl⟩
end Rk
namespace Rk
open Go.RowKit Go.Shelf Go.Lib
attribute [local go_sem] Oper.semAt_some
def jU (a:Int) (l:List Ky):Int:=l.foldl (fun _ k=>k.1) a
theorem zeF (a:Int) (l:List Ky) (x:Ky):cT a (l++[x])=(cT a l&&(decide (jU a l<x.1)&&decide (x.2.size=32))):=by
 induction l generalizing a with
 |nil=>simp[cT,jU];rfl
 |cons k t ih=>simp[cT,ih,jU,Bool.and_assoc];rfl
theorem qE (a:Int) (l:List Ky) (j:Nat) (h:cT a (l.take j)=false):cT a l=false:=by
 induction l generalizing a j with
 |nil=>simp at h;exact h
 |cons k t f=>
  cases j with
  |zero=>simp[cT] at h
  |succ j=>
   simp only[List.take_succ_cons,cT] at h ⊢;cases g:decide (a<k.1)<;>cases i:decide (k.2.size=32)<;>simp[g,i] at h ⊢
   exact f _ j h
theorem sH (l:List Ky) (k:Nat) (h:k<l.length):l.take (k+1)=l.take k++[dh l k]:=by
 rw[List.take_add_one,qC h];rfl
theorem zeG (l:List Ky) (k:Nat) (h:k<l.length):jU 0 (l.take (k+1))=(dh l k).1:=by
 rw[sH l k h,jU,List.foldl_append];rfl
def RJ (l:List Ky) (w:World) (k:Nat) (W:World):Prop:=
 cT 0 (l.take k)=true∧W.heap[w.heap.size]? =some (.cells #[.bool false] 4 (0,0))∧W.heap[w.heap.size+1]? =some (.cells #[.int .u32 (jU 0 (l.take k))] 41 (0,0))∧Below w.heap.size w W
def RX (l:List Ky) (w:World) (W:World):Prop:=
 cT 0 l=false∧W.heap[w.heap.size]? =some (.cells #[.bool false] 4 (0,0))∧Below w.heap.size w W
theorem sI {d:Func} {p:Tmp} (h:d.results=#[.cell p 4]) (a:Array Value) (w:World) (g:Nat) (b:Bool) {t:TypeId} {e:Nat × Nat}
  (f:a.getD p undef=.pointer (some ⟨g,0,none⟩)) (i:w.heap[g]? =some (.cells #[.bool b] t e)):(results d a).run Tryz.prog w=.ok (.bool b) w:=by
 have j:w.cell? ⟨g,0,none⟩=some (.bool b):=by rw[zr i];rfl
 simp[results,h,(by simpa using f),asAddr,go_sem,j]
theorem iY (w:World) (a b c:Obj):(((w.alloc a).alloc b).alloc c).heap[w.heap.size]? =some a∧(((w.alloc a).alloc b).alloc c).heap[w.heap.size+1]? =some b∧(((w.alloc a).alloc b).alloc c).heap[w.heap.size+2]? =some c∧Below w.heap.size w (((w.alloc a).alloc b).alloc c)∧(((w.alloc a).alloc b).alloc c).heap.size=w.heap.size+3:=by
 obtain⟨d,e,f⟩:=fJ w a b;refine⟨(Below.heap_alloc _ _ _ (by simp;omega)).trans d,(Below.heap_alloc _ _ _ us).trans e,?_,f.alloc (by simp;omega) _,by simp⟩;have:=zq ((w.alloc a).alloc b) c;simpa using this
theorem zmA (l:List Ky) (o:Option Addr) (b:Nat) (w:World) (Y:Ring w o b l):
  CallsIn Fence.wide 5 Tryz.prog 156 #[.slice o l.length b] w fun e w'=>e=.returned (.bool (cP l))∧Below w.heap.size w w':=by
 refine callsIn_of_wp_marks Tryz.func156 rfl trivial ?_ rfl;simp only[Tryz.ntmps156,eR,eS,eT,Nat.reduceAdd,Nat.reduceSub,eU,eV,eW,eX,eY,eZ]
 have HG:Hid _:=Y;clear Y;by_cases a0:16<l.length
 ·have G:(16:Int)<(l.length:Int):=uo
  have C:Hid (cP l=false):=by refine(?_:cP l=false);unfold cP;rw[decide_eq_false uo];rfl
  gi_wp2;refine⟨_,sI rfl _ _ w.heap.size false rfl (zq w _),?_,bF w _⟩;rw[C.o]
 ·have G:¬(16:Int)<(l.length:Int):=uo
  have C:Hid (cP l=cT 0 l):=by refine(?_:cP l=cT 0 l);unfold cP;rw[decide_eq_true uo];rfl
  gi_wp2;refine⟨trivial,callsIn_wide.2 ((zeE _ _ _ _).mono ?_)⟩;rintro e w2 ⟨rfl,rfl⟩;have E:=iY w (.cells #[.bool false] 4) (.cells #[.int .u32 0] 41) (.cells #[.slice o l.length b] 40);have Z:((w.alloc (.cells #[.bool false] 4)).alloc (.cells #[.int .u32 0] 41)).heap.size=w.heap.size+2:=by simp
  rw[Z];obtain⟨x,y⟩:∃ x,((w.alloc (.cells #[.bool false] 4)).alloc (.cells #[.int .u32 0] 41)).alloc (.cells #[.slice o l.length b] 40)=x:=⟨_,rfl⟩;rw[y] at E ⊢;clear y Z;obtain⟨X0,X1,X2,H,S3⟩:=E;have KW:Kq w.heap.size (w.heap.size+2) w x:=⟨H.size,fun j ob hj ho _=>(H.block j (by have:=(zi ho).1;omega)).trans ho⟩;have I:Hid _:=X0;have J:Hid _:=X1;have L:Hid _:=X2;clear X0 X1 X2;gi_wp2
  refine ni rfl uo (gf:=230) (lb:=#[.pointer (some ⟨w.heap.size+2,0,none⟩)]) rfl trivial (enters_of Tryz.func230 uk rfl)
   l.length (fun k=>#[kv (dh l k)]) (fun _=>rfl) (Kq w.heap.size (w.heap.size+2)) Kq.trans (fun W l o o' h hc=>Kq.put _ _ W l o o' h hc)
   (fun k W=>RJ l w k W) (fun W=>RX l w W) .ret (fun k W W' h v=>?hJ) (fun W W' h v=>?hJx) ?h0
   (fun k M W=>∃ q,x.heap.size+2≤q∧W.heap[q]? =some (.cells #[.int .u32 (dh l k).1,.string (dh l k).2] 142 (0,0))∧
    M={ tmps:=#[Value.slice o l.length b,undef,Value.pointer (some ⟨w.heap.size,0,none⟩),Value.pointer (some ⟨w.heap.size+1,0,none⟩),.pointer (some ⟨q,0,none⟩),Value.slice o l.length b,Value.int IntKind.i64 ↑l.length,Value.bool false,Value.slice o l.length b,.func (.func 230) #[] #[.pointer (some ⟨w.heap.size+2,0,none⟩)],kv (dh l k),undef,undef,undef,undef,undef,undef,undef,undef,undef,undef,undef,undef],defers:=[] }) ?hA ?assign ?body ?iter ?done ?stop
  case hJ=>exact⟨h.1,(v.block _ uo).trans h.2.1,(v.block _ uo).trans h.2.2.1,h.2.2.2.trans (v.mono uo)⟩
  case hJx=>exact⟨h.1,(v.block _ uo).trans h.2.1,h.2.2.trans (v.mono uo)⟩
  case h0=>exact⟨rfl,I.o,J.o,H⟩
  case hA=>
   rintro k M W j o' ⟨q,z,c,rfl⟩ A m;exact⟨q,z,(World.putObj_heap_other uo).trans c,rfl⟩
  case assign=>
   intro p k W K N i a1 hK;clear i;generalize dh l k=O at*
   obtain⟨g,s⟩:=O;simp only[kv] at*
   gi_wp2;exact hK _ _ (bF W _) (Kq.below (bF W _) uo uo) ⟨W.heap.size,by omega,zq W _,rfl⟩
  case iter=>
   intro p W1 P a2 R Rx hR Q hY h0;exact zeD l o b (w.heap.size+2) w x HG.o KW uo L.o p W1 (Kq.below P uo uo) R Rx hR Q hY h0
  case body=>
   rintro p k M W N i ⟨q,z,c,rfl⟩;have f:Hid _:=i;have ht:=sH l k N;have B:=zeG l k N;have t:cT 0 (l.take (k+1))=(true&&(decide (jU 0 (l.take k)<(dh l k).1)&&decide ((dh l k).2.size=32))):=by rw[ht,zeF,i.1]
   have c1:W.cell? ⟨w.heap.size+1,0,none⟩=some (.int .u32 (jU 0 (l.take k))):=by rw[zr i.2.2.1];rfl
   have c2:W.cell? ⟨q,0,none⟩=some (.int .u32 (dh l k).1):=by rw[zr c];rfl
   have c3:W.cell? ⟨q,1,none⟩=some (.string (dh l k).2):=by rw[zr c];rfl
   have z1:=frozen_of_row W _ 0 _ _ i.2.2.1;have z0:=frozen_of_row W _ 0 _ _ i.2.1;have c0:W.cell? ⟨w.heap.size,0,none⟩=some (.bool false):=by rw[zr i.2.1];rfl
   generalize dh l k=O at*
   obtain⟨g,s⟩:=O;obtain⟨a,S⟩:∃ a,jU 0 (l.take k)=a:=⟨_,rfl⟩;rw[S] at c1 t;have HL:Hid _:=B;have T:Hid _:=t;simp only[kv] at*
   clear i c ht B t S;by_cases hg:a<g
   ·by_cases n:s.size=32
    ·have q1:¬g≤a:=uo
     have q2:(s.size:Int)=32:=uo
     gi_wp2;have r:=iI W (w.heap.size+1) 0 (.int .u32 g);have u:=zx W (w.heap.size+1) 0 _ _ (.int .u32 g) f.o.2.2.1;refine⟨KeepsFrom.of_grownBy r (fun j e=>by cases e;omega),Kq.set _ _ _ _ uo uo,?_,(Below.heap_setCell _ _ _ _ us).trans f.o.2.1,?_,f.o.2.2.2.trans (ff r uo f.o.2.2.2.size)⟩
     ·rw[T.o];simp[hg,n]
     ·rw[u,HL.o];rfl
    ·have q1:¬g≤a:=uo
     gi_wp2;have r:=iI W w.heap.size 0 (.bool false);have u:=zx W w.heap.size 0 _ _ (.bool false) f.o.2.1;refine⟨rfl,KeepsFrom.of_grownBy r (fun j e=>by cases e;omega),qE 0 l (k+1) ?_,?_,f.o.2.2.2.trans (ff r uo f.o.2.2.2.size)⟩
     ·rw[T.o];simp[n]
     ·rw[u];rfl
   ·have q1:g≤a:=uo
    gi_wp2;have r:=iI W w.heap.size 0 (.bool false);have u:=zx W w.heap.size 0 _ _ (.bool false) f.o.2.1;refine⟨rfl,KeepsFrom.of_grownBy r (fun j e=>by cases e;omega),qE 0 l (k+1) ?_,?_,f.o.2.2.2.trans (ff r uo f.o.2.2.2.size)⟩
    ·rw[T.o,decide_eq_false (by omega:¬a<g)];rfl
    ·rw[u];rfl
  case done=>
   rintro D W hD ⟨A,m,E,F⟩ d;rw[List.take_length] at A;have U:Hid _:=d;have V:Hid _:=m;have c0:W.cell? ⟨w.heap.size,0,none⟩=some (.bool false):=by rw[zr m];rfl
   have z0:=frozen_of_row W _ 0 _ _ m;clear m E d;gi_wp2;have X:(W.setCell ⟨w.heap.size,0,none⟩ (.bool true)).heap[D]? =some (.deferred (some [])):=(Below.heap_setCell _ _ _ _ (by simp only;omega)).trans U.o;refine⟨by simp,.inl ⟨_,_,rfl,run_takeDeferred X,?_⟩⟩;have u:=zx W w.heap.size 0 _ _ (.bool true) V.o;refine⟨_,sI rfl _ _ w.heap.size true rfl ((World.putObj_heap_other uo).trans u),?_,(F.trans (ff (iI W w.heap.size 0 (.bool true)) uo F.size)).trans (fh _ _ uo)⟩;rw[C.o,A]
  case stop=>
   rintro D W hD ⟨A,m,F⟩ d;have U:Hid _:=d;have V:Hid _:=m;clear m d;gi_wp2;refine⟨by simp,.inl ⟨_,_,rfl,run_takeDeferred U.o,?_⟩⟩;refine⟨_,sI rfl _ _ w.heap.size false rfl ((World.putObj_heap_other uo).trans V.o),?_,F.trans (fh _ _ uo)⟩;rw[C.o,A]
theorem nT (l:List Ky) (o:Option Addr) (cap:Nat) (w:World) (hr:Ring w o cap l):
  Calls Tryz.prog 156 #[.slice o l.length cap] w fun e w'=>e=.returned (.bool (cP l))∧Below w.heap.size w w':=callsIn_wide.1 (zmA l o cap w hr)
end Rk
namespace Rk
open Go.RowKit Go.Shelf Go.Lib
attribute [local go_sem] Oper.semAt_some
def PJ (l:List Ky) (g:Int) (w:World) (k:Nat) (W:World):Prop:=
 (∀ i m,i<k→l[i]? =some m→m.1<g)∧W.heap[w.heap.size]? =some (.cells #[.int .u32 g] 41 (0,0))∧W.heap[w.heap.size+1]? =some (.cells #[.int .i64 (k:Int)] 3 (0,0))∧Below w.heap.size w W
def PX (l:List Ky) (g:Int) (w:World) (W:World):Prop:=
 W.heap[w.heap.size+1]? =some (.cells #[.int .i64 (ft l g:Int)] 3 (0,0))∧Below w.heap.size w W
theorem zmB (l:List Ky) (g:Int) (o:Option Addr) (cap:Nat) (w:World) (hr:Ring w o cap l):
  CallsIn Fence.wide 5 Tryz.prog 196 #[.slice o l.length cap,.int .u32 g] w fun e w'=>e=.returned (.int .i64 (ft l g:Int))∧Below w.heap.size w w':=by
 refine callsIn_of_wp_marks Tryz.func196 rfl trivial ?_ rfl;simp only[Tryz.ntmps196,eR,eS,eT,Nat.reduceAdd,Nat.reduceSub,eU,eV,eW,eX,eY,eZ];have n0:(0:Int)≤(l.length:Int):=uo
 have n1:(l.length:Int)≤9223372036854775807:=by have:=hr.1;have:=hr.2.1;simp only[maxLen] at this;omega
 have HG:Hid (Ring w o cap l):=hr;clear hr;gi_wp2;refine(wpIn_wide (n:=5)).2 (wp_scope_straight ((wpIn_wide (n:=5)).1 ?_));gi_wp2;refine wpIn_label ?_;gi_wp2;refine⟨trivial,callsIn_wide.2 ((zeE _ _ _ _).mono ?_)⟩;rintro e w2 ⟨rfl,rfl⟩;have h3:=iY w (.cells #[.int .u32 g] 41) (.cells #[.int .i64 0] 3) (.cells #[.slice o l.length cap] 40);have e2:((w.alloc (.cells #[.int .u32 g] 41)).alloc (.cells #[.int .i64 0] 3)).heap.size=w.heap.size+2:=by simp
 rw[e2];obtain⟨w3,hw3⟩:∃ w3,((w.alloc (.cells #[.int .u32 g] 41)).alloc (.cells #[.int .i64 0] 3)).alloc (.cells #[.slice o l.length cap] 40)=w3:=⟨_,rfl⟩;rw[hw3] at h3 ⊢;clear hw3 e2;obtain⟨X0,X1,X2,B3,S3⟩:=h3;have KW:Kq w.heap.size (w.heap.size+2) w w3:=⟨B3.size,fun j ob hj ho _=>(B3.block j (by have:=(zi ho).1;omega)).trans ho⟩;have HX0:Hid _:=X0;have HX1:Hid _:=X1;have HX2:Hid _:=X2;clear X0 X1 X2;gi_wp2
 refine ni rfl uo (gf:=230) (lb:=#[.pointer (some ⟨w.heap.size+2,0,none⟩)]) rfl trivial (enters_of Tryz.func230 uk rfl)
   l.length (fun k=>#[kv (dh l k)]) (fun _=>rfl) (Kq w.heap.size (w.heap.size+2)) Kq.trans (fun W l o o' h hc=>Kq.put _ _ W l o o' h hc)
   (fun k W=>PJ l g w k W) (fun W=>PX l g w W) (.exit 0) (fun k W W' h hb=>?hJ) (fun W W' h hb=>?hJx) ?h0
   (fun k a' W=>∃ q,w3.heap.size+2≤q∧W.heap[q]? =some (.cells #[.int .u32 (dh l k).1,.string (dh l k).2] 142 (0,0))∧
    a'={ tmps:=#[Value.slice o l.length cap,.int .u32 g,undef,Value.pointer (some ⟨w.heap.size,0,none⟩),.int .i64 0,Value.pointer (some ⟨w.heap.size+1,0,none⟩),.pointer (some ⟨q,0,none⟩),Value.slice o l.length cap,.func (.func 230) #[] #[.pointer (some ⟨w.heap.size+2,0,none⟩)],kv (dh l k),undef,undef,undef,undef,undef,undef,undef],defers:=[] }) ?hA ?assign ?body ?iter ?done ?stop
 case hJ=>exact⟨h.1,(hb.block _ uo).trans h.2.1,(hb.block _ uo).trans h.2.2.1,h.2.2.2.trans (hb.mono uo)⟩
 case hJx=>exact⟨(hb.block _ uo).trans h.1,h.2.trans (hb.mono uo)⟩
 case h0=>exact⟨fun i m h=>by omega,HX0.o,HX1.o,B3⟩
 case hA=>
  rintro k a' W j o' ⟨q,hq1,hq2,rfl⟩ h1 h2;exact⟨q,hq1,(World.putObj_heap_other uo).trans hq2,rfl⟩
 case assign=>
  intro p k W K hk hJ hsz hK;clear hJ;generalize dh l k=gs at*
  obtain⟨g,s⟩:=gs;simp only[kv] at*
  gi_wp2;exact hK _ _ (bF W _) (Kq.below (bF W _) uo uo) ⟨W.heap.size,by omega,zq W _,rfl⟩
 case iter=>
  intro p W1 hB1 hs1 R Rx hR hRx hY h0;exact zeD l o cap (w.heap.size+2) w w3 HG.o KW uo HX2.o p W1 (Kq.below hB1 uo uo) R Rx hR hRx hY h0
 case body=>
  rintro p k a' W hk hJ ⟨q,hq1,hq2,rfl⟩;have HJ:Hid (PJ l g w k W):=hJ;have HK:Hid _:=qC hk;have c1:W.cell? ⟨w.heap.size+1,0,none⟩=some (.int .i64 (k:Int)):=by rw[zr hJ.2.2.1];rfl
  have c2:W.cell? ⟨q,0,none⟩=some (.int .u32 (dh l k).1):=by rw[zr hq2];rfl
  have c3:W.cell? ⟨w.heap.size,0,none⟩=some (.int .u32 g):=by rw[zr hJ.2.1];rfl
  have z1:=frozen_of_row W _ 0 _ _ hJ.2.2.1;have k0:(0:Int)≤(k:Int):=uo
  have k1:(k:Int)+1≤9223372036854775807:=uo
  generalize dh l k=gs at*
  obtain⟨x,s⟩:=gs;simp only[kv] at*
  clear hJ hq2;by_cases hg:x<g
  ·have q1:¬g≤x:=uo
   gi_wp2;have g6:=iI W (w.heap.size+1) 0 (.int .i64 ((k:Int)+1));have X6:=zx W (w.heap.size+1) 0 _ _ (.int .i64 ((k:Int)+1)) HJ.o.2.2.1;refine⟨KeepsFrom.of_grownBy g6 (fun j e=>by cases e;omega),Kq.set _ _ _ _ uo uo,?_,(Below.heap_setCell _ _ _ _ us).trans HJ.o.2.1,?_,HJ.o.2.2.2.trans (ff g6 uo HJ.o.2.2.2.size)⟩
   ·intro i m hi e
    rcases Nat.lt_succ_iff_lt_or_eq.1 hi with h|rfl
    ·exact HJ.o.1 i m h e
    ·rw[HK.o] at e;cases e;exact hg
   ·rw[X6];simp
  ·have q1:g≤x:=uo
   gi_wp2;have HP:ft l g=k:=sD l g k uo HJ.o.1 (fun m e=>by rw[HK.o] at e;cases e;exact q1);refine⟨rfl,KeepsFrom.refl _ _,?_,HJ.o.2.2.2⟩;rw[HP];exact HJ.o.2.2.1
 case done=>
  rintro D W hD ⟨h1,h2,h3,h4⟩ hdf;have HP:Hid (ft l g=l.length):=sD l g l.length zn h1 (fun k e=>by simp at e);have HD:Hid _:=hdf;have c0:W.cell? ⟨w.heap.size+1,0,none⟩=some (.int .i64 (l.length:Int)):=by rw[zr h3];rfl
  clear h2 h3 hdf;gi_wp2;rw[Exit.noGoto_ret];refine⟨by simp,.inl ⟨_,_,rfl,run_takeDeferred HD.o,?_⟩⟩;refine⟨_,results_tmp rfl _ _ _,?_,h4.trans (fh W _ uo)⟩;rw[HP.o];rfl
 case stop=>
  rintro D W hD ⟨h2,h4⟩ hdf;have c0:W.cell? ⟨w.heap.size+1,0,none⟩=some (.int .i64 (ft l g:Int)):=by rw[zr h2];rfl
  have HD:Hid _:=hdf;clear h2 hdf;gi_wp2;rw[Exit.noGoto_ret];refine⟨by simp,.inl ⟨_,_,rfl,run_takeDeferred HD.o,?_⟩⟩;refine⟨_,results_tmp rfl _ _ _,rfl,h4.trans (fh W _ uo)⟩
theorem zky (l:List Ky) (g:Int) (o:Option Addr) (cap:Nat) (w:World) (hr:Ring w o cap l):
  Calls Tryz.prog 196 #[.slice o l.length cap,.int .u32 g] w fun e w'=>e=.returned (.int .i64 (ft l g:Int))∧Below w.heap.size w w':=callsIn_wide.1 (zmB l g o cap w hr)
end Rk
namespace Rk
open Go.RowKit
theorem zf2 (l:List Ky) (o:Option Addr) (cap:Nat) (w:World) (hr:Ring w o cap l):
  Calls Tryz.prog 111 #[.slice o l.length cap] w fun e w'=>e=.returned (.bool (cP l))∧w'=w:=by
 have n0:(0:Int)≤(l.length:Int):=uo
 have n1:(l.length:Int)≤9223372036854775807:=by have:=hr.1;have:=hr.2.1;simp only[maxLen] at this;omega
 have HG:Hid (Ring w o cap l):=hr;clear hr;by_cases h16:16<l.length
 ·have q16:(16:Int)<(l.length:Int):=uo
  have HE:Hid (cP l=false):=by refine(?_:cP l=false);unfold cP;rw[decide_eq_false uo];rfl
  go_enter Tryz.func111,Tryz.ntmps111;go_wp2_with fail;go_ret;exact⟨by rw[HE.o];rfl,rfl⟩
 ·have q16:¬(16:Int)<(l.length:Int):=uo
  have HE:Hid (cP l=cT 0 l):=by refine(?_:cP l=cT 0 l);unfold cP;rw[decide_eq_true uo];rfl
  go_enter Tryz.func111,Tryz.ntmps111;go_wp2_with fail
  go_loopw [3,4] (fun v i wr=>∃ k:Nat,k≤l.length∧v=.int .u32 (jU 0 (l.take k))∧i=.int .i64 (k:Int)∧cT 0 (l.take k)=true∧wr=w) (fun _ i _=>l.length - bu i)
  case atStart=>exact⟨0,by omega,rfl,rfl,rfl,rfl⟩
  case round=>
   obtain⟨k,hk,rfl,rfl,hs,rfl⟩:=hrel;have HS:Hid _:=hs;by_cases hlt:k<l.length
   ·have g0:(k:Int)<(l.length:Int):=uo
    have g1:(0:Int)≤(k:Int):=uo
    have g2:(k:Int)+1≤9223372036854775807:=uo
    obtain⟨b,off,rfl,hbl,hc⟩:=HG.o.2.2.2 (by intro e;rw[e] at hlt;simp at hlt);obtain⟨c1,c2⟩:=hc k hlt;have ht:=sH l k hlt;have hla:=zeG l k hlt;have hsn:cT 0 (l.take (k+1))=(true&&(decide (jU 0 (l.take k)<(dh l k).1)&&decide ((dh l k).2.size=32))):=by rw[ht,zeF,hs]
    generalize dh l k=gs at*
    obtain⟨g,s⟩:=gs;obtain⟨a,ha⟩:∃ a,jU 0 (l.take k)=a:=⟨_,rfl⟩;rw[ha] at hsn ⊢;have HL:Hid (jU 0 (l.take (k+1))=g):=hla;have HN:Hid (cT 0 (l.take (k+1))=(true&&(decide (a<g)&&decide (s.size=32)))):=hsn;clear ht hla hsn hc hs ha;simp only at c1 c2;by_cases hg:a<g
    ·by_cases hs32:s.size=32
     ·have q1:¬g≤a:=uo
      have q2:(s.size:Int)=32:=uo
      go_wp2_with fail
      go_roundw
      case rel=>exact⟨k+1,by omega,by rw[HL.o],by go_num,by rw[HN.o];simp[hg,hs32],by first|rfl|trivial⟩
      case measure=>simp[bu];omega
     ·have q1:¬g≤a:=uo
      have q2:((s.size:Int) !=32)=true:=by simp;omega
      have HS32:Hid (¬s.size=32):=hs32;clear hs32;go_wp2_with fail;go_ret;exact⟨by rw[HE.o,qE 0 l (k+1) (by rw[HN.o];simp[HS32.o])];rfl,rfl⟩
    ·have q1:g≤a:=uo
     go_wp2_with fail;go_ret;exact⟨by rw[HE.o,qE 0 l (k+1) (by rw[HN.o,decide_eq_false (by omega:¬a<g)];rfl)];rfl,rfl⟩
   ·have hke:k=l.length:=uo
    have g0:¬(k:Int)<(l.length:Int):=uo
    have HR:Hid (cT 0 l=true):=by have:=HS.o;rw[hke,List.take_length] at this;exact this
    clear hke;go_wp2_with fail;go_ret;exact⟨by rw[HE.o,HR.o];rfl,rfl⟩
theorem info5:(Tryz.prog.info? 5).map (fun i=>(i.zero,i.size,i.bytes))=some (some (.int .u8 0),1,1):=uk
theorem zoz:(Tryz.prog.info? 142).map (fun i=>(i.zero,i.size,i.bytes))=some (some (.agg #[.int .u32 0,.string ⟨#[]⟩]),2,24):=uk
theorem info_parts {t:TypeId} {z:Value} {s b:Nat} (h:(Tryz.prog.info? t).map (fun i=>(i.zero,i.size,i.bytes))=some (some z,s,b)):∃ i,Tryz.prog.info? t=some i∧i.zero=some z∧i.size=s∧i.bytes=b:=by
 obtain⟨i,hi,h'⟩:=Option.map_eq_some_iff.1 h;simp at h';exact⟨i,hi,h'.1,h'.2.1,h'.2.2⟩
theorem kE (w:World) (v:Value) (t:TypeId):∀ j u,[v][j]? =some u→(w.alloc (.cells #[v] t)).cell? ((⟨w.heap.size,0,none⟩:Addr).add j)=some u:=fun j u hj=>by
 match j,hj with
 |0,hj=>rw[Addr.add_lit,zr (zq w _)];simpa using hj
 |j+1,hj=>simp at hj
theorem nM (a b:ByteArray):(a.toList==b.toList)=decide (a=b):=by
 rw[ByteArray.toList_eq,ByteArray.toList_eq];by_cases e:a=b
 ·subst e;simp
 ·rw[decide_eq_false e]
  have h:¬a.data.toList=b.data.toList:=fun h=>e (ByteArray.ext (Array.toList_inj.1 h))
  simpa using h
theorem zi3 (a b:ByteArray):a.toList=b.toList↔a=b:=by
 by_cases e:a=b
 ·simp[e]
 ·have:=nM a b
  rw[decide_eq_false e] at this;simp at this;simp[this,e]
theorem zoA {α:Type} (f:Int→α) (c:Int) (n i:Nat) (h:i<n):((List.replicate n c).map f)[i]? =some (f ((List.replicate n c).getD i 0)):=by
 simp[List.getD,h]
theorem zmC (x y:Ky) (w:World):(binOp .eql 142 (.agg #[.int .u32 x.1,.string x.2]) (.agg #[.int .u32 y.1,.string y.2])).run Tryz.prog w=.ok (.bool (decide (x=y))) w:=by
 have hS:Tryz.prog.underlying 142=some (.struct (Tryz.prog.fieldsOf 142)):=uk
 have hp:Tryz.prog.stoodInHeld 142=false:=uk
 have u25:=Tryz.underlying41;have u9:=Tryz.underlying9;obtain⟨g,s⟩:=x;obtain⟨h,t⟩:=y;rw[run_eql_struct,show(10000:Nat)=9999+1 from rfl,run_equalIn_agg w 9999 142 _ _ hS hp];simp only[Program.fieldsOf,Tryz.underlying142];go_simp;simp only[zi3];by_cases h1:g=h<;>by_cases h2:s=t<;>simp[h1,h2]
def mt (c:Int):ByteArray:=strOfNums (List.replicate 32 c)
theorem oY {A:World} {base:Nat} {e:TypeId} {p cap n sz:Nat} {xs:List Value} (ho:A.ownsRow base e sz (.slice (some ⟨p,0,none⟩) n cap) n xs) {j:Nat} {v:Value} (h:xs[j]? =some v):A.cell? ⟨p,j,none⟩=some v:=by
 have:=ho.cells (g:=p) rfl j v h;rwa[Addr.add_lit,Nat.zero_add] at this
def zk:Ky:=(0,⟨#[]⟩)
def ip (l:List Ky) (g:Int):Ky:=if ft l g<l.length∧(dh l (ft l g)).1=g then dh l (ft l g) else zk
def dI (l:List Ky) (g:Int):Ky:=if cP l=true then(fi l g).getD zk else zk
def cq (l:List Ky) (g:Int):Int:=if cP l=true then if(fi l g).isSome then 0 else 41 else 40
theorem zkz (l:List Ky) (g:Int) (n:Nat) (h1:∀ i k,i<n→l[i]? =some k→k.1≠g) (k:Ky) (h2:l[n]? =some k) (h3:k.1=g):fi l g=some k:=by
 unfold fi
 induction l generalizing n with
 |nil=>simp at h2
 |cons a t ih=>
  cases n with
  |zero=>simp at h2;subst h2;simp[h3]
  |succ n=>
   have:=h1 0 a uo us;simp only[List.find?_cons,this,decide_false];exact ih n (fun i k hi e=>h1 (i+1) k uo (by simpa using e)) (by simpa using h2)
theorem zkA (l:List Ky) (g:Int) (h:∀ (i:Nat) (k:Ky),l[i]? =some k→k.1≠g):fi l g=none:=by
 unfold fi;rw[List.find?_eq_none];intro k hk;obtain⟨i,hi⟩:=List.mem_iff_getElem?.1 hk;simpa using h i k hi
theorem zf3 (l:List Ky) (g:Int) (hr:cP l=true):ip l g=(fi l g).getD zk∧(fi l g≠none↔ft l g<l.length∧(dh l (ft l g)).1=g):=by
 obtain⟨h16,hri⟩:=(nh l).1 hr;obtain⟨ha,hb⟩:=(sG 0 l).1 hri;unfold ip;split
 ·rename_i h
  have:=zkz l g (ft l g) (fun i k hi e he=>by have:=zkx l g i k hi e;omega) _ (qC h.1) h.2;rw[this];exact⟨rfl,by simp[h]⟩
 ·rename_i h
  have:fi l g=none:=zkA l g fun i k e he=>by
   apply h;have hil:i<l.length:=(List.getElem?_eq_some_iff.1 e).1;have hp:ft l g=i:=sD l g i uo (fun j m hj ej=>by have:=hb j i m k hj ej e;omega) (fun m em=>by rw[e] at em;cases em;omega);rw[hp];exact⟨hil,by rw[zpL e];exact he⟩
  rw[this];exact⟨rfl,by simp[h]⟩
theorem zkB (l:List Ky) (g:Int) (hr:cP l=true):decide (ip l g=zk)= !(fi l g).isSome:=by
 obtain⟨h16,hri⟩:=(nh l).1 hr;obtain⟨ha,hb⟩:=(sG 0 l).1 hri;rw[(zf3 l g hr).1];cases e:fi l g with
 |none=>simp
 |some k=>
  obtain⟨i,hi⟩:=List.mem_iff_getElem?.1 (List.mem_of_find?_eq_some e);have:=(ha i k hi).1;refine(decide_eq_false fun h=>?_).trans rfl;simp at h;subst h;exact absurd this ud
theorem lQ {w:World} {g:Nat} {x y:Value} (h:w.heap[g]? =some (.cells #[x,y] 142 (0,0))) (a b:Value):
  ((w.setCell ⟨g,0,none⟩ a).setCell ⟨g,1,none⟩ b).heap[g]? =some (.cells #[a,b] 142 (0,0))∧Below g w ((w.setCell ⟨g,0,none⟩ a).setCell ⟨g,1,none⟩ b):=by
 have hl:=(zi h).1;have X1:=zx w g 0 _ _ a h;have X2:=zx _ g 1 _ _ b X1;exact⟨X2,(ff (iI w g 0 _) zn uo).trans (ff (iI _ g 1 _) zn (by simp[World.setCell];omega))⟩
theorem nj {fn:Func} {p u:Tmp} (h:fn.results=#[.cell p 142,.tmp u]) (tmps:Array Value) (w:World) (g:Nat) (k:Ky) {t:TypeId} {fr:Nat × Nat}
  (hp:tmps.getD p undef=.pointer (some ⟨g,0,none⟩)) (hg:w.heap[g]? =some (.cells #[.int .u32 k.1,.string k.2] t fr)):(results fn tmps).run Tryz.prog w=.ok (.tuple #[kv k,tmps.getD u undef]) w:=by
 rw[results_cell_tmp h,hp];simp[asAddr,run_loadVar_row w g t 142 _ fr _ hg Tryz.underlying142 rfl uk,kv]
theorem zmD (l:List Ky) (g:Int) (o:Option Addr) (cap:Nat) (w:World) (hr:Ring w o cap l):
  Calls Tryz.prog 157 #[.slice o l.length cap,.int .u32 g] w fun e w'=>e=.returned (kv (ip l g))∧Below w.heap.size w w':=by
 have n0:(0:Int)≤(l.length:Int):=uo
 have n1:(l.length:Int)≤9223372036854775807:=by have:=hr.1;have:=hr.2.1;simp only[maxLen] at this;omega
 have HG:Hid (Ring w o cap l):=hr;clear hr;go_enter Tryz.func157,Tryz.ntmps157;go_wp2_with fail;refine um (zky l g o cap _ (HG.o.below (bF w _) zn)) fun w1 b1=>?_;have B1:Hid (Below w.heap.size w w1):=(bF w _).trans (b1.mono us);have H0:Hid (w1.heap[w.heap.size]? =some (.cells #[.int .u32 0,.string ⟨#[]⟩] 142 (0,0))):=(b1.block _ us).trans (zq w _);have hle:=zkw l g;have HH:Hid (ip l g=if ft l g<l.length∧(dh l (ft l g)).1=g then dh l (ft l g) else zk):=rfl;have z0:=frozen_of_row w1 w.heap.size 0 _ _ H0.o;have z1:=frozen_of_row w1 w.heap.size 1 _ _ H0.o;have c0:w1.cell? ⟨w.heap.size,0,none⟩=some (.int .u32 0):=by rw[zr H0.o];rfl
 have c1:w1.cell? ⟨w.heap.size,1,none⟩=some (.string ⟨#[]⟩):=by rw[zr H0.o];rfl
 clear b1;obtain⟨p,hp⟩:∃ p,ft l g=p:=⟨_,rfl⟩;rw[hp] at hle HH ⊢;clear hp;by_cases hpe:p=l.length
 ·have q1:((p:Int)==(l.length:Int))=true:=by simp[hpe]
  have HZ:Hid (ip l g=zk):=by refine(?_:ip l g=zk);rw[HH.o,if_neg uo]
  clear hpe hle HH;go_wp2_with fail;obtain⟨X,bX⟩:=lQ H0.o (.int .u32 0) (.string ⟨#[]⟩);exact bodyPost_ret (results_cell_row rfl _ _ w.heap.size 142 _ (0,0) _ rfl X Tryz.underlying142 rfl uk) rfl ⟨by rw[HZ.o];rfl,B1.o.trans bX⟩
 ·have hlt:p<l.length:=uo
  have q1:((p:Int)==(l.length:Int))=false:=by simp;omega
  have q2:(p:Int)<(l.length:Int):=uo
  have q3:(0:Int)≤(p:Int):=uo
  obtain⟨b,off,rfl,hbl,hc⟩:=(HG.o.below B1.o zn).2.2.2 (by intro e;rw[e] at hlt;simp at hlt);obtain⟨d1,d2⟩:=hc p hlt;obtain⟨k,hk⟩:∃ k,dh l p=k:=⟨_,rfl⟩;rw[hk] at d1 d2 HH;clear hc hk hpe;obtain⟨x,s⟩:=k;simp only at d1 d2;by_cases hx:x=g
  ·have HZ:Hid (ip l g=(x,s)):=by refine(?_:ip l g=(x,s));rw[HH.o,if_pos ⟨hlt,hx⟩]
   have q4:(x==g)=true:=by simp[hx]
   clear hx HH;go_wp2_with fail;obtain⟨X,bX⟩:=lQ H0.o (.int .u32 x) (.string s);exact bodyPost_ret (results_cell_row rfl _ _ w.heap.size 142 _ (0,0) _ rfl X Tryz.underlying142 rfl uk) rfl ⟨by rw[HZ.o];rfl,B1.o.trans bX⟩
  ·have HZ:Hid (ip l g=zk):=by refine(?_:ip l g=zk);rw[HH.o,if_neg (fun h=>hx h.2)]
   have q4:(x==g)=false:=by simp[hx]
   clear hx HH;go_wp2_with fail;obtain⟨X,bX⟩:=lQ H0.o (.int .u32 0) (.string ⟨#[]⟩);exact bodyPost_ret (results_cell_row rfl _ _ w.heap.size 142 _ (0,0) _ rfl X Tryz.underlying142 rfl uk) rfl ⟨by rw[HZ.o];rfl,B1.o.trans bX⟩
theorem sJ (l:List Ky) (g:Int) (o:Option Addr) (cap:Nat) (w:World) (hr:Ring w o cap l):
  Calls Tryz.prog 109 #[.slice o l.length cap,.int .u32 g] w fun e w'=>e=.returned (.tuple #[kv (dI l g),.int .i64 (cq l g)])∧Below w.heap.size w w':=by
 have HG:Hid (Ring w o cap l):=hr;clear hr;go_enter Tryz.func109,Tryz.ntmps109;go_wp2_with fail;refine um (nT l o cap _ (HG.o.below (bF w _) zn)) fun w1 b1=>?_;have B1:Hid (Below w.heap.size w w1):=(bF w _).trans (b1.mono us);have H0:Hid (w1.heap[w.heap.size]? =some (.cells #[.int .u32 0,.string ⟨#[]⟩] 142 (0,0))):=(b1.block _ us).trans (zq w _);clear b1;cases hR:cP l
 ·have HV:Hid (dI l g=zk∧cq l g=40):=by refine(?_:dI l g=zk∧cq l g=40);simp[dI,cq,hR]
  have z0:=frozen_of_row w1 w.heap.size 0 _ _ H0.o;have z1:=frozen_of_row w1 w.heap.size 1 _ _ H0.o;have c0:w1.cell? ⟨w.heap.size,0,none⟩=some (.int .u32 0):=by rw[zr H0.o];rfl
  have c1:w1.cell? ⟨w.heap.size,1,none⟩=some (.string ⟨#[]⟩):=by rw[zr H0.o];rfl
  clear hR;go_wp2_with fail;obtain⟨X,bX⟩:=lQ H0.o (.int .u32 0) (.string ⟨#[]⟩);exact bodyPost_ret (nj rfl _ _ w.heap.size zk rfl X) rfl ⟨by rw[HV.o.1,HV.o.2];rfl,B1.o.trans bX⟩
 ·have hZ:=zkB l g hR
  have hF:=(zf3 l g hR).1;have HV:Hid (dI l g=ip l g∧cq l g=if(fi l g).isSome then 0 else 41):=by refine(?_:dI l g=ip l g∧cq l g=if(fi l g).isSome then 0 else 41);rw[hF];simp[dI,cq,hR]
  have HW:Hid ((fi l g).isSome=false→dI l g=zk):=fun h=>by
   have:fi l g=none:=by simpa using h
   simp[dI,hR,this]
  clear hR hF;go_wp2_with fail;refine um (zmD l g o cap _ (HG.o.below B1.o zn)) fun w2 b2=>?_;have B2:Hid (Below w.heap.size w w2):=B1.o.trans (b2.mono B1.o.size);have hlt:w.heap.size<w1.heap.size:=(zi H0.o).1;have H1:Hid (w2.heap[w.heap.size]? =some (.cells #[.int .u32 0,.string ⟨#[]⟩] 142 (0,0))):=(b2.block _ hlt).trans H0.o;have hq:=zmC (ip l g) zk;rw[hZ] at hq;clear b2 hlt H0 B1 HG hZ;generalize ip l g=k at*
  generalize (fi l g).isSome=f at*
  obtain⟨x,s⟩:=k;simp only[kv,zk] at*
  have z0:=frozen_of_row w2 w.heap.size 0 _ _ H1.o;have z1:=frozen_of_row w2 w.heap.size 1 _ _ H1.o;have c0:w2.cell? ⟨w.heap.size,0,none⟩=some (.int .u32 0):=by rw[zr H1.o];rfl
  have c1:w2.cell? ⟨w.heap.size,1,none⟩=some (.string ⟨#[]⟩):=by rw[zr H1.o];rfl
  have hl2:w.heap.size<w2.heap.size:=(zi H1.o).1;cases f<;>simp only[Bool.not_false,Bool.not_true] at hq
  ·have HV2:Hid (dI l g=zk∧cq l g=41):=⟨HW.o rfl,HV.o.2⟩
   clear HV HW;go_wp2_with fail;obtain⟨X,bX⟩:=lQ H1.o (.int .u32 0) (.string ⟨#[]⟩);exact bodyPost_ret (nj rfl _ _ w.heap.size zk rfl ((Below.heap_alloc _ _ _ (Nat.lt_of_lt_of_le hl2 bX.size)).trans X)) rfl ⟨by rw[HV2.o.1,HV2.o.2];rfl,(B2.o.trans bX).alloc (Nat.le_of_lt (Nat.lt_of_lt_of_le hl2 bX.size)) _⟩
  ·have HV2:Hid (dI l g=(x,s)∧cq l g=0):=HV.o
   clear HV HW;go_wp2_with fail;obtain⟨X,bX⟩:=lQ H1.o (.int .u32 x) (.string s);exact bodyPost_ret (nj rfl _ _ w.heap.size (x,s) rfl ((Below.heap_alloc _ _ _ (Nat.lt_of_lt_of_le hl2 bX.size)).trans X)) rfl ⟨by rw[HV2.o.1,HV2.o.2];rfl,(B2.o.trans bX).alloc (Nat.le_of_lt (Nat.lt_of_lt_of_le hl2 bX.size)) _⟩
theorem zgY (l:List Ky) (g:Int) (o:Option Addr) (cap:Nat) (w:World) (hr:Ring w o cap l):
  Calls Tryz.prog 76 #[.slice o l.length cap,.int .u32 g] w fun e w'=>e=.returned (.tuple #[kv (dI l g),.int .i64 (cq l g)])∧Below w.heap.size w w':=by
 have n0:(0:Int)≤(l.length:Int):=uo
 have n1:(l.length:Int)≤9223372036854775807:=by have:=hr.1;have:=hr.2.1;simp only[maxLen] at this;omega
 have HG:Hid (Ring w o cap l):=hr;clear hr;go_enter Tryz.func76,Tryz.ntmps76;go_wp2_with fail;refine um (zf2 l o cap _ (HG.o.below (bF w _) zn)) fun w1 e1=>?_;have B1:Hid (Below w.heap.size w w1):=by rw[e1];exact bF w _
 have H1:Hid (w1.heap[w.heap.size]? =some (.cells #[.int .u32 0,.string ⟨#[]⟩] 142 (0,0))):=by rw[e1];exact zq w _
 clear e1;have z0:=frozen_of_row w1 w.heap.size 0 _ _ H1.o;have z1:=frozen_of_row w1 w.heap.size 1 _ _ H1.o;have c0:w1.cell? ⟨w.heap.size,0,none⟩=some (.int .u32 0):=by rw[zr H1.o];rfl
 have c1:w1.cell? ⟨w.heap.size,1,none⟩=some (.string ⟨#[]⟩):=by rw[zr H1.o];rfl
 cases hR:cP l
 ·have HV:Hid (dI l g=zk∧cq l g=40):=by refine(?_:dI l g=zk∧cq l g=40);simp[dI,cq,hR]
  clear hR;go_wp2_with fail;obtain⟨X,bX⟩:=lQ H1.o (.int .u32 0) (.string ⟨#[]⟩);exact bodyPost_ret (nj rfl _ _ w.heap.size zk rfl X) rfl ⟨by rw[HV.o.1,HV.o.2];rfl,B1.o.trans bX⟩
 ·have HV:Hid (dI l g=(fi l g).getD zk∧cq l g=if(fi l g).isSome then 0 else 41):=by refine(?_:dI l g=(fi l g).getD zk∧cq l g=if(fi l g).isSome then 0 else 41);simp[dI,cq,hR]
  clear hR;go_wp2_with fail
  go_loopw [7] (fun i wr=>∃ k:Nat,k≤l.length∧i=.int .i64 (k:Int)∧(∀ (j:Nat) (m:Ky),j<k→l[j]? =some m→m.1≠g)∧wr=w1) (fun i _=>l.length - bu i)
  case atStart=>exact⟨0,by omega,rfl,fun j m h=>by omega,rfl⟩
  case round=>
   obtain⟨k,hk,rfl,hs,rfl⟩:=hrel;have HS:Hid _:=hs;clear hs;by_cases hlt:k<l.length
   ·have g0:(k:Int)<(l.length:Int):=uo
    have g1:(0:Int)≤(k:Int):=uo
    have g2:(k:Int)+1≤9223372036854775807:=uo
    obtain⟨b,off,rfl,hbl,hc⟩:=(HG.o.below B1.o zn).2.2.2 (by intro e;rw[e] at hlt;simp at hlt);obtain⟨d1,d2⟩:=hc k hlt;have HK:Hid (l[k]? =some (dh l k)):=qC hlt;obtain⟨x,hx⟩:∃ x,dh l k=x:=⟨_,rfl⟩;rw[hx] at d1 d2 HK;clear hc hx;obtain⟨x,s⟩:=x;simp only at d1 d2;by_cases hxg:x=g
    ·have q4:(x==g)=true:=by simp[hxg]
     have HV2:Hid (dI l g=(x,s)∧cq l g=0):=by
      refine(?_:dI l g=(x,s)∧cq l g=0);have:=zkz l g k HS.o _ HK.o hxg;rw[HV.o.1,HV.o.2,this];exact⟨rfl,rfl⟩
     clear hxg HV;go_wp2_with fail;obtain⟨X,bX⟩:=lQ H1.o (.int .u32 x) (.string s);exact bodyPost_ret (nj rfl _ _ w.heap.size (x,s) rfl X) rfl ⟨by rw[HV2.o.1,HV2.o.2];rfl,B1.o.trans bX⟩
    ·have q4:(x==g)=false:=by simp[hxg]
     have HX:Hid (x≠g):=hxg;clear hxg;go_wp2_with fail
     go_roundw
     case rel=>
      refine⟨k+1,by omega,by go_num,fun j m hj e=>?_,by first|rfl|trivial⟩;rcases Nat.lt_succ_iff_lt_or_eq.1 hj with h|rfl
      ·exact HS.o j m h e
      ·rw[HK.o] at e;cases e;exact HX.o
     case measure=>simp[bu];omega
   ·have hke:k=l.length:=uo
    have g0:¬(k:Int)<(l.length:Int):=uo
    have HV2:Hid (dI l g=zk∧cq l g=41):=by
     refine(?_:dI l g=zk∧cq l g=41);have:=zkA l g (fun i m e=>HS.o i m (by have:=(List.getElem?_eq_some_iff.1 e).1;omega) e);rw[HV.o.1,HV.o.2,this];exact⟨rfl,rfl⟩
    clear hke HV;go_wp2_with fail;obtain⟨X,bX⟩:=lQ H1.o (.int .u32 0) (.string ⟨#[]⟩);exact bodyPost_ret (nj rfl _ _ w.heap.size zk rfl X) rfl ⟨by rw[HV2.o.1,HV2.o.2];rfl,B1.o.trans bX⟩
def cellsOf:List Ky→List Value
 |[]=>[]
 |k::t=>.int .u32 k.1:: .string k.2::cellsOf t
theorem sK (l:List Ky):(cellsOf l).length=l.length*2:=by
 induction l with
 |nil=>rfl
 |cons k t ih=>simp only[cellsOf,List.length_cons,ih];omega
theorem zen (l m:List Ky):cellsOf (l++m)=cellsOf l++cellsOf m:=by
 induction l with
 |nil=>rfl
 |cons k t ih=>simp[cellsOf,ih]
theorem zd3 (l:List Ky) (i:Nat) (h:i<l.length):(cellsOf l)[i*2]? =some (.int .u32 (dh l i).1)∧(cellsOf l)[i*2+1]? =some (.string (dh l i).2):=by
 induction l generalizing i with
 |nil=>simp at h
 |cons k t ih=>
  cases i with
  |zero=>simp[cellsOf,dh]
  |succ i=>
   have:=ih i (by simpa using h);rw[show(i+1)*2=i*2+2 by omega];simpa [cellsOf,dh] using this
theorem zgZ (l:List Ky):∀ u∈cellsOf l,u.oneCell'=true:=by
 induction l with
 |nil=>intro u hu;simp[cellsOf] at hu
 |cons k t ih=>
  intro u hu;simp only[cellsOf,List.mem_cons] at hu;rcases hu with rfl|rfl|h
  ·rfl
  ·rfl
  ·exact ih u h
theorem Ring.cells {w:World} {o:Option Addr} {cap:Nat} {l:List Ky} (h:Ring w o cap l) (a:Addr) (ho:o=some a):∀ j u,(cellsOf l)[j]? =some u→w.cell? (a.add j)=some u:=by
 intro j u hu;have hj:j<l.length*2:=by have:=(List.getElem?_eq_some_iff.1 hu).1;rwa[sK] at this
 obtain⟨b,off,e,hlt,hc⟩:=h.2.2.2 (by intro e;rw[e] at hj;simp at hj);obtain rfl:a=⟨b,off,none⟩:=by rw[ho] at e;cases e;rfl
 have h2:=hc (j/2) uo;have g2:=zd3 l (j/2) uo;rw[Addr.add_lit];rcases Nat.mod_two_eq_zero_or_one j with hm|hm
 ·have e:j=j/2*2:=uo
  rw[e] at hu ⊢;rw[g2.1] at hu;cases hu
  exact h2.1
 ·have e:j=j/2*2+1:=uo
  rw[e] at hu ⊢;rw[g2.2] at hu;cases hu
  exact h2.2
theorem sL {w:World} {base:Nat} {v:Value} {l:List Ky} {n:Nat} (h:w.ownsRow base 142 2 v n (cellsOf l)):n=l.length∧∃ o cap,v=.slice o l.length cap∧Ring w o cap l:=by
 have hn:n=l.length:=by have:=h.1;rw[sK] at this;omega
 subst hn;refine⟨rfl,?_⟩;rcases h.2 with⟨rfl,hz⟩|⟨g,cap,cur,rfl,hb,hg,hnc,hcm,hcs,ht⟩
 ·have:l=[]:=List.eq_nil_of_length_eq_zero hz
  subst this;exact⟨none,0,rfl,Nat.le_refl _,by decide,fun _=>rfl,fun h=>absurd rfl h⟩
 ·refine⟨some ⟨g,0,none⟩,cap,rfl,hnc,hcm,(fun e=>by cases e),fun _=>⟨g,0,rfl,(zi hg).1,fun i hi=>?_⟩⟩
  obtain⟨g1,g2⟩:=zd3 l i hi;rw[Nat.zero_add];exact⟨oY h g1,oY h g2⟩
theorem zmE (w:World):Ring w none 0 []:=⟨Nat.le_refl _,by decide,fun _=>rfl,fun h=>absurd rfl h⟩
theorem zh1 {w:World} {g:Nat} {k:Ky} {t:TypeId} {fr:Nat × Nat} (h:w.heap[g]? =some (.cells #[.int .u32 k.1,.string k.2] t fr)):Ring w (some ⟨g,0,none⟩) 1 [k]:=by
 refine⟨Nat.le_refl _,by decide,(fun e=>by cases e),fun _=>⟨g,0,rfl,(zi h).1,fun i hi=>?_⟩⟩;obtain rfl:i=0:=by simpa using hi
 exact⟨by rw[zr h];rfl,by rw[zr h];rfl⟩
theorem zeH (w:World) (base n:Nat) (v:Value) (p:Option Addr) (c:Nat) (l m:List Ky) (ho:w.ownsRow base 142 2 v n (cellsOf l)) (hb:base≤w.heap.size) (hm:Ring w p c m) (hs:l.length+m.length≤1000):
  ∃ v' w',(Builtin.append_ #[40,40] 40 #[v,.slice p m.length c]).run Tryz.prog w=.ok v' w'∧w'.ownsRow base 142 2 v' (n+m.length) (cellsOf (l++m))∧w.grownBy w' v.ownBlock:=by
 obtain⟨i0,hi,hz0,hz1,hz2⟩:=info_parts zoz;have hn:=(sL ho).1;rw[zen];cases p with
 |none=>
  have h0:=hm.2.2.1 rfl;have h1:=hm.1;have:m=[]:=List.eq_nil_of_length_eq_zero uo;subst this h0;refine⟨v,w,?_,by simpa [cellsOf] using ho,⟨rfl,rfl,rfl,Nat.le_refl _,fun _ _ _=>rfl⟩⟩;exact run_append_owned_none (P:=Tryz.prog) w base 40 40 142 i0 2 Tryz.underlying40 hi v n _ ho
 |some a=>
  obtain⟨v',w',hr,ho',hg,_,_⟩:=run_append_own_at (P:=Tryz.prog) w base 40 40 142 i0 _ 2 24 Tryz.underlying40 hi hz0 hz1 hz2 rfl ud v n (cellsOf l) ho a m.length c (cellsOf m) (sK m) (hm.cells a rfl) (zgZ m) (by simp only[maxLen];omega) uo hb;exact⟨v',w',hr,ho',hg⟩
end Rk
end Go.Proofs.YtokfnghckpgjmaaGreatDoor
