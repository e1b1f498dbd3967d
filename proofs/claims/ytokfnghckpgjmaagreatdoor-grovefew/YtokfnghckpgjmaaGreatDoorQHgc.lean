/- page: a page gets its ref, and is told. -/
import Derived.Test.YtokfnghckpgjmaaGreatDoorPPo
import Derived.Test.YtokfnghckpgjmaaGreatDoorPPk
import Derived.Test.YtokfnghckpgjmaaGreatDoorQIT
import Derived.Test.YtokfnghckpgjmaaGreatDoorQVB
set_option maxRecDepth 100000
set_option maxHeartbeats 8000000
namespace Go.Proofs.YtokfnghckpgjmaaGreatDoor
namespace Rz
open Go.RowKit Go.Lib Go.Shelf
open Rc Rq
open Rw (Rf dR fc eO Pp dt fj encS dM pz gv Pg rpp pB cX ou)
open Rv (FB fD gQ)
attribute [local go_sem] Oper.semAt_some
abbrev gw (pf:Nat) (pb:Array Value):Value:=.agg #[.func (.func pf) #[] pb]
theorem iY (w:World) (a b c:Obj) {d:World} (h:((w.alloc a).alloc b).alloc c=d):(d.heap[w.heap.size]? =some a∧d.heap[w.heap.size+1]? =some b∧d.heap[w.heap.size+2]? =some c)∧Below w.heap.size w d∧d.heap.size=w.heap.size+3:=by
 have f:=bF (w.alloc a) b;have e:=bF ((w.alloc a).alloc b) c;have s1:(w.alloc a).heap.size=w.heap.size+1:=by simp
 have i:((w.alloc a).alloc b).heap.size=w.heap.size+2:=by simp
 rw[←h];refine⟨⟨?_,?_,?_⟩,((bF w a).trans (f.mono uo)).trans (e.mono uo),by simp⟩
 ·rw[e.block _ uo,f.block _ uo];exact zq w a
 ·rw[e.block _ uo];have:=zq (w.alloc a) b;rwa[s1] at this
 ·have:=zq ((w.alloc a).alloc b) c;rwa[i] at this
def C8 (w:World) (g:Nat) (q:Pg):Prop:=w.cell? ⟨g,0,none⟩=some (.int .i64 q.k)∧w.cell? ⟨g,1,none⟩=some (.int .u32 (q.X:Int))∧w.cell? ⟨g,2,none⟩=some (.int .u32 (q.Y:Int))∧w.cell? ⟨g,3,none⟩=some (.int .i64 q.L)∧w.cell? ⟨g,4,none⟩=some (.slice q.ro q.rn q.rc)∧w.cell? ⟨g,5,none⟩=some (.slice q.ko q.kn q.kc)∧w.cell? ⟨g,6,none⟩=some (.int .u32 (q.np:Int))∧w.cell? ⟨g,7,none⟩=some (.string q.nt)
theorem pE {w:World} {g:Nat} {q:Pg} (h:w.heap[g]? =some (cX q)):C8 w g q:=
 ⟨by rw[zr h];rfl,by rw[zr h];rfl,by rw[zr h];rfl,by rw[zr h];rfl,by rw[zr h];rfl,by rw[zr h];rfl,by rw[zr h];rfl,by rw[zr h];rfl⟩
theorem _root_.Go.Proofs.YtokfnghckpgjmaaGreatDoor.Rv.FB.put6 {g:Nat} {a:Int} {s:ByteArray} {W:World} (h:FB g a s W) (b:Int) (c:ByteArray):FB g b c ((W.setCell ⟨g,0,none⟩ (.int .u32 b)).setCell ⟨g,1,none⟩ (.string c))∧bC (fun j=>j=g) W ((W.setCell ⟨g,0,none⟩ (.int .u32 b)).setCell ⟨g,1,none⟩ (.string c)):=by
 refine⟨(h.set b c).1,rfl,rfl,rfl,by simp[World.setCell],fun j _ d=>?_⟩;exact(heap_setCell_other _ _ _ _ d).trans (heap_setCell_other _ _ _ _ d)
theorem _root_.Go.Proofs.YtokfnghckpgjmaaGreatDoor.Rv.FB.but6 {S:Nat→Prop} {g:Nat} {a:Int} {s:ByteArray} {W W':World} (h:FB g a s W) (hb:bC S W W') (hn:¬S g):FB g a s W':=(hb.block _ (zi h).1 hn).trans h
theorem zm6 {σ:Type} {l B:Nat} {V:Nat→Prop} {L:Nat→Sv × Int→Bool→Prop} {R:(Nat→Prop)→Nat→World→Prop} {E:(Nat→Prop)→World→Prop} {pl:Pm σ} {M:Nat} {N:Array Value} {I:σ→(Nat→Prop)→World→Prop}
  {c F F' own':Nat→Prop} {k:Nat} {s u:σ} {W W1 W2 m x o p v:World} {T:ByteArray} {r:Rf} (O:W.heap.size≤o.heap.size) (P:W.heap.size+3≤W1.heap.size∧W2.heap.size=W1.heap.size+1)
  (y:iB B V pl M N I) (Q:Ask l B V L R E) (S:I s F W) (w:Dj c F W) (hB:B≤W.heap.size) (g:Below W.heap.size W W2) (t:I u F' m) (d:bC F W2 m) (z:cu F F' W2 m) (A:bC (fun j=>j=W1.heap.size) m x) (a:Below x.heap.size x o) (_hK5:Kv B V c W o)
  (U:cu c own' o p) (q:bC c o p) (X:R own' (k+1) p) (C:bC (fun j=>j=W.heap.size+2) p v):GP R E I c F k ⟨u,[⟨T,r⟩],0,r⟩ W (.returned (.tuple #[dR r,.bool true])) v:=by
 have n:=C;have b4:=A;have Y:=d.size;have Z:=b4.size;have H:=a.size;have a0:=q.size;have a1:=n.size
 have f:∀ j,F' j→(j<W.heap.size∧F j)∨(W2.heap.size≤j∧j<m.heap.size):=fun j b=>by
  rcases z j b with h|h
  ·exact .inl ⟨y.lt s F W S j h,h⟩
  ·exact .inr h
 have i:∀ j,own' j→(j<W.heap.size∧c j)∨(o.heap.size≤j∧j<p.heap.size):=fun j b=>by
  rcases U j b with h|h
  ·exact .inl ⟨w.lt j h,h⟩
  ·exact .inr h
 refine⟨rfl,own',F',⟨fun j b=>?_,fun j b=>?_⟩,⟨fun j b=>?_,fun j b hF=>?_⟩,?_,?_,fun _=>?_,fun h=>absurd rfl h⟩
 ·rcases i j b with h|h
  ·exact .inl h.2
  ·exact .inr ⟨by omega,by omega⟩
 ·rcases f j b with h|h
  ·exact .inl h.2
  ·exact .inr ⟨by omega,by omega⟩
 ·rcases i j b with h|h
  ·omega
  ·omega
 ·rcases i j b with h|h<;>rcases f j hF with J|J
  ·exact w.no j h.2 J.2
  ·omega
  ·omega
  ·omega
 ·refine⟨n.os.trans (q.os.trans (a.os.trans (b4.os.trans (d.os.trans g.os)))),n.tape.trans (q.tape.trans (a.tape.trans (b4.tape.trans (d.tape.trans g.tape)))),n.output.trans (q.output.trans (a.output.trans (b4.output.trans (d.output.trans g.output)))),by omega,fun j b K=>?_⟩
  rw[n.block j uo uo,q.block j uo (fun e=>K (.inl e)),a.block j uo,b4.block j uo uo,d.block j uo (fun e=>K (.inr e)),g.block j b]
 ·refine y.keep u F' m v t uo fun j b=>?_
  have hl:=y.lt u F' m t j b
  have h6:=q.block j uo fun e=>by
   rcases f j b with h|h
   ·exact w.no j e h.2
   ·have:=w.lt j e;omega
  rw[(n.block j uo fun e=>by rcases f j b with h|h<;>omega),h6,(a.block j uo),(b4.block j hl (fun e=>by rcases f j b with h|h<;>omega))]
 ·exact Q.keep own' (k+1) p v X (Kv.of_but n fun j _ e=>⟨.inr uo,fun e'=>by rcases i _ e' with h|h<;>omega⟩)
theorem zo6 {σ:Type} (l B:Nat) (V:Nat→Prop) (it:Nat→Sv × Int→Bool→Prop) (R:(Nat→Prop)→Nat→World→Prop) (X:(Nat→Prop)→World→Prop) (hA:Ask l B V it R X)
  (pl:Pm σ) (pf:Nat) (pb:Array Value) (I:σ→(Nat→Prop)→World→Prop) (hP:iB B V pl pf pb I) (q:Pg) (P:Pp) (a F:Nat→Prop) (k:Nat) (s:σ) (W:World)
  (hR:R a k W) (hI:I s F W) (hD:Dj a F W) (hB:B≤W.heap.size) (hq:dt W q P) (ho:fj P) (h0:dM P=0) (r:Rf) (Y:σ) (h1:pl s (encS P)=((r,0),Y)) (hf:it k (⟨encS P,r⟩,0) true):
  Calls Tryz.prog 159 #[gw pf pb,gv q,.func (.yield l) #[] #[]] W (GP R X I a F k ⟨Y,[⟨encS P,r⟩],0,r⟩ W):=by
 obtain⟨W0,ai⟩:∃ W0,((W.alloc (.cells #[.func (.func pf) #[] pb] 93)).alloc (cX q)).alloc (.cells #[.int .u32 0,.string ⟨#[]⟩] 49)=W0:=⟨_,rfl⟩;obtain⟨⟨g0,g1,g2⟩,b0,s0⟩:=iY _ _ _ _ ai;have HG:Hid (W0.heap[W.heap.size]? =some (.cells #[.func (.func pf) #[] pb] 93 (0,0))∧FB (W.heap.size+2) 0 ⟨#[]⟩ W0):=⟨g0,g2⟩;obtain⟨c0,c1,c2,c3,c4,c5,c6,c7⟩:=pE g1;have HE:Hid _:=ou q P W0 (hq.below b0 zn) ho
 have HC:Hid (∀ W',I s F W'→Calls Tryz.prog pf (#[.string (encS P)]++pb) W' fun e Z=>e=.returned (.tuple #[dR r,.int .i64 0])∧∃ F',I Y F' Z∧bC F W' Z∧cu F F' W' Z):=fun W' aj=>by
  have:=hP.call s F W' (encS P) (ov P) aj;rw[h1] at this;exact this
 generalize encS P=T at*;have a7:Hid _:=b0;have ak:Hid _:=s0;have aA:=hP.eg;have HP:Hid _:=hP;have HA:Hid _:=hA;have HR:Hid _:=hR;have HI:Hid _:=hI;have g:Hid _:=hD;have a8:Hid _:=hB;have HF:Hid _:=hf;refine(callsIn_wide (n:=5)).1 ?_;refine callsIn_of_wp Tryz.func159 rfl trivial ?_ rfl;simp only[Tryz.ntmps159,eR,eS,eT,Nat.reduceAdd,Nat.reduceSub,eU,eV,eW,eX,eY,eZ];gi_wp2;refine⟨trivial,callsIn_wide.2 (Calls.mono HE.o ?_)⟩;rintro e z ⟨rfl,b1⟩;obtain⟨L,a0⟩:∃ L,z.alloc (.cells #[.int .u32 0,.string ⟨#[]⟩] 49)=L:=⟨_,rfl⟩;have b2:Below z.heap.size z L:=by rw[←a0];exact bF _ _
 have al:L.heap.size=z.heap.size+1:=by rw[←a0];simp
 have a9:Hid (FB z.heap.size 0 ⟨#[]⟩ L):=by rw[←a0];exact gQ z
 have a1:=b1.trans (b2.mono b1.size);have M:Hid _:=a7.o.trans (a1.mono a7.o.size);have aa:Hid _:=HG.o.2.grow a1;have o:Hid (W.heap.size+3≤z.heap.size∧L.heap.size=z.heap.size+1):=⟨by have:=ak.o;have:=b1.size;omega,al⟩
 have cg:L.cell? ⟨W.heap.size,0,none⟩=some (.func (.func pf) #[] pb):=by
  rw[zr ((a1.block _ (zi HG.o.1).1).trans HG.o.1)];rfl
 have am:Hid _:=HP.o.keep s F W L HI.o M.o.size fun j hj=>M.o.block j (HP.o.lt s F W HI.o j hj)
 gi_wp2;refine⟨trivial,callsIn_wide.2 (Calls.mono (HC.o L am.o) ?_)⟩;rintro e W3 ⟨rfl,F',an,a2,ao⟩;have ap:Hid _:=HP.o.lt s F W HI.o;have nF:∀ j,W.heap.size≤j→¬F j:=fun j hj hF=>by have:=ap.o j hF;omega
 have a3:Hid _:=(a2.block _ (zi aa.o).1 (nF _ uo)).trans aa.o
 have ab:FB z.heap.size 0 ⟨#[]⟩ W3:=(a2.block _ (zi a9.o).1 (nF _ (by have:=o.o;omega))).trans a9.o
 have aq:Hid _:=an;have ac:Hid _:=a2;have ar:Hid _:=ao;obtain⟨z1,z2,z3,z4⟩:=ab.facts;obtain⟨W4,au⟩:∃ W4,(W3.setCell ⟨z.heap.size,0,none⟩ (.int .u32 (r.p:Int))).setCell ⟨z.heap.size,1,none⟩ (.string r.t)=W4:=⟨_,rfl⟩;obtain⟨ad,b4⟩:=ab.put6 (r.p:Int) r.t;rw[au] at ad b4;have av:Hid (FB z.heap.size (r.p:Int) r.t W4):=ad;have N:Hid _:=b4
 gi_wp2;refine wpIn_region_any uk ?_
 change wpAnyIn _ _ _ _ _ _ _ _ _ (World.drew _);obtain⟨A,ae⟩:∃ A,W4.drew=A:=⟨_,rfl⟩;have b5:Below W4.heap.size W4 A:=by rw[←ae];exact(Below.refl _ _).drew
 rw[ae];have O:Hid (FB z.heap.size (r.p:Int) r.t A):=av.o.grow b5;have af:Hid _:=b5;have a4:Hid (FB (W.heap.size+2) 0 ⟨#[]⟩ A):=(b5.block _ (by have:=N.o.size;have:=(zi a3.o).1;omega)).trans ((N.o.block _ (zi a3.o).1 (by have:=o.o;omega)).trans a3.o)
 have a5:Hid (Kv B V a W A):=by
  refine(?_:Kv B V a W A);refine(Kv.of_below M.o).trans (Kv.trans (b:=W3) ?_ (Kv.trans (b:=W4) ?_ (Kv.of_below b5)))
  ·exact Kv.of_but ac.o fun j _ hF=>⟨HP.o.fp s F W HI.o j hF,fun ho=>g.o.no j ho hF⟩
  ·exact Kv.of_but N.o fun j _ e=>⟨.inr (by have:=o.o;have:=a8.o;omega),fun e'=>by have:=g.o.lt _ e';have:=o.o;omega⟩
 have aw:Hid _:=HA.o.keep a k W A HR.o a5.o;have ag:=a5.o.size;have ax:=lX (m:=4)<|HA.o.yld a k (⟨T,r⟩,0) true A HF.o aw.o fun j hj=>Nat.lt_of_lt_of_le (g.o.lt j hj) ag
 obtain⟨fn,ah,assign,body,hy,ay⟩:=ax;have a6:Hid (RoundIn Fence.wide 4 Tryz.prog l fn ah assign body A (YP R X a (k+1) A true)):=ay;obtain⟨y1,y2,y3,y4⟩:=O.o.facts
 have C:Hid (∀ y h c,cu a c A y→bC a A y→R c (k+1) y→bC (fun j=>j=W.heap.size+2) y h→GP R X I a F k ⟨Y,[⟨T,r⟩],0,r⟩ W (.returned (.tuple #[dR r,.bool true])) h):=by
  intro y h c hg hb hr az;exact zm6 ag o.o HP.o HA.o HI.o g.o a8.o M.o aq.o ac.o ar.o N.o af.o a5.o hg hb hr az
 refine cV (i:=1) (v:=?_) rfl rfl ?_ ?_;rotate_left
 ·intro w;go_simp;try with_reducible rfl
 conv in(Act.put _ _ _)=>simp only[bH,bI,bJ,Act.put,bK,bL,bM]
 refine cV (i:=2) (v:=?_) rfl rfl ?_ ?_;rotate_left
 ·intro w;go_simp;try with_reducible rfl
 conv in(Act.put _ _ _)=>simp only[bH,bI,bJ,Act.put,bK,bL,bM]
 refine wpAnyIn_ready (rs:=[0,3]) uk us ?_
 refine(AllReadyIn.cons rfl (fun K f=>?_) (AllReadyIn.cons rfl (fun K f=>?_) AllReadyIn.nil))
 ·go_simp;refine f _ _ ?_;refine wpAnyIn_ready (rs:=[3]) uk us ?_
  refine(AllReadyIn.cons rfl (fun K f=>?_) AllReadyIn.nil)
  go_simp;refine f _ _ ?_;refine cV (i:=4) (v:=?_) rfl rfl ?_ ?_;rotate_left
  ·intro w;go_simp;try with_reducible rfl
  conv in(Act.put _ _ _)=>simp only[bH,bI,bJ,Act.put,bK,bL,bM]
  refine wpAnyIn_ready (rs:=[5]) uk us ?_
  refine(AllReadyIn.cons rfl (fun K f=>?_) AllReadyIn.nil)
  go_simp;refine a6.o.mono ?_;rintro e y ⟨c,D,d,rfl,(⟨-,E⟩|⟨hx,-⟩)⟩;rotate_left
  ·cases hx
  have u:=a4.o.but6 d fun e=>by have:=g.o.lt _ e;omega
  have G:=O.o.but6 d fun e=>by have:=g.o.lt _ e;have:=o.o;omega
  have H:Hid _:=C.o y;obtain⟨x1,x2,x3,x4⟩:=u.facts;obtain⟨v1,v2,v3,v4⟩:=G.facts;obtain⟨h,J⟩:∃ h,(y.setCell ⟨W.heap.size+1+1,0,none⟩ (.int .u32 (r.p:Int))).setCell ⟨W.heap.size+1+1,1,none⟩ (.string r.t)=h:=⟨_,rfl⟩;obtain⟨x,U⟩:=u.put6 (r.p:Int) r.t;rw[J] at x U;have Q:Hid _:=x;have S:Hid (GP R X I a F k ⟨Y,[⟨T,r⟩],0,r⟩ W (.returned (.tuple #[dR r,.bool true])) h):=H.o h c D d E U;refine f _ _ ?_;refine wpAnyIn_ready (rs:=[6]) uk us ?_
  refine(AllReadyIn.cons rfl (fun K f=>?_) AllReadyIn.nil)
  go_simp;refine f _ _ ?_;refine wpAnyIn_ready (rs:=[7]) uk us ?_
  refine(AllReadyIn.cons rfl (fun K f=>?_) AllReadyIn.nil)
  go_simp;refine f _ _ ?_;refine wpAnyIn_done uk ?_ _
  gi_wp2;refine bodyPost_ret (fD rfl _ _ _ _ _ _ rfl rfl Q.o) rfl ?_;exact S.o
 ·go_simp;refine f _ _ ?_;refine cV (i:=4) (v:=?_) rfl rfl ?_ ?_;rotate_left
  ·intro w;go_simp;try with_reducible rfl
  conv in(Act.put _ _ _)=>simp only[bH,bI,bJ,Act.put,bK,bL,bM]
  refine wpAnyIn_ready (rs:=[0,5]) uk us ?_
  refine(AllReadyIn.cons rfl (fun K f=>?_) (AllReadyIn.cons rfl (fun K f=>?_) AllReadyIn.nil))
  focus
   go_simp;refine f _ _ ?_;refine wpAnyIn_ready (rs:=[5]) uk us ?_
   refine(AllReadyIn.cons rfl (fun K f=>?_) AllReadyIn.nil)
   go_simp;refine a6.o.mono ?_;rintro e y ⟨c,D,d,rfl,(⟨-,E⟩|⟨hx,-⟩)⟩;rotate_left
   ·cases hx
   have u:=a4.o.but6 d fun e=>by have:=g.o.lt _ e;omega
   have G:=O.o.but6 d fun e=>by have:=g.o.lt _ e;have:=o.o;omega
   have H:Hid _:=C.o y;obtain⟨x1,x2,x3,x4⟩:=u.facts;obtain⟨v1,v2,v3,v4⟩:=G.facts;obtain⟨h,J⟩:∃ h,(y.setCell ⟨W.heap.size+1+1,0,none⟩ (.int .u32 (r.p:Int))).setCell ⟨W.heap.size+1+1,1,none⟩ (.string r.t)=h:=⟨_,rfl⟩;obtain⟨x,U⟩:=u.put6 (r.p:Int) r.t;rw[J] at x U;have Q:Hid (FB (W.heap.size+2) (r.p:Int) r.t h):=x;have S:Hid (GP R X I a F k ⟨Y,[⟨T,r⟩],0,r⟩ W (.returned (.tuple #[dR r,.bool true])) h):=H.o h c D d E U
  rotate_left
  focus
   go_simp;refine a6.o.mono ?_;rintro e y ⟨c,D,d,rfl,(⟨-,E⟩|⟨hx,-⟩)⟩;rotate_left
   ·cases hx
   have u:FB (W.heap.size+2) 0 ⟨#[]⟩ y:=a4.o.but6 d fun e=>by have:=g.o.lt _ e;omega
   have G:FB z.heap.size (r.p:Int) r.t y:=O.o.but6 d fun e=>by have:=g.o.lt _ e;have:=o.o;omega
   have H:Hid _:=C.o y;obtain⟨x1,x2,x3,x4⟩:=u.facts;obtain⟨v1,v2,v3,v4⟩:=G.facts;obtain⟨h,J⟩:∃ h,(y.setCell ⟨W.heap.size+1+1,0,none⟩ (.int .u32 (r.p:Int))).setCell ⟨W.heap.size+1+1,1,none⟩ (.string r.t)=h:=⟨_,rfl⟩;obtain⟨x,U⟩:=u.put6 (r.p:Int) r.t;rw[J] at x U;have Q:Hid (FB (W.heap.size+2) (r.p:Int) r.t h):=x;have S:Hid (GP R X I a F k ⟨Y,[⟨T,r⟩],0,r⟩ W (.returned (.tuple #[dR r,.bool true])) h):=H.o h c D d E U;refine f _ _ ?_;refine wpAnyIn_ready (rs:=[0]) uk us ?_
   refine(AllReadyIn.cons rfl (fun K f=>?_) AllReadyIn.nil)
   go_simp
  rotate_left
  all_goals
   refine f _ _ ?_;refine wpAnyIn_ready (rs:=[6]) uk us ?_
   refine(AllReadyIn.cons rfl (fun K f=>?_) AllReadyIn.nil)
   go_simp;refine f _ _ ?_;refine wpAnyIn_ready (rs:=[7]) uk us ?_
   refine(AllReadyIn.cons rfl (fun K f=>?_) AllReadyIn.nil)
   go_simp;refine f _ _ ?_;refine wpAnyIn_done uk ?_ _
   gi_wp2;refine bodyPost_ret (fD rfl _ _ _ _ _ _ rfl rfl Q.o) rfl ?_;exact S.o
end Rz
namespace Rz
open Go.RowKit Go.Lib Go.Shelf
open Rc Rq
open Rw (Rf dR fc eO Pp dt fj encS dM pz gv Pg rpp pB cX ou)
open Rv (FB fD gQ)
attribute [local go_sem] Oper.semAt_some
theorem zgr {σ:Type} {l B:Nat} {V:Nat→Prop} {K:Nat→Sv × Int→Bool→Prop} {R:(Nat→Prop)→Nat→World→Prop} {x:(Nat→Prop)→World→Prop} {pl:Pm σ} {L:Nat} {M:Array Value} {I:σ→(Nat→Prop)→World→Prop}
  {c F F' own':Nat→Prop} {k:Nat} {s u:σ} {W W1 W2 n y p q v:World} {e0:Int} (g:¬e0=0) (N:W.heap.size≤p.heap.size) (O:W.heap.size+3≤W1.heap.size∧W2.heap.size=W1.heap.size+1)
  (z:iB B V pl L M I) (P:Ask l B V K R x) (Q:I s F W) (w:Dj c F W) (hB:B≤W.heap.size) (i:Below W.heap.size W W2) (t:I u F' n) (d:bC F W2 n) (A:cu F F' W2 n) (C:bC (fun j=>j=W1.heap.size) n y) (a:Below y.heap.size y p) (_hK5:Kv B V c W p)
  (S:cu c own' p q) (r:bC c p q) (T:x own' q) (D:bC (fun j=>j=W.heap.size+2) q v):GP R x I c F k ⟨u,[],e0,zf⟩ W (.returned (.tuple #[dR zf,.bool false])) v:=by
 have o:=D;have b4:=C;have U:=d.size;have X:=b4.size;have G:=a.size;have Y:=r.size;have Z:=o.size
 have f:∀ j,F' j→(j<W.heap.size∧F j)∨(W2.heap.size≤j∧j<n.heap.size):=fun j b=>by
  rcases A j b with h|h
  ·exact .inl ⟨z.lt s F W Q j h,h⟩
  ·exact .inr h
 have m:∀ j,own' j→(j<W.heap.size∧c j)∨(p.heap.size≤j∧j<q.heap.size):=fun j b=>by
  rcases S j b with h|h
  ·exact .inl ⟨w.lt j h,h⟩
  ·exact .inr h
 refine⟨by rw[decide_eq_false g],own',F',⟨fun j b=>?_,fun j b=>?_⟩,⟨fun j b=>?_,fun j b hF=>?_⟩,?_,?_,fun h=>absurd h g,fun _=>?_⟩
 ·rcases m j b with h|h
  ·exact .inl h.2
  ·exact .inr ⟨by omega,by omega⟩
 ·rcases f j b with h|h
  ·exact .inl h.2
  ·exact .inr ⟨by omega,by omega⟩
 ·rcases m j b with h|h
  ·omega
  ·omega
 ·rcases m j b with h|h<;>rcases f j hF with H|H
  ·exact w.no j h.2 H.2
  ·omega
  ·omega
  ·omega
 ·refine⟨o.os.trans (r.os.trans (a.os.trans (b4.os.trans (d.os.trans i.os)))),o.tape.trans (r.tape.trans (a.tape.trans (b4.tape.trans (d.tape.trans i.tape)))),o.output.trans (r.output.trans (a.output.trans (b4.output.trans (d.output.trans i.output)))),by omega,fun j b J=>?_⟩
  rw[o.block j uo uo,r.block j uo (fun e=>J (.inl e)),a.block j uo,b4.block j uo uo,d.block j uo (fun e=>J (.inr e)),i.block j b]
 ·refine z.keep u F' n v t uo fun j b=>?_
  have hl:=z.lt u F' n t j b
  have h6:=r.block j uo fun e=>by
   rcases f j b with h|h
   ·exact w.no j e h.2
   ·have:=w.lt j e;omega
  rw[(o.block j uo fun e=>by rcases f j b with h|h<;>omega),h6,(a.block j uo),(b4.block j hl (fun e=>by rcases f j b with h|h<;>omega))]
 ·exact P.keepx own' q v T (Kv.of_but o fun j _ e=>⟨.inr uo,fun e'=>by rcases m _ e' with h|h<;>omega⟩)
theorem zm7 {σ:Type} (l B:Nat) (V:Nat→Prop) (it:Nat→Sv × Int→Bool→Prop) (R:(Nat→Prop)→Nat→World→Prop) (z:(Nat→Prop)→World→Prop) (hA:Ask l B V it R z)
  (pl:Pm σ) (i:Nat) (o:Array Value) (I:σ→(Nat→Prop)→World→Prop) (hP:iB B V pl i o I) (q:Pg) (P:Pp) (a F:Nat→Prop) (k:Nat) (s:σ) (W:World)
  (hR:R a k W) (hI:I s F W) (hD:Dj a F W) (hB:B≤W.heap.size) (hq:dt W q P) (ho:fj P) (e0:Int) (h0:dM P=e0) (A:¬e0=0) (hf:it k (zs,e0) false):
  Calls Tryz.prog 159 #[gw i o,gv q,.func (.yield l) #[] #[]] W (GP R z I a F k ⟨s,[],e0,zf⟩ W):=by
 obtain⟨p,C⟩:∃ p,((W.alloc (.cells #[.func (.func i) #[] o] 93)).alloc (cX q)).alloc (.cells #[.int .u32 0,.string ⟨#[]⟩] 49)=p:=⟨_,rfl⟩;obtain⟨⟨g0,g1,g2⟩,b0,s0⟩:=iY _ _ _ _ C;have D:Hid (p.heap[W.heap.size]? =some (.cells #[.func (.func i) #[] o] 93 (0,0))∧FB (W.heap.size+2) 0 ⟨#[]⟩ p):=⟨g0,g2⟩;obtain⟨c0,c1,c2,c3,c4,c5,c6,c7⟩:=pE g1;have HE:Hid _:=ou q P p (hq.below b0 zn) ho;generalize encS P=T at*
 have r:Hid _:=b0;have E:Hid _:=s0;have G:Hid _:=hP;have H:Hid _:=hA;have HR:Hid _:=hR;have J:Hid _:=hI;have f:Hid _:=hD;have K:Hid _:=hB;have HF:Hid _:=hf;refine(callsIn_wide (n:=5)).1 ?_;refine callsIn_of_wp Tryz.func159 rfl trivial ?_ rfl;simp only[Tryz.ntmps159,eR,eS,eT,Nat.reduceAdd,Nat.reduceSub,eU,eV,eW,eX,eY,eZ];gi_wp2;refine⟨trivial,callsIn_wide.2 (Calls.mono HE.o ?_)⟩;rintro e h ⟨rfl,L⟩;obtain⟨b,t⟩:∃ b,h.alloc (.cells #[.int .u32 0,.string ⟨#[]⟩] 49)=b:=⟨_,rfl⟩;have b2:Below h.heap.size h b:=by rw[←t];exact bF _ _
 have g:=L.trans (b2.mono L.size);have c:Hid _:=r.o.trans (g.mono r.o.size);have N:Hid _:=D.o.2.grow g;have O:Hid (W.heap.size+3≤h.heap.size∧b.heap.size=h.heap.size+1):=⟨by have:=E.o;have:=L.size;omega,(by rw[←t];simp)⟩
 have cg:b.cell? ⟨W.heap.size,0,none⟩=some (.func (.func i) #[] o):=by
  rw[zr ((g.block _ (zi D.o.1).1).trans D.o.1)];rfl
 have Q:Hid _:=G.o.keep s F W b J.o c.o.size fun j S=>c.o.block j (G.o.lt s F W J.o j S)
 have d:Hid (Kv B V a W b):=Kv.of_below c.o;have u:Hid (FB (W.heap.size+2) 0 ⟨#[]⟩ b):=N.o;have U:=d.o.size;have X:Hid _:=H.o.keep a k W b HR.o d.o;have Y:=lX (m:=4)<|H.o.yld a k (zs,e0) false b HF.o X.o fun j S=>Nat.lt_of_lt_of_le (f.o.lt j S) U
 obtain⟨fn,v,assign,body,hy,Z⟩:=Y;have a0:Hid (RoundIn Fence.wide 4 Tryz.prog l fn v assign body b (YP R z a (k+1) b false)):=Z;have ez:yv (zs,e0)=#[.agg #[.string ⟨#[]⟩,.int .u32 0,.string ⟨#[]⟩],.int .i64 e0]:=rfl;rw[ez] at hy;gi_wp2;refine a0.o.mono ?_;rintro e W6 ⟨a6,a1,w,rfl,(⟨hx,-⟩|⟨-,a2⟩)⟩
 ·cases hx
 have x:=u.o.but6 w fun e=>by have:=f.o.lt _ e;omega
 obtain⟨x1,x2,x3,x4⟩:=x.facts;obtain⟨W7,a3⟩:∃ W7,(W6.setCell ⟨W.heap.size+1+1,0,none⟩ (.int .u32 0)).setCell ⟨W.heap.size+1+1,1,none⟩ (.string ⟨#[]⟩)=W7:=⟨_,rfl⟩;obtain⟨y,b7⟩:=x.put6 0 ⟨#[]⟩;rw[a3] at y b7;have a4:Hid _:=y;have a5:Hid (GP R z I a F k ⟨s,[],e0,zf⟩ W (.returned (.tuple #[dR zf,.bool false])) W7):=zgr A d.o.size O.o G.o H.o J.o f.o K.o c.o Q.o (bC.refl _ _) (cu.refl F b b) (bC.refl _ _) (Below.refl _ _) d.o a1 w a2 b7;gi_wp2;refine bodyPost_ret (fD rfl _ _ _ _ _ _ rfl rfl a4.o) rfl ?_;exact a5.o
theorem zm8 {σ:Type} (l B:Nat) (V:Nat→Prop) (it:Nat→Sv × Int→Bool→Prop) (R:(Nat→Prop)→Nat→World→Prop) (Rx:(Nat→Prop)→World→Prop) (hA:Ask l B V it R Rx)
  (pl:Pm σ) (z:Nat) (A:Array Value) (I:σ→(Nat→Prop)→World→Prop) (hP:iB B V pl z A I) (q:Pg) (P:Pp) (a F:Nat→Prop) (k:Nat) (s:σ) (W:World)
  (hR:R a k W) (hI:I s F W) (hD:Dj a F W) (hB:B≤W.heap.size) (hq:dt W q P) (ho:fj P) (h0:dM P=0) (r:Rf) (e0:Int) (s2:σ) (h1:pl s (encS P)=((r,e0),s2)) (a0:¬e0=0) (hf:it k (zs,e0) false):
  Calls Tryz.prog 159 #[gw z A,gv q,.func (.yield l) #[] #[]] W (GP R Rx I a F k ⟨s2,[],e0,zf⟩ W):=by
 obtain⟨D,a1⟩:∃ D,((W.alloc (.cells #[.func (.func z) #[] A] 93)).alloc (cX q)).alloc (.cells #[.int .u32 0,.string ⟨#[]⟩] 49)=D:=⟨_,rfl⟩;obtain⟨⟨g0,g1,g2⟩,b0,s0⟩:=iY _ _ _ _ a1;have HG:Hid (D.heap[W.heap.size]? =some (.cells #[.func (.func z) #[] A] 93 (0,0))∧FB (W.heap.size+2) 0 ⟨#[]⟩ D):=⟨g0,g2⟩;obtain⟨c0,c1,c2,c3,c4,c5,c6,c7⟩:=pE g1;have HE:Hid _:=ou q P D (hq.below b0 zn) ho
 have HC:Hid (∀ C,I s F C→Calls Tryz.prog z (#[.string (encS P)]++A) C fun e u=>e=.returned (.tuple #[dR r,.int .i64 e0])∧∃ F',I s2 F' u∧bC F C u∧cu F F' C u):=fun C a2=>by
  have:=hP.call s F C (encS P) (ov P) a2;rw[h1] at this;exact this
 generalize encS P=T at*
 have E:Hid _:=b0;have a3:Hid _:=s0;have an:=hP.eg;have G:Hid _:=hP;have HA:Hid _:=hA;have HR:Hid _:=hR;have H:Hid _:=hI;have c:Hid _:=hD;have J:Hid _:=hB;have HF:Hid _:=hf;refine(callsIn_wide (n:=5)).1 ?_;refine callsIn_of_wp Tryz.func159 rfl trivial ?_ rfl;simp only[Tryz.ntmps159,eR,eS,eT,Nat.reduceAdd,Nat.reduceSub,eU,eV,eW,eX,eY,eZ];gi_wp2;refine⟨trivial,callsIn_wide.2 (Calls.mono HE.o ?_)⟩;rintro e d ⟨rfl,b1⟩;obtain⟨g,v⟩:∃ g,d.alloc (.cells #[.int .u32 0,.string ⟨#[]⟩] 49)=g:=⟨_,rfl⟩;have b2:Below d.heap.size d g:=by rw[←v];exact bF _ _
 have K:Hid (FB d.heap.size 0 ⟨#[]⟩ g):=by rw[←v];exact gQ d
 have w:=b1.trans (b2.mono b1.size);have h:Hid _:=E.o.trans (w.mono E.o.size);have L:Hid _:=HG.o.2.grow w;have f:Hid (W.heap.size+3≤d.heap.size∧g.heap.size=d.heap.size+1):=⟨by have:=a3.o;have:=b1.size;omega,(by rw[←v];simp)⟩
 have cg:g.cell? ⟨W.heap.size,0,none⟩=some (.func (.func z) #[] A):=by
  rw[zr ((w.block _ (zi HG.o.1).1).trans HG.o.1)];rfl
 have a5:Hid _:=G.o.keep s F W g H.o h.o.size fun j hj=>h.o.block j (G.o.lt s F W H.o j hj)
 gi_wp2;refine⟨trivial,callsIn_wide.2 (Calls.mono (HC.o g a5.o) ?_)⟩;rintro e W3 ⟨rfl,F',a6,x,a7⟩;have a8:Hid _:=G.o.lt s F W H.o;have nF:∀ j,W.heap.size≤j→¬F j:=fun j hj hF=>by have:=a8.o j hF;omega
 have M:Hid _:=(x.block _ (zi L.o).1 (nF _ uo)).trans L.o;have N:FB d.heap.size 0 ⟨#[]⟩ W3:=(x.block _ (zi K.o).1 (nF _ (by have:=f.o;omega))).trans K.o;have a9:Hid _:=a6;have O:Hid _:=x;have aa:Hid _:=a7;obtain⟨z1,z2,z3,z4⟩:=N.facts;obtain⟨i,ab⟩:∃ i,(W3.setCell ⟨d.heap.size,0,none⟩ (.int .u32 (r.p:Int))).setCell ⟨d.heap.size,1,none⟩ (.string r.t)=i:=⟨_,rfl⟩;obtain⟨Q,b4⟩:=N.put6 (r.p:Int) r.t;rw[ab] at Q b4;have y:Hid _:=b4;have S:Hid (FB (W.heap.size+2) 0 ⟨#[]⟩ i):=(y.o.block _ (zi M.o).1 (by have:=f.o;omega)).trans M.o
 have o:Hid (Kv B V a W i):=by
  refine(?_:Kv B V a W i);refine(Kv.of_below h.o).trans (Kv.trans (b:=W3) ?_ ?_)
  ·exact Kv.of_but O.o fun j _ hF=>⟨G.o.fp s F W H.o j hF,fun ho=>c.o.no j ho hF⟩
  ·exact Kv.of_but y.o fun j _ e=>⟨.inr (by have:=f.o;have:=J.o;omega),fun e'=>by have:=c.o.lt _ e';have:=f.o;omega⟩
 have ac:=o.o.size;have ad:Hid _:=HA.o.keep a k W i HR.o o.o;have ae:=lX (m:=4)<|HA.o.yld a k (zs,e0) false i HF.o ad.o fun j hj=>Nat.lt_of_lt_of_le (c.o.lt j hj) ac
 obtain⟨fn,U,assign,body,hy,af⟩:=ae;have ag:Hid (RoundIn Fence.wide 4 Tryz.prog l fn U assign body i (YP R Rx a (k+1) i false)):=af;have ez:yv (zs,e0)=#[.agg #[.string ⟨#[]⟩,.int .u32 0,.string ⟨#[]⟩],.int .i64 e0]:=rfl;rw[ez] at hy;gi_wp2;refine ag.o.mono ?_;rintro e W6 ⟨am,ah,X,rfl,(⟨hx,-⟩|⟨-,ai⟩)⟩
 ·cases hx
 have Y:=S.o.but6 X fun e=>by have:=c.o.lt _ e;omega
 obtain⟨x1,x2,x3,x4⟩:=Y.facts;obtain⟨W7,aj⟩:∃ W7,(W6.setCell ⟨W.heap.size+1+1,0,none⟩ (.int .u32 0)).setCell ⟨W.heap.size+1+1,1,none⟩ (.string ⟨#[]⟩)=W7:=⟨_,rfl⟩;obtain⟨Z,b7⟩:=Y.put6 0 ⟨#[]⟩;rw[aj] at Z b7;have ak:Hid _:=Z;have al:Hid (GP R Rx I a F k ⟨s2,[],e0,zf⟩ W (.returned (.tuple #[dR zf,.bool false])) W7):=zgr a0 o.o.size f.o G.o HA.o H.o c.o J.o h.o a9.o O.o aa.o y.o (Below.refl _ _) o.o ah X ai b7;gi_wp2;refine bodyPost_ret (fD rfl _ _ _ _ _ _ rfl rfl ak.o) rfl ?_;exact al.o
theorem qV {σ:Type} (l B:Nat) (V:Nat→Prop) (d:Nat→Sv × Int→Bool→Prop) (R:(Nat→Prop)→Nat→World→Prop) (e:(Nat→Prop)→World→Prop) (i:Ask l B V d R e)
  (pl:Pm σ) (f:Nat) (g:Array Value) (I:σ→(Nat→Prop)→World→Prop) (j:iB B V pl f g I) (q:Pg) (P:Pp) (a F:Nat→Prop) (k:Nat) (s:σ) (W:World)
  (m:R a k W) (n:I s F W) (o:Dj a F W) (p:B≤W.heap.size) (t:dt W q P) (u:fj P) (b:Fit d k (dS pl s P)):
  Calls Tryz.prog 159 #[gw f g,gv q,.func (.yield l) #[] #[]] W (GP R e I a F k (dS pl s P) W):=by
 unfold dS at b ⊢;by_cases c:dM P=0
 ·rw[if_pos c] at b ⊢
  obtain⟨x,v⟩:∃ x,pl s (encS P)=x:=⟨_,rfl⟩;rw[v] at b ⊢;obtain⟨⟨r,e0⟩,w⟩:=x;by_cases h:e0=0
  ·subst h
   exact zo6 l B V d R e i pl f g I j q P a F k s W m n o p t u c r w v (by have:=b.1 0 _ rfl;exact this)
  ·rw[if_neg h] at b ⊢
   exact zm8 l B V d R e i pl f g I j q P a F k s W m n o p t u c r e0 w v h (by have:=b.2 h;exact this)
 ·rw[if_neg c] at b ⊢
  exact zm7 l B V d R e i pl f g I j q P a F k s W m n o p t u _ rfl c (by have:=b.2 c;exact this)
end Rz
namespace Rz
open Go.RowKit Go.Lib Go.Shelf
open Rc Rq
open Rw (Rf dR fc eO Pp dt eG fj encS dM pz gv Pg rpp pB cX)
open Rv (FB fD gQ)
theorem zlk {P:Program} {c:Array Oper} {b:List Oper} {o:Oper} {a:Act} {w:World} {Q:Exit→Act→World→Prop} (e:o.guard=none) (t u:TypeId) (x y:Operand) (f:o.op=.call { callee:=.builtin .min,args:=#[x,y],argTypes:=#[t,u] })
  {p q r:Int} (g:a.eval x=.int .i64 p) (i:a.eval y=.int .i64 q) (j:(if q<p then q else p)=r) (h:wpList P c Q b (a.put o.dst (.int .i64 r)) w):wpList P c Q (o::b) a w:=
 wpList_plain e fun _ k=>by
  have d:(Builtin.min_ #[t,u] o.type #[.int .i64 p,.int .i64 q]).run P w=.ok (.int .i64 r) w:=by subst j;rfl
  unfold Oper.wp execOp;simp only[f,resolve,invoke,builtin,Sem.run_bind,Sem.run_pure,Result.andThen_ok,List.map_toArray,List.map_cons,List.map_nil,g,i,d];exact k _ _ h
theorem zll {P:Program} {c:Array Oper} {b:List Oper} {o:Oper} {a:Act} {w:World} {Q:Exit→Act→World→Prop} (e:o.guard=none) (t u:TypeId) (x y:Operand) (f:o.op=.call { callee:=.builtin .max,args:=#[x,y],argTypes:=#[t,u] })
  {p q r:Int} (g:a.eval x=.int .i64 p) (i:a.eval y=.int .i64 q) (j:(if q>p then q else p)=r) (h:wpList P c Q b (a.put o.dst (.int .i64 r)) w):wpList P c Q (o::b) a w:=
 wpList_plain e fun _ k=>by
  have d:(Builtin.max_ #[t,u] o.type #[.int .i64 p,.int .i64 q]).run P w=.ok (.int .i64 r) w:=by subst j;rfl
  unfold Oper.wp execOp;simp only[f,resolve,invoke,builtin,Sem.run_bind,Sem.run_pure,Result.andThen_ok,List.map_toArray,List.map_cons,List.map_nil,g,i,d];exact k _ _ h
theorem Fit.tail {σ:Type} {a:Nat→Sv × Int→Bool→Prop} {k:Nat} {g h:Gr σ} {ys:List Sv} (b:Fit a k g) (e:g=⟨h.s,ys++h.ys,h.e,h.r⟩):Fit a (k+ys.length) h:=by
 subst e;refine⟨fun i x c=>?_,fun d=>?_⟩
 ·have:=b.1 (ys.length+i) x (by show(ys++h.ys)[ys.length+i]? =_;rw[List.getElem?_append_right uo,Nat.add_sub_cancel_left];exact c)
  rwa[←Nat.add_assoc] at this
 ·have:=b.2 d
  rw[show(⟨h.s,ys++h.ys,h.e,h.r⟩:Gr σ).ys.length=ys.length+h.ys.length from List.length_append,←Nat.add_assoc] at this;exact this
def iz:Value→Int|.int _ q=>q|_=>0
theorem tn {l:List Rw} {next:Rf} (h:∀ r∈l,fI r) (hn:next.p<4294967296):fj (eo l next):=⟨Nat.zero_lt_succ _,Nat.zero_lt_succ _,hn,h,fun r hr=>by cases hr⟩
structure Lv {σ:Type} (Z:(Nat→Prop)→World→Prop) (I:σ→(Nat→Prop)→World→Prop) (pf:Nat) (pb:Array Value) (own F:Nat→Prop) (W W0:World) (next:Rf) (s:σ) (own' F':Nat→Prop) (wr:World):Prop where
 nx:FB (W.heap.size+2) (next.p:Int) next.t wr
 rs:FB (W.heap.size+1) 0 ⟨#[]⟩ wr
 gb:wr.heap[W.heap.size]? =some (.cells #[.func (.func pf) #[] pb] 93 (0,0))
 go:cu own own' W0 wr
 gf:cu F F' W0 wr
 dj:Dj own' F' wr
 bt:bC (fun j=>own j∨F j) W wr
 i:I s F' wr
 r:Z own' wr
theorem Lv.box {σ:Type} {Z:(Nat→Prop)→World→Prop} {I:σ→(Nat→Prop)→World→Prop} {c:Nat} {d:Array Value} {a F:Nat→Prop} {W b:World} {next:Rf} {s:σ} {own' F':Nat→Prop} {f:World} (h:Lv Z I c d a F W b next s own' F' f)
  (s0:b.heap.size=W.heap.size+3) (g:∀ j,a j→j<W.heap.size) (i:∀ j,F j→j<W.heap.size):∀ j,W.heap.size≤j→j<W.heap.size+3→¬(own' j∨F' j):=fun j k l e=>by
 rcases e with e|e
 ·rcases h.go j e with x|x
  ·have:=g j x;omega
  ·omega
 ·rcases h.gf j e with x|x
  ·have:=i j x;omega
  ·omega
theorem Lv.step {σ:Type} {B:Nat} {V:Nat→Prop} {Z Z1:(Nat→Prop)→World→Prop} {pl:Pm σ} {I:σ→(Nat→Prop)→World→Prop} {o:Nat} {p:Array Value} {b F:Nat→Prop} {W l:World} {next:Rf} {s:σ} {own' F':Nat→Prop} {c:World} (h:Lv Z I o p b F W l next s own' F' c)
  (s0:l.heap.size=W.heap.size+3) (v:∀ j,b j→j<W.heap.size) (w:∀ j,F j→j<W.heap.size) (r:iB B V pl o p I) (y:∀ b W W',Z1 b W→Kv B V b W W'→Z1 b W') {W1 W2:World} {a d:Nat→Prop} {s1:σ} (z:cu own' a c W1) (A:cu F' d c W1) (t:Dj a d W1) (bt:bC (fun j=>own' j∨F' j) c W1) (u:I s1 d W1) (C:Z1 a W1) (f:Below W1.heap.size W1 W2):
  Lv Z1 I o p b F W l next s1 a d W2:=by
 have q:=h.box s0 v w;have G:=(zi h.nx).1;have s1:=bt.size;have m:=f.size;have i:l.heap.size≤c.heap.size:=uo
 have n:∀ j,j<c.heap.size→¬(own' j∨F' j)→W2.heap[j]? =c.heap[j]? :=fun j g k=>(f.block j uo).trans (bt.block j g k)
 refine⟨(n _ G (q _ uo uo)).trans h.nx,(n _ ((zi h.rs).1) (q _ uo uo)).trans h.rs,(n _ ((zi h.gb).1) (q _ uo uo)).trans h.gb,?_,?_,⟨fun j g=>Nat.lt_of_lt_of_le (t.lt j g) m,t.no⟩,?_,r.keep _ d W1 W2 u m fun j g=>f.block j (r.lt _ d W1 u j g),y a W1 W2 C (Kv.of_below f)⟩
 ·exact cu.trans (cu.trans h.go z i s1) (cu.refl a W1 W2) uo m
 ·exact cu.trans (cu.trans h.gf A i s1) (cu.refl d W1 W2) uo m
 ·refine⟨f.os.trans (bt.os.trans h.bt.os),f.tape.trans (bt.tape.trans h.bt.tape),f.output.trans (bt.output.trans h.bt.output),by omega,fun j g k=>?_⟩
  rw[n j uo fun e=>?_,h.bt.block j g k];rcases e with e|e
  ·rcases h.go j e with x|x
   ·exact k (.inl x)
   ·omega
  ·rcases h.gf j e with x|x
   ·exact k (.inr x)
   ·omega
theorem Lv.put {σ:Type} {B:Nat} {V:Nat→Prop} {Z:(Nat→Prop)→World→Prop} {pl:Pm σ} {I:σ→(Nat→Prop)→World→Prop} {l:Nat} {m:Array Value} {a F:Nat→Prop} {W n:World} {next d:Rf} {s:σ} {own' F':Nat→Prop} {f g:World} (h:Lv Z I l m a F W n next s own' F' f)
  (s0:n.heap.size=W.heap.size+3) (q:∀ j,a j→j<W.heap.size) (u:∀ j,F j→j<W.heap.size) (C:B≤W.heap.size) (o:iB B V pl l m I) (v:∀ a W W',Z a W→Kv B V a W W'→Z a W') (w:FB (W.heap.size+2) (d.p:Int) d.t g) (c:bC (fun j=>j=W.heap.size+2) f g):
  Lv Z I l m a F W n d s own' F' g:=by
 have k:=h.box s0 q u;have hs:=c.size;have y:=h.bt.size;refine⟨w,(c.block _ (zi h.rs).1 uo).trans h.rs,(c.block _ (zi h.gb).1 uo).trans h.gb,?_,?_,⟨fun j b=>Nat.lt_of_lt_of_le (h.dj.lt j b) hs,h.dj.no⟩,?_,?_,?_⟩
 ·exact fun j b=>(h.go j b).imp id fun x=>⟨x.1,by omega⟩
 ·exact fun j b=>(h.gf j b).imp id fun x=>⟨x.1,by omega⟩
 ·refine⟨c.os.trans h.bt.os,c.tape.trans h.bt.tape,c.output.trans h.bt.output,by omega,fun j b z=>?_⟩
  rw[c.block j uo uo,h.bt.block j b z]
 ·exact o.keep _ F' f g h.i hs fun j b=>c.block j (o.lt _ F' f h.i j b) fun e=>k j uo uo (.inr b)
 ·exact v own' f g h.r (Kv.of_but c fun j _ e=>⟨.inr uo,fun A=>k j uo uo (.inl A)⟩)
theorem Lv.ret {σ:Type} {B:Nat} {V:Nat→Prop} {Z:(Nat→Prop)→World→Prop} {pl:Pm σ} {I:σ→(Nat→Prop)→World→Prop} {k:Nat} {l:Array Value} {a F:Nat→Prop} {W m:World} {next:Rf} {s:σ} {own' F':Nat→Prop} {f c:World} (h:Lv Z I k l a F W m next s own' F' f)
  (s0:m.heap.size=W.heap.size+3) (o:∀ j,a j→j<W.heap.size) (p:∀ j,F j→j<W.heap.size) (w:B≤W.heap.size) (n:iB B V pl k l I) (q:∀ a W W',Z a W→Kv B V a W W'→Z a W') (d:bC (fun j=>j=W.heap.size+1) f c):
  (cu a own' W c∧cu F F' W c)∧Dj own' F' c∧bC (fun j=>a j∨F j) W c∧I s F' c∧Z own' c:=by
 have g:=h.box s0 o p;have hs:=d.size;have t:=h.bt.size;refine⟨⟨fun j b=>(h.go j b).imp id fun x=>⟨by omega,by omega⟩,fun j b=>(h.gf j b).imp id fun x=>⟨by omega,by omega⟩⟩,⟨fun j b=>Nat.lt_of_lt_of_le (h.dj.lt j b) hs,h.dj.no⟩,?_,?_,?_⟩
 ·refine⟨d.os.trans h.bt.os,d.tape.trans h.bt.tape,d.output.trans h.bt.output,by omega,fun j b u=>?_⟩
  rw[d.block j uo uo,h.bt.block j b u]
 ·exact n.keep _ F' f c h.i hs fun j b=>d.block j (n.lt _ F' f h.i j b) fun e=>g j uo uo (.inr b)
 ·exact q own' f c h.r (Kv.of_but d fun j _ e=>⟨.inr uo,fun v=>g j uo uo (.inl v)⟩)
theorem zjf {σ : Type} (l B : Nat) (V : Nat → Prop) (it : Nat → Sv × Int → Bool → Prop) (R : (Nat → Prop) → Nat → World → Prop) (Rx : (Nat → Prop) → World → Prop) (Z : Ask l B V it R Rx)
    (pl : Pm σ) (N : Nat) (O : Array Value) (I : σ → (Nat → Prop) → World → Prop) (M : iB B V pl N O I) (ls : List Rw) (o : Option Addr) (g : Nat) (d F : Nat → Prop) (k : Nat) (s : σ) (W : World)
    (hR : R d k W) (hI : I s F W) (hD : Dj d F W) (hB : B ≤ W.heap.size) (hq : cH W o g ls) (hn : ∀ b n, o = some ⟨b, n, none⟩ → 0 < ls.length → ¬ d b ∧ ¬ F b) (ho : ∀ r ∈ ls, fI r) (az : ls.length ≤ 1000) (hf : Fit it k (di pl ls (cY ls) s zf)) :
    Calls Tryz.prog 158 #[gw N O, .slice o ls.length g, .func (.yield l) #[] #[]] W (GP R Rx I d F k (di pl ls (cY ls) s zf) W) := by
  obtain ⟨X, aj⟩ : ∃ X, ((W.alloc (.cells #[.func (.func N) #[] O] 93)).alloc (.cells #[.int .u32 0, .string ⟨#[]⟩] 49)).alloc (.cells #[.int .u32 0, .string ⟨#[]⟩] 49) = X := ⟨_, rfl⟩;obtain ⟨⟨g0, g1, g2⟩, b0, s0⟩ := iY _ _ _ _ aj
  have ak : Hid (Lv (fun o W => R o (k + 0) W) I N O d F W X zf s d F X) :=
    ⟨g2, g1, g0, cu.refl _ _ _, cu.refl _ _ _, ⟨fun j hj => by have := hD.lt j hj; omega, hD.no⟩, bC.of_below b0, M.keep s F W X hI b0.size fun j hj => b0.block j (M.lt s F W hI j hj), Z.keep d k W X hR (Kv.of_below b0)⟩
  obtain ⟨G, hG⟩ : ∃ G, di pl ls (cY ls) s zf = G := ⟨_, rfl⟩;rw [hG] at hf ⊢;have HEq : Hid _:= hG.symm;have a5 : (if (0 : Int) > (ls.length : Int) - 1 then (0 : Int) else (ls.length : Int) - 1) = ((ls.length - 1 : Nat) : Int) := by split <;> omega
  have aA : (((ls.length - 1 : Nat) : Int)).tdiv 4 = ((cY ls - 1 : Nat) : Int) := by
    have := Int.ofNat_tdiv (ls.length - 1) 4;unfold cY;rw [show (ls.length - 1) / 4 + 1 - 1 = (ls.length - 1) / 4 by omega, this];rfl
  have A : Hid _:= s0;have HQ : Hid _:= hq;have HF : Hid (Fit it k G) := hf;have HO : Hid _:= hD.lt;have C : Hid _:= M.lt s F W hI;go_enter Tryz.func158, Tryz.ntmps158
  go_wp2_with (refine zll rfl 3 3 (.tmp 15) (.const (.int .i64 0)) rfl rfl rfl a5 ?_)
  have al : Hid (1 ≤ cY ls) := Nat.le_add_left _ _
  go_loopw [9] (fun i wr => ∃ (m : Nat) (next : Rf) (z : σ) (Q : List Sv) (v F' : Nat → Prop), (m ≤ cY ls ∧ next.p < 4294967296) ∧ i = .int .i64 ((m : Int) - 1) ∧ Lv (fun o W => R o (k + Q.length) W) I N O d F W X next z v F' wr ∧ G = ⟨(di pl ls m z next).s, Q ++ (di pl ls m z next).ys, (di pl ls m z next).e, (di pl ls m z next).r⟩) (fun i _ => (iz i + 1).toNat)
  case atStart =>
    refine ⟨cY ls, zf, s, [], d, F, ⟨Nat.le_refl _, Nat.zero_lt_succ _⟩, ?_, ak.o, HEq.o⟩;have h1 := al.o;have h2 : cY ls ≤ ls.length + 1 := by unfold cY; omega
    rw [show ((cY ls : Nat) : Int) - 1 = ((cY ls - 1 : Nat) : Int) by omega];rw [IntWalk.wrap64_in _ ⟨by omega, by omega⟩]
  case round =>
    obtain ⟨m, next, z, Q, v, F', ⟨hm, am⟩, rfl, x, hE⟩ := hrel;cases m with
    | zero =>
      have q0 : ¬ (0 : Int) ≤ ((0 : Nat) : Int) - 1 := by omega
      obtain ⟨zi, hzi⟩ : ∃ zi : Int, ((0 : Nat) : Int) - 1 = zi := ⟨_, rfl⟩;rw [hzi] at q0 ⊢;have HL : Hid _:= x;have HE : Hid _ := hE;obtain ⟨n1, n2, n3, n4⟩ := x.nx.facts;obtain ⟨x1, x2, x3, x4⟩ := x.rs.facts;obtain ⟨hY3, b3⟩ := x.rs.put6 (next.p : Int) next.t;obtain ⟨W3, hW3⟩ : ∃ W3, (wr.setCell ⟨W.heap.size + 1, 0, none⟩ (.int .u32 (next.p : Int))).setCell ⟨W.heap.size + 1, 1, none⟩ (.string next.t) = W3 := ⟨_, rfl⟩;rw [hW3] at hY3 b3;have HY3 : Hid _:= hY3;have HR3 : Hid _ := x.ret A.o HO.o C.o hB M (fun o W W' h h' => Z.keep o _ W W' h h') b3;clear x hE hY3 b3 hzi;go_wp2_with fail;refine bodyPost_ret (fD rfl _ _ _ _ _ _ rfl rfl HY3.o) rfl ?_;obtain ⟨r1, r2, r3, r4, r5⟩ := HR3.o;rw [HE.o];exact ⟨rfl, v, F', r1, r2, r3, r4, fun _ => by rw [show (di pl ls 0 z next).ys = [] from rfl, List.append_nil]; exact r5, fun h => absurd rfl h⟩
    | succ m =>
      rw [show (((m + 1 : Nat) : Int)) - 1 = (m : Int) by omega]
      have h4 : 4 * m ≤ ls.length := by have : m ≤ cY ls - 1 := by omega
                                        unfold cY at this; omega
      obtain ⟨e, he⟩ : ∃ e, pend ls.length m = e := ⟨_, rfl⟩;have hp1 : 4 * m ≤ e ∧ e ≤ ls.length := by rw [← he]; unfold pend; split <;> omega
      have hmin : (if (ls.length : Int) < ((m : Int) + 1) * 4 then (ls.length : Int) else ((m : Int) + 1) * 4) = (e : Int) := by rw [← he]; unfold pend; split <;> split <;> omega
      have hrun : ∀ w, (Instr.sliceAt 22 (.slice o ls.length g) (some (.int .i64 ((m : Int) * 4))) (some (.int .i64 (e : Int))) none).run Tryz.prog w = .ok (.slice (if g = 4 * m then o else o.map (·.add (4 * m * 4))) (e - 4 * m) (g - 4 * m)) w := fun w => by
        rw [show (m : Int) * 4 = ((4 * m : Nat) : Int) by omega];exact zoQ o ls.length g (4 * m) e w hp1.1 (Nat.le_trans hp1.2 HQ.o.1) HQ.o.2.2.1
      have hbk : ∀ b n, o = some ⟨b, n, none⟩ → 0 < ls.length → b < W.heap.size → wr.heap[b]? = W.heap[b]? := fun b n e1 e2 hb => x.bt.block b hb fun e3 => by
        obtain ⟨x1, x2⟩ := hn b n e1 e2;rcases e3 with e3 | e3
        · exact x1 e3
        · exact x2 e3
      have hrows : cH wr o g ls := ⟨HQ.o.1, HQ.o.2.1, HQ.o.2.2.1, HQ.o.2.2.2.1, fun h0 => by
        obtain ⟨b, n, e1, hlt, hc⟩ := HQ.o.2.2.2.2 h0;exact ⟨b, n, e1, Nat.lt_of_lt_of_le hlt x.bt.size, fun j u hu => (World.cell?_of_block (a := ⟨b, n + j, none⟩) (hbk b n e1 h0 hlt)).trans (hc j u hu)⟩⟩
      have hmid := zmQ hrows hp1.1 hp1.2;rw [← he, ← zid ls m h4] at hmid;have hplen := zk2 ls m h4;rw [he] at hplen;generalize (if g = 4 * m then o else o.map (·.add (4 * m * 4))) = so at hrun hmid;have hfit := HF.o.tail hE;have hlv : di pl ls (m + 1) z next = (dS pl z (eo (piece ls m) next)).then fun s'' r => di pl ls m s'' r := rfl
      rw [hlv] at hfit hE
      have HPg : Hid (Calls Tryz.prog 159 #[gw N O, gv ⟨1, 0, 0, 0, so, e - 4 * m, g - 4 * m, none, 0, 0, next.p, next.t⟩, .func (.yield l) #[] #[]] wr (GP R Rx I v F' (k + Q.length) (dS pl z (eo (piece ls m) next)) wr)) :=
        qV l B V it R Rx Z pl N O I M _ (eo (piece ls m) next) v F' (k + Q.length) z wr x.r x.i x.dj (Nat.le_trans hB x.bt.size) ⟨rfl, rfl, rfl, rfl, rfl, rfl, ⟨Nat.zero_lt_succ _, Nat.zero_lt_succ _, hplen.symm, hmid, rfl, Sl.nil 2 wr⟩⟩ (tn (fun r hr => ho r (zk3 hr)) am) hfit.left
      have hnp1 := qe M.small z (eo (piece ls m) next);have hrz := zic pl z (eo (piece ls m) next);generalize dS pl z (eo (piece ls m) next) = pg at hfit hE HPg hnp1 hrz;have HRZ : Hid _:= hrz;clear hrz;obtain ⟨n1, n2, n3, n4⟩ := x.nx.facts;have cg : wr.cell? ⟨W.heap.size, 0, none⟩ = some (.func (.func N) #[] O) := by rw [zr x.gb]; rfl
      have HL : Hid _:= x;have HE : Hid _ := hE
      go_wp2_with (refine zlk rfl 3 3 (.tmp 27) (.tmp 29) rfl rfl rfl hmin ?_)
      refine HPg.o.mono ?_;rintro e2 W1 ⟨rfl, own1, F1, ⟨hg1, hg2⟩, hdj, hbt, hi1, hr1, hx1⟩;obtain ⟨W2, hW2⟩ : ∃ W2, W1.alloc (.cells #[.int .u32 (pg.r.p : Int), .string pg.r.t] 49) = W2 := ⟨_, rfl⟩;have b2 : Below W1.heap.size W1 W2 := by rw [← hW2]; exact bF _ _
      have hZ : FB W1.heap.size (pg.r.p : Int) pg.r.t W2 := by rw [← hW2]; exact zq W1 _
      by_cases h0 : pg.e = 0
      · have hL2 := HL.o.step (Z1 := fun o W => R o (k + Q.length + pg.ys.length) W) A.o HO.o C.o M (fun o W W' h h' => Z.keep o _ W W' h h') hg1 hg2 hdj hbt hi1 (hr1 h0) b2
        obtain ⟨v1, v2, v3, v4⟩ := hZ.facts;obtain ⟨x1, x2, x3, x4⟩ := hL2.nx.facts;obtain ⟨hY3, b3⟩ := hL2.nx.put6 (pg.r.p : Int) pg.r.t;obtain ⟨W3, hW3⟩ : ∃ W3, (W2.setCell ⟨W.heap.size + 2, 0, none⟩ (.int .u32 (pg.r.p : Int))).setCell ⟨W.heap.size + 2, 1, none⟩ (.string pg.r.t) = W3 := ⟨_, rfl⟩;rw [hW3] at hY3 b3
        have HL3 : Hid (Lv (fun o W => R o (k + (Q ++ pg.ys).length) W) I N O d F W X pg.r pg.s own1 F1 W3) := by
          have := hL2.put A.o HO.o C.o hB M (fun o W W' h h' => Z.keep o _ W W' h h') hY3 b3;rw [List.length_append, ← Nat.add_assoc];exact this
        have h0' := decide_eq_true h0;go_wp2_with fail;refine ⟨⟨m, pg.r, pg.s, Q ++ pg.ys, own1, F1, ⟨by omega, hnp1⟩, rfl, HL3.o, ?_⟩, ?_⟩
        · have := HE.o
          unfold Gr.then at this;rw [if_pos h0] at this;rw [this, List.append_assoc]
        · simp [iz]
      · have h0' := decide_eq_false h0
        have hL2 := HL.o.step (Z1 := Rx) A.o HO.o C.o M Z.keepx hg1 hg2 hdj hbt hi1 (hx1 h0) b2;obtain ⟨x1, x2, x3, x4⟩ := hL2.rs.facts;obtain ⟨hY3, b3⟩ := hL2.rs.put6 0 ⟨#[]⟩;obtain ⟨W3, hW3⟩ : ∃ W3, (W2.setCell ⟨W.heap.size + 1, 0, none⟩ (.int .u32 0)).setCell ⟨W.heap.size + 1, 1, none⟩ (.string ⟨#[]⟩) = W3 := ⟨_, rfl⟩;rw [hW3] at hY3 b3;have HY3 : Hid _:= hY3;have HR3 : Hid _ := hL2.ret A.o HO.o C.o hB M Z.keepx b3;go_wp2_with fail;refine bodyPost_ret (fD rfl _ _ _ _ _ _ rfl rfl HY3.o) rfl ?_;have hGe := HE.o;unfold Gr.then at hGe;rw [if_neg h0] at hGe;obtain ⟨r1, r2, r3, r4, r5⟩ := HR3.o;rw [hGe];exact ⟨by rw [show decide ((⟨pg.s, Q ++ pg.ys, pg.e, pg.r⟩ : Gr σ).e = 0) = false from h0', HRZ.o h0]; rfl, own1, F1, r1, r2, r3, r4, fun h => absurd h h0, fun _ => r5⟩
def tp {σ:Type} (l B:Nat) (it:Nat→Sv × Int→Bool→Prop) (R:(Nat→Prop)→Nat→World→Prop) (Rx:(Nat→Prop)→World→Prop) (pl:Pm σ) (pf:Nat) (pb:Array Value) (I:σ→(Nat→Prop)→World→Prop) (G:Nat→Prop) (d:Nat):Prop:=
 ∀ (n:Nv) (ls:List Rw) (own F:Nat→Prop) (k:Nat) (s:σ) (W:World),R own k W→I s F W→Dj own F W→B≤W.heap.size→ci G d W n ls→(∀ b,G b→b<W.heap.size∧¬own b∧¬F b)→On ls→(∀ r∈ls,fI r)→ls.length≤1000→Fit it k (bW pl d s ls)→
  Calls Tryz.prog 116 #[gw pf pb,nv n,.func (.yield l) #[] #[]] W (GP R Rx I own F k (bW pl d s ls) W)
def C5 (w:World) (g:Nat) (n:Nv):Prop:=w.cell? ⟨g,0,none⟩=some (.int .u32 (n.X:Int))∧w.cell? ⟨g,1,none⟩=some (.int .u32 (n.Y:Int))∧w.cell? ⟨g,2,none⟩=some (.int .i64 (n.L:Int))∧w.cell? ⟨g,3,none⟩=some (.slice n.ro n.rn n.rc)∧w.cell? ⟨g,4,none⟩=some (.slice n.ko n.kn n.kc)
abbrev ev (n:Nv):Obj:=.cells #[.int .u32 (n.X:Int),.int .u32 (n.Y:Int),.int .i64 (n.L:Int),.slice n.ro n.rn n.rc,.slice n.ko n.kn n.kc] 73
theorem nE {w:World} {g:Nat} {n:Nv} (h:w.heap[g]? =some (ev n)):C5 w g n:=
 ⟨by rw[zr h];rfl,by rw[zr h];rfl,by rw[zr h];rfl,by rw[zr h];rfl,by rw[zr h];rfl⟩
theorem GP.outer {σ:Type} {l B:Nat} {V:Nat→Prop} {w:Nat→Sv × Int→Bool→Prop} {R:(Nat→Prop)→Nat→World→Prop} {n:(Nat→Prop)→World→Prop} {pl:Pm σ} {y:Nat} {z:Array Value} {I:σ→(Nat→Prop)→World→Prop} (o:Ask l B V w R n) (p:iB B V pl y z I)
  {b F own' F':Nat→Prop} {k:Nat} {g:Gr σ} {W d W1 W2:World} (f:Below W.heap.size W d) (A:∀ j,b j→j<W.heap.size) (C:∀ j,F j→j<W.heap.size) (L:B≤W.heap.size)
  (i:cu b own' d W1∧cu F F' d W1) (q:Dj own' F' W1) (bt:bC (fun j=>b j∨F j) d W1) (t:I g.s F' W1) (D:g.e=0→R own' (k+g.ys.length) W1) (E:g.e≠0→n own' W1) {S:Nat→Prop} (c:bC S W1 W2) (m:∀ j,S j→W.heap.size≤j∧j<d.heap.size) {e:Ending} (G:e=.returned (.tuple #[dR g.r,.bool (decide (g.e=0))])):
  GP R n I b F k g W e W2:=by
 have s0:=f.size;have s1:=bt.size;have u:=c.size
 have H:∀ j,own' j→¬S j:=fun j a hs=>by
  have:=m j hs;rcases i.1 j a with x|x
  ·have:=A j x;omega
  ·omega
 have J:∀ j,F' j→¬S j:=fun j a hs=>by
  have:=m j hs;rcases i.2 j a with x|x
  ·have:=C j x;omega
  ·omega
 have v:Kv B V own' W1 W2:=Kv.of_but c fun j _ hs=>⟨.inr (by have:=m j hs;omega),fun e=>H j e hs⟩
 refine⟨G,own',F',⟨fun j a=>(i.1 j a).imp id fun x=>⟨by omega,by omega⟩,fun j a=>(i.2 j a).imp id fun x=>⟨by omega,by omega⟩⟩,⟨fun j a=>Nat.lt_of_lt_of_le (q.lt j a) u,q.no⟩,?_,?_,fun h=>o.keep _ _ W1 W2 (D h) v,fun h=>o.keepx _ W1 W2 (E h) v⟩
 ·refine⟨c.os.trans (bt.os.trans f.os),c.tape.trans (bt.tape.trans f.tape),c.output.trans (bt.output.trans f.output),by omega,fun j a K=>?_⟩
  rw[c.block j uo (fun hs=>by have:=m j hs;omega),bt.block j uo K,f.block j a]
 ·exact p.keep _ F' W1 W2 t u fun j a=>c.block j (p.lt _ F' W1 t j a) (J j a)
theorem zln {σ:Type} (l B:Nat) (V:Nat→Prop) (M:Nat→Sv × Int→Bool→Prop) (R:(Nat→Prop)→Nat→World→Prop) (K:(Nat→Prop)→World→Prop) (N:Ask l B V M R K)
  (pl:Pm σ) (u:Nat) (v:Array Value) (I:σ→(Nat→Prop)→World→Prop) (m:iB B V pl u v I) (G:Nat→Prop) (d:Nat) (n:Nv) (c:List Rw) (a F:Nat→Prop) (k:Nat) (s:σ) (W:World)
  (hR:R a k W) (w:I s F W) (x:Dj a F W) (hB:B≤W.heap.size) (hN:ci G (d+1) W n c) (hG:∀ b,G b→b<W.heap.size∧¬a b∧¬F b) (ho:∀ r∈c,fI r) (O:c.length≤1000) (y:leaf c=true) (P:Fit M k (bW pl (d+1) s c)):
  Calls Tryz.prog 116 #[gw u v,nv n,.func (.yield l) #[] #[]] W (GP R K I a F k (bW pl (d+1) s c) W):=by
 have z:bW pl (d+1) s c=di pl c (cY c) s zf:=by unfold bW;rw[if_pos y]
 rw[z] at P ⊢;obtain⟨-,-,-,h4,-⟩:=hN;obtain⟨h5,h6,h7,h8,-⟩:=h4 y;obtain⟨f,Q⟩:∃ f,((W.alloc (.cells #[.func (.func u) #[] v] 93)).alloc (ev n)).alloc (.cells #[.int .u32 0,.string ⟨#[]⟩] 49)=f:=⟨_,rfl⟩;obtain⟨⟨g0,g1,g2⟩,o,s0⟩:=iY _ _ _ _ Q;have h:Hid _:=zjf l B V M R K N pl u v I m c n.ro n.rc a F k s f (N.keep a k W f hR (Kv.of_below o)) (m.keep s F W f w o.size fun j T=>o.block j (m.lt s F W w j T)) ⟨fun j T=>by have:=x.lt j T;omega,x.no⟩ uo (h6.below o zn) (fun b U e1 e2=>(hG b (h7 e2 b U e1)).2) ho O P;obtain⟨g,hg⟩:∃ g,di pl c (cY c) s zf=g:=⟨_,rfl⟩;rw[hg] at h ⊢;rw[←h5] at h;obtain⟨c0,c1,c2,c3,c4⟩:=nE g1;have cg:f.cell? ⟨W.heap.size,0,none⟩=some (.func (.func u) #[] v):=by rw[zr g0];rfl
 rw[h8] at c4;have HY:Hid (FB (W.heap.size+2) 0 ⟨#[]⟩ f):=g2;have A:Hid _:=fun C F' L q a1 a2 a3 a4 a5 a6 S a7 a8 e a9=>GP.outer (own':=C) (F':=F') (g:=g) (k:=k) (W1:=L) (W2:=q) N m o x.lt (m.lt s F W w) hB a1 a2 a3 a4 a5 a6 (S:=S) a7 a8 (e:=e) a9
 have i:Hid (f.heap.size=W.heap.size+3∧(∀ j,a j→j<W.heap.size)∧∀ j,F j→j<W.heap.size):=⟨s0,x.lt,m.lt s F W w⟩;clear hR w x P g0 g1 g2 o s0 hg z h4 h5 h6 h7 h8 hG ho;go_enter Tryz.func116,Tryz.ntmps116;go_wp2_with fail;refine Calls.mono h.o ?_;rintro e2 L ⟨rfl,D,F1,X,Y,E,Z,a0,aa⟩
 have H:=HY.o.but6 E fun e=>by
  rcases e with e|e
  ·have:=i.o.2.1 _ e;omega
  ·have:=i.o.2.2 _ e;omega
 obtain⟨x1,x2,x3,x4⟩:=H.facts;obtain⟨J,b2⟩:=H.put6 (g.r.p:Int) g.r.t;obtain⟨q,ab⟩:∃ q,(L.setCell ⟨W.heap.size+2,0,none⟩ (.int .u32 (g.r.p:Int))).setCell ⟨W.heap.size+2,1,none⟩ (.string g.r.t)=q:=⟨_,rfl⟩;rw[ab] at J b2;have ac:Hid _:=J;have HR:Hid (GP R K I a F k g W (.returned (.tuple #[dR g.r,.bool (decide (g.e=0))])) q):=A.o D F1 L q X Y E Z a0 aa _ b2 (fun j e=>⟨by omega,by have:=i.o.1;omega⟩) _ rfl;obtain⟨bb,ad⟩:∃ bb,decide (g.e=0)=bb:=⟨_,rfl⟩;rw[ad] at HR ⊢;go_wp2_with fail;refine bodyPost_ret (fD rfl _ _ _ _ _ _ rfl rfl ac.o) rfl ?_;exact HR.o
theorem oC {σ:Type} (f:σ→List Rw→Gr σ) (m:List Rw) (a:List (List Rw)) (s:σ) (rs:List Rf):
  cL f (m::a) s rs=if(f s m).e=0 then(⟨(cL f a (f s m).s (rs++[(f s m).r])).1.s,(f s m).ys++(cL f a (f s m).s (rs++[(f s m).r])).1.ys,(cL f a (f s m).s (rs++[(f s m).r])).1.e,(cL f a (f s m).s (rs++[(f s m).r])).1.r⟩,(cL f a (f s m).s (rs++[(f s m).r])).2) else(f s m,rs):=rfl
theorem Fit.kid {σ:Type} {b:Nat→Sv × Int→Bool→Prop} {k:Nat} {f:σ→List Rw→Gr σ} {m:List Rw} {d:List (List Rw)} {s:σ} {rs:List Rf} (h:Fit b k (cL f (m::d) s rs).1):Fit b k (f s m):=by
 rw[oC] at h;by_cases a:(f s m).e=0
 ·rw[if_pos a] at h
  refine⟨fun i x c=>h.1 i x ?_,fun g=>absurd a g⟩;show((f s m).ys++_)[i]? =_;rw[List.getElem?_append_left (List.getElem?_eq_some_iff.1 c).1];exact c
 ·rw[if_neg a] at h
  exact h
theorem Fit.kids {σ:Type} {f:Nat→Sv × Int→Bool→Prop} {k:Nat} {pl:Pm σ} {d:Nat} {s:σ} {a:List Rw} (b:leaf a=false) (h:Fit f k (bW pl (d+1) s a)):Fit f k (cL (bW pl d) (cR a) s []).1:=by
 unfold bW at h;rw[if_neg (by rw[b];decide)] at h;by_cases c:(cL (bW pl d) (cR a) s []).1.e=0
 ·rw[if_pos c] at h
  refine⟨fun i x g=>h.1 i x ?_,fun j=>absurd c j⟩;show((cL (bW pl d) (cR a) s []).1.ys++_)[i]? =_;rw[List.getElem?_append_left (List.getElem?_eq_some_iff.1 g).1];exact g
 ·rw[if_neg c] at h
  exact h
theorem Fit.last {σ:Type} {c:Nat→Sv × Int→Bool→Prop} {k:Nat} {pl:Pm σ} {d:Nat} {s:σ} {a:List Rw} (b:leaf a=false) (h:Fit c k (bW pl (d+1) s a)) (f:(cL (bW pl d) (cR a) s []).1.e=0):
  Fit c (k+(cL (bW pl d) (cR a) s []).1.ys.length) (dS pl (cL (bW pl d) (cR a) s []).1.s (gI a (cL (bW pl d) (cR a) s []).2)):=by
 unfold bW at h;rw[if_neg (by rw[b];decide),if_pos f] at h;exact h.tail rfl
abbrev qu (n:Nv) (vs:Value):Obj:=.cells #[.int .i64 2,.int .u32 (n.X:Int),.int .u32 (n.Y:Int),.int .i64 (n.L:Int),.slice none 0 0,vs,.int .u32 0,.string ⟨#[]⟩] 155
structure Nd {σ:Type} (Z:(Nat→Prop)→World→Prop) (I:σ→(Nat→Prop)→World→Prop) (pf:Nat) (pb:Array Value) (own F:Nat→Prop) (W:World) (n:Nv) (s:σ) (vs:Value) (rs:List Rf) (own' F':Nat→Prop) (wr:World):Prop where
 gb:wr.heap[W.heap.size]? =some (.cells #[.func (.func pf) #[] pb] 93 (0,0))
 nb:wr.heap[W.heap.size+1]? =some (ev n)
 rb:FB (W.heap.size+2) 0 ⟨#[]⟩ wr
 pg:wr.heap[W.heap.size+3]? =some (qu n vs)
 kr:wr.ownsRow (W.heap.size+4) 49 2 vs rs.length (rs.flatMap fc)
 kn:∀ b,vs.ownBlock=some b→¬(own' b∨F' b)
 go:∀ j,own' j→own j∨W.heap.size+4≤j
 gf:∀ j,F' j→F j∨W.heap.size+4≤j
 dj:Dj own' F' wr
 fl:∀ j,F' j→j<wr.heap.size
 bt:bC (fun j=>own j∨F j) W wr
 i:I s F' wr
 r:Z own' wr
theorem Nd.box {σ:Type} {Z:(Nat→Prop)→World→Prop} {I:σ→(Nat→Prop)→World→Prop} {b:Nat} {c:Array Value} {a F:Nat→Prop} {W:World} {n:Nv} {s:σ} {vs:Value} {rs:List Rf} {own' F':Nat→Prop} {d:World} (h:Nd Z I b c a F W n s vs rs own' F' d)
  (f:∀ j,a j→j<W.heap.size) (g:∀ j,F j→j<W.heap.size):∀ j,W.heap.size≤j→j<W.heap.size+4→¬(own' j∨F' j):=fun j i k e=>by
 rcases e with e|e
 ·rcases h.go j e with x|x
  ·have:=f j x;omega
  ·omega
 ·rcases h.gf j e with x|x
  ·have:=g j x;omega
  ·omega
theorem Nd.step {σ:Type} {B:Nat} {V:Nat→Prop} {Z Z1:(Nat→Prop)→World→Prop} {pl:Pm σ} {I:σ→(Nat→Prop)→World→Prop} {r:Nat} {t:Array Value} {c F:Nat→Prop} {W:World} {n:Nv} {s:σ} {vs:Value} {rs:List Rf} {own' F':Nat→Prop} {l:World} (h:Nd Z I r t c F W n s vs rs own' F' l)
  (H:∀ j,c j→j<W.heap.size) (J:∀ j,F j→j<W.heap.size) (u:iB B V pl r t I) (K:∀ c W W',Z1 c W→Kv B V c W W'→Z1 c W') {p W1 W2:World} {a f:Nat→Prop} {s1:σ} (m:Below l.heap.size l p) (C:cu own' a p W1) (D:cu F' f p W1) (E:Dj a f W1) (bt:bC (fun j=>own' j∨F' j) p W1) (v:I s1 f W1) (L:Z1 a W1) (i:Below W1.heap.size W1 W2):
  Nd Z1 I r t c F W n s1 vs rs a f W2:=by
 have q:=h.box H J;have P:=(zi h.pg).1;have s0:=m.size;have s1:=bt.size;have w:=i.size;have k:∀ j,j<l.heap.size→¬(own' j∨F' j)→W2.heap[j]? =l.heap[j]? :=fun j d o=>(i.block j uo).trans ((bt.block j uo o).trans (m.block j d))
 refine⟨(k _ ((zi h.gb).1) (q _ uo uo)).trans h.gb,(k _ ((zi h.nb).1) (q _ uo uo)).trans h.nb,(k _ ((zi h.rb).1) (q _ uo uo)).trans h.rb,(k _ P (q _ uo uo)).trans h.pg,?_,fun b y e=>?_,fun j d=>?_,fun j d=>?_,⟨fun j d=>Nat.lt_of_lt_of_le (E.lt j d) w,E.no⟩,fun j d=>Nat.lt_of_lt_of_le (u.lt _ f W1 v j d) w,?_,u.keep _ f W1 W2 v w fun j d=>i.block j (u.lt _ f W1 v j d),K a W1 W2 L (Kv.of_below i)⟩
 ·refine⟨h.kr.1,?_⟩
  rcases h.kr.2 with x|⟨g,z,A,rfl,Q,G,R⟩
  ·exact .inl x
  ·exact .inr ⟨g,z,A,rfl,Q,(k g (zi G).1 (h.kn g rfl)).trans G,R⟩
 ·have S:=(h.kr.lt b y).2
  rcases e with e|e
  ·rcases C b e with x|x
   ·exact h.kn b y (.inl x)
   ·omega
  ·rcases D b e with x|x
   ·exact h.kn b y (.inr x)
   ·omega
 ·rcases C j d with x|x
  ·exact h.go j x
  ·exact .inr uo
 ·rcases D j d with x|x
  ·exact h.gf j x
  ·exact .inr uo
 ·refine⟨i.os.trans (bt.os.trans (m.os.trans h.bt.os)),i.tape.trans (bt.tape.trans (m.tape.trans h.bt.tape)),i.output.trans (bt.output.trans (m.output.trans h.bt.output)),by omega,fun j d o=>?_⟩
  rw[k j uo fun e=>?_,h.bt.block j d o];rcases e with e|e
  ·rcases h.go j e with x|x
   ·exact o (.inl x)
   ·omega
  ·rcases h.gf j e with x|x
   ·exact o (.inr x)
   ·omega
theorem Nd.app {σ:Type} {B:Nat} {V:Nat→Prop} {Z:(Nat→Prop)→World→Prop} {pl:Pm σ} {I:σ→(Nat→Prop)→World→Prop} {t:Nat} {u:Array Value} {c F:Nat→Prop} {W:World} {n:Nv} {s:σ} {vs:Value} {rs:List Rf} {own' F':Nat→Prop} {l:World} (h:Nd Z I t u c F W n s vs rs own' F' l)
  (H:∀ j,c j→j<W.heap.size) (J:∀ j,F j→j<W.heap.size) (hB:B≤W.heap.size) (K:iB B V pl t u I) (L:∀ c W W',Z c W→Kv B V c W W'→Z c W') {v f:World} {v':Value} {r:Rf} (m:Below l.heap.size l v) (A:f.ownsRow (W.heap.size+4) 49 2 v' (rs.length+1) (rs.flatMap fc++fc r)) (o:v.grownBy f vs.ownBlock) (M:v'.ownBlock=vs.ownBlock∨v'.ownBlock=some v.heap.size):
  Nd Z I t u c F W n s v' (rs++[r]) own' F' (f.setCell ⟨W.heap.size+3,5,none⟩ v')∧f.heap[W.heap.size+3]? =some (qu n vs):=by
 have C:=h.box H J;have s3:=m.size;have s4:=o.size;have hs:(f.setCell ⟨W.heap.size+3,5,none⟩ v').heap.size=f.heap.size:=by simp[World.setCell]
 have p:=h.kr.lt;have D:∀ j,j<l.heap.size→vs.ownBlock≠some j→f.heap[j]? =l.heap[j]? :=fun j a d=>(o.block j uo (fun e=>d e.symm)).trans (m.block j a)
 have E:∀ j,j≠W.heap.size+3→(f.setCell ⟨W.heap.size+3,5,none⟩ v').heap[j]? =f.heap[j]? :=fun j a=>heap_setCell_other _ _ _ _ a
 have k:∀ j,j<l.heap.size→vs.ownBlock≠some j→j≠W.heap.size+3→(f.setCell ⟨W.heap.size+3,5,none⟩ v').heap[j]? =l.heap[j]? :=fun j N O P=>(E j P).trans (D j N O)
 have T:=(zi h.pg).1;have q:∀ j,j<W.heap.size+4→vs.ownBlock≠some j:=fun j a e=>by have:=p j e;omega
 have G:=(D _ T (q _ uo)).trans h.pg;refine⟨⟨(k _ ((zi h.gb).1) (q _ uo) uo).trans h.gb,(k _ ((zi h.nb).1) (q _ uo) uo).trans h.nb,(k _ ((zi h.rb).1) (q _ uo) uo).trans h.rb,?_,?_,fun b w e=>?_,h.go,h.gf,⟨fun j a=>by have:=h.dj.lt j a;omega,h.dj.no⟩,fun j a=>by have:=h.fl j a;omega,?_,?_,?_⟩,G⟩
 ·exact zx f _ 5 _ _ v' G
 ·rw[List.length_append,List.flatMap_append]
  have e1:[r].flatMap fc=fc r:=by simp
  rw[e1];refine⟨A.1,?_⟩;rcases A.2 with x|⟨g,y,z,rfl,U,X,Y⟩
  ·exact .inl x
  ·exact .inr ⟨g,y,z,rfl,U,(E g uo).trans X,Y⟩
 ·rcases M with x|x
  ·exact h.kn b (x▸w) e
  ·rw[x] at w
   cases w;rcases e with e|e
   ·have:=h.dj.lt _ e;omega
   ·have:=h.fl _ e;omega
 ·refine⟨?_,?_,?_,by omega,fun j a d=>?_⟩
  ·exact o.os.trans (m.os.trans h.bt.os)
  ·exact o.tape.trans (m.tape.trans h.bt.tape)
  ·exact o.output.trans (m.output.trans h.bt.output)
  ·rw[k j uo (q j uo) uo,h.bt.block j a d]
 ·refine K.keep _ F' l _ h.i uo fun j a=>k j (h.fl j a) (fun e=>h.kn j e (.inr a)) fun e=>C j uo uo (.inr a)
 ·refine L own' l _ h.r ⟨?_,?_,?_,by omega,fun j a d=>?_⟩
  ·exact o.os.trans m.os
  ·exact o.tape.trans m.tape
  ·exact o.output.trans m.output
  ·refine k j a (fun e=>?_) fun e=>?_
   ·rcases d with d|d
    ·have:=p j e;omega
    ·exact h.kn j e (.inl d)
   ·rcases d with d|d
    ·omega
    ·exact C j uo uo (.inl d)
theorem tB:(Tryz.prog.info? 49).map (fun i=>(i.zero,i.size,i.bytes))=some (some (.agg #[.int .u32 0,.string ⟨#[]⟩]),2,24):=uk
theorem zlo {w:World} {g:Nat} {r:Rf} {t:TypeId} {b:Nat × Nat} (h:w.heap[g]? =some (.cells #[.int .u32 (r.p:Int),.string r.t] t b)):Sl 2 w (some ⟨g,0,none⟩) 1 1 (fc r):=by
 refine⟨Nat.le_refl _,by decide,fun e=>(by cases e),rfl,fun _=>⟨g,0,rfl,(zi h).1,fun j u a=>?_⟩⟩;rw[zr h]
 match j,((List.getElem?_eq_some_iff.1 a).1),a with
 |0,_,a=>simpa [fc] using a
 |1,_,a=>simpa [fc] using a
theorem zpY (r:Rf):∀ u∈fc r,u.oneCell'=true:=by
 intro u hu;simp[fc] at hu;rcases hu with rfl|rfl<;>rfl
theorem Nd.ret {σ:Type} {B:Nat} {V:Nat→Prop} {Z:(Nat→Prop)→World→Prop} {pl:Pm σ} {I:σ→(Nat→Prop)→World→Prop} {k:Nat} {l:Array Value} {a F:Nat→Prop} {W:World} {n:Nv} {s:σ} {vs:Value} {rs:List Rf} {own' F':Nat→Prop} {g c:World} (h:Nd Z I k l a F W n s vs rs own' F' g)
  (m:∀ j,a j→j<W.heap.size) (o:∀ j,F j→j<W.heap.size) (w:B≤W.heap.size) (p:iB B V pl k l I) (q:∀ a W W',Z a W→Kv B V a W W'→Z a W') (d:bC (fun j=>j=W.heap.size+2) g c):
  (cu a own' W c∧cu F F' W c)∧Dj own' F' c∧bC (fun j=>a j∨F j) W c∧I s F' c∧Z own' c:=by
 have f:=h.box m o;have hs:=d.size;have t:=h.bt.size;refine⟨⟨fun j b=>(h.go j b).imp id fun x=>⟨by omega,Nat.lt_of_lt_of_le (h.dj.lt j b) hs⟩,fun j b=>(h.gf j b).imp id fun x=>⟨by omega,Nat.lt_of_lt_of_le (h.fl j b) hs⟩⟩,⟨fun j b=>Nat.lt_of_lt_of_le (h.dj.lt j b) hs,h.dj.no⟩,?_,?_,?_⟩
 ·refine⟨d.os.trans h.bt.os,d.tape.trans h.bt.tape,d.output.trans h.bt.output,by omega,fun j b u=>?_⟩
  rw[d.block j uo uo,h.bt.block j b u]
 ·exact p.keep _ F' g c h.i hs fun j b=>d.block j (h.fl j b) fun e=>f j uo uo (.inr b)
 ·exact q own' g c h.r (Kv.of_but d fun j _ e=>⟨.inr uo,fun v=>f j uo uo (.inl v)⟩)
theorem zjg {σ:Type} (l B:Nat) (V:Nat→Prop) (it:Nat→Sv × Int→Bool→Prop) (R:(Nat→Prop)→Nat→World→Prop) (Rx:(Nat→Prop)→World→Prop) (hA:Ask l B V it R Rx)
  (pl:Pm σ) (pf:Nat) (pb:Array Value) (I:σ→(Nat→Prop)→World→Prop) (hP:iB B V pl pf pb I) (G:Nat→Prop) (d:Nat) (ih:tp l B it R Rx pl pf pb I G d) (n:Nv) (ls:List Rw) (own F:Nat→Prop) (k:Nat) (s:σ) (W:World)
  (hR:R own k W) (hI:I s F W) (hD:Dj own F W) (hB:B≤W.heap.size) (hN:ci G (d+1) W n ls) (hG:∀ b,G b→b<W.heap.size∧¬own b∧¬F b) (hon:On ls) (ho:∀ r∈ls,fI r) (hmx:ls.length≤1000) (hlf:leaf ls=false) (hf:Fit it k (bW pl (d+1) s ls)):
  Calls Tryz.prog 116 #[gw pf pb,nv n,.func (.yield l) #[] #[]] W (GP R Rx I own F k (bW pl (d+1) s ls) W):=by
 obtain⟨n1,n2,n3,-,h5⟩:=hN;obtain⟨-,-,ks,h6,h7,h8,h9,h10⟩:=h5 hlf;obtain⟨-,⟨lv,hlv⟩⟩:=mY hlf;have hk2:=pW hon hlv;have hk4:=pV ls;obtain⟨W0,hW0⟩:∃ W0,((W.alloc (.cells #[.func (.func pf) #[] pb] 93)).alloc (ev n)).alloc (.cells #[.int .u32 0,.string ⟨#[]⟩] 49)=W0:=⟨_,rfl⟩;obtain⟨⟨g0,g1,g2⟩,b0,s0⟩:=iY _ _ _ _ hW0;obtain⟨W4,hW4⟩:∃ W4,W0.alloc (qu n (.slice none 0 0))=W4:=⟨_,rfl⟩;have b4:Below W0.heap.size W0 W4:=by rw[←hW4];exact bF _ _
 have s4:W4.heap.size=W.heap.size+4:=by rw[←hW4];simp;omega
 have g3:W4.heap[W.heap.size+3]? =some (qu n (.slice none 0 0)):=by rw[←hW4,←s0];exact zq W0 _
 have b04:Below W.heap.size W W4:=b0.trans (b4.mono b0.size)
 have HN0:Hid (Nd (fun o W=>R o (k+0) W) I pf pb own F W n s (.slice none 0 0) [] own F W4):=
  ⟨(b4.block _ uo).trans g0,(b4.block _ uo).trans g1,(b4.block _ uo).trans g2,g3,World.ownsRow_nil _ _ _ _,fun b hb=>by simp[Value.ownBlock] at hb,fun j hj=>.inl hj,fun j hj=>.inl hj,⟨fun j hj=>by have:=hD.lt j hj;omega,hD.no⟩,fun j hj=>by have:=hP.lt s F W hI j hj;omega,bC.of_below b04,hP.keep s F W W4 hI b04.size fun j hj=>b04.block j (hP.lt s F W hI j hj),hA.keep own k W W4 hR (Kv.of_below b04)⟩
 have hkf:=hf.kids hlf;have hlast:=fun h0=>hf.last (d:=d) hlf h0
 obtain⟨g,hg⟩:∃ g,bW pl (d+1) s ls=g:=⟨_,rfl⟩
 have HNd:Hid (g=if(cL (bW pl d) (cR ls) s []).1.e=0 then⟨(dS pl (cL (bW pl d) (cR ls) s []).1.s (gI ls (cL (bW pl d) (cR ls) s []).2)).s,(cL (bW pl d) (cR ls) s []).1.ys++(dS pl (cL (bW pl d) (cR ls) s []).1.s (gI ls (cL (bW pl d) (cR ls) s []).2)).ys,(dS pl (cL (bW pl d) (cR ls) s []).1.s (gI ls (cL (bW pl d) (cR ls) s []).2)).e,(dS pl (cL (bW pl d) (cR ls) s []).1.s (gI ls (cL (bW pl d) (cR ls) s []).2)).r⟩ else⟨(cL (bW pl d) (cR ls) s []).1.s,(cL (bW pl d) (cR ls) s []).1.ys,(cL (bW pl d) (cR ls) s []).1.e,zf⟩):=by
  refine(?_:g=_);rw[←hg,bW,if_neg (by rw[hlf];decide)]
 obtain⟨K,hK⟩:∃ K,cL (bW pl d) (cR ls) s []=K:=⟨_,rfl⟩;rw[hg];rw[hK] at HNd hkf hlast
 have HK0:Hid (K.1=⟨(cL (bW pl d) ((cR ls).drop 0) s []).1.s,[]++(cL (bW pl d) ((cR ls).drop 0) s []).1.ys,(cL (bW pl d) ((cR ls).drop 0) s []).1.e,(cL (bW pl d) ((cR ls).drop 0) s []).1.r⟩∧K.2=(cL (bW pl d) ((cR ls).drop 0) s []).2):=by
  rw[List.drop_zero,hK];exact⟨rfl,rfl⟩
 obtain⟨c0,c1,c2,c3,c4⟩:=nE g1;have cg:W0.cell? ⟨W.heap.size,0,none⟩=some (.func (.func pf) #[] pb):=by rw[zr g0];rfl
 obtain⟨ms,hms⟩:∃ ms,cR ls=ms:=⟨_,rfl⟩
 have HOnm:Hid (∀ m∈ms,On m∧(∀ r∈m,fI r)∧m.length≤1000):=fun m hm=>by
  rw[←hms] at hm;obtain⟨-,q,-,rfl⟩:=jj hm;exact⟨hon.part q,fun r hr=>ho r (kz.1 hr).1,Nat.le_trans (oP ls q) hmx⟩
 rw[hms] at HK0 h7 h10 hk2 hk4;have HCell:Hid (n.X=cx ls∧n.Y=cy ls∧n.L=cQ ls∧cx ls<4294967296∧cy ls<4294967296):=⟨n1,n2,n3,by have:=(mC hon).x31;omega,by have:=(mC hon).y31;omega⟩;have HIH:Hid (tp l B it R Rx pl pf pb I G d):=ih;have HGG:Hid (∀ b,G b→b<W.heap.size∧¬own b∧¬F b):=hG;have HKids:Hid (kH W n.ko n.kc ks∧jV G n.ko ks.length∧ks.length=ms.length∧∀ i (h1:i<ks.length) (h2:i<ms.length),ci G d W ks[i] ms[i]):=⟨h8,h9,h7,h10⟩;have HO:Hid (∀ j,own j→j<W.heap.size):=hD.lt;have HFl:Hid (∀ j,F j→j<W.heap.size):=hP.lt s F W hI;have HKf:Hid (Fit it k K.1):=hkf;have HLast:Hid _:=hlast;have HB0:Hid (Below W.heap.size W W0∧W0.heap.size=W.heap.size+3∧W4.heap.size=W.heap.size+4):=⟨b0,s0,s4⟩;obtain⟨nX,nY,nL,nro,nrn,nrc,nko,nkn,nkc⟩:=n;simp only at c0 c1 c2 c3 c4 h6;have q2:2≤nkn:=uo
 have q4:nkn≤4:=uo
 have q2i:(2:Int)≤(nkn:Int):=uo
 have q4i:(nkn:Int)≤4:=uo
 have q0:¬(nkn:Int)=0:=uo
 have HKn:Hid (nkn=ks.length):=h6;clear hR hI hD hf g0 g1 g2 g3 b0 b4 b04 s0 s4 hg hK hkf hlast n1 n2 n3 h5 h6 h7 h8 h9 h10 hk2 hk4 hG ho hon hlf hlv ih;have HW4:Hid (W0.alloc (.cells #[.int .i64 2,.int .u32 (nX:Int),.int .u32 (nY:Int),.int .i64 (nL:Int),.slice none 0 0,.slice none 0 0,.int .u32 0,.string ⟨#[]⟩] 155)=W4):=hW4;have b04:Below W0.heap.size W0 W4:=by rw[←hW4];exact bF _ _
 have c4':W4.cell? ⟨W.heap.size+1,4,none⟩=some (.slice nko nkn nkc):=(World.cell?_of_block (a:=⟨W.heap.size+1,4,none⟩) (b04.block (W.heap.size+1) (by have:=HB0.o.2.1;omega))).trans c4;clear hW4 b04;go_enter Tryz.func116,Tryz.ntmps116
 go_wp2_with (rw[HW4.o];clear HW4)
 go_loopw [30] (fun i wr=>∃ (j:Nat) (s':σ) (ys:List Sv) (rs:List Rf) (vs:Value) (own' F':Nat→Prop),(j≤nkn∧rs.length=j∧∀ r∈rs,r.p<4294967296)∧i=.int .i64 (j:Int)∧Nd (fun o W=>R o (k+ys.length) W) I pf pb own F W ⟨nX,nY,nL,nro,nrn,nrc,nko,nkn,nkc⟩ s' vs rs own' F' wr∧(K.1=⟨(cL (bW pl d) (ms.drop j) s' rs).1.s,ys++(cL (bW pl d) (ms.drop j) s' rs).1.ys,(cL (bW pl d) (ms.drop j) s' rs).1.e,(cL (bW pl d) (ms.drop j) s' rs).1.r⟩∧K.2=(cL (bW pl d) (ms.drop j) s' rs).2)) (fun i _=>nkn - bu i)
 case atStart=>exact⟨0,s,[],[],.slice none 0 0,own,F,⟨Nat.zero_le _,rfl,fun r hr=>by cases hr⟩,rfl,HN0.o,HK0.o⟩
 case round=>
  obtain⟨j,s',ys,rs,vs,own',F',⟨hj,hrl,hrs⟩,rfl,hN,hE⟩:=hrel;have HRl:Hid (rs.length=j):=hrl;clear hrl;by_cases hlt:j<nkn
  ·have hjk:j<ks.length:=by have:=HKn.o;omega
   have hjm:j<ms.length:=by have:=HKids.o.2.2.1;omega
   have hbk:∀ b,G b→wr.heap[b]? =W.heap[b]? :=fun b hb=>hN.bt.block b (HGG.o b hb).1 fun e=>by
    obtain⟨-,x1,x2⟩:=HGG.o b hb;rcases e with e|e
    ·exact x1 e
    ·exact x2 e
   obtain⟨b,off,hko,hbl,hc⟩:=HKids.o.1.node uo;have hGb:=HKids.o.2.1 uo b off hko;obtain⟨c0,c1,c2,c3,c4⟩:=(hc j hjk).same (hbk b hGb);have hnode:ci G d wr ks[j] ms[j]:=(HKids.o.2.2.2 j hjk hjm).same hN.bt.size fun b hb _=>hbk b hb
   obtain⟨m,hm⟩:∃ m,ms[j]=m:=⟨_,rfl⟩;have hdrop:ms.drop j=m::ms.drop (j+1):=by rw[←hm];exact List.drop_eq_getElem_cons hjm
   have hmm:m∈ms:=by rw[←hm];exact List.getElem_mem hjm
   rw[hm] at hnode;generalize ks[j]=nd at c0 c1 c2 c3 c4 hnode;rw[hdrop] at hE;have hfit:=(HKf.o.tail hE.1).kid;obtain⟨w1,hw1⟩:∃ w1,wr.alloc (ev nd)=w1:=⟨_,rfl⟩;have b1:Below wr.heap.size wr w1:=by rw[←hw1];exact bF _ _
   have hz1:w1.heap[wr.heap.size]? =some (ev nd):=by rw[←hw1];exact zq wr _
   obtain⟨h1,h2,h3⟩:=HOnm.o m hmm
   have HCall:Hid (Calls Tryz.prog 116 #[gw pf pb,nv nd,.func (.yield l) #[] #[]] w1 (GP R Rx I own' F' (k+ys.length) (bW pl d s' m) w1)):=
    HIH.o nd m own' F' (k+ys.length) s' w1 (hA.keep _ _ wr w1 hN.r (Kv.of_below b1)) (hP.keep _ _ wr w1 hN.i b1.size fun j hj=>b1.block j (hN.fl j hj)) ⟨fun j hj=>Nat.lt_of_lt_of_le (hN.dj.lt j hj) b1.size,hN.dj.no⟩ (Nat.le_trans hB (Nat.le_trans hN.bt.size b1.size)) (hnode.below b1 zn)
     (fun b hb=>⟨by have:=(HGG.o b hb).1;have:=hN.bt.size;have:=b1.size;omega,fun e=>by
      rcases hN.go b e with x|x
      ·exact(HGG.o b hb).2.1 x
      ·have:=(HGG.o b hb).1;omega,fun e=>by
      rcases hN.gf b e with x|x
      ·exact(HGG.o b hb).2.2 x
      ·have:=(HGG.o b hb).1;omega⟩) h1 h2 h3 hfit
   have hsm:=tT hP.small d s' m;obtain⟨z0,z1,z2,z3,z4⟩:=nE hz1
   have cg:w1.cell? ⟨W.heap.size,0,none⟩=some (.func (.func pf) #[] pb):=by
    rw[zr ((b1.block _ (zi hN.gb).1).trans hN.gb)];rfl
   have HN:Hid (Nd (fun o W=>R o (k+ys.length) W) I pf pb own F W ⟨nX,nY,nL,nro,nrn,nrc,nko,nkn,nkc⟩ s' vs rs own' F' wr):=hN;have HE:Hid _:=hE;have HB1:Hid (Below wr.heap.size wr w1):=b1;rw[oC] at HE;generalize bW pl d s' m=kg at HCall HE hsm;obtain⟨dX,dY,dL,dro,drn,drc,dko,dkn,dkc⟩:=nd;simp only at c0 c1 c2 c3 c4 z0 z1 z2 z3 z4 hw1;have qj:(j:Int)<(nkn:Int):=uo
   have qj0:(0:Int)≤(j:Int):=uo
   subst hko;clear hN hE hnode hfit b1 hz1 hbk hc hdrop hm h1 h2 h3;have HW1:Hid _:=hw1;clear hw1
   go_wp2_with (rw[HW1.o];clear HW1)
   refine Calls.mono HCall.o ?_;rintro e2 W1 ⟨rfl,own1,F1,⟨hg1,hg2⟩,hdj,hbt,hi1,hr1,hx1⟩;obtain⟨W2,hW2⟩:∃ W2,W1.alloc (.cells #[.int .u32 (kg.r.p:Int),.string kg.r.t] 49)=W2:=⟨_,rfl⟩;have b2:Below W1.heap.size W1 W2:=by rw[←hW2];exact bF _ _
   have hZ:FB W1.heap.size (kg.r.p:Int) kg.r.t W2:=by rw[←hW2];exact zq W1 _
   clear z0 z1 z2 z3 z4 c0 c1 c2 c3 c4 cg HCall c4';by_cases h0:kg.e=0
   ·have hN2:=HN.o.step (Z1:=fun o W=>R o (k+ys.length+kg.ys.length) W) HO.o HFl.o hP (fun o W W' h h'=>hA.keep o _ W W' h h') HB1.o hg1 hg2 hdj hbt hi1 (hr1 h0) b2
    obtain⟨vo,vc,hvs,-⟩:=dx hN2.kr;obtain⟨W3,hW3⟩:∃ W3,W2.alloc (.cells #[.int .u32 (kg.r.p:Int),.string kg.r.t] 49)=W3:=⟨_,rfl⟩;have b3:Below W2.heap.size W2 W3:=by rw[←hW3];exact bF _ _
    have hz3:W3.heap[W2.heap.size]? =some (.cells #[.int .u32 (kg.r.p:Int),.string kg.r.t] 49):=by rw[←hW3];exact zq W2 _
    obtain⟨v',W5,hrun,a1,a2,a3⟩:=iu 153 49 Tryz.underlying153 tB rfl ud ud W3 (W.heap.size+4) rs.length 1 vs (some ⟨W2.heap.size,0,none⟩) 1 (rs.flatMap fc) (fc kg.r)
     ⟨hN2.kr.1,hN2.kr.2.imp id fun⟨g,cap,cur,e1,x2,x3,x4⟩=>⟨g,cap,cur,e1,x2,(b3.block g (zi x3).1).trans x3,x4⟩⟩ (by have:=(zi hN2.pg).1;have:=b3.size;omega) (zlo hz3) (zpY _) (by have:=HRl.o;omega)
    obtain⟨hN6,p5⟩:=hN2.app HO.o HFl.o hB hP (fun o W W' h h'=>hA.keep o _ W W' h h') b3 a1 a2 a3;obtain⟨vo',vc',hvs',-⟩:=dx a1;have hs0:=HB0.o.2.1;have pc5:W2.cell? ⟨W0.heap.size,5,none⟩=some vs:=by rw[hs0,zr hN2.pg];rfl
    have pd5:W5.cell? ⟨W0.heap.size,5,none⟩=some vs:=by rw[hs0,zr p5];rfl
    have pf5:W5.frozen? ⟨W0.heap.size,5,none⟩=false:=by rw[hs0];exact frozen_of_row W5 _ _ _ _ p5
    obtain⟨v1,v2,v3,v4⟩:=hZ.facts
    have HN6:Hid (Nd (fun o W=>R o (k+(ys++kg.ys).length) W) I pf pb own F W ⟨nX,nY,nL,nro,nrn,nrc,some ⟨b,off,none⟩,nkn,nkc⟩ kg.s v' (rs++[kg.r]) own1 F1 (W5.setCell ⟨W0.heap.size,5,none⟩ v')):=by
     refine(?_:Nd _ _ _ _ _ _ _ _ _ _ _ _ _ _);rw[hs0,List.length_append,←Nat.add_assoc];exact hN6
    have h0':decide (kg.e=0)=true:=decide_eq_true h0;have qj1:(j:Int)+1≤5:=uo
    subst hvs hvs';clear hN2 hN6 p5 a1 a2 a3 b3 hz3 hZ b2 hg1 hg2 hdj hbt hi1 hr1 hx1 hs0
    go_wp2_with (first|(at_builtin;refine gT rfl 153 153 (.tmp 45) (.tmp 47) rfl (vs:=.slice vo rs.length vc) (vx:=.slice (some ⟨W2.heap.size,0,none⟩) 1 1) rfl rfl hrun ?_))
    refine⟨⟨j+1,kg.s,ys++kg.ys,rs++[kg.r],_,own1,F1,⟨by omega,by rw[List.length_append,HRl.o];rfl,fun r hr=>?_⟩,by congr 1,HN6.o,?_⟩,?_⟩
    ·rcases List.mem_append.1 hr with x|x
     ·exact hrs r x
     ·rw[List.mem_singleton.1 x];exact hsm
    ·have hx:=HE.o
     rw[if_pos h0] at hx;exact⟨by rw[hx.1,List.append_assoc],hx.2⟩
    ·simp[bu]
     omega
   ·have h0':decide (kg.e=0)=false:=decide_eq_false h0
    have hN2:=HN.o.step (Z1:=Rx) HO.o HFl.o hP hA.keepx HB1.o hg1 hg2 hdj hbt hi1 (hx1 h0) b2;obtain⟨x1,x2,x3,x4⟩:=hN2.rb.facts;obtain⟨hY3,b3⟩:=hN2.rb.put6 0 ⟨#[]⟩;obtain⟨W3,hW3⟩:∃ W3,(W2.setCell ⟨W.heap.size+2,0,none⟩ (.int .u32 0)).setCell ⟨W.heap.size+2,1,none⟩ (.string ⟨#[]⟩)=W3:=⟨_,rfl⟩;rw[hW3] at hY3 b3;have HY3:Hid (FB (W.heap.size+2) 0 ⟨#[]⟩ W3):=hY3;have HR3:Hid _:=hN2.ret HO.o HFl.o hB hP hA.keepx b3;clear hN2 hY3 b3 hZ b2 hg1 hg2 hdj hbt hi1 hr1 hx1;go_wp2_with fail;refine bodyPost_ret (fD rfl _ _ _ _ _ _ rfl rfl HY3.o) rfl ?_;have hx:=HE.o;rw[if_neg h0] at hx;have hgg:=HNd.o;rw[hx.1,if_neg h0] at hgg;obtain⟨r1,r2,r3,r4,r5⟩:=HR3.o;rw[hgg];exact⟨by rw[show decide ((⟨kg.s,ys++kg.ys,kg.e,zf⟩:Gr σ).e=0)=false from h0'];rfl,own1,F1,r1,r2,r3,r4,fun h=>absurd h h0,fun _=>r5⟩
  ·obtain rfl:j=nkn:=uo
   have hdr:ms.drop j=[]:=List.drop_eq_nil_of_le (by have:=HKids.o.2.2.1;have:=HKn.o;omega);rw[hdr] at hE;have hK1:K.1=⟨s',ys,0,zf⟩:=by rw[hE.1,show(cL (bW pl d) [] s' rs).1.ys=[] from rfl,List.append_nil];rfl
   have hK2:K.2=rs:=hE.2;have hfit:=HLast.o (by rw[hK1]);have hgg:=HNd.o;rw[hK1,hK2] at hfit hgg;rw[if_pos rfl] at hgg;simp only at hfit hgg;obtain⟨vo,vc,hvs,hsl⟩:=dx hN.kr
   have HCall:Hid (Calls Tryz.prog 159 #[gw pf pb,gv ⟨2,nX,nY,(nL:Int),none,0,0,vo,rs.length,vc,0,⟨#[]⟩⟩,.func (.yield l) #[] #[]] wr (GP R Rx I own' F' (k+ys.length) (dS pl s' (gI ls rs)) wr)):=
    qV l B V it R Rx hA pl pf pb I hP _ (gI ls rs) own' F' (k+ys.length) s' wr hN.r hN.i hN.dj (Nat.le_trans hB hN.bt.size) ⟨rfl,HCell.o.1,HCell.o.2.1,congrArg Int.ofNat HCell.o.2.2.1,rfl,rfl,⟨by rw[show nX=cx ls from HCell.o.1];exact HCell.o.2.2.2.1,by rw[show nY=cy ls from HCell.o.2.1];exact HCell.o.2.2.2.2,rfl,Sl.nil 4 wr,rfl,hsl⟩⟩ ⟨HCell.o.2.2.2.1,HCell.o.2.2.2.2,Nat.zero_lt_succ _,fun r hr=>(by cases hr),hrs⟩ hfit
   have hrz:=zic pl s' (gI ls rs);generalize dS pl s' (gI ls rs)=pg at HCall hgg hrz;have hs0:=HB0.o.2.1;obtain⟨p0,p1,p2,p3,p4,p5,p6,p7⟩:=pE (q:=⟨2,nX,nY,(nL:Int),none,0,0,vo,rs.length,vc,0,⟨#[]⟩⟩) (show wr.heap[W0.heap.size]? =some (cX ⟨2,nX,nY,(nL:Int),none,0,0,vo,rs.length,vc,0,⟨#[]⟩⟩) by rw[hs0,hN.pg,hvs];rfl);have cg:wr.cell? ⟨W.heap.size,0,none⟩=some (.func (.func pf) #[] pb):=by rw[zr hN.gb];rfl
   have HN:Hid (Nd (fun o W=>R o (k+ys.length) W) I pf pb own F W ⟨nX,nY,nL,nro,nrn,nrc,nko,j,nkc⟩ s' vs rs own' F' wr):=hN;have HGg:Hid (g=⟨pg.s,ys++pg.ys,pg.e,pg.r⟩):=hgg;have qj:¬(j:Int)<(j:Int):=uo
   simp only at p0 p1 p2 p3 p4 p5 p6 p7;clear hN hE hK1 hK2 hfit hgg hs0 hdr c4' hvs hsl hrz;go_wp2_with fail;refine Calls.mono HCall.o ?_;rintro e2 W1 ⟨rfl,own1,F1,⟨hg1,hg2⟩,hdj,hbt,hi1,hr1,hx1⟩;have hN1:=HN.o.step (Z1:=fun o W=>(pg.e=0→R o (k+ys.length+pg.ys.length) W)∧(pg.e≠0→Rx o W)) HO.o HFl.o hP (fun o W W' h h'=>⟨fun e=>hA.keep o _ W W' (h.1 e) h',fun e=>hA.keepx o W W' (h.2 e) h'⟩) (Below.refl _ _) hg1 hg2 hdj hbt hi1 ⟨hr1,hx1⟩ (Below.refl _ _);obtain⟨x1,x2,x3,x4⟩:=hN1.rb.facts;obtain⟨hY3,b3⟩:=hN1.rb.put6 (pg.r.p:Int) pg.r.t;obtain⟨W3,hW3⟩:∃ W3,(W1.setCell ⟨W.heap.size+2,0,none⟩ (.int .u32 (pg.r.p:Int))).setCell ⟨W.heap.size+2,1,none⟩ (.string pg.r.t)=W3:=⟨_,rfl⟩;rw[hW3] at hY3 b3;have HY3:Hid (FB (W.heap.size+2) (pg.r.p:Int) pg.r.t W3):=hY3;have HR3:Hid _:=hN1.ret HO.o HFl.o hB hP (fun o W W' h h'=>⟨fun e=>hA.keep o _ W W' (h.1 e) h',fun e=>hA.keepx o W W' (h.2 e) h'⟩) b3
   obtain⟨bb,hbb⟩:∃ bb,decide (pg.e=0)=bb:=⟨_,rfl⟩;rw[hbb];have HBb:Hid (decide (pg.e=0)=bb):=hbb;clear hN1 hY3 b3 hg1 hg2 hdj hbt hi1 hr1 hx1 hbb p0 p1 p2 p3 p4 p5 p6 p7 cg;go_wp2_with fail;refine bodyPost_ret (fD rfl _ _ _ _ _ _ rfl rfl HY3.o) rfl ?_;obtain⟨r1,r2,r3,r4,r5⟩:=HR3.o;rw[HGg.o];exact⟨by rw[show decide ((⟨pg.s,ys++pg.ys,pg.e,pg.r⟩:Gr σ).e=0)=bb from HBb.o];rfl,own1,F1,r1,r2,r3,r4,fun h=>by rw[show(⟨pg.s,ys++pg.ys,pg.e,pg.r⟩:Gr σ).ys.length=ys.length+pg.ys.length from List.length_append,←Nat.add_assoc];exact r5.1 h,r5.2⟩
theorem ziq {σ:Type} (l B:Nat) (V:Nat→Prop) (it:Nat→Sv × Int→Bool→Prop) (R:(Nat→Prop)→Nat→World→Prop) (Rx:(Nat→Prop)→World→Prop) (hA:Ask l B V it R Rx)
  (pl:Pm σ) (pf:Nat) (pb:Array Value) (I:σ→(Nat→Prop)→World→Prop) (hP:iB B V pl pf pb I) (G:Nat→Prop):∀ d,tp l B it R Rx pl pf pb I G d
 |0=>fun n ls own F k s W _ _ _ _ hN=>hN.elim
 |d+1=>fun n ls own F k s W hR hI hD hB hN hG hon ho hmx hf=>by
  cases hlf:leaf ls
  ·exact zjg l B V it R Rx hA pl pf pb I hP G d (ziq l B V it R Rx hA pl pf pb I hP G d) n ls own F k s W hR hI hD hB hN hG hon ho hmx hlf hf
  ·exact zln l B V it R Rx hA pl pf pb I hP G d n ls own F k s W hR hI hD hB hN hG ho hmx hlf hf
structure mL {σ:Type} (pl:Pm σ) (pf:Nat) (pb:Array Value) (I:σ→(Nat→Prop)→World→Prop):Prop where
 eg:∀ args w,(callFunc pf args).run Tryz.prog w=.ok (.enter pf args) w
 lt:∀ s F W,I s F W→∀ k,F k→k<W.heap.size
 keep:∀ s F W W',I s F W→W.heap.size≤W'.heap.size→(∀ k,F k→W'.heap[k]? =W.heap[k]?)→I s F W'
 small:∀ s t,(pl s t).1.1.p<4294967296
 call:∀ s F W t,t.size≤198→I s F W→Calls Tryz.prog pf (#[.string t]++pb) W fun e W'=>e=.returned (.tuple #[dR (pl s t).1.1,.int .i64 (pl s t).1.2])∧∃ F',I (pl s t).2 F' W'∧bC F W W'∧cu F F' W W'
def Ib {σ:Type} (B:Nat) (V:Nat→Prop) (I:σ→(Nat→Prop)→World→Prop):σ→(Nat→Prop)→World→Prop:=fun s F W=>I s F W∧(∀ k,F k→V k∨B≤k)∧B≤W.heap.size
theorem mL.plc {σ:Type} {pl:Pm σ} {pf:Nat} {pb:Array Value} {I:σ→(Nat→Prop)→World→Prop} (h:mL pl pf pb I) (B:Nat) (V:Nat→Prop):iB B V pl pf pb (Ib B V I) where
 eg:=h.eg
 lt:=fun s F W hI=>h.lt s F W hI.1
 fp:=fun s F W hI=>hI.2.1
 keep:=fun s F W W' hI hs hk=>⟨h.keep s F W W' hI.1 hs hk,hI.2.1,Nat.le_trans hI.2.2 hs⟩
 small:=h.small
 call:=fun s F W t ht hI=>(h.call s F W t ht hI.1).mono fun e W' ⟨he,F',h1,h2,h3⟩=>⟨he,F',⟨h1,fun k hk=>by
  rcases h3 k hk with x|x
  ·exact hI.2.1 k x
  ·exact .inr (Nat.le_trans hI.2.2 x.1),Nat.le_trans hI.2.2 h2.size⟩,h2,h3⟩
theorem zjh (pf:Nat) (pb:Array Value) (n:Nv) (W:World):
  Calls Tryz.prog 80 #[gw pf pb,nv n] W fun e W'=>e=.returned (.func (.func 115) #[] #[.pointer (some ⟨W.heap.size,0,none⟩),.pointer (some ⟨W.heap.size+1,0,none⟩)])∧W'=(W.alloc (.cells #[.func (.func pf) #[] pb] 93)).alloc (ev n):=by
 go_enter Tryz.func80,Tryz.ntmps80;go_wp2_with fail;go_ret;exact⟨rfl,rfl⟩
theorem zhq {σ:Type} (pf:Nat) (pb:Array Value) (n:Nv) (bG bN:Nat) (y:Value) (W:World) (Q:Ending→World→Prop) (h1:W.heap[bG]? =some (.cells #[.func (.func pf) #[] pb] 93 (0,0))) (h2:W.heap[bN]? =some (ev n))
  {R:(Nat→Prop)→Nat→World→Prop} {Rx:(Nat→Prop)→World→Prop} {I:σ→(Nat→Prop)→World→Prop} {own F:Nat→Prop} {k:Nat} {g:Gr σ} (hc:Calls Tryz.prog 116 #[gw pf pb,nv n,y] W (GP R Rx I own F k g W))
  (hQ:∀ W',(∃ own' F',(cu own own' W W'∧cu F F' W W')∧Dj own' F' W'∧bC (fun j=>own j∨F j) W W'∧I g.s F' W'∧(g.e=0→R own' (k+g.ys.length) W')∧(g.e≠0→Rx own' W'))→Q (.returned (.tuple #[])) W'):
  Calls Tryz.prog 115 #[y,.pointer (some ⟨bG,0,none⟩),.pointer (some ⟨bN,0,none⟩)] W Q:=by
 have cg:W.cell? ⟨bG,0,none⟩=some (.func (.func pf) #[] pb):=by rw[zr h1];rfl
 obtain⟨c0,c1,c2,c3,c4⟩:=nE h2;have HC:Hid (Calls Tryz.prog 116 #[gw pf pb,nv n,y] W (GP R Rx I own F k g W)):=hc;have HQ:Hid _:=hQ;clear h1 h2 hc hQ;go_enter Tryz.func115,Tryz.ntmps115;go_wp2_with fail;refine Calls.mono HC.o ?_;rintro e W1 ⟨rfl,hx⟩;have HX:Hid _:=HQ.o W1 hx;clear hx;go_wp2_with fail;exact bodyPost_end (results_none rfl _ _ _) rfl HX.o
attribute [local go_sem] Oper.semAt_some
theorem zo7 {F:Fence} {n:Nat} {P:Program} {o:Oper} {a:Act} {w:World} {K:Act→World→Prop} {Q:Exit→Act→World→Prop} (t u:TypeId) (s x:Operand) (ho:o.op=.call { callee:=.builtin .append,args:=#[s,x],argTypes:=#[t,u] })
  {vs vx v':Value} {w':World} (hs:a.eval s=vs) (hx:a.eval x=vx) (hrun:(Builtin.append_ #[t,u] o.type #[vs,vx]).run P w=.ok v' w') (hK:K (a.put o.dst v') w'):o.wpIn F n P a w K Q:=by
 unfold Oper.wpIn;refine⟨?_,?_⟩
 ·simp[Oper.about,ho,resolve,Target.leads]
 ·rw[Oper.semAt_plain F _ _ (by rw[ho];intro c hc;cases hc)]
  simp[execOp,ho,hs,hx,hrun,Result.andThen,resolve,invoke,builtin];exact hK
theorem zlp {F:Fence} {n:Nat} {P:Program} {ops:Array Oper} {rest:List Oper} {o:Oper} {a:Act} {w:World} {Q:Exit→Act→World→Prop} (hgd:o.guard=none) (t u:TypeId) (s x:Operand) (ho:o.op=.call { callee:=.builtin .append,args:=#[s,x],argTypes:=#[t,u] })
  {vs vx v':Value} {w':World} (hs:a.eval s=vs) (hx:a.eval x=vx) (hrun:(Builtin.append_ #[t,u] o.type #[vs,vx]).run P w=.ok v' w') (h:wpListIn F n P ops Q rest (a.put o.dst v') w'):wpListIn F n P ops Q (o::rest) a w:=
 wpListIn_plain hgd fun _ hK=>zo7 t u s x ho hs hx hrun (hK _ _ h)
theorem znN:(Tryz.prog.info? 51).map (fun i=>(i.zero,i.size,i.bytes))=some (some (.agg #[.string ⟨#[]⟩,.int .u32 0,.string ⟨#[]⟩]),3,40):=uk
theorem ic {w w':World} {base n:Nat} {v:Value} {t:TypeId} {k:Nat} {cs:List Value} (h:w.ownsRow base t k v n cs) (hk:∀ g,v.ownBlock=some g→g<w.heap.size→w'.heap[g]? =w.heap[g]?):w'.ownsRow base t k v n cs:=by
 refine⟨h.1,?_⟩;rcases h.2 with⟨h1,h2⟩|⟨g,cap',cur,h1,h2,h3,h4⟩
 ·exact .inl ⟨h1,h2⟩
 ·exact .inr ⟨g,cap',cur,h1,h2,(hk g (by rw[h1];rfl) (zi h3).1).trans h3,h4⟩
theorem gq {w:World} {base n:Nat} {v:Value} {t:TypeId} {k:Nat} {cs:List Value} (h:w.ownsRow base t k v n cs) {g:Nat} (hg:v.ownBlock=some g):base≤g∧g<w.heap.size:=by
 rcases h.2 with⟨h1,h2⟩|⟨g',cap',cur,h1,h2,h3,h4⟩
 ·subst h1
  simp[Value.ownBlock] at hg
 ·subst h1
  simp[Value.ownBlock] at hg;subst hg;exact⟨h2,(zi h3).1⟩
def cF (w:World) (o:Option Addr) (cap:Nat) (l:List Sv):Prop:=Sl 3 w o l.length cap (l.flatMap sc)
theorem znO (x:Sv):∀ u∈sc x,u.oneCell'=true:=by
 intro u hu;simp[sc] at hu;rcases hu with rfl|rfl|rfl<;>rfl
theorem znP {w:World} {g:Nat} {x:Sv} {t:TypeId} {fr:Nat × Nat} (h:w.heap[g]? =some (.cells #[.string x.t,.int .u32 (x.r.p:Int),.string x.r.t] t fr)):Sl 3 w (some ⟨g,0,none⟩) 1 1 (sc x):=by
 refine⟨Nat.le_refl _,by decide,fun e=>(by cases e),rfl,fun _=>⟨g,0,rfl,(zi h).1,fun j u hu=>?_⟩⟩;have hj:j<3:=(List.getElem?_eq_some_iff.1 hu).1;rw[zr h]
 match j,hj,hu with
 |0,_,hu=>simpa [sc] using hu
 |1,_,hu=>simpa [sc] using hu
 |2,_,hu=>simpa [sc] using hu
theorem zpZ {w:World} {g:Nat} {a b c:Value} {t:TypeId} {fr:Nat × Nat} (h:w.heap[g]? =some (.cells #[a,b,c] t fr)):w.cell? ⟨g,0,none⟩=some a∧w.cell? ⟨g,1,none⟩=some b∧w.cell? ⟨g,2,none⟩=some c:=
 ⟨by rw[zr h];rfl,by rw[zr h];rfl,by rw[zr h];rfl⟩
theorem pF {W:World} {g:Nat} {v v':Value} {t:TypeId} (h:W.heap[g]? =some (.cells #[v] t (0,0))):(W.setCell ⟨g,0,none⟩ v').heap[g]? =some (.cells #[v'] t (0,0)):=by
 have:=zx W g 0 _ _ v' h;simpa using this
structure GJ {σ:Type} (b:Nat) (g:Gr σ) (own:Nat→Prop) (k:Nat) (W:World):Prop where
 o:∃ v,W.heap[b]? =some (.cells #[v] 29 (0,0))∧W.ownsRow (b+2) 51 3 v k ((g.ys.take k).flatMap sc)∧∀ x,v.ownBlock=some x→own x
 wr:W.heap[b+1]? =some (.cells #[.int .i64 0] 30 (0,0))
 mine:own b∧own (b+1)
 le:k≤g.ys.length
structure GX (b:Nat) (e:Int) (own:Nat→Prop) (W:World):Prop where
 o:W.heap[b]? =some (.cells #[.slice none 0 0] 29 (0,0))
 wr:W.heap[b+1]? =some (.cells #[.int .i64 e] 30 (0,0))
 mine:own b∧own (b+1)
 ne:e≠0
theorem GJ.keep {σ:Type} {b:Nat} {g:Gr σ} {own:Nat→Prop} {k:Nat} {W W':World} (h:GJ b g own k W) (hk:∀ j,j<W.heap.size→own j→W'.heap[j]? =W.heap[j]?):GJ b g own k W':=by
 obtain⟨v,h1,h2,h3⟩:=h.o;exact⟨⟨v,(hk b (zi h1).1 h.mine.1).trans h1,ic h2 fun x hx hl=>hk x hl (h3 x hx),h3⟩,(hk _ (zi h.wr).1 h.mine.2).trans h.wr,h.mine,h.le⟩
theorem GX.keep {b:Nat} {e:Int} {own:Nat→Prop} {W W':World} (h:GX b e own W) (hk:∀ j,j<W.heap.size→own j→W'.heap[j]? =W.heap[j]?):GX b e own W':=
 ⟨(hk b (zi h.o).1 h.mine.1).trans h.o,(hk _ (zi h.wr).1 h.mine.2).trans h.wr,h.mine,h.ne⟩
theorem zlq (w:World) (a b c d:Obj) {W0:World} (h:(((w.alloc a).alloc b).alloc c).alloc d=W0):(W0.heap[w.heap.size]? =some a∧W0.heap[w.heap.size+1]? =some b∧W0.heap[w.heap.size+2]? =some c∧W0.heap[w.heap.size+3]? =some d)∧Below w.heap.size w W0∧W0.heap.size=w.heap.size+4:=by
 obtain⟨W1,hW1⟩:∃ W1,((w.alloc a).alloc b).alloc c=W1:=⟨_,rfl⟩;obtain⟨⟨g0,g1,g2⟩,b0,s0⟩:=iY _ _ _ _ hW1;rw[hW1] at h;have b1:=bF W1 d;have e1:=zq W1 d;rw[h] at b1 e1;refine⟨⟨(b1.block _ uo).trans g0,(b1.block _ uo).trans g1,(b1.block _ uo).trans g2,by rw[←s0];exact e1⟩,b0.trans (b1.mono b0.size),by rw[←h];simp;omega⟩
def GE {σ:Type} (I:σ→(Nat→Prop)→World→Prop) (s:σ) (F:Nat→Prop) (w:World) (L:Nat) (own:Nat→Prop) (W:World):Prop:=
 ∃ F',I s F' W∧Dj own F' W∧(∀ j,F' j→F j∨L+2≤j)∧(∀ j,F' j→j<W.heap.size)∧bC F w W
def dQ {σ:Type} (g:Gr σ):List Sv:=if g.e=0 then g.ys else[]
def Tl {σ:Type} (g:Gr σ) (k:Nat) (x:Sv × Int) (b:Bool):Prop:=(b=true∧g.ys[k]? =some x.1∧x.2=0)∨(b=false∧k=g.ys.length∧x=(zs,g.e)∧g.e≠0)
theorem zp0 {σ:Type} (g:Gr σ):Fit (Tl g) 0 g:=⟨fun i x hx=>.inl ⟨rfl,by rw[Nat.zero_add];exact hx,rfl⟩,fun h=>.inr ⟨rfl,Nat.zero_add _,rfl,h⟩⟩
theorem zlr:∀ args w,(callFunc 115 args).run Tryz.prog w=.ok (.enter 115 args) w:=enters_of Tryz.func115 uk rfl
theorem zgs {σ:Type} {pl:Pm σ} {pf:Nat} {pb:Array Value} {I:σ→(Nat→Prop)→World→Prop} (hP:mL pl pf pb I) (G:Nat→Prop) (d:Nat) (n:Nv) (ls:List Rw) (F:Nat→Prop) (s:σ) (w:World)
  (hI:I s F w) (hN:ci G d w n ls) (hG:∀ b,G b→b<w.heap.size∧¬F b) (hon:On ls) (ho:∀ r∈ls,fI r) (hmx:ls.length≤1000) (hys:(bW pl d s ls).ys.length≤5000):
  Calls Tryz.prog 48 #[gw pf pb,nv n] w fun e w'=>∃ o cap F',e=.returned (.tuple #[.slice o (dQ (bW pl d s ls)).length cap,.int .i64 (bW pl d s ls).e])∧cF w' o cap (dQ (bW pl d s ls))∧(∀ b off,o=some ⟨b,off,none⟩→w.heap.size≤b∧¬F' b)∧I (bW pl d s ls).s F' w'∧bC F w w'∧cu F F' w w':=by
 have HFl:Hid (∀ j,F j→j<w.heap.size):=hP.lt s F w hI;obtain⟨g,hg⟩:∃ g,bW pl d s ls=g:=⟨_,rfl⟩
 have HNode:Hid (∀ (l:Nat) (W:World) (R:(Nat→Prop)→Nat→World→Prop) (Rx:(Nat→Prop)→World→Prop) (own:Nat→Prop),Ask l W.heap.size F (Tl g) R Rx→R own 0 W→Below w.heap.size w W→(∀ j,own j→w.heap.size≤j∧j<W.heap.size)→(∀ j,F j→j<W.heap.size)→
   Calls Tryz.prog 116 #[gw pf pb,nv n,.func (.yield l) #[] #[]] W (GP R Rx (Ib W.heap.size F I) own F 0 g W)):=fun l W R Rx own hA hR hb hown hFW=>by
  have:=ziq l W.heap.size F (Tl g) R Rx hA pl pf pb (Ib W.heap.size F I) (hP.plc W.heap.size F) G d n ls own F 0 s W hR ⟨hP.keep s F w W hI hb.size fun j hj=>hb.block j (HFl.o j hj),fun k hk=>.inl hk,Nat.le_refl _⟩ ⟨fun j hj=>(hown j hj).2,fun j hj hf=>by have:=HFl.o j hf;have:=(hown j hj).1;omega⟩ zn (hN.below hb zn) (fun b hb'=>⟨by have:=(hG b hb').1;have:=hb.size;omega,fun e=>by have:=(hG b hb').1;have:=(hown b e).1;omega,(hG b hb').2⟩) hon ho hmx (by rw[hg];exact zp0 g);rw[hg] at this;exact this
 rw[hg] at hys ⊢;have HPk:Hid (∀ s F W W',I s F W→W.heap.size≤W'.heap.size→(∀ k,F k→W'.heap[k]? =W.heap[k]?)→I s F W'):=hP.keep;have HPl:Hid (∀ s F W,I s F W→∀ k,F k→k<W.heap.size):=hP.lt;have HYs:Hid (g.ys.length≤5000):=hys;obtain⟨PST,hPST⟩:∃ PST:Ending→World→Prop,(fun e w'=>∃ o cap F',e=.returned (.tuple #[.slice o (dQ g).length cap,.int .i64 g.e])∧cF w' o cap (dQ g)∧(∀ b off,o=some ⟨b,off,none⟩→w.heap.size≤b∧¬F' b)∧I g.s F' w'∧bC F w w'∧cu F F' w w')=PST:=⟨_,rfl⟩;rw[hPST];have HP:Hid (∀ e w',(∃ o cap F',e=.returned (.tuple #[.slice o (dQ g).length cap,.int .i64 g.e])∧cF w' o cap (dQ g)∧(∀ b off,o=some ⟨b,off,none⟩→w.heap.size≤b∧¬F' b)∧I g.s F' w'∧bC F w w'∧cu F F' w w')→PST e w'):=fun e w' h=>by rw[←hPST];exact h
 obtain⟨W4,hW4⟩:∃ W4,(((w.alloc (.cells #[.func (.func pf) #[] pb] 93)).alloc (ev n)).alloc (.cells #[.slice none 0 0] 29)).alloc (.cells #[.int .i64 0] 30)=W4:=⟨_,rfl⟩;obtain⟨⟨g0,g1,g2,g3⟩,b4,s4⟩:=zlq _ _ _ _ _ hW4;have HW4:Hid _:=hW4;have cg:W4.cell? ⟨w.heap.size,0,none⟩=some (.func (.func pf) #[] pb):=by rw[zr g0];rfl
 obtain⟨c0,c1,c2,c3,c4⟩:=nE g1;have HG4:Hid (W4.heap[w.heap.size+2]? =some (.cells #[.slice none 0 0] 29 (0,0))∧W4.heap[w.heap.size+3]? =some (.cells #[.int .i64 0] 30 (0,0))∧Below w.heap.size w W4∧W4.heap.size=w.heap.size+4):=⟨g2,g3,b4,s4⟩;clear hP hI hN hG hon ho hmx hys hg hPST hW4 g0 g1 g2 g3 b4 s4;refine(callsIn_wide (n:=5)).1 ?_;refine callsIn_of_wp_marks Tryz.func48 rfl trivial ?_ rfl;simp only[Tryz.ntmps48,eR,eS,eT,Nat.reduceAdd,Nat.reduceSub,eU,eV,eW,eX,eY,eZ];gi_wp2;refine(wpIn_wide (n:=5)).2 (wp_scope_straight ((wpIn_wide (n:=5)).1 ?_));gi_wp2;refine wpIn_label ?_;gi_wp2;rw[HW4.o];refine⟨trivial,callsIn_wide.2 ((zjh pf pb n W4).mono ?_)⟩;rintro e W6 ⟨rfl,hW6⟩;have q4:=HG4.o.2.2.2;have t1:=bF W4 (.cells #[.func (.func pf) #[] pb] 93);have t2:=bF (W4.alloc (.cells #[.func (.func pf) #[] pb] 93)) (ev n);have u1:=zq W4 (.cells #[.func (.func pf) #[] pb] 93)
 have u2:=zq (W4.alloc (.cells #[.func (.func pf) #[] pb] 93)) (ev n);have v1:(W4.alloc (.cells #[.func (.func pf) #[] pb] 93)).heap.size=W4.heap.size+1:=by simp
 rw[←hW6] at t2 u2;rw[v1] at t2 u2;have v2:W6.heap.size=W4.heap.size+2:=by rw[hW6];simp
 have t3:=t1.trans (t2.mono uo);have HS6:Hid (W6.heap.size=w.heap.size+6∧W4.heap.size=w.heap.size+4):=⟨by omega,q4⟩;have HB6:Hid (Below w.heap.size w W6):=HG4.o.2.2.1.trans (t3.mono uo);have HC6:Hid (W6.heap[W4.heap.size]? =some (.cells #[.func (.func pf) #[] pb] 93 (0,0))∧W6.heap[W4.heap.size+1]? =some (ev n)):=⟨(t2.block _ uo).trans u1,u2⟩
 have HJ0:Hid (GJ (w.heap.size+2) g (fun j=>j=w.heap.size+2∨j=w.heap.size+3) 0 W6):=
  ⟨⟨.slice none 0 0,(t3.block _ uo).trans HG4.o.1,World.ownsRow_nil _ _ _ _,fun x hx=>by simp[Value.ownBlock] at hx⟩,(t3.block _ uo).trans HG4.o.2.1,⟨.inl rfl,.inr rfl⟩,Nat.zero_le _⟩
 clear cg c0 c1 c2 c3 c4 t1 t2 u1 u2 v1 v2 t3 q4 hW6 HG4;gi_wp2
 refine zd4 uo (gf:=115) (lb:=#[.pointer (some ⟨W4.heap.size,0,none⟩),.pointer (some ⟨W4.heap.size+1,0,none⟩)]) rfl zlr (α:=Sv × Int) (if g.e=0 then g.ys.length else g.ys.length+1) (fun x=>#[sv x.1,.int .i64 x.2]) (fun _=>rfl)
  (Tl g) F ?hV (fun own k W=>GJ (w.heap.size+2) g own k W∧∀ j,own j→j=w.heap.size+2∨j=w.heap.size+3∨w.heap.size+8≤j) (fun own W=>GX (w.heap.size+2) g.e own W∧∀ j,own j→j=w.heap.size+2∨j=w.heap.size+3∨w.heap.size+8≤j) (.exit 0) ?hJ ?hJx
  (GE I g.s F w (w.heap.size+6)) ?hE (fun j=>j=w.heap.size+2∨j=w.heap.size+3) ?hown0 ?h0
  (fun x a' W=>∃ bx,w.heap.size+8≤bx∧bx<W.heap.size∧W.heap[bx]? =some (.cells #[.string x.1.t,.int .u32 (x.1.r.p:Int),.string x.1.r.t] 51 (0,0))∧a'={ tmps:=#[gw pf pb,nv n,.pointer (some ⟨w.heap.size,0,none⟩),.pointer (some ⟨w.heap.size+1,0,none⟩),.slice none 0 0,.int .i64 0,.pointer (some ⟨w.heap.size+2,0,none⟩),.pointer (some ⟨w.heap.size+3,0,none⟩),.pointer (some ⟨bx,0,none⟩),.int .i64 x.2,gw pf pb,nv n,.func (.func 115) #[] #[.pointer (some ⟨W4.heap.size,0,none⟩),.pointer (some ⟨W4.heap.size+1,0,none⟩)],sv x.1,.int .i64 x.2,undef,undef,undef,undef,undef,undef,undef,undef,undef],defers:=[] }) ?hA ?assign ?body ?iter ?done ?stop
 case hV=>intro j hj;have:=HFl.o j hj;have:=HS6.o;omega
 case hJ=>
  intro own k X Y h hb;have hs:=HS6.o;exact⟨h.1.keep fun j hj ho=>hb.block j hj (.inr ho),h.2⟩
 case hJx=>intro own X Y h hb;exact⟨h.1.keep fun j hj ho=>hb.block j hj (.inr ho),h.2⟩
 case hE=>
  rintro own own' X o' ⟨F',h1,h2,h3,h4,h5⟩ hl hsub;have hs:=HS6.o;have hnl:¬F' (W6.heap.size+1):=fun e=>h2.no _ hl e
  refine⟨F',HPk.o _ F' X _ h1 (by simp[World.putObj]) fun k hk=>World.putObj_heap_other fun e=>hnl (e▸hk),⟨fun j hj=>by have:=h2.lt j (hsub j hj);simpa [World.putObj] using this,fun j hj=>h2.no j (hsub j hj)⟩,h3,fun j hj=>by have:=h4 j hj;simpa [World.putObj] using this,?_⟩;exact⟨h5.os,h5.tape,h5.output,by have:=h5.size;simpa [World.putObj] using this,fun j hj hn=>by rw[World.putObj_heap_other uo];exact h5.block j hj hn⟩
 case hown0=>intro j hj;have:=HS6.o;omega
 case h0=>exact⟨HJ0.o,fun j hj=>by omega⟩
 case hA=>
  rintro x a' X l' o' ⟨bx,h1,h2,h3,h4⟩ hl1 hl2;have hs:=HS6.o;exact⟨bx,h1,by simpa [World.putObj] using h2,(World.putObj_heap_other uo).trans h3,h4⟩
 case assign=>
  intro l' own k x b W' K' hit hJk hsz hK';obtain⟨⟨xt,⟨xp,xs⟩⟩,xe⟩:=x;have HZ:Hid (w.heap.size+8≤W'.heap.size):=by refine(?_:w.heap.size+8≤W'.heap.size);have:=HS6.o;omega
  have HK':Hid _:=hK';clear hit hJk hsz hK';gi_wp2;exact HK'.o _ _ (bF W' _) ⟨W'.heap.size,HZ.o,by simp,zq W' _,rfl⟩
 case iter=>
  intro l' W5 hl' hB5 hs5 R' Rx' ow how hR' hRx' hY' h0';have hs:=HS6.o;have hb5:Below w.heap.size w W5:=HB6.o.trans (hB5.mono uo);refine zhq pf pb n W4.heap.size (W4.heap.size+1) _ W5 _ ((hB5.block _ uo).trans HC6.o.1) ((hB5.block _ uo).trans HC6.o.2) (HNode.o l' W5 R' Rx' ow ⟨hR',hRx',fun own k x b W a1 a2 a3=>hY' own k x b W a1 a2 a3⟩ h0' hb5 (fun j hj=>?_) (fun j hj=>by have:=HFl.o j hj;omega)) ?_
  ·rcases(how j).1 hj with(rfl|rfl)|rfl<;>omega
  ·rintro W' ⟨own',F',⟨hg1,hg2⟩,hdj,hbt,hi,hr,hx⟩
   refine⟨⟨_,rfl⟩,own',⟨F',hi.1,hdj,fun j hj=>?_,HPl.o _ F' W' hi.1,⟨hbt.os.trans hb5.os,hbt.tape.trans hb5.tape,hbt.output.trans hb5.output,Nat.le_trans hb5.size hbt.size,fun j hj hn=>?_⟩⟩,?_⟩
   ·rcases hi.2.1 j hj with a|a
    ·exact .inl a
    ·exact .inr uo
   ·rw[hbt.block j (by have:=hb5.size;omega) (fun e=>?_),hb5.block j hj]
    rcases e with e|e
    ·rcases(how j).1 e with(a|a)|a<;>omega
    ·exact hn e
   ·by_cases h0:g.e=0
    ·rw[if_pos h0]
     have:=hr h0;rw[Nat.zero_add] at this;exact .inl this
    ·exact .inr (hx h0)
 case body=>
  rintro l' own k x b a' W' hit ⟨hJ,hon⟩ ⟨bx,h1,h2,h3,rfl⟩ hsz hol;have HOn:Hid (∀ j,own j→j=w.heap.size+2∨j=w.heap.size+3∨w.heap.size+8≤j):=hon;have HJe:Hid (GJ (w.heap.size+2) g own k W'):=hJ;obtain⟨u,o1,o2,o3⟩:=hJ.o;have o4:=hJ.wr;rcases hit with⟨rfl,hy,he⟩|⟨rfl,hk,hx,hne⟩
  ·obtain⟨⟨xt,⟨xp,xs⟩⟩,xe⟩:=x
   simp only at hy he h3;subst he;have hk:k<g.ys.length:=(List.getElem?_eq_some_iff.1 hy).1;have hbn:=bF W' (.cells #[.string xt,.int .u32 (xp:Int),.string xs] 51);have c0:W'.cell? ⟨w.heap.size+2,0,none⟩=some u:=by rw[zr o1];rfl
   have l0:w.heap.size+2<W'.heap.size:=(zi o1).1;obtain⟨s0,s1,s2⟩:=zpZ h3
   obtain⟨v',W2,hrun,a1,a2,a3⟩:=iu 29 51 Tryz.underlying29 znN rfl ud ud (W'.alloc (.cells #[.string xt,.int .u32 (xp:Int),.string xs] 51)) (w.heap.size+2+2) k 1 u (some ⟨W'.heap.size,0,none⟩) 1
    ((g.ys.take k).flatMap sc) (sc ⟨xt,⟨xp,xs⟩⟩) (ic o2 fun b _ hb=>hbn.block b hb) (by simp;omega) (znP (zq W' _)) (znO _) (by have:=HYs.o;omega)
   have HRU:Hid _:=hrun;have nb:∀ b,b≤w.heap.size+3→u.ownBlock≠some b:=fun b hb e=>by have:=(gq o2 e).1;omega
   have hB2:W2.heap[w.heap.size+2]? =some (.cells #[u] 29 (0,0)):=(a2.block _ (by simp;omega) (fun e=>nb _ uo e.symm)).trans ((hbn.block _ l0).trans o1);have z0:W2.frozen? ⟨w.heap.size+2,0,none⟩=false:=frozen_of_row W2 _ 0 _ _ hB2;have l2:w.heap.size+2<W2.heap.size:=(zi hB2).1;have d0:W2.cell? ⟨w.heap.size+2,0,none⟩=some u:=by rw[zr hB2];rfl
   have l3:w.heap.size+3<W'.heap.size:=(zi o4).1
   have HFIN:Hid (∃ own',cu own own' W' (W2.setCell ⟨w.heap.size+2,0,none⟩ v')∧bC own W' (W2.setCell ⟨w.heap.size+2,0,none⟩ v')∧GJ (w.heap.size+2) g own' (k+1) (W2.setCell ⟨w.heap.size+2,0,none⟩ v')∧∀ j,own' j→j=w.heap.size+2∨j=w.heap.size+3∨w.heap.size+8≤j):=by
    have hs2:=a2.size;have hsa:(W'.alloc (.cells #[.string xt,.int .u32 (xp:Int),.string xs] 51)).heap.size=W'.heap.size+1:=by simp
    have hss:(W2.setCell ⟨w.heap.size+2,0,none⟩ v').heap.size=W2.heap.size:=by simp[World.setCell]
    have hob:∀ {b:Nat},v'.ownBlock=some b→w.heap.size+4≤b∧b<W2.heap.size:=fun hb=>gq a1 hb
    have hst:∀ j,j≠w.heap.size+2→(W2.setCell ⟨w.heap.size+2,0,none⟩ v').heap[j]? =W2.heap[j]? :=fun j hj=>Below.heap_setCell _ _ _ _ (fun e=>hj e)
    have hbk:∀ j,j<W'.heap.size→j≠w.heap.size+2→u.ownBlock≠some j→(W2.setCell ⟨w.heap.size+2,0,none⟩ v').heap[j]? =W'.heap[j]? :=fun j hj h1' h2'=>(hst j h1').trans ((a2.block j uo (fun e=>h2' e.symm)).trans (hbn.block j hj))
    have hgr:∀ j,v'.ownBlock=some j→own j∨(W'.heap.size≤j∧j<W2.heap.size):=fun j hj=>by
     rcases a3 with a3|a3
     ·exact .inl (o3 j (by rw[←a3];exact hj))
     ·have:=hob hj
      rw[a3] at hj;cases hj;exact .inr ⟨by omega,by omega⟩
    refine⟨fun j=>own j∨v'.ownBlock=some j,fun j hj=>?_,⟨a2.os.trans hbn.os,a2.tape.trans hbn.tape,a2.output.trans hbn.output,by omega,fun j hj hn=>hbk j hj (fun e=>hn (e▸HJe.o.mine.1)) fun e=>hn (o3 j e)⟩,⟨⟨v',pF hB2,?_,fun b hb=>.inr hb⟩,?_,⟨.inl HJe.o.mine.1,.inl HJe.o.mine.2⟩,hk⟩,fun j hj=>?_⟩
    ·rcases hj with hj|hj
     ·exact .inl hj
     ·rcases hgr j hj with x|x
      ·exact .inl x
      ·exact .inr ⟨x.1,by omega⟩
    ·have e1:(g.ys.take (k+1)).flatMap sc=(g.ys.take k).flatMap sc++sc ⟨xt,⟨xp,xs⟩⟩:=by
      rw[List.take_add_one,hy,List.flatMap_append];simp
     rw[e1];exact ic a1 fun b hb _=>hst b (fun e=>by have:=(hob hb).1;omega)
    ·exact(hbk _ l3 uo (nb _ uo)).trans o4
    ·rcases hj with hj|hj
     ·exact HOn.o j hj
     ·rcases hgr j hj with x|x
      ·exact HOn.o j x
      ·have:=HS6.o;exact .inr (.inr uo)
   obtain⟨o,cap,rfl,-⟩:=dx o2;obtain⟨o',cap',rfl,-⟩:=dx a1;clear hJ hon hsz hol hbn o1 o2 o3 o4 nb hB2 a1 a2 a3 hk hy h3 hrun h1 l3
   gi_wp2_with (gi_at_builtin;refine zlp rfl 29 29 (.tmp 18) (.tmp 20) rfl (vs:=.slice o k cap) (vx:=.slice (some ⟨W'.heap.size,0,none⟩) 1 1) rfl rfl HRU.o ?_)
   exact⟨rfl,HFIN.o⟩
  ·subst hx
   simp only at h3;have c0:W'.cell? ⟨w.heap.size+2,0,none⟩=some u:=by rw[zr o1];rfl
   have l0:w.heap.size+2<W'.heap.size:=(zi o1).1;have l3:w.heap.size+3<W'.heap.size:=(zi o4).1;have z0:W'.frozen? ⟨w.heap.size+2,0,none⟩=false:=frozen_of_row W' _ 0 _ _ o1;obtain⟨W2,hW2⟩:∃ W2,W'.setCell ⟨w.heap.size+2,0,none⟩ (.slice none 0 0)=W2:=⟨_,rfl⟩;have e2:W2.heap[w.heap.size+2]? =some (.cells #[.slice none 0 0] 29 (0,0)):=by rw[←hW2];exact pF o1
   have e3:∀ j,j≠w.heap.size+2→W2.heap[j]? =W'.heap[j]? :=fun j hj=>by rw[←hW2];exact Below.heap_setCell _ _ _ _ (fun e=>hj e)
   have s2:W2.heap.size=W'.heap.size:=by rw[←hW2];simp[World.setCell]
   have e4:=(e3 _ uo).trans o4;have z1:W2.frozen? ⟨w.heap.size+3,0,none⟩=false:=frozen_of_row W2 _ 0 _ _ e4;have d1:W2.cell? ⟨w.heap.size+3,0,none⟩=some (.int .i64 0):=by rw[zr e4];rfl
   have l4:w.heap.size+3<W2.heap.size:=uo
   have HFIN:Hid (cu own own W' (W2.setCell ⟨w.heap.size+3,0,none⟩ (.int .i64 g.e))∧bC own W' (W2.setCell ⟨w.heap.size+3,0,none⟩ (.int .i64 g.e))∧GX (w.heap.size+2) g.e own (W2.setCell ⟨w.heap.size+3,0,none⟩ (.int .i64 g.e))∧∀ j,own j→j=w.heap.size+2∨j=w.heap.size+3∨w.heap.size+8≤j):=by
    have hst:∀ j,j≠w.heap.size+3→(W2.setCell ⟨w.heap.size+3,0,none⟩ (.int .i64 g.e)).heap[j]? =W2.heap[j]? :=fun j hj=>Below.heap_setCell _ _ _ _ (fun e=>hj e)
    refine⟨cu.refl _ _ _,⟨by rw[←hW2];rfl,by rw[←hW2];rfl,by rw[←hW2];rfl,by simp[World.setCell];omega,fun j hj hn=>?_⟩,⟨(hst _ uo).trans e2,pF e4,HJe.o.mine,hne⟩,HOn.o⟩;rw[hst j fun e=>hn (e▸HJe.o.mine.2),e3 j fun e=>hn (e▸HJe.o.mine.1)]
   have HW2:Hid _:=hW2;have hne':(g.e==0)=false:=by simpa using hne
   clear hJ hon hsz hol o1 o2 o3 o4 hk h3 h1 hW2 e2 e3 s2 e4
   gi_wp2_with (first|(rw[HW2.o];clear HW2))
   exact⟨rfl,rfl,own,HFIN.o⟩
 case done=>
  rintro D own W' hDe hno ⟨hJ,hon⟩ ⟨F',f1,f2,f3,f4,f5⟩ hdf;have HDf:Hid (W'.heap[D]? =some (.deferred (some []))):=hdf
  have h0:g.e=0:=by
   by_cases h0:g.e=0
   ·exact h0
   ·have:=hJ.le
    rw[if_neg h0] at this;omega
  obtain⟨v,o1,o2,o3⟩:=hJ.o;rw[if_pos h0,List.take_length] at o2;have o4:=hJ.wr;have c0:W'.cell? ⟨w.heap.size+2,0,none⟩=some v:=by rw[zr o1];rfl
  have c1:W'.cell? ⟨w.heap.size+3,0,none⟩=some (.int .i64 0):=by rw[zr o4];rfl
  have l0:w.heap.size+2<W'.heap.size:=(zi o1).1;have l1:w.heap.size+3<W'.heap.size:=(zi o4).1;obtain⟨o,cap,hv,hsl⟩:=dx o2;subst hv;have hL:dQ g=g.ys:=if_pos h0;have HD:Hid (D=w.heap.size+6):=by refine(?_:D=w.heap.size+6);rw[hDe];exact HS6.o.1
  have HFin:Hid (∀ W'' e,bC (fun j=>j∈[D]) W'.drew W''→e=.returned (.tuple #[.slice o g.ys.length cap,.int .i64 0])→PST e W''):=by
   intro W'' e hb he;subst he
   have nD:∀ j,F' j→j≠D:=fun j hj e=>by
    have:=HD.o;rcases f3 j hj with x|x
    ·have:=HFl.o j x;omega
    ·omega
   refine HP.o _ W'' ⟨o,cap,F',by rw[hL,h0],?_,fun b off e=>?_,HPk.o _ F' W' W'' f1 hb.size fun j hj=>hb.block j (f4 j hj) fun e=>nD j hj (by simpa using e),?_,fun j hj=>?_⟩
   ·rw[hL]
    refine hsl.same hb.size fun b off e hl=>hb.block b hl fun e'=>?_
    have e1:b=D:=by simpa using e'
    exact hno (e1▸o3 b (by rw[e];rfl))
   ·have h1:=o3 b (by rw[e];rfl)
    refine⟨?_,f2.no b h1⟩;rcases hon b h1 with x|x|x<;>omega
   ·exact⟨hb.os.trans f5.os,hb.tape.trans f5.tape,hb.output.trans f5.output,Nat.le_trans f5.size hb.size,fun j hj hn=>by
     rw[←f5.block j hj hn]
     exact hb.block j (Nat.lt_of_lt_of_le hj f5.size) fun e=>by
      have e1:j=D:=by simpa using e
      have:=HD.o;omega⟩
   ·rcases f3 j hj with x|x
    ·exact .inl x
    ·exact .inr ⟨by omega,Nat.lt_of_lt_of_le (f4 j hj) hb.size⟩
  clear hdf hDe hno hJ hon f1 f2 f3 f4 f5 o1 o2 o3 o4 hsl hL h0;gi_wp2
  gi_region
  gi_wp2;rw[Exit.noGoto_ret];refine lY (fun W=>results_tmp2 rfl _ _ _) [D] W'.drew us (fun E hE=>by simp at hE;subst hE;exact HDf.o) fun W'' hb=>HFin.o W'' _ hb rfl
 case stop=>
  rintro D own W' hDe hno ⟨hJ,hon⟩ ⟨F',f1,f2,f3,f4,f5⟩ hdf;have HDf:Hid (W'.heap[D]? =some (.deferred (some []))):=hdf;have c0:W'.cell? ⟨w.heap.size+2,0,none⟩=some (.slice none 0 0):=by rw[zr hJ.o];rfl
  have c1:W'.cell? ⟨w.heap.size+3,0,none⟩=some (.int .i64 g.e):=by rw[zr hJ.wr];rfl
  have l0:w.heap.size+2<W'.heap.size:=(zi hJ.o).1;have l1:w.heap.size+3<W'.heap.size:=(zi hJ.wr).1;have hL:dQ g=[]:=if_neg hJ.ne;have HD:Hid (D=w.heap.size+6):=by refine(?_:D=w.heap.size+6);rw[hDe];exact HS6.o.1
  have HFin:Hid (∀ W'' e,bC (fun j=>j∈[D]) W'.drew W''→e=.returned (.tuple #[.slice none 0 0,.int .i64 g.e])→PST e W''):=by
   intro W'' e hb he;subst he
   have nD:∀ j,F' j→j≠D:=fun j hj e=>by
    have:=HD.o;rcases f3 j hj with x|x
    ·have:=HFl.o j x;omega
    ·omega
   refine HP.o _ W'' ⟨none,0,F',by rw[hL];rfl,?_,fun b off e=>(by cases e),HPk.o _ F' W' W'' f1 hb.size fun j hj=>hb.block j (f4 j hj) fun e=>nD j hj (by simpa using e),?_,fun j hj=>?_⟩
   ·rw[hL]
    exact Sl.nil 3 W''
   ·exact⟨hb.os.trans f5.os,hb.tape.trans f5.tape,hb.output.trans f5.output,Nat.le_trans f5.size hb.size,fun j hj hn=>by
     rw[←f5.block j hj hn]
     exact hb.block j (Nat.lt_of_lt_of_le hj f5.size) fun e=>by
      have e1:j=D:=by simpa using e
      have:=HD.o;omega⟩
   ·rcases f3 j hj with x|x
    ·exact .inl x
    ·exact .inr ⟨by omega,Nat.lt_of_lt_of_le (f4 j hj) hb.size⟩
  clear hdf hDe hno hJ hon f1 f2 f3 f4 f5 hL;gi_wp2
  gi_region
  gi_wp2;rw[Exit.noGoto_ret];refine lY (fun W=>results_tmp2 rfl _ _ _) [D] W'.drew us (fun E hE=>by simp at hE;subst hE;exact HDf.o) fun W'' hb=>HFin.o W'' _ hb rfl
end Rz
end Go.Proofs.YtokfnghckpgjmaaGreatDoor
