/- Save's own way to give refs: a page is written to the vault; its place is kept in mind. -/
import Derived.Test.YtokfnghckpgjmaaGreatDoorPPo
import Derived.Test.YtokfnghckpgjmaaGreatDoorPPk
import Derived.Test.YtokfnghckpgjmaaGreatDoorQHgn
import Derived.Test.YtokfnghckpgjmaaGreatDoorQVM
set_option maxRecDepth 100000
set_option maxHeartbeats 4000000
namespace Go.Proofs.YtokfnghckpgjmaaGreatDoor
namespace Rz
open Go.RowKit Go.Lib Go.Shelf
open Rc Rq
open Rw (Rf dR fc eO Pp dt eG fj encS dM pz gv Pg rpp pB cX)
open Rv (FB fD gQ bP Vs Pl gh fs eC cf take iC dl)
open Rd (pt St Ok)
structure Sx where
 v:Vs
 t:St
 tk:List Nat
def dc (Kt:Nat→Int):Pm Sx:=fun s x=>
 match eC s.v.tk s.t.n with
 |some p=>((⟨p%4294967296,Rs.cW (dl Kt s.v p x)⟩,0),⟨take (iC s.v) p,Rd.dw s.t p (dl Kt s.v p x),s.tk++[p]⟩)
 |none=>((zf,110),s)
def RgB (A:Pl) (k:Nat):Prop:=∃ off,A.o=some ⟨k,off,none⟩
abbrev uv (x:Nat):Value:=.int .u32 (x:Int)
def fQ (A:Pl) (k:Nat):Prop:=RgB A k∨k=3∨k=2
theorem mM {w j:World} {A:Pl} {v:Vs} {t:St} (h:bP w A v t) (hs:w.heap.size≤j.heap.size) (a:∀ k,k<w.heap.size→A.has k∨fQ A k→j.heap[k]? =w.heap[k]?):bP j A v t:=by
 have c:=h.lt;obtain⟨m,d⟩:=h.self;refine⟨⟨(a _ c.1 (.inl (.inl rfl))).trans m,⟨d.1.1,d.1.2.1,d.1.2.2.1,fun l=>?_⟩,d.2⟩,h.map.same (a _ c.2.1 (.inl (.inr (.inl rfl)))),h.dev.same (a _ c.2.2.1 (.inl (.inr (.inr (.inl rfl))))) (a _ c.2.2.2.1 (.inl (.inr (.inr (.inr (.inl rfl)))))) (a _ c.2.2.2.2 (.inl (.inr (.inr (.inr (.inr rfl)))))),h.gt,h.gd,h.td,h.no1,h.no2⟩;obtain⟨b,f,e,g,n⟩:=d.1.2.2.2 l;exact⟨b,f,e,Nat.lt_of_lt_of_le g hs,fun i o=>(n i o).same (a b g (.inr (.inl ⟨f,e⟩)))⟩
theorem kU {Kt:Nat→Int} {w w':World} (h:Rs.Tb Kt w) (hk:∀ k,k<w.heap.size→(k=3∨k=2)→w'.heap[k]? =w.heap[k]?):Rs.Tb Kt w':=by
 obtain⟨⟨a,b,h1⟩,c,d,h2⟩:=h;exact⟨⟨a,b,(hk _ (zi h1).1 (.inl rfl)).trans h1⟩,c,d,(hk _ (zi h2).1 (.inr rfl)).trans h2⟩
theorem nB {l:List Rk.Ky} {g:Int} (h:Rk.cq l g=0):l≠[]:=fun e=>by
 subst e;unfold Rk.cq at h;split at h
 ·rename_i h1
  simp[Rk.fi] at h
 ·exact absurd h ud
theorem tw {w:World} {A:Pl} {v:Vs} {t:St} (h:bP w A v t) (hv:gh v) {k:Nat} (hu:fQ A k):¬A.has k:=by
 rcases hu with⟨off,hu⟩|rfl|rfl
 ·exact h.self.2.2 k off hu (nB hv.f)
 ·exact h.no1
 ·exact h.no2
structure lJ (Kt:Nat→Int) (A:Pl) (c:Nat→Option Obj) (b1 b2:Nat) (s:Sx) (F:Nat→Prop) (W:World):Prop where
 vlt:bP W A s.v s.t
 vok:gh s.v
 hon:fs s.t
 tb:Rs.Tb Kt W
 room:s.v.seals+cf s.v.tk s.t.n≤100000∧s.tk.length≤s.v.seals
 bx1:W.heap[b1]? =some (.cells #[pt A.g] 24 (0,0))
 row:∃ tv,W.heap[b2]? =some (.cells #[tv] 90 (0,0))∧W.ownsRow (b2+1) 41 1 tv s.tk.length (s.tk.map uv)∧∀ g,tv.ownBlock=some g→F g∧¬A.has g∧¬fQ A g
 nb:¬A.has b1∧¬A.has b2∧¬fQ A b1∧¬fQ A b2∧b1<b2
 lt:∀ k,F k→k<W.heap.size
 on:∀ k,A.has k∨fQ A k∨k=b1∨k=b2→F k
 und:∀ k,fQ A k→W.heap[k]? =c k
theorem lJ.keep {Kt:Nat→Int} {A:Pl} {c:Nat→Option Obj} {b d:Nat} {s:Sx} {F:Nat→Prop} {W W':World} (h:lJ Kt A c b d s F W) (hs:W.heap.size≤W'.heap.size) (a:∀ k,F k→W'.heap[k]? =W.heap[k]?):lJ Kt A c b d s F W':=by
 obtain⟨l,m,n,i⟩:=h.row
 exact⟨mM h.vlt hs fun k _ e=>a k (h.on k (e.imp id .inl)),h.vok,h.hon,kU h.tb fun k _ e=>a k (h.on k (.inr (.inl (.inr e)))),h.room,(a b (h.on b (.inr (.inr (.inl rfl))))).trans h.bx1,
  ⟨l,(a d (h.on d (.inr (.inr (.inr rfl))))).trans m,ic n fun g o _=>a g (i g o).1,i⟩,h.nb,fun k f=>Nat.lt_of_lt_of_le (h.lt k f) hs,h.on,fun k j=>(a k (h.on k (.inr (.inl j)))).trans (h.und k j)⟩
theorem zis {tk:Nat→Option Unit} {n p:Nat} (h:eC tk n=some p):p<n∧(tk p).isSome=false∧∀ q,q<p→(tk q).isSome=true:=by
 unfold Rv.eC at h;rw[List.find?_range_eq_some] at h;obtain⟨f,a,b⟩:=h;refine⟨by simpa using a,by cases c:tk p<;>simp_all,fun q d=>?_⟩;have:=b q d;cases c:tk q<;>simp_all
theorem rA {tk:Nat→Option Unit} {p:Nat} (b:(tk p).isSome=false):∀ n,cf (Rv.cE tk p (some ())) n+(if p<n then 1 else 0)=cf tk n
 |0=>rfl
 |n+1=>by
  have d:=rA b n;rw[Rv.ny,Rv.ny];by_cases c:n=p
  ·subst c
   have e1:(Rv.cE tk n (some ()) n).isSome=true:=by simp[Rv.cE]
   rw[if_pos e1,b];simp only[Bool.false_eq_true,if_false,Nat.lt_irrefl,Nat.lt_succ_self,if_true] at d ⊢;omega
  ·have e1:Rv.cE tk p (some ()) n=tk n:=by simp[Rv.cE,c]
   rw[e1];have e:(p<n+1)↔(p<n):=uo
   simp only[e];split<;>omega
theorem zqo:(Tryz.prog.info? 41).map (fun i=>(i.zero,i.size,i.bytes))=some (some (.int .u32 0),1,4):=uk
theorem zqp {w:World} {g:Nat} {x:Nat} {t:TypeId} {b:Nat × Nat} (h:w.heap[g]? =some (.cells #[uv x] t b)):Sl 1 w (some ⟨g,0,none⟩) 1 1 [uv x]:=by
 refine⟨Nat.le_refl _,by decide,fun e=>(by cases e),rfl,fun _=>⟨g,0,rfl,(zi h).1,fun j u a=>?_⟩⟩;rw[zr h]
 match j,((List.getElem?_eq_some_iff.1 a).1),a with
 |0,_,a=>simpa using a
theorem znf:∀ args w,(callFunc 46 args).run Tryz.prog w=.ok (.enter 46 args) w:=enters_of Tryz.func46 uk rfl
theorem zjm (Kt:Nat→Int) (A:Pl) (c:Nat→Option Obj) (j q:Nat) (s:Sx) (F:Nat→Prop) (W:World) (x:ByteArray) (y:x.size≤198) (h:lJ Kt A c j q s F W) (z:eC s.v.tk s.t.n=none):
  Calls Tryz.prog 46 #[.string x,.pointer (some ⟨j,0,none⟩),.pointer (some ⟨q,0,none⟩)] W fun e W'=>e=.returned (.tuple #[dR zf,.int .i64 110])∧Below W.heap.size W W':=by
 obtain⟨b,d⟩:∃ b,W.alloc (.cells #[.int .u32 0,.string ⟨#[]⟩] 49)=b:=⟨_,rfl⟩;have k:Below W.heap.size W b:=by rw[←d];exact bF _ _
 have C:Hid _:=(Rv.zjd A s.v s.t x y b (h.vlt.below k zn) h.hon.ok z);have H:b.cell? ⟨j,0,none⟩=some (pt A.g):=by rw[zr ((k.block _ (zi h.bx1).1).trans h.bx1)];rfl
 have f:Hid _:=d;have r:Hid _:=k;have l:Hid (FB W.heap.size 0 ⟨#[]⟩ b):=(by rw[←d];exact gQ W);go_enter Tryz.func46,Tryz.ntmps46
 go_wp2_with (first|(rw[f.o];clear f))
 refine Calls.mono C.o ?_;rintro e u ⟨rfl,a⟩;obtain⟨I,J,K,L⟩:=(l.o.grow a).facts;have M:=(zi (l.o.grow a)).1;obtain⟨D,m⟩:=(l.o.grow a).set 0 ⟨#[]⟩;have i:=bF ((u.setCell ⟨W.heap.size,0,none⟩ (.int .u32 0)).setCell ⟨W.heap.size,1,none⟩ (.string ⟨#[]⟩)) (.cells #[.int .u32 0,.string ⟨#[]⟩] 49);have o:Hid _:=FB.grow D i
 have p:Hid (Below W.heap.size W (((u.setCell ⟨W.heap.size,0,none⟩ (.int .u32 0)).setCell ⟨W.heap.size,1,none⟩ (.string ⟨#[]⟩)).alloc (.cells #[.int .u32 0,.string ⟨#[]⟩] 49))):=by
  refine(?_:Below _ _ _);have w:=(r.o.trans (a.mono r.o.size)).trans (m _ zn);exact w.trans (i.mono w.size)
 go_wp2_with fail;refine bodyPost_ret (fD rfl _ _ _ _ _ _ rfl rfl o.o) rfl ?_;exact⟨rfl,p.o⟩
theorem zlx (Kt:Nat→Int) (A:Pl) (c:Nat→Option Obj) (X q:Nat) (s:Sx) (F:Nat→Prop) (W:World) (x:ByteArray) (hx:x.size≤198) (h:lJ Kt A c X q s F W) (p:Nat) (K:eC s.v.tk s.t.n=some p):
  Calls Tryz.prog 46 #[.string x,.pointer (some ⟨X,0,none⟩),.pointer (some ⟨q,0,none⟩)] W fun e W'=>e=.returned (.tuple #[dR ⟨p%4294967296,Rs.cW (dl Kt s.v p x)⟩,.int .i64 0])∧∃ F',lJ Kt A c X q ⟨take (iC s.v) p,Rd.dw s.t p (dl Kt s.v p x),s.tk++[p]⟩ F' W'∧bC F W W'∧cu F F' W W':=by
 obtain⟨p1,p2,p3⟩:=zis K;have n1:=h.hon.ok.n1;have am:p%4294967296=p:=Nat.mod_eq_of_lt uo;rw[am];have az:=h.room.1;have aA:=h.room.2;have an:=rA p2 s.t.n;rw[if_pos p1] at an;have aa:=h.vok.next uo p;have ao:=(Rs.mz Kt s.v.ring (Rv.hd s.v p) (h.vok.fits uo) x (h.vok.se p hx)).1;obtain⟨-,ab,ac,-⟩:=Rv.qz h.hon p1 ao;obtain⟨W0,a4⟩:∃ W0,W.alloc (.cells #[.int .u32 0,.string ⟨#[]⟩] 49)=W0:=⟨_,rfl⟩;have b0:Below W.heap.size W W0:=by rw[←a4];exact bF _ _
 have y0:FB W.heap.size 0 ⟨#[]⟩ W0:=by rw[←a4];exact gQ W
 have h0:=h.keep b0.size fun k f=>b0.block k (h.lt k f)
 have hC:=Rv.zgx Kt A s.v s.t x hx p W0 h0.vlt h.vok h.hon h0.tb K p1;obtain⟨T,hT⟩:∃ T,Rs.cW (dl Kt s.v p x)=T:=⟨_,rfl⟩;obtain⟨D,hD⟩:∃ D,Rd.dw s.t p (dl Kt s.v p x)=D:=⟨_,rfl⟩;rw[hT,hD] at hC;rw[hD] at ab ac;rw[hT,hD];obtain⟨V,hV⟩:∃ V,take (iC s.v) p=V:=⟨_,rfl⟩;have a5:V.seals=s.v.seals+1∧V.tk=Rv.cE s.v.tk p (some ()):=by rw[←hV];exact⟨rfl,rfl⟩
 rw[hV] at hC aa ⊢;have HC:Hid _:=hC;have c1:W0.cell? ⟨X,0,none⟩=some (pt A.g):=by rw[zr h0.bx1];rfl
 have ad:Hid _:=a4;have HB:Hid _:=b0;have HY:Hid _:=y0;have b:Hid _:=h
 have a6:Hid (V.seals+cf V.tk D.n≤100000∧s.tk.length+1≤V.seals∧gh V∧fs D):=by
  refine⟨?_,?_,aa,ab⟩
  ·rw[a5.1,a5.2,ac];omega
  ·rw[a5.1];omega
 have C:Hid _:=h.lt;go_enter Tryz.func46,Tryz.ntmps46
 go_wp2_with (first|(rw[ad.o];clear ad))
 refine Calls.mono HC.o ?_;rintro e o ⟨rfl,O,r⟩;have lW:W.heap.size<o.heap.size:=by have:=(zi HY.o).1;have:=r.size;omega
 have a7:∀ k,A.has k→k<W.heap.size:=fun k f=>C.o k (b.o.on k (.inl f))
 have y1:=(r.block _ (zi HY.o).1 fun e=>by have:=a7 _ e;omega).trans HY.o;have u:∀ k,k<W.heap.size→¬A.has k→o.heap[k]? =W.heap[k]? :=fun k f hn=>(r.block k (by have:=HB.o.size;omega) hn).trans (HB.o.block k f)
 obtain⟨tv,t1,t2,t3⟩:=b.o.row;have ae:=(zi t1).1;have P:=(u q ae b.o.nb.2.1).trans t1;have a8:=ic t2 fun g i K=>u g K (t3 g i).2.1
 obtain⟨y,H⟩:∃ y,o.alloc (.cells #[.int .u32 (p:Int),.string T] 49)=y:=⟨_,rfl⟩;have Q:Below o.heap.size o y:=by rw[←H];exact bF _ _
 have s2:y.heap.size=o.heap.size+1:=by rw[←H];simp
 have z2:FB o.heap.size (p:Int) T y:=by rw[←H];exact zq o _
 obtain⟨W3,R⟩:∃ W3,y.alloc (.cells #[uv p] 41)=W3:=⟨_,rfl⟩;have S:Below y.heap.size y W3:=by rw[←R];exact bF _ _
 have z3:W3.heap[y.heap.size]? =some (.cells #[uv p] 41 (0,0)):=by rw[←R];exact zq y _
 have d:=Q.trans (S.mono Q.size)
 obtain⟨E,L,Y,a1,Z,a3⟩:=iu 90 41 Tryz.underlying90 zqo rfl ud ud W3 (q+1) s.tk.length 1 tv (some ⟨y.heap.size,0,none⟩) 1 (s.tk.map uv) [uv p]
  (ic a8 fun g _ K=>d.block g K) (by have:=d.size;omega) (zqp z3) (by simp[Value.oneCell']) (by have:=a6.o.1;have:=a6.o.2.1;omega)
 have I:∀ {g:Nat},tv.ownBlock=some g→q+1≤g∧g<W.heap.size:=fun i=>gq t2 i
 have e4:=(Z.block _ (by have:=d.size;omega) (fun e=>by have:=(I e.symm).1;omega)).trans ((d.block _ uo).trans P);obtain⟨G,m⟩:∃ G,L.setCell ⟨q,0,none⟩ E=G:=⟨_,rfl⟩;have s5:G.heap.size=L.heap.size:=by rw[←m];simp[World.setCell]
 have k5:∀ j,j≠q→G.heap[j]? =L.heap[j]? :=fun j J=>by rw[←m];exact Below.heap_setCell _ _ _ _ (fun e=>J e)
 have e5:G.heap[q]? =some (.cells #[E] 90 (0,0)):=by rw[←m];exact pF e4
 have ap:=Z.size;have aq:=d.size;have w:∀ j,j<o.heap.size→j≠q→tv.ownBlock≠some j→G.heap[j]? =o.heap[j]? :=fun j J hn ar=>(k5 j hn).trans ((Z.block j uo (fun e=>ar e.symm)).trans (d.block j J))
 have y5:FB W.heap.size 0 ⟨#[]⟩ G:=(w _ lW uo (fun e=>by have:=(I e).2;omega)).trans y1;have z5:FB o.heap.size (p:Int) T G:=(k5 o.heap.size uo).trans ((Z.block o.heap.size (by have:=S.size;omega) (fun e=>by have:=(I e.symm).2;omega)).trans ((S.block _ uo).trans z2));obtain⟨y6,-⟩:=y5.set (p:Int) T;obtain⟨-,a⟩:=y5.put6 (p:Int) T;obtain⟨W6,a9⟩:∃ W6,(G.setCell ⟨W.heap.size,0,none⟩ (.int .u32 (p:Int))).setCell ⟨W.heap.size,1,none⟩ (.string T)=W6:=⟨_,rfl⟩;rw[a9] at y6 a;have au:=a.size;have z:∀ {g:Nat},E.ownBlock=some g→q+1≤g∧g<L.heap.size:=fun i=>gq a1 i
 have U:∀ g,E.ownBlock=some g→(F g∧¬A.has g∧¬fQ A g)∨(W3.heap.size≤g∧g<L.heap.size):=fun g i=>by
  rcases a3 with a3|a3
  ·exact .inl (t3 g (by rw[←a3];exact i))
  ·have:=(z i).2
   rw[a3] at i;cases i;exact .inr ⟨Nat.le_refl _,this⟩
 have af:∀ k,fQ A k→k<W.heap.size∧¬A.has k→W6.heap[k]? =o.heap[k]? :=fun k M ⟨f,_⟩=>by
  rw[a.block k uo uo];refine w k uo (fun e=>b.o.nb.2.2.2.1 (e▸M)) fun e=>(t3 k e).2.2 M
 have a0:∀ g,W.heap.size≤g→¬A.has g∧¬fQ A g:=fun g i=>⟨fun e=>by have:=a7 g e;omega,fun e=>by have:=C.o g (b.o.on g (.inr (.inl e)));omega⟩
 have B:∀ k,k<W.heap.size→A.has k∨fQ A k→W6.heap[k]? =o.heap[k]? :=fun k f N=>by
  rw[a.block k uo uo];rcases N with N|N
  ·exact w k uo (fun e=>b.o.nb.2.1 (e▸N)) fun e=>(t3 k e).2.1 N
  ·exact w k uo (fun e=>b.o.nb.2.2.2.1 (e▸N)) fun e=>(t3 k e).2.2 N
 have av:Hid (∃ F',lJ Kt A c X q ⟨V,D,s.tk++[p]⟩ F' W6∧bC F W W6∧cu F F' W W6):=by
  obtain⟨r1,r2,r3,r4⟩:=a6.o
  have ag:bC F W W6:=⟨a.os.trans ((by rw[←m];rfl:G.os=L.os).trans (Z.os.trans (d.os.trans (r.os.trans HB.o.os)))),a.tape.trans ((by rw[←m];rfl:G.tape=L.tape).trans (Z.tape.trans (d.tape.trans (r.tape.trans HB.o.tape)))),a.output.trans ((by rw[←m];rfl:G.output=L.output).trans (Z.output.trans (d.output.trans (r.output.trans HB.o.output)))),by omega,fun j J hn=>by
   rw[a.block j uo uo,w j uo (fun e=>hn (b.o.on j (.inr (.inr (.inr e))))) (fun e=>hn (t3 j e).1),u j J fun e=>hn (b.o.on j (.inl e))]⟩
  refine⟨fun j=>F j∨E.ownBlock=some j,⟨mM O uo fun k f N=>?_,r3,r4,?_,⟨r1,by simpa using r2⟩,?_,⟨E,?_,?_,fun g i=>?_⟩,b.o.nb,fun k f=>?_,fun k f=>.inl (b.o.on k f),fun k M=>?_⟩,ag,fun j J=>?_⟩
  ·exact B k (C.o k (b.o.on k (N.imp id .inl))) N
  ·refine kU b.o.tb fun k f M=>?_
   rw[B k f (.inr (.inr M)),u k f fun e=>?_];rcases M with rfl|rfl
   ·exact O.no1 e
   ·exact O.no2 e
  ·have l:=(zi b.o.bx1).1
   rw[a.block X uo uo,w X uo (by have:=b.o.nb.2.2.2.2;omega) (fun e=>by have:=(I e).1;have:=b.o.nb.2.2.2.2;omega),u X l b.o.nb.1];exact b.o.bx1
  ·exact(a.block q uo uo).trans e5
  ·rw[List.map_append,List.length_append]
   exact ic a1 fun g i K=>(a.block g uo (fun e=>by
    rcases U g i with x|x
    ·have:=C.o g x.1;omega
    ·omega)).trans (k5 g (by have:=(z i).1;omega))
  ·refine⟨.inr i,?_⟩
   rcases U g i with x|x
   ·exact x.2
   ·exact a0 g uo
  ·rcases f with f|f
   ·have:=C.o k f;omega
   ·have:=(z f).2;omega
  ·have K:=C.o k (b.o.on k (.inr (.inl M)))
   rw[B k K (.inr M),u k K (tw b.o.vlt b.o.vok M)];exact b.o.und k M
  ·rcases J with J|J
   ·exact .inl J
   ·rcases U j J with x|x
    ·exact .inl x.1
    ·exact .inr ⟨by omega,by omega⟩
 obtain⟨f1,f2,f3,f4⟩:=y5.facts;obtain⟨g1,g2,g3,g4⟩:=z5.facts;have t22:=(Q.block _ (zi P).1).trans P;have q1:y.cell? ⟨q,0,none⟩=some tv:=by rw[zr t22];rfl
 obtain⟨m1,m2,m3,m4⟩:=z2.facts
 have q3:L.cell? ⟨q,0,none⟩=some tv:=by rw[zr e4];rfl
 have q4:=frozen_of_row L _ 0 _ _ e4;have ah:Hid _:=H;have ai:Hid _:=R;have aj:Hid _:=m;have aw:Hid _:=a9;have ax:Hid _:=y6;obtain⟨ro,tc,ay,-⟩:=dx a8;obtain⟨aB,aC,ak,-⟩:=dx a1;subst ay ak;have al:Hid _:=Y;clear O r lW a7 y1 u t1 t2 t3 P a8 H Q s2 z2 R S z3 d Y a1 Z a3 I e4 m s5 k5 e5 ap aq w y5 z5 y6 a a9 au z U af a0 B ae HC c1 
 go_wp2_with (first|(rw[ah.o];clear ah)|(rw[ai.o];clear ai)|(rw[aj.o];clear aj)|(at_builtin;refine gT rfl 90 90 (.tmp 16) (.tmp 19) rfl (vs:=.slice ro s.tk.length tc) (vx:=.slice (some ⟨y.heap.size,0,none⟩) 1 1) rfl rfl al.o ?_))
 rw[aw.o];refine bodyPost_ret (fD rfl _ _ _ _ _ _ rfl rfl ax.o) rfl ?_;exact⟨rfl,av.o⟩
theorem zgy (Kt:Nat→Int) (A:Pl) (c:Nat→Option Obj) (a b:Nat):mL (dc Kt) 46 #[.pointer (some ⟨a,0,none⟩),.pointer (some ⟨b,0,none⟩)] (lJ Kt A c a b) where
 eg:=znf
 lt:=fun s F W h=>h.lt
 keep:=fun s F W l h hs f=>h.keep hs f
 small:=fun s t=>by
  unfold dc;split
  ·exact Nat.mod_lt _ ud
  ·exact Nat.zero_lt_succ _
 call:=fun s F W t o h=>by
  cases d:eC s.v.tk s.t.n with
  |none=>
   refine um (zjm Kt A c a b s F W t o h d) fun l i=>?_;have e1:dc Kt s t=((zf,110),s):=by unfold dc;rw[d]
   rw[e1];exact⟨rfl,F,h.keep i.size fun k f=>i.block k (h.lt k f),bC.of_below i,cu.refl _ _ _⟩
  |some p=>
   refine um (zlx Kt A c a b s F W t o h p d) fun l q=>?_;have e1:dc Kt s t=((⟨p%4294967296,Rs.cW (dl Kt s.v p t)⟩,0),⟨take (iC s.v) p,Rd.dw s.t p (dl Kt s.v p t),s.tk++[p]⟩):=by unfold dc;rw[d]
   rw[e1];exact⟨rfl,q⟩
theorem tz (A:Pl) (v:Vs) (t:St) (w:World) (f:bP w A v t) (h:Ok t):Calls Tryz.prog 45 #[pt A.g] w fun e b=>e=.returned (.bool false)∧bP b A v t∧Rd.bC A.has w b:=by
 have j:Rv.oB v t 0=2:=by unfold Rv.oB Rv.kT;rw[if_neg us]
 have k:Hid _:=(Rv.zna A v t 0 ud w f h);go_enter Tryz.func45,Tryz.ntmps45;go_wp2_with fail;refine Calls.mono k.o ?_;rintro e d ⟨rfl,l,m⟩;have n:Hid (bP d A v t∧Rd.bC A.has w d):=⟨l,m⟩;go_wp2_with fail;go_ret;exact⟨rfl,n.o⟩
theorem zly (A:Pl) (v:Vs) (t:St) (l:List Nat) (o:Option Addr) (f:Nat) (w:World) (I:l.length≤100000) (k:bP w A v t) (R:Ok t) (hs:Sl 1 w o l.length f (l.map uv)) (r:∀ b c,o=some ⟨b,c,none⟩→0<l.length→¬A.has b)
  (s:∀ i (S:i<l.length),2≤l[i]∧l[i]<t.n∧(((l.take i).foldl Rv.give v).tk l[i]).isSome=true):
  Calls Tryz.prog 49 #[pt A.g,.slice o l.length f] w fun e J=>e=.returned (.tuple #[])∧bP J A (l.foldl Rv.give v) t∧Rd.bC A.has w J:=by
 obtain⟨n,K⟩:∃ n,l.length=n:=⟨_,rfl⟩;have L:Hid _:=K;have u:Hid (Sl 1 w o l.length f (l.map uv)∧(∀ b c,o=some ⟨b,c,none⟩→0<l.length→¬A.has b)∧Ok t):=⟨hs,r,R⟩;have x:Hid _:=s;have T:Hid _:=k
 rw[K];go_enter Tryz.func49,Tryz.ntmps49;go_wp2_with fail
 go_loopw [8] (fun y wr=>∃ i,i≤n∧y=.int .i64 (i:Int)∧bP wr A ((l.take i).foldl Rv.give v) t∧Rd.bC A.has w wr) (fun y _=>n - bu y)
 case atStart=>exact⟨0,Nat.zero_le _,rfl,T.o,Rd.bC.refl _ _⟩
 case round=>
  obtain⟨i,S,rfl,k,z⟩:=hrel;by_cases B:i<n
  ·have h:i<l.length:=by rw[L.o];exact B
   obtain⟨M,N,O⟩:=x.o i h;obtain⟨p,C⟩:∃ p,l[i]=p:=⟨_,rfl⟩;rw[C] at M N O;obtain⟨b,c,P,D,U⟩:=u.o.1.2.2.2.2 uo;have X:=(World.cell?_of_block (a:=⟨b,c+i,none⟩) (z.block b D (u.o.2.1 b c P uo))).trans (U i (uv p) (by rw[List.getElem?_map,List.getElem?_eq_getElem h,C];rfl));have E:Hid (∀ _:True,_):=fun _=>Rv.zo2 A ((l.take i).foldl Rv.give v) t p wr k u.o.2.2 M N O
   have V:Hid _:=z
   have W:Hid (Rv.give ((l.take i).foldl Rv.give v) p=(l.take (i+1)).foldl Rv.give v):=by
    refine(?_:_=_);rw[List.take_add_one,List.getElem?_eq_getElem h,C];simp
   subst P;rw[W.o] at E;generalize (l.take i).foldl Rv.give v=Z at k E;go_wp2_with fail;refine Calls.mono (E.o trivial) ?_;rintro e Q ⟨rfl,F,G⟩;have H:Hid (bP Q A ((l.take (i+1)).foldl Rv.give v) t∧Rd.bC A.has w Q):=⟨F,V.o.trans G⟩;go_wp2_with fail;refine⟨⟨i+1,by omega,by go_num,H.o⟩,?_⟩;simp[bu];omega
  ·obtain rfl:i=n:=uo
   have H:Hid (bP wr A (l.foldl Rv.give v) t∧Rd.bC A.has w wr):=by
    rw[show l.take i=l from by rw[←L.o];exact List.take_length] at k;exact⟨k,z⟩
   go_wp2_with fail;refine bodyPost_end (results_none rfl _ _ _) rfl ?_;exact⟨rfl,H.o⟩
theorem rB {G:Nat→Prop}:∀ {d:Nat} {w:World} {n:Nv} {l:List Rw},ci G d w n l→ci (fun b=>G b∧b<w.heap.size) d w n l
 |0,_,_,_,h=>h.elim
 |d+1,w,n,l,⟨x,y,z,A,B⟩=>by
  have j:∀ {k:Nat} {o:Option Addr} {m q:Nat} {cs:List Value},Sl k w o m q cs→jV G o m→jV (fun b=>G b∧b<w.heap.size) o m:=fun hs p t b r e=>by
   obtain⟨F,u,v,s,-⟩:=hs.2.2.2.2 t;rw[e] at v;cases v;exact⟨p t b r e,s⟩
  refine⟨x,y,z,fun p=>?_,fun p=>?_⟩
  ·obtain⟨a,b,c,d,e⟩:=A p
   exact⟨a,b,j b c,d,e⟩
  ·obtain⟨a,b,C,c,d,e,f,g⟩:=B p
   exact⟨a,b,C,c,d,e,j e f,fun i D E=>rB (g i D E)⟩
structure Qs {σ:Type} (pl:Pm σ) (Q:σ→List Sv→σ→Prop):Prop where
 nil:∀ s,Q s [] s
 cat:∀ s a s1 b s2,Q s a s1→Q s1 b s2→Q s (a++b) s2
 one:∀ s t,t.size≤198→(pl s t).1.2=0→Q s [⟨t,(pl s t).1.1⟩] (pl s t).2
 no:∀ s t,t.size≤198→(pl s t).1.2≠0→Q s [] (pl s t).2
theorem zlz {σ:Type} {pl:Pm σ} {Q:σ→List Sv→σ→Prop} (h:Qs pl Q) (s:σ) (P:Pp):Q s (dS pl s P).ys (dS pl s P).s:=by
 unfold dS;split
 ·split
  ·rename_i h0;exact h.one s _ (ov P) h0
  ·rename_i h0;exact h.no s _ (ov P) h0
 ·exact h.nil s
theorem zgA {σ:Type} {pl:Pm σ} {Q:σ→List Sv→σ→Prop} (h:Qs pl Q) (l:List Rw):∀ (i:Nat) (s:σ) (r:Rf),Q s (di pl l i s r).ys (di pl l i s r).s
 |0,s,_=>h.nil s
 |i+1,s,r=>by
  have a:=zlz h s (eo (piece l i) r);unfold di Gr.then;split
  ·exact h.cat _ _ _ _ _ a (zgA h l i _ _)
  ·exact a
theorem uA {σ:Type} {Q:σ→List Sv→σ→Prop} {pl:Pm σ} (h:Qs pl Q) (f:σ→List Rw→Gr σ) (b:∀ s l,Q s (f s l).ys (f s l).s):∀ (a:List (List Rw)) (s:σ) (rs:List Rf),Q s (cL f a s rs).1.ys (cL f a s rs).1.s
 |[],s,_=>h.nil s
 |m::a,s,rs=>by
  unfold cL;split
  ·exact h.cat _ _ _ _ _ (b s m) (uA h f b a _ _)
  ·exact b s m
theorem uB {σ:Type} {pl:Pm σ} {Q:σ→List Sv→σ→Prop} (h:Qs pl Q):∀ (d:Nat) (s:σ) (l:List Rw),Q s (bW pl d s l).ys (bW pl d s l).s
 |0,s,_=>h.nil s
 |d+1,s,l=>by
  unfold bW;split
  ·exact zgA h l _ _ _
  ·split
   ·exact h.cat _ _ _ _ _ (uA h _ (uB h d) _ _ _) (zlz h _ _)
   ·exact uA h _ (uB h d) _ _ _
structure ju (s:Sx):Prop where
 vok:gh s.v
 hon:fs s.t
 room:s.v.seals+cf s.v.tk s.t.n≤100000∧s.tk.length≤s.v.seals
 two:(s.v.tk 0).isSome=true∧(s.v.tk 1).isSome=true
theorem uC (Kt:Nat→Int) {s:Sx} (h:ju s) {x:ByteArray} (q:x.size≤198) {p:Nat} (m:eC s.v.tk s.t.n=some p):
  dc Kt s x=((⟨p,Rs.cW (dl Kt s.v p x)⟩,0),⟨take (iC s.v) p,Rd.dw s.t p (dl Kt s.v p x),s.tk++[p]⟩)∧ju ⟨take (iC s.v) p,Rd.dw s.t p (dl Kt s.v p x),s.tk++[p]⟩∧(2≤p∧p<s.t.n∧(s.v.tk p).isSome=false)∧(Rd.dw s.t p (dl Kt s.v p x)).n=s.t.n:=by
 obtain⟨f,d,y⟩:=zis m;have z:=h.hon.ok.n1;have r:=h.room.1;have u:=h.room.2;have g:=rA d s.t.n;rw[if_pos f] at g;have i:=h.vok.next uo p;obtain⟨-,k,b,-⟩:=Rv.qz h.hon f ((Rs.mz Kt s.v.ring (Rv.hd s.v p) (h.vok.fits uo) x (h.vok.se p q)).1);have e1:dc Kt s x=((⟨p%4294967296,Rs.cW (dl Kt s.v p x)⟩,0),⟨take (iC s.v) p,Rd.dw s.t p (dl Kt s.v p x),s.tk++[p]⟩):=by unfold dc;rw[m]
 rw[Nat.mod_eq_of_lt uo] at e1
 have w:2≤p:=by
  rcases Nat.lt_or_ge p 2 with l|l
  ·have e:=h.two
   match p,l with
   |0,_=>rw[d] at e;exact absurd e.1 ud
   |1,_=>rw[d] at e;exact absurd e.2 ud
  ·exact l
 refine⟨e1,⟨i,k,⟨?_,by simp[Rv.take,Rv.iC];omega⟩,?_⟩,⟨w,f,d⟩,b⟩
 ·show s.v.seals+1+cf (Rv.cE s.v.tk p (some ())) (Rd.dw s.t p (dl Kt s.v p x)).n≤100000
  rw[b];omega
 ·refine⟨?_,?_⟩
  ·show(Rv.cE s.v.tk p (some ()) 0).isSome=true
   unfold Rv.cE;split
   ·rfl
   ·exact h.two.1
  ·show(Rv.cE s.v.tk p (some ()) 1).isSome=true
   unfold Rv.cE;split
   ·rfl
   ·exact h.two.2
theorem uD (Kt:Nat→Int) {s:Sx} {x:ByteArray} (hl:eC s.v.tk s.t.n=none):dc Kt s x=((zf,110),s):=by unfold dc;rw[hl]
structure Sq (a:Sx) (m:List Nat) (b:Sx):Prop where
 tk:b.tk=a.tk++m
 nodup:m.Nodup
 rng:∀ p∈m,2≤p∧p<a.t.n∧(a.v.tk p).isSome=false
 is:∀ q,b.v.tk q=if q∈m then some () else a.v.tk q
 n:b.t.n=a.t.n
 nt:b.v.nt=a.v.nt+m.length
 seals:b.v.seals=a.v.seals+m.length
 same:b.v.ring=a.v.ring∧b.v.gen=a.v.gen∧b.v.boot=a.v.boot
 pok:ju b
theorem Sq.refl {a:Sx} (h:ju a):Sq a [] a:=⟨(List.append_nil _).symm,List.nodup_nil,fun p hp=>(by cases hp),fun q=>by simp,rfl,rfl,rfl,⟨rfl,rfl,rfl⟩,h⟩
theorem Sq.trans {a b c:Sx} {m k:List Nat} (h:Sq a m b) (g:Sq b k c):Sq a (m++k) c:=by
 have j:∀ p∈k,p ∉ m:=fun p i d=>by
  have l:=(g.rng p i).2.2;rw[h.is p,if_pos d] at l;exact absurd l ud
 refine⟨by rw[g.tk,h.tk,List.append_assoc],List.nodup_append.2 ⟨h.nodup,g.nodup,fun x r y s e=>j y s (e▸r)⟩,fun p i=>?_,fun q=>?_,g.n.trans h.n,by rw[g.nt,h.nt,List.length_append];omega,by rw[g.seals,h.seals,List.length_append];omega,⟨g.same.1.trans h.same.1,g.same.2.1.trans h.same.2.1,g.same.2.2.trans h.same.2.2⟩,g.pok⟩
 ·rcases List.mem_append.1 i with x|x
  ·exact h.rng p x
  ·obtain⟨t,u,o⟩:=g.rng p x
   rw[h.is p,if_neg (j p x)] at o;exact⟨t,h.n▸u,o⟩
 ·rw[g.is q]
  by_cases f:q∈k
  ·rw[if_pos f,if_pos (List.mem_append.2 (.inr f))]
  ·rw[if_neg f,h.is q]
   by_cases d:q∈m
   ·rw[if_pos d,if_pos (List.mem_append.2 (.inl d))]
   ·rw[if_neg d,if_neg (by simp[f,d])]
theorem uE (Kt:Nat→Int) {s:Sx} (h:ju s) {x:ByteArray} (b:x.size≤198) {p:Nat} (c:eC s.v.tk s.t.n=some p):Sq s [p] (dc Kt s x).2:=by
 obtain⟨e,d,a,f⟩:=uC Kt h b c;rw[e];refine⟨rfl,by simp,fun q g=>by rw[List.mem_singleton.1 g];exact a,fun q=>?_,f,?_,rfl,⟨rfl,rfl,rfl⟩,d⟩
 ·show Rv.cE s.v.tk p (some ()) q=_
  unfold Rv.cE;simp only[List.mem_singleton]
 ·show(if(s.v.tk p).isSome=true then s.v.nt else s.v.nt+1)=_
  rw[a.2.2];rfl
def Qt (s:Sx) (_:List Sv) (s':Sx):Prop:=ju s→∃ m,Sq s m s'
theorem zp2 (Kt:Nat→Int) (f:ByteArray→Option Rf):Qs (cB f (dc Kt)) Qt where
 nil:=fun s h=>⟨[],Sq.refl h⟩
 cat:=fun s a s1 b x l o h=>by
  obtain⟨m,g⟩:=l h;obtain⟨k,q⟩:=o g.pok;exact⟨m++k,g.trans q⟩
 one:=fun s t d e h=>by
  unfold cB at e ⊢;cases w:f t with
  |some r=>exact⟨[],Sq.refl h⟩
  |none=>
   cases c:eC s.v.tk s.t.n with
   |none=>exact⟨[],by rw[uD Kt c];exact Sq.refl h⟩
   |some p=>exact⟨[p],uE Kt h d c⟩
 no:=fun s t d e h=>by
  unfold cB at e ⊢;cases w:f t with
  |some r=>exact⟨[],Sq.refl h⟩
  |none=>
   cases c:eC s.v.tk s.t.n with
   |none=>exact⟨[],by rw[uD Kt c];exact Sq.refl h⟩
   |some p=>exact⟨[p],uE Kt h d c⟩
theorem uF:∀ (l:List Nat) (v:Vs) (q:Nat),(l.foldl Rv.give v).tk q=if q∈l then none else v.tk q
 |[],v,q=>by simp
 |p::l,v,q=>by
  rw[List.foldl_cons,uF l];show(if q∈l then none else Rv.cE v.tk p none q)=_;unfold Rv.cE;by_cases a:q∈l
  ·rw[if_pos a,if_pos (List.mem_cons.2 (.inr a))]
  ·rw[if_neg a]
   by_cases b:q=p
   ·rw[if_pos b,if_pos (List.mem_cons.2 (.inl b))]
   ·rw[if_neg b,if_neg (by simp[a,b])]
theorem zlC:∀ (l:List Nat) (v:Vs),l.Nodup→(∀ p∈l,(v.tk p).isSome=true)→l.length≤v.nt→(l.foldl Rv.give v).nt=v.nt - l.length
 |[],v,_,_,_=>rfl
 |p::l,v,c,h,d=>by
  obtain⟨f,g⟩:=List.nodup_cons.1 c
  have e:(Rv.give v p).nt=v.nt - 1:=by
   show(if(v.tk p).isSome=true then v.nt - 1 else v.nt)=_;rw[if_pos (h p (List.mem_cons.2 (.inl rfl)))]
  rw[List.length_cons] at d;rw[List.foldl_cons,zlC l _ g (fun q b=>?_) (by rw[e];omega),e,List.length_cons]
  ·omega
  ·show(Rv.cE v.tk p none q).isSome=true
   unfold Rv.cE;rw[if_neg (fun(e:q=p)=>f (e▸b))];exact h q (List.mem_cons.2 (.inr b))
theorem zlD {s b:Sx} {m:List Nat} (g:s.tk=[]) (h:Sq s m b):
  (∀ i (a:i<b.tk.length),2≤b.tk[i]∧b.tk[i]<b.t.n∧(((b.tk.take i).foldl Rv.give b.v).tk b.tk[i]).isSome=true)∧(b.tk.foldl Rv.give b.v).nt=s.v.nt∧(∀ q,(b.tk.foldl Rv.give b.v).tk q=s.v.tk q):=by
 have k:b.tk=m:=by rw[h.tk,g];rfl
 rw[k];refine⟨fun i a=>?_,?_,fun q=>?_⟩
 ·obtain⟨l,o,x⟩:=h.rng m[i] (List.getElem_mem a)
  refine⟨l,h.n▸o,?_⟩;rw[uF,if_neg (fun r=>?_),h.is,if_pos (List.getElem_mem a)]
  ·rfl
  ·obtain⟨j,y,e⟩:=List.mem_take_iff_getElem.1 r
   have d:=List.pairwise_iff_getElem.1 h.nodup j i uo a uo;exact d e
 ·rw[zlC m b.v h.nodup (fun p d=>by rw[h.is,if_pos d];rfl) (by rw[h.nt];omega),h.nt]
  omega
 ·rw[uF,h.is]
  by_cases c:q∈m
  ·rw[if_pos c]
   have:=(h.rng q c).2.2;cases w:s.v.tk q with
   |none=>rfl
   |some u=>rw[w] at this;cases this
  ·rw[if_neg c,if_neg c]
theorem nG {k:Nat} {W W':World} {o:Option Addr} {n d:Nat} {g:List Value} (h:Sl k W o n d g) (hs:W.heap.size≤W'.heap.size) (l:∀ b c,o=some ⟨b,c,none⟩→0<n→b<W.heap.size→W'.heap[b]? =W.heap[b]?):Sl k W' o n d g:=by
 refine⟨h.1,h.2.1,h.2.2.1,h.2.2.2.1,fun i=>?_⟩;obtain⟨b,c,e,f,m⟩:=h.2.2.2.2 i;exact⟨b,c,e,Nat.lt_of_lt_of_le f hs,fun j u p=>(World.cell?_of_block (a:=⟨b,c+j,none⟩) (l b c e i f)).trans (m j u p)⟩
theorem zit {l:List Sv} (h:∀ y∈l,y.r.p<4294967296):∀ t r,wh l t=some r→r.p<4294967296:=by
 induction l with
 |nil=>intro t r e;cases e
 |cons x l c=>
  intro t r e;unfold wh at e;split at e
  ·cases e;exact h x (List.mem_cons.2 (.inl rfl))
  ·exact c (fun y d=>h y (List.mem_cons.2 (.inr d))) t r e
def bV:Nat→List Rw→Nat
 |0,_=>0
 |d+1,l=>if leaf l=true then cY l else((cR l).map (bV d)).sum+1
theorem zgB {σ:Type} (pl:Pm σ) (s:σ) (P:Pp):(dS pl s P).ys.length≤1∧((dS pl s P).e=0→(dS pl s P).ys.length=1):=by
 unfold dS;split
 ·split
  ·exact⟨Nat.le_refl _,fun _=>rfl⟩
  ·rename_i a;exact⟨Nat.zero_le _,fun h=>absurd h a⟩
 ·rename_i a;exact⟨Nat.zero_le _,fun h=>absurd h a⟩
theorem zeg {σ:Type} (pl:Pm σ) (l:List Rw):∀ (i:Nat) (s:σ) (r:Rf),(di pl l i s r).ys.length≤i∧((di pl l i s r).e=0→(di pl l i s r).ys.length=i)
 |0,_,_=>⟨Nat.le_refl _,fun _=>rfl⟩
 |i+1,s,r=>by
  obtain⟨c,d⟩:=zgB pl s (eo (piece l i) r);unfold di Gr.then;split
  ·rename_i a
   obtain⟨f,b⟩:=zeg pl l i (dS pl s (eo (piece l i) r)).s (dS pl s (eo (piece l i) r)).r;exact⟨by simp only[List.length_append];omega,fun h=>by have:=b h;simp only[List.length_append];omega⟩
  ·rename_i a
   exact⟨by omega,fun h=>absurd h a⟩
theorem zgC {σ:Type} (f:σ→List Rw→Gr σ) (c:List Rw→Nat) (b:∀ s l,(f s l).ys.length≤c l∧((f s l).e=0→(f s l).ys.length=c l)):∀ (a:List (List Rw)) (s:σ) (rs:List Rf),
  (cL f a s rs).1.ys.length≤(a.map c).sum∧((cL f a s rs).1.e=0→(cL f a s rs).1.ys.length=(a.map c).sum)
 |[],_,_=>⟨Nat.le_refl _,fun _=>rfl⟩
 |m::a,s,rs=>by
  obtain⟨i,j⟩:=b s m;unfold cL;rw[List.map_cons,List.sum_cons];split
  ·rename_i d
   obtain⟨k,g⟩:=zgC f c b a (f s m).s (rs++[(f s m).r]);exact⟨by simp only[List.length_append];omega,fun h=>by have:=g h;simp only[List.length_append];omega⟩
  ·rename_i d
   exact⟨by show(f s m).ys.length≤_;omega,fun h=>absurd h d⟩
theorem oD {σ:Type} (pl:Pm σ):∀ (d:Nat) (s:σ) (l:List Rw),(bW pl d s l).ys.length≤bV d l∧((bW pl d s l).e=0→(bW pl d s l).ys.length=bV d l)
 |0,_,_=>⟨Nat.le_refl _,fun _=>rfl⟩
 |d+1,s,l=>by
  unfold bW bV;split
  ·exact zeg pl l _ _ _
  ·obtain⟨c,f⟩:=zgC (bW pl d) (bV d) (fun s l=>oD pl d s l) (cR l) s []
   split
   ·rename_i a
    obtain⟨g,b⟩:=zgB pl (cL (bW pl d) (cR l) s []).1.s (gI l (cL (bW pl d) (cR l) s []).2);exact⟨by simp only[List.length_append];omega,fun h=>by have:=b h;simp only[List.length_append];omega⟩
   ·rename_i a
    exact⟨by show(cL (bW pl d) (cR l) s []).1.ys.length≤_;omega,fun h=>absurd h a⟩
theorem zlE (f g:List Rw→Nat):∀ (a:List (List Rw)),(∀ m∈a,f m+1≤2*g m)→(a.map f).sum+a.length≤2*(a.map g).sum
 |[],_=>Nat.le_refl _
 |m::a,h=>by
  have c:=h m (List.mem_cons.2 (.inl rfl));have d:=zlE f g a fun x b=>h x (List.mem_cons.2 (.inr b))
  simp only[List.map_cons,List.sum_cons,List.length_cons];omega
theorem zlF:∀ (d:Nat) (l:List Rw),On l→l≠[]→bV d l+1≤2*l.length
 |0,l,_,h=>by
  have:=List.length_pos_iff.2 h;show 0+1≤_;omega
 |d+1,l,a,h=>by
  have j:=List.length_pos_iff.2 h;unfold bV;split
  ·unfold cY;omega
  ·rename_i c
   obtain⟨-,n,g⟩:=mY (by cases f:leaf l;rfl;exact absurd f c);have k:=pW a g;have i:=zlE (bV d) List.length (cR l) fun m e=>zlF d m (a.kid e) (jj e).1
   rw[zhJ] at i;omega
theorem oF (d:Nat) (l:List Rw) (hon:On l):bV d l≤max 1 (2*l.length):=by
 by_cases h:l=[]
 ·subst h
  cases d with
  |zero=>exact Nat.zero_le _
  |succ d=>show(if leaf []=true then cY [] else _)≤_;rw[if_pos zfd];decide
 ·have:=zlF d l hon h
  omega
theorem znh (A:Pl) (v:Vs) (t:St) (l:List Rw) (o:Option Addr) (a:Nat) (y:Value) (w:World) (D:bP w A v t) (E:Ok t) (F:cH w o a l) (m:∀ b c,o=some ⟨b,c,none⟩→0<l.length→¬A.has b) (G:dg l=false):
  Calls Tryz.prog 13 #[pt A.g,.slice o l.length a,y] w fun e j=>e=.returned (.tuple #[.slice none 0 0,.int .i64 80])∧bP j A v t∧Rd.bC A.has w j:=by
 obtain⟨f,d⟩:∃ f,w.alloc (.cells #[pt A.g] 24)=f:=⟨_,rfl⟩;have x:Below w.heap.size w f:=by rw[←d];exact bF _ _
 have M:f.cell? ⟨w.heap.size,0,none⟩=some (pt A.g):=by rw[←d,zr (zq w _)];rfl
 have H:Hid (∀ _:True,_):=fun _=>tz A v t f (D.below x zn) E
 have n:Hid (∀ W,Rd.bC A.has w W→Calls Tryz.prog 36 #[.slice o l.length a] W fun e j=>e=.returned (.tuple #[nv ⟨0,0,0,none,0,0,none,0,0⟩,.int .i64 80])∧Below W.heap.size W j):=fun W z=>sY l o a W (nG F z.size fun b c e I J=>z.block b J (m b c e I)) G
 have h:Hid _:=d;have p:Hid _:=x
 go_enter Tryz.func13,Tryz.ntmps13
 go_wp2_with (first|(rw[h.o];clear h))
 refine Calls.mono (H.o trivial) ?_;rintro e K ⟨rfl,q,r⟩;have s:Hid _:=q;have i:Hid _:=(Rd.bC.of_below p.o).trans r;go_wp2_with fail;refine Calls.mono (n.o K i.o) ?_;rintro e u ⟨rfl,B⟩
 have L:Hid (bP (u.alloc (.cells #[.int .u32 0,.int .u32 0,.int .i64 0,.slice none 0 0,.slice none 0 0] 73)) A v t∧Rd.bC A.has w (u.alloc (.cells #[.int .u32 0,.int .u32 0,.int .i64 0,.slice none 0 0,.slice none 0 0] 73))):=by
  have C:=B.trans ((bF u (.cells #[.int .u32 0,.int .u32 0,.int .i64 0,.slice none 0 0,.slice none 0 0] 73)).mono B.size);exact⟨s.o.below C zn,i.o.trans (Rd.bC.of_below C)⟩
 go_wp2_with fail;go_ret2;exact⟨rfl,L.o⟩
theorem zeS (W:World) (v:Value) (c:v.oneCell'=true):∃ W',(store ⟨W.heap.size,0,none⟩ v).run Tryz.prog (W.alloc (.cells #[.nilFunc] 93))=.ok () W'∧Below W.heap.size W W'∧W'.heap[W.heap.size]? =some (.cells #[v] 93 (0,0)):=by
 have a:=zq W (.cells #[.nilFunc] 93);refine⟨(W.alloc (.cells #[.nilFunc] 93)).setCell ⟨W.heap.size,0,none⟩ v,?_,?_,pF a⟩
 ·rw[run_store _ _ _ _ _ c,show(W.alloc (.cells #[.nilFunc] 93)).cell? ⟨W.heap.size,0,none⟩=some .nilFunc by rw[zr a];rfl,frozen_of_row _ _ 0 _ _ a]
  rfl
 ·have b:=bF W (.cells #[.nilFunc] 93)
  exact b.trans ⟨rfl,rfl,rfl,by simp[World.setCell],fun j d=>Below.heap_setCell _ _ _ _ (fun e=>by
   have f:j=W.heap.size:=e;omega)⟩
def gr (g:Gr Sx):Vs:=if g.e=0 then g.s.v else g.s.tk.foldl Rv.give g.s.v
theorem zlG (Kt:Nat→Int) (A:Pl) (v:Vs) (t:St) (l:List Rw) (o:Option Addr) (K:Nat) (q:List Sv) (oh:Option Addr) (D:Nat) (w:World) (hv:bP w A v t) (hp:ju ⟨v,t,[]⟩) (hT:Rs.Tb Kt w)
  (hr:cH w o K l) (au:∀ b h,o=some ⟨b,h,none⟩→0<l.length→¬A.has b) (av:∀ r∈l,fI r) (M:dg l=true)
  (hh:cF w oh D q) (aw:∀ b h,oh=some ⟨b,h,none⟩→0<q.length→¬A.has b) (hs:∀ y∈q,y.r.p<4294967296) (hl:q.length≤100000) (g:Gr Sx) (hg:bW (cB (wh q) (dc Kt)) 32 ⟨v,t,[]⟩ l=g):
  Calls Tryz.prog 13 #[pt A.g,.slice o l.length K,.slice oh q.length D] w fun e Y=>∃ B i,e=.returned (.tuple #[.slice B (dQ g).length i,.int .i64 g.e])∧cF Y B i (dQ g)∧(∀ b h,B=some ⟨b,h,none⟩→w.heap.size≤b)∧bP Y A (gr g) g.s.t∧Rs.Tb Kt Y∧Rd.bC A.has w Y:=by
 have hq:=uB (zp2 Kt (wh q)) 32 ⟨v,t,[]⟩ l hp;rw[hg] at hq;obtain⟨m,hm⟩:=hq;obtain⟨ax,aQ,aR⟩:=zlD rfl hm;have ay:Hid _:=ax;have ae:=(oD (cB (wh q) (dc Kt)) 32 ⟨v,t,[]⟩ l).1;rw[hg] at ae;have aS:=oF 32 l (ji M);have N:=((iX l).1 M).1;have HA:Hid (∀ k,A.has k→k<w.heap.size):=fun k az=>hv.has_lt az
 have hU:∀ k,fQ A k→k<w.heap.size:=fun k C=>by
  obtain⟨⟨a,b,h1⟩,c,d,h2⟩:=hT;rcases C with⟨h,C⟩|rfl|rfl
  ·obtain⟨b',aO,e',aA,-⟩:=hv.self.2.1.2.2.2 (by have:=List.length_pos_iff.2 (nB hp.vok.f);exact nB hp.vok.f)
   rw[C] at e';cases e';exact aA
  ·exact(zi h1).1
  ·exact(zi h2).1
 have Z:Hid _:=hU;have a0:Hid (∀ k,fQ A k→¬A.has k):=fun k C=>tw hv hp.vok C
 obtain⟨S,O⟩:∃ S,w.alloc (.cells #[pt A.g] 24)=S:=⟨_,rfl⟩;have b1:Below w.heap.size w S:=by rw[←O];exact bF _ _
 have e1:S.heap[w.heap.size]? =some (.cells #[pt A.g] 24 (0,0)):=by rw[←O];exact zq w _
 have c1:S.cell? ⟨w.heap.size,0,none⟩=some (pt A.g):=by rw[zr e1];rfl
 have aB:Hid (∀ _:True,_):=fun _=>tz A v t S (hv.below b1 zn) hp.hon.ok
 have a7:Hid (S.heap[w.heap.size]? =some (.cells #[pt A.g] 24 (0,0))∧S.heap.size=w.heap.size+1):=⟨e1,by rw[←O];simp⟩;have af:Hid (∀ W,Rd.bC A.has w W→Calls Tryz.prog 36 #[.slice o l.length K] W fun e Y=>∃ n:Nv,e=.returned (.tuple #[nv n,.int .i64 0])∧ci (fun b=>W.heap.size≤b) 32 Y n l∧Below W.heap.size W Y):=fun W T=>sZ l o K W (nG hr T.size fun b h e hn hl=>T.block b hl (au b h e hn)) M
 have ag:Hid (∀ W,Rd.bC A.has w W→cF W oh D q):=fun W T=>hh.keep T.size fun b h e hn hl=>T.block b hl (aw b h e hn)
 have ah:Hid (On l∧(∀ r∈l,fI r)∧l.length≤1000∧g.ys.length≤5000∧q.length≤100000∧(∀ t r,wh q t=some r→r.p<4294967296)):=⟨ji M,av,N,by omega,hl,zit hs⟩;have E:Hid (Rs.Tb Kt w∧ju ⟨v,t,[]⟩∧bW (cB (wh q) (dc Kt)) 32 ⟨v,t,[]⟩ l=g):=⟨hT,hp,hg⟩;have ai:Hid _:=O;have aC:Hid _:=b1;go_enter Tryz.func13,Tryz.ntmps13
 go_wp2_with (first|(rw[ai.o];clear ai))
 refine Calls.mono (aB.o trivial) ?_;rintro e U ⟨rfl,aD,a8⟩;have aE:Hid _:=aD;have a9:Hid _:=(Rd.bC.of_below aC.o).trans a8;have aj:Hid (U.heap[w.heap.size]? =some (.cells #[pt A.g] 24 (0,0))∧w.heap.size+1≤U.heap.size):=⟨(a8.block _ (by have:=a7.o.2;omega) (fun e=>by have:=HA.o _ e;omega)).trans a7.o.1,by have:=a7.o.2;have:=a8.size;omega⟩;go_wp2_with fail;refine Calls.mono (af.o U a9.o) ?_;rintro e z ⟨n,rfl,hN,b3⟩;have ak:=rB hN;obtain⟨u,G⟩:∃ u,(z.alloc (ev n)).alloc (.cells #[.slice none 0 0] 90)=u:=⟨_,rfl⟩;have s4:(z.alloc (ev n)).heap.size=z.heap.size+1:=by simp
 have s5:u.heap.size=z.heap.size+2:=by rw[←G];simp
 have b4:=bF z (ev n);have b5:=bF (z.alloc (ev n)) (.cells #[.slice none 0 0] 90);rw[G,s4] at b5;have e4:=(b5.block _ uo).trans (zq z _);have e5:u.heap[z.heap.size+1]? =some (.cells #[.slice none 0 0] 90 (0,0)):=by rw[←G,←s4];exact zq _ _
 have aa:=b4.trans (b5.mono uo);have ab:=b3.trans (aa.mono b3.size);have ac:=a9.o.trans (Rd.bC.of_below ab);have al:=zgv 46 #[.pointer (some ⟨w.heap.size,0,none⟩),.pointer (some ⟨z.heap.size+1,0,none⟩)] q oh D ah.o.2.2.2.2.1 u (ag.o u ac);have aF:Hid _:=al
 have aG:Hid (ci (fun b=>U.heap.size≤b∧b<z.heap.size) 32 u n l∧u.heap[z.heap.size]? =some (ev n)∧u.heap[z.heap.size+1]? =some (.cells #[.slice none 0 0] 90 (0,0))∧u.heap.size=z.heap.size+2∧Below U.heap.size U u∧Rd.bC A.has w u∧U.heap.size≤z.heap.size):=⟨ak.below aa zn,e4,e5,s5,ab,ac,b3.size⟩;have aH:Hid _:=G;clear al hN ak b3 s4 s5 b4 b5 e4 e5 aa ab ac G af ag;go_wp2_with fail;rw[aH.o];refine Calls.mono aF.o ?_;rintro e W6 ⟨rfl,k1,k2,k3,b6⟩;obtain⟨n1,n2,n3,n4,n5,n6,n7⟩:=aG.o;obtain⟨W7,aT,b7,e7⟩:=zeS W6 (.func (.func 79) #[] #[.pointer (some ⟨u.heap.size+2,0,none⟩),.pointer (some ⟨u.heap.size,0,none⟩)]) rfl;have H:=b6.trans (b7.mono b6.size);have P:=n5.trans (H.mono n5.size);have I:=a9.o.trans (Rd.bC.of_below P);have l7:=b7.size;have aI:=aj.o.2
 obtain⟨q1,q2,q3,q4,q5,q6⟩:=ah.o;have V:∀ k,w.heap.size≤k→¬A.has k∧¬fQ A k:=fun k Q=>⟨fun e=>by have:=HA.o k e;omega,fun e=>by have:=Z.o k e;omega⟩
 have x3:=(zi k3).1
 have am:lJ Kt A (fun k=>w.heap[k]?) w.heap.size (z.heap.size+1) ⟨v,t,[]⟩ (fun k=>A.has k∨fQ A k∨k=w.heap.size∨k=z.heap.size+1) W7:=by
  refine⟨aE.o.below P zn,E.o.2.1.vok,E.o.2.1.hon,kU E.o.1 fun k Q C=>I.block k Q (a0.o k (.inr C)),E.o.2.1.room,(P.block _ uo).trans aj.o.1,⟨.slice none 0 0,(H.block _ uo).trans n3,World.ownsRow_nil _ _ _ _,fun x hx=>by simp[Value.ownBlock] at hx⟩,
   ⟨(V _ zn).1,(V _ uo).1,(V _ zn).2,(V _ uo).2,by omega⟩,fun k Q=>?_,fun k Q=>Q,fun k C=>I.block k (Z.o k C) (a0.o k C)⟩
  rcases Q with x|x|x|x
  ·have:=HA.o k x;omega
  ·have:=Z.o k x;omega
  ·omega
  ·omega
 have an:Ih 46 #[.pointer (some ⟨w.heap.size,0,none⟩),.pointer (some ⟨z.heap.size+1,0,none⟩)] (wh q) (u.heap.size+1) u.heap.size (u.heap.size+2) (lJ Kt A (fun k=>w.heap[k]?) w.heap.size (z.heap.size+1)) ⟨v,t,[]⟩
   (fun k=>(A.has k∨fQ A k∨k=w.heap.size∨k=z.heap.size+1)∨k=u.heap.size+1∨k=u.heap.size∨k=u.heap.size+2) W7:=by
  have no:∀ k,u.heap.size≤k→¬(A.has k∨fQ A k∨k=w.heap.size∨k=z.heap.size+1):=fun k Q e=>by
   have:=V k uo;rcases e with x|x|x|x
   ·exact this.1 x
   ·exact this.2 x
   ·omega
   ·omega
  exact⟨_,am,fun j=>Iff.rfl,no _ uo,no _ uo,no _ uo,k2.same (b7.block _ k2.lt),(b7.block _ uo).trans k1,(b7.block _ uo).trans k3⟩
 have ad:=zgs (zeQ (zgy Kt A (fun k=>w.heap[k]?) w.heap.size (z.heap.size+1)) (wh q) q6 (u.heap.size+1) u.heap.size (u.heap.size+2)) (fun b=>U.heap.size≤b∧b<z.heap.size) 32 n l _ ⟨v,t,[]⟩ W7 an (n1.below H zn)
  (fun b T=>⟨by omega,fun e=>by
   have:=V b uo;rcases e with(x|x|x|x)|x|x|x
   ·exact this.1 x
   ·exact this.2 x
   ·omega
   ·omega
   ·omega
   ·omega
   ·omega⟩) q1 q2 q3 (by rw[E.o.2.2];exact q4)
 rw[E.o.2.2] at ad;have aJ:Hid _:=ad;have cN:W7.cell? ⟨W6.heap.size,0,none⟩=some (.func (.func 79) #[] #[.pointer (some ⟨u.heap.size+2,0,none⟩),.pointer (some ⟨u.heap.size,0,none⟩)]):=by rw[zr e7];rfl
 obtain⟨z0,z1,z2,z3,z4⟩:=nE ((H.block _ uo).trans n2);have ao:Hid (Rd.bC A.has w W7∧w.heap.size≤W7.heap.size∧(∀ k,w.heap.size≤k→¬A.has k∧¬fQ A k)∧w.heap.size≤z.heap.size∧u.heap.size=z.heap.size+2∧u.heap.size≤W7.heap.size):=⟨I,I.size,V,by omega,by omega,by omega⟩;obtain⟨nX,nY,nL,aU,aV,aW,aX,aY,aZ⟩:=n;simp only at z0 z1 z2 z3 z4;clear k1 k2 k3 b6 n1 n2 n3 n4 n5 n6 n7 b7 e7 H P I  l7 aI q1 q2 q3 q4 q5 q6 V x3 am an ad;go_wp2_with fail;refine Calls.mono aJ.o ?_;rintro e R ⟨B,i,F',rfl,r1,r2,⟨F0,J,r4,-⟩,r5,r6⟩
 have X:Rd.bC A.has w R:=by
  obtain⟨a1,a2,a3,a4,a5,a6⟩:=ao.o;refine⟨r5.os.trans a1.os,r5.tape.trans a1.tape,r5.output.trans a1.output,Nat.le_trans a2 r5.size,fun j hj hn=>?_⟩;by_cases C:fQ A j
  ·exact J.und j C
  ·refine(r5.block j uo (fun e=>?_)).trans (a1.block j hj hn)
   rcases e with(x|x|x|x)|x|x|x
   ·exact hn x
   ·exact C x
   all_goals omega
 obtain⟨tv,u1,u2,u3⟩:=J.row;obtain⟨ro,ap,aK,aL⟩:=dx u2;subst aK;have d1:R.cell? ⟨w.heap.size,0,none⟩=some (pt A.g):=by rw[zr J.bx1];rfl
 have d2:R.cell? ⟨z.heap.size+1,0,none⟩=some (.slice ro g.s.tk.length ap):=by rw[zr u1];rfl
 have aM:Hid (∀ b h,B=some ⟨b,h,none⟩→w.heap.size≤b):=fun b h e=>by have:=(r2 b h e).1;have:=ao.o.2.1;omega
 by_cases M:g.e=0
 ·obtain⟨L,hL⟩:∃ L,(dQ g).length=L:=⟨_,rfl⟩
  have HR:Hid (∀ e:Ending,e=.returned (.tuple #[.slice B L i,.int .i64 0])→∃ B i,e=.returned (.tuple #[.slice B (dQ g).length i,.int .i64 g.e])∧cF R B i (dQ g)∧(∀ b h,B=some ⟨b,h,none⟩→w.heap.size≤b)∧bP R A (gr g) g.s.t∧Rs.Tb Kt R∧Rd.bC A.has w R):=fun e he=>⟨B,i,by rw[he,M,hL],r1,aM.o,by rw[show gr g=g.s.v from if_pos M];exact J.vlt,J.tb,X⟩
  simp only[hL];go_wp2_with fail;go_ret2;exact HR.o _ rfl
 ·have aP:(g.e==0)=false:=by simpa using M
  have HC:Hid _:=zly A g.s.v g.s.t g.s.tk ro ap R (by have:=J.room.1;have:=J.room.2;omega) J.vlt J.hon.ok aL (fun b h e _=>(u3 b (by rw[e];rfl)).2.1) ay.o;have aq:Hid (∀ W,Rd.bC A.has R W→Rs.Tb Kt W):=fun W T=>kU J.tb fun k Q C=>T.block k Q (a0.o k (.inr C))
  have aN:Hid _:=X;have ar:Hid _:=M;go_wp2_with fail;refine Calls.mono HC.o ?_;rintro e W9 ⟨rfl,v1,v2⟩
  have HR:Hid (∀ e:Ending,e=.returned (.tuple #[.slice none 0 0,.int .i64 g.e])→∃ B i,e=.returned (.tuple #[.slice B (dQ g).length i,.int .i64 g.e])∧cF W9 B i (dQ g)∧(∀ b h,B=some ⟨b,h,none⟩→w.heap.size≤b)∧bP W9 A (gr g) g.s.t∧Rs.Tb Kt W9∧Rd.bC A.has w W9):=fun e he=>by
   have hL:dQ g=[]:=if_neg ar.o;rw[hL];exact⟨none,0,he,Sl.nil 3 W9,fun b h e=>(by cases e),by rw[show gr g=g.s.tk.foldl Rv.give g.s.v from if_neg ar.o];exact v1,aq.o W9 v2,aN.o.trans v2⟩
  go_wp2_with fail;go_ret2;exact HR.o _ rfl
open Rw (Rf dR fc eO Pp dt eG fj encS dM pz gv Pg rpp pB cX nm zie jb tU)
def eD (x y:Sv):Bool:=decide (x.t=y.t)&&(decide (x.r.p=y.r.p)&&decide (x.r.t=y.r.t))
theorem zlH (x y:Sv):eD x y=true↔x=y:=by
 unfold eD;simp only[Bool.and_eq_true,decide_eq_true_eq];refine⟨fun h=>?_,fun h=>by rw[h];exact⟨rfl,rfl,rfl⟩⟩;obtain⟨xt,⟨xp,xr⟩⟩:=x;obtain⟨yt,⟨yp,yr⟩⟩:=y;obtain⟨h1,h2,h3⟩:=h;simp only at h1 h2 h3;subst h1 h2 h3;rfl
theorem zlI (p q:Nat) (c d:ByteArray) (w:World):(Op.equalIn 9999 49 (.agg #[.int .u32 (p:Int),.string c]) (.agg #[.int .u32 (q:Int),.string d])).run Tryz.prog w=.ok (jb ⟨p,c⟩ ⟨q,d⟩) w:=by
 have hS:Tryz.prog.underlying 49=some (.struct (Tryz.prog.fieldsOf 49)):=uk
 have hp:Tryz.prog.stoodInHeld 49=false:=uk
 have u2:=Tryz.underlying41;have u9:=Tryz.underlying9;rw[show(9999:Nat)=9998+1 from rfl,run_equalIn_agg w 9998 49 _ _ hS hp];simp only[Program.fieldsOf,Tryz.underlying49];unfold Rw.jb;simp only;clear hS hp;by_cases h1:p=q
 ·subst h1
  by_cases h4:c=d
  ·subst h4
   go_simp
  ·go_simp
   exact fun e=>Rw.nm h4 e
 ·go_simp
  exact fun e=>absurd (Int.ofNat_inj.1 e) h1
theorem zp3 (a b:ByteArray) (p q:Nat) (c d:ByteArray) (w:World):(binOp .eql 51 (.agg #[.string a,.int .u32 (p:Int),.string c]) (.agg #[.string b,.int .u32 (q:Int),.string d])).run Tryz.prog w=.ok (.bool (eD ⟨a,⟨p,c⟩⟩ ⟨b,⟨q,d⟩⟩)) w:=by
 have hS:Tryz.prog.underlying 51=some (.struct (Tryz.prog.fieldsOf 51)):=uk
 have hp:Tryz.prog.stoodInHeld 51=false:=uk
 have u9:=Tryz.underlying9;have hin:=fun w=>zlI p q c d w
 rw[run_eql_struct,show(10000:Nat)=9999+1 from rfl,run_equalIn_agg w 9999 51 _ _ hS hp];simp only[Program.fieldsOf,Tryz.underlying51];clear hS hp;have e1:eD ⟨a,⟨p,c⟩⟩ ⟨b,⟨q,d⟩⟩=(decide (a=b)&&jb ⟨p,c⟩ ⟨q,d⟩):=rfl;rw[e1];generalize jb ⟨p,c⟩ ⟨q,d⟩=F at hin ⊢;by_cases h1:a=b
 ·subst h1
  cases F<;>simp[go_sem,hin,u9,Result.andThen]
 ·have h2:(a.toList==b.toList)=false:=by
   cases hh:a.toList==b.toList with
   |false=>rfl
   |true=>exact(Rw.nm h1 (by simpa using hh)).elim
  simp[go_sem,u9,h2,h1,Result.andThen]
theorem znQ (a b:ByteArray) (p q:Nat) (c d:ByteArray) (w:World):(binOp .neq 51 (.agg #[.string a,.int .u32 (p:Int),.string c]) (.agg #[.string b,.int .u32 (q:Int),.string d])).run Tryz.prog w=.ok (.bool (!eD ⟨a,⟨p,c⟩⟩ ⟨b,⟨q,d⟩⟩)) w:=by
 have h:=zp3 a b p q c d w;rw[run_eql_struct] at h;rw[run_neq_struct];cases e:(Op.equalIn 10000 51 (.agg #[.string a,.int .u32 (p:Int),.string c]) (.agg #[.string b,.int .u32 (q:Int),.string d])).run Tryz.prog w with
 |ok b g=>rw[e] at h;simp[Result.andThen] at h ⊢;simp[h]
 |_=>rw[e] at h;simp[Result.andThen] at h
def du (P:Pp):List Rf:=if P.k=1∧¬(P.np=0∧P.nt=⟨#[]⟩) then[⟨P.np,P.nt⟩] else P.ks
theorem c8z {w:World} {g:Nat} {q:Pg} (h:w.heap[g]? =some (cX q)):w.cell? ⟨g,0,none⟩=some (.int .i64 q.k)∧w.cell? ⟨g,5,none⟩=some (.slice q.ko q.kn q.kc)∧w.cell? ⟨g,6,none⟩=some (.int .u32 (q.np:Int))∧w.cell? ⟨g,7,none⟩=some (.string q.nt):=
 ⟨by rw[zr h];rfl,by rw[zr h];rfl,by rw[zr h];rfl,by rw[zr h];rfl⟩
theorem zlJ (q:Pg) (P:Pp) (w:World) (h:dt w q P):
  Calls Tryz.prog 85 #[gv q] w fun e L=>∃ o s,e=.returned (.slice o (du P).length s)∧eO L o s (du P)∧Below w.heap.size w L∧(∀ b f,o=some ⟨b,f,none⟩→w.heap.size≤b∨q.ko=some ⟨b,f,none⟩):=by
 have C:=bF w (cX q);have D:=zq w (cX q);obtain⟨t,i⟩:∃ t,w.alloc (cX q)=t:=⟨_,rfl⟩;rw[i] at C D;obtain⟨N,O,Q,R⟩:=c8z D;have F:=h.k;have j:=h.np;have l:=h.nt;have m:=h.at'.kn;have n:=(h.below C zn).at'.kids;obtain⟨M,Z,qY,qL,S,T,U,u,V,v,a,c⟩:=q;simp only at F j l m n N O Q R;have x:∀ w,(binOp .neq 49 (.agg #[.int .u32 (a:Int),.string c]) (.agg #[.int .u32 0,.string ⟨#[]⟩])).run Tryz.prog w=.ok (.bool (!jb ⟨a,c⟩ ⟨0,⟨#[]⟩⟩)) w:=fun w=>zie a 0 c ⟨#[]⟩ w
 have y:Hid _:=C;have z:Hid _:=n;have A:Hid _:=m;have d:Hid _:=i;have p:Hid (jb ⟨a,c⟩ ⟨0,⟨#[]⟩⟩=true↔(a=0∧c=⟨#[]⟩)):=⟨fun e=>by have:=(tU _ _).1 e;cases this;exact⟨rfl,rfl⟩,fun⟨e1,W⟩=>(tU _ _).2 (by rw[e1,W])⟩
 have g:Hid (du P=if M=1∧¬(a=0∧c=⟨#[]⟩) then[⟨a,c⟩] else P.ks):=by
  refine(?_:_=_);unfold du;rw[F,j,l]
 obtain⟨E,G⟩:∃ E,jb ⟨a,c⟩ ⟨0,⟨#[]⟩⟩=E:=⟨_,rfl⟩;simp only[G] at x;rw[G] at p;clear C D F j l m n i G h;by_cases H:M=1
 ·subst H
  cases E with
  |true=>
   have B:Hid (du P=P.ks):=by
    refine(?_:_=_);rw[g.o,if_neg (fun h=>h.2 (p.o.1 rfl))]
   rw[B.o];go_enter Tryz.func85,Tryz.ntmps85
   go_wp2_with (first|(rw[d.o];clear d))
   go_ret;exact⟨u,v,by rw[A.o];rfl,z.o,y.o,fun b f e=>.inr e⟩
  |false=>
   have B:Hid (du P=[⟨a,c⟩]):=by
    refine(?_:_=_);rw[g.o,if_pos ⟨rfl,fun h=>by have:=p.o.2 h;cases this⟩]
   rw[B.o];have J:Hid (Below w.heap.size w (t.alloc (.cells #[.int .u32 (a:Int),.string c] 49))):=y.o.trans ((bF t _).mono y.o.size);have K:Hid _:=zlo (r:=⟨a,c⟩) (zq t (.cells #[.int .u32 (a:Int),.string c] 49));have X:Hid _:=y.o.size;go_enter Tryz.func85,Tryz.ntmps85
   go_wp2_with (first|(rw[d.o];clear d))
   go_ret;exact⟨_,1,rfl,K.o,J.o,fun b f e=>by cases e;exact .inl X.o⟩
 ·have B:Hid (du P=P.ks):=by
   refine(?_:_=_);rw[g.o,if_neg (fun h=>H h.1)]
  rw[B.o];go_enter Tryz.func85,Tryz.ntmps85
  go_wp2_with (first|(rw[d.o];clear d))
  go_ret;exact⟨u,v,by rw[A.o];rfl,z.o,y.o,fun b f e=>.inr e⟩
open Rw (Rf dR fc eO Pp dt eG fj encS dM pz gv Pg rpp pB cX gP cA en)
structure LS where
 n:Nat
 rows:List Rw
 pages:List Sv
def dW (f:LS→Rf→LS × Int):List Rf→LS→LS × Int
 |[],s=>(s,0)
 |r::rs,s=>if(f s r).2=0 then dW f rs (f s r).1 else f s r
def cn (rd:Rf→ByteArray × Int):Nat→LS→Rf→LS × Int
 |0,s,_=>(s,61)
 |d+1,s,r=>
  if s.n=2100 then(s,61)
  else if(rd r).2=0 then
   if gP (rd r).1=true then
    if(dW (cn rd d) (du (cA (rd r).1)) ⟨s.n+1,s.rows,s.pages⟩).2=0 then
     (⟨(dW (cn rd d) (du (cA (rd r).1)) ⟨s.n+1,s.rows,s.pages⟩).1.n,(dW (cn rd d) (du (cA (rd r).1)) ⟨s.n+1,s.rows,s.pages⟩).1.rows++(cA (rd r).1).l,(dW (cn rd d) (du (cA (rd r).1)) ⟨s.n+1,s.rows,s.pages⟩).1.pages++[⟨(rd r).1,r⟩]⟩,0)
    else dW (cn rd d) (du (cA (rd r).1)) ⟨s.n+1,s.rows,s.pages⟩
   else(⟨s.n+1,s.rows,s.pages⟩,61)
  else(⟨s.n+1,s.rows,s.pages⟩,(rd r).2)
theorem uG {x:ByteArray} (h:gP x=true):(cA x).l.length≤4∧(cA x).ks.length≤4∧(∀ r∈du (cA x),r.p<4294967296)∧(du (cA x)).length≤4:=by
 obtain⟨-,b,d⟩:=Rw.zk0 h;obtain⟨i,j,f,k,g⟩:=d
 have c:(cA x).l.length≤4∧(cA x).ks.length≤4:=by
  rcases Rw.tQ b with e|e
  ·have h:=Rw.tO e b
   exact⟨h.2.1,by rw[h.2.2.2.2.2.2.2];exact Nat.zero_le _⟩
  ·have h:=Rw.tP e b
   exact⟨by rw[h.2.2.2.2.2.2.1];exact Nat.zero_le _,h.2.1⟩
 refine⟨c.1,c.2,fun r a=>?_,?_⟩
 ·unfold du at a
  split at a
  ·rw[List.mem_singleton.1 a];exact f
  ·exact g r a
 ·unfold du
  split
  ·simp
  ·exact c.2
structure fK (A:Pl) (f:Nat) (s:LS) (vr vp:Value) (W:World):Prop where
 self:W.heap[f]? =some (.cells #[pt A.g,.int .i64 (s.n:Int),vr,vp] 121 (0,0))
 rows:W.ownsRow (f+1) 79 4 vr s.rows.length (s.rows.flatMap rc)
 pages:W.ownsRow (f+1) 51 3 vp s.pages.length (s.pages.flatMap sc)
 ne:∀ g,vr.ownBlock=some g→vp.ownBlock≠some g
 cnt:s.n≤2100∧s.rows.length≤4*s.n∧s.pages.length≤s.n
def Ow (f:Nat) (vr vp:Value) (j:Nat):Prop:=j=f∨vr.ownBlock=some j∨vp.ownBlock=some j
theorem fK.keep {A:Pl} {f:Nat} {s:LS} {a b:Value} {W W':World} (h:fK A f s a b W) (c:∀ j,j<W.heap.size→Ow f a b j→W'.heap[j]? =W.heap[j]?):fK A f s a b W':=
 ⟨(c f (zi h.self).1 (.inl rfl)).trans h.self,ic h.rows fun g d e=>c g e (.inr (.inl d)),ic h.pages fun g d e=>c g e (.inr (.inr d)),h.ne,h.cnt⟩
theorem fK.lt {A:Pl} {f:Nat} {s:LS} {vr vp:Value} {W:World} (h:fK A f s vr vp W) {j:Nat} (hj:Ow f vr vp j):f≤j∧j<W.heap.size:=by
 rcases hj with rfl|hj|hj
 ·exact⟨Nat.le_refl _,(zi h.self).1⟩
 ·have:=gq h.rows hj;omega
 ·have:=gq h.pages hj;omega
theorem je {w:World} {g:Nat} {a b c d:Value} {t:TypeId} {e:Nat × Nat} (h:w.heap[g]? =some (.cells #[a,b,c,d] t e)):w.cell? ⟨g,0,none⟩=some a∧w.cell? ⟨g,1,none⟩=some b∧w.cell? ⟨g,2,none⟩=some c∧w.cell? ⟨g,3,none⟩=some d:=
 ⟨by rw[zr h];rfl,by rw[zr h];rfl,by rw[zr h];rfl,by rw[zr h];rfl⟩
theorem uH {W:World} {g i:Nat} {a b c d v:Value} {t:TypeId} (h:W.heap[g]? =some (.cells #[a,b,c,d] t (0,0))):(W.setCell ⟨g,i,none⟩ v).heap[g]? =some (.cells (#[a,b,c,d].setIfInBounds i v) t (0,0)):=zx W g i _ _ v h
def RP (A:Pl) (f:Nat) (vr vp:Value) (W:World) (k:LS × Int) (e:Ending) (W':World):Prop:=
 e=.returned (.int .i64 k.2)∧∃ vr' vp',fK A f k.1 vr' vp' W'∧cu (Ow f vr vp) (Ow f vr' vp') W W'∧bC (Ow f vr vp) W W'
theorem zp4 {f:LS→Rf→LS × Int} (hf:∀ s r,s.n≤(f s r).1.n):∀ (rs:List Rf) (s:LS),s.n≤(dW f rs s).1.n
 |[],s=>Nat.le_refl _
 |r::rs,s=>by
  unfold dW;split
  ·exact Nat.le_trans (hf s r) (zp4 hf rs _)
  ·exact hf s r
theorem zp5 (rd:Rf→ByteArray × Int):∀ (d:Nat) (s:LS) (r:Rf),s.n≤(cn rd d s r).1.n
 |0,s,_=>Nat.le_refl _
 |d+1,s,r=>by
  have h:=zp4 (zp5 rd d) (du (cA (rd r).1)) ⟨s.n+1,s.rows,s.pages⟩;have a:s.n+1≤(dW (cn rd d) (du (cA (rd r).1)) ⟨s.n+1,s.rows,s.pages⟩).1.n:=h;unfold cn;split
  ·exact Nat.le_refl _
  ·split
   ·split
    ·split
     ·show s.n≤(dW (cn rd d) (du (cA (rd r).1)) ⟨s.n+1,s.rows,s.pages⟩).1.n;omega
     ·omega
    ·exact Nat.le_succ _
   ·exact Nat.le_succ _
theorem zlK {f:LS→Rf→LS × Int} (a:∀ s r,(f s r).1.rows.length+4*s.n≤s.rows.length+4*(f s r).1.n∧(f s r).1.pages.length+s.n≤s.pages.length+(f s r).1.n):∀ (rs:List Rf) (s:LS),(dW f rs s).1.rows.length+4*s.n≤s.rows.length+4*(dW f rs s).1.n∧(dW f rs s).1.pages.length+s.n≤s.pages.length+(dW f rs s).1.n
 |[],s=>⟨Nat.le_refl _,Nat.le_refl _⟩
 |r::rs,s=>by
  have b:=a s r;unfold dW;split
  ·have c:=zlK a rs (f s r).1
   omega
  ·exact b
theorem uI (rd:Rf→ByteArray × Int):∀ (d:Nat) (s:LS) (r:Rf),(cn rd d s r).1.rows.length+4*s.n≤s.rows.length+4*(cn rd d s r).1.n∧(cn rd d s r).1.pages.length+s.n≤s.pages.length+(cn rd d s r).1.n
 |0,s,_=>⟨Nat.le_refl _,Nat.le_refl _⟩
 |d+1,s,r=>by
  have h:=zlK (uI rd d) (du (cA (rd r).1)) ⟨s.n+1,s.rows,s.pages⟩;unfold cn;generalize b:dW (cn rd d) (du (cA (rd r).1)) ⟨s.n+1,s.rows,s.pages⟩=K at*
  simp only at h;split
  ·exact⟨Nat.le_refl _,Nat.le_refl _⟩
  ·split
   ·split
    ·rename_i a
     have c:=(uG a).1;split
     ·simp only[List.length_append,List.length_singleton];omega
     ·omega
    ·simp only;omega
   ·simp only;omega
def eJ (Kt:Nat→Int) (v:Vs) (t:St) (r:Rf):ByteArray × Int:=(Rv.lH Kt v t r.p r.t,Rv.eP Kt v t r.p r.t)
def rC (Kt:Nat→Int) (A:Pl) (v:Vs) (t:St) (f d:Nat):Prop:=
 ∀ (s:LS) (vr vp:Value) (W:World) (r:Rf),fK A f s vr vp W→bP W A v t→Rs.Tb Kt W→2100<s.n+d→r.p<4294967296→Calls Tryz.prog 59 #[pt f,dR r] W (RP A f vr vp W (cn (eJ Kt v t) d s r))
theorem fK.count {A:Pl} {f:Nat} {s:LS} {c d:Value} {W:World} (h:fK A f s c d W) (k:s.n<2100):fK A f ⟨s.n+1,s.rows,s.pages⟩ c d (W.setCell ⟨f,1,none⟩ (.int .i64 ((s.n+1:Nat):Int)))∧bC (fun j=>j=f) W (W.setCell ⟨f,1,none⟩ (.int .i64 ((s.n+1:Nat):Int))):=by
 have a:∀ j,j≠f→(W.setCell ⟨f,1,none⟩ (.int .i64 ((s.n+1:Nat):Int))).heap[j]? =W.heap[j]? :=fun j l=>Below.heap_setCell _ _ _ _ (fun e=>l e)
 obtain⟨o,p,q⟩:=h.cnt;refine⟨⟨by have:=uH (i:=1) (v:=.int .i64 ((s.n+1:Nat):Int)) h.self;simpa using this,ic h.rows fun g b m=>a g (by have:=(gq h.rows b).1;omega),ic h.pages fun g b m=>a g (by have:=(gq h.pages b).1;omega),h.ne,by simp only;omega,by simp only;omega,by simp only;omega⟩,⟨rfl,rfl,rfl,by simp[World.setCell],fun j _ k=>a j k⟩⟩
theorem fK.addRows {A:Pl} {f:Nat} {s:LS} {p q:Value} {W:World} (h:fK A f s p q W) (t:s.rows.length+4≤4*s.n) {o:Option Addr} {r:Nat} {l:List Rw} (u:cH W o r l) (G:l.length≤4):
  ∃ a W',(Builtin.append_ #[22,22] 22 #[p,.slice o l.length r]).run Tryz.prog W=.ok a W'∧W'.frozen? ⟨f,2,none⟩=false∧W'.cell? ⟨f,2,none⟩=some p∧(∀ k,k<W.heap.size→¬Ow f p q k→W'.heap[k]? =W.heap[k]?)∧fK A f ⟨s.n,s.rows++l,s.pages⟩ a q (W'.setCell ⟨f,2,none⟩ a)∧cu (Ow f p q) (Ow f a q) W (W'.setCell ⟨f,2,none⟩ a)∧bC (Ow f p q) W (W'.setCell ⟨f,2,none⟩ a):=by
 obtain⟨C,H,D⟩:=h.cnt;have E:=(zi h.self).1;obtain⟨a,W',w,y,d,c⟩:=iu 22 79 Tryz.underlying22 mF rfl ud ud W (f+1) s.rows.length l.length p o r (s.rows.flatMap rc) (l.flatMap rc) h.rows uo u (oZ l) uo;have hs:=d.size;have e1:=(d.block _ E (fun e=>by have:=(gq h.rows e.symm).1;omega)).trans h.self;have z:∀ j,j≠f→(W'.setCell ⟨f,2,none⟩ a).heap[j]? =W'.heap[j]? :=fun j b=>Below.heap_setCell _ _ _ _ (fun e=>b e)
 have F:(W'.setCell ⟨f,2,none⟩ a).heap.size=W'.heap.size:=by simp[World.setCell]
 refine⟨a,W',w,frozen_of_row W' _ _ _ _ e1,(je e1).2.2.1,fun k u t=>d.block k u fun e=>t (.inr (.inl e.symm)),⟨by have:=uH (i:=2) (v:=a) e1;simpa using this,?_,ic h.pages (fun g m u=>(z g (by have:=(gq h.pages m).1;omega)).trans (d.block g u fun e=>h.ne g e.symm m)),fun g m x=>?_,C,by simp only[List.length_append];omega,D⟩,fun j b=>?_,⟨d.os,d.tape,d.output,by omega,fun j b t=>?_⟩⟩
 ·rw[List.length_append,List.flatMap_append]
  exact ic y fun g m _=>z g (by have:=(gq y m).1;omega)
 ·rcases c with c|c
  ·exact h.ne g (by rw[←c];exact m) x
  ·rw[c] at m
   cases m;have:=(gq h.pages x).2;omega
 ·rcases b with b|b|b
  ·exact .inl (.inl b)
  ·have:=(gq y b).2
   rcases c with c|c
   ·exact .inl (.inr (.inl (by rw[←c];exact b)))
   ·rw[c] at b
    cases b;exact .inr ⟨Nat.le_refl _,by omega⟩
  ·exact .inl (.inr (.inr b))
 ·exact(z j fun e=>t (.inl e)).trans (d.block j b fun e=>t (.inr (.inl e.symm)))
theorem fK.addPage {A:Pl} {f:Nat} {s:LS} {m o:Value} {W:World} (h:fK A f s m o W) (w:s.pages.length+1≤s.n) (x:Sv) {b:Nat} (E:W.heap[b]? =some (.cells #[.string x.t,.int .u32 (x.r.p:Int),.string x.r.t] 51 (0,0))):
  ∃ a W',(Builtin.append_ #[29,29] 29 #[o,.slice (some ⟨b,0,none⟩) 1 1]).run Tryz.prog W=.ok a W'∧W'.frozen? ⟨f,3,none⟩=false∧W'.cell? ⟨f,3,none⟩=some o∧(∀ k,k<W.heap.size→¬Ow f m o k→W'.heap[k]? =W.heap[k]?)∧fK A f ⟨s.n,s.rows,s.pages++[x]⟩ m a (W'.setCell ⟨f,3,none⟩ a)∧cu (Ow f m o) (Ow f m a) W (W'.setCell ⟨f,3,none⟩ a)∧bC (Ow f m o) W (W'.setCell ⟨f,3,none⟩ a):=by
 obtain⟨F,G,J⟩:=h.cnt;have H:=(zi h.self).1;obtain⟨a,W',y,z,l,d⟩:=iu 29 51 Tryz.underlying29 znN rfl ud ud W (f+1) s.pages.length 1 o (some ⟨b,0,none⟩) 1 (s.pages.flatMap sc) (sc x) h.pages uo (znP E) (znO x) uo;have hs:=l.size;have e1:=(l.block _ H (fun e=>by have:=(gq h.pages e.symm).1;omega)).trans h.self;have B:∀ j,j≠f→(W'.setCell ⟨f,3,none⟩ a).heap[j]? =W'.heap[j]? :=fun j c=>Below.heap_setCell _ _ _ _ (fun e=>c e)
 have I:(W'.setCell ⟨f,3,none⟩ a).heap.size=W'.heap.size:=by simp[World.setCell]
 refine⟨a,W',y,frozen_of_row W' _ _ _ _ e1,(je e1).2.2.2,fun k D w=>l.block k D fun e=>w (.inr (.inr e.symm)),⟨by have:=uH (i:=3) (v:=a) e1;simpa using this,ic h.rows (fun g q D=>(B g (by have:=(gq h.rows q).1;omega)).trans (l.block g D fun e=>h.ne g q e.symm)),?_,fun g q u=>?_,F,G,by simp only[List.length_append,List.length_singleton];omega⟩,fun j c=>?_,⟨l.os,l.tape,l.output,by omega,fun j c w=>?_⟩⟩
 ·rw[List.length_append,List.flatMap_append,show[x].flatMap sc=sc x by simp]
  exact ic z fun g q _=>B g (by have:=(gq z q).1;omega)
 ·rcases d with d|d
  ·exact h.ne g q (by rw[←d];exact u)
  ·rw[d] at u
   cases u;have:=(gq h.rows q).2;omega
 ·rcases c with c|c|c
  ·exact .inl (.inl c)
  ·exact .inl (.inr (.inl c))
  ·have:=(gq z c).2
   rcases d with d|d
   ·exact .inl (.inr (.inr (by rw[←d];exact c)))
   ·rw[d] at c
    cases c;exact .inr ⟨Nat.le_refl _,by omega⟩
 ·exact(B j fun e=>w (.inl e)).trans (l.block j c fun e=>w (.inr (.inr e.symm)))
theorem uJ {P:Program} {o:Oper} {a:Act} {w:World} {K:Act→World→Prop} {Q:Exit→Act→World→Prop} (t u:TypeId) (s x:Operand) (d:o.op=.call { callee:=.builtin .append,args:=#[s,x],argTypes:=#[t,u] })
  {vs vx v':Value} {c:World} (hs:a.eval s=vs) (e:a.eval x=vx) (b:(Builtin.append_ #[t,u] o.type #[vs,vx]).run P w=.ok v' c) (f:K (a.put o.dst v') c):o.wp P a w K Q:=by
 unfold Oper.wp execOp;simp only[d,resolve,invoke,builtin,Sem.run_bind,Sem.run_pure,Result.andThen_ok,List.map_toArray,List.map_cons,List.map_nil,hs,e,b];exact f
def uK (f b:Nat) (g:Value) (r:Rf) (W:World):Prop:=W.cell? ⟨f,0,none⟩=some g∧W.cell? ⟨b,0,none⟩=some (.int .u32 (r.p:Int))∧W.cell? ⟨b,1,none⟩=some (.string r.t)
theorem zlL (Kt:Nat→Int) (A:Pl) (v:Vs) (t:St) (f d:Nat) (hk:Ok t) (hA:∀ k,A.has k∨fQ A k→k<f) (ih:rC Kt A v t f d):rC Kt A v t f (d+1):=by
 rintro⟨sn,srows,spages⟩ vr vp w ⟨rp,rt⟩ hI hV hT hd hp;obtain⟨W0,hW0⟩:∃ W0,w.alloc (.cells #[.int .u32 (rp:Int),.string rt] 49)=W0:=⟨_,rfl⟩;have b0:Below w.heap.size w W0:=by rw[←hW0];exact bF _ _
 have y0:FB w.heap.size (rp:Int) rt W0:=by rw[←hW0];exact zq w _
 have hI0:fK A f ⟨sn,srows,spages⟩ vr vp W0:=hI.keep fun j hj _=>b0.block j hj
 have hs0:W0.heap.size=w.heap.size+1:=by rw[←hW0];simp
 have c1:=(je hI0.self).2.1;have lf:f<W0.heap.size:=(zi hI0.self).1;have lfw:f<w.heap.size:=(zi hI.self).1;obtain⟨hn1,-,-⟩:=hI.cnt;simp only at hn1 c1 hd hp;have HW0:Hid _:=hW0;by_cases h0:sn=2100
 ·subst h0
  have HR:Hid (RP A f vr vp w (cn (eJ Kt v t) (d+1) ⟨2100,srows,spages⟩ ⟨rp,rt⟩) (.returned (.int .i64 61)) W0):=by
   have e1:cn (eJ Kt v t) (d+1) ⟨2100,srows,spages⟩ ⟨rp,rt⟩=(⟨2100,srows,spages⟩,61):=by rw[cn,if_pos rfl]
   rw[e1];exact⟨rfl,vr,vp,hI0,fun j hj=>.inl hj,bC.of_below b0⟩
  have c1':W0.cell? ⟨f,1,none⟩=some (.int .i64 2100):=c1;clear hI hV hT hd hp b0 y0 hI0 hs0 hn1 hW0 c1 ih;go_enter Tryz.func59,Tryz.ntmps59
  go_wp2_with (first|(rw[HW0.o];clear HW0))
  go_ret;exact HR.o
 ·have hlt:sn<2100:=uo
  obtain⟨hI1,hb1⟩:=hI0.count hlt;have z1:W0.frozen? ⟨f,1,none⟩=false:=frozen_of_row W0 _ _ _ _ hI0.self;simp only at hI1 hb1;have ecast:((sn+1:Nat):Int)=(sn:Int)+1:=uo
  rw[ecast] at hI1 hb1;obtain⟨W1,hW1⟩:∃ W1,W0.setCell ⟨f,1,none⟩ (.int .i64 ((sn:Int)+1))=W1:=⟨_,rfl⟩;rw[hW1] at hI1 hb1;have hk0:∀ k,k<w.heap.size→k≠f→W1.heap[k]? =w.heap[k]? :=fun k hk hn=>(hb1.block k uo hn).trans (b0.block k hk)
  have hV1:bP W1 A v t:=mM hV (Nat.le_trans b0.size hb1.size) fun k hk hh=>hk0 k hk (by have:=hA k hh;omega)
  have hT1:Rs.Tb Kt W1:=kU hT fun k hk hh=>hk0 k hk (by have:=hA k (.inr (.inr hh));omega)
  have y1:FB w.heap.size (rp:Int) rt W1:=(hb1.block _ uo uo).trans y0;have hn2:¬(sn:Int)=2100:=uo
  have hn3:(sn:Int)<2100:=uo
  have hC:=Rv.oJ Kt A v t rp uo rt W1.drew (mM hV1 zn fun k _ _=>rfl) hk (kU hT1 fun k _ _=>rfl);have HC:Hid (Calls Tryz.prog 83 #[pt A.g,.agg #[.int .u32 (rp:Int),.string rt]] W1.drew fun e w'=>e=.returned (.tuple #[.string (Rv.lH Kt v t rp rt),.int .i64 (Rv.eP Kt v t rp rt)])∧Below W1.drew.heap.size W1.drew w'):=hC;have HSW:Hid (uK f w.heap.size (pt A.g) ⟨rp,rt⟩ W1.drew):=⟨(je hI1.self).1,(y1.facts).2.2.1,(y1.facts).2.2.2⟩;have HK1:Hid (fK A f ⟨sn+1,srows,spages⟩ vr vp W1∧bP W1 A v t∧Rs.Tb Kt W1∧FB w.heap.size (rp:Int) rt W1∧w.heap.size+1≤W1.heap.size∧bC (Ow f vr vp) w W1):=⟨by rw[show((sn:Int)+1)=((sn+1:Nat):Int) by omega] at*;exact hI1,hV1,hT1,y1,by have:=hb1.size;omega,(bC.of_below b0).trans (hb1.more fun j _ hj=>.inl hj)⟩;have HK0:Hid (fK A f ⟨sn,srows,spages⟩ vr vp w):=hI;have HVT:Hid (bP w A v t∧Rs.Tb Kt w):=⟨hV,hT⟩;have HW1:Hid _:=hW1;have HDn:Hid (2100<sn+(d+1)∧sn<2100∧f<w.heap.size∧rp<4294967296):=⟨hd,hlt,lfw,hp⟩
  have HIH:Hid (rC Kt A v t f d):=ih;have HAk:Hid (∀ k,A.has k∨fQ A k→k<f):=hA;obtain⟨KK,hKK⟩:∃ K,cn (eJ Kt v t) (d+1) ⟨sn,srows,spages⟩ ⟨rp,rt⟩=K:=⟨_,rfl⟩;obtain⟨X,hX⟩:∃ X,Rv.lH Kt v t rp rt=X:=⟨_,rfl⟩;obtain⟨E,hE⟩:∃ E,Rv.eP Kt v t rp rt=E:=⟨_,rfl⟩;have e1:(eJ Kt v t ⟨rp,rt⟩).1=X:=hX;have e2:(eJ Kt v t ⟨rp,rt⟩).2=E:=hE;have HG0:Hid (¬E=0→KK=(⟨sn+1,srows,spages⟩,E)):=fun h=>by rw[←hKK,cn,e2,if_neg h0,if_neg h]
  have HG1:Hid (E=0→gP X=false→KK=(⟨sn+1,srows,spages⟩,61)):=fun h h'=>by rw[←hKK,cn,e1,e2,if_neg h0,if_pos h,if_neg (by rw[h'];decide)]
  have HG2:Hid (E=0→gP X=true→KK=if(dW (cn (eJ Kt v t) d) (du (cA X)) ⟨sn+1,srows,spages⟩).2=0 then(⟨(dW (cn (eJ Kt v t) d) (du (cA X)) ⟨sn+1,srows,spages⟩).1.n,(dW (cn (eJ Kt v t) d) (du (cA X)) ⟨sn+1,srows,spages⟩).1.rows++(cA X).l,(dW (cn (eJ Kt v t) d) (du (cA X)) ⟨sn+1,srows,spages⟩).1.pages++[⟨X,⟨rp,rt⟩⟩]⟩,0) else dW (cn (eJ Kt v t) d) (du (cA X)) ⟨sn+1,srows,spages⟩):=fun h h'=>by rw[←hKK,cn,e1,e2,if_neg h0,if_pos h,if_pos h']
  rw[hX,hE] at HC;rw[hKK];clear hI hV hT hd hp b0 y0 hI0 hs0 hn1 hW0 ih hI1 hb1 hk0 hV1 hT1 y1 hC hW1 ecast h0 hlt hA hKK hX hE e1 e2;go_enter Tryz.func59,Tryz.ntmps59
  go_wp2_with (first|(rw[HW0.o];clear HW0)|(rw[HW1.o];clear HW1))
  refine wp_region_held (S:=uK f w.heap.size (pt A.g) ⟨rp,rt⟩) uk ?_;change wpAnyH _ _ _ _ _ _ _ _ (World.drew _);refine bB [0,1,2,3,4] ?_
  iterate 5
   refine bS (v:=?_) rfl ?_ HSW.o ?_;rotate_left
   ·rintro w ⟨e1,e2,e3⟩;go_simp;try with_reducible rfl
   conv in(Act.put _ _ _)=>simp only[bH,bI,bJ,Act.put,bK,bL,bM]
  refine bA ?_;refine dF 5 _ uk rfl uk (fun K hK=>?_);go_simp;refine HC.o.mono ?_;rintro e w2 ⟨rfl,b2⟩;have hwk:∀ k,k<W1.heap.size→w2.heap[k]? =W1.heap[k]? :=fun k hk=>b2.block k hk
  have hws:W1.heap.size≤w2.heap.size:=b2.size
  have HB2:Hid (fK A f ⟨sn+1,srows,spages⟩ vr vp w2∧FB w.heap.size (rp:Int) rt w2∧w.heap.size+1≤w2.heap.size∧bC (Ow f vr vp) w w2):=by
   obtain⟨g1,g2,g3,g4,g5,g6⟩:=HK1.o;exact⟨g1.keep fun j hj _=>hwk j hj,(hwk _ uo).trans g4,by omega,g6.trans ⟨b2.os,b2.tape,b2.output,hws,fun j hj _=>hwk j hj⟩⟩
  replace HSW:Hid (uK f w.heap.size (pt A.g) ⟨rp,rt⟩ w2):=⟨(je HB2.o.1.self).1,(HB2.o.2.1.facts).2.2.1,(HB2.o.2.1.facts).2.2.2⟩
  refine hK _ _ HSW.o ?_;clear hK K b2 hwk hws HC HK1;refine bB [6,7,8,9,10] ?_
  iterate 5
   refine bS (v:=?_) rfl ?_ HSW.o ?_;rotate_left
   ·rintro w ⟨e1,e2,e3⟩;go_simp;try with_reducible rfl
   conv in(Act.put _ _ _)=>simp only[bH,bI,bJ,Act.put,bK,bL,bM]
  refine bA ?_;refine wpAnyH_done uk ?_ _;clear HSW
  rename_i hKK
  refine hKK _ _ ?_;clear hKK;by_cases hE:E=0
  ·subst hE
   have HD:Hid (Calls Tryz.prog 84 #[.string X] w2 fun e w'=>∃ q,e=.returned (.tuple #[gv q,.int .i64 (en X)])∧(dt w' q (cA X)∧(∀ b off,q.ro=some ⟨b,off,none⟩→w2.heap.size≤b)∧∀ b off,q.ko=some ⟨b,off,none⟩→w2.heap.size≤b)∧Below w2.heap.size w2 w'):=Rw.zhf X w2;have hG1:=HG1.o rfl;have HG3:Hid _:=HG2.o rfl;have HG1b:Hid (gP X=false→KK=(⟨sn+1,srows,spages⟩,61)):=hG1;clear hG1 HG0 HG1 HG2;cases hdk:gP X with
   |false=>
    have hde:en X=90:=by unfold Rw.en;rw[hdk];rfl
    rw[hde] at HD;have HKe:Hid (KK=(⟨sn+1,srows,spages⟩,61)):=HG1b.o hdk;clear hde HG1b HG3 hdk;go_wp2_with fail;refine Calls.mono HD.o ?_;rintro e w3 ⟨q,rfl,-,b3⟩;have b4:=bF w3 (cX q)
    have HR:Hid (RP A f vr vp w KK (.returned (.int .i64 61)) (w3.alloc (cX q))):=by
     rw[HKe.o];obtain⟨g1,g2,g3,g4⟩:=HB2.o;have b34:=b3.trans (b4.mono b3.size);exact⟨rfl,vr,vp,g1.keep fun j hj _=>b34.block j hj,fun j hj=>.inl hj,g4.trans ⟨b34.os,b34.tape,b34.output,b34.size,fun j hj _=>b34.block j hj⟩⟩
    obtain⟨qk,qX,qY,qL,qro,qrn,qrc,qko,qkn,qkc,qnp,qnt⟩:=q;simp only[gv,cX] at HR ⊢;clear b3 b4 HD HB2 HKe;go_wp2_with fail;go_ret;exact HR.o
   |true=>
    have hde:en X=0:=by unfold Rw.en;rw[hdk];rfl
    rw[hde] at HD;obtain⟨hl4,-,hrs32,hrs4⟩:=uG hdk;have HK3:Hid (KK=if(dW (cn (eJ Kt v t) d) (du (cA X)) ⟨sn+1,srows,spages⟩).2=0 then(⟨(dW (cn (eJ Kt v t) d) (du (cA X)) ⟨sn+1,srows,spages⟩).1.n,(dW (cn (eJ Kt v t) d) (du (cA X)) ⟨sn+1,srows,spages⟩).1.rows++(cA X).l,(dW (cn (eJ Kt v t) d) (du (cA X)) ⟨sn+1,srows,spages⟩).1.pages++[⟨X,⟨rp,rt⟩⟩]⟩,0) else dW (cn (eJ Kt v t) d) (du (cA X)) ⟨sn+1,srows,spages⟩):=HG3.o hdk;obtain⟨P,hP⟩:∃ P,cA X=P:=⟨_,rfl⟩;rw[hP] at HD HK3 hl4 hrs32 hrs4;obtain⟨rs,hrs⟩:∃ rs,du P=rs:=⟨_,rfl⟩;have HRs:Hid (du P=rs):=hrs;rw[hrs] at HK3 hrs32 hrs4;have HP4:Hid (P.l.length≤4∧(∀ r∈rs,r.p<4294967296)∧rs.length≤4):=⟨hl4,hrs32,hrs4⟩;clear hde HG1b HG3 hdk hP hrs hl4 hrs32 hrs4;go_wp2_with fail;refine Calls.mono HD.o ?_;rintro e w3 ⟨q,rfl,⟨hq,hlr,hlk⟩,b3⟩;have b4:=bF w3 (cX q);have g4:=zq w3 (cX q);have hRf:=zlJ q P (w3.alloc (cX q)) (hq.below b4 zn)
    rw[HRs.o] at hRf;obtain⟨W4,hW4⟩:∃ W4,w3.alloc (cX q)=W4:=⟨_,rfl⟩;have hs4:W4.heap.size=w3.heap.size+1:=by rw[←hW4];simp
    rw[hW4] at hRf b4 g4;have hq4:=hq.below b4 zn;have HRf:Hid (Calls Tryz.prog 85 #[gv q] W4 fun e w'=>∃ o cap,e=.returned (.slice o rs.length cap)∧eO w' o cap rs∧Below W4.heap.size W4 w'∧∀ b off,o=some ⟨b,off,none⟩→W4.heap.size≤b∨q.ko=some ⟨b,off,none⟩):=hRf;have b24:Below w2.heap.size w2 W4:=b3.trans (b4.mono b3.size)
    have HB4:Hid (fK A f ⟨sn+1,srows,spages⟩ vr vp W4∧FB w.heap.size (rp:Int) rt W4∧w.heap.size+1≤w2.heap.size∧bC (Ow f vr vp) w W4∧w2.heap.size≤w3.heap.size∧W4.heap.size=w3.heap.size+1∧W4.heap[w3.heap.size]? =some (cX q)∧dt W4 q P∧(∀ b off,q.ro=some ⟨b,off,none⟩→w2.heap.size≤b)∧∀ b off,q.ko=some ⟨b,off,none⟩→w2.heap.size≤b):=by
     obtain⟨g1,g2,g3,g4'⟩:=HB2.o;exact⟨g1.keep fun j hj _=>b24.block j hj,(b24.block _ uo).trans g2,g3,g4'.trans ⟨b24.os,b24.tape,b24.output,b24.size,fun j hj _=>b24.block j hj⟩,b3.size,hs4,g4,hq4,hlr,hlk⟩
    obtain⟨c0,c1,c2,c3,c4,c5,c6,c7⟩:=pE g4;obtain⟨qk,qX,qY,qL,qro,qrn,qrc,qko,qkn,qkc,qnp,qnt⟩:=q;simp only[gv,cX] at HRf hW4 ⊢;simp only at c0 c1 c2 c3 c4 c5 c6 c7;have HW4:Hid _:=hW4;clear b3 b4 g4 hRf hs4 hW4 hq4 hq hlr hlk b24 HD HB2
    go_wp2_with (first|(rw[HW4.o];clear HW4))
    refine Calls.mono HRf.o ?_;rintro e w5 ⟨o,cap,rfl,hR5,b5,hlo⟩
    have HB5:Hid (fK A f ⟨sn+1,srows,spages⟩ vr vp w5∧FB w.heap.size (rp:Int) rt w5∧w.heap.size+1≤w2.heap.size∧bC (Ow f vr vp) w w5∧w2.heap.size≤w3.heap.size∧w3.heap.size+1≤w5.heap.size∧w5.heap[w3.heap.size]? =some (cX ⟨qk,qX,qY,qL,qro,qrn,qrc,qko,qkn,qkc,qnp,qnt⟩)∧dt w5 ⟨qk,qX,qY,qL,qro,qrn,qrc,qko,qkn,qkc,qnp,qnt⟩ P∧(∀ b off,qro=some ⟨b,off,none⟩→w2.heap.size≤b)∧(∀ b off,o=some ⟨b,off,none⟩→w2.heap.size≤b)∧eO w5 o cap rs):=by
     obtain⟨g1,g2,g3,g4,g5,g6,g7,g8,g9,g10⟩:=HB4.o;have:=b5.size
     exact⟨g1.keep fun j hj _=>b5.block j hj,(b5.block _ uo).trans g2,g3,g4.trans ⟨b5.os,b5.tape,b5.output,b5.size,fun j hj _=>b5.block j hj⟩,g5,by omega,(b5.block _ uo).trans g7,g8.below b5 zn,g9,fun b off e=>by
      rcases hlo b off e with x|x
      ·omega
      ·exact g10 b off x,hR5⟩
    clear hR5 b5 hlo HRf HB4 c0 c1 c2 c3 c4 c5 c6 c7;obtain⟨m,hm⟩:∃ m,rs.length=m:=⟨_,rfl⟩;have HM:Hid (rs.length=m):=hm;have m4:(m:Int)≤4:=by have:=HP4.o.2.2;omega
    rw[hm];clear hm
    have HOw:Hid (∀ j,Ow f vr vp j→j<w.heap.size):=fun j hj=>by
     have h1:=(HK0.o.lt hj).2;exact h1
    go_wp2_with fail
    go_loopw [45] (fun iv wr=>∃ (i:Nat) (s':LS) (vr' vp':Value),i≤m∧iv=.int .i64 (i:Int)∧fK A f s' vr' vp' wr∧cu (Ow f vr vp) (Ow f vr' vp') w5 wr∧bC (Ow f vr vp) w5 wr∧dW (cn (eJ Kt v t) d) rs ⟨sn+1,srows,spages⟩=dW (cn (eJ Kt v t) d) (rs.drop i) s'∧(sn+1≤s'.n∧s'.rows.length+4≤4*s'.n∧s'.pages.length+1≤s'.n)) (fun iv _=>m - bu iv)
    case atStart=>exact⟨0,⟨sn+1,srows,spages⟩,vr,vp,Nat.zero_le _,rfl,HB5.o.1,fun j hj=>.inl hj,bC.refl _ _,by rw[List.drop_zero],by obtain⟨-,k2,k3⟩:=HK0.o.cnt;simp only at k2 k3 ⊢;omega⟩
    case round=>
     obtain⟨i,s',vr',vp',hi,rfl,hI',hg',hb',hst,hcn⟩:=hrel;have hOl:∀ j,Ow f vr vp j→f≤j∧j<w.heap.size:=fun j hj=>HK0.o.lt hj
     have nOw:∀ j,Ow f vr' vp' j→Ow f vr vp j∨w5.heap.size≤j:=fun j hj=>(hg' j hj).imp id fun x=>x.1
     obtain⟨q1,q2,q3,q4,q5,q6,q7,q8,q9,q10,q11⟩:=HB5.o;have hmid:∀ k,w.heap.size≤k→k<w5.heap.size→wr.heap[k]? =w5.heap[k]? :=fun k h1 h2=>hb'.block k h2 fun e=>by have:=(hOl k e).2;omega
     have hlow:∀ k,k<w.heap.size→¬Ow f vr vp k→wr.heap[k]? =w.heap[k]? :=fun k h1 h2=>(hb'.block k uo h2).trans (q4.block k h1 h2)
     have hws:=hb'.size;by_cases hlt:i<m
     ·have hir:i<rs.length:=by rw[HM.o];exact hlt
      obtain⟨b,off,ho,hbl,hc⟩:=q11.2.2.2.2 uo;have hb2:=q10 b off ho;obtain⟨⟨bp,bt⟩,hbr⟩:∃ x,rs[i]=x:=⟨_,rfl⟩;have hget:=fun j hj=>flat_get fc 2 (fun _=>rfl) rs i ⟨bp,bt⟩ (by rw[List.getElem?_eq_getElem hir,hbr]) j hj
      have k0:wr.cell? ⟨b,off+i*2,none⟩=some (.int .u32 (bp:Int)):=by
       refine(World.cell?_of_block (a:=⟨b,off+i*2,none⟩) (hmid b uo hbl)).trans ?_;have:=hc (i*2+0) _ (hget 0 uo);exact this
      have k1:wr.cell? ⟨b,off+i*2+1,none⟩=some (.string bt):=by
       refine(World.cell?_of_block (a:=⟨b,off+i*2+1,none⟩) (hmid b uo hbl)).trans ?_;have:=hc (i*2+1) _ (hget 1 uo);rw[show off+(i*2+1)=off+i*2+1 by omega] at this;exact this
      have hbp:bp<4294967296:=by have:=HP4.o.2.1 ⟨bp,bt⟩ (by rw[←hbr];exact List.getElem_mem hir);exact this
      have hdrop:rs.drop i=⟨bp,bt⟩::rs.drop (i+1):=by rw[←hbr];exact List.drop_eq_getElem_cons hir
      rw[hdrop,dW] at hst;obtain⟨wr1,hwr1⟩:∃ wr1,wr.alloc (.cells #[.int .u32 (bp:Int),.string bt] 49)=wr1:=⟨_,rfl⟩;have b1:Below wr.heap.size wr wr1:=by rw[←hwr1];exact bF _ _
      have hs1:wr1.heap.size=wr.heap.size+1:=by rw[←hwr1];simp
      have y1:FB wr.heap.size (bp:Int) bt wr1:=by rw[←hwr1];exact zq wr _
      have hfl:∀ k,A.has k∨fQ A k→k<w.heap.size→wr1.heap[k]? =w.heap[k]? :=fun k hh hl=>(b1.block k uo).trans (hlow k hl fun e=>by have:=(hOl k e).1;have:=HAk.o k hh;omega)
      have hCC:=HIH.o s' vr' vp' wr1 ⟨bp,bt⟩ (hI'.keep fun j hj _=>b1.block j hj) (mM HVT.o.1 uo fun k hl hh=>hfl k hh hl) (kU HVT.o.2 fun k hl hh=>hfl k (.inr (.inr hh)) hl) (by have:=HDn.o.1;omega) hbp;have hn1:=zp5 (eJ Kt v t) d s' ⟨bp,bt⟩;obtain⟨hn2',hn3'⟩:=uI (eJ Kt v t) d s' ⟨bp,bt⟩;generalize cn (eJ Kt v t) d s' ⟨bp,bt⟩=kk at hCC hst hn1 hn2' hn3';obtain⟨ks,ke⟩:=kk;simp only at hst hn1 hn2' hn3';have HCC:Hid (Calls Tryz.prog 59 #[pt f,.agg #[.int .u32 (bp:Int),.string bt]] wr1 (RP A f vr' vp' wr1 (ks,ke))):=hCC;have HCn:Hid (sn+1≤ks.n∧ks.rows.length+4≤4*ks.n∧ks.pages.length+1≤ks.n):=by refine(?_:_∧_∧_);omega
      have HSt:Hid _:=hst;have HWr:Hid (Below wr.heap.size wr wr1∧wr1.heap.size=wr.heap.size+1∧(∀ j,Ow f vr' vp' j→Ow f vr vp j∨w5.heap.size≤j)∧cu (Ow f vr vp) (Ow f vr' vp') w5 wr∧bC (Ow f vr vp) w5 wr∧w.heap.size≤w5.heap.size∧bC (Ow f vr vp) w w5):=⟨b1,hs1,nOw,hg',hb',by omega,q4⟩
      have HFin:Hid (∀ vr'' vp'' w6,fK A f ks vr'' vp'' w6→cu (Ow f vr' vp') (Ow f vr'' vp'') wr1 w6→bC (Ow f vr' vp') wr1 w6→cu (Ow f vr vp) (Ow f vr'' vp'') w5 w6∧bC (Ow f vr vp) w5 w6):=fun vr'' vp'' w6 j1 j2 j3=>by
       have:=j3.size;refine⟨fun j hj=>?_,⟨j3.os.trans (b1.os.trans hb'.os),j3.tape.trans (b1.tape.trans hb'.tape),j3.output.trans (b1.output.trans hb'.output),by omega,fun j hj hn=>?_⟩⟩
       ·rcases j2 j hj with x|x
        ·exact(hg' j x).imp id fun y=>⟨y.1,by omega⟩
        ·exact .inr ⟨by omega,x.2⟩
       ·refine(j3.block j uo fun e=>?_).trans ((b1.block j uo).trans (hb'.block j hj hn))
        rcases nOw j e with x|x
        ·exact hn x
        ·omega
      have qi:(i:Int)<(m:Int):=uo
      have qi0:(0:Int)≤(i:Int):=uo
      obtain⟨u1,u2,u3,u4⟩:=y1.facts;have HWr1:Hid _:=hwr1;subst ho;clear hI' hg' hb' hst hcn hOl nOw q1 q2 q3 q4 q5 q6 q7 q8 q9 q10 q11 hmid hlow hws hir hc hb2 hget hbp hdrop hwr1 b1 hs1 y1 hfl hCC hn1 hn2' hn3' hbr
      go_wp2_with (first|(rw[HWr1.o];clear HWr1))
      refine Calls.mono HCC.o ?_;rintro e w6 ⟨rfl,vr'',vp'',j1,j2,j3⟩;obtain⟨x1,x2⟩:=HFin.o vr'' vp'' w6 j1 j2 j3;by_cases hke:ke=0
      ·subst hke
       have HRl:Hid (fK A f ks vr'' vp'' w6∧cu (Ow f vr vp) (Ow f vr'' vp'') w5 w6∧bC (Ow f vr vp) w5 w6):=⟨j1,x1,x2⟩;clear j1 j2 j3 x1 x2 HCC HFin k0 k1 u1 u2 u3 u4;go_wp2_with fail;refine⟨⟨i+1,ks,vr'',vp'',by omega,by go_num,HRl.o.1,HRl.o.2.1,HRl.o.2.2,by rw[HSt.o];exact if_pos trivial,HCn.o⟩,?_⟩;simp[bu];omega
      ·have hke':(ke==0)=false:=by simpa using hke
       have HR:Hid (RP A f vr vp w KK (.returned (.int .i64 ke)) w6):=by
        have e0:KK=(ks,ke):=by rw[HK3.o,HSt.o,if_neg hke,if_neg hke]
        rw[e0];obtain⟨-,-,-,-,-,z6,z7⟩:=HWr.o;have:=x2.size;refine⟨rfl,vr'',vp'',j1,fun j hj=>(x1 j hj).imp id fun y=>⟨by omega,y.2⟩,z7.trans x2⟩
       clear j1 j2 j3 x1 x2 HCC HFin k0 k1 u1 u2 u3 u4;go_wp2_with fail;go_ret;exact HR.o
     ·obtain rfl:i=m:=uo
      have hdr:rs.drop i=[]:=List.drop_eq_nil_of_le (by rw[HM.o];exact Nat.le_refl _);rw[hdr] at hst;have hst0:dW (cn (eJ Kt v t) d) rs ⟨sn+1,srows,spages⟩=(s',0):=hst;have hKK:KK=(⟨s'.n,s'.rows++P.l,s'.pages++[⟨X,⟨rp,rt⟩⟩]⟩,0):=by rw[HK3.o,hst0,if_pos rfl]
      have hrn:qrn=P.l.length:=q8.at'.rn;have hrw:cH wr qro qrc P.l:=nG q8.at'.rows hws fun b off e hn hl=>hmid b (by have:=q9 b off e;omega) hl
      have hpg:=(hmid _ uo uo).trans q7;obtain⟨ro1,rc1,hv1,-⟩:=dx hI'.rows;obtain⟨ro2,rc2,hv2,-⟩:=dx hI'.pages;subst hv1 hv2;have hIw:fK A f s' (.slice ro1 s'.rows.length rc1) (.slice ro2 s'.pages.length rc2) wr.drew:=hI'.keep fun j hj _=>rfl
      obtain⟨vr2,W6,hrun,z6,d6,k6,hI6,hg6,hb6⟩:=hIw.addRows hcn.2.1 (show cH wr.drew qro qrc P.l from nG hrw zn fun _ _ _ _ _=>rfl) HP4.o.1;obtain⟨W7,hW7⟩:∃ W7,W6.setCell ⟨f,2,none⟩ vr2=W7:=⟨_,rfl⟩;rw[hW7] at hI6 hg6 hb6;have hs7:=hb6.size;have hs7':wr.heap.size≤W7.heap.size:=hs7;have hk7:∀ k,k<wr.heap.size→¬Ow f (.slice ro1 s'.rows.length rc1) (.slice ro2 s'.pages.length rc2) k→W7.heap[k]? =wr.heap[k]? :=fun k h1 h2=>hb6.block k h1 h2
      have hfb7:FB w.heap.size (rp:Int) rt W7:=(hk7 _ uo fun e=>by
       rcases nOw _ e with x|x
       ·have:=(hOl _ x).2;omega
       ·omega).trans ((hmid _ uo uo).trans q2)
      obtain⟨Wb,hWb⟩:∃ Wb,(W7.alloc (.cells #[.string X,.int .u32 (rp:Int),.string rt] 51)).drew=Wb:=⟨_,rfl⟩;have bb:Below W7.heap.size W7 Wb:=by rw[←hWb];exact(bF W7 _).drew
      have hsb:Wb.heap.size=W7.heap.size+1:=by rw[←hWb];simp
      have hIb:fK A f ⟨s'.n,s'.rows++P.l,s'.pages⟩ vr2 (.slice ro2 s'.pages.length rc2) Wb:=hI6.keep fun j hj _=>(bb.block j hj)
      obtain⟨vp2,W8,hrun2,z8,d8,k8,hI8,hg8,hb8⟩:=hIb.addPage hcn.2.2 ⟨X,⟨rp,rt⟩⟩ (b:=W7.heap.size) (by rw[←hWb];exact zq W7 _);obtain⟨W9,hW9⟩:∃ W9,W8.setCell ⟨f,3,none⟩ vp2=W9:=⟨_,rfl⟩;rw[hW9] at hI8 hg8 hb8;have hs9:=hb8.size
      have HR:Hid (RP A f vr vp w KK (.returned (.int .i64 0)) W9):=by
       rw[hKK];refine⟨rfl,vr2,vp2,hI8,fun j hj=>?_,⟨hb8.os.trans (bb.os.trans (hb6.os.trans (hb'.os.trans q4.os))),hb8.tape.trans (bb.tape.trans ?_),hb8.output.trans (bb.output.trans (hb6.output.trans (hb'.output.trans q4.output))),by omega,fun k h1 h2=>?_⟩⟩
       ·rcases hg8 j hj with x|x
        ·rcases hg6 j x with y|y
         ·exact(hg' j y).imp id fun z=>⟨by omega,by omega⟩
         ·exact .inr ⟨by have:=y.1;simp at this;omega,by have:=y.2;omega⟩
        ·exact .inr ⟨by omega,x.2⟩
       ·exact hb6.tape.trans (hb'.tape.trans q4.tape)
       ·have n7:¬Ow f (.slice ro1 s'.rows.length rc1) (.slice ro2 s'.pages.length rc2) k:=fun e=>by
         rcases nOw k e with x|x
         ·exact h2 x
         ·omega
        have n8:¬Ow f vr2 (.slice ro2 s'.pages.length rc2) k:=fun e=>by
         rcases hg6 k e with x|x
         ·exact n7 x
         ·have:=x.1;simp at this;omega
        exact(hb8.block k uo n8).trans ((bb.block k uo).trans ((hk7 k uo n7).trans (hlow k h1 h2)))
      have HI7:Hid (W7.cell? ⟨f,3,none⟩=some (.slice ro2 s'.pages.length rc2)∧Wb.cell? ⟨f,3,none⟩=some (.slice ro2 s'.pages.length rc2)):=⟨(je hI6.self).2.2.2,(je hIb.self).2.2.2⟩;have HFb:Hid (FB w.heap.size (rp:Int) rt W7):=hfb7
      have nOws:∀ k,w.heap.size≤k→k<w5.heap.size→¬Ow f (.slice ro1 s'.rows.length rc1) (.slice ro2 s'.pages.length rc2) k:=fun k h1 h2 e=>by
       rcases nOw k e with x|x
       ·have:=(hOl k x).2;omega
       ·omega
      rw[←hrn] at hrun;have d2:wr.cell? ⟨f,2,none⟩=some (.slice ro1 s'.rows.length rc1):=(je hI'.self).2.2.1;have dq:wr.cell? ⟨w3.heap.size,4,none⟩=some (.slice qro qrn qrc):=by rw[zr hpg];rfl
      have dq6:W6.cell? ⟨w3.heap.size,4,none⟩=some (.slice qro qrn qrc):=by rw[zr ((k6 w3.heap.size (by have:w3.heap.size<wr.heap.size:=(zi hpg).1;exact this) (nOws _ uo uo)).trans hpg)];rfl
      have dq7:W7.cell? ⟨w3.heap.size,4,none⟩=some (.slice qro qrn qrc):=by rw[zr ((hk7 w3.heap.size (zi hpg).1 (nOws _ uo uo)).trans hpg)];rfl
      have HSq:Hid (wr.drew.cell? ⟨w3.heap.size,4,none⟩=some (.slice qro qrn qrc)∧W6.cell? ⟨w3.heap.size,4,none⟩=some (.slice qro qrn qrc)∧W7.cell? ⟨w3.heap.size,4,none⟩=some (.slice qro qrn qrc)):=⟨dq,dq6,dq7⟩;have hfb7':=hfb7.facts
      have nW7:¬Ow f vr2 (.slice ro2 s'.pages.length rc2) w.heap.size:=fun e=>by
       rcases hg6 _ e with x|x
       ·exact nOws _ zn uo x
       ·have:=x.1;simp at this;omega
      have lw7:w.heap.size<W7.heap.size:=(zi hfb7).1;have hfbb:FB w.heap.size (rp:Int) rt Wb:=(bb.block _ lw7).trans hfb7;have hfb8:FB w.heap.size (rp:Int) rt W8:=(k8 _ uo nW7).trans hfbb;have hfb9:FB w.heap.size (rp:Int) rt W9:=(hb8.block _ uo nW7).trans hfbb;have HSr:Hid ((Wb.cell? ⟨w.heap.size,0,none⟩=some (.int .u32 (rp:Int))∧Wb.cell? ⟨w.heap.size,1,none⟩=some (.string rt))∧(W8.cell? ⟨w.heap.size,0,none⟩=some (.int .u32 (rp:Int))∧W8.cell? ⟨w.heap.size,1,none⟩=some (.string rt))∧(W9.cell? ⟨w.heap.size,0,none⟩=some (.int .u32 (rp:Int))∧W9.cell? ⟨w.heap.size,1,none⟩=some (.string rt))):=⟨⟨hfbb.facts.2.2.1,hfbb.facts.2.2.2⟩,⟨hfb8.facts.2.2.1,hfb8.facts.2.2.2⟩,⟨hfb9.facts.2.2.1,hfb9.facts.2.2.2⟩⟩;obtain⟨ro3,rc3,hv3,-⟩:=dx hI8.rows;obtain⟨ro4,rc4,hv4,-⟩:=dx hI8.pages;obtain⟨n3,hn3⟩:∃ n3,(s'.rows++P.l).length=n3:=⟨_,rfl⟩;obtain⟨n4,hn4⟩:∃ n4,(s'.pages++[(⟨X,⟨rp,rt⟩⟩:Sv)]).length=n4:=⟨_,rfl⟩
      have hv3':vr2=.slice ro3 n3 rc3:=by rw[←hn3];exact hv3
      have hv4':vp2=.slice ro4 n4 rc4:=by rw[←hn4];exact hv4
      clear hv3 hv4;subst hv3' hv4';have HW7:Hid _:=hW7;have HWb:Hid _:=hWb;have HW9:Hid _:=hW9;have HRun:Hid _:=hrun;have HZ6:Hid (W6.frozen? ⟨f,2,none⟩=false∧W6.cell? ⟨f,2,none⟩=some (.slice ro1 s'.rows.length rc1)):=⟨z6,d6⟩;have HRun2:Hid _:=And.intro hrun2 (And.intro z8 d8);have qm:¬(i:Int)<(i:Int):=uo
      clear hI' hg' hb' hst hcn hOl nOw q1 q2 q3 q4 q5 q6 q7 q8 q9 q10 q11 hmid hlow hws hdr hst0 hKK hrn hrw hpg hIw hI6 hg6 hb6 hW7 hs7 hs7' hk7 hfb7 hWb bb hsb hIb hI8 hg8 hb8 hW9 hs9 hrun2 z8 d8 k6 k8 nOws dq dq6 dq7 hfb7' nW7 lw7 hfbb hfb8 hfb9 hrun z6 d6;go_wp2_with fail;have HSW:Hid (wr.drew.cell? ⟨w3.heap.size,4,none⟩=some (.slice qro qrn qrc)∧True):=⟨HSq.o.1,trivial⟩;refine wp_region_held (S:=fun W=>W.cell? ⟨w3.heap.size,4,none⟩=some (.slice qro qrn qrc)∧True) uk ?_;change wpAnyH _ _ _ _ _ _ _ _ (World.drew _);refine bB [0,1,2,3,5,6] ?_
      iterate 6
       refine bS (v:=?_) rfl ?_ HSW.o ?_;rotate_left
       ·rintro w ⟨e1,e2⟩;go_simp;try with_reducible rfl
       conv in(Act.put _ _ _)=>simp only[bH,bI,bJ,Act.put,bK,bL,bM]
      refine bA ?_;refine dF 4 _ uk rfl uk (fun K hK=>?_);go_simp;refine hK _ _ ⟨HSq.o.1,trivial⟩ ?_;clear hK K d2;refine dF 7 _ uk rfl uk (fun K hK=>?_);refine uJ 22 22 (.tmp 60) (.tmp 62) rfl (vs:=.slice ro1 s'.rows.length rc1) (vx:=.slice qro qrn qrc) rfl rfl HRun.o ?_;refine hK _ _ ⟨HSq.o.2.1,trivial⟩ ?_;clear hK K HRun
      replace HSW:Hid (W6.cell? ⟨w3.heap.size,4,none⟩=some (.slice qro qrn qrc)∧True):=⟨HSq.o.2.1,trivial⟩
      refine bB [8,9] ?_
      iterate 2
       refine bS (v:=?_) rfl ?_ HSW.o ?_;rotate_left
       ·rintro w ⟨e1,e2⟩;go_simp;try with_reducible rfl
       conv in(Act.put _ _ _)=>simp only[bH,bI,bJ,Act.put,bK,bL,bM]
      refine bA ?_;refine dF 10 _ uk rfl uk (fun K hK=>?_);obtain⟨z6,d6⟩:=HZ6.o;go_simp;rw[HW7.o];refine hK _ _ ⟨HSq.o.2.2,trivial⟩ ?_;clear hK K HSq z6 d6;refine wpAnyH_done uk ?_ _;clear HSW
      rename_i hKy
      refine hKy _ _ ?_;clear hKy HW7;go_wp2_with fail;have HSW:Hid ((W7.drew.cell? ⟨w.heap.size,0,none⟩=some (.int .u32 (rp:Int))∧W7.drew.cell? ⟨w.heap.size,1,none⟩=some (.string rt))):=⟨HFb.o.facts.2.2.1,HFb.o.facts.2.2.2⟩;refine wp_region_held (S:=fun W=>W.cell? ⟨w.heap.size,0,none⟩=some (.int .u32 (rp:Int))∧W.cell? ⟨w.heap.size,1,none⟩=some (.string rt)) uk ?_;change wpAnyH _ _ _ _ _ _ _ _ (World.drew _);refine bB [0,1,2,3,5,6,7] ?_
      iterate 7
       refine bS (v:=?_) rfl ?_ HSW.o ?_;rotate_left
       ·rintro w ⟨e1,e2⟩;go_simp;try with_reducible rfl
       conv in(Act.put _ _ _)=>simp only[bH,bI,bJ,Act.put,bK,bL,bM]
      refine bA ?_;obtain⟨d3,d3l⟩:=HI7.o;obtain⟨-,z8,d8⟩:=HRun2.o;refine zka 4 8 _ _ uk rfl rfl uk uk (fun K hK=>?_) (fun K hK=>?_)
      ·go_simp
       refine hK _ _ HSW.o ?_;clear hK K;refine dF 8 _ uk rfl uk (fun K hK=>?_);go_simp;rw[HWb.o];refine hK _ _ HSr.o.1 ?_;clear hK K;refine dF 9 _ uk rfl uk (fun K hK=>?_);refine uJ 29 29 (.tmp 70) (.tmp 74) rfl (vs:=.slice ro2 s'.pages.length rc2) (vx:=.slice (some ⟨W7.heap.size,0,none⟩) 1 1) rfl rfl HRun2.o.1 ?_;refine hK _ _ HSr.o.2.1 ?_;clear hK K
       replace HSW:Hid ((W8.cell? ⟨w.heap.size,0,none⟩=some (.int .u32 (rp:Int))∧W8.cell? ⟨w.heap.size,1,none⟩=some (.string rt))):=HSr.o.2.1
       refine bB [10,11] ?_
       iterate 2
        refine bS (v:=?_) rfl ?_ HSW.o ?_;rotate_left
        ·rintro w ⟨e1,e2⟩;go_simp;try with_reducible rfl
        conv in(Act.put _ _ _)=>simp only[bH,bI,bJ,Act.put,bK,bL,bM]
       refine bA ?_;refine dF 12 _ uk rfl uk (fun K hK=>?_);go_simp;rw[HW9.o];refine hK _ _ HSr.o.2.2 ?_;clear hK K;refine wpAnyH_done uk ?_ _;clear HSW
       rename_i hKx
       refine hKx _ _ ?_;clear hKx;go_wp2_with fail;go_ret;exact HR.o
      ·go_simp
       rw[HWb.o];refine hK _ _ HSr.o.1 ?_;clear hK K;refine dF 4 _ uk rfl uk (fun K hK=>?_);go_simp;refine hK _ _ HSr.o.1 ?_;clear hK K;refine dF 9 _ uk rfl uk (fun K hK=>?_);refine uJ 29 29 (.tmp 70) (.tmp 74) rfl (vs:=.slice ro2 s'.pages.length rc2) (vx:=.slice (some ⟨W7.heap.size,0,none⟩) 1 1) rfl rfl HRun2.o.1 ?_;refine hK _ _ HSr.o.2.1 ?_;clear hK K
       replace HSW:Hid ((W8.cell? ⟨w.heap.size,0,none⟩=some (.int .u32 (rp:Int))∧W8.cell? ⟨w.heap.size,1,none⟩=some (.string rt))):=HSr.o.2.1
       refine bB [10,11] ?_
       iterate 2
        refine bS (v:=?_) rfl ?_ HSW.o ?_;rotate_left
        ·rintro w ⟨e1,e2⟩;go_simp;try with_reducible rfl
        conv in(Act.put _ _ _)=>simp only[bH,bI,bJ,Act.put,bK,bL,bM]
       refine bA ?_;refine dF 12 _ uk rfl uk (fun K hK=>?_);go_simp;rw[HW9.o];refine hK _ _ HSr.o.2.2 ?_;clear hK K;refine wpAnyH_done uk ?_ _;clear HSW
       rename_i hKx
       refine hKx _ _ ?_;clear hKx;go_wp2_with fail;go_ret;exact HR.o
  ·have hE':(E==0)=false:=by simpa using hE
   have HKe:Hid (KK=(⟨sn+1,srows,spages⟩,E)):=HG0.o hE
   have HR:Hid (RP A f vr vp w KK (.returned (.int .i64 E)) w2):=by
    rw[HKe.o];obtain⟨g1,g2,g3,g4⟩:=HB2.o;exact⟨rfl,vr,vp,g1,fun j hj=>.inl hj,g4⟩
   clear HG0 HG1 HG2 HKe HB2;go_wp2_with fail;go_ret;exact HR.o
end Rz
end Go.Proofs.YtokfnghckpgjmaaGreatDoor
