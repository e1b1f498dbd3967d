/- Save's own way to give refs: a page is written to the vault; its place is kept in mind. -/
import Derived.Test.YtokfnghckpgjmaaGreatDoorQHgn
import Derived.Test.YtokfnghckpgjmaaGreatDoorQVM
set_option maxRecDepth 100000
set_option maxHeartbeats 4000000
namespace Go.Proofs.YtokfnghckpgjmaaGreatDoor
namespace Rz
open Go.RowKit Go.Lib Go.Shelf
open Rc Rq
open Rw (Rf fcv fc zaB Pp PAt PgAt okP encS encE pz gv Pg rpp pB gcs)
open Rv (FB zab zaS Vlt Vs Pl Vok Hon zaw cf take zbT blk)
open Rd (pt St Ok)
structure Sx where
 v:Vs
 t:St
 tk:List Nat
def svP (Kt:Nat→Int):Pm Sx:=fun s x=>
 match zaw s.v.tk s.t.n with
 |some p=>((⟨p%4294967296,Rs.tagS (blk Kt s.v p x)⟩,0),⟨take (zbT s.v) p,Rd.zau s.t p (blk Kt s.v p x),s.tk++[p]⟩)
 |none=>((zf,110),s)
def RgB (A:Pl) (k:Nat):Prop:=∃ off,A.o=some ⟨k,off,none⟩
abbrev uv (x:Nat):Value:=.int .u32 (x:Int)
def Und (A:Pl) (k:Nat):Prop:=RgB A k∨k=3∨k=2
theorem zbO {w j:World} {A:Pl} {v:Vs} {t:St} (h:Vlt w A v t) (hs:w.heap.size≤j.heap.size) (a:∀ k,k<w.heap.size→A.has k∨Und A k→j.heap[k]? =w.heap[k]?):Vlt j A v t:=by
 have c:=h.lt;obtain⟨m,d⟩:=h.self;refine⟨⟨(a _ c.1 (.inl (.inl rfl))).trans m,⟨d.1.1,d.1.2.1,d.1.2.2.1,fun l=>?_⟩,d.2⟩,h.map.same (a _ c.2.1 (.inl (.inr (.inl rfl)))),h.dev.same (a _ c.2.2.1 (.inl (.inr (.inr (.inl rfl))))) (a _ c.2.2.2.1 (.inl (.inr (.inr (.inr (.inl rfl)))))) (a _ c.2.2.2.2 (.inl (.inr (.inr (.inr (.inr rfl)))))),h.gt,h.gd,h.td,h.no1,h.no2⟩;obtain⟨b,f,e,g,n⟩:=d.1.2.2.2 l;exact⟨b,f,e,Nat.lt_of_lt_of_le g hs,fun i o=>(n i o).same (a b g (.inr (.inl ⟨f,e⟩)))⟩
theorem zbH {Kt:Nat→Int} {w w':World} (h:Rs.Tb Kt w) (hk:∀ k,k<w.heap.size→(k=3∨k=2)→w'.heap[k]? =w.heap[k]?):Rs.Tb Kt w':=by
 obtain⟨⟨a,b,h1⟩,c,d,h2⟩:=h;exact⟨⟨a,b,(hk _ (zi h1).1 (.inl rfl)).trans h1⟩,c,d,(hk _ (zi h2).1 (.inr rfl)).trans h2⟩
theorem zho {l:List Rk.Ky} {g:Int} (h:Rk.feS l g=0):l≠[]:=fun e=>by
 subst e;unfold Rk.feS at h;split at h
 ·rename_i h1
  simp[Rk.zbr] at h
 ·exact absurd h (by decide)
theorem zlw {w:World} {A:Pl} {v:Vs} {t:St} (h:Vlt w A v t) (hv:Vok v) {k:Nat} (hu:Und A k):¬A.has k:=by
 rcases hu with⟨off,hu⟩|rfl|rfl
 ·exact h.self.2.2 k off hu (zho hv.f)
 ·exact h.no1
 ·exact h.no2
structure SvI (Kt:Nat→Int) (A:Pl) (c:Nat→Option Obj) (b1 b2:Nat) (s:Sx) (F:Nat→Prop) (W:World):Prop where
 vlt:Vlt W A s.v s.t
 vok:Vok s.v
 hon:Hon s.t
 tb:Rs.Tb Kt W
 room:s.v.seals+cf s.v.tk s.t.n≤100000∧s.tk.length≤s.v.seals
 bx1:W.heap[b1]? =some (.cells #[pt A.g] 24 (0,0))
 row:∃ tv,W.heap[b2]? =some (.cells #[tv] 90 (0,0))∧W.ownsRow (b2+1) 41 1 tv s.tk.length (s.tk.map uv)∧∀ g,tv.ownBlock=some g→F g∧¬A.has g∧¬Und A g
 nb:¬A.has b1∧¬A.has b2∧¬Und A b1∧¬Und A b2∧b1<b2
 lt:∀ k,F k→k<W.heap.size
 on:∀ k,A.has k∨Und A k∨k=b1∨k=b2→F k
 und:∀ k,Und A k→W.heap[k]? =c k
theorem SvI.keep {Kt:Nat→Int} {A:Pl} {c:Nat→Option Obj} {b d:Nat} {s:Sx} {F:Nat→Prop} {W W':World} (h:SvI Kt A c b d s F W) (hs:W.heap.size≤W'.heap.size) (a:∀ k,F k→W'.heap[k]? =W.heap[k]?):SvI Kt A c b d s F W':=by
 obtain⟨l,m,n,i⟩:=h.row
 exact⟨zbO h.vlt hs fun k _ e=>a k (h.on k (e.imp id .inl)),h.vok,h.hon,zbH h.tb fun k _ e=>a k (h.on k (.inr (.inl (.inr e)))),h.room,(a b (h.on b (.inr (.inr (.inl rfl))))).trans h.bx1,
  ⟨l,(a d (h.on d (.inr (.inr (.inr rfl))))).trans m,zaF n fun g o _=>a g (i g o).1,i⟩,h.nb,fun k f=>Nat.lt_of_lt_of_le (h.lt k f) hs,h.on,fun k j=>(a k (h.on k (.inr (.inl j)))).trans (h.und k j)⟩
theorem zis {tk:Nat→Option Unit} {n p:Nat} (h:zaw tk n=some p):p<n∧(tk p).isSome=false∧∀ q,q<p→(tk q).isSome=true:=by
 unfold Rv.zaw at h;rw[List.find?_range_eq_some] at h;obtain⟨f,a,b⟩:=h;refine⟨by simpa using a,by cases c:tk p<;>simp_all,fun q d=>?_⟩;have:=b q d;cases c:tk q<;>simp_all
theorem zfA {tk:Nat→Option Unit} {p:Nat} (b:(tk p).isSome=false):∀ n,cf (Rv.tput tk p (some ())) n+(if p<n then 1 else 0)=cf tk n
 |0=>rfl
 |n+1=>by
  have d:=zfA b n;rw[Rv.zdn,Rv.zdn];by_cases c:n=p
  ·subst c
   have e1:(Rv.tput tk n (some ()) n).isSome=true:=by simp[Rv.tput]
   rw[if_pos e1,b];simp only[Bool.false_eq_true,if_false,Nat.lt_irrefl,Nat.lt_succ_self,if_true] at d ⊢;omega
  ·have e1:Rv.tput tk p (some ()) n=tk n:=by simp[Rv.tput,c]
   rw[e1];have e:(p<n+1)↔(p<n):=by omega
   simp only[e];split<;>omega
theorem zqo:(Tryz.prog.info? 41).map (fun i=>(i.zero,i.size,i.bytes))=some (some (.int .u32 0),1,4):=by kernel_rfl
theorem zqp {w:World} {g:Nat} {x:Nat} {t:TypeId} {b:Nat × Nat} (h:w.heap[g]? =some (.cells #[uv x] t b)):Sl 1 w (some ⟨g,0,none⟩) 1 1 [uv x]:=by
 refine⟨Nat.le_refl _,by decide,fun e=>(by cases e),rfl,fun _=>⟨g,0,rfl,(zi h).1,fun j u a=>?_⟩⟩;rw[zr h]
 match j,((List.getElem?_eq_some_iff.1 a).1),a with
 |0,_,a=>simpa using a
theorem znf:∀ args w,(callFunc 46 args).run Tryz.prog w=.ok (.enter 46 args) w:=enters_of Tryz.func46 (by kernel_rfl) rfl
theorem zjm (Kt:Nat→Int) (A:Pl) (c:Nat→Option Obj) (j q:Nat) (s:Sx) (F:Nat→Prop) (W:World) (x:ByteArray) (y:x.size≤198) (h:SvI Kt A c j q s F W) (z:zaw s.v.tk s.t.n=none):
  Calls Tryz.prog 46 #[.string x,.pointer (some ⟨j,0,none⟩),.pointer (some ⟨q,0,none⟩)] W fun e W'=>e=.returned (.tuple #[fcv zf,.int .i64 110])∧Below W.heap.size W W':=by
 obtain⟨b,d⟩:∃ b,W.alloc (.cells #[.int .u32 0,.string ⟨#[]⟩] 49)=b:=⟨_,rfl⟩;have k:Below W.heap.size W b:=by rw[←d];exact zaa _ _
 have C:Hid _:=(Rv.zjd A s.v s.t x y b (h.vlt.below k zn) h.hon.ok z);have H:b.cell? ⟨j,0,none⟩=some (pt A.g):=by rw[zr ((k.block _ (zi h.bx1).1).trans h.bx1)];rfl
 have f:Hid _:=d;have r:Hid _:=k;have l:Hid (FB W.heap.size 0 ⟨#[]⟩ b):=(by rw[←d];exact zaS W);go_enter Tryz.func46,Tryz.ntmps46
 go_wp2_with (first|(rw[f.out];clear f))
 refine Calls.mono C.out ?_;rintro e u ⟨rfl,a⟩;obtain⟨I,J,K,L⟩:=(l.out.grow a).facts;have M:=(zi (l.out.grow a)).1;obtain⟨D,m⟩:=(l.out.grow a).set 0 ⟨#[]⟩;have i:=zaa ((u.setCell ⟨W.heap.size,0,none⟩ (.int .u32 0)).setCell ⟨W.heap.size,1,none⟩ (.string ⟨#[]⟩)) (.cells #[.int .u32 0,.string ⟨#[]⟩] 49);have o:Hid _:=FB.grow D i
 have p:Hid (Below W.heap.size W (((u.setCell ⟨W.heap.size,0,none⟩ (.int .u32 0)).setCell ⟨W.heap.size,1,none⟩ (.string ⟨#[]⟩)).alloc (.cells #[.int .u32 0,.string ⟨#[]⟩] 49))):=by
  refine(?_:Below _ _ _);have w:=(r.out.trans (a.mono r.out.size)).trans (m _ zn);exact w.trans (i.mono w.size)
 go_wp2_with fail;refine bodyPost_ret (zab rfl _ _ _ _ _ _ rfl rfl o.out) rfl ?_;exact⟨rfl,p.out⟩
theorem zlx (Kt:Nat→Int) (A:Pl) (c:Nat→Option Obj) (X q:Nat) (s:Sx) (F:Nat→Prop) (W:World) (x:ByteArray) (hx:x.size≤198) (h:SvI Kt A c X q s F W) (p:Nat) (K:zaw s.v.tk s.t.n=some p):
  Calls Tryz.prog 46 #[.string x,.pointer (some ⟨X,0,none⟩),.pointer (some ⟨q,0,none⟩)] W fun e W'=>e=.returned (.tuple #[fcv ⟨p%4294967296,Rs.tagS (blk Kt s.v p x)⟩,.int .i64 0])∧∃ F',SvI Kt A c X q ⟨take (zbT s.v) p,Rd.zau s.t p (blk Kt s.v p x),s.tk++[p]⟩ F' W'∧But F W W'∧Grw F F' W W':=by
 obtain⟨p1,p2,p3⟩:=zis K;have n1:=h.hon.ok.n1;have am:p%4294967296=p:=Nat.mod_eq_of_lt (by omega);rw[am];have az:=h.room.1;have aA:=h.room.2;have an:=zfA p2 s.t.n;rw[if_pos p1] at an;have aa:=h.vok.next (by omega) p;have ao:=(Rs.zbG Kt s.v.ring (Rv.hd s.v p) (h.vok.fits (by omega)) x (h.vok.se p hx)).1;obtain⟨-,ab,ac,-⟩:=Rv.zc1 h.hon p1 ao;obtain⟨W0,a4⟩:∃ W0,W.alloc (.cells #[.int .u32 0,.string ⟨#[]⟩] 49)=W0:=⟨_,rfl⟩;have b0:Below W.heap.size W W0:=by rw[←a4];exact zaa _ _
 have y0:FB W.heap.size 0 ⟨#[]⟩ W0:=by rw[←a4];exact zaS W
 have h0:=h.keep b0.size fun k f=>b0.block k (h.lt k f)
 have hC:=Rv.zgx Kt A s.v s.t x hx p W0 h0.vlt h.vok h.hon h0.tb K p1;obtain⟨T,hT⟩:∃ T,Rs.tagS (blk Kt s.v p x)=T:=⟨_,rfl⟩;obtain⟨D,hD⟩:∃ D,Rd.zau s.t p (blk Kt s.v p x)=D:=⟨_,rfl⟩;rw[hT,hD] at hC;rw[hD] at ab ac;rw[hT,hD];obtain⟨V,hV⟩:∃ V,take (zbT s.v) p=V:=⟨_,rfl⟩;have a5:V.seals=s.v.seals+1∧V.tk=Rv.tput s.v.tk p (some ()):=by rw[←hV];exact⟨rfl,rfl⟩
 rw[hV] at hC aa ⊢;have HC:Hid _:=hC;have c1:W0.cell? ⟨X,0,none⟩=some (pt A.g):=by rw[zr h0.bx1];rfl
 have ad:Hid _:=a4;have HB:Hid _:=b0;have HY:Hid _:=y0;have b:Hid _:=h
 have a6:Hid (V.seals+cf V.tk D.n≤100000∧s.tk.length+1≤V.seals∧Vok V∧Hon D):=by
  refine⟨?_,?_,aa,ab⟩
  ·rw[a5.1,a5.2,ac];omega
  ·rw[a5.1];omega
 have C:Hid _:=h.lt;go_enter Tryz.func46,Tryz.ntmps46
 go_wp2_with (first|(rw[ad.out];clear ad))
 refine Calls.mono HC.out ?_;rintro e o ⟨rfl,O,r⟩;have lW:W.heap.size<o.heap.size:=by have:=(zi HY.out).1;have:=r.size;omega
 have a7:∀ k,A.has k→k<W.heap.size:=fun k f=>C.out k (b.out.on k (.inl f))
 have y1:=(r.block _ (zi HY.out).1 fun e=>by have:=a7 _ e;omega).trans HY.out;have u:∀ k,k<W.heap.size→¬A.has k→o.heap[k]? =W.heap[k]? :=fun k f hn=>(r.block k (by have:=HB.out.size;omega) hn).trans (HB.out.block k f)
 obtain⟨tv,t1,t2,t3⟩:=b.out.row;have ae:=(zi t1).1;have P:=(u q ae b.out.nb.2.1).trans t1;have a8:=zaF t2 fun g i K=>u g K (t3 g i).2.1
 obtain⟨y,H⟩:∃ y,o.alloc (.cells #[.int .u32 (p:Int),.string T] 49)=y:=⟨_,rfl⟩;have Q:Below o.heap.size o y:=by rw[←H];exact zaa _ _
 have s2:y.heap.size=o.heap.size+1:=by rw[←H];simp
 have z2:FB o.heap.size (p:Int) T y:=by rw[←H];exact zq o _
 obtain⟨W3,R⟩:∃ W3,y.alloc (.cells #[uv p] 41)=W3:=⟨_,rfl⟩;have S:Below y.heap.size y W3:=by rw[←R];exact zaa _ _
 have z3:W3.heap[y.heap.size]? =some (.cells #[uv p] 41 (0,0)):=by rw[←R];exact zq y _
 have d:=Q.trans (S.mono Q.size)
 obtain⟨E,L,Y,a1,Z,a3⟩:=zaV 90 41 Tryz.underlying90 zqo rfl (by decide) (by decide) W3 (q+1) s.tk.length 1 tv (some ⟨y.heap.size,0,none⟩) 1 (s.tk.map uv) [uv p]
  (zaF a8 fun g _ K=>d.block g K) (by have:=d.size;omega) (zqp z3) (by simp[Value.oneCell']) (by have:=a6.out.1;have:=a6.out.2.1;omega)
 have I:∀ {g:Nat},tv.ownBlock=some g→q+1≤g∧g<W.heap.size:=fun i=>zat t2 i
 have e4:=(Z.block _ (by have:=d.size;omega) (fun e=>by have:=(I e.symm).1;omega)).trans ((d.block _ (by omega)).trans P);obtain⟨G,m⟩:∃ G,L.setCell ⟨q,0,none⟩ E=G:=⟨_,rfl⟩;have s5:G.heap.size=L.heap.size:=by rw[←m];simp[World.setCell]
 have k5:∀ j,j≠q→G.heap[j]? =L.heap[j]? :=fun j J=>by rw[←m];exact Below.heap_setCell _ _ _ _ (fun e=>J e)
 have e5:G.heap[q]? =some (.cells #[E] 90 (0,0)):=by rw[←m];exact zc0 e4
 have ap:=Z.size;have aq:=d.size;have w:∀ j,j<o.heap.size→j≠q→tv.ownBlock≠some j→G.heap[j]? =o.heap[j]? :=fun j J hn ar=>(k5 j hn).trans ((Z.block j (by omega) (fun e=>ar e.symm)).trans (d.block j J))
 have y5:FB W.heap.size 0 ⟨#[]⟩ G:=(w _ lW (by omega) (fun e=>by have:=(I e).2;omega)).trans y1;have z5:FB o.heap.size (p:Int) T G:=(k5 o.heap.size (by omega)).trans ((Z.block o.heap.size (by have:=S.size;omega) (fun e=>by have:=(I e.symm).2;omega)).trans ((S.block _ (by omega)).trans z2));obtain⟨y6,-⟩:=y5.set (p:Int) T;obtain⟨-,a⟩:=y5.put6 (p:Int) T;obtain⟨W6,a9⟩:∃ W6,(G.setCell ⟨W.heap.size,0,none⟩ (.int .u32 (p:Int))).setCell ⟨W.heap.size,1,none⟩ (.string T)=W6:=⟨_,rfl⟩;rw[a9] at y6 a;have au:=a.size;have z:∀ {g:Nat},E.ownBlock=some g→q+1≤g∧g<L.heap.size:=fun i=>zat a1 i
 have U:∀ g,E.ownBlock=some g→(F g∧¬A.has g∧¬Und A g)∨(W3.heap.size≤g∧g<L.heap.size):=fun g i=>by
  rcases a3 with a3|a3
  ·exact .inl (t3 g (by rw[←a3];exact i))
  ·have:=(z i).2
   rw[a3] at i;cases i;exact .inr ⟨Nat.le_refl _,this⟩
 have af:∀ k,Und A k→k<W.heap.size∧¬A.has k→W6.heap[k]? =o.heap[k]? :=fun k M ⟨f,_⟩=>by
  rw[a.block k (by omega) (by omega)];refine w k (by omega) (fun e=>b.out.nb.2.2.2.1 (e▸M)) fun e=>(t3 k e).2.2 M
 have a0:∀ g,W.heap.size≤g→¬A.has g∧¬Und A g:=fun g i=>⟨fun e=>by have:=a7 g e;omega,fun e=>by have:=C.out g (b.out.on g (.inr (.inl e)));omega⟩
 have B:∀ k,k<W.heap.size→A.has k∨Und A k→W6.heap[k]? =o.heap[k]? :=fun k f N=>by
  rw[a.block k (by omega) (by omega)];rcases N with N|N
  ·exact w k (by omega) (fun e=>b.out.nb.2.1 (e▸N)) fun e=>(t3 k e).2.1 N
  ·exact w k (by omega) (fun e=>b.out.nb.2.2.2.1 (e▸N)) fun e=>(t3 k e).2.2 N
 have av:Hid (∃ F',SvI Kt A c X q ⟨V,D,s.tk++[p]⟩ F' W6∧But F W W6∧Grw F F' W W6):=by
  obtain⟨r1,r2,r3,r4⟩:=a6.out
  have ag:But F W W6:=⟨a.os.trans ((by rw[←m];rfl:G.os=L.os).trans (Z.os.trans (d.os.trans (r.os.trans HB.out.os)))),a.tape.trans ((by rw[←m];rfl:G.tape=L.tape).trans (Z.tape.trans (d.tape.trans (r.tape.trans HB.out.tape)))),a.output.trans ((by rw[←m];rfl:G.output=L.output).trans (Z.output.trans (d.output.trans (r.output.trans HB.out.output)))),by omega,fun j J hn=>by
   rw[a.block j (by omega) (by omega),w j (by omega) (fun e=>hn (b.out.on j (.inr (.inr (.inr e))))) (fun e=>hn (t3 j e).1),u j J fun e=>hn (b.out.on j (.inl e))]⟩
  refine⟨fun j=>F j∨E.ownBlock=some j,⟨zbO O (by omega) fun k f N=>?_,r3,r4,?_,⟨r1,by simpa using r2⟩,?_,⟨E,?_,?_,fun g i=>?_⟩,b.out.nb,fun k f=>?_,fun k f=>.inl (b.out.on k f),fun k M=>?_⟩,ag,fun j J=>?_⟩
  ·exact B k (C.out k (b.out.on k (N.imp id .inl))) N
  ·refine zbH b.out.tb fun k f M=>?_
   rw[B k f (.inr (.inr M)),u k f fun e=>?_];rcases M with rfl|rfl
   ·exact O.no1 e
   ·exact O.no2 e
  ·have l:=(zi b.out.bx1).1
   rw[a.block X (by omega) (by omega),w X (by omega) (by have:=b.out.nb.2.2.2.2;omega) (fun e=>by have:=(I e).1;have:=b.out.nb.2.2.2.2;omega),u X l b.out.nb.1];exact b.out.bx1
  ·exact(a.block q (by omega) (by omega)).trans e5
  ·rw[List.map_append,List.length_append]
   exact zaF a1 fun g i K=>(a.block g (by omega) (fun e=>by
    rcases U g i with x|x
    ·have:=C.out g x.1;omega
    ·omega)).trans (k5 g (by have:=(z i).1;omega))
  ·refine⟨.inr i,?_⟩
   rcases U g i with x|x
   ·exact x.2
   ·exact a0 g (by omega)
  ·rcases f with f|f
   ·have:=C.out k f;omega
   ·have:=(z f).2;omega
  ·have K:=C.out k (b.out.on k (.inr (.inl M)))
   rw[B k K (.inr M),u k K (zlw b.out.vlt b.out.vok M)];exact b.out.und k M
  ·rcases J with J|J
   ·exact .inl J
   ·rcases U j J with x|x
    ·exact .inl x.1
    ·exact .inr ⟨by omega,by omega⟩
 obtain⟨f1,f2,f3,f4⟩:=y5.facts;obtain⟨g1,g2,g3,g4⟩:=z5.facts;have t22:=(Q.block _ (zi P).1).trans P;have q1:y.cell? ⟨q,0,none⟩=some tv:=by rw[zr t22];rfl
 obtain⟨m1,m2,m3,m4⟩:=z2.facts
 have q3:L.cell? ⟨q,0,none⟩=some tv:=by rw[zr e4];rfl
 have q4:=frozen_of_row L _ 0 _ _ e4;have ah:Hid _:=H;have ai:Hid _:=R;have aj:Hid _:=m;have aw:Hid _:=a9;have ax:Hid _:=y6;obtain⟨ro,tc,ay,-⟩:=zai a8;obtain⟨aB,aC,ak,-⟩:=zai a1;subst ay ak;have al:Hid _:=Y;clear O r lW a7 y1 u t1 t2 t3 P a8 H Q s2 z2 R S z3 d Y a1 Z a3 I e4 m s5 k5 e5 ap aq w y5 z5 y6 a a9 au z U af a0 B ae HC c1 
 go_wp2_with (first|(rw[ah.out];clear ah)|(rw[ai.out];clear ai)|(rw[aj.out];clear aj)|(at_builtin;refine zaq rfl 90 90 (.tmp 16) (.tmp 19) rfl (vs:=.slice ro s.tk.length tc) (vx:=.slice (some ⟨y.heap.size,0,none⟩) 1 1) rfl rfl al.out ?_))
 rw[aw.out];refine bodyPost_ret (zab rfl _ _ _ _ _ _ rfl rfl ax.out) rfl ?_;exact⟨rfl,av.out⟩
theorem zgy (Kt:Nat→Int) (A:Pl) (c:Nat→Option Obj) (a b:Nat):Plb (svP Kt) 46 #[.pointer (some ⟨a,0,none⟩),.pointer (some ⟨b,0,none⟩)] (SvI Kt A c a b) where
 eg:=znf
 lt:=fun s F W h=>h.lt
 keep:=fun s F W l h hs f=>h.keep hs f
 small:=fun s t=>by
  unfold svP;split
  ·exact Nat.mod_lt _ (by decide)
  ·exact Nat.zero_lt_succ _
 call:=fun s F W t o h=>by
  cases d:zaw s.v.tk s.t.n with
  |none=>
   refine(zjm Kt A c a b s F W t o h d).mono ?_;rintro e l ⟨rfl,i⟩;have e1:svP Kt s t=((zf,110),s):=by unfold svP;rw[d]
   rw[e1];exact⟨rfl,F,h.keep i.size fun k f=>i.block k (h.lt k f),But.of_below i,Grw.refl _ _ _⟩
  |some p=>
   refine(zlx Kt A c a b s F W t o h p d).mono ?_;rintro e l ⟨rfl,q⟩;have e1:svP Kt s t=((⟨p%4294967296,Rs.tagS (blk Kt s.v p t)⟩,0),⟨take (zbT s.v) p,Rd.zau s.t p (blk Kt s.v p t),s.tk++[p]⟩):=by unfold svP;rw[d]
   rw[e1];exact⟨rfl,q⟩
theorem zef (A:Pl) (v:Vs) (t:St) (w:World) (f:Vlt w A v t) (h:Ok t):Calls Tryz.prog 45 #[pt A.g] w fun e b=>e=.returned (.bool false)∧Vlt b A v t∧Rd.But A.has w b:=by
 have j:Rv.zjj v t 0=2:=by unfold Rv.zjj Rv.plcB;rw[if_neg (by simp)]
 have k:Hid _:=(Rv.zna A v t 0 (by decide) w f h);go_enter Tryz.func45,Tryz.ntmps45;go_wp2_with fail;refine Calls.mono k.out ?_;rintro e d ⟨rfl,l,m⟩;have n:Hid (Vlt d A v t∧Rd.But A.has w d):=⟨l,m⟩;go_wp2_with fail;go_ret;exact⟨rfl,n.out⟩
theorem zly (A:Pl) (v:Vs) (t:St) (l:List Nat) (o:Option Addr) (f:Nat) (w:World) (I:l.length≤100000) (k:Vlt w A v t) (R:Ok t) (hs:Sl 1 w o l.length f (l.map uv)) (r:∀ b c,o=some ⟨b,c,none⟩→0<l.length→¬A.has b)
  (s:∀ i (S:i<l.length),2≤l[i]∧l[i]<t.n∧(((l.take i).foldl Rv.give v).tk l[i]).isSome=true):
  Calls Tryz.prog 49 #[pt A.g,.slice o l.length f] w fun e J=>e=.returned (.tuple #[])∧Vlt J A (l.foldl Rv.give v) t∧Rd.But A.has w J:=by
 obtain⟨n,K⟩:∃ n,l.length=n:=⟨_,rfl⟩;have L:Hid _:=K;have u:Hid (Sl 1 w o l.length f (l.map uv)∧(∀ b c,o=some ⟨b,c,none⟩→0<l.length→¬A.has b)∧Ok t):=⟨hs,r,R⟩;have x:Hid _:=s;have T:Hid _:=k
 rw[K];go_enter Tryz.func49,Tryz.ntmps49;go_wp2_with fail
 go_loopw [8] (fun y wr=>∃ i,i≤n∧y=.int .i64 (i:Int)∧Vlt wr A ((l.take i).foldl Rv.give v) t∧Rd.But A.has w wr) (fun y _=>n - zam y)
 case atStart=>exact⟨0,Nat.zero_le _,rfl,T.out,Rd.But.refl _ _⟩
 case round=>
  obtain⟨i,S,rfl,k,z⟩:=hrel;by_cases B:i<n
  ·have h:i<l.length:=by rw[L.out];exact B
   obtain⟨M,N,O⟩:=x.out i h;obtain⟨p,C⟩:∃ p,l[i]=p:=⟨_,rfl⟩;rw[C] at M N O;obtain⟨b,c,P,D,U⟩:=u.out.1.2.2.2.2 (by omega);have X:=(World.cell?_of_block (a:=⟨b,c+i,none⟩) (z.block b D (u.out.2.1 b c P (by omega)))).trans (U i (uv p) (by rw[List.getElem?_map,List.getElem?_eq_getElem h,C];rfl));have E:Hid (∀ _:True,_):=fun _=>Rv.zo2 A ((l.take i).foldl Rv.give v) t p wr k u.out.2.2 M N O
   have V:Hid _:=z
   have W:Hid (Rv.give ((l.take i).foldl Rv.give v) p=(l.take (i+1)).foldl Rv.give v):=by
    refine(?_:_=_);rw[List.take_add_one,List.getElem?_eq_getElem h,C];simp
   subst P;rw[W.out] at E;generalize (l.take i).foldl Rv.give v=Z at k E;go_wp2_with fail;refine Calls.mono (E.out trivial) ?_;rintro e Q ⟨rfl,F,G⟩;have H:Hid (Vlt Q A ((l.take (i+1)).foldl Rv.give v) t∧Rd.But A.has w Q):=⟨F,V.out.trans G⟩;go_wp2_with fail;refine⟨⟨i+1,by omega,by go_num,H.out⟩,?_⟩;simp[zam];omega
  ·obtain rfl:i=n:=by omega
   have H:Hid (Vlt wr A (l.foldl Rv.give v) t∧Rd.But A.has w wr):=by
    rw[show l.take i=l from by rw[←L.out];exact List.take_length] at k;exact⟨k,z⟩
   go_wp2_with fail;refine bodyPost_end (results_none rfl _ _ _) rfl ?_;exact⟨rfl,H.out⟩
theorem zfB {G:Nat→Prop}:∀ {d:Nat} {w:World} {n:Nv} {l:List Rw},zas G d w n l→zas (fun b=>G b∧b<w.heap.size) d w n l
 |0,_,_,_,h=>h.elim
 |d+1,w,n,l,⟨x,y,z,A,B⟩=>by
  have j:∀ {k:Nat} {o:Option Addr} {m q:Nat} {cs:List Value},Sl k w o m q cs→Lies G o m→Lies (fun b=>G b∧b<w.heap.size) o m:=fun hs p t b r e=>by
   obtain⟨F,u,v,s,-⟩:=hs.2.2.2.2 t;rw[e] at v;cases v;exact⟨p t b r e,s⟩
  refine⟨x,y,z,fun p=>?_,fun p=>?_⟩
  ·obtain⟨a,b,c,d,e⟩:=A p
   exact⟨a,b,j b c,d,e⟩
  ·obtain⟨a,b,C,c,d,e,f,g⟩:=B p
   exact⟨a,b,C,c,d,e,j e f,fun i D E=>zfB (g i D E)⟩
structure Qs {σ:Type} (pl:Pm σ) (Q:σ→List Sv→σ→Prop):Prop where
 nil:∀ s,Q s [] s
 cat:∀ s a s1 b s2,Q s a s1→Q s1 b s2→Q s (a++b) s2
 one:∀ s t,t.size≤198→(pl s t).1.2=0→Q s [⟨t,(pl s t).1.1⟩] (pl s t).2
 no:∀ s t,t.size≤198→(pl s t).1.2≠0→Q s [] (pl s t).2
theorem zlz {σ:Type} {pl:Pm σ} {Q:σ→List Sv→σ→Prop} (h:Qs pl Q) (s:σ) (P:Pp):Q s (zaC pl s P).ys (zaC pl s P).s:=by
 unfold zaC;split
 ·split
  ·rename_i h0;exact h.one s _ (zcX P) h0
  ·rename_i h0;exact h.no s _ (zcX P) h0
 ·exact h.nil s
theorem zgA {σ:Type} {pl:Pm σ} {Q:σ→List Sv→σ→Prop} (h:Qs pl Q) (l:List Rw):∀ (i:Nat) (s:σ) (r:Rf),Q s (zal pl l i s r).ys (zal pl l i s r).s
 |0,s,_=>h.nil s
 |i+1,s,r=>by
  have a:=zlz h s (za2 (piece l i) r);unfold zal Gr.then;split
  ·exact h.cat _ _ _ _ _ a (zgA h l i _ _)
  ·exact a
theorem zht {σ:Type} {Q:σ→List Sv→σ→Prop} {pl:Pm σ} (h:Qs pl Q) (f:σ→List Rw→Gr σ) (b:∀ s l,Q s (f s l).ys (f s l).s):∀ (a:List (List Rw)) (s:σ) (rs:List Rf),Q s (zan f a s rs).1.ys (zan f a s rs).1.s
 |[],s,_=>h.nil s
 |m::a,s,rs=>by
  unfold zan;split
  ·exact h.cat _ _ _ _ _ (b s m) (zht h f b a _ _)
  ·exact b s m
theorem zhu {σ:Type} {pl:Pm σ} {Q:σ→List Sv→σ→Prop} (h:Qs pl Q):∀ (d:Nat) (s:σ) (l:List Rw),Q s (zad pl d s l).ys (zad pl d s l).s
 |0,s,_=>h.nil s
 |d+1,s,l=>by
  unfold zad;split
  ·exact zgA h l _ _ _
  ·split
   ·exact h.cat _ _ _ _ _ (zht h _ (zhu h d) _ _ _) (zlz h _ _)
   ·exact zht h _ (zhu h d) _ _ _
structure Pok (s:Sx):Prop where
 vok:Vok s.v
 hon:Hon s.t
 room:s.v.seals+cf s.v.tk s.t.n≤100000∧s.tk.length≤s.v.seals
 two:(s.v.tk 0).isSome=true∧(s.v.tk 1).isSome=true
theorem zhv (Kt:Nat→Int) {s:Sx} (h:Pok s) {x:ByteArray} (q:x.size≤198) {p:Nat} (m:zaw s.v.tk s.t.n=some p):
  svP Kt s x=((⟨p,Rs.tagS (blk Kt s.v p x)⟩,0),⟨take (zbT s.v) p,Rd.zau s.t p (blk Kt s.v p x),s.tk++[p]⟩)∧Pok ⟨take (zbT s.v) p,Rd.zau s.t p (blk Kt s.v p x),s.tk++[p]⟩∧(2≤p∧p<s.t.n∧(s.v.tk p).isSome=false)∧(Rd.zau s.t p (blk Kt s.v p x)).n=s.t.n:=by
 obtain⟨f,d,y⟩:=zis m;have z:=h.hon.ok.n1;have r:=h.room.1;have u:=h.room.2;have g:=zfA d s.t.n;rw[if_pos f] at g;have i:=h.vok.next (by omega) p;obtain⟨-,k,b,-⟩:=Rv.zc1 h.hon f ((Rs.zbG Kt s.v.ring (Rv.hd s.v p) (h.vok.fits (by omega)) x (h.vok.se p q)).1);have e1:svP Kt s x=((⟨p%4294967296,Rs.tagS (blk Kt s.v p x)⟩,0),⟨take (zbT s.v) p,Rd.zau s.t p (blk Kt s.v p x),s.tk++[p]⟩):=by unfold svP;rw[m]
 rw[Nat.mod_eq_of_lt (by omega)] at e1
 have w:2≤p:=by
  rcases Nat.lt_or_ge p 2 with l|l
  ·have e:=h.two
   match p,l with
   |0,_=>rw[d] at e;exact absurd e.1 (by decide)
   |1,_=>rw[d] at e;exact absurd e.2 (by decide)
  ·exact l
 refine⟨e1,⟨i,k,⟨?_,by simp[Rv.take,Rv.zbT];omega⟩,?_⟩,⟨w,f,d⟩,b⟩
 ·show s.v.seals+1+cf (Rv.tput s.v.tk p (some ())) (Rd.zau s.t p (blk Kt s.v p x)).n≤100000
  rw[b];omega
 ·refine⟨?_,?_⟩
  ·show(Rv.tput s.v.tk p (some ()) 0).isSome=true
   unfold Rv.tput;split
   ·rfl
   ·exact h.two.1
  ·show(Rv.tput s.v.tk p (some ()) 1).isSome=true
   unfold Rv.tput;split
   ·rfl
   ·exact h.two.2
theorem zlA (Kt:Nat→Int) {s:Sx} {x:ByteArray} (hl:zaw s.v.tk s.t.n=none):svP Kt s x=((zf,110),s):=by unfold svP;rw[hl]
structure Sq (a:Sx) (m:List Nat) (b:Sx):Prop where
 tk:b.tk=a.tk++m
 nodup:m.Nodup
 rng:∀ p∈m,2≤p∧p<a.t.n∧(a.v.tk p).isSome=false
 is:∀ q,b.v.tk q=if q∈m then some () else a.v.tk q
 n:b.t.n=a.t.n
 nt:b.v.nt=a.v.nt+m.length
 seals:b.v.seals=a.v.seals+m.length
 same:b.v.ring=a.v.ring∧b.v.gen=a.v.gen∧b.v.boot=a.v.boot
 pok:Pok b
theorem Sq.refl {a:Sx} (h:Pok a):Sq a [] a:=⟨(List.append_nil _).symm,List.nodup_nil,fun p hp=>(by cases hp),fun q=>by simp,rfl,rfl,rfl,⟨rfl,rfl,rfl⟩,h⟩
theorem Sq.trans {a b c:Sx} {m k:List Nat} (h:Sq a m b) (g:Sq b k c):Sq a (m++k) c:=by
 have j:∀ p∈k,p ∉ m:=fun p i d=>by
  have l:=(g.rng p i).2.2;rw[h.is p,if_pos d] at l;exact absurd l (by decide)
 refine⟨by rw[g.tk,h.tk,List.append_assoc],List.nodup_append.2 ⟨h.nodup,g.nodup,fun x r y s e=>j y s (e▸r)⟩,fun p i=>?_,fun q=>?_,g.n.trans h.n,by rw[g.nt,h.nt,List.length_append];omega,by rw[g.seals,h.seals,List.length_append];omega,⟨g.same.1.trans h.same.1,g.same.2.1.trans h.same.2.1,g.same.2.2.trans h.same.2.2⟩,g.pok⟩
 ·rcases List.mem_append.1 i with x|x
  ·exact h.rng p x
  ·obtain⟨t,u,o⟩:=g.rng p x
   rw[h.is p,if_neg (j p x)] at o;exact⟨t,h.n▸u,o⟩
 ·rw[g.is q]
  by_cases f:q∈k
  ·rw[if_pos f,if_pos (List.mem_append.2 (.inr f))]
  ·rw[if_neg f,h.is q]
   by_cases d:q∈m
   ·rw[if_pos d,if_pos (List.mem_append.2 (.inl d))]
   ·rw[if_neg d,if_neg (by simp[f,d])]
theorem zlB (Kt:Nat→Int) {s:Sx} (h:Pok s) {x:ByteArray} (b:x.size≤198) {p:Nat} (c:zaw s.v.tk s.t.n=some p):Sq s [p] (svP Kt s x).2:=by
 obtain⟨e,d,a,f⟩:=zhv Kt h b c;rw[e];refine⟨rfl,by simp,fun q g=>by rw[List.mem_singleton.1 g];exact a,fun q=>?_,f,?_,rfl,⟨rfl,rfl,rfl⟩,d⟩
 ·show Rv.tput s.v.tk p (some ()) q=_
  unfold Rv.tput;simp only[List.mem_singleton]
 ·show(if(s.v.tk p).isSome=true then s.v.nt else s.v.nt+1)=_
  rw[a.2.2];rfl
def Qt (s:Sx) (_:List Sv) (s':Sx):Prop:=Pok s→∃ m,Sq s m s'
theorem zp2 (Kt:Nat→Int) (f:ByteArray→Option Rf):Qs (hadP f (svP Kt)) Qt where
 nil:=fun s h=>⟨[],Sq.refl h⟩
 cat:=fun s a s1 b x l o h=>by
  obtain⟨m,g⟩:=l h;obtain⟨k,q⟩:=o g.pok;exact⟨m++k,g.trans q⟩
 one:=fun s t d e h=>by
  unfold hadP at e ⊢;cases w:f t with
  |some r=>exact⟨[],Sq.refl h⟩
  |none=>
   cases c:zaw s.v.tk s.t.n with
   |none=>exact⟨[],by rw[zlA Kt c];exact Sq.refl h⟩
   |some p=>exact⟨[p],zlB Kt h d c⟩
 no:=fun s t d e h=>by
  unfold hadP at e ⊢;cases w:f t with
  |some r=>exact⟨[],Sq.refl h⟩
  |none=>
   cases c:zaw s.v.tk s.t.n with
   |none=>exact⟨[],by rw[zlA Kt c];exact Sq.refl h⟩
   |some p=>exact⟨[p],zlB Kt h d c⟩
theorem zhw:∀ (l:List Nat) (v:Vs) (q:Nat),(l.foldl Rv.give v).tk q=if q∈l then none else v.tk q
 |[],v,q=>by simp
 |p::l,v,q=>by
  rw[List.foldl_cons,zhw l];show(if q∈l then none else Rv.tput v.tk p none q)=_;unfold Rv.tput;by_cases a:q∈l
  ·rw[if_pos a,if_pos (List.mem_cons.2 (.inr a))]
  ·rw[if_neg a]
   by_cases b:q=p
   ·rw[if_pos b,if_pos (List.mem_cons.2 (.inl b))]
   ·rw[if_neg b,if_neg (by simp[a,b])]
theorem zlC:∀ (l:List Nat) (v:Vs),l.Nodup→(∀ p∈l,(v.tk p).isSome=true)→l.length≤v.nt→(l.foldl Rv.give v).nt=v.nt - l.length
 |[],v,_,_,_=>rfl
 |p::l,v,c,h,d=>by
  obtain⟨f,g⟩:=List.nodup_cons.1 c
  have e:(Rv.give v p).nt=v.nt - 1:=by
   show(if(v.tk p).isSome=true then v.nt - 1 else v.nt)=_;rw[if_pos (h p (List.mem_cons.2 (.inl rfl)))]
  rw[List.length_cons] at d;rw[List.foldl_cons,zlC l _ g (fun q b=>?_) (by rw[e];omega),e,List.length_cons]
  ·omega
  ·show(Rv.tput v.tk p none q).isSome=true
   unfold Rv.tput;rw[if_neg (fun(e:q=p)=>f (e▸b))];exact h q (List.mem_cons.2 (.inr b))
theorem zlD {s b:Sx} {m:List Nat} (g:s.tk=[]) (h:Sq s m b):
  (∀ i (a:i<b.tk.length),2≤b.tk[i]∧b.tk[i]<b.t.n∧(((b.tk.take i).foldl Rv.give b.v).tk b.tk[i]).isSome=true)∧(b.tk.foldl Rv.give b.v).nt=s.v.nt∧(∀ q,(b.tk.foldl Rv.give b.v).tk q=s.v.tk q):=by
 have k:b.tk=m:=by rw[h.tk,g];rfl
 rw[k];refine⟨fun i a=>?_,?_,fun q=>?_⟩
 ·obtain⟨l,o,x⟩:=h.rng m[i] (List.getElem_mem a)
  refine⟨l,h.n▸o,?_⟩;rw[zhw,if_neg (fun r=>?_),h.is,if_pos (List.getElem_mem a)]
  ·rfl
  ·obtain⟨j,y,e⟩:=List.mem_take_iff_getElem.1 r
   have d:=List.pairwise_iff_getElem.1 h.nodup j i (by omega) a (by omega);exact d e
 ·rw[zlC m b.v h.nodup (fun p d=>by rw[h.is,if_pos d];rfl) (by rw[h.nt];omega),h.nt]
  omega
 ·rw[zhw,h.is]
  by_cases c:q∈m
  ·rw[if_pos c]
   have:=(h.rng q c).2.2;cases w:s.v.tk q with
   |none=>rfl
   |some u=>rw[w] at this;cases this
  ·rw[if_neg c,if_neg c]
theorem zeR {k:Nat} {W W':World} {o:Option Addr} {n d:Nat} {g:List Value} (h:Sl k W o n d g) (hs:W.heap.size≤W'.heap.size) (l:∀ b c,o=some ⟨b,c,none⟩→0<n→b<W.heap.size→W'.heap[b]? =W.heap[b]?):Sl k W' o n d g:=by
 refine⟨h.1,h.2.1,h.2.2.1,h.2.2.2.1,fun i=>?_⟩;obtain⟨b,c,e,f,m⟩:=h.2.2.2.2 i;exact⟨b,c,e,Nat.lt_of_lt_of_le f hs,fun j u p=>(World.cell?_of_block (a:=⟨b,c+j,none⟩) (l b c e i f)).trans (m j u p)⟩
theorem zit {l:List Sv} (h:∀ y∈l,y.r.p<4294967296):∀ t r,wh l t=some r→r.p<4294967296:=by
 induction l with
 |nil=>intro t r e;cases e
 |cons x l c=>
  intro t r e;unfold wh at e;split at e
  ·cases e;exact h x (List.mem_cons.2 (.inl rfl))
  ·exact c (fun y d=>h y (List.mem_cons.2 (.inr d))) t r e
def pcnt:Nat→List Rw→Nat
 |0,_=>0
 |d+1,l=>if leaf l=true then npc l else((zao l).map (pcnt d)).sum+1
theorem zgB {σ:Type} (pl:Pm σ) (s:σ) (P:Pp):(zaC pl s P).ys.length≤1∧((zaC pl s P).e=0→(zaC pl s P).ys.length=1):=by
 unfold zaC;split
 ·split
  ·exact⟨Nat.le_refl _,fun _=>rfl⟩
  ·rename_i a;exact⟨Nat.zero_le _,fun h=>absurd h a⟩
 ·rename_i a;exact⟨Nat.zero_le _,fun h=>absurd h a⟩
theorem zeg {σ:Type} (pl:Pm σ) (l:List Rw):∀ (i:Nat) (s:σ) (r:Rf),(zal pl l i s r).ys.length≤i∧((zal pl l i s r).e=0→(zal pl l i s r).ys.length=i)
 |0,_,_=>⟨Nat.le_refl _,fun _=>rfl⟩
 |i+1,s,r=>by
  obtain⟨c,d⟩:=zgB pl s (za2 (piece l i) r);unfold zal Gr.then;split
  ·rename_i a
   obtain⟨f,b⟩:=zeg pl l i (zaC pl s (za2 (piece l i) r)).s (zaC pl s (za2 (piece l i) r)).r;exact⟨by simp only[List.length_append];omega,fun h=>by have:=b h;simp only[List.length_append];omega⟩
  ·rename_i a
   exact⟨by omega,fun h=>absurd h a⟩
theorem zgC {σ:Type} (f:σ→List Rw→Gr σ) (c:List Rw→Nat) (b:∀ s l,(f s l).ys.length≤c l∧((f s l).e=0→(f s l).ys.length=c l)):∀ (a:List (List Rw)) (s:σ) (rs:List Rf),
  (zan f a s rs).1.ys.length≤(a.map c).sum∧((zan f a s rs).1.e=0→(zan f a s rs).1.ys.length=(a.map c).sum)
 |[],_,_=>⟨Nat.le_refl _,fun _=>rfl⟩
 |m::a,s,rs=>by
  obtain⟨i,j⟩:=b s m;unfold zan;rw[List.map_cons,List.sum_cons];split
  ·rename_i d
   obtain⟨k,g⟩:=zgC f c b a (f s m).s (rs++[(f s m).r]);exact⟨by simp only[List.length_append];omega,fun h=>by have:=g h;simp only[List.length_append];omega⟩
  ·rename_i d
   exact⟨by show(f s m).ys.length≤_;omega,fun h=>absurd h d⟩
theorem zbZ {σ:Type} (pl:Pm σ):∀ (d:Nat) (s:σ) (l:List Rw),(zad pl d s l).ys.length≤pcnt d l∧((zad pl d s l).e=0→(zad pl d s l).ys.length=pcnt d l)
 |0,_,_=>⟨Nat.le_refl _,fun _=>rfl⟩
 |d+1,s,l=>by
  unfold zad pcnt;split
  ·exact zeg pl l _ _ _
  ·obtain⟨c,f⟩:=zgC (zad pl d) (pcnt d) (fun s l=>zbZ pl d s l) (zao l) s []
   split
   ·rename_i a
    obtain⟨g,b⟩:=zgB pl (zan (zad pl d) (zao l) s []).1.s (zaX l (zan (zad pl d) (zao l) s []).2);exact⟨by simp only[List.length_append];omega,fun h=>by have:=b h;simp only[List.length_append];omega⟩
   ·rename_i a
    exact⟨by show(zan (zad pl d) (zao l) s []).1.ys.length≤_;omega,fun h=>absurd h a⟩
theorem zlE (f g:List Rw→Nat):∀ (a:List (List Rw)),(∀ m∈a,f m+1≤2*g m)→(a.map f).sum+a.length≤2*(a.map g).sum
 |[],_=>Nat.le_refl _
 |m::a,h=>by
  have c:=h m (List.mem_cons.2 (.inl rfl));have d:=zlE f g a fun x b=>h x (List.mem_cons.2 (.inr b))
  simp only[List.map_cons,List.sum_cons,List.length_cons];omega
theorem zlF:∀ (d:Nat) (l:List Rw),On l→l≠[]→pcnt d l+1≤2*l.length
 |0,l,_,h=>by
  have:=List.length_pos_iff.2 h;show 0+1≤_;omega
 |d+1,l,a,h=>by
  have j:=List.length_pos_iff.2 h;unfold pcnt;split
  ·unfold npc;omega
  ·rename_i c
   obtain⟨-,n,g⟩:=zda (by cases f:leaf l;rfl;exact absurd f c);have k:=zdy a g;have i:=zlE (pcnt d) List.length (zao l) fun m e=>zlF d m (a.kid e) (za7 e).1
   rw[zhJ] at i;omega
theorem zdE (d:Nat) (l:List Rw) (hon:On l):pcnt d l≤max 1 (2*l.length):=by
 by_cases h:l=[]
 ·subst h
  cases d with
  |zero=>exact Nat.zero_le _
  |succ d=>show(if leaf []=true then npc [] else _)≤_;rw[if_pos zfd];decide
 ·have:=zlF d l hon h
  omega
theorem znh (A:Pl) (v:Vs) (t:St) (l:List Rw) (o:Option Addr) (a:Nat) (y:Value) (w:World) (D:Vlt w A v t) (E:Ok t) (F:zac w o a l) (m:∀ b c,o=some ⟨b,c,none⟩→0<l.length→¬A.has b) (G:zaG l=false):
  Calls Tryz.prog 13 #[pt A.g,.slice o l.length a,y] w fun e j=>e=.returned (.tuple #[.slice none 0 0,.int .i64 80])∧Vlt j A v t∧Rd.But A.has w j:=by
 obtain⟨f,d⟩:∃ f,w.alloc (.cells #[pt A.g] 24)=f:=⟨_,rfl⟩;have x:Below w.heap.size w f:=by rw[←d];exact zaa _ _
 have M:f.cell? ⟨w.heap.size,0,none⟩=some (pt A.g):=by rw[←d,zr (zq w _)];rfl
 have H:Hid (∀ _:True,_):=fun _=>zef A v t f (D.below x zn) E
 have n:Hid (∀ W,Rd.But A.has w W→Calls Tryz.prog 36 #[.slice o l.length a] W fun e j=>e=.returned (.tuple #[nv ⟨0,0,0,none,0,0,none,0,0⟩,.int .i64 80])∧Below W.heap.size W j):=fun W z=>zhT l o a W (zeR F z.size fun b c e I J=>z.block b J (m b c e I)) G
 have h:Hid _:=d;have p:Hid _:=x
 go_enter Tryz.func13,Tryz.ntmps13
 go_wp2_with (first|(rw[h.out];clear h))
 refine Calls.mono (H.out trivial) ?_;rintro e K ⟨rfl,q,r⟩;have s:Hid _:=q;have i:Hid _:=(Rd.But.of_below p.out).trans r;go_wp2_with fail;refine Calls.mono (n.out K i.out) ?_;rintro e u ⟨rfl,B⟩
 have L:Hid (Vlt (u.alloc (.cells #[.int .u32 0,.int .u32 0,.int .i64 0,.slice none 0 0,.slice none 0 0] 73)) A v t∧Rd.But A.has w (u.alloc (.cells #[.int .u32 0,.int .u32 0,.int .i64 0,.slice none 0 0,.slice none 0 0] 73))):=by
  have C:=B.trans ((zaa u (.cells #[.int .u32 0,.int .u32 0,.int .i64 0,.slice none 0 0,.slice none 0 0] 73)).mono B.size);exact⟨s.out.below C zn,i.out.trans (Rd.But.of_below C)⟩
 go_wp2_with fail;go_ret2;exact⟨rfl,L.out⟩
theorem zeS (W:World) (v:Value) (c:v.oneCell'=true):∃ W',(store ⟨W.heap.size,0,none⟩ v).run Tryz.prog (W.alloc (.cells #[.nilFunc] 93))=.ok () W'∧Below W.heap.size W W'∧W'.heap[W.heap.size]? =some (.cells #[v] 93 (0,0)):=by
 have a:=zq W (.cells #[.nilFunc] 93);refine⟨(W.alloc (.cells #[.nilFunc] 93)).setCell ⟨W.heap.size,0,none⟩ v,?_,?_,zc0 a⟩
 ·rw[run_store _ _ _ _ _ c,show(W.alloc (.cells #[.nilFunc] 93)).cell? ⟨W.heap.size,0,none⟩=some .nilFunc by rw[zr a];rfl,frozen_of_row _ _ 0 _ _ a]
  rfl
 ·have b:=zaa W (.cells #[.nilFunc] 93)
  exact b.trans ⟨rfl,rfl,rfl,by simp[World.setCell],fun j d=>Below.heap_setCell _ _ _ _ (fun e=>by
   have f:j=W.heap.size:=e;omega)⟩
def finV (g:Gr Sx):Vs:=if g.e=0 then g.s.v else g.s.tk.foldl Rv.give g.s.v
theorem zlG (Kt:Nat→Int) (A:Pl) (v:Vs) (t:St) (l:List Rw) (o:Option Addr) (cap:Nat) (had:List Sv) (oh:Option Addr) (caph:Nat) (w:World) (hv:Vlt w A v t) (hp:Pok ⟨v,t,[]⟩) (hT:Rs.Tb Kt w)
  (hr:zac w o cap l) (hno:∀ b off,o=some ⟨b,off,none⟩→0<l.length→¬A.has b) (hok:∀ r∈l,zbd r) (h0:zaG l=true)
  (hh:SvAt w oh caph had) (hnh:∀ b off,oh=some ⟨b,off,none⟩→0<had.length→¬A.has b) (hs:∀ y∈had,y.r.p<4294967296) (hl:had.length≤100000) (g:Gr Sx) (hg:zad (hadP (wh had) (svP Kt)) 32 ⟨v,t,[]⟩ l=g):
  Calls Tryz.prog 13 #[pt A.g,.slice o l.length cap,.slice oh had.length caph] w fun e w'=>∃ o' cap',e=.returned (.tuple #[.slice o' (outL g).length cap',.int .i64 g.e])∧SvAt w' o' cap' (outL g)∧(∀ b off,o'=some ⟨b,off,none⟩→w.heap.size≤b)∧Vlt w' A (finV g) g.s.t∧Rs.Tb Kt w'∧Rd.But A.has w w':=by
 have hq:=zhu (zp2 Kt (wh had)) 32 ⟨v,t,[]⟩ l hp;rw[hg] at hq;obtain⟨m,hm⟩:=hq;obtain⟨hg1,hg2,hg3⟩:=zlD rfl hm;have HGv:Hid (∀ i (hi:i<g.s.tk.length),2≤g.s.tk[i]∧g.s.tk[i]<g.s.t.n∧(((g.s.tk.take i).foldl Rv.give g.s.v).tk g.s.tk[i]).isSome=true):=hg1;have hlen:=(zbZ (hadP (wh had) (svP Kt)) 32 ⟨v,t,[]⟩ l).1;rw[hg] at hlen;have hlm:=zdE 32 l (zbJ h0);have hl1000:=((zaH l).1 h0).1;have HA:Hid (∀ k,A.has k→k<w.heap.size):=fun k hk'=>hv.has_lt hk'
 have hU:∀ k,Und A k→k<w.heap.size:=fun k hu=>by
  obtain⟨⟨a,b,h1⟩,c,d,h2⟩:=hT;rcases hu with⟨off,hu⟩|rfl|rfl
  ·obtain⟨b',off',e',hlt,-⟩:=hv.self.2.1.2.2.2 (by have:=List.length_pos_iff.2 (zho hp.vok.f);exact zho hp.vok.f)
   rw[hu] at e';cases e';exact hlt
  ·exact(zi h1).1
  ·exact(zi h2).1
 have HUl:Hid (∀ k,Und A k→k<w.heap.size):=hU;have HUn:Hid (∀ k,Und A k→¬A.has k):=fun k hu=>zlw hv hp.vok hu
 obtain⟨W1,hW1⟩:∃ W1,w.alloc (.cells #[pt A.g] 24)=W1:=⟨_,rfl⟩;have b1:Below w.heap.size w W1:=by rw[←hW1];exact zaa _ _
 have e1:W1.heap[w.heap.size]? =some (.cells #[pt A.g] 24 (0,0)):=by rw[←hW1];exact zq w _
 have c1:W1.cell? ⟨w.heap.size,0,none⟩=some (pt A.g):=by rw[zr e1];rfl
 have l1:w.heap.size<W1.heap.size:=by rw[←hW1];simp
 have HNn:Hid (∀ _:True,_):=fun _=>zef A v t W1 (hv.below b1 zn) hp.hon.ok
 have HE1:Hid (W1.heap[w.heap.size]? =some (.cells #[pt A.g] 24 (0,0))∧W1.heap.size=w.heap.size+1):=⟨e1,by rw[←hW1];simp⟩;have HBu:Hid (∀ W,Rd.But A.has w W→Calls Tryz.prog 36 #[.slice o l.length cap] W fun e w'=>∃ n:Nv,e=.returned (.tuple #[nv n,.int .i64 0])∧zas (fun b=>W.heap.size≤b) 32 w' n l∧Below W.heap.size W w'):=fun W hb=>zhU l o cap W (zeR hr hb.size fun b off e hn hl=>hb.block b hl (hno b off e hn)) h0
 have HHd:Hid (∀ W,Rd.But A.has w W→SvAt W oh caph had):=fun W hb=>hh.keep hb.size fun b off e hn hl=>hb.block b hl (hnh b off e hn)
 have HPl:Hid (On l∧(∀ r∈l,zbd r)∧l.length≤1000∧g.ys.length≤5000∧had.length≤100000∧(∀ t r,wh had t=some r→r.p<4294967296)):=⟨zbJ h0,hok,hl1000,by omega,hl,zit hs⟩;have HTb:Hid (Rs.Tb Kt w∧Pok ⟨v,t,[]⟩∧zad (hadP (wh had) (svP Kt)) 32 ⟨v,t,[]⟩ l=g):=⟨hT,hp,hg⟩;have HW1:Hid _:=hW1;have HB1:Hid (Below w.heap.size w W1):=b1;clear hW1 b1 hv hr hno h0 hm hg1 hg2 hg3 hlen hlm hl1000 hU hh hnh hs hl hok hT hp hg e1;go_enter Tryz.func13,Tryz.ntmps13
 go_wp2_with (first|(rw[HW1.out];clear HW1))
 refine Calls.mono (HNn.out trivial) ?_;rintro e w2 ⟨rfl,hv2,hb2⟩;have HV2:Hid (Vlt w2 A v t):=hv2;have HB2:Hid (Rd.But A.has w w2):=(Rd.But.of_below HB1.out).trans hb2;have HE2:Hid (w2.heap[w.heap.size]? =some (.cells #[pt A.g] 24 (0,0))∧w.heap.size+1≤w2.heap.size):=⟨(hb2.block _ (by have:=HE1.out.2;omega) (fun e=>by have:=HA.out _ e;omega)).trans HE1.out.1,by have:=HE1.out.2;have:=hb2.size;omega⟩;clear hv2 hb2 HNn c1 l1;go_wp2_with fail;refine Calls.mono (HBu.out w2 HB2.out) ?_;rintro e w3 ⟨n,rfl,hN,b3⟩;have hN':=zfB hN;obtain⟨W5,hW5⟩:∃ W5,(w3.alloc (ncs n)).alloc (.cells #[.slice none 0 0] 90)=W5:=⟨_,rfl⟩;have s4:(w3.alloc (ncs n)).heap.size=w3.heap.size+1:=by simp
 have s5:W5.heap.size=w3.heap.size+2:=by rw[←hW5];simp
 have b4:=zaa w3 (ncs n);have b5:=zaa (w3.alloc (ncs n)) (.cells #[.slice none 0 0] 90);rw[hW5,s4] at b5;have e4:W5.heap[w3.heap.size]? =some (ncs n):=(b5.block _ (by omega)).trans (zq w3 _);have e5:W5.heap[w3.heap.size+1]? =some (.cells #[.slice none 0 0] 90 (0,0)):=by rw[←hW5,←s4];exact zq _ _
 have b35:Below w3.heap.size w3 W5:=b4.trans (b5.mono (by omega));have b25:Below w2.heap.size w2 W5:=b3.trans (b35.mono b3.size);have hb5:Rd.But A.has w W5:=HB2.out.trans (Rd.But.of_below b25);have hho:=zgv 46 #[.pointer (some ⟨w.heap.size,0,none⟩),.pointer (some ⟨w3.heap.size+1,0,none⟩)] had oh caph HPl.out.2.2.2.2.1 W5 (HHd.out W5 hb5);have HHo:Hid (Calls Tryz.prog 47 #[.slice oh had.length caph,.func (.func 46) #[] #[.pointer (some ⟨w.heap.size,0,none⟩),.pointer (some ⟨w3.heap.size+1,0,none⟩)]] W5 fun e w'=>e=.returned (.func (.func 79) #[] #[.pointer (some ⟨W5.heap.size+2,0,none⟩),.pointer (some ⟨W5.heap.size,0,none⟩)])∧w'.heap[W5.heap.size]? =some (.cells #[.func (.func 46) #[] #[.pointer (some ⟨w.heap.size,0,none⟩),.pointer (some ⟨w3.heap.size+1,0,none⟩)]] 63 (0,0))∧Wh w' (W5.heap.size+1) (wh had)∧w'.heap[W5.heap.size+2]? =some (.cells #[.map (some (W5.heap.size+1))] 145 (0,0))∧Below W5.heap.size W5 w'):=hho
 have HN5:Hid (zas (fun b=>w2.heap.size≤b∧b<w3.heap.size) 32 W5 n l∧W5.heap[w3.heap.size]? =some (ncs n)∧W5.heap[w3.heap.size+1]? =some (.cells #[.slice none 0 0] 90 (0,0))∧W5.heap.size=w3.heap.size+2∧Below w2.heap.size w2 W5∧Rd.But A.has w W5∧w2.heap.size≤w3.heap.size):=⟨hN'.below b35 zn,e4,e5,s5,b25,hb5,b3.size⟩;have HW5:Hid _:=hW5;clear hho hN hN' b3 s4 s5 b4 b5 e4 e5 b35 b25 hb5 hW5 HBu HHd;go_wp2_with fail;rw[HW5.out];refine Calls.mono HHo.out ?_;rintro e W6 ⟨rfl,k1,k2,k3,b6⟩;obtain⟨n1,n2,n3,n4,n5,n6,n7⟩:=HN5.out;obtain⟨W7,hst,b7,e7⟩:=zeS W6 (.func (.func 79) #[] #[.pointer (some ⟨W5.heap.size+2,0,none⟩),.pointer (some ⟨W5.heap.size,0,none⟩)]) rfl;have b57:Below W5.heap.size W5 W7:=b6.trans (b7.mono b6.size);have b27:Below w2.heap.size w2 W7:=n5.trans (b57.mono n5.size);have hbw:Rd.But A.has w W7:=HB2.out.trans (Rd.But.of_below b27);have l6:=b6.size;have l7:=b7.size;have lw2:=HE2.out.2
 obtain⟨q1,q2,q3,q4,q5,q6⟩:=HPl.out;have kA:∀ k,w.heap.size≤k→¬A.has k∧¬Und A k:=fun k hk=>⟨fun e=>by have:=HA.out k e;omega,fun e=>by have:=HUl.out k e;omega⟩
 have x3:=(zi k3).1
 have hsv:SvI Kt A (fun k=>w.heap[k]?) w.heap.size (w3.heap.size+1) ⟨v,t,[]⟩ (fun k=>A.has k∨Und A k∨k=w.heap.size∨k=w3.heap.size+1) W7:=by
  refine⟨HV2.out.below b27 zn,HTb.out.2.1.vok,HTb.out.2.1.hon,zbH HTb.out.1 fun k hk hu=>hbw.block k hk (HUn.out k (.inr hu)),HTb.out.2.1.room,(b27.block _ (by omega)).trans HE2.out.1,⟨.slice none 0 0,(b57.block _ (by omega)).trans n3,World.ownsRow_nil _ _ _ _,fun x hx=>by simp[Value.ownBlock] at hx⟩,
   ⟨(kA _ zn).1,(kA _ (by omega)).1,(kA _ zn).2,(kA _ (by omega)).2,by omega⟩,fun k hk=>?_,fun k hk=>hk,fun k hu=>hbw.block k (HUl.out k hu) (HUn.out k hu)⟩
  rcases hk with x|x|x|x
  ·have:=HA.out k x;omega
  ·have:=HUl.out k x;omega
  ·omega
  ·omega
 have hIh:Ih 46 #[.pointer (some ⟨w.heap.size,0,none⟩),.pointer (some ⟨w3.heap.size+1,0,none⟩)] (wh had) (W5.heap.size+1) W5.heap.size (W5.heap.size+2) (SvI Kt A (fun k=>w.heap[k]?) w.heap.size (w3.heap.size+1)) ⟨v,t,[]⟩
   (fun k=>(A.has k∨Und A k∨k=w.heap.size∨k=w3.heap.size+1)∨k=W5.heap.size+1∨k=W5.heap.size∨k=W5.heap.size+2) W7:=by
  have no:∀ k,W5.heap.size≤k→¬(A.has k∨Und A k∨k=w.heap.size∨k=w3.heap.size+1):=fun k hk e=>by
   have:=kA k (by omega);rcases e with x|x|x|x
   ·exact this.1 x
   ·exact this.2 x
   ·omega
   ·omega
  exact⟨_,hsv,fun j=>Iff.rfl,no _ (by omega),no _ (by omega),no _ (by omega),k2.same (b7.block _ k2.lt),(b7.block _ (by omega)).trans k1,(b7.block _ (by omega)).trans k3⟩
 have hgr:=zgs (zeQ (zgy Kt A (fun k=>w.heap[k]?) w.heap.size (w3.heap.size+1)) (wh had) q6 (W5.heap.size+1) W5.heap.size (W5.heap.size+2)) (fun b=>w2.heap.size≤b∧b<w3.heap.size) 32 n l _ ⟨v,t,[]⟩ W7 hIh (n1.below b57 zn)
  (fun b hb=>⟨by omega,fun e=>by
   have:=kA b (by omega);rcases e with(x|x|x|x)|x|x|x
   ·exact this.1 x
   ·exact this.2 x
   ·omega
   ·omega
   ·omega
   ·omega
   ·omega⟩) q1 q2 q3 (by rw[HTb.out.2.2];exact q4)
 rw[HTb.out.2.2] at hgr;have HGr:Hid (Calls Tryz.prog 48 #[gw 79 #[.pointer (some ⟨W5.heap.size+2,0,none⟩),.pointer (some ⟨W5.heap.size,0,none⟩)],nv n] W7 _):=hgr;have cN:W7.cell? ⟨W6.heap.size,0,none⟩=some (.func (.func 79) #[] #[.pointer (some ⟨W5.heap.size+2,0,none⟩),.pointer (some ⟨W5.heap.size,0,none⟩)]):=by rw[zr e7];rfl
 obtain⟨z0,z1,z2,z3,z4⟩:=zhp ((b57.block _ (by omega)).trans n2);have HBw:Hid (Rd.But A.has w W7∧w.heap.size≤W7.heap.size∧(∀ k,w.heap.size≤k→¬A.has k∧¬Und A k)∧w.heap.size≤w3.heap.size∧W5.heap.size=w3.heap.size+2∧W5.heap.size≤W7.heap.size):=⟨hbw,hbw.size,kA,by omega,by omega,by omega⟩;obtain⟨nX,nY,nL,nro,nrn,nrc,nko,nkn,nkc⟩:=n;simp only at z0 z1 z2 z3 z4;clear k1 k2 k3 b6 n1 n2 n3 n4 n5 n6 n7 b7 e7 b57 b27 hbw l6 l7 lw2 q1 q2 q3 q4 q5 q6 kA x3 hsv hIh hgr;go_wp2_with fail;refine Calls.mono HGr.out ?_;rintro e W8 ⟨o',cap',F',rfl,r1,r2,⟨F0,r3,r4,-⟩,r5,r6⟩
 have hbut:Rd.But A.has w W8:=by
  obtain⟨a1,a2,a3,a4,a5,a6⟩:=HBw.out;refine⟨r5.os.trans a1.os,r5.tape.trans a1.tape,r5.output.trans a1.output,Nat.le_trans a2 r5.size,fun j hj hn=>?_⟩;by_cases hu:Und A j
  ·exact r3.und j hu
  ·refine(r5.block j (by omega) (fun e=>?_)).trans (a1.block j hj hn)
   rcases e with(x|x|x|x)|x|x|x
   ·exact hn x
   ·exact hu x
   all_goals omega
 obtain⟨tv,u1,u2,u3⟩:=r3.row;obtain⟨ro,rc',htv,hsl⟩:=zai u2;subst htv;have d1:W8.cell? ⟨w.heap.size,0,none⟩=some (pt A.g):=by rw[zr r3.bx1];rfl
 have d2:W8.cell? ⟨w3.heap.size+1,0,none⟩=some (.slice ro g.s.tk.length rc'):=by rw[zr u1];rfl
 have y1:w.heap.size<W8.heap.size:=(zi r3.bx1).1;have y2:w3.heap.size+1<W8.heap.size:=(zi u1).1;have HFr:Hid (∀ b off,o'=some ⟨b,off,none⟩→w.heap.size≤b):=fun b off e=>by have:=(r2 b off e).1;have:=HBw.out.2.1;omega
 by_cases h0:g.e=0
 ·obtain⟨L,hL⟩:∃ L,(outL g).length=L:=⟨_,rfl⟩
  have HR:Hid (∀ e:Ending,e=.returned (.tuple #[.slice o' L cap',.int .i64 0])→∃ o' cap',e=.returned (.tuple #[.slice o' (outL g).length cap',.int .i64 g.e])∧SvAt W8 o' cap' (outL g)∧(∀ b off,o'=some ⟨b,off,none⟩→w.heap.size≤b)∧Vlt W8 A (finV g) g.s.t∧Rs.Tb Kt W8∧Rd.But A.has w W8):=fun e he=>⟨o',cap',by rw[he,h0,hL],r1,HFr.out,by rw[show finV g=g.s.v from if_pos h0];exact r3.vlt,r3.tb,hbut⟩
  simp only[hL];clear hL;clear r1 r2 r3 r4 r5 r6 u1 u2 u3 hsl hbut HGr d1 d2 y1 y2 cN z0 z1 z2 z3 z4 hst HGv;go_wp2_with fail;go_ret2;exact HR.out _ rfl
 ·have hne':(g.e==0)=false:=by simpa using h0
  have HC:Hid (Calls Tryz.prog 49 #[pt A.g,.slice ro g.s.tk.length rc'] W8 fun e w'=>e=.returned (.tuple #[])∧Vlt w' A (g.s.tk.foldl Rv.give g.s.v) g.s.t∧Rd.But A.has W8 w'):=zly A g.s.v g.s.t g.s.tk ro rc' W8 (by have:=r3.room.1;have:=r3.room.2;omega) r3.vlt r3.hon.ok hsl (fun b off e _=>(u3 b (by rw[e];rfl)).2.1) HGv.out;have HTb8:Hid (∀ W,Rd.But A.has W8 W→Rs.Tb Kt W):=fun W hb=>zbH r3.tb fun k hk hu=>hb.block k hk (HUn.out k (.inr hu))
  have HB8:Hid (Rd.But A.has w W8):=hbut;have HNe:Hid (¬g.e=0):=h0;clear r1 r2 r3 r4 r5 r6 u1 u2 u3 hsl hbut HGr cN z0 z1 z2 z3 z4 hst HGv h0;go_wp2_with fail;refine Calls.mono HC.out ?_;rintro e W9 ⟨rfl,v1,v2⟩
  have HR:Hid (∀ e:Ending,e=.returned (.tuple #[.slice none 0 0,.int .i64 g.e])→∃ o' cap',e=.returned (.tuple #[.slice o' (outL g).length cap',.int .i64 g.e])∧SvAt W9 o' cap' (outL g)∧(∀ b off,o'=some ⟨b,off,none⟩→w.heap.size≤b)∧Vlt W9 A (finV g) g.s.t∧Rs.Tb Kt W9∧Rd.But A.has w W9):=fun e he=>by
   have hL:outL g=[]:=if_neg HNe.out;rw[hL];exact⟨none,0,he,Sl.nil 3 W9,fun b off e=>(by cases e),by rw[show finV g=g.s.tk.foldl Rv.give g.s.v from if_neg HNe.out];exact v1,HTb8.out W9 v2,HB8.out.trans v2⟩
  clear v1 v2 HC d1 d2 y1 y2;go_wp2_with fail;go_ret2;exact HR.out _ rfl
open Rw (Rf fcv fc zaB Pp PAt PgAt okP encS encE pz gv Pg rpp pB gcs ziQ zie eqF zhk)
def eqS (x y:Sv):Bool:=decide (x.t=y.t)&&(decide (x.r.p=y.r.p)&&decide (x.r.t=y.r.t))
theorem zlH (x y:Sv):eqS x y=true↔x=y:=by
 unfold eqS;simp only[Bool.and_eq_true,decide_eq_true_eq];refine⟨fun h=>?_,fun h=>by rw[h];exact⟨rfl,rfl,rfl⟩⟩;obtain⟨xt,⟨xp,xr⟩⟩:=x;obtain⟨yt,⟨yp,yr⟩⟩:=y;obtain⟨h1,h2,h3⟩:=h;simp only at h1 h2 h3;subst h1 h2 h3;rfl
theorem zlI (p q:Nat) (c d:ByteArray) (w:World):(Op.equalIn 9999 49 (.agg #[.int .u32 (p:Int),.string c]) (.agg #[.int .u32 (q:Int),.string d])).run Tryz.prog w=.ok (eqF ⟨p,c⟩ ⟨q,d⟩) w:=by
 have hS:Tryz.prog.underlying 49=some (.struct (Tryz.prog.fieldsOf 49)):=by kernel_rfl
 have hp:Tryz.prog.stoodInHeld 49=false:=by kernel_rfl
 have u2:=Tryz.underlying41;have u9:=Tryz.underlying9;rw[show(9999:Nat)=9998+1 from rfl,run_equalIn_agg w 9998 49 _ _ hS hp];simp only[Program.fieldsOf,Tryz.underlying49];unfold Rw.eqF;simp only;clear hS hp;by_cases h1:p=q
 ·subst h1
  by_cases h4:c=d
  ·subst h4
   go_simp
  ·go_simp
   exact fun e=>Rw.ziQ h4 e
 ·go_simp
  exact fun e=>absurd (Int.ofNat_inj.1 e) h1
theorem zp3 (a b:ByteArray) (p q:Nat) (c d:ByteArray) (w:World):(binOp .eql 51 (.agg #[.string a,.int .u32 (p:Int),.string c]) (.agg #[.string b,.int .u32 (q:Int),.string d])).run Tryz.prog w=.ok (.bool (eqS ⟨a,⟨p,c⟩⟩ ⟨b,⟨q,d⟩⟩)) w:=by
 have hS:Tryz.prog.underlying 51=some (.struct (Tryz.prog.fieldsOf 51)):=by kernel_rfl
 have hp:Tryz.prog.stoodInHeld 51=false:=by kernel_rfl
 have u9:=Tryz.underlying9;have hin:=fun w=>zlI p q c d w
 rw[run_eql_struct,show(10000:Nat)=9999+1 from rfl,run_equalIn_agg w 9999 51 _ _ hS hp];simp only[Program.fieldsOf,Tryz.underlying51];clear hS hp;have e1:eqS ⟨a,⟨p,c⟩⟩ ⟨b,⟨q,d⟩⟩=(decide (a=b)&&eqF ⟨p,c⟩ ⟨q,d⟩):=rfl;rw[e1];generalize eqF ⟨p,c⟩ ⟨q,d⟩=F at hin ⊢;by_cases h1:a=b
 ·subst h1
  cases F<;>simp[go_sem,hin,u9,Result.andThen]
 ·have h2:(a.toList==b.toList)=false:=by
   cases hh:a.toList==b.toList with
   |false=>rfl
   |true=>exact(Rw.ziQ h1 (by simpa using hh)).elim
  simp[go_sem,u9,h2,h1,Result.andThen]
theorem znQ (a b:ByteArray) (p q:Nat) (c d:ByteArray) (w:World):(binOp .neq 51 (.agg #[.string a,.int .u32 (p:Int),.string c]) (.agg #[.string b,.int .u32 (q:Int),.string d])).run Tryz.prog w=.ok (.bool (!eqS ⟨a,⟨p,c⟩⟩ ⟨b,⟨q,d⟩⟩)) w:=by
 have h:=zp3 a b p q c d w;rw[run_eql_struct] at h;rw[run_neq_struct];cases e:(Op.equalIn 10000 51 (.agg #[.string a,.int .u32 (p:Int),.string c]) (.agg #[.string b,.int .u32 (q:Int),.string d])).run Tryz.prog w with
 |ok b w'=>rw[e] at h;simp[Result.andThen] at h ⊢;simp[h]
 |_=>rw[e] at h;simp[Result.andThen] at h
def zaQ (P:Pp):List Rf:=if P.k=1∧¬(P.np=0∧P.nt=⟨#[]⟩) then[⟨P.np,P.nt⟩] else P.ks
theorem c8z {w:World} {g:Nat} {q:Pg} (h:w.heap[g]? =some (gcs q)):w.cell? ⟨g,0,none⟩=some (.int .i64 q.k)∧w.cell? ⟨g,5,none⟩=some (.slice q.ko q.kn q.kc)∧w.cell? ⟨g,6,none⟩=some (.int .u32 (q.np:Int))∧w.cell? ⟨g,7,none⟩=some (.string q.nt):=
 ⟨by rw[zr h];rfl,by rw[zr h];rfl,by rw[zr h];rfl,by rw[zr h];rfl⟩
theorem zlJ (q:Pg) (P:Pp) (w:World) (h:PAt w q P):
  Calls Tryz.prog 85 #[gv q] w fun e w'=>∃ o cap,e=.returned (.slice o (zaQ P).length cap)∧zaB w' o cap (zaQ P)∧Below w.heap.size w w'∧(∀ b off,o=some ⟨b,off,none⟩→w.heap.size≤b∨q.ko=some ⟨b,off,none⟩):=by
 have hb:=zaa w (gcs q);have hg:=zq w (gcs q);obtain⟨W0,hW0⟩:∃ W0,w.alloc (gcs q)=W0:=⟨_,rfl⟩;rw[hW0] at hb hg;obtain⟨c0,c5,c6,c7⟩:=c8z hg;have lg:w.heap.size<W0.heap.size:=(zi hg).1;have hk:=h.k;have hnp:=h.np;have hnt:=h.nt;have hkn:=h.at'.kn;have hks:=(h.below hb zn).at'.kids;obtain⟨qk,qX,qY,qL,qro,qrn,qrc,qko,qkn,qkc,qnp,qnt⟩:=q;simp only at hk hnp hnt hkn hks c0 c5 c6 c7;have hneq:∀ w,(binOp .neq 49 (.agg #[.int .u32 (qnp:Int),.string qnt]) (.agg #[.int .u32 0,.string ⟨#[]⟩])).run Tryz.prog w=.ok (.bool (!eqF ⟨qnp,qnt⟩ ⟨0,⟨#[]⟩⟩)) w:=fun w=>zie qnp 0 qnt ⟨#[]⟩ w
 have HB:Hid (Below w.heap.size w W0):=hb;have HKs:Hid (zaB W0 qko qkc P.ks):=hks;have HKn:Hid (qkn=P.ks.length):=hkn;have HW0:Hid _:=hW0;have HNe:Hid (eqF ⟨qnp,qnt⟩ ⟨0,⟨#[]⟩⟩=true↔(qnp=0∧qnt=⟨#[]⟩)):=⟨fun e=>by have:=(zhk _ _).1 e;cases this;exact⟨rfl,rfl⟩,fun⟨e1,e2⟩=>(zhk _ _).2 (by rw[e1,e2])⟩
 have HDef:Hid (zaQ P=if qk=1∧¬(qnp=0∧qnt=⟨#[]⟩) then[⟨qnp,qnt⟩] else P.ks):=by
  refine(?_:_=_);unfold zaQ;rw[hk,hnp,hnt]
 obtain⟨E,hE⟩:∃ E,eqF ⟨qnp,qnt⟩ ⟨0,⟨#[]⟩⟩=E:=⟨_,rfl⟩;simp only[hE] at hneq;rw[hE] at HNe;clear hb hg hk hnp hnt hkn hks hW0 hE h;by_cases h1:qk=1
 ·subst h1
  cases E with
  |true=>
   have HD:Hid (zaQ P=P.ks):=by
    refine(?_:_=_);rw[HDef.out,if_neg (fun h=>h.2 (HNe.out.1 rfl))]
   rw[HD.out];clear HDef HD HNe;go_enter Tryz.func85,Tryz.ntmps85
   go_wp2_with (first|(rw[HW0.out];clear HW0))
   go_ret;exact⟨qko,qkc,by rw[HKn.out];rfl,HKs.out,HB.out,fun b off e=>.inr e⟩
  |false=>
   have HD:Hid (zaQ P=[⟨qnp,qnt⟩]):=by
    refine(?_:_=_);rw[HDef.out,if_pos ⟨rfl,fun h=>by have:=HNe.out.2 h;cases this⟩]
   rw[HD.out];have hg1:=zq W0 (.cells #[.int .u32 (qnp:Int),.string qnt] 49);have HB1:Hid (Below w.heap.size w (W0.alloc (.cells #[.int .u32 (qnp:Int),.string qnt] 49))):=HB.out.trans ((zaa W0 _).mono HB.out.size);have HG1:Hid _:=zlo (r:=⟨qnp,qnt⟩) hg1;have HL:Hid (w.heap.size≤W0.heap.size):=HB.out.size;clear HDef HD HNe HKs HB hg1;go_enter Tryz.func85,Tryz.ntmps85
   go_wp2_with (first|(rw[HW0.out];clear HW0))
   go_ret;exact⟨_,1,rfl,HG1.out,HB1.out,fun b off e=>by cases e;exact .inl HL.out⟩
 ·have HD:Hid (zaQ P=P.ks):=by
   refine(?_:_=_);rw[HDef.out,if_neg (fun h=>h1 h.1)]
  rw[HD.out];have h1':decide (qk=1)=false:=decide_eq_false h1;clear HDef HD HNe hneq;go_enter Tryz.func85,Tryz.ntmps85
  go_wp2_with (first|(rw[HW0.out];clear HW0))
  go_ret;exact⟨qko,qkc,by rw[HKn.out];rfl,HKs.out,HB.out,fun b off e=>.inr e⟩
open Rw (Rf fcv fc zaB Pp PAt PgAt okP encS encE pz gv Pg rpp pB gcs zbF decP decE)
structure LS where
 n:Nat
 rows:List Rw
 pages:List Sv
def stp (f:LS→Rf→LS × Int):List Rf→LS→LS × Int
 |[],s=>(s,0)
 |r::rs,s=>if(f s r).2=0 then stp f rs (f s r).1 else f s r
def rdG (rd:Rf→ByteArray × Int):Nat→LS→Rf→LS × Int
 |0,s,_=>(s,61)
 |d+1,s,r=>
  if s.n=2100 then(s,61)
  else if(rd r).2=0 then
   if zbF (rd r).1=true then
    if(stp (rdG rd d) (zaQ (decP (rd r).1)) ⟨s.n+1,s.rows,s.pages⟩).2=0 then
     (⟨(stp (rdG rd d) (zaQ (decP (rd r).1)) ⟨s.n+1,s.rows,s.pages⟩).1.n,(stp (rdG rd d) (zaQ (decP (rd r).1)) ⟨s.n+1,s.rows,s.pages⟩).1.rows++(decP (rd r).1).l,(stp (rdG rd d) (zaQ (decP (rd r).1)) ⟨s.n+1,s.rows,s.pages⟩).1.pages++[⟨(rd r).1,r⟩]⟩,0)
    else stp (rdG rd d) (zaQ (decP (rd r).1)) ⟨s.n+1,s.rows,s.pages⟩
   else(⟨s.n+1,s.rows,s.pages⟩,61)
  else(⟨s.n+1,s.rows,s.pages⟩,(rd r).2)
theorem zeh {x:ByteArray} (h:zbF x=true):(decP x).l.length≤4∧(decP x).ks.length≤4∧(∀ r∈zaQ (decP x),r.p<4294967296)∧(zaQ (decP x)).length≤4:=by
 obtain⟨-,h2,h3⟩:=Rw.zk0 h;obtain⟨o1,o2,o3,o4,o5⟩:=h3
 have hk:(decP x).l.length≤4∧(decP x).ks.length≤4:=by
  rcases Rw.zfs h2 with e|e
  ·have h:=Rw.zfr e h2
   exact⟨h.2.1,by rw[h.2.2.2.2.2.2.2];exact Nat.zero_le _⟩
  ·have h:=Rw.zeb e h2
   exact⟨by rw[h.2.2.2.2.2.2.1];exact Nat.zero_le _,h.2.1⟩
 refine⟨hk.1,hk.2,fun r hr=>?_,?_⟩
 ·unfold zaQ at hr
  split at hr
  ·rw[List.mem_singleton.1 hr];exact o3
  ·exact o5 r hr
 ·unfold zaQ
  split
  ·simp
  ·exact hk.2
structure RdI (A:Pl) (f:Nat) (s:LS) (vr vp:Value) (W:World):Prop where
 self:W.heap[f]? =some (.cells #[pt A.g,.int .i64 (s.n:Int),vr,vp] 121 (0,0))
 rows:W.ownsRow (f+1) 79 4 vr s.rows.length (s.rows.flatMap rc)
 pages:W.ownsRow (f+1) 51 3 vp s.pages.length (s.pages.flatMap sc)
 ne:∀ g,vr.ownBlock=some g→vp.ownBlock≠some g
 cnt:s.n≤2100∧s.rows.length≤4*s.n∧s.pages.length≤s.n
def Ow (f:Nat) (vr vp:Value) (j:Nat):Prop:=j=f∨vr.ownBlock=some j∨vp.ownBlock=some j
theorem RdI.keep {A:Pl} {f:Nat} {s:LS} {vr vp:Value} {W W':World} (h:RdI A f s vr vp W) (hk:∀ j,j<W.heap.size→Ow f vr vp j→W'.heap[j]? =W.heap[j]?):RdI A f s vr vp W':=
 ⟨(hk f (zi h.self).1 (.inl rfl)).trans h.self,zaF h.rows fun g hg hl=>hk g hl (.inr (.inl hg)),zaF h.pages fun g hg hl=>hk g hl (.inr (.inr hg)),h.ne,h.cnt⟩
theorem RdI.lt {A:Pl} {f:Nat} {s:LS} {vr vp:Value} {W:World} (h:RdI A f s vr vp W) {j:Nat} (hj:Ow f vr vp j):f≤j∧j<W.heap.size:=by
 rcases hj with rfl|hj|hj
 ·exact⟨Nat.le_refl _,(zi h.self).1⟩
 ·have:=zat h.rows hj;omega
 ·have:=zat h.pages hj;omega
theorem zdo {w:World} {g:Nat} {a b c d:Value} {t:TypeId} {fr:Nat × Nat} (h:w.heap[g]? =some (.cells #[a,b,c,d] t fr)):w.cell? ⟨g,0,none⟩=some a∧w.cell? ⟨g,1,none⟩=some b∧w.cell? ⟨g,2,none⟩=some c∧w.cell? ⟨g,3,none⟩=some d:=
 ⟨by rw[zr h];rfl,by rw[zr h];rfl,by rw[zr h];rfl,by rw[zr h];rfl⟩
theorem zhx {W:World} {g i:Nat} {a b c d v:Value} {t:TypeId} (h:W.heap[g]? =some (.cells #[a,b,c,d] t (0,0))):(W.setCell ⟨g,i,none⟩ v).heap[g]? =some (.cells (#[a,b,c,d].setIfInBounds i v) t (0,0)):=zx W g i _ _ v h
def RP (A:Pl) (f:Nat) (vr vp:Value) (W:World) (k:LS × Int) (e:Ending) (W':World):Prop:=
 e=.returned (.int .i64 k.2)∧∃ vr' vp',RdI A f k.1 vr' vp' W'∧Grw (Ow f vr vp) (Ow f vr' vp') W W'∧But (Ow f vr vp) W W'
theorem zp4 {f:LS→Rf→LS × Int} (hf:∀ s r,s.n≤(f s r).1.n):∀ (rs:List Rf) (s:LS),s.n≤(stp f rs s).1.n
 |[],s=>Nat.le_refl _
 |r::rs,s=>by
  unfold stp;split
  ·exact Nat.le_trans (hf s r) (zp4 hf rs _)
  ·exact hf s r
theorem zp5 (rd:Rf→ByteArray × Int):∀ (d:Nat) (s:LS) (r:Rf),s.n≤(rdG rd d s r).1.n
 |0,s,_=>Nat.le_refl _
 |d+1,s,r=>by
  have h:=zp4 (zp5 rd d) (zaQ (decP (rd r).1)) ⟨s.n+1,s.rows,s.pages⟩;have h':s.n+1≤(stp (rdG rd d) (zaQ (decP (rd r).1)) ⟨s.n+1,s.rows,s.pages⟩).1.n:=h;unfold rdG;split
  ·exact Nat.le_refl _
  ·split
   ·split
    ·split
     ·show s.n≤(stp (rdG rd d) (zaQ (decP (rd r).1)) ⟨s.n+1,s.rows,s.pages⟩).1.n;omega
     ·omega
    ·exact Nat.le_succ _
   ·exact Nat.le_succ _
theorem zlK {f:LS→Rf→LS × Int} (hf:∀ s r,(f s r).1.rows.length+4*s.n≤s.rows.length+4*(f s r).1.n∧(f s r).1.pages.length+s.n≤s.pages.length+(f s r).1.n):∀ (rs:List Rf) (s:LS),(stp f rs s).1.rows.length+4*s.n≤s.rows.length+4*(stp f rs s).1.n∧(stp f rs s).1.pages.length+s.n≤s.pages.length+(stp f rs s).1.n
 |[],s=>⟨Nat.le_refl _,Nat.le_refl _⟩
 |r::rs,s=>by
  have h1:=hf s r;unfold stp;split
  ·have h2:=zlK hf rs (f s r).1
   omega
  ·exact h1
theorem zhy (rd:Rf→ByteArray × Int):∀ (d:Nat) (s:LS) (r:Rf),(rdG rd d s r).1.rows.length+4*s.n≤s.rows.length+4*(rdG rd d s r).1.n∧(rdG rd d s r).1.pages.length+s.n≤s.pages.length+(rdG rd d s r).1.n
 |0,s,_=>⟨Nat.le_refl _,Nat.le_refl _⟩
 |d+1,s,r=>by
  have h:=zlK (zhy rd d) (zaQ (decP (rd r).1)) ⟨s.n+1,s.rows,s.pages⟩;unfold rdG;generalize hK:stp (rdG rd d) (zaQ (decP (rd r).1)) ⟨s.n+1,s.rows,s.pages⟩=K at*
  simp only at h;split
  ·exact⟨Nat.le_refl _,Nat.le_refl _⟩
  ·split
   ·split
    ·rename_i hdk
     have h4:=(zeh hdk).1;split
     ·simp only[List.length_append,List.length_singleton];omega
     ·omega
    ·simp only;omega
   ·simp only;omega
def rdV (Kt:Nat→Int) (v:Vs) (t:St) (r:Rf):ByteArray × Int:=(Rv.pgS Kt v t r.p r.t,Rv.pgE Kt v t r.p r.t)
def zdF (Kt:Nat→Int) (A:Pl) (v:Vs) (t:St) (f d:Nat):Prop:=
 ∀ (s:LS) (vr vp:Value) (W:World) (r:Rf),RdI A f s vr vp W→Vlt W A v t→Rs.Tb Kt W→2100<s.n+d→r.p<4294967296→Calls Tryz.prog 59 #[pt f,fcv r] W (RP A f vr vp W (rdG (rdV Kt v t) d s r))
theorem RdI.count {A:Pl} {f:Nat} {s:LS} {vr vp:Value} {W:World} (h:RdI A f s vr vp W) (hn:s.n<2100):RdI A f ⟨s.n+1,s.rows,s.pages⟩ vr vp (W.setCell ⟨f,1,none⟩ (.int .i64 ((s.n+1:Nat):Int)))∧But (fun j=>j=f) W (W.setCell ⟨f,1,none⟩ (.int .i64 ((s.n+1:Nat):Int))):=by
 have hk:∀ j,j≠f→(W.setCell ⟨f,1,none⟩ (.int .i64 ((s.n+1:Nat):Int))).heap[j]? =W.heap[j]? :=fun j hj=>Below.heap_setCell _ _ _ _ (fun e=>hj e)
 obtain⟨h1,h2,h3⟩:=h.cnt;refine⟨⟨by have:=zhx (i:=1) (v:=.int .i64 ((s.n+1:Nat):Int)) h.self;simpa using this,zaF h.rows fun g hg hl=>hk g (by have:=(zat h.rows hg).1;omega),zaF h.pages fun g hg hl=>hk g (by have:=(zat h.pages hg).1;omega),h.ne,by simp only;omega,by simp only;omega,by simp only;omega⟩,⟨rfl,rfl,rfl,by simp[World.setCell],fun j _ hn=>hk j hn⟩⟩
theorem RdI.addRows {A:Pl} {f:Nat} {s:LS} {vr vp:Value} {W:World} (h:RdI A f s vr vp W) (hn:s.rows.length+4≤4*s.n) {o:Option Addr} {cap:Nat} {l:List Rw} (hl:zac W o cap l) (h4:l.length≤4):
  ∃ vr' W',(Builtin.append_ #[22,22] 22 #[vr,.slice o l.length cap]).run Tryz.prog W=.ok vr' W'∧W'.frozen? ⟨f,2,none⟩=false∧W'.cell? ⟨f,2,none⟩=some vr∧(∀ k,k<W.heap.size→¬Ow f vr vp k→W'.heap[k]? =W.heap[k]?)∧RdI A f ⟨s.n,s.rows++l,s.pages⟩ vr' vp (W'.setCell ⟨f,2,none⟩ vr')∧Grw (Ow f vr vp) (Ow f vr' vp) W (W'.setCell ⟨f,2,none⟩ vr')∧But (Ow f vr vp) W (W'.setCell ⟨f,2,none⟩ vr'):=by
 obtain⟨c1,c2,c3⟩:=h.cnt;have hf:=(zi h.self).1;obtain⟨vr',W',hrun,a1,a2,a3⟩:=zaV 22 79 Tryz.underlying22 ze7 rfl (by decide) (by decide) W (f+1) s.rows.length l.length vr o cap (s.rows.flatMap rc) (l.flatMap rc) h.rows (by omega) hl (zj7 l) (by omega);have hs:=a2.size;have e1:W'.heap[f]? =some (.cells #[pt A.g,.int .i64 (s.n:Int),vr,vp] 121 (0,0)):=(a2.block _ hf (fun e=>by have:=(zat h.rows e.symm).1;omega)).trans h.self;have hk:∀ j,j≠f→(W'.setCell ⟨f,2,none⟩ vr').heap[j]? =W'.heap[j]? :=fun j hj=>Below.heap_setCell _ _ _ _ (fun e=>hj e)
 have hss:(W'.setCell ⟨f,2,none⟩ vr').heap.size=W'.heap.size:=by simp[World.setCell]
 have hpg:∀ g,vp.ownBlock=some g→g<W.heap.size→(W'.setCell ⟨f,2,none⟩ vr').heap[g]? =W.heap[g]? :=fun g hg hl=>(hk g (by have:=(zat h.pages hg).1;omega)).trans (a2.block g hl fun e=>h.ne g e.symm hg)
 refine⟨vr',W',hrun,frozen_of_row W' _ _ _ _ e1,(zdo e1).2.2.1,fun k hl hn=>a2.block k hl fun e=>hn (.inr (.inl e.symm)),⟨by have:=zhx (i:=2) (v:=vr') e1;simpa using this,?_,zaF h.pages hpg,fun g hg hg2=>?_,c1,by simp only[List.length_append];omega,c3⟩,fun j hj=>?_,⟨a2.os,a2.tape,a2.output,by omega,fun j hj hn=>?_⟩⟩
 ·rw[List.length_append,List.flatMap_append]
  exact zaF a1 fun g hg _=>hk g (by have:=(zat a1 hg).1;omega)
 ·rcases a3 with a3|a3
  ·exact h.ne g (by rw[←a3];exact hg) hg2
  ·rw[a3] at hg
   cases hg;have:=(zat h.pages hg2).2;omega
 ·rcases hj with hj|hj|hj
  ·exact .inl (.inl hj)
  ·have:=(zat a1 hj).2
   rcases a3 with a3|a3
   ·exact .inl (.inr (.inl (by rw[←a3];exact hj)))
   ·rw[a3] at hj
    cases hj;exact .inr ⟨Nat.le_refl _,by omega⟩
  ·exact .inl (.inr (.inr hj))
 ·exact(hk j fun e=>hn (.inl e)).trans (a2.block j hj fun e=>hn (.inr (.inl e.symm)))
theorem RdI.addPage {A:Pl} {f:Nat} {s:LS} {vr vp:Value} {W:World} (h:RdI A f s vr vp W) (hn:s.pages.length+1≤s.n) (x:Sv) {b:Nat} (hx:W.heap[b]? =some (.cells #[.string x.t,.int .u32 (x.r.p:Int),.string x.r.t] 51 (0,0))):
  ∃ vp' W',(Builtin.append_ #[29,29] 29 #[vp,.slice (some ⟨b,0,none⟩) 1 1]).run Tryz.prog W=.ok vp' W'∧W'.frozen? ⟨f,3,none⟩=false∧W'.cell? ⟨f,3,none⟩=some vp∧(∀ k,k<W.heap.size→¬Ow f vr vp k→W'.heap[k]? =W.heap[k]?)∧RdI A f ⟨s.n,s.rows,s.pages++[x]⟩ vr vp' (W'.setCell ⟨f,3,none⟩ vp')∧Grw (Ow f vr vp) (Ow f vr vp') W (W'.setCell ⟨f,3,none⟩ vp')∧But (Ow f vr vp) W (W'.setCell ⟨f,3,none⟩ vp'):=by
 obtain⟨c1,c2,c3⟩:=h.cnt;have hf:=(zi h.self).1;obtain⟨vp',W',hrun,a1,a2,a3⟩:=zaV 29 51 Tryz.underlying29 znN rfl (by decide) (by decide) W (f+1) s.pages.length 1 vp (some ⟨b,0,none⟩) 1 (s.pages.flatMap sc) (sc x) h.pages (by omega) (znP hx) (znO x) (by omega);have hs:=a2.size;have e1:W'.heap[f]? =some (.cells #[pt A.g,.int .i64 (s.n:Int),vr,vp] 121 (0,0)):=(a2.block _ hf (fun e=>by have:=(zat h.pages e.symm).1;omega)).trans h.self;have hk:∀ j,j≠f→(W'.setCell ⟨f,3,none⟩ vp').heap[j]? =W'.heap[j]? :=fun j hj=>Below.heap_setCell _ _ _ _ (fun e=>hj e)
 have hss:(W'.setCell ⟨f,3,none⟩ vp').heap.size=W'.heap.size:=by simp[World.setCell]
 have hpg:∀ g,vr.ownBlock=some g→g<W.heap.size→(W'.setCell ⟨f,3,none⟩ vp').heap[g]? =W.heap[g]? :=fun g hg hl=>(hk g (by have:=(zat h.rows hg).1;omega)).trans (a2.block g hl fun e=>h.ne g hg e.symm)
 refine⟨vp',W',hrun,frozen_of_row W' _ _ _ _ e1,(zdo e1).2.2.2,fun k hl hn=>a2.block k hl fun e=>hn (.inr (.inr e.symm)),⟨by have:=zhx (i:=3) (v:=vp') e1;simpa using this,zaF h.rows hpg,?_,fun g hg hg2=>?_,c1,c2,by simp only[List.length_append,List.length_singleton];omega⟩,fun j hj=>?_,⟨a2.os,a2.tape,a2.output,by omega,fun j hj hn=>?_⟩⟩
 ·rw[List.length_append,List.flatMap_append,show[x].flatMap sc=sc x by simp]
  exact zaF a1 fun g hg _=>hk g (by have:=(zat a1 hg).1;omega)
 ·rcases a3 with a3|a3
  ·exact h.ne g hg (by rw[←a3];exact hg2)
  ·rw[a3] at hg2
   cases hg2;have:=(zat h.rows hg).2;omega
 ·rcases hj with hj|hj|hj
  ·exact .inl (.inl hj)
  ·exact .inl (.inr (.inl hj))
  ·have:=(zat a1 hj).2
   rcases a3 with a3|a3
   ·exact .inl (.inr (.inr (by rw[←a3];exact hj)))
   ·rw[a3] at hj
    cases hj;exact .inr ⟨Nat.le_refl _,by omega⟩
 ·exact(hk j fun e=>hn (.inl e)).trans (a2.block j hj fun e=>hn (.inr (.inr e.symm)))
theorem zpb {P:Program} {o:Oper} {a:Act} {w:World} {K:Act→World→Prop} {Q:Exit→Act→World→Prop} (t u:TypeId) (s x:Operand) (ho:o.op=.call { callee:=.builtin .append,args:=#[s,x],argTypes:=#[t,u] })
  {vs vx v':Value} {w':World} (hs:a.eval s=vs) (hx:a.eval x=vx) (hrun:(Builtin.append_ #[t,u] o.type #[vs,vx]).run P w=.ok v' w') (hK:K (a.put o.dst v') w'):o.wp P a w K Q:=by
 unfold Oper.wp execOp;simp only[ho,resolve,invoke,builtin,Sem.run_bind,Sem.run_pure,Result.andThen_ok,List.map_toArray,List.map_cons,List.map_nil,hs,hx,hrun];exact hK
def Sx3 (f b:Nat) (g:Value) (r:Rf) (W:World):Prop:=W.cell? ⟨f,0,none⟩=some g∧W.cell? ⟨b,0,none⟩=some (.int .u32 (r.p:Int))∧W.cell? ⟨b,1,none⟩=some (.string r.t)
theorem zlL (Kt:Nat→Int) (A:Pl) (v:Vs) (t:St) (f d:Nat) (hk:Ok t) (hA:∀ k,A.has k∨Und A k→k<f) (ih:zdF Kt A v t f d):zdF Kt A v t f (d+1):=by
 rintro⟨sn,srows,spages⟩ vr vp w ⟨rp,rt⟩ hI hV hT hd hp;obtain⟨W0,hW0⟩:∃ W0,w.alloc (.cells #[.int .u32 (rp:Int),.string rt] 49)=W0:=⟨_,rfl⟩;have b0:Below w.heap.size w W0:=by rw[←hW0];exact zaa _ _
 have y0:FB w.heap.size (rp:Int) rt W0:=by rw[←hW0];exact zq w _
 have hI0:RdI A f ⟨sn,srows,spages⟩ vr vp W0:=hI.keep fun j hj _=>b0.block j hj
 have hs0:W0.heap.size=w.heap.size+1:=by rw[←hW0];simp
 have c1:=(zdo hI0.self).2.1;have lf:f<W0.heap.size:=(zi hI0.self).1;have lfw:f<w.heap.size:=(zi hI.self).1;obtain⟨hn1,-,-⟩:=hI.cnt;simp only at hn1 c1 hd hp;have HW0:Hid _:=hW0;by_cases h0:sn=2100
 ·subst h0
  have HR:Hid (RP A f vr vp w (rdG (rdV Kt v t) (d+1) ⟨2100,srows,spages⟩ ⟨rp,rt⟩) (.returned (.int .i64 61)) W0):=by
   have e1:rdG (rdV Kt v t) (d+1) ⟨2100,srows,spages⟩ ⟨rp,rt⟩=(⟨2100,srows,spages⟩,61):=by rw[rdG,if_pos rfl]
   rw[e1];exact⟨rfl,vr,vp,hI0,fun j hj=>.inl hj,But.of_below b0⟩
  have c1':W0.cell? ⟨f,1,none⟩=some (.int .i64 2100):=c1;clear hI hV hT hd hp b0 y0 hI0 hs0 hn1 hW0 c1 ih;go_enter Tryz.func59,Tryz.ntmps59
  go_wp2_with (first|(rw[HW0.out];clear HW0))
  go_ret;exact HR.out
 ·have hlt:sn<2100:=by omega
  obtain⟨hI1,hb1⟩:=hI0.count hlt;have z1:W0.frozen? ⟨f,1,none⟩=false:=frozen_of_row W0 _ _ _ _ hI0.self;simp only at hI1 hb1;have ecast:((sn+1:Nat):Int)=(sn:Int)+1:=by omega
  rw[ecast] at hI1 hb1;obtain⟨W1,hW1⟩:∃ W1,W0.setCell ⟨f,1,none⟩ (.int .i64 ((sn:Int)+1))=W1:=⟨_,rfl⟩;rw[hW1] at hI1 hb1;have hk0:∀ k,k<w.heap.size→k≠f→W1.heap[k]? =w.heap[k]? :=fun k hk hn=>(hb1.block k (by omega) hn).trans (b0.block k hk)
  have hV1:Vlt W1 A v t:=zbO hV (Nat.le_trans b0.size hb1.size) fun k hk hh=>hk0 k hk (by have:=hA k hh;omega)
  have hT1:Rs.Tb Kt W1:=zbH hT fun k hk hh=>hk0 k hk (by have:=hA k (.inr (.inr hh));omega)
  have y1:FB w.heap.size (rp:Int) rt W1:=(hb1.block _ (by omega) (by omega)).trans y0;have hn2:¬(sn:Int)=2100:=by omega
  have hn3:(sn:Int)<2100:=by omega
  have hC:=Rv.zcH Kt A v t rp (by omega) rt W1.drew (zbO hV1 zn fun k _ _=>rfl) hk (zbH hT1 fun k _ _=>rfl);have HC:Hid (Calls Tryz.prog 83 #[pt A.g,.agg #[.int .u32 (rp:Int),.string rt]] W1.drew fun e w'=>e=.returned (.tuple #[.string (Rv.pgS Kt v t rp rt),.int .i64 (Rv.pgE Kt v t rp rt)])∧Below W1.drew.heap.size W1.drew w'):=hC;have HSW:Hid (Sx3 f w.heap.size (pt A.g) ⟨rp,rt⟩ W1.drew):=⟨(zdo hI1.self).1,(y1.facts).2.2.1,(y1.facts).2.2.2⟩;have HK1:Hid (RdI A f ⟨sn+1,srows,spages⟩ vr vp W1∧Vlt W1 A v t∧Rs.Tb Kt W1∧FB w.heap.size (rp:Int) rt W1∧w.heap.size+1≤W1.heap.size∧But (Ow f vr vp) w W1):=⟨by rw[show((sn:Int)+1)=((sn+1:Nat):Int) by omega] at*;exact hI1,hV1,hT1,y1,by have:=hb1.size;omega,(But.of_below b0).trans (hb1.more fun j _ hj=>.inl hj)⟩;have HK0:Hid (RdI A f ⟨sn,srows,spages⟩ vr vp w):=hI;have HVT:Hid (Vlt w A v t∧Rs.Tb Kt w):=⟨hV,hT⟩;have HW1:Hid _:=hW1;have HDn:Hid (2100<sn+(d+1)∧sn<2100∧f<w.heap.size∧rp<4294967296):=⟨hd,hlt,lfw,hp⟩
  have HIH:Hid (zdF Kt A v t f d):=ih;have HAk:Hid (∀ k,A.has k∨Und A k→k<f):=hA;obtain⟨KK,hKK⟩:∃ K,rdG (rdV Kt v t) (d+1) ⟨sn,srows,spages⟩ ⟨rp,rt⟩=K:=⟨_,rfl⟩;obtain⟨X,hX⟩:∃ X,Rv.pgS Kt v t rp rt=X:=⟨_,rfl⟩;obtain⟨E,hE⟩:∃ E,Rv.pgE Kt v t rp rt=E:=⟨_,rfl⟩;have e1:(rdV Kt v t ⟨rp,rt⟩).1=X:=hX;have e2:(rdV Kt v t ⟨rp,rt⟩).2=E:=hE;have HG0:Hid (¬E=0→KK=(⟨sn+1,srows,spages⟩,E)):=fun h=>by rw[←hKK,rdG,e2,if_neg h0,if_neg h]
  have HG1:Hid (E=0→zbF X=false→KK=(⟨sn+1,srows,spages⟩,61)):=fun h h'=>by rw[←hKK,rdG,e1,e2,if_neg h0,if_pos h,if_neg (by rw[h'];decide)]
  have HG2:Hid (E=0→zbF X=true→KK=if(stp (rdG (rdV Kt v t) d) (zaQ (decP X)) ⟨sn+1,srows,spages⟩).2=0 then(⟨(stp (rdG (rdV Kt v t) d) (zaQ (decP X)) ⟨sn+1,srows,spages⟩).1.n,(stp (rdG (rdV Kt v t) d) (zaQ (decP X)) ⟨sn+1,srows,spages⟩).1.rows++(decP X).l,(stp (rdG (rdV Kt v t) d) (zaQ (decP X)) ⟨sn+1,srows,spages⟩).1.pages++[⟨X,⟨rp,rt⟩⟩]⟩,0) else stp (rdG (rdV Kt v t) d) (zaQ (decP X)) ⟨sn+1,srows,spages⟩):=fun h h'=>by rw[←hKK,rdG,e1,e2,if_neg h0,if_pos h,if_pos h']
  rw[hX,hE] at HC;rw[hKK];clear hI hV hT hd hp b0 y0 hI0 hs0 hn1 hW0 ih hI1 hb1 hk0 hV1 hT1 y1 hC hW1 ecast h0 hlt hA hKK hX hE e1 e2;go_enter Tryz.func59,Tryz.ntmps59
  go_wp2_with (first|(rw[HW0.out];clear HW0)|(rw[HW1.out];clear HW1))
  refine wp_region_held (S:=Sx3 f w.heap.size (pt A.g) ⟨rp,rt⟩) (by kernel_rfl) ?_;change wpAnyH _ _ _ _ _ _ _ _ (World.drew _);refine plan [0,1,2,3,4] ?_
  iterate 5
   refine tkH (v:=?_) rfl ?_ HSW.out ?_;rotate_left
   ·rintro w ⟨e1,e2,e3⟩;go_simp;try with_reducible rfl
   conv in(Act.put _ _ _)=>simp only[zL1,zL2,zL3,Act.put,zL4,zL5,zL6]
  refine plan0 ?_;refine zar 5 _ (by kernel_rfl) rfl (by kernel_rfl) (fun K hK=>?_);go_simp;refine HC.out.mono ?_;rintro e w2 ⟨rfl,b2⟩;have hwk:∀ k,k<W1.heap.size→w2.heap[k]? =W1.heap[k]? :=fun k hk=>b2.block k hk
  have hws:W1.heap.size≤w2.heap.size:=b2.size
  have HB2:Hid (RdI A f ⟨sn+1,srows,spages⟩ vr vp w2∧FB w.heap.size (rp:Int) rt w2∧w.heap.size+1≤w2.heap.size∧But (Ow f vr vp) w w2):=by
   obtain⟨g1,g2,g3,g4,g5,g6⟩:=HK1.out;exact⟨g1.keep fun j hj _=>hwk j hj,(hwk _ (by omega)).trans g4,by omega,g6.trans ⟨b2.os,b2.tape,b2.output,hws,fun j hj _=>hwk j hj⟩⟩
  replace HSW:Hid (Sx3 f w.heap.size (pt A.g) ⟨rp,rt⟩ w2):=⟨(zdo HB2.out.1.self).1,(HB2.out.2.1.facts).2.2.1,(HB2.out.2.1.facts).2.2.2⟩
  refine hK _ _ HSW.out ?_;clear hK K b2 hwk hws HC HK1;refine plan [6,7,8,9,10] ?_
  iterate 5
   refine tkH (v:=?_) rfl ?_ HSW.out ?_;rotate_left
   ·rintro w ⟨e1,e2,e3⟩;go_simp;try with_reducible rfl
   conv in(Act.put _ _ _)=>simp only[zL1,zL2,zL3,Act.put,zL4,zL5,zL6]
  refine plan0 ?_;refine wpAnyH_done (by kernel_rfl) ?_ _;clear HSW
  rename_i hKK
  refine hKK _ _ ?_;clear hKK;by_cases hE:E=0
  ·subst hE
   have HD:Hid (Calls Tryz.prog 84 #[.string X] w2 fun e w'=>∃ q,e=.returned (.tuple #[gv q,.int .i64 (decE X)])∧(PAt w' q (decP X)∧(∀ b off,q.ro=some ⟨b,off,none⟩→w2.heap.size≤b)∧∀ b off,q.ko=some ⟨b,off,none⟩→w2.heap.size≤b)∧Below w2.heap.size w2 w'):=Rw.zhf X w2;have hG1:=HG1.out rfl;have HG3:Hid _:=HG2.out rfl;have HG1b:Hid (zbF X=false→KK=(⟨sn+1,srows,spages⟩,61)):=hG1;clear hG1 HG0 HG1 HG2;cases hdk:zbF X with
   |false=>
    have hde:decE X=90:=by unfold Rw.decE;rw[hdk];rfl
    rw[hde] at HD;have HKe:Hid (KK=(⟨sn+1,srows,spages⟩,61)):=HG1b.out hdk;clear hde HG1b HG3 hdk;go_wp2_with fail;refine Calls.mono HD.out ?_;rintro e w3 ⟨q,rfl,-,b3⟩;have b4:=zaa w3 (gcs q)
    have HR:Hid (RP A f vr vp w KK (.returned (.int .i64 61)) (w3.alloc (gcs q))):=by
     rw[HKe.out];obtain⟨g1,g2,g3,g4⟩:=HB2.out;have b34:=b3.trans (b4.mono b3.size);exact⟨rfl,vr,vp,g1.keep fun j hj _=>b34.block j hj,fun j hj=>.inl hj,g4.trans ⟨b34.os,b34.tape,b34.output,b34.size,fun j hj _=>b34.block j hj⟩⟩
    obtain⟨qk,qX,qY,qL,qro,qrn,qrc,qko,qkn,qkc,qnp,qnt⟩:=q;simp only[gv,gcs] at HR ⊢;clear b3 b4 HD HB2 HKe;go_wp2_with fail;go_ret;exact HR.out
   |true=>
    have hde:decE X=0:=by unfold Rw.decE;rw[hdk];rfl
    rw[hde] at HD;obtain⟨hl4,-,hrs32,hrs4⟩:=zeh hdk;have HK3:Hid (KK=if(stp (rdG (rdV Kt v t) d) (zaQ (decP X)) ⟨sn+1,srows,spages⟩).2=0 then(⟨(stp (rdG (rdV Kt v t) d) (zaQ (decP X)) ⟨sn+1,srows,spages⟩).1.n,(stp (rdG (rdV Kt v t) d) (zaQ (decP X)) ⟨sn+1,srows,spages⟩).1.rows++(decP X).l,(stp (rdG (rdV Kt v t) d) (zaQ (decP X)) ⟨sn+1,srows,spages⟩).1.pages++[⟨X,⟨rp,rt⟩⟩]⟩,0) else stp (rdG (rdV Kt v t) d) (zaQ (decP X)) ⟨sn+1,srows,spages⟩):=HG3.out hdk;obtain⟨P,hP⟩:∃ P,decP X=P:=⟨_,rfl⟩;rw[hP] at HD HK3 hl4 hrs32 hrs4;obtain⟨rs,hrs⟩:∃ rs,zaQ P=rs:=⟨_,rfl⟩;have HRs:Hid (zaQ P=rs):=hrs;rw[hrs] at HK3 hrs32 hrs4;have HP4:Hid (P.l.length≤4∧(∀ r∈rs,r.p<4294967296)∧rs.length≤4):=⟨hl4,hrs32,hrs4⟩;clear hde HG1b HG3 hdk hP hrs hl4 hrs32 hrs4;go_wp2_with fail;refine Calls.mono HD.out ?_;rintro e w3 ⟨q,rfl,⟨hq,hlr,hlk⟩,b3⟩;have b4:=zaa w3 (gcs q);have g4:=zq w3 (gcs q);have hRf:=zlJ q P (w3.alloc (gcs q)) (hq.below b4 zn)
    rw[HRs.out] at hRf;obtain⟨W4,hW4⟩:∃ W4,w3.alloc (gcs q)=W4:=⟨_,rfl⟩;have hs4:W4.heap.size=w3.heap.size+1:=by rw[←hW4];simp
    rw[hW4] at hRf b4 g4;have hq4:=hq.below b4 zn;have HRf:Hid (Calls Tryz.prog 85 #[gv q] W4 fun e w'=>∃ o cap,e=.returned (.slice o rs.length cap)∧zaB w' o cap rs∧Below W4.heap.size W4 w'∧∀ b off,o=some ⟨b,off,none⟩→W4.heap.size≤b∨q.ko=some ⟨b,off,none⟩):=hRf;have b24:Below w2.heap.size w2 W4:=b3.trans (b4.mono b3.size)
    have HB4:Hid (RdI A f ⟨sn+1,srows,spages⟩ vr vp W4∧FB w.heap.size (rp:Int) rt W4∧w.heap.size+1≤w2.heap.size∧But (Ow f vr vp) w W4∧w2.heap.size≤w3.heap.size∧W4.heap.size=w3.heap.size+1∧W4.heap[w3.heap.size]? =some (gcs q)∧PAt W4 q P∧(∀ b off,q.ro=some ⟨b,off,none⟩→w2.heap.size≤b)∧∀ b off,q.ko=some ⟨b,off,none⟩→w2.heap.size≤b):=by
     obtain⟨g1,g2,g3,g4'⟩:=HB2.out;exact⟨g1.keep fun j hj _=>b24.block j hj,(b24.block _ (by omega)).trans g2,g3,g4'.trans ⟨b24.os,b24.tape,b24.output,b24.size,fun j hj _=>b24.block j hj⟩,b3.size,hs4,g4,hq4,hlr,hlk⟩
    obtain⟨c0,c1,c2,c3,c4,c5,c6,c7⟩:=zlj g4;obtain⟨qk,qX,qY,qL,qro,qrn,qrc,qko,qkn,qkc,qnp,qnt⟩:=q;simp only[gv,gcs] at HRf hW4 ⊢;simp only at c0 c1 c2 c3 c4 c5 c6 c7;have HW4:Hid _:=hW4;clear b3 b4 g4 hRf hs4 hW4 hq4 hq hlr hlk b24 HD HB2
    go_wp2_with (first|(rw[HW4.out];clear HW4))
    refine Calls.mono HRf.out ?_;rintro e w5 ⟨o,cap,rfl,hR5,b5,hlo⟩
    have HB5:Hid (RdI A f ⟨sn+1,srows,spages⟩ vr vp w5∧FB w.heap.size (rp:Int) rt w5∧w.heap.size+1≤w2.heap.size∧But (Ow f vr vp) w w5∧w2.heap.size≤w3.heap.size∧w3.heap.size+1≤w5.heap.size∧w5.heap[w3.heap.size]? =some (gcs ⟨qk,qX,qY,qL,qro,qrn,qrc,qko,qkn,qkc,qnp,qnt⟩)∧PAt w5 ⟨qk,qX,qY,qL,qro,qrn,qrc,qko,qkn,qkc,qnp,qnt⟩ P∧(∀ b off,qro=some ⟨b,off,none⟩→w2.heap.size≤b)∧(∀ b off,o=some ⟨b,off,none⟩→w2.heap.size≤b)∧zaB w5 o cap rs):=by
     obtain⟨g1,g2,g3,g4,g5,g6,g7,g8,g9,g10⟩:=HB4.out;have:=b5.size
     exact⟨g1.keep fun j hj _=>b5.block j hj,(b5.block _ (by omega)).trans g2,g3,g4.trans ⟨b5.os,b5.tape,b5.output,b5.size,fun j hj _=>b5.block j hj⟩,g5,by omega,(b5.block _ (by omega)).trans g7,g8.below b5 zn,g9,fun b off e=>by
      rcases hlo b off e with x|x
      ·omega
      ·exact g10 b off x,hR5⟩
    clear hR5 b5 hlo HRf HB4 c0 c1 c2 c3 c4 c5 c6 c7;obtain⟨m,hm⟩:∃ m,rs.length=m:=⟨_,rfl⟩;have HM:Hid (rs.length=m):=hm;have m4:(m:Int)≤4:=by have:=HP4.out.2.2;omega
    rw[hm];clear hm
    have HOw:Hid (∀ j,Ow f vr vp j→j<w.heap.size):=fun j hj=>by
     have h1:=(HK0.out.lt hj).2;exact h1
    go_wp2_with fail
    go_loopw [45] (fun iv wr=>∃ (i:Nat) (s':LS) (vr' vp':Value),i≤m∧iv=.int .i64 (i:Int)∧RdI A f s' vr' vp' wr∧Grw (Ow f vr vp) (Ow f vr' vp') w5 wr∧But (Ow f vr vp) w5 wr∧stp (rdG (rdV Kt v t) d) rs ⟨sn+1,srows,spages⟩=stp (rdG (rdV Kt v t) d) (rs.drop i) s'∧(sn+1≤s'.n∧s'.rows.length+4≤4*s'.n∧s'.pages.length+1≤s'.n)) (fun iv _=>m - zam iv)
    case atStart=>exact⟨0,⟨sn+1,srows,spages⟩,vr,vp,Nat.zero_le _,rfl,HB5.out.1,fun j hj=>.inl hj,But.refl _ _,by rw[List.drop_zero],by obtain⟨-,k2,k3⟩:=HK0.out.cnt;simp only at k2 k3 ⊢;omega⟩
    case round=>
     obtain⟨i,s',vr',vp',hi,rfl,hI',hg',hb',hst,hcn⟩:=hrel;have hOl:∀ j,Ow f vr vp j→f≤j∧j<w.heap.size:=fun j hj=>HK0.out.lt hj
     have nOw:∀ j,Ow f vr' vp' j→Ow f vr vp j∨w5.heap.size≤j:=fun j hj=>(hg' j hj).imp id fun x=>x.1
     obtain⟨q1,q2,q3,q4,q5,q6,q7,q8,q9,q10,q11⟩:=HB5.out;have hmid:∀ k,w.heap.size≤k→k<w5.heap.size→wr.heap[k]? =w5.heap[k]? :=fun k h1 h2=>hb'.block k h2 fun e=>by have:=(hOl k e).2;omega
     have hlow:∀ k,k<w.heap.size→¬Ow f vr vp k→wr.heap[k]? =w.heap[k]? :=fun k h1 h2=>(hb'.block k (by omega) h2).trans (q4.block k h1 h2)
     have hws:=hb'.size;by_cases hlt:i<m
     ·have hir:i<rs.length:=by rw[HM.out];exact hlt
      obtain⟨b,off,ho,hbl,hc⟩:=q11.2.2.2.2 (by omega);have hb2:=q10 b off ho;obtain⟨⟨bp,bt⟩,hbr⟩:∃ x,rs[i]=x:=⟨_,rfl⟩;have hget:=fun j hj=>flat_get fc 2 (fun _=>rfl) rs i ⟨bp,bt⟩ (by rw[List.getElem?_eq_getElem hir,hbr]) j hj
      have k0:wr.cell? ⟨b,off+i*2,none⟩=some (.int .u32 (bp:Int)):=by
       refine(World.cell?_of_block (a:=⟨b,off+i*2,none⟩) (hmid b (by omega) hbl)).trans ?_;have:=hc (i*2+0) _ (hget 0 (by omega));exact this
      have k1:wr.cell? ⟨b,off+i*2+1,none⟩=some (.string bt):=by
       refine(World.cell?_of_block (a:=⟨b,off+i*2+1,none⟩) (hmid b (by omega) hbl)).trans ?_;have:=hc (i*2+1) _ (hget 1 (by omega));rw[show off+(i*2+1)=off+i*2+1 by omega] at this;exact this
      have hbp:bp<4294967296:=by have:=HP4.out.2.1 ⟨bp,bt⟩ (by rw[←hbr];exact List.getElem_mem hir);exact this
      have hdrop:rs.drop i=⟨bp,bt⟩::rs.drop (i+1):=by rw[←hbr];exact List.drop_eq_getElem_cons hir
      rw[hdrop,stp] at hst;obtain⟨wr1,hwr1⟩:∃ wr1,wr.alloc (.cells #[.int .u32 (bp:Int),.string bt] 49)=wr1:=⟨_,rfl⟩;have b1:Below wr.heap.size wr wr1:=by rw[←hwr1];exact zaa _ _
      have hs1:wr1.heap.size=wr.heap.size+1:=by rw[←hwr1];simp
      have y1:FB wr.heap.size (bp:Int) bt wr1:=by rw[←hwr1];exact zq wr _
      have hfl:∀ k,A.has k∨Und A k→k<w.heap.size→wr1.heap[k]? =w.heap[k]? :=fun k hh hl=>(b1.block k (by omega)).trans (hlow k hl fun e=>by have:=(hOl k e).1;have:=HAk.out k hh;omega)
      have hCC:=HIH.out s' vr' vp' wr1 ⟨bp,bt⟩ (hI'.keep fun j hj _=>b1.block j hj) (zbO HVT.out.1 (by omega) fun k hl hh=>hfl k hh hl) (zbH HVT.out.2 fun k hl hh=>hfl k (.inr (.inr hh)) hl) (by have:=HDn.out.1;omega) hbp;have hn1:=zp5 (rdV Kt v t) d s' ⟨bp,bt⟩;obtain⟨hn2',hn3'⟩:=zhy (rdV Kt v t) d s' ⟨bp,bt⟩;generalize rdG (rdV Kt v t) d s' ⟨bp,bt⟩=kk at hCC hst hn1 hn2' hn3';obtain⟨ks,ke⟩:=kk;simp only at hst hn1 hn2' hn3';have HCC:Hid (Calls Tryz.prog 59 #[pt f,.agg #[.int .u32 (bp:Int),.string bt]] wr1 (RP A f vr' vp' wr1 (ks,ke))):=hCC;have HCn:Hid (sn+1≤ks.n∧ks.rows.length+4≤4*ks.n∧ks.pages.length+1≤ks.n):=by refine(?_:_∧_∧_);omega
      have HSt:Hid _:=hst;have HWr:Hid (Below wr.heap.size wr wr1∧wr1.heap.size=wr.heap.size+1∧(∀ j,Ow f vr' vp' j→Ow f vr vp j∨w5.heap.size≤j)∧Grw (Ow f vr vp) (Ow f vr' vp') w5 wr∧But (Ow f vr vp) w5 wr∧w.heap.size≤w5.heap.size∧But (Ow f vr vp) w w5):=⟨b1,hs1,nOw,hg',hb',by omega,q4⟩
      have HFin:Hid (∀ vr'' vp'' w6,RdI A f ks vr'' vp'' w6→Grw (Ow f vr' vp') (Ow f vr'' vp'') wr1 w6→But (Ow f vr' vp') wr1 w6→Grw (Ow f vr vp) (Ow f vr'' vp'') w5 w6∧But (Ow f vr vp) w5 w6):=fun vr'' vp'' w6 j1 j2 j3=>by
       have:=j3.size;refine⟨fun j hj=>?_,⟨j3.os.trans (b1.os.trans hb'.os),j3.tape.trans (b1.tape.trans hb'.tape),j3.output.trans (b1.output.trans hb'.output),by omega,fun j hj hn=>?_⟩⟩
       ·rcases j2 j hj with x|x
        ·exact(hg' j x).imp id fun y=>⟨y.1,by omega⟩
        ·exact .inr ⟨by omega,x.2⟩
       ·refine(j3.block j (by omega) fun e=>?_).trans ((b1.block j (by omega)).trans (hb'.block j hj hn))
        rcases nOw j e with x|x
        ·exact hn x
        ·omega
      have qi:(i:Int)<(m:Int):=by omega
      have qi0:(0:Int)≤(i:Int):=by omega
      obtain⟨u1,u2,u3,u4⟩:=y1.facts;have HWr1:Hid _:=hwr1;subst ho;clear hI' hg' hb' hst hcn hOl nOw q1 q2 q3 q4 q5 q6 q7 q8 q9 q10 q11 hmid hlow hws hir hc hb2 hget hbp hdrop hwr1 b1 hs1 y1 hfl hCC hn1 hn2' hn3' hbr
      go_wp2_with (first|(rw[HWr1.out];clear HWr1))
      refine Calls.mono HCC.out ?_;rintro e w6 ⟨rfl,vr'',vp'',j1,j2,j3⟩;obtain⟨x1,x2⟩:=HFin.out vr'' vp'' w6 j1 j2 j3;by_cases hke:ke=0
      ·subst hke
       have HRl:Hid (RdI A f ks vr'' vp'' w6∧Grw (Ow f vr vp) (Ow f vr'' vp'') w5 w6∧But (Ow f vr vp) w5 w6):=⟨j1,x1,x2⟩;clear j1 j2 j3 x1 x2 HCC HFin k0 k1 u1 u2 u3 u4;go_wp2_with fail;refine⟨⟨i+1,ks,vr'',vp'',by omega,by go_num,HRl.out.1,HRl.out.2.1,HRl.out.2.2,by rw[HSt.out];exact if_pos trivial,HCn.out⟩,?_⟩;simp[zam];omega
      ·have hke':(ke==0)=false:=by simpa using hke
       have HR:Hid (RP A f vr vp w KK (.returned (.int .i64 ke)) w6):=by
        have e0:KK=(ks,ke):=by rw[HK3.out,HSt.out,if_neg hke,if_neg hke]
        rw[e0];obtain⟨-,-,-,-,-,z6,z7⟩:=HWr.out;have:=x2.size;refine⟨rfl,vr'',vp'',j1,fun j hj=>(x1 j hj).imp id fun y=>⟨by omega,y.2⟩,z7.trans x2⟩
       clear j1 j2 j3 x1 x2 HCC HFin k0 k1 u1 u2 u3 u4;go_wp2_with fail;go_ret;exact HR.out
     ·obtain rfl:i=m:=by omega
      have hdr:rs.drop i=[]:=List.drop_eq_nil_of_le (by rw[HM.out];exact Nat.le_refl _);rw[hdr] at hst;have hst0:stp (rdG (rdV Kt v t) d) rs ⟨sn+1,srows,spages⟩=(s',0):=hst;have hKK:KK=(⟨s'.n,s'.rows++P.l,s'.pages++[⟨X,⟨rp,rt⟩⟩]⟩,0):=by rw[HK3.out,hst0,if_pos rfl]
      have hrn:qrn=P.l.length:=q8.at'.rn;have hrw:zac wr qro qrc P.l:=zeR q8.at'.rows hws fun b off e hn hl=>hmid b (by have:=q9 b off e;omega) hl
      have hpg:=(hmid _ (by omega) (by omega)).trans q7;obtain⟨ro1,rc1,hv1,-⟩:=zai hI'.rows;obtain⟨ro2,rc2,hv2,-⟩:=zai hI'.pages;subst hv1 hv2;have hIw:RdI A f s' (.slice ro1 s'.rows.length rc1) (.slice ro2 s'.pages.length rc2) wr.drew:=hI'.keep fun j hj _=>rfl
      obtain⟨vr2,W6,hrun,z6,d6,k6,hI6,hg6,hb6⟩:=hIw.addRows hcn.2.1 (show zac wr.drew qro qrc P.l from zeR hrw zn fun _ _ _ _ _=>rfl) HP4.out.1;obtain⟨W7,hW7⟩:∃ W7,W6.setCell ⟨f,2,none⟩ vr2=W7:=⟨_,rfl⟩;rw[hW7] at hI6 hg6 hb6;have hs7:=hb6.size;have hs7':wr.heap.size≤W7.heap.size:=hs7;have hk7:∀ k,k<wr.heap.size→¬Ow f (.slice ro1 s'.rows.length rc1) (.slice ro2 s'.pages.length rc2) k→W7.heap[k]? =wr.heap[k]? :=fun k h1 h2=>hb6.block k h1 h2
      have hfb7:FB w.heap.size (rp:Int) rt W7:=(hk7 _ (by omega) fun e=>by
       rcases nOw _ e with x|x
       ·have:=(hOl _ x).2;omega
       ·omega).trans ((hmid _ (by omega) (by omega)).trans q2)
      obtain⟨Wb,hWb⟩:∃ Wb,(W7.alloc (.cells #[.string X,.int .u32 (rp:Int),.string rt] 51)).drew=Wb:=⟨_,rfl⟩;have bb:Below W7.heap.size W7 Wb:=by rw[←hWb];exact(zaa W7 _).drew
      have hsb:Wb.heap.size=W7.heap.size+1:=by rw[←hWb];simp
      have hIb:RdI A f ⟨s'.n,s'.rows++P.l,s'.pages⟩ vr2 (.slice ro2 s'.pages.length rc2) Wb:=hI6.keep fun j hj _=>(bb.block j hj)
      obtain⟨vp2,W8,hrun2,z8,d8,k8,hI8,hg8,hb8⟩:=hIb.addPage hcn.2.2 ⟨X,⟨rp,rt⟩⟩ (b:=W7.heap.size) (by rw[←hWb];exact zq W7 _);obtain⟨W9,hW9⟩:∃ W9,W8.setCell ⟨f,3,none⟩ vp2=W9:=⟨_,rfl⟩;rw[hW9] at hI8 hg8 hb8;have hs9:=hb8.size
      have HR:Hid (RP A f vr vp w KK (.returned (.int .i64 0)) W9):=by
       rw[hKK];refine⟨rfl,vr2,vp2,hI8,fun j hj=>?_,⟨hb8.os.trans (bb.os.trans (hb6.os.trans (hb'.os.trans q4.os))),hb8.tape.trans (bb.tape.trans ?_),hb8.output.trans (bb.output.trans (hb6.output.trans (hb'.output.trans q4.output))),by omega,fun k h1 h2=>?_⟩⟩
       ·rcases hg8 j hj with x|x
        ·rcases hg6 j x with y|y
         ·exact(hg' j y).imp id fun z=>⟨by omega,by omega⟩
         ·exact .inr ⟨by have:=y.1;simp at this;omega,by have:=y.2;omega⟩
        ·exact .inr ⟨by omega,x.2⟩
       ·exact hb6.tape.trans (hb'.tape.trans q4.tape)
       ·have n7:¬Ow f (.slice ro1 s'.rows.length rc1) (.slice ro2 s'.pages.length rc2) k:=fun e=>by
         rcases nOw k e with x|x
         ·exact h2 x
         ·omega
        have n8:¬Ow f vr2 (.slice ro2 s'.pages.length rc2) k:=fun e=>by
         rcases hg6 k e with x|x
         ·exact n7 x
         ·have:=x.1;simp at this;omega
        exact(hb8.block k (by omega) n8).trans ((bb.block k (by omega)).trans ((hk7 k (by omega) n7).trans (hlow k h1 h2)))
      have HI7:Hid (W7.cell? ⟨f,3,none⟩=some (.slice ro2 s'.pages.length rc2)∧Wb.cell? ⟨f,3,none⟩=some (.slice ro2 s'.pages.length rc2)):=⟨(zdo hI6.self).2.2.2,(zdo hIb.self).2.2.2⟩;have HFb:Hid (FB w.heap.size (rp:Int) rt W7):=hfb7
      have nOws:∀ k,w.heap.size≤k→k<w5.heap.size→¬Ow f (.slice ro1 s'.rows.length rc1) (.slice ro2 s'.pages.length rc2) k:=fun k h1 h2 e=>by
       rcases nOw k e with x|x
       ·have:=(hOl k x).2;omega
       ·omega
      rw[←hrn] at hrun;have d2:wr.cell? ⟨f,2,none⟩=some (.slice ro1 s'.rows.length rc1):=(zdo hI'.self).2.2.1;have dq:wr.cell? ⟨w3.heap.size,4,none⟩=some (.slice qro qrn qrc):=by rw[zr hpg];rfl
      have dq6:W6.cell? ⟨w3.heap.size,4,none⟩=some (.slice qro qrn qrc):=by rw[zr ((k6 w3.heap.size (by have:w3.heap.size<wr.heap.size:=(zi hpg).1;exact this) (nOws _ (by omega) (by omega))).trans hpg)];rfl
      have dq7:W7.cell? ⟨w3.heap.size,4,none⟩=some (.slice qro qrn qrc):=by rw[zr ((hk7 w3.heap.size (zi hpg).1 (nOws _ (by omega) (by omega))).trans hpg)];rfl
      have HSq:Hid (wr.drew.cell? ⟨w3.heap.size,4,none⟩=some (.slice qro qrn qrc)∧W6.cell? ⟨w3.heap.size,4,none⟩=some (.slice qro qrn qrc)∧W7.cell? ⟨w3.heap.size,4,none⟩=some (.slice qro qrn qrc)):=⟨dq,dq6,dq7⟩;have hfb7':=hfb7.facts
      have nW7:¬Ow f vr2 (.slice ro2 s'.pages.length rc2) w.heap.size:=fun e=>by
       rcases hg6 _ e with x|x
       ·exact nOws _ zn (by omega) x
       ·have:=x.1;simp at this;omega
      have lw7:w.heap.size<W7.heap.size:=(zi hfb7).1;have hfbb:FB w.heap.size (rp:Int) rt Wb:=(bb.block _ lw7).trans hfb7;have hfb8:FB w.heap.size (rp:Int) rt W8:=(k8 _ (by omega) nW7).trans hfbb;have hfb9:FB w.heap.size (rp:Int) rt W9:=(hb8.block _ (by omega) nW7).trans hfbb;have HSr:Hid ((Wb.cell? ⟨w.heap.size,0,none⟩=some (.int .u32 (rp:Int))∧Wb.cell? ⟨w.heap.size,1,none⟩=some (.string rt))∧(W8.cell? ⟨w.heap.size,0,none⟩=some (.int .u32 (rp:Int))∧W8.cell? ⟨w.heap.size,1,none⟩=some (.string rt))∧(W9.cell? ⟨w.heap.size,0,none⟩=some (.int .u32 (rp:Int))∧W9.cell? ⟨w.heap.size,1,none⟩=some (.string rt))):=⟨⟨hfbb.facts.2.2.1,hfbb.facts.2.2.2⟩,⟨hfb8.facts.2.2.1,hfb8.facts.2.2.2⟩,⟨hfb9.facts.2.2.1,hfb9.facts.2.2.2⟩⟩;obtain⟨ro3,rc3,hv3,-⟩:=zai hI8.rows;obtain⟨ro4,rc4,hv4,-⟩:=zai hI8.pages;obtain⟨n3,hn3⟩:∃ n3,(s'.rows++P.l).length=n3:=⟨_,rfl⟩;obtain⟨n4,hn4⟩:∃ n4,(s'.pages++[(⟨X,⟨rp,rt⟩⟩:Sv)]).length=n4:=⟨_,rfl⟩
      have hv3':vr2=.slice ro3 n3 rc3:=by rw[←hn3];exact hv3
      have hv4':vp2=.slice ro4 n4 rc4:=by rw[←hn4];exact hv4
      clear hv3 hv4;subst hv3' hv4';have HW7:Hid _:=hW7;have HWb:Hid _:=hWb;have HW9:Hid _:=hW9;have HRun:Hid _:=hrun;have HZ6:Hid (W6.frozen? ⟨f,2,none⟩=false∧W6.cell? ⟨f,2,none⟩=some (.slice ro1 s'.rows.length rc1)):=⟨z6,d6⟩;have HRun2:Hid _:=And.intro hrun2 (And.intro z8 d8);have qm:¬(i:Int)<(i:Int):=by omega
      clear hI' hg' hb' hst hcn hOl nOw q1 q2 q3 q4 q5 q6 q7 q8 q9 q10 q11 hmid hlow hws hdr hst0 hKK hrn hrw hpg hIw hI6 hg6 hb6 hW7 hs7 hs7' hk7 hfb7 hWb bb hsb hIb hI8 hg8 hb8 hW9 hs9 hrun2 z8 d8 k6 k8 nOws dq dq6 dq7 hfb7' nW7 lw7 hfbb hfb8 hfb9 hrun z6 d6;go_wp2_with fail;have HSW:Hid (wr.drew.cell? ⟨w3.heap.size,4,none⟩=some (.slice qro qrn qrc)∧True):=⟨HSq.out.1,trivial⟩;refine wp_region_held (S:=fun W=>W.cell? ⟨w3.heap.size,4,none⟩=some (.slice qro qrn qrc)∧True) (by kernel_rfl) ?_;change wpAnyH _ _ _ _ _ _ _ _ (World.drew _);refine plan [0,1,2,3,5,6] ?_
      iterate 6
       refine tkH (v:=?_) rfl ?_ HSW.out ?_;rotate_left
       ·rintro w ⟨e1,e2⟩;go_simp;try with_reducible rfl
       conv in(Act.put _ _ _)=>simp only[zL1,zL2,zL3,Act.put,zL4,zL5,zL6]
      refine plan0 ?_;refine zar 4 _ (by kernel_rfl) rfl (by kernel_rfl) (fun K hK=>?_);go_simp;refine hK _ _ ⟨HSq.out.1,trivial⟩ ?_;clear hK K d2;refine zar 7 _ (by kernel_rfl) rfl (by kernel_rfl) (fun K hK=>?_);refine zpb 22 22 (.tmp 60) (.tmp 62) rfl (vs:=.slice ro1 s'.rows.length rc1) (vx:=.slice qro qrn qrc) rfl rfl HRun.out ?_;refine hK _ _ ⟨HSq.out.2.1,trivial⟩ ?_;clear hK K HRun
      replace HSW:Hid (W6.cell? ⟨w3.heap.size,4,none⟩=some (.slice qro qrn qrc)∧True):=⟨HSq.out.2.1,trivial⟩
      refine plan [8,9] ?_
      iterate 2
       refine tkH (v:=?_) rfl ?_ HSW.out ?_;rotate_left
       ·rintro w ⟨e1,e2⟩;go_simp;try with_reducible rfl
       conv in(Act.put _ _ _)=>simp only[zL1,zL2,zL3,Act.put,zL4,zL5,zL6]
      refine plan0 ?_;refine zar 10 _ (by kernel_rfl) rfl (by kernel_rfl) (fun K hK=>?_);obtain⟨z6,d6⟩:=HZ6.out;go_simp;rw[HW7.out];refine hK _ _ ⟨HSq.out.2.2,trivial⟩ ?_;clear hK K HSq z6 d6;refine wpAnyH_done (by kernel_rfl) ?_ _;clear HSW
      rename_i hKy
      refine hKy _ _ ?_;clear hKy HW7;go_wp2_with fail;have HSW:Hid ((W7.drew.cell? ⟨w.heap.size,0,none⟩=some (.int .u32 (rp:Int))∧W7.drew.cell? ⟨w.heap.size,1,none⟩=some (.string rt))):=⟨HFb.out.facts.2.2.1,HFb.out.facts.2.2.2⟩;refine wp_region_held (S:=fun W=>W.cell? ⟨w.heap.size,0,none⟩=some (.int .u32 (rp:Int))∧W.cell? ⟨w.heap.size,1,none⟩=some (.string rt)) (by kernel_rfl) ?_;change wpAnyH _ _ _ _ _ _ _ _ (World.drew _);refine plan [0,1,2,3,5,6,7] ?_
      iterate 7
       refine tkH (v:=?_) rfl ?_ HSW.out ?_;rotate_left
       ·rintro w ⟨e1,e2⟩;go_simp;try with_reducible rfl
       conv in(Act.put _ _ _)=>simp only[zL1,zL2,zL3,Act.put,zL4,zL5,zL6]
      refine plan0 ?_;obtain⟨d3,d3l⟩:=HI7.out;obtain⟨-,z8,d8⟩:=HRun2.out;refine zka 4 8 _ _ (by kernel_rfl) rfl rfl (by kernel_rfl) (by kernel_rfl) (fun K hK=>?_) (fun K hK=>?_)
      ·go_simp
       refine hK _ _ HSW.out ?_;clear hK K;refine zar 8 _ (by kernel_rfl) rfl (by kernel_rfl) (fun K hK=>?_);go_simp;rw[HWb.out];refine hK _ _ HSr.out.1 ?_;clear hK K;refine zar 9 _ (by kernel_rfl) rfl (by kernel_rfl) (fun K hK=>?_);refine zpb 29 29 (.tmp 70) (.tmp 74) rfl (vs:=.slice ro2 s'.pages.length rc2) (vx:=.slice (some ⟨W7.heap.size,0,none⟩) 1 1) rfl rfl HRun2.out.1 ?_;refine hK _ _ HSr.out.2.1 ?_;clear hK K
       replace HSW:Hid ((W8.cell? ⟨w.heap.size,0,none⟩=some (.int .u32 (rp:Int))∧W8.cell? ⟨w.heap.size,1,none⟩=some (.string rt))):=HSr.out.2.1
       refine plan [10,11] ?_
       iterate 2
        refine tkH (v:=?_) rfl ?_ HSW.out ?_;rotate_left
        ·rintro w ⟨e1,e2⟩;go_simp;try with_reducible rfl
        conv in(Act.put _ _ _)=>simp only[zL1,zL2,zL3,Act.put,zL4,zL5,zL6]
       refine plan0 ?_;refine zar 12 _ (by kernel_rfl) rfl (by kernel_rfl) (fun K hK=>?_);go_simp;rw[HW9.out];refine hK _ _ HSr.out.2.2 ?_;clear hK K;refine wpAnyH_done (by kernel_rfl) ?_ _;clear HSW
       rename_i hKx
       refine hKx _ _ ?_;clear hKx;go_wp2_with fail;go_ret;exact HR.out
      ·go_simp
       rw[HWb.out];refine hK _ _ HSr.out.1 ?_;clear hK K;refine zar 4 _ (by kernel_rfl) rfl (by kernel_rfl) (fun K hK=>?_);go_simp;refine hK _ _ HSr.out.1 ?_;clear hK K;refine zar 9 _ (by kernel_rfl) rfl (by kernel_rfl) (fun K hK=>?_);refine zpb 29 29 (.tmp 70) (.tmp 74) rfl (vs:=.slice ro2 s'.pages.length rc2) (vx:=.slice (some ⟨W7.heap.size,0,none⟩) 1 1) rfl rfl HRun2.out.1 ?_;refine hK _ _ HSr.out.2.1 ?_;clear hK K
       replace HSW:Hid ((W8.cell? ⟨w.heap.size,0,none⟩=some (.int .u32 (rp:Int))∧W8.cell? ⟨w.heap.size,1,none⟩=some (.string rt))):=HSr.out.2.1
       refine plan [10,11] ?_
       iterate 2
        refine tkH (v:=?_) rfl ?_ HSW.out ?_;rotate_left
        ·rintro w ⟨e1,e2⟩;go_simp;try with_reducible rfl
        conv in(Act.put _ _ _)=>simp only[zL1,zL2,zL3,Act.put,zL4,zL5,zL6]
       refine plan0 ?_;refine zar 12 _ (by kernel_rfl) rfl (by kernel_rfl) (fun K hK=>?_);go_simp;rw[HW9.out];refine hK _ _ HSr.out.2.2 ?_;clear hK K;refine wpAnyH_done (by kernel_rfl) ?_ _;clear HSW
       rename_i hKx
       refine hKx _ _ ?_;clear hKx;go_wp2_with fail;go_ret;exact HR.out
  ·have hE':(E==0)=false:=by simpa using hE
   have HKe:Hid (KK=(⟨sn+1,srows,spages⟩,E)):=HG0.out hE
   have HR:Hid (RP A f vr vp w KK (.returned (.int .i64 E)) w2):=by
    rw[HKe.out];obtain⟨g1,g2,g3,g4⟩:=HB2.out;exact⟨rfl,vr,vp,g1,fun j hj=>.inl hj,g4⟩
   clear HG0 HG1 HG2 HKe HB2;go_wp2_with fail;go_ret;exact HR.out
end Rz
end Go.Proofs.YtokfnghckpgjmaaGreatDoor
