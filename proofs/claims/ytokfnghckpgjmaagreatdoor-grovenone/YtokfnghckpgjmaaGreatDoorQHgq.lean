/- Save's own way to give refs: a page is written to the vault; its place is kept in mind. -/
import Derived.Test.YtokfnghckpgjmaaGreatDoorQHgj
import Derived.Test.YtokfnghckpgjmaaGreatDoorQVM
set_option maxRecDepth 100000
set_option maxHeartbeats 4000000
namespace Go.Proofs.YtokfnghckpgjmaaGreatDoor
namespace Rz
open Go.RowKit Go.Lib Go.Shelf
open Rc Rq
open Rw (Rf fcv fc zaB Pp PAt PgAt okP encS encE pz gv Pg rpp pB gcs)
open Rv (FB zab zaS Vlt Vs Pl Vok Hon zaw cf take zbT blk)
open Rd (pt St Ok)
structure Sx where
 v:Vs
 t:St
 tk:List Nat
def svP (Kt:Nat→Int):Pm Sx:=fun s x=>
 match zaw s.v.tk s.t.n with
 |some p=>((⟨p%4294967296,Rs.tagS (blk Kt s.v p x)⟩,0),⟨take (zbT s.v) p,Rd.zau s.t p (blk Kt s.v p x),s.tk++[p]⟩)
 |none=>((zf,110),s)
def RgB (A:Pl) (k:Nat):Prop:=∃ off,A.o=some ⟨k,off,none⟩
abbrev uv (x:Nat):Value:=.int .u32 (x:Int)
def Und (A:Pl) (k:Nat):Prop:=RgB A k∨k=3∨k=2
theorem zbO {w w':World} {A:Pl} {v:Vs} {t:St} (h:Vlt w A v t) (hs:w.heap.size≤w'.heap.size) (hk:∀ k,k<w.heap.size→A.has k∨Und A k→w'.heap[k]? =w.heap[k]?):Vlt w' A v t:=by
 have hl:=h.lt;obtain⟨h1,h2⟩:=h.self;refine⟨⟨(hk _ hl.1 (.inl (.inl rfl))).trans h1,⟨h2.1.1,h2.1.2.1,h2.1.2.2.1,fun hne=>?_⟩,h2.2⟩,h.map.same (hk _ hl.2.1 (.inl (.inr (.inl rfl)))),h.dev.same (hk _ hl.2.2.1 (.inl (.inr (.inr (.inl rfl))))) (hk _ hl.2.2.2.1 (.inl (.inr (.inr (.inr (.inl rfl)))))) (hk _ hl.2.2.2.2 (.inl (.inr (.inr (.inr (.inr rfl)))))),h.gt,h.gd,h.td,h.no1,h.no2⟩;obtain⟨b,off,e,hlt,h4⟩:=h2.1.2.2.2 hne;exact⟨b,off,e,Nat.lt_of_lt_of_le hlt hs,fun i hi=>(h4 i hi).same (hk b hlt (.inr (.inl ⟨off,e⟩)))⟩
theorem zbH {Kt:Nat→Int} {w w':World} (h:Rs.Tb Kt w) (hk:∀ k,k<w.heap.size→(k=3∨k=2)→w'.heap[k]? =w.heap[k]?):Rs.Tb Kt w':=by
 obtain⟨⟨a,b,h1⟩,c,d,h2⟩:=h;exact⟨⟨a,b,(hk _ (zi h1).1 (.inl rfl)).trans h1⟩,c,d,(hk _ (zi h2).1 (.inr rfl)).trans h2⟩
theorem zho {l:List Rk.Ky} {g:Int} (h:Rk.feS l g=0):l≠[]:=fun e=>by
 subst e;unfold Rk.feS at h;split at h
 ·rename_i h1
  simp[Rk.zbr] at h
 ·exact absurd h (by decide)
theorem zlw {w:World} {A:Pl} {v:Vs} {t:St} (h:Vlt w A v t) (hv:Vok v) {k:Nat} (hu:Und A k):¬A.has k:=by
 rcases hu with⟨off,hu⟩|rfl|rfl
 ·exact h.self.2.2 k off hu (zho hv.f)
 ·exact h.no1
 ·exact h.no2
structure SvI (Kt:Nat→Int) (A:Pl) (c:Nat→Option Obj) (b1 b2:Nat) (s:Sx) (F:Nat→Prop) (W:World):Prop where
 vlt:Vlt W A s.v s.t
 vok:Vok s.v
 hon:Hon s.t
 tb:Rs.Tb Kt W
 room:s.v.seals+cf s.v.tk s.t.n≤100000∧s.tk.length≤s.v.seals
 bx1:W.heap[b1]? =some (.cells #[pt A.g] 24 (0,0))
 row:∃ tv,W.heap[b2]? =some (.cells #[tv] 90 (0,0))∧W.ownsRow (b2+1) 41 1 tv s.tk.length (s.tk.map uv)∧∀ g,tv.ownBlock=some g→F g∧¬A.has g∧¬Und A g
 nb:¬A.has b1∧¬A.has b2∧¬Und A b1∧¬Und A b2∧b1<b2
 lt:∀ k,F k→k<W.heap.size
 on:∀ k,A.has k∨Und A k∨k=b1∨k=b2→F k
 und:∀ k,Und A k→W.heap[k]? =c k
theorem SvI.keep {Kt:Nat→Int} {A:Pl} {c:Nat→Option Obj} {b1 b2:Nat} {s:Sx} {F:Nat→Prop} {W W':World} (h:SvI Kt A c b1 b2 s F W) (hs:W.heap.size≤W'.heap.size) (hk:∀ k,F k→W'.heap[k]? =W.heap[k]?):SvI Kt A c b1 b2 s F W':=by
 obtain⟨tv,h1,h2,h3⟩:=h.row
 exact⟨zbO h.vlt hs fun k _ hh=>hk k (h.on k (hh.imp id .inl)),h.vok,h.hon,zbH h.tb fun k _ hh=>hk k (h.on k (.inr (.inl (.inr hh)))),h.room,(hk b1 (h.on b1 (.inr (.inr (.inl rfl))))).trans h.bx1,
  ⟨tv,(hk b2 (h.on b2 (.inr (.inr (.inr rfl))))).trans h1,zaF h2 fun g hg _=>hk g (h3 g hg).1,h3⟩,h.nb,fun k hk'=>Nat.lt_of_lt_of_le (h.lt k hk') hs,h.on,fun k hu=>(hk k (h.on k (.inr (.inl hu)))).trans (h.und k hu)⟩
theorem zis {tk:Nat→Option Unit} {n p:Nat} (h:zaw tk n=some p):p<n∧(tk p).isSome=false∧∀ q,q<p→(tk q).isSome=true:=by
 unfold Rv.zaw at h;rw[List.find?_range_eq_some] at h;obtain⟨h1,h2,h3⟩:=h;refine⟨by simpa using h2,by cases hh:tk p<;>simp_all,fun q hq=>?_⟩;have:=h3 q hq;cases hh:tk q<;>simp_all
theorem zfA {tk:Nat→Option Unit} {p:Nat} (hp:(tk p).isSome=false):∀ n,cf (Rv.tput tk p (some ())) n+(if p<n then 1 else 0)=cf tk n
 |0=>rfl
 |n+1=>by
  have ih:=zfA hp n;rw[Rv.zdn,Rv.zdn];by_cases hn:n=p
  ·subst hn
   have e1:(Rv.tput tk n (some ()) n).isSome=true:=by simp[Rv.tput]
   rw[if_pos e1,hp];simp only[Bool.false_eq_true,if_false,Nat.lt_irrefl,Nat.lt_succ_self,if_true] at ih ⊢;omega
  ·have e1:Rv.tput tk p (some ()) n=tk n:=by simp[Rv.tput,hn]
   rw[e1];have e2:(p<n+1)↔(p<n):=by omega
   simp only[e2];split<;>omega
theorem zqo:(Tryz.prog.info? 41).map (fun i=>(i.zero,i.size,i.bytes))=some (some (.int .u32 0),1,4):=by kernel_rfl
theorem zqp {w:World} {g:Nat} {x:Nat} {t:TypeId} {fr:Nat × Nat} (h:w.heap[g]? =some (.cells #[uv x] t fr)):Sl 1 w (some ⟨g,0,none⟩) 1 1 [uv x]:=by
 refine⟨Nat.le_refl _,by decide,fun e=>(by cases e),rfl,fun _=>⟨g,0,rfl,(zi h).1,fun j u hu=>?_⟩⟩;have hj:j<1:=(List.getElem?_eq_some_iff.1 hu).1;rw[zr h]
 match j,hj,hu with
 |0,_,hu=>simpa using hu
theorem znf:∀ args w,(callFunc 46 args).run Tryz.prog w=.ok (.enter 46 args) w:=enters_of Tryz.func46 (by kernel_rfl) rfl
theorem zjm (Kt:Nat→Int) (A:Pl) (c:Nat→Option Obj) (b1 b2:Nat) (s:Sx) (F:Nat→Prop) (W:World) (x:ByteArray) (hx:x.size≤198) (h:SvI Kt A c b1 b2 s F W) (hl:zaw s.v.tk s.t.n=none):
  Calls Tryz.prog 46 #[.string x,.pointer (some ⟨b1,0,none⟩),.pointer (some ⟨b2,0,none⟩)] W fun e W'=>e=.returned (.tuple #[fcv zf,.int .i64 110])∧Below W.heap.size W W':=by
 obtain⟨W0,hW0⟩:∃ W0,W.alloc (.cells #[.int .u32 0,.string ⟨#[]⟩] 49)=W0:=⟨_,rfl⟩;have b0:Below W.heap.size W W0:=by rw[←hW0];exact zaa _ _
 have y0:FB W.heap.size 0 ⟨#[]⟩ W0:=by rw[←hW0];exact zaS W
 have hC:=Rv.zjd A s.v s.t x hx W0 (h.vlt.below b0 zn) h.hon.ok hl;have HC:Hid (Calls Tryz.prog 32 #[pt A.g,.string x] W0 fun e w'=>e=.returned (.tuple #[.agg #[.int .u32 0,.string ⟨#[]⟩],.int .i64 110])∧Below W0.heap.size W0 w'):=hC;have c1:W0.cell? ⟨b1,0,none⟩=some (pt A.g):=by rw[zr ((b0.block _ (zi h.bx1).1).trans h.bx1)];rfl
 have l1:b1<W0.heap.size:=by have:=(zi h.bx1).1;have:=b0.size;omega
 have HW0:Hid _:=hW0;have HB:Hid (Below W.heap.size W W0):=b0;have HY:Hid (FB W.heap.size 0 ⟨#[]⟩ W0):=y0;clear hC h hl b0 y0 hW0;go_enter Tryz.func46,Tryz.ntmps46
 go_wp2_with (first|(rw[HW0.out];clear HW0))
 refine Calls.mono HC.out ?_;rintro e W1 ⟨rfl,b1'⟩;obtain⟨u1,u2,u3,u4⟩:=(HY.out.grow b1').facts;have lz:W.heap.size<W1.heap.size:=(zi (HY.out.grow b1')).1;obtain⟨y3,b3'⟩:=(HY.out.grow b1').set 0 ⟨#[]⟩;have b4':=zaa ((W1.setCell ⟨W.heap.size,0,none⟩ (.int .u32 0)).setCell ⟨W.heap.size,1,none⟩ (.string ⟨#[]⟩)) (.cells #[.int .u32 0,.string ⟨#[]⟩] 49);have HY3:Hid (FB W.heap.size 0 ⟨#[]⟩ (((W1.setCell ⟨W.heap.size,0,none⟩ (.int .u32 0)).setCell ⟨W.heap.size,1,none⟩ (.string ⟨#[]⟩)).alloc (.cells #[.int .u32 0,.string ⟨#[]⟩] 49))):=FB.grow y3 b4'
 have HB3:Hid (Below W.heap.size W (((W1.setCell ⟨W.heap.size,0,none⟩ (.int .u32 0)).setCell ⟨W.heap.size,1,none⟩ (.string ⟨#[]⟩)).alloc (.cells #[.int .u32 0,.string ⟨#[]⟩] 49))):=by
  refine(?_:Below _ _ _);have h1:Below W.heap.size W W1:=HB.out.trans (b1'.mono HB.out.size);have h2:=h1.trans (b3' _ zn);exact h2.trans (b4'.mono h2.size)
 clear b1' y3 b3' b4' HC c1 l1;go_wp2_with fail;refine bodyPost_ret (zab rfl _ _ _ _ _ _ rfl rfl HY3.out) rfl ?_;exact⟨rfl,HB3.out⟩
theorem zlx (Kt:Nat→Int) (A:Pl) (c:Nat→Option Obj) (b1 b2:Nat) (s:Sx) (F:Nat→Prop) (W:World) (x:ByteArray) (hx:x.size≤198) (h:SvI Kt A c b1 b2 s F W) (p:Nat) (hl:zaw s.v.tk s.t.n=some p):
  Calls Tryz.prog 46 #[.string x,.pointer (some ⟨b1,0,none⟩),.pointer (some ⟨b2,0,none⟩)] W fun e W'=>e=.returned (.tuple #[fcv ⟨p%4294967296,Rs.tagS (blk Kt s.v p x)⟩,.int .i64 0])∧∃ F',SvI Kt A c b1 b2 ⟨take (zbT s.v) p,Rd.zau s.t p (blk Kt s.v p x),s.tk++[p]⟩ F' W'∧But F W W'∧Grw F F' W W':=by
 obtain⟨p1,p2,p3⟩:=zis hl;have n1:=h.hon.ok.n1;have hpm:p%4294967296=p:=Nat.mod_eq_of_lt (by omega);rw[hpm];have hr1:=h.room.1;have hr2:=h.room.2;have hcf:=zfA p2 s.t.n;rw[if_pos p1] at hcf;have hvk:Vok (take (zbT s.v) p):=h.vok.next (by omega) p;have hbs:(blk Kt s.v p x).size=256:=(Rs.zbG Kt s.v.ring (Rv.hd s.v p) (h.vok.fits (by omega)) x (h.vok.se p hx)).1;obtain⟨-,hh2,hh3,-⟩:=Rv.zc1 h.hon p1 hbs;obtain⟨W0,hW0⟩:∃ W0,W.alloc (.cells #[.int .u32 0,.string ⟨#[]⟩] 49)=W0:=⟨_,rfl⟩;have b0:Below W.heap.size W W0:=by rw[←hW0];exact zaa _ _
 have y0:FB W.heap.size 0 ⟨#[]⟩ W0:=by rw[←hW0];exact zaS W
 have h0:SvI Kt A c b1 b2 s F W0:=h.keep b0.size fun k hk=>b0.block k (h.lt k hk)
 have hC:=Rv.zgx Kt A s.v s.t x hx p W0 h0.vlt h.vok h.hon h0.tb hl p1;obtain⟨T,hT⟩:∃ T,Rs.tagS (blk Kt s.v p x)=T:=⟨_,rfl⟩;obtain⟨D,hD⟩:∃ D,Rd.zau s.t p (blk Kt s.v p x)=D:=⟨_,rfl⟩;rw[hT,hD] at hC;rw[hD] at hh2 hh3;rw[hT,hD];obtain⟨V,hV⟩:∃ V,take (zbT s.v) p=V:=⟨_,rfl⟩;have hVs:V.seals=s.v.seals+1∧V.tk=Rv.tput s.v.tk p (some ()):=by rw[←hV];exact⟨rfl,rfl⟩
 rw[hV] at hC hvk ⊢;have HC:Hid (Calls Tryz.prog 32 #[pt A.g,.string x] W0 fun e w'=>e=.returned (.tuple #[.agg #[.int .u32 (p:Int),.string T],.int .i64 0])∧Vlt w' A V D∧Rd.But A.has W0 w'):=hC;have c1:W0.cell? ⟨b1,0,none⟩=some (pt A.g):=by rw[zr h0.bx1];rfl
 have l1:b1<W0.heap.size:=(zi h0.bx1).1;have HW0:Hid _:=hW0;have HB:Hid (Below W.heap.size W W0):=b0;have HY:Hid (FB W.heap.size 0 ⟨#[]⟩ W0):=y0;have HS0:Hid (SvI Kt A c b1 b2 s F W0):=h0;have HS:Hid (SvI Kt A c b1 b2 s F W):=h
 have HRm:Hid (V.seals+cf V.tk D.n≤100000∧s.tk.length+1≤V.seals∧Vok V∧Hon D):=by
  refine⟨?_,?_,hvk,hh2⟩
  ·rw[hVs.1,hVs.2,hh3];omega
  ·rw[hVs.1];omega
 have HFl:Hid (∀ k,F k→k<W.heap.size):=h.lt;clear hC h h0 hl b0 y0 hW0 hr1 hr2 hcf hvk hh2 hh3 hT hD hV hVs p2 p3 hbs hpm n1 p1;go_enter Tryz.func46,Tryz.ntmps46
 go_wp2_with (first|(rw[HW0.out];clear HW0))
 refine Calls.mono HC.out ?_;rintro e W1 ⟨rfl,hv1,hb1⟩;have lW:W.heap.size<W1.heap.size:=by have:=(zi HY.out).1;have:=hb1.size;omega
 have hA0:∀ k,A.has k→k<W.heap.size:=fun k hk=>HFl.out k (HS.out.on k (.inl hk))
 have y1:FB W.heap.size 0 ⟨#[]⟩ W1:=(hb1.block _ (zi HY.out).1 fun e=>by have:=hA0 _ e;omega).trans HY.out;have hk1:∀ k,k<W.heap.size→¬A.has k→W1.heap[k]? =W.heap[k]? :=fun k hk hn=>(hb1.block k (by have:=HB.out.size;omega) hn).trans (HB.out.block k hk)
 obtain⟨tv,t1,t2,t3⟩:=HS.out.row;have lb2:b2<W.heap.size:=(zi t1).1;have t1':W1.heap[b2]? =some (.cells #[tv] 90 (0,0)):=(hk1 b2 lb2 HS.out.nb.2.1).trans t1;have t2':W1.ownsRow (b2+1) 41 1 tv s.tk.length (s.tk.map uv):=zaF t2 fun g hg hl=>hk1 g hl (t3 g hg).2.1
 obtain⟨W2,hW2⟩:∃ W2,W1.alloc (.cells #[.int .u32 (p:Int),.string T] 49)=W2:=⟨_,rfl⟩;have b12:Below W1.heap.size W1 W2:=by rw[←hW2];exact zaa _ _
 have s2:W2.heap.size=W1.heap.size+1:=by rw[←hW2];simp
 have z2:FB W1.heap.size (p:Int) T W2:=by rw[←hW2];exact zq W1 _
 obtain⟨W3,hW3⟩:∃ W3,W2.alloc (.cells #[uv p] 41)=W3:=⟨_,rfl⟩;have b23:Below W2.heap.size W2 W3:=by rw[←hW3];exact zaa _ _
 have z3:W3.heap[W2.heap.size]? =some (.cells #[uv p] 41 (0,0)):=by rw[←hW3];exact zq W2 _
 have b13:Below W1.heap.size W1 W3:=b12.trans (b23.mono b12.size)
 obtain⟨tv',W4,hrun,a1,a2,a3⟩:=zaV 90 41 Tryz.underlying90 zqo rfl (by decide) (by decide) W3 (b2+1) s.tk.length 1 tv (some ⟨W2.heap.size,0,none⟩) 1 (s.tk.map uv) [uv p]
  (zaF t2' fun g _ hl=>b13.block g hl) (by have:=b13.size;omega) (zqp z3) (by simp[Value.oneCell']) (by have:=HRm.out.1;have:=HRm.out.2.1;omega)
 have hob:∀ {g:Nat},tv.ownBlock=some g→b2+1≤g∧g<W.heap.size:=fun hg=>zat t2 hg
 have e4:W4.heap[b2]? =some (.cells #[tv] 90 (0,0)):=(a2.block _ (by have:=b13.size;omega) (fun e=>by have:=(hob e.symm).1;omega)).trans ((b13.block _ (by omega)).trans t1');obtain⟨W5,hW5⟩:∃ W5,W4.setCell ⟨b2,0,none⟩ tv'=W5:=⟨_,rfl⟩;have s5:W5.heap.size=W4.heap.size:=by rw[←hW5];simp[World.setCell]
 have k5:∀ j,j≠b2→W5.heap[j]? =W4.heap[j]? :=fun j hj=>by rw[←hW5];exact Below.heap_setCell _ _ _ _ (fun e=>hj e)
 have e5:W5.heap[b2]? =some (.cells #[tv'] 90 (0,0)):=by rw[←hW5];exact zc0 e4
 have hs4:=a2.size;have hs3:=b13.size;have k15:∀ j,j<W1.heap.size→j≠b2→tv.ownBlock≠some j→W5.heap[j]? =W1.heap[j]? :=fun j hj hn hn2=>(k5 j hn).trans ((a2.block j (by omega) (fun e=>hn2 e.symm)).trans (b13.block j hj))
 have y5:FB W.heap.size 0 ⟨#[]⟩ W5:=(k15 _ lW (by omega) (fun e=>by have:=(hob e).2;omega)).trans y1;have z5:FB W1.heap.size (p:Int) T W5:=(k5 W1.heap.size (by omega)).trans ((a2.block W1.heap.size (by have:=b23.size;omega) (fun e=>by have:=(hob e.symm).2;omega)).trans ((b23.block _ (by omega)).trans z2));obtain⟨y6,-⟩:=y5.set (p:Int) T;obtain⟨-,b56⟩:=y5.put6 (p:Int) T;obtain⟨W6,hW6⟩:∃ W6,(W5.setCell ⟨W.heap.size,0,none⟩ (.int .u32 (p:Int))).setCell ⟨W.heap.size,1,none⟩ (.string T)=W6:=⟨_,rfl⟩;rw[hW6] at y6 b56;have hs6:=b56.size;have hob':∀ {g:Nat},tv'.ownBlock=some g→b2+1≤g∧g<W4.heap.size:=fun hg=>zat a1 hg
 have hgr:∀ g,tv'.ownBlock=some g→(F g∧¬A.has g∧¬Und A g)∨(W3.heap.size≤g∧g<W4.heap.size):=fun g hg=>by
  rcases a3 with a3|a3
  ·exact .inl (t3 g (by rw[←a3];exact hg))
  ·have:=(hob' hg).2
   rw[a3] at hg;cases hg;exact .inr ⟨Nat.le_refl _,this⟩
 have hund:∀ k,Und A k→k<W.heap.size∧¬A.has k→W6.heap[k]? =W1.heap[k]? :=fun k hu ⟨hk,_⟩=>by
  rw[b56.block k (by omega) (by omega)];refine k15 k (by omega) (fun e=>HS.out.nb.2.2.2.1 (e▸hu)) fun e=>(t3 k e).2.2 hu
 have hnew:∀ g,W.heap.size≤g→¬A.has g∧¬Und A g:=fun g hg=>⟨fun e=>by have:=hA0 g e;omega,fun e=>by have:=HFl.out g (HS.out.on g (.inr (.inl e)));omega⟩
 have hall:∀ k,k<W.heap.size→A.has k∨Und A k→W6.heap[k]? =W1.heap[k]? :=fun k hk hh=>by
  rw[b56.block k (by omega) (by omega)];rcases hh with hh|hh
  ·exact k15 k (by omega) (fun e=>HS.out.nb.2.1 (e▸hh)) fun e=>(t3 k e).2.1 hh
  ·exact k15 k (by omega) (fun e=>HS.out.nb.2.2.2.1 (e▸hh)) fun e=>(t3 k e).2.2 hh
 have HR6:Hid (∃ F',SvI Kt A c b1 b2 ⟨V,D,s.tk++[p]⟩ F' W6∧But F W W6∧Grw F F' W W6):=by
  obtain⟨r1,r2,r3,r4⟩:=HRm.out
  have hbut:But F W W6:=⟨b56.os.trans ((by rw[←hW5];rfl:W5.os=W4.os).trans (a2.os.trans (b13.os.trans (hb1.os.trans HB.out.os)))),b56.tape.trans ((by rw[←hW5];rfl:W5.tape=W4.tape).trans (a2.tape.trans (b13.tape.trans (hb1.tape.trans HB.out.tape)))),b56.output.trans ((by rw[←hW5];rfl:W5.output=W4.output).trans (a2.output.trans (b13.output.trans (hb1.output.trans HB.out.output)))),by omega,fun j hj hn=>by
   rw[b56.block j (by omega) (by omega),k15 j (by omega) (fun e=>hn (HS.out.on j (.inr (.inr (.inr e))))) (fun e=>hn (t3 j e).1),hk1 j hj fun e=>hn (HS.out.on j (.inl e))]⟩
  refine⟨fun j=>F j∨tv'.ownBlock=some j,⟨zbO hv1 (by omega) fun k hk hh=>?_,r3,r4,?_,⟨r1,by simpa using r2⟩,?_,⟨tv',?_,?_,fun g hg=>?_⟩,HS.out.nb,fun k hk=>?_,fun k hk=>.inl (HS.out.on k hk),fun k hu=>?_⟩,hbut,fun j hj=>?_⟩
  ·exact hall k (HFl.out k (HS.out.on k (hh.imp id .inl))) hh
  ·refine zbH HS.out.tb fun k hk hu=>?_
   rw[hall k hk (.inr (.inr hu)),hk1 k hk fun e=>?_];rcases hu with rfl|rfl
   ·exact hv1.no1 e
   ·exact hv1.no2 e
  ·have l:=(zi HS.out.bx1).1
   rw[b56.block b1 (by omega) (by omega),k15 b1 (by omega) (by have:=HS.out.nb.2.2.2.2;omega) (fun e=>by have:=(hob e).1;have:=HS.out.nb.2.2.2.2;omega),hk1 b1 l HS.out.nb.1];exact HS.out.bx1
  ·exact(b56.block b2 (by omega) (by omega)).trans e5
  ·rw[List.map_append,List.length_append]
   exact zaF a1 fun g hg hl=>(b56.block g (by omega) (fun e=>by
    rcases hgr g hg with x|x
    ·have:=HFl.out g x.1;omega
    ·omega)).trans (k5 g (by have:=(hob' hg).1;omega))
  ·refine⟨.inr hg,?_⟩
   rcases hgr g hg with x|x
   ·exact x.2
   ·exact hnew g (by omega)
  ·rcases hk with hk|hk
   ·have:=HFl.out k hk;omega
   ·have:=(hob' hk).2;omega
  ·have hl:=HFl.out k (HS.out.on k (.inr (.inl hu)))
   rw[hall k hl (.inr hu),hk1 k hl (zlw HS.out.vlt HS.out.vok hu)];exact HS.out.und k hu
  ·rcases hj with hj|hj
   ·exact .inl hj
   ·rcases hgr j hj with x|x
    ·exact .inl x.1
    ·exact .inr ⟨by omega,by omega⟩
 obtain⟨f1,f2,f3,f4⟩:=y5.facts;obtain⟨g1,g2,g3,g4⟩:=z5.facts;have t22:=(b12.block _ (zi t1').1).trans t1';have q1:W2.cell? ⟨b2,0,none⟩=some tv:=by rw[zr t22];rfl
 have q2:b2<W2.heap.size:=(zi t22).1;obtain⟨m1,m2,m3,m4⟩:=z2.facts;have q5:W1.heap.size<W2.heap.size:=by omega
 have q3:W4.cell? ⟨b2,0,none⟩=some tv:=by rw[zr e4];rfl
 have q4:W4.frozen? ⟨b2,0,none⟩=false:=frozen_of_row W4 _ 0 _ _ e4;have HW2:Hid _:=hW2;have HW3:Hid _:=hW3;have HW5:Hid _:=hW5;have HW6:Hid _:=hW6;have HY6:Hid (FB W.heap.size (p:Int) T W6):=y6;obtain⟨ro,tc,hto,-⟩:=zai t2';obtain⟨ro',tc',hto',-⟩:=zai a1;subst hto hto';have HRun:Hid _:=hrun;clear t22;clear hv1 hb1 lW hA0 y1 hk1 t1 t2 t3 t1' t2' hW2 b12 s2 z2 hW3 b23 z3 b13 hrun a1 a2 a3 hob e4 hW5 s5 k5 e5 hs4 hs3 k15 y5 z5 y6 b56 hW6 hs6 hob' hgr hund hnew hall lb2 HC c1 l1
 go_wp2_with (first|(rw[HW2.out];clear HW2)|(rw[HW3.out];clear HW3)|(rw[HW5.out];clear HW5)|(at_builtin;refine zaq rfl 90 90 (.tmp 16) (.tmp 19) rfl (vs:=.slice ro s.tk.length tc) (vx:=.slice (some ⟨W2.heap.size,0,none⟩) 1 1) rfl rfl HRun.out ?_))
 rw[HW6.out];refine bodyPost_ret (zab rfl _ _ _ _ _ _ rfl rfl HY6.out) rfl ?_;exact⟨rfl,HR6.out⟩
theorem zgy (Kt:Nat→Int) (A:Pl) (c:Nat→Option Obj) (b1 b2:Nat):Plb (svP Kt) 46 #[.pointer (some ⟨b1,0,none⟩),.pointer (some ⟨b2,0,none⟩)] (SvI Kt A c b1 b2) where
 eg:=znf
 lt:=fun s F W h=>h.lt
 keep:=fun s F W W' h hs hk=>h.keep hs hk
 small:=fun s t=>by
  unfold svP;split
  ·exact Nat.mod_lt _ (by decide)
  ·exact Nat.zero_lt_succ _
 call:=fun s F W t ht h=>by
  cases hl:zaw s.v.tk s.t.n with
  |none=>
   refine(zjm Kt A c b1 b2 s F W t ht h hl).mono ?_;rintro e W' ⟨rfl,hb⟩;have e1:svP Kt s t=((zf,110),s):=by unfold svP;rw[hl]
   rw[e1];exact⟨rfl,F,h.keep hb.size fun k hk=>hb.block k (h.lt k hk),But.of_below hb,Grw.refl _ _ _⟩
  |some p=>
   refine(zlx Kt A c b1 b2 s F W t ht h p hl).mono ?_;rintro e W' ⟨rfl,h1⟩;have e1:svP Kt s t=((⟨p%4294967296,Rs.tagS (blk Kt s.v p t)⟩,0),⟨take (zbT s.v) p,Rd.zau s.t p (blk Kt s.v p t),s.tk++[p]⟩):=by unfold svP;rw[hl]
   rw[e1];exact⟨rfl,h1⟩
theorem zgz (w:World):Calls Tryz.prog 45 #[.pointer none] w fun e w'=>e=.returned (.bool true)∧Below w.heap.size w w':=by
 have HT:Hid (∀ _:True,_):=fun _=>Rv.zne 0 w
 go_enter Tryz.func45,Tryz.ntmps45;go_wp2_with fail;refine Calls.mono (HT.out trivial) ?_;rintro e w1 ⟨rfl,b1⟩;have HB:Hid (Below w.heap.size w w1):=b1;clear b1 HT;go_wp2_with fail;go_ret;exact⟨rfl,HB.out⟩
theorem zef (A:Pl) (v:Vs) (t:St) (w:World) (hv:Vlt w A v t) (hk:Ok t):Calls Tryz.prog 45 #[pt A.g] w fun e w'=>e=.returned (.bool false)∧Vlt w' A v t∧Rd.But A.has w w':=by
 have h0:=Rv.zna A v t 0 (by decide) w hv hk;have h2:Rv.zjj v t 0=2:=by unfold Rv.zjj Rv.plcB;rw[if_neg (by simp)]
 rw[h2,if_neg (by decide)] at h0;have HT:Hid (Calls Tryz.prog 77 #[pt A.g,.int .u32 0] w fun e w'=>e=.returned (.int .i64 2)∧Vlt w' A v t∧Rd.But A.has w w'):=h0;clear h0 h2 hv hk;go_enter Tryz.func45,Tryz.ntmps45;go_wp2_with fail;refine Calls.mono HT.out ?_;rintro e w1 ⟨rfl,b1,b2⟩;have HB:Hid (Vlt w1 A v t∧Rd.But A.has w w1):=⟨b1,b2⟩;clear b1 b2 HT;go_wp2_with fail;go_ret;exact⟨rfl,HB.out⟩
theorem zly (A:Pl) (v:Vs) (t:St) (l:List Nat) (o:Option Addr) (cap:Nat) (w:World) (hmax:l.length≤100000) (hv:Vlt w A v t) (hk:Ok t) (hs:Sl 1 w o l.length cap (l.map uv)) (hno:∀ b off,o=some ⟨b,off,none⟩→0<l.length→¬A.has b)
  (hok:∀ i (hi:i<l.length),2≤l[i]∧l[i]<t.n∧(((l.take i).foldl Rv.give v).tk l[i]).isSome=true):
  Calls Tryz.prog 49 #[pt A.g,.slice o l.length cap] w fun e w'=>e=.returned (.tuple #[])∧Vlt w' A (l.foldl Rv.give v) t∧Rd.But A.has w w':=by
 obtain⟨n,hn⟩:∃ n,l.length=n:=⟨_,rfl⟩;have HN:Hid (l.length=n):=hn;have HS:Hid (Sl 1 w o l.length cap (l.map uv)∧(∀ b off,o=some ⟨b,off,none⟩→0<l.length→¬A.has b)∧Ok t):=⟨hs,hno,hk⟩;have HOk:Hid (∀ i (hi:i<l.length),2≤l[i]∧l[i]<t.n∧(((l.take i).foldl Rv.give v).tk l[i]).isSome=true):=hok;have HV:Hid (Vlt w A v t):=hv;have n64:(n:Int)≤100000:=by omega
 rw[hn];clear hs hno hk hok hv hn hmax;go_enter Tryz.func49,Tryz.ntmps49;go_wp2_with fail
 go_loopw [8] (fun iv wr=>∃ i,i≤n∧iv=.int .i64 (i:Int)∧Vlt wr A ((l.take i).foldl Rv.give v) t∧Rd.But A.has w wr) (fun iv _=>n - zam iv)
 case atStart=>exact⟨0,Nat.zero_le _,rfl,HV.out,Rd.But.refl _ _⟩
 case round=>
  obtain⟨i,hi,rfl,hv,hb⟩:=hrel;by_cases hlt:i<n
  ·have hll:i<l.length:=by rw[HN.out];exact hlt
   obtain⟨p1,p2,p3⟩:=HOk.out i hll;obtain⟨p,hp⟩:∃ p,l[i]=p:=⟨_,rfl⟩;rw[hp] at p1 p2 p3;obtain⟨b,off,ho,hbl,hc⟩:=HS.out.1.2.2.2.2 (by omega);have hcell:=hc i (uv p) (by rw[List.getElem?_map,List.getElem?_eq_getElem hll,hp];rfl);have c0:wr.cell? ⟨b,off+i,none⟩=some (uv p):=(World.cell?_of_block (a:=⟨b,off+i,none⟩) (hb.block b hbl (HS.out.2.1 b off ho (by omega)))).trans hcell;have HC:Hid (∀ _:True,_):=fun _=>Rv.zo2 A ((l.take i).foldl Rv.give v) t p wr hv HS.out.2.2 p1 p2 p3
   have HB:Hid (Rd.But A.has w wr):=hb
   have HT:Hid (Rv.give ((l.take i).foldl Rv.give v) p=(l.take (i+1)).foldl Rv.give v):=by
    refine(?_:_=_);rw[List.take_add_one,List.getElem?_eq_getElem hll,hp];simp
   have q1:(i:Int)<(n:Int):=by omega
   have q0:(0:Int)≤(i:Int):=by omega
   subst ho;rw[HT.out] at HC;generalize (l.take i).foldl Rv.give v=vi at hv HC;clear hv hb p1 p2 p3 hp hc hcell;go_wp2_with fail;refine Calls.mono (HC.out trivial) ?_;rintro e w2 ⟨rfl,hv2,hb2⟩;have HR:Hid (Vlt w2 A ((l.take (i+1)).foldl Rv.give v) t∧Rd.But A.has w w2):=⟨hv2,HB.out.trans hb2⟩;clear hv2 hb2 HC c0;go_wp2_with fail;refine⟨⟨i+1,by omega,by go_num,HR.out⟩,?_⟩;simp[zam];omega
  ·obtain rfl:i=n:=by omega
   have HR:Hid (Vlt wr A (l.foldl Rv.give v) t∧Rd.But A.has w wr):=by
    rw[show l.take i=l from by rw[←HN.out];exact List.take_length] at hv;exact⟨hv,hb⟩
   have q1:¬(i:Int)<(i:Int):=by omega
   clear hv hb;go_wp2_with fail;refine bodyPost_end (results_none rfl _ _ _) rfl ?_;exact⟨rfl,HR.out⟩
theorem zfB {G:Nat→Prop}:∀ {d:Nat} {w:World} {n:Nv} {l:List Rw},zas G d w n l→zas (fun b=>G b∧b<w.heap.size) d w n l
 |0,_,_,_,h=>h.elim
 |d+1,w,n,l,⟨h1,h2,h3,h4,h5⟩=>by
  have sub:∀ {k:Nat} {o:Option Addr} {m cap:Nat} {cs:List Value},Sl k w o m cap cs→Lies G o m→Lies (fun b=>G b∧b<w.heap.size) o m:=fun hs hl hm b off e=>by
   obtain⟨b',off',e',hlt,-⟩:=hs.2.2.2.2 hm;rw[e] at e';cases e';exact⟨hl hm b off e,hlt⟩
  refine⟨h1,h2,h3,fun hl=>?_,fun hl=>?_⟩
  ·obtain⟨a,b,c,d,e⟩:=h4 hl
   exact⟨a,b,sub b c,d,e⟩
  ·obtain⟨a,b,ks,c,d,e,f,g⟩:=h5 hl
   exact⟨a,b,ks,c,d,e,sub e f,fun i i1 i2=>zfB (g i i1 i2)⟩
structure Qs {σ:Type} (pl:Pm σ) (Q:σ→List Sv→σ→Prop):Prop where
 nil:∀ s,Q s [] s
 cat:∀ s a s1 b s2,Q s a s1→Q s1 b s2→Q s (a++b) s2
 one:∀ s t,t.size≤198→(pl s t).1.2=0→Q s [⟨t,(pl s t).1.1⟩] (pl s t).2
 no:∀ s t,t.size≤198→(pl s t).1.2≠0→Q s [] (pl s t).2
theorem zlz {σ:Type} {pl:Pm σ} {Q:σ→List Sv→σ→Prop} (h:Qs pl Q) (s:σ) (P:Pp):Q s (zaC pl s P).ys (zaC pl s P).s:=by
 unfold zaC;split
 ·split
  ·rename_i h0;exact h.one s _ (zcX P) h0
  ·rename_i h0;exact h.no s _ (zcX P) h0
 ·exact h.nil s
theorem zgA {σ:Type} {pl:Pm σ} {Q:σ→List Sv→σ→Prop} (h:Qs pl Q) (l:List Rw):∀ (i:Nat) (s:σ) (r:Rf),Q s (zal pl l i s r).ys (zal pl l i s r).s
 |0,s,_=>h.nil s
 |i+1,s,r=>by
  have h1:=zlz h s (za2 (piece l i) r);unfold zal Gr.then;split
  ·exact h.cat _ _ _ _ _ h1 (zgA h l i _ _)
  ·exact h1
theorem zht {σ:Type} {Q:σ→List Sv→σ→Prop} {pl:Pm σ} (h:Qs pl Q) (f:σ→List Rw→Gr σ) (hf:∀ s l,Q s (f s l).ys (f s l).s):∀ (ms:List (List Rw)) (s:σ) (rs:List Rf),Q s (zan f ms s rs).1.ys (zan f ms s rs).1.s
 |[],s,_=>h.nil s
 |m::ms,s,rs=>by
  unfold zan;split
  ·exact h.cat _ _ _ _ _ (hf s m) (zht h f hf ms _ _)
  ·exact hf s m
theorem zhu {σ:Type} {pl:Pm σ} {Q:σ→List Sv→σ→Prop} (h:Qs pl Q):∀ (d:Nat) (s:σ) (l:List Rw),Q s (zad pl d s l).ys (zad pl d s l).s
 |0,s,_=>h.nil s
 |d+1,s,l=>by
  unfold zad;split
  ·exact zgA h l _ _ _
  ·split
   ·exact h.cat _ _ _ _ _ (zht h _ (zhu h d) _ _ _) (zlz h _ _)
   ·exact zht h _ (zhu h d) _ _ _
structure Pok (s:Sx):Prop where
 vok:Vok s.v
 hon:Hon s.t
 room:s.v.seals+cf s.v.tk s.t.n≤100000∧s.tk.length≤s.v.seals
 two:(s.v.tk 0).isSome=true∧(s.v.tk 1).isSome=true
theorem zhv (Kt:Nat→Int) {s:Sx} (h:Pok s) {x:ByteArray} (hx:x.size≤198) {p:Nat} (hl:zaw s.v.tk s.t.n=some p):
  svP Kt s x=((⟨p,Rs.tagS (blk Kt s.v p x)⟩,0),⟨take (zbT s.v) p,Rd.zau s.t p (blk Kt s.v p x),s.tk++[p]⟩)∧Pok ⟨take (zbT s.v) p,Rd.zau s.t p (blk Kt s.v p x),s.tk++[p]⟩∧(2≤p∧p<s.t.n∧(s.v.tk p).isSome=false)∧(Rd.zau s.t p (blk Kt s.v p x)).n=s.t.n:=by
 obtain⟨p1,p2,p3⟩:=zis hl;have n1:=h.hon.ok.n1;have hr1:=h.room.1;have hr2:=h.room.2;have hcf:=zfA p2 s.t.n;rw[if_pos p1] at hcf;have hvk:Vok (take (zbT s.v) p):=h.vok.next (by omega) p;have hbs:(blk Kt s.v p x).size=256:=(Rs.zbG Kt s.v.ring (Rv.hd s.v p) (h.vok.fits (by omega)) x (h.vok.se p hx)).1;obtain⟨-,hh2,hh3,-⟩:=Rv.zc1 h.hon p1 hbs;have e1:svP Kt s x=((⟨p%4294967296,Rs.tagS (blk Kt s.v p x)⟩,0),⟨take (zbT s.v) p,Rd.zau s.t p (blk Kt s.v p x),s.tk++[p]⟩):=by unfold svP;rw[hl]
 rw[Nat.mod_eq_of_lt (by omega)] at e1
 have q2:2≤p:=by
  rcases Nat.lt_or_ge p 2 with h'|h'
  ·have h0:=h.two
   match p,h' with
   |0,_=>rw[p2] at h0;exact absurd h0.1 (by decide)
   |1,_=>rw[p2] at h0;exact absurd h0.2 (by decide)
  ·exact h'
 refine⟨e1,⟨hvk,hh2,⟨?_,by simp[Rv.take,Rv.zbT];omega⟩,?_⟩,⟨q2,p1,p2⟩,hh3⟩
 ·show s.v.seals+1+cf (Rv.tput s.v.tk p (some ())) (Rd.zau s.t p (blk Kt s.v p x)).n≤100000
  rw[hh3];omega
 ·refine⟨?_,?_⟩
  ·show(Rv.tput s.v.tk p (some ()) 0).isSome=true
   unfold Rv.tput;split
   ·rfl
   ·exact h.two.1
  ·show(Rv.tput s.v.tk p (some ()) 1).isSome=true
   unfold Rv.tput;split
   ·rfl
   ·exact h.two.2
theorem zlA (Kt:Nat→Int) {s:Sx} {x:ByteArray} (hl:zaw s.v.tk s.t.n=none):svP Kt s x=((zf,110),s):=by unfold svP;rw[hl]
structure Sq (a:Sx) (m:List Nat) (b:Sx):Prop where
 tk:b.tk=a.tk++m
 nodup:m.Nodup
 rng:∀ p∈m,2≤p∧p<a.t.n∧(a.v.tk p).isSome=false
 is:∀ q,b.v.tk q=if q∈m then some () else a.v.tk q
 n:b.t.n=a.t.n
 nt:b.v.nt=a.v.nt+m.length
 seals:b.v.seals=a.v.seals+m.length
 same:b.v.ring=a.v.ring∧b.v.gen=a.v.gen∧b.v.boot=a.v.boot
 pok:Pok b
theorem Sq.refl {a:Sx} (h:Pok a):Sq a [] a:=⟨(List.append_nil _).symm,List.nodup_nil,fun p hp=>(by cases hp),fun q=>by simp,rfl,rfl,rfl,⟨rfl,rfl,rfl⟩,h⟩
theorem Sq.trans {a b c:Sx} {m k:List Nat} (h:Sq a m b) (g:Sq b k c):Sq a (m++k) c:=by
 have no:∀ p∈k,p ∉ m:=fun p hp hm=>by
  have h1:=(g.rng p hp).2.2;rw[h.is p,if_pos hm] at h1;exact absurd h1 (by decide)
 refine⟨by rw[g.tk,h.tk,List.append_assoc],List.nodup_append.2 ⟨h.nodup,g.nodup,fun x hx y hy e=>no y hy (e▸hx)⟩,fun p hp=>?_,fun q=>?_,g.n.trans h.n,by rw[g.nt,h.nt,List.length_append];omega,by rw[g.seals,h.seals,List.length_append];omega,⟨g.same.1.trans h.same.1,g.same.2.1.trans h.same.2.1,g.same.2.2.trans h.same.2.2⟩,g.pok⟩
 ·rcases List.mem_append.1 hp with x|x
  ·exact h.rng p x
  ·obtain⟨g1,g2,g3⟩:=g.rng p x
   rw[h.is p,if_neg (no p x)] at g3;exact⟨g1,h.n▸g2,g3⟩
 ·rw[g.is q]
  by_cases hk:q∈k
  ·rw[if_pos hk,if_pos (List.mem_append.2 (.inr hk))]
  ·rw[if_neg hk,h.is q]
   by_cases hm:q∈m
   ·rw[if_pos hm,if_pos (List.mem_append.2 (.inl hm))]
   ·rw[if_neg hm,if_neg (by simp[hk,hm])]
theorem zlB (Kt:Nat→Int) {s:Sx} (h:Pok s) {x:ByteArray} (hx:x.size≤198) {p:Nat} (hl:zaw s.v.tk s.t.n=some p):Sq s [p] (svP Kt s x).2:=by
 obtain⟨e,h1,h2,h3⟩:=zhv Kt h hx hl;rw[e];refine⟨rfl,by simp,fun q hq=>by rw[List.mem_singleton.1 hq];exact h2,fun q=>?_,h3,?_,rfl,⟨rfl,rfl,rfl⟩,h1⟩
 ·show Rv.tput s.v.tk p (some ()) q=_
  unfold Rv.tput;simp only[List.mem_singleton]
 ·show(if(s.v.tk p).isSome=true then s.v.nt else s.v.nt+1)=_
  rw[h2.2.2];rfl
def Qt (s:Sx) (_:List Sv) (s':Sx):Prop:=Pok s→∃ m,Sq s m s'
theorem zp2 (Kt:Nat→Int) (f:ByteArray→Option Rf):Qs (hadP f (svP Kt)) Qt where
 nil:=fun s h=>⟨[],Sq.refl h⟩
 cat:=fun s a s1 b s2 h1 h2 h=>by
  obtain⟨m,hm⟩:=h1 h;obtain⟨k,hk⟩:=h2 hm.pok;exact⟨m++k,hm.trans hk⟩
 one:=fun s t ht he h=>by
  unfold hadP at he ⊢;cases hf:f t with
  |some r=>exact⟨[],Sq.refl h⟩
  |none=>
   cases hl:zaw s.v.tk s.t.n with
   |none=>exact⟨[],by rw[zlA Kt hl];exact Sq.refl h⟩
   |some p=>exact⟨[p],zlB Kt h ht hl⟩
 no:=fun s t ht he h=>by
  unfold hadP at he ⊢;cases hf:f t with
  |some r=>exact⟨[],Sq.refl h⟩
  |none=>
   cases hl:zaw s.v.tk s.t.n with
   |none=>exact⟨[],by rw[zlA Kt hl];exact Sq.refl h⟩
   |some p=>exact⟨[p],zlB Kt h ht hl⟩
theorem zhw:∀ (l:List Nat) (v:Vs) (q:Nat),(l.foldl Rv.give v).tk q=if q∈l then none else v.tk q
 |[],v,q=>by simp
 |p::l,v,q=>by
  rw[List.foldl_cons,zhw l];show(if q∈l then none else Rv.tput v.tk p none q)=_;unfold Rv.tput;by_cases h1:q∈l
  ·rw[if_pos h1,if_pos (List.mem_cons.2 (.inr h1))]
  ·rw[if_neg h1]
   by_cases h2:q=p
   ·rw[if_pos h2,if_pos (List.mem_cons.2 (.inl h2))]
   ·rw[if_neg h2,if_neg (by simp[h1,h2])]
theorem zlC:∀ (l:List Nat) (v:Vs),l.Nodup→(∀ p∈l,(v.tk p).isSome=true)→l.length≤v.nt→(l.foldl Rv.give v).nt=v.nt - l.length
 |[],v,_,_,_=>rfl
 |p::l,v,hn,h,hl=>by
  obtain⟨h1,h2⟩:=List.nodup_cons.1 hn
  have e:(Rv.give v p).nt=v.nt - 1:=by
   show(if(v.tk p).isSome=true then v.nt - 1 else v.nt)=_;rw[if_pos (h p (List.mem_cons.2 (.inl rfl)))]
  rw[List.length_cons] at hl;rw[List.foldl_cons,zlC l _ h2 (fun q hq=>?_) (by rw[e];omega),e,List.length_cons]
  ·omega
  ·show(Rv.tput v.tk p none q).isSome=true
   unfold Rv.tput;rw[if_neg (fun(e:q=p)=>h1 (e▸hq))];exact h q (List.mem_cons.2 (.inr hq))
theorem zlD {s b:Sx} {m:List Nat} (h0:s.tk=[]) (h:Sq s m b):
  (∀ i (hi:i<b.tk.length),2≤b.tk[i]∧b.tk[i]<b.t.n∧(((b.tk.take i).foldl Rv.give b.v).tk b.tk[i]).isSome=true)∧(b.tk.foldl Rv.give b.v).nt=s.v.nt∧(∀ q,(b.tk.foldl Rv.give b.v).tk q=s.v.tk q):=by
 have ht:b.tk=m:=by rw[h.tk,h0];rfl
 rw[ht];refine⟨fun i hi=>?_,?_,fun q=>?_⟩
 ·obtain⟨r1,r2,r3⟩:=h.rng m[i] (List.getElem_mem hi)
  refine⟨r1,h.n▸r2,?_⟩;rw[zhw,if_neg (fun hm=>?_),h.is,if_pos (List.getElem_mem hi)]
  ·rfl
  ·obtain⟨j,hj,e⟩:=List.mem_take_iff_getElem.1 hm
   have hp:=List.pairwise_iff_getElem.1 h.nodup j i (by omega) hi (by omega);exact hp e
 ·rw[zlC m b.v h.nodup (fun p hp=>by rw[h.is,if_pos hp];rfl) (by rw[h.nt];omega),h.nt]
  omega
 ·rw[zhw,h.is]
  by_cases hq:q∈m
  ·rw[if_pos hq]
   have:=(h.rng q hq).2.2;cases hh:s.v.tk q with
   |none=>rfl
   |some u=>rw[hh] at this;cases this
  ·rw[if_neg hq,if_neg hq]
theorem zeR {k:Nat} {W W':World} {o:Option Addr} {n cap:Nat} {xs:List Value} (h:Sl k W o n cap xs) (hs:W.heap.size≤W'.heap.size) (hk:∀ b off,o=some ⟨b,off,none⟩→0<n→b<W.heap.size→W'.heap[b]? =W.heap[b]?):Sl k W' o n cap xs:=by
 refine⟨h.1,h.2.1,h.2.2.1,h.2.2.2.1,fun hn=>?_⟩;obtain⟨b,off,e,hlt,hc⟩:=h.2.2.2.2 hn;exact⟨b,off,e,Nat.lt_of_lt_of_le hlt hs,fun j u hu=>(World.cell?_of_block (a:=⟨b,off+j,none⟩) (hk b off e hn hlt)).trans (hc j u hu)⟩
theorem zit {l:List Sv} (h:∀ y∈l,y.r.p<4294967296):∀ t r,wh l t=some r→r.p<4294967296:=by
 induction l with
 |nil=>intro t r e;cases e
 |cons x l ih=>
  intro t r e;unfold wh at e;split at e
  ·cases e;exact h x (List.mem_cons.2 (.inl rfl))
  ·exact ih (fun y hy=>h y (List.mem_cons.2 (.inr hy))) t r e
def pcnt:Nat→List Rw→Nat
 |0,_=>0
 |d+1,l=>if leaf l=true then npc l else((zao l).map (pcnt d)).sum+1
theorem zgB {σ:Type} (pl:Pm σ) (s:σ) (P:Pp):(zaC pl s P).ys.length≤1∧((zaC pl s P).e=0→(zaC pl s P).ys.length=1):=by
 unfold zaC;split
 ·split
  ·exact⟨Nat.le_refl _,fun _=>rfl⟩
  ·rename_i h0;exact⟨Nat.zero_le _,fun h=>absurd h h0⟩
 ·rename_i h0;exact⟨Nat.zero_le _,fun h=>absurd h h0⟩
theorem zeg {σ:Type} (pl:Pm σ) (l:List Rw):∀ (i:Nat) (s:σ) (r:Rf),(zal pl l i s r).ys.length≤i∧((zal pl l i s r).e=0→(zal pl l i s r).ys.length=i)
 |0,_,_=>⟨Nat.le_refl _,fun _=>rfl⟩
 |i+1,s,r=>by
  obtain⟨h1,h2⟩:=zgB pl s (za2 (piece l i) r);unfold zal Gr.then;split
  ·rename_i h0
   obtain⟨g1,g2⟩:=zeg pl l i (zaC pl s (za2 (piece l i) r)).s (zaC pl s (za2 (piece l i) r)).r;have h3:=h2 h0;exact⟨by simp only[List.length_append];omega,fun h=>by have:=g2 h;simp only[List.length_append];omega⟩
  ·rename_i h0
   exact⟨by omega,fun h=>absurd h h0⟩
theorem zgC {σ:Type} (f:σ→List Rw→Gr σ) (c:List Rw→Nat) (hf:∀ s l,(f s l).ys.length≤c l∧((f s l).e=0→(f s l).ys.length=c l)):∀ (ms:List (List Rw)) (s:σ) (rs:List Rf),
  (zan f ms s rs).1.ys.length≤(ms.map c).sum∧((zan f ms s rs).1.e=0→(zan f ms s rs).1.ys.length=(ms.map c).sum)
 |[],_,_=>⟨Nat.le_refl _,fun _=>rfl⟩
 |m::ms,s,rs=>by
  obtain⟨h1,h2⟩:=hf s m;unfold zan;rw[List.map_cons,List.sum_cons];split
  ·rename_i h0
   obtain⟨g1,g2⟩:=zgC f c hf ms (f s m).s (rs++[(f s m).r]);have h3:=h2 h0;exact⟨by simp only[List.length_append];omega,fun h=>by have:=g2 h;simp only[List.length_append];omega⟩
  ·rename_i h0
   exact⟨by show(f s m).ys.length≤_;omega,fun h=>absurd h h0⟩
theorem zbZ {σ:Type} (pl:Pm σ):∀ (d:Nat) (s:σ) (l:List Rw),(zad pl d s l).ys.length≤pcnt d l∧((zad pl d s l).e=0→(zad pl d s l).ys.length=pcnt d l)
 |0,_,_=>⟨Nat.le_refl _,fun _=>rfl⟩
 |d+1,s,l=>by
  unfold zad pcnt;split
  ·exact zeg pl l _ _ _
  ·obtain⟨h1,h2⟩:=zgC (zad pl d) (pcnt d) (fun s l=>zbZ pl d s l) (zao l) s []
   split
   ·rename_i h0
    obtain⟨g1,g2⟩:=zgB pl (zan (zad pl d) (zao l) s []).1.s (zaX l (zan (zad pl d) (zao l) s []).2);have h3:=h2 h0;exact⟨by simp only[List.length_append];omega,fun h=>by have:=g2 h;simp only[List.length_append];omega⟩
   ·rename_i h0
    exact⟨by show(zan (zad pl d) (zao l) s []).1.ys.length≤_;omega,fun h=>absurd h h0⟩
theorem zlE (f g:List Rw→Nat):∀ (ms:List (List Rw)),(∀ m∈ms,f m+1≤2*g m)→(ms.map f).sum+ms.length≤2*(ms.map g).sum
 |[],_=>Nat.le_refl _
 |m::ms,h=>by
  have h1:=h m (List.mem_cons.2 (.inl rfl));have h2:=zlE f g ms fun x hx=>h x (List.mem_cons.2 (.inr hx))
  simp only[List.map_cons,List.sum_cons,List.length_cons];omega
theorem zlF:∀ (d:Nat) (l:List Rw),On l→l≠[]→pcnt d l+1≤2*l.length
 |0,l,_,h=>by
  have:=List.length_pos_iff.2 h;show 0+1≤_;omega
 |d+1,l,hon,h=>by
  have h0:=List.length_pos_iff.2 h;unfold pcnt;split
  ·unfold npc;omega
  ·rename_i hlf
   have hlf':leaf l=false:=by cases hh:leaf l;rfl;exact absurd hh hlf
   obtain⟨-,n,hn⟩:=zda hlf';have h2:=zdy hon hn;have h3:=zlE (pcnt d) List.length (zao l) fun m hm=>zlF d m (hon.kid hm) (za7 hm).1
   rw[zhJ] at h3;omega
theorem zdE (d:Nat) (l:List Rw) (hon:On l):pcnt d l≤max 1 (2*l.length):=by
 by_cases h:l=[]
 ·subst h
  cases d with
  |zero=>exact Nat.zero_le _
  |succ d=>show(if leaf []=true then npc [] else _)≤_;rw[if_pos zfd];decide
 ·have:=zlF d l hon h
  omega
theorem zng (x y:Value) (w:World):Calls Tryz.prog 13 #[.pointer none,x,y] w fun e w'=>e=.returned (.tuple #[.slice none 0 0,.int .i64 1])∧Below w.heap.size w w':=by
 obtain⟨W1,hW1⟩:∃ W1,w.alloc (.cells #[.pointer none] 24)=W1:=⟨_,rfl⟩;have b1:Below w.heap.size w W1:=by rw[←hW1];exact zaa _ _
 have c1:W1.cell? ⟨w.heap.size,0,none⟩=some (.pointer none):=by rw[←hW1,zr (zq w _)];rfl
 have l1:w.heap.size<W1.heap.size:=by rw[←hW1];simp
 have HT:Hid (∀ _:True,_):=fun _=>zgz W1
 have HW1:Hid _:=hW1;have HB1:Hid (Below w.heap.size w W1):=b1;clear hW1 b1;go_enter Tryz.func13,Tryz.ntmps13
 go_wp2_with (first|(rw[HW1.out];clear HW1))
 refine Calls.mono (HT.out trivial) ?_;rintro e w2 ⟨rfl,b2⟩;have HB2:Hid (Below w.heap.size w w2):=HB1.out.trans (b2.mono HB1.out.size);clear b2 HT c1 l1;go_wp2_with fail;go_ret2;exact⟨rfl,HB2.out⟩
theorem znh (A:Pl) (v:Vs) (t:St) (l:List Rw) (o:Option Addr) (cap:Nat) (y:Value) (w:World) (hv:Vlt w A v t) (hk:Ok t) (hr:zac w o cap l) (hno:∀ b off,o=some ⟨b,off,none⟩→0<l.length→¬A.has b) (h0:zaG l=false):
  Calls Tryz.prog 13 #[pt A.g,.slice o l.length cap,y] w fun e w'=>e=.returned (.tuple #[.slice none 0 0,.int .i64 80])∧Vlt w' A v t∧Rd.But A.has w w':=by
 obtain⟨W1,hW1⟩:∃ W1,w.alloc (.cells #[pt A.g] 24)=W1:=⟨_,rfl⟩;have b1:Below w.heap.size w W1:=by rw[←hW1];exact zaa _ _
 have c1:W1.cell? ⟨w.heap.size,0,none⟩=some (pt A.g):=by rw[←hW1,zr (zq w _)];rfl
 have l1:w.heap.size<W1.heap.size:=by rw[←hW1];simp
 have HT:Hid (∀ _:True,_):=fun _=>zef A v t W1 (hv.below b1 zn) hk
 have HBu:Hid (∀ W,Rd.But A.has w W→Calls Tryz.prog 36 #[.slice o l.length cap] W fun e w'=>e=.returned (.tuple #[nv ⟨0,0,0,none,0,0,none,0,0⟩,.int .i64 80])∧Below W.heap.size W w'):=fun W hb=>zhT l o cap W (zeR hr hb.size fun b off e hn hl=>hb.block b hl (hno b off e hn)) h0
 have HW1:Hid _:=hW1;have HB1:Hid (Below w.heap.size w W1):=b1;have HA:Hid (∀ k,A.has k→k<w.heap.size):=fun k hk'=>hv.has_lt hk'
 clear hW1 b1 hv hk hr hno h0;go_enter Tryz.func13,Tryz.ntmps13
 go_wp2_with (first|(rw[HW1.out];clear HW1))
 refine Calls.mono (HT.out trivial) ?_;rintro e w2 ⟨rfl,hv2,hb2⟩;have HV2:Hid (Vlt w2 A v t):=hv2;have HB2:Hid (Rd.But A.has w w2):=(Rd.But.of_below HB1.out).trans hb2;clear hv2 hb2 HT c1 l1;go_wp2_with fail;refine Calls.mono (HBu.out w2 HB2.out) ?_;rintro e w3 ⟨rfl,b3⟩;have b4:=zaa w3 (.cells #[.int .u32 0,.int .u32 0,.int .i64 0,.slice none 0 0,.slice none 0 0] 73)
 have HR:Hid (Vlt (w3.alloc (.cells #[.int .u32 0,.int .u32 0,.int .i64 0,.slice none 0 0,.slice none 0 0] 73)) A v t∧Rd.But A.has w (w3.alloc (.cells #[.int .u32 0,.int .u32 0,.int .i64 0,.slice none 0 0,.slice none 0 0] 73))):=by
  have h1:=b3.trans (b4.mono b3.size);exact⟨HV2.out.below h1 zn,HB2.out.trans (Rd.But.of_below h1)⟩
 clear b3 b4 HBu;go_wp2_with fail;go_ret2;exact⟨rfl,HR.out⟩
theorem zeS (W:World) (v:Value) (hv:v.oneCell'=true):∃ W',(store ⟨W.heap.size,0,none⟩ v).run Tryz.prog (W.alloc (.cells #[.nilFunc] 93))=.ok () W'∧Below W.heap.size W W'∧W'.heap[W.heap.size]? =some (.cells #[v] 93 (0,0)):=by
 have h1:=zq W (.cells #[.nilFunc] 93);refine⟨(W.alloc (.cells #[.nilFunc] 93)).setCell ⟨W.heap.size,0,none⟩ v,?_,?_,zc0 h1⟩
 ·rw[run_store _ _ _ _ _ hv,show(W.alloc (.cells #[.nilFunc] 93)).cell? ⟨W.heap.size,0,none⟩=some .nilFunc by rw[zr h1];rfl,frozen_of_row _ _ 0 _ _ h1]
  rfl
 ·have b:=zaa W (.cells #[.nilFunc] 93)
  exact b.trans ⟨rfl,rfl,rfl,by simp[World.setCell],fun j hj=>Below.heap_setCell _ _ _ _ (fun e=>by
   have e':j=W.heap.size:=e;omega)⟩
def finV (g:Gr Sx):Vs:=if g.e=0 then g.s.v else g.s.tk.foldl Rv.give g.s.v
theorem zlG (Kt:Nat→Int) (A:Pl) (v:Vs) (t:St) (l:List Rw) (o:Option Addr) (cap:Nat) (had:List Sv) (oh:Option Addr) (caph:Nat) (w:World) (hv:Vlt w A v t) (hp:Pok ⟨v,t,[]⟩) (hT:Rs.Tb Kt w)
  (hr:zac w o cap l) (hno:∀ b off,o=some ⟨b,off,none⟩→0<l.length→¬A.has b) (hok:∀ r∈l,zbd r) (h0:zaG l=true)
  (hh:SvAt w oh caph had) (hnh:∀ b off,oh=some ⟨b,off,none⟩→0<had.length→¬A.has b) (hs:∀ y∈had,y.r.p<4294967296) (hl:had.length≤100000) (g:Gr Sx) (hg:zad (hadP (wh had) (svP Kt)) 32 ⟨v,t,[]⟩ l=g):
  Calls Tryz.prog 13 #[pt A.g,.slice o l.length cap,.slice oh had.length caph] w fun e w'=>∃ o' cap',e=.returned (.tuple #[.slice o' (outL g).length cap',.int .i64 g.e])∧SvAt w' o' cap' (outL g)∧(∀ b off,o'=some ⟨b,off,none⟩→w.heap.size≤b)∧Vlt w' A (finV g) g.s.t∧Rs.Tb Kt w'∧Rd.But A.has w w':=by
 have hq:=zhu (zp2 Kt (wh had)) 32 ⟨v,t,[]⟩ l hp;rw[hg] at hq;obtain⟨m,hm⟩:=hq;obtain⟨hg1,hg2,hg3⟩:=zlD rfl hm;have HGv:Hid (∀ i (hi:i<g.s.tk.length),2≤g.s.tk[i]∧g.s.tk[i]<g.s.t.n∧(((g.s.tk.take i).foldl Rv.give g.s.v).tk g.s.tk[i]).isSome=true):=hg1;have hlen:=(zbZ (hadP (wh had) (svP Kt)) 32 ⟨v,t,[]⟩ l).1;rw[hg] at hlen;have hlm:=zdE 32 l (zbJ h0);have hl1000:=((zaH l).1 h0).1;have HA:Hid (∀ k,A.has k→k<w.heap.size):=fun k hk'=>hv.has_lt hk'
 have hU:∀ k,Und A k→k<w.heap.size:=fun k hu=>by
  obtain⟨⟨a,b,h1⟩,c,d,h2⟩:=hT;rcases hu with⟨off,hu⟩|rfl|rfl
  ·obtain⟨b',off',e',hlt,-⟩:=hv.self.2.1.2.2.2 (by have:=List.length_pos_iff.2 (zho hp.vok.f);exact zho hp.vok.f)
   rw[hu] at e';cases e';exact hlt
  ·exact(zi h1).1
  ·exact(zi h2).1
 have HUl:Hid (∀ k,Und A k→k<w.heap.size):=hU;have HUn:Hid (∀ k,Und A k→¬A.has k):=fun k hu=>zlw hv hp.vok hu
 obtain⟨W1,hW1⟩:∃ W1,w.alloc (.cells #[pt A.g] 24)=W1:=⟨_,rfl⟩;have b1:Below w.heap.size w W1:=by rw[←hW1];exact zaa _ _
 have e1:W1.heap[w.heap.size]? =some (.cells #[pt A.g] 24 (0,0)):=by rw[←hW1];exact zq w _
 have c1:W1.cell? ⟨w.heap.size,0,none⟩=some (pt A.g):=by rw[zr e1];rfl
 have l1:w.heap.size<W1.heap.size:=by rw[←hW1];simp
 have HNn:Hid (∀ _:True,_):=fun _=>zef A v t W1 (hv.below b1 zn) hp.hon.ok
 have HE1:Hid (W1.heap[w.heap.size]? =some (.cells #[pt A.g] 24 (0,0))∧W1.heap.size=w.heap.size+1):=⟨e1,by rw[←hW1];simp⟩;have HBu:Hid (∀ W,Rd.But A.has w W→Calls Tryz.prog 36 #[.slice o l.length cap] W fun e w'=>∃ n:Nv,e=.returned (.tuple #[nv n,.int .i64 0])∧zas (fun b=>W.heap.size≤b) 32 w' n l∧Below W.heap.size W w'):=fun W hb=>zhU l o cap W (zeR hr hb.size fun b off e hn hl=>hb.block b hl (hno b off e hn)) h0
 have HHd:Hid (∀ W,Rd.But A.has w W→SvAt W oh caph had):=fun W hb=>hh.keep hb.size fun b off e hn hl=>hb.block b hl (hnh b off e hn)
 have HPl:Hid (On l∧(∀ r∈l,zbd r)∧l.length≤1000∧g.ys.length≤5000∧had.length≤100000∧(∀ t r,wh had t=some r→r.p<4294967296)):=⟨zbJ h0,hok,hl1000,by omega,hl,zit hs⟩;have HTb:Hid (Rs.Tb Kt w∧Pok ⟨v,t,[]⟩∧zad (hadP (wh had) (svP Kt)) 32 ⟨v,t,[]⟩ l=g):=⟨hT,hp,hg⟩;have HW1:Hid _:=hW1;have HB1:Hid (Below w.heap.size w W1):=b1;clear hW1 b1 hv hr hno h0 hm hg1 hg2 hg3 hlen hlm hl1000 hU hh hnh hs hl hok hT hp hg e1;go_enter Tryz.func13,Tryz.ntmps13
 go_wp2_with (first|(rw[HW1.out];clear HW1))
 refine Calls.mono (HNn.out trivial) ?_;rintro e w2 ⟨rfl,hv2,hb2⟩;have HV2:Hid (Vlt w2 A v t):=hv2;have HB2:Hid (Rd.But A.has w w2):=(Rd.But.of_below HB1.out).trans hb2;have HE2:Hid (w2.heap[w.heap.size]? =some (.cells #[pt A.g] 24 (0,0))∧w.heap.size+1≤w2.heap.size):=⟨(hb2.block _ (by have:=HE1.out.2;omega) (fun e=>by have:=HA.out _ e;omega)).trans HE1.out.1,by have:=HE1.out.2;have:=hb2.size;omega⟩;clear hv2 hb2 HNn c1 l1;go_wp2_with fail;refine Calls.mono (HBu.out w2 HB2.out) ?_;rintro e w3 ⟨n,rfl,hN,b3⟩;have hN':=zfB hN;obtain⟨W5,hW5⟩:∃ W5,(w3.alloc (ncs n)).alloc (.cells #[.slice none 0 0] 90)=W5:=⟨_,rfl⟩;have s4:(w3.alloc (ncs n)).heap.size=w3.heap.size+1:=by simp
 have s5:W5.heap.size=w3.heap.size+2:=by rw[←hW5];simp
 have b4:=zaa w3 (ncs n);have b5:=zaa (w3.alloc (ncs n)) (.cells #[.slice none 0 0] 90);rw[hW5,s4] at b5;have e4:W5.heap[w3.heap.size]? =some (ncs n):=(b5.block _ (by omega)).trans (zq w3 _);have e5:W5.heap[w3.heap.size+1]? =some (.cells #[.slice none 0 0] 90 (0,0)):=by rw[←hW5,←s4];exact zq _ _
 have b35:Below w3.heap.size w3 W5:=b4.trans (b5.mono (by omega));have b25:Below w2.heap.size w2 W5:=b3.trans (b35.mono b3.size);have hb5:Rd.But A.has w W5:=HB2.out.trans (Rd.But.of_below b25);have hho:=zgv 46 #[.pointer (some ⟨w.heap.size,0,none⟩),.pointer (some ⟨w3.heap.size+1,0,none⟩)] had oh caph HPl.out.2.2.2.2.1 W5 (HHd.out W5 hb5);have HHo:Hid (Calls Tryz.prog 47 #[.slice oh had.length caph,.func (.func 46) #[] #[.pointer (some ⟨w.heap.size,0,none⟩),.pointer (some ⟨w3.heap.size+1,0,none⟩)]] W5 fun e w'=>e=.returned (.func (.func 79) #[] #[.pointer (some ⟨W5.heap.size+2,0,none⟩),.pointer (some ⟨W5.heap.size,0,none⟩)])∧w'.heap[W5.heap.size]? =some (.cells #[.func (.func 46) #[] #[.pointer (some ⟨w.heap.size,0,none⟩),.pointer (some ⟨w3.heap.size+1,0,none⟩)]] 63 (0,0))∧Wh w' (W5.heap.size+1) (wh had)∧w'.heap[W5.heap.size+2]? =some (.cells #[.map (some (W5.heap.size+1))] 145 (0,0))∧Below W5.heap.size W5 w'):=hho
 have HN5:Hid (zas (fun b=>w2.heap.size≤b∧b<w3.heap.size) 32 W5 n l∧W5.heap[w3.heap.size]? =some (ncs n)∧W5.heap[w3.heap.size+1]? =some (.cells #[.slice none 0 0] 90 (0,0))∧W5.heap.size=w3.heap.size+2∧Below w2.heap.size w2 W5∧Rd.But A.has w W5∧w2.heap.size≤w3.heap.size):=⟨hN'.below b35 zn,e4,e5,s5,b25,hb5,b3.size⟩;have HW5:Hid _:=hW5;clear hho hN hN' b3 s4 s5 b4 b5 e4 e5 b35 b25 hb5 hW5 HBu HHd;go_wp2_with fail;rw[HW5.out];refine Calls.mono HHo.out ?_;rintro e W6 ⟨rfl,k1,k2,k3,b6⟩;obtain⟨n1,n2,n3,n4,n5,n6,n7⟩:=HN5.out;obtain⟨W7,hst,b7,e7⟩:=zeS W6 (.func (.func 79) #[] #[.pointer (some ⟨W5.heap.size+2,0,none⟩),.pointer (some ⟨W5.heap.size,0,none⟩)]) rfl;have b57:Below W5.heap.size W5 W7:=b6.trans (b7.mono b6.size);have b27:Below w2.heap.size w2 W7:=n5.trans (b57.mono n5.size);have hbw:Rd.But A.has w W7:=HB2.out.trans (Rd.But.of_below b27);have l6:=b6.size;have l7:=b7.size;have lw2:=HE2.out.2
 obtain⟨q1,q2,q3,q4,q5,q6⟩:=HPl.out;have kA:∀ k,w.heap.size≤k→¬A.has k∧¬Und A k:=fun k hk=>⟨fun e=>by have:=HA.out k e;omega,fun e=>by have:=HUl.out k e;omega⟩
 have x3:=(zi k3).1
 have hsv:SvI Kt A (fun k=>w.heap[k]?) w.heap.size (w3.heap.size+1) ⟨v,t,[]⟩ (fun k=>A.has k∨Und A k∨k=w.heap.size∨k=w3.heap.size+1) W7:=by
  refine⟨HV2.out.below b27 zn,HTb.out.2.1.vok,HTb.out.2.1.hon,zbH HTb.out.1 fun k hk hu=>hbw.block k hk (HUn.out k (.inr hu)),HTb.out.2.1.room,(b27.block _ (by omega)).trans HE2.out.1,⟨.slice none 0 0,(b57.block _ (by omega)).trans n3,World.ownsRow_nil _ _ _ _,fun x hx=>by simp[Value.ownBlock] at hx⟩,
   ⟨(kA _ zn).1,(kA _ (by omega)).1,(kA _ zn).2,(kA _ (by omega)).2,by omega⟩,fun k hk=>?_,fun k hk=>hk,fun k hu=>hbw.block k (HUl.out k hu) (HUn.out k hu)⟩
  rcases hk with x|x|x|x
  ·have:=HA.out k x;omega
  ·have:=HUl.out k x;omega
  ·omega
  ·omega
 have hIh:Ih 46 #[.pointer (some ⟨w.heap.size,0,none⟩),.pointer (some ⟨w3.heap.size+1,0,none⟩)] (wh had) (W5.heap.size+1) W5.heap.size (W5.heap.size+2) (SvI Kt A (fun k=>w.heap[k]?) w.heap.size (w3.heap.size+1)) ⟨v,t,[]⟩
   (fun k=>(A.has k∨Und A k∨k=w.heap.size∨k=w3.heap.size+1)∨k=W5.heap.size+1∨k=W5.heap.size∨k=W5.heap.size+2) W7:=by
  have no:∀ k,W5.heap.size≤k→¬(A.has k∨Und A k∨k=w.heap.size∨k=w3.heap.size+1):=fun k hk e=>by
   have:=kA k (by omega);rcases e with x|x|x|x
   ·exact this.1 x
   ·exact this.2 x
   ·omega
   ·omega
  exact⟨_,hsv,fun j=>Iff.rfl,no _ (by omega),no _ (by omega),no _ (by omega),k2.same (b7.block _ k2.lt),(b7.block _ (by omega)).trans k1,(b7.block _ (by omega)).trans k3⟩
 have hgr:=zgs (zeQ (zgy Kt A (fun k=>w.heap[k]?) w.heap.size (w3.heap.size+1)) (wh had) q6 (W5.heap.size+1) W5.heap.size (W5.heap.size+2)) (fun b=>w2.heap.size≤b∧b<w3.heap.size) 32 n l _ ⟨v,t,[]⟩ W7 hIh (n1.below b57 zn)
  (fun b hb=>⟨by omega,fun e=>by
   have:=kA b (by omega);rcases e with(x|x|x|x)|x|x|x
   ·exact this.1 x
   ·exact this.2 x
   ·omega
   ·omega
   ·omega
   ·omega
   ·omega⟩) q1 q2 q3 (by rw[HTb.out.2.2];exact q4)
 rw[HTb.out.2.2] at hgr;have HGr:Hid (Calls Tryz.prog 48 #[gw 79 #[.pointer (some ⟨W5.heap.size+2,0,none⟩),.pointer (some ⟨W5.heap.size,0,none⟩)],nv n] W7 _):=hgr;have cN:W7.cell? ⟨W6.heap.size,0,none⟩=some (.func (.func 79) #[] #[.pointer (some ⟨W5.heap.size+2,0,none⟩),.pointer (some ⟨W5.heap.size,0,none⟩)]):=by rw[zr e7];rfl
 obtain⟨z0,z1,z2,z3,z4⟩:=zhp ((b57.block _ (by omega)).trans n2);have HBw:Hid (Rd.But A.has w W7∧w.heap.size≤W7.heap.size∧(∀ k,w.heap.size≤k→¬A.has k∧¬Und A k)∧w.heap.size≤w3.heap.size∧W5.heap.size=w3.heap.size+2∧W5.heap.size≤W7.heap.size):=⟨hbw,hbw.size,kA,by omega,by omega,by omega⟩;obtain⟨nX,nY,nL,nro,nrn,nrc,nko,nkn,nkc⟩:=n;simp only at z0 z1 z2 z3 z4;clear k1 k2 k3 b6 n1 n2 n3 n4 n5 n6 n7 b7 e7 b57 b27 hbw l6 l7 lw2 q1 q2 q3 q4 q5 q6 kA x3 hsv hIh hgr;go_wp2_with fail;refine Calls.mono HGr.out ?_;rintro e W8 ⟨o',cap',F',rfl,r1,r2,⟨F0,r3,r4,-⟩,r5,r6⟩
 have hbut:Rd.But A.has w W8:=by
  obtain⟨a1,a2,a3,a4,a5,a6⟩:=HBw.out;refine⟨r5.os.trans a1.os,r5.tape.trans a1.tape,r5.output.trans a1.output,Nat.le_trans a2 r5.size,fun j hj hn=>?_⟩;by_cases hu:Und A j
  ·exact r3.und j hu
  ·refine(r5.block j (by omega) (fun e=>?_)).trans (a1.block j hj hn)
   rcases e with(x|x|x|x)|x|x|x
   ·exact hn x
   ·exact hu x
   all_goals omega
 obtain⟨tv,u1,u2,u3⟩:=r3.row;obtain⟨ro,rc',htv,hsl⟩:=zai u2;subst htv;have d1:W8.cell? ⟨w.heap.size,0,none⟩=some (pt A.g):=by rw[zr r3.bx1];rfl
 have d2:W8.cell? ⟨w3.heap.size+1,0,none⟩=some (.slice ro g.s.tk.length rc'):=by rw[zr u1];rfl
 have y1:w.heap.size<W8.heap.size:=(zi r3.bx1).1;have y2:w3.heap.size+1<W8.heap.size:=(zi u1).1;have HFr:Hid (∀ b off,o'=some ⟨b,off,none⟩→w.heap.size≤b):=fun b off e=>by have:=(r2 b off e).1;have:=HBw.out.2.1;omega
 by_cases h0:g.e=0
 ·obtain⟨L,hL⟩:∃ L,(outL g).length=L:=⟨_,rfl⟩
  have HR:Hid (∀ e:Ending,e=.returned (.tuple #[.slice o' L cap',.int .i64 0])→∃ o' cap',e=.returned (.tuple #[.slice o' (outL g).length cap',.int .i64 g.e])∧SvAt W8 o' cap' (outL g)∧(∀ b off,o'=some ⟨b,off,none⟩→w.heap.size≤b)∧Vlt W8 A (finV g) g.s.t∧Rs.Tb Kt W8∧Rd.But A.has w W8):=fun e he=>⟨o',cap',by rw[he,h0,hL],r1,HFr.out,by rw[show finV g=g.s.v from if_pos h0];exact r3.vlt,r3.tb,hbut⟩
  simp only[hL];clear hL;clear r1 r2 r3 r4 r5 r6 u1 u2 u3 hsl hbut HGr d1 d2 y1 y2 cN z0 z1 z2 z3 z4 hst HGv;go_wp2_with fail;go_ret2;exact HR.out _ rfl
 ·have hne':(g.e==0)=false:=by simpa using h0
  have HC:Hid (Calls Tryz.prog 49 #[pt A.g,.slice ro g.s.tk.length rc'] W8 fun e w'=>e=.returned (.tuple #[])∧Vlt w' A (g.s.tk.foldl Rv.give g.s.v) g.s.t∧Rd.But A.has W8 w'):=zly A g.s.v g.s.t g.s.tk ro rc' W8 (by have:=r3.room.1;have:=r3.room.2;omega) r3.vlt r3.hon.ok hsl (fun b off e _=>(u3 b (by rw[e];rfl)).2.1) HGv.out;have HTb8:Hid (∀ W,Rd.But A.has W8 W→Rs.Tb Kt W):=fun W hb=>zbH r3.tb fun k hk hu=>hb.block k hk (HUn.out k (.inr hu))
  have HB8:Hid (Rd.But A.has w W8):=hbut;have HNe:Hid (¬g.e=0):=h0;clear r1 r2 r3 r4 r5 r6 u1 u2 u3 hsl hbut HGr cN z0 z1 z2 z3 z4 hst HGv h0;go_wp2_with fail;refine Calls.mono HC.out ?_;rintro e W9 ⟨rfl,v1,v2⟩
  have HR:Hid (∀ e:Ending,e=.returned (.tuple #[.slice none 0 0,.int .i64 g.e])→∃ o' cap',e=.returned (.tuple #[.slice o' (outL g).length cap',.int .i64 g.e])∧SvAt W9 o' cap' (outL g)∧(∀ b off,o'=some ⟨b,off,none⟩→w.heap.size≤b)∧Vlt W9 A (finV g) g.s.t∧Rs.Tb Kt W9∧Rd.But A.has w W9):=fun e he=>by
   have hL:outL g=[]:=if_neg HNe.out;rw[hL];exact⟨none,0,he,Sl.nil 3 W9,fun b off e=>(by cases e),by rw[show finV g=g.s.tk.foldl Rv.give g.s.v from if_neg HNe.out];exact v1,HTb8.out W9 v2,HB8.out.trans v2⟩
  clear v1 v2 HC d1 d2 y1 y2;go_wp2_with fail;go_ret2;exact HR.out _ rfl
open Rw (Rf fcv fc zaB Pp PAt PgAt okP encS encE pz gv Pg rpp pB gcs zie eqF zhk)
def eqS (x y:Sv):Bool:=decide (x.t=y.t)&&(decide (x.r.p=y.r.p)&&decide (x.r.t=y.r.t))
theorem zlH (x y:Sv):eqS x y=true↔x=y:=by
 unfold eqS;simp only[Bool.and_eq_true,decide_eq_true_eq];refine⟨fun h=>?_,fun h=>by rw[h];exact⟨rfl,rfl,rfl⟩⟩;obtain⟨xt,⟨xp,xr⟩⟩:=x;obtain⟨yt,⟨yp,yr⟩⟩:=y;obtain⟨h1,h2,h3⟩:=h;simp only at h1 h2 h3;subst h1 h2 h3;rfl
theorem zlI (p q:Nat) (c d:ByteArray) (w:World):(Op.equalIn 9999 49 (.agg #[.int .u32 (p:Int),.string c]) (.agg #[.int .u32 (q:Int),.string d])).run Tryz.prog w=.ok (eqF ⟨p,c⟩ ⟨q,d⟩) w:=by
 have hS:Tryz.prog.underlying 49=some (.struct (Tryz.prog.fieldsOf 49)):=by kernel_rfl
 have hp:Tryz.prog.stoodInHeld 49=false:=by kernel_rfl
 have u2:=Tryz.underlying41;have u9:=Tryz.underlying9;rw[show(9999:Nat)=9998+1 from rfl,run_equalIn_agg w 9998 49 _ _ hS hp];simp only[Program.fieldsOf,Tryz.underlying49];unfold Rw.eqF;simp only;clear hS hp;by_cases h1:p=q
 ·subst h1
  by_cases h4:c=d
  ·subst h4
   go_simp
  ·go_simp
   exact fun e=>Rw.ziQ h4 e
 ·go_simp
  exact fun e=>absurd (Int.ofNat_inj.1 e) h1
theorem zp3 (a b:ByteArray) (p q:Nat) (c d:ByteArray) (w:World):(binOp .eql 51 (.agg #[.string a,.int .u32 (p:Int),.string c]) (.agg #[.string b,.int .u32 (q:Int),.string d])).run Tryz.prog w=.ok (.bool (eqS ⟨a,⟨p,c⟩⟩ ⟨b,⟨q,d⟩⟩)) w:=by
 have hS:Tryz.prog.underlying 51=some (.struct (Tryz.prog.fieldsOf 51)):=by kernel_rfl
 have hp:Tryz.prog.stoodInHeld 51=false:=by kernel_rfl
 have u9:=Tryz.underlying9;have hin:=fun w=>zlI p q c d w
 rw[run_eql_struct,show(10000:Nat)=9999+1 from rfl,run_equalIn_agg w 9999 51 _ _ hS hp];simp only[Program.fieldsOf,Tryz.underlying51];clear hS hp;have e1:eqS ⟨a,⟨p,c⟩⟩ ⟨b,⟨q,d⟩⟩=(decide (a=b)&&eqF ⟨p,c⟩ ⟨q,d⟩):=rfl;rw[e1];generalize eqF ⟨p,c⟩ ⟨q,d⟩=F at hin ⊢;by_cases h1:a=b
 ·subst h1
  cases F<;>simp[go_sem,hin,u9,Result.andThen]
 ·have h2:(a.toList==b.toList)=false:=by
   cases hh:a.toList==b.toList with
   |false=>rfl
   |true=>exact(Rw.ziQ h1 (by simpa using hh)).elim
  simp[go_sem,u9,h2,h1,Result.andThen]
theorem znQ (a b:ByteArray) (p q:Nat) (c d:ByteArray) (w:World):(binOp .neq 51 (.agg #[.string a,.int .u32 (p:Int),.string c]) (.agg #[.string b,.int .u32 (q:Int),.string d])).run Tryz.prog w=.ok (.bool (!eqS ⟨a,⟨p,c⟩⟩ ⟨b,⟨q,d⟩⟩)) w:=by
 have h:=zp3 a b p q c d w;rw[run_eql_struct] at h;rw[run_neq_struct];cases e:(Op.equalIn 10000 51 (.agg #[.string a,.int .u32 (p:Int),.string c]) (.agg #[.string b,.int .u32 (q:Int),.string d])).run Tryz.prog w with
 |ok b w'=>rw[e] at h;simp[Result.andThen] at h ⊢;simp[h]
 |_=>rw[e] at h;simp[Result.andThen] at h
def zaQ (P:Pp):List Rf:=if P.k=1∧¬(P.np=0∧P.nt=⟨#[]⟩) then[⟨P.np,P.nt⟩] else P.ks
theorem c8z {w:World} {g:Nat} {q:Pg} (h:w.heap[g]? =some (gcs q)):w.cell? ⟨g,0,none⟩=some (.int .i64 q.k)∧w.cell? ⟨g,5,none⟩=some (.slice q.ko q.kn q.kc)∧w.cell? ⟨g,6,none⟩=some (.int .u32 (q.np:Int))∧w.cell? ⟨g,7,none⟩=some (.string q.nt):=
 ⟨by rw[zr h];rfl,by rw[zr h];rfl,by rw[zr h];rfl,by rw[zr h];rfl⟩
theorem zlJ (q:Pg) (P:Pp) (w:World) (h:PAt w q P):
  Calls Tryz.prog 85 #[gv q] w fun e w'=>∃ o cap,e=.returned (.slice o (zaQ P).length cap)∧zaB w' o cap (zaQ P)∧Below w.heap.size w w'∧(∀ b off,o=some ⟨b,off,none⟩→w.heap.size≤b∨q.ko=some ⟨b,off,none⟩):=by
 have hb:=zaa w (gcs q);have hg:=zq w (gcs q);obtain⟨W0,hW0⟩:∃ W0,w.alloc (gcs q)=W0:=⟨_,rfl⟩;rw[hW0] at hb hg;obtain⟨c0,c5,c6,c7⟩:=c8z hg;have lg:w.heap.size<W0.heap.size:=(zi hg).1;have hk:=h.k;have hnp:=h.np;have hnt:=h.nt;have hkn:=h.at'.kn;have hks:=(h.below hb zn).at'.kids;obtain⟨qk,qX,qY,qL,qro,qrn,qrc,qko,qkn,qkc,qnp,qnt⟩:=q;simp only at hk hnp hnt hkn hks c0 c5 c6 c7;have hneq:∀ w,(binOp .neq 49 (.agg #[.int .u32 (qnp:Int),.string qnt]) (.agg #[.int .u32 0,.string ⟨#[]⟩])).run Tryz.prog w=.ok (.bool (!eqF ⟨qnp,qnt⟩ ⟨0,⟨#[]⟩⟩)) w:=fun w=>zie qnp 0 qnt ⟨#[]⟩ w
 have HB:Hid (Below w.heap.size w W0):=hb;have HKs:Hid (zaB W0 qko qkc P.ks):=hks;have HKn:Hid (qkn=P.ks.length):=hkn;have HW0:Hid _:=hW0;have HNe:Hid (eqF ⟨qnp,qnt⟩ ⟨0,⟨#[]⟩⟩=true↔(qnp=0∧qnt=⟨#[]⟩)):=⟨fun e=>by have:=(zhk _ _).1 e;cases this;exact⟨rfl,rfl⟩,fun⟨e1,e2⟩=>(zhk _ _).2 (by rw[e1,e2])⟩
 have HDef:Hid (zaQ P=if qk=1∧¬(qnp=0∧qnt=⟨#[]⟩) then[⟨qnp,qnt⟩] else P.ks):=by
  refine(?_:_=_);unfold zaQ;rw[hk,hnp,hnt]
 obtain⟨E,hE⟩:∃ E,eqF ⟨qnp,qnt⟩ ⟨0,⟨#[]⟩⟩=E:=⟨_,rfl⟩;simp only[hE] at hneq;rw[hE] at HNe;clear hb hg hk hnp hnt hkn hks hW0 hE h;by_cases h1:qk=1
 ·subst h1
  cases E with
  |true=>
   have HD:Hid (zaQ P=P.ks):=by
    refine(?_:_=_);rw[HDef.out,if_neg (fun h=>h.2 (HNe.out.1 rfl))]
   rw[HD.out];clear HDef HD HNe;go_enter Tryz.func85,Tryz.ntmps85
   go_wp2_with (first|(rw[HW0.out];clear HW0))
   go_ret;exact⟨qko,qkc,by rw[HKn.out];rfl,HKs.out,HB.out,fun b off e=>.inr e⟩
  |false=>
   have HD:Hid (zaQ P=[⟨qnp,qnt⟩]):=by
    refine(?_:_=_);rw[HDef.out,if_pos ⟨rfl,fun h=>by have:=HNe.out.2 h;cases this⟩]
   rw[HD.out];have hg1:=zq W0 (.cells #[.int .u32 (qnp:Int),.string qnt] 49);have HB1:Hid (Below w.heap.size w (W0.alloc (.cells #[.int .u32 (qnp:Int),.string qnt] 49))):=HB.out.trans ((zaa W0 _).mono HB.out.size);have HG1:Hid _:=zlo (r:=⟨qnp,qnt⟩) hg1;have HL:Hid (w.heap.size≤W0.heap.size):=HB.out.size;clear HDef HD HNe HKs HB hg1;go_enter Tryz.func85,Tryz.ntmps85
   go_wp2_with (first|(rw[HW0.out];clear HW0))
   go_ret;exact⟨_,1,rfl,HG1.out,HB1.out,fun b off e=>by cases e;exact .inl HL.out⟩
 ·have HD:Hid (zaQ P=P.ks):=by
   refine(?_:_=_);rw[HDef.out,if_neg (fun h=>h1 h.1)]
  rw[HD.out];have h1':decide (qk=1)=false:=decide_eq_false h1;clear HDef HD HNe hneq;go_enter Tryz.func85,Tryz.ntmps85
  go_wp2_with (first|(rw[HW0.out];clear HW0))
  go_ret;exact⟨qko,qkc,by rw[HKn.out];rfl,HKs.out,HB.out,fun b off e=>.inr e⟩
open Rw (Rf fcv fc zaB Pp PAt PgAt okP encS encE pz gv Pg rpp pB gcs zbF decP decE)
structure LS where
 n:Nat
 rows:List Rw
 pages:List Sv
def stp (f:LS→Rf→LS × Int):List Rf→LS→LS × Int
 |[],s=>(s,0)
 |r::rs,s=>if(f s r).2=0 then stp f rs (f s r).1 else f s r
def rdG (rd:Rf→ByteArray × Int):Nat→LS→Rf→LS × Int
 |0,s,_=>(s,61)
 |d+1,s,r=>
  if s.n=2100 then(s,61)
  else if(rd r).2=0 then
   if zbF (rd r).1=true then
    if(stp (rdG rd d) (zaQ (decP (rd r).1)) ⟨s.n+1,s.rows,s.pages⟩).2=0 then
     (⟨(stp (rdG rd d) (zaQ (decP (rd r).1)) ⟨s.n+1,s.rows,s.pages⟩).1.n,(stp (rdG rd d) (zaQ (decP (rd r).1)) ⟨s.n+1,s.rows,s.pages⟩).1.rows++(decP (rd r).1).l,(stp (rdG rd d) (zaQ (decP (rd r).1)) ⟨s.n+1,s.rows,s.pages⟩).1.pages++[⟨(rd r).1,r⟩]⟩,0)
    else stp (rdG rd d) (zaQ (decP (rd r).1)) ⟨s.n+1,s.rows,s.pages⟩
   else(⟨s.n+1,s.rows,s.pages⟩,61)
  else(⟨s.n+1,s.rows,s.pages⟩,(rd r).2)
theorem zeh {x:ByteArray} (h:zbF x=true):(decP x).l.length≤4∧(decP x).ks.length≤4∧(∀ r∈zaQ (decP x),r.p<4294967296)∧(zaQ (decP x)).length≤4:=by
 obtain⟨-,h2,h3⟩:=Rw.zk0 h;obtain⟨o1,o2,o3,o4,o5⟩:=h3
 have hk:(decP x).l.length≤4∧(decP x).ks.length≤4:=by
  rcases Rw.zfs h2 with e|e
  ·have h:=Rw.zfr e h2
   exact⟨h.2.1,by rw[h.2.2.2.2.2.2.2];exact Nat.zero_le _⟩
  ·have h:=Rw.zeb e h2
   exact⟨by rw[h.2.2.2.2.2.2.1];exact Nat.zero_le _,h.2.1⟩
 refine⟨hk.1,hk.2,fun r hr=>?_,?_⟩
 ·unfold zaQ at hr
  split at hr
  ·rw[List.mem_singleton.1 hr];exact o3
  ·exact o5 r hr
 ·unfold zaQ
  split
  ·simp
  ·exact hk.2
structure RdI (A:Pl) (f:Nat) (s:LS) (vr vp:Value) (W:World):Prop where
 self:W.heap[f]? =some (.cells #[pt A.g,.int .i64 (s.n:Int),vr,vp] 121 (0,0))
 rows:W.ownsRow (f+1) 79 4 vr s.rows.length (s.rows.flatMap rc)
 pages:W.ownsRow (f+1) 51 3 vp s.pages.length (s.pages.flatMap sc)
 ne:∀ g,vr.ownBlock=some g→vp.ownBlock≠some g
 cnt:s.n≤2100∧s.rows.length≤4*s.n∧s.pages.length≤s.n
def Ow (f:Nat) (vr vp:Value) (j:Nat):Prop:=j=f∨vr.ownBlock=some j∨vp.ownBlock=some j
theorem RdI.keep {A:Pl} {f:Nat} {s:LS} {vr vp:Value} {W W':World} (h:RdI A f s vr vp W) (hk:∀ j,j<W.heap.size→Ow f vr vp j→W'.heap[j]? =W.heap[j]?):RdI A f s vr vp W':=
 ⟨(hk f (zi h.self).1 (.inl rfl)).trans h.self,zaF h.rows fun g hg hl=>hk g hl (.inr (.inl hg)),zaF h.pages fun g hg hl=>hk g hl (.inr (.inr hg)),h.ne,h.cnt⟩
theorem RdI.lt {A:Pl} {f:Nat} {s:LS} {vr vp:Value} {W:World} (h:RdI A f s vr vp W) {j:Nat} (hj:Ow f vr vp j):f≤j∧j<W.heap.size:=by
 rcases hj with rfl|hj|hj
 ·exact⟨Nat.le_refl _,(zi h.self).1⟩
 ·have:=zat h.rows hj;omega
 ·have:=zat h.pages hj;omega
theorem zdo {w:World} {g:Nat} {a b c d:Value} {t:TypeId} {fr:Nat × Nat} (h:w.heap[g]? =some (.cells #[a,b,c,d] t fr)):w.cell? ⟨g,0,none⟩=some a∧w.cell? ⟨g,1,none⟩=some b∧w.cell? ⟨g,2,none⟩=some c∧w.cell? ⟨g,3,none⟩=some d:=
 ⟨by rw[zr h];rfl,by rw[zr h];rfl,by rw[zr h];rfl,by rw[zr h];rfl⟩
theorem zhx {W:World} {g i:Nat} {a b c d v:Value} {t:TypeId} (h:W.heap[g]? =some (.cells #[a,b,c,d] t (0,0))):(W.setCell ⟨g,i,none⟩ v).heap[g]? =some (.cells (#[a,b,c,d].setIfInBounds i v) t (0,0)):=zx W g i _ _ v h
def RP (A:Pl) (f:Nat) (vr vp:Value) (W:World) (k:LS × Int) (e:Ending) (W':World):Prop:=
 e=.returned (.int .i64 k.2)∧∃ vr' vp',RdI A f k.1 vr' vp' W'∧Grw (Ow f vr vp) (Ow f vr' vp') W W'∧But (Ow f vr vp) W W'
theorem zp4 {f:LS→Rf→LS × Int} (hf:∀ s r,s.n≤(f s r).1.n):∀ (rs:List Rf) (s:LS),s.n≤(stp f rs s).1.n
 |[],s=>Nat.le_refl _
 |r::rs,s=>by
  unfold stp;split
  ·exact Nat.le_trans (hf s r) (zp4 hf rs _)
  ·exact hf s r
theorem zp5 (rd:Rf→ByteArray × Int):∀ (d:Nat) (s:LS) (r:Rf),s.n≤(rdG rd d s r).1.n
 |0,s,_=>Nat.le_refl _
 |d+1,s,r=>by
  have h:=zp4 (zp5 rd d) (zaQ (decP (rd r).1)) ⟨s.n+1,s.rows,s.pages⟩;have h':s.n+1≤(stp (rdG rd d) (zaQ (decP (rd r).1)) ⟨s.n+1,s.rows,s.pages⟩).1.n:=h;unfold rdG;split
  ·exact Nat.le_refl _
  ·split
   ·split
    ·split
     ·show s.n≤(stp (rdG rd d) (zaQ (decP (rd r).1)) ⟨s.n+1,s.rows,s.pages⟩).1.n;omega
     ·omega
    ·exact Nat.le_succ _
   ·exact Nat.le_succ _
theorem zlK {f:LS→Rf→LS × Int} (hf:∀ s r,(f s r).1.rows.length+4*s.n≤s.rows.length+4*(f s r).1.n∧(f s r).1.pages.length+s.n≤s.pages.length+(f s r).1.n):∀ (rs:List Rf) (s:LS),(stp f rs s).1.rows.length+4*s.n≤s.rows.length+4*(stp f rs s).1.n∧(stp f rs s).1.pages.length+s.n≤s.pages.length+(stp f rs s).1.n
 |[],s=>⟨Nat.le_refl _,Nat.le_refl _⟩
 |r::rs,s=>by
  have h1:=hf s r;unfold stp;split
  ·have h2:=zlK hf rs (f s r).1
   omega
  ·exact h1
theorem zhy (rd:Rf→ByteArray × Int):∀ (d:Nat) (s:LS) (r:Rf),(rdG rd d s r).1.rows.length+4*s.n≤s.rows.length+4*(rdG rd d s r).1.n∧(rdG rd d s r).1.pages.length+s.n≤s.pages.length+(rdG rd d s r).1.n
 |0,s,_=>⟨Nat.le_refl _,Nat.le_refl _⟩
 |d+1,s,r=>by
  have h:=zlK (zhy rd d) (zaQ (decP (rd r).1)) ⟨s.n+1,s.rows,s.pages⟩;unfold rdG;generalize hK:stp (rdG rd d) (zaQ (decP (rd r).1)) ⟨s.n+1,s.rows,s.pages⟩=K at*
  simp only at h;split
  ·exact⟨Nat.le_refl _,Nat.le_refl _⟩
  ·split
   ·split
    ·rename_i hdk
     have h4:=(zeh hdk).1;split
     ·simp only[List.length_append,List.length_singleton];omega
     ·omega
    ·simp only;omega
   ·simp only;omega
def rdV (Kt:Nat→Int) (v:Vs) (t:St) (r:Rf):ByteArray × Int:=(Rv.pgS Kt v t r.p r.t,Rv.pgE Kt v t r.p r.t)
def zdF (Kt:Nat→Int) (A:Pl) (v:Vs) (t:St) (f d:Nat):Prop:=
 ∀ (s:LS) (vr vp:Value) (W:World) (r:Rf),RdI A f s vr vp W→Vlt W A v t→Rs.Tb Kt W→2100<s.n+d→r.p<4294967296→Calls Tryz.prog 59 #[pt f,fcv r] W (RP A f vr vp W (rdG (rdV Kt v t) d s r))
theorem RdI.count {A:Pl} {f:Nat} {s:LS} {vr vp:Value} {W:World} (h:RdI A f s vr vp W) (hn:s.n<2100):RdI A f ⟨s.n+1,s.rows,s.pages⟩ vr vp (W.setCell ⟨f,1,none⟩ (.int .i64 ((s.n+1:Nat):Int)))∧But (fun j=>j=f) W (W.setCell ⟨f,1,none⟩ (.int .i64 ((s.n+1:Nat):Int))):=by
 have hk:∀ j,j≠f→(W.setCell ⟨f,1,none⟩ (.int .i64 ((s.n+1:Nat):Int))).heap[j]? =W.heap[j]? :=fun j hj=>Below.heap_setCell _ _ _ _ (fun e=>hj e)
 obtain⟨h1,h2,h3⟩:=h.cnt;refine⟨⟨by have:=zhx (i:=1) (v:=.int .i64 ((s.n+1:Nat):Int)) h.self;simpa using this,zaF h.rows fun g hg hl=>hk g (by have:=(zat h.rows hg).1;omega),zaF h.pages fun g hg hl=>hk g (by have:=(zat h.pages hg).1;omega),h.ne,by simp only;omega,by simp only;omega,by simp only;omega⟩,⟨rfl,rfl,rfl,by simp[World.setCell],fun j _ hn=>hk j hn⟩⟩
theorem RdI.addRows {A:Pl} {f:Nat} {s:LS} {vr vp:Value} {W:World} (h:RdI A f s vr vp W) (hn:s.rows.length+4≤4*s.n) {o:Option Addr} {cap:Nat} {l:List Rw} (hl:zac W o cap l) (h4:l.length≤4):
  ∃ vr' W',(Builtin.append_ #[22,22] 22 #[vr,.slice o l.length cap]).run Tryz.prog W=.ok vr' W'∧W'.frozen? ⟨f,2,none⟩=false∧W'.cell? ⟨f,2,none⟩=some vr∧(∀ k,k<W.heap.size→¬Ow f vr vp k→W'.heap[k]? =W.heap[k]?)∧RdI A f ⟨s.n,s.rows++l,s.pages⟩ vr' vp (W'.setCell ⟨f,2,none⟩ vr')∧Grw (Ow f vr vp) (Ow f vr' vp) W (W'.setCell ⟨f,2,none⟩ vr')∧But (Ow f vr vp) W (W'.setCell ⟨f,2,none⟩ vr'):=by
 obtain⟨c1,c2,c3⟩:=h.cnt;have hf:=(zi h.self).1;obtain⟨vr',W',hrun,a1,a2,a3⟩:=zaV 22 79 Tryz.underlying22 ze7 rfl (by decide) (by decide) W (f+1) s.rows.length l.length vr o cap (s.rows.flatMap rc) (l.flatMap rc) h.rows (by omega) hl (zj7 l) (by omega);have hs:=a2.size;have e1:W'.heap[f]? =some (.cells #[pt A.g,.int .i64 (s.n:Int),vr,vp] 121 (0,0)):=(a2.block _ hf (fun e=>by have:=(zat h.rows e.symm).1;omega)).trans h.self;have hk:∀ j,j≠f→(W'.setCell ⟨f,2,none⟩ vr').heap[j]? =W'.heap[j]? :=fun j hj=>Below.heap_setCell _ _ _ _ (fun e=>hj e)
 have hss:(W'.setCell ⟨f,2,none⟩ vr').heap.size=W'.heap.size:=by simp[World.setCell]
 have hpg:∀ g,vp.ownBlock=some g→g<W.heap.size→(W'.setCell ⟨f,2,none⟩ vr').heap[g]? =W.heap[g]? :=fun g hg hl=>(hk g (by have:=(zat h.pages hg).1;omega)).trans (a2.block g hl fun e=>h.ne g e.symm hg)
 refine⟨vr',W',hrun,frozen_of_row W' _ _ _ _ e1,(zdo e1).2.2.1,fun k hl hn=>a2.block k hl fun e=>hn (.inr (.inl e.symm)),⟨by have:=zhx (i:=2) (v:=vr') e1;simpa using this,?_,zaF h.pages hpg,fun g hg hg2=>?_,c1,by simp only[List.length_append];omega,c3⟩,fun j hj=>?_,⟨a2.os,a2.tape,a2.output,by omega,fun j hj hn=>?_⟩⟩
 ·rw[List.length_append,List.flatMap_append]
  exact zaF a1 fun g hg _=>hk g (by have:=(zat a1 hg).1;omega)
 ·rcases a3 with a3|a3
  ·exact h.ne g (by rw[←a3];exact hg) hg2
  ·rw[a3] at hg
   cases hg;have:=(zat h.pages hg2).2;omega
 ·rcases hj with hj|hj|hj
  ·exact .inl (.inl hj)
  ·have:=(zat a1 hj).2
   rcases a3 with a3|a3
   ·exact .inl (.inr (.inl (by rw[←a3];exact hj)))
   ·rw[a3] at hj
    cases hj;exact .inr ⟨Nat.le_refl _,by omega⟩
  ·exact .inl (.inr (.inr hj))
 ·exact(hk j fun e=>hn (.inl e)).trans (a2.block j hj fun e=>hn (.inr (.inl e.symm)))
theorem RdI.addPage {A:Pl} {f:Nat} {s:LS} {vr vp:Value} {W:World} (h:RdI A f s vr vp W) (hn:s.pages.length+1≤s.n) (x:Sv) {b:Nat} (hx:W.heap[b]? =some (.cells #[.string x.t,.int .u32 (x.r.p:Int),.string x.r.t] 51 (0,0))):
  ∃ vp' W',(Builtin.append_ #[29,29] 29 #[vp,.slice (some ⟨b,0,none⟩) 1 1]).run Tryz.prog W=.ok vp' W'∧W'.frozen? ⟨f,3,none⟩=false∧W'.cell? ⟨f,3,none⟩=some vp∧(∀ k,k<W.heap.size→¬Ow f vr vp k→W'.heap[k]? =W.heap[k]?)∧RdI A f ⟨s.n,s.rows,s.pages++[x]⟩ vr vp' (W'.setCell ⟨f,3,none⟩ vp')∧Grw (Ow f vr vp) (Ow f vr vp') W (W'.setCell ⟨f,3,none⟩ vp')∧But (Ow f vr vp) W (W'.setCell ⟨f,3,none⟩ vp'):=by
 obtain⟨c1,c2,c3⟩:=h.cnt;have hf:=(zi h.self).1;obtain⟨vp',W',hrun,a1,a2,a3⟩:=zaV 29 51 Tryz.underlying29 znN rfl (by decide) (by decide) W (f+1) s.pages.length 1 vp (some ⟨b,0,none⟩) 1 (s.pages.flatMap sc) (sc x) h.pages (by omega) (znP hx) (znO x) (by omega);have hs:=a2.size;have e1:W'.heap[f]? =some (.cells #[pt A.g,.int .i64 (s.n:Int),vr,vp] 121 (0,0)):=(a2.block _ hf (fun e=>by have:=(zat h.pages e.symm).1;omega)).trans h.self;have hk:∀ j,j≠f→(W'.setCell ⟨f,3,none⟩ vp').heap[j]? =W'.heap[j]? :=fun j hj=>Below.heap_setCell _ _ _ _ (fun e=>hj e)
 have hss:(W'.setCell ⟨f,3,none⟩ vp').heap.size=W'.heap.size:=by simp[World.setCell]
 have hpg:∀ g,vr.ownBlock=some g→g<W.heap.size→(W'.setCell ⟨f,3,none⟩ vp').heap[g]? =W.heap[g]? :=fun g hg hl=>(hk g (by have:=(zat h.rows hg).1;omega)).trans (a2.block g hl fun e=>h.ne g hg e.symm)
 refine⟨vp',W',hrun,frozen_of_row W' _ _ _ _ e1,(zdo e1).2.2.2,fun k hl hn=>a2.block k hl fun e=>hn (.inr (.inr e.symm)),⟨by have:=zhx (i:=3) (v:=vp') e1;simpa using this,zaF h.rows hpg,?_,fun g hg hg2=>?_,c1,c2,by simp only[List.length_append,List.length_singleton];omega⟩,fun j hj=>?_,⟨a2.os,a2.tape,a2.output,by omega,fun j hj hn=>?_⟩⟩
 ·rw[List.length_append,List.flatMap_append,show[x].flatMap sc=sc x by simp]
  exact zaF a1 fun g hg _=>hk g (by have:=(zat a1 hg).1;omega)
 ·rcases a3 with a3|a3
  ·exact h.ne g hg (by rw[←a3];exact hg2)
  ·rw[a3] at hg2
   cases hg2;have:=(zat h.rows hg).2;omega
 ·rcases hj with hj|hj|hj
  ·exact .inl (.inl hj)
  ·exact .inl (.inr (.inl hj))
  ·have:=(zat a1 hj).2
   rcases a3 with a3|a3
   ·exact .inl (.inr (.inr (by rw[←a3];exact hj)))
   ·rw[a3] at hj
    cases hj;exact .inr ⟨Nat.le_refl _,by omega⟩
 ·exact(hk j fun e=>hn (.inl e)).trans (a2.block j hj fun e=>hn (.inr (.inr e.symm)))
end Rz
end Go.Proofs.YtokfnghckpgjmaaGreatDoor
