/- A reader: leaves. -/
import Derived.Test.YtokfnghckpgjmaaGreatDoorPPo
import Derived.Test.YtokfnghckpgjmaaGreatDoorPPk
import Derived.Test.YtokfnghckpgjmaaGreatDoorQID
import Derived.Test.YtokfnghckpgjmaaGreatDoorQGF
set_option maxRecDepth 100000
set_option maxHeartbeats 3000000
namespace Go.Proofs.YtokfnghckpgjmaaGreatDoor
namespace Rw
open Go.RowKit Go.Lib Go.Shelf
open Rc Rq
theorem ot {n:Func} {p:Tmp} (h:n.results=#[.cell p 155]) (k:Array Value) (w:World) (g:Nat) (a b c d e f i j:Value) {t:TypeId} {o:Nat × Nat}
  (q:k.getD p undef=.pointer (some ⟨g,0,none⟩)) (l:w.heap[g]? =some (.cells #[a,b,c,d,e,f,i,j] t o)):(results n k).run Tryz.prog w=.ok (.agg #[a,b,c,d,e,f,i,j]) w:=by
 have r:w.cell? ⟨g,0,none⟩=some a:=by rw[zr l];rfl
 have s:w.cell? ⟨g,1,none⟩=some b:=by rw[zr l];rfl
 have u:w.cell? ⟨g,2,none⟩=some c:=by rw[zr l];rfl
 have v:w.cell? ⟨g,3,none⟩=some d:=by rw[zr l];rfl
 have x:w.cell? ⟨g,4,none⟩=some e:=by rw[zr l];rfl
 have y:w.cell? ⟨g,5,none⟩=some f:=by rw[zr l];rfl
 have z:w.cell? ⟨g,6,none⟩=some i:=by rw[zr l];rfl
 have A:w.cell? ⟨g,7,none⟩=some j:=by rw[zr l];rfl
 simp[results,h,(by simpa using q),asAddr,go_sem,r,s,u,v,x,y,z,A]
theorem qQ (w:World) (a:Addr) (v:Value):(w.setCell a v).os=w.os:=rfl
theorem qR (w:World) (a:Addr) (v:Value):(w.setCell a v).tape=w.tape:=rfl
theorem qS (w:World) (a:Addr) (v:Value):(w.setCell a v).output=w.output:=rfl
theorem qT (w:World) (a:Addr) (v:Value):(w.setCell a v).heap.size=w.heap.size:=by simp[World.setCell]
def QT (g p:Nat) (t:ByteArray) (w:World):Prop:=w.cell? ⟨g,0,none⟩=some (.int .u32 (p:Int))∧w.cell? ⟨g,1,none⟩=some (.string t)
theorem zgb {W W':World} {B a:Nat} {v:Value} {n:Nat} {f:List Value} (j:B≤a) (h:W.ownsRow a 79 4 v n f) (k:∀ b,a≤b→b<W.heap.size→W'.heap[b]? =W.heap[b]?):W'.ownsRow B 79 4 v n f:=by
 refine⟨h.1,?_⟩;rcases h.2 with c|⟨g,d,e,l,c,i,m⟩
 ·exact .inl c
 ·exact .inr ⟨g,d,e,l,Nat.le_trans j c,(k g c (zi i).1).trans i,m⟩
def jL (st:RS):Rf:=dJ (bD st 1)
def gy (st:RS):List Rw × RS:=cO dZ eu (bU st 1) (eB (bD st 1))
theorem zmM (g:Nat) (d:RS) (w:World) (h:dC g d w):
  Calls Tryz.prog 164 #[.pointer (some ⟨g,0,none⟩)] w fun e U=>∃ q r,e=.returned (gv ⟨1,0,0,0,q,(gy d).1.length,r,none,0,0,(jL d).p,(jL d).t⟩)∧U.ownsRow w.heap.size 79 4 (.slice q (gy d).1.length r) (gy d).1.length ((gy d).1.flatMap rc)∧dC g (gy d).2 U∧Bo g w U:=by
 have D:Hid _:=jK g d 1 uo;have E:Hid _:=zkR g (bD d 1);have n1:=iQ d 1;have s:Hid _:=zhb g (eB (bD d 1)) (bU d 1) uo;have lg:=(zi h).1;unfold gy jL;obtain⟨n,V⟩:∃ n,bU d 1=n:=⟨_,rfl⟩;obtain⟨⟨p,t⟩,hf⟩:∃ f,dJ (bD d 1)=f:=⟨_,rfl⟩;obtain⟨l,hl⟩:∃ l,cO dZ eu n (eB (bD d 1))=l:=⟨_,rfl⟩;rw[V] at n1 D s ⊢;rw[hf] at E ⊢;rw[hl] at s ⊢;have F:=bF w (.cells #[.int .i64 0,.int .u32 0,.int .u32 0,.int .i64 0,.slice none 0 0,.slice none 0 0,.int .u32 0,.string ⟨#[]⟩] 155);have u:Hid ((w.alloc (.cells #[.int .i64 0,.int .u32 0,.int .u32 0,.int .i64 0,.slice none 0 0,.slice none 0 0,.int .u32 0,.string ⟨#[]⟩] 155)).heap[w.heap.size]? =some (.cells #[.int .i64 0,.int .u32 0,.int .u32 0,.int .i64 0,.slice none 0 0,.slice none 0 0,.int .u32 0,.string ⟨#[]⟩] 155 (0,0))):=zq w _
 have G:Hid _:=(F.block _ lg).trans h;have H:Hid (Bo g w (w.alloc (.cells #[.int .i64 0,.int .u32 0,.int .u32 0,.int .i64 0,.slice none 0 0,.slice none 0 0,.int .u32 0,.string ⟨#[]⟩] 155))):=bC.of_below F;obtain⟨W,x⟩:∃ W,w.alloc (.cells #[.int .i64 0,.int .u32 0,.int .u32 0,.int .i64 0,.slice none 0 0,.slice none 0 0,.int .u32 0,.string ⟨#[]⟩] 155)=W:=⟨_,rfl⟩;have X:Hid _:=x;rw[x] at u G H;clear x;have y:w.heap.size≠g:=uo
 go_enter Tryz.func164,Tryz.ntmps164;go_wp2_with fail;rw[X.o];refine(D.o W G.o).mono ?_;rintro e w1 ⟨rfl,r1,b1⟩;have Y:Hid _:=r1;have Z:Hid _:=H.o.trans b1;have I:Hid _:=(b1.block _ (zi u.o).1 y).trans u.o;go_wp2_with fail;refine(E.o w1 Y.o).mono ?_;rintro e z ⟨rfl,r2,b2⟩;simp only[dR];have a0:Hid _:=r2;have a1:Hid _:=Z.o.trans b2;have J:Hid _:=(b2.block _ (zi I.o).1 y).trans I.o;have l2:=(zi J.o).1
 have A:=bF z (.cells #[.int .u32 (p:Int),.string t] 49);have L:Hid _:=(A.block _ uo).trans a0.o;have M:Hid _:=a1.o.trans (bC.of_below A);have B:Hid _:=(A.block _ uo).trans J.o;have N:=zq z (.cells #[.int .u32 (p:Int),.string t] 49);have m:Hid _:=N;go_wp2_with fail;obtain⟨C,O⟩:∃ C,z.alloc (.cells #[.int .u32 (p:Int),.string t] 49)=C:=⟨_,rfl⟩;have a4:C.heap.size=z.heap.size+1:=by rw[←O];simp
 rw[O] at L M B m ⊢;have o:Hid _:=(oo m.o).1;refine wp_region_held (S:=QT z.heap.size p t) uk ?_;change wpAnyH _ _ _ _ _ _ _ _ (World.drew _);refine bB [0,1,2,3,4] ?_
 iterate 5
  refine bS (v:=?_) rfl ?_ o.o ?_;rotate_left
  ·rintro w ⟨e0,e1⟩;go_simp;try with_reducible rfl
  conv in(Act.put _ _ _)=>simp only[bH,bI,bJ,Act.put,bK,bL,bM]
 refine bA ?_;refine dF 5 _ uk rfl uk (fun K hK=>?_);go_simp;refine(s.o C.drew L.o).mono ?_;rintro e c ⟨v,rfl,o4,r4,b4⟩;obtain⟨q,r,rfl,-⟩:=dx o4;have a:=(b4.block _ (zi B.o).1 y).trans B.o;have P:=(b4.block _ (zi m.o).1 uo).trans m.o;obtain⟨⟨u0,u1⟩,lq⟩:=oo P;have HE:Hid (c.ownsRow C.heap.size 79 4 (.slice q l.1.length r) l.1.length (l.1.flatMap rc)∧dC g l.2 c∧Bo g w c):=⟨o4,r4,M.o.trans ((bC.of_below (Below.refl _ C).drew).trans b4)⟩;have fz:∀ k,c.frozen? ⟨w.heap.size,k,none⟩=false:=fun k=>frozen_of_row c _ k _ _ a
 have c0:c.cell? ⟨w.heap.size,0,none⟩=some (.int .i64 0):=by rw[zr a];rfl
 have c1:c.cell? ⟨w.heap.size,1,none⟩=some (.int .u32 0):=by rw[zr a];rfl
 have c2:c.cell? ⟨w.heap.size,2,none⟩=some (.int .u32 0):=by rw[zr a];rfl
 have c3:c.cell? ⟨w.heap.size,3,none⟩=some (.int .i64 0):=by rw[zr a];rfl
 have c4:c.cell? ⟨w.heap.size,4,none⟩=some (.slice none 0 0):=by rw[zr a];rfl
 have c5:c.cell? ⟨w.heap.size,5,none⟩=some (.slice none 0 0):=by rw[zr a];rfl
 have c6:c.cell? ⟨w.heap.size,6,none⟩=some (.int .u32 0):=by rw[zr a];rfl
 have c7:c.cell? ⟨w.heap.size,7,none⟩=some (.string ⟨#[]⟩):=by rw[zr a];rfl
 have a2:Hid _:=a;have a3:Hid _:=P
 replace o:Hid (QT z.heap.size p t c):=⟨u0,u1⟩
 refine hK _ _ o.o ?_;refine bB [6] ?_;refine bS (v:=?_) rfl ?_ o.o ?_;rotate_left
 ·rintro w ⟨e0,e1⟩;go_simp;try with_reducible rfl
 conv in(Act.put _ _ _)=>simp only[bH,bI,bJ,Act.put,bK,bL,bM]
 refine bA ?_;refine dF 7 _ uk rfl uk (fun K hK=>?_);have X1:=zx c w.heap.size 0 _ _ (.int .i64 1) a2.o;have X2:=zx _ w.heap.size 1 _ _ (.int .u32 0) X1;have X3:=zx _ w.heap.size 2 _ _ (.int .u32 0) X2;have X4:=zx _ w.heap.size 3 _ _ (.int .i64 0) X3;have X5:=zx _ w.heap.size 4 _ _ (.slice q l.1.length r) X4;have X6:=zx _ w.heap.size 5 _ _ (.slice none 0 0) X5;have X7:=zx _ w.heap.size 6 _ _ (.int .u32 (p:Int)) X6;have X8:=zx _ w.heap.size 7 _ _ (.string t) X7;simp only[List.setIfInBounds_toArray,List.set_cons_zero,List.set_cons_succ] at X8;have HX:Hid _:=X8
 have Q:∀ j,j≠w.heap.size→(((((((((c.setCell ⟨w.heap.size,0,none⟩ (.int .i64 1)).setCell ⟨w.heap.size,1,none⟩ (.int .u32 0)).setCell ⟨w.heap.size,2,none⟩ (.int .u32 0)).setCell ⟨w.heap.size,3,none⟩ (.int .i64 0)).setCell ⟨w.heap.size,4,none⟩ (.slice q l.1.length r)).setCell ⟨w.heap.size,5,none⟩ (.slice none 0 0)).setCell ⟨w.heap.size,6,none⟩ (.int .u32 (p:Int))).setCell ⟨w.heap.size,7,none⟩ (.string t))).heap[j]? =c.heap[j]? :=fun j i=>by
  rw[Below.heap_setCell _ _ _ _ (fun e=>i e),Below.heap_setCell _ _ _ _ (fun e=>i e),Below.heap_setCell _ _ _ _ (fun e=>i e),Below.heap_setCell _ _ _ _ (fun e=>i e),Below.heap_setCell _ _ _ _ (fun e=>i e),Below.heap_setCell _ _ _ _ (fun e=>i e),Below.heap_setCell _ _ _ _ (fun e=>i e),Below.heap_setCell _ _ _ _ (fun e=>i e)]
 have T:Hid _:=Q;go_simp;refine hK _ _ (oo ((T.o z.heap.size uo).trans a3.o)).1 ?_;refine wpAnyH_done uk ?_ _;go_wp2_with fail;refine bodyPost_ret (ot rfl _ _ w.heap.size _ _ _ _ _ _ _ _ rfl HX.o) rfl ⟨q,r,rfl,?_,(T.o g uo).trans HE.o.2.1,?_⟩
 ·exact zgb uo HE.o.1 fun b h1 h2=>T.o b uo
 ·have R:=HE.o.2.2
  exact⟨by simp only[qQ];exact R.os,by simp only[qR];exact R.tape,by simp only[qS];exact R.output,by simp only[qT];exact R.size,fun j i V=>(T.o j uo).trans (R.block j i V)⟩
theorem zgc {W W':World} {B a:Nat} {v:Value} {n:Nat} {f:List Value} (j:B≤a) (h:W.ownsRow a 49 2 v n f) (k:∀ b,a≤b→b<W.heap.size→W'.heap[b]? =W.heap[b]?):W'.ownsRow B 49 2 v n f:=by
 refine⟨h.1,?_⟩;rcases h.2 with c|⟨g,d,e,l,c,i,m⟩
 ·exact .inl c
 ·exact .inr ⟨g,d,e,l,Nat.le_trans j c,(k g c (zi i).1).trans i,m⟩
def QC (g x y l:Nat) (w:World):Prop:=w.cell? ⟨g,0,none⟩=some (.int .u32 (x:Int))∧w.cell? ⟨g,1,none⟩=some (.int .u32 (y:Int))∧w.cell? ⟨g,2,none⟩=some (.int .i64 (l:Int))
theorem tD {g x y l:Nat} {w:World} {t:TypeId} (h:w.heap[g]? =some (.cells #[.int .u32 (x:Int),.int .u32 (y:Int),.int .i64 (l:Int)] t (0,0))):QC g x y l w:=by
 refine⟨?_,?_,?_⟩<;>(rw[zr h];rfl)
def la (st:RS):Nat:=bU (bD st 1) 1
def lh (st:RS):Nat:=bU (bD (bD st 1) 1) 4
def li (st:RS):Nat:=bU (bD (bD (bD st 1) 1) 4) 4
def gz (st:RS):List Rf × RS:=cO dJ eB (bU st 1) (bD (bD (bD (bD st 1) 1) 4) 4)
theorem zkS (g:Nat) (st:RS) (w:World) (h:dC g st w):
  Calls Tryz.prog 165 #[.pointer (some ⟨g,0,none⟩)] w fun e w'=>∃ ro ca,e=.returned (gv ⟨2,lh st,li st,(la st:Int),none,0,0,ro,(gz st).1.length,ca,0,⟨#[]⟩⟩)∧w'.ownsRow w.heap.size 49 2 (.slice ro (gz st).1.length ca) (gz st).1.length ((gz st).1.flatMap fc)∧dC g (gz st).2 w'∧Bo g w w':=by
 have HN1:Hid _:=jK g st 1 uo;have HN2:Hid _:=jK g (bD st 1) 1 uo;have HN3:Hid _:=jK g (bD (bD st 1) 1) 4 uo;have HN4:Hid _:=jK g (bD (bD (bD st 1) 1) 4) 4 uo;have n1:=iQ st 1;have n2:=iQ (bD st 1) 1;have n3:=iQ (bD (bD st 1) 1) 4;have n4:=iQ (bD (bD (bD st 1) 1) 4) 4;simp only[Nat.reduceMul,Nat.reducePow] at n1 n2 n3 n4;have HLS:Hid _:=zhd g (bD (bD (bD (bD st 1) 1) 4) 4) (bU st 1) uo;have lg:g<w.heap.size:=(zi h).1;unfold gz la lh li;obtain⟨n,hn⟩:∃ n,bU st 1=n:=⟨_,rfl⟩;obtain⟨l,hl⟩:∃ l,bU (bD st 1) 1=l:=⟨_,rfl⟩;obtain⟨x,hx⟩:∃ x,bU (bD (bD st 1) 1) 4=x:=⟨_,rfl⟩;obtain⟨y,hy⟩:∃ y,bU (bD (bD (bD st 1) 1) 4) 4=y:=⟨_,rfl⟩;obtain⟨L,hL⟩:∃ L,cO dJ eB n (bD (bD (bD (bD st 1) 1) 4) 4)=L:=⟨_,rfl⟩;rw[hn] at n1 HN1 HLS ⊢;rw[hl] at n2 HN2 ⊢
 rw[hx] at n3 HN3 ⊢;rw[hy] at n4 HN4 ⊢;rw[hL] at HLS ⊢;have q1:IntKind.u32.wrap (x:Int)=(x:Int):=IntWalk.u32_in _ ⟨by omega,by omega⟩;have q2:IntKind.u32.wrap (y:Int)=(y:Int):=IntWalk.u32_in _ ⟨by omega,by omega⟩;have q3:IntKind.i64.wrap (l:Int)=(l:Int):=wrap_i64 uo uo;have hbn:=bF w (.cells #[.int .i64 0,.int .u32 0,.int .u32 0,.int .i64 0,.slice none 0 0,.slice none 0 0,.int .u32 0,.string ⟨#[]⟩] 155);have HG0:Hid ((w.alloc (.cells #[.int .i64 0,.int .u32 0,.int .u32 0,.int .i64 0,.slice none 0 0,.slice none 0 0,.int .u32 0,.string ⟨#[]⟩] 155)).heap[w.heap.size]? =some (.cells #[.int .i64 0,.int .u32 0,.int .u32 0,.int .i64 0,.slice none 0 0,.slice none 0 0,.int .u32 0,.string ⟨#[]⟩] 155 (0,0))):=zq w _;have HR0:Hid (dC g st (w.alloc (.cells #[.int .i64 0,.int .u32 0,.int .u32 0,.int .i64 0,.slice none 0 0,.slice none 0 0,.int .u32 0,.string ⟨#[]⟩] 155))):=(hbn.block _ lg).trans h
 have HB0:Hid (Bo g w (w.alloc (.cells #[.int .i64 0,.int .u32 0,.int .u32 0,.int .i64 0,.slice none 0 0,.slice none 0 0,.int .u32 0,.string ⟨#[]⟩] 155))):=bC.of_below hbn;clear h hbn hn hl hx hy hL;obtain⟨W0,hW0⟩:∃ W0,w.alloc (.cells #[.int .i64 0,.int .u32 0,.int .u32 0,.int .i64 0,.slice none 0 0,.slice none 0 0,.int .u32 0,.string ⟨#[]⟩] 155)=W0:=⟨_,rfl⟩;have HW0:Hid _:=hW0;rw[hW0] at HG0 HR0 HB0;clear hW0;have hng:w.heap.size≠g:=uo
 go_enter Tryz.func165,Tryz.ntmps165;go_wp2_with fail;rw[HW0.o];clear HW0;refine(HN1.o W0 HR0.o).mono ?_;rintro e w1 ⟨rfl,r1,b1⟩;have HR1:Hid (dC g (bD st 1) w1):=r1;have HB1:Hid (Bo g w w1):=HB0.o.trans b1;have HG1:Hid (w1.heap[w.heap.size]? =some (.cells #[.int .i64 0,.int .u32 0,.int .u32 0,.int .i64 0,.slice none 0 0,.slice none 0 0,.int .u32 0,.string ⟨#[]⟩] 155 (0,0))):=(b1.block _ (zi HG0.o).1 hng).trans HG0.o;clear r1 b1 HR0 HB0 HG0;go_wp2_with fail;refine(HN2.o w1 HR1.o).mono ?_;rintro e w2 ⟨rfl,r1,b1⟩;have HR2:Hid (dC g (bD (bD st 1) 1) w2):=r1;have HB2:Hid (Bo g w w2):=HB1.o.trans b1;have HG2:Hid (w2.heap[w.heap.size]? =some (.cells #[.int .i64 0,.int .u32 0,.int .u32 0,.int .i64 0,.slice none 0 0,.slice none 0 0,.int .u32 0,.string ⟨#[]⟩] 155 (0,0))):=(b1.block _ (zi HG1.o).1 hng).trans HG1.o;clear r1 b1 HR1 HB1 HG1;go_wp2_with fail;refine(HN3.o w2 HR2.o).mono ?_
 rintro e w3 ⟨rfl,r1,b1⟩;have HR3:Hid (dC g (bD (bD (bD st 1) 1) 4) w3):=r1;have HB3:Hid (Bo g w w3):=HB2.o.trans b1;have HG3:Hid (w3.heap[w.heap.size]? =some (.cells #[.int .i64 0,.int .u32 0,.int .u32 0,.int .i64 0,.slice none 0 0,.slice none 0 0,.int .u32 0,.string ⟨#[]⟩] 155 (0,0))):=(b1.block _ (zi HG2.o).1 hng).trans HG2.o;clear r1 b1 HR2 HB2 HG2;go_wp2_with fail;refine(HN4.o w3 HR3.o).mono ?_;rintro e w4 ⟨rfl,r1,b1⟩;have HR4:Hid (dC g (bD (bD (bD (bD st 1) 1) 4) 4) w4):=r1;have HB4:Hid (Bo g w w4):=HB3.o.trans b1;have HG4:Hid (w4.heap[w.heap.size]? =some (.cells #[.int .i64 0,.int .u32 0,.int .u32 0,.int .i64 0,.slice none 0 0,.slice none 0 0,.int .u32 0,.string ⟨#[]⟩] 155 (0,0))):=(b1.block _ (zi HG3.o).1 hng).trans HG3.o;clear r1 b1 HR3 HB3 HG3;have l4:w.heap.size<w4.heap.size:=(zi HG4.o).1;have hbx:=bF w4 (.cells #[.int .u32 (x:Int),.int .u32 (y:Int),.int .i64 (l:Int)] 70)
 have HR5:Hid (dC g (bD (bD (bD (bD st 1) 1) 4) 4) (w4.alloc (.cells #[.int .u32 (x:Int),.int .u32 (y:Int),.int .i64 (l:Int)] 70))):=(hbx.block _ uo).trans HR4.o;have HB5:Hid (Bo g w (w4.alloc (.cells #[.int .u32 (x:Int),.int .u32 (y:Int),.int .i64 (l:Int)] 70))):=HB4.o.trans (bC.of_below hbx);have HG5:Hid ((w4.alloc (.cells #[.int .u32 (x:Int),.int .u32 (y:Int),.int .i64 (l:Int)] 70)).heap[w.heap.size]? =some (.cells #[.int .i64 0,.int .u32 0,.int .u32 0,.int .i64 0,.slice none 0 0,.slice none 0 0,.int .u32 0,.string ⟨#[]⟩] 155 (0,0))):=(hbx.block _ uo).trans HG4.o;have hq5:=zq w4 (.cells #[.int .u32 (x:Int),.int .u32 (y:Int),.int .i64 (l:Int)] 70);have HQ5:Hid _:=hq5;clear HR4 HB4 HG4 hbx hq5;go_wp2_with fail;obtain⟨W5,hW5⟩:∃ W5,w4.alloc (.cells #[.int .u32 (x:Int),.int .u32 (y:Int),.int .i64 (l:Int)] 70)=W5:=⟨_,rfl⟩;have hs5:W5.heap.size=w4.heap.size+1:=by rw[←hW5];simp
 rw[hW5] at HR5 HB5 HG5 HQ5 ⊢;have HSW:Hid (QC w4.heap.size x y l W5.drew):=tD HQ5.o;refine wp_region_held (S:=QC w4.heap.size x y l) uk ?_;change wpAnyH _ _ _ _ _ _ _ _ (World.drew _);refine bB [0,1,2,3,4] ?_
 iterate 5
  refine bS (v:=?_) rfl ?_ HSW.o ?_;rotate_left
  ·rintro w ⟨e0,e1,e2⟩;go_simp;try with_reducible rfl
  conv in(Act.put _ _ _)=>simp only[bH,bI,bJ,Act.put,bK,bL,bM]
 refine bA ?_;refine dF 5 _ uk rfl uk (fun K hK=>?_);go_simp;refine(HLS.o W5.drew HR5.o).mono ?_;rintro e w6 ⟨v,rfl,o6,r6,b6⟩;obtain⟨ro,ca,rfl,-⟩:=dx o6;have hg6:=(b6.block _ (zi HG5.o).1 hng).trans HG5.o;have hq6:=(b6.block _ (zi HQ5.o).1 uo).trans HQ5.o;have HE:Hid (w6.ownsRow W5.heap.size 49 2 (.slice ro L.1.length ca) L.1.length (L.1.flatMap fc)∧dC g L.2 w6∧Bo g w w6):=⟨o6,r6,HB5.o.trans ((bC.of_below (Below.refl _ W5).drew).trans b6)⟩;have l6:w.heap.size<w6.heap.size:=(zi hg6).1;have fz:∀ k,w6.frozen? ⟨w.heap.size,k,none⟩=false:=fun k=>frozen_of_row w6 _ k _ _ hg6
 have f0:=fz 0;have f1:=fz 1;have f2:=fz 2;have f3:=fz 3;have f4:=fz 4;have f5:=fz 5;have f6:=fz 6;have f7:=fz 7;have c0:w6.cell? ⟨w.heap.size,0,none⟩=some (.int .i64 0):=by rw[zr hg6];rfl
 have c1:w6.cell? ⟨w.heap.size,1,none⟩=some (.int .u32 0):=by rw[zr hg6];rfl
 have c2:w6.cell? ⟨w.heap.size,2,none⟩=some (.int .u32 0):=by rw[zr hg6];rfl
 have c3:w6.cell? ⟨w.heap.size,3,none⟩=some (.int .i64 0):=by rw[zr hg6];rfl
 have c4:w6.cell? ⟨w.heap.size,4,none⟩=some (.slice none 0 0):=by rw[zr hg6];rfl
 have c5:w6.cell? ⟨w.heap.size,5,none⟩=some (.slice none 0 0):=by rw[zr hg6];rfl
 have c6:w6.cell? ⟨w.heap.size,6,none⟩=some (.int .u32 0):=by rw[zr hg6];rfl
 have c7:w6.cell? ⟨w.heap.size,7,none⟩=some (.string ⟨#[]⟩):=by rw[zr hg6];rfl
 have HG6:Hid _:=hg6;have HQ6:Hid _:=hq6
 replace HSW:Hid (QC w4.heap.size x y l w6):=tD hq6
 refine hK _ _ HSW.o ?_;clear hK K;refine bB [6] ?_;refine bS (v:=?_) rfl ?_ HSW.o ?_;rotate_left
 ·rintro w ⟨e0,e1,e2⟩;go_simp;try with_reducible rfl
 conv in(Act.put _ _ _)=>simp only[bH,bI,bJ,Act.put,bK,bL,bM]
 refine bA ?_;refine dF 7 _ uk rfl uk (fun K hK=>?_);clear r6 b6 o6 hg6 hq6 fz HR5 HB5 HG5 HQ5;have X1:=zx w6 w.heap.size 0 _ _ (.int .i64 2) HG6.o;have X2:=zx _ w.heap.size 1 _ _ (.int .u32 (x:Int)) X1;have X3:=zx _ w.heap.size 2 _ _ (.int .u32 (y:Int)) X2;have X4:=zx _ w.heap.size 3 _ _ (.int .i64 (l:Int)) X3;have X5:=zx _ w.heap.size 4 _ _ (.slice none 0 0) X4;have X6:=zx _ w.heap.size 5 _ _ (.slice ro L.1.length ca) X5;have X7:=zx _ w.heap.size 6 _ _ (.int .u32 0) X6;have X8:=zx _ w.heap.size 7 _ _ (.string ⟨#[]⟩) X7;simp only[List.setIfInBounds_toArray,List.set_cons_zero,List.set_cons_succ] at X8;have HX:Hid _:=X8
 have hoth:∀ j,j≠w.heap.size→(((((((((w6.setCell ⟨w.heap.size,0,none⟩ (.int .i64 2)).setCell ⟨w.heap.size,1,none⟩ (.int .u32 (x:Int))).setCell ⟨w.heap.size,2,none⟩ (.int .u32 (y:Int))).setCell ⟨w.heap.size,3,none⟩ (.int .i64 (l:Int))).setCell ⟨w.heap.size,4,none⟩ (.slice none 0 0)).setCell ⟨w.heap.size,5,none⟩ (.slice ro L.1.length ca)).setCell ⟨w.heap.size,6,none⟩ (.int .u32 0)).setCell ⟨w.heap.size,7,none⟩ (.string ⟨#[]⟩))).heap[j]? =w6.heap[j]? :=fun j hj=>by
  rw[Below.heap_setCell _ _ _ _ (fun e=>hj e),Below.heap_setCell _ _ _ _ (fun e=>hj e),Below.heap_setCell _ _ _ _ (fun e=>hj e),Below.heap_setCell _ _ _ _ (fun e=>hj e),Below.heap_setCell _ _ _ _ (fun e=>hj e),Below.heap_setCell _ _ _ _ (fun e=>hj e),Below.heap_setCell _ _ _ _ (fun e=>hj e),Below.heap_setCell _ _ _ _ (fun e=>hj e)]
 have HO:Hid _:=hoth;clear X1 X2 X3 X4 X5 X6 X7 X8 hoth;go_simp;refine hK _ _ (tD ((HO.o w4.heap.size uo).trans HQ6.o)) ?_;refine wpAnyH_done uk ?_ _;go_wp2_with fail;refine bodyPost_ret (ot rfl _ _ w.heap.size _ _ _ _ _ _ _ _ rfl HX.o) rfl ⟨ro,ca,rfl,?_,(HO.o g uo).trans HE.o.2.1,?_⟩
 ·exact zgc uo HE.o.1 fun b h1 h2=>HO.o b uo
 ·have hb:=HE.o.2.2
  exact⟨by simp only[qQ];exact hb.os,by simp only[qR];exact hb.tape,by simp only[qS];exact hb.output,by simp only[qT];exact hb.size,fun j hj hn=>(HO.o j uo).trans (hb.block j hj hn)⟩
def qU (st:RS) (base:Nat) (q:Pg) (w:World):Prop:=
 (bU st 1=1∧∃ ro ca,q=⟨1,0,0,0,ro,(gy (bD st 1)).1.length,ca,none,0,0,(jL (bD st 1)).p,(jL (bD st 1)).t⟩∧w.ownsRow base 79 4 (.slice ro (gy (bD st 1)).1.length ca) (gy (bD st 1)).1.length ((gy (bD st 1)).1.flatMap rc))∨
 (bU st 1=2∧∃ ro ca,q=⟨2,lh (bD st 1),li (bD st 1),(la (bD st 1):Int),none,0,0,ro,(gz (bD st 1)).1.length,ca,0,⟨#[]⟩⟩∧w.ownsRow base 49 2 (.slice ro (gz (bD st 1)).1.length ca) (gz (bD st 1)).1.length ((gz (bD st 1)).1.flatMap fc))∨
 (bU st 1≠1∧bU st 1≠2∧q=⟨0,0,0,0,none,0,0,none,0,0,0,⟨#[]⟩⟩)
def eP (st:RS):RS:=if bU st 1=1 then(gy (bD st 1)).2 else if bU st 1=2 then(gz (bD st 1)).2 else bD st 1
theorem qV (g:Nat) (st:RS) (w:World) (h:dC g st w):
  Calls Tryz.prog 119 #[.pointer (some ⟨g,0,none⟩)] w fun e w'=>∃ q,e=.returned (gv q)∧qU st w.heap.size q w'∧dC g (eP st) w'∧Bo g w w':=by
 have HN1:Hid _:=jK g st 1 uo;have HLF:Hid _:=zmM g (bD st 1);have HIN:Hid _:=zkS g (bD st 1);have lg:g<w.heap.size:=(zi h).1;have H0:Hid (dC g st w):=h;clear h;unfold eP qU;obtain⟨n,hn⟩:∃ n,bU st 1=n:=⟨_,rfl⟩;rw[hn] at HN1 ⊢;clear hn;obtain⟨p,hp⟩:∃ p,(jL (bD st 1)).p=p:=⟨_,rfl⟩;obtain⟨t,ht⟩:∃ t,(jL (bD st 1)).t=t:=⟨_,rfl⟩;rw[hp,ht] at HLF ⊢;obtain⟨x,hx⟩:∃ x,lh (bD st 1)=x:=⟨_,rfl⟩;obtain⟨y,hy⟩:∃ y,li (bD st 1)=y:=⟨_,rfl⟩;obtain⟨c,hc⟩:∃ c,la (bD st 1)=c:=⟨_,rfl⟩;rw[hx,hy,hc] at HIN ⊢;obtain⟨LL,hLL⟩:∃ LL,gy (bD st 1)=LL:=⟨_,rfl⟩;rw[hLL] at HLF ⊢;obtain⟨LI,hLI⟩:∃ LI,gz (bD st 1)=LI:=⟨_,rfl⟩;rw[hLI] at HIN ⊢;obtain⟨M,hM⟩:∃ M,LL.1.length=M:=⟨_,rfl⟩;rw[hM] at HLF ⊢;obtain⟨MI,hMI⟩:∃ MI,LI.1.length=MI:=⟨_,rfl⟩;rw[hMI] at HIN ⊢;clear hp ht hx hy hc hLL hLI hM hMI;have hbn:=bF w (.cells #[.int .i64 0,.int .u32 0,.int .u32 0,.int .i64 0,.slice none 0 0,.slice none 0 0,.int .u32 0,.string ⟨#[]⟩] 155)
 have HG0:Hid ((w.alloc (.cells #[.int .i64 0,.int .u32 0,.int .u32 0,.int .i64 0,.slice none 0 0,.slice none 0 0,.int .u32 0,.string ⟨#[]⟩] 155)).heap[w.heap.size]? =some (.cells #[.int .i64 0,.int .u32 0,.int .u32 0,.int .i64 0,.slice none 0 0,.slice none 0 0,.int .u32 0,.string ⟨#[]⟩] 155 (0,0))):=zq w _;have HR0:Hid (dC g st (w.alloc (.cells #[.int .i64 0,.int .u32 0,.int .u32 0,.int .i64 0,.slice none 0 0,.slice none 0 0,.int .u32 0,.string ⟨#[]⟩] 155))):=(hbn.block _ lg).trans H0.o;have HB0:Hid (Bo g w (w.alloc (.cells #[.int .i64 0,.int .u32 0,.int .u32 0,.int .i64 0,.slice none 0 0,.slice none 0 0,.int .u32 0,.string ⟨#[]⟩] 155))):=bC.of_below hbn;clear H0 hbn;obtain⟨W0,hW0⟩:∃ W0,w.alloc (.cells #[.int .i64 0,.int .u32 0,.int .u32 0,.int .i64 0,.slice none 0 0,.slice none 0 0,.int .u32 0,.string ⟨#[]⟩] 155)=W0:=⟨_,rfl⟩;have HW0:Hid _:=hW0;rw[hW0] at HG0 HR0 HB0;clear hW0;have hng:w.heap.size≠g:=uo
 go_enter Tryz.func119,Tryz.ntmps119;go_wp2_with fail;rw[HW0.o];clear HW0;refine(HN1.o W0 HR0.o).mono ?_;rintro e w1 ⟨rfl,r1,b1⟩;have HR1:Hid (dC g (bD st 1) w1):=r1;have HB1:Hid (Bo g w w1):=HB0.o.trans b1;have HG1:Hid (w1.heap[w.heap.size]? =some (.cells #[.int .i64 0,.int .u32 0,.int .u32 0,.int .i64 0,.slice none 0 0,.slice none 0 0,.int .u32 0,.string ⟨#[]⟩] 155 (0,0))):=(b1.block _ (zi HG0.o).1 hng).trans HG0.o;have l1:w.heap.size<w1.heap.size:=(zi HG1.o).1;clear r1 b1 HR0 HB0 HG0;by_cases h1:n=1
 ·subst h1
  go_wp2_with fail;refine(HLF.o w1 HR1.o).mono ?_;rintro e w6 ⟨ro,ca,rfl,o6,r6,b6⟩;simp only[gv];have hg6:=(b6.block _ l1 hng).trans HG1.o;have HE:Hid (Bo g w w6):=HB1.o.trans b6;have HOW:Hid (w6.ownsRow w1.heap.size 79 4 (.slice ro M ca) M (LL.1.flatMap rc)):=o6;have HRW:Hid (dC g LL.2 w6):=r6;clear o6 r6 b6 HR1 HB1 HG1;have l6:w.heap.size<w6.heap.size:=(zi hg6).1;have fz:∀ k,w6.frozen? ⟨w.heap.size,k,none⟩=false:=fun k=>frozen_of_row w6 _ k _ _ hg6
  have f0:=fz 0;have f1:=fz 1;have f2:=fz 2;have f3:=fz 3;have f4:=fz 4;have f5:=fz 5;have f6:=fz 6;have f7:=fz 7;obtain⟨z0,c0⟩:∃ z,w6.cell? ⟨w.heap.size,0,none⟩=some z:=⟨.int .i64 0,by rw[zr hg6];rfl⟩;obtain⟨z1,c1⟩:∃ z,w6.cell? ⟨w.heap.size,1,none⟩=some z:=⟨.int .u32 0,by rw[zr hg6];rfl⟩;obtain⟨z2,c2⟩:∃ z,w6.cell? ⟨w.heap.size,2,none⟩=some z:=⟨.int .u32 0,by rw[zr hg6];rfl⟩;obtain⟨z3,c3⟩:∃ z,w6.cell? ⟨w.heap.size,3,none⟩=some z:=⟨.int .i64 0,by rw[zr hg6];rfl⟩;obtain⟨z4,c4⟩:∃ z,w6.cell? ⟨w.heap.size,4,none⟩=some z:=⟨.slice none 0 0,by rw[zr hg6];rfl⟩;obtain⟨z5,c5⟩:∃ z,w6.cell? ⟨w.heap.size,5,none⟩=some z:=⟨.slice none 0 0,by rw[zr hg6];rfl⟩;obtain⟨z6,c6⟩:∃ z,w6.cell? ⟨w.heap.size,6,none⟩=some z:=⟨.int .u32 0,by rw[zr hg6];rfl⟩;obtain⟨z7,c7⟩:∃ z,w6.cell? ⟨w.heap.size,7,none⟩=some z:=⟨.string ⟨#[]⟩,by rw[zr hg6];rfl⟩;have X1:=zx w6 w.heap.size 0 _ _ (.int .i64 1) hg6;have X2:=zx _ w.heap.size 1 _ _ (.int .u32 0) X1
  have X3:=zx _ w.heap.size 2 _ _ (.int .u32 0) X2;have X4:=zx _ w.heap.size 3 _ _ (.int .i64 0) X3;have X5:=zx _ w.heap.size 4 _ _ (.slice ro M ca) X4;have X6:=zx _ w.heap.size 5 _ _ (.slice none 0 0) X5;have X7:=zx _ w.heap.size 6 _ _ (.int .u32 (p:Int)) X6;have X8:=zx _ w.heap.size 7 _ _ (.string t) X7;simp only[List.setIfInBounds_toArray,List.set_cons_zero,List.set_cons_succ] at X8;have HX:Hid _:=X8
  have hoth:∀ j,j≠w.heap.size→(((((((((w6.setCell ⟨w.heap.size,0,none⟩ (.int .i64 1)).setCell ⟨w.heap.size,1,none⟩ (.int .u32 0)).setCell ⟨w.heap.size,2,none⟩ (.int .u32 0)).setCell ⟨w.heap.size,3,none⟩ (.int .i64 0)).setCell ⟨w.heap.size,4,none⟩ (.slice ro M ca)).setCell ⟨w.heap.size,5,none⟩ (.slice none 0 0)).setCell ⟨w.heap.size,6,none⟩ (.int .u32 (p:Int))).setCell ⟨w.heap.size,7,none⟩ (.string t))).heap[j]? =w6.heap[j]? :=fun j hj=>by
   rw[Below.heap_setCell _ _ _ _ (fun e=>hj e),Below.heap_setCell _ _ _ _ (fun e=>hj e),Below.heap_setCell _ _ _ _ (fun e=>hj e),Below.heap_setCell _ _ _ _ (fun e=>hj e),Below.heap_setCell _ _ _ _ (fun e=>hj e),Below.heap_setCell _ _ _ _ (fun e=>hj e),Below.heap_setCell _ _ _ _ (fun e=>hj e),Below.heap_setCell _ _ _ _ (fun e=>hj e)]
  have HO:Hid _:=hoth;clear X1 X2 X3 X4 X5 X6 X7 X8 hoth hg6 fz;go_wp2_with fail;refine bodyPost_ret (ot rfl _ _ w.heap.size _ _ _ _ _ _ _ _ rfl HX.o) rfl ⟨⟨1,0,0,0,ro,M,ca,none,0,0,p,t⟩,rfl,?_,?_,?_⟩
  ·exact⟨ro,ca,rfl,zgb uo HOW.o fun b h1 h2=>HO.o b uo⟩
  ·exact(HO.o g uo).trans HRW.o
  ·have hb:=HE.o
   exact⟨by simp only[qQ];exact hb.os,by simp only[qR];exact hb.tape,by simp only[qS];exact hb.output,by simp only[qT];exact hb.size,fun j hj hn=>(HO.o j uo).trans (hb.block j hj hn)⟩
 ·by_cases h2:n=2
  ·subst h2
   go_wp2_with fail;refine(HIN.o w1 HR1.o).mono ?_;rintro e w6 ⟨ro,ca,rfl,o6,r6,b6⟩;simp only[gv];have hg6:=(b6.block _ l1 hng).trans HG1.o;have HE:Hid (Bo g w w6):=HB1.o.trans b6;have HOW:Hid (w6.ownsRow w1.heap.size 49 2 (.slice ro MI ca) MI (LI.1.flatMap fc)):=o6;have HRW:Hid (dC g LI.2 w6):=r6;clear o6 r6 b6 HR1 HB1 HG1;have l6:w.heap.size<w6.heap.size:=(zi hg6).1;have fz:∀ k,w6.frozen? ⟨w.heap.size,k,none⟩=false:=fun k=>frozen_of_row w6 _ k _ _ hg6
   have f0:=fz 0;have f1:=fz 1;have f2:=fz 2;have f3:=fz 3;have f4:=fz 4;have f5:=fz 5;have f6:=fz 6;have f7:=fz 7;obtain⟨z0,c0⟩:∃ z,w6.cell? ⟨w.heap.size,0,none⟩=some z:=⟨.int .i64 0,by rw[zr hg6];rfl⟩;obtain⟨z1,c1⟩:∃ z,w6.cell? ⟨w.heap.size,1,none⟩=some z:=⟨.int .u32 0,by rw[zr hg6];rfl⟩;obtain⟨z2,c2⟩:∃ z,w6.cell? ⟨w.heap.size,2,none⟩=some z:=⟨.int .u32 0,by rw[zr hg6];rfl⟩;obtain⟨z3,c3⟩:∃ z,w6.cell? ⟨w.heap.size,3,none⟩=some z:=⟨.int .i64 0,by rw[zr hg6];rfl⟩;obtain⟨z4,c4⟩:∃ z,w6.cell? ⟨w.heap.size,4,none⟩=some z:=⟨.slice none 0 0,by rw[zr hg6];rfl⟩;obtain⟨z5,c5⟩:∃ z,w6.cell? ⟨w.heap.size,5,none⟩=some z:=⟨.slice none 0 0,by rw[zr hg6];rfl⟩;obtain⟨z6,c6⟩:∃ z,w6.cell? ⟨w.heap.size,6,none⟩=some z:=⟨.int .u32 0,by rw[zr hg6];rfl⟩;obtain⟨z7,c7⟩:∃ z,w6.cell? ⟨w.heap.size,7,none⟩=some z:=⟨.string ⟨#[]⟩,by rw[zr hg6];rfl⟩;have X1:=zx w6 w.heap.size 0 _ _ (.int .i64 2) hg6;have X2:=zx _ w.heap.size 1 _ _ (.int .u32 (x:Int)) X1
   have X3:=zx _ w.heap.size 2 _ _ (.int .u32 (y:Int)) X2;have X4:=zx _ w.heap.size 3 _ _ (.int .i64 (c:Int)) X3;have X5:=zx _ w.heap.size 4 _ _ (.slice none 0 0) X4;have X6:=zx _ w.heap.size 5 _ _ (.slice ro MI ca) X5;have X7:=zx _ w.heap.size 6 _ _ (.int .u32 0) X6;have X8:=zx _ w.heap.size 7 _ _ (.string ⟨#[]⟩) X7;simp only[List.setIfInBounds_toArray,List.set_cons_zero,List.set_cons_succ] at X8;have HX:Hid _:=X8
   have hoth:∀ j,j≠w.heap.size→(((((((((w6.setCell ⟨w.heap.size,0,none⟩ (.int .i64 2)).setCell ⟨w.heap.size,1,none⟩ (.int .u32 (x:Int))).setCell ⟨w.heap.size,2,none⟩ (.int .u32 (y:Int))).setCell ⟨w.heap.size,3,none⟩ (.int .i64 (c:Int))).setCell ⟨w.heap.size,4,none⟩ (.slice none 0 0)).setCell ⟨w.heap.size,5,none⟩ (.slice ro MI ca)).setCell ⟨w.heap.size,6,none⟩ (.int .u32 0)).setCell ⟨w.heap.size,7,none⟩ (.string ⟨#[]⟩))).heap[j]? =w6.heap[j]? :=fun j hj=>by
    rw[Below.heap_setCell _ _ _ _ (fun e=>hj e),Below.heap_setCell _ _ _ _ (fun e=>hj e),Below.heap_setCell _ _ _ _ (fun e=>hj e),Below.heap_setCell _ _ _ _ (fun e=>hj e),Below.heap_setCell _ _ _ _ (fun e=>hj e),Below.heap_setCell _ _ _ _ (fun e=>hj e),Below.heap_setCell _ _ _ _ (fun e=>hj e),Below.heap_setCell _ _ _ _ (fun e=>hj e)]
   have HO:Hid _:=hoth;clear X1 X2 X3 X4 X5 X6 X7 X8 hoth hg6 fz;go_wp2_with fail;refine bodyPost_ret (ot rfl _ _ w.heap.size _ _ _ _ _ _ _ _ rfl HX.o) rfl ⟨⟨2,x,y,(c:Int),none,0,0,ro,MI,ca,0,⟨#[]⟩⟩,rfl,?_,?_,?_⟩
   ·exact⟨ro,ca,rfl,zgc uo HOW.o fun b h1 h2=>HO.o b uo⟩
   ·exact(HO.o g uo).trans HRW.o
   ·have hb:=HE.o
    exact⟨by simp only[qQ];exact hb.os,by simp only[qR];exact hb.tape,by simp only[qS];exact hb.output,by simp only[qT];exact hb.size,fun j hj hn=>(HO.o j uo).trans (hb.block j hj hn)⟩
  ·clear HLF HIN HN1
   have g1:¬(n:Int)=1:=uo
   have g2:¬(n:Int)=2:=uo
   have HS:Hid (w1.setRow w.heap.size #[.int .i64 0,.int .u32 0,.int .u32 0,.int .i64 0,.slice none 0 0,.slice none 0 0,.int .u32 0,.string ⟨#[]⟩]=w1):=setRow_self w1 _ _ _ _ HG1.o;have hi:(Tryz.prog.info? 155).map (·.size)=some 8:=uk
   have HI:Hid _:=hi;clear hi
   go_wp2_with (refine wpList_store_row rfl 155 (.tmp 2) (.tmp 13) rfl w.heap.size #[.int .i64 0,.int .u32 0,.int .u32 0,.int .i64 0,.slice none 0 0,.slice none 0 0,.int .u32 0,.string ⟨#[]⟩] (by rfl) (by rfl) 155 #[.int .i64 0,.int .u32 0,.int .u32 0,.int .i64 0,.slice none 0 0,.slice none 0 0,.int .u32 0,.string ⟨#[]⟩] HG1.o HI.o (by rfl) uk ?_;rw[HS.o])
   refine bodyPost_ret (ot rfl _ _ w.heap.size _ _ _ _ _ _ _ _ rfl HG1.o) rfl ⟨⟨0,0,0,0,none,0,0,none,0,0,0,⟨#[]⟩⟩,rfl,?_,?_,?_⟩
   ·rfl
   ·exact HR1.o
   ·exact HB1.o
structure Pp where
 k:Int
 X:Nat
 Y:Nat
 L:Int
 l:List Rw
 ks:List Rf
 np:Nat
 nt:ByteArray
def pz:Pp:=⟨0,0,0,0,[],[],0,⟨#[]⟩⟩
def rpp (P:Pp):Bool:=jY ⟨P.k,P.X,P.Y,P.L,none,P.l.length,0,none,P.ks.length,0,P.np,P.nt⟩ P.l P.ks
structure dt (w:World) (q:Pg) (P:Pp):Prop where
 k:q.k=P.k
 X:q.X=P.X
 Y:q.Y=P.Y
 L:q.L=P.L
 np:q.np=P.np
 nt:q.nt=P.nt
 at':eG w q P.l P.ks
theorem dt.below {w w':World} {q:Pg} {P:Pp} {B:Nat} (h:dt w q P) (hb:Below B w w') (hB:w.heap.size≤B):dt w' q P:=⟨h.k,h.X,h.Y,h.L,h.np,h.nt,h.at'.below hb hB⟩
theorem dt.rpp {w:World} {q:Pg} {P:Pp} (h:dt w q P):jY q P.l P.ks=rpp P:=by
 unfold Rw.rpp jY kR kS;simp only[h.k,h.X,h.Y,h.L,h.np,h.nt,h.at'.rn,h.at'.kn]
theorem zoL (q:Pg) (P:Pp) (w:World) (h:dt w q P):
  Calls Tryz.prog 120 #[gv q] w fun e w'=>e=.returned (.bool (rpp P))∧Below w.heap.size w w':=by
 rw[←h.rpp];exact sr q P.l P.ks w h.at'
def fv (st:RS):Pp:=
 if bU st 1=1 then⟨1,0,0,0,(gy (bD st 1)).1,[],(jL (bD st 1)).p,(jL (bD st 1)).t⟩
 else if bU st 1=2 then⟨2,lh (bD st 1),li (bD st 1),(la (bD st 1):Int),[],(gz (bD st 1)).1,0,⟨#[]⟩⟩
 else pz
theorem zkT {st:RS} {base:Nat} {q:Pg} {w:World} (h:qU st base q w):dt w q (fv st):=by
 unfold fv;rcases h with⟨h1,ro,ca,rfl,ho⟩|⟨h1,ro,ca,rfl,ho⟩|⟨h1,h2,rfl⟩
 ·rw[if_pos h1]
  obtain⟨o,cap,e,hs⟩:=dx ho;cases e;exact⟨rfl,rfl,rfl,rfl,rfl,rfl,⟨by simp only[];omega,by simp only[];omega,rfl,hs,rfl,Sl.nil _ _⟩⟩
 ·rw[if_neg uo,if_pos h1]
  obtain⟨o,cap,e,hs⟩:=dx ho;cases e;have hx:=iQ (bD (bD (bD st 1) 1) 1) 4;have hy:=iQ (bD (bD (bD (bD st 1) 1) 1) 4) 4;simp only[Nat.reduceMul,Nat.reducePow] at hx hy;exact⟨rfl,rfl,rfl,rfl,rfl,rfl,⟨hx,hy,rfl,Sl.nil _ _,rfl,hs⟩⟩
 ·rw[if_neg h1,if_neg h2]
  exact⟨rfl,rfl,rfl,rfl,rfl,rfl,⟨by decide,by decide,rfl,Sl.nil _ _,rfl,Sl.nil _ _⟩⟩
theorem zhe {st:RS} {base:Nat} {q:Pg} {w:World} (h:qU st base q w):(∀ b off,q.ro=some ⟨b,off,none⟩→base≤b)∧(∀ b off,q.ko=some ⟨b,off,none⟩→base≤b):=by
 rcases h with⟨h1,ro,ca,rfl,ho⟩|⟨h1,ro,ca,rfl,ho⟩|⟨h1,h2,rfl⟩
 ·refine⟨fun b off e=>zf8 ho ?_,fun b off e=>?_⟩
  ·simp only at e;rw[e];rfl
  ·simp at e
 ·refine⟨fun b off e=>?_,fun b off e=>zga ho ?_⟩
  ·simp at e
  ·simp only at e;rw[e];rfl
 ·refine⟨fun b off e=>?_,fun b off e=>?_⟩
  ·simp at e
  ·simp at e
theorem zkU {s:ByteArray} (h:s≠⟨#[]⟩):s.toList.isEmpty=false:=by
 cases e:s.toList.isEmpty
 ·rfl
 ·refine absurd ?_ h
  rw[List.isEmpty_iff] at e;have h1:s.toList=s.data.toList:=ByteArray.toList_eq _;rw[h1] at e;cases s with
  |mk d=>simp at e;rw[e]
theorem dt.row {w:World} {q:Pg} {P:Pp} (h:dt w q P) {g base:Nat} (cs:Array Value) (hr:∀ b off,q.ro=some ⟨b,off,none⟩→base≤b) (hk:∀ b off,q.ko=some ⟨b,off,none⟩→base≤b) (hg:g<base):dt (w.setRow g cs) q P:=by
 refine⟨h.k,h.X,h.Y,h.L,h.np,h.nt,⟨h.at'.X32,h.at'.Y32,h.at'.rn,?_,h.at'.kn,?_⟩⟩
 ·exact Sl.same h.at'.rows us fun b off e _=>setRow_other _ _ _ _ (by have:=hr b off e;omega)
 ·exact Sl.same h.at'.kids us fun b off e _=>setRow_other _ _ _ _ (by have:=hk b off e;omega)
theorem zkV {B g:Nat} {w0 w:World} (hb:Below B w0 w) (hBg:B≤g) (cs:Array Value):Below B w0 (w.setRow g cs):=
 ⟨hb.os,hb.tape,hb.output,by rw[setRow_size];exact hb.size,fun j hj=>(setRow_other w g j cs uo).trans (hb.block j hj)⟩
theorem tE (w:World):dt w ⟨0,0,0,0,none,0,0,none,0,0,0,⟨#[]⟩⟩ pz:=⟨rfl,rfl,rfl,rfl,rfl,rfl,⟨by decide,by decide,rfl,Sl.nil _ _,rfl,Sl.nil _ _⟩⟩
def gP (s:ByteArray):Bool:= !(eP ⟨s,false⟩).s&&(decide ((eP ⟨s,false⟩).r=⟨#[]⟩)&&rpp (fv ⟨s,false⟩))
def cA (s:ByteArray):Pp:=if gP s=true then fv ⟨s,false⟩ else pz
def en (s:ByteArray):Int:=if gP s=true then 0 else 90
theorem qW {fn:Func} {p r:Tmp} (h:fn.results=#[.cell p 155,.tmp r]) (tmps:Array Value) (w:World) (g:Nat) (a b c d e f i j:Value) {t:TypeId} {fr:Nat × Nat} {v:Value}
  (hp:tmps.getD p undef=.pointer (some ⟨g,0,none⟩)) (hr:tmps.getD r undef=v) (hg:w.heap[g]? =some (.cells #[a,b,c,d,e,f,i,j] t fr)):(results fn tmps).run Tryz.prog w=.ok (.tuple #[.agg #[a,b,c,d,e,f,i,j],v]) w:=by
 have hp':tmps[p]?.getD undef=.pointer (some ⟨g,0,none⟩):=by simpa using hp
 have hr':tmps[r]?.getD undef=v:=by simpa using hr
 have c0:w.cell? ⟨g,0,none⟩=some a:=by rw[zr hg];rfl
 have c1:w.cell? ⟨g,1,none⟩=some b:=by rw[zr hg];rfl
 have c2:w.cell? ⟨g,2,none⟩=some c:=by rw[zr hg];rfl
 have c3:w.cell? ⟨g,3,none⟩=some d:=by rw[zr hg];rfl
 have c4:w.cell? ⟨g,4,none⟩=some e:=by rw[zr hg];rfl
 have c5:w.cell? ⟨g,5,none⟩=some f:=by rw[zr hg];rfl
 have c6:w.cell? ⟨g,6,none⟩=some i:=by rw[zr hg];rfl
 have c7:w.cell? ⟨g,7,none⟩=some j:=by rw[zr hg];rfl
 simp[results,h,hp',hr',asAddr,go_sem,c0,c1,c2,c3,c4,c5,c6,c7]
theorem zhf (s:ByteArray) (w:World):
  Calls Tryz.prog 84 #[.string s] w fun e w'=>∃ q,e=.returned (.tuple #[gv q,.int .i64 (en s)])∧(dt w' q (cA s)∧(∀ b off,q.ro=some ⟨b,off,none⟩→w.heap.size≤b)∧∀ b off,q.ko=some ⟨b,off,none⟩→w.heap.size≤b)∧Below w.heap.size w w':=by
 obtain⟨W0,hW0⟩:∃ W0,(w.alloc (.cells #[.int .i64 0,.int .u32 0,.int .u32 0,.int .i64 0,.slice none 0 0,.slice none 0 0,.int .u32 0,.string ⟨#[]⟩] 155)).alloc (.cells #[.string s,.bool false] 193)=W0:=⟨_,rfl⟩;have HW0:Hid _:=hW0;have hb1:=bF w (.cells #[.int .i64 0,.int .u32 0,.int .u32 0,.int .i64 0,.slice none 0 0,.slice none 0 0,.int .u32 0,.string ⟨#[]⟩] 155);have hb2:=bF (w.alloc (.cells #[.int .i64 0,.int .u32 0,.int .u32 0,.int .i64 0,.slice none 0 0,.slice none 0 0,.int .u32 0,.string ⟨#[]⟩] 155)) (.cells #[.string s,.bool false] 193)
 have HG0:Hid (W0.heap[w.heap.size]? =some (.cells #[.int .i64 0,.int .u32 0,.int .u32 0,.int .i64 0,.slice none 0 0,.slice none 0 0,.int .u32 0,.string ⟨#[]⟩] 155 (0,0))):=by
  refine(?_:W0.heap[w.heap.size]? =some (.cells #[.int .i64 0,.int .u32 0,.int .u32 0,.int .i64 0,.slice none 0 0,.slice none 0 0,.int .u32 0,.string ⟨#[]⟩] 155 (0,0)));rw[←hW0];exact(hb2.block _ us).trans (zq w _)
 have HR0:Hid (dC (w.heap.size+1) ⟨s,false⟩ W0):=by
  refine(?_:dC (w.heap.size+1) ⟨s,false⟩ W0);have:=zq (w.alloc (.cells #[.int .i64 0,.int .u32 0,.int .u32 0,.int .i64 0,.slice none 0 0,.slice none 0 0,.int .u32 0,.string ⟨#[]⟩] 155)) (.cells #[.string s,.bool false] 193);rw[hW0] at this;simpa [dC,Rd] using this
 have HB0:Hid (Below w.heap.size w W0):=by
  refine(?_:Below w.heap.size w W0);rw[←hW0];exact hb1.trans (hb2.mono hb1.size)
 have hs0:W0.heap.size=w.heap.size+2:=by rw[←hW0];simp
 clear hW0 hb1 hb2
 have HPG:Hid (∀ _:True,_):=fun _=>(qV (w.heap.size+1) ⟨s,false⟩ W0 HR0.o).mono (R':=fun e w'=>∃ q,e=.returned (gv q)∧dt w' q (fv ⟨s,false⟩)∧((∀ b off,q.ro=some ⟨b,off,none⟩→W0.heap.size≤b)∧(∀ b off,q.ko=some ⟨b,off,none⟩→W0.heap.size≤b))∧dC (w.heap.size+1) (eP ⟨s,false⟩) w'∧Bo (w.heap.size+1) W0 w') fun e w' h=>by
  obtain⟨q,h1,h2,h3⟩:=h;exact⟨q,h1,zkT h2,zhe h2,h3⟩
 clear HR0;have hdO:gP s=(!(eP ⟨s,false⟩).s&&(decide ((eP ⟨s,false⟩).r=⟨#[]⟩)&&rpp (fv ⟨s,false⟩))):=rfl;have hd0:gP s=false→en s=90∧cA s=pz:=fun h=>by unfold en cA;rw[h];exact⟨rfl,rfl⟩
 have hd1:gP s=true→en s=0∧cA s=fv ⟨s,false⟩:=fun h=>by unfold en cA;rw[h];exact⟨rfl,rfl⟩
 generalize en s=dE at*
 generalize cA s=dP at*
 generalize gP s=dO at*
 generalize eP ⟨s,false⟩=st at*
 obtain⟨rest,sh⟩:=st;generalize fv ⟨s,false⟩=PP at*
 simp only at hdO;have HRT:Hid _:=fun q w' (h:dt w' q PP)=>zoL q PP w' h
 have HD:Hid (_∧_∧_):=⟨hdO,hd0,hd1⟩;clear hdO hd0 hd1;go_enter Tryz.func84,Tryz.ntmps84;go_wp2_with fail;rw[HW0.o];clear HW0;refine(HPG.o trivial).mono ?_;rintro e w1 ⟨q,rfl,hq,hlie,r1,b1⟩;have HL:Hid _:=hlie;clear hlie;have HP1:Hid (dt w1 q PP):=hq;have HG1:Hid (w1.heap[w.heap.size]? =some (.cells #[.int .i64 0,.int .u32 0,.int .u32 0,.int .i64 0,.slice none 0 0,.slice none 0 0,.int .u32 0,.string ⟨#[]⟩] 155 (0,0))):=(b1.block _ uo uo).trans HG0.o;have HB1:Hid (Below w.heap.size w w1):=HB0.o.trans ⟨b1.os,b1.tape,b1.output,b1.size,fun j hj=>b1.block j uo uo⟩;have hs1:w.heap.size+1<w1.heap.size:=by have:=b1.size;omega
 obtain⟨k0,k1,-,-,-⟩:=mw r1;have hbn:=bF w1 (cX q);have HP2:Hid (dt (w1.alloc (cX q)) q PP):=HP1.o.below hbn zn;have HG2:Hid ((w1.alloc (cX q)).heap[w.heap.size]? =some (.cells #[.int .i64 0,.int .u32 0,.int .u32 0,.int .i64 0,.slice none 0 0,.slice none 0 0,.int .u32 0,.string ⟨#[]⟩] 155 (0,0))):=(hbn.block _ uo).trans HG1.o;have HQ2:Hid ((w1.alloc (cX q)).heap[w1.heap.size]? =some (cX q)):=zq w1 _;have HB2:Hid (Below w.heap.size w (w1.alloc (cX q))):=HB1.o.trans (hbn.mono uo);have HC:Hid (∀ _:True,_):=fun _=>HRT.o q _ HP2.o
 clear HG0 HB0 HP1 HG1 HB1 HPG hq r1 b1 hbn HRT;obtain⟨qk,qX,qY,qL,qro,qrn,qrc,qko,qkn,qkc,qnp,qnt⟩:=q;simp only[gv,cX] at*
 have hi:(Tryz.prog.info? 155).map (·.size)=some 8:=uk
 have HI:Hid _:=hi;clear hi;cases sh
 ·by_cases hr:rest=⟨#[]⟩
  ·subst hr
   go_wp2_with fail;refine um (HC.o trivial) fun w3 b3=>?_;have HG3:Hid (w3.heap[w.heap.size]? =some (.cells #[.int .i64 0,.int .u32 0,.int .u32 0,.int .i64 0,.slice none 0 0,.slice none 0 0,.int .u32 0,.string ⟨#[]⟩] 155 (0,0))):=(b3.block _ (zi HG2.o).1).trans HG2.o;have hq3:=(b3.block _ (zi HQ2.o).1).trans HQ2.o;have HB3:Hid (Below w.heap.size w w3):=HB2.o.trans (b3.mono HB2.o.size);have HP3:Hid (dt w3 ⟨qk,qX,qY,qL,qro,qrn,qrc,qko,qkn,qkc,qnp,qnt⟩ PP):=HP2.o.below b3 zn;clear b3 HC HG2 HQ2 HB2 HP2;cases hR:rpp PP
   ·clear hq3
    go_wp2_with (refine wpList_store_row rfl 155 (.tmp 2) (.tmp 21) rfl w.heap.size #[.int .i64 0,.int .u32 0,.int .u32 0,.int .i64 0,.slice none 0 0,.slice none 0 0,.int .u32 0,.string ⟨#[]⟩] (by rfl) (by rfl) 155 #[.int .i64 0,.int .u32 0,.int .u32 0,.int .i64 0,.slice none 0 0,.slice none 0 0,.int .u32 0,.string ⟨#[]⟩] HG3.o HI.o (by rfl) uk ?_;rw[setRow_self _ _ _ _ _ HG3.o])
    have HF:Hid (dO=false):=by
     refine(?_:dO=false);rw[HD.o.1];simp[hR]
    refine bodyPost_ret (qW rfl _ _ w.heap.size _ _ _ _ _ _ _ _ rfl rfl HG3.o) rfl ⟨⟨0,0,0,0,none,0,0,none,0,0,0,⟨#[]⟩⟩,?_,?_,HB3.o⟩
    ·rw[(HD.o.2.1 HF.o).1];rfl
    ·rw[(HD.o.2.1 HF.o).2];exact⟨tE _,fun b off e=>(by cases e),fun b off e=>(by cases e)⟩
   ·obtain⟨⟨c0,c1,c2,c3,c4,c5,c6,c7⟩,lB⟩:=jA (q:=⟨qk,qX,qY,qL,qro,qrn,qrc,qko,qkn,qkc,qnp,qnt⟩) hq3
    simp only at c0 c1 c2 c3 c4 c5 c6 c7;clear hq3
    have HF:Hid (dO=true):=by
     refine(?_:dO=true);rw[HD.o.1];simp[hR]
    go_wp2_with (refine wpList_store_row rfl 155 (.tmp 2) (.tmp 22) rfl w.heap.size #[.int .i64 qk,.int .u32 (qX:Int),.int .u32 (qY:Int),.int .i64 qL,.slice qro qrn qrc,.slice qko qkn qkc,.int .u32 (qnp:Int),.string qnt] (by rfl) (by rfl) 155 #[.int .i64 0,.int .u32 0,.int .u32 0,.int .i64 0,.slice none 0 0,.slice none 0 0,.int .u32 0,.string ⟨#[]⟩] HG3.o HI.o (by rfl) uk ?_)
    refine bodyPost_ret (qW rfl _ _ w.heap.size _ _ _ _ _ _ _ _ rfl rfl (setRow_heap _ _ _ _ _ _ HG3.o)) rfl ⟨⟨qk,qX,qY,qL,qro,qrn,qrc,qko,qkn,qkc,qnp,qnt⟩,?_,?_,zkV HB3.o zn _⟩
    ·rw[(HD.o.2.2 HF.o).1];rfl
    ·rw[(HD.o.2.2 HF.o).2];exact⟨HP3.o.row _ HL.o.1 HL.o.2 uo,fun b off e=>by have:=HL.o.1 b off e;omega,fun b off e=>by have:=HL.o.2 b off e;omega⟩
  ·have hne:=zkU hr
   go_wp2_with (refine wpList_store_row rfl 155 (.tmp 2) (.tmp 21) rfl w.heap.size #[.int .i64 0,.int .u32 0,.int .u32 0,.int .i64 0,.slice none 0 0,.slice none 0 0,.int .u32 0,.string ⟨#[]⟩] (by rfl) (by rfl) 155 #[.int .i64 0,.int .u32 0,.int .u32 0,.int .i64 0,.slice none 0 0,.slice none 0 0,.int .u32 0,.string ⟨#[]⟩] HG2.o HI.o (by rfl) uk ?_;rw[setRow_self _ _ _ _ _ HG2.o])
   have HF:Hid (dO=false):=by
    refine(?_:dO=false);rw[HD.o.1];simp[hr]
   refine bodyPost_ret (qW rfl _ _ w.heap.size _ _ _ _ _ _ _ _ rfl rfl HG2.o) rfl ⟨⟨0,0,0,0,none,0,0,none,0,0,0,⟨#[]⟩⟩,?_,?_,HB2.o⟩
   ·rw[(HD.o.2.1 HF.o).1];rfl
   ·rw[(HD.o.2.1 HF.o).2];exact⟨tE _,fun b off e=>(by cases e),fun b off e=>(by cases e)⟩
 ·go_wp2_with (refine wpList_store_row rfl 155 (.tmp 2) (.tmp 21) rfl w.heap.size #[.int .i64 0,.int .u32 0,.int .u32 0,.int .i64 0,.slice none 0 0,.slice none 0 0,.int .u32 0,.string ⟨#[]⟩] (by rfl) (by rfl) 155 #[.int .i64 0,.int .u32 0,.int .u32 0,.int .i64 0,.slice none 0 0,.slice none 0 0,.int .u32 0,.string ⟨#[]⟩] HG2.o HI.o (by rfl) uk ?_;rw[setRow_self _ _ _ _ _ HG2.o])
  have HF:Hid (dO=false):=by
   refine(?_:dO=false);rw[HD.o.1];simp
  refine bodyPost_ret (qW rfl _ _ w.heap.size _ _ _ _ _ _ _ _ rfl rfl HG2.o) rfl ⟨⟨0,0,0,0,none,0,0,none,0,0,0,⟨#[]⟩⟩,?_,?_,HB2.o⟩
  ·rw[(HD.o.2.1 HF.o).1];rfl
  ·rw[(HD.o.2.1 HF.o).2];exact⟨tE _,fun b off e=>(by cases e),fun b off e=>(by cases e)⟩
def sT (c:List UInt8):RS:=⟨⟨c.toArray⟩,false⟩
theorem lj (c:List UInt8):(sT c).r=⟨c.toArray⟩:=rfl
theorem tF (c:List UInt8):(sT c).r.size=c.length:=by simp[sT,ByteArray.size]
theorem tG (c:List UInt8) (n:Nat):jo (sT c) n=decide (n≤c.length):=by unfold jo;rw[tF];simp[sT]
theorem tH {c:List UInt8} {n:Nat} (h:n≤c.length):eH (sT c) n=⟨(c.take n).toArray⟩:=by
 unfold eH;rw[tG,if_pos (by simpa using h),lj,ByteArray.extract_mk];simp
theorem qZ {c:List UInt8} {n:Nat} (h:n≤c.length):bD (sT c) n=sT (c.drop n):=by
 unfold bD;rw[tG,if_pos (by simpa using h),tF,lj,ByteArray.extract_mk]
 unfold sT;rw[List.take_of_length_le us]
theorem znM {c:List UInt8} {n:Nat} (h:n≤c.length):bU (sT c) n=cm ⟨(c.take n).toArray⟩ n:=by
 unfold bU;rw[tG,if_pos (by simpa using h),lj,ByteArray.extract_mk];simp
theorem iA {st:RS} {n:Nat} (h:(bD st n).s=false):st.s=false∧n≤st.r.size:=by
 unfold bD at h;cases hk:jo st n
 ·rw[hk] at h;simp at h
 ·exact sy hk
theorem zeM {c:List UInt8} {n:Nat} (h:(bD (sT c) n).s=false):n≤c.length:=by
 have:=(iA h).2;rwa[tF] at this
theorem zpQ (c:List UInt8) (i:Nat):bt ⟨c.toArray⟩ i=(c[i]?.getD 0).toNat:=by unfold bt;simp
theorem zh7 (v:Nat) (n:Nat):∀ k,k≤n→cm ⟨(bn v n).toArray⟩ k=v%2 ^ (8*k)
 |0,_=>by simp[cm,Nat.mod_one]
 |k+1,h=>by
  rw[cm,zh7 v n k uo,zpQ]
  have:(bn v n)[k]? =some (lb v k):=by
   unfold bn;rw[List.getElem?_map,List.getElem?_range uo];rfl
  rw[this];have e:(lb v k).toNat=v/2 ^ (8*k)%256:=by unfold lb;simp
  simp only[Option.getD_some,e];rw[show 8*(k+1)=8*k+8 by omega,Nat.pow_add,Nat.mod_mul,Nat.mul_comm (2 ^ (8*k))]
theorem zoO (c:List UInt8):∀ k,k≤c.length→∀ n,k≤n→n≤c.length→∀ j,j<k→lb (cm ⟨c.toArray⟩ n) j=c[j]?.getD 0:=by
 intro k hk n hn hnl j hj
 have key:∀ m,j<m→cm ⟨c.toArray⟩ m/2 ^ (8*j)%256=bt ⟨c.toArray⟩ j:=by
  intro m
  induction m with
  |zero=>intro h;omega
  |succ m ih=>
   intro h;rw[cm];have hp:0<2 ^ (8*j):=Nat.pow_pos ud;by_cases e:j=m
   ·subst e
    have h1:=oq ⟨c.toArray⟩ j;have h2:=sx ⟨c.toArray⟩ j;rw[Nat.add_mul_div_right _ _ hp,Nat.div_eq_of_lt h1,Nat.zero_add,Nat.mod_eq_of_lt h2]
   ·have hm:j<m:=uo
    obtain⟨d,hd⟩:∃ d,m=j+1+d:=⟨m - j - 1,by omega⟩
    have e2:bt ⟨c.toArray⟩ m*2 ^ (8*m)=(bt ⟨c.toArray⟩ m*2 ^ (8*d)*256)*2 ^ (8*j):=by
     rw[hd,show 8*(j+1+d)=8*d+8+8*j by omega,Nat.pow_add,Nat.pow_add];simp only[Nat.mul_assoc]
    rw[e2,Nat.add_mul_div_right _ _ hp,Nat.add_mul_mod_self_right,ih hm]
 unfold lb;rw[key n uo,zpQ];simp
theorem zpR (c:List UInt8) (n:Nat) (h:c.length=n):bn (cm ⟨c.toArray⟩ n) n=c:=by
 refine List.ext_getElem? fun j=>?_
 unfold bn;rw[List.getElem?_map];by_cases hj:j<n
 ·rw[List.getElem?_range hj]
  simp only[Option.map_some];rw[zoO c n uo n zn uo j hj,List.getElem?_eq_getElem uo];rfl
 ·rw[List.getElem?_eq_none (by simp;omega),List.getElem?_eq_none uo];rfl
theorem ja {v n:Nat} (hv:v<2 ^ (8*n)) (t:List UInt8):bU (sT (bn v n++t)) n=v∧bD (sT (bn v n++t)) n=sT t:=by
 have hl:n≤(bn v n++t).length:=by rw[List.length_append,fO];omega
 rw[znM hl,qZ hl,List.take_append_of_le_length (by rw[fO];exact Nat.le_refl _),List.take_of_length_le (by rw[fO];exact Nat.le_refl _),zh7 v n n zn,Nat.mod_eq_of_lt hv];refine⟨rfl,?_⟩;rw[List.drop_append_of_le_length (by rw[fO];exact Nat.le_refl _),List.drop_of_length_le (by rw[fO];exact Nat.le_refl _),List.nil_append]
theorem jr {c:List UInt8} {n:Nat} (h:(bD (sT c) n).s=false):∃ t,c=bn (bU (sT c) n) n++t∧bD (sT c) n=sT t:=by
 have hl:=zeM h;refine⟨c.drop n,?_,qZ hl⟩;rw[znM hl,zpR _ _ (by rw[List.length_take];omega),List.take_append_drop]
theorem tI (v:ByteArray) {n:Nat} (hn:v.size=n) (t:List UInt8):eH (sT (v.data.toList++t)) n=v∧bD (sT (v.data.toList++t)) n=sT t:=by
 have hs:v.data.toList.length=n:=by rw[←hn,Array.length_toList];rfl
 have hl:n≤(v.data.toList++t).length:=by rw[List.length_append];omega
 rw[tH hl,qZ hl,List.take_append_of_le_length uo,List.take_of_length_le uo,List.drop_append_of_le_length uo,List.drop_of_length_le uo,List.nil_append];exact⟨rfl,rfl⟩
theorem zh8 {c:List UInt8} {n:Nat} (h:(bD (sT c) n).s=false):∃ t,c=(eH (sT c) n).data.toList++t∧bD (sT c) n=sT t∧(eH (sT c) n).size=n:=by
 have hl:=zeM h;refine⟨c.drop n,?_,qZ hl,?_⟩
 ·rw[tH hl];simp
 ·rw[tH hl];simp[ByteArray.size];omega
theorem Rf.eq {a b:Rf} (h1:a.p=b.p) (h2:a.t=b.t):a=b:=by cases a;cases b;simp only at h1 h2;subst h1 h2;rfl
def zqj (r:Rf):Prop:=r.p<4294967296∧(gW r.p r.t=true∨br r.p r.t=true)
theorem tJ {p:Nat} {t:ByteArray} (h:gW p t=true):cM p t=bn 0 4++iy.data.toList:=by
 unfold cM;rw[if_pos h];unfold gW at h;simp only[Bool.and_eq_true,decide_eq_true_eq] at h;rw[h.1]
theorem tK {p:Nat} {t:ByteArray} (h:gW p t=false):cM p t=bn p 4++t.data.toList:=by
 unfold cM;rw[if_neg (by rw[h];simp)]
theorem zgd {p:Nat} {t:ByteArray} (h:br p t=true):2≤p∧t.size=32:=by
 unfold br at h;simpa using h
theorem zi4:iy.size=32:=by decide
theorem tL {p:Nat} {t:ByteArray} (h:t.size=32):gW p t=false:=by
 unfold gW;have:t≠⟨#[]⟩:=fun e=>by rw[e] at h;cases h
 simp[this]
theorem zeN {p:Nat} {t:ByteArray} (h:gW p t=true):p=0∧t=⟨#[]⟩:=by
 unfold gW at h;simpa using h
theorem zh9 {r:Rf} (h:zqj r) (t:List UInt8):dJ (sT (cM r.p r.t++t))=r∧eB (sT (cM r.p r.t++t))=sT t:=by
 unfold dJ eB;rcases h with⟨h32,h|h⟩
 ·rw[tJ h,List.append_assoc]
  obtain⟨a1,a2⟩:=ja (v:=0) (n:=4) ud (iy.data.toList++t);obtain⟨b1,b2⟩:=tI iy zi4 t;rw[a1,a2,b1,b2];have e:=zeN h;refine⟨?_,rfl⟩;rw[if_pos (by unfold gm;simp)];exact Rf.eq e.1.symm e.2.symm
 ·obtain⟨e1,e2⟩:=zgd h
  rw[tK (tL e2),List.append_assoc];obtain⟨a1,a2⟩:=ja (v:=r.p) (n:=4) (by simpa using h32) (r.t.data.toList++t);obtain⟨b1,b2⟩:=tI r.t e2 t;rw[a1,a2,b1,b2];refine⟨?_,rfl⟩;rw[if_neg];unfold gm;have:r.p≠0:=uo
  simp[this]
theorem zia {c:List UInt8} (h:(eB (sT c)).s=false):∃ t,c=cM (dJ (sT c)).p (dJ (sT c)).t++t∧eB (sT c)=sT t∧(dJ (sT c)).p<4294967296:=by
 have h4:=(iA h).1;obtain⟨t1,e1,a1⟩:=jr h4;have hn:=iQ (sT c) 4;simp only[Nat.reduceMul,Nat.reducePow] at hn;unfold eB at h ⊢;rw[a1] at h ⊢;obtain⟨t2,e2,a2,z2⟩:=zh8 h;have hrf:dJ (sT c)=if gm (bU (sT c) 4) (eH (sT t1) 32)=true then⟨0,⟨#[]⟩⟩ else⟨bU (sT c) 4,eH (sT t1) 32⟩:=by unfold dJ;rw[a1]
 rw[hrf];generalize bU (sT c) 4=n at*
 generalize eH (sT t1) 32=x at*
 refine⟨t2,?_,a2,?_⟩
 ·by_cases hi:gm n x=true
  ·rw[if_pos hi,tJ ud,List.append_assoc]
   unfold gm at hi;simp only[Bool.and_eq_true,decide_eq_true_eq] at hi;rw[e1,e2,hi.1,hi.2]
  ·rw[if_neg hi,tK (tL z2),List.append_assoc,←e2];exact e1
 ·split
  ·decide
  ·exact hn
theorem zmN {r:Rw} (h:fI r) (hv:r.v.size<256) (t:List UInt8):dZ (sT (dD r++t))=r∧eu (sT (dD r++t))=sT t:=by
 unfold dZ eu jq jZ jp lE dD;simp only[List.append_assoc];obtain⟨a1,a2⟩:=ja (v:=r.id) (n:=8) (by simpa using h.1) (bn r.x 4++(bn r.y 4++(bn r.v.size 1++(r.v.data.toList++t))));obtain⟨b1,b2⟩:=ja (v:=r.x) (n:=4) (by simpa using h.2.1) (bn r.y 4++(bn r.v.size 1++(r.v.data.toList++t)));obtain⟨c1,c2⟩:=ja (v:=r.y) (n:=4) (by simpa using h.2.2) (bn r.v.size 1++(r.v.data.toList++t));obtain⟨d1,d2⟩:=ja (v:=r.v.size) (n:=1) (by simpa using hv) (r.v.data.toList++t);obtain⟨f1,f2⟩:=tI r.v rfl t;rw[a1,a2,b1,b2,c1,c2,d1,d2,f1,f2];exact⟨rfl,rfl⟩
theorem zmO {c:List UInt8} (h:(eu (sT c)).s=false):∃ t,c=dD (dZ (sT c))++t∧eu (sT c)=sT t∧fI (dZ (sT c)):=by
 have h4:(jq (sT c)).s=false:=(iA h).1;have h3:(jZ (sT c)).s=false:=(iA h4).1;have h2:(jp (sT c)).s=false:=(iA h3).1;have h1:(lE (sT c)).s=false:=(iA h2).1;obtain⟨t1,e1,a1⟩:=jr h1;have E1:lE (sT c)=sT t1:=a1;unfold jp at h2;rw[E1] at h2
 obtain⟨t2,e2,a2⟩:=jr h2;have E2:jp (sT c)=sT t2:=by unfold jp;rw[E1];exact a2
 unfold jZ at h3;rw[E2] at h3
 obtain⟨t3,e3,a3⟩:=jr h3;have E3:jZ (sT c)=sT t3:=by unfold jZ;rw[E2];exact a3
 unfold jq at h4;rw[E3] at h4
 obtain⟨t4,e4,a4⟩:=jr h4;have E4:jq (sT c)=sT t4:=by unfold jq;rw[E3];exact a4
 unfold eu at h ⊢;rw[E3,E4] at h ⊢;obtain⟨t5,e5,a5,z5⟩:=zh8 h;have hrw:dZ (sT c)=⟨bU (sT c) 8,bU (sT t1) 4,bU (sT t2) 4,eH (sT t4) (bU (sT t3) 1)⟩:=by unfold dZ;rw[E1,E2,E3,E4]
 have b1:=iQ (sT c) 8;have b2:=iQ (sT t1) 4;have b3:=iQ (sT t2) 4;simp only[Nat.reduceMul,Nat.reducePow] at b1 b2 b3;rw[hrw];refine⟨t5,?_,a5,b1,b2,b3⟩;unfold dD;simp only[List.append_assoc];rw[z5,←e5,←e4,←e3,←e2,←e1]
theorem tM {α:Type} (f:RS→α) (nx:RS→RS) (enc:α→List UInt8) (t:List UInt8):∀ (l:List α),(∀ a∈l,∀ t,f (sT (enc a++t))=a∧nx (sT (enc a++t))=sT t)→cO f nx l.length (sT (l.flatMap enc++t))=(l,sT t)
 |[],_=>rfl
 |a::l,h=>by
  obtain⟨h1,h2⟩:=h a us (l.flatMap enc++t);have ih:=tM f nx enc t l fun b hb=>h b (by simp[hb])
  rw[List.flatMap_cons,List.append_assoc,List.length_cons,qP (by rw[h2];rfl),h1,h2,ih]
theorem tN {α:Type} (f:RS→α) (nx:RS→RS) (enc:α→List UInt8) (ok:α→Prop) (hs:∀ st,(nx st).s=false→st.s=false) (h:∀ c,(nx (sT c)).s=false→∃ t,c=enc (f (sT c))++t∧nx (sT c)=sT t∧ok (f (sT c))):
  ∀ (n:Nat) (c:List UInt8),(cO f nx n (sT c)).2.s=false→∃ t,c=(cO f nx n (sT c)).1.flatMap enc++t∧(cO f nx n (sT c)).2=sT t∧(cO f nx n (sT c)).1.length=n∧∀ a∈(cO f nx n (sT c)).1,ok a
 |0,c,_=>⟨c,rfl,rfl,rfl,fun a ha=>by simp[cO] at ha⟩
 |n+1,c,hk=>by
  cases hx:(nx (sT c)).s
  ·obtain⟨t1,e1,a1,o1⟩:=h c hx
   rw[qP hx] at hk ⊢;simp only at hk ⊢;rw[a1] at hk ⊢;obtain⟨t2,e2,a2,l2,o2⟩:=tN f nx enc ok hs h n t1 hk;refine⟨t2,?_,a2,by simp[l2],fun a ha=>?_⟩
   ·rw[List.flatMap_cons,List.append_assoc,←e2];exact e1
   ·rcases List.mem_cons.1 ha with rfl|ha
    ·exact o1
    ·exact o2 a ha
  ·rw[qO hx] at hk
   rw[hx] at hk;cases hk
theorem zge {α:Type} (f:RS→α) (nx:RS→RS) (hs:∀ st,(nx st).s=false→st.s=false):∀ (n:Nat) (st:RS),(cO f nx n st).2.s=false→st.s=false
 |0,st,h=>h
 |n+1,st,h=>by
  cases hx:(nx st).s
  ·exact hs st hx
  ·rw[qO hx] at h
   rw[hx] at h;cases h
def pB (P:Pp):List UInt8:=if P.k=1 then jI P.l P.np P.nt else jJ P.X P.Y P.L.toNat P.ks
structure fj (P:Pp):Prop where
 X:P.X<4294967296
 Y:P.Y<4294967296
 np:P.np<4294967296
 rows:∀ r∈P.l,fI r
 kids:∀ r∈P.ks,r.p<4294967296
theorem Pp.eq {a b:Pp} (h1:a.k=b.k) (h2:a.X=b.X) (h3:a.Y=b.Y) (h4:a.L=b.L) (h5:a.l=b.l) (h6:a.ks=b.ks) (h7:a.np=b.np) (h8:a.nt=b.nt):a=b:=by
 cases a;cases b;simp only at h1 h2 h3 h4 h5 h6 h7 h8;subst h1 h2 h3 h4 h5 h6 h7 h8;rfl
theorem tO {P:Pp} (h1:P.k=1) (h:rpp P=true):(gW P.np P.nt=true∨br P.np P.nt=true)∧P.l.length≤4∧dg P.l=true∧(∀ r∈P.l,r.v.size≤16)∧P.X=0∧P.Y=0∧P.L=0∧P.ks=[]:=by
 unfold rpp jY at h;rw[if_pos h1] at h;have hf:=(zeL h).2.2.1;unfold kR noCell at h;simp only[Bool.and_eq_true,Bool.or_eq_true,decide_eq_true_eq] at h;obtain⟨a,b,c,⟨d1,d2,d3⟩,e⟩:=h;exact⟨a,b,c,fun r hr=>(hf r hr).1,d1,d2,d3,List.length_eq_zero_iff.1 e⟩
theorem tP {P:Pp} (h1:P.k=2) (h:rpp P=true):2≤P.ks.length∧P.ks.length≤4∧(∀ r∈P.ks,br r.p r.t=true)∧cP P.X P.Y P.L=true∧0<P.L∧P.L≤31∧P.l=[]∧P.np=0∧P.nt=⟨#[]⟩:=by
 unfold rpp jY at h;rw[if_neg (by simp only;omega),if_pos h1] at h;unfold kS at h;simp only[Bool.and_eq_true,decide_eq_true_eq,List.all_eq_true] at h;obtain⟨⟨a,b⟩,c,d,e,f,g⟩:=h;obtain⟨g1,g2⟩:=zeN g
 have hr:P.L≤31:=by
  have d':=d;unfold cP at d';simp only[decide_eq_true_eq] at d';omega
 exact⟨a,b,c,d,e,hr,List.length_eq_zero_iff.1 f,g1,g2⟩
theorem tQ {P:Pp} (h:rpp P=true):P.k=1∨P.k=2:=by
 unfold rpp jY at h;simp only at h;by_cases h1:P.k=1
 ·exact .inl h1
 ·rw[if_neg h1] at h
  by_cases h2:P.k=2
  ·exact .inr h2
  ·rw[if_neg h2] at h;cases h
theorem zkX {P:Pp} (hR:rpp P=true) (ho:fj P) (t:List UInt8):fv (sT (pB P++t))=P∧eP (sT (pB P++t))=sT t:=by
 rcases tQ hR with hk|hk
 ·obtain⟨h1,h2,h3,h4,h5,h6,h7,h8⟩:=tO hk hR
  have e:pB P++t=bn 1 1++(bn P.l.length 1++(cM P.np P.nt++(P.l.flatMap dD++t))):=by
   unfold pB jI;rw[if_pos hk];simp only[List.append_assoc]
  rw[e];obtain⟨a1,a2⟩:=ja (v:=1) (n:=1) ud (bn P.l.length 1++(cM P.np P.nt++(P.l.flatMap dD++t)));obtain⟨b1,b2⟩:=ja (v:=P.l.length) (n:=1) (by simp;omega) (cM P.np P.nt++(P.l.flatMap dD++t));obtain⟨c1,c2⟩:=zh9 (r:=⟨P.np,P.nt⟩) ⟨ho.np,h1⟩ (P.l.flatMap dD++t);simp only at c1 c2;have d:=tM dZ eu dD t P.l fun r hr=>zmN (ho.rows r hr) (by have:=h4 r hr;omega)
  unfold fv eP gy jL;rw[a1,a2,if_pos rfl,if_pos rfl,b1,b2,c1,c2,d];exact⟨Pp.eq hk.symm h5.symm h6.symm h7.symm rfl h8.symm rfl rfl,rfl⟩
 ·obtain⟨h1,h2,h3,h4,h5,h6,h7,h8,h9⟩:=tP hk hR
  have e:pB P++t=bn 2 1++(bn P.ks.length 1++(bn P.L.toNat 1++(bn P.X 4++(bn P.Y 4++((P.ks.flatMap fun r=>cM r.p r.t)++t))))):=by
   unfold pB jJ;rw[if_neg uo];simp only[List.append_assoc]
  rw[e];obtain⟨a1,a2⟩:=ja (v:=2) (n:=1) ud (bn P.ks.length 1++(bn P.L.toNat 1++(bn P.X 4++(bn P.Y 4++((P.ks.flatMap fun r=>cM r.p r.t)++t)))));obtain⟨b1,b2⟩:=ja (v:=P.ks.length) (n:=1) (by simp;omega) (bn P.L.toNat 1++(bn P.X 4++(bn P.Y 4++((P.ks.flatMap fun r=>cM r.p r.t)++t))));obtain⟨c1,c2⟩:=ja (v:=P.L.toNat) (n:=1) (by simp;omega) (bn P.X 4++(bn P.Y 4++((P.ks.flatMap fun r=>cM r.p r.t)++t)));obtain⟨d1,d2⟩:=ja (v:=P.X) (n:=4) (by simpa using ho.X) (bn P.Y 4++((P.ks.flatMap fun r=>cM r.p r.t)++t));obtain⟨f1,f2⟩:=ja (v:=P.Y) (n:=4) (by simpa using ho.Y) ((P.ks.flatMap fun r=>cM r.p r.t)++t);have g:=tM dJ eB (fun r=>cM r.p r.t) t P.ks fun r hr=>zh9 ⟨ho.kids r hr,.inr (h3 r hr)⟩
  unfold fv eP gz lh li la;rw[a1,a2,if_neg (show ¬(2:Nat)=1 by decide),if_neg (show ¬(2:Nat)=1 by decide),if_pos rfl,if_pos rfl,b1,b2,c1,c2,d1,d2,f1,f2,g];exact⟨Pp.eq hk.symm rfl rfl (by simp only;omega) h7.symm rfl h8.symm h9.symm,rfl⟩
theorem tR {st:RS} (h:(eB st).s=false):st.s=false:=(iA (iA h).1).1
theorem zib {st:RS} (h:(eu st).s=false):st.s=false:=(iA (iA (iA (iA (iA h).1).1).1).1).1
theorem zkY {c:List UInt8} (hs:(eP (sT c)).s=false) (hR:rpp (fv (sT c))=true):∃ t,c=pB (fv (sT c))++t∧eP (sT c)=sT t∧fj (fv (sT c)):=by
 by_cases h1:bU (sT c) 1=1
 ·have hd:fv (sT c)=⟨1,0,0,0,(gy (bD (sT c) 1)).1,[],(jL (bD (sT c) 1)).p,(jL (bD (sT c) 1)).t⟩:=by unfold fv;rw[if_pos h1]
  have he:eP (sT c)=(gy (bD (sT c) 1)).2:=by unfold eP;rw[if_pos h1]
  rw[he] at hs ⊢;rw[hd];clear hd he hR;have k2:(eB (bD (bD (sT c) 1) 1)).s=false:=zge _ _ (fun st h=>zib h) _ _ hs;have k1:=tR k2;have k0:=(iA k1).1;obtain⟨t1,e1,a1⟩:=jr k0;rw[a1] at k1 k2 hs ⊢;obtain⟨t2,e2,a2⟩:=jr k1;rw[a2] at k2;obtain⟨t3,e3,a3,o3⟩:=zia k2;have hL:gy (sT t1)=cO dZ eu (bU (sT t1) 1) (sT t3):=by unfold gy;rw[a2,a3]
  have hN:jL (sT t1)=dJ (sT t2):=by unfold jL;rw[a2]
  rw[hL] at hs ⊢;rw[hN];obtain⟨t4,e4,a4,l4,o4⟩:=tN dZ eu dD fI (fun st h=>zib h) (fun c h=>zmO h) _ _ hs;refine⟨t4,?_,a4,⟨Nat.zero_lt_succ _,Nat.zero_lt_succ _,o3,o4,fun r hr=>by simp at hr⟩⟩;unfold pB jI;rw[if_pos rfl];simp only[List.append_assoc];rw[l4,←e4,←e3,←e2];rw[h1] at e1;exact e1
 ·by_cases h2:bU (sT c) 1=2
  ·have hd:fv (sT c)=⟨2,lh (bD (sT c) 1),li (bD (sT c) 1),(la (bD (sT c) 1):Int),[],(gz (bD (sT c) 1)).1,0,⟨#[]⟩⟩:=by unfold fv;rw[if_neg h1,if_pos h2]
   have he:eP (sT c)=(gz (bD (sT c) 1)).2:=by unfold eP;rw[if_neg h1,if_pos h2]
   rw[he] at hs ⊢;rw[hd];clear hd he hR;have k4:(bD (bD (bD (bD (bD (sT c) 1) 1) 1) 4) 4).s=false:=zge _ _ (fun st h=>tR h) _ _ hs;have k3:=(iA k4).1;have k2:=(iA k3).1;have k1:=(iA k2).1;have k0:=(iA k1).1;obtain⟨t1,e1,a1⟩:=jr k0;rw[a1] at k1 k2 k3 k4 hs ⊢;obtain⟨t2,e2,a2⟩:=jr k1;rw[a2] at k2 k3 k4;obtain⟨t3,e3,a3⟩:=jr k2;rw[a3] at k3 k4;obtain⟨t4,e4,a4⟩:=jr k3;rw[a4] at k4;obtain⟨t5,e5,a5⟩:=jr k4;have hL:gz (sT t1)=cO dJ eB (bU (sT t1) 1) (sT t5):=by unfold gz;rw[a2,a3,a4,a5]
   have hC:la (sT t1)=bU (sT t2) 1:=by unfold la;rw[a2]
   have hX:lh (sT t1)=bU (sT t3) 4:=by unfold lh;rw[a2,a3]
   have hY:li (sT t1)=bU (sT t4) 4:=by unfold li;rw[a2,a3,a4]
   have bx:=iQ (sT t3) 4;have by':=iQ (sT t4) 4;simp only[Nat.reduceMul,Nat.reducePow] at bx by';rw[hL] at hs ⊢;rw[hC,hX,hY];obtain⟨t6,e6,a6,l6,o6⟩:=tN dJ eB (fun r=>cM r.p r.t) (fun r=>r.p<4294967296) (fun st h=>tR h) (fun c h=>zia h) _ _ hs;refine⟨t6,?_,a6,⟨bx,by',Nat.zero_lt_succ _,fun r hr=>by simp at hr,o6⟩⟩;unfold pB jJ;rw[if_neg (show ¬(2:Int)=1 by decide)];simp only[List.append_assoc,Int.toNat_natCast];rw[l6,←e6,←e5,←e4,←e3,←e2];rw[h2] at e1;exact e1
  ·have:fv (sT c)=pz:=by unfold fv;rw[if_neg h1,if_neg h2]
   rw[this] at hR;cases hR
theorem zqk (s:ByteArray):(⟨s,false⟩:RS)=sT s.data.toList:=rfl
theorem zoP {P:Pp} (hR:rpp P=true) (ho:fj P):gP ⟨(pB P).toArray⟩=true∧cA ⟨(pB P).toArray⟩=P:=by
 have h:=zkX hR ho [];rw[List.append_nil] at h
 have e:gP ⟨(pB P).toArray⟩=true:=by
  unfold gP;change (!(eP (sT (pB P))).s&&(decide ((eP (sT (pB P))).r=⟨#[]⟩)&&rpp (fv (sT (pB P)))))=true;rw[h.1,h.2,hR];rfl
 refine⟨e,?_⟩;unfold cA;rw[if_pos e];exact h.1
theorem zkZ {s:ByteArray} (h:gP s=true):(eP ⟨s,false⟩).s=false∧(eP ⟨s,false⟩).r=⟨#[]⟩∧rpp (fv ⟨s,false⟩)=true∧cA s=fv ⟨s,false⟩:=by
 have e:cA s=fv ⟨s,false⟩:=by unfold cA;rw[if_pos h]
 unfold gP at h;simp only[Bool.and_eq_true,Bool.not_eq_true',decide_eq_true_eq] at h;exact⟨h.1,h.2.1,h.2.2,e⟩
theorem zk0 {s:ByteArray} (h:gP s=true):pB (cA s)=s.data.toList∧rpp (cA s)=true∧fj (cA s):=by
 obtain⟨h1,h2,h3,h4⟩:=zkZ h;rw[h4];rw[zqk] at h1 h2 h3 ⊢;obtain⟨t,e1,e2,e3⟩:=zkY h1 h3;rw[e2] at h2
 have ht:t=[]:=by
  rw[lj] at h2;have:=congrArg (fun b:ByteArray=>b.data.toList) h2;simpa using this
 rw[ht,List.append_nil] at e1;exact⟨e1.symm,h3,e3⟩
theorem zk1 {p:Nat} {t:ByteArray} (h:gW p t=true∨br p t=true):(cM p t).length=36:=by
 rcases h with h|h
 ·rw[tJ h,List.length_append,fO];rfl
 ·obtain⟨-,e⟩:=zgd h
  rw[tK (tL e),List.length_append,fO,Array.length_toList];have:t.data.size=32:=e;omega
theorem zmP (r:Rw):(dD r).length=17+r.v.size:=by
 unfold dD;simp only[List.length_append,fO,Array.length_toList];have:r.v.data.size=r.v.size:=rfl;omega
theorem tS {α:Type} (f:α→List UInt8) (m:Nat):∀ (l:List α),(∀ a∈l,(f a).length≤m)→(l.flatMap f).length≤l.length*m
 |[],_=>by simp
 |a::l,h=>by
  have h1:=h a us;have ih:=tS f m l fun b hb=>h b (by simp[hb])
  rw[List.flatMap_cons,List.length_append,List.length_cons,Nat.succ_mul];omega
theorem zpS {P:Pp} (hR:rpp P=true):0<(pB P).length∧(pB P).length≤198:=by
 rcases tQ hR with hk|hk
 ·obtain⟨h1,h2,h3,h4,-⟩:=tO hk hR
  unfold pB jI;rw[if_pos hk];simp only[List.length_append,fO,zk1 h1];have:=tS dD 33 P.l fun r hr=>by rw[zmP];have:=h4 r hr;omega
  omega
 ·obtain⟨h1,h2,h3,-⟩:=tP hk hR
  unfold pB jJ;rw[if_neg uo];simp only[List.length_append,fO];have:=tS (fun r:Rf=>cM r.p r.t) 36 P.ks fun r hr=>by rw[zk1 (.inr (h3 r hr))];exact Nat.le_refl _
  omega
def encS (P:Pp):ByteArray:=if rpp P=true then⟨(pB P).toArray⟩ else⟨#[]⟩
def dM (P:Pp):Int:=if rpp P=true then 0 else 90
theorem ou (q:Pg) (P:Pp) (w:World) (h:dt w q P) (ho:fj P):
  Calls Tryz.prog 197 #[gv q] w fun e w'=>e=.returned (.tuple #[.string (encS P),.int .i64 (dM P)])∧Below w.heap.size w w':=by
 unfold encS dM;have hr:=h.rpp;cases hR:rpp P
 ·rw[hR] at hr
  exact zkL q P.l P.ks w h.at' hr
 ·rw[hR] at hr
  have e:ns q P.l P.ks=pB P:=by unfold ns pB;rw[h.k,h.np,h.nt,h.X,h.Y,h.L]
  have:=zkK q P.l P.ks w h.at' (by rw[h.np];exact ho.np) ho.kids hr;rw[e] at this;simpa using this
end Rw
namespace Rz
open Go.RowKit Go.Lib Go.Shelf
open Rc Rq
open Rw (Rf dR fc eO Pp dt fj encS dM pz gv Pg rpp pB)
structure Sv where
 t:ByteArray
 r:Rf
def zf:Rf:=⟨0,⟨#[]⟩⟩
def zs:Sv:=⟨⟨#[]⟩,zf⟩
abbrev sv (x:Sv):Value:=.agg #[.string x.t,.int .u32 (x.r.p:Int),.string x.r.t]
def sc (x:Sv):List Value:=[.string x.t,.int .u32 (x.r.p:Int),.string x.r.t]
abbrev Pm (σ:Type):=σ→ByteArray→(Rf × Int) × σ
structure Gr (σ:Type) where
 s:σ
 ys:List Sv
 e:Int
 r:Rf
def dS {σ:Type} (pl:Pm σ) (s:σ) (P:Pp):Gr σ:=
 if dM P=0 then
  (if(pl s (encS P)).1.2=0 then⟨(pl s (encS P)).2,[⟨encS P,(pl s (encS P)).1.1⟩],0,(pl s (encS P)).1.1⟩
  else⟨(pl s (encS P)).2,[],(pl s (encS P)).1.2,zf⟩)
 else⟨s,[],dM P,zf⟩
def Gr.then {σ:Type} (g:Gr σ) (f:σ→Rf→Gr σ):Gr σ:=
 if g.e=0 then⟨(f g.s g.r).s,g.ys++(f g.s g.r).ys,(f g.s g.r).e,(f g.s g.r).r⟩ else g
def piece (l:List Rw) (i:Nat):List Rw:=(l.drop (4*i)).take 4
def eo (l:List Rw) (next:Rf):Pp:=⟨1,0,0,0,l,[],next.p,next.t⟩
def gI (l:List Rw) (ks:List Rf):Pp:=⟨2,cx l,cy l,(cQ l:Int),[],ks,0,⟨#[]⟩⟩
def di {σ:Type} (pl:Pm σ) (l:List Rw):Nat→σ→Rf→Gr σ
 |0,s,next=>⟨s,[],0,next⟩
 |i+1,s,next=>(dS pl s (eo (piece l i) next)).then fun s' r=>di pl l i s' r
def cY (l:List Rw):Nat:=(l.length - 1)/4+1
def cL {σ:Type} (f:σ→List Rw→Gr σ):List (List Rw)→σ→List Rf→Gr σ × List Rf
 |[],s,rs=>(⟨s,[],0,zf⟩,rs)
 |m::ms,s,rs=>
  if(f s m).e=0 then
   (⟨(cL f ms (f s m).s (rs++[(f s m).r])).1.s,(f s m).ys++(cL f ms (f s m).s (rs++[(f s m).r])).1.ys,(cL f ms (f s m).s (rs++[(f s m).r])).1.e,(cL f ms (f s m).s (rs++[(f s m).r])).1.r⟩,(cL f ms (f s m).s (rs++[(f s m).r])).2)
  else(f s m,rs)
def bW {σ : Type} (pl : Pm σ) : Nat → σ → List Rw → Gr σ
  | 0, s, _ => ⟨s, [], 0, zf⟩
  | d + 1, s, l =>
    if leaf l = true then di pl l (cY l) s zf
    else
      (if (cL (bW pl d) (cR l) s []).1.e = 0 then
        ⟨(dS pl (cL (bW pl d) (cR l) s []).1.s (gI l (cL (bW pl d) (cR l) s []).2)).s,
         (cL (bW pl d) (cR l) s []).1.ys ++ (dS pl (cL (bW pl d) (cR l) s []).1.s (gI l (cL (bW pl d) (cR l) s []).2)).ys,
         (dS pl (cL (bW pl d) (cR l) s []).1.s (gI l (cL (bW pl d) (cR l) s []).2)).e,
         (dS pl (cL (bW pl d) (cR l) s []).1.s (gI l (cL (bW pl d) (cR l) s []).2)).r⟩
      else ⟨(cL (bW pl d) (cR l) s []).1.s, (cL (bW pl d) (cR l) s []).1.ys, (cL (bW pl d) (cR l) s []).1.e, zf⟩)
abbrev yv (x:Sv × Int):Array Value:=#[sv x.1,.int .i64 x.2]
def Fit {σ:Type} (it:Nat→Sv × Int→Bool→Prop) (k:Nat) (g:Gr σ):Prop:=(∀ i x,g.ys[i]? =some x→it (k+i) (x,0) true)∧(g.e≠0→it (k+g.ys.length) (zs,g.e) false)
theorem Fit.left {σ:Type} {it:Nat→Sv × Int→Bool→Prop} {k:Nat} {g:Gr σ} {f:σ→Rf→Gr σ} (h:Fit it k (g.then f)):Fit it k g:=by
 unfold Gr.then at h;by_cases he:g.e=0
 ·rw[if_pos he] at h
  refine⟨fun i x hx=>h.1 i x ?_,fun hn=>absurd he hn⟩;have:=(List.getElem?_eq_some_iff.1 hx).1;rw[List.getElem?_append_left this];exact hx
 ·rw[if_neg he] at h;exact h
structure Ask (l B:Nat) (V:Nat→Prop) (it:Nat→Sv × Int→Bool→Prop) (R:(Nat→Prop)→Nat→World→Prop) (Rx:(Nat→Prop)→World→Prop):Prop where
 keep:∀ own k W W',R own k W→Kv B V own W W'→R own k W'
 keepx:∀ own W W',Rx own W→Kv B V own W W'→Rx own W'
 yld:∀ own k x b W,it k x b→R own k W→(∀ j,own j→j<W.heap.size)→YieldAt Fence.wide 0 Tryz.prog l (yv x) W (YP R Rx own (k+1) W b)
structure iB {σ:Type} (B:Nat) (V:Nat→Prop) (pl:Pm σ) (pf:Nat) (pb:Array Value) (I:σ→(Nat→Prop)→World→Prop):Prop where
 eg:∀ args w,(callFunc pf args).run Tryz.prog w=.ok (.enter pf args) w
 lt:∀ s F W,I s F W→∀ k,F k→k<W.heap.size
 fp:∀ s F W,I s F W→∀ k,F k→V k∨B≤k
 keep:∀ s F W W',I s F W→W.heap.size≤W'.heap.size→(∀ k,F k→W'.heap[k]? =W.heap[k]?)→I s F W'
 small:∀ s t,(pl s t).1.1.p<4294967296
 call:∀ s F W t,t.size≤198→I s F W→Calls Tryz.prog pf (#[.string t]++pb) W fun e W'=>e=.returned (.tuple #[dR (pl s t).1.1,.int .i64 (pl s t).1.2])∧∃ F',I (pl s t).2 F' W'∧bC F W W'∧cu F F' W W'
theorem ov (P:Pp):(encS P).size≤198:=by
 unfold encS;split
 ·rename_i h
  have:=(Rw.zpS h).2;show(pB P).toArray.size≤198;simpa using this
 ·exact Nat.zero_le _
structure Dj (own F:Nat→Prop) (W:World):Prop where
 lt:∀ j,own j→j<W.heap.size
 no:∀ j,own j→¬F j
theorem cu.refl (own:Nat→Prop) (W W':World):cu own own W W':=fun _ h=>.inl h
theorem cu.trans {a b c:Nat→Prop} {W1 W2 W3:World} (h:cu a b W1 W2) (k:cu b c W2 W3) (h1:W1.heap.size≤W2.heap.size) (h2:W2.heap.size≤W3.heap.size):cu a c W1 W3:=fun j hj=>by
 rcases k j hj with x|x
 ·rcases h j x with y|y
  ·exact .inl y
  ·exact .inr ⟨y.1,by omega⟩
 ·exact .inr ⟨by omega,x.2⟩
def GP {σ:Type} (R:(Nat→Prop)→Nat→World→Prop) (Rx:(Nat→Prop)→World→Prop) (I:σ→(Nat→Prop)→World→Prop) (own F:Nat→Prop) (k:Nat) (g:Gr σ) (W:World) (e:Ending) (W':World):Prop:=
 e=.returned (.tuple #[dR g.r,.bool (decide (g.e=0))])∧∃ own' F',(cu own own' W W'∧cu F F' W W')∧Dj own' F' W'∧bC (fun j=>own j∨F j) W W'∧I g.s F' W'∧(g.e=0→R own' (k+g.ys.length) W')∧(g.e≠0→Rx own' W')
theorem zic {σ:Type} (pl:Pm σ) (s:σ) (P:Pp):¬(dS pl s P).e=0→(dS pl s P).r=zf:=by
 unfold dS;split
 ·split
  ·intro h;exact absurd rfl h
  ·intro _;rfl
 ·intro _;rfl
theorem qe {σ:Type} {pl:Pm σ} (hs:∀ s t,(pl s t).1.1.p<4294967296) (s:σ) (P:Pp):(dS pl s P).r.p<4294967296:=by
 unfold dS;split
 ·split
  ·exact hs s _
  ·exact Nat.zero_lt_succ _
 ·exact Nat.zero_lt_succ _
theorem zcY {σ:Type} {pl:Pm σ} (hs:∀ s t,(pl s t).1.1.p<4294967296) (l:List Rw):∀ (i:Nat) (s:σ) (next:Rf),next.p<4294967296→(di pl l i s next).r.p<4294967296
 |0,_,_,h=>h
 |i+1,s,next,_=>by
  unfold di Gr.then;split
  ·exact zcY hs l i _ _ (qe hs _ _)
  ·exact qe hs _ _
theorem tT {σ:Type} {pl:Pm σ} (hs:∀ s t,(pl s t).1.1.p<4294967296):∀ (d:Nat) (s:σ) (l:List Rw),(bW pl d s l).r.p<4294967296
 |0,_,_=>Nat.zero_lt_succ _
 |d+1,s,l=>by
  unfold bW;split
  ·exact zcY hs l _ _ _ (Nat.zero_lt_succ _)
  ·split
   ·exact qe hs _ _
   ·exact Nat.zero_lt_succ _
open Go.RowKit Go.Lib
theorem zoQ (o:Option Addr) (n cap k m:Nat) (w:World) (hk:k≤m) (hm:m≤cap) (ho:o=none→cap=0):(Instr.sliceAt 22 (.slice o n cap) (some (.int .i64 (k:Int))) (some (.int .i64 (m:Int))) none).run Tryz.prog w=.ok (.slice (if cap=k then o else o.map (·.add (k*4))) (m - k) (cap - k)) w:=by
 have h1:(k:Int)≤(m:Int):=uo
 have h2:(m:Int)≤(cap:Int):=uo
 cases o with
 |none=>
  have:=ho rfl;subst this;obtain rfl:m=0:=uo
  obtain rfl:k=0:=uo
  simp[Instr.sliceAt,Instr.slice,run_underlying Tryz.underlying22,go_sem]
 |some a=>
  simp[Instr.sliceAt,Instr.slice,run_underlying Tryz.underlying22,go_sem];rw[if_pos hm,if_pos hk]
theorem zmQ {w:World} {o:Option Addr} {cap:Nat} {l:List Rw} (h:cH w o cap l) {k m:Nat} (hk:k≤m) (hm:m≤l.length):cH w (if cap=k then o else o.map (·.add (k*4))) (cap - k) ((l.drop k).take (m - k)):=by
 have hl:((l.drop k).take (m - k)).length=m - k:=by rw[List.length_take,List.length_drop];omega
 have h1:=h.1;have h2:=h.2.1;refine⟨by omega,by omega,fun e=>?_,nk rc 4 (fun _=>rfl) _,fun hn=>?_⟩
 ·by_cases hc:cap=k
  ·omega
  ·rw[if_neg hc] at e
   have:o=none:=by cases o with|none=>rfl|some a=>simp at e
   have:=h.2.2.1 this;omega
 ·obtain⟨b,off,e,hlt,hc⟩:=h.2.2.2.2 uo
  have hck:¬cap=k:=uo
  rw[if_neg hck,e];refine⟨b,off+k*4,?_,hlt,fun j u hu=>?_⟩
  ·simp[Addr.add]
  ·have e2:l.flatMap rc=(l.take k).flatMap rc++(((l.drop k).take (m - k)).flatMap rc++((l.drop k).drop (m - k)).flatMap rc):=by rw[←List.flatMap_append,←List.flatMap_append,List.take_append_drop,List.take_append_drop]
   have e3:((l.take k).flatMap rc).length=k*4:=by rw[nk rc 4 (fun _=>rfl),List.length_take];congr 1;omega
   have:=hc (k*4+j) u (by rw[e2,List.getElem?_append_right uo,e3,Nat.add_sub_cancel_left,List.getElem?_append_left (List.getElem?_eq_some_iff.1 hu).1];exact hu);rwa[←Nat.add_assoc] at this
def pend (n i:Nat):Nat:=if 4*i+4≤n then 4*i+4 else n
theorem zid (l:List Rw) (i:Nat) (h:4*i≤l.length):piece l i=(l.drop (4*i)).take (pend l.length i - 4*i):=by
 unfold piece pend;by_cases h1:4*i+4≤l.length
 ·rw[if_pos h1,show 4*i+4 - 4*i=4 by omega]
 ·rw[if_neg h1,List.take_of_length_le (by rw[List.length_drop];omega),List.take_of_length_le (by rw[List.length_drop];omega)]
theorem zk2 (l:List Rw) (i:Nat) (h:4*i≤l.length):(piece l i).length=pend l.length i - 4*i:=by
 rw[zid l i h,List.length_take,List.length_drop];unfold pend;split<;>omega
theorem zk3 {l:List Rw} {i:Nat} {r:Rw} (h:r∈piece l i):r∈l:=List.mem_of_mem_drop (List.mem_of_mem_take h)
open Go.RowKit
open Go.ChangeMaps (setBlock)
open Rq (bC)
open Rd (ki)
open Rw (Rf dR)
theorem zpT {S:Nat→Prop} {w w':World} (h:Rd.bC S w w'):bC S w w':=⟨h.os,h.tape,h.output,h.size,h.block⟩
theorem zk4 {a b:ByteArray} (h:Value.string a=.string b):a=b:=by cases h;rfl
def Wh (w:World) (m:Nat) (f:ByteArray→Option Rf):Prop:=
 ∃ es clock,w.heap[m]? =some (.map es clock)∧MapKept.Stamped es clock∧
  (∀ e∈es.toList,∃ (p:ByteArray) (t:Rf),e.key=.string p∧e.val=dR t∧f p=some t)∧
  (∀ p t,f p=some t→∃ e∈es.toList,e.key=.string p∧e.val=dR t)
theorem Wh.same {w w':World} {m:Nat} {f:ByteArray→Option Rf} (h:Wh w m f) (e:w'.heap[m]? =w.heap[m]?):Wh w' m f:=by
 obtain⟨es,c,h1,h2⟩:=h;exact⟨es,c,e.trans h1,h2⟩
theorem Wh.lt {w:World} {m:Nat} {f:ByteArray→Option Rf} (h:Wh w m f):m<w.heap.size:=by
 obtain⟨es,c,h1,h2⟩:=h;exact(zi h1).1
theorem Wh.made (w:World):Wh (w.alloc (.map #[] 0)) w.heap.size (fun _=>none):=
 ⟨#[],0,zq w _,MapKept.stamped_empty 0,by simp,by simp⟩
theorem Wh.look {w:World} {m:Nat} {f:ByteArray→Option Rf} (h:Wh w m f) (p:ByteArray) (c:Bool):
  (Instr.lookup 145 (.map (some m)) (.string p) c).run Tryz.prog w=.ok (if c then .tuple #[dR ((f p).getD zf),.bool (f p).isSome] else dR ((f p).getD zf)) w:=by
 obtain⟨es,cl,h1,h2,h3,h4⟩:=h;have hk:MapKept.IsKey .string (.string p):=trivial
 have hks:∀ e∈es.toList,MapKept.IsKey .string e.key:=fun e he=>by
  obtain⟨q,t,e1,_⟩:=h3 e he;rw[e1];trivial
 have hz:(zeroValue 49).run Tryz.prog w=.ok (dR zf) w:=Tryz.zeroValue49 w;rcases MapKept.findNow_spec hk es.toList 0 hks with⟨k1,k2⟩|⟨j,e0,k1,k2,k3⟩
 ·have hf:f p=none:=by
   cases hf:f p with
   |none=>rfl
   |some t=>
    obtain⟨e,he,e1,_⟩:=h4 p t hf;exact absurd e1 (k2 e he)
  rw[hf];have fk:=MapKept.run_findKey (w:=w) Tryz.underlying9 k1;simp only[Instr.lookup,Sem.run_bind,run_underlying Tryz.underlying145,MapKept.run_getObj_map h1,MapKept.run_checkKey Tryz.underlying9 hk _ 9999,fk,hz,Result.andThen,Sem.run_pure];rfl
 ·have hm0:e0∈es.toList:=List.mem_of_getElem? k2
  obtain⟨q,t,e1,e2,e3⟩:=h3 e0 hm0;have hq:q=p:=by rw[k3] at e1;exact(zk4 e1).symm
  subst hq;rw[e3];have fk:=MapKept.run_findKey (w:=w) Tryz.underlying9 k1;rw[e2] at fk;simp only[Instr.lookup,Sem.run_bind,run_underlying Tryz.underlying145,MapKept.run_getObj_map h1,MapKept.run_checkKey Tryz.underlying9 hk _ 9999,fk,Result.andThen,Sem.run_pure];rfl
def cE (f:ByteArray→Option Rf) (p:ByteArray) (t:Option Rf):ByteArray→Option Rf:=fun q=>if q=p then t else f q
theorem Wh.update {w:World} {m:Nat} {f:ByteArray→Option Rf} (h:Wh w m f) (p:ByteArray) (t:Rf):
  ∃ w',(Instr.mapUpdate 145 (.map (some m)) (.string p) (dR t)).run Tryz.prog w=.ok () w'∧Wh w' m (cE f p (some t))∧bC (fun k=>k=m) w w'∧w'.heap.size=w.heap.size:=by
 obtain⟨es,cl,h1,h2,h3,h4⟩:=h;have hk:MapKept.IsKey .string (.string p):=trivial
 have hks:∀ e∈es.toList,MapKept.IsKey .string e.key:=fun e he=>by
  obtain⟨q,t,e1,_⟩:=h3 e he;rw[e1];trivial
 rcases MapKept.findNow_spec hk es.toList 0 hks with⟨k1,k2⟩|⟨j,e0,k1,k2,k3⟩
 ·have hnone:f p=none:=by
   cases hf:f p with
   |none=>rfl
   |some t=>
    obtain⟨e,he,e1,_⟩:=h4 p t hf;exact absurd e1 (k2 e he)
  have fk:=MapKept.run_findKey (w:=w) Tryz.underlying9 k1;refine⟨setBlock w m (.map (es.push ⟨.string p,dR t,cl⟩) (cl+1)),?_,⟨_,_,ki h1,MapKept.stamped_push h2 k2,?_,?_⟩,zpT (Rd.bC.setBlock _ _ _ rfl),by simp[ChangeMaps.setBlock]⟩
  ·simp only[Instr.mapUpdate,Sem.run_bind,run_underlying Tryz.underlying145,MapKept.run_getObj_map h1,MapKept.run_checkKey Tryz.underlying9 hk _ 9999,fk,Result.andThen,MapKept.run_setObj_map _ h1]
   rfl
  ·intro e he
   rw[Array.toList_push,List.mem_append] at he;rcases he with he|he
   ·obtain⟨q,s,e1,e2,e3⟩:=h3 e he
    refine⟨q,s,e1,e2,?_⟩;unfold cE;rw[if_neg fun hqp=>k2 e he (by rw[e1,hqp]),e3]
   ·simp at he
    subst he;exact⟨p,t,rfl,rfl,by simp[cE]⟩
  ·intro q s hq
   unfold cE at hq;rw[Array.toList_push];split at hq
   ·rename_i e
    cases hq;exact⟨_,List.mem_append.2 (.inr (by simp;rfl)),by rw[e],rfl⟩
   ·obtain⟨e,he,e1⟩:=h4 q s hq
    exact⟨e,List.mem_append.2 (.inl he),e1⟩
 ·have fk:=MapKept.run_findKey (w:=w) Tryz.underlying9 k1
  have hj:es[j]? =some e0:=by rw[←Array.getElem?_toList];exact k2
  have hjl:j<es.size:=(zi hj).1;have hgj:es[j]=e0:=(zi hj).2
  have hget:∀ i,(es.modify j fun e=>{ e with key:=.string p,val:=dR t })[i]? =if j=i then some { e0 with key:=.string p,val:=dR t } else es[i]? :=by
   intro i;rw[Array.getElem?_modify];split
   ·rename_i e;subst e;rw[hj];rfl
   ·rfl
  have hdis:=(MapKept.stamped_iff es cl).1 h2;refine⟨setBlock w m (.map (es.modify j fun e=>{ e with key:=.string p,val:=dR t }) cl),?_,⟨_,_,ki h1,MapKept.stamped_modify h2 j _ (fun _ _=>rfl) (fun e _ he=>?_),?_,?_⟩,zpT (Rd.bC.setBlock _ _ _ rfl),by simp[ChangeMaps.setBlock]⟩
  ·simp only[Instr.mapUpdate,Sem.run_bind,run_underlying Tryz.underlying145,MapKept.run_getObj_map h1,MapKept.run_checkKey Tryz.underlying9 hk _ 9999,fk,Result.andThen,Nat.zero_add,hj,Option.map_some,Option.getD_some,k3,MapKept.run_keyThatStays hk,MapKept.run_setObj_map _ h1]
   rfl
  ·rw[hj] at he;cases he;exact k3.symm
  ·intro e he
   rw[List.mem_iff_getElem?] at he;obtain⟨i,hi⟩:=he;rw[Array.getElem?_toList,hget] at hi;split at hi
   ·cases hi
    exact⟨p,t,rfl,rfl,by simp[cE]⟩
   ·rename_i hne
    have hm:e∈es.toList:=by rw[List.mem_iff_getElem?];exact⟨i,by rw[Array.getElem?_toList];exact hi⟩
    obtain⟨q,s,e1,e2,e3⟩:=h3 e hm;refine⟨q,s,e1,e2,?_⟩;unfold cE;rw[if_neg fun hqp=>?_,e3];have hil:i<es.size:=(zi hi).1;have hgi:es[i]=e:=(zi hi).2;have hp:=hdis.2.2;rw[List.pairwise_iff_getElem] at hp;rcases Nat.lt_or_gt_of_ne hne with hlt|hlt
    ·exact hp j i (by simpa using hjl) (by simpa using hil) hlt (by simp only[Array.getElem_toList];rw[hgj,hgi,k3,e1,hqp])
    ·exact hp i j (by simpa using hil) (by simpa using hjl) hlt (by simp only[Array.getElem_toList];rw[hgj,hgi,k3,e1,hqp])
  ·intro q s hq
   unfold cE at hq;split at hq
   ·rename_i e
    cases hq;refine⟨{ e0 with key:=.string p,val:=dR t },List.mem_iff_getElem?.2 ⟨j,by rw[Array.getElem?_toList,hget,if_pos rfl]⟩,by rw[e],rfl⟩
   ·rename_i hqp
    obtain⟨e,he,e1,e2⟩:=h4 q s hq;rw[List.mem_iff_getElem?] at he;obtain⟨i,hi⟩:=he;refine⟨e,List.mem_iff_getElem?.2 ⟨i,?_⟩,e1,e2⟩;rw[Array.getElem?_toList] at hi ⊢;rw[hget,if_neg,hi];intro hji;subst hji;rw[hj] at hi;cases hi;rw[k3] at e1;exact hqp (zk4 e1).symm
end Rz
namespace Rw
open Go.RowKit Go.Lib Go.Shelf
open Rc Rq
theorem nm {s t:ByteArray} (h:s≠t) (e:s.toList=t.toList):False:=by
 rw[ByteArray.toList_eq,ByteArray.toList_eq] at e;apply h;obtain⟨⟨a⟩⟩:=s;obtain⟨⟨b⟩⟩:=t;have e':a=b:=e;rw[e']
def jb (r s:Rf):Bool:=decide (r.p=s.p)&&decide (r.t=s.t)
theorem tU (r s:Rf):jb r s=true↔r=s:=by
 unfold jb;simp only[Bool.and_eq_true,decide_eq_true_eq];exact⟨fun h=>Rf.eq h.1 h.2,fun h=>by rw[h];exact⟨rfl,rfl⟩⟩
theorem zmR (a a':Nat) (s t:ByteArray) (w:World):(binOp .eql 49 (.agg #[.int .u32 (a:Int),.string s]) (.agg #[.int .u32 (a':Int),.string t])).run Tryz.prog w=.ok (.bool (jb ⟨a,s⟩ ⟨a',t⟩)) w:=by
 have hS:Tryz.prog.underlying 49=some (.struct (Tryz.prog.fieldsOf 49)):=uk
 have hp:Tryz.prog.stoodInHeld 49=false:=uk
 have u2:=Tryz.underlying41;have u9:=Tryz.underlying9;rw[run_eql_struct,show(10000:Nat)=9999+1 from rfl,run_equalIn_agg w 9999 49 _ _ hS hp];simp only[Program.fieldsOf,Tryz.underlying49];unfold jb;simp only;by_cases h1:a=a'
 ·subst h1
  by_cases h4:s=t
  ·subst h4
   go_simp
  ·go_simp
   exact fun e=>nm h4 e
 ·go_simp
  exact fun e=>absurd (Int.ofNat_inj.1 e) h1
theorem zie (a a':Nat) (s t:ByteArray) (w:World):(binOp .neq 49 (.agg #[.int .u32 (a:Int),.string s]) (.agg #[.int .u32 (a':Int),.string t])).run Tryz.prog w=.ok (.bool (!jb ⟨a,s⟩ ⟨a',t⟩)) w:=by
 have h:=zmR a a' s t w;rw[run_eql_struct] at h;rw[run_neq_struct];cases e:(Op.equalIn 10000 49 (.agg #[.int .u32 (a:Int),.string s]) (.agg #[.int .u32 (a':Int),.string t])).run Tryz.prog w with
 |ok b w'=>rw[e] at h;simp[Result.andThen] at h ⊢;simp[h]
 |_=>rw[e] at h;simp[Result.andThen] at h
end Rw
end Go.Proofs.YtokfnghckpgjmaaGreatDoor
