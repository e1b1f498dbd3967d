/- A reader: leaves. -/
import Derived.Test.YtokfnghckpgjmaaGreatDoorQID
import Derived.Test.YtokfnghckpgjmaaGreatDoorQGF
set_option maxRecDepth 100000
set_option maxHeartbeats 3000000
namespace Go.Proofs.YtokfnghckpgjmaaGreatDoor
namespace Rw
open Go.RowKit Go.Lib Go.Shelf
open Rc Rq
theorem zbp {fn:Func} {p:Tmp} (h:fn.results=#[.cell p 155]) (tmps:Array Value) (w:World) (g:Nat) (a b c d e f i j:Value) {t:TypeId} {fr:Nat × Nat}
  (hp:tmps.getD p undef=.pointer (some ⟨g,0,none⟩)) (hg:w.heap[g]? =some (.cells #[a,b,c,d,e,f,i,j] t fr)):(results fn tmps).run Tryz.prog w=.ok (.agg #[a,b,c,d,e,f,i,j]) w:=by
 have hp':tmps[p]?.getD undef=.pointer (some ⟨g,0,none⟩):=by simpa using hp
 have c0:w.cell? ⟨g,0,none⟩=some a:=by rw[zr hg];rfl
 have c1:w.cell? ⟨g,1,none⟩=some b:=by rw[zr hg];rfl
 have c2:w.cell? ⟨g,2,none⟩=some c:=by rw[zr hg];rfl
 have c3:w.cell? ⟨g,3,none⟩=some d:=by rw[zr hg];rfl
 have c4:w.cell? ⟨g,4,none⟩=some e:=by rw[zr hg];rfl
 have c5:w.cell? ⟨g,5,none⟩=some f:=by rw[zr hg];rfl
 have c6:w.cell? ⟨g,6,none⟩=some i:=by rw[zr hg];rfl
 have c7:w.cell? ⟨g,7,none⟩=some j:=by rw[zr hg];rfl
 simp[results,h,hp',asAddr,go_sem,c0,c1,c2,c3,c4,c5,c6,c7]
theorem zmL (w:World) (a:Addr) (v:Value):(w.setCell a v).os=w.os:=rfl
theorem zfl (w:World) (a:Addr) (v:Value):(w.setCell a v).tape=w.tape:=rfl
theorem zh4 (w:World) (a:Addr) (v:Value):(w.setCell a v).output=w.output:=rfl
theorem zfm (w:World) (a:Addr) (v:Value):(w.setCell a v).heap.size=w.heap.size:=by simp[World.setCell]
def QT (g p:Nat) (t:ByteArray) (w:World):Prop:=w.cell? ⟨g,0,none⟩=some (.int .u32 (p:Int))∧w.cell? ⟨g,1,none⟩=some (.string t)
theorem zgb {W W':World} {B base:Nat} {v:Value} {n:Nat} {xs:List Value} (hB:B≤base) (h:W.ownsRow base 79 4 v n xs) (hs:∀ b,base≤b→b<W.heap.size→W'.heap[b]? =W.heap[b]?):W'.ownsRow B 79 4 v n xs:=by
 refine⟨h.1,?_⟩;rcases h.2 with h2|⟨g,cap,cur,h1,h2,h3,h4⟩
 ·exact .inl h2
 ·exact .inr ⟨g,cap,cur,h1,Nat.le_trans hB h2,(hs g h2 (zi h3).1).trans h3,h4⟩
def lfN (st:RS):Rf:=refS (aftS st 1)
def lfL (st:RS):List Rw × RS:=lstS rowS r5S (numS st 1) (f2S (aftS st 1))
theorem zmM (g:Nat) (st:RS) (w:World) (h:RdS g st w):
  Calls Tryz.prog 164 #[.pointer (some ⟨g,0,none⟩)] w fun e w'=>∃ ro ca,e=.returned (gv ⟨1,0,0,0,ro,(lfL st).1.length,ca,none,0,0,(lfN st).p,(lfN st).t⟩)∧w'.ownsRow w.heap.size 79 4 (.slice ro (lfL st).1.length ca) (lfL st).1.length ((lfL st).1.flatMap rc)∧RdS g (lfL st).2 w'∧Bo g w w':=by
 have HNM:Hid _:=zaD g st 1 (by omega);have HRF:Hid _:=zkR g (aftS st 1);have n1:=zaW st 1;simp only[Nat.reduceMul,Nat.reducePow] at n1;have HLS:Hid _:=zhb g (f2S (aftS st 1)) (numS st 1) (by omega);have lg:g<w.heap.size:=(zi h).1;unfold lfL lfN;obtain⟨n,hn⟩:∃ n,numS st 1=n:=⟨_,rfl⟩;obtain⟨⟨p,t⟩,hf⟩:∃ f,refS (aftS st 1)=f:=⟨_,rfl⟩;obtain⟨l,hl⟩:∃ l,lstS rowS r5S n (f2S (aftS st 1))=l:=⟨_,rfl⟩;rw[hn] at n1 HNM HLS ⊢;rw[hf] at HRF ⊢;rw[hl] at HLS ⊢;have hbn:=zaa w (.cells #[.int .i64 0,.int .u32 0,.int .u32 0,.int .i64 0,.slice none 0 0,.slice none 0 0,.int .u32 0,.string ⟨#[]⟩] 155);have HG0:Hid ((w.alloc (.cells #[.int .i64 0,.int .u32 0,.int .u32 0,.int .i64 0,.slice none 0 0,.slice none 0 0,.int .u32 0,.string ⟨#[]⟩] 155)).heap[w.heap.size]? =some (.cells #[.int .i64 0,.int .u32 0,.int .u32 0,.int .i64 0,.slice none 0 0,.slice none 0 0,.int .u32 0,.string ⟨#[]⟩] 155 (0,0))):=zq w _
 have HR0:Hid (RdS g st (w.alloc (.cells #[.int .i64 0,.int .u32 0,.int .u32 0,.int .i64 0,.slice none 0 0,.slice none 0 0,.int .u32 0,.string ⟨#[]⟩] 155))):=(hbn.block _ lg).trans h;have HB0:Hid (Bo g w (w.alloc (.cells #[.int .i64 0,.int .u32 0,.int .u32 0,.int .i64 0,.slice none 0 0,.slice none 0 0,.int .u32 0,.string ⟨#[]⟩] 155))):=But.of_below hbn;clear h hbn hn hf hl;obtain⟨W0,hW0⟩:∃ W0,w.alloc (.cells #[.int .i64 0,.int .u32 0,.int .u32 0,.int .i64 0,.slice none 0 0,.slice none 0 0,.int .u32 0,.string ⟨#[]⟩] 155)=W0:=⟨_,rfl⟩;have HW0:Hid _:=hW0;rw[hW0] at HG0 HR0 HB0;clear hW0;have hng:w.heap.size≠g:=by omega
 go_enter Tryz.func164,Tryz.ntmps164;go_wp2_with fail;rw[HW0.out];clear HW0;refine(HNM.out W0 HR0.out).mono ?_;rintro e w1 ⟨rfl,r1,b1⟩;have HR1:Hid (RdS g (aftS st 1) w1):=r1;have HB1:Hid (Bo g w w1):=HB0.out.trans b1;have HG1:Hid (w1.heap[w.heap.size]? =some (.cells #[.int .i64 0,.int .u32 0,.int .u32 0,.int .i64 0,.slice none 0 0,.slice none 0 0,.int .u32 0,.string ⟨#[]⟩] 155 (0,0))):=(b1.block _ (zi HG0.out).1 hng).trans HG0.out;clear r1 b1 HR0 HB0 HG0;go_wp2_with fail;refine(HRF.out w1 HR1.out).mono ?_;rintro e w2 ⟨rfl,r2,b2⟩;simp only[fcv];have HR2:Hid (RdS g (f2S (aftS st 1)) w2):=r2;have HB2:Hid (Bo g w w2):=HB1.out.trans b2;have HG2:Hid (w2.heap[w.heap.size]? =some (.cells #[.int .i64 0,.int .u32 0,.int .u32 0,.int .i64 0,.slice none 0 0,.slice none 0 0,.int .u32 0,.string ⟨#[]⟩] 155 (0,0))):=(b2.block _ (zi HG1.out).1 hng).trans HG1.out;have l2:w.heap.size<w2.heap.size:=(zi HG2.out).1
 clear r2 b2 HR1 HB1 HG1;have hbx:=zaa w2 (.cells #[.int .u32 (p:Int),.string t] 49);have HR3:Hid (RdS g (f2S (aftS st 1)) (w2.alloc (.cells #[.int .u32 (p:Int),.string t] 49))):=(hbx.block _ (by omega)).trans HR2.out;have HB3:Hid (Bo g w (w2.alloc (.cells #[.int .u32 (p:Int),.string t] 49))):=HB2.out.trans (But.of_below hbx);have HG3:Hid ((w2.alloc (.cells #[.int .u32 (p:Int),.string t] 49)).heap[w.heap.size]? =some (.cells #[.int .i64 0,.int .u32 0,.int .u32 0,.int .i64 0,.slice none 0 0,.slice none 0 0,.int .u32 0,.string ⟨#[]⟩] 155 (0,0))):=(hbx.block _ (by omega)).trans HG2.out;have hq3:=zq w2 (.cells #[.int .u32 (p:Int),.string t] 49);obtain⟨⟨s0,s1⟩,-⟩:=zco hq3;have HQ3:Hid _:=hq3;clear HR2 HB2 HG2 hbx hq3;go_wp2_with fail;obtain⟨W3,hW3⟩:∃ W3,w2.alloc (.cells #[.int .u32 (p:Int),.string t] 49)=W3:=⟨_,rfl⟩;have hs3:W3.heap.size=w2.heap.size+1:=by rw[←hW3];simp
 rw[hW3] at HR3 HB3 HG3 HQ3 ⊢;have HSW:Hid (QT w2.heap.size p t W3.drew):=(zco HQ3.out).1;refine wp_region_held (S:=QT w2.heap.size p t) (by kernel_rfl) ?_;change wpAnyH _ _ _ _ _ _ _ _ (World.drew _);refine plan [0,1,2,3,4] ?_
 iterate 5
  refine tkH (v:=?_) rfl ?_ HSW.out ?_;rotate_left
  ·rintro w ⟨e0,e1⟩;go_simp;try with_reducible rfl
  conv in(Act.put _ _ _)=>simp only[zL1,zL2,zL3,Act.put,zL4,zL5,zL6]
 refine plan0 ?_;refine zar 5 _ (by kernel_rfl) rfl (by kernel_rfl) (fun K hK=>?_);go_simp;refine(HLS.out W3.drew HR3.out).mono ?_;rintro e w4 ⟨v,rfl,o4,r4,b4⟩;obtain⟨ro,ca,rfl,-⟩:=zai o4;have hg4:=(b4.block _ (zi HG3.out).1 hng).trans HG3.out;have hq4:=(b4.block _ (zi HQ3.out).1 (by omega)).trans HQ3.out;obtain⟨⟨u0,u1⟩,lq⟩:=zco hq4;have HE:Hid (w4.ownsRow W3.heap.size 79 4 (.slice ro l.1.length ca) l.1.length (l.1.flatMap rc)∧RdS g l.2 w4∧Bo g w w4):=⟨o4,r4,HB3.out.trans ((But.of_below (Below.refl _ W3).drew).trans b4)⟩;have l4:w.heap.size<w4.heap.size:=(zi hg4).1;have fz:∀ k,w4.frozen? ⟨w.heap.size,k,none⟩=false:=fun k=>frozen_of_row w4 _ k _ _ hg4
 have f0:=fz 0;have f1:=fz 1;have f2:=fz 2;have f3:=fz 3;have f4:=fz 4;have f5:=fz 5;have f6:=fz 6;have f7:=fz 7;have c0:w4.cell? ⟨w.heap.size,0,none⟩=some (.int .i64 0):=by rw[zr hg4];rfl
 have c1:w4.cell? ⟨w.heap.size,1,none⟩=some (.int .u32 0):=by rw[zr hg4];rfl
 have c2:w4.cell? ⟨w.heap.size,2,none⟩=some (.int .u32 0):=by rw[zr hg4];rfl
 have c3:w4.cell? ⟨w.heap.size,3,none⟩=some (.int .i64 0):=by rw[zr hg4];rfl
 have c4:w4.cell? ⟨w.heap.size,4,none⟩=some (.slice none 0 0):=by rw[zr hg4];rfl
 have c5:w4.cell? ⟨w.heap.size,5,none⟩=some (.slice none 0 0):=by rw[zr hg4];rfl
 have c6:w4.cell? ⟨w.heap.size,6,none⟩=some (.int .u32 0):=by rw[zr hg4];rfl
 have c7:w4.cell? ⟨w.heap.size,7,none⟩=some (.string ⟨#[]⟩):=by rw[zr hg4];rfl
 have HG4:Hid _:=hg4;have HQ4:Hid _:=hq4
 replace HSW:Hid (QT w2.heap.size p t w4):=⟨u0,u1⟩
 refine hK _ _ HSW.out ?_;clear hK K;refine plan [6] ?_;refine tkH (v:=?_) rfl ?_ HSW.out ?_;rotate_left
 ·rintro w ⟨e0,e1⟩;go_simp;try with_reducible rfl
 conv in(Act.put _ _ _)=>simp only[zL1,zL2,zL3,Act.put,zL4,zL5,zL6]
 refine plan0 ?_;refine zar 7 _ (by kernel_rfl) rfl (by kernel_rfl) (fun K hK=>?_);clear r4 b4 o4 hg4 hq4 fz HR3 HB3 HG3 HQ3;have X1:=zx w4 w.heap.size 0 _ _ (.int .i64 1) HG4.out;have X2:=zx _ w.heap.size 1 _ _ (.int .u32 0) X1;have X3:=zx _ w.heap.size 2 _ _ (.int .u32 0) X2;have X4:=zx _ w.heap.size 3 _ _ (.int .i64 0) X3;have X5:=zx _ w.heap.size 4 _ _ (.slice ro l.1.length ca) X4;have X6:=zx _ w.heap.size 5 _ _ (.slice none 0 0) X5;have X7:=zx _ w.heap.size 6 _ _ (.int .u32 (p:Int)) X6;have X8:=zx _ w.heap.size 7 _ _ (.string t) X7;simp only[List.setIfInBounds_toArray,List.set_cons_zero,List.set_cons_succ] at X8;have HX:Hid _:=X8
 have hoth:∀ j,j≠w.heap.size→(((((((((w4.setCell ⟨w.heap.size,0,none⟩ (.int .i64 1)).setCell ⟨w.heap.size,1,none⟩ (.int .u32 0)).setCell ⟨w.heap.size,2,none⟩ (.int .u32 0)).setCell ⟨w.heap.size,3,none⟩ (.int .i64 0)).setCell ⟨w.heap.size,4,none⟩ (.slice ro l.1.length ca)).setCell ⟨w.heap.size,5,none⟩ (.slice none 0 0)).setCell ⟨w.heap.size,6,none⟩ (.int .u32 (p:Int))).setCell ⟨w.heap.size,7,none⟩ (.string t))).heap[j]? =w4.heap[j]? :=fun j hj=>by
  rw[Below.heap_setCell _ _ _ _ (fun e=>hj e),Below.heap_setCell _ _ _ _ (fun e=>hj e),Below.heap_setCell _ _ _ _ (fun e=>hj e),Below.heap_setCell _ _ _ _ (fun e=>hj e),Below.heap_setCell _ _ _ _ (fun e=>hj e),Below.heap_setCell _ _ _ _ (fun e=>hj e),Below.heap_setCell _ _ _ _ (fun e=>hj e),Below.heap_setCell _ _ _ _ (fun e=>hj e)]
 have HO:Hid _:=hoth;clear X1 X2 X3 X4 X5 X6 X7 X8 hoth;go_simp;refine hK _ _ (zco ((HO.out w2.heap.size (by omega)).trans HQ4.out)).1 ?_;refine wpAnyH_done (by kernel_rfl) ?_ _;go_wp2_with fail;refine bodyPost_ret (zbp rfl _ _ w.heap.size _ _ _ _ _ _ _ _ rfl HX.out) rfl ⟨ro,ca,rfl,?_,(HO.out g (by omega)).trans HE.out.2.1,?_⟩
 ·exact zgb (by omega) HE.out.1 fun b h1 h2=>HO.out b (by omega)
 ·have hb:=HE.out.2.2
  exact⟨by simp only[zmL];exact hb.os,by simp only[zfl];exact hb.tape,by simp only[zh4];exact hb.output,by simp only[zfm];exact hb.size,fun j hj hn=>(HO.out j (by omega)).trans (hb.block j hj hn)⟩
theorem zgc {W W':World} {B base:Nat} {v:Value} {n:Nat} {xs:List Value} (hB:B≤base) (h:W.ownsRow base 49 2 v n xs) (hs:∀ b,base≤b→b<W.heap.size→W'.heap[b]? =W.heap[b]?):W'.ownsRow B 49 2 v n xs:=by
 refine⟨h.1,?_⟩;rcases h.2 with h2|⟨g,cap,cur,h1,h2,h3,h4⟩
 ·exact .inl h2
 ·exact .inr ⟨g,cap,cur,h1,Nat.le_trans hB h2,(hs g h2 (zi h3).1).trans h3,h4⟩
def QC (g x y l:Nat) (w:World):Prop:=w.cell? ⟨g,0,none⟩=some (.int .u32 (x:Int))∧w.cell? ⟨g,1,none⟩=some (.int .u32 (y:Int))∧w.cell? ⟨g,2,none⟩=some (.int .i64 (l:Int))
theorem zoK {g x y l:Nat} {w:World} {t:TypeId} (h:w.heap[g]? =some (.cells #[.int .u32 (x:Int),.int .u32 (y:Int),.int .i64 (l:Int)] t (0,0))):QC g x y l w:=by
 refine⟨?_,?_,?_⟩<;>(rw[zr h];rfl)
def inC (st:RS):Nat:=numS (aftS st 1) 1
def inX (st:RS):Nat:=numS (aftS (aftS st 1) 1) 4
def inY (st:RS):Nat:=numS (aftS (aftS (aftS st 1) 1) 4) 4
def inL (st:RS):List Rf × RS:=lstS refS f2S (numS st 1) (aftS (aftS (aftS (aftS st 1) 1) 4) 4)
theorem zkS (g:Nat) (st:RS) (w:World) (h:RdS g st w):
  Calls Tryz.prog 165 #[.pointer (some ⟨g,0,none⟩)] w fun e w'=>∃ ro ca,e=.returned (gv ⟨2,inX st,inY st,(inC st:Int),none,0,0,ro,(inL st).1.length,ca,0,⟨#[]⟩⟩)∧w'.ownsRow w.heap.size 49 2 (.slice ro (inL st).1.length ca) (inL st).1.length ((inL st).1.flatMap fc)∧RdS g (inL st).2 w'∧Bo g w w':=by
 have HN1:Hid _:=zaD g st 1 (by omega);have HN2:Hid _:=zaD g (aftS st 1) 1 (by omega);have HN3:Hid _:=zaD g (aftS (aftS st 1) 1) 4 (by omega);have HN4:Hid _:=zaD g (aftS (aftS (aftS st 1) 1) 4) 4 (by omega);have n1:=zaW st 1;have n2:=zaW (aftS st 1) 1;have n3:=zaW (aftS (aftS st 1) 1) 4;have n4:=zaW (aftS (aftS (aftS st 1) 1) 4) 4;simp only[Nat.reduceMul,Nat.reducePow] at n1 n2 n3 n4;have HLS:Hid _:=zhd g (aftS (aftS (aftS (aftS st 1) 1) 4) 4) (numS st 1) (by omega);have lg:g<w.heap.size:=(zi h).1;unfold inL inC inX inY;obtain⟨n,hn⟩:∃ n,numS st 1=n:=⟨_,rfl⟩;obtain⟨l,hl⟩:∃ l,numS (aftS st 1) 1=l:=⟨_,rfl⟩;obtain⟨x,hx⟩:∃ x,numS (aftS (aftS st 1) 1) 4=x:=⟨_,rfl⟩;obtain⟨y,hy⟩:∃ y,numS (aftS (aftS (aftS st 1) 1) 4) 4=y:=⟨_,rfl⟩;obtain⟨L,hL⟩:∃ L,lstS refS f2S n (aftS (aftS (aftS (aftS st 1) 1) 4) 4)=L:=⟨_,rfl⟩;rw[hn] at n1 HN1 HLS ⊢;rw[hl] at n2 HN2 ⊢
 rw[hx] at n3 HN3 ⊢;rw[hy] at n4 HN4 ⊢;rw[hL] at HLS ⊢;have q1:IntKind.u32.wrap (x:Int)=(x:Int):=IntWalk.u32_in _ ⟨by omega,by omega⟩;have q2:IntKind.u32.wrap (y:Int)=(y:Int):=IntWalk.u32_in _ ⟨by omega,by omega⟩;have q3:IntKind.i64.wrap (l:Int)=(l:Int):=wrap_i64 (by omega) (by omega);have hbn:=zaa w (.cells #[.int .i64 0,.int .u32 0,.int .u32 0,.int .i64 0,.slice none 0 0,.slice none 0 0,.int .u32 0,.string ⟨#[]⟩] 155);have HG0:Hid ((w.alloc (.cells #[.int .i64 0,.int .u32 0,.int .u32 0,.int .i64 0,.slice none 0 0,.slice none 0 0,.int .u32 0,.string ⟨#[]⟩] 155)).heap[w.heap.size]? =some (.cells #[.int .i64 0,.int .u32 0,.int .u32 0,.int .i64 0,.slice none 0 0,.slice none 0 0,.int .u32 0,.string ⟨#[]⟩] 155 (0,0))):=zq w _;have HR0:Hid (RdS g st (w.alloc (.cells #[.int .i64 0,.int .u32 0,.int .u32 0,.int .i64 0,.slice none 0 0,.slice none 0 0,.int .u32 0,.string ⟨#[]⟩] 155))):=(hbn.block _ lg).trans h
 have HB0:Hid (Bo g w (w.alloc (.cells #[.int .i64 0,.int .u32 0,.int .u32 0,.int .i64 0,.slice none 0 0,.slice none 0 0,.int .u32 0,.string ⟨#[]⟩] 155))):=But.of_below hbn;clear h hbn hn hl hx hy hL;obtain⟨W0,hW0⟩:∃ W0,w.alloc (.cells #[.int .i64 0,.int .u32 0,.int .u32 0,.int .i64 0,.slice none 0 0,.slice none 0 0,.int .u32 0,.string ⟨#[]⟩] 155)=W0:=⟨_,rfl⟩;have HW0:Hid _:=hW0;rw[hW0] at HG0 HR0 HB0;clear hW0;have hng:w.heap.size≠g:=by omega
 go_enter Tryz.func165,Tryz.ntmps165;go_wp2_with fail;rw[HW0.out];clear HW0;refine(HN1.out W0 HR0.out).mono ?_;rintro e w1 ⟨rfl,r1,b1⟩;have HR1:Hid (RdS g (aftS st 1) w1):=r1;have HB1:Hid (Bo g w w1):=HB0.out.trans b1;have HG1:Hid (w1.heap[w.heap.size]? =some (.cells #[.int .i64 0,.int .u32 0,.int .u32 0,.int .i64 0,.slice none 0 0,.slice none 0 0,.int .u32 0,.string ⟨#[]⟩] 155 (0,0))):=(b1.block _ (zi HG0.out).1 hng).trans HG0.out;clear r1 b1 HR0 HB0 HG0;go_wp2_with fail;refine(HN2.out w1 HR1.out).mono ?_;rintro e w2 ⟨rfl,r1,b1⟩;have HR2:Hid (RdS g (aftS (aftS st 1) 1) w2):=r1;have HB2:Hid (Bo g w w2):=HB1.out.trans b1;have HG2:Hid (w2.heap[w.heap.size]? =some (.cells #[.int .i64 0,.int .u32 0,.int .u32 0,.int .i64 0,.slice none 0 0,.slice none 0 0,.int .u32 0,.string ⟨#[]⟩] 155 (0,0))):=(b1.block _ (zi HG1.out).1 hng).trans HG1.out;clear r1 b1 HR1 HB1 HG1;go_wp2_with fail;refine(HN3.out w2 HR2.out).mono ?_
 rintro e w3 ⟨rfl,r1,b1⟩;have HR3:Hid (RdS g (aftS (aftS (aftS st 1) 1) 4) w3):=r1;have HB3:Hid (Bo g w w3):=HB2.out.trans b1;have HG3:Hid (w3.heap[w.heap.size]? =some (.cells #[.int .i64 0,.int .u32 0,.int .u32 0,.int .i64 0,.slice none 0 0,.slice none 0 0,.int .u32 0,.string ⟨#[]⟩] 155 (0,0))):=(b1.block _ (zi HG2.out).1 hng).trans HG2.out;clear r1 b1 HR2 HB2 HG2;go_wp2_with fail;refine(HN4.out w3 HR3.out).mono ?_;rintro e w4 ⟨rfl,r1,b1⟩;have HR4:Hid (RdS g (aftS (aftS (aftS (aftS st 1) 1) 4) 4) w4):=r1;have HB4:Hid (Bo g w w4):=HB3.out.trans b1;have HG4:Hid (w4.heap[w.heap.size]? =some (.cells #[.int .i64 0,.int .u32 0,.int .u32 0,.int .i64 0,.slice none 0 0,.slice none 0 0,.int .u32 0,.string ⟨#[]⟩] 155 (0,0))):=(b1.block _ (zi HG3.out).1 hng).trans HG3.out;clear r1 b1 HR3 HB3 HG3;have l4:w.heap.size<w4.heap.size:=(zi HG4.out).1;have hbx:=zaa w4 (.cells #[.int .u32 (x:Int),.int .u32 (y:Int),.int .i64 (l:Int)] 70)
 have HR5:Hid (RdS g (aftS (aftS (aftS (aftS st 1) 1) 4) 4) (w4.alloc (.cells #[.int .u32 (x:Int),.int .u32 (y:Int),.int .i64 (l:Int)] 70))):=(hbx.block _ (by omega)).trans HR4.out;have HB5:Hid (Bo g w (w4.alloc (.cells #[.int .u32 (x:Int),.int .u32 (y:Int),.int .i64 (l:Int)] 70))):=HB4.out.trans (But.of_below hbx);have HG5:Hid ((w4.alloc (.cells #[.int .u32 (x:Int),.int .u32 (y:Int),.int .i64 (l:Int)] 70)).heap[w.heap.size]? =some (.cells #[.int .i64 0,.int .u32 0,.int .u32 0,.int .i64 0,.slice none 0 0,.slice none 0 0,.int .u32 0,.string ⟨#[]⟩] 155 (0,0))):=(hbx.block _ (by omega)).trans HG4.out;have hq5:=zq w4 (.cells #[.int .u32 (x:Int),.int .u32 (y:Int),.int .i64 (l:Int)] 70);have HQ5:Hid _:=hq5;clear HR4 HB4 HG4 hbx hq5;go_wp2_with fail;obtain⟨W5,hW5⟩:∃ W5,w4.alloc (.cells #[.int .u32 (x:Int),.int .u32 (y:Int),.int .i64 (l:Int)] 70)=W5:=⟨_,rfl⟩;have hs5:W5.heap.size=w4.heap.size+1:=by rw[←hW5];simp
 rw[hW5] at HR5 HB5 HG5 HQ5 ⊢;have HSW:Hid (QC w4.heap.size x y l W5.drew):=zoK HQ5.out;refine wp_region_held (S:=QC w4.heap.size x y l) (by kernel_rfl) ?_;change wpAnyH _ _ _ _ _ _ _ _ (World.drew _);refine plan [0,1,2,3,4] ?_
 iterate 5
  refine tkH (v:=?_) rfl ?_ HSW.out ?_;rotate_left
  ·rintro w ⟨e0,e1,e2⟩;go_simp;try with_reducible rfl
  conv in(Act.put _ _ _)=>simp only[zL1,zL2,zL3,Act.put,zL4,zL5,zL6]
 refine plan0 ?_;refine zar 5 _ (by kernel_rfl) rfl (by kernel_rfl) (fun K hK=>?_);go_simp;refine(HLS.out W5.drew HR5.out).mono ?_;rintro e w6 ⟨v,rfl,o6,r6,b6⟩;obtain⟨ro,ca,rfl,-⟩:=zai o6;have hg6:=(b6.block _ (zi HG5.out).1 hng).trans HG5.out;have hq6:=(b6.block _ (zi HQ5.out).1 (by omega)).trans HQ5.out;have HE:Hid (w6.ownsRow W5.heap.size 49 2 (.slice ro L.1.length ca) L.1.length (L.1.flatMap fc)∧RdS g L.2 w6∧Bo g w w6):=⟨o6,r6,HB5.out.trans ((But.of_below (Below.refl _ W5).drew).trans b6)⟩;have l6:w.heap.size<w6.heap.size:=(zi hg6).1;have fz:∀ k,w6.frozen? ⟨w.heap.size,k,none⟩=false:=fun k=>frozen_of_row w6 _ k _ _ hg6
 have f0:=fz 0;have f1:=fz 1;have f2:=fz 2;have f3:=fz 3;have f4:=fz 4;have f5:=fz 5;have f6:=fz 6;have f7:=fz 7;have c0:w6.cell? ⟨w.heap.size,0,none⟩=some (.int .i64 0):=by rw[zr hg6];rfl
 have c1:w6.cell? ⟨w.heap.size,1,none⟩=some (.int .u32 0):=by rw[zr hg6];rfl
 have c2:w6.cell? ⟨w.heap.size,2,none⟩=some (.int .u32 0):=by rw[zr hg6];rfl
 have c3:w6.cell? ⟨w.heap.size,3,none⟩=some (.int .i64 0):=by rw[zr hg6];rfl
 have c4:w6.cell? ⟨w.heap.size,4,none⟩=some (.slice none 0 0):=by rw[zr hg6];rfl
 have c5:w6.cell? ⟨w.heap.size,5,none⟩=some (.slice none 0 0):=by rw[zr hg6];rfl
 have c6:w6.cell? ⟨w.heap.size,6,none⟩=some (.int .u32 0):=by rw[zr hg6];rfl
 have c7:w6.cell? ⟨w.heap.size,7,none⟩=some (.string ⟨#[]⟩):=by rw[zr hg6];rfl
 have HG6:Hid _:=hg6;have HQ6:Hid _:=hq6
 replace HSW:Hid (QC w4.heap.size x y l w6):=zoK hq6
 refine hK _ _ HSW.out ?_;clear hK K;refine plan [6] ?_;refine tkH (v:=?_) rfl ?_ HSW.out ?_;rotate_left
 ·rintro w ⟨e0,e1,e2⟩;go_simp;try with_reducible rfl
 conv in(Act.put _ _ _)=>simp only[zL1,zL2,zL3,Act.put,zL4,zL5,zL6]
 refine plan0 ?_;refine zar 7 _ (by kernel_rfl) rfl (by kernel_rfl) (fun K hK=>?_);clear r6 b6 o6 hg6 hq6 fz HR5 HB5 HG5 HQ5;have X1:=zx w6 w.heap.size 0 _ _ (.int .i64 2) HG6.out;have X2:=zx _ w.heap.size 1 _ _ (.int .u32 (x:Int)) X1;have X3:=zx _ w.heap.size 2 _ _ (.int .u32 (y:Int)) X2;have X4:=zx _ w.heap.size 3 _ _ (.int .i64 (l:Int)) X3;have X5:=zx _ w.heap.size 4 _ _ (.slice none 0 0) X4;have X6:=zx _ w.heap.size 5 _ _ (.slice ro L.1.length ca) X5;have X7:=zx _ w.heap.size 6 _ _ (.int .u32 0) X6;have X8:=zx _ w.heap.size 7 _ _ (.string ⟨#[]⟩) X7;simp only[List.setIfInBounds_toArray,List.set_cons_zero,List.set_cons_succ] at X8;have HX:Hid _:=X8
 have hoth:∀ j,j≠w.heap.size→(((((((((w6.setCell ⟨w.heap.size,0,none⟩ (.int .i64 2)).setCell ⟨w.heap.size,1,none⟩ (.int .u32 (x:Int))).setCell ⟨w.heap.size,2,none⟩ (.int .u32 (y:Int))).setCell ⟨w.heap.size,3,none⟩ (.int .i64 (l:Int))).setCell ⟨w.heap.size,4,none⟩ (.slice none 0 0)).setCell ⟨w.heap.size,5,none⟩ (.slice ro L.1.length ca)).setCell ⟨w.heap.size,6,none⟩ (.int .u32 0)).setCell ⟨w.heap.size,7,none⟩ (.string ⟨#[]⟩))).heap[j]? =w6.heap[j]? :=fun j hj=>by
  rw[Below.heap_setCell _ _ _ _ (fun e=>hj e),Below.heap_setCell _ _ _ _ (fun e=>hj e),Below.heap_setCell _ _ _ _ (fun e=>hj e),Below.heap_setCell _ _ _ _ (fun e=>hj e),Below.heap_setCell _ _ _ _ (fun e=>hj e),Below.heap_setCell _ _ _ _ (fun e=>hj e),Below.heap_setCell _ _ _ _ (fun e=>hj e),Below.heap_setCell _ _ _ _ (fun e=>hj e)]
 have HO:Hid _:=hoth;clear X1 X2 X3 X4 X5 X6 X7 X8 hoth;go_simp;refine hK _ _ (zoK ((HO.out w4.heap.size (by omega)).trans HQ6.out)) ?_;refine wpAnyH_done (by kernel_rfl) ?_ _;go_wp2_with fail;refine bodyPost_ret (zbp rfl _ _ w.heap.size _ _ _ _ _ _ _ _ rfl HX.out) rfl ⟨ro,ca,rfl,?_,(HO.out g (by omega)).trans HE.out.2.1,?_⟩
 ·exact zgc (by omega) HE.out.1 fun b h1 h2=>HO.out b (by omega)
 ·have hb:=HE.out.2.2
  exact⟨by simp only[zmL];exact hb.os,by simp only[zfl];exact hb.tape,by simp only[zh4];exact hb.output,by simp only[zfm];exact hb.size,fun j hj hn=>(HO.out j (by omega)).trans (hb.block j hj hn)⟩
def zh5 (st:RS) (base:Nat) (q:Pg) (w:World):Prop:=
 (numS st 1=1∧∃ ro ca,q=⟨1,0,0,0,ro,(lfL (aftS st 1)).1.length,ca,none,0,0,(lfN (aftS st 1)).p,(lfN (aftS st 1)).t⟩∧w.ownsRow base 79 4 (.slice ro (lfL (aftS st 1)).1.length ca) (lfL (aftS st 1)).1.length ((lfL (aftS st 1)).1.flatMap rc))∨
 (numS st 1=2∧∃ ro ca,q=⟨2,inX (aftS st 1),inY (aftS st 1),(inC (aftS st 1):Int),none,0,0,ro,(inL (aftS st 1)).1.length,ca,0,⟨#[]⟩⟩∧w.ownsRow base 49 2 (.slice ro (inL (aftS st 1)).1.length ca) (inL (aftS st 1)).1.length ((inL (aftS st 1)).1.flatMap fc))∨
 (numS st 1≠1∧numS st 1≠2∧q=⟨0,0,0,0,none,0,0,none,0,0,0,⟨#[]⟩⟩)
def pgE (st:RS):RS:=if numS st 1=1 then(lfL (aftS st 1)).2 else if numS st 1=2 then(inL (aftS st 1)).2 else aftS st 1
theorem zdC (g:Nat) (st:RS) (w:World) (h:RdS g st w):
  Calls Tryz.prog 119 #[.pointer (some ⟨g,0,none⟩)] w fun e w'=>∃ q,e=.returned (gv q)∧zh5 st w.heap.size q w'∧RdS g (pgE st) w'∧Bo g w w':=by
 have HN1:Hid _:=zaD g st 1 (by omega);have HLF:Hid _:=zmM g (aftS st 1);have HIN:Hid _:=zkS g (aftS st 1);have lg:g<w.heap.size:=(zi h).1;have H0:Hid (RdS g st w):=h;clear h;unfold pgE zh5;obtain⟨n,hn⟩:∃ n,numS st 1=n:=⟨_,rfl⟩;rw[hn] at HN1 ⊢;clear hn;obtain⟨p,hp⟩:∃ p,(lfN (aftS st 1)).p=p:=⟨_,rfl⟩;obtain⟨t,ht⟩:∃ t,(lfN (aftS st 1)).t=t:=⟨_,rfl⟩;rw[hp,ht] at HLF ⊢;obtain⟨x,hx⟩:∃ x,inX (aftS st 1)=x:=⟨_,rfl⟩;obtain⟨y,hy⟩:∃ y,inY (aftS st 1)=y:=⟨_,rfl⟩;obtain⟨c,hc⟩:∃ c,inC (aftS st 1)=c:=⟨_,rfl⟩;rw[hx,hy,hc] at HIN ⊢;obtain⟨LL,hLL⟩:∃ LL,lfL (aftS st 1)=LL:=⟨_,rfl⟩;rw[hLL] at HLF ⊢;obtain⟨LI,hLI⟩:∃ LI,inL (aftS st 1)=LI:=⟨_,rfl⟩;rw[hLI] at HIN ⊢;obtain⟨M,hM⟩:∃ M,LL.1.length=M:=⟨_,rfl⟩;rw[hM] at HLF ⊢;obtain⟨MI,hMI⟩:∃ MI,LI.1.length=MI:=⟨_,rfl⟩;rw[hMI] at HIN ⊢;clear hp ht hx hy hc hLL hLI hM hMI;have hbn:=zaa w (.cells #[.int .i64 0,.int .u32 0,.int .u32 0,.int .i64 0,.slice none 0 0,.slice none 0 0,.int .u32 0,.string ⟨#[]⟩] 155)
 have HG0:Hid ((w.alloc (.cells #[.int .i64 0,.int .u32 0,.int .u32 0,.int .i64 0,.slice none 0 0,.slice none 0 0,.int .u32 0,.string ⟨#[]⟩] 155)).heap[w.heap.size]? =some (.cells #[.int .i64 0,.int .u32 0,.int .u32 0,.int .i64 0,.slice none 0 0,.slice none 0 0,.int .u32 0,.string ⟨#[]⟩] 155 (0,0))):=zq w _;have HR0:Hid (RdS g st (w.alloc (.cells #[.int .i64 0,.int .u32 0,.int .u32 0,.int .i64 0,.slice none 0 0,.slice none 0 0,.int .u32 0,.string ⟨#[]⟩] 155))):=(hbn.block _ lg).trans H0.out;have HB0:Hid (Bo g w (w.alloc (.cells #[.int .i64 0,.int .u32 0,.int .u32 0,.int .i64 0,.slice none 0 0,.slice none 0 0,.int .u32 0,.string ⟨#[]⟩] 155))):=But.of_below hbn;clear H0 hbn;obtain⟨W0,hW0⟩:∃ W0,w.alloc (.cells #[.int .i64 0,.int .u32 0,.int .u32 0,.int .i64 0,.slice none 0 0,.slice none 0 0,.int .u32 0,.string ⟨#[]⟩] 155)=W0:=⟨_,rfl⟩;have HW0:Hid _:=hW0;rw[hW0] at HG0 HR0 HB0;clear hW0;have hng:w.heap.size≠g:=by omega
 go_enter Tryz.func119,Tryz.ntmps119;go_wp2_with fail;rw[HW0.out];clear HW0;refine(HN1.out W0 HR0.out).mono ?_;rintro e w1 ⟨rfl,r1,b1⟩;have HR1:Hid (RdS g (aftS st 1) w1):=r1;have HB1:Hid (Bo g w w1):=HB0.out.trans b1;have HG1:Hid (w1.heap[w.heap.size]? =some (.cells #[.int .i64 0,.int .u32 0,.int .u32 0,.int .i64 0,.slice none 0 0,.slice none 0 0,.int .u32 0,.string ⟨#[]⟩] 155 (0,0))):=(b1.block _ (zi HG0.out).1 hng).trans HG0.out;have l1:w.heap.size<w1.heap.size:=(zi HG1.out).1;clear r1 b1 HR0 HB0 HG0;by_cases h1:n=1
 ·subst h1
  go_wp2_with fail;refine(HLF.out w1 HR1.out).mono ?_;rintro e w6 ⟨ro,ca,rfl,o6,r6,b6⟩;simp only[gv];have hg6:=(b6.block _ l1 hng).trans HG1.out;have HE:Hid (Bo g w w6):=HB1.out.trans b6;have HOW:Hid (w6.ownsRow w1.heap.size 79 4 (.slice ro M ca) M (LL.1.flatMap rc)):=o6;have HRW:Hid (RdS g LL.2 w6):=r6;clear o6 r6 b6 HR1 HB1 HG1;have l6:w.heap.size<w6.heap.size:=(zi hg6).1;have fz:∀ k,w6.frozen? ⟨w.heap.size,k,none⟩=false:=fun k=>frozen_of_row w6 _ k _ _ hg6
  have f0:=fz 0;have f1:=fz 1;have f2:=fz 2;have f3:=fz 3;have f4:=fz 4;have f5:=fz 5;have f6:=fz 6;have f7:=fz 7;obtain⟨z0,c0⟩:∃ z,w6.cell? ⟨w.heap.size,0,none⟩=some z:=⟨.int .i64 0,by rw[zr hg6];rfl⟩;obtain⟨z1,c1⟩:∃ z,w6.cell? ⟨w.heap.size,1,none⟩=some z:=⟨.int .u32 0,by rw[zr hg6];rfl⟩;obtain⟨z2,c2⟩:∃ z,w6.cell? ⟨w.heap.size,2,none⟩=some z:=⟨.int .u32 0,by rw[zr hg6];rfl⟩;obtain⟨z3,c3⟩:∃ z,w6.cell? ⟨w.heap.size,3,none⟩=some z:=⟨.int .i64 0,by rw[zr hg6];rfl⟩;obtain⟨z4,c4⟩:∃ z,w6.cell? ⟨w.heap.size,4,none⟩=some z:=⟨.slice none 0 0,by rw[zr hg6];rfl⟩;obtain⟨z5,c5⟩:∃ z,w6.cell? ⟨w.heap.size,5,none⟩=some z:=⟨.slice none 0 0,by rw[zr hg6];rfl⟩;obtain⟨z6,c6⟩:∃ z,w6.cell? ⟨w.heap.size,6,none⟩=some z:=⟨.int .u32 0,by rw[zr hg6];rfl⟩;obtain⟨z7,c7⟩:∃ z,w6.cell? ⟨w.heap.size,7,none⟩=some z:=⟨.string ⟨#[]⟩,by rw[zr hg6];rfl⟩;have X1:=zx w6 w.heap.size 0 _ _ (.int .i64 1) hg6;have X2:=zx _ w.heap.size 1 _ _ (.int .u32 0) X1
  have X3:=zx _ w.heap.size 2 _ _ (.int .u32 0) X2;have X4:=zx _ w.heap.size 3 _ _ (.int .i64 0) X3;have X5:=zx _ w.heap.size 4 _ _ (.slice ro M ca) X4;have X6:=zx _ w.heap.size 5 _ _ (.slice none 0 0) X5;have X7:=zx _ w.heap.size 6 _ _ (.int .u32 (p:Int)) X6;have X8:=zx _ w.heap.size 7 _ _ (.string t) X7;simp only[List.setIfInBounds_toArray,List.set_cons_zero,List.set_cons_succ] at X8;have HX:Hid _:=X8
  have hoth:∀ j,j≠w.heap.size→(((((((((w6.setCell ⟨w.heap.size,0,none⟩ (.int .i64 1)).setCell ⟨w.heap.size,1,none⟩ (.int .u32 0)).setCell ⟨w.heap.size,2,none⟩ (.int .u32 0)).setCell ⟨w.heap.size,3,none⟩ (.int .i64 0)).setCell ⟨w.heap.size,4,none⟩ (.slice ro M ca)).setCell ⟨w.heap.size,5,none⟩ (.slice none 0 0)).setCell ⟨w.heap.size,6,none⟩ (.int .u32 (p:Int))).setCell ⟨w.heap.size,7,none⟩ (.string t))).heap[j]? =w6.heap[j]? :=fun j hj=>by
   rw[Below.heap_setCell _ _ _ _ (fun e=>hj e),Below.heap_setCell _ _ _ _ (fun e=>hj e),Below.heap_setCell _ _ _ _ (fun e=>hj e),Below.heap_setCell _ _ _ _ (fun e=>hj e),Below.heap_setCell _ _ _ _ (fun e=>hj e),Below.heap_setCell _ _ _ _ (fun e=>hj e),Below.heap_setCell _ _ _ _ (fun e=>hj e),Below.heap_setCell _ _ _ _ (fun e=>hj e)]
  have HO:Hid _:=hoth;clear X1 X2 X3 X4 X5 X6 X7 X8 hoth hg6 fz;go_wp2_with fail;refine bodyPost_ret (zbp rfl _ _ w.heap.size _ _ _ _ _ _ _ _ rfl HX.out) rfl ⟨⟨1,0,0,0,ro,M,ca,none,0,0,p,t⟩,rfl,?_,?_,?_⟩
  ·exact⟨ro,ca,rfl,zgb (by omega) HOW.out fun b h1 h2=>HO.out b (by omega)⟩
  ·exact(HO.out g (by omega)).trans HRW.out
  ·have hb:=HE.out
   exact⟨by simp only[zmL];exact hb.os,by simp only[zfl];exact hb.tape,by simp only[zh4];exact hb.output,by simp only[zfm];exact hb.size,fun j hj hn=>(HO.out j (by omega)).trans (hb.block j hj hn)⟩
 ·by_cases h2:n=2
  ·subst h2
   go_wp2_with fail;refine(HIN.out w1 HR1.out).mono ?_;rintro e w6 ⟨ro,ca,rfl,o6,r6,b6⟩;simp only[gv];have hg6:=(b6.block _ l1 hng).trans HG1.out;have HE:Hid (Bo g w w6):=HB1.out.trans b6;have HOW:Hid (w6.ownsRow w1.heap.size 49 2 (.slice ro MI ca) MI (LI.1.flatMap fc)):=o6;have HRW:Hid (RdS g LI.2 w6):=r6;clear o6 r6 b6 HR1 HB1 HG1;have l6:w.heap.size<w6.heap.size:=(zi hg6).1;have fz:∀ k,w6.frozen? ⟨w.heap.size,k,none⟩=false:=fun k=>frozen_of_row w6 _ k _ _ hg6
   have f0:=fz 0;have f1:=fz 1;have f2:=fz 2;have f3:=fz 3;have f4:=fz 4;have f5:=fz 5;have f6:=fz 6;have f7:=fz 7;obtain⟨z0,c0⟩:∃ z,w6.cell? ⟨w.heap.size,0,none⟩=some z:=⟨.int .i64 0,by rw[zr hg6];rfl⟩;obtain⟨z1,c1⟩:∃ z,w6.cell? ⟨w.heap.size,1,none⟩=some z:=⟨.int .u32 0,by rw[zr hg6];rfl⟩;obtain⟨z2,c2⟩:∃ z,w6.cell? ⟨w.heap.size,2,none⟩=some z:=⟨.int .u32 0,by rw[zr hg6];rfl⟩;obtain⟨z3,c3⟩:∃ z,w6.cell? ⟨w.heap.size,3,none⟩=some z:=⟨.int .i64 0,by rw[zr hg6];rfl⟩;obtain⟨z4,c4⟩:∃ z,w6.cell? ⟨w.heap.size,4,none⟩=some z:=⟨.slice none 0 0,by rw[zr hg6];rfl⟩;obtain⟨z5,c5⟩:∃ z,w6.cell? ⟨w.heap.size,5,none⟩=some z:=⟨.slice none 0 0,by rw[zr hg6];rfl⟩;obtain⟨z6,c6⟩:∃ z,w6.cell? ⟨w.heap.size,6,none⟩=some z:=⟨.int .u32 0,by rw[zr hg6];rfl⟩;obtain⟨z7,c7⟩:∃ z,w6.cell? ⟨w.heap.size,7,none⟩=some z:=⟨.string ⟨#[]⟩,by rw[zr hg6];rfl⟩;have X1:=zx w6 w.heap.size 0 _ _ (.int .i64 2) hg6;have X2:=zx _ w.heap.size 1 _ _ (.int .u32 (x:Int)) X1
   have X3:=zx _ w.heap.size 2 _ _ (.int .u32 (y:Int)) X2;have X4:=zx _ w.heap.size 3 _ _ (.int .i64 (c:Int)) X3;have X5:=zx _ w.heap.size 4 _ _ (.slice none 0 0) X4;have X6:=zx _ w.heap.size 5 _ _ (.slice ro MI ca) X5;have X7:=zx _ w.heap.size 6 _ _ (.int .u32 0) X6;have X8:=zx _ w.heap.size 7 _ _ (.string ⟨#[]⟩) X7;simp only[List.setIfInBounds_toArray,List.set_cons_zero,List.set_cons_succ] at X8;have HX:Hid _:=X8
   have hoth:∀ j,j≠w.heap.size→(((((((((w6.setCell ⟨w.heap.size,0,none⟩ (.int .i64 2)).setCell ⟨w.heap.size,1,none⟩ (.int .u32 (x:Int))).setCell ⟨w.heap.size,2,none⟩ (.int .u32 (y:Int))).setCell ⟨w.heap.size,3,none⟩ (.int .i64 (c:Int))).setCell ⟨w.heap.size,4,none⟩ (.slice none 0 0)).setCell ⟨w.heap.size,5,none⟩ (.slice ro MI ca)).setCell ⟨w.heap.size,6,none⟩ (.int .u32 0)).setCell ⟨w.heap.size,7,none⟩ (.string ⟨#[]⟩))).heap[j]? =w6.heap[j]? :=fun j hj=>by
    rw[Below.heap_setCell _ _ _ _ (fun e=>hj e),Below.heap_setCell _ _ _ _ (fun e=>hj e),Below.heap_setCell _ _ _ _ (fun e=>hj e),Below.heap_setCell _ _ _ _ (fun e=>hj e),Below.heap_setCell _ _ _ _ (fun e=>hj e),Below.heap_setCell _ _ _ _ (fun e=>hj e),Below.heap_setCell _ _ _ _ (fun e=>hj e),Below.heap_setCell _ _ _ _ (fun e=>hj e)]
   have HO:Hid _:=hoth;clear X1 X2 X3 X4 X5 X6 X7 X8 hoth hg6 fz;go_wp2_with fail;refine bodyPost_ret (zbp rfl _ _ w.heap.size _ _ _ _ _ _ _ _ rfl HX.out) rfl ⟨⟨2,x,y,(c:Int),none,0,0,ro,MI,ca,0,⟨#[]⟩⟩,rfl,?_,?_,?_⟩
   ·exact⟨ro,ca,rfl,zgc (by omega) HOW.out fun b h1 h2=>HO.out b (by omega)⟩
   ·exact(HO.out g (by omega)).trans HRW.out
   ·have hb:=HE.out
    exact⟨by simp only[zmL];exact hb.os,by simp only[zfl];exact hb.tape,by simp only[zh4];exact hb.output,by simp only[zfm];exact hb.size,fun j hj hn=>(HO.out j (by omega)).trans (hb.block j hj hn)⟩
  ·clear HLF HIN HN1
   have g1:¬(n:Int)=1:=by omega
   have g2:¬(n:Int)=2:=by omega
   have HS:Hid (w1.setRow w.heap.size #[.int .i64 0,.int .u32 0,.int .u32 0,.int .i64 0,.slice none 0 0,.slice none 0 0,.int .u32 0,.string ⟨#[]⟩]=w1):=setRow_self w1 _ _ _ _ HG1.out;have hi:(Tryz.prog.info? 155).map (·.size)=some 8:=by kernel_rfl
   have HI:Hid _:=hi;clear hi
   go_wp2_with (refine wpList_store_row rfl 155 (.tmp 2) (.tmp 13) rfl w.heap.size #[.int .i64 0,.int .u32 0,.int .u32 0,.int .i64 0,.slice none 0 0,.slice none 0 0,.int .u32 0,.string ⟨#[]⟩] (by rfl) (by rfl) 155 #[.int .i64 0,.int .u32 0,.int .u32 0,.int .i64 0,.slice none 0 0,.slice none 0 0,.int .u32 0,.string ⟨#[]⟩] HG1.out HI.out (by rfl) (by kernel_rfl) ?_;rw[HS.out])
   refine bodyPost_ret (zbp rfl _ _ w.heap.size _ _ _ _ _ _ _ _ rfl HG1.out) rfl ⟨⟨0,0,0,0,none,0,0,none,0,0,0,⟨#[]⟩⟩,rfl,?_,?_,?_⟩
   ·rfl
   ·exact HR1.out
   ·exact HB1.out
structure Pp where
 k:Int
 X:Nat
 Y:Nat
 L:Int
 l:List Rw
 ks:List Rf
 np:Nat
 nt:ByteArray
def pz:Pp:=⟨0,0,0,0,[],[],0,⟨#[]⟩⟩
def rpp (P:Pp):Bool:=zdi ⟨P.k,P.X,P.Y,P.L,none,P.l.length,0,none,P.ks.length,0,P.np,P.nt⟩ P.l P.ks
structure PAt (w:World) (q:Pg) (P:Pp):Prop where
 k:q.k=P.k
 X:q.X=P.X
 Y:q.Y=P.Y
 L:q.L=P.L
 np:q.np=P.np
 nt:q.nt=P.nt
 at':PgAt w q P.l P.ks
theorem PAt.below {w w':World} {q:Pg} {P:Pp} {B:Nat} (h:PAt w q P) (hb:Below B w w') (hB:w.heap.size≤B):PAt w' q P:=⟨h.k,h.X,h.Y,h.L,h.np,h.nt,h.at'.below hb hB⟩
theorem PAt.rpp {w:World} {q:Pg} {P:Pp} (h:PAt w q P):zdi q P.l P.ks=rpp P:=by
 unfold Rw.rpp zdi zd8 zcp;simp only[h.k,h.X,h.Y,h.L,h.np,h.nt,h.at'.rn,h.at'.kn]
theorem zoL (q:Pg) (P:Pp) (w:World) (h:PAt w q P):
  Calls Tryz.prog 120 #[gv q] w fun e w'=>e=.returned (.bool (rpp P))∧Below w.heap.size w w':=by
 rw[←h.rpp];exact zdj q P.l P.ks w h.at'
def rdP (st:RS):Pp:=
 if numS st 1=1 then⟨1,0,0,0,(lfL (aftS st 1)).1,[],(lfN (aftS st 1)).p,(lfN (aftS st 1)).t⟩
 else if numS st 1=2 then⟨2,inX (aftS st 1),inY (aftS st 1),(inC (aftS st 1):Int),[],(inL (aftS st 1)).1,0,⟨#[]⟩⟩
 else pz
theorem zkT {st:RS} {base:Nat} {q:Pg} {w:World} (h:zh5 st base q w):PAt w q (rdP st):=by
 unfold rdP;rcases h with⟨h1,ro,ca,rfl,ho⟩|⟨h1,ro,ca,rfl,ho⟩|⟨h1,h2,rfl⟩
 ·rw[if_pos h1]
  obtain⟨o,cap,e,hs⟩:=zai ho;cases e;exact⟨rfl,rfl,rfl,rfl,rfl,rfl,⟨by simp only[];omega,by simp only[];omega,rfl,hs,rfl,Sl.nil _ _⟩⟩
 ·rw[if_neg (by omega),if_pos h1]
  obtain⟨o,cap,e,hs⟩:=zai ho;cases e;have hx:=zaW (aftS (aftS (aftS st 1) 1) 1) 4;have hy:=zaW (aftS (aftS (aftS (aftS st 1) 1) 1) 4) 4;simp only[Nat.reduceMul,Nat.reducePow] at hx hy;exact⟨rfl,rfl,rfl,rfl,rfl,rfl,⟨hx,hy,rfl,Sl.nil _ _,rfl,hs⟩⟩
 ·rw[if_neg h1,if_neg h2]
  exact⟨rfl,rfl,rfl,rfl,rfl,rfl,⟨by decide,by decide,rfl,Sl.nil _ _,rfl,Sl.nil _ _⟩⟩
theorem zhe {st:RS} {base:Nat} {q:Pg} {w:World} (h:zh5 st base q w):(∀ b off,q.ro=some ⟨b,off,none⟩→base≤b)∧(∀ b off,q.ko=some ⟨b,off,none⟩→base≤b):=by
 rcases h with⟨h1,ro,ca,rfl,ho⟩|⟨h1,ro,ca,rfl,ho⟩|⟨h1,h2,rfl⟩
 ·refine⟨fun b off e=>zf8 ho ?_,fun b off e=>?_⟩
  ·simp only at e;rw[e];rfl
  ·simp at e
 ·refine⟨fun b off e=>?_,fun b off e=>zga ho ?_⟩
  ·simp at e
  ·simp only at e;rw[e];rfl
 ·refine⟨fun b off e=>?_,fun b off e=>?_⟩
  ·simp at e
  ·simp at e
theorem zkU {s:ByteArray} (h:s≠⟨#[]⟩):s.toList.isEmpty=false:=by
 cases e:s.toList.isEmpty
 ·rfl
 ·refine absurd ?_ h
  rw[List.isEmpty_iff] at e;have h1:s.toList=s.data.toList:=ByteArray.toList_eq _;rw[h1] at e;cases s with
  |mk d=>simp at e;rw[e]
theorem PAt.row {w:World} {q:Pg} {P:Pp} (h:PAt w q P) {g base:Nat} (cs:Array Value) (hr:∀ b off,q.ro=some ⟨b,off,none⟩→base≤b) (hk:∀ b off,q.ko=some ⟨b,off,none⟩→base≤b) (hg:g<base):PAt (w.setRow g cs) q P:=by
 refine⟨h.k,h.X,h.Y,h.L,h.np,h.nt,⟨h.at'.X32,h.at'.Y32,h.at'.rn,?_,h.at'.kn,?_⟩⟩
 ·exact Sl.same h.at'.rows (by simp) fun b off e _=>setRow_other _ _ _ _ (by have:=hr b off e;omega)
 ·exact Sl.same h.at'.kids (by simp) fun b off e _=>setRow_other _ _ _ _ (by have:=hk b off e;omega)
theorem zkV {B g:Nat} {w0 w:World} (hb:Below B w0 w) (hBg:B≤g) (cs:Array Value):Below B w0 (w.setRow g cs):=
 ⟨hb.os,hb.tape,hb.output,by rw[setRow_size];exact hb.size,fun j hj=>(setRow_other w g j cs (by omega)).trans (hb.block j hj)⟩
theorem zoM (w:World):PAt w ⟨0,0,0,0,none,0,0,none,0,0,0,⟨#[]⟩⟩ pz:=⟨rfl,rfl,rfl,rfl,rfl,rfl,⟨by decide,by decide,rfl,Sl.nil _ _,rfl,Sl.nil _ _⟩⟩
def zbF (s:ByteArray):Bool:= !(pgE ⟨s,false⟩).s&&(decide ((pgE ⟨s,false⟩).r=⟨#[]⟩)&&rpp (rdP ⟨s,false⟩))
def decP (s:ByteArray):Pp:=if zbF s=true then rdP ⟨s,false⟩ else pz
def decE (s:ByteArray):Int:=if zbF s=true then 0 else 90
theorem zbv {fn:Func} {p r:Tmp} (h:fn.results=#[.cell p 155,.tmp r]) (tmps:Array Value) (w:World) (g:Nat) (a b c d e f i j:Value) {t:TypeId} {fr:Nat × Nat} {v:Value}
  (hp:tmps.getD p undef=.pointer (some ⟨g,0,none⟩)) (hr:tmps.getD r undef=v) (hg:w.heap[g]? =some (.cells #[a,b,c,d,e,f,i,j] t fr)):(results fn tmps).run Tryz.prog w=.ok (.tuple #[.agg #[a,b,c,d,e,f,i,j],v]) w:=by
 have hp':tmps[p]?.getD undef=.pointer (some ⟨g,0,none⟩):=by simpa using hp
 have hr':tmps[r]?.getD undef=v:=by simpa using hr
 have c0:w.cell? ⟨g,0,none⟩=some a:=by rw[zr hg];rfl
 have c1:w.cell? ⟨g,1,none⟩=some b:=by rw[zr hg];rfl
 have c2:w.cell? ⟨g,2,none⟩=some c:=by rw[zr hg];rfl
 have c3:w.cell? ⟨g,3,none⟩=some d:=by rw[zr hg];rfl
 have c4:w.cell? ⟨g,4,none⟩=some e:=by rw[zr hg];rfl
 have c5:w.cell? ⟨g,5,none⟩=some f:=by rw[zr hg];rfl
 have c6:w.cell? ⟨g,6,none⟩=some i:=by rw[zr hg];rfl
 have c7:w.cell? ⟨g,7,none⟩=some j:=by rw[zr hg];rfl
 simp[results,h,hp',hr',asAddr,go_sem,c0,c1,c2,c3,c4,c5,c6,c7]
theorem zhf (s:ByteArray) (w:World):
  Calls Tryz.prog 84 #[.string s] w fun e w'=>∃ q,e=.returned (.tuple #[gv q,.int .i64 (decE s)])∧(PAt w' q (decP s)∧(∀ b off,q.ro=some ⟨b,off,none⟩→w.heap.size≤b)∧∀ b off,q.ko=some ⟨b,off,none⟩→w.heap.size≤b)∧Below w.heap.size w w':=by
 obtain⟨W0,hW0⟩:∃ W0,(w.alloc (.cells #[.int .i64 0,.int .u32 0,.int .u32 0,.int .i64 0,.slice none 0 0,.slice none 0 0,.int .u32 0,.string ⟨#[]⟩] 155)).alloc (.cells #[.string s,.bool false] 193)=W0:=⟨_,rfl⟩;have HW0:Hid _:=hW0;have hb1:=zaa w (.cells #[.int .i64 0,.int .u32 0,.int .u32 0,.int .i64 0,.slice none 0 0,.slice none 0 0,.int .u32 0,.string ⟨#[]⟩] 155);have hb2:=zaa (w.alloc (.cells #[.int .i64 0,.int .u32 0,.int .u32 0,.int .i64 0,.slice none 0 0,.slice none 0 0,.int .u32 0,.string ⟨#[]⟩] 155)) (.cells #[.string s,.bool false] 193)
 have HG0:Hid (W0.heap[w.heap.size]? =some (.cells #[.int .i64 0,.int .u32 0,.int .u32 0,.int .i64 0,.slice none 0 0,.slice none 0 0,.int .u32 0,.string ⟨#[]⟩] 155 (0,0))):=by
  refine(?_:W0.heap[w.heap.size]? =some (.cells #[.int .i64 0,.int .u32 0,.int .u32 0,.int .i64 0,.slice none 0 0,.slice none 0 0,.int .u32 0,.string ⟨#[]⟩] 155 (0,0)));rw[←hW0];exact(hb2.block _ (by simp)).trans (zq w _)
 have HR0:Hid (RdS (w.heap.size+1) ⟨s,false⟩ W0):=by
  refine(?_:RdS (w.heap.size+1) ⟨s,false⟩ W0);have:=zq (w.alloc (.cells #[.int .i64 0,.int .u32 0,.int .u32 0,.int .i64 0,.slice none 0 0,.slice none 0 0,.int .u32 0,.string ⟨#[]⟩] 155)) (.cells #[.string s,.bool false] 193);rw[hW0] at this;simpa [RdS,Rd] using this
 have HB0:Hid (Below w.heap.size w W0):=by
  refine(?_:Below w.heap.size w W0);rw[←hW0];exact hb1.trans (hb2.mono hb1.size)
 have hs0:W0.heap.size=w.heap.size+2:=by rw[←hW0];simp
 clear hW0 hb1 hb2
 have HPG:Hid (∀ _:True,_):=fun _=>(zdC (w.heap.size+1) ⟨s,false⟩ W0 HR0.out).mono (R':=fun e w'=>∃ q,e=.returned (gv q)∧PAt w' q (rdP ⟨s,false⟩)∧((∀ b off,q.ro=some ⟨b,off,none⟩→W0.heap.size≤b)∧(∀ b off,q.ko=some ⟨b,off,none⟩→W0.heap.size≤b))∧RdS (w.heap.size+1) (pgE ⟨s,false⟩) w'∧Bo (w.heap.size+1) W0 w') fun e w' h=>by
  obtain⟨q,h1,h2,h3⟩:=h;exact⟨q,h1,zkT h2,zhe h2,h3⟩
 clear HR0;have hdO:zbF s=(!(pgE ⟨s,false⟩).s&&(decide ((pgE ⟨s,false⟩).r=⟨#[]⟩)&&rpp (rdP ⟨s,false⟩))):=rfl;have hd0:zbF s=false→decE s=90∧decP s=pz:=fun h=>by unfold decE decP;rw[h];exact⟨rfl,rfl⟩
 have hd1:zbF s=true→decE s=0∧decP s=rdP ⟨s,false⟩:=fun h=>by unfold decE decP;rw[h];exact⟨rfl,rfl⟩
 generalize decE s=dE at*
 generalize decP s=dP at*
 generalize zbF s=dO at*
 generalize pgE ⟨s,false⟩=st at*
 obtain⟨rest,sh⟩:=st;generalize rdP ⟨s,false⟩=PP at*
 simp only at hdO;have HRT:Hid _:=fun q w' (h:PAt w' q PP)=>zoL q PP w' h
 have HD:Hid (_∧_∧_):=⟨hdO,hd0,hd1⟩;clear hdO hd0 hd1;go_enter Tryz.func84,Tryz.ntmps84;go_wp2_with fail;rw[HW0.out];clear HW0;refine(HPG.out trivial).mono ?_;rintro e w1 ⟨q,rfl,hq,hlie,r1,b1⟩;have HL:Hid _:=hlie;clear hlie;have HP1:Hid (PAt w1 q PP):=hq;have HG1:Hid (w1.heap[w.heap.size]? =some (.cells #[.int .i64 0,.int .u32 0,.int .u32 0,.int .i64 0,.slice none 0 0,.slice none 0 0,.int .u32 0,.string ⟨#[]⟩] 155 (0,0))):=(b1.block _ (by omega) (by omega)).trans HG0.out;have HB1:Hid (Below w.heap.size w w1):=HB0.out.trans ⟨b1.os,b1.tape,b1.output,b1.size,fun j hj=>b1.block j (by omega) (by omega)⟩;have hs1:w.heap.size+1<w1.heap.size:=by have:=b1.size;omega
 obtain⟨k0,k1,-,-,-⟩:=zb8 r1;have hbn:=zaa w1 (gcs q);have HP2:Hid (PAt (w1.alloc (gcs q)) q PP):=HP1.out.below hbn zn;have HG2:Hid ((w1.alloc (gcs q)).heap[w.heap.size]? =some (.cells #[.int .i64 0,.int .u32 0,.int .u32 0,.int .i64 0,.slice none 0 0,.slice none 0 0,.int .u32 0,.string ⟨#[]⟩] 155 (0,0))):=(hbn.block _ (by omega)).trans HG1.out;have HQ2:Hid ((w1.alloc (gcs q)).heap[w1.heap.size]? =some (gcs q)):=zq w1 _;have HB2:Hid (Below w.heap.size w (w1.alloc (gcs q))):=HB1.out.trans (hbn.mono (by omega));have HC:Hid (∀ _:True,_):=fun _=>HRT.out q _ HP2.out
 clear HG0 HB0 HP1 HG1 HB1 HPG hq r1 b1 hbn HRT;obtain⟨qk,qX,qY,qL,qro,qrn,qrc,qko,qkn,qkc,qnp,qnt⟩:=q;simp only[gv,gcs] at*
 have hi:(Tryz.prog.info? 155).map (·.size)=some 8:=by kernel_rfl
 have HI:Hid _:=hi;clear hi;cases sh
 ·by_cases hr:rest=⟨#[]⟩
  ·subst hr
   go_wp2_with fail;refine(HC.out trivial).mono ?_;rintro e w3 ⟨rfl,b3⟩;have HG3:Hid (w3.heap[w.heap.size]? =some (.cells #[.int .i64 0,.int .u32 0,.int .u32 0,.int .i64 0,.slice none 0 0,.slice none 0 0,.int .u32 0,.string ⟨#[]⟩] 155 (0,0))):=(b3.block _ (zi HG2.out).1).trans HG2.out;have hq3:=(b3.block _ (zi HQ2.out).1).trans HQ2.out;have HB3:Hid (Below w.heap.size w w3):=HB2.out.trans (b3.mono HB2.out.size);have HP3:Hid (PAt w3 ⟨qk,qX,qY,qL,qro,qrn,qrc,qko,qkn,qkc,qnp,qnt⟩ PP):=HP2.out.below b3 zn;clear b3 HC HG2 HQ2 HB2 HP2;cases hR:rpp PP
   ·clear hq3
    go_wp2_with (refine wpList_store_row rfl 155 (.tmp 2) (.tmp 21) rfl w.heap.size #[.int .i64 0,.int .u32 0,.int .u32 0,.int .i64 0,.slice none 0 0,.slice none 0 0,.int .u32 0,.string ⟨#[]⟩] (by rfl) (by rfl) 155 #[.int .i64 0,.int .u32 0,.int .u32 0,.int .i64 0,.slice none 0 0,.slice none 0 0,.int .u32 0,.string ⟨#[]⟩] HG3.out HI.out (by rfl) (by kernel_rfl) ?_;rw[setRow_self _ _ _ _ _ HG3.out])
    have HF:Hid (dO=false):=by
     refine(?_:dO=false);rw[HD.out.1];simp[hR]
    refine bodyPost_ret (zbv rfl _ _ w.heap.size _ _ _ _ _ _ _ _ rfl rfl HG3.out) rfl ⟨⟨0,0,0,0,none,0,0,none,0,0,0,⟨#[]⟩⟩,?_,?_,HB3.out⟩
    ·rw[(HD.out.2.1 HF.out).1];rfl
    ·rw[(HD.out.2.1 HF.out).2];exact⟨zoM _,fun b off e=>(by cases e),fun b off e=>(by cases e)⟩
   ·obtain⟨⟨c0,c1,c2,c3,c4,c5,c6,c7⟩,lB⟩:=zaP (q:=⟨qk,qX,qY,qL,qro,qrn,qrc,qko,qkn,qkc,qnp,qnt⟩) hq3
    simp only at c0 c1 c2 c3 c4 c5 c6 c7;clear hq3
    have HF:Hid (dO=true):=by
     refine(?_:dO=true);rw[HD.out.1];simp[hR]
    go_wp2_with (refine wpList_store_row rfl 155 (.tmp 2) (.tmp 22) rfl w.heap.size #[.int .i64 qk,.int .u32 (qX:Int),.int .u32 (qY:Int),.int .i64 qL,.slice qro qrn qrc,.slice qko qkn qkc,.int .u32 (qnp:Int),.string qnt] (by rfl) (by rfl) 155 #[.int .i64 0,.int .u32 0,.int .u32 0,.int .i64 0,.slice none 0 0,.slice none 0 0,.int .u32 0,.string ⟨#[]⟩] HG3.out HI.out (by rfl) (by kernel_rfl) ?_)
    refine bodyPost_ret (zbv rfl _ _ w.heap.size _ _ _ _ _ _ _ _ rfl rfl (setRow_heap _ _ _ _ _ _ HG3.out)) rfl ⟨⟨qk,qX,qY,qL,qro,qrn,qrc,qko,qkn,qkc,qnp,qnt⟩,?_,?_,zkV HB3.out zn _⟩
    ·rw[(HD.out.2.2 HF.out).1];rfl
    ·rw[(HD.out.2.2 HF.out).2];exact⟨HP3.out.row _ HL.out.1 HL.out.2 (by omega),fun b off e=>by have:=HL.out.1 b off e;omega,fun b off e=>by have:=HL.out.2 b off e;omega⟩
  ·have hne:=zkU hr
   go_wp2_with (refine wpList_store_row rfl 155 (.tmp 2) (.tmp 21) rfl w.heap.size #[.int .i64 0,.int .u32 0,.int .u32 0,.int .i64 0,.slice none 0 0,.slice none 0 0,.int .u32 0,.string ⟨#[]⟩] (by rfl) (by rfl) 155 #[.int .i64 0,.int .u32 0,.int .u32 0,.int .i64 0,.slice none 0 0,.slice none 0 0,.int .u32 0,.string ⟨#[]⟩] HG2.out HI.out (by rfl) (by kernel_rfl) ?_;rw[setRow_self _ _ _ _ _ HG2.out])
   have HF:Hid (dO=false):=by
    refine(?_:dO=false);rw[HD.out.1];simp[hr]
   refine bodyPost_ret (zbv rfl _ _ w.heap.size _ _ _ _ _ _ _ _ rfl rfl HG2.out) rfl ⟨⟨0,0,0,0,none,0,0,none,0,0,0,⟨#[]⟩⟩,?_,?_,HB2.out⟩
   ·rw[(HD.out.2.1 HF.out).1];rfl
   ·rw[(HD.out.2.1 HF.out).2];exact⟨zoM _,fun b off e=>(by cases e),fun b off e=>(by cases e)⟩
 ·go_wp2_with (refine wpList_store_row rfl 155 (.tmp 2) (.tmp 21) rfl w.heap.size #[.int .i64 0,.int .u32 0,.int .u32 0,.int .i64 0,.slice none 0 0,.slice none 0 0,.int .u32 0,.string ⟨#[]⟩] (by rfl) (by rfl) 155 #[.int .i64 0,.int .u32 0,.int .u32 0,.int .i64 0,.slice none 0 0,.slice none 0 0,.int .u32 0,.string ⟨#[]⟩] HG2.out HI.out (by rfl) (by kernel_rfl) ?_;rw[setRow_self _ _ _ _ _ HG2.out])
  have HF:Hid (dO=false):=by
   refine(?_:dO=false);rw[HD.out.1];simp
  refine bodyPost_ret (zbv rfl _ _ w.heap.size _ _ _ _ _ _ _ _ rfl rfl HG2.out) rfl ⟨⟨0,0,0,0,none,0,0,none,0,0,0,⟨#[]⟩⟩,?_,?_,HB2.out⟩
  ·rw[(HD.out.2.1 HF.out).1];rfl
  ·rw[(HD.out.2.1 HF.out).2];exact⟨zoM _,fun b off e=>(by cases e),fun b off e=>(by cases e)⟩
def sT (c:List UInt8):RS:=⟨⟨c.toArray⟩,false⟩
theorem sT_r (c:List UInt8):(sT c).r=⟨c.toArray⟩:=rfl
theorem zhg (c:List UInt8):(sT c).r.size=c.length:=by simp[sT,ByteArray.size]
theorem zoN (c:List UInt8) (n:Nat):okN (sT c) n=decide (n≤c.length):=by unfold okN;rw[zhg];simp[sT]
theorem zkW {c:List UInt8} {n:Nat} (h:n≤c.length):txtS (sT c) n=⟨(c.take n).toArray⟩:=by
 unfold txtS;rw[zoN,if_pos (by simpa using h),sT_r,ByteArray.extract_mk];simp
theorem zh6 {c:List UInt8} {n:Nat} (h:n≤c.length):aftS (sT c) n=sT (c.drop n):=by
 unfold aftS;rw[zoN,if_pos (by simpa using h),zhg,sT_r,ByteArray.extract_mk]
 unfold sT;rw[List.take_of_length_le (by simp)]
theorem znM {c:List UInt8} {n:Nat} (h:n≤c.length):numS (sT c) n=valB ⟨(c.take n).toArray⟩ n:=by
 unfold numS;rw[zoN,if_pos (by simpa using h),sT_r,ByteArray.extract_mk];simp
theorem zax {st:RS} {n:Nat} (h:(aftS st n).s=false):st.s=false∧n≤st.r.size:=by
 unfold aftS at h;cases hk:okN st n
 ·rw[hk] at h;simp at h
 ·exact zg9 hk
theorem zeM {c:List UInt8} {n:Nat} (h:(aftS (sT c) n).s=false):n≤c.length:=by
 have:=(zax h).2;rwa[zhg] at this
theorem zpQ (c:List UInt8) (i:Nat):bt ⟨c.toArray⟩ i=(c[i]?.getD 0).toNat:=by unfold bt;simp
theorem zh7 (v:Nat) (n:Nat):∀ k,k≤n→valB ⟨(lef v n).toArray⟩ k=v%2 ^ (8*k)
 |0,_=>by simp[valB,Nat.mod_one]
 |k+1,h=>by
  rw[valB,zh7 v n k (by omega),zpQ]
  have:(lef v n)[k]? =some (lb v k):=by
   unfold lef;rw[List.getElem?_map,List.getElem?_range (by omega)];rfl
  rw[this];have e:(lb v k).toNat=v/2 ^ (8*k)%256:=by unfold lb;simp
  simp only[Option.getD_some,e];rw[show 8*(k+1)=8*k+8 by omega,Nat.pow_add,Nat.mod_mul,Nat.mul_comm (2 ^ (8*k))]
theorem zoO (c:List UInt8):∀ k,k≤c.length→∀ n,k≤n→n≤c.length→∀ j,j<k→lb (valB ⟨c.toArray⟩ n) j=c[j]?.getD 0:=by
 intro k hk n hn hnl j hj
 have key:∀ m,j<m→valB ⟨c.toArray⟩ m/2 ^ (8*j)%256=bt ⟨c.toArray⟩ j:=by
  intro m
  induction m with
  |zero=>intro h;omega
  |succ m ih=>
   intro h;rw[valB];have hp:0<2 ^ (8*j):=Nat.pow_pos (by decide);by_cases e:j=m
   ·subst e
    have h1:=zd9 ⟨c.toArray⟩ j;have h2:=zoF ⟨c.toArray⟩ j;rw[Nat.add_mul_div_right _ _ hp,Nat.div_eq_of_lt h1,Nat.zero_add,Nat.mod_eq_of_lt h2]
   ·have hm:j<m:=by omega
    obtain⟨d,hd⟩:∃ d,m=j+1+d:=⟨m - j - 1,by omega⟩
    have e2:bt ⟨c.toArray⟩ m*2 ^ (8*m)=(bt ⟨c.toArray⟩ m*2 ^ (8*d)*256)*2 ^ (8*j):=by
     rw[hd,show 8*(j+1+d)=8*d+8+8*j by omega,Nat.pow_add,Nat.pow_add];simp only[Nat.mul_assoc]
    rw[e2,Nat.add_mul_div_right _ _ hp,Nat.add_mul_mod_self_right,ih hm]
 unfold lb;rw[key n (by omega),zpQ];simp
theorem zpR (c:List UInt8) (n:Nat) (h:c.length=n):lef (valB ⟨c.toArray⟩ n) n=c:=by
 refine List.ext_getElem? fun j=>?_
 unfold lef;rw[List.getElem?_map];by_cases hj:j<n
 ·rw[List.getElem?_range hj]
  simp only[Option.map_some];rw[zoO c n (by omega) n zn (by omega) j hj,List.getElem?_eq_getElem (by omega)];rfl
 ·rw[List.getElem?_eq_none (by simp;omega),List.getElem?_eq_none (by omega)];rfl
theorem za1 {v n:Nat} (hv:v<2 ^ (8*n)) (t:List UInt8):numS (sT (lef v n++t)) n=v∧aftS (sT (lef v n++t)) n=sT t:=by
 have hl:n≤(lef v n++t).length:=by rw[List.length_append,zaz];omega
 rw[znM hl,zh6 hl,List.take_append_of_le_length (by rw[zaz];exact Nat.le_refl _),List.take_of_length_le (by rw[zaz];exact Nat.le_refl _),zh7 v n n zn,Nat.mod_eq_of_lt hv];refine⟨rfl,?_⟩;rw[List.drop_append_of_le_length (by rw[zaz];exact Nat.le_refl _),List.drop_of_length_le (by rw[zaz];exact Nat.le_refl _),List.nil_append]
theorem za3 {c:List UInt8} {n:Nat} (h:(aftS (sT c) n).s=false):∃ t,c=lef (numS (sT c) n) n++t∧aftS (sT c) n=sT t:=by
 have hl:=zeM h;refine⟨c.drop n,?_,zh6 hl⟩;rw[znM hl,zpR _ _ (by rw[List.length_take];omega),List.take_append_drop]
theorem zfn (v:ByteArray) {n:Nat} (hn:v.size=n) (t:List UInt8):txtS (sT (v.data.toList++t)) n=v∧aftS (sT (v.data.toList++t)) n=sT t:=by
 have hs:v.data.toList.length=n:=by rw[←hn,Array.length_toList];rfl
 have hl:n≤(v.data.toList++t).length:=by rw[List.length_append];omega
 rw[zkW hl,zh6 hl,List.take_append_of_le_length (by omega),List.take_of_length_le (by omega),List.drop_append_of_le_length (by omega),List.drop_of_length_le (by omega),List.nil_append];exact⟨rfl,rfl⟩
theorem zh8 {c:List UInt8} {n:Nat} (h:(aftS (sT c) n).s=false):∃ t,c=(txtS (sT c) n).data.toList++t∧aftS (sT c) n=sT t∧(txtS (sT c) n).size=n:=by
 have hl:=zeM h;refine⟨c.drop n,?_,zh6 hl,?_⟩
 ·rw[zkW hl];simp
 ·rw[zkW hl];simp[ByteArray.size];omega
theorem Rf.eq {a b:Rf} (h1:a.p=b.p) (h2:a.t=b.t):a=b:=by cases a;cases b;simp only at h1 h2;subst h1 h2;rfl
def zqj (r:Rf):Prop:=r.p<4294967296∧(zbD r.p r.t=true∨rref r.p r.t=true)
theorem zhh {p:Nat} {t:ByteArray} (h:zbD p t=true):refB p t=lef 0 4++zcn.data.toList:=by
 unfold refB;rw[if_pos h];unfold zbD at h;simp only[Bool.and_eq_true,decide_eq_true_eq] at h;rw[h.1]
theorem zfo {p:Nat} {t:ByteArray} (h:zbD p t=false):refB p t=lef p 4++t.data.toList:=by
 unfold refB;rw[if_neg (by rw[h];simp)]
theorem zgd {p:Nat} {t:ByteArray} (h:rref p t=true):2≤p∧t.size=32:=by
 unfold rref at h;simpa using h
theorem zi4:zcn.size=32:=by decide
theorem zhi {p:Nat} {t:ByteArray} (h:t.size=32):zbD p t=false:=by
 unfold zbD;have:t≠⟨#[]⟩:=fun e=>by rw[e] at h;cases h
 simp[this]
theorem zeN {p:Nat} {t:ByteArray} (h:zbD p t=true):p=0∧t=⟨#[]⟩:=by
 unfold zbD at h;simpa using h
theorem zh9 {r:Rf} (h:zqj r) (t:List UInt8):refS (sT (refB r.p r.t++t))=r∧f2S (sT (refB r.p r.t++t))=sT t:=by
 unfold refS f2S;rcases h with⟨h32,h|h⟩
 ·rw[zhh h,List.append_assoc]
  obtain⟨a1,a2⟩:=za1 (v:=0) (n:=4) (by decide) (zcn.data.toList++t);obtain⟨b1,b2⟩:=zfn zcn zi4 t;rw[a1,a2,b1,b2];have e:=zeN h;refine⟨?_,rfl⟩;rw[if_pos (by unfold isNo;simp)];exact Rf.eq e.1.symm e.2.symm
 ·obtain⟨e1,e2⟩:=zgd h
  rw[zfo (zhi e2),List.append_assoc];obtain⟨a1,a2⟩:=za1 (v:=r.p) (n:=4) (by simpa using h32) (r.t.data.toList++t);obtain⟨b1,b2⟩:=zfn r.t e2 t;rw[a1,a2,b1,b2];refine⟨?_,rfl⟩;rw[if_neg];unfold isNo;have:r.p≠0:=by omega
  simp[this]
theorem zia {c:List UInt8} (h:(f2S (sT c)).s=false):∃ t,c=refB (refS (sT c)).p (refS (sT c)).t++t∧f2S (sT c)=sT t∧(refS (sT c)).p<4294967296:=by
 have h4:=(zax h).1;obtain⟨t1,e1,a1⟩:=za3 h4;have hn:=zaW (sT c) 4;simp only[Nat.reduceMul,Nat.reducePow] at hn;unfold f2S at h ⊢;rw[a1] at h ⊢;obtain⟨t2,e2,a2,z2⟩:=zh8 h;have hrf:refS (sT c)=if isNo (numS (sT c) 4) (txtS (sT t1) 32)=true then⟨0,⟨#[]⟩⟩ else⟨numS (sT c) 4,txtS (sT t1) 32⟩:=by unfold refS;rw[a1]
 rw[hrf];generalize numS (sT c) 4=n at*
 generalize txtS (sT t1) 32=x at*
 refine⟨t2,?_,a2,?_⟩
 ·by_cases hi:isNo n x=true
  ·rw[if_pos hi,zhh (by decide),List.append_assoc]
   unfold isNo at hi;simp only[Bool.and_eq_true,decide_eq_true_eq] at hi;rw[e1,e2,hi.1,hi.2]
  ·rw[if_neg hi,zfo (zhi z2),List.append_assoc,←e2];exact e1
 ·split
  ·decide
  ·exact hn
theorem zmN {r:Rw} (h:zbd r) (hv:r.v.size<256) (t:List UInt8):rowS (sT (rowB r++t))=r∧r5S (sT (rowB r++t))=sT t:=by
 unfold rowS r5S r4S r3S r2S r1S rowB;simp only[List.append_assoc];obtain⟨a1,a2⟩:=za1 (v:=r.id) (n:=8) (by simpa using h.1) (lef r.x 4++(lef r.y 4++(lef r.v.size 1++(r.v.data.toList++t))));obtain⟨b1,b2⟩:=za1 (v:=r.x) (n:=4) (by simpa using h.2.1) (lef r.y 4++(lef r.v.size 1++(r.v.data.toList++t)));obtain⟨c1,c2⟩:=za1 (v:=r.y) (n:=4) (by simpa using h.2.2) (lef r.v.size 1++(r.v.data.toList++t));obtain⟨d1,d2⟩:=za1 (v:=r.v.size) (n:=1) (by simpa using hv) (r.v.data.toList++t);obtain⟨f1,f2⟩:=zfn r.v rfl t;rw[a1,a2,b1,b2,c1,c2,d1,d2,f1,f2];exact⟨rfl,rfl⟩
theorem zmO {c:List UInt8} (h:(r5S (sT c)).s=false):∃ t,c=rowB (rowS (sT c))++t∧r5S (sT c)=sT t∧zbd (rowS (sT c)):=by
 have h4:(r4S (sT c)).s=false:=(zax h).1;have h3:(r3S (sT c)).s=false:=(zax h4).1;have h2:(r2S (sT c)).s=false:=(zax h3).1;have h1:(r1S (sT c)).s=false:=(zax h2).1;obtain⟨t1,e1,a1⟩:=za3 h1;have E1:r1S (sT c)=sT t1:=a1;unfold r2S at h2;rw[E1] at h2
 obtain⟨t2,e2,a2⟩:=za3 h2;have E2:r2S (sT c)=sT t2:=by unfold r2S;rw[E1];exact a2
 unfold r3S at h3;rw[E2] at h3
 obtain⟨t3,e3,a3⟩:=za3 h3;have E3:r3S (sT c)=sT t3:=by unfold r3S;rw[E2];exact a3
 unfold r4S at h4;rw[E3] at h4
 obtain⟨t4,e4,a4⟩:=za3 h4;have E4:r4S (sT c)=sT t4:=by unfold r4S;rw[E3];exact a4
 unfold r5S at h ⊢;rw[E3,E4] at h ⊢;obtain⟨t5,e5,a5,z5⟩:=zh8 h;have hrw:rowS (sT c)=⟨numS (sT c) 8,numS (sT t1) 4,numS (sT t2) 4,txtS (sT t4) (numS (sT t3) 1)⟩:=by unfold rowS;rw[E1,E2,E3,E4]
 have b1:=zaW (sT c) 8;have b2:=zaW (sT t1) 4;have b3:=zaW (sT t2) 4;simp only[Nat.reduceMul,Nat.reducePow] at b1 b2 b3;rw[hrw];refine⟨t5,?_,a5,b1,b2,b3⟩;unfold rowB;simp only[List.append_assoc];rw[z5,←e5,←e4,←e3,←e2,←e1]
theorem zfp {α:Type} (f:RS→α) (nx:RS→RS) (enc:α→List UInt8) (t:List UInt8):∀ (l:List α),(∀ a∈l,∀ t,f (sT (enc a++t))=a∧nx (sT (enc a++t))=sT t)→lstS f nx l.length (sT (l.flatMap enc++t))=(l,sT t)
 |[],_=>rfl
 |a::l,h=>by
  obtain⟨h1,h2⟩:=h a (by simp) (l.flatMap enc++t);have ih:=zfp f nx enc t l fun b hb=>h b (by simp[hb])
  rw[List.flatMap_cons,List.append_assoc,List.length_cons,zh3 (by rw[h2];rfl),h1,h2,ih]
theorem zfq {α:Type} (f:RS→α) (nx:RS→RS) (enc:α→List UInt8) (ok:α→Prop) (hs:∀ st,(nx st).s=false→st.s=false) (h:∀ c,(nx (sT c)).s=false→∃ t,c=enc (f (sT c))++t∧nx (sT c)=sT t∧ok (f (sT c))):
  ∀ (n:Nat) (c:List UInt8),(lstS f nx n (sT c)).2.s=false→∃ t,c=(lstS f nx n (sT c)).1.flatMap enc++t∧(lstS f nx n (sT c)).2=sT t∧(lstS f nx n (sT c)).1.length=n∧∀ a∈(lstS f nx n (sT c)).1,ok a
 |0,c,_=>⟨c,rfl,rfl,rfl,fun a ha=>by simp[lstS] at ha⟩
 |n+1,c,hk=>by
  cases hx:(nx (sT c)).s
  ·obtain⟨t1,e1,a1,o1⟩:=h c hx
   rw[zh3 hx] at hk ⊢;simp only at hk ⊢;rw[a1] at hk ⊢;obtain⟨t2,e2,a2,l2,o2⟩:=zfq f nx enc ok hs h n t1 hk;refine⟨t2,?_,a2,by simp[l2],fun a ha=>?_⟩
   ·rw[List.flatMap_cons,List.append_assoc,←e2];exact e1
   ·rcases List.mem_cons.1 ha with rfl|ha
    ·exact o1
    ·exact o2 a ha
  ·rw[zdB hx] at hk
   rw[hx] at hk;cases hk
theorem zge {α:Type} (f:RS→α) (nx:RS→RS) (hs:∀ st,(nx st).s=false→st.s=false):∀ (n:Nat) (st:RS),(lstS f nx n st).2.s=false→st.s=false
 |0,st,h=>h
 |n+1,st,h=>by
  cases hx:(nx st).s
  ·exact hs st hx
  ·rw[zdB hx] at h
   rw[hx] at h;cases h
def pB (P:Pp):List UInt8:=if P.k=1 then zcV P.l P.np P.nt else zbM P.X P.Y P.L.toNat P.ks
structure okP (P:Pp):Prop where
 X:P.X<4294967296
 Y:P.Y<4294967296
 np:P.np<4294967296
 rows:∀ r∈P.l,zbd r
 kids:∀ r∈P.ks,r.p<4294967296
theorem Pp.eq {a b:Pp} (h1:a.k=b.k) (h2:a.X=b.X) (h3:a.Y=b.Y) (h4:a.L=b.L) (h5:a.l=b.l) (h6:a.ks=b.ks) (h7:a.np=b.np) (h8:a.nt=b.nt):a=b:=by
 cases a;cases b;simp only at h1 h2 h3 h4 h5 h6 h7 h8;subst h1 h2 h3 h4 h5 h6 h7 h8;rfl
theorem zfr {P:Pp} (h1:P.k=1) (h:rpp P=true):(zbD P.np P.nt=true∨rref P.np P.nt=true)∧P.l.length≤4∧zaG P.l=true∧(∀ r∈P.l,r.v.size≤16)∧P.X=0∧P.Y=0∧P.L=0∧P.ks=[]:=by
 unfold rpp zdi at h;rw[if_pos h1] at h;have hf:=(zeL h).2.2.1;unfold zd8 noCell at h;simp only[Bool.and_eq_true,Bool.or_eq_true,decide_eq_true_eq] at h;obtain⟨a,b,c,⟨d1,d2,d3⟩,e⟩:=h;exact⟨a,b,c,fun r hr=>(hf r hr).1,d1,d2,d3,List.length_eq_zero_iff.1 e⟩
theorem zeb {P:Pp} (h1:P.k=2) (h:rpp P=true):2≤P.ks.length∧P.ks.length≤4∧(∀ r∈P.ks,rref r.p r.t=true)∧zaf P.X P.Y P.L=true∧0<P.L∧P.L≤31∧P.l=[]∧P.np=0∧P.nt=⟨#[]⟩:=by
 unfold rpp zdi at h;rw[if_neg (by simp only;omega),if_pos h1] at h;unfold zcp at h;simp only[Bool.and_eq_true,decide_eq_true_eq,List.all_eq_true] at h;obtain⟨⟨a,b⟩,c,d,e,f,g⟩:=h;obtain⟨g1,g2⟩:=zeN g
 have hr:P.L≤31:=by
  have d':=d;unfold zaf at d';simp only[decide_eq_true_eq] at d';omega
 exact⟨a,b,c,d,e,hr,List.length_eq_zero_iff.1 f,g1,g2⟩
theorem zfs {P:Pp} (h:rpp P=true):P.k=1∨P.k=2:=by
 unfold rpp zdi at h;simp only at h;by_cases h1:P.k=1
 ·exact .inl h1
 ·rw[if_neg h1] at h
  by_cases h2:P.k=2
  ·exact .inr h2
  ·rw[if_neg h2] at h;cases h
theorem zkX {P:Pp} (hR:rpp P=true) (ho:okP P) (t:List UInt8):rdP (sT (pB P++t))=P∧pgE (sT (pB P++t))=sT t:=by
 rcases zfs hR with hk|hk
 ·obtain⟨h1,h2,h3,h4,h5,h6,h7,h8⟩:=zfr hk hR
  have e:pB P++t=lef 1 1++(lef P.l.length 1++(refB P.np P.nt++(P.l.flatMap rowB++t))):=by
   unfold pB zcV;rw[if_pos hk];simp only[List.append_assoc]
  rw[e];obtain⟨a1,a2⟩:=za1 (v:=1) (n:=1) (by decide) (lef P.l.length 1++(refB P.np P.nt++(P.l.flatMap rowB++t)));obtain⟨b1,b2⟩:=za1 (v:=P.l.length) (n:=1) (by simp;omega) (refB P.np P.nt++(P.l.flatMap rowB++t));obtain⟨c1,c2⟩:=zh9 (r:=⟨P.np,P.nt⟩) ⟨ho.np,h1⟩ (P.l.flatMap rowB++t);simp only at c1 c2;have d:=zfp rowS r5S rowB t P.l fun r hr=>zmN (ho.rows r hr) (by have:=h4 r hr;omega)
  unfold rdP pgE lfL lfN;rw[a1,a2,if_pos rfl,if_pos rfl,b1,b2,c1,c2,d];exact⟨Pp.eq hk.symm h5.symm h6.symm h7.symm rfl h8.symm rfl rfl,rfl⟩
 ·obtain⟨h1,h2,h3,h4,h5,h6,h7,h8,h9⟩:=zeb hk hR
  have e:pB P++t=lef 2 1++(lef P.ks.length 1++(lef P.L.toNat 1++(lef P.X 4++(lef P.Y 4++((P.ks.flatMap fun r=>refB r.p r.t)++t))))):=by
   unfold pB zbM;rw[if_neg (by omega)];simp only[List.append_assoc]
  rw[e];obtain⟨a1,a2⟩:=za1 (v:=2) (n:=1) (by decide) (lef P.ks.length 1++(lef P.L.toNat 1++(lef P.X 4++(lef P.Y 4++((P.ks.flatMap fun r=>refB r.p r.t)++t)))));obtain⟨b1,b2⟩:=za1 (v:=P.ks.length) (n:=1) (by simp;omega) (lef P.L.toNat 1++(lef P.X 4++(lef P.Y 4++((P.ks.flatMap fun r=>refB r.p r.t)++t))));obtain⟨c1,c2⟩:=za1 (v:=P.L.toNat) (n:=1) (by simp;omega) (lef P.X 4++(lef P.Y 4++((P.ks.flatMap fun r=>refB r.p r.t)++t)));obtain⟨d1,d2⟩:=za1 (v:=P.X) (n:=4) (by simpa using ho.X) (lef P.Y 4++((P.ks.flatMap fun r=>refB r.p r.t)++t));obtain⟨f1,f2⟩:=za1 (v:=P.Y) (n:=4) (by simpa using ho.Y) ((P.ks.flatMap fun r=>refB r.p r.t)++t);have g:=zfp refS f2S (fun r=>refB r.p r.t) t P.ks fun r hr=>zh9 ⟨ho.kids r hr,.inr (h3 r hr)⟩
  unfold rdP pgE inL inX inY inC;rw[a1,a2,if_neg (show ¬(2:Nat)=1 by decide),if_neg (show ¬(2:Nat)=1 by decide),if_pos rfl,if_pos rfl,b1,b2,c1,c2,d1,d2,f1,f2,g];exact⟨Pp.eq hk.symm rfl rfl (by simp only;omega) h7.symm rfl h8.symm h9.symm,rfl⟩
theorem zft {st:RS} (h:(f2S st).s=false):st.s=false:=(zax (zax h).1).1
theorem zib {st:RS} (h:(r5S st).s=false):st.s=false:=(zax (zax (zax (zax (zax h).1).1).1).1).1
theorem zkY {c:List UInt8} (hs:(pgE (sT c)).s=false) (hR:rpp (rdP (sT c))=true):∃ t,c=pB (rdP (sT c))++t∧pgE (sT c)=sT t∧okP (rdP (sT c)):=by
 by_cases h1:numS (sT c) 1=1
 ·have hd:rdP (sT c)=⟨1,0,0,0,(lfL (aftS (sT c) 1)).1,[],(lfN (aftS (sT c) 1)).p,(lfN (aftS (sT c) 1)).t⟩:=by unfold rdP;rw[if_pos h1]
  have he:pgE (sT c)=(lfL (aftS (sT c) 1)).2:=by unfold pgE;rw[if_pos h1]
  rw[he] at hs ⊢;rw[hd];clear hd he hR;have k2:(f2S (aftS (aftS (sT c) 1) 1)).s=false:=zge _ _ (fun st h=>zib h) _ _ hs;have k1:=zft k2;have k0:=(zax k1).1;obtain⟨t1,e1,a1⟩:=za3 k0;rw[a1] at k1 k2 hs ⊢;obtain⟨t2,e2,a2⟩:=za3 k1;rw[a2] at k2;obtain⟨t3,e3,a3,o3⟩:=zia k2;have hL:lfL (sT t1)=lstS rowS r5S (numS (sT t1) 1) (sT t3):=by unfold lfL;rw[a2,a3]
  have hN:lfN (sT t1)=refS (sT t2):=by unfold lfN;rw[a2]
  rw[hL] at hs ⊢;rw[hN];obtain⟨t4,e4,a4,l4,o4⟩:=zfq rowS r5S rowB zbd (fun st h=>zib h) (fun c h=>zmO h) _ _ hs;refine⟨t4,?_,a4,⟨Nat.zero_lt_succ _,Nat.zero_lt_succ _,o3,o4,fun r hr=>by simp at hr⟩⟩;unfold pB zcV;rw[if_pos rfl];simp only[List.append_assoc];rw[l4,←e4,←e3,←e2];rw[h1] at e1;exact e1
 ·by_cases h2:numS (sT c) 1=2
  ·have hd:rdP (sT c)=⟨2,inX (aftS (sT c) 1),inY (aftS (sT c) 1),(inC (aftS (sT c) 1):Int),[],(inL (aftS (sT c) 1)).1,0,⟨#[]⟩⟩:=by unfold rdP;rw[if_neg h1,if_pos h2]
   have he:pgE (sT c)=(inL (aftS (sT c) 1)).2:=by unfold pgE;rw[if_neg h1,if_pos h2]
   rw[he] at hs ⊢;rw[hd];clear hd he hR;have k4:(aftS (aftS (aftS (aftS (aftS (sT c) 1) 1) 1) 4) 4).s=false:=zge _ _ (fun st h=>zft h) _ _ hs;have k3:=(zax k4).1;have k2:=(zax k3).1;have k1:=(zax k2).1;have k0:=(zax k1).1;obtain⟨t1,e1,a1⟩:=za3 k0;rw[a1] at k1 k2 k3 k4 hs ⊢;obtain⟨t2,e2,a2⟩:=za3 k1;rw[a2] at k2 k3 k4;obtain⟨t3,e3,a3⟩:=za3 k2;rw[a3] at k3 k4;obtain⟨t4,e4,a4⟩:=za3 k3;rw[a4] at k4;obtain⟨t5,e5,a5⟩:=za3 k4;have hL:inL (sT t1)=lstS refS f2S (numS (sT t1) 1) (sT t5):=by unfold inL;rw[a2,a3,a4,a5]
   have hC:inC (sT t1)=numS (sT t2) 1:=by unfold inC;rw[a2]
   have hX:inX (sT t1)=numS (sT t3) 4:=by unfold inX;rw[a2,a3]
   have hY:inY (sT t1)=numS (sT t4) 4:=by unfold inY;rw[a2,a3,a4]
   have bx:=zaW (sT t3) 4;have by':=zaW (sT t4) 4;simp only[Nat.reduceMul,Nat.reducePow] at bx by';rw[hL] at hs ⊢;rw[hC,hX,hY];obtain⟨t6,e6,a6,l6,o6⟩:=zfq refS f2S (fun r=>refB r.p r.t) (fun r=>r.p<4294967296) (fun st h=>zft h) (fun c h=>zia h) _ _ hs;refine⟨t6,?_,a6,⟨bx,by',Nat.zero_lt_succ _,fun r hr=>by simp at hr,o6⟩⟩;unfold pB zbM;rw[if_neg (show ¬(2:Int)=1 by decide)];simp only[List.append_assoc,Int.toNat_natCast];rw[l6,←e6,←e5,←e4,←e3,←e2];rw[h2] at e1;exact e1
  ·have:rdP (sT c)=pz:=by unfold rdP;rw[if_neg h1,if_neg h2]
   rw[this] at hR;cases hR
theorem zqk (s:ByteArray):(⟨s,false⟩:RS)=sT s.data.toList:=rfl
theorem zoP {P:Pp} (hR:rpp P=true) (ho:okP P):zbF ⟨(pB P).toArray⟩=true∧decP ⟨(pB P).toArray⟩=P:=by
 have h:=zkX hR ho [];rw[List.append_nil] at h
 have e:zbF ⟨(pB P).toArray⟩=true:=by
  unfold zbF;change (!(pgE (sT (pB P))).s&&(decide ((pgE (sT (pB P))).r=⟨#[]⟩)&&rpp (rdP (sT (pB P)))))=true;rw[h.1,h.2,hR];rfl
 refine⟨e,?_⟩;unfold decP;rw[if_pos e];exact h.1
theorem zkZ {s:ByteArray} (h:zbF s=true):(pgE ⟨s,false⟩).s=false∧(pgE ⟨s,false⟩).r=⟨#[]⟩∧rpp (rdP ⟨s,false⟩)=true∧decP s=rdP ⟨s,false⟩:=by
 have e:decP s=rdP ⟨s,false⟩:=by unfold decP;rw[if_pos h]
 unfold zbF at h;simp only[Bool.and_eq_true,Bool.not_eq_true',decide_eq_true_eq] at h;exact⟨h.1,h.2.1,h.2.2,e⟩
theorem zk0 {s:ByteArray} (h:zbF s=true):pB (decP s)=s.data.toList∧rpp (decP s)=true∧okP (decP s):=by
 obtain⟨h1,h2,h3,h4⟩:=zkZ h;rw[h4];rw[zqk] at h1 h2 h3 ⊢;obtain⟨t,e1,e2,e3⟩:=zkY h1 h3;rw[e2] at h2
 have ht:t=[]:=by
  rw[sT_r] at h2;have:=congrArg (fun b:ByteArray=>b.data.toList) h2;simpa using this
 rw[ht,List.append_nil] at e1;exact⟨e1.symm,h3,e3⟩
theorem zk1 {p:Nat} {t:ByteArray} (h:zbD p t=true∨rref p t=true):(refB p t).length=36:=by
 rcases h with h|h
 ·rw[zhh h,List.length_append,zaz];rfl
 ·obtain⟨-,e⟩:=zgd h
  rw[zfo (zhi e),List.length_append,zaz,Array.length_toList];have:t.data.size=32:=e;omega
theorem zmP (r:Rw):(rowB r).length=17+r.v.size:=by
 unfold rowB;simp only[List.length_append,zaz,Array.length_toList];have:r.v.data.size=r.v.size:=rfl;omega
theorem zhj {α:Type} (f:α→List UInt8) (m:Nat):∀ (l:List α),(∀ a∈l,(f a).length≤m)→(l.flatMap f).length≤l.length*m
 |[],_=>by simp
 |a::l,h=>by
  have h1:=h a (by simp);have ih:=zhj f m l fun b hb=>h b (by simp[hb])
  rw[List.flatMap_cons,List.length_append,List.length_cons,Nat.succ_mul];omega
theorem zpS {P:Pp} (hR:rpp P=true):0<(pB P).length∧(pB P).length≤198:=by
 rcases zfs hR with hk|hk
 ·obtain⟨h1,h2,h3,h4,-⟩:=zfr hk hR
  unfold pB zcV;rw[if_pos hk];simp only[List.length_append,zaz,zk1 h1];have:=zhj rowB 33 P.l fun r hr=>by rw[zmP];have:=h4 r hr;omega
  omega
 ·obtain⟨h1,h2,h3,-⟩:=zeb hk hR
  unfold pB zbM;rw[if_neg (by omega)];simp only[List.length_append,zaz];have:=zhj (fun r:Rf=>refB r.p r.t) 36 P.ks fun r hr=>by rw[zk1 (.inr (h3 r hr))];exact Nat.le_refl _
  omega
def encS (P:Pp):ByteArray:=if rpp P=true then⟨(pB P).toArray⟩ else⟨#[]⟩
def encE (P:Pp):Int:=if rpp P=true then 0 else 90
theorem zcW (q:Pg) (P:Pp) (w:World) (h:PAt w q P) (ho:okP P):
  Calls Tryz.prog 197 #[gv q] w fun e w'=>e=.returned (.tuple #[.string (encS P),.int .i64 (encE P)])∧Below w.heap.size w w':=by
 unfold encS encE;have hr:=h.rpp;cases hR:rpp P
 ·rw[hR] at hr
  exact zkL q P.l P.ks w h.at' hr
 ·rw[hR] at hr
  have e:zg7 q P.l P.ks=pB P:=by unfold zg7 pB;rw[h.k,h.np,h.nt,h.X,h.Y,h.L]
  have:=zkK q P.l P.ks w h.at' (by rw[h.np];exact ho.np) ho.kids hr;rw[e] at this;simpa using this
end Rw
namespace Rz
open Go.RowKit Go.Lib Go.Shelf
open Rc Rq
open Rw (Rf fcv fc zaB Pp PAt okP encS encE pz gv Pg rpp pB)
structure Sv where
 t:ByteArray
 r:Rf
def zf:Rf:=⟨0,⟨#[]⟩⟩
def zs:Sv:=⟨⟨#[]⟩,zf⟩
abbrev sv (x:Sv):Value:=.agg #[.string x.t,.int .u32 (x.r.p:Int),.string x.r.t]
def sc (x:Sv):List Value:=[.string x.t,.int .u32 (x.r.p:Int),.string x.r.t]
abbrev Pm (σ:Type):=σ→ByteArray→(Rf × Int) × σ
structure Gr (σ:Type) where
 s:σ
 ys:List Sv
 e:Int
 r:Rf
def zaC {σ:Type} (pl:Pm σ) (s:σ) (P:Pp):Gr σ:=
 if encE P=0 then
  (if(pl s (encS P)).1.2=0 then⟨(pl s (encS P)).2,[⟨encS P,(pl s (encS P)).1.1⟩],0,(pl s (encS P)).1.1⟩
  else⟨(pl s (encS P)).2,[],(pl s (encS P)).1.2,zf⟩)
 else⟨s,[],encE P,zf⟩
def Gr.then {σ:Type} (g:Gr σ) (f:σ→Rf→Gr σ):Gr σ:=
 if g.e=0 then⟨(f g.s g.r).s,g.ys++(f g.s g.r).ys,(f g.s g.r).e,(f g.s g.r).r⟩ else g
def piece (l:List Rw) (i:Nat):List Rw:=(l.drop (4*i)).take 4
def za2 (l:List Rw) (next:Rf):Pp:=⟨1,0,0,0,l,[],next.p,next.t⟩
def zaX (l:List Rw) (ks:List Rf):Pp:=⟨2,cx l,cy l,(lev l:Int),[],ks,0,⟨#[]⟩⟩
def zal {σ:Type} (pl:Pm σ) (l:List Rw):Nat→σ→Rf→Gr σ
 |0,s,next=>⟨s,[],0,next⟩
 |i+1,s,next=>(zaC pl s (za2 (piece l i) next)).then fun s' r=>zal pl l i s' r
def npc (l:List Rw):Nat:=(l.length - 1)/4+1
def zan {σ:Type} (f:σ→List Rw→Gr σ):List (List Rw)→σ→List Rf→Gr σ × List Rf
 |[],s,rs=>(⟨s,[],0,zf⟩,rs)
 |m::ms,s,rs=>
  if(f s m).e=0 then
   (⟨(zan f ms (f s m).s (rs++[(f s m).r])).1.s,(f s m).ys++(zan f ms (f s m).s (rs++[(f s m).r])).1.ys,(zan f ms (f s m).s (rs++[(f s m).r])).1.e,(zan f ms (f s m).s (rs++[(f s m).r])).1.r⟩,(zan f ms (f s m).s (rs++[(f s m).r])).2)
  else(f s m,rs)
def zad {σ : Type} (pl : Pm σ) : Nat → σ → List Rw → Gr σ
  | 0, s, _ => ⟨s, [], 0, zf⟩
  | d + 1, s, l =>
    if leaf l = true then zal pl l (npc l) s zf
    else
      (if (zan (zad pl d) (zao l) s []).1.e = 0 then
        ⟨(zaC pl (zan (zad pl d) (zao l) s []).1.s (zaX l (zan (zad pl d) (zao l) s []).2)).s,
         (zan (zad pl d) (zao l) s []).1.ys ++ (zaC pl (zan (zad pl d) (zao l) s []).1.s (zaX l (zan (zad pl d) (zao l) s []).2)).ys,
         (zaC pl (zan (zad pl d) (zao l) s []).1.s (zaX l (zan (zad pl d) (zao l) s []).2)).e,
         (zaC pl (zan (zad pl d) (zao l) s []).1.s (zaX l (zan (zad pl d) (zao l) s []).2)).r⟩
      else ⟨(zan (zad pl d) (zao l) s []).1.s, (zan (zad pl d) (zao l) s []).1.ys, (zan (zad pl d) (zao l) s []).1.e, zf⟩)
abbrev yv (x:Sv × Int):Array Value:=#[sv x.1,.int .i64 x.2]
def Fit {σ:Type} (it:Nat→Sv × Int→Bool→Prop) (k:Nat) (g:Gr σ):Prop:=(∀ i x,g.ys[i]? =some x→it (k+i) (x,0) true)∧(g.e≠0→it (k+g.ys.length) (zs,g.e) false)
theorem Fit.left {σ:Type} {it:Nat→Sv × Int→Bool→Prop} {k:Nat} {g:Gr σ} {f:σ→Rf→Gr σ} (h:Fit it k (g.then f)):Fit it k g:=by
 unfold Gr.then at h;by_cases he:g.e=0
 ·rw[if_pos he] at h
  refine⟨fun i x hx=>h.1 i x ?_,fun hn=>absurd he hn⟩;have:=(List.getElem?_eq_some_iff.1 hx).1;rw[List.getElem?_append_left this];exact hx
 ·rw[if_neg he] at h;exact h
structure Ask (l B:Nat) (V:Nat→Prop) (it:Nat→Sv × Int→Bool→Prop) (R:(Nat→Prop)→Nat→World→Prop) (Rx:(Nat→Prop)→World→Prop):Prop where
 keep:∀ own k W W',R own k W→Kv B V own W W'→R own k W'
 keepx:∀ own W W',Rx own W→Kv B V own W W'→Rx own W'
 yld:∀ own k x b W,it k x b→R own k W→(∀ j,own j→j<W.heap.size)→YieldAt Fence.wide 0 Tryz.prog l (yv x) W (YP R Rx own (k+1) W b)
structure Plc {σ:Type} (B:Nat) (V:Nat→Prop) (pl:Pm σ) (pf:Nat) (pb:Array Value) (I:σ→(Nat→Prop)→World→Prop):Prop where
 eg:∀ args w,(callFunc pf args).run Tryz.prog w=.ok (.enter pf args) w
 lt:∀ s F W,I s F W→∀ k,F k→k<W.heap.size
 fp:∀ s F W,I s F W→∀ k,F k→V k∨B≤k
 keep:∀ s F W W',I s F W→W.heap.size≤W'.heap.size→(∀ k,F k→W'.heap[k]? =W.heap[k]?)→I s F W'
 small:∀ s t,(pl s t).1.1.p<4294967296
 call:∀ s F W t,t.size≤198→I s F W→Calls Tryz.prog pf (#[.string t]++pb) W fun e W'=>e=.returned (.tuple #[fcv (pl s t).1.1,.int .i64 (pl s t).1.2])∧∃ F',I (pl s t).2 F' W'∧But F W W'∧Grw F F' W W'
theorem zcX (P:Pp):(encS P).size≤198:=by
 unfold encS;split
 ·rename_i h
  have:=(Rw.zpS h).2;show(pB P).toArray.size≤198;simpa using this
 ·exact Nat.zero_le _
structure Dj (own F:Nat→Prop) (W:World):Prop where
 lt:∀ j,own j→j<W.heap.size
 no:∀ j,own j→¬F j
theorem Grw.refl (own:Nat→Prop) (W W':World):Grw own own W W':=fun _ h=>.inl h
theorem Grw.trans {a b c:Nat→Prop} {W1 W2 W3:World} (h:Grw a b W1 W2) (k:Grw b c W2 W3) (h1:W1.heap.size≤W2.heap.size) (h2:W2.heap.size≤W3.heap.size):Grw a c W1 W3:=fun j hj=>by
 rcases k j hj with x|x
 ·rcases h j x with y|y
  ·exact .inl y
  ·exact .inr ⟨y.1,by omega⟩
 ·exact .inr ⟨by omega,x.2⟩
def GP {σ:Type} (R:(Nat→Prop)→Nat→World→Prop) (Rx:(Nat→Prop)→World→Prop) (I:σ→(Nat→Prop)→World→Prop) (own F:Nat→Prop) (k:Nat) (g:Gr σ) (W:World) (e:Ending) (W':World):Prop:=
 e=.returned (.tuple #[fcv g.r,.bool (decide (g.e=0))])∧∃ own' F',(Grw own own' W W'∧Grw F F' W W')∧Dj own' F' W'∧But (fun j=>own j∨F j) W W'∧I g.s F' W'∧(g.e=0→R own' (k+g.ys.length) W')∧(g.e≠0→Rx own' W')
theorem zic {σ:Type} (pl:Pm σ) (s:σ) (P:Pp):¬(zaC pl s P).e=0→(zaC pl s P).r=zf:=by
 unfold zaC;split
 ·split
  ·intro h;exact absurd rfl h
  ·intro _;rfl
 ·intro _;rfl
theorem zb9 {σ:Type} {pl:Pm σ} (hs:∀ s t,(pl s t).1.1.p<4294967296) (s:σ) (P:Pp):(zaC pl s P).r.p<4294967296:=by
 unfold zaC;split
 ·split
  ·exact hs s _
  ·exact Nat.zero_lt_succ _
 ·exact Nat.zero_lt_succ _
theorem zcY {σ:Type} {pl:Pm σ} (hs:∀ s t,(pl s t).1.1.p<4294967296) (l:List Rw):∀ (i:Nat) (s:σ) (next:Rf),next.p<4294967296→(zal pl l i s next).r.p<4294967296
 |0,_,_,h=>h
 |i+1,s,next,_=>by
  unfold zal Gr.then;split
  ·exact zcY hs l i _ _ (zb9 hs _ _)
  ·exact zb9 hs _ _
theorem zcG {σ:Type} {pl:Pm σ} (hs:∀ s t,(pl s t).1.1.p<4294967296):∀ (d:Nat) (s:σ) (l:List Rw),(zad pl d s l).r.p<4294967296
 |0,_,_=>Nat.zero_lt_succ _
 |d+1,s,l=>by
  unfold zad;split
  ·exact zcY hs l _ _ _ (Nat.zero_lt_succ _)
  ·split
   ·exact zb9 hs _ _
   ·exact Nat.zero_lt_succ _
open Go.RowKit Go.Lib
theorem zoQ (o:Option Addr) (n cap k m:Nat) (w:World) (hk:k≤m) (hm:m≤cap) (ho:o=none→cap=0):(Instr.sliceAt 22 (.slice o n cap) (some (.int .i64 (k:Int))) (some (.int .i64 (m:Int))) none).run Tryz.prog w=.ok (.slice (if cap=k then o else o.map (·.add (k*4))) (m - k) (cap - k)) w:=by
 have h1:(k:Int)≤(m:Int):=by omega
 have h2:(m:Int)≤(cap:Int):=by omega
 cases o with
 |none=>
  have:=ho rfl;subst this;obtain rfl:m=0:=by omega
  obtain rfl:k=0:=by omega
  simp[Instr.sliceAt,Instr.slice,run_underlying Tryz.underlying22,go_sem]
 |some a=>
  simp[Instr.sliceAt,Instr.slice,run_underlying Tryz.underlying22,go_sem];rw[if_pos hm,if_pos hk]
theorem zmQ {w:World} {o:Option Addr} {cap:Nat} {l:List Rw} (h:zac w o cap l) {k m:Nat} (hk:k≤m) (hm:m≤l.length):zac w (if cap=k then o else o.map (·.add (k*4))) (cap - k) ((l.drop k).take (m - k)):=by
 have hl:((l.drop k).take (m - k)).length=m - k:=by rw[List.length_take,List.length_drop];omega
 have h1:=h.1;have h2:=h.2.1;refine⟨by omega,by omega,fun e=>?_,zcx rc 4 (fun _=>rfl) _,fun hn=>?_⟩
 ·by_cases hc:cap=k
  ·omega
  ·rw[if_neg hc] at e
   have:o=none:=by cases o with|none=>rfl|some a=>simp at e
   have:=h.2.2.1 this;omega
 ·obtain⟨b,off,e,hlt,hc⟩:=h.2.2.2.2 (by omega)
  have hck:¬cap=k:=by omega
  rw[if_neg hck,e];refine⟨b,off+k*4,?_,hlt,fun j u hu=>?_⟩
  ·simp[Addr.add]
  ·have e2:l.flatMap rc=(l.take k).flatMap rc++(((l.drop k).take (m - k)).flatMap rc++((l.drop k).drop (m - k)).flatMap rc):=by rw[←List.flatMap_append,←List.flatMap_append,List.take_append_drop,List.take_append_drop]
   have e3:((l.take k).flatMap rc).length=k*4:=by rw[zcx rc 4 (fun _=>rfl),List.length_take];congr 1;omega
   have:=hc (k*4+j) u (by rw[e2,List.getElem?_append_right (by omega),e3,Nat.add_sub_cancel_left,List.getElem?_append_left (List.getElem?_eq_some_iff.1 hu).1];exact hu);rwa[←Nat.add_assoc] at this
def pend (n i:Nat):Nat:=if 4*i+4≤n then 4*i+4 else n
theorem zid (l:List Rw) (i:Nat) (h:4*i≤l.length):piece l i=(l.drop (4*i)).take (pend l.length i - 4*i):=by
 unfold piece pend;by_cases h1:4*i+4≤l.length
 ·rw[if_pos h1,show 4*i+4 - 4*i=4 by omega]
 ·rw[if_neg h1,List.take_of_length_le (by rw[List.length_drop];omega),List.take_of_length_le (by rw[List.length_drop];omega)]
theorem zk2 (l:List Rw) (i:Nat) (h:4*i≤l.length):(piece l i).length=pend l.length i - 4*i:=by
 rw[zid l i h,List.length_take,List.length_drop];unfold pend;split<;>omega
theorem zk3 {l:List Rw} {i:Nat} {r:Rw} (h:r∈piece l i):r∈l:=List.mem_of_mem_drop (List.mem_of_mem_take h)
open Go.RowKit
open Go.ChangeMaps (setBlock)
open Rq (But)
open Rd (zaA)
open Rw (Rf fcv)
theorem zpT {S:Nat→Prop} {w w':World} (h:Rd.But S w w'):But S w w':=⟨h.os,h.tape,h.output,h.size,h.block⟩
theorem zk4 {a b:ByteArray} (h:Value.string a=.string b):a=b:=by cases h;rfl
def Wh (w:World) (m:Nat) (f:ByteArray→Option Rf):Prop:=
 ∃ es clock,w.heap[m]? =some (.map es clock)∧MapKept.Stamped es clock∧
  (∀ e∈es.toList,∃ (p:ByteArray) (t:Rf),e.key=.string p∧e.val=fcv t∧f p=some t)∧
  (∀ p t,f p=some t→∃ e∈es.toList,e.key=.string p∧e.val=fcv t)
theorem Wh.same {w w':World} {m:Nat} {f:ByteArray→Option Rf} (h:Wh w m f) (e:w'.heap[m]? =w.heap[m]?):Wh w' m f:=by
 obtain⟨es,c,h1,h2⟩:=h;exact⟨es,c,e.trans h1,h2⟩
theorem Wh.lt {w:World} {m:Nat} {f:ByteArray→Option Rf} (h:Wh w m f):m<w.heap.size:=by
 obtain⟨es,c,h1,h2⟩:=h;exact(zi h1).1
theorem Wh.made (w:World):Wh (w.alloc (.map #[] 0)) w.heap.size (fun _=>none):=
 ⟨#[],0,zq w _,MapKept.stamped_empty 0,by simp,by simp⟩
theorem Wh.look {w:World} {m:Nat} {f:ByteArray→Option Rf} (h:Wh w m f) (p:ByteArray) (c:Bool):
  (Instr.lookup 145 (.map (some m)) (.string p) c).run Tryz.prog w=.ok (if c then .tuple #[fcv ((f p).getD zf),.bool (f p).isSome] else fcv ((f p).getD zf)) w:=by
 obtain⟨es,cl,h1,h2,h3,h4⟩:=h;have hk:MapKept.IsKey .string (.string p):=trivial
 have hks:∀ e∈es.toList,MapKept.IsKey .string e.key:=fun e he=>by
  obtain⟨q,t,e1,_⟩:=h3 e he;rw[e1];trivial
 have hz:(zeroValue 49).run Tryz.prog w=.ok (fcv zf) w:=Tryz.zeroValue49 w;rcases MapKept.findNow_spec hk es.toList 0 hks with⟨k1,k2⟩|⟨j,e0,k1,k2,k3⟩
 ·have hf:f p=none:=by
   cases hf:f p with
   |none=>rfl
   |some t=>
    obtain⟨e,he,e1,_⟩:=h4 p t hf;exact absurd e1 (k2 e he)
  rw[hf];have fk:=MapKept.run_findKey (w:=w) Tryz.underlying9 k1;simp only[Instr.lookup,Sem.run_bind,run_underlying Tryz.underlying145,MapKept.run_getObj_map h1,MapKept.run_checkKey Tryz.underlying9 hk _ 9999,fk,hz,Result.andThen,Sem.run_pure];rfl
 ·have hm0:e0∈es.toList:=List.mem_of_getElem? k2
  obtain⟨q,t,e1,e2,e3⟩:=h3 e0 hm0;have hq:q=p:=by rw[k3] at e1;exact(zk4 e1).symm
  subst hq;rw[e3];have fk:=MapKept.run_findKey (w:=w) Tryz.underlying9 k1;rw[e2] at fk;simp only[Instr.lookup,Sem.run_bind,run_underlying Tryz.underlying145,MapKept.run_getObj_map h1,MapKept.run_checkKey Tryz.underlying9 hk _ 9999,fk,Result.andThen,Sem.run_pure];rfl
def tput (f:ByteArray→Option Rf) (p:ByteArray) (t:Option Rf):ByteArray→Option Rf:=fun q=>if q=p then t else f q
theorem Wh.update {w:World} {m:Nat} {f:ByteArray→Option Rf} (h:Wh w m f) (p:ByteArray) (t:Rf):
  ∃ w',(Instr.mapUpdate 145 (.map (some m)) (.string p) (fcv t)).run Tryz.prog w=.ok () w'∧Wh w' m (tput f p (some t))∧But (fun k=>k=m) w w'∧w'.heap.size=w.heap.size:=by
 obtain⟨es,cl,h1,h2,h3,h4⟩:=h;have hk:MapKept.IsKey .string (.string p):=trivial
 have hks:∀ e∈es.toList,MapKept.IsKey .string e.key:=fun e he=>by
  obtain⟨q,t,e1,_⟩:=h3 e he;rw[e1];trivial
 rcases MapKept.findNow_spec hk es.toList 0 hks with⟨k1,k2⟩|⟨j,e0,k1,k2,k3⟩
 ·have hnone:f p=none:=by
   cases hf:f p with
   |none=>rfl
   |some t=>
    obtain⟨e,he,e1,_⟩:=h4 p t hf;exact absurd e1 (k2 e he)
  have fk:=MapKept.run_findKey (w:=w) Tryz.underlying9 k1;refine⟨setBlock w m (.map (es.push ⟨.string p,fcv t,cl⟩) (cl+1)),?_,⟨_,_,zaA h1,MapKept.stamped_push h2 k2,?_,?_⟩,zpT (Rd.But.setBlock _ _ _ rfl),by simp[ChangeMaps.setBlock]⟩
  ·simp only[Instr.mapUpdate,Sem.run_bind,run_underlying Tryz.underlying145,MapKept.run_getObj_map h1,MapKept.run_checkKey Tryz.underlying9 hk _ 9999,fk,Result.andThen,MapKept.run_setObj_map _ h1]
   rfl
  ·intro e he
   rw[Array.toList_push,List.mem_append] at he;rcases he with he|he
   ·obtain⟨q,s,e1,e2,e3⟩:=h3 e he
    refine⟨q,s,e1,e2,?_⟩;unfold tput;rw[if_neg fun hqp=>k2 e he (by rw[e1,hqp]),e3]
   ·simp at he
    subst he;exact⟨p,t,rfl,rfl,by simp[tput]⟩
  ·intro q s hq
   unfold tput at hq;rw[Array.toList_push];split at hq
   ·rename_i e
    cases hq;exact⟨_,List.mem_append.2 (.inr (by simp;rfl)),by rw[e],rfl⟩
   ·obtain⟨e,he,e1⟩:=h4 q s hq
    exact⟨e,List.mem_append.2 (.inl he),e1⟩
 ·have fk:=MapKept.run_findKey (w:=w) Tryz.underlying9 k1
  have hj:es[j]? =some e0:=by rw[←Array.getElem?_toList];exact k2
  have hjl:j<es.size:=(zi hj).1;have hgj:es[j]=e0:=(zi hj).2
  have hget:∀ i,(es.modify j fun e=>{ e with key:=.string p,val:=fcv t })[i]? =if j=i then some { e0 with key:=.string p,val:=fcv t } else es[i]? :=by
   intro i;rw[Array.getElem?_modify];split
   ·rename_i e;subst e;rw[hj];rfl
   ·rfl
  have hdis:=(MapKept.stamped_iff es cl).1 h2;refine⟨setBlock w m (.map (es.modify j fun e=>{ e with key:=.string p,val:=fcv t }) cl),?_,⟨_,_,zaA h1,MapKept.stamped_modify h2 j _ (fun _ _=>rfl) (fun e _ he=>?_),?_,?_⟩,zpT (Rd.But.setBlock _ _ _ rfl),by simp[ChangeMaps.setBlock]⟩
  ·simp only[Instr.mapUpdate,Sem.run_bind,run_underlying Tryz.underlying145,MapKept.run_getObj_map h1,MapKept.run_checkKey Tryz.underlying9 hk _ 9999,fk,Result.andThen,Nat.zero_add,hj,Option.map_some,Option.getD_some,k3,MapKept.run_keyThatStays hk,MapKept.run_setObj_map _ h1]
   rfl
  ·rw[hj] at he;cases he;exact k3.symm
  ·intro e he
   rw[List.mem_iff_getElem?] at he;obtain⟨i,hi⟩:=he;rw[Array.getElem?_toList,hget] at hi;split at hi
   ·cases hi
    exact⟨p,t,rfl,rfl,by simp[tput]⟩
   ·rename_i hne
    have hm:e∈es.toList:=by rw[List.mem_iff_getElem?];exact⟨i,by rw[Array.getElem?_toList];exact hi⟩
    obtain⟨q,s,e1,e2,e3⟩:=h3 e hm;refine⟨q,s,e1,e2,?_⟩;unfold tput;rw[if_neg fun hqp=>?_,e3];have hil:i<es.size:=(zi hi).1;have hgi:es[i]=e:=(zi hi).2;have hp:=hdis.2.2;rw[List.pairwise_iff_getElem] at hp;rcases Nat.lt_or_gt_of_ne hne with hlt|hlt
    ·exact hp j i (by simpa using hjl) (by simpa using hil) hlt (by simp only[Array.getElem_toList];rw[hgj,hgi,k3,e1,hqp])
    ·exact hp i j (by simpa using hil) (by simpa using hjl) hlt (by simp only[Array.getElem_toList];rw[hgj,hgi,k3,e1,hqp])
  ·intro q s hq
   unfold tput at hq;split at hq
   ·rename_i e
    cases hq;refine⟨{ e0 with key:=.string p,val:=fcv t },List.mem_iff_getElem?.2 ⟨j,by rw[Array.getElem?_toList,hget,if_pos rfl]⟩,by rw[e],rfl⟩
   ·rename_i hqp
    obtain⟨e,he,e1,e2⟩:=h4 q s hq;rw[List.mem_iff_getElem?] at he;obtain⟨i,hi⟩:=he;refine⟨e,List.mem_iff_getElem?.2 ⟨i,?_⟩,e1,e2⟩;rw[Array.getElem?_toList] at hi ⊢;rw[hget,if_neg,hi];intro hji;subst hji;rw[hj] at hi;cases hi;rw[k3] at e1;exact hqp (zk4 e1).symm
end Rz
namespace Rw
open Go.RowKit Go.Lib Go.Shelf
open Rc Rq
theorem ziQ {s t:ByteArray} (h:s≠t) (e:s.toList=t.toList):False:=by
 rw[ByteArray.toList_eq,ByteArray.toList_eq] at e;apply h;obtain⟨⟨a⟩⟩:=s;obtain⟨⟨b⟩⟩:=t;have e':a=b:=e;rw[e']
def eqF (r s:Rf):Bool:=decide (r.p=s.p)&&decide (r.t=s.t)
theorem zhk (r s:Rf):eqF r s=true↔r=s:=by
 unfold eqF;simp only[Bool.and_eq_true,decide_eq_true_eq];exact⟨fun h=>Rf.eq h.1 h.2,fun h=>by rw[h];exact⟨rfl,rfl⟩⟩
theorem zmR (a a':Nat) (s t:ByteArray) (w:World):(binOp .eql 49 (.agg #[.int .u32 (a:Int),.string s]) (.agg #[.int .u32 (a':Int),.string t])).run Tryz.prog w=.ok (.bool (eqF ⟨a,s⟩ ⟨a',t⟩)) w:=by
 have hS:Tryz.prog.underlying 49=some (.struct (Tryz.prog.fieldsOf 49)):=by kernel_rfl
 have hp:Tryz.prog.stoodInHeld 49=false:=by kernel_rfl
 have u2:=Tryz.underlying41;have u9:=Tryz.underlying9;rw[run_eql_struct,show(10000:Nat)=9999+1 from rfl,run_equalIn_agg w 9999 49 _ _ hS hp];simp only[Program.fieldsOf,Tryz.underlying49];unfold eqF;simp only;by_cases h1:a=a'
 ·subst h1
  by_cases h4:s=t
  ·subst h4
   go_simp
  ·go_simp
   exact fun e=>ziQ h4 e
 ·go_simp
  exact fun e=>absurd (Int.ofNat_inj.1 e) h1
theorem zie (a a':Nat) (s t:ByteArray) (w:World):(binOp .neq 49 (.agg #[.int .u32 (a:Int),.string s]) (.agg #[.int .u32 (a':Int),.string t])).run Tryz.prog w=.ok (.bool (!eqF ⟨a,s⟩ ⟨a',t⟩)) w:=by
 have h:=zmR a a' s t w;rw[run_eql_struct] at h;rw[run_neq_struct];cases e:(Op.equalIn 10000 49 (.agg #[.int .u32 (a:Int),.string s]) (.agg #[.int .u32 (a':Int),.string t])).run Tryz.prog w with
 |ok b w'=>rw[e] at h;simp[Result.andThen] at h ⊢;simp[h]
 |_=>rw[e] at h;simp[Result.andThen] at h
end Rw
end Go.Proofs.YtokfnghckpgjmaaGreatDoor
