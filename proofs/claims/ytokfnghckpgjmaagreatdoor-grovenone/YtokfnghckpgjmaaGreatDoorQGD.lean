/- The least cell of rows. -/
import Derived.Test.YtokfnghckpgjmaaGreatDoorQCK
set_option maxRecDepth 100000
set_option maxHeartbeats 4000000
namespace Go.Proofs.YtokfnghckpgjmaaGreatDoor
namespace Rq
open Go.RowKit Go.Lib Go.Shelf
open Rc
def LS (b off g:Nat) (x y:Nat) (r:Rw) (w:World):Prop:=w.cell? ⟨b,off+1,none⟩=some (.int .u32 (x:Int))∧w.cell? ⟨b,off+2,none⟩=some (.int .u32 (y:Int))∧F4 g r w
theorem LS.same {b off g x y:Nat} {r:Rw} {w w':World} (h:LS b off g x y r w) (e:w'.heap[b]? =w.heap[b]?) (f:w'.heap[g]? =w.heap[g]?):LS b off g x y r w':=
 ⟨(World.cell?_of_block (a:=⟨b,off+1,none⟩) e).trans h.1,(World.cell?_of_block (a:=⟨b,off+2,none⟩) e).trans h.2.1,h.2.2.same f⟩
theorem zka {P:Program} {md:Region.Mode} {ops:Array Oper} {Q:Exit→Act→World→Prop} {S:World→Prop} {fuel:Nat} {listed:Array Bool} {a:Act} {w:World} (k k2:Nat) (o o2:Oper) (hr:Region.ready md ops listed=[k,k2]) (ho:ops[k]? =some o) (ho2:ops[k2]? =some o2)
  (hw:Region.wanted o (yielded ops a.tmps)=true) (hw2:Region.wanted o2 (yielded ops a.tmps)=true)
  (h:∀ K:Act→World→Prop,(∀ a w,S w→wpAnyH P md ops Q S fuel (listed.setIfInBounds k true) a w→K a w)→Oper.wp P o a w K Q)
  (h2:∀ K:Act→World→Prop,(∀ a w,S w→wpAnyH P md ops Q S fuel (listed.setIfInBounds k2 true) a w→K a w)→Oper.wp P o2 a w K Q):wpAnyH P md ops Q S (fuel+1) listed a w:=by
 refine wpAnyH_all hr (by simp) fun j hj=>?_
 have:j=k∨j=k2:=by simpa using hj
 rcases this with rfl|rfl
 ·unfold wpOp
  simp only[ho,hw,if_true];exact .inl (h _ fun a w h1 h2=>⟨h1,h2⟩)
 ·unfold wpOp
  simp only[ho2,hw2,if_true];exact .inl (h2 _ fun a w h1 h2=>⟨h1,h2⟩)
structure LJ (l:List Rw) (w:World) (k:Nat) (X Y L:Nat) (W:World):Prop where
 res:W.heap[w.heap.size]? =some (.cells #[.int .u32 0,.int .u32 0,.int .i64 0] 70 (0,0))
 out:W.heap[w.heap.size+1]? =some (.cells #[.int .u32 (X:Int),.int .u32 (Y:Int),.int .i64 (L:Int)] 70 (0,0))
 bel:Below w.heap.size w W
 is:0<k→L=levs (x0 l) (y0 l) (l.take k)∧X=flr (x0 l) L∧Y=flr (y0 l) L
theorem LJ.size {l:List Rw} {w W:World} {k X Y L:Nat} (h:LJ l w k X Y L W):w.heap.size+2≤W.heap.size:=(zi h.out).1
theorem LJ.next {l:List Rw} {w W W':World} {k X Y L B:Nat} (h:LJ l w k X Y L W) (hb:Below B W W') (hB:w.heap.size+2≤B):LJ l w k X Y L W':=
 ⟨(hb.block _ (by omega)).trans h.res,(hb.block _ (by omega)).trans h.out,h.bel.trans (hb.mono (by omega)),h.is⟩
theorem zfb (l:List Rw) (k:Nat) (h:k<l.length):l.take (k+1)=l.take k++[rat l k]:=by
 rw[List.take_add_one,zb1 h];rfl
theorem zhR (x y:Nat) (r:Rw):levs x y [r]=lvl x y r.x r.y:=by simp[levs]
theorem LJ.keep {l:List Rw} {w W:World} {k X Y L:Nat} (h:LJ l w k X Y L W) (hk:k<l.length) (h0:0<k) (hl:lvl (x0 l) (y0 l) (rat l k).x (rat l k).y≤L):LJ l w (k+1) X Y L W:=
 ⟨h.res,h.out,h.bel,fun _=>by
  obtain⟨a,b,c⟩:=h.is h0;refine⟨?_,b,c⟩;rw[zfb l k hk,zdM,←a,zhR];omega⟩
theorem LJ.put {l:List Rw} {w W:World} {k X Y L:Nat} (h:LJ l w k X Y L W) (hk:k<l.length) (v:Nat) (hv:v=lvl (x0 l) (y0 l) (rat l k).x (rat l k).y) (hm:0<k→L<v):
  LJ l w (k+1) (flr (x0 l) v) (flr (y0 l) v) v (((W.setCell ⟨w.heap.size+1,0,none⟩ (.int .u32 ((flr (x0 l) v:Nat):Int))).setCell ⟨w.heap.size+1,1,none⟩ (.int .u32 ((flr (y0 l) v:Nat):Int))).setCell ⟨w.heap.size+1,2,none⟩ (.int .i64 (v:Int))):=by
 have hs:=h.size;obtain⟨h2,b2⟩:=zcM h.out (.int .u32 ((flr (x0 l) v:Nat):Int)) (.int .u32 ((flr (y0 l) v:Nat):Int)) (.int .i64 (v:Int));refine⟨(b2.block _ (by omega)).trans h.res,h2,h.bel.trans (b2.mono (by omega)),fun _=>⟨?_,rfl,rfl⟩⟩;rw[zfb l k hk,zdM,zhR,←hv];by_cases h0:0<k
 ·have:=(h.is h0).1
  have:=hm h0;omega
 ·obtain rfl:k=0:=by omega
  simp[levs]
theorem ziR {fn:Func} {p:Tmp} (h:fn.results=#[.cell p 70]) (tmps:Array Value) (w:World) (g:Nat) (X Y:Nat) (L:Int) {t:TypeId} {fr:Nat × Nat}
  (hp:tmps.getD p undef=.pointer (some ⟨g,0,none⟩)) (hg:w.heap[g]? =some (.cells #[.int .u32 (X:Int),.int .u32 (Y:Int),.int .i64 L] t fr)):(results fn tmps).run Tryz.prog w=.ok (cv X Y L) w:=by
 have hp':tmps[p]?.getD undef=.pointer (some ⟨g,0,none⟩):=by simpa using hp
 have c0:w.cell? ⟨g,0,none⟩=some (.int .u32 (X:Int)):=by rw[zr hg];rfl
 have c1:w.cell? ⟨g,1,none⟩=some (.int .u32 (Y:Int)):=by rw[zr hg];rfl
 have c2:w.cell? ⟨g,2,none⟩=some (.int .i64 L):=by rw[zr hg];rfl
 simp[results,h,hp',asAddr,go_sem,c0,c1,c2]
theorem zez (l:List Rw) (o:Option Addr) (cap:Nat) (w:World) (hr:zac w o cap l) (hne:0<l.length) (hon:On l) (hmax:l.length≤1000):
  Calls Tryz.prog 100 #[.slice o l.length cap] w fun e w'=>e=.returned (cv (cx l) (cy l) (lev l))∧Below w.heap.size w w':=by
 have HT:=zay w (.cells #[.int .u32 0,.int .u32 0,.int .i64 0] 70) (.cells #[.int .u32 0,.int .u32 0,.int .i64 0] 70);have H0:Hid (LJ l w 0 0 0 0 ((w.alloc (.cells #[.int .u32 0,.int .u32 0,.int .i64 0] 70)).alloc (.cells #[.int .u32 0,.int .u32 0,.int .i64 0] 70))):=⟨HT.1,HT.2.1,HT.2.2,fun h=>absurd h (by omega)⟩;clear HT;go_enter Tryz.func100,Tryz.ntmps100;go_wp2_with fail
 go_loopw [10] (fun i wr=>∃ k:Nat,k≤l.length∧i=.int .i64 (k:Int)∧∃ X Y L,LJ l w k X Y L wr) (fun i _=>l.length - zam i)
 case atStart=>exact⟨0,by omega,rfl,0,0,0,H0.out⟩
 case round=>
  obtain⟨k,hk,rfl,X,Y,L,hj⟩:=hrel;have HJ:Hid (LJ l w k X Y L wr):=hj;have hsz:=hj.size;by_cases hlt:k<l.length
  ·obtain⟨b,off,rfl,hbl,hc⟩:=(hr.below hj.bel zn).row hlt
   have hbw:b<w.heap.size:=by
    obtain⟨b',off',e,h,_⟩:=hr.row hlt;cases e;exact h
   obtain⟨c0,c1,c2,c3⟩:=hc k hlt;obtain⟨_,d1,d2,_⟩:=hc 0 hne;rw[Nat.zero_mul,Nat.add_zero,←zpo,←zpp] at*
   have q1:(k:Int)<(l.length:Int):=by omega
   have q2:(0:Int)<(l.length:Int):=by omega
   have k0:(0:Int)≤(k:Int):=by omega
   have k1:(k:Int)+1≤9223372036854775807:=by omega
   have onr:=hon _ (zeY hlt);have on0':=on0 hon;have HC:Hid _:=zcN (x0 l) (y0 l) (rat l k).x (rat l k).y;rw[show leas (x0 l) (y0 l) (rat l k).x (rat l k).y=(flr (x0 l) (lvl (x0 l) (y0 l) (rat l k).x (rat l k).y),flr (y0 l) (lvl (x0 l) (y0 l) (rat l k).x (rat l k).y),(lvl (x0 l) (y0 l) (rat l k).x (rat l k).y:Int),0) by unfold leas;rw[if_pos ⟨zdz on0'.1 on0'.2,zdz onr.1 onr.2⟩]] at HC;simp only[qv] at HC;have HP:Hid _:=fun(W:World) (h:LJ l w k X Y L W)=>h.put hlt _ rfl
   have HKp:Hid _:=fun(W:World) (h:LJ l w k X Y L W)=>h.keep hlt
   generalize lvl (x0 l) (y0 l) (rat l k).x (rat l k).y=lv at*
   generalize flr (x0 l) lv=fx at*
   generalize flr (y0 l) lv=fy at*
   generalize x0 l=xx at*
   generalize y0 l=yy at*
   generalize hr0:rat l k=r at*
   obtain⟨id,x,y,v⟩:=r;simp only at c0 c1 c2 c3 HC;clear hr0 hc onr on0' hj;have HBn:Hid (Below wr.heap.size wr (wr.alloc (.cells #[.int .u64 (id:Int),.int .u32 (x:Int),.int .u32 (y:Int),.string v] 79)).drew):=(zaa wr _).drew
   have HSW:Hid (LS b off wr.heap.size xx yy ⟨id,x,y,v⟩ (wr.alloc (.cells #[.int .u64 (id:Int),.int .u32 (x:Int),.int .u32 (y:Int),.string v] 79)).drew):=
    ⟨(World.cell?_of_block (a:=⟨b,off+1,none⟩) (HBn.out.block b hbl)).trans d1,(World.cell?_of_block (a:=⟨b,off+2,none⟩) (HBn.out.block b hbl)).trans d2,F4.of (zq wr _)⟩
   have hlt2:wr.heap.size<(wr.alloc (.cells #[.int .u64 (id:Int),.int .u32 (x:Int),.int .u32 (y:Int),.string v] 79)).drew.heap.size:=by simp
   clear d1 d2;go_wp2_with fail;refine wp_region_held (S:=LS b off wr.heap.size xx yy ⟨id,x,y,v⟩) (by kernel_rfl) ?_;change wpAnyH _ _ _ _ _ _ _ _ (World.drew _);refine plan [0,1,2,3,4,5,6,7,8,9,10,11] ?_
   iterate 12
    refine tkH (v:=?_) rfl ?_ HSW.out ?_;rotate_left
    ·rintro w ⟨e1,e2,e3,e4,e5,e6⟩;go_simp;try with_reducible rfl
    conv in(Act.put _ _ _)=>simp only[zL1,zL2,zL3,Act.put,zL4,zL5,zL6]
   refine plan0 ?_;refine zka 12 16 _ _ (by kernel_rfl) rfl rfl (by kernel_rfl) (by kernel_rfl) (fun K hK=>?_) (fun K hK=>?_)
   ·go_simp
    refine(HC.out _).mono ?_;rintro e w1 ⟨rfl,b1⟩;have HJ1:Hid (LJ l w k X Y L w1):=(HJ.out.next HBn.out hsz).next b1 (by omega)
    replace HSW:Hid (LS b off wr.heap.size xx yy ⟨id,x,y,v⟩ w1):=HSW.out.same (b1.block _ (by omega)) (b1.block _ hlt2)
    have hs1:wr.heap.size<w1.heap.size:=Nat.lt_of_lt_of_le hlt2 b1.size;refine hK _ _ HSW.out ?_;clear hK K b1;refine plan [13,14,15] ?_
    iterate 3
     refine tkH (v:=?_) rfl ?_ HSW.out ?_;rotate_left
     ·rintro w ⟨e1,e2,e3,e4,e5,e6⟩;go_simp;try with_reducible rfl
     conv in(Act.put _ _ _)=>simp only[zL1,zL2,zL3,Act.put,zL4,zL5,zL6]
    refine plan0 ?_;refine zar 16 _ (by kernel_rfl) rfl (by kernel_rfl) (fun K hK=>?_);go_simp;have HJ2:=HJ1.out.next (zaa w1 (.cells #[.int .u32 0,.int .u32 0,.int .i64 0] 70)) (by have:=HJ1.out.size;omega);have HG2:Hid ((w1.alloc (.cells #[.int .u32 0,.int .u32 0,.int .i64 0] 70)).heap[w1.heap.size]? =some (.cells #[.int .u32 0,.int .u32 0,.int .i64 0] 70 (0,0))):=zq w1 _;have hbn:=zaa w1 (.cells #[.int .u32 0,.int .u32 0,.int .i64 0] 70)
    replace HSW:Hid (LS b off wr.heap.size xx yy ⟨id,x,y,v⟩ (w1.alloc (.cells #[.int .u32 0,.int .u32 0,.int .i64 0] 70))):=HSW.out.same (hbn.block _ (by omega)) (hbn.block _ hs1)
    refine hK _ _ HSW.out ?_;clear hK K hbn;obtain⟨g6,hg6'⟩:∃ g6,w1.heap.size=g6:=⟨_,rfl⟩;have hg6:w.heap.size+2≤g6:=by have:=HJ1.out.size;omega
    have hg6b:wr.heap.size<g6:=by omega
    obtain⟨W2,hW2⟩:∃ W2,w1.alloc (.cells #[.int .u32 0,.int .u32 0,.int .i64 0] 70)=W2:=⟨_,rfl⟩;rw[hW2] at HJ2 HG2 HSW ⊢;rw[hg6'] at HG2 ⊢;clear hW2 hg6' HJ1 hs1;have HJ3:Hid (LJ l w k X Y L W2):=HJ2;have HS2:=HSW.out;obtain⟨z0,z1,z2,f0,f1,f2⟩:=zaM HG2.out;obtain⟨h3,b3⟩:=zcM HG2.out (.int .u32 (fx:Int)) (.int .u32 (fy:Int)) (.int .i64 (lv:Int));have HJ4:Hid (LJ l w k X Y L (((W2.setCell ⟨g6,0,none⟩ (.int .u32 (fx:Int))).setCell ⟨g6,1,none⟩ (.int .u32 (fy:Int))).setCell ⟨g6,2,none⟩ (.int .i64 (lv:Int)))):=HJ3.out.next b3 hg6;have HG4:Hid _:=h3
    replace HSW:Hid (LS b off wr.heap.size xx yy ⟨id,x,y,v⟩ (((W2.setCell ⟨g6,0,none⟩ (.int .u32 (fx:Int))).setCell ⟨g6,1,none⟩ (.int .u32 (fy:Int))).setCell ⟨g6,2,none⟩ (.int .i64 (lv:Int)))):=HSW.out.same (b3.block _ (by omega)) (b3.block _ (by omega))
    clear h3 b3 HS2;refine zar 17 _ (by kernel_rfl) rfl (by kernel_rfl) (fun K hK=>?_);go_simp;refine hK _ _ HSW.out ?_;clear hK K f0 f1 f2 z0 z1 z2;obtain⟨W3,hW3⟩:∃ W3,((W2.setCell ⟨g6,0,none⟩ (.int .u32 (fx:Int))).setCell ⟨g6,1,none⟩ (.int .u32 (fy:Int))).setCell ⟨g6,2,none⟩ (.int .i64 (lv:Int))=W3:=⟨_,rfl⟩;rw[hW3] at HJ4 HG4 HSW ⊢;clear hW3 HJ3 HJ2 HG2;refine plan [18] ?_;refine tkH (v:=?_) rfl ?_ HSW.out ?_;rotate_left
    ·rintro w ⟨e1,e2,e3,e4,e5,e6⟩;go_simp;try with_reducible rfl
    conv in(Act.put _ _ _)=>simp only[zL1,zL2,zL3,Act.put,zL4,zL5,zL6]
    refine plan0 ?_;refine wpAnyH_done (by kernel_rfl) ?_ _;clear HSW
    rename_i hKK
    refine hKK _ _ ?_;clear hKK;obtain⟨y0,y1,y2,f0,f1,f2⟩:=zaM HG4.out;clear y0 y1 y2;obtain⟨z0,z1,z2,t0,t1,t2⟩:=zaM HJ4.out.out;clear HG4;obtain⟨zk,hzk⟩:∃ zk:Int,(k:Int)=zk:=⟨_,rfl⟩;have HZ:Hid ((k:Int)=zk):=hzk;have hq5:zk=0↔k=0:=by omega
    rw[hzk] at k0 k1 q1 ⊢;clear hzk;by_cases hk0:k=0
    ·have q5:(zk==0)=true:=by rw[beq_iff_eq];exact hq5.2 hk0
     have HL:Hid _:=HP.out W3 HJ4.out (fun h=>absurd h (by omega));clear hk0 hq5;go_wp2_with fail
     go_roundw
     case rel=>exact⟨k+1,by omega,by rw[←HZ.out];go_num,_,_,_,HL.out⟩
     case measure=>rw[←HZ.out];simp[zam];omega
    ·have q5:(zk==0)=false:=by rw[beq_eq_false_iff_ne];exact fun e=>hk0 (hq5.1 e)
     by_cases hlv:L<lv
     ·have q6:decide (L<lv)=true:=decide_eq_true hlv
      have HL:Hid _:=HP.out W3 HJ4.out (fun _=>hlv);clear hk0 hlv hq5;go_wp2_with fail
      go_roundw
      case rel=>exact⟨k+1,by omega,by rw[←HZ.out];go_num,_,_,_,HL.out⟩
      case measure=>rw[←HZ.out];simp[zam];omega
     ·have q6:decide (L<lv)=false:=decide_eq_false hlv
      have HL:Hid _:=HKp.out W3 HJ4.out (by omega) (by omega);clear hk0 hlv hq5;go_wp2_with fail
      go_roundw
      case rel=>exact⟨k+1,by omega,by rw[←HZ.out];go_num,_,_,_,HL.out⟩
      case measure=>rw[←HZ.out];simp[zam];omega
   ·go_simp
    have hb2:=(zaa (wr.alloc (.cells #[.int .u64 (id:Int),.int .u32 (x:Int),.int .u32 (y:Int),.string v] 79)) (.cells #[.int .u32 0,.int .u32 0,.int .i64 0] 70)).drew;have hs2:(wr.alloc (.cells #[.int .u64 (id:Int),.int .u32 (x:Int),.int .u32 (y:Int),.string v] 79)).heap.size=wr.heap.size+1:=by simp
    rw[hs2] at hb2
    have HG1:((wr.alloc (.cells #[.int .u64 (id:Int),.int .u32 (x:Int),.int .u32 (y:Int),.string v] 79)).alloc (.cells #[.int .u32 0,.int .u32 0,.int .i64 0] 70)).drew.heap[wr.heap.size+1]? =some (.cells #[.int .u32 0,.int .u32 0,.int .i64 0] 70 (0,0)):=by
     have:=zq (wr.alloc (.cells #[.int .u64 (id:Int),.int .u32 (x:Int),.int .u32 (y:Int),.string v] 79)) (.cells #[.int .u32 0,.int .u32 0,.int .i64 0] 70);rw[hs2] at this;exact this
    have HJ1:LJ l w k X Y L ((wr.alloc (.cells #[.int .u64 (id:Int),.int .u32 (x:Int),.int .u32 (y:Int),.string v] 79)).alloc (.cells #[.int .u32 0,.int .u32 0,.int .i64 0] 70)).drew:=(HJ.out.next (zaa wr _) hsz).next hb2 (by omega)
    have HS1:LS b off wr.heap.size xx yy ⟨id,x,y,v⟩ ((wr.alloc (.cells #[.int .u64 (id:Int),.int .u32 (x:Int),.int .u32 (y:Int),.string v] 79)).alloc (.cells #[.int .u32 0,.int .u32 0,.int .i64 0] 70)).drew:=
     HSW.out.same (hb2.block _ (by omega)) (hb2.block _ (by omega))
    refine hK _ _ HS1 ?_;clear hK K hb2;obtain⟨g6,hg6'⟩:∃ g6,wr.heap.size+1=g6:=⟨_,rfl⟩;have hg6:w.heap.size+2≤g6:=by omega
    have hg6b:wr.heap.size<g6:=by omega
    obtain⟨W1,hW1⟩:∃ W1,((wr.alloc (.cells #[.int .u64 (id:Int),.int .u32 (x:Int),.int .u32 (y:Int),.string v] 79)).alloc (.cells #[.int .u32 0,.int .u32 0,.int .i64 0] 70)).drew=W1:=⟨_,rfl⟩;rw[hW1] at HJ1 HG1 HS1 ⊢;rw[hg6'] at HG1 ⊢;clear hW1 hg6' HSW hs2;have hgs:g6<W1.heap.size:=(zi HG1).1;refine zar 12 _ (by kernel_rfl) rfl (by kernel_rfl) (fun K hK=>?_);go_simp;refine(HC.out _).mono ?_;rintro e W2 ⟨rfl,b1⟩;have HJ2:LJ l w k X Y L W2:=HJ1.next b1 (by omega);have HSW:Hid (LS b off wr.heap.size xx yy ⟨id,x,y,v⟩ W2):=HS1.same (b1.block _ (by omega)) (b1.block _ (by omega));have HG2:Hid (W2.heap[g6]? =some (.cells #[.int .u32 0,.int .u32 0,.int .i64 0] 70 (0,0))):=(b1.block _ hgs).trans HG1;refine hK _ _ HSW.out ?_;clear hK K b1 HJ1 HS1 HG1 hgs;refine plan [13,14,15] ?_
    iterate 3
     refine tkH (v:=?_) rfl ?_ HSW.out ?_;rotate_left
     ·rintro w ⟨e1,e2,e3,e4,e5,e6⟩;go_simp;try with_reducible rfl
     conv in(Act.put _ _ _)=>simp only[zL1,zL2,zL3,Act.put,zL4,zL5,zL6]
    refine plan0 ?_;have HJ3:Hid (LJ l w k X Y L W2):=HJ2;have HS2:=HSW.out;obtain⟨z0,z1,z2,f0,f1,f2⟩:=zaM HG2.out;obtain⟨h3,b3⟩:=zcM HG2.out (.int .u32 (fx:Int)) (.int .u32 (fy:Int)) (.int .i64 (lv:Int));have HJ4:Hid (LJ l w k X Y L (((W2.setCell ⟨g6,0,none⟩ (.int .u32 (fx:Int))).setCell ⟨g6,1,none⟩ (.int .u32 (fy:Int))).setCell ⟨g6,2,none⟩ (.int .i64 (lv:Int)))):=HJ3.out.next b3 hg6;have HG4:Hid _:=h3
    replace HSW:Hid (LS b off wr.heap.size xx yy ⟨id,x,y,v⟩ (((W2.setCell ⟨g6,0,none⟩ (.int .u32 (fx:Int))).setCell ⟨g6,1,none⟩ (.int .u32 (fy:Int))).setCell ⟨g6,2,none⟩ (.int .i64 (lv:Int)))):=HSW.out.same (b3.block _ (by omega)) (b3.block _ (by omega))
    clear h3 b3 HS2;refine zar 17 _ (by kernel_rfl) rfl (by kernel_rfl) (fun K hK=>?_);go_simp;refine hK _ _ HSW.out ?_;clear hK K f0 f1 f2 z0 z1 z2;obtain⟨W3,hW3⟩:∃ W3,((W2.setCell ⟨g6,0,none⟩ (.int .u32 (fx:Int))).setCell ⟨g6,1,none⟩ (.int .u32 (fy:Int))).setCell ⟨g6,2,none⟩ (.int .i64 (lv:Int))=W3:=⟨_,rfl⟩;rw[hW3] at HJ4 HG4 HSW ⊢;clear hW3 HJ3 HJ2 HG2;refine plan [18] ?_;refine tkH (v:=?_) rfl ?_ HSW.out ?_;rotate_left
    ·rintro w ⟨e1,e2,e3,e4,e5,e6⟩;go_simp;try with_reducible rfl
    conv in(Act.put _ _ _)=>simp only[zL1,zL2,zL3,Act.put,zL4,zL5,zL6]
    refine plan0 ?_;refine wpAnyH_done (by kernel_rfl) ?_ _;clear HSW
    rename_i hKK
    refine hKK _ _ ?_;clear hKK;obtain⟨y0,y1,y2,f0,f1,f2⟩:=zaM HG4.out;clear y0 y1 y2;obtain⟨z0,z1,z2,t0,t1,t2⟩:=zaM HJ4.out.out;clear HG4;obtain⟨zk,hzk⟩:∃ zk:Int,(k:Int)=zk:=⟨_,rfl⟩;have HZ:Hid ((k:Int)=zk):=hzk;have hq5:zk=0↔k=0:=by omega
    rw[hzk] at k0 k1 q1 ⊢;clear hzk;by_cases hk0:k=0
    ·have q5:(zk==0)=true:=by rw[beq_iff_eq];exact hq5.2 hk0
     have HL:Hid _:=HP.out W3 HJ4.out (fun h=>absurd h (by omega));clear hk0 hq5;go_wp2_with fail
     go_roundw
     case rel=>exact⟨k+1,by omega,by rw[←HZ.out];go_num,_,_,_,HL.out⟩
     case measure=>rw[←HZ.out];simp[zam];omega
    ·have q5:(zk==0)=false:=by rw[beq_eq_false_iff_ne];exact fun e=>hk0 (hq5.1 e)
     by_cases hlv:L<lv
     ·have q6:decide (L<lv)=true:=decide_eq_true hlv
      have HL:Hid _:=HP.out W3 HJ4.out (fun _=>hlv);clear hk0 hlv hq5;go_wp2_with fail
      go_roundw
      case rel=>exact⟨k+1,by omega,by rw[←HZ.out];go_num,_,_,_,HL.out⟩
      case measure=>rw[←HZ.out];simp[zam];omega
     ·have q6:decide (L<lv)=false:=decide_eq_false hlv
      have HL:Hid _:=HKp.out W3 HJ4.out (by omega) (by omega);clear hk0 hlv hq5;go_wp2_with fail
      go_roundw
      case rel=>exact⟨k+1,by omega,by rw[←HZ.out];go_num,_,_,_,HL.out⟩
      case measure=>rw[←HZ.out];simp[zam];omega
  ·obtain rfl:k=l.length:=by omega
   have q1:¬(l.length:Int)<(l.length:Int):=by omega
   obtain⟨z0,z1,z2,f0,f1,f2⟩:=zaM HJ.out.res;obtain⟨_,_,_,t0,t1,t2⟩:=zaM HJ.out.out;obtain⟨a1,a2,a3⟩:=HJ.out.is hne;rw[List.take_length] at a1;obtain⟨h3,b3⟩:=zcM HJ.out.res (.int .u32 (X:Int)) (.int .u32 (Y:Int)) (.int .i64 (L:Int));have H3:Hid _:=h3;have B3:Hid (Below w.heap.size w _):=HJ.out.bel.trans b3
   have HX:Hid (cv X Y (L:Int)=cv (cx l) (cy l) (lev l)):=by
    refine(?_:cv X Y (L:Int)=cv (cx l) (cy l) (lev l));rw[a2,a3,a1];rfl
   clear hj h3 b3 a1 a2 a3;go_wp2_with fail;refine bodyPost_ret (ziR rfl _ _ _ _ _ _ rfl H3.out) rfl ⟨by rw[HX.out],B3.out⟩
def pk (n:Nat) (l:List Rw) (k q:Nat):List Rw:=(l.take k).filter fun r=>wq n r.x r.y==q
theorem zkb (n:Nat) (l:List Rw) (k q:Nat) (h:k<l.length):pk n l (k+1) q=pk n l k q++(if wq n (rat l k).x (rat l k).y=q then[rat l k] else[]):=by
 unfold pk;rw[zfb l k h,List.filter_append]
 congr 1
 by_cases e:wq n (rat l k).x (rat l k).y=q
 ·rw[if_pos e,List.filter_cons,if_pos (by simp[e])];rfl
 ·rw[if_neg e,List.filter_cons,if_neg (by simp[e])];rfl
theorem zpv (n:Nat) (l:List Rw) (k q:Nat):(pk n l k q).length≤l.length:=
 Nat.le_trans (List.length_filter_le _ _) (by rw[List.length_take];omega)
theorem zaE (w:World) (a b c:Obj):(((w.alloc a).alloc b).alloc c).heap[w.heap.size]? =some a∧(((w.alloc a).alloc b).alloc c).heap[w.heap.size+1]? =some b∧(((w.alloc a).alloc b).alloc c).heap[w.heap.size+2]? =some c∧Below w.heap.size w (((w.alloc a).alloc b).alloc c)∧(((w.alloc a).alloc b).alloc c).heap.size=w.heap.size+3:=by
 obtain⟨h1,h2,h3⟩:=zay w a b;refine⟨(Below.heap_alloc _ _ _ (by simp;omega)).trans h1,(Below.heap_alloc _ _ _ (by simp)).trans h2,?_,h3.alloc (by simp;omega) _,by simp⟩;have:=zq ((w.alloc a).alloc b) c;simpa using this
structure SJ (n:Nat) (l:List Rw) (w:World) (k:Nat) (vs:Nat→Value) (X Y:Nat) (L:Int) (W:World):Prop where
 cel:W.heap[w.heap.size]? =some (.cells #[.int .u32 (X:Int),.int .u32 (Y:Int),.int .i64 L] 70 (0,0))
 res:W.heap[w.heap.size+1]? =some (.cells #[.slice none 0 0,.slice none 0 0,.slice none 0 0,.slice none 0 0] 176 (0,0))
 out:W.heap[w.heap.size+2]? =some (.cells #[vs 0,vs 1,vs 2,vs 3] 176 (0,0))
 rows:∀ q,q<4→W.ownsRow (w.heap.size+3) 79 4 (vs q) (pk n l k q).length ((pk n l k q).flatMap rc)
 apart:∀ p q b,p<4→q<4→p≠q→(vs p).ownBlock=some b→(vs q).ownBlock≠some b
 bel:Below w.heap.size w W
theorem zcy {W W':World} {base:Nat} {e:TypeId} {k:Nat} {v:Value} {n:Nat} {xs:List Value} (h:W.ownsRow base e k v n xs) (hs:∀ b,v.ownBlock=some b→b<W.heap.size→W'.heap[b]? =W.heap[b]?):W'.ownsRow base e k v n xs:=by
 refine⟨h.1,?_⟩;rcases h.2 with h|⟨g,cap,cur,rfl,h2,h3,h4⟩
 ·exact .inl h
 ·exact .inr ⟨g,cap,cur,rfl,h2,(hs g rfl (zi h3).1).trans h3,h4⟩
theorem zaL {W:World} {base:Nat} {e:TypeId} {k:Nat} {v:Value} {n:Nat} {xs:List Value} (h:W.ownsRow base e k v n xs) {b:Nat} (hb:v.ownBlock=some b):base≤b∧b<W.heap.size:=by
 rcases h.2 with⟨rfl,_⟩|⟨g,cap,cur,rfl,h2,h3,_⟩
 ·simp[Value.ownBlock] at hb
 ·simp[Value.ownBlock] at hb;subst hb;exact⟨h2,(zi h3).1⟩
theorem zkc {W:World} {base base':Nat} {e:TypeId} {k:Nat} {v:Value} {n:Nat} {xs:List Value} (h:W.ownsRow base e k v n xs) (hb:base'≤base):W.ownsRow base' e k v n xs:=by
 refine⟨h.1,?_⟩;rcases h.2 with h|⟨g,cap,cur,rfl,h2,h3,h4⟩
 ·exact .inl h
 ·exact .inr ⟨g,cap,cur,rfl,by omega,h3,h4⟩
theorem SJ.size {n:Nat} {l:List Rw} {w:World} {k:Nat} {vs:Nat→Value} {X Y:Nat} {L:Int} {W:World} (h:SJ n l w k vs X Y L W):w.heap.size+3≤W.heap.size:=(zi h.out).1
theorem SJ.next {n:Nat} {l:List Rw} {w:World} {k:Nat} {vs:Nat→Value} {X Y:Nat} {L:Int} {W W':World} (h:SJ n l w k vs X Y L W) (hb:Below W.heap.size W W'):SJ n l w k vs X Y L W':=by
 have hs:=h.size;exact⟨(hb.block _ (by omega)).trans h.cel,(hb.block _ (by omega)).trans h.res,(hb.block _ (by omega)).trans h.out,fun q hq=>zcy (h.rows q hq) fun b _ hb'=>hb.block b hb',h.apart,h.bel.trans (hb.mono (by omega))⟩
def upd (vs:Nat→Value) (q:Nat) (v:Value) (j:Nat):Value:=if j=q then v else vs j
theorem zmi (W:World) (g q:Nat) (vs:Nat→Value) (v:Value) (t:TypeId) (h:W.heap[g]? =some (.cells #[vs 0,vs 1,vs 2,vs 3] t (0,0))) (hq:q<4):
  (W.setCell ⟨g,q,none⟩ v).heap[g]? =some (.cells #[upd vs q v 0,upd vs q v 1,upd vs q v 2,upd vs q v 3] t (0,0)):=by
 have:=zx W g q _ _ v h;rw[this];obtain rfl|rfl|rfl|rfl:q=0∨q=1∨q=2∨q=3:=by omega
 all_goals rfl
theorem SJ.step {n:Nat} {l:List Rw} {w:World} {k:Nat} {vs:Nat→Value} {X Y:Nat} {L:Int} {W:World} (h:SJ n l w k vs X Y L W) {q:Nat} (hq:q<4) (hk:k<l.length) (hw:wq n (rat l k).x (rat l k).y=q)
  {v':Value} {W':World} (ho:W'.ownsRow (w.heap.size+3) 79 4 v' ((pk n l k q).length+1) ((pk n l k q).flatMap rc++rc (rat l k))) (hg:W.grownBy W' (vs q).ownBlock) (hf:v'.ownBlock=(vs q).ownBlock∨v'.ownBlock=some W.heap.size):
  SJ n l w (k+1) (upd vs q v') X Y L (W'.setCell ⟨w.heap.size+2,q,none⟩ v'):=by
 have hs:=h.size;have nb:∀ b,b<w.heap.size+3→(vs q).ownBlock≠some b:=fun b hb e=>by have:=(zaL (h.rows q hq) e).1;omega
 have g2:=zbn W' (w.heap.size+2) q v'
 have keep:∀ b,b<w.heap.size+2→(W'.setCell ⟨w.heap.size+2,q,none⟩ v').heap[b]? =W.heap[b]? :=fun b hb=>
  (g2.block b (by have:=hg.size;omega) (by intro e;cases e;omega)).trans (hg.block b (by omega) (fun e=>nb b (by omega) e.symm))
 have hout:W'.heap[w.heap.size+2]? =some (.cells #[vs 0,vs 1,vs 2,vs 3] 176 (0,0)):=(hg.block _ (by omega) (fun e=>nb _ (by omega) e.symm)).trans h.out;refine⟨(keep _ (by omega)).trans h.cel,(keep _ (by omega)).trans h.res,zmi W' _ q vs v' _ hout hq,fun p hp=>?_,fun p p' b hp hp' hpp e=>?_,h.bel.trans ⟨hg.os,hg.tape,hg.output,Nat.le_trans hg.size g2.size,fun b hb=>keep b (by omega)⟩⟩
 ·unfold upd
  by_cases e:p=q
  ·rw[if_pos e,e,zkb n l k q hk,if_pos hw,List.length_append,List.flatMap_append]
   refine zcy ?_ fun b hb _=>g2.block b (by have:=zaL ho hb;omega) (by intro e';cases e';have:=(zaL ho hb).1;omega)
   simpa using ho
  ·rw[if_neg e,zkb n l k p hk,if_neg (fun h'=>e (h'.symm.trans hw)),List.append_nil]
   refine zcy (h.rows p hp) fun b hb hbl=>?_
   refine(g2.block b (by have:=hg.size;omega) ?_).trans (hg.block b hbl ?_)
   ·intro e';cases e';have:=(zaL (h.rows p hp) hb).1;omega
   ·exact fun e'=>h.apart p q b hp hq e hb e'.symm
 ·unfold upd at e ⊢
  by_cases e1:p=q
  ·rw[if_pos e1] at e
   rw[if_neg (by omega)];intro e2;rcases hf with hf|hf
   ·rw[hf] at e;exact h.apart p' q b hp' hq (by omega) e2 e
   ·rw[hf] at e;cases e
    have:=(zaL (h.rows p' hp') e2).2;omega
  ·rw[if_neg e1] at e
   by_cases e3:p'=q
   ·rw[if_pos e3]
    intro e2;rcases hf with hf|hf
    ·rw[hf] at e2;exact h.apart p q b hp hq e1 e e2
    ·rw[hf] at e2;cases e2
     have:=(zaL (h.rows p hp) e).2;omega
   ·rw[if_neg e3]
    exact h.apart p p' b hp hp' hpp e
theorem ownsRow_succ {w:World} {base:Nat} {e:TypeId} {k:Nat} {v:Value} {n:Nat} {xs:List Value} (h:w.ownsRow base e k v (n+1) xs):∃ g cap,v=.slice (some ⟨g,0,none⟩) (n+1) cap:=by
 rcases h.2 with⟨_,h⟩|⟨g,cap,cur,rfl,_⟩
 ·omega
 ·exact⟨g,cap,rfl⟩
theorem zde {W:World} {g:Nat} {a b c d:Value} {t:TypeId} (h:W.heap[g]? =some (.cells #[a,b,c,d] t (0,0))):W.cell? ⟨g,0,none⟩=some a∧W.cell? ⟨g,1,none⟩=some b∧W.cell? ⟨g,2,none⟩=some c∧W.cell? ⟨g,3,none⟩=some d:=
 ⟨by rw[zr h];rfl,by rw[zr h];rfl,by rw[zr h];rfl,by rw[zr h];rfl⟩
theorem zfc {w:World} {g:Nat} {x y z u:Value} {t:TypeId} (h:w.heap[g]? =some (.cells #[x,y,z,u] t (0,0))) (a b c d:Value):
  ((((w.setCell ⟨g,0,none⟩ a).setCell ⟨g,1,none⟩ b).setCell ⟨g,2,none⟩ c).setCell ⟨g,3,none⟩ d).heap[g]? =some (.cells #[a,b,c,d] t (0,0))∧
  (∀ j,j≠g→((((w.setCell ⟨g,0,none⟩ a).setCell ⟨g,1,none⟩ b).setCell ⟨g,2,none⟩ c).setCell ⟨g,3,none⟩ d).heap[j]? =w.heap[j]?)∧
  Below g w ((((w.setCell ⟨g,0,none⟩ a).setCell ⟨g,1,none⟩ b).setCell ⟨g,2,none⟩ c).setCell ⟨g,3,none⟩ d):=by
 have hl:=(zi h).1;have X1:=zx w g 0 _ _ a h;have X2:=zx _ g 1 _ _ b X1;have X3:=zx _ g 2 _ _ c X2;have X4:=zx _ g 3 _ _ d X3
 have o:∀ j,j≠g→((((w.setCell ⟨g,0,none⟩ a).setCell ⟨g,1,none⟩ b).setCell ⟨g,2,none⟩ c).setCell ⟨g,3,none⟩ d).heap[j]? =w.heap[j]? :=fun j hj=>
  (Below.heap_setCell _ _ _ _ hj).trans ((Below.heap_setCell _ _ _ _ hj).trans ((Below.heap_setCell _ _ _ _ hj).trans (Below.heap_setCell _ _ _ _ hj)))
 exact⟨X4,o,rfl,rfl,rfl,by simp[World.setCell],fun j hj=>o j (by omega)⟩
theorem zck {fn:Func} {p:Tmp} (h:fn.results=#[.cell p 176]) (tmps:Array Value) (w:World) (g:Nat) (a b c d:Value) {t:TypeId}
  (hp:tmps.getD p undef=.pointer (some ⟨g,0,none⟩)) (hg:w.heap[g]? =some (.cells #[a,b,c,d] t (0,0))):(results fn tmps).run Tryz.prog w=.ok (.agg #[a,b,c,d]) w:=by
 have hp':tmps[p]?.getD undef=.pointer (some ⟨g,0,none⟩):=by simpa using hp
 obtain⟨c0,c1,c2,c3⟩:=zde hg;simp[results,h,hp',asAddr,go_sem,c0,c1,c2,c3]
def SS (g:Nat) (r:Rw) (g5 q:Nat) (v:Value) (w:World):Prop:=F4 g r w∧w.cell? ⟨g5,q,none⟩=some v
theorem SS.same {g:Nat} {r:Rw} {g5 q:Nat} {v:Value} {w w':World} (h:SS g r g5 q v w) (e:w'.heap[g]? =w.heap[g]?) (f:w'.heap[g5]? =w.heap[g5]?):SS g r g5 q v w':=⟨h.1.same e,(World.cell?_of_block (a:=⟨g5,q,none⟩) f).trans h.2⟩
theorem zob {w:World} {g:Nat} {r:Rw} {t:TypeId} {fr:Nat × Nat} (h:w.heap[g]? =some (.cells #[.int .u64 (r.id:Int),.int .u32 (r.x:Int),.int .u32 (r.y:Int),.string r.v] t fr)):Sl 4 w (some ⟨g,0,none⟩) 1 1 (rc r):=by
 refine⟨Nat.le_refl _,by decide,(fun e=>by cases e),rfl,fun _=>⟨g,0,rfl,(zi h).1,fun j u hu=>?_⟩⟩;rw[Nat.zero_add,zr h];have:j<4:=(List.getElem?_eq_some_iff.1 hu).1;obtain rfl|rfl|rfl|rfl:j=0∨j=1∨j=2∨j=3:=by omega
 all_goals simpa [rc] using hu
theorem zoc (r:Rw):∀ u∈rc r,u.oneCell'=true:=by
 have:=zj7 [r];simpa using this
theorem ziS (n:Nat) (l:List Rw) (o:Option Addr) (cap:Nat) (w:World) (hr:zac w o cap l) (hon:On l) (hmax:l.length≤1000) (hn:lev l=n+1):
  Calls Tryz.prog 102 #[cv (cx l) (cy l) (lev l),.slice o l.length cap] w fun e w'=>∃ vs:Nat→Value,e=.returned (.agg #[vs 0,vs 1,vs 2,vs 3])∧
   (∀ q,q<4→w'.ownsRow w.heap.size 79 4 (vs q) (part l q).length ((part l q).flatMap rc))∧Below w.heap.size w w':=by
 obtain⟨X,hX⟩:∃ X,cx l=X:=⟨_,rfl⟩;obtain⟨Y,hY⟩:∃ Y,cy l=Y:=⟨_,rfl⟩;obtain⟨L,hL⟩:∃ L:Int,(lev l:Int)=L:=⟨_,rfl⟩;have HX:Hid (cx l=X):=hX;have HY:Hid (cy l=Y):=hY;have HL:Hid ((lev l:Int)=L):=hL;rw[hX,hY,hL];clear hX hY hL;go_enter Tryz.func102,Tryz.ntmps102;go_wp2_with fail
 go_loopw [12] (fun i wr=>∃ k:Nat,k≤l.length∧i=.int .i64 (k:Int)∧∃ vs,SJ n l w k vs X Y L wr) (fun i _=>l.length - zam i)
 case atStart=>
  obtain⟨h1,h2,h3,h4,h5⟩:=zaE w (.cells #[.int .u32 (X:Int),.int .u32 (Y:Int),.int .i64 L] 70) (.cells #[.slice none 0 0,.slice none 0 0,.slice none 0 0,.slice none 0 0] 176) (.cells #[.slice none 0 0,.slice none 0 0,.slice none 0 0,.slice none 0 0] 176);refine⟨0,by omega,rfl,fun _=>.slice none 0 0,h1,h2,h3,fun q _=>?_,fun p q b _ _ _ e=>by simp[Value.ownBlock] at e,h4⟩;have:pk n l 0 q=[]:=by simp[pk]
  rw[this];exact World.ownsRow_nil _ _ _ _
 case round=>
  obtain⟨k,hk,rfl,vs,hj⟩:=hrel;have HJ:Hid (SJ n l w k vs X Y L wr):=hj;have hsz:w.heap.size+3≤wr.heap.size:=hj.size;by_cases hlt:k<l.length
  ·obtain⟨b,off,rfl,hbl,hc⟩:=(hr.below hj.bel zn).row hlt
   have hbw:b<w.heap.size:=by
    obtain⟨b',off',e,h,_⟩:=hr.row hlt;cases e;exact h
   obtain⟨c0,c1,c2,c3⟩:=hc k hlt;have q1:(k:Int)<(l.length:Int):=by omega
   have k0:(0:Int)≤(k:Int):=by omega
   have k1:(k:Int)+1≤9223372036854775807:=by omega
   have onr:=hon _ (zeY hlt);have HC:Hid _:=zj6 X Y L (rat l k).x (rat l k).y (by rw[←HX.out];have:=(zdN hon).x31;omega) (by rw[←HY.out];have:=(zdN hon).y31;omega) (by omega) (by omega);have hhas:=zdO hon (zeY hlt);rw[HX.out,HY.out,HL.out] at hhas;rw[show wher X Y L (rat l k).x (rat l k).y=(wq n (rat l k).x (rat l k).y,0) by unfold wher;rw[if_pos ⟨hhas,by rw[←HL.out];omega⟩,←HL.out,hn,show(((n+1:Nat):Int) - 1).toNat=n by omega]] at HC;simp only[wv] at HC;have hwq:=zfD n (rat l k).x (rat l k).y;generalize hq:wq n (rat l k).x (rat l k).y=q at*
   generalize hr0:rat l k=r at*
   obtain⟨id,x,y,v⟩:=r;simp only at c0 c1 c2 c3 HC;obtain⟨t0,t1,t2⟩:=Cel.cells hj.cel;have HQ:Hid (wq n x y=q):=hq;have HR0:Hid (rat l k=⟨id,x,y,v⟩):=hr0;have HN:Hid (lev l=n+1):=hn;clear hc onr hhas hj hq hr0 hn;have HSZ:Hid (w.heap.size+3≤wr.heap.size):=hsz;have hsz2:w.heap.size<wr.heap.size:=by omega
   clear hsz
   have HST:Hid (∀ (W:World),SJ n l w k vs X Y L W→∀ v' W',W'.ownsRow (w.heap.size+3) 79 4 v' ((pk n l k q).length+1) ((pk n l k q).flatMap rc++rc ⟨id,x,y,v⟩)→W.grownBy W' (vs q).ownBlock→(v'.ownBlock=(vs q).ownBlock∨v'.ownBlock=some W.heap.size)→SJ n l w (k+1) (upd vs q v') X Y L (W'.setCell ⟨w.heap.size+1+1,q,none⟩ v')):=by
    intro W h v' W' a b c;rw[←HR0.out] at a;exact h.step hwq hlt (by rw[HR0.out];exact HQ.out) a b c
   have hpl:=zpv n l k q;go_wp2_with fail;refine(HC.out _).mono ?_;rintro e w1 ⟨rfl,b1⟩;have hs1:wr.heap.size<w1.heap.size:=by have:=b1.size;simp at this;omega
   have HJ1:Hid (SJ n l w k vs X Y L w1):=(HJ.out.next (zaa wr _)).next b1;have HF1:Hid (F4 wr.heap.size ⟨id,x,y,v⟩ w1):=F4.same (F4.of (zq wr _)) (b1.block _ (by simp));clear b1;go_wp2_with fail
   have c5:w1.cell? ⟨w.heap.size+1+1,q,none⟩=some (vs q):=by
    rw[zr HJ1.out.out];obtain rfl|rfl|rfl|rfl:q=0∨q=1∨q=2∨q=3:=by omega
    all_goals rfl
   have HSW:Hid (SS wr.heap.size ⟨id,x,y,v⟩ (w.heap.size+1+1) q (vs q) w1.drew):=⟨HF1.out,c5⟩;have hq4:(q:Int)<4:=by omega
   have hq0:(0:Int)≤(q:Int):=by omega
   have hd1:Below w1.heap.size w1 (w1.alloc (.cells #[.int .u64 (id:Int),.int .u32 (x:Int),.int .u32 (y:Int),.string v] 79)).drew:=(zaa w1 _).drew
   obtain⟨v',W',hrun,a1,a2,a3⟩:=zaV 22 79 Tryz.underlying22 ze7 rfl (by decide) (by decide) (w1.alloc (.cells #[.int .u64 (id:Int),.int .u32 (x:Int),.int .u32 (y:Int),.string v] 79)).drew (w.heap.size+3) (pk n l k q).length 1 (vs q) (some ⟨w1.heap.size,0,none⟩) 1
    ((pk n l k q).flatMap rc) (rc ⟨id,x,y,v⟩) (zcy (HJ1.out.rows q hwq) fun b _ hb=>hd1.block b hb) (by have:=HJ1.out.size;simp;omega) (zob (zq w1 _)) (zoc _) (by omega)
   have HFIN:Hid _:=HST.out _ (HJ1.out.next hd1) v' W' a1 a2 a3;obtain⟨g',cap',rfl⟩:=ownsRow_succ a1
   have z6:W'.frozen? ⟨w.heap.size+1+1,q,none⟩=false:=by
    refine frozen_of_row W' (w.heap.size+1+1) q #[vs 0,vs 1,vs 2,vs 3] 176 ?_;exact(a2.block _ (by have:=HSZ.out;simp;omega) (by intro e;have:=zaL (HJ.out.rows q hwq) e.symm;omega)).trans ((hd1.block _ (by have:=HSZ.out;omega)).trans HJ1.out.out)
   have HNB:Hid (∀ b,(vs q).ownBlock=some b→w.heap.size+3≤b∧b<wr.heap.size):=fun b hb=>zaL (HJ.out.rows q hwq) hb
   clear c5 hpl;refine zfO (z:=8) (S:=SS wr.heap.size ⟨id,x,y,v⟩ (w.heap.size+1+1) q (vs q)) (by kernel_rfl) ?_;change zcj _ _ _ _ _ _ 9 _ _ _;refine zbg (i:=0) (v:=?_) (by kernel_rfl) rfl (by kernel_rfl) (by kernel_rfl) (by kernel_rfl) (fun _ _ _ h=>h) (Or.inl ⟨by kernel_rfl,?_⟩) HSW.out ?_;rotate_left
   ·intro w hS
    obtain⟨⟨e1,e2,e3,e4⟩,e5⟩:=hS;go_simp
    try with_reducible rfl
   conv in(Act.put _ _ _)=>simp only[zL1,zL2,zL3,Act.put,zL4,zL5,zL6]
   refine zbg (i:=1) (v:=?_) (by kernel_rfl) rfl (by kernel_rfl) (by kernel_rfl) (by kernel_rfl) (fun _ _ _ h=>h) (Or.inl ⟨by kernel_rfl,?_⟩) HSW.out ?_;rotate_left
   ·intro w hS
    obtain⟨⟨e1,e2,e3,e4⟩,e5⟩:=hS;go_simp
    try with_reducible rfl
   conv in(Act.put _ _ _)=>simp only[zL1,zL2,zL3,Act.put,zL4,zL5,zL6]
   refine zbg (i:=2) (v:=?_) (by kernel_rfl) rfl (by kernel_rfl) (by kernel_rfl) (by kernel_rfl) (fun _ _ _ h=>h) (Or.inl ⟨by kernel_rfl,?_⟩) HSW.out ?_;rotate_left
   ·intro w hS
    obtain⟨⟨e1,e2,e3,e4⟩,e5⟩:=hS;go_simp
    try with_reducible rfl
   conv in(Act.put _ _ _)=>simp only[zL1,zL2,zL3,Act.put,zL4,zL5,zL6]
   refine zbg (i:=3) (v:=?_) (by kernel_rfl) rfl (by kernel_rfl) (by kernel_rfl) (by kernel_rfl) (fun _ _ _ h=>h) (Or.inl ⟨by kernel_rfl,?_⟩) HSW.out ?_;rotate_left
   ·intro w hS
    obtain⟨⟨e1,e2,e3,e4⟩,e5⟩:=hS;go_simp
    try with_reducible rfl
   conv in(Act.put _ _ _)=>simp only[zL1,zL2,zL3,Act.put,zL4,zL5,zL6]
   refine zbg (i:=4) (v:=?_) (by kernel_rfl) rfl (by kernel_rfl) (by kernel_rfl) (by kernel_rfl) (fun _ _ _ h=>h) (Or.inl ⟨by kernel_rfl,?_⟩) HSW.out ?_;rotate_left
   ·intro w hS
    obtain⟨⟨e1,e2,e3,e4⟩,e5⟩:=hS;go_simp
    try with_reducible rfl
   conv in(Act.put _ _ _)=>simp only[zL1,zL2,zL3,Act.put,zL4,zL5,zL6]
   refine znF 5 _ (by kernel_rfl) rfl (by kernel_rfl) (fun K hK=>?_);go_simp
   replace HSW:Hid (SS wr.heap.size ⟨id,x,y,v⟩ (w.heap.size+1+1) q (vs q) (w1.alloc (.cells #[.int .u64 (id:Int),.int .u32 (x:Int),.int .u32 (y:Int),.string v] 79)).drew):=HSW.out.same (hd1.block _ hs1) (hd1.block _ (by have:=HSZ.out;omega))
   refine hK _ _ HSW.out ?_;clear hK K;refine znF 6 _ (by kernel_rfl) rfl (by kernel_rfl) (fun K hK=>?_);refine zj8 22 22 (.tmp 28) (.tmp 30) rfl rfl rfl hrun ?_
   replace HSW:Hid (SS wr.heap.size ⟨id,x,y,v⟩ (w.heap.size+1+1) q (vs q) W'):=HSW.out.same (a2.block _ (by simp;omega) (by intro e;have:=HNB.out _ e.symm;omega)) (a2.block _ (by have:=HSZ.out;simp;omega) (by intro e;have:=HNB.out _ e.symm;omega))
   refine hK _ _ HSW.out ?_;clear hK K
   conv in(Act.put _ _ _)=>simp only[zL1,zL2,zL3,Act.put,zL4,zL5,zL6]
   refine zbg (i:=7) (v:=?_) (by kernel_rfl) rfl (by kernel_rfl) (by kernel_rfl) (by kernel_rfl) (fun _ _ _ h=>h) (Or.inl ⟨by kernel_rfl,?_⟩) HSW.out ?_;rotate_left
   ·intro w hS
    obtain⟨⟨e1,e2,e3,e4⟩,e5⟩:=hS;go_simp
    try with_reducible rfl
   conv in(Act.put _ _ _)=>simp only[zL1,zL2,zL3,Act.put,zL4,zL5,zL6]
   refine ziP rfl (by kernel_rfl) (by kernel_rfl) (by kernel_rfl) ?_;have c6:=HSW.out.2;go_simp;clear c6 z6
   rename_i hKK
   refine hKK _ _ ?_;clear hKK;go_wp2_with fail
   go_roundw
   case rel=>exact⟨k+1,by omega,by go_num,_,HFIN.out⟩
   case measure=>simp[zam];omega
  ·obtain rfl:k=l.length:=by omega
   have q1:¬(l.length:Int)<(l.length:Int):=by omega
   obtain⟨t0,t1,t2,t3⟩:=zde HJ.out.out;obtain⟨s0,s1,s2,s3⟩:=zde HJ.out.res;have z0:=frozen_of_row wr (w.heap.size+1) 0 _ _ HJ.out.res;have z1:=frozen_of_row wr (w.heap.size+1) 1 _ _ HJ.out.res;have z2:=frozen_of_row wr (w.heap.size+1) 2 _ _ HJ.out.res;have z3:=frozen_of_row wr (w.heap.size+1) 3 _ _ HJ.out.res
   have HR:Hid (∀ q,q<4→wr.ownsRow (w.heap.size+3) 79 4 (vs q) (part l q).length ((part l q).flatMap rc)):=by
    intro q hq;have:=HJ.out.rows q hq;have e:pk n l l.length q=part l q:=by unfold pk part;rw[List.take_length,hn];rfl
    rwa[e] at this
   have sl:∀ q,q<4→∃ o n c,vs q=.slice o n c:=fun q hq=>by
    obtain⟨o,c,e,_⟩:=zai (HR.out q hq);exact⟨o,_,c,e⟩
   obtain⟨o0,n0,p0,e0⟩:=sl 0 (by omega);obtain⟨o1,n1,p1,e1⟩:=sl 1 (by omega);obtain⟨o2,n2,p2,e2⟩:=sl 2 (by omega);obtain⟨o3,n3,p3,e3⟩:=sl 3 (by omega);obtain⟨f1,f2⟩:=zfc HJ.out.res (vs 0) (vs 1) (vs 2) (vs 3);have F1:Hid _:=f1;have F2:Hid _:=f2;have E:Hid (.agg #[vs 0,vs 1,vs 2,vs 3]=Value.agg #[.slice o0 n0 p0,.slice o1 n1 p1,.slice o2 n2 p2,.slice o3 n3 p3]):=by rw[e0,e1,e2,e3];exact rfl
   rw[e0,e1,e2,e3] at F1 F2;have HSZ:Hid (w.heap.size+3≤wr.heap.size):=hsz;clear hj hsz f1 f2 sl;go_wp2_with fail;refine bodyPost_ret (zck rfl _ _ _ _ _ _ _ rfl F1.out) rfl ⟨vs,by rw[E.out],fun q hq=>?_,?_⟩
   ·refine zkc (zcy (HR.out q hq) fun b hb hlb=>F2.out.1 b (by have:=(zaL (HR.out q hq) hb).1;omega)) (by omega)
   ·exact HJ.out.bel.trans (F2.out.2.mono (by omega))
theorem zaq {P:Program} {ops:Array Oper} {rest:List Oper} {o:Oper} {a:Act} {w:World} {Q:Exit→Act→World→Prop} (hgd:o.guard=none) (t u:TypeId) (s x:Operand) (ho:o.op=.call { callee:=.builtin .append,args:=#[s,x],argTypes:=#[t,u] })
  {vs vx v':Value} {w':World} (hs:a.eval s=vs) (hx:a.eval x=vx) (hrun:(Builtin.append_ #[t,u] o.type #[vs,vx]).run P w=.ok v' w') (h:wpList P ops Q rest (a.put o.dst v') w'):wpList P ops Q (o::rest) a w:=
 wpList_plain hgd fun _ hK=>by
  unfold Oper.wp execOp;simp only[ho,resolve,invoke,builtin,Sem.run_bind,Sem.run_pure,Result.andThen_ok,List.map_toArray,List.map_cons,List.map_nil,hs,hx,hrun];exact hK _ _ h
theorem zgQ (a:Addr) (n c:Nat) (w:World):(binOp .eql 22 (.slice (some a) n c) (.slice none 0 0)).run Tryz.prog w=.ok (.bool false) w:=by kernel_rfl
theorem zkd (l:List Rw) (o:Option Addr) (cap:Nat) (w:World) (hr:zac w o cap l) (hne:0<l.length) (hmax:l.length≤1000):
  Calls Tryz.prog 101 #[.slice o l.length cap] w fun e w'=>∃ v,e=.returned v∧w'.ownsRow w.heap.size 79 4 v l.length (l.flatMap rc)∧Below w.heap.size w w':=by
 obtain⟨b,off,rfl,hb,_⟩:=hr.row hne;have h0:w.alloc (.cells #[] 79)=w.alloc (.cells #[] 79):=rfl;have hb0:=zaa w (.cells #[] 79)
 have hown:(w.alloc (.cells #[] 79)).ownsRow w.heap.size 79 4 (.slice (some ⟨w.heap.size,0,none⟩) 0 0) 0 []:=
  ⟨by simp,.inr ⟨w.heap.size,0,#[],rfl,Nat.le_refl _,zq w _,Nat.le_refl _,by decide,rfl,rfl⟩⟩
 obtain⟨v',W',hrun,a1,a2,a3⟩:=zaV 22 79 Tryz.underlying22 ze7 rfl (by decide) (by decide) (w.alloc (.cells #[] 79)) w.heap.size 0 l.length (.slice (some ⟨w.heap.size,0,none⟩) 0 0) (some ⟨b,off,none⟩) cap
    [] (l.flatMap rc) hown (by simp) (Sl.below hr hb0 zn) (zj7 l) (by omega)
 have HB:Hid (Below w.heap.size w W'):=hb0.grown a2 (by simp) fun k ek=>by simp[Value.ownBlock] at ek;omega
 have HO:Hid (W'.ownsRow w.heap.size 79 4 v' l.length (l.flatMap rc)):=by
  have:=a1;rw[Nat.zero_add,List.nil_append] at this;exact this
 clear a1 a2 a3 hown hb0 h0 hr;have hn:=fun w=>zgQ ⟨b,off,none⟩ l.length cap w
 go_enter Tryz.func101,Tryz.ntmps101
 go_wp2_with (refine zaq rfl 22 22 (.tmp 5) (.tmp 6) rfl rfl rfl hrun ?_)
 go_ret;exact⟨v',rfl,HO.out,HB.out⟩
theorem zfd:leaf []=true:=rfl
theorem zmj (G:Nat→Prop) (d:Nat) (w:World):zas G (d+1) w ⟨0,0,0,none,0,0,none,0,0⟩ []:=
 ⟨rfl,rfl,rfl,fun _=>⟨rfl,Sl.nil 4 w,fun h=>absurd h (by decide),rfl,Sl.nil 5 w⟩,fun h=>by rw[zfd] at h;cases h⟩
theorem zbK {fn:Func} {p:Tmp} (h:fn.results=#[.cell p 73]) (tmps:Array Value) (w:World) (g:Nat) (a b c d e:Value) {t:TypeId}
  (hp:tmps.getD p undef=.pointer (some ⟨g,0,none⟩)) (hg:w.heap[g]? =some (.cells #[a,b,c,d,e] t (0,0))):(results fn tmps).run Tryz.prog w=.ok (.agg #[a,b,c,d,e]) w:=by
 have hp':tmps[p]?.getD undef=.pointer (some ⟨g,0,none⟩):=by simpa using hp
 have c0:w.cell? ⟨g,0,none⟩=some a:=by rw[zr hg];rfl
 have c1:w.cell? ⟨g,1,none⟩=some b:=by rw[zr hg];rfl
 have c2:w.cell? ⟨g,2,none⟩=some c:=by rw[zr hg];rfl
 have c3:w.cell? ⟨g,3,none⟩=some d:=by rw[zr hg];rfl
 have c4:w.cell? ⟨g,4,none⟩=some e:=by rw[zr hg];rfl
 simp[results,h,hp',asAddr,go_sem,c0,c1,c2,c3,c4]
theorem zbV {w:World} {g:Nat} {a b c d e:Value} {t:TypeId} (hg:w.heap[g]? =some (.cells #[a,b,c,d,e] t (0,0))):
  w.frozen? ⟨g,0,none⟩=false∧w.frozen? ⟨g,1,none⟩=false∧w.frozen? ⟨g,2,none⟩=false∧w.frozen? ⟨g,3,none⟩=false∧w.frozen? ⟨g,4,none⟩=false∧
  w.cell? ⟨g,0,none⟩=some a∧w.cell? ⟨g,1,none⟩=some b∧w.cell? ⟨g,2,none⟩=some c∧w.cell? ⟨g,3,none⟩=some d∧w.cell? ⟨g,4,none⟩=some e:=
 ⟨frozen_of_row w g 0 _ _ hg,frozen_of_row w g 1 _ _ hg,frozen_of_row w g 2 _ _ hg,frozen_of_row w g 3 _ _ hg,frozen_of_row w g 4 _ _ hg,by rw[zr hg];rfl,by rw[zr hg];rfl,by rw[zr hg];rfl,by rw[zr hg];rfl,by rw[zr hg];rfl⟩
theorem setc (w:World) (g k:Nat) (v:Value) {j:Nat} (hj:j≠g):(w.setCell ⟨g,k,none⟩ v).heap[j]? =w.heap[j]? :=Below.heap_setCell _ _ _ _ hj
theorem zcO {w:World} {g:Nat} {x0 x1 x2 x3 x4:Value} {t:TypeId} (h:w.heap[g]? =some (.cells #[x0,x1,x2,x3,x4] t (0,0))) (a b c d e:Value):
  (((((w.setCell ⟨g,0,none⟩ a).setCell ⟨g,1,none⟩ b).setCell ⟨g,2,none⟩ c).setCell ⟨g,3,none⟩ d).setCell ⟨g,4,none⟩ e).heap[g]? =some (.cells #[a,b,c,d,e] t (0,0))∧
  (∀ j,j≠g→(((((w.setCell ⟨g,0,none⟩ a).setCell ⟨g,1,none⟩ b).setCell ⟨g,2,none⟩ c).setCell ⟨g,3,none⟩ d).setCell ⟨g,4,none⟩ e).heap[j]? =w.heap[j]?)∧
  Below g w (((((w.setCell ⟨g,0,none⟩ a).setCell ⟨g,1,none⟩ b).setCell ⟨g,2,none⟩ c).setCell ⟨g,3,none⟩ d).setCell ⟨g,4,none⟩ e):=by
 have X1:=zx w g 0 _ _ a h;have X2:=zx _ g 1 _ _ b X1;have X3:=zx _ g 2 _ _ c X2;have X4:=zx _ g 3 _ _ d X3;have X5:=zx _ g 4 _ _ e X4
 have o:∀ j,j≠g→(((((w.setCell ⟨g,0,none⟩ a).setCell ⟨g,1,none⟩ b).setCell ⟨g,2,none⟩ c).setCell ⟨g,3,none⟩ d).setCell ⟨g,4,none⟩ e).heap[j]? =w.heap[j]? :=fun j hj=>by
  rw[setc _ _ _ _ hj,setc _ _ _ _ hj,setc _ _ _ _ hj,setc _ _ _ _ hj,setc _ _ _ _ hj]
 have b0:∀ (w:World) (k:Nat) (v:Value),Below g w (w.setCell ⟨g,k,none⟩ v):=fun w k v=>⟨rfl,rfl,rfl,by simp[World.setCell],fun j hj=>setc w g k v (by omega)⟩
 exact⟨X5,o,(b0 w 0 a).trans ((b0 _ 1 b).trans ((b0 _ 2 c).trans ((b0 _ 3 d).trans (b0 _ 4 e))))⟩
theorem zfP {g X Y:Nat} {L:Int} {w w':World} (h:CelS g X Y L w) (e:w'.heap[g]? =w.heap[g]?):CelS g X Y L w':=
 ⟨(World.cell?_of_block (a:=⟨g,0,none⟩) e).trans h.1,(World.cell?_of_block (a:=⟨g,1,none⟩) e).trans h.2.1,(World.cell?_of_block (a:=⟨g,2,none⟩) e).trans h.2.2⟩
theorem zmk (d:Nat) (o:Option Addr) (cap:Nat) (w:World):
  Calls Tryz.prog 70 #[.slice o 0 cap] w fun e w'=>∃ n:Nv,e=.returned (nv n)∧zas (fun b=>w.heap.size≤b) (d+1) w' n []∧Below w.heap.size w w':=by
 have HB:Hid (Below w.heap.size w (w.alloc (.cells #[.int .u32 0,.int .u32 0,.int .i64 0,.slice none 0 0,.slice none 0 0] 73))):=zaa w _;have HG:Hid ((w.alloc (.cells #[.int .u32 0,.int .u32 0,.int .i64 0,.slice none 0 0,.slice none 0 0] 73)).heap[w.heap.size]? =some (.cells #[.int .u32 0,.int .u32 0,.int .i64 0,.slice none 0 0,.slice none 0 0] 73 (0,0))):=zq w _;go_enter Tryz.func70,Tryz.ntmps70;go_wp2_with fail;refine bodyPost_ret (zbK rfl _ _ _ _ _ _ _ _ rfl HG.out) rfl ⟨⟨0,0,0,none,0,0,none,0,0⟩,rfl,zmj _ d _,HB.out⟩
theorem zke (d:Nat) (l:List Rw) (o:Option Addr) (cap:Nat) (w:World) (hr:zac w o cap l) (hon:On l) (hmax:l.length≤1000) (hne:0<l.length) (hlf:leaf l=true):
  Calls Tryz.prog 70 #[.slice o l.length cap] w fun e w'=>∃ n:Nv,e=.returned (nv n)∧zas (fun b=>w.heap.size≤b) (d+1) w' n l∧Below w.heap.size w w':=by
  have HLf:Hid (leaf l=true):=hlf;have HCl:Hid (∀ W,zac W o cap l→_):=fun W h=>zkd l o cap W h hne hmax
  have HHR:zac (w.alloc (.cells #[.int .u32 0,.int .u32 0,.int .i64 0,.slice none 0 0,.slice none 0 0] 73)) o cap l:=hr.below (zaa w _) zn;have HC:Hid _:=zez l o cap (w.alloc (.cells #[.int .u32 0,.int .u32 0,.int .i64 0,.slice none 0 0,.slice none 0 0] 73)) HHR hne hon hmax;have HG2n:Hid ((w.alloc (.cells #[.int .u32 0,.int .u32 0,.int .i64 0,.slice none 0 0,.slice none 0 0] 73)).heap[w.heap.size]? =some (.cells #[.int .u32 0,.int .u32 0,.int .i64 0,.slice none 0 0,.slice none 0 0] 73 (0,0))):=zq w _;have HBn:Hid (Below w.heap.size w (w.alloc (.cells #[.int .u32 0,.int .u32 0,.int .i64 0,.slice none 0 0,.slice none 0 0] 73))):=zaa w _;have HR:Hid (zac w o cap l):=hr;obtain⟨X,hX⟩:∃ X,cx l=X:=⟨_,rfl⟩;obtain⟨Y,hY⟩:∃ Y,cy l=Y:=⟨_,rfl⟩;obtain⟨L,hL⟩:∃ L:Int,(lev l:Int)=L:=⟨_,rfl⟩;have HX:Hid (cx l=X):=hX;have HY:Hid (cy l=Y):=hY;have HL:Hid ((lev l:Int)=L):=hL;rw[hX,hY,hL] at HC
  have q0:((l.length:Int)==0)=false:=by rw[beq_eq_false_iff_ne];omega
  have n0:¬l.length=0:=by omega
  by_cases h4:l.length≤4
  ·have q1:decide ((l.length:Int)≤4)=true:=decide_eq_true (by omega)
   clear hlf h4;clear hr HHR hX hY hL;go_enter Tryz.func70,Tryz.ntmps70;go_wp2_with fail;refine Calls.mono HC.out ?_;rintro e W1 ⟨rfl,b1⟩;have HG2a:=(b1.block _ (by simp)).trans HG2n.out;have hs1:w.heap.size<W1.heap.size:=by have:=b1.size;simp at this;omega
   have HB2:Hid (Below w.heap.size w (W1.alloc (.cells #[.int .u32 (X:Int),.int .u32 (Y:Int),.int .i64 L] 70))):=(HBn.out.trans (b1.mono (by simp))).trans ((zaa W1 _).mono (by omega));have HG2:Hid ((W1.alloc (.cells #[.int .u32 (X:Int),.int .u32 (Y:Int),.int .i64 L] 70)).heap[w.heap.size]? =some (.cells #[.int .u32 0,.int .u32 0,.int .i64 0,.slice none 0 0,.slice none 0 0] 73 (0,0))):=((zaa W1 _).block _ hs1).trans HG2a;have HG3:Hid ((W1.alloc (.cells #[.int .u32 (X:Int),.int .u32 (Y:Int),.int .i64 L] 70)).heap[W1.heap.size]? =some (.cells #[.int .u32 (X:Int),.int .u32 (Y:Int),.int .i64 L] 70 (0,0))):=zq W1 _;clear b1 HG2a;go_wp2_with fail;have HG2s:Hid (w.heap.size<(W1.alloc (.cells #[.int .u32 (X:Int),.int .u32 (Y:Int),.int .i64 L] 70)).heap.size):=(zi HG2.out).1;have HG3s:Hid (W1.heap.size<(W1.alloc (.cells #[.int .u32 (X:Int),.int .u32 (Y:Int),.int .i64 L] 70)).heap.size):=(zi HG3.out).1
   have HG32:Hid (W1.heap.size≠w.heap.size):=Nat.ne_of_gt hs1;obtain⟨g3,hg3⟩:∃ g3,W1.heap.size=g3:=⟨_,rfl⟩;obtain⟨W2,hW2⟩:∃ W2,W1.alloc (.cells #[.int .u32 (X:Int),.int .u32 (Y:Int),.int .i64 L] 70)=W2:=⟨_,rfl⟩;rw[hW2] at HB2 HG2 HG3 HG2s HG3s ⊢;rw[hg3] at HG3 HG3s HG32 ⊢;clear hW2 hg3 hs1 HC HG2n HBn;obtain⟨t0,t1,t2⟩:=Cel.cells HG3.out;go_wp2_with fail;have HSW:Hid (CelS g3 X Y L W2.drew):=Cel.cells HG3.out;have HRW:Hid (zac W2 o cap l):=HR.out.below HB2.out zn;clear t0 t1 t2;refine wp_region_held (S:=CelS g3 X Y L) (by kernel_rfl) ?_;change wpAnyH _ _ _ _ _ _ _ _ (World.drew _);refine plan [0,1] ?_
   iterate 2
    refine tkH (v:=?_) rfl ?_ HSW.out ?_;rotate_left
    ·rintro w ⟨e1,e2,e3⟩;go_simp;try with_reducible rfl
    conv in(Act.put _ _ _)=>simp only[zL1,zL2,zL3,Act.put,zL4,zL5,zL6]
   refine plan0 ?_;refine zar 2 _ (by kernel_rfl) rfl (by kernel_rfl) (fun K hK=>?_);go_simp;refine(HCl.out W2.drew (Sl.below HRW.out ((Below.refl _ W2).drew) zn)).mono ?_;rintro e W3 ⟨v,rfl,o1,b1⟩
   replace b1:Below W2.heap.size W2 W3:=(Below.refl _ W2).drew.trans b1
   replace HSW:Hid (CelS g3 X Y L W3):=CelS.below (Cel.cells HG3.out) b1 HG3s.out
   have HG2':Hid (W3.heap[w.heap.size]? =some (.cells #[.int .u32 0,.int .u32 0,.int .i64 0,.slice none 0 0,.slice none 0 0] 73 (0,0))):=(b1.block _ HG2s.out).trans HG2.out;refine hK _ _ HSW.out ?_;clear hK K;obtain⟨ro,rcap,rfl,sl⟩:=zai o1;obtain⟨n,hn⟩:∃ n,l.length=n:=⟨_,rfl⟩;rw[hn];refine plan [3] ?_;refine tkH (v:=?_) rfl ?_ HSW.out ?_;rotate_left
   ·rintro w ⟨e1,e2,e3⟩;go_simp;try with_reducible rfl
   conv in(Act.put _ _ _)=>simp only[zL1,zL2,zL3,Act.put,zL4,zL5,zL6]
   refine plan0 ?_;obtain⟨z0,z1,z2,z3,z4,f0,f1,f2,f3,f4⟩:=zbV HG2'.out;obtain⟨p1,p2,p3⟩:=zcO HG2'.out (.int .u32 (X:Int)) (.int .u32 (Y:Int)) (.int .i64 L) (.slice ro n rcap) (.slice none 0 0);have HP1:Hid _:=p1;have HP3:Hid (Below w.heap.size w _):=HB2.out.trans ((b1.mono (Nat.le_of_lt HG2s.out)).trans p3)
   have HN:Hid (zas (fun b=>w.heap.size≤b) (d+1) (((((W3.setCell ⟨w.heap.size,0,none⟩ (.int .u32 (X:Int))).setCell ⟨w.heap.size,1,none⟩ (.int .u32 (Y:Int))).setCell ⟨w.heap.size,2,none⟩ (.int .i64 L)).setCell ⟨w.heap.size,3,none⟩ (.slice ro n rcap)).setCell ⟨w.heap.size,4,none⟩ (.slice none 0 0)) ⟨X,Y,lev l,ro,n,rcap,none,0,0⟩ l):=by
    refine(?_:zas (fun b=>w.heap.size≤b) (d+1) _ _ l);refine⟨HX.out.symm,HY.out.symm,rfl,fun _=>⟨hn.symm,?_,fun _ b off e=>?_,rfl,Sl.nil 5 _⟩,fun h=>by rw[HLf.out] at h;cases h⟩
    ·refine Sl.same sl (by simp[World.setCell]) fun b off e _=>p2 b ?_
     have hbb:W2.heap.size≤b:=(zaL o1 (by have e':ro=some ⟨b,off,none⟩:=e;rw[e'];rfl)).1;have:=HG2s.out;omega
    ·have hbb:W2.heap.size≤b:=(zaL o1 (by have e':ro=some ⟨b,off,none⟩:=e;rw[e'];rfl)).1
     have:=HG2s.out;omega
   replace HSW:Hid (CelS g3 X Y L (((((W3.setCell ⟨w.heap.size,0,none⟩ (.int .u32 (X:Int))).setCell ⟨w.heap.size,1,none⟩ (.int .u32 (Y:Int))).setCell ⟨w.heap.size,2,none⟩ (.int .i64 L)).setCell ⟨w.heap.size,3,none⟩ (.slice ro n rcap)).setCell ⟨w.heap.size,4,none⟩ (.slice none 0 0))):=zfP HSW.out (p2 g3 HG32.out)
   clear p1 p2 p3 b1 o1 sl;refine zar 4 _ (by kernel_rfl) rfl (by kernel_rfl) (fun K hK=>?_);go_simp;refine hK _ _ HSW.out ?_;clear hK K;refine wpAnyH_done (by kernel_rfl) ?_ _;go_wp2_with fail;refine bodyPost_ret (zbK rfl _ _ _ _ _ _ _ _ rfl HP1.out) rfl ⟨⟨X,Y,lev l,ro,n,rcap,none,0,0⟩,?_,HN.out,HP3.out⟩;rw[←HL.out]
  ·have q1:decide ((l.length:Int)≤4)=false:=decide_eq_false (by omega)
   have q2:(L==0)=true:=by
    rw[beq_iff_eq,←hL];unfold leaf at hlf;rw[decide_eq_true_iff] at hlf;omega
   clear hlf h4;clear hr HHR hX hY hL;go_enter Tryz.func70,Tryz.ntmps70;go_wp2_with fail;refine Calls.mono HC.out ?_;rintro e W1 ⟨rfl,b1⟩;have HG2a:=(b1.block _ (by simp)).trans HG2n.out;have hs1:w.heap.size<W1.heap.size:=by have:=b1.size;simp at this;omega
   have HB2:Hid (Below w.heap.size w (W1.alloc (.cells #[.int .u32 (X:Int),.int .u32 (Y:Int),.int .i64 L] 70))):=(HBn.out.trans (b1.mono (by simp))).trans ((zaa W1 _).mono (by omega));have HG2:Hid ((W1.alloc (.cells #[.int .u32 (X:Int),.int .u32 (Y:Int),.int .i64 L] 70)).heap[w.heap.size]? =some (.cells #[.int .u32 0,.int .u32 0,.int .i64 0,.slice none 0 0,.slice none 0 0] 73 (0,0))):=((zaa W1 _).block _ hs1).trans HG2a;have HG3:Hid ((W1.alloc (.cells #[.int .u32 (X:Int),.int .u32 (Y:Int),.int .i64 L] 70)).heap[W1.heap.size]? =some (.cells #[.int .u32 (X:Int),.int .u32 (Y:Int),.int .i64 L] 70 (0,0))):=zq W1 _;clear b1 HG2a;go_wp2_with fail;have HG2s:Hid (w.heap.size<(W1.alloc (.cells #[.int .u32 (X:Int),.int .u32 (Y:Int),.int .i64 L] 70)).heap.size):=(zi HG2.out).1;have HG3s:Hid (W1.heap.size<(W1.alloc (.cells #[.int .u32 (X:Int),.int .u32 (Y:Int),.int .i64 L] 70)).heap.size):=(zi HG3.out).1
   have HG32:Hid (W1.heap.size≠w.heap.size):=Nat.ne_of_gt hs1;obtain⟨g3,hg3⟩:∃ g3,W1.heap.size=g3:=⟨_,rfl⟩;obtain⟨W2,hW2⟩:∃ W2,W1.alloc (.cells #[.int .u32 (X:Int),.int .u32 (Y:Int),.int .i64 L] 70)=W2:=⟨_,rfl⟩;rw[hW2] at HB2 HG2 HG3 HG2s HG3s ⊢;rw[hg3] at HG3 HG3s HG32 ⊢;clear hW2 hg3 hs1 HC HG2n HBn;obtain⟨t0,t1,t2⟩:=Cel.cells HG3.out;go_wp2_with fail;have HSW:Hid (CelS g3 X Y L W2.drew):=Cel.cells HG3.out;have HRW:Hid (zac W2 o cap l):=HR.out.below HB2.out zn;clear t0 t1 t2;refine wp_region_held (S:=CelS g3 X Y L) (by kernel_rfl) ?_;change wpAnyH _ _ _ _ _ _ _ _ (World.drew _);refine plan [0,1] ?_
   iterate 2
    refine tkH (v:=?_) rfl ?_ HSW.out ?_;rotate_left
    ·rintro w ⟨e1,e2,e3⟩;go_simp;try with_reducible rfl
    conv in(Act.put _ _ _)=>simp only[zL1,zL2,zL3,Act.put,zL4,zL5,zL6]
   refine plan0 ?_;refine zar 2 _ (by kernel_rfl) rfl (by kernel_rfl) (fun K hK=>?_);go_simp;refine(HCl.out W2.drew (Sl.below HRW.out ((Below.refl _ W2).drew) zn)).mono ?_;rintro e W3 ⟨v,rfl,o1,b1⟩
   replace b1:Below W2.heap.size W2 W3:=(Below.refl _ W2).drew.trans b1
   replace HSW:Hid (CelS g3 X Y L W3):=CelS.below (Cel.cells HG3.out) b1 HG3s.out
   have HG2':Hid (W3.heap[w.heap.size]? =some (.cells #[.int .u32 0,.int .u32 0,.int .i64 0,.slice none 0 0,.slice none 0 0] 73 (0,0))):=(b1.block _ HG2s.out).trans HG2.out;refine hK _ _ HSW.out ?_;clear hK K;obtain⟨ro,rcap,rfl,sl⟩:=zai o1;obtain⟨n,hn⟩:∃ n,l.length=n:=⟨_,rfl⟩;rw[hn];refine plan [3] ?_;refine tkH (v:=?_) rfl ?_ HSW.out ?_;rotate_left
   ·rintro w ⟨e1,e2,e3⟩;go_simp;try with_reducible rfl
   conv in(Act.put _ _ _)=>simp only[zL1,zL2,zL3,Act.put,zL4,zL5,zL6]
   refine plan0 ?_;obtain⟨z0,z1,z2,z3,z4,f0,f1,f2,f3,f4⟩:=zbV HG2'.out;obtain⟨p1,p2,p3⟩:=zcO HG2'.out (.int .u32 (X:Int)) (.int .u32 (Y:Int)) (.int .i64 L) (.slice ro n rcap) (.slice none 0 0);have HP1:Hid _:=p1;have HP3:Hid (Below w.heap.size w _):=HB2.out.trans ((b1.mono (Nat.le_of_lt HG2s.out)).trans p3)
   have HN:Hid (zas (fun b=>w.heap.size≤b) (d+1) (((((W3.setCell ⟨w.heap.size,0,none⟩ (.int .u32 (X:Int))).setCell ⟨w.heap.size,1,none⟩ (.int .u32 (Y:Int))).setCell ⟨w.heap.size,2,none⟩ (.int .i64 L)).setCell ⟨w.heap.size,3,none⟩ (.slice ro n rcap)).setCell ⟨w.heap.size,4,none⟩ (.slice none 0 0)) ⟨X,Y,lev l,ro,n,rcap,none,0,0⟩ l):=by
    refine(?_:zas (fun b=>w.heap.size≤b) (d+1) _ _ l);refine⟨HX.out.symm,HY.out.symm,rfl,fun _=>⟨hn.symm,?_,fun _ b off e=>?_,rfl,Sl.nil 5 _⟩,fun h=>by rw[HLf.out] at h;cases h⟩
    ·refine Sl.same sl (by simp[World.setCell]) fun b off e _=>p2 b ?_
     have hbb:W2.heap.size≤b:=(zaL o1 (by have e':ro=some ⟨b,off,none⟩:=e;rw[e'];rfl)).1;have:=HG2s.out;omega
    ·have hbb:W2.heap.size≤b:=(zaL o1 (by have e':ro=some ⟨b,off,none⟩:=e;rw[e'];rfl)).1
     have:=HG2s.out;omega
   replace HSW:Hid (CelS g3 X Y L (((((W3.setCell ⟨w.heap.size,0,none⟩ (.int .u32 (X:Int))).setCell ⟨w.heap.size,1,none⟩ (.int .u32 (Y:Int))).setCell ⟨w.heap.size,2,none⟩ (.int .i64 L)).setCell ⟨w.heap.size,3,none⟩ (.slice ro n rcap)).setCell ⟨w.heap.size,4,none⟩ (.slice none 0 0))):=zfP HSW.out (p2 g3 HG32.out)
   clear p1 p2 p3 b1 o1 sl;refine zar 4 _ (by kernel_rfl) rfl (by kernel_rfl) (fun K hK=>?_);go_simp;refine hK _ _ HSW.out ?_;clear hK K;refine wpAnyH_done (by kernel_rfl) ?_ _;go_wp2_with fail;refine bodyPost_ret (zbK rfl _ _ _ _ _ _ _ _ rfl HP1.out) rfl ⟨⟨X,Y,lev l,ro,n,rcap,none,0,0⟩,?_,HN.out,HP3.out⟩;rw[←HL.out]
def kl (l:List Rw) (j:Nat):List (List Rw):=((List.range j).map (part l)).filter fun m=> !m.isEmpty
theorem zod (l:List Rw):kl l 4=zao l:=rfl
theorem zpw {l:List Rw} {j:Nat} (h:part l j=[]):kl l (j+1)=kl l j:=by
 unfold kl;rw[List.range_succ,List.map_append,List.filter_append];simp[h]
theorem zkf {l:List Rw} {j:Nat} (h:part l j≠[]):kl l (j+1)=kl l j++[part l j]:=by
 unfold kl;rw[List.range_succ,List.map_append,List.filter_append];simp[h]
theorem zpx (l:List Rw) (j:Nat):(kl l j).length≤j:=by
 unfold kl;exact Nat.le_trans (List.length_filter_le _ _) (by simp)
structure KJ (d:Nat) (l:List Rw) (w3:World) (j:Nat) (ks:List Nv) (v:Value) (W:World):Prop where
 len:ks.length=(kl l j).length
 own:W.ownsRow w3.heap.size 73 5 v ks.length (ks.flatMap nc)
 nodes:∀ i (h1:i<ks.length) (h2:i<(kl l j).length),zas (fun b=>w3.heap.size≤b∧v.ownBlock≠some b) d W ks[i] (kl l j)[i]
 bel:Below w3.heap.size w3 W
theorem KJ.skip {d:Nat} {l:List Rw} {w3:World} {j:Nat} {ks:List Nv} {v:Value} {W:World} (h:KJ d l w3 j ks v W) (hp:part l j=[]):KJ d l w3 (j+1) ks v W:=by
 obtain⟨h1,h2,h3,h4⟩:=h;refine⟨by rw[zpw hp];exact h1,h2,?_,h4⟩;rw[zpw hp];exact h3
theorem KJ.step {d:Nat} {l:List Rw} {w3:World} {j:Nat} {ks:List Nv} {v:Value} {W W1 W2 W':World} (h:KJ d l w3 j ks v W) (hp:part l j≠[]) {n:Nv} {v':Value}
  (hb1:Below W.heap.size W W1) (hn:zas (fun b=>W.heap.size≤b) d W1 n (part l j)) (hb2:Below W1.heap.size W1 W2) (ho:W'.ownsRow w3.heap.size 73 5 v' (ks.length+1) (ks.flatMap nc++nc n)) (hg:W2.grownBy W' v.ownBlock) (hf:v'.ownBlock=v.ownBlock∨v'.ownBlock=some W2.heap.size):
  KJ d l w3 (j+1) (ks++[n]) v' W':=by
 have hs1:=hb1.size;have hs2:=hb2.size;have hw3:=h.bel.size;have hv:∀ b,v.ownBlock=some b→w3.heap.size≤b∧b<W.heap.size:=fun b hb=>zaL h.own hb
 have keep:∀ b,b<W2.heap.size→v.ownBlock≠some b→W'.heap[b]? =W2.heap[b]? :=fun b hb hne=>hg.block b hb fun e=>hne e.symm
 have nv':∀ b,b<W2.heap.size→v.ownBlock≠some b→v'.ownBlock≠some b:=fun b hb hne e=>by
  rcases hf with hf|hf
  ·rw[hf] at e;exact hne e
  ·rw[hf] at e;cases e;omega
 refine⟨by rw[zkf hp,List.length_append,List.length_append,h.len];rfl,?_,fun i h1 h2=>?_,h.bel.trans ⟨?_,?_,?_,?_,fun b hb=>?_⟩⟩
 ·rw[List.length_append,List.flatMap_append];simpa using ho
 ·have e:(kl l (j+1))[i]=(kl l j++[part l j])[i]'(by rw[←zkf hp];exact h2):=by congr 1;exact zkf hp
  rw[e];by_cases hi:i<ks.length
  ·rw[List.getElem_append_left hi,List.getElem_append_left (by rw[←h.len];exact hi)]
   have a:=h.nodes i hi (by rw[←h.len];exact hi);have a2:=(a.below hb1 zn).below hb2 zn;have a0:zas (fun b=>(w3.heap.size≤b∧v.ownBlock≠some b)∧b<W2.heap.size) d W2 ks[i] ((kl l j)[i]'(by rw[←h.len];exact hi)):=a2.mono fun b hb hG=>⟨hG,hb⟩
   exact(a0.same hg.size fun b hG hb=>keep b hb hG.1.2).mono fun b _ hG=>⟨hG.1.1,nv' b hG.2 hG.1.2⟩
  ·have hi':i=ks.length:=by rw[List.length_append] at h1;simp at h1;omega
   subst hi';rw[List.getElem_append_right zn,List.getElem_append_right (by rw[h.len];omega)];simp only[Nat.sub_self,h.len,List.getElem_cons_zero];have a2:=hn.below hb2 zn;have a0:zas (fun b=>W.heap.size≤b∧b<W2.heap.size) d W2 n (part l j):=a2.mono fun b hb hG=>⟨hG,hb⟩
   have hvb:∀ b,W.heap.size≤b→v.ownBlock≠some b:=fun b hb e=>by have:=(hv b e).2;omega
   exact(a0.same hg.size fun b hG hb=>keep b hb (hvb b hG.1)).mono fun b _ hG=>⟨by omega,nv' b hG.2 (hvb b hG.1)⟩
 ·exact hg.os.trans (hb2.os.trans hb1.os)
 ·exact hg.tape.trans (hb2.tape.trans hb1.tape)
 ·exact hg.output.trans (hb2.output.trans hb1.output)
 ·exact Nat.le_trans hs1 (Nat.le_trans hs2 hg.size)
 ·exact(keep b (by omega) (fun e=>by have:=(hv b e).1;omega)).trans ((hb2.block b (by omega)).trans (hb1.block b (by omega)))
theorem ixs (vs:Nat→Value) (j:Nat) (hj:j<4) (w:World):(Instr.index 176 (.agg #[vs 0,vs 1,vs 2,vs 3]) (.int .i64 (j:Int))).run Tryz.prog w=.ok (vs j) w:=by
 obtain rfl|rfl|rfl|rfl:j=0∨j=1∨j=2∨j=3:=by omega
 all_goals kernel_rfl
theorem zml {w:World} {g:Nat} {n:Nv} {t:TypeId} {fr:Nat × Nat} (h:w.heap[g]? =some (.cells #[.int .u32 (n.X:Int),.int .u32 (n.Y:Int),.int .i64 (n.L:Int),.slice n.ro n.rn n.rc,.slice n.ko n.kn n.kc] t fr)):Sl 5 w (some ⟨g,0,none⟩) 1 1 (nc n):=by
 refine⟨Nat.le_refl _,by decide,(fun e=>by cases e),rfl,fun _=>⟨g,0,rfl,(zi h).1,fun j u hu=>?_⟩⟩;rw[Nat.zero_add,zr h];have:j<5:=(List.getElem?_eq_some_iff.1 hu).1;obtain rfl|rfl|rfl|rfl|rfl:j=0∨j=1∨j=2∨j=3∨j=4:=by omega
 all_goals simpa [nc] using hu
theorem zoe (n:Nv):∀ u∈nc n,u.oneCell'=true:=by
 have:=zpu [n];simpa using this
theorem ziT (d:Nat) (ih:∀ (l:List Rw) (o:Option Addr) (cap:Nat) (w:World),zac w o cap l→On l→l.length≤1000→lev l<d→
   Calls Tryz.prog 70 #[.slice o l.length cap] w fun e w'=>∃ n:Nv,e=.returned (nv n)∧zas (fun b=>w.heap.size≤b) d w' n l∧Below w.heap.size w w')
  (l:List Rw) (o:Option Addr) (cap:Nat) (w:World) (hr:zac w o cap l) (hon:On l) (hmax:l.length≤1000) (hlf:leaf l=false) (hd:lev l<d+1):
  Calls Tryz.prog 70 #[.slice o l.length cap] w fun e w'=>∃ n:Nv,e=.returned (nv n)∧zas (fun b=>w.heap.size≤b) (d+1) w' n l∧Below w.heap.size w w':=by
  obtain⟨h4,m,hm⟩:=zda hlf;have hne:0<l.length:=by omega
  have HLf:Hid (leaf l=false):=hlf;have IH:Hid _:=ih;have HSh:Hid (∀ W,zac W o cap l→_):=fun W h=>ziS m l o cap W h hon hmax hm
  have HHR:zac (w.alloc (.cells #[.int .u32 0,.int .u32 0,.int .i64 0,.slice none 0 0,.slice none 0 0] 73)) o cap l:=hr.below (zaa w _) zn;have HC:Hid _:=zez l o cap (w.alloc (.cells #[.int .u32 0,.int .u32 0,.int .i64 0,.slice none 0 0,.slice none 0 0] 73)) HHR hne hon hmax;have HG2n:Hid ((w.alloc (.cells #[.int .u32 0,.int .u32 0,.int .i64 0,.slice none 0 0,.slice none 0 0] 73)).heap[w.heap.size]? =some (.cells #[.int .u32 0,.int .u32 0,.int .i64 0,.slice none 0 0,.slice none 0 0] 73 (0,0))):=zq w _;have HBn:Hid (Below w.heap.size w (w.alloc (.cells #[.int .u32 0,.int .u32 0,.int .i64 0,.slice none 0 0,.slice none 0 0] 73))):=zaa w _;have HR:Hid (zac w o cap l):=hr;obtain⟨X,hX⟩:∃ X,cx l=X:=⟨_,rfl⟩;obtain⟨Y,hY⟩:∃ Y,cy l=Y:=⟨_,rfl⟩;obtain⟨L,hL⟩:∃ L:Int,(lev l:Int)=L:=⟨_,rfl⟩;have HX:Hid (cx l=X):=hX;have HY:Hid (cy l=Y):=hY;have HL:Hid ((lev l:Int)=L):=hL;rw[hX,hY,hL] at HC
  have q0:((l.length:Int)==0)=false:=by rw[beq_eq_false_iff_ne];omega
  have n0:¬l.length=0:=by omega
  rw[hX,hY,hL] at HSh;have q1:decide ((l.length:Int)≤4)=false:=decide_eq_false (by omega);have q2:(L==0)=false:=by rw[beq_eq_false_iff_ne,←hL];omega
  have HM:Hid (lev l=m+1):=hm;have HD:Hid (lev l<d+1):=hd;have Hon:Hid (On l):=hon;clear hlf h4 hm hd hon ih;clear hr HHR hX hY hL;go_enter Tryz.func70,Tryz.ntmps70;go_wp2_with fail;refine Calls.mono HC.out ?_;rintro e W1 ⟨rfl,b1⟩;have HG2a:=(b1.block _ (by simp)).trans HG2n.out;have hs1:w.heap.size<W1.heap.size:=by have:=b1.size;simp at this;omega
  have HB2:Hid (Below w.heap.size w (W1.alloc (.cells #[.int .u32 (X:Int),.int .u32 (Y:Int),.int .i64 L] 70))):=(HBn.out.trans (b1.mono (by simp))).trans ((zaa W1 _).mono (by omega));have HG2:Hid ((W1.alloc (.cells #[.int .u32 (X:Int),.int .u32 (Y:Int),.int .i64 L] 70)).heap[w.heap.size]? =some (.cells #[.int .u32 0,.int .u32 0,.int .i64 0,.slice none 0 0,.slice none 0 0] 73 (0,0))):=((zaa W1 _).block _ hs1).trans HG2a;have HG3:Hid ((W1.alloc (.cells #[.int .u32 (X:Int),.int .u32 (Y:Int),.int .i64 L] 70)).heap[W1.heap.size]? =some (.cells #[.int .u32 (X:Int),.int .u32 (Y:Int),.int .i64 L] 70 (0,0))):=zq W1 _;clear b1 HG2a;go_wp2_with fail;have HG2s:Hid (w.heap.size<(W1.alloc (.cells #[.int .u32 (X:Int),.int .u32 (Y:Int),.int .i64 L] 70)).heap.size):=(zi HG2.out).1;have HG3s:Hid (W1.heap.size<(W1.alloc (.cells #[.int .u32 (X:Int),.int .u32 (Y:Int),.int .i64 L] 70)).heap.size):=(zi HG3.out).1
  have HG32:Hid (W1.heap.size≠w.heap.size):=Nat.ne_of_gt hs1;obtain⟨g3,hg3⟩:∃ g3,W1.heap.size=g3:=⟨_,rfl⟩;obtain⟨W2,hW2⟩:∃ W2,W1.alloc (.cells #[.int .u32 (X:Int),.int .u32 (Y:Int),.int .i64 L] 70)=W2:=⟨_,rfl⟩;rw[hW2] at HB2 HG2 HG3 HG2s HG3s ⊢;rw[hg3] at HG3 HG3s HG32 ⊢;clear hW2 hg3 hs1 HC HG2n HBn;obtain⟨t0,t1,t2⟩:=Cel.cells HG3.out;go_wp2_with fail;refine Calls.mono (HSh.out W2 (HR.out.below HB2.out zn)) ?_;rintro e W3 ⟨vs,rfl,hvs,b3⟩;have HV:Hid (∀ q,q<4→W3.ownsRow W2.heap.size 79 4 (vs q) (part l q).length ((part l q).flatMap rc)):=hvs;have HB3:Hid (Below W2.heap.size W2 W3):=b3;clear hvs b3 t0 t1 t2;go_wp2_with fail
  go_loopw [4,28] (fun kv i wr=>∃ j:Nat,j≤4∧i=.int .i64 (j:Int)∧∃ ks,KJ d l W3 j ks kv wr) (fun _ i _=>4 - zam i)
  case atStart=>exact⟨0,by omega,rfl,[],rfl,World.ownsRow_nil _ _ _ _,fun i h1 _=>absurd h1 (by simp),Below.refl _ _⟩
  case round=>
   obtain⟨j,hj,rfl,ks,hJ⟩:=hrel;have HJ:Hid (KJ d l W3 j ks u4 wr):=hJ;clear hJ;by_cases hlt:j<4
   ·have q3:(j:Int)<4:=by omega
    have hix:=ixs vs j hlt;obtain⟨oj,cj,ej,sj⟩:=zai (HV.out j hlt);rw[ej] at hix;have HS:Hid (zac wr oj cj (part l j)):=Sl.below sj (HJ.out.bel) zn;have HP:Hid _:=ze0 l j;clear sj ej;obtain⟨pl,hpl⟩:∃ pl,(part l j).length=pl:=⟨_,rfl⟩;have HPL:Hid ((part l j).length=pl):=hpl;rw[hpl] at hix;clear hpl;have k1:(j:Int)+1≤9223372036854775807:=by omega
    by_cases hp:pl=0
    ·have q4:decide (0<pl)=false:=decide_eq_false (by omega)
     have HN:Hid (KJ d l W3 (j+1) ks u4 wr):=HJ.out.skip (List.eq_nil_of_length_eq_zero (by rw[HPL.out];exact hp));clear hp;go_wp2_with fail
     go_roundw
     case rel=>exact⟨j+1,by omega,by go_num,ks,HN.out⟩
     case measure=>simp[zam];omega
    ·have q4:decide (0<pl)=true:=decide_eq_true (by omega)
     have HNP:Hid (part l j≠[]):=fun e=>by have:=HPL.out;rw[e] at this;exact hp this.symm
     clear hp;go_wp2_with fail;have hcall:=IH.out (part l j) oj cj wr HS.out (Hon.out.part j) (Nat.le_trans HP.out hmax) (by have:=zhI Hon.out HM.out j;have:=HM.out;have:=HD.out;omega);rw[HPL.out] at hcall;refine hcall.mono ?_;rintro e W4 ⟨nn,rfl,n4,b4⟩;clear hcall;obtain⟨nX,nY,nL,nro,nrn,nrc,nko,nkn,nkc⟩:=nn;have hb5:=zaa W4 (.cells #[.int .u32 (nX:Int),.int .u32 (nY:Int),.int .i64 (nL:Int),.slice nro nrn nrc,.slice nko nkn nkc] 73);have hkl:=zpx l j
     obtain⟨v',W',hrun,a1,a2,a3⟩:=zaV 71 73 Tryz.underlying71 zmh rfl (by decide) (by decide) (W4.alloc (.cells #[.int .u32 (nX:Int),.int .u32 (nY:Int),.int .i64 (nL:Int),.slice nro nrn nrc,.slice nko nkn nkc] 73)) W3.heap.size ks.length 1 u4 (some ⟨W4.heap.size,0,none⟩) 1
      (ks.flatMap nc) (nc ⟨nX,nY,nL,nro,nrn,nrc,nko,nkn,nkc⟩) (zcy HJ.out.own fun b _ hb=>(hb5.block b (by have:=b4.size;omega)).trans (b4.block b hb)) (by have:=HJ.out.bel.size;have:=b4.size;simp;omega) (zml (zq W4 _)) (zoe _) (by have:=HJ.out.len;omega)
     have HN:Hid (KJ d l W3 (j+1) (ks++[⟨nX,nY,nL,nro,nrn,nrc,nko,nkn,nkc⟩]) v' W'):=HJ.out.step HNP.out b4 n4 hb5 a1 a2 a3;clear n4 b4 hb5 a1 a2 a3 hkl
     go_wp2_with (refine zaq rfl 71 71 (.tmp 34) (.tmp 37) rfl rfl rfl hrun ?_)
     go_roundw
     case rel=>exact⟨j+1,by omega,by go_num,_,HN.out⟩
     case measure=>simp[zam];omega
   ·obtain rfl:j=4:=by omega
    have q3:¬((4:Nat):Int)<4:=by omega
    obtain⟨ko,kc,rfl,sk⟩:=zai HJ.out.own;obtain⟨kn,hkn⟩:∃ kn,ks.length=kn:=⟨_,rfl⟩;have HKN:Hid (ks.length=kn):=hkn;have hg2:wr.heap[w.heap.size]? =some (.cells #[.int .u32 0,.int .u32 0,.int .i64 0,.slice none 0 0,.slice none 0 0] 73 (0,0)):=(HJ.out.bel.block _ (by have:=HB3.out.size;have:=HG2s.out;omega)).trans ((HB3.out.block _ HG2s.out).trans HG2.out);have hg3:wr.heap[g3]? =some (.cells #[.int .u32 (X:Int),.int .u32 (Y:Int),.int .i64 L] 70 (0,0)):=(HJ.out.bel.block _ (by have:=HB3.out.size;have:=HG3s.out;omega)).trans ((HB3.out.block _ HG3s.out).trans HG3.out);obtain⟨z0,z1,z2,z3,z4,f0,f1,f2,f3,f4⟩:=zbV hg2;obtain⟨t0,t1,t2⟩:=Cel.cells hg3;obtain⟨p1,p2,p3⟩:=zcO hg2 (.int .u32 (X:Int)) (.int .u32 (Y:Int)) (.int .i64 L) (.slice none 0 0) (.slice ko kn kc);have HP1:Hid _:=p1;have HP3:Hid (Below w.heap.size w _):=HB2.out.trans (((HB3.out.trans (HJ.out.bel.mono HB3.out.size)).mono (Nat.le_of_lt HG2s.out)).trans p3)
    have HN:Hid (zas (fun b=>w.heap.size≤b) (d+1) (((((wr.setCell ⟨w.heap.size,0,none⟩ (.int .u32 (X:Int))).setCell ⟨w.heap.size,1,none⟩ (.int .u32 (Y:Int))).setCell ⟨w.heap.size,2,none⟩ (.int .i64 L)).setCell ⟨w.heap.size,3,none⟩ (.slice none 0 0)).setCell ⟨w.heap.size,4,none⟩ (.slice ko kn kc)) ⟨X,Y,lev l,none,0,0,ko,kn,kc⟩ l):=by
     refine(?_:zas (fun b=>w.heap.size≤b) (d+1) _ _ l);have hlt3:w.heap.size<W3.heap.size:=by have:=HB3.out.size;have:=HG2s.out;omega
     have hkl:=zod l;refine⟨HX.out.symm,HY.out.symm,rfl,(fun h=>by rw[HLf.out] at h;cases h),fun _=>⟨rfl,Sl.nil 4 _,ks,hkn.symm,?_,?_,fun _ b off e=>?_,fun i h1 h2=>?_⟩⟩
     ·rw[←hkl];exact HJ.out.len
     ·refine Sl.same sk (by simp[World.setCell]) fun b off e _=>p2 b ?_
      have e':ko=some ⟨b,off,none⟩:=e;have hh:W3.heap.size≤b:=(zaL HJ.out.own (by rw[e'];rfl)).1;omega
     ·have e':ko=some ⟨b,off,none⟩:=e
      have hh:W3.heap.size≤b:=(zaL HJ.out.own (by rw[e'];rfl)).1;show w.heap.size≤b;omega
     ·have a:=HJ.out.nodes i h1 h2
      exact(a.same (by simp[World.setCell]) fun b hG _=>p2 b (by have:=hG.1;omega)).mono fun b _ hG=>by have:=hG.1;show w.heap.size≤b;omega
    rw[hkn];clear p1 p2 p3 hg2 hg3 sk hkn;go_wp2_with fail;refine bodyPost_ret (zbK rfl _ _ _ _ _ _ _ _ rfl HP1.out) rfl ⟨⟨X,Y,lev l,none,0,0,ko,kn,kc⟩,?_,HN.out,HP3.out⟩;rw[←HL.out]
theorem zhS:∀ (d:Nat) (l:List Rw) (o:Option Addr) (cap:Nat) (w:World),zac w o cap l→On l→l.length≤1000→lev l<d→
  Calls Tryz.prog 70 #[.slice o l.length cap] w fun e w'=>∃ n:Nv,e=.returned (nv n)∧zas (fun b=>w.heap.size≤b) d w' n l∧Below w.heap.size w w'
 |0,_,_,_,_,_,_,_,h=>absurd h (by omega)
 |d+1,l,o,cap,w,hr,hon,hmax,hd=>by
  by_cases hne:l.length=0
  ·have:l=[]:=List.eq_nil_of_length_eq_zero hne
   subst this;exact zmk d o cap w
  ·cases hlf:leaf l
   ·exact ziT d (zhS d) l o cap w hr hon hmax hlf hd
   ·exact zke d l o cap w hr hon hmax (by omega) hlf
theorem zcP {fn:Func} {p u:Tmp} (h:fn.results=#[.cell p 73,.tmp u]) (tmps:Array Value) (w:World) (g:Nat) (a b c d e x:Value) {t:TypeId}
  (hp:tmps.getD p undef=.pointer (some ⟨g,0,none⟩)) (hu:tmps.getD u undef=x) (hg:w.heap[g]? =some (.cells #[a,b,c,d,e] t (0,0))):(results fn tmps).run Tryz.prog w=.ok (.tuple #[.agg #[a,b,c,d,e],x]) w:=by
 have hp':tmps[p]?.getD undef=.pointer (some ⟨g,0,none⟩):=by simpa using hp
 have hu':tmps[u]?.getD undef=x:=by simpa using hu
 have c0:w.cell? ⟨g,0,none⟩=some a:=by rw[zr hg];rfl
 have c1:w.cell? ⟨g,1,none⟩=some b:=by rw[zr hg];rfl
 have c2:w.cell? ⟨g,2,none⟩=some c:=by rw[zr hg];rfl
 have c3:w.cell? ⟨g,3,none⟩=some d:=by rw[zr hg];rfl
 have c4:w.cell? ⟨g,4,none⟩=some e:=by rw[zr hg];rfl
 simp[results,h,hp',hu',asAddr,go_sem,c0,c1,c2,c3,c4]
theorem zhT (l:List Rw) (o:Option Addr) (cap:Nat) (w:World) (hr:zac w o cap l) (h:zaG l=false):
  Calls Tryz.prog 36 #[.slice o l.length cap] w fun e w'=>e=.returned (.tuple #[nv ⟨0,0,0,none,0,0,none,0,0⟩,.int .i64 80])∧Below w.heap.size w w':=by
 have hbn:=zaa w (.cells #[.int .u32 0,.int .u32 0,.int .i64 0,.slice none 0 0,.slice none 0 0] 73);have HC:Hid _:=zdd l o cap _ (hr.below hbn zn);rw[h] at HC;have HBn:Hid _:=hbn;have HG:Hid _:=zq w (.cells #[.int .u32 0,.int .u32 0,.int .i64 0,.slice none 0 0,.slice none 0 0] 73);clear hr h hbn;go_enter Tryz.func36,Tryz.ntmps36;go_wp2_with fail;refine Calls.mono HC.out ?_;rintro e W1 ⟨rfl,b1⟩;have hg:W1.heap[w.heap.size]? =some (.cells #[.int .u32 0,.int .u32 0,.int .i64 0,.slice none 0 0,.slice none 0 0] 73 (0,0)):=(b1.block _ (by simp)).trans HG.out;have HB1:Hid (Below w.heap.size w W1):=HBn.out.trans (b1.mono (by simp));obtain⟨z0,z1,z2,z3,z4,f0,f1,f2,f3,f4⟩:=zbV hg;obtain⟨p1,_,p3⟩:=zcO hg (.int .u32 0) (.int .u32 0) (.int .i64 0) (.slice none 0 0) (.slice none 0 0);have HP1:Hid _:=p1;have HP3:Hid _:=HB1.out.trans p3;clear p1 p3 b1 HC hg;go_wp2_with fail;refine bodyPost_ret (zcP rfl _ _ _ _ _ _ _ _ _ rfl rfl HP1.out) rfl ⟨rfl,HP3.out⟩
theorem zhU (l:List Rw) (o:Option Addr) (cap:Nat) (w:World) (hr:zac w o cap l) (h:zaG l=true):
  Calls Tryz.prog 36 #[.slice o l.length cap] w fun e w'=>∃ n:Nv,e=.returned (.tuple #[nv n,.int .i64 0])∧zas (fun b=>w.heap.size≤b) 32 w' n l∧Below w.heap.size w w':=by
 have hbn:=zaa w (.cells #[.int .u32 0,.int .u32 0,.int .i64 0,.slice none 0 0,.slice none 0 0] 73);have HC:Hid _:=zdd l o cap _ (hr.below hbn zn);have HT:Hid (∀ W,zac W o cap l→_):=fun W hW=>zhS 32 l o cap W hW (zbJ h) ((zaH l).1 h).1 (by have:=zfE (zbJ h);omega)
 rw[h] at HC;have HBn:Hid _:=hbn;have HR:Hid _:=hr;have HG:Hid _:=zq w (.cells #[.int .u32 0,.int .u32 0,.int .i64 0,.slice none 0 0,.slice none 0 0] 73);clear hr h hbn;go_enter Tryz.func36,Tryz.ntmps36;go_wp2_with fail;refine Calls.mono HC.out ?_;rintro e W1 ⟨rfl,b1⟩;have HB1:Hid (Below w.heap.size w W1):=HBn.out.trans (b1.mono (by simp));have HG1:Hid (W1.heap[w.heap.size]? =some (.cells #[.int .u32 0,.int .u32 0,.int .i64 0,.slice none 0 0,.slice none 0 0] 73 (0,0))):=(b1.block _ (by simp)).trans HG.out;have HS1:Hid (w.heap.size<W1.heap.size):=(zi HG1.out).1;clear b1 HC;go_wp2_with fail;refine Calls.mono (HT.out W1 (HR.out.below HB1.out zn)) ?_;rintro e W2 ⟨⟨nX,nY,nL,nro,nrn,nrc,nko,nkn,nkc⟩,rfl,n1,b2⟩;have hg:W2.heap[w.heap.size]? =some (.cells #[.int .u32 0,.int .u32 0,.int .i64 0,.slice none 0 0,.slice none 0 0] 73 (0,0)):=(b2.block _ HS1.out).trans HG1.out;obtain⟨z0,z1,z2,z3,z4,f0,f1,f2,f3,f4⟩:=zbV hg
 obtain⟨p1,p2,p3⟩:=zcO hg (.int .u32 (nX:Int)) (.int .u32 (nY:Int)) (.int .i64 (nL:Int)) (.slice nro nrn nrc) (.slice nko nkn nkc);have HP1:Hid _:=p1;have HP3:Hid (Below w.heap.size w _):=(HB1.out.trans (b2.mono (Nat.le_of_lt HS1.out))).trans p3;have HN:Hid _:=(n1.same (by simp[World.setCell]) (fun b hG _=>p2 b (by have:=HS1.out;omega))).mono fun b _ hG=>(by have:=HS1.out;omega:w.heap.size≤b)
 clear p1 p2 p3 b2 hg n1;go_wp2_with fail;refine bodyPost_ret (zcP rfl _ _ _ _ _ _ _ _ _ rfl rfl HP1.out) rfl ⟨⟨nX,nY,nL,nro,nrn,nrc,nko,nkn,nkc⟩,rfl,HN.out,HP3.out⟩
theorem zmm (o:Option Addr) (n cap r:Nat) (w:World) (hr:r≤cap) (ho:o=none→cap=0):(Instr.sliceAt 22 (.slice o n cap) none (some (.int .i64 (r:Int))) none).run Tryz.prog w=.ok (.slice o r cap) w:=by
 have h1:(r:Int)≤(cap:Int):=by omega
 cases o with
 |none=>
  have:=ho rfl;subst this;obtain rfl:r=0:=by omega
  simp[Instr.sliceAt,Instr.slice,run_underlying Tryz.underlying22,go_sem]
 |some a=>
  simp[Instr.sliceAt,Instr.slice,run_underlying Tryz.underlying22,go_sem];intro h;omega
end Rq
end Go.Proofs.YtokfnghckpgjmaaGreatDoor
