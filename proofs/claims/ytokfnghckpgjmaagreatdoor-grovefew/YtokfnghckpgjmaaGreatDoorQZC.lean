import Derived.Test.YtokfnghckpgjmaaGreatDoorPPo
import Derived.Test.YtokfnghckpgjmaaGreatDoorPPk
import Derived.Test.YtokfnghckpgjmaaGreatDoorQA
import Derived.Deep.RegionHeld3
import Derived.Test.YtokfnghckpgjmaaGreatDoorPPm
set_option maxRecDepth 100000
set_option maxHeartbeats 1000000
namespace Go.Proofs.YtokfnghckpgjmaaGreatDoor
namespace Ra
open Go.RowKit
def qtk (f:Nat→Int) (k:Nat):Nat→Int:=
 match k with
 |0=>qt f 0 4 8 12
 |1=>qt f 1 5 9 13
 |2=>qt f 2 6 10 14
 |3=>qt f 3 7 11 15
 |4=>qt f 0 5 10 15
 |5=>qt f 1 6 11 12
 |6=>qt f 2 7 8 13
 |_=>qt f 3 4 9 14
def oT (f:Nat→Int):Nat→Nat→Int
 |0=>f
 |k+1=>qtk (oT f k) k
theorem nW {w1 w2 w3:World} {r:Option Nat} (h1:w1.grownBy w2 r) (h2:w2.grownBy w3 r):w1.grownBy w3 r:=
 ⟨h2.os.trans h1.os,h2.tape.trans h1.tape,h2.output.trans h1.output,Nat.le_trans h1.size h2.size,fun k hk hne=>(h2.block k (Nat.lt_of_lt_of_le hk h1.size) hne).trans (h1.block k hk hne)⟩
theorem dK (w:World) (a:Addr) (v:Value):(w.setCell a v).heap.size=w.heap.size:=by simp[World.setCell]
theorem zey (W:World) (k:Nat) (h:k<W.heap.size) (o1 o2 o3:Obj):(((W.alloc o1).alloc o2).alloc o3).heap[k]? =W.heap[k]? :=by
 rw[Below.heap_alloc _ _ _ (by simp;omega),Below.heap_alloc _ _ _ (by simp;omega),Below.heap_alloc _ _ _ h]
theorem nZ (w:World) (B a:Nat) (f:Nat→Int) (x:Int) (hb:w.heap[B]? =some (.cells (cI f) 280 (0,0))) (ha:a<16):
  (w.setCell ⟨B,a,none⟩ (.int .u32 x)).heap[B]? =some (.cells (cI (upd f a x)) 280 (0,0)):=by
 rw[zx w B a _ _ _ hb,znZ _ _ _ ha]
theorem zhO (wr:World) (B a b c d:Nat) (f:Nat→Int) (x y z v:Int) (hb:wr.heap[B]? =some (.cells (cI f) 280 (0,0))) (ha:a<16) (hb':b<16) (hc:c<16) (hd:d<16):
  ((((wr.setCell ⟨B,a,none⟩ (.int .u32 x)).setCell ⟨B,b,none⟩ (.int .u32 y)).setCell ⟨B,c,none⟩ (.int .u32 z)).setCell ⟨B,d,none⟩ (.int .u32 v)).heap[B]? =some (.cells (cI (upd (upd (upd (upd f a x) b y) c z) d v)) 280 (0,0))∧
  wr.grownBy ((((wr.setCell ⟨B,a,none⟩ (.int .u32 x)).setCell ⟨B,b,none⟩ (.int .u32 y)).setCell ⟨B,c,none⟩ (.int .u32 z)).setCell ⟨B,d,none⟩ (.int .u32 v)) (some B)∧
  ((((wr.setCell ⟨B,a,none⟩ (.int .u32 x)).setCell ⟨B,b,none⟩ (.int .u32 y)).setCell ⟨B,c,none⟩ (.int .u32 z)).setCell ⟨B,d,none⟩ (.int .u32 v)).heap.size=wr.heap.size:=by
 refine⟨nZ _ _ _ _ _ (nZ _ _ _ _ _ (nZ _ _ _ _ _ (nZ _ _ _ _ _ hb ha) hb') hc) hd,⟨rfl,rfl,rfl,?_,fun k hk hne=>?_⟩,?_⟩
 ·rw[dK,dK,dK,dK];exact Nat.le_refl _
 ·have hne':k≠B:=fun e=>hne (by rw[e])
  rw[Below.heap_setCell _ _ _ _ hne',Below.heap_setCell _ _ _ _ hne',Below.heap_setCell _ _ _ _ hne',Below.heap_setCell _ _ _ _ hne']
 ·rw[dK,dK,dK,dK]
theorem zjW {wr W:World} {B:Nat} {f:Nat→Int} (h:W.heap[B]? =some (.cells (cI f) 280 (0,0))∧wr.grownBy W (some B)∧W.heap.size=wr.heap.size) (o1 o2 o3:Obj):
  (((W.alloc o1).alloc o2).alloc o3).drew.drew.heap[B]? =some (.cells (cI f) 280 (0,0))∧wr.grownBy (((W.alloc o1).alloc o2).alloc o3).drew.drew (some B):=by
 have hlt:B<W.heap.size:=(zi h.1).1;refine⟨(zey W B hlt o1 o2 o3).trans h.1,⟨h.2.1.os,h.2.1.tape,h.2.1.output,?_,fun k hk hne=>(zey W k uo o1 o2 o3).trans (h.2.1.block k hk hne)⟩⟩;show wr.heap.size≤(((W.alloc o1).alloc o2).alloc o3).heap.size;simp;omega
theorem zqe (k:Nat) (hk:k<8):∃ a b c d:Nat,a<16∧b<16∧c<16∧d<16∧a≠b∧a≠c∧a≠d∧b≠c∧b≠d∧c≠d∧(∀ f,qtk f k=qt f a b c d)∧
  ∀ w,(Instr.index 346 (.agg tab) (.int .i64 (k:Int))).run Tryz.prog w=.ok (.agg #[.int .i64 (a:Int),.int .i64 (b:Int),.int .i64 (c:Int),.int .i64 (d:Int)]) w:=
 match k,hk with
 |0,_=>⟨0,4,8,12,by decide,by decide,by decide,by decide,by decide,by decide,by decide,by decide,by decide,by decide,fun _=>rfl,fun _=>by kernel_rfl⟩
 |1,_=>⟨1,5,9,13,by decide,by decide,by decide,by decide,by decide,by decide,by decide,by decide,by decide,by decide,fun _=>rfl,fun _=>by kernel_rfl⟩
 |2,_=>⟨2,6,10,14,by decide,by decide,by decide,by decide,by decide,by decide,by decide,by decide,by decide,by decide,fun _=>rfl,fun _=>by kernel_rfl⟩
 |3,_=>⟨3,7,11,15,by decide,by decide,by decide,by decide,by decide,by decide,by decide,by decide,by decide,by decide,fun _=>rfl,fun _=>by kernel_rfl⟩
 |4,_=>⟨0,5,10,15,by decide,by decide,by decide,by decide,by decide,by decide,by decide,by decide,by decide,by decide,fun _=>rfl,fun _=>by kernel_rfl⟩
 |5,_=>⟨1,6,11,12,by decide,by decide,by decide,by decide,by decide,by decide,by decide,by decide,by decide,by decide,fun _=>rfl,fun _=>by kernel_rfl⟩
 |6,_=>⟨2,7,8,13,by decide,by decide,by decide,by decide,by decide,by decide,by decide,by decide,by decide,by decide,fun _=>rfl,fun _=>by kernel_rfl⟩
 |7,_=>⟨3,4,9,14,by decide,by decide,by decide,by decide,by decide,by decide,by decide,by decide,by decide,by decide,fun _=>rfl,fun _=>by kernel_rfl⟩
 |k+8,h=>absurd h uo
theorem zjX (f:Nat→Int) (B:Nat) (w:World) (hB:w.heap[B]? =some (.cells (cI f) 280 (0,0))) {tt:TypeId} {fr:Nat × Nat} (hg:w.heap[2]? =some (.cells tab tt fr)):
  Calls Tryz.prog 264 #[.pointer (some ⟨B,0,none⟩)] w fun e w'=>e=.returned (.tuple #[])∧w'.heap[B]? =some (.cells (cI (rnd f)) 280 (0,0))∧w.grownBy w' (some B):=by
 go_enter Tryz.func264,Tryz.ntmps264
 go_wp2_with (refine wpList_load_row rfl 346 _ rfl 2 rfl tt _ fr _ hg Tryz.underlying346 rfl uk ?_)
 clear hg
 go_loopw [6] (fun i wr=>∃ k:Nat,k≤8∧i=.int .i64 k∧wr.heap[B]? =some (.cells (cI (oT f k)) 280 (0,0))∧w.grownBy wr (some B)) (fun i _=>8 - (intOf i).toNat)
 case atStart=>exact⟨0,by omega,rfl,hB,⟨rfl,rfl,rfl,Nat.le_refl _,fun _ _ _=>rfl⟩⟩
 case round=>
  obtain⟨k,hk,rfl,hb,hgr⟩:=hrel;clear hB;by_cases hlt:k<8
  ·obtain⟨a,b,c,d,ha,hb',hc,hd,nab,nac,nad,nbc,nbd,ncd,hqt,hidx⟩:=zqe k hlt
   have HQ:Hid (oT f (k+1)=qt (oT f k) a b c d):=hqt _;clear hqt;generalize oT f k=F at*
   have Ha:=ha;have Hb:=hb';have Hc:=hc;have Hd:=hd;have ca:=(cell_of_row wr B a _ _ _ hb).trans (nO F a Ha);have za:=frozen_of_row wr B a _ _ hb;have ga:(0:Int)≤(a:Int):=uo
   have ea:(a:Int)<16:=uo
   have cb:=(cell_of_row wr B b _ _ _ hb).trans (nO F b Hb);have zb:=frozen_of_row wr B b _ _ hb;have gb:(0:Int)≤(b:Int):=uo
   have eb:(b:Int)<16:=uo
   have cc:=(cell_of_row wr B c _ _ _ hb).trans (nO F c Hc);have zc:=frozen_of_row wr B c _ _ hb;have gc:(0:Int)≤(c:Int):=uo
   have ec:(c:Int)<16:=uo
   have cd:=(cell_of_row wr B d _ _ _ hb).trans (nO F d Hd);have zd:=frozen_of_row wr B d _ _ hb;have gd:(0:Int)≤(d:Int):=uo
   have ed:(d:Int)<16:=uo
   have l0:B<wr.heap.size:=block_lt_of_cell ca;have l1:B<wr.heap.size+1:=Nat.lt_succ_of_lt l0;have l2:B<wr.heap.size+1+1:=Nat.lt_succ_of_lt l1;have l3:B<wr.heap.size+1+1+1:=Nat.lt_succ_of_lt l2;have HB:Hid (wr.heap[B]? =some (.cells (cI F) 280 (0,0))):=hb;have HG:Hid (w.grownBy wr (some B)):=hgr;clear hb hgr
   go_wp2
   go_region_held3 (fun w'=>w'.cell? ⟨wr.heap.size,0,none⟩=some (.int .i64 (a:Int))∧w'.cell? ⟨wr.heap.size,1,none⟩=some (.int .i64 (b:Int))∧w'.cell? ⟨wr.heap.size,2,none⟩=some (.int .i64 (c:Int))∧w'.cell? ⟨wr.heap.size,3,none⟩=some (.int .i64 (d:Int))∧w'.cell? ⟨B,a,none⟩=some (.int .u32 (F a))∧w'.cell? ⟨B,b,none⟩=some (.int .u32 (F b))∧w'.cell? ⟨B,c,none⟩=some (.int .u32 (F c))∧w'.cell? ⟨B,d,none⟩=some (.int .u32 (F d))) (simp[*,go_sem,World.cell?_alloc_past]) ((go_at_call 276;refine(zgO _ _ _ _ _).mono ?_;rintro e w' ⟨rfl,rfl⟩))
   all_goals go_wp2
   all_goals go_region_held3 (fun w'=>w'.cell? ⟨wr.heap.size,0,none⟩=some (.int .i64 (a:Int))∧w'.cell? ⟨wr.heap.size,1,none⟩=some (.int .i64 (b:Int))∧w'.cell? ⟨wr.heap.size,2,none⟩=some (.int .i64 (c:Int))∧w'.cell? ⟨wr.heap.size,3,none⟩=some (.int .i64 (d:Int))∧w'.cell? ⟨wr.heap.size+1,0,none⟩=some (.int .u32 (qa (F a) (F b) (F c) (F d)))∧w'.cell? ⟨wr.heap.size+1,1,none⟩=some (.int .u32 (qb (F a) (F b) (F c) (F d)))∧w'.cell? ⟨wr.heap.size+1,2,none⟩=some (.int .u32 (qc (F a) (F b) (F c) (F d)))∧w'.cell? ⟨wr.heap.size+1,3,none⟩=some (.int .u32 (qd (F a) (F b) (F c) (F d)))∧w'.cell? ⟨wr.heap.size+1+1,0,none⟩=some (.int .u32 (qa (F a) (F b) (F c) (F d)))∧w'.cell? ⟨wr.heap.size+1+1,1,none⟩=some (.int .u32 (qb (F a) (F b) (F c) (F d)))∧w'.cell? ⟨wr.heap.size+1+1,2,none⟩=some (.int .u32 (qc (F a) (F b) (F c) (F d)))∧w'.cell? ⟨wr.heap.size+1+1,3,none⟩=some (.int .u32 (qd (F a) (F b) (F c) (F d)))) (simp[*,go_sem,World.cell?_alloc_past]) (fail)
   all_goals go_wp2
   all_goals exact⟨⟨k+1,by omega,by go_num,by rw[HQ.o];exact(zjW (zhO wr B a b c d F _ _ _ _ HB.o Ha Hb Hc Hd) _ _ _).1,nW HG.o (zjW (zhO wr B a b c d F _ _ _ _ HB.o Ha Hb Hc Hd) _ _ _).2⟩,by simp[intOf];omega⟩
  ·have:k=8:=uo
   subst this
   go_wp2
   go_end0
   exact⟨rfl,hb,hgr⟩
theorem zjY {W:World} {a:Addr} {v:Value} (o:Obj) (h:W.cell? a=some v):(W.alloc o).cell? a=some v:=
 (World.cell?_of_block (w:=W) (Below.heap_alloc W o a.block (block_lt_of_cell h))).trans h
theorem zn5 (w:World) (r:Option Nat):w.grownBy w r:=⟨rfl,rfl,rfl,Nat.le_refl _,fun _ _ _=>rfl⟩
theorem zqf {w W:World} {r:Option Nat} (h:w.grownBy W r) (o:Obj):w.grownBy (W.alloc o) r:=
 ⟨h.os,h.tape,h.output,by have:=h.size;simp;omega,fun k hk hne=>(Below.heap_alloc _ _ _ (Nat.lt_of_lt_of_le hk h.size)).trans (h.block k hk hne)⟩
theorem zqg {w W:World} {r:Option Nat} (h:w.grownBy W r):w.grownBy W.drew r:=⟨h.os,h.tape,h.output,h.size,h.block⟩
end Ra
end Go.Proofs.YtokfnghckpgjmaaGreatDoor
