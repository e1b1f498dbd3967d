import Derived.Test.YtokfnghckpgjmaaGreatDoorPPo
import Derived.Test.YtokfnghckpgjmaaGreatDoorPPk
import Derived.Test.YtokfnghckpgjmaaGreatDoorQZC
import Derived.Laws.CopyOwn
set_option maxRecDepth 100000
set_option maxHeartbeats 1000000
namespace Go.Proofs.YtokfnghckpgjmaaGreatDoor
namespace Ra
open Go.RowKit
theorem iY (w:World) (a b c:Obj):(((w.alloc a).alloc b).alloc c).drew.heap[w.heap.size]? =some a∧(((w.alloc a).alloc b).alloc c).drew.heap[w.heap.size+1]? =some b∧
  (((w.alloc a).alloc b).alloc c).drew.heap[w.heap.size+1+1]? =some c∧(((w.alloc a).alloc b).alloc c).drew.heap.size=w.heap.size+3∧Below w.heap.size w (((w.alloc a).alloc b).alloc c).drew:=by
 refine⟨?_,?_,?_,by simp[World.drew],(((((Below.refl _ w).alloc zn _).alloc us _).alloc (by simp;omega) _).drew)⟩
 ·show(((w.alloc a).alloc b).alloc c).heap[w.heap.size]? =some a
  rw[Below.heap_alloc _ _ _ (by simp;omega),Below.heap_alloc _ _ _ us];exact zq w a
 ·show(((w.alloc a).alloc b).alloc c).heap[w.heap.size+1]? =some b
  rw[Below.heap_alloc _ _ _ us];simpa using zq (w.alloc a) b
 ·show(((w.alloc a).alloc b).alloc c).heap[w.heap.size+1+1]? =some c
  simpa using zq ((w.alloc a).alloc b) c
theorem pw (f:Nat→Int):(cI f).all (·.oneCell')=true:=by simp[cI,Value.oneCell']
theorem zmn (f:Nat→Int) (w:World) (o:Obj) (old:Array Value) (hold:old.size=16):
  Sem.run Tryz.prog (Builtin.copy_ #[90,90] 3 #[.slice (some ⟨w.heap.size+1+1,0,none⟩) 16 16,.slice (some ⟨w.heap.size,0,none⟩) 16 16])
   (((w.alloc (.cells (cI f) 280 (0,0))).alloc o).alloc (.cells old 280 (0,0))).drew=.ok (.int .i64 16) ((((w.alloc (.cells (cI f) 280 (0,0))).alloc o).alloc (.cells old 280 (0,0))).drew.setRow (w.heap.size+1+1) (cI f)):=by
 have h3:=iY w (.cells (cI f) 280 (0,0)) o (.cells old 280 (0,0))
 rw[run_copy_row (P:=Tryz.prog) _ 90 90 3 41 (w.heap.size+1+1) 0 16 16 ⟨w.heap.size,0,none⟩ 16 16 old 280 (cI f).toList Tryz.underlying90 uk h3.2.2.1 rfl
  (fun j v hj=>by
   rw[Addr.add_lit,zr h3.1,Nat.zero_add];simpa using hj)
  (by simp[hold,cI]) (fun v hv=>by
   have:=(Array.all_eq_true_iff_forall_mem.1 (pw f)) v (by simpa using hv);simpa using this)]
 have e:(old.toList.take 0++(cI f).toList++old.toList.drop (0+(cI f).toList.length)).toArray=cI f:=by
  have h0:old.toList.drop (0+(cI f).toList.length)=[]:=List.drop_eq_nil_of_le (by simp[hold,cI]);rw[h0];simp
 rw[e];rfl
theorem zpy (f:Nat→Int) (k:Nat) (hk:k<16) (w:World):(Instr.index 280 (.agg (cI f)) (.int .i64 (k:Int))).run Tryz.prog w=.ok (.int .u32 (f k)) w:=
 match k,hk with
 |0,_=>by kernel_rfl
 |1,_=>by kernel_rfl
 |2,_=>by kernel_rfl
 |3,_=>by kernel_rfl
 |4,_=>by kernel_rfl
 |5,_=>by kernel_rfl
 |6,_=>by kernel_rfl
 |7,_=>by kernel_rfl
 |8,_=>by kernel_rfl
 |9,_=>by kernel_rfl
 |10,_=>by kernel_rfl
 |11,_=>by kernel_rfl
 |12,_=>by kernel_rfl
 |13,_=>by kernel_rfl
 |14,_=>by kernel_rfl
 |15,_=>by kernel_rfl
 |k+16,h=>absurd h uo
def lC (f:Nat→Int) (k:Nat):Nat→Int:=fun i=>if i<k then(gA f 10 i+f i)%4294967296 else gA f 10 i
theorem ziU (f:Nat→Int) (k:Nat):lC f (k+1)=upd (lC f k) k ((gA f 10 k+f k)%4294967296):=by
 funext i
 unfold lC upd;by_cases h:i=k
 ·subst h;simp
 ·have:(i<k+1)=(i<k):=by simp;omega
  simp[h,this]
theorem zmo (f:Nat→Int) (k:Nat):lC f k k=gA f 10 k:=by simp[lC]
theorem rh (f:Nat→Int) (w:World) {tt:TypeId} {fr:Nat × Nat} (hg:w.heap[2]? =some (.cells tab tt fr)):
  Calls Tryz.prog 244 #[.agg (cI f)] w fun e w'=>e=.returned (.agg (cI (dl f)))∧Below w.heap.size w w':=by
 have HG:Hid (w.heap[2]? =some (.cells tab tt fr)):=hg;have hw0:2<w.heap.size:=(zi hg).1;clear hg;have hcp:=zmn f w (.cells (cI fun _=>0) 280 (0,0)) (cI fun _=>0) rfl;simp only[show(cI fun _=>0)=#[.int .u32 0,.int .u32 0,.int .u32 0,.int .u32 0,.int .u32 0,.int .u32 0,.int .u32 0,.int .u32 0,.int .u32 0,.int .u32 0,.int .u32 0,.int .u32 0,.int .u32 0,.int .u32 0,.int .u32 0,.int .u32 0] from rfl] at hcp;go_enter Tryz.func244,Tryz.ntmps244
 go_wp2
 go_region
 go_wp2
 clear hcp
 go_loopw [9] (fun i wr=>∃ k:Nat,k≤10∧i=.int .i64 k∧wr.heap[w.heap.size]? =some (.cells (cI f) 280 (0,0))∧wr.heap[w.heap.size+1]? =some (.cells (cI fun _=>0) 280 (0,0))∧wr.heap[w.heap.size+1+1]? =some (.cells (cI (gA f k)) 280 (0,0))∧Below w.heap.size w wr) (fun i _=>10 - (intOf i).toNat)
 case atStart=>
  have h3:=iY w (.cells (cI f) 280 (0,0)) (.cells (cI fun _=>0) 280 (0,0)) (.cells (cI fun _=>0) 280 (0,0));exact⟨0,by omega,rfl,(setRow_other _ _ _ _ uo).trans h3.1,(setRow_other _ _ _ _ uo).trans h3.2.1,setRow_heap _ _ _ _ _ _ h3.2.2.1,below_setRow h3.2.2.2.2 uo _⟩
 case round=>
  obtain⟨k,hk,rfl,hS,hR,hB,hbl⟩:=hrel;have HS:Hid (wr.heap[w.heap.size]? =some (.cells (cI f) 280 (0,0))):=hS;have HR:Hid (wr.heap[w.heap.size+1]? =some (.cells (cI fun _=>0) 280 (0,0))):=hR;have HB:Hid (wr.heap[w.heap.size+1+1]? =some (.cells (cI (gA f k)) 280 (0,0))):=hB;have hsz:w.heap.size+1+1<wr.heap.size:=(zi hB).1;have H0:Hid (wr.heap[2]? =some (.cells tab tt fr)):=(hbl.block 2 hw0).trans HG.o;clear hS hR hB;by_cases hlt:k<10
  ·go_wp2_with fail
   refine(zjX _ _ _ HB.o H0.o).mono ?_;rintro e w1 ⟨rfl,hb1,hg1⟩;have HB1:Hid (w1.heap[w.heap.size+1+1]? =some (.cells (cI (gA f (k+1))) 280 (0,0))):=hb1;have HS1:Hid (w1.heap[w.heap.size]? =some (.cells (cI f) 280 (0,0))):=(hg1.block _ uo (by simp;omega)).trans HS.o;have HR1:Hid (w1.heap[w.heap.size+1]? =some (.cells (cI fun _=>0) 280 (0,0))):=(hg1.block _ uo us).trans HR.o;have hbl1:=hbl.grown hg1 uo (fun j e=>by cases e;omega);clear hb1 hg1 HS HR HB hbl
   go_wp2
   exact⟨⟨k+1,by omega,by go_num,HS1.o,HR1.o,HB1.o,hbl1⟩,by simp[intOf];omega⟩
  ·obtain rfl:k=10:=uo
   clear hk
   go_wp2_with (refine wpList_load_row rfl 280 _ rfl w.heap.size rfl 280 _ (0,0) _ HS.o Tryz.underlying280 rfl uk ?_)
   have hR:=HR.o;have hB:=HB.o;clear HS HR HB H0 hsz HG
   go_loopw [14] (fun i wr=>∃ k:Nat,k≤16∧i=.int .i64 k∧wr.heap[w.heap.size+1]? =some (.cells (cI fun _=>0) 280 (0,0))∧wr.heap[w.heap.size+1+1]? =some (.cells (cI (lC f k)) 280 (0,0))∧Below w.heap.size w wr) (fun i _=>16 - (intOf i).toNat)
   case atStart=>exact⟨0,by omega,rfl,hR,hB,hbl⟩
   case round=>
    clear hR hB hbl;obtain⟨k,hk,rfl,hR,hB,hbl⟩:=hrel;have HR:Hid (wr.heap[w.heap.size+1]? =some (.cells (cI fun _=>0) 280 (0,0))):=hR;have HB:Hid (wr.heap[w.heap.size+1+1]? =some (.cells (cI (lC f k)) 280 (0,0))):=hB;have HL:Hid (Below w.heap.size w wr):=hbl;clear hR hbl;by_cases hlt:k<16
    ·have hc:wr.cell? ⟨w.heap.size+1+1,k,none⟩=some (.int .u32 (gA f 10 k)):=by
      rw[zr hB,nO _ _ hlt,zmo]
     have hz:=frozen_of_row _ _ k _ _ hB;have hix:=zpy f k hlt;have g0:(0:Int)≤(k:Int):=uo
     have g1:(k:Int)<16:=uo
     clear hB
     go_wp2
     have fB:(wr.setCell ⟨w.heap.size+1+1,k,none⟩ (.int .u32 ((gA f 10 k+f k)%4294967296))).heap[w.heap.size+1+1]? =some (.cells (cI (lC f (k+1))) 280 (0,0)):=by
      rw[ziU];exact nZ _ _ _ _ _ HB.o hlt
     exact⟨⟨k+1,by omega,by go_num,(Below.heap_setCell _ _ _ _ us).trans HR.o,fB,HL.o.setCell (by simp;omega) _⟩,by simp[intOf];omega⟩
    ·obtain rfl:k=16:=uo
     clear hB hk
     go_wp2_with (first|(refine wpList_load_row rfl 280 _ rfl (w.heap.size+1+1) rfl 280 _ (0,0) _ HB.o Tryz.underlying280 rfl uk ?_)|(refine wpList_store_row rfl 280 _ _ rfl (w.heap.size+1) _ rfl rfl 280 _ HR.o (by rw[jO];kernel_rfl) (by rw[jO,jO]) (pw _) ?_))
     refine bodyPost_ret (results_cell_row Tryz.results244 _ _ (w.heap.size+1) 280 _ (0,0) _ rfl (setRow_heap _ _ _ _ _ _ HR.o) Tryz.underlying280 rfl uk) rfl ⟨?_,below_setRow HL.o uo _⟩;have e:cI (lC f 16)=cI (dl f):=zjB fun i hi=>by simp[lC,dl,hi]
     rw[e]
end Ra
end Go.Proofs.YtokfnghckpgjmaaGreatDoor
