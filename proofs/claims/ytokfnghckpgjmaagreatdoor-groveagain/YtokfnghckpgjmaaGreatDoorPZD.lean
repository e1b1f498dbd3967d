import Derived.Test.YtokfnghckpgjmaaGreatDoorQZC
import Derived.Laws.CopyOwn
set_option maxRecDepth 100000
set_option maxHeartbeats 1000000
namespace Go.Proofs.YtokfnghckpgjmaaGreatDoor
namespace Ra
open Go.RowKit
theorem zaE (w:World) (a b c:Obj):(((w.alloc a).alloc b).alloc c).drew.heap[w.heap.size]? =some a∧(((w.alloc a).alloc b).alloc c).drew.heap[w.heap.size+1]? =some b∧
  (((w.alloc a).alloc b).alloc c).drew.heap[w.heap.size+1+1]? =some c∧(((w.alloc a).alloc b).alloc c).drew.heap.size=w.heap.size+3∧Below w.heap.size w (((w.alloc a).alloc b).alloc c).drew:=by
 refine⟨?_,?_,?_,by simp[World.drew],(((((Below.refl _ w).alloc zn _).alloc (by simp) _).alloc (by simp;omega) _).drew)⟩
 ·show(((w.alloc a).alloc b).alloc c).heap[w.heap.size]? =some a
  rw[Below.heap_alloc _ _ _ (by simp;omega),Below.heap_alloc _ _ _ (by simp)];exact zq w a
 ·show(((w.alloc a).alloc b).alloc c).heap[w.heap.size+1]? =some b
  rw[Below.heap_alloc _ _ _ (by simp)];simpa using zq (w.alloc a) b
 ·show(((w.alloc a).alloc b).alloc c).heap[w.heap.size+1+1]? =some c
  simpa using zq ((w.alloc a).alloc b) c
theorem zfe (f:Nat→Int):(stc f).all (·.oneCell')=true:=by simp[stc,Value.oneCell']
theorem zmn (f:Nat→Int) (w:World) (o:Obj) (old:Array Value) (hold:old.size=16):
  Sem.run Tryz.prog (Builtin.copy_ #[90,90] 3 #[.slice (some ⟨w.heap.size+1+1,0,none⟩) 16 16,.slice (some ⟨w.heap.size,0,none⟩) 16 16])
   (((w.alloc (.cells (stc f) 280 (0,0))).alloc o).alloc (.cells old 280 (0,0))).drew=.ok (.int .i64 16) ((((w.alloc (.cells (stc f) 280 (0,0))).alloc o).alloc (.cells old 280 (0,0))).drew.setRow (w.heap.size+1+1) (stc f)):=by
 have h3:=zaE w (.cells (stc f) 280 (0,0)) o (.cells old 280 (0,0))
 rw[run_copy_row (P:=Tryz.prog) _ 90 90 3 41 (w.heap.size+1+1) 0 16 16 ⟨w.heap.size,0,none⟩ 16 16 old 280 (stc f).toList Tryz.underlying90 (by kernel_rfl) h3.2.2.1 rfl
  (fun j v hj=>by
   rw[Addr.add_lit,zr h3.1,Nat.zero_add];simpa using hj)
  (by simp[hold,stc]) (fun v hv=>by
   have:=(Array.all_eq_true_iff_forall_mem.1 (zfe f)) v (by simpa using hv);simpa using this)]
 have e:(old.toList.take 0++(stc f).toList++old.toList.drop (0+(stc f).toList.length)).toArray=stc f:=by
  have h0:old.toList.drop (0+(stc f).toList.length)=[]:=List.drop_eq_nil_of_le (by simp[hold,stc]);rw[h0];simp
 rw[e];rfl
theorem zpy (f:Nat→Int) (k:Nat) (hk:k<16) (w:World):(Instr.index 280 (.agg (stc f)) (.int .i64 (k:Int))).run Tryz.prog w=.ok (.int .u32 (f k)) w:=
 match k,hk with
 |0,_=>by kernel_rfl
 |1,_=>by kernel_rfl
 |2,_=>by kernel_rfl
 |3,_=>by kernel_rfl
 |4,_=>by kernel_rfl
 |5,_=>by kernel_rfl
 |6,_=>by kernel_rfl
 |7,_=>by kernel_rfl
 |8,_=>by kernel_rfl
 |9,_=>by kernel_rfl
 |10,_=>by kernel_rfl
 |11,_=>by kernel_rfl
 |12,_=>by kernel_rfl
 |13,_=>by kernel_rfl
 |14,_=>by kernel_rfl
 |15,_=>by kernel_rfl
 |k+16,h=>absurd h (by omega)
def zem (f:Nat→Int) (k:Nat):Nat→Int:=fun i=>if i<k then(rnds f 10 i+f i)%4294967296 else rnds f 10 i
theorem ziU (f:Nat→Int) (k:Nat):zem f (k+1)=upd (zem f k) k ((rnds f 10 k+f k)%4294967296):=by
 funext i
 unfold zem upd;by_cases h:i=k
 ·subst h;simp
 ·have:(i<k+1)=(i<k):=by simp;omega
  simp[h,this]
theorem zmo (f:Nat→Int) (k:Nat):zem f k k=rnds f 10 k:=by simp[zem]
theorem zdU (f:Nat→Int) (w:World) {tt:TypeId} {fr:Nat × Nat} (hg:w.heap[2]? =some (.cells tab tt fr)):
  Calls Tryz.prog 244 #[.agg (stc f)] w fun e w'=>e=.returned (.agg (stc (blk f)))∧Below w.heap.size w w':=by
 have HG:Hid (w.heap[2]? =some (.cells tab tt fr)):=hg;have hw0:2<w.heap.size:=(zi hg).1;clear hg;have hcp:=zmn f w (.cells (stc fun _=>0) 280 (0,0)) (stc fun _=>0) rfl;simp only[show(stc fun _=>0)=#[.int .u32 0,.int .u32 0,.int .u32 0,.int .u32 0,.int .u32 0,.int .u32 0,.int .u32 0,.int .u32 0,.int .u32 0,.int .u32 0,.int .u32 0,.int .u32 0,.int .u32 0,.int .u32 0,.int .u32 0,.int .u32 0] from rfl] at hcp;go_enter Tryz.func244,Tryz.ntmps244
 go_wp2
 go_region
 go_wp2
 clear hcp
 go_loopw [9] (fun i wr=>∃ k:Nat,k≤10∧i=.int .i64 k∧wr.heap[w.heap.size]? =some (.cells (stc f) 280 (0,0))∧wr.heap[w.heap.size+1]? =some (.cells (stc fun _=>0) 280 (0,0))∧wr.heap[w.heap.size+1+1]? =some (.cells (stc (rnds f k)) 280 (0,0))∧Below w.heap.size w wr) (fun i _=>10 - (intOf i).toNat)
 case atStart=>
  have h3:=zaE w (.cells (stc f) 280 (0,0)) (.cells (stc fun _=>0) 280 (0,0)) (.cells (stc fun _=>0) 280 (0,0));exact⟨0,by omega,rfl,(setRow_other _ _ _ _ (by omega)).trans h3.1,(setRow_other _ _ _ _ (by omega)).trans h3.2.1,setRow_heap _ _ _ _ _ _ h3.2.2.1,below_setRow h3.2.2.2.2 (by omega) _⟩
 case round=>
  obtain⟨k,hk,rfl,hS,hR,hB,hbl⟩:=hrel;have HS:Hid (wr.heap[w.heap.size]? =some (.cells (stc f) 280 (0,0))):=hS;have HR:Hid (wr.heap[w.heap.size+1]? =some (.cells (stc fun _=>0) 280 (0,0))):=hR;have HB:Hid (wr.heap[w.heap.size+1+1]? =some (.cells (stc (rnds f k)) 280 (0,0))):=hB;have hsz:w.heap.size+1+1<wr.heap.size:=(zi hB).1;have H0:Hid (wr.heap[2]? =some (.cells tab tt fr)):=(hbl.block 2 hw0).trans HG.out;clear hS hR hB;by_cases hlt:k<10
  ·go_wp2_with fail
   refine(zjX _ _ _ HB.out H0.out).mono ?_;rintro e w1 ⟨rfl,hb1,hg1⟩;have HB1:Hid (w1.heap[w.heap.size+1+1]? =some (.cells (stc (rnds f (k+1))) 280 (0,0))):=hb1;have HS1:Hid (w1.heap[w.heap.size]? =some (.cells (stc f) 280 (0,0))):=(hg1.block _ (by omega) (by simp;omega)).trans HS.out;have HR1:Hid (w1.heap[w.heap.size+1]? =some (.cells (stc fun _=>0) 280 (0,0))):=(hg1.block _ (by omega) (by simp)).trans HR.out;have hbl1:=hbl.grown hg1 (by omega) (fun j e=>by cases e;omega);clear hb1 hg1 HS HR HB hbl
   go_wp2
   exact⟨⟨k+1,by omega,by go_num,HS1.out,HR1.out,HB1.out,hbl1⟩,by simp[intOf];omega⟩
  ·obtain rfl:k=10:=by omega
   clear hk
   go_wp2_with (refine wpList_load_row rfl 280 _ rfl w.heap.size rfl 280 _ (0,0) _ HS.out Tryz.underlying280 rfl (by kernel_rfl) ?_)
   have hR:=HR.out;have hB:=HB.out;clear HS HR HB H0 hsz HG
   go_loopw [14] (fun i wr=>∃ k:Nat,k≤16∧i=.int .i64 k∧wr.heap[w.heap.size+1]? =some (.cells (stc fun _=>0) 280 (0,0))∧wr.heap[w.heap.size+1+1]? =some (.cells (stc (zem f k)) 280 (0,0))∧Below w.heap.size w wr) (fun i _=>16 - (intOf i).toNat)
   case atStart=>exact⟨0,by omega,rfl,hR,hB,hbl⟩
   case round=>
    clear hR hB hbl;obtain⟨k,hk,rfl,hR,hB,hbl⟩:=hrel;have HR:Hid (wr.heap[w.heap.size+1]? =some (.cells (stc fun _=>0) 280 (0,0))):=hR;have HB:Hid (wr.heap[w.heap.size+1+1]? =some (.cells (stc (zem f k)) 280 (0,0))):=hB;have HL:Hid (Below w.heap.size w wr):=hbl;clear hR hbl;by_cases hlt:k<16
    ·have hc:wr.cell? ⟨w.heap.size+1+1,k,none⟩=some (.int .u32 (rnds f 10 k)):=by
      rw[zr hB,zc8 _ _ hlt,zmo]
     have hz:=frozen_of_row _ _ k _ _ hB;have hix:=zpy f k hlt;have g0:(0:Int)≤(k:Int):=by omega
     have g1:(k:Int)<16:=by omega
     clear hB
     go_wp2
     have fB:(wr.setCell ⟨w.heap.size+1+1,k,none⟩ (.int .u32 ((rnds f 10 k+f k)%4294967296))).heap[w.heap.size+1+1]? =some (.cells (stc (zem f (k+1))) 280 (0,0)):=by
      rw[ziU];exact zdb _ _ _ _ _ HB.out hlt
     exact⟨⟨k+1,by omega,by go_num,(Below.heap_setCell _ _ _ _ (by simp)).trans HR.out,fB,HL.out.setCell (by simp;omega) _⟩,by simp[intOf];omega⟩
    ·obtain rfl:k=16:=by omega
     clear hB hk
     go_wp2_with (first|(refine wpList_load_row rfl 280 _ rfl (w.heap.size+1+1) rfl 280 _ (0,0) _ HB.out Tryz.underlying280 rfl (by kernel_rfl) ?_)|(refine wpList_store_row rfl 280 _ _ rfl (w.heap.size+1) _ rfl rfl 280 _ HR.out (by rw[zaZ];kernel_rfl) (by rw[zaZ,zaZ]) (zfe _) ?_))
     refine bodyPost_ret (results_cell_row Tryz.results244 _ _ (w.heap.size+1) 280 _ (0,0) _ rfl (setRow_heap _ _ _ _ _ _ HR.out) Tryz.underlying280 rfl (by kernel_rfl)) rfl ⟨?_,below_setRow HL.out (by omega) _⟩;have e:stc (zem f 16)=stc (blk f):=zjB fun i hi=>by simp[zem,blk,hi]
     rw[e]
end Ra
end Go.Proofs.YtokfnghckpgjmaaGreatDoor
