/- The reference's Apply. -/
import Derived.Test.YthneciodobeehaaPTS
namespace Go.Proofs.Ythneciodobeehaa.Rp
open Go.RowKit Go.Lib
open Go.Proofs.Ythneciodobeehaa.Rc Go.Proofs.Ythneciodobeehaa.Rq
set_option maxRecDepth 100000 in
set_option maxHeartbeats 4000000 in
theorem happly_no (o : Option Addr) (cap : Nat) (l : List Rw) (k : Int) (id x y : Nat) (v : ByteArray) (w : World) (hr : RowsAt w o cap l) (hL : rightL l = false) :
    Calls Try.prog 16 #[.slice o l.length cap, .agg #[.int .i64 k, .int .u64 (id : Int), .int .u32 (x : Int), .int .u32 (y : Int), .string v]] w (fun e w' => e = .returned (.tuple #[.slice none 0 0, .int .i64 80]) ∧ Below w.heap.size w w') := by
  have hb := below_new w (.cells #[.int .i64 k, .int .u64 (id : Int), .int .u32 (x : Int), .int .u32 (y : Int), .string v] 34)
  have hg := heap_alloc_new w (.cells #[.int .i64 k, .int .u64 (id : Int), .int .u32 (x : Int), .int .u32 (y : Int), .string v] 34)
  obtain ⟨W0, hW0⟩ : ∃ W0, w.alloc (.cells #[.int .i64 k, .int .u64 (id : Int), .int .u32 (x : Int), .int .u32 (y : Int), .string v] 34) = W0 := ⟨_, rfl⟩
  rw [hW0] at hb hg
  have HW0 : Hid _ := hW0
  have HB0 : Hid (Below w.heap.size w W0) := hb
  have HG0 : Hid (W0.heap[w.heap.size]? = some (.cells #[.int .i64 k, .int .u64 (id : Int), .int .u32 (x : Int), .int .u32 (y : Int), .string v] 34 (0, 0))) := hg
  have l0 : w.heap.size < W0.heap.size := (Array.getElem?_eq_some_iff.1 hg).1
  have HRW : Hid (RowsAt w o cap l) := hr
  have HR : Hid (∀ _ : True, _) := fun _ => eright_any l o cap W0 (hr.below hb (Nat.le_refl _))
  rw [hL] at HR
  clear hb hg hW0 hr hL
  go_enter Try.func16, Try.ntmps16
  go_wp2_with (first | (rw [HW0.out]; clear HW0))
  refine Calls.mono (HR.out trivial) ?_
  rintro e w1 ⟨rfl, b1⟩
  have HB1 : Hid (Below w.heap.size w w1) := HB0.out.trans (b1.mono HB0.out.size)
  have HG1 : Hid (w1.heap[w.heap.size]? = some (.cells #[.int .i64 k, .int .u64 (id : Int), .int .u32 (x : Int), .int .u32 (y : Int), .string v] 34 (0, 0))) := (b1.block _ l0).trans HG0.out
  have l1 : w.heap.size < w1.heap.size := (Array.getElem?_eq_some_iff.1 HG1.out).1
  obtain ⟨c0, c1, c2, c3, c4⟩ := op_cells HG1.out
  clear b1 HR HB0 HG0 l0
  go_wp2_with fail
  go_ret2
  exact ⟨rfl, HB1.out⟩
set_option maxRecDepth 100000 in
set_option maxHeartbeats 4000000 in
theorem happly_lo (o : Option Addr) (cap : Nat) (l : List Rw) (k : Int) (id x y : Nat) (v : ByteArray) (w : World) (hr : RowsAt w o cap l) (hL : rightL l = true) (hk : k < 1) :
    Calls Try.prog 16 #[.slice o l.length cap, .agg #[.int .i64 k, .int .u64 (id : Int), .int .u32 (x : Int), .int .u32 (y : Int), .string v]] w (fun e w' => e = .returned (.tuple #[.slice none 0 0, .int .i64 2]) ∧ Below w.heap.size w w') := by
  have hb := below_new w (.cells #[.int .i64 k, .int .u64 (id : Int), .int .u32 (x : Int), .int .u32 (y : Int), .string v] 34)
  have hg := heap_alloc_new w (.cells #[.int .i64 k, .int .u64 (id : Int), .int .u32 (x : Int), .int .u32 (y : Int), .string v] 34)
  obtain ⟨W0, hW0⟩ : ∃ W0, w.alloc (.cells #[.int .i64 k, .int .u64 (id : Int), .int .u32 (x : Int), .int .u32 (y : Int), .string v] 34) = W0 := ⟨_, rfl⟩
  rw [hW0] at hb hg
  have HW0 : Hid _ := hW0
  have HB0 : Hid (Below w.heap.size w W0) := hb
  have HG0 : Hid (W0.heap[w.heap.size]? = some (.cells #[.int .i64 k, .int .u64 (id : Int), .int .u32 (x : Int), .int .u32 (y : Int), .string v] 34 (0, 0))) := hg
  have l0 : w.heap.size < W0.heap.size := (Array.getElem?_eq_some_iff.1 hg).1
  have HRW : Hid (RowsAt w o cap l) := hr
  have HR : Hid (∀ _ : True, _) := fun _ => eright_any l o cap W0 (hr.below hb (Nat.le_refl _))
  rw [hL] at HR
  clear hb hg hW0 hr hL
  go_enter Try.func16, Try.ntmps16
  go_wp2_with (first | (rw [HW0.out]; clear HW0))
  refine Calls.mono (HR.out trivial) ?_
  rintro e w1 ⟨rfl, b1⟩
  have HB1 : Hid (Below w.heap.size w w1) := HB0.out.trans (b1.mono HB0.out.size)
  have HG1 : Hid (w1.heap[w.heap.size]? = some (.cells #[.int .i64 k, .int .u64 (id : Int), .int .u32 (x : Int), .int .u32 (y : Int), .string v] 34 (0, 0))) := (b1.block _ l0).trans HG0.out
  have l1 : w.heap.size < w1.heap.size := (Array.getElem?_eq_some_iff.1 HG1.out).1
  obtain ⟨c0, c1, c2, c3, c4⟩ := op_cells HG1.out
  clear b1 HR HB0 HG0 l0
  go_wp2_with fail
  go_ret2
  exact ⟨rfl, HB1.out⟩
set_option maxRecDepth 100000 in
set_option maxHeartbeats 4000000 in
theorem happly_hi (o : Option Addr) (cap : Nat) (l : List Rw) (k : Int) (id x y : Nat) (v : ByteArray) (w : World) (hr : RowsAt w o cap l) (hL : rightL l = true) (hk : 3 < k) :
    Calls Try.prog 16 #[.slice o l.length cap, .agg #[.int .i64 k, .int .u64 (id : Int), .int .u32 (x : Int), .int .u32 (y : Int), .string v]] w (fun e w' => e = .returned (.tuple #[.slice none 0 0, .int .i64 2]) ∧ Below w.heap.size w w') := by
  have hk2 : ¬ k < 1 := by omega
  have hb := below_new w (.cells #[.int .i64 k, .int .u64 (id : Int), .int .u32 (x : Int), .int .u32 (y : Int), .string v] 34)
  have hg := heap_alloc_new w (.cells #[.int .i64 k, .int .u64 (id : Int), .int .u32 (x : Int), .int .u32 (y : Int), .string v] 34)
  obtain ⟨W0, hW0⟩ : ∃ W0, w.alloc (.cells #[.int .i64 k, .int .u64 (id : Int), .int .u32 (x : Int), .int .u32 (y : Int), .string v] 34) = W0 := ⟨_, rfl⟩
  rw [hW0] at hb hg
  have HW0 : Hid _ := hW0
  have HB0 : Hid (Below w.heap.size w W0) := hb
  have HG0 : Hid (W0.heap[w.heap.size]? = some (.cells #[.int .i64 k, .int .u64 (id : Int), .int .u32 (x : Int), .int .u32 (y : Int), .string v] 34 (0, 0))) := hg
  have l0 : w.heap.size < W0.heap.size := (Array.getElem?_eq_some_iff.1 hg).1
  have HRW : Hid (RowsAt w o cap l) := hr
  have HR : Hid (∀ _ : True, _) := fun _ => eright_any l o cap W0 (hr.below hb (Nat.le_refl _))
  rw [hL] at HR
  clear hb hg hW0 hr hL
  go_enter Try.func16, Try.ntmps16
  go_wp2_with (first | (rw [HW0.out]; clear HW0))
  refine Calls.mono (HR.out trivial) ?_
  rintro e w1 ⟨rfl, b1⟩
  have HB1 : Hid (Below w.heap.size w w1) := HB0.out.trans (b1.mono HB0.out.size)
  have HG1 : Hid (w1.heap[w.heap.size]? = some (.cells #[.int .i64 k, .int .u64 (id : Int), .int .u32 (x : Int), .int .u32 (y : Int), .string v] 34 (0, 0))) := (b1.block _ l0).trans HG0.out
  have l1 : w.heap.size < w1.heap.size := (Array.getElem?_eq_some_iff.1 HG1.out).1
  obtain ⟨c0, c1, c2, c3, c4⟩ := op_cells HG1.out
  clear b1 HR HB0 HG0 l0
  go_wp2_with fail
  go_ret2
  exact ⟨rfl, HB1.out⟩
set_option maxRecDepth 100000 in
set_option maxHeartbeats 4000000 in
theorem happly_row (o : Option Addr) (cap : Nat) (l : List Rw) (id x y : Nat) (v : ByteArray) (w : World) (hr : RowsAt w o cap l) (hL : rightL l = true) (hR : rightRow ⟨id, x, y, v⟩ = false) :
    Calls Try.prog 16 #[.slice o l.length cap, .agg #[.int .i64 1, .int .u64 (id : Int), .int .u32 (x : Int), .int .u32 (y : Int), .string v]] w (fun e w' => e = .returned (.tuple #[.slice none 0 0, .int .i64 80]) ∧ Below w.heap.size w w') := by
  have HRR : Hid _ := erightRow_any (⟨id, x, y, v⟩ : Rw)
  simp only [rv] at HRR
  rw [hR] at HRR
  clear hR
  have hb := below_new w (.cells #[.int .i64 1, .int .u64 (id : Int), .int .u32 (x : Int), .int .u32 (y : Int), .string v] 34)
  have hg := heap_alloc_new w (.cells #[.int .i64 1, .int .u64 (id : Int), .int .u32 (x : Int), .int .u32 (y : Int), .string v] 34)
  obtain ⟨W0, hW0⟩ : ∃ W0, w.alloc (.cells #[.int .i64 1, .int .u64 (id : Int), .int .u32 (x : Int), .int .u32 (y : Int), .string v] 34) = W0 := ⟨_, rfl⟩
  rw [hW0] at hb hg
  have HW0 : Hid _ := hW0
  have HB0 : Hid (Below w.heap.size w W0) := hb
  have HG0 : Hid (W0.heap[w.heap.size]? = some (.cells #[.int .i64 1, .int .u64 (id : Int), .int .u32 (x : Int), .int .u32 (y : Int), .string v] 34 (0, 0))) := hg
  have l0 : w.heap.size < W0.heap.size := (Array.getElem?_eq_some_iff.1 hg).1
  have HRW : Hid (RowsAt w o cap l) := hr
  have HR : Hid (∀ _ : True, _) := fun _ => eright_any l o cap W0 (hr.below hb (Nat.le_refl _))
  rw [hL] at HR
  clear hb hg hW0 hr hL
  go_enter Try.func16, Try.ntmps16
  go_wp2_with (first | (rw [HW0.out]; clear HW0))
  refine Calls.mono (HR.out trivial) ?_
  rintro e w1 ⟨rfl, b1⟩
  have HB1 : Hid (Below w.heap.size w w1) := HB0.out.trans (b1.mono HB0.out.size)
  have HG1 : Hid (w1.heap[w.heap.size]? = some (.cells #[.int .i64 1, .int .u64 (id : Int), .int .u32 (x : Int), .int .u32 (y : Int), .string v] 34 (0, 0))) := (b1.block _ l0).trans HG0.out
  have l1 : w.heap.size < w1.heap.size := (Array.getElem?_eq_some_iff.1 HG1.out).1
  obtain ⟨c0, c1, c2, c3, c4⟩ := op_cells HG1.out
  clear b1 HR HB0 HG0 l0
  go_wp2_with fail
  refine (HRR.out _).mono ?_
  rintro e w2 ⟨rfl, b2⟩
  have HB2 : Hid (Below w.heap.size w w2) := HB1.out.trans (b2.mono HB1.out.size)
  have HG2 : Hid (w2.heap[w.heap.size]? = some (.cells #[.int .i64 1, .int .u64 (id : Int), .int .u32 (x : Int), .int .u32 (y : Int), .string v] 34 (0, 0))) := (b2.block _ l1).trans HG1.out
  have l2 : w.heap.size < w2.heap.size := (Array.getElem?_eq_some_iff.1 HG2.out).1
  clear c0 c1 c2 c3 c4
  obtain ⟨c0, c1, c2, c3, c4⟩ := op_cells HG2.out
  clear b2 HRR HB1 HG1 l1
  go_wp2_with fail
  go_ret2
  exact ⟨rfl, HB2.out⟩
set_option maxRecDepth 100000 in
set_option maxHeartbeats 4000000 in
theorem happly_offx (o : Option Addr) (cap : Nat) (l : List Rw) (id x y : Nat) (v : ByteArray) (w : World) (hr : RowsAt w o cap l) (hL : rightL l = true) (hX : 2147483648 ≤ x) :
    Calls Try.prog 16 #[.slice o l.length cap, .agg #[.int .i64 2, .int .u64 (id : Int), .int .u32 (x : Int), .int .u32 (y : Int), .string v]] w (fun e w' => e = .returned (.tuple #[.slice none 0 0, .int .i64 80]) ∧ Below w.heap.size w w') := by
  have qx1 : decide ((2147483648 : Int) ≤ (x : Int)) = true := by simp; omega
  have qx2 : decide (2147483648 ≤ x) = true := by simp; omega
  have HRR : Hid _ := erightRow_any (⟨id, x, y, v⟩ : Rw)
  simp only [rv] at HRR
  generalize rightRow ⟨id, x, y, v⟩ = RRR at HRR
  have hb := below_new w (.cells #[.int .i64 2, .int .u64 (id : Int), .int .u32 (x : Int), .int .u32 (y : Int), .string v] 34)
  have hg := heap_alloc_new w (.cells #[.int .i64 2, .int .u64 (id : Int), .int .u32 (x : Int), .int .u32 (y : Int), .string v] 34)
  obtain ⟨W0, hW0⟩ : ∃ W0, w.alloc (.cells #[.int .i64 2, .int .u64 (id : Int), .int .u32 (x : Int), .int .u32 (y : Int), .string v] 34) = W0 := ⟨_, rfl⟩
  rw [hW0] at hb hg
  have HW0 : Hid _ := hW0
  have HB0 : Hid (Below w.heap.size w W0) := hb
  have HG0 : Hid (W0.heap[w.heap.size]? = some (.cells #[.int .i64 2, .int .u64 (id : Int), .int .u32 (x : Int), .int .u32 (y : Int), .string v] 34 (0, 0))) := hg
  have l0 : w.heap.size < W0.heap.size := (Array.getElem?_eq_some_iff.1 hg).1
  have HRW : Hid (RowsAt w o cap l) := hr
  have HR : Hid (∀ _ : True, _) := fun _ => eright_any l o cap W0 (hr.below hb (Nat.le_refl _))
  rw [hL] at HR
  clear hb hg hW0 hr hL
  go_enter Try.func16, Try.ntmps16
  go_wp2_with (first | (rw [HW0.out]; clear HW0))
  refine Calls.mono (HR.out trivial) ?_
  rintro e w1 ⟨rfl, b1⟩
  have HB1 : Hid (Below w.heap.size w w1) := HB0.out.trans (b1.mono HB0.out.size)
  have HG1 : Hid (w1.heap[w.heap.size]? = some (.cells #[.int .i64 2, .int .u64 (id : Int), .int .u32 (x : Int), .int .u32 (y : Int), .string v] 34 (0, 0))) := (b1.block _ l0).trans HG0.out
  have l1 : w.heap.size < w1.heap.size := (Array.getElem?_eq_some_iff.1 HG1.out).1
  obtain ⟨c0, c1, c2, c3, c4⟩ := op_cells HG1.out
  clear b1 HR HB0 HG0 l0
  go_wp2_with fail
  refine (HRR.out _).mono ?_
  rintro e w2 ⟨rfl, b2⟩
  have HB2 : Hid (Below w.heap.size w w2) := HB1.out.trans (b2.mono HB1.out.size)
  have HG2 : Hid (w2.heap[w.heap.size]? = some (.cells #[.int .i64 2, .int .u64 (id : Int), .int .u32 (x : Int), .int .u32 (y : Int), .string v] 34 (0, 0))) := (b2.block _ l1).trans HG1.out
  have l2 : w.heap.size < w2.heap.size := (Array.getElem?_eq_some_iff.1 HG2.out).1
  clear c0 c1 c2 c3 c4
  obtain ⟨c0, c1, c2, c3, c4⟩ := op_cells HG2.out
  clear b2 HRR HB1 HG1 l1
  go_wp2_with fail
  go_ret2
  exact ⟨rfl, HB2.out⟩
set_option maxRecDepth 100000 in
set_option maxHeartbeats 4000000 in
theorem happly_offy (o : Option Addr) (cap : Nat) (l : List Rw) (id x y : Nat) (v : ByteArray) (w : World) (hr : RowsAt w o cap l) (hL : rightL l = true) (hX : ¬ 2147483648 ≤ x) (hY : 2147483648 ≤ y) :
    Calls Try.prog 16 #[.slice o l.length cap, .agg #[.int .i64 2, .int .u64 (id : Int), .int .u32 (x : Int), .int .u32 (y : Int), .string v]] w (fun e w' => e = .returned (.tuple #[.slice none 0 0, .int .i64 80]) ∧ Below w.heap.size w w') := by
  have qx1 : decide ((2147483648 : Int) ≤ (x : Int)) = false := by simp; omega
  have qx2 : decide (2147483648 ≤ x) = false := by simp; omega
  have qy1 : decide ((2147483648 : Int) ≤ (y : Int)) = true := by simp; omega
  have qy2 : decide (2147483648 ≤ y) = true := by simp; omega
  have HRR : Hid _ := erightRow_any (⟨id, x, y, v⟩ : Rw)
  simp only [rv] at HRR
  generalize rightRow ⟨id, x, y, v⟩ = RRR at HRR
  have hb := below_new w (.cells #[.int .i64 2, .int .u64 (id : Int), .int .u32 (x : Int), .int .u32 (y : Int), .string v] 34)
  have hg := heap_alloc_new w (.cells #[.int .i64 2, .int .u64 (id : Int), .int .u32 (x : Int), .int .u32 (y : Int), .string v] 34)
  obtain ⟨W0, hW0⟩ : ∃ W0, w.alloc (.cells #[.int .i64 2, .int .u64 (id : Int), .int .u32 (x : Int), .int .u32 (y : Int), .string v] 34) = W0 := ⟨_, rfl⟩
  rw [hW0] at hb hg
  have HW0 : Hid _ := hW0
  have HB0 : Hid (Below w.heap.size w W0) := hb
  have HG0 : Hid (W0.heap[w.heap.size]? = some (.cells #[.int .i64 2, .int .u64 (id : Int), .int .u32 (x : Int), .int .u32 (y : Int), .string v] 34 (0, 0))) := hg
  have l0 : w.heap.size < W0.heap.size := (Array.getElem?_eq_some_iff.1 hg).1
  have HRW : Hid (RowsAt w o cap l) := hr
  have HR : Hid (∀ _ : True, _) := fun _ => eright_any l o cap W0 (hr.below hb (Nat.le_refl _))
  rw [hL] at HR
  clear hb hg hW0 hr hL
  go_enter Try.func16, Try.ntmps16
  go_wp2_with (first | (rw [HW0.out]; clear HW0))
  refine Calls.mono (HR.out trivial) ?_
  rintro e w1 ⟨rfl, b1⟩
  have HB1 : Hid (Below w.heap.size w w1) := HB0.out.trans (b1.mono HB0.out.size)
  have HG1 : Hid (w1.heap[w.heap.size]? = some (.cells #[.int .i64 2, .int .u64 (id : Int), .int .u32 (x : Int), .int .u32 (y : Int), .string v] 34 (0, 0))) := (b1.block _ l0).trans HG0.out
  have l1 : w.heap.size < w1.heap.size := (Array.getElem?_eq_some_iff.1 HG1.out).1
  obtain ⟨c0, c1, c2, c3, c4⟩ := op_cells HG1.out
  clear b1 HR HB0 HG0 l0
  go_wp2_with fail
  refine (HRR.out _).mono ?_
  rintro e w2 ⟨rfl, b2⟩
  have HB2 : Hid (Below w.heap.size w w2) := HB1.out.trans (b2.mono HB1.out.size)
  have HG2 : Hid (w2.heap[w.heap.size]? = some (.cells #[.int .i64 2, .int .u64 (id : Int), .int .u32 (x : Int), .int .u32 (y : Int), .string v] 34 (0, 0))) := (b2.block _ l1).trans HG1.out
  have l2 : w.heap.size < w2.heap.size := (Array.getElem?_eq_some_iff.1 HG2.out).1
  clear c0 c1 c2 c3 c4
  obtain ⟨c0, c1, c2, c3, c4⟩ := op_cells HG2.out
  clear b2 HRR HB1 HG1 l1
  go_wp2_with fail
  go_ret2
  exact ⟨rfl, HB2.out⟩
set_option maxRecDepth 100000 in
set_option maxHeartbeats 4000000 in
theorem happly_none2 (o : Option Addr) (cap : Nat) (l : List Rw) (id x y : Nat) (v : ByteArray) (w : World) (hr : RowsAt w o cap l) (hL : rightL l = true) (hX : ¬ 2147483648 ≤ x) (hY : ¬ 2147483648 ≤ y) (sid sx sy : Nat) (sv : ByteArray) (hV : getV l id = ⟨sid, sx, sy, sv⟩) (hE : getE l id = 100) :
    Calls Try.prog 16 #[.slice o l.length cap, .agg #[.int .i64 2, .int .u64 (id : Int), .int .u32 (x : Int), .int .u32 (y : Int), .string v]] w (fun e w' => e = .returned (.tuple #[.slice none 0 0, .int .i64 100]) ∧ Below w.heap.size w w') := by
  have qx1 : decide ((2147483648 : Int) ≤ (x : Int)) = false := by simp; omega
  have qx2 : decide (2147483648 ≤ x) = false := by simp; omega
  have qy1 : decide ((2147483648 : Int) ≤ (y : Int)) = false := by simp; omega
  have qy2 : decide (2147483648 ≤ y) = false := by simp; omega
  have HV : Hid (getV l id = ⟨sid, sx, sy, sv⟩) := hV
  have HE : Hid (getE l id = 100) := hE
  clear hV hE
  have HRR : Hid _ := erightRow_any (⟨id, x, y, v⟩ : Rw)
  simp only [rv] at HRR
  generalize rightRow ⟨id, x, y, v⟩ = RRR at HRR
  have hb := below_new w (.cells #[.int .i64 2, .int .u64 (id : Int), .int .u32 (x : Int), .int .u32 (y : Int), .string v] 34)
  have hg := heap_alloc_new w (.cells #[.int .i64 2, .int .u64 (id : Int), .int .u32 (x : Int), .int .u32 (y : Int), .string v] 34)
  obtain ⟨W0, hW0⟩ : ∃ W0, w.alloc (.cells #[.int .i64 2, .int .u64 (id : Int), .int .u32 (x : Int), .int .u32 (y : Int), .string v] 34) = W0 := ⟨_, rfl⟩
  rw [hW0] at hb hg
  have HW0 : Hid _ := hW0
  have HB0 : Hid (Below w.heap.size w W0) := hb
  have HG0 : Hid (W0.heap[w.heap.size]? = some (.cells #[.int .i64 2, .int .u64 (id : Int), .int .u32 (x : Int), .int .u32 (y : Int), .string v] 34 (0, 0))) := hg
  have l0 : w.heap.size < W0.heap.size := (Array.getElem?_eq_some_iff.1 hg).1
  have HRW : Hid (RowsAt w o cap l) := hr
  have HR : Hid (∀ _ : True, _) := fun _ => eright_any l o cap W0 (hr.below hb (Nat.le_refl _))
  rw [hL] at HR
  clear hb hg hW0 hr hL
  go_enter Try.func16, Try.ntmps16
  go_wp2_with (first | (rw [HW0.out]; clear HW0))
  refine Calls.mono (HR.out trivial) ?_
  rintro e w1 ⟨rfl, b1⟩
  have HB1 : Hid (Below w.heap.size w w1) := HB0.out.trans (b1.mono HB0.out.size)
  have HG1 : Hid (w1.heap[w.heap.size]? = some (.cells #[.int .i64 2, .int .u64 (id : Int), .int .u32 (x : Int), .int .u32 (y : Int), .string v] 34 (0, 0))) := (b1.block _ l0).trans HG0.out
  have l1 : w.heap.size < w1.heap.size := (Array.getElem?_eq_some_iff.1 HG1.out).1
  obtain ⟨c0, c1, c2, c3, c4⟩ := op_cells HG1.out
  clear b1 HR HB0 HG0 l0
  go_wp2_with fail
  refine (HRR.out _).mono ?_
  rintro e w2 ⟨rfl, b2⟩
  have HB2 : Hid (Below w.heap.size w w2) := HB1.out.trans (b2.mono HB1.out.size)
  have HG2 : Hid (w2.heap[w.heap.size]? = some (.cells #[.int .i64 2, .int .u64 (id : Int), .int .u32 (x : Int), .int .u32 (y : Int), .string v] 34 (0, 0))) := (b2.block _ l1).trans HG1.out
  have l2 : w.heap.size < w2.heap.size := (Array.getElem?_eq_some_iff.1 HG2.out).1
  clear c0 c1 c2 c3 c4
  obtain ⟨c0, c1, c2, c3, c4⟩ := op_cells HG2.out
  clear b2 HRR HB1 HG1 l1
  have HGT : Hid (∀ _ : True, _) := fun _ => hget_any o cap l id w2 (HRW.out.below HB2.out (Nat.le_refl _))
  rw [HV.out, HE.out] at HGT
  simp only [rv] at HGT
  go_wp2_with fail
  refine Calls.mono (HGT.out trivial) ?_
  rintro e w3 ⟨rfl, b3⟩
  have HB3 : Hid (Below w.heap.size w w3) := HB2.out.trans (b3.mono HB2.out.size)
  have hg3 := (b3.block _ l2).trans HG2.out
  have l3 : w.heap.size < w3.heap.size := Nat.lt_of_lt_of_le l2 b3.size
  have b4 := below_new w3 (.cells #[.int .u64 (sid : Int), .int .u32 (sx : Int), .int .u32 (sy : Int), .string sv] 27)
  have hg4 := heap_alloc_new w3 (.cells #[.int .u64 (sid : Int), .int .u32 (sx : Int), .int .u32 (sy : Int), .string sv] 27)
  obtain ⟨w4, hw4⟩ : ∃ w4, w3.alloc (.cells #[.int .u64 (sid : Int), .int .u32 (sx : Int), .int .u32 (sy : Int), .string sv] 27) = w4 := ⟨_, rfl⟩
  rw [hw4] at b4 hg4
  have HW4 : Hid _ := hw4
  have HB4 : Hid (Below w.heap.size w w4) := HB3.out.trans (b4.mono HB3.out.size)
  have HG4 : Hid (w4.heap[w.heap.size]? = some (.cells #[.int .i64 2, .int .u64 (id : Int), .int .u32 (x : Int), .int .u32 (y : Int), .string v] 34 (0, 0))) := (b4.block _ l3).trans hg3
  have HS4 : Hid (w4.heap[w3.heap.size]? = some (.cells #[.int .u64 (sid : Int), .int .u32 (sx : Int), .int .u32 (sy : Int), .string sv] 27 (0, 0))) := hg4
  have l4 : w.heap.size < w4.heap.size := (Array.getElem?_eq_some_iff.1 HG4.out).1
  have m4 : w3.heap.size < w4.heap.size := (Array.getElem?_eq_some_iff.1 hg4).1
  clear c0 c1 c2 c3 c4
  obtain ⟨c0, c1, c2, c3, c4⟩ := op_cells HG4.out
  clear b3 b4 hg3 hg4 hw4 HGT HB2 HG2 l2 HB3
  go_wp2_with (first | (rw [HW4.out]; clear HW4))
  go_ret2
  exact ⟨rfl, HB4.out⟩
set_option maxRecDepth 100000 in
set_option maxHeartbeats 4000000 in
theorem happly_none3 (o : Option Addr) (cap : Nat) (l : List Rw) (id x y : Nat) (v : ByteArray) (w : World) (hr : RowsAt w o cap l) (hL : rightL l = true) (sid sx sy : Nat) (sv : ByteArray) (hV : getV l id = ⟨sid, sx, sy, sv⟩) (hE : getE l id = 100) :
    Calls Try.prog 16 #[.slice o l.length cap, .agg #[.int .i64 3, .int .u64 (id : Int), .int .u32 (x : Int), .int .u32 (y : Int), .string v]] w (fun e w' => e = .returned (.tuple #[.slice none 0 0, .int .i64 100]) ∧ Below w.heap.size w w') := by
  have HV : Hid (getV l id = ⟨sid, sx, sy, sv⟩) := hV
  have HE : Hid (getE l id = 100) := hE
  clear hV hE
  have HRR : Hid _ := erightRow_any (⟨id, x, y, v⟩ : Rw)
  simp only [rv] at HRR
  generalize rightRow ⟨id, x, y, v⟩ = RRR at HRR
  have hb := below_new w (.cells #[.int .i64 3, .int .u64 (id : Int), .int .u32 (x : Int), .int .u32 (y : Int), .string v] 34)
  have hg := heap_alloc_new w (.cells #[.int .i64 3, .int .u64 (id : Int), .int .u32 (x : Int), .int .u32 (y : Int), .string v] 34)
  obtain ⟨W0, hW0⟩ : ∃ W0, w.alloc (.cells #[.int .i64 3, .int .u64 (id : Int), .int .u32 (x : Int), .int .u32 (y : Int), .string v] 34) = W0 := ⟨_, rfl⟩
  rw [hW0] at hb hg
  have HW0 : Hid _ := hW0
  have HB0 : Hid (Below w.heap.size w W0) := hb
  have HG0 : Hid (W0.heap[w.heap.size]? = some (.cells #[.int .i64 3, .int .u64 (id : Int), .int .u32 (x : Int), .int .u32 (y : Int), .string v] 34 (0, 0))) := hg
  have l0 : w.heap.size < W0.heap.size := (Array.getElem?_eq_some_iff.1 hg).1
  have HRW : Hid (RowsAt w o cap l) := hr
  have HR : Hid (∀ _ : True, _) := fun _ => eright_any l o cap W0 (hr.below hb (Nat.le_refl _))
  rw [hL] at HR
  clear hb hg hW0 hr hL
  go_enter Try.func16, Try.ntmps16
  go_wp2_with (first | (rw [HW0.out]; clear HW0))
  refine Calls.mono (HR.out trivial) ?_
  rintro e w1 ⟨rfl, b1⟩
  have HB1 : Hid (Below w.heap.size w w1) := HB0.out.trans (b1.mono HB0.out.size)
  have HG1 : Hid (w1.heap[w.heap.size]? = some (.cells #[.int .i64 3, .int .u64 (id : Int), .int .u32 (x : Int), .int .u32 (y : Int), .string v] 34 (0, 0))) := (b1.block _ l0).trans HG0.out
  have l1 : w.heap.size < w1.heap.size := (Array.getElem?_eq_some_iff.1 HG1.out).1
  obtain ⟨c0, c1, c2, c3, c4⟩ := op_cells HG1.out
  clear b1 HR HB0 HG0 l0
  go_wp2_with fail
  refine (HRR.out _).mono ?_
  rintro e w2 ⟨rfl, b2⟩
  have HB2 : Hid (Below w.heap.size w w2) := HB1.out.trans (b2.mono HB1.out.size)
  have HG2 : Hid (w2.heap[w.heap.size]? = some (.cells #[.int .i64 3, .int .u64 (id : Int), .int .u32 (x : Int), .int .u32 (y : Int), .string v] 34 (0, 0))) := (b2.block _ l1).trans HG1.out
  have l2 : w.heap.size < w2.heap.size := (Array.getElem?_eq_some_iff.1 HG2.out).1
  clear c0 c1 c2 c3 c4
  obtain ⟨c0, c1, c2, c3, c4⟩ := op_cells HG2.out
  clear b2 HRR HB1 HG1 l1
  have HGT : Hid (∀ _ : True, _) := fun _ => hget_any o cap l id w2 (HRW.out.below HB2.out (Nat.le_refl _))
  rw [HV.out, HE.out] at HGT
  simp only [rv] at HGT
  go_wp2_with fail
  refine Calls.mono (HGT.out trivial) ?_
  rintro e w3 ⟨rfl, b3⟩
  have HB3 : Hid (Below w.heap.size w w3) := HB2.out.trans (b3.mono HB2.out.size)
  have hg3 := (b3.block _ l2).trans HG2.out
  have l3 : w.heap.size < w3.heap.size := Nat.lt_of_lt_of_le l2 b3.size
  have b4 := below_new w3 (.cells #[.int .u64 (sid : Int), .int .u32 (sx : Int), .int .u32 (sy : Int), .string sv] 27)
  have hg4 := heap_alloc_new w3 (.cells #[.int .u64 (sid : Int), .int .u32 (sx : Int), .int .u32 (sy : Int), .string sv] 27)
  obtain ⟨w4, hw4⟩ : ∃ w4, w3.alloc (.cells #[.int .u64 (sid : Int), .int .u32 (sx : Int), .int .u32 (sy : Int), .string sv] 27) = w4 := ⟨_, rfl⟩
  rw [hw4] at b4 hg4
  have HW4 : Hid _ := hw4
  have HB4 : Hid (Below w.heap.size w w4) := HB3.out.trans (b4.mono HB3.out.size)
  have HG4 : Hid (w4.heap[w.heap.size]? = some (.cells #[.int .i64 3, .int .u64 (id : Int), .int .u32 (x : Int), .int .u32 (y : Int), .string v] 34 (0, 0))) := (b4.block _ l3).trans hg3
  have HS4 : Hid (w4.heap[w3.heap.size]? = some (.cells #[.int .u64 (sid : Int), .int .u32 (sx : Int), .int .u32 (sy : Int), .string sv] 27 (0, 0))) := hg4
  have l4 : w.heap.size < w4.heap.size := (Array.getElem?_eq_some_iff.1 HG4.out).1
  have m4 : w3.heap.size < w4.heap.size := (Array.getElem?_eq_some_iff.1 hg4).1
  clear c0 c1 c2 c3 c4
  obtain ⟨c0, c1, c2, c3, c4⟩ := op_cells HG4.out
  clear b3 b4 hg3 hg4 hw4 HGT HB2 HG2 l2 HB3
  go_wp2_with (first | (rw [HW4.out]; clear HW4))
  go_ret2
  exact ⟨rfl, HB4.out⟩
set_option maxRecDepth 100000 in
set_option maxHeartbeats 4000000 in
theorem happly_put (o : Option Addr) (cap : Nat) (l : List Rw) (id x y : Nat) (v : ByteArray) (w : World) (hr : RowsAt w o cap l) (hL : rightL l = true) (hR : rightRow ⟨id, x, y, v⟩ = true) (sid sx sy : Nat) (sv : ByteArray) (hV : getV l id = ⟨sid, sx, sy, sv⟩) (E : Int) (hE : getE l id = E) (hmx : l.length ≤ 1000) (M : List Rw) (hM : wOut l id ⟨id, x, y, v⟩ false = M) (hm : ¬ 1000 < M.length) :
    Calls Try.prog 16 #[.slice o l.length cap, .agg #[.int .i64 1, .int .u64 (id : Int), .int .u32 (x : Int), .int .u32 (y : Int), .string v]] w (KP M 0 w) := by
  have HV : Hid (getV l id = ⟨sid, sx, sy, sv⟩) := hV
  have HE : Hid (getE l id = E) := hE
  clear hV hE
  have qm : decide ((1000 : Int) < (M.length : Int)) = false := by simp; omega
  have HWI : Hid (∀ W, RowsAt W o cap l → Calls Try.prog 29 #[.slice o l.length cap, .int .u64 (id : Int), .agg #[.int .u64 (id : Int), .int .u32 (x : Int), .int .u32 (y : Int), .string v], .bool true] W (WR M W)) := fun W hW => by
    have := hwith_any o cap l id ⟨id, x, y, v⟩ true W hW hmx
    rw [show (!true) = false from rfl, hM] at this
    exact this
  clear hmx hM
  have HRR : Hid _ := erightRow_any (⟨id, x, y, v⟩ : Rw)
  simp only [rv] at HRR
  rw [hR] at HRR
  clear hR
  have hb := below_new w (.cells #[.int .i64 1, .int .u64 (id : Int), .int .u32 (x : Int), .int .u32 (y : Int), .string v] 34)
  have hg := heap_alloc_new w (.cells #[.int .i64 1, .int .u64 (id : Int), .int .u32 (x : Int), .int .u32 (y : Int), .string v] 34)
  obtain ⟨W0, hW0⟩ : ∃ W0, w.alloc (.cells #[.int .i64 1, .int .u64 (id : Int), .int .u32 (x : Int), .int .u32 (y : Int), .string v] 34) = W0 := ⟨_, rfl⟩
  rw [hW0] at hb hg
  have HW0 : Hid _ := hW0
  have HB0 : Hid (Below w.heap.size w W0) := hb
  have HG0 : Hid (W0.heap[w.heap.size]? = some (.cells #[.int .i64 1, .int .u64 (id : Int), .int .u32 (x : Int), .int .u32 (y : Int), .string v] 34 (0, 0))) := hg
  have l0 : w.heap.size < W0.heap.size := (Array.getElem?_eq_some_iff.1 hg).1
  have HRW : Hid (RowsAt w o cap l) := hr
  have HR : Hid (∀ _ : True, _) := fun _ => eright_any l o cap W0 (hr.below hb (Nat.le_refl _))
  rw [hL] at HR
  clear hb hg hW0 hr hL
  go_enter Try.func16, Try.ntmps16
  go_wp2_with (first | (rw [HW0.out]; clear HW0))
  refine Calls.mono (HR.out trivial) ?_
  rintro e w1 ⟨rfl, b1⟩
  have HB1 : Hid (Below w.heap.size w w1) := HB0.out.trans (b1.mono HB0.out.size)
  have HG1 : Hid (w1.heap[w.heap.size]? = some (.cells #[.int .i64 1, .int .u64 (id : Int), .int .u32 (x : Int), .int .u32 (y : Int), .string v] 34 (0, 0))) := (b1.block _ l0).trans HG0.out
  have l1 : w.heap.size < w1.heap.size := (Array.getElem?_eq_some_iff.1 HG1.out).1
  obtain ⟨c0, c1, c2, c3, c4⟩ := op_cells HG1.out
  clear b1 HR HB0 HG0 l0
  go_wp2_with fail
  refine (HRR.out _).mono ?_
  rintro e w2 ⟨rfl, b2⟩
  have HB2 : Hid (Below w.heap.size w w2) := HB1.out.trans (b2.mono HB1.out.size)
  have HG2 : Hid (w2.heap[w.heap.size]? = some (.cells #[.int .i64 1, .int .u64 (id : Int), .int .u32 (x : Int), .int .u32 (y : Int), .string v] 34 (0, 0))) := (b2.block _ l1).trans HG1.out
  have l2 : w.heap.size < w2.heap.size := (Array.getElem?_eq_some_iff.1 HG2.out).1
  clear c0 c1 c2 c3 c4
  obtain ⟨c0, c1, c2, c3, c4⟩ := op_cells HG2.out
  clear b2 HRR HB1 HG1 l1
  have HGT : Hid (∀ _ : True, _) := fun _ => hget_any o cap l id w2 (HRW.out.below HB2.out (Nat.le_refl _))
  rw [HV.out, HE.out] at HGT
  simp only [rv] at HGT
  go_wp2_with fail
  refine Calls.mono (HGT.out trivial) ?_
  rintro e w3 ⟨rfl, b3⟩
  have HB3 : Hid (Below w.heap.size w w3) := HB2.out.trans (b3.mono HB2.out.size)
  have hg3 := (b3.block _ l2).trans HG2.out
  have l3 : w.heap.size < w3.heap.size := Nat.lt_of_lt_of_le l2 b3.size
  have b4 := below_new w3 (.cells #[.int .u64 (sid : Int), .int .u32 (sx : Int), .int .u32 (sy : Int), .string sv] 27)
  have hg4 := heap_alloc_new w3 (.cells #[.int .u64 (sid : Int), .int .u32 (sx : Int), .int .u32 (sy : Int), .string sv] 27)
  obtain ⟨w4, hw4⟩ : ∃ w4, w3.alloc (.cells #[.int .u64 (sid : Int), .int .u32 (sx : Int), .int .u32 (sy : Int), .string sv] 27) = w4 := ⟨_, rfl⟩
  rw [hw4] at b4 hg4
  have HW4 : Hid _ := hw4
  have HB4 : Hid (Below w.heap.size w w4) := HB3.out.trans (b4.mono HB3.out.size)
  have HG4 : Hid (w4.heap[w.heap.size]? = some (.cells #[.int .i64 1, .int .u64 (id : Int), .int .u32 (x : Int), .int .u32 (y : Int), .string v] 34 (0, 0))) := (b4.block _ l3).trans hg3
  have HS4 : Hid (w4.heap[w3.heap.size]? = some (.cells #[.int .u64 (sid : Int), .int .u32 (sx : Int), .int .u32 (sy : Int), .string sv] 27 (0, 0))) := hg4
  have l4 : w.heap.size < w4.heap.size := (Array.getElem?_eq_some_iff.1 HG4.out).1
  have m4 : w3.heap.size < w4.heap.size := (Array.getElem?_eq_some_iff.1 hg4).1
  have b5 := below_new w4 (.cells #[.int .u64 (id : Int), .int .u32 (x : Int), .int .u32 (y : Int), .string v] 27)
  have hg5 := heap_alloc_new w4 (.cells #[.int .u64 (id : Int), .int .u32 (x : Int), .int .u32 (y : Int), .string v] 27)
  obtain ⟨w5, hw5⟩ : ∃ w5, w4.alloc (.cells #[.int .u64 (id : Int), .int .u32 (x : Int), .int .u32 (y : Int), .string v] 27) = w5 := ⟨_, rfl⟩
  rw [hw5] at b5 hg5
  have HW5 : Hid _ := hw5
  have HB5 : Hid (Below w.heap.size w w5) := HB4.out.trans (b5.mono HB4.out.size)
  have HG5 : Hid (w5.heap[w.heap.size]? = some (.cells #[.int .i64 1, .int .u64 (id : Int), .int .u32 (x : Int), .int .u32 (y : Int), .string v] 34 (0, 0))) := (b5.block _ l4).trans HG4.out
  have HT5 : Hid (w5.heap[w4.heap.size]? = some (.cells #[.int .u64 (id : Int), .int .u32 (x : Int), .int .u32 (y : Int), .string v] 27 (0, 0))) := hg5
  obtain ⟨-, -, -, -, d0, d1, d2, d3⟩ := row_facts hg5
  obtain ⟨e0, e1, e2, e3, e4⟩ := op_cells HG4.out
  obtain ⟨i0, i1, i2, i3, i4⟩ := op_cells HG5.out
  clear hg5 hw5 b5
  clear b3 b4 hg3 hg4 hw4 HGT HB2 HG2 l2 HB3
  go_wp2_with (first | (rw [HW4.out]; clear HW4) | (rw [HW5.out]; clear HW5))
  refine Calls.mono (HWI.out _ (HRW.out.below HB5.out (Nat.le_refl _))) ?_
  rintro e w7 ⟨o6, cap6, rfl, hr6, b6, f6⟩
  have HB7 : Hid (Below w.heap.size w w7) := HB5.out.trans (b6.mono HB5.out.size)
  have HR6 : Hid (RowsAt w7 o6 cap6 M ∧ Fresh w.heap.size o6) := ⟨hr6, f6.mono HB5.out.size⟩
  clear b6 hr6 f6 HWI
  go_wp2_with fail
  go_ret2
  exact ⟨o6, cap6, rfl, HR6.out.1, HB7.out, HR6.out.2⟩
set_option maxRecDepth 100000 in
set_option maxHeartbeats 4000000 in
theorem happly_put82 (o : Option Addr) (cap : Nat) (l : List Rw) (id x y : Nat) (v : ByteArray) (w : World) (hr : RowsAt w o cap l) (hL : rightL l = true) (hR : rightRow ⟨id, x, y, v⟩ = true) (sid sx sy : Nat) (sv : ByteArray) (hV : getV l id = ⟨sid, sx, sy, sv⟩) (E : Int) (hE : getE l id = E) (hmx : l.length ≤ 1000) (M : List Rw) (hM : wOut l id ⟨id, x, y, v⟩ false = M) (hm : 1000 < M.length) :
    Calls Try.prog 16 #[.slice o l.length cap, .agg #[.int .i64 1, .int .u64 (id : Int), .int .u32 (x : Int), .int .u32 (y : Int), .string v]] w (fun e w' => e = .returned (.tuple #[.slice none 0 0, .int .i64 82]) ∧ Below w.heap.size w w') := by
  have HV : Hid (getV l id = ⟨sid, sx, sy, sv⟩) := hV
  have HE : Hid (getE l id = E) := hE
  clear hV hE
  have qm : decide ((1000 : Int) < (M.length : Int)) = true := by simp; omega
  have HWI : Hid (∀ W, RowsAt W o cap l → Calls Try.prog 29 #[.slice o l.length cap, .int .u64 (id : Int), .agg #[.int .u64 (id : Int), .int .u32 (x : Int), .int .u32 (y : Int), .string v], .bool true] W (WR M W)) := fun W hW => by
    have := hwith_any o cap l id ⟨id, x, y, v⟩ true W hW hmx
    rw [show (!true) = false from rfl, hM] at this
    exact this
  clear hmx hM
  have HRR : Hid _ := erightRow_any (⟨id, x, y, v⟩ : Rw)
  simp only [rv] at HRR
  rw [hR] at HRR
  clear hR
  have hb := below_new w (.cells #[.int .i64 1, .int .u64 (id : Int), .int .u32 (x : Int), .int .u32 (y : Int), .string v] 34)
  have hg := heap_alloc_new w (.cells #[.int .i64 1, .int .u64 (id : Int), .int .u32 (x : Int), .int .u32 (y : Int), .string v] 34)
  obtain ⟨W0, hW0⟩ : ∃ W0, w.alloc (.cells #[.int .i64 1, .int .u64 (id : Int), .int .u32 (x : Int), .int .u32 (y : Int), .string v] 34) = W0 := ⟨_, rfl⟩
  rw [hW0] at hb hg
  have HW0 : Hid _ := hW0
  have HB0 : Hid (Below w.heap.size w W0) := hb
  have HG0 : Hid (W0.heap[w.heap.size]? = some (.cells #[.int .i64 1, .int .u64 (id : Int), .int .u32 (x : Int), .int .u32 (y : Int), .string v] 34 (0, 0))) := hg
  have l0 : w.heap.size < W0.heap.size := (Array.getElem?_eq_some_iff.1 hg).1
  have HRW : Hid (RowsAt w o cap l) := hr
  have HR : Hid (∀ _ : True, _) := fun _ => eright_any l o cap W0 (hr.below hb (Nat.le_refl _))
  rw [hL] at HR
  clear hb hg hW0 hr hL
  go_enter Try.func16, Try.ntmps16
  go_wp2_with (first | (rw [HW0.out]; clear HW0))
  refine Calls.mono (HR.out trivial) ?_
  rintro e w1 ⟨rfl, b1⟩
  have HB1 : Hid (Below w.heap.size w w1) := HB0.out.trans (b1.mono HB0.out.size)
  have HG1 : Hid (w1.heap[w.heap.size]? = some (.cells #[.int .i64 1, .int .u64 (id : Int), .int .u32 (x : Int), .int .u32 (y : Int), .string v] 34 (0, 0))) := (b1.block _ l0).trans HG0.out
  have l1 : w.heap.size < w1.heap.size := (Array.getElem?_eq_some_iff.1 HG1.out).1
  obtain ⟨c0, c1, c2, c3, c4⟩ := op_cells HG1.out
  clear b1 HR HB0 HG0 l0
  go_wp2_with fail
  refine (HRR.out _).mono ?_
  rintro e w2 ⟨rfl, b2⟩
  have HB2 : Hid (Below w.heap.size w w2) := HB1.out.trans (b2.mono HB1.out.size)
  have HG2 : Hid (w2.heap[w.heap.size]? = some (.cells #[.int .i64 1, .int .u64 (id : Int), .int .u32 (x : Int), .int .u32 (y : Int), .string v] 34 (0, 0))) := (b2.block _ l1).trans HG1.out
  have l2 : w.heap.size < w2.heap.size := (Array.getElem?_eq_some_iff.1 HG2.out).1
  clear c0 c1 c2 c3 c4
  obtain ⟨c0, c1, c2, c3, c4⟩ := op_cells HG2.out
  clear b2 HRR HB1 HG1 l1
  have HGT : Hid (∀ _ : True, _) := fun _ => hget_any o cap l id w2 (HRW.out.below HB2.out (Nat.le_refl _))
  rw [HV.out, HE.out] at HGT
  simp only [rv] at HGT
  go_wp2_with fail
  refine Calls.mono (HGT.out trivial) ?_
  rintro e w3 ⟨rfl, b3⟩
  have HB3 : Hid (Below w.heap.size w w3) := HB2.out.trans (b3.mono HB2.out.size)
  have hg3 := (b3.block _ l2).trans HG2.out
  have l3 : w.heap.size < w3.heap.size := Nat.lt_of_lt_of_le l2 b3.size
  have b4 := below_new w3 (.cells #[.int .u64 (sid : Int), .int .u32 (sx : Int), .int .u32 (sy : Int), .string sv] 27)
  have hg4 := heap_alloc_new w3 (.cells #[.int .u64 (sid : Int), .int .u32 (sx : Int), .int .u32 (sy : Int), .string sv] 27)
  obtain ⟨w4, hw4⟩ : ∃ w4, w3.alloc (.cells #[.int .u64 (sid : Int), .int .u32 (sx : Int), .int .u32 (sy : Int), .string sv] 27) = w4 := ⟨_, rfl⟩
  rw [hw4] at b4 hg4
  have HW4 : Hid _ := hw4
  have HB4 : Hid (Below w.heap.size w w4) := HB3.out.trans (b4.mono HB3.out.size)
  have HG4 : Hid (w4.heap[w.heap.size]? = some (.cells #[.int .i64 1, .int .u64 (id : Int), .int .u32 (x : Int), .int .u32 (y : Int), .string v] 34 (0, 0))) := (b4.block _ l3).trans hg3
  have HS4 : Hid (w4.heap[w3.heap.size]? = some (.cells #[.int .u64 (sid : Int), .int .u32 (sx : Int), .int .u32 (sy : Int), .string sv] 27 (0, 0))) := hg4
  have l4 : w.heap.size < w4.heap.size := (Array.getElem?_eq_some_iff.1 HG4.out).1
  have m4 : w3.heap.size < w4.heap.size := (Array.getElem?_eq_some_iff.1 hg4).1
  have b5 := below_new w4 (.cells #[.int .u64 (id : Int), .int .u32 (x : Int), .int .u32 (y : Int), .string v] 27)
  have hg5 := heap_alloc_new w4 (.cells #[.int .u64 (id : Int), .int .u32 (x : Int), .int .u32 (y : Int), .string v] 27)
  obtain ⟨w5, hw5⟩ : ∃ w5, w4.alloc (.cells #[.int .u64 (id : Int), .int .u32 (x : Int), .int .u32 (y : Int), .string v] 27) = w5 := ⟨_, rfl⟩
  rw [hw5] at b5 hg5
  have HW5 : Hid _ := hw5
  have HB5 : Hid (Below w.heap.size w w5) := HB4.out.trans (b5.mono HB4.out.size)
  have HG5 : Hid (w5.heap[w.heap.size]? = some (.cells #[.int .i64 1, .int .u64 (id : Int), .int .u32 (x : Int), .int .u32 (y : Int), .string v] 34 (0, 0))) := (b5.block _ l4).trans HG4.out
  have HT5 : Hid (w5.heap[w4.heap.size]? = some (.cells #[.int .u64 (id : Int), .int .u32 (x : Int), .int .u32 (y : Int), .string v] 27 (0, 0))) := hg5
  obtain ⟨-, -, -, -, d0, d1, d2, d3⟩ := row_facts hg5
  obtain ⟨e0, e1, e2, e3, e4⟩ := op_cells HG4.out
  obtain ⟨i0, i1, i2, i3, i4⟩ := op_cells HG5.out
  clear hg5 hw5 b5
  clear b3 b4 hg3 hg4 hw4 HGT HB2 HG2 l2 HB3
  go_wp2_with (first | (rw [HW4.out]; clear HW4) | (rw [HW5.out]; clear HW5))
  refine Calls.mono (HWI.out _ (HRW.out.below HB5.out (Nat.le_refl _))) ?_
  rintro e w7 ⟨o6, cap6, rfl, hr6, b6, f6⟩
  have HB7 : Hid (Below w.heap.size w w7) := HB5.out.trans (b6.mono HB5.out.size)
  have HR6 : Hid (RowsAt w7 o6 cap6 M ∧ Fresh w.heap.size o6) := ⟨hr6, f6.mono HB5.out.size⟩
  clear b6 hr6 f6 HWI
  go_wp2_with fail
  go_ret2
  exact ⟨rfl, HB7.out⟩
set_option maxRecDepth 100000 in
set_option maxHeartbeats 4000000 in
theorem happly_del (o : Option Addr) (cap : Nat) (l : List Rw) (id x y : Nat) (v : ByteArray) (w : World) (hr : RowsAt w o cap l) (hL : rightL l = true) (sid sx sy : Nat) (sv : ByteArray) (hV : getV l id = ⟨sid, sx, sy, sv⟩) (hE : getE l id = 0) (hmx : l.length ≤ 1000) (M : List Rw) (hM : wOut l id ⟨id, x, y, v⟩ true = M) (hm : ¬ 1000 < M.length) :
    Calls Try.prog 16 #[.slice o l.length cap, .agg #[.int .i64 3, .int .u64 (id : Int), .int .u32 (x : Int), .int .u32 (y : Int), .string v]] w (KP M 0 w) := by
  have HV : Hid (getV l id = ⟨sid, sx, sy, sv⟩) := hV
  have HE : Hid (getE l id = 0) := hE
  clear hV hE
  have qm : decide ((1000 : Int) < (M.length : Int)) = false := by simp; omega
  have HWI : Hid (∀ W, RowsAt W o cap l → Calls Try.prog 29 #[.slice o l.length cap, .int .u64 (id : Int), .agg #[.int .u64 (id : Int), .int .u32 (x : Int), .int .u32 (y : Int), .string v], .bool false] W (WR M W)) := fun W hW => by
    have := hwith_any o cap l id ⟨id, x, y, v⟩ false W hW hmx
    rw [show (!false) = true from rfl, hM] at this
    exact this
  clear hmx hM
  have HRR : Hid _ := erightRow_any (⟨id, x, y, v⟩ : Rw)
  simp only [rv] at HRR
  generalize rightRow ⟨id, x, y, v⟩ = RRR at HRR
  have hb := below_new w (.cells #[.int .i64 3, .int .u64 (id : Int), .int .u32 (x : Int), .int .u32 (y : Int), .string v] 34)
  have hg := heap_alloc_new w (.cells #[.int .i64 3, .int .u64 (id : Int), .int .u32 (x : Int), .int .u32 (y : Int), .string v] 34)
  obtain ⟨W0, hW0⟩ : ∃ W0, w.alloc (.cells #[.int .i64 3, .int .u64 (id : Int), .int .u32 (x : Int), .int .u32 (y : Int), .string v] 34) = W0 := ⟨_, rfl⟩
  rw [hW0] at hb hg
  have HW0 : Hid _ := hW0
  have HB0 : Hid (Below w.heap.size w W0) := hb
  have HG0 : Hid (W0.heap[w.heap.size]? = some (.cells #[.int .i64 3, .int .u64 (id : Int), .int .u32 (x : Int), .int .u32 (y : Int), .string v] 34 (0, 0))) := hg
  have l0 : w.heap.size < W0.heap.size := (Array.getElem?_eq_some_iff.1 hg).1
  have HRW : Hid (RowsAt w o cap l) := hr
  have HR : Hid (∀ _ : True, _) := fun _ => eright_any l o cap W0 (hr.below hb (Nat.le_refl _))
  rw [hL] at HR
  clear hb hg hW0 hr hL
  go_enter Try.func16, Try.ntmps16
  go_wp2_with (first | (rw [HW0.out]; clear HW0))
  refine Calls.mono (HR.out trivial) ?_
  rintro e w1 ⟨rfl, b1⟩
  have HB1 : Hid (Below w.heap.size w w1) := HB0.out.trans (b1.mono HB0.out.size)
  have HG1 : Hid (w1.heap[w.heap.size]? = some (.cells #[.int .i64 3, .int .u64 (id : Int), .int .u32 (x : Int), .int .u32 (y : Int), .string v] 34 (0, 0))) := (b1.block _ l0).trans HG0.out
  have l1 : w.heap.size < w1.heap.size := (Array.getElem?_eq_some_iff.1 HG1.out).1
  obtain ⟨c0, c1, c2, c3, c4⟩ := op_cells HG1.out
  clear b1 HR HB0 HG0 l0
  go_wp2_with fail
  refine (HRR.out _).mono ?_
  rintro e w2 ⟨rfl, b2⟩
  have HB2 : Hid (Below w.heap.size w w2) := HB1.out.trans (b2.mono HB1.out.size)
  have HG2 : Hid (w2.heap[w.heap.size]? = some (.cells #[.int .i64 3, .int .u64 (id : Int), .int .u32 (x : Int), .int .u32 (y : Int), .string v] 34 (0, 0))) := (b2.block _ l1).trans HG1.out
  have l2 : w.heap.size < w2.heap.size := (Array.getElem?_eq_some_iff.1 HG2.out).1
  clear c0 c1 c2 c3 c4
  obtain ⟨c0, c1, c2, c3, c4⟩ := op_cells HG2.out
  clear b2 HRR HB1 HG1 l1
  have HGT : Hid (∀ _ : True, _) := fun _ => hget_any o cap l id w2 (HRW.out.below HB2.out (Nat.le_refl _))
  rw [HV.out, HE.out] at HGT
  simp only [rv] at HGT
  go_wp2_with fail
  refine Calls.mono (HGT.out trivial) ?_
  rintro e w3 ⟨rfl, b3⟩
  have HB3 : Hid (Below w.heap.size w w3) := HB2.out.trans (b3.mono HB2.out.size)
  have hg3 := (b3.block _ l2).trans HG2.out
  have l3 : w.heap.size < w3.heap.size := Nat.lt_of_lt_of_le l2 b3.size
  have b4 := below_new w3 (.cells #[.int .u64 (sid : Int), .int .u32 (sx : Int), .int .u32 (sy : Int), .string sv] 27)
  have hg4 := heap_alloc_new w3 (.cells #[.int .u64 (sid : Int), .int .u32 (sx : Int), .int .u32 (sy : Int), .string sv] 27)
  obtain ⟨w4, hw4⟩ : ∃ w4, w3.alloc (.cells #[.int .u64 (sid : Int), .int .u32 (sx : Int), .int .u32 (sy : Int), .string sv] 27) = w4 := ⟨_, rfl⟩
  rw [hw4] at b4 hg4
  have HW4 : Hid _ := hw4
  have HB4 : Hid (Below w.heap.size w w4) := HB3.out.trans (b4.mono HB3.out.size)
  have HG4 : Hid (w4.heap[w.heap.size]? = some (.cells #[.int .i64 3, .int .u64 (id : Int), .int .u32 (x : Int), .int .u32 (y : Int), .string v] 34 (0, 0))) := (b4.block _ l3).trans hg3
  have HS4 : Hid (w4.heap[w3.heap.size]? = some (.cells #[.int .u64 (sid : Int), .int .u32 (sx : Int), .int .u32 (sy : Int), .string sv] 27 (0, 0))) := hg4
  have l4 : w.heap.size < w4.heap.size := (Array.getElem?_eq_some_iff.1 HG4.out).1
  have m4 : w3.heap.size < w4.heap.size := (Array.getElem?_eq_some_iff.1 hg4).1
  have b5 := below_new w4 (.cells #[.int .u64 (id : Int), .int .u32 (x : Int), .int .u32 (y : Int), .string v] 27)
  have hg5 := heap_alloc_new w4 (.cells #[.int .u64 (id : Int), .int .u32 (x : Int), .int .u32 (y : Int), .string v] 27)
  obtain ⟨w5, hw5⟩ : ∃ w5, w4.alloc (.cells #[.int .u64 (id : Int), .int .u32 (x : Int), .int .u32 (y : Int), .string v] 27) = w5 := ⟨_, rfl⟩
  rw [hw5] at b5 hg5
  have HW5 : Hid _ := hw5
  have HB5 : Hid (Below w.heap.size w w5) := HB4.out.trans (b5.mono HB4.out.size)
  have HG5 : Hid (w5.heap[w.heap.size]? = some (.cells #[.int .i64 3, .int .u64 (id : Int), .int .u32 (x : Int), .int .u32 (y : Int), .string v] 34 (0, 0))) := (b5.block _ l4).trans HG4.out
  have HT5 : Hid (w5.heap[w4.heap.size]? = some (.cells #[.int .u64 (id : Int), .int .u32 (x : Int), .int .u32 (y : Int), .string v] 27 (0, 0))) := hg5
  obtain ⟨-, -, -, -, d0, d1, d2, d3⟩ := row_facts hg5
  obtain ⟨e0, e1, e2, e3, e4⟩ := op_cells HG4.out
  obtain ⟨i0, i1, i2, i3, i4⟩ := op_cells HG5.out
  clear hg5 hw5 b5
  clear b3 b4 hg3 hg4 hw4 HGT HB2 HG2 l2 HB3
  go_wp2_with (first | (rw [HW4.out]; clear HW4) | (rw [HW5.out]; clear HW5))
  refine Calls.mono (HWI.out _ (HRW.out.below HB5.out (Nat.le_refl _))) ?_
  rintro e w7 ⟨o6, cap6, rfl, hr6, b6, f6⟩
  have HB7 : Hid (Below w.heap.size w w7) := HB5.out.trans (b6.mono HB5.out.size)
  have HR6 : Hid (RowsAt w7 o6 cap6 M ∧ Fresh w.heap.size o6) := ⟨hr6, f6.mono HB5.out.size⟩
  clear b6 hr6 f6 HWI
  go_wp2_with fail
  go_ret2
  exact ⟨o6, cap6, rfl, HR6.out.1, HB7.out, HR6.out.2⟩
set_option maxRecDepth 100000 in
set_option maxHeartbeats 4000000 in
theorem happly_move (o : Option Addr) (cap : Nat) (l : List Rw) (id x y : Nat) (v : ByteArray) (w : World) (hr : RowsAt w o cap l) (hL : rightL l = true) (hX : ¬ 2147483648 ≤ x) (hY : ¬ 2147483648 ≤ y) (sid sx sy : Nat) (sv : ByteArray) (hV : getV l id = ⟨sid, sx, sy, sv⟩) (hE : getE l id = 0) (hmx : l.length ≤ 1000) (M : List Rw) (hM : wOut l id ⟨id, x, y, sv⟩ false = M) (hm : ¬ 1000 < M.length) :
    Calls Try.prog 16 #[.slice o l.length cap, .agg #[.int .i64 2, .int .u64 (id : Int), .int .u32 (x : Int), .int .u32 (y : Int), .string v]] w (KP M 0 w) := by
  have HV : Hid (getV l id = ⟨sid, sx, sy, sv⟩) := hV
  have HE : Hid (getE l id = 0) := hE
  clear hV hE
  have qm : decide ((1000 : Int) < (M.length : Int)) = false := by simp; omega
  have HWI : Hid (∀ W, RowsAt W o cap l → Calls Try.prog 29 #[.slice o l.length cap, .int .u64 (id : Int), .agg #[.int .u64 (id : Int), .int .u32 (x : Int), .int .u32 (y : Int), .string sv], .bool true] W (WR M W)) := fun W hW => by
    have := hwith_any o cap l id ⟨id, x, y, sv⟩ true W hW hmx
    rw [show (!true) = false from rfl, hM] at this
    exact this
  clear hmx hM
  have qx1 : decide ((2147483648 : Int) ≤ (x : Int)) = false := by simp; omega
  have qx2 : decide (2147483648 ≤ x) = false := by simp; omega
  have qy1 : decide ((2147483648 : Int) ≤ (y : Int)) = false := by simp; omega
  have qy2 : decide (2147483648 ≤ y) = false := by simp; omega
  have HRR : Hid _ := erightRow_any (⟨id, x, y, v⟩ : Rw)
  simp only [rv] at HRR
  generalize rightRow ⟨id, x, y, v⟩ = RRR at HRR
  have hb := below_new w (.cells #[.int .i64 2, .int .u64 (id : Int), .int .u32 (x : Int), .int .u32 (y : Int), .string v] 34)
  have hg := heap_alloc_new w (.cells #[.int .i64 2, .int .u64 (id : Int), .int .u32 (x : Int), .int .u32 (y : Int), .string v] 34)
  obtain ⟨W0, hW0⟩ : ∃ W0, w.alloc (.cells #[.int .i64 2, .int .u64 (id : Int), .int .u32 (x : Int), .int .u32 (y : Int), .string v] 34) = W0 := ⟨_, rfl⟩
  rw [hW0] at hb hg
  have HW0 : Hid _ := hW0
  have HB0 : Hid (Below w.heap.size w W0) := hb
  have HG0 : Hid (W0.heap[w.heap.size]? = some (.cells #[.int .i64 2, .int .u64 (id : Int), .int .u32 (x : Int), .int .u32 (y : Int), .string v] 34 (0, 0))) := hg
  have l0 : w.heap.size < W0.heap.size := (Array.getElem?_eq_some_iff.1 hg).1
  have HRW : Hid (RowsAt w o cap l) := hr
  have HR : Hid (∀ _ : True, _) := fun _ => eright_any l o cap W0 (hr.below hb (Nat.le_refl _))
  rw [hL] at HR
  clear hb hg hW0 hr hL
  go_enter Try.func16, Try.ntmps16
  go_wp2_with (first | (rw [HW0.out]; clear HW0))
  refine Calls.mono (HR.out trivial) ?_
  rintro e w1 ⟨rfl, b1⟩
  have HB1 : Hid (Below w.heap.size w w1) := HB0.out.trans (b1.mono HB0.out.size)
  have HG1 : Hid (w1.heap[w.heap.size]? = some (.cells #[.int .i64 2, .int .u64 (id : Int), .int .u32 (x : Int), .int .u32 (y : Int), .string v] 34 (0, 0))) := (b1.block _ l0).trans HG0.out
  have l1 : w.heap.size < w1.heap.size := (Array.getElem?_eq_some_iff.1 HG1.out).1
  obtain ⟨c0, c1, c2, c3, c4⟩ := op_cells HG1.out
  clear b1 HR HB0 HG0 l0
  go_wp2_with fail
  refine (HRR.out _).mono ?_
  rintro e w2 ⟨rfl, b2⟩
  have HB2 : Hid (Below w.heap.size w w2) := HB1.out.trans (b2.mono HB1.out.size)
  have HG2 : Hid (w2.heap[w.heap.size]? = some (.cells #[.int .i64 2, .int .u64 (id : Int), .int .u32 (x : Int), .int .u32 (y : Int), .string v] 34 (0, 0))) := (b2.block _ l1).trans HG1.out
  have l2 : w.heap.size < w2.heap.size := (Array.getElem?_eq_some_iff.1 HG2.out).1
  clear c0 c1 c2 c3 c4
  obtain ⟨c0, c1, c2, c3, c4⟩ := op_cells HG2.out
  clear b2 HRR HB1 HG1 l1
  have HGT : Hid (∀ _ : True, _) := fun _ => hget_any o cap l id w2 (HRW.out.below HB2.out (Nat.le_refl _))
  rw [HV.out, HE.out] at HGT
  simp only [rv] at HGT
  go_wp2_with fail
  refine Calls.mono (HGT.out trivial) ?_
  rintro e w3 ⟨rfl, b3⟩
  have HB3 : Hid (Below w.heap.size w w3) := HB2.out.trans (b3.mono HB2.out.size)
  have hg3 := (b3.block _ l2).trans HG2.out
  have l3 : w.heap.size < w3.heap.size := Nat.lt_of_lt_of_le l2 b3.size
  have b4 := below_new w3 (.cells #[.int .u64 (sid : Int), .int .u32 (sx : Int), .int .u32 (sy : Int), .string sv] 27)
  have hg4 := heap_alloc_new w3 (.cells #[.int .u64 (sid : Int), .int .u32 (sx : Int), .int .u32 (sy : Int), .string sv] 27)
  obtain ⟨w4, hw4⟩ : ∃ w4, w3.alloc (.cells #[.int .u64 (sid : Int), .int .u32 (sx : Int), .int .u32 (sy : Int), .string sv] 27) = w4 := ⟨_, rfl⟩
  rw [hw4] at b4 hg4
  have HW4 : Hid _ := hw4
  have HB4 : Hid (Below w.heap.size w w4) := HB3.out.trans (b4.mono HB3.out.size)
  have HG4 : Hid (w4.heap[w.heap.size]? = some (.cells #[.int .i64 2, .int .u64 (id : Int), .int .u32 (x : Int), .int .u32 (y : Int), .string v] 34 (0, 0))) := (b4.block _ l3).trans hg3
  have HS4 : Hid (w4.heap[w3.heap.size]? = some (.cells #[.int .u64 (sid : Int), .int .u32 (sx : Int), .int .u32 (sy : Int), .string sv] 27 (0, 0))) := hg4
  have l4 : w.heap.size < w4.heap.size := (Array.getElem?_eq_some_iff.1 HG4.out).1
  have m4 : w3.heap.size < w4.heap.size := (Array.getElem?_eq_some_iff.1 hg4).1
  have b5 := below_new w4 (.cells #[.int .u64 (id : Int), .int .u32 (x : Int), .int .u32 (y : Int), .string v] 27)
  have hg5 := heap_alloc_new w4 (.cells #[.int .u64 (id : Int), .int .u32 (x : Int), .int .u32 (y : Int), .string v] 27)
  obtain ⟨w5, hw5⟩ : ∃ w5, w4.alloc (.cells #[.int .u64 (id : Int), .int .u32 (x : Int), .int .u32 (y : Int), .string v] 27) = w5 := ⟨_, rfl⟩
  rw [hw5] at b5 hg5
  have HW5 : Hid _ := hw5
  have HB5 : Hid (Below w.heap.size w w5) := HB4.out.trans (b5.mono HB4.out.size)
  have HG5 : Hid (w5.heap[w.heap.size]? = some (.cells #[.int .i64 2, .int .u64 (id : Int), .int .u32 (x : Int), .int .u32 (y : Int), .string v] 34 (0, 0))) := (b5.block _ l4).trans HG4.out
  have HT5 : Hid (w5.heap[w4.heap.size]? = some (.cells #[.int .u64 (id : Int), .int .u32 (x : Int), .int .u32 (y : Int), .string v] 27 (0, 0))) := hg5
  obtain ⟨-, -, -, -, d0, d1, d2, d3⟩ := row_facts hg5
  have hs5 := (b5.block _ m4).trans HS4.out
  obtain ⟨-, -, -, -, s0, s1, s2, s3⟩ := row_facts hs5
  have fz : w5.frozen? ⟨w4.heap.size, 3, none⟩ = false := (row_facts hg5).2.2.2.1
  have b6 := below_set w5 w4.heap.size 3 (.string sv) (Nat.le_of_lt l4)
  have t6 : (w5.setCell ⟨w4.heap.size, 3, none⟩ (.string sv)).heap[w4.heap.size]? = some (.cells #[.int .u64 (id : Int), .int .u32 (x : Int), .int .u32 (y : Int), .string sv] 27 (0, 0)) := heap_setCell_same w5 w4.heap.size 3 _ _ (.string sv) hg5
  have g6 := (setcr w5 w4.heap.size 3 (.string sv) (Nat.ne_of_lt l4)).trans HG5.out
  obtain ⟨w6, hw6⟩ : ∃ w6, w5.setCell ⟨w4.heap.size, 3, none⟩ (.string sv) = w6 := ⟨_, rfl⟩
  rw [hw6] at b6 t6 g6
  have HW6 : Hid _ := hw6
  have HB6 : Hid (Below w.heap.size w w6) := HB5.out.trans b6
  obtain ⟨-, -, -, -, t0, t1, t2, t3⟩ := row_facts t6
  obtain ⟨j0, j1, j2, j3, j4⟩ := op_cells g6
  clear hw6 b6 t6 g6 hs5
  obtain ⟨e0, e1, e2, e3, e4⟩ := op_cells HG4.out
  obtain ⟨i0, i1, i2, i3, i4⟩ := op_cells HG5.out
  clear hg5 hw5 b5
  clear b3 b4 hg3 hg4 hw4 HGT HB2 HG2 l2 HB3
  go_wp2_with (first | (rw [HW4.out]; clear HW4) | (rw [HW5.out]; clear HW5) | (rw [HW6.out]; clear HW6))
  refine Calls.mono (HWI.out _ (HRW.out.below HB6.out (Nat.le_refl _))) ?_
  rintro e w7 ⟨o6, cap6, rfl, hr6, b6, f6⟩
  have HB7 : Hid (Below w.heap.size w w7) := HB6.out.trans (b6.mono HB6.out.size)
  have HR6 : Hid (RowsAt w7 o6 cap6 M ∧ Fresh w.heap.size o6) := ⟨hr6, f6.mono HB6.out.size⟩
  clear b6 hr6 f6 HWI
  go_wp2_with fail
  go_ret2
  exact ⟨o6, cap6, rfl, HR6.out.1, HB7.out, HR6.out.2⟩
set_option maxRecDepth 100000 in
set_option maxHeartbeats 4000000 in
theorem happly_move82 (o : Option Addr) (cap : Nat) (l : List Rw) (id x y : Nat) (v : ByteArray) (w : World) (hr : RowsAt w o cap l) (hL : rightL l = true) (hX : ¬ 2147483648 ≤ x) (hY : ¬ 2147483648 ≤ y) (sid sx sy : Nat) (sv : ByteArray) (hV : getV l id = ⟨sid, sx, sy, sv⟩) (hE : getE l id = 0) (hmx : l.length ≤ 1000) (M : List Rw) (hM : wOut l id ⟨id, x, y, sv⟩ false = M) (hm : 1000 < M.length) :
    Calls Try.prog 16 #[.slice o l.length cap, .agg #[.int .i64 2, .int .u64 (id : Int), .int .u32 (x : Int), .int .u32 (y : Int), .string v]] w (fun e w' => e = .returned (.tuple #[.slice none 0 0, .int .i64 82]) ∧ Below w.heap.size w w') := by
  have HV : Hid (getV l id = ⟨sid, sx, sy, sv⟩) := hV
  have HE : Hid (getE l id = 0) := hE
  clear hV hE
  have qm : decide ((1000 : Int) < (M.length : Int)) = true := by simp; omega
  have HWI : Hid (∀ W, RowsAt W o cap l → Calls Try.prog 29 #[.slice o l.length cap, .int .u64 (id : Int), .agg #[.int .u64 (id : Int), .int .u32 (x : Int), .int .u32 (y : Int), .string sv], .bool true] W (WR M W)) := fun W hW => by
    have := hwith_any o cap l id ⟨id, x, y, sv⟩ true W hW hmx
    rw [show (!true) = false from rfl, hM] at this
    exact this
  clear hmx hM
  have qx1 : decide ((2147483648 : Int) ≤ (x : Int)) = false := by simp; omega
  have qx2 : decide (2147483648 ≤ x) = false := by simp; omega
  have qy1 : decide ((2147483648 : Int) ≤ (y : Int)) = false := by simp; omega
  have qy2 : decide (2147483648 ≤ y) = false := by simp; omega
  have HRR : Hid _ := erightRow_any (⟨id, x, y, v⟩ : Rw)
  simp only [rv] at HRR
  generalize rightRow ⟨id, x, y, v⟩ = RRR at HRR
  have hb := below_new w (.cells #[.int .i64 2, .int .u64 (id : Int), .int .u32 (x : Int), .int .u32 (y : Int), .string v] 34)
  have hg := heap_alloc_new w (.cells #[.int .i64 2, .int .u64 (id : Int), .int .u32 (x : Int), .int .u32 (y : Int), .string v] 34)
  obtain ⟨W0, hW0⟩ : ∃ W0, w.alloc (.cells #[.int .i64 2, .int .u64 (id : Int), .int .u32 (x : Int), .int .u32 (y : Int), .string v] 34) = W0 := ⟨_, rfl⟩
  rw [hW0] at hb hg
  have HW0 : Hid _ := hW0
  have HB0 : Hid (Below w.heap.size w W0) := hb
  have HG0 : Hid (W0.heap[w.heap.size]? = some (.cells #[.int .i64 2, .int .u64 (id : Int), .int .u32 (x : Int), .int .u32 (y : Int), .string v] 34 (0, 0))) := hg
  have l0 : w.heap.size < W0.heap.size := (Array.getElem?_eq_some_iff.1 hg).1
  have HRW : Hid (RowsAt w o cap l) := hr
  have HR : Hid (∀ _ : True, _) := fun _ => eright_any l o cap W0 (hr.below hb (Nat.le_refl _))
  rw [hL] at HR
  clear hb hg hW0 hr hL
  go_enter Try.func16, Try.ntmps16
  go_wp2_with (first | (rw [HW0.out]; clear HW0))
  refine Calls.mono (HR.out trivial) ?_
  rintro e w1 ⟨rfl, b1⟩
  have HB1 : Hid (Below w.heap.size w w1) := HB0.out.trans (b1.mono HB0.out.size)
  have HG1 : Hid (w1.heap[w.heap.size]? = some (.cells #[.int .i64 2, .int .u64 (id : Int), .int .u32 (x : Int), .int .u32 (y : Int), .string v] 34 (0, 0))) := (b1.block _ l0).trans HG0.out
  have l1 : w.heap.size < w1.heap.size := (Array.getElem?_eq_some_iff.1 HG1.out).1
  obtain ⟨c0, c1, c2, c3, c4⟩ := op_cells HG1.out
  clear b1 HR HB0 HG0 l0
  go_wp2_with fail
  refine (HRR.out _).mono ?_
  rintro e w2 ⟨rfl, b2⟩
  have HB2 : Hid (Below w.heap.size w w2) := HB1.out.trans (b2.mono HB1.out.size)
  have HG2 : Hid (w2.heap[w.heap.size]? = some (.cells #[.int .i64 2, .int .u64 (id : Int), .int .u32 (x : Int), .int .u32 (y : Int), .string v] 34 (0, 0))) := (b2.block _ l1).trans HG1.out
  have l2 : w.heap.size < w2.heap.size := (Array.getElem?_eq_some_iff.1 HG2.out).1
  clear c0 c1 c2 c3 c4
  obtain ⟨c0, c1, c2, c3, c4⟩ := op_cells HG2.out
  clear b2 HRR HB1 HG1 l1
  have HGT : Hid (∀ _ : True, _) := fun _ => hget_any o cap l id w2 (HRW.out.below HB2.out (Nat.le_refl _))
  rw [HV.out, HE.out] at HGT
  simp only [rv] at HGT
  go_wp2_with fail
  refine Calls.mono (HGT.out trivial) ?_
  rintro e w3 ⟨rfl, b3⟩
  have HB3 : Hid (Below w.heap.size w w3) := HB2.out.trans (b3.mono HB2.out.size)
  have hg3 := (b3.block _ l2).trans HG2.out
  have l3 : w.heap.size < w3.heap.size := Nat.lt_of_lt_of_le l2 b3.size
  have b4 := below_new w3 (.cells #[.int .u64 (sid : Int), .int .u32 (sx : Int), .int .u32 (sy : Int), .string sv] 27)
  have hg4 := heap_alloc_new w3 (.cells #[.int .u64 (sid : Int), .int .u32 (sx : Int), .int .u32 (sy : Int), .string sv] 27)
  obtain ⟨w4, hw4⟩ : ∃ w4, w3.alloc (.cells #[.int .u64 (sid : Int), .int .u32 (sx : Int), .int .u32 (sy : Int), .string sv] 27) = w4 := ⟨_, rfl⟩
  rw [hw4] at b4 hg4
  have HW4 : Hid _ := hw4
  have HB4 : Hid (Below w.heap.size w w4) := HB3.out.trans (b4.mono HB3.out.size)
  have HG4 : Hid (w4.heap[w.heap.size]? = some (.cells #[.int .i64 2, .int .u64 (id : Int), .int .u32 (x : Int), .int .u32 (y : Int), .string v] 34 (0, 0))) := (b4.block _ l3).trans hg3
  have HS4 : Hid (w4.heap[w3.heap.size]? = some (.cells #[.int .u64 (sid : Int), .int .u32 (sx : Int), .int .u32 (sy : Int), .string sv] 27 (0, 0))) := hg4
  have l4 : w.heap.size < w4.heap.size := (Array.getElem?_eq_some_iff.1 HG4.out).1
  have m4 : w3.heap.size < w4.heap.size := (Array.getElem?_eq_some_iff.1 hg4).1
  have b5 := below_new w4 (.cells #[.int .u64 (id : Int), .int .u32 (x : Int), .int .u32 (y : Int), .string v] 27)
  have hg5 := heap_alloc_new w4 (.cells #[.int .u64 (id : Int), .int .u32 (x : Int), .int .u32 (y : Int), .string v] 27)
  obtain ⟨w5, hw5⟩ : ∃ w5, w4.alloc (.cells #[.int .u64 (id : Int), .int .u32 (x : Int), .int .u32 (y : Int), .string v] 27) = w5 := ⟨_, rfl⟩
  rw [hw5] at b5 hg5
  have HW5 : Hid _ := hw5
  have HB5 : Hid (Below w.heap.size w w5) := HB4.out.trans (b5.mono HB4.out.size)
  have HG5 : Hid (w5.heap[w.heap.size]? = some (.cells #[.int .i64 2, .int .u64 (id : Int), .int .u32 (x : Int), .int .u32 (y : Int), .string v] 34 (0, 0))) := (b5.block _ l4).trans HG4.out
  have HT5 : Hid (w5.heap[w4.heap.size]? = some (.cells #[.int .u64 (id : Int), .int .u32 (x : Int), .int .u32 (y : Int), .string v] 27 (0, 0))) := hg5
  obtain ⟨-, -, -, -, d0, d1, d2, d3⟩ := row_facts hg5
  have hs5 := (b5.block _ m4).trans HS4.out
  obtain ⟨-, -, -, -, s0, s1, s2, s3⟩ := row_facts hs5
  have fz : w5.frozen? ⟨w4.heap.size, 3, none⟩ = false := (row_facts hg5).2.2.2.1
  have b6 := below_set w5 w4.heap.size 3 (.string sv) (Nat.le_of_lt l4)
  have t6 : (w5.setCell ⟨w4.heap.size, 3, none⟩ (.string sv)).heap[w4.heap.size]? = some (.cells #[.int .u64 (id : Int), .int .u32 (x : Int), .int .u32 (y : Int), .string sv] 27 (0, 0)) := heap_setCell_same w5 w4.heap.size 3 _ _ (.string sv) hg5
  have g6 := (setcr w5 w4.heap.size 3 (.string sv) (Nat.ne_of_lt l4)).trans HG5.out
  obtain ⟨w6, hw6⟩ : ∃ w6, w5.setCell ⟨w4.heap.size, 3, none⟩ (.string sv) = w6 := ⟨_, rfl⟩
  rw [hw6] at b6 t6 g6
  have HW6 : Hid _ := hw6
  have HB6 : Hid (Below w.heap.size w w6) := HB5.out.trans b6
  obtain ⟨-, -, -, -, t0, t1, t2, t3⟩ := row_facts t6
  obtain ⟨j0, j1, j2, j3, j4⟩ := op_cells g6
  clear hw6 b6 t6 g6 hs5
  obtain ⟨e0, e1, e2, e3, e4⟩ := op_cells HG4.out
  obtain ⟨i0, i1, i2, i3, i4⟩ := op_cells HG5.out
  clear hg5 hw5 b5
  clear b3 b4 hg3 hg4 hw4 HGT HB2 HG2 l2 HB3
  go_wp2_with (first | (rw [HW4.out]; clear HW4) | (rw [HW5.out]; clear HW5) | (rw [HW6.out]; clear HW6))
  refine Calls.mono (HWI.out _ (HRW.out.below HB6.out (Nat.le_refl _))) ?_
  rintro e w7 ⟨o6, cap6, rfl, hr6, b6, f6⟩
  have HB7 : Hid (Below w.heap.size w w7) := HB6.out.trans (b6.mono HB6.out.size)
  have HR6 : Hid (RowsAt w7 o6 cap6 M ∧ Fresh w.heap.size o6) := ⟨hr6, f6.mono HB6.out.size⟩
  clear b6 hr6 f6 HWI
  go_wp2_with fail
  go_ret2
  exact ⟨rfl, HB7.out⟩
end Go.Proofs.Ythneciodobeehaa.Rp
