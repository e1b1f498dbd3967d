/- Apply. -/
import Derived.Test.YthneciodobeehaaPTI
namespace Go.Proofs.Ythneciodobeehaa.Rp
open Go.RowKit Go.Lib
open Go.Proofs.Ythneciodobeehaa.Rc Go.Proofs.Ythneciodobeehaa.Rq
set_option maxRecDepth 100000 in
set_option maxHeartbeats 4000000 in
theorem apply_no (o : Option Addr) (cap : Nat) (l : List Rw) (k : Int) (id x y : Nat) (v : ByteArray) (w : World) (hr : RowsAt w o cap l) (h : rightL l = false) :
    Calls Try.prog 15 #[.slice o l.length cap, ov ⟨k, ⟨id, x, y, v⟩⟩] w (fun e w' => e = .returned (.tuple #[.slice none 0 0, .int .i64 80]) ∧ Below w.heap.size w w') := by
  have hb := below_new w (.cells #[.int .i64 k, .int .u64 (id : Int), .int .u32 (x : Int), .int .u32 (y : Int), .string v] 34)
  have hg := heap_alloc_new w (.cells #[.int .i64 k, .int .u64 (id : Int), .int .u32 (x : Int), .int .u32 (y : Int), .string v] 34)
  obtain ⟨W0, hW0⟩ : ∃ W0, w.alloc (.cells #[.int .i64 k, .int .u64 (id : Int), .int .u32 (x : Int), .int .u32 (y : Int), .string v] 34) = W0 := ⟨_, rfl⟩
  rw [hW0] at hb hg
  have HW0 : Hid _ := hW0
  have HB0 : Hid (Below w.heap.size w W0) := hb
  have HG0 : Hid (W0.heap[w.heap.size]? = some (.cells #[.int .i64 k, .int .u64 (id : Int), .int .u32 (x : Int), .int .u32 (y : Int), .string v] 34 (0, 0))) := hg
  have l0 : w.heap.size < W0.heap.size := (Array.getElem?_eq_some_iff.1 hg).1
  have HRW : Hid (RowsAt w o cap l) := hr
  have HGT : Hid (∀ _ : True, _) := fun _ => get_any o cap l id W0 (hr.below hb (Nat.le_refl _))
  obtain ⟨c0, c1, c2, c3, c4⟩ := op_cells hg
  have HCK : Hid _ := check_any ⟨k, ⟨id, x, y, v⟩⟩
  obtain ⟨s, hs⟩ : ∃ s : Rw, zr = s := ⟨_, rfl⟩
  rw [show getE l id = 80 by unfold getE; rw [h]; rfl, show getV l id = s by unfold getV; rw [h]; exact hs] at HGT
  obtain ⟨sid, sx, sy, sv⟩ := s
  simp only [rv] at HGT
  simp only [ov]
  clear hb hg hW0 hr h hs
  go_enter Try.func15, Try.ntmps15
  go_wp2_with (first | (rw [HW0.out]; clear HW0))
  refine Calls.mono (HGT.out trivial) ?_
  rintro e w1 ⟨rfl, b1⟩
  have HB1 : Hid (Below w.heap.size w w1) := HB0.out.trans (b1.mono HB0.out.size)
  have hg1 := (b1.block _ l0).trans HG0.out
  have l1 : w.heap.size < w1.heap.size := Nat.lt_of_lt_of_le l0 b1.size
  have b2 := below_new w1 (.cells #[.int .u64 (sid : Int), .int .u32 (sx : Int), .int .u32 (sy : Int), .string sv] 27)
  have hg2 := heap_alloc_new w1 (.cells #[.int .u64 (sid : Int), .int .u32 (sx : Int), .int .u32 (sy : Int), .string sv] 27)
  obtain ⟨w2, hw2⟩ : ∃ w2, w1.alloc (.cells #[.int .u64 (sid : Int), .int .u32 (sx : Int), .int .u32 (sy : Int), .string sv] 27) = w2 := ⟨_, rfl⟩
  rw [hw2] at b2 hg2
  have HW2 : Hid _ := hw2
  have HB2 : Hid (Below w.heap.size w w2) := HB1.out.trans (b2.mono HB1.out.size)
  have HG2 : Hid (w2.heap[w.heap.size]? = some (.cells #[.int .i64 k, .int .u64 (id : Int), .int .u32 (x : Int), .int .u32 (y : Int), .string v] 34 (0, 0))) := (b2.block _ l1).trans hg1
  have HS2 : Hid (w2.heap[w1.heap.size]? = some (.cells #[.int .u64 (sid : Int), .int .u32 (sx : Int), .int .u32 (sy : Int), .string sv] 27 (0, 0))) := hg2
  have l2 : w.heap.size < w2.heap.size := (Array.getElem?_eq_some_iff.1 HG2.out).1
  have m2 : w1.heap.size < w2.heap.size := (Array.getElem?_eq_some_iff.1 hg2).1
  clear c0 c1 c2 c3 c4
  obtain ⟨c0, c1, c2, c3, c4⟩ := op_cells HG2.out
  obtain ⟨-, -, -, -, d0, d1, d2, d3⟩ := row_facts hg2
  clear b1 b2 hg1 hg2 hw2 HGT HB0 HG0 l0
  go_wp2_with (first | (rw [HW2.out]; clear HW2))
  go_ret2
  exact ⟨rfl, HB2.out⟩
set_option maxRecDepth 100000 in
set_option maxHeartbeats 4000000 in
theorem apply_bad (o : Option Addr) (cap : Nat) (l : List Rw) (k : Int) (id x y : Nat) (v : ByteArray) (w : World) (hr : RowsAt w o cap l) (h : rightL l = true) (hc : chkO ⟨k, ⟨id, x, y, v⟩⟩ ≠ 0) :
    Calls Try.prog 15 #[.slice o l.length cap, ov ⟨k, ⟨id, x, y, v⟩⟩] w (fun e w' => e = .returned (.tuple #[.slice none 0 0, .int .i64 (chkO ⟨k, ⟨id, x, y, v⟩⟩)]) ∧ Below w.heap.size w w') := by
  have hb := below_new w (.cells #[.int .i64 k, .int .u64 (id : Int), .int .u32 (x : Int), .int .u32 (y : Int), .string v] 34)
  have hg := heap_alloc_new w (.cells #[.int .i64 k, .int .u64 (id : Int), .int .u32 (x : Int), .int .u32 (y : Int), .string v] 34)
  obtain ⟨W0, hW0⟩ : ∃ W0, w.alloc (.cells #[.int .i64 k, .int .u64 (id : Int), .int .u32 (x : Int), .int .u32 (y : Int), .string v] 34) = W0 := ⟨_, rfl⟩
  rw [hW0] at hb hg
  have HW0 : Hid _ := hW0
  have HB0 : Hid (Below w.heap.size w W0) := hb
  have HG0 : Hid (W0.heap[w.heap.size]? = some (.cells #[.int .i64 k, .int .u64 (id : Int), .int .u32 (x : Int), .int .u32 (y : Int), .string v] 34 (0, 0))) := hg
  have l0 : w.heap.size < W0.heap.size := (Array.getElem?_eq_some_iff.1 hg).1
  have HRW : Hid (RowsAt w o cap l) := hr
  have HGT : Hid (∀ _ : True, _) := fun _ => get_any o cap l id W0 (hr.below hb (Nat.le_refl _))
  obtain ⟨c0, c1, c2, c3, c4⟩ := op_cells hg
  have HCK : Hid _ := check_any ⟨k, ⟨id, x, y, v⟩⟩
  obtain ⟨tE, htE⟩ : ∃ tE, getE l id = tE := ⟨_, rfl⟩
  obtain ⟨s, hs⟩ : ∃ s, getV l id = s := ⟨_, rfl⟩
  have hT : (tE == 80) = false := by
    rw [← htE]
    unfold getE
    rw [if_pos h]
    split <;> rfl
  rw [htE, hs] at HGT
  obtain ⟨sid, sx, sy, sv⟩ := s
  generalize chkO ⟨k, ⟨id, x, y, v⟩⟩ = E at *
  have q0 : (E == 0) = false := by simpa using hc
  simp only [rv] at HGT
  simp only [ov] at HCK ⊢
  clear hb hg hW0 hr h hs htE hc
  go_enter Try.func15, Try.ntmps15
  go_wp2_with (first | (rw [HW0.out]; clear HW0))
  refine Calls.mono (HGT.out trivial) ?_
  rintro e w1 ⟨rfl, b1⟩
  have HB1 : Hid (Below w.heap.size w w1) := HB0.out.trans (b1.mono HB0.out.size)
  have hg1 := (b1.block _ l0).trans HG0.out
  have l1 : w.heap.size < w1.heap.size := Nat.lt_of_lt_of_le l0 b1.size
  have b2 := below_new w1 (.cells #[.int .u64 (sid : Int), .int .u32 (sx : Int), .int .u32 (sy : Int), .string sv] 27)
  have hg2 := heap_alloc_new w1 (.cells #[.int .u64 (sid : Int), .int .u32 (sx : Int), .int .u32 (sy : Int), .string sv] 27)
  obtain ⟨w2, hw2⟩ : ∃ w2, w1.alloc (.cells #[.int .u64 (sid : Int), .int .u32 (sx : Int), .int .u32 (sy : Int), .string sv] 27) = w2 := ⟨_, rfl⟩
  rw [hw2] at b2 hg2
  have HW2 : Hid _ := hw2
  have HB2 : Hid (Below w.heap.size w w2) := HB1.out.trans (b2.mono HB1.out.size)
  have HG2 : Hid (w2.heap[w.heap.size]? = some (.cells #[.int .i64 k, .int .u64 (id : Int), .int .u32 (x : Int), .int .u32 (y : Int), .string v] 34 (0, 0))) := (b2.block _ l1).trans hg1
  have HS2 : Hid (w2.heap[w1.heap.size]? = some (.cells #[.int .u64 (sid : Int), .int .u32 (sx : Int), .int .u32 (sy : Int), .string sv] 27 (0, 0))) := hg2
  have l2 : w.heap.size < w2.heap.size := (Array.getElem?_eq_some_iff.1 HG2.out).1
  have m2 : w1.heap.size < w2.heap.size := (Array.getElem?_eq_some_iff.1 hg2).1
  clear c0 c1 c2 c3 c4
  obtain ⟨c0, c1, c2, c3, c4⟩ := op_cells HG2.out
  obtain ⟨-, -, -, -, d0, d1, d2, d3⟩ := row_facts hg2
  clear b1 b2 hg1 hg2 hw2 HGT HB0 HG0 l0
  go_wp2_with (first | (rw [HW2.out]; clear HW2))
  refine (HCK.out w2).mono ?_
  rintro e w3 ⟨rfl, b3⟩
  have HB3 : Hid (Below w.heap.size w w3) := HB2.out.trans (b3.mono HB2.out.size)
  have HG3 : Hid (w3.heap[w.heap.size]? = some (.cells #[.int .i64 k, .int .u64 (id : Int), .int .u32 (x : Int), .int .u32 (y : Int), .string v] 34 (0, 0))) := (b3.block _ l2).trans HG2.out
  have HS3 : Hid (w3.heap[w1.heap.size]? = some (.cells #[.int .u64 (sid : Int), .int .u32 (sx : Int), .int .u32 (sy : Int), .string sv] 27 (0, 0))) := (b3.block _ m2).trans HS2.out
  have l3 : w.heap.size < w3.heap.size := (Array.getElem?_eq_some_iff.1 HG3.out).1
  have m3 : w1.heap.size < w3.heap.size := (Array.getElem?_eq_some_iff.1 HS3.out).1
  clear c0 c1 c2 c3 c4 d0 d1 d2 d3
  obtain ⟨c0, c1, c2, c3, c4⟩ := op_cells HG3.out
  obtain ⟨-, -, -, -, d0, d1, d2, d3⟩ := row_facts HS3.out
  clear b3 HCK HG2 HS2 HB2 l2 m2
  go_wp2_with fail
  go_ret2
  exact ⟨rfl, HB3.out⟩
set_option maxRecDepth 100000 in
set_option maxHeartbeats 4000000 in
theorem apply_none (o : Option Addr) (cap : Nat) (l : List Rw) (k : Int) (id x y : Nat) (v : ByteArray) (w : World) (hr : RowsAt w o cap l) (h : rightL l = true) (hc : chkO ⟨k, ⟨id, x, y, v⟩⟩ = 0) (hk : k ≠ 1) (hn : its l id = none) :
    Calls Try.prog 15 #[.slice o l.length cap, ov ⟨k, ⟨id, x, y, v⟩⟩] w (fun e w' => e = .returned (.tuple #[.slice none 0 0, .int .i64 100]) ∧ Below w.heap.size w w') := by
  have hb := below_new w (.cells #[.int .i64 k, .int .u64 (id : Int), .int .u32 (x : Int), .int .u32 (y : Int), .string v] 34)
  have hg := heap_alloc_new w (.cells #[.int .i64 k, .int .u64 (id : Int), .int .u32 (x : Int), .int .u32 (y : Int), .string v] 34)
  obtain ⟨W0, hW0⟩ : ∃ W0, w.alloc (.cells #[.int .i64 k, .int .u64 (id : Int), .int .u32 (x : Int), .int .u32 (y : Int), .string v] 34) = W0 := ⟨_, rfl⟩
  rw [hW0] at hb hg
  have HW0 : Hid _ := hW0
  have HB0 : Hid (Below w.heap.size w W0) := hb
  have HG0 : Hid (W0.heap[w.heap.size]? = some (.cells #[.int .i64 k, .int .u64 (id : Int), .int .u32 (x : Int), .int .u32 (y : Int), .string v] 34 (0, 0))) := hg
  have l0 : w.heap.size < W0.heap.size := (Array.getElem?_eq_some_iff.1 hg).1
  have HRW : Hid (RowsAt w o cap l) := hr
  have HGT : Hid (∀ _ : True, _) := fun _ => get_any o cap l id W0 (hr.below hb (Nat.le_refl _))
  obtain ⟨c0, c1, c2, c3, c4⟩ := op_cells hg
  have HCK : Hid _ := check_any ⟨k, ⟨id, x, y, v⟩⟩
  obtain ⟨s, hs⟩ : ∃ s : Rw, zr = s := ⟨_, rfl⟩
  rw [show getE l id = 100 by unfold getE; rw [if_pos h, hn]; rfl, show getV l id = s by unfold getV; rw [if_pos h, hn]; exact hs] at HGT
  rw [hc] at HCK
  have q0 : (k == 1) = false := by simpa using hk
  obtain ⟨sid, sx, sy, sv⟩ := s
  simp only [rv] at HGT
  simp only [ov] at HCK ⊢
  clear hb hg hW0 hr h hc hn hk hs
  go_enter Try.func15, Try.ntmps15
  go_wp2_with (first | (rw [HW0.out]; clear HW0))
  refine Calls.mono (HGT.out trivial) ?_
  rintro e w1 ⟨rfl, b1⟩
  have HB1 : Hid (Below w.heap.size w w1) := HB0.out.trans (b1.mono HB0.out.size)
  have hg1 := (b1.block _ l0).trans HG0.out
  have l1 : w.heap.size < w1.heap.size := Nat.lt_of_lt_of_le l0 b1.size
  have b2 := below_new w1 (.cells #[.int .u64 (sid : Int), .int .u32 (sx : Int), .int .u32 (sy : Int), .string sv] 27)
  have hg2 := heap_alloc_new w1 (.cells #[.int .u64 (sid : Int), .int .u32 (sx : Int), .int .u32 (sy : Int), .string sv] 27)
  obtain ⟨w2, hw2⟩ : ∃ w2, w1.alloc (.cells #[.int .u64 (sid : Int), .int .u32 (sx : Int), .int .u32 (sy : Int), .string sv] 27) = w2 := ⟨_, rfl⟩
  rw [hw2] at b2 hg2
  have HW2 : Hid _ := hw2
  have HB2 : Hid (Below w.heap.size w w2) := HB1.out.trans (b2.mono HB1.out.size)
  have HG2 : Hid (w2.heap[w.heap.size]? = some (.cells #[.int .i64 k, .int .u64 (id : Int), .int .u32 (x : Int), .int .u32 (y : Int), .string v] 34 (0, 0))) := (b2.block _ l1).trans hg1
  have HS2 : Hid (w2.heap[w1.heap.size]? = some (.cells #[.int .u64 (sid : Int), .int .u32 (sx : Int), .int .u32 (sy : Int), .string sv] 27 (0, 0))) := hg2
  have l2 : w.heap.size < w2.heap.size := (Array.getElem?_eq_some_iff.1 HG2.out).1
  have m2 : w1.heap.size < w2.heap.size := (Array.getElem?_eq_some_iff.1 hg2).1
  clear c0 c1 c2 c3 c4
  obtain ⟨c0, c1, c2, c3, c4⟩ := op_cells HG2.out
  obtain ⟨-, -, -, -, d0, d1, d2, d3⟩ := row_facts hg2
  clear b1 b2 hg1 hg2 hw2 HGT HB0 HG0 l0
  go_wp2_with (first | (rw [HW2.out]; clear HW2))
  refine (HCK.out w2).mono ?_
  rintro e w3 ⟨rfl, b3⟩
  have HB3 : Hid (Below w.heap.size w w3) := HB2.out.trans (b3.mono HB2.out.size)
  have HG3 : Hid (w3.heap[w.heap.size]? = some (.cells #[.int .i64 k, .int .u64 (id : Int), .int .u32 (x : Int), .int .u32 (y : Int), .string v] 34 (0, 0))) := (b3.block _ l2).trans HG2.out
  have HS3 : Hid (w3.heap[w1.heap.size]? = some (.cells #[.int .u64 (sid : Int), .int .u32 (sx : Int), .int .u32 (sy : Int), .string sv] 27 (0, 0))) := (b3.block _ m2).trans HS2.out
  have l3 : w.heap.size < w3.heap.size := (Array.getElem?_eq_some_iff.1 HG3.out).1
  have m3 : w1.heap.size < w3.heap.size := (Array.getElem?_eq_some_iff.1 HS3.out).1
  clear c0 c1 c2 c3 c4 d0 d1 d2 d3
  obtain ⟨c0, c1, c2, c3, c4⟩ := op_cells HG3.out
  obtain ⟨-, -, -, -, d0, d1, d2, d3⟩ := row_facts HS3.out
  clear b3 HCK HG2 HS2 HB2 l2 m2
  go_wp2_with fail
  go_ret2
  exact ⟨rfl, HB3.out⟩
set_option maxRecDepth 100000 in
set_option maxHeartbeats 4000000 in
theorem apply_many (o : Option Addr) (cap : Nat) (l : List Rw) (k : Int) (id x y : Nat) (v : ByteArray) (w : World) (hr : RowsAt w o cap l) (h : rightL l = true) (hc : chkO ⟨k, ⟨id, x, y, v⟩⟩ = 0) (hk : k = 1) (hn : its l id = none) (hm : l.length = 1000) :
    Calls Try.prog 15 #[.slice o l.length cap, ov ⟨k, ⟨id, x, y, v⟩⟩] w (fun e w' => e = .returned (.tuple #[.slice none 0 0, .int .i64 82]) ∧ Below w.heap.size w w') := by
  have hb := below_new w (.cells #[.int .i64 k, .int .u64 (id : Int), .int .u32 (x : Int), .int .u32 (y : Int), .string v] 34)
  have hg := heap_alloc_new w (.cells #[.int .i64 k, .int .u64 (id : Int), .int .u32 (x : Int), .int .u32 (y : Int), .string v] 34)
  obtain ⟨W0, hW0⟩ : ∃ W0, w.alloc (.cells #[.int .i64 k, .int .u64 (id : Int), .int .u32 (x : Int), .int .u32 (y : Int), .string v] 34) = W0 := ⟨_, rfl⟩
  rw [hW0] at hb hg
  have HW0 : Hid _ := hW0
  have HB0 : Hid (Below w.heap.size w W0) := hb
  have HG0 : Hid (W0.heap[w.heap.size]? = some (.cells #[.int .i64 k, .int .u64 (id : Int), .int .u32 (x : Int), .int .u32 (y : Int), .string v] 34 (0, 0))) := hg
  have l0 : w.heap.size < W0.heap.size := (Array.getElem?_eq_some_iff.1 hg).1
  have HRW : Hid (RowsAt w o cap l) := hr
  have HGT : Hid (∀ _ : True, _) := fun _ => get_any o cap l id W0 (hr.below hb (Nat.le_refl _))
  obtain ⟨c0, c1, c2, c3, c4⟩ := op_cells hg
  have HCK : Hid _ := check_any ⟨k, ⟨id, x, y, v⟩⟩
  obtain ⟨s, hs⟩ : ∃ s : Rw, zr = s := ⟨_, rfl⟩
  rw [show getE l id = 100 by unfold getE; rw [if_pos h, hn]; rfl, show getV l id = s by unfold getV; rw [if_pos h, hn]; exact hs] at HGT
  rw [hc] at HCK
  subst hk
  obtain ⟨sid, sx, sy, sv⟩ := s
  simp only [rv] at HGT
  simp only [ov] at HCK ⊢
  have q5 : (l.length : Int) = 1000 := by omega
  clear hb hg hW0 hr h hc hn hm hs
  go_enter Try.func15, Try.ntmps15
  go_wp2_with (first | (rw [HW0.out]; clear HW0))
  refine Calls.mono (HGT.out trivial) ?_
  rintro e w1 ⟨rfl, b1⟩
  have HB1 : Hid (Below w.heap.size w w1) := HB0.out.trans (b1.mono HB0.out.size)
  have hg1 := (b1.block _ l0).trans HG0.out
  have l1 : w.heap.size < w1.heap.size := Nat.lt_of_lt_of_le l0 b1.size
  have b2 := below_new w1 (.cells #[.int .u64 (sid : Int), .int .u32 (sx : Int), .int .u32 (sy : Int), .string sv] 27)
  have hg2 := heap_alloc_new w1 (.cells #[.int .u64 (sid : Int), .int .u32 (sx : Int), .int .u32 (sy : Int), .string sv] 27)
  obtain ⟨w2, hw2⟩ : ∃ w2, w1.alloc (.cells #[.int .u64 (sid : Int), .int .u32 (sx : Int), .int .u32 (sy : Int), .string sv] 27) = w2 := ⟨_, rfl⟩
  rw [hw2] at b2 hg2
  have HW2 : Hid _ := hw2
  have HB2 : Hid (Below w.heap.size w w2) := HB1.out.trans (b2.mono HB1.out.size)
  have HG2 : Hid (w2.heap[w.heap.size]? = some (.cells #[.int .i64 1, .int .u64 (id : Int), .int .u32 (x : Int), .int .u32 (y : Int), .string v] 34 (0, 0))) := (b2.block _ l1).trans hg1
  have HS2 : Hid (w2.heap[w1.heap.size]? = some (.cells #[.int .u64 (sid : Int), .int .u32 (sx : Int), .int .u32 (sy : Int), .string sv] 27 (0, 0))) := hg2
  have l2 : w.heap.size < w2.heap.size := (Array.getElem?_eq_some_iff.1 HG2.out).1
  have m2 : w1.heap.size < w2.heap.size := (Array.getElem?_eq_some_iff.1 hg2).1
  clear c0 c1 c2 c3 c4
  obtain ⟨c0, c1, c2, c3, c4⟩ := op_cells HG2.out
  obtain ⟨-, -, -, -, d0, d1, d2, d3⟩ := row_facts hg2
  clear b1 b2 hg1 hg2 hw2 HGT HB0 HG0 l0
  go_wp2_with (first | (rw [HW2.out]; clear HW2))
  refine (HCK.out w2).mono ?_
  rintro e w3 ⟨rfl, b3⟩
  have HB3 : Hid (Below w.heap.size w w3) := HB2.out.trans (b3.mono HB2.out.size)
  have HG3 : Hid (w3.heap[w.heap.size]? = some (.cells #[.int .i64 1, .int .u64 (id : Int), .int .u32 (x : Int), .int .u32 (y : Int), .string v] 34 (0, 0))) := (b3.block _ l2).trans HG2.out
  have HS3 : Hid (w3.heap[w1.heap.size]? = some (.cells #[.int .u64 (sid : Int), .int .u32 (sx : Int), .int .u32 (sy : Int), .string sv] 27 (0, 0))) := (b3.block _ m2).trans HS2.out
  have l3 : w.heap.size < w3.heap.size := (Array.getElem?_eq_some_iff.1 HG3.out).1
  have m3 : w1.heap.size < w3.heap.size := (Array.getElem?_eq_some_iff.1 HS3.out).1
  clear c0 c1 c2 c3 c4 d0 d1 d2 d3
  obtain ⟨c0, c1, c2, c3, c4⟩ := op_cells HG3.out
  obtain ⟨-, -, -, -, d0, d1, d2, d3⟩ := row_facts HS3.out
  clear b3 HCK HG2 HS2 HB2 l2 m2
  go_wp2_with fail
  go_ret2
  exact ⟨rfl, HB3.out⟩
set_option maxRecDepth 100000 in
set_option maxHeartbeats 4000000 in
theorem apply_new (o : Option Addr) (cap : Nat) (l : List Rw) (k : Int) (id x y : Nat) (v : ByteArray) (w : World) (hr : RowsAt w o cap l) (h : rightL l = true) (hc : chkO ⟨k, ⟨id, x, y, v⟩⟩ = 0) (hk : k = 1) (hn : its l id = none) (hm : l.length ≠ 1000) (nr : Rw) (hnr : newR zr ⟨k, ⟨id, x, y, v⟩⟩ = nr) :
    Calls Try.prog 15 #[.slice o l.length cap, ov ⟨k, ⟨id, x, y, v⟩⟩] w (KP (insR l nr) 0 w) := by
  have hb := below_new w (.cells #[.int .i64 k, .int .u64 (id : Int), .int .u32 (x : Int), .int .u32 (y : Int), .string v] 34)
  have hg := heap_alloc_new w (.cells #[.int .i64 k, .int .u64 (id : Int), .int .u32 (x : Int), .int .u32 (y : Int), .string v] 34)
  obtain ⟨W0, hW0⟩ : ∃ W0, w.alloc (.cells #[.int .i64 k, .int .u64 (id : Int), .int .u32 (x : Int), .int .u32 (y : Int), .string v] 34) = W0 := ⟨_, rfl⟩
  rw [hW0] at hb hg
  have HW0 : Hid _ := hW0
  have HB0 : Hid (Below w.heap.size w W0) := hb
  have HG0 : Hid (W0.heap[w.heap.size]? = some (.cells #[.int .i64 k, .int .u64 (id : Int), .int .u32 (x : Int), .int .u32 (y : Int), .string v] 34 (0, 0))) := hg
  have l0 : w.heap.size < W0.heap.size := (Array.getElem?_eq_some_iff.1 hg).1
  have HRW : Hid (RowsAt w o cap l) := hr
  have HGT : Hid (∀ _ : True, _) := fun _ => get_any o cap l id W0 (hr.below hb (Nat.le_refl _))
  obtain ⟨c0, c1, c2, c3, c4⟩ := op_cells hg
  have HCK : Hid _ := check_any ⟨k, ⟨id, x, y, v⟩⟩
  obtain ⟨s, hs⟩ : ∃ s : Rw, zr = s := ⟨_, rfl⟩
  rw [show getE l id = 100 by unfold getE; rw [if_pos h, hn]; rfl, show getV l id = s by unfold getV; rw [if_pos h, hn]; exact hs] at HGT
  rw [hc] at HCK
  have HBC : Hid _ := become_any s ⟨k, ⟨id, x, y, v⟩⟩
  rw [← hs, hnr, hs] at HBC
  have hri := right_rise h
  have hmx := ((rightL_iff l).1 h).1
  have HWI : Hid (∀ (W : World) (o : Option Addr) (cap : Nat), RowsAt W o cap l → _) := fun W o cap hW => with_any o cap l nr W hmx hri hW
  subst hk
  obtain ⟨nid, nx, ny, nvl⟩ := nr
  obtain ⟨sid, sx, sy, sv⟩ := s
  simp only [rv] at HGT
  simp only [ov, rv] at HCK HBC HWI ⊢
  have q5 : ((l.length : Int) == 1000) = false := by simp; omega
  clear hb hg hW0 hr h hc hn hm hnr hri hmx hs
  go_enter Try.func15, Try.ntmps15
  go_wp2_with (first | (rw [HW0.out]; clear HW0))
  refine Calls.mono (HGT.out trivial) ?_
  rintro e w1 ⟨rfl, b1⟩
  have HB1 : Hid (Below w.heap.size w w1) := HB0.out.trans (b1.mono HB0.out.size)
  have hg1 := (b1.block _ l0).trans HG0.out
  have l1 : w.heap.size < w1.heap.size := Nat.lt_of_lt_of_le l0 b1.size
  have b2 := below_new w1 (.cells #[.int .u64 (sid : Int), .int .u32 (sx : Int), .int .u32 (sy : Int), .string sv] 27)
  have hg2 := heap_alloc_new w1 (.cells #[.int .u64 (sid : Int), .int .u32 (sx : Int), .int .u32 (sy : Int), .string sv] 27)
  obtain ⟨w2, hw2⟩ : ∃ w2, w1.alloc (.cells #[.int .u64 (sid : Int), .int .u32 (sx : Int), .int .u32 (sy : Int), .string sv] 27) = w2 := ⟨_, rfl⟩
  rw [hw2] at b2 hg2
  have HW2 : Hid _ := hw2
  have HB2 : Hid (Below w.heap.size w w2) := HB1.out.trans (b2.mono HB1.out.size)
  have HG2 : Hid (w2.heap[w.heap.size]? = some (.cells #[.int .i64 1, .int .u64 (id : Int), .int .u32 (x : Int), .int .u32 (y : Int), .string v] 34 (0, 0))) := (b2.block _ l1).trans hg1
  have HS2 : Hid (w2.heap[w1.heap.size]? = some (.cells #[.int .u64 (sid : Int), .int .u32 (sx : Int), .int .u32 (sy : Int), .string sv] 27 (0, 0))) := hg2
  have l2 : w.heap.size < w2.heap.size := (Array.getElem?_eq_some_iff.1 HG2.out).1
  have m2 : w1.heap.size < w2.heap.size := (Array.getElem?_eq_some_iff.1 hg2).1
  clear c0 c1 c2 c3 c4
  obtain ⟨c0, c1, c2, c3, c4⟩ := op_cells HG2.out
  obtain ⟨-, -, -, -, d0, d1, d2, d3⟩ := row_facts hg2
  clear b1 b2 hg1 hg2 hw2 HGT HB0 HG0 l0
  go_wp2_with (first | (rw [HW2.out]; clear HW2))
  refine (HCK.out w2).mono ?_
  rintro e w3 ⟨rfl, b3⟩
  have HB3 : Hid (Below w.heap.size w w3) := HB2.out.trans (b3.mono HB2.out.size)
  have HG3 : Hid (w3.heap[w.heap.size]? = some (.cells #[.int .i64 1, .int .u64 (id : Int), .int .u32 (x : Int), .int .u32 (y : Int), .string v] 34 (0, 0))) := (b3.block _ l2).trans HG2.out
  have HS3 : Hid (w3.heap[w1.heap.size]? = some (.cells #[.int .u64 (sid : Int), .int .u32 (sx : Int), .int .u32 (sy : Int), .string sv] 27 (0, 0))) := (b3.block _ m2).trans HS2.out
  have l3 : w.heap.size < w3.heap.size := (Array.getElem?_eq_some_iff.1 HG3.out).1
  have m3 : w1.heap.size < w3.heap.size := (Array.getElem?_eq_some_iff.1 HS3.out).1
  clear c0 c1 c2 c3 c4 d0 d1 d2 d3
  obtain ⟨c0, c1, c2, c3, c4⟩ := op_cells HG3.out
  obtain ⟨-, -, -, -, d0, d1, d2, d3⟩ := row_facts HS3.out
  clear b3 HCK HG2 HS2 HB2 l2 m2
  have HRR : Hid (RowsAt w3 o cap l) := HRW.out.below HB3.out (Nat.le_refl _)
  go_wp2_with fail
  refine Calls.mono (HBC.out _) ?_
  rintro e w5 ⟨rfl, b5⟩
  have HB5 : Hid (Below w.heap.size w w5) := HB3.out.trans (b5.mono HB3.out.size)
  have HR5 : Hid (RowsAt w5 o cap l) := HRR.out.below b5 (Nat.le_refl _)
  clear b5 HBC
  go_wp2_with fail
  refine Calls.mono (HWI.out w5 o cap HR5.out) ?_
  rintro e w6 ⟨o6, cap6, rfl, hr6, b6, f6⟩
  have HE : Hid (RowsAt w6 o6 cap6 (insR l ⟨nid, nx, ny, nvl⟩) ∧ Below w.heap.size w w6 ∧ Fresh w.heap.size o6) := ⟨hr6, HB5.out.trans (b6.mono HB5.out.size), f6.mono HB5.out.size⟩
  clear hr6 b6 HWI f6
  go_wp2_with fail
  go_ret2
  exact ⟨o6, cap6, rfl, HE.out.1, HE.out.2.1, HE.out.2.2⟩
set_option maxRecDepth 100000 in
set_option maxHeartbeats 4000000 in
theorem apply_del (o : Option Addr) (cap : Nat) (l : List Rw) (k : Int) (id x y : Nat) (v : ByteArray) (w : World) (hr : RowsAt w o cap l) (h : rightL l = true) (hc : chkO ⟨k, ⟨id, x, y, v⟩⟩ = 0) (hk : k = 3) (s : Rw) (hn : its l id = some s) :
    Calls Try.prog 15 #[.slice o l.length cap, ov ⟨k, ⟨id, x, y, v⟩⟩] w (KP (remR l id) 0 w) := by
  have hb := below_new w (.cells #[.int .i64 k, .int .u64 (id : Int), .int .u32 (x : Int), .int .u32 (y : Int), .string v] 34)
  have hg := heap_alloc_new w (.cells #[.int .i64 k, .int .u64 (id : Int), .int .u32 (x : Int), .int .u32 (y : Int), .string v] 34)
  obtain ⟨W0, hW0⟩ : ∃ W0, w.alloc (.cells #[.int .i64 k, .int .u64 (id : Int), .int .u32 (x : Int), .int .u32 (y : Int), .string v] 34) = W0 := ⟨_, rfl⟩
  rw [hW0] at hb hg
  have HW0 : Hid _ := hW0
  have HB0 : Hid (Below w.heap.size w W0) := hb
  have HG0 : Hid (W0.heap[w.heap.size]? = some (.cells #[.int .i64 k, .int .u64 (id : Int), .int .u32 (x : Int), .int .u32 (y : Int), .string v] 34 (0, 0))) := hg
  have l0 : w.heap.size < W0.heap.size := (Array.getElem?_eq_some_iff.1 hg).1
  have HRW : Hid (RowsAt w o cap l) := hr
  have HGT : Hid (∀ _ : True, _) := fun _ => get_any o cap l id W0 (hr.below hb (Nat.le_refl _))
  obtain ⟨c0, c1, c2, c3, c4⟩ := op_cells hg
  have HCK : Hid _ := check_any ⟨k, ⟨id, x, y, v⟩⟩
  rw [show getE l id = 0 by unfold getE; rw [if_pos h, hn]; rfl, show getV l id = s by unfold getV; rw [if_pos h, hn]; rfl] at HGT
  rw [hc] at HCK
  have hri := right_rise h
  have hmx := ((rightL_iff l).1 h).1
  have hsid := (its_at hri hn).2.2
  have HWO : Hid (∀ W, RowsAt W o cap l → _) := fun W hW => without_any o cap l s W hmx hri hW (by rw [hsid]; exact hn)
  have hrm : l.eraseIdx (lowTo l s.id) = remR l id := by unfold remR; rw [hn, hsid]; rfl
  rw [hrm] at HWO
  have hrl : (remR l id).length ≤ 999 := by
    rw [← hrm, List.length_eraseIdx, hsid, if_pos (its_at hri hn).1]
    omega
  have hrr := rem_rise hri id
  generalize remR l id = R at *
  subst hk
  obtain ⟨sid, sx, sy, sv⟩ := s
  simp only [rv] at HGT HWO
  simp only [ov] at HCK ⊢
  clear hb hg hW0 hr h hc hn hri hmx hsid hrm hrr hrl
  go_enter Try.func15, Try.ntmps15
  go_wp2_with (first | (rw [HW0.out]; clear HW0))
  refine Calls.mono (HGT.out trivial) ?_
  rintro e w1 ⟨rfl, b1⟩
  have HB1 : Hid (Below w.heap.size w w1) := HB0.out.trans (b1.mono HB0.out.size)
  have hg1 := (b1.block _ l0).trans HG0.out
  have l1 : w.heap.size < w1.heap.size := Nat.lt_of_lt_of_le l0 b1.size
  have b2 := below_new w1 (.cells #[.int .u64 (sid : Int), .int .u32 (sx : Int), .int .u32 (sy : Int), .string sv] 27)
  have hg2 := heap_alloc_new w1 (.cells #[.int .u64 (sid : Int), .int .u32 (sx : Int), .int .u32 (sy : Int), .string sv] 27)
  obtain ⟨w2, hw2⟩ : ∃ w2, w1.alloc (.cells #[.int .u64 (sid : Int), .int .u32 (sx : Int), .int .u32 (sy : Int), .string sv] 27) = w2 := ⟨_, rfl⟩
  rw [hw2] at b2 hg2
  have HW2 : Hid _ := hw2
  have HB2 : Hid (Below w.heap.size w w2) := HB1.out.trans (b2.mono HB1.out.size)
  have HG2 : Hid (w2.heap[w.heap.size]? = some (.cells #[.int .i64 3, .int .u64 (id : Int), .int .u32 (x : Int), .int .u32 (y : Int), .string v] 34 (0, 0))) := (b2.block _ l1).trans hg1
  have HS2 : Hid (w2.heap[w1.heap.size]? = some (.cells #[.int .u64 (sid : Int), .int .u32 (sx : Int), .int .u32 (sy : Int), .string sv] 27 (0, 0))) := hg2
  have l2 : w.heap.size < w2.heap.size := (Array.getElem?_eq_some_iff.1 HG2.out).1
  have m2 : w1.heap.size < w2.heap.size := (Array.getElem?_eq_some_iff.1 hg2).1
  clear c0 c1 c2 c3 c4
  obtain ⟨c0, c1, c2, c3, c4⟩ := op_cells HG2.out
  obtain ⟨-, -, -, -, d0, d1, d2, d3⟩ := row_facts hg2
  clear b1 b2 hg1 hg2 hw2 HGT HB0 HG0 l0
  go_wp2_with (first | (rw [HW2.out]; clear HW2))
  refine (HCK.out w2).mono ?_
  rintro e w3 ⟨rfl, b3⟩
  have HB3 : Hid (Below w.heap.size w w3) := HB2.out.trans (b3.mono HB2.out.size)
  have HG3 : Hid (w3.heap[w.heap.size]? = some (.cells #[.int .i64 3, .int .u64 (id : Int), .int .u32 (x : Int), .int .u32 (y : Int), .string v] 34 (0, 0))) := (b3.block _ l2).trans HG2.out
  have HS3 : Hid (w3.heap[w1.heap.size]? = some (.cells #[.int .u64 (sid : Int), .int .u32 (sx : Int), .int .u32 (sy : Int), .string sv] 27 (0, 0))) := (b3.block _ m2).trans HS2.out
  have l3 : w.heap.size < w3.heap.size := (Array.getElem?_eq_some_iff.1 HG3.out).1
  have m3 : w1.heap.size < w3.heap.size := (Array.getElem?_eq_some_iff.1 HS3.out).1
  clear c0 c1 c2 c3 c4 d0 d1 d2 d3
  obtain ⟨c0, c1, c2, c3, c4⟩ := op_cells HG3.out
  obtain ⟨-, -, -, -, d0, d1, d2, d3⟩ := row_facts HS3.out
  clear b3 HCK HG2 HS2 HB2 l2 m2
  go_wp2_with fail
  refine Calls.mono (HWO.out w3 (HRW.out.below HB3.out (Nat.le_refl _))) ?_
  rintro e w4 ⟨o4, cap4, rfl, hr4, b4, f4⟩
  have HF4 : Hid (Fresh w.heap.size o4) := f4.mono HB3.out.size
  clear f4
  have HB4 : Hid (Below w.heap.size w w4) := HB3.out.trans (b4.mono HB3.out.size)
  have HRR : Hid (RowsAt w4 o4 cap4 R) := hr4
  have c0' : w4.cell? ⟨w.heap.size, 0, none⟩ = some (.int .i64 3) := (World.cell?_of_block (a := ⟨w.heap.size, 0, none⟩) (b4.block _ l3)).trans c0
  clear hr4 b4 HWO c0 c1 c2 c3 c4 d0 d1 d2 d3
  go_wp2_with fail
  go_ret2
  exact ⟨o4, cap4, rfl, HRR.out, HB4.out, HF4.out⟩
set_option maxRecDepth 100000 in
set_option maxHeartbeats 4000000 in
theorem apply_old (o : Option Addr) (cap : Nat) (l : List Rw) (k : Int) (id x y : Nat) (v : ByteArray) (w : World) (hr : RowsAt w o cap l) (h : rightL l = true) (hc : chkO ⟨k, ⟨id, x, y, v⟩⟩ = 0) (hk : k ≠ 3) (s : Rw) (hn : its l id = some s) (nr : Rw) (hnr : newR s ⟨k, ⟨id, x, y, v⟩⟩ = nr) :
    Calls Try.prog 15 #[.slice o l.length cap, ov ⟨k, ⟨id, x, y, v⟩⟩] w (KP (insR (remR l id) nr) 0 w) := by
  have hb := below_new w (.cells #[.int .i64 k, .int .u64 (id : Int), .int .u32 (x : Int), .int .u32 (y : Int), .string v] 34)
  have hg := heap_alloc_new w (.cells #[.int .i64 k, .int .u64 (id : Int), .int .u32 (x : Int), .int .u32 (y : Int), .string v] 34)
  obtain ⟨W0, hW0⟩ : ∃ W0, w.alloc (.cells #[.int .i64 k, .int .u64 (id : Int), .int .u32 (x : Int), .int .u32 (y : Int), .string v] 34) = W0 := ⟨_, rfl⟩
  rw [hW0] at hb hg
  have HW0 : Hid _ := hW0
  have HB0 : Hid (Below w.heap.size w W0) := hb
  have HG0 : Hid (W0.heap[w.heap.size]? = some (.cells #[.int .i64 k, .int .u64 (id : Int), .int .u32 (x : Int), .int .u32 (y : Int), .string v] 34 (0, 0))) := hg
  have l0 : w.heap.size < W0.heap.size := (Array.getElem?_eq_some_iff.1 hg).1
  have HRW : Hid (RowsAt w o cap l) := hr
  have HGT : Hid (∀ _ : True, _) := fun _ => get_any o cap l id W0 (hr.below hb (Nat.le_refl _))
  obtain ⟨c0, c1, c2, c3, c4⟩ := op_cells hg
  have HCK : Hid _ := check_any ⟨k, ⟨id, x, y, v⟩⟩
  rw [show getE l id = 0 by unfold getE; rw [if_pos h, hn]; rfl, show getV l id = s by unfold getV; rw [if_pos h, hn]; rfl] at HGT
  rw [hc] at HCK
  have hri := right_rise h
  have hmx := ((rightL_iff l).1 h).1
  have hsid := (its_at hri hn).2.2
  have HWO : Hid (∀ W, RowsAt W o cap l → _) := fun W hW => without_any o cap l s W hmx hri hW (by rw [hsid]; exact hn)
  have hrm : l.eraseIdx (lowTo l s.id) = remR l id := by unfold remR; rw [hn, hsid]; rfl
  rw [hrm] at HWO
  have hrl : (remR l id).length ≤ 999 := by
    rw [← hrm, List.length_eraseIdx, hsid, if_pos (its_at hri hn).1]
    omega
  have hrr := rem_rise hri id
  generalize remR l id = R at *
  have HBC : Hid _ := become_any s ⟨k, ⟨id, x, y, v⟩⟩
  rw [hnr] at HBC
  have HWI : Hid (∀ (W : World) (o : Option Addr) (cap : Nat), RowsAt W o cap R → _) := fun W o cap hW => with_any o cap R nr W (by omega) hrr hW
  obtain ⟨sid, sx, sy, sv⟩ := s
  obtain ⟨nid, nx, ny, nvl⟩ := nr
  simp only [rv] at HGT HWO
  simp only [ov, rv] at HCK HBC HWI ⊢
  have q3 : (k == 3) = false := by simpa using hk
  have q5 : ((R.length : Int) == 1000) = false := by simp; omega
  clear hb hg hW0 hr h hc hn hri hmx hsid hrm hrr hrl hnr hk
  go_enter Try.func15, Try.ntmps15
  go_wp2_with (first | (rw [HW0.out]; clear HW0))
  refine Calls.mono (HGT.out trivial) ?_
  rintro e w1 ⟨rfl, b1⟩
  have HB1 : Hid (Below w.heap.size w w1) := HB0.out.trans (b1.mono HB0.out.size)
  have hg1 := (b1.block _ l0).trans HG0.out
  have l1 : w.heap.size < w1.heap.size := Nat.lt_of_lt_of_le l0 b1.size
  have b2 := below_new w1 (.cells #[.int .u64 (sid : Int), .int .u32 (sx : Int), .int .u32 (sy : Int), .string sv] 27)
  have hg2 := heap_alloc_new w1 (.cells #[.int .u64 (sid : Int), .int .u32 (sx : Int), .int .u32 (sy : Int), .string sv] 27)
  obtain ⟨w2, hw2⟩ : ∃ w2, w1.alloc (.cells #[.int .u64 (sid : Int), .int .u32 (sx : Int), .int .u32 (sy : Int), .string sv] 27) = w2 := ⟨_, rfl⟩
  rw [hw2] at b2 hg2
  have HW2 : Hid _ := hw2
  have HB2 : Hid (Below w.heap.size w w2) := HB1.out.trans (b2.mono HB1.out.size)
  have HG2 : Hid (w2.heap[w.heap.size]? = some (.cells #[.int .i64 k, .int .u64 (id : Int), .int .u32 (x : Int), .int .u32 (y : Int), .string v] 34 (0, 0))) := (b2.block _ l1).trans hg1
  have HS2 : Hid (w2.heap[w1.heap.size]? = some (.cells #[.int .u64 (sid : Int), .int .u32 (sx : Int), .int .u32 (sy : Int), .string sv] 27 (0, 0))) := hg2
  have l2 : w.heap.size < w2.heap.size := (Array.getElem?_eq_some_iff.1 HG2.out).1
  have m2 : w1.heap.size < w2.heap.size := (Array.getElem?_eq_some_iff.1 hg2).1
  clear c0 c1 c2 c3 c4
  obtain ⟨c0, c1, c2, c3, c4⟩ := op_cells HG2.out
  obtain ⟨-, -, -, -, d0, d1, d2, d3⟩ := row_facts hg2
  clear b1 b2 hg1 hg2 hw2 HGT HB0 HG0 l0
  go_wp2_with (first | (rw [HW2.out]; clear HW2))
  refine (HCK.out w2).mono ?_
  rintro e w3 ⟨rfl, b3⟩
  have HB3 : Hid (Below w.heap.size w w3) := HB2.out.trans (b3.mono HB2.out.size)
  have HG3 : Hid (w3.heap[w.heap.size]? = some (.cells #[.int .i64 k, .int .u64 (id : Int), .int .u32 (x : Int), .int .u32 (y : Int), .string v] 34 (0, 0))) := (b3.block _ l2).trans HG2.out
  have HS3 : Hid (w3.heap[w1.heap.size]? = some (.cells #[.int .u64 (sid : Int), .int .u32 (sx : Int), .int .u32 (sy : Int), .string sv] 27 (0, 0))) := (b3.block _ m2).trans HS2.out
  have l3 : w.heap.size < w3.heap.size := (Array.getElem?_eq_some_iff.1 HG3.out).1
  have m3 : w1.heap.size < w3.heap.size := (Array.getElem?_eq_some_iff.1 HS3.out).1
  clear c0 c1 c2 c3 c4 d0 d1 d2 d3
  obtain ⟨c0, c1, c2, c3, c4⟩ := op_cells HG3.out
  obtain ⟨-, -, -, -, d0, d1, d2, d3⟩ := row_facts HS3.out
  clear b3 HCK HG2 HS2 HB2 l2 m2
  go_wp2_with fail
  refine Calls.mono (HWO.out w3 (HRW.out.below HB3.out (Nat.le_refl _))) ?_
  rintro e w4 ⟨o4, cap4, rfl, hr4, b4, f4⟩
  have HF4 : Hid (Fresh w.heap.size o4) := f4.mono HB3.out.size
  clear f4
  have HB4 : Hid (Below w.heap.size w w4) := HB3.out.trans (b4.mono HB3.out.size)
  have HRR : Hid (RowsAt w4 o4 cap4 R) := hr4
  have HG4 : Hid (w4.heap[w.heap.size]? = some (.cells #[.int .i64 k, .int .u64 (id : Int), .int .u32 (x : Int), .int .u32 (y : Int), .string v] 34 (0, 0))) := (b4.block _ l3).trans HG3.out
  have HS4 : Hid (w4.heap[w1.heap.size]? = some (.cells #[.int .u64 (sid : Int), .int .u32 (sx : Int), .int .u32 (sy : Int), .string sv] 27 (0, 0))) := (b4.block _ m3).trans HS3.out
  have l4 : w.heap.size < w4.heap.size := (Array.getElem?_eq_some_iff.1 HG4.out).1
  have m4 : w1.heap.size < w4.heap.size := (Array.getElem?_eq_some_iff.1 HS4.out).1
  clear c0 c1 c2 c3 c4 d0 d1 d2 d3
  obtain ⟨c0, c1, c2, c3, c4⟩ := op_cells HG4.out
  obtain ⟨-, -, -, -, d0, d1, d2, d3⟩ := row_facts HS4.out
  clear hr4 b4 HWO HG3 HS3 l3 m3 HB3
  go_wp2_with fail
  refine Calls.mono (HBC.out _) ?_
  rintro e w5 ⟨rfl, b5⟩
  have HB5 : Hid (Below w.heap.size w w5) := HB4.out.trans (b5.mono HB4.out.size)
  have HR5 : Hid (RowsAt w5 o4 cap4 R) := HRR.out.below b5 (Nat.le_refl _)
  clear b5 HBC
  go_wp2_with fail
  refine Calls.mono (HWI.out w5 o4 cap4 HR5.out) ?_
  rintro e w6 ⟨o6, cap6, rfl, hr6, b6, f6⟩
  have HE : Hid (RowsAt w6 o6 cap6 (insR R ⟨nid, nx, ny, nvl⟩) ∧ Below w.heap.size w w6 ∧ Fresh w.heap.size o6) := ⟨hr6, HB5.out.trans (b6.mono HB5.out.size), f6.mono HB5.out.size⟩
  clear hr6 b6 HWI f6
  go_wp2_with fail
  go_ret2
  exact ⟨o6, cap6, rfl, HE.out.1, HE.out.2.1, HE.out.2.2⟩
set_option maxRecDepth 100000 in
theorem apply_any (o : Option Addr) (cap : Nat) (l : List Rw) (c : Ch) (w : World) (hr : RowsAt w o cap l) :
    Calls Try.prog 15 #[.slice o l.length cap, ov c] w (KP (apL l c) (apE l c) w) := by
  obtain ⟨k, id, x, y, v⟩ := c
  have bad : ∀ (E : Int), E ≠ 0 → apE l ⟨k, ⟨id, x, y, v⟩⟩ = E → ∀ (e : Ending) (w' : World), e = .returned (.tuple #[.slice none 0 0, .int .i64 E]) ∧ Below w.heap.size w w' → KP (apL l ⟨k, ⟨id, x, y, v⟩⟩) (apE l ⟨k, ⟨id, x, y, v⟩⟩) w e w' := fun E hE hA e w' h => by
    have hL : apL l ⟨k, ⟨id, x, y, v⟩⟩ = [] := by unfold apL; rw [hA, if_neg hE]
    rw [hL, hA]
    exact ⟨none, 0, h.1, Sl.nil 4 w', h.2, fun b off e => by cases e⟩
  cases h : rightL l
  · exact (apply_no o cap l k id x y v w hr h).mono fun e w' h2 => bad 80 (by decide) (by simp [apE, h]) e w' h2
  by_cases hc : chkO ⟨k, ⟨id, x, y, v⟩⟩ = 0
  rotate_left
  · exact (apply_bad o cap l k id x y v w hr h hc).mono fun e w' h2 => bad _ hc (by simp [apE, h, hc]) e w' h2
  cases hn : its l id with
  | none =>
    have hrm : remR l id = l := by unfold remR; rw [hn]; rfl
    by_cases hk : k = 1
    · subst hk
      by_cases hm : l.length = 1000
      · exact (apply_many o cap l 1 id x y v w hr h hc rfl hn hm).mono fun e w' h2 => bad 82 (by decide) (by simp [apE, h, hc, hn, hrm, hm]) e w' h2
      · have hA : apE l ⟨1, ⟨id, x, y, v⟩⟩ = 0 := by simp [apE, h, hc, hn, hrm, hm]
        have hL : apL l ⟨1, ⟨id, x, y, v⟩⟩ = insR l (newR zr ⟨1, ⟨id, x, y, v⟩⟩) := by
          unfold apL
          rw [if_pos hA]
          simp only
          rw [if_neg (by omega), hrm, hn]
          rfl
        rw [hA, hL]
        exact apply_new o cap l 1 id x y v w hr h hc rfl hn hm _ rfl
    · exact (apply_none o cap l k id x y v w hr h hc hk hn).mono fun e w' h2 => bad 100 (by decide) (by simp [apE, h, hc, hn, hk]) e w' h2
  | some s =>
    have hl : (remR l id).length ≠ 1000 := by
      have hri := right_rise h
      have := ((rightL_iff l).1 h).1
      unfold remR
      rw [hn]
      simp only [Option.isSome_some, if_true]
      rw [List.length_eraseIdx, if_pos (its_at hri hn).1]
      omega
    have hA : apE l ⟨k, ⟨id, x, y, v⟩⟩ = 0 := by simp [apE, h, hc, hn, hl]
    by_cases hk : k = 3
    · have hL : apL l ⟨k, ⟨id, x, y, v⟩⟩ = remR l id := by
        unfold apL
        rw [if_pos hA]
        exact if_pos hk
      rw [hA, hL]
      exact apply_del o cap l k id x y v w hr h hc hk s hn
    · have hL : apL l ⟨k, ⟨id, x, y, v⟩⟩ = insR (remR l id) (newR s ⟨k, ⟨id, x, y, v⟩⟩) := by
        unfold apL
        rw [if_pos hA]
        simp only
        rw [if_neg hk, hn]
        rfl
      rw [hA, hL]
      exact apply_old o cap l k id x y v w hr h hc hk s hn _ rfl
end Go.Proofs.Ythneciodobeehaa.Rp
