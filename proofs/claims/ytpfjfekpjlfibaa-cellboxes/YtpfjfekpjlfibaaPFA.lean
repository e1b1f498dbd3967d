/- The example. -/
import Derived.Test.YtpfjfekpjlfibaaPCQ
namespace Go.Proofs.Ytpfjfekpjlfibaa.Rc
open Go.RowKit Go.Lib
set_option maxRecDepth 100000 in
theorem ex1 : leas 5 1 6 2 = (4, 0, 2, 0) := by decide +kernel
set_option maxRecDepth 100000 in
theorem ex2 : wher 0 0 2 1 3 = (2, 0) := by decide +kernel
set_option maxRecDepth 100000 in
theorem ex3 : fars 4 0 2 1 5 = (13, 0) := by decide +kernel
set_option maxHeartbeats 2000000 in
set_option maxRecDepth 100000 in
theorem shown_any (w : World) : Calls Try.prog 12 #[] w fun e w' => e = .returned (.bool true) ∧ Below w.heap.size w w' := by
  have H1 : Hid (∀ w, Calls Try.prog 25 #[.int .u32 5, .int .u32 1, .int .u32 6, .int .u32 2] w fun e w' => e = .returned (.tuple #[.agg #[.int .u32 4, .int .u32 0, .int .i64 2], .int .i64 0]) ∧ Below w.heap.size w w') := fun w => by
    have := least_any 5 1 6 2 w
    rw [ex1] at this
    exact this
  have H2 : Hid (∀ w, Calls Try.prog 23 #[.agg #[.int .u32 0, .int .u32 0, .int .i64 2], .int .u32 1, .int .u32 3] w fun e w' => e = .returned (.tuple #[.int .i64 2, .int .i64 0]) ∧ Below w.heap.size w w') := fun w => by
    have := where_any 0 0 2 1 3 (by decide) (by decide) (by decide) (by decide) w
    rw [ex2] at this
    exact this
  have H3 : Hid (∀ w, Calls Try.prog 27 #[.agg #[.int .u32 4, .int .u32 0, .int .i64 2], .int .u32 1, .int .u32 5] w fun e w' => e = .returned (.tuple #[.int .u64 13, .int .i64 0]) ∧ Below w.heap.size w w') := fun w => by
    have := far_any 4 0 2 1 5 (by decide) (by decide) w
    rw [ex3] at this
    exact this
  go_enter Try.func12, Try.ntmps12
  go_wp2_with fail
  refine (H1.out _).mono ?_
  rintro e w1 ⟨rfl, b1⟩
  have HB : Hid (Below w.heap.size w w1) := b1
  have HW : Hid (w.heap.size ≤ w1.heap.size) := b1.size
  clear b1
  go_wp2_with fail
  refine (H2.out _).mono ?_
  rintro e w2 ⟨rfl, b2⟩
  replace HB : Hid (Below w.heap.size w w2) := (HB.out.alloc HB.out.size _).trans (b2.mono (by have := HB.out.size; simp; omega))
  have HG : Hid (w2.heap[w1.heap.size]? = some (.cells #[.int .u32 ((4 : Nat) : Int), .int .u32 ((0 : Nat) : Int), .int .i64 2] 24 (0, 0))) := (b2.block _ (by simp)).trans (heap_alloc_new w1 _)
  have HL : Hid (w1.heap.size < w2.heap.size ∧ w.heap.size ≤ w1.heap.size) := ⟨(Array.getElem?_eq_some_iff.1 HG.out).1, HW.out⟩
  clear b2
  go_wp2_with fail
  refine (H3.out _).mono ?_
  rintro e w3 ⟨rfl, b3⟩
  replace HB : Hid (Below w.heap.size w w3) := HB.out.trans (b3.mono (by have := HL.out; omega))
  obtain ⟨e0, e1, e2⟩ := Cel.cells ((b3.block _ HL.out.1).trans HG.out)
  clear b3
  go_wp2_with fail
  go_ret
  exact ⟨rfl, HB.out⟩
end Go.Proofs.Ytpfjfekpjlfibaa.Rc
