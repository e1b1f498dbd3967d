/- The place of what can't be told is told. -/
import Derived.Test.YthneciodobeehaaPTN
import Derived.Test.YthneciodobeehaaPEQ
namespace Go.Proofs.Ythneciodobeehaa.Rp
open Go.RowKit Go.Lib Go.Shelf
open Go.Proofs.Ythneciodobeehaa.Rc Go.Proofs.Ythneciodobeehaa.Rq
def c5 : Ch := ⟨1, ⟨5, 0, 0, ⟨#[]⟩⟩⟩
def c6 : Ch := ⟨3, ⟨6, 0, 0, ⟨#[]⟩⟩⟩
set_option maxRecDepth 100000 in
theorem c5_is : apL [] c5 = [⟨5, 0, 0, ⟨#[]⟩⟩] ∧ apE [] c5 = 0 := ⟨rfl, rfl⟩
set_option maxRecDepth 100000 in
theorem c56_is : btL [] [c5, c6] = [] ∧ btA [] [c5, c6] = 1 ∧ btE [] [c5, c6] = 100 := ⟨rfl, rfl, rfl⟩
set_option maxRecDepth 100000 in
theorem eq5 : eqL eqR [(⟨5, 0, 0, ⟨#[]⟩⟩ : Rw)] [(⟨5, 0, 0, ⟨#[]⟩⟩ : Rw)] = true := by decide
set_option maxRecDepth 100000 in
set_option maxHeartbeats 2000000 in
theorem pshown_any (w : World) : Calls Try.prog 11 #[] w fun e w' => e = .returned (.bool true) ∧ Below w.heap.size w w' := by
  have hb := below_new w (ocs c5)
  have hg := heap_alloc_new w (ocs c5)
  obtain ⟨W0, hW0⟩ : ∃ W0, w.alloc (ocs c5) = W0 := ⟨_, rfl⟩
  rw [hW0] at hb hg
  have HW0 : Hid (w.alloc (.cells #[.int .i64 1, .int .u64 5, .int .u32 0, .int .u32 0, .string ⟨#[]⟩] 34) = W0) := hW0
  have HB0 : Hid (Below w.heap.size w W0) := hb
  have HG0 : Hid (W0.heap[w.heap.size]? = some (.cells #[.int .i64 1, .int .u64 5, .int .u32 0, .int .u32 0, .string ⟨#[]⟩] 34 (0, 0))) := hg
  have l0 : w.heap.size < W0.heap.size := (Array.getElem?_eq_some_iff.1 hg).1
  have HA : Hid (∀ W, Calls Try.prog 15 #[.slice none 0 0, .agg #[.int .i64 1, .int .u64 5, .int .u32 0, .int .u32 0, .string ⟨#[]⟩]] W (KP [⟨5, 0, 0, ⟨#[]⟩⟩] 0 W)) := fun W => by
    have := apply_any none 0 [] c5 W (Sl.nil 4 W)
    rw [c5_is.1, c5_is.2] at this
    exact this
  have HT : Hid (∀ W o cap, OpsAt W o cap [c5, c6] → Calls Try.prog 18 #[.slice none 0 0, .slice o 2 cap] W (BP [] 1 100 W)) := fun W o cap h => by
    have := batch_any none 0 [] o cap [c5, c6] W (Sl.nil 4 W) h
    rw [c56_is.1, c56_is.2.1, c56_is.2.2] at this
    exact this
  have HS : Hid (∀ W o cap o2 cap2, RowsAt W o cap [⟨5, 0, 0, ⟨#[]⟩⟩] → RowsAt W o2 cap2 [⟨5, 0, 0, ⟨#[]⟩⟩] → Calls Try.prog 17 #[.slice o 1 cap, .slice o2 1 cap2] W fun e w' => e = .returned (.bool true) ∧ Below W.heap.size W w') := fun W o cap o2 cap2 h1 h2 => by
    have := rsame_any _ _ o cap o2 cap2 W h1 h2
    rw [eq5] at this
    exact this
  obtain ⟨h0, h1, h2, h3, h4⟩ := op_cells hg
  clear hb hg hW0
  go_enter Try.func11, Try.ntmps11
  go_wp2_with (first | (rw [HW0.out]; clear HW0))
  refine Calls.mono (HA.out _) ?_
  rintro e w1 ⟨o1, cap1, rfl, hr1, b1, -⟩
  have HB1 : Hid (Below w.heap.size w w1) := HB0.out.trans (b1.mono HB0.out.size)
  have hg1 : w1.heap[w.heap.size]? = some (.cells #[.int .i64 1, .int .u64 5, .int .u32 0, .int .u32 0, .string ⟨#[]⟩] 34 (0, 0)) := (b1.block _ l0).trans HG0.out
  have HX1 : Hid (RowsAt w1 o1 cap1 [⟨5, 0, 0, ⟨#[]⟩⟩]) := hr1
  clear h0 h1 h2 h3 h4
  obtain ⟨h0, h1, h2, h3, h4⟩ := op_cells hg1
  have l1 : w.heap.size < w1.heap.size := (Array.getElem?_eq_some_iff.1 hg1).1
  clear b1 hr1 HA HB0 HG0 l0 hg1
  have hb2 := below_new w1 (.cells #[.int .i64 1, .int .u64 5, .int .u32 0, .int .u32 0, .string ⟨#[]⟩, .int .i64 3, .int .u64 6, .int .u32 0, .int .u32 0, .string ⟨#[]⟩] 34)
  have hg2 := heap_alloc_new w1 (.cells #[.int .i64 1, .int .u64 5, .int .u32 0, .int .u32 0, .string ⟨#[]⟩, .int .i64 3, .int .u64 6, .int .u32 0, .int .u32 0, .string ⟨#[]⟩] 34)
  obtain ⟨W2, hW2⟩ : ∃ W2, w1.alloc (.cells #[.int .i64 1, .int .u64 5, .int .u32 0, .int .u32 0, .string ⟨#[]⟩, .int .i64 3, .int .u64 6, .int .u32 0, .int .u32 0, .string ⟨#[]⟩] 34) = W2 := ⟨_, rfl⟩
  rw [hW2] at hb2 hg2
  have HW2 : Hid _ := hW2
  have ho2 : OpsAt W2 (some ⟨w1.heap.size, 0, none⟩) 2 [c5, c6] := by
    refine ⟨by decide, by decide, (fun e => by cases e), rfl, fun _ => ⟨w1.heap.size, 0, rfl, (Array.getElem?_eq_some_iff.1 hg2).1, fun j u hu => ?_⟩⟩
    rw [Nat.zero_add, cell_of_row _ _ _ _ _ _ hg2, ← hu, ← Array.getElem?_toList]
    rfl
  have HO2 : Hid _ := ho2
  have HB2 : Hid (Below w.heap.size w W2) := HB1.out.trans (hb2.mono HB1.out.size)
  have HX2 : Hid (RowsAt W2 o1 cap1 [⟨5, 0, 0, ⟨#[]⟩⟩]) := HX1.out.below hb2 (Nat.le_refl _)
  clear hb2 hg2 hW2 ho2 HB1 HX1
  go_wp2_with (first | (rw [HW2.out]; clear HW2))
  refine Calls.mono (HT.out _ _ _ HO2.out) ?_
  rintro e w3 ⟨o3, cap3, rfl, hr3, b3⟩
  have HB3 : Hid (Below w.heap.size w w3) := HB2.out.trans (b3.mono HB2.out.size)
  have HX3 : Hid (RowsAt w3 o1 cap1 [⟨5, 0, 0, ⟨#[]⟩⟩]) := HX2.out.below b3 (Nat.le_refl _)
  clear b3 hr3 HT HB2 HX2 HO2 h0 h1 h2 h3 h4
  have hb4 := below_new w3 (.cells #[.int .u64 5, .int .u32 0, .int .u32 0, .string ⟨#[]⟩] 27)
  have hg4 := heap_alloc_new w3 (.cells #[.int .u64 5, .int .u32 0, .int .u32 0, .string ⟨#[]⟩] 27)
  obtain ⟨W4, hW4⟩ : ∃ W4, w3.alloc (.cells #[.int .u64 5, .int .u32 0, .int .u32 0, .string ⟨#[]⟩] 27) = W4 := ⟨_, rfl⟩
  rw [hW4] at hb4 hg4
  have HW4 : Hid _ := hW4
  have hr4 : RowsAt W4 (some ⟨w3.heap.size, 0, none⟩) 1 [⟨5, 0, 0, ⟨#[]⟩⟩] := by
    refine ⟨by decide, by decide, (fun e => by cases e), rfl, fun _ => ⟨w3.heap.size, 0, rfl, (Array.getElem?_eq_some_iff.1 hg4).1, fun j u hu => ?_⟩⟩
    rw [Nat.zero_add, cell_of_row _ _ _ _ _ _ hg4, ← hu, ← Array.getElem?_toList]
    rfl
  have HR4 : Hid _ := hr4
  have HB4 : Hid (Below w.heap.size w W4) := HB3.out.trans (hb4.mono HB3.out.size)
  have HX4 : Hid (RowsAt W4 o1 cap1 [⟨5, 0, 0, ⟨#[]⟩⟩]) := HX3.out.below hb4 (Nat.le_refl _)
  clear hb4 hg4 hW4 hr4 HB3 HX3
  go_wp2_with (first | (rw [HW4.out]; clear HW4))
  refine Calls.mono (HS.out _ _ _ _ _ HX4.out HR4.out) ?_
  rintro e w5 ⟨rfl, b5⟩
  have HB5 : Hid (Below w.heap.size w w5) := HB4.out.trans (b5.mono HB4.out.size)
  clear b5 HS HB4 HX4 HR4
  go_wp2_with fail
  go_ret
  exact ⟨rfl, HB5.out⟩
end Go.Proofs.Ythneciodobeehaa.Rp
