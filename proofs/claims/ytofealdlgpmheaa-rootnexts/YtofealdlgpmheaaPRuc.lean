/- The next root. -/
import Derived.Test.YtofealdlgpmheaaQRtn
namespace Go.Proofs.Ytofealdlgpmheaa.Ro
open Go.RowKit Go.Lib Go.Shelf
open Go.Proofs.Ytofealdlgpmheaa.Rc Go.Proofs.Ytofealdlgpmheaa.Rq
set_option maxRecDepth 100000 in
set_option maxHeartbeats 2000000 in
theorem rootNexts_walk (c g : Nat) (i : Int) (p : Nat) (t : ByteArray) (hc : c < 18446744073709551616) (w : World) : Calls Try.prog 5 #[.int .u64 (c : Int), .int .u32 (g : Int), .int .i64 i, rfv p t] w fun e w' => e = .returned (.bool true) ∧ Below w.heap.size w w' := by
  have HSH : Hid (∀ W : World, _) := shown_any
  have h1 : ∀ W : World, _ := fun W => rNext_any c g i p t W hc
  have h2 : ∀ W : World, _ := fun W => sNext_any c g i p t W hc
  unfold NP at h1 h2
  have heq := eql_root (nxR c g i p t) (nxR c g i p t)
  rw [(eqR_iff _ _).2 rfl] at heq
  obtain ⟨E, hE⟩ : ∃ E : Int, nxE c g i p t = E := ⟨_, rfl⟩
  rw [hE] at h1 h2
  obtain ⟨r, hr⟩ : ∃ r, nxR c g i p t = r := ⟨_, rfl⟩
  rw [hr] at h1 h2 heq
  obtain ⟨ac, ag, an, ap, at_⟩ := r
  have H1 : Hid (∀ W : World, _) := h1
  have H2 : Hid (∀ W : World, _) := h2
  clear h1 h2 hE hr hc
  obtain ⟨W1, hW1⟩ : ∃ W, w.alloc (.cells #[.int .u32 (p : Int), .string t] 25) = W := ⟨_, rfl⟩
  have hb1 := below_new w (.cells #[.int .u32 (p : Int), .string t] 25)
  have hg1 := heap_alloc_new w (.cells #[.int .u32 (p : Int), .string t] 25)
  rw [hW1] at hb1 hg1
  have HW1 : Hid _ := hW1
  have HB1 : Hid (Below w.heap.size w W1) := hb1
  have HT1 : Hid (W1.heap[w.heap.size]? = some (.cells #[.int .u32 (p : Int), .string t] 25 (0, 0))) := hg1
  clear hb1 hg1 hW1
  go_enter Try.func5, Try.ntmps5
  go_wp2_with fail
  rw [HW1.out]
  clear HW1
  refine (HSH.out W1).mono ?_
  rintro e w2 ⟨rfl, b2⟩
  have HT2 : Hid (w2.heap[w.heap.size]? = some (.cells #[.int .u32 (p : Int), .string t] 25 (0, 0))) := (b2.block _ (Array.getElem?_eq_some_iff.1 HT1.out).1).trans HT1.out
  have HB2 : Hid (Below w.heap.size w w2) := HB1.out.trans (b2.mono HB1.out.size)
  clear b2
  have fT0 : w2.cell? ⟨w.heap.size, 0, none⟩ = some (.int .u32 (p : Int)) := by rw [cell_of_row _ _ _ _ _ _ HT2.out]; rfl
  have fT1 : w2.cell? ⟨w.heap.size, 1, none⟩ = some (.string t) := by rw [cell_of_row _ _ _ _ _ _ HT2.out]; rfl
  go_wp2_with fail
  clear fT0 fT1
  refine (H1.out w2).mono ?_
  rintro e w3 ⟨rfl, b3⟩
  have HT3 : Hid (w3.heap[w.heap.size]? = some (.cells #[.int .u32 (p : Int), .string t] 25 (0, 0))) := (b3.block _ (Array.getElem?_eq_some_iff.1 HT2.out).1).trans HT2.out
  have HB3 : Hid (Below w.heap.size w w3) := HB2.out.trans (b3.mono HB2.out.size)
  clear b3
  obtain ⟨W4, hW4⟩ : ∃ W, w3.alloc (.cells #[.int .u64 (ac : Int), .int .u32 (ag : Int), .int .u32 (an : Int), .int .u32 (ap : Int), .string at_] 27) = W := ⟨_, rfl⟩
  have hb4 := below_new w3 (.cells #[.int .u64 (ac : Int), .int .u32 (ag : Int), .int .u32 (an : Int), .int .u32 (ap : Int), .string at_] 27)
  have hg4 := heap_alloc_new w3 (.cells #[.int .u64 (ac : Int), .int .u32 (ag : Int), .int .u32 (an : Int), .int .u32 (ap : Int), .string at_] 27)
  rw [hW4] at hb4 hg4
  have HW4 : Hid _ := hW4
  have HT4 : Hid (W4.heap[w.heap.size]? = some (.cells #[.int .u32 (p : Int), .string t] 25 (0, 0))) := (hb4.block _ (Array.getElem?_eq_some_iff.1 HT3.out).1).trans HT3.out
  have HB4 : Hid (Below w.heap.size w W4) := HB3.out.trans (hb4.mono HB3.out.size)
  have HA4 : Hid (W4.heap[w3.heap.size]? = some (.cells #[.int .u64 (ac : Int), .int .u32 (ag : Int), .int .u32 (an : Int), .int .u32 (ap : Int), .string at_] 27 (0, 0))) := hg4
  clear hb4 hg4 hW4
  have fT0 : W4.cell? ⟨w.heap.size, 0, none⟩ = some (.int .u32 (p : Int)) := by rw [cell_of_row _ _ _ _ _ _ HT4.out]; rfl
  have fT1 : W4.cell? ⟨w.heap.size, 1, none⟩ = some (.string t) := by rw [cell_of_row _ _ _ _ _ _ HT4.out]; rfl
  go_wp2_with (first | (rw [HW4.out]; clear HW4))
  clear fT0 fT1
  refine (H2.out W4).mono ?_
  rintro e w5 ⟨rfl, b5⟩
  have HT5 : Hid (w5.heap[w.heap.size]? = some (.cells #[.int .u32 (p : Int), .string t] 25 (0, 0))) := (b5.block _ (Array.getElem?_eq_some_iff.1 HT4.out).1).trans HT4.out
  have HA5 : Hid (w5.heap[w3.heap.size]? = some (.cells #[.int .u64 (ac : Int), .int .u32 (ag : Int), .int .u32 (an : Int), .int .u32 (ap : Int), .string at_] 27 (0, 0))) := (b5.block _ (Array.getElem?_eq_some_iff.1 HA4.out).1).trans HA4.out
  have HB5 : Hid (Below w.heap.size w w5) := HB4.out.trans (b5.mono HB4.out.size)
  clear b5
  obtain ⟨W6, hW6⟩ : ∃ W, w5.alloc (.cells #[.int .u64 (ac : Int), .int .u32 (ag : Int), .int .u32 (an : Int), .int .u32 (ap : Int), .string at_] 27) = W := ⟨_, rfl⟩
  have hb6 := below_new w5 (.cells #[.int .u64 (ac : Int), .int .u32 (ag : Int), .int .u32 (an : Int), .int .u32 (ap : Int), .string at_] 27)
  have hg6 := heap_alloc_new w5 (.cells #[.int .u64 (ac : Int), .int .u32 (ag : Int), .int .u32 (an : Int), .int .u32 (ap : Int), .string at_] 27)
  rw [hW6] at hb6 hg6
  have HW6 : Hid _ := hW6
  have HT6 : Hid (W6.heap[w.heap.size]? = some (.cells #[.int .u32 (p : Int), .string t] 25 (0, 0))) := (hb6.block _ (Array.getElem?_eq_some_iff.1 HT5.out).1).trans HT5.out
  have HA6 : Hid (W6.heap[w3.heap.size]? = some (.cells #[.int .u64 (ac : Int), .int .u32 (ag : Int), .int .u32 (an : Int), .int .u32 (ap : Int), .string at_] 27 (0, 0))) := (hb6.block _ (Array.getElem?_eq_some_iff.1 HA5.out).1).trans HA5.out
  have HB6 : Hid (Below w.heap.size w W6) := HB5.out.trans (hb6.mono HB5.out.size)
  have HC6 : Hid (W6.heap[w5.heap.size]? = some (.cells #[.int .u64 (ac : Int), .int .u32 (ag : Int), .int .u32 (an : Int), .int .u32 (ap : Int), .string at_] 27 (0, 0))) := hg6
  clear hb6 hg6 hW6
  have fA0 : W6.cell? ⟨w3.heap.size, 0, none⟩ = some (.int .u64 (ac : Int)) := by rw [cell_of_row _ _ _ _ _ _ HA6.out]; rfl
  have fA1 : W6.cell? ⟨w3.heap.size, 1, none⟩ = some (.int .u32 (ag : Int)) := by rw [cell_of_row _ _ _ _ _ _ HA6.out]; rfl
  have fA2 : W6.cell? ⟨w3.heap.size, 2, none⟩ = some (.int .u32 (an : Int)) := by rw [cell_of_row _ _ _ _ _ _ HA6.out]; rfl
  have fA3 : W6.cell? ⟨w3.heap.size, 3, none⟩ = some (.int .u32 (ap : Int)) := by rw [cell_of_row _ _ _ _ _ _ HA6.out]; rfl
  have fA4 : W6.cell? ⟨w3.heap.size, 4, none⟩ = some (.string at_) := by rw [cell_of_row _ _ _ _ _ _ HA6.out]; rfl
  have fC0 : W6.cell? ⟨w5.heap.size, 0, none⟩ = some (.int .u64 (ac : Int)) := by rw [cell_of_row _ _ _ _ _ _ HC6.out]; rfl
  have fC1 : W6.cell? ⟨w5.heap.size, 1, none⟩ = some (.int .u32 (ag : Int)) := by rw [cell_of_row _ _ _ _ _ _ HC6.out]; rfl
  have fC2 : W6.cell? ⟨w5.heap.size, 2, none⟩ = some (.int .u32 (an : Int)) := by rw [cell_of_row _ _ _ _ _ _ HC6.out]; rfl
  have fC3 : W6.cell? ⟨w5.heap.size, 3, none⟩ = some (.int .u32 (ap : Int)) := by rw [cell_of_row _ _ _ _ _ _ HC6.out]; rfl
  have fC4 : W6.cell? ⟨w5.heap.size, 4, none⟩ = some (.string at_) := by rw [cell_of_row _ _ _ _ _ _ HC6.out]; rfl
  go_wp2_with (first | (rw [HW6.out]; clear HW6))
  go_ret
  exact ⟨rfl, HB6.out⟩
end Go.Proofs.Ytofealdlgpmheaa.Ro
