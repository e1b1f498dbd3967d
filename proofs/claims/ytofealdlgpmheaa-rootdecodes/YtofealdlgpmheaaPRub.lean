/- The root of bytes. -/
import Derived.Test.YtofealdlgpmheaaQRtn
import Derived.Test.YtofealdlgpmheaaPRtm
namespace Go.Proofs.Ytofealdlgpmheaa.Ro
open Go.RowKit Go.Lib Go.Shelf
open Go.Proofs.Ytofealdlgpmheaa.Rc Go.Proofs.Ytofealdlgpmheaa.Rq
set_option maxRecDepth 100000 in
set_option maxHeartbeats 2000000 in
theorem rootDecodes_walk (s : ByteArray) (w : World) : Calls Try.prog 4 #[.string s] w fun e w' => e = .returned (.bool true) ∧ Below w.heap.size w w' := by
  have HSH : Hid (∀ W : World, _) := shown_any
  have h1 : ∀ W : World, _ := decode_any s
  have h2 : ∀ W : World, _ := sdecode_any s
  unfold DP at h1 h2
  have heq := eql_root (rdR s) (rdR s)
  rw [(eqR_iff _ _).2 rfl] at heq
  obtain ⟨E, hE⟩ : ∃ E : Int, (if okD s then 0 else 120) = E := ⟨_, rfl⟩
  rw [hE] at h1 h2
  obtain ⟨r, hr⟩ : ∃ r, rdR s = r := ⟨_, rfl⟩
  rw [hr] at h1 h2 heq
  obtain ⟨ac, ag, an, ap, at_⟩ := r
  have H1 : Hid (∀ W : World, _) := h1
  have H2 : Hid (∀ W : World, _) := h2
  clear h1 h2 hE hr
  go_enter Try.func4, Try.ntmps4
  go_wp2_with fail
  refine (HSH.out w).mono ?_
  rintro e w1 ⟨rfl, b1⟩
  have HB1 : Hid (Below w.heap.size w w1) := b1
  clear b1
  go_wp2_with fail
  refine (H1.out w1).mono ?_
  rintro e w2 ⟨rfl, b2⟩
  have HB2 : Hid (Below w.heap.size w w2) := HB1.out.trans (b2.mono HB1.out.size)
  clear b2
  obtain ⟨W3, hW3⟩ : ∃ W, w2.alloc (.cells #[.int .u64 (ac : Int), .int .u32 (ag : Int), .int .u32 (an : Int), .int .u32 (ap : Int), .string at_] 27) = W := ⟨_, rfl⟩
  have hb3 := below_new w2 (.cells #[.int .u64 (ac : Int), .int .u32 (ag : Int), .int .u32 (an : Int), .int .u32 (ap : Int), .string at_] 27)
  have hg3 := heap_alloc_new w2 (.cells #[.int .u64 (ac : Int), .int .u32 (ag : Int), .int .u32 (an : Int), .int .u32 (ap : Int), .string at_] 27)
  rw [hW3] at hb3 hg3
  have HW3 : Hid _ := hW3
  have HB3 : Hid (Below w.heap.size w W3) := HB2.out.trans (hb3.mono HB2.out.size)
  have HA3 : Hid (W3.heap[w2.heap.size]? = some (.cells #[.int .u64 (ac : Int), .int .u32 (ag : Int), .int .u32 (an : Int), .int .u32 (ap : Int), .string at_] 27 (0, 0))) := hg3
  clear hb3 hg3 hW3
  go_wp2_with fail
  rw [HW3.out]
  clear HW3
  refine (H2.out W3).mono ?_
  rintro e w4 ⟨rfl, b4⟩
  have HA4 : Hid (w4.heap[w2.heap.size]? = some (.cells #[.int .u64 (ac : Int), .int .u32 (ag : Int), .int .u32 (an : Int), .int .u32 (ap : Int), .string at_] 27 (0, 0))) := (b4.block _ (Array.getElem?_eq_some_iff.1 HA3.out).1).trans HA3.out
  have HB4 : Hid (Below w.heap.size w w4) := HB3.out.trans (b4.mono HB3.out.size)
  clear b4
  obtain ⟨W5, hW5⟩ : ∃ W, w4.alloc (.cells #[.int .u64 (ac : Int), .int .u32 (ag : Int), .int .u32 (an : Int), .int .u32 (ap : Int), .string at_] 27) = W := ⟨_, rfl⟩
  have hb5 := below_new w4 (.cells #[.int .u64 (ac : Int), .int .u32 (ag : Int), .int .u32 (an : Int), .int .u32 (ap : Int), .string at_] 27)
  have hg5 := heap_alloc_new w4 (.cells #[.int .u64 (ac : Int), .int .u32 (ag : Int), .int .u32 (an : Int), .int .u32 (ap : Int), .string at_] 27)
  rw [hW5] at hb5 hg5
  have HW5 : Hid _ := hW5
  have HA5 : Hid (W5.heap[w2.heap.size]? = some (.cells #[.int .u64 (ac : Int), .int .u32 (ag : Int), .int .u32 (an : Int), .int .u32 (ap : Int), .string at_] 27 (0, 0))) := (hb5.block _ (Array.getElem?_eq_some_iff.1 HA4.out).1).trans HA4.out
  have HB5 : Hid (Below w.heap.size w W5) := HB4.out.trans (hb5.mono HB4.out.size)
  have HC5 : Hid (W5.heap[w4.heap.size]? = some (.cells #[.int .u64 (ac : Int), .int .u32 (ag : Int), .int .u32 (an : Int), .int .u32 (ap : Int), .string at_] 27 (0, 0))) := hg5
  clear hb5 hg5 hW5
  have fA0 : W5.cell? ⟨w2.heap.size, 0, none⟩ = some (.int .u64 (ac : Int)) := by rw [cell_of_row _ _ _ _ _ _ HA5.out]; rfl
  have fA1 : W5.cell? ⟨w2.heap.size, 1, none⟩ = some (.int .u32 (ag : Int)) := by rw [cell_of_row _ _ _ _ _ _ HA5.out]; rfl
  have fA2 : W5.cell? ⟨w2.heap.size, 2, none⟩ = some (.int .u32 (an : Int)) := by rw [cell_of_row _ _ _ _ _ _ HA5.out]; rfl
  have fA3 : W5.cell? ⟨w2.heap.size, 3, none⟩ = some (.int .u32 (ap : Int)) := by rw [cell_of_row _ _ _ _ _ _ HA5.out]; rfl
  have fA4 : W5.cell? ⟨w2.heap.size, 4, none⟩ = some (.string at_) := by rw [cell_of_row _ _ _ _ _ _ HA5.out]; rfl
  have fC0 : W5.cell? ⟨w4.heap.size, 0, none⟩ = some (.int .u64 (ac : Int)) := by rw [cell_of_row _ _ _ _ _ _ HC5.out]; rfl
  have fC1 : W5.cell? ⟨w4.heap.size, 1, none⟩ = some (.int .u32 (ag : Int)) := by rw [cell_of_row _ _ _ _ _ _ HC5.out]; rfl
  have fC2 : W5.cell? ⟨w4.heap.size, 2, none⟩ = some (.int .u32 (an : Int)) := by rw [cell_of_row _ _ _ _ _ _ HC5.out]; rfl
  have fC3 : W5.cell? ⟨w4.heap.size, 3, none⟩ = some (.int .u32 (ap : Int)) := by rw [cell_of_row _ _ _ _ _ _ HC5.out]; rfl
  have fC4 : W5.cell? ⟨w4.heap.size, 4, none⟩ = some (.string at_) := by rw [cell_of_row _ _ _ _ _ _ HC5.out]; rfl
  go_wp2_with (first | (rw [HW5.out]; clear HW5))
  go_ret
  exact ⟨rfl, HB5.out⟩
end Go.Proofs.Ytofealdlgpmheaa.Ro
