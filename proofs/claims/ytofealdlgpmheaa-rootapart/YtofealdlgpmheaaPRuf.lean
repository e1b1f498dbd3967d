/- Unlike roots have unlike bytes. -/
import Derived.Test.YtofealdlgpmheaaQRtn
namespace Go.Proofs.Ytofealdlgpmheaa.Ro
open Go.RowKit Go.Lib Go.Shelf
open Go.Proofs.Ytofealdlgpmheaa.Rc Go.Proofs.Ytofealdlgpmheaa.Rq
set_option maxRecDepth 100000 in
theorem list_eqR {q r : Rt} (hq : okR q) (hr : okR r) (h1 : rrt q = true) (h2 : rrt r = true) : ((bR q).toList == (bR r).toList) = eqR q r := by
  cases h : eqR q r
  · have hne : q ≠ r := fun e => by rw [(eqR_iff _ _).2 e] at h; cases h
    have h3 : bR q ≠ bR r := fun e => hne (bR_inj hq hr h1 h2 e)
    have h4 := ba_ne h3
    simpa using h4
  · rw [(eqR_iff _ _).1 h]
    exact beq_self_eq_true _
set_option maxRecDepth 100000 in
set_option maxHeartbeats 4000000 in
theorem rootApart_walk (q r : Rt) (hq : okR q) (hr : okR r) (w : World) : Calls Try.prog 8 #[rtv q, rtv r] w fun e w' => e = .returned (.bool true) ∧ Below w.heap.size w w' := by
  have HSH : Hid (∀ W : World, _) := shown_any
  have h1 := encode_any q hq
  have h2 := encode_any r hr
  have heq := eql_root q r
  unfold encS encE at h1 h2
  cases hb1 : rrt q
  · rw [hb1] at h1
    simp only [Bool.false_eq_true, if_false] at h1
    obtain ⟨S2, hS2⟩ : ∃ s : ByteArray, (if rrt r = true then bR r else ⟨#[]⟩) = s := ⟨_, rfl⟩
    obtain ⟨E2, hE2⟩ : ∃ e : Int, (if rrt r = true then 0 else 120) = e := ⟨_, rfl⟩
    rw [hS2, hE2] at h2
    clear hS2 hE2 heq
    obtain ⟨ac, ag, an, ap, at_⟩ := q
    obtain ⟨dc, dg, dn, dp, dt_⟩ := r
    have H1 : Hid (∀ W : World, _) := h1
    have H2 : Hid (∀ W : World, _) := h2
    clear h1 h2 hb1 hq hr
    obtain ⟨W1, hW1⟩ : ∃ W, w.alloc (.cells #[.int .u64 (ac : Int), .int .u32 (ag : Int), .int .u32 (an : Int), .int .u32 (ap : Int), .string at_] 27) = W := ⟨_, rfl⟩
    have hb1 := below_new w (.cells #[.int .u64 (ac : Int), .int .u32 (ag : Int), .int .u32 (an : Int), .int .u32 (ap : Int), .string at_] 27)
    have hg1 := heap_alloc_new w (.cells #[.int .u64 (ac : Int), .int .u32 (ag : Int), .int .u32 (an : Int), .int .u32 (ap : Int), .string at_] 27)
    rw [hW1] at hb1 hg1
    have HW1 : Hid _ := hW1
    have HB1 : Hid (Below w.heap.size w W1) := hb1
    have HA1 : Hid (W1.heap[w.heap.size]? = some (.cells #[.int .u64 (ac : Int), .int .u32 (ag : Int), .int .u32 (an : Int), .int .u32 (ap : Int), .string at_] 27 (0, 0))) := hg1
    clear hb1 hg1 hW1
    obtain ⟨W2, hW2⟩ : ∃ W, W1.alloc (.cells #[.int .u64 (dc : Int), .int .u32 (dg : Int), .int .u32 (dn : Int), .int .u32 (dp : Int), .string dt_] 27) = W := ⟨_, rfl⟩
    have hb2 := below_new W1 (.cells #[.int .u64 (dc : Int), .int .u32 (dg : Int), .int .u32 (dn : Int), .int .u32 (dp : Int), .string dt_] 27)
    have hg2 := heap_alloc_new W1 (.cells #[.int .u64 (dc : Int), .int .u32 (dg : Int), .int .u32 (dn : Int), .int .u32 (dp : Int), .string dt_] 27)
    rw [hW2] at hb2 hg2
    have HW2 : Hid _ := hW2
    have HA2 : Hid (W2.heap[w.heap.size]? = some (.cells #[.int .u64 (ac : Int), .int .u32 (ag : Int), .int .u32 (an : Int), .int .u32 (ap : Int), .string at_] 27 (0, 0))) := (hb2.block _ (Array.getElem?_eq_some_iff.1 HA1.out).1).trans HA1.out
    have HB2 : Hid (Below w.heap.size w W2) := HB1.out.trans (hb2.mono HB1.out.size)
    have hs2 : W1.heap.size = w.heap.size + 1 := by rw [← HW1.out]; simp
    rw [hs2] at hg2
    clear hs2
    have HD2 : Hid (W2.heap[w.heap.size + 1]? = some (.cells #[.int .u64 (dc : Int), .int .u32 (dg : Int), .int .u32 (dn : Int), .int .u32 (dp : Int), .string dt_] 27 (0, 0))) := hg2
    clear hb2 hg2 hW2
    go_enter Try.func8, Try.ntmps8
    go_wp2_with fail
    rw [HW1.out, HW2.out]
    refine (HSH.out W2).mono ?_
    rintro e w3 ⟨rfl, b3⟩
    have HA3 : Hid (w3.heap[w.heap.size]? = some (.cells #[.int .u64 (ac : Int), .int .u32 (ag : Int), .int .u32 (an : Int), .int .u32 (ap : Int), .string at_] 27 (0, 0))) := (b3.block _ (Array.getElem?_eq_some_iff.1 HA2.out).1).trans HA2.out
    have HD3 : Hid (w3.heap[w.heap.size + 1]? = some (.cells #[.int .u64 (dc : Int), .int .u32 (dg : Int), .int .u32 (dn : Int), .int .u32 (dp : Int), .string dt_] 27 (0, 0))) := (b3.block _ (Array.getElem?_eq_some_iff.1 HD2.out).1).trans HD2.out
    have HB3 : Hid (Below w.heap.size w w3) := HB2.out.trans (b3.mono HB2.out.size)
    clear b3
    have fA0 : w3.cell? ⟨w.heap.size, 0, none⟩ = some (.int .u64 (ac : Int)) := by rw [cell_of_row _ _ _ _ _ _ HA3.out]; rfl
    have fA1 : w3.cell? ⟨w.heap.size, 1, none⟩ = some (.int .u32 (ag : Int)) := by rw [cell_of_row _ _ _ _ _ _ HA3.out]; rfl
    have fA2 : w3.cell? ⟨w.heap.size, 2, none⟩ = some (.int .u32 (an : Int)) := by rw [cell_of_row _ _ _ _ _ _ HA3.out]; rfl
    have fA3 : w3.cell? ⟨w.heap.size, 3, none⟩ = some (.int .u32 (ap : Int)) := by rw [cell_of_row _ _ _ _ _ _ HA3.out]; rfl
    have fA4 : w3.cell? ⟨w.heap.size, 4, none⟩ = some (.string at_) := by rw [cell_of_row _ _ _ _ _ _ HA3.out]; rfl
    go_wp2_with fail
    clear fA0 fA1 fA2 fA3 fA4
    refine (H1.out w3).mono ?_
    rintro e w4 ⟨rfl, b4⟩
    have HA4 : Hid (w4.heap[w.heap.size]? = some (.cells #[.int .u64 (ac : Int), .int .u32 (ag : Int), .int .u32 (an : Int), .int .u32 (ap : Int), .string at_] 27 (0, 0))) := (b4.block _ (Array.getElem?_eq_some_iff.1 HA3.out).1).trans HA3.out
    have HD4 : Hid (w4.heap[w.heap.size + 1]? = some (.cells #[.int .u64 (dc : Int), .int .u32 (dg : Int), .int .u32 (dn : Int), .int .u32 (dp : Int), .string dt_] 27 (0, 0))) := (b4.block _ (Array.getElem?_eq_some_iff.1 HD3.out).1).trans HD3.out
    have HB4 : Hid (Below w.heap.size w w4) := HB3.out.trans (b4.mono HB3.out.size)
    clear b4
    have fD0 : w4.cell? ⟨w.heap.size + 1, 0, none⟩ = some (.int .u64 (dc : Int)) := by rw [cell_of_row _ _ _ _ _ _ HD4.out]; rfl
    have fD1 : w4.cell? ⟨w.heap.size + 1, 1, none⟩ = some (.int .u32 (dg : Int)) := by rw [cell_of_row _ _ _ _ _ _ HD4.out]; rfl
    have fD2 : w4.cell? ⟨w.heap.size + 1, 2, none⟩ = some (.int .u32 (dn : Int)) := by rw [cell_of_row _ _ _ _ _ _ HD4.out]; rfl
    have fD3 : w4.cell? ⟨w.heap.size + 1, 3, none⟩ = some (.int .u32 (dp : Int)) := by rw [cell_of_row _ _ _ _ _ _ HD4.out]; rfl
    have fD4 : w4.cell? ⟨w.heap.size + 1, 4, none⟩ = some (.string dt_) := by rw [cell_of_row _ _ _ _ _ _ HD4.out]; rfl
    go_wp2_with fail
    clear fD0 fD1 fD2 fD3 fD4
    refine (H2.out w4).mono ?_
    rintro e w5 ⟨rfl, b5⟩
    have HA5 : Hid (w5.heap[w.heap.size]? = some (.cells #[.int .u64 (ac : Int), .int .u32 (ag : Int), .int .u32 (an : Int), .int .u32 (ap : Int), .string at_] 27 (0, 0))) := (b5.block _ (Array.getElem?_eq_some_iff.1 HA4.out).1).trans HA4.out
    have HD5 : Hid (w5.heap[w.heap.size + 1]? = some (.cells #[.int .u64 (dc : Int), .int .u32 (dg : Int), .int .u32 (dn : Int), .int .u32 (dp : Int), .string dt_] 27 (0, 0))) := (b5.block _ (Array.getElem?_eq_some_iff.1 HD4.out).1).trans HD4.out
    have HB5 : Hid (Below w.heap.size w w5) := HB4.out.trans (b5.mono HB4.out.size)
    clear b5
    have fA0 : w5.cell? ⟨w.heap.size, 0, none⟩ = some (.int .u64 (ac : Int)) := by rw [cell_of_row _ _ _ _ _ _ HA5.out]; rfl
    have fA1 : w5.cell? ⟨w.heap.size, 1, none⟩ = some (.int .u32 (ag : Int)) := by rw [cell_of_row _ _ _ _ _ _ HA5.out]; rfl
    have fA2 : w5.cell? ⟨w.heap.size, 2, none⟩ = some (.int .u32 (an : Int)) := by rw [cell_of_row _ _ _ _ _ _ HA5.out]; rfl
    have fA3 : w5.cell? ⟨w.heap.size, 3, none⟩ = some (.int .u32 (ap : Int)) := by rw [cell_of_row _ _ _ _ _ _ HA5.out]; rfl
    have fA4 : w5.cell? ⟨w.heap.size, 4, none⟩ = some (.string at_) := by rw [cell_of_row _ _ _ _ _ _ HA5.out]; rfl
    have fD0 : w5.cell? ⟨w.heap.size + 1, 0, none⟩ = some (.int .u64 (dc : Int)) := by rw [cell_of_row _ _ _ _ _ _ HD5.out]; rfl
    have fD1 : w5.cell? ⟨w.heap.size + 1, 1, none⟩ = some (.int .u32 (dg : Int)) := by rw [cell_of_row _ _ _ _ _ _ HD5.out]; rfl
    have fD2 : w5.cell? ⟨w.heap.size + 1, 2, none⟩ = some (.int .u32 (dn : Int)) := by rw [cell_of_row _ _ _ _ _ _ HD5.out]; rfl
    have fD3 : w5.cell? ⟨w.heap.size + 1, 3, none⟩ = some (.int .u32 (dp : Int)) := by rw [cell_of_row _ _ _ _ _ _ HD5.out]; rfl
    have fD4 : w5.cell? ⟨w.heap.size + 1, 4, none⟩ = some (.string dt_) := by rw [cell_of_row _ _ _ _ _ _ HD5.out]; rfl
    go_wp2_with fail
    go_ret
    exact ⟨rfl, HB5.out⟩
  · rw [hb1] at h1
    simp only [if_true] at h1
    cases hb2 : rrt r
    · rw [hb2] at h2
      simp only [Bool.false_eq_true, if_false] at h2
      clear heq
      obtain ⟨ac, ag, an, ap, at_⟩ := q
      obtain ⟨dc, dg, dn, dp, dt_⟩ := r
      have H1 : Hid (∀ W : World, _) := h1
      have H2 : Hid (∀ W : World, _) := h2
      clear h1 h2 hb1 hq hr
      obtain ⟨W1, hW1⟩ : ∃ W, w.alloc (.cells #[.int .u64 (ac : Int), .int .u32 (ag : Int), .int .u32 (an : Int), .int .u32 (ap : Int), .string at_] 27) = W := ⟨_, rfl⟩
      have hb1 := below_new w (.cells #[.int .u64 (ac : Int), .int .u32 (ag : Int), .int .u32 (an : Int), .int .u32 (ap : Int), .string at_] 27)
      have hg1 := heap_alloc_new w (.cells #[.int .u64 (ac : Int), .int .u32 (ag : Int), .int .u32 (an : Int), .int .u32 (ap : Int), .string at_] 27)
      rw [hW1] at hb1 hg1
      have HW1 : Hid _ := hW1
      have HB1 : Hid (Below w.heap.size w W1) := hb1
      have HA1 : Hid (W1.heap[w.heap.size]? = some (.cells #[.int .u64 (ac : Int), .int .u32 (ag : Int), .int .u32 (an : Int), .int .u32 (ap : Int), .string at_] 27 (0, 0))) := hg1
      clear hb1 hg1 hW1
      obtain ⟨W2, hW2⟩ : ∃ W, W1.alloc (.cells #[.int .u64 (dc : Int), .int .u32 (dg : Int), .int .u32 (dn : Int), .int .u32 (dp : Int), .string dt_] 27) = W := ⟨_, rfl⟩
      have hb2 := below_new W1 (.cells #[.int .u64 (dc : Int), .int .u32 (dg : Int), .int .u32 (dn : Int), .int .u32 (dp : Int), .string dt_] 27)
      have hg2 := heap_alloc_new W1 (.cells #[.int .u64 (dc : Int), .int .u32 (dg : Int), .int .u32 (dn : Int), .int .u32 (dp : Int), .string dt_] 27)
      rw [hW2] at hb2 hg2
      have HW2 : Hid _ := hW2
      have HA2 : Hid (W2.heap[w.heap.size]? = some (.cells #[.int .u64 (ac : Int), .int .u32 (ag : Int), .int .u32 (an : Int), .int .u32 (ap : Int), .string at_] 27 (0, 0))) := (hb2.block _ (Array.getElem?_eq_some_iff.1 HA1.out).1).trans HA1.out
      have HB2 : Hid (Below w.heap.size w W2) := HB1.out.trans (hb2.mono HB1.out.size)
      have hs2 : W1.heap.size = w.heap.size + 1 := by rw [← HW1.out]; simp
      rw [hs2] at hg2
      clear hs2
      have HD2 : Hid (W2.heap[w.heap.size + 1]? = some (.cells #[.int .u64 (dc : Int), .int .u32 (dg : Int), .int .u32 (dn : Int), .int .u32 (dp : Int), .string dt_] 27 (0, 0))) := hg2
      clear hb2 hg2 hW2
      go_enter Try.func8, Try.ntmps8
      go_wp2_with fail
      rw [HW1.out, HW2.out]
      refine (HSH.out W2).mono ?_
      rintro e w3 ⟨rfl, b3⟩
      have HA3 : Hid (w3.heap[w.heap.size]? = some (.cells #[.int .u64 (ac : Int), .int .u32 (ag : Int), .int .u32 (an : Int), .int .u32 (ap : Int), .string at_] 27 (0, 0))) := (b3.block _ (Array.getElem?_eq_some_iff.1 HA2.out).1).trans HA2.out
      have HD3 : Hid (w3.heap[w.heap.size + 1]? = some (.cells #[.int .u64 (dc : Int), .int .u32 (dg : Int), .int .u32 (dn : Int), .int .u32 (dp : Int), .string dt_] 27 (0, 0))) := (b3.block _ (Array.getElem?_eq_some_iff.1 HD2.out).1).trans HD2.out
      have HB3 : Hid (Below w.heap.size w w3) := HB2.out.trans (b3.mono HB2.out.size)
      clear b3
      have fA0 : w3.cell? ⟨w.heap.size, 0, none⟩ = some (.int .u64 (ac : Int)) := by rw [cell_of_row _ _ _ _ _ _ HA3.out]; rfl
      have fA1 : w3.cell? ⟨w.heap.size, 1, none⟩ = some (.int .u32 (ag : Int)) := by rw [cell_of_row _ _ _ _ _ _ HA3.out]; rfl
      have fA2 : w3.cell? ⟨w.heap.size, 2, none⟩ = some (.int .u32 (an : Int)) := by rw [cell_of_row _ _ _ _ _ _ HA3.out]; rfl
      have fA3 : w3.cell? ⟨w.heap.size, 3, none⟩ = some (.int .u32 (ap : Int)) := by rw [cell_of_row _ _ _ _ _ _ HA3.out]; rfl
      have fA4 : w3.cell? ⟨w.heap.size, 4, none⟩ = some (.string at_) := by rw [cell_of_row _ _ _ _ _ _ HA3.out]; rfl
      go_wp2_with fail
      clear fA0 fA1 fA2 fA3 fA4
      refine (H1.out w3).mono ?_
      rintro e w4 ⟨rfl, b4⟩
      have HA4 : Hid (w4.heap[w.heap.size]? = some (.cells #[.int .u64 (ac : Int), .int .u32 (ag : Int), .int .u32 (an : Int), .int .u32 (ap : Int), .string at_] 27 (0, 0))) := (b4.block _ (Array.getElem?_eq_some_iff.1 HA3.out).1).trans HA3.out
      have HD4 : Hid (w4.heap[w.heap.size + 1]? = some (.cells #[.int .u64 (dc : Int), .int .u32 (dg : Int), .int .u32 (dn : Int), .int .u32 (dp : Int), .string dt_] 27 (0, 0))) := (b4.block _ (Array.getElem?_eq_some_iff.1 HD3.out).1).trans HD3.out
      have HB4 : Hid (Below w.heap.size w w4) := HB3.out.trans (b4.mono HB3.out.size)
      clear b4
      have fD0 : w4.cell? ⟨w.heap.size + 1, 0, none⟩ = some (.int .u64 (dc : Int)) := by rw [cell_of_row _ _ _ _ _ _ HD4.out]; rfl
      have fD1 : w4.cell? ⟨w.heap.size + 1, 1, none⟩ = some (.int .u32 (dg : Int)) := by rw [cell_of_row _ _ _ _ _ _ HD4.out]; rfl
      have fD2 : w4.cell? ⟨w.heap.size + 1, 2, none⟩ = some (.int .u32 (dn : Int)) := by rw [cell_of_row _ _ _ _ _ _ HD4.out]; rfl
      have fD3 : w4.cell? ⟨w.heap.size + 1, 3, none⟩ = some (.int .u32 (dp : Int)) := by rw [cell_of_row _ _ _ _ _ _ HD4.out]; rfl
      have fD4 : w4.cell? ⟨w.heap.size + 1, 4, none⟩ = some (.string dt_) := by rw [cell_of_row _ _ _ _ _ _ HD4.out]; rfl
      go_wp2_with fail
      clear fD0 fD1 fD2 fD3 fD4
      refine (H2.out w4).mono ?_
      rintro e w5 ⟨rfl, b5⟩
      have HA5 : Hid (w5.heap[w.heap.size]? = some (.cells #[.int .u64 (ac : Int), .int .u32 (ag : Int), .int .u32 (an : Int), .int .u32 (ap : Int), .string at_] 27 (0, 0))) := (b5.block _ (Array.getElem?_eq_some_iff.1 HA4.out).1).trans HA4.out
      have HD5 : Hid (w5.heap[w.heap.size + 1]? = some (.cells #[.int .u64 (dc : Int), .int .u32 (dg : Int), .int .u32 (dn : Int), .int .u32 (dp : Int), .string dt_] 27 (0, 0))) := (b5.block _ (Array.getElem?_eq_some_iff.1 HD4.out).1).trans HD4.out
      have HB5 : Hid (Below w.heap.size w w5) := HB4.out.trans (b5.mono HB4.out.size)
      clear b5
      have fA0 : w5.cell? ⟨w.heap.size, 0, none⟩ = some (.int .u64 (ac : Int)) := by rw [cell_of_row _ _ _ _ _ _ HA5.out]; rfl
      have fA1 : w5.cell? ⟨w.heap.size, 1, none⟩ = some (.int .u32 (ag : Int)) := by rw [cell_of_row _ _ _ _ _ _ HA5.out]; rfl
      have fA2 : w5.cell? ⟨w.heap.size, 2, none⟩ = some (.int .u32 (an : Int)) := by rw [cell_of_row _ _ _ _ _ _ HA5.out]; rfl
      have fA3 : w5.cell? ⟨w.heap.size, 3, none⟩ = some (.int .u32 (ap : Int)) := by rw [cell_of_row _ _ _ _ _ _ HA5.out]; rfl
      have fA4 : w5.cell? ⟨w.heap.size, 4, none⟩ = some (.string at_) := by rw [cell_of_row _ _ _ _ _ _ HA5.out]; rfl
      have fD0 : w5.cell? ⟨w.heap.size + 1, 0, none⟩ = some (.int .u64 (dc : Int)) := by rw [cell_of_row _ _ _ _ _ _ HD5.out]; rfl
      have fD1 : w5.cell? ⟨w.heap.size + 1, 1, none⟩ = some (.int .u32 (dg : Int)) := by rw [cell_of_row _ _ _ _ _ _ HD5.out]; rfl
      have fD2 : w5.cell? ⟨w.heap.size + 1, 2, none⟩ = some (.int .u32 (dn : Int)) := by rw [cell_of_row _ _ _ _ _ _ HD5.out]; rfl
      have fD3 : w5.cell? ⟨w.heap.size + 1, 3, none⟩ = some (.int .u32 (dp : Int)) := by rw [cell_of_row _ _ _ _ _ _ HD5.out]; rfl
      have fD4 : w5.cell? ⟨w.heap.size + 1, 4, none⟩ = some (.string dt_) := by rw [cell_of_row _ _ _ _ _ _ HD5.out]; rfl
      go_wp2_with fail
      go_ret
      exact ⟨rfl, HB5.out⟩
    · rw [hb2] at h2
      simp only [if_true] at h2
      have hl := list_eqR hq hr hb1 hb2
      obtain ⟨bb, hbb⟩ : ∃ b, eqR q r = b := ⟨_, rfl⟩
      rw [hbb] at hl heq
      obtain ⟨S1, hS1⟩ : ∃ s, bR q = s := ⟨_, rfl⟩
      obtain ⟨S2, hS2⟩ : ∃ s, bR r = s := ⟨_, rfl⟩
      rw [hS1] at h1 hl
      rw [hS2] at h2 hl
      clear hbb hS1 hS2
      cases bb
      · skip
        obtain ⟨ac, ag, an, ap, at_⟩ := q
        obtain ⟨dc, dg, dn, dp, dt_⟩ := r
        have H1 : Hid (∀ W : World, _) := h1
        have H2 : Hid (∀ W : World, _) := h2
        clear h1 h2 hb1 hq hr
        obtain ⟨W1, hW1⟩ : ∃ W, w.alloc (.cells #[.int .u64 (ac : Int), .int .u32 (ag : Int), .int .u32 (an : Int), .int .u32 (ap : Int), .string at_] 27) = W := ⟨_, rfl⟩
        have hb1 := below_new w (.cells #[.int .u64 (ac : Int), .int .u32 (ag : Int), .int .u32 (an : Int), .int .u32 (ap : Int), .string at_] 27)
        have hg1 := heap_alloc_new w (.cells #[.int .u64 (ac : Int), .int .u32 (ag : Int), .int .u32 (an : Int), .int .u32 (ap : Int), .string at_] 27)
        rw [hW1] at hb1 hg1
        have HW1 : Hid _ := hW1
        have HB1 : Hid (Below w.heap.size w W1) := hb1
        have HA1 : Hid (W1.heap[w.heap.size]? = some (.cells #[.int .u64 (ac : Int), .int .u32 (ag : Int), .int .u32 (an : Int), .int .u32 (ap : Int), .string at_] 27 (0, 0))) := hg1
        clear hb1 hg1 hW1
        obtain ⟨W2, hW2⟩ : ∃ W, W1.alloc (.cells #[.int .u64 (dc : Int), .int .u32 (dg : Int), .int .u32 (dn : Int), .int .u32 (dp : Int), .string dt_] 27) = W := ⟨_, rfl⟩
        have hb2 := below_new W1 (.cells #[.int .u64 (dc : Int), .int .u32 (dg : Int), .int .u32 (dn : Int), .int .u32 (dp : Int), .string dt_] 27)
        have hg2 := heap_alloc_new W1 (.cells #[.int .u64 (dc : Int), .int .u32 (dg : Int), .int .u32 (dn : Int), .int .u32 (dp : Int), .string dt_] 27)
        rw [hW2] at hb2 hg2
        have HW2 : Hid _ := hW2
        have HA2 : Hid (W2.heap[w.heap.size]? = some (.cells #[.int .u64 (ac : Int), .int .u32 (ag : Int), .int .u32 (an : Int), .int .u32 (ap : Int), .string at_] 27 (0, 0))) := (hb2.block _ (Array.getElem?_eq_some_iff.1 HA1.out).1).trans HA1.out
        have HB2 : Hid (Below w.heap.size w W2) := HB1.out.trans (hb2.mono HB1.out.size)
        have hs2 : W1.heap.size = w.heap.size + 1 := by rw [← HW1.out]; simp
        rw [hs2] at hg2
        clear hs2
        have HD2 : Hid (W2.heap[w.heap.size + 1]? = some (.cells #[.int .u64 (dc : Int), .int .u32 (dg : Int), .int .u32 (dn : Int), .int .u32 (dp : Int), .string dt_] 27 (0, 0))) := hg2
        clear hb2 hg2 hW2
        go_enter Try.func8, Try.ntmps8
        go_wp2_with fail
        rw [HW1.out, HW2.out]
        refine (HSH.out W2).mono ?_
        rintro e w3 ⟨rfl, b3⟩
        have HA3 : Hid (w3.heap[w.heap.size]? = some (.cells #[.int .u64 (ac : Int), .int .u32 (ag : Int), .int .u32 (an : Int), .int .u32 (ap : Int), .string at_] 27 (0, 0))) := (b3.block _ (Array.getElem?_eq_some_iff.1 HA2.out).1).trans HA2.out
        have HD3 : Hid (w3.heap[w.heap.size + 1]? = some (.cells #[.int .u64 (dc : Int), .int .u32 (dg : Int), .int .u32 (dn : Int), .int .u32 (dp : Int), .string dt_] 27 (0, 0))) := (b3.block _ (Array.getElem?_eq_some_iff.1 HD2.out).1).trans HD2.out
        have HB3 : Hid (Below w.heap.size w w3) := HB2.out.trans (b3.mono HB2.out.size)
        clear b3
        have fA0 : w3.cell? ⟨w.heap.size, 0, none⟩ = some (.int .u64 (ac : Int)) := by rw [cell_of_row _ _ _ _ _ _ HA3.out]; rfl
        have fA1 : w3.cell? ⟨w.heap.size, 1, none⟩ = some (.int .u32 (ag : Int)) := by rw [cell_of_row _ _ _ _ _ _ HA3.out]; rfl
        have fA2 : w3.cell? ⟨w.heap.size, 2, none⟩ = some (.int .u32 (an : Int)) := by rw [cell_of_row _ _ _ _ _ _ HA3.out]; rfl
        have fA3 : w3.cell? ⟨w.heap.size, 3, none⟩ = some (.int .u32 (ap : Int)) := by rw [cell_of_row _ _ _ _ _ _ HA3.out]; rfl
        have fA4 : w3.cell? ⟨w.heap.size, 4, none⟩ = some (.string at_) := by rw [cell_of_row _ _ _ _ _ _ HA3.out]; rfl
        go_wp2_with fail
        clear fA0 fA1 fA2 fA3 fA4
        refine (H1.out w3).mono ?_
        rintro e w4 ⟨rfl, b4⟩
        have HA4 : Hid (w4.heap[w.heap.size]? = some (.cells #[.int .u64 (ac : Int), .int .u32 (ag : Int), .int .u32 (an : Int), .int .u32 (ap : Int), .string at_] 27 (0, 0))) := (b4.block _ (Array.getElem?_eq_some_iff.1 HA3.out).1).trans HA3.out
        have HD4 : Hid (w4.heap[w.heap.size + 1]? = some (.cells #[.int .u64 (dc : Int), .int .u32 (dg : Int), .int .u32 (dn : Int), .int .u32 (dp : Int), .string dt_] 27 (0, 0))) := (b4.block _ (Array.getElem?_eq_some_iff.1 HD3.out).1).trans HD3.out
        have HB4 : Hid (Below w.heap.size w w4) := HB3.out.trans (b4.mono HB3.out.size)
        clear b4
        have fD0 : w4.cell? ⟨w.heap.size + 1, 0, none⟩ = some (.int .u64 (dc : Int)) := by rw [cell_of_row _ _ _ _ _ _ HD4.out]; rfl
        have fD1 : w4.cell? ⟨w.heap.size + 1, 1, none⟩ = some (.int .u32 (dg : Int)) := by rw [cell_of_row _ _ _ _ _ _ HD4.out]; rfl
        have fD2 : w4.cell? ⟨w.heap.size + 1, 2, none⟩ = some (.int .u32 (dn : Int)) := by rw [cell_of_row _ _ _ _ _ _ HD4.out]; rfl
        have fD3 : w4.cell? ⟨w.heap.size + 1, 3, none⟩ = some (.int .u32 (dp : Int)) := by rw [cell_of_row _ _ _ _ _ _ HD4.out]; rfl
        have fD4 : w4.cell? ⟨w.heap.size + 1, 4, none⟩ = some (.string dt_) := by rw [cell_of_row _ _ _ _ _ _ HD4.out]; rfl
        go_wp2_with fail
        clear fD0 fD1 fD2 fD3 fD4
        refine (H2.out w4).mono ?_
        rintro e w5 ⟨rfl, b5⟩
        have HA5 : Hid (w5.heap[w.heap.size]? = some (.cells #[.int .u64 (ac : Int), .int .u32 (ag : Int), .int .u32 (an : Int), .int .u32 (ap : Int), .string at_] 27 (0, 0))) := (b5.block _ (Array.getElem?_eq_some_iff.1 HA4.out).1).trans HA4.out
        have HD5 : Hid (w5.heap[w.heap.size + 1]? = some (.cells #[.int .u64 (dc : Int), .int .u32 (dg : Int), .int .u32 (dn : Int), .int .u32 (dp : Int), .string dt_] 27 (0, 0))) := (b5.block _ (Array.getElem?_eq_some_iff.1 HD4.out).1).trans HD4.out
        have HB5 : Hid (Below w.heap.size w w5) := HB4.out.trans (b5.mono HB4.out.size)
        clear b5
        have fA0 : w5.cell? ⟨w.heap.size, 0, none⟩ = some (.int .u64 (ac : Int)) := by rw [cell_of_row _ _ _ _ _ _ HA5.out]; rfl
        have fA1 : w5.cell? ⟨w.heap.size, 1, none⟩ = some (.int .u32 (ag : Int)) := by rw [cell_of_row _ _ _ _ _ _ HA5.out]; rfl
        have fA2 : w5.cell? ⟨w.heap.size, 2, none⟩ = some (.int .u32 (an : Int)) := by rw [cell_of_row _ _ _ _ _ _ HA5.out]; rfl
        have fA3 : w5.cell? ⟨w.heap.size, 3, none⟩ = some (.int .u32 (ap : Int)) := by rw [cell_of_row _ _ _ _ _ _ HA5.out]; rfl
        have fA4 : w5.cell? ⟨w.heap.size, 4, none⟩ = some (.string at_) := by rw [cell_of_row _ _ _ _ _ _ HA5.out]; rfl
        have fD0 : w5.cell? ⟨w.heap.size + 1, 0, none⟩ = some (.int .u64 (dc : Int)) := by rw [cell_of_row _ _ _ _ _ _ HD5.out]; rfl
        have fD1 : w5.cell? ⟨w.heap.size + 1, 1, none⟩ = some (.int .u32 (dg : Int)) := by rw [cell_of_row _ _ _ _ _ _ HD5.out]; rfl
        have fD2 : w5.cell? ⟨w.heap.size + 1, 2, none⟩ = some (.int .u32 (dn : Int)) := by rw [cell_of_row _ _ _ _ _ _ HD5.out]; rfl
        have fD3 : w5.cell? ⟨w.heap.size + 1, 3, none⟩ = some (.int .u32 (dp : Int)) := by rw [cell_of_row _ _ _ _ _ _ HD5.out]; rfl
        have fD4 : w5.cell? ⟨w.heap.size + 1, 4, none⟩ = some (.string dt_) := by rw [cell_of_row _ _ _ _ _ _ HD5.out]; rfl
        go_wp2_with fail
        go_ret
        exact ⟨rfl, HB5.out⟩
      · skip
        obtain ⟨ac, ag, an, ap, at_⟩ := q
        obtain ⟨dc, dg, dn, dp, dt_⟩ := r
        have H1 : Hid (∀ W : World, _) := h1
        have H2 : Hid (∀ W : World, _) := h2
        clear h1 h2 hb1 hq hr
        obtain ⟨W1, hW1⟩ : ∃ W, w.alloc (.cells #[.int .u64 (ac : Int), .int .u32 (ag : Int), .int .u32 (an : Int), .int .u32 (ap : Int), .string at_] 27) = W := ⟨_, rfl⟩
        have hb1 := below_new w (.cells #[.int .u64 (ac : Int), .int .u32 (ag : Int), .int .u32 (an : Int), .int .u32 (ap : Int), .string at_] 27)
        have hg1 := heap_alloc_new w (.cells #[.int .u64 (ac : Int), .int .u32 (ag : Int), .int .u32 (an : Int), .int .u32 (ap : Int), .string at_] 27)
        rw [hW1] at hb1 hg1
        have HW1 : Hid _ := hW1
        have HB1 : Hid (Below w.heap.size w W1) := hb1
        have HA1 : Hid (W1.heap[w.heap.size]? = some (.cells #[.int .u64 (ac : Int), .int .u32 (ag : Int), .int .u32 (an : Int), .int .u32 (ap : Int), .string at_] 27 (0, 0))) := hg1
        clear hb1 hg1 hW1
        obtain ⟨W2, hW2⟩ : ∃ W, W1.alloc (.cells #[.int .u64 (dc : Int), .int .u32 (dg : Int), .int .u32 (dn : Int), .int .u32 (dp : Int), .string dt_] 27) = W := ⟨_, rfl⟩
        have hb2 := below_new W1 (.cells #[.int .u64 (dc : Int), .int .u32 (dg : Int), .int .u32 (dn : Int), .int .u32 (dp : Int), .string dt_] 27)
        have hg2 := heap_alloc_new W1 (.cells #[.int .u64 (dc : Int), .int .u32 (dg : Int), .int .u32 (dn : Int), .int .u32 (dp : Int), .string dt_] 27)
        rw [hW2] at hb2 hg2
        have HW2 : Hid _ := hW2
        have HA2 : Hid (W2.heap[w.heap.size]? = some (.cells #[.int .u64 (ac : Int), .int .u32 (ag : Int), .int .u32 (an : Int), .int .u32 (ap : Int), .string at_] 27 (0, 0))) := (hb2.block _ (Array.getElem?_eq_some_iff.1 HA1.out).1).trans HA1.out
        have HB2 : Hid (Below w.heap.size w W2) := HB1.out.trans (hb2.mono HB1.out.size)
        have hs2 : W1.heap.size = w.heap.size + 1 := by rw [← HW1.out]; simp
        rw [hs2] at hg2
        clear hs2
        have HD2 : Hid (W2.heap[w.heap.size + 1]? = some (.cells #[.int .u64 (dc : Int), .int .u32 (dg : Int), .int .u32 (dn : Int), .int .u32 (dp : Int), .string dt_] 27 (0, 0))) := hg2
        clear hb2 hg2 hW2
        go_enter Try.func8, Try.ntmps8
        go_wp2_with fail
        rw [HW1.out, HW2.out]
        refine (HSH.out W2).mono ?_
        rintro e w3 ⟨rfl, b3⟩
        have HA3 : Hid (w3.heap[w.heap.size]? = some (.cells #[.int .u64 (ac : Int), .int .u32 (ag : Int), .int .u32 (an : Int), .int .u32 (ap : Int), .string at_] 27 (0, 0))) := (b3.block _ (Array.getElem?_eq_some_iff.1 HA2.out).1).trans HA2.out
        have HD3 : Hid (w3.heap[w.heap.size + 1]? = some (.cells #[.int .u64 (dc : Int), .int .u32 (dg : Int), .int .u32 (dn : Int), .int .u32 (dp : Int), .string dt_] 27 (0, 0))) := (b3.block _ (Array.getElem?_eq_some_iff.1 HD2.out).1).trans HD2.out
        have HB3 : Hid (Below w.heap.size w w3) := HB2.out.trans (b3.mono HB2.out.size)
        clear b3
        have fA0 : w3.cell? ⟨w.heap.size, 0, none⟩ = some (.int .u64 (ac : Int)) := by rw [cell_of_row _ _ _ _ _ _ HA3.out]; rfl
        have fA1 : w3.cell? ⟨w.heap.size, 1, none⟩ = some (.int .u32 (ag : Int)) := by rw [cell_of_row _ _ _ _ _ _ HA3.out]; rfl
        have fA2 : w3.cell? ⟨w.heap.size, 2, none⟩ = some (.int .u32 (an : Int)) := by rw [cell_of_row _ _ _ _ _ _ HA3.out]; rfl
        have fA3 : w3.cell? ⟨w.heap.size, 3, none⟩ = some (.int .u32 (ap : Int)) := by rw [cell_of_row _ _ _ _ _ _ HA3.out]; rfl
        have fA4 : w3.cell? ⟨w.heap.size, 4, none⟩ = some (.string at_) := by rw [cell_of_row _ _ _ _ _ _ HA3.out]; rfl
        go_wp2_with fail
        clear fA0 fA1 fA2 fA3 fA4
        refine (H1.out w3).mono ?_
        rintro e w4 ⟨rfl, b4⟩
        have HA4 : Hid (w4.heap[w.heap.size]? = some (.cells #[.int .u64 (ac : Int), .int .u32 (ag : Int), .int .u32 (an : Int), .int .u32 (ap : Int), .string at_] 27 (0, 0))) := (b4.block _ (Array.getElem?_eq_some_iff.1 HA3.out).1).trans HA3.out
        have HD4 : Hid (w4.heap[w.heap.size + 1]? = some (.cells #[.int .u64 (dc : Int), .int .u32 (dg : Int), .int .u32 (dn : Int), .int .u32 (dp : Int), .string dt_] 27 (0, 0))) := (b4.block _ (Array.getElem?_eq_some_iff.1 HD3.out).1).trans HD3.out
        have HB4 : Hid (Below w.heap.size w w4) := HB3.out.trans (b4.mono HB3.out.size)
        clear b4
        have fD0 : w4.cell? ⟨w.heap.size + 1, 0, none⟩ = some (.int .u64 (dc : Int)) := by rw [cell_of_row _ _ _ _ _ _ HD4.out]; rfl
        have fD1 : w4.cell? ⟨w.heap.size + 1, 1, none⟩ = some (.int .u32 (dg : Int)) := by rw [cell_of_row _ _ _ _ _ _ HD4.out]; rfl
        have fD2 : w4.cell? ⟨w.heap.size + 1, 2, none⟩ = some (.int .u32 (dn : Int)) := by rw [cell_of_row _ _ _ _ _ _ HD4.out]; rfl
        have fD3 : w4.cell? ⟨w.heap.size + 1, 3, none⟩ = some (.int .u32 (dp : Int)) := by rw [cell_of_row _ _ _ _ _ _ HD4.out]; rfl
        have fD4 : w4.cell? ⟨w.heap.size + 1, 4, none⟩ = some (.string dt_) := by rw [cell_of_row _ _ _ _ _ _ HD4.out]; rfl
        go_wp2_with fail
        clear fD0 fD1 fD2 fD3 fD4
        refine (H2.out w4).mono ?_
        rintro e w5 ⟨rfl, b5⟩
        have HA5 : Hid (w5.heap[w.heap.size]? = some (.cells #[.int .u64 (ac : Int), .int .u32 (ag : Int), .int .u32 (an : Int), .int .u32 (ap : Int), .string at_] 27 (0, 0))) := (b5.block _ (Array.getElem?_eq_some_iff.1 HA4.out).1).trans HA4.out
        have HD5 : Hid (w5.heap[w.heap.size + 1]? = some (.cells #[.int .u64 (dc : Int), .int .u32 (dg : Int), .int .u32 (dn : Int), .int .u32 (dp : Int), .string dt_] 27 (0, 0))) := (b5.block _ (Array.getElem?_eq_some_iff.1 HD4.out).1).trans HD4.out
        have HB5 : Hid (Below w.heap.size w w5) := HB4.out.trans (b5.mono HB4.out.size)
        clear b5
        have fA0 : w5.cell? ⟨w.heap.size, 0, none⟩ = some (.int .u64 (ac : Int)) := by rw [cell_of_row _ _ _ _ _ _ HA5.out]; rfl
        have fA1 : w5.cell? ⟨w.heap.size, 1, none⟩ = some (.int .u32 (ag : Int)) := by rw [cell_of_row _ _ _ _ _ _ HA5.out]; rfl
        have fA2 : w5.cell? ⟨w.heap.size, 2, none⟩ = some (.int .u32 (an : Int)) := by rw [cell_of_row _ _ _ _ _ _ HA5.out]; rfl
        have fA3 : w5.cell? ⟨w.heap.size, 3, none⟩ = some (.int .u32 (ap : Int)) := by rw [cell_of_row _ _ _ _ _ _ HA5.out]; rfl
        have fA4 : w5.cell? ⟨w.heap.size, 4, none⟩ = some (.string at_) := by rw [cell_of_row _ _ _ _ _ _ HA5.out]; rfl
        have fD0 : w5.cell? ⟨w.heap.size + 1, 0, none⟩ = some (.int .u64 (dc : Int)) := by rw [cell_of_row _ _ _ _ _ _ HD5.out]; rfl
        have fD1 : w5.cell? ⟨w.heap.size + 1, 1, none⟩ = some (.int .u32 (dg : Int)) := by rw [cell_of_row _ _ _ _ _ _ HD5.out]; rfl
        have fD2 : w5.cell? ⟨w.heap.size + 1, 2, none⟩ = some (.int .u32 (dn : Int)) := by rw [cell_of_row _ _ _ _ _ _ HD5.out]; rfl
        have fD3 : w5.cell? ⟨w.heap.size + 1, 3, none⟩ = some (.int .u32 (dp : Int)) := by rw [cell_of_row _ _ _ _ _ _ HD5.out]; rfl
        have fD4 : w5.cell? ⟨w.heap.size + 1, 4, none⟩ = some (.string dt_) := by rw [cell_of_row _ _ _ _ _ _ HD5.out]; rfl
        go_wp2_with fail
        go_ret
        exact ⟨rfl, HB5.out⟩

end Go.Proofs.Ytofealdlgpmheaa.Ro
