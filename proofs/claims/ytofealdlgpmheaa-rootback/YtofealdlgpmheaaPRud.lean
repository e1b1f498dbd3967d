/- Roots and bytes are one to one. -/
import Derived.Test.YtofealdlgpmheaaQRtn
namespace Go.Proofs.Ytofealdlgpmheaa.Ro
open Go.RowKit Go.Lib Go.Shelf
open Go.Proofs.Ytofealdlgpmheaa.Rc Go.Proofs.Ytofealdlgpmheaa.Rq
set_option maxRecDepth 100000 in
theorem neqR {q r : Rt} (h : q ≠ r) : eqR q r = false := by
  cases e : eqR q r
  · rfl
  · exact absurd ((eqR_iff _ _).1 e) h
set_option maxRecDepth 100000 in
theorem okD_none : okD ⟨#[]⟩ = false := by
  cases h : okD ⟨#[]⟩
  · rfl
  · exact absurd (okD_size h) (by decide)
set_option maxRecDepth 100000 in
set_option maxHeartbeats 8000000 in
theorem rootBack_walk (r : Rt) (s : ByteArray) (hr : okR r) (w : World) : Calls Try.prog 6 #[rtv r, .string s] w fun e w' => e = .returned (.bool true) ∧ Below w.heap.size w w' := by
  have HSH : Hid (∀ W : World, _) := shown_any
  have h1 := encode_any r hr
  have h2 := decode_any (encS r)
  have h3 := decode_any s
  have h4 := encode_any (rdR s) (rdR_ok s)
  have h5 := right_any r
  have n1 : rrt r = true → rdR (encS r) = r ∧ okD (encS r) = true := fun h => by unfold encS; rw [h]; exact back_enc r hr h
  have n2 : rrt r = false → okD (encS r) = false := fun h => by unfold encS; rw [h]; exact okD_none
  have n3 : okD s = true → encS (rdR s) = s ∧ encE (rdR s) = 0 := fun h => ⟨(back_dec s h).1, (back_dec s h).2.1⟩
  have n4 : okD s = false → rdR s = zeroR := fun h => by unfold rdR; rw [h]; rfl
  unfold DP at h2 h3
  have hE1 : encE r = if rrt r then 0 else 120 := rfl
  rw [hE1] at h1
  obtain ⟨S1, hS1⟩ : ∃ x, encS r = x := ⟨_, rfl⟩
  rw [hS1] at h1 h2 n1 n2
  obtain ⟨R2, hR2⟩ : ∃ x, rdR S1 = x := ⟨_, rfl⟩
  rw [hR2] at h2 n1
  obtain ⟨R3, hR3⟩ : ∃ x, rdR s = x := ⟨_, rfl⟩
  rw [hR3] at h3 h4 n3 n4
  obtain ⟨S4, hS4⟩ : ∃ x, encS R3 = x := ⟨_, rfl⟩
  obtain ⟨E4, hE4⟩ : ∃ x, encE R3 = x := ⟨_, rfl⟩
  rw [hS4, hE4] at h4
  rw [hS4, hE4] at n3
  have m1 := fun W => neq_root R2 r W
  have m2 := fun W => eql_root R3 zeroR W
  have e0 : rtv zeroR = .agg #[.int .u64 0, .int .u32 0, .int .u32 0, .int .u32 0, .string ⟨#[]⟩] := rfl
  rw [e0] at m2
  clear hE1 hS1 hR2 hR3 hS4 hE4 e0
  cases hb : rrt r
  · rw [hb] at h1 h5 n1 n2
    cases hd : okD s
    · skip
      rw [hd] at h3
      simp only [Bool.false_eq_true, if_false] at h3
      rw [n2 rfl] at h2
      simp only [Bool.false_eq_true, if_false] at h1 h2
      clear m1
      have hz : eqR R3 zeroR = true := by rw [n4 hd]; exact zeroR_is
      rw [hz] at m2
      clear hz
      obtain ⟨ac, ag, an, ap, at_⟩ := r
      obtain ⟨bc, bg, bn, bp, bt_⟩ := R2
      obtain ⟨dc, dg, dn, dp, dt_⟩ := R3
      have H1 : Hid (∀ W : World, _) := h1
      have H2 : Hid (∀ W : World, _) := h2
      have H3 : Hid (∀ W : World, _) := h3
      have H4 : Hid (∀ W : World, _) := h4
      have H5 : Hid (∀ W : World, _) := h5
      clear h1 h2 h3 h4 h5 n1 n2 n3 n4 hb hd hr
      obtain ⟨W1, hW1⟩ : ∃ W, w.alloc (.cells #[.int .u64 (ac : Int), .int .u32 (ag : Int), .int .u32 (an : Int), .int .u32 (ap : Int), .string at_] 27) = W := ⟨_, rfl⟩
      have hb1 := below_new w (.cells #[.int .u64 (ac : Int), .int .u32 (ag : Int), .int .u32 (an : Int), .int .u32 (ap : Int), .string at_] 27)
      have hg1 := heap_alloc_new w (.cells #[.int .u64 (ac : Int), .int .u32 (ag : Int), .int .u32 (an : Int), .int .u32 (ap : Int), .string at_] 27)
      rw [hW1] at hb1 hg1
      have HW1 : Hid _ := hW1
      have HB1 : Hid (Below w.heap.size w W1) := hb1
      have HA1 : Hid (W1.heap[w.heap.size]? = some (.cells #[.int .u64 (ac : Int), .int .u32 (ag : Int), .int .u32 (an : Int), .int .u32 (ap : Int), .string at_] 27 (0, 0))) := hg1
      clear hb1 hg1 hW1
      go_enter Try.func6, Try.ntmps6
      go_wp2_with fail
      rw [HW1.out]
      clear HW1
      refine (HSH.out W1).mono ?_
      rintro e w2 ⟨rfl, b2⟩
      have HA2 : Hid (w2.heap[w.heap.size]? = some (.cells #[.int .u64 (ac : Int), .int .u32 (ag : Int), .int .u32 (an : Int), .int .u32 (ap : Int), .string at_] 27 (0, 0))) := (b2.block _ (Array.getElem?_eq_some_iff.1 HA1.out).1).trans HA1.out
      have HB2 : Hid (Below w.heap.size w w2) := HB1.out.trans (b2.mono HB1.out.size)
      clear b2
      have fA0 : w2.cell? ⟨w.heap.size, 0, none⟩ = some (.int .u64 (ac : Int)) := by rw [cell_of_row _ _ _ _ _ _ HA2.out]; rfl
      have fA1 : w2.cell? ⟨w.heap.size, 1, none⟩ = some (.int .u32 (ag : Int)) := by rw [cell_of_row _ _ _ _ _ _ HA2.out]; rfl
      have fA2 : w2.cell? ⟨w.heap.size, 2, none⟩ = some (.int .u32 (an : Int)) := by rw [cell_of_row _ _ _ _ _ _ HA2.out]; rfl
      have fA3 : w2.cell? ⟨w.heap.size, 3, none⟩ = some (.int .u32 (ap : Int)) := by rw [cell_of_row _ _ _ _ _ _ HA2.out]; rfl
      have fA4 : w2.cell? ⟨w.heap.size, 4, none⟩ = some (.string at_) := by rw [cell_of_row _ _ _ _ _ _ HA2.out]; rfl
      go_wp2_with fail
      clear fA0 fA1 fA2 fA3 fA4
      refine (H1.out w2).mono ?_
      rintro e w3 ⟨rfl, b3⟩
      have HA3 : Hid (w3.heap[w.heap.size]? = some (.cells #[.int .u64 (ac : Int), .int .u32 (ag : Int), .int .u32 (an : Int), .int .u32 (ap : Int), .string at_] 27 (0, 0))) := (b3.block _ (Array.getElem?_eq_some_iff.1 HA2.out).1).trans HA2.out
      have HB3 : Hid (Below w.heap.size w w3) := HB2.out.trans (b3.mono HB2.out.size)
      clear b3
      go_wp2_with fail
      refine (H2.out w3).mono ?_
      rintro e w4 ⟨rfl, b4⟩
      have HA4 : Hid (w4.heap[w.heap.size]? = some (.cells #[.int .u64 (ac : Int), .int .u32 (ag : Int), .int .u32 (an : Int), .int .u32 (ap : Int), .string at_] 27 (0, 0))) := (b4.block _ (Array.getElem?_eq_some_iff.1 HA3.out).1).trans HA3.out
      have HB4 : Hid (Below w.heap.size w w4) := HB3.out.trans (b4.mono HB3.out.size)
      clear b4
      obtain ⟨W5, hW5⟩ : ∃ W, w4.alloc (.cells #[.int .u64 (bc : Int), .int .u32 (bg : Int), .int .u32 (bn : Int), .int .u32 (bp : Int), .string bt_] 27) = W := ⟨_, rfl⟩
      have hb5 := below_new w4 (.cells #[.int .u64 (bc : Int), .int .u32 (bg : Int), .int .u32 (bn : Int), .int .u32 (bp : Int), .string bt_] 27)
      have hg5 := heap_alloc_new w4 (.cells #[.int .u64 (bc : Int), .int .u32 (bg : Int), .int .u32 (bn : Int), .int .u32 (bp : Int), .string bt_] 27)
      rw [hW5] at hb5 hg5
      have HW5 : Hid _ := hW5
      have HA5 : Hid (W5.heap[w.heap.size]? = some (.cells #[.int .u64 (ac : Int), .int .u32 (ag : Int), .int .u32 (an : Int), .int .u32 (ap : Int), .string at_] 27 (0, 0))) := (hb5.block _ (Array.getElem?_eq_some_iff.1 HA4.out).1).trans HA4.out
      have HB5 : Hid (Below w.heap.size w W5) := HB4.out.trans (hb5.mono HB4.out.size)
      have HM5 : Hid (W5.heap[w4.heap.size]? = some (.cells #[.int .u64 (bc : Int), .int .u32 (bg : Int), .int .u32 (bn : Int), .int .u32 (bp : Int), .string bt_] 27 (0, 0))) := hg5
      clear hb5 hg5 hW5
      go_wp2_with fail
      rw [HW5.out]
      clear HW5
      refine (H3.out W5).mono ?_
      rintro e w6 ⟨rfl, b6⟩
      have HA6 : Hid (w6.heap[w.heap.size]? = some (.cells #[.int .u64 (ac : Int), .int .u32 (ag : Int), .int .u32 (an : Int), .int .u32 (ap : Int), .string at_] 27 (0, 0))) := (b6.block _ (Array.getElem?_eq_some_iff.1 HA5.out).1).trans HA5.out
      have HM6 : Hid (w6.heap[w4.heap.size]? = some (.cells #[.int .u64 (bc : Int), .int .u32 (bg : Int), .int .u32 (bn : Int), .int .u32 (bp : Int), .string bt_] 27 (0, 0))) := (b6.block _ (Array.getElem?_eq_some_iff.1 HM5.out).1).trans HM5.out
      have HB6 : Hid (Below w.heap.size w w6) := HB5.out.trans (b6.mono HB5.out.size)
      clear b6
      obtain ⟨W7, hW7⟩ : ∃ W, w6.alloc (.cells #[.int .u64 (dc : Int), .int .u32 (dg : Int), .int .u32 (dn : Int), .int .u32 (dp : Int), .string dt_] 27) = W := ⟨_, rfl⟩
      have hb7 := below_new w6 (.cells #[.int .u64 (dc : Int), .int .u32 (dg : Int), .int .u32 (dn : Int), .int .u32 (dp : Int), .string dt_] 27)
      have hg7 := heap_alloc_new w6 (.cells #[.int .u64 (dc : Int), .int .u32 (dg : Int), .int .u32 (dn : Int), .int .u32 (dp : Int), .string dt_] 27)
      rw [hW7] at hb7 hg7
      have HW7 : Hid _ := hW7
      have HA7 : Hid (W7.heap[w.heap.size]? = some (.cells #[.int .u64 (ac : Int), .int .u32 (ag : Int), .int .u32 (an : Int), .int .u32 (ap : Int), .string at_] 27 (0, 0))) := (hb7.block _ (Array.getElem?_eq_some_iff.1 HA6.out).1).trans HA6.out
      have HM7 : Hid (W7.heap[w4.heap.size]? = some (.cells #[.int .u64 (bc : Int), .int .u32 (bg : Int), .int .u32 (bn : Int), .int .u32 (bp : Int), .string bt_] 27 (0, 0))) := (hb7.block _ (Array.getElem?_eq_some_iff.1 HM6.out).1).trans HM6.out
      have HB7 : Hid (Below w.heap.size w W7) := HB6.out.trans (hb7.mono HB6.out.size)
      have HD7 : Hid (W7.heap[w6.heap.size]? = some (.cells #[.int .u64 (dc : Int), .int .u32 (dg : Int), .int .u32 (dn : Int), .int .u32 (dp : Int), .string dt_] 27 (0, 0))) := hg7
      clear hb7 hg7 hW7
      have fD0 : W7.cell? ⟨w6.heap.size, 0, none⟩ = some (.int .u64 (dc : Int)) := by rw [cell_of_row _ _ _ _ _ _ HD7.out]; rfl
      have fD1 : W7.cell? ⟨w6.heap.size, 1, none⟩ = some (.int .u32 (dg : Int)) := by rw [cell_of_row _ _ _ _ _ _ HD7.out]; rfl
      have fD2 : W7.cell? ⟨w6.heap.size, 2, none⟩ = some (.int .u32 (dn : Int)) := by rw [cell_of_row _ _ _ _ _ _ HD7.out]; rfl
      have fD3 : W7.cell? ⟨w6.heap.size, 3, none⟩ = some (.int .u32 (dp : Int)) := by rw [cell_of_row _ _ _ _ _ _ HD7.out]; rfl
      have fD4 : W7.cell? ⟨w6.heap.size, 4, none⟩ = some (.string dt_) := by rw [cell_of_row _ _ _ _ _ _ HD7.out]; rfl
      go_wp2_with (first | (rw [HW7.out]; clear HW7))
      clear fD0 fD1 fD2 fD3 fD4
      refine (H4.out W7).mono ?_
      rintro e w8 ⟨rfl, b8⟩
      have HA8 : Hid (w8.heap[w.heap.size]? = some (.cells #[.int .u64 (ac : Int), .int .u32 (ag : Int), .int .u32 (an : Int), .int .u32 (ap : Int), .string at_] 27 (0, 0))) := (b8.block _ (Array.getElem?_eq_some_iff.1 HA7.out).1).trans HA7.out
      have HM8 : Hid (w8.heap[w4.heap.size]? = some (.cells #[.int .u64 (bc : Int), .int .u32 (bg : Int), .int .u32 (bn : Int), .int .u32 (bp : Int), .string bt_] 27 (0, 0))) := (b8.block _ (Array.getElem?_eq_some_iff.1 HM7.out).1).trans HM7.out
      have HD8 : Hid (w8.heap[w6.heap.size]? = some (.cells #[.int .u64 (dc : Int), .int .u32 (dg : Int), .int .u32 (dn : Int), .int .u32 (dp : Int), .string dt_] 27 (0, 0))) := (b8.block _ (Array.getElem?_eq_some_iff.1 HD7.out).1).trans HD7.out
      have HB8 : Hid (Below w.heap.size w w8) := HB7.out.trans (b8.mono HB7.out.size)
      clear b8
      have fA0 : w8.cell? ⟨w.heap.size, 0, none⟩ = some (.int .u64 (ac : Int)) := by rw [cell_of_row _ _ _ _ _ _ HA8.out]; rfl
      have fA1 : w8.cell? ⟨w.heap.size, 1, none⟩ = some (.int .u32 (ag : Int)) := by rw [cell_of_row _ _ _ _ _ _ HA8.out]; rfl
      have fA2 : w8.cell? ⟨w.heap.size, 2, none⟩ = some (.int .u32 (an : Int)) := by rw [cell_of_row _ _ _ _ _ _ HA8.out]; rfl
      have fA3 : w8.cell? ⟨w.heap.size, 3, none⟩ = some (.int .u32 (ap : Int)) := by rw [cell_of_row _ _ _ _ _ _ HA8.out]; rfl
      have fA4 : w8.cell? ⟨w.heap.size, 4, none⟩ = some (.string at_) := by rw [cell_of_row _ _ _ _ _ _ HA8.out]; rfl
      go_wp2_with fail
      clear fA0 fA1 fA2 fA3 fA4
      refine (H5.out w8).mono ?_
      rintro e w9 ⟨rfl, b9⟩
      have HA9 : Hid (w9.heap[w.heap.size]? = some (.cells #[.int .u64 (ac : Int), .int .u32 (ag : Int), .int .u32 (an : Int), .int .u32 (ap : Int), .string at_] 27 (0, 0))) := (b9.block _ (Array.getElem?_eq_some_iff.1 HA8.out).1).trans HA8.out
      have HM9 : Hid (w9.heap[w4.heap.size]? = some (.cells #[.int .u64 (bc : Int), .int .u32 (bg : Int), .int .u32 (bn : Int), .int .u32 (bp : Int), .string bt_] 27 (0, 0))) := (b9.block _ (Array.getElem?_eq_some_iff.1 HM8.out).1).trans HM8.out
      have HD9 : Hid (w9.heap[w6.heap.size]? = some (.cells #[.int .u64 (dc : Int), .int .u32 (dg : Int), .int .u32 (dn : Int), .int .u32 (dp : Int), .string dt_] 27 (0, 0))) := (b9.block _ (Array.getElem?_eq_some_iff.1 HD8.out).1).trans HD8.out
      have HB9 : Hid (Below w.heap.size w w9) := HB8.out.trans (b9.mono HB8.out.size)
      clear b9
      have fA0 : w9.cell? ⟨w.heap.size, 0, none⟩ = some (.int .u64 (ac : Int)) := by rw [cell_of_row _ _ _ _ _ _ HA9.out]; rfl
      have fA1 : w9.cell? ⟨w.heap.size, 1, none⟩ = some (.int .u32 (ag : Int)) := by rw [cell_of_row _ _ _ _ _ _ HA9.out]; rfl
      have fA2 : w9.cell? ⟨w.heap.size, 2, none⟩ = some (.int .u32 (an : Int)) := by rw [cell_of_row _ _ _ _ _ _ HA9.out]; rfl
      have fA3 : w9.cell? ⟨w.heap.size, 3, none⟩ = some (.int .u32 (ap : Int)) := by rw [cell_of_row _ _ _ _ _ _ HA9.out]; rfl
      have fA4 : w9.cell? ⟨w.heap.size, 4, none⟩ = some (.string at_) := by rw [cell_of_row _ _ _ _ _ _ HA9.out]; rfl
      have fM0 : w9.cell? ⟨w4.heap.size, 0, none⟩ = some (.int .u64 (bc : Int)) := by rw [cell_of_row _ _ _ _ _ _ HM9.out]; rfl
      have fM1 : w9.cell? ⟨w4.heap.size, 1, none⟩ = some (.int .u32 (bg : Int)) := by rw [cell_of_row _ _ _ _ _ _ HM9.out]; rfl
      have fM2 : w9.cell? ⟨w4.heap.size, 2, none⟩ = some (.int .u32 (bn : Int)) := by rw [cell_of_row _ _ _ _ _ _ HM9.out]; rfl
      have fM3 : w9.cell? ⟨w4.heap.size, 3, none⟩ = some (.int .u32 (bp : Int)) := by rw [cell_of_row _ _ _ _ _ _ HM9.out]; rfl
      have fM4 : w9.cell? ⟨w4.heap.size, 4, none⟩ = some (.string bt_) := by rw [cell_of_row _ _ _ _ _ _ HM9.out]; rfl
      have fD0 : w9.cell? ⟨w6.heap.size, 0, none⟩ = some (.int .u64 (dc : Int)) := by rw [cell_of_row _ _ _ _ _ _ HD9.out]; rfl
      have fD1 : w9.cell? ⟨w6.heap.size, 1, none⟩ = some (.int .u32 (dg : Int)) := by rw [cell_of_row _ _ _ _ _ _ HD9.out]; rfl
      have fD2 : w9.cell? ⟨w6.heap.size, 2, none⟩ = some (.int .u32 (dn : Int)) := by rw [cell_of_row _ _ _ _ _ _ HD9.out]; rfl
      have fD3 : w9.cell? ⟨w6.heap.size, 3, none⟩ = some (.int .u32 (dp : Int)) := by rw [cell_of_row _ _ _ _ _ _ HD9.out]; rfl
      have fD4 : w9.cell? ⟨w6.heap.size, 4, none⟩ = some (.string dt_) := by rw [cell_of_row _ _ _ _ _ _ HD9.out]; rfl
      go_wp2_with fail
      go_ret
      exact ⟨rfl, HB9.out⟩
    · skip
      rw [hd] at h3
      simp only [if_true] at h3
      rw [n2 rfl] at h2
      simp only [Bool.false_eq_true, if_false] at h1 h2
      clear m1
      obtain ⟨x1, x2⟩ := n3 hd
      subst x1 x2
      clear m2
      obtain ⟨ac, ag, an, ap, at_⟩ := r
      obtain ⟨bc, bg, bn, bp, bt_⟩ := R2
      obtain ⟨dc, dg, dn, dp, dt_⟩ := R3
      have H1 : Hid (∀ W : World, _) := h1
      have H2 : Hid (∀ W : World, _) := h2
      have H3 : Hid (∀ W : World, _) := h3
      have H4 : Hid (∀ W : World, _) := h4
      have H5 : Hid (∀ W : World, _) := h5
      clear h1 h2 h3 h4 h5 n1 n2 n3 n4 hb hd hr
      obtain ⟨W1, hW1⟩ : ∃ W, w.alloc (.cells #[.int .u64 (ac : Int), .int .u32 (ag : Int), .int .u32 (an : Int), .int .u32 (ap : Int), .string at_] 27) = W := ⟨_, rfl⟩
      have hb1 := below_new w (.cells #[.int .u64 (ac : Int), .int .u32 (ag : Int), .int .u32 (an : Int), .int .u32 (ap : Int), .string at_] 27)
      have hg1 := heap_alloc_new w (.cells #[.int .u64 (ac : Int), .int .u32 (ag : Int), .int .u32 (an : Int), .int .u32 (ap : Int), .string at_] 27)
      rw [hW1] at hb1 hg1
      have HW1 : Hid _ := hW1
      have HB1 : Hid (Below w.heap.size w W1) := hb1
      have HA1 : Hid (W1.heap[w.heap.size]? = some (.cells #[.int .u64 (ac : Int), .int .u32 (ag : Int), .int .u32 (an : Int), .int .u32 (ap : Int), .string at_] 27 (0, 0))) := hg1
      clear hb1 hg1 hW1
      go_enter Try.func6, Try.ntmps6
      go_wp2_with fail
      rw [HW1.out]
      clear HW1
      refine (HSH.out W1).mono ?_
      rintro e w2 ⟨rfl, b2⟩
      have HA2 : Hid (w2.heap[w.heap.size]? = some (.cells #[.int .u64 (ac : Int), .int .u32 (ag : Int), .int .u32 (an : Int), .int .u32 (ap : Int), .string at_] 27 (0, 0))) := (b2.block _ (Array.getElem?_eq_some_iff.1 HA1.out).1).trans HA1.out
      have HB2 : Hid (Below w.heap.size w w2) := HB1.out.trans (b2.mono HB1.out.size)
      clear b2
      have fA0 : w2.cell? ⟨w.heap.size, 0, none⟩ = some (.int .u64 (ac : Int)) := by rw [cell_of_row _ _ _ _ _ _ HA2.out]; rfl
      have fA1 : w2.cell? ⟨w.heap.size, 1, none⟩ = some (.int .u32 (ag : Int)) := by rw [cell_of_row _ _ _ _ _ _ HA2.out]; rfl
      have fA2 : w2.cell? ⟨w.heap.size, 2, none⟩ = some (.int .u32 (an : Int)) := by rw [cell_of_row _ _ _ _ _ _ HA2.out]; rfl
      have fA3 : w2.cell? ⟨w.heap.size, 3, none⟩ = some (.int .u32 (ap : Int)) := by rw [cell_of_row _ _ _ _ _ _ HA2.out]; rfl
      have fA4 : w2.cell? ⟨w.heap.size, 4, none⟩ = some (.string at_) := by rw [cell_of_row _ _ _ _ _ _ HA2.out]; rfl
      go_wp2_with fail
      clear fA0 fA1 fA2 fA3 fA4
      refine (H1.out w2).mono ?_
      rintro e w3 ⟨rfl, b3⟩
      have HA3 : Hid (w3.heap[w.heap.size]? = some (.cells #[.int .u64 (ac : Int), .int .u32 (ag : Int), .int .u32 (an : Int), .int .u32 (ap : Int), .string at_] 27 (0, 0))) := (b3.block _ (Array.getElem?_eq_some_iff.1 HA2.out).1).trans HA2.out
      have HB3 : Hid (Below w.heap.size w w3) := HB2.out.trans (b3.mono HB2.out.size)
      clear b3
      go_wp2_with fail
      refine (H2.out w3).mono ?_
      rintro e w4 ⟨rfl, b4⟩
      have HA4 : Hid (w4.heap[w.heap.size]? = some (.cells #[.int .u64 (ac : Int), .int .u32 (ag : Int), .int .u32 (an : Int), .int .u32 (ap : Int), .string at_] 27 (0, 0))) := (b4.block _ (Array.getElem?_eq_some_iff.1 HA3.out).1).trans HA3.out
      have HB4 : Hid (Below w.heap.size w w4) := HB3.out.trans (b4.mono HB3.out.size)
      clear b4
      obtain ⟨W5, hW5⟩ : ∃ W, w4.alloc (.cells #[.int .u64 (bc : Int), .int .u32 (bg : Int), .int .u32 (bn : Int), .int .u32 (bp : Int), .string bt_] 27) = W := ⟨_, rfl⟩
      have hb5 := below_new w4 (.cells #[.int .u64 (bc : Int), .int .u32 (bg : Int), .int .u32 (bn : Int), .int .u32 (bp : Int), .string bt_] 27)
      have hg5 := heap_alloc_new w4 (.cells #[.int .u64 (bc : Int), .int .u32 (bg : Int), .int .u32 (bn : Int), .int .u32 (bp : Int), .string bt_] 27)
      rw [hW5] at hb5 hg5
      have HW5 : Hid _ := hW5
      have HA5 : Hid (W5.heap[w.heap.size]? = some (.cells #[.int .u64 (ac : Int), .int .u32 (ag : Int), .int .u32 (an : Int), .int .u32 (ap : Int), .string at_] 27 (0, 0))) := (hb5.block _ (Array.getElem?_eq_some_iff.1 HA4.out).1).trans HA4.out
      have HB5 : Hid (Below w.heap.size w W5) := HB4.out.trans (hb5.mono HB4.out.size)
      have HM5 : Hid (W5.heap[w4.heap.size]? = some (.cells #[.int .u64 (bc : Int), .int .u32 (bg : Int), .int .u32 (bn : Int), .int .u32 (bp : Int), .string bt_] 27 (0, 0))) := hg5
      clear hb5 hg5 hW5
      go_wp2_with fail
      rw [HW5.out]
      clear HW5
      refine (H3.out W5).mono ?_
      rintro e w6 ⟨rfl, b6⟩
      have HA6 : Hid (w6.heap[w.heap.size]? = some (.cells #[.int .u64 (ac : Int), .int .u32 (ag : Int), .int .u32 (an : Int), .int .u32 (ap : Int), .string at_] 27 (0, 0))) := (b6.block _ (Array.getElem?_eq_some_iff.1 HA5.out).1).trans HA5.out
      have HM6 : Hid (w6.heap[w4.heap.size]? = some (.cells #[.int .u64 (bc : Int), .int .u32 (bg : Int), .int .u32 (bn : Int), .int .u32 (bp : Int), .string bt_] 27 (0, 0))) := (b6.block _ (Array.getElem?_eq_some_iff.1 HM5.out).1).trans HM5.out
      have HB6 : Hid (Below w.heap.size w w6) := HB5.out.trans (b6.mono HB5.out.size)
      clear b6
      obtain ⟨W7, hW7⟩ : ∃ W, w6.alloc (.cells #[.int .u64 (dc : Int), .int .u32 (dg : Int), .int .u32 (dn : Int), .int .u32 (dp : Int), .string dt_] 27) = W := ⟨_, rfl⟩
      have hb7 := below_new w6 (.cells #[.int .u64 (dc : Int), .int .u32 (dg : Int), .int .u32 (dn : Int), .int .u32 (dp : Int), .string dt_] 27)
      have hg7 := heap_alloc_new w6 (.cells #[.int .u64 (dc : Int), .int .u32 (dg : Int), .int .u32 (dn : Int), .int .u32 (dp : Int), .string dt_] 27)
      rw [hW7] at hb7 hg7
      have HW7 : Hid _ := hW7
      have HA7 : Hid (W7.heap[w.heap.size]? = some (.cells #[.int .u64 (ac : Int), .int .u32 (ag : Int), .int .u32 (an : Int), .int .u32 (ap : Int), .string at_] 27 (0, 0))) := (hb7.block _ (Array.getElem?_eq_some_iff.1 HA6.out).1).trans HA6.out
      have HM7 : Hid (W7.heap[w4.heap.size]? = some (.cells #[.int .u64 (bc : Int), .int .u32 (bg : Int), .int .u32 (bn : Int), .int .u32 (bp : Int), .string bt_] 27 (0, 0))) := (hb7.block _ (Array.getElem?_eq_some_iff.1 HM6.out).1).trans HM6.out
      have HB7 : Hid (Below w.heap.size w W7) := HB6.out.trans (hb7.mono HB6.out.size)
      have HD7 : Hid (W7.heap[w6.heap.size]? = some (.cells #[.int .u64 (dc : Int), .int .u32 (dg : Int), .int .u32 (dn : Int), .int .u32 (dp : Int), .string dt_] 27 (0, 0))) := hg7
      clear hb7 hg7 hW7
      have fD0 : W7.cell? ⟨w6.heap.size, 0, none⟩ = some (.int .u64 (dc : Int)) := by rw [cell_of_row _ _ _ _ _ _ HD7.out]; rfl
      have fD1 : W7.cell? ⟨w6.heap.size, 1, none⟩ = some (.int .u32 (dg : Int)) := by rw [cell_of_row _ _ _ _ _ _ HD7.out]; rfl
      have fD2 : W7.cell? ⟨w6.heap.size, 2, none⟩ = some (.int .u32 (dn : Int)) := by rw [cell_of_row _ _ _ _ _ _ HD7.out]; rfl
      have fD3 : W7.cell? ⟨w6.heap.size, 3, none⟩ = some (.int .u32 (dp : Int)) := by rw [cell_of_row _ _ _ _ _ _ HD7.out]; rfl
      have fD4 : W7.cell? ⟨w6.heap.size, 4, none⟩ = some (.string dt_) := by rw [cell_of_row _ _ _ _ _ _ HD7.out]; rfl
      go_wp2_with (first | (rw [HW7.out]; clear HW7))
      clear fD0 fD1 fD2 fD3 fD4
      refine (H4.out W7).mono ?_
      rintro e w8 ⟨rfl, b8⟩
      have HA8 : Hid (w8.heap[w.heap.size]? = some (.cells #[.int .u64 (ac : Int), .int .u32 (ag : Int), .int .u32 (an : Int), .int .u32 (ap : Int), .string at_] 27 (0, 0))) := (b8.block _ (Array.getElem?_eq_some_iff.1 HA7.out).1).trans HA7.out
      have HM8 : Hid (w8.heap[w4.heap.size]? = some (.cells #[.int .u64 (bc : Int), .int .u32 (bg : Int), .int .u32 (bn : Int), .int .u32 (bp : Int), .string bt_] 27 (0, 0))) := (b8.block _ (Array.getElem?_eq_some_iff.1 HM7.out).1).trans HM7.out
      have HD8 : Hid (w8.heap[w6.heap.size]? = some (.cells #[.int .u64 (dc : Int), .int .u32 (dg : Int), .int .u32 (dn : Int), .int .u32 (dp : Int), .string dt_] 27 (0, 0))) := (b8.block _ (Array.getElem?_eq_some_iff.1 HD7.out).1).trans HD7.out
      have HB8 : Hid (Below w.heap.size w w8) := HB7.out.trans (b8.mono HB7.out.size)
      clear b8
      have fA0 : w8.cell? ⟨w.heap.size, 0, none⟩ = some (.int .u64 (ac : Int)) := by rw [cell_of_row _ _ _ _ _ _ HA8.out]; rfl
      have fA1 : w8.cell? ⟨w.heap.size, 1, none⟩ = some (.int .u32 (ag : Int)) := by rw [cell_of_row _ _ _ _ _ _ HA8.out]; rfl
      have fA2 : w8.cell? ⟨w.heap.size, 2, none⟩ = some (.int .u32 (an : Int)) := by rw [cell_of_row _ _ _ _ _ _ HA8.out]; rfl
      have fA3 : w8.cell? ⟨w.heap.size, 3, none⟩ = some (.int .u32 (ap : Int)) := by rw [cell_of_row _ _ _ _ _ _ HA8.out]; rfl
      have fA4 : w8.cell? ⟨w.heap.size, 4, none⟩ = some (.string at_) := by rw [cell_of_row _ _ _ _ _ _ HA8.out]; rfl
      go_wp2_with fail
      clear fA0 fA1 fA2 fA3 fA4
      refine (H5.out w8).mono ?_
      rintro e w9 ⟨rfl, b9⟩
      have HA9 : Hid (w9.heap[w.heap.size]? = some (.cells #[.int .u64 (ac : Int), .int .u32 (ag : Int), .int .u32 (an : Int), .int .u32 (ap : Int), .string at_] 27 (0, 0))) := (b9.block _ (Array.getElem?_eq_some_iff.1 HA8.out).1).trans HA8.out
      have HM9 : Hid (w9.heap[w4.heap.size]? = some (.cells #[.int .u64 (bc : Int), .int .u32 (bg : Int), .int .u32 (bn : Int), .int .u32 (bp : Int), .string bt_] 27 (0, 0))) := (b9.block _ (Array.getElem?_eq_some_iff.1 HM8.out).1).trans HM8.out
      have HD9 : Hid (w9.heap[w6.heap.size]? = some (.cells #[.int .u64 (dc : Int), .int .u32 (dg : Int), .int .u32 (dn : Int), .int .u32 (dp : Int), .string dt_] 27 (0, 0))) := (b9.block _ (Array.getElem?_eq_some_iff.1 HD8.out).1).trans HD8.out
      have HB9 : Hid (Below w.heap.size w w9) := HB8.out.trans (b9.mono HB8.out.size)
      clear b9
      have fA0 : w9.cell? ⟨w.heap.size, 0, none⟩ = some (.int .u64 (ac : Int)) := by rw [cell_of_row _ _ _ _ _ _ HA9.out]; rfl
      have fA1 : w9.cell? ⟨w.heap.size, 1, none⟩ = some (.int .u32 (ag : Int)) := by rw [cell_of_row _ _ _ _ _ _ HA9.out]; rfl
      have fA2 : w9.cell? ⟨w.heap.size, 2, none⟩ = some (.int .u32 (an : Int)) := by rw [cell_of_row _ _ _ _ _ _ HA9.out]; rfl
      have fA3 : w9.cell? ⟨w.heap.size, 3, none⟩ = some (.int .u32 (ap : Int)) := by rw [cell_of_row _ _ _ _ _ _ HA9.out]; rfl
      have fA4 : w9.cell? ⟨w.heap.size, 4, none⟩ = some (.string at_) := by rw [cell_of_row _ _ _ _ _ _ HA9.out]; rfl
      have fM0 : w9.cell? ⟨w4.heap.size, 0, none⟩ = some (.int .u64 (bc : Int)) := by rw [cell_of_row _ _ _ _ _ _ HM9.out]; rfl
      have fM1 : w9.cell? ⟨w4.heap.size, 1, none⟩ = some (.int .u32 (bg : Int)) := by rw [cell_of_row _ _ _ _ _ _ HM9.out]; rfl
      have fM2 : w9.cell? ⟨w4.heap.size, 2, none⟩ = some (.int .u32 (bn : Int)) := by rw [cell_of_row _ _ _ _ _ _ HM9.out]; rfl
      have fM3 : w9.cell? ⟨w4.heap.size, 3, none⟩ = some (.int .u32 (bp : Int)) := by rw [cell_of_row _ _ _ _ _ _ HM9.out]; rfl
      have fM4 : w9.cell? ⟨w4.heap.size, 4, none⟩ = some (.string bt_) := by rw [cell_of_row _ _ _ _ _ _ HM9.out]; rfl
      have fD0 : w9.cell? ⟨w6.heap.size, 0, none⟩ = some (.int .u64 (dc : Int)) := by rw [cell_of_row _ _ _ _ _ _ HD9.out]; rfl
      have fD1 : w9.cell? ⟨w6.heap.size, 1, none⟩ = some (.int .u32 (dg : Int)) := by rw [cell_of_row _ _ _ _ _ _ HD9.out]; rfl
      have fD2 : w9.cell? ⟨w6.heap.size, 2, none⟩ = some (.int .u32 (dn : Int)) := by rw [cell_of_row _ _ _ _ _ _ HD9.out]; rfl
      have fD3 : w9.cell? ⟨w6.heap.size, 3, none⟩ = some (.int .u32 (dp : Int)) := by rw [cell_of_row _ _ _ _ _ _ HD9.out]; rfl
      have fD4 : w9.cell? ⟨w6.heap.size, 4, none⟩ = some (.string dt_) := by rw [cell_of_row _ _ _ _ _ _ HD9.out]; rfl
      go_wp2_with fail
      go_ret
      exact ⟨rfl, HB9.out⟩
  · rw [hb] at h1 h5 n1 n2
    cases hd : okD s
    · skip
      rw [hd] at h3
      simp only [Bool.false_eq_true, if_false] at h3
      rw [(n1 rfl).2] at h2
      rw [(n1 rfl).1] at h2 m1
      rw [(eqR_iff _ _).2 rfl] at m1
      simp only [if_true] at h1 h2
      have hz : eqR R3 zeroR = true := by rw [n4 hd]; exact zeroR_is
      rw [hz] at m2
      clear hz
      obtain ⟨ac, ag, an, ap, at_⟩ := r
      obtain ⟨dc, dg, dn, dp, dt_⟩ := R3
      have H1 : Hid (∀ W : World, _) := h1
      have H2 : Hid (∀ W : World, _) := h2
      have H3 : Hid (∀ W : World, _) := h3
      have H4 : Hid (∀ W : World, _) := h4
      have H5 : Hid (∀ W : World, _) := h5
      clear h1 h2 h3 h4 h5 n1 n2 n3 n4 hb hd hr
      obtain ⟨W1, hW1⟩ : ∃ W, w.alloc (.cells #[.int .u64 (ac : Int), .int .u32 (ag : Int), .int .u32 (an : Int), .int .u32 (ap : Int), .string at_] 27) = W := ⟨_, rfl⟩
      have hb1 := below_new w (.cells #[.int .u64 (ac : Int), .int .u32 (ag : Int), .int .u32 (an : Int), .int .u32 (ap : Int), .string at_] 27)
      have hg1 := heap_alloc_new w (.cells #[.int .u64 (ac : Int), .int .u32 (ag : Int), .int .u32 (an : Int), .int .u32 (ap : Int), .string at_] 27)
      rw [hW1] at hb1 hg1
      have HW1 : Hid _ := hW1
      have HB1 : Hid (Below w.heap.size w W1) := hb1
      have HA1 : Hid (W1.heap[w.heap.size]? = some (.cells #[.int .u64 (ac : Int), .int .u32 (ag : Int), .int .u32 (an : Int), .int .u32 (ap : Int), .string at_] 27 (0, 0))) := hg1
      clear hb1 hg1 hW1
      go_enter Try.func6, Try.ntmps6
      go_wp2_with fail
      rw [HW1.out]
      clear HW1
      refine (HSH.out W1).mono ?_
      rintro e w2 ⟨rfl, b2⟩
      have HA2 : Hid (w2.heap[w.heap.size]? = some (.cells #[.int .u64 (ac : Int), .int .u32 (ag : Int), .int .u32 (an : Int), .int .u32 (ap : Int), .string at_] 27 (0, 0))) := (b2.block _ (Array.getElem?_eq_some_iff.1 HA1.out).1).trans HA1.out
      have HB2 : Hid (Below w.heap.size w w2) := HB1.out.trans (b2.mono HB1.out.size)
      clear b2
      have fA0 : w2.cell? ⟨w.heap.size, 0, none⟩ = some (.int .u64 (ac : Int)) := by rw [cell_of_row _ _ _ _ _ _ HA2.out]; rfl
      have fA1 : w2.cell? ⟨w.heap.size, 1, none⟩ = some (.int .u32 (ag : Int)) := by rw [cell_of_row _ _ _ _ _ _ HA2.out]; rfl
      have fA2 : w2.cell? ⟨w.heap.size, 2, none⟩ = some (.int .u32 (an : Int)) := by rw [cell_of_row _ _ _ _ _ _ HA2.out]; rfl
      have fA3 : w2.cell? ⟨w.heap.size, 3, none⟩ = some (.int .u32 (ap : Int)) := by rw [cell_of_row _ _ _ _ _ _ HA2.out]; rfl
      have fA4 : w2.cell? ⟨w.heap.size, 4, none⟩ = some (.string at_) := by rw [cell_of_row _ _ _ _ _ _ HA2.out]; rfl
      go_wp2_with fail
      clear fA0 fA1 fA2 fA3 fA4
      refine (H1.out w2).mono ?_
      rintro e w3 ⟨rfl, b3⟩
      have HA3 : Hid (w3.heap[w.heap.size]? = some (.cells #[.int .u64 (ac : Int), .int .u32 (ag : Int), .int .u32 (an : Int), .int .u32 (ap : Int), .string at_] 27 (0, 0))) := (b3.block _ (Array.getElem?_eq_some_iff.1 HA2.out).1).trans HA2.out
      have HB3 : Hid (Below w.heap.size w w3) := HB2.out.trans (b3.mono HB2.out.size)
      clear b3
      go_wp2_with fail
      refine (H2.out w3).mono ?_
      rintro e w4 ⟨rfl, b4⟩
      have HA4 : Hid (w4.heap[w.heap.size]? = some (.cells #[.int .u64 (ac : Int), .int .u32 (ag : Int), .int .u32 (an : Int), .int .u32 (ap : Int), .string at_] 27 (0, 0))) := (b4.block _ (Array.getElem?_eq_some_iff.1 HA3.out).1).trans HA3.out
      have HB4 : Hid (Below w.heap.size w w4) := HB3.out.trans (b4.mono HB3.out.size)
      clear b4
      obtain ⟨W5, hW5⟩ : ∃ W, w4.alloc (.cells #[.int .u64 (ac : Int), .int .u32 (ag : Int), .int .u32 (an : Int), .int .u32 (ap : Int), .string at_] 27) = W := ⟨_, rfl⟩
      have hb5 := below_new w4 (.cells #[.int .u64 (ac : Int), .int .u32 (ag : Int), .int .u32 (an : Int), .int .u32 (ap : Int), .string at_] 27)
      have hg5 := heap_alloc_new w4 (.cells #[.int .u64 (ac : Int), .int .u32 (ag : Int), .int .u32 (an : Int), .int .u32 (ap : Int), .string at_] 27)
      rw [hW5] at hb5 hg5
      have HW5 : Hid _ := hW5
      have HA5 : Hid (W5.heap[w.heap.size]? = some (.cells #[.int .u64 (ac : Int), .int .u32 (ag : Int), .int .u32 (an : Int), .int .u32 (ap : Int), .string at_] 27 (0, 0))) := (hb5.block _ (Array.getElem?_eq_some_iff.1 HA4.out).1).trans HA4.out
      have HB5 : Hid (Below w.heap.size w W5) := HB4.out.trans (hb5.mono HB4.out.size)
      have HM5 : Hid (W5.heap[w4.heap.size]? = some (.cells #[.int .u64 (ac : Int), .int .u32 (ag : Int), .int .u32 (an : Int), .int .u32 (ap : Int), .string at_] 27 (0, 0))) := hg5
      clear hb5 hg5 hW5
      go_wp2_with fail
      rw [HW5.out]
      clear HW5
      refine (H3.out W5).mono ?_
      rintro e w6 ⟨rfl, b6⟩
      have HA6 : Hid (w6.heap[w.heap.size]? = some (.cells #[.int .u64 (ac : Int), .int .u32 (ag : Int), .int .u32 (an : Int), .int .u32 (ap : Int), .string at_] 27 (0, 0))) := (b6.block _ (Array.getElem?_eq_some_iff.1 HA5.out).1).trans HA5.out
      have HM6 : Hid (w6.heap[w4.heap.size]? = some (.cells #[.int .u64 (ac : Int), .int .u32 (ag : Int), .int .u32 (an : Int), .int .u32 (ap : Int), .string at_] 27 (0, 0))) := (b6.block _ (Array.getElem?_eq_some_iff.1 HM5.out).1).trans HM5.out
      have HB6 : Hid (Below w.heap.size w w6) := HB5.out.trans (b6.mono HB5.out.size)
      clear b6
      obtain ⟨W7, hW7⟩ : ∃ W, w6.alloc (.cells #[.int .u64 (dc : Int), .int .u32 (dg : Int), .int .u32 (dn : Int), .int .u32 (dp : Int), .string dt_] 27) = W := ⟨_, rfl⟩
      have hb7 := below_new w6 (.cells #[.int .u64 (dc : Int), .int .u32 (dg : Int), .int .u32 (dn : Int), .int .u32 (dp : Int), .string dt_] 27)
      have hg7 := heap_alloc_new w6 (.cells #[.int .u64 (dc : Int), .int .u32 (dg : Int), .int .u32 (dn : Int), .int .u32 (dp : Int), .string dt_] 27)
      rw [hW7] at hb7 hg7
      have HW7 : Hid _ := hW7
      have HA7 : Hid (W7.heap[w.heap.size]? = some (.cells #[.int .u64 (ac : Int), .int .u32 (ag : Int), .int .u32 (an : Int), .int .u32 (ap : Int), .string at_] 27 (0, 0))) := (hb7.block _ (Array.getElem?_eq_some_iff.1 HA6.out).1).trans HA6.out
      have HM7 : Hid (W7.heap[w4.heap.size]? = some (.cells #[.int .u64 (ac : Int), .int .u32 (ag : Int), .int .u32 (an : Int), .int .u32 (ap : Int), .string at_] 27 (0, 0))) := (hb7.block _ (Array.getElem?_eq_some_iff.1 HM6.out).1).trans HM6.out
      have HB7 : Hid (Below w.heap.size w W7) := HB6.out.trans (hb7.mono HB6.out.size)
      have HD7 : Hid (W7.heap[w6.heap.size]? = some (.cells #[.int .u64 (dc : Int), .int .u32 (dg : Int), .int .u32 (dn : Int), .int .u32 (dp : Int), .string dt_] 27 (0, 0))) := hg7
      clear hb7 hg7 hW7
      have fD0 : W7.cell? ⟨w6.heap.size, 0, none⟩ = some (.int .u64 (dc : Int)) := by rw [cell_of_row _ _ _ _ _ _ HD7.out]; rfl
      have fD1 : W7.cell? ⟨w6.heap.size, 1, none⟩ = some (.int .u32 (dg : Int)) := by rw [cell_of_row _ _ _ _ _ _ HD7.out]; rfl
      have fD2 : W7.cell? ⟨w6.heap.size, 2, none⟩ = some (.int .u32 (dn : Int)) := by rw [cell_of_row _ _ _ _ _ _ HD7.out]; rfl
      have fD3 : W7.cell? ⟨w6.heap.size, 3, none⟩ = some (.int .u32 (dp : Int)) := by rw [cell_of_row _ _ _ _ _ _ HD7.out]; rfl
      have fD4 : W7.cell? ⟨w6.heap.size, 4, none⟩ = some (.string dt_) := by rw [cell_of_row _ _ _ _ _ _ HD7.out]; rfl
      go_wp2_with (first | (rw [HW7.out]; clear HW7))
      clear fD0 fD1 fD2 fD3 fD4
      refine (H4.out W7).mono ?_
      rintro e w8 ⟨rfl, b8⟩
      have HA8 : Hid (w8.heap[w.heap.size]? = some (.cells #[.int .u64 (ac : Int), .int .u32 (ag : Int), .int .u32 (an : Int), .int .u32 (ap : Int), .string at_] 27 (0, 0))) := (b8.block _ (Array.getElem?_eq_some_iff.1 HA7.out).1).trans HA7.out
      have HM8 : Hid (w8.heap[w4.heap.size]? = some (.cells #[.int .u64 (ac : Int), .int .u32 (ag : Int), .int .u32 (an : Int), .int .u32 (ap : Int), .string at_] 27 (0, 0))) := (b8.block _ (Array.getElem?_eq_some_iff.1 HM7.out).1).trans HM7.out
      have HD8 : Hid (w8.heap[w6.heap.size]? = some (.cells #[.int .u64 (dc : Int), .int .u32 (dg : Int), .int .u32 (dn : Int), .int .u32 (dp : Int), .string dt_] 27 (0, 0))) := (b8.block _ (Array.getElem?_eq_some_iff.1 HD7.out).1).trans HD7.out
      have HB8 : Hid (Below w.heap.size w w8) := HB7.out.trans (b8.mono HB7.out.size)
      clear b8
      have fA0 : w8.cell? ⟨w.heap.size, 0, none⟩ = some (.int .u64 (ac : Int)) := by rw [cell_of_row _ _ _ _ _ _ HA8.out]; rfl
      have fA1 : w8.cell? ⟨w.heap.size, 1, none⟩ = some (.int .u32 (ag : Int)) := by rw [cell_of_row _ _ _ _ _ _ HA8.out]; rfl
      have fA2 : w8.cell? ⟨w.heap.size, 2, none⟩ = some (.int .u32 (an : Int)) := by rw [cell_of_row _ _ _ _ _ _ HA8.out]; rfl
      have fA3 : w8.cell? ⟨w.heap.size, 3, none⟩ = some (.int .u32 (ap : Int)) := by rw [cell_of_row _ _ _ _ _ _ HA8.out]; rfl
      have fA4 : w8.cell? ⟨w.heap.size, 4, none⟩ = some (.string at_) := by rw [cell_of_row _ _ _ _ _ _ HA8.out]; rfl
      go_wp2_with fail
      clear fA0 fA1 fA2 fA3 fA4
      refine (H5.out w8).mono ?_
      rintro e w9 ⟨rfl, b9⟩
      have HA9 : Hid (w9.heap[w.heap.size]? = some (.cells #[.int .u64 (ac : Int), .int .u32 (ag : Int), .int .u32 (an : Int), .int .u32 (ap : Int), .string at_] 27 (0, 0))) := (b9.block _ (Array.getElem?_eq_some_iff.1 HA8.out).1).trans HA8.out
      have HM9 : Hid (w9.heap[w4.heap.size]? = some (.cells #[.int .u64 (ac : Int), .int .u32 (ag : Int), .int .u32 (an : Int), .int .u32 (ap : Int), .string at_] 27 (0, 0))) := (b9.block _ (Array.getElem?_eq_some_iff.1 HM8.out).1).trans HM8.out
      have HD9 : Hid (w9.heap[w6.heap.size]? = some (.cells #[.int .u64 (dc : Int), .int .u32 (dg : Int), .int .u32 (dn : Int), .int .u32 (dp : Int), .string dt_] 27 (0, 0))) := (b9.block _ (Array.getElem?_eq_some_iff.1 HD8.out).1).trans HD8.out
      have HB9 : Hid (Below w.heap.size w w9) := HB8.out.trans (b9.mono HB8.out.size)
      clear b9
      have fA0 : w9.cell? ⟨w.heap.size, 0, none⟩ = some (.int .u64 (ac : Int)) := by rw [cell_of_row _ _ _ _ _ _ HA9.out]; rfl
      have fA1 : w9.cell? ⟨w.heap.size, 1, none⟩ = some (.int .u32 (ag : Int)) := by rw [cell_of_row _ _ _ _ _ _ HA9.out]; rfl
      have fA2 : w9.cell? ⟨w.heap.size, 2, none⟩ = some (.int .u32 (an : Int)) := by rw [cell_of_row _ _ _ _ _ _ HA9.out]; rfl
      have fA3 : w9.cell? ⟨w.heap.size, 3, none⟩ = some (.int .u32 (ap : Int)) := by rw [cell_of_row _ _ _ _ _ _ HA9.out]; rfl
      have fA4 : w9.cell? ⟨w.heap.size, 4, none⟩ = some (.string at_) := by rw [cell_of_row _ _ _ _ _ _ HA9.out]; rfl
      have fM0 : w9.cell? ⟨w4.heap.size, 0, none⟩ = some (.int .u64 (ac : Int)) := by rw [cell_of_row _ _ _ _ _ _ HM9.out]; rfl
      have fM1 : w9.cell? ⟨w4.heap.size, 1, none⟩ = some (.int .u32 (ag : Int)) := by rw [cell_of_row _ _ _ _ _ _ HM9.out]; rfl
      have fM2 : w9.cell? ⟨w4.heap.size, 2, none⟩ = some (.int .u32 (an : Int)) := by rw [cell_of_row _ _ _ _ _ _ HM9.out]; rfl
      have fM3 : w9.cell? ⟨w4.heap.size, 3, none⟩ = some (.int .u32 (ap : Int)) := by rw [cell_of_row _ _ _ _ _ _ HM9.out]; rfl
      have fM4 : w9.cell? ⟨w4.heap.size, 4, none⟩ = some (.string at_) := by rw [cell_of_row _ _ _ _ _ _ HM9.out]; rfl
      have fD0 : w9.cell? ⟨w6.heap.size, 0, none⟩ = some (.int .u64 (dc : Int)) := by rw [cell_of_row _ _ _ _ _ _ HD9.out]; rfl
      have fD1 : w9.cell? ⟨w6.heap.size, 1, none⟩ = some (.int .u32 (dg : Int)) := by rw [cell_of_row _ _ _ _ _ _ HD9.out]; rfl
      have fD2 : w9.cell? ⟨w6.heap.size, 2, none⟩ = some (.int .u32 (dn : Int)) := by rw [cell_of_row _ _ _ _ _ _ HD9.out]; rfl
      have fD3 : w9.cell? ⟨w6.heap.size, 3, none⟩ = some (.int .u32 (dp : Int)) := by rw [cell_of_row _ _ _ _ _ _ HD9.out]; rfl
      have fD4 : w9.cell? ⟨w6.heap.size, 4, none⟩ = some (.string dt_) := by rw [cell_of_row _ _ _ _ _ _ HD9.out]; rfl
      go_wp2_with fail
      go_ret
      exact ⟨rfl, HB9.out⟩
    · skip
      rw [hd] at h3
      simp only [if_true] at h3
      rw [(n1 rfl).2] at h2
      rw [(n1 rfl).1] at h2 m1
      rw [(eqR_iff _ _).2 rfl] at m1
      simp only [if_true] at h1 h2
      obtain ⟨x1, x2⟩ := n3 hd
      subst x1 x2
      clear m2
      obtain ⟨ac, ag, an, ap, at_⟩ := r
      obtain ⟨dc, dg, dn, dp, dt_⟩ := R3
      have H1 : Hid (∀ W : World, _) := h1
      have H2 : Hid (∀ W : World, _) := h2
      have H3 : Hid (∀ W : World, _) := h3
      have H4 : Hid (∀ W : World, _) := h4
      have H5 : Hid (∀ W : World, _) := h5
      clear h1 h2 h3 h4 h5 n1 n2 n3 n4 hb hd hr
      obtain ⟨W1, hW1⟩ : ∃ W, w.alloc (.cells #[.int .u64 (ac : Int), .int .u32 (ag : Int), .int .u32 (an : Int), .int .u32 (ap : Int), .string at_] 27) = W := ⟨_, rfl⟩
      have hb1 := below_new w (.cells #[.int .u64 (ac : Int), .int .u32 (ag : Int), .int .u32 (an : Int), .int .u32 (ap : Int), .string at_] 27)
      have hg1 := heap_alloc_new w (.cells #[.int .u64 (ac : Int), .int .u32 (ag : Int), .int .u32 (an : Int), .int .u32 (ap : Int), .string at_] 27)
      rw [hW1] at hb1 hg1
      have HW1 : Hid _ := hW1
      have HB1 : Hid (Below w.heap.size w W1) := hb1
      have HA1 : Hid (W1.heap[w.heap.size]? = some (.cells #[.int .u64 (ac : Int), .int .u32 (ag : Int), .int .u32 (an : Int), .int .u32 (ap : Int), .string at_] 27 (0, 0))) := hg1
      clear hb1 hg1 hW1
      go_enter Try.func6, Try.ntmps6
      go_wp2_with fail
      rw [HW1.out]
      clear HW1
      refine (HSH.out W1).mono ?_
      rintro e w2 ⟨rfl, b2⟩
      have HA2 : Hid (w2.heap[w.heap.size]? = some (.cells #[.int .u64 (ac : Int), .int .u32 (ag : Int), .int .u32 (an : Int), .int .u32 (ap : Int), .string at_] 27 (0, 0))) := (b2.block _ (Array.getElem?_eq_some_iff.1 HA1.out).1).trans HA1.out
      have HB2 : Hid (Below w.heap.size w w2) := HB1.out.trans (b2.mono HB1.out.size)
      clear b2
      have fA0 : w2.cell? ⟨w.heap.size, 0, none⟩ = some (.int .u64 (ac : Int)) := by rw [cell_of_row _ _ _ _ _ _ HA2.out]; rfl
      have fA1 : w2.cell? ⟨w.heap.size, 1, none⟩ = some (.int .u32 (ag : Int)) := by rw [cell_of_row _ _ _ _ _ _ HA2.out]; rfl
      have fA2 : w2.cell? ⟨w.heap.size, 2, none⟩ = some (.int .u32 (an : Int)) := by rw [cell_of_row _ _ _ _ _ _ HA2.out]; rfl
      have fA3 : w2.cell? ⟨w.heap.size, 3, none⟩ = some (.int .u32 (ap : Int)) := by rw [cell_of_row _ _ _ _ _ _ HA2.out]; rfl
      have fA4 : w2.cell? ⟨w.heap.size, 4, none⟩ = some (.string at_) := by rw [cell_of_row _ _ _ _ _ _ HA2.out]; rfl
      go_wp2_with fail
      clear fA0 fA1 fA2 fA3 fA4
      refine (H1.out w2).mono ?_
      rintro e w3 ⟨rfl, b3⟩
      have HA3 : Hid (w3.heap[w.heap.size]? = some (.cells #[.int .u64 (ac : Int), .int .u32 (ag : Int), .int .u32 (an : Int), .int .u32 (ap : Int), .string at_] 27 (0, 0))) := (b3.block _ (Array.getElem?_eq_some_iff.1 HA2.out).1).trans HA2.out
      have HB3 : Hid (Below w.heap.size w w3) := HB2.out.trans (b3.mono HB2.out.size)
      clear b3
      go_wp2_with fail
      refine (H2.out w3).mono ?_
      rintro e w4 ⟨rfl, b4⟩
      have HA4 : Hid (w4.heap[w.heap.size]? = some (.cells #[.int .u64 (ac : Int), .int .u32 (ag : Int), .int .u32 (an : Int), .int .u32 (ap : Int), .string at_] 27 (0, 0))) := (b4.block _ (Array.getElem?_eq_some_iff.1 HA3.out).1).trans HA3.out
      have HB4 : Hid (Below w.heap.size w w4) := HB3.out.trans (b4.mono HB3.out.size)
      clear b4
      obtain ⟨W5, hW5⟩ : ∃ W, w4.alloc (.cells #[.int .u64 (ac : Int), .int .u32 (ag : Int), .int .u32 (an : Int), .int .u32 (ap : Int), .string at_] 27) = W := ⟨_, rfl⟩
      have hb5 := below_new w4 (.cells #[.int .u64 (ac : Int), .int .u32 (ag : Int), .int .u32 (an : Int), .int .u32 (ap : Int), .string at_] 27)
      have hg5 := heap_alloc_new w4 (.cells #[.int .u64 (ac : Int), .int .u32 (ag : Int), .int .u32 (an : Int), .int .u32 (ap : Int), .string at_] 27)
      rw [hW5] at hb5 hg5
      have HW5 : Hid _ := hW5
      have HA5 : Hid (W5.heap[w.heap.size]? = some (.cells #[.int .u64 (ac : Int), .int .u32 (ag : Int), .int .u32 (an : Int), .int .u32 (ap : Int), .string at_] 27 (0, 0))) := (hb5.block _ (Array.getElem?_eq_some_iff.1 HA4.out).1).trans HA4.out
      have HB5 : Hid (Below w.heap.size w W5) := HB4.out.trans (hb5.mono HB4.out.size)
      have HM5 : Hid (W5.heap[w4.heap.size]? = some (.cells #[.int .u64 (ac : Int), .int .u32 (ag : Int), .int .u32 (an : Int), .int .u32 (ap : Int), .string at_] 27 (0, 0))) := hg5
      clear hb5 hg5 hW5
      go_wp2_with fail
      rw [HW5.out]
      clear HW5
      refine (H3.out W5).mono ?_
      rintro e w6 ⟨rfl, b6⟩
      have HA6 : Hid (w6.heap[w.heap.size]? = some (.cells #[.int .u64 (ac : Int), .int .u32 (ag : Int), .int .u32 (an : Int), .int .u32 (ap : Int), .string at_] 27 (0, 0))) := (b6.block _ (Array.getElem?_eq_some_iff.1 HA5.out).1).trans HA5.out
      have HM6 : Hid (w6.heap[w4.heap.size]? = some (.cells #[.int .u64 (ac : Int), .int .u32 (ag : Int), .int .u32 (an : Int), .int .u32 (ap : Int), .string at_] 27 (0, 0))) := (b6.block _ (Array.getElem?_eq_some_iff.1 HM5.out).1).trans HM5.out
      have HB6 : Hid (Below w.heap.size w w6) := HB5.out.trans (b6.mono HB5.out.size)
      clear b6
      obtain ⟨W7, hW7⟩ : ∃ W, w6.alloc (.cells #[.int .u64 (dc : Int), .int .u32 (dg : Int), .int .u32 (dn : Int), .int .u32 (dp : Int), .string dt_] 27) = W := ⟨_, rfl⟩
      have hb7 := below_new w6 (.cells #[.int .u64 (dc : Int), .int .u32 (dg : Int), .int .u32 (dn : Int), .int .u32 (dp : Int), .string dt_] 27)
      have hg7 := heap_alloc_new w6 (.cells #[.int .u64 (dc : Int), .int .u32 (dg : Int), .int .u32 (dn : Int), .int .u32 (dp : Int), .string dt_] 27)
      rw [hW7] at hb7 hg7
      have HW7 : Hid _ := hW7
      have HA7 : Hid (W7.heap[w.heap.size]? = some (.cells #[.int .u64 (ac : Int), .int .u32 (ag : Int), .int .u32 (an : Int), .int .u32 (ap : Int), .string at_] 27 (0, 0))) := (hb7.block _ (Array.getElem?_eq_some_iff.1 HA6.out).1).trans HA6.out
      have HM7 : Hid (W7.heap[w4.heap.size]? = some (.cells #[.int .u64 (ac : Int), .int .u32 (ag : Int), .int .u32 (an : Int), .int .u32 (ap : Int), .string at_] 27 (0, 0))) := (hb7.block _ (Array.getElem?_eq_some_iff.1 HM6.out).1).trans HM6.out
      have HB7 : Hid (Below w.heap.size w W7) := HB6.out.trans (hb7.mono HB6.out.size)
      have HD7 : Hid (W7.heap[w6.heap.size]? = some (.cells #[.int .u64 (dc : Int), .int .u32 (dg : Int), .int .u32 (dn : Int), .int .u32 (dp : Int), .string dt_] 27 (0, 0))) := hg7
      clear hb7 hg7 hW7
      have fD0 : W7.cell? ⟨w6.heap.size, 0, none⟩ = some (.int .u64 (dc : Int)) := by rw [cell_of_row _ _ _ _ _ _ HD7.out]; rfl
      have fD1 : W7.cell? ⟨w6.heap.size, 1, none⟩ = some (.int .u32 (dg : Int)) := by rw [cell_of_row _ _ _ _ _ _ HD7.out]; rfl
      have fD2 : W7.cell? ⟨w6.heap.size, 2, none⟩ = some (.int .u32 (dn : Int)) := by rw [cell_of_row _ _ _ _ _ _ HD7.out]; rfl
      have fD3 : W7.cell? ⟨w6.heap.size, 3, none⟩ = some (.int .u32 (dp : Int)) := by rw [cell_of_row _ _ _ _ _ _ HD7.out]; rfl
      have fD4 : W7.cell? ⟨w6.heap.size, 4, none⟩ = some (.string dt_) := by rw [cell_of_row _ _ _ _ _ _ HD7.out]; rfl
      go_wp2_with (first | (rw [HW7.out]; clear HW7))
      clear fD0 fD1 fD2 fD3 fD4
      refine (H4.out W7).mono ?_
      rintro e w8 ⟨rfl, b8⟩
      have HA8 : Hid (w8.heap[w.heap.size]? = some (.cells #[.int .u64 (ac : Int), .int .u32 (ag : Int), .int .u32 (an : Int), .int .u32 (ap : Int), .string at_] 27 (0, 0))) := (b8.block _ (Array.getElem?_eq_some_iff.1 HA7.out).1).trans HA7.out
      have HM8 : Hid (w8.heap[w4.heap.size]? = some (.cells #[.int .u64 (ac : Int), .int .u32 (ag : Int), .int .u32 (an : Int), .int .u32 (ap : Int), .string at_] 27 (0, 0))) := (b8.block _ (Array.getElem?_eq_some_iff.1 HM7.out).1).trans HM7.out
      have HD8 : Hid (w8.heap[w6.heap.size]? = some (.cells #[.int .u64 (dc : Int), .int .u32 (dg : Int), .int .u32 (dn : Int), .int .u32 (dp : Int), .string dt_] 27 (0, 0))) := (b8.block _ (Array.getElem?_eq_some_iff.1 HD7.out).1).trans HD7.out
      have HB8 : Hid (Below w.heap.size w w8) := HB7.out.trans (b8.mono HB7.out.size)
      clear b8
      have fA0 : w8.cell? ⟨w.heap.size, 0, none⟩ = some (.int .u64 (ac : Int)) := by rw [cell_of_row _ _ _ _ _ _ HA8.out]; rfl
      have fA1 : w8.cell? ⟨w.heap.size, 1, none⟩ = some (.int .u32 (ag : Int)) := by rw [cell_of_row _ _ _ _ _ _ HA8.out]; rfl
      have fA2 : w8.cell? ⟨w.heap.size, 2, none⟩ = some (.int .u32 (an : Int)) := by rw [cell_of_row _ _ _ _ _ _ HA8.out]; rfl
      have fA3 : w8.cell? ⟨w.heap.size, 3, none⟩ = some (.int .u32 (ap : Int)) := by rw [cell_of_row _ _ _ _ _ _ HA8.out]; rfl
      have fA4 : w8.cell? ⟨w.heap.size, 4, none⟩ = some (.string at_) := by rw [cell_of_row _ _ _ _ _ _ HA8.out]; rfl
      go_wp2_with fail
      clear fA0 fA1 fA2 fA3 fA4
      refine (H5.out w8).mono ?_
      rintro e w9 ⟨rfl, b9⟩
      have HA9 : Hid (w9.heap[w.heap.size]? = some (.cells #[.int .u64 (ac : Int), .int .u32 (ag : Int), .int .u32 (an : Int), .int .u32 (ap : Int), .string at_] 27 (0, 0))) := (b9.block _ (Array.getElem?_eq_some_iff.1 HA8.out).1).trans HA8.out
      have HM9 : Hid (w9.heap[w4.heap.size]? = some (.cells #[.int .u64 (ac : Int), .int .u32 (ag : Int), .int .u32 (an : Int), .int .u32 (ap : Int), .string at_] 27 (0, 0))) := (b9.block _ (Array.getElem?_eq_some_iff.1 HM8.out).1).trans HM8.out
      have HD9 : Hid (w9.heap[w6.heap.size]? = some (.cells #[.int .u64 (dc : Int), .int .u32 (dg : Int), .int .u32 (dn : Int), .int .u32 (dp : Int), .string dt_] 27 (0, 0))) := (b9.block _ (Array.getElem?_eq_some_iff.1 HD8.out).1).trans HD8.out
      have HB9 : Hid (Below w.heap.size w w9) := HB8.out.trans (b9.mono HB8.out.size)
      clear b9
      have fA0 : w9.cell? ⟨w.heap.size, 0, none⟩ = some (.int .u64 (ac : Int)) := by rw [cell_of_row _ _ _ _ _ _ HA9.out]; rfl
      have fA1 : w9.cell? ⟨w.heap.size, 1, none⟩ = some (.int .u32 (ag : Int)) := by rw [cell_of_row _ _ _ _ _ _ HA9.out]; rfl
      have fA2 : w9.cell? ⟨w.heap.size, 2, none⟩ = some (.int .u32 (an : Int)) := by rw [cell_of_row _ _ _ _ _ _ HA9.out]; rfl
      have fA3 : w9.cell? ⟨w.heap.size, 3, none⟩ = some (.int .u32 (ap : Int)) := by rw [cell_of_row _ _ _ _ _ _ HA9.out]; rfl
      have fA4 : w9.cell? ⟨w.heap.size, 4, none⟩ = some (.string at_) := by rw [cell_of_row _ _ _ _ _ _ HA9.out]; rfl
      have fM0 : w9.cell? ⟨w4.heap.size, 0, none⟩ = some (.int .u64 (ac : Int)) := by rw [cell_of_row _ _ _ _ _ _ HM9.out]; rfl
      have fM1 : w9.cell? ⟨w4.heap.size, 1, none⟩ = some (.int .u32 (ag : Int)) := by rw [cell_of_row _ _ _ _ _ _ HM9.out]; rfl
      have fM2 : w9.cell? ⟨w4.heap.size, 2, none⟩ = some (.int .u32 (an : Int)) := by rw [cell_of_row _ _ _ _ _ _ HM9.out]; rfl
      have fM3 : w9.cell? ⟨w4.heap.size, 3, none⟩ = some (.int .u32 (ap : Int)) := by rw [cell_of_row _ _ _ _ _ _ HM9.out]; rfl
      have fM4 : w9.cell? ⟨w4.heap.size, 4, none⟩ = some (.string at_) := by rw [cell_of_row _ _ _ _ _ _ HM9.out]; rfl
      have fD0 : w9.cell? ⟨w6.heap.size, 0, none⟩ = some (.int .u64 (dc : Int)) := by rw [cell_of_row _ _ _ _ _ _ HD9.out]; rfl
      have fD1 : w9.cell? ⟨w6.heap.size, 1, none⟩ = some (.int .u32 (dg : Int)) := by rw [cell_of_row _ _ _ _ _ _ HD9.out]; rfl
      have fD2 : w9.cell? ⟨w6.heap.size, 2, none⟩ = some (.int .u32 (dn : Int)) := by rw [cell_of_row _ _ _ _ _ _ HD9.out]; rfl
      have fD3 : w9.cell? ⟨w6.heap.size, 3, none⟩ = some (.int .u32 (dp : Int)) := by rw [cell_of_row _ _ _ _ _ _ HD9.out]; rfl
      have fD4 : w9.cell? ⟨w6.heap.size, 4, none⟩ = some (.string dt_) := by rw [cell_of_row _ _ _ _ _ _ HD9.out]; rfl
      go_wp2_with fail
      go_ret
      exact ⟨rfl, HB9.out⟩
end Go.Proofs.Ytofealdlgpmheaa.Ro
