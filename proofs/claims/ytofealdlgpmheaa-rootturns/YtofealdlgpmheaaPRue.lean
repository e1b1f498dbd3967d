/- A root and the next one. -/
import Derived.Test.YtofealdlgpmheaaQRtn
namespace Go.Proofs.Ytofealdlgpmheaa.Ro
open Go.RowKit Go.Lib Go.Shelf
open Go.Proofs.Ytofealdlgpmheaa.Rc Go.Proofs.Ytofealdlgpmheaa.Rq
set_option maxRecDepth 100000 in
theorem eql_ref_self (p : Nat) (t : ByteArray) (w : World) : (binOp .eql 25 (.agg #[.int .u32 (p : Int), .string t]) (.agg #[.int .u32 (p : Int), .string t])).run Try.prog w = .ok (.bool true) w := by
  have hS : Try.prog.underlying 25 = some (.struct (Try.prog.fieldsOf 25)) := by kernel_rfl
  have hp : Try.prog.stoodInHeld 25 = false := by kernel_rfl
  have u2 := Try.underlying23
  have u9 := Try.underlying9
  rw [run_eql_struct, show (10000 : Nat) = 9999 + 1 from rfl, run_equalIn_agg w 9999 25 _ _ hS hp]
  simp only [Program.fieldsOf, Try.underlying25]
  clear hS hp
  go_simp
set_option maxRecDepth 100000 in
theorem nx_no {c g : Nat} {i : Int} {p : Nat} {t : ByteArray} (h : nxE c g i p t ≠ 0) : nxR c g i p t = zeroR := by
  unfold nxE at h
  unfold nxR
  split
  · rfl
  · rename_i h1
    rw [if_neg h1] at h
    split
    · rfl
    · rename_i h2
      rw [if_neg h2] at h
      split
      · rename_i h3
        rw [if_pos h3] at h
        exact absurd rfl h
      · rfl
set_option maxRecDepth 100000 in
theorem nx_yes {c g : Nat} {i : Int} {p : Nat} {t : ByteArray} (h : nxE c g i p t = 0) : c ≠ 18446744073709551615 ∧ (0 ≤ i ∧ i ≤ 1000) ∧ rrt ⟨c + 1, g, i.toNat, p, t⟩ = true ∧ nxR c g i p t = ⟨c + 1, g, i.toNat, p, t⟩ := by
  unfold nxE at h
  by_cases h1 : c = 18446744073709551615
  · rw [if_pos h1] at h; exact absurd h (by decide)
  · by_cases h2 : i < 0 ∨ 1000 < i
    · rw [if_neg h1, if_pos h2] at h; exact absurd h (by decide)
    · by_cases h3 : rrt ⟨c + 1, g, i.toNat, p, t⟩ = true
      · refine ⟨h1, by omega, h3, ?_⟩
        unfold nxR
        rw [if_neg h1, if_neg h2, if_pos h3]
      · rw [if_neg h1, if_neg h2, if_neg h3] at h; exact absurd h (by decide)
set_option maxRecDepth 100000 in
set_option maxHeartbeats 8000000 in
theorem rootTurns_no (r : Rt) (g : Nat) (i : Int) (p : Nat) (t : ByteArray) (hr : okR r) (w : World) (h0 : nxE r.c g i p t ≠ 0) : Calls Try.prog 7 #[rtv r, .int .u32 (g : Int), .int .i64 i, rfv p t] w fun e w' => e = .returned (.bool true) ∧ Below w.heap.size w w' := by
  have HSH : Hid (∀ W : World, _) := shown_any
  have h1 : ∀ W : World, _ := fun W => rNext_any r.c g i p t W hr.1
  unfold NP at h1
  have hz : eqR (nxR r.c g i p t) zeroR = true := by rw [nx_no h0]; exact zeroR_is
  have m2 := fun W => eql_root (nxR r.c g i p t) zeroR W
  rw [hz] at m2
  have e0 : rtv zeroR = .agg #[.int .u64 0, .int .u32 0, .int .u32 0, .int .u32 0, .string ⟨#[]⟩] := rfl
  rw [e0] at m2
  obtain ⟨E, hE⟩ : ∃ x, nxE r.c g i p t = x := ⟨_, rfl⟩
  rw [hE] at h1 h0
  obtain ⟨R, hR⟩ : ∃ x, nxR r.c g i p t = x := ⟨_, rfl⟩
  rw [hR] at h1 m2
  have q1 : (E != 0) = true := by simpa using h0
  obtain ⟨ac, ag, an, ap, at_⟩ := r
  obtain ⟨dc, dg, dn, dp, dt_⟩ := R
  have H1 : Hid (∀ W : World, _) := h1
  clear h1 hz e0 hE hR h0 hr
  obtain ⟨W1, hW1⟩ : ∃ W, w.alloc (.cells #[.int .u64 (ac : Int), .int .u32 (ag : Int), .int .u32 (an : Int), .int .u32 (ap : Int), .string at_] 27) = W := ⟨_, rfl⟩
  have hb1 := below_new w (.cells #[.int .u64 (ac : Int), .int .u32 (ag : Int), .int .u32 (an : Int), .int .u32 (ap : Int), .string at_] 27)
  have hg1 := heap_alloc_new w (.cells #[.int .u64 (ac : Int), .int .u32 (ag : Int), .int .u32 (an : Int), .int .u32 (ap : Int), .string at_] 27)
  rw [hW1] at hb1 hg1
  have HW1 : Hid _ := hW1
  have HB1 : Hid (Below w.heap.size w W1) := hb1
  have HA1 : Hid (W1.heap[w.heap.size]? = some (.cells #[.int .u64 (ac : Int), .int .u32 (ag : Int), .int .u32 (an : Int), .int .u32 (ap : Int), .string at_] 27 (0, 0))) := hg1
  clear hb1 hg1 hW1
  obtain ⟨W2, hW2⟩ : ∃ W, W1.alloc (.cells #[.int .u32 (p : Int), .string t] 25) = W := ⟨_, rfl⟩
  have hb2 := below_new W1 (.cells #[.int .u32 (p : Int), .string t] 25)
  have hg2 := heap_alloc_new W1 (.cells #[.int .u32 (p : Int), .string t] 25)
  rw [hW2] at hb2 hg2
  have HW2 : Hid _ := hW2
  have HA2 : Hid (W2.heap[w.heap.size]? = some (.cells #[.int .u64 (ac : Int), .int .u32 (ag : Int), .int .u32 (an : Int), .int .u32 (ap : Int), .string at_] 27 (0, 0))) := (hb2.block _ (Array.getElem?_eq_some_iff.1 HA1.out).1).trans HA1.out
  have HB2 : Hid (Below w.heap.size w W2) := HB1.out.trans (hb2.mono HB1.out.size)
  have hs2 : W1.heap.size = w.heap.size + 1 := by rw [← HW1.out]; simp
  rw [hs2] at hg2
  clear hs2
  have HT2 : Hid (W2.heap[w.heap.size + 1]? = some (.cells #[.int .u32 (p : Int), .string t] 25 (0, 0))) := hg2
  clear hb2 hg2 hW2
  go_enter Try.func7, Try.ntmps7
  go_wp2_with fail
  rw [HW1.out, HW2.out]
  refine (HSH.out W2).mono ?_
  rintro e w3 ⟨rfl, b3⟩
  have HA3 : Hid (w3.heap[w.heap.size]? = some (.cells #[.int .u64 (ac : Int), .int .u32 (ag : Int), .int .u32 (an : Int), .int .u32 (ap : Int), .string at_] 27 (0, 0))) := (b3.block _ (Array.getElem?_eq_some_iff.1 HA2.out).1).trans HA2.out
  have HT3 : Hid (w3.heap[w.heap.size + 1]? = some (.cells #[.int .u32 (p : Int), .string t] 25 (0, 0))) := (b3.block _ (Array.getElem?_eq_some_iff.1 HT2.out).1).trans HT2.out
  have HB3 : Hid (Below w.heap.size w w3) := HB2.out.trans (b3.mono HB2.out.size)
  clear b3
  have fA0 : w3.cell? ⟨w.heap.size, 0, none⟩ = some (.int .u64 (ac : Int)) := by rw [cell_of_row _ _ _ _ _ _ HA3.out]; rfl
  have fA1 : w3.cell? ⟨w.heap.size, 1, none⟩ = some (.int .u32 (ag : Int)) := by rw [cell_of_row _ _ _ _ _ _ HA3.out]; rfl
  have fA2 : w3.cell? ⟨w.heap.size, 2, none⟩ = some (.int .u32 (an : Int)) := by rw [cell_of_row _ _ _ _ _ _ HA3.out]; rfl
  have fA3 : w3.cell? ⟨w.heap.size, 3, none⟩ = some (.int .u32 (ap : Int)) := by rw [cell_of_row _ _ _ _ _ _ HA3.out]; rfl
  have fA4 : w3.cell? ⟨w.heap.size, 4, none⟩ = some (.string at_) := by rw [cell_of_row _ _ _ _ _ _ HA3.out]; rfl
  have fT0 : w3.cell? ⟨w.heap.size + 1, 0, none⟩ = some (.int .u32 (p : Int)) := by rw [cell_of_row _ _ _ _ _ _ HT3.out]; rfl
  have fT1 : w3.cell? ⟨w.heap.size + 1, 1, none⟩ = some (.string t) := by rw [cell_of_row _ _ _ _ _ _ HT3.out]; rfl
  go_wp2_with fail
  clear fA0 fA1 fA2 fA3 fA4
  clear fT0 fT1
  refine (H1.out w3).mono ?_
  rintro e w4 ⟨rfl, b4⟩
  have HA4 : Hid (w4.heap[w.heap.size]? = some (.cells #[.int .u64 (ac : Int), .int .u32 (ag : Int), .int .u32 (an : Int), .int .u32 (ap : Int), .string at_] 27 (0, 0))) := (b4.block _ (Array.getElem?_eq_some_iff.1 HA3.out).1).trans HA3.out
  have HT4 : Hid (w4.heap[w.heap.size + 1]? = some (.cells #[.int .u32 (p : Int), .string t] 25 (0, 0))) := (b4.block _ (Array.getElem?_eq_some_iff.1 HT3.out).1).trans HT3.out
  have HB4 : Hid (Below w.heap.size w w4) := HB3.out.trans (b4.mono HB3.out.size)
  clear b4
  obtain ⟨W5, hW5⟩ : ∃ W, w4.alloc (.cells #[.int .u64 (dc : Int), .int .u32 (dg : Int), .int .u32 (dn : Int), .int .u32 (dp : Int), .string dt_] 27) = W := ⟨_, rfl⟩
  have hb5 := below_new w4 (.cells #[.int .u64 (dc : Int), .int .u32 (dg : Int), .int .u32 (dn : Int), .int .u32 (dp : Int), .string dt_] 27)
  have hg5 := heap_alloc_new w4 (.cells #[.int .u64 (dc : Int), .int .u32 (dg : Int), .int .u32 (dn : Int), .int .u32 (dp : Int), .string dt_] 27)
  rw [hW5] at hb5 hg5
  have HW5 : Hid _ := hW5
  have HA5 : Hid (W5.heap[w.heap.size]? = some (.cells #[.int .u64 (ac : Int), .int .u32 (ag : Int), .int .u32 (an : Int), .int .u32 (ap : Int), .string at_] 27 (0, 0))) := (hb5.block _ (Array.getElem?_eq_some_iff.1 HA4.out).1).trans HA4.out
  have HT5 : Hid (W5.heap[w.heap.size + 1]? = some (.cells #[.int .u32 (p : Int), .string t] 25 (0, 0))) := (hb5.block _ (Array.getElem?_eq_some_iff.1 HT4.out).1).trans HT4.out
  have HB5 : Hid (Below w.heap.size w W5) := HB4.out.trans (hb5.mono HB4.out.size)
  have HD5 : Hid (W5.heap[w4.heap.size]? = some (.cells #[.int .u64 (dc : Int), .int .u32 (dg : Int), .int .u32 (dn : Int), .int .u32 (dp : Int), .string dt_] 27 (0, 0))) := hg5
  clear hb5 hg5 hW5
  have fD0 : W5.cell? ⟨w4.heap.size, 0, none⟩ = some (.int .u64 (dc : Int)) := by rw [cell_of_row _ _ _ _ _ _ HD5.out]; rfl
  have fD1 : W5.cell? ⟨w4.heap.size, 1, none⟩ = some (.int .u32 (dg : Int)) := by rw [cell_of_row _ _ _ _ _ _ HD5.out]; rfl
  have fD2 : W5.cell? ⟨w4.heap.size, 2, none⟩ = some (.int .u32 (dn : Int)) := by rw [cell_of_row _ _ _ _ _ _ HD5.out]; rfl
  have fD3 : W5.cell? ⟨w4.heap.size, 3, none⟩ = some (.int .u32 (dp : Int)) := by rw [cell_of_row _ _ _ _ _ _ HD5.out]; rfl
  have fD4 : W5.cell? ⟨w4.heap.size, 4, none⟩ = some (.string dt_) := by rw [cell_of_row _ _ _ _ _ _ HD5.out]; rfl
  go_wp2_with (first | (rw [HW5.out]; clear HW5))
  go_ret
  exact ⟨rfl, HB5.out⟩
set_option maxRecDepth 100000 in
set_option maxHeartbeats 8000000 in
theorem rootTurns_yes (r : Rt) (g : Nat) (i : Int) (p : Nat) (t : ByteArray) (hr : okR r) (w : World) (h0 : nxE r.c g i p t = 0) : Calls Try.prog 7 #[rtv r, .int .u32 (g : Int), .int .i64 i, rfv p t] w fun e w' => e = .returned (.bool true) ∧ Below w.heap.size w w' := by
  have HSH : Hid (∀ W : World, _) := shown_any
  have h1 : ∀ W : World, _ := fun W => rNext_any r.c g i p t W hr.1
  unfold NP at h1
  obtain ⟨hc, hi, hR, hX⟩ := nx_yes h0
  rw [h0, hX] at h1
  obtain ⟨n, rfl⟩ : ∃ n : Nat, i = (n : Int) := ⟨i.toNat, by omega⟩
  rw [Int.toNat_natCast] at h1 hR
  obtain ⟨k, hk⟩ : ∃ k, r.c + 1 = k := ⟨_, rfl⟩
  have hrc := hr.1
  rw [hk] at h1 hR
  have h3 := right_any ⟨k, g, n, p, t⟩
  rw [hR] at h3
  have h4 := slot_any k
  have h5 := slot_any r.c
  obtain ⟨x, hx⟩ : ∃ x, k % 2 = x := ⟨_, rfl⟩
  obtain ⟨y, hy⟩ : ∃ y, r.c % 2 = y := ⟨_, rfl⟩
  have q1 : ((x : Int) != (y : Int)) = true := by simp; omega
  have q2 : (x : Int) ≤ 1 := by omega
  rw [hx] at h4
  rw [hy] at h5
  obtain ⟨ac, ag, an, ap, at_⟩ := r
  simp only at hk h1 h5 hrc hc
  have q3 : IntKind.u64.wrap ((ac : Int) + 1) = (k : Int) := by rw [IntKind.wrap_u64]; omega
  have m1 := eql_ref_self p t
  have H1 : Hid (∀ W : World, Calls Try.prog 18 #[.int .u64 (ac : Int), .int .u32 (g : Int), .int .i64 (n : Int), rfv p t] W fun e w' => e = .returned (.tuple #[.agg #[.int .u64 (k : Int), .int .u32 (g : Int), .int .u32 (n : Int), .int .u32 (p : Int), .string t], .int .i64 0]) ∧ Below W.heap.size W w') := h1
  have H3 : Hid (∀ W : World, _) := h3
  have H4 : Hid (∀ W : World, _) := h4
  have H5 : Hid (∀ W : World, _) := h5
  have Q3 : Hid _ := q3
  clear h1 h3 h4 h5 hc hi hR hX hk hx hy hr hrc h0 q3
  obtain ⟨W1, hW1⟩ : ∃ W, w.alloc (.cells #[.int .u64 (ac : Int), .int .u32 (ag : Int), .int .u32 (an : Int), .int .u32 (ap : Int), .string at_] 27) = W := ⟨_, rfl⟩
  have hb1 := below_new w (.cells #[.int .u64 (ac : Int), .int .u32 (ag : Int), .int .u32 (an : Int), .int .u32 (ap : Int), .string at_] 27)
  have hg1 := heap_alloc_new w (.cells #[.int .u64 (ac : Int), .int .u32 (ag : Int), .int .u32 (an : Int), .int .u32 (ap : Int), .string at_] 27)
  rw [hW1] at hb1 hg1
  have HW1 : Hid _ := hW1
  have HB1 : Hid (Below w.heap.size w W1) := hb1
  have HA1 : Hid (W1.heap[w.heap.size]? = some (.cells #[.int .u64 (ac : Int), .int .u32 (ag : Int), .int .u32 (an : Int), .int .u32 (ap : Int), .string at_] 27 (0, 0))) := hg1
  clear hb1 hg1 hW1
  obtain ⟨W2, hW2⟩ : ∃ W, W1.alloc (.cells #[.int .u32 (p : Int), .string t] 25) = W := ⟨_, rfl⟩
  have hb2 := below_new W1 (.cells #[.int .u32 (p : Int), .string t] 25)
  have hg2 := heap_alloc_new W1 (.cells #[.int .u32 (p : Int), .string t] 25)
  rw [hW2] at hb2 hg2
  have HW2 : Hid _ := hW2
  have HA2 : Hid (W2.heap[w.heap.size]? = some (.cells #[.int .u64 (ac : Int), .int .u32 (ag : Int), .int .u32 (an : Int), .int .u32 (ap : Int), .string at_] 27 (0, 0))) := (hb2.block _ (Array.getElem?_eq_some_iff.1 HA1.out).1).trans HA1.out
  have HB2 : Hid (Below w.heap.size w W2) := HB1.out.trans (hb2.mono HB1.out.size)
  have hs2 : W1.heap.size = w.heap.size + 1 := by rw [← HW1.out]; simp
  rw [hs2] at hg2
  clear hs2
  have HT2 : Hid (W2.heap[w.heap.size + 1]? = some (.cells #[.int .u32 (p : Int), .string t] 25 (0, 0))) := hg2
  clear hb2 hg2 hW2
  go_enter Try.func7, Try.ntmps7
  go_wp2_with fail
  rw [HW1.out, HW2.out]
  refine (HSH.out W2).mono ?_
  rintro e w3 ⟨rfl, b3⟩
  have HA3 : Hid (w3.heap[w.heap.size]? = some (.cells #[.int .u64 (ac : Int), .int .u32 (ag : Int), .int .u32 (an : Int), .int .u32 (ap : Int), .string at_] 27 (0, 0))) := (b3.block _ (Array.getElem?_eq_some_iff.1 HA2.out).1).trans HA2.out
  have HT3 : Hid (w3.heap[w.heap.size + 1]? = some (.cells #[.int .u32 (p : Int), .string t] 25 (0, 0))) := (b3.block _ (Array.getElem?_eq_some_iff.1 HT2.out).1).trans HT2.out
  have HB3 : Hid (Below w.heap.size w w3) := HB2.out.trans (b3.mono HB2.out.size)
  clear b3
  have fA0 : w3.cell? ⟨w.heap.size, 0, none⟩ = some (.int .u64 (ac : Int)) := by rw [cell_of_row _ _ _ _ _ _ HA3.out]; rfl
  have fA1 : w3.cell? ⟨w.heap.size, 1, none⟩ = some (.int .u32 (ag : Int)) := by rw [cell_of_row _ _ _ _ _ _ HA3.out]; rfl
  have fA2 : w3.cell? ⟨w.heap.size, 2, none⟩ = some (.int .u32 (an : Int)) := by rw [cell_of_row _ _ _ _ _ _ HA3.out]; rfl
  have fA3 : w3.cell? ⟨w.heap.size, 3, none⟩ = some (.int .u32 (ap : Int)) := by rw [cell_of_row _ _ _ _ _ _ HA3.out]; rfl
  have fA4 : w3.cell? ⟨w.heap.size, 4, none⟩ = some (.string at_) := by rw [cell_of_row _ _ _ _ _ _ HA3.out]; rfl
  have fT0 : w3.cell? ⟨w.heap.size + 1, 0, none⟩ = some (.int .u32 (p : Int)) := by rw [cell_of_row _ _ _ _ _ _ HT3.out]; rfl
  have fT1 : w3.cell? ⟨w.heap.size + 1, 1, none⟩ = some (.string t) := by rw [cell_of_row _ _ _ _ _ _ HT3.out]; rfl
  go_wp2_with fail
  clear fA0 fA1 fA2 fA3 fA4
  clear fT0 fT1
  refine (H1.out w3).mono ?_
  rintro e w4 ⟨rfl, b4⟩
  have HA4 : Hid (w4.heap[w.heap.size]? = some (.cells #[.int .u64 (ac : Int), .int .u32 (ag : Int), .int .u32 (an : Int), .int .u32 (ap : Int), .string at_] 27 (0, 0))) := (b4.block _ (Array.getElem?_eq_some_iff.1 HA3.out).1).trans HA3.out
  have HT4 : Hid (w4.heap[w.heap.size + 1]? = some (.cells #[.int .u32 (p : Int), .string t] 25 (0, 0))) := (b4.block _ (Array.getElem?_eq_some_iff.1 HT3.out).1).trans HT3.out
  have HB4 : Hid (Below w.heap.size w w4) := HB3.out.trans (b4.mono HB3.out.size)
  clear b4
  obtain ⟨W5, hW5⟩ : ∃ W, w4.alloc (.cells #[.int .u64 (k : Int), .int .u32 (g : Int), .int .u32 (n : Int), .int .u32 (p : Int), .string t] 27) = W := ⟨_, rfl⟩
  have hb5 := below_new w4 (.cells #[.int .u64 (k : Int), .int .u32 (g : Int), .int .u32 (n : Int), .int .u32 (p : Int), .string t] 27)
  have hg5 := heap_alloc_new w4 (.cells #[.int .u64 (k : Int), .int .u32 (g : Int), .int .u32 (n : Int), .int .u32 (p : Int), .string t] 27)
  rw [hW5] at hb5 hg5
  have HW5 : Hid _ := hW5
  have HA5 : Hid (W5.heap[w.heap.size]? = some (.cells #[.int .u64 (ac : Int), .int .u32 (ag : Int), .int .u32 (an : Int), .int .u32 (ap : Int), .string at_] 27 (0, 0))) := (hb5.block _ (Array.getElem?_eq_some_iff.1 HA4.out).1).trans HA4.out
  have HT5 : Hid (W5.heap[w.heap.size + 1]? = some (.cells #[.int .u32 (p : Int), .string t] 25 (0, 0))) := (hb5.block _ (Array.getElem?_eq_some_iff.1 HT4.out).1).trans HT4.out
  have HB5 : Hid (Below w.heap.size w W5) := HB4.out.trans (hb5.mono HB4.out.size)
  have HD5 : Hid (W5.heap[w4.heap.size]? = some (.cells #[.int .u64 (k : Int), .int .u32 (g : Int), .int .u32 (n : Int), .int .u32 (p : Int), .string t] 27 (0, 0))) := hg5
  clear hb5 hg5 hW5
  go_wp2_with fail
  rw [HW5.out]
  clear HW5
  have HB9 : Hid (Below w.heap.size w W5.drew) := HB5.out.drew
  have HA9 : Hid (W5.drew.heap[w.heap.size]? = some (.cells #[.int .u64 (ac : Int), .int .u32 (ag : Int), .int .u32 (an : Int), .int .u32 (ap : Int), .string at_] 27 (0, 0))) := HA5.out
  have HT9 : Hid (W5.drew.heap[w.heap.size + 1]? = some (.cells #[.int .u32 (p : Int), .string t] 25 (0, 0))) := HT5.out
  have HD9 : Hid (W5.drew.heap[w4.heap.size]? = some (.cells #[.int .u64 (k : Int), .int .u32 (g : Int), .int .u32 (n : Int), .int .u32 (p : Int), .string t] 27 (0, 0))) := HD5.out
  have HST : Hid (∀ W : World, W.heap[w.heap.size]? = some (.cells #[.int .u64 (ac : Int), .int .u32 (ag : Int), .int .u32 (an : Int), .int .u32 (ap : Int), .string at_] 27 (0, 0)) → W.heap[w.heap.size + 1]? = some (.cells #[.int .u32 (p : Int), .string t] 25 (0, 0)) → W.heap[w4.heap.size]? = some (.cells #[.int .u64 (k : Int), .int .u32 (g : Int), .int .u32 (n : Int), .int .u32 (p : Int), .string t] 27 (0, 0)) → (W.cell? ⟨w.heap.size, 0, none⟩ = some (.int .u64 (ac : Int)) ∧ W.cell? ⟨w.heap.size, 1, none⟩ = some (.int .u32 (ag : Int)) ∧ W.cell? ⟨w.heap.size, 2, none⟩ = some (.int .u32 (an : Int)) ∧ W.cell? ⟨w.heap.size, 3, none⟩ = some (.int .u32 (ap : Int)) ∧ W.cell? ⟨w.heap.size, 4, none⟩ = some (.string at_) ∧ W.cell? ⟨w.heap.size + 1, 0, none⟩ = some (.int .u32 (p : Int)) ∧ W.cell? ⟨w.heap.size + 1, 1, none⟩ = some (.string t) ∧ W.cell? ⟨w4.heap.size, 0, none⟩ = some (.int .u64 (k : Int)) ∧ W.cell? ⟨w4.heap.size, 1, none⟩ = some (.int .u32 (g : Int)) ∧ W.cell? ⟨w4.heap.size, 2, none⟩ = some (.int .u32 (n : Int)) ∧ W.cell? ⟨w4.heap.size, 3, none⟩ = some (.int .u32 (p : Int)) ∧ W.cell? ⟨w4.heap.size, 4, none⟩ = some (.string t))) := fun W h1 h2 h3 => by
    obtain ⟨⟨a0, a1, a2, a3, a4⟩, -⟩ := root_facts h1
    obtain ⟨⟨d0, d1, d2, d3, d4⟩, -⟩ := root_facts h3
    exact ⟨a0, a1, a2, a3, a4, by rw [cell_of_row _ _ _ _ _ _ h2]; rfl, by rw [cell_of_row _ _ _ _ _ _ h2]; rfl, d0, d1, d2, d3, d4⟩
  have HSW : Hid _ := HST.out _ HA9.out HT9.out HD9.out
  refine wp_region_held (S := fun u => u.cell? ⟨w.heap.size, 0, none⟩ = some (.int .u64 (ac : Int)) ∧ u.cell? ⟨w.heap.size, 1, none⟩ = some (.int .u32 (ag : Int)) ∧ u.cell? ⟨w.heap.size, 2, none⟩ = some (.int .u32 (an : Int)) ∧ u.cell? ⟨w.heap.size, 3, none⟩ = some (.int .u32 (ap : Int)) ∧ u.cell? ⟨w.heap.size, 4, none⟩ = some (.string at_) ∧ u.cell? ⟨w.heap.size + 1, 0, none⟩ = some (.int .u32 (p : Int)) ∧ u.cell? ⟨w.heap.size + 1, 1, none⟩ = some (.string t) ∧ u.cell? ⟨w4.heap.size, 0, none⟩ = some (.int .u64 (k : Int)) ∧ u.cell? ⟨w4.heap.size, 1, none⟩ = some (.int .u32 (g : Int)) ∧ u.cell? ⟨w4.heap.size, 2, none⟩ = some (.int .u32 (n : Int)) ∧ u.cell? ⟨w4.heap.size, 3, none⟩ = some (.int .u32 (p : Int)) ∧ u.cell? ⟨w4.heap.size, 4, none⟩ = some (.string t)) (by kernel_rfl) ?_
  change wpAnyH _ _ _ _ _ _ _ _ (World.drew _)
  refine wpAnyH_take (i := 0) (v := ?_) rfl (by kernel_rfl) (by kernel_rfl) (by kernel_rfl) (fun _ _ _ h => h) (Or.inl ⟨by kernel_rfl, ?_⟩) HSW.out ?_
  rotate_left
  · intro w hS
    obtain ⟨s0, s1, s2, s3, s4, s5, s6, s7, s8, s9, s10, s11⟩ := hS
    go_simp
    try with_reducible rfl
  conv in (Act.put _ _ _) => simp only [List.getElem_toArray, List.getElem_cons_succ, List.getElem_cons_zero, Act.put, List.setIfInBounds_toArray, List.set_cons_succ, List.set_cons_zero]
  refine wpAnyH_take (i := 1) (v := ?_) rfl (by kernel_rfl) (by kernel_rfl) (by kernel_rfl) (fun _ _ _ h => h) (Or.inl ⟨by kernel_rfl, ?_⟩) HSW.out ?_
  rotate_left
  · intro w hS
    obtain ⟨s0, s1, s2, s3, s4, s5, s6, s7, s8, s9, s10, s11⟩ := hS
    go_simp
    try with_reducible rfl
  conv in (Act.put _ _ _) => simp only [List.getElem_toArray, List.getElem_cons_succ, List.getElem_cons_zero, Act.put, List.setIfInBounds_toArray, List.set_cons_succ, List.set_cons_zero]
  refine wpAnyH_take (i := 2) (v := ?_) rfl (by kernel_rfl) (by kernel_rfl) (by kernel_rfl) (fun _ _ _ h => h) (Or.inl ⟨by kernel_rfl, ?_⟩) HSW.out ?_
  rotate_left
  · intro w hS
    obtain ⟨s0, s1, s2, s3, s4, s5, s6, s7, s8, s9, s10, s11⟩ := hS
    go_simp
    try with_reducible rfl
  conv in (Act.put _ _ _) => simp only [List.getElem_toArray, List.getElem_cons_succ, List.getElem_cons_zero, Act.put, List.setIfInBounds_toArray, List.set_cons_succ, List.set_cons_zero]
  refine wpAnyH_take (i := 3) (v := ?_) rfl (by kernel_rfl) (by kernel_rfl) (by kernel_rfl) (fun _ _ _ h => h) (Or.inl ⟨by kernel_rfl, ?_⟩) HSW.out ?_
  rotate_left
  · intro w hS
    obtain ⟨s0, s1, s2, s3, s4, s5, s6, s7, s8, s9, s10, s11⟩ := hS
    go_simp
    try with_reducible rfl
  conv in (Act.put _ _ _) => simp only [List.getElem_toArray, List.getElem_cons_succ, List.getElem_cons_zero, Act.put, List.setIfInBounds_toArray, List.set_cons_succ, List.set_cons_zero]
  refine wpAnyH_take (i := 4) (v := ?_) rfl (by kernel_rfl) (by kernel_rfl) (by kernel_rfl) (fun _ _ _ h => h) (Or.inl ⟨by kernel_rfl, ?_⟩) HSW.out ?_
  rotate_left
  · intro w hS
    obtain ⟨s0, s1, s2, s3, s4, s5, s6, s7, s8, s9, s10, s11⟩ := hS
    go_simp
    try with_reducible rfl
  conv in (Act.put _ _ _) => simp only [List.getElem_toArray, List.getElem_cons_succ, List.getElem_cons_zero, Act.put, List.setIfInBounds_toArray, List.set_cons_succ, List.set_cons_zero]
  refine wpAnyH_take (i := 5) (v := ?_) rfl (by kernel_rfl) (by kernel_rfl) (by kernel_rfl) (fun _ _ _ h => h) (Or.inl ⟨by kernel_rfl, ?_⟩) HSW.out ?_
  rotate_left
  · intro w hS
    obtain ⟨s0, s1, s2, s3, s4, s5, s6, s7, s8, s9, s10, s11⟩ := hS
    go_simp
    try with_reducible rfl
  conv in (Act.put _ _ _) => simp only [List.getElem_toArray, List.getElem_cons_succ, List.getElem_cons_zero, Act.put, List.setIfInBounds_toArray, List.set_cons_succ, List.set_cons_zero]
  refine wpAnyH_take (i := 6) (v := .int .u64 (k : Int)) rfl (by kernel_rfl) (by kernel_rfl) (by kernel_rfl) (fun _ _ _ h => h) (Or.inl ⟨by kernel_rfl, ?_⟩) HSW.out ?_
  · intro w hS
    go_simp
    exact Q3.out
  conv in (Act.put _ _ _) => simp only [List.getElem_toArray, List.getElem_cons_succ, List.getElem_cons_zero, Act.put, List.setIfInBounds_toArray, List.set_cons_succ, List.set_cons_zero]
  refine wpAnyH_take (i := 7) (v := ?_) rfl (by kernel_rfl) (by kernel_rfl) (by kernel_rfl) (fun _ _ _ h => h) (Or.inl ⟨by kernel_rfl, ?_⟩) HSW.out ?_
  rotate_left
  · intro w hS
    obtain ⟨s0, s1, s2, s3, s4, s5, s6, s7, s8, s9, s10, s11⟩ := hS
    go_simp
    try with_reducible rfl
  conv in (Act.put _ _ _) => simp only [List.getElem_toArray, List.getElem_cons_succ, List.getElem_cons_zero, Act.put, List.setIfInBounds_toArray, List.set_cons_succ, List.set_cons_zero]
  refine wpAnyH_take (i := 8) (v := ?_) rfl (by kernel_rfl) (by kernel_rfl) (by kernel_rfl) (fun _ _ _ h => h) (Or.inl ⟨by kernel_rfl, ?_⟩) HSW.out ?_
  rotate_left
  · intro w hS
    obtain ⟨s0, s1, s2, s3, s4, s5, s6, s7, s8, s9, s10, s11⟩ := hS
    go_simp
    try with_reducible rfl
  conv in (Act.put _ _ _) => simp only [List.getElem_toArray, List.getElem_cons_succ, List.getElem_cons_zero, Act.put, List.setIfInBounds_toArray, List.set_cons_succ, List.set_cons_zero]
  refine wpAnyH_take (i := 9) (v := ?_) rfl (by kernel_rfl) (by kernel_rfl) (by kernel_rfl) (fun _ _ _ h => h) (Or.inl ⟨by kernel_rfl, ?_⟩) HSW.out ?_
  rotate_left
  · intro w hS
    obtain ⟨s0, s1, s2, s3, s4, s5, s6, s7, s8, s9, s10, s11⟩ := hS
    go_simp
    try with_reducible rfl
  conv in (Act.put _ _ _) => simp only [List.getElem_toArray, List.getElem_cons_succ, List.getElem_cons_zero, Act.put, List.setIfInBounds_toArray, List.set_cons_succ, List.set_cons_zero]
  refine wpAnyH_take (i := 10) (v := ?_) rfl (by kernel_rfl) (by kernel_rfl) (by kernel_rfl) (fun _ _ _ h => h) (Or.inl ⟨by kernel_rfl, ?_⟩) HSW.out ?_
  rotate_left
  · intro w hS
    obtain ⟨s0, s1, s2, s3, s4, s5, s6, s7, s8, s9, s10, s11⟩ := hS
    go_simp
    try with_reducible rfl
  conv in (Act.put _ _ _) => simp only [List.getElem_toArray, List.getElem_cons_succ, List.getElem_cons_zero, Act.put, List.setIfInBounds_toArray, List.set_cons_succ, List.set_cons_zero]
  refine wpAnyH_take (i := 11) (v := ?_) rfl (by kernel_rfl) (by kernel_rfl) (by kernel_rfl) (fun _ _ _ h => h) (Or.inl ⟨by kernel_rfl, ?_⟩) HSW.out ?_
  rotate_left
  · intro w hS
    obtain ⟨s0, s1, s2, s3, s4, s5, s6, s7, s8, s9, s10, s11⟩ := hS
    go_simp
    try with_reducible rfl
  conv in (Act.put _ _ _) => simp only [List.getElem_toArray, List.getElem_cons_succ, List.getElem_cons_zero, Act.put, List.setIfInBounds_toArray, List.set_cons_succ, List.set_cons_zero]
  refine wpAnyH_take (i := 13) (v := ?_) rfl (by kernel_rfl) (by kernel_rfl) (by kernel_rfl) (fun _ _ _ h => h) (Or.inl ⟨by kernel_rfl, ?_⟩) HSW.out ?_
  rotate_left
  · intro w hS
    obtain ⟨s0, s1, s2, s3, s4, s5, s6, s7, s8, s9, s10, s11⟩ := hS
    go_simp
    try with_reducible rfl
  conv in (Act.put _ _ _) => simp only [List.getElem_toArray, List.getElem_cons_succ, List.getElem_cons_zero, Act.put, List.setIfInBounds_toArray, List.set_cons_succ, List.set_cons_zero]
  refine wpAnyH_take (i := 14) (v := ?_) rfl (by kernel_rfl) (by kernel_rfl) (by kernel_rfl) (fun _ _ _ h => h) (Or.inl ⟨by kernel_rfl, ?_⟩) HSW.out ?_
  rotate_left
  · intro w hS
    obtain ⟨s0, s1, s2, s3, s4, s5, s6, s7, s8, s9, s10, s11⟩ := hS
    go_simp
    try with_reducible rfl
  conv in (Act.put _ _ _) => simp only [List.getElem_toArray, List.getElem_cons_succ, List.getElem_cons_zero, Act.put, List.setIfInBounds_toArray, List.set_cons_succ, List.set_cons_zero]
  refine readyH 12 _ (by kernel_rfl) rfl (by kernel_rfl) (fun K hK => ?_)
  go_simp
  refine (H4.out _).mono ?_
  rintro e y ⟨rfl, rfl⟩
  refine hK _ _ HSW.out ?_
  clear hK K
  refine readyH 15 _ (by kernel_rfl) rfl (by kernel_rfl) (fun K hK => ?_)
  go_simp
  refine (H5.out _).mono ?_
  rintro e y ⟨rfl, rfl⟩
  refine hK _ _ HSW.out ?_
  clear hK K
  refine wpAnyH_take (i := 16) (v := ?_) rfl (by kernel_rfl) (by kernel_rfl) (by kernel_rfl) (fun _ _ _ h => h) (Or.inl ⟨by kernel_rfl, ?_⟩) HSW.out ?_
  rotate_left
  · intro w hS
    obtain ⟨s0, s1, s2, s3, s4, s5, s6, s7, s8, s9, s10, s11⟩ := hS
    go_simp
    try with_reducible rfl
  conv in (Act.put _ _ _) => simp only [List.getElem_toArray, List.getElem_cons_succ, List.getElem_cons_zero, Act.put, List.setIfInBounds_toArray, List.set_cons_succ, List.set_cons_zero]
  refine wpAnyH_take (i := 17) (v := ?_) rfl (by kernel_rfl) (by kernel_rfl) (by kernel_rfl) (fun _ _ _ h => h) (Or.inl ⟨by kernel_rfl, ?_⟩) HSW.out ?_
  rotate_left
  · intro w hS
    obtain ⟨s0, s1, s2, s3, s4, s5, s6, s7, s8, s9, s10, s11⟩ := hS
    go_simp
    try with_reducible rfl
  conv in (Act.put _ _ _) => simp only [List.getElem_toArray, List.getElem_cons_succ, List.getElem_cons_zero, Act.put, List.setIfInBounds_toArray, List.set_cons_succ, List.set_cons_zero]
  refine wpAnyH_take (i := 18) (v := ?_) rfl (by kernel_rfl) (by kernel_rfl) (by kernel_rfl) (fun _ _ _ h => h) (Or.inl ⟨by kernel_rfl, ?_⟩) HSW.out ?_
  rotate_left
  · intro w hS
    obtain ⟨s0, s1, s2, s3, s4, s5, s6, s7, s8, s9, s10, s11⟩ := hS
    go_simp
    try with_reducible rfl
  conv in (Act.put _ _ _) => simp only [List.getElem_toArray, List.getElem_cons_succ, List.getElem_cons_zero, Act.put, List.setIfInBounds_toArray, List.set_cons_succ, List.set_cons_zero]
  refine wpAnyH_take (i := 19) (v := ?_) rfl (by kernel_rfl) (by kernel_rfl) (by kernel_rfl) (fun _ _ _ h => h) (Or.inl ⟨by kernel_rfl, ?_⟩) HSW.out ?_
  rotate_left
  · intro w hS
    obtain ⟨s0, s1, s2, s3, s4, s5, s6, s7, s8, s9, s10, s11⟩ := hS
    go_simp
    try with_reducible rfl
  conv in (Act.put _ _ _) => simp only [List.getElem_toArray, List.getElem_cons_succ, List.getElem_cons_zero, Act.put, List.setIfInBounds_toArray, List.set_cons_succ, List.set_cons_zero]
  refine wpAnyH_take (i := 20) (v := ?_) rfl (by kernel_rfl) (by kernel_rfl) (by kernel_rfl) (fun _ _ _ h => h) (Or.inl ⟨by kernel_rfl, ?_⟩) HSW.out ?_
  rotate_left
  · intro w hS
    obtain ⟨s0, s1, s2, s3, s4, s5, s6, s7, s8, s9, s10, s11⟩ := hS
    go_simp
    try with_reducible rfl
  conv in (Act.put _ _ _) => simp only [List.getElem_toArray, List.getElem_cons_succ, List.getElem_cons_zero, Act.put, List.setIfInBounds_toArray, List.set_cons_succ, List.set_cons_zero]
  refine readyH 21 _ (by kernel_rfl) rfl (by kernel_rfl) (fun K hK => ?_)
  go_simp
  refine (H4.out _).mono ?_
  rintro e y ⟨rfl, rfl⟩
  refine hK _ _ HSW.out ?_
  clear hK K
  refine wpAnyH_take (i := 22) (v := ?_) rfl (by kernel_rfl) (by kernel_rfl) (by kernel_rfl) (fun _ _ _ h => h) (Or.inl ⟨by kernel_rfl, ?_⟩) HSW.out ?_
  rotate_left
  · intro w hS
    obtain ⟨s0, s1, s2, s3, s4, s5, s6, s7, s8, s9, s10, s11⟩ := hS
    go_simp
    try with_reducible rfl
  conv in (Act.put _ _ _) => simp only [List.getElem_toArray, List.getElem_cons_succ, List.getElem_cons_zero, Act.put, List.setIfInBounds_toArray, List.set_cons_succ, List.set_cons_zero]
  refine wpAnyH_take (i := 23) (v := ?_) rfl (by kernel_rfl) (by kernel_rfl) (by kernel_rfl) (fun _ _ _ h => h) (Or.inl ⟨by kernel_rfl, ?_⟩) HSW.out ?_
  rotate_left
  · intro w hS
    obtain ⟨s0, s1, s2, s3, s4, s5, s6, s7, s8, s9, s10, s11⟩ := hS
    go_simp
    try with_reducible rfl
  conv in (Act.put _ _ _) => simp only [List.getElem_toArray, List.getElem_cons_succ, List.getElem_cons_zero, Act.put, List.setIfInBounds_toArray, List.set_cons_succ, List.set_cons_zero]
  refine wpAnyH_take (i := 24) (v := ?_) rfl (by kernel_rfl) (by kernel_rfl) (by kernel_rfl) (fun _ _ _ h => h) (Or.inl ⟨by kernel_rfl, ?_⟩) HSW.out ?_
  rotate_left
  · intro w hS
    obtain ⟨s0, s1, s2, s3, s4, s5, s6, s7, s8, s9, s10, s11⟩ := hS
    go_simp
    try with_reducible rfl
  conv in (Act.put _ _ _) => simp only [List.getElem_toArray, List.getElem_cons_succ, List.getElem_cons_zero, Act.put, List.setIfInBounds_toArray, List.set_cons_succ, List.set_cons_zero]
  refine wpAnyH_take (i := 25) (v := ?_) rfl (by kernel_rfl) (by kernel_rfl) (by kernel_rfl) (fun _ _ _ h => h) (Or.inl ⟨by kernel_rfl, ?_⟩) HSW.out ?_
  rotate_left
  · intro w hS
    obtain ⟨s0, s1, s2, s3, s4, s5, s6, s7, s8, s9, s10, s11⟩ := hS
    go_simp
    try with_reducible rfl
  conv in (Act.put _ _ _) => simp only [List.getElem_toArray, List.getElem_cons_succ, List.getElem_cons_zero, Act.put, List.setIfInBounds_toArray, List.set_cons_succ, List.set_cons_zero]
  refine readyH 26 _ (by kernel_rfl) rfl (by kernel_rfl) (fun K hK => ?_)
  go_simp
  refine (H3.out _).mono ?_
  rintro e z ⟨rfl, bz⟩
  have HBz : Hid (Below w.heap.size w z) := HB9.out.trans (bz.mono HB9.out.size)
  replace HSW : Hid _ := HST.out _ ((bz.block _ (Array.getElem?_eq_some_iff.1 HA9.out).1).trans HA9.out) ((bz.block _ (Array.getElem?_eq_some_iff.1 HT9.out).1).trans HT9.out) ((bz.block _ (Array.getElem?_eq_some_iff.1 HD9.out).1).trans HD9.out)
  clear bz
  refine hK _ _ HSW.out ?_
  clear hK K
  refine wpAnyH_take (i := 27) (v := ?_) rfl (by kernel_rfl) (by kernel_rfl) (by kernel_rfl) (fun _ _ _ h => h) (Or.inl ⟨by kernel_rfl, ?_⟩) HSW.out ?_
  rotate_left
  · intro w hS
    obtain ⟨s0, s1, s2, s3, s4, s5, s6, s7, s8, s9, s10, s11⟩ := hS
    go_simp
    try with_reducible rfl
  conv in (Act.put _ _ _) => simp only [List.getElem_toArray, List.getElem_cons_succ, List.getElem_cons_zero, Act.put, List.setIfInBounds_toArray, List.set_cons_succ, List.set_cons_zero]
  refine wpAnyH_take (i := 28) (v := ?_) rfl (by kernel_rfl) (by kernel_rfl) (by kernel_rfl) (fun _ _ _ h => h) (Or.inl ⟨by kernel_rfl, ?_⟩) HSW.out ?_
  rotate_left
  · intro w hS
    obtain ⟨s0, s1, s2, s3, s4, s5, s6, s7, s8, s9, s10, s11⟩ := hS
    go_simp
    try with_reducible rfl
  conv in (Act.put _ _ _) => simp only [List.getElem_toArray, List.getElem_cons_succ, List.getElem_cons_zero, Act.put, List.setIfInBounds_toArray, List.set_cons_succ, List.set_cons_zero]
  refine wpAnyH_take (i := 29) (v := ?_) rfl (by kernel_rfl) (by kernel_rfl) (by kernel_rfl) (fun _ _ _ h => h) (Or.inl ⟨by kernel_rfl, ?_⟩) HSW.out ?_
  rotate_left
  · intro w hS
    obtain ⟨s0, s1, s2, s3, s4, s5, s6, s7, s8, s9, s10, s11⟩ := hS
    go_simp
    try with_reducible rfl
  conv in (Act.put _ _ _) => simp only [List.getElem_toArray, List.getElem_cons_succ, List.getElem_cons_zero, Act.put, List.setIfInBounds_toArray, List.set_cons_succ, List.set_cons_zero]
  refine wpAnyH_take (i := 30) (v := ?_) rfl (by kernel_rfl) (by kernel_rfl) (by kernel_rfl) (fun _ _ _ h => h) (Or.inl ⟨by kernel_rfl, ?_⟩) HSW.out ?_
  rotate_left
  · intro w hS
    obtain ⟨s0, s1, s2, s3, s4, s5, s6, s7, s8, s9, s10, s11⟩ := hS
    go_simp
    try with_reducible rfl
  conv in (Act.put _ _ _) => simp only [List.getElem_toArray, List.getElem_cons_succ, List.getElem_cons_zero, Act.put, List.setIfInBounds_toArray, List.set_cons_succ, List.set_cons_zero]
  refine wpAnyH_take (i := 31) (v := ?_) rfl (by kernel_rfl) (by kernel_rfl) (by kernel_rfl) (fun _ _ _ h => h) (Or.inl ⟨by kernel_rfl, ?_⟩) HSW.out ?_
  rotate_left
  · intro w hS
    obtain ⟨s0, s1, s2, s3, s4, s5, s6, s7, s8, s9, s10, s11⟩ := hS
    go_simp
    try with_reducible rfl
  conv in (Act.put _ _ _) => simp only [List.getElem_toArray, List.getElem_cons_succ, List.getElem_cons_zero, Act.put, List.setIfInBounds_toArray, List.set_cons_succ, List.set_cons_zero]
  refine wpAnyH_take (i := 32) (v := ?_) rfl (by kernel_rfl) (by kernel_rfl) (by kernel_rfl) (fun _ _ _ h => h) (Or.inl ⟨by kernel_rfl, ?_⟩) HSW.out ?_
  rotate_left
  · intro w hS
    obtain ⟨s0, s1, s2, s3, s4, s5, s6, s7, s8, s9, s10, s11⟩ := hS
    go_simp
    try with_reducible rfl
  conv in (Act.put _ _ _) => simp only [List.getElem_toArray, List.getElem_cons_succ, List.getElem_cons_zero, Act.put, List.setIfInBounds_toArray, List.set_cons_succ, List.set_cons_zero]
  refine wpAnyH_take (i := 33) (v := ?_) rfl (by kernel_rfl) (by kernel_rfl) (by kernel_rfl) (fun _ _ _ h => h) (Or.inl ⟨by kernel_rfl, ?_⟩) HSW.out ?_
  rotate_left
  · intro w hS
    obtain ⟨s0, s1, s2, s3, s4, s5, s6, s7, s8, s9, s10, s11⟩ := hS
    go_simp
    try with_reducible rfl
  conv in (Act.put _ _ _) => simp only [List.getElem_toArray, List.getElem_cons_succ, List.getElem_cons_zero, Act.put, List.setIfInBounds_toArray, List.set_cons_succ, List.set_cons_zero]
  refine wpAnyH_take (i := 34) (v := ?_) rfl (by kernel_rfl) (by kernel_rfl) (by kernel_rfl) (fun _ _ _ h => h) (Or.inl ⟨by kernel_rfl, ?_⟩) HSW.out ?_
  rotate_left
  · intro w hS
    obtain ⟨s0, s1, s2, s3, s4, s5, s6, s7, s8, s9, s10, s11⟩ := hS
    go_simp
    try with_reducible rfl
  conv in (Act.put _ _ _) => simp only [List.getElem_toArray, List.getElem_cons_succ, List.getElem_cons_zero, Act.put, List.setIfInBounds_toArray, List.set_cons_succ, List.set_cons_zero]
  refine wpAnyH_take (i := 35) (v := ?_) rfl (by kernel_rfl) (by kernel_rfl) (by kernel_rfl) (fun _ _ _ h => h) (Or.inl ⟨by kernel_rfl, ?_⟩) HSW.out ?_
  rotate_left
  · intro w hS
    obtain ⟨s0, s1, s2, s3, s4, s5, s6, s7, s8, s9, s10, s11⟩ := hS
    go_simp
    try with_reducible rfl
  conv in (Act.put _ _ _) => simp only [List.getElem_toArray, List.getElem_cons_succ, List.getElem_cons_zero, Act.put, List.setIfInBounds_toArray, List.set_cons_succ, List.set_cons_zero]
  refine wpAnyH_take (i := 36) (v := ?_) rfl (by kernel_rfl) (by kernel_rfl) (by kernel_rfl) (fun _ _ _ h => h) (Or.inl ⟨by kernel_rfl, ?_⟩) HSW.out ?_
  rotate_left
  · intro w hS
    obtain ⟨s0, s1, s2, s3, s4, s5, s6, s7, s8, s9, s10, s11⟩ := hS
    go_simp
    try with_reducible rfl
  conv in (Act.put _ _ _) => simp only [List.getElem_toArray, List.getElem_cons_succ, List.getElem_cons_zero, Act.put, List.setIfInBounds_toArray, List.set_cons_succ, List.set_cons_zero]
  refine wpAnyH_take (i := 37) (v := ?_) rfl (by kernel_rfl) (by kernel_rfl) (by kernel_rfl) (fun _ _ _ h => h) (Or.inl ⟨by kernel_rfl, ?_⟩) HSW.out ?_
  rotate_left
  · intro w hS
    obtain ⟨s0, s1, s2, s3, s4, s5, s6, s7, s8, s9, s10, s11⟩ := hS
    go_simp
    try with_reducible rfl
  conv in (Act.put _ _ _) => simp only [List.getElem_toArray, List.getElem_cons_succ, List.getElem_cons_zero, Act.put, List.setIfInBounds_toArray, List.set_cons_succ, List.set_cons_zero]
  refine wpAnyH_take (i := 38) (v := ?_) rfl (by kernel_rfl) (by kernel_rfl) (by kernel_rfl) (fun _ _ _ h => h) (Or.inl ⟨by kernel_rfl, ?_⟩) HSW.out ?_
  rotate_left
  · intro w hS
    obtain ⟨s0, s1, s2, s3, s4, s5, s6, s7, s8, s9, s10, s11⟩ := hS
    go_simp
    try with_reducible rfl
  conv in (Act.put _ _ _) => simp only [List.getElem_toArray, List.getElem_cons_succ, List.getElem_cons_zero, Act.put, List.setIfInBounds_toArray, List.set_cons_succ, List.set_cons_zero]
  refine wpAnyH_take (i := 39) (v := ?_) rfl (by kernel_rfl) (by kernel_rfl) (by kernel_rfl) (fun _ _ _ h => h) (Or.inl ⟨by kernel_rfl, ?_⟩) HSW.out ?_
  rotate_left
  · intro w hS
    obtain ⟨s0, s1, s2, s3, s4, s5, s6, s7, s8, s9, s10, s11⟩ := hS
    go_simp
    try with_reducible rfl
  conv in (Act.put _ _ _) => simp only [List.getElem_toArray, List.getElem_cons_succ, List.getElem_cons_zero, Act.put, List.setIfInBounds_toArray, List.set_cons_succ, List.set_cons_zero]
  refine wpAnyH_take (i := 40) (v := ?_) rfl (by kernel_rfl) (by kernel_rfl) (by kernel_rfl) (fun _ _ _ h => h) (Or.inl ⟨by kernel_rfl, ?_⟩) HSW.out ?_
  rotate_left
  · intro w hS
    obtain ⟨s0, s1, s2, s3, s4, s5, s6, s7, s8, s9, s10, s11⟩ := hS
    go_simp
    try with_reducible rfl
  conv in (Act.put _ _ _) => simp only [List.getElem_toArray, List.getElem_cons_succ, List.getElem_cons_zero, Act.put, List.setIfInBounds_toArray, List.set_cons_succ, List.set_cons_zero]
  refine wpAnyH_done (by kernel_rfl) ?_ _
  rename_i hKK
  refine hKK _ _ ?_
  clear hKK
  go_wp2_with fail
  go_ret
  exact ⟨rfl, HBz.out⟩
set_option maxRecDepth 100000 in
theorem rootTurns_walk (r : Rt) (g : Nat) (i : Int) (p : Nat) (t : ByteArray) (hr : okR r) (w : World) : Calls Try.prog 7 #[rtv r, .int .u32 (g : Int), .int .i64 i, rfv p t] w fun e w' => e = .returned (.bool true) ∧ Below w.heap.size w w' := by
  by_cases h : nxE r.c g i p t = 0
  · exact rootTurns_yes r g i p t hr w h
  · exact rootTurns_no r g i p t hr w h
end Go.Proofs.Ytofealdlgpmheaa.Ro
