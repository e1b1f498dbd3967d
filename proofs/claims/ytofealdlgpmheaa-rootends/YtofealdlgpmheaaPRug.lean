/- A beginning of a root's bytes, and what has more, are no root's. -/
import Derived.Test.YtofealdlgpmheaaQRtn
namespace Go.Proofs.Ytofealdlgpmheaa.Ro
open Go.RowKit Go.Lib Go.Shelf
open Go.Proofs.Ytofealdlgpmheaa.Rc Go.Proofs.Ytofealdlgpmheaa.Rq
set_option maxRecDepth 100000 in
theorem by1_size (m : Nat) : (by1 m).size = 1 := rfl
set_option maxRecDepth 100000 in
set_option maxHeartbeats 4000000 in
theorem rootEnds_walk (r : Rt) (i : Int) (m : Nat) (hr : okR r) (hm : m < 256) (w : World) : Calls Try.prog 9 #[rtv r, .int .i64 i, .int .u8 (m : Int)] w fun e w' => e = .returned (.bool true) ∧ Below w.heap.size w w' := by
  have HSH : Hid (∀ W : World, _) := shown_any
  have h1 := encode_any r hr
  unfold encS encE at h1
  cases hb1 : rrt r
  · rw [hb1] at h1
    simp only [Bool.false_eq_true, if_false] at h1
    obtain ⟨ac, ag, an, ap, at_⟩ := r
    have H1 : Hid (∀ W : World, _) := h1
    clear h1 hb1 hr hm
    obtain ⟨W1, hW1⟩ : ∃ W, w.alloc (.cells #[.int .u64 (ac : Int), .int .u32 (ag : Int), .int .u32 (an : Int), .int .u32 (ap : Int), .string at_] 27) = W := ⟨_, rfl⟩
    have hb1 := below_new w (.cells #[.int .u64 (ac : Int), .int .u32 (ag : Int), .int .u32 (an : Int), .int .u32 (ap : Int), .string at_] 27)
    have hg1 := heap_alloc_new w (.cells #[.int .u64 (ac : Int), .int .u32 (ag : Int), .int .u32 (an : Int), .int .u32 (ap : Int), .string at_] 27)
    rw [hW1] at hb1 hg1
    have HW1 : Hid _ := hW1
    have HB1 : Hid (Below w.heap.size w W1) := hb1
    have HA1 : Hid (W1.heap[w.heap.size]? = some (.cells #[.int .u64 (ac : Int), .int .u32 (ag : Int), .int .u32 (an : Int), .int .u32 (ap : Int), .string at_] 27 (0, 0))) := hg1
    clear hb1 hg1 hW1
    go_enter Try.func9, Try.ntmps9
    go_wp2_with fail
    rw [HW1.out]
    clear HW1
    refine (HSH.out W1).mono ?_
    rintro e w2 ⟨rfl, b2⟩
    have HA2 : Hid (w2.heap[w.heap.size]? = some (.cells #[.int .u64 (ac : Int), .int .u32 (ag : Int), .int .u32 (an : Int), .int .u32 (ap : Int), .string at_] 27 (0, 0))) := (b2.block _ (Array.getElem?_eq_some_iff.1 HA1.out).1).trans HA1.out
    have HB2 : Hid (Below w.heap.size w w2) := HB1.out.trans (b2.mono HB1.out.size)
    clear b2
    have fA0 : w2.cell? ⟨w.heap.size, 0, none⟩ = some (.int .u64 (ac : Int)) := by rw [cell_of_row _ _ _ _ _ _ HA2.out]; rfl
    have fA1 : w2.cell? ⟨w.heap.size, 1, none⟩ = some (.int .u32 (ag : Int)) := by rw [cell_of_row _ _ _ _ _ _ HA2.out]; rfl
    have fA2 : w2.cell? ⟨w.heap.size, 2, none⟩ = some (.int .u32 (an : Int)) := by rw [cell_of_row _ _ _ _ _ _ HA2.out]; rfl
    have fA3 : w2.cell? ⟨w.heap.size, 3, none⟩ = some (.int .u32 (ap : Int)) := by rw [cell_of_row _ _ _ _ _ _ HA2.out]; rfl
    have fA4 : w2.cell? ⟨w.heap.size, 4, none⟩ = some (.string at_) := by rw [cell_of_row _ _ _ _ _ _ HA2.out]; rfl
    go_wp2_with fail
    clear fA0 fA1 fA2 fA3 fA4
    refine (H1.out w2).mono ?_
    rintro e w3 ⟨rfl, b3⟩
    have HA3 : Hid (w3.heap[w.heap.size]? = some (.cells #[.int .u64 (ac : Int), .int .u32 (ag : Int), .int .u32 (an : Int), .int .u32 (ap : Int), .string at_] 27 (0, 0))) := (b3.block _ (Array.getElem?_eq_some_iff.1 HA2.out).1).trans HA2.out
    have HB3 : Hid (Below w.heap.size w w3) := HB2.out.trans (b3.mono HB2.out.size)
    clear b3
    go_wp2_with fail
    go_ret
    exact ⟨rfl, HB3.out⟩
  · rw [hb1] at h1
    simp only [if_true] at h1
    have h56 := bR_56 hb1
    by_cases q1 : i < 0
    · obtain ⟨S1, hS1⟩ : ∃ s, bR r = s := ⟨_, rfl⟩
      rw [hS1] at h1 h56
      obtain ⟨ac, ag, an, ap, at_⟩ := r
      have H1 : Hid (∀ W : World, _) := h1
      clear h1 hb1 hr hS1 hm h56
      obtain ⟨W1, hW1⟩ : ∃ W, w.alloc (.cells #[.int .u64 (ac : Int), .int .u32 (ag : Int), .int .u32 (an : Int), .int .u32 (ap : Int), .string at_] 27) = W := ⟨_, rfl⟩
      have hb1 := below_new w (.cells #[.int .u64 (ac : Int), .int .u32 (ag : Int), .int .u32 (an : Int), .int .u32 (ap : Int), .string at_] 27)
      have hg1 := heap_alloc_new w (.cells #[.int .u64 (ac : Int), .int .u32 (ag : Int), .int .u32 (an : Int), .int .u32 (ap : Int), .string at_] 27)
      rw [hW1] at hb1 hg1
      have HW1 : Hid _ := hW1
      have HB1 : Hid (Below w.heap.size w W1) := hb1
      have HA1 : Hid (W1.heap[w.heap.size]? = some (.cells #[.int .u64 (ac : Int), .int .u32 (ag : Int), .int .u32 (an : Int), .int .u32 (ap : Int), .string at_] 27 (0, 0))) := hg1
      clear hb1 hg1 hW1
      go_enter Try.func9, Try.ntmps9
      go_wp2_with fail
      rw [HW1.out]
      clear HW1
      refine (HSH.out W1).mono ?_
      rintro e w2 ⟨rfl, b2⟩
      have HA2 : Hid (w2.heap[w.heap.size]? = some (.cells #[.int .u64 (ac : Int), .int .u32 (ag : Int), .int .u32 (an : Int), .int .u32 (ap : Int), .string at_] 27 (0, 0))) := (b2.block _ (Array.getElem?_eq_some_iff.1 HA1.out).1).trans HA1.out
      have HB2 : Hid (Below w.heap.size w w2) := HB1.out.trans (b2.mono HB1.out.size)
      clear b2
      have fA0 : w2.cell? ⟨w.heap.size, 0, none⟩ = some (.int .u64 (ac : Int)) := by rw [cell_of_row _ _ _ _ _ _ HA2.out]; rfl
      have fA1 : w2.cell? ⟨w.heap.size, 1, none⟩ = some (.int .u32 (ag : Int)) := by rw [cell_of_row _ _ _ _ _ _ HA2.out]; rfl
      have fA2 : w2.cell? ⟨w.heap.size, 2, none⟩ = some (.int .u32 (an : Int)) := by rw [cell_of_row _ _ _ _ _ _ HA2.out]; rfl
      have fA3 : w2.cell? ⟨w.heap.size, 3, none⟩ = some (.int .u32 (ap : Int)) := by rw [cell_of_row _ _ _ _ _ _ HA2.out]; rfl
      have fA4 : w2.cell? ⟨w.heap.size, 4, none⟩ = some (.string at_) := by rw [cell_of_row _ _ _ _ _ _ HA2.out]; rfl
      go_wp2_with fail
      clear fA0 fA1 fA2 fA3 fA4
      refine (H1.out w2).mono ?_
      rintro e w3 ⟨rfl, b3⟩
      have HA3 : Hid (w3.heap[w.heap.size]? = some (.cells #[.int .u64 (ac : Int), .int .u32 (ag : Int), .int .u32 (an : Int), .int .u32 (ap : Int), .string at_] 27 (0, 0))) := (b3.block _ (Array.getElem?_eq_some_iff.1 HA2.out).1).trans HA2.out
      have HB3 : Hid (Below w.heap.size w w3) := HB2.out.trans (b3.mono HB2.out.size)
      clear b3
      go_wp2_with fail
      go_ret
      exact ⟨rfl, HB3.out⟩
    · by_cases q2 : 56 ≤ i
      · obtain ⟨S1, hS1⟩ : ∃ s, bR r = s := ⟨_, rfl⟩
        rw [hS1] at h1 h56
        have q3 : (S1.size : Int) ≤ i := by omega
        obtain ⟨ac, ag, an, ap, at_⟩ := r
        have H1 : Hid (∀ W : World, _) := h1
        clear h1 hb1 hr hS1 hm h56 q2
        obtain ⟨W1, hW1⟩ : ∃ W, w.alloc (.cells #[.int .u64 (ac : Int), .int .u32 (ag : Int), .int .u32 (an : Int), .int .u32 (ap : Int), .string at_] 27) = W := ⟨_, rfl⟩
        have hb1 := below_new w (.cells #[.int .u64 (ac : Int), .int .u32 (ag : Int), .int .u32 (an : Int), .int .u32 (ap : Int), .string at_] 27)
        have hg1 := heap_alloc_new w (.cells #[.int .u64 (ac : Int), .int .u32 (ag : Int), .int .u32 (an : Int), .int .u32 (ap : Int), .string at_] 27)
        rw [hW1] at hb1 hg1
        have HW1 : Hid _ := hW1
        have HB1 : Hid (Below w.heap.size w W1) := hb1
        have HA1 : Hid (W1.heap[w.heap.size]? = some (.cells #[.int .u64 (ac : Int), .int .u32 (ag : Int), .int .u32 (an : Int), .int .u32 (ap : Int), .string at_] 27 (0, 0))) := hg1
        clear hb1 hg1 hW1
        go_enter Try.func9, Try.ntmps9
        go_wp2_with fail
        rw [HW1.out]
        clear HW1
        refine (HSH.out W1).mono ?_
        rintro e w2 ⟨rfl, b2⟩
        have HA2 : Hid (w2.heap[w.heap.size]? = some (.cells #[.int .u64 (ac : Int), .int .u32 (ag : Int), .int .u32 (an : Int), .int .u32 (ap : Int), .string at_] 27 (0, 0))) := (b2.block _ (Array.getElem?_eq_some_iff.1 HA1.out).1).trans HA1.out
        have HB2 : Hid (Below w.heap.size w w2) := HB1.out.trans (b2.mono HB1.out.size)
        clear b2
        have fA0 : w2.cell? ⟨w.heap.size, 0, none⟩ = some (.int .u64 (ac : Int)) := by rw [cell_of_row _ _ _ _ _ _ HA2.out]; rfl
        have fA1 : w2.cell? ⟨w.heap.size, 1, none⟩ = some (.int .u32 (ag : Int)) := by rw [cell_of_row _ _ _ _ _ _ HA2.out]; rfl
        have fA2 : w2.cell? ⟨w.heap.size, 2, none⟩ = some (.int .u32 (an : Int)) := by rw [cell_of_row _ _ _ _ _ _ HA2.out]; rfl
        have fA3 : w2.cell? ⟨w.heap.size, 3, none⟩ = some (.int .u32 (ap : Int)) := by rw [cell_of_row _ _ _ _ _ _ HA2.out]; rfl
        have fA4 : w2.cell? ⟨w.heap.size, 4, none⟩ = some (.string at_) := by rw [cell_of_row _ _ _ _ _ _ HA2.out]; rfl
        go_wp2_with fail
        clear fA0 fA1 fA2 fA3 fA4
        refine (H1.out w2).mono ?_
        rintro e w3 ⟨rfl, b3⟩
        have HA3 : Hid (w3.heap[w.heap.size]? = some (.cells #[.int .u64 (ac : Int), .int .u32 (ag : Int), .int .u32 (an : Int), .int .u32 (ap : Int), .string at_] 27 (0, 0))) := (b3.block _ (Array.getElem?_eq_some_iff.1 HA2.out).1).trans HA2.out
        have HB3 : Hid (Below w.heap.size w w3) := HB2.out.trans (b3.mono HB2.out.size)
        clear b3
        go_wp2_with fail
        go_ret
        exact ⟨rfl, HB3.out⟩
      · obtain ⟨n, rfl⟩ : ∃ n : Nat, i = (n : Int) := ⟨i.toNat, by omega⟩
        have d1 : ∀ W : World, Calls Try.prog 16 #[.string ((bR r).extract 0 n)] W fun e w' => e = .returned (.tuple #[rtv zeroR, .int .i64 120]) ∧ Below W.heap.size W w' := fun W => decode_no _ W (bR_less hb1 (by rw [ByteArray.size_extract]; omega))
        have d2 : ∀ W : World, Calls Try.prog 16 #[.string (bR r ++ by1 m)] W fun e w' => e = .returned (.tuple #[rtv zeroR, .int .i64 120]) ∧ Below W.heap.size W w' := fun W => decode_no _ W (bR_less hb1 (by rw [ByteArray.size_append, by1_size]; omega))
        have e0 : rtv zeroR = .agg #[.int .u64 0, .int .u32 0, .int .u32 0, .int .u32 0, .string ⟨#[]⟩] := rfl
        rw [e0] at d1 d2
        have D1 : Hid (∀ W : World, _) := d1
        have D2 : Hid (∀ W : World, _) := d2
        have hcv := fun W : World => one_str (W.alloc (.cells #[.int .u8 (m : Int)] 5)) W.heap.size (m : Int) m (by omega) (heap_alloc_new W _)
        obtain ⟨S1, hS1⟩ : ∃ s, bR r = s := ⟨_, rfl⟩
        rw [hS1] at h1 h56 D1 D2
        have hby := by1_size m
        obtain ⟨B1, hB1⟩ : ∃ b, by1 m = b := ⟨_, rfl⟩
        rw [hB1] at hby hcv D2
        have q3 : ¬ (S1.size : Int) ≤ (n : Int) := by omega
        have q4 : (n : Int) ≤ (S1.size : Int) := by omega
        have q5 : ¬ 9223372036854775807 < S1.size + B1.size := by omega
        clear d1 d2 e0 hby hB1
        obtain ⟨ac, ag, an, ap, at_⟩ := r
        have H1 : Hid (∀ W : World, _) := h1
        clear h1 hb1 hr hS1 hm h56 q2
        obtain ⟨W1, hW1⟩ : ∃ W, w.alloc (.cells #[.int .u64 (ac : Int), .int .u32 (ag : Int), .int .u32 (an : Int), .int .u32 (ap : Int), .string at_] 27) = W := ⟨_, rfl⟩
        have hb1 := below_new w (.cells #[.int .u64 (ac : Int), .int .u32 (ag : Int), .int .u32 (an : Int), .int .u32 (ap : Int), .string at_] 27)
        have hg1 := heap_alloc_new w (.cells #[.int .u64 (ac : Int), .int .u32 (ag : Int), .int .u32 (an : Int), .int .u32 (ap : Int), .string at_] 27)
        rw [hW1] at hb1 hg1
        have HW1 : Hid _ := hW1
        have HB1 : Hid (Below w.heap.size w W1) := hb1
        have HA1 : Hid (W1.heap[w.heap.size]? = some (.cells #[.int .u64 (ac : Int), .int .u32 (ag : Int), .int .u32 (an : Int), .int .u32 (ap : Int), .string at_] 27 (0, 0))) := hg1
        clear hb1 hg1 hW1
        go_enter Try.func9, Try.ntmps9
        go_wp2_with fail
        rw [HW1.out]
        clear HW1
        refine (HSH.out W1).mono ?_
        rintro e w2 ⟨rfl, b2⟩
        have HA2 : Hid (w2.heap[w.heap.size]? = some (.cells #[.int .u64 (ac : Int), .int .u32 (ag : Int), .int .u32 (an : Int), .int .u32 (ap : Int), .string at_] 27 (0, 0))) := (b2.block _ (Array.getElem?_eq_some_iff.1 HA1.out).1).trans HA1.out
        have HB2 : Hid (Below w.heap.size w w2) := HB1.out.trans (b2.mono HB1.out.size)
        clear b2
        have fA0 : w2.cell? ⟨w.heap.size, 0, none⟩ = some (.int .u64 (ac : Int)) := by rw [cell_of_row _ _ _ _ _ _ HA2.out]; rfl
        have fA1 : w2.cell? ⟨w.heap.size, 1, none⟩ = some (.int .u32 (ag : Int)) := by rw [cell_of_row _ _ _ _ _ _ HA2.out]; rfl
        have fA2 : w2.cell? ⟨w.heap.size, 2, none⟩ = some (.int .u32 (an : Int)) := by rw [cell_of_row _ _ _ _ _ _ HA2.out]; rfl
        have fA3 : w2.cell? ⟨w.heap.size, 3, none⟩ = some (.int .u32 (ap : Int)) := by rw [cell_of_row _ _ _ _ _ _ HA2.out]; rfl
        have fA4 : w2.cell? ⟨w.heap.size, 4, none⟩ = some (.string at_) := by rw [cell_of_row _ _ _ _ _ _ HA2.out]; rfl
        go_wp2_with fail
        clear fA0 fA1 fA2 fA3 fA4
        refine (H1.out w2).mono ?_
        rintro e w3 ⟨rfl, b3⟩
        have HA3 : Hid (w3.heap[w.heap.size]? = some (.cells #[.int .u64 (ac : Int), .int .u32 (ag : Int), .int .u32 (an : Int), .int .u32 (ap : Int), .string at_] 27 (0, 0))) := (b3.block _ (Array.getElem?_eq_some_iff.1 HA2.out).1).trans HA2.out
        have HB3 : Hid (Below w.heap.size w w3) := HB2.out.trans (b3.mono HB2.out.size)
        clear b3
        go_wp2_with fail
        refine (D1.out w3).mono ?_
        rintro e w4 ⟨rfl, b4⟩
        have HB4 : Hid (Below w.heap.size w w4) := HB3.out.trans (b4.mono HB3.out.size)
        clear b4
        have hc9 := hcv (w4.alloc (.cells #[.int .u64 0, .int .u32 0, .int .u32 0, .int .u32 0, .string ⟨#[]⟩] 27))
        rw [show (w4.alloc (.cells #[.int .u64 0, .int .u32 0, .int .u32 0, .int .u32 0, .string ⟨#[]⟩] 27)).heap.size = w4.heap.size + 1 by simp] at hc9
        clear hcv
        go_wp2_with fail
        have hb9 := (two_new w4 (.cells #[.int .u64 0, .int .u32 0, .int .u32 0, .int .u32 0, .string ⟨#[]⟩] 27) (.cells #[.int .u8 (m : Int)] 5)).2.2
        have HB9 : Hid (Below w.heap.size w ((w4.alloc (.cells #[.int .u64 0, .int .u32 0, .int .u32 0, .int .u32 0, .string ⟨#[]⟩] 27)).alloc (.cells #[.int .u8 (m : Int)] 5))) := HB4.out.trans (hb9.mono HB4.out.size)
        clear hb9
        refine (D2.out _).mono ?_
        rintro e w9 ⟨rfl, b9⟩
        have HBx : Hid (Below w.heap.size w w9) := HB9.out.trans (b9.mono HB9.out.size)
        have HBy : Hid (Below w.heap.size w (w9.alloc (.cells #[.int .u64 0, .int .u32 0, .int .u32 0, .int .u32 0, .string ⟨#[]⟩] 27))) := HBx.out.alloc HBx.out.size _
        clear b9
        go_wp2_with fail
        go_ret
        exact ⟨rfl, HBy.out⟩
end Go.Proofs.Ytofealdlgpmheaa.Ro
