/- CellMeets: the least cell of two points has both, and, if they differ, no quarter of it does. -/
import Derived.Test.YtpfjfekpjlfibaaPFH
namespace Go.Proofs.Ytpfjfekpjlfibaa.Rc
open Go.RowKit Go.Lib
set_option maxHeartbeats 4000000 in
set_option maxRecDepth 100000 in
theorem meets_no (x y u v : Int) (H1 : Hid (∀ w, Calls Try.prog 25 #[.int .u32 x, .int .u32 y, .int .u32 u, .int .u32 v] w fun e w' => e = .returned (qv (0, 0, 0, 2)) ∧ Below w.heap.size w w'))
    (H2 : Hid (∀ w, Calls Try.prog 25 #[.int .u32 u, .int .u32 v, .int .u32 x, .int .u32 y] w fun e w' => e = .returned (qv (0, 0, 0, 2)) ∧ Below w.heap.size w w')) (h : 2147483648 ≤ x ∨ 2147483648 ≤ y ∨ 2147483648 ≤ u ∨ 2147483648 ≤ v) (w : World) :
    Calls Try.prog 8 #[.int .u32 x, .int .u32 y, .int .u32 u, .int .u32 v] w fun e w' => e = .returned (.bool true) ∧ Below w.heap.size w w' := by
  by_cases q1 : 2147483648 ≤ x
  · clear h
    go_enter Try.func8, Try.ntmps8
    go_wp2_with fail
    refine (shown_any _).mono ?_
    rintro e w1 ⟨rfl, b1⟩
    have HB : Hid (Below w.heap.size w w1) := b1
    clear b1
    go_wp2_with fail
    refine (H1.out _).mono ?_
    rintro e w2 ⟨rfl, b2⟩
    replace HB : Hid (Below w.heap.size w w2) := HB.out.trans (b2.mono HB.out.size)
    clear b2
    go_wp2_with fail
    refine (H2.out _).mono ?_
    rintro e w3 ⟨rfl, b3⟩
    replace HB : Hid (Below w.heap.size w w3) := (HB.out.alloc HB.out.size _).trans (b3.mono (by have := HB.out.size; simp; omega))
    clear b3
    go_wp2_with fail
    go_ret
    exact ⟨rfl, HB.out.alloc HB.out.size _⟩
  · by_cases q2 : 2147483648 ≤ y
    · clear h
      go_enter Try.func8, Try.ntmps8
      go_wp2_with fail
      refine (shown_any _).mono ?_
      rintro e w1 ⟨rfl, b1⟩
      have HB : Hid (Below w.heap.size w w1) := b1
      clear b1
      go_wp2_with fail
      refine (H1.out _).mono ?_
      rintro e w2 ⟨rfl, b2⟩
      replace HB : Hid (Below w.heap.size w w2) := HB.out.trans (b2.mono HB.out.size)
      clear b2
      go_wp2_with fail
      refine (H2.out _).mono ?_
      rintro e w3 ⟨rfl, b3⟩
      replace HB : Hid (Below w.heap.size w w3) := (HB.out.alloc HB.out.size _).trans (b3.mono (by have := HB.out.size; simp; omega))
      clear b3
      go_wp2_with fail
      go_ret
      exact ⟨rfl, HB.out.alloc HB.out.size _⟩
    · by_cases q3 : 2147483648 ≤ u
      · clear h
        go_enter Try.func8, Try.ntmps8
        go_wp2_with fail
        refine (shown_any _).mono ?_
        rintro e w1 ⟨rfl, b1⟩
        have HB : Hid (Below w.heap.size w w1) := b1
        clear b1
        go_wp2_with fail
        refine (H1.out _).mono ?_
        rintro e w2 ⟨rfl, b2⟩
        replace HB : Hid (Below w.heap.size w w2) := HB.out.trans (b2.mono HB.out.size)
        clear b2
        go_wp2_with fail
        refine (H2.out _).mono ?_
        rintro e w3 ⟨rfl, b3⟩
        replace HB : Hid (Below w.heap.size w w3) := (HB.out.alloc HB.out.size _).trans (b3.mono (by have := HB.out.size; simp; omega))
        clear b3
        go_wp2_with fail
        go_ret
        exact ⟨rfl, HB.out.alloc HB.out.size _⟩
      · have q4 : 2147483648 ≤ v := by omega
        clear h
        go_enter Try.func8, Try.ntmps8
        go_wp2_with fail
        refine (shown_any _).mono ?_
        rintro e w1 ⟨rfl, b1⟩
        have HB : Hid (Below w.heap.size w w1) := b1
        clear b1
        go_wp2_with fail
        refine (H1.out _).mono ?_
        rintro e w2 ⟨rfl, b2⟩
        replace HB : Hid (Below w.heap.size w w2) := HB.out.trans (b2.mono HB.out.size)
        clear b2
        go_wp2_with fail
        refine (H2.out _).mono ?_
        rintro e w3 ⟨rfl, b3⟩
        replace HB : Hid (Below w.heap.size w w3) := (HB.out.alloc HB.out.size _).trans (b3.mono (by have := HB.out.size; simp; omega))
        clear b3
        go_wp2_with fail
        go_ret
        exact ⟨rfl, HB.out.alloc HB.out.size _⟩
set_option maxHeartbeats 4000000 in
set_option maxRecDepth 100000 in
theorem meets_ok (x y u v : Int) (p q : Nat) (l : Int) (H1 : Hid (∀ w, Calls Try.prog 25 #[.int .u32 x, .int .u32 y, .int .u32 u, .int .u32 v] w fun e w' => e = .returned (qv (p, q, l, 0)) ∧ Below w.heap.size w w'))
    (H2 : Hid (∀ w, Calls Try.prog 25 #[.int .u32 u, .int .u32 v, .int .u32 x, .int .u32 y] w fun e w' => e = .returned (qv (p, q, l, 0)) ∧ Below w.heap.size w w'))
    (H3 : Hid (∀ w, Calls Try.prog 17 #[cv p q l, .int .u32 x, .int .u32 y] w fun e w' => e = .returned (.bool true) ∧ Below w.heap.size w w'))
    (H4 : Hid (∀ w, Calls Try.prog 17 #[cv p q l, .int .u32 u, .int .u32 v] w fun e w' => e = .returned (.bool true) ∧ Below w.heap.size w w'))
    (q1 : ¬ 2147483648 ≤ x) (q2 : ¬ 2147483648 ≤ y) (q3 : ¬ 2147483648 ≤ u) (q4 : ¬ 2147483648 ≤ v)
    (h : (x = u ∧ y = v ∧ l = 0) ∨ (¬ (x = u ∧ y = v) ∧ ∃ a b : Nat, a ≠ b ∧ (∀ w, Calls Try.prog 23 #[cv p q l, .int .u32 x, .int .u32 y] w fun e w' => e = .returned (wv (a, 0)) ∧ Below w.heap.size w w') ∧ (∀ w, Calls Try.prog 23 #[cv p q l, .int .u32 u, .int .u32 v] w fun e w' => e = .returned (wv (b, 0)) ∧ Below w.heap.size w w'))) (w : World) :
    Calls Try.prog 8 #[.int .u32 x, .int .u32 y, .int .u32 u, .int .u32 v] w fun e w' => e = .returned (.bool true) ∧ Below w.heap.size w w' := by
  have HP : Hid _ := h
  clear h
  go_enter Try.func8, Try.ntmps8
  go_wp2_with fail
  refine (shown_any _).mono ?_
  rintro e w1 ⟨rfl, b1⟩
  have HB : Hid (Below w.heap.size w w1) := b1
  clear b1
  go_wp2_with fail
  refine (H1.out _).mono ?_
  rintro e w2 ⟨rfl, b2⟩
  replace HB : Hid (Below w.heap.size w w2) := HB.out.trans (b2.mono HB.out.size)
  clear b2
  go_wp2_with fail
  refine (H2.out _).mono ?_
  rintro e w3 ⟨rfl, b3⟩
  have HC : Hid (Cel w2.heap.size p q l w3 ∧ w2.heap.size < w3.heap.size) := ⟨(b3.block _ (by simp)).trans (heap_alloc_new w2 _), Nat.lt_of_lt_of_le (by simp) b3.size⟩
  replace HB : Hid (Below w.heap.size w w3) := (HB.out.alloc HB.out.size _).trans (b3.mono (by have := HB.out.size; simp; omega))
  clear b3
  obtain ⟨d0, d1, d2⟩ := Cel.cells HC.out.1
  have hl3 := HC.out.2
  go_wp2_with fail
  refine (H3.out _).mono ?_
  rintro e w4 ⟨rfl, b4⟩
  replace HB : Hid (Below w.heap.size w w4) := (HB.out.alloc HB.out.size _).trans (b4.mono (by have := HB.out.size; simp; omega))
  replace HC : Hid (Cel w2.heap.size p q l w4 ∧ w2.heap.size < w4.heap.size) := ⟨(HC.out.1.below (below_new w3 _) hl3).below b4 (by simp; omega), Nat.lt_of_lt_of_le (by simp; omega) b4.size⟩
  clear b4 d0 d1 d2
  obtain ⟨d0, d1, d2⟩ := Cel.cells HC.out.1
  go_wp2_with fail
  refine (H4.out _).mono ?_
  rintro e w5 ⟨rfl, b5⟩
  replace HB : Hid (Below w.heap.size w w5) := HB.out.trans (b5.mono HB.out.size)
  replace HC : Hid (Cel w2.heap.size p q l w5 ∧ w2.heap.size < w5.heap.size) := ⟨HC.out.1.below b5 HC.out.2, Nat.lt_of_lt_of_le HC.out.2 b5.size⟩
  clear b5 d0 d1 d2
  obtain ⟨d0, d1, d2⟩ := Cel.cells HC.out.1
  rcases HP.out with ⟨rfl, rfl, rfl⟩ | ⟨hne, a, b, hab, h6, h7⟩
  · go_wp2_with fail
    go_ret
    exact ⟨rfl, HB.out⟩
  · have H6 : Hid _ := h6
    have H7 : Hid _ := h7
    clear h6 h7
    have q9 : ¬ (a : Int) = (b : Int) := by omega
    have hor : ¬ x = u ∨ (x = u ∧ ¬ y = v) := by
      by_cases e : x = u
      · exact .inr ⟨e, fun e2 => hne ⟨e, e2⟩⟩
      · exact .inl e
    clear hne
    rcases hor with q5 | ⟨q5, q6⟩
    · go_wp2_with fail
      refine (H6.out _).mono ?_
      rintro e w6 ⟨rfl, b6⟩
      replace HB : Hid (Below w.heap.size w w6) := HB.out.trans (b6.mono HB.out.size)
      replace HC : Hid (Cel w2.heap.size p q l w6 ∧ w2.heap.size < w6.heap.size) := ⟨HC.out.1.below b6 HC.out.2, Nat.lt_of_lt_of_le HC.out.2 b6.size⟩
      clear b6 d0 d1 d2
      obtain ⟨d0, d1, d2⟩ := Cel.cells HC.out.1
      go_wp2_with fail
      refine (H7.out _).mono ?_
      rintro e w7 ⟨rfl, b7⟩
      replace HB : Hid (Below w.heap.size w w7) := HB.out.trans (b7.mono HB.out.size)
      clear b7 d0 d1 d2
      go_wp2_with fail
      go_ret
      exact ⟨congrArg (fun z => Ending.returned (Value.bool z)) (by simpa using q9 : ((a : Int) != (b : Int)) = true), HB.out⟩
    · subst q5
      go_wp2_with fail
      refine (H6.out _).mono ?_
      rintro e w6 ⟨rfl, b6⟩
      replace HB : Hid (Below w.heap.size w w6) := HB.out.trans (b6.mono HB.out.size)
      replace HC : Hid (Cel w2.heap.size p q l w6 ∧ w2.heap.size < w6.heap.size) := ⟨HC.out.1.below b6 HC.out.2, Nat.lt_of_lt_of_le HC.out.2 b6.size⟩
      clear b6 d0 d1 d2
      obtain ⟨d0, d1, d2⟩ := Cel.cells HC.out.1
      go_wp2_with fail
      refine (H7.out _).mono ?_
      rintro e w7 ⟨rfl, b7⟩
      replace HB : Hid (Below w.heap.size w w7) := HB.out.trans (b7.mono HB.out.size)
      clear b7 d0 d1 d2
      go_wp2_with fail
      go_ret
      exact ⟨congrArg (fun z => Ending.returned (Value.bool z)) (by simpa using q9 : ((a : Int) != (b : Int)) = true), HB.out⟩
set_option maxRecDepth 100000 in
theorem meets_walk (x y u v : Nat) (hx : x < 4294967296) (hy : y < 4294967296) (hu : u < 4294967296) (hv : v < 4294967296) (w : World) :
    Calls Try.prog 8 #[.int .u32 (x : Int), .int .u32 (y : Int), .int .u32 (u : Int), .int .u32 (v : Int)] w fun e w' => e = .returned (.bool true) ∧ Below w.heap.size w w' := by
  have H1 := least_any x y u v
  have H2 := least_any u v x y
  by_cases h : onS x y = true ∧ onS u v = true
  · have e1 : leas x y u v = (flr x (lvl x y u v), flr y (lvl x y u v), (lvl x y u v : Int), 0) := by unfold leas; rw [if_pos h]
    have e2 : leas u v x y = (flr x (lvl x y u v), flr y (lvl x y u v), (lvl x y u v : Int), 0) := by
      unfold leas
      rw [if_pos ⟨h.2, h.1⟩, ← (least_comm h.1 h.2).1, ← (least_comm h.1 h.2).2, ← lvl_comm x y u v]
    rw [e1] at H1
    rw [e2] at H2
    have c := least_cl h.1 h.2
    obtain ⟨h3, h4⟩ := least_has h.1 h.2
    have hz := lvl_zero h.1 h.2
    have ho := h
    unfold onS at ho
    rw [decide_eq_true_iff, decide_eq_true_iff] at ho
    have hcx := c.x31; have hcy := c.y31
    have H3 := has_any (flr x (lvl x y u v)) (flr y (lvl x y u v)) (lvl x y u v : Int) x y (by omega) (by omega) hx hy
    rw [h3] at H3
    have H4 := has_any (flr x (lvl x y u v)) (flr y (lvl x y u v)) (lvl x y u v : Int) u v (by omega) (by omega) hu hv
    rw [h4] at H4
    refine meets_ok x y u v _ _ _ H1 H2 H3 H4 (by omega) (by omega) (by omega) (by omega) ?_ w
    by_cases e : x = u ∧ y = v
    · exact .inl ⟨by omega, by omega, by rw [hz.2 e]; rfl⟩
    · refine .inr ⟨by omega, ?_⟩
      obtain ⟨m, hm⟩ : ∃ m, lvl x y u v = m + 1 := ⟨lvl x y u v - 1, by
        have : lvl x y u v ≠ 0 := fun k => e (hz.1 k)
        omega⟩
      have hw := least_parts h.1 h.2 hm
      have W1 := where_any _ _ (lvl x y u v : Int) x y (by omega : flr x (lvl x y u v) < 4294967296) (by omega : flr y (lvl x y u v) < 4294967296) hx hy
      have W2 := where_any _ _ (lvl x y u v : Int) u v (by omega : flr x (lvl x y u v) < 4294967296) (by omega : flr y (lvl x y u v) < 4294967296) hu hv
      refine ⟨wq m x y, wq m u v, hw, fun w => ?_, fun w => ?_⟩
      · have := W1 w
        rw [show wher (flr x (lvl x y u v)) (flr y (lvl x y u v)) (lvl x y u v : Int) x y = (wq m x y, 0) by unfold wher; rw [if_pos ⟨h3, by omega⟩, hm, pred_nat]] at this
        exact this
      · have := W2 w
        rw [show wher (flr x (lvl x y u v)) (flr y (lvl x y u v)) (lvl x y u v : Int) u v = (wq m u v, 0) by unfold wher; rw [if_pos ⟨h4, by omega⟩, hm, pred_nat]] at this
        exact this
  · rw [show leas x y u v = (0, 0, 0, 2) by unfold leas; rw [if_neg h]] at H1
    rw [show leas u v x y = (0, 0, 0, 2) by unfold leas; rw [if_neg (fun k => h ⟨k.2, k.1⟩)]] at H2
    refine meets_no x y u v H1 H2 ?_ w
    have h2 : ¬ ((x < 2147483648 ∧ y < 2147483648) ∧ (u < 2147483648 ∧ v < 2147483648)) := fun k => h ⟨decide_eq_true k.1, decide_eq_true k.2⟩
    omega
end Go.Proofs.Ytpfjfekpjlfibaa.Rc
