/- CellCorners: the least cell of a cell's two corners is the cell; a quarter's corners are in the cell. -/
import Derived.Test.YtpfjfekpjlfibaaPFH
namespace Go.Proofs.Ytpfjfekpjlfibaa.Rc
open Go.RowKit Go.Lib
set_option maxRecDepth 100000 in
theorem corner_leas {X Y n : Nat} (c : Cl X Y n) : leas X Y (X + (2 ^ n - 1)) (Y + (2 ^ n - 1)) = (X, Y, (n : Int), 0) := by
  have hp := Nat.two_pow_pos n
  have hx := c.xe; have hy := c.ye
  unfold leas
  rw [if_pos ⟨onS_true c.x31 c.y31, onS_true (by omega) (by omega)⟩, corner_lvl c, c.fx, c.fy]
set_option maxHeartbeats 4000000 in
set_option maxRecDepth 100000 in
theorem corners_no (X Y : Nat) (L i : Int) (H1 : Hid (∀ w, Calls Try.prog 13 #[cv X Y L] w fun e w' => e = .returned (.bool false) ∧ Below w.heap.size w w')) (w : World) :
    Calls Try.prog 11 #[cv X Y L, .int .i64 i] w fun e w' => e = .returned (.bool true) ∧ Below w.heap.size w w' := by
  have HN : Hid _ := ca_new X Y L w
  go_enter Try.func11, Try.ntmps11
  go_wp2_with fail
  refine (shown_any _).mono ?_
  rintro e w1 ⟨rfl, b1⟩
  have HB : Hid (CA w X Y L w1) := HN.out.next b1
  obtain ⟨e0, e1, e2⟩ := HB.out.cel
  clear b1
  go_wp2_with fail
  refine (H1.out _).mono ?_
  rintro e w2 ⟨rfl, b2⟩
  replace HB : Hid (CA w X Y L w2) := HB.out.next b2
  clear b2 e0 e1 e2
  go_wp2_with fail
  go_ret
  exact ⟨rfl, HB.out.bel⟩
set_option maxHeartbeats 4000000 in
set_option maxRecDepth 100000 in
theorem corners_ok (X Y n : Nat) (i : Int) (cl : Cl X Y n) (p : Nat × Nat × Int × Int) (H6 : Hid (∀ w, Calls Try.prog 21 #[cv X Y (n : Int), .int .i64 i] w fun e w' => e = .returned (qv p) ∧ Below w.heap.size w w'))
    (hp6 : (p = (0, 0, 0, 2) ∧ ((n : Int) = 0 ∨ i < 0 ∨ 3 < i)) ∨ (p.2.2.2 = 0 ∧ (∀ w, Calls Try.prog 23 #[cv X Y (n : Int), .int .u32 (p.1 : Int), .int .u32 (p.2.1 : Int)] w fun e w' => e = .returned (.tuple #[.int .i64 i, .int .i64 0]) ∧ Below w.heap.size w w') ∧ (∀ w, Calls Try.prog 13 #[cv p.1 p.2.1 p.2.2.1] w fun e w' => e = .returned (.bool true) ∧ Below w.heap.size w w'))) (w : World) :
    Calls Try.prog 11 #[cv X Y (n : Int), .int .i64 i] w fun e w' => e = .returned (.bool true) ∧ Below w.heap.size w w' := by
  have hX : X < 4294967296 := by have := cl.x31; omega
  have hY : Y < 4294967296 := by have := cl.y31; omega
  have hp := Nat.two_pow_pos n
  have hxe := cl.xe; have hye := cl.ye
  have H1 : Hid _ := right_any X Y (n : Int) hX hY
  rw [(rightS_nat X Y n).2 cl] at H1
  have H2 : Hid _ := eSize_any X Y n cl.n31
  have H3 : Hid _ := least_any X Y (X + (2 ^ n - 1)) (Y + (2 ^ n - 1))
  rw [corner_leas cl] at H3
  obtain ⟨c1, c2⟩ := corner_has cl
  have H4 : Hid _ := has_any X Y (n : Int) X Y hX hY hX hY
  rw [c1] at H4
  have H5 : Hid _ := has_any X Y (n : Int) (X + (2 ^ n - 1)) (Y + (2 ^ n - 1)) hX hY (by omega) (by omega)
  rw [c2] at H5
  have HP : Hid _ := hp6
  clear hp6
  have k1 : IntKind.u64.wrap (((2 ^ n : Nat) : Int) - 1) % 4294967296 = ((2 ^ n - 1 : Nat) : Int) := by
    rw [show ((2 ^ n : Nat) : Int) - 1 = ((2 ^ n - 1 : Nat) : Int) by omega, u64_in _ (by omega)]; omega
  have k2 : ((X : Int) + ((2 ^ n - 1 : Nat) : Int)) % 4294967296 = ((X + (2 ^ n - 1) : Nat) : Int) := by omega
  have k3 : ((Y : Int) + ((2 ^ n - 1 : Nat) : Int)) % 4294967296 = ((Y + (2 ^ n - 1) : Nat) : Int) := by omega
  generalize X + (2 ^ n - 1) = xr at *
  generalize Y + (2 ^ n - 1) = yr at *
  generalize 2 ^ n - 1 = r at *
  generalize 2 ^ n = s at *
  have HN : Hid _ := ca_new X Y (n : Int) w
  clear hp hxe hye c1 c2 hX hY
  go_enter Try.func11, Try.ntmps11
  go_wp2_with fail
  refine (shown_any _).mono ?_
  rintro e w1 ⟨rfl, b1⟩
  have HB : Hid (CA w X Y (n : Int) w1) := HN.out.next b1
  obtain ⟨e0, e1, e2⟩ := HB.out.cel
  clear b1
  go_wp2_with fail
  refine (H1.out _).mono ?_
  rintro e w2 ⟨rfl, b2⟩
  replace HB : Hid (CA w X Y (n : Int) w2) := HB.out.next b2
  clear b2 e0 e1 e2
  obtain ⟨e0, e1, e2⟩ := HB.out.cel
  go_wp2_with fail
  refine (H2.out _).mono ?_
  rintro e w3 ⟨rfl, b3⟩
  replace HB : Hid (CA w X Y (n : Int) w3) := HB.out.next b3
  clear b3 e0 e1 e2
  obtain ⟨e0, e1, e2⟩ := HB.out.cel
  go_wp2_with fail
  refine (H3.out _).mono ?_
  rintro e w4 ⟨rfl, b4⟩
  replace HB : Hid (CA w X Y (n : Int) w4) := HB.out.next b4
  clear b4 e0 e1 e2
  obtain ⟨e0, e1, e2⟩ := HB.out.cel
  have hl4 := HB.out.one
  go_wp2_with fail
  refine (H4.out _).mono ?_
  rintro e w5 ⟨rfl, b5⟩
  replace HB : Hid (CA w X Y (n : Int) w5) := (HB.out.next (below_new w4 _)).next b5
  clear b5 e0 e1 e2
  obtain ⟨e0, e1, e2⟩ := HB.out.cel
  go_wp2_with fail
  refine (H5.out _).mono ?_
  rintro e w6 ⟨rfl, b6⟩
  replace HB : Hid (CA w X Y (n : Int) w6) := HB.out.next b6
  clear b6 e0 e1 e2 k1 k2 k3
  obtain ⟨e0, e1, e2⟩ := HB.out.cel
  go_wp2_with fail
  refine (H6.out _).mono ?_
  rintro e w7 ⟨rfl, b7⟩
  replace HB : Hid (CA w X Y (n : Int) w7) := HB.out.next b7
  clear b7 e0 e1 e2
  obtain ⟨e0, e1, e2⟩ := HB.out.cel
  have hl7 := HB.out.one
  obtain ⟨px, py, pl, pe⟩ := p
  rcases HP.out with ⟨h1, h2⟩ | ⟨h1, h2, h3⟩
  · cases h1
    by_cases q1 : (n : Int) = 0
    · have q1' : n = 0 := by omega
      subst q1'
      go_wp2_with fail
      go_ret
      exact ⟨rfl, HB.out.bel.alloc (Nat.le_of_lt hl7) _⟩
    · by_cases q2 : i < 0
      · clear h2
        have q1' : ¬ n = 0 := by omega
        go_wp2_with fail
        go_ret
        exact ⟨rfl, HB.out.bel.alloc (Nat.le_of_lt hl7) _⟩
      · have q3 : 3 < i := by rcases h2 with h | h | h; (exact absurd h q1); (exact absurd h q2); exact h
        clear h2
        have q1' : ¬ n = 0 := by omega
        go_wp2_with fail
        go_ret
        exact ⟨rfl, HB.out.bel.alloc (Nat.le_of_lt hl7) _⟩
  · simp only at h1
    subst h1
    have H7 : Hid _ := h2
    have H8 : Hid _ := h3
    clear h2 h3
    go_wp2_with fail
    refine (H7.out _).mono ?_
    rintro e w8 ⟨rfl, b8⟩
    have HQ : Hid (Cel w7.heap.size px py pl w8) := (b8.block _ (by simp)).trans (heap_alloc_new w7 _)
    replace HB : Hid (CA w X Y (n : Int) w8) := (HB.out.next (below_new w7 _)).next b8
    obtain ⟨d0, d1, d2⟩ := Cel.cells HQ.out
    clear b8 e0 e1 e2
    go_wp2_with fail
    refine (H8.out _).mono ?_
    rintro e w9 ⟨rfl, b9⟩
    replace HB : Hid (CA w X Y (n : Int) w9) := HB.out.next b9
    clear b9 d0 d1 d2
    go_wp2_with fail
    go_ret
    exact ⟨rfl, HB.out.bel⟩
set_option maxRecDepth 100000 in
theorem corners_walk (X Y : Nat) (L i : Int) (hX : X < 4294967296) (hY : Y < 4294967296) (w : World) :
    Calls Try.prog 11 #[cv X Y L, .int .i64 i] w fun e w' => e = .returned (.bool true) ∧ Below w.heap.size w w' := by
  cases hr : rightS X Y L
  · have H1 := right_any X Y L hX hY
    rw [hr] at H1
    exact corners_no X Y L i H1 w
  · obtain ⟨n, rfl, cl⟩ := (rightS_iff X Y L).1 hr
    refine corners_ok X Y n i cl _ (quarter_any X Y (n : Int) i hX hY) ?_ w
    by_cases h : rightS X Y (n : Int) = true ∧ (n : Int) ≠ 0 ∧ 0 ≤ i ∧ i ≤ 3
    · refine .inr ?_
      obtain ⟨m, hm, c⟩ := right_pos h.1 h.2.1
      obtain rfl : n = m + 1 := by omega
      obtain ⟨k, rfl⟩ := Int.eq_ofNat_of_zero_le h.2.2.1
      have hk : k < 4 := by omega
      rw [quart_yes c hk]
      have q := c.quarter k hk
      have hh := ((c.in_quarter k hk).1 (corner_has q).1)
      have hqx := q.x31; have hqy := q.y31
      refine ⟨rfl, fun w => ?_, fun w => ?_⟩
      · have := where_any X Y ((m + 1 : Nat) : Int) (X + 2 ^ m * (k % 2)) (Y + 2 ^ m * (k / 2)) hX hY (by omega) (by omega) w
        rw [show wher X Y ((m + 1 : Nat) : Int) (X + 2 ^ m * (k % 2)) (Y + 2 ^ m * (k / 2)) = (k, 0) by unfold wher; rw [if_pos ⟨hh.1, h.2.1⟩, pred_nat, hh.2]] at this
        exact this
      · have := right_any (X + 2 ^ m * (k % 2)) (Y + 2 ^ m * (k / 2)) (m : Int) (by omega) (by omega) w
        rw [(rightS_nat _ _ m).2 q] at this
        exact this
    · refine .inl ⟨by unfold quart; rw [if_neg h], ?_⟩
      by_cases a : (n : Int) = 0
      · exact .inl a
      · by_cases b : i < 0
        · exact .inr (.inl b)
        · exact .inr (.inr (by
            by_cases d : 3 < i
            · exact d
            · exact absurd ⟨hr, a, by omega, by omega⟩ h))
end Go.Proofs.Ytpfjfekpjlfibaa.Rc
