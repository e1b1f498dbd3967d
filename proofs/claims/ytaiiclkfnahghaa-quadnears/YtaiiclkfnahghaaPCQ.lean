/- What is told, in plain terms; the program's and the reference's functions against it. -/
import Derived.Test.YtaiiclkfnahghaaQCL
import Derived.Test.YtaiiclkfnahghaaQEE
namespace Go.Proofs.Ytaiiclkfnahghaa.Rc
open Go.RowKit Go.Lib
def quart (X Y : Nat) (L i : Int) : Nat × Nat × Int × Int := if rightS X Y L = true ∧ L ≠ 0 ∧ 0 ≤ i ∧ i ≤ 3 then (X + 2 ^ (L - 1).toNat * (i.toNat % 2), Y + 2 ^ (L - 1).toNat * (i.toNat / 2), L - 1, 0) else (0, 0, 0, 2)
def wher (X Y : Nat) (L : Int) (x y : Nat) : Nat × Int := if hasS X Y L x y = true ∧ L ≠ 0 then (wq (L - 1).toNat x y, 0) else (0, 2)
def leas (x y u v : Nat) : Nat × Nat × Int × Int := if onS x y = true ∧ onS u v = true then (flr x (lvl x y u v), flr y (lvl x y u v), (lvl x y u v : Int), 0) else (0, 0, 0, 2)
def fars (X Y : Nat) (L : Int) (x y : Nat) : Nat × Int := if rightS X Y L = true ∧ onS x y = true then (farS X Y L.toNat x y, 0) else (0, 2)
abbrev qv (p : Nat × Nat × Int × Int) : Value := .tuple #[cv p.1 p.2.1 p.2.2.1, .int .i64 p.2.2.2]
abbrev wv (p : Nat × Int) : Value := .tuple #[.int .i64 (p.1 : Int), .int .i64 p.2]
abbrev fv (p : Nat × Int) : Value := .tuple #[.int .u64 (p.1 : Int), .int .i64 p.2]
set_option maxRecDepth 100000 in
/-- A right cell of a level above 0. -/
theorem right_pos {X Y : Nat} {L : Int} (h : rightS X Y L = true) (hL : L ≠ 0) : ∃ m : Nat, L = ((m + 1 : Nat) : Int) ∧ Cl X Y (m + 1) := by
  obtain ⟨n, rfl, c⟩ := (rightS_iff X Y L).1 h
  cases n with
  | zero => exact absurd rfl hL
  | succ m => exact ⟨m, rfl, c⟩
set_option maxRecDepth 100000 in
theorem pred_nat (m : Nat) : (((m + 1 : Nat) : Int) - 1).toNat = m := by omega
set_option maxRecDepth 100000 in
theorem pred_int (m : Nat) : ((m + 1 : Nat) : Int) - 1 = (m : Int) := by omega
set_option maxRecDepth 100000 in
theorem qx_is (X s : Nat) {k : Nat} (hk : k < 4) : qx X (X + s) k = X + s * (k % 2) := by
  obtain rfl | rfl | rfl | rfl : k = 0 ∨ k = 1 ∨ k = 2 ∨ k = 3 := by omega
  all_goals simp [qx]
set_option maxRecDepth 100000 in
theorem qy_is (Y s : Nat) {k : Nat} (hk : k < 4) : qy Y (Y + s) k = Y + s * (k / 2) := by
  obtain rfl | rfl | rfl | rfl : k = 0 ∨ k = 1 ∨ k = 2 ∨ k = 3 := by omega
  all_goals simp [qy]
set_option maxRecDepth 100000 in
theorem quart_yes {X Y m : Nat} (c : Cl X Y (m + 1)) {k : Nat} (hk : k < 4) : quart X Y ((m + 1 : Nat) : Int) (k : Int) = (X + 2 ^ m * (k % 2), Y + 2 ^ m * (k / 2), (m : Int), 0) := by
  unfold quart
  rw [if_pos ⟨(rightS_nat X Y (m + 1)).2 c, by omega, by omega, by omega⟩, pred_nat, pred_int, Int.toNat_natCast]
set_option maxRecDepth 100000 in
theorem eQuarter_any (X Y : Nat) (L i : Int) (hX : X < 4294967296) (hY : Y < 4294967296) (w : World) :
    Calls Try.prog 65 #[cv X Y L, .int .i64 i] w fun e w' => e = .returned (qv (quart X Y L i)) ∧ Below w.heap.size w w' := by
  have HC := eRight_any X Y L hX hY
  by_cases h : rightS X Y L = true ∧ L ≠ 0 ∧ 0 ≤ i ∧ i ≤ 3
  · obtain ⟨hr, hL, h0, h3⟩ := h
    rw [hr] at HC
    obtain ⟨m, rfl, c⟩ := right_pos hr hL
    obtain ⟨k, rfl⟩ := Int.eq_ofNat_of_zero_le h0
    have hk : k < 4 := by omega
    have HZ := eSize_any X Y (m + 1) c.n31
    have hxe := c.xe; have hye := c.ye
    have hp := pow_le31 c.n31
    rw [quart_yes c hk]
    rw [Nat.pow_succ] at hxe hye hp HZ
    have hs : IntKind.u64.wrap (((2 ^ m * 2 : Nat) : Int) / 2) % 4294967296 = ((2 ^ m : Nat) : Int) := by
      rw [show ((2 ^ m * 2 : Nat) : Int) / 2 = ((2 ^ m : Nat) : Int) by omega, u64_in _ (by omega)]
      omega
    have pX : (X : Int) % 4294967296 = (X : Int) := by omega
    have pY : (Y : Int) % 4294967296 = (Y : Int) := by omega
    have pXs : ((X : Int) + ((2 ^ m : Nat) : Int)) % 4294967296 = ((X + 2 ^ m : Nat) : Int) := by omega
    have pYs : ((Y : Int) + ((2 ^ m : Nat) : Int)) % 4294967296 = ((Y + 2 ^ m : Nat) : Int) := by omega
    have pm : wrap64 (((m + 1 : Nat) : Int) - 1) = (m : Int) := by unfold wrap64; have := c.n31; omega
    obtain rfl | rfl | rfl | rfl : k = 0 ∨ k = 1 ∨ k = 2 ∨ k = 3 := by omega
    · have := eQuarter_0 X Y _ (2 ^ m) (2 ^ m * 2) m hL hs pX pY pm HC HZ w
      simpa using this
    · have := eQuarter_1 X Y _ (X + 2 ^ m) (2 ^ m) (2 ^ m * 2) m hL hs pXs pY pm HC HZ w
      simpa using this
    · have := eQuarter_2 X Y _ (Y + 2 ^ m) (2 ^ m) (2 ^ m * 2) m hL hs pX pYs pm HC HZ w
      simpa using this
    · have := eQuarter_3 X Y _ (X + 2 ^ m) (Y + 2 ^ m) (2 ^ m) (2 ^ m * 2) m hL hs pXs pYs pm HC HZ w
      simpa using this
  · rw [show quart X Y L i = (0, 0, 0, 2) by unfold quart; rw [if_neg h]]
    refine eQuarter_no X Y L i _ HC ?_ w
    cases hr : rightS X Y L
    · exact .inl rfl
    · refine .inr ?_
      rw [hr] at h
      by_cases a : L = 0
      · exact .inl a
      · by_cases b : i < 0
        · exact .inr (.inl b)
        · exact .inr (.inr (by
            by_cases d : 3 < i
            · exact d
            · exact absurd ⟨rfl, a, by omega, by omega⟩ h))
set_option maxRecDepth 100000 in
theorem where_any (X Y : Nat) (L : Int) (x y : Nat) (hX : X < 4294967296) (hY : Y < 4294967296) (hx : x < 4294967296) (hy : y < 4294967296) (w : World) :
    Calls Try.prog 56 #[cv X Y L, .int .u32 (x : Int), .int .u32 (y : Int)] w fun e w' => e = .returned (wv (wher X Y L x y)) ∧ Below w.heap.size w w' := by
  by_cases h : hasS X Y L x y = true ∧ L ≠ 0
  · obtain ⟨m, rfl, c⟩ := right_pos (hasS_right h.1) h.2
    rw [show wher X Y ((m + 1 : Nat) : Int) x y = (wq m x y, 0) by unfold wher; rw [if_pos h, pred_nat]]
    exact callsIn_wide.1 (where_in X Y m x y c hx hy h.1 w)
  · rw [show wher X Y L x y = (0, 2) by unfold wher; rw [if_neg h]]
    refine callsIn_wide.1 (where_no X Y L x y hX hY hx hy ?_ w)
    cases e : hasS X Y L x y
    · exact .inl rfl
    · rw [e] at h
      exact .inr (by
        by_cases d : L = 0
        · exact d
        · exact absurd ⟨rfl, d⟩ h)
set_option maxRecDepth 100000 in
theorem least_any (x y u v : Nat) (w : World) :
    Calls Try.prog 83 #[.int .u32 (x : Int), .int .u32 (y : Int), .int .u32 (u : Int), .int .u32 (v : Int)] w fun e w' => e = .returned (qv (leas x y u v)) ∧ Below w.heap.size w w' := by
  by_cases h : onS x y = true ∧ onS u v = true
  · rw [show leas x y u v = (flr x (lvl x y u v), flr y (lvl x y u v), (lvl x y u v : Int), 0) by unfold leas; rw [if_pos h]]
    exact least_ok x y u v h.1 h.2 w
  · rw [show leas x y u v = (0, 0, 0, 2) by unfold leas; rw [if_neg h]]
    exact least_no x y u v (by simpa using h) w
set_option maxRecDepth 100000 in
theorem far_any (X Y : Nat) (L : Int) (x y : Nat) (hX : X < 4294967296) (hY : Y < 4294967296) (w : World) :
    Calls Try.prog 32 #[cv X Y L, .int .u32 (x : Int), .int .u32 (y : Int)] w fun e w' => e = .returned (fv (fars X Y L x y)) ∧ Below w.heap.size w w' := by
  by_cases h : rightS X Y L = true ∧ onS x y = true
  · obtain ⟨n, rfl, c⟩ := (rightS_iff X Y L).1 h.1
    rw [show fars X Y (n : Int) x y = (farS X Y n x y, 0) by unfold fars; rw [if_pos h, Int.toNat_natCast]]
    exact far_ok X Y n x y c h.2 w
  · rw [show fars X Y L x y = (0, 2) by unfold fars; rw [if_neg h]]
    exact far_no X Y L x y hX hY (by simpa using h) w
end Go.Proofs.Ytaiiclkfnahghaa.Rc
