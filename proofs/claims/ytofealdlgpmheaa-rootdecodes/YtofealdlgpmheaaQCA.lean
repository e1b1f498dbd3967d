/- Cells and boxes, in plain terms. -/
import Derived.Lib.BitFns
namespace Go.Proofs.Ytofealdlgpmheaa.Rc
open Go.Lib
/-- A place, cut down to a multiple of 2 to the n. -/
def flr (a n : Nat) : Nat := a / 2 ^ n * 2 ^ n
theorem flr_le (a n : Nat) : flr a n ≤ a := Nat.div_mul_le_self _ _
theorem flr_lt (a n : Nat) : a < flr a n + 2 ^ n := by
  unfold flr
  have h1 := Nat.div_add_mod a (2 ^ n)
  have h2 := Nat.mod_lt a (Nat.two_pow_pos n)
  rw [Nat.mul_comm] at h1
  omega
theorem flr_eq (a n : Nat) : flr a n = a ↔ a % 2 ^ n = 0 := by
  unfold flr
  have h1 := Nat.div_add_mod a (2 ^ n)
  rw [Nat.mul_comm] at h1
  omega
theorem flr_mul (q n : Nat) : flr (q * 2 ^ n) n = q * 2 ^ n := by unfold flr; rw [Nat.mul_div_cancel _ (Nat.two_pow_pos n)]
theorem flr_is {X x n : Nat} (h : flr X n = X) : flr x n = X ↔ X ≤ x ∧ x < X + 2 ^ n := by
  constructor
  · intro e; have h1 := flr_le x n; have h2 := flr_lt x n; omega
  · rintro ⟨h1, h2⟩
    unfold flr at h ⊢
    rw [← h] at h1 h2 ⊢
    congr 1
    exact Nat.div_eq_of_lt_le h1 (by rw [Nat.add_mul]; omega)
theorem flr_down (a : Nat) {n m : Nat} (h : m ≤ n) : flr (flr a n) m = flr a n := by
  obtain ⟨k, rfl⟩ := Nat.le.dest h
  have : flr a (m + k) = (a / 2 ^ (m + k) * 2 ^ k) * 2 ^ m := by unfold flr; rw [Nat.mul_assoc, ← Nat.pow_add, Nat.add_comm k m]
  rw [this, flr_mul]
/-- Which half of a place of the next size. -/
theorem flr_half (a n : Nat) : flr a n = flr a (n + 1) + 2 ^ n * (a / 2 ^ n % 2) := by
  unfold flr
  rw [Nat.pow_succ, ← Nat.div_div_eq_div_mul]
  have h := Nat.div_add_mod (a / 2 ^ n) 2
  generalize a / 2 ^ n = q at *
  generalize 2 ^ n = s at *
  have e : q / 2 * (s * 2) + s * (q % 2) = (2 * (q / 2) + q % 2) * s := by rw [Nat.add_mul, Nat.mul_comm s (q % 2), Nat.mul_comm 2 (q / 2), Nat.mul_assoc, Nat.mul_comm 2 s]
  rw [e, h]
theorem andNot_flr (a n : Nat) (ha : a < 4294967296) (hn : n ≤ 32) : a &&& (4294967295 - (2 ^ n - 1)) = flr a n := by
  apply Nat.eq_of_testBit_eq
  intro i
  have hp := Nat.two_pow_pos n
  rw [Nat.testBit_and, show 4294967295 - (2 ^ n - 1) = 2 ^ 32 - ((2 ^ n - 1) + 1) by omega, Nat.testBit_two_pow_sub_succ (by have := Nat.pow_le_pow_right (n := 2) (by decide) hn; omega), Nat.testBit_two_pow_sub_one]
  unfold flr
  rw [Nat.testBit_mul_two_pow]
  by_cases h : n ≤ i
  · rw [Nat.testBit_div_two_pow, Nat.sub_add_cancel h]
    by_cases h2 : i < 32
    · simp [h, h2, Nat.not_lt.2 h]
    · have : a.testBit i = false := Nat.testBit_lt_two_pow (Nat.lt_of_lt_of_le ha (Nat.pow_le_pow_right (n := 2) (i := 32) (j := i) (by decide) (by omega)))
      simp [this]
  · simp [h, Nat.lt_of_not_le h]
/-- The number of bits, and the powers above it. -/
theorem lt_bitLenAux : ∀ (f x : Nat), x < 2 ^ f → x < 2 ^ bitLenAux f x
  | 0, x, h => by simpa [bitLenAux] using h
  | f + 1, x, h => by
    simp only [bitLenAux]
    split
    · rename_i h0; simp [h0]
    · have := lt_bitLenAux f (x / 2) (by rw [Nat.pow_succ] at h; omega)
      rw [Nat.add_comm, Nat.pow_succ]; omega
theorem bitLen_iff (x k : Nat) (hx : x < 2 ^ 64) : bitLen x ≤ k ↔ x < 2 ^ k := by
  constructor
  · intro h; exact Nat.lt_of_lt_of_le (lt_bitLenAux 64 x hx) (Nat.pow_le_pow_right (by decide) h)
  · intro h
    by_cases hk : k ≤ 64
    · exact bitLen_le x k hk h
    · exact Nat.le_trans (bitLen_le x 64 (Nat.le_refl _) hx) (by omega)
/-- Two places are cut down to one, just if no bit of that worth parts them. -/
theorem xor_lt (x u n : Nat) : x ^^^ u < 2 ^ n ↔ flr x n = flr u n := by
  have e : flr x n = flr u n ↔ x / 2 ^ n = u / 2 ^ n := by
    unfold flr; exact ⟨fun h => Nat.eq_of_mul_eq_mul_right (Nat.two_pow_pos n) h, fun h => by rw [h]⟩
  have z : (x ^^^ u) / 2 ^ n = (x / 2 ^ n) ^^^ (u / 2 ^ n) := by rw [← Nat.shiftRight_eq_div_pow, ← Nat.shiftRight_eq_div_pow, ← Nat.shiftRight_eq_div_pow, Nat.shiftRight_xor_distrib]
  rw [e, ← Nat.div_eq_zero_iff_lt (Nat.two_pow_pos n), z]
  constructor
  · intro h
    have h2 : (x / 2 ^ n ^^^ u / 2 ^ n) ^^^ u / 2 ^ n = x / 2 ^ n := by rw [Nat.xor_assoc, Nat.xor_self, Nat.xor_zero]
    rw [h, Nat.zero_xor] at h2
    exact h2.symm
  · intro h; rw [h, Nat.xor_self]
theorem or_lt (a b n : Nat) : a ||| b < 2 ^ n ↔ a < 2 ^ n ∧ b < 2 ^ n := ⟨fun h => ⟨Nat.lt_of_le_of_lt Nat.left_le_or h, Nat.lt_of_le_of_lt Nat.right_le_or h⟩, fun h => Nat.or_lt_two_pow h.1 h.2⟩
/-- The level of the least cell of two points. -/
def lvl (x y u v : Nat) : Nat := bitLen ((x ^^^ u) ||| (y ^^^ v))
theorem lvl_iff (x y u v k : Nat) (hx : x < 4294967296) (hy : y < 4294967296) (hu : u < 4294967296) (hv : v < 4294967296) : lvl x y u v ≤ k ↔ flr x k = flr u k ∧ flr y k = flr v k := by
  unfold lvl
  rw [bitLen_iff _ _ (Nat.lt_of_lt_of_le (Nat.or_lt_two_pow (n := 32) (Nat.xor_lt_two_pow hx hu) (Nat.xor_lt_two_pow hy hv)) (by decide)), or_lt, xor_lt, xor_lt]
theorem flr_top {a n : Nat} (h : a < 2 ^ n) : flr a n = 0 := by unfold flr; rw [Nat.div_eq_of_lt h]; simp
theorem lvl_le (x y u v : Nat) (hx : x < 2147483648) (hy : y < 2147483648) (hu : u < 2147483648) (hv : v < 2147483648) : lvl x y u v ≤ 31 :=
  (lvl_iff x y u v 31 (by omega) (by omega) (by omega) (by omega)).2 ⟨by rw [flr_top (n := 31) hx, flr_top (n := 31) hu], by rw [flr_top (n := 31) hy, flr_top (n := 31) hv]⟩
theorem pow_le31 {n : Nat} (h : n ≤ 31) : 2 ^ n ≤ 2147483648 := Nat.pow_le_pow_right (n := 2) (i := n) (j := 31) (by decide) h
/-- A right cell ends on the plane. -/
theorem flr_end {X n : Nat} (hn : n ≤ 31) (hX : X < 2147483648) (h : flr X n = X) : X + 2 ^ n ≤ 2147483648 := by
  have h1 : X % 2 ^ n = 0 := (flr_eq X n).1 h
  obtain ⟨k, hk⟩ := Nat.le.dest hn
  have e : 2 ^ n * 2 ^ k = 2147483648 := by rw [← Nat.pow_add, hk]
  rw [← e] at hX ⊢
  obtain ⟨q, rfl⟩ : ∃ q, X = 2 ^ n * q := ⟨X / 2 ^ n, by have := Nat.div_add_mod X (2 ^ n); omega⟩
  have : q < 2 ^ k := Nat.lt_of_mul_lt_mul_left hX
  have h3 := Nat.mul_le_mul_left (2 ^ n) (Nat.succ_le_of_lt this)
  rw [Nat.mul_succ] at h3
  exact h3
end Go.Proofs.Ytofealdlgpmheaa.Rc
/- What follows of cells, in plain terms. -/
namespace Go.Proofs.Ytofealdlgpmheaa.Rc
def onS (x y : Nat) : Bool := decide (x < 2147483648 ∧ y < 2147483648)
def rightS (X Y : Nat) (L : Int) : Bool := decide (0 ≤ L ∧ L ≤ 31 ∧ X < 2147483648 ∧ Y < 2147483648 ∧ flr X L.toNat = X ∧ flr Y L.toNat = Y)
def hasS (X Y : Nat) (L : Int) (x y : Nat) : Bool := decide (rightS X Y L = true ∧ flr x L.toNat = X ∧ flr y L.toNat = Y)
def boxS (a b c d : Nat) : Bool := decide (a ≤ c ∧ b ≤ d ∧ c < 2147483648 ∧ d < 2147483648)
def inS (a b c d x y : Nat) : Bool := decide (boxS a b c d = true ∧ a ≤ x ∧ x ≤ c ∧ b ≤ y ∧ y ≤ d)
def touchS (X Y : Nat) (L : Int) (a b c d : Nat) : Bool := decide (rightS X Y L = true ∧ boxS a b c d = true ∧ a < X + 2 ^ L.toNat ∧ X ≤ c ∧ b < Y + 2 ^ L.toNat ∧ Y ≤ d)
def withinS (X Y : Nat) (L : Int) (a b c d : Nat) : Bool := decide (rightS X Y L = true ∧ boxS a b c d = true ∧ a ≤ X ∧ X + 2 ^ L.toNat ≤ c + 1 ∧ b ≤ Y ∧ Y + 2 ^ L.toNat ≤ d + 1)
/-- How far a place is from those from X on, 2 to the n of them. -/
def gapS (x X n : Nat) : Nat := if x < X then X - x else if X + 2 ^ n ≤ x then x - (X + (2 ^ n - 1)) else 0
def farS (X Y n x y : Nat) : Nat := gapS x X n * gapS x X n + gapS y Y n * gapS y Y n
/-- The number of the quarter that has a point. -/
def wq (n x y : Nat) : Nat := x / 2 ^ n % 2 + 2 * (y / 2 ^ n % 2)
theorem wq_lt (n x y : Nat) : wq n x y < 4 := by unfold wq; omega
structure Cl (X Y n : Nat) : Prop where
  n31 : n ≤ 31
  x31 : X < 2147483648
  y31 : Y < 2147483648
  fx : flr X n = X
  fy : flr Y n = Y
theorem rightS_iff (X Y : Nat) (L : Int) : rightS X Y L = true ↔ ∃ n : Nat, L = (n : Int) ∧ Cl X Y n := by
  unfold rightS
  rw [decide_eq_true_iff]
  constructor
  · rintro ⟨h0, h1, h2, h3, h4, h5⟩
    exact ⟨L.toNat, by omega, by omega, h2, h3, h4, h5⟩
  · rintro ⟨n, rfl, c⟩
    exact ⟨by omega, by have := c.n31; omega, c.x31, c.y31, c.fx, c.fy⟩
theorem rightS_nat (X Y n : Nat) : rightS X Y (n : Int) = true ↔ Cl X Y n := by
  rw [rightS_iff]
  exact ⟨fun ⟨m, e, c⟩ => by obtain rfl : n = m := by omega
                             exact c, fun c => ⟨n, rfl, c⟩⟩
theorem Cl.xe {X Y n : Nat} (c : Cl X Y n) : X + 2 ^ n ≤ 2147483648 := flr_end c.n31 c.x31 c.fx
theorem Cl.ye {X Y n : Nat} (c : Cl X Y n) : Y + 2 ^ n ≤ 2147483648 := flr_end c.n31 c.y31 c.fy
theorem hasS_iff (X Y n x y : Nat) (c : Cl X Y n) : hasS X Y (n : Int) x y = true ↔ (X ≤ x ∧ x < X + 2 ^ n) ∧ (Y ≤ y ∧ y < Y + 2 ^ n) := by
  unfold hasS
  rw [decide_eq_true_iff, rightS_nat, Int.toNat_natCast, flr_is c.fx, flr_is c.fy]
  exact ⟨fun h => h.2, fun h => ⟨c, h⟩⟩
theorem hasS_right {X Y : Nat} {L : Int} {x y : Nat} (h : hasS X Y L x y = true) : rightS X Y L = true := by
  unfold hasS at h; rw [decide_eq_true_iff] at h; exact h.1
theorem hasS_no {X Y : Nat} {L : Int} (x y : Nat) (h : rightS X Y L = false) : hasS X Y L x y = false := by
  cases e : hasS X Y L x y
  · rfl
  · rw [hasS_right e] at h; cases h
/-- A quarter of a cell. -/
theorem Cl.half {X Y n : Nat} (c : Cl X Y (n + 1)) : flr X n = X ∧ flr Y n = Y ∧ flr (X + 2 ^ n) n = X + 2 ^ n ∧ flr (Y + 2 ^ n) n = Y + 2 ^ n := by
  have d : ∀ a, flr a (n + 1) = a → flr a n = a ∧ flr (a + 2 ^ n) n = a + 2 ^ n := fun a h => by
    have h1 : flr a n = a := by have := flr_down a (Nat.le_succ n); rw [h] at this; exact this
    refine ⟨h1, ?_⟩
    have : a + 2 ^ n = (a / 2 ^ n + 1) * 2 ^ n := by rw [Nat.add_mul, Nat.one_mul]; unfold flr at h1; rw [h1]
    rw [this, flr_mul]
  exact ⟨(d X c.fx).1, (d Y c.fy).1, (d X c.fx).2, (d Y c.fy).2⟩
theorem Cl.quarter {X Y n : Nat} (c : Cl X Y (n + 1)) (k : Nat) (hk : k < 4) : Cl (X + 2 ^ n * (k % 2)) (Y + 2 ^ n * (k / 2)) n := by
  obtain ⟨h1, h2, h3, h4⟩ := c.half
  have hx := c.xe; have hy := c.ye
  have hp := Nat.two_pow_pos n
  rw [Nat.pow_succ] at hx hy
  have hn := c.n31; have h5 := c.x31; have h6 := c.y31
  obtain rfl | rfl | rfl | rfl : k = 0 ∨ k = 1 ∨ k = 2 ∨ k = 3 := by omega
  all_goals simp
  all_goals exact ⟨by omega, by omega, by omega, by assumption, by assumption⟩
theorem has_where {X Y n x y : Nat} (h : hasS X Y ((n + 1 : Nat) : Int) x y = true) : flr x n = X + 2 ^ n * (wq n x y % 2) ∧ flr y n = Y + 2 ^ n * (wq n x y / 2) := by
  unfold hasS at h
  rw [decide_eq_true_iff, Int.toNat_natCast] at h
  have e1 := flr_half x n; have e2 := flr_half y n
  rw [h.2.1] at e1; rw [h.2.2] at e2
  have d1 : wq n x y % 2 = x / 2 ^ n % 2 := by unfold wq; omega
  have d2 : wq n x y / 2 = y / 2 ^ n % 2 := by unfold wq; omega
  rw [d1, d2]; exact ⟨e1, e2⟩
theorem mul_two_inj {s a b : Nat} (hs : 0 < s) (h : s * a = s * b) : a = b := Nat.eq_of_mul_eq_mul_left hs h
/-- A point of a cell is in just that quarter of it. -/
theorem Cl.in_quarter {X Y n x y : Nat} (c : Cl X Y (n + 1)) (k : Nat) (hk : k < 4) :
    hasS (X + 2 ^ n * (k % 2)) (Y + 2 ^ n * (k / 2)) (n : Int) x y = true ↔ hasS X Y ((n + 1 : Nat) : Int) x y = true ∧ wq n x y = k := by
  have hp := Nat.two_pow_pos n
  constructor
  · intro h
    have q := c.quarter k hk
    have h' := h
    rw [hasS_iff _ _ _ _ _ q] at h
    have hh : hasS X Y ((n + 1 : Nat) : Int) x y = true := by
      rw [hasS_iff _ _ _ _ _ c, Nat.pow_succ]
      obtain rfl | rfl | rfl | rfl : k = 0 ∨ k = 1 ∨ k = 2 ∨ k = 3 := by omega
      all_goals simp at h
      all_goals omega
    refine ⟨hh, ?_⟩
    obtain ⟨e1, e2⟩ := has_where hh
    unfold hasS at h'
    rw [decide_eq_true_iff, Int.toNat_natCast] at h'
    have f1 := mul_two_inj hp (Nat.add_left_cancel (h'.2.1.symm.trans e1))
    have f2 := mul_two_inj hp (Nat.add_left_cancel (h'.2.2.symm.trans e2))
    omega
  · rintro ⟨h, rfl⟩
    obtain ⟨e1, e2⟩ := has_where h
    unfold hasS
    rw [decide_eq_true_iff, Int.toNat_natCast, rightS_nat]
    exact ⟨c.quarter _ hk, e1, e2⟩
/-- The least cell of two points. -/
theorem least_cl {x y u v : Nat} (h : onS x y = true) (h2 : onS u v = true) : Cl (flr x (lvl x y u v)) (flr y (lvl x y u v)) (lvl x y u v) := by
  unfold onS at h h2
  rw [decide_eq_true_iff] at h h2
  exact ⟨lvl_le x y u v h.1 h.2 h2.1 h2.2, Nat.lt_of_le_of_lt (flr_le _ _) h.1, Nat.lt_of_le_of_lt (flr_le _ _) h.2, flr_down _ (Nat.le_refl _), flr_down _ (Nat.le_refl _)⟩
theorem least_has {x y u v : Nat} (h : onS x y = true) (h2 : onS u v = true) :
    hasS (flr x (lvl x y u v)) (flr y (lvl x y u v)) (lvl x y u v : Int) x y = true ∧ hasS (flr x (lvl x y u v)) (flr y (lvl x y u v)) (lvl x y u v : Int) u v = true := by
  have c := least_cl h h2
  unfold onS at h h2
  rw [decide_eq_true_iff] at h h2
  have e := (lvl_iff x y u v (lvl x y u v) (by omega) (by omega) (by omega) (by omega)).1 (Nat.le_refl _)
  unfold hasS
  rw [decide_eq_true_iff, decide_eq_true_iff, Int.toNat_natCast, rightS_nat]
  exact ⟨⟨c, rfl, rfl⟩, c, e.1.symm, e.2.symm⟩
theorem lvl_comm (x y u v : Nat) : lvl x y u v = lvl u v x y := by unfold lvl; rw [Nat.xor_comm x u, Nat.xor_comm y v]
theorem least_comm {x y u v : Nat} (h : onS x y = true) (h2 : onS u v = true) : flr x (lvl x y u v) = flr u (lvl u v x y) ∧ flr y (lvl x y u v) = flr v (lvl u v x y) := by
  unfold onS at h h2
  rw [decide_eq_true_iff] at h h2
  rw [← lvl_comm x y u v]
  exact (lvl_iff x y u v (lvl x y u v) (by omega) (by omega) (by omega) (by omega)).1 (Nat.le_refl _)
theorem flr_zero (a : Nat) : flr a 0 = a := by unfold flr; simp
theorem lvl_zero {x y u v : Nat} (h : onS x y = true) (h2 : onS u v = true) : lvl x y u v = 0 ↔ x = u ∧ y = v := by
  unfold onS at h h2
  rw [decide_eq_true_iff] at h h2
  have := lvl_iff x y u v 0 (by omega) (by omega) (by omega) (by omega)
  rw [flr_zero, flr_zero, flr_zero, flr_zero] at this
  rw [← this]; omega
theorem least_parts {x y u v n : Nat} (h : onS x y = true) (h2 : onS u v = true) (hn : lvl x y u v = n + 1) : wq n x y ≠ wq n u v := by
  intro e
  unfold onS at h h2
  rw [decide_eq_true_iff] at h h2
  have a := (lvl_iff x y u v (n + 1) (by omega) (by omega) (by omega) (by omega)).1 (by omega)
  have b : ¬ lvl x y u v ≤ n := by omega
  apply b
  rw [lvl_iff x y u v n (by omega) (by omega) (by omega) (by omega), flr_half x, flr_half u, flr_half y, flr_half v, a.1, a.2]
  unfold wq at e
  rw [show x / 2 ^ n % 2 = u / 2 ^ n % 2 by omega, show y / 2 ^ n % 2 = v / 2 ^ n % 2 by omega]
  exact ⟨rfl, rfl⟩
theorem corner_lvl {X Y n : Nat} (c : Cl X Y n) : lvl X Y (X + (2 ^ n - 1)) (Y + (2 ^ n - 1)) = n := by
  have hp := Nat.two_pow_pos n
  have hx := c.xe; have hy := c.ye; have h5 := c.x31; have h6 := c.y31
  have key := fun k => lvl_iff X Y (X + (2 ^ n - 1)) (Y + (2 ^ n - 1)) k (by omega) (by omega) (by omega) (by omega)
  refine Nat.le_antisymm ((key n).2 ⟨?_, ?_⟩) (Nat.le_of_not_lt fun hlt => ?_)
  · rw [c.fx]; exact ((flr_is c.fx).2 ⟨by omega, by omega⟩).symm
  · rw [c.fy]; exact ((flr_is c.fy).2 ⟨by omega, by omega⟩).symm
  · obtain ⟨m, hm⟩ : ∃ m, n = m + 1 := ⟨n - 1, by omega⟩
    have a := ((key m).1 (by omega)).1
    have f : flr X m = X := by have := flr_down X (n := n) (m := m) (by omega); rw [c.fx] at this; exact this
    rw [f] at a
    have := ((flr_is f).1 a.symm).2
    rw [hm, Nat.pow_succ] at this
    have := Nat.two_pow_pos m
    omega
theorem corner_has {X Y n : Nat} (c : Cl X Y n) : hasS X Y (n : Int) X Y = true ∧ hasS X Y (n : Int) (X + (2 ^ n - 1)) (Y + (2 ^ n - 1)) = true := by
  have hp := Nat.two_pow_pos n
  rw [hasS_iff _ _ _ _ _ c, hasS_iff _ _ _ _ _ c]
  exact ⟨⟨⟨by omega, by omega⟩, by omega, by omega⟩, ⟨by omega, by omega⟩, by omega, by omega⟩
/-- Distances. -/
def dist (x u : Nat) : Nat := max x u - min x u
theorem gap_le {x X n u : Nat} (h : X ≤ u ∧ u < X + 2 ^ n) : gapS x X n ≤ dist x u := by
  unfold gapS dist
  split
  · omega
  · split <;> omega
theorem gap_zero (x X n : Nat) : gapS x X n = 0 ↔ X ≤ x ∧ x < X + 2 ^ n := by
  have hp := Nat.two_pow_pos n
  unfold gapS
  split
  · omega
  · split <;> omega
theorem far_zero {X Y n x y : Nat} (c : Cl X Y n) : farS X Y n x y = 0 ↔ hasS X Y (n : Int) x y = true := by
  rw [hasS_iff _ _ _ _ _ c, ← gap_zero, ← gap_zero]
  unfold farS
  rw [Nat.add_eq_zero_iff, Nat.mul_eq_zero, Nat.mul_eq_zero]
  omega
theorem far_le {X Y n u v : Nat} (x y : Nat) (c : Cl X Y n) (h : hasS X Y (n : Int) u v = true) : farS X Y n x y ≤ dist x u * dist x u + dist y v * dist y v := by
  rw [hasS_iff _ _ _ _ _ c] at h
  unfold farS
  exact Nat.add_le_add (Nat.mul_le_mul (gap_le h.1) (gap_le h.1)) (Nat.mul_le_mul (gap_le h.2) (gap_le h.2))
theorem gap_lt {X n x : Nat} (hx : X + 2 ^ n ≤ 2147483648) (h : x < 2147483648) : gapS x X n < 2147483648 := by
  have hp := Nat.two_pow_pos n
  unfold gapS
  split
  · omega
  · split <;> omega
/-- Boxes. -/
theorem within_touch {X Y : Nat} {L : Int} {a b c d : Nat} (h : withinS X Y L a b c d = true) : touchS X Y L a b c d = true := by
  unfold withinS at h; unfold touchS
  rw [decide_eq_true_iff] at h ⊢
  have hp := Nat.two_pow_pos L.toNat
  exact ⟨h.1, h.2.1, by omega, by omega, by omega, by omega⟩
theorem within_in {X Y : Nat} {L : Int} {a b c d x y : Nat} (h : withinS X Y L a b c d = true) (h2 : hasS X Y L x y = true) : inS a b c d x y = true := by
  unfold withinS at h; unfold inS
  rw [decide_eq_true_iff] at h ⊢
  obtain ⟨n, rfl, q⟩ := (rightS_iff _ _ _).1 h.1
  rw [hasS_iff _ _ _ _ _ q] at h2
  rw [Int.toNat_natCast] at h
  exact ⟨h.2.1, by omega, by omega, by omega, by omega⟩
theorem touch_of {X Y : Nat} {L : Int} {a b c d x y : Nat} (h : inS a b c d x y = true) (h2 : hasS X Y L x y = true) : touchS X Y L a b c d = true := by
  unfold inS at h; unfold touchS
  rw [decide_eq_true_iff] at h ⊢
  have r := hasS_right h2
  obtain ⟨n, rfl, q⟩ := (rightS_iff _ _ _).1 r
  rw [hasS_iff _ _ _ _ _ q] at h2
  rw [Int.toNat_natCast]
  exact ⟨r, h.1, by omega, by omega, by omega, by omega⟩
end Go.Proofs.Ytofealdlgpmheaa.Rc
