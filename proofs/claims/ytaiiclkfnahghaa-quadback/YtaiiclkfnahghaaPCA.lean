/- Cells and boxes, in plain terms. -/
import Derived.Lib.BitFns
namespace Go.Proofs.Ytaiiclkfnahghaa.Rc
open Go.Lib
/-- A place, cut down to a multiple of 2 to the n. -/
def flr (a n : Nat) : Nat := a / 2 ^ n * 2 ^ n
theorem flr_le (a n : Nat) : flr a n ≤ a := Nat.div_mul_le_self _ _
theorem flr_lt (a n : Nat) : a < flr a n + 2 ^ n := by
  unfold flr
  have h1 := Nat.div_add_mod a (2 ^ n)
  have h2 := Nat.mod_lt a (Nat.two_pow_pos n)
  rw [Nat.mul_comm] at h1
  omega
theorem flr_eq (a n : Nat) : flr a n = a ↔ a % 2 ^ n = 0 := by
  unfold flr
  have h1 := Nat.div_add_mod a (2 ^ n)
  rw [Nat.mul_comm] at h1
  omega
theorem flr_mul (q n : Nat) : flr (q * 2 ^ n) n = q * 2 ^ n := by unfold flr; rw [Nat.mul_div_cancel _ (Nat.two_pow_pos n)]
theorem flr_is {X x n : Nat} (h : flr X n = X) : flr x n = X ↔ X ≤ x ∧ x < X + 2 ^ n := by
  constructor
  · intro e; have h1 := flr_le x n; have h2 := flr_lt x n; omega
  · rintro ⟨h1, h2⟩
    unfold flr at h ⊢
    rw [← h] at h1 h2 ⊢
    congr 1
    exact Nat.div_eq_of_lt_le h1 (by rw [Nat.add_mul]; omega)
theorem flr_down (a : Nat) {n m : Nat} (h : m ≤ n) : flr (flr a n) m = flr a n := by
  obtain ⟨k, rfl⟩ := Nat.le.dest h
  have : flr a (m + k) = (a / 2 ^ (m + k) * 2 ^ k) * 2 ^ m := by unfold flr; rw [Nat.mul_assoc, ← Nat.pow_add, Nat.add_comm k m]
  rw [this, flr_mul]
/-- Which half of a place of the next size. -/
theorem flr_half (a n : Nat) : flr a n = flr a (n + 1) + 2 ^ n * (a / 2 ^ n % 2) := by
  unfold flr
  rw [Nat.pow_succ, ← Nat.div_div_eq_div_mul]
  have h := Nat.div_add_mod (a / 2 ^ n) 2
  generalize a / 2 ^ n = q at *
  generalize 2 ^ n = s at *
  have e : q / 2 * (s * 2) + s * (q % 2) = (2 * (q / 2) + q % 2) * s := by rw [Nat.add_mul, Nat.mul_comm s (q % 2), Nat.mul_comm 2 (q / 2), Nat.mul_assoc, Nat.mul_comm 2 s]
  rw [e, h]
theorem andNot_flr (a n : Nat) (ha : a < 4294967296) (hn : n ≤ 32) : a &&& (4294967295 - (2 ^ n - 1)) = flr a n := by
  apply Nat.eq_of_testBit_eq
  intro i
  have hp := Nat.two_pow_pos n
  rw [Nat.testBit_and, show 4294967295 - (2 ^ n - 1) = 2 ^ 32 - ((2 ^ n - 1) + 1) by omega, Nat.testBit_two_pow_sub_succ (by have := Nat.pow_le_pow_right (n := 2) (by decide) hn; omega), Nat.testBit_two_pow_sub_one]
  unfold flr
  rw [Nat.testBit_mul_two_pow]
  by_cases h : n ≤ i
  · rw [Nat.testBit_div_two_pow, Nat.sub_add_cancel h]
    by_cases h2 : i < 32
    · simp [h, h2, Nat.not_lt.2 h]
    · have : a.testBit i = false := Nat.testBit_lt_two_pow (Nat.lt_of_lt_of_le ha (Nat.pow_le_pow_right (n := 2) (i := 32) (j := i) (by decide) (by omega)))
      simp [this]
  · simp [h, Nat.lt_of_not_le h]
/-- The number of bits, and the powers above it. -/
theorem lt_bitLenAux : ∀ (f x : Nat), x < 2 ^ f → x < 2 ^ bitLenAux f x
  | 0, x, h => by simpa [bitLenAux] using h
  | f + 1, x, h => by
    simp only [bitLenAux]
    split
    · rename_i h0; simp [h0]
    · have := lt_bitLenAux f (x / 2) (by rw [Nat.pow_succ] at h; omega)
      rw [Nat.add_comm, Nat.pow_succ]; omega
theorem bitLen_iff (x k : Nat) (hx : x < 2 ^ 64) : bitLen x ≤ k ↔ x < 2 ^ k := by
  constructor
  · intro h; exact Nat.lt_of_lt_of_le (lt_bitLenAux 64 x hx) (Nat.pow_le_pow_right (by decide) h)
  · intro h
    by_cases hk : k ≤ 64
    · exact bitLen_le x k hk h
    · exact Nat.le_trans (bitLen_le x 64 (Nat.le_refl _) hx) (by omega)
/-- Two places are cut down to one, just if no bit of that worth parts them. -/
theorem xor_lt (x u n : Nat) : x ^^^ u < 2 ^ n ↔ flr x n = flr u n := by
  have e : flr x n = flr u n ↔ x / 2 ^ n = u / 2 ^ n := by
    unfold flr; exact ⟨fun h => Nat.eq_of_mul_eq_mul_right (Nat.two_pow_pos n) h, fun h => by rw [h]⟩
  have z : (x ^^^ u) / 2 ^ n = (x / 2 ^ n) ^^^ (u / 2 ^ n) := by rw [← Nat.shiftRight_eq_div_pow, ← Nat.shiftRight_eq_div_pow, ← Nat.shiftRight_eq_div_pow, Nat.shiftRight_xor_distrib]
  rw [e, ← Nat.div_eq_zero_iff_lt (Nat.two_pow_pos n), z]
  constructor
  · intro h
    have h2 : (x / 2 ^ n ^^^ u / 2 ^ n) ^^^ u / 2 ^ n = x / 2 ^ n := by rw [Nat.xor_assoc, Nat.xor_self, Nat.xor_zero]
    rw [h, Nat.zero_xor] at h2
    exact h2.symm
  · intro h; rw [h, Nat.xor_self]
theorem or_lt (a b n : Nat) : a ||| b < 2 ^ n ↔ a < 2 ^ n ∧ b < 2 ^ n := ⟨fun h => ⟨Nat.lt_of_le_of_lt Nat.left_le_or h, Nat.lt_of_le_of_lt Nat.right_le_or h⟩, fun h => Nat.or_lt_two_pow h.1 h.2⟩
/-- The level of the least cell of two points. -/
def lvl (x y u v : Nat) : Nat := bitLen ((x ^^^ u) ||| (y ^^^ v))
theorem lvl_iff (x y u v k : Nat) (hx : x < 4294967296) (hy : y < 4294967296) (hu : u < 4294967296) (hv : v < 4294967296) : lvl x y u v ≤ k ↔ flr x k = flr u k ∧ flr y k = flr v k := by
  unfold lvl
  rw [bitLen_iff _ _ (Nat.lt_of_lt_of_le (Nat.or_lt_two_pow (n := 32) (Nat.xor_lt_two_pow hx hu) (Nat.xor_lt_two_pow hy hv)) (by decide)), or_lt, xor_lt, xor_lt]
theorem flr_top {a n : Nat} (h : a < 2 ^ n) : flr a n = 0 := by unfold flr; rw [Nat.div_eq_of_lt h]; simp
theorem lvl_le (x y u v : Nat) (hx : x < 2147483648) (hy : y < 2147483648) (hu : u < 2147483648) (hv : v < 2147483648) : lvl x y u v ≤ 31 :=
  (lvl_iff x y u v 31 (by omega) (by omega) (by omega) (by omega)).2 ⟨by rw [flr_top (n := 31) hx, flr_top (n := 31) hu], by rw [flr_top (n := 31) hy, flr_top (n := 31) hv]⟩
theorem pow_le31 {n : Nat} (h : n ≤ 31) : 2 ^ n ≤ 2147483648 := Nat.pow_le_pow_right (n := 2) (i := n) (j := 31) (by decide) h
/-- A right cell ends on the plane. -/
theorem flr_end {X n : Nat} (hn : n ≤ 31) (hX : X < 2147483648) (h : flr X n = X) : X + 2 ^ n ≤ 2147483648 := by
  have h1 : X % 2 ^ n = 0 := (flr_eq X n).1 h
  obtain ⟨k, hk⟩ := Nat.le.dest hn
  have e : 2 ^ n * 2 ^ k = 2147483648 := by rw [← Nat.pow_add, hk]
  rw [← e] at hX ⊢
  obtain ⟨q, rfl⟩ : ∃ q, X = 2 ^ n * q := ⟨X / 2 ^ n, by have := Nat.div_add_mod X (2 ^ n); omega⟩
  have : q < 2 ^ k := Nat.lt_of_mul_lt_mul_left hX
  have h3 := Nat.mul_le_mul_left (2 ^ n) (Nat.succ_le_of_lt this)
  rw [Nat.mul_succ] at h3
  exact h3
end Go.Proofs.Ytaiiclkfnahghaa.Rc
