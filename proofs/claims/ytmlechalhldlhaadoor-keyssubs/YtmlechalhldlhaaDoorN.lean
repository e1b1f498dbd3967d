/- Plain: bytes read as words, and turned words, either way. -/
import Derived.Test.YtmlechalhldlhaaDoorJ
import Derived.Laws.BitsAllLaws
namespace Go.Proofs.YtmlechalhldlhaaDoor
open Go.RowKit
theorem or_mul (a b i m : Nat) (hm : m = 2 ^ i) (h : a < m) : (b * m) ||| a = b * m + a := by
  subst hm
  rw [← Nat.shiftLeft_eq, Nat.shiftLeft_add_eq_or_of_lt h]
theorem or_comm (k : IntKind) (x y : Int) : bits .or k x y = bits .or k y x := by
  unfold bits
  simp only [BitVec.or_comm]
theorem or_add (x y : Int) (i m : Nat) (hm : m = 2 ^ i) (h0 : 0 ≤ x) (h1 : x * m < 4294967296) (h2 : 0 ≤ y) (h3 : y < m) (h4 : y < 4294967296) : bits .or .u32 (x * m) y = x * m + y := by
  obtain ⟨a, rfl⟩ := Int.eq_ofNat_of_zero_le h0
  obtain ⟨b, rfl⟩ := Int.eq_ofNat_of_zero_le h2
  have e : ((a : Int) * (m : Int)) = ((a * m : Nat) : Int) := by simp
  rw [e] at h1 ⊢
  rw [u32_or_nat (a * m) b (by omega) (by omega), or_mul b a i m hm (by omega)]
  simp
/-- The word that four bytes say. -/
def wd (q : Nat → Int) (i : Nat) : Int := q (4 * i) * 16777216 + q (4 * i + 1) * 65536 + q (4 * i + 2) * 256 + q (4 * i + 3)
/-- The word that the first so many bytes say. -/
def pw (q : Nat → Int) (k i : Nat) : Int :=
  if k ≤ 4 * i then 0 else if k = 4 * i + 1 then q (4 * i) else if k = 4 * i + 2 then q (4 * i) * 256 + q (4 * i + 1) else if k = 4 * i + 3 then q (4 * i) * 65536 + q (4 * i + 1) * 256 + q (4 * i + 2) else wd q i
theorem pw_step (q : Nat → Int) (hq : ∀ j, 0 ≤ q j ∧ q j < 256) (k : Nat) : bits .or .u32 (pw q k (k / 4) * 256 % 4294967296) (q k) = pw q (k + 1) (k / 4) := by
  obtain ⟨a, ha⟩ : ∃ a, k / 4 = a := ⟨_, rfl⟩
  rw [ha]
  have q0 := hq (4 * a)
  have q1 := hq (4 * a + 1)
  have q2 := hq (4 * a + 2)
  have q3 := hq (4 * a + 3)
  have hk : k = 4 * a ∨ k = 4 * a + 1 ∨ k = 4 * a + 2 ∨ k = 4 * a + 3 := by omega
  have B : ∀ x y : Int, 0 ≤ x → x * 256 < 4294967296 → 0 ≤ y → y < 256 → bits .or .u32 (x * 256 % 4294967296) y = x * 256 + y := fun x y h0 h1 h2 h3 => by
    rw [Int.emod_eq_of_lt (by omega) h1]
    exact or_add x y 8 256 (by decide) h0 h1 h2 h3 (by omega)
  have P0 : pw q (4 * a) a = 0 := by unfold pw; rw [if_pos (by omega)]
  have P1 : pw q (4 * a + 1) a = q (4 * a) := by unfold pw; rw [if_neg (by omega), if_pos rfl]
  have P2 : pw q (4 * a + 2) a = q (4 * a) * 256 + q (4 * a + 1) := by unfold pw; rw [if_neg (by omega), if_neg (by omega), if_pos rfl]
  have P3 : pw q (4 * a + 3) a = q (4 * a) * 65536 + q (4 * a + 1) * 256 + q (4 * a + 2) := by unfold pw; rw [if_neg (by omega), if_neg (by omega), if_neg (by omega), if_pos rfl]
  have P4 : pw q (4 * a + 4) a = wd q a := by unfold pw; rw [if_neg (by omega), if_neg (by omega), if_neg (by omega), if_neg (by omega)]
  rcases hk with rfl | rfl | rfl | rfl
  · rw [P0, P1, B _ _ (by omega) (by omega) (by omega) (by omega)]; omega
  · rw [P1, P2, B _ _ (by omega) (by omega) (by omega) (by omega)]
  · rw [P2, P3, B _ _ (by omega) (by omega) (by omega) (by omega)]; omega
  · rw [P3, P4, B _ _ (by omega) (by omega) (by omega) (by omega)]; unfold wd; omega
theorem rw4_pw (q : Nat → Int) (hq : ∀ j, 0 ≤ q j ∧ q j < 256) (k : Nat) : ∀ i, rw4 q k i = pw q k i := by
  induction k with
  | zero => intro i; simp [rw4, pw]
  | succ k ih =>
    intro i
    show upd (rw4 q k) (k / 4) (bits .or .u32 (rw4 q k (k / 4) * 256 % 4294967296) (q k)) i = _
    by_cases e : i = k / 4
    · subst e
      rw [upd_at, ih, pw_step q hq]
    · rw [upd_ne _ _ _ _ e, ih]
      unfold pw
      by_cases h1 : k ≤ 4 * i
      · have : k + 1 ≤ 4 * i := by omega
        simp [h1, this]
      · rw [if_neg h1, if_neg (by omega), if_neg (by omega), if_neg (by omega), if_neg (by omega), if_neg (by omega), if_neg (by omega), if_neg (by omega)]
/-- The first sixteen words are what the bytes say. -/
theorem rw4_wd (q : Nat → Int) (hq : ∀ j, 0 ≤ q j ∧ q j < 256) (i : Nat) (hi : i < 16) : rw4 q 64 i = wd q i := by
  rw [rw4_pw q hq]
  unfold pw
  rw [if_neg (by omega), if_neg (by omega), if_neg (by omega)]
  by_cases h : 64 = 4 * i + 3
  · omega
  · rw [if_neg h]
end Go.Proofs.YtmlechalhldlhaaDoor
