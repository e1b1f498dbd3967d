/- Heads and their bytes, blocks and their parts, in plain terms. -/
import Derived.Test.YtaoadopnhphjbaaDoorQy
namespace Go.Proofs.YtaoadopnhphjbaaDoor.Rs
open Go.RowKit
/-- A head: page, generation, start, number. -/
abbrev Hd := Int × Int × Int × Int
def hv (h : Hd) : Value := .agg #[.int .u32 h.1, .int .u32 h.2.1, .int .u32 h.2.2.1, .int .u64 h.2.2.2]
def zh : Hd := (0, 0, 0, 0)
/-- A head's numbers are of their kinds. -/
def fits (h : Hd) : Prop := (0 ≤ h.1 ∧ h.1 < 4294967296) ∧ (0 ≤ h.2.1 ∧ h.2.1 < 4294967296) ∧ (0 ≤ h.2.2.1 ∧ h.2.2.1 < 4294967296) ∧ 0 ≤ h.2.2.2 ∧ h.2.2.2 < 18446744073709551616
/-- A byte of a number, the least first. -/
def le (n : Int) (i : Nat) : Int := n / 256 ^ i % 256
theorem le_range (n : Int) (i : Nat) : 0 ≤ le n i ∧ le n i < 256 := by unfold le; omega
def putN (h : Hd) (i : Nat) : Int := if i < 4 then le h.1 i else if i < 8 then le h.2.1 (i - 4) else if i < 12 then le h.2.2.1 (i - 8) else if i < 20 then le h.2.2.2 (i - 12) else 0
/-- A head's bytes. -/
def putS (h : Hd) : ByteArray := strOfNums (Rp.upto (putN h) 24)
theorem put_size (h : Hd) : (putS h).size = 24 := by unfold putS; rw [strOfNums_size, Rp.upto_length]
theorem putN_range (h : Hd) (i : Nat) : 0 ≤ putN h i ∧ putN h i < 256 := by
  unfold putN
  split
  · exact le_range _ _
  · split
    · exact le_range _ _
    · split
      · exact le_range _ _
      · split
        · exact le_range _ _
        · omega
theorem bt_put (h : Hd) (i : Nat) (hi : i < 24) : Rp.bt (putS h) i = putN h i := Rp.bt_str _ _ _ hi (putN_range h i).1 (putN_range h i).2
/-- The number that the first bytes say, the least first. -/
def rd (s : ByteArray) : Nat → Int
  | 0 => 0
  | k + 1 => rd s k + Rp.bt s k * 256 ^ k
theorem pow_pos (k : Nat) : (0 : Int) < 256 ^ k := Int.pow_pos (by decide)
theorem rd_range (s : ByteArray) (k : Nat) : 0 ≤ rd s k ∧ rd s k < 256 ^ k := by
  induction k with
  | zero => exact ⟨Int.le_refl _, (by decide : (0 : Int) < 1)⟩
  | succ k ih =>
    have hb := Rp.bt_range s k
    have hp := pow_pos k
    have e : (256 : Int) ^ (k + 1) = 256 ^ k * 256 := Int.pow_succ _ _
    have h1 : 0 ≤ Rp.bt s k * 256 ^ k := Int.mul_nonneg hb.1 (Int.le_of_lt hp)
    have h2 : Rp.bt s k * 256 ^ k ≤ 255 * 256 ^ k := Int.mul_le_mul_of_nonneg_right (by omega) (Int.le_of_lt hp)
    show 0 ≤ rd s k + Rp.bt s k * 256 ^ k ∧ rd s k + Rp.bt s k * 256 ^ k < 256 ^ (k + 1)
    rw [e]
    omega
theorem le_rd (s : ByteArray) (k i : Nat) (h : i < k) : le (rd s k) i = Rp.bt s i := by
  induction k with
  | zero => omega
  | succ k ih =>
    have hb := Rp.bt_range s k
    have hp := pow_pos i
    have hr := rd_range s k
    show (rd s k + Rp.bt s k * 256 ^ k) / 256 ^ i % 256 = Rp.bt s i
    by_cases e : i = k
    · subst e
      rw [Int.add_mul_ediv_right _ _ (by omega), Int.ediv_eq_zero_of_lt hr.1 hr.2]
      omega
    · have e2 : (256 : Int) ^ k = 256 ^ (k - i - 1) * 256 * 256 ^ i := by
        rw [← Int.pow_succ, ← Int.pow_add, show k - i - 1 + 1 + i = k by omega]
      rw [e2, ← Int.mul_assoc, Int.add_mul_ediv_right _ _ (by omega), ← Int.mul_assoc, Int.add_mul_emod_self_right]
      exact ih (by omega)
theorem rd_le (n : Int) (h0 : 0 ≤ n) (s : ByteArray) (k : Nat) (hs : ∀ i, i < k → Rp.bt s i = le n i) : rd s k = n % 256 ^ k := by
  induction k with
  | zero => show (0 : Int) = n % 1; omega
  | succ k ih =>
    show rd s k + Rp.bt s k * 256 ^ k = _
    rw [ih (fun i hi => hs i (by omega)), hs k (by omega)]
    obtain ⟨m, rfl⟩ := Int.eq_ofNat_of_zero_le h0
    have := @Nat.mod_mul (256 ^ k) 256 m
    unfold le
    have e : (256 : Int) ^ k = ((256 ^ k : Nat) : Int) := by simp
    rw [Int.pow_succ, e]
    generalize 256 ^ k = p at *
    have e1 : ((m % (p * 256) : Nat) : Int) = (m : Int) % ((p : Int) * 256) := by simp
    rw [← e1, this]
    simp
    rw [Int.mul_comm]
/-- The head that bytes say. -/
def hdOf (s : ByteArray) : Hd := (rd (s.extract 0 4) 4, rd (s.extract 4 8) 4, rd (s.extract 8 12) 4, rd (s.extract 12 20) 8)
theorem hd_fits (s : ByteArray) : fits (hdOf s) := ⟨rd_range _ 4, rd_range _ 4, rd_range _ 4, rd_range _ 8⟩
theorem hd_put (h : Hd) (hf : fits h) : hdOf (putS h) = h := by
  obtain ⟨a, b, c, d⟩ := h
  obtain ⟨h1, h2, h3, h4⟩ := hf
  simp only at h1 h2 h3 h4
  unfold hdOf
  have z := put_size (a, b, c, d)
  have k : ∀ (x : Int) (p n : Nat), 0 ≤ x → x < 256 ^ n → p + n ≤ 24 → (∀ i, i < n → putN (a, b, c, d) (p + i) = le x i) → rd ((putS (a, b, c, d)).extract p (p + n)) n = x := fun x p n x0 x1 hp hx => by
    rw [rd_le x x0 _ n (fun i hi => by rw [Rp.bt_ext _ _ _ _ (by rw [z]; omega), bt_put _ _ (by omega), hx i hi])]
    exact Int.emod_eq_of_lt x0 x1
  have e1 := k a 0 4 h1.1 h1.2 (by omega) (fun i hi => by unfold putN; rw [if_pos (by omega), Nat.zero_add])
  have e2 := k b 4 4 h2.1 h2.2 (by omega) (fun i hi => by unfold putN; rw [if_neg (by omega), if_pos (by omega), show 4 + i - 4 = i by omega])
  have e3 := k c 8 4 h3.1 h3.2 (by omega) (fun i hi => by unfold putN; rw [if_neg (by omega), if_neg (by omega), if_pos (by omega), show 8 + i - 8 = i by omega])
  have e4 := k d 12 8 h4.1 h4.2 (by omega) (fun i hi => by unfold putN; rw [if_neg (by omega), if_neg (by omega), if_neg (by omega), if_pos (by omega), show 12 + i - 12 = i by omega])
  rw [e1, e2, e3, e4]
theorem putN_hd (s : ByteArray) (hs : s.size = 24) (i : Nat) (hi : i < 24) : putN (hdOf s) i = if i < 20 then Rp.bt s i else 0 := by
  unfold putN hdOf
  simp only
  by_cases h1 : i < 4
  · rw [if_pos h1, if_pos (by omega), le_rd _ _ _ h1, Rp.bt_ext _ _ _ _ (by omega), Nat.zero_add]
  · rw [if_neg h1]
    by_cases h2 : i < 8
    · rw [if_pos h2, if_pos (by omega), le_rd _ _ _ (by omega), Rp.bt_ext _ _ _ _ (by omega), show 4 + (i - 4) = i by omega]
    · rw [if_neg h2]
      by_cases h3 : i < 12
      · rw [if_pos h3, if_pos (by omega), le_rd _ _ _ (by omega), Rp.bt_ext _ _ _ _ (by omega), show 8 + (i - 8) = i by omega]
      · rw [if_neg h3]
        by_cases h4 : i < 20
        · rw [if_pos h4, if_pos h4, le_rd _ _ _ (by omega), Rp.bt_ext _ _ _ _ (by omega), show 12 + (i - 12) = i by omega]
        · rw [if_neg h4, if_neg h4]
theorem put_hd (s : ByteArray) (hs : s.size = 24) : putS (hdOf s) = s ↔ ∀ i, 20 ≤ i → i < 24 → Rp.bt s i = 0 := by
  constructor
  · intro e i h1 h2
    rw [← e, bt_put _ _ h2, putN_hd s hs i h2, if_neg (by omega)]
  · intro h
    refine Rp.bt_same _ _ (by rw [put_size, hs]) fun j hj => ?_
    rw [put_size] at hj
    rw [bt_put _ _ hj, putN_hd s hs j hj]
    split
    · rfl
    · exact (h j (by omega) hj).symm
/-- Are they a head's bytes? -/
def gk (s : ByteArray) : Bool := decide (s.size = 24) && decide (putS (hdOf s) = s)
/-- The head of bytes; none, if they are none's. -/
def gv (s : ByteArray) : Hd := if gk s = true then hdOf s else zh
theorem gk_put (h : Hd) (hf : fits h) : gk (putS h) = true := by unfold gk; rw [hd_put h hf, put_size]; simp
theorem gv_put (h : Hd) (hf : fits h) : gv (putS h) = h := by unfold gv; rw [if_pos (gk_put h hf), hd_put h hf]
theorem put_gv (s : ByteArray) (h : gk s = true) : putS (gv s) = s := by
  unfold gv
  rw [if_pos h]
  unfold gk at h
  simp at h
  exact h.2
theorem gv_fits (s : ByteArray) : fits (gv s) := by
  unfold gv
  split
  · exact hd_fits s
  · unfold fits zh; decide
/-- A head's nonce. -/
def nonceS (h : Hd) : ByteArray := (putS h).extract 8 20
theorem nonce_size (h : Hd) : (nonceS h).size = 12 := by unfold nonceS; rw [Rp.ext_size, put_size]; rfl
theorem ext_app_left (a b : ByteArray) (n : Nat) (h : n = a.size) : (a ++ b).extract 0 n = a := by
  subst h
  refine Rp.bt_same _ _ (by rw [Rp.ext_size, ByteArray.size_append]; omega) fun j hj => ?_
  rw [Rp.ext_size, ByteArray.size_append] at hj
  rw [Rp.bt_ext _ _ _ _ (by rw [ByteArray.size_append]; omega), Nat.zero_add, Rp.bt_app, if_pos (by omega)]
theorem ext_app_right (a b : ByteArray) (n m : Nat) (h : n = a.size) (hm : m = a.size + b.size) : (a ++ b).extract n m = b := by
  subst h hm
  refine Rp.bt_same _ _ (by rw [Rp.ext_size, ByteArray.size_append]; omega) fun j hj => ?_
  rw [Rp.ext_size, ByteArray.size_append] at hj
  rw [Rp.bt_ext _ _ _ _ (by rw [ByteArray.size_append]; omega), Rp.bt_app, if_neg (by omega), show a.size + j - a.size = j by omega]
theorem ext_ext (s : ByteArray) (a b c d : Nat) (h : a + d ≤ b) : (s.extract a b).extract c d = s.extract (a + c) (a + d) := by
  refine Rp.bt_same _ _ (by rw [Rp.ext_size, Rp.ext_size, Rp.ext_size]; omega) fun j hj => ?_
  rw [Rp.ext_size, Rp.ext_size] at hj
  rw [Rp.bt_ext _ _ _ _ (by rw [Rp.ext_size]; omega), Rp.bt_ext _ _ _ _ (by omega), Rp.bt_ext _ _ _ _ (by omega), Nat.add_assoc]
theorem app_ext (s : ByteArray) (a b c : Nat) (h1 : a ≤ b) (h2 : b ≤ c) (h3 : c ≤ s.size) : s.extract a b ++ s.extract b c = s.extract a c := by
  refine Rp.bt_same _ _ (by rw [ByteArray.size_append, Rp.ext_size, Rp.ext_size, Rp.ext_size]; omega) fun j hj => ?_
  rw [ByteArray.size_append, Rp.ext_size, Rp.ext_size] at hj
  rw [Rp.bt_app, Rp.ext_size, Rp.bt_ext s a c j (by omega)]
  by_cases h : j < min b s.size - a
  · rw [if_pos h, Rp.bt_ext _ _ _ _ h]
  · rw [if_neg h, Rp.bt_ext _ _ _ _ (by omega), show b + (j - (min b s.size - a)) = a + j by omega]
theorem ext_all (s : ByteArray) (n : Nat) (h : n = s.size) : s.extract 0 n = s := by subst h; exact ByteArray.extract_zero_size
/-- A block's tag. -/
def tagS (b : ByteArray) : ByteArray := b.extract (b.size - 32) b.size
/-- A block: what is ahead of its tag, and the tag. -/
def bl (X M : ByteArray → ByteArray) (p body : ByteArray) : ByteArray := p ++ X body ++ M (p ++ X body)
structure BlockIs (X M : ByteArray → ByteArray) (p body b : ByteArray) : Prop where
  size : b.size = 256
  head : b.extract 0 24 = p
  rest : b.extract 24 224 = X body
  ahead : b.extract 0 224 = p ++ X body
  tag : tagS b = M (b.extract 0 224)
theorem bl_is (X M : ByteArray → ByteArray) (p body : ByteArray) (hp : p.size = 24) (hb : (X body).size = 200) (hM : ∀ x, (M x).size = 32) : BlockIs X M p body (bl X M p body) := by
  have hz : (p ++ X body).size = 224 := by rw [ByteArray.size_append, hp, hb]
  have hs : (bl X M p body).size = 256 := by unfold bl; rw [ByteArray.size_append, hz, hM]
  have ha : (bl X M p body).extract 0 224 = p ++ X body := ext_app_left _ _ _ hz.symm
  refine ⟨hs, ?_, ?_, ha, ?_⟩
  · have := ext_ext (bl X M p body) 0 224 0 24 (by omega)
    rw [ha, ext_app_left _ _ _ hp.symm] at this
    exact this.symm
  · have := ext_ext (bl X M p body) 0 224 24 224 (by omega)
    rw [ha, ext_app_right _ _ _ _ hp.symm (by omega)] at this
    exact this.symm
  · unfold tagS
    rw [hs, ha]
    exact ext_app_right _ _ _ _ (by omega) (by rw [hz, hM])
theorem bl_back (X M : ByteArray → ByteArray) (b body : ByteArray) (hs : b.size = 256) (hx : X body = b.extract 24 224) (ht : tagS b = M (b.extract 0 224)) : bl X M (b.extract 0 24) body = b := by
  unfold bl
  rw [hx, app_ext b 0 24 224 (by omega) (by omega) (by omega), ← ht]
  unfold tagS
  rw [hs, app_ext b 0 224 256 (by omega) (by omega) (by omega)]
  exact ext_all b 256 hs.symm
end Go.Proofs.YtaoadopnhphjbaaDoor.Rs
