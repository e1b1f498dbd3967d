/- Bodies of texts, in plain terms. -/
import Derived.WalkKit
import Derived.Laws.BytesArg
namespace Go.Proofs.YtheheaflebkipaaGreatDoor.Rp
open Go.RowKit
def upto (f : Nat → Int) (k : Nat) : List Int := (List.range k).map f
theorem upto_length (f : Nat → Int) (k : Nat) : (upto f k).length = k := by simp [upto]
theorem upto_get (f : Nat → Int) (k i : Nat) (h : i < k) : (upto f k).getD i 0 = f i := by simp [upto, List.getD, h]
/-- A byte of a text. -/
def bt (s : ByteArray) (i : Nat) : Int := ((s.data[i]?.getD 0).toNat : Int)
theorem bt_range (s : ByteArray) (i : Nat) : 0 ≤ bt s i ∧ bt s i < 256 := by
  unfold bt
  have := (s.data[i]?.getD 0).toNat_lt
  omega
theorem bt_out (s : ByteArray) (k : Nat) (h : s.size ≤ k) : bt s k = 0 := by
  unfold bt
  rw [Array.getElem?_eq_none (by exact h)]
  rfl
theorem bt_ext (s : ByteArray) (a b i : Nat) (h : i < min b s.size - a) : bt (s.extract a b) i = bt s (a + i) := by
  unfold bt
  rw [ByteArray.data_extract, Array.getElem?_extract, if_pos (show i < min b s.data.size - a from h)]
theorem bt_same (a b : ByteArray) (hs : a.size = b.size) (h : ∀ j, j < a.size → bt a j = bt b j) : a = b := by
  apply ByteArray.ext
  apply Array.ext
  · exact hs
  · intro i h1 h2
    have := h i h1
    unfold bt at this
    rw [Array.getElem?_eq_getElem h1, Array.getElem?_eq_getElem h2] at this
    simp only [Option.getD_some] at this
    exact UInt8.toNat_inj.1 (by omega)
theorem bt_str (f : Nat → Int) (n j : Nat) (hj : j < n) (h0 : 0 ≤ f j) (h1 : f j < 256) : bt (strOfNums (upto f n)) j = f j := by
  unfold bt strOfNums upto
  simp [hj]
  omega
theorem bt_app (a b : ByteArray) (j : Nat) : bt (a ++ b) j = if j < a.size then bt a j else bt b (j - a.size) := by
  unfold bt
  rw [ByteArray.data_append, Array.getElem?_append]
  have e : a.data.size = a.size := rfl
  rw [e]
  split <;> rfl
theorem ext_size (s : ByteArray) (a b : Nat) : (s.extract a b).size = min b s.size - a := ByteArray.size_extract
/-- The bytes of a text's body. -/
def bodyN (s : ByteArray) (j : Nat) : Int := if j = 0 then ((s.size / 256 : Nat) : Int) else if j = 1 then ((s.size % 256 : Nat) : Int) else bt s (j - 2)
/-- A text's body. -/
def bodyS (s : ByteArray) : ByteArray := strOfNums (upto (bodyN s) 200)
theorem body_size (s : ByteArray) : (bodyS s).size = 200 := by unfold bodyS; rw [strOfNums_size, upto_length]
theorem bodyN_range (s : ByteArray) (hs : s.size ≤ 198) (j : Nat) : 0 ≤ bodyN s j ∧ bodyN s j < 256 := by
  unfold bodyN
  split
  · omega
  · split
    · omega
    · exact bt_range _ _
theorem bt_body (s : ByteArray) (hs : s.size ≤ 198) (j : Nat) (hj : j < 200) : bt (bodyS s) j = bodyN s j := by
  have := bodyN_range s hs j
  exact bt_str _ _ _ hj this.1 this.2
/-- The length that a body tells. -/
def lenOf (b : ByteArray) : Nat := (256 * bt b 0 + bt b 1).toNat
theorem lenOf_cast (b : ByteArray) : (lenOf b : Int) = 256 * bt b 0 + bt b 1 := by
  unfold lenOf
  have := bt_range b 0
  have := bt_range b 1
  omega
/-- The text that a body tells of. -/
def textOf (b : ByteArray) : ByteArray := b.extract 2 (2 + lenOf b)
/-- Is it a body? -/
def isBody (b : ByteArray) : Bool := decide (b.size = 200) && decide (lenOf b ≤ 198) && decide (bodyS (textOf b) = b)
def padV (s : ByteArray) : ByteArray := if s.size ≤ 198 then bodyS s else ⟨#[]⟩
def padE (s : ByteArray) : Int := if s.size ≤ 198 then 0 else 50
def unV (b : ByteArray) : ByteArray := if isBody b then textOf b else ⟨#[]⟩
def unE (b : ByteArray) : Int := if isBody b then 0 else 50
theorem lenOf_body (s : ByteArray) (hs : s.size ≤ 198) : lenOf (bodyS s) = s.size := by
  have h := lenOf_cast (bodyS s)
  rw [bt_body s hs 0 (by omega), bt_body s hs 1 (by omega)] at h
  simp only [bodyN, if_true, if_false, Nat.one_ne_zero] at h
  omega
theorem textOf_body (s : ByteArray) (hs : s.size ≤ 198) : textOf (bodyS s) = s := by
  unfold textOf
  rw [lenOf_body s hs]
  have hz : ((bodyS s).extract 2 (2 + s.size)).size = s.size := by rw [ext_size, body_size]; omega
  refine bt_same _ _ hz fun j hj => ?_
  rw [hz] at hj
  rw [bt_ext _ _ _ _ (by rw [body_size]; omega), bt_body s hs _ (by omega)]
  unfold bodyN
  rw [if_neg (by omega), if_neg (by omega), show 2 + j - 2 = j by omega]
theorem isBody_body (s : ByteArray) (hs : s.size ≤ 198) : isBody (bodyS s) = true := by
  unfold isBody
  rw [body_size, lenOf_body s hs, textOf_body s hs]
  simp [hs]
theorem textOf_size (b : ByteArray) (h : b.size = 200) (hl : lenOf b ≤ 198) : (textOf b).size = lenOf b := by unfold textOf; rw [ext_size, h]; omega
theorem toList_dec (a b : ByteArray) : (a.toList == b.toList) = decide (a = b) := by
  rw [ByteArray.toList_eq, ByteArray.toList_eq]
  by_cases e : a = b
  · subst e; simp
  · rw [decide_eq_false e]
    have h : ¬ a.data.toList = b.data.toList := fun h => e (ByteArray.ext (Array.toList_inj.1 h))
    simpa using h
end Go.Proofs.YtheheaflebkipaaGreatDoor.Rp
/- Heads and their bytes, blocks and their parts, in plain terms. -/
namespace Go.Proofs.YtheheaflebkipaaGreatDoor.Rs
open Go.RowKit
/-- A head: page, generation, start, number. -/
abbrev Hd := Int × Int × Int × Int
def hv (h : Hd) : Value := .agg #[.int .u32 h.1, .int .u32 h.2.1, .int .u32 h.2.2.1, .int .u64 h.2.2.2]
def zh : Hd := (0, 0, 0, 0)
/-- A head's numbers are of their kinds. -/
def fits (h : Hd) : Prop := (0 ≤ h.1 ∧ h.1 < 4294967296) ∧ (0 ≤ h.2.1 ∧ h.2.1 < 4294967296) ∧ (0 ≤ h.2.2.1 ∧ h.2.2.1 < 4294967296) ∧ 0 ≤ h.2.2.2 ∧ h.2.2.2 < 18446744073709551616
/-- A byte of a number, the least first. -/
def le (n : Int) (i : Nat) : Int := n / 256 ^ i % 256
theorem le_range (n : Int) (i : Nat) : 0 ≤ le n i ∧ le n i < 256 := by unfold le; omega
def putN (h : Hd) (i : Nat) : Int := if i < 4 then le h.1 i else if i < 8 then le h.2.1 (i - 4) else if i < 12 then le h.2.2.1 (i - 8) else if i < 20 then le h.2.2.2 (i - 12) else 0
/-- A head's bytes. -/
def putS (h : Hd) : ByteArray := strOfNums (Rp.upto (putN h) 24)
theorem put_size (h : Hd) : (putS h).size = 24 := by unfold putS; rw [strOfNums_size, Rp.upto_length]
theorem putN_range (h : Hd) (i : Nat) : 0 ≤ putN h i ∧ putN h i < 256 := by
  unfold putN
  split
  · exact le_range _ _
  · split
    · exact le_range _ _
    · split
      · exact le_range _ _
      · split
        · exact le_range _ _
        · omega
theorem bt_put (h : Hd) (i : Nat) (hi : i < 24) : Rp.bt (putS h) i = putN h i := Rp.bt_str _ _ _ hi (putN_range h i).1 (putN_range h i).2
/-- The number that the first bytes say, the least first. -/
def rd (s : ByteArray) : Nat → Int
  | 0 => 0
  | k + 1 => rd s k + Rp.bt s k * 256 ^ k
theorem pow_pos (k : Nat) : (0 : Int) < 256 ^ k := Int.pow_pos (by decide)
theorem rd_range (s : ByteArray) (k : Nat) : 0 ≤ rd s k ∧ rd s k < 256 ^ k := by
  induction k with
  | zero => exact ⟨Int.le_refl _, (by decide : (0 : Int) < 1)⟩
  | succ k ih =>
    have hb := Rp.bt_range s k
    have hp := pow_pos k
    have e : (256 : Int) ^ (k + 1) = 256 ^ k * 256 := Int.pow_succ _ _
    have h1 : 0 ≤ Rp.bt s k * 256 ^ k := Int.mul_nonneg hb.1 (Int.le_of_lt hp)
    have h2 : Rp.bt s k * 256 ^ k ≤ 255 * 256 ^ k := Int.mul_le_mul_of_nonneg_right (by omega) (Int.le_of_lt hp)
    show 0 ≤ rd s k + Rp.bt s k * 256 ^ k ∧ rd s k + Rp.bt s k * 256 ^ k < 256 ^ (k + 1)
    rw [e]
    omega
theorem rd_le (n : Int) (h0 : 0 ≤ n) (s : ByteArray) (k : Nat) (hs : ∀ i, i < k → Rp.bt s i = le n i) : rd s k = n % 256 ^ k := by
  induction k with
  | zero => show (0 : Int) = n % 1; omega
  | succ k ih =>
    show rd s k + Rp.bt s k * 256 ^ k = _
    rw [ih (fun i hi => hs i (by omega)), hs k (by omega)]
    obtain ⟨m, rfl⟩ := Int.eq_ofNat_of_zero_le h0
    have := @Nat.mod_mul (256 ^ k) 256 m
    unfold le
    have e : (256 : Int) ^ k = ((256 ^ k : Nat) : Int) := by simp
    rw [Int.pow_succ, e]
    generalize 256 ^ k = p at *
    have e1 : ((m % (p * 256) : Nat) : Int) = (m : Int) % ((p : Int) * 256) := by simp
    rw [← e1, this]
    simp
    rw [Int.mul_comm]
/-- The head that bytes say. -/
def hdOf (s : ByteArray) : Hd := (rd (s.extract 0 4) 4, rd (s.extract 4 8) 4, rd (s.extract 8 12) 4, rd (s.extract 12 20) 8)
theorem hd_fits (s : ByteArray) : fits (hdOf s) := ⟨rd_range _ 4, rd_range _ 4, rd_range _ 4, rd_range _ 8⟩
theorem hd_put (h : Hd) (hf : fits h) : hdOf (putS h) = h := by
  obtain ⟨a, b, c, d⟩ := h
  obtain ⟨h1, h2, h3, h4⟩ := hf
  simp only at h1 h2 h3 h4
  unfold hdOf
  have z := put_size (a, b, c, d)
  have k : ∀ (x : Int) (p n : Nat), 0 ≤ x → x < 256 ^ n → p + n ≤ 24 → (∀ i, i < n → putN (a, b, c, d) (p + i) = le x i) → rd ((putS (a, b, c, d)).extract p (p + n)) n = x := fun x p n x0 x1 hp hx => by
    rw [rd_le x x0 _ n (fun i hi => by rw [Rp.bt_ext _ _ _ _ (by rw [z]; omega), bt_put _ _ (by omega), hx i hi])]
    exact Int.emod_eq_of_lt x0 x1
  have e1 := k a 0 4 h1.1 h1.2 (by omega) (fun i hi => by unfold putN; rw [if_pos (by omega), Nat.zero_add])
  have e2 := k b 4 4 h2.1 h2.2 (by omega) (fun i hi => by unfold putN; rw [if_neg (by omega), if_pos (by omega), show 4 + i - 4 = i by omega])
  have e3 := k c 8 4 h3.1 h3.2 (by omega) (fun i hi => by unfold putN; rw [if_neg (by omega), if_neg (by omega), if_pos (by omega), show 8 + i - 8 = i by omega])
  have e4 := k d 12 8 h4.1 h4.2 (by omega) (fun i hi => by unfold putN; rw [if_neg (by omega), if_neg (by omega), if_neg (by omega), if_pos (by omega), show 12 + i - 12 = i by omega])
  rw [e1, e2, e3, e4]
/-- Are they a head's bytes? -/
def gk (s : ByteArray) : Bool := decide (s.size = 24) && decide (putS (hdOf s) = s)
/-- The head of bytes; none, if they are none's. -/
def gv (s : ByteArray) : Hd := if gk s = true then hdOf s else zh
theorem gk_put (h : Hd) (hf : fits h) : gk (putS h) = true := by unfold gk; rw [hd_put h hf, put_size]; simp
theorem gv_put (h : Hd) (hf : fits h) : gv (putS h) = h := by unfold gv; rw [if_pos (gk_put h hf), hd_put h hf]
theorem gv_fits (s : ByteArray) : fits (gv s) := by
  unfold gv
  split
  · exact hd_fits s
  · unfold fits zh; decide
/-- A head's nonce. -/
def nonceS (h : Hd) : ByteArray := (putS h).extract 8 20
theorem nonce_size (h : Hd) : (nonceS h).size = 12 := by unfold nonceS; rw [Rp.ext_size, put_size]; rfl
theorem ext_app_left (a b : ByteArray) (n : Nat) (h : n = a.size) : (a ++ b).extract 0 n = a := by
  subst h
  refine Rp.bt_same _ _ (by rw [Rp.ext_size, ByteArray.size_append]; omega) fun j hj => ?_
  rw [Rp.ext_size, ByteArray.size_append] at hj
  rw [Rp.bt_ext _ _ _ _ (by rw [ByteArray.size_append]; omega), Nat.zero_add, Rp.bt_app, if_pos (by omega)]
theorem ext_app_right (a b : ByteArray) (n m : Nat) (h : n = a.size) (hm : m = a.size + b.size) : (a ++ b).extract n m = b := by
  subst h hm
  refine Rp.bt_same _ _ (by rw [Rp.ext_size, ByteArray.size_append]; omega) fun j hj => ?_
  rw [Rp.ext_size, ByteArray.size_append] at hj
  rw [Rp.bt_ext _ _ _ _ (by rw [ByteArray.size_append]; omega), Rp.bt_app, if_neg (by omega), show a.size + j - a.size = j by omega]
theorem ext_ext (s : ByteArray) (a b c d : Nat) (h : a + d ≤ b) : (s.extract a b).extract c d = s.extract (a + c) (a + d) := by
  refine Rp.bt_same _ _ (by rw [Rp.ext_size, Rp.ext_size, Rp.ext_size]; omega) fun j hj => ?_
  rw [Rp.ext_size, Rp.ext_size] at hj
  rw [Rp.bt_ext _ _ _ _ (by rw [Rp.ext_size]; omega), Rp.bt_ext _ _ _ _ (by omega), Rp.bt_ext _ _ _ _ (by omega), Nat.add_assoc]
/-- A block's tag. -/
def tagS (b : ByteArray) : ByteArray := b.extract (b.size - 32) b.size
/-- A block: what is ahead of its tag, and the tag. -/
def bl (X M : ByteArray → ByteArray) (p body : ByteArray) : ByteArray := p ++ X body ++ M (p ++ X body)
structure BlockIs (X M : ByteArray → ByteArray) (p body b : ByteArray) : Prop where
  size : b.size = 256
  head : b.extract 0 24 = p
  rest : b.extract 24 224 = X body
  ahead : b.extract 0 224 = p ++ X body
  tag : tagS b = M (b.extract 0 224)
theorem bl_is (X M : ByteArray → ByteArray) (p body : ByteArray) (hp : p.size = 24) (hb : (X body).size = 200) (hM : ∀ x, (M x).size = 32) : BlockIs X M p body (bl X M p body) := by
  have hz : (p ++ X body).size = 224 := by rw [ByteArray.size_append, hp, hb]
  have hs : (bl X M p body).size = 256 := by unfold bl; rw [ByteArray.size_append, hz, hM]
  have ha : (bl X M p body).extract 0 224 = p ++ X body := ext_app_left _ _ _ hz.symm
  refine ⟨hs, ?_, ?_, ha, ?_⟩
  · have := ext_ext (bl X M p body) 0 224 0 24 (by omega)
    rw [ha, ext_app_left _ _ _ hp.symm] at this
    exact this.symm
  · have := ext_ext (bl X M p body) 0 224 24 224 (by omega)
    rw [ha, ext_app_right _ _ _ _ hp.symm (by omega)] at this
    exact this.symm
  · unfold tagS
    rw [hs, ha]
    exact ext_app_right _ _ _ _ (by omega) (by rw [hz, hM])
end Go.Proofs.YtheheaflebkipaaGreatDoor.Rs
