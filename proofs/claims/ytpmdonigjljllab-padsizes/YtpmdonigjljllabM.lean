/- Bodies of texts, in plain terms. -/
import Derived.WalkKit
import Derived.Laws.BytesArg
namespace Go.Proofs.Ytpmdonigjljllab
open Go.RowKit
def upto (f : Nat → Int) (k : Nat) : List Int := (List.range k).map f
theorem upto_length (f : Nat → Int) (k : Nat) : (upto f k).length = k := by simp [upto]
theorem upto_get (f : Nat → Int) (k i : Nat) (h : i < k) : (upto f k).getD i 0 = f i := by simp [upto, List.getD, h]
/-- A byte of a text. -/
def bt (s : ByteArray) (i : Nat) : Int := ((s.data[i]?.getD 0).toNat : Int)
theorem bt_range (s : ByteArray) (i : Nat) : 0 ≤ bt s i ∧ bt s i < 256 := by
  unfold bt
  have := (s.data[i]?.getD 0).toNat_lt
  omega
theorem bt_out (s : ByteArray) (k : Nat) (h : s.size ≤ k) : bt s k = 0 := by
  unfold bt
  rw [Array.getElem?_eq_none (by exact h)]
  rfl
theorem bt_ext (s : ByteArray) (a b i : Nat) (h : i < min b s.size - a) : bt (s.extract a b) i = bt s (a + i) := by
  unfold bt
  rw [ByteArray.data_extract, Array.getElem?_extract, if_pos (show i < min b s.data.size - a from h)]
theorem bt_same (a b : ByteArray) (hs : a.size = b.size) (h : ∀ j, j < a.size → bt a j = bt b j) : a = b := by
  apply ByteArray.ext
  apply Array.ext
  · exact hs
  · intro i h1 h2
    have := h i h1
    unfold bt at this
    rw [Array.getElem?_eq_getElem h1, Array.getElem?_eq_getElem h2] at this
    simp only [Option.getD_some] at this
    exact UInt8.toNat_inj.1 (by omega)
theorem bt_str (f : Nat → Int) (n j : Nat) (hj : j < n) (h0 : 0 ≤ f j) (h1 : f j < 256) : bt (strOfNums (upto f n)) j = f j := by
  unfold bt strOfNums upto
  simp [hj]
  omega
theorem bt_app (a b : ByteArray) (j : Nat) : bt (a ++ b) j = if j < a.size then bt a j else bt b (j - a.size) := by
  unfold bt
  rw [ByteArray.data_append, Array.getElem?_append]
  have e : a.data.size = a.size := rfl
  rw [e]
  split <;> rfl
theorem ext_size (s : ByteArray) (a b : Nat) : (s.extract a b).size = min b s.size - a := ByteArray.size_extract
/-- The bytes of a text's body. -/
def bodyN (s : ByteArray) (j : Nat) : Int := if j = 0 then ((s.size / 256 : Nat) : Int) else if j = 1 then ((s.size % 256 : Nat) : Int) else bt s (j - 2)
/-- A text's body. -/
def bodyS (s : ByteArray) : ByteArray := strOfNums (upto (bodyN s) 200)
theorem body_size (s : ByteArray) : (bodyS s).size = 200 := by unfold bodyS; rw [strOfNums_size, upto_length]
theorem bodyN_range (s : ByteArray) (hs : s.size ≤ 198) (j : Nat) : 0 ≤ bodyN s j ∧ bodyN s j < 256 := by
  unfold bodyN
  split
  · omega
  · split
    · omega
    · exact bt_range _ _
theorem bt_body (s : ByteArray) (hs : s.size ≤ 198) (j : Nat) (hj : j < 200) : bt (bodyS s) j = bodyN s j := by
  have := bodyN_range s hs j
  exact bt_str _ _ _ hj this.1 this.2
/-- The length that a body tells. -/
def lenOf (b : ByteArray) : Nat := (256 * bt b 0 + bt b 1).toNat
theorem lenOf_cast (b : ByteArray) : (lenOf b : Int) = 256 * bt b 0 + bt b 1 := by
  unfold lenOf
  have := bt_range b 0
  have := bt_range b 1
  omega
/-- The text that a body tells of. -/
def textOf (b : ByteArray) : ByteArray := b.extract 2 (2 + lenOf b)
/-- Is it a body? -/
def isBody (b : ByteArray) : Bool := decide (b.size = 200) && decide (lenOf b ≤ 198) && decide (bodyS (textOf b) = b)
def padV (s : ByteArray) : ByteArray := if s.size ≤ 198 then bodyS s else ⟨#[]⟩
def padE (s : ByteArray) : Int := if s.size ≤ 198 then 0 else 50
def unV (b : ByteArray) : ByteArray := if isBody b then textOf b else ⟨#[]⟩
def unE (b : ByteArray) : Int := if isBody b then 0 else 50
theorem lenOf_body (s : ByteArray) (hs : s.size ≤ 198) : lenOf (bodyS s) = s.size := by
  have h := lenOf_cast (bodyS s)
  rw [bt_body s hs 0 (by omega), bt_body s hs 1 (by omega)] at h
  simp only [bodyN, if_true, if_false, Nat.one_ne_zero] at h
  omega
theorem textOf_body (s : ByteArray) (hs : s.size ≤ 198) : textOf (bodyS s) = s := by
  unfold textOf
  rw [lenOf_body s hs]
  have hz : ((bodyS s).extract 2 (2 + s.size)).size = s.size := by rw [ext_size, body_size]; omega
  refine bt_same _ _ hz fun j hj => ?_
  rw [hz] at hj
  rw [bt_ext _ _ _ _ (by rw [body_size]; omega), bt_body s hs _ (by omega)]
  unfold bodyN
  rw [if_neg (by omega), if_neg (by omega), show 2 + j - 2 = j by omega]
theorem isBody_body (s : ByteArray) (hs : s.size ≤ 198) : isBody (bodyS s) = true := by
  unfold isBody
  rw [body_size, lenOf_body s hs, textOf_body s hs]
  simp [hs]
theorem textOf_size (b : ByteArray) (h : b.size = 200) (hl : lenOf b ≤ 198) : (textOf b).size = lenOf b := by unfold textOf; rw [ext_size, h]; omega
/-- A body, but for what lies behind its text. -/
theorem isBody_rest (b : ByteArray) (h : b.size = 200) (hl : lenOf b ≤ 198) : isBody b = true ↔ ∀ i, 2 + lenOf b ≤ i → i < 200 → bt b i = 0 := by
  have hts := textOf_size b h hl
  have hx : ∀ j, j < 200 → bt (bodyS (textOf b)) j = if j < 2 + lenOf b then bt b j else 0 := fun j hj => by
    rw [bt_body _ (by omega) j hj]
    unfold bodyN
    rw [hts]
    have c := lenOf_cast b
    have r0 := bt_range b 0
    have r1 := bt_range b 1
    by_cases h0 : j = 0
    · subst h0; rw [if_pos rfl, if_pos (by omega)]; omega
    · rw [if_neg h0]
      by_cases h1 : j = 1
      · subst h1; rw [if_pos rfl, if_pos (by omega)]; omega
      · rw [if_neg h1]
        by_cases h2 : j < 2 + lenOf b
        · rw [if_pos h2]
          unfold textOf
          rw [bt_ext _ _ _ _ (by omega), show 2 + (j - 2) = j by omega]
        · rw [if_neg h2, bt_out _ _ (by rw [hts]; omega)]
  unfold isBody
  rw [decide_eq_true h, decide_eq_true hl]
  simp only [Bool.true_and, decide_eq_true_eq]
  constructor
  · intro e i h1 h2
    have := hx i h2
    rw [e, if_neg (by omega)] at this
    exact this
  · intro e
    refine bt_same _ _ (by rw [body_size, h]) fun j hj => ?_
    rw [body_size] at hj
    rw [hx j hj]
    by_cases h2 : j < 2 + lenOf b
    · rw [if_pos h2]
    · rw [if_neg h2, e j (by omega) hj]
theorem isBody_size (b : ByteArray) (h : isBody b = true) : b.size = 200 ∧ lenOf b ≤ 198 ∧ bodyS (textOf b) = b := by
  unfold isBody at h
  simp at h
  exact ⟨h.1.1, h.1.2, h.2⟩
theorem toList_dec (a b : ByteArray) : (a.toList == b.toList) = decide (a = b) := by
  rw [ByteArray.toList_eq, ByteArray.toList_eq]
  by_cases e : a = b
  · subst e; simp
  · rw [decide_eq_false e]
    have h : ¬ a.data.toList = b.data.toList := fun h => e (ByteArray.ext (Array.toList_inj.1 h))
    simpa using h
end Go.Proofs.Ytpmdonigjljllab
