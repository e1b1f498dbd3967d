/- Plain facts on lists and texts: the words that texts say. -/
import Derived.Test.YtheheaflebkipaaGreatDoorPZM
namespace Go.Proofs.YtheheaflebkipaaGreatDoor.Ra
def upto (f : Nat → Int) (k : Nat) : List Int := (List.range k).map f
theorem upto_length (f : Nat → Int) (k : Nat) : (upto f k).length = k := by simp [upto]
theorem upto_succ (f : Nat → Int) (k : Nat) : upto f (k + 1) = upto f k ++ [f k] := by simp [upto, List.range_succ]
theorem upto_take (f : Nat → Int) {m n : Nat} (h : m ≤ n) : (upto f n).take m = upto f m := by
  unfold upto
  rw [← List.map_take, List.take_range, Nat.min_eq_left h]
theorem upto_prefix (f : Nat → Int) {m n : Nat} (h : m ≤ n) : upto f m <+: upto f n := by
  rw [← upto_take f h]; exact List.take_prefix _ _
/-- The lists of the first k texts, behind each other. -/
def cat (g : Nat → List Int) (k : Nat) : List Int := (List.range k).flatMap g
theorem cat_succ (g : Nat → List Int) (k : Nat) : cat g (k + 1) = cat g k ++ g k := by simp [cat, List.range_succ]
theorem cat_prefix (g : Nat → List Int) {m n : Nat} (h : m ≤ n) : cat g m <+: cat g n := by
  induction n with
  | zero => obtain rfl : m = 0 := by omega
            exact List.prefix_refl _
  | succ n ih =>
    by_cases e : m = n + 1
    · subst e; exact List.prefix_refl _
    · rw [cat_succ]; exact (ih (by omega)).trans (List.prefix_append _ _)
/-- A byte of a text. -/
def bt (s : ByteArray) (i : Nat) : Int := ((s.data[i]?.getD 0).toNat : Int)
/-- The word that four bytes say, the least first. -/
def wrd (b0 b1 b2 b3 : Int) : Int :=
  bits BinOp.or IntKind.u32 (bits BinOp.or IntKind.u32 (bits BinOp.or IntKind.u32 (IntKind.u32.wrap b0) (IntKind.u32.wrap (IntKind.u32.wrap b1 * 256))) (IntKind.u32.wrap (IntKind.u32.wrap b2 * 65536))) (IntKind.u32.wrap (IntKind.u32.wrap b3 * 16777216))
/-- Word number m of a text. -/
def wd (s : ByteArray) (m : Nat) : Int := wrd (bt s (4 * m)) (bt s (4 * m + 1)) (bt s (4 * m + 2)) (bt s (4 * m + 3))
/-- The words of a text. -/
def wds (s : ByteArray) : List Int := upto (wd s) (s.size / 4)
theorem bt_get (s : ByteArray) (i : Nat) (h : i < s.size) : (s[i].toNat : Int) = bt s i := by
  unfold bt
  have e : s.data[i]? = some s[i] := by
    rw [Array.getElem?_eq_getElem (by simpa using h)]; rfl
  rw [e]; rfl
theorem bt_extract (s : ByteArray) (a i : Nat) (h : a + i < s.size) : bt (s.extract a s.size) i = bt s (a + i) := by
  have h1 : i < (s.extract a s.size).size := by simp; omega
  rw [← bt_get _ _ h1, ← bt_get _ _ h]
  congr 2
  simp [ByteArray.getElem_extract]
/-- A list as a function of places. -/
def lf (l : List Int) : Nat → Int := fun i => l[i]?.getD 0
theorem lf_snoc (l : List Int) (x : Int) : lf (l ++ [x]) = upd (lf l) l.length x := by
  funext i
  unfold lf upd
  by_cases h : i = l.length
  · subst h; simp
  · rcases Nat.lt_or_gt_of_ne h with h' | h'
    · simp [h, List.getElem?_append_left h']
    · simp [h]
      rw [List.getElem?_eq_none (by simp; omega), List.getElem?_eq_none (by omega)]
end Go.Proofs.YtheheaflebkipaaGreatDoor.Ra
