/- Plain facts on the stream's bytes and on texts under it. -/
import Derived.Test.YtnedbakgaggdaaaDoorI
namespace Go.Proofs.YtnedbakgaggdaaaDoor
/-- A word, shifted by j bytes. -/
def shx (x : Int) (j : Nat) : Int := x / (256 : Int) ^ j
theorem shx_zero (x : Int) : shx x 0 = x := by simp [shx]
theorem shx_succ (x : Int) (j : Nat) : shx x (j + 1) = shx x j / 256 := by
  unfold shx
  rw [Int.pow_succ, Int.ediv_ediv_of_nonneg (Int.pow_nonneg (by decide))]
theorem b4_at (x : Int) (j : Nat) (h : j < 4) : (b4 x)[j]?.getD 0 = shx x j % 256 := by
  match j, h with
  | 0, _ => simp [b4, shx]
  | 1, _ => simp [b4, shx]
  | 2, _ => simp [b4, shx]
  | 3, _ => simp [b4, shx]
  | j + 4, h => exact absurd h (by omega)
/-- The bytes of words. -/
def kb (pre : List Int) : List Int := pre.flatMap b4
theorem kb_length (pre : List Int) : (kb pre).length = 4 * pre.length := by
  induction pre with
  | nil => rfl
  | cons x r ih => unfold kb at ih ⊢; rw [List.flatMap_cons, List.length_append, ih]; simp [b4]; omega
theorem kb_snoc (pre : List Int) (x : Int) : kb (pre ++ [x]) = kb pre ++ b4 x := by simp [kb]
/-- A text's byte under the bytes of words. -/
def xf (s : ByteArray) (pre : List Int) : Nat → Int := fun i => bits BinOp.xor IntKind.u8 (bt s i) (lf (kb pre) i)
theorem xf_prefix (s : ByteArray) {pre l : List Int} (h : pre <+: l) (i : Nat) (hi : i < 4 * pre.length) : xf s l i = xf s pre i := by
  obtain ⟨r, rfl⟩ := h
  unfold xf lf
  have e : kb (pre ++ r) = kb pre ++ kb r := by simp [kb]
  rw [e, List.getElem?_append_left (by rw [kb_length]; exact hi)]
theorem xf_at (s : ByteArray) (pre : List Int) (x : Int) (j : Nat) (h : j < 4) : xf s (pre ++ [x]) (4 * pre.length + j) = bits BinOp.xor IntKind.u8 (bt s (4 * pre.length + j)) (shx x j % 256) := by
  unfold xf lf
  rw [kb_snoc, List.getElem?_append_right (by rw [kb_length]; omega), kb_length, show 4 * pre.length + j - 4 * pre.length = j by omega, b4_at x j h]
theorem upto_congr {f g : Nat → Int} {k : Nat} (h : ∀ i, i < k → f i = g i) : upto f k = upto g k := by
  unfold upto
  exact List.map_congr_left fun i hi => h i (List.mem_range.1 hi)
theorem xf_snoc (s : ByteArray) (pre : List Int) (x : Int) : upto (xf s (pre ++ [x])) (4 * pre.length) = upto (xf s pre) (4 * pre.length) :=
  upto_congr fun i hi => xf_prefix s (List.prefix_append _ _) i hi
end Go.Proofs.YtnedbakgaggdaaaDoor
