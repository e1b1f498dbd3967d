/- Plain: a text's sum, by its bytes alone. -/
import Derived.Test.YtmlechalhldlhaaDoorH
import Derived.Test.YtmlechalhldlhaaDoorN
namespace Go.Proofs.YtmlechalhldlhaaDoor
open Go.RowKit
theorem hs_congr {Kt iv m m' : Nat → Int} (k : Nat) (h : ∀ j, j < 64 * k → m j = m' j) : hs Kt iv m k = hs Kt iv m' k := by
  induction k with
  | zero => rfl
  | succ k ih => unfold hs; rw [ih (fun j hj => h j (by omega)), chg_congr (q' := fun j => m' (64 * k + j)) (fun j hj => h _ (by omega))]
theorem fil_length (n : Nat) : (fil n).length = 9 + nz n := by simp [fil, upto]; omega
theorem fil_whole (n : Nat) : (n + (fil n).length) % 64 = 0 := by rw [fil_length]; unfold nz; omega
theorem fil_le (n : Nat) : (fil n).length ≤ 72 := by rw [fil_length]; unfold nz; omega
theorem fil_byte (n j : Nat) : 0 ≤ (fil n).getD j 0 ∧ (fil n).getD j 0 < 256 := by
  have hall : ∀ x ∈ fil n, 0 ≤ x ∧ x < 256 := by
    intro x hx
    unfold fil at hx
    rcases List.mem_cons.1 hx with rfl | hx
    · decide
    · rcases List.mem_append.1 hx with hx | hx
      · rw [(List.mem_replicate.1 hx).2]; decide
      · obtain ⟨j, _, rfl⟩ := List.mem_map.1 hx
        exact ⟨Int.emod_nonneg _ (by decide), Int.emod_lt_of_pos _ (by decide)⟩
  rw [List.getD_eq_getElem?_getD]
  by_cases h : j < (fil n).length
  · rw [List.getElem?_eq_getElem h]; exact hall _ (List.getElem_mem h)
  · rw [List.getElem?_eq_none (by omega)]; decide
/-- A filled message: its first L bytes, and the filling behind. -/
def mf (m : Nat → Int) (L : Nat) : Nat → Int := fun j => if j < L then m j else (fil L).getD (j - L) 0
theorem mf_byte {m : Nat → Int} (hm : ∀ j, 0 ≤ m j ∧ m j < 256) (L j : Nat) : 0 ≤ mf m L j ∧ mf m L j < 256 := by
  unfold mf
  split
  · exact hm j
  · exact fil_byte _ _
theorem mf_congr {m m' : Nat → Int} {L : Nat} (h : ∀ j, j < L → m j = m' j) : mf m L = mf m' L := by
  funext j
  unfold mf
  split
  · rename_i hj; exact h j hj
  · rfl
/-- The sum of a message's first L bytes. -/
def dig (Kt iv m : Nat → Int) (L : Nat) : List Int := bw (hs Kt iv (mf m L) ((L + (fil L).length) / 64)) 8
theorem dig_congr {Kt iv m m' : Nat → Int} {L : Nat} (h : ∀ j, j < L → m j = m' j) : dig Kt iv m L = dig Kt iv m' L := by
  unfold dig; rw [mf_congr h]
theorem dig_length (Kt iv m : Nat → Int) (L : Nat) : (dig Kt iv m L).length = 32 := by unfold dig; rw [bw_length]
theorem bw_congr {f g : Nat → Int} (k : Nat) (h : ∀ i, i < k → f i = g i) : bw f k = bw g k := by
  induction k with
  | zero => rfl
  | succ k ih => unfold bw; rw [ih (fun i hi => h i (by omega)), h k (by omega)]
/-- The bytes of a told message do not hang on what is behind it. -/
theorem Told.congr {Kt iv m m' : Nat → Int} {W : World} {g L : Nat} (ht : Told Kt iv m W g L) (h : ∀ j, j < L → m j = m' j) : Told Kt iv m' W g L := by
  obtain ⟨r, h1, h2⟩ := ht
  refine ⟨r, ?_, fun j hj => (h2 j hj).trans (h _ (by omega))⟩
  rw [← hs_congr (L / 64) (fun j hj => h j (by omega))]; exact h1
/-- What three letters' bytes are. -/
def abc : Nat → Int := lf [97, 98, 99]
theorem abc_mf : ∀ j, j < 64 → mf abc 3 j = lf Qabc j := by decide +kernel
theorem abc_dig : dig (lf KL) (lf IV) abc 3 = bw (lf Habc) 8 := by
  unfold dig
  have e : (3 + (fil 3).length) / 64 = 1 := by rw [fil_length]; decide
  rw [e]
  refine bw_congr 8 fun i hi => ?_
  show chg (lf KL) (lf IV) (fun j => mf abc 3 (64 * 0 + j)) i = _
  rw [chg_congr (q' := lf Qabc) (fun j hj => by rw [Nat.mul_zero, Nat.zero_add]; exact abc_mf j hj)]
  exact habc i hi
end Go.Proofs.YtmlechalhldlhaaDoor
