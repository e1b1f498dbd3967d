/- Rows in a block of their own: two of them change places. -/
import Derived.Test.YtaiiclkfnahghaaPJN
import Derived.Sort.AssemblyPlain
namespace Go.Proofs.Ytaiiclkfnahghaa.Rq
open Go.RowKit Go.Lib Go.Shelf
open Go.Proofs.Ytaiiclkfnahghaa.Rc
instance : Inhabited Rw := ⟨⟨0, 0, 0, ⟨#[]⟩⟩⟩
/-- Rows in a block of their own. -/
def Ur (w : World) (g z : Nat) (d : Array Rw) : Prop := ∃ cs, w.heap[g]? = some (.cells cs 26 (0, 0)) ∧ (cs.size = z ∧ d.size * 4 ≤ z) ∧ ∀ i, i < d.size → ∀ j, j < 4 → cs[i * 4 + j]? = (rc d[i]!)[j]?
theorem Ur.lt {w : World} {g z : Nat} {d : Array Rw} (h : Ur w g z d) : g < w.heap.size := by
  obtain ⟨cs, h1, h2⟩ := h
  exact (Array.getElem?_eq_some_iff.1 h1).1
theorem Ur.same {w w' : World} {g z : Nat} {d : Array Rw} (h : Ur w g z d) (e : w'.heap[g]? = w.heap[g]?) : Ur w' g z d := by
  obtain ⟨cs, h1, h2⟩ := h
  exact ⟨cs, e.trans h1, h2⟩
theorem Ur.cell {w : World} {g z : Nat} {d : Array Rw} (h : Ur w g z d) (i : Nat) (hi : i < d.size) :
    (w.cell? ⟨g, i * 4, none⟩ = some (.int .u64 (d[i]!.id : Int)) ∧ w.cell? ⟨g, i * 4 + 1, none⟩ = some (.int .u32 (d[i]!.x : Int)) ∧ w.cell? ⟨g, i * 4 + 2, none⟩ = some (.int .u32 (d[i]!.y : Int)) ∧ w.cell? ⟨g, i * 4 + 3, none⟩ = some (.string d[i]!.v)) ∧ ∀ k, w.frozen? ⟨g, k, none⟩ = false := by
  obtain ⟨cs, h1, h2, h3⟩ := h
  refine ⟨⟨?_, ?_, ?_, ?_⟩, fun k => frozen_of_row w _ _ _ _ h1⟩
  · rw [cell_of_row _ _ _ _ _ _ h1]; exact h3 i hi 0 (by omega)
  · rw [cell_of_row _ _ _ _ _ _ h1]; exact h3 i hi 1 (by omega)
  · rw [cell_of_row _ _ _ _ _ _ h1]; exact h3 i hi 2 (by omega)
  · rw [cell_of_row _ _ _ _ _ _ h1]; exact h3 i hi 3 (by omega)
/-- A row laid over another. -/
def set4 (w : World) (g i : Nat) (r : Rw) : World := (((w.setCell ⟨g, i * 4, none⟩ (.int .u64 (r.id : Int))).setCell ⟨g, i * 4 + 1, none⟩ (.int .u32 (r.x : Int))).setCell ⟨g, i * 4 + 2, none⟩ (.int .u32 (r.y : Int))).setCell ⟨g, i * 4 + 3, none⟩ (.string r.v)
theorem Ur.set {w : World} {g z : Nat} {d : Array Rw} (h : Ur w g z d) (i : Nat) (hi : i < d.size) (r : Rw) : Ur (set4 w g i r) g z (d.setIfInBounds i r) := by
  obtain ⟨cs, h1, h2, h3⟩ := h
  have X1 := heap_setCell_same w g (i * 4) _ _ (.int .u64 (r.id : Int)) h1
  have X2 := heap_setCell_same _ g (i * 4 + 1) _ _ (.int .u32 (r.x : Int)) X1
  have X3 := heap_setCell_same _ g (i * 4 + 2) _ _ (.int .u32 (r.y : Int)) X2
  have X4 := heap_setCell_same _ g (i * 4 + 3) _ _ (.string r.v) X3
  refine ⟨_, X4, ⟨by simpa using h2.1, by simpa using h2.2⟩, fun k hk j hj => ?_⟩
  simp only [Array.size_setIfInBounds] at hk
  simp only [Array.getElem?_setIfInBounds, Array.size_setIfInBounds]
  by_cases e : i = k
  · subst e
    have hs : i * 4 + 3 < cs.size := by have := h2.1; have := h2.2; omega
    have er : (d.setIfInBounds i r)[i]! = r := by simp [getElem!_pos, hk]
    rw [er]
    obtain rfl | rfl | rfl | rfl : j = 0 ∨ j = 1 ∨ j = 2 ∨ j = 3 := by omega
    · rw [if_neg (by omega), if_neg (by omega), if_neg (by omega), if_pos (by omega), if_pos (by omega)]; rfl
    · rw [if_neg (by omega), if_neg (by omega), if_pos (by omega), if_pos (by omega)]; rfl
    · rw [if_neg (by omega), if_pos (by omega), if_pos (by omega)]; rfl
    · rw [if_pos (by omega), if_pos (by omega)]; rfl
  · have er : (d.setIfInBounds i r)[k]! = d[k]! := by simp [getElem!_pos, hk, e]
    rw [er, if_neg (by omega), if_neg (by omega), if_neg (by omega), if_neg (by omega)]
    exact h3 k hk j hj
/-- The one block that a sort writes. -/
abbrev Bg (g : Nat) (w w' : World) : Prop := But (fun k => k = g) w w'
theorem Bg.drew {g : Nat} (w : World) : Bg g w w.drew := ⟨rfl, rfl, rfl, Nat.le_refl _, fun _ _ _ => rfl⟩
theorem bg_set4 (w : World) (g i : Nat) (r : Rw) : Bg g w (set4 w g i r) :=
  (((but_set w g _ _ (fun k => k = g) rfl).trans (but_set _ g _ _ (fun k => k = g) rfl)).trans (but_set _ g _ _ (fun k => k = g) rfl)).trans (but_set _ g _ _ (fun k => k = g) rfl)
theorem Ur.swp {w : World} {g z : Nat} {d : Array Rw} (h : Ur w g z d) (i j : Nat) (hi : i < d.size) (hj : j < d.size) :
    Ur (set4 (set4 w g i d[j]!) g j d[i]!) g z (Sort.swp d i j) ∧ Bg g w (set4 (set4 w g i d[j]!) g j d[i]!) :=
  ⟨(h.set i hi _).set j (by simpa using hj) _, (bg_set4 w g i _).trans (bg_set4 _ g j _)⟩
/-- Rows of their own, as such a block. -/
theorem ur_of_own {w : World} {base : Nat} {v : Value} {l : List Rw} (h : w.ownsRow base 26 4 v l.length (l.flatMap rc)) (hl : l ≠ []) : ∃ g cap, v = .slice (some ⟨g, 0, none⟩) l.length cap ∧ base ≤ g ∧ Ur w g (cap * 4) l.toArray := by
  rcases h.2 with ⟨-, h0⟩ | ⟨g, cap, cur, rfl, h2, h3, h4, -, h6, h7⟩
  · exact absurd (List.eq_nil_of_length_eq_zero h0) hl
  · refine ⟨g, cap, rfl, h2, cur, h3, ⟨h6, by have := Nat.mul_le_mul_right 4 h4; simp; omega⟩, fun i hi j hj => ?_⟩
    have hi' : i < l.length := by simpa using hi
    have e : l.toArray[i]! = l[i] := by simp [getElem!_pos, hi']
    rw [e, ← flat_get rc 4 (fun _ => rfl) l i _ (List.getElem?_eq_getElem hi') j hj, ← h7, List.getElem?_take_of_lt (by omega), Array.getElem?_toList]
/-- And back: a block that holds a list, with room behind it as it was. -/
theorem own_of_ur {w w' : World} {base g cap : Nat} {l m : List Rw} (h : w.ownsRow base 26 4 (.slice (some ⟨g, 0, none⟩) l.length cap) l.length (l.flatMap rc)) (hu : Ur w' g (cap * 4) m.toArray) (hm : m.length = l.length) : w'.ownsRow base 26 4 (.slice (some ⟨g, 0, none⟩) m.length cap) m.length (m.flatMap rc) := by
  obtain ⟨cs', k1, k2, k3⟩ := hu
  rcases h.2 with ⟨h0, -⟩ | ⟨g', cap', cur, he, h2, h3, h4, h5, h6, h7⟩
  · cases h0
  · cases he
    have hz := k2.1
    refine ⟨flat_len rc 4 (fun _ => rfl) m, .inr ⟨g, cap, cs', rfl, h2, k1, by omega, h5, by omega, ?_⟩⟩
    refine List.ext_getElem? fun q => ?_
    by_cases hq : q < m.length * 4
    · have hi : q / 4 < m.length := by omega
      rw [List.getElem?_take_of_lt hq, Array.getElem?_toList, show q = q / 4 * 4 + q % 4 by omega, k3 (q / 4) (by simpa using hi) (q % 4) (by omega), flat_get rc 4 (fun _ => rfl) m (q / 4) _ (List.getElem?_eq_getElem hi) (q % 4) (by omega)]
      have e : m.toArray[q / 4]! = m[q / 4] := by simp [getElem!_pos, hi]
      rw [e]
    · rw [List.getElem?_eq_none (by simp; omega), List.getElem?_eq_none (by rw [flat_len rc 4 (fun _ => rfl) m]; omega)]
end Go.Proofs.Ytaiiclkfnahghaa.Rq
