/- Rows in a block of their own: one is written over, one is made zero. -/
import Derived.Test.YthneciodobeehaaPTE
import Derived.Test.YthneciodobeehaaPJA
import Derived.Test.YthneciodobeehaaPEQ
import Derived.Lib.SliceRun
namespace Go.Proofs.Ythneciodobeehaa.Rq
open Go.RowKit Go.Lib Go.Shelf
open Go.Proofs.Ythneciodobeehaa.Rc
instance : Inhabited Rw := ⟨⟨0, 0, 0, ⟨#[]⟩⟩⟩
set_option maxRecDepth 100000 in
theorem but_set (W : World) (g k : Nat) (v : Value) (own : Nat → Prop) (h : own g) : But own W (W.setCell ⟨g, k, none⟩ v) :=
  ⟨rfl, rfl, rfl, by simp [World.setCell], fun j _ hn => Below.heap_setCell _ _ _ _ (fun e => hn (by have e' : j = g := e; rw [e']; exact h))⟩
def Ur (w : World) (g z : Nat) (d : Array Rw) : Prop := ∃ cs, w.heap[g]? = some (.cells cs 27 (0, 0)) ∧ (cs.size = z ∧ d.size * 4 ≤ z) ∧ ∀ i, i < d.size → ∀ j, j < 4 → cs[i * 4 + j]? = (rc d[i]!)[j]?
set_option maxRecDepth 100000 in
theorem Ur.lt {w : World} {g z : Nat} {d : Array Rw} (h : Ur w g z d) : g < w.heap.size := by
  obtain ⟨cs, h1, h2⟩ := h
  exact (Array.getElem?_eq_some_iff.1 h1).1
set_option maxRecDepth 100000 in
theorem Ur.same {w w' : World} {g z : Nat} {d : Array Rw} (h : Ur w g z d) (e : w'.heap[g]? = w.heap[g]?) : Ur w' g z d := by
  obtain ⟨cs, h1, h2⟩ := h
  exact ⟨cs, e.trans h1, h2⟩
set_option maxRecDepth 100000 in
theorem Ur.cell {w : World} {g z : Nat} {d : Array Rw} (h : Ur w g z d) (i : Nat) (hi : i < d.size) :
    (w.cell? ⟨g, i * 4, none⟩ = some (.int .u64 (d[i]!.id : Int)) ∧ w.cell? ⟨g, i * 4 + 1, none⟩ = some (.int .u32 (d[i]!.x : Int)) ∧ w.cell? ⟨g, i * 4 + 2, none⟩ = some (.int .u32 (d[i]!.y : Int)) ∧ w.cell? ⟨g, i * 4 + 3, none⟩ = some (.string d[i]!.v)) ∧ ∀ k, w.frozen? ⟨g, k, none⟩ = false := by
  obtain ⟨cs, h1, h2, h3⟩ := h
  refine ⟨⟨?_, ?_, ?_, ?_⟩, fun k => frozen_of_row w _ _ _ _ h1⟩
  · rw [cell_of_row _ _ _ _ _ _ h1]; exact h3 i hi 0 (by omega)
  · rw [cell_of_row _ _ _ _ _ _ h1]; exact h3 i hi 1 (by omega)
  · rw [cell_of_row _ _ _ _ _ _ h1]; exact h3 i hi 2 (by omega)
  · rw [cell_of_row _ _ _ _ _ _ h1]; exact h3 i hi 3 (by omega)
def set4 (w : World) (g i : Nat) (r : Rw) : World := (((w.setCell ⟨g, i * 4, none⟩ (.int .u64 (r.id : Int))).setCell ⟨g, i * 4 + 1, none⟩ (.int .u32 (r.x : Int))).setCell ⟨g, i * 4 + 2, none⟩ (.int .u32 (r.y : Int))).setCell ⟨g, i * 4 + 3, none⟩ (.string r.v)
set_option maxRecDepth 100000 in
theorem Ur.set {w : World} {g z : Nat} {d : Array Rw} (h : Ur w g z d) (i : Nat) (hi : i < d.size) (r : Rw) : Ur (set4 w g i r) g z (d.setIfInBounds i r) := by
  obtain ⟨cs, h1, h2, h3⟩ := h
  have X1 := heap_setCell_same w g (i * 4) _ _ (.int .u64 (r.id : Int)) h1
  have X2 := heap_setCell_same _ g (i * 4 + 1) _ _ (.int .u32 (r.x : Int)) X1
  have X3 := heap_setCell_same _ g (i * 4 + 2) _ _ (.int .u32 (r.y : Int)) X2
  have X4 := heap_setCell_same _ g (i * 4 + 3) _ _ (.string r.v) X3
  refine ⟨_, X4, ⟨by simpa using h2.1, by simpa using h2.2⟩, fun k hk j hj => ?_⟩
  simp only [Array.size_setIfInBounds] at hk
  simp only [Array.getElem?_setIfInBounds, Array.size_setIfInBounds]
  by_cases e : i = k
  · subst e
    have hs : i * 4 + 3 < cs.size := by have := h2.1; have := h2.2; omega
    have er : (d.setIfInBounds i r)[i]! = r := by simp [getElem!_pos, hk]
    rw [er]
    obtain rfl | rfl | rfl | rfl : j = 0 ∨ j = 1 ∨ j = 2 ∨ j = 3 := by omega
    · rw [if_neg (by omega), if_neg (by omega), if_neg (by omega), if_pos (by omega), if_pos (by omega)]; rfl
    · rw [if_neg (by omega), if_neg (by omega), if_pos (by omega), if_pos (by omega)]; rfl
    · rw [if_neg (by omega), if_pos (by omega), if_pos (by omega)]; rfl
    · rw [if_pos (by omega), if_pos (by omega)]; rfl
  · have er : (d.setIfInBounds i r)[k]! = d[k]! := by simp [getElem!_pos, hk, e]
    rw [er, if_neg (by omega), if_neg (by omega), if_neg (by omega), if_neg (by omega)]
    exact h3 k hk j hj
abbrev Bg (g : Nat) (w w' : World) : Prop := But (fun k => k = g) w w'
set_option maxRecDepth 100000 in
theorem bg_set4 (w : World) (g i : Nat) (r : Rw) : Bg g w (set4 w g i r) :=
  (((but_set w g _ _ (fun k => k = g) rfl).trans (but_set _ g _ _ (fun k => k = g) rfl)).trans (but_set _ g _ _ (fun k => k = g) rfl)).trans (but_set _ g _ _ (fun k => k = g) rfl)
set_option maxRecDepth 100000 in
theorem ur_of_own {w : World} {base : Nat} {v : Value} {l : List Rw} (h : w.ownsRow base 27 4 v l.length (l.flatMap rc)) (hl : l ≠ []) : ∃ g cap, v = .slice (some ⟨g, 0, none⟩) l.length cap ∧ base ≤ g ∧ Ur w g (cap * 4) l.toArray := by
  rcases h.2 with ⟨-, h0⟩ | ⟨g, cap, cur, rfl, h2, h3, h4, -, h6, h7⟩
  · exact absurd (List.eq_nil_of_length_eq_zero h0) hl
  · refine ⟨g, cap, rfl, h2, cur, h3, ⟨h6, by have := Nat.mul_le_mul_right 4 h4; simp; omega⟩, fun i hi j hj => ?_⟩
    have hi' : i < l.length := by simpa using hi
    have e : l.toArray[i]! = l[i] := by simp [getElem!_pos, hi']
    rw [e, ← flat_get rc 4 (fun _ => rfl) l i _ (List.getElem?_eq_getElem hi') j hj, ← h7, List.getElem?_take_of_lt (by omega), Array.getElem?_toList]
set_option maxRecDepth 100000 in
theorem run_clear_row {w : World} {g z i : Nat} {d : Array Rw} (h : Ur w g z d) (hi : i < d.size) (ty : TypeId) (c : Nat) : (Builtin.clear_ #[22] ty #[.slice (some ⟨g, i * 4, none⟩) 1 c]).run Try.prog w = .ok (.tuple #[]) (set4 w g i ⟨0, 0, 0, ⟨#[]⟩⟩) := by
  obtain ⟨⟨c0, c1, c2, c3⟩, fz⟩ := h.cell i hi
  have hst := run_storeCells_cells (P := Try.prog) g (i * 4) [.int .u64 0, .int .u32 0, .int .u32 0, .string ⟨#[]⟩] 0 w (fun j hj => by
    have : j = 0 ∨ j = 1 ∨ j = 2 ∨ j = 3 := by simp at hj; omega
    rcases this with rfl | rfl | rfl | rfl
    · rw [show i * 4 + 0 + 0 = i * 4 from rfl, c0]; rfl
    · rw [show i * 4 + 0 + 1 = i * 4 + 1 from rfl, c1]; rfl
    · rw [show i * 4 + 0 + 2 = i * 4 + 2 from rfl, c2]; rfl
    · rw [show i * 4 + 0 + 3 = i * 4 + 3 from rfl, c3]; rfl) (fun j _ => fz _) (fun v hv => by
    simp at hv
    rcases hv with rfl | rfl | rfl <;> rfl)
  have hz : ∀ w, (zeroValue 27).run Try.prog w = .ok (.agg #[.int .u64 0, .int .u32 0, .int .u32 0, .string ⟨#[]⟩]) w := Try.zeroValue27
  have hzc : (Builtin.zeroCells (Value.cells (.agg #[.int .u64 0, .int .u32 0, .int .u32 0, .string ⟨#[]⟩])) 1).toList = [.int .u64 0, .int .u32 0, .int .u32 0, .string ⟨#[]⟩] := by kernel_rfl
  simp [Builtin.clear_, run_underlying Try.underlying22, hz, hzc, hst, Result.andThen]
  rfl
end Go.Proofs.Ythneciodobeehaa.Rq
