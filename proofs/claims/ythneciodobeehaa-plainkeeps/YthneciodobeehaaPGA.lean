/- Rows and their tree, in plain terms. -/
import Derived.Test.YthneciodobeehaaPCB
namespace Go.Proofs.Ythneciodobeehaa.Rq
open Go.Proofs.Ythneciodobeehaa.Rc
/-- A row. -/
structure Rw where
  id : Nat
  x : Nat
  y : Nat
  v : ByteArray
def okRow (r : Rw) : Prop := r.id < 18446744073709551616 ∧ r.x < 4294967296 ∧ r.y < 4294967296
def rightRow (r : Rw) : Bool := decide (r.x < 2147483648 ∧ r.y < 2147483648 ∧ r.v.size ≤ 16)
/-- The row at an index. -/
def rat (l : List Rw) (i : Nat) : Rw := (l[i]?).getD ⟨0, 0, 0, ByteArray.empty⟩
theorem rat_some {l : List Rw} {i : Nat} (h : i < l.length) : l[i]? = some (rat l i) := by unfold rat; rw [List.getElem?_eq_getElem h]; rfl
theorem rat_get {l : List Rw} {i : Nat} (h : i < l.length) : rat l i = l[i] := by unfold rat; rw [List.getElem?_eq_getElem h]; rfl
/-- A row that is right, behind the one ahead of it. -/
def rightAt (l : List Rw) (i : Nat) : Bool := rightRow (rat l i) && (decide (i = 0) || decide ((rat l (i - 1)).id < (rat l i).id))
def rightL (l : List Rw) : Bool := decide (l.length ≤ 1000 ∧ ∀ i, i < l.length → rightAt l i = true)
theorem rightL_iff (l : List Rw) : rightL l = true ↔ l.length ≤ 1000 ∧ ∀ i, i < l.length → rightAt l i = true := by unfold rightL; rw [decide_eq_true_iff]
theorem rightAt_iff (l : List Rw) (i : Nat) : rightAt l i = true ↔ rightRow (rat l i) = true ∧ (0 < i → (rat l (i - 1)).id < (rat l i).id) := by
  unfold rightAt
  rw [Bool.and_eq_true, Bool.or_eq_true, decide_eq_true_iff, decide_eq_true_iff]
  constructor
  · rintro ⟨h, k⟩
    exact ⟨h, fun hi => by rcases k with k | k; omega; exact k⟩
  · rintro ⟨h, k⟩
    refine ⟨h, ?_⟩
    by_cases e : i = 0
    · exact .inl e
    · exact .inr (k (by omega))
def Rise (l : List Rw) : Prop := l.Pairwise fun a b => a.id < b.id
theorem right_rise {l : List Rw} (h : rightL l = true) : Rise l := by
  have hs : ∀ i, i + 1 < l.length → (rat l i).id < (rat l (i + 1)).id := fun i hi => ((rightAt_iff l (i + 1)).1 (((rightL_iff l).1 h).2 (i + 1) hi)).2 (by omega)
  have key : ∀ (k i : Nat), i + k + 1 < l.length → (rat l i).id < (rat l (i + k + 1)).id := by
    intro k
    induction k with
    | zero => exact fun i hi => hs i hi
    | succ k ih => exact fun i hi => Nat.lt_trans (ih i (by omega)) (hs (i + k + 1) hi)
  unfold Rise
  rw [List.pairwise_iff_getElem]
  intro i j hi hj hij
  have := key (j - i - 1) i (by omega)
  rw [show i + (j - i - 1) + 1 = j by omega] at this
  rw [rat_get hi, rat_get hj] at this
  exact this
end Go.Proofs.Ythneciodobeehaa.Rq
