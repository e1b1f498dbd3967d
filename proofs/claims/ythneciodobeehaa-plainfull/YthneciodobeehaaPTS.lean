/- The reference's rows behind a change are the program's: in plain terms. -/
import Derived.Test.YthneciodobeehaaPTR
namespace Go.Proofs.Ythneciodobeehaa.Rp
open Go.RowKit Go.Lib
open Go.Proofs.Ythneciodobeehaa.Rc Go.Proofs.Ythneciodobeehaa.Rq
abbrev nid (id : Nat) (x : Rw) : Bool := x.id != id
theorem low_cons (x : Rw) (t : List Rw) (id : Nat) : lowTo (x :: t) id = if id ≤ x.id then 0 else lowTo t id + 1 := by
  unfold lowTo
  rw [List.findIdx_cons]
  by_cases h : id ≤ x.id <;> simp [h]
theorem its_cons (x : Rw) (t : List Rw) (id : Nat) : its (x :: t) id = if x.id = id then some x else its t id := by
  unfold its
  rw [List.find?_cons]
  by_cases h : x.id = id
  · simp [h]
  · rw [if_neg h, show (x.id == id) = false by simp [h]]
theorem filter_above {t : List Rw} {id : Nat} (h : ∀ y ∈ t, id < y.id) : t.filter (nid id) = t := by
  rw [List.filter_eq_self]
  intro y hy
  have := h y hy
  simp [nid]
  omega
theorem its_above {t : List Rw} {id : Nat} (h : ∀ y ∈ t, id < y.id) : its t id = none := by
  unfold its
  rw [List.find?_eq_none]
  intro y hy
  have := h y hy
  simp
  omega
theorem rem_filter {l : List Rw} (h : Rise l) (id : Nat) : remR l id = l.filter (nid id) := by
  induction l with
  | nil => rfl
  | cons x t ih =>
    have h1 := List.pairwise_cons.1 h
    have ih := ih h1.2
    unfold remR at *
    rw [its_cons, low_cons]
    by_cases e : x.id = id
    · have ha : ∀ y ∈ t, id < y.id := fun y hy => by have := h1.1 y hy; omega
      have hf : (x :: t).filter (nid id) = t := by
        rw [List.filter_cons, if_neg (by simp [nid, e]), filter_above ha]
      rw [hf, if_pos e, if_pos (show id ≤ x.id by omega)]
      rfl
    · rw [if_neg e]
      have hf : (x :: t).filter (nid id) = x :: t.filter (nid id) := by
        rw [List.filter_cons, if_pos (by simp [nid, e])]
      rw [hf]
      by_cases g : id ≤ x.id
      · have ha : ∀ y ∈ t, id < y.id := fun y hy => by have := h1.1 y hy; omega
        rw [its_above ha, filter_above ha]
        rfl
      · rw [if_neg g, ← ih]
        split <;> simp
theorem ins_cons_ge {l : List Rw} {r : Rw} (h : ∀ y ∈ l, r.id ≤ y.id) : insR l r = r :: l := by
  have : lowTo l r.id = 0 := by
    cases l with
    | nil => rfl
    | cons x t => rw [low_cons, if_pos (h x (List.mem_cons_self ..))]
  unfold insR
  rw [this]
  simp
theorem ins_cons_lt {x : Rw} {l : List Rw} {r : Rw} (h : x.id < r.id) : insR (x :: l) r = x :: insR l r := by
  unfold insR
  rw [low_cons, if_neg (by omega)]
  simp
theorem ins_len (l : List Rw) (r : Rw) : (insR l r).length = l.length + 1 := by
  unfold insR
  have := low_le l r.id
  simp only [List.length_append, List.length_take, List.length_drop, List.length_cons, List.length_nil]
  omega
end Go.Proofs.Ythneciodobeehaa.Rp
