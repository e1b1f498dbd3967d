/- Operations of a region taken one behind the other, by a list of their numbers. -/
import Derived.OrdersHeld
import Derived.KernelRfl
namespace Go.Proofs.YtfaflomephjkgaaGreatDoor
theorem l1 {α : Type _} {xs : List α} {i : Nat} (h : i < xs.toArray.size) : xs.toArray[i] = xs[i]'(by simpa using h) := rfl
theorem l2 {α : Type _} (a : α) (as : List α) (i : Nat) (h : i + 1 < (a :: as).length) : (a :: as)[i + 1] = as[i]'(by simpa using h) := rfl
theorem l3 {α : Type _} (a : α) (as : List α) (h : 0 < (a :: as).length) : (a :: as)[0] = a := rfl
theorem l4 {α : Type _} (l : List α) (i : Nat) (a : α) : l.toArray.setIfInBounds i a = (l.set i a).toArray := List.setIfInBounds_toArray l i a
theorem l5 {α : Type _} {x : α} {xs : List α} {i : Nat} {a : α} : (x :: xs).set (i + 1) a = x :: xs.set i a := rfl
theorem l6 {α : Type _} {x : α} {xs : List α} {a : α} : (x :: xs).set 0 a = a :: xs := rfl
def Plan (_ : List Nat) (p : Prop) : Prop := p
theorem plan (l : List Nat) {p : Prop} (h : Plan l p) : p := h
theorem plan0 {p : Prop} (h : p) : Plan [] p := h
def tkOk (md : Region.Mode) (ops : Array Oper) (l : Array Bool) (i : Nat) : Bool := Region.noSelect ops && (Region.free md ops l i && (Region.ready md ops l).contains i)
theorem tkA {P : Program} {ops : Array Oper} {Q : Exit → Act → World → Prop} {md : Region.Mode} {i : Nat} {is : List Nat} {oi : Oper} {v : Value} {fuel : Nat} {listed : Array Bool} {a : Act} {w : World} (hi : ops[i]? = some oi)
    (hk : tkOk md ops listed i = true) (hQ : ∀ c a w, Q (.panic c) (a.put oi.dst v) w → Q (.panic c) a w) (hw : Region.wanted oi (yielded ops a.tmps) = true) (hy : ∀ w, (execOp a.eval oi).run P w = .ok (.value v) w)
    (h : Plan is (wpAny P md ops Q fuel (listed.setIfInBounds i true) (a.put oi.dst v) w)) : Plan (i :: is) (wpAny P md ops Q (fuel + 1) listed a w) := by
  obtain ⟨h1, h2, h3⟩ : Region.noSelect ops = true ∧ Region.free md ops listed i = true ∧ (Region.ready md ops listed).contains i = true := by simpa only [tkOk, Bool.and_eq_true] using hk
  exact wpAny_take hi h1 h2 h3 hQ (.inl ⟨hw, hy⟩) h
theorem tkH {P : Program} {ops : Array Oper} {Q : Exit → Act → World → Prop} {md : Region.Mode} {S : World → Prop} {i : Nat} {is : List Nat} {oi : Oper} {v : Value} {fuel : Nat} {listed : Array Bool} {a : Act} {w : World} (hi : ops[i]? = some oi)
    (hk : tkOk md ops listed i = true) (hQ : ∀ c a w, Q (.panic c) (a.put oi.dst v) w → Q (.panic c) a w) (hw : Region.wanted oi (yielded ops a.tmps) = true) (hy : ∀ w, S w → (execOp a.eval oi).run P w = .ok (.value v) w) (hS : S w)
    (h : Plan is (wpAnyH P md ops Q S fuel (listed.setIfInBounds i true) (a.put oi.dst v) w)) : Plan (i :: is) (wpAnyH P md ops Q S (fuel + 1) listed a w) := by
  obtain ⟨h1, h2, h3⟩ : Region.noSelect ops = true ∧ Region.free md ops listed i = true ∧ (Region.ready md ops listed).contains i = true := by simpa only [tkOk, Bool.and_eq_true] using hk
  exact wpAnyH_take hi h1 h2 h3 hQ (.inl ⟨hw, hy⟩) hS h
end Go.Proofs.YtfaflomephjkgaaGreatDoor
