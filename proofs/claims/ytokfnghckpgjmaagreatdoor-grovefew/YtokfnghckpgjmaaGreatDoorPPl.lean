/- Operations of a region taken one behind the other, by a list of their numbers. -/
import Derived.OrdersHeld
import Derived.KernelRfl
namespace Go.Proofs.YtokfnghckpgjmaaGreatDoor
def iD (_ : List Nat) (p : Prop) : Prop := p
theorem bB (l : List Nat) {p : Prop} (h : iD l p) : p := h
theorem bA {p : Prop} (h : p) : iD [] p := h
def iE (md : Region.Mode) (ops : Array Oper) (l : Array Bool) (i : Nat) : Bool := Region.noSelect ops && (Region.free md ops l i && (Region.ready md ops l).contains i)
theorem fS {P : Program} {ops : Array Oper} {Q : Exit → Act → World → Prop} {md : Region.Mode} {i : Nat} {is : List Nat} {oi : Oper} {v : Value} {fuel : Nat} {listed : Array Bool} {a : Act} {w : World} (hi : ops[i]? = some oi)
     (hy : ∀ w, (execOp a.eval oi).run P w = .ok (.value v) w)
    (h : iD is (wpAny P md ops Q fuel (listed.setIfInBounds i true) (a.put oi.dst v) w)) (hk : iE md ops listed i = true := by kernel_rfl) (hQ : ∀ c a w, Q (.panic c) (a.put oi.dst v) w → Q (.panic c) a w := by exact fun _ _ _ h => h) (hw : Region.wanted oi (yielded ops a.tmps) = true := by kernel_rfl) : iD (i :: is) (wpAny P md ops Q (fuel + 1) listed a w) := by
  obtain ⟨h1, h2, h3⟩ : Region.noSelect ops = true ∧ Region.free md ops listed i = true ∧ (Region.ready md ops listed).contains i = true := by simpa only [iE, Bool.and_eq_true] using hk
  exact wpAny_take hi h1 h2 h3 hQ (.inl ⟨hw, hy⟩) h
theorem bS {P : Program} {ops : Array Oper} {Q : Exit → Act → World → Prop} {md : Region.Mode} {S : World → Prop} {i : Nat} {is : List Nat} {oi : Oper} {v : Value} {fuel : Nat} {listed : Array Bool} {a : Act} {w : World} (hi : ops[i]? = some oi)
     (hy : ∀ w, S w → (execOp a.eval oi).run P w = .ok (.value v) w) (hS : S w)
    (h : iD is (wpAnyH P md ops Q S fuel (listed.setIfInBounds i true) (a.put oi.dst v) w)) (hk : iE md ops listed i = true := by kernel_rfl) (hQ : ∀ c a w, Q (.panic c) (a.put oi.dst v) w → Q (.panic c) a w := by exact fun _ _ _ h => h) (hw : Region.wanted oi (yielded ops a.tmps) = true := by kernel_rfl) : iD (i :: is) (wpAnyH P md ops Q S (fuel + 1) listed a w) := by
  obtain ⟨h1, h2, h3⟩ : Region.noSelect ops = true ∧ Region.free md ops listed i = true ∧ (Region.ready md ops listed).contains i = true := by simpa only [iE, Bool.and_eq_true] using hk
  exact wpAnyH_take hi h1 h2 h3 hQ (.inl ⟨hw, hy⟩) hS h
theorem gO {P : Program} {ops : Array Oper} {Q : Exit → Act → World → Prop} {md : Region.Mode} {S : World → Prop} {i : Nat} {is : List Nat} {oi : Oper} {fuel : Nat} {listed : Array Bool} {a : Act} {w : World} (hi : ops[i]? = some oi)
     (hS : S w)
    (h : iD is (wpAnyH P md ops Q S fuel (listed.setIfInBounds i true) (a.put oi.dst undef) w)) (hk : iE md ops listed i = true := by kernel_rfl) (hQ : ∀ c a w, Q (.panic c) (a.put oi.dst undef) w → Q (.panic c) a w := by exact fun _ _ _ h => h) (hw : Region.wanted oi (yielded ops a.tmps) = false := by kernel_rfl) : iD (i :: is) (wpAnyH P md ops Q S (fuel + 1) listed a w) := by
  obtain ⟨h1, h2, h3⟩ : Region.noSelect ops = true ∧ Region.free md ops listed i = true ∧ (Region.ready md ops listed).contains i = true := by simpa only [iE, Bool.and_eq_true] using hk
  exact wpAnyH_take hi h1 h2 h3 hQ (.inr ⟨hw, rfl⟩) hS h
end Go.Proofs.YtokfnghckpgjmaaGreatDoor
