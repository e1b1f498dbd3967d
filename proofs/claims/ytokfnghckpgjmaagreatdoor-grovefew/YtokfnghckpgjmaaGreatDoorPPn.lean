/- Operations taken, in a fence. -/
import Derived.Test.YtokfnghckpgjmaaGreatDoorPPl
import Derived.OrdersIn
namespace Go.Proofs.YtokfnghckpgjmaaGreatDoor
theorem cV {F : Fence} {n : Nat} {P : Program} {ops : Array Oper} {Q : Exit → Act → World → Prop} {md : Region.Mode} {i : Nat} {oi : Oper} {v : Value} {fuel : Nat} {listed : Array Bool} {a : Act} {w : World} (hro : F.round = none) (hi : ops[i]? = some oi)
    (hy : ∀ w, (execOp a.eval oi).run P w = .ok (.value v) w) 
    (h : wpAnyIn F n P md ops Q fuel (listed.setIfInBounds i true) (a.put oi.dst v) w) (hk : iE md ops listed i = true := by kernel_rfl) (hQ : ∀ c a w, Q (.panic c) (a.put oi.dst v) w → Q (.panic c) a w := by exact fun _ _ _ h => h) (hw : Region.wanted oi (yielded ops a.tmps) = true := by first | kernel_rfl | rfl) (ha : ∀ w, oi.about P w a.eval = none := by exact fun _ => rfl) : wpAnyIn F n P md ops Q (fuel + 1) listed a w := by
  obtain ⟨h1, h2, h3⟩ : Region.noSelect ops = true ∧ Region.free md ops listed i = true ∧ (Region.ready md ops listed).contains i = true := by simpa only [iE, Bool.and_eq_true] using hk
  exact wpAnyIn_take hro hi h1 h2 h3 hQ ⟨.inl ⟨hw, hy⟩, ha⟩ h
end Go.Proofs.YtokfnghckpgjmaaGreatDoor
