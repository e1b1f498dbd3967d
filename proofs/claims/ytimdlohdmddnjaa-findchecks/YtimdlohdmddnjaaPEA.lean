/- The reference: Size, Right, RightBox, In. -/
import Derived.Test.YtimdlohdmddnjaaQCD
namespace Go.Proofs.Ytimdlohdmddnjaa.Rc
open Go.RowKit Go.Lib
set_option maxHeartbeats 1000000 in
set_option maxRecDepth 100000 in
theorem eRightBox_any (a b c d : Nat) (w : World) :
    Calls Try.prog 26 #[bv a b c d] w fun e w' => e = .returned (.bool (boxS a b c d)) ∧ Below w.heap.size w w' := by
  by_cases h1 : a ≤ c
  · have q1 : (a : Int) ≤ (c : Int) := by omega
    by_cases h2 : b ≤ d
    · have q2 : (b : Int) ≤ (d : Int) := by omega
      by_cases h3 : c < 2147483648
      · have q3 : (c : Int) < 2147483648 := by omega
        have hb : boxS a b c d = decide (d < 2147483648) := by unfold boxS; apply decide_eq_decide.2; omega
        by_cases h4 : d < 2147483648
        · have q4 : (d : Int) < 2147483648 := by omega
          rw [hb, decide_eq_true h4]
          clear h1 h2 h3 h4 hb
          go_enter Try.func26, Try.ntmps26
          go_wp2_with fail
          go_ret
          exact ⟨rfl, below_new _ _⟩
        · have q4 : ¬ (d : Int) < 2147483648 := by omega
          rw [hb, decide_eq_false h4]
          clear h1 h2 h3 h4 hb
          go_enter Try.func26, Try.ntmps26
          go_wp2_with fail
          go_ret
          exact ⟨rfl, below_new _ _⟩
      · have q3 : ¬ (c : Int) < 2147483648 := by omega
        rw [show boxS a b c d = false by unfold boxS; rw [decide_eq_false_iff_not]; omega]
        clear h1 h2 h3
        go_enter Try.func26, Try.ntmps26
        go_wp2_with fail
        go_ret
        exact ⟨rfl, below_new _ _⟩
    · have q2 : ¬ (b : Int) ≤ (d : Int) := by omega
      rw [show boxS a b c d = false by unfold boxS; rw [decide_eq_false_iff_not]; omega]
      clear h1 h2
      go_enter Try.func26, Try.ntmps26
      go_wp2_with fail
      go_ret
      exact ⟨rfl, below_new _ _⟩
  · have q1 : ¬ (a : Int) ≤ (c : Int) := by omega
    rw [show boxS a b c d = false by unfold boxS; rw [decide_eq_false_iff_not]; omega]
    clear h1
    go_enter Try.func26, Try.ntmps26
    go_wp2_with fail
    go_ret
    exact ⟨rfl, below_new _ _⟩
end Go.Proofs.Ytimdlohdmddnjaa.Rc
