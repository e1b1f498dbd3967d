/- The reference: Size, Right, RightBox, In. -/
import Derived.Test.YtimdlohdmddnjaaQCD
namespace Go.Proofs.Ytimdlohdmddnjaa.Rc
open Go.RowKit Go.Lib
set_option maxHeartbeats 1000000 in
set_option maxRecDepth 100000 in
theorem eRightBox_any (a b c d : Nat) (w : World) :
  Calls Try.prog 26 #[bv a b c d] w fun e w' => e = .returned (.bool (boxS a b c d)) ∧ Below w.heap.size w w' := by
 by_cases h1 : a ≤ c
 ·have q1 : (a : Int) ≤ (c : Int) := by omega
  by_cases h2 : b ≤ d
  ·have q2 : (b : Int) ≤ (d : Int) := by omega
   by_cases h3 : c < 2147483648
   ·have q3 : (c : Int) < 2147483648 := by omega
    have hb : boxS a b c d = decide (d < 2147483648) := by unfold boxS; apply decide_eq_decide.2; omega
    by_cases h4 : d < 2147483648
    ·have q4 : (d : Int) < 2147483648 := by omega
     rw [hb, decide_eq_true h4]
     clear h1 h2 h3 h4 hb
     go_enter Try.func26, Try.ntmps26
     go_wp2_with fail
     go_ret
     exact ⟨rfl, below_new _ _⟩
    ·have q4 : ¬ (d : Int) < 2147483648 := by omega
     rw [hb, decide_eq_false h4]
     clear h1 h2 h3 h4 hb
     go_enter Try.func26, Try.ntmps26
     go_wp2_with fail
     go_ret
     exact ⟨rfl, below_new _ _⟩
   ·have q3 : ¬ (c : Int) < 2147483648 := by omega
    rw [show boxS a b c d = false by unfold boxS; rw [decide_eq_false_iff_not]; omega]
    clear h1 h2 h3
    go_enter Try.func26, Try.ntmps26
    go_wp2_with fail
    go_ret
    exact ⟨rfl, below_new _ _⟩
  ·have q2 : ¬ (b : Int) ≤ (d : Int) := by omega
   rw [show boxS a b c d = false by unfold boxS; rw [decide_eq_false_iff_not]; omega]
   clear h1 h2
   go_enter Try.func26, Try.ntmps26
   go_wp2_with fail
   go_ret
   exact ⟨rfl, below_new _ _⟩
 ·have q1 : ¬ (a : Int) ≤ (c : Int) := by omega
  rw [show boxS a b c d = false by unfold boxS; rw [decide_eq_false_iff_not]; omega]
  clear h1
  go_enter Try.func26, Try.ntmps26
  go_wp2_with fail
  go_ret
  exact ⟨rfl, below_new _ _⟩
set_option maxHeartbeats 1000000 in
set_option maxRecDepth 100000 in
theorem eIn_any (a b c d x y : Nat) (w : World) :
  Calls Try.prog 83 #[bv a b c d, .int .u32 (x : Int), .int .u32 (y : Int)] w fun e w' => e = .returned (.bool (inS a b c d x y)) ∧ Below w.heap.size w w' := by
 go_enter Try.func83, Try.ntmps83
 go_wp2_with fail
 refine (eRightBox_any a b c d _).mono ?_
 rintro e w1 ⟨rfl, b1⟩
 have HB : Hid (Below w.heap.size w w1) := (below_new w _).trans (b1.mono (by simp))
 have hS := (bx_new a b c d w).below b1 (by simp)
 obtain ⟨e0, e1, e2, e3⟩ := hS
 clear b1
 cases hb : boxS a b c d
 ·have HI : Hid (inS a b c d x y = false) := by refine (?_ : inS a b c d x y = false); unfold inS; rw [hb]; simp
  clear hb
  go_wp2_with fail
  go_ret
  exact ⟨by rw [HI.out]; rfl, HB.out⟩
 ·have HI : Hid (inS a b c d x y = decide (a ≤ x ∧ x ≤ c ∧ b ≤ y ∧ y ≤ d)) := by refine (?_ : inS a b c d x y = _); unfold inS; rw [hb]; simp
  clear hb
  go_wp2_with fail
  all_goals go_ret
  all_goals refine ⟨congrArg Ending.returned (congrArg Value.bool ?_), HB.out⟩
  all_goals rw [HI.out]
  all_goals symm
  all_goals first | (rw [decide_eq_true_iff]; omega) | (rw [decide_eq_false_iff_not]; omega) | (apply decide_eq_decide.2; omega)
theorem dist_lt {a b : Nat} (ha : a < 2147483648) (hb : b < 2147483648) : dist a b < 2147483648 := by unfold dist; omega
theorem sub_dist {a b : Nat} (ha : a < 2147483648) (hb : b < 2147483648) : (max (a : Int) (b : Int) - min (a : Int) (b : Int)) % 4294967296 = (dist a b : Nat) := by unfold dist; omega
theorem dist_sq {a b : Nat} (ha : a < 2147483648) (hb : b < 2147483648) : dist a b * dist a b ≤ 2147483647 * 2147483647 := Nat.mul_le_mul (by have := dist_lt ha hb; omega) (by have := dist_lt ha hb; omega)
set_option maxHeartbeats 2000000 in
set_option maxRecDepth 100000 in
theorem eSquare_any (x y u v : Nat) (hx : x < 2147483648) (hy : y < 2147483648) (hu : u < 2147483648) (hv : v < 2147483648) (w : World) :
  Calls Try.prog 82 #[.int .u32 (x : Int), .int .u32 (y : Int), .int .u32 (u : Int), .int .u32 (v : Int)] w fun e w' => e = .returned (.int .u64 ((dist x u * dist x u + dist y v * dist y v : Nat) : Int)) ∧ w' = w := by
 have H1 : Hid _ := sub_dist hx hu
 have H2 : Hid _ := sub_dist hy hv
 have HD : Hid _ := sq_wrap (dist x u) (dist y v) (dist_sq hx hu) (dist_sq hy hv)
 clear hx hy hu hv
 go_enter Try.func82, Try.ntmps82
 go_wp2_with fail
 rw [H1.out, H2.out, HD.out]
 go_ret
 exact ⟨rfl, rfl⟩
end Go.Proofs.Ytimdlohdmddnjaa.Rc
