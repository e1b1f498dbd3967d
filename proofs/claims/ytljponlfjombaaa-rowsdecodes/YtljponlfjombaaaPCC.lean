/- The plane, the cell around a point, corners, gaps. -/
import Derived.Test.YtljponlfjombaaaQCA
import Derived.Test.YtljponlfjombaaaRows
import Derived.WalkKit
import Derived.Deep.RegionHeld3
namespace Go.Proofs.Ytljponlfjombaaa.Rc
open Go.RowKit Go.Lib
set_option maxRecDepth 100000 in
theorem below_new (w : World) (o : Obj) : Below w.heap.size w (w.alloc o) := (Below.refl _ w).alloc (Nat.le_refl _) _
set_option maxRecDepth 100000 in
theorem onS_true {x y : Nat} (h1 : x < 2147483648) (h2 : y < 2147483648) : onS x y = true := decide_eq_true ⟨h1, h2⟩
set_option maxRecDepth 100000 in
theorem onS_false {x y : Nat} (h : ¬ (x < 2147483648 ∧ y < 2147483648)) : onS x y = false := decide_eq_false h
set_option maxRecDepth 100000 in
theorem onPlane_any (x y : Nat) (w : World) :
    Calls Try.prog 46 #[.int .u32 (x : Int), .int .u32 (y : Int)] w fun e w' => e = .returned (.bool (onS x y)) ∧ w' = w := by
  by_cases h1 : x < 2147483648
  · by_cases h2 : y < 2147483648
    · rw [onS_true h1 h2]
      have q1 : (x : Int) < 2147483648 := by omega
      have q2 : (y : Int) < 2147483648 := by omega
      clear h1 h2
      go_enter Try.func46, Try.ntmps46
      go_wp2_with fail
      go_ret
      exact ⟨rfl, rfl⟩
    · rw [onS_false (fun h => h2 h.2)]
      have q1 : (x : Int) < 2147483648 := by omega
      have q2 : ¬ (y : Int) < 2147483648 := by omega
      clear h1 h2
      go_enter Try.func46, Try.ntmps46
      go_wp2_with fail
      go_ret
      exact ⟨rfl, rfl⟩
  · rw [onS_false (fun h => h1 h.1)]
    have q1 : ¬ (x : Int) < 2147483648 := by omega
    clear h1
    go_enter Try.func46, Try.ntmps46
    go_wp2_with fail
    go_ret
    exact ⟨rfl, rfl⟩
set_option maxRecDepth 100000 in
theorem andNot_is (x n : Nat) (hx : x < 4294967296) (hn : n ≤ 31) : bits .andNot .u32 (x : Int) ((2 ^ n - 1) % 4294967296) = (flr x n : Nat) := by
  have h := pow_le31 hn
  have hp := Nat.two_pow_pos n
  have e : ((2 : Int) ^ n - 1) % 4294967296 = ((2 ^ n - 1 : Nat) : Int) := by
    have : ((2 : Int) ^ n) = ((2 ^ n : Nat) : Int) := by simp
    rw [this]; omega
  rw [e, u32_andNot_nat x (2 ^ n - 1) hx (by omega), andNot_flr x n hx (by omega)]
set_option maxRecDepth 100000 in
theorem around_any (x y n : Nat) (hx : x < 4294967296) (hy : y < 4294967296) (hn : n ≤ 31) (w : World) :
    Calls Try.prog 47 #[.int .u32 (x : Int), .int .u32 (y : Int), .int .i64 (n : Int)] w fun e w' => e = .returned (.agg #[.int .u32 (flr x n : Nat), .int .u32 (flr y n : Nat), .int .i64 (n : Int)]) ∧ Below w.heap.size w w' := by
  have H1 : Hid _ := andNot_is x n hx hn
  have H2 : Hid _ := andNot_is y n hy hn
  go_enter Try.func47, Try.ntmps47
  go_wp2_with fail
  rw [H1.out, H2.out]
  exact bodyPost_ret (results_cell_row rfl _ _ w.heap.size 24 _ (0, 0) _ rfl (heap_alloc_new w _) Try.underlying24 rfl (by kernel_rfl)) rfl ⟨rfl, below_new _ _⟩
/-- How far a place is from those from a to b. -/
def gp (x a b : Nat) : Nat := if x < a then a - x else if b < x then x - b else 0
end Go.Proofs.Ytljponlfjombaaa.Rc
