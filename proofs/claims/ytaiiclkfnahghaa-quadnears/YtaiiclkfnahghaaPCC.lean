/- The plane, the cell around a point, corners, gaps. -/
import Derived.Test.YtaiiclkfnahghaaQCA
import Derived.Test.YtaiiclkfnahghaaRows
import Derived.WalkKit
import Derived.Deep.RegionHeld3
namespace Go.Proofs.Ytaiiclkfnahghaa.Rc
open Go.RowKit Go.Lib
set_option maxRecDepth 100000 in
theorem below_new (w : World) (o : Obj) : Below w.heap.size w (w.alloc o) := (Below.refl _ w).alloc (Nat.le_refl _) _
set_option maxRecDepth 100000 in
theorem onS_true {x y : Nat} (h1 : x < 2147483648) (h2 : y < 2147483648) : onS x y = true := decide_eq_true ⟨h1, h2⟩
set_option maxRecDepth 100000 in
theorem onS_false {x y : Nat} (h : ¬ (x < 2147483648 ∧ y < 2147483648)) : onS x y = false := decide_eq_false h
set_option maxRecDepth 100000 in
theorem onPlane_any (x y : Nat) (w : World) :
    Calls Try.prog 57 #[.int .u32 (x : Int), .int .u32 (y : Int)] w fun e w' => e = .returned (.bool (onS x y)) ∧ w' = w := by
  by_cases h1 : x < 2147483648
  · by_cases h2 : y < 2147483648
    · rw [onS_true h1 h2]
      have q1 : (x : Int) < 2147483648 := by omega
      have q2 : (y : Int) < 2147483648 := by omega
      clear h1 h2
      go_enter Try.func57, Try.ntmps57
      go_wp2_with fail
      go_ret
      exact ⟨rfl, rfl⟩
    · rw [onS_false (fun h => h2 h.2)]
      have q1 : (x : Int) < 2147483648 := by omega
      have q2 : ¬ (y : Int) < 2147483648 := by omega
      clear h1 h2
      go_enter Try.func57, Try.ntmps57
      go_wp2_with fail
      go_ret
      exact ⟨rfl, rfl⟩
  · rw [onS_false (fun h => h1 h.1)]
    have q1 : ¬ (x : Int) < 2147483648 := by omega
    clear h1
    go_enter Try.func57, Try.ntmps57
    go_wp2_with fail
    go_ret
    exact ⟨rfl, rfl⟩
set_option maxRecDepth 100000 in
theorem andNot_is (x n : Nat) (hx : x < 4294967296) (hn : n ≤ 31) : bits .andNot .u32 (x : Int) ((2 ^ n - 1) % 4294967296) = (flr x n : Nat) := by
  have h := pow_le31 hn
  have hp := Nat.two_pow_pos n
  have e : ((2 : Int) ^ n - 1) % 4294967296 = ((2 ^ n - 1 : Nat) : Int) := by
    have : ((2 : Int) ^ n) = ((2 ^ n : Nat) : Int) := by simp
    rw [this]; omega
  rw [e, u32_andNot_nat x (2 ^ n - 1) hx (by omega), andNot_flr x n hx (by omega)]
set_option maxRecDepth 100000 in
theorem around_any (x y n : Nat) (hx : x < 4294967296) (hy : y < 4294967296) (hn : n ≤ 31) (w : World) :
    Calls Try.prog 81 #[.int .u32 (x : Int), .int .u32 (y : Int), .int .i64 (n : Int)] w fun e w' => e = .returned (.agg #[.int .u32 (flr x n : Nat), .int .u32 (flr y n : Nat), .int .i64 (n : Int)]) ∧ Below w.heap.size w w' := by
  have H1 : Hid _ := andNot_is x n hx hn
  have H2 : Hid _ := andNot_is y n hy hn
  go_enter Try.func81, Try.ntmps81
  go_wp2_with fail
  rw [H1.out, H2.out]
  exact bodyPost_ret (results_cell_row rfl _ _ w.heap.size 30 _ (0, 0) _ rfl (heap_alloc_new w _) Try.underlying30 rfl (by kernel_rfl)) rfl ⟨rfl, below_new _ _⟩
set_option maxRecDepth 100000 in
theorem reach_any (X Y n : Nat) (hn : n ≤ 31) (w : World) :
    Calls Try.prog 60 #[.agg #[.int .u32 (X : Int), .int .u32 (Y : Int), .int .i64 (n : Int)]] w fun e w' => e = .returned (.int .u32 ((2 ^ n - 1 : Nat) : Int)) ∧ Below w.heap.size w w' := by
  have H1 : Hid (((2 : Int) ^ n % 4294967296 - 1) % 4294967296 = ((2 ^ n - 1 : Nat) : Int)) := by
    have h := pow_le31 hn
    have hp := Nat.two_pow_pos n
    have : ((2 : Int) ^ n) = ((2 ^ n : Nat) : Int) := by simp
    refine (?_ : ((2 : Int) ^ n % 4294967296 - 1) % 4294967296 = ((2 ^ n - 1 : Nat) : Int))
    rw [this]; omega
  go_enter Try.func60, Try.ntmps60
  go_wp2_with fail
  rw [H1.out]
  go_ret
  exact ⟨rfl, below_new _ _⟩
set_option maxRecDepth 100000 in
theorem corners_any (X Y s : Nat) (L : Int) (h1 : X + s < 4294967296) (h2 : Y + s < 4294967296) (w : World) :
    Calls Try.prog 93 #[.agg #[.int .u32 (X : Int), .int .u32 (Y : Int), .int .i64 L], .int .u32 (s : Int)] w fun e w' =>
      e = .returned (.agg #[.int .u32 (X : Int), .int .u32 (Y : Int), .int .u32 ((X + s : Nat) : Int), .int .u32 (Y : Int), .int .u32 (X : Int), .int .u32 ((Y + s : Nat) : Int), .int .u32 ((X + s : Nat) : Int), .int .u32 ((Y + s : Nat) : Int)]) ∧ Below w.heap.size w w' := by
  have H1 : Hid (((X : Int) + (s : Int)) % 4294967296 = ((X + s : Nat) : Int)) := by
    refine (?_ : ((X : Int) + (s : Int)) % 4294967296 = ((X + s : Nat) : Int)); omega
  have H2 : Hid (((Y : Int) + (s : Int)) % 4294967296 = ((Y + s : Nat) : Int)) := by
    refine (?_ : ((Y : Int) + (s : Int)) % 4294967296 = ((Y + s : Nat) : Int)); omega
  clear h1 h2
  go_enter Try.func93, Try.ntmps93
  go_wp2_with fail
  rw [H1.out, H2.out]
  exact bodyPost_ret (results_cell_row rfl _ _ (w.heap.size + 1) 119 _ (0, 0) _ rfl (by have := heap_alloc_new (w.alloc (.cells #[.int .u32 (X : Int), .int .u32 (Y : Int), .int .i64 L] 30)) (.cells #[.int .u32 (X : Int), .int .u32 (Y : Int), .int .u32 ((X + s : Nat) : Int), .int .u32 (Y : Int), .int .u32 (X : Int), .int .u32 ((Y + s : Nat) : Int), .int .u32 ((X + s : Nat) : Int), .int .u32 ((Y + s : Nat) : Int)] 119); simpa using this) Try.underlying119 rfl (by kernel_rfl)) rfl ⟨rfl, (below_new _ _).alloc (by simp) _⟩
/-- How far a place is from those from a to b. -/
def gp (x a b : Nat) : Nat := if x < a then a - x else if b < x then x - b else 0
set_option maxRecDepth 100000 in
theorem gap_any (x a b : Nat) (h : a ≤ b) (hx : x < 4294967296) (hb : b < 4294967296) (w : World) :
    Calls Try.prog 59 #[.int .u32 (x : Int), .int .u32 (a : Int), .int .u32 (b : Int)] w fun e w' => e = .returned (.int .u64 ((gp x a b : Nat) : Int)) ∧ w' = w := by
  have H : Hid (a ≤ b ∧ x < 4294967296 ∧ b < 4294967296) := ⟨h, hx, hb⟩
  clear h hx hb
  go_enter Try.func59, Try.ntmps59
  go_wp2_with fail
  all_goals have h := H.out
  all_goals go_ret
  all_goals refine ⟨congrArg Ending.returned (congrArg (Value.int IntKind.u64) ?_), rfl⟩
  all_goals unfold gp
  all_goals split
  all_goals first | omega | (split <;> omega)
end Go.Proofs.Ytaiiclkfnahghaa.Rc
