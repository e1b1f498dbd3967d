/- What is told, in plain terms; the program's and the reference's functions against it. -/
import Derived.Test.YtimdlohdmddnjaaQCD
import Derived.Test.YtimdlohdmddnjaaQCK
import Derived.Test.YtimdlohdmddnjaaQEA
namespace Go.Proofs.Ytimdlohdmddnjaa.Rc
open Go.RowKit Go.Lib
def wher (X Y : Nat) (L : Int) (x y : Nat) : Nat × Int := if hasS X Y L x y = true ∧ L ≠ 0 then (wq (L - 1).toNat x y, 0) else (0, 2)
def leas (x y u v : Nat) : Nat × Nat × Int × Int := if onS x y = true ∧ onS u v = true then (flr x (lvl x y u v), flr y (lvl x y u v), (lvl x y u v : Int), 0) else (0, 0, 0, 2)
def fars (X Y : Nat) (L : Int) (x y : Nat) : Nat × Int := if rightS X Y L = true ∧ onS x y = true then (farS X Y L.toNat x y, 0) else (0, 2)
abbrev qv (p : Nat × Nat × Int × Int) : Value := .tuple #[cv p.1 p.2.1 p.2.2.1, .int .i64 p.2.2.2]
abbrev wv (p : Nat × Int) : Value := .tuple #[.int .i64 (p.1 : Int), .int .i64 p.2]
abbrev fv (p : Nat × Int) : Value := .tuple #[.int .u64 (p.1 : Int), .int .i64 p.2]
theorem right_pos {X Y : Nat} {L : Int} (h : rightS X Y L = true) (hL : L ≠ 0) : ∃ m : Nat, L = ((m + 1 : Nat) : Int) ∧ Cl X Y (m + 1) := by
 obtain ⟨n, rfl, c⟩ := (rightS_iff X Y L).1 h
 cases n with
 | zero => exact absurd rfl hL
 | succ m => exact ⟨m, rfl, c⟩
theorem pred_nat (m : Nat) : (((m + 1 : Nat) : Int) - 1).toNat = m := by omega
set_option maxRecDepth 100000 in
theorem where_any (X Y : Nat) (L : Int) (x y : Nat) (hX : X < 4294967296) (hY : Y < 4294967296) (hx : x < 4294967296) (hy : y < 4294967296) (w : World) :
  Calls Try.prog 85 #[cv X Y L, .int .u32 (x : Int), .int .u32 (y : Int)] w fun e w' => e = .returned (wv (wher X Y L x y)) ∧ Below w.heap.size w w' := by
 by_cases h : hasS X Y L x y = true ∧ L ≠ 0
 ·obtain ⟨m, rfl, c⟩ := right_pos (hasS_right h.1) h.2
  rw [show wher X Y ((m + 1 : Nat) : Int) x y = (wq m x y, 0) by unfold wher; rw [if_pos h, pred_nat]]
  exact callsIn_wide.1 (where_in X Y m x y c hx hy h.1 w)
 ·rw [show wher X Y L x y = (0, 2) by unfold wher; rw [if_neg h]]
  refine callsIn_wide.1 (where_no X Y L x y hX hY hx hy ?_ w)
  cases e : hasS X Y L x y
  ·exact .inl rfl
  ·rw [e] at h
   exact .inr (by
    by_cases d : L = 0
    ·exact d
    ·exact absurd ⟨rfl, d⟩ h)
set_option maxRecDepth 100000 in
theorem least_any (x y u v : Nat) (w : World) :
  Calls Try.prog 84 #[.int .u32 (x : Int), .int .u32 (y : Int), .int .u32 (u : Int), .int .u32 (v : Int)] w fun e w' => e = .returned (qv (leas x y u v)) ∧ Below w.heap.size w w' := by
 by_cases h : onS x y = true ∧ onS u v = true
 ·rw [show leas x y u v = (flr x (lvl x y u v), flr y (lvl x y u v), (lvl x y u v : Int), 0) by unfold leas; rw [if_pos h]]
  exact least_ok x y u v h.1 h.2 w
 ·rw [show leas x y u v = (0, 0, 0, 2) by unfold leas; rw [if_neg h]]
  exact least_no x y u v (by simpa using h) w
set_option maxRecDepth 100000 in
theorem far_any (X Y : Nat) (L : Int) (x y : Nat) (hX : X < 4294967296) (hY : Y < 4294967296) (w : World) :
  Calls Try.prog 41 #[cv X Y L, .int .u32 (x : Int), .int .u32 (y : Int)] w fun e w' => e = .returned (fv (fars X Y L x y)) ∧ Below w.heap.size w w' := by
 by_cases h : rightS X Y L = true ∧ onS x y = true
 ·obtain ⟨n, rfl, c⟩ := (rightS_iff X Y L).1 h.1
  rw [show fars X Y (n : Int) x y = (farS X Y n x y, 0) by unfold fars; rw [if_pos h, Int.toNat_natCast]]
  exact far_ok X Y n x y c h.2 w
 ·rw [show fars X Y L x y = (0, 2) by unfold fars; rw [if_neg h]]
  exact far_no X Y L x y hX hY (by simpa using h) w
end Go.Proofs.Ytimdlohdmddnjaa.Rc
