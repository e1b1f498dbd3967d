import Derived.Test.YtnedbakgaggdaaaDoorRows
import Derived.Test.YtnedbakgaggdaaaDoorM
import Derived.WalkSpells
import Derived.WalkLawsBesides
import Derived.Deep.QuietTactic
import Derived.BigQuiet
namespace Go.Proofs.YtnedbakgaggdaaaDoor
open Go.RowKit

theorem rot16_any (x : Int) (w : World) :
    Calls Tryd.prog 18 #[.int .u32 x, .int .i64 16] w fun e w' => e = .returned (.int .u32 (rot16 x)) ∧ w' = w := by
  have h16 : bits BinOp.and IntKind.u64 16 31 = 16 := by decide +kernel
  go_enter Tryd.func18, Tryd.ntmps18
  go_wp2
  go_ret
  exact ⟨rfl, rfl⟩
theorem rot12_any (x : Int) (w : World) :
    Calls Tryd.prog 18 #[.int .u32 x, .int .i64 12] w fun e w' => e = .returned (.int .u32 (rot12 x)) ∧ w' = w := by
  have h16 : bits BinOp.and IntKind.u64 12 31 = 12 := by decide +kernel
  go_enter Tryd.func18, Tryd.ntmps18
  go_wp2
  go_ret
  exact ⟨rfl, rfl⟩
theorem rot8_any (x : Int) (w : World) :
    Calls Tryd.prog 18 #[.int .u32 x, .int .i64 8] w fun e w' => e = .returned (.int .u32 (rot8 x)) ∧ w' = w := by
  have h16 : bits BinOp.and IntKind.u64 8 31 = 8 := by decide +kernel
  go_enter Tryd.func18, Tryd.ntmps18
  go_wp2
  go_ret
  exact ⟨rfl, rfl⟩
theorem rot7_any (x : Int) (w : World) :
    Calls Tryd.prog 18 #[.int .u32 x, .int .i64 7] w fun e w' => e = .returned (.int .u32 (rot7 x)) ∧ w' = w := by
  have h16 : bits BinOp.and IntKind.u64 7 31 = 7 := by decide +kernel
  go_enter Tryd.func18, Tryd.ntmps18
  go_wp2
  go_ret
  exact ⟨rfl, rfl⟩


set_option maxHeartbeats 400000 in
theorem turned16_any (x : Int) (w : World) :
    Calls Tryd.prog 19 #[.int .u32 x, .int .i64 16] w fun e w' => e = .returned (.int .u32 (rot16 x)) ∧ ∃ n, w' = w.drewN n := by
  go_enter Tryd.func19, Tryd.ntmps19
  go_wp2
  go_quiet (fail)
  go_wp2
  go_ret
  exact ⟨rfl, _, rfl⟩

set_option maxHeartbeats 400000 in
theorem turned12_any (x : Int) (w : World) :
    Calls Tryd.prog 19 #[.int .u32 x, .int .i64 12] w fun e w' => e = .returned (.int .u32 (rot12 x)) ∧ ∃ n, w' = w.drewN n := by
  go_enter Tryd.func19, Tryd.ntmps19
  go_wp2
  go_quiet (fail)
  go_wp2
  go_ret
  exact ⟨rfl, _, rfl⟩

set_option maxHeartbeats 400000 in
theorem turned8_any (x : Int) (w : World) :
    Calls Tryd.prog 19 #[.int .u32 x, .int .i64 8] w fun e w' => e = .returned (.int .u32 (rot8 x)) ∧ ∃ n, w' = w.drewN n := by
  go_enter Tryd.func19, Tryd.ntmps19
  go_wp2
  go_quiet (fail)
  go_wp2
  go_ret
  exact ⟨rfl, _, rfl⟩

set_option maxHeartbeats 400000 in
theorem turned7_any (x : Int) (w : World) :
    Calls Tryd.prog 19 #[.int .u32 x, .int .i64 7] w fun e w' => e = .returned (.int .u32 (rot7 x)) ∧ ∃ n, w' = w.drewN n := by
  go_enter Tryd.func19, Tryd.ntmps19
  go_wp2
  go_quiet (fail)
  go_wp2
  go_ret
  exact ⟨rfl, _, rfl⟩

set_option maxHeartbeats 400000 in
theorem quarter_any (a b c d : Int) (w : World) :
    Calls Tryd.prog 10 #[.int .u32 a, .int .u32 b, .int .u32 c, .int .u32 d] w fun e w' => e = .returned (.agg #[.int .u32 (qa a b c d), .int .u32 (qb a b c d), .int .u32 (qc a b c d), .int .u32 (qd a b c d)]) ∧
      w' = w.alloc (.cells #[.int .u32 (qa a b c d), .int .u32 (qb a b c d), .int .u32 (qc a b c d), .int .u32 (qd a b c d)] 24) := by
  go_enter Tryd.func10, Tryd.ntmps10
  go_wp2_with fail
  refine (rot16_any _ _).mono ?_; rintro e w' ⟨rfl, rfl⟩
  go_wp2_with fail
  refine (rot12_any _ _).mono ?_; rintro e w' ⟨rfl, rfl⟩
  go_wp2_with fail
  refine (rot8_any _ _).mono ?_; rintro e w' ⟨rfl, rfl⟩
  go_wp2_with fail
  refine (rot7_any _ _).mono ?_; rintro e w' ⟨rfl, rfl⟩
  go_wp2_with fail
  exact bodyPost_ret (v := .agg #[.int .u32 (qa a b c d), .int .u32 (qb a b c d), .int .u32 (qc a b c d), .int .u32 (qd a b c d)]) (by simp [results, Tryd.results10, go_sem, qa, qb, qc, qd, qd1, qb1]) rfl ⟨rfl, rfl⟩
set_option maxHeartbeats 400000 in
theorem rquarter_any (a b c d : Int) (w : World) :
    Calls Tryd.prog 11 #[.int .u32 a, .int .u32 b, .int .u32 c, .int .u32 d] w fun e w' => e = .returned (.agg #[.int .u32 (qa a b c d), .int .u32 (qb a b c d), .int .u32 (qc a b c d), .int .u32 (qd a b c d)]) ∧
      Below w.heap.size w w' := by
  go_enter Tryd.func11, Tryd.ntmps11
  go_wp2_with fail
  refine (turned16_any _ _).mono ?_; rintro e w' ⟨rfl, n1, rfl⟩
  go_wp2_with fail
  refine (turned12_any _ _).mono ?_; rintro e w' ⟨rfl, n2, rfl⟩
  go_wp2_with fail
  refine (turned8_any _ _).mono ?_; rintro e w' ⟨rfl, n3, rfl⟩
  go_wp2_with fail
  refine (turned7_any _ _).mono ?_; rintro e w' ⟨rfl, n4, rfl⟩
  go_wp2_with fail
  refine bodyPost_ret (v := .agg #[.int .u32 (qa a b c d), .int .u32 (qb a b c d), .int .u32 (qc a b c d), .int .u32 (qd a b c d)]) (by simp [results, Tryd.results11, go_sem, qa, qb, qc, qd, qd1, qb1]) (by rfl) ⟨rfl, ?_⟩
  exact ((((below_drewN ((Below.refl _ w).alloc (Nat.le_refl _) _) _).setCell (Nat.le_refl _) _).setCell (Nat.le_refl _) _).setCell (Nat.le_refl _) _).setCell (Nat.le_refl _) _
end Go.Proofs.YtnedbakgaggdaaaDoor
