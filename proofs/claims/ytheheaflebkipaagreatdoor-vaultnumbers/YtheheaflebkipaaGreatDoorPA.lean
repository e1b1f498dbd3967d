import Derived.Test.YtheheaflebkipaaGreatDoorRows
import Derived.Test.YtheheaflebkipaaGreatDoorPM
import Derived.WalkSpells
import Derived.WalkLawsBesides
import Derived.Deep.QuietTactic
import Derived.BigQuiet
namespace Go.Proofs.YtheheaflebkipaaGreatDoor
open Go.RowKit
set_option maxRecDepth 100000 in
theorem rot2_any (x : Int) (w : World) :
    Calls Tryz.prog 216 #[.int .u32 x, .int .i64 (-2)] w fun e w' => e = .returned (.int .u32 (t2 x)) ∧ w' = w := by
  have h16 : bits BinOp.and IntKind.u64 (IntKind.u64.wrap (-2)) 31 = 30 := by decide +kernel
  go_enter Tryz.func216, Tryz.ntmps216
  go_wp2
  go_ret
  exact ⟨rfl, rfl⟩
set_option maxRecDepth 100000 in
theorem turn2_any (x : Int) (w : World) :
    Calls Tryz.prog 217 #[.int .u32 x, .int .i64 2] w fun e w' => e = .returned (.int .u32 (t2 x)) ∧ w' = w := by
  go_enter Tryz.func217, Tryz.ntmps217
  go_wp2_with (go_at_call 216; refine (rot2_any _ _).mono ?_; rintro e w' ⟨rfl, rfl⟩)
  go_ret
  exact ⟨rfl, rfl⟩
set_option maxRecDepth 100000 in
theorem rot6_any (x : Int) (w : World) :
    Calls Tryz.prog 216 #[.int .u32 x, .int .i64 (-6)] w fun e w' => e = .returned (.int .u32 (t6 x)) ∧ w' = w := by
  have h16 : bits BinOp.and IntKind.u64 (IntKind.u64.wrap (-6)) 31 = 26 := by decide +kernel
  go_enter Tryz.func216, Tryz.ntmps216
  go_wp2
  go_ret
  exact ⟨rfl, rfl⟩
set_option maxRecDepth 100000 in
theorem turn6_any (x : Int) (w : World) :
    Calls Tryz.prog 217 #[.int .u32 x, .int .i64 6] w fun e w' => e = .returned (.int .u32 (t6 x)) ∧ w' = w := by
  go_enter Tryz.func217, Tryz.ntmps217
  go_wp2_with (go_at_call 216; refine (rot6_any _ _).mono ?_; rintro e w' ⟨rfl, rfl⟩)
  go_ret
  exact ⟨rfl, rfl⟩
set_option maxRecDepth 100000 in
theorem rot7_any (x : Int) (w : World) :
    Calls Tryz.prog 216 #[.int .u32 x, .int .i64 (-7)] w fun e w' => e = .returned (.int .u32 (t7 x)) ∧ w' = w := by
  have h16 : bits BinOp.and IntKind.u64 (IntKind.u64.wrap (-7)) 31 = 25 := by decide +kernel
  go_enter Tryz.func216, Tryz.ntmps216
  go_wp2
  go_ret
  exact ⟨rfl, rfl⟩
set_option maxRecDepth 100000 in
theorem turn7_any (x : Int) (w : World) :
    Calls Tryz.prog 217 #[.int .u32 x, .int .i64 7] w fun e w' => e = .returned (.int .u32 (t7 x)) ∧ w' = w := by
  go_enter Tryz.func217, Tryz.ntmps217
  go_wp2_with (go_at_call 216; refine (rot7_any _ _).mono ?_; rintro e w' ⟨rfl, rfl⟩)
  go_ret
  exact ⟨rfl, rfl⟩
set_option maxRecDepth 100000 in
theorem rot11_any (x : Int) (w : World) :
    Calls Tryz.prog 216 #[.int .u32 x, .int .i64 (-11)] w fun e w' => e = .returned (.int .u32 (t11 x)) ∧ w' = w := by
  have h16 : bits BinOp.and IntKind.u64 (IntKind.u64.wrap (-11)) 31 = 21 := by decide +kernel
  go_enter Tryz.func216, Tryz.ntmps216
  go_wp2
  go_ret
  exact ⟨rfl, rfl⟩
set_option maxRecDepth 100000 in
theorem turn11_any (x : Int) (w : World) :
    Calls Tryz.prog 217 #[.int .u32 x, .int .i64 11] w fun e w' => e = .returned (.int .u32 (t11 x)) ∧ w' = w := by
  go_enter Tryz.func217, Tryz.ntmps217
  go_wp2_with (go_at_call 216; refine (rot11_any _ _).mono ?_; rintro e w' ⟨rfl, rfl⟩)
  go_ret
  exact ⟨rfl, rfl⟩
set_option maxRecDepth 100000 in
theorem rot13_any (x : Int) (w : World) :
    Calls Tryz.prog 216 #[.int .u32 x, .int .i64 (-13)] w fun e w' => e = .returned (.int .u32 (t13 x)) ∧ w' = w := by
  have h16 : bits BinOp.and IntKind.u64 (IntKind.u64.wrap (-13)) 31 = 19 := by decide +kernel
  go_enter Tryz.func216, Tryz.ntmps216
  go_wp2
  go_ret
  exact ⟨rfl, rfl⟩
set_option maxRecDepth 100000 in
theorem turn13_any (x : Int) (w : World) :
    Calls Tryz.prog 217 #[.int .u32 x, .int .i64 13] w fun e w' => e = .returned (.int .u32 (t13 x)) ∧ w' = w := by
  go_enter Tryz.func217, Tryz.ntmps217
  go_wp2_with (go_at_call 216; refine (rot13_any _ _).mono ?_; rintro e w' ⟨rfl, rfl⟩)
  go_ret
  exact ⟨rfl, rfl⟩
set_option maxRecDepth 100000 in
theorem rot17_any (x : Int) (w : World) :
    Calls Tryz.prog 216 #[.int .u32 x, .int .i64 (-17)] w fun e w' => e = .returned (.int .u32 (t17 x)) ∧ w' = w := by
  have h16 : bits BinOp.and IntKind.u64 (IntKind.u64.wrap (-17)) 31 = 15 := by decide +kernel
  go_enter Tryz.func216, Tryz.ntmps216
  go_wp2
  go_ret
  exact ⟨rfl, rfl⟩
set_option maxRecDepth 100000 in
theorem turn17_any (x : Int) (w : World) :
    Calls Tryz.prog 217 #[.int .u32 x, .int .i64 17] w fun e w' => e = .returned (.int .u32 (t17 x)) ∧ w' = w := by
  go_enter Tryz.func217, Tryz.ntmps217
  go_wp2_with (go_at_call 216; refine (rot17_any _ _).mono ?_; rintro e w' ⟨rfl, rfl⟩)
  go_ret
  exact ⟨rfl, rfl⟩
set_option maxRecDepth 100000 in
theorem rot18_any (x : Int) (w : World) :
    Calls Tryz.prog 216 #[.int .u32 x, .int .i64 (-18)] w fun e w' => e = .returned (.int .u32 (t18 x)) ∧ w' = w := by
  have h16 : bits BinOp.and IntKind.u64 (IntKind.u64.wrap (-18)) 31 = 14 := by decide +kernel
  go_enter Tryz.func216, Tryz.ntmps216
  go_wp2
  go_ret
  exact ⟨rfl, rfl⟩
set_option maxRecDepth 100000 in
theorem turn18_any (x : Int) (w : World) :
    Calls Tryz.prog 217 #[.int .u32 x, .int .i64 18] w fun e w' => e = .returned (.int .u32 (t18 x)) ∧ w' = w := by
  go_enter Tryz.func217, Tryz.ntmps217
  go_wp2_with (go_at_call 216; refine (rot18_any _ _).mono ?_; rintro e w' ⟨rfl, rfl⟩)
  go_ret
  exact ⟨rfl, rfl⟩
set_option maxRecDepth 100000 in
theorem rot19_any (x : Int) (w : World) :
    Calls Tryz.prog 216 #[.int .u32 x, .int .i64 (-19)] w fun e w' => e = .returned (.int .u32 (t19 x)) ∧ w' = w := by
  have h16 : bits BinOp.and IntKind.u64 (IntKind.u64.wrap (-19)) 31 = 13 := by decide +kernel
  go_enter Tryz.func216, Tryz.ntmps216
  go_wp2
  go_ret
  exact ⟨rfl, rfl⟩
set_option maxRecDepth 100000 in
theorem turn19_any (x : Int) (w : World) :
    Calls Tryz.prog 217 #[.int .u32 x, .int .i64 19] w fun e w' => e = .returned (.int .u32 (t19 x)) ∧ w' = w := by
  go_enter Tryz.func217, Tryz.ntmps217
  go_wp2_with (go_at_call 216; refine (rot19_any _ _).mono ?_; rintro e w' ⟨rfl, rfl⟩)
  go_ret
  exact ⟨rfl, rfl⟩
set_option maxRecDepth 100000 in
theorem rot22_any (x : Int) (w : World) :
    Calls Tryz.prog 216 #[.int .u32 x, .int .i64 (-22)] w fun e w' => e = .returned (.int .u32 (t22 x)) ∧ w' = w := by
  have h16 : bits BinOp.and IntKind.u64 (IntKind.u64.wrap (-22)) 31 = 10 := by decide +kernel
  go_enter Tryz.func216, Tryz.ntmps216
  go_wp2
  go_ret
  exact ⟨rfl, rfl⟩
set_option maxRecDepth 100000 in
theorem turn22_any (x : Int) (w : World) :
    Calls Tryz.prog 217 #[.int .u32 x, .int .i64 22] w fun e w' => e = .returned (.int .u32 (t22 x)) ∧ w' = w := by
  go_enter Tryz.func217, Tryz.ntmps217
  go_wp2_with (go_at_call 216; refine (rot22_any _ _).mono ?_; rintro e w' ⟨rfl, rfl⟩)
  go_ret
  exact ⟨rfl, rfl⟩
set_option maxRecDepth 100000 in
theorem rot25_any (x : Int) (w : World) :
    Calls Tryz.prog 216 #[.int .u32 x, .int .i64 (-25)] w fun e w' => e = .returned (.int .u32 (t25 x)) ∧ w' = w := by
  have h16 : bits BinOp.and IntKind.u64 (IntKind.u64.wrap (-25)) 31 = 7 := by decide +kernel
  go_enter Tryz.func216, Tryz.ntmps216
  go_wp2
  go_ret
  exact ⟨rfl, rfl⟩
set_option maxRecDepth 100000 in
theorem turn25_any (x : Int) (w : World) :
    Calls Tryz.prog 217 #[.int .u32 x, .int .i64 25] w fun e w' => e = .returned (.int .u32 (t25 x)) ∧ w' = w := by
  go_enter Tryz.func217, Tryz.ntmps217
  go_wp2_with (go_at_call 216; refine (rot25_any _ _).mono ?_; rintro e w' ⟨rfl, rfl⟩)
  go_ret
  exact ⟨rfl, rfl⟩
set_option maxRecDepth 100000 in
set_option maxHeartbeats 1000000 in
theorem step_any (f : Nat → Int) (kw : Int) (w : World) :
    Calls Tryz.prog 209 #[.agg (st8 f), .int .u32 kw] w fun e w' => e = .returned (.agg (st8 (stp f kw))) ∧ Below w.heap.size w w' := by
  unfold st8
  go_enter Tryz.func209, Tryz.ntmps209
  go_wp2_with fail
  go_quiet (fail)
  go_wp2_with fail
  refine (turn6_any _ _).mono ?_; rintro e w' ⟨rfl, rfl⟩
  go_wp2_with fail
  refine (turn11_any _ _).mono ?_; rintro e w' ⟨rfl, rfl⟩
  go_wp2_with fail
  refine (turn25_any _ _).mono ?_; rintro e w' ⟨rfl, rfl⟩
  go_wp2_with fail
  refine (turn2_any _ _).mono ?_; rintro e w' ⟨rfl, rfl⟩
  go_wp2_with fail
  refine (turn13_any _ _).mono ?_; rintro e w' ⟨rfl, rfl⟩
  go_wp2_with fail
  refine (turn22_any _ _).mono ?_; rintro e w' ⟨rfl, rfl⟩
  go_wp2_with fail
  refine bodyPost_ret (v := .agg (st8 (stp f kw))) (by simp [results, Tryz.results209, go_sem, st8, stp, T1, T2, s1, s0, ch, mj]) (by rfl) ⟨rfl, ?_⟩
  have h0 : Below w.heap.size w ((w.alloc (.cells #[.int .u32 (f 0), .int .u32 (f 1), .int .u32 (f 2), .int .u32 (f 3), .int .u32 (f 4), .int .u32 (f 5), .int .u32 (f 6), .int .u32 (f 7)] 220)).alloc (.cells #[.int .u32 0, .int .u32 0, .int .u32 0, .int .u32 0, .int .u32 0, .int .u32 0, .int .u32 0, .int .u32 0] 220)) :=
    ((Below.refl _ w).alloc (Nat.le_refl _) _).alloc (by simp) _
  exact ((((((((below_drewN h0 _).setCell (by simp) _).setCell (by simp) _).setCell (by simp) _).setCell (by simp) _).setCell (by simp) _).setCell (by simp) _).setCell (by simp) _).setCell (by simp) _
end Go.Proofs.YtheheaflebkipaaGreatDoor
