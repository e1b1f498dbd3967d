/- The reference: a word, turned. -/
import Derived.Test.YtmlechalhldlhaaDoorI
import Derived.Deep.QuietTactic
import Derived.BigQuiet
namespace Go.Proofs.YtmlechalhldlhaaDoor
open Go.RowKit
/-- A word, turned right. -/
def tr (n x : Int) : Int := bits .or .u32 (x / 2 ^ n.toNat) (x * 2 ^ (32 - n).toNat % 4294967296)
/-- The turns that are asked for. -/
def trOk (n : Int) : Prop := n = 2 ∨ n = 6 ∨ n = 7 ∨ n = 11 ∨ n = 13 ∨ n = 17 ∨ n = 18 ∨ n = 19 ∨ n = 22 ∨ n = 25
theorem tr_2 (x : Int) : tr 2 x = t2 x := by
  unfold tr t2
  rw [or_comm]
  rfl
theorem turned2 (x : Int) (w : World) : Calls Tryd.prog 37 #[.int .u32 x, .int .i64 2] w fun e w' => e = .returned (.int .u32 (tr 2 x)) ∧ ∃ q, w' = w.drewN q := by
  rw [tr_2]
  unfold t2
  rw [or_comm]
  go_enter Tryd.func37, Tryd.ntmps37
  go_wp2_with fail
  go_quiet (fail)
  go_wp2_with fail
  go_ret
  exact ⟨rfl, _, rfl⟩
theorem tr_6 (x : Int) : tr 6 x = t6 x := by
  unfold tr t6
  rw [or_comm]
  rfl
theorem turned6 (x : Int) (w : World) : Calls Tryd.prog 37 #[.int .u32 x, .int .i64 6] w fun e w' => e = .returned (.int .u32 (tr 6 x)) ∧ ∃ q, w' = w.drewN q := by
  rw [tr_6]
  unfold t6
  rw [or_comm]
  go_enter Tryd.func37, Tryd.ntmps37
  go_wp2_with fail
  go_quiet (fail)
  go_wp2_with fail
  go_ret
  exact ⟨rfl, _, rfl⟩
theorem tr_7 (x : Int) : tr 7 x = t7 x := by
  unfold tr t7
  rw [or_comm]
  rfl
theorem turned7 (x : Int) (w : World) : Calls Tryd.prog 37 #[.int .u32 x, .int .i64 7] w fun e w' => e = .returned (.int .u32 (tr 7 x)) ∧ ∃ q, w' = w.drewN q := by
  rw [tr_7]
  unfold t7
  rw [or_comm]
  go_enter Tryd.func37, Tryd.ntmps37
  go_wp2_with fail
  go_quiet (fail)
  go_wp2_with fail
  go_ret
  exact ⟨rfl, _, rfl⟩
theorem tr_11 (x : Int) : tr 11 x = t11 x := by
  unfold tr t11
  rw [or_comm]
  rfl
theorem turned11 (x : Int) (w : World) : Calls Tryd.prog 37 #[.int .u32 x, .int .i64 11] w fun e w' => e = .returned (.int .u32 (tr 11 x)) ∧ ∃ q, w' = w.drewN q := by
  rw [tr_11]
  unfold t11
  rw [or_comm]
  go_enter Tryd.func37, Tryd.ntmps37
  go_wp2_with fail
  go_quiet (fail)
  go_wp2_with fail
  go_ret
  exact ⟨rfl, _, rfl⟩
theorem tr_13 (x : Int) : tr 13 x = t13 x := by
  unfold tr t13
  rw [or_comm]
  rfl
theorem turned13 (x : Int) (w : World) : Calls Tryd.prog 37 #[.int .u32 x, .int .i64 13] w fun e w' => e = .returned (.int .u32 (tr 13 x)) ∧ ∃ q, w' = w.drewN q := by
  rw [tr_13]
  unfold t13
  rw [or_comm]
  go_enter Tryd.func37, Tryd.ntmps37
  go_wp2_with fail
  go_quiet (fail)
  go_wp2_with fail
  go_ret
  exact ⟨rfl, _, rfl⟩
theorem tr_17 (x : Int) : tr 17 x = t17 x := by
  unfold tr t17
  rw [or_comm]
  rfl
theorem turned17 (x : Int) (w : World) : Calls Tryd.prog 37 #[.int .u32 x, .int .i64 17] w fun e w' => e = .returned (.int .u32 (tr 17 x)) ∧ ∃ q, w' = w.drewN q := by
  rw [tr_17]
  unfold t17
  rw [or_comm]
  go_enter Tryd.func37, Tryd.ntmps37
  go_wp2_with fail
  go_quiet (fail)
  go_wp2_with fail
  go_ret
  exact ⟨rfl, _, rfl⟩
theorem tr_18 (x : Int) : tr 18 x = t18 x := by
  unfold tr t18
  rw [or_comm]
  rfl
theorem turned18 (x : Int) (w : World) : Calls Tryd.prog 37 #[.int .u32 x, .int .i64 18] w fun e w' => e = .returned (.int .u32 (tr 18 x)) ∧ ∃ q, w' = w.drewN q := by
  rw [tr_18]
  unfold t18
  rw [or_comm]
  go_enter Tryd.func37, Tryd.ntmps37
  go_wp2_with fail
  go_quiet (fail)
  go_wp2_with fail
  go_ret
  exact ⟨rfl, _, rfl⟩
theorem tr_19 (x : Int) : tr 19 x = t19 x := by
  unfold tr t19
  rw [or_comm]
  rfl
theorem turned19 (x : Int) (w : World) : Calls Tryd.prog 37 #[.int .u32 x, .int .i64 19] w fun e w' => e = .returned (.int .u32 (tr 19 x)) ∧ ∃ q, w' = w.drewN q := by
  rw [tr_19]
  unfold t19
  rw [or_comm]
  go_enter Tryd.func37, Tryd.ntmps37
  go_wp2_with fail
  go_quiet (fail)
  go_wp2_with fail
  go_ret
  exact ⟨rfl, _, rfl⟩
theorem tr_22 (x : Int) : tr 22 x = t22 x := by
  unfold tr t22
  rw [or_comm]
  rfl
theorem turned22 (x : Int) (w : World) : Calls Tryd.prog 37 #[.int .u32 x, .int .i64 22] w fun e w' => e = .returned (.int .u32 (tr 22 x)) ∧ ∃ q, w' = w.drewN q := by
  rw [tr_22]
  unfold t22
  rw [or_comm]
  go_enter Tryd.func37, Tryd.ntmps37
  go_wp2_with fail
  go_quiet (fail)
  go_wp2_with fail
  go_ret
  exact ⟨rfl, _, rfl⟩
theorem tr_25 (x : Int) : tr 25 x = t25 x := by
  unfold tr t25
  rw [or_comm]
  rfl
theorem turned25 (x : Int) (w : World) : Calls Tryd.prog 37 #[.int .u32 x, .int .i64 25] w fun e w' => e = .returned (.int .u32 (tr 25 x)) ∧ ∃ q, w' = w.drewN q := by
  rw [tr_25]
  unfold t25
  rw [or_comm]
  go_enter Tryd.func37, Tryd.ntmps37
  go_wp2_with fail
  go_quiet (fail)
  go_wp2_with fail
  go_ret
  exact ⟨rfl, _, rfl⟩
theorem turned_any (n x : Int) (hn : trOk n) (w : World) : Calls Tryd.prog 37 #[.int .u32 x, .int .i64 n] w fun e w' => e = .returned (.int .u32 (tr n x)) ∧ ∃ q, w' = w.drewN q := by
  rcases hn with rfl | rfl | rfl | rfl | rfl | rfl | rfl | rfl | rfl | rfl
  · exact turned2 x w
  · exact turned6 x w
  · exact turned7 x w
  · exact turned11 x w
  · exact turned13 x w
  · exact turned17 x w
  · exact turned18 x w
  · exact turned19 x w
  · exact turned22 x w
  · exact turned25 x w
end Go.Proofs.YtmlechalhldlhaaDoor
