import Derived.Test.YtheheaflebkipaaGreatDoorRows
import Derived.Test.YtheheaflebkipaaGreatDoorPZM
import Derived.WalkSpells
import Derived.WalkLawsBesides
import Derived.Deep.QuietTactic
import Derived.BigQuiet
namespace Go.Proofs.YtheheaflebkipaaGreatDoor.Ra
open Go.RowKit

set_option maxRecDepth 100000 in
theorem rot16_any (x : Int) (w : World) :
    Calls Tryz.prog 216 #[.int .u32 x, .int .i64 16] w fun e w' => e = .returned (.int .u32 (rot16 x)) ∧ w' = w := by
  have h16 : bits BinOp.and IntKind.u64 16 31 = 16 := by decide +kernel
  go_enter Tryz.func216, Tryz.ntmps216
  go_wp2
  go_ret
  exact ⟨rfl, rfl⟩
set_option maxRecDepth 100000 in
theorem rot12_any (x : Int) (w : World) :
    Calls Tryz.prog 216 #[.int .u32 x, .int .i64 12] w fun e w' => e = .returned (.int .u32 (rot12 x)) ∧ w' = w := by
  have h16 : bits BinOp.and IntKind.u64 12 31 = 12 := by decide +kernel
  go_enter Tryz.func216, Tryz.ntmps216
  go_wp2
  go_ret
  exact ⟨rfl, rfl⟩
set_option maxRecDepth 100000 in
theorem rot8_any (x : Int) (w : World) :
    Calls Tryz.prog 216 #[.int .u32 x, .int .i64 8] w fun e w' => e = .returned (.int .u32 (rot8 x)) ∧ w' = w := by
  have h16 : bits BinOp.and IntKind.u64 8 31 = 8 := by decide +kernel
  go_enter Tryz.func216, Tryz.ntmps216
  go_wp2
  go_ret
  exact ⟨rfl, rfl⟩
set_option maxRecDepth 100000 in
theorem rot7_any (x : Int) (w : World) :
    Calls Tryz.prog 216 #[.int .u32 x, .int .i64 7] w fun e w' => e = .returned (.int .u32 (rot7 x)) ∧ w' = w := by
  have h16 : bits BinOp.and IntKind.u64 7 31 = 7 := by decide +kernel
  go_enter Tryz.func216, Tryz.ntmps216
  go_wp2
  go_ret
  exact ⟨rfl, rfl⟩


set_option maxRecDepth 100000 in
set_option maxHeartbeats 400000 in
theorem quarter_any (a b c d : Int) (w : World) :
    Calls Tryz.prog 206 #[.int .u32 a, .int .u32 b, .int .u32 c, .int .u32 d] w fun e w' => e = .returned (.agg #[.int .u32 (qa a b c d), .int .u32 (qb a b c d), .int .u32 (qc a b c d), .int .u32 (qd a b c d)]) ∧
      w' = w.alloc (.cells #[.int .u32 (qa a b c d), .int .u32 (qb a b c d), .int .u32 (qc a b c d), .int .u32 (qd a b c d)] 212) := by
  go_enter Tryz.func206, Tryz.ntmps206
  go_wp2_with fail
  refine (rot16_any _ _).mono ?_; rintro e w' ⟨rfl, rfl⟩
  go_wp2_with fail
  refine (rot12_any _ _).mono ?_; rintro e w' ⟨rfl, rfl⟩
  go_wp2_with fail
  refine (rot8_any _ _).mono ?_; rintro e w' ⟨rfl, rfl⟩
  go_wp2_with fail
  refine (rot7_any _ _).mono ?_; rintro e w' ⟨rfl, rfl⟩
  go_wp2_with fail
  exact bodyPost_ret (v := .agg #[.int .u32 (qa a b c d), .int .u32 (qb a b c d), .int .u32 (qc a b c d), .int .u32 (qd a b c d)]) (by simp [results, Tryz.results206, go_sem, qa, qb, qc, qd, qd1, qb1]) rfl ⟨rfl, rfl⟩
end Go.Proofs.YtheheaflebkipaaGreatDoor.Ra
namespace Go.Proofs.YtheheaflebkipaaGreatDoor.Ra
open Go.RowKit

set_option maxRecDepth 100000 in
set_option maxHeartbeats 400000 in
theorem fit_yes (key nonce : ByteArray) (w : World) (h1 : key.size = 32) (h2 : nonce.size = 12) :
    Calls Tryz.prog 146 #[.string key, .string nonce] w fun e w' => e = .returned (.bool true) ∧ w' = w := by
  have g1 : ((key.size : Int) == 32) = true := by simp [h1]
  have g2 : ((nonce.size : Int) == 12) = true := by simp [h2]
  clear h1 h2
  go_enter Tryz.func146, Tryz.ntmps146
  go_wp2
  go_ret
  exact ⟨rfl, rfl⟩

set_option maxRecDepth 100000 in
set_option maxHeartbeats 400000 in
theorem at_lit (x0 x1 x2 x3 x4 x5 x6 x7 x8 x9 x10 x11 x12 x13 x14 x15 c : Int) (w : World) :
    Calls Tryz.prog 168 #[.agg #[.int .u32 x0, .int .u32 x1, .int .u32 x2, .int .u32 x3, .int .u32 x4, .int .u32 x5, .int .u32 x6, .int .u32 x7, .int .u32 x8, .int .u32 x9, .int .u32 x10, .int .u32 x11, .int .u32 x12, .int .u32 x13, .int .u32 x14, .int .u32 x15], .int .u32 c] w fun e w' => e = .returned (.agg #[.int .u32 x0, .int .u32 x1, .int .u32 x2, .int .u32 x3, .int .u32 x4, .int .u32 x5, .int .u32 x6, .int .u32 x7, .int .u32 x8, .int .u32 x9, .int .u32 x10, .int .u32 x11, .int .u32 c, .int .u32 x13, .int .u32 x14, .int .u32 x15]) ∧ w' = (w.alloc (.cells #[.int .u32 x0, .int .u32 x1, .int .u32 x2, .int .u32 x3, .int .u32 x4, .int .u32 x5, .int .u32 x6, .int .u32 x7, .int .u32 x8, .int .u32 x9, .int .u32 x10, .int .u32 x11, .int .u32 c, .int .u32 x13, .int .u32 x14, .int .u32 x15] 185)).alloc (.cells #[.int .u32 x0, .int .u32 x1, .int .u32 x2, .int .u32 x3, .int .u32 x4, .int .u32 x5, .int .u32 x6, .int .u32 x7, .int .u32 x8, .int .u32 x9, .int .u32 x10, .int .u32 x11, .int .u32 c, .int .u32 x13, .int .u32 x14, .int .u32 x15] 185) := by
  go_enter Tryz.func168, Tryz.ntmps168
  go_wp2
  exact bodyPost_ret (v := .agg #[.int .u32 x0, .int .u32 x1, .int .u32 x2, .int .u32 x3, .int .u32 x4, .int .u32 x5, .int .u32 x6, .int .u32 x7, .int .u32 x8, .int .u32 x9, .int .u32 x10, .int .u32 x11, .int .u32 c, .int .u32 x13, .int .u32 x14, .int .u32 x15]) (by simp [results, Tryz.results168, go_sem]) rfl ⟨rfl, rfl⟩
set_option maxRecDepth 100000 in
theorem at_any (f : Nat → Int) (c : Int) (w : World) :
    Calls Tryz.prog 168 #[.agg (stc f), .int .u32 c] w fun e w' => e = .returned (.agg (stc (upd f 12 c))) ∧ w' = (w.alloc (.cells (stc (upd f 12 c)) 185)).alloc (.cells (stc (upd f 12 c)) 185) :=
  at_lit (f 0) (f 1) (f 2) (f 3) (f 4) (f 5) (f 6) (f 7) (f 8) (f 9) (f 10) (f 11) (f 12) (f 13) (f 14) (f 15) c w

end Go.Proofs.YtheheaflebkipaaGreatDoor.Ra
