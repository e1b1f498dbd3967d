import Derived.Test.YtnedbakgaggdaaaDoorA
import Derived.Test.YtnedbakgaggdaaaDoorM
import Derived.WalkSpells
import Derived.WalkLawsBesides
import Derived.Deep.QuietTactic
import Derived.BigQuiet
namespace Go.Proofs.YtnedbakgaggdaaaDoor
open Go.RowKit

set_option maxHeartbeats 400000 in
theorem fit_yes (key nonce : ByteArray) (w : World) (h1 : key.size = 32) (h2 : nonce.size = 12) :
    Calls Tryd.prog 20 #[.string key, .string nonce] w fun e w' => e = .returned (.bool true) ∧ w' = w := by
  have g1 : ((key.size : Int) == 32) = true := by simp [h1]
  have g2 : ((nonce.size : Int) == 12) = true := by simp [h2]
  clear h1 h2
  go_enter Tryd.func20, Tryd.ntmps20
  go_wp2
  go_ret
  exact ⟨rfl, rfl⟩

set_option maxHeartbeats 400000 in
theorem fit_no (key nonce : ByteArray) (w : World) (h : ¬ (key.size = 32 ∧ nonce.size = 12)) :
    Calls Tryd.prog 20 #[.string key, .string nonce] w fun e w' => e = .returned (.bool false) ∧ w' = w := by
  by_cases h1 : key.size = 32
  · have g1 : ((key.size : Int) == 32) = true := by simp [h1]
    have g2 : ((nonce.size : Int) == 12) = false := by simp; omega
    clear h h1
    go_enter Tryd.func20, Tryd.ntmps20
    go_wp2
    go_ret
    exact ⟨rfl, rfl⟩
  · have g1 : ((key.size : Int) == 32) = false := by simp; omega
    clear h h1
    go_enter Tryd.func20, Tryd.ntmps20
    go_wp2
    go_ret
    exact ⟨rfl, rfl⟩

set_option maxHeartbeats 400000 in
theorem at_lit (x0 x1 x2 x3 x4 x5 x6 x7 x8 x9 x10 x11 x12 x13 x14 x15 c : Int) (w : World) :
    Calls Tryd.prog 22 #[.agg #[.int .u32 x0, .int .u32 x1, .int .u32 x2, .int .u32 x3, .int .u32 x4, .int .u32 x5, .int .u32 x6, .int .u32 x7, .int .u32 x8, .int .u32 x9, .int .u32 x10, .int .u32 x11, .int .u32 x12, .int .u32 x13, .int .u32 x14, .int .u32 x15], .int .u32 c] w fun e w' => e = .returned (.agg #[.int .u32 x0, .int .u32 x1, .int .u32 x2, .int .u32 x3, .int .u32 x4, .int .u32 x5, .int .u32 x6, .int .u32 x7, .int .u32 x8, .int .u32 x9, .int .u32 x10, .int .u32 x11, .int .u32 c, .int .u32 x13, .int .u32 x14, .int .u32 x15]) ∧ w' = (w.alloc (.cells #[.int .u32 x0, .int .u32 x1, .int .u32 x2, .int .u32 x3, .int .u32 x4, .int .u32 x5, .int .u32 x6, .int .u32 x7, .int .u32 x8, .int .u32 x9, .int .u32 x10, .int .u32 x11, .int .u32 c, .int .u32 x13, .int .u32 x14, .int .u32 x15] 41)).alloc (.cells #[.int .u32 x0, .int .u32 x1, .int .u32 x2, .int .u32 x3, .int .u32 x4, .int .u32 x5, .int .u32 x6, .int .u32 x7, .int .u32 x8, .int .u32 x9, .int .u32 x10, .int .u32 x11, .int .u32 c, .int .u32 x13, .int .u32 x14, .int .u32 x15] 41) := by
  go_enter Tryd.func22, Tryd.ntmps22
  go_wp2
  exact bodyPost_ret (v := .agg #[.int .u32 x0, .int .u32 x1, .int .u32 x2, .int .u32 x3, .int .u32 x4, .int .u32 x5, .int .u32 x6, .int .u32 x7, .int .u32 x8, .int .u32 x9, .int .u32 x10, .int .u32 x11, .int .u32 c, .int .u32 x13, .int .u32 x14, .int .u32 x15]) (by simp [results, Tryd.results22, go_sem]) rfl ⟨rfl, rfl⟩
theorem at_any (f : Nat → Int) (c : Int) (w : World) :
    Calls Tryd.prog 22 #[.agg (stc f), .int .u32 c] w fun e w' => e = .returned (.agg (stc (upd f 12 c))) ∧ w' = (w.alloc (.cells (stc (upd f 12 c)) 41)).alloc (.cells (stc (upd f 12 c)) 41) :=
  at_lit (f 0) (f 1) (f 2) (f 3) (f 4) (f 5) (f 6) (f 7) (f 8) (f 9) (f 10) (f 11) (f 12) (f 13) (f 14) (f 15) c w

end Go.Proofs.YtnedbakgaggdaaaDoor
