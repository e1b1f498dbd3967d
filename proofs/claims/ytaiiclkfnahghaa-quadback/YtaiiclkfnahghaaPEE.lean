/- The reference: Square, Far. -/
import Derived.Test.YtaiiclkfnahghaaPEB
import Derived.Test.YtaiiclkfnahghaaPCH
namespace Go.Proofs.Ytaiiclkfnahghaa.Rc
open Go.RowKit Go.Lib
set_option maxRecDepth 100000 in
theorem dist_lt {a b : Nat} (ha : a < 2147483648) (hb : b < 2147483648) : dist a b < 2147483648 := by unfold dist; omega
set_option maxRecDepth 100000 in
theorem sub_dist {a b : Nat} (ha : a < 2147483648) (hb : b < 2147483648) : (max (a : Int) (b : Int) - min (a : Int) (b : Int)) % 4294967296 = (dist a b : Nat) := by unfold dist; omega
set_option maxRecDepth 100000 in
theorem dist_sq {a b : Nat} (ha : a < 2147483648) (hb : b < 2147483648) : dist a b * dist a b ≤ 2147483647 * 2147483647 := Nat.mul_le_mul (by have := dist_lt ha hb; omega) (by have := dist_lt ha hb; omega)
set_option maxHeartbeats 2000000 in
set_option maxRecDepth 100000 in
theorem eSquare_any (x y u v : Nat) (hx : x < 2147483648) (hy : y < 2147483648) (hu : u < 2147483648) (hv : v < 2147483648) (w : World) :
    Calls Try.prog 46 #[.int .u32 (x : Int), .int .u32 (y : Int), .int .u32 (u : Int), .int .u32 (v : Int)] w fun e w' => e = .returned (.int .u64 ((dist x u * dist x u + dist y v * dist y v : Nat) : Int)) ∧ w' = w := by
  have H1 : Hid _ := sub_dist hx hu
  have H2 : Hid _ := sub_dist hy hv
  have HD : Hid _ := sq_wrap (dist x u) (dist y v) (dist_sq hx hu) (dist_sq hy hv)
  clear hx hy hu hv
  go_enter Try.func46, Try.ntmps46
  go_wp2_with fail
  rw [H1.out, H2.out, HD.out]
  go_ret
  exact ⟨rfl, rfl⟩
set_option maxRecDepth 100000 in
/-- The place of a cell that is nearest. -/
theorem dist_gap {x X n : Nat} : dist x (min (max x X) (X + 2 ^ n - 1)) = gapS x X n := by
  have hp := Nat.two_pow_pos n
  unfold dist gapS
  split
  · omega
  · split <;> omega
end Go.Proofs.Ytaiiclkfnahghaa.Rc
