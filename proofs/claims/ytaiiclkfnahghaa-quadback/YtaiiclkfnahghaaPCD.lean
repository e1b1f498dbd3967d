/- math/bits.Len32. -/
import Derived.Test.YtaiiclkfnahghaaPCC
import Derived.Lib.Walk
namespace Go.Proofs.Ytaiiclkfnahghaa.Rc
open Go.RowKit
set_option maxRecDepth 100000 in
theorem tab_size : (Lib.len8tab.size : Int) = 256 := by
  have : Lib.len8tab.size = 256 := by decide
  omega
set_option maxRecDepth 100000 in
theorem tab_get (y : Int) (h : y.toNat < Lib.len8tab.size) (h0 : 0 ≤ y) (h1 : y ≤ 255) : ((Lib.len8tab[y.toNat]'h).toNat : Int) = (Lib.bitLen y.toNat : Int) ∧ Lib.bitLen y.toNat ≤ 8 := by
  refine ⟨?_, Lib.bitLen_le8' y h0 h1⟩
  rw [← Lib.len8_of y h0 h1]
  unfold Lib.len8
  rw [getElem?_pos Lib.len8tab y.toNat h]
  rfl
set_option maxRecDepth 100000 in
theorem wrap_sum (k a b : Nat) (hk : k ≤ 56) (ha : a ≤ 8) (hb : b = k + a) : wrap64 ((k : Int) + wrap64 (a : Int)) = (b : Int) := by
  unfold wrap64; omega
set_option maxRecDepth 100000 in
theorem wrap_two (a : Nat) (ha : a ≤ 8) : wrap64 (wrap64 (a : Int)) = (a : Int) := by
  unfold wrap64; omega
set_option maxRecDepth 100000 in
theorem div_24 (x : Int) : (x / 65536 / 256).toNat = x.toNat / 16777216 := by omega
set_option maxRecDepth 100000 in
theorem div_16 (x : Int) : (x / 65536).toNat = x.toNat / 65536 := by omega
set_option maxRecDepth 100000 in
theorem div_8 (x : Int) : (x / 256).toNat = x.toNat / 256 := by omega
set_option maxHeartbeats 4000000 in
set_option maxRecDepth 100000 in
theorem len32_any (x : Int) (w : World) (h0 : 0 ≤ x) (h1 : x ≤ 4294967295) :
    Calls Try.prog 94 #[.int .u32 x] w fun e w' => e = .returned (.int .i64 (Lib.bitLen x.toNat)) ∧ w' = w := by
  go_enter Try.func94, Try.ntmps94
  go_wp2
  all_goals first
    | (go_ret; refine ⟨congrArg Ending.returned (congrArg (Value.int IntKind.i64) ?_), rfl⟩)
    | (exfalso; have hs := tab_size; omega)
  · have hs := tab_size
    obtain ⟨e, l⟩ := tab_get (x / 65536 / 256) (by omega) (by omega) (by omega)
    rw [e, div_24]; rw [div_24] at l
    exact wrap_sum 24 _ _ (by decide) l (Lib.bitLen_shift24 x.toNat (by omega) (by omega))
  · have hs := tab_size
    obtain ⟨e, l⟩ := tab_get (x / 65536) (by omega) (by omega) (by omega)
    rw [e, div_16]; rw [div_16] at l
    exact wrap_sum 16 _ _ (by decide) l (Lib.bitLen_shift16 x.toNat (by omega) (by omega))
  · have hs := tab_size
    obtain ⟨e, l⟩ := tab_get (x / 256) (by omega) (by omega) (by omega)
    rw [e, div_8]; rw [div_8] at l
    exact wrap_sum 8 _ _ (by decide) l (Lib.bitLen_shift8 x.toNat (by omega) (by omega))
  · have hs := tab_size
    obtain ⟨e, l⟩ := tab_get x (by omega) (by omega) (by omega)
    rw [e]
    exact wrap_two _ l
end Go.Proofs.Ytaiiclkfnahghaa.Rc
