/- What bytes say: read; the head of bytes: Get; a head's nonce; a block's tag. -/
import Derived.Test.YtaoadopnhphjbaaDoorPWD
namespace Go.Proofs.YtaoadopnhphjbaaDoor.Rs
open Go.RowKit Go.Lib
set_option maxRecDepth 100000 in
theorem or_add (a x m : Nat) (ha : a < 2 ^ m) (hx : x < 256) (hm : m ≤ 56) : bits .or .u64 (a : Int) (((x * 2 ^ m : Nat) : Int)) = ((a + x * 2 ^ m : Nat) : Int) := by
  have h56 : 2 ^ m ≤ 2 ^ 56 := Nat.pow_le_pow_right (by decide) hm
  have hor : 2 ^ m * x ||| a = 2 ^ m * x + a := (Nat.two_pow_add_eq_or_of_lt ha x).symm
  have hle : x * 2 ^ m ≤ 255 * 2 ^ m := Nat.mul_le_mul_right _ (by omega)
  rw [Nat.mul_comm] at hor
  generalize 2 ^ m = p at *
  generalize x * p = q at *
  have e1 : (BitVec.ofInt 64 (q : Int)).toNat = q := by
    rw [BitVec.ofInt_natCast, BitVec.toNat_ofNat]
    exact Nat.mod_eq_of_lt (by omega)
  have e2 : (BitVec.ofInt 64 (a : Int)).toNat = a := by
    rw [BitVec.ofInt_natCast, BitVec.toNat_ofNat]
    exact Nat.mod_eq_of_lt (by omega)
  show IntKind.u64.wrap ((BitVec.ofInt 64 (a : Int) ||| BitVec.ofInt 64 (q : Int)).toNat : Nat) = _
  rw [BitVec.toNat_or, e1, e2, Nat.or_comm, hor, IntKind.wrap_u64, Nat.add_comm]
  all_goals omega
set_option maxRecDepth 100000 in
theorem or_rd (s : ByteArray) (k : Nat) (hk : k < 8) : bits .or .u64 (rd s k) (IntKind.u64.wrap (Rp.bt s k * 2 ^ (8 * k))) = rd s (k + 1) := by
  have hb := Rp.bt_range s k
  have hr := rd_range s k
  obtain ⟨a, ha⟩ := Int.eq_ofNat_of_zero_le hr.1
  obtain ⟨x, hx⟩ := Int.eq_ofNat_of_zero_le hb.1
  have e256 : (256 : Int) ^ k = ((2 ^ (8 * k) : Nat) : Int) := by rw [Nat.pow_mul]; simp
  have p2 : ((2 : Int) ^ (8 * k)) = ((2 ^ (8 * k) : Nat) : Int) := by simp
  have h := or_add a x (8 * k) (by rw [ha, e256] at hr; omega) (by omega) (by omega)
  show _ = rd s k + Rp.bt s k * 256 ^ k
  rw [ha, hx, e256, p2]
  have h56 : 2 ^ (8 * k) ≤ 2 ^ 56 := Nat.pow_le_pow_right (by decide) (by omega)
  have hle : x * 2 ^ (8 * k) ≤ 255 * 2 ^ (8 * k) := Nat.mul_le_mul_right _ (by omega)
  have hw : IntKind.u64.wrap ((x : Int) * ((2 ^ (8 * k) : Nat) : Int)) = ((x * 2 ^ (8 * k) : Nat) : Int) := by
    rw [← Int.natCast_mul]
    generalize 2 ^ (8 * k) = p at *
    rw [IntKind.wrap_u64]
    all_goals omega
  rw [hw, h]
  push_cast
  rfl
set_option maxRecDepth 100000 in
set_option maxHeartbeats 1000000 in
theorem read_any (s : ByteArray) (hs : s.size ≤ 8) (w : World) :
    Calls Tryd.prog 22 #[.string s] w fun e w' => e = .returned (.int .u64 (rd s s.size)) ∧ ∃ n, w' = w.drewN n := by
  go_enter Tryd.func22, Tryd.ntmps22
  have z0 : (0 : Int) ≤ (s.size : Int) := by omega
  have z1 : (s.size : Int) ≤ 8 := by omega
  go_wp2_with fail
  go_loopw [3, 7] (fun v i wr => ∃ k n : Nat, k ≤ s.size ∧ v = .int .u64 (rd s k) ∧ i = .int .i64 (k : Int) ∧ wr = w.drewN n) (fun _ i _ => s.size - Rp.natOf i)
  case atStart => exact ⟨0, 0, Nat.zero_le _, rfl, rfl, rfl⟩
  case round =>
    obtain ⟨k, n, hk, rfl, rfl, rfl⟩ := hrel
    have k0 : (0 : Int) ≤ (k : Int) := by omega
    by_cases hlt : k < s.size
    · have q1 : (k : Int) < (s.size : Int) := by omega
      have hi8 : ∀ w', (Instr.index 9 (.string s) (.int .i64 (k : Int))).run Tryd.prog w' = .ok (.int .u8 (Rp.bt s k)) w' := fun w' => Rp.idx_s s k hlt w'
      have hb := Rp.bt_range s k
      have HO : Hid (bits .or .u64 (rd s k) (IntKind.u64.wrap (Rp.bt s k * 2 ^ (8 * k))) = rd s (k + 1)) := or_rd s k (by omega)
      have hb0 := hb.1
      have hb1 : Rp.bt s k < 18446744073709551616 := by omega
      obtain ⟨x, hx⟩ : ∃ x, Rp.bt s k = x := ⟨_, rfl⟩
      obtain ⟨y, hy⟩ : ∃ y, rd s k = y := ⟨_, rfl⟩
      rw [hx] at hi8 HO hb0 hb1
      rw [hy] at HO ⊢
      clear hb hx hy
      go_wp2_with fail
      refine ⟨⟨k + 1, n, by omega, by rw [HO.out], rfl, rfl⟩, ?_⟩
      simp only [Rp.natOf]
      omega
    · have q1 : ¬ (k : Int) < (s.size : Int) := by omega
      obtain rfl : k = s.size := by omega
      clear hlt hk hs
      go_wp2_with fail
      go_ret
      exact ⟨rfl, n, rfl⟩
end Go.Proofs.YtaoadopnhphjbaaDoor.Rs
