/- The reference's numbers in bytes. -/
import Derived.Test.YtaoadopnhphjbaaDoorPWE
import Derived.Test.YtaoadopnhphjbaaDoorPXE1
namespace Go.Proofs.YtaoadopnhphjbaaDoor.Rs
open Go.RowKit Go.Lib
/-- The number that the last bytes say. -/
def upS (s : ByteArray) : Nat → Int
  | 0 => 0
  | k + 1 => 256 * upS s k + Rp.bt s (s.size - 1 - k)
set_option maxRecDepth 100000 in
theorem up_range (s : ByteArray) (k : Nat) : 0 ≤ upS s k ∧ upS s k < 256 ^ k := by
  induction k with
  | zero => exact ⟨Int.le_refl _, (by decide : (0 : Int) < 1)⟩
  | succ k ih =>
    have hb := Rp.bt_range s (s.size - 1 - k)
    show 0 ≤ 256 * upS s k + Rp.bt s (s.size - 1 - k) ∧ 256 * upS s k + Rp.bt s (s.size - 1 - k) < 256 ^ (k + 1)
    rw [Int.pow_succ]
    omega
set_option maxRecDepth 100000 in
theorem up_rd (s : ByteArray) (k : Nat) (hk : k ≤ s.size) : rd s s.size = rd s (s.size - k) + upS s k * 256 ^ (s.size - k) := by
  induction k with
  | zero => show _ = rd s s.size + 0 * _; omega
  | succ k ih =>
    rw [ih (by omega)]
    obtain ⟨j, hj⟩ : ∃ j, s.size - k = j + 1 := ⟨s.size - k - 1, by omega⟩
    rw [hj, show s.size - (k + 1) = j by omega]
    show rd s j + Rp.bt s j * 256 ^ j + upS s k * 256 ^ (j + 1) = rd s j + (256 * upS s k + Rp.bt s (s.size - 1 - k)) * 256 ^ j
    rw [show s.size - 1 - k = j by omega, Int.pow_succ, Int.add_mul, Int.mul_comm (256 ^ j) 256, ← Int.mul_assoc, Int.mul_comm (upS s k) 256]
    omega
set_option maxRecDepth 100000 in
theorem up_all (s : ByteArray) : upS s s.size = rd s s.size := by
  have := up_rd s s.size (Nat.le_refl _)
  rw [Nat.sub_self] at this
  rw [this]
  show _ = 0 + _ * 1
  omega
set_option maxRecDepth 100000 in
theorem str_app (xs ys : List Int) : strOfNums xs ++ strOfNums ys = strOfNums (xs ++ ys) := by
  apply ByteArray.ext
  simp [strOfNums]
set_option maxRecDepth 100000 in
set_option maxHeartbeats 2000000 in
theorem rput_any (n : Int) (n0 : 0 ≤ n) (n1 : n < 18446744073709551616) (width : Nat) (hw : width ≤ 8) (w : World) :
    Calls Tryd.prog 26 #[.int .u64 n, .int .i64 (width : Int)] w fun e w' => e = .returned (.string (strOfNums (Rp.upto (le n) width))) ∧ Below w.heap.size w w' := by
  have z0 : (0 : Int) ≤ (width : Int) := by omega
  have z1 : (width : Int) ≤ 8 := by omega
  go_enter Tryd.func26, Tryd.ntmps26
  go_wp2_with fail
  go_loopw [0, 5, 6] (fun u v i wr => ∃ k : Nat, k ≤ width ∧ u = .int .u64 (n / 256 ^ k) ∧ v = .string (strOfNums (Rp.upto (le n) k)) ∧ i = .int .i64 (k : Int) ∧ Below w.heap.size w wr) (fun _ _ i _ => width - Rp.natOf i)
  case atStart => exact ⟨0, by omega, by rw [Int.pow_zero, Int.ediv_one], rfl, rfl, Below.refl _ _⟩
  case round =>
    obtain ⟨k, hk, rfl, rfl, rfl, hb⟩ := hrel
    have HB : Hid (Below w.heap.size w wr) := hb
    have k0 : (0 : Int) ≤ (k : Int) := by omega
    have k8 : (k : Int) ≤ 8 := by omega
    clear hb
    by_cases hlt : k < width
    · have q1 : (k : Int) < (width : Int) := by omega
      have HE : Hid (n / 256 ^ k / 256 = n / 256 ^ (k + 1)) := by
        refine (?_ : n / 256 ^ k / 256 = n / 256 ^ (k + 1))
        rw [Int.pow_succ, Int.ediv_ediv_of_nonneg (Int.le_of_lt (pow_pos k))]
      have HU : Hid (strOfNums (Rp.upto (le n) k) ++ strOfNums [n / 256 ^ k % 256] = strOfNums (Rp.upto (le n) (k + 1))) := by
        refine (?_ : strOfNums (Rp.upto (le n) k) ++ strOfNums [n / 256 ^ k % 256] = strOfNums (Rp.upto (le n) (k + 1)))
        rw [str_app]
        congr 1
        simp [Rp.upto, List.range_succ, le]
      have zs : (strOfNums (Rp.upto (le n) k)).size ≤ 8 := by rw [strOfNums_size, Rp.upto_length]; omega
      have zt : (strOfNums [n / 256 ^ k % 256]).size = 1 := by rw [strOfNums_size]; rfl
      have hx0 : 0 ≤ n / 256 ^ k := Int.ediv_nonneg n0 (Int.le_of_lt (pow_pos k))
      have hcv := one_str (wr.alloc (.cells #[.int .u8 (n / 256 ^ k % 256)] 5)) wr.heap.size (n / 256 ^ k % 256) (heap_alloc_new wr _)
      generalize strOfNums (Rp.upto (le n) k) = x at *
      generalize strOfNums [n / 256 ^ k % 256] = y at *
      have hxn : n / 256 ^ k ≤ n := Int.ediv_le_self _ n0
      generalize n / 256 ^ k = q at *
      have hq : ¬ 9223372036854775807 < x.size + y.size := by omega
      clear zs zt
      have hq2 : IntKind.u64.wrap (q.tdiv 256) = q / 256 := by
        rw [Int.tdiv_eq_ediv_of_nonneg hx0, IntKind.wrap_u64]
        all_goals omega
      go_wp2_with fail
      refine ⟨⟨k + 1, by omega, by rw [HE.out], by rw [HU.out], rfl, HB.out.alloc HB.out.size _⟩, ?_⟩
      simp only [Rp.natOf]
      omega
    · have q1 : ¬ (k : Int) < (width : Int) := by omega
      obtain rfl : k = width := by omega
      go_wp2_with fail
      go_ret
      exact ⟨rfl, HB.out⟩
set_option maxRecDepth 100000 in
set_option maxHeartbeats 2000000 in
theorem rget_any (s : ByteArray) (hs : s.size ≤ 8) (w : World) :
    Calls Tryd.prog 23 #[.string s] w fun e w' => e = .returned (.int .u64 (rd s s.size)) ∧ ∃ n, w' = w.drewN n := by
  have z0 : (0 : Int) ≤ (s.size : Int) := by omega
  have z1 : (s.size : Int) ≤ 8 := by omega
  have HU : Hid (upS s s.size = rd s s.size) := up_all s
  go_enter Tryd.func23, Tryd.ntmps23
  go_wp2_with fail
  go_loopw [3, 4] (fun v i wr => ∃ k n : Nat, k ≤ s.size ∧ v = .int .u64 (upS s k) ∧ i = .int .i64 ((s.size : Int) - 1 - (k : Int)) ∧ wr = w.drewN n) (fun _ i _ => (match i with | .int _ x => (x + 1).toNat | _ => 0))
  case atStart => exact ⟨0, 0, Nat.zero_le _, rfl, by simp, rfl⟩
  case round =>
    obtain ⟨k, n, hk, rfl, rfl, rfl⟩ := hrel
    have k0 : (0 : Int) ≤ (k : Int) := by omega
    by_cases hlt : k < s.size
    · obtain ⟨j, hj⟩ : ∃ j, s.size - 1 - k = j := ⟨_, rfl⟩
      have ej : (s.size : Int) - 1 - (k : Int) = (j : Int) := by omega
      have j0 : (0 : Int) ≤ (j : Int) := by omega
      have j8 : (j : Int) < 8 := by omega
      have hjl : j < s.size := by omega
      have hi8 : ∀ w', (Instr.index 9 (.string s) (.int .i64 (j : Int))).run Tryd.prog w' = .ok (.int .u8 (Rp.bt s j)) w' := fun w' => Rp.idx_s s j hjl w'
      have HU2 : Hid (upS s (k + 1) = 256 * upS s k + Rp.bt s j) := by refine (?_ : upS s (k + 1) = 256 * upS s k + Rp.bt s j); rw [← hj]; rfl
      have hr := up_range s k
      have hb := Rp.bt_range s j
      have hp : (256 : Int) ^ k ≤ 256 ^ 7 := by
        have e : ∀ m : Nat, (256 : Int) ^ m = ((256 ^ m : Nat) : Int) := fun m => by simp
        rw [e, e]
        exact Int.ofNat_le.2 (Nat.pow_le_pow_right (by decide) (by omega))
      have hlow : 256 * upS s k + Rp.bt s j < 18446744073709551616 := by
        have : (256 : Int) ^ 7 = 72057594037927936 := by decide
        omega
      have r0 := hr.1
      have b0 := hb.1
      have b1 := hb.2
      have hw1 : IntKind.u64.wrap (256 * upS s k) = 256 * upS s k := by rw [IntKind.wrap_u64] <;> omega
      have hw2 : IntKind.u64.wrap (256 * upS s k + Rp.bt s j) = 256 * upS s k + Rp.bt s j := by rw [IntKind.wrap_u64] <;> omega
      rw [ej]
      clear hr hb hp
      generalize Rp.bt s j = y at *
      generalize upS s k = x at *
      go_wp2_with fail
      refine ⟨⟨k + 1, n, by omega, by rw [HU2.out], by congr 1; omega, rfl⟩, ?_⟩
      simp only
      omega
    · obtain rfl : k = s.size := by omega
      have ej : (s.size : Int) - 1 - (s.size : Int) = -1 := by omega
      rw [ej]
      go_wp2_with fail
      go_ret
      exact ⟨by rw [HU.out]; rfl, n, rfl⟩
end Go.Proofs.YtaoadopnhphjbaaDoor.Rs
