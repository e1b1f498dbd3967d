/- The sort beyond twelve: reverseRange, siftDown, heapSort. -/
import Derived.Test.YtkpfnepbnaekoaaPDM
namespace Go.Proofs.Ytkpfnepbnaekoaa.Rd
open Go.RowKit
set_option maxRecDepth 100000 in
theorem swp_sz (d : Array Nat) (i j : Nat) : (Sort.swp d i j).size = d.size := by simp [Sort.swp]
set_option maxRecDepth 100000 in
set_option maxHeartbeats 2000000 in
theorem reverse_any (g cap a b : Nat) (d : Array Nat) (ha : a ≤ b) (hb : b ≤ d.size) (hd : d.size ≤ 1000000) (w : World) (h : Us w g d) :
    Calls Try.prog 80 #[.slice (some ⟨g, 0, none⟩) d.size cap, .int .i64 (a : Int), .int .i64 (b : Int)] w fun e w' => e = .returned (.tuple #[]) ∧ (∃ d', Sort.PermIn a b d d' ∧ Us w' g d') ∧ Bg g w w' := by
  have HU : Hid (Us w g d) := h
  clear h
  obtain ⟨n, hn⟩ : ∃ n, d.size = n := ⟨_, rfl⟩
  rw [hn] at hb hd ⊢
  go_enter Try.func80, Try.ntmps80
  go_wp2_with fail
  go_loopw [6, 7] (fun iv jv wr => ∃ (i : Nat) (j : Int) (d1 : Array Nat), iv = .int .i64 (i : Int) ∧ jv = .int .i64 j ∧ a ≤ i ∧ i ≤ b ∧ -1 ≤ j ∧ j < (b : Int) ∧ Us wr g d1 ∧ d1.size = n ∧ Sort.PermIn a b d d1 ∧ Bg g w wr) (fun iv _ _ => b - natOf iv)
  case atStart => exact ⟨a, (b : Int) - 1, d, rfl, by go_num, by omega, by omega, by omega, by omega, HU.out, hn, Sort.permIn_refl d a b, But.refl _ _⟩
  case round =>
    obtain ⟨i, j, d1, rfl, rfl, hai, hib, hj0, hjb, hu, hs1, hp, hbg⟩ := hrel
    have U1 : Hid (Us wr g d1) := hu
    have P1 : Hid (Sort.PermIn a b d d1) := hp
    have B1 : Hid (Bg g w wr) := hbg
    clear hp hbg
    by_cases hlt : (i : Int) < j
    · obtain ⟨j', rfl⟩ := Int.eq_ofNat_of_zero_le (show 0 ≤ j by omega)
      have hj' : j' < b := by omega
      have hij : i < j' := by omega
      obtain ⟨x1, y1⟩ := hu.cell i (by omega)
      obtain ⟨x2, y2⟩ := hu.cell j' (by omega)
      have q3 : (i : Int) < (n : Int) := by omega
      have q4 : (j' : Int) < (n : Int) := by omega
      have q5 : (0 : Int) ≤ (j' : Int) := by omega
      have q6 : (0 : Int) ≤ (i : Int) := by omega
      generalize hx : d1[i]! = xv at *
      generalize hy : d1[j']! = yv at *
      have HX : Hid (d1[i]! = xv) := hx
      have HY : Hid (d1[j']! = yv) := hy
      have HW := Us.swp U1.out i j'
      rw [HX.out, HY.out] at HW
      have HW1 : Hid _ := HW.1
      have HW2 : Hid _ := HW.2
      clear hx hy hu HW
      go_wp2_with fail
      go_region
      go_wp2_with fail
      go_roundw
      case rel => exact ⟨i + 1, (j' : Int) - 1, Sort.swp d1 i j', by go_num, by go_num, by omega, by omega, by omega, by omega, HW1.out, by rw [swp_sz]; exact hs1, Sort.permIn_trans _ _ _ _ _ P1.out (Sort.swp_permIn d1 a b i j' (by omega) (by omega) (by omega) (by omega) (by omega)), (B1.out.trans HW2.out).trans (Bg.drew _)⟩
      case measure => simp [natOf]; omega
    · clear hu
      go_wp2_with fail
      refine bodyPost_end (results_none rfl _ _ _) rfl ?_
      exact ⟨rfl, ⟨d1, P1.out, U1.out⟩, B1.out⟩
set_option maxRecDepth 100000 in
theorem sd_end {hi F root : Nat} (d : Array Nat) (h : hi ≤ 2 * root + 1) : Sort.siftDown ltN hi F root d = d := by rw [Sort.siftDown, dif_pos h]
set_option maxRecDepth 100000 in
theorem sd_stop {hi F root c : Nat} (d : Array Nat) (h0 : 2 * root + 1 < hi) (hc : c = if 2 * root + 1 + 1 < hi ∧ ltN d[F + (2 * root + 1)]! d[F + (2 * root + 1) + 1]! = true then 2 * root + 2 else 2 * root + 1) (h : ltN d[F + root]! d[F + c]! = false) : Sort.siftDown ltN hi F root d = d := by
  rw [Sort.siftDown, dif_neg (by omega)]
  split at hc
  · rename_i h1
    rw [if_pos (by simp [h1.1, h1.2]), ← hc, h]; rfl
  · rename_i h1
    rw [if_neg (by simpa using h1), ← hc, h]; rfl
set_option maxRecDepth 100000 in
theorem sd_go {hi F root c : Nat} (d : Array Nat) (h0 : 2 * root + 1 < hi) (hc : c = if 2 * root + 1 + 1 < hi ∧ ltN d[F + (2 * root + 1)]! d[F + (2 * root + 1) + 1]! = true then 2 * root + 2 else 2 * root + 1) (h : ltN d[F + root]! d[F + c]! = true) : Sort.siftDown ltN hi F root d = Sort.siftDown ltN hi F c (Sort.swp d (F + root) (F + c)) := by
  rw [Sort.siftDown, dif_neg (by omega)]
  split at hc
  · rename_i h1
    rw [if_pos (by simp [h1.1, h1.2]), ← hc, h]
    simp only [Bool.not_true, Bool.false_eq_true, if_false]
    rw [dif_pos (by omega)]
  · rename_i h1
    rw [if_neg (by simpa using h1), ← hc, h]
    simp
end Go.Proofs.Ytkpfnepbnaekoaa.Rd
