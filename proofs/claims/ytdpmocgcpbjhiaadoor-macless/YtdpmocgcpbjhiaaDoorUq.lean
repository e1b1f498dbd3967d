/- What is expanded less is a beginning: the walk. -/
import Derived.Test.YtdpmocgcpbjhiaaDoorUp
namespace Go.Proofs.YtdpmocgcpbjhiaaDoor
open Go.RowKit Go.Lib
theorem nums_cut (l : List Int) (n : Nat) : (strOfNums l).extract 0 n = strOfNums (l.take n) := by
  unfold strOfNums
  apply ByteArray.ext
  simp [ByteArray.data_extract, List.map_take]
theorem xS_cut (Kt : Nat → Int) (key label : ByteArray) (n m : Nat) (h : n ≤ m) : (xS Kt key label m).extract 0 n = xS Kt key label n := by
  unfold xS
  rw [nums_cut]
  congr 1
  unfold upto
  rw [← List.map_take, List.take_range, Nat.min_eq_left h]
set_option maxHeartbeats 2000000 in
theorem macLess_walk (key label : ByteArray) (n' m' : Int) (w : World) {tt : TypeId} {fr : Nat × Nat} (hK : w.heap[1]? = some (.cells (w64 (lf KL)) tt fr)) :
    Calls Tryd.prog 8 #[.string key, .string label, .int .i64 n', .int .i64 m'] w fun e w' => e = .returned (.bool true) ∧ Below w.heap.size w w' := by
  have h1l : 1 < w.heap.size := (Array.getElem?_eq_some_iff.1 hK).1
  have HK : Hid (w.heap[1]? = some (.cells (w64 (lf KL)) tt fr)) := hK
  clear hK
  by_cases hat : 0 ≤ n' ∧ n' ≤ m' ∧ m' ≤ 1000
  · obtain ⟨n, rfl⟩ : ∃ n : Nat, n' = (n : Int) := ⟨n'.toNat, by omega⟩
    obtain ⟨m, rfl⟩ : ∃ m : Nat, m' = (m : Int) := ⟨m'.toNat, by omega⟩
    have hnm : n ≤ m := by omega
    have hm1 : m ≤ 1000 := by omega
    have q1 : decide ((n : Int) < 0) = false := by simp
    have q2 : decide ((m : Int) < (n : Int)) = false := by simp; omega
    have q3 : decide ((1000 : Int) < (m : Int)) = false := by simp; omega
    have q4 : ¬ m < n := by omega
    obtain ⟨k, r, hr, hrs, hrt, hks⟩ := cut_is key 500
    obtain ⟨t, r', hr', hrs', hrt', hts⟩ := cut_is label 500
    have CK : Hid (∀ w, Calls Tryd.prog 11 #[.string key] w fun e w' => e = .returned (.string k) ∧ w' = w) := cut_any key k r hr hrs hrt
    have CS : Hid (∀ w, Calls Tryd.prog 11 #[.string label] w fun e w' => e = .returned (.string t) ∧ w' = w) := cut_any label t r' hr' hrs' hrt'
    have X1 : Hid (∀ w : World, w.heap[1]? = some (.cells (w64 (lf KL)) tt fr) → Calls Tryd.prog 14 #[.string k, .string t, .int .i64 (n : Int)] w fun e w' => e = .returned (.tuple #[.string (xS (lf KL) k t n), .int .i64 0]) ∧ Below w.heap.size w w') := fun w h => expand_yes (lf KL) k t (by omega) (by omega) n (by omega) w h
    have X2 : Hid (∀ w : World, w.heap[1]? = some (.cells (w64 (lf KL)) tt fr) → Calls Tryd.prog 14 #[.string k, .string t, .int .i64 (m : Int)] w fun e w' => e = .returned (.tuple #[.string (xS (lf KL) k t m), .int .i64 0]) ∧ Below w.heap.size w w') := fun w h => expand_yes (lf KL) k t (by omega) (by omega) m (by omega) w h
    have hAs := xS_size (lf KL) k t n
    have hBs := xS_size (lf KL) k t m
    have hAB := xS_cut (lf KL) k t n m hnm
    generalize xS (lf KL) k t n = A at *
    generalize xS (lf KL) k t m = B at *
    have nb : (n : Int) ≤ (B.size : Int) := by omega
    clear hat hr hrs hrt hr' hrs' hrt' hks hts
    go_enter Tryd.func8, Tryd.ntmps8
    go_wp2_with fail
    refine (shown_any w HK.out).mono ?_
    rintro e w1 ⟨rfl, b1⟩
    have B1 : Hid (Below w.heap.size w w1) := b1
    clear b1
    go_wp2_with (first
      | (go_at_call 11; refine (CK.out _).mono ?_; rintro e wq ⟨rfl, hq⟩; have hq' := hq.symm; clear hq; subst hq')
      | (go_at_call 11; refine (CS.out _).mono ?_; rintro e wq ⟨rfl, hq⟩; have hq' := hq.symm; clear hq; subst hq'))
    refine (X1.out w1 ((B1.out.block 1 h1l).trans HK.out)).mono ?_
    rintro e w2 ⟨rfl, b2⟩
    have B2 : Hid (Below w.heap.size w w2) := B1.out.trans (b2.mono B1.out.size)
    clear b2 B1
    go_wp2_with (first
      | (go_at_call 11; refine (CK.out _).mono ?_; rintro e wq ⟨rfl, hq⟩; have hq' := hq.symm; clear hq; subst hq')
      | (go_at_call 11; refine (CS.out _).mono ?_; rintro e wq ⟨rfl, hq⟩; have hq' := hq.symm; clear hq; subst hq'))
    refine (X2.out w2 ((B2.out.block 1 h1l).trans HK.out)).mono ?_
    rintro e w3 ⟨rfl, b3⟩
    have B3 : Hid (Below w.heap.size w w3) := B2.out.trans (b3.mono B2.out.size)
    clear b3 B2
    go_wp2_with fail
    go_ret
    exact ⟨rfl, B3.out⟩
  · have hne : n' < 0 ∨ (0 ≤ n' ∧ m' < n') ∨ (0 ≤ n' ∧ n' ≤ m' ∧ 1000 < m') := by omega
    clear hat
    rcases hne with h | ⟨h1, h2⟩ | ⟨h1, h2, h3⟩
    · have q1 : decide (n' < 0) = true := by simpa using h
      go_enter Tryd.func8, Tryd.ntmps8
      go_wp2_with fail
      refine (shown_any w HK.out).mono ?_
      rintro e w1 ⟨rfl, b1⟩
      have B1 : Hid (Below w.heap.size w w1) := b1
      clear b1
      go_wp2_with fail
      go_ret
      exact ⟨rfl, B1.out⟩
    · have q1 : decide (n' < 0) = false := by simp; omega
      have q2 : decide (m' < n') = true := by simpa using h2
      clear h1
      go_enter Tryd.func8, Tryd.ntmps8
      go_wp2_with fail
      refine (shown_any w HK.out).mono ?_
      rintro e w1 ⟨rfl, b1⟩
      have B1 : Hid (Below w.heap.size w w1) := b1
      clear b1
      go_wp2_with fail
      go_ret
      exact ⟨rfl, B1.out⟩
    · have q1 : decide (n' < 0) = false := by simp; omega
      have q2 : decide (m' < n') = false := by simp; omega
      have q3 : decide (1000 < m') = true := by simpa using h3
      clear h1 h2
      go_enter Tryd.func8, Tryd.ntmps8
      go_wp2_with fail
      refine (shown_any w HK.out).mono ?_
      rintro e w1 ⟨rfl, b1⟩
      have B1 : Hid (Below w.heap.size w w1) := b1
      clear b1
      go_wp2_with fail
      go_ret
      exact ⟨rfl, B1.out⟩
end Go.Proofs.YtdpmocgcpbjhiaaDoor
