/- PlainFull. -/
import Derived.Test.YthneciodobeehaaPUB
import Derived.Test.YthneciodobeehaaPUC
namespace Go.Proofs.Ythneciodobeehaa.Rp
open Go.RowKit Go.Lib
open Go.Proofs.Ythneciodobeehaa.Rc Go.Proofs.Ythneciodobeehaa.Rq
set_option maxRecDepth 100000 in
set_option maxHeartbeats 4000000 in
theorem plainFull_walk (id : Nat) (i : Int) (w : World) (hid : id < 18446744073709551616) : Calls Try.prog 9 #[.int .u64 (id : Int), .int .i64 i] w fun e w' => e = .returned (.bool true) ∧ Below w.heap.size w w' := by
  go_enter Try.func9, Try.ntmps9
  go_wp2_with fail
  refine (pshown_any _).mono ?_
  rintro e w1 ⟨rfl, b1⟩
  have HB1 : Hid (Below w.heap.size w w1) := b1
  clear b1
  by_cases a1 : i < 990
  · have t1 : decide (i < 990) = true := decide_eq_true a1
    go_wp2_with fail
    go_ret
    exact ⟨rfl, HB1.out⟩
  have t1 : decide (i < 990) = false := decide_eq_false a1
  by_cases a2 : 1001 < i
  · have t2 : decide (1001 < i) = true := decide_eq_true a2
    go_wp2_with fail
    go_ret
    exact ⟨rfl, HB1.out⟩
  have t2 : decide (1001 < i) = false := decide_eq_false a2
  obtain ⟨n, rfl⟩ : ∃ n : Nat, i = (n : Int) := ⟨i.toNat, by omega⟩
  have hn0 : 990 ≤ n := by omega
  have hn : n ≤ 1001 := by omega
  go_wp2_with fail
  clear t1 t2 a1 a2
  go_loopw [6, 7] (fun pv iv wr => ∃ k : Nat, k ≤ n ∧ iv = .int .i64 (k : Int) ∧ wr.ownsRow w1.heap.size 27 4 pv k ((evens k).flatMap rc) ∧ Below w1.heap.size w1 wr) (fun _ iv _ => n - natOf iv)
  case atStart =>
    exact ⟨0, by omega, rfl, World.ownsRow_nil _ _ _ _, Below.refl _ _⟩
  case round =>
    obtain ⟨k, hk, rfl, ho, hbk⟩ := hrel
    have HBk : Hid (Below w1.heap.size w1 wr) := hbk
    obtain ⟨po, pc, rfl, hsl⟩ := sl_of_own ho
    by_cases hkn : k < n
    · have q5 : (k : Int) < (n : Int) := by omega
      have k2 : (k : Int) + 1 ≤ 9223372036854775807 := by omega
      have k3 : IntKind.i64.wrap (2 * (k : Int)) = 2 * (k : Int) := wrap_i64 (by omega) (by omega)
      have k4 : IntKind.u64.wrap (2 * (k : Int)) = 2 * (k : Int) := IntWalk.u64_in _ ⟨by omega, by omega⟩
      obtain ⟨o1, p1, V1, hrun1, c1, d1⟩ := app_row wr w1.heap.size k po pc (evens k) ⟨2 * k, 0, 0, ⟨#[]⟩⟩ ho hbk.size (by omega)
      rw [← evens_succ] at c1
      simp only [show ((2 * k : Nat) : Int) = 2 * (k : Int) by omega, show ((0 : Nat) : Int) = 0 from rfl] at hrun1
      have HA1 : Hid (V1.ownsRow w1.heap.size 27 4 (.slice o1 (k + 1) p1) (k + 1) ((evens (k + 1)).flatMap rc)) := c1
      have HV1 : Hid (Below w1.heap.size w1 V1) := HBk.out.trans d1
      clear c1 d1 ho hbk hsl
      go_wp2_with (first | (at_builtin; refine list_append rfl 22 22 (.tmp 24) (.tmp 29) rfl (vs := .slice po k pc) (vx := .slice (some ⟨wr.heap.size, 0, none⟩) 1 1) rfl rfl hrun1 ?_))
      go_roundw
      case rel => exact ⟨k + 1, by omega, by go_num, HA1.out, HV1.out⟩
      case measure => simp [natOf]; omega
    · obtain rfl : k = n := by omega
      have hrw : RowsAt wr po pc (evens k) := by unfold RowsAt; rw [evens_len]; exact hsl
      have HP : Hid _ := full_plain k id hn
      have HA : Hid (∀ _ : True, Calls Try.prog 15 #[.slice po k pc, ov ⟨1, ⟨id, 0, 0, ⟨#[]⟩⟩⟩] wr (KP (apL (evens k) ⟨1, ⟨id, 0, 0, ⟨#[]⟩⟩⟩) (apE (evens k) ⟨1, ⟨id, 0, 0, ⟨#[]⟩⟩⟩) wr)) := fun _ => by
        have := apply_any po pc (evens k) ⟨1, ⟨id, 0, 0, ⟨#[]⟩⟩⟩ wr hrw
        rwa [evens_len] at this
      have HB2 : Hid (Below w.heap.size w wr) := HB1.out.trans (hbk.mono HB1.out.size)
      generalize apE (evens k) ⟨1, ⟨id, 0, 0, ⟨#[]⟩⟩⟩ = E at *
      generalize apL (evens k) ⟨1, ⟨id, 0, 0, ⟨#[]⟩⟩⟩ = M at *
      simp only [ov] at HA
      have q5 : ¬ (k : Int) < (k : Int) := by omega
      clear hrw hsl ho hbk HBk HB1 hkn hk
      go_wp2_with fail
      refine Calls.mono (HA.out trivial) ?_
      rintro e w2 ⟨o2, cap2, rfl, -, b2, -⟩
      have HB3 : Hid (Below w.heap.size w w2) := HB2.out.trans (b2.mono HB2.out.size)
      clear b2 HB2 HA
      have k3 : IntKind.i64.wrap (2 * (k : Int)) = 2 * (k : Int) := wrap_i64 (by omega) (by omega)
      have k4 : IntKind.u64.wrap (2 * (k : Int)) = 2 * (k : Int) := IntWalk.u64_in _ ⟨by omega, by omega⟩
      rcases HP.out with ⟨c1, h1⟩ | ⟨c1, c2, h1, h2⟩ | ⟨c1, c2, h1, h2⟩ | ⟨c1, c2, h1, h2⟩
      · subst h1
        have t1 : decide ((1000 : Int) < (k : Int)) = true := decide_eq_true (by omega)
        clear HP
        go_wp2_with fail
        go_ret
        exact ⟨rfl, HB3.out⟩
      · subst h1
        obtain ⟨n1, n2⟩ := len_zero h2
        have t1 : decide ((1000 : Int) < (k : Int)) = false := decide_eq_false (by omega)
        have t2 : ((k : Int) == 1000) = true := by rw [beq_iff_eq]; omega
        have t3 : decide ((k : Int) = 1000) = true := decide_eq_true (by omega)
        clear HP h2
        by_cases ev : id % 2 = 0
        · have e1 : ((id : Int) % 2) = 0 := by omega
          have e2 : (id : Int).tmod 2 = 0 := by rw [Int.tmod_eq_emod_of_nonneg (by omega)]; exact e1
          have e3 : decide ((id : Int) < 2 * (k : Int)) = false := decide_eq_false (by omega)
          have e4 : ¬ (id : Int) < 2000 := by omega
          have e5 : decide ((id : Int) < 2000) = false := decide_eq_false e4
          go_wp2_with fail
          go_ret
          exact ⟨rfl, HB3.out⟩
        · have e1 : ((id : Int) % 2) = 1 := by omega
          have e2 : (id : Int).tmod 2 = 1 := by rw [Int.tmod_eq_emod_of_nonneg (by omega)]; exact e1
          go_wp2_with fail
          go_ret
          exact ⟨rfl, HB3.out⟩
      · subst h1
        have t1 : decide ((1000 : Int) < (k : Int)) = false := decide_eq_false (by omega)
        have e1 : ((id : Int) % 2) = 0 := by omega
        have e2 : (id : Int).tmod 2 = 0 := by rw [Int.tmod_eq_emod_of_nonneg (by omega)]; exact e1
        have e3 : decide ((id : Int) < 2 * (k : Int)) = true := decide_eq_true (by omega)
        have e4 : (id : Int) < 2 * (k : Int) := by omega
        have n1 : ((M.length : Int) == (k : Int)) = true := by rw [h2, beq_iff_eq]
        have n2 : decide ((M.length : Int) = (k : Int)) = true := by rw [h2]; exact decide_eq_true rfl
        clear HP
        by_cases c3 : k = 1000
        · have t2 : ((k : Int) == 1000) = true := by rw [beq_iff_eq]; omega
          have t3 : decide ((k : Int) = 1000) = true := decide_eq_true (by omega)
          clear c3
          go_wp2_with fail
          go_ret
          exact ⟨rfl, HB3.out⟩
        · have t2 : ((k : Int) == 1000) = false := by rw [beq_eq_false_iff_ne]; omega
          have t3 : decide ((k : Int) = 1000) = false := decide_eq_false (by omega)
          clear c3
          go_wp2_with fail
          go_ret
          exact ⟨rfl, HB3.out⟩
      · subst h1
        have t1 : decide ((1000 : Int) < (k : Int)) = false := decide_eq_false (by omega)
        have t2 : ((k : Int) == 1000) = false := by rw [beq_eq_false_iff_ne]; omega
        have t3 : decide ((k : Int) = 1000) = false := decide_eq_false (by omega)
        have k5 : IntKind.i64.wrap ((k : Int) + 1) = (k : Int) + 1 := wrap_i64 (by omega) (by omega)
        have n1 : ((M.length : Int) == (k : Int) + 1) = true := by rw [h2, beq_iff_eq]; omega
        have n2 : decide ((M.length : Int) = (k : Int) + 1) = true := by rw [h2]; exact decide_eq_true (by omega)
        clear HP
        by_cases ev : id % 2 = 0
        · have e1 : ((id : Int) % 2) = 0 := by omega
          have e2 : (id : Int).tmod 2 = 0 := by rw [Int.tmod_eq_emod_of_nonneg (by omega)]; exact e1
          have e3 : decide ((id : Int) < 2 * (k : Int)) = false := decide_eq_false (by omega)
          have e4 : ¬ (id : Int) < 2 * (k : Int) := by omega
          go_wp2_with fail
          go_ret
          exact ⟨rfl, HB3.out⟩
        · have e1 : ((id : Int) % 2) = 1 := by omega
          have e2 : (id : Int).tmod 2 = 1 := by rw [Int.tmod_eq_emod_of_nonneg (by omega)]; exact e1
          go_wp2_with fail
          go_ret
          exact ⟨rfl, HB3.out⟩
end Go.Proofs.Ythneciodobeehaa.Rp
