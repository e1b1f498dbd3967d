/- The reference's Find; the index of a key. -/
import Derived.Test.YtdgllokedcopjaaH
namespace Go.Proofs.Ytdgllokedcopjaa
open Go.RowKit
set_option maxRecDepth 100000 in
set_option maxHeartbeats 1000000 in
theorem refFind_any (l : List Ky) (g : Int) (o : Option Addr) (cap : Nat) (w : World) (hr : Ring w o cap l) :
    Calls Try.prog 21 #[.slice o l.length cap, .int .u32 g] w fun e w' => e = .returned (.tuple #[kv (fkS l g), .int .i64 (feS l g)]) ∧ Below w.heap.size w w' := by
  have n0 : (0 : Int) ≤ (l.length : Int) := by omega
  have n1 : (l.length : Int) ≤ 9223372036854775807 := by have := hr.1; have := hr.2.1; simp only [maxLen] at this; omega
  have HG : Hid (Ring w o cap l) := hr
  clear hr
  go_enter Try.func21, Try.ntmps21
  go_wp2_with fail
  refine (refRight_any l o cap _ (HG.out.below (below_new w _) (Nat.le_refl _))).mono ?_
  rintro e w1 ⟨rfl, e1⟩
  have B1 : Hid (Below w.heap.size w w1) := by rw [e1]; exact below_new w _
  have H1 : Hid (w1.heap[w.heap.size]? = some (.cells #[.int .u32 0, .string ⟨#[]⟩] 31 (0, 0))) := by rw [e1]; exact heap_alloc_new w _
  clear e1
  have z0 := frozen_of_row w1 w.heap.size 0 _ _ H1.out
  have z1 := frozen_of_row w1 w.heap.size 1 _ _ H1.out
  have c0 : w1.cell? ⟨w.heap.size, 0, none⟩ = some (.int .u32 0) := by rw [cell_of_row _ _ _ _ _ _ H1.out]; rfl
  have c1 : w1.cell? ⟨w.heap.size, 1, none⟩ = some (.string ⟨#[]⟩) := by rw [cell_of_row _ _ _ _ _ _ H1.out]; rfl
  cases hR : rightS l
  · have HV : Hid (fkS l g = zk ∧ feS l g = 40) := by refine (?_ : fkS l g = zk ∧ feS l g = 40); simp [fkS, feS, hR]
    clear hR
    go_wp2_with fail
    obtain ⟨X, bX⟩ := put_two H1.out (.int .u32 0) (.string ⟨#[]⟩)
    exact bodyPost_ret (results_key rfl _ _ w.heap.size zk rfl X) rfl ⟨by rw [HV.out.1, HV.out.2]; rfl, B1.out.trans bX⟩
  · have HV : Hid (fkS l g = (findS l g).getD zk ∧ feS l g = if (findS l g).isSome then 0 else 41) := by refine (?_ : fkS l g = (findS l g).getD zk ∧ feS l g = if (findS l g).isSome then 0 else 41); simp [fkS, feS, hR]
    clear hR
    go_wp2_with fail
    go_loopw [7] (fun i wr => ∃ k : Nat, k ≤ l.length ∧ i = .int .i64 (k : Int) ∧ (∀ (j : Nat) (m : Ky), j < k → l[j]? = some m → m.1 ≠ g) ∧ wr = w1) (fun i _ => l.length - natOf i)
    case atStart => exact ⟨0, by omega, rfl, fun j m h => by omega, rfl⟩
    case round =>
      obtain ⟨k, hk, rfl, hs, rfl⟩ := hrel
      have HS : Hid _ := hs
      clear hs
      by_cases hlt : k < l.length
      · have g0 : (k : Int) < (l.length : Int) := by omega
        have g1 : (0 : Int) ≤ (k : Int) := by omega
        have g2 : (k : Int) + 1 ≤ 9223372036854775807 := by omega
        obtain ⟨b, off, rfl, hbl, hc⟩ := (HG.out.below B1.out (Nat.le_refl _)).2.2.2 (by intro e; rw [e] at hlt; simp at hlt)
        obtain ⟨d1, d2⟩ := hc k hlt
        have HK : Hid (l[k]? = some (kat l k)) := kat_some hlt
        obtain ⟨x, hx⟩ : ∃ x, kat l k = x := ⟨_, rfl⟩
        rw [hx] at d1 d2 HK
        clear hc hx
        obtain ⟨x, s⟩ := x
        simp only at d1 d2
        by_cases hxg : x = g
        · have q4 : (x == g) = true := by simp [hxg]
          have HV2 : Hid (fkS l g = (x, s) ∧ feS l g = 0) := by
            refine (?_ : fkS l g = (x, s) ∧ feS l g = 0)
            have := find_at l g k HS.out _ HK.out hxg
            rw [HV.out.1, HV.out.2, this]; exact ⟨rfl, rfl⟩
          clear hxg HV
          go_wp2_with fail
          obtain ⟨X, bX⟩ := put_two H1.out (.int .u32 x) (.string s)
          exact bodyPost_ret (results_key rfl _ _ w.heap.size (x, s) rfl X) rfl ⟨by rw [HV2.out.1, HV2.out.2]; rfl, B1.out.trans bX⟩
        · have q4 : (x == g) = false := by simp [hxg]
          have HX : Hid (x ≠ g) := hxg
          clear hxg
          go_wp2_with fail
          go_roundw
          case rel =>
            refine ⟨k + 1, by omega, by go_num, fun j m hj e => ?_, by first | rfl | trivial⟩
            rcases Nat.lt_succ_iff_lt_or_eq.1 hj with h | rfl
            · exact HS.out j m h e
            · rw [HK.out] at e; cases e; exact HX.out
          case measure => simp [natOf]; omega
      · have hke : k = l.length := by omega
        have g0 : ¬ (k : Int) < (l.length : Int) := by omega
        have HV2 : Hid (fkS l g = zk ∧ feS l g = 41) := by
          refine (?_ : fkS l g = zk ∧ feS l g = 41)
          have := find_no l g (fun i m e => HS.out i m (by have := (List.getElem?_eq_some_iff.1 e).1; omega) e)
          rw [HV.out.1, HV.out.2, this]; exact ⟨rfl, rfl⟩
        clear hke HV
        go_wp2_with fail
        obtain ⟨X, bX⟩ := put_two H1.out (.int .u32 0) (.string ⟨#[]⟩)
        exact bodyPost_ret (results_key rfl _ _ w.heap.size zk rfl X) rfl ⟨by rw [HV2.out.1, HV2.out.2]; rfl, B1.out.trans bX⟩
set_option maxRecDepth 100000 in
set_option maxHeartbeats 1000000 in
/-- The index of a key that is there, and not earlier. -/
theorem index_any (l : List Ky) (n : Nat) (y : Ky) (hy : l[n]? = some y) (hn : ∀ (j : Nat), j < n → kat l j ≠ y) (o : Option Addr) (cap : Nat) (w : World) (hr : Ring w o cap l) :
    Calls Try.prog 25 #[.slice o l.length cap, kv y] w fun e w' => e = .returned (.int .i64 (n : Int)) ∧ Below w.heap.size w w' := by
  have n0 : (0 : Int) ≤ (l.length : Int) := by omega
  have n1 : (l.length : Int) ≤ 9223372036854775807 := by have := hr.1; have := hr.2.1; simp only [maxLen] at this; omega
  have HG : Hid (Ring w o cap l) := hr
  have hnl : n < l.length := (List.getElem?_eq_some_iff.1 hy).1
  have HN : Hid _ := hn
  have HYN : Hid (kat l n = y) := kat_of hy
  clear hr hn hy
  have hq := fun x => eql_keys y x
  have HQ : Hid (∀ x w, (binOp .eql 31 (.agg #[.int .u32 y.1, .string y.2]) (.agg #[.int .u32 x.1, .string x.2])).run Try.prog w = .ok (.bool (decide (y = x))) w) := hq
  clear hq
  unfold kv
  obtain ⟨g, s⟩ := y
  go_enter Try.func25, Try.ntmps25
  go_wp2_with fail
  go_loopw [8] (fun i wr => ∃ k : Nat, k ≤ n ∧ i = .int .i64 (k : Int) ∧ Below w.heap.size w wr ∧ wr.heap[w.heap.size]? = some (.cells #[.int .u32 g, .string s] 31 (0, 0))) (fun i _ => l.length - natOf i)
  case atStart => exact ⟨0, by omega, rfl, below_new w _, heap_alloc_new w _⟩
  case round =>
    obtain ⟨k, hk, rfl, hb, h1⟩ := hrel
    have HB : Hid (Below w.heap.size w wr) := hb
    have H1 : Hid _ := h1
    have hlt : k < l.length := by omega
    have g0 : (k : Int) < (l.length : Int) := by omega
    have g1 : (0 : Int) ≤ (k : Int) := by omega
    have g2 : (k : Int) + 1 ≤ 9223372036854775807 := by omega
    obtain ⟨b, off, rfl, hbl, hc⟩ := (HG.out.below HB.out (Nat.le_refl _)).2.2.2 (by intro e; rw [e] at hlt; simp at hlt)
    obtain ⟨d1, d2⟩ := hc k hlt
    have c0 : wr.cell? ⟨w.heap.size, 0, none⟩ = some (.int .u32 g) := by rw [cell_of_row _ _ _ _ _ _ h1]; rfl
    have c1 : wr.cell? ⟨w.heap.size, 1, none⟩ = some (.string s) := by rw [cell_of_row _ _ _ _ _ _ h1]; rfl
    obtain ⟨x, hx⟩ : ∃ x, kat l k = x := ⟨_, rfl⟩
    have hq := HQ.out x
    have HX : Hid (kat l k = x) := hx
    rw [hx] at d1 d2
    obtain ⟨e, he⟩ : ∃ e, decide ((g, s) = x) = e := ⟨_, rfl⟩
    rw [he] at hq
    have HE : Hid (decide ((g, s) = x) = e) := he
    clear hc hx he hb h1
    obtain ⟨x, t⟩ := x
    simp only at d1 d2 hq
    go_wp2_with fail
    go_quiet (fail)
    have BQ : Hid (Below w.heap.size w (wr.drewN nq)) := HB.out.trans (below_drewN _ _ _)
    have HQ2 : Hid ((wr.drewN nq).heap[w.heap.size]? = some (.cells #[.int .u32 g, .string s] 31 (0, 0))) := ((below_drewN wr nq wr.heap.size).block _ (Array.getElem?_eq_some_iff.1 H1.out).1).trans H1.out
    rename_i K1 h1 K2 h2 K3 h3
    refine h3 _ _ ?_
    clear hq c0 c1 d1 d2
    generalize wr.drewN nq = wq at *
    cases e
    · have hkn : k < n := by
        rcases Nat.lt_or_ge k n with h | h
        · exact h
        · obtain rfl : k = n := by omega
          exact absurd (HYN.out.symm.trans HX.out) (of_decide_eq_false HE.out)
      go_wp2_with fail
      go_roundw
      case rel => exact ⟨k + 1, by omega, by go_num, BQ.out, HQ2.out⟩
      case measure => simp [natOf]; omega
    · have hkn : k = n := by
        rcases Nat.lt_or_ge k n with h | h
        · exact absurd (HX.out.trans (of_decide_eq_true HE.out).symm) (HN.out k h)
        · omega
      go_wp2_with fail
      go_ret
      exact ⟨by rw [hkn]; rfl, BQ.out⟩
end Go.Proofs.Ytdgllokedcopjaa
