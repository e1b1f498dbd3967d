/- A text's bytes are put. -/
import Derived.Test.YtljponlfjombaaaQJA
namespace Go.Proofs.Ytljponlfjombaaa.Rw
open Go.RowKit Go.Lib Go.Shelf
open Go.Proofs.Ytljponlfjombaaa.Rc Go.Proofs.Ytljponlfjombaaa.Rq
/-- What bytes are put by: a writer's own method. -/
abbrev pvv (g : Nat) : Value := .func (.func 26) #[.pointer (some ⟨g, 0, none⟩)] #[]
set_option maxRecDepth 100000 in
set_option maxHeartbeats 1000000 in
theorem putText_any (g : Nat) (own : Nat → Prop) (bs : List UInt8) (s : ByteArray) (hl : bs.length + s.size ≤ 10000) (W : World) (h : Wr g own bs W) :
    Calls Try.prog 40 #[pvv g, .string s] W fun e W' => e = .returned (.tuple #[]) ∧ Wrote g own (bs ++ s.data.toList) W W' := by
  have HW : Hid (Wr g own bs W) := h
  obtain ⟨n, hn⟩ : ∃ n, s.size = n := ⟨_, rfl⟩
  have HN : Hid (s.size = n) := hn
  have hn1 : n ≤ 10000 := by omega
  have q0 : (n : Int) ≤ 10000 := by omega
  have HC : Hid _ := add_any g
  clear h
  go_enter Try.func40, Try.ntmps40
  go_wp2_with fail
  go_loopw [7] (fun iv wr => ∃ i : Nat, i ≤ n ∧ iv = .int .i64 (i : Int) ∧ Wrote g own (bs ++ s.data.toList.take i) W wr) (fun iv _ => n - natOf iv)
  case atStart => exact ⟨0, Nat.zero_le _, rfl, by rw [List.take_zero, List.append_nil]; exact Wrote.refl HW.out (Below.refl _ _)⟩
  case round =>
    obtain ⟨i, hi, rfl, own', h1, h2, h3⟩ := hrel
    have H1 : Hid (∀ j, own' j → own j ∨ W.heap.size ≤ j) := h1
    have H2 : Hid (But own W wr) := h2
    have H3 : Hid (Wr g own' (bs ++ s.data.toList.take i) wr) := h3
    clear h1 h2 h3
    by_cases hlt : i < n
    · have q1 : (i : Int) < (n : Int) := by omega
      have i0 : (0 : Int) ≤ (i : Int) := by omega
      have hsi : i < s.size := by rw [HN.out]; exact hlt
      have HTK : Hid (bs ++ s.data.toList.take (i + 1) = (bs ++ s.data.toList.take i) ++ [s[i]]) := by
        refine (?_ : bs ++ s.data.toList.take (i + 1) = _)
        have hd : i < s.data.toList.length := by rw [Array.length_toList]; exact hsi
        rw [List.take_add_one, List.getElem?_eq_getElem hd, List.append_assoc]
        rfl
      have hln : (bs ++ s.data.toList.take i).length ≤ 10000 := by
        rw [List.length_append, List.length_take]; omega
      go_wp2_with fail
      refine (HC.out own' _ s[i] hln wr H3.out).mono ?_
      rintro e w1 ⟨rfl, k⟩
      have HE : Hid (Wrote g own (bs ++ s.data.toList.take (i + 1)) W w1) := by
        refine (?_ : Wrote g own (bs ++ s.data.toList.take (i + 1)) W w1)
        rw [HTK.out]
        exact Wrote.trans H1.out H2.out k
      clear k
      go_wp2_with fail
      go_roundw
      case rel => exact ⟨i + 1, by omega, by go_num, HE.out⟩
      case measure => simp [natOf]; omega
    · obtain rfl : i = n := by omega
      have q1 : ¬ (i : Int) < (i : Int) := by omega
      have HE : Hid (s.data.toList.take i = s.data.toList) := by
        refine (?_ : s.data.toList.take i = s.data.toList)
        rw [List.take_of_length_le]
        have := HN.out
        simp only [Array.length_toList]
        exact Nat.le_of_eq this
      go_wp2_with fail
      refine bodyPost_end (results_none rfl _ _ _) rfl ?_
      refine ⟨rfl, own', H1.out, H2.out, ?_⟩
      rw [← HE.out]; exact H3.out
end Go.Proofs.Ytljponlfjombaaa.Rw
/- By how much each byte of a number is moved: the function that goes through it. -/
namespace Go.Proofs.Ytljponlfjombaaa.Rw
open Go.RowKit Go.Lib Go.Shelf
open Go.Proofs.Ytljponlfjombaaa.Rc Go.Proofs.Ytljponlfjombaaa.Rq
attribute [local go_sem] Oper.semAt_some
set_option maxRecDepth 100000 in
theorem shifts_any (sz : Nat) (w : World) :
    Calls Try.prog 48 #[.int .i64 (sz : Int)] w fun e w' => e = .returned (.func (.func 55) #[] #[.pointer (some ⟨w.heap.size, 0, none⟩)]) ∧ w' = w.alloc (.cells #[.int .i64 (sz : Int)] 3) := by
  go_enter Try.func48, Try.ntmps48
  go_wp2_with fail
  go_ret
  exact ⟨rfl, rfl⟩
set_option maxRecDepth 100000 in
set_option maxHeartbeats 2000000 in
theorem shifts1_any (w0 : World) (sz gs : Nat) (hsz : sz ≤ 8) (hgs : w0.heap[gs]? = some (.cells #[.int .i64 (sz : Int)] 3 (0, 0))) (W1 : World) (hb1 : Below w0.heap.size w0 W1) (l : Nat) (R : (Nat → Prop) → Nat → World → Prop) (Rx : (Nat → Prop) → World → Prop) (own : Nat → Prop) (hown : ∀ j, own j → j < W1.heap.size)
    (hY : ∀ own k W, k < sz → R own k W → (∀ j, own j → j < W.heap.size) → YieldAt Fence.wide 0 Try.prog l #[.int .i64 (8 * (k : Int))] W (YPost R Rx own (k + 1) W)) (h0 : R own 0 W1) :
    Calls Try.prog 55 (#[.func (.yield l) #[] #[]] ++ #[.pointer (some ⟨gs, 0, none⟩)]) W1 fun e W' => (∃ v, e = .returned v) ∧ ∃ own', (R own' sz W' ∨ Rx own' W') := by
  have HY : Hid _ := hY
  have H0 : Hid (R own 0 W1) := h0
  have HOw : Hid (∀ j, own j → j < W1.heap.size) := hown
  have lg : gs < w0.heap.size := (Array.getElem?_eq_some_iff.1 hgs).1
  have c0 : W1.cell? ⟨gs, 0, none⟩ = some (.int .i64 (sz : Int)) := by rw [cell_of_row _ _ _ _ _ _ ((hb1.block _ lg).trans hgs)]; rfl
  have lg1 : gs < W1.heap.size := Nat.lt_of_lt_of_le lg hb1.size
  clear hY h0 hown hgs hb1
  refine (callsIn_wide (n := 4)).1 ?_
  refine callsIn_of_wp Try.func55 rfl trivial ?_ rfl
  simp only [Try.ntmps55, List.size_toArray, List.length_cons, List.length_nil, Nat.reduceAdd, Nat.reduceSub, Array.replicate_succ, Array.replicate_zero, List.push_toArray, List.append_toArray, List.nil_append, List.cons_append]
  gi_wp2
  clear c0 lg1 lg
  gi_loopw [5] (fun iv wr => ∃ (r : Nat) (own2 : Nat → Prop), r ≤ sz ∧ iv = .int .i64 (r : Int) ∧ R own2 r wr ∧ ∀ j, own2 j → j < wr.heap.size) (fun iv _ => sz - natOf iv)
  case atStart => exact ⟨0, own, Nat.zero_le _, rfl, H0.out, HOw.out⟩
  case round =>
    obtain ⟨r, own2, hr, rfl, hR2, ho2⟩ := hrel
    by_cases hlt : r < sz
    · have q1 : (r : Int) < (sz : Int) := by omega
      have hy0 := yield_wide (m := 3) <| HY.out own2 r wr hlt hR2 ho2
      obtain ⟨fn, tmps, assign, body, hy, hRd⟩ := hy0
      have q2 : 8 * (r : Int) ≤ 64 := by omega
      have q3 : (0 : Int) ≤ (r : Int) := by omega
      have HO2 : Hid _ := ho2
      clear hR2 ho2
      gi_wp2
      refine RoundIn.mono (R := YPost R Rx own2 (r + 1) wr) hRd ?_
      rintro e W6 ⟨own6, ho6, hb6, (⟨rfl, hR6⟩ | ⟨rfl, hx6⟩)⟩
      · have HR6 : Hid (R own6 (r + 1) W6) := hR6
        have HO6 : Hid (∀ j, own6 j → j < W6.heap.size) := fun j hj => by
          rcases ho6 j hj with a | a
          · exact Nat.lt_of_lt_of_le (HO2.out j a) hb6.size
          · exact a.2
        clear hy hRd ho6 hb6 hR6
        gi_wp2
        go_roundw
        case rel => exact ⟨r + 1, own6, by omega, by go_num, HR6.out, HO6.out⟩
        case measure => simp [natOf]; omega
      · have HX : Hid (Rx own6 W6) := hx6
        clear hy hRd ho6 hb6 hx6
        gi_wp2
        refine bodyPost_ret (results_none rfl _ _ _) rfl ?_
        exact ⟨⟨_, rfl⟩, own6, .inr HX.out⟩
    · obtain rfl : r = sz := by omega
      have q1 : ¬ (r : Int) < (r : Int) := by omega
      have HR2 : Hid (R own2 r wr) := hR2
      clear hR2 ho2
      gi_wp2
      refine bodyPost_end (results_none rfl _ _ _) rfl ?_
      exact ⟨⟨_, rfl⟩, own2, .inl HR2.out⟩
end Go.Proofs.Ytljponlfjombaaa.Rw
