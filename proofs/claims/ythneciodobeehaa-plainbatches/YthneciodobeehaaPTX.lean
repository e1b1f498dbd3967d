/- The reference's Batch. -/
import Derived.Test.YthneciodobeehaaPTU
import Derived.Test.YthneciodobeehaaPTN
namespace Go.Proofs.Ythneciodobeehaa.Rp
open Go.RowKit Go.Lib Go.Shelf
open Go.Proofs.Ythneciodobeehaa.Rc Go.Proofs.Ythneciodobeehaa.Rq
set_option maxRecDepth 100000 in
set_option maxHeartbeats 2000000 in
theorem hbatch_no (o : Option Addr) (cap : Nat) (l : List Rw) (sv : Value) (w : World) (hr : RowsAt w o cap l) (h : rightL l = false) :
    Calls Try.prog 19 #[.slice o l.length cap, sv] w fun e w' => e = .returned (.tuple #[.slice none 0 0, .int .i64 0, .int .i64 80]) ∧ Below w.heap.size w w' := by
  have HC : Hid (∀ _ : True, _) := fun _ => eright_any l o cap w hr
  rw [h] at HC
  clear hr h
  go_enter Try.func19, Try.ntmps19
  go_wp2_with fail
  refine Calls.mono (HC.out trivial) ?_
  rintro e w1 ⟨rfl, b1⟩
  have HB1 : Hid (Below w.heap.size w w1) := b1
  clear b1 HC
  go_wp2_with fail
  go_ret3
  exact ⟨rfl, HB1.out⟩
set_option maxRecDepth 100000 in
set_option maxHeartbeats 2000000 in
theorem hbatch_size (o : Option Addr) (cap : Nat) (l : List Rw) (oo : Option Addr) (n ccap : Nat) (w : World) (hr : RowsAt w o cap l) (h : rightL l = true) (hn : n < 1 ∨ 64 < n) :
    Calls Try.prog 19 #[.slice o l.length cap, .slice oo n ccap] w fun e w' => e = .returned (.tuple #[.slice none 0 0, .int .i64 0, .int .i64 101]) ∧ Below w.heap.size w w' := by
  have HC : Hid (∀ _ : True, _) := fun _ => eright_any l o cap w hr
  rw [h] at HC
  clear hr h
  rcases hn with hn | hn
  · have q1 : (n : Int) < 1 := by omega
    have q2 : decide ((n : Int) < 1) = true := by simp; omega
    clear hn
    go_enter Try.func19, Try.ntmps19
    go_wp2_with fail
    refine Calls.mono (HC.out trivial) ?_
    rintro e w1 ⟨rfl, b1⟩
    have HB1 : Hid (Below w.heap.size w w1) := b1
    clear b1 HC
    go_wp2_with fail
    go_ret3
    exact ⟨rfl, HB1.out⟩
  · have q2 : decide ((n : Int) < 1) = false := by simp; omega
    have q3 : decide ((64 : Int) < (n : Int)) = true := by simp; omega
    clear hn
    go_enter Try.func19, Try.ntmps19
    go_wp2_with fail
    refine Calls.mono (HC.out trivial) ?_
    rintro e w1 ⟨rfl, b1⟩
    have HB1 : Hid (Below w.heap.size w w1) := b1
    clear b1 HC
    go_wp2_with fail
    go_ret3
    exact ⟨rfl, HB1.out⟩
set_option maxRecDepth 100000 in
set_option maxHeartbeats 4000000 in
theorem hbatch_ok (o : Option Addr) (cap : Nat) (l : List Rw) (oo : Option Addr) (ccap : Nat) (cs : List Ch) (w : World) (hr : RowsAt w o cap l) (hc : OpsAt w oo ccap cs) (h : rightL l = true) (hn : ¬ (cs.length < 1 ∨ 64 < cs.length)) :
    Calls Try.prog 19 #[.slice o l.length cap, .slice oo cs.length ccap] w (BP (match fb l cs cs.length with | some _ => [] | none => stL l cs cs.length) (match fb l cs cs.length with | some i => i | none => 0) (match fb l cs cs.length with | some i => stE l cs i | none => 0) w) := by
  have HC : Hid (∀ _ : True, _) := fun _ => eright_any l o cap w hr
  rw [h] at HC
  have q2 : decide ((cs.length : Int) < 1) = false := by simp; omega
  have q3 : decide ((64 : Int) < (cs.length : Int)) = false := by simp; omega
  obtain ⟨m1, hm1⟩ : ∃ m1, (match fb l cs cs.length with | some _ => [] | none => stL l cs cs.length) = m1 := ⟨_, rfl⟩
  obtain ⟨m2, hm2⟩ : ∃ m2, (match fb l cs cs.length with | some i => i | none => 0) = m2 := ⟨_, rfl⟩
  obtain ⟨m3, hm3⟩ : ∃ m3, (match fb l cs cs.length with | some i => stE l cs i | none => 0) = m3 := ⟨_, rfl⟩
  rw [hm1, hm2, hm3]
  have HM1 : Hid ((match fb l cs cs.length with | some _ => [] | none => stL l cs cs.length) = m1) := hm1
  have HM2 : Hid ((match fb l cs cs.length with | some i => i | none => 0) = m2) := hm2
  have HM3 : Hid ((match fb l cs cs.length with | some i => stE l cs i | none => 0) = m3) := hm3
  have HR : Hid (RowsAt w o cap l) := hr
  have HO : Hid (OpsAt w oo ccap cs) := hc
  have HN : Hid (cs.length ≤ 64) := by refine (?_ : cs.length ≤ 64); omega
  clear hr hc h hn hm1 hm2 hm3
  go_enter Try.func19, Try.ntmps19
  go_wp2_with fail
  refine Calls.mono (HC.out trivial) ?_
  rintro e w1 ⟨rfl, b1⟩
  have HB1 : Hid (Below w.heap.size w w1) := b1
  have HR1 : Hid (RowsAt w1 o cap l) := HR.out.below b1 (Nat.le_refl _)
  have HO1 : Hid (OpsAt w1 oo ccap cs) := Sl.below HO.out b1 (Nat.le_refl _)
  clear b1 HC HR HO
  go_wp2_with fail
  go_loopw [0, 8] (fun lv iv wr => ∃ k : Nat, k ≤ cs.length ∧ iv = .int .i64 (k : Int) ∧ (∃ o' cap', lv = .slice o' (stL l cs k).length cap' ∧ RowsAt wr o' cap' (stL l cs k)) ∧ (∀ j, j < k → stE l cs j = 0) ∧ Below w1.heap.size w1 wr) (fun _ iv _ => cs.length - natOf iv)
  case atStart => exact ⟨0, by omega, rfl, ⟨o, cap, rfl, HR1.out⟩, fun j hj => absurd hj (by omega), Below.refl _ _⟩
  case round =>
    obtain ⟨k, hk, rfl, ⟨ol, cl, rfl, hrk⟩, hj, hbk⟩ := hrel
    have HJ : Hid (∀ j, j < k → stE l cs j = 0) := hj
    have HBk : Hid (Below w1.heap.size w1 wr) := hbk
    have HBw : Hid (Below w.heap.size w wr) := HB1.out.trans (hbk.mono HB1.out.size)
    have HRk : Hid (RowsAt wr ol cl (stL l cs k)) := hrk
    have hn1 : stL l cs (k + 1) = apL (stL l cs k) (cat cs k) := rfl
    have hn2 : stE l cs k = apE (stL l cs k) (cat cs k) := rfl
    by_cases hlt : k < cs.length
    · obtain ⟨b, off, rfl, hbl, hf⟩ := OpsAt.op (Sl.below HO1.out hbk (Nat.le_refl _) : OpsAt wr oo ccap cs) hlt
      have HA : Hid (∀ _ : True, _) := fun _ => happly_any ol cl (stL l cs k) (cat cs k) wr hrk
      have q1 : (k : Int) < (cs.length : Int) := by omega
      have k0 : (0 : Int) ≤ (k : Int) := by omega
      have k1 : (k : Int) + 1 ≤ 9223372036854775807 := by have := HN.out; omega
      rw [← hn1, ← hn2] at HA
      generalize cat cs k = c at *
      obtain ⟨ck, cid, cx, cy, cv⟩ := c
      obtain ⟨f0, f1, f2, f3, f4⟩ := hf
      simp only at f0 f1 f2 f3 f4
      simp only [ov] at HA
      obtain ⟨E, hE⟩ : ∃ E, stE l cs k = E := ⟨_, rfl⟩
      rw [hE] at HA
      have HE : Hid (stE l cs k = E) := hE
      clear hj hbk hrk hn1 hn2 hE HRk
      obtain ⟨nl, hnl⟩ : ∃ nl, (stL l cs k).length = nl := ⟨_, rfl⟩
      rw [hnl] at HA ⊢
      clear hnl
      obtain ⟨L', hL'⟩ : ∃ L', stL l cs (k + 1) = L' := ⟨_, rfl⟩
      rw [hL'] at HA
      have HL : Hid (stL l cs (k + 1) = L') := hL'
      clear hL'
      go_wp2_with fail
      refine Calls.mono (HA.out trivial) ?_
      rintro e w2 ⟨o2, cap2, rfl, hr2, b2, -⟩
      have HB2 : Hid (Below w1.heap.size w1 w2) := HBk.out.trans (b2.mono HBk.out.size)
      have HBf : Hid (Below w.heap.size w w2) := HBw.out.trans (b2.mono HBw.out.size)
      have HR2 : Hid (RowsAt w2 o2 cap2 L') := hr2
      clear b2 hr2 HA HBk HBw f0 f1 f2 f3 f4
      by_cases h0 : E = 0
      · subst h0
        go_wp2_with fail
        go_roundw
        case rel =>
          refine ⟨k + 1, by omega, by go_num, ⟨o2, cap2, by rw [HL.out], by rw [HL.out]; exact HR2.out⟩, ?_, HB2.out⟩
          intro j hj
          by_cases e : j = k
          · subst e; exact HE.out
          · exact HJ.out j (by omega)
        case measure => simp [natOf]; omega
      · have g1 : (E == 0) = false := by simp [h0]
        have g2 : (E != 0) = true := by simp [h0]
        have HF : Hid (fb l cs cs.length = some k) := fb_some hlt (by rw [HE.out]; exact h0) HJ.out
        go_wp2_with fail
        go_ret3
        have e1 := HM1.out
        have e2 := HM2.out
        have e3 := HM3.out
        rw [HF.out] at e1 e2 e3
        simp only at e1 e2 e3
        subst e1 e2
        rw [HE.out] at e3
        subst e3
        exact ⟨none, 0, rfl, Sl.nil 4 _, HBf.out⟩
    · obtain rfl : k = cs.length := by omega
      have q1 : ¬ (cs.length : Int) < (cs.length : Int) := by omega
      have HF : Hid (fb l cs cs.length = none) := fb_none HJ.out
      obtain ⟨L', hL'⟩ : ∃ L', stL l cs cs.length = L' := ⟨_, rfl⟩
      rw [hL'] at HRk HM1 ⊢
      clear hj hbk hrk hn1 hn2 HBk HJ hL'
      go_wp2_with fail
      go_ret3
      have e1 := HM1.out
      have e2 := HM2.out
      have e3 := HM3.out
      rw [HF.out] at e1 e2 e3
      simp only at e1 e2 e3
      subst e1 e2 e3
      exact ⟨ol, cl, rfl, HRk.out, HBw.out⟩
set_option maxRecDepth 100000 in
theorem hbatch_any (o : Option Addr) (cap : Nat) (l : List Rw) (oo : Option Addr) (ccap : Nat) (cs : List Ch) (w : World) (hr : RowsAt w o cap l) (hc : OpsAt w oo ccap cs) :
    Calls Try.prog 19 #[.slice o l.length cap, .slice oo cs.length ccap] w (BP (btL l cs) (btA l cs) (btE l cs) w) := by
  cases h : rightL l with
  | false =>
    refine (hbatch_no o cap l _ w hr h).mono ?_
    rintro e w' ⟨he, hb⟩
    simp only [btL, btA, btE, h, Bool.false_eq_true, if_false]
    exact ⟨none, 0, he, Sl.nil 4 _, hb⟩
  | true =>
    by_cases hn : cs.length < 1 ∨ 64 < cs.length
    · refine (hbatch_size o cap l oo _ ccap w hr h hn).mono ?_
      rintro e w' ⟨he, hb⟩
      simp only [btL, btA, btE, h, if_true, if_pos hn]
      exact ⟨none, 0, he, Sl.nil 4 _, hb⟩
    · have := hbatch_ok o cap l oo ccap cs w hr hc h hn
      simp only [btL, btA, btE, h, if_true, if_neg hn]
      exact this
#print axioms hbatch_any
end Go.Proofs.Ythneciodobeehaa.Rp
