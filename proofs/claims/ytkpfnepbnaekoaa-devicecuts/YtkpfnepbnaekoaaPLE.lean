/- DeviceCuts: the walk. -/
import Derived.Test.YtkpfnepbnaekoaaPLD
namespace Go.Proofs.Ytkpfnepbnaekoaa.Rd
open Go.RowKit
/-- A device that is cut behind n operations, i of which were tried. -/
def Ct (s : St) (n i : Nat) : Prop := s.n = 4 ∧ s.cut = true ∧ s.left = ((n - i : Nat) : Int) ∧ s.ended = decide (n < i) ∧ (∀ p, s.bad p = false)
set_option maxRecDepth 100000 in
theorem Ct.start (s : St) (n : Nat) (h1 : s.n = 4) (h2 : s.ended = false) (h3 : ∀ p, s.bad p = false) : Ct (cutS s (n : Int)) n 0 := ⟨h1, by simp [cutS], by simp [cutS], by simp [cutS, h2], h3⟩
set_option maxRecDepth 100000 in
theorem Ct.write {s : St} {n i : Nat} (h : Ct s n i) (p : Nat) (hp : p < 4) (u : ByteArray) (hu : u.size = 256) : writeE s p u = (if i < n then 0 else 71) ∧ Ct (writeS s p u) n (i + 1) := by
  obtain ⟨h1, h2, h3, h4, h5⟩ := h
  have hf : fitS s p u = true := by simp [fitS, h1, hp, hu]
  have ho : opOk s = decide (i < n) := by
    unfold opOk
    rw [h2, h3, h4]
    by_cases hlt : i < n
    · have a : ¬ n < i := by omega
      have b : ¬ ((n - i : Nat) : Int) = 0 := by omega
      rw [decide_eq_false a, decide_eq_false b, decide_eq_true hlt]; rfl
    · have b : ((n - i : Nat) : Int) = 0 := by omega
      rw [decide_eq_true b, decide_eq_false hlt]; simp
  by_cases hlt : i < n
  · rw [decide_eq_true hlt] at ho
    refine ⟨by simp [writeE, hf, ho, hlt], ?_⟩
    unfold writeS opS
    rw [if_pos hf, if_pos ho, if_pos ho]
    refine ⟨h1, h2, ?_, ?_, h5⟩
    · simp only [h2, if_true, h3]; omega
    · simp only [h4]; rw [decide_eq_false (by omega), decide_eq_false (by omega)]
  · rw [decide_eq_false hlt] at ho
    refine ⟨by simp [writeE, hf, ho, hlt], ?_⟩
    unfold writeS opS
    rw [if_pos hf, ho]
    refine ⟨h1, h2, ?_, ?_, h5⟩
    · simp only [Bool.false_eq_true, if_false, h3]; omega
    · simp only [Bool.false_eq_true, if_false]; rw [decide_eq_true (by omega)]
set_option maxRecDepth 100000 in
theorem Ct.read {s : St} {n i : Nat} (h : Ct s n i) : readE s 0 = if n < i then 71 else 0 := by
  obtain ⟨h1, h2, h3, h4, h5⟩ := h
  unfold readE
  rw [if_pos (by omega), h4, h5]
  by_cases hlt : n < i <;> simp [hlt]
set_option maxRecDepth 100000 in
set_option maxHeartbeats 4000000 in
theorem cuts_walk (N : Int) (o : Option Addr) (n cap : Nat) (f : Nat → ByteArray) (hn : n ≤ maxLen) (w : World) (hs : Sl w o n f) :
    Calls Try.prog 8 #[.int .i64 N, .slice o n cap] w fun e w' => e = .returned (.bool true) ∧ Below w.heap.size w w' := by
  have hn2 : (n : Int) ≤ 9223372036854775807 := by simp only [maxLen] at hn; omega
  have HS : Hid _ := hs
  clear hs
  go_enter Try.func8, Try.ntmps8
  go_wp2_with fail
  refine (shown_any w).mono ?_
  rintro e w0 ⟨rfl, b0⟩
  have B0 : Hid _ := b0
  clear b0
  by_cases hneg : N < 0
  · go_wp2_with fail
    go_ret
    exact ⟨rfl, B0.out⟩
  · by_cases hbig : 30 < N
    · go_wp2_with fail
      go_ret
      exact ⟨rfl, B0.out⟩
    · obtain ⟨c, rfl⟩ := Int.eq_ofNat_of_zero_le (show 0 ≤ N by omega)
      have hc30 : c ≤ 30 := by omega
      go_wp2_with fail
      refine (new_any 4 (by omega) (by omega) w0).mono ?_
      rintro e w1 ⟨d, b, m, rfl, d1, hd, hb, hm, b1⟩
      have hs0 := B0.out.size
      have D1 : Hid _ := d1
      have B1 : Hid (Below w.heap.size w w1) := B0.out.trans (b1.mono hs0)
      have HV : Hid (∀ k, Dv d b m k → w.heap.size ≤ k) := fun k h => h.of_lt (by omega) (by omega) (by omega)
      clear d1 b1 hd hb hm hs0 B0
      go_wp2_with fail
      refine (cut_any d b m (newS 4) (c : Int) w1 D1.out).mono ?_
      rintro e w2 ⟨rfl, d2, b2⟩
      have D2 : Hid (Dev w2 d b m (cutS (newS 4) (c : Int))) := d2
      have B2 : Hid (Below w.heap.size w w2) := B1.out.trans (b2.below HV.out B1.out.size)
      have K0 : Hid (Ok (cutS (newS 4) (c : Int))) := cutS_ok (newS_ok 4 (by omega) (by omega)) _ (by omega) (by omega)
      have C0 : Hid (Ct (cutS (newS 4) (c : Int)) c 0) := Ct.start (newS 4) c rfl rfl (fun _ => rfl)
      clear d2 b2 D1 B1
      go_wp2_with fail
      go_loopw [8, 9] (fun dv iv wr => ∃ (k q : Nat) (s : St), iv = .int .i64 (k : Int) ∧ dv = .int .i64 (q : Int) ∧ q = min c k ∧ k ≤ n ∧ k ≤ 30 ∧ Dev wr d b m s ∧ Ok s ∧ Ct s c k ∧ Below w.heap.size w wr) (fun _ iv _ => 30 - natOf iv)
      case atStart => exact ⟨0, 0, _, rfl, rfl, by omega, by omega, by omega, D2.out, K0.out, C0.out, B2.out⟩
      case round =>
        obtain ⟨k, q, s, rfl, rfl, hq, hkn, hk5, hd, hk, hr, hb⟩ := hrel
        have HQ : Hid (q = min c k) := hq
        have hq30 : q ≤ 30 := by omega
        clear hq
        have HD : Hid (Dev wr d b m s) := hd
        have HK : Hid (Ok s) := hk
        have HR : Hid (Ct s c k) := hr
        have HB : Hid (Below w.heap.size w wr) := hb
        clear hd hk hr hb D2 K0 C0 B2
        by_cases hlt : k < n ∧ k < 30
        · obtain ⟨hk1, hk2⟩ := hlt
          have q1 : (k : Int) < (n : Int) := by omega
          have q2 : (k : Int) < 30 := by omega
          have q0 : (0 : Int) ≤ (k : Int) := by omega
          have hrem : IntKind.u32.wrap ((k : Int) % 4) = ((k % 4 : Nat) : Int) := by rw [IntWalk.u32_in _ (by omega)]; omega
          obtain ⟨fb, off, rfl, hfl, hfc⟩ := (Sl.below HS.out HB.out (Nat.le_refl _)) (by omega)
          have x1 := hfc k hk1
          generalize hfk : f k = u at *
          have HFK : Hid _ := hfk
          clear hfc hfk
          go_wp2_with fail
          refine (filled_any u wr).mono ?_
          rintro e w3 ⟨rfl, b3⟩
          have D3 : Hid (Dev w3 d b m s) := Dev.below HD.out b3 (Nat.le_refl _)
          have B3 : Hid (Below w.heap.size w w3) := HB.out.trans (b3.mono HB.out.size)
          have zu := fill_size u
          clear b3 x1
          generalize fillS u = y at *
          go_wp2_with fail
          have hr4 : (k : Int) % 4 = ((k % 4 : Nat) : Int) := by omega
          rw [hr4]
          have hk4 : k % 4 < 4 := by omega
          clear hr4 hrem
          generalize k % 4 = p4 at *
          refine (write_any d b m s p4 (by omega) y w3 D3.out HK.out).mono ?_
          rintro e w4 ⟨rfl, d4, b4⟩
          have hwr := Ct.write HR.out p4 hk4 y zu
          have D4 : Hid _ := d4
          have K4 : Hid _ := writeS_ok HK.out p4 y
          have C4 : Hid (Ct (writeS s p4 y) c (k + 1)) := hwr.2
          have B4 : Hid (Below w.heap.size w w4) := B3.out.trans (b4.below HV.out B3.out.size)
          rw [hwr.1]
          clear d4 b4 hwr D3 B3
          generalize writeS s p4 y = s4 at *
          by_cases hkc : k < c
          · rw [if_pos hkc]
            go_wp2_with fail
            go_roundw
            case rel => exact ⟨k + 1, q + 1, s4, by go_num, by go_num, by have := HQ.out; omega, by omega, by omega, D4.out, K4.out, C4.out, B4.out⟩
            case measure => simp [natOf]; omega
          · rw [if_neg hkc]
            go_wp2_with fail
            go_roundw
            case rel => exact ⟨k + 1, q, s4, by go_num, rfl, by have := HQ.out; omega, by omega, by omega, D4.out, K4.out, C4.out, B4.out⟩
            case measure => simp [natOf]; omega
        · have hmin : min (n : Int) 30 = (k : Int) := by omega
          have hmin2 : min (c : Int) (k : Int) = (q : Int) := by have := HQ.out; omega
          have hrd := Ct.read HR.out
          have HRD : Hid _ := hrd
          clear hrd HS
          by_cases hk1 : k < n
          · have q1 : (k : Int) < (n : Int) := by omega
            have q2 : ¬ (k : Int) < 30 := by omega
            clear hlt
            go_wp2_with fail
            refine (read_any d b m s 0 (by omega) wr HD.out HK.out).mono ?_
            rintro e w3 ⟨rfl, b3⟩
            have B3 : Hid (Below w.heap.size w w3) := HB.out.trans (b3.mono HB.out.size)
            rw [HRD.out]
            clear b3
            generalize readV s 0 = v at *
            by_cases hck : c < k
            · rw [if_pos hck]
              have q3 : (c : Int) < (k : Int) := by omega
              go_wp2_with fail
              go_ret
              exact ⟨rfl, B3.out⟩
            · rw [if_neg hck]
              have q3 : ¬ (c : Int) < (k : Int) := by omega
              go_wp2_with fail
              go_ret
              exact ⟨rfl, B3.out⟩
          · have q1 : ¬ (k : Int) < (n : Int) := by omega
            clear hlt
            go_wp2_with fail
            refine (read_any d b m s 0 (by omega) wr HD.out HK.out).mono ?_
            rintro e w3 ⟨rfl, b3⟩
            have B3 : Hid (Below w.heap.size w w3) := HB.out.trans (b3.mono HB.out.size)
            rw [HRD.out]
            clear b3
            generalize readV s 0 = v at *
            by_cases hck : c < k
            · rw [if_pos hck]
              have q3 : (c : Int) < (k : Int) := by omega
              go_wp2_with fail
              go_ret
              exact ⟨rfl, B3.out⟩
            · rw [if_neg hck]
              have q3 : ¬ (c : Int) < (k : Int) := by omega
              go_wp2_with fail
              go_ret
              exact ⟨rfl, B3.out⟩
end Go.Proofs.Ytkpfnepbnaekoaa.Rd
