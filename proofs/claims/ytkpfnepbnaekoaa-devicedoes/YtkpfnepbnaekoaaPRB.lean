/- The document's own device: calls without a loop. -/
import Derived.Test.YtkpfnepbnaekoaaPRA
namespace Go.Proofs.Ytkpfnepbnaekoaa.Rd
open Go.RowKit
set_option maxRecDepth 100000 in
set_option maxHeartbeats 1000000 in
theorem rcut_any (r : Nat) (x : Rp) (s : St) (n : Int) (hn0 : -9223372036854775808 ≤ n) (hn1 : n ≤ 9223372036854775807) (w : World) (h : Rf w r x s) :
    Calls Try.prog 36 #[pt r, .int .i64 n] w fun e w' => e = .returned (.tuple #[]) ∧ Rf w' r x (cutS s n) ∧ But (Rv r x) w w' := by
  obtain ⟨c6, z6⟩ := h.c6
  have HD : Hid (Rf w r x s) := h
  clear h
  obtain ⟨mx, hmx⟩ : ∃ mx, max n (-1) = mx := ⟨_, rfl⟩
  have HM : Hid (mx = lft (cutS s n)) := by
    refine (?_ : mx = lft (cutS s n))
    unfold lft cutS
    by_cases h0 : 0 ≤ n
    · simp [h0]; omega
    · simp [h0]; omega
  go_enter Try.func36, Try.ntmps36
  go_wp2_with fail
  refine bodyPost_end (results_none rfl _ _ _) rfl ?_
  have := HD.out.setSelf 6 (.int .i64 (lft (cutS s n))) (cutS s n) rfl rfl rfl rfl rfl
  rw [← HM.out] at this
  exact ⟨rfl, this.1, this.2⟩
set_option maxRecDepth 100000 in
set_option maxHeartbeats 1000000 in
theorem rread_any (r : Nat) (x : Rp) (s : St) (p : Nat) (hp' : p ≤ 4294967295) (w : World) (h : Rf w r x s) (hk : Ok s) :
    Calls Try.prog 40 #[pt r, .int .u32 (p : Int)] w fun e w' => e = .returned (.tuple #[.string (readV s p), .int .i64 (readE s p)]) ∧ w' = w := by
  have HD : Hid (Rf w r x s) := h
  have HK : Hid (Ok s) := hk
  obtain ⟨c7, z7⟩ := h.c7
  obtain ⟨c2, z2⟩ := h.c2
  have hr := h.rb
  clear h hk
  go_enter Try.func40, Try.ntmps40
  go_wp2_with fail
  refine (ris_any r x s p hp' w HD.out HK.out).mono ?_
  rintro e w1 ⟨rfl, rfl⟩
  by_cases hp : p < s.n
  · rw [decide_eq_true hp]
    obtain ⟨e2, y2⟩ := hr.cell p hp
    have q1 : (p : Int) < (s.n : Int) := by omega
    have q0 : (0 : Int) ≤ (p : Int) := by omega
    clear hr
    cases he : s.ended
    · cases hb : s.bad p
      · have HE : Hid (readE s p = 0) := by refine (?_ : readE s p = 0); simp [readE, hp, he, hb]
        rw [he] at c7; rw [hb] at e2
        clear he hb
        go_wp2_with fail
        refine (rholds_any r x s p hp w1 HD.out HK.out).mono ?_
        rintro e w2 ⟨rfl, rfl⟩
        go_wp2_with fail
        go_ret2
        exact ⟨by rw [HE.out, readV, if_pos HE.out]; rfl, rfl⟩
      · have HE : Hid (readE s p = 70) := by refine (?_ : readE s p = 70); simp [readE, hp, he, hb]
        rw [he] at c7; rw [hb] at e2
        clear he hb
        go_wp2_with fail
        go_ret2
        exact ⟨by rw [readV, HE.out]; rfl, rfl⟩
    · have HE : Hid (readE s p = 71) := by refine (?_ : readE s p = 71); simp [readE, hp, he]
      rw [he] at c7
      clear he
      go_wp2_with fail
      go_ret2
      exact ⟨by rw [readV, HE.out]; rfl, rfl⟩
  · rw [decide_eq_false hp]
    have HE : Hid (readE s p = 2) := by refine (?_ : readE s p = 2); simp [readE, hp]
    clear hr
    go_wp2_with fail
    go_ret2
    exact ⟨by rw [readV, HE.out]; rfl, rfl⟩
set_option maxRecDepth 100000 in
set_option maxHeartbeats 1000000 in
theorem rwrite_any (r : Nat) (x : Rp) (s : St) (p : Nat) (hp' : p ≤ 4294967295) (t : ByteArray) (w : World) (h : Rf w r x s) (hk : Ok s) :
    Calls Try.prog 32 #[pt r, .int .u32 (p : Int), .string t] w fun e w' => e = .returned (.int .i64 (writeE s p t)) ∧ Rf w' r x (writeS s p t) ∧ But (Rv r x) w w' := by
  have HD : Hid (Rf w r x s) := h
  have HK : Hid (Ok s) := hk
  clear h hk
  go_enter Try.func32, Try.ntmps32
  go_wp2_with fail
  refine (ris_any r x s p hp' w HD.out HK.out).mono ?_
  rintro e w1 ⟨rfl, rfl⟩
  by_cases hp : p < s.n
  · rw [decide_eq_true hp]
    by_cases ht : t.size = 256
    · have HF : Hid (fitS s p t = true) := by refine (?_ : fitS s p t = true); simp [fitS, hp, ht]
      have q3 : ((t.size : Int) == 256) = true := by simp [ht]
      go_wp2_with fail
      refine (rop_any r x s w1 HD.out HK.out).mono ?_
      rintro e w2 ⟨rfl, d2, b2⟩
      have D2 : Hid _ := d2
      have B2 : Hid _ := b2
      have hn2 := (opS_tx s).2.2.2.1
      cases ho : opOk s
      · have HE : Hid (writeE s p t = 71 ∧ writeS s p t = opS s) := by refine (?_ : writeE s p t = 71 ∧ writeS s p t = opS s); simp [writeE, writeS, HF.out, ho]
        have hoe : opE s = 71 := by simp [opE, ho]
        rw [hoe]
        clear d2 b2 ho hn2
        go_wp2_with fail
        go_ret
        exact ⟨by rw [HE.out.1]; rfl, by rw [HE.out.2]; exact D2.out, B2.out⟩
      · have HE : Hid (writeE s p t = 0 ∧ writeS s p t = { opS s with pd := put s.pd p (some t) }) := by refine (?_ : writeE s p t = 0 ∧ writeS s p t = { opS s with pd := put s.pd p (some t) }); simp [writeE, writeS, HF.out, ho]
        have hoe : opE s = 0 := by simp [opE, ho]
        rw [hoe]
        obtain ⟨c1, z1⟩ := d2.c1
        obtain ⟨e1, y1⟩ := d2.rp.cell p (by rw [hn2]; exact hp)
        have q1 : (p : Int) < ((opS s).n : Int) := by rw [hn2]; omega
        have q0 : (0 : Int) ≤ (p : Int) := by omega
        have HW : Hid _ := d2.setP p (by rw [hn2]; exact hp) t
        have HPD : Hid ((opS s).pd = s.pd) := (opS_tx s).2.2.1
        clear d2 b2 ho hn2
        go_wp2_with fail
        go_ret
        refine ⟨by rw [HE.out.1]; rfl, ?_, B2.out.trans HW.out.2⟩
        rw [HE.out.2, ← HPD.out]
        exact HW.out.1
    · have HE : Hid (writeE s p t = 2 ∧ writeS s p t = s) := by refine (?_ : writeE s p t = 2 ∧ writeS s p t = s); simp [writeE, writeS, fitS, ht]
      have q3 : ((t.size : Int) == 256) = false := by simp; omega
      go_wp2_with fail
      go_ret
      exact ⟨by rw [HE.out.1]; rfl, by rw [HE.out.2]; exact HD.out, But.refl _ _⟩
  · rw [decide_eq_false hp]
    have HE : Hid (writeE s p t = 2 ∧ writeS s p t = s) := by refine (?_ : writeE s p t = 2 ∧ writeS s p t = s); simp [writeE, writeS, fitS, hp]
    go_wp2_with fail
    go_ret
    exact ⟨by rw [HE.out.1]; rfl, by rw [HE.out.2]; exact HD.out, But.refl _ _⟩
set_option maxRecDepth 100000 in
set_option maxHeartbeats 1000000 in
theorem rput_any (r : Nat) (x : Rp) (s : St) (p : Nat) (hp' : p ≤ 4294967295) (t : ByteArray) (w : World) (h : Rf w r x s) (hk : Ok s) :
    Calls Try.prog 38 #[pt r, .int .u32 (p : Int), .string t] w fun e w' => e = .returned (.int .i64 (putE s p t)) ∧ Rf w' r x (putS s p t) ∧ But (Rv r x) w w' := by
  have HD : Hid (Rf w r x s) := h
  have HK : Hid (Ok s) := hk
  clear h hk
  go_enter Try.func38, Try.ntmps38
  go_wp2_with fail
  refine (ris_any r x s p hp' w HD.out HK.out).mono ?_
  rintro e w1 ⟨rfl, rfl⟩
  by_cases hp : p < s.n
  · rw [decide_eq_true hp]
    by_cases ht : t.size = 256
    · have q3 : ((t.size : Int) == 256) = true := by simp [ht]
      have HE : Hid (putE s p t = 0 ∧ putS s p t = { s with tx := at' s.tx p t, pd := put s.pd p none }) := by refine (?_ : putE s p t = 0 ∧ putS s p t = { s with tx := at' s.tx p t, pd := put s.pd p none }); simp [putE, putS, fitS, hp, ht]
      have q1 : (p : Int) < (s.n : Int) := by omega
      have q0 : (0 : Int) ≤ (p : Int) := by omega
      obtain ⟨c0, z0⟩ := HD.out.c0
      obtain ⟨c1, z1⟩ := HD.out.c1
      obtain ⟨e0, y0⟩ := HD.out.rl.cell p hp
      obtain ⟨e1, y1⟩ := HD.out.rp.cell p hp
      have hxx := HD.out.n4
      have hx1 := HD.out.n1
      have hx2 := HD.out.n2
      have H1 : Hid _ := HD.out.setL p hp t
      have H2 : Hid _ := H1.out.1.dropP p hp
      go_wp2_with fail
      go_ret
      exact ⟨by rw [HE.out.1]; rfl, by rw [HE.out.2]; exact H2.out.1, H1.out.2.trans H2.out.2⟩
    · have HE : Hid (putE s p t = 2 ∧ putS s p t = s) := by refine (?_ : putE s p t = 2 ∧ putS s p t = s); simp [putE, putS, fitS, ht]
      have q3 : ((t.size : Int) == 256) = false := by simp; omega
      go_wp2_with fail
      go_ret
      exact ⟨by rw [HE.out.1]; rfl, by rw [HE.out.2]; exact HD.out, But.refl _ _⟩
  · rw [decide_eq_false hp]
    have HE : Hid (putE s p t = 2 ∧ putS s p t = s) := by refine (?_ : putE s p t = 2 ∧ putS s p t = s); simp [putE, putS, fitS, hp]
    go_wp2_with fail
    go_ret
    exact ⟨by rw [HE.out.1]; rfl, by rw [HE.out.2]; exact HD.out, But.refl _ _⟩
set_option maxRecDepth 100000 in
set_option maxHeartbeats 1000000 in
theorem rbad_any (r : Nat) (x : Rp) (s : St) (p : Nat) (hp' : p ≤ 4294967295) (t : Bool) (w : World) (h : Rf w r x s) (hk : Ok s) :
    Calls Try.prog 39 #[pt r, .int .u32 (p : Int), .bool t] w fun e w' => e = .returned (.int .i64 (badE s p)) ∧ Rf w' r x (badS s p t) ∧ But (Rv r x) w w' := by
  have HD : Hid (Rf w r x s) := h
  have HK : Hid (Ok s) := hk
  clear h hk
  go_enter Try.func39, Try.ntmps39
  go_wp2_with fail
  refine (ris_any r x s p hp' w HD.out HK.out).mono ?_
  rintro e w1 ⟨rfl, rfl⟩
  by_cases hp : p < s.n
  · rw [decide_eq_true hp]
    have HE : Hid (badE s p = 0 ∧ badS s p t = { s with bad := at' s.bad p t }) := by refine (?_ : badE s p = 0 ∧ badS s p t = { s with bad := at' s.bad p t }); simp [badE, badS, hp]
    have q1 : (p : Int) < (s.n : Int) := by omega
    have q0 : (0 : Int) ≤ (p : Int) := by omega
    obtain ⟨c2, z2⟩ := HD.out.c2
    obtain ⟨e0, y0⟩ := HD.out.rb.cell p hp
    have H1 : Hid _ := HD.out.setB p hp t
    go_wp2_with fail
    go_ret
    exact ⟨by rw [HE.out.1]; rfl, by rw [HE.out.2]; exact H1.out.1, H1.out.2⟩
  · rw [decide_eq_false hp]
    have HE : Hid (badE s p = 2 ∧ badS s p t = s) := by refine (?_ : badE s p = 2 ∧ badS s p t = s); simp [badE, badS, hp]
    go_wp2_with fail
    go_ret
    exact ⟨by rw [HE.out.1]; rfl, by rw [HE.out.2]; exact HD.out, But.refl _ _⟩
set_option maxRecDepth 100000 in
set_option maxHeartbeats 1000000 in
theorem radvance_any (r : Nat) (x : Rp) (s : St) (t : ByteArray) (w : World) (h : Rf w r x s) (hk : Ok s) :
    Calls Try.prog 34 #[pt r, .string t] w fun e w' => e = .returned (.int .i64 (advE s t)) ∧ Rf w' r x (advS s t) ∧ But (Rv r x) w w' := by
  have HD : Hid (Rf w r x s) := h
  have HK : Hid (Ok s) := hk
  obtain ⟨c3, z3⟩ := h.c3
  have k0 := hk.c0
  have k1 := hk.c1
  clear h hk
  go_enter Try.func34, Try.ntmps34
  by_cases ht : t.size = 32
  · have q3 : ((t.size : Int) == 32) = true := by simp [ht]
    by_cases hc : s.cnt = 18446744073709551615
    · have HE : Hid (advE s t = 72 ∧ advS s t = s) := by refine (?_ : advE s t = 72 ∧ advS s t = s); simp [advE, advS, ht, hc]
      rw [hc] at c3
      clear hc k0 k1
      go_wp2_with fail
      go_ret
      exact ⟨by rw [HE.out.1]; rfl, by rw [HE.out.2]; exact HD.out, But.refl _ _⟩
    · have q1 : (s.cnt == 18446744073709551615) = false := by simpa using hc
      have HC : Hid (s.cnt ≠ 18446744073709551615) := hc
      have HT : Hid (t.size = 32) := ht
      have HX : Hid ((s.cnt + 1) ≤ 18446744073709551615) := by refine (?_ : (s.cnt + 1) ≤ 18446744073709551615); omega
      have HX0 : Hid (0 ≤ s.cnt) := k0
      go_wp2_with fail
      refine (rop_any r x s w HD.out HK.out).mono ?_
      rintro e w2 ⟨rfl, d2, b2⟩
      have D2 : Hid _ := d2
      have B2 : Hid _ := b2
      cases ho : opOk s
      · have HE : Hid (advE s t = 71 ∧ advS s t = opS s) := by refine (?_ : advE s t = 71 ∧ advS s t = opS s); simp [advE, advS, ho, HC.out, HT.out]
        have hoe : opE s = 71 := by simp [opE, ho]
        rw [hoe]
        clear d2 b2 ho
        go_wp2_with fail
        go_ret
        exact ⟨by rw [HE.out.1]; rfl, by rw [HE.out.2]; exact D2.out, B2.out⟩
      · have HE : Hid (advE s t = 0 ∧ advS s t = { opS s with cnt := s.cnt + 1, tag := t }) := by refine (?_ : advE s t = 0 ∧ advS s t = { opS s with cnt := s.cnt + 1, tag := t }); simp [advE, advS, ho, HC.out, HT.out]
        have hoe : opE s = 0 := by simp [opE, ho]
        rw [hoe]
        obtain ⟨x3, y3⟩ := d2.c3
        obtain ⟨x4, y4⟩ := d2.c4
        rw [(opS_tx s).2.2.2.2.1] at x3
        clear d2 b2 ho c3 z3
        generalize hcn : s.cnt = cn at *
        have HCN : Hid (s.cnt = cn) := hcn
        clear hcn
        have hx0 := HX0.out
        have hx1 := HX.out
        have hwr : IntKind.u64.wrap (cn + 1) = cn + 1 := IntWalk.u64_in _ (by omega)
        go_wp2_with fail
        go_ret
        have g1 := D2.out.setSelf 3 (.int .u64 (cn + 1)) { opS s with cnt := cn + 1 } rfl rfl rfl rfl rfl
        have g2 := g1.1.setSelf 4 (.string t) { opS s with cnt := cn + 1, tag := t } rfl rfl rfl rfl rfl
        exact ⟨by rw [HE.out.1]; rfl, by rw [HE.out.2]; exact g2.1, B2.out.trans (g1.2.trans g2.2)⟩
  · have HE : Hid (advE s t = 2 ∧ advS s t = s) := by refine (?_ : advE s t = 2 ∧ advS s t = s); simp [advE, advS, ht]
    have q3 : ((t.size : Int) == 32) = false := by simp; omega
    go_wp2_with fail
    go_ret
    exact ⟨by rw [HE.out.1]; rfl, by rw [HE.out.2]; exact HD.out, But.refl _ _⟩
set_option maxRecDepth 100000 in
set_option maxHeartbeats 1000000 in
theorem rstart_any (r : Nat) (x : Rp) (s : St) (w : World) (h : Rf w r x s) (hk : Ok s) :
    Calls Try.prog 35 #[pt r] w fun e w' => e = .returned (.tuple #[.int .u32 (startV s), .int .i64 (startE s)]) ∧ Rf w' r x (startS s) ∧ But (Rv r x) w w' := by
  have HD : Hid (Rf w r x s) := h
  have HK : Hid (Ok s) := hk
  obtain ⟨c5, z5⟩ := h.c5
  have k0 := hk.b0
  have k1 := hk.b1
  clear h hk
  go_enter Try.func35, Try.ntmps35
  by_cases hc : s.boots = 4294967295
  · have HE : Hid (startE s = 72 ∧ startV s = 0 ∧ startS s = s) := by refine (?_ : startE s = 72 ∧ startV s = 0 ∧ startS s = s); simp [startE, startV, startS, hc]
    rw [hc] at c5
    clear hc k0 k1
    go_wp2_with fail
    go_ret2
    exact ⟨by rw [HE.out.1, HE.out.2.1]; rfl, by rw [HE.out.2.2]; exact HD.out, But.refl _ _⟩
  · have q1 : (s.boots == 4294967295) = false := by simpa using hc
    have HC : Hid (s.boots ≠ 4294967295) := hc
    have HX : Hid (0 ≤ s.boots ∧ (s.boots + 1) ≤ 4294967295) := by refine (?_ : 0 ≤ s.boots ∧ (s.boots + 1) ≤ 4294967295); omega
    go_wp2_with fail
    refine (rop_any r x s w HD.out HK.out).mono ?_
    rintro e w2 ⟨rfl, d2, b2⟩
    have D2 : Hid _ := d2
    have B2 : Hid _ := b2
    cases ho : opOk s
    · have HE : Hid (startE s = 71 ∧ startV s = 0 ∧ startS s = opS s) := by refine (?_ : startE s = 71 ∧ startV s = 0 ∧ startS s = opS s); simp [startE, startV, startS, ho, HC.out]
      have hoe : opE s = 71 := by simp [opE, ho]
      rw [hoe]
      clear d2 b2 ho
      go_wp2_with fail
      go_ret2
      exact ⟨by rw [HE.out.1, HE.out.2.1]; rfl, by rw [HE.out.2.2]; exact D2.out, B2.out⟩
    · have HE : Hid (startE s = 0 ∧ startV s = s.boots + 1 ∧ startS s = { opS s with boots := s.boots + 1 }) := by refine (?_ : startE s = 0 ∧ startV s = s.boots + 1 ∧ startS s = { opS s with boots := s.boots + 1 }); simp [startE, startV, startS, ho, HC.out]
      have hoe : opE s = 0 := by simp [opE, ho]
      rw [hoe]
      obtain ⟨x5, y5⟩ := d2.c5
      rw [(opS_tx s).2.2.2.2.2.2] at x5
      obtain ⟨hx0, hx⟩ := HX.out
      clear d2 b2 ho c5 z5
      generalize hcn : s.boots = cn at *
      have HCN : Hid (s.boots = cn) := hcn
      clear hcn
      have hwr : IntKind.u32.wrap (cn + 1) = cn + 1 := IntWalk.u32_in _ (by omega)
      go_wp2_with fail
      go_ret2
      have g1 := D2.out.setSelf 5 (.int .u32 (cn + 1)) { opS s with boots := cn + 1 } rfl rfl rfl rfl rfl
      exact ⟨by rw [HE.out.1, HE.out.2.1]; rfl, by rw [HE.out.2.2]; exact g1.1, B2.out.trans g1.2⟩
end Go.Proofs.Ytkpfnepbnaekoaa.Rd
