/- DeviceBad, DeviceNone, DeviceParts: the walks. -/
import Derived.Test.YtkpfnepbnaekoaaPDS
namespace Go.Proofs.Ytkpfnepbnaekoaa.Rd
open Go.RowKit
set_option maxRecDepth 100000 in
theorem bad_facts (p : Nat) (t : ByteArray) (ht : t.size = 256) :
    (p < 4 → putE (newS 4) p t = 0 ∧ badE (putS (newS 4) p t) p = 0 ∧ readE (badS (putS (newS 4) p t) p true) p = 70 ∧ badE (badS (putS (newS 4) p t) p true) p = 0 ∧
      readE (badS (badS (putS (newS 4) p t) p true) p false) p = 0 ∧ readV (badS (badS (putS (newS 4) p t) p true) p false) p = t) ∧
    (¬ p < 4 → putE (newS 4) p t = 2 ∧ badE (putS (newS 4) p t) p = 2 ∧ readE (badS (putS (newS 4) p t) p true) p = 2 ∧ badE (badS (putS (newS 4) p t) p true) p = 2) := by
  refine ⟨fun hp => ?_, fun hp => ?_⟩
  · have hf : fitS (newS 4) p t = true := by simp [fitS, newS, hp, ht]
    have e1 : putS (newS 4) p t = { newS 4 with tx := at' (newS 4).tx p t, pd := put (newS 4).pd p none } := by unfold putS; rw [if_pos hf]
    refine ⟨by unfold putE; rw [if_pos hf], ?_⟩
    rw [e1]
    have e2 : ∀ x, badS { newS 4 with tx := at' (newS 4).tx p t, pd := put (newS 4).pd p none } p x = { newS 4 with tx := at' (newS 4).tx p t, pd := put (newS 4).pd p none, bad := at' (newS 4).bad p x } := fun x => by unfold badS; rw [if_pos (by simpa [newS] using hp)]
    rw [e2]
    have e3 : badS { newS 4 with tx := at' (newS 4).tx p t, pd := put (newS 4).pd p none, bad := at' (newS 4).bad p true } p false = { newS 4 with tx := at' (newS 4).tx p t, pd := put (newS 4).pd p none, bad := at' (at' (newS 4).bad p true) p false } := by unfold badS; rw [if_pos (by simpa [newS] using hp)]
    rw [e3]
    simp [badE, readE, readV, holdS, newS, hp, at', put]
  · have hf : fitS (newS 4) p t = false := by simp [fitS, newS, hp]
    have e1 : putS (newS 4) p t = newS 4 := by unfold putS; rw [hf]; rfl
    have e2 : badS (newS 4) p true = newS 4 := by unfold badS; rw [if_neg (by simpa [newS] using hp)]
    rw [e1, e2]
    refine ⟨by unfold putE; rw [hf]; rfl, ?_⟩
    simp [badE, readE, newS, hp]
set_option maxRecDepth 100000 in
set_option maxHeartbeats 2000000 in
theorem bad_walk (s : ByteArray) (p : Nat) (hp' : p ≤ 4294967295) (w : World) :
    Calls Try.prog 9 #[.string s, .int .u32 (p : Int)] w fun e w' => e = .returned (.bool true) ∧ Below w.heap.size w w' := by
  have hF := bad_facts p (fillS s) (fill_size s)
  have HF : Hid _ := hF
  clear hF
  go_enter Try.func9, Try.ntmps9
  go_wp2_with fail
  refine (shown_any w).mono ?_
  rintro e w0 ⟨rfl, b0⟩
  have B0 : Hid _ := b0
  clear b0
  go_wp2_with fail
  refine (new_any 4 (by omega) (by omega) w0).mono ?_
  rintro e w1 ⟨d, b, m, rfl, d1, hd, hb, hm, b1⟩
  have hs0 := B0.out.size
  have D1 : Hid _ := d1
  have B1 : Hid (Below w.heap.size w w1) := B0.out.trans (b1.mono hs0)
  have HV : Hid (∀ k, Dv d b m k → w.heap.size ≤ k) := fun k h => h.of_lt (by omega) (by omega) (by omega)
  clear d1 b1 hd hb hm hs0 B0
  go_wp2_with fail
  refine (filled_any s w1).mono ?_
  rintro e w2 ⟨rfl, b2⟩
  have D2 : Hid (Dev w2 d b m (newS 4)) := Dev.below D1.out b2 (Nat.le_refl _)
  have B2 : Hid (Below w.heap.size w w2) := B1.out.trans (b2.mono B1.out.size)
  have K0 : Hid (Ok (newS 4)) := newS_ok 4 (by omega) (by omega)
  clear b2 D1 B1
  generalize fillS s = t at *
  generalize newS 4 = s0 at *
  go_wp2_with fail
  refine (put_any d b m s0 p hp' t w2 D2.out K0.out).mono ?_
  rintro e w3 ⟨rfl, d3, b3⟩
  have K1 : Hid _ := putS_ok K0.out p t
  have D3 : Hid _ := d3
  have B3 : Hid (Below w.heap.size w w3) := B2.out.trans (b3.below HV.out B2.out.size)
  clear d3 b3 D2 B2
  generalize putS s0 p t = s1 at *
  generalize putE s0 p t = e1 at *
  go_wp2_with fail
  refine (bad_any d b m s1 p hp' true w3 D3.out K1.out).mono ?_
  rintro e w4 ⟨rfl, d4, b4⟩
  have K2 : Hid _ := badS_ok K1.out p true
  have D4 : Hid _ := d4
  have B4 : Hid (Below w.heap.size w w4) := B3.out.trans (b4.below HV.out B3.out.size)
  clear d4 b4 D3 B3
  generalize badS s1 p true = s2 at *
  generalize badE s1 p = e2 at *
  go_wp2_with fail
  refine (read_any d b m s2 p hp' w4 D4.out K2.out).mono ?_
  rintro e w5 ⟨rfl, b5⟩
  have D5 : Hid (Dev w5 d b m s2) := Dev.below D4.out b5 (Nat.le_refl _)
  have B5 : Hid (Below w.heap.size w w5) := B4.out.trans (b5.mono B4.out.size)
  clear b5 D4 B4
  generalize readE s2 p = e3 at *
  generalize readV s2 p = v3 at *
  go_wp2_with fail
  refine (bad_any d b m s2 p hp' false w5 D5.out K2.out).mono ?_
  rintro e w6 ⟨rfl, d6, b6⟩
  have K3 : Hid _ := badS_ok K2.out p false
  have D6 : Hid _ := d6
  have B6 : Hid (Below w.heap.size w w6) := B5.out.trans (b6.below HV.out B5.out.size)
  clear d6 b6 D5 B5
  generalize badS s2 p false = s3 at *
  generalize badE s2 p = e4 at *
  go_wp2_with fail
  refine (read_any d b m s3 p hp' w6 D6.out K3.out).mono ?_
  rintro e w7 ⟨rfl, b7⟩
  have B7 : Hid (Below w.heap.size w w7) := B6.out.trans (b7.mono B6.out.size)
  clear b7 D6 B6
  generalize readE s3 p = e5 at *
  generalize readV s3 p = v5 at *
  by_cases hp : p < 4
  · obtain ⟨h1, h2, h3, h4, h5, h6⟩ := HF.out.1 hp
    subst h1 h2 h3 h4 h5 h6
    have q1 : (p : Int) < 4 := by omega
    have q2 : ¬ (4 : Int) ≤ (p : Int) := by omega
    clear HF
    go_wp2_with fail
    go_ret
    exact ⟨by simp, B7.out⟩
  · obtain ⟨h1, h2, h3, h4⟩ := HF.out.2 hp
    subst h1 h2 h3 h4
    have q2 : (4 : Int) ≤ (p : Int) := by omega
    clear HF
    go_wp2_with fail
    go_ret
    exact ⟨by simp, B7.out⟩
end Go.Proofs.Ytkpfnepbnaekoaa.Rd
