/- DeviceParts: the walk. -/
import Derived.Test.YtkpfnepbnaekoaaPDS
namespace Go.Proofs.Ytkpfnepbnaekoaa.Rd
open Go.RowKit
/-- How many bytes a fate leaves. -/
def few (f : Int) : Nat := if 1 ≤ f ∧ f ≤ 4 then (f * 64).toNat else 0
set_option maxRecDepth 100000 in
theorem wake_read (s : St) (fs : List Int) (p : Nat) (hp : p < s.n) (hb : s.bad p = false) : readE (wakeS s fs) p = 0 ∧ readV (wakeS s fs) p = wakeTx s fs p := by
  have h : readE (wakeS s fs) p = 0 := by simp [readE, wakeS, backS, hp, hb]
  refine ⟨h, ?_⟩
  unfold readV
  rw [if_pos h]
  rfl
set_option maxRecDepth 100000 in
theorem parts_facts (a b : ByteArray) (ha : a.size = 256) (hb : b.size = 256) (f : Int) :
    putE (newS 4) 2 a = 0 ∧ writeE (putS (newS 4) 2 a) 2 b = 0 ∧ readE (writeS (putS (newS 4) 2 a) 2 b) 2 = 0 ∧ readV (writeS (putS (newS 4) 2 a) 2 b) 2 = b ∧
      readE (wakeS (writeS (putS (newS 4) 2 a) 2 b) [f]) 2 = 0 ∧ readV (wakeS (writeS (putS (newS 4) 2 a) 2 b) [f]) 2 = b.extract 0 (few f) ++ a.extract (few f) 256 := by
  have hf : fitS (newS 4) 2 a = true := by simp [fitS, newS, ha]
  have e1 : putS (newS 4) 2 a = { newS 4 with tx := at' (newS 4).tx 2 a, pd := put (newS 4).pd 2 none } := by unfold putS; rw [if_pos hf]
  have hf2 : fitS (putS (newS 4) 2 a) 2 b = true := by rw [e1]; simp [fitS, newS, hb]
  have ho : opOk (putS (newS 4) 2 a) = true := by rw [e1]; rfl
  have e2 : writeS (putS (newS 4) 2 a) 2 b = { newS 4 with tx := at' (newS 4).tx 2 a, pd := put (put (newS 4).pd 2 none) 2 (some b) } := by
    unfold writeS opS; rw [if_pos hf2, if_pos ho, if_pos ho, e1]; rfl
  refine ⟨by unfold putE; rw [if_pos hf], by unfold writeE; rw [if_pos hf2, if_pos ho], ?_⟩
  rw [e2]
  have hr : rank (put (put (newS 4).pd 2 none) 2 (some b)) 2 = 0 := rfl
  have hk : kept [f] 0 = few f := rfl
  have hv : wakeTx { newS 4 with tx := at' (newS 4).tx 2 a, pd := put (put (newS 4).pd 2 none) 2 (some b) } [f] 2 = torn b a (few f) := by
    show torn b (at' (newS 4).tx 2 a 2) (kept [f] (rank (put (put (newS 4).pd 2 none) 2 (some b)) 2)) = _
    rw [hr, hk]
    simp [at']
  have hw := wake_read { newS 4 with tx := at' (newS 4).tx 2 a, pd := put (put (newS 4).pd 2 none) 2 (some b) } [f] 2 (show 2 < 4 by decide) rfl
  refine ⟨rfl, rfl, hw.1, ?_⟩
  rw [hw.2, hv]
  unfold torn
  rw [ha]
set_option maxRecDepth 100000 in
set_option maxHeartbeats 2000000 in
theorem parts_walk (s t : ByteArray) (f : Int) (hf0 : -9223372036854775808 ≤ f) (hf1 : f ≤ 9223372036854775807) (w : World) :
    Calls Try.prog 6 #[.string s, .string t, .int .i64 f] w fun e w' => e = .returned (.bool true) ∧ Below w.heap.size w w' := by
  have hF := parts_facts (fillS s) (fillS t) (fill_size s) (fill_size t) f
  have HF : Hid _ := hF
  have za := fill_size s
  have zb := fill_size t
  clear hF
  go_enter Try.func6, Try.ntmps6
  go_wp2_with fail
  refine (shown_any w).mono ?_
  rintro e w0 ⟨rfl, b0⟩
  have B0 : Hid _ := b0
  clear b0
  go_wp2_with fail
  refine (new_any 4 (by omega) (by omega) w0).mono ?_
  rintro e w1 ⟨d, b, m, rfl, d1, hd, hb, hm, b1⟩
  have hs0 := B0.out.size
  have D1 : Hid _ := d1
  have B1 : Hid (Below w.heap.size w w1) := B0.out.trans (b1.mono hs0)
  have HV : Hid (∀ k, Dv d b m k → w.heap.size ≤ k) := fun k h => h.of_lt (by omega) (by omega) (by omega)
  clear d1 b1 hd hb hm hs0 B0
  go_wp2_with fail
  refine (filled_any s w1).mono ?_
  rintro e w2 ⟨rfl, b2⟩
  have D2 : Hid (Dev w2 d b m (newS 4)) := Dev.below D1.out b2 (Nat.le_refl _)
  have B2 : Hid (Below w.heap.size w w2) := B1.out.trans (b2.mono B1.out.size)
  have K0 : Hid (Ok (newS 4)) := newS_ok 4 (by omega) (by omega)
  clear b2 D1 B1
  go_wp2_with fail
  refine (filled_any t w2).mono ?_
  rintro e w3 ⟨rfl, b3⟩
  have D3 : Hid (Dev w3 d b m (newS 4)) := Dev.below D2.out b3 (Nat.le_refl _)
  have B3 : Hid (Below w.heap.size w w3) := B2.out.trans (b3.mono B2.out.size)
  have HN : Hid ((newS 4).n = 4) := rfl
  clear b3 D2 B2
  generalize fillS s = x at *
  generalize fillS t = y at *
  generalize newS 4 = s0 at *
  go_wp2_with fail
  refine (put_any d b m s0 2 (by omega) x w3 D3.out K0.out).mono ?_
  rintro e w4 ⟨rfl, d4, b4⟩
  have K1 : Hid _ := putS_ok K0.out 2 x
  have HN1 : Hid ((putS s0 2 x).n = 4) := by refine (?_ : (putS s0 2 x).n = 4); unfold putS; split <;> exact HN.out
  have D4 : Hid _ := d4
  have B4 : Hid (Below w.heap.size w w4) := B3.out.trans (b4.below HV.out B3.out.size)
  clear d4 b4 D3 B3
  generalize putS s0 2 x = s1 at *
  generalize putE s0 2 x = e1 at *
  go_wp2_with fail
  refine (write_any d b m s1 2 (by omega) y w4 D4.out K1.out).mono ?_
  rintro e w5 ⟨rfl, d5, b5⟩
  have K2 : Hid _ := writeS_ok K1.out 2 y
  have HN2 : Hid ((writeS s1 2 y).n = 4) := by
    refine (?_ : (writeS s1 2 y).n = 4)
    unfold writeS
    split
    · split
      · exact (opS_tx s1).2.2.2.1.trans HN1.out
      · exact (opS_tx s1).2.2.2.1.trans HN1.out
    · exact HN1.out
  have D5 : Hid _ := d5
  have B5 : Hid (Below w.heap.size w w5) := B4.out.trans (b5.below HV.out B4.out.size)
  clear d5 b5 D4 B4
  generalize writeS s1 2 y = s2 at *
  generalize writeE s1 2 y = e2 at *
  go_wp2_with fail
  refine (read_any d b m s2 2 (by omega) w5 D5.out K2.out).mono ?_
  rintro e w6 ⟨rfl, b6⟩
  have D6 : Hid (Dev w6 d b m s2) := Dev.below D5.out b6 (Nat.le_refl _)
  have B6 : Hid (Below w.heap.size w w6) := B5.out.trans (b6.mono B5.out.size)
  clear b6 D5 B5
  generalize readE s2 2 = e3 at *
  generalize readV s2 2 = v3 at *
  go_wp2_with fail
  have hl6 := D6.out.lt
  refine (wake_any 12 (by omega) sorts_small d b m s2 [f] (some ⟨w6.heap.size, 0, none⟩) 1 (w6.alloc (.cells #[.int .i64 f] 3)) (Dev.below D6.out (below_new w6 _) (Nat.le_refl _)) K2.out
    (fun l hl => Nat.le_trans (keys_few K2.out l hl) (by rw [HN2.out]; decide)) (fun _ => ⟨w6.heap.size, 0, rfl, by simp, fun i g hi => ?cell⟩) (fun a ea h => by cases ea; rcases h with h | h | h <;> simp only at h <;> omega)).mono ?_
  case cell =>
    match i, hi with
    | 0, hi => cases hi; rw [cell_of_row _ _ _ _ _ _ (heap_alloc_new w6 _)]; rfl
  rintro e w7 ⟨rfl, d7, b7⟩
  have K3 : Hid _ := wakeS_ok K2.out [f]
  have D7 : Hid _ := d7
  have hb6 := B6.out.size
  have B7 : Hid (Below w.heap.size w w7) := (B6.out.alloc hb6 _).trans (b7.below HV.out (by simp; omega))
  clear d7 b7 D6 B6 hl6
  generalize wakeS s2 [f] = s3 at *
  go_wp2_with fail
  refine (read_any d b m s3 2 (by omega) w7 D7.out K3.out).mono ?_
  rintro e w8 ⟨rfl, b8⟩
  have B8 : Hid (Below w.heap.size w w8) := B7.out.trans (b8.mono B7.out.size)
  clear b8 D7 B7
  generalize readE s3 2 = e5 at *
  generalize readV s3 2 = v5 at *
  obtain ⟨h1, h2, h3, h4, h5, h6⟩ := HF.out
  subst h1 h2 h3 h4 h5
  have H6 : Hid (v5 = v3.extract 0 (few f) ++ x.extract (few f) 256) := h6
  clear HF h6
  have fin : ∀ k : Nat, k ≤ 256 → few f = k → ∀ v6 v7, v3.extract 0 k = v6 → x.extract k 256 = v7 → v5 = v6 ++ v7 ∧ ¬ 9223372036854775807 < v6.size + v7.size := fun k hk hfk v6 v7 h6 h7 => by
    refine ⟨by rw [H6.out, hfk, h6, h7], ?_⟩
    rw [← h6, ← h7, ByteArray.size_extract, ByteArray.size_extract]; omega
  have FIN : Hid _ := fin
  clear fin
  by_cases hr : 1 ≤ f ∧ f ≤ 4
  · obtain ⟨k, hk⟩ : ∃ k, few f = k := ⟨_, rfl⟩
    have hk2 : f * 64 = (k : Int) := by rw [← hk]; unfold few; rw [if_pos hr]; omega
    have hk3 : 64 * f = (k : Int) := by omega
    have hkb : k ≤ 256 := by omega
    have hkc : (k : Int) ≤ 256 := by omega
    have hwr : IntKind.i64.wrap (64 * f) = (k : Int) := by rw [IntWalk.i64_in _ (by omega), hk3]
    obtain ⟨hr1, hr2⟩ := hr
    obtain ⟨v6, h6⟩ : ∃ v, v3.extract 0 k = v := ⟨_, rfl⟩
    obtain ⟨v7, h7⟩ : ∃ v, x.extract k 256 = v := ⟨_, rfl⟩
    obtain ⟨g1, g2⟩ := FIN.out k hkb hk v6 v7 h6 h7
    clear hk hk2 hk3 FIN H6
    subst g1
    go_wp2_with fail
    go_quiet (fail)
    rename_i hK
    refine hK _ _ ?_
    go_wp2_with fail
    go_ret
    exact ⟨rfl, below_drewN B8.out _⟩
  · have hk : few f = 0 := by unfold few; rw [if_neg hr]
    obtain ⟨v6, h6⟩ : ∃ v, v3.extract 0 0 = v := ⟨_, rfl⟩
    obtain ⟨v7, h7⟩ : ∃ v, x.extract 0 256 = v := ⟨_, rfl⟩
    obtain ⟨g1, g2⟩ := FIN.out 0 (by omega) hk v6 v7 h6 h7
    have g3 : v5 = v7 := by rw [g1, ← h6]; simp
    have g4 : v5.size = 256 := by rw [g3, ← h7, ByteArray.size_extract]; omega
    have g5 : ¬ 9223372036854775807 < v5.size := by omega
    clear hk FIN H6 g1 g2 h6 v6 g4
    subst g3
    by_cases hr1 : 1 ≤ f
    · have hr2 : ¬ f ≤ 4 := fun h => hr ⟨hr1, h⟩
      clear hr
      go_wp2_with fail
      go_quiet (fail)
      rename_i hK
      refine hK _ _ ?_
      go_wp2_with fail
      go_ret
      exact ⟨by simp, below_drewN B8.out _⟩
    · have q1 : f < 1 := by omega
      clear hr
      go_wp2_with fail
      go_quiet (fail)
      rename_i hK hf'
      refine hK _ _ ?_
      go_wp2_with fail
      go_ret
      exact ⟨by simp, below_drewN B8.out _⟩
end Go.Proofs.Ytkpfnepbnaekoaa.Rd
