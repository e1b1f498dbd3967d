/- DeviceCounts: the walk. -/
import Derived.Test.YtkpfnepbnaekoaaPDS
namespace Go.Proofs.Ytkpfnepbnaekoaa.Rd
open Go.RowKit
/-- Texts in a slice. -/
def Sl (w : World) (o : Option Addr) (n : Nat) (f : Nat → ByteArray) : Prop := 0 < n → ∃ b off, o = some ⟨b, off, none⟩ ∧ b < w.heap.size ∧ ∀ i, i < n → w.cell? ⟨b, off + i, none⟩ = some (.string (f i))
set_option maxRecDepth 100000 in
theorem Sl.below {w w' : World} {o : Option Addr} {n B : Nat} {f : Nat → ByteArray} (h : Sl w o n f) (hb : Below B w w') (hB : w.heap.size ≤ B) : Sl w' o n f := by
  intro hn
  obtain ⟨b, off, e, hl, hc⟩ := h hn
  exact ⟨b, off, e, Nat.lt_of_lt_of_le hl hb.size, fun i hi => (World.cell?_of_block (a := ⟨b, off + i, none⟩) (hb.block b (by omega))).trans (hc i hi)⟩
/-- A device with power, and its register. -/
def Rg (s : St) (c : Int) (t : ByteArray) (n : Int) : Prop := s.ended = false ∧ s.cut = false ∧ s.n = 4 ∧ s.cnt = c ∧ s.tag = t ∧ s.boots = n
set_option maxRecDepth 100000 in
theorem op_on {s : St} (h1 : s.ended = false) (h2 : s.cut = false) : opOk s = true ∧ opS s = s := by
  have h : opOk s = true := by simp [opOk, h1, h2]
  refine ⟨h, ?_⟩
  unfold opS
  rw [if_pos h, h2]
  cases s
  simp_all
set_option maxRecDepth 100000 in
theorem Rg.start {s : St} {c n : Int} {t : ByteArray} (h : Rg s c t n) (hn : n ≠ 4294967295) : startE s = 0 ∧ startV s = n + 1 ∧ Rg (startS s) c t (n + 1) := by
  obtain ⟨h1, h2, h3, h4, h5, h6⟩ := h
  obtain ⟨ho, he⟩ := op_on h1 h2
  have hb : s.boots ≠ 4294967295 := by rw [h6]; exact hn
  refine ⟨by simp [startE, hb, ho], by unfold startV; rw [if_neg hb, if_pos ho, h6], ?_⟩
  unfold startS
  rw [if_neg hb, if_pos ho, he]
  exact ⟨h1, h2, h3, h4, h5, by simp [h6]⟩
set_option maxRecDepth 100000 in
theorem Rg.put {s : St} {c n : Int} {t : ByteArray} (h : Rg s c t n) (p : Nat) (hp : p < 4) (u : ByteArray) (hu : u.size = 256) : putE s p u = 0 ∧ Rg (putS s p u) c t n := by
  obtain ⟨h1, h2, h3, h4, h5, h6⟩ := h
  have hf : fitS s p u = true := by simp [fitS, h3, hp, hu]
  refine ⟨by simp [putE, hf], ?_⟩
  unfold putS
  rw [if_pos hf]
  exact ⟨h1, h2, h3, h4, h5, h6⟩
set_option maxRecDepth 100000 in
theorem Rg.advance {s : St} {c n : Int} {t : ByteArray} (h : Rg s c t n) (hc : c ≠ 18446744073709551615) (u : ByteArray) (hu : u.size = 32) : advE s u = 0 ∧ Rg (advS s u) (c + 1) u n := by
  obtain ⟨h1, h2, h3, h4, h5, h6⟩ := h
  obtain ⟨ho, he⟩ := op_on h1 h2
  have hb : s.cnt ≠ 18446744073709551615 := by rw [h4]; exact hc
  refine ⟨by simp [advE, hb, ho, hu], ?_⟩
  unfold advS
  rw [if_pos hu, if_neg hb, if_pos ho, he]
  exact ⟨h1, h2, h3, by simp [h4], rfl, h6⟩
set_option maxRecDepth 100000 in
theorem Rg.wake {s : St} {c n : Int} {t : ByteArray} (h : Rg s c t n) (fs : List Int) : Rg (wakeS s fs) c t n := ⟨rfl, rfl, h.2.2.1, h.2.2.2.1, h.2.2.2.2.1, h.2.2.2.2.2⟩
set_option maxRecDepth 100000 in
set_option maxHeartbeats 4000000 in
theorem counts_walk (o : Option Addr) (n cap : Nat) (f : Nat → ByteArray) (hn : n ≤ maxLen) (w : World) (hs : Sl w o n f) :
    Calls Try.prog 7 #[.slice o n cap] w fun e w' => e = .returned (.bool true) ∧ Below w.heap.size w w' := by
  have hn2 : (n : Int) ≤ 9223372036854775807 := by simp only [maxLen] at hn; omega
  have HS : Hid _ := hs
  clear hs
  go_enter Try.func7, Try.ntmps7
  go_wp2_with fail
  refine (shown_any w).mono ?_
  rintro e w0 ⟨rfl, b0⟩
  have B0 : Hid _ := b0
  clear b0
  go_wp2_with fail
  refine (new_any 4 (by omega) (by omega) w0).mono ?_
  rintro e w1 ⟨d, b, m, rfl, d1, hd, hb, hm, b1⟩
  have hs0 := B0.out.size
  have D1 : Hid _ := d1
  have B1 : Hid (Below w.heap.size w w1) := B0.out.trans (b1.mono hs0)
  have HV : Hid (∀ k, Dv d b m k → w.heap.size ≤ k) := fun k h => h.of_lt (by omega) (by omega) (by omega)
  clear d1 b1 hd hb hm hs0 B0
  go_wp2_with fail
  refine (rzeros_any 32 (by omega) w1).mono ?_
  rintro e w2 ⟨rfl, b2⟩
  have D2 : Hid (Dev w2 d b m (newS 4)) := Dev.below D1.out b2 (Nat.le_refl _)
  have B2 : Hid (Below w.heap.size w w2) := B1.out.trans (b2.mono B1.out.size)
  have R0 : Hid (Rg (newS 4) 0 (zs 32) 0) := ⟨rfl, rfl, rfl, rfl, rfl, rfl⟩
  have K0 : Hid (Ok (newS 4)) := newS_ok 4 (by omega) (by omega)
  clear b2 D1 B1
  generalize zs 32 = z at *
  go_wp2_with fail
  go_loopw [6, 7, 8] (fun tv sv iv wr => ∃ (k j : Nat) (t : ByteArray) (s : St), iv = .int .i64 (k : Int) ∧ k ≤ n ∧ k ≤ 50 ∧ tv = .string t ∧ sv = .int .u32 (j : Int) ∧ j ≤ k ∧ Dev wr d b m s ∧ Ok s ∧ Rg s (k : Int) t (j : Int) ∧ Below w.heap.size w wr) (fun _ _ iv _ => 50 - natOf iv)
  case atStart => exact ⟨0, 0, z, newS 4, rfl, by omega, by omega, rfl, rfl, by omega, D2.out, K0.out, R0.out, B2.out⟩
  case round =>
    obtain ⟨k, j, t, s, rfl, hkn, hk5, rfl, rfl, hjk, hd, hk, hr, hb⟩ := hrel
    have HD : Hid _ := hd
    have HK : Hid _ := hk
    have HR : Hid _ := hr
    have HB : Hid _ := hb
    clear hd hk hr hb D2 K0 R0 B2
    by_cases hlt : k < n ∧ k < 50
    · obtain ⟨hk1, hk2⟩ := hlt
      have q1 : (k : Int) < (n : Int) := by omega
      have q2 : (k : Int) < 50 := by omega
      have q0 : (0 : Int) ≤ (k : Int) := by omega
      obtain ⟨fb, off, rfl, hfl, hfc⟩ := (Sl.below HS.out HB.out (Nat.le_refl _)) (by omega)
      have x1 := hfc k hk1
      generalize hfk : f k = u at *
      have HFK : Hid _ := hfk
      clear hfc hfk
      go_wp2_with fail
      refine (filled_any u wr).mono ?_
      rintro e w3 ⟨rfl, b3⟩
      have x2 : w3.cell? ⟨fb, off + k, none⟩ = some (.string u) := (World.cell?_of_block (a := ⟨fb, off + k, none⟩) (b3.block fb hfl)).trans x1
      have D3 : Hid (Dev w3 d b m s) := Dev.below HD.out b3 (Nat.le_refl _)
      have B3 : Hid (Below w.heap.size w w3) := HB.out.trans (b3.mono HB.out.size)
      have zu := fill_size u
      have zt : ((fillS u).extract 0 32).size = 32 := by rw [ByteArray.size_extract, zu]; omega
      clear b3 x1
      generalize fillS u = y at *
      generalize hyt : y.extract 0 32 = yt at *
      by_cases hev : u.size % 2 = 0
      · have q3 : ((u.size : Int) % 2 == 0) = true := by simp; omega
        have hj1 : IntKind.u32.wrap ((j : Int) + 1) = (j : Int) + 1 := IntWalk.u32_in _ (by omega)
        go_wp2_with fail
        refine (start_any d b m s w3 D3.out HK.out).mono ?_
        rintro e w4 ⟨rfl, d4, b4⟩
        have hst := Rg.start HR.out (by omega)
        rw [hst.1, hst.2.1]
        have D4 : Hid _ := d4
        have K4 : Hid _ := startS_ok HK.out
        have R4 : Hid _ := hst.2.2
        have B4 : Hid (Below w.heap.size w w4) := B3.out.trans (b4.below HV.out B3.out.size)
        clear d4 b4 hst D3 B3
        generalize startS s = s4 at *
        go_wp2_with fail
        refine (put_any d b m _ 1 (by omega) y w4 D4.out K4.out).mono ?_
        rintro e w5 ⟨rfl, d5, b5⟩
        have hput := Rg.put R4.out 1 (by omega) y zu
        rw [hput.1]
        have D5 : Hid _ := d5
        have K5 : Hid _ := putS_ok K4.out 1 y
        have R5 : Hid _ := hput.2
        have B5 : Hid (Below w.heap.size w w5) := B4.out.trans (b5.below HV.out B4.out.size)
        clear d5 b5 hput
        generalize putS _ 1 y = s5 at *
        go_wp2_with fail
        refine (advance_any d b m s5 yt w5 D5.out K5.out).mono ?_
        rintro e w6 ⟨rfl, d6, b6⟩
        have hadv := Rg.advance R5.out (by omega) yt zt
        rw [hadv.1]
        have D6 : Hid _ := d6
        have K6 : Hid _ := advS_ok K5.out yt
        have R6 : Hid _ := hadv.2
        have B6 : Hid (Below w.heap.size w w6) := B5.out.trans (b6.below HV.out B5.out.size)
        clear d6 b6 hadv D5 R5 B5
        generalize advS s5 yt = s6 at *
        go_wp2_with fail
        refine (wake_any 12 (by omega) sorts_small d b m s6 [] none 0 w6 D6.out K6.out (fun l hl => Nat.le_trans (keys_few K6.out l hl) (by rw [R6.out.2.2.1]; decide)) (fun h => absurd rfl h) (fun a ea => by cases ea)).mono ?_
        rintro e w7 ⟨rfl, d7, b7⟩
        have D7 : Hid _ := d7
        have K7 : Hid _ := wakeS_ok K6.out []
        have R7 : Hid _ := Rg.wake R6.out []
        have B7 : Hid (Below w.heap.size w w7) := B6.out.trans (b7.below HV.out B6.out.size)
        clear d7 b7 D6 R6 B6
        generalize wakeS s6 [] = s7 at *
        go_wp2_with fail
        go_roundw
        case rel => exact ⟨k + 1, j + 1, yt, s7, by go_num, by omega, by omega, rfl, by go_num, by omega, D7.out, K7.out, R7.out, B7.out⟩
        case measure => simp [natOf]; omega
      · have q3 : ((u.size : Int) % 2 == 0) = false := by simp; omega
        go_wp2_with fail
        refine (put_any d b m _ 1 (by omega) y w3 D3.out HK.out).mono ?_
        rintro e w5 ⟨rfl, d5, b5⟩
        have hput := Rg.put HR.out 1 (by omega) y zu
        rw [hput.1]
        have D5 : Hid _ := d5
        have K5 : Hid _ := putS_ok HK.out 1 y
        have R5 : Hid _ := hput.2
        have B5 : Hid (Below w.heap.size w w5) := B3.out.trans (b5.below HV.out B3.out.size)
        clear d5 b5 hput
        generalize putS _ 1 y = s5 at *
        go_wp2_with fail
        refine (advance_any d b m s5 yt w5 D5.out K5.out).mono ?_
        rintro e w6 ⟨rfl, d6, b6⟩
        have hadv := Rg.advance R5.out (by omega) yt zt
        rw [hadv.1]
        have D6 : Hid _ := d6
        have K6 : Hid _ := advS_ok K5.out yt
        have R6 : Hid _ := hadv.2
        have B6 : Hid (Below w.heap.size w w6) := B5.out.trans (b6.below HV.out B5.out.size)
        clear d6 b6 hadv D5 R5 B5
        generalize advS s5 yt = s6 at *
        go_wp2_with fail
        refine (wake_any 12 (by omega) sorts_small d b m s6 [] none 0 w6 D6.out K6.out (fun l hl => Nat.le_trans (keys_few K6.out l hl) (by rw [R6.out.2.2.1]; decide)) (fun h => absurd rfl h) (fun a ea => by cases ea)).mono ?_
        rintro e w7 ⟨rfl, d7, b7⟩
        have D7 : Hid _ := d7
        have K7 : Hid _ := wakeS_ok K6.out []
        have R7 : Hid _ := Rg.wake R6.out []
        have B7 : Hid (Below w.heap.size w w7) := B6.out.trans (b7.below HV.out B6.out.size)
        clear d7 b7 D6 R6 B6
        generalize wakeS s6 [] = s7 at *
        go_wp2_with fail
        go_roundw
        case rel => exact ⟨k + 1, j, yt, s7, by go_num, by omega, by omega, rfl, rfl, by omega, D7.out, K7.out, R7.out, B7.out⟩
        case measure => simp [natOf]; omega
    · have hk3 : k = min n 50 := by omega
      have hmin : min (n : Int) 50 = (k : Int) := by omega
      have hwk : IntKind.u64.wrap (k : Int) = (k : Int) := IntWalk.u64_in _ (by omega)
      clear hk3 HS
      obtain ⟨g1, g2, g3, g4, g5, g6⟩ := HR.out
      have G4 : Hid _ := g4
      have G5 : Hid _ := g5
      have G6 : Hid _ := g6
      clear g1 g2 g3 g4 g5 g6
      by_cases hk1 : k < n
      · have q1 : (k : Int) < (n : Int) := by omega
        have q2 : ¬ (k : Int) < 50 := by omega
        clear hlt
        go_wp2_with fail
        refine (register_any d b m s wr HD.out).mono ?_
        rintro e w3 ⟨rfl, b3⟩
        rw [G4.out, G5.out, G6.out]
        have heq := eql_reg (k : Int) (k : Int) t t (j : Int) (j : Int) w3
        simp only [and_self, decide_true] at heq
        have B3 : Hid (Below w.heap.size w w3) := HB.out.trans (b3.mono HB.out.size)
        clear b3
        unfold rv
        go_wp2_with fail
        go_ret
        exact ⟨rfl, B3.out⟩
      · have q1 : ¬ (k : Int) < (n : Int) := by omega
        clear hlt
        go_wp2_with fail
        refine (register_any d b m s wr HD.out).mono ?_
        rintro e w3 ⟨rfl, b3⟩
        rw [G4.out, G5.out, G6.out]
        have heq := eql_reg (k : Int) (k : Int) t t (j : Int) (j : Int) w3
        simp only [and_self, decide_true] at heq
        have B3 : Hid (Below w.heap.size w w3) := HB.out.trans (b3.mono HB.out.size)
        clear b3
        unfold rv
        go_wp2_with fail
        go_ret
        exact ⟨rfl, B3.out⟩
end Go.Proofs.Ytkpfnepbnaekoaa.Rd
