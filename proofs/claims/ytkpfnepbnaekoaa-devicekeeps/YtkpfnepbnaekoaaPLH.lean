/- DeviceKeeps: the walk. -/
import Derived.Test.YtkpfnepbnaekoaaPLG
import Derived.Test.YtkpfnepbnaekoaaPDS
import Derived.Deep.RegionHeld3
namespace Go.Proofs.Ytkpfnepbnaekoaa.Rd
open Go.RowKit
/-- A block that was written and flushed, of eight. -/
def Kp (s : St) (q : Nat) (t : ByteArray) : Prop := s.n = 8 ∧ s.pd q = none ∧ s.tx q = t ∧ s.bad q = false
set_option maxRecDepth 100000 in
theorem Kp.write {s : St} {q : Nat} {t : ByteArray} (h : Kp s q t) (p : Nat) (hp : p ≠ q) (u : ByteArray) : Kp (writeS s p u) q t := by
  obtain ⟨h1, h2, h3, h4⟩ := h
  obtain ⟨o1, o2, o3, o4, _⟩ := opS_tx s
  unfold writeS
  split
  · split
    · exact ⟨o4.trans h1, by show put s.pd p (some u) q = none; unfold put; rw [if_neg (Ne.symm hp), h2], by show (opS s).tx q = t; rw [o1, h3], by show (opS s).bad q = false; rw [o2, h4]⟩
    · exact ⟨o4.trans h1, by rw [o3, h2], by rw [o1, h3], by rw [o2, h4]⟩
  · exact ⟨h1, h2, h3, h4⟩
set_option maxRecDepth 100000 in
theorem Kp.flush {s : St} {q : Nat} {t : ByteArray} (h : Kp s q t) : Kp (flushS s) q t := by
  obtain ⟨h1, h2, h3, h4⟩ := h
  obtain ⟨o1, o2, o3, o4, _⟩ := opS_tx s
  unfold flushS
  split
  · exact ⟨o4.trans h1, rfl, by show holdS s q = t; unfold holdS; rw [h2, Option.getD_none, h3], by show (opS s).bad q = false; rw [o2, h4]⟩
  · exact ⟨o4.trans h1, by rw [o3, h2], by rw [o1, h3], by rw [o2, h4]⟩
set_option maxRecDepth 100000 in
theorem Kp.cut {s : St} {q : Nat} {t : ByteArray} (h : Kp s q t) (n : Int) : Kp (cutS s n) q t := h
set_option maxRecDepth 100000 in
theorem Kp.wake {s : St} {q : Nat} {t : ByteArray} (h : Kp s q t) (fs : List Int) : Kp (wakeS s fs) q t := by
  obtain ⟨h1, h2, h3, h4⟩ := h
  refine ⟨h1, rfl, ?_, h4⟩
  show wakeTx s fs q = t
  unfold wakeTx
  rw [h2, h3]
set_option maxRecDepth 100000 in
theorem Kp.read {s : St} {q : Nat} {t : ByteArray} (h : Kp s q t) (hq : q < 8) (fs : List Int) : readE (wakeS s fs) q = 0 ∧ readV (wakeS s fs) q = t := by
  obtain ⟨h1, h2, h3, h4⟩ := Kp.wake h fs
  have e : readE (wakeS s fs) q = 0 := by
    unfold readE
    rw [if_pos (by omega), h4]
    rfl
  refine ⟨e, ?_⟩
  unfold readV
  rw [if_pos e]
  unfold holdS
  rw [h2, Option.getD_none, h3]
set_option maxRecDepth 100000 in
theorem Kp.start {q : Nat} (hq : q < 8) (t : ByteArray) (ht : t.size = 256) : writeE (newS 8) q t = 0 ∧ flushE (writeS (newS 8) q t) = 0 ∧ Kp (flushS (writeS (newS 8) q t)) q t := by
  have hf : fitS (newS 8) q t = true := by simp [fitS, newS, hq, ht]
  have ho : opOk (newS 8) = true := rfl
  have hs : opS (newS 8) = newS 8 := rfl
  have hw : writeS (newS 8) q t = { newS 8 with pd := put (newS 8).pd q (some t) } := by unfold writeS; rw [if_pos hf, if_pos ho, hs]
  refine ⟨by unfold writeE; rw [if_pos hf, if_pos ho], by rw [hw]; rfl, ?_⟩
  rw [hw]
  refine ⟨rfl, rfl, ?_, rfl⟩
  show holdS _ q = t
  unfold holdS put
  simp
set_option maxRecDepth 100000 in
set_option maxHeartbeats 4000000 in
theorem keeps_walk (a : ByteArray) (q : Nat) (hq' : q ≤ 4294967295) (o : Option Addr) (n cap : Nat) (f : Nat → Opr) (hn : n ≤ maxLen) (w : World) (hs : Os w o n f) :
    Calls Try.prog 5 #[.string a, .int .u32 (q : Int), .slice o n cap] w fun e w' => e = .returned (.bool true) ∧ Below w.heap.size w w' := by
  have hn2 : (n : Int) ≤ 9223372036854775807 := by simp only [maxLen] at hn; omega
  have HS : Hid _ := hs
  clear hs
  go_enter Try.func5, Try.ntmps5
  go_wp2_with fail
  refine (shown_any w).mono ?_
  rintro e w0 ⟨rfl, b0⟩
  have B0 : Hid _ := b0
  clear b0
  go_wp2_with fail
  refine (new_any 8 (by omega) (by omega) w0).mono ?_
  rintro e w1 ⟨d, b, m, rfl, d1, hd, hb, hm, b1⟩
  have hs0 := B0.out.size
  have D1 : Hid _ := d1
  have B1 : Hid (Below w.heap.size w w1) := B0.out.trans (b1.mono hs0)
  have HV : Hid (∀ k, Dv d b m k → w.heap.size ≤ k) := fun k h => h.of_lt (by omega) (by omega) (by omega)
  clear d1 b1 hd hb hm hs0 B0
  by_cases hq9 : 8 ≤ q
  · have q1 : (8 : Int) ≤ (q : Int) := by omega
    go_wp2_with fail
    go_ret
    exact ⟨rfl, B1.out⟩
  have hq8 : q < 8 := by omega
  have q1 : ¬ (8 : Int) ≤ (q : Int) := by omega
  go_wp2_with fail
  refine (filled_any a w1).mono ?_
  rintro e w2 ⟨rfl, b2⟩
  have D2 : Hid (Dev w2 d b m (newS 8)) := Dev.below D1.out b2 (Nat.le_refl _)
  have B2 : Hid (Below w.heap.size w w2) := B1.out.trans (b2.mono B1.out.size)
  have K0 : Hid (Ok (newS 8)) := newS_ok 8 (by omega) (by omega)
  have zu := fill_size a
  clear b2 D1 B1
  generalize fillS a = t at *
  obtain ⟨x1, x2, x3⟩ := Kp.start hq8 t zu
  have X2 : Hid _ := x2
  have X3 : Hid _ := x3
  clear x2 x3
  go_wp2_with fail
  refine (write_any d b m (newS 8) q hq' t w2 D2.out K0.out).mono ?_
  rintro e w3 ⟨rfl, d3, b3⟩
  have D3 : Hid _ := d3
  have K3 : Hid _ := writeS_ok K0.out q t
  have B3 : Hid (Below w.heap.size w w3) := B2.out.trans (b3.below HV.out B2.out.size)
  rw [x1]
  clear d3 b3 D2 K0 B2 x1
  generalize writeS (newS 8) q t = s3 at *
  go_wp2_with fail
  refine (flush_any d b m s3 w3 D3.out K3.out).mono ?_
  rintro e w4 ⟨rfl, d4, b4⟩
  have D4 : Hid _ := d4
  have K4 : Hid _ := flushS_ok K3.out
  have B4 : Hid (Below w.heap.size w w4) := B3.out.trans (b4.below HV.out B3.out.size)
  rw [X2.out]
  clear d4 b4 D3 K3 B3 X2
  generalize flushS s3 = s4 at *
  go_wp2_with fail
  go_loopw [13] (fun iv wr => ∃ (k : Nat) (s : St), iv = .int .i64 (k : Int) ∧ k ≤ n ∧ k ≤ 30 ∧ Dev wr d b m s ∧ Ok s ∧ Kp s q t ∧ Below w.heap.size w wr) (fun iv _ => 30 - natOf iv)
  case atStart => exact ⟨0, _, rfl, by omega, by omega, D4.out, K4.out, X3.out, B4.out⟩
  case round =>
    obtain ⟨k, s, rfl, hkn, hk5, hd, hk, hr, hb⟩ := hrel
    have HD : Hid (Dev wr d b m s) := hd
    have HK : Hid (Ok s) := hk
    have HR : Hid (Kp s q t) := hr
    have HB : Hid (Below w.heap.size w wr) := hb
    clear hd hk hr hb D4 K4 X3 B4
    by_cases hlt : k < n ∧ k < 30
    · obtain ⟨hk1, hk2⟩ := hlt
      have q1 : (k : Int) < (n : Int) := by omega
      have q2 : (k : Int) < 30 := by omega
      have q0 : (0 : Int) ≤ (k : Int) := by omega
      have HW : Hid (Os wr o n f) := Os.below HS.out HB.out
      obtain ⟨fb, off, rfl, hfl, hfc⟩ := HW.out (by omega)
      obtain ⟨x1, x2⟩ := hfc k hk1
      have HX : Hid (OpOk wr (f k)) := x2
      have HX0 : Hid (OpOk w (f k)) := by
        obtain ⟨_, _, _, _, h⟩ := HS.out (by omega)
        exact (h k hk1).2
      obtain ⟨c0, c1, c2, c3, c4⟩ := x1
      generalize f k = x at *
      obtain ⟨vo, vp, vn, vs, fo, fs, fc⟩ := x
      simp only at c0 c1 c2 c3 c4
      clear hfc x2
      have DW : Hid (∀ o, Dev (wr.alloc o) d b m s) := fun o => Dev.below HD.out (below_new wr o) (Nat.le_refl _)
      have BW : Hid (∀ o, Below w.heap.size w (wr.alloc o)) := fun o => HB.out.trans ((below_new wr o).mono HB.out.size)
      have hp1 := HX.out.p1
      simp only at hp1
      by_cases hpq : vp = q
      · subst hpq
        obtain ⟨r, hr, hrq, hrl⟩ : ∃ r : Nat, (vp : Int) + 1 = (r : Int) ∧ r ≠ vp ∧ r ≤ 4294967295 := ⟨vp + 1, by omega, by omega, by omega⟩
        go_wp2_with fail
        all_goals (try rw [hr])
        · obtain ⟨W, hW⟩ : ∃ W, wr.alloc (Obj.cells #[Value.int IntKind.i64 vo, Value.int IntKind.u32 (r : Int), Value.int IntKind.i64 vn, Value.string vs, Value.slice fo fs.length fc] 35) = W := ⟨_, rfl⟩
          have x1 : W.cell? ⟨wr.heap.size, 1, none⟩ = some (.int .u32 (r : Int)) := by rw [← hW, cell_of_row _ _ _ _ _ _ (heap_alloc_new wr _)]; rfl
          have x3 : W.cell? ⟨wr.heap.size, 3, none⟩ = some (.string vs) := by rw [← hW, cell_of_row _ _ _ _ _ _ (heap_alloc_new wr _)]; rfl
          have hob : wr.heap.size < W.heap.size := by rw [← hW]; show wr.heap.size < (wr.heap.push _).size; rw [Array.size_push]; exact Nat.lt_succ_self _
          have D5 : Hid (Dev W d b m s) := by rw [← hW]; exact DW.out _
          have B5 : Hid (Below w.heap.size w W) := by rw [← hW]; exact BW.out _
          rw [hW]
          have hdl := HD.out.lt
          have nd : ¬ Dv d b m wr.heap.size := fun h => by rcases h with h | h | h <;> omega
          have D5d : Hid (Dev W.drew d b m s) := Dev.same D5.out rfl rfl rfl
          have B5d : Hid (Below w.heap.size w W.drew) := B5.out.drew
          clear hW DW BW HB HD HX HX0 HW c0 c1 c2 c3 c4 hfl hdl
          generalize wr.heap.size = ob at *
          have zv := fill_size vs
          generalize fillS vs = y at *
          go_region_held3 (fun w' => w'.cell? ⟨ob, 1, none⟩ = some (.int .u32 (r : Int)) ∧ w'.cell? ⟨ob, 3, none⟩ = some (.string vs)) (first | go_keep | exact ⟨(World.cell?_of_block (a := ⟨ob, 1, none⟩) (b6.block ob hob)).trans x1, (World.cell?_of_block (a := ⟨ob, 3, none⟩) (b6.block ob hob)).trans x3⟩ | exact ⟨(World.cell?_of_block (a := ⟨ob, 1, none⟩) (b7.block ob (Nat.lt_of_lt_of_le hob b6.size) nd)).trans ((World.cell?_of_block (a := ⟨ob, 1, none⟩) (b6.block ob hob)).trans x1), (World.cell?_of_block (a := ⟨ob, 3, none⟩) (b7.block ob (Nat.lt_of_lt_of_le hob b6.size) nd)).trans ((World.cell?_of_block (a := ⟨ob, 3, none⟩) (b6.block ob hob)).trans x3)⟩) (first | (go_at_call 28; refine (filled_any _ _).mono ?_; rintro e w6 ⟨rfl, b6⟩) | (go_at_call 22; refine (write_any d b m s r hrl _ w6 ?_ HK.out).mono ?_; exact Dev.below D5d.out b6 (Nat.le_refl _); rintro e w7 ⟨rfl, d7, b7⟩))
          all_goals (
            have D7 : Hid _ := d7
            have B7 : Hid (Below w.heap.size w w7) := (B5d.out.trans (b6.mono B5d.out.size)).trans (b7.below HV.out (B5d.out.trans (b6.mono B5d.out.size)).size)
            clear d7 b7 b6 D5 B5 D5d B5d x1 x3
            go_wp2_with fail
            go_roundw
            case rel => exact ⟨k + 1, _, by go_num, by omega, by omega, D7.out, writeS_ok HK.out r _, Kp.write HR.out r hrq _, B7.out⟩
            case measure => simp [natOf]; omega)
        · refine (flush_any d b m s _ (DW.out _) HK.out).mono ?_
          rintro e w5 ⟨rfl, d5, b5⟩
          have D5 : Hid _ := d5
          have B5 : Hid (Below w.heap.size w w5) := (BW.out _).trans (b5.below HV.out (BW.out _).size)
          clear d5 b5
          go_wp2_with fail
          go_roundw
          case rel => exact ⟨k + 1, flushS s, by go_num, by omega, by omega, D5.out, flushS_ok HK.out, Kp.flush HR.out, B5.out⟩
          case measure => simp [natOf]; omega
        · refine (cut_any d b m s vn _ (DW.out _)).mono ?_
          rintro e w5 ⟨rfl, d5, b5⟩
          have D5 : Hid _ := d5
          have B5 : Hid (Below w.heap.size w w5) := (BW.out _).trans (b5.below HV.out (BW.out _).size)
          clear d5 b5
          go_wp2_with fail
          go_roundw
          case rel => exact ⟨k + 1, cutS s vn, by go_num, by omega, by omega, D5.out, cutS_ok HK.out vn HX.out.n0 HX.out.n1, Kp.cut HR.out vn, B5.out⟩
          case measure => simp [natOf]; omega
        · refine (wake_fs 12 (by omega) sorts_small d b m s fs fo fc _ (DW.out _) HK.out (fun l hl => Nat.le_trans (keys_few HK.out l hl) (by rw [HR.out.1]; decide)) (HX.out.fs.below (below_new wr _)) (fun hne a ha hv => Nat.not_lt.2 (HV.out _ hv) (HX0.out.fb hne a ha))).mono ?_
          rintro e w5 ⟨rfl, d5, b5⟩
          have D5 : Hid _ := d5
          have B5 : Hid (Below w.heap.size w w5) := (BW.out _).trans (b5.below HV.out (BW.out _).size)
          clear d5 b5
          go_wp2_with fail
          go_roundw
          case rel => exact ⟨k + 1, wakeS s fs, by go_num, by omega, by omega, D5.out, wakeS_ok HK.out fs, Kp.wake HR.out fs, B5.out⟩
          case measure => simp [natOf]; omega
        · go_roundw
          case rel => exact ⟨k + 1, s, by go_num, by omega, by omega, DW.out _, HK.out, HR.out, BW.out _⟩
          case measure => simp [natOf]; omega
      · obtain ⟨r, hr, hrq, hrl⟩ : ∃ r : Nat, (vp : Int) = (r : Int) ∧ r ≠ q ∧ r ≤ 4294967295 := ⟨vp, rfl, hpq, hp1⟩
        have hpq2 : ((vp : Int) == (q : Int)) = false := by simp; omega
        go_wp2_with fail
        all_goals (try rw [hr])
        · obtain ⟨W, hW⟩ : ∃ W, wr.alloc (Obj.cells #[Value.int IntKind.i64 vo, Value.int IntKind.u32 (r : Int), Value.int IntKind.i64 vn, Value.string vs, Value.slice fo fs.length fc] 35) = W := ⟨_, rfl⟩
          have x1 : W.cell? ⟨wr.heap.size, 1, none⟩ = some (.int .u32 (r : Int)) := by rw [← hW, cell_of_row _ _ _ _ _ _ (heap_alloc_new wr _)]; rfl
          have x3 : W.cell? ⟨wr.heap.size, 3, none⟩ = some (.string vs) := by rw [← hW, cell_of_row _ _ _ _ _ _ (heap_alloc_new wr _)]; rfl
          have hob : wr.heap.size < W.heap.size := by rw [← hW]; show wr.heap.size < (wr.heap.push _).size; rw [Array.size_push]; exact Nat.lt_succ_self _
          have D5 : Hid (Dev W d b m s) := by rw [← hW]; exact DW.out _
          have B5 : Hid (Below w.heap.size w W) := by rw [← hW]; exact BW.out _
          rw [hW]
          have hdl := HD.out.lt
          have nd : ¬ Dv d b m wr.heap.size := fun h => by rcases h with h | h | h <;> omega
          have D5d : Hid (Dev W.drew d b m s) := Dev.same D5.out rfl rfl rfl
          have B5d : Hid (Below w.heap.size w W.drew) := B5.out.drew
          clear hW DW BW HB HD HX HX0 HW c0 c1 c2 c3 c4 hfl hdl
          generalize wr.heap.size = ob at *
          have zv := fill_size vs
          generalize fillS vs = y at *
          go_region_held3 (fun w' => w'.cell? ⟨ob, 1, none⟩ = some (.int .u32 (r : Int)) ∧ w'.cell? ⟨ob, 3, none⟩ = some (.string vs)) (first | go_keep | exact ⟨(World.cell?_of_block (a := ⟨ob, 1, none⟩) (b6.block ob hob)).trans x1, (World.cell?_of_block (a := ⟨ob, 3, none⟩) (b6.block ob hob)).trans x3⟩ | exact ⟨(World.cell?_of_block (a := ⟨ob, 1, none⟩) (b7.block ob (Nat.lt_of_lt_of_le hob b6.size) nd)).trans ((World.cell?_of_block (a := ⟨ob, 1, none⟩) (b6.block ob hob)).trans x1), (World.cell?_of_block (a := ⟨ob, 3, none⟩) (b7.block ob (Nat.lt_of_lt_of_le hob b6.size) nd)).trans ((World.cell?_of_block (a := ⟨ob, 3, none⟩) (b6.block ob hob)).trans x3)⟩) (first | (go_at_call 28; refine (filled_any _ _).mono ?_; rintro e w6 ⟨rfl, b6⟩) | (go_at_call 22; refine (write_any d b m s r hrl _ w6 ?_ HK.out).mono ?_; exact Dev.below D5d.out b6 (Nat.le_refl _); rintro e w7 ⟨rfl, d7, b7⟩))
          all_goals (
            have D7 : Hid _ := d7
            have B7 : Hid (Below w.heap.size w w7) := (B5d.out.trans (b6.mono B5d.out.size)).trans (b7.below HV.out (B5d.out.trans (b6.mono B5d.out.size)).size)
            clear d7 b7 b6 D5 B5 D5d B5d x1 x3
            go_wp2_with fail
            go_roundw
            case rel => exact ⟨k + 1, _, by go_num, by omega, by omega, D7.out, writeS_ok HK.out r _, Kp.write HR.out r hrq _, B7.out⟩
            case measure => simp [natOf]; omega)
        · refine (flush_any d b m s _ (DW.out _) HK.out).mono ?_
          rintro e w5 ⟨rfl, d5, b5⟩
          have D5 : Hid _ := d5
          have B5 : Hid (Below w.heap.size w w5) := (BW.out _).trans (b5.below HV.out (BW.out _).size)
          clear d5 b5
          go_wp2_with fail
          go_roundw
          case rel => exact ⟨k + 1, flushS s, by go_num, by omega, by omega, D5.out, flushS_ok HK.out, Kp.flush HR.out, B5.out⟩
          case measure => simp [natOf]; omega
        · refine (cut_any d b m s vn _ (DW.out _)).mono ?_
          rintro e w5 ⟨rfl, d5, b5⟩
          have D5 : Hid _ := d5
          have B5 : Hid (Below w.heap.size w w5) := (BW.out _).trans (b5.below HV.out (BW.out _).size)
          clear d5 b5
          go_wp2_with fail
          go_roundw
          case rel => exact ⟨k + 1, cutS s vn, by go_num, by omega, by omega, D5.out, cutS_ok HK.out vn HX.out.n0 HX.out.n1, Kp.cut HR.out vn, B5.out⟩
          case measure => simp [natOf]; omega
        · refine (wake_fs 12 (by omega) sorts_small d b m s fs fo fc _ (DW.out _) HK.out (fun l hl => Nat.le_trans (keys_few HK.out l hl) (by rw [HR.out.1]; decide)) (HX.out.fs.below (below_new wr _)) (fun hne a ha hv => Nat.not_lt.2 (HV.out _ hv) (HX0.out.fb hne a ha))).mono ?_
          rintro e w5 ⟨rfl, d5, b5⟩
          have D5 : Hid _ := d5
          have B5 : Hid (Below w.heap.size w w5) := (BW.out _).trans (b5.below HV.out (BW.out _).size)
          clear d5 b5
          go_wp2_with fail
          go_roundw
          case rel => exact ⟨k + 1, wakeS s fs, by go_num, by omega, by omega, D5.out, wakeS_ok HK.out fs, Kp.wake HR.out fs, B5.out⟩
          case measure => simp [natOf]; omega
        · go_roundw
          case rel => exact ⟨k + 1, s, by go_num, by omega, by omega, DW.out _, HK.out, HR.out, BW.out _⟩
          case measure => simp [natOf]; omega
    · clear HS
      by_cases hk1 : k < n
      · have q1 : (k : Int) < (n : Int) := by omega
        have q2 : ¬ (k : Int) < 30 := by omega
        clear hlt
        go_wp2_with fail
        refine (wake_fs 12 (by omega) sorts_small d b m s [] none 0 wr HD.out HK.out (fun l hl => Nat.le_trans (keys_few HK.out l hl) (by rw [HR.out.1]; decide)) (fun h => absurd rfl h) (fun h => absurd rfl h)).mono ?_
        rintro e w5 ⟨rfl, d5, b5⟩
        have D5 : Hid _ := d5
        have K5 : Hid _ := wakeS_ok HK.out []
        have B5 : Hid (Below w.heap.size w w5) := HB.out.trans (b5.below HV.out HB.out.size)
        have hrd := Kp.read HR.out hq8 []
        have RD : Hid _ := hrd
        clear d5 b5 hrd
        go_wp2_with fail
        refine (read_any d b m _ q hq' w5 D5.out K5.out).mono ?_
        rintro e w6 ⟨rfl, b6⟩
        have B6 : Hid (Below w.heap.size w w6) := B5.out.trans (b6.mono B5.out.size)
        rw [RD.out.1, RD.out.2]
        clear b6
        go_wp2_with fail
        go_ret
        exact ⟨rfl, B6.out⟩
      · have q1 : ¬ (k : Int) < (n : Int) := by omega
        clear hlt
        go_wp2_with fail
        refine (wake_fs 12 (by omega) sorts_small d b m s [] none 0 wr HD.out HK.out (fun l hl => Nat.le_trans (keys_few HK.out l hl) (by rw [HR.out.1]; decide)) (fun h => absurd rfl h) (fun h => absurd rfl h)).mono ?_
        rintro e w5 ⟨rfl, d5, b5⟩
        have D5 : Hid _ := d5
        have K5 : Hid _ := wakeS_ok HK.out []
        have B5 : Hid (Below w.heap.size w w5) := HB.out.trans (b5.below HV.out HB.out.size)
        have hrd := Kp.read HR.out hq8 []
        have RD : Hid _ := hrd
        clear d5 b5 hrd
        go_wp2_with fail
        refine (read_any d b m _ q hq' w5 D5.out K5.out).mono ?_
        rintro e w6 ⟨rfl, b6⟩
        have B6 : Hid (Below w.heap.size w w6) := B5.out.trans (b6.mono B5.out.size)
        rw [RD.out.1, RD.out.2]
        clear b6
        go_wp2_with fail
        go_ret
        exact ⟨rfl, B6.out⟩
end Go.Proofs.Ytkpfnepbnaekoaa.Rd
