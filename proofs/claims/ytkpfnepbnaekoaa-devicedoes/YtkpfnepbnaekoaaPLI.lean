/- DeviceDoes: the walk, given the sort. -/
import Derived.Test.YtkpfnepbnaekoaaPRG
import Derived.Test.YtkpfnepbnaekoaaPDS
namespace Go.Proofs.Ytkpfnepbnaekoaa.Rd
open Go.RowKit
set_option maxRecDepth 100000 in
theorem Tx.of {w : World} {g n : Nat} {f : Nat → ByteArray} (h : Txs w g n f) : Tx w g n f := by
  obtain ⟨cs, h1, h2, h3⟩ := h
  exact ⟨cs, h1, by omega, h3⟩
set_option maxRecDepth 100000 in
theorem two_of {w : World} {d b m r : Nat} {x : Rp} {o : Opr} {s : St} (hd : Dev w d b m s) (hr : Rf w r x s) (hk : Ok s) (ho : OpOk w o) :
    Two (w.alloc (.cells #[.int .i64 o.op, .int .u32 (o.p : Int), .int .i64 o.n, .string o.s, .slice o.fo o.fs.length o.fc] 35)) d b m r x w.heap.size o s :=
  ⟨hd.below (below_new w _) (Nat.le_refl _), hr.below (below_new w _) (Nat.le_refl _), hk, heap_alloc_new w _, ho.fs.below (below_new w _)⟩
set_option maxRecDepth 100000 in
theorem reg_agg (d b m : Nat) (s : St) (w : World) (h : Dev w d b m s) : Calls Try.prog 17 #[pt d] w fun e w' => e = .returned (.agg #[.int .u64 s.cnt, .string s.tag, .int .u32 s.boots]) ∧ Below w.heap.size w w' := register_any d b m s w h
set_option maxRecDepth 100000 in
theorem blocks_is (d b m : Nat) (s : St) (n : Nat) (hn : s.n = n) (w : World) (h : Dev w d b m s) : Calls Try.prog 18 #[pt d] w fun e w' => e = .returned (.int .i64 (n : Int)) ∧ w' = w := by
  rw [← hn]; exact blocks_any d b m s w h
set_option maxRecDepth 100000 in
theorem neq_same (c : Int) (t : ByteArray) (n : Int) (w : World) : (binOp .neq 41 (.agg #[.int .u64 c, .string t, .int .u32 n]) (.agg #[.int .u64 c, .string t, .int .u32 n])).run Try.prog w = .ok (.bool false) w := by
  have := neq_reg c c t t n n w
  simpa using this
set_option maxRecDepth 100000 in
set_option maxHeartbeats 8000000 in
theorem does_walk (hS : Sorts 30) (N : Int) (hN0 : -9223372036854775808 ≤ N) (hN1 : N ≤ 9223372036854775807) (o : Option Addr) (n cap : Nat) (f : Nat → Opr) (hn : n ≤ maxLen) (w : World) (hs : Os w o n f) :
    Calls Try.prog 3 #[.int .i64 N, .slice o n cap] w fun e w' => e = .returned (.bool true) ∧ Below w.heap.size w w' := by
  have hn2 : (n : Int) ≤ 9223372036854775807 := by simp only [maxLen] at hn; omega
  have HO : Hid (Os w o n f) := hs
  have HS : Hid (Sorts 30) := hS
  clear hs hS
  go_enter Try.func3, Try.ntmps3
  go_wp2_with fail
  refine (shown_any w).mono ?_
  rintro e w0 ⟨rfl, b0⟩
  have B0 : Hid (Below w.heap.size w w0) := b0
  clear b0
  by_cases hbad : N < 4 ∨ 4096 < N
  · have HB : Hid (N < 4 ∨ 4096 < N) := hbad
    have hsk : ¬ (30 < N ∧ N ≤ 4096) := by omega
    by_cases h30 : 30 < N
    · have h40 : ¬ N ≤ 4096 := by omega
      clear hbad hsk
      go_wp2_with fail
      refine (new_no N HB.out w0).mono ?_
      rintro e w1 ⟨rfl, rfl⟩
      go_wp2_with fail
      refine (rnew_no N HB.out w1).mono ?_
      rintro e w2 ⟨rfl, rfl⟩
      by_cases hk1 : 0 < n
      · have q1 : (0 : Int) < (n : Int) := by omega
        go_wp2_with fail
        refine wp_loop_rounds 1 ?_
        rw [rounds_succ]
        go_wp2_with fail
        go_ret
        exact ⟨rfl, B0.out⟩
      · have q1 : ¬ (0 : Int) < (n : Int) := by omega
        go_wp2_with fail
        refine wp_loop_rounds 1 ?_
        rw [rounds_succ]
        go_wp2_with fail
        go_ret
        exact ⟨rfl, B0.out⟩
    · clear hbad hsk
      go_wp2_with fail
      refine (new_no N HB.out w0).mono ?_
      rintro e w1 ⟨rfl, rfl⟩
      go_wp2_with fail
      refine (rnew_no N HB.out w1).mono ?_
      rintro e w2 ⟨rfl, rfl⟩
      by_cases hk1 : 0 < n
      · have q1 : (0 : Int) < (n : Int) := by omega
        go_wp2_with fail
        refine wp_loop_rounds 1 ?_
        rw [rounds_succ]
        go_wp2_with fail
        go_ret
        exact ⟨rfl, B0.out⟩
      · have q1 : ¬ (0 : Int) < (n : Int) := by omega
        go_wp2_with fail
        refine wp_loop_rounds 1 ?_
        rw [rounds_succ]
        go_wp2_with fail
        go_ret
        exact ⟨rfl, B0.out⟩
  · obtain ⟨q, rfl⟩ := Int.eq_ofNat_of_zero_le (show 0 ≤ N by omega)
    by_cases h30 : 30 < (q : Int)
    · have h40 : (q : Int) ≤ 4096 := by omega
      obtain ⟨p, hp, hp0, hp1⟩ : ∃ p : Nat, (30 : Int) = (p : Int) ∧ 4 ≤ p ∧ p ≤ 30 := ⟨30, rfl, by omega, by omega⟩
      clear hbad
      go_wp2_with fail
      rw [hp]
      clear hp h30 h40
      refine (new_any p (by omega) (by omega) w0).mono ?_
      rintro e w1 ⟨d, b, m, rfl, d1, hd, hb, hm, b1⟩
      have hs0 := B0.out.size
      have D1 : Hid (Dev w1 d b m (newS p)) := d1
      have B1 : Hid (Below w.heap.size w w1) := B0.out.trans (b1.mono hs0)
      have HV : Hid (∀ k, Dv d b m k → w.heap.size ≤ k ∧ k < w1.heap.size) := fun k h => ⟨h.of_lt (by omega) (by omega) (by omega), by have := d1.lt; rcases h with h | h | h <;> omega⟩
      clear d1 b1 hd hb hm hs0 B0
      go_wp2_with fail
      refine (rnew_any p (by omega) (by omega) w1).mono ?_
      rintro e w2 ⟨r, x, rfl, r2, hr2, b2⟩
      have D2 : Hid (Dev w2 d b m (newS p)) := Dev.below D1.out b2 (Nat.le_refl _)
      have R2 : Hid (Rf w2 r x (newS p)) := r2
      have B2 : Hid (Below w.heap.size w w2) := B1.out.trans (b2.mono B1.out.size)
      have HR : Hid (∀ k, Rv r x k → w1.heap.size ≤ k) := hr2
      have HW1 : Hid (w.heap.size ≤ w1.heap.size) := B1.out.size
      clear r2 hr2 b2 D1 B1
      go_wp2_with fail
      go_loopw [10] (fun iv wr => ∃ (k : Nat) (s : St), iv = .int .i64 (k : Int) ∧ k ≤ n ∧ k ≤ 40 ∧ Dev wr d b m s ∧ Rf wr r x s ∧ Ok s ∧ s.n = p ∧ Below w.heap.size w wr) (fun iv _ => 40 - natOf iv)
      case atStart => exact ⟨0, newS p, rfl, by omega, by omega, D2.out, R2.out, newS_ok p (by omega) (by omega), rfl, B2.out⟩
      case round =>
        obtain ⟨k, s, rfl, hkn, hk5, hd, hr, hk, hsn, hb⟩ := hrel
        have HD : Hid (Dev wr d b m s) := hd
        have HF : Hid (Rf wr r x s) := hr
        have HK : Hid (Ok s) := hk
        have HN : Hid (s.n = p) := hsn
        have HB : Hid (Below w.heap.size w wr) := hb
        clear hd hr hk hsn hb D2 R2 B2
        by_cases hlt : k < n ∧ k < 40
        · obtain ⟨hk1, hk2⟩ := hlt
          have q1 : (k : Int) < (n : Int) := by omega
          have q2 : (k : Int) < 40 := by omega
          have q0 : (0 : Int) ≤ (k : Int) := by omega
          have HO' : Hid (Os wr o n f) := Os.below HO.out HB.out
          obtain ⟨fb, off, rfl, hfl, hfc⟩ := HO'.out (by omega)
          obtain ⟨x1, x2⟩ := hfc k hk1
          have HX : Hid (OpOk wr (f k)) := x2
          have HX0 : Hid (OpOk w (f k)) := by
            obtain ⟨_, _, _, _, h⟩ := HO.out (by omega)
            exact (h k hk1).2
          obtain ⟨c0, c1, c2, c3, c4⟩ := x1
          generalize f k = y at *
          clear hfc x2 HO'
          have HAp : Hid (Apart d b m r x wr.heap.size y) := ⟨fun j h1 h2 => by have := (HV.out j h1).2; have := HR.out j h2; omega, fun h => by have := HD.out.lt; rcases h with h | h | h <;> omega, fun h => Nat.lt_irrefl _ (HF.out.own h), fun hne a ha => by
            have := HX0.out.fb hne a ha
            exact ⟨fun h => by have := (HV.out _ h).1; omega, fun h => by have := HR.out _ h; have := HW1.out; omega⟩⟩
          go_wp2_with fail
          refine (did_any 30 (by omega) HS.out d b m r x y s wr (two_of HD.out HF.out HK.out HX.out) HAp.out HX.out (by rw [HN.out]; exact hp1)).mono ?_
          rintro e w3 ⟨rfl, s', d3, r3, k3, hn3, b3⟩
          have D3 : Hid (Dev w3.drew d b m s') := Dev.same d3 rfl rfl rfl
          have R3 : Hid (Rf w3.drew r x s') := r3.same fun _ _ => rfl
          have K3 : Hid (Ok s') := k3
          have N3 : Hid (s'.n = p) := hn3.trans HN.out
          have B3 : Hid (Below w.heap.size w w3.drew) := (HB.out.trans (b3.below (fun j h => h.elim (fun h => (HV.out j h).1) (fun h => Nat.le_trans HW1.out (HR.out j h))) HB.out.size)).drew
          obtain ⟨y3, z3⟩ := r3.c3
          obtain ⟨y4, z4⟩ := r3.c4
          obtain ⟨y5, z5⟩ := r3.c5
          have hneq := neq_same s'.cnt s'.tag s'.boots
          have hle : s'.n ≤ 4096 := k3.n1
          have HLE : Hid (s'.n ≤ 4096) := hle
          clear d3 r3 k3 hn3 b3 HD HF HK HN HB HX HX0 HAp c0 c1 c2 c3 c4 z3 z4 z5 hle
          go_wp2_with fail
          go_region_held3 (fun w' => w'.cell? ⟨r, 3, none⟩ = some (.int .u64 s'.cnt) ∧ w'.cell? ⟨r, 4, none⟩ = some (.string s'.tag) ∧ w'.cell? ⟨r, 5, none⟩ = some (.int .u32 s'.boots)) (first | go_keep | (refine ⟨?_, ?_, ?_⟩ <;> assumption)) (first
            | (go_at_call 15; refine (image_any d b m s' _ ?_ K3.out).mono ?_; exact D3.out; rintro e w4 ⟨g4, rfl, t4, hg4, b4⟩; have r4 := R3.out.below b4 (Nat.le_refl _); have d4 := D3.out.below b4 (Nat.le_refl _); have e4 := r4.c3.1; have f4 := r4.c4.1; have h4 := r4.c5.1)
            | (go_at_call 16; refine (rimage_any r x s' w4 ?_ K3.out).mono ?_; exact r4; rintro e w5 ⟨g5, c5, rfl, t5, hg5, b5⟩; have r5 := r4.below b5 (Nat.le_refl _); have d5 := d4.below b5 (Nat.le_refl _); have e5 := r5.c3.1; have f5 := r5.c4.1; have h5 := r5.c5.1)
            | (go_at_call 14; refine (same_any g4 g5 s'.n s'.n c5 (holdS s') (holdS s') HLE.out (fun _ _ => rfl) w5 ?_ t5).mono ?_; exact Tx.same (Tx.of t4) (b5.block g4 (Tx.of t4).lt); rintro e w6 ⟨rfl, b6⟩; have r6 := r5.below b6 (Nat.le_refl _); have d6 := d5.below b6 (Nat.le_refl _); have e6 := r6.c3.1; have f6 := r6.c4.1; have h6 := r6.c5.1)
            | (go_at_call 17; refine (reg_agg d b m s' w6 ?_).mono ?_; exact d6; rintro e w7 ⟨rfl, b7⟩; have r7 := r6.below b7 (Nat.le_refl _); have d7 := d6.below b7 (Nat.le_refl _); have e7 := r7.c3.1; have f7 := r7.c4.1; have h7 := r7.c5.1)
            | (go_at_call 18; refine (blocks_is d b m s' p N3.out w7 ?_).mono ?_; exact d7; rintro e w8 ⟨rfl, rfl⟩))
          have HB8 : Hid (Below w.heap.size w w8) := (((B3.out.trans (b4.mono B3.out.size)).trans (b5.mono (B3.out.trans (b4.mono B3.out.size)).size)).trans (b6.mono ((B3.out.trans (b4.mono B3.out.size)).trans (b5.mono (B3.out.trans (b4.mono B3.out.size)).size)).size)).trans (b7.mono (((B3.out.trans (b4.mono B3.out.size)).trans (b5.mono (B3.out.trans (b4.mono B3.out.size)).size)).trans (b6.mono ((B3.out.trans (b4.mono B3.out.size)).trans (b5.mono (B3.out.trans (b4.mono B3.out.size)).size)).size)).size)
          have HR8 : Hid (Rf w8 r x s') := r7
          have HD8 : Hid (Dev w8 d b m s') := d7
          clear b4 b5 b6 b7 r4 r5 r6 r7 d4 d5 d6 d7 t4 t5
          go_wp2_with fail
          go_roundw
          case rel => exact ⟨k + 1, s', by go_num, by omega, by omega, HD8.out, HR8.out, K3.out, N3.out, HB8.out⟩
          case measure => simp [natOf]; omega
        · by_cases hk1 : k < n
          · have q1 : (k : Int) < (n : Int) := by omega
            have q2 : ¬ (k : Int) < 40 := by omega
            clear hlt HO
            go_wp2_with fail
            go_ret
            exact ⟨rfl, HB.out⟩
          · have q1 : ¬ (k : Int) < (n : Int) := by omega
            clear hlt HO
            go_wp2_with fail
            go_ret
            exact ⟨rfl, HB.out⟩
    · obtain ⟨p, hp, hp0, hp1⟩ : ∃ p : Nat, q = p ∧ 4 ≤ p ∧ p ≤ 30 := ⟨q, rfl, by omega, by omega⟩
      subst hp
      clear hbad
      go_wp2_with fail
      refine (new_any q (by omega) (by omega) w0).mono ?_
      rintro e w1 ⟨d, b, m, rfl, d1, hd, hb, hm, b1⟩
      have hs0 := B0.out.size
      have D1 : Hid (Dev w1 d b m (newS q)) := d1
      have B1 : Hid (Below w.heap.size w w1) := B0.out.trans (b1.mono hs0)
      have HV : Hid (∀ k, Dv d b m k → w.heap.size ≤ k ∧ k < w1.heap.size) := fun k h => ⟨h.of_lt (by omega) (by omega) (by omega), by have := d1.lt; rcases h with h | h | h <;> omega⟩
      clear d1 b1 hd hb hm hs0 B0
      go_wp2_with fail
      refine (rnew_any q (by omega) (by omega) w1).mono ?_
      rintro e w2 ⟨r, x, rfl, r2, hr2, b2⟩
      have D2 : Hid (Dev w2 d b m (newS q)) := Dev.below D1.out b2 (Nat.le_refl _)
      have R2 : Hid (Rf w2 r x (newS q)) := r2
      have B2 : Hid (Below w.heap.size w w2) := B1.out.trans (b2.mono B1.out.size)
      have HR : Hid (∀ k, Rv r x k → w1.heap.size ≤ k) := hr2
      have HW1 : Hid (w.heap.size ≤ w1.heap.size) := B1.out.size
      clear r2 hr2 b2 D1 B1
      go_wp2_with fail
      go_loopw [10] (fun iv wr => ∃ (k : Nat) (s : St), iv = .int .i64 (k : Int) ∧ k ≤ n ∧ k ≤ 40 ∧ Dev wr d b m s ∧ Rf wr r x s ∧ Ok s ∧ s.n = q ∧ Below w.heap.size w wr) (fun iv _ => 40 - natOf iv)
      case atStart => exact ⟨0, newS q, rfl, by omega, by omega, D2.out, R2.out, newS_ok q (by omega) (by omega), rfl, B2.out⟩
      case round =>
        obtain ⟨k, s, rfl, hkn, hk5, hd, hr, hk, hsn, hb⟩ := hrel
        have HD : Hid (Dev wr d b m s) := hd
        have HF : Hid (Rf wr r x s) := hr
        have HK : Hid (Ok s) := hk
        have HN : Hid (s.n = q) := hsn
        have HB : Hid (Below w.heap.size w wr) := hb
        clear hd hr hk hsn hb D2 R2 B2
        by_cases hlt : k < n ∧ k < 40
        · obtain ⟨hk1, hk2⟩ := hlt
          have q1 : (k : Int) < (n : Int) := by omega
          have q2 : (k : Int) < 40 := by omega
          have q0 : (0 : Int) ≤ (k : Int) := by omega
          have HO' : Hid (Os wr o n f) := Os.below HO.out HB.out
          obtain ⟨fb, off, rfl, hfl, hfc⟩ := HO'.out (by omega)
          obtain ⟨x1, x2⟩ := hfc k hk1
          have HX : Hid (OpOk wr (f k)) := x2
          have HX0 : Hid (OpOk w (f k)) := by
            obtain ⟨_, _, _, _, h⟩ := HO.out (by omega)
            exact (h k hk1).2
          obtain ⟨c0, c1, c2, c3, c4⟩ := x1
          generalize f k = y at *
          clear hfc x2 HO'
          have HAp : Hid (Apart d b m r x wr.heap.size y) := ⟨fun j h1 h2 => by have := (HV.out j h1).2; have := HR.out j h2; omega, fun h => by have := HD.out.lt; rcases h with h | h | h <;> omega, fun h => Nat.lt_irrefl _ (HF.out.own h), fun hne a ha => by
            have := HX0.out.fb hne a ha
            exact ⟨fun h => by have := (HV.out _ h).1; omega, fun h => by have := HR.out _ h; have := HW1.out; omega⟩⟩
          go_wp2_with fail
          refine (did_any 30 (by omega) HS.out d b m r x y s wr (two_of HD.out HF.out HK.out HX.out) HAp.out HX.out (by rw [HN.out]; exact hp1)).mono ?_
          rintro e w3 ⟨rfl, s', d3, r3, k3, hn3, b3⟩
          have D3 : Hid (Dev w3.drew d b m s') := Dev.same d3 rfl rfl rfl
          have R3 : Hid (Rf w3.drew r x s') := r3.same fun _ _ => rfl
          have K3 : Hid (Ok s') := k3
          have N3 : Hid (s'.n = q) := hn3.trans HN.out
          have B3 : Hid (Below w.heap.size w w3.drew) := (HB.out.trans (b3.below (fun j h => h.elim (fun h => (HV.out j h).1) (fun h => Nat.le_trans HW1.out (HR.out j h))) HB.out.size)).drew
          obtain ⟨y3, z3⟩ := r3.c3
          obtain ⟨y4, z4⟩ := r3.c4
          obtain ⟨y5, z5⟩ := r3.c5
          have hneq := neq_same s'.cnt s'.tag s'.boots
          have hle : s'.n ≤ 4096 := k3.n1
          have HLE : Hid (s'.n ≤ 4096) := hle
          clear d3 r3 k3 hn3 b3 HD HF HK HN HB HX HX0 HAp c0 c1 c2 c3 c4 z3 z4 z5 hle
          go_wp2_with fail
          go_region_held3 (fun w' => w'.cell? ⟨r, 3, none⟩ = some (.int .u64 s'.cnt) ∧ w'.cell? ⟨r, 4, none⟩ = some (.string s'.tag) ∧ w'.cell? ⟨r, 5, none⟩ = some (.int .u32 s'.boots)) (first | go_keep | (refine ⟨?_, ?_, ?_⟩ <;> assumption)) (first
            | (go_at_call 15; refine (image_any d b m s' _ ?_ K3.out).mono ?_; exact D3.out; rintro e w4 ⟨g4, rfl, t4, hg4, b4⟩; have r4 := R3.out.below b4 (Nat.le_refl _); have d4 := D3.out.below b4 (Nat.le_refl _); have e4 := r4.c3.1; have f4 := r4.c4.1; have h4 := r4.c5.1)
            | (go_at_call 16; refine (rimage_any r x s' w4 ?_ K3.out).mono ?_; exact r4; rintro e w5 ⟨g5, c5, rfl, t5, hg5, b5⟩; have r5 := r4.below b5 (Nat.le_refl _); have d5 := d4.below b5 (Nat.le_refl _); have e5 := r5.c3.1; have f5 := r5.c4.1; have h5 := r5.c5.1)
            | (go_at_call 14; refine (same_any g4 g5 s'.n s'.n c5 (holdS s') (holdS s') HLE.out (fun _ _ => rfl) w5 ?_ t5).mono ?_; exact Tx.same (Tx.of t4) (b5.block g4 (Tx.of t4).lt); rintro e w6 ⟨rfl, b6⟩; have r6 := r5.below b6 (Nat.le_refl _); have d6 := d5.below b6 (Nat.le_refl _); have e6 := r6.c3.1; have f6 := r6.c4.1; have h6 := r6.c5.1)
            | (go_at_call 17; refine (reg_agg d b m s' w6 ?_).mono ?_; exact d6; rintro e w7 ⟨rfl, b7⟩; have r7 := r6.below b7 (Nat.le_refl _); have d7 := d6.below b7 (Nat.le_refl _); have e7 := r7.c3.1; have f7 := r7.c4.1; have h7 := r7.c5.1)
            | (go_at_call 18; refine (blocks_is d b m s' q N3.out w7 ?_).mono ?_; exact d7; rintro e w8 ⟨rfl, rfl⟩))
          have HB8 : Hid (Below w.heap.size w w8) := (((B3.out.trans (b4.mono B3.out.size)).trans (b5.mono (B3.out.trans (b4.mono B3.out.size)).size)).trans (b6.mono ((B3.out.trans (b4.mono B3.out.size)).trans (b5.mono (B3.out.trans (b4.mono B3.out.size)).size)).size)).trans (b7.mono (((B3.out.trans (b4.mono B3.out.size)).trans (b5.mono (B3.out.trans (b4.mono B3.out.size)).size)).trans (b6.mono ((B3.out.trans (b4.mono B3.out.size)).trans (b5.mono (B3.out.trans (b4.mono B3.out.size)).size)).size)).size)
          have HR8 : Hid (Rf w8 r x s') := r7
          have HD8 : Hid (Dev w8 d b m s') := d7
          clear b4 b5 b6 b7 r4 r5 r6 r7 d4 d5 d6 d7 t4 t5
          go_wp2_with fail
          go_roundw
          case rel => exact ⟨k + 1, s', by go_num, by omega, by omega, HD8.out, HR8.out, K3.out, N3.out, HB8.out⟩
          case measure => simp [natOf]; omega
        · by_cases hk1 : k < n
          · have q1 : (k : Int) < (n : Int) := by omega
            have q2 : ¬ (k : Int) < 40 := by omega
            clear hlt HO
            go_wp2_with fail
            go_ret
            exact ⟨rfl, HB.out⟩
          · have q1 : ¬ (k : Int) < (n : Int) := by omega
            clear hlt HO
            go_wp2_with fail
            go_ret
            exact ⟨rfl, HB.out⟩
end Go.Proofs.Ytkpfnepbnaekoaa.Rd
