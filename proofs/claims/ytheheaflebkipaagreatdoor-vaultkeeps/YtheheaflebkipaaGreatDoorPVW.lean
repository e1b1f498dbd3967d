/- VaultKeeps. -/
import Derived.Test.YtheheaflebkipaaGreatDoorQVM
namespace Go.Proofs.YtheheaflebkipaaGreatDoor.Rv
open Go.RowKit Go.Lib
open Go.Proofs.YtheheaflebkipaaGreatDoor.Rd (But St Ok Dev Dv pt below_new natOf)
set_option maxRecDepth 100000 in
set_option maxHeartbeats 16000000 in
theorem vaultKeeps_walk (Kt : Nat → Int) (n : Nat) (f : Nat → ByteArray) (o : Option Addr) (c : Nat) (w : World) (hn : n ≤ maxLen) (hz : Tz w o n f) (hT0 : Rs.Tb Kt w) : Calls Tryz.prog 6 #[.slice o n c] w fun e w' => e = .returned (.bool true) ∧ Below w.heap.size w w' := by
  have HT0 : Hid (Rs.Tb Kt w) := hT0
  have HZ0 : Hid (Tz w o n f) := hz
  have HSh : Hid (∀ _ : True, _) := fun _ => shown_any Kt w hT0
  obtain ⟨tg, htg⟩ : ∃ tg : Nat → ByteArray, (fun j => Rs.tagS (kB Kt f j)) = tg := ⟨_, rfl⟩
  obtain ⟨xx, hxx⟩ : ∃ xx : Nat → ByteArray, (fun j => cutS (f j)) = xx := ⟨_, rfl⟩
  obtain ⟨T, hTT⟩ : ∃ T : Nat → St, (fun k => kT Kt f k) = T := ⟨_, rfl⟩
  have HW : Hid (∀ k, k < 14 → ∀ A W, Vlt W A (kV k) (T k) → Rs.Tb Kt W → Calls Tryz.prog 22 #[pt A.g, .string (xx k)] W fun e w' => e = .returned (.tuple #[rf (k + 2) (tg k), .int .i64 0]) ∧ Vlt w' A (kV (k + 1)) (T (k + 1)) ∧ But A.has W w') := fun k hk A W hv hT => by
    subst htg hxx hTT
    obtain ⟨a, b, -⟩ := kT_is Kt f k (by omega)
    exact write_honest Kt A (kV k) (kT Kt f k) (cutS (f k)) (cutS_size _) (k + 2) W hv (kV_ok k (by omega)) a hT (by rw [b]; exact kV_least k hk) (by omega)
  have HWf : Hid (∀ A W, Vlt W A (kV 14) (T 14) → Calls Tryz.prog 22 #[pt A.g, .string (xx 14)] W fun e w' => e = .returned (.tuple #[rf 0 ⟨#[]⟩, .int .i64 110]) ∧ Below W.heap.size W w') := fun A W hv => by
    subst htg hxx hTT
    obtain ⟨a, b, -⟩ := kT_is Kt f 14 (by omega)
    exact write_full A (kV 14) (kT Kt f 14) (cutS (f 14)) (cutS_size _) W hv a.ok (by rw [b]; exact kV_full)
  have HRd : Hid (∀ k j, k ≤ 14 → j < k → ∀ (A : Pl) W, Vlt W A (kV k) (T k) → Rs.Tb Kt W → Calls Tryz.prog 24 #[pt A.g, rf (j + 2) (tg j)] W fun e w' => e = .returned (.tuple #[.string (xx j), .int .i64 0]) ∧ Below W.heap.size W w') := fun k j hk hj A W hv hT => by
    subst htg hxx hTT
    have hp := k_page Kt f k j hk hj
    have := read_any Kt A (kV k) (kT Kt f k) (j + 2) (by omega) (Rs.tagS (kB Kt f j)) W hv (kT_is Kt f k hk).1.ok hT
    rw [hp.1, hp.2.1] at this
    exact this
  have HGn : Hid (∀ k j, k ≤ 14 → j < k → ∀ (A : Pl) W, Vlt W A (kV k) (T k) → Rs.Tb Kt W → Calls Tryz.prog 26 #[pt A.g, rf (j + 2) (tg j)] W fun e w' => e = .returned (.tuple #[.int .u32 1, .int .i64 0]) ∧ Below W.heap.size W w') := fun k j hk hj A W hv hT => by
    subst htg hxx hTT
    have hp := k_page Kt f k j hk hj
    have := gen_any Kt A (kV k) (kT Kt f k) (j + 2) (by omega) (Rs.tagS (kB Kt f j)) W hv (kT_is Kt f k hk).1.ok hT
    rw [hp.1, hp.2.2] at this
    exact this
  have HFree : Hid (∀ k, k ≤ 14 → ∀ (A : Pl) W, Vlt W A (kV k) (T k) → Calls Tryz.prog 16 #[pt A.g] W fun e w' => e = .returned (.int .i64 ((14 - k : Nat) : Int)) ∧ Below W.heap.size W w') := fun k hk A W hv => by
    subst htg hxx hTT
    obtain ⟨a, b, -⟩ := kT_is Kt f k hk
    have hnt := (kV_is k).2.2.2.2.1
    have := vfree_any A (kV k) (kT Kt f k) W hv a.ok (by rw [b, hnt]; omega)
    rw [b, hnt, show 16 - (k + 2) = 14 - k by omega] at this
    exact this
  have HM2 : Hid (∀ W, Rs.Tb Kt W → Calls Tryz.prog 11 #[.int .i64 16] W fun e w' => ∃ (A : Pl) (q : Nat), e = .returned (.tuple #[pt A.g, pt A.d, pt q, .bool true]) ∧ Vlt w' A (kV 0) (T 0) ∧ (∀ k, A.has k → W.heap.size ≤ k) ∧ Below W.heap.size W w') := fun W hW => by
    subst hTT
    exact made_any Kt 16 (by omega) (by omega) W hW
  have HCt : Hid (∀ k, (if (198 : Int) < ((f k).size : Int) then (198 : Int) else ((f k).size : Int)) = ((min (f k).size 198 : Nat) : Int) ∧ ∀ w, (Instr.sliceAt 9 (.string (f k)) none (some (.int .i64 ((min (f k).size 198 : Nat) : Int))) none).run Tryz.prog w = .ok (.string (xx k)) w) := fun k => by
    subst hxx
    exact ⟨cut_min (f k), fun w => cut_run (f k) w⟩
  have hnn : (n : Int) ≤ 9223372036854775807 := by simp only [maxLen] at hn; omega
  clear hT0 hz htg hxx hTT hn
  go_enter Tryz.func6, Tryz.ntmps6
  go_wp2_with fail
  refine Calls.mono (HSh.out trivial) ?_
  rintro e u0 ⟨rfl, q0⟩
  have HT : Hid (Rs.Tb Kt u0) := HT0.out.below q0 (Nat.le_refl _)
  have HB0 : Hid (Below w.heap.size w u0) := q0
  clear q0 HSh HT0
  go_wp2_with fail
  refine Calls.mono (HM2.out u0 HT.out) ?_
  rintro e w1 ⟨A, q, rfl, hv1, hA, b1⟩
  have HB1 : Hid (Below u0.heap.size u0 w1) := b1
  have HLo : Hid (∀ k, A.has k → u0.heap.size ≤ k) := hA
  have HHi : Hid (∀ k, A.has k → k < w1.heap.size) := fun k hk => hv1.has_lt hk
  have HV1 : Hid (Vlt w1 A (kV 0) (T 0)) := hv1
  have HZ : Hid (∀ W, But A.has w1 W → Tz W o n f) := fun W hW => HZ0.out.below (HB0.out.trans ((b1.trans (hW.below hA b1.size)).mono HB0.out.size)) (Nat.le_refl _)
  have HK0 : Hid (KI A w1 (kV 0) (T 0) tg xx 0 (.slice none 0 0) (.slice none 0 0) w1) := ⟨hv1, But.refl _ _, World.ownsRow_nil _ _ _ _, World.ownsRow_nil _ _ _ _, fun g hg => by simp [Value.ownBlock] at hg⟩
  clear hA b1 hv1 HM2 HZ0
  go_wp2_with fail
  go_loopw [8, 9, 10] (fun lv hv iv wr => ∃ k : Nat, k ≤ 14 ∧ k ≤ n ∧ iv = .int .i64 (k : Int) ∧ KI A w1 (kV k) (T k) tg xx k lv hv wr) (fun _ _ iv _ => 15 - natOf iv)
  case atStart => exact ⟨0, by omega, by omega, rfl, HK0.out⟩
  case round =>
    obtain ⟨k, hk14, hkn, rfl, hK⟩ := hrel
    obtain ⟨W1, rfl⟩ : ∃ W1, W1 = wr := ⟨_, rfl⟩
    obtain ⟨LV, rfl⟩ : ∃ LV, LV = u8 := ⟨_, rfl⟩
    obtain ⟨HVv, rfl⟩ : ∃ HVv, HVv = u9 := ⟨_, rfl⟩
    have HWk : Hid (KI A w1 (kV k) (T k) tg xx k LV HVv W1) := hK
    obtain ⟨lo, lcap, hlv, -⟩ := own_form hK.l
    by_cases hlt' : k < n
    · have q1 : (k : Int) < (n : Int) := by omega
      have q2 : (k : Int) < 15 := by omega
      have q0 : (0 : Int) ≤ (k : Int) := by omega
      obtain ⟨bt, off, ho, lbt, hct⟩ := HZ.out W1 hK.q (by omega)
      subst ho
      have hcell := hct k hlt'
      obtain ⟨hmin, hcut⟩ := HCt.out k
      obtain ⟨mk, hmk⟩ : ∃ mk, min (f k).size 198 = mk := ⟨_, rfl⟩
      rw [hmk] at hmin hcut
      have hm2 : min ((f k).size : Int) 198 = (mk : Int) := by omega
      obtain ⟨fk, hfk⟩ : ∃ fk, f k = fk := ⟨_, rfl⟩
      rw [hfk] at hmin hcut hcell hm2
      have HSW0 : Hid (W1.cell? ⟨bt, off + k, none⟩ = some (.string fk) ∧ True) := ⟨hcell, trivial⟩
      subst hlv
      clear hct hK hcell hmk hfk
      go_wp2_with fail
      refine wp_region_held (S := fun W => W.cell? ⟨bt, off + k, none⟩ = some (.string fk) ∧ True) (by kernel_rfl) ?_
      change wpAnyH _ _ _ _ _ _ _ _ (World.drew _)
      have HSW : Hid (W1.drew.cell? ⟨bt, off + k, none⟩ = some (.string fk) ∧ True) := HSW0.out
      refine wpAnyH_take (i := 0) (v := ?_) rfl (by kernel_rfl) (by kernel_rfl) (by kernel_rfl) (fun _ _ _ h => h) (Or.inl ⟨by kernel_rfl, ?_⟩) HSW.out ?_
      rotate_left
      · intro w hS
        obtain ⟨e0, e1⟩ := hS
        go_simp
        try with_reducible rfl
      conv in (Act.put _ _ _) => simp only [List.getElem_toArray, List.getElem_cons_succ, List.getElem_cons_zero, Act.put, List.setIfInBounds_toArray, List.set_cons_succ, List.set_cons_zero]
      refine wpAnyH_take (i := 1) (v := ?_) rfl (by kernel_rfl) (by kernel_rfl) (by kernel_rfl) (fun _ _ _ h => h) (Or.inl ⟨by kernel_rfl, ?_⟩) HSW.out ?_
      rotate_left
      · intro w hS
        obtain ⟨e0, e1⟩ := hS
        go_simp
        try with_reducible rfl
      conv in (Act.put _ _ _) => simp only [List.getElem_toArray, List.getElem_cons_succ, List.getElem_cons_zero, Act.put, List.setIfInBounds_toArray, List.set_cons_succ, List.set_cons_zero]
      refine wpAnyH_take (i := 2) (v := ?_) rfl (by kernel_rfl) (by kernel_rfl) (by kernel_rfl) (fun _ _ _ h => h) (Or.inl ⟨by kernel_rfl, ?_⟩) HSW.out ?_
      rotate_left
      · intro w hS
        obtain ⟨e0, e1⟩ := hS
        go_simp
        try with_reducible rfl
      conv in (Act.put _ _ _) => simp only [List.getElem_toArray, List.getElem_cons_succ, List.getElem_cons_zero, Act.put, List.setIfInBounds_toArray, List.set_cons_succ, List.set_cons_zero]
      refine wpAnyH_take (i := 3) (v := ?_) rfl (by kernel_rfl) (by kernel_rfl) (by kernel_rfl) (fun _ _ _ h => h) (Or.inl ⟨by kernel_rfl, ?_⟩) HSW.out ?_
      rotate_left
      · intro w hS
        obtain ⟨e0, e1⟩ := hS
        go_simp
        try with_reducible rfl
      conv in (Act.put _ _ _) => simp only [List.getElem_toArray, List.getElem_cons_succ, List.getElem_cons_zero, Act.put, List.setIfInBounds_toArray, List.set_cons_succ, List.set_cons_zero]
      refine wpAnyH_take (i := 4) (v := ?_) rfl (by kernel_rfl) (by kernel_rfl) (by kernel_rfl) (fun _ _ _ h => h) (Or.inl ⟨by kernel_rfl, ?_⟩) HSW.out ?_
      rotate_left
      · intro w hS
        obtain ⟨e0, e1⟩ := hS
        go_simp
        try with_reducible rfl
      conv in (Act.put _ _ _) => simp only [List.getElem_toArray, List.getElem_cons_succ, List.getElem_cons_zero, Act.put, List.setIfInBounds_toArray, List.set_cons_succ, List.set_cons_zero]
      refine wpAnyH_take (i := 5) (v := ?_) rfl (by kernel_rfl) (by kernel_rfl) (by kernel_rfl) (fun _ _ _ h => h) (Or.inl ⟨by kernel_rfl, ?_⟩) HSW.out ?_
      rotate_left
      · intro w hS
        obtain ⟨e0, e1⟩ := hS
        go_simp
        try with_reducible rfl
      conv in (Act.put _ _ _) => simp only [List.getElem_toArray, List.getElem_cons_succ, List.getElem_cons_zero, Act.put, List.setIfInBounds_toArray, List.set_cons_succ, List.set_cons_zero]
      refine wpAnyH_take (i := 6) (v := ?_) rfl (by kernel_rfl) (by kernel_rfl) (by kernel_rfl) (fun _ _ _ h => h) (Or.inl ⟨by kernel_rfl, ?_⟩) HSW.out ?_
      rotate_left
      · intro w hS
        obtain ⟨e0, e1⟩ := hS
        go_simp
        try with_reducible rfl
      conv in (Act.put _ _ _) => simp only [List.getElem_toArray, List.getElem_cons_succ, List.getElem_cons_zero, Act.put, List.setIfInBounds_toArray, List.set_cons_succ, List.set_cons_zero]
      refine wpAnyH_take (i := 7) (v := ?_) rfl (by kernel_rfl) (by kernel_rfl) (by kernel_rfl) (fun _ _ _ h => h) (Or.inl ⟨by kernel_rfl, ?_⟩) HSW.out ?_
      rotate_left
      · intro w hS
        obtain ⟨e0, e1⟩ := hS
        go_simp
        try with_reducible rfl
      conv in (Act.put _ _ _) => simp only [List.getElem_toArray, List.getElem_cons_succ, List.getElem_cons_zero, Act.put, List.setIfInBounds_toArray, List.set_cons_succ, List.set_cons_zero]
      refine wpAnyH_take (i := 8) (v := ?_) rfl (by kernel_rfl) (by kernel_rfl) (by kernel_rfl) (fun _ _ _ h => h) (Or.inl ⟨by kernel_rfl, ?_⟩) HSW.out ?_
      rotate_left
      · intro w hS
        obtain ⟨e0, e1⟩ := hS
        go_simp
        try with_reducible rfl
      conv in (Act.put _ _ _) => simp only [List.getElem_toArray, List.getElem_cons_succ, List.getElem_cons_zero, Act.put, List.setIfInBounds_toArray, List.set_cons_succ, List.set_cons_zero]
      refine wpAnyH_take (i := 9) (v := ?_) rfl (by kernel_rfl) (by kernel_rfl) (by kernel_rfl) (fun _ _ _ h => h) (Or.inl ⟨by kernel_rfl, ?_⟩) HSW.out ?_
      rotate_left
      · intro w hS
        obtain ⟨e0, e1⟩ := hS
        go_simp
        try with_reducible rfl
      conv in (Act.put _ _ _) => simp only [List.getElem_toArray, List.getElem_cons_succ, List.getElem_cons_zero, Act.put, List.setIfInBounds_toArray, List.set_cons_succ, List.set_cons_zero]
      refine wpAnyH_take (i := 10) (v := ?_) rfl (by kernel_rfl) (by kernel_rfl) (by kernel_rfl) (fun _ _ _ h => h) (Or.inl ⟨by kernel_rfl, ?_⟩) HSW.out ?_
      rotate_left
      · intro w hS
        obtain ⟨e0, e1⟩ := hS
        go_simp
        try with_reducible rfl
      conv in (Act.put _ _ _) => simp only [List.getElem_toArray, List.getElem_cons_succ, List.getElem_cons_zero, Act.put, List.setIfInBounds_toArray, List.set_cons_succ, List.set_cons_zero]
      refine wpAnyH_take (i := 11) (v := ?_) rfl (by kernel_rfl) (by kernel_rfl) (by kernel_rfl) (fun _ _ _ h => h) (Or.inl ⟨by kernel_rfl, ?_⟩) HSW.out ?_
      rotate_left
      · intro w hS
        obtain ⟨e0, e1⟩ := hS
        go_simp
        try with_reducible rfl
      conv in (Act.put _ _ _) => simp only [List.getElem_toArray, List.getElem_cons_succ, List.getElem_cons_zero, Act.put, List.setIfInBounds_toArray, List.set_cons_succ, List.set_cons_zero]
      refine wpAnyH_done (by kernel_rfl) ?_ _
      have HKd : Hid (KI A w1 (kV k) (T k) tg xx k (.slice lo k lcap) HVv W1.drew) := HWk.out.below (Below.refl _ W1).drew
      by_cases hk : k < 14
      · have HWr : Hid (∀ _ : True, _) := fun _ => HW.out k hk A W1.drew HKd.out.v (tb_above HT.out HB1.out HLo.out HKd.out.q)
        have hpush : ∀ W, KI A w1 (kV (k + 1)) (T (k + 1)) tg xx k (.slice lo k lcap) HVv W → _ := fun W h => h.push HV1.out (by rw [(kV_is (k + 1)).1, (kV_is 0).1]) (by omega)
        have HPu : Hid _ := hpush
        clear hpush
        obtain ⟨pk, hpk⟩ : ∃ pk : Int, ((k + 2 : Nat) : Int) = pk := ⟨_, rfl⟩
        simp only [rf, hpk] at HWr HPu
        have q3 : ((k : Int) == 14) = false := by rw [beq_eq_false_iff_ne]; omega
        have q4 : decide ((k : Int) = 14) = false := decide_eq_false (by omega)
        have k2 : (k : Int) + 1 ≤ 9223372036854775807 := by omega
        clear HSW HSW0 hmin hcut hm2 HWk
        go_wp2_with fail
        refine Calls.mono (HWr.out trivial) ?_
        rintro e W2 ⟨rfl, hv2, b2⟩
        have hK2 := HKd.out.but HHi.out hv2 b2
        have b3 := below_new W2 (.cells #[.int .u32 pk, .string (tg k)] 55)
        have a3 : FB W2.heap.size pk (tg k) (W2.alloc (.cells #[.int .u32 pk, .string (tg k)] 55)) := heap_alloc_new W2 _
        obtain ⟨W3, hW3⟩ : ∃ W3, W2.alloc (.cells #[.int .u32 pk, .string (tg k)] 55) = W3 := ⟨_, rfl⟩
        rw [hW3] at b3 a3
        have HW3 : Hid _ := hW3
        have hK3 := hK2.below b3
        obtain ⟨lv', X1, r1, hv', X2, r2, hK4⟩ := HPu.out W3 hK3
        have HK4 : Hid (KI A w1 (kV (k + 1)) (T (k + 1)) tg xx (k + 1) lv' hv' X2) := hK4
        obtain ⟨-, -, x0, x1⟩ := a3.facts
        have lx := hlt a3
        clear hv2 b2 hK2 b3 a3 hW3 hK3 hK4 HWr HPu HKd
        go_wp2_with (first | (rw [HW3.out]; clear HW3) | (at_builtin; refine list_append rfl 29 29 (.tmp 63) (.tmp 65) rfl (vs := .slice lo k lcap) (vx := .slice (some ⟨W3.heap.size, 0, none⟩) 1 1) rfl rfl r1 ?_) | (at_builtin; refine list_append rfl 36 36 (.tmp 67) (.tmp 69) rfl (vs := HVv) (vx := .slice (some ⟨X1.heap.size, 0, none⟩) 1 1) rfl rfl r2 ?_))
        go_roundw
        case rel => exact ⟨k + 1, by omega, by omega, by go_num, HK4.out⟩
        case measure => simp [natOf]; omega
      · obtain rfl : 14 = k := by omega
        have HWr : Hid (∀ _ : True, _) := fun _ => HWf.out A W1.drew HKd.out.v
        clear HSW HSW0 hmin hcut hm2 HWk
        go_wp2_with fail
        refine Calls.mono (HWr.out trivial) ?_
        rintro e W2 ⟨rfl, b2⟩
        have b3 := below_new W2 (.cells #[.int .u32 0, .string ⟨#[]⟩] 55)
        have HK3 : Hid (KI A w1 (kV 14) (T 14) tg xx 14 (.slice lo 14 lcap) HVv (W2.alloc (.cells #[.int .u32 0, .string ⟨#[]⟩] 55))) := (HKd.out.below b2).below b3
        clear b2 b3 HKd HWr
        go_wp2_with fail
        go_loopw [14] (fun iv wr => ∃ j : Nat, j ≤ 14 ∧ iv = .int .i64 (j : Int) ∧ KI A w1 (kV 14) (T 14) tg xx 14 (.slice lo 14 lcap) HVv wr) (fun iv _ => 14 - natOf iv)
        case atStart => exact ⟨0, Nat.zero_le _, rfl, HK3.out⟩
        case round =>
          obtain ⟨j, hj, rfl, hK⟩ := hrel
          obtain ⟨X1, rfl⟩ : ∃ X1, X1 = wr := ⟨_, rfl⟩
          have HK1 : Hid (KI A w1 (kV 14) (T 14) tg xx 14 (.slice lo 14 lcap) HVv X1) := hK
          by_cases hjk : j < 14
          · have p1 : (j : Int) < (14 : Int) := by omega
            have p0 : (0 : Int) ≤ (j : Int) := by omega
            obtain ⟨b, cp, b', cp', hlv, hhv, lb, lb', x0, x1, x2⟩ := hK.ref hjk
            cases hlv
            cases hhv
            have HRj : Hid _ := HRd.out 14 j hk14 hjk A
            have HGj : Hid _ := HGn.out 14 j hk14 hjk A
            have x0' : X1.cell? ⟨b, 0 + j * 2, none⟩ = some (.int .u32 ((j + 2 : Nat) : Int)) := by rw [Nat.zero_add]; exact x0
            have x1' : X1.cell? ⟨b, 0 + j * 2 + 1, none⟩ = some (.string (tg j)) := by rw [Nat.zero_add]; exact x1
            clear hK
            go_wp2_with fail
            refine Calls.mono (HRj.out X1 HK1.out.v (tb_above HT.out HB1.out HLo.out HK1.out.q)) ?_
            rintro e X2 ⟨rfl, b2⟩
            have HK2 : Hid (KI A w1 (kV 14) (T 14) tg xx 14 (.slice (some ⟨b, 0, none⟩) 14 lcap) (.slice (some ⟨b', 0, none⟩) 14 cp') X2) := HK1.out.below b2
            obtain ⟨c, cq, c', cq', hlv, hhv, lc, lc', y0, y1, y2⟩ := HK2.out.ref hjk
            cases hlv
            cases hhv
            clear b2 x0 x1 x2 lb lb' x0' x1'
            go_wp2_with fail
            refine Calls.mono (HGj.out X2 HK2.out.v (tb_above HT.out HB1.out HLo.out HK2.out.q)) ?_
            rintro e X3 ⟨rfl, b3⟩
            have HK3 : Hid (KI A w1 (kV 14) (T 14) tg xx 14 (.slice (some ⟨b, 0, none⟩) 14 lcap) (.slice (some ⟨b', 0, none⟩) 14 cp') X3) := HK2.out.below b3
            obtain ⟨c, cq, c', cq', hlv, hhv, lc, lc', x0, x1, x2⟩ := HK3.out.ref hjk
            cases hlv
            cases hhv
            have x2' : X3.cell? ⟨b', 0 + j, none⟩ = some (.string (xx j)) := by rw [Nat.zero_add]; exact x2
            have qe : ((xx j).toList == (xx j).toList) = true := beq_self_eq_true _
            clear b3 y0 y1 y2
            go_wp2_with fail
            go_roundw
            case rel => exact ⟨j + 1, by omega, by go_num, HK3.out⟩
            case measure => simp [natOf]; omega
          · obtain rfl : 14 = j := by omega
            have p1 : ¬ ((14 : Nat) : Int) < (14 : Int) := by omega
            have HFr : Hid (∀ _ : True, _) := fun _ => HFree.out 14 hk14 A X1 HK1.out.v
            have p2 : IntKind.i64.wrap (14 - ((14 : Nat) : Int)) = ((14 - 14 : Nat) : Int) := by rw [IntWalk.i64_in _ ⟨by omega, by omega⟩]; omega
            clear hK
            go_wp2_with fail
            refine Calls.mono (HFr.out trivial) ?_
            rintro e X2 ⟨rfl, b2⟩
            have HQ2 : Hid (But A.has w1 X2) := but_above HK1.out.q (b2.mono HK1.out.q.size)
            clear b2
            go_wp2_with fail
            go_ret
            exact ⟨by simp, HB0.out.trans ((HB1.out.trans (HQ2.out.below HLo.out HB1.out.size)).mono HB0.out.size)⟩
    · obtain rfl : k = n := by omega
      have q1 : ¬ ((k : Nat) : Int) < (k : Int) := by omega
      subst hlv
      clear hK
      go_wp2_with fail
      go_loopw [14] (fun iv wr => ∃ j : Nat, j ≤ k ∧ iv = .int .i64 (j : Int) ∧ KI A w1 (kV k) (T k) tg xx k (.slice lo k lcap) HVv wr) (fun iv _ => k - natOf iv)
      case atStart => exact ⟨0, Nat.zero_le _, rfl, HWk.out⟩
      case round =>
        obtain ⟨j, hj, rfl, hK⟩ := hrel
        obtain ⟨X1, rfl⟩ : ∃ X1, X1 = wr := ⟨_, rfl⟩
        have HK1 : Hid (KI A w1 (kV k) (T k) tg xx k (.slice lo k lcap) HVv X1) := hK
        by_cases hjk : j < k
        · have p1 : (j : Int) < (k : Int) := by omega
          have p0 : (0 : Int) ≤ (j : Int) := by omega
          obtain ⟨b, cp, b', cp', hlv, hhv, lb, lb', x0, x1, x2⟩ := hK.ref hjk
          cases hlv
          cases hhv
          have HRj : Hid _ := HRd.out k j hk14 hjk A
          have HGj : Hid _ := HGn.out k j hk14 hjk A
          have x0' : X1.cell? ⟨b, 0 + j * 2, none⟩ = some (.int .u32 ((j + 2 : Nat) : Int)) := by rw [Nat.zero_add]; exact x0
          have x1' : X1.cell? ⟨b, 0 + j * 2 + 1, none⟩ = some (.string (tg j)) := by rw [Nat.zero_add]; exact x1
          clear hK
          go_wp2_with fail
          refine Calls.mono (HRj.out X1 HK1.out.v (tb_above HT.out HB1.out HLo.out HK1.out.q)) ?_
          rintro e X2 ⟨rfl, b2⟩
          have HK2 : Hid (KI A w1 (kV k) (T k) tg xx k (.slice (some ⟨b, 0, none⟩) k lcap) (.slice (some ⟨b', 0, none⟩) k cp') X2) := HK1.out.below b2
          obtain ⟨c, cq, c', cq', hlv, hhv, lc, lc', y0, y1, y2⟩ := HK2.out.ref hjk
          cases hlv
          cases hhv
          clear b2 x0 x1 x2 lb lb' x0' x1'
          go_wp2_with fail
          refine Calls.mono (HGj.out X2 HK2.out.v (tb_above HT.out HB1.out HLo.out HK2.out.q)) ?_
          rintro e X3 ⟨rfl, b3⟩
          have HK3 : Hid (KI A w1 (kV k) (T k) tg xx k (.slice (some ⟨b, 0, none⟩) k lcap) (.slice (some ⟨b', 0, none⟩) k cp') X3) := HK2.out.below b3
          obtain ⟨c, cq, c', cq', hlv, hhv, lc, lc', x0, x1, x2⟩ := HK3.out.ref hjk
          cases hlv
          cases hhv
          have x2' : X3.cell? ⟨b', 0 + j, none⟩ = some (.string (xx j)) := by rw [Nat.zero_add]; exact x2
          have qe : ((xx j).toList == (xx j).toList) = true := beq_self_eq_true _
          clear b3 y0 y1 y2
          go_wp2_with fail
          go_roundw
          case rel => exact ⟨j + 1, by omega, by go_num, HK3.out⟩
          case measure => simp [natOf]; omega
        · obtain rfl : k = j := by omega
          have p1 : ¬ ((k : Nat) : Int) < (k : Int) := by omega
          have HFr : Hid (∀ _ : True, _) := fun _ => HFree.out k hk14 A X1 HK1.out.v
          have p2 : IntKind.i64.wrap (14 - ((k : Nat) : Int)) = ((14 - k : Nat) : Int) := by rw [IntWalk.i64_in _ ⟨by omega, by omega⟩]; omega
          clear hK
          go_wp2_with fail
          refine Calls.mono (HFr.out trivial) ?_
          rintro e X2 ⟨rfl, b2⟩
          have HQ2 : Hid (But A.has w1 X2) := but_above HK1.out.q (b2.mono HK1.out.q.size)
          clear b2
          go_wp2_with fail
          go_ret
          exact ⟨by simp, HB0.out.trans ((HB1.out.trans (HQ2.out.below HLo.out HB1.out.size)).mono HB0.out.size)⟩

end Go.Proofs.YtheheaflebkipaaGreatDoor.Rv
