/- VaultNumbers. -/
import Derived.Test.YtheheaflebkipaaGreatDoorQVM
namespace Go.Proofs.YtheheaflebkipaaGreatDoor.Rv
open Go.RowKit Go.Lib
open Go.Proofs.YtheheaflebkipaaGreatDoor.Rd (But St Ok Dev Dv pt below_new natOf)
set_option maxRecDepth 100000 in
theorem ext256' (s : ByteArray) (h : s.size = 256) (w : World) : (Instr.sliceAt 9 (.string s) (some (.int .i64 8)) (some (.int .i64 13)) none).run Tryz.prog w = .ok (.string (s.extract 8 13)) w := Rs.ext256 s h 8 13 (by omega) (by omega) w
set_option maxRecDepth 100000 in
set_option maxHeartbeats 16000000 in
theorem vaultNumbers_walk (Kt : Nat → Int) (n : Nat) (f : Nat → ByteArray) (o : Option Addr) (c : Nat) (w : World) (hn : n ≤ maxLen) (hz : Tz w o n f) (hT0 : Rs.Tb Kt w) : Calls Tryz.prog 9 #[.slice o n c] w fun e w' => e = .returned (.bool true) ∧ Below w.heap.size w w' := by
  have HT0 : Hid (Rs.Tb Kt w) := hT0
  have HZ0 : Hid (Tz w o n f) := hz
  have HSh : Hid (∀ _ : True, _) := fun _ => shown_any Kt w hT0
  obtain ⟨xx, hxx⟩ : ∃ xx : Nat → ByteArray, (fun j => cutS (f j)) = xx := ⟨_, rfl⟩
  obtain ⟨T, hTT⟩ : ∃ T : Nat → St, (fun k => nT Kt f k) = T := ⟨_, rfl⟩
  obtain ⟨B, hBB⟩ : ∃ B : Nat → ByteArray, (fun k => nB Kt f k) = B := ⟨_, rfl⟩
  have HS : Hid (∀ k, k < 10 → ∀ A W, Vlt W A (nV k) (T k) → Rs.Tb Kt W → Calls Tryz.prog 23 #[pt A.g, .int .u32 ((k % 2 : Nat) : Int), .string (xx k)] W fun e w' => (∃ tg, e = .returned (.tuple #[.string tg, .int .i64 0])) ∧ Vlt w' A (nV (k + 1)) (T (k + 1)) ∧ But A.has W w') := fun k hk A W hv hT => by
    subst hxx hTT hBB
    refine (super_honest Kt A (nV k) (nT Kt f k) (cutS (f k)) (cutS_size _) (k % 2) (by omega) W hv (nV_ok k (by omega)) (nT_is Kt f k (by omega)).1 hT).mono ?_
    rintro e w' ⟨he, hx⟩
    exact ⟨⟨_, he⟩, hx⟩
  have HR : Hid (∀ k, k < 10 → ∀ A W, Vlt W A (nV (k + 1)) (T (k + 1)) → Calls Tryz.prog 30 #[pt A.d, .int .u32 ((k % 2 : Nat) : Int)] W fun e w' => e = .returned (.tuple #[.string (B k), .int .i64 0]) ∧ Below W.heap.size W w') := fun k hk A W hv => by
    subst hxx hTT hBB
    obtain ⟨a, b⟩ := nT_is Kt f (k + 1) (by omega)
    have := dread A (nV (k + 1)) (nT Kt f (k + 1)) (k % 2) (by omega) W hv a
    rw [nT_read Kt f k (by omega)] at this
    exact this
  have HBk : Hid (∀ k, k < 10 → (B k).size = 256 ∧ (B k).extract 0 4 = strOfNums [((k % 2 : Nat) : Int), 0, 0, 0] ∧ (B k).extract 8 13 = strOfNums [7, 0, 0, 0, (k : Int)]) := fun k hk => by
    subst hBB
    exact ⟨(nB_is Kt f k (by omega)).1, nB_four Kt f k (by omega), nB_five Kt f k hk⟩
  have HSl : Hid (∀ k A W, Vlt W A (nV k) (T k) → Calls Tryz.prog 18 #[pt A.g] W fun e w' => e = .returned (.int .u64 (k : Int)) ∧ w' = W) := fun k A W hv => seals_any A (nV k) (T k) W hv
  have HM2 : Hid (∀ W, Rs.Tb Kt W → Calls Tryz.prog 11 #[.int .i64 4] W fun e w' => ∃ (A : Pl) (q : Nat), e = .returned (.tuple #[pt A.g, pt A.d, pt q, .bool true]) ∧ Vlt w' A (nV 0) (T 0) ∧ (∀ k, A.has k → W.heap.size ≤ k) ∧ Below W.heap.size W w') := fun W hW => by
    subst hTT
    exact made_any Kt 4 (by omega) (by omega) W hW
  have HCt : Hid (∀ k, (if (198 : Int) < ((f k).size : Int) then (198 : Int) else ((f k).size : Int)) = ((min (f k).size 198 : Nat) : Int) ∧ ∀ w, (Instr.sliceAt 9 (.string (f k)) none (some (.int .i64 ((min (f k).size 198 : Nat) : Int))) none).run Tryz.prog w = .ok (.string (xx k)) w) := fun k => by
    subst hxx
    exact ⟨cut_min (f k), fun w => cut_run (f k) w⟩
  have hnn : (n : Int) ≤ 9223372036854775807 := by simp only [maxLen] at hn; omega
  clear hT0 hz hxx hTT hBB hn
  go_enter Tryz.func9, Tryz.ntmps9
  go_wp2_with fail
  refine Calls.mono (HSh.out trivial) ?_
  rintro e u0 ⟨rfl, q0⟩
  have HT : Hid (Rs.Tb Kt u0) := HT0.out.below q0 (Nat.le_refl _)
  have HB0 : Hid (Below w.heap.size w u0) := q0
  clear q0 HSh HT0
  go_wp2_with fail
  refine Calls.mono (HM2.out u0 HT.out) ?_
  rintro e w1 ⟨A, q, rfl, hv1, hA, b1⟩
  have HB1 : Hid (Below u0.heap.size u0 w1) := b1
  have HLo : Hid (∀ k, A.has k → u0.heap.size ≤ k) := hA
  have HV1 : Hid (Vlt w1 A (nV 0) (T 0)) := hv1
  have HZ : Hid (∀ W, But A.has w1 W → Tz W o n f) := fun W hW => HZ0.out.below (HB0.out.trans ((b1.trans (hW.below hA b1.size)).mono HB0.out.size)) (Nat.le_refl _)
  clear hA b1 hv1 HM2 HZ0
  go_wp2_with fail
  go_loopw [8] (fun iv wr => ∃ k : Nat, k ≤ 10 ∧ k ≤ n ∧ iv = .int .i64 (k : Int) ∧ Vlt wr A (nV k) (T k) ∧ But A.has w1 wr) (fun iv _ => 10 - natOf iv)
  case atStart => exact ⟨0, by omega, by omega, rfl, HV1.out, But.refl _ _⟩
  case round =>
    obtain ⟨k, hk10, hkn, rfl, hvk, hqk⟩ := hrel
    obtain ⟨W1, rfl⟩ : ∃ W1, W1 = wr := ⟨_, rfl⟩
    have HVk : Hid (Vlt W1 A (nV k) (T k)) := hvk
    have HQk : Hid (But A.has w1 W1) := hqk
    by_cases hlt' : k < n
    · have q1 : (k : Int) < (n : Int) := by omega
      have q0 : (0 : Int) ≤ (k : Int) := by omega
      by_cases hk : k < 10
      · have q2 : (k : Int) < 10 := by omega
        obtain ⟨bt, off, ho, lbt, hct⟩ := HZ.out W1 hqk (by omega)
        subst ho
        have HZc : Hid (∀ W, But A.has w1 W → W.cell? ⟨bt, off + k, none⟩ = some (.string (f k))) := fun W hW => by
          obtain ⟨bt', off', e', -, hct'⟩ := HZ.out W hW (by omega)
          cases e'
          exact hct' k hlt'
        obtain ⟨hmin, hcut⟩ := HCt.out k
        obtain ⟨mk, hmk⟩ : ∃ mk, min (f k).size 198 = mk := ⟨_, rfl⟩
        rw [hmk] at hmin hcut
        have hm2 : min ((f k).size : Int) 198 = (mk : Int) := by omega
        obtain ⟨fk, hfk⟩ : ∃ fk, f k = fk := ⟨_, rfl⟩
        rw [hfk] at hmin hcut HZc hm2
        obtain ⟨rr, hrr⟩ : ∃ rr, k % 2 = rr := ⟨_, rfl⟩
        have hrr2 : rr < 2 := by omega
        have m1 : (k : Int).tmod 2 = (rr : Int) := by rw [Int.tmod_eq_emod_of_nonneg q0]; omega
        have m2 : (k : Int) % 2 = (rr : Int) := by omega
        have m3 : IntKind.u32.wrap (rr : Int) = (rr : Int) := IntWalk.u32_in _ ⟨by omega, by omega⟩
        have m4 : IntKind.u8.wrap (rr : Int) = (rr : Int) := IntWalk.u8_in _ ⟨by omega, by omega⟩
        have m5 : IntKind.u8.wrap (k : Int) = (k : Int) := IntWalk.u8_in _ ⟨by omega, by omega⟩
        have m6 : IntKind.u64.wrap ((k : Int) + 1) = (k : Int) + 1 := IntWalk.u64_in _ ⟨by omega, by omega⟩
        have m8 : IntKind.i64.wrap ((k : Int) + 1) = (k : Int) + 1 := IntWalk.i64_in _ ⟨by omega, by omega⟩
        have m7 : IntKind.i64.wrap (rr : Int) = (rr : Int) := IntWalk.i64_in _ ⟨by omega, by omega⟩
        have HSk : Hid (∀ W, Vlt W A (nV k) (T k) → Rs.Tb Kt W → _) := HS.out k hk A
        have HRk : Hid (∀ W, Vlt W A (nV (k + 1)) (T (k + 1)) → _) := HR.out k hk A
        rw [hrr] at HSk HRk
        obtain ⟨z1, z2, z3⟩ := HBk.out k hk
        rw [hrr] at z2
        clear hct hvk hqk hmk hfk
        go_wp2_with fail
        refine wp_region_held (S := fun W => W.cell? ⟨bt, off + k, none⟩ = some (.string fk) ∧ True) (by kernel_rfl) ?_
        change wpAnyH _ _ _ _ _ _ _ _ (World.drew _)
        have HSW : Hid (W1.drew.cell? ⟨bt, off + k, none⟩ = some (.string fk) ∧ True) := ⟨HZc.out W1 HQk.out, trivial⟩
        refine wpAnyH_take (i := 0) (v := ?_) rfl (by kernel_rfl) (by kernel_rfl) (by kernel_rfl) (fun _ _ _ h => h) (Or.inl ⟨by kernel_rfl, ?_⟩) HSW.out ?_
        rotate_left
        · intro w hS
          obtain ⟨e0, e1⟩ := hS
          go_simp
          try with_reducible rfl
        conv in (Act.put _ _ _) => simp only [List.getElem_toArray, List.getElem_cons_succ, List.getElem_cons_zero, Act.put, List.setIfInBounds_toArray, List.set_cons_succ, List.set_cons_zero]
        refine wpAnyH_take (i := 1) (v := ?_) rfl (by kernel_rfl) (by kernel_rfl) (by kernel_rfl) (fun _ _ _ h => h) (Or.inl ⟨by kernel_rfl, ?_⟩) HSW.out ?_
        rotate_left
        · intro w hS
          obtain ⟨e0, e1⟩ := hS
          go_simp
          try with_reducible rfl
        conv in (Act.put _ _ _) => simp only [List.getElem_toArray, List.getElem_cons_succ, List.getElem_cons_zero, Act.put, List.setIfInBounds_toArray, List.set_cons_succ, List.set_cons_zero]
        refine wpAnyH_take (i := 2) (v := ?_) rfl (by kernel_rfl) (by kernel_rfl) (by kernel_rfl) (fun _ _ _ h => h) (Or.inl ⟨by kernel_rfl, ?_⟩) HSW.out ?_
        rotate_left
        · intro w hS
          obtain ⟨e0, e1⟩ := hS
          go_simp
          try with_reducible rfl
        conv in (Act.put _ _ _) => simp only [List.getElem_toArray, List.getElem_cons_succ, List.getElem_cons_zero, Act.put, List.setIfInBounds_toArray, List.set_cons_succ, List.set_cons_zero]
        refine wpAnyH_take (i := 3) (v := ?_) rfl (by kernel_rfl) (by kernel_rfl) (by kernel_rfl) (fun _ _ _ h => h) (Or.inl ⟨by kernel_rfl, ?_⟩) HSW.out ?_
        rotate_left
        · intro w hS
          obtain ⟨e0, e1⟩ := hS
          go_simp
          try with_reducible rfl
        conv in (Act.put _ _ _) => simp only [List.getElem_toArray, List.getElem_cons_succ, List.getElem_cons_zero, Act.put, List.setIfInBounds_toArray, List.set_cons_succ, List.set_cons_zero]
        refine wpAnyH_take (i := 4) (v := ?_) rfl (by kernel_rfl) (by kernel_rfl) (by kernel_rfl) (fun _ _ _ h => h) (Or.inl ⟨by kernel_rfl, ?_⟩) HSW.out ?_
        rotate_left
        · intro w hS
          obtain ⟨e0, e1⟩ := hS
          go_simp
          try with_reducible rfl
        conv in (Act.put _ _ _) => simp only [List.getElem_toArray, List.getElem_cons_succ, List.getElem_cons_zero, Act.put, List.setIfInBounds_toArray, List.set_cons_succ, List.set_cons_zero]
        refine wpAnyH_take (i := 5) (v := ?_) rfl (by kernel_rfl) (by kernel_rfl) (by kernel_rfl) (fun _ _ _ h => h) (Or.inl ⟨by kernel_rfl, ?_⟩) HSW.out ?_
        rotate_left
        · intro w hS
          obtain ⟨e0, e1⟩ := hS
          go_simp
          try with_reducible rfl
        conv in (Act.put _ _ _) => simp only [List.getElem_toArray, List.getElem_cons_succ, List.getElem_cons_zero, Act.put, List.setIfInBounds_toArray, List.set_cons_succ, List.set_cons_zero]
        refine wpAnyH_take (i := 6) (v := ?_) rfl (by kernel_rfl) (by kernel_rfl) (by kernel_rfl) (fun _ _ _ h => h) (Or.inl ⟨by kernel_rfl, ?_⟩) HSW.out ?_
        rotate_left
        · intro w hS
          obtain ⟨e0, e1⟩ := hS
          go_simp
          try with_reducible rfl
        conv in (Act.put _ _ _) => simp only [List.getElem_toArray, List.getElem_cons_succ, List.getElem_cons_zero, Act.put, List.setIfInBounds_toArray, List.set_cons_succ, List.set_cons_zero]
        refine wpAnyH_take (i := 7) (v := ?_) rfl (by kernel_rfl) (by kernel_rfl) (by kernel_rfl) (fun _ _ _ h => h) (Or.inl ⟨by kernel_rfl, ?_⟩) HSW.out ?_
        rotate_left
        · intro w hS
          obtain ⟨e0, e1⟩ := hS
          go_simp
          try with_reducible rfl
        conv in (Act.put _ _ _) => simp only [List.getElem_toArray, List.getElem_cons_succ, List.getElem_cons_zero, Act.put, List.setIfInBounds_toArray, List.set_cons_succ, List.set_cons_zero]
        refine wpAnyH_take (i := 8) (v := ?_) rfl (by kernel_rfl) (by kernel_rfl) (by kernel_rfl) (fun _ _ _ h => h) (Or.inl ⟨by kernel_rfl, ?_⟩) HSW.out ?_
        rotate_left
        · intro w hS
          obtain ⟨e0, e1⟩ := hS
          go_simp
          try with_reducible rfl
        conv in (Act.put _ _ _) => simp only [List.getElem_toArray, List.getElem_cons_succ, List.getElem_cons_zero, Act.put, List.setIfInBounds_toArray, List.set_cons_succ, List.set_cons_zero]
        refine wpAnyH_take (i := 9) (v := ?_) rfl (by kernel_rfl) (by kernel_rfl) (by kernel_rfl) (fun _ _ _ h => h) (Or.inl ⟨by kernel_rfl, ?_⟩) HSW.out ?_
        rotate_left
        · intro w hS
          obtain ⟨e0, e1⟩ := hS
          go_simp
          try with_reducible rfl
        conv in (Act.put _ _ _) => simp only [List.getElem_toArray, List.getElem_cons_succ, List.getElem_cons_zero, Act.put, List.setIfInBounds_toArray, List.set_cons_succ, List.set_cons_zero]
        refine wpAnyH_take (i := 10) (v := ?_) rfl (by kernel_rfl) (by kernel_rfl) (by kernel_rfl) (fun _ _ _ h => h) (Or.inl ⟨by kernel_rfl, ?_⟩) HSW.out ?_
        rotate_left
        · intro w hS
          obtain ⟨e0, e1⟩ := hS
          go_simp
          try with_reducible rfl
        conv in (Act.put _ _ _) => simp only [List.getElem_toArray, List.getElem_cons_succ, List.getElem_cons_zero, Act.put, List.setIfInBounds_toArray, List.set_cons_succ, List.set_cons_zero]
        refine wpAnyH_take (i := 11) (v := ?_) rfl (by kernel_rfl) (by kernel_rfl) (by kernel_rfl) (fun _ _ _ h => h) (Or.inl ⟨by kernel_rfl, ?_⟩) HSW.out ?_
        rotate_left
        · intro w hS
          obtain ⟨e0, e1⟩ := hS
          go_simp
          try with_reducible rfl
        conv in (Act.put _ _ _) => simp only [List.getElem_toArray, List.getElem_cons_succ, List.getElem_cons_zero, Act.put, List.setIfInBounds_toArray, List.set_cons_succ, List.set_cons_zero]
        refine wpAnyH_take (i := 12) (v := ?_) rfl (by kernel_rfl) (by kernel_rfl) (by kernel_rfl) (fun _ _ _ h => h) (Or.inl ⟨by kernel_rfl, ?_⟩) HSW.out ?_
        rotate_left
        · intro w hS
          obtain ⟨e0, e1⟩ := hS
          go_simp
          try with_reducible rfl
        conv in (Act.put _ _ _) => simp only [List.getElem_toArray, List.getElem_cons_succ, List.getElem_cons_zero, Act.put, List.setIfInBounds_toArray, List.set_cons_succ, List.set_cons_zero]
        refine wpAnyH_take (i := 13) (v := ?_) rfl (by kernel_rfl) (by kernel_rfl) (by kernel_rfl) (fun _ _ _ h => h) (Or.inl ⟨by kernel_rfl, ?_⟩) HSW.out ?_
        rotate_left
        · intro w hS
          obtain ⟨e0, e1⟩ := hS
          go_simp
          try with_reducible rfl
        conv in (Act.put _ _ _) => simp only [List.getElem_toArray, List.getElem_cons_succ, List.getElem_cons_zero, Act.put, List.setIfInBounds_toArray, List.set_cons_succ, List.set_cons_zero]
        refine wpAnyH_take (i := 14) (v := ?_) rfl (by kernel_rfl) (by kernel_rfl) (by kernel_rfl) (fun _ _ _ h => h) (Or.inl ⟨by kernel_rfl, ?_⟩) HSW.out ?_
        rotate_left
        · intro w hS
          obtain ⟨e0, e1⟩ := hS
          go_simp
          try with_reducible rfl
        conv in (Act.put _ _ _) => simp only [List.getElem_toArray, List.getElem_cons_succ, List.getElem_cons_zero, Act.put, List.setIfInBounds_toArray, List.set_cons_succ, List.set_cons_zero]
        refine readyH 15 _ (by kernel_rfl) rfl (by kernel_rfl) (fun K hK => ?_)
        go_simp
        refine Calls.mono (HSk.out W1.drew (HVk.out.below (Below.refl _ W1).drew (Nat.le_refl _)) (tb_above HT.out HB1.out HLo.out (but_above HQk.out (Below.refl _ W1).drew))) ?_
        rintro e W2 ⟨⟨tg, rfl⟩, hv2, b2⟩
        have HV2 : Hid (Vlt W2 A (nV (k + 1)) (T (k + 1))) := hv2
        have HQ2 : Hid (But A.has w1 W2) := (but_above HQk.out (Below.refl _ W1).drew).trans b2
        clear HSW
        have HSW : Hid (W2.cell? ⟨bt, off + k, none⟩ = some (.string fk) ∧ True) := ⟨HZc.out W2 HQ2.out, trivial⟩
        clear hv2 b2 HSk
        refine hK _ _ HSW.out ?_
        clear hK K
        refine wpAnyH_take (i := 16) (v := ?_) rfl (by kernel_rfl) (by kernel_rfl) (by kernel_rfl) (fun _ _ _ h => h) (Or.inl ⟨by kernel_rfl, ?_⟩) HSW.out ?_
        rotate_left
        · intro w hS
          obtain ⟨e0, e1⟩ := hS
          go_simp
          try with_reducible rfl
        conv in (Act.put _ _ _) => simp only [List.getElem_toArray, List.getElem_cons_succ, List.getElem_cons_zero, Act.put, List.setIfInBounds_toArray, List.set_cons_succ, List.set_cons_zero]
        refine wpAnyH_take (i := 17) (v := ?_) rfl (by kernel_rfl) (by kernel_rfl) (by kernel_rfl) (fun _ _ _ h => h) (Or.inl ⟨by kernel_rfl, ?_⟩) HSW.out ?_
        rotate_left
        · intro w hS
          obtain ⟨e0, e1⟩ := hS
          go_simp
          try with_reducible rfl
        conv in (Act.put _ _ _) => simp only [List.getElem_toArray, List.getElem_cons_succ, List.getElem_cons_zero, Act.put, List.setIfInBounds_toArray, List.set_cons_succ, List.set_cons_zero]
        refine wpAnyH_take (i := 18) (v := ?_) rfl (by kernel_rfl) (by kernel_rfl) (by kernel_rfl) (fun _ _ _ h => h) (Or.inl ⟨by kernel_rfl, ?_⟩) HSW.out ?_
        rotate_left
        · intro w hS
          obtain ⟨e0, e1⟩ := hS
          go_simp
          try with_reducible rfl
        conv in (Act.put _ _ _) => simp only [List.getElem_toArray, List.getElem_cons_succ, List.getElem_cons_zero, Act.put, List.setIfInBounds_toArray, List.set_cons_succ, List.set_cons_zero]
        refine wpAnyH_take (i := 19) (v := ?_) rfl (by kernel_rfl) (by kernel_rfl) (by kernel_rfl) (fun _ _ _ h => h) (Or.inl ⟨by kernel_rfl, ?_⟩) HSW.out ?_
        rotate_left
        · intro w hS
          obtain ⟨e0, e1⟩ := hS
          go_simp
          try with_reducible rfl
        conv in (Act.put _ _ _) => simp only [List.getElem_toArray, List.getElem_cons_succ, List.getElem_cons_zero, Act.put, List.setIfInBounds_toArray, List.set_cons_succ, List.set_cons_zero]
        refine wpAnyH_take (i := 20) (v := ?_) rfl (by kernel_rfl) (by kernel_rfl) (by kernel_rfl) (fun _ _ _ h => h) (Or.inl ⟨by kernel_rfl, ?_⟩) HSW.out ?_
        rotate_left
        · intro w hS
          obtain ⟨e0, e1⟩ := hS
          go_simp
          try with_reducible rfl
        conv in (Act.put _ _ _) => simp only [List.getElem_toArray, List.getElem_cons_succ, List.getElem_cons_zero, Act.put, List.setIfInBounds_toArray, List.set_cons_succ, List.set_cons_zero]
        refine wpAnyH_done (by kernel_rfl) ?_ _
        clear HSW
        go_wp2_with fail
        refine Calls.mono (HRk.out W2 HV2.out) ?_
        rintro e W3 ⟨rfl, b3⟩
        have HV3 : Hid (Vlt W3 A (nV (k + 1)) (T (k + 1))) := HV2.out.below b3 (Nat.le_refl _)
        have HQ3 : Hid (But A.has w1 W3) := but_above HQ2.out (b3.mono HQ2.out.size)
        clear b3 HRk HV2 HQ2
        have hx4 : ∀ w, (Instr.sliceAt 9 (.string (B k)) none (some (.int .i64 4)) none).run Tryz.prog w = .ok (.string (strOfNums [(rr : Int), 0, 0, 0])) w := fun w => by rw [← z2]; exact Rs.ext256n (B k) z1 4 (by omega) w
        have hx5 : ∀ w, (Instr.sliceAt 9 (.string (B k)) (some (.int .i64 8)) (some (.int .i64 13)) none).run Tryz.prog w = .ok (.string (strOfNums [7, 0, 0, 0, (k : Int)])) w := fun w => by rw [← z3]; exact ext256' (B k) z1 w
        have z4 : (((B k).size : Int) != 256) = false := by rw [z1]; rfl
        clear z2 z3
        have g4 := heap_alloc_new W3 (.cells #[.int .u8 (rr : Int), .int .u8 0, .int .u8 0, .int .u8 0] 5)
        have b4 : Below W3.heap.size W3 (W3.alloc (.cells #[.int .u8 (rr : Int), .int .u8 0, .int .u8 0, .int .u8 0] 5)).drew := (below_new W3 _).drew
        obtain ⟨W4, hW4⟩ : ∃ W4, (W3.alloc (.cells #[.int .u8 (rr : Int), .int .u8 0, .int .u8 0, .int .u8 0] 5)).drew = W4 := ⟨_, rfl⟩
        have g4' : W4.heap[W3.heap.size]? = some (.cells #[.int .u8 (rr : Int), .int .u8 0, .int .u8 0, .int .u8 0] 5 (0, 0)) := by rw [← hW4]; exact g4
        rw [hW4] at b4
        have hcv4 : (convert 70 9 (.slice (some ⟨W3.heap.size, 0, none⟩) 4 4)).run Tryz.prog W4 = .ok (.string (strOfNums [(rr : Int), 0, 0, 0])) W4 := by
          refine run_convert_bytes_arg W4 70 5 Tryz.underlying70 Tryz.underlying5 W3.heap.size 0 4 4 [(rr : Int), 0, 0, 0] (by simp) (fun i hi => ?_) 9 Tryz.underlying9
          rw [Nat.zero_add, cell_of_row _ _ _ _ _ _ g4']
          rcases (by omega : i = 0 ∨ i = 1 ∨ i = 2 ∨ i = 3) with rfl | rfl | rfl | rfl <;> rfl
        have g5 := heap_alloc_new W4 (.cells #[.int .u8 7, .int .u8 0, .int .u8 0, .int .u8 0, .int .u8 (k : Int)] 5)
        have b5 := below_new W4 (.cells #[.int .u8 7, .int .u8 0, .int .u8 0, .int .u8 0, .int .u8 (k : Int)] 5)
        obtain ⟨W5, hW5⟩ : ∃ W5, W4.alloc (.cells #[.int .u8 7, .int .u8 0, .int .u8 0, .int .u8 0, .int .u8 (k : Int)] 5) = W5 := ⟨_, rfl⟩
        rw [hW5] at g5 b5
        have hcv5 : (convert 70 9 (.slice (some ⟨W4.heap.size, 0, none⟩) 5 5)).run Tryz.prog W5 = .ok (.string (strOfNums [7, 0, 0, 0, (k : Int)])) W5 := by
          refine run_convert_bytes_arg W5 70 5 Tryz.underlying70 Tryz.underlying5 W4.heap.size 0 5 5 [7, 0, 0, 0, (k : Int)] (by simp) (fun i hi => ?_) 9 Tryz.underlying9
          rw [Nat.zero_add, cell_of_row _ _ _ _ _ _ g5]
          rcases (by omega : i = 0 ∨ i = 1 ∨ i = 2 ∨ i = 3 ∨ i = 4) with rfl | rfl | rfl | rfl | rfl <;> rfl
        have HW4 : Hid _ := hW4
        have HW5 : Hid _ := hW5
        have HV5 : Hid (Vlt W5 A (nV (k + 1)) (T (k + 1))) := (HV3.out.below b4 (Nat.le_refl _)).below b5 (Nat.le_refl _)
        have HQ5 : Hid (But A.has w1 W5) := but_above HQ3.out ((b4.trans (b5.mono b4.size)).mono HQ3.out.size)
        have HSl5 : Hid (∀ _ : True, Calls Tryz.prog 18 #[pt A.g] W5 fun e w' => e = .returned (.int .u64 ((k : Int) + 1)) ∧ w' = W5) := fun _ => HSl.out (k + 1) A W5 HV5.out
        clear g4 g4' g5 b4 b5 hW4 hW5 HV3 HQ3
        generalize B k = Bk at *
        generalize strOfNums [(rr : Int), 0, 0, 0] = P4 at *
        generalize strOfNums [7, 0, 0, 0, (k : Int)] = P5 at *
        go_wp2_with fail
        refine wp_region_held (S := fun _ => True ∧ True) (by kernel_rfl) ?_
        change wpAnyH _ _ _ _ _ _ _ _ (World.drew _)
        have HSW : Hid (True ∧ True) := ⟨trivial, trivial⟩
        refine wpAnyH_take (i := 0) (v := ?_) rfl (by kernel_rfl) (by kernel_rfl) (by kernel_rfl) (fun _ _ _ h => h) (Or.inl ⟨by kernel_rfl, ?_⟩) HSW.out ?_
        rotate_left
        · intro w hS
          obtain ⟨e0, e1⟩ := hS
          go_simp
          try with_reducible rfl
        conv in (Act.put _ _ _) => simp only [List.getElem_toArray, List.getElem_cons_succ, List.getElem_cons_zero, Act.put, List.setIfInBounds_toArray, List.set_cons_succ, List.set_cons_zero]
        refine wpAnyH_take (i := 1) (v := ?_) rfl (by kernel_rfl) (by kernel_rfl) (by kernel_rfl) (fun _ _ _ h => h) (Or.inl ⟨by kernel_rfl, ?_⟩) HSW.out ?_
        rotate_left
        · intro w hS
          obtain ⟨e0, e1⟩ := hS
          go_simp
          try with_reducible rfl
        conv in (Act.put _ _ _) => simp only [List.getElem_toArray, List.getElem_cons_succ, List.getElem_cons_zero, Act.put, List.setIfInBounds_toArray, List.set_cons_succ, List.set_cons_zero]
        refine wpAnyH_take (i := 2) (v := ?_) rfl (by kernel_rfl) (by kernel_rfl) (by kernel_rfl) (fun _ _ _ h => h) (Or.inl ⟨by kernel_rfl, ?_⟩) HSW.out ?_
        rotate_left
        · intro w hS
          obtain ⟨e0, e1⟩ := hS
          go_simp
          try with_reducible rfl
        conv in (Act.put _ _ _) => simp only [List.getElem_toArray, List.getElem_cons_succ, List.getElem_cons_zero, Act.put, List.setIfInBounds_toArray, List.set_cons_succ, List.set_cons_zero]
        refine wpAnyH_take (i := 3) (v := ?_) rfl (by kernel_rfl) (by kernel_rfl) (by kernel_rfl) (fun _ _ _ h => h) (Or.inl ⟨by kernel_rfl, ?_⟩) HSW.out ?_
        rotate_left
        · intro w hS
          obtain ⟨e0, e1⟩ := hS
          go_simp
          try with_reducible rfl
        conv in (Act.put _ _ _) => simp only [List.getElem_toArray, List.getElem_cons_succ, List.getElem_cons_zero, Act.put, List.setIfInBounds_toArray, List.set_cons_succ, List.set_cons_zero]
        refine wpAnyH_take (i := 4) (v := ?_) rfl (by kernel_rfl) (by kernel_rfl) (by kernel_rfl) (fun _ _ _ h => h) (Or.inl ⟨by kernel_rfl, ?_⟩) HSW.out ?_
        rotate_left
        · intro w hS
          obtain ⟨e0, e1⟩ := hS
          go_simp
          try with_reducible rfl
        conv in (Act.put _ _ _) => simp only [List.getElem_toArray, List.getElem_cons_succ, List.getElem_cons_zero, Act.put, List.setIfInBounds_toArray, List.set_cons_succ, List.set_cons_zero]
        refine wpAnyH_take (i := 5) (v := ?_) rfl (by kernel_rfl) (by kernel_rfl) (by kernel_rfl) (fun _ _ _ h => h) (Or.inl ⟨by kernel_rfl, ?_⟩) HSW.out ?_
        rotate_left
        · intro w hS
          obtain ⟨e0, e1⟩ := hS
          go_simp
          try with_reducible rfl
        conv in (Act.put _ _ _) => simp only [List.getElem_toArray, List.getElem_cons_succ, List.getElem_cons_zero, Act.put, List.setIfInBounds_toArray, List.set_cons_succ, List.set_cons_zero]
        refine wpAnyH_take (i := 6) (v := ?_) rfl (by kernel_rfl) (by kernel_rfl) (by kernel_rfl) (fun _ _ _ h => h) (Or.inl ⟨by kernel_rfl, ?_⟩) HSW.out ?_
        rotate_left
        · intro w hS
          obtain ⟨e0, e1⟩ := hS
          go_simp
          try with_reducible rfl
        conv in (Act.put _ _ _) => simp only [List.getElem_toArray, List.getElem_cons_succ, List.getElem_cons_zero, Act.put, List.setIfInBounds_toArray, List.set_cons_succ, List.set_cons_zero]
        refine wpAnyH_take (i := 7) (v := ?_) rfl (by kernel_rfl) (by kernel_rfl) (by kernel_rfl) (fun _ _ _ h => h) (Or.inl ⟨by kernel_rfl, ?_⟩) HSW.out ?_
        rotate_left
        · intro w hS
          obtain ⟨e0, e1⟩ := hS
          go_simp
          try with_reducible rfl
        conv in (Act.put _ _ _) => simp only [List.getElem_toArray, List.getElem_cons_succ, List.getElem_cons_zero, Act.put, List.setIfInBounds_toArray, List.set_cons_succ, List.set_cons_zero]
        refine wpAnyH_take (i := 8) (v := ?_) rfl (by kernel_rfl) (by kernel_rfl) (by kernel_rfl) (fun _ _ _ h => h) (Or.inl ⟨by kernel_rfl, ?_⟩) HSW.out ?_
        rotate_left
        · intro w hS
          obtain ⟨e0, e1⟩ := hS
          go_simp
          try with_reducible rfl
        conv in (Act.put _ _ _) => simp only [List.getElem_toArray, List.getElem_cons_succ, List.getElem_cons_zero, Act.put, List.setIfInBounds_toArray, List.set_cons_succ, List.set_cons_zero]
        refine wpAnyH_take (i := 9) (v := ?_) rfl (by kernel_rfl) (by kernel_rfl) (by kernel_rfl) (fun _ _ _ h => h) (Or.inl ⟨by kernel_rfl, ?_⟩) HSW.out ?_
        rotate_left
        · intro w hS
          obtain ⟨e0, e1⟩ := hS
          go_simp
          try with_reducible rfl
        conv in (Act.put _ _ _) => simp only [List.getElem_toArray, List.getElem_cons_succ, List.getElem_cons_zero, Act.put, List.setIfInBounds_toArray, List.set_cons_succ, List.set_cons_zero]
        refine wpAnyH_take (i := 10) (v := ?_) rfl (by kernel_rfl) (by kernel_rfl) (by kernel_rfl) (fun _ _ _ h => h) (Or.inl ⟨by kernel_rfl, ?_⟩) HSW.out ?_
        rotate_left
        · intro w hS
          obtain ⟨e0, e1⟩ := hS
          go_simp
          try with_reducible rfl
        conv in (Act.put _ _ _) => simp only [List.getElem_toArray, List.getElem_cons_succ, List.getElem_cons_zero, Act.put, List.setIfInBounds_toArray, List.set_cons_succ, List.set_cons_zero]
        refine wpAnyH_take (i := 11) (v := ?_) rfl (by kernel_rfl) (by kernel_rfl) (by kernel_rfl) (fun _ _ _ h => h) (Or.inl ⟨by kernel_rfl, ?_⟩) HSW.out ?_
        rotate_left
        · intro w hS
          obtain ⟨e0, e1⟩ := hS
          go_simp
          try with_reducible rfl
        conv in (Act.put _ _ _) => simp only [List.getElem_toArray, List.getElem_cons_succ, List.getElem_cons_zero, Act.put, List.setIfInBounds_toArray, List.set_cons_succ, List.set_cons_zero]
        refine wpAnyH_take (i := 12) (v := ?_) rfl (by kernel_rfl) (by kernel_rfl) (by kernel_rfl) (fun _ _ _ h => h) (Or.inl ⟨by kernel_rfl, ?_⟩) HSW.out ?_
        rotate_left
        · intro w hS
          obtain ⟨e0, e1⟩ := hS
          go_simp
          try with_reducible rfl
        conv in (Act.put _ _ _) => simp only [List.getElem_toArray, List.getElem_cons_succ, List.getElem_cons_zero, Act.put, List.setIfInBounds_toArray, List.set_cons_succ, List.set_cons_zero]
        refine wpAnyH_take (i := 13) (v := ?_) rfl (by kernel_rfl) (by kernel_rfl) (by kernel_rfl) (fun _ _ _ h => h) (Or.inl ⟨by kernel_rfl, ?_⟩) HSW.out ?_
        rotate_left
        · intro w hS
          obtain ⟨e0, e1⟩ := hS
          go_simp
          try with_reducible rfl
        conv in (Act.put _ _ _) => simp only [List.getElem_toArray, List.getElem_cons_succ, List.getElem_cons_zero, Act.put, List.setIfInBounds_toArray, List.set_cons_succ, List.set_cons_zero]
        refine wpAnyH_take (i := 14) (v := ?_) rfl (by kernel_rfl) (by kernel_rfl) (by kernel_rfl) (fun _ _ _ h => h) (Or.inl ⟨by kernel_rfl, ?_⟩) HSW.out ?_
        rotate_left
        · intro w hS
          obtain ⟨e0, e1⟩ := hS
          go_simp
          try with_reducible rfl
        conv in (Act.put _ _ _) => simp only [List.getElem_toArray, List.getElem_cons_succ, List.getElem_cons_zero, Act.put, List.setIfInBounds_toArray, List.set_cons_succ, List.set_cons_zero]
        refine wpAnyH_take (i := 15) (v := ?_) rfl (by kernel_rfl) (by kernel_rfl) (by kernel_rfl) (fun _ _ _ h => h) (Or.inl ⟨by kernel_rfl, ?_⟩) HSW.out ?_
        rotate_left
        · intro w hS
          obtain ⟨e0, e1⟩ := hS
          go_simp
          try with_reducible rfl
        conv in (Act.put _ _ _) => simp only [List.getElem_toArray, List.getElem_cons_succ, List.getElem_cons_zero, Act.put, List.setIfInBounds_toArray, List.set_cons_succ, List.set_cons_zero]
        refine wpAnyH_take (i := 16) (v := ?_) rfl (by kernel_rfl) (by kernel_rfl) (by kernel_rfl) (fun _ _ _ h => h) (Or.inl ⟨by kernel_rfl, ?_⟩) HSW.out ?_
        rotate_left
        · intro w hS
          obtain ⟨e0, e1⟩ := hS
          go_simp
          try with_reducible rfl
        conv in (Act.put _ _ _) => simp only [List.getElem_toArray, List.getElem_cons_succ, List.getElem_cons_zero, Act.put, List.setIfInBounds_toArray, List.set_cons_succ, List.set_cons_zero]
        refine readyH 17 _ (by kernel_rfl) rfl (by kernel_rfl) (fun K hK => ?_)
        go_simp
        rw [HW4.out]
        refine hK _ _ HSW.out ?_
        clear hK K
        refine readyH 18 _ (by kernel_rfl) rfl (by kernel_rfl) (fun K hK => ?_)
        go_simp
        refine hK _ _ HSW.out ?_
        clear hK K
        refine wpAnyH_take (i := 19) (v := ?_) rfl (by kernel_rfl) (by kernel_rfl) (by kernel_rfl) (fun _ _ _ h => h) (Or.inl ⟨by kernel_rfl, ?_⟩) HSW.out ?_
        rotate_left
        · intro w hS
          obtain ⟨e0, e1⟩ := hS
          go_simp
          try with_reducible rfl
        conv in (Act.put _ _ _) => simp only [List.getElem_toArray, List.getElem_cons_succ, List.getElem_cons_zero, Act.put, List.setIfInBounds_toArray, List.set_cons_succ, List.set_cons_zero]
        refine wpAnyH_take (i := 20) (v := ?_) rfl (by kernel_rfl) (by kernel_rfl) (by kernel_rfl) (fun _ _ _ h => h) (Or.inl ⟨by kernel_rfl, ?_⟩) HSW.out ?_
        rotate_left
        · intro w hS
          obtain ⟨e0, e1⟩ := hS
          go_simp
          try with_reducible rfl
        conv in (Act.put _ _ _) => simp only [List.getElem_toArray, List.getElem_cons_succ, List.getElem_cons_zero, Act.put, List.setIfInBounds_toArray, List.set_cons_succ, List.set_cons_zero]
        refine wpAnyH_take (i := 21) (v := ?_) rfl (by kernel_rfl) (by kernel_rfl) (by kernel_rfl) (fun _ _ _ h => h) (Or.inl ⟨by kernel_rfl, ?_⟩) HSW.out ?_
        rotate_left
        · intro w hS
          obtain ⟨e0, e1⟩ := hS
          go_simp
          try with_reducible rfl
        conv in (Act.put _ _ _) => simp only [List.getElem_toArray, List.getElem_cons_succ, List.getElem_cons_zero, Act.put, List.setIfInBounds_toArray, List.set_cons_succ, List.set_cons_zero]
        refine wpAnyH_take (i := 22) (v := ?_) rfl (by kernel_rfl) (by kernel_rfl) (by kernel_rfl) (fun _ _ _ h => h) (Or.inl ⟨by kernel_rfl, ?_⟩) HSW.out ?_
        rotate_left
        · intro w hS
          obtain ⟨e0, e1⟩ := hS
          go_simp
          try with_reducible rfl
        conv in (Act.put _ _ _) => simp only [List.getElem_toArray, List.getElem_cons_succ, List.getElem_cons_zero, Act.put, List.setIfInBounds_toArray, List.set_cons_succ, List.set_cons_zero]
        refine wpAnyH_take (i := 23) (v := ?_) rfl (by kernel_rfl) (by kernel_rfl) (by kernel_rfl) (fun _ _ _ h => h) (Or.inl ⟨by kernel_rfl, ?_⟩) HSW.out ?_
        rotate_left
        · intro w hS
          obtain ⟨e0, e1⟩ := hS
          go_simp
          try with_reducible rfl
        conv in (Act.put _ _ _) => simp only [List.getElem_toArray, List.getElem_cons_succ, List.getElem_cons_zero, Act.put, List.setIfInBounds_toArray, List.set_cons_succ, List.set_cons_zero]
        refine wpAnyH_take (i := 24) (v := ?_) rfl (by kernel_rfl) (by kernel_rfl) (by kernel_rfl) (fun _ _ _ h => h) (Or.inl ⟨by kernel_rfl, ?_⟩) HSW.out ?_
        rotate_left
        · intro w hS
          obtain ⟨e0, e1⟩ := hS
          go_simp
          try with_reducible rfl
        conv in (Act.put _ _ _) => simp only [List.getElem_toArray, List.getElem_cons_succ, List.getElem_cons_zero, Act.put, List.setIfInBounds_toArray, List.set_cons_succ, List.set_cons_zero]
        refine wpAnyH_take (i := 25) (v := ?_) rfl (by kernel_rfl) (by kernel_rfl) (by kernel_rfl) (fun _ _ _ h => h) (Or.inl ⟨by kernel_rfl, ?_⟩) HSW.out ?_
        rotate_left
        · intro w hS
          obtain ⟨e0, e1⟩ := hS
          go_simp
          try with_reducible rfl
        conv in (Act.put _ _ _) => simp only [List.getElem_toArray, List.getElem_cons_succ, List.getElem_cons_zero, Act.put, List.setIfInBounds_toArray, List.set_cons_succ, List.set_cons_zero]
        refine readyH 26 _ (by kernel_rfl) rfl (by kernel_rfl) (fun K hK => ?_)
        go_simp
        rw [HW5.out]
        refine hK _ _ HSW.out ?_
        clear hK K
        refine readyH 27 _ (by kernel_rfl) rfl (by kernel_rfl) (fun K hK => ?_)
        go_simp
        refine hK _ _ HSW.out ?_
        clear hK K
        refine wpAnyH_take (i := 28) (v := ?_) rfl (by kernel_rfl) (by kernel_rfl) (by kernel_rfl) (fun _ _ _ h => h) (Or.inl ⟨by kernel_rfl, ?_⟩) HSW.out ?_
        rotate_left
        · intro w hS
          obtain ⟨e0, e1⟩ := hS
          go_simp
          try with_reducible rfl
        conv in (Act.put _ _ _) => simp only [List.getElem_toArray, List.getElem_cons_succ, List.getElem_cons_zero, Act.put, List.setIfInBounds_toArray, List.set_cons_succ, List.set_cons_zero]
        refine wpAnyH_take (i := 29) (v := ?_) rfl (by kernel_rfl) (by kernel_rfl) (by kernel_rfl) (fun _ _ _ h => h) (Or.inl ⟨by kernel_rfl, ?_⟩) HSW.out ?_
        rotate_left
        · intro w hS
          obtain ⟨e0, e1⟩ := hS
          go_simp
          try with_reducible rfl
        conv in (Act.put _ _ _) => simp only [List.getElem_toArray, List.getElem_cons_succ, List.getElem_cons_zero, Act.put, List.setIfInBounds_toArray, List.set_cons_succ, List.set_cons_zero]
        refine wpAnyH_take (i := 30) (v := ?_) rfl (by kernel_rfl) (by kernel_rfl) (by kernel_rfl) (fun _ _ _ h => h) (Or.inl ⟨by kernel_rfl, ?_⟩) HSW.out ?_
        rotate_left
        · intro w hS
          obtain ⟨e0, e1⟩ := hS
          go_simp
          try with_reducible rfl
        conv in (Act.put _ _ _) => simp only [List.getElem_toArray, List.getElem_cons_succ, List.getElem_cons_zero, Act.put, List.setIfInBounds_toArray, List.set_cons_succ, List.set_cons_zero]
        refine wpAnyH_take (i := 31) (v := ?_) rfl (by kernel_rfl) (by kernel_rfl) (by kernel_rfl) (fun _ _ _ h => h) (Or.inl ⟨by kernel_rfl, ?_⟩) HSW.out ?_
        rotate_left
        · intro w hS
          obtain ⟨e0, e1⟩ := hS
          go_simp
          try with_reducible rfl
        conv in (Act.put _ _ _) => simp only [List.getElem_toArray, List.getElem_cons_succ, List.getElem_cons_zero, Act.put, List.setIfInBounds_toArray, List.set_cons_succ, List.set_cons_zero]
        refine wpAnyH_take (i := 33) (v := ?_) rfl (by kernel_rfl) (by kernel_rfl) (by kernel_rfl) (fun _ _ _ h => h) (Or.inl ⟨by kernel_rfl, ?_⟩) HSW.out ?_
        rotate_left
        · intro w hS
          obtain ⟨e0, e1⟩ := hS
          go_simp
          try with_reducible rfl
        conv in (Act.put _ _ _) => simp only [List.getElem_toArray, List.getElem_cons_succ, List.getElem_cons_zero, Act.put, List.setIfInBounds_toArray, List.set_cons_succ, List.set_cons_zero]
        refine wpAnyH_take (i := 34) (v := ?_) rfl (by kernel_rfl) (by kernel_rfl) (by kernel_rfl) (fun _ _ _ h => h) (Or.inl ⟨by kernel_rfl, ?_⟩) HSW.out ?_
        rotate_left
        · intro w hS
          obtain ⟨e0, e1⟩ := hS
          go_simp
          try with_reducible rfl
        conv in (Act.put _ _ _) => simp only [List.getElem_toArray, List.getElem_cons_succ, List.getElem_cons_zero, Act.put, List.setIfInBounds_toArray, List.set_cons_succ, List.set_cons_zero]
        refine wpAnyH_take (i := 35) (v := ?_) rfl (by kernel_rfl) (by kernel_rfl) (by kernel_rfl) (fun _ _ _ h => h) (Or.inl ⟨by kernel_rfl, ?_⟩) HSW.out ?_
        rotate_left
        · intro w hS
          obtain ⟨e0, e1⟩ := hS
          go_simp
          try with_reducible rfl
        conv in (Act.put _ _ _) => simp only [List.getElem_toArray, List.getElem_cons_succ, List.getElem_cons_zero, Act.put, List.setIfInBounds_toArray, List.set_cons_succ, List.set_cons_zero]
        refine readyH 32 _ (by kernel_rfl) rfl (by kernel_rfl) (fun K hK => ?_)
        go_simp
        refine Calls.mono (HSl5.out trivial) ?_
        rintro e w9 ⟨rfl, hw9⟩
        have hw9' := hw9.symm
        clear hw9
        subst hw9'
        refine hK _ _ HSW.out ?_
        clear hK K
        refine wpAnyH_take (i := 36) (v := ?_) rfl (by kernel_rfl) (by kernel_rfl) (by kernel_rfl) (fun _ _ _ h => h) (Or.inl ⟨by kernel_rfl, ?_⟩) HSW.out ?_
        rotate_left
        · intro w hS
          obtain ⟨e0, e1⟩ := hS
          go_simp
          try with_reducible rfl
        conv in (Act.put _ _ _) => simp only [List.getElem_toArray, List.getElem_cons_succ, List.getElem_cons_zero, Act.put, List.setIfInBounds_toArray, List.set_cons_succ, List.set_cons_zero]
        refine wpAnyH_take (i := 37) (v := ?_) rfl (by kernel_rfl) (by kernel_rfl) (by kernel_rfl) (fun _ _ _ h => h) (Or.inl ⟨by kernel_rfl, ?_⟩) HSW.out ?_
        rotate_left
        · intro w hS
          obtain ⟨e0, e1⟩ := hS
          go_simp
          try with_reducible rfl
        conv in (Act.put _ _ _) => simp only [List.getElem_toArray, List.getElem_cons_succ, List.getElem_cons_zero, Act.put, List.setIfInBounds_toArray, List.set_cons_succ, List.set_cons_zero]
        refine wpAnyH_done (by kernel_rfl) ?_ _
        go_wp2_with fail
        go_roundw
        case rel => exact ⟨k + 1, by omega, by omega, by go_num, HV5.out, HQ5.out⟩
        case measure => simp [natOf]; omega
      · obtain rfl : 10 = k := by omega
        have q2 : ¬ ((10 : Nat) : Int) < 10 := by omega
        clear hvk hqk
        go_wp2_with fail
        go_ret
        exact ⟨rfl, HB0.out.trans ((HB1.out.trans (HQk.out.below HLo.out HB1.out.size)).mono HB0.out.size)⟩
    · obtain rfl : n = k := by omega
      have q1 : ¬ ((n : Nat) : Int) < (n : Int) := by omega
      clear hvk hqk
      go_wp2_with fail
      go_ret
      exact ⟨rfl, HB0.out.trans ((HB1.out.trans (HQk.out.below HLo.out HB1.out.size)).mono HB0.out.size)⟩
end Go.Proofs.YtheheaflebkipaaGreatDoor.Rv
