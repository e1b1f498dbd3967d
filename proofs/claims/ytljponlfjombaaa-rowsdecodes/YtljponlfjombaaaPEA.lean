/- The reference: Size, Right, RightBox, In. -/
import Derived.Test.YtljponlfjombaaaPCE
namespace Go.Proofs.Ytljponlfjombaaa.Rc
open Go.RowKit Go.Lib
set_option maxRecDepth 100000 in
theorem eSize_any (X Y n : Nat) (hn : n ≤ 31) (w : World) :
    Calls Try.prog 37 #[cv X Y (n : Int)] w fun e w' => e = .returned (.int .u64 ((2 ^ n : Nat) : Int)) ∧ Below w.heap.size w w' := by
  have h := pow_le31 hn
  have h1 : IntKind.u64.wrap (n : Int) = (n : Int) := by simp [IntKind.wrap, IntKind.bits, IntKind.signed]; omega
  have h2 : min n 64 = n := by omega
  have h3 : IntKind.u64.wrap ((2 : Int) ^ n) = ((2 ^ n : Nat) : Int) := by
    have : ((2 : Int) ^ n) = ((2 ^ n : Nat) : Int) := by simp
    rw [this]
    generalize 2 ^ n = s at *
    simp only [IntKind.wrap, IntKind.bits, IntKind.signed]
    simp
    omega
  have HH : Hid (IntKind.u64.wrap ((2 : Int) ^ n) = ((2 ^ n : Nat) : Int)) := h3
  clear h h3
  go_enter Try.func37, Try.ntmps37
  go_wp2_with fail
  rw [HH.out]
  go_ret
  exact ⟨rfl, below_new _ _⟩
set_option maxRecDepth 100000 in
theorem tmod_dec (a s : Nat) : ((a : Int).tmod (s : Int) == 0) = decide (a % s = 0) := by
  rw [← Int.ofNat_tmod]
  by_cases h : a % s = 0
  · simp [h]
  · simp [h]; omega
set_option maxHeartbeats 2000000 in
set_option maxRecDepth 100000 in
theorem eRight_any (X Y : Nat) (L : Int) (hX : X < 4294967296) (hY : Y < 4294967296) (w : World) :
    Calls Try.prog 25 #[cv X Y L] w fun e w' => e = .returned (.bool (rightS X Y L)) ∧ Below w.heap.size w w' := by
  by_cases h0 : L < 0
  · rw [show rightS X Y L = false by unfold rightS; rw [decide_eq_false_iff_not]; omega]
    go_enter Try.func25, Try.ntmps25
    go_wp2_with fail
    go_ret
    exact ⟨rfl, below_new _ _⟩
  · by_cases h1 : 31 < L
    · rw [show rightS X Y L = false by unfold rightS; rw [decide_eq_false_iff_not]; omega]
      go_enter Try.func25, Try.ntmps25
      go_wp2_with fail
      go_ret
      exact ⟨rfl, below_new _ _⟩
    · by_cases h2 : 2147483648 ≤ X
      · rw [show rightS X Y L = false by unfold rightS; rw [decide_eq_false_iff_not]; omega]
        have q2 : (2147483648 : Int) ≤ (X : Int) := by omega
        go_enter Try.func25, Try.ntmps25
        go_wp2_with fail
        go_ret
        exact ⟨rfl, below_new _ _⟩
      · have q2 : ¬ (2147483648 : Int) ≤ (X : Int) := by omega
        by_cases h3 : 2147483648 ≤ Y
        · rw [show rightS X Y L = false by unfold rightS; rw [decide_eq_false_iff_not]; omega]
          have q3 : (2147483648 : Int) ≤ (Y : Int) := by omega
          clear h2 h3
          go_enter Try.func25, Try.ntmps25
          go_wp2_with fail
          go_ret
          exact ⟨rfl, below_new _ _⟩
        · have q3 : ¬ (2147483648 : Int) ≤ (Y : Int) := by omega
          obtain ⟨n, rfl⟩ := Int.eq_ofNat_of_zero_le (by omega : 0 ≤ L)
          have hR : rightS X Y (n : Int) = decide (X % 2 ^ n = 0 ∧ Y % 2 ^ n = 0) := by
            unfold rightS; apply decide_eq_decide.2; rw [Int.toNat_natCast, flr_eq, flr_eq]
            exact ⟨fun h => h.2.2.2.2, fun h => ⟨by omega, by omega, by omega, by omega, h⟩⟩
          have HZ : Hid _ := eSize_any X Y n (by omega)
          have hp := Nat.two_pow_pos n
          rw [hR]
          clear h2 h3 hR
          have HSW : Hid (CelS w.heap.size X Y (n : Int) (w.alloc (.cells #[.int .u32 (X : Int), .int .u32 (Y : Int), .int .i64 (n : Int)] 24)).drew) := cel_new X Y n w
          have HB : Hid (Below w.heap.size w (w.alloc (.cells #[.int .u32 (X : Int), .int .u32 (Y : Int), .int .i64 (n : Int)] 24)).drew) := (below_new w _).drew
          have HL : Hid (w.heap.size < (w.alloc (.cells #[.int .u32 (X : Int), .int .u32 (Y : Int), .int .i64 (n : Int)] 24)).drew.heap.size) := by refine (?_ : w.heap.size < _); simp
          generalize 2 ^ n = s at *
          have s0 : ¬ s = 0 := by omega
          have x64 : IntKind.u64.wrap (X : Int) = (X : Int) := by simp only [IntKind.wrap, IntKind.bits, IntKind.signed]; simp; omega
          have y64 : IntKind.u64.wrap (Y : Int) = (Y : Int) := by simp only [IntKind.wrap, IntKind.bits, IntKind.signed]; simp; omega
          go_enter Try.func25, Try.ntmps25
          go_wp2_with fail
          refine wp_region_held (S := CelS w.heap.size X Y (n : Int)) (by kernel_rfl) ?_
          change wpAnyH _ _ _ _ _ _ _ _ (World.drew _)
          refine wpAnyH_take (i := 0) (v := ?_) rfl (by kernel_rfl) (by kernel_rfl) (by kernel_rfl) (fun _ _ _ h => h) (Or.inl ⟨by kernel_rfl, ?_⟩) HSW.out ?_
          rotate_left
          · intro w hS
            obtain ⟨e1, e2, e3⟩ := hS
            go_simp
            try with_reducible rfl
          conv in (Act.put _ _ _) => simp only [List.getElem_toArray, List.getElem_cons_succ, List.getElem_cons_zero, Act.put, List.setIfInBounds_toArray, List.set_cons_succ, List.set_cons_zero]
          refine wpAnyH_take (i := 1) (v := ?_) rfl (by kernel_rfl) (by kernel_rfl) (by kernel_rfl) (fun _ _ _ h => h) (Or.inl ⟨by kernel_rfl, ?_⟩) HSW.out ?_
          rotate_left
          · intro w hS
            obtain ⟨e1, e2, e3⟩ := hS
            go_simp
            try with_reducible rfl
          conv in (Act.put _ _ _) => simp only [List.getElem_toArray, List.getElem_cons_succ, List.getElem_cons_zero, Act.put, List.setIfInBounds_toArray, List.set_cons_succ, List.set_cons_zero]
          refine wpAnyH_take (i := 2) (v := ?_) rfl (by kernel_rfl) (by kernel_rfl) (by kernel_rfl) (fun _ _ _ h => h) (Or.inl ⟨by kernel_rfl, ?_⟩) HSW.out ?_
          rotate_left
          · intro w hS
            obtain ⟨e1, e2, e3⟩ := hS
            go_simp
            try with_reducible rfl
          conv in (Act.put _ _ _) => simp only [List.getElem_toArray, List.getElem_cons_succ, List.getElem_cons_zero, Act.put, List.setIfInBounds_toArray, List.set_cons_succ, List.set_cons_zero]
          refine wpAnyH_take (i := 3) (v := ?_) rfl (by kernel_rfl) (by kernel_rfl) (by kernel_rfl) (fun _ _ _ h => h) (Or.inl ⟨by kernel_rfl, ?_⟩) HSW.out ?_
          rotate_left
          · intro w hS
            obtain ⟨e1, e2, e3⟩ := hS
            go_simp
            try with_reducible rfl
          conv in (Act.put _ _ _) => simp only [List.getElem_toArray, List.getElem_cons_succ, List.getElem_cons_zero, Act.put, List.setIfInBounds_toArray, List.set_cons_succ, List.set_cons_zero]
          refine readyH 4 _ (by kernel_rfl) rfl (by kernel_rfl) (fun K hK => ?_)
          go_simp
          refine (HZ.out _).mono ?_
          rintro e w1 ⟨rfl, b1⟩
          replace HB : Hid (Below w.heap.size w w1) := HB.out.trans (b1.mono (Nat.le_of_lt HL.out))
          replace HSW : Hid (CelS w.heap.size X Y (n : Int) w1) := HSW.out.below b1 HL.out
          replace HL : Hid (w.heap.size < w1.heap.size) := Nat.lt_of_lt_of_le HL.out b1.size
          refine hK _ _ HSW.out ?_
          clear hK K b1
          have T1 : Hid (((X : Int).tmod (s : Int) == 0) = decide (X % s = 0)) := tmod_dec X s
          have T2 : Hid (((Y : Int).tmod (s : Int) == 0) = decide (Y % s = 0)) := tmod_dec Y s
          refine wpAnyH_take (i := 5) (v := ?_) rfl (by kernel_rfl) (by kernel_rfl) (by kernel_rfl) (fun _ _ _ h => h) (Or.inl ⟨by kernel_rfl, ?_⟩) HSW.out ?_
          rotate_left
          · intro w hS
            obtain ⟨e1, e2, e3⟩ := hS
            go_simp
            try with_reducible rfl
          conv in (Act.put _ _ _) => simp only [List.getElem_toArray, List.getElem_cons_succ, List.getElem_cons_zero, Act.put, List.setIfInBounds_toArray, List.set_cons_succ, List.set_cons_zero]
          refine wpAnyH_take (i := 6) (v := ?_) rfl (by kernel_rfl) (by kernel_rfl) (by kernel_rfl) (fun _ _ _ h => h) (Or.inl ⟨by kernel_rfl, ?_⟩) HSW.out ?_
          rotate_left
          · intro w hS
            obtain ⟨e1, e2, e3⟩ := hS
            go_simp
            try with_reducible rfl
          conv in (Act.put _ _ _) => simp only [List.getElem_toArray, List.getElem_cons_succ, List.getElem_cons_zero, Act.put, List.setIfInBounds_toArray, List.set_cons_succ, List.set_cons_zero]
          by_cases hx : X % s = 0
          · have t1 := T1.out
            rw [decide_eq_true hx] at t1
            have HE : Hid (decide (X % s = 0 ∧ Y % s = 0) = decide (Y % s = 0)) := by refine (?_ : decide (X % s = 0 ∧ Y % s = 0) = decide (Y % s = 0)); apply decide_eq_decide.2; omega
            clear hx
            rw [t1]
            clear t1
            refine wpAnyH_take (i := 7) (v := ?_) rfl (by kernel_rfl) (by kernel_rfl) (by kernel_rfl) (fun _ _ _ h => h) (Or.inl ⟨by kernel_rfl, ?_⟩) HSW.out ?_
            rotate_left
            · intro w hS
              obtain ⟨e1, e2, e3⟩ := hS
              go_simp
              try with_reducible rfl
            conv in (Act.put _ _ _) => simp only [List.getElem_toArray, List.getElem_cons_succ, List.getElem_cons_zero, Act.put, List.setIfInBounds_toArray, List.set_cons_succ, List.set_cons_zero]
            refine wpAnyH_take (i := 8) (v := ?_) rfl (by kernel_rfl) (by kernel_rfl) (by kernel_rfl) (fun _ _ _ h => h) (Or.inl ⟨by kernel_rfl, ?_⟩) HSW.out ?_
            rotate_left
            · intro w hS
              obtain ⟨e1, e2, e3⟩ := hS
              go_simp
              try with_reducible rfl
            conv in (Act.put _ _ _) => simp only [List.getElem_toArray, List.getElem_cons_succ, List.getElem_cons_zero, Act.put, List.setIfInBounds_toArray, List.set_cons_succ, List.set_cons_zero]
            refine wpAnyH_take (i := 9) (v := ?_) rfl (by kernel_rfl) (by kernel_rfl) (by kernel_rfl) (fun _ _ _ h => h) (Or.inl ⟨by kernel_rfl, ?_⟩) HSW.out ?_
            rotate_left
            · intro w hS
              obtain ⟨e1, e2, e3⟩ := hS
              go_simp
              try with_reducible rfl
            conv in (Act.put _ _ _) => simp only [List.getElem_toArray, List.getElem_cons_succ, List.getElem_cons_zero, Act.put, List.setIfInBounds_toArray, List.set_cons_succ, List.set_cons_zero]
            refine wpAnyH_take (i := 10) (v := ?_) rfl (by kernel_rfl) (by kernel_rfl) (by kernel_rfl) (fun _ _ _ h => h) (Or.inl ⟨by kernel_rfl, ?_⟩) HSW.out ?_
            rotate_left
            · intro w hS
              obtain ⟨e1, e2, e3⟩ := hS
              go_simp
              try with_reducible rfl
            conv in (Act.put _ _ _) => simp only [List.getElem_toArray, List.getElem_cons_succ, List.getElem_cons_zero, Act.put, List.setIfInBounds_toArray, List.set_cons_succ, List.set_cons_zero]
            refine wpAnyH_take (i := 11) (v := ?_) rfl (by kernel_rfl) (by kernel_rfl) (by kernel_rfl) (fun _ _ _ h => h) (Or.inl ⟨by kernel_rfl, ?_⟩) HSW.out ?_
            rotate_left
            · intro w hS
              obtain ⟨e1, e2, e3⟩ := hS
              go_simp
              try with_reducible rfl
            conv in (Act.put _ _ _) => simp only [List.getElem_toArray, List.getElem_cons_succ, List.getElem_cons_zero, Act.put, List.setIfInBounds_toArray, List.set_cons_succ, List.set_cons_zero]
            refine readyH 12 _ (by kernel_rfl) rfl (by kernel_rfl) (fun K hK => ?_)
            go_simp
            refine (HZ.out _).mono ?_
            rintro e w2 ⟨rfl, b2⟩
            replace HB : Hid (Below w.heap.size w w2) := HB.out.trans (b2.mono (Nat.le_of_lt HL.out))
            replace HSW : Hid (CelS w.heap.size X Y (n : Int) w2) := HSW.out.below b2 HL.out
            refine hK _ _ HSW.out ?_
            clear hK K b2
            refine wpAnyH_take (i := 13) (v := ?_) rfl (by kernel_rfl) (by kernel_rfl) (by kernel_rfl) (fun _ _ _ h => h) (Or.inl ⟨by kernel_rfl, ?_⟩) HSW.out ?_
            rotate_left
            · intro w hS
              obtain ⟨e1, e2, e3⟩ := hS
              go_simp
              try with_reducible rfl
            conv in (Act.put _ _ _) => simp only [List.getElem_toArray, List.getElem_cons_succ, List.getElem_cons_zero, Act.put, List.setIfInBounds_toArray, List.set_cons_succ, List.set_cons_zero]
            refine wpAnyH_take (i := 14) (v := ?_) rfl (by kernel_rfl) (by kernel_rfl) (by kernel_rfl) (fun _ _ _ h => h) (Or.inl ⟨by kernel_rfl, ?_⟩) HSW.out ?_
            rotate_left
            · intro w hS
              obtain ⟨e1, e2, e3⟩ := hS
              go_simp
              try with_reducible rfl
            conv in (Act.put _ _ _) => simp only [List.getElem_toArray, List.getElem_cons_succ, List.getElem_cons_zero, Act.put, List.setIfInBounds_toArray, List.set_cons_succ, List.set_cons_zero]
            rw [T2.out]
            clear T2
            generalize hyd : decide (Y % s = 0) = yd at *
            refine wpAnyH_take (i := 15) (v := ?_) rfl (by kernel_rfl) (by kernel_rfl) (by kernel_rfl) (fun _ _ _ h => h) (Or.inl ⟨by kernel_rfl, ?_⟩) HSW.out ?_
            rotate_left
            · intro w hS
              obtain ⟨e1, e2, e3⟩ := hS
              go_simp
              try with_reducible rfl
            conv in (Act.put _ _ _) => simp only [List.getElem_toArray, List.getElem_cons_succ, List.getElem_cons_zero, Act.put, List.setIfInBounds_toArray, List.set_cons_succ, List.set_cons_zero]
            refine wpAnyH_take (i := 16) (v := ?_) rfl (by kernel_rfl) (by kernel_rfl) (by kernel_rfl) (fun _ _ _ h => h) (Or.inl ⟨by kernel_rfl, ?_⟩) HSW.out ?_
            rotate_left
            · intro w hS
              obtain ⟨e1, e2, e3⟩ := hS
              go_simp
              try with_reducible rfl
            conv in (Act.put _ _ _) => simp only [List.getElem_toArray, List.getElem_cons_succ, List.getElem_cons_zero, Act.put, List.setIfInBounds_toArray, List.set_cons_succ, List.set_cons_zero]
            refine wpAnyH_done (by kernel_rfl) ?_ _
            go_wp2_with fail
            go_ret
            exact ⟨by rw [HE.out]; rfl, HB.out⟩
          · have t1 := T1.out
            rw [decide_eq_false hx] at t1
            have HE : Hid (decide (X % s = 0 ∧ Y % s = 0) = false) := by refine (?_ : decide (X % s = 0 ∧ Y % s = 0) = false); rw [decide_eq_false]; omega
            clear hx
            rw [t1]
            clear t1
            refine wpAnyH_take (i := 7) (v := ?_) rfl (by kernel_rfl) (by kernel_rfl) (by kernel_rfl) (fun _ _ _ h => h) (Or.inl ⟨by kernel_rfl, ?_⟩) HSW.out ?_
            rotate_left
            · intro w hS
              obtain ⟨e1, e2, e3⟩ := hS
              go_simp
              try with_reducible rfl
            conv in (Act.put _ _ _) => simp only [List.getElem_toArray, List.getElem_cons_succ, List.getElem_cons_zero, Act.put, List.setIfInBounds_toArray, List.set_cons_succ, List.set_cons_zero]
            refine wpAnyH_take (i := 8) (v := undef) rfl (by kernel_rfl) (by kernel_rfl) (by kernel_rfl) (fun _ _ _ h => h) (Or.inr ⟨by kernel_rfl, rfl⟩) HSW.out ?_
            conv in (Act.put _ _ _) => simp only [List.getElem_toArray, List.getElem_cons_succ, List.getElem_cons_zero, Act.put, List.setIfInBounds_toArray, List.set_cons_succ, List.set_cons_zero]
            refine wpAnyH_take (i := 9) (v := undef) rfl (by kernel_rfl) (by kernel_rfl) (by kernel_rfl) (fun _ _ _ h => h) (Or.inr ⟨by kernel_rfl, rfl⟩) HSW.out ?_
            conv in (Act.put _ _ _) => simp only [List.getElem_toArray, List.getElem_cons_succ, List.getElem_cons_zero, Act.put, List.setIfInBounds_toArray, List.set_cons_succ, List.set_cons_zero]
            refine wpAnyH_take (i := 10) (v := undef) rfl (by kernel_rfl) (by kernel_rfl) (by kernel_rfl) (fun _ _ _ h => h) (Or.inr ⟨by kernel_rfl, rfl⟩) HSW.out ?_
            conv in (Act.put _ _ _) => simp only [List.getElem_toArray, List.getElem_cons_succ, List.getElem_cons_zero, Act.put, List.setIfInBounds_toArray, List.set_cons_succ, List.set_cons_zero]
            refine wpAnyH_take (i := 11) (v := undef) rfl (by kernel_rfl) (by kernel_rfl) (by kernel_rfl) (fun _ _ _ h => h) (Or.inr ⟨by kernel_rfl, rfl⟩) HSW.out ?_
            conv in (Act.put _ _ _) => simp only [List.getElem_toArray, List.getElem_cons_succ, List.getElem_cons_zero, Act.put, List.setIfInBounds_toArray, List.set_cons_succ, List.set_cons_zero]
            refine wpAnyH_take (i := 12) (v := undef) rfl (by kernel_rfl) (by kernel_rfl) (by kernel_rfl) (fun _ _ _ h => h) (Or.inr ⟨by kernel_rfl, rfl⟩) HSW.out ?_
            conv in (Act.put _ _ _) => simp only [List.getElem_toArray, List.getElem_cons_succ, List.getElem_cons_zero, Act.put, List.setIfInBounds_toArray, List.set_cons_succ, List.set_cons_zero]
            refine wpAnyH_take (i := 13) (v := undef) rfl (by kernel_rfl) (by kernel_rfl) (by kernel_rfl) (fun _ _ _ h => h) (Or.inr ⟨by kernel_rfl, rfl⟩) HSW.out ?_
            conv in (Act.put _ _ _) => simp only [List.getElem_toArray, List.getElem_cons_succ, List.getElem_cons_zero, Act.put, List.setIfInBounds_toArray, List.set_cons_succ, List.set_cons_zero]
            refine wpAnyH_take (i := 14) (v := undef) rfl (by kernel_rfl) (by kernel_rfl) (by kernel_rfl) (fun _ _ _ h => h) (Or.inr ⟨by kernel_rfl, rfl⟩) HSW.out ?_
            conv in (Act.put _ _ _) => simp only [List.getElem_toArray, List.getElem_cons_succ, List.getElem_cons_zero, Act.put, List.setIfInBounds_toArray, List.set_cons_succ, List.set_cons_zero]
            refine wpAnyH_take (i := 15) (v := ?_) rfl (by kernel_rfl) (by kernel_rfl) (by kernel_rfl) (fun _ _ _ h => h) (Or.inl ⟨by kernel_rfl, ?_⟩) HSW.out ?_
            rotate_left
            · intro w hS
              obtain ⟨e1, e2, e3⟩ := hS
              go_simp
              try with_reducible rfl
            conv in (Act.put _ _ _) => simp only [List.getElem_toArray, List.getElem_cons_succ, List.getElem_cons_zero, Act.put, List.setIfInBounds_toArray, List.set_cons_succ, List.set_cons_zero]
            refine wpAnyH_take (i := 16) (v := ?_) rfl (by kernel_rfl) (by kernel_rfl) (by kernel_rfl) (fun _ _ _ h => h) (Or.inl ⟨by kernel_rfl, ?_⟩) HSW.out ?_
            rotate_left
            · intro w hS
              obtain ⟨e1, e2, e3⟩ := hS
              go_simp
              try with_reducible rfl
            conv in (Act.put _ _ _) => simp only [List.getElem_toArray, List.getElem_cons_succ, List.getElem_cons_zero, Act.put, List.setIfInBounds_toArray, List.set_cons_succ, List.set_cons_zero]
            refine wpAnyH_done (by kernel_rfl) ?_ _
            go_wp2_with fail
            go_ret
            exact ⟨by rw [HE.out]; rfl, HB.out⟩
end Go.Proofs.Ytljponlfjombaaa.Rc
