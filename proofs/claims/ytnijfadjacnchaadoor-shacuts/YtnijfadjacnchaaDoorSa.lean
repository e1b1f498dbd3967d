/- How a text is cut makes no difference: the walk. -/
import Derived.Test.YtnijfadjacnchaaDoorS
namespace Go.Proofs.YtnijfadjacnchaaDoor
open Go.RowKit Go.Lib
set_option maxHeartbeats 4000000 in
theorem cuts_walk (s : ByteArray) (i' k' : Int) (w : World) {tt : TypeId} {fr : Nat × Nat} (hK : w.heap[1]? = some (.cells (w64 (lf KL)) tt fr)) :
    Calls Tryd.prog 7 #[.string s, .int .i64 i', .int .i64 k'] w fun e w' => e = .returned (.bool true) ∧ Below w.heap.size w w' := by
  have h1l : 1 < w.heap.size := (Array.getElem?_eq_some_iff.1 hK).1
  have HK : Hid (w.heap[1]? = some (.cells (w64 (lf KL)) tt fr)) := hK
  clear hK
  obtain ⟨t, r, hr, hrs, hrt, hts⟩ := cut_is s 5000
  have HR : Hid ((if ((5000 : Nat) : Int) < (s.size : Int) then ((5000 : Nat) : Int) else (s.size : Int)) = (r : Int)) := hr
  have HRS : Hid (r ≤ s.size) := hrs
  have HRT : Hid (s.extract 0 r = t) := hrt
  have HT : Hid (t.size ≤ 5000) := hts
  clear hr hrs hrt hts
  by_cases hat : 0 ≤ i' ∧ i' ≤ k' ∧ k' ≤ (t.size : Int)
  · obtain ⟨i, rfl⟩ : ∃ i : Nat, i' = (i : Int) := ⟨i'.toNat, by omega⟩
    obtain ⟨k, rfl⟩ : ∃ k : Nat, k' = (k : Int) := ⟨k'.toNat, by omega⟩
    have q1 : decide ((i : Int) < 0) = false := by simp
    have q2 : decide ((k : Int) < (i : Int)) = false := by simp; omega
    have q3 : decide ((t.size : Int) < (k : Int)) = false := by simp; omega
    have i1 : (i : Int) ≤ (t.size : Int) := by omega
    have i2 : (k : Int) ≤ (t.size : Int) := by omega
    have i3 : (i : Int) ≤ (k : Int) := by omega
    have j1 : i ≤ t.size := by omega
    have j2 : k ≤ t.size := by omega
    have j3 : i ≤ k := by omega
    clear hat
    go_enter Tryd.func7, Tryd.ntmps7
    go_wp2_with fail
    refine (shown_any w HK.out).mono ?_
    rintro e w1 ⟨rfl, b1⟩
    have B1 : Hid (Below w.heap.size w w1) := b1
    clear b1
    go_wp2_with (first
      | (refine list_min rfl 3 3 (.tmp 16) (.const (.int .i64 5000)) rfl (p := (s.size : Int)) (q := 5000) rfl rfl HR.out ?_)
      | (refine list_head rfl (.tmp 14) (.tmp 17) rfl (s := s) (t := t) (n := r) rfl rfl HRS.out HRT.out ?_))
    have HKt : Hid (∀ j, 0 ≤ bt t j ∧ bt t j < 256) := bt_range t
    have NA : Hid (∀ w, Calls Tryd.prog 14 #[] w fun e w' => ∃ g, w.heap.size ≤ g ∧ e = .returned (.pointer (some ⟨g, 0, none⟩)) ∧ w'.heap[g]? = some (.cells (sm (lf IV) (fun _ => 0) 0) 49 (0, 0)) ∧ Below w.heap.size w w') := new_any
    refine (NA.out w1).mono ?_
    rintro e w2 ⟨g, hg, rfl, h2, b2⟩
    have T2 : Hid (Told (lf KL) (lf IV) (bt t) w2 g 0) := ⟨_, h2, fun j hj => absurd hj (by omega)⟩
    have B2 : Hid (Below w.heap.size w w2) := B1.out.trans (b2.mono B1.out.size)
    have hgw : w.heap.size ≤ g := Nat.le_trans B1.out.size hg
    clear h2 b2 NA B1 hg
    go_wp2_with fail
    have zA : (t.extract 0 i).size = i := by simp; omega
    refine (write_fits (lf KL) (lf IV) (bt t) HKt.out g 0 (t.extract 0 i) w2 ((B2.out.block 1 h1l).trans HK.out) (by omega) (by have := HT.out; omega) T2.out (fun j hj => by rw [bt_ext _ _ _ _ (by omega)])).mono ?_
    rintro e w3 ⟨rfl, h3, g3⟩
    have T3 : Hid (Told (lf KL) (lf IV) (bt t) w3 g i) := by rw [zA, Nat.zero_add] at h3; exact h3
    have B3 : Hid (Below w.heap.size w w3) := B2.out.grown g3 B2.out.size (fun k e => by cases e; exact hgw)
    clear h3 g3 T2 B2 zA
    go_wp2_with fail
    refine (sum_any (lf KL) (lf IV) (bt t) HKt.out g i w3 ((B3.out.block 1 h1l).trans HK.out) (by have := HT.out; omega) T3.out).mono ?_
    rintro e w4 ⟨rfl, b4⟩
    have B4 : Hid (Below w.heap.size w w4) := B3.out.trans (b4.mono B3.out.size)
    have T4 : Hid (Told (lf KL) (lf IV) (bt t) w4 g i) := T3.out.below b4 (by obtain ⟨_, h, _⟩ := T3.out; exact (Array.getElem?_eq_some_iff.1 h).1)
    clear b4 B3 T3
    generalize strOfNums (dig (lf KL) (lf IV) (bt t) i) = D0
    go_wp2_with fail
    have zB : (t.extract i k).size = k - i := by simp; omega
    refine (write_fits (lf KL) (lf IV) (bt t) HKt.out g i (t.extract i k) w4 ((B4.out.block 1 h1l).trans HK.out) (by omega) (by have := HT.out; omega) T4.out (fun j hj => by rw [bt_ext _ _ _ _ (by omega)])).mono ?_
    rintro e w5 ⟨rfl, h5, g5⟩
    have T5 : Hid (Told (lf KL) (lf IV) (bt t) w5 g k) := by rw [zB, show i + (k - i) = k by omega] at h5; exact h5
    have B5 : Hid (Below w.heap.size w w5) := B4.out.grown g5 B4.out.size (fun k e => by cases e; exact hgw)
    clear h5 g5 T4 B4 zB
    go_wp2_with fail
    have zC : (t.extract k t.size).size = t.size - k := by simp
    refine (write_fits (lf KL) (lf IV) (bt t) HKt.out g k (t.extract k t.size) w5 ((B5.out.block 1 h1l).trans HK.out) (by omega) (by have := HT.out; omega) T5.out (fun j hj => by rw [bt_ext _ _ _ _ (by omega)])).mono ?_
    rintro e w6 ⟨rfl, h6, g6⟩
    have T6 : Hid (Told (lf KL) (lf IV) (bt t) w6 g t.size) := by rw [zC, show k + (t.size - k) = t.size by omega] at h6; exact h6
    have B6 : Hid (Below w.heap.size w w6) := B5.out.grown g6 B5.out.size (fun k e => by cases e; exact hgw)
    clear h6 g6 T5 B5 zC
    go_wp2_with fail
    refine (shaSum_any (lf KL) t w6 ((B6.out.block 1 h1l).trans HK.out) (by have := HT.out; omega)).mono ?_
    rintro e w7 ⟨rfl, b7⟩
    have B7 : Hid (Below w.heap.size w w7) := B6.out.trans (b7.mono B6.out.size)
    have T7 : Hid (Told (lf KL) (lf IV) (bt t) w7 g t.size) := T6.out.below b7 (by obtain ⟨_, h, _⟩ := T6.out; exact (Array.getElem?_eq_some_iff.1 h).1)
    clear b7 B6 T6
    obtain ⟨D, hD⟩ : ∃ D, strOfNums (dig (lf KL) (lf IV) (bt t) t.size) = D := ⟨_, rfl⟩
    have HD : Hid (strOfNums (dig (lf KL) (lf IV) (bt t) t.size) = D) := hD
    have hDs : D.size = 32 := by rw [← hD, strOfNums_size, dig_length]
    rw [hD]
    clear hD
    go_wp2_with fail
    refine wp_region_any (by kernel_rfl) ?_
    change wpAny _ _ _ _ _ _ _ (World.drew _)
    refine wpAny_take (i := 0) (v := ?_) rfl (by kernel_rfl) (by kernel_rfl) (by kernel_rfl) (fun _ _ _ h => h) (Or.inl ⟨by kernel_rfl, ?_⟩) ?_
    rotate_left
    · intro w
      go_simp
      try with_reducible rfl
    conv in (Act.put _ _ _) => simp only [Act.put, List.setIfInBounds_toArray, List.set_cons_succ, List.set_cons_zero]
    refine wpAny_take (i := 1) (v := ?_) rfl (by kernel_rfl) (by kernel_rfl) (by kernel_rfl) (fun _ _ _ h => h) (Or.inl ⟨by kernel_rfl, ?_⟩) ?_
    rotate_left
    · intro w
      go_simp
      try with_reducible rfl
    conv in (Act.put _ _ _) => simp only [Act.put, List.setIfInBounds_toArray, List.set_cons_succ, List.set_cons_zero]
    refine wpAny_take (i := 2) (v := ?_) rfl (by kernel_rfl) (by kernel_rfl) (by kernel_rfl) (fun _ _ _ h => h) (Or.inl ⟨by kernel_rfl, ?_⟩) ?_
    rotate_left
    · intro w
      go_simp
      try with_reducible rfl
    conv in (Act.put _ _ _) => simp only [Act.put, List.setIfInBounds_toArray, List.set_cons_succ, List.set_cons_zero]
    refine wpAny_take (i := 3) (v := ?_) rfl (by kernel_rfl) (by kernel_rfl) (by kernel_rfl) (fun _ _ _ h => h) (Or.inl ⟨by kernel_rfl, ?_⟩) ?_
    rotate_left
    · intro w
      go_simp
      try with_reducible rfl
    conv in (Act.put _ _ _) => simp only [Act.put, List.setIfInBounds_toArray, List.set_cons_succ, List.set_cons_zero]
    refine wpAny_take (i := 4) (v := ?_) rfl (by kernel_rfl) (by kernel_rfl) (by kernel_rfl) (fun _ _ _ h => h) (Or.inl ⟨by kernel_rfl, ?_⟩) ?_
    rotate_left
    · intro w
      go_simp
      try with_reducible rfl
    conv in (Act.put _ _ _) => simp only [Act.put, List.setIfInBounds_toArray, List.set_cons_succ, List.set_cons_zero]
    refine wpAny_take (i := 5) (v := ?_) rfl (by kernel_rfl) (by kernel_rfl) (by kernel_rfl) (fun _ _ _ h => h) (Or.inl ⟨by kernel_rfl, ?_⟩) ?_
    rotate_left
    · intro w
      go_simp
      try with_reducible rfl
    conv in (Act.put _ _ _) => simp only [Act.put, List.setIfInBounds_toArray, List.set_cons_succ, List.set_cons_zero]
    refine wpAny_take (i := 6) (v := ?_) rfl (by kernel_rfl) (by kernel_rfl) (by kernel_rfl) (fun _ _ _ h => h) (Or.inl ⟨by kernel_rfl, ?_⟩) ?_
    rotate_left
    · intro w
      go_simp
      try with_reducible rfl
    conv in (Act.put _ _ _) => simp only [Act.put, List.setIfInBounds_toArray, List.set_cons_succ, List.set_cons_zero]
    refine wpAny_take (i := 7) (v := ?_) rfl (by kernel_rfl) (by kernel_rfl) (by kernel_rfl) (fun _ _ _ h => h) (Or.inl ⟨by kernel_rfl, ?_⟩) ?_
    rotate_left
    · intro w
      go_simp
      try with_reducible rfl
    conv in (Act.put _ _ _) => simp only [Act.put, List.setIfInBounds_toArray, List.set_cons_succ, List.set_cons_zero]
    refine wpAny_take (i := 8) (v := ?_) rfl (by kernel_rfl) (by kernel_rfl) (by kernel_rfl) (fun _ _ _ h => h) (Or.inl ⟨by kernel_rfl, ?_⟩) ?_
    rotate_left
    · intro w
      go_simp
      try with_reducible rfl
    conv in (Act.put _ _ _) => simp only [Act.put, List.setIfInBounds_toArray, List.set_cons_succ, List.set_cons_zero]
    refine wpAny_take (i := 9) (v := ?_) rfl (by kernel_rfl) (by kernel_rfl) (by kernel_rfl) (fun _ _ _ h => h) (Or.inl ⟨by kernel_rfl, ?_⟩) ?_
    rotate_left
    · intro w
      go_simp
      try with_reducible rfl
    conv in (Act.put _ _ _) => simp only [Act.put, List.setIfInBounds_toArray, List.set_cons_succ, List.set_cons_zero]
    refine wpAny_take (i := 10) (v := ?_) rfl (by kernel_rfl) (by kernel_rfl) (by kernel_rfl) (fun _ _ _ h => h) (Or.inl ⟨by kernel_rfl, ?_⟩) ?_
    rotate_left
    · intro w
      go_simp
      try with_reducible rfl
    conv in (Act.put _ _ _) => simp only [Act.put, List.setIfInBounds_toArray, List.set_cons_succ, List.set_cons_zero]
    refine wpAny_take (i := 11) (v := ?_) rfl (by kernel_rfl) (by kernel_rfl) (by kernel_rfl) (fun _ _ _ h => h) (Or.inl ⟨by kernel_rfl, ?_⟩) ?_
    rotate_left
    · intro w
      go_simp
      try with_reducible rfl
    conv in (Act.put _ _ _) => simp only [Act.put, List.setIfInBounds_toArray, List.set_cons_succ, List.set_cons_zero]
    refine wpAny_take (i := 12) (v := ?_) rfl (by kernel_rfl) (by kernel_rfl) (by kernel_rfl) (fun _ _ _ h => h) (Or.inl ⟨by kernel_rfl, ?_⟩) ?_
    rotate_left
    · intro w
      go_simp
      try with_reducible rfl
    conv in (Act.put _ _ _) => simp only [Act.put, List.setIfInBounds_toArray, List.set_cons_succ, List.set_cons_zero]
    refine wpAny_take (i := 13) (v := ?_) rfl (by kernel_rfl) (by kernel_rfl) (by kernel_rfl) (fun _ _ _ h => h) (Or.inl ⟨by kernel_rfl, ?_⟩) ?_
    rotate_left
    · intro w
      go_simp
      try with_reducible rfl
    conv in (Act.put _ _ _) => simp only [Act.put, List.setIfInBounds_toArray, List.set_cons_succ, List.set_cons_zero]
    refine wpAny_take (i := 14) (v := ?_) rfl (by kernel_rfl) (by kernel_rfl) (by kernel_rfl) (fun _ _ _ h => h) (Or.inl ⟨by kernel_rfl, ?_⟩) ?_
    rotate_left
    · intro w
      go_simp
      try with_reducible rfl
    conv in (Act.put _ _ _) => simp only [Act.put, List.setIfInBounds_toArray, List.set_cons_succ, List.set_cons_zero]
    refine wpAny_take (i := 16) (v := ?_) rfl (by kernel_rfl) (by kernel_rfl) (by kernel_rfl) (fun _ _ _ h => h) (Or.inl ⟨by kernel_rfl, ?_⟩) ?_
    rotate_left
    · intro w
      go_simp
      try with_reducible rfl
    conv in (Act.put _ _ _) => simp only [Act.put, List.setIfInBounds_toArray, List.set_cons_succ, List.set_cons_zero]
    refine wpAny_ready (rs := [15]) (by kernel_rfl) (by simp) ?_
    refine (AllReady.cons rfl (fun K hK => ?_) AllReady.nil)
    go_simp
    refine (sum_any (lf KL) (lf IV) (bt t) HKt.out g t.size w7.drew ((B7.out.block 1 h1l).trans HK.out) (by have := HT.out; omega) T7.out).mono ?_
    rintro e w8 ⟨rfl, b8⟩
    rw [HD.out]
    refine hK _ _ ?_
    clear hK K
    have B8 : Hid (Below w.heap.size w w8) := B7.out.drew.trans (b8.mono B7.out.drew.size)
    clear b8 B7 T7
    refine wpAny_take (i := 17) (v := ?_) rfl (by kernel_rfl) (by kernel_rfl) (by kernel_rfl) (fun _ _ _ h => h) (Or.inl ⟨by kernel_rfl, ?_⟩) ?_
    rotate_left
    · intro w
      go_simp
      try with_reducible rfl
    conv in (Act.put _ _ _) => simp only [Act.put, List.setIfInBounds_toArray, List.set_cons_succ, List.set_cons_zero]
    refine wpAny_take (i := 18) (v := ?_) rfl (by kernel_rfl) (by kernel_rfl) (by kernel_rfl) (fun _ _ _ h => h) (Or.inl ⟨by kernel_rfl, ?_⟩) ?_
    rotate_left
    · intro w
      go_simp
      try with_reducible rfl
    conv in (Act.put _ _ _) => simp only [Act.put, List.setIfInBounds_toArray, List.set_cons_succ, List.set_cons_zero]
    refine wpAny_take (i := 19) (v := ?_) rfl (by kernel_rfl) (by kernel_rfl) (by kernel_rfl) (fun _ _ _ h => h) (Or.inl ⟨by kernel_rfl, ?_⟩) ?_
    rotate_left
    · intro w
      go_simp
      try with_reducible rfl
    conv in (Act.put _ _ _) => simp only [Act.put, List.setIfInBounds_toArray, List.set_cons_succ, List.set_cons_zero]
    refine wpAny_take (i := 20) (v := ?_) rfl (by kernel_rfl) (by kernel_rfl) (by kernel_rfl) (fun _ _ _ h => h) (Or.inl ⟨by kernel_rfl, ?_⟩) ?_
    rotate_left
    · intro w
      go_simp
      try with_reducible rfl
    conv in (Act.put _ _ _) => simp only [Act.put, List.setIfInBounds_toArray, List.set_cons_succ, List.set_cons_zero]
    refine wpAny_take (i := 21) (v := ?_) rfl (by kernel_rfl) (by kernel_rfl) (by kernel_rfl) (fun _ _ _ h => h) (Or.inl ⟨by kernel_rfl, ?_⟩) ?_
    rotate_left
    · intro w
      go_simp
      try with_reducible rfl
    conv in (Act.put _ _ _) => simp only [Act.put, List.setIfInBounds_toArray, List.set_cons_succ, List.set_cons_zero]
    refine wpAny_take (i := 22) (v := ?_) rfl (by kernel_rfl) (by kernel_rfl) (by kernel_rfl) (fun _ _ _ h => h) (Or.inl ⟨by kernel_rfl, ?_⟩) ?_
    rotate_left
    · intro w
      go_simp
      try with_reducible rfl
    conv in (Act.put _ _ _) => simp only [Act.put, List.setIfInBounds_toArray, List.set_cons_succ, List.set_cons_zero]
    refine wpAny_take (i := 23) (v := ?_) rfl (by kernel_rfl) (by kernel_rfl) (by kernel_rfl) (fun _ _ _ h => h) (Or.inl ⟨by kernel_rfl, ?_⟩) ?_
    rotate_left
    · intro w
      go_simp
      try with_reducible rfl
    conv in (Act.put _ _ _) => simp only [Act.put, List.setIfInBounds_toArray, List.set_cons_succ, List.set_cons_zero]
    refine wpAny_take (i := 24) (v := ?_) rfl (by kernel_rfl) (by kernel_rfl) (by kernel_rfl) (fun _ _ _ h => h) (Or.inl ⟨by kernel_rfl, ?_⟩) ?_
    rotate_left
    · intro w
      go_simp
      try with_reducible rfl
    conv in (Act.put _ _ _) => simp only [Act.put, List.setIfInBounds_toArray, List.set_cons_succ, List.set_cons_zero]
    refine wpAny_take (i := 25) (v := ?_) rfl (by kernel_rfl) (by kernel_rfl) (by kernel_rfl) (fun _ _ _ h => h) (Or.inl ⟨by kernel_rfl, ?_⟩) ?_
    rotate_left
    · intro w
      go_simp
      try with_reducible rfl
    conv in (Act.put _ _ _) => simp only [Act.put, List.setIfInBounds_toArray, List.set_cons_succ, List.set_cons_zero]
    refine wpAny_take (i := 28) (v := ?_) rfl (by kernel_rfl) (by kernel_rfl) (by kernel_rfl) (fun _ _ _ h => h) (Or.inl ⟨by kernel_rfl, ?_⟩) ?_
    rotate_left
    · intro w
      go_simp
      try with_reducible rfl
    conv in (Act.put _ _ _) => simp only [Act.put, List.setIfInBounds_toArray, List.set_cons_succ, List.set_cons_zero]
    refine wpAny_ready (rs := [26]) (by kernel_rfl) (by simp) ?_
    refine (AllReady.cons rfl (fun K hK => ?_) AllReady.nil)
    go_simp
    refine hK _ _ ?_
    clear hK K
    refine wpAny_ready (rs := [27]) (by kernel_rfl) (by simp) ?_
    refine (AllReady.cons rfl (fun K hK => ?_) AllReady.nil)
    go_simp
    refine (add_two (lf KL) t k j2 (by have := HT.out; omega) w8 9 ((B8.out.block 1 h1l).trans HK.out)).mono ?_
    rintro e w9 ⟨rfl, b9⟩
    rw [HD.out]
    refine hK _ _ ?_
    clear hK K
    have B9 : Hid (Below w.heap.size w w9) := B8.out.trans (b9.mono B8.out.size)
    clear b9 B8
    refine wpAny_take (i := 29) (v := ?_) rfl (by kernel_rfl) (by kernel_rfl) (by kernel_rfl) (fun _ _ _ h => h) (Or.inl ⟨by kernel_rfl, ?_⟩) ?_
    rotate_left
    · intro w
      go_simp
      try with_reducible rfl
    conv in (Act.put _ _ _) => simp only [Act.put, List.setIfInBounds_toArray, List.set_cons_succ, List.set_cons_zero]
    refine wpAny_take (i := 30) (v := ?_) rfl (by kernel_rfl) (by kernel_rfl) (by kernel_rfl) (fun _ _ _ h => h) (Or.inl ⟨by kernel_rfl, ?_⟩) ?_
    rotate_left
    · intro w
      go_simp
      try with_reducible rfl
    conv in (Act.put _ _ _) => simp only [Act.put, List.setIfInBounds_toArray, List.set_cons_succ, List.set_cons_zero]
    refine wpAny_take (i := 31) (v := ?_) rfl (by kernel_rfl) (by kernel_rfl) (by kernel_rfl) (fun _ _ _ h => h) (Or.inl ⟨by kernel_rfl, ?_⟩) ?_
    rotate_left
    · intro w
      go_simp
      try with_reducible rfl
    conv in (Act.put _ _ _) => simp only [Act.put, List.setIfInBounds_toArray, List.set_cons_succ, List.set_cons_zero]
    refine wpAny_take (i := 32) (v := ?_) rfl (by kernel_rfl) (by kernel_rfl) (by kernel_rfl) (fun _ _ _ h => h) (Or.inl ⟨by kernel_rfl, ?_⟩) ?_
    rotate_left
    · intro w
      go_simp
      try with_reducible rfl
    conv in (Act.put _ _ _) => simp only [Act.put, List.setIfInBounds_toArray, List.set_cons_succ, List.set_cons_zero]
    refine wpAny_take (i := 33) (v := ?_) rfl (by kernel_rfl) (by kernel_rfl) (by kernel_rfl) (fun _ _ _ h => h) (Or.inl ⟨by kernel_rfl, ?_⟩) ?_
    rotate_left
    · intro w
      go_simp
      try with_reducible rfl
    conv in (Act.put _ _ _) => simp only [Act.put, List.setIfInBounds_toArray, List.set_cons_succ, List.set_cons_zero]
    refine wpAny_take (i := 34) (v := ?_) rfl (by kernel_rfl) (by kernel_rfl) (by kernel_rfl) (fun _ _ _ h => h) (Or.inl ⟨by kernel_rfl, ?_⟩) ?_
    rotate_left
    · intro w
      go_simp
      try with_reducible rfl
    conv in (Act.put _ _ _) => simp only [Act.put, List.setIfInBounds_toArray, List.set_cons_succ, List.set_cons_zero]
    refine wpAny_take (i := 35) (v := ?_) rfl (by kernel_rfl) (by kernel_rfl) (by kernel_rfl) (fun _ _ _ h => h) (Or.inl ⟨by kernel_rfl, ?_⟩) ?_
    rotate_left
    · intro w
      go_simp
      try with_reducible rfl
    conv in (Act.put _ _ _) => simp only [Act.put, List.setIfInBounds_toArray, List.set_cons_succ, List.set_cons_zero]
    refine wpAny_take (i := 36) (v := ?_) rfl (by kernel_rfl) (by kernel_rfl) (by kernel_rfl) (fun _ _ _ h => h) (Or.inl ⟨by kernel_rfl, ?_⟩) ?_
    rotate_left
    · intro w
      go_simp
      try with_reducible rfl
    conv in (Act.put _ _ _) => simp only [Act.put, List.setIfInBounds_toArray, List.set_cons_succ, List.set_cons_zero]
    refine wpAny_take (i := 37) (v := ?_) rfl (by kernel_rfl) (by kernel_rfl) (by kernel_rfl) (fun _ _ _ h => h) (Or.inl ⟨by kernel_rfl, ?_⟩) ?_
    rotate_left
    · intro w
      go_simp
      try with_reducible rfl
    conv in (Act.put _ _ _) => simp only [Act.put, List.setIfInBounds_toArray, List.set_cons_succ, List.set_cons_zero]
    refine wpAny_take (i := 40) (v := ?_) rfl (by kernel_rfl) (by kernel_rfl) (by kernel_rfl) (fun _ _ _ h => h) (Or.inl ⟨by kernel_rfl, ?_⟩) ?_
    rotate_left
    · intro w
      go_simp
      try with_reducible rfl
    conv in (Act.put _ _ _) => simp only [Act.put, List.setIfInBounds_toArray, List.set_cons_succ, List.set_cons_zero]
    refine wpAny_ready (rs := [38]) (by kernel_rfl) (by simp) ?_
    refine (AllReady.cons rfl (fun K hK => ?_) AllReady.nil)
    go_simp
    refine hK _ _ ?_
    clear hK K
    refine wpAny_ready (rs := [39]) (by kernel_rfl) (by simp) ?_
    refine (AllReady.cons rfl (fun K hK => ?_) AllReady.nil)
    go_simp
    refine (add_three (lf KL) t i j1 (by have := HT.out; omega) w9 9 ((B9.out.block 1 h1l).trans HK.out)).mono ?_
    rintro e w10 ⟨rfl, b10⟩
    rw [HD.out]
    refine hK _ _ ?_
    clear hK K
    have B10 : Hid (Below w.heap.size w w10) := B9.out.trans (b10.mono B9.out.size)
    clear b10 B9
    refine wpAny_take (i := 41) (v := ?_) rfl (by kernel_rfl) (by kernel_rfl) (by kernel_rfl) (fun _ _ _ h => h) (Or.inl ⟨by kernel_rfl, ?_⟩) ?_
    rotate_left
    · intro w
      go_simp
      try with_reducible rfl
    conv in (Act.put _ _ _) => simp only [Act.put, List.setIfInBounds_toArray, List.set_cons_succ, List.set_cons_zero]
    refine wpAny_take (i := 42) (v := ?_) rfl (by kernel_rfl) (by kernel_rfl) (by kernel_rfl) (fun _ _ _ h => h) (Or.inl ⟨by kernel_rfl, ?_⟩) ?_
    rotate_left
    · intro w
      go_simp
      try with_reducible rfl
    conv in (Act.put _ _ _) => simp only [Act.put, List.setIfInBounds_toArray, List.set_cons_succ, List.set_cons_zero]
    refine wpAny_take (i := 43) (v := ?_) rfl (by kernel_rfl) (by kernel_rfl) (by kernel_rfl) (fun _ _ _ h => h) (Or.inl ⟨by kernel_rfl, ?_⟩) ?_
    rotate_left
    · intro w
      go_simp
      try with_reducible rfl
    conv in (Act.put _ _ _) => simp only [Act.put, List.setIfInBounds_toArray, List.set_cons_succ, List.set_cons_zero]
    refine wpAny_take (i := 44) (v := ?_) rfl (by kernel_rfl) (by kernel_rfl) (by kernel_rfl) (fun _ _ _ h => h) (Or.inl ⟨by kernel_rfl, ?_⟩) ?_
    rotate_left
    · intro w
      go_simp
      try with_reducible rfl
    conv in (Act.put _ _ _) => simp only [Act.put, List.setIfInBounds_toArray, List.set_cons_succ, List.set_cons_zero]
    refine wpAny_take (i := 45) (v := ?_) rfl (by kernel_rfl) (by kernel_rfl) (by kernel_rfl) (fun _ _ _ h => h) (Or.inl ⟨by kernel_rfl, ?_⟩) ?_
    rotate_left
    · intro w
      go_simp
      try with_reducible rfl
    conv in (Act.put _ _ _) => simp only [Act.put, List.setIfInBounds_toArray, List.set_cons_succ, List.set_cons_zero]
    refine wpAny_take (i := 46) (v := ?_) rfl (by kernel_rfl) (by kernel_rfl) (by kernel_rfl) (fun _ _ _ h => h) (Or.inl ⟨by kernel_rfl, ?_⟩) ?_
    rotate_left
    · intro w
      go_simp
      try with_reducible rfl
    conv in (Act.put _ _ _) => simp only [Act.put, List.setIfInBounds_toArray, List.set_cons_succ, List.set_cons_zero]
    refine wpAny_take (i := 47) (v := ?_) rfl (by kernel_rfl) (by kernel_rfl) (by kernel_rfl) (fun _ _ _ h => h) (Or.inl ⟨by kernel_rfl, ?_⟩) ?_
    rotate_left
    · intro w
      go_simp
      try with_reducible rfl
    conv in (Act.put _ _ _) => simp only [Act.put, List.setIfInBounds_toArray, List.set_cons_succ, List.set_cons_zero]
    refine wpAny_ready (rs := [48]) (by kernel_rfl) (by simp) ?_
    refine (AllReady.cons rfl (fun K hK => ?_) AllReady.nil)
    go_simp
    refine hK _ _ ?_
    clear hK K
    refine wpAny_done (by kernel_rfl) ?_ _
    go_wp2_with fail
    go_ret
    exact ⟨rfl, B10.out⟩
  · have hne : i' < 0 ∨ (0 ≤ i' ∧ k' < i') ∨ (0 ≤ i' ∧ i' ≤ k' ∧ (t.size : Int) < k') := by omega
    clear hat
    rcases hne with h | ⟨h1, h2⟩ | ⟨h1, h2, h3⟩
    · have q1 : decide (i' < 0) = true := by simpa using h
      go_enter Tryd.func7, Tryd.ntmps7
      go_wp2_with fail
      refine (shown_any w HK.out).mono ?_
      rintro e w1 ⟨rfl, b1⟩
      have B1 : Hid (Below w.heap.size w w1) := b1
      clear b1
      go_wp2_with (first
        | (refine list_min rfl 3 3 (.tmp 16) (.const (.int .i64 5000)) rfl (p := (s.size : Int)) (q := 5000) rfl rfl HR.out ?_)
        | (refine list_head rfl (.tmp 14) (.tmp 17) rfl (s := s) (t := t) (n := r) rfl rfl HRS.out HRT.out ?_))
      go_ret
      exact ⟨rfl, B1.out⟩
    · have q1 : decide (i' < 0) = false := by simp; omega
      have q2 : decide (k' < i') = true := by simpa using h2
      clear h1
      go_enter Tryd.func7, Tryd.ntmps7
      go_wp2_with fail
      refine (shown_any w HK.out).mono ?_
      rintro e w1 ⟨rfl, b1⟩
      have B1 : Hid (Below w.heap.size w w1) := b1
      clear b1
      go_wp2_with (first
        | (refine list_min rfl 3 3 (.tmp 16) (.const (.int .i64 5000)) rfl (p := (s.size : Int)) (q := 5000) rfl rfl HR.out ?_)
        | (refine list_head rfl (.tmp 14) (.tmp 17) rfl (s := s) (t := t) (n := r) rfl rfl HRS.out HRT.out ?_))
      go_ret
      exact ⟨rfl, B1.out⟩
    · have q1 : decide (i' < 0) = false := by simp; omega
      have q2 : decide (k' < i') = false := by simp; omega
      have q3 : decide ((t.size : Int) < k') = true := by simpa using h3
      clear h1 h2
      go_enter Tryd.func7, Tryd.ntmps7
      go_wp2_with fail
      refine (shown_any w HK.out).mono ?_
      rintro e w1 ⟨rfl, b1⟩
      have B1 : Hid (Below w.heap.size w w1) := b1
      clear b1
      go_wp2_with (first
        | (refine list_min rfl 3 3 (.tmp 16) (.const (.int .i64 5000)) rfl (p := (s.size : Int)) (q := 5000) rfl rfl HR.out ?_)
        | (refine list_head rfl (.tmp 14) (.tmp 17) rfl (s := s) (t := t) (n := r) rfl rfl HRS.out HRT.out ?_))
      go_ret
      exact ⟨rfl, B1.out⟩
end Go.Proofs.YtnijfadjacnchaaDoor
