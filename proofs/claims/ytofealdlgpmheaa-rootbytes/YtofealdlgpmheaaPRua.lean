/- Which roots may be, their bytes and slots. -/
import Derived.Test.YtofealdlgpmheaaQRtn
namespace Go.Proofs.Ytofealdlgpmheaa.Ro
open Go.RowKit Go.Lib Go.Shelf
open Go.Proofs.Ytofealdlgpmheaa.Rc Go.Proofs.Ytofealdlgpmheaa.Rq
set_option maxRecDepth 100000 in
set_option maxHeartbeats 8000000 in
theorem rootBytes_walk (r : Rt) (hr : okR r) (w : World) : Calls Try.prog 3 #[rtv r] w fun e w' => e = .returned (.bool true) ∧ Below w.heap.size w w' := by
  have HSH : Hid (∀ W : World, _) := shown_any
  have h1 := encode_any r hr
  have h2 := sencode_any r hr
  have h3 := right_any r
  have h4 := sright_any r
  have h5 := slot_any r.c
  obtain ⟨S1, hS1⟩ : ∃ x, encS r = x := ⟨_, rfl⟩
  obtain ⟨E1, hE1⟩ : ∃ x, encE r = x := ⟨_, rfl⟩
  rw [hS1, hE1] at h1 h2
  obtain ⟨b, hb⟩ : ∃ b, rrt r = b := ⟨_, rfl⟩
  rw [hb] at h3 h4
  obtain ⟨ac, ag, an, ap, at_⟩ := r
  simp only at h5
  have q1 : IntKind.u32.wrap ((ac : Int) % 2) = ((ac % 2 : Nat) : Int) := by rw [IntKind.wrap_u32]; omega
  have q0 : (0 : Int) ≤ (ac : Int) := by omega
  obtain ⟨sl, hsl⟩ : ∃ n, ac % 2 = n := ⟨_, rfl⟩
  rw [hsl] at q1 h5
  have H1 : Hid (∀ W : World, _) := h1
  have H2 : Hid (∀ W : World, _) := h2
  have H3 : Hid (∀ W : World, _) := h3
  have H4 : Hid (∀ W : World, _) := h4
  have H5 : Hid (∀ W : World, _) := h5
  have Q1 : Hid _ := q1
  clear h1 h2 h3 h4 h5 hS1 hE1 hb hr hsl q1
  obtain ⟨W1, hW1⟩ : ∃ W, w.alloc (.cells #[.int .u64 (ac : Int), .int .u32 (ag : Int), .int .u32 (an : Int), .int .u32 (ap : Int), .string at_] 27) = W := ⟨_, rfl⟩
  have hb1 := below_new w (.cells #[.int .u64 (ac : Int), .int .u32 (ag : Int), .int .u32 (an : Int), .int .u32 (ap : Int), .string at_] 27)
  have hg1 := heap_alloc_new w (.cells #[.int .u64 (ac : Int), .int .u32 (ag : Int), .int .u32 (an : Int), .int .u32 (ap : Int), .string at_] 27)
  rw [hW1] at hb1 hg1
  have HW1 : Hid _ := hW1
  have HB1 : Hid (Below w.heap.size w W1) := hb1
  have HA1 : Hid (W1.heap[w.heap.size]? = some (.cells #[.int .u64 (ac : Int), .int .u32 (ag : Int), .int .u32 (an : Int), .int .u32 (ap : Int), .string at_] 27 (0, 0))) := hg1
  clear hb1 hg1 hW1
  go_enter Try.func3, Try.ntmps3
  go_wp2_with fail
  rw [HW1.out]
  clear HW1
  refine (HSH.out W1).mono ?_
  rintro e w2 ⟨rfl, b2⟩
  have HA2 : Hid (w2.heap[w.heap.size]? = some (.cells #[.int .u64 (ac : Int), .int .u32 (ag : Int), .int .u32 (an : Int), .int .u32 (ap : Int), .string at_] 27 (0, 0))) := (b2.block _ (Array.getElem?_eq_some_iff.1 HA1.out).1).trans HA1.out
  have HB2 : Hid (Below w.heap.size w w2) := HB1.out.trans (b2.mono HB1.out.size)
  clear b2
  have fA0 : w2.cell? ⟨w.heap.size, 0, none⟩ = some (.int .u64 (ac : Int)) := by rw [cell_of_row _ _ _ _ _ _ HA2.out]; rfl
  have fA1 : w2.cell? ⟨w.heap.size, 1, none⟩ = some (.int .u32 (ag : Int)) := by rw [cell_of_row _ _ _ _ _ _ HA2.out]; rfl
  have fA2 : w2.cell? ⟨w.heap.size, 2, none⟩ = some (.int .u32 (an : Int)) := by rw [cell_of_row _ _ _ _ _ _ HA2.out]; rfl
  have fA3 : w2.cell? ⟨w.heap.size, 3, none⟩ = some (.int .u32 (ap : Int)) := by rw [cell_of_row _ _ _ _ _ _ HA2.out]; rfl
  have fA4 : w2.cell? ⟨w.heap.size, 4, none⟩ = some (.string at_) := by rw [cell_of_row _ _ _ _ _ _ HA2.out]; rfl
  go_wp2_with fail
  clear fA0 fA1 fA2 fA3 fA4
  refine (H1.out w2).mono ?_
  rintro e w3 ⟨rfl, b3⟩
  have HA3 : Hid (w3.heap[w.heap.size]? = some (.cells #[.int .u64 (ac : Int), .int .u32 (ag : Int), .int .u32 (an : Int), .int .u32 (ap : Int), .string at_] 27 (0, 0))) := (b3.block _ (Array.getElem?_eq_some_iff.1 HA2.out).1).trans HA2.out
  have HB3 : Hid (Below w.heap.size w w3) := HB2.out.trans (b3.mono HB2.out.size)
  clear b3
  have fA0 : w3.cell? ⟨w.heap.size, 0, none⟩ = some (.int .u64 (ac : Int)) := by rw [cell_of_row _ _ _ _ _ _ HA3.out]; rfl
  have fA1 : w3.cell? ⟨w.heap.size, 1, none⟩ = some (.int .u32 (ag : Int)) := by rw [cell_of_row _ _ _ _ _ _ HA3.out]; rfl
  have fA2 : w3.cell? ⟨w.heap.size, 2, none⟩ = some (.int .u32 (an : Int)) := by rw [cell_of_row _ _ _ _ _ _ HA3.out]; rfl
  have fA3 : w3.cell? ⟨w.heap.size, 3, none⟩ = some (.int .u32 (ap : Int)) := by rw [cell_of_row _ _ _ _ _ _ HA3.out]; rfl
  have fA4 : w3.cell? ⟨w.heap.size, 4, none⟩ = some (.string at_) := by rw [cell_of_row _ _ _ _ _ _ HA3.out]; rfl
  go_wp2_with fail
  clear fA0 fA1 fA2 fA3 fA4
  refine (H2.out w3).mono ?_
  rintro e w4 ⟨rfl, b4⟩
  have HA4 : Hid (w4.heap[w.heap.size]? = some (.cells #[.int .u64 (ac : Int), .int .u32 (ag : Int), .int .u32 (an : Int), .int .u32 (ap : Int), .string at_] 27 (0, 0))) := (b4.block _ (Array.getElem?_eq_some_iff.1 HA3.out).1).trans HA3.out
  have HB4 : Hid (Below w.heap.size w w4) := HB3.out.trans (b4.mono HB3.out.size)
  clear b4
  have fA0 : w4.cell? ⟨w.heap.size, 0, none⟩ = some (.int .u64 (ac : Int)) := by rw [cell_of_row _ _ _ _ _ _ HA4.out]; rfl
  have fA1 : w4.cell? ⟨w.heap.size, 1, none⟩ = some (.int .u32 (ag : Int)) := by rw [cell_of_row _ _ _ _ _ _ HA4.out]; rfl
  have fA2 : w4.cell? ⟨w.heap.size, 2, none⟩ = some (.int .u32 (an : Int)) := by rw [cell_of_row _ _ _ _ _ _ HA4.out]; rfl
  have fA3 : w4.cell? ⟨w.heap.size, 3, none⟩ = some (.int .u32 (ap : Int)) := by rw [cell_of_row _ _ _ _ _ _ HA4.out]; rfl
  have fA4 : w4.cell? ⟨w.heap.size, 4, none⟩ = some (.string at_) := by rw [cell_of_row _ _ _ _ _ _ HA4.out]; rfl
  go_wp2_with fail
  have HSW : Hid (w4.drew.cell? ⟨w.heap.size, 0, none⟩ = some (.int .u64 (ac : Int)) ∧ w4.drew.cell? ⟨w.heap.size, 1, none⟩ = some (.int .u32 (ag : Int)) ∧ w4.drew.cell? ⟨w.heap.size, 2, none⟩ = some (.int .u32 (an : Int)) ∧ w4.drew.cell? ⟨w.heap.size, 3, none⟩ = some (.int .u32 (ap : Int)) ∧ w4.drew.cell? ⟨w.heap.size, 4, none⟩ = some (.string at_)) := ⟨fA0, fA1, fA2, fA3, fA4⟩
  clear fA0 fA1 fA2 fA3 fA4
  have HST : Hid (∀ W : World, W.heap[w.heap.size]? = some (.cells #[.int .u64 (ac : Int), .int .u32 (ag : Int), .int .u32 (an : Int), .int .u32 (ap : Int), .string at_] 27 (0, 0)) → (W.cell? ⟨w.heap.size, 0, none⟩ = some (.int .u64 (ac : Int)) ∧ W.cell? ⟨w.heap.size, 1, none⟩ = some (.int .u32 (ag : Int)) ∧ W.cell? ⟨w.heap.size, 2, none⟩ = some (.int .u32 (an : Int)) ∧ W.cell? ⟨w.heap.size, 3, none⟩ = some (.int .u32 (ap : Int)) ∧ W.cell? ⟨w.heap.size, 4, none⟩ = some (.string at_))) := fun W h => (root_facts h).1
  refine wp_region_held (S := fun u => u.cell? ⟨w.heap.size, 0, none⟩ = some (.int .u64 (ac : Int)) ∧ u.cell? ⟨w.heap.size, 1, none⟩ = some (.int .u32 (ag : Int)) ∧ u.cell? ⟨w.heap.size, 2, none⟩ = some (.int .u32 (an : Int)) ∧ u.cell? ⟨w.heap.size, 3, none⟩ = some (.int .u32 (ap : Int)) ∧ u.cell? ⟨w.heap.size, 4, none⟩ = some (.string at_)) (by kernel_rfl) ?_
  change wpAnyH _ _ _ _ _ _ _ _ (World.drew _)
  have HB9 : Hid (Below w.heap.size w w4.drew) := HB4.out.drew
  have HA9 : Hid (w4.drew.heap[w.heap.size]? = some (.cells #[.int .u64 (ac : Int), .int .u32 (ag : Int), .int .u32 (an : Int), .int .u32 (ap : Int), .string at_] 27 (0, 0))) := HA4.out
  cases b
  · skip
    refine wpAnyH_take (i := 0) (v := ?_) rfl (by kernel_rfl) (by kernel_rfl) (by kernel_rfl) (fun _ _ _ h => h) (Or.inl ⟨by kernel_rfl, ?_⟩) HSW.out ?_
    rotate_left
    · intro w hS
      obtain ⟨s0, s1, s2, s3, s4⟩ := hS
      go_simp
      try with_reducible rfl
    conv in (Act.put _ _ _) => simp only [List.getElem_toArray, List.getElem_cons_succ, List.getElem_cons_zero, Act.put, List.setIfInBounds_toArray, List.set_cons_succ, List.set_cons_zero]
    refine wpAnyH_take (i := 1) (v := ?_) rfl (by kernel_rfl) (by kernel_rfl) (by kernel_rfl) (fun _ _ _ h => h) (Or.inl ⟨by kernel_rfl, ?_⟩) HSW.out ?_
    rotate_left
    · intro w hS
      obtain ⟨s0, s1, s2, s3, s4⟩ := hS
      go_simp
      try with_reducible rfl
    conv in (Act.put _ _ _) => simp only [List.getElem_toArray, List.getElem_cons_succ, List.getElem_cons_zero, Act.put, List.setIfInBounds_toArray, List.set_cons_succ, List.set_cons_zero]
    refine wpAnyH_take (i := 2) (v := ?_) rfl (by kernel_rfl) (by kernel_rfl) (by kernel_rfl) (fun _ _ _ h => h) (Or.inl ⟨by kernel_rfl, ?_⟩) HSW.out ?_
    rotate_left
    · intro w hS
      obtain ⟨s0, s1, s2, s3, s4⟩ := hS
      go_simp
      try with_reducible rfl
    conv in (Act.put _ _ _) => simp only [List.getElem_toArray, List.getElem_cons_succ, List.getElem_cons_zero, Act.put, List.setIfInBounds_toArray, List.set_cons_succ, List.set_cons_zero]
    refine wpAnyH_take (i := 4) (v := ?_) rfl (by kernel_rfl) (by kernel_rfl) (by kernel_rfl) (fun _ _ _ h => h) (Or.inl ⟨by kernel_rfl, ?_⟩) HSW.out ?_
    rotate_left
    · intro w hS
      obtain ⟨s0, s1, s2, s3, s4⟩ := hS
      go_simp
      try with_reducible rfl
    conv in (Act.put _ _ _) => simp only [List.getElem_toArray, List.getElem_cons_succ, List.getElem_cons_zero, Act.put, List.setIfInBounds_toArray, List.set_cons_succ, List.set_cons_zero]
    refine readyH 3 _ (by kernel_rfl) rfl (by kernel_rfl) (fun K hK => ?_)
    go_simp
    refine (H3.out _).mono ?_
    rintro e y1 ⟨rfl, b1⟩
    have HBy1 : Hid (Below w.heap.size w y1) := HB9.out.trans (b1.mono HB9.out.size)
    have HAy1 : Hid (y1.heap[w.heap.size]? = some (.cells #[.int .u64 (ac : Int), .int .u32 (ag : Int), .int .u32 (an : Int), .int .u32 (ap : Int), .string at_] 27 (0, 0))) := (b1.block _ (Array.getElem?_eq_some_iff.1 HA9.out).1).trans HA9.out
    replace HSW : Hid _ := HST.out _ HAy1.out
    clear b1
    refine hK _ _ HSW.out ?_
    clear hK K
    refine readyH 5 _ (by kernel_rfl) rfl (by kernel_rfl) (fun K hK => ?_)
    go_simp
    refine (H4.out _).mono ?_
    rintro e y2 ⟨rfl, b2⟩
    have HBy2 : Hid (Below w.heap.size w y2) := HBy1.out.trans (b2.mono HBy1.out.size)
    have HAy2 : Hid (y2.heap[w.heap.size]? = some (.cells #[.int .u64 (ac : Int), .int .u32 (ag : Int), .int .u32 (an : Int), .int .u32 (ap : Int), .string at_] 27 (0, 0))) := (b2.block _ (Array.getElem?_eq_some_iff.1 HAy1.out).1).trans HAy1.out
    replace HSW : Hid _ := HST.out _ HAy2.out
    clear b2
    refine hK _ _ HSW.out ?_
    clear hK K
    refine wpAnyH_take (i := 6) (v := ?_) rfl (by kernel_rfl) (by kernel_rfl) (by kernel_rfl) (fun _ _ _ h => h) (Or.inl ⟨by kernel_rfl, ?_⟩) HSW.out ?_
    rotate_left
    · intro w hS
      obtain ⟨s0, s1, s2, s3, s4⟩ := hS
      go_simp
      try with_reducible rfl
    conv in (Act.put _ _ _) => simp only [List.getElem_toArray, List.getElem_cons_succ, List.getElem_cons_zero, Act.put, List.setIfInBounds_toArray, List.set_cons_succ, List.set_cons_zero]
    refine wpAnyH_take (i := 7) (v := ?_) rfl (by kernel_rfl) (by kernel_rfl) (by kernel_rfl) (fun _ _ _ h => h) (Or.inl ⟨by kernel_rfl, ?_⟩) HSW.out ?_
    rotate_left
    · intro w hS
      obtain ⟨s0, s1, s2, s3, s4⟩ := hS
      go_simp
      try with_reducible rfl
    conv in (Act.put _ _ _) => simp only [List.getElem_toArray, List.getElem_cons_succ, List.getElem_cons_zero, Act.put, List.setIfInBounds_toArray, List.set_cons_succ, List.set_cons_zero]
    refine wpAnyH_take (i := 8) (v := ?_) rfl (by kernel_rfl) (by kernel_rfl) (by kernel_rfl) (fun _ _ _ h => h) (Or.inl ⟨by kernel_rfl, ?_⟩) HSW.out ?_
    rotate_left
    · intro w hS
      obtain ⟨s0, s1, s2, s3, s4⟩ := hS
      go_simp
      try with_reducible rfl
    conv in (Act.put _ _ _) => simp only [List.getElem_toArray, List.getElem_cons_succ, List.getElem_cons_zero, Act.put, List.setIfInBounds_toArray, List.set_cons_succ, List.set_cons_zero]
    refine wpAnyH_take (i := 9) (v := ?_) rfl (by kernel_rfl) (by kernel_rfl) (by kernel_rfl) (fun _ _ _ h => h) (Or.inl ⟨by kernel_rfl, ?_⟩) HSW.out ?_
    rotate_left
    · intro w hS
      obtain ⟨s0, s1, s2, s3, s4⟩ := hS
      go_simp
      try with_reducible rfl
    conv in (Act.put _ _ _) => simp only [List.getElem_toArray, List.getElem_cons_succ, List.getElem_cons_zero, Act.put, List.setIfInBounds_toArray, List.set_cons_succ, List.set_cons_zero]
    refine wpAnyH_take (i := 10) (v := ?_) rfl (by kernel_rfl) (by kernel_rfl) (by kernel_rfl) (fun _ _ _ h => h) (Or.inl ⟨by kernel_rfl, ?_⟩) HSW.out ?_
    rotate_left
    · intro w hS
      obtain ⟨s0, s1, s2, s3, s4⟩ := hS
      go_simp
      try with_reducible rfl
    conv in (Act.put _ _ _) => simp only [List.getElem_toArray, List.getElem_cons_succ, List.getElem_cons_zero, Act.put, List.setIfInBounds_toArray, List.set_cons_succ, List.set_cons_zero]
    refine wpAnyH_take (i := 11) (v := ?_) rfl (by kernel_rfl) (by kernel_rfl) (by kernel_rfl) (fun _ _ _ h => h) (Or.inl ⟨by kernel_rfl, ?_⟩) HSW.out ?_
    rotate_left
    · intro w hS
      obtain ⟨s0, s1, s2, s3, s4⟩ := hS
      go_simp
      try with_reducible rfl
    conv in (Act.put _ _ _) => simp only [List.getElem_toArray, List.getElem_cons_succ, List.getElem_cons_zero, Act.put, List.setIfInBounds_toArray, List.set_cons_succ, List.set_cons_zero]
    refine wpAnyH_take (i := 12) (v := ?_) rfl (by kernel_rfl) (by kernel_rfl) (by kernel_rfl) (fun _ _ _ h => h) (Or.inl ⟨by kernel_rfl, ?_⟩) HSW.out ?_
    rotate_left
    · intro w hS
      obtain ⟨s0, s1, s2, s3, s4⟩ := hS
      go_simp
      try with_reducible rfl
    conv in (Act.put _ _ _) => simp only [List.getElem_toArray, List.getElem_cons_succ, List.getElem_cons_zero, Act.put, List.setIfInBounds_toArray, List.set_cons_succ, List.set_cons_zero]
    refine wpAnyH_take (i := 13) (v := ?_) rfl (by kernel_rfl) (by kernel_rfl) (by kernel_rfl) (fun _ _ _ h => h) (Or.inl ⟨by kernel_rfl, ?_⟩) HSW.out ?_
    rotate_left
    · intro w hS
      obtain ⟨s0, s1, s2, s3, s4⟩ := hS
      go_simp
      try with_reducible rfl
    conv in (Act.put _ _ _) => simp only [List.getElem_toArray, List.getElem_cons_succ, List.getElem_cons_zero, Act.put, List.setIfInBounds_toArray, List.set_cons_succ, List.set_cons_zero]
    refine wpAnyH_take (i := 14) (v := ?_) rfl (by kernel_rfl) (by kernel_rfl) (by kernel_rfl) (fun _ _ _ h => h) (Or.inl ⟨by kernel_rfl, ?_⟩) HSW.out ?_
    rotate_left
    · intro w hS
      obtain ⟨s0, s1, s2, s3, s4⟩ := hS
      go_simp
      try with_reducible rfl
    conv in (Act.put _ _ _) => simp only [List.getElem_toArray, List.getElem_cons_succ, List.getElem_cons_zero, Act.put, List.setIfInBounds_toArray, List.set_cons_succ, List.set_cons_zero]
    refine wpAnyH_take (i := 15) (v := ?_) rfl (by kernel_rfl) (by kernel_rfl) (by kernel_rfl) (fun _ _ _ h => h) (Or.inl ⟨by kernel_rfl, ?_⟩) HSW.out ?_
    rotate_left
    · intro w hS
      obtain ⟨s0, s1, s2, s3, s4⟩ := hS
      go_simp
      try with_reducible rfl
    conv in (Act.put _ _ _) => simp only [List.getElem_toArray, List.getElem_cons_succ, List.getElem_cons_zero, Act.put, List.setIfInBounds_toArray, List.set_cons_succ, List.set_cons_zero]
    refine wpAnyH_take (i := 16) (v := ?_) rfl (by kernel_rfl) (by kernel_rfl) (by kernel_rfl) (fun _ _ _ h => h) (Or.inl ⟨by kernel_rfl, ?_⟩) HSW.out ?_
    rotate_left
    · intro w hS
      obtain ⟨s0, s1, s2, s3, s4⟩ := hS
      go_simp
      try with_reducible rfl
    conv in (Act.put _ _ _) => simp only [List.getElem_toArray, List.getElem_cons_succ, List.getElem_cons_zero, Act.put, List.setIfInBounds_toArray, List.set_cons_succ, List.set_cons_zero]
    refine wpAnyH_take (i := 17) (v := ?_) rfl (by kernel_rfl) (by kernel_rfl) (by kernel_rfl) (fun _ _ _ h => h) (Or.inl ⟨by kernel_rfl, ?_⟩) HSW.out ?_
    rotate_left
    · intro w hS
      obtain ⟨s0, s1, s2, s3, s4⟩ := hS
      go_simp
      try with_reducible rfl
    conv in (Act.put _ _ _) => simp only [List.getElem_toArray, List.getElem_cons_succ, List.getElem_cons_zero, Act.put, List.setIfInBounds_toArray, List.set_cons_succ, List.set_cons_zero]
    refine wpAnyH_take (i := 18) (v := ?_) rfl (by kernel_rfl) (by kernel_rfl) (by kernel_rfl) (fun _ _ _ h => h) (Or.inl ⟨by kernel_rfl, ?_⟩) HSW.out ?_
    rotate_left
    · intro w hS
      obtain ⟨s0, s1, s2, s3, s4⟩ := hS
      go_simp
      try with_reducible rfl
    conv in (Act.put _ _ _) => simp only [List.getElem_toArray, List.getElem_cons_succ, List.getElem_cons_zero, Act.put, List.setIfInBounds_toArray, List.set_cons_succ, List.set_cons_zero]
    refine wpAnyH_take (i := 19) (v := ?_) rfl (by kernel_rfl) (by kernel_rfl) (by kernel_rfl) (fun _ _ _ h => h) (Or.inl ⟨by kernel_rfl, ?_⟩) HSW.out ?_
    rotate_left
    · intro w hS
      obtain ⟨s0, s1, s2, s3, s4⟩ := hS
      go_simp
      try with_reducible rfl
    conv in (Act.put _ _ _) => simp only [List.getElem_toArray, List.getElem_cons_succ, List.getElem_cons_zero, Act.put, List.setIfInBounds_toArray, List.set_cons_succ, List.set_cons_zero]
    refine wpAnyH_take (i := 20) (v := ?_) rfl (by kernel_rfl) (by kernel_rfl) (by kernel_rfl) (fun _ _ _ h => h) (Or.inl ⟨by kernel_rfl, ?_⟩) HSW.out ?_
    rotate_left
    · intro w hS
      obtain ⟨s0, s1, s2, s3, s4⟩ := hS
      go_simp
      try with_reducible rfl
    conv in (Act.put _ _ _) => simp only [List.getElem_toArray, List.getElem_cons_succ, List.getElem_cons_zero, Act.put, List.setIfInBounds_toArray, List.set_cons_succ, List.set_cons_zero]
    refine wpAnyH_take (i := 22) (v := ?_) rfl (by kernel_rfl) (by kernel_rfl) (by kernel_rfl) (fun _ _ _ h => h) (Or.inl ⟨by kernel_rfl, ?_⟩) HSW.out ?_
    rotate_left
    · intro w hS
      obtain ⟨s0, s1, s2, s3, s4⟩ := hS
      go_simp
      try with_reducible rfl
    conv in (Act.put _ _ _) => simp only [List.getElem_toArray, List.getElem_cons_succ, List.getElem_cons_zero, Act.put, List.setIfInBounds_toArray, List.set_cons_succ, List.set_cons_zero]
    refine wpAnyH_take (i := 23) (v := ?_) rfl (by kernel_rfl) (by kernel_rfl) (by kernel_rfl) (fun _ _ _ h => h) (Or.inl ⟨by kernel_rfl, ?_⟩) HSW.out ?_
    rotate_left
    · intro w hS
      obtain ⟨s0, s1, s2, s3, s4⟩ := hS
      go_simp
      try with_reducible rfl
    conv in (Act.put _ _ _) => simp only [List.getElem_toArray, List.getElem_cons_succ, List.getElem_cons_zero, Act.put, List.setIfInBounds_toArray, List.set_cons_succ, List.set_cons_zero]
    refine wpAnyH_take (i := 24) (v := ?_) rfl (by kernel_rfl) (by kernel_rfl) (by kernel_rfl) (fun _ _ _ h => h) (Or.inl ⟨by kernel_rfl, ?_⟩) HSW.out ?_
    rotate_left
    · intro w hS
      obtain ⟨s0, s1, s2, s3, s4⟩ := hS
      go_simp
      try with_reducible rfl
    conv in (Act.put _ _ _) => simp only [List.getElem_toArray, List.getElem_cons_succ, List.getElem_cons_zero, Act.put, List.setIfInBounds_toArray, List.set_cons_succ, List.set_cons_zero]
    refine wpAnyH_take (i := 25) (v := .int .u32 (sl : Int)) rfl (by kernel_rfl) (by kernel_rfl) (by kernel_rfl) (fun _ _ _ h => h) (Or.inl ⟨by kernel_rfl, ?_⟩) HSW.out ?_
    · intro w hS
      go_simp
      exact Q1.out
    conv in (Act.put _ _ _) => simp only [List.getElem_toArray, List.getElem_cons_succ, List.getElem_cons_zero, Act.put, List.setIfInBounds_toArray, List.set_cons_succ, List.set_cons_zero]
    refine readyH 21 _ (by kernel_rfl) rfl (by kernel_rfl) (fun K hK => ?_)
    go_simp
    refine (H5.out _).mono ?_
    rintro e y ⟨rfl, rfl⟩
    refine hK _ _ HSW.out ?_
    clear hK K
    refine wpAnyH_take (i := 26) (v := ?_) rfl (by kernel_rfl) (by kernel_rfl) (by kernel_rfl) (fun _ _ _ h => h) (Or.inl ⟨by kernel_rfl, ?_⟩) HSW.out ?_
    rotate_left
    · intro w hS
      obtain ⟨s0, s1, s2, s3, s4⟩ := hS
      go_simp
      try with_reducible rfl
    conv in (Act.put _ _ _) => simp only [List.getElem_toArray, List.getElem_cons_succ, List.getElem_cons_zero, Act.put, List.setIfInBounds_toArray, List.set_cons_succ, List.set_cons_zero]
    refine wpAnyH_take (i := 27) (v := ?_) rfl (by kernel_rfl) (by kernel_rfl) (by kernel_rfl) (fun _ _ _ h => h) (Or.inl ⟨by kernel_rfl, ?_⟩) HSW.out ?_
    rotate_left
    · intro w hS
      obtain ⟨s0, s1, s2, s3, s4⟩ := hS
      go_simp
      try with_reducible rfl
    conv in (Act.put _ _ _) => simp only [List.getElem_toArray, List.getElem_cons_succ, List.getElem_cons_zero, Act.put, List.setIfInBounds_toArray, List.set_cons_succ, List.set_cons_zero]
    refine wpAnyH_take (i := 28) (v := ?_) rfl (by kernel_rfl) (by kernel_rfl) (by kernel_rfl) (fun _ _ _ h => h) (Or.inl ⟨by kernel_rfl, ?_⟩) HSW.out ?_
    rotate_left
    · intro w hS
      obtain ⟨s0, s1, s2, s3, s4⟩ := hS
      go_simp
      try with_reducible rfl
    conv in (Act.put _ _ _) => simp only [List.getElem_toArray, List.getElem_cons_succ, List.getElem_cons_zero, Act.put, List.setIfInBounds_toArray, List.set_cons_succ, List.set_cons_zero]
    refine wpAnyH_done (by kernel_rfl) ?_ _
    rename_i hKK
    refine hKK _ _ ?_
    clear hKK
    go_wp2_with fail
    go_ret
    exact ⟨rfl, HBy2.out⟩
  · skip
    refine wpAnyH_take (i := 0) (v := ?_) rfl (by kernel_rfl) (by kernel_rfl) (by kernel_rfl) (fun _ _ _ h => h) (Or.inl ⟨by kernel_rfl, ?_⟩) HSW.out ?_
    rotate_left
    · intro w hS
      obtain ⟨s0, s1, s2, s3, s4⟩ := hS
      go_simp
      try with_reducible rfl
    conv in (Act.put _ _ _) => simp only [List.getElem_toArray, List.getElem_cons_succ, List.getElem_cons_zero, Act.put, List.setIfInBounds_toArray, List.set_cons_succ, List.set_cons_zero]
    refine wpAnyH_take (i := 1) (v := ?_) rfl (by kernel_rfl) (by kernel_rfl) (by kernel_rfl) (fun _ _ _ h => h) (Or.inl ⟨by kernel_rfl, ?_⟩) HSW.out ?_
    rotate_left
    · intro w hS
      obtain ⟨s0, s1, s2, s3, s4⟩ := hS
      go_simp
      try with_reducible rfl
    conv in (Act.put _ _ _) => simp only [List.getElem_toArray, List.getElem_cons_succ, List.getElem_cons_zero, Act.put, List.setIfInBounds_toArray, List.set_cons_succ, List.set_cons_zero]
    refine wpAnyH_take (i := 2) (v := ?_) rfl (by kernel_rfl) (by kernel_rfl) (by kernel_rfl) (fun _ _ _ h => h) (Or.inl ⟨by kernel_rfl, ?_⟩) HSW.out ?_
    rotate_left
    · intro w hS
      obtain ⟨s0, s1, s2, s3, s4⟩ := hS
      go_simp
      try with_reducible rfl
    conv in (Act.put _ _ _) => simp only [List.getElem_toArray, List.getElem_cons_succ, List.getElem_cons_zero, Act.put, List.setIfInBounds_toArray, List.set_cons_succ, List.set_cons_zero]
    refine wpAnyH_take (i := 4) (v := ?_) rfl (by kernel_rfl) (by kernel_rfl) (by kernel_rfl) (fun _ _ _ h => h) (Or.inl ⟨by kernel_rfl, ?_⟩) HSW.out ?_
    rotate_left
    · intro w hS
      obtain ⟨s0, s1, s2, s3, s4⟩ := hS
      go_simp
      try with_reducible rfl
    conv in (Act.put _ _ _) => simp only [List.getElem_toArray, List.getElem_cons_succ, List.getElem_cons_zero, Act.put, List.setIfInBounds_toArray, List.set_cons_succ, List.set_cons_zero]
    refine readyH 3 _ (by kernel_rfl) rfl (by kernel_rfl) (fun K hK => ?_)
    go_simp
    refine (H3.out _).mono ?_
    rintro e y1 ⟨rfl, b1⟩
    have HBy1 : Hid (Below w.heap.size w y1) := HB9.out.trans (b1.mono HB9.out.size)
    have HAy1 : Hid (y1.heap[w.heap.size]? = some (.cells #[.int .u64 (ac : Int), .int .u32 (ag : Int), .int .u32 (an : Int), .int .u32 (ap : Int), .string at_] 27 (0, 0))) := (b1.block _ (Array.getElem?_eq_some_iff.1 HA9.out).1).trans HA9.out
    replace HSW : Hid _ := HST.out _ HAy1.out
    clear b1
    refine hK _ _ HSW.out ?_
    clear hK K
    refine readyH 5 _ (by kernel_rfl) rfl (by kernel_rfl) (fun K hK => ?_)
    go_simp
    refine (H4.out _).mono ?_
    rintro e y2 ⟨rfl, b2⟩
    have HBy2 : Hid (Below w.heap.size w y2) := HBy1.out.trans (b2.mono HBy1.out.size)
    have HAy2 : Hid (y2.heap[w.heap.size]? = some (.cells #[.int .u64 (ac : Int), .int .u32 (ag : Int), .int .u32 (an : Int), .int .u32 (ap : Int), .string at_] 27 (0, 0))) := (b2.block _ (Array.getElem?_eq_some_iff.1 HAy1.out).1).trans HAy1.out
    replace HSW : Hid _ := HST.out _ HAy2.out
    clear b2
    refine hK _ _ HSW.out ?_
    clear hK K
    refine wpAnyH_take (i := 6) (v := ?_) rfl (by kernel_rfl) (by kernel_rfl) (by kernel_rfl) (fun _ _ _ h => h) (Or.inl ⟨by kernel_rfl, ?_⟩) HSW.out ?_
    rotate_left
    · intro w hS
      obtain ⟨s0, s1, s2, s3, s4⟩ := hS
      go_simp
      try with_reducible rfl
    conv in (Act.put _ _ _) => simp only [List.getElem_toArray, List.getElem_cons_succ, List.getElem_cons_zero, Act.put, List.setIfInBounds_toArray, List.set_cons_succ, List.set_cons_zero]
    refine wpAnyH_take (i := 7) (v := ?_) rfl (by kernel_rfl) (by kernel_rfl) (by kernel_rfl) (fun _ _ _ h => h) (Or.inl ⟨by kernel_rfl, ?_⟩) HSW.out ?_
    rotate_left
    · intro w hS
      obtain ⟨s0, s1, s2, s3, s4⟩ := hS
      go_simp
      try with_reducible rfl
    conv in (Act.put _ _ _) => simp only [List.getElem_toArray, List.getElem_cons_succ, List.getElem_cons_zero, Act.put, List.setIfInBounds_toArray, List.set_cons_succ, List.set_cons_zero]
    refine wpAnyH_take (i := 8) (v := ?_) rfl (by kernel_rfl) (by kernel_rfl) (by kernel_rfl) (fun _ _ _ h => h) (Or.inl ⟨by kernel_rfl, ?_⟩) HSW.out ?_
    rotate_left
    · intro w hS
      obtain ⟨s0, s1, s2, s3, s4⟩ := hS
      go_simp
      try with_reducible rfl
    conv in (Act.put _ _ _) => simp only [List.getElem_toArray, List.getElem_cons_succ, List.getElem_cons_zero, Act.put, List.setIfInBounds_toArray, List.set_cons_succ, List.set_cons_zero]
    refine wpAnyH_take (i := 9) (v := ?_) rfl (by kernel_rfl) (by kernel_rfl) (by kernel_rfl) (fun _ _ _ h => h) (Or.inl ⟨by kernel_rfl, ?_⟩) HSW.out ?_
    rotate_left
    · intro w hS
      obtain ⟨s0, s1, s2, s3, s4⟩ := hS
      go_simp
      try with_reducible rfl
    conv in (Act.put _ _ _) => simp only [List.getElem_toArray, List.getElem_cons_succ, List.getElem_cons_zero, Act.put, List.setIfInBounds_toArray, List.set_cons_succ, List.set_cons_zero]
    refine wpAnyH_take (i := 10) (v := ?_) rfl (by kernel_rfl) (by kernel_rfl) (by kernel_rfl) (fun _ _ _ h => h) (Or.inl ⟨by kernel_rfl, ?_⟩) HSW.out ?_
    rotate_left
    · intro w hS
      obtain ⟨s0, s1, s2, s3, s4⟩ := hS
      go_simp
      try with_reducible rfl
    conv in (Act.put _ _ _) => simp only [List.getElem_toArray, List.getElem_cons_succ, List.getElem_cons_zero, Act.put, List.setIfInBounds_toArray, List.set_cons_succ, List.set_cons_zero]
    refine wpAnyH_take (i := 11) (v := ?_) rfl (by kernel_rfl) (by kernel_rfl) (by kernel_rfl) (fun _ _ _ h => h) (Or.inl ⟨by kernel_rfl, ?_⟩) HSW.out ?_
    rotate_left
    · intro w hS
      obtain ⟨s0, s1, s2, s3, s4⟩ := hS
      go_simp
      try with_reducible rfl
    conv in (Act.put _ _ _) => simp only [List.getElem_toArray, List.getElem_cons_succ, List.getElem_cons_zero, Act.put, List.setIfInBounds_toArray, List.set_cons_succ, List.set_cons_zero]
    refine wpAnyH_take (i := 12) (v := ?_) rfl (by kernel_rfl) (by kernel_rfl) (by kernel_rfl) (fun _ _ _ h => h) (Or.inl ⟨by kernel_rfl, ?_⟩) HSW.out ?_
    rotate_left
    · intro w hS
      obtain ⟨s0, s1, s2, s3, s4⟩ := hS
      go_simp
      try with_reducible rfl
    conv in (Act.put _ _ _) => simp only [List.getElem_toArray, List.getElem_cons_succ, List.getElem_cons_zero, Act.put, List.setIfInBounds_toArray, List.set_cons_succ, List.set_cons_zero]
    refine wpAnyH_take (i := 13) (v := ?_) rfl (by kernel_rfl) (by kernel_rfl) (by kernel_rfl) (fun _ _ _ h => h) (Or.inl ⟨by kernel_rfl, ?_⟩) HSW.out ?_
    rotate_left
    · intro w hS
      obtain ⟨s0, s1, s2, s3, s4⟩ := hS
      go_simp
      try with_reducible rfl
    conv in (Act.put _ _ _) => simp only [List.getElem_toArray, List.getElem_cons_succ, List.getElem_cons_zero, Act.put, List.setIfInBounds_toArray, List.set_cons_succ, List.set_cons_zero]
    refine wpAnyH_take (i := 14) (v := ?_) rfl (by kernel_rfl) (by kernel_rfl) (by kernel_rfl) (fun _ _ _ h => h) (Or.inl ⟨by kernel_rfl, ?_⟩) HSW.out ?_
    rotate_left
    · intro w hS
      obtain ⟨s0, s1, s2, s3, s4⟩ := hS
      go_simp
      try with_reducible rfl
    conv in (Act.put _ _ _) => simp only [List.getElem_toArray, List.getElem_cons_succ, List.getElem_cons_zero, Act.put, List.setIfInBounds_toArray, List.set_cons_succ, List.set_cons_zero]
    refine wpAnyH_take (i := 15) (v := ?_) rfl (by kernel_rfl) (by kernel_rfl) (by kernel_rfl) (fun _ _ _ h => h) (Or.inl ⟨by kernel_rfl, ?_⟩) HSW.out ?_
    rotate_left
    · intro w hS
      obtain ⟨s0, s1, s2, s3, s4⟩ := hS
      go_simp
      try with_reducible rfl
    conv in (Act.put _ _ _) => simp only [List.getElem_toArray, List.getElem_cons_succ, List.getElem_cons_zero, Act.put, List.setIfInBounds_toArray, List.set_cons_succ, List.set_cons_zero]
    refine wpAnyH_take (i := 16) (v := ?_) rfl (by kernel_rfl) (by kernel_rfl) (by kernel_rfl) (fun _ _ _ h => h) (Or.inl ⟨by kernel_rfl, ?_⟩) HSW.out ?_
    rotate_left
    · intro w hS
      obtain ⟨s0, s1, s2, s3, s4⟩ := hS
      go_simp
      try with_reducible rfl
    conv in (Act.put _ _ _) => simp only [List.getElem_toArray, List.getElem_cons_succ, List.getElem_cons_zero, Act.put, List.setIfInBounds_toArray, List.set_cons_succ, List.set_cons_zero]
    refine wpAnyH_take (i := 17) (v := ?_) rfl (by kernel_rfl) (by kernel_rfl) (by kernel_rfl) (fun _ _ _ h => h) (Or.inl ⟨by kernel_rfl, ?_⟩) HSW.out ?_
    rotate_left
    · intro w hS
      obtain ⟨s0, s1, s2, s3, s4⟩ := hS
      go_simp
      try with_reducible rfl
    conv in (Act.put _ _ _) => simp only [List.getElem_toArray, List.getElem_cons_succ, List.getElem_cons_zero, Act.put, List.setIfInBounds_toArray, List.set_cons_succ, List.set_cons_zero]
    refine wpAnyH_take (i := 18) (v := ?_) rfl (by kernel_rfl) (by kernel_rfl) (by kernel_rfl) (fun _ _ _ h => h) (Or.inl ⟨by kernel_rfl, ?_⟩) HSW.out ?_
    rotate_left
    · intro w hS
      obtain ⟨s0, s1, s2, s3, s4⟩ := hS
      go_simp
      try with_reducible rfl
    conv in (Act.put _ _ _) => simp only [List.getElem_toArray, List.getElem_cons_succ, List.getElem_cons_zero, Act.put, List.setIfInBounds_toArray, List.set_cons_succ, List.set_cons_zero]
    refine wpAnyH_take (i := 19) (v := ?_) rfl (by kernel_rfl) (by kernel_rfl) (by kernel_rfl) (fun _ _ _ h => h) (Or.inl ⟨by kernel_rfl, ?_⟩) HSW.out ?_
    rotate_left
    · intro w hS
      obtain ⟨s0, s1, s2, s3, s4⟩ := hS
      go_simp
      try with_reducible rfl
    conv in (Act.put _ _ _) => simp only [List.getElem_toArray, List.getElem_cons_succ, List.getElem_cons_zero, Act.put, List.setIfInBounds_toArray, List.set_cons_succ, List.set_cons_zero]
    refine wpAnyH_take (i := 20) (v := ?_) rfl (by kernel_rfl) (by kernel_rfl) (by kernel_rfl) (fun _ _ _ h => h) (Or.inl ⟨by kernel_rfl, ?_⟩) HSW.out ?_
    rotate_left
    · intro w hS
      obtain ⟨s0, s1, s2, s3, s4⟩ := hS
      go_simp
      try with_reducible rfl
    conv in (Act.put _ _ _) => simp only [List.getElem_toArray, List.getElem_cons_succ, List.getElem_cons_zero, Act.put, List.setIfInBounds_toArray, List.set_cons_succ, List.set_cons_zero]
    refine wpAnyH_take (i := 22) (v := ?_) rfl (by kernel_rfl) (by kernel_rfl) (by kernel_rfl) (fun _ _ _ h => h) (Or.inl ⟨by kernel_rfl, ?_⟩) HSW.out ?_
    rotate_left
    · intro w hS
      obtain ⟨s0, s1, s2, s3, s4⟩ := hS
      go_simp
      try with_reducible rfl
    conv in (Act.put _ _ _) => simp only [List.getElem_toArray, List.getElem_cons_succ, List.getElem_cons_zero, Act.put, List.setIfInBounds_toArray, List.set_cons_succ, List.set_cons_zero]
    refine wpAnyH_take (i := 23) (v := ?_) rfl (by kernel_rfl) (by kernel_rfl) (by kernel_rfl) (fun _ _ _ h => h) (Or.inl ⟨by kernel_rfl, ?_⟩) HSW.out ?_
    rotate_left
    · intro w hS
      obtain ⟨s0, s1, s2, s3, s4⟩ := hS
      go_simp
      try with_reducible rfl
    conv in (Act.put _ _ _) => simp only [List.getElem_toArray, List.getElem_cons_succ, List.getElem_cons_zero, Act.put, List.setIfInBounds_toArray, List.set_cons_succ, List.set_cons_zero]
    refine wpAnyH_take (i := 24) (v := ?_) rfl (by kernel_rfl) (by kernel_rfl) (by kernel_rfl) (fun _ _ _ h => h) (Or.inl ⟨by kernel_rfl, ?_⟩) HSW.out ?_
    rotate_left
    · intro w hS
      obtain ⟨s0, s1, s2, s3, s4⟩ := hS
      go_simp
      try with_reducible rfl
    conv in (Act.put _ _ _) => simp only [List.getElem_toArray, List.getElem_cons_succ, List.getElem_cons_zero, Act.put, List.setIfInBounds_toArray, List.set_cons_succ, List.set_cons_zero]
    refine wpAnyH_take (i := 25) (v := .int .u32 (sl : Int)) rfl (by kernel_rfl) (by kernel_rfl) (by kernel_rfl) (fun _ _ _ h => h) (Or.inl ⟨by kernel_rfl, ?_⟩) HSW.out ?_
    · intro w hS
      go_simp
      exact Q1.out
    conv in (Act.put _ _ _) => simp only [List.getElem_toArray, List.getElem_cons_succ, List.getElem_cons_zero, Act.put, List.setIfInBounds_toArray, List.set_cons_succ, List.set_cons_zero]
    refine readyH 21 _ (by kernel_rfl) rfl (by kernel_rfl) (fun K hK => ?_)
    go_simp
    refine (H5.out _).mono ?_
    rintro e y ⟨rfl, rfl⟩
    refine hK _ _ HSW.out ?_
    clear hK K
    refine wpAnyH_take (i := 26) (v := ?_) rfl (by kernel_rfl) (by kernel_rfl) (by kernel_rfl) (fun _ _ _ h => h) (Or.inl ⟨by kernel_rfl, ?_⟩) HSW.out ?_
    rotate_left
    · intro w hS
      obtain ⟨s0, s1, s2, s3, s4⟩ := hS
      go_simp
      try with_reducible rfl
    conv in (Act.put _ _ _) => simp only [List.getElem_toArray, List.getElem_cons_succ, List.getElem_cons_zero, Act.put, List.setIfInBounds_toArray, List.set_cons_succ, List.set_cons_zero]
    refine wpAnyH_take (i := 27) (v := ?_) rfl (by kernel_rfl) (by kernel_rfl) (by kernel_rfl) (fun _ _ _ h => h) (Or.inl ⟨by kernel_rfl, ?_⟩) HSW.out ?_
    rotate_left
    · intro w hS
      obtain ⟨s0, s1, s2, s3, s4⟩ := hS
      go_simp
      try with_reducible rfl
    conv in (Act.put _ _ _) => simp only [List.getElem_toArray, List.getElem_cons_succ, List.getElem_cons_zero, Act.put, List.setIfInBounds_toArray, List.set_cons_succ, List.set_cons_zero]
    refine wpAnyH_take (i := 28) (v := ?_) rfl (by kernel_rfl) (by kernel_rfl) (by kernel_rfl) (fun _ _ _ h => h) (Or.inl ⟨by kernel_rfl, ?_⟩) HSW.out ?_
    rotate_left
    · intro w hS
      obtain ⟨s0, s1, s2, s3, s4⟩ := hS
      go_simp
      try with_reducible rfl
    conv in (Act.put _ _ _) => simp only [List.getElem_toArray, List.getElem_cons_succ, List.getElem_cons_zero, Act.put, List.setIfInBounds_toArray, List.set_cons_succ, List.set_cons_zero]
    refine wpAnyH_done (by kernel_rfl) ?_ _
    rename_i hKK
    refine hKK _ _ ?_
    clear hKK
    go_wp2_with fail
    go_ret
    exact ⟨rfl, HBy2.out⟩
end Go.Proofs.Ytofealdlgpmheaa.Ro
