/- KeysOrder: the walk. -/
import Derived.Test.YtdgllokedcopjaaSe
namespace Go.Proofs.Ytdgllokedcopjaa
open Go.RowKit
set_option maxRecDepth 100000 in
set_option maxHeartbeats 4000000 in
theorem keysOrder_walk (l : List Ky) (j k : Ky) (o : Option Addr) (cap : Nat) (w : World) (hr : Ring w o cap l) :
    Calls Try.prog 8 #[.slice o l.length cap, kv j, kv k] w fun e w' => e = .returned (.bool true) ∧ Below w.heap.size w w' := by
  have HG : Hid (Ring w o cap l) := hr
  obtain ⟨m, hm30, CT⟩ := cut_named l o cap
  clear hr
  obtain ⟨g, s⟩ := j
  obtain ⟨h, t⟩ := k
  unfold kv
  go_enter Try.func8, Try.ntmps8
  go_wp2_with fail
  refine (shown_any _).mono ?_
  rintro e w1 ⟨rfl, b1⟩
  have h2 := two_new w (.cells #[.int .u32 g, .string s] 31) (.cells #[.int .u32 h, .string t] 31)
  have B1 : Hid (Below w.heap.size w w1) := h2.2.2.trans (b1.mono (by simp; omega))
  have J1 : Hid (w1.heap[w.heap.size]? = some (.cells #[.int .u32 g, .string s] 31 (0, 0))) := keeps h2.1 b1 (Nat.le_refl _)
  have K1 : Hid (w1.heap[w.heap.size + 1]? = some (.cells #[.int .u32 h, .string t] 31 (0, 0))) := keeps h2.2.1 b1 (Nat.le_refl _)
  clear b1 h2
  obtain ⟨c0, c1⟩ := two_cells J1.out
  obtain ⟨d0, d1⟩ := two_cells K1.out
  by_cases hgh : g = h
  · have qg : (g == h) = true := by simp [hgh]
    clear hgh
    go_wp2_with fail
    go_ret
    exact ⟨rfl, B1.out⟩
  · have qg : (g == h) = false := by simp [hgh]
    have HN : Hid (g ≠ h) := hgh
    clear hgh
    go_wp2_with fail
    clear c0 c1 d0 d1 qg
    have HC : Hid (∀ W, Below w1.heap.size w1 W → (W.cell? ⟨w.heap.size, 0, none⟩ = some (.int .u32 g) ∧ W.cell? ⟨w.heap.size, 1, none⟩ = some (.string s)) ∧ (W.cell? ⟨w.heap.size + 1, 0, none⟩ = some (.int .u32 h) ∧ W.cell? ⟨w.heap.size + 1, 1, none⟩ = some (.string t))) := fun W hB =>
      ⟨two_cells (keeps J1.out hB (Nat.le_refl _)), two_cells (keeps K1.out hB (Nat.le_refl _))⟩
    refine wp_region_held (S := fun w' => w'.cell? ⟨w.heap.size, 0, none⟩ = some (.int .u32 g) ∧ w'.cell? ⟨w.heap.size, 1, none⟩ = some (.string s)) (by kernel_rfl) ?_
    change wpAnyH _ _ _ _ _ _ _ _ (World.drew _)
    obtain ⟨w2, hw2⟩ : ∃ w2, w1.drew = w2 := ⟨_, rfl⟩
    have D2 : Hid (Below w1.heap.size w1 w2) := by rw [← hw2]; exact (Below.refl _ _).drew
    rw [hw2]
    clear hw2
    have HSW : Hid _ := (HC.out w2 D2.out).1
    refine wpAnyH_take (i := 0) (v := ?_) rfl (by kernel_rfl) (by kernel_rfl) (by kernel_rfl) (fun _ _ _ h => h) (Or.inl ⟨by kernel_rfl, ?_⟩) HSW.out ?_
    rotate_left
    · intro w hS
      obtain ⟨e1, e2⟩ := hS
      go_simp
      try with_reducible rfl
    conv in (Act.put _ _ _) => simp only [List.getElem_toArray, List.getElem_cons_succ, List.getElem_cons_zero, Act.put, List.setIfInBounds_toArray, List.set_cons_succ, List.set_cons_zero]
    refine wpAnyH_take (i := 2) (v := ?_) rfl (by kernel_rfl) (by kernel_rfl) (by kernel_rfl) (fun _ _ _ h => h) (Or.inl ⟨by kernel_rfl, ?_⟩) HSW.out ?_
    rotate_left
    · intro w hS
      obtain ⟨e1, e2⟩ := hS
      go_simp
      try with_reducible rfl
    conv in (Act.put _ _ _) => simp only [List.getElem_toArray, List.getElem_cons_succ, List.getElem_cons_zero, Act.put, List.setIfInBounds_toArray, List.set_cons_succ, List.set_cons_zero]
    refine readyH 1 _ (by kernel_rfl) rfl (by kernel_rfl) (fun K hK => ?_)
    go_simp
    refine (CT.out w2 (HG.out.below (B1.out.trans (D2.out.mono B1.out.size)) (Nat.le_refl _))).1.mono ?_
    rintro e w3 ⟨rfl, rfl⟩
    refine hK _ _ HSW.out ?_
    clear hK K
    refine readyH 3 _ (by kernel_rfl) rfl (by kernel_rfl) (fun K hK => ?_)
    go_simp
    refine (add_any m (g, s) o cap w3 (CT.out _ (HG.out.below (B1.out.trans (D2.out.mono B1.out.size)) (Nat.le_refl _))).2).mono ?_
    rintro e w4 ⟨o4, c4, rfl, r4, b4⟩
    have D4 : Hid (Below w1.heap.size w1 w4) := D2.out.trans (b4.mono D2.out.size)
    have R4 : Hid (Ring w4 o4 c4 (alS m (g, s))) := r4
    clear b4 r4 D2 HSW
    have HSW : Hid _ := (HC.out w4 D4.out).1
    refine hK _ _ HSW.out ?_
    clear hK K
    refine wpAnyH_take (i := 4) (v := ?_) rfl (by kernel_rfl) (by kernel_rfl) (by kernel_rfl) (fun _ _ _ h => h) (Or.inl ⟨by kernel_rfl, ?_⟩) HSW.out ?_
    rotate_left
    · intro w hS
      obtain ⟨e1, e2⟩ := hS
      go_simp
      try with_reducible rfl
    conv in (Act.put _ _ _) => simp only [List.getElem_toArray, List.getElem_cons_succ, List.getElem_cons_zero, Act.put, List.setIfInBounds_toArray, List.set_cons_succ, List.set_cons_zero]
    refine wpAnyH_take (i := 5) (v := ?_) rfl (by kernel_rfl) (by kernel_rfl) (by kernel_rfl) (fun _ _ _ h => h) (Or.inl ⟨by kernel_rfl, ?_⟩) HSW.out ?_
    rotate_left
    · intro w hS
      obtain ⟨e1, e2⟩ := hS
      go_simp
      try with_reducible rfl
    conv in (Act.put _ _ _) => simp only [List.getElem_toArray, List.getElem_cons_succ, List.getElem_cons_zero, Act.put, List.setIfInBounds_toArray, List.set_cons_succ, List.set_cons_zero]
    refine wpAnyH_take (i := 6) (v := ?_) rfl (by kernel_rfl) (by kernel_rfl) (by kernel_rfl) (fun _ _ _ h => h) (Or.inl ⟨by kernel_rfl, ?_⟩) HSW.out ?_
    rotate_left
    · intro w hS
      obtain ⟨e1, e2⟩ := hS
      go_simp
      try with_reducible rfl
    conv in (Act.put _ _ _) => simp only [List.getElem_toArray, List.getElem_cons_succ, List.getElem_cons_zero, Act.put, List.setIfInBounds_toArray, List.set_cons_succ, List.set_cons_zero]
    refine readyH 7 _ (by kernel_rfl) rfl (by kernel_rfl) (fun K hK => ?_)
    go_simp
    refine hK _ _ HSW.out ?_
    clear hK K
    refine readyH 8 _ (by kernel_rfl) rfl (by kernel_rfl) (fun K hK => ?_)
    go_simp
    refine hK _ _ HSW.out ?_
    clear hK K
    refine wpAnyH_done (by kernel_rfl) ?_ _
    clear HSW
    obtain ⟨A, hA⟩ : ∃ A, alS m (g, s) = A := ⟨_, rfl⟩
    obtain ⟨ea, hea⟩ : ∃ ea, aeS m (g, s) = ea := ⟨_, rfl⟩
    have HA : Hid (alS m (g, s) = A ∧ aeS m (g, s) = ea) := ⟨hA, hea⟩
    rw [hA] at R4 ⊢
    rw [hea]
    clear hA hea
    obtain ⟨_, d0, d1⟩ := HC.out w4 D4.out
    go_wp2_with fail
    clear d0 d1
    refine (add_any A (h, t) o4 c4 w4 R4.out).mono ?_
    rintro e w5 ⟨o5, c5, rfl, r5, b5⟩
    have D5 : Hid (Below w1.heap.size w1 w5) := D4.out.trans (b5.mono D4.out.size)
    obtain ⟨B, hB⟩ : ∃ B, alS A (h, t) = B := ⟨_, rfl⟩
    obtain ⟨eb, heb⟩ : ∃ eb, aeS A (h, t) = eb := ⟨_, rfl⟩
    have HBB : Hid (alS A (h, t) = B ∧ aeS A (h, t) = eb) := ⟨hB, heb⟩
    have R5 : Hid (Ring w5 o5 c5 B) := by rw [← hB]; exact r5
    rw [hB, heb]
    clear hB heb r5 b5 D4 R4
    go_wp2_with fail
    refine wp_region_held (S := fun w' => w'.cell? ⟨w.heap.size + 1, 0, none⟩ = some (.int .u32 h) ∧ w'.cell? ⟨w.heap.size + 1, 1, none⟩ = some (.string t)) (by kernel_rfl) ?_
    change wpAnyH _ _ _ _ _ _ _ _ (World.drew _)
    obtain ⟨w6, hw6⟩ : ∃ w6, w5.drew = w6 := ⟨_, rfl⟩
    have D6 : Hid (Below w1.heap.size w1 w6) := by rw [← hw6]; exact D5.out.drew
    have R6 : Hid (Ring w6 o5 c5 B) := by rw [← hw6]; exact R5.out.below (Below.refl _ _).drew (Nat.le_refl _)
    rw [hw6]
    clear hw6 D5 R5
    have HSW : Hid _ := (HC.out w6 D6.out).2
    refine wpAnyH_take (i := 0) (v := ?_) rfl (by kernel_rfl) (by kernel_rfl) (by kernel_rfl) (fun _ _ _ h => h) (Or.inl ⟨by kernel_rfl, ?_⟩) HSW.out ?_
    rotate_left
    · intro w hS
      obtain ⟨e1, e2⟩ := hS
      go_simp
      try with_reducible rfl
    conv in (Act.put _ _ _) => simp only [List.getElem_toArray, List.getElem_cons_succ, List.getElem_cons_zero, Act.put, List.setIfInBounds_toArray, List.set_cons_succ, List.set_cons_zero]
    refine wpAnyH_take (i := 2) (v := ?_) rfl (by kernel_rfl) (by kernel_rfl) (by kernel_rfl) (fun _ _ _ h => h) (Or.inl ⟨by kernel_rfl, ?_⟩) HSW.out ?_
    rotate_left
    · intro w hS
      obtain ⟨e1, e2⟩ := hS
      go_simp
      try with_reducible rfl
    conv in (Act.put _ _ _) => simp only [List.getElem_toArray, List.getElem_cons_succ, List.getElem_cons_zero, Act.put, List.setIfInBounds_toArray, List.set_cons_succ, List.set_cons_zero]
    refine readyH 1 _ (by kernel_rfl) rfl (by kernel_rfl) (fun K hK => ?_)
    go_simp
    refine (CT.out w6 (HG.out.below (B1.out.trans (D6.out.mono B1.out.size)) (Nat.le_refl _))).1.mono ?_
    rintro e w7 ⟨rfl, rfl⟩
    refine hK _ _ HSW.out ?_
    clear hK K
    refine readyH 3 _ (by kernel_rfl) rfl (by kernel_rfl) (fun K hK => ?_)
    go_simp
    refine (add_any m (h, t) o cap w7 (CT.out _ (HG.out.below (B1.out.trans (D6.out.mono B1.out.size)) (Nat.le_refl _))).2).mono ?_
    rintro e w8 ⟨o8, c8, rfl, r8, b8⟩
    have D8 : Hid (Below w1.heap.size w1 w8) := D6.out.trans (b8.mono D6.out.size)
    have R8 : Hid (Ring w8 o8 c8 (alS m (h, t))) := r8
    have S8 : Hid (Ring w8 o5 c5 B) := R6.out.below b8 (Nat.le_refl _)
    clear b8 r8 D6 HSW R6
    have HSW : Hid _ := (HC.out w8 D8.out).2
    refine hK _ _ HSW.out ?_
    clear hK K
    refine wpAnyH_take (i := 4) (v := ?_) rfl (by kernel_rfl) (by kernel_rfl) (by kernel_rfl) (fun _ _ _ h => h) (Or.inl ⟨by kernel_rfl, ?_⟩) HSW.out ?_
    rotate_left
    · intro w hS
      obtain ⟨e1, e2⟩ := hS
      go_simp
      try with_reducible rfl
    conv in (Act.put _ _ _) => simp only [List.getElem_toArray, List.getElem_cons_succ, List.getElem_cons_zero, Act.put, List.setIfInBounds_toArray, List.set_cons_succ, List.set_cons_zero]
    refine wpAnyH_take (i := 5) (v := ?_) rfl (by kernel_rfl) (by kernel_rfl) (by kernel_rfl) (fun _ _ _ h => h) (Or.inl ⟨by kernel_rfl, ?_⟩) HSW.out ?_
    rotate_left
    · intro w hS
      obtain ⟨e1, e2⟩ := hS
      go_simp
      try with_reducible rfl
    conv in (Act.put _ _ _) => simp only [List.getElem_toArray, List.getElem_cons_succ, List.getElem_cons_zero, Act.put, List.setIfInBounds_toArray, List.set_cons_succ, List.set_cons_zero]
    refine wpAnyH_take (i := 6) (v := ?_) rfl (by kernel_rfl) (by kernel_rfl) (by kernel_rfl) (fun _ _ _ h => h) (Or.inl ⟨by kernel_rfl, ?_⟩) HSW.out ?_
    rotate_left
    · intro w hS
      obtain ⟨e1, e2⟩ := hS
      go_simp
      try with_reducible rfl
    conv in (Act.put _ _ _) => simp only [List.getElem_toArray, List.getElem_cons_succ, List.getElem_cons_zero, Act.put, List.setIfInBounds_toArray, List.set_cons_succ, List.set_cons_zero]
    refine readyH 7 _ (by kernel_rfl) rfl (by kernel_rfl) (fun K hK => ?_)
    go_simp
    refine hK _ _ HSW.out ?_
    clear hK K
    refine readyH 8 _ (by kernel_rfl) rfl (by kernel_rfl) (fun K hK => ?_)
    go_simp
    refine hK _ _ HSW.out ?_
    clear hK K
    refine wpAnyH_done (by kernel_rfl) ?_ _
    clear HSW
    obtain ⟨C, hC⟩ : ∃ C, alS m (h, t) = C := ⟨_, rfl⟩
    obtain ⟨ec, hec⟩ : ∃ ec, aeS m (h, t) = ec := ⟨_, rfl⟩
    have HCC : Hid (alS m (h, t) = C ∧ aeS m (h, t) = ec) := ⟨hC, hec⟩
    rw [hC] at R8 ⊢
    rw [hec]
    clear hC hec
    obtain ⟨⟨c0, c1⟩, _⟩ := HC.out w8 D8.out
    go_wp2_with fail
    clear c0 c1
    refine (add_any C (g, s) o8 c8 w8 R8.out).mono ?_
    rintro e w9 ⟨o9, c9, rfl, r9, b9⟩
    have D9 : Hid (Below w1.heap.size w1 w9) := D8.out.trans (b9.mono D8.out.size)
    obtain ⟨D, hD⟩ : ∃ D, alS C (g, s) = D := ⟨_, rfl⟩
    obtain ⟨ed, hed⟩ : ∃ ed, aeS C (g, s) = ed := ⟨_, rfl⟩
    have R9 : Hid (Ring w9 o9 c9 D) := by rw [← hD]; exact r9
    have S9 : Hid (Ring w9 o5 c5 B) := S8.out.below b9 (Nat.le_refl _)
    have HO : Hid ((ea = 0 ∧ eb = 0 → ec = 0 ∧ ed = 0 ∧ B = D) ∧ (ec = 0 ∧ ed = 0 → ea = 0 ∧ eb = 0)) := by
      refine (?_ : (ea = 0 ∧ eb = 0 → ec = 0 ∧ ed = 0 ∧ B = D) ∧ (ec = 0 ∧ ed = 0 → ea = 0 ∧ eb = 0))
      have hn := HN.out
      refine ⟨fun ⟨h1, h2⟩ => ?_, fun ⟨h1, h2⟩ => ?_⟩
      · have := order m (g, s) (h, t) hn (HA.out.2.trans h1) (by rw [HA.out.1]; exact HBB.out.2.trans h2)
        rw [HCC.out.1, HCC.out.2, HA.out.1, HBB.out.1, hD, hed] at this
        exact this
      · have := order m (h, t) (g, s) (fun e => hn e.symm) (HCC.out.2.trans h1) (by rw [HCC.out.1]; exact hed.trans h2)
        rw [HA.out.1, HA.out.2, HBB.out.2] at this
        exact ⟨this.1, this.2.1⟩
    rw [hD, hed]
    clear hD hed r9 b9 D8 R8 S8 HA HBB HCC HC HN
    have B9 : Hid (Below w.heap.size w w9) := B1.out.trans (D9.out.mono B1.out.size)
    by_cases hz : ea = 0 ∧ eb = 0
    · obtain ⟨rfl, rfl⟩ := hz
      obtain ⟨rfl, rfl, rfl⟩ := HO.out.1 ⟨rfl, rfl⟩
      go_wp2_with fail
      refine (same_any B B o5 o9 c5 c9 w9 S9.out R9.out).mono ?_
      rintro e wa ⟨rfl, ba⟩
      rw [decide_eq_true rfl]
      have Ba : Hid (Below w.heap.size w wa) := B9.out.trans (ba.mono B9.out.size)
      clear ba
      go_wp2_with fail
      go_ret
      exact ⟨rfl, Ba.out⟩
    · have hz2 : ¬ (ec = 0 ∧ ed = 0) := fun hh => hz (HO.out.2 hh)
      clear HO R9 S9 D9
      have key : ((ea != 0) = true ∨ ((ea != 0) = false ∧ (eb != 0) = true)) ∧ ((ec != 0) = true ∨ ((ec != 0) = false ∧ (ed != 0) = true)) := by
        constructor
        · by_cases h1 : ea = 0
          · right; exact ⟨by simp [h1], by simp; intro h2; exact hz ⟨h1, h2⟩⟩
          · left; simp [h1]
        · by_cases h1 : ec = 0
          · right; exact ⟨by simp [h1], by simp; intro h2; exact hz2 ⟨h1, h2⟩⟩
          · left; simp [h1]
      clear hz hz2
      obtain ⟨k1 | ⟨k1, k2⟩, k3 | ⟨k3, k4⟩⟩ := key
      all_goals (go_wp2_with fail; go_ret; exact ⟨rfl, B9.out⟩)
end Go.Proofs.Ytdgllokedcopjaa
