/- KeysAdds: the walk. -/
import Derived.Test.YtdgllokedcopjaaQ
namespace Go.Proofs.Ytdgllokedcopjaa
open Go.RowKit
/-- The first thirty keys, under a name of their own. -/
theorem cut_named (l : List Ky) (o : Option Addr) (cap : Nat) : ∃ m : List Ky, m.length ≤ 30 ∧ Hid (∀ W, Ring W o cap l → (Calls Try.prog 10 #[.slice o l.length cap] W fun e w' => e = .returned (.slice o m.length cap) ∧ w' = W) ∧ Ring W o cap m) :=
  ⟨l.take 30, by rw [List.length_take]; omega, fun W h => ⟨cut_any l o cap W h, h.cut⟩⟩
set_option maxRecDepth 100000 in
set_option maxHeartbeats 4000000 in
theorem keysAdds_walk (l : List Ky) (k : Ky) (o : Option Addr) (cap : Nat) (w : World) (hr : Ring w o cap l) :
    Calls Try.prog 4 #[.slice o l.length cap, kv k] w fun e w' => e = .returned (.bool true) ∧ Below w.heap.size w w' := by
  have HG : Hid (Ring w o cap l) := hr
  clear hr
  obtain ⟨g, s⟩ := k
  unfold kv
  go_enter Try.func4, Try.ntmps4
  go_wp2_with fail
  refine (shown_any _).mono ?_
  rintro e w1 ⟨rfl, b1⟩
  have B1 : Hid (Below w.heap.size w w1) := (below_new w _).trans (b1.mono (by simp))
  have H1 : Hid (w1.heap[w.heap.size]? = some (.cells #[.int .u32 g, .string s] 31 (0, 0))) := (b1.block _ (by simp)).trans (heap_alloc_new w _)
  have R1 : Hid (Ring w1 o cap l) := HG.out.below B1.out (Nat.le_refl _)
  obtain ⟨m, hm30, CT⟩ := cut_named l o cap
  clear b1 HG
  go_wp2_with fail
  have HC : Hid (∀ W, Below w1.heap.size w1 W → W.cell? ⟨w.heap.size, 0, none⟩ = some (.int .u32 g) ∧ W.cell? ⟨w.heap.size, 1, none⟩ = some (.string s)) := fun W hB => by
    have := (hB.block _ (Array.getElem?_eq_some_iff.1 H1.out).1).trans H1.out
    exact ⟨by rw [cell_of_row _ _ _ _ _ _ this]; rfl, by rw [cell_of_row _ _ _ _ _ _ this]; rfl⟩
  refine wp_region_held (S := fun w' => w'.cell? ⟨w.heap.size, 0, none⟩ = some (.int .u32 g) ∧ w'.cell? ⟨w.heap.size, 1, none⟩ = some (.string s)) (by kernel_rfl) ?_
  change wpAnyH _ _ _ _ _ _ _ _ (World.drew _)
  obtain ⟨w2, hw2⟩ : ∃ w2, w1.drew = w2 := ⟨_, rfl⟩
  have D2 : Hid (Below w1.heap.size w1 w2) := by rw [← hw2]; exact (Below.refl _ _).drew
  rw [hw2]
  clear hw2
  have HSW : Hid _ := HC.out w2 D2.out
  refine wpAnyH_take (i := 0) (v := ?_) rfl (by kernel_rfl) (by kernel_rfl) (by kernel_rfl) (fun _ _ _ h => h) (Or.inl ⟨by kernel_rfl, ?_⟩) HSW.out ?_
  rotate_left
  · intro w hS
    obtain ⟨e1, e2⟩ := hS
    go_simp
    try with_reducible rfl
  conv in (Act.put _ _ _) => simp only [List.getElem_toArray, List.getElem_cons_succ, List.getElem_cons_zero, Act.put, List.setIfInBounds_toArray, List.set_cons_succ, List.set_cons_zero]
  refine wpAnyH_take (i := 2) (v := ?_) rfl (by kernel_rfl) (by kernel_rfl) (by kernel_rfl) (fun _ _ _ h => h) (Or.inl ⟨by kernel_rfl, ?_⟩) HSW.out ?_
  rotate_left
  · intro w hS
    obtain ⟨e1, e2⟩ := hS
    go_simp
    try with_reducible rfl
  conv in (Act.put _ _ _) => simp only [List.getElem_toArray, List.getElem_cons_succ, List.getElem_cons_zero, Act.put, List.setIfInBounds_toArray, List.set_cons_succ, List.set_cons_zero]
  refine readyH 1 _ (by kernel_rfl) rfl (by kernel_rfl) (fun K hK => ?_)
  go_simp
  refine (CT.out w2 (R1.out.below D2.out (Nat.le_refl _))).1.mono ?_
  rintro e w3 ⟨rfl, rfl⟩
  refine hK _ _ HSW.out ?_
  clear hK K
  refine readyH 3 _ (by kernel_rfl) rfl (by kernel_rfl) (fun K hK => ?_)
  go_simp
  refine (add_any m (g, s) o cap w3 (CT.out _ (R1.out.below D2.out (Nat.le_refl _))).2).mono ?_
  rintro e w4 ⟨o4, c4, rfl, r4, b4⟩
  have D4 : Hid (Below w1.heap.size w1 w4) := D2.out.trans (b4.mono D2.out.size)
  have R4 : Hid (Ring w4 o4 c4 (alS m (g, s))) := r4
  clear b4 r4 D2 HSW
  have HSW : Hid _ := HC.out w4 D4.out
  refine hK _ _ HSW.out ?_
  clear hK K
  refine wpAnyH_take (i := 4) (v := ?_) rfl (by kernel_rfl) (by kernel_rfl) (by kernel_rfl) (fun _ _ _ h => h) (Or.inl ⟨by kernel_rfl, ?_⟩) HSW.out ?_
  rotate_left
  · intro w hS
    obtain ⟨e1, e2⟩ := hS
    go_simp
    try with_reducible rfl
  conv in (Act.put _ _ _) => simp only [List.getElem_toArray, List.getElem_cons_succ, List.getElem_cons_zero, Act.put, List.setIfInBounds_toArray, List.set_cons_succ, List.set_cons_zero]
  refine wpAnyH_take (i := 5) (v := ?_) rfl (by kernel_rfl) (by kernel_rfl) (by kernel_rfl) (fun _ _ _ h => h) (Or.inl ⟨by kernel_rfl, ?_⟩) HSW.out ?_
  rotate_left
  · intro w hS
    obtain ⟨e1, e2⟩ := hS
    go_simp
    try with_reducible rfl
  conv in (Act.put _ _ _) => simp only [List.getElem_toArray, List.getElem_cons_succ, List.getElem_cons_zero, Act.put, List.setIfInBounds_toArray, List.set_cons_succ, List.set_cons_zero]
  refine wpAnyH_take (i := 6) (v := ?_) rfl (by kernel_rfl) (by kernel_rfl) (by kernel_rfl) (fun _ _ _ h => h) (Or.inl ⟨by kernel_rfl, ?_⟩) HSW.out ?_
  rotate_left
  · intro w hS
    obtain ⟨e1, e2⟩ := hS
    go_simp
    try with_reducible rfl
  conv in (Act.put _ _ _) => simp only [List.getElem_toArray, List.getElem_cons_succ, List.getElem_cons_zero, Act.put, List.setIfInBounds_toArray, List.set_cons_succ, List.set_cons_zero]
  refine readyH 7 _ (by kernel_rfl) rfl (by kernel_rfl) (fun K hK => ?_)
  go_simp
  refine hK _ _ HSW.out ?_
  clear hK K
  refine readyH 8 _ (by kernel_rfl) rfl (by kernel_rfl) (fun K hK => ?_)
  go_simp
  refine hK _ _ HSW.out ?_
  clear hK K
  refine wpAnyH_done (by kernel_rfl) ?_ _
  clear HSW
  go_wp2_with fail
  refine wp_region_held (S := fun w' => w'.cell? ⟨w.heap.size, 0, none⟩ = some (.int .u32 g) ∧ w'.cell? ⟨w.heap.size, 1, none⟩ = some (.string s)) (by kernel_rfl) ?_
  change wpAnyH _ _ _ _ _ _ _ _ (World.drew _)
  obtain ⟨w5, hw5⟩ : ∃ w5, w4.drew = w5 := ⟨_, rfl⟩
  have D5 : Hid (Below w1.heap.size w1 w5) := by rw [← hw5]; exact D4.out.drew
  have R5 : Hid (Ring w5 o4 c4 (alS m (g, s))) := by rw [← hw5]; exact R4.out.below (Below.refl _ _).drew (Nat.le_refl _)
  rw [hw5]
  clear hw5 D4 R4
  have HSW : Hid _ := HC.out w5 D5.out
  refine wpAnyH_take (i := 0) (v := ?_) rfl (by kernel_rfl) (by kernel_rfl) (by kernel_rfl) (fun _ _ _ h => h) (Or.inl ⟨by kernel_rfl, ?_⟩) HSW.out ?_
  rotate_left
  · intro w hS
    obtain ⟨e1, e2⟩ := hS
    go_simp
    try with_reducible rfl
  conv in (Act.put _ _ _) => simp only [List.getElem_toArray, List.getElem_cons_succ, List.getElem_cons_zero, Act.put, List.setIfInBounds_toArray, List.set_cons_succ, List.set_cons_zero]
  refine wpAnyH_take (i := 2) (v := ?_) rfl (by kernel_rfl) (by kernel_rfl) (by kernel_rfl) (fun _ _ _ h => h) (Or.inl ⟨by kernel_rfl, ?_⟩) HSW.out ?_
  rotate_left
  · intro w hS
    obtain ⟨e1, e2⟩ := hS
    go_simp
    try with_reducible rfl
  conv in (Act.put _ _ _) => simp only [List.getElem_toArray, List.getElem_cons_succ, List.getElem_cons_zero, Act.put, List.setIfInBounds_toArray, List.set_cons_succ, List.set_cons_zero]
  refine readyH 1 _ (by kernel_rfl) rfl (by kernel_rfl) (fun K hK => ?_)
  go_simp
  refine (CT.out w5 (R1.out.below D5.out (Nat.le_refl _))).1.mono ?_
  rintro e w6 ⟨rfl, rfl⟩
  refine hK _ _ HSW.out ?_
  clear hK K
  refine readyH 3 _ (by kernel_rfl) rfl (by kernel_rfl) (fun K hK => ?_)
  go_simp
  refine (refAdd_any m (g, s) o cap w6 (CT.out _ (R1.out.below D5.out (Nat.le_refl _))).2 (by omega)).mono ?_
  rintro e w7 ⟨o7, c7, rfl, r7, b7⟩
  have D7 : Hid (Below w1.heap.size w1 w7) := D5.out.trans (b7.mono D5.out.size)
  have R7 : Hid (Ring w7 o7 c7 (alS m (g, s))) := r7
  have S7 : Hid (Ring w7 o4 c4 (alS m (g, s))) := R5.out.below b7 (Nat.le_refl _)
  clear b7 r7 D5 HSW R5
  have HSW : Hid _ := HC.out w7 D7.out
  refine hK _ _ HSW.out ?_
  clear hK K
  refine wpAnyH_take (i := 4) (v := ?_) rfl (by kernel_rfl) (by kernel_rfl) (by kernel_rfl) (fun _ _ _ h => h) (Or.inl ⟨by kernel_rfl, ?_⟩) HSW.out ?_
  rotate_left
  · intro w hS
    obtain ⟨e1, e2⟩ := hS
    go_simp
    try with_reducible rfl
  conv in (Act.put _ _ _) => simp only [List.getElem_toArray, List.getElem_cons_succ, List.getElem_cons_zero, Act.put, List.setIfInBounds_toArray, List.set_cons_succ, List.set_cons_zero]
  refine wpAnyH_take (i := 5) (v := ?_) rfl (by kernel_rfl) (by kernel_rfl) (by kernel_rfl) (fun _ _ _ h => h) (Or.inl ⟨by kernel_rfl, ?_⟩) HSW.out ?_
  rotate_left
  · intro w hS
    obtain ⟨e1, e2⟩ := hS
    go_simp
    try with_reducible rfl
  conv in (Act.put _ _ _) => simp only [List.getElem_toArray, List.getElem_cons_succ, List.getElem_cons_zero, Act.put, List.setIfInBounds_toArray, List.set_cons_succ, List.set_cons_zero]
  refine wpAnyH_take (i := 6) (v := ?_) rfl (by kernel_rfl) (by kernel_rfl) (by kernel_rfl) (fun _ _ _ h => h) (Or.inl ⟨by kernel_rfl, ?_⟩) HSW.out ?_
  rotate_left
  · intro w hS
    obtain ⟨e1, e2⟩ := hS
    go_simp
    try with_reducible rfl
  conv in (Act.put _ _ _) => simp only [List.getElem_toArray, List.getElem_cons_succ, List.getElem_cons_zero, Act.put, List.setIfInBounds_toArray, List.set_cons_succ, List.set_cons_zero]
  refine readyH 7 _ (by kernel_rfl) rfl (by kernel_rfl) (fun K hK => ?_)
  go_simp
  refine hK _ _ HSW.out ?_
  clear hK K
  refine readyH 8 _ (by kernel_rfl) rfl (by kernel_rfl) (fun K hK => ?_)
  go_simp
  refine hK _ _ HSW.out ?_
  clear hK K
  refine wpAnyH_done (by kernel_rfl) ?_ _
  clear HSW
  generalize alS m (g, s) = al at *
  generalize aeS m (g, s) = ae at *
  go_wp2_with fail
  refine (same_any al al o4 o7 c4 c7 w7 S7.out R7.out).mono ?_
  rintro e w8 ⟨rfl, b8⟩
  have B8 : Hid (Below w.heap.size w w8) := B1.out.trans ((D7.out.trans (b8.mono D7.out.size)).mono B1.out.size)
  rw [decide_eq_true rfl]
  clear b8 D7 R7 S7
  go_wp2_with fail
  go_ret
  exact ⟨rfl, B8.out⟩
end Go.Proofs.Ytdgllokedcopjaa
