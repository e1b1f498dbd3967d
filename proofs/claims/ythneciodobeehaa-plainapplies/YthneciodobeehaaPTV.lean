/- PlainApplies. -/
import Derived.Test.YthneciodobeehaaPTP
import Derived.Test.YthneciodobeehaaPTU
import Derived.Test.YthneciodobeehaaPFW
namespace Go.Proofs.Ythneciodobeehaa.Rp
open Go.RowKit Go.Lib
open Go.Proofs.Ythneciodobeehaa.Rc Go.Proofs.Ythneciodobeehaa.Rq
/-- A change's cells. -/
def O5 (g : Nat) (c : Ch) (w : World) : Prop := w.cell? ⟨g, 0, none⟩ = some (.int .i64 c.k) ∧ w.cell? ⟨g, 1, none⟩ = some (.int .u64 (c.r.id : Int)) ∧ w.cell? ⟨g, 2, none⟩ = some (.int .u32 (c.r.x : Int)) ∧ w.cell? ⟨g, 3, none⟩ = some (.int .u32 (c.r.y : Int)) ∧ w.cell? ⟨g, 4, none⟩ = some (.string c.r.v)
set_option maxRecDepth 100000 in
set_option maxHeartbeats 4000000 in
theorem plainApplies_walk (l : List Rw) (c : Ch) (o : Option Addr) (cap : Nat) (w : World) (hr : RowsAt w o cap l) : Calls Try.prog 4 #[.slice o l.length cap, ov c] w fun e w' => e = .returned (.bool true) ∧ Below w.heap.size w w' := by
  have hb := below_new w (ocs c)
  have hg := heap_alloc_new w (ocs c)
  obtain ⟨W0, hW0⟩ : ∃ W0, w.alloc (ocs c) = W0 := ⟨_, rfl⟩
  rw [hW0] at hb hg
  have HW0 : Hid _ := hW0
  have HG0 : Hid (W0.heap[w.heap.size]? = some (ocs c)) := hg
  have HB0 : Hid (Below w.heap.size w W0) := hb
  have l0 : w.heap.size < W0.heap.size := (Array.getElem?_eq_some_iff.1 hg).1
  obtain ⟨L, hL⟩ : ∃ L, l.take 60 = L := ⟨_, rfl⟩
  have HF : Hid (∀ W, RowsAt W o cap l → Calls Try.prog 13 #[.slice o l.length cap] W fun e w' => e = .returned (.slice o L.length cap) ∧ w' = W) := fun W hW => by rw [← hL]; exact few_any l o cap W hW
  have HR0 : Hid (RowsAt w o cap l) := hr
  have HR : Hid (RowsAt w o cap L) := by rw [← hL]; exact hr.head 60
  clear hL
  have HA : Hid (∀ W, RowsAt W o cap L → _) := fun W hW => apply_any o cap L c W hW
  have HC : Hid (∀ W, RowsAt W o cap L → _) := fun W hW => happly_any o cap L c W hW
  generalize apL L c = AL at *
  generalize apE L c = E at *
  have HQ : Hid (eqL eqR AL AL = true) := (eqL_iff eqR eqR_iff AL AL).2 rfl
  obtain ⟨k, id, x, y, v⟩ := c
  simp only [ov] at HA HC ⊢
  clear hb hg hW0 hr
  go_enter Try.func4, Try.ntmps4
  go_wp2_with (first | (rw [HW0.out]; clear HW0))
  refine (pshown_any _).mono ?_
  rintro e w1 ⟨rfl, b1⟩
  have HB1 : Hid (Below w.heap.size w w1) := HB0.out.trans (b1.mono HB0.out.size)
  have HG1 : Hid (w1.heap[w.heap.size]? = some (.cells #[.int .i64 k, .int .u64 (id : Int), .int .u32 (x : Int), .int .u32 (y : Int), .string v] 34 (0, 0))) := (b1.block _ l0).trans HG0.out
  have l1 : w.heap.size < w1.heap.size := Nat.lt_of_lt_of_le l0 b1.size
  clear b1 HG0 HB0 l0
  go_wp2_with fail
  refine wp_region_held (S := O5 w.heap.size ⟨k, ⟨id, x, y, v⟩⟩) (by kernel_rfl) ?_
  change wpAnyH _ _ _ _ _ _ _ _ (World.drew _)
  have HSW : Hid (O5 w.heap.size ⟨k, ⟨id, x, y, v⟩⟩ w1.drew) := op_cells HG1.out
  refine wpAnyH_take (i := 0) (v := ?_) rfl (by kernel_rfl) (by kernel_rfl) (by kernel_rfl) (fun _ _ _ h => h) (Or.inl ⟨by kernel_rfl, ?_⟩) HSW.out ?_
  rotate_left
  · intro w hS
    obtain ⟨e0, e1, e2, e3, e4⟩ := hS
    go_simp
    try with_reducible rfl
  conv in (Act.put _ _ _) => simp only [List.getElem_toArray, List.getElem_cons_succ, List.getElem_cons_zero, Act.put, List.setIfInBounds_toArray, List.set_cons_succ, List.set_cons_zero]
  refine wpAnyH_take (i := 2) (v := ?_) rfl (by kernel_rfl) (by kernel_rfl) (by kernel_rfl) (fun _ _ _ h => h) (Or.inl ⟨by kernel_rfl, ?_⟩) HSW.out ?_
  rotate_left
  · intro w hS
    obtain ⟨e0, e1, e2, e3, e4⟩ := hS
    go_simp
    try with_reducible rfl
  conv in (Act.put _ _ _) => simp only [List.getElem_toArray, List.getElem_cons_succ, List.getElem_cons_zero, Act.put, List.setIfInBounds_toArray, List.set_cons_succ, List.set_cons_zero]
  refine readyH 1 _ (by kernel_rfl) rfl (by kernel_rfl) (fun K hK => ?_)
  go_simp
  refine (HF.out _ (HR0.out.below HB1.out.drew (Nat.le_refl _))).mono ?_
  rintro e w9 ⟨rfl, hw9⟩
  have hw9' := hw9.symm
  clear hw9
  subst hw9'
  refine hK _ _ HSW.out ?_
  clear hK K
  refine readyH 3 _ (by kernel_rfl) rfl (by kernel_rfl) (fun K hK => ?_)
  go_simp
  refine Calls.mono (HA.out _ (HR.out.below HB1.out.drew (Nat.le_refl _))) ?_
  rintro e w2 ⟨o2, cap2, rfl, hr2, b2, -⟩
  replace b2 : Below w1.heap.size w1 w2 := (Below.refl _ w1).drew.trans b2
  have HB2 : Hid (Below w.heap.size w w2) := HB1.out.trans (b2.mono HB1.out.size)
  have HG2 : Hid (w2.heap[w.heap.size]? = some (.cells #[.int .i64 k, .int .u64 (id : Int), .int .u32 (x : Int), .int .u32 (y : Int), .string v] 34 (0, 0))) := (b2.block _ l1).trans HG1.out
  have l2 : w.heap.size < w2.heap.size := Nat.lt_of_lt_of_le l1 b2.size
  clear HSW
  have HSW : Hid (O5 w.heap.size ⟨k, ⟨id, x, y, v⟩⟩ w2) := op_cells HG2.out
  have HX2 : Hid (RowsAt w2 o2 cap2 AL) := hr2
  clear b2 hr2 HA
  refine hK _ _ HSW.out ?_
  clear hK K
  refine wpAnyH_take (i := 4) (v := ?_) rfl (by kernel_rfl) (by kernel_rfl) (by kernel_rfl) (fun _ _ _ h => h) (Or.inl ⟨by kernel_rfl, ?_⟩) HSW.out ?_
  rotate_left
  · intro w hS
    obtain ⟨e0, e1, e2, e3, e4⟩ := hS
    go_simp
    try with_reducible rfl
  conv in (Act.put _ _ _) => simp only [List.getElem_toArray, List.getElem_cons_succ, List.getElem_cons_zero, Act.put, List.setIfInBounds_toArray, List.set_cons_succ, List.set_cons_zero]
  refine wpAnyH_take (i := 5) (v := ?_) rfl (by kernel_rfl) (by kernel_rfl) (by kernel_rfl) (fun _ _ _ h => h) (Or.inl ⟨by kernel_rfl, ?_⟩) HSW.out ?_
  rotate_left
  · intro w hS
    obtain ⟨e0, e1, e2, e3, e4⟩ := hS
    go_simp
    try with_reducible rfl
  conv in (Act.put _ _ _) => simp only [List.getElem_toArray, List.getElem_cons_succ, List.getElem_cons_zero, Act.put, List.setIfInBounds_toArray, List.set_cons_succ, List.set_cons_zero]
  refine wpAnyH_take (i := 6) (v := ?_) rfl (by kernel_rfl) (by kernel_rfl) (by kernel_rfl) (fun _ _ _ h => h) (Or.inl ⟨by kernel_rfl, ?_⟩) HSW.out ?_
  rotate_left
  · intro w hS
    obtain ⟨e0, e1, e2, e3, e4⟩ := hS
    go_simp
    try with_reducible rfl
  conv in (Act.put _ _ _) => simp only [List.getElem_toArray, List.getElem_cons_succ, List.getElem_cons_zero, Act.put, List.setIfInBounds_toArray, List.set_cons_succ, List.set_cons_zero]
  refine wpAnyH_take (i := 7) (v := ?_) rfl (by kernel_rfl) (by kernel_rfl) (by kernel_rfl) (fun _ _ _ h => h) (Or.inl ⟨by kernel_rfl, ?_⟩) HSW.out ?_
  rotate_left
  · intro w hS
    obtain ⟨e0, e1, e2, e3, e4⟩ := hS
    go_simp
    try with_reducible rfl
  conv in (Act.put _ _ _) => simp only [List.getElem_toArray, List.getElem_cons_succ, List.getElem_cons_zero, Act.put, List.setIfInBounds_toArray, List.set_cons_succ, List.set_cons_zero]
  refine wpAnyH_take (i := 8) (v := ?_) rfl (by kernel_rfl) (by kernel_rfl) (by kernel_rfl) (fun _ _ _ h => h) (Or.inl ⟨by kernel_rfl, ?_⟩) HSW.out ?_
  rotate_left
  · intro w hS
    obtain ⟨e0, e1, e2, e3, e4⟩ := hS
    go_simp
    try with_reducible rfl
  conv in (Act.put _ _ _) => simp only [List.getElem_toArray, List.getElem_cons_succ, List.getElem_cons_zero, Act.put, List.setIfInBounds_toArray, List.set_cons_succ, List.set_cons_zero]
  refine wpAnyH_done (by kernel_rfl) ?_ _
  clear HSW
  go_wp2_with fail
  refine wp_region_held (S := O5 w.heap.size ⟨k, ⟨id, x, y, v⟩⟩) (by kernel_rfl) ?_
  change wpAnyH _ _ _ _ _ _ _ _ (World.drew _)
  have HSW : Hid (O5 w.heap.size ⟨k, ⟨id, x, y, v⟩⟩ w2.drew) := op_cells HG2.out
  refine wpAnyH_take (i := 0) (v := ?_) rfl (by kernel_rfl) (by kernel_rfl) (by kernel_rfl) (fun _ _ _ h => h) (Or.inl ⟨by kernel_rfl, ?_⟩) HSW.out ?_
  rotate_left
  · intro w hS
    obtain ⟨e0, e1, e2, e3, e4⟩ := hS
    go_simp
    try with_reducible rfl
  conv in (Act.put _ _ _) => simp only [List.getElem_toArray, List.getElem_cons_succ, List.getElem_cons_zero, Act.put, List.setIfInBounds_toArray, List.set_cons_succ, List.set_cons_zero]
  refine wpAnyH_take (i := 2) (v := ?_) rfl (by kernel_rfl) (by kernel_rfl) (by kernel_rfl) (fun _ _ _ h => h) (Or.inl ⟨by kernel_rfl, ?_⟩) HSW.out ?_
  rotate_left
  · intro w hS
    obtain ⟨e0, e1, e2, e3, e4⟩ := hS
    go_simp
    try with_reducible rfl
  conv in (Act.put _ _ _) => simp only [List.getElem_toArray, List.getElem_cons_succ, List.getElem_cons_zero, Act.put, List.setIfInBounds_toArray, List.set_cons_succ, List.set_cons_zero]
  refine readyH 1 _ (by kernel_rfl) rfl (by kernel_rfl) (fun K hK => ?_)
  go_simp
  refine (HF.out _ (HR0.out.below HB2.out.drew (Nat.le_refl _))).mono ?_
  rintro e w9 ⟨rfl, hw9⟩
  have hw9' := hw9.symm
  clear hw9
  subst hw9'
  refine hK _ _ HSW.out ?_
  clear hK K
  refine readyH 3 _ (by kernel_rfl) rfl (by kernel_rfl) (fun K hK => ?_)
  go_simp
  refine Calls.mono (HC.out _ (HR.out.below HB2.out.drew (Nat.le_refl _))) ?_
  rintro e w3 ⟨o3, cap3, rfl, hr3, b3, -⟩
  replace b3 : Below w2.heap.size w2 w3 := (Below.refl _ w2).drew.trans b3
  have HB3 : Hid (Below w.heap.size w w3) := HB2.out.trans (b3.mono HB2.out.size)
  have HG3 : Hid (w3.heap[w.heap.size]? = some (.cells #[.int .i64 k, .int .u64 (id : Int), .int .u32 (x : Int), .int .u32 (y : Int), .string v] 34 (0, 0))) := (b3.block _ l2).trans HG2.out
  have l3 : w.heap.size < w3.heap.size := Nat.lt_of_lt_of_le l2 b3.size
  clear HSW
  have HSW : Hid (O5 w.heap.size ⟨k, ⟨id, x, y, v⟩⟩ w3) := op_cells HG3.out
  have HS : Hid (∀ _ : True, _) := fun _ => rsame_any AL AL o2 cap2 o3 cap3 w3 (HX2.out.below b3 (Nat.le_refl _)) hr3
  clear b3 hr3 HC HX2
  refine hK _ _ HSW.out ?_
  clear hK K
  refine wpAnyH_take (i := 4) (v := ?_) rfl (by kernel_rfl) (by kernel_rfl) (by kernel_rfl) (fun _ _ _ h => h) (Or.inl ⟨by kernel_rfl, ?_⟩) HSW.out ?_
  rotate_left
  · intro w hS
    obtain ⟨e0, e1, e2, e3, e4⟩ := hS
    go_simp
    try with_reducible rfl
  conv in (Act.put _ _ _) => simp only [List.getElem_toArray, List.getElem_cons_succ, List.getElem_cons_zero, Act.put, List.setIfInBounds_toArray, List.set_cons_succ, List.set_cons_zero]
  refine wpAnyH_take (i := 5) (v := ?_) rfl (by kernel_rfl) (by kernel_rfl) (by kernel_rfl) (fun _ _ _ h => h) (Or.inl ⟨by kernel_rfl, ?_⟩) HSW.out ?_
  rotate_left
  · intro w hS
    obtain ⟨e0, e1, e2, e3, e4⟩ := hS
    go_simp
    try with_reducible rfl
  conv in (Act.put _ _ _) => simp only [List.getElem_toArray, List.getElem_cons_succ, List.getElem_cons_zero, Act.put, List.setIfInBounds_toArray, List.set_cons_succ, List.set_cons_zero]
  refine wpAnyH_take (i := 6) (v := ?_) rfl (by kernel_rfl) (by kernel_rfl) (by kernel_rfl) (fun _ _ _ h => h) (Or.inl ⟨by kernel_rfl, ?_⟩) HSW.out ?_
  rotate_left
  · intro w hS
    obtain ⟨e0, e1, e2, e3, e4⟩ := hS
    go_simp
    try with_reducible rfl
  conv in (Act.put _ _ _) => simp only [List.getElem_toArray, List.getElem_cons_succ, List.getElem_cons_zero, Act.put, List.setIfInBounds_toArray, List.set_cons_succ, List.set_cons_zero]
  refine wpAnyH_take (i := 7) (v := ?_) rfl (by kernel_rfl) (by kernel_rfl) (by kernel_rfl) (fun _ _ _ h => h) (Or.inl ⟨by kernel_rfl, ?_⟩) HSW.out ?_
  rotate_left
  · intro w hS
    obtain ⟨e0, e1, e2, e3, e4⟩ := hS
    go_simp
    try with_reducible rfl
  conv in (Act.put _ _ _) => simp only [List.getElem_toArray, List.getElem_cons_succ, List.getElem_cons_zero, Act.put, List.setIfInBounds_toArray, List.set_cons_succ, List.set_cons_zero]
  refine wpAnyH_take (i := 8) (v := ?_) rfl (by kernel_rfl) (by kernel_rfl) (by kernel_rfl) (fun _ _ _ h => h) (Or.inl ⟨by kernel_rfl, ?_⟩) HSW.out ?_
  rotate_left
  · intro w hS
    obtain ⟨e0, e1, e2, e3, e4⟩ := hS
    go_simp
    try with_reducible rfl
  conv in (Act.put _ _ _) => simp only [List.getElem_toArray, List.getElem_cons_succ, List.getElem_cons_zero, Act.put, List.setIfInBounds_toArray, List.set_cons_succ, List.set_cons_zero]
  refine wpAnyH_done (by kernel_rfl) ?_ _
  go_wp2_with fail
  rw [HQ.out] at HS
  refine Calls.mono (HS.out trivial) ?_
  rintro e w4 ⟨rfl, b4⟩
  have HB4 : Hid (Below w.heap.size w w4) := HB3.out.trans (b4.mono HB3.out.size)
  clear b4 HS
  go_wp2_with fail
  go_ret
  exact ⟨rfl, HB4.out⟩
end Go.Proofs.Ythneciodobeehaa.Rp
