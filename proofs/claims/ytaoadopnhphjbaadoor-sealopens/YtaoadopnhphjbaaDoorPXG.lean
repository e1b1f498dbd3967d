/- The reference's Put, Nonce and Get. -/
import Derived.Test.YtaoadopnhphjbaaDoorPXF
import Derived.Test.YtaoadopnhphjbaaDoorPWF
namespace Go.Proofs.YtaoadopnhphjbaaDoor.Rs
open Go.RowKit Go.Lib
def z4 : ByteArray := ⟨#[0, 0, 0, 0]⟩
set_option maxRecDepth 100000 in
theorem put_cat (h : Hd) : strOfNums (Rp.upto (le h.1) 4) ++ strOfNums (Rp.upto (le h.2.1) 4) ++ strOfNums (Rp.upto (le h.2.2.1) 4) ++ strOfNums (Rp.upto (le h.2.2.2) 8) ++ z4 = putS h := by
  have e : z4 = strOfNums (Rp.upto (le 0) 4) := by
    have z : ∀ i, le 0 i = 0 := fun i => by unfold le; simp
    simp [Rp.upto, List.range_succ, z, strOfNums, z4]
  rw [e, str_app, str_app, str_app, str_app, put_list]
  rfl
set_option maxRecDepth 100000 in
theorem nonce_cat (h : Hd) : strOfNums (Rp.upto (le h.2.2.1) 4) ++ strOfNums (Rp.upto (le h.2.2.2) 8) = nonceS h := by
  rw [str_app]
  have hz : (strOfNums (Rp.upto (le h.2.2.1) 4 ++ Rp.upto (le h.2.2.2) 8)).size = 12 := by rw [strOfNums_size, List.length_append, Rp.upto_length, Rp.upto_length]
  have el : Rp.upto (le h.2.2.1) 4 ++ Rp.upto (le h.2.2.2) 8 = Rp.upto (fun i => putN h (8 + i)) 12 := by simp [Rp.upto, List.range_succ, putN]
  refine Rp.bt_same _ _ (by rw [hz, nonce_size]) fun j hj => ?_
  rw [hz] at hj
  unfold nonceS
  rw [Rp.bt_ext _ _ _ _ (by rw [put_size]; omega), bt_put _ _ (by omega), el, Rp.bt_str (fun i => putN h (8 + i)) 12 j hj (putN_range h _).1 (putN_range h _).2]
set_option maxRecDepth 100000 in
set_option maxHeartbeats 2000000 in
theorem rPut_any (h : Hd) (hf : fits h) (w : World) :
    Calls Tryd.prog 14 #[hv h] w fun e w' => e = .returned (.string (putS h)) ∧ Below w.heap.size w w' := by
  have HC : Hid (strOfNums (Rp.upto (le h.1) 4) ++ strOfNums (Rp.upto (le h.2.1) 4) ++ strOfNums (Rp.upto (le h.2.2.1) 4) ++ strOfNums (Rp.upto (le h.2.2.2) 8) ++ z4 = putS h) := put_cat h
  obtain ⟨a, b, c, d⟩ := h
  obtain ⟨⟨a0, a1⟩, ⟨b0, b1⟩, ⟨c0, c1⟩, d0, d1⟩ := hf
  simp only at a0 a1 b0 b1 c0 c1 d0 d1 HC ⊢
  have P1 : Hid (∀ W, Calls Tryd.prog 26 #[.int .u64 a, .int .i64 4] W fun e w' => e = .returned (.string (strOfNums (Rp.upto (le a) 4))) ∧ Below W.heap.size W w') := rput_any a a0 (by omega) 4 (by omega)
  have P2 : Hid (∀ W, Calls Tryd.prog 26 #[.int .u64 b, .int .i64 4] W fun e w' => e = .returned (.string (strOfNums (Rp.upto (le b) 4))) ∧ Below W.heap.size W w') := rput_any b b0 (by omega) 4 (by omega)
  have P3 : Hid (∀ W, Calls Tryd.prog 26 #[.int .u64 c, .int .i64 4] W fun e w' => e = .returned (.string (strOfNums (Rp.upto (le c) 4))) ∧ Below W.heap.size W w') := rput_any c c0 (by omega) 4 (by omega)
  have P4 : Hid (∀ W, Calls Tryd.prog 26 #[.int .u64 d, .int .i64 8] W fun e w' => e = .returned (.string (strOfNums (Rp.upto (le d) 8))) ∧ Below W.heap.size W w') := rput_any d d0 d1 8 (by omega)
  have s1 : (strOfNums (Rp.upto (le a) 4)).size = 4 := by rw [strOfNums_size, Rp.upto_length]
  have s2 : (strOfNums (Rp.upto (le b) 4)).size = 4 := by rw [strOfNums_size, Rp.upto_length]
  have s3 : (strOfNums (Rp.upto (le c) 4)).size = 4 := by rw [strOfNums_size, Rp.upto_length]
  have s4 : (strOfNums (Rp.upto (le d) 8)).size = 8 := by rw [strOfNums_size, Rp.upto_length]
  generalize strOfNums (Rp.upto (le a) 4) = x1 at *
  generalize strOfNums (Rp.upto (le b) 4) = x2 at *
  generalize strOfNums (Rp.upto (le c) 4) = x3 at *
  generalize strOfNums (Rp.upto (le d) 8) = x4 at *
  generalize putS (a, b, c, d) = pu at *
  unfold hv
  simp only
  have wa : IntKind.u64.wrap a = a := by rw [IntKind.wrap_u64] <;> omega
  have wb : IntKind.u64.wrap b = b := by rw [IntKind.wrap_u64] <;> omega
  have wc : IntKind.u64.wrap c = c := by rw [IntKind.wrap_u64] <;> omega
  have wa : IntKind.u64.wrap a = a := by rw [IntKind.wrap_u64] <;> omega
  have wb : IntKind.u64.wrap b = b := by rw [IntKind.wrap_u64] <;> omega
  have wc : IntKind.u64.wrap c = c := by rw [IntKind.wrap_u64] <;> omega
  go_enter Tryd.func14, Tryd.ntmps14
  go_wp2_with fail
  obtain ⟨w1, hw1⟩ : ∃ w1, w.alloc (.cells #[.int .u32 a, .int .u32 b, .int .u32 c, .int .u64 d] 25) = w1 := ⟨_, rfl⟩
  have B1 : Hid (Below w.heap.size w w1) := by rw [← hw1]; exact (Below.refl _ w).alloc (Nat.le_refl _) _
  have X1 : Hid (w1.heap[w.heap.size]? = some (.cells #[.int .u32 a, .int .u32 b, .int .u32 c, .int .u64 d] 25 (0, 0))) := by rw [← hw1]; exact heap_alloc_new w _
  have l1 : w.heap.size < w1.heap.size := (Array.getElem?_eq_some_iff.1 X1.out).1
  rw [hw1]
  clear hw1
  have HC' : Hid (∀ w', Below w1.heap.size w1 w' → w'.cell? ⟨w.heap.size, 0, none⟩ = some (.int .u32 a) ∧ w'.cell? ⟨w.heap.size, 1, none⟩ = some (.int .u32 b) ∧ w'.cell? ⟨w.heap.size, 2, none⟩ = some (.int .u32 c) ∧ w'.cell? ⟨w.heap.size, 3, none⟩ = some (.int .u64 d)) := fun W hB => by
    have hV := (hB.block _ l1).trans X1.out
    exact ⟨by rw [cell_of_row _ _ _ _ _ _ hV]; rfl, by rw [cell_of_row _ _ _ _ _ _ hV]; rfl, by rw [cell_of_row _ _ _ _ _ _ hV]; rfl, by rw [cell_of_row _ _ _ _ _ _ hV]; rfl⟩
  refine wp_region_held (S := fun w' => w'.cell? ⟨w.heap.size, 0, none⟩ = some (.int .u32 a) ∧ w'.cell? ⟨w.heap.size, 1, none⟩ = some (.int .u32 b) ∧ w'.cell? ⟨w.heap.size, 2, none⟩ = some (.int .u32 c) ∧ w'.cell? ⟨w.heap.size, 3, none⟩ = some (.int .u64 d)) (by kernel_rfl) ?_
  change wpAnyH _ _ _ _ _ _ _ _ (World.drew _)
  obtain ⟨w2, hw2⟩ : ∃ w2, w1.drew = w2 := ⟨_, rfl⟩
  have Dw2 : Hid (Below w1.heap.size w1 w2) := by rw [← hw2]; exact (Below.refl _ _).drew
  rw [hw2]
  clear hw2
  have HSW : Hid _ := HC'.out w2 Dw2.out
  refine wpAnyH_take (i := 0) (v := ?_) rfl (by kernel_rfl) (by kernel_rfl) (by kernel_rfl) (fun _ _ _ h => h) (Or.inl ⟨by kernel_rfl, ?_⟩) HSW.out ?_
  rotate_left
  · intro w hS
    obtain ⟨e1, e2, e3, e4⟩ := hS
    go_simp
    try with_reducible rfl
  conv in (Act.put _ _ _) => simp only [List.getElem_toArray, List.getElem_cons_succ, List.getElem_cons_zero, Act.put, List.setIfInBounds_toArray, List.set_cons_succ, List.set_cons_zero]
  refine wpAnyH_take (i := 1) (v := ?_) rfl (by kernel_rfl) (by kernel_rfl) (by kernel_rfl) (fun _ _ _ h => h) (Or.inl ⟨by kernel_rfl, ?_⟩) HSW.out ?_
  rotate_left
  · intro w hS
    obtain ⟨e1, e2, e3, e4⟩ := hS
    go_simp
    try with_reducible rfl
  conv in (Act.put _ _ _) => simp only [List.getElem_toArray, List.getElem_cons_succ, List.getElem_cons_zero, Act.put, List.setIfInBounds_toArray, List.set_cons_succ, List.set_cons_zero]
  refine wpAnyH_take (i := 2) (v := ?_) rfl (by kernel_rfl) (by kernel_rfl) (by kernel_rfl) (fun _ _ _ h => h) (Or.inl ⟨by kernel_rfl, ?_⟩) HSW.out ?_
  rotate_left
  · intro w hS
    obtain ⟨e1, e2, e3, e4⟩ := hS
    go_simp
    try with_reducible rfl
  conv in (Act.put _ _ _) => simp only [List.getElem_toArray, List.getElem_cons_succ, List.getElem_cons_zero, Act.put, List.setIfInBounds_toArray, List.set_cons_succ, List.set_cons_zero]
  refine wpAnyH_take (i := 4) (v := ?_) rfl (by kernel_rfl) (by kernel_rfl) (by kernel_rfl) (fun _ _ _ h => h) (Or.inl ⟨by kernel_rfl, ?_⟩) HSW.out ?_
  rotate_left
  · intro w hS
    obtain ⟨e1, e2, e3, e4⟩ := hS
    go_simp
    try with_reducible rfl
  conv in (Act.put _ _ _) => simp only [List.getElem_toArray, List.getElem_cons_succ, List.getElem_cons_zero, Act.put, List.setIfInBounds_toArray, List.set_cons_succ, List.set_cons_zero]
  refine wpAnyH_take (i := 5) (v := ?_) rfl (by kernel_rfl) (by kernel_rfl) (by kernel_rfl) (fun _ _ _ h => h) (Or.inl ⟨by kernel_rfl, ?_⟩) HSW.out ?_
  rotate_left
  · intro w hS
    obtain ⟨e1, e2, e3, e4⟩ := hS
    go_simp
    try with_reducible rfl
  conv in (Act.put _ _ _) => simp only [List.getElem_toArray, List.getElem_cons_succ, List.getElem_cons_zero, Act.put, List.setIfInBounds_toArray, List.set_cons_succ, List.set_cons_zero]
  refine wpAnyH_take (i := 6) (v := ?_) rfl (by kernel_rfl) (by kernel_rfl) (by kernel_rfl) (fun _ _ _ h => h) (Or.inl ⟨by kernel_rfl, ?_⟩) HSW.out ?_
  rotate_left
  · intro w hS
    obtain ⟨e1, e2, e3, e4⟩ := hS
    go_simp
    try with_reducible rfl
  conv in (Act.put _ _ _) => simp only [List.getElem_toArray, List.getElem_cons_succ, List.getElem_cons_zero, Act.put, List.setIfInBounds_toArray, List.set_cons_succ, List.set_cons_zero]
  refine wpAnyH_take (i := 9) (v := ?_) rfl (by kernel_rfl) (by kernel_rfl) (by kernel_rfl) (fun _ _ _ h => h) (Or.inl ⟨by kernel_rfl, ?_⟩) HSW.out ?_
  rotate_left
  · intro w hS
    obtain ⟨e1, e2, e3, e4⟩ := hS
    go_simp
    try with_reducible rfl
  conv in (Act.put _ _ _) => simp only [List.getElem_toArray, List.getElem_cons_succ, List.getElem_cons_zero, Act.put, List.setIfInBounds_toArray, List.set_cons_succ, List.set_cons_zero]
  refine wpAnyH_take (i := 10) (v := ?_) rfl (by kernel_rfl) (by kernel_rfl) (by kernel_rfl) (fun _ _ _ h => h) (Or.inl ⟨by kernel_rfl, ?_⟩) HSW.out ?_
  rotate_left
  · intro w hS
    obtain ⟨e1, e2, e3, e4⟩ := hS
    go_simp
    try with_reducible rfl
  conv in (Act.put _ _ _) => simp only [List.getElem_toArray, List.getElem_cons_succ, List.getElem_cons_zero, Act.put, List.setIfInBounds_toArray, List.set_cons_succ, List.set_cons_zero]
  refine wpAnyH_take (i := 11) (v := ?_) rfl (by kernel_rfl) (by kernel_rfl) (by kernel_rfl) (fun _ _ _ h => h) (Or.inl ⟨by kernel_rfl, ?_⟩) HSW.out ?_
  rotate_left
  · intro w hS
    obtain ⟨e1, e2, e3, e4⟩ := hS
    go_simp
    try with_reducible rfl
  conv in (Act.put _ _ _) => simp only [List.getElem_toArray, List.getElem_cons_succ, List.getElem_cons_zero, Act.put, List.setIfInBounds_toArray, List.set_cons_succ, List.set_cons_zero]
  refine wpAnyH_take (i := 14) (v := ?_) rfl (by kernel_rfl) (by kernel_rfl) (by kernel_rfl) (fun _ _ _ h => h) (Or.inl ⟨by kernel_rfl, ?_⟩) HSW.out ?_
  rotate_left
  · intro w hS
    obtain ⟨e1, e2, e3, e4⟩ := hS
    go_simp
    try with_reducible rfl
  conv in (Act.put _ _ _) => simp only [List.getElem_toArray, List.getElem_cons_succ, List.getElem_cons_zero, Act.put, List.setIfInBounds_toArray, List.set_cons_succ, List.set_cons_zero]
  refine wpAnyH_take (i := 15) (v := ?_) rfl (by kernel_rfl) (by kernel_rfl) (by kernel_rfl) (fun _ _ _ h => h) (Or.inl ⟨by kernel_rfl, ?_⟩) HSW.out ?_
  rotate_left
  · intro w hS
    obtain ⟨e1, e2, e3, e4⟩ := hS
    go_simp
    try with_reducible rfl
  conv in (Act.put _ _ _) => simp only [List.getElem_toArray, List.getElem_cons_succ, List.getElem_cons_zero, Act.put, List.setIfInBounds_toArray, List.set_cons_succ, List.set_cons_zero]
  refine readyH 3 _ (by kernel_rfl) rfl (by kernel_rfl) (fun K hK => ?_)
  go_simp
  refine (P1.out w2).mono ?_
  rintro e w3 ⟨rfl, bw3⟩
  have Dw3 : Hid (Below w1.heap.size w1 w3) := Dw2.out.trans (bw3.mono Dw2.out.size)
  clear bw3 HSW
  refine hK _ _ (HC'.out w3 Dw3.out) ?_
  clear hK K
  have HSW : Hid _ := HC'.out w3 Dw3.out
  refine readyH 7 _ (by kernel_rfl) rfl (by kernel_rfl) (fun K hK => ?_)
  go_simp
  refine (P2.out w3).mono ?_
  rintro e w4 ⟨rfl, bw4⟩
  have Dw4 : Hid (Below w1.heap.size w1 w4) := Dw3.out.trans (bw4.mono Dw3.out.size)
  clear bw4 HSW
  refine hK _ _ (HC'.out w4 Dw4.out) ?_
  clear hK K
  have HSW : Hid _ := HC'.out w4 Dw4.out
  refine wpAnyH_take (i := 8) (v := ?_) rfl (by kernel_rfl) (by kernel_rfl) (by kernel_rfl) (fun _ _ _ h => h) (Or.inl ⟨by kernel_rfl, ?_⟩) HSW.out ?_
  rotate_left
  · intro w hS
    obtain ⟨e1, e2, e3, e4⟩ := hS
    go_simp
    try with_reducible rfl
  conv in (Act.put _ _ _) => simp only [List.getElem_toArray, List.getElem_cons_succ, List.getElem_cons_zero, Act.put, List.setIfInBounds_toArray, List.set_cons_succ, List.set_cons_zero]
  refine readyH 12 _ (by kernel_rfl) rfl (by kernel_rfl) (fun K hK => ?_)
  go_simp
  refine (P3.out w4).mono ?_
  rintro e w5 ⟨rfl, bw5⟩
  have Dw5 : Hid (Below w1.heap.size w1 w5) := Dw4.out.trans (bw5.mono Dw4.out.size)
  clear bw5 HSW
  refine hK _ _ (HC'.out w5 Dw5.out) ?_
  clear hK K
  have HSW : Hid _ := HC'.out w5 Dw5.out
  refine wpAnyH_take (i := 13) (v := ?_) rfl (by kernel_rfl) (by kernel_rfl) (by kernel_rfl) (fun _ _ _ h => h) (Or.inl ⟨by kernel_rfl, ?_⟩) HSW.out ?_
  rotate_left
  · intro w hS
    obtain ⟨e1, e2, e3, e4⟩ := hS
    go_simp
    try with_reducible rfl
  conv in (Act.put _ _ _) => simp only [List.getElem_toArray, List.getElem_cons_succ, List.getElem_cons_zero, Act.put, List.setIfInBounds_toArray, List.set_cons_succ, List.set_cons_zero]
  refine readyH 16 _ (by kernel_rfl) rfl (by kernel_rfl) (fun K hK => ?_)
  go_simp
  refine (P4.out w5).mono ?_
  rintro e w6 ⟨rfl, bw6⟩
  have Dw6 : Hid (Below w1.heap.size w1 w6) := Dw5.out.trans (bw6.mono Dw5.out.size)
  clear bw6 HSW
  refine hK _ _ (HC'.out w6 Dw6.out) ?_
  clear hK K
  have HSW : Hid _ := HC'.out w6 Dw6.out
  refine wpAnyH_take (i := 17) (v := ?_) rfl (by kernel_rfl) (by kernel_rfl) (by kernel_rfl) (fun _ _ _ h => h) (Or.inl ⟨by kernel_rfl, ?_⟩) HSW.out ?_
  rotate_left
  · intro w hS
    obtain ⟨e1, e2, e3, e4⟩ := hS
    go_simp
    try with_reducible rfl
  conv in (Act.put _ _ _) => simp only [List.getElem_toArray, List.getElem_cons_succ, List.getElem_cons_zero, Act.put, List.setIfInBounds_toArray, List.set_cons_succ, List.set_cons_zero]
  refine wpAnyH_take (i := 18) (v := ?_) rfl (by kernel_rfl) (by kernel_rfl) (by kernel_rfl) (fun _ _ _ h => h) (Or.inl ⟨by kernel_rfl, ?_⟩) HSW.out ?_
  rotate_left
  · intro w hS
    obtain ⟨e1, e2, e3, e4⟩ := hS
    go_simp
    try with_reducible rfl
  conv in (Act.put _ _ _) => simp only [List.getElem_toArray, List.getElem_cons_succ, List.getElem_cons_zero, Act.put, List.setIfInBounds_toArray, List.set_cons_succ, List.set_cons_zero]
  refine readyH 19 _ (by kernel_rfl) rfl (by kernel_rfl) (fun K hK => ?_)
  go_simp
  refine hK _ _ HSW.out ?_
  clear hK K
  refine wpAnyH_done (by kernel_rfl) ?_ _
  go_wp2_with fail
  go_ret
  exact ⟨by rw [← HC.out]; rfl, B1.out.trans (Dw6.out.mono B1.out.size)⟩
set_option maxRecDepth 100000 in
set_option maxHeartbeats 2000000 in
theorem rNonce_any (h : Hd) (hf : fits h) (w : World) :
    Calls Tryd.prog 39 #[hv h] w fun e w' => e = .returned (.string (nonceS h)) ∧ Below w.heap.size w w' := by
  have HC : Hid (strOfNums (Rp.upto (le h.2.2.1) 4) ++ strOfNums (Rp.upto (le h.2.2.2) 8) = nonceS h) := nonce_cat h
  obtain ⟨a, b, c, d⟩ := h
  obtain ⟨⟨a0, a1⟩, ⟨b0, b1⟩, ⟨c0, c1⟩, d0, d1⟩ := hf
  simp only at a0 a1 b0 b1 c0 c1 d0 d1 HC ⊢
  have P3 : Hid (∀ W, Calls Tryd.prog 26 #[.int .u64 c, .int .i64 4] W fun e w' => e = .returned (.string (strOfNums (Rp.upto (le c) 4))) ∧ Below W.heap.size W w') := rput_any c c0 (by omega) 4 (by omega)
  have P4 : Hid (∀ W, Calls Tryd.prog 26 #[.int .u64 d, .int .i64 8] W fun e w' => e = .returned (.string (strOfNums (Rp.upto (le d) 8))) ∧ Below W.heap.size W w') := rput_any d d0 d1 8 (by omega)
  have s3 : (strOfNums (Rp.upto (le c) 4)).size = 4 := by rw [strOfNums_size, Rp.upto_length]
  have s4 : (strOfNums (Rp.upto (le d) 8)).size = 8 := by rw [strOfNums_size, Rp.upto_length]
  generalize strOfNums (Rp.upto (le c) 4) = x3 at *
  generalize strOfNums (Rp.upto (le d) 8) = x4 at *
  generalize nonceS (a, b, c, d) = no at *
  unfold hv
  simp only
  have wa : IntKind.u64.wrap a = a := by rw [IntKind.wrap_u64] <;> omega
  have wb : IntKind.u64.wrap b = b := by rw [IntKind.wrap_u64] <;> omega
  have wc : IntKind.u64.wrap c = c := by rw [IntKind.wrap_u64] <;> omega
  go_enter Tryd.func39, Tryd.ntmps39
  go_wp2_with fail
  obtain ⟨w1, hw1⟩ : ∃ w1, w.alloc (.cells #[.int .u32 a, .int .u32 b, .int .u32 c, .int .u64 d] 25) = w1 := ⟨_, rfl⟩
  have B1 : Hid (Below w.heap.size w w1) := by rw [← hw1]; exact (Below.refl _ w).alloc (Nat.le_refl _) _
  have X1 : Hid (w1.heap[w.heap.size]? = some (.cells #[.int .u32 a, .int .u32 b, .int .u32 c, .int .u64 d] 25 (0, 0))) := by rw [← hw1]; exact heap_alloc_new w _
  have l1 : w.heap.size < w1.heap.size := (Array.getElem?_eq_some_iff.1 X1.out).1
  rw [hw1]
  clear hw1
  have HC' : Hid (∀ w', Below w1.heap.size w1 w' → w'.cell? ⟨w.heap.size, 0, none⟩ = some (.int .u32 a) ∧ w'.cell? ⟨w.heap.size, 1, none⟩ = some (.int .u32 b) ∧ w'.cell? ⟨w.heap.size, 2, none⟩ = some (.int .u32 c) ∧ w'.cell? ⟨w.heap.size, 3, none⟩ = some (.int .u64 d)) := fun W hB => by
    have hV := (hB.block _ l1).trans X1.out
    exact ⟨by rw [cell_of_row _ _ _ _ _ _ hV]; rfl, by rw [cell_of_row _ _ _ _ _ _ hV]; rfl, by rw [cell_of_row _ _ _ _ _ _ hV]; rfl, by rw [cell_of_row _ _ _ _ _ _ hV]; rfl⟩
  refine wp_region_held (S := fun w' => w'.cell? ⟨w.heap.size, 0, none⟩ = some (.int .u32 a) ∧ w'.cell? ⟨w.heap.size, 1, none⟩ = some (.int .u32 b) ∧ w'.cell? ⟨w.heap.size, 2, none⟩ = some (.int .u32 c) ∧ w'.cell? ⟨w.heap.size, 3, none⟩ = some (.int .u64 d)) (by kernel_rfl) ?_
  change wpAnyH _ _ _ _ _ _ _ _ (World.drew _)
  obtain ⟨w2, hw2⟩ : ∃ w2, w1.drew = w2 := ⟨_, rfl⟩
  have Dw2 : Hid (Below w1.heap.size w1 w2) := by rw [← hw2]; exact (Below.refl _ _).drew
  rw [hw2]
  clear hw2
  have HSW : Hid _ := HC'.out w2 Dw2.out
  refine wpAnyH_take (i := 0) (v := ?_) rfl (by kernel_rfl) (by kernel_rfl) (by kernel_rfl) (fun _ _ _ h => h) (Or.inl ⟨by kernel_rfl, ?_⟩) HSW.out ?_
  rotate_left
  · intro w hS
    obtain ⟨e1, e2, e3, e4⟩ := hS
    go_simp
    try with_reducible rfl
  conv in (Act.put _ _ _) => simp only [List.getElem_toArray, List.getElem_cons_succ, List.getElem_cons_zero, Act.put, List.setIfInBounds_toArray, List.set_cons_succ, List.set_cons_zero]
  refine wpAnyH_take (i := 1) (v := ?_) rfl (by kernel_rfl) (by kernel_rfl) (by kernel_rfl) (fun _ _ _ h => h) (Or.inl ⟨by kernel_rfl, ?_⟩) HSW.out ?_
  rotate_left
  · intro w hS
    obtain ⟨e1, e2, e3, e4⟩ := hS
    go_simp
    try with_reducible rfl
  conv in (Act.put _ _ _) => simp only [List.getElem_toArray, List.getElem_cons_succ, List.getElem_cons_zero, Act.put, List.setIfInBounds_toArray, List.set_cons_succ, List.set_cons_zero]
  refine wpAnyH_take (i := 2) (v := ?_) rfl (by kernel_rfl) (by kernel_rfl) (by kernel_rfl) (fun _ _ _ h => h) (Or.inl ⟨by kernel_rfl, ?_⟩) HSW.out ?_
  rotate_left
  · intro w hS
    obtain ⟨e1, e2, e3, e4⟩ := hS
    go_simp
    try with_reducible rfl
  conv in (Act.put _ _ _) => simp only [List.getElem_toArray, List.getElem_cons_succ, List.getElem_cons_zero, Act.put, List.setIfInBounds_toArray, List.set_cons_succ, List.set_cons_zero]
  refine wpAnyH_take (i := 4) (v := ?_) rfl (by kernel_rfl) (by kernel_rfl) (by kernel_rfl) (fun _ _ _ h => h) (Or.inl ⟨by kernel_rfl, ?_⟩) HSW.out ?_
  rotate_left
  · intro w hS
    obtain ⟨e1, e2, e3, e4⟩ := hS
    go_simp
    try with_reducible rfl
  conv in (Act.put _ _ _) => simp only [List.getElem_toArray, List.getElem_cons_succ, List.getElem_cons_zero, Act.put, List.setIfInBounds_toArray, List.set_cons_succ, List.set_cons_zero]
  refine wpAnyH_take (i := 5) (v := ?_) rfl (by kernel_rfl) (by kernel_rfl) (by kernel_rfl) (fun _ _ _ h => h) (Or.inl ⟨by kernel_rfl, ?_⟩) HSW.out ?_
  rotate_left
  · intro w hS
    obtain ⟨e1, e2, e3, e4⟩ := hS
    go_simp
    try with_reducible rfl
  conv in (Act.put _ _ _) => simp only [List.getElem_toArray, List.getElem_cons_succ, List.getElem_cons_zero, Act.put, List.setIfInBounds_toArray, List.set_cons_succ, List.set_cons_zero]
  refine readyH 3 _ (by kernel_rfl) rfl (by kernel_rfl) (fun K hK => ?_)
  go_simp
  refine (P3.out w2).mono ?_
  rintro e w3 ⟨rfl, bw3⟩
  have Dw3 : Hid (Below w1.heap.size w1 w3) := Dw2.out.trans (bw3.mono Dw2.out.size)
  clear bw3 HSW
  refine hK _ _ (HC'.out w3 Dw3.out) ?_
  clear hK K
  have HSW : Hid _ := HC'.out w3 Dw3.out
  refine readyH 6 _ (by kernel_rfl) rfl (by kernel_rfl) (fun K hK => ?_)
  go_simp
  refine (P4.out w3).mono ?_
  rintro e w4 ⟨rfl, bw4⟩
  have Dw4 : Hid (Below w1.heap.size w1 w4) := Dw3.out.trans (bw4.mono Dw3.out.size)
  clear bw4 HSW
  refine hK _ _ (HC'.out w4 Dw4.out) ?_
  clear hK K
  have HSW : Hid _ := HC'.out w4 Dw4.out
  refine wpAnyH_take (i := 7) (v := ?_) rfl (by kernel_rfl) (by kernel_rfl) (by kernel_rfl) (fun _ _ _ h => h) (Or.inl ⟨by kernel_rfl, ?_⟩) HSW.out ?_
  rotate_left
  · intro w hS
    obtain ⟨e1, e2, e3, e4⟩ := hS
    go_simp
    try with_reducible rfl
  conv in (Act.put _ _ _) => simp only [List.getElem_toArray, List.getElem_cons_succ, List.getElem_cons_zero, Act.put, List.setIfInBounds_toArray, List.set_cons_succ, List.set_cons_zero]
  refine readyH 8 _ (by kernel_rfl) rfl (by kernel_rfl) (fun K hK => ?_)
  go_simp
  refine hK _ _ HSW.out ?_
  clear hK K
  refine wpAnyH_done (by kernel_rfl) ?_ _
  go_wp2_with fail
  go_ret
  exact ⟨by rw [← HC.out]; rfl, B1.out.trans (Dw4.out.mono B1.out.size)⟩
end Go.Proofs.YtaoadopnhphjbaaDoor.Rs
