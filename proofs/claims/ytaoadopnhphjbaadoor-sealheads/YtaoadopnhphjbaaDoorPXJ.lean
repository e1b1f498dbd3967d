/- SealHeads: the walk. -/
import Derived.Test.YtaoadopnhphjbaaDoorPWL
import Derived.Test.YtaoadopnhphjbaaDoorPXI
namespace Go.Proofs.YtaoadopnhphjbaaDoor.Rs
open Go.RowKit Go.Lib
set_option maxRecDepth 100000 in
theorem eql_bools (x : Bool) (w : World) : (binOp .eql 4 (.bool x) (.bool x)).run Tryd.prog w = .ok (.bool true) w := by
  cases x <;> rfl
set_option maxRecDepth 100000 in
set_option maxHeartbeats 4000000 in
theorem sealHeads_walk (Kt : Nat → Int) (h : Hd) (hf : fits h) (s : ByteArray) (hs : s.size ≤ maxLen) (w : World) (hT : Tb Kt w) :
    Calls Tryd.prog 3 #[hv h, .string s] w fun e w' => e = .returned (.bool true) ∧ Below w.heap.size w w' := by
  have HT : Hid (Tb Kt w) := hT
  have P1 : Hid (∀ W, Calls Tryd.prog 13 #[hv h] W fun e w' => e = .returned (.string (putS h)) ∧ Below W.heap.size W w') := put_any h hf
  have P2 : Hid (∀ W, Calls Tryd.prog 14 #[hv h] W fun e w' => e = .returned (.string (putS h)) ∧ Below W.heap.size W w') := rPut_any h hf
  have G1 : Hid (∀ W, Calls Tryd.prog 11 #[.string s] W fun e w' => e = .returned (.tuple #[hv (gv s), .bool (gk s)]) ∧ Below W.heap.size W w') := get_any s
  have G2 : Hid (∀ W, Calls Tryd.prog 12 #[.string s] W fun e w' => e = .returned (.tuple #[hv (gv s), .bool (gk s)]) ∧ Below W.heap.size W w') := rGet_any s
  have HG : Hid (∀ W, Calls Tryd.prog 15 #[.string s] W fun e w' => e = .returned (.string (tagS s)) ∧ w' = W) := tag_any s hs
  have HEQ : Hid (∀ w, (binOp .eql 25 (hv (gv s)) (hv (gv s))).run Tryd.prog w = .ok (.bool true) w) := fun w => by
    have := eql_heads (gv s) (gv s) w
    rw [decide_eq_true rfl] at this
    exact this
  unfold maxLen at hs
  have h0 : (0 : Int) ≤ (s.size : Int) := by omega
  have h1 : (s.size : Int) ≤ 9223372036854775807 := by omega
  obtain ⟨n, hn⟩ : ∃ n, s.size - 32 = n := ⟨_, rfl⟩
  have hmx : (if (0 : Int) < (s.size : Int) - 32 then (s.size : Int) - 32 else 0) = (n : Int) := by split <;> omega
  have hmx2 : (if (32 : Int) < (s.size : Int) then (s.size : Int) - 32 else 0) = (n : Int) := by split <;> omega
  have hE : ∀ w, (Instr.sliceAt 9 (.string s) (some (.int .i64 (n : Int))) none none).run Tryd.prog w = .ok (.string (tagS s)) w := fun w => by
    have hnb : n ≤ s.size := by omega
    simp [Instr.sliceAt, Instr.slice, run_underlying Tryd.underlying9, go_sem]
    unfold tagS
    rw [hn]
    simp [hnb]
  have hbb : ∀ w, (binOp .eql 4 (.bool (gk s)) (.bool (gk s))).run Tryd.prog w = .ok (.bool true) w := eql_bools _
  clear hn hT hf
  generalize tagS s = ta at *
  generalize putS h = pu at *
  generalize gk s = gkk at *
  generalize gv s = gvv at *
  have HTB : Hid (∀ W, Below w.heap.size w W → Tb Kt W) := fun W hB => HT.out.below hB (Nat.le_refl _)
  clear HT
  obtain ⟨a, b', c, d⟩ := h
  obtain ⟨x1, x2, x3, x4⟩ := gvv
  unfold hv at *
  simp only at P1 P2 G1 G2 HEQ ⊢
  go_enter Tryd.func3, Tryd.ntmps3
  go_wp2_with fail
  obtain ⟨w1, hw1⟩ : ∃ w1, w.alloc (.cells #[.int .u32 a, .int .u32 b', .int .u32 c, .int .u64 d] 25) = w1 := ⟨_, rfl⟩
  have D1 : Hid (Below w.heap.size w w1) := by rw [← hw1]; exact (Below.refl _ w).alloc (Nat.le_refl _) _
  have X1 : Hid (w1.heap[w.heap.size]? = some (.cells #[.int .u32 a, .int .u32 b', .int .u32 c, .int .u64 d] 25 (0, 0))) := by rw [← hw1]; exact heap_alloc_new w _
  rw [hw1]
  clear hw1
  refine (shown_any Kt w1 (HTB.out w1 D1.out)).mono ?_
  rintro e w2 ⟨rfl, b2⟩
  have D2 : Hid (Below w.heap.size w w2) := D1.out.trans (b2.mono D1.out.size)
  have X2 : Hid (w2.heap[w.heap.size]? = some (.cells #[.int .u32 a, .int .u32 b', .int .u32 c, .int .u64 d] 25 (0, 0))) := (b2.block _ (Array.getElem?_eq_some_iff.1 X1.out).1).trans X1.out
  clear b2 D1 X1
  go_wp2_with fail
  refine (G1.out w2).mono ?_
  rintro e w3 ⟨rfl, b3⟩
  have D3 : Hid (Below w.heap.size w w3) := D2.out.trans (b3.mono D2.out.size)
  have X3 : Hid (w3.heap[w.heap.size]? = some (.cells #[.int .u32 a, .int .u32 b', .int .u32 c, .int .u64 d] 25 (0, 0))) := (b3.block _ (Array.getElem?_eq_some_iff.1 X2.out).1).trans X2.out
  clear b3 D2 X2 G1
  go_wp2_with fail
  obtain ⟨w4, hw4⟩ : ∃ w4, w3.alloc (.cells #[.int .u32 x1, .int .u32 x2, .int .u32 x3, .int .u64 x4] 25) = w4 := ⟨_, rfl⟩
  have b4 : Below w3.heap.size w3 w4 := by rw [← hw4]; exact (Below.refl _ w3).alloc (Nat.le_refl _) _
  have D4 : Hid (Below w.heap.size w w4) := D3.out.trans (b4.mono D3.out.size)
  have X4 : Hid (w4.heap[w.heap.size]? = some (.cells #[.int .u32 a, .int .u32 b', .int .u32 c, .int .u64 d] 25 (0, 0))) := (b4.block _ (Array.getElem?_eq_some_iff.1 X3.out).1).trans X3.out
  have Y4 : Hid (w4.heap[w3.heap.size]? = some (.cells #[.int .u32 x1, .int .u32 x2, .int .u32 x3, .int .u64 x4] 25 (0, 0))) := by rw [← hw4]; exact heap_alloc_new w3 _
  rw [hw4]
  clear hw4 b4 D3 X3
  refine (G2.out w4).mono ?_
  rintro e w5 ⟨rfl, b5⟩
  have D5 : Hid (Below w.heap.size w w5) := D4.out.trans (b5.mono D4.out.size)
  have X5 : Hid (w5.heap[w.heap.size]? = some (.cells #[.int .u32 a, .int .u32 b', .int .u32 c, .int .u64 d] 25 (0, 0))) := (b5.block _ (Array.getElem?_eq_some_iff.1 X4.out).1).trans X4.out
  have Y5 : Hid (w5.heap[w3.heap.size]? = some (.cells #[.int .u32 x1, .int .u32 x2, .int .u32 x3, .int .u64 x4] 25 (0, 0))) := (b5.block _ (Array.getElem?_eq_some_iff.1 Y4.out).1).trans Y4.out
  clear b5 D4 X4 Y4 G2
  go_wp2_with fail
  obtain ⟨w6, hw6⟩ : ∃ w6, w5.alloc (.cells #[.int .u32 x1, .int .u32 x2, .int .u32 x3, .int .u64 x4] 25) = w6 := ⟨_, rfl⟩
  have b6 : Below w5.heap.size w5 w6 := by rw [← hw6]; exact (Below.refl _ w5).alloc (Nat.le_refl _) _
  have D6 : Hid (Below w.heap.size w w6) := D5.out.trans (b6.mono D5.out.size)
  have X6 : Hid (w6.heap[w.heap.size]? = some (.cells #[.int .u32 a, .int .u32 b', .int .u32 c, .int .u64 d] 25 (0, 0))) := (b6.block _ (Array.getElem?_eq_some_iff.1 X5.out).1).trans X5.out
  have Y6 : Hid (w6.heap[w3.heap.size]? = some (.cells #[.int .u32 x1, .int .u32 x2, .int .u32 x3, .int .u64 x4] 25 (0, 0))) := (b6.block _ (Array.getElem?_eq_some_iff.1 Y5.out).1).trans Y5.out
  have Z6 : Hid (w6.heap[w5.heap.size]? = some (.cells #[.int .u32 x1, .int .u32 x2, .int .u32 x3, .int .u64 x4] 25 (0, 0))) := by rw [← hw6]; exact heap_alloc_new w5 _
  rw [hw6]
  clear hw6 b6 D5 X5 Y5
  have HC : Hid (∀ w', Below w6.heap.size w6 w' → w'.cell? ⟨w.heap.size, 0, none⟩ = some (.int .u32 a) ∧ w'.cell? ⟨w.heap.size, 1, none⟩ = some (.int .u32 b') ∧ w'.cell? ⟨w.heap.size, 2, none⟩ = some (.int .u32 c) ∧ w'.cell? ⟨w.heap.size, 3, none⟩ = some (.int .u64 d) ∧ w'.cell? ⟨w3.heap.size, 0, none⟩ = some (.int .u32 x1) ∧ w'.cell? ⟨w3.heap.size, 1, none⟩ = some (.int .u32 x2) ∧ w'.cell? ⟨w3.heap.size, 2, none⟩ = some (.int .u32 x3) ∧ w'.cell? ⟨w3.heap.size, 3, none⟩ = some (.int .u64 x4) ∧ w'.cell? ⟨w5.heap.size, 0, none⟩ = some (.int .u32 x1) ∧ w'.cell? ⟨w5.heap.size, 1, none⟩ = some (.int .u32 x2) ∧ w'.cell? ⟨w5.heap.size, 2, none⟩ = some (.int .u32 x3) ∧ w'.cell? ⟨w5.heap.size, 3, none⟩ = some (.int .u64 x4)) := fun W hB => by
    obtain ⟨p0, p1, p2, p3, _, _, _, _⟩ := four_cells ((hB.block _ (Array.getElem?_eq_some_iff.1 X6.out).1).trans X6.out)
    obtain ⟨q0, q1, q2, q3, _, _, _, _⟩ := four_cells ((hB.block _ (Array.getElem?_eq_some_iff.1 Y6.out).1).trans Y6.out)
    obtain ⟨r0, r1, r2, r3, _, _, _, _⟩ := four_cells ((hB.block _ (Array.getElem?_eq_some_iff.1 Z6.out).1).trans Z6.out)
    exact ⟨p0, p1, p2, p3, q0, q1, q2, q3, r0, r1, r2, r3⟩
  have heq := HEQ.out
  have hwr : IntKind.i64.wrap ((s.size : Int) - 32) = (s.size : Int) - 32 := by rw [IntKind.wrap_i64] <;> omega
  refine wp_region_held (S := fun w' => w'.cell? ⟨w.heap.size, 0, none⟩ = some (.int .u32 a) ∧ w'.cell? ⟨w.heap.size, 1, none⟩ = some (.int .u32 b') ∧ w'.cell? ⟨w.heap.size, 2, none⟩ = some (.int .u32 c) ∧ w'.cell? ⟨w.heap.size, 3, none⟩ = some (.int .u64 d) ∧ w'.cell? ⟨w3.heap.size, 0, none⟩ = some (.int .u32 x1) ∧ w'.cell? ⟨w3.heap.size, 1, none⟩ = some (.int .u32 x2) ∧ w'.cell? ⟨w3.heap.size, 2, none⟩ = some (.int .u32 x3) ∧ w'.cell? ⟨w3.heap.size, 3, none⟩ = some (.int .u64 x4) ∧ w'.cell? ⟨w5.heap.size, 0, none⟩ = some (.int .u32 x1) ∧ w'.cell? ⟨w5.heap.size, 1, none⟩ = some (.int .u32 x2) ∧ w'.cell? ⟨w5.heap.size, 2, none⟩ = some (.int .u32 x3) ∧ w'.cell? ⟨w5.heap.size, 3, none⟩ = some (.int .u64 x4)) (by kernel_rfl) ?_
  change wpAnyH _ _ _ _ _ _ _ _ (World.drew _)
  obtain ⟨v0, hv0⟩ : ∃ v0, w6.drew = v0 := ⟨_, rfl⟩
  have F0 : Hid (Below w6.heap.size w6 v0) := by rw [← hv0]; exact (Below.refl _ _).drew
  rw [hv0]
  clear hv0
  have HSW : Hid _ := HC.out v0 F0.out
  refine wpAnyH_take (i := 0) (v := ?_) rfl (by kernel_rfl) (by kernel_rfl) (by kernel_rfl) (fun _ _ _ h => h) (Or.inl ⟨by kernel_rfl, ?_⟩) HSW.out ?_
  rotate_left
  · intro w hS
    obtain ⟨e1, e2, e3, e4, e5, e6, e7, e8, e9, ea, eb, ec⟩ := hS
    go_simp
    try with_reducible rfl
  conv in (Act.put _ _ _) => simp only [List.getElem_toArray, List.getElem_cons_succ, List.getElem_cons_zero, Act.put, List.setIfInBounds_toArray, List.set_cons_succ, List.set_cons_zero]
  refine wpAnyH_take (i := 1) (v := ?_) rfl (by kernel_rfl) (by kernel_rfl) (by kernel_rfl) (fun _ _ _ h => h) (Or.inl ⟨by kernel_rfl, ?_⟩) HSW.out ?_
  rotate_left
  · intro w hS
    obtain ⟨e1, e2, e3, e4, e5, e6, e7, e8, e9, ea, eb, ec⟩ := hS
    go_simp
    try with_reducible rfl
  conv in (Act.put _ _ _) => simp only [List.getElem_toArray, List.getElem_cons_succ, List.getElem_cons_zero, Act.put, List.setIfInBounds_toArray, List.set_cons_succ, List.set_cons_zero]
  refine wpAnyH_take (i := 2) (v := ?_) rfl (by kernel_rfl) (by kernel_rfl) (by kernel_rfl) (fun _ _ _ h => h) (Or.inl ⟨by kernel_rfl, ?_⟩) HSW.out ?_
  rotate_left
  · intro w hS
    obtain ⟨e1, e2, e3, e4, e5, e6, e7, e8, e9, ea, eb, ec⟩ := hS
    go_simp
    try with_reducible rfl
  conv in (Act.put _ _ _) => simp only [List.getElem_toArray, List.getElem_cons_succ, List.getElem_cons_zero, Act.put, List.setIfInBounds_toArray, List.set_cons_succ, List.set_cons_zero]
  refine wpAnyH_take (i := 4) (v := ?_) rfl (by kernel_rfl) (by kernel_rfl) (by kernel_rfl) (fun _ _ _ h => h) (Or.inl ⟨by kernel_rfl, ?_⟩) HSW.out ?_
  rotate_left
  · intro w hS
    obtain ⟨e1, e2, e3, e4, e5, e6, e7, e8, e9, ea, eb, ec⟩ := hS
    go_simp
    try with_reducible rfl
  conv in (Act.put _ _ _) => simp only [List.getElem_toArray, List.getElem_cons_succ, List.getElem_cons_zero, Act.put, List.setIfInBounds_toArray, List.set_cons_succ, List.set_cons_zero]
  refine readyH 3 _ (by kernel_rfl) rfl (by kernel_rfl) (fun K hK => ?_)
  go_simp
  refine (P1.out v0).mono ?_
  rintro e v1 ⟨rfl, bv1⟩
  have F1 : Hid (Below w6.heap.size w6 v1) := F0.out.trans (bv1.mono F0.out.size)
  clear bv1 HSW F0 P1
  refine hK _ _ (HC.out v1 F1.out) ?_
  clear hK K
  refine readyH 5 _ (by kernel_rfl) rfl (by kernel_rfl) (fun K hK => ?_)
  go_simp
  refine (P2.out v1).mono ?_
  rintro e v2 ⟨rfl, bv2⟩
  have F2 : Hid (Below w6.heap.size w6 v2) := F1.out.trans (bv2.mono F1.out.size)
  clear bv2 F1 P2
  refine hK _ _ (HC.out v2 F2.out) ?_
  clear hK K
  have HSW : Hid _ := HC.out v2 F2.out
  refine wpAnyH_take (i := 6) (v := ?_) rfl (by kernel_rfl) (by kernel_rfl) (by kernel_rfl) (fun _ _ _ h => h) (Or.inl ⟨by kernel_rfl, ?_⟩) HSW.out ?_
  rotate_left
  · intro w hS
    obtain ⟨e1, e2, e3, e4, e5, e6, e7, e8, e9, ea, eb, ec⟩ := hS
    go_simp
    try with_reducible rfl
  conv in (Act.put _ _ _) => simp only [List.getElem_toArray, List.getElem_cons_succ, List.getElem_cons_zero, Act.put, List.setIfInBounds_toArray, List.set_cons_succ, List.set_cons_zero]
  refine wpAnyH_take (i := 7) (v := ?_) rfl (by kernel_rfl) (by kernel_rfl) (by kernel_rfl) (fun _ _ _ h => h) (Or.inl ⟨by kernel_rfl, ?_⟩) HSW.out ?_
  rotate_left
  · intro w hS
    obtain ⟨e1, e2, e3, e4, e5, e6, e7, e8, e9, ea, eb, ec⟩ := hS
    go_simp
    try with_reducible rfl
  conv in (Act.put _ _ _) => simp only [List.getElem_toArray, List.getElem_cons_succ, List.getElem_cons_zero, Act.put, List.setIfInBounds_toArray, List.set_cons_succ, List.set_cons_zero]
  refine wpAnyH_take (i := 8) (v := ?_) rfl (by kernel_rfl) (by kernel_rfl) (by kernel_rfl) (fun _ _ _ h => h) (Or.inl ⟨by kernel_rfl, ?_⟩) HSW.out ?_
  rotate_left
  · intro w hS
    obtain ⟨e1, e2, e3, e4, e5, e6, e7, e8, e9, ea, eb, ec⟩ := hS
    go_simp
    try with_reducible rfl
  conv in (Act.put _ _ _) => simp only [List.getElem_toArray, List.getElem_cons_succ, List.getElem_cons_zero, Act.put, List.setIfInBounds_toArray, List.set_cons_succ, List.set_cons_zero]
  refine wpAnyH_take (i := 9) (v := ?_) rfl (by kernel_rfl) (by kernel_rfl) (by kernel_rfl) (fun _ _ _ h => h) (Or.inl ⟨by kernel_rfl, ?_⟩) HSW.out ?_
  rotate_left
  · intro w hS
    obtain ⟨e1, e2, e3, e4, e5, e6, e7, e8, e9, ea, eb, ec⟩ := hS
    go_simp
    try with_reducible rfl
  conv in (Act.put _ _ _) => simp only [List.getElem_toArray, List.getElem_cons_succ, List.getElem_cons_zero, Act.put, List.setIfInBounds_toArray, List.set_cons_succ, List.set_cons_zero]
  refine wpAnyH_take (i := 10) (v := ?_) rfl (by kernel_rfl) (by kernel_rfl) (by kernel_rfl) (fun _ _ _ h => h) (Or.inl ⟨by kernel_rfl, ?_⟩) HSW.out ?_
  rotate_left
  · intro w hS
    obtain ⟨e1, e2, e3, e4, e5, e6, e7, e8, e9, ea, eb, ec⟩ := hS
    go_simp
    try with_reducible rfl
  conv in (Act.put _ _ _) => simp only [List.getElem_toArray, List.getElem_cons_succ, List.getElem_cons_zero, Act.put, List.setIfInBounds_toArray, List.set_cons_succ, List.set_cons_zero]
  refine wpAnyH_take (i := 11) (v := ?_) rfl (by kernel_rfl) (by kernel_rfl) (by kernel_rfl) (fun _ _ _ h => h) (Or.inl ⟨by kernel_rfl, ?_⟩) HSW.out ?_
  rotate_left
  · intro w hS
    obtain ⟨e1, e2, e3, e4, e5, e6, e7, e8, e9, ea, eb, ec⟩ := hS
    go_simp
    try with_reducible rfl
  conv in (Act.put _ _ _) => simp only [List.getElem_toArray, List.getElem_cons_succ, List.getElem_cons_zero, Act.put, List.setIfInBounds_toArray, List.set_cons_succ, List.set_cons_zero]
  refine wpAnyH_take (i := 12) (v := ?_) rfl (by kernel_rfl) (by kernel_rfl) (by kernel_rfl) (fun _ _ _ h => h) (Or.inl ⟨by kernel_rfl, ?_⟩) HSW.out ?_
  rotate_left
  · intro w hS
    obtain ⟨e1, e2, e3, e4, e5, e6, e7, e8, e9, ea, eb, ec⟩ := hS
    go_simp
    try with_reducible rfl
  conv in (Act.put _ _ _) => simp only [List.getElem_toArray, List.getElem_cons_succ, List.getElem_cons_zero, Act.put, List.setIfInBounds_toArray, List.set_cons_succ, List.set_cons_zero]
  refine wpAnyH_take (i := 13) (v := ?_) rfl (by kernel_rfl) (by kernel_rfl) (by kernel_rfl) (fun _ _ _ h => h) (Or.inl ⟨by kernel_rfl, ?_⟩) HSW.out ?_
  rotate_left
  · intro w hS
    obtain ⟨e1, e2, e3, e4, e5, e6, e7, e8, e9, ea, eb, ec⟩ := hS
    go_simp
    try with_reducible rfl
  conv in (Act.put _ _ _) => simp only [List.getElem_toArray, List.getElem_cons_succ, List.getElem_cons_zero, Act.put, List.setIfInBounds_toArray, List.set_cons_succ, List.set_cons_zero]
  refine wpAnyH_take (i := 14) (v := ?_) rfl (by kernel_rfl) (by kernel_rfl) (by kernel_rfl) (fun _ _ _ h => h) (Or.inl ⟨by kernel_rfl, ?_⟩) HSW.out ?_
  rotate_left
  · intro w hS
    obtain ⟨e1, e2, e3, e4, e5, e6, e7, e8, e9, ea, eb, ec⟩ := hS
    go_simp
    try with_reducible rfl
  conv in (Act.put _ _ _) => simp only [List.getElem_toArray, List.getElem_cons_succ, List.getElem_cons_zero, Act.put, List.setIfInBounds_toArray, List.set_cons_succ, List.set_cons_zero]
  refine wpAnyH_take (i := 15) (v := ?_) rfl (by kernel_rfl) (by kernel_rfl) (by kernel_rfl) (fun _ _ _ h => h) (Or.inl ⟨by kernel_rfl, ?_⟩) HSW.out ?_
  rotate_left
  · intro w hS
    obtain ⟨e1, e2, e3, e4, e5, e6, e7, e8, e9, ea, eb, ec⟩ := hS
    go_simp
    try with_reducible rfl
  conv in (Act.put _ _ _) => simp only [List.getElem_toArray, List.getElem_cons_succ, List.getElem_cons_zero, Act.put, List.setIfInBounds_toArray, List.set_cons_succ, List.set_cons_zero]
  refine wpAnyH_take (i := 16) (v := ?_) rfl (by kernel_rfl) (by kernel_rfl) (by kernel_rfl) (fun _ _ _ h => h) (Or.inl ⟨by kernel_rfl, ?_⟩) HSW.out ?_
  rotate_left
  · intro w hS
    obtain ⟨e1, e2, e3, e4, e5, e6, e7, e8, e9, ea, eb, ec⟩ := hS
    go_simp
    try with_reducible rfl
  conv in (Act.put _ _ _) => simp only [List.getElem_toArray, List.getElem_cons_succ, List.getElem_cons_zero, Act.put, List.setIfInBounds_toArray, List.set_cons_succ, List.set_cons_zero]
  refine wpAnyH_take (i := 17) (v := ?_) rfl (by kernel_rfl) (by kernel_rfl) (by kernel_rfl) (fun _ _ _ h => h) (Or.inl ⟨by kernel_rfl, ?_⟩) HSW.out ?_
  rotate_left
  · intro w hS
    obtain ⟨e1, e2, e3, e4, e5, e6, e7, e8, e9, ea, eb, ec⟩ := hS
    go_simp
    try with_reducible rfl
  conv in (Act.put _ _ _) => simp only [List.getElem_toArray, List.getElem_cons_succ, List.getElem_cons_zero, Act.put, List.setIfInBounds_toArray, List.set_cons_succ, List.set_cons_zero]
  refine wpAnyH_take (i := 18) (v := ?_) rfl (by kernel_rfl) (by kernel_rfl) (by kernel_rfl) (fun _ _ _ h => h) (Or.inl ⟨by kernel_rfl, ?_⟩) HSW.out ?_
  rotate_left
  · intro w hS
    obtain ⟨e1, e2, e3, e4, e5, e6, e7, e8, e9, ea, eb, ec⟩ := hS
    go_simp
    try with_reducible rfl
  conv in (Act.put _ _ _) => simp only [List.getElem_toArray, List.getElem_cons_succ, List.getElem_cons_zero, Act.put, List.setIfInBounds_toArray, List.set_cons_succ, List.set_cons_zero]
  refine wpAnyH_take (i := 19) (v := ?_) rfl (by kernel_rfl) (by kernel_rfl) (by kernel_rfl) (fun _ _ _ h => h) (Or.inl ⟨by kernel_rfl, ?_⟩) HSW.out ?_
  rotate_left
  · intro w hS
    obtain ⟨e1, e2, e3, e4, e5, e6, e7, e8, e9, ea, eb, ec⟩ := hS
    go_simp
    try with_reducible rfl
  conv in (Act.put _ _ _) => simp only [List.getElem_toArray, List.getElem_cons_succ, List.getElem_cons_zero, Act.put, List.setIfInBounds_toArray, List.set_cons_succ, List.set_cons_zero]
  refine wpAnyH_take (i := 21) (v := ?_) rfl (by kernel_rfl) (by kernel_rfl) (by kernel_rfl) (fun _ _ _ h => h) (Or.inl ⟨by kernel_rfl, ?_⟩) HSW.out ?_
  rotate_left
  · intro w hS
    obtain ⟨e1, e2, e3, e4, e5, e6, e7, e8, e9, ea, eb, ec⟩ := hS
    go_simp
    try with_reducible rfl
  conv in (Act.put _ _ _) => simp only [List.getElem_toArray, List.getElem_cons_succ, List.getElem_cons_zero, Act.put, List.setIfInBounds_toArray, List.set_cons_succ, List.set_cons_zero]
  refine wpAnyH_take (i := 22) (v := ?_) rfl (by kernel_rfl) (by kernel_rfl) (by kernel_rfl) (fun _ _ _ h => h) (Or.inl ⟨by kernel_rfl, ?_⟩) HSW.out ?_
  rotate_left
  · intro w hS
    obtain ⟨e1, e2, e3, e4, e5, e6, e7, e8, e9, ea, eb, ec⟩ := hS
    go_simp
    try with_reducible rfl
  conv in (Act.put _ _ _) => simp only [List.getElem_toArray, List.getElem_cons_succ, List.getElem_cons_zero, Act.put, List.setIfInBounds_toArray, List.set_cons_succ, List.set_cons_zero]
  refine wpAnyH_take (i := 23) (v := ?_) rfl (by kernel_rfl) (by kernel_rfl) (by kernel_rfl) (fun _ _ _ h => h) (Or.inl ⟨by kernel_rfl, ?_⟩) HSW.out ?_
  rotate_left
  · intro w hS
    obtain ⟨e1, e2, e3, e4, e5, e6, e7, e8, e9, ea, eb, ec⟩ := hS
    go_simp
    try with_reducible rfl
  conv in (Act.put _ _ _) => simp only [List.getElem_toArray, List.getElem_cons_succ, List.getElem_cons_zero, Act.put, List.setIfInBounds_toArray, List.set_cons_succ, List.set_cons_zero]
  refine wpAnyH_take (i := 24) (v := ?_) rfl (by kernel_rfl) (by kernel_rfl) (by kernel_rfl) (fun _ _ _ h => h) (Or.inl ⟨by kernel_rfl, ?_⟩) HSW.out ?_
  rotate_left
  · intro w hS
    obtain ⟨e1, e2, e3, e4, e5, e6, e7, e8, e9, ea, eb, ec⟩ := hS
    go_simp
    try with_reducible rfl
  conv in (Act.put _ _ _) => simp only [List.getElem_toArray, List.getElem_cons_succ, List.getElem_cons_zero, Act.put, List.setIfInBounds_toArray, List.set_cons_succ, List.set_cons_zero]
  refine wpAnyH_take (i := 25) (v := ?_) rfl (by kernel_rfl) (by kernel_rfl) (by kernel_rfl) (fun _ _ _ h => h) (Or.inl ⟨by kernel_rfl, ?_⟩) HSW.out ?_
  rotate_left
  · intro w hS
    obtain ⟨e1, e2, e3, e4, e5, e6, e7, e8, e9, ea, eb, ec⟩ := hS
    go_simp
    try with_reducible rfl
  conv in (Act.put _ _ _) => simp only [List.getElem_toArray, List.getElem_cons_succ, List.getElem_cons_zero, Act.put, List.setIfInBounds_toArray, List.set_cons_succ, List.set_cons_zero]
  refine wpAnyH_take (i := 26) (v := ?_) rfl (by kernel_rfl) (by kernel_rfl) (by kernel_rfl) (fun _ _ _ h => h) (Or.inl ⟨by kernel_rfl, ?_⟩) HSW.out ?_
  rotate_left
  · intro w hS
    obtain ⟨e1, e2, e3, e4, e5, e6, e7, e8, e9, ea, eb, ec⟩ := hS
    go_simp
    try with_reducible rfl
  conv in (Act.put _ _ _) => simp only [List.getElem_toArray, List.getElem_cons_succ, List.getElem_cons_zero, Act.put, List.setIfInBounds_toArray, List.set_cons_succ, List.set_cons_zero]
  refine readyH 20 _ (by kernel_rfl) rfl (by kernel_rfl) (fun K hK => ?_)
  go_simp
  refine (HG.out v2).mono ?_
  rintro e v3 ⟨rfl, hv3⟩
  have hv3' := hv3.symm
  clear hv3
  subst hv3'
  refine hK _ _ HSW.out ?_
  clear hK K
  refine wpAnyH_take (i := 27) (v := ?_) rfl (by kernel_rfl) (by kernel_rfl) (by kernel_rfl) (fun _ _ _ h => h) (Or.inl ⟨by kernel_rfl, ?_⟩) HSW.out ?_
  rotate_left
  · intro w hS
    obtain ⟨e1, e2, e3, e4, e5, e6, e7, e8, e9, ea, eb, ec⟩ := hS
    go_simp
    try with_reducible rfl
  conv in (Act.put _ _ _) => simp only [List.getElem_toArray, List.getElem_cons_succ, List.getElem_cons_zero, Act.put, List.setIfInBounds_toArray, List.set_cons_succ, List.set_cons_zero]
  refine wpAnyH_take (i := 28) (v := ?_) rfl (by kernel_rfl) (by kernel_rfl) (by kernel_rfl) (fun _ _ _ h => h) (Or.inl ⟨by kernel_rfl, ?_⟩) HSW.out ?_
  rotate_left
  · intro w hS
    obtain ⟨e1, e2, e3, e4, e5, e6, e7, e8, e9, ea, eb, ec⟩ := hS
    go_simp
    try with_reducible rfl
  conv in (Act.put _ _ _) => simp only [List.getElem_toArray, List.getElem_cons_succ, List.getElem_cons_zero, Act.put, List.setIfInBounds_toArray, List.set_cons_succ, List.set_cons_zero]
  refine readyH 29 _ (by kernel_rfl) rfl (by kernel_rfl) (fun K hK => ?_)
  go_simp
  refine hK _ _ HSW.out ?_
  clear hK K
  refine wpAnyH_done (by kernel_rfl) ?_ _
  go_wp2_with fail
  go_ret
  exact ⟨rfl, D6.out.trans (F2.out.mono D6.out.size)⟩
end Go.Proofs.YtaoadopnhphjbaaDoor.Rs
