/- RightBox, In, Has. -/
import Derived.Test.YtimdlohdmddnjaaQCC
namespace Go.Proofs.Ytimdlohdmddnjaa.Rc
open Go.RowKit Go.Lib
def Bx (g a b c d : Nat) (w : World) : Prop := w.heap[g]? = some (.cells #[.int .u32 (a : Int), .int .u32 (b : Int), .int .u32 (c : Int), .int .u32 (d : Int)] 24)
def BxS (g a b c d : Nat) (w : World) : Prop := w.cell? ⟨g, 0, none⟩ = some (.int .u32 (a : Int)) ∧ w.cell? ⟨g, 1, none⟩ = some (.int .u32 (b : Int)) ∧ w.cell? ⟨g, 2, none⟩ = some (.int .u32 (c : Int)) ∧ w.cell? ⟨g, 3, none⟩ = some (.int .u32 (d : Int))
set_option maxRecDepth 100000 in
theorem Bx.cells {g a b c d : Nat} {w : World} (h : Bx g a b c d w) : BxS g a b c d w :=
 ⟨by rw [cell_of_row _ _ _ _ _ _ h]; rfl, by rw [cell_of_row _ _ _ _ _ _ h]; rfl, by rw [cell_of_row _ _ _ _ _ _ h]; rfl, by rw [cell_of_row _ _ _ _ _ _ h]; rfl⟩
set_option maxRecDepth 100000 in
theorem BxS.below {g a b c d : Nat} {w w' : World} {B : Nat} (h : BxS g a b c d w) (hb : Below B w w') (hg : g < B) : BxS g a b c d w' :=
 ⟨(World.cell?_of_block (a := ⟨g, 0, none⟩) (hb.block g hg)).trans h.1, (World.cell?_of_block (a := ⟨g, 1, none⟩) (hb.block g hg)).trans h.2.1, (World.cell?_of_block (a := ⟨g, 2, none⟩) (hb.block g hg)).trans h.2.2.1, (World.cell?_of_block (a := ⟨g, 3, none⟩) (hb.block g hg)).trans h.2.2.2⟩
set_option maxRecDepth 100000 in
theorem bx_new (a b c d : Nat) (w : World) : BxS w.heap.size a b c d (w.alloc (.cells #[.int .u32 (a : Int), .int .u32 (b : Int), .int .u32 (c : Int), .int .u32 (d : Int)] 24)) := Bx.cells (heap_alloc_new w _)
set_option maxHeartbeats 1000000 in
set_option maxRecDepth 100000 in
theorem rightBox_any (a b c d : Nat) (w : World) :
  Calls Try.prog 69 #[bv a b c d] w fun e w' => e = .returned (.bool (boxS a b c d)) ∧ Below w.heap.size w w' := by
 go_enter Try.func69, Try.ntmps69
 go_wp2_with fail
 ·refine (onPlane_any c d _).mono ?_
  rintro e w1 ⟨rfl, hw1⟩
  subst hw1
  go_wp2_with fail
  go_ret
  refine ⟨congrArg Ending.returned (congrArg Value.bool ?_), below_new _ _⟩
  unfold onS boxS
  apply decide_eq_decide.2
  omega
 all_goals go_ret
 all_goals refine ⟨congrArg Ending.returned (congrArg Value.bool ?_), below_new _ _⟩
 all_goals symm
 all_goals unfold boxS
 all_goals rw [decide_eq_false_iff_not]
 all_goals omega
set_option maxHeartbeats 1000000 in
set_option maxRecDepth 100000 in
theorem in_any (a b c d x y : Nat) (w : World) :
  Calls Try.prog 73 #[bv a b c d, .int .u32 (x : Int), .int .u32 (y : Int)] w fun e w' => e = .returned (.bool (inS a b c d x y)) ∧ Below w.heap.size w w' := by
 go_enter Try.func73, Try.ntmps73
 go_wp2_with fail
 refine (rightBox_any a b c d _).mono ?_
 rintro e w1 ⟨rfl, b1⟩
 have HB : Hid (Below w.heap.size w w1) := (below_new w _).trans (b1.mono (by simp))
 have hS := (bx_new a b c d w).below b1 (by simp)
 obtain ⟨e0, e1, e2, e3⟩ := hS
 clear b1
 cases hb : boxS a b c d
 ·have HI : Hid (inS a b c d x y = false) := by refine (?_ : inS a b c d x y = false); unfold inS; rw [hb]; simp
  clear hb
  go_wp2_with fail
  go_ret
  exact ⟨by rw [HI.out]; rfl, HB.out⟩
 ·have HI : Hid (inS a b c d x y = decide (a ≤ x ∧ x ≤ c ∧ b ≤ y ∧ y ≤ d)) := by refine (?_ : inS a b c d x y = _); unfold inS; rw [hb]; simp
  clear hb
  go_wp2_with fail
  all_goals go_ret
  all_goals refine ⟨congrArg Ending.returned (congrArg Value.bool ?_), HB.out⟩
  all_goals rw [HI.out]
  all_goals symm
  all_goals first | (rw [decide_eq_true_iff]; omega) | (rw [decide_eq_false_iff_not]; omega) | (apply decide_eq_decide.2; omega)
set_option maxHeartbeats 2000000 in
set_option maxRecDepth 100000 in
theorem has_any (X Y : Nat) (L : Int) (x y : Nat) (hX : X < 4294967296) (hY : Y < 4294967296) (hx : x < 4294967296) (hy : y < 4294967296) (w : World) :
  Calls Try.prog 94 #[cv X Y L, .int .u32 (x : Int), .int .u32 (y : Int)] w fun e w' => e = .returned (.bool (hasS X Y L x y)) ∧ Below w.heap.size w w' := by
 have HL : Hid (w.heap.size < (w.alloc (.cells #[.int .u32 (X : Int), .int .u32 (Y : Int), .int .i64 L] 42)).drew.heap.size) := by refine (?_ : w.heap.size < _); simp
 have HB : Hid (Below w.heap.size w (w.alloc (.cells #[.int .u32 (X : Int), .int .u32 (Y : Int), .int .i64 L] 42)).drew) := (below_new w _).drew
 have HSW : Hid (CelS w.heap.size X Y L (w.alloc (.cells #[.int .u32 (X : Int), .int .u32 (Y : Int), .int .i64 L] 42)).drew) := cel_new X Y L w
 have HC : Hid _ := right_any X Y L hX hY
 cases hr : rightS X Y L
 ·rw [hasS_no x y hr]
  rw [hr] at HC
  clear hr hX hY hx hy
  go_enter Try.func94, Try.ntmps94
  go_wp2_with fail
  refine wp_region_held (S := CelS w.heap.size X Y L) (by kernel_rfl) ?_
  change wpAnyH _ _ _ _ _ _ _ _ (World.drew _)
  refine wpAnyH_take (i := 0) (v := ?_) rfl (by kernel_rfl) (by kernel_rfl) (by kernel_rfl) (fun _ _ _ h => h) (Or.inl ⟨by kernel_rfl, ?_⟩) HSW.out ?_
  rotate_left
  ·rintro w ⟨e1,e2,e3⟩; go_simp; try with_reducible rfl
  conv in (Act.put _ _ _) => simp only [List.getElem_toArray, List.getElem_cons_succ, List.getElem_cons_zero, Act.put, List.setIfInBounds_toArray, List.set_cons_succ, List.set_cons_zero]
  refine readyH 1 _ (by kernel_rfl) rfl (by kernel_rfl) (fun K hK => ?_)
  go_simp
  refine (HC.out _).mono ?_
  rintro e w1 ⟨rfl, b1⟩
  have HB1 : Hid (Below w.heap.size w w1) := HB.out.trans (b1.mono (Nat.le_of_lt HL.out))
  replace HSW : Hid (CelS w.heap.size X Y L w1) := HSW.out.below b1 HL.out
  refine hK _ _ HSW.out ?_
  clear hK K b1
  refine wpAnyH_take (i := 2) (v := ?_) rfl (by kernel_rfl) (by kernel_rfl) (by kernel_rfl) (fun _ _ _ h => h) (Or.inl ⟨by kernel_rfl, ?_⟩) HSW.out ?_
  rotate_left
  ·rintro w ⟨e1,e2,e3⟩; go_simp; try with_reducible rfl
  conv in (Act.put _ _ _) => simp only [List.getElem_toArray, List.getElem_cons_succ, List.getElem_cons_zero, Act.put, List.setIfInBounds_toArray, List.set_cons_succ, List.set_cons_zero]
  refine wpAnyH_take (i := 3) (v := undef) rfl (by kernel_rfl) (by kernel_rfl) (by kernel_rfl) (fun _ _ _ h => h) (Or.inr ⟨by kernel_rfl, rfl⟩) HSW.out ?_
  conv in (Act.put _ _ _) => simp only [List.getElem_toArray, List.getElem_cons_succ, List.getElem_cons_zero, Act.put, List.setIfInBounds_toArray, List.set_cons_succ, List.set_cons_zero]
  refine wpAnyH_take (i := 4) (v := undef) rfl (by kernel_rfl) (by kernel_rfl) (by kernel_rfl) (fun _ _ _ h => h) (Or.inr ⟨by kernel_rfl, rfl⟩) HSW.out ?_
  conv in (Act.put _ _ _) => simp only [List.getElem_toArray, List.getElem_cons_succ, List.getElem_cons_zero, Act.put, List.setIfInBounds_toArray, List.set_cons_succ, List.set_cons_zero]
  refine wpAnyH_take (i := 5) (v := undef) rfl (by kernel_rfl) (by kernel_rfl) (by kernel_rfl) (fun _ _ _ h => h) (Or.inr ⟨by kernel_rfl, rfl⟩) HSW.out ?_
  conv in (Act.put _ _ _) => simp only [List.getElem_toArray, List.getElem_cons_succ, List.getElem_cons_zero, Act.put, List.setIfInBounds_toArray, List.set_cons_succ, List.set_cons_zero]
  refine wpAnyH_take (i := 6) (v := undef) rfl (by kernel_rfl) (by kernel_rfl) (by kernel_rfl) (fun _ _ _ h => h) (Or.inr ⟨by kernel_rfl, rfl⟩) HSW.out ?_
  conv in (Act.put _ _ _) => simp only [List.getElem_toArray, List.getElem_cons_succ, List.getElem_cons_zero, Act.put, List.setIfInBounds_toArray, List.set_cons_succ, List.set_cons_zero]
  refine wpAnyH_take (i := 7) (v := undef) rfl (by kernel_rfl) (by kernel_rfl) (by kernel_rfl) (fun _ _ _ h => h) (Or.inr ⟨by kernel_rfl, rfl⟩) HSW.out ?_
  conv in (Act.put _ _ _) => simp only [List.getElem_toArray, List.getElem_cons_succ, List.getElem_cons_zero, Act.put, List.setIfInBounds_toArray, List.set_cons_succ, List.set_cons_zero]
  refine wpAnyH_take (i := 8) (v := undef) rfl (by kernel_rfl) (by kernel_rfl) (by kernel_rfl) (fun _ _ _ h => h) (Or.inr ⟨by kernel_rfl, rfl⟩) HSW.out ?_
  conv in (Act.put _ _ _) => simp only [List.getElem_toArray, List.getElem_cons_succ, List.getElem_cons_zero, Act.put, List.setIfInBounds_toArray, List.set_cons_succ, List.set_cons_zero]
  refine wpAnyH_take (i := 9) (v := undef) rfl (by kernel_rfl) (by kernel_rfl) (by kernel_rfl) (fun _ _ _ h => h) (Or.inr ⟨by kernel_rfl, rfl⟩) HSW.out ?_
  conv in (Act.put _ _ _) => simp only [List.getElem_toArray, List.getElem_cons_succ, List.getElem_cons_zero, Act.put, List.setIfInBounds_toArray, List.set_cons_succ, List.set_cons_zero]
  refine wpAnyH_take (i := 10) (v := ?_) rfl (by kernel_rfl) (by kernel_rfl) (by kernel_rfl) (fun _ _ _ h => h) (Or.inl ⟨by kernel_rfl, ?_⟩) HSW.out ?_
  rotate_left
  ·rintro w ⟨e1,e2,e3⟩; go_simp; try with_reducible rfl
  conv in (Act.put _ _ _) => simp only [List.getElem_toArray, List.getElem_cons_succ, List.getElem_cons_zero, Act.put, List.setIfInBounds_toArray, List.set_cons_succ, List.set_cons_zero]
  refine wpAnyH_take (i := 11) (v := ?_) rfl (by kernel_rfl) (by kernel_rfl) (by kernel_rfl) (fun _ _ _ h => h) (Or.inl ⟨by kernel_rfl, ?_⟩) HSW.out ?_
  rotate_left
  ·rintro w ⟨e1,e2,e3⟩; go_simp; try with_reducible rfl
  conv in (Act.put _ _ _) => simp only [List.getElem_toArray, List.getElem_cons_succ, List.getElem_cons_zero, Act.put, List.setIfInBounds_toArray, List.set_cons_succ, List.set_cons_zero]
  refine wpAnyH_done (by kernel_rfl) ?_ _
  go_wp2_with fail
  go_ret
  exact ⟨rfl, HB1.out⟩
 ·obtain ⟨n, rfl, cl⟩ := (rightS_iff X Y L).1 hr
  obtain ⟨r, hr2⟩ : ∃ r, decide (X = flr x n ∧ Y = flr y n) = r := ⟨_, rfl⟩
  have HR : Hid (decide (X = flr x n ∧ Y = flr y n) = r) := hr2
  rw [show hasS X Y (n : Int) x y = r by
   rw [← hr2]; unfold hasS; rw [hr, Int.toNat_natCast]
   apply decide_eq_decide.2
   exact ⟨fun h => ⟨h.2.1.symm, h.2.2.symm⟩, fun h => ⟨rfl, h.1.symm, h.2.symm⟩⟩]
  have HA : Hid _ := around_any x y n hx hy cl.n31
  rw [hr] at HC
  clear hr hr2 cl hX hY hx hy
  go_enter Try.func94, Try.ntmps94
  go_wp2_with fail
  refine wp_region_held (S := CelS w.heap.size X Y (n : Int)) (by kernel_rfl) ?_
  change wpAnyH _ _ _ _ _ _ _ _ (World.drew _)
  refine wpAnyH_take (i := 0) (v := ?_) rfl (by kernel_rfl) (by kernel_rfl) (by kernel_rfl) (fun _ _ _ h => h) (Or.inl ⟨by kernel_rfl, ?_⟩) HSW.out ?_
  rotate_left
  ·rintro w ⟨e1,e2,e3⟩; go_simp; try with_reducible rfl
  conv in (Act.put _ _ _) => simp only [List.getElem_toArray, List.getElem_cons_succ, List.getElem_cons_zero, Act.put, List.setIfInBounds_toArray, List.set_cons_succ, List.set_cons_zero]
  refine readyH 1 _ (by kernel_rfl) rfl (by kernel_rfl) (fun K hK => ?_)
  go_simp
  refine (HC.out _).mono ?_
  rintro e w1 ⟨rfl, b1⟩
  have HB1 : Hid (Below w.heap.size w w1) := HB.out.trans (b1.mono (Nat.le_of_lt HL.out))
  replace HL : Hid (w.heap.size < w1.heap.size) := Nat.lt_of_lt_of_le HL.out b1.size
  replace HSW : Hid (CelS w.heap.size X Y (n : Int) w1) := HSW.out.below b1 (Nat.lt_of_lt_of_le (by simp) (Nat.le_refl _))
  refine hK _ _ HSW.out ?_
  clear hK K b1
  refine wpAnyH_take (i := 2) (v := ?_) rfl (by kernel_rfl) (by kernel_rfl) (by kernel_rfl) (fun _ _ _ h => h) (Or.inl ⟨by kernel_rfl, ?_⟩) HSW.out ?_
  rotate_left
  ·rintro w ⟨e1,e2,e3⟩; go_simp; try with_reducible rfl
  conv in (Act.put _ _ _) => simp only [List.getElem_toArray, List.getElem_cons_succ, List.getElem_cons_zero, Act.put, List.setIfInBounds_toArray, List.set_cons_succ, List.set_cons_zero]
  refine wpAnyH_take (i := 3) (v := ?_) rfl (by kernel_rfl) (by kernel_rfl) (by kernel_rfl) (fun _ _ _ h => h) (Or.inl ⟨by kernel_rfl, ?_⟩) HSW.out ?_
  rotate_left
  ·rintro w ⟨e1,e2,e3⟩; go_simp; try with_reducible rfl
  conv in (Act.put _ _ _) => simp only [List.getElem_toArray, List.getElem_cons_succ, List.getElem_cons_zero, Act.put, List.setIfInBounds_toArray, List.set_cons_succ, List.set_cons_zero]
  refine wpAnyH_take (i := 4) (v := ?_) rfl (by kernel_rfl) (by kernel_rfl) (by kernel_rfl) (fun _ _ _ h => h) (Or.inl ⟨by kernel_rfl, ?_⟩) HSW.out ?_
  rotate_left
  ·rintro w ⟨e1,e2,e3⟩; go_simp; try with_reducible rfl
  conv in (Act.put _ _ _) => simp only [List.getElem_toArray, List.getElem_cons_succ, List.getElem_cons_zero, Act.put, List.setIfInBounds_toArray, List.set_cons_succ, List.set_cons_zero]
  refine wpAnyH_take (i := 5) (v := ?_) rfl (by kernel_rfl) (by kernel_rfl) (by kernel_rfl) (fun _ _ _ h => h) (Or.inl ⟨by kernel_rfl, ?_⟩) HSW.out ?_
  rotate_left
  ·rintro w ⟨e1,e2,e3⟩; go_simp; try with_reducible rfl
  conv in (Act.put _ _ _) => simp only [List.getElem_toArray, List.getElem_cons_succ, List.getElem_cons_zero, Act.put, List.setIfInBounds_toArray, List.set_cons_succ, List.set_cons_zero]
  refine wpAnyH_take (i := 6) (v := ?_) rfl (by kernel_rfl) (by kernel_rfl) (by kernel_rfl) (fun _ _ _ h => h) (Or.inl ⟨by kernel_rfl, ?_⟩) HSW.out ?_
  rotate_left
  ·rintro w ⟨e1,e2,e3⟩; go_simp; try with_reducible rfl
  conv in (Act.put _ _ _) => simp only [List.getElem_toArray, List.getElem_cons_succ, List.getElem_cons_zero, Act.put, List.setIfInBounds_toArray, List.set_cons_succ, List.set_cons_zero]
  refine wpAnyH_take (i := 7) (v := ?_) rfl (by kernel_rfl) (by kernel_rfl) (by kernel_rfl) (fun _ _ _ h => h) (Or.inl ⟨by kernel_rfl, ?_⟩) HSW.out ?_
  rotate_left
  ·rintro w ⟨e1,e2,e3⟩; go_simp; try with_reducible rfl
  conv in (Act.put _ _ _) => simp only [List.getElem_toArray, List.getElem_cons_succ, List.getElem_cons_zero, Act.put, List.setIfInBounds_toArray, List.set_cons_succ, List.set_cons_zero]
  refine readyH 8 _ (by kernel_rfl) rfl (by kernel_rfl) (fun K hK => ?_)
  go_simp
  refine (HA.out _).mono ?_
  rintro e w2 ⟨rfl, b2⟩
  have HB2 : Hid (Below w.heap.size w w2) := HB1.out.trans (b2.mono (Nat.le_of_lt HL.out))
  replace HSW : Hid (CelS w.heap.size X Y (n : Int) w2) := HSW.out.below b2 HL.out
  refine hK _ _ HSW.out ?_
  clear hK K b2
  refine wpAnyH_take (i := 9) (v := .bool r) rfl (by kernel_rfl) (by kernel_rfl) (by kernel_rfl) (fun _ _ _ h => h) (Or.inl ⟨by kernel_rfl, fun w _ => ?_⟩) HSW.out ?_
  ·go_simp
   exact (two_if X Y _ _ w).trans (by rw [HR.out])
  conv in (Act.put _ _ _) => simp only [List.getElem_toArray, List.getElem_cons_succ, List.getElem_cons_zero, Act.put, List.setIfInBounds_toArray, List.set_cons_succ, List.set_cons_zero]
  refine wpAnyH_take (i := 10) (v := ?_) rfl (by kernel_rfl) (by kernel_rfl) (by kernel_rfl) (fun _ _ _ h => h) (Or.inl ⟨by kernel_rfl, ?_⟩) HSW.out ?_
  rotate_left
  ·rintro w ⟨e1,e2,e3⟩; go_simp; try with_reducible rfl
  conv in (Act.put _ _ _) => simp only [List.getElem_toArray, List.getElem_cons_succ, List.getElem_cons_zero, Act.put, List.setIfInBounds_toArray, List.set_cons_succ, List.set_cons_zero]
  refine wpAnyH_take (i := 11) (v := ?_) rfl (by kernel_rfl) (by kernel_rfl) (by kernel_rfl) (fun _ _ _ h => h) (Or.inl ⟨by kernel_rfl, ?_⟩) HSW.out ?_
  rotate_left
  ·rintro w ⟨e1,e2,e3⟩; go_simp; try with_reducible rfl
  conv in (Act.put _ _ _) => simp only [List.getElem_toArray, List.getElem_cons_succ, List.getElem_cons_zero, Act.put, List.setIfInBounds_toArray, List.set_cons_succ, List.set_cons_zero]
  refine wpAnyH_done (by kernel_rfl) ?_ _
  go_wp2_with fail
  go_ret
  exact ⟨rfl, HB2.out⟩
end Go.Proofs.Ytimdlohdmddnjaa.Rc
