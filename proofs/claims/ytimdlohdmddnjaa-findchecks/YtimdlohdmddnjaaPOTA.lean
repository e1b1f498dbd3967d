/- FindChecks, FindAsks, FindAlls: the program's answers are the reference's. -/
import Derived.Test.YtimdlohdmddnjaaPOZ
import Derived.Test.YtimdlohdmddnjaaPOB
namespace Go.Proofs.Ytimdlohdmddnjaa.Rf
open Go.RowKit Go.Lib
open Go.Proofs.Ytimdlohdmddnjaa.Rc Go.Proofs.Ytimdlohdmddnjaa.Rq
set_option maxRecDepth 100000 in
set_option maxHeartbeats 2000000 in
theorem findChecks_walk (q : Qr) (w : World) : Calls Try.prog 3 #[qv q] w fun e w' => e = .returned (.bool true) ∧ Below w.heap.size w w' := by
 have hb := below_new w (qcs q)
 have hg := heap_alloc_new w (qcs q)
 obtain ⟨W0, hW0⟩ : ∃ W0, w.alloc (qcs q) = W0 := ⟨_, rfl⟩
 rw [hW0] at hb hg
 have HW0 : Hid _ := hW0
 have HG0 : Hid (W0.heap[w.heap.size]? = some (qcs q)) := hg
 have HB0 : Hid (Below w.heap.size w W0) := hb
 have l0 : w.heap.size < W0.heap.size := (Array.getElem?_eq_some_iff.1 hg).1
 have HC : Hid _ := check_any q
 have HD : Hid _ := gCheck_any q
 generalize chk q = E at *
 obtain ⟨k, a, b, c, d, x, y, sq, kk, af, fr⟩ := q
 simp only [qv] at HC HD ⊢
 clear hb hg hW0
 go_enter Try.func3, Try.ntmps3
 go_wp2_with (first | (rw [HW0.out]; clear HW0))
 refine (fshown_any _).mono ?_
 rintro e w1 ⟨rfl, b1⟩
 have HB1 : Hid (Below w.heap.size w w1) := HB0.out.trans (b1.mono HB0.out.size)
 have HG1 : Hid (w1.heap[w.heap.size]? = some (qcs ⟨k, a, b, c, d, x, y, sq, kk, af, fr⟩)) := (b1.block _ l0).trans HG0.out
 have l1 : w.heap.size < w1.heap.size := Nat.lt_of_lt_of_le l0 b1.size
 clear b1 HG0 HB0 l0
 go_wp2_with fail
 refine wp_region_held (S := QC w.heap.size ⟨k, a, b, c, d, x, y, sq, kk, af, fr⟩) (by kernel_rfl) ?_
 change wpAnyH _ _ _ _ _ _ _ _ (World.drew _)
 have HSW : Hid (QC w.heap.size ⟨k, a, b, c, d, x, y, sq, kk, af, fr⟩ w1.drew) := qc_of HG1.out
 refine wpAnyH_take (i := 0) (v := ?_) rfl (by kernel_rfl) (by kernel_rfl) (by kernel_rfl) (fun _ _ _ h => h) (Or.inl ⟨by kernel_rfl, ?_⟩) HSW.out ?_
 rotate_left
 ·rintro w ⟨e0,e1,e2,e3,e4,e5,e6,e7,e8,e9,e10⟩; go_simp; try with_reducible rfl
 conv in (Act.put _ _ _) => simp only [List.getElem_toArray, List.getElem_cons_succ, List.getElem_cons_zero, Act.put, List.setIfInBounds_toArray, List.set_cons_succ, List.set_cons_zero]
 refine wpAnyH_take (i := 1) (v := ?_) rfl (by kernel_rfl) (by kernel_rfl) (by kernel_rfl) (fun _ _ _ h => h) (Or.inl ⟨by kernel_rfl, ?_⟩) HSW.out ?_
 rotate_left
 ·rintro w ⟨e0,e1,e2,e3,e4,e5,e6,e7,e8,e9,e10⟩; go_simp; try with_reducible rfl
 conv in (Act.put _ _ _) => simp only [List.getElem_toArray, List.getElem_cons_succ, List.getElem_cons_zero, Act.put, List.setIfInBounds_toArray, List.set_cons_succ, List.set_cons_zero]
 refine wpAnyH_take (i := 2) (v := ?_) rfl (by kernel_rfl) (by kernel_rfl) (by kernel_rfl) (fun _ _ _ h => h) (Or.inl ⟨by kernel_rfl, ?_⟩) HSW.out ?_
 rotate_left
 ·rintro w ⟨e0,e1,e2,e3,e4,e5,e6,e7,e8,e9,e10⟩; go_simp; try with_reducible rfl
 conv in (Act.put _ _ _) => simp only [List.getElem_toArray, List.getElem_cons_succ, List.getElem_cons_zero, Act.put, List.setIfInBounds_toArray, List.set_cons_succ, List.set_cons_zero]
 refine wpAnyH_take (i := 4) (v := ?_) rfl (by kernel_rfl) (by kernel_rfl) (by kernel_rfl) (fun _ _ _ h => h) (Or.inl ⟨by kernel_rfl, ?_⟩) HSW.out ?_
 rotate_left
 ·rintro w ⟨e0,e1,e2,e3,e4,e5,e6,e7,e8,e9,e10⟩; go_simp; try with_reducible rfl
 conv in (Act.put _ _ _) => simp only [List.getElem_toArray, List.getElem_cons_succ, List.getElem_cons_zero, Act.put, List.setIfInBounds_toArray, List.set_cons_succ, List.set_cons_zero]
 refine readyH 3 _ (by kernel_rfl) rfl (by kernel_rfl) (fun K hK => ?_)
 go_simp
 refine (HC.out _).mono ?_
 rintro e w2 ⟨rfl, b2⟩
 replace b2 : Below w1.heap.size w1 w2 := (Below.refl _ w1).drew.trans b2
 have HB2 : Hid (Below w.heap.size w w2) := HB1.out.trans (b2.mono HB1.out.size)
 have HG2 : Hid (w2.heap[w.heap.size]? = some (qcs ⟨k, a, b, c, d, x, y, sq, kk, af, fr⟩)) := (b2.block _ l1).trans HG1.out
 have l2 : w.heap.size < w2.heap.size := Nat.lt_of_lt_of_le l1 b2.size
 clear HSW
 have HSW : Hid (QC w.heap.size ⟨k, a, b, c, d, x, y, sq, kk, af, fr⟩ w2) := qc_of HG2.out
 clear b2 HC
 refine hK _ _ HSW.out ?_
 clear hK K
 refine readyH 5 _ (by kernel_rfl) rfl (by kernel_rfl) (fun K hK => ?_)
 go_simp
 refine (HD.out _).mono ?_
 rintro e w3 ⟨rfl, b3⟩
 have HB3 : Hid (Below w.heap.size w w3) := HB2.out.trans (b3.mono HB2.out.size)
 have HG3 : Hid (w3.heap[w.heap.size]? = some (qcs ⟨k, a, b, c, d, x, y, sq, kk, af, fr⟩)) := (b3.block _ l2).trans HG2.out
 have l3 : w.heap.size < w3.heap.size := Nat.lt_of_lt_of_le l2 b3.size
 clear HSW
 have HSW : Hid (QC w.heap.size ⟨k, a, b, c, d, x, y, sq, kk, af, fr⟩ w3) := qc_of HG3.out
 clear b3 HD
 refine hK _ _ HSW.out ?_
 clear hK K
 refine wpAnyH_take (i := 6) (v := ?_) rfl (by kernel_rfl) (by kernel_rfl) (by kernel_rfl) (fun _ _ _ h => h) (Or.inl ⟨by kernel_rfl, ?_⟩) HSW.out ?_
 rotate_left
 ·rintro w ⟨e0,e1,e2,e3,e4,e5,e6,e7,e8,e9,e10⟩; go_simp; try with_reducible rfl
 conv in (Act.put _ _ _) => simp only [List.getElem_toArray, List.getElem_cons_succ, List.getElem_cons_zero, Act.put, List.setIfInBounds_toArray, List.set_cons_succ, List.set_cons_zero]
 refine wpAnyH_take (i := 7) (v := ?_) rfl (by kernel_rfl) (by kernel_rfl) (by kernel_rfl) (fun _ _ _ h => h) (Or.inl ⟨by kernel_rfl, ?_⟩) HSW.out ?_
 rotate_left
 ·rintro w ⟨e0,e1,e2,e3,e4,e5,e6,e7,e8,e9,e10⟩; go_simp; try with_reducible rfl
 conv in (Act.put _ _ _) => simp only [List.getElem_toArray, List.getElem_cons_succ, List.getElem_cons_zero, Act.put, List.setIfInBounds_toArray, List.set_cons_succ, List.set_cons_zero]
 refine wpAnyH_take (i := 8) (v := ?_) rfl (by kernel_rfl) (by kernel_rfl) (by kernel_rfl) (fun _ _ _ h => h) (Or.inl ⟨by kernel_rfl, ?_⟩) HSW.out ?_
 rotate_left
 ·rintro w ⟨e0,e1,e2,e3,e4,e5,e6,e7,e8,e9,e10⟩; go_simp; try with_reducible rfl
 conv in (Act.put _ _ _) => simp only [List.getElem_toArray, List.getElem_cons_succ, List.getElem_cons_zero, Act.put, List.setIfInBounds_toArray, List.set_cons_succ, List.set_cons_zero]
 refine wpAnyH_done (by kernel_rfl) ?_ _
 go_wp2_with fail
 go_ret
 exact ⟨rfl, HB3.out⟩
end Go.Proofs.Ytimdlohdmddnjaa.Rf
