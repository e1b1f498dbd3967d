/- The reference: Within. -/
import Derived.Test.YtpfjfekpjlfibaaPEB
namespace Go.Proofs.Ytpfjfekpjlfibaa.Rc
open Go.RowKit Go.Lib
set_option maxHeartbeats 2000000 in
set_option maxRecDepth 100000 in
theorem eWithin_no (X Y : Nat) (L : Int) (a b c d : Nat) (p q : Bool) (HC : Hid (∀ w, Calls Try.prog 14 #[cv X Y L] w fun e w' => e = .returned (.bool p) ∧ Below w.heap.size w w')) (HD : Hid (∀ w, Calls Try.prog 16 #[bv a b c d] w fun e w' => e = .returned (.bool q) ∧ Below w.heap.size w w')) (h : (p && q) = false) (w : World) :
    Calls Try.prog 32 #[cv X Y L, bv a b c d] w fun e w' => e = .returned (.bool false) ∧ Below w.heap.size w w' := by
  have HN : Hid _ := cb_new X Y L a b c d w
  cases p
  · clear h
    go_enter Try.func32, Try.ntmps32
    go_wp2_with fail
    refine (HC.out _).mono ?_
    rintro e w1 ⟨rfl, b1⟩
    have HB : Hid (CB w X Y L a b c d w1) := HN.out.next b1
    obtain ⟨e0, e1, e2, e3⟩ := HB.out.box
    clear b1
    go_wp2_with fail
    refine (HD.out _).mono ?_
    rintro e w2 ⟨rfl, b2⟩
    replace HB : Hid (CB w X Y L a b c d w2) := HB.out.next b2
    clear b2 e0 e1 e2 e3
    go_wp2_with fail
    go_ret
    exact ⟨rfl, HB.out.bel⟩
  · obtain rfl : q = false := by simpa using h
    clear h
    go_enter Try.func32, Try.ntmps32
    go_wp2_with fail
    refine (HC.out _).mono ?_
    rintro e w1 ⟨rfl, b1⟩
    have HB : Hid (CB w X Y L a b c d w1) := HN.out.next b1
    obtain ⟨e0, e1, e2, e3⟩ := HB.out.box
    clear b1
    go_wp2_with fail
    refine (HD.out _).mono ?_
    rintro e w2 ⟨rfl, b2⟩
    replace HB : Hid (CB w X Y L a b c d w2) := HB.out.next b2
    clear b2 e0 e1 e2 e3
    go_wp2_with fail
    go_ret
    exact ⟨rfl, HB.out.bel⟩
set_option maxHeartbeats 2000000 in
set_option maxRecDepth 100000 in
theorem eWithin_ok (X Y n : Nat) (a b c d : Nat) (cl : Cl X Y n) (h2 : boxS a b c d = true) (w : World) :
    Calls Try.prog 32 #[cv X Y (n : Int), bv a b c d] w fun e w' => e = .returned (.bool (withinS X Y (n : Int) a b c d)) ∧ Below w.heap.size w w' := by
  have h1 := (rightS_nat X Y n).2 cl
  have HC : Hid _ := eRight_any X Y (n : Int) (by have := cl.x31; omega) (by have := cl.y31; omega)
  have HD : Hid _ := eRightBox_any a b c d
  have HZ : Hid _ := eSize_any X Y n cl.n31
  have HN : Hid _ := cb_new X Y (n : Int) a b c d w
  have hT : withinS X Y (n : Int) a b c d = decide (a ≤ X ∧ X + 2 ^ n ≤ c + 1 ∧ b ≤ Y ∧ Y + 2 ^ n ≤ d + 1) := by unfold withinS; rw [h1, h2, Int.toNat_natCast]; simp
  have HT : Hid (withinS X Y (n : Int) a b c d = decide (a ≤ X ∧ X + 2 ^ n ≤ c + 1 ∧ b ≤ Y ∧ Y + 2 ^ n ≤ d + 1)) := hT
  rw [h1] at HC
  rw [h2] at HD
  have hx := cl.xe
  have hy := cl.ye
  have hp := Nat.two_pow_pos n
  have hb := h2
  unfold boxS at hb
  rw [decide_eq_true_iff] at hb
  have X64 := u64_in X (by omega)
  have Y64 := u64_in Y (by omega)
  have c64 := u64_in c (by omega)
  have d64 := u64_in d (by omega)
  have a1 : IntKind.u64.wrap ((X : Int) + ((2 ^ n : Nat) : Int)) = ((X + 2 ^ n : Nat) : Int) := by rw [← Int.natCast_add]; exact u64_in _ (by omega)
  have a2 : IntKind.u64.wrap ((Y : Int) + ((2 ^ n : Nat) : Int)) = ((Y + 2 ^ n : Nat) : Int) := by rw [← Int.natCast_add]; exact u64_in _ (by omega)
  have a3 : IntKind.u64.wrap (((X + 2 ^ n : Nat) : Int) - 1) = ((X + 2 ^ n - 1 : Nat) : Int) := by rw [show ((X + 2 ^ n : Nat) : Int) - 1 = ((X + 2 ^ n - 1 : Nat) : Int) by omega]; exact u64_in _ (by omega)
  have a4 : IntKind.u64.wrap (((Y + 2 ^ n : Nat) : Int) - 1) = ((Y + 2 ^ n - 1 : Nat) : Int) := by rw [show ((Y + 2 ^ n : Nat) : Int) - 1 = ((Y + 2 ^ n - 1 : Nat) : Int) by omega]; exact u64_in _ (by omega)
  obtain ⟨xs, hxs⟩ : ∃ xs, X + 2 ^ n = xs := ⟨_, rfl⟩
  obtain ⟨ys, hys⟩ : ∃ ys, Y + 2 ^ n = ys := ⟨_, rfl⟩
  rw [hxs] at a1 a3 HT hx
  rw [hys] at a2 a4 HT hy
  have HE : Hid (0 < xs ∧ 0 < ys) := ⟨by omega, by omega⟩
  clear h1 h2 hT cl hb hxs hys hp hx hy
  obtain ⟨xe, hxe⟩ : ∃ xe, xs - 1 = xe := ⟨_, rfl⟩
  obtain ⟨ye, hye⟩ : ∃ ye, ys - 1 = ye := ⟨_, rfl⟩
  rw [hxe] at a3
  rw [hye] at a4
  have HX : Hid (xs - 1 = xe ∧ ys - 1 = ye) := ⟨hxe, hye⟩
  clear hxe hye
  generalize 2 ^ n = s at *
  go_enter Try.func32, Try.ntmps32
  go_wp2_with fail
  refine (HC.out _).mono ?_
  rintro e w1 ⟨rfl, b1⟩
  have HB : Hid (CB w X Y (n : Int) a b c d w1) := HN.out.next b1
  obtain ⟨e0, e1, e2, e3⟩ := HB.out.box
  clear b1
  go_wp2_with fail
  refine (HD.out _).mono ?_
  rintro e w2 ⟨rfl, b2⟩
  replace HB : Hid (CB w X Y (n : Int) a b c d w2) := HB.out.next b2
  clear b2 e0 e1 e2 e3
  go_wp2_with fail
  replace HB : Hid (CB w X Y (n : Int) a b c d w2.drew) := HB.out.drew
  have HSW : Hid (CelS w.heap.size X Y (n : Int) w2.drew) := HB.out.cel
  refine wp_region_held (S := CelS w.heap.size X Y (n : Int)) (by kernel_rfl) ?_
  change wpAnyH _ _ _ _ _ _ _ _ (World.drew _)
  refine wpAnyH_take (i := 0) (v := ?_) rfl (by kernel_rfl) (by kernel_rfl) (by kernel_rfl) (fun _ _ _ h => h) (Or.inl ⟨by kernel_rfl, ?_⟩) HSW.out ?_
  rotate_left
  · intro w hS
    obtain ⟨e1, e2, e3⟩ := hS
    go_simp
    try with_reducible rfl
  conv in (Act.put _ _ _) => simp only [List.getElem_toArray, List.getElem_cons_succ, List.getElem_cons_zero, Act.put, List.setIfInBounds_toArray, List.set_cons_succ, List.set_cons_zero]
  refine wpAnyH_take (i := 1) (v := ?_) rfl (by kernel_rfl) (by kernel_rfl) (by kernel_rfl) (fun _ _ _ h => h) (Or.inl ⟨by kernel_rfl, ?_⟩) HSW.out ?_
  rotate_left
  · intro w hS
    obtain ⟨e1, e2, e3⟩ := hS
    go_simp
    try with_reducible rfl
  conv in (Act.put _ _ _) => simp only [List.getElem_toArray, List.getElem_cons_succ, List.getElem_cons_zero, Act.put, List.setIfInBounds_toArray, List.set_cons_succ, List.set_cons_zero]
  refine wpAnyH_take (i := 2) (v := ?_) rfl (by kernel_rfl) (by kernel_rfl) (by kernel_rfl) (fun _ _ _ h => h) (Or.inl ⟨by kernel_rfl, ?_⟩) HSW.out ?_
  rotate_left
  · intro w hS
    obtain ⟨e1, e2, e3⟩ := hS
    go_simp
    try with_reducible rfl
  conv in (Act.put _ _ _) => simp only [List.getElem_toArray, List.getElem_cons_succ, List.getElem_cons_zero, Act.put, List.setIfInBounds_toArray, List.set_cons_succ, List.set_cons_zero]
  refine wpAnyH_take (i := 3) (v := ?_) rfl (by kernel_rfl) (by kernel_rfl) (by kernel_rfl) (fun _ _ _ h => h) (Or.inl ⟨by kernel_rfl, ?_⟩) HSW.out ?_
  rotate_left
  · intro w hS
    obtain ⟨e1, e2, e3⟩ := hS
    go_simp
    try with_reducible rfl
  conv in (Act.put _ _ _) => simp only [List.getElem_toArray, List.getElem_cons_succ, List.getElem_cons_zero, Act.put, List.setIfInBounds_toArray, List.set_cons_succ, List.set_cons_zero]
  refine readyH 4 _ (by kernel_rfl) rfl (by kernel_rfl) (fun K hK => ?_)
  go_simp
  refine (HZ.out _).mono ?_
  rintro e w3 ⟨rfl, b3⟩
  replace HB : Hid (CB w X Y (n : Int) a b c d w3) := HB.out.next b3
  replace HSW : Hid (CelS w.heap.size X Y (n : Int) w3) := HB.out.cel
  refine hK _ _ HSW.out ?_
  clear hK K b3
  refine wpAnyH_take (i := 5) (v := ?_) rfl (by kernel_rfl) (by kernel_rfl) (by kernel_rfl) (fun _ _ _ h => h) (Or.inl ⟨by kernel_rfl, ?_⟩) HSW.out ?_
  rotate_left
  · intro w hS
    obtain ⟨e1, e2, e3⟩ := hS
    go_simp
    try with_reducible rfl
  conv in (Act.put _ _ _) => simp only [List.getElem_toArray, List.getElem_cons_succ, List.getElem_cons_zero, Act.put, List.setIfInBounds_toArray, List.set_cons_succ, List.set_cons_zero]
  refine wpAnyH_take (i := 6) (v := ?_) rfl (by kernel_rfl) (by kernel_rfl) (by kernel_rfl) (fun _ _ _ h => h) (Or.inl ⟨by kernel_rfl, ?_⟩) HSW.out ?_
  rotate_left
  · intro w hS
    obtain ⟨e1, e2, e3⟩ := hS
    go_simp
    try with_reducible rfl
  conv in (Act.put _ _ _) => simp only [List.getElem_toArray, List.getElem_cons_succ, List.getElem_cons_zero, Act.put, List.setIfInBounds_toArray, List.set_cons_succ, List.set_cons_zero]
  refine wpAnyH_take (i := 7) (v := ?_) rfl (by kernel_rfl) (by kernel_rfl) (by kernel_rfl) (fun _ _ _ h => h) (Or.inl ⟨by kernel_rfl, ?_⟩) HSW.out ?_
  rotate_left
  · intro w hS
    obtain ⟨e1, e2, e3⟩ := hS
    go_simp
    try with_reducible rfl
  conv in (Act.put _ _ _) => simp only [List.getElem_toArray, List.getElem_cons_succ, List.getElem_cons_zero, Act.put, List.setIfInBounds_toArray, List.set_cons_succ, List.set_cons_zero]
  refine wpAnyH_done (by kernel_rfl) ?_ _
  clear HSW
  go_wp2_with fail
  replace HB : Hid (CB w X Y (n : Int) a b c d w3.drew) := HB.out.drew
  have HSW : Hid (CelS w.heap.size X Y (n : Int) w3.drew) := HB.out.cel
  refine wp_region_held (S := CelS w.heap.size X Y (n : Int)) (by kernel_rfl) ?_
  change wpAnyH _ _ _ _ _ _ _ _ (World.drew _)
  refine wpAnyH_take (i := 0) (v := ?_) rfl (by kernel_rfl) (by kernel_rfl) (by kernel_rfl) (fun _ _ _ h => h) (Or.inl ⟨by kernel_rfl, ?_⟩) HSW.out ?_
  rotate_left
  · intro w hS
    obtain ⟨e1, e2, e3⟩ := hS
    go_simp
    try with_reducible rfl
  conv in (Act.put _ _ _) => simp only [List.getElem_toArray, List.getElem_cons_succ, List.getElem_cons_zero, Act.put, List.setIfInBounds_toArray, List.set_cons_succ, List.set_cons_zero]
  refine wpAnyH_take (i := 1) (v := ?_) rfl (by kernel_rfl) (by kernel_rfl) (by kernel_rfl) (fun _ _ _ h => h) (Or.inl ⟨by kernel_rfl, ?_⟩) HSW.out ?_
  rotate_left
  · intro w hS
    obtain ⟨e1, e2, e3⟩ := hS
    go_simp
    try with_reducible rfl
  conv in (Act.put _ _ _) => simp only [List.getElem_toArray, List.getElem_cons_succ, List.getElem_cons_zero, Act.put, List.setIfInBounds_toArray, List.set_cons_succ, List.set_cons_zero]
  refine wpAnyH_take (i := 2) (v := ?_) rfl (by kernel_rfl) (by kernel_rfl) (by kernel_rfl) (fun _ _ _ h => h) (Or.inl ⟨by kernel_rfl, ?_⟩) HSW.out ?_
  rotate_left
  · intro w hS
    obtain ⟨e1, e2, e3⟩ := hS
    go_simp
    try with_reducible rfl
  conv in (Act.put _ _ _) => simp only [List.getElem_toArray, List.getElem_cons_succ, List.getElem_cons_zero, Act.put, List.setIfInBounds_toArray, List.set_cons_succ, List.set_cons_zero]
  refine wpAnyH_take (i := 3) (v := ?_) rfl (by kernel_rfl) (by kernel_rfl) (by kernel_rfl) (fun _ _ _ h => h) (Or.inl ⟨by kernel_rfl, ?_⟩) HSW.out ?_
  rotate_left
  · intro w hS
    obtain ⟨e1, e2, e3⟩ := hS
    go_simp
    try with_reducible rfl
  conv in (Act.put _ _ _) => simp only [List.getElem_toArray, List.getElem_cons_succ, List.getElem_cons_zero, Act.put, List.setIfInBounds_toArray, List.set_cons_succ, List.set_cons_zero]
  refine readyH 4 _ (by kernel_rfl) rfl (by kernel_rfl) (fun K hK => ?_)
  go_simp
  refine (HZ.out _).mono ?_
  rintro e w4 ⟨rfl, b4⟩
  replace HB : Hid (CB w X Y (n : Int) a b c d w4) := HB.out.next b4
  replace HSW : Hid (CelS w.heap.size X Y (n : Int) w4) := HB.out.cel
  refine hK _ _ HSW.out ?_
  clear hK K b4
  refine wpAnyH_take (i := 5) (v := ?_) rfl (by kernel_rfl) (by kernel_rfl) (by kernel_rfl) (fun _ _ _ h => h) (Or.inl ⟨by kernel_rfl, ?_⟩) HSW.out ?_
  rotate_left
  · intro w hS
    obtain ⟨e1, e2, e3⟩ := hS
    go_simp
    try with_reducible rfl
  conv in (Act.put _ _ _) => simp only [List.getElem_toArray, List.getElem_cons_succ, List.getElem_cons_zero, Act.put, List.setIfInBounds_toArray, List.set_cons_succ, List.set_cons_zero]
  refine wpAnyH_take (i := 6) (v := ?_) rfl (by kernel_rfl) (by kernel_rfl) (by kernel_rfl) (fun _ _ _ h => h) (Or.inl ⟨by kernel_rfl, ?_⟩) HSW.out ?_
  rotate_left
  · intro w hS
    obtain ⟨e1, e2, e3⟩ := hS
    go_simp
    try with_reducible rfl
  conv in (Act.put _ _ _) => simp only [List.getElem_toArray, List.getElem_cons_succ, List.getElem_cons_zero, Act.put, List.setIfInBounds_toArray, List.set_cons_succ, List.set_cons_zero]
  refine wpAnyH_take (i := 7) (v := ?_) rfl (by kernel_rfl) (by kernel_rfl) (by kernel_rfl) (fun _ _ _ h => h) (Or.inl ⟨by kernel_rfl, ?_⟩) HSW.out ?_
  rotate_left
  · intro w hS
    obtain ⟨e1, e2, e3⟩ := hS
    go_simp
    try with_reducible rfl
  conv in (Act.put _ _ _) => simp only [List.getElem_toArray, List.getElem_cons_succ, List.getElem_cons_zero, Act.put, List.setIfInBounds_toArray, List.set_cons_succ, List.set_cons_zero]
  refine wpAnyH_done (by kernel_rfl) ?_ _
  clear HSW
  obtain ⟨e0, e1, e2⟩ := HB.out.cel
  obtain ⟨f0, f1, f2, f3⟩ := HB.out.box
  go_wp2_with fail
  all_goals go_ret
  all_goals refine ⟨congrArg Ending.returned (congrArg Value.bool ?_), HB.out.bel⟩
  all_goals rw [HT.out]
  all_goals symm
  all_goals have hE := HE.out
  all_goals have hX := HX.out
  all_goals first | (rw [decide_eq_true_iff]; omega) | (rw [decide_eq_false_iff_not]; omega) | (apply decide_eq_decide.2; omega)
end Go.Proofs.Ytpfjfekpjlfibaa.Rc
