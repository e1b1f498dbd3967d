/- Within. -/
import Derived.Test.YtpfjfekpjlfibaaPCJ
namespace Go.Proofs.Ytpfjfekpjlfibaa.Rc
open Go.RowKit Go.Lib
attribute [local go_sem] ix0 ix1 ix2 ix3
set_option maxHeartbeats 1000000 in
set_option maxRecDepth 100000 in
theorem within_no (X Y : Nat) (L : Int) (a b c d : Nat) (hX : X < 4294967296) (hY : Y < 4294967296) (h1 : rightS X Y L = false) (w : World) :
    Calls Try.prog 31 #[cv X Y L, bv a b c d] w fun e w' => e = .returned (.bool false) ∧ Below w.heap.size w w' := by
  have HC : Hid _ := right_any X Y L hX hY
  have HN : Hid _ := cb_new X Y L a b c d w
  rw [h1] at HC
  clear h1 hX hY
  go_enter Try.func31, Try.ntmps31
  go_wp2_with fail
  refine (HC.out _).mono ?_
  rintro e w1 ⟨rfl, b1⟩
  have HB : Hid (CB w X Y L a b c d w1) := HN.out.next b1
  clear b1
  go_wp2_with fail
  go_ret
  exact ⟨rfl, HB.out.bel⟩
/-- Is that corner in the box? -/
def cin (X xr Y yr a b c d : Nat) : Nat → Bool
  | 0 => inS a b c d X Y
  | 1 => inS a b c d xr Y
  | 2 => inS a b c d X yr
  | _ => inS a b c d xr yr
set_option maxRecDepth 100000 in
theorem within_cin {X Y n a b c d : Nat} (cl : Cl X Y n) : withinS X Y (n : Int) a b c d = true ↔ ∀ j, j < 4 → cin X (X + (2 ^ n - 1)) Y (Y + (2 ^ n - 1)) a b c d j = true := by
  have hp := Nat.two_pow_pos n
  have hx := cl.xe
  constructor
  · intro h j hj
    unfold withinS at h
    rw [decide_eq_true_iff, Int.toNat_natCast] at h
    obtain rfl | rfl | rfl | rfl : j = 0 ∨ j = 1 ∨ j = 2 ∨ j = 3 := by omega
    all_goals simp only [cin]
    all_goals unfold inS
    all_goals rw [decide_eq_true_iff]
    all_goals refine ⟨h.2.1, ?_⟩
    all_goals omega
  · intro h
    have h0 := h 0 (by omega)
    have h3 := h 3 (by omega)
    simp only [cin] at h0 h3
    unfold inS at h0 h3
    rw [decide_eq_true_iff] at h0 h3
    unfold withinS
    rw [decide_eq_true_iff, Int.toNat_natCast, rightS_nat]
    exact ⟨cl, h0.1, by omega, by omega, by omega, by omega⟩
set_option maxHeartbeats 1000000 in
set_option maxRecDepth 100000 in
theorem within_ok (X Y n : Nat) (a b c d : Nat) (cl : Cl X Y n) (w : World) :
    Calls Try.prog 31 #[cv X Y (n : Int), bv a b c d] w fun e w' => e = .returned (.bool (withinS X Y (n : Int) a b c d)) ∧ Below w.heap.size w w' := by
  have h1 := (rightS_nat X Y n).2 cl
  have HC : Hid _ := right_any X Y (n : Int) (by have := cl.x31; omega) (by have := cl.y31; omega)
  have HN : Hid _ := cb_new X Y (n : Int) a b c d w
  have HQ : Hid _ := reach_any X Y n cl.n31
  have hx := cl.xe
  have hy := cl.ye
  have hp := Nat.two_pow_pos n
  have HK : Hid _ := corners_any X Y (2 ^ n - 1) (n : Int) (by omega) (by omega)
  rw [h1] at HC
  clear h1 hx hy hp
  go_enter Try.func31, Try.ntmps31
  go_wp2_with fail
  refine (HC.out _).mono ?_
  rintro e w1 ⟨rfl, b1⟩
  have HB : Hid (CB w X Y (n : Int) a b c d w1) := HN.out.next b1
  clear b1
  obtain ⟨e0, e1, e2⟩ := HB.out.cel
  go_wp2_with fail
  clear e0 e1 e2
  replace HB : Hid (CB w X Y (n : Int) a b c d w1.drew) := HB.out.drew
  have HSW : Hid (CelS w.heap.size X Y (n : Int) w1.drew) := HB.out.cel
  refine wp_region_held (S := CelS w.heap.size X Y (n : Int)) (by kernel_rfl) ?_
  change wpAnyH _ _ _ _ _ _ _ _ (World.drew _)
  refine wpAnyH_take (i := 0) (v := ?_) rfl (by kernel_rfl) (by kernel_rfl) (by kernel_rfl) (fun _ _ _ h => h) (Or.inl ⟨by kernel_rfl, ?_⟩) HSW.out ?_
  rotate_left
  · intro w hS
    obtain ⟨e1, e2, e3⟩ := hS
    go_simp
    try with_reducible rfl
  conv in (Act.put _ _ _) => simp only [List.getElem_toArray, List.getElem_cons_succ, List.getElem_cons_zero, Act.put, List.setIfInBounds_toArray, List.set_cons_succ, List.set_cons_zero]
  refine wpAnyH_take (i := 1) (v := ?_) rfl (by kernel_rfl) (by kernel_rfl) (by kernel_rfl) (fun _ _ _ h => h) (Or.inl ⟨by kernel_rfl, ?_⟩) HSW.out ?_
  rotate_left
  · intro w hS
    obtain ⟨e1, e2, e3⟩ := hS
    go_simp
    try with_reducible rfl
  conv in (Act.put _ _ _) => simp only [List.getElem_toArray, List.getElem_cons_succ, List.getElem_cons_zero, Act.put, List.setIfInBounds_toArray, List.set_cons_succ, List.set_cons_zero]
  refine wpAnyH_take (i := 4) (v := ?_) rfl (by kernel_rfl) (by kernel_rfl) (by kernel_rfl) (fun _ _ _ h => h) (Or.inl ⟨by kernel_rfl, ?_⟩) HSW.out ?_
  rotate_left
  · intro w hS
    obtain ⟨e1, e2, e3⟩ := hS
    go_simp
    try with_reducible rfl
  conv in (Act.put _ _ _) => simp only [List.getElem_toArray, List.getElem_cons_succ, List.getElem_cons_zero, Act.put, List.setIfInBounds_toArray, List.set_cons_succ, List.set_cons_zero]
  refine readyH 2 _ (by kernel_rfl) rfl (by kernel_rfl) (fun K hK => ?_)
  go_simp
  refine (HQ.out _).mono ?_
  rintro e w3 ⟨rfl, b3⟩
  replace HB : Hid (CB w X Y (n : Int) a b c d w3) := HB.out.next b3
  refine hK _ _ HB.out.cel ?_
  clear hK K b3
  refine readyH 3 _ (by kernel_rfl) rfl (by kernel_rfl) (fun K hK => ?_)
  go_simp
  refine (HK.out _).mono ?_
  rintro e w4 ⟨rfl, b4⟩
  replace HB : Hid (CB w X Y (n : Int) a b c d w4) := HB.out.next b4
  replace HSW : Hid (CelS w.heap.size X Y (n : Int) w4) := HB.out.cel
  refine hK _ _ HSW.out ?_
  clear hK K b4
  refine wpAnyH_done (by kernel_rfl) ?_ _
  clear HSW HQ HK HC HN
  have HI : Hid (∀ x y w, Calls Try.prog 19 #[bv a b c d, .int .u32 (x : Nat), .int .u32 (y : Nat)] w fun e w' => e = .returned (.bool (inS a b c d x y)) ∧ Below w.heap.size w w') := fun x y w => in_any a b c d x y w
  have HW : Hid (withinS X Y (n : Int) a b c d = true ↔ ∀ j, j < 4 → cin X (X + (2 ^ n - 1)) Y (Y + (2 ^ n - 1)) a b c d j = true) := within_cin cl
  clear cl
  generalize X + (2 ^ n - 1) = xr at *
  generalize Y + (2 ^ n - 1) = yr at *
  go_wp2_with fail
  go_loopw [14] (fun i wr => ∃ k : Nat, k ≤ 4 ∧ i = .int .i64 (k : Int) ∧ CB w X Y (n : Int) a b c d wr ∧ ∀ j, j < k → cin X xr Y yr a b c d j = true) (fun i _ => 4 - natOf i)
  case atStart => exact ⟨0, by omega, rfl, HB.out, fun j hj => by omega⟩
  case round =>
    obtain ⟨k, hk, rfl, hcb, hj⟩ := hrel
    replace HB : Hid (CB w X Y (n : Int) a b c d wr) := hcb
    have HJ : Hid (∀ j, j < k → cin X xr Y yr a b c d j = true) := hj
    clear hcb hj
    have HA : Hid (CB w X Y (n : Int) a b c d (wr.alloc (.cells #[.int .u32 0, .int .u32 0] 59))) := HB.out.next (below_new _ _)
    obtain ⟨f0, f1, f2, f3⟩ := HB.out.box
    have hl1 : w.heap.size + 1 < wr.heap.size := by have := HB.out.two; omega
    obtain rfl | rfl | rfl | rfl | rfl : k = 0 ∨ k = 1 ∨ k = 2 ∨ k = 3 ∨ k = 4 := by omega
    · go_wp2_with fail
      refine (HI.out X Y _).mono ?_
      rintro e w2 ⟨rfl, b2⟩
      have HB2 : Hid (CB w X Y (n : Int) a b c d w2) := HB.out.next ((below_new wr _).trans (b2.mono (by simp)))
      clear b2 f0 f1 f2 f3
      cases hq : inS a b c d X Y
      · have HF : Hid (withinS X Y (n : Int) a b c d = false) := by
          refine (?_ : withinS X Y (n : Int) a b c d = false)
          rw [Bool.eq_false_iff]
          intro h
          have := HW.out.1 h 0 (by omega)
          simp only [cin] at this
          rw [hq] at this; cases this
        clear hq
        go_wp2_with fail
        go_ret
        exact ⟨by rw [HF.out]; rfl, HB2.out.bel⟩
      · have HT : Hid (∀ j, j < 1 → cin X xr Y yr a b c d j = true) := fun j hj => by
          by_cases e : j = 0
          · subst e; exact hq
          · exact HJ.out j (by omega)
        clear hq
        go_wp2_with fail
        go_roundw
        case rel => exact ⟨1, by omega, by go_num, HB2.out, HT.out⟩
        case measure => simp [natOf]
    · go_wp2_with fail
      refine (HI.out xr Y _).mono ?_
      rintro e w2 ⟨rfl, b2⟩
      have HB2 : Hid (CB w X Y (n : Int) a b c d w2) := HB.out.next ((below_new wr _).trans (b2.mono (by simp)))
      clear b2 f0 f1 f2 f3
      cases hq : inS a b c d xr Y
      · have HF : Hid (withinS X Y (n : Int) a b c d = false) := by
          refine (?_ : withinS X Y (n : Int) a b c d = false)
          rw [Bool.eq_false_iff]
          intro h
          have := HW.out.1 h 1 (by omega)
          simp only [cin] at this
          rw [hq] at this; cases this
        clear hq
        go_wp2_with fail
        go_ret
        exact ⟨by rw [HF.out]; rfl, HB2.out.bel⟩
      · have HT : Hid (∀ j, j < 2 → cin X xr Y yr a b c d j = true) := fun j hj => by
          by_cases e : j = 1
          · subst e; exact hq
          · exact HJ.out j (by omega)
        clear hq
        go_wp2_with fail
        go_roundw
        case rel => exact ⟨2, by omega, by go_num, HB2.out, HT.out⟩
        case measure => simp [natOf]
    · go_wp2_with fail
      refine (HI.out X yr _).mono ?_
      rintro e w2 ⟨rfl, b2⟩
      have HB2 : Hid (CB w X Y (n : Int) a b c d w2) := HB.out.next ((below_new wr _).trans (b2.mono (by simp)))
      clear b2 f0 f1 f2 f3
      cases hq : inS a b c d X yr
      · have HF : Hid (withinS X Y (n : Int) a b c d = false) := by
          refine (?_ : withinS X Y (n : Int) a b c d = false)
          rw [Bool.eq_false_iff]
          intro h
          have := HW.out.1 h 2 (by omega)
          simp only [cin] at this
          rw [hq] at this; cases this
        clear hq
        go_wp2_with fail
        go_ret
        exact ⟨by rw [HF.out]; rfl, HB2.out.bel⟩
      · have HT : Hid (∀ j, j < 3 → cin X xr Y yr a b c d j = true) := fun j hj => by
          by_cases e : j = 2
          · subst e; exact hq
          · exact HJ.out j (by omega)
        clear hq
        go_wp2_with fail
        go_roundw
        case rel => exact ⟨3, by omega, by go_num, HB2.out, HT.out⟩
        case measure => simp [natOf]
    · go_wp2_with fail
      refine (HI.out xr yr _).mono ?_
      rintro e w2 ⟨rfl, b2⟩
      have HB2 : Hid (CB w X Y (n : Int) a b c d w2) := HB.out.next ((below_new wr _).trans (b2.mono (by simp)))
      clear b2 f0 f1 f2 f3
      cases hq : inS a b c d xr yr
      · have HF : Hid (withinS X Y (n : Int) a b c d = false) := by
          refine (?_ : withinS X Y (n : Int) a b c d = false)
          rw [Bool.eq_false_iff]
          intro h
          have := HW.out.1 h 3 (by omega)
          simp only [cin] at this
          rw [hq] at this; cases this
        clear hq
        go_wp2_with fail
        go_ret
        exact ⟨by rw [HF.out]; rfl, HB2.out.bel⟩
      · have HT : Hid (∀ j, j < 4 → cin X xr Y yr a b c d j = true) := fun j hj => by
          by_cases e : j = 3
          · subst e; exact hq
          · exact HJ.out j (by omega)
        clear hq
        go_wp2_with fail
        go_roundw
        case rel => exact ⟨4, by omega, by go_num, HB2.out, HT.out⟩
        case measure => simp [natOf]
    · have HF : Hid (withinS X Y (n : Int) a b c d = true) := HW.out.2 HJ.out
      go_wp2_with fail
      go_ret
      exact ⟨by rw [HF.out]; rfl, HB.out.bel⟩
end Go.Proofs.Ytpfjfekpjlfibaa.Rc
