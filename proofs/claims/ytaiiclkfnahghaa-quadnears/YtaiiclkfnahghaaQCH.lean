/- Far, Within. -/
import Derived.Test.YtaiiclkfnahghaaQCD
namespace Go.Proofs.Ytaiiclkfnahghaa.Rc
open Go.RowKit Go.Lib
set_option maxHeartbeats 1000000 in
set_option maxRecDepth 100000 in
theorem far_no (X Y : Nat) (L : Int) (x y : Nat) (hX : X < 4294967296) (hY : Y < 4294967296) (h : (rightS X Y L && onS x y) = false) (w : World) :
    Calls Try.prog 32 #[cv X Y L, .int .u32 (x : Int), .int .u32 (y : Int)] w fun e w' => e = .returned (.tuple #[.int .u64 0, .int .i64 2]) ∧ Below w.heap.size w w' := by
  have HC : Hid _ := right_any X Y L hX hY
  have HD : Hid _ := onPlane_any x y
  cases h1 : rightS X Y L
  · rw [h1] at HC
    clear h h1 HD hX hY
    go_enter Try.func32, Try.ntmps32
    go_wp2_with fail
    refine (HC.out _).mono ?_
    rintro e w1 ⟨rfl, b1⟩
    have HB : Hid (Below w.heap.size w w1) := (below_new w _).trans (b1.mono (by simp))
    clear b1
    go_wp2_with fail
    exact bodyPost_ret (results_tmp2 rfl _ _ _) rfl ⟨rfl, HB.out⟩
  · rw [h1] at HC h
    have h2 : onS x y = false := by simpa using h
    rw [h2] at HD
    clear h h1 h2 hX hY
    go_enter Try.func32, Try.ntmps32
    go_wp2_with fail
    refine (HC.out _).mono ?_
    rintro e w1 ⟨rfl, b1⟩
    have HB : Hid (Below w.heap.size w w1) := (below_new w _).trans (b1.mono (by simp))
    clear b1
    go_wp2_with fail
    refine (HD.out _).mono ?_
    rintro e w2 ⟨rfl, hw2⟩
    subst hw2
    go_wp2_with fail
    exact bodyPost_ret (results_tmp2 rfl _ _ _) rfl ⟨rfl, HB.out⟩
set_option maxRecDepth 100000 in
theorem sq_wrap (a b : Nat) (h1 : a * a ≤ 2147483647 * 2147483647) (h2 : b * b ≤ 2147483647 * 2147483647) : IntKind.u64.wrap (IntKind.u64.wrap ((a : Int) * (a : Int)) + IntKind.u64.wrap ((b : Int) * (b : Int))) = ((a * a + b * b : Nat) : Int) := by
  rw [← Int.natCast_mul, ← Int.natCast_mul]
  generalize a * a = p at *
  generalize b * b = q at *
  simp only [IntKind.wrap, IntKind.bits, IntKind.signed]
  simp
  omega
set_option maxHeartbeats 1000000 in
set_option maxRecDepth 100000 in
theorem far_ok (X Y n x y : Nat) (cl : Cl X Y n) (h : onS x y = true) (w : World) :
    Calls Try.prog 32 #[cv X Y (n : Int), .int .u32 (x : Int), .int .u32 (y : Int)] w fun e w' => e = .returned (.tuple #[.int .u64 (farS X Y n x y : Int), .int .i64 0]) ∧ Below w.heap.size w w' := by
  have h1 := (rightS_nat X Y n).2 cl
  have HC : Hid _ := right_any X Y (n : Int) (by have := cl.x31; omega) (by have := cl.y31; omega)
  have HD : Hid _ := onPlane_any x y
  have HQ : Hid _ := reach_any X Y n cl.n31
  rw [h] at HD
  rw [h1] at HC
  have hx := cl.xe
  have hy := cl.ye
  have hp := Nat.two_pow_pos n
  unfold onS at h
  rw [decide_eq_true_iff] at h
  have HX : Hid _ := gap_any x X (X + (2 ^ n - 1)) (by omega) (by omega) (by omega)
  have HY : Hid _ := gap_any y Y (Y + (2 ^ n - 1)) (by omega) (by omega) (by omega)
  have HE : Hid (X + 2 ^ n ≤ 2147483648 ∧ Y + 2 ^ n ≤ 2147483648 ∧ 0 < 2 ^ n) := ⟨hx, hy, hp⟩
  have g1 : gp x X (X + (2 ^ n - 1)) = gapS x X n := by
    unfold gp gapS
    split
    · rfl
    · split
      · rw [if_pos (by omega)]
      · rw [if_neg (by omega)]
  have g2 : gp y Y (Y + (2 ^ n - 1)) = gapS y Y n := by
    unfold gp gapS
    split
    · rfl
    · split
      · rw [if_pos (by omega)]
      · rw [if_neg (by omega)]
  rw [g1] at HX
  rw [g2] at HY
  have k1 := gap_lt hx h.1
  have k2 := gap_lt hy h.2
  unfold farS
  clear h1 h hx hy hp g1 g2 cl
  generalize gapS x X n = gx at *
  generalize gapS y Y n = gy at *
  generalize 2 ^ n = s at *
  have m1 : gx * gx ≤ 2147483647 * 2147483647 := Nat.mul_le_mul (by omega) (by omega)
  have m2 : gy * gy ≤ 2147483647 * 2147483647 := Nat.mul_le_mul (by omega) (by omega)
  have HM : Hid (gx * gx ≤ 2147483647 * 2147483647 ∧ gy * gy ≤ 2147483647 * 2147483647) := ⟨m1, m2⟩
  clear m1 m2 k1 k2
  obtain ⟨xr, hxr⟩ : ∃ xr, X + (s - 1) = xr := ⟨_, rfl⟩
  obtain ⟨yr, hyr⟩ : ∃ yr, Y + (s - 1) = yr := ⟨_, rfl⟩
  rw [hxr] at HX
  rw [hyr] at HY
  have p1 : IntKind.u32.wrap ((X : Int) + ((s - 1 : Nat) : Int)) = (xr : Int) := by have := HE.out; rw [IntKind.wrap_u32']; omega
  have p2 : IntKind.u32.wrap ((Y : Int) + ((s - 1 : Nat) : Int)) = (yr : Int) := by have := HE.out; rw [IntKind.wrap_u32']; omega
  clear hxr hyr
  generalize s - 1 = t at *
  go_enter Try.func32, Try.ntmps32
  go_wp2_with fail
  refine (HC.out _).mono ?_
  rintro e w1 ⟨rfl, b1⟩
  have HB : Hid (Below w.heap.size w w1) := (below_new w _).trans (b1.mono (by simp))
  have HS : Hid (CelS w.heap.size X Y (n : Int) w1 ∧ w.heap.size < w1.heap.size) := ⟨(cel_new X Y n w).below b1 (by simp), Nat.lt_of_lt_of_le (by simp) b1.size⟩
  clear b1
  go_wp2_with fail
  refine (HD.out _).mono ?_
  rintro e w2 ⟨rfl, hw2⟩
  subst hw2
  obtain ⟨e0, e1, e2⟩ := HS.out.1
  go_wp2_with fail
  clear e0 e1 e2
  have HSW : Hid (CelS w.heap.size X Y (n : Int) w2.drew) := HS.out.1
  have HB2 : Hid (Below w.heap.size w w2.drew) := HB.out.drew
  have HL : Hid (w.heap.size < w2.drew.heap.size) := HS.out.2
  refine wp_region_held (S := CelS w.heap.size X Y (n : Int)) (by kernel_rfl) ?_
  change wpAnyH _ _ _ _ _ _ _ _ (World.drew _)
  refine wpAnyH_take (i := 0) (v := ?_) rfl (by kernel_rfl) (by kernel_rfl) (by kernel_rfl) (fun _ _ _ h => h) (Or.inl ⟨by kernel_rfl, ?_⟩) HSW.out ?_
  rotate_left
  · intro w hS
    obtain ⟨e1, e2, e3⟩ := hS
    go_simp
    try with_reducible rfl
  conv in (Act.put _ _ _) => simp only [List.getElem_toArray, List.getElem_cons_succ, List.getElem_cons_zero, Act.put, List.setIfInBounds_toArray, List.set_cons_succ, List.set_cons_zero]
  refine wpAnyH_take (i := 1) (v := ?_) rfl (by kernel_rfl) (by kernel_rfl) (by kernel_rfl) (fun _ _ _ h => h) (Or.inl ⟨by kernel_rfl, ?_⟩) HSW.out ?_
  rotate_left
  · intro w hS
    obtain ⟨e1, e2, e3⟩ := hS
    go_simp
    try with_reducible rfl
  conv in (Act.put _ _ _) => simp only [List.getElem_toArray, List.getElem_cons_succ, List.getElem_cons_zero, Act.put, List.setIfInBounds_toArray, List.set_cons_succ, List.set_cons_zero]
  refine wpAnyH_take (i := 2) (v := ?_) rfl (by kernel_rfl) (by kernel_rfl) (by kernel_rfl) (fun _ _ _ h => h) (Or.inl ⟨by kernel_rfl, ?_⟩) HSW.out ?_
  rotate_left
  · intro w hS
    obtain ⟨e1, e2, e3⟩ := hS
    go_simp
    try with_reducible rfl
  conv in (Act.put _ _ _) => simp only [List.getElem_toArray, List.getElem_cons_succ, List.getElem_cons_zero, Act.put, List.setIfInBounds_toArray, List.set_cons_succ, List.set_cons_zero]
  refine wpAnyH_take (i := 3) (v := ?_) rfl (by kernel_rfl) (by kernel_rfl) (by kernel_rfl) (fun _ _ _ h => h) (Or.inl ⟨by kernel_rfl, ?_⟩) HSW.out ?_
  rotate_left
  · intro w hS
    obtain ⟨e1, e2, e3⟩ := hS
    go_simp
    try with_reducible rfl
  conv in (Act.put _ _ _) => simp only [List.getElem_toArray, List.getElem_cons_succ, List.getElem_cons_zero, Act.put, List.setIfInBounds_toArray, List.set_cons_succ, List.set_cons_zero]
  refine wpAnyH_take (i := 4) (v := ?_) rfl (by kernel_rfl) (by kernel_rfl) (by kernel_rfl) (fun _ _ _ h => h) (Or.inl ⟨by kernel_rfl, ?_⟩) HSW.out ?_
  rotate_left
  · intro w hS
    obtain ⟨e1, e2, e3⟩ := hS
    go_simp
    try with_reducible rfl
  conv in (Act.put _ _ _) => simp only [List.getElem_toArray, List.getElem_cons_succ, List.getElem_cons_zero, Act.put, List.setIfInBounds_toArray, List.set_cons_succ, List.set_cons_zero]
  refine wpAnyH_take (i := 5) (v := ?_) rfl (by kernel_rfl) (by kernel_rfl) (by kernel_rfl) (fun _ _ _ h => h) (Or.inl ⟨by kernel_rfl, ?_⟩) HSW.out ?_
  rotate_left
  · intro w hS
    obtain ⟨e1, e2, e3⟩ := hS
    go_simp
    try with_reducible rfl
  conv in (Act.put _ _ _) => simp only [List.getElem_toArray, List.getElem_cons_succ, List.getElem_cons_zero, Act.put, List.setIfInBounds_toArray, List.set_cons_succ, List.set_cons_zero]
  refine wpAnyH_take (i := 9) (v := ?_) rfl (by kernel_rfl) (by kernel_rfl) (by kernel_rfl) (fun _ _ _ h => h) (Or.inl ⟨by kernel_rfl, ?_⟩) HSW.out ?_
  rotate_left
  · intro w hS
    obtain ⟨e1, e2, e3⟩ := hS
    go_simp
    try with_reducible rfl
  conv in (Act.put _ _ _) => simp only [List.getElem_toArray, List.getElem_cons_succ, List.getElem_cons_zero, Act.put, List.setIfInBounds_toArray, List.set_cons_succ, List.set_cons_zero]
  refine wpAnyH_take (i := 10) (v := ?_) rfl (by kernel_rfl) (by kernel_rfl) (by kernel_rfl) (fun _ _ _ h => h) (Or.inl ⟨by kernel_rfl, ?_⟩) HSW.out ?_
  rotate_left
  · intro w hS
    obtain ⟨e1, e2, e3⟩ := hS
    go_simp
    try with_reducible rfl
  conv in (Act.put _ _ _) => simp only [List.getElem_toArray, List.getElem_cons_succ, List.getElem_cons_zero, Act.put, List.setIfInBounds_toArray, List.set_cons_succ, List.set_cons_zero]
  refine wpAnyH_take (i := 11) (v := ?_) rfl (by kernel_rfl) (by kernel_rfl) (by kernel_rfl) (fun _ _ _ h => h) (Or.inl ⟨by kernel_rfl, ?_⟩) HSW.out ?_
  rotate_left
  · intro w hS
    obtain ⟨e1, e2, e3⟩ := hS
    go_simp
    try with_reducible rfl
  conv in (Act.put _ _ _) => simp only [List.getElem_toArray, List.getElem_cons_succ, List.getElem_cons_zero, Act.put, List.setIfInBounds_toArray, List.set_cons_succ, List.set_cons_zero]
  refine wpAnyH_take (i := 12) (v := ?_) rfl (by kernel_rfl) (by kernel_rfl) (by kernel_rfl) (fun _ _ _ h => h) (Or.inl ⟨by kernel_rfl, ?_⟩) HSW.out ?_
  rotate_left
  · intro w hS
    obtain ⟨e1, e2, e3⟩ := hS
    go_simp
    try with_reducible rfl
  conv in (Act.put _ _ _) => simp only [List.getElem_toArray, List.getElem_cons_succ, List.getElem_cons_zero, Act.put, List.setIfInBounds_toArray, List.set_cons_succ, List.set_cons_zero]
  refine wpAnyH_take (i := 13) (v := ?_) rfl (by kernel_rfl) (by kernel_rfl) (by kernel_rfl) (fun _ _ _ h => h) (Or.inl ⟨by kernel_rfl, ?_⟩) HSW.out ?_
  rotate_left
  · intro w hS
    obtain ⟨e1, e2, e3⟩ := hS
    go_simp
    try with_reducible rfl
  conv in (Act.put _ _ _) => simp only [List.getElem_toArray, List.getElem_cons_succ, List.getElem_cons_zero, Act.put, List.setIfInBounds_toArray, List.set_cons_succ, List.set_cons_zero]
  refine wpAnyH_take (i := 14) (v := ?_) rfl (by kernel_rfl) (by kernel_rfl) (by kernel_rfl) (fun _ _ _ h => h) (Or.inl ⟨by kernel_rfl, ?_⟩) HSW.out ?_
  rotate_left
  · intro w hS
    obtain ⟨e1, e2, e3⟩ := hS
    go_simp
    try with_reducible rfl
  conv in (Act.put _ _ _) => simp only [List.getElem_toArray, List.getElem_cons_succ, List.getElem_cons_zero, Act.put, List.setIfInBounds_toArray, List.set_cons_succ, List.set_cons_zero]
  refine readyH 6 _ (by kernel_rfl) rfl (by kernel_rfl) (fun K hK => ?_)
  go_simp
  refine (HQ.out _).mono ?_
  rintro e w3 ⟨rfl, b3⟩
  replace HSW : Hid (CelS w.heap.size X Y (n : Int) w3) := HSW.out.below b3 HL.out
  replace HB2 : Hid (Below w.heap.size w w3) := HB2.out.trans (b3.mono (Nat.le_of_lt HL.out))
  replace HL : Hid (w.heap.size < w3.heap.size) := Nat.lt_of_lt_of_le HL.out b3.size
  refine hK _ _ HSW.out ?_
  clear hK K b3
  refine wpAnyH_take (i := 7) (v := ?_) rfl (by kernel_rfl) (by kernel_rfl) (by kernel_rfl) (fun _ _ _ h => h) (Or.inl ⟨by kernel_rfl, ?_⟩) HSW.out ?_
  rotate_left
  · intro w hS
    obtain ⟨e1, e2, e3⟩ := hS
    go_simp
    try with_reducible rfl
  conv in (Act.put _ _ _) => simp only [List.getElem_toArray, List.getElem_cons_succ, List.getElem_cons_zero, Act.put, List.setIfInBounds_toArray, List.set_cons_succ, List.set_cons_zero]
  refine readyH 8 _ (by kernel_rfl) rfl (by kernel_rfl) (fun K hK => ?_)
  go_simp
  refine (HX.out _).mono ?_
  rintro e w4 ⟨rfl, hw4⟩
  subst hw4
  refine hK _ _ HSW.out ?_
  clear hK K
  refine readyH 15 _ (by kernel_rfl) rfl (by kernel_rfl) (fun K hK => ?_)
  go_simp
  refine (HQ.out _).mono ?_
  rintro e w5 ⟨rfl, b5⟩
  replace HSW : Hid (CelS w.heap.size X Y (n : Int) w5) := HSW.out.below b5 HL.out
  replace HB2 : Hid (Below w.heap.size w w5) := HB2.out.trans (b5.mono (Nat.le_of_lt HL.out))
  refine hK _ _ HSW.out ?_
  clear hK K b5
  refine wpAnyH_take (i := 16) (v := ?_) rfl (by kernel_rfl) (by kernel_rfl) (by kernel_rfl) (fun _ _ _ h => h) (Or.inl ⟨by kernel_rfl, ?_⟩) HSW.out ?_
  rotate_left
  · intro w hS
    obtain ⟨e1, e2, e3⟩ := hS
    go_simp
    try with_reducible rfl
  conv in (Act.put _ _ _) => simp only [List.getElem_toArray, List.getElem_cons_succ, List.getElem_cons_zero, Act.put, List.setIfInBounds_toArray, List.set_cons_succ, List.set_cons_zero]
  refine readyH 17 _ (by kernel_rfl) rfl (by kernel_rfl) (fun K hK => ?_)
  go_simp
  refine (HY.out _).mono ?_
  rintro e w6 ⟨rfl, hw6⟩
  subst hw6
  refine hK _ _ HSW.out ?_
  clear hK K p1 p2
  refine wpAnyH_take (i := 18) (v := ?_) rfl (by kernel_rfl) (by kernel_rfl) (by kernel_rfl) (fun _ _ _ h => h) (Or.inl ⟨by kernel_rfl, ?_⟩) HSW.out ?_
  rotate_left
  · intro w hS
    obtain ⟨e1, e2, e3⟩ := hS
    go_simp
    try with_reducible rfl
  conv in (Act.put _ _ _) => simp only [List.getElem_toArray, List.getElem_cons_succ, List.getElem_cons_zero, Act.put, List.setIfInBounds_toArray, List.set_cons_succ, List.set_cons_zero]
  refine wpAnyH_take (i := 19) (v := ?_) rfl (by kernel_rfl) (by kernel_rfl) (by kernel_rfl) (fun _ _ _ h => h) (Or.inl ⟨by kernel_rfl, ?_⟩) HSW.out ?_
  rotate_left
  · intro w hS
    obtain ⟨e1, e2, e3⟩ := hS
    go_simp
    try with_reducible rfl
  conv in (Act.put _ _ _) => simp only [List.getElem_toArray, List.getElem_cons_succ, List.getElem_cons_zero, Act.put, List.setIfInBounds_toArray, List.set_cons_succ, List.set_cons_zero]
  refine wpAnyH_done (by kernel_rfl) ?_ _
  go_wp2_with fail
  rw [sq_wrap gx gy HM.out.1 HM.out.2]
  exact bodyPost_ret (results_tmp2 rfl _ _ _) rfl ⟨rfl, HB2.out⟩
end Go.Proofs.Ytaiiclkfnahghaa.Rc
/- A row of four points, indexed. -/
namespace Go.Proofs.Ytaiiclkfnahghaa.Rc
open Go.RowKit Go.Lib
/-- The number in a slot. -/
def natOf : Value → Nat | .int _ x => x.toNat | _ => 0
set_option maxRecDepth 100000 in
theorem ix0 (a b c d e f g h : Value) (w : World) : (Instr.index 119 (.agg #[a, b, c, d, e, f, g, h]) (.int .i64 0)).run Try.prog w = .ok (.agg #[a, b]) w := by kernel_rfl
set_option maxRecDepth 100000 in
theorem ix1 (a b c d e f g h : Value) (w : World) : (Instr.index 119 (.agg #[a, b, c, d, e, f, g, h]) (.int .i64 1)).run Try.prog w = .ok (.agg #[c, d]) w := by kernel_rfl
set_option maxRecDepth 100000 in
theorem ix2 (a b c d e f g h : Value) (w : World) : (Instr.index 119 (.agg #[a, b, c, d, e, f, g, h]) (.int .i64 2)).run Try.prog w = .ok (.agg #[e, f]) w := by kernel_rfl
set_option maxRecDepth 100000 in
theorem ix3 (a b c d e f g h : Value) (w : World) : (Instr.index 119 (.agg #[a, b, c, d, e, f, g, h]) (.int .i64 3)).run Try.prog w = .ok (.agg #[g, h]) w := by kernel_rfl
end Go.Proofs.Ytaiiclkfnahghaa.Rc
