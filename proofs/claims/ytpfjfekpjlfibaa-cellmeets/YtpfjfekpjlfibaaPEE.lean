/- The reference: Square, Far. -/
import Derived.Test.YtpfjfekpjlfibaaPEB
import Derived.Test.YtpfjfekpjlfibaaPCH
namespace Go.Proofs.Ytpfjfekpjlfibaa.Rc
open Go.RowKit Go.Lib
set_option maxRecDepth 100000 in
theorem dist_lt {a b : Nat} (ha : a < 2147483648) (hb : b < 2147483648) : dist a b < 2147483648 := by unfold dist; omega
set_option maxRecDepth 100000 in
theorem sub_dist {a b : Nat} (ha : a < 2147483648) (hb : b < 2147483648) : (max (a : Int) (b : Int) - min (a : Int) (b : Int)) % 4294967296 = (dist a b : Nat) := by unfold dist; omega
set_option maxRecDepth 100000 in
theorem dist_sq {a b : Nat} (ha : a < 2147483648) (hb : b < 2147483648) : dist a b * dist a b ≤ 2147483647 * 2147483647 := Nat.mul_le_mul (by have := dist_lt ha hb; omega) (by have := dist_lt ha hb; omega)
set_option maxHeartbeats 2000000 in
set_option maxRecDepth 100000 in
theorem eSquare_any (x y u v : Nat) (hx : x < 2147483648) (hy : y < 2147483648) (hu : u < 2147483648) (hv : v < 2147483648) (w : World) :
    Calls Try.prog 33 #[.int .u32 (x : Int), .int .u32 (y : Int), .int .u32 (u : Int), .int .u32 (v : Int)] w fun e w' => e = .returned (.int .u64 ((dist x u * dist x u + dist y v * dist y v : Nat) : Int)) ∧ w' = w := by
  have H1 : Hid _ := sub_dist hx hu
  have H2 : Hid _ := sub_dist hy hv
  have HD : Hid _ := sq_wrap (dist x u) (dist y v) (dist_sq hx hu) (dist_sq hy hv)
  clear hx hy hu hv
  go_enter Try.func33, Try.ntmps33
  go_wp2_with fail
  rw [H1.out, H2.out, HD.out]
  go_ret
  exact ⟨rfl, rfl⟩
set_option maxHeartbeats 2000000 in
set_option maxRecDepth 100000 in
theorem eFar_no (X Y : Nat) (L x y : Int) (p : Bool) (HC : Hid (∀ w, Calls Try.prog 14 #[cv X Y L] w fun e w' => e = .returned (.bool p) ∧ Below w.heap.size w w')) (h : p = false ∨ 2147483648 ≤ x ∨ 2147483648 ≤ y) (w : World) :
    Calls Try.prog 28 #[cv X Y L, .int .u32 x, .int .u32 y] w fun e w' => e = .returned (.tuple #[.int .u64 0, .int .i64 2]) ∧ Below w.heap.size w w' := by
  have key : ∀ (w1 : World), Below (w.alloc (.cells #[.int .u32 (X : Int), .int .u32 (Y : Int), .int .i64 L] 24)).heap.size (w.alloc (.cells #[.int .u32 (X : Int), .int .u32 (Y : Int), .int .i64 L] 24)) w1 → Below w.heap.size w w1 := fun w1 b1 => (below_new w _).trans (b1.mono (by simp))
  have HK : Hid _ := key
  clear key
  cases p
  · clear h
    go_enter Try.func28, Try.ntmps28
    go_wp2_with fail
    refine (HC.out _).mono ?_
    rintro e w1 ⟨rfl, b1⟩
    have HB : Hid (Below w.heap.size w w1) := HK.out w1 b1
    clear b1
    go_wp2_with fail
    exact bodyPost_ret (results_tmp2 rfl _ _ _) rfl ⟨rfl, HB.out⟩
  · by_cases q1 : 2147483648 ≤ x
    · clear h
      go_enter Try.func28, Try.ntmps28
      go_wp2_with fail
      refine (HC.out _).mono ?_
      rintro e w1 ⟨rfl, b1⟩
      have HB : Hid (Below w.heap.size w w1) := HK.out w1 b1
      clear b1
      go_wp2_with fail
      exact bodyPost_ret (results_tmp2 rfl _ _ _) rfl ⟨rfl, HB.out⟩
    · have q2 : 2147483648 ≤ y := by rcases h with h | h | h; (cases h); (exact absurd h q1); exact h
      clear h
      go_enter Try.func28, Try.ntmps28
      go_wp2_with fail
      refine (HC.out _).mono ?_
      rintro e w1 ⟨rfl, b1⟩
      have HB : Hid (Below w.heap.size w w1) := HK.out w1 b1
      clear b1
      go_wp2_with fail
      exact bodyPost_ret (results_tmp2 rfl _ _ _) rfl ⟨rfl, HB.out⟩
set_option maxRecDepth 100000 in
/-- The place of a cell that is nearest. -/
theorem dist_gap {x X n : Nat} : dist x (min (max x X) (X + 2 ^ n - 1)) = gapS x X n := by
  have hp := Nat.two_pow_pos n
  unfold dist gapS
  split
  · omega
  · split <;> omega
set_option maxHeartbeats 4000000 in
set_option maxRecDepth 100000 in
theorem eFar_ok (X Y n x y : Nat) (cl : Cl X Y n) (h : onS x y = true) (w : World) :
    Calls Try.prog 28 #[cv X Y (n : Int), .int .u32 (x : Int), .int .u32 (y : Int)] w fun e w' => e = .returned (.tuple #[.int .u64 (farS X Y n x y : Int), .int .i64 0]) ∧ Below w.heap.size w w' := by
  have h1 := (rightS_nat X Y n).2 cl
  have HC : Hid _ := eRight_any X Y (n : Int) (by have := cl.x31; omega) (by have := cl.y31; omega)
  have HZ : Hid _ := eSize_any X Y n cl.n31
  rw [h1] at HC
  have hx := cl.xe
  have hy := cl.ye
  have hp := Nat.two_pow_pos n
  unfold onS at h
  rw [decide_eq_true_iff] at h
  have HQ : Hid _ := eSquare_any x y (min (max x X) (X + 2 ^ n - 1)) (min (max y Y) (Y + 2 ^ n - 1)) h.1 h.2 (by omega) (by omega)
  rw [dist_gap, dist_gap] at HQ
  have X64 := u64_in X (by omega)
  have Y64 := u64_in Y (by omega)
  have a1 : IntKind.u64.wrap ((X : Int) + ((2 ^ n : Nat) : Int)) = ((X + 2 ^ n : Nat) : Int) := by rw [← Int.natCast_add]; exact u64_in _ (by omega)
  have a2 : IntKind.u64.wrap ((Y : Int) + ((2 ^ n : Nat) : Int)) = ((Y + 2 ^ n : Nat) : Int) := by rw [← Int.natCast_add]; exact u64_in _ (by omega)
  have a3 : IntKind.u64.wrap (((X + 2 ^ n : Nat) : Int) - 1) = ((X + 2 ^ n - 1 : Nat) : Int) := by rw [show ((X + 2 ^ n : Nat) : Int) - 1 = ((X + 2 ^ n - 1 : Nat) : Int) by omega]; exact u64_in _ (by omega)
  have a4 : IntKind.u64.wrap (((Y + 2 ^ n : Nat) : Int) - 1) = ((Y + 2 ^ n - 1 : Nat) : Int) := by rw [show ((Y + 2 ^ n : Nat) : Int) - 1 = ((Y + 2 ^ n - 1 : Nat) : Int) by omega]; exact u64_in _ (by omega)
  have m1 : min (max (x : Int) (X : Int)) ((X + 2 ^ n - 1 : Nat) : Int) = ((min (max x X) (X + 2 ^ n - 1) : Nat) : Int) := by omega
  have m2 : min (max (y : Int) (Y : Int)) ((Y + 2 ^ n - 1 : Nat) : Int) = ((min (max y Y) (Y + 2 ^ n - 1) : Nat) : Int) := by omega
  have k1 : IntKind.u32.wrap ((min (max x X) (X + 2 ^ n - 1) : Nat) : Int) = ((min (max x X) (X + 2 ^ n - 1) : Nat) : Int) := by rw [IntKind.wrap_u32']; omega
  have k2 : IntKind.u32.wrap ((min (max y Y) (Y + 2 ^ n - 1) : Nat) : Int) = ((min (max y Y) (Y + 2 ^ n - 1) : Nat) : Int) := by rw [IntKind.wrap_u32']; omega
  have x64 := u64_in x (by omega)
  have y64 := u64_in y (by omega)
  have hz1 : ¬ (2147483648 : Int) ≤ (x : Int) := by omega
  have hz2 : ¬ (2147483648 : Int) ≤ (y : Int) := by omega
  unfold farS
  generalize gapS x X n = gx at *
  generalize gapS y Y n = gy at *
  generalize gx * gx + gy * gy = f at *
  generalize min (max x X) (X + 2 ^ n - 1) = u at *
  generalize min (max y Y) (Y + 2 ^ n - 1) = v at *
  generalize X + 2 ^ n - 1 = xe at *
  generalize Y + 2 ^ n - 1 = ye at *
  generalize X + 2 ^ n = xs at *
  generalize Y + 2 ^ n = ys at *
  generalize 2 ^ n = s at *
  generalize (x : Int) = zx at *
  generalize (y : Int) = zy at *
  clear cl h1 h hx hy hp
  go_enter Try.func28, Try.ntmps28
  go_wp2_with fail
  refine (HC.out _).mono ?_
  rintro e w1 ⟨rfl, b1⟩
  have HB : Hid (Below w.heap.size w w1.drew) := ((below_new w _).trans (b1.mono (by simp))).drew
  have HSW : Hid (CelS w.heap.size X Y (n : Int) w1.drew) := (cel_new X Y n w).below b1.drew (by simp)
  have HL : Hid (w.heap.size < w1.drew.heap.size) := Nat.lt_of_lt_of_le (by simp) b1.size
  clear b1
  go_wp2_with fail
  refine wp_region_held (S := CelS w.heap.size X Y (n : Int)) (by kernel_rfl) ?_
  change wpAnyH _ _ _ _ _ _ _ _ (World.drew _)
  refine wpAnyH_take (i := 0) (v := ?_) rfl (by kernel_rfl) (by kernel_rfl) (by kernel_rfl) (fun _ _ _ h => h) (Or.inl ⟨by kernel_rfl, ?_⟩) HSW.out ?_
  rotate_left
  · intro w hS
    obtain ⟨e1, e2, e3⟩ := hS
    go_simp
    try with_reducible rfl
  conv in (Act.put _ _ _) => simp only [List.getElem_toArray, List.getElem_cons_succ, List.getElem_cons_zero, Act.put, List.setIfInBounds_toArray, List.set_cons_succ, List.set_cons_zero]
  refine wpAnyH_take (i := 1) (v := ?_) rfl (by kernel_rfl) (by kernel_rfl) (by kernel_rfl) (fun _ _ _ h => h) (Or.inl ⟨by kernel_rfl, ?_⟩) HSW.out ?_
  rotate_left
  · intro w hS
    obtain ⟨e1, e2, e3⟩ := hS
    go_simp
    try with_reducible rfl
  conv in (Act.put _ _ _) => simp only [List.getElem_toArray, List.getElem_cons_succ, List.getElem_cons_zero, Act.put, List.setIfInBounds_toArray, List.set_cons_succ, List.set_cons_zero]
  refine wpAnyH_take (i := 2) (v := ?_) rfl (by kernel_rfl) (by kernel_rfl) (by kernel_rfl) (fun _ _ _ h => h) (Or.inl ⟨by kernel_rfl, ?_⟩) HSW.out ?_
  rotate_left
  · intro w hS
    obtain ⟨e1, e2, e3⟩ := hS
    go_simp
    try with_reducible rfl
  conv in (Act.put _ _ _) => simp only [List.getElem_toArray, List.getElem_cons_succ, List.getElem_cons_zero, Act.put, List.setIfInBounds_toArray, List.set_cons_succ, List.set_cons_zero]
  refine wpAnyH_take (i := 3) (v := ?_) rfl (by kernel_rfl) (by kernel_rfl) (by kernel_rfl) (fun _ _ _ h => h) (Or.inl ⟨by kernel_rfl, ?_⟩) HSW.out ?_
  rotate_left
  · intro w hS
    obtain ⟨e1, e2, e3⟩ := hS
    go_simp
    try with_reducible rfl
  conv in (Act.put _ _ _) => simp only [List.getElem_toArray, List.getElem_cons_succ, List.getElem_cons_zero, Act.put, List.setIfInBounds_toArray, List.set_cons_succ, List.set_cons_zero]
  refine wpAnyH_take (i := 4) (v := ?_) rfl (by kernel_rfl) (by kernel_rfl) (by kernel_rfl) (fun _ _ _ h => h) (Or.inl ⟨by kernel_rfl, ?_⟩) HSW.out ?_
  rotate_left
  · intro w hS
    obtain ⟨e1, e2, e3⟩ := hS
    go_simp
    try with_reducible rfl
  conv in (Act.put _ _ _) => simp only [List.getElem_toArray, List.getElem_cons_succ, List.getElem_cons_zero, Act.put, List.setIfInBounds_toArray, List.set_cons_succ, List.set_cons_zero]
  refine wpAnyH_take (i := 5) (v := ?_) rfl (by kernel_rfl) (by kernel_rfl) (by kernel_rfl) (fun _ _ _ h => h) (Or.inl ⟨by kernel_rfl, ?_⟩) HSW.out ?_
  rotate_left
  · intro w hS
    obtain ⟨e1, e2, e3⟩ := hS
    go_simp
    try with_reducible rfl
  conv in (Act.put _ _ _) => simp only [List.getElem_toArray, List.getElem_cons_succ, List.getElem_cons_zero, Act.put, List.setIfInBounds_toArray, List.set_cons_succ, List.set_cons_zero]
  refine wpAnyH_take (i := 6) (v := ?_) rfl (by kernel_rfl) (by kernel_rfl) (by kernel_rfl) (fun _ _ _ h => h) (Or.inl ⟨by kernel_rfl, ?_⟩) HSW.out ?_
  rotate_left
  · intro w hS
    obtain ⟨e1, e2, e3⟩ := hS
    go_simp
    try with_reducible rfl
  conv in (Act.put _ _ _) => simp only [List.getElem_toArray, List.getElem_cons_succ, List.getElem_cons_zero, Act.put, List.setIfInBounds_toArray, List.set_cons_succ, List.set_cons_zero]
  refine wpAnyH_take (i := 7) (v := ?_) rfl (by kernel_rfl) (by kernel_rfl) (by kernel_rfl) (fun _ _ _ h => h) (Or.inl ⟨by kernel_rfl, ?_⟩) HSW.out ?_
  rotate_left
  · intro w hS
    obtain ⟨e1, e2, e3⟩ := hS
    go_simp
    try with_reducible rfl
  conv in (Act.put _ _ _) => simp only [List.getElem_toArray, List.getElem_cons_succ, List.getElem_cons_zero, Act.put, List.setIfInBounds_toArray, List.set_cons_succ, List.set_cons_zero]
  refine wpAnyH_take (i := 8) (v := ?_) rfl (by kernel_rfl) (by kernel_rfl) (by kernel_rfl) (fun _ _ _ h => h) (Or.inl ⟨by kernel_rfl, ?_⟩) HSW.out ?_
  rotate_left
  · intro w hS
    obtain ⟨e1, e2, e3⟩ := hS
    go_simp
    try with_reducible rfl
  conv in (Act.put _ _ _) => simp only [List.getElem_toArray, List.getElem_cons_succ, List.getElem_cons_zero, Act.put, List.setIfInBounds_toArray, List.set_cons_succ, List.set_cons_zero]
  refine wpAnyH_take (i := 9) (v := ?_) rfl (by kernel_rfl) (by kernel_rfl) (by kernel_rfl) (fun _ _ _ h => h) (Or.inl ⟨by kernel_rfl, ?_⟩) HSW.out ?_
  rotate_left
  · intro w hS
    obtain ⟨e1, e2, e3⟩ := hS
    go_simp
    try with_reducible rfl
  conv in (Act.put _ _ _) => simp only [List.getElem_toArray, List.getElem_cons_succ, List.getElem_cons_zero, Act.put, List.setIfInBounds_toArray, List.set_cons_succ, List.set_cons_zero]
  refine readyH 10 _ (by kernel_rfl) rfl (by kernel_rfl) (fun K hK => ?_)
  go_simp
  refine (HZ.out _).mono ?_
  rintro e w2 ⟨rfl, b2⟩
  replace HB : Hid (Below w.heap.size w w2) := HB.out.trans (b2.mono (Nat.le_of_lt HL.out))
  replace HSW : Hid (CelS w.heap.size X Y (n : Int) w2) := HSW.out.below b2 HL.out
  replace HL : Hid (w.heap.size < w2.heap.size) := Nat.lt_of_lt_of_le HL.out b2.size
  refine hK _ _ HSW.out ?_
  clear hK K b2
  refine wpAnyH_take (i := 11) (v := ?_) rfl (by kernel_rfl) (by kernel_rfl) (by kernel_rfl) (fun _ _ _ h => h) (Or.inl ⟨by kernel_rfl, ?_⟩) HSW.out ?_
  rotate_left
  · intro w hS
    obtain ⟨e1, e2, e3⟩ := hS
    go_simp
    try with_reducible rfl
  conv in (Act.put _ _ _) => simp only [List.getElem_toArray, List.getElem_cons_succ, List.getElem_cons_zero, Act.put, List.setIfInBounds_toArray, List.set_cons_succ, List.set_cons_zero]
  refine wpAnyH_take (i := 12) (v := ?_) rfl (by kernel_rfl) (by kernel_rfl) (by kernel_rfl) (fun _ _ _ h => h) (Or.inl ⟨by kernel_rfl, ?_⟩) HSW.out ?_
  rotate_left
  · intro w hS
    obtain ⟨e1, e2, e3⟩ := hS
    go_simp
    try with_reducible rfl
  conv in (Act.put _ _ _) => simp only [List.getElem_toArray, List.getElem_cons_succ, List.getElem_cons_zero, Act.put, List.setIfInBounds_toArray, List.set_cons_succ, List.set_cons_zero]
  refine wpAnyH_take (i := 13) (v := ?_) rfl (by kernel_rfl) (by kernel_rfl) (by kernel_rfl) (fun _ _ _ h => h) (Or.inl ⟨by kernel_rfl, ?_⟩) HSW.out ?_
  rotate_left
  · intro w hS
    obtain ⟨e1, e2, e3⟩ := hS
    go_simp
    try with_reducible rfl
  conv in (Act.put _ _ _) => simp only [List.getElem_toArray, List.getElem_cons_succ, List.getElem_cons_zero, Act.put, List.setIfInBounds_toArray, List.set_cons_succ, List.set_cons_zero]
  refine wpAnyH_take (i := 14) (v := ?_) rfl (by kernel_rfl) (by kernel_rfl) (by kernel_rfl) (fun _ _ _ h => h) (Or.inl ⟨by kernel_rfl, ?_⟩) HSW.out ?_
  rotate_left
  · intro w hS
    obtain ⟨e1, e2, e3⟩ := hS
    go_simp
    try with_reducible rfl
  conv in (Act.put _ _ _) => simp only [List.getElem_toArray, List.getElem_cons_succ, List.getElem_cons_zero, Act.put, List.setIfInBounds_toArray, List.set_cons_succ, List.set_cons_zero]
  refine wpAnyH_done (by kernel_rfl) ?_ _
  go_wp2_with fail
  replace HB : Hid (Below w.heap.size w w2.drew) := HB.out.drew
  replace HSW : Hid (CelS w.heap.size X Y (n : Int) w2.drew) := HSW.out
  replace HL : Hid (w.heap.size < w2.drew.heap.size) := HL.out
  refine wp_region_held (S := CelS w.heap.size X Y (n : Int)) (by kernel_rfl) ?_
  change wpAnyH _ _ _ _ _ _ _ _ (World.drew _)
  refine wpAnyH_take (i := 0) (v := ?_) rfl (by kernel_rfl) (by kernel_rfl) (by kernel_rfl) (fun _ _ _ h => h) (Or.inl ⟨by kernel_rfl, ?_⟩) HSW.out ?_
  rotate_left
  · intro w hS
    obtain ⟨e1, e2, e3⟩ := hS
    go_simp
    try with_reducible rfl
  conv in (Act.put _ _ _) => simp only [List.getElem_toArray, List.getElem_cons_succ, List.getElem_cons_zero, Act.put, List.setIfInBounds_toArray, List.set_cons_succ, List.set_cons_zero]
  refine wpAnyH_take (i := 1) (v := ?_) rfl (by kernel_rfl) (by kernel_rfl) (by kernel_rfl) (fun _ _ _ h => h) (Or.inl ⟨by kernel_rfl, ?_⟩) HSW.out ?_
  rotate_left
  · intro w hS
    obtain ⟨e1, e2, e3⟩ := hS
    go_simp
    try with_reducible rfl
  conv in (Act.put _ _ _) => simp only [List.getElem_toArray, List.getElem_cons_succ, List.getElem_cons_zero, Act.put, List.setIfInBounds_toArray, List.set_cons_succ, List.set_cons_zero]
  refine wpAnyH_take (i := 2) (v := ?_) rfl (by kernel_rfl) (by kernel_rfl) (by kernel_rfl) (fun _ _ _ h => h) (Or.inl ⟨by kernel_rfl, ?_⟩) HSW.out ?_
  rotate_left
  · intro w hS
    obtain ⟨e1, e2, e3⟩ := hS
    go_simp
    try with_reducible rfl
  conv in (Act.put _ _ _) => simp only [List.getElem_toArray, List.getElem_cons_succ, List.getElem_cons_zero, Act.put, List.setIfInBounds_toArray, List.set_cons_succ, List.set_cons_zero]
  refine wpAnyH_take (i := 3) (v := ?_) rfl (by kernel_rfl) (by kernel_rfl) (by kernel_rfl) (fun _ _ _ h => h) (Or.inl ⟨by kernel_rfl, ?_⟩) HSW.out ?_
  rotate_left
  · intro w hS
    obtain ⟨e1, e2, e3⟩ := hS
    go_simp
    try with_reducible rfl
  conv in (Act.put _ _ _) => simp only [List.getElem_toArray, List.getElem_cons_succ, List.getElem_cons_zero, Act.put, List.setIfInBounds_toArray, List.set_cons_succ, List.set_cons_zero]
  refine wpAnyH_take (i := 4) (v := ?_) rfl (by kernel_rfl) (by kernel_rfl) (by kernel_rfl) (fun _ _ _ h => h) (Or.inl ⟨by kernel_rfl, ?_⟩) HSW.out ?_
  rotate_left
  · intro w hS
    obtain ⟨e1, e2, e3⟩ := hS
    go_simp
    try with_reducible rfl
  conv in (Act.put _ _ _) => simp only [List.getElem_toArray, List.getElem_cons_succ, List.getElem_cons_zero, Act.put, List.setIfInBounds_toArray, List.set_cons_succ, List.set_cons_zero]
  refine wpAnyH_take (i := 5) (v := ?_) rfl (by kernel_rfl) (by kernel_rfl) (by kernel_rfl) (fun _ _ _ h => h) (Or.inl ⟨by kernel_rfl, ?_⟩) HSW.out ?_
  rotate_left
  · intro w hS
    obtain ⟨e1, e2, e3⟩ := hS
    go_simp
    try with_reducible rfl
  conv in (Act.put _ _ _) => simp only [List.getElem_toArray, List.getElem_cons_succ, List.getElem_cons_zero, Act.put, List.setIfInBounds_toArray, List.set_cons_succ, List.set_cons_zero]
  refine wpAnyH_take (i := 6) (v := ?_) rfl (by kernel_rfl) (by kernel_rfl) (by kernel_rfl) (fun _ _ _ h => h) (Or.inl ⟨by kernel_rfl, ?_⟩) HSW.out ?_
  rotate_left
  · intro w hS
    obtain ⟨e1, e2, e3⟩ := hS
    go_simp
    try with_reducible rfl
  conv in (Act.put _ _ _) => simp only [List.getElem_toArray, List.getElem_cons_succ, List.getElem_cons_zero, Act.put, List.setIfInBounds_toArray, List.set_cons_succ, List.set_cons_zero]
  refine wpAnyH_take (i := 7) (v := ?_) rfl (by kernel_rfl) (by kernel_rfl) (by kernel_rfl) (fun _ _ _ h => h) (Or.inl ⟨by kernel_rfl, ?_⟩) HSW.out ?_
  rotate_left
  · intro w hS
    obtain ⟨e1, e2, e3⟩ := hS
    go_simp
    try with_reducible rfl
  conv in (Act.put _ _ _) => simp only [List.getElem_toArray, List.getElem_cons_succ, List.getElem_cons_zero, Act.put, List.setIfInBounds_toArray, List.set_cons_succ, List.set_cons_zero]
  refine wpAnyH_take (i := 8) (v := ?_) rfl (by kernel_rfl) (by kernel_rfl) (by kernel_rfl) (fun _ _ _ h => h) (Or.inl ⟨by kernel_rfl, ?_⟩) HSW.out ?_
  rotate_left
  · intro w hS
    obtain ⟨e1, e2, e3⟩ := hS
    go_simp
    try with_reducible rfl
  conv in (Act.put _ _ _) => simp only [List.getElem_toArray, List.getElem_cons_succ, List.getElem_cons_zero, Act.put, List.setIfInBounds_toArray, List.set_cons_succ, List.set_cons_zero]
  refine wpAnyH_take (i := 9) (v := ?_) rfl (by kernel_rfl) (by kernel_rfl) (by kernel_rfl) (fun _ _ _ h => h) (Or.inl ⟨by kernel_rfl, ?_⟩) HSW.out ?_
  rotate_left
  · intro w hS
    obtain ⟨e1, e2, e3⟩ := hS
    go_simp
    try with_reducible rfl
  conv in (Act.put _ _ _) => simp only [List.getElem_toArray, List.getElem_cons_succ, List.getElem_cons_zero, Act.put, List.setIfInBounds_toArray, List.set_cons_succ, List.set_cons_zero]
  refine readyH 10 _ (by kernel_rfl) rfl (by kernel_rfl) (fun K hK => ?_)
  go_simp
  refine (HZ.out _).mono ?_
  rintro e w3 ⟨rfl, b3⟩
  replace HB : Hid (Below w.heap.size w w3) := HB.out.trans (b3.mono (Nat.le_of_lt HL.out))
  replace HSW : Hid (CelS w.heap.size X Y (n : Int) w3) := HSW.out.below b3 HL.out
  refine hK _ _ HSW.out ?_
  clear hK K b3
  refine wpAnyH_take (i := 11) (v := ?_) rfl (by kernel_rfl) (by kernel_rfl) (by kernel_rfl) (fun _ _ _ h => h) (Or.inl ⟨by kernel_rfl, ?_⟩) HSW.out ?_
  rotate_left
  · intro w hS
    obtain ⟨e1, e2, e3⟩ := hS
    go_simp
    try with_reducible rfl
  conv in (Act.put _ _ _) => simp only [List.getElem_toArray, List.getElem_cons_succ, List.getElem_cons_zero, Act.put, List.setIfInBounds_toArray, List.set_cons_succ, List.set_cons_zero]
  refine wpAnyH_take (i := 12) (v := ?_) rfl (by kernel_rfl) (by kernel_rfl) (by kernel_rfl) (fun _ _ _ h => h) (Or.inl ⟨by kernel_rfl, ?_⟩) HSW.out ?_
  rotate_left
  · intro w hS
    obtain ⟨e1, e2, e3⟩ := hS
    go_simp
    try with_reducible rfl
  conv in (Act.put _ _ _) => simp only [List.getElem_toArray, List.getElem_cons_succ, List.getElem_cons_zero, Act.put, List.setIfInBounds_toArray, List.set_cons_succ, List.set_cons_zero]
  refine wpAnyH_take (i := 13) (v := ?_) rfl (by kernel_rfl) (by kernel_rfl) (by kernel_rfl) (fun _ _ _ h => h) (Or.inl ⟨by kernel_rfl, ?_⟩) HSW.out ?_
  rotate_left
  · intro w hS
    obtain ⟨e1, e2, e3⟩ := hS
    go_simp
    try with_reducible rfl
  conv in (Act.put _ _ _) => simp only [List.getElem_toArray, List.getElem_cons_succ, List.getElem_cons_zero, Act.put, List.setIfInBounds_toArray, List.set_cons_succ, List.set_cons_zero]
  refine wpAnyH_take (i := 14) (v := ?_) rfl (by kernel_rfl) (by kernel_rfl) (by kernel_rfl) (fun _ _ _ h => h) (Or.inl ⟨by kernel_rfl, ?_⟩) HSW.out ?_
  rotate_left
  · intro w hS
    obtain ⟨e1, e2, e3⟩ := hS
    go_simp
    try with_reducible rfl
  conv in (Act.put _ _ _) => simp only [List.getElem_toArray, List.getElem_cons_succ, List.getElem_cons_zero, Act.put, List.setIfInBounds_toArray, List.set_cons_succ, List.set_cons_zero]
  refine wpAnyH_done (by kernel_rfl) ?_ _
  go_wp2_with fail
  refine (HQ.out _).mono ?_
  rintro e w4 ⟨rfl, hw4⟩
  subst hw4
  go_wp2_with fail
  exact bodyPost_ret (results_tmp2 rfl _ _ _) rfl ⟨rfl, HB.out⟩
end Go.Proofs.Ytpfjfekpjlfibaa.Rc
