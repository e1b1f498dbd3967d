/- math/bits.Len32. -/
import Derived.Test.YtimdlohdmddnjaaQCC
import Derived.Lib.Walk
import Derived.Test.YtimdlohdmddnjaaPCF
namespace Go.Proofs.Ytimdlohdmddnjaa.Rc
open Go.RowKit
set_option maxRecDepth 100000 in
theorem tab_size : (Lib.len8tab.size : Int) = 256 := by
 have : Lib.len8tab.size = 256 := by decide
 omega
theorem tab_get (y : Int) (h : y.toNat < Lib.len8tab.size) (h0 : 0 ≤ y) (h1 : y ≤ 255) : ((Lib.len8tab[y.toNat]'h).toNat : Int) = (Lib.bitLen y.toNat : Int) ∧ Lib.bitLen y.toNat ≤ 8 := by
 refine ⟨?_, Lib.bitLen_le8' y h0 h1⟩
 rw [← Lib.len8_of y h0 h1]
 unfold Lib.len8
 rw [getElem?_pos Lib.len8tab y.toNat h]
 rfl
theorem wrap_sum (k a b : Nat) (hk : k ≤ 56) (ha : a ≤ 8) (hb : b = k + a) : wrap64 ((k : Int) + wrap64 (a : Int)) = (b : Int) := by
 unfold wrap64; omega
theorem wrap_two (a : Nat) (ha : a ≤ 8) : wrap64 (wrap64 (a : Int)) = (a : Int) := by
 unfold wrap64; omega
theorem div_24 (x : Int) : (x / 65536 / 256).toNat = x.toNat / 16777216 := by omega
theorem div_16 (x : Int) : (x / 65536).toNat = x.toNat / 65536 := by omega
theorem div_8 (x : Int) : (x / 256).toNat = x.toNat / 256 := by omega
set_option maxHeartbeats 4000000 in
set_option maxRecDepth 100000 in
theorem len32_any (x : Int) (w : World) (h0 : 0 ≤ x) (h1 : x ≤ 4294967295) :
  Calls Try.prog 93 #[.int .u32 x] w fun e w' => e = .returned (.int .i64 (Lib.bitLen x.toNat)) ∧ w' = w := by
 go_enter Try.func93, Try.ntmps93
 go_wp2
 all_goals first
  | (go_ret; refine ⟨congrArg Ending.returned (congrArg (Value.int IntKind.i64) ?_), rfl⟩)
  | (exfalso; have hs := tab_size; omega)
 ·have hs := tab_size
  obtain ⟨e, l⟩ := tab_get (x / 65536 / 256) (by omega) (by omega) (by omega)
  rw [e, div_24]; rw [div_24] at l
  exact wrap_sum 24 _ _ (by decide) l (Lib.bitLen_shift24 x.toNat (by omega) (by omega))
 ·have hs := tab_size
  obtain ⟨e, l⟩ := tab_get (x / 65536) (by omega) (by omega) (by omega)
  rw [e, div_16]; rw [div_16] at l
  exact wrap_sum 16 _ _ (by decide) l (Lib.bitLen_shift16 x.toNat (by omega) (by omega))
 ·have hs := tab_size
  obtain ⟨e, l⟩ := tab_get (x / 256) (by omega) (by omega) (by omega)
  rw [e, div_8]; rw [div_8] at l
  exact wrap_sum 8 _ _ (by decide) l (Lib.bitLen_shift8 x.toNat (by omega) (by omega))
 ·have hs := tab_size
  obtain ⟨e, l⟩ := tab_get x (by omega) (by omega) (by omega)
  rw [e]
  exact wrap_two _ l
open Go.RowKit Go.Lib
set_option maxRecDepth 100000 in
theorem results_cl {fn : Func} {p u : Tmp} (h : fn.results = #[.cell p 42, .tmp u]) (tmps : Array Value) (w : World) (g : Nat) (X Y : Nat) (L : Int) {t : TypeId} {fr : Nat × Nat}
  (hp : tmps.getD p undef = .pointer (some ⟨g, 0, none⟩)) (hg : w.heap[g]? = some (.cells #[.int .u32 (X : Int), .int .u32 (Y : Int), .int .i64 L] t fr)) : (results fn tmps).run Try.prog w = .ok (.tuple #[cv X Y L, tmps.getD u undef]) w := by
 rw [results_cell_tmp h, hp]
 simp [asAddr, run_loadVar_row w g t 42 _ fr _ hg Try.underlying42 rfl (by kernel_rfl)]
set_option maxRecDepth 100000 in
theorem gb_set (w : World) (g k : Nat) (v : Value) : w.grownBy (w.setCell ⟨g, k, none⟩ v) (some g) :=
 ⟨rfl, rfl, rfl, by simp [World.setCell], fun j _ hne => Below.heap_setCell _ _ _ _ (fun e => hne (by rw [e]))⟩
set_option maxRecDepth 100000 in
theorem grown_below {B r : Nat} {X Y : World} (hg : X.grownBy Y (some r)) (hr : B ≤ r) (hB : B ≤ X.heap.size) : Below B X Y := ⟨hg.os, hg.tape, hg.output, hg.size, fun k hk => hg.block k (by omega) (by intro e; cases e; omega)⟩
set_option maxRecDepth 100000 in
theorem put_cell {w : World} {g : Nat} {x y z : Value} (h : w.heap[g]? = some (.cells #[x, y, z] 42 (0, 0))) (a b c : Value) :
  (((w.setCell ⟨g, 0, none⟩ a).setCell ⟨g, 1, none⟩ b).setCell ⟨g, 2, none⟩ c).heap[g]? = some (.cells #[a, b, c] 42 (0, 0)) ∧ Below g w (((w.setCell ⟨g, 0, none⟩ a).setCell ⟨g, 1, none⟩ b).setCell ⟨g, 2, none⟩ c) := by
 have hl := (Array.getElem?_eq_some_iff.1 h).1
 have X1 := heap_setCell_same w g 0 _ _ a h
 have X2 := heap_setCell_same _ g 1 _ _ b X1
 have X3 := heap_setCell_same _ g 2 _ _ c X2
 exact ⟨X3, (grown_below (gb_set w g 0 _) (Nat.le_refl _) (by omega)).trans ((grown_below (gb_set _ g 1 _) (Nat.le_refl _) (by simp [World.setCell]; omega)).trans (grown_below (gb_set _ g 2 _) (Nat.le_refl _) (by simp [World.setCell]; omega)))⟩
set_option maxRecDepth 100000 in
theorem cell_facts {w : World} {g : Nat} {x y z : Value} (h : w.heap[g]? = some (.cells #[x, y, z] 42 (0, 0))) :
  w.frozen? ⟨g, 0, none⟩ = false ∧ w.frozen? ⟨g, 1, none⟩ = false ∧ w.frozen? ⟨g, 2, none⟩ = false ∧ w.cell? ⟨g, 0, none⟩ = some x ∧ w.cell? ⟨g, 1, none⟩ = some y ∧ w.cell? ⟨g, 2, none⟩ = some z :=
 ⟨frozen_of_row w g 0 _ _ h, frozen_of_row w g 1 _ _ h, frozen_of_row w g 2 _ _ h, by rw [cell_of_row _ _ _ _ _ _ h]; rfl, by rw [cell_of_row _ _ _ _ _ _ h]; rfl, by rw [cell_of_row _ _ _ _ _ _ h]; rfl⟩
set_option maxHeartbeats 1000000 in
set_option maxRecDepth 100000 in
theorem least_no (x y u v : Nat) (h : (onS x y && onS u v) = false) (w : World) :
  Calls Try.prog 84 #[.int .u32 (x : Int), .int .u32 (y : Int), .int .u32 (u : Int), .int .u32 (v : Int)] w fun e w' => e = .returned (.tuple #[cv 0 0 0, .int .i64 2]) ∧ Below w.heap.size w w' := by
 have HC : Hid _ := onPlane_any x y
 have HD : Hid _ := onPlane_any u v
 cases h1 : onS x y
 ·rw [h1] at HC
  clear h h1 HD
  go_enter Try.func84, Try.ntmps84
  go_wp2_with fail
  refine (HC.out _).mono ?_
  rintro e w1 ⟨rfl, hw1⟩
  subst hw1
  go_wp2_with fail
  exact bodyPost_ret (results_cl rfl _ _ w.heap.size 0 0 0 rfl (heap_alloc_new w _)) rfl ⟨rfl, below_new _ _⟩
 ·rw [h1] at HC h
  have h2 : onS u v = false := by simpa using h
  rw [h2] at HD
  clear h h1 h2
  go_enter Try.func84, Try.ntmps84
  go_wp2_with fail
  refine (HC.out _).mono ?_
  rintro e w1 ⟨rfl, hw1⟩
  subst hw1
  go_wp2_with fail
  refine (HD.out _).mono ?_
  rintro e w1 ⟨rfl, hw1⟩
  subst hw1
  go_wp2_with fail
  exact bodyPost_ret (results_cl rfl _ _ w.heap.size 0 0 0 rfl (heap_alloc_new w _)) rfl ⟨rfl, below_new _ _⟩
set_option maxHeartbeats 1000000 in
set_option maxRecDepth 100000 in
theorem least_ok (x y u v : Nat) (h1 : onS x y = true) (h2 : onS u v = true) (w : World) :
  Calls Try.prog 84 #[.int .u32 (x : Int), .int .u32 (y : Int), .int .u32 (u : Int), .int .u32 (v : Int)] w fun e w' => e = .returned (.tuple #[cv (flr x (lvl x y u v)) (flr y (lvl x y u v)) (lvl x y u v : Int), .int .i64 0]) ∧ Below w.heap.size w w' := by
 have HC : Hid _ := onPlane_any x y
 have HD : Hid _ := onPlane_any u v
 rw [h1] at HC
 rw [h2] at HD
 have HL : Hid (∀ w, Calls Try.prog 93 #[.int .u32 (bits .or .u32 (bits .xor .u32 (x : Int) (u : Int)) (bits .xor .u32 (y : Int) (v : Int)))] w fun e w' => e = .returned (.int .i64 (lvl x y u v : Int)) ∧ w' = w) := fun w => by
  unfold onS at h1 h2
  rw [decide_eq_true_iff] at h1 h2
  have k1 : x ^^^ u < 2 ^ 32 := Nat.xor_lt_two_pow (by omega) (by omega)
  have k2 : y ^^^ v < 2 ^ 32 := Nat.xor_lt_two_pow (by omega) (by omega)
  have k3 : (x ^^^ u) ||| (y ^^^ v) < 2 ^ 32 := Nat.or_lt_two_pow k1 k2
  rw [u32_xor_nat x u (by omega) (by omega), u32_xor_nat y v (by omega) (by omega), u32_or_nat _ _ k1 k2]
  have := len32_any (((x ^^^ u) ||| (y ^^^ v) : Nat) : Int) w (by omega) (by omega)
  rw [Int.toNat_natCast] at this
  exact this
 have h1' := h1
 have h2' := h2
 unfold onS at h1' h2'
 rw [decide_eq_true_iff] at h1' h2'
 have HA : Hid _ := around_any x y (lvl x y u v) (by omega) (by omega) (lvl_le x y u v h1'.1 h1'.2 h2'.1 h2'.2)
 clear h1 h2 h1' h2'
 generalize lvl x y u v = l at *
 generalize flr x l = p at *
 generalize flr y l = q at *
 go_enter Try.func84, Try.ntmps84
 go_wp2_with fail
 refine (HC.out _).mono ?_
 rintro e w1 ⟨rfl, hw1⟩
 subst hw1
 go_wp2_with fail
 refine (HD.out _).mono ?_
 rintro e w1 ⟨rfl, hw1⟩
 subst hw1
 go_wp2_with fail
 refine (HL.out _).mono ?_
 rintro e w1 ⟨rfl, hw1⟩
 subst hw1
 go_wp2_with fail
 refine (HA.out _).mono ?_
 rintro e w1 ⟨rfl, b1⟩
 have HB : Hid (Below w.heap.size w w1) := (below_new w _).trans (b1.mono (by simp))
 have H0 : Hid (w1.heap[w.heap.size]? = some (.cells #[.int .u32 0, .int .u32 0, .int .i64 0] 42 (0, 0))) := (b1.block _ (by simp)).trans (heap_alloc_new w _)
 obtain ⟨z0, z1, z2, c0, c1, c2⟩ := cell_facts H0.out
 clear b1
 go_wp2_with fail
 obtain ⟨X3, B3⟩ := put_cell H0.out (.int .u32 (p : Int)) (.int .u32 (q : Int)) (.int .i64 (l : Int))
 exact bodyPost_ret (results_cl rfl _ _ w.heap.size p q l rfl X3) rfl ⟨rfl, HB.out.trans B3⟩
structure CB (w0 : World) (X Y : Nat) (L : Int) (a b c d : Nat) (w : World) : Prop where
 cel : CelS w0.heap.size X Y L w
 box : BxS (w0.heap.size + 1) a b c d w
 bel : Below w0.heap.size w0 w
 two : w0.heap.size + 2 ≤ w.heap.size
set_option maxRecDepth 100000 in
theorem cb_new (X Y : Nat) (L : Int) (a b c d : Nat) (w : World) : CB w X Y L a b c d ((w.alloc (.cells #[.int .u32 (X : Int), .int .u32 (Y : Int), .int .i64 L] 42)).alloc (.cells #[.int .u32 (a : Int), .int .u32 (b : Int), .int .u32 (c : Int), .int .u32 (d : Int)] 24)) := by
 refine ⟨(cel_new X Y L w).below (below_new _ _) (by simp), ?_, (below_new w _).alloc (by simp) _, by simp⟩
 have := bx_new a b c d (w.alloc (.cells #[.int .u32 (X : Int), .int .u32 (Y : Int), .int .i64 L] 42))
 simpa using this
set_option maxRecDepth 100000 in
theorem CB.next {w0 : World} {X Y : Nat} {L : Int} {a b c d : Nat} {w w' : World} (h : CB w0 X Y L a b c d w) (hb : Below w.heap.size w w') : CB w0 X Y L a b c d w' :=
 ⟨h.cel.below hb (by have := h.two; omega), h.box.below hb (by have := h.two; omega), h.bel.trans (hb.mono (by have := h.two; omega)), Nat.le_trans h.two hb.size⟩
set_option maxHeartbeats 1000000 in
set_option maxRecDepth 100000 in
theorem touches_any (X Y : Nat) (L : Int) (a b c d : Nat) (hX : X < 4294967296) (hY : Y < 4294967296) (w : World) :
  Calls Try.prog 71 #[cv X Y L, bv a b c d] w fun e w' => e = .returned (.bool (touchS X Y L a b c d)) ∧ Below w.heap.size w w' := by
 have HC : Hid _ := right_any X Y L hX hY
 have HD : Hid _ := rightBox_any a b c d
 have HN : Hid _ := cb_new X Y L a b c d w
 cases h1 : rightS X Y L
 ·rw [show touchS X Y L a b c d = false by unfold touchS; rw [h1]; simp]
  rw [h1] at HC
  clear h1 HD hX hY
  go_enter Try.func71, Try.ntmps71
  go_wp2_with fail
  refine (HC.out _).mono ?_
  rintro e w1 ⟨rfl, b1⟩
  have HB : Hid (CB w X Y L a b c d w1) := HN.out.next b1
  clear b1
  go_wp2_with fail
  go_ret
  exact ⟨rfl, HB.out.bel⟩
 ·cases h2 : boxS a b c d
  ·rw [show touchS X Y L a b c d = false by unfold touchS; rw [h2]; simp]
   rw [h1] at HC
   rw [h2] at HD
   clear h1 h2 hX hY
   go_enter Try.func71, Try.ntmps71
   go_wp2_with fail
   refine (HC.out _).mono ?_
   rintro e w1 ⟨rfl, b1⟩
   have HB : Hid (CB w X Y L a b c d w1) := HN.out.next b1
   obtain ⟨e0, e1, e2, e3⟩ := HB.out.box
   clear b1
   go_wp2_with fail
   refine (HD.out _).mono ?_
   rintro e w2 ⟨rfl, b2⟩
   replace HB : Hid (CB w X Y L a b c d w2) := HB.out.next b2
   clear b2 e0 e1 e2 e3
   go_wp2_with fail
   go_ret
   exact ⟨rfl, HB.out.bel⟩
  ·obtain ⟨n, rfl, cl⟩ := (rightS_iff X Y L).1 h1
   have hT : touchS X Y (n : Int) a b c d = decide (a < X + 2 ^ n ∧ X ≤ c ∧ b < Y + 2 ^ n ∧ Y ≤ d) := by unfold touchS; rw [h1, h2, Int.toNat_natCast]; simp
   have HT : Hid (touchS X Y (n : Int) a b c d = decide (a < X + 2 ^ n ∧ X ≤ c ∧ b < Y + 2 ^ n ∧ Y ≤ d)) := hT
   have HE : Hid (X + 2 ^ n ≤ 2147483648 ∧ Y + 2 ^ n ≤ 2147483648 ∧ 0 < 2 ^ n) := ⟨cl.xe, cl.ye, Nat.two_pow_pos n⟩
   have HQ : Hid _ := reach_any X Y n cl.n31
   rw [h1] at HC
   rw [h2] at HD
   clear h1 h2 hX hY hT cl
   generalize 2 ^ n = s at *
   go_enter Try.func71, Try.ntmps71
   go_wp2_with fail
   refine (HC.out _).mono ?_
   rintro e w1 ⟨rfl, b1⟩
   have HB : Hid (CB w X Y (n : Int) a b c d w1) := HN.out.next b1
   obtain ⟨e0, e1, e2, e3⟩ := HB.out.box
   clear b1
   go_wp2_with fail
   refine (HD.out _).mono ?_
   rintro e w2 ⟨rfl, b2⟩
   replace HB : Hid (CB w X Y (n : Int) a b c d w2) := HB.out.next b2
   clear b2 e0 e1 e2 e3
   obtain ⟨e0, e1, e2⟩ := HB.out.cel
   go_wp2_with fail
   refine (HQ.out _).mono ?_
   rintro e w3 ⟨rfl, b3⟩
   replace HB : Hid (CB w X Y (n : Int) a b c d w3) := HB.out.next b3
   clear b3 e0 e1 e2
   obtain ⟨e0, e1, e2⟩ := HB.out.cel
   obtain ⟨f0, f1, f2, f3⟩ := HB.out.box
   have p1 : ((X : Int) + ((s - 1 : Nat) : Int)) % 4294967296 = ((X + (s - 1) : Nat) : Int) := by have := HE.out; omega
   have p2 : ((Y : Int) + ((s - 1 : Nat) : Int)) % 4294967296 = ((Y + (s - 1) : Nat) : Int) := by have := HE.out; omega
   go_wp2_with fail
   all_goals go_ret
   all_goals refine ⟨congrArg Ending.returned (congrArg Value.bool ?_), HB.out.bel⟩
   all_goals rw [HT.out]
   all_goals symm
   all_goals have hE := HE.out
   all_goals first | (rw [decide_eq_true_iff]; omega) | (rw [decide_eq_false_iff_not]; omega) | (apply decide_eq_decide.2; omega)
set_option maxHeartbeats 1000000 in
set_option maxRecDepth 100000 in
theorem far_no (X Y : Nat) (L : Int) (x y : Nat) (hX : X < 4294967296) (hY : Y < 4294967296) (h : (rightS X Y L && onS x y) = false) (w : World) :
  Calls Try.prog 41 #[cv X Y L, .int .u32 (x : Int), .int .u32 (y : Int)] w fun e w' => e = .returned (.tuple #[.int .u64 0, .int .i64 2]) ∧ Below w.heap.size w w' := by
 have HC : Hid _ := right_any X Y L hX hY
 have HD : Hid _ := onPlane_any x y
 cases h1 : rightS X Y L
 ·rw [h1] at HC
  clear h h1 HD hX hY
  go_enter Try.func41, Try.ntmps41
  go_wp2_with fail
  refine (HC.out _).mono ?_
  rintro e w1 ⟨rfl, b1⟩
  have HB : Hid (Below w.heap.size w w1) := (below_new w _).trans (b1.mono (by simp))
  clear b1
  go_wp2_with fail
  exact bodyPost_ret (results_tmp2 rfl _ _ _) rfl ⟨rfl, HB.out⟩
 ·rw [h1] at HC h
  have h2 : onS x y = false := by simpa using h
  rw [h2] at HD
  clear h h1 h2 hX hY
  go_enter Try.func41, Try.ntmps41
  go_wp2_with fail
  refine (HC.out _).mono ?_
  rintro e w1 ⟨rfl, b1⟩
  have HB : Hid (Below w.heap.size w w1) := (below_new w _).trans (b1.mono (by simp))
  clear b1
  go_wp2_with fail
  refine (HD.out _).mono ?_
  rintro e w2 ⟨rfl, hw2⟩
  subst hw2
  go_wp2_with fail
  exact bodyPost_ret (results_tmp2 rfl _ _ _) rfl ⟨rfl, HB.out⟩
theorem sq_wrap (a b : Nat) (h1 : a * a ≤ 2147483647 * 2147483647) (h2 : b * b ≤ 2147483647 * 2147483647) : IntKind.u64.wrap (IntKind.u64.wrap ((a : Int) * (a : Int)) + IntKind.u64.wrap ((b : Int) * (b : Int))) = ((a * a + b * b : Nat) : Int) := by
 rw [← Int.natCast_mul, ← Int.natCast_mul]
 generalize a * a = p at *
 generalize b * b = q at *
 simp only [IntKind.wrap, IntKind.bits, IntKind.signed]
 simp
 omega
set_option maxHeartbeats 1000000 in
set_option maxRecDepth 100000 in
theorem far_ok (X Y n x y : Nat) (cl : Cl X Y n) (h : onS x y = true) (w : World) :
  Calls Try.prog 41 #[cv X Y (n : Int), .int .u32 (x : Int), .int .u32 (y : Int)] w fun e w' => e = .returned (.tuple #[.int .u64 (farS X Y n x y : Int), .int .i64 0]) ∧ Below w.heap.size w w' := by
 have h1 := (rightS_nat X Y n).2 cl
 have HC : Hid _ := right_any X Y (n : Int) (by have := cl.x31; omega) (by have := cl.y31; omega)
 have HD : Hid _ := onPlane_any x y
 have HQ : Hid _ := reach_any X Y n cl.n31
 rw [h] at HD
 rw [h1] at HC
 have hx := cl.xe
 have hy := cl.ye
 have hp := Nat.two_pow_pos n
 unfold onS at h
 rw [decide_eq_true_iff] at h
 have HX : Hid _ := gap_any x X (X + (2 ^ n - 1)) (by omega) (by omega) (by omega)
 have HY : Hid _ := gap_any y Y (Y + (2 ^ n - 1)) (by omega) (by omega) (by omega)
 have HE : Hid (X + 2 ^ n ≤ 2147483648 ∧ Y + 2 ^ n ≤ 2147483648 ∧ 0 < 2 ^ n) := ⟨hx, hy, hp⟩
 have g1 : gp x X (X + (2 ^ n - 1)) = gapS x X n := by
  unfold gp gapS
  split
  ·rfl
  ·split
   ·rw [if_pos (by omega)]
   ·rw [if_neg (by omega)]
 have g2 : gp y Y (Y + (2 ^ n - 1)) = gapS y Y n := by
  unfold gp gapS
  split
  ·rfl
  ·split
   ·rw [if_pos (by omega)]
   ·rw [if_neg (by omega)]
 rw [g1] at HX
 rw [g2] at HY
 have k1 := gap_lt hx h.1
 have k2 := gap_lt hy h.2
 unfold farS
 clear h1 h hx hy hp g1 g2 cl
 generalize gapS x X n = gx at *
 generalize gapS y Y n = gy at *
 generalize 2 ^ n = s at *
 have m1 : gx * gx ≤ 2147483647 * 2147483647 := Nat.mul_le_mul (by omega) (by omega)
 have m2 : gy * gy ≤ 2147483647 * 2147483647 := Nat.mul_le_mul (by omega) (by omega)
 have HM : Hid (gx * gx ≤ 2147483647 * 2147483647 ∧ gy * gy ≤ 2147483647 * 2147483647) := ⟨m1, m2⟩
 clear m1 m2 k1 k2
 obtain ⟨xr, hxr⟩ : ∃ xr, X + (s - 1) = xr := ⟨_, rfl⟩
 obtain ⟨yr, hyr⟩ : ∃ yr, Y + (s - 1) = yr := ⟨_, rfl⟩
 rw [hxr] at HX
 rw [hyr] at HY
 have p1 : IntKind.u32.wrap ((X : Int) + ((s - 1 : Nat) : Int)) = (xr : Int) := by have := HE.out; rw [IntKind.wrap_u32']; omega
 have p2 : IntKind.u32.wrap ((Y : Int) + ((s - 1 : Nat) : Int)) = (yr : Int) := by have := HE.out; rw [IntKind.wrap_u32']; omega
 clear hxr hyr
 generalize s - 1 = t at *
 go_enter Try.func41, Try.ntmps41
 go_wp2_with fail
 refine (HC.out _).mono ?_
 rintro e w1 ⟨rfl, b1⟩
 have HB : Hid (Below w.heap.size w w1) := (below_new w _).trans (b1.mono (by simp))
 have HS : Hid (CelS w.heap.size X Y (n : Int) w1 ∧ w.heap.size < w1.heap.size) := ⟨(cel_new X Y n w).below b1 (by simp), Nat.lt_of_lt_of_le (by simp) b1.size⟩
 clear b1
 go_wp2_with fail
 refine (HD.out _).mono ?_
 rintro e w2 ⟨rfl, hw2⟩
 subst hw2
 obtain ⟨e0, e1, e2⟩ := HS.out.1
 go_wp2_with fail
 clear e0 e1 e2
 have HSW : Hid (CelS w.heap.size X Y (n : Int) w2.drew) := HS.out.1
 have HB2 : Hid (Below w.heap.size w w2.drew) := HB.out.drew
 have HL : Hid (w.heap.size < w2.drew.heap.size) := HS.out.2
 refine wp_region_held (S := CelS w.heap.size X Y (n : Int)) (by kernel_rfl) ?_
 change wpAnyH _ _ _ _ _ _ _ _ (World.drew _)
 refine wpAnyH_take (i := 0) (v := ?_) rfl (by kernel_rfl) (by kernel_rfl) (by kernel_rfl) (fun _ _ _ h => h) (Or.inl ⟨by kernel_rfl, ?_⟩) HSW.out ?_
 rotate_left
 ·rintro w ⟨e1,e2,e3⟩; go_simp; try with_reducible rfl
 conv in (Act.put _ _ _) => simp only [List.getElem_toArray, List.getElem_cons_succ, List.getElem_cons_zero, Act.put, List.setIfInBounds_toArray, List.set_cons_succ, List.set_cons_zero]
 refine wpAnyH_take (i := 1) (v := ?_) rfl (by kernel_rfl) (by kernel_rfl) (by kernel_rfl) (fun _ _ _ h => h) (Or.inl ⟨by kernel_rfl, ?_⟩) HSW.out ?_
 rotate_left
 ·rintro w ⟨e1,e2,e3⟩; go_simp; try with_reducible rfl
 conv in (Act.put _ _ _) => simp only [List.getElem_toArray, List.getElem_cons_succ, List.getElem_cons_zero, Act.put, List.setIfInBounds_toArray, List.set_cons_succ, List.set_cons_zero]
 refine wpAnyH_take (i := 2) (v := ?_) rfl (by kernel_rfl) (by kernel_rfl) (by kernel_rfl) (fun _ _ _ h => h) (Or.inl ⟨by kernel_rfl, ?_⟩) HSW.out ?_
 rotate_left
 ·rintro w ⟨e1,e2,e3⟩; go_simp; try with_reducible rfl
 conv in (Act.put _ _ _) => simp only [List.getElem_toArray, List.getElem_cons_succ, List.getElem_cons_zero, Act.put, List.setIfInBounds_toArray, List.set_cons_succ, List.set_cons_zero]
 refine wpAnyH_take (i := 3) (v := ?_) rfl (by kernel_rfl) (by kernel_rfl) (by kernel_rfl) (fun _ _ _ h => h) (Or.inl ⟨by kernel_rfl, ?_⟩) HSW.out ?_
 rotate_left
 ·rintro w ⟨e1,e2,e3⟩; go_simp; try with_reducible rfl
 conv in (Act.put _ _ _) => simp only [List.getElem_toArray, List.getElem_cons_succ, List.getElem_cons_zero, Act.put, List.setIfInBounds_toArray, List.set_cons_succ, List.set_cons_zero]
 refine wpAnyH_take (i := 4) (v := ?_) rfl (by kernel_rfl) (by kernel_rfl) (by kernel_rfl) (fun _ _ _ h => h) (Or.inl ⟨by kernel_rfl, ?_⟩) HSW.out ?_
 rotate_left
 ·rintro w ⟨e1,e2,e3⟩; go_simp; try with_reducible rfl
 conv in (Act.put _ _ _) => simp only [List.getElem_toArray, List.getElem_cons_succ, List.getElem_cons_zero, Act.put, List.setIfInBounds_toArray, List.set_cons_succ, List.set_cons_zero]
 refine wpAnyH_take (i := 5) (v := ?_) rfl (by kernel_rfl) (by kernel_rfl) (by kernel_rfl) (fun _ _ _ h => h) (Or.inl ⟨by kernel_rfl, ?_⟩) HSW.out ?_
 rotate_left
 ·rintro w ⟨e1,e2,e3⟩; go_simp; try with_reducible rfl
 conv in (Act.put _ _ _) => simp only [List.getElem_toArray, List.getElem_cons_succ, List.getElem_cons_zero, Act.put, List.setIfInBounds_toArray, List.set_cons_succ, List.set_cons_zero]
 refine wpAnyH_take (i := 9) (v := ?_) rfl (by kernel_rfl) (by kernel_rfl) (by kernel_rfl) (fun _ _ _ h => h) (Or.inl ⟨by kernel_rfl, ?_⟩) HSW.out ?_
 rotate_left
 ·rintro w ⟨e1,e2,e3⟩; go_simp; try with_reducible rfl
 conv in (Act.put _ _ _) => simp only [List.getElem_toArray, List.getElem_cons_succ, List.getElem_cons_zero, Act.put, List.setIfInBounds_toArray, List.set_cons_succ, List.set_cons_zero]
 refine wpAnyH_take (i := 10) (v := ?_) rfl (by kernel_rfl) (by kernel_rfl) (by kernel_rfl) (fun _ _ _ h => h) (Or.inl ⟨by kernel_rfl, ?_⟩) HSW.out ?_
 rotate_left
 ·rintro w ⟨e1,e2,e3⟩; go_simp; try with_reducible rfl
 conv in (Act.put _ _ _) => simp only [List.getElem_toArray, List.getElem_cons_succ, List.getElem_cons_zero, Act.put, List.setIfInBounds_toArray, List.set_cons_succ, List.set_cons_zero]
 refine wpAnyH_take (i := 11) (v := ?_) rfl (by kernel_rfl) (by kernel_rfl) (by kernel_rfl) (fun _ _ _ h => h) (Or.inl ⟨by kernel_rfl, ?_⟩) HSW.out ?_
 rotate_left
 ·rintro w ⟨e1,e2,e3⟩; go_simp; try with_reducible rfl
 conv in (Act.put _ _ _) => simp only [List.getElem_toArray, List.getElem_cons_succ, List.getElem_cons_zero, Act.put, List.setIfInBounds_toArray, List.set_cons_succ, List.set_cons_zero]
 refine wpAnyH_take (i := 12) (v := ?_) rfl (by kernel_rfl) (by kernel_rfl) (by kernel_rfl) (fun _ _ _ h => h) (Or.inl ⟨by kernel_rfl, ?_⟩) HSW.out ?_
 rotate_left
 ·rintro w ⟨e1,e2,e3⟩; go_simp; try with_reducible rfl
 conv in (Act.put _ _ _) => simp only [List.getElem_toArray, List.getElem_cons_succ, List.getElem_cons_zero, Act.put, List.setIfInBounds_toArray, List.set_cons_succ, List.set_cons_zero]
 refine wpAnyH_take (i := 13) (v := ?_) rfl (by kernel_rfl) (by kernel_rfl) (by kernel_rfl) (fun _ _ _ h => h) (Or.inl ⟨by kernel_rfl, ?_⟩) HSW.out ?_
 rotate_left
 ·rintro w ⟨e1,e2,e3⟩; go_simp; try with_reducible rfl
 conv in (Act.put _ _ _) => simp only [List.getElem_toArray, List.getElem_cons_succ, List.getElem_cons_zero, Act.put, List.setIfInBounds_toArray, List.set_cons_succ, List.set_cons_zero]
 refine wpAnyH_take (i := 14) (v := ?_) rfl (by kernel_rfl) (by kernel_rfl) (by kernel_rfl) (fun _ _ _ h => h) (Or.inl ⟨by kernel_rfl, ?_⟩) HSW.out ?_
 rotate_left
 ·rintro w ⟨e1,e2,e3⟩; go_simp; try with_reducible rfl
 conv in (Act.put _ _ _) => simp only [List.getElem_toArray, List.getElem_cons_succ, List.getElem_cons_zero, Act.put, List.setIfInBounds_toArray, List.set_cons_succ, List.set_cons_zero]
 refine readyH 6 _ (by kernel_rfl) rfl (by kernel_rfl) (fun K hK => ?_)
 go_simp
 refine (HQ.out _).mono ?_
 rintro e w3 ⟨rfl, b3⟩
 replace HSW : Hid (CelS w.heap.size X Y (n : Int) w3) := HSW.out.below b3 HL.out
 replace HB2 : Hid (Below w.heap.size w w3) := HB2.out.trans (b3.mono (Nat.le_of_lt HL.out))
 replace HL : Hid (w.heap.size < w3.heap.size) := Nat.lt_of_lt_of_le HL.out b3.size
 refine hK _ _ HSW.out ?_
 clear hK K b3
 refine wpAnyH_take (i := 7) (v := ?_) rfl (by kernel_rfl) (by kernel_rfl) (by kernel_rfl) (fun _ _ _ h => h) (Or.inl ⟨by kernel_rfl, ?_⟩) HSW.out ?_
 rotate_left
 ·rintro w ⟨e1,e2,e3⟩; go_simp; try with_reducible rfl
 conv in (Act.put _ _ _) => simp only [List.getElem_toArray, List.getElem_cons_succ, List.getElem_cons_zero, Act.put, List.setIfInBounds_toArray, List.set_cons_succ, List.set_cons_zero]
 refine readyH 8 _ (by kernel_rfl) rfl (by kernel_rfl) (fun K hK => ?_)
 go_simp
 refine (HX.out _).mono ?_
 rintro e w4 ⟨rfl, hw4⟩
 subst hw4
 refine hK _ _ HSW.out ?_
 clear hK K
 refine readyH 15 _ (by kernel_rfl) rfl (by kernel_rfl) (fun K hK => ?_)
 go_simp
 refine (HQ.out _).mono ?_
 rintro e w5 ⟨rfl, b5⟩
 replace HSW : Hid (CelS w.heap.size X Y (n : Int) w5) := HSW.out.below b5 HL.out
 replace HB2 : Hid (Below w.heap.size w w5) := HB2.out.trans (b5.mono (Nat.le_of_lt HL.out))
 refine hK _ _ HSW.out ?_
 clear hK K b5
 refine wpAnyH_take (i := 16) (v := ?_) rfl (by kernel_rfl) (by kernel_rfl) (by kernel_rfl) (fun _ _ _ h => h) (Or.inl ⟨by kernel_rfl, ?_⟩) HSW.out ?_
 rotate_left
 ·rintro w ⟨e1,e2,e3⟩; go_simp; try with_reducible rfl
 conv in (Act.put _ _ _) => simp only [List.getElem_toArray, List.getElem_cons_succ, List.getElem_cons_zero, Act.put, List.setIfInBounds_toArray, List.set_cons_succ, List.set_cons_zero]
 refine readyH 17 _ (by kernel_rfl) rfl (by kernel_rfl) (fun K hK => ?_)
 go_simp
 refine (HY.out _).mono ?_
 rintro e w6 ⟨rfl, hw6⟩
 subst hw6
 refine hK _ _ HSW.out ?_
 clear hK K p1 p2
 refine wpAnyH_take (i := 18) (v := ?_) rfl (by kernel_rfl) (by kernel_rfl) (by kernel_rfl) (fun _ _ _ h => h) (Or.inl ⟨by kernel_rfl, ?_⟩) HSW.out ?_
 rotate_left
 ·rintro w ⟨e1,e2,e3⟩; go_simp; try with_reducible rfl
 conv in (Act.put _ _ _) => simp only [List.getElem_toArray, List.getElem_cons_succ, List.getElem_cons_zero, Act.put, List.setIfInBounds_toArray, List.set_cons_succ, List.set_cons_zero]
 refine wpAnyH_take (i := 19) (v := ?_) rfl (by kernel_rfl) (by kernel_rfl) (by kernel_rfl) (fun _ _ _ h => h) (Or.inl ⟨by kernel_rfl, ?_⟩) HSW.out ?_
 rotate_left
 ·rintro w ⟨e1,e2,e3⟩; go_simp; try with_reducible rfl
 conv in (Act.put _ _ _) => simp only [List.getElem_toArray, List.getElem_cons_succ, List.getElem_cons_zero, Act.put, List.setIfInBounds_toArray, List.set_cons_succ, List.set_cons_zero]
 refine wpAnyH_done (by kernel_rfl) ?_ _
 go_wp2_with fail
 rw [sq_wrap gx gy HM.out.1 HM.out.2]
 exact bodyPost_ret (results_tmp2 rfl _ _ _) rfl ⟨rfl, HB2.out⟩
def natOf : Value → Nat | .int _ x => x.toNat | _ => 0
set_option maxRecDepth 100000 in
theorem ix0 (a b c d e f g h : Value) (w : World) : (Instr.index 134 (.agg #[a, b, c, d, e, f, g, h]) (.int .i64 0)).run Try.prog w = .ok (.agg #[a, b]) w := by kernel_rfl
set_option maxRecDepth 100000 in
theorem ix1 (a b c d e f g h : Value) (w : World) : (Instr.index 134 (.agg #[a, b, c, d, e, f, g, h]) (.int .i64 1)).run Try.prog w = .ok (.agg #[c, d]) w := by kernel_rfl
set_option maxRecDepth 100000 in
theorem ix2 (a b c d e f g h : Value) (w : World) : (Instr.index 134 (.agg #[a, b, c, d, e, f, g, h]) (.int .i64 2)).run Try.prog w = .ok (.agg #[e, f]) w := by kernel_rfl
set_option maxRecDepth 100000 in
theorem ix3 (a b c d e f g h : Value) (w : World) : (Instr.index 134 (.agg #[a, b, c, d, e, f, g, h]) (.int .i64 3)).run Try.prog w = .ok (.agg #[g, h]) w := by kernel_rfl
end Go.Proofs.Ytimdlohdmddnjaa.Rc
