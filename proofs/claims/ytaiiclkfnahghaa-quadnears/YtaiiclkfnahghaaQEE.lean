/- The reference: Square, Far. -/
import Derived.Test.YtaiiclkfnahghaaPEB
import Derived.Test.YtaiiclkfnahghaaQCH
namespace Go.Proofs.Ytaiiclkfnahghaa.Rc
open Go.RowKit Go.Lib
set_option maxRecDepth 100000 in
theorem dist_lt {a b : Nat} (ha : a < 2147483648) (hb : b < 2147483648) : dist a b < 2147483648 := by unfold dist; omega
set_option maxRecDepth 100000 in
theorem sub_dist {a b : Nat} (ha : a < 2147483648) (hb : b < 2147483648) : (max (a : Int) (b : Int) - min (a : Int) (b : Int)) % 4294967296 = (dist a b : Nat) := by unfold dist; omega
set_option maxRecDepth 100000 in
theorem dist_sq {a b : Nat} (ha : a < 2147483648) (hb : b < 2147483648) : dist a b * dist a b ≤ 2147483647 * 2147483647 := Nat.mul_le_mul (by have := dist_lt ha hb; omega) (by have := dist_lt ha hb; omega)
set_option maxHeartbeats 2000000 in
set_option maxRecDepth 100000 in
theorem eSquare_any (x y u v : Nat) (hx : x < 2147483648) (hy : y < 2147483648) (hu : u < 2147483648) (hv : v < 2147483648) (w : World) :
    Calls Try.prog 46 #[.int .u32 (x : Int), .int .u32 (y : Int), .int .u32 (u : Int), .int .u32 (v : Int)] w fun e w' => e = .returned (.int .u64 ((dist x u * dist x u + dist y v * dist y v : Nat) : Int)) ∧ w' = w := by
  have H1 : Hid _ := sub_dist hx hu
  have H2 : Hid _ := sub_dist hy hv
  have HD : Hid _ := sq_wrap (dist x u) (dist y v) (dist_sq hx hu) (dist_sq hy hv)
  clear hx hy hu hv
  go_enter Try.func46, Try.ntmps46
  go_wp2_with fail
  rw [H1.out, H2.out, HD.out]
  go_ret
  exact ⟨rfl, rfl⟩
set_option maxRecDepth 100000 in
/-- The place of a cell that is nearest. -/
theorem dist_gap {x X n : Nat} : dist x (min (max x X) (X + 2 ^ n - 1)) = gapS x X n := by
  have hp := Nat.two_pow_pos n
  unfold dist gapS
  split
  · omega
  · split <;> omega
end Go.Proofs.Ytaiiclkfnahghaa.Rc
/- The reference: Quarter. -/
namespace Go.Proofs.Ytaiiclkfnahghaa.Rc
open Go.RowKit Go.Lib
/-- The cell that was handed in, and the one that is told. -/
structure EB2 (w : World) (X Y : Nat) (L : Int) (x y : Nat) (l : Int) (W : World) : Prop where
  cel : W.heap[w.heap.size]? = some (.cells #[.int .u32 (X : Int), .int .u32 (Y : Int), .int .i64 L] 30 (0, 0))
  res : W.heap[w.heap.size + 1]? = some (.cells #[.int .u32 (x : Int), .int .u32 (y : Int), .int .i64 l] 30 (0, 0))
  bel : Below w.heap.size w W
set_option maxRecDepth 100000 in
theorem EB2.next {w : World} {X Y : Nat} {L : Int} {x y : Nat} {l : Int} {W W' : World} {B : Nat} (h : EB2 w X Y L x y l W) (hb : Below B W W') (hB : w.heap.size + 2 ≤ B) : EB2 w X Y L x y l W' :=
  ⟨(hb.block _ (by omega)).trans h.cel, (hb.block _ (by omega)).trans h.res, h.bel.trans (hb.mono (by omega))⟩
set_option maxRecDepth 100000 in
theorem EB2.size {w : World} {X Y : Nat} {L : Int} {x y : Nat} {l : Int} {W : World} (h : EB2 w X Y L x y l W) : w.heap.size + 2 ≤ W.heap.size := (Array.getElem?_eq_some_iff.1 h.res).1
set_option maxRecDepth 100000 in
theorem eb2_new (w : World) (X Y : Nat) (L : Int) : EB2 w X Y L 0 0 0 ((w.alloc (.cells #[.int .u32 (X : Int), .int .u32 (Y : Int), .int .i64 L] 30)).alloc (.cells #[.int .u32 0, .int .u32 0, .int .i64 0] 30)) := by
  refine ⟨(Below.heap_alloc _ _ _ (by simp)).trans (heap_alloc_new w _), ?_, (below_new w _).alloc (by simp) _⟩
  have := heap_alloc_new (w.alloc (.cells #[.int .u32 (X : Int), .int .u32 (Y : Int), .int .i64 L] 30)) (.cells #[.int .u32 0, .int .u32 0, .int .i64 0] 30)
  simpa using this
set_option maxRecDepth 100000 in
theorem EB2.put {w : World} {X Y : Nat} {L : Int} {x y : Nat} {l : Int} {W : World} (h : EB2 w X Y L x y l W) (x' y' : Nat) (l' : Int) :
    EB2 w X Y L x' y' l' (((W.setCell ⟨w.heap.size + 1, 0, none⟩ (.int .u32 (x' : Int))).setCell ⟨w.heap.size + 1, 1, none⟩ (.int .u32 (y' : Int))).setCell ⟨w.heap.size + 1, 2, none⟩ (.int .i64 l')) := by
  obtain ⟨h2, b2⟩ := put_cell h.res (.int .u32 (x' : Int)) (.int .u32 (y' : Int)) (.int .i64 l')
  exact ⟨(b2.block _ (by omega)).trans h.cel, h2, h.bel.trans (b2.mono (by omega))⟩
set_option maxHeartbeats 2000000 in
set_option maxRecDepth 100000 in
theorem eQuarter_0 (X Y : Nat) (L : Int) (s s2 m : Nat) (q0 : ¬ L = 0) (hs : IntKind.u64.wrap ((s2 : Int) / 2) % 4294967296 = (s : Int)) (P1 : Hid ((X : Int) % 4294967296 = (X : Int))) (P2 : Hid ((Y : Int) % 4294967296 = (Y : Int))) (P3 : Hid (wrap64 (L - 1) = (m : Int)))
    (HC : Hid (∀ w, Calls Try.prog 84 #[cv X Y L] w fun e w' => e = .returned (.bool true) ∧ Below w.heap.size w w'))
    (HZ : Hid (∀ w, Calls Try.prog 85 #[cv X Y L] w fun e w' => e = .returned (.int .u64 (s2 : Int)) ∧ Below w.heap.size w w')) (w : World) :
    Calls Try.prog 65 #[cv X Y L, .int .i64 0] w fun e w' => e = .returned (.tuple #[cv X Y (m : Int), .int .i64 0]) ∧ Below w.heap.size w w' := by
  have HN : Hid _ := eb2_new w X Y L
  go_enter Try.func65, Try.ntmps65
  go_wp2_with fail
  refine (HC.out _).mono ?_
  rintro e w1 ⟨rfl, b1⟩
  have HB : Hid (EB2 w X Y L 0 0 0 w1) := HN.out.next b1 (by simp)
  obtain ⟨d0, d1, d2⟩ := Cel.cells HB.out.cel
  clear b1
  go_wp2_with fail
  refine (HZ.out _).mono ?_
  rintro e w2 ⟨rfl, b2⟩
  replace HB : Hid (EB2 w X Y L 0 0 0 w2) := HB.out.next b2 HB.out.size
  clear b2 d0 d1 d2
  obtain ⟨d0, d1, d2⟩ := Cel.cells HB.out.cel
  obtain ⟨z0, z1, z2, c0, c1, c2⟩ := cell_facts HB.out.res
  go_wp2_with fail
  rw [P1.out, P2.out, P3.out]
  have Q := HB.out.put X Y (m : Int)
  exact bodyPost_ret (results_cl rfl _ _ (w.heap.size + 1) X Y (m : Int) rfl Q.res) rfl ⟨rfl, Q.bel⟩
set_option maxHeartbeats 2000000 in
set_option maxRecDepth 100000 in
theorem eQuarter_1 (X Y : Nat) (L : Int) (xr s s2 m : Nat) (q0 : ¬ L = 0) (hs : IntKind.u64.wrap ((s2 : Int) / 2) % 4294967296 = (s : Int)) (P1 : Hid (((X : Int) + (s : Int)) % 4294967296 = (xr : Int))) (P2 : Hid ((Y : Int) % 4294967296 = (Y : Int))) (P3 : Hid (wrap64 (L - 1) = (m : Int)))
    (HC : Hid (∀ w, Calls Try.prog 84 #[cv X Y L] w fun e w' => e = .returned (.bool true) ∧ Below w.heap.size w w'))
    (HZ : Hid (∀ w, Calls Try.prog 85 #[cv X Y L] w fun e w' => e = .returned (.int .u64 (s2 : Int)) ∧ Below w.heap.size w w')) (w : World) :
    Calls Try.prog 65 #[cv X Y L, .int .i64 1] w fun e w' => e = .returned (.tuple #[cv xr Y (m : Int), .int .i64 0]) ∧ Below w.heap.size w w' := by
  have HN : Hid _ := eb2_new w X Y L
  go_enter Try.func65, Try.ntmps65
  go_wp2_with fail
  refine (HC.out _).mono ?_
  rintro e w1 ⟨rfl, b1⟩
  have HB : Hid (EB2 w X Y L 0 0 0 w1) := HN.out.next b1 (by simp)
  obtain ⟨d0, d1, d2⟩ := Cel.cells HB.out.cel
  clear b1
  go_wp2_with fail
  refine (HZ.out _).mono ?_
  rintro e w2 ⟨rfl, b2⟩
  replace HB : Hid (EB2 w X Y L 0 0 0 w2) := HB.out.next b2 HB.out.size
  clear b2 d0 d1 d2
  obtain ⟨d0, d1, d2⟩ := Cel.cells HB.out.cel
  obtain ⟨z0, z1, z2, c0, c1, c2⟩ := cell_facts HB.out.res
  go_wp2_with fail
  rw [P1.out, P2.out, P3.out]
  have Q := HB.out.put xr Y (m : Int)
  exact bodyPost_ret (results_cl rfl _ _ (w.heap.size + 1) xr Y (m : Int) rfl Q.res) rfl ⟨rfl, Q.bel⟩
set_option maxHeartbeats 2000000 in
set_option maxRecDepth 100000 in
theorem eQuarter_2 (X Y : Nat) (L : Int) (yr s s2 m : Nat) (q0 : ¬ L = 0) (hs : IntKind.u64.wrap ((s2 : Int) / 2) % 4294967296 = (s : Int)) (P1 : Hid ((X : Int) % 4294967296 = (X : Int))) (P2 : Hid (((Y : Int) + (s : Int)) % 4294967296 = (yr : Int))) (P3 : Hid (wrap64 (L - 1) = (m : Int)))
    (HC : Hid (∀ w, Calls Try.prog 84 #[cv X Y L] w fun e w' => e = .returned (.bool true) ∧ Below w.heap.size w w'))
    (HZ : Hid (∀ w, Calls Try.prog 85 #[cv X Y L] w fun e w' => e = .returned (.int .u64 (s2 : Int)) ∧ Below w.heap.size w w')) (w : World) :
    Calls Try.prog 65 #[cv X Y L, .int .i64 2] w fun e w' => e = .returned (.tuple #[cv X yr (m : Int), .int .i64 0]) ∧ Below w.heap.size w w' := by
  have HN : Hid _ := eb2_new w X Y L
  go_enter Try.func65, Try.ntmps65
  go_wp2_with fail
  refine (HC.out _).mono ?_
  rintro e w1 ⟨rfl, b1⟩
  have HB : Hid (EB2 w X Y L 0 0 0 w1) := HN.out.next b1 (by simp)
  obtain ⟨d0, d1, d2⟩ := Cel.cells HB.out.cel
  clear b1
  go_wp2_with fail
  refine (HZ.out _).mono ?_
  rintro e w2 ⟨rfl, b2⟩
  replace HB : Hid (EB2 w X Y L 0 0 0 w2) := HB.out.next b2 HB.out.size
  clear b2 d0 d1 d2
  obtain ⟨d0, d1, d2⟩ := Cel.cells HB.out.cel
  obtain ⟨z0, z1, z2, c0, c1, c2⟩ := cell_facts HB.out.res
  go_wp2_with fail
  rw [P1.out, P2.out, P3.out]
  have Q := HB.out.put X yr (m : Int)
  exact bodyPost_ret (results_cl rfl _ _ (w.heap.size + 1) X yr (m : Int) rfl Q.res) rfl ⟨rfl, Q.bel⟩
set_option maxHeartbeats 2000000 in
set_option maxRecDepth 100000 in
theorem eQuarter_3 (X Y : Nat) (L : Int) (xr yr s s2 m : Nat) (q0 : ¬ L = 0) (hs : IntKind.u64.wrap ((s2 : Int) / 2) % 4294967296 = (s : Int)) (P1 : Hid (((X : Int) + (s : Int)) % 4294967296 = (xr : Int))) (P2 : Hid (((Y : Int) + (s : Int)) % 4294967296 = (yr : Int))) (P3 : Hid (wrap64 (L - 1) = (m : Int)))
    (HC : Hid (∀ w, Calls Try.prog 84 #[cv X Y L] w fun e w' => e = .returned (.bool true) ∧ Below w.heap.size w w'))
    (HZ : Hid (∀ w, Calls Try.prog 85 #[cv X Y L] w fun e w' => e = .returned (.int .u64 (s2 : Int)) ∧ Below w.heap.size w w')) (w : World) :
    Calls Try.prog 65 #[cv X Y L, .int .i64 3] w fun e w' => e = .returned (.tuple #[cv xr yr (m : Int), .int .i64 0]) ∧ Below w.heap.size w w' := by
  have HN : Hid _ := eb2_new w X Y L
  go_enter Try.func65, Try.ntmps65
  go_wp2_with fail
  refine (HC.out _).mono ?_
  rintro e w1 ⟨rfl, b1⟩
  have HB : Hid (EB2 w X Y L 0 0 0 w1) := HN.out.next b1 (by simp)
  obtain ⟨d0, d1, d2⟩ := Cel.cells HB.out.cel
  clear b1
  go_wp2_with fail
  refine (HZ.out _).mono ?_
  rintro e w2 ⟨rfl, b2⟩
  replace HB : Hid (EB2 w X Y L 0 0 0 w2) := HB.out.next b2 HB.out.size
  clear b2 d0 d1 d2
  obtain ⟨d0, d1, d2⟩ := Cel.cells HB.out.cel
  obtain ⟨z0, z1, z2, c0, c1, c2⟩ := cell_facts HB.out.res
  go_wp2_with fail
  rw [P1.out, P2.out, P3.out]
  have Q := HB.out.put xr yr (m : Int)
  exact bodyPost_ret (results_cl rfl _ _ (w.heap.size + 1) xr yr (m : Int) rfl Q.res) rfl ⟨rfl, Q.bel⟩
set_option maxHeartbeats 2000000 in
set_option maxRecDepth 100000 in
theorem eQuarter_no (X Y : Nat) (L i : Int) (p : Bool) (HC : Hid (∀ w, Calls Try.prog 84 #[cv X Y L] w fun e w' => e = .returned (.bool p) ∧ Below w.heap.size w w')) (h : p = false ∨ L = 0 ∨ i < 0 ∨ 3 < i) (w : World) :
    Calls Try.prog 65 #[cv X Y L, .int .i64 i] w fun e w' => e = .returned (.tuple #[cv 0 0 0, .int .i64 2]) ∧ Below w.heap.size w w' := by
  have HN : Hid _ := eb2_new w X Y L
  cases p
  · clear h
    go_enter Try.func65, Try.ntmps65
    go_wp2_with fail
    refine (HC.out _).mono ?_
    rintro e w1 ⟨rfl, b1⟩
    have HB : Hid (EB2 w X Y L 0 0 0 w1) := HN.out.next b1 (by simp)
    obtain ⟨d0, d1, d2⟩ := Cel.cells HB.out.cel
    obtain ⟨z0, z1, z2, c0, c1, c2⟩ := cell_facts HB.out.res
    clear b1
    go_wp2_with fail
    have Q := HB.out.put 0 0 0
    exact bodyPost_ret (results_cl rfl _ _ (w.heap.size + 1) 0 0 0 rfl Q.res) rfl ⟨rfl, Q.bel⟩
  · by_cases q0 : L = 0
    · subst q0
      clear h
      go_enter Try.func65, Try.ntmps65
      go_wp2_with fail
      refine (HC.out _).mono ?_
      rintro e w1 ⟨rfl, b1⟩
      have HB : Hid (EB2 w X Y 0 0 0 0 w1) := HN.out.next b1 (by simp)
      obtain ⟨d0, d1, d2⟩ := Cel.cells HB.out.cel
      obtain ⟨z0, z1, z2, c0, c1, c2⟩ := cell_facts HB.out.res
      clear b1
      go_wp2_with fail
      have Q := HB.out.put 0 0 0
      exact bodyPost_ret (results_cl rfl _ _ (w.heap.size + 1) 0 0 0 rfl Q.res) rfl ⟨rfl, Q.bel⟩
    · by_cases q1 : i < 0
      · clear h
        go_enter Try.func65, Try.ntmps65
        go_wp2_with fail
        refine (HC.out _).mono ?_
        rintro e w1 ⟨rfl, b1⟩
        have HB : Hid (EB2 w X Y L 0 0 0 w1) := HN.out.next b1 (by simp)
        obtain ⟨d0, d1, d2⟩ := Cel.cells HB.out.cel
        obtain ⟨z0, z1, z2, c0, c1, c2⟩ := cell_facts HB.out.res
        clear b1
        go_wp2_with fail
        have Q := HB.out.put 0 0 0
        exact bodyPost_ret (results_cl rfl _ _ (w.heap.size + 1) 0 0 0 rfl Q.res) rfl ⟨rfl, Q.bel⟩
      · have q2 : 3 < i := by rcases h with h | h | h | h; (cases h); (exact absurd h q0); (exact absurd h q1); exact h
        clear h
        go_enter Try.func65, Try.ntmps65
        go_wp2_with fail
        refine (HC.out _).mono ?_
        rintro e w1 ⟨rfl, b1⟩
        have HB : Hid (EB2 w X Y L 0 0 0 w1) := HN.out.next b1 (by simp)
        obtain ⟨d0, d1, d2⟩ := Cel.cells HB.out.cel
        obtain ⟨z0, z1, z2, c0, c1, c2⟩ := cell_facts HB.out.res
        clear b1
        go_wp2_with fail
        have Q := HB.out.put 0 0 0
        exact bodyPost_ret (results_cl rfl _ _ (w.heap.size + 1) 0 0 0 rfl Q.res) rfl ⟨rfl, Q.bel⟩
end Go.Proofs.Ytaiiclkfnahghaa.Rc
