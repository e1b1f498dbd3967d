/- CellFar: a point is no farther from a cell than from each point that it has, and not far from one that has it. -/
import Derived.Test.YtpfjfekpjlfibaaPFA
namespace Go.Proofs.Ytpfjfekpjlfibaa.Rc
open Go.RowKit Go.Lib
/-- The cell that was handed in. -/
structure CA (w0 : World) (X Y : Nat) (L : Int) (w : World) : Prop where
  cel : CelS w0.heap.size X Y L w
  bel : Below w0.heap.size w0 w
  one : w0.heap.size < w.heap.size
set_option maxRecDepth 100000 in
theorem ca_new (X Y : Nat) (L : Int) (w : World) : CA w X Y L (w.alloc (.cells #[.int .u32 (X : Int), .int .u32 (Y : Int), .int .i64 L] 24)) := ⟨cel_new X Y L w, below_new w _, by simp⟩
set_option maxRecDepth 100000 in
theorem CA.next {w0 : World} {X Y : Nat} {L : Int} {w w' : World} (h : CA w0 X Y L w) (hb : Below w.heap.size w w') : CA w0 X Y L w' := ⟨h.cel.below hb h.one, h.bel.trans (hb.mono (Nat.le_of_lt h.one)), Nat.lt_of_lt_of_le h.one hb.size⟩
set_option maxHeartbeats 4000000 in
set_option maxRecDepth 100000 in
theorem far_walk_no (X Y : Nat) (L : Int) (zx zy : Int) (u v : Nat) (r : Bool) (H1 : Hid (∀ w, Calls Try.prog 27 #[cv X Y L, .int .u32 zx, .int .u32 zy] w fun e w' => e = .returned (fv (0, 2)) ∧ Below w.heap.size w w'))
    (H2 : Hid (∀ w, Calls Try.prog 13 #[cv X Y L] w fun e w' => e = .returned (.bool r) ∧ Below w.heap.size w w')) (h : r = false ∨ 2147483648 ≤ zx ∨ 2147483648 ≤ zy) (w : World) :
    Calls Try.prog 9 #[cv X Y L, .int .u32 zx, .int .u32 zy, .int .u32 (u : Int), .int .u32 (v : Int)] w fun e w' => e = .returned (.bool true) ∧ Below w.heap.size w w' := by
  have HN : Hid _ := ca_new X Y L w
  cases r
  · clear h
    go_enter Try.func9, Try.ntmps9
    go_wp2_with fail
    refine (shown_any _).mono ?_
    rintro e w1 ⟨rfl, b1⟩
    have HB : Hid (CA w X Y L w1) := HN.out.next b1
    obtain ⟨e0, e1, e2⟩ := HB.out.cel
    clear b1
    go_wp2_with fail
    refine (H1.out _).mono ?_
    rintro e w2 ⟨rfl, b2⟩
    replace HB : Hid (CA w X Y L w2) := HB.out.next b2
    clear b2 e0 e1 e2
    obtain ⟨e0, e1, e2⟩ := HB.out.cel
    go_wp2_with fail
    refine (H2.out _).mono ?_
    rintro e w3 ⟨rfl, b3⟩
    replace HB : Hid (CA w X Y L w3) := HB.out.next b3
    clear b3 e0 e1 e2
    go_wp2_with fail
    go_ret
    exact ⟨rfl, HB.out.bel⟩
  · by_cases q1 : 2147483648 ≤ zx
    · clear h
      go_enter Try.func9, Try.ntmps9
      go_wp2_with fail
      refine (shown_any _).mono ?_
      rintro e w1 ⟨rfl, b1⟩
      have HB : Hid (CA w X Y L w1) := HN.out.next b1
      obtain ⟨e0, e1, e2⟩ := HB.out.cel
      clear b1
      go_wp2_with fail
      refine (H1.out _).mono ?_
      rintro e w2 ⟨rfl, b2⟩
      replace HB : Hid (CA w X Y L w2) := HB.out.next b2
      clear b2 e0 e1 e2
      obtain ⟨e0, e1, e2⟩ := HB.out.cel
      go_wp2_with fail
      refine (H2.out _).mono ?_
      rintro e w3 ⟨rfl, b3⟩
      replace HB : Hid (CA w X Y L w3) := HB.out.next b3
      clear b3 e0 e1 e2
      go_wp2_with fail
      go_ret
      exact ⟨rfl, HB.out.bel⟩
    · have q2 : 2147483648 ≤ zy := by rcases h with h | h | h; (cases h); (exact absurd h q1); exact h
      clear h
      go_enter Try.func9, Try.ntmps9
      go_wp2_with fail
      refine (shown_any _).mono ?_
      rintro e w1 ⟨rfl, b1⟩
      have HB : Hid (CA w X Y L w1) := HN.out.next b1
      obtain ⟨e0, e1, e2⟩ := HB.out.cel
      clear b1
      go_wp2_with fail
      refine (H1.out _).mono ?_
      rintro e w2 ⟨rfl, b2⟩
      replace HB : Hid (CA w X Y L w2) := HB.out.next b2
      clear b2 e0 e1 e2
      obtain ⟨e0, e1, e2⟩ := HB.out.cel
      go_wp2_with fail
      refine (H2.out _).mono ?_
      rintro e w3 ⟨rfl, b3⟩
      replace HB : Hid (CA w X Y L w3) := HB.out.next b3
      clear b3 e0 e1 e2
      go_wp2_with fail
      go_ret
      exact ⟨rfl, HB.out.bel⟩
set_option maxHeartbeats 4000000 in
set_option maxRecDepth 100000 in
theorem far_walk_ok (X Y n x y u v : Nat) (cl : Cl X Y n) (ho : onS x y = true) (hx : x < 4294967296) (hy : y < 4294967296) (hu : u < 4294967296) (hv : v < 4294967296) (w : World) :
    Calls Try.prog 9 #[cv X Y (n : Int), .int .u32 (x : Int), .int .u32 (y : Int), .int .u32 (u : Int), .int .u32 (v : Int)] w fun e w' => e = .returned (.bool true) ∧ Below w.heap.size w w' := by
  have hX : X < 4294967296 := by have := cl.x31; omega
  have hY : Y < 4294967296 := by have := cl.y31; omega
  have H1 : Hid (∀ w, Calls Try.prog 27 #[cv X Y (n : Int), .int .u32 (x : Int), .int .u32 (y : Int)] w fun e w' => e = .returned (fv (farS X Y n x y, 0)) ∧ Below w.heap.size w w') := far_ok X Y n x y cl ho
  have H2 : Hid _ := has_any X Y (n : Int) x y hX hY hx hy
  have H3 : Hid _ := has_any X Y (n : Int) u v hX hY hu hv
  have hz := far_zero (x := x) (y := y) cl
  have H4 : Hid (hasS X Y (n : Int) u v = true → (∀ w, Calls Try.prog 33 #[.int .u32 (x : Int), .int .u32 (y : Int), .int .u32 (u : Int), .int .u32 (v : Int)] w fun e w' => e = .returned (.int .u64 ((dist x u * dist x u + dist y v * dist y v : Nat) : Int)) ∧ w' = w) ∧ farS X Y n x y ≤ dist x u * dist x u + dist y v * dist y v) := fun h => by
    have h' := h
    rw [hasS_iff _ _ _ _ _ cl] at h'
    have := cl.xe; have := cl.ye
    unfold onS at ho
    rw [decide_eq_true_iff] at ho
    exact ⟨eSquare_any x y u v ho.1 ho.2 (by omega) (by omega), far_le x y cl h⟩
  generalize farS X Y n x y = pn at *
  generalize hasS X Y (n : Int) x y = r1 at *
  generalize hasS X Y (n : Int) u v = r2 at *
  generalize dist x u * dist x u + dist y v * dist y v = sq at *
  have HN : Hid _ := ca_new X Y (n : Int) w
  have hq : (pn = 0 ∧ r1 = true) ∨ (pn ≠ 0 ∧ r1 = false) := by
    by_cases e : pn = 0
    · exact .inl ⟨e, hz.1 e⟩
    · refine .inr ⟨e, ?_⟩
      cases r1
      · rfl
      · exact absurd (hz.2 rfl) e
  clear hz hX hY ho hx hy hu hv cl
  have key : ∀ (q : ((pn : Int) == 0) = r1), Calls Try.prog 9 #[cv X Y (n : Int), .int .u32 (x : Int), .int .u32 (y : Int), .int .u32 (u : Int), .int .u32 (v : Int)] w fun e w' => e = .returned (.bool true) ∧ Below w.heap.size w w' := fun q => by
    go_enter Try.func9, Try.ntmps9
    go_wp2_with fail
    refine (shown_any _).mono ?_
    rintro e w1 ⟨rfl, b1⟩
    have HB : Hid (CA w X Y (n : Int) w1) := HN.out.next b1
    obtain ⟨e0, e1, e2⟩ := HB.out.cel
    clear b1
    go_wp2_with fail
    refine (H1.out _).mono ?_
    rintro e w2 ⟨rfl, b2⟩
    replace HB : Hid (CA w X Y (n : Int) w2) := HB.out.next b2
    clear b2 e0 e1 e2
    obtain ⟨e0, e1, e2⟩ := HB.out.cel
    go_wp2_with fail
    refine (H2.out _).mono ?_
    rintro e w3 ⟨rfl, b3⟩
    replace HB : Hid (CA w X Y (n : Int) w3) := HB.out.next b3
    clear b3 e0 e1 e2
    obtain ⟨e0, e1, e2⟩ := HB.out.cel
    cases r1
    · go_wp2_with fail
      refine (H3.out _).mono ?_
      rintro e w4 ⟨rfl, b4⟩
      replace HB : Hid (CA w X Y (n : Int) w4) := HB.out.next b4
      clear b4 e0 e1 e2
      cases r2
      · go_wp2_with fail
        go_ret
        exact ⟨rfl, HB.out.bel⟩
      · obtain ⟨h5, hle⟩ := H4.out rfl
        have H5 : Hid _ := h5
        have q5 : (pn : Int) ≤ (sq : Int) := by omega
        clear h5 hle
        go_wp2_with fail
        refine (H5.out _).mono ?_
        rintro e w5 ⟨rfl, hw5⟩
        subst hw5
        go_wp2_with fail
        go_ret
        exact ⟨rfl, HB.out.bel⟩
    · go_wp2_with fail
      refine (H3.out _).mono ?_
      rintro e w4 ⟨rfl, b4⟩
      replace HB : Hid (CA w X Y (n : Int) w4) := HB.out.next b4
      clear b4 e0 e1 e2
      cases r2
      · go_wp2_with fail
        go_ret
        exact ⟨rfl, HB.out.bel⟩
      · obtain ⟨h5, hle⟩ := H4.out rfl
        have H5 : Hid _ := h5
        have q5 : (pn : Int) ≤ (sq : Int) := by omega
        clear h5 hle
        go_wp2_with fail
        refine (H5.out _).mono ?_
        rintro e w5 ⟨rfl, hw5⟩
        subst hw5
        go_wp2_with fail
        go_ret
        exact ⟨rfl, HB.out.bel⟩
  rcases hq with ⟨e, e2⟩ | ⟨e, e2⟩
  · exact key (by rw [e, e2]; rfl)
  · exact key (by rw [e2]; simp [e])
set_option maxRecDepth 100000 in
theorem far_walk (X Y : Nat) (L : Int) (x y u v : Nat) (hX : X < 4294967296) (hY : Y < 4294967296) (hx : x < 4294967296) (hy : y < 4294967296) (hu : u < 4294967296) (hv : v < 4294967296) (w : World) :
    Calls Try.prog 9 #[cv X Y L, .int .u32 (x : Int), .int .u32 (y : Int), .int .u32 (u : Int), .int .u32 (v : Int)] w fun e w' => e = .returned (.bool true) ∧ Below w.heap.size w w' := by
  by_cases h : rightS X Y L = true ∧ onS x y = true
  · obtain ⟨n, rfl, cl⟩ := (rightS_iff X Y L).1 h.1
    exact far_walk_ok X Y n x y u v cl h.2 hx hy hu hv w
  · have H1 := far_any X Y L x y hX hY
    rw [show fars X Y L x y = (0, 2) by unfold fars; rw [if_neg h]] at H1
    refine far_walk_no X Y L x y u v _ H1 (right_any X Y L hX hY) ?_ w
    cases e : rightS X Y L
    · exact .inl rfl
    · rw [e] at h
      have h2 : ¬ (x < 2147483648 ∧ y < 2147483648) := fun k => h ⟨rfl, decide_eq_true k⟩
      exact .inr (by omega)
end Go.Proofs.Ytpfjfekpjlfibaa.Rc
