/- Quarter. -/
import Derived.Test.YtpfjfekpjlfibaaPCL
namespace Go.Proofs.Ytpfjfekpjlfibaa.Rc
open Go.RowKit Go.Shelf Go.Lib
attribute [local go_sem] Oper.semAt_some
/-- What Quarter keeps: the cell, the number, and what it tells. -/
structure QB (w : World) (X Y : Nat) (L i : Int) (x y : Nat) (l e : Int) (W : World) : Prop where
  cel : W.heap[w.heap.size]? = some (.cells #[.int .u32 (X : Int), .int .u32 (Y : Int), .int .i64 L] 24 (0, 0))
  num : W.heap[w.heap.size + 1]? = some (.cells #[.int .i64 i] 3 (0, 0))
  res : W.heap[w.heap.size + 2]? = some (.cells #[.int .u32 (x : Int), .int .u32 (y : Int), .int .i64 l] 24 (0, 0))
  err : W.heap[w.heap.size + 3]? = some (.cells #[.int .i64 e] 33 (0, 0))
  bel : Below w.heap.size w W
set_option maxRecDepth 100000 in
theorem QB.next {w : World} {X Y : Nat} {L i : Int} {x y : Nat} {l e : Int} {W W' : World} {B : Nat} (h : QB w X Y L i x y l e W) (hb : Below B W W') (hB : w.heap.size + 4 ≤ B) : QB w X Y L i x y l e W' :=
  ⟨(hb.block _ (by omega)).trans h.cel, (hb.block _ (by omega)).trans h.num, (hb.block _ (by omega)).trans h.res, (hb.block _ (by omega)).trans h.err, h.bel.trans (hb.mono (by omega))⟩
set_option maxRecDepth 100000 in
theorem QB.size {w : World} {X Y : Nat} {L i : Int} {x y : Nat} {l e : Int} {W : World} (h : QB w X Y L i x y l e W) : w.heap.size + 4 ≤ W.heap.size := (Array.getElem?_eq_some_iff.1 h.err).1
set_option maxRecDepth 100000 in
theorem four_new (w : World) (a b c d : Obj) : ((((w.alloc a).alloc b).alloc c).alloc d).heap[w.heap.size]? = some a ∧ ((((w.alloc a).alloc b).alloc c).alloc d).heap[w.heap.size + 1]? = some b ∧ ((((w.alloc a).alloc b).alloc c).alloc d).heap[w.heap.size + 2]? = some c ∧ ((((w.alloc a).alloc b).alloc c).alloc d).heap[w.heap.size + 3]? = some d ∧ Below w.heap.size w ((((w.alloc a).alloc b).alloc c).alloc d) := by
  obtain ⟨h1, h2, h3⟩ := two_new w a b
  obtain ⟨h4, h5, h6⟩ := two_new ((w.alloc a).alloc b) c d
  have s : ((w.alloc a).alloc b).heap.size = w.heap.size + 2 := by simp
  rw [s] at h4 h5 h6
  exact ⟨(h6.block _ (by omega)).trans h1, (h6.block _ (by omega)).trans h2, h4, h5, h3.trans (h6.mono (by omega))⟩
set_option maxRecDepth 100000 in
theorem qb_new (w : World) (X Y : Nat) (L i : Int) : QB w X Y L i 0 0 0 0 ((((w.alloc (.cells #[.int .u32 (X : Int), .int .u32 (Y : Int), .int .i64 L] 24)).alloc (.cells #[.int .i64 i] 3)).alloc (.cells #[.int .u32 0, .int .u32 0, .int .i64 0] 24)).alloc (.cells #[.int .i64 0] 33)) := by
  obtain ⟨h1, h2, h3, h4, h5⟩ := four_new w (.cells #[.int .u32 (X : Int), .int .u32 (Y : Int), .int .i64 L] 24) (.cells #[.int .i64 i] 3) (.cells #[.int .u32 0, .int .u32 0, .int .i64 0] 24) (.cells #[.int .i64 0] 33)
  exact ⟨h1, h2, h3, h4, h5⟩
set_option maxRecDepth 100000 in
/-- What Quarter tells is laid. -/
theorem QB.put {w : World} {X Y : Nat} {L i : Int} {x y : Nat} {l e : Int} {W : World} (h : QB w X Y L i x y l e W) (x' y' : Nat) (l' e' : Int) :
    QB w X Y L i x' y' l' e' ((((W.setCell ⟨w.heap.size + 2, 0, none⟩ (.int .u32 (x' : Int))).setCell ⟨w.heap.size + 2, 1, none⟩ (.int .u32 (y' : Int))).setCell ⟨w.heap.size + 2, 2, none⟩ (.int .i64 l')).setCell ⟨w.heap.size + 3, 0, none⟩ (.int .i64 e')) := by
  have hs := h.size
  obtain ⟨h2, b2⟩ := put_cell h.res (.int .u32 (x' : Int)) (.int .u32 (y' : Int)) (.int .i64 l')
  have h3 : ((((W.setCell ⟨w.heap.size + 2, 0, none⟩ (.int .u32 (x' : Int))).setCell ⟨w.heap.size + 2, 1, none⟩ (.int .u32 (y' : Int))).setCell ⟨w.heap.size + 2, 2, none⟩ (.int .i64 l'))).heap[w.heap.size + 3]? = some (.cells #[.int .i64 e] 33 (0, 0)) :=
    (Below.heap_setCell _ _ _ _ (by simp)).trans ((Below.heap_setCell _ _ _ _ (by simp)).trans ((Below.heap_setCell _ _ _ _ (by simp)).trans h.err))
  have h4 := heap_setCell_same _ _ 0 _ _ (.int .i64 e') h3
  have b4 := grown_below (B := w.heap.size + 3) (gb_set (((W.setCell ⟨w.heap.size + 2, 0, none⟩ (.int .u32 (x' : Int))).setCell ⟨w.heap.size + 2, 1, none⟩ (.int .u32 (y' : Int))).setCell ⟨w.heap.size + 2, 2, none⟩ (.int .i64 l')) (w.heap.size + 3) 0 (.int .i64 e')) (Nat.le_refl _) (by simp [World.setCell]; omega)
  exact ⟨(b4.block _ (by omega)).trans ((b2.block _ (by omega)).trans h.cel), (b4.block _ (by omega)).trans ((b2.block _ (by omega)).trans h.num), (b4.block _ (by omega)).trans h2, h4, h.bel.trans ((b2.mono (by omega)).trans (b4.mono (by omega)))⟩
set_option maxRecDepth 100000 in
theorem results_cc {fn : Func} {p u : Tmp} (h : fn.results = #[.cell p 24, .cell u 33]) (tmps : Array Value) {w W : World} {X Y : Nat} {L i : Int} {x y : Nat} {l e : Int} (q : QB w X Y L i x y l e W)
    (hp : tmps.getD p undef = .pointer (some ⟨w.heap.size + 2, 0, none⟩)) (hu : tmps.getD u undef = .pointer (some ⟨w.heap.size + 3, 0, none⟩)) : (results fn tmps).run Try.prog W = .ok (.tuple #[cv x y l, .int .i64 e]) W := by
  have hp' : tmps[p]?.getD undef = .pointer (some ⟨w.heap.size + 2, 0, none⟩) := by simpa using hp
  have hu' : tmps[u]?.getD undef = .pointer (some ⟨w.heap.size + 3, 0, none⟩) := by simpa using hu
  have hc : W.cell? ⟨w.heap.size + 3, 0, none⟩ = some (.int .i64 e) := by rw [cell_of_row _ _ _ _ _ _ q.err]; rfl
  obtain ⟨_, _, _, d0, d1, d2⟩ := cell_facts q.res
  simp [results, h, hp', hu', go_sem, hc, d0, d1, d2]
set_option maxRecDepth 100000 in
set_option maxHeartbeats 2000000 in
theorem quarter_no (X Y : Nat) (L i : Int) (hX : X < 4294967296) (hY : Y < 4294967296) (h : rightS X Y L = false ∨ L = 0) (w : World) :
    CallsIn Fence.wide 5 Try.prog 21 #[cv X Y L, .int .i64 i] w fun e w' => e = .returned (.tuple #[cv 0 0 0, .int .i64 2]) ∧ Below w.heap.size w w' := by
  refine callsIn_of_wp_marks Try.func21 rfl trivial ?_ rfl
  simp only [Try.ntmps21, List.size_toArray, List.length_cons, List.length_nil, Nat.reduceAdd, Nat.reduceSub, Array.replicate_succ, Array.replicate_zero, List.push_toArray, List.append_toArray, List.nil_append, List.cons_append]
  have HC : Hid _ := right_any X Y L hX hY
  have HN : Hid _ := qb_new w X Y L i
  clear hX hY
  cases h1 : rightS X Y L
  · rw [h1] at HC
    clear h h1
    gi_wp2
    refine ⟨trivial, callsIn_wide.2 ((HC.out _).mono ?_)⟩
    rintro e w1 ⟨rfl, b1⟩
    have HB : Hid (QB w X Y L i 0 0 0 0 w1) := HN.out.next b1 (by simp)
    obtain ⟨z0, z1, z2, c0, c1, c2⟩ := cell_facts HB.out.res
    have z3 := frozen_of_row w1 _ 0 _ _ HB.out.err
    have c3 : w1.cell? ⟨w.heap.size + 3, 0, none⟩ = some (.int .i64 0) := by rw [cell_of_row _ _ _ _ _ _ HB.out.err]; rfl
    clear b1
    gi_wp2
    have Q2 := HB.out.put 0 0 0 2
    exact ⟨_, results_cc rfl _ Q2 rfl rfl, rfl, Q2.bel⟩
  · have hL : L = 0 := by rcases h with h | h; (rw [h1] at h; cases h); exact h
    rw [h1] at HC
    subst hL
    clear h h1
    gi_wp2
    refine ⟨trivial, callsIn_wide.2 ((HC.out _).mono ?_)⟩
    rintro e w1 ⟨rfl, b1⟩
    have HB : Hid (QB w X Y 0 i 0 0 0 0 w1) := HN.out.next b1 (by simp)
    obtain ⟨z0, z1, z2, c0, c1, c2⟩ := cell_facts HB.out.res
    have z3 := frozen_of_row w1 _ 0 _ _ HB.out.err
    have c3 : w1.cell? ⟨w.heap.size + 3, 0, none⟩ = some (.int .i64 0) := by rw [cell_of_row _ _ _ _ _ _ HB.out.err]; rfl
    obtain ⟨d0, d1, d2⟩ := Cel.cells HB.out.cel
    clear b1
    gi_wp2
    have Q2 := HB.out.put 0 0 0 2
    exact ⟨_, results_cc rfl _ Q2 rfl rfl, rfl, Q2.bel⟩
/-- The walk is k quarters on: none was it. -/
def QJ (w : World) (X Y : Nat) (L i : Int) (k : Nat) (W : World) : Prop := (∀ j : Nat, j < k → (j : Int) ≠ i) ∧ QB w X Y L i 0 0 0 0 W
def QX (w : World) (X xr Y yr : Nat) (L i : Int) (m : Nat) (W : World) : Prop := ∃ k : Nat, k < 4 ∧ (k : Int) = i ∧ QB w X Y L i (qx X xr k) (qy Y yr k) (m : Int) 0 W
set_option maxRecDepth 100000 in
set_option maxHeartbeats 2000000 in
theorem quarter_in (X Y m : Nat) (i : Int) (cl : Cl X Y (m + 1)) (w : World) :
    CallsIn Fence.wide 5 Try.prog 21 #[cv X Y ((m + 1 : Nat) : Int), .int .i64 i] w fun e w' =>
      ((∃ k : Nat, k < 4 ∧ (k : Int) = i ∧ e = .returned (.tuple #[cv (qx X (X + 2 ^ m) k) (qy Y (Y + 2 ^ m) k) (m : Int), .int .i64 0])) ∨ ((∀ j : Nat, j < 4 → (j : Int) ≠ i) ∧ e = .returned (.tuple #[cv 0 0 0, .int .i64 2]))) ∧ Below w.heap.size w w' := by
  refine callsIn_of_wp_marks Try.func21 rfl trivial ?_ rfl
  simp only [Try.ntmps21, List.size_toArray, List.length_cons, List.length_nil, Nat.reduceAdd, Nat.reduceSub, Array.replicate_succ, Array.replicate_zero, List.push_toArray, List.append_toArray, List.nil_append, List.cons_append]
  obtain ⟨L, hL⟩ : ∃ L : Int, ((m + 1 : Nat) : Int) = L := ⟨_, rfl⟩
  have h1 := (rightS_nat X Y (m + 1)).2 cl
  rw [hL] at h1 ⊢
  have HC : Hid _ := right_any X Y L (by have := cl.x31; omega) (by have := cl.y31; omega)
  have HN : Hid _ := qb_new w X Y L i
  rw [h1] at HC
  have q0 : ¬ L = 0 := by omega
  have hxe := cl.xe
  have hye := cl.ye
  have hn31 := cl.n31
  rw [Nat.pow_succ] at hxe hye
  have hp := Nat.two_pow_pos m
  have HI : Hid _ := fun (w' w0 : World) b1 => quarters1_in X Y m b1 L w' w0 (by omega) (by omega) (by omega) (by omega)
  clear h1 hL cl hxe hye hn31 hp
  obtain ⟨xr, hxr⟩ : ∃ xr, X + 2 ^ m = xr := ⟨_, rfl⟩
  obtain ⟨yr, hyr⟩ : ∃ yr, Y + 2 ^ m = yr := ⟨_, rfl⟩
  rw [hxr, hyr] at HI ⊢
  clear hxr hyr
  gi_wp2
  refine ⟨trivial, callsIn_wide.2 ((HC.out _).mono ?_)⟩
  rintro e w1 ⟨rfl, b1⟩
  have HB : Hid (QB w X Y L i 0 0 0 0 w1) := HN.out.next b1 (by simp)
  obtain ⟨d0, d1, d2⟩ := Cel.cells HB.out.cel
  clear b1
  gi_wp2
  refine ⟨trivial, callsIn_wide.2 ((quarters_any _ _ _ _).mono ?_)⟩
  rintro e w2 ⟨rfl, rfl⟩
  have HS := HB.out.size
  have HB2 : Hid (QB w X Y L i 0 0 0 0 (w1.alloc (.cells #[.int .u32 (X : Int), .int .u32 (Y : Int), .int .i64 L] 24))) := HB.out.next (below_new _ _) HS
  have HQ : Hid ((w1.alloc (.cells #[.int .u32 (X : Int), .int .u32 (Y : Int), .int .i64 L] 24)).heap[w1.heap.size]? = some (.cells #[.int .u32 (X : Int), .int .u32 (Y : Int), .int .i64 L] 24 (0, 0))) := heap_alloc_new w1 _
  have HS3 : (w1.alloc (.cells #[.int .u32 (X : Int), .int .u32 (Y : Int), .int .i64 L] 24)).heap.size = w1.heap.size + 1 := by simp
  obtain ⟨w3, hw3⟩ : ∃ w3, w1.alloc (.cells #[.int .u32 (X : Int), .int .u32 (Y : Int), .int .i64 L] 24) = w3 := ⟨_, rfl⟩
  rw [hw3] at HB2 HQ HS3 ⊢
  clear hw3 d0 d1 d2 HN HC HB
  obtain ⟨g, hg⟩ : ∃ g, w1.heap.size = g := ⟨_, rfl⟩
  rw [hg] at HS HQ HS3 ⊢
  clear hg
  have KW : Kq w.heap.size g w w3 := ⟨HB2.out.bel.size, fun j ob hj ho _ => (HB2.out.bel.block j (by have := (Array.getElem?_eq_some_iff.1 ho).1; omega)).trans ho⟩
  gi_wp2
  refine range_law3 rfl (by omega) (gf := 42) (lb := #[.pointer (some ⟨g, 0, none⟩)]) rfl trivial (enters_of Try.func42 (by kernel_rfl) rfl)
    4 (fun k => #[.int .i64 (k : Int), cv (qx X xr k) (qy Y yr k) (m : Int)]) (fun _ => rfl) (Kq w.heap.size g) Kq.trans (fun W l o o' h hc => Kq.put _ _ W l o o' h hc)
    (fun k W => QJ w X Y L i k W) (fun W => QX w X xr Y yr L i m W) .ret (fun k W W' h hb => ?hJ) (fun W W' h hb => ?hJx) ?h0
    (fun k a' W => ∃ q, w3.heap.size + 2 ≤ q ∧ W.heap[q]? = some (.cells #[.int .u32 (qx X xr k : Int), .int .u32 (qy Y yr k : Int), .int .i64 (m : Int)] 24 (0, 0)) ∧
      a' = { tmps := #[cv X Y L, Value.int IntKind.i64 i, Value.pointer (some ⟨w.heap.size, 0, none⟩), Value.pointer (some ⟨w.heap.size + 1, 0, none⟩), Value.pointer (some ⟨w.heap.size + 1 + 1, 0, none⟩), Value.pointer (some ⟨w.heap.size + 1 + 1 + 1, 0, none⟩), Value.int IntKind.i64 (k : Int), Value.pointer (some ⟨q, 0, none⟩), Value.agg #[Value.int IntKind.u32 (X : Int), Value.int IntKind.u32 (Y : Int), Value.int IntKind.i64 L], Value.bool true, Value.bool false, Value.bool false, Value.pointer (some ⟨w.heap.size, 2, none⟩), Value.int IntKind.i64 L, Value.bool false, Value.bool false, undef, Value.agg #[Value.int IntKind.u32 (X : Int), Value.int IntKind.u32 (Y : Int), Value.int IntKind.i64 L], Value.func (Fn.func 42) #[] #[Value.pointer (some ⟨g, 0, none⟩)], Value.int IntKind.i64 (k : Int), cv (qx X xr k) (qy Y yr k) (m : Int), undef, undef, undef, undef, undef], defers := [] }) ?hA ?assign ?body ?iter ?done ?stop
  case hJ => exact ⟨h.1, h.2.next hb (by omega)⟩
  case hJx =>
    obtain ⟨k, h1, h2, h3⟩ := h
    exact ⟨k, h1, h2, h3.next hb (by omega)⟩
  case h0 => exact ⟨fun j hj => by omega, HB2.out⟩
  case hA =>
    rintro k a' W j o' ⟨q, hq1, hq2, rfl⟩ h1 h2
    exact ⟨q, hq1, (World.putObj_heap_other (by omega)).trans hq2, rfl⟩
  case assign =>
    intro p k W K hk hJ hsz hK
    clear hJ
    generalize qx X xr k = x at *
    generalize qy Y yr k = y at *
    gi_wp2
    exact hK _ _ (below_new W _) (Kq.below (below_new W _) (by omega) (by omega)) ⟨W.heap.size, by omega, heap_alloc_new W _, rfl⟩
  case iter =>
    intro p W1 hB1 hs1 R Rx hR hRx hY h0
    exact HI.out w w3 g KW (by omega) HQ.out p W1 (Kq.below hB1 (by omega) (by omega)) R Rx hR hRx hY h0
  case body =>
    rintro p k a' W hk hJ ⟨q, hq1, hq2, rfl⟩
    have HJ : Hid (QJ w X Y L i k W) := hJ
    have c1 : W.cell? ⟨w.heap.size + 1, 0, none⟩ = some (.int .i64 i) := by rw [cell_of_row _ _ _ _ _ _ hJ.2.num]; rfl
    obtain ⟨_, _, _, c2, c3, c4⟩ := cell_facts hq2
    obtain ⟨z0, z1, z2, d0, d1, d2⟩ := cell_facts hJ.2.res
    have z3 := frozen_of_row W _ 0 _ _ hJ.2.err
    have d3 : W.cell? ⟨w.heap.size + 3, 0, none⟩ = some (.int .i64 0) := by rw [cell_of_row _ _ _ _ _ _ hJ.2.err]; rfl
    have hX : ∀ W', QB w X Y L i (qx X xr k) (qy Y yr k) (m : Int) 0 W' → (k : Int) = i → QX w X xr Y yr L i m W' := fun W' h e => ⟨k, hk, e, h⟩
    have HX : Hid _ := hX
    have k0 : (0 : Int) ≤ (k : Int) := by omega
    clear hJ hq2 hX
    generalize qx X xr k = x at *
    generalize qy Y yr k = y at *
    by_cases he : (k : Int) = i
    · have q1 : ((k : Int) == i) = true := by simp [he]
      gi_wp2
      have hs3 := HJ.out.2.size
      refine ⟨rfl, ?_, HX.out _ (HJ.out.2.put x y m 0) he⟩
      exact (KeepsFrom.of_grownBy (gb_set W (w.heap.size + 2) 0 (.int .u32 (x : Int))) (fun j e => by cases e; omega)).trans ((KeepsFrom.of_grownBy (gb_set _ (w.heap.size + 2) 1 (.int .u32 (y : Int))) (fun j e => by cases e; omega)).trans
        ((KeepsFrom.of_grownBy (gb_set _ (w.heap.size + 2) 2 (.int .i64 (m : Int))) (fun j e => by cases e; omega)).trans (KeepsFrom.of_grownBy (gb_set _ (w.heap.size + 3) 0 (.int .i64 0)) (fun j e => by cases e; omega))))
    · have q1 : ((k : Int) == i) = false := by simp [he]
      gi_wp2
      refine ⟨KeepsFrom.refl _ _, Kq.refl _ _ _, fun j hj => ?_, HJ.out.2⟩
      by_cases e : j = k
      · subst e; exact he
      · exact HJ.out.1 j (by omega)
  case done =>
    rintro D W hD ⟨h1, h2⟩ hdf
    have HD : Hid _ := hdf
    have HB : Hid (QB w X Y L i 0 0 0 0 W) := h2
    obtain ⟨z0, z1, z2, d0, d1, d2⟩ := cell_facts h2.res
    have z3 := frozen_of_row W _ 0 _ _ h2.err
    have d3 : W.cell? ⟨w.heap.size + 3, 0, none⟩ = some (.int .i64 0) := by rw [cell_of_row _ _ _ _ _ _ h2.err]; rfl
    clear h2 hdf
    gi_wp2
    have hd2 : ((((W.setCell ⟨w.heap.size + 2, 0, none⟩ (.int .u32 0)).setCell ⟨w.heap.size + 2, 1, none⟩ (.int .u32 0)).setCell ⟨w.heap.size + 2, 2, none⟩ (.int .i64 0)).setCell ⟨w.heap.size + 3, 0, none⟩ (.int .i64 2)).heap[D]? = some (.deferred (some [])) :=
      (Below.heap_setCell _ _ _ _ (by simp only; omega)).trans ((Below.heap_setCell _ _ _ _ (by simp only; omega)).trans ((Below.heap_setCell _ _ _ _ (by simp only; omega)).trans ((Below.heap_setCell _ _ _ _ (by simp only; omega)).trans HD.out)))
    have Q2 := HB.out.put 0 0 0 2
    refine ⟨by simp, .inl ⟨_, _, rfl, run_takeDeferred hd2, ?_⟩⟩
    have Q3 := Q2.next (below_put _ (.deferred none) (Nat.le_refl D)) (by omega)
    exact ⟨_, results_cc rfl _ Q3 rfl rfl, .inr ⟨h1, rfl⟩, Q3.bel⟩
  case stop =>
    rintro D W hD ⟨k, hk, he, h2⟩ hdf
    have HD : Hid _ := hdf
    have HB : Hid _ := h2
    clear h2 hdf
    gi_wp2
    refine ⟨by simp, .inl ⟨_, _, rfl, run_takeDeferred HD.out, ?_⟩⟩
    have Q3 := HB.out.next (below_put _ (.deferred none) (Nat.le_refl D)) (by omega)
    exact ⟨_, results_cc rfl _ Q3 rfl rfl, .inl ⟨k, hk, he, rfl⟩, Q3.bel⟩
end Go.Proofs.Ytpfjfekpjlfibaa.Rc
