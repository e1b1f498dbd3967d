/- How far a row is; the tests of a round. -/
import Derived.Test.YtaiiclkfnahghaaPJE
import Derived.BigQuiet
namespace Go.Proofs.Ytaiiclkfnahghaa.Rq
open Go.RowKit Go.Lib Go.Shelf
open Go.Proofs.Ytaiiclkfnahghaa.Rc
set_option maxRecDepth 100000 in
theorem below_drewN {B : Nat} {a w : World} (h : Below B a w) (n : Nat) : Below B a (w.drewN n) := h.trans ⟨rfl, rfl, rfl, Nat.le_refl _, fun _ _ => rfl⟩
/-- The square of the distance of two places of the plane. -/
def dist (a b x y : Nat) : Nat := ((a : Int) - (x : Int)).natAbs * ((a : Int) - (x : Int)).natAbs + ((b : Int) - (y : Int)).natAbs * ((b : Int) - (y : Int)).natAbs
set_option maxRecDepth 100000 in
theorem sq_lt (a x : Nat) (ha : a < 2147483648) (hx : x < 2147483648) : ((a : Int) - (x : Int)).natAbs * ((a : Int) - (x : Int)).natAbs < 4611686018427387904 := by
  have h : ((a : Int) - (x : Int)).natAbs ≤ 2147483647 := by omega
  calc _ ≤ 2147483647 * 2147483647 := Nat.mul_le_mul h h
    _ < _ := by decide
set_option maxRecDepth 100000 in
theorem sq_int (d : Int) : ((d.natAbs * d.natAbs : Nat) : Int) = d * d := by
  rw [Int.natCast_mul]; exact Int.natAbs_mul_self' d
set_option maxRecDepth 100000 in
theorem dist_lt (a b x y : Nat) (ha : a < 2147483648) (hb : b < 2147483648) (hx : x < 2147483648) (hy : y < 2147483648) : dist a b x y < 9223372036854775808 := by
  have h1 := sq_lt a x ha hx
  have h2 := sq_lt b y hb hy
  unfold dist; omega
set_option maxRecDepth 100000 in
theorem dist_int (a b x y : Nat) : ((dist a b x y : Nat) : Int) = ((a : Int) - (x : Int)) * ((a : Int) - (x : Int)) + ((b : Int) - (y : Int)) * ((b : Int) - (y : Int)) := by
  unfold dist; rw [Int.natCast_add, sq_int, sq_int]
set_option maxRecDepth 100000 in
theorem far_wraps (a b x y : Nat) (ha : a < 2147483648) (hb : b < 2147483648) (hx : x < 2147483648) (hy : y < 2147483648) : IntKind.u64.wrap (wrap64 (wrap64 (((a : Int) - (x : Int)) * ((a : Int) - (x : Int))) + wrap64 (((b : Int) - (y : Int)) * ((b : Int) - (y : Int))))) = ((dist a b x y : Nat) : Int) := by
  have h1 := sq_lt a x ha hx
  have h2 := sq_lt b y hb hy
  rw [← sq_int, ← sq_int]
  unfold dist
  generalize ((a : Int) - (x : Int)).natAbs * ((a : Int) - (x : Int)).natAbs = s at *
  generalize ((b : Int) - (y : Int)).natAbs * ((b : Int) - (y : Int)).natAbs = t at *
  rw [IntWalk.wrap64_in (s : Int) ⟨by omega, by omega⟩, IntWalk.wrap64_in (t : Int) ⟨by omega, by omega⟩, IntWalk.wrap64_in _ ⟨by omega, by omega⟩, IntWalk.u64_in _ ⟨by omega, by omega⟩]
  omega
set_option maxRecDepth 100000 in
set_option maxHeartbeats 1000000 in
theorem qfar_any (id a b : Nat) (v : ByteArray) (x y : Nat) (ha : a < 2147483648) (hb : b < 2147483648) (hx : x < 2147483648) (hy : y < 2147483648) (w : World) :
    Calls Try.prog 44 #[rv ⟨id, a, b, v⟩, .int .u32 (x : Int), .int .u32 (y : Int)] w fun e w' => e = .returned (.int .u64 ((dist a b x y : Nat) : Int)) ∧ Below w.heap.size w w' := by
  simp only [rv]
  go_enter Try.func44, Try.ntmps44
  go_wp2_with fail
  go_quiet (fail)
  go_wp2_with fail
  go_ret
  refine ⟨?_, below_drewN (below_new w _) _⟩
  rw [← far_wraps a b x y ha hb hx hy]
  rfl
/-- The boxes of a round's place and reach. -/
structure Rnd (w : World) (g1 g2 g3 x y s : Nat) : Prop where
  x : w.heap[g1]? = some (.cells #[.int .u32 (x : Int)] 24 (0, 0))
  y : w.heap[g2]? = some (.cells #[.int .u32 (y : Int)] 24 (0, 0))
  s : w.heap[g3]? = some (.cells #[.int .u64 (s : Int)] 23 (0, 0))
set_option maxRecDepth 100000 in
theorem Rnd.grow {w W : World} {B g1 g2 g3 x y s : Nat} (h : Rnd w g1 g2 g3 x y s) (hW : Below B w W) (hB : w.heap.size ≤ B) : Rnd W g1 g2 g3 x y s :=
  ⟨(hW.block _ (Nat.lt_of_lt_of_le (Array.getElem?_eq_some_iff.1 h.x).1 hB)).trans h.x, (hW.block _ (Nat.lt_of_lt_of_le (Array.getElem?_eq_some_iff.1 h.y).1 hB)).trans h.y, (hW.block _ (Nat.lt_of_lt_of_le (Array.getElem?_eq_some_iff.1 h.s).1 hB)).trans h.s⟩
set_option maxRecDepth 100000 in
theorem Rnd.facts {w : World} {g1 g2 g3 x y s : Nat} (h : Rnd w g1 g2 g3 x y s) : (w.cell? ⟨g1, 0, none⟩ = some (.int .u32 (x : Int)) ∧ w.cell? ⟨g2, 0, none⟩ = some (.int .u32 (y : Int)) ∧ w.cell? ⟨g3, 0, none⟩ = some (.int .u64 (s : Int))) ∧ g1 < w.heap.size ∧ g2 < w.heap.size ∧ g3 < w.heap.size :=
  ⟨⟨by rw [cell_of_row _ _ _ _ _ _ h.x]; rfl, by rw [cell_of_row _ _ _ _ _ _ h.y]; rfl, by rw [cell_of_row _ _ _ _ _ _ h.s]; rfl⟩, (Array.getElem?_eq_some_iff.1 h.x).1, (Array.getElem?_eq_some_iff.1 h.y).1, (Array.getElem?_eq_some_iff.1 h.s).1⟩
set_option maxRecDepth 100000 in
set_option maxHeartbeats 1000000 in
theorem ent_round (w0 : World) (g1 g2 g3 x y s : Nat) (hg : Rnd w0 g1 g2 g3 x y s) : Ent w0 (fun X Y L => decide ((fars X Y (L : Int) x y).2 = 0 ∧ (fars X Y (L : Int) x y).1 ≤ s)) 42 #[.pointer (some ⟨g1, 0, none⟩), .pointer (some ⟨g2, 0, none⟩), .pointer (some ⟨g3, 0, none⟩)] := by
  refine ⟨fun _ _ => rfl, fun W hW X Y L hX hY => ?_⟩
  have HC : Hid _ := far_any X Y (L : Int) x y hX hY
  have hgW := hg.grow hW (Nat.le_refl _)
  have HG : Hid (Rnd W g1 g2 g3 x y s) := hgW
  obtain ⟨⟨c0, c1, c2⟩, l1, l2, l3⟩ := hgW.facts
  have he : (fars X Y (L : Int) x y).2 = 0 ∨ (fars X Y (L : Int) x y).2 = 2 := by unfold fars; split <;> simp
  clear hgW hg hW hX hY
  simp only [fv] at HC
  generalize fars X Y (L : Int) x y = fr at *
  obtain ⟨fa, fe⟩ := fr
  simp only at HC he ⊢
  simp only [cv, List.append_toArray, List.cons_append, List.nil_append] at HC ⊢
  go_enter Try.func42, Try.ntmps42
  go_wp2_with fail
  refine (HC.out _).mono ?_
  rintro e w1 ⟨rfl, b1⟩
  have hbn := below_new W (.cells #[.int .u32 (X : Int), .int .u32 (Y : Int), .int .i64 (L : Int)] 30)
  have hb : Below W.heap.size W w1 := hbn.trans (b1.mono (by simp))
  have HB : Hid (Below W.heap.size W w1) := hb
  obtain ⟨⟨d0, d1, d2⟩, m1, m2, m3⟩ := (HG.out.grow hb (Nat.le_refl _)).facts
  clear b1 hb hbn c0 c1 c2 l1 l2 l3
  rcases he with rfl | rfl
  · go_wp2_with fail
    go_ret
    refine ⟨?_, HB.out⟩
    first | rfl | simp
  · go_wp2_with fail
    go_ret
    refine ⟨?_, HB.out⟩
    simp
/-- The cells of a row and of a round's boxes. -/
def KS (g g1 g2 g3 : Nat) (r : Rw) (x y s : Nat) (w : World) : Prop := F4 g r w ∧ w.cell? ⟨g1, 0, none⟩ = some (.int .u32 (x : Int)) ∧ w.cell? ⟨g2, 0, none⟩ = some (.int .u32 (y : Int)) ∧ w.cell? ⟨g3, 0, none⟩ = some (.int .u64 (s : Int)) ∧ g < w.heap.size ∧ g1 < w.heap.size ∧ g2 < w.heap.size ∧ g3 < w.heap.size
set_option maxRecDepth 100000 in
theorem KS.of {g g1 g2 g3 : Nat} {r : Rw} {x y s : Nat} {w : World} {t : TypeId} {fr : Nat × Nat} (h : w.heap[g]? = some (.cells #[.int .u64 (r.id : Int), .int .u32 (r.x : Int), .int .u32 (r.y : Int), .string r.v] t fr)) (hr : Rnd w g1 g2 g3 x y s) : KS g g1 g2 g3 r x y s w :=
  ⟨F4.of h, hr.facts.1.1, hr.facts.1.2.1, hr.facts.1.2.2, (Array.getElem?_eq_some_iff.1 h).1, hr.facts.2.1, hr.facts.2.2.1, hr.facts.2.2.2⟩
set_option maxRecDepth 100000 in
set_option maxHeartbeats 1000000 in
theorem kep_round (w0 : World) (g1 g2 g3 x y s : Nat) (hg : Rnd w0 g1 g2 g3 x y s) (hx : x < 2147483648) (hy : y < 2147483648) : Kep w0 (fun r => decide (dist r.x r.y x y ≤ s)) 43 #[.pointer (some ⟨g1, 0, none⟩), .pointer (some ⟨g2, 0, none⟩), .pointer (some ⟨g3, 0, none⟩)] := by
  refine ⟨fun _ _ => rfl, fun W hW r hrx hry => ?_⟩
  obtain ⟨id, a, b, v⟩ := r
  simp only at hrx hry
  have HC : Hid _ := qfar_any id a b v x y hrx hry hx hy
  have hgW := hg.grow hW (Nat.le_refl _)
  have HG : Hid (Rnd W g1 g2 g3 x y s) := hgW
  have HB0 : Hid (Below W.heap.size W (W.alloc (.cells #[.int .u64 (id : Int), .int .u32 (a : Int), .int .u32 (b : Int), .string v] 26)).drew) := (below_new W _).drew
  have HG0 : Hid ((W.alloc (.cells #[.int .u64 (id : Int), .int .u32 (a : Int), .int .u32 (b : Int), .string v] 26)).drew.heap[W.heap.size]? = some (.cells #[.int .u64 (id : Int), .int .u32 (a : Int), .int .u32 (b : Int), .string v] 26 (0, 0))) := heap_alloc_new W _
  have HL : Hid (W.heap.size < (W.alloc (.cells #[.int .u64 (id : Int), .int .u32 (a : Int), .int .u32 (b : Int), .string v] 26)).drew.heap.size) := (Array.getElem?_eq_some_iff.1 HG0.out).1
  have HSW : Hid (KS W.heap.size g1 g2 g3 ⟨id, a, b, v⟩ x y s (W.alloc (.cells #[.int .u64 (id : Int), .int .u32 (a : Int), .int .u32 (b : Int), .string v] 26)).drew) := KS.of (r := ⟨id, a, b, v⟩) HG0.out (HG.out.grow HB0.out (Nat.le_refl _))
  clear hgW hg hW hx hy hrx hry
  generalize dist a b x y = ds at *
  simp only [rv, List.append_toArray, List.cons_append, List.nil_append] at HC ⊢
  go_enter Try.func43, Try.ntmps43
  go_wp2_with fail
  refine wp_region_held (S := KS W.heap.size g1 g2 g3 ⟨id, a, b, v⟩ x y s) (by kernel_rfl) ?_
  change wpAnyH _ _ _ _ _ _ _ _ (World.drew _)
  refine wpAnyH_take (i := 0) (v := ?_) rfl (by kernel_rfl) (by kernel_rfl) (by kernel_rfl) (fun _ _ _ h => h) (Or.inl ⟨by kernel_rfl, ?_⟩) HSW.out ?_
  rotate_left
  · intro w hS
    obtain ⟨⟨e0, e1, e2, e3⟩, e4, e5, e6, n0, n1, n2, n3⟩ := hS
    go_simp
    try with_reducible rfl
  conv in (Act.put _ _ _) => simp only [List.getElem_toArray, List.getElem_cons_succ, List.getElem_cons_zero, Act.put, List.setIfInBounds_toArray, List.set_cons_succ, List.set_cons_zero]
  refine wpAnyH_take (i := 1) (v := ?_) rfl (by kernel_rfl) (by kernel_rfl) (by kernel_rfl) (fun _ _ _ h => h) (Or.inl ⟨by kernel_rfl, ?_⟩) HSW.out ?_
  rotate_left
  · intro w hS
    obtain ⟨⟨e0, e1, e2, e3⟩, e4, e5, e6, n0, n1, n2, n3⟩ := hS
    go_simp
    try with_reducible rfl
  conv in (Act.put _ _ _) => simp only [List.getElem_toArray, List.getElem_cons_succ, List.getElem_cons_zero, Act.put, List.setIfInBounds_toArray, List.set_cons_succ, List.set_cons_zero]
  refine wpAnyH_take (i := 2) (v := ?_) rfl (by kernel_rfl) (by kernel_rfl) (by kernel_rfl) (fun _ _ _ h => h) (Or.inl ⟨by kernel_rfl, ?_⟩) HSW.out ?_
  rotate_left
  · intro w hS
    obtain ⟨⟨e0, e1, e2, e3⟩, e4, e5, e6, n0, n1, n2, n3⟩ := hS
    go_simp
    try with_reducible rfl
  conv in (Act.put _ _ _) => simp only [List.getElem_toArray, List.getElem_cons_succ, List.getElem_cons_zero, Act.put, List.setIfInBounds_toArray, List.set_cons_succ, List.set_cons_zero]
  refine wpAnyH_take (i := 4) (v := ?_) rfl (by kernel_rfl) (by kernel_rfl) (by kernel_rfl) (fun _ _ _ h => h) (Or.inl ⟨by kernel_rfl, ?_⟩) HSW.out ?_
  rotate_left
  · intro w hS
    obtain ⟨⟨e0, e1, e2, e3⟩, e4, e5, e6, n0, n1, n2, n3⟩ := hS
    go_simp
    try with_reducible rfl
  conv in (Act.put _ _ _) => simp only [List.getElem_toArray, List.getElem_cons_succ, List.getElem_cons_zero, Act.put, List.setIfInBounds_toArray, List.set_cons_succ, List.set_cons_zero]
  refine readyH 3 _ (by kernel_rfl) rfl (by kernel_rfl) (fun K hK => ?_)
  go_simp
  refine (HC.out _).mono ?_
  rintro e w1 ⟨rfl, b1⟩
  have HB1 : Hid (Below W.heap.size W w1) := HB0.out.trans (b1.mono (Nat.le_of_lt HL.out))
  replace HSW : Hid (KS W.heap.size g1 g2 g3 ⟨id, a, b, v⟩ x y s w1) := KS.of (r := ⟨id, a, b, v⟩) ((b1.block _ HL.out).trans HG0.out) (HG.out.grow HB1.out (Nat.le_refl _))
  refine hK _ _ HSW.out ?_
  clear hK K b1
  refine wpAnyH_take (i := 5) (v := ?_) rfl (by kernel_rfl) (by kernel_rfl) (by kernel_rfl) (fun _ _ _ h => h) (Or.inl ⟨by kernel_rfl, ?_⟩) HSW.out ?_
  rotate_left
  · intro w hS
    obtain ⟨⟨e0, e1, e2, e3⟩, e4, e5, e6, n0, n1, n2, n3⟩ := hS
    go_simp
    try with_reducible rfl
  conv in (Act.put _ _ _) => simp only [List.getElem_toArray, List.getElem_cons_succ, List.getElem_cons_zero, Act.put, List.setIfInBounds_toArray, List.set_cons_succ, List.set_cons_zero]
  refine wpAnyH_take (i := 6) (v := ?_) rfl (by kernel_rfl) (by kernel_rfl) (by kernel_rfl) (fun _ _ _ h => h) (Or.inl ⟨by kernel_rfl, ?_⟩) HSW.out ?_
  rotate_left
  · intro w hS
    obtain ⟨⟨e0, e1, e2, e3⟩, e4, e5, e6, n0, n1, n2, n3⟩ := hS
    go_simp
    try with_reducible rfl
  conv in (Act.put _ _ _) => simp only [List.getElem_toArray, List.getElem_cons_succ, List.getElem_cons_zero, Act.put, List.setIfInBounds_toArray, List.set_cons_succ, List.set_cons_zero]
  refine wpAnyH_done (by kernel_rfl) ?_ _
  go_wp2_with fail
  go_ret
  refine ⟨?_, HB1.out⟩
  first | rfl | simp
end Go.Proofs.Ytaiiclkfnahghaa.Rq
