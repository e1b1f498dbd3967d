/- The rows of a tree under two tests: the closure; the tests. -/
import Derived.Test.YtaiiclkfnahghaaPJD
import Derived.BigQuiet
namespace Go.Proofs.Ytaiiclkfnahghaa.Rq
open Go.RowKit Go.Lib Go.Shelf
open Go.Proofs.Ytaiiclkfnahghaa.Rc
set_option maxRecDepth 100000 in
theorem rows_any (n : Nv) (ef : Nat) (eb : Array Value) (kf : Nat) (kb : Array Value) (w : World) :
    Calls Try.prog 45 #[nv n, .func (.func ef) #[] eb, .func (.func kf) #[] kb] w fun e w' => e = .returned (.func (.func 75) #[] #[.pointer (some ⟨w.heap.size + 1, 0, none⟩), .pointer (some ⟨w.heap.size, 0, none⟩), .pointer (some ⟨w.heap.size + 2, 0, none⟩)]) ∧ w' = ((w.alloc (.cells #[.int .u32 (n.X : Int), .int .u32 (n.Y : Int), .int .i64 (n.L : Int), .slice n.ro n.rn n.rc, .slice n.ko n.kn n.kc] 33)).alloc (.cells #[.func (.func ef) #[] eb] 70)).alloc (.cells #[.func (.func kf) #[] kb] 37) := by
  obtain ⟨nX, nY, nL, nro, nrn, nrc, nko, nkn, nkc⟩ := n
  simp only [nv]
  go_enter Try.func45, Try.ntmps45
  go_wp2_with fail
  go_ret
  exact ⟨rfl, rfl⟩
set_option maxRecDepth 100000 in
theorem ent_all (w0 : World) : Ent w0 (fun _ _ _ => true) 53 #[] := by
  refine ⟨fun _ _ => rfl, fun W _ X Y L hX hY => ?_⟩
  simp only [cv, Array.append_empty]
  go_enter Try.func53, Try.ntmps53
  go_wp2_with fail
  go_ret
  exact ⟨rfl, below_new W _⟩
set_option maxRecDepth 100000 in
theorem kep_all (w0 : World) : Kep w0 (fun _ => true) 54 #[] := by
  refine ⟨fun _ _ => rfl, fun W _ r hx hy => ?_⟩
  obtain ⟨id, x, y, v⟩ := r
  simp only [rv, Array.append_empty]
  go_enter Try.func54, Try.ntmps54
  go_wp2_with fail
  go_ret
  exact ⟨rfl, below_new W _⟩
set_option maxRecDepth 100000 in
theorem ent_right (w0 : World) : Ent w0 (fun X Y L => rightS X Y (L : Int)) 58 #[] := by
  refine ⟨fun _ _ => rfl, fun W _ X Y L hX hY => ?_⟩
  exact right_any X Y (L : Int) hX hY W
set_option maxRecDepth 100000 in
theorem box_cells {w : World} {g a b c d : Nat} {t : TypeId} {fr : Nat × Nat} (h : w.heap[g]? = some (.cells #[.int .u32 (a : Int), .int .u32 (b : Int), .int .u32 (c : Int), .int .u32 (d : Int)] t fr)) : w.cell? ⟨g, 0, none⟩ = some (.int .u32 (a : Int)) ∧ w.cell? ⟨g, 1, none⟩ = some (.int .u32 (b : Int)) ∧ w.cell? ⟨g, 2, none⟩ = some (.int .u32 (c : Int)) ∧ w.cell? ⟨g, 3, none⟩ = some (.int .u32 (d : Int)) :=
  ⟨by rw [cell_of_row _ _ _ _ _ _ h]; rfl, by rw [cell_of_row _ _ _ _ _ _ h]; rfl, by rw [cell_of_row _ _ _ _ _ _ h]; rfl, by rw [cell_of_row _ _ _ _ _ _ h]; rfl⟩
set_option maxRecDepth 100000 in
theorem ent_boxW (w0 : World) (g a b c d : Nat) (hg : w0.heap[g]? = some (.cells #[.int .u32 (a : Int), .int .u32 (b : Int), .int .u32 (c : Int), .int .u32 (d : Int)] 42 (0, 0))) : Ent w0 (fun X Y L => touchS X Y (L : Int) a b c d) 67 #[.pointer (some ⟨g, 0, none⟩)] := by
  refine ⟨fun _ _ => rfl, fun W hW X Y L hX hY => ?_⟩
  have HC : Hid _ := touches_any X Y (L : Int) a b c d hX hY
  have lg := (Array.getElem?_eq_some_iff.1 hg).1
  have lgW : g < W.heap.size := Nat.lt_of_lt_of_le lg hW.size
  obtain ⟨c0, c1, c2, c3⟩ := box_cells ((hW.block g lg).trans hg)
  clear hW hg lg hX hY
  simp only [cv, bv, List.append_toArray, List.cons_append, List.nil_append] at HC ⊢
  go_enter Try.func67, Try.ntmps67
  go_wp2_with fail
  refine (HC.out _).mono ?_
  rintro e w1 ⟨rfl, b1⟩
  have HB : Hid (Below W.heap.size W w1) := (below_new W _).trans (b1.mono (by simp))
  clear b1
  go_wp2_with fail
  go_ret
  exact ⟨rfl, HB.out⟩
set_option maxRecDepth 100000 in
theorem kep_boxW (w0 : World) (g a b c d : Nat) (hg : w0.heap[g]? = some (.cells #[.int .u32 (a : Int), .int .u32 (b : Int), .int .u32 (c : Int), .int .u32 (d : Int)] 42 (0, 0))) : Kep w0 (fun r => inS a b c d r.x r.y) 69 #[.pointer (some ⟨g, 0, none⟩)] := by
  refine ⟨fun _ _ => rfl, fun W hW r hx hy => ?_⟩
  obtain ⟨id, x, y, v⟩ := r
  have HC : Hid _ := in_any a b c d x y
  have lg := (Array.getElem?_eq_some_iff.1 hg).1
  have lgW : g < W.heap.size := Nat.lt_of_lt_of_le lg hW.size
  obtain ⟨c0, c1, c2, c3⟩ := box_cells ((hW.block g lg).trans hg)
  clear hW hg lg hx hy
  simp only [rv, bv, List.append_toArray, List.cons_append, List.nil_append] at HC ⊢
  go_enter Try.func69, Try.ntmps69
  go_wp2_with fail
  refine (HC.out _).mono ?_
  rintro e w1 ⟨rfl, b1⟩
  have HB : Hid (Below W.heap.size W w1) := (below_new W _).trans (b1.mono (by simp))
  clear b1
  go_wp2_with fail
  go_ret
  exact ⟨rfl, HB.out⟩
set_option maxRecDepth 100000 in
theorem ent_boxN (w0 : World) (g a b c d : Nat) (hg : w0.heap[g]? = some (.cells #[.int .u32 (a : Int), .int .u32 (b : Int), .int .u32 (c : Int), .int .u32 (d : Int)] 42 (0, 0))) : Ent w0 (fun X Y L => touchS X Y (L : Int) a b c d) 73 #[.pointer (some ⟨g, 0, none⟩)] := by
  refine ⟨fun _ _ => rfl, fun W hW X Y L hX hY => ?_⟩
  have HC : Hid _ := touches_any X Y (L : Int) a b c d hX hY
  have lg := (Array.getElem?_eq_some_iff.1 hg).1
  have lgW : g < W.heap.size := Nat.lt_of_lt_of_le lg hW.size
  obtain ⟨c0, c1, c2, c3⟩ := box_cells ((hW.block g lg).trans hg)
  clear hW hg lg hX hY
  simp only [cv, bv, List.append_toArray, List.cons_append, List.nil_append] at HC ⊢
  go_enter Try.func73, Try.ntmps73
  go_wp2_with fail
  refine (HC.out _).mono ?_
  rintro e w1 ⟨rfl, b1⟩
  have HB : Hid (Below W.heap.size W w1) := (below_new W _).trans (b1.mono (by simp))
  clear b1
  go_wp2_with fail
  go_ret
  exact ⟨rfl, HB.out⟩
set_option maxRecDepth 100000 in
theorem kep_boxN (w0 : World) (g a b c d : Nat) (hg : w0.heap[g]? = some (.cells #[.int .u32 (a : Int), .int .u32 (b : Int), .int .u32 (c : Int), .int .u32 (d : Int)] 42 (0, 0))) : Kep w0 (fun r => inS a b c d r.x r.y) 74 #[.pointer (some ⟨g, 0, none⟩)] := by
  refine ⟨fun _ _ => rfl, fun W hW r hx hy => ?_⟩
  obtain ⟨id, x, y, v⟩ := r
  have HC : Hid _ := in_any a b c d x y
  have lg := (Array.getElem?_eq_some_iff.1 hg).1
  have lgW : g < W.heap.size := Nat.lt_of_lt_of_le lg hW.size
  obtain ⟨c0, c1, c2, c3⟩ := box_cells ((hW.block g lg).trans hg)
  clear hW hg lg hx hy
  simp only [rv, bv, List.append_toArray, List.cons_append, List.nil_append] at HC ⊢
  go_enter Try.func74, Try.ntmps74
  go_wp2_with fail
  refine (HC.out _).mono ?_
  rintro e w1 ⟨rfl, b1⟩
  have HB : Hid (Below W.heap.size W w1) := (below_new W _).trans (b1.mono (by simp))
  clear b1
  go_wp2_with fail
  go_ret
  exact ⟨rfl, HB.out⟩
end Go.Proofs.Ytaiiclkfnahghaa.Rq
/- How far a row is; the tests of a round. -/
namespace Go.Proofs.Ytaiiclkfnahghaa.Rq
open Go.RowKit Go.Lib Go.Shelf
open Go.Proofs.Ytaiiclkfnahghaa.Rc
set_option maxRecDepth 100000 in
theorem below_drewN {B : Nat} {a w : World} (h : Below B a w) (n : Nat) : Below B a (w.drewN n) := h.trans ⟨rfl, rfl, rfl, Nat.le_refl _, fun _ _ => rfl⟩
/-- The square of the distance of two places of the plane. -/
def dist (a b x y : Nat) : Nat := ((a : Int) - (x : Int)).natAbs * ((a : Int) - (x : Int)).natAbs + ((b : Int) - (y : Int)).natAbs * ((b : Int) - (y : Int)).natAbs
set_option maxRecDepth 100000 in
theorem sq_lt (a x : Nat) (ha : a < 2147483648) (hx : x < 2147483648) : ((a : Int) - (x : Int)).natAbs * ((a : Int) - (x : Int)).natAbs < 4611686018427387904 := by
  have h : ((a : Int) - (x : Int)).natAbs ≤ 2147483647 := by omega
  calc _ ≤ 2147483647 * 2147483647 := Nat.mul_le_mul h h
    _ < _ := by decide
set_option maxRecDepth 100000 in
theorem sq_int (d : Int) : ((d.natAbs * d.natAbs : Nat) : Int) = d * d := by
  rw [Int.natCast_mul]; exact Int.natAbs_mul_self' d
set_option maxRecDepth 100000 in
theorem dist_lt (a b x y : Nat) (ha : a < 2147483648) (hb : b < 2147483648) (hx : x < 2147483648) (hy : y < 2147483648) : dist a b x y < 9223372036854775808 := by
  have h1 := sq_lt a x ha hx
  have h2 := sq_lt b y hb hy
  unfold dist; omega
set_option maxRecDepth 100000 in
theorem dist_int (a b x y : Nat) : ((dist a b x y : Nat) : Int) = ((a : Int) - (x : Int)) * ((a : Int) - (x : Int)) + ((b : Int) - (y : Int)) * ((b : Int) - (y : Int)) := by
  unfold dist; rw [Int.natCast_add, sq_int, sq_int]
set_option maxRecDepth 100000 in
theorem far_wraps (a b x y : Nat) (ha : a < 2147483648) (hb : b < 2147483648) (hx : x < 2147483648) (hy : y < 2147483648) : IntKind.u64.wrap (wrap64 (wrap64 (((a : Int) - (x : Int)) * ((a : Int) - (x : Int))) + wrap64 (((b : Int) - (y : Int)) * ((b : Int) - (y : Int))))) = ((dist a b x y : Nat) : Int) := by
  have h1 := sq_lt a x ha hx
  have h2 := sq_lt b y hb hy
  rw [← sq_int, ← sq_int]
  unfold dist
  generalize ((a : Int) - (x : Int)).natAbs * ((a : Int) - (x : Int)).natAbs = s at *
  generalize ((b : Int) - (y : Int)).natAbs * ((b : Int) - (y : Int)).natAbs = t at *
  rw [IntWalk.wrap64_in (s : Int) ⟨by omega, by omega⟩, IntWalk.wrap64_in (t : Int) ⟨by omega, by omega⟩, IntWalk.wrap64_in _ ⟨by omega, by omega⟩, IntWalk.u64_in _ ⟨by omega, by omega⟩]
  omega
set_option maxRecDepth 100000 in
set_option maxHeartbeats 1000000 in
theorem qfar_any (id a b : Nat) (v : ByteArray) (x y : Nat) (ha : a < 2147483648) (hb : b < 2147483648) (hx : x < 2147483648) (hy : y < 2147483648) (w : World) :
    Calls Try.prog 44 #[rv ⟨id, a, b, v⟩, .int .u32 (x : Int), .int .u32 (y : Int)] w fun e w' => e = .returned (.int .u64 ((dist a b x y : Nat) : Int)) ∧ Below w.heap.size w w' := by
  simp only [rv]
  go_enter Try.func44, Try.ntmps44
  go_wp2_with fail
  go_quiet (fail)
  go_wp2_with fail
  go_ret
  refine ⟨?_, below_drewN (below_new w _) _⟩
  rw [← far_wraps a b x y ha hb hx hy]
  rfl
/-- The boxes of a round's place and reach. -/
structure Rnd (w : World) (g1 g2 g3 x y s : Nat) : Prop where
  x : w.heap[g1]? = some (.cells #[.int .u32 (x : Int)] 24 (0, 0))
  y : w.heap[g2]? = some (.cells #[.int .u32 (y : Int)] 24 (0, 0))
  s : w.heap[g3]? = some (.cells #[.int .u64 (s : Int)] 23 (0, 0))
set_option maxRecDepth 100000 in
theorem Rnd.grow {w W : World} {B g1 g2 g3 x y s : Nat} (h : Rnd w g1 g2 g3 x y s) (hW : Below B w W) (hB : w.heap.size ≤ B) : Rnd W g1 g2 g3 x y s :=
  ⟨(hW.block _ (Nat.lt_of_lt_of_le (Array.getElem?_eq_some_iff.1 h.x).1 hB)).trans h.x, (hW.block _ (Nat.lt_of_lt_of_le (Array.getElem?_eq_some_iff.1 h.y).1 hB)).trans h.y, (hW.block _ (Nat.lt_of_lt_of_le (Array.getElem?_eq_some_iff.1 h.s).1 hB)).trans h.s⟩
set_option maxRecDepth 100000 in
theorem Rnd.facts {w : World} {g1 g2 g3 x y s : Nat} (h : Rnd w g1 g2 g3 x y s) : (w.cell? ⟨g1, 0, none⟩ = some (.int .u32 (x : Int)) ∧ w.cell? ⟨g2, 0, none⟩ = some (.int .u32 (y : Int)) ∧ w.cell? ⟨g3, 0, none⟩ = some (.int .u64 (s : Int))) ∧ g1 < w.heap.size ∧ g2 < w.heap.size ∧ g3 < w.heap.size :=
  ⟨⟨by rw [cell_of_row _ _ _ _ _ _ h.x]; rfl, by rw [cell_of_row _ _ _ _ _ _ h.y]; rfl, by rw [cell_of_row _ _ _ _ _ _ h.s]; rfl⟩, (Array.getElem?_eq_some_iff.1 h.x).1, (Array.getElem?_eq_some_iff.1 h.y).1, (Array.getElem?_eq_some_iff.1 h.s).1⟩
set_option maxRecDepth 100000 in
set_option maxHeartbeats 1000000 in
theorem ent_round (w0 : World) (g1 g2 g3 x y s : Nat) (hg : Rnd w0 g1 g2 g3 x y s) : Ent w0 (fun X Y L => decide ((fars X Y (L : Int) x y).2 = 0 ∧ (fars X Y (L : Int) x y).1 ≤ s)) 42 #[.pointer (some ⟨g1, 0, none⟩), .pointer (some ⟨g2, 0, none⟩), .pointer (some ⟨g3, 0, none⟩)] := by
  refine ⟨fun _ _ => rfl, fun W hW X Y L hX hY => ?_⟩
  have HC : Hid _ := far_any X Y (L : Int) x y hX hY
  have hgW := hg.grow hW (Nat.le_refl _)
  have HG : Hid (Rnd W g1 g2 g3 x y s) := hgW
  obtain ⟨⟨c0, c1, c2⟩, l1, l2, l3⟩ := hgW.facts
  have he : (fars X Y (L : Int) x y).2 = 0 ∨ (fars X Y (L : Int) x y).2 = 2 := by unfold fars; split <;> simp
  clear hgW hg hW hX hY
  simp only [fv] at HC
  generalize fars X Y (L : Int) x y = fr at *
  obtain ⟨fa, fe⟩ := fr
  simp only at HC he ⊢
  simp only [cv, List.append_toArray, List.cons_append, List.nil_append] at HC ⊢
  go_enter Try.func42, Try.ntmps42
  go_wp2_with fail
  refine (HC.out _).mono ?_
  rintro e w1 ⟨rfl, b1⟩
  have hbn := below_new W (.cells #[.int .u32 (X : Int), .int .u32 (Y : Int), .int .i64 (L : Int)] 30)
  have hb : Below W.heap.size W w1 := hbn.trans (b1.mono (by simp))
  have HB : Hid (Below W.heap.size W w1) := hb
  obtain ⟨⟨d0, d1, d2⟩, m1, m2, m3⟩ := (HG.out.grow hb (Nat.le_refl _)).facts
  clear b1 hb hbn c0 c1 c2 l1 l2 l3
  rcases he with rfl | rfl
  · go_wp2_with fail
    go_ret
    refine ⟨?_, HB.out⟩
    first | rfl | simp
  · go_wp2_with fail
    go_ret
    refine ⟨?_, HB.out⟩
    simp
/-- The cells of a row and of a round's boxes. -/
def KS (g g1 g2 g3 : Nat) (r : Rw) (x y s : Nat) (w : World) : Prop := F4 g r w ∧ w.cell? ⟨g1, 0, none⟩ = some (.int .u32 (x : Int)) ∧ w.cell? ⟨g2, 0, none⟩ = some (.int .u32 (y : Int)) ∧ w.cell? ⟨g3, 0, none⟩ = some (.int .u64 (s : Int)) ∧ g < w.heap.size ∧ g1 < w.heap.size ∧ g2 < w.heap.size ∧ g3 < w.heap.size
set_option maxRecDepth 100000 in
theorem KS.of {g g1 g2 g3 : Nat} {r : Rw} {x y s : Nat} {w : World} {t : TypeId} {fr : Nat × Nat} (h : w.heap[g]? = some (.cells #[.int .u64 (r.id : Int), .int .u32 (r.x : Int), .int .u32 (r.y : Int), .string r.v] t fr)) (hr : Rnd w g1 g2 g3 x y s) : KS g g1 g2 g3 r x y s w :=
  ⟨F4.of h, hr.facts.1.1, hr.facts.1.2.1, hr.facts.1.2.2, (Array.getElem?_eq_some_iff.1 h).1, hr.facts.2.1, hr.facts.2.2.1, hr.facts.2.2.2⟩
set_option maxRecDepth 100000 in
set_option maxHeartbeats 1000000 in
theorem kep_round (w0 : World) (g1 g2 g3 x y s : Nat) (hg : Rnd w0 g1 g2 g3 x y s) (hx : x < 2147483648) (hy : y < 2147483648) : Kep w0 (fun r => decide (dist r.x r.y x y ≤ s)) 43 #[.pointer (some ⟨g1, 0, none⟩), .pointer (some ⟨g2, 0, none⟩), .pointer (some ⟨g3, 0, none⟩)] := by
  refine ⟨fun _ _ => rfl, fun W hW r hrx hry => ?_⟩
  obtain ⟨id, a, b, v⟩ := r
  simp only at hrx hry
  have HC : Hid _ := qfar_any id a b v x y hrx hry hx hy
  have hgW := hg.grow hW (Nat.le_refl _)
  have HG : Hid (Rnd W g1 g2 g3 x y s) := hgW
  have HB0 : Hid (Below W.heap.size W (W.alloc (.cells #[.int .u64 (id : Int), .int .u32 (a : Int), .int .u32 (b : Int), .string v] 26)).drew) := (below_new W _).drew
  have HG0 : Hid ((W.alloc (.cells #[.int .u64 (id : Int), .int .u32 (a : Int), .int .u32 (b : Int), .string v] 26)).drew.heap[W.heap.size]? = some (.cells #[.int .u64 (id : Int), .int .u32 (a : Int), .int .u32 (b : Int), .string v] 26 (0, 0))) := heap_alloc_new W _
  have HL : Hid (W.heap.size < (W.alloc (.cells #[.int .u64 (id : Int), .int .u32 (a : Int), .int .u32 (b : Int), .string v] 26)).drew.heap.size) := (Array.getElem?_eq_some_iff.1 HG0.out).1
  have HSW : Hid (KS W.heap.size g1 g2 g3 ⟨id, a, b, v⟩ x y s (W.alloc (.cells #[.int .u64 (id : Int), .int .u32 (a : Int), .int .u32 (b : Int), .string v] 26)).drew) := KS.of (r := ⟨id, a, b, v⟩) HG0.out (HG.out.grow HB0.out (Nat.le_refl _))
  clear hgW hg hW hx hy hrx hry
  generalize dist a b x y = ds at *
  simp only [rv, List.append_toArray, List.cons_append, List.nil_append] at HC ⊢
  go_enter Try.func43, Try.ntmps43
  go_wp2_with fail
  refine wp_region_held (S := KS W.heap.size g1 g2 g3 ⟨id, a, b, v⟩ x y s) (by kernel_rfl) ?_
  change wpAnyH _ _ _ _ _ _ _ _ (World.drew _)
  refine wpAnyH_take (i := 0) (v := ?_) rfl (by kernel_rfl) (by kernel_rfl) (by kernel_rfl) (fun _ _ _ h => h) (Or.inl ⟨by kernel_rfl, ?_⟩) HSW.out ?_
  rotate_left
  · intro w hS
    obtain ⟨⟨e0, e1, e2, e3⟩, e4, e5, e6, n0, n1, n2, n3⟩ := hS
    go_simp
    try with_reducible rfl
  conv in (Act.put _ _ _) => simp only [List.getElem_toArray, List.getElem_cons_succ, List.getElem_cons_zero, Act.put, List.setIfInBounds_toArray, List.set_cons_succ, List.set_cons_zero]
  refine wpAnyH_take (i := 1) (v := ?_) rfl (by kernel_rfl) (by kernel_rfl) (by kernel_rfl) (fun _ _ _ h => h) (Or.inl ⟨by kernel_rfl, ?_⟩) HSW.out ?_
  rotate_left
  · intro w hS
    obtain ⟨⟨e0, e1, e2, e3⟩, e4, e5, e6, n0, n1, n2, n3⟩ := hS
    go_simp
    try with_reducible rfl
  conv in (Act.put _ _ _) => simp only [List.getElem_toArray, List.getElem_cons_succ, List.getElem_cons_zero, Act.put, List.setIfInBounds_toArray, List.set_cons_succ, List.set_cons_zero]
  refine wpAnyH_take (i := 2) (v := ?_) rfl (by kernel_rfl) (by kernel_rfl) (by kernel_rfl) (fun _ _ _ h => h) (Or.inl ⟨by kernel_rfl, ?_⟩) HSW.out ?_
  rotate_left
  · intro w hS
    obtain ⟨⟨e0, e1, e2, e3⟩, e4, e5, e6, n0, n1, n2, n3⟩ := hS
    go_simp
    try with_reducible rfl
  conv in (Act.put _ _ _) => simp only [List.getElem_toArray, List.getElem_cons_succ, List.getElem_cons_zero, Act.put, List.setIfInBounds_toArray, List.set_cons_succ, List.set_cons_zero]
  refine wpAnyH_take (i := 4) (v := ?_) rfl (by kernel_rfl) (by kernel_rfl) (by kernel_rfl) (fun _ _ _ h => h) (Or.inl ⟨by kernel_rfl, ?_⟩) HSW.out ?_
  rotate_left
  · intro w hS
    obtain ⟨⟨e0, e1, e2, e3⟩, e4, e5, e6, n0, n1, n2, n3⟩ := hS
    go_simp
    try with_reducible rfl
  conv in (Act.put _ _ _) => simp only [List.getElem_toArray, List.getElem_cons_succ, List.getElem_cons_zero, Act.put, List.setIfInBounds_toArray, List.set_cons_succ, List.set_cons_zero]
  refine readyH 3 _ (by kernel_rfl) rfl (by kernel_rfl) (fun K hK => ?_)
  go_simp
  refine (HC.out _).mono ?_
  rintro e w1 ⟨rfl, b1⟩
  have HB1 : Hid (Below W.heap.size W w1) := HB0.out.trans (b1.mono (Nat.le_of_lt HL.out))
  replace HSW : Hid (KS W.heap.size g1 g2 g3 ⟨id, a, b, v⟩ x y s w1) := KS.of (r := ⟨id, a, b, v⟩) ((b1.block _ HL.out).trans HG0.out) (HG.out.grow HB1.out (Nat.le_refl _))
  refine hK _ _ HSW.out ?_
  clear hK K b1
  refine wpAnyH_take (i := 5) (v := ?_) rfl (by kernel_rfl) (by kernel_rfl) (by kernel_rfl) (fun _ _ _ h => h) (Or.inl ⟨by kernel_rfl, ?_⟩) HSW.out ?_
  rotate_left
  · intro w hS
    obtain ⟨⟨e0, e1, e2, e3⟩, e4, e5, e6, n0, n1, n2, n3⟩ := hS
    go_simp
    try with_reducible rfl
  conv in (Act.put _ _ _) => simp only [List.getElem_toArray, List.getElem_cons_succ, List.getElem_cons_zero, Act.put, List.setIfInBounds_toArray, List.set_cons_succ, List.set_cons_zero]
  refine wpAnyH_take (i := 6) (v := ?_) rfl (by kernel_rfl) (by kernel_rfl) (by kernel_rfl) (fun _ _ _ h => h) (Or.inl ⟨by kernel_rfl, ?_⟩) HSW.out ?_
  rotate_left
  · intro w hS
    obtain ⟨⟨e0, e1, e2, e3⟩, e4, e5, e6, n0, n1, n2, n3⟩ := hS
    go_simp
    try with_reducible rfl
  conv in (Act.put _ _ _) => simp only [List.getElem_toArray, List.getElem_cons_succ, List.getElem_cons_zero, Act.put, List.setIfInBounds_toArray, List.set_cons_succ, List.set_cons_zero]
  refine wpAnyH_done (by kernel_rfl) ?_ _
  go_wp2_with fail
  go_ret
  refine ⟨?_, HB1.out⟩
  first | rfl | simp
end Go.Proofs.Ytaiiclkfnahghaa.Rq
/- What goes through rows, as one promise; how many they are. -/
namespace Go.Proofs.Ytaiiclkfnahghaa.Rq
open Go.RowKit Go.Lib Go.Shelf
open Go.Proofs.Ytaiiclkfnahghaa.Rc
attribute [local go_sem] Oper.semAt_some
/-- A function that goes through these rows, whatever is done with them. -/
def RowsIter (w0 : World) (rs : List Rw) (gf : Nat) (lb : Array Value) : Prop :=
  ∀ (W1 : World) (_ : Below w0.heap.size w0 W1) (l : Nat) (R : (Nat → Prop) → Nat → World → Prop) (Rx : (Nat → Prop) → World → Prop) (own : Nat → Prop) (_ : ∀ j, own j → w0.heap.size ≤ j ∧ j < W1.heap.size)
    (_ : ∀ own k W W', R own k W → Kw W1.heap.size own W W' → R own k W') (_ : ∀ own W W', Rx own W → Kw W1.heap.size own W W' → Rx own W')
    (_ : ∀ own k W, k < rs.length → R own k W → (∀ j, own j → w0.heap.size ≤ j ∧ j < W.heap.size) → Below w0.heap.size w0 W → YieldAt Fence.wide 0 Try.prog l #[rv (rat rs k)] W (YPost R Rx own (k + 1) W))
    (_ : R own 0 W1), Calls Try.prog gf (#[.func (.yield l) #[] #[]] ++ lb) W1 fun e W' => (∃ v, e = .returned v) ∧ ∃ own', (R own' rs.length W' ∨ Rx own' W')
set_option maxRecDepth 100000 in
theorem rows1_eg : ∀ args w, (callFunc 75 args).run Try.prog w = .ok (.enter 75 args) w := enters_of Try.func75 (by kernel_rfl) rfl
set_option maxRecDepth 100000 in
theorem box1_set {W : World} {g : Nat} {v v' : Value} {t : TypeId} (h : W.heap[g]? = some (.cells #[v] t (0, 0))) : (W.setCell ⟨g, 0, none⟩ v').heap[g]? = some (.cells #[v'] t (0, 0)) := by
  have := heap_setCell_same W g 0 _ _ v' h
  simpa using this
set_option maxRecDepth 100000 in
theorem but_set (W : World) (g k : Nat) (v : Value) (own : Nat → Prop) (h : own g) : But own W (W.setCell ⟨g, k, none⟩ v) :=
  ⟨rfl, rfl, rfl, by simp [World.setCell], fun j _ hn => Below.heap_setCell _ _ _ _ (fun e => hn (by have e' : j = g := e; rw [e']; exact h))⟩
/-- What lies there within the count. -/
structure CJ (w : World) (own : Nat → Prop) (t : Nat) (W : World) : Prop where
  box : W.heap[w.heap.size]? = some (.cells #[.int .i64 (t : Int)] 3 (0, 0))
  bel : Below w.heap.size w W
  mine : own w.heap.size
  least : ∀ j, own j → w.heap.size ≤ j
set_option maxRecDepth 100000 in
theorem CJ.kw {w : World} {own : Nat → Prop} {t B : Nat} {W W' : World} (h : CJ w own t W) (hk : Kw B own W W') (hB : w.heap.size ≤ B) : CJ w own t W' :=
  ⟨(hk.block _ (Array.getElem?_eq_some_iff.1 h.box).1 (.inr h.mine)).trans h.box, h.bel.trans ⟨hk.os, hk.tape, hk.output, hk.size, fun j hj => hk.block j (Nat.lt_of_lt_of_le hj h.bel.size) (.inl (by omega))⟩, h.mine, h.least⟩
set_option maxRecDepth 100000 in
theorem CJ.set {w : World} {own : Nat → Prop} {t : Nat} {W : World} (h : CJ w own t W) : CJ w own (t + 1) (W.setCell ⟨w.heap.size, 0, none⟩ (.int .i64 ((t + 1 : Nat) : Int))) :=
  ⟨box1_set h.box, h.bel.trans ⟨rfl, rfl, rfl, by simp [World.setCell], fun j hj => Below.heap_setCell _ _ _ _ (fun e => by have e' : j = w.heap.size := e; omega)⟩, h.mine, h.least⟩
set_option maxRecDepth 100000 in
set_option maxHeartbeats 2000000 in
theorem count_any (w0 : World) (rs : List Rw) (gf : Nat) (lb : Array Value) (hit : RowsIter w0 rs gf lb) (heg : ∀ args w, (callFunc gf args).run Try.prog w = .ok (.enter gf args) w) (hmax : rs.length ≤ 1000) (w : World) (hw : Below w0.heap.size w0 w) :
    Calls Try.prog 41 #[.func (.func gf) #[] lb] w fun e w' => e = .returned (.int .i64 (rs.length : Int)) ∧ Below w.heap.size w w' := by
  have HIT : Hid (RowsIter w0 rs gf lb) := hit
  have HW : Hid (Below w0.heap.size w0 w) := hw
  have HM : Hid (rs.length ≤ 1000) := hmax
  clear hit hw hmax
  refine (callsIn_wide (n := 5)).1 ?_
  refine callsIn_of_wp_marks Try.func41 rfl trivial ?_ rfl
  simp only [Try.ntmps41, List.size_toArray, List.length_cons, List.length_nil, Nat.reduceAdd, Nat.reduceSub, Array.replicate_succ, Array.replicate_zero, List.push_toArray, List.append_toArray, List.nil_append, List.cons_append]
  gi_wp2
  have HB0 : Hid (Below w.heap.size w (w.alloc (.cells #[.int .i64 0] 3))) := below_new w _
  have HG0 : Hid ((w.alloc (.cells #[.int .i64 0] 3)).heap[w.heap.size]? = some (.cells #[.int .i64 0] 3 (0, 0))) := heap_alloc_new w _
  have hs0 : (w.alloc (.cells #[.int .i64 0] 3)).heap.size = w.heap.size + 1 := by simp
  have HS0 : Hid _ := hs0
  clear hs0
  generalize w.alloc (.cells #[.int .i64 0] 3) = Wf at *
  refine range_law9 (by omega) (gf := gf) (lb := lb) rfl heg (α := Rw) rs.length (fun r => #[rv r]) (fun _ => rfl) (fun k r => r = rat rs k)
    (fun own t W => CJ w own t W) (fun _ _ => False) .ret ?hJ ?hJx (fun j => j = w.heap.size) ?hown0 ?h0
    (fun r a' _ => a' = { tmps := #[.func (.func gf) #[] lb, undef, .int .i64 0, .pointer (some ⟨w.heap.size, 0, none⟩), .func (.func gf) #[] lb, rv r, undef, undef, undef], defers := [] }) ?hA ?assign ?body ?iter ?done ?stop
  case hJ =>
    intro own k A B h hk
    exact h.kw hk (by have := HS0.out; omega)
  case hJx => intro own A B h _; exact h
  case hown0 => intro j hj; have := HS0.out; omega
  case h0 => exact ⟨HG0.out, HB0.out, rfl, fun j hj => by omega⟩
  case hA => intro x a' W l o' h _ _; exact h
  case assign =>
    intro l' own k r W' K hk hok hJk hsz hK
    clear hok hJk
    gi_wp2
    exact hK _ _ (Below.refl _ _) (by simp)
  case iter =>
    intro l' W5 hl' hB5 hs5 R' Rx' ow how hR' hRx' hY' h0'
    have hs := HS0.out
    have hws := HW.out.size
    refine HIT.out W5 (HW.out.trans ((HB0.out.trans (hB5.mono (by omega))).mono hws)) l' R' Rx' ow (fun j hj => ?_) hR' hRx' (fun own k W hk hRk hsz _ => hY' own k _ W hk rfl hRk fun j hj => (hsz j hj).2) h0'
    rcases (how j).1 hj with rfl | rfl
    · exact ⟨hws, by omega⟩
    · exact ⟨by omega, by omega⟩
  case stop => intro D own W' _ _ h _; exact h.elim
  case done =>
    intro D own W' hDe hno hJ hdf
    have HJe : Hid (CJ w own rs.length W') := hJ
    have HDf : Hid _ := hdf
    have HDs : Hid (D = Wf.heap.size ∧ ¬ own D) := ⟨hDe, hno⟩
    have c0 : W'.cell? ⟨w.heap.size, 0, none⟩ = some (.int .i64 (rs.length : Int)) := by rw [cell_of_row _ _ _ _ _ _ hJ.box]; rfl
    have l0 : w.heap.size < W'.heap.size := (Array.getElem?_eq_some_iff.1 hJ.box).1
    clear hJ hdf hDe hno
    gi_wp2
    refine leaves_marks (fun W => results_tmp rfl _ _ _) [D] W' (by simp) (fun E hE => by simp at hE; subst hE; exact HDf.out) fun W'' hb => ⟨rfl, HJe.out.bel.trans ⟨hb.os, hb.tape, hb.output, hb.size, fun j hj => hb.block j (Nat.lt_of_lt_of_le hj HJe.out.bel.size) fun e => ?_⟩⟩
    have e' : j = D := by simpa using e
    have := HDs.out.1
    have := HS0.out
    omega
  case body =>
    intro l' own k r a' W' hk hok hJ hA hsz hol
    subst hA
    have HJe : Hid (CJ w own k W') := hJ
    have c0 : W'.cell? ⟨w.heap.size, 0, none⟩ = some (.int .i64 (k : Int)) := by rw [cell_of_row _ _ _ _ _ _ hJ.box]; rfl
    have l0 : w.heap.size < W'.heap.size := (Array.getElem?_eq_some_iff.1 hJ.box).1
    have z0 : W'.frozen? ⟨w.heap.size, 0, none⟩ = false := frozen_of_row W' _ 0 _ _ hJ.box
    have I1 : Hid ((k : Int) + 1 ≤ 9223372036854775807) := by refine (?_ : (k : Int) + 1 ≤ 9223372036854775807); have := HM.out; omega
    obtain ⟨zr, hzr⟩ : ∃ zr : Int, (k : Int) = zr := ⟨_, rfl⟩
    have HZR : Hid ((k : Int) = zr) := hzr
    rw [hzr] at c0
    clear hJ hzr hk hok hsz hol
    gi_wp2
    rw [wstep HZR.out I1.out]
    exact ⟨own, fun j hj => .inl hj, but_set _ _ _ _ _ HJe.out.mine, HJe.out.set⟩
end Go.Proofs.Ytaiiclkfnahghaa.Rq
