/- The rows of a tree under two tests: the closure; the tests. -/
import Derived.Test.YtaiiclkfnahghaaPJD
namespace Go.Proofs.Ytaiiclkfnahghaa.Rq
open Go.RowKit Go.Lib Go.Shelf
open Go.Proofs.Ytaiiclkfnahghaa.Rc
set_option maxRecDepth 100000 in
theorem rows_any (n : Nv) (ef : Nat) (eb : Array Value) (kf : Nat) (kb : Array Value) (w : World) :
    Calls Try.prog 45 #[nv n, .func (.func ef) #[] eb, .func (.func kf) #[] kb] w fun e w' => e = .returned (.func (.func 75) #[] #[.pointer (some ⟨w.heap.size + 1, 0, none⟩), .pointer (some ⟨w.heap.size, 0, none⟩), .pointer (some ⟨w.heap.size + 2, 0, none⟩)]) ∧ w' = ((w.alloc (.cells #[.int .u32 (n.X : Int), .int .u32 (n.Y : Int), .int .i64 (n.L : Int), .slice n.ro n.rn n.rc, .slice n.ko n.kn n.kc] 33)).alloc (.cells #[.func (.func ef) #[] eb] 70)).alloc (.cells #[.func (.func kf) #[] kb] 37) := by
  obtain ⟨nX, nY, nL, nro, nrn, nrc, nko, nkn, nkc⟩ := n
  simp only [nv]
  go_enter Try.func45, Try.ntmps45
  go_wp2_with fail
  go_ret
  exact ⟨rfl, rfl⟩
set_option maxRecDepth 100000 in
theorem ent_all (w0 : World) : Ent w0 (fun _ _ _ => true) 53 #[] := by
  refine ⟨fun _ _ => rfl, fun W _ X Y L hX hY => ?_⟩
  simp only [cv, Array.append_empty]
  go_enter Try.func53, Try.ntmps53
  go_wp2_with fail
  go_ret
  exact ⟨rfl, below_new W _⟩
set_option maxRecDepth 100000 in
theorem kep_all (w0 : World) : Kep w0 (fun _ => true) 54 #[] := by
  refine ⟨fun _ _ => rfl, fun W _ r hx hy => ?_⟩
  obtain ⟨id, x, y, v⟩ := r
  simp only [rv, Array.append_empty]
  go_enter Try.func54, Try.ntmps54
  go_wp2_with fail
  go_ret
  exact ⟨rfl, below_new W _⟩
set_option maxRecDepth 100000 in
theorem ent_right (w0 : World) : Ent w0 (fun X Y L => rightS X Y (L : Int)) 58 #[] := by
  refine ⟨fun _ _ => rfl, fun W _ X Y L hX hY => ?_⟩
  exact right_any X Y (L : Int) hX hY W
set_option maxRecDepth 100000 in
theorem box_cells {w : World} {g a b c d : Nat} {t : TypeId} {fr : Nat × Nat} (h : w.heap[g]? = some (.cells #[.int .u32 (a : Int), .int .u32 (b : Int), .int .u32 (c : Int), .int .u32 (d : Int)] t fr)) : w.cell? ⟨g, 0, none⟩ = some (.int .u32 (a : Int)) ∧ w.cell? ⟨g, 1, none⟩ = some (.int .u32 (b : Int)) ∧ w.cell? ⟨g, 2, none⟩ = some (.int .u32 (c : Int)) ∧ w.cell? ⟨g, 3, none⟩ = some (.int .u32 (d : Int)) :=
  ⟨by rw [cell_of_row _ _ _ _ _ _ h]; rfl, by rw [cell_of_row _ _ _ _ _ _ h]; rfl, by rw [cell_of_row _ _ _ _ _ _ h]; rfl, by rw [cell_of_row _ _ _ _ _ _ h]; rfl⟩
set_option maxRecDepth 100000 in
theorem ent_boxW (w0 : World) (g a b c d : Nat) (hg : w0.heap[g]? = some (.cells #[.int .u32 (a : Int), .int .u32 (b : Int), .int .u32 (c : Int), .int .u32 (d : Int)] 42 (0, 0))) : Ent w0 (fun X Y L => touchS X Y (L : Int) a b c d) 67 #[.pointer (some ⟨g, 0, none⟩)] := by
  refine ⟨fun _ _ => rfl, fun W hW X Y L hX hY => ?_⟩
  have HC : Hid _ := touches_any X Y (L : Int) a b c d hX hY
  have lg := (Array.getElem?_eq_some_iff.1 hg).1
  have lgW : g < W.heap.size := Nat.lt_of_lt_of_le lg hW.size
  obtain ⟨c0, c1, c2, c3⟩ := box_cells ((hW.block g lg).trans hg)
  clear hW hg lg hX hY
  simp only [cv, bv, List.append_toArray, List.cons_append, List.nil_append] at HC ⊢
  go_enter Try.func67, Try.ntmps67
  go_wp2_with fail
  refine (HC.out _).mono ?_
  rintro e w1 ⟨rfl, b1⟩
  have HB : Hid (Below W.heap.size W w1) := (below_new W _).trans (b1.mono (by simp))
  clear b1
  go_wp2_with fail
  go_ret
  exact ⟨rfl, HB.out⟩
set_option maxRecDepth 100000 in
theorem kep_boxW (w0 : World) (g a b c d : Nat) (hg : w0.heap[g]? = some (.cells #[.int .u32 (a : Int), .int .u32 (b : Int), .int .u32 (c : Int), .int .u32 (d : Int)] 42 (0, 0))) : Kep w0 (fun r => inS a b c d r.x r.y) 69 #[.pointer (some ⟨g, 0, none⟩)] := by
  refine ⟨fun _ _ => rfl, fun W hW r hx hy => ?_⟩
  obtain ⟨id, x, y, v⟩ := r
  have HC : Hid _ := in_any a b c d x y
  have lg := (Array.getElem?_eq_some_iff.1 hg).1
  have lgW : g < W.heap.size := Nat.lt_of_lt_of_le lg hW.size
  obtain ⟨c0, c1, c2, c3⟩ := box_cells ((hW.block g lg).trans hg)
  clear hW hg lg hx hy
  simp only [rv, bv, List.append_toArray, List.cons_append, List.nil_append] at HC ⊢
  go_enter Try.func69, Try.ntmps69
  go_wp2_with fail
  refine (HC.out _).mono ?_
  rintro e w1 ⟨rfl, b1⟩
  have HB : Hid (Below W.heap.size W w1) := (below_new W _).trans (b1.mono (by simp))
  clear b1
  go_wp2_with fail
  go_ret
  exact ⟨rfl, HB.out⟩
set_option maxRecDepth 100000 in
theorem ent_boxN (w0 : World) (g a b c d : Nat) (hg : w0.heap[g]? = some (.cells #[.int .u32 (a : Int), .int .u32 (b : Int), .int .u32 (c : Int), .int .u32 (d : Int)] 42 (0, 0))) : Ent w0 (fun X Y L => touchS X Y (L : Int) a b c d) 73 #[.pointer (some ⟨g, 0, none⟩)] := by
  refine ⟨fun _ _ => rfl, fun W hW X Y L hX hY => ?_⟩
  have HC : Hid _ := touches_any X Y (L : Int) a b c d hX hY
  have lg := (Array.getElem?_eq_some_iff.1 hg).1
  have lgW : g < W.heap.size := Nat.lt_of_lt_of_le lg hW.size
  obtain ⟨c0, c1, c2, c3⟩ := box_cells ((hW.block g lg).trans hg)
  clear hW hg lg hX hY
  simp only [cv, bv, List.append_toArray, List.cons_append, List.nil_append] at HC ⊢
  go_enter Try.func73, Try.ntmps73
  go_wp2_with fail
  refine (HC.out _).mono ?_
  rintro e w1 ⟨rfl, b1⟩
  have HB : Hid (Below W.heap.size W w1) := (below_new W _).trans (b1.mono (by simp))
  clear b1
  go_wp2_with fail
  go_ret
  exact ⟨rfl, HB.out⟩
set_option maxRecDepth 100000 in
theorem kep_boxN (w0 : World) (g a b c d : Nat) (hg : w0.heap[g]? = some (.cells #[.int .u32 (a : Int), .int .u32 (b : Int), .int .u32 (c : Int), .int .u32 (d : Int)] 42 (0, 0))) : Kep w0 (fun r => inS a b c d r.x r.y) 74 #[.pointer (some ⟨g, 0, none⟩)] := by
  refine ⟨fun _ _ => rfl, fun W hW r hx hy => ?_⟩
  obtain ⟨id, x, y, v⟩ := r
  have HC : Hid _ := in_any a b c d x y
  have lg := (Array.getElem?_eq_some_iff.1 hg).1
  have lgW : g < W.heap.size := Nat.lt_of_lt_of_le lg hW.size
  obtain ⟨c0, c1, c2, c3⟩ := box_cells ((hW.block g lg).trans hg)
  clear hW hg lg hx hy
  simp only [rv, bv, List.append_toArray, List.cons_append, List.nil_append] at HC ⊢
  go_enter Try.func74, Try.ntmps74
  go_wp2_with fail
  refine (HC.out _).mono ?_
  rintro e w1 ⟨rfl, b1⟩
  have HB : Hid (Below W.heap.size W w1) := (below_new W _).trans (b1.mono (by simp))
  clear b1
  go_wp2_with fail
  go_ret
  exact ⟨rfl, HB.out⟩
end Go.Proofs.Ytaiiclkfnahghaa.Rq
