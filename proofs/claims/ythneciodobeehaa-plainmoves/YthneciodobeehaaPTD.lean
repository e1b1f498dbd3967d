/- What is wrong with a change, and what it makes of a row. -/
import Derived.Test.YthneciodobeehaaPTC
namespace Go.Proofs.Ythneciodobeehaa.Rp
open Go.RowKit Go.Lib
open Go.Proofs.Ythneciodobeehaa.Rc Go.Proofs.Ythneciodobeehaa.Rq
/-- A change. -/
structure Ch where
  k : Int
  r : Rw
abbrev ov (o : Ch) : Value := .agg #[.int .i64 o.k, .int .u64 (o.r.id : Int), .int .u32 (o.r.x : Int), .int .u32 (o.r.y : Int), .string o.r.v]
abbrev ocs (o : Ch) : Obj := .cells #[.int .i64 o.k, .int .u64 (o.r.id : Int), .int .u32 (o.r.x : Int), .int .u32 (o.r.y : Int), .string o.r.v] 34
/-- What is wrong with it, whatever rows there are. -/
def chkO (o : Ch) : Int := if o.k = 1 then (if rightRow o.r = true then 0 else 80) else if o.k = 2 then (if onS o.r.x o.r.y = true then 0 else 80) else if o.k = 3 then 0 else 2
set_option maxRecDepth 100000 in
theorem op_cells {w : World} {g : Nat} {a b c d e : Value} {t : TypeId} (hg : w.heap[g]? = some (.cells #[a, b, c, d, e] t (0, 0))) :
    w.cell? ⟨g, 0, none⟩ = some a ∧ w.cell? ⟨g, 1, none⟩ = some b ∧ w.cell? ⟨g, 2, none⟩ = some c ∧ w.cell? ⟨g, 3, none⟩ = some d ∧ w.cell? ⟨g, 4, none⟩ = some e :=
  ⟨by rw [cell_of_row _ _ _ _ _ _ hg]; rfl, by rw [cell_of_row _ _ _ _ _ _ hg]; rfl, by rw [cell_of_row _ _ _ _ _ _ hg]; rfl, by rw [cell_of_row _ _ _ _ _ _ hg]; rfl, by rw [cell_of_row _ _ _ _ _ _ hg]; rfl⟩
set_option maxRecDepth 100000 in
theorem setcr (w : World) (g k : Nat) (v : Value) {j : Nat} (hj : j ≠ g) : (w.setCell ⟨g, k, none⟩ v).heap[j]? = w.heap[j]? := Below.heap_setCell _ _ _ _ hj
set_option maxRecDepth 100000 in
theorem below_set (w : World) (g k : Nat) (v : Value) {B : Nat} (hB : B ≤ g) : Below B w (w.setCell ⟨g, k, none⟩ v) := ⟨rfl, rfl, rfl, by simp [World.setCell], fun j hj => setcr w g k v (by omega)⟩
set_option maxRecDepth 100000 in
theorem rr_move (x y : Nat) : rightRow ⟨0, x, y, ⟨#[]⟩⟩ = onS x y := by
  rw [rr_is]; simp [ByteArray.size]
set_option maxRecDepth 100000 in
set_option maxHeartbeats 2000000 in
theorem check_any (o : Ch) (w : World) : Calls Try.prog 24 #[ov o] w fun e w' => e = .returned (.int .i64 (chkO o)) ∧ Below w.heap.size w w' := by
  obtain ⟨k, id, x, y, v⟩ := o
  have hn := two_new w (ocs ⟨k, ⟨id, x, y, v⟩⟩) (.cells #[.int .u64 0, .int .u32 0, .int .u32 0, .string ⟨#[]⟩] 27)
  obtain ⟨W0, hW0⟩ : ∃ W0, (w.alloc (ocs ⟨k, ⟨id, x, y, v⟩⟩)).alloc (.cells #[.int .u64 0, .int .u32 0, .int .u32 0, .string ⟨#[]⟩] 27) = W0 := ⟨_, rfl⟩
  rw [hW0] at hn
  obtain ⟨h1, h2, h3⟩ := hn
  have HW0 : Hid _ := hW0
  obtain ⟨p1, p2, p3⟩ := put_row h2 (.int .u64 0) (.int .u32 0) (.int .u32 0) (.string ⟨#[]⟩)
  have g1 := (p2 _ (by omega)).trans h1
  have b1 := h3.trans (p3 w.heap.size (by omega))
  obtain ⟨W1, hW1⟩ : ∃ W1, (((W0.setCell ⟨w.heap.size + 1, 0, none⟩ (.int .u64 0)).setCell ⟨w.heap.size + 1, 1, none⟩ (.int .u32 0)).setCell ⟨w.heap.size + 1, 2, none⟩ (.int .u32 0)).setCell ⟨w.heap.size + 1, 3, none⟩ (.string ⟨#[]⟩) = W1 := ⟨_, rfl⟩
  rw [hW1] at p1 g1 b1
  have HW1 : Hid _ := hW1
  obtain ⟨z0, z1, z2, z3, f0, f1, f2, f3⟩ := row_facts h2
  obtain ⟨y0, y1, y2, y3, c0, c1, c2, c3⟩ := row_facts p1
  obtain ⟨d0, d1, d2, d3, d4⟩ := op_cells g1
  have l1 : w.heap.size < W1.heap.size := (Array.getElem?_eq_some_iff.1 g1).1
  have l2 : w.heap.size + 1 < W1.heap.size := (Array.getElem?_eq_some_iff.1 p1).1
  have HB1 : Hid (Below w.heap.size w W1) := b1
  have HP1 : Hid _ := p1
  clear p2 p3 h1 h2 h3 hW0 hW1 g1 b1 p1
  simp only [ov]
  by_cases k1 : k = 1
  · subst k1
    obtain ⟨p1, p2, p3⟩ := put_row HP1.out (.int .u64 (id : Int)) (.int .u32 (x : Int)) (.int .u32 (y : Int)) (.string v)
    have HB2 : Hid _ := HB1.out.trans (p3 w.heap.size (by omega))
    obtain ⟨x0, x1, x2, x3, e0, e1, e2, e3⟩ := row_facts p1
    clear p1 p2 p3 x0 x1 x2 x3
    have HC : Hid _ := rightRow_any ⟨id, x, y, v⟩
    simp only [rv] at HC
    obtain ⟨b, hb⟩ : ∃ b, rightRow ⟨id, x, y, v⟩ = b := ⟨_, rfl⟩
    rw [hb] at HC
    have HV : Hid (chkO ⟨1, ⟨id, x, y, v⟩⟩ = if b = true then 0 else 80) := by
      refine (?_ : chkO ⟨1, ⟨id, x, y, v⟩⟩ = if b = true then 0 else 80)
      simp [chkO, hb]
    clear hb
    go_enter Try.func24, Try.ntmps24
    go_wp2_with (first | (rw [HW0.out]; clear HW0) | (rw [HW1.out]; clear HW1))
    refine (HC.out _).mono ?_
    rintro e w2 ⟨rfl, b2⟩
    have HB3 : Hid (Below w.heap.size w w2) := HB2.out.trans (b2.mono HB2.out.size)
    clear b2 HB2
    cases b
    all_goals
      go_wp2_with fail
      go_ret
      exact ⟨by rw [HV.out]; rfl, HB3.out⟩
  by_cases k2 : k = 2
  · subst k2
    have HC : Hid _ := rightRow_any ⟨0, x, y, ⟨#[]⟩⟩
    rw [rr_move] at HC
    simp only [rv] at HC
    obtain ⟨b, hb⟩ : ∃ b, onS x y = b := ⟨_, rfl⟩
    rw [hb] at HC
    have HV : Hid (chkO ⟨2, ⟨id, x, y, v⟩⟩ = if b = true then 0 else 80) := by
      refine (?_ : chkO ⟨2, ⟨id, x, y, v⟩⟩ = if b = true then 0 else 80)
      simp [chkO, hb]
    clear hb
    have HB2 : Hid (Below w.heap.size w ((W1.setCell ⟨w.heap.size + 1, 1, none⟩ (.int .u32 (x : Int))).setCell ⟨w.heap.size + 1, 2, none⟩ (.int .u32 (y : Int))).drew) := (HB1.out.trans ((below_set _ _ _ _ (by omega)).trans (below_set _ _ _ _ (by omega)))).drew
    go_enter Try.func24, Try.ntmps24
    go_wp2_with (first | (rw [HW0.out]; clear HW0) | (rw [HW1.out]; clear HW1))
    go_region
    go_wp2_with fail
    refine (HC.out _).mono ?_
    rintro e w2 ⟨rfl, b2⟩
    have HB3 : Hid (Below w.heap.size w w2) := HB2.out.trans (b2.mono HB2.out.size)
    clear b2 HB2
    cases b
    all_goals
      go_wp2_with fail
      go_ret
      exact ⟨by rw [HV.out]; rfl, HB3.out⟩
  by_cases k3 : k = 3
  · subst k3
    have HC : Hid _ := rightRow_any ⟨0, 0, 0, ⟨#[]⟩⟩
    simp only [rv] at HC
    go_enter Try.func24, Try.ntmps24
    go_wp2_with (first | (rw [HW0.out]; clear HW0) | (rw [HW1.out]; clear HW1))
    refine (HC.out _).mono ?_
    rintro e w2 ⟨rfl, b2⟩
    have HB3 : Hid (Below w.heap.size w w2) := HB1.out.trans (b2.mono HB1.out.size)
    clear b2
    rw [show rightRow ⟨0, 0, 0, ⟨#[]⟩⟩ = true from rfl]
    go_wp2_with fail
    go_ret
    exact ⟨rfl, HB3.out⟩
  have q1 : (k == 1) = false := by simpa using k1
  have q2 : (k == 2) = false := by simpa using k2
  have q3 : (k == 3) = false := by simpa using k3
  have HV : Hid (chkO ⟨k, ⟨id, x, y, v⟩⟩ = 2) := by
    refine (?_ : chkO ⟨k, ⟨id, x, y, v⟩⟩ = 2)
    simp [chkO, k1, k2, k3]
  go_enter Try.func24, Try.ntmps24
  go_wp2_with (first | (rw [HW0.out]; clear HW0) | (rw [HW1.out]; clear HW1))
  go_ret
  exact ⟨by rw [HV.out]; rfl, HB1.out⟩
/-- What a put or a move makes of a row. -/
def newR (was : Rw) (o : Ch) : Rw := if o.k = 1 then o.r else ⟨was.id, o.r.x, o.r.y, was.v⟩
set_option maxRecDepth 100000 in
theorem results_row {fn : Func} {p : Tmp} (h : fn.results = #[.cell p 27]) (tmps : Array Value) (w : World) (g : Nat) (a b c d : Value) {t : TypeId}
    (hp : tmps.getD p undef = .pointer (some ⟨g, 0, none⟩)) (hg : w.heap[g]? = some (.cells #[a, b, c, d] t (0, 0))) : (results fn tmps).run Try.prog w = .ok (.agg #[a, b, c, d]) w := by
  have hp' : tmps[p]?.getD undef = .pointer (some ⟨g, 0, none⟩) := by simpa using hp
  have c0 : w.cell? ⟨g, 0, none⟩ = some a := by rw [cell_of_row _ _ _ _ _ _ hg]; rfl
  have c1 : w.cell? ⟨g, 1, none⟩ = some b := by rw [cell_of_row _ _ _ _ _ _ hg]; rfl
  have c2 : w.cell? ⟨g, 2, none⟩ = some c := by rw [cell_of_row _ _ _ _ _ _ hg]; rfl
  have c3 : w.cell? ⟨g, 3, none⟩ = some d := by rw [cell_of_row _ _ _ _ _ _ hg]; rfl
  simp [results, h, hp', asAddr, go_sem, c0, c1, c2, c3]
set_option maxRecDepth 100000 in
theorem three_new (w : World) (a b c : Obj) : (((w.alloc a).alloc b).alloc c).heap[w.heap.size]? = some a ∧ (((w.alloc a).alloc b).alloc c).heap[w.heap.size + 1]? = some b ∧ (((w.alloc a).alloc b).alloc c).heap[w.heap.size + 2]? = some c ∧ Below w.heap.size w (((w.alloc a).alloc b).alloc c) := by
  obtain ⟨x1, x2, x3⟩ := two_new w a b
  have y1 := below_new ((w.alloc a).alloc b) c
  have y2 := heap_alloc_new ((w.alloc a).alloc b) c
  rw [show ((w.alloc a).alloc b).heap.size = w.heap.size + 2 by simp] at y2
  exact ⟨(y1.block _ (by simp; omega)).trans x1, (y1.block _ (by simp)).trans x2, y2, x3.trans (y1.mono x3.size)⟩
set_option maxRecDepth 100000 in
set_option maxHeartbeats 2000000 in
theorem become_any (r : Rw) (o : Ch) (w : World) : Calls Try.prog 27 #[rv r, ov o] w fun e w' => e = .returned (rv (newR r o)) ∧ Below w.heap.size w w' := by
  obtain ⟨rid, rx, ry, rvl⟩ := r
  obtain ⟨k, id, x, y, v⟩ := o
  have hn := three_new w (.cells #[.int .u64 (rid : Int), .int .u32 (rx : Int), .int .u32 (ry : Int), .string rvl] 27) (ocs ⟨k, ⟨id, x, y, v⟩⟩) (.cells #[.int .u64 0, .int .u32 0, .int .u32 0, .string ⟨#[]⟩] 27)
  obtain ⟨W0, hW0⟩ : ∃ W0, ((w.alloc (.cells #[.int .u64 (rid : Int), .int .u32 (rx : Int), .int .u32 (ry : Int), .string rvl] 27)).alloc (ocs ⟨k, ⟨id, x, y, v⟩⟩)).alloc (.cells #[.int .u64 0, .int .u32 0, .int .u32 0, .string ⟨#[]⟩] 27) = W0 := ⟨_, rfl⟩
  rw [hW0] at hn
  obtain ⟨h1, h2, h3, h4⟩ := hn
  have HW0 : Hid _ := hW0
  obtain ⟨z0, z1, z2, z3, f0, f1, f2, f3⟩ := row_facts h1
  obtain ⟨y0, y1, y2, y3, c0, c1, c2, c3⟩ := row_facts h3
  obtain ⟨d0, d1, d2, d3, d4⟩ := op_cells h2
  have l1 : w.heap.size < W0.heap.size := (Array.getElem?_eq_some_iff.1 h1).1
  have l2 : w.heap.size + 1 < W0.heap.size := (Array.getElem?_eq_some_iff.1 h2).1
  have l3 : w.heap.size + 2 < W0.heap.size := (Array.getElem?_eq_some_iff.1 h3).1
  simp only [ov, rv]
  by_cases k1 : k = 1
  · subst k1
    obtain ⟨p1, p2, p3⟩ := put_row h3 (.int .u64 (id : Int)) (.int .u32 (x : Int)) (.int .u32 (y : Int)) (.string v)
    have HP : Hid _ := p1
    have HB2 : Hid _ := h4.trans (p3 w.heap.size (by omega))
    clear p1 p2 p3 h1 h2 h3 h4 hW0
    go_enter Try.func27, Try.ntmps27
    go_wp2_with (first | (rw [HW0.out]; clear HW0))
    refine bodyPost_ret (results_row rfl _ _ _ _ _ _ _ rfl HP.out) rfl ⟨?_, HB2.out⟩
    simp [newR]
  · have q1 : (k == 1) = false := by simpa using k1
    have HV : Hid (newR ⟨rid, rx, ry, rvl⟩ ⟨k, ⟨id, x, y, v⟩⟩ = ⟨rid, x, y, rvl⟩) := by
      refine (?_ : newR ⟨rid, rx, ry, rvl⟩ ⟨k, ⟨id, x, y, v⟩⟩ = ⟨rid, x, y, rvl⟩)
      simp [newR, k1]
    have s1 := heap_setCell_same W0 w.heap.size 1 _ _ (.int .u32 (x : Int)) h1
    have s2 := heap_setCell_same _ w.heap.size 2 _ _ (.int .u32 (y : Int)) s1
    have s3 : ((W0.setCell ⟨w.heap.size, 1, none⟩ (.int .u32 (x : Int))).setCell ⟨w.heap.size, 2, none⟩ (.int .u32 (y : Int))).heap[w.heap.size + 2]? = some (.cells #[.int .u64 0, .int .u32 0, .int .u32 0, .string ⟨#[]⟩] 27 (0, 0)) :=
      (setcr _ _ _ _ (by omega)).trans ((setcr _ _ _ _ (by omega)).trans h3)
    have b2 : Below w.heap.size w ((W0.setCell ⟨w.heap.size, 1, none⟩ (.int .u32 (x : Int))).setCell ⟨w.heap.size, 2, none⟩ (.int .u32 (y : Int))) := h4.trans ((below_set _ _ _ _ (by omega)).trans (below_set _ _ _ _ (by omega)))
    obtain ⟨p1, p2, p3⟩ := put_row s3 (.int .u64 (rid : Int)) (.int .u32 (x : Int)) (.int .u32 (y : Int)) (.string rvl)
    have HB2 : Hid _ := (b2.trans (p3 w.heap.size (by omega))).drew
    obtain ⟨W2, hW2⟩ : ∃ W2, ((((((W0.setCell ⟨w.heap.size, 1, none⟩ (.int .u32 (x : Int))).setCell ⟨w.heap.size, 2, none⟩ (.int .u32 (y : Int))).setCell ⟨w.heap.size + 2, 0, none⟩ (.int .u64 (rid : Int))).setCell ⟨w.heap.size + 2, 1, none⟩ (.int .u32 (x : Int))).setCell ⟨w.heap.size + 2, 2, none⟩ (.int .u32 (y : Int))).setCell ⟨w.heap.size + 2, 3, none⟩ (.string rvl)) = W2 := ⟨_, rfl⟩
    rw [hW2] at HB2 p1
    have HW2 : Hid _ := hW2
    have HP : Hid (W2.drew.heap[w.heap.size + 2]? = some (.cells #[.int .u64 (rid : Int), .int .u32 (x : Int), .int .u32 (y : Int), .string rvl] 27 (0, 0))) := p1
    clear p1 p2 p3 h1 h2 h3 h4 hW0 s1 s2 s3 b2 k1 hW2
    go_enter Try.func27, Try.ntmps27
    go_wp2_with (first | (rw [HW0.out]; clear HW0))
    go_region
    go_wp2_with fail
    rw [HW2.out]
    refine bodyPost_ret (results_row rfl _ _ _ _ _ _ _ rfl HP.out) rfl ⟨?_, HB2.out⟩
    rw [HV.out]
end Go.Proofs.Ythneciodobeehaa.Rp
