/- The least cell of rows. -/
import Derived.Test.YtimdlohdmddnjaaQGC
import Derived.OrdersHeld
namespace Go.Proofs.Ytimdlohdmddnjaa.Rq
open Go.RowKit Go.Lib Go.Shelf
open Go.Proofs.Ytimdlohdmddnjaa.Rc
/-- What the least cell is reckoned of: the first point, the row at hand. -/
def LS (b off g : Nat) (x y : Nat) (r : Rw) (w : World) : Prop := w.cell? ⟨b, off + 1, none⟩ = some (.int .u32 (x : Int)) ∧ w.cell? ⟨b, off + 2, none⟩ = some (.int .u32 (y : Int)) ∧ F4 g r w
set_option maxRecDepth 100000 in
theorem LS.same {b off g x y : Nat} {r : Rw} {w w' : World} (h : LS b off g x y r w) (e : w'.heap[b]? = w.heap[b]?) (f : w'.heap[g]? = w.heap[g]?) : LS b off g x y r w' :=
  ⟨(World.cell?_of_block (a := ⟨b, off + 1, none⟩) e).trans h.1, (World.cell?_of_block (a := ⟨b, off + 2, none⟩) e).trans h.2.1, h.2.2.same f⟩
set_option maxRecDepth 100000 in
theorem readyH2 {P : Program} {md : Region.Mode} {ops : Array Oper} {Q : Exit → Act → World → Prop} {S : World → Prop} {fuel : Nat} {listed : Array Bool} {a : Act} {w : World} (k k2 : Nat) (o o2 : Oper) (hr : Region.ready md ops listed = [k, k2]) (ho : ops[k]? = some o) (ho2 : ops[k2]? = some o2)
    (hw : Region.wanted o (yielded ops a.tmps) = true) (hw2 : Region.wanted o2 (yielded ops a.tmps) = true)
    (h : ∀ K : Act → World → Prop, (∀ a w, S w → wpAnyH P md ops Q S fuel (listed.setIfInBounds k true) a w → K a w) → Oper.wp P o a w K Q)
    (h2 : ∀ K : Act → World → Prop, (∀ a w, S w → wpAnyH P md ops Q S fuel (listed.setIfInBounds k2 true) a w → K a w) → Oper.wp P o2 a w K Q) : wpAnyH P md ops Q S (fuel + 1) listed a w := by
  refine wpAnyH_all hr (by simp) fun j hj => ?_
  have : j = k ∨ j = k2 := by simpa using hj
  rcases this with rfl | rfl
  · unfold wpOp
    simp only [ho, hw, if_true]
    exact .inl (h _ fun a w h1 h2 => ⟨h1, h2⟩)
  · unfold wpOp
    simp only [ho2, hw2, if_true]
    exact .inl (h2 _ fun a w h1 h2 => ⟨h1, h2⟩)
/-- What lies there, k rows on. -/
structure LJ (l : List Rw) (w : World) (k : Nat) (X Y L : Nat) (W : World) : Prop where
  res : W.heap[w.heap.size]? = some (.cells #[.int .u32 0, .int .u32 0, .int .i64 0] 42 (0, 0))
  out : W.heap[w.heap.size + 1]? = some (.cells #[.int .u32 (X : Int), .int .u32 (Y : Int), .int .i64 (L : Int)] 42 (0, 0))
  bel : Below w.heap.size w W
  is : 0 < k → L = levs (x0 l) (y0 l) (l.take k) ∧ X = flr (x0 l) L ∧ Y = flr (y0 l) L
set_option maxRecDepth 100000 in
theorem LJ.size {l : List Rw} {w W : World} {k X Y L : Nat} (h : LJ l w k X Y L W) : w.heap.size + 2 ≤ W.heap.size := (Array.getElem?_eq_some_iff.1 h.out).1
set_option maxRecDepth 100000 in
theorem LJ.next {l : List Rw} {w W W' : World} {k X Y L B : Nat} (h : LJ l w k X Y L W) (hb : Below B W W') (hB : w.heap.size + 2 ≤ B) : LJ l w k X Y L W' :=
  ⟨(hb.block _ (by omega)).trans h.res, (hb.block _ (by omega)).trans h.out, h.bel.trans (hb.mono (by omega)), h.is⟩
set_option maxRecDepth 100000 in
theorem take_rat (l : List Rw) (k : Nat) (h : k < l.length) : l.take (k + 1) = l.take k ++ [rat l k] := by
  rw [List.take_add_one, rat_some h]; rfl
set_option maxRecDepth 100000 in
theorem levs_one (x y : Nat) (r : Rw) : levs x y [r] = lvl x y r.x r.y := by simp [levs]
set_option maxRecDepth 100000 in
theorem LJ.keep {l : List Rw} {w W : World} {k X Y L : Nat} (h : LJ l w k X Y L W) (hk : k < l.length) (h0 : 0 < k) (hl : lvl (x0 l) (y0 l) (rat l k).x (rat l k).y ≤ L) : LJ l w (k + 1) X Y L W :=
  ⟨h.res, h.out, h.bel, fun _ => by
    obtain ⟨a, b, c⟩ := h.is h0
    refine ⟨?_, b, c⟩
    rw [take_rat l k hk, levs_append, ← a, levs_one]
    omega⟩
set_option maxRecDepth 100000 in
theorem LJ.put {l : List Rw} {w W : World} {k X Y L : Nat} (h : LJ l w k X Y L W) (hk : k < l.length) (v : Nat) (hv : v = lvl (x0 l) (y0 l) (rat l k).x (rat l k).y) (hm : 0 < k → L < v) :
    LJ l w (k + 1) (flr (x0 l) v) (flr (y0 l) v) v (((W.setCell ⟨w.heap.size + 1, 0, none⟩ (.int .u32 ((flr (x0 l) v : Nat) : Int))).setCell ⟨w.heap.size + 1, 1, none⟩ (.int .u32 ((flr (y0 l) v : Nat) : Int))).setCell ⟨w.heap.size + 1, 2, none⟩ (.int .i64 (v : Int))) := by
  have hs := h.size
  obtain ⟨h2, b2⟩ := put_cell h.out (.int .u32 ((flr (x0 l) v : Nat) : Int)) (.int .u32 ((flr (y0 l) v : Nat) : Int)) (.int .i64 (v : Int))
  refine ⟨(b2.block _ (by omega)).trans h.res, h2, h.bel.trans (b2.mono (by omega)), fun _ => ⟨?_, rfl, rfl⟩⟩
  rw [take_rat l k hk, levs_append, levs_one, ← hv]
  by_cases h0 : 0 < k
  · have := (h.is h0).1
    have := hm h0
    omega
  · obtain rfl : k = 0 := by omega
    simp [levs]
set_option maxRecDepth 100000 in
theorem results_c1 {fn : Func} {p : Tmp} (h : fn.results = #[.cell p 42]) (tmps : Array Value) (w : World) (g : Nat) (X Y : Nat) (L : Int) {t : TypeId} {fr : Nat × Nat}
    (hp : tmps.getD p undef = .pointer (some ⟨g, 0, none⟩)) (hg : w.heap[g]? = some (.cells #[.int .u32 (X : Int), .int .u32 (Y : Int), .int .i64 L] t fr)) : (results fn tmps).run Try.prog w = .ok (cv X Y L) w := by
  have hp' : tmps[p]?.getD undef = .pointer (some ⟨g, 0, none⟩) := by simpa using hp
  have c0 : w.cell? ⟨g, 0, none⟩ = some (.int .u32 (X : Int)) := by rw [cell_of_row _ _ _ _ _ _ hg]; rfl
  have c1 : w.cell? ⟨g, 1, none⟩ = some (.int .u32 (Y : Int)) := by rw [cell_of_row _ _ _ _ _ _ hg]; rfl
  have c2 : w.cell? ⟨g, 2, none⟩ = some (.int .i64 L) := by rw [cell_of_row _ _ _ _ _ _ hg]; rfl
  simp [results, h, hp', asAddr, go_sem, c0, c1, c2]
set_option maxRecDepth 100000 in
set_option maxHeartbeats 4000000 in
theorem qleast_any (l : List Rw) (o : Option Addr) (cap : Nat) (w : World) (hr : RowsAt w o cap l) (hne : 0 < l.length) (hon : On l) (hmax : l.length ≤ 1000) :
    Calls Try.prog 62 #[.slice o l.length cap] w fun e w' => e = .returned (cv (cx l) (cy l) (lev l)) ∧ Below w.heap.size w w' := by
  have HT := two_new w (.cells #[.int .u32 0, .int .u32 0, .int .i64 0] 42) (.cells #[.int .u32 0, .int .u32 0, .int .i64 0] 42)
  have H0 : Hid (LJ l w 0 0 0 0 ((w.alloc (.cells #[.int .u32 0, .int .u32 0, .int .i64 0] 42)).alloc (.cells #[.int .u32 0, .int .u32 0, .int .i64 0] 42))) := ⟨HT.1, HT.2.1, HT.2.2, fun h => absurd h (by omega)⟩
  clear HT
  go_enter Try.func62, Try.ntmps62
  go_wp2_with fail
  go_loopw [10] (fun i wr => ∃ k : Nat, k ≤ l.length ∧ i = .int .i64 (k : Int) ∧ ∃ X Y L, LJ l w k X Y L wr) (fun i _ => l.length - natOf i)
  case atStart => exact ⟨0, by omega, rfl, 0, 0, 0, H0.out⟩
  case round =>
    obtain ⟨k, hk, rfl, X, Y, L, hj⟩ := hrel
    have HJ : Hid (LJ l w k X Y L wr) := hj
    have hsz := hj.size
    by_cases hlt : k < l.length
    · obtain ⟨b, off, rfl, hbl, hc⟩ := (hr.below hj.bel (Nat.le_refl _)).row hlt
      have hbw : b < w.heap.size := by
        obtain ⟨b', off', e, h, _⟩ := hr.row hlt
        cases e; exact h
      obtain ⟨c0, c1, c2, c3⟩ := hc k hlt
      obtain ⟨_, d1, d2, _⟩ := hc 0 hne
      rw [Nat.zero_mul, Nat.add_zero, ← x0_rat, ← y0_rat] at *
      have q1 : (k : Int) < (l.length : Int) := by omega
      have q2 : (0 : Int) < (l.length : Int) := by omega
      have k0 : (0 : Int) ≤ (k : Int) := by omega
      have k1 : (k : Int) + 1 ≤ 9223372036854775807 := by omega
      have onr := hon _ (rat_mem hlt)
      have on0' := on0 hon
      have HC : Hid _ := least_any (x0 l) (y0 l) (rat l k).x (rat l k).y
      rw [show leas (x0 l) (y0 l) (rat l k).x (rat l k).y = (flr (x0 l) (lvl (x0 l) (y0 l) (rat l k).x (rat l k).y), flr (y0 l) (lvl (x0 l) (y0 l) (rat l k).x (rat l k).y), (lvl (x0 l) (y0 l) (rat l k).x (rat l k).y : Int), 0) by unfold leas; rw [if_pos ⟨onS_true on0'.1 on0'.2, onS_true onr.1 onr.2⟩]] at HC
      simp only [qv] at HC
      have HP : Hid _ := fun (W : World) (h : LJ l w k X Y L W) => h.put hlt _ rfl
      have HKp : Hid _ := fun (W : World) (h : LJ l w k X Y L W) => h.keep hlt
      generalize lvl (x0 l) (y0 l) (rat l k).x (rat l k).y = lv at *
      generalize flr (x0 l) lv = fx at *
      generalize flr (y0 l) lv = fy at *
      generalize x0 l = xx at *
      generalize y0 l = yy at *
      generalize hr0 : rat l k = r at *
      obtain ⟨id, x, y, v⟩ := r
      simp only at c0 c1 c2 c3 HC
      clear hr0 hc onr on0' hj
      have HBn : Hid (Below wr.heap.size wr (wr.alloc (.cells #[.int .u64 (id : Int), .int .u32 (x : Int), .int .u32 (y : Int), .string v] 54)).drew) := (below_new wr _).drew
      have HSW : Hid (LS b off wr.heap.size xx yy ⟨id, x, y, v⟩ (wr.alloc (.cells #[.int .u64 (id : Int), .int .u32 (x : Int), .int .u32 (y : Int), .string v] 54)).drew) :=
        ⟨(World.cell?_of_block (a := ⟨b, off + 1, none⟩) (HBn.out.block b hbl)).trans d1, (World.cell?_of_block (a := ⟨b, off + 2, none⟩) (HBn.out.block b hbl)).trans d2, F4.of (heap_alloc_new wr _)⟩
      have hlt2 : wr.heap.size < (wr.alloc (.cells #[.int .u64 (id : Int), .int .u32 (x : Int), .int .u32 (y : Int), .string v] 54)).drew.heap.size := by simp
      clear d1 d2
      go_wp2_with fail
      refine wp_region_held (S := LS b off wr.heap.size xx yy ⟨id, x, y, v⟩) (by kernel_rfl) ?_
      change wpAnyH _ _ _ _ _ _ _ _ (World.drew _)
      refine wpAnyH_take (i := 0) (v := ?_) rfl (by kernel_rfl) (by kernel_rfl) (by kernel_rfl) (fun _ _ _ h => h) (Or.inl ⟨by kernel_rfl, ?_⟩) HSW.out ?_
      rotate_left
      · intro w hS
        obtain ⟨e1, e2, e3, e4, e5, e6⟩ := hS
        go_simp
        try with_reducible rfl
      conv in (Act.put _ _ _) => simp only [List.getElem_toArray, List.getElem_cons_succ, List.getElem_cons_zero, Act.put, List.setIfInBounds_toArray, List.set_cons_succ, List.set_cons_zero]
      refine wpAnyH_take (i := 1) (v := ?_) rfl (by kernel_rfl) (by kernel_rfl) (by kernel_rfl) (fun _ _ _ h => h) (Or.inl ⟨by kernel_rfl, ?_⟩) HSW.out ?_
      rotate_left
      · intro w hS
        obtain ⟨e1, e2, e3, e4, e5, e6⟩ := hS
        go_simp
        try with_reducible rfl
      conv in (Act.put _ _ _) => simp only [List.getElem_toArray, List.getElem_cons_succ, List.getElem_cons_zero, Act.put, List.setIfInBounds_toArray, List.set_cons_succ, List.set_cons_zero]
      refine wpAnyH_take (i := 2) (v := ?_) rfl (by kernel_rfl) (by kernel_rfl) (by kernel_rfl) (fun _ _ _ h => h) (Or.inl ⟨by kernel_rfl, ?_⟩) HSW.out ?_
      rotate_left
      · intro w hS
        obtain ⟨e1, e2, e3, e4, e5, e6⟩ := hS
        go_simp
        try with_reducible rfl
      conv in (Act.put _ _ _) => simp only [List.getElem_toArray, List.getElem_cons_succ, List.getElem_cons_zero, Act.put, List.setIfInBounds_toArray, List.set_cons_succ, List.set_cons_zero]
      refine wpAnyH_take (i := 3) (v := ?_) rfl (by kernel_rfl) (by kernel_rfl) (by kernel_rfl) (fun _ _ _ h => h) (Or.inl ⟨by kernel_rfl, ?_⟩) HSW.out ?_
      rotate_left
      · intro w hS
        obtain ⟨e1, e2, e3, e4, e5, e6⟩ := hS
        go_simp
        try with_reducible rfl
      conv in (Act.put _ _ _) => simp only [List.getElem_toArray, List.getElem_cons_succ, List.getElem_cons_zero, Act.put, List.setIfInBounds_toArray, List.set_cons_succ, List.set_cons_zero]
      refine wpAnyH_take (i := 4) (v := ?_) rfl (by kernel_rfl) (by kernel_rfl) (by kernel_rfl) (fun _ _ _ h => h) (Or.inl ⟨by kernel_rfl, ?_⟩) HSW.out ?_
      rotate_left
      · intro w hS
        obtain ⟨e1, e2, e3, e4, e5, e6⟩ := hS
        go_simp
        try with_reducible rfl
      conv in (Act.put _ _ _) => simp only [List.getElem_toArray, List.getElem_cons_succ, List.getElem_cons_zero, Act.put, List.setIfInBounds_toArray, List.set_cons_succ, List.set_cons_zero]
      refine wpAnyH_take (i := 5) (v := ?_) rfl (by kernel_rfl) (by kernel_rfl) (by kernel_rfl) (fun _ _ _ h => h) (Or.inl ⟨by kernel_rfl, ?_⟩) HSW.out ?_
      rotate_left
      · intro w hS
        obtain ⟨e1, e2, e3, e4, e5, e6⟩ := hS
        go_simp
        try with_reducible rfl
      conv in (Act.put _ _ _) => simp only [List.getElem_toArray, List.getElem_cons_succ, List.getElem_cons_zero, Act.put, List.setIfInBounds_toArray, List.set_cons_succ, List.set_cons_zero]
      refine wpAnyH_take (i := 6) (v := ?_) rfl (by kernel_rfl) (by kernel_rfl) (by kernel_rfl) (fun _ _ _ h => h) (Or.inl ⟨by kernel_rfl, ?_⟩) HSW.out ?_
      rotate_left
      · intro w hS
        obtain ⟨e1, e2, e3, e4, e5, e6⟩ := hS
        go_simp
        try with_reducible rfl
      conv in (Act.put _ _ _) => simp only [List.getElem_toArray, List.getElem_cons_succ, List.getElem_cons_zero, Act.put, List.setIfInBounds_toArray, List.set_cons_succ, List.set_cons_zero]
      refine wpAnyH_take (i := 7) (v := ?_) rfl (by kernel_rfl) (by kernel_rfl) (by kernel_rfl) (fun _ _ _ h => h) (Or.inl ⟨by kernel_rfl, ?_⟩) HSW.out ?_
      rotate_left
      · intro w hS
        obtain ⟨e1, e2, e3, e4, e5, e6⟩ := hS
        go_simp
        try with_reducible rfl
      conv in (Act.put _ _ _) => simp only [List.getElem_toArray, List.getElem_cons_succ, List.getElem_cons_zero, Act.put, List.setIfInBounds_toArray, List.set_cons_succ, List.set_cons_zero]
      refine wpAnyH_take (i := 8) (v := ?_) rfl (by kernel_rfl) (by kernel_rfl) (by kernel_rfl) (fun _ _ _ h => h) (Or.inl ⟨by kernel_rfl, ?_⟩) HSW.out ?_
      rotate_left
      · intro w hS
        obtain ⟨e1, e2, e3, e4, e5, e6⟩ := hS
        go_simp
        try with_reducible rfl
      conv in (Act.put _ _ _) => simp only [List.getElem_toArray, List.getElem_cons_succ, List.getElem_cons_zero, Act.put, List.setIfInBounds_toArray, List.set_cons_succ, List.set_cons_zero]
      refine wpAnyH_take (i := 9) (v := ?_) rfl (by kernel_rfl) (by kernel_rfl) (by kernel_rfl) (fun _ _ _ h => h) (Or.inl ⟨by kernel_rfl, ?_⟩) HSW.out ?_
      rotate_left
      · intro w hS
        obtain ⟨e1, e2, e3, e4, e5, e6⟩ := hS
        go_simp
        try with_reducible rfl
      conv in (Act.put _ _ _) => simp only [List.getElem_toArray, List.getElem_cons_succ, List.getElem_cons_zero, Act.put, List.setIfInBounds_toArray, List.set_cons_succ, List.set_cons_zero]
      refine wpAnyH_take (i := 10) (v := ?_) rfl (by kernel_rfl) (by kernel_rfl) (by kernel_rfl) (fun _ _ _ h => h) (Or.inl ⟨by kernel_rfl, ?_⟩) HSW.out ?_
      rotate_left
      · intro w hS
        obtain ⟨e1, e2, e3, e4, e5, e6⟩ := hS
        go_simp
        try with_reducible rfl
      conv in (Act.put _ _ _) => simp only [List.getElem_toArray, List.getElem_cons_succ, List.getElem_cons_zero, Act.put, List.setIfInBounds_toArray, List.set_cons_succ, List.set_cons_zero]
      refine wpAnyH_take (i := 11) (v := ?_) rfl (by kernel_rfl) (by kernel_rfl) (by kernel_rfl) (fun _ _ _ h => h) (Or.inl ⟨by kernel_rfl, ?_⟩) HSW.out ?_
      rotate_left
      · intro w hS
        obtain ⟨e1, e2, e3, e4, e5, e6⟩ := hS
        go_simp
        try with_reducible rfl
      conv in (Act.put _ _ _) => simp only [List.getElem_toArray, List.getElem_cons_succ, List.getElem_cons_zero, Act.put, List.setIfInBounds_toArray, List.set_cons_succ, List.set_cons_zero]
      refine readyH2 12 16 _ _ (by kernel_rfl) rfl rfl (by kernel_rfl) (by kernel_rfl) (fun K hK => ?_) (fun K hK => ?_)
      · go_simp
        refine (HC.out _).mono ?_
        rintro e w1 ⟨rfl, b1⟩
        have HJ1 : Hid (LJ l w k X Y L w1) := (HJ.out.next HBn.out hsz).next b1 (by omega)
        replace HSW : Hid (LS b off wr.heap.size xx yy ⟨id, x, y, v⟩ w1) := HSW.out.same (b1.block _ (by omega)) (b1.block _ hlt2)
        have hs1 : wr.heap.size < w1.heap.size := Nat.lt_of_lt_of_le hlt2 b1.size
        refine hK _ _ HSW.out ?_
        clear hK K b1
        refine wpAnyH_take (i := 13) (v := ?_) rfl (by kernel_rfl) (by kernel_rfl) (by kernel_rfl) (fun _ _ _ h => h) (Or.inl ⟨by kernel_rfl, ?_⟩) HSW.out ?_
        rotate_left
        · intro w hS
          obtain ⟨e1, e2, e3, e4, e5, e6⟩ := hS
          go_simp
          try with_reducible rfl
        conv in (Act.put _ _ _) => simp only [List.getElem_toArray, List.getElem_cons_succ, List.getElem_cons_zero, Act.put, List.setIfInBounds_toArray, List.set_cons_succ, List.set_cons_zero]
        refine wpAnyH_take (i := 14) (v := ?_) rfl (by kernel_rfl) (by kernel_rfl) (by kernel_rfl) (fun _ _ _ h => h) (Or.inl ⟨by kernel_rfl, ?_⟩) HSW.out ?_
        rotate_left
        · intro w hS
          obtain ⟨e1, e2, e3, e4, e5, e6⟩ := hS
          go_simp
          try with_reducible rfl
        conv in (Act.put _ _ _) => simp only [List.getElem_toArray, List.getElem_cons_succ, List.getElem_cons_zero, Act.put, List.setIfInBounds_toArray, List.set_cons_succ, List.set_cons_zero]
        refine wpAnyH_take (i := 15) (v := ?_) rfl (by kernel_rfl) (by kernel_rfl) (by kernel_rfl) (fun _ _ _ h => h) (Or.inl ⟨by kernel_rfl, ?_⟩) HSW.out ?_
        rotate_left
        · intro w hS
          obtain ⟨e1, e2, e3, e4, e5, e6⟩ := hS
          go_simp
          try with_reducible rfl
        conv in (Act.put _ _ _) => simp only [List.getElem_toArray, List.getElem_cons_succ, List.getElem_cons_zero, Act.put, List.setIfInBounds_toArray, List.set_cons_succ, List.set_cons_zero]
        refine readyH 16 _ (by kernel_rfl) rfl (by kernel_rfl) (fun K hK => ?_)
        go_simp
        have HJ2 := HJ1.out.next (below_new w1 (.cells #[.int .u32 0, .int .u32 0, .int .i64 0] 42)) (by have := HJ1.out.size; omega)
        have HG2 : Hid ((w1.alloc (.cells #[.int .u32 0, .int .u32 0, .int .i64 0] 42)).heap[w1.heap.size]? = some (.cells #[.int .u32 0, .int .u32 0, .int .i64 0] 42 (0, 0))) := heap_alloc_new w1 _
        have hbn := below_new w1 (.cells #[.int .u32 0, .int .u32 0, .int .i64 0] 42)
        replace HSW : Hid (LS b off wr.heap.size xx yy ⟨id, x, y, v⟩ (w1.alloc (.cells #[.int .u32 0, .int .u32 0, .int .i64 0] 42))) := HSW.out.same (hbn.block _ (by omega)) (hbn.block _ hs1)
        refine hK _ _ HSW.out ?_
        clear hK K hbn
        obtain ⟨g6, hg6'⟩ : ∃ g6, w1.heap.size = g6 := ⟨_, rfl⟩
        have hg6 : w.heap.size + 2 ≤ g6 := by have := HJ1.out.size; omega
        have hg6b : wr.heap.size < g6 := by omega
        obtain ⟨W2, hW2⟩ : ∃ W2, w1.alloc (.cells #[.int .u32 0, .int .u32 0, .int .i64 0] 42) = W2 := ⟨_, rfl⟩
        rw [hW2] at HJ2 HG2 HSW ⊢
        rw [hg6'] at HG2 ⊢
        clear hW2 hg6' HJ1 hs1
        have HJ3 : Hid (LJ l w k X Y L W2) := HJ2
        have HS2 := HSW.out
        obtain ⟨z0, z1, z2, f0, f1, f2⟩ := cell_facts HG2.out
        obtain ⟨h3, b3⟩ := put_cell HG2.out (.int .u32 (fx : Int)) (.int .u32 (fy : Int)) (.int .i64 (lv : Int))
        have HJ4 : Hid (LJ l w k X Y L (((W2.setCell ⟨g6, 0, none⟩ (.int .u32 (fx : Int))).setCell ⟨g6, 1, none⟩ (.int .u32 (fy : Int))).setCell ⟨g6, 2, none⟩ (.int .i64 (lv : Int)))) := HJ3.out.next b3 hg6
        have HG4 : Hid _ := h3
        replace HSW : Hid (LS b off wr.heap.size xx yy ⟨id, x, y, v⟩ (((W2.setCell ⟨g6, 0, none⟩ (.int .u32 (fx : Int))).setCell ⟨g6, 1, none⟩ (.int .u32 (fy : Int))).setCell ⟨g6, 2, none⟩ (.int .i64 (lv : Int)))) := HSW.out.same (b3.block _ (by omega)) (b3.block _ (by omega))
        clear h3 b3 HS2
        refine readyH 17 _ (by kernel_rfl) rfl (by kernel_rfl) (fun K hK => ?_)
        go_simp
        refine hK _ _ HSW.out ?_
        clear hK K f0 f1 f2 z0 z1 z2
        obtain ⟨W3, hW3⟩ : ∃ W3, ((W2.setCell ⟨g6, 0, none⟩ (.int .u32 (fx : Int))).setCell ⟨g6, 1, none⟩ (.int .u32 (fy : Int))).setCell ⟨g6, 2, none⟩ (.int .i64 (lv : Int)) = W3 := ⟨_, rfl⟩
        rw [hW3] at HJ4 HG4 HSW ⊢
        clear hW3 HJ3 HJ2 HG2
        refine wpAnyH_take (i := 18) (v := ?_) rfl (by kernel_rfl) (by kernel_rfl) (by kernel_rfl) (fun _ _ _ h => h) (Or.inl ⟨by kernel_rfl, ?_⟩) HSW.out ?_
        rotate_left
        · intro w hS
          obtain ⟨e1, e2, e3, e4, e5, e6⟩ := hS
          go_simp
          try with_reducible rfl
        conv in (Act.put _ _ _) => simp only [List.getElem_toArray, List.getElem_cons_succ, List.getElem_cons_zero, Act.put, List.setIfInBounds_toArray, List.set_cons_succ, List.set_cons_zero]
        refine wpAnyH_done (by kernel_rfl) ?_ _
        clear HSW
        rename_i hKK
        refine hKK _ _ ?_
        clear hKK
        obtain ⟨y0, y1, y2, f0, f1, f2⟩ := cell_facts HG4.out
        clear y0 y1 y2
        obtain ⟨z0, z1, z2, t0, t1, t2⟩ := cell_facts HJ4.out.out
        clear HG4
        obtain ⟨zk, hzk⟩ : ∃ zk : Int, (k : Int) = zk := ⟨_, rfl⟩
        have HZ : Hid ((k : Int) = zk) := hzk
        have hq5 : zk = 0 ↔ k = 0 := by omega
        rw [hzk] at k0 k1 q1 ⊢
        clear hzk
        by_cases hk0 : k = 0
        · have q5 : (zk == 0) = true := by rw [beq_iff_eq]; exact hq5.2 hk0
          have HL : Hid _ := HP.out W3 HJ4.out (fun h => absurd h (by omega))
          clear hk0 hq5
          go_wp2_with fail
          go_roundw
          case rel => exact ⟨k + 1, by omega, by rw [← HZ.out]; go_num, _, _, _, HL.out⟩
          case measure => rw [← HZ.out]; simp [natOf]; omega
        · have q5 : (zk == 0) = false := by rw [beq_eq_false_iff_ne]; exact fun e => hk0 (hq5.1 e)
          by_cases hlv : L < lv
          · have q6 : decide (L < lv) = true := decide_eq_true hlv
            have HL : Hid _ := HP.out W3 HJ4.out (fun _ => hlv)
            clear hk0 hlv hq5
            go_wp2_with fail
            go_roundw
            case rel => exact ⟨k + 1, by omega, by rw [← HZ.out]; go_num, _, _, _, HL.out⟩
            case measure => rw [← HZ.out]; simp [natOf]; omega
          · have q6 : decide (L < lv) = false := decide_eq_false hlv
            have HL : Hid _ := HKp.out W3 HJ4.out (by omega) (by omega)
            clear hk0 hlv hq5
            go_wp2_with fail
            go_roundw
            case rel => exact ⟨k + 1, by omega, by rw [← HZ.out]; go_num, _, _, _, HL.out⟩
            case measure => rw [← HZ.out]; simp [natOf]; omega
      · go_simp
        have hb2 := (below_new (wr.alloc (.cells #[.int .u64 (id : Int), .int .u32 (x : Int), .int .u32 (y : Int), .string v] 54)) (.cells #[.int .u32 0, .int .u32 0, .int .i64 0] 42)).drew
        have hs2 : (wr.alloc (.cells #[.int .u64 (id : Int), .int .u32 (x : Int), .int .u32 (y : Int), .string v] 54)).heap.size = wr.heap.size + 1 := by simp
        rw [hs2] at hb2
        have HG1 : ((wr.alloc (.cells #[.int .u64 (id : Int), .int .u32 (x : Int), .int .u32 (y : Int), .string v] 54)).alloc (.cells #[.int .u32 0, .int .u32 0, .int .i64 0] 42)).drew.heap[wr.heap.size + 1]? = some (.cells #[.int .u32 0, .int .u32 0, .int .i64 0] 42 (0, 0)) := by
          have := heap_alloc_new (wr.alloc (.cells #[.int .u64 (id : Int), .int .u32 (x : Int), .int .u32 (y : Int), .string v] 54)) (.cells #[.int .u32 0, .int .u32 0, .int .i64 0] 42)
          rw [hs2] at this; exact this
        have HJ1 : LJ l w k X Y L ((wr.alloc (.cells #[.int .u64 (id : Int), .int .u32 (x : Int), .int .u32 (y : Int), .string v] 54)).alloc (.cells #[.int .u32 0, .int .u32 0, .int .i64 0] 42)).drew := (HJ.out.next (below_new wr _) hsz).next hb2 (by omega)
        have HS1 : LS b off wr.heap.size xx yy ⟨id, x, y, v⟩ ((wr.alloc (.cells #[.int .u64 (id : Int), .int .u32 (x : Int), .int .u32 (y : Int), .string v] 54)).alloc (.cells #[.int .u32 0, .int .u32 0, .int .i64 0] 42)).drew :=
          HSW.out.same (hb2.block _ (by omega)) (hb2.block _ (by omega))
        refine hK _ _ HS1 ?_
        clear hK K hb2
        obtain ⟨g6, hg6'⟩ : ∃ g6, wr.heap.size + 1 = g6 := ⟨_, rfl⟩
        have hg6 : w.heap.size + 2 ≤ g6 := by omega
        have hg6b : wr.heap.size < g6 := by omega
        obtain ⟨W1, hW1⟩ : ∃ W1, ((wr.alloc (.cells #[.int .u64 (id : Int), .int .u32 (x : Int), .int .u32 (y : Int), .string v] 54)).alloc (.cells #[.int .u32 0, .int .u32 0, .int .i64 0] 42)).drew = W1 := ⟨_, rfl⟩
        rw [hW1] at HJ1 HG1 HS1 ⊢
        rw [hg6'] at HG1 ⊢
        clear hW1 hg6' HSW hs2
        have hgs : g6 < W1.heap.size := (Array.getElem?_eq_some_iff.1 HG1).1
        refine readyH 12 _ (by kernel_rfl) rfl (by kernel_rfl) (fun K hK => ?_)
        go_simp
        refine (HC.out _).mono ?_
        rintro e W2 ⟨rfl, b1⟩
        have HJ2 : LJ l w k X Y L W2 := HJ1.next b1 (by omega)
        have HSW : Hid (LS b off wr.heap.size xx yy ⟨id, x, y, v⟩ W2) := HS1.same (b1.block _ (by omega)) (b1.block _ (by omega))
        have HG2 : Hid (W2.heap[g6]? = some (.cells #[.int .u32 0, .int .u32 0, .int .i64 0] 42 (0, 0))) := (b1.block _ hgs).trans HG1
        refine hK _ _ HSW.out ?_
        clear hK K b1 HJ1 HS1 HG1 hgs
        refine wpAnyH_take (i := 13) (v := ?_) rfl (by kernel_rfl) (by kernel_rfl) (by kernel_rfl) (fun _ _ _ h => h) (Or.inl ⟨by kernel_rfl, ?_⟩) HSW.out ?_
        rotate_left
        · intro w hS
          obtain ⟨e1, e2, e3, e4, e5, e6⟩ := hS
          go_simp
          try with_reducible rfl
        conv in (Act.put _ _ _) => simp only [List.getElem_toArray, List.getElem_cons_succ, List.getElem_cons_zero, Act.put, List.setIfInBounds_toArray, List.set_cons_succ, List.set_cons_zero]
        refine wpAnyH_take (i := 14) (v := ?_) rfl (by kernel_rfl) (by kernel_rfl) (by kernel_rfl) (fun _ _ _ h => h) (Or.inl ⟨by kernel_rfl, ?_⟩) HSW.out ?_
        rotate_left
        · intro w hS
          obtain ⟨e1, e2, e3, e4, e5, e6⟩ := hS
          go_simp
          try with_reducible rfl
        conv in (Act.put _ _ _) => simp only [List.getElem_toArray, List.getElem_cons_succ, List.getElem_cons_zero, Act.put, List.setIfInBounds_toArray, List.set_cons_succ, List.set_cons_zero]
        refine wpAnyH_take (i := 15) (v := ?_) rfl (by kernel_rfl) (by kernel_rfl) (by kernel_rfl) (fun _ _ _ h => h) (Or.inl ⟨by kernel_rfl, ?_⟩) HSW.out ?_
        rotate_left
        · intro w hS
          obtain ⟨e1, e2, e3, e4, e5, e6⟩ := hS
          go_simp
          try with_reducible rfl
        conv in (Act.put _ _ _) => simp only [List.getElem_toArray, List.getElem_cons_succ, List.getElem_cons_zero, Act.put, List.setIfInBounds_toArray, List.set_cons_succ, List.set_cons_zero]
        have HJ3 : Hid (LJ l w k X Y L W2) := HJ2
        have HS2 := HSW.out
        obtain ⟨z0, z1, z2, f0, f1, f2⟩ := cell_facts HG2.out
        obtain ⟨h3, b3⟩ := put_cell HG2.out (.int .u32 (fx : Int)) (.int .u32 (fy : Int)) (.int .i64 (lv : Int))
        have HJ4 : Hid (LJ l w k X Y L (((W2.setCell ⟨g6, 0, none⟩ (.int .u32 (fx : Int))).setCell ⟨g6, 1, none⟩ (.int .u32 (fy : Int))).setCell ⟨g6, 2, none⟩ (.int .i64 (lv : Int)))) := HJ3.out.next b3 hg6
        have HG4 : Hid _ := h3
        replace HSW : Hid (LS b off wr.heap.size xx yy ⟨id, x, y, v⟩ (((W2.setCell ⟨g6, 0, none⟩ (.int .u32 (fx : Int))).setCell ⟨g6, 1, none⟩ (.int .u32 (fy : Int))).setCell ⟨g6, 2, none⟩ (.int .i64 (lv : Int)))) := HSW.out.same (b3.block _ (by omega)) (b3.block _ (by omega))
        clear h3 b3 HS2
        refine readyH 17 _ (by kernel_rfl) rfl (by kernel_rfl) (fun K hK => ?_)
        go_simp
        refine hK _ _ HSW.out ?_
        clear hK K f0 f1 f2 z0 z1 z2
        obtain ⟨W3, hW3⟩ : ∃ W3, ((W2.setCell ⟨g6, 0, none⟩ (.int .u32 (fx : Int))).setCell ⟨g6, 1, none⟩ (.int .u32 (fy : Int))).setCell ⟨g6, 2, none⟩ (.int .i64 (lv : Int)) = W3 := ⟨_, rfl⟩
        rw [hW3] at HJ4 HG4 HSW ⊢
        clear hW3 HJ3 HJ2 HG2
        refine wpAnyH_take (i := 18) (v := ?_) rfl (by kernel_rfl) (by kernel_rfl) (by kernel_rfl) (fun _ _ _ h => h) (Or.inl ⟨by kernel_rfl, ?_⟩) HSW.out ?_
        rotate_left
        · intro w hS
          obtain ⟨e1, e2, e3, e4, e5, e6⟩ := hS
          go_simp
          try with_reducible rfl
        conv in (Act.put _ _ _) => simp only [List.getElem_toArray, List.getElem_cons_succ, List.getElem_cons_zero, Act.put, List.setIfInBounds_toArray, List.set_cons_succ, List.set_cons_zero]
        refine wpAnyH_done (by kernel_rfl) ?_ _
        clear HSW
        rename_i hKK
        refine hKK _ _ ?_
        clear hKK
        obtain ⟨y0, y1, y2, f0, f1, f2⟩ := cell_facts HG4.out
        clear y0 y1 y2
        obtain ⟨z0, z1, z2, t0, t1, t2⟩ := cell_facts HJ4.out.out
        clear HG4
        obtain ⟨zk, hzk⟩ : ∃ zk : Int, (k : Int) = zk := ⟨_, rfl⟩
        have HZ : Hid ((k : Int) = zk) := hzk
        have hq5 : zk = 0 ↔ k = 0 := by omega
        rw [hzk] at k0 k1 q1 ⊢
        clear hzk
        by_cases hk0 : k = 0
        · have q5 : (zk == 0) = true := by rw [beq_iff_eq]; exact hq5.2 hk0
          have HL : Hid _ := HP.out W3 HJ4.out (fun h => absurd h (by omega))
          clear hk0 hq5
          go_wp2_with fail
          go_roundw
          case rel => exact ⟨k + 1, by omega, by rw [← HZ.out]; go_num, _, _, _, HL.out⟩
          case measure => rw [← HZ.out]; simp [natOf]; omega
        · have q5 : (zk == 0) = false := by rw [beq_eq_false_iff_ne]; exact fun e => hk0 (hq5.1 e)
          by_cases hlv : L < lv
          · have q6 : decide (L < lv) = true := decide_eq_true hlv
            have HL : Hid _ := HP.out W3 HJ4.out (fun _ => hlv)
            clear hk0 hlv hq5
            go_wp2_with fail
            go_roundw
            case rel => exact ⟨k + 1, by omega, by rw [← HZ.out]; go_num, _, _, _, HL.out⟩
            case measure => rw [← HZ.out]; simp [natOf]; omega
          · have q6 : decide (L < lv) = false := decide_eq_false hlv
            have HL : Hid _ := HKp.out W3 HJ4.out (by omega) (by omega)
            clear hk0 hlv hq5
            go_wp2_with fail
            go_roundw
            case rel => exact ⟨k + 1, by omega, by rw [← HZ.out]; go_num, _, _, _, HL.out⟩
            case measure => rw [← HZ.out]; simp [natOf]; omega
    · obtain rfl : k = l.length := by omega
      have q1 : ¬ (l.length : Int) < (l.length : Int) := by omega
      obtain ⟨z0, z1, z2, f0, f1, f2⟩ := cell_facts HJ.out.res
      obtain ⟨_, _, _, t0, t1, t2⟩ := cell_facts HJ.out.out
      obtain ⟨a1, a2, a3⟩ := HJ.out.is hne
      rw [List.take_length] at a1
      obtain ⟨h3, b3⟩ := put_cell HJ.out.res (.int .u32 (X : Int)) (.int .u32 (Y : Int)) (.int .i64 (L : Int))
      have H3 : Hid _ := h3
      have B3 : Hid (Below w.heap.size w _) := HJ.out.bel.trans b3
      have HX : Hid (cv X Y (L : Int) = cv (cx l) (cy l) (lev l)) := by
        refine (?_ : cv X Y (L : Int) = cv (cx l) (cy l) (lev l))
        rw [a2, a3, a1]; rfl
      clear hj h3 b3 a1 a2 a3
      go_wp2_with fail
      refine bodyPost_ret (results_c1 rfl _ _ _ _ _ _ rfl H3.out) rfl ⟨by rw [HX.out], B3.out⟩
end Go.Proofs.Ytimdlohdmddnjaa.Rq
/- A region that reads, in whatever order, and writes at its end. -/
namespace Go.Proofs.Ytimdlohdmddnjaa.Rq
open Go.RowKit
section
variable {P : Program} {ops : Array Oper} {Q : Exit → Act → World → Prop} {md : Region.Mode} {S : World → Prop}
/-- Whatever order is picked; behind each operation but the last one a condition holds of the world. -/
def wpLast (P : Program) (md : Region.Mode) (ops : Array Oper) (Q : Exit → Act → World → Prop) (S : World → Prop) (z : Nat) : Nat → Array Bool → Act → World → Prop
  | 0, listed, a, w => Region.ready md ops listed = [] ∧ Q .normal a w
  | fuel + 1, listed, a, w =>
    (Region.ready md ops listed = [] → Q .normal a w) ∧
    ∀ i ∈ Region.ready md ops listed, wpOp P ops Q i (fun a' w' => (i ≠ z → S w') ∧ wpLast P md ops Q S z fuel (listed.setIfInBounds i true) a' w') a w
/-- The last one waits for another one. -/
def waitsOn (md : Region.Mode) (ops : Array Oper) (z j : Nat) : Bool :=
  match ops[z]? with
  | some oz => oz.after.any fun e => e.on == j && Region.binds md e
  | none => false
theorem last_waits {z j : Nat} {listed : Array Bool} (h : waitsOn md ops z j = true) (hz : z ∈ Region.ready md ops listed) : listed.getD j false = true := by
  obtain ⟨_, oz, ho, hall⟩ := mem_ready.1 hz
  unfold waitsOn at h
  rw [ho] at h
  simp only [Array.any_eq_true, Bool.and_eq_true, beq_iff_eq] at h
  obtain ⟨k, hk, h1, h2⟩ := h
  rw [← h1]
  exact hall _ (Array.getElem_mem hk) h2
theorem wpLast_first {z i : Nat} (hwz : waitsOn md ops z i = true) {oi : Oper} {v : Value} (hi : ops[i]? = some oi) (hsel : ∀ (j : Nat) (o : Oper) cs b, ops[j]? = some o → o.op ≠ .select cs b)
    (hQ : ∀ c a w, Q (.panic c) (a.put oi.dst v) w → Q (.panic c) a w) :
    ∀ (fuel : Nat) (listed : Array Bool) (a : Act) (w : World),
      (∀ j oj, ops[j]? = some oj → j ≠ i → listed.getD j true = false → (∀ e ∈ oj.after, Region.binds md e = true → e.on ≠ i) → oi.apart ops oj = true) →
      i ∈ Region.ready md ops listed → YieldsIf P ops S oi v a → S w →
      wpLast P md ops Q S z fuel (listed.setIfInBounds i true) (a.put oi.dst v) w → wpLast P md ops Q S z (fuel + 1) listed a w := by
  intro fuel
  induction fuel with
  | zero =>
    intro listed a w _ hr hy hS H
    refine ⟨fun h => (by rw [h] at hr; cases hr), fun j hj => ?_⟩
    by_cases hji : j = i
    · subst hji; exact hy.wpOp hi hS ⟨fun _ => hS, H⟩
    · have := ready_mono hj hji
      rw [H.1] at this
      cases this
  | succ fuel ih =>
    intro listed a w hfree hr hy hS H
    refine ⟨fun h => (by rw [h] at hr; cases hr), fun j hj => ?_⟩
    by_cases hji : j = i
    · subst hji; exact hy.wpOp hi hS ⟨fun _ => hS, H⟩
    · have hjz : j ≠ z := fun e => by
        subst e
        have h1 := last_waits hwz hj
        have h0 := (mem_ready.1 hr).1
        rcases Nat.lt_or_ge i listed.size with h' | h'
        · simp [h'] at h0 h1; rw [h0] at h1; cases h1
        · simp [Array.getElem?_eq_none h'] at h1
      have h1 := H.2 j (ready_mono hj hji)
      obtain ⟨hjun, oj, hoj, hall⟩ := mem_ready.1 hj
      have hnot : ∀ e ∈ oj.after, Region.binds md e = true → e.on ≠ i := fun e he hb heq => by
        have h1 := hall e he hb
        have h0 := (mem_ready.1 hr).1
        rw [heq] at h1
        rcases Nat.lt_or_ge i listed.size with h' | h'
        · simp [h'] at h0 h1; rw [h0] at h1; cases h1
        · simp [Array.getElem?_eq_none h'] at h1
      have h2 := wpOp_putIf hoj (hfree j oj hoj hji hjun hnot) (fun cs b => hsel i oi cs b hi) (fun cs b => hsel j oj cs b hoj) hQ hy h1
      have hfree' : ∀ k ok, ops[k]? = some ok → k ≠ i → (listed.setIfInBounds j true).getD k true = false →
          (∀ e ∈ ok.after, Region.binds md e = true → e.on ≠ i) → oi.apart ops ok = true := fun k ok hk hki hun hno => by
        refine hfree k ok hk hki ?_ hno
        by_cases hjk : j = k
        · subst hjk; exact hjun
        · rw [getD_set_ne true hjk] at hun; exact hun
      refine wpOp_mono (fun a' w' h3 => ⟨fun _ => h3.2.1 hjz, ih (listed.setIfInBounds j true) a' w' hfree' (ready_mono hr (Ne.symm hji)) h3.1 (h3.2.1 hjz) ?_⟩) h2
      rw [Array.setIfInBounds_comm _ _ hji]
      exact h3.2.2
theorem wpLast_take {z i : Nat} (hwz : waitsOn md ops z i = true) {oi : Oper} {v : Value} {fuel : Nat} {listed : Array Bool} {a : Act} {w : World} (hi : ops[i]? = some oi)
    (hs : Region.noSelect ops = true) (hf : Region.free md ops listed i = true) (hr : (Region.ready md ops listed).contains i = true)
    (hQ : ∀ c a w, Q (.panic c) (a.put oi.dst v) w → Q (.panic c) a w) (hy : YieldsIf P ops S oi v a) (hS : S w)
    (h : wpLast P md ops Q S z fuel (listed.setIfInBounds i true) (a.put oi.dst v) w) : wpLast P md ops Q S z (fuel + 1) listed a w :=
  wpLast_first hwz hi (Region.noSelect_spec hs) hQ fuel listed a w (Region.free_spec hi hf) (by simpa using hr) hy hS h
/-- The last one. -/
theorem wpLast_end {z : Nat} {oz : Oper} {listed : Array Bool} {a : Act} {w : World} (ho : ops[z]? = some oz) (hr : Region.ready md ops listed = [z]) (hr2 : Region.ready md ops (listed.setIfInBounds z true) = [])
    (hw : Region.wanted oz (yielded ops a.tmps) = true) (h : oz.wp P a w (fun a' w' => Q .normal a' w') Q) : wpLast P md ops Q S z 1 listed a w := by
  refine ⟨fun h0 => (by rw [hr] at h0; cases h0), fun i hi => ?_⟩
  rw [hr, List.mem_singleton] at hi
  subst hi
  unfold wpOp
  simp only [ho, hw, if_true]
  exact .inl (Oper.wp_mono (fun a' w' hq => ⟨fun e => absurd rfl e, hr2, hq⟩) h)
theorem any_of_last {z : Nat} : ∀ (fuel : Nat) (listed : Array Bool) (a : Act) (w : World), wpLast P md ops Q S z fuel listed a w → wpAny P md ops Q fuel listed a w
  | 0, _, _, _, h => h
  | fuel + 1, _, _, _, h => ⟨h.1, fun i hi => wpOp_mono (fun a w hq => any_of_last fuel _ a w hq.2) (h.2 i hi)⟩
theorem region_lastP {z id : Nat} {a : Act} {w : World} (hm : P.follows .mixedOrders = true) (h : wpLast P .any ops Q S z ops.size (Array.replicate ops.size false) a w.drew) : (Code.region id ops true).wp P Q a w :=
  wp_region_any hm (any_of_last _ _ _ _ h)
/-- One alone may come up, and it is wanted. -/
theorem readyL {z fuel : Nat} {listed : Array Bool} {a : Act} {w : World} (k : Nat) (o : Oper) (hr : Region.ready md ops listed = [k]) (ho : ops[k]? = some o) (hw : Region.wanted o (yielded ops a.tmps) = true)
    (h : ∀ K : Act → World → Prop, (∀ a w, S w → wpLast P md ops Q S z fuel (listed.setIfInBounds k true) a w → K a w) → Oper.wp P o a w K Q) : wpLast P md ops Q S z (fuel + 1) listed a w := by
  refine ⟨fun h0 => (by rw [hr] at h0; cases h0), fun j hj => ?_⟩
  rw [hr, List.mem_singleton] at hj
  subst hj
  unfold wpOp
  simp only [ho, hw, if_true]
  exact .inl (h _ fun a w h1 h2 => ⟨fun _ => h1, h2⟩)
/-- The built-in append, by its run. -/
theorem op_append {o : Oper} {a : Act} {w : World} {K : Act → World → Prop} (t u : TypeId) (s x : Operand) (ho : o.op = .call { callee := .builtin .append, args := #[s, x], argTypes := #[t, u] })
    {vs vx v' : Value} {w' : World} (hs : a.eval s = vs) (hx : a.eval x = vx) (hrun : (Builtin.append_ #[t, u] o.type #[vs, vx]).run P w = .ok v' w') (hK : K (a.put o.dst v') w') : Oper.wp P o a w K Q := by
  unfold Oper.wp execOp
  simp only [ho, resolve, invoke, builtin, Sem.run_bind, Sem.run_pure, Result.andThen_ok, List.map_toArray, List.map_cons, List.map_nil, hs, hx, hrun]
  exact hK
end
end Go.Proofs.Ytimdlohdmddnjaa.Rq
