/- Quarter. -/
import Derived.Test.YtaiiclkfnahghaaPCL
namespace Go.Proofs.Ytaiiclkfnahghaa.Rc
open Go.RowKit Go.Shelf Go.Lib
attribute [local go_sem] Oper.semAt_some
/-- What Quarter keeps: the cell, the number, and what it tells. -/
structure QB (w : World) (X Y : Nat) (L i : Int) (x y : Nat) (l e : Int) (W : World) : Prop where
  cel : W.heap[w.heap.size]? = some (.cells #[.int .u32 (X : Int), .int .u32 (Y : Int), .int .i64 L] 30 (0, 0))
  num : W.heap[w.heap.size + 1]? = some (.cells #[.int .i64 i] 3 (0, 0))
  res : W.heap[w.heap.size + 2]? = some (.cells #[.int .u32 (x : Int), .int .u32 (y : Int), .int .i64 l] 30 (0, 0))
  err : W.heap[w.heap.size + 3]? = some (.cells #[.int .i64 e] 34 (0, 0))
  bel : Below w.heap.size w W
set_option maxRecDepth 100000 in
theorem QB.next {w : World} {X Y : Nat} {L i : Int} {x y : Nat} {l e : Int} {W W' : World} {B : Nat} (h : QB w X Y L i x y l e W) (hb : Below B W W') (hB : w.heap.size + 4 ≤ B) : QB w X Y L i x y l e W' :=
  ⟨(hb.block _ (by omega)).trans h.cel, (hb.block _ (by omega)).trans h.num, (hb.block _ (by omega)).trans h.res, (hb.block _ (by omega)).trans h.err, h.bel.trans (hb.mono (by omega))⟩
set_option maxRecDepth 100000 in
theorem QB.size {w : World} {X Y : Nat} {L i : Int} {x y : Nat} {l e : Int} {W : World} (h : QB w X Y L i x y l e W) : w.heap.size + 4 ≤ W.heap.size := (Array.getElem?_eq_some_iff.1 h.err).1
set_option maxRecDepth 100000 in
theorem four_new (w : World) (a b c d : Obj) : ((((w.alloc a).alloc b).alloc c).alloc d).heap[w.heap.size]? = some a ∧ ((((w.alloc a).alloc b).alloc c).alloc d).heap[w.heap.size + 1]? = some b ∧ ((((w.alloc a).alloc b).alloc c).alloc d).heap[w.heap.size + 2]? = some c ∧ ((((w.alloc a).alloc b).alloc c).alloc d).heap[w.heap.size + 3]? = some d ∧ Below w.heap.size w ((((w.alloc a).alloc b).alloc c).alloc d) := by
  obtain ⟨h1, h2, h3⟩ := two_new w a b
  obtain ⟨h4, h5, h6⟩ := two_new ((w.alloc a).alloc b) c d
  have s : ((w.alloc a).alloc b).heap.size = w.heap.size + 2 := by simp
  rw [s] at h4 h5 h6
  exact ⟨(h6.block _ (by omega)).trans h1, (h6.block _ (by omega)).trans h2, h4, h5, h3.trans (h6.mono (by omega))⟩
set_option maxRecDepth 100000 in
theorem qb_new (w : World) (X Y : Nat) (L i : Int) : QB w X Y L i 0 0 0 0 ((((w.alloc (.cells #[.int .u32 (X : Int), .int .u32 (Y : Int), .int .i64 L] 30)).alloc (.cells #[.int .i64 i] 3)).alloc (.cells #[.int .u32 0, .int .u32 0, .int .i64 0] 30)).alloc (.cells #[.int .i64 0] 34)) := by
  obtain ⟨h1, h2, h3, h4, h5⟩ := four_new w (.cells #[.int .u32 (X : Int), .int .u32 (Y : Int), .int .i64 L] 30) (.cells #[.int .i64 i] 3) (.cells #[.int .u32 0, .int .u32 0, .int .i64 0] 30) (.cells #[.int .i64 0] 34)
  exact ⟨h1, h2, h3, h4, h5⟩
set_option maxRecDepth 100000 in
/-- What Quarter tells is laid. -/
theorem QB.put {w : World} {X Y : Nat} {L i : Int} {x y : Nat} {l e : Int} {W : World} (h : QB w X Y L i x y l e W) (x' y' : Nat) (l' e' : Int) :
    QB w X Y L i x' y' l' e' ((((W.setCell ⟨w.heap.size + 2, 0, none⟩ (.int .u32 (x' : Int))).setCell ⟨w.heap.size + 2, 1, none⟩ (.int .u32 (y' : Int))).setCell ⟨w.heap.size + 2, 2, none⟩ (.int .i64 l')).setCell ⟨w.heap.size + 3, 0, none⟩ (.int .i64 e')) := by
  have hs := h.size
  obtain ⟨h2, b2⟩ := put_cell h.res (.int .u32 (x' : Int)) (.int .u32 (y' : Int)) (.int .i64 l')
  have h3 : ((((W.setCell ⟨w.heap.size + 2, 0, none⟩ (.int .u32 (x' : Int))).setCell ⟨w.heap.size + 2, 1, none⟩ (.int .u32 (y' : Int))).setCell ⟨w.heap.size + 2, 2, none⟩ (.int .i64 l'))).heap[w.heap.size + 3]? = some (.cells #[.int .i64 e] 34 (0, 0)) :=
    (Below.heap_setCell _ _ _ _ (by simp)).trans ((Below.heap_setCell _ _ _ _ (by simp)).trans ((Below.heap_setCell _ _ _ _ (by simp)).trans h.err))
  have h4 := heap_setCell_same _ _ 0 _ _ (.int .i64 e') h3
  have b4 := grown_below (B := w.heap.size + 3) (gb_set (((W.setCell ⟨w.heap.size + 2, 0, none⟩ (.int .u32 (x' : Int))).setCell ⟨w.heap.size + 2, 1, none⟩ (.int .u32 (y' : Int))).setCell ⟨w.heap.size + 2, 2, none⟩ (.int .i64 l')) (w.heap.size + 3) 0 (.int .i64 e')) (Nat.le_refl _) (by simp [World.setCell]; omega)
  exact ⟨(b4.block _ (by omega)).trans ((b2.block _ (by omega)).trans h.cel), (b4.block _ (by omega)).trans ((b2.block _ (by omega)).trans h.num), (b4.block _ (by omega)).trans h2, h4, h.bel.trans ((b2.mono (by omega)).trans (b4.mono (by omega)))⟩
set_option maxRecDepth 100000 in
theorem results_cc {fn : Func} {p u : Tmp} (h : fn.results = #[.cell p 30, .cell u 34]) (tmps : Array Value) {w W : World} {X Y : Nat} {L i : Int} {x y : Nat} {l e : Int} (q : QB w X Y L i x y l e W)
    (hp : tmps.getD p undef = .pointer (some ⟨w.heap.size + 2, 0, none⟩)) (hu : tmps.getD u undef = .pointer (some ⟨w.heap.size + 3, 0, none⟩)) : (results fn tmps).run Try.prog W = .ok (.tuple #[cv x y l, .int .i64 e]) W := by
  have hp' : tmps[p]?.getD undef = .pointer (some ⟨w.heap.size + 2, 0, none⟩) := by simpa using hp
  have hu' : tmps[u]?.getD undef = .pointer (some ⟨w.heap.size + 3, 0, none⟩) := by simpa using hu
  have hc : W.cell? ⟨w.heap.size + 3, 0, none⟩ = some (.int .i64 e) := by rw [cell_of_row _ _ _ _ _ _ q.err]; rfl
  obtain ⟨_, _, _, d0, d1, d2⟩ := cell_facts q.res
  simp [results, h, hp', hu', go_sem, hc, d0, d1, d2]
/-- The walk is k quarters on: none was it. -/
def QJ (w : World) (X Y : Nat) (L i : Int) (k : Nat) (W : World) : Prop := (∀ j : Nat, j < k → (j : Int) ≠ i) ∧ QB w X Y L i 0 0 0 0 W
def QX (w : World) (X xr Y yr : Nat) (L i : Int) (m : Nat) (W : World) : Prop := ∃ k : Nat, k < 4 ∧ (k : Int) = i ∧ QB w X Y L i (qx X xr k) (qy Y yr k) (m : Int) 0 W
end Go.Proofs.Ytaiiclkfnahghaa.Rc
