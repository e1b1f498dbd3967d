/- Texts filled up; the example. -/
import Derived.Laws.BytesArg
import Derived.Laws.IdiomStrings
import Derived.Laws.StructEq
import Derived.Test.YtheheaflebkipaaGreatDoorQDG
import Derived.Test.YtheheaflebkipaaGreatDoorQDA
namespace Go.Proofs.YtheheaflebkipaaGreatDoor.Rd
open Go.RowKit
set_option maxRecDepth 100000 in
theorem info5 : (Tryz.prog.info? 5).map (fun i => (i.zero, i.size, i.bytes)) = some (some (.int .u8 0), 1, 1) := by kernel_rfl
set_option maxRecDepth 100000 in
theorem zs_nums (n : Nat) : strOfNums (List.replicate n 0) = zs n := by
  unfold strOfNums zs; rw [List.map_replicate]; rfl
set_option maxRecDepth 100000 in
set_option maxHeartbeats 1000000 in
theorem rzeros_any (n : Nat) (hn : n ≤ 1000000) (w : World) :
    Calls Tryz.prog 61 #[.int .i64 (n : Int)] w fun e w' => e = .returned (.string (zs n)) ∧ Below w.heap.size w w' := by
  have hmk := run_make_row' (P := Tryz.prog) 70 5 (.int .u8 0) 1 Tryz.underlying70 info5 rfl .i64 .i64 n (by omega) (by omega) w
  have hcv : (convert 70 9 (.slice (some ⟨w.heap.size, 0, none⟩) n n)).run Tryz.prog (w.alloc (.cells (madeCells #[.int .u8 0] n) 5)) = .ok (.string (zs n)) (w.alloc (.cells (madeCells #[.int .u8 0] n) 5)) := by
    rw [← zs_nums]
    refine run_convert_bytes_arg _ 70 5 Tryz.underlying70 Tryz.underlying5 w.heap.size 0 n n _ (by simp) (fun i hi => ?_) 9 Tryz.underlying9
    rw [Nat.zero_add, cell_of_row _ _ _ _ _ _ (heap_alloc_new w _)]
    simp [madeCells, hi, Nat.mod_one, List.getD]
  have B1 : Hid (Below w.heap.size w (w.alloc (.cells (madeCells #[.int .u8 0] n) 5))) := below_new w _
  obtain ⟨W, hW⟩ : ∃ W, w.alloc (.cells (madeCells #[.int .u8 0] n) 5) = W := ⟨_, rfl⟩
  rw [hW] at hmk hcv B1
  clear hW
  generalize hz : zs n = z at *
  go_enter Tryz.func61, Tryz.ntmps61
  go_wp2_with fail
  go_ret
  exact ⟨rfl, B1.out⟩
end Go.Proofs.YtheheaflebkipaaGreatDoor.Rd
/- The document's own device: how it lies in memory; its calls, but for those with loops. -/
namespace Go.Proofs.YtheheaflebkipaaGreatDoor.Rd
open Go.RowKit
/-- A row of texts, at the head of a block. -/
def Tx (w : World) (g n : Nat) (f : Nat → ByteArray) : Prop := ∃ cs, w.heap[g]? = some (.cells cs 9 (0, 0)) ∧ n ≤ cs.size ∧ ∀ i, i < n → cs[i]? = some (.string (f i))
/-- A row of marks. -/
def Bl (w : World) (g n : Nat) (f : Nat → Bool) : Prop := ∃ cs, w.heap[g]? = some (.cells cs 4 (0, 0)) ∧ n ≤ cs.size ∧ ∀ i, i < n → cs[i]? = some (.bool (f i))
set_option maxRecDepth 100000 in
theorem Tx.lt {w : World} {g n : Nat} {f : Nat → ByteArray} (h : Tx w g n f) : g < w.heap.size := by
  obtain ⟨cs, h1, h2⟩ := h
  exact (Array.getElem?_eq_some_iff.1 h1).1
set_option maxRecDepth 100000 in
theorem Bl.lt {w : World} {g n : Nat} {f : Nat → Bool} (h : Bl w g n f) : g < w.heap.size := by
  obtain ⟨cs, h1, h2⟩ := h
  exact (Array.getElem?_eq_some_iff.1 h1).1
set_option maxRecDepth 100000 in
theorem Tx.same {w w' : World} {g n : Nat} {f : Nat → ByteArray} (h : Tx w g n f) (e : w'.heap[g]? = w.heap[g]?) : Tx w' g n f := by
  obtain ⟨cs, h1, h2⟩ := h
  exact ⟨cs, e.trans h1, h2⟩
set_option maxRecDepth 100000 in
theorem Bl.same {w w' : World} {g n : Nat} {f : Nat → Bool} (h : Bl w g n f) (e : w'.heap[g]? = w.heap[g]?) : Bl w' g n f := by
  obtain ⟨cs, h1, h2⟩ := h
  exact ⟨cs, e.trans h1, h2⟩
/-- Where the rows lie. -/
structure Rp where
  l : Nat
  p : Nat
  b : Nat
  lc : Nat
  pc : Nat
  bc : Nat
/-- What is pending, as a text. -/
def pend (f : Nat → Option ByteArray) (i : Nat) : ByteArray := (f i).getD ⟨#[]⟩
/-- How many operations are left, below 0 if there is no cut. -/
def lft (s : St) : Int := if s.cut then s.left else -1
/-- The cells of the document's device. -/
def rcells (x : Rp) (s : St) : Array Value := #[.slice (some ⟨x.l, 0, none⟩) s.n x.lc, .slice (some ⟨x.p, 0, none⟩) s.n x.pc, .slice (some ⟨x.b, 0, none⟩) s.n x.bc, .int .u64 s.cnt, .string s.tag, .int .u32 s.boots, .int .i64 (lft s), .bool s.ended]
/-- The document's device in memory. -/
structure Rf (w : World) (r : Nat) (x : Rp) (s : St) : Prop where
  self : w.heap[r]? = some (.cells (rcells x s) 89 (0, 0))
  rl : Tx w x.l s.n s.tx
  rp : Tx w x.p s.n (pend s.pd)
  rb : Bl w x.b s.n s.bad
  n1 : r ≠ x.l
  n2 : r ≠ x.p
  n3 : r ≠ x.b
  n4 : x.l ≠ x.p
  n5 : x.l ≠ x.b
  n6 : x.p ≠ x.b
/-- Its own blocks. -/
def Rv (r : Nat) (x : Rp) (k : Nat) : Prop := k = r ∨ k = x.l ∨ k = x.p ∨ k = x.b
set_option maxRecDepth 100000 in
theorem Rf.lt {w : World} {r : Nat} {x : Rp} {s : St} (h : Rf w r x s) : r < w.heap.size ∧ x.l < w.heap.size ∧ x.p < w.heap.size ∧ x.b < w.heap.size :=
  ⟨(Array.getElem?_eq_some_iff.1 h.self).1, h.rl.lt, h.rp.lt, h.rb.lt⟩
set_option maxRecDepth 100000 in
theorem Rf.same {w w' : World} {r : Nat} {x : Rp} {s : St} (h : Rf w r x s) (e : ∀ k, Rv r x k → w'.heap[k]? = w.heap[k]?) : Rf w' r x s :=
  ⟨(e _ (.inl rfl)).trans h.self, h.rl.same (e _ (.inr (.inl rfl))), h.rp.same (e _ (.inr (.inr (.inl rfl)))), h.rb.same (e _ (.inr (.inr (.inr rfl)))), h.n1, h.n2, h.n3, h.n4, h.n5, h.n6⟩
set_option maxRecDepth 100000 in
theorem Rf.own {w : World} {r : Nat} {x : Rp} {s : St} (h : Rf w r x s) {k : Nat} (hk : Rv r x k) : k < w.heap.size := by
  have := h.lt
  rcases hk with rfl | rfl | rfl | rfl <;> omega
set_option maxRecDepth 100000 in
theorem Rf.below {w w' : World} {r B : Nat} {x : Rp} {s : St} (h : Rf w r x s) (k : Below B w w') (hB : w.heap.size ≤ B) : Rf w' r x s :=
  h.same fun j hj => k.block j (by have := h.own hj; omega)
end Go.Proofs.YtheheaflebkipaaGreatDoor.Rd
