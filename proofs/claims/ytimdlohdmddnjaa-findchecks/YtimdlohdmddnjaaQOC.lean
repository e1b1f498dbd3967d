/- The kinds of queries, in a map. -/
import Derived.Test.YtimdlohdmddnjaaPOA
import Derived.MapKept
namespace Go.Proofs.Ytimdlohdmddnjaa.Rf
open Go.RowKit Go.Lib
open Go.ChangeMaps (setBlock)
open Go.Proofs.Ytimdlohdmddnjaa.Rc
set_option maxRecDepth 100000 in
theorem map_new {w : World} {m : Nat} {es : Array MapEntry} {cl : Nat} (h : w.heap[m]? = some (.map es cl)) (hks : ∀ e ∈ es.toList, MapKept.IsKey (.int .i64) e.key) (p : Int) (v : Value) (hn : ∀ e ∈ es.toList, e.key ≠ .int .i64 p) :
  (Instr.mapUpdate 57 (.map (some m)) (.int .i64 p) v).run Try.prog w = .ok () (setBlock w m (.map (es.push ⟨.int .i64 p, v, cl⟩) (cl + 1))) := by
 have hk : MapKept.IsKey (.int .i64) (.int .i64 p) := rfl
 rcases MapKept.findNow_spec hk es.toList 0 hks with ⟨k1, k2⟩ | ⟨j, e0, k1, k2, k3⟩
 ·have fk := MapKept.run_findKey (w := w) Try.underlying3 k1
  simp only [Instr.mapUpdate, Sem.run_bind, run_underlying Try.underlying57, MapKept.run_getObj_map h, MapKept.run_checkKey Try.underlying3 hk _ 9999, fk, Result.andThen, MapKept.run_setObj_map _ h]
  rfl
 ·exact absurd k3 (hn e0 (List.mem_of_getElem? k2))
set_option maxRecDepth 100000 in
theorem map_look {w : World} {m : Nat} {es : Array MapEntry} {cl : Nat} (h : w.heap[m]? = some (.map es cl)) (hks : ∀ e ∈ es.toList, MapKept.IsKey (.int .i64) e.key) (p : Int) :
  (∃ e ∈ es.toList, e.key = .int .i64 p ∧ (Instr.lookup 57 (.map (some m)) (.int .i64 p) true).run Try.prog w = .ok (.tuple #[e.val, .bool true]) w) ∨
  ((∀ e ∈ es.toList, e.key ≠ .int .i64 p) ∧ (Instr.lookup 57 (.map (some m)) (.int .i64 p) true).run Try.prog w = .ok (.tuple #[.nilFunc, .bool false]) w) := by
 have hk : MapKept.IsKey (.int .i64) (.int .i64 p) := rfl
 rcases MapKept.findNow_spec hk es.toList 0 hks with ⟨k1, k2⟩ | ⟨j, e0, k1, k2, k3⟩
 ·have fk := MapKept.run_findKey (w := w) Try.underlying3 k1
  have hz : (zeroValue 55).run Try.prog w = .ok .nilFunc w := Try.zeroValue55 w
  refine .inr ⟨k2, ?_⟩
  simp only [Instr.lookup, Sem.run_bind, run_underlying Try.underlying57, MapKept.run_getObj_map h, MapKept.run_checkKey Try.underlying3 hk _ 9999, fk, hz, Result.andThen, Sem.run_pure]
  rfl
 ·have fk := MapKept.run_findKey (w := w) Try.underlying3 k1
  refine .inl ⟨e0, List.mem_of_getElem? k2, k3, ?_⟩
  simp only [Instr.lookup, Sem.run_bind, run_underlying Try.underlying57, MapKept.run_getObj_map h, MapKept.run_checkKey Try.underlying3 hk _ 9999, fk, Result.andThen, Sem.run_pure]
  rfl
set_option maxRecDepth 100000 in
theorem sb_same {w : World} {m : Nat} {o o' : Obj} (h : w.heap[m]? = some o) : (setBlock w m o').heap[m]? = some o' := by
 have hl := (Array.getElem?_eq_some_iff.1 h).1
 simp [setBlock, hl]
set_option maxRecDepth 100000 in
theorem sb_other {w : World} {m j : Nat} {o : Obj} (h : j ≠ m) : (setBlock w m o).heap[j]? = w.heap[j]? := by
 simp [setBlock, Ne.symm h]
set_option maxRecDepth 100000 in
theorem sb_size (w : World) (m : Nat) (o : Obj) : (setBlock w m o).heap.size = w.heap.size := by simp [setBlock]
def kmap (g : Nat) : Array MapEntry := #[⟨.int .i64 1, .func (.func 50) #[] #[.pointer (some ⟨g, 0, none⟩)], 0⟩, ⟨.int .i64 2, .func (.func 51) #[] #[.pointer (some ⟨g, 0, none⟩)], 1⟩, ⟨.int .i64 3, .func (.func 52) #[] #[.pointer (some ⟨g, 0, none⟩)], 2⟩, ⟨.int .i64 4, .func (.func 53) #[] #[], 3⟩]
set_option maxRecDepth 100000 in
set_option maxHeartbeats 2000000 in
theorem kinds_any (q : Qr) (w : World) :
  Calls Try.prog 24 #[qv q] w fun e w' => ∃ m, e = .returned (.map (some m)) ∧ w.heap.size < m ∧ w'.heap[m]? = some (.map (kmap w.heap.size) 4) ∧ w'.heap[w.heap.size]? = some (qcs q) ∧ Below w.heap.size w w' := by
 have h1 := below_new w (qcs q)
 have h2 := below_new (w.alloc (qcs q)) (.map #[] 0)
 have hgq : ((w.alloc (qcs q)).alloc (.map #[] 0)).heap[w.heap.size]? = some (qcs q) := (h2.block _ (by simp)).trans (heap_alloc_new w _)
 have hgm := heap_alloc_new (w.alloc (qcs q)) (.map #[] 0)
 rw [show (w.alloc (qcs q)).heap.size = w.heap.size + 1 by simp] at hgm
 have hb := h1.trans (h2.mono h1.size)
 obtain ⟨W0, hW0⟩ : ∃ W0, (w.alloc (qcs q)).alloc (.map #[] 0) = W0 := ⟨_, rfl⟩
 rw [hW0] at hgq hgm hb
 obtain ⟨k, a, b, c, d, x, y, sq, K, af, fr⟩ := q
 have hmk : (Instr.makeMap 57 none).run Try.prog (w.alloc (.cells #[.int .i64 k, .int .u32 (a : Int), .int .u32 (b : Int), .int .u32 (c : Int), .int .u32 (d : Int), .int .u32 (x : Int), .int .u32 (y : Int), .int .u64 (sq : Int), .int .i64 K, .int .u64 (af : Int), .bool fr] 27)) = .ok (.map (some (w.heap.size + 1))) W0 := by
  rw [← hW0]
  have : (w.heap.size + 1) = (w.alloc (qcs ⟨k, a, b, c, d, x, y, sq, K, af, fr⟩)).heap.size := by simp
  rw [this]
  rfl
 have u1 := map_new (w := W0) (m := w.heap.size + 1) (es := #[]) (cl := 0) hgm (fun e he => by simp at he) 1 (.func (.func 50) #[] #[.pointer (some ⟨w.heap.size, 0, none⟩)]) (fun e he => by simp at he)
 obtain ⟨W1, hW1⟩ : ∃ W, setBlock W0 (w.heap.size + 1) (.map (#[].push ⟨.int .i64 1, .func (.func 50) #[] #[.pointer (some ⟨w.heap.size, 0, none⟩)], 0⟩) (0 + 1)) = W := ⟨_, rfl⟩
 have g1 : W1.heap[w.heap.size + 1]? = some (.map #[⟨.int .i64 1, .func (.func 50) #[] #[.pointer (some ⟨w.heap.size, 0, none⟩)], 0⟩] 1) := by rw [← hW1]; exact sb_same hgm
 have o1 : ∀ j, j ≠ w.heap.size + 1 → W1.heap[j]? = W0.heap[j]? := fun j hj => by rw [← hW1]; exact sb_other hj
 have b1 : Below w.heap.size w W1 := by
  rw [← hW1]
  exact ⟨hb.os, hb.tape, hb.output, by rw [sb_size]; exact hb.size, fun j hj => (sb_other (by omega)).trans (hb.block j hj)⟩
 rw [hW1] at u1
 have u2 := map_new (w := W1) (m := w.heap.size + 1) (es := #[⟨.int .i64 1, .func (.func 50) #[] #[.pointer (some ⟨w.heap.size, 0, none⟩)], 0⟩]) (cl := 1) g1 (fun e he => by simp at he; first | exact he.elim | (rcases he with rfl | rfl | rfl <;> rfl) | (rcases he with rfl | rfl <;> rfl) | (rw [he]; rfl)) 2 (.func (.func 51) #[] #[.pointer (some ⟨w.heap.size, 0, none⟩)]) (fun e he => by simp at he; first | exact he.elim | (rcases he with rfl | rfl | rfl <;> simp) | (rcases he with rfl | rfl <;> simp) | (rw [he]; simp))
 obtain ⟨W2, hW2⟩ : ∃ W, setBlock W1 (w.heap.size + 1) (.map (#[⟨.int .i64 1, .func (.func 50) #[] #[.pointer (some ⟨w.heap.size, 0, none⟩)], 0⟩].push ⟨.int .i64 2, .func (.func 51) #[] #[.pointer (some ⟨w.heap.size, 0, none⟩)], 1⟩) (1 + 1)) = W := ⟨_, rfl⟩
 have g2 : W2.heap[w.heap.size + 1]? = some (.map #[⟨.int .i64 1, .func (.func 50) #[] #[.pointer (some ⟨w.heap.size, 0, none⟩)], 0⟩, ⟨.int .i64 2, .func (.func 51) #[] #[.pointer (some ⟨w.heap.size, 0, none⟩)], 1⟩] 2) := by rw [← hW2]; exact sb_same g1
 have o2 : ∀ j, j ≠ w.heap.size + 1 → W2.heap[j]? = W1.heap[j]? := fun j hj => by rw [← hW2]; exact sb_other hj
 have b2 : Below w.heap.size w W2 := by
  rw [← hW2]
  exact ⟨b1.os, b1.tape, b1.output, by rw [sb_size]; exact b1.size, fun j hj => (sb_other (by omega)).trans (b1.block j hj)⟩
 rw [hW2] at u2
 have u3 := map_new (w := W2) (m := w.heap.size + 1) (es := #[⟨.int .i64 1, .func (.func 50) #[] #[.pointer (some ⟨w.heap.size, 0, none⟩)], 0⟩, ⟨.int .i64 2, .func (.func 51) #[] #[.pointer (some ⟨w.heap.size, 0, none⟩)], 1⟩]) (cl := 2) g2 (fun e he => by simp at he; first | exact he.elim | (rcases he with rfl | rfl | rfl <;> rfl) | (rcases he with rfl | rfl <;> rfl) | (rw [he]; rfl)) 3 (.func (.func 52) #[] #[.pointer (some ⟨w.heap.size, 0, none⟩)]) (fun e he => by simp at he; first | exact he.elim | (rcases he with rfl | rfl | rfl <;> simp) | (rcases he with rfl | rfl <;> simp) | (rw [he]; simp))
 obtain ⟨W3, hW3⟩ : ∃ W, setBlock W2 (w.heap.size + 1) (.map (#[⟨.int .i64 1, .func (.func 50) #[] #[.pointer (some ⟨w.heap.size, 0, none⟩)], 0⟩, ⟨.int .i64 2, .func (.func 51) #[] #[.pointer (some ⟨w.heap.size, 0, none⟩)], 1⟩].push ⟨.int .i64 3, .func (.func 52) #[] #[.pointer (some ⟨w.heap.size, 0, none⟩)], 2⟩) (2 + 1)) = W := ⟨_, rfl⟩
 have g3 : W3.heap[w.heap.size + 1]? = some (.map #[⟨.int .i64 1, .func (.func 50) #[] #[.pointer (some ⟨w.heap.size, 0, none⟩)], 0⟩, ⟨.int .i64 2, .func (.func 51) #[] #[.pointer (some ⟨w.heap.size, 0, none⟩)], 1⟩, ⟨.int .i64 3, .func (.func 52) #[] #[.pointer (some ⟨w.heap.size, 0, none⟩)], 2⟩] 3) := by rw [← hW3]; exact sb_same g2
 have o3 : ∀ j, j ≠ w.heap.size + 1 → W3.heap[j]? = W2.heap[j]? := fun j hj => by rw [← hW3]; exact sb_other hj
 have b3 : Below w.heap.size w W3 := by
  rw [← hW3]
  exact ⟨b2.os, b2.tape, b2.output, by rw [sb_size]; exact b2.size, fun j hj => (sb_other (by omega)).trans (b2.block j hj)⟩
 rw [hW3] at u3
 have u4 := map_new (w := W3) (m := w.heap.size + 1) (es := #[⟨.int .i64 1, .func (.func 50) #[] #[.pointer (some ⟨w.heap.size, 0, none⟩)], 0⟩, ⟨.int .i64 2, .func (.func 51) #[] #[.pointer (some ⟨w.heap.size, 0, none⟩)], 1⟩, ⟨.int .i64 3, .func (.func 52) #[] #[.pointer (some ⟨w.heap.size, 0, none⟩)], 2⟩]) (cl := 3) g3 (fun e he => by simp at he; first | exact he.elim | (rcases he with rfl | rfl | rfl <;> rfl) | (rcases he with rfl | rfl <;> rfl) | (rw [he]; rfl)) 4 (.func (.func 53) #[] #[]) (fun e he => by simp at he; first | exact he.elim | (rcases he with rfl | rfl | rfl <;> simp) | (rcases he with rfl | rfl <;> simp) | (rw [he]; simp))
 obtain ⟨W4, hW4⟩ : ∃ W, setBlock W3 (w.heap.size + 1) (.map (#[⟨.int .i64 1, .func (.func 50) #[] #[.pointer (some ⟨w.heap.size, 0, none⟩)], 0⟩, ⟨.int .i64 2, .func (.func 51) #[] #[.pointer (some ⟨w.heap.size, 0, none⟩)], 1⟩, ⟨.int .i64 3, .func (.func 52) #[] #[.pointer (some ⟨w.heap.size, 0, none⟩)], 2⟩].push ⟨.int .i64 4, .func (.func 53) #[] #[], 3⟩) (3 + 1)) = W := ⟨_, rfl⟩
 have g4 : W4.heap[w.heap.size + 1]? = some (.map #[⟨.int .i64 1, .func (.func 50) #[] #[.pointer (some ⟨w.heap.size, 0, none⟩)], 0⟩, ⟨.int .i64 2, .func (.func 51) #[] #[.pointer (some ⟨w.heap.size, 0, none⟩)], 1⟩, ⟨.int .i64 3, .func (.func 52) #[] #[.pointer (some ⟨w.heap.size, 0, none⟩)], 2⟩, ⟨.int .i64 4, .func (.func 53) #[] #[], 3⟩] 4) := by rw [← hW4]; exact sb_same g3
 have o4 : ∀ j, j ≠ w.heap.size + 1 → W4.heap[j]? = W3.heap[j]? := fun j hj => by rw [← hW4]; exact sb_other hj
 have b4 : Below w.heap.size w W4 := by
  rw [← hW4]
  exact ⟨b3.os, b3.tape, b3.output, by rw [sb_size]; exact b3.size, fun j hj => (sb_other (by omega)).trans (b3.block j hj)⟩
 rw [hW4] at u4
 have HQ : Hid (W4.heap[w.heap.size]? = some (qcs ⟨k, a, b, c, d, x, y, sq, K, af, fr⟩)) := (o4 _ (by omega)).trans ((o3 _ (by omega)).trans ((o2 _ (by omega)).trans ((o1 _ (by omega)).trans hgq)))
 have HG : Hid _ := g4
 have HB : Hid _ := b4
 clear h1 h2 hgq hgm hb hW0 hW1 hW2 hW3 hW4 g1 g2 g3 g4 o1 o2 o3 o4 b1 b2 b3 b4
 simp only [qv]
 go_enter Try.func24, Try.ntmps24
 go_wp2_with fail
 go_ret
 exact ⟨w.heap.size + 1, rfl, by omega, HG.out, HQ.out, HB.out⟩
end Go.Proofs.Ytimdlohdmddnjaa.Rf
