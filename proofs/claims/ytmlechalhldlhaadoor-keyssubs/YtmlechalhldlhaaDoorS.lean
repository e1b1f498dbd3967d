/- Texts cut in pieces: their sums. -/
import Derived.Test.YtmlechalhldlhaaDoorQ
import Derived.RegionTactic
import Derived.Deep.QuietTactic
namespace Go.Proofs.YtmlechalhldlhaaDoor
open Go.RowKit Go.Lib
/-- The built-in min of two numbers, by its run. -/
theorem list_min {P : Program} {ops : Array Oper} {rest : List Oper} {o : Oper} {a : Act} {w : World} {Q : Exit → Act → World → Prop} (hgd : o.guard = none) (t u : TypeId) (x y : Operand) (ho : o.op = .call { callee := .builtin .min, args := #[x, y], argTypes := #[t, u] })
    {p q r : Int} (hx : a.eval x = .int .i64 p) (hy : a.eval y = .int .i64 q) (hr : (if q < p then q else p) = r) (h : wpList P ops Q rest (a.put o.dst (.int .i64 r)) w) : wpList P ops Q (o :: rest) a w :=
  wpList_plain hgd fun _ hK => by
    have hrun : (Builtin.min_ #[t, u] o.type #[.int .i64 p, .int .i64 q]).run P w = .ok (.int .i64 r) w := by subst hr; rfl
    unfold Oper.wp execOp
    simp only [ho, resolve, invoke, builtin, Sem.run_bind, Sem.run_pure, Result.andThen_ok, List.map_toArray, List.map_cons, List.map_nil, hx, hy, hrun]
    exact hK _ _ h
/-- A text's beginning, by its run. -/
theorem list_head {ops : Array Oper} {rest : List Oper} {o : Oper} {a : Act} {w : World} {Q : Exit → Act → World → Prop} (hgd : o.guard = none) (x y : Operand) (ho : o.op = .slice 9 x none (some y) none)
    {s t : ByteArray} {n : Nat} (hx : a.eval x = .string s) (hy : a.eval y = .int .i64 (n : Int)) (hn : n ≤ s.size) (ht : s.extract 0 n = t) (h : wpList Tryd.prog ops Q rest (a.put o.dst (.string t)) w) : wpList Tryd.prog ops Q (o :: rest) a w :=
  wpList_plain hgd fun _ hK => by
    have hrun : (Instr.sliceAt 9 (.string s) none (some (.int .i64 (n : Int))) none).run Tryd.prog w = .ok (.string t) w := by
      have h1 : (n : Int) ≤ (s.size : Int) := by omega
      subst ht
      simp [Instr.sliceAt, Instr.slice, run_underlying Tryd.underlying9, go_sem]
      intro h
      omega
    unfold Oper.wp execOp
    simp only [ho, Sem.run_bind, Sem.run_pure, Result.andThen_ok, Option.map_none, Option.map_some, hx, hy, hrun]
    exact hK _ _ h
theorem below_new (w : World) (o : Obj) : Below w.heap.size w (w.alloc o) := (Below.refl _ w).alloc (Nat.le_refl _) _
/-- The sum of texts that lie in a new block. -/
theorem add_lits (Kt m : Nat → Int) (hm : ∀ j, 0 ≤ m j ∧ m j < 256) (cs : Array Value) (n : Nat) (ts : Nat → ByteArray) (w : World) (t : TypeId) {tt : TypeId} {fr : Nat × Nat} (hK : w.heap[1]? = some (.cells (w64 Kt) tt fr))
    (hn : n ≤ 1000000) (hL : offs ts n ≤ 1000000000000) (hc : ∀ i, i < n → cs[i]? = some (.string (ts i))) (hb : ∀ i, i < n → ∀ j, j < (ts i).size → bt (ts i) j = m (offs ts i + j)) :
    Calls Tryd.prog 36 #[.slice (some ⟨w.heap.size, 0, none⟩) n n] (w.alloc (.cells cs t)) fun e w' => e = .returned (.string (strOfNums (dig Kt (lf IV) m (offs ts n)))) ∧ Below w.heap.size w w' := by
  have h1l : 1 < w.heap.size := (Array.getElem?_eq_some_iff.1 hK).1
  refine (add_any Kt m hm n n (some ⟨w.heap.size, 0, none⟩) ts (w.alloc (.cells cs t)) (((below_new w _).block 1 h1l).trans hK) hL (by omega) fun i hi => ⟨⟨w.heap.size, 0, rfl, by simp, ?_⟩, hb i hi⟩).mono ?_
  · rw [cell_of_row _ _ _ _ _ _ (heap_alloc_new w _), Nat.zero_add]; exact hc i hi
  · rintro e w' ⟨rfl, h2⟩
    exact ⟨rfl, (below_new w _).trans (h2.mono (by simp))⟩
theorem add_two (Kt : Nat → Int) (t : ByteArray) (k : Nat) (hk : k ≤ t.size) (ht : t.size ≤ 1000000000000) (w : World) (T : TypeId) {tt : TypeId} {fr : Nat × Nat} (hK : w.heap[1]? = some (.cells (w64 Kt) tt fr)) :
    Calls Tryd.prog 36 #[.slice (some ⟨w.heap.size, 0, none⟩) 2 2] (w.alloc (.cells #[.string (t.extract 0 k), .string (t.extract k t.size)] T)) fun e w' => e = .returned (.string (strOfNums (dig Kt (lf IV) (bt t) t.size))) ∧ Below w.heap.size w w' := by
  have z0 : (t.extract 0 k).size = k := by simp; omega
  have z1 : (t.extract k t.size).size = t.size - k := by simp
  have o2 : offs (fun i => if i = 0 then t.extract 0 k else t.extract k t.size) 2 = t.size := by simp [offs]; omega
  refine (add_lits Kt (bt t) (bt_range t) _ 2 (fun i => if i = 0 then t.extract 0 k else t.extract k t.size) w T hK (by decide) (by rw [o2]; exact ht) ?_ ?_).mono ?_
  · intro i hi
    match i, hi with
    | 0, _ => rfl
    | 1, _ => rfl
  · intro i hi j hj
    match i, hi with
    | 0, _ =>
      have hj' : j < k := by simpa [z0] using hj
      show bt (t.extract 0 k) j = _
      rw [bt_ext _ _ _ _ (by omega)]; simp [offs]
    | 1, _ =>
      have hj' : j < t.size - k := by simpa [z1] using hj
      show bt (t.extract k t.size) j = _
      rw [bt_ext _ _ _ _ (by omega)]; simp [offs, Nat.min_eq_left hk]
  · rintro e w' ⟨rfl, h2⟩
    rw [o2]
    exact ⟨rfl, h2⟩
theorem add_three (Kt : Nat → Int) (t : ByteArray) (k : Nat) (hk : k ≤ t.size) (ht : t.size ≤ 1000000000000) (w : World) (T : TypeId) {tt : TypeId} {fr : Nat × Nat} (hK : w.heap[1]? = some (.cells (w64 Kt) tt fr)) :
    Calls Tryd.prog 36 #[.slice (some ⟨w.heap.size, 0, none⟩) 3 3] (w.alloc (.cells #[.string (t.extract 0 k), .string ⟨#[]⟩, .string (t.extract k t.size)] T)) fun e w' => e = .returned (.string (strOfNums (dig Kt (lf IV) (bt t) t.size))) ∧ Below w.heap.size w w' := by
  have z0 : (t.extract 0 k).size = k := by simp; omega
  have z1 : (t.extract k t.size).size = t.size - k := by simp
  have ze : (ByteArray.mk #[]).size = 0 := rfl
  have o2 : offs (fun i => if i = 0 then t.extract 0 k else if i = 1 then ⟨#[]⟩ else t.extract k t.size) 3 = t.size := by simp [offs, ze]; omega
  refine (add_lits Kt (bt t) (bt_range t) _ 3 (fun i => if i = 0 then t.extract 0 k else if i = 1 then ⟨#[]⟩ else t.extract k t.size) w T hK (by decide) (by rw [o2]; exact ht) ?_ ?_).mono ?_
  · intro i hi
    match i, hi with
    | 0, _ => rfl
    | 1, _ => rfl
    | 2, _ => rfl
  · intro i hi j hj
    match i, hi with
    | 0, _ =>
      have hj' : j < k := by simpa [z0] using hj
      show bt (t.extract 0 k) j = _
      rw [bt_ext _ _ _ _ (by omega)]; simp [offs]
    | 1, _ => exact absurd hj (by simp [ze])
    | 2, _ =>
      have hj' : j < t.size - k := by simpa [z1] using hj
      show bt (t.extract k t.size) j = _
      rw [bt_ext _ _ _ _ (by omega)]; simp [offs, ze, Nat.min_eq_left hk]
  · rintro e w' ⟨rfl, h2⟩
    rw [o2]
    exact ⟨rfl, h2⟩
/-- A text's first so many bytes. -/
theorem cut_is (s : ByteArray) (n : Nat) : ∃ (t : ByteArray) (r : Nat), (if ((n : Nat) : Int) < (s.size : Int) then ((n : Nat) : Int) else (s.size : Int)) = (r : Int) ∧ r ≤ s.size ∧ s.extract 0 r = t ∧ t.size ≤ n := by
  by_cases h : n < s.size
  · exact ⟨_, n, by rw [if_pos (by omega)], by omega, rfl, by simp; omega⟩
  · exact ⟨_, s.size, by rw [if_neg (by omega)], Nat.le_refl _, rfl, by simp; omega⟩
end Go.Proofs.YtmlechalhldlhaaDoor
