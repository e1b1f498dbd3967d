/- The map of pending blocks: stores, deletions, clearing. How a device lies in memory. -/
import Derived.Test.YtkpfnepbnaekoaaPDA
namespace Go.Proofs.Ytkpfnepbnaekoaa.Rd
open Go.RowKit
open Go.ChangeMaps (setBlock)
/-- A map with one key more. -/
def put (f : Nat → Option ByteArray) (p : Nat) (t : Option ByteArray) : Nat → Option ByteArray := fun q => if q = p then t else f q
set_option maxRecDepth 100000 in
theorem u32_inj {p q : Nat} (h : Value.int .u32 (p : Int) = Value.int .u32 (q : Int)) : p = q := by simp at h; omega
set_option maxRecDepth 100000 in
theorem Pm.update {w : World} {m : Nat} {f : Nat → Option ByteArray} (h : Pm w m f) (p : Nat) (t : ByteArray) :
    ∃ w', (Instr.mapUpdate 71 (.map (some m)) (.int .u32 (p : Int)) (.agg #[.string t])).run Try.prog w = .ok () w' ∧ Pm w' m (put f p (some t)) ∧ But (fun k => k = m) w w' ∧ w'.heap.size = w.heap.size := by
  obtain ⟨es, cl, h1, h2, h3, h4⟩ := h
  have hk : MapKept.IsKey (.int .u32) (.int .u32 (p : Int)) := rfl
  have hks : ∀ e ∈ es.toList, MapKept.IsKey (.int .u32) e.key := fun e he => by
    obtain ⟨q, t, e1, _⟩ := h3 e he
    rw [e1]; rfl
  rcases MapKept.findNow_spec hk es.toList 0 hks with ⟨k1, k2⟩ | ⟨j, e0, k1, k2, k3⟩
  · have fk := MapKept.run_findKey (w := w) Try.underlying32 k1
    refine ⟨setBlock w m (.map (es.push ⟨.int .u32 (p : Int), .agg #[.string t], cl⟩) (cl + 1)), ?_, ⟨_, _, setBlock_same h1, MapKept.stamped_push h2 k2, ?_, ?_⟩, But.setBlock _ _ _ rfl, by simp [ChangeMaps.setBlock]⟩
    · simp only [Instr.mapUpdate, Sem.run_bind, run_underlying Try.underlying71, MapKept.run_getObj_map h1, MapKept.run_checkKey Try.underlying32 hk _ 9999, fk, Result.andThen, MapKept.run_setObj_map _ h1]
      rfl
    · intro e he
      rw [Array.toList_push, List.mem_append] at he
      rcases he with he | he
      · obtain ⟨q, s, e1, e2, e3⟩ := h3 e he
        refine ⟨q, s, e1, e2, ?_⟩
        unfold put
        rw [if_neg fun hqp => k2 e he (by rw [e1, hqp]), e3]
      · simp at he
        subst he
        exact ⟨p, t, rfl, rfl, by simp [put]⟩
    · intro q s hq
      unfold put at hq
      rw [Array.toList_push]
      split at hq
      · rename_i e
        cases hq
        exact ⟨_, List.mem_append.2 (.inr (by simp; rfl)), by rw [e], rfl⟩
      · obtain ⟨e, he, e1⟩ := h4 q s hq
        exact ⟨e, List.mem_append.2 (.inl he), e1⟩
  · have fk := MapKept.run_findKey (w := w) Try.underlying32 k1
    have hj : es[j]? = some e0 := by rw [← Array.getElem?_toList]; exact k2
    have hjl : j < es.size := (Array.getElem?_eq_some_iff.1 hj).1
    have hgj : es[j] = e0 := (Array.getElem?_eq_some_iff.1 hj).2
    have hget : ∀ i, (es.modify j fun e => { e with key := .int .u32 (p : Int), val := .agg #[.string t] })[i]? = if j = i then some { e0 with key := .int .u32 (p : Int), val := .agg #[.string t] } else es[i]? := by
      intro i
      rw [Array.getElem?_modify]
      split
      · rename_i e; subst e; rw [hj]; rfl
      · rfl
    have hdis := (MapKept.stamped_iff es cl).1 h2
    refine ⟨setBlock w m (.map (es.modify j fun e => { e with key := .int .u32 (p : Int), val := .agg #[.string t] }) cl), ?_, ⟨_, _, setBlock_same h1, MapKept.stamped_modify h2 j _ (fun _ _ => rfl) (fun e _ he => ?_), ?_, ?_⟩, But.setBlock _ _ _ rfl, by simp [ChangeMaps.setBlock]⟩
    · simp only [Instr.mapUpdate, Sem.run_bind, run_underlying Try.underlying71, MapKept.run_getObj_map h1, MapKept.run_checkKey Try.underlying32 hk _ 9999, fk, Result.andThen, Nat.zero_add, hj, Option.map_some, Option.getD_some, k3, MapKept.run_keyThatStays hk, MapKept.run_setObj_map _ h1]
      rfl
    · rw [hj] at he; cases he; exact k3.symm
    · intro e he
      rw [List.mem_iff_getElem?] at he
      obtain ⟨i, hi⟩ := he
      rw [Array.getElem?_toList, hget] at hi
      split at hi
      · cases hi
        exact ⟨p, t, rfl, rfl, by simp [put]⟩
      · rename_i hne
        have hm : e ∈ es.toList := by rw [List.mem_iff_getElem?]; exact ⟨i, by rw [Array.getElem?_toList]; exact hi⟩
        obtain ⟨q, s, e1, e2, e3⟩ := h3 e hm
        refine ⟨q, s, e1, e2, ?_⟩
        unfold put
        rw [if_neg fun hqp => ?_, e3]
        have hil : i < es.size := (Array.getElem?_eq_some_iff.1 hi).1
        have hgi : es[i] = e := (Array.getElem?_eq_some_iff.1 hi).2
        have hp := hdis.2.2
        rw [List.pairwise_iff_getElem] at hp
        rcases Nat.lt_or_gt_of_ne hne with hlt | hlt
        · exact hp j i (by simpa using hjl) (by simpa using hil) hlt (by simp only [Array.getElem_toList]; rw [hgj, hgi, k3, e1, hqp])
        · exact hp i j (by simpa using hil) (by simpa using hjl) hlt (by simp only [Array.getElem_toList]; rw [hgj, hgi, k3, e1, hqp])
    · intro q s hq
      unfold put at hq
      split at hq
      · rename_i e
        cases hq
        refine ⟨{ e0 with key := .int .u32 (p : Int), val := .agg #[.string t] }, List.mem_iff_getElem?.2 ⟨j, by rw [Array.getElem?_toList, hget, if_pos rfl]⟩, by rw [e], rfl⟩
      · rename_i hqp
        obtain ⟨e, he, e1, e2⟩ := h4 q s hq
        rw [List.mem_iff_getElem?] at he
        obtain ⟨i, hi⟩ := he
        refine ⟨e, List.mem_iff_getElem?.2 ⟨i, ?_⟩, e1, e2⟩
        rw [Array.getElem?_toList] at hi ⊢
        rw [hget, if_neg, hi]
        intro hji
        subst hji
        rw [hj] at hi
        cases hi
        rw [k3] at e1
        exact hqp (u32_inj e1).symm
set_option maxRecDepth 100000 in
theorem Pm.drop {w : World} {m : Nat} {f : Nat → Option ByteArray} (h : Pm w m f) (p : Nat) (ty : TypeId) :
    ∃ w', (Builtin.delete_ #[71, 32] ty #[.map (some m), .int .u32 (p : Int)]).run Try.prog w = .ok (.tuple #[]) w' ∧ Pm w' m (put f p none) ∧ But (fun k => k = m) w w' ∧ w'.heap.size = w.heap.size := by
  obtain ⟨es, cl, h1, h2, h3, h4⟩ := h
  have hk : MapKept.IsKey (.int .u32) (.int .u32 (p : Int)) := rfl
  have hks : ∀ e ∈ es.toList, MapKept.IsKey (.int .u32) e.key := fun e he => by
    obtain ⟨q, t, e1, _⟩ := h3 e he
    rw [e1]; rfl
  rcases MapKept.findNow_spec hk es.toList 0 hks with ⟨k1, k2⟩ | ⟨j, e0, k1, k2, k3⟩
  · have fk := MapKept.run_findKey (w := w) Try.underlying32 k1
    refine ⟨setBlock w m (.map es cl), ?_, ⟨_, _, setBlock_same h1, h2, ?_, ?_⟩, But.setBlock _ _ _ rfl, by simp [ChangeMaps.setBlock]⟩
    · simp [Builtin.delete_, run_underlying Try.underlying71, MapKept.run_getObj_map h1, MapKept.run_checkKey Try.underlying32 hk _ 9999, fk, MapKept.run_setObj_map _ h1, Result.andThen, setBlock]
    · intro e he
      obtain ⟨q, s, e1, e2, e3⟩ := h3 e he
      exact ⟨q, s, e1, e2, by unfold put; rw [if_neg fun hqp => k2 e he (by rw [e1, hqp]), e3]⟩
    · intro q s hq
      unfold put at hq
      split at hq
      · cases hq
      · exact h4 q s hq
  · have fk := MapKept.run_findKey (w := w) Try.underlying32 k1
    have hj : es[j]? = some e0 := by rw [← Array.getElem?_toList]; exact k2
    have hjl : j < es.size := (Array.getElem?_eq_some_iff.1 hj).1
    have hgj : es[j] = e0 := (Array.getElem?_eq_some_iff.1 hj).2
    have hdis := ((MapKept.stamped_iff es cl).1 h2).2.2
    rw [List.pairwise_iff_getElem] at hdis
    have hsub : (es.eraseIdxIfInBounds j).toList = es.toList.eraseIdx j := by
      unfold Array.eraseIdxIfInBounds
      rw [dif_pos hjl]
      simp
    refine ⟨setBlock w m (.map (es.eraseIdxIfInBounds j) cl), ?_, ⟨_, _, setBlock_same h1, MapKept.stamped_erase h2 j, ?_, ?_⟩, But.setBlock _ _ _ rfl, by simp [ChangeMaps.setBlock]⟩
    · simp [Builtin.delete_, run_underlying Try.underlying71, MapKept.run_getObj_map h1, MapKept.run_checkKey Try.underlying32 hk _ 9999, fk, MapKept.run_setObj_map _ h1, Result.andThen, setBlock]
    · intro e he
      rw [hsub, List.mem_eraseIdx_iff_getElem] at he
      obtain ⟨i, hi, hne, hie⟩ := he
      have hm : e ∈ es.toList := by rw [← hie]; exact List.getElem_mem _
      obtain ⟨q, s, e1, e2, e3⟩ := h3 e hm
      refine ⟨q, s, e1, e2, ?_⟩
      unfold put
      rw [if_neg fun hqp => ?_, e3]
      have hjl' : j < es.toList.length := by simpa using hjl
      rcases Nat.lt_or_gt_of_ne hne with hlt | hlt
      · exact hdis i j hi hjl' hlt (by rw [hie, e1, hqp]; simp only [Array.getElem_toList]; rw [hgj, k3])
      · exact hdis j i hjl' hi hlt (by rw [hie, e1, hqp]; simp only [Array.getElem_toList]; rw [hgj, k3])
    · intro q s hq
      unfold put at hq
      split at hq
      · cases hq
      · rename_i hqp
        obtain ⟨e, he, e1, e2⟩ := h4 q s hq
        refine ⟨e, ?_, e1, e2⟩
        rw [hsub, List.mem_eraseIdx_iff_getElem]
        rw [List.mem_iff_getElem] at he
        obtain ⟨i, hi, hie⟩ := he
        refine ⟨i, hi, fun hij => hqp ?_, hie⟩
        subst hij
        rw [Array.getElem_toList, hgj] at hie
        rw [← hie, k3] at e1
        exact (u32_inj e1).symm
set_option maxRecDepth 100000 in
theorem Pm.clear {w : World} {m : Nat} {f : Nat → Option ByteArray} (h : Pm w m f) (ty : TypeId) :
    ∃ w', (Builtin.clear_ #[71] ty #[.map (some m)]).run Try.prog w = .ok (.tuple #[]) w' ∧ Pm w' m (fun _ => none) ∧ But (fun k => k = m) w w' ∧ w'.heap.size = w.heap.size := by
  obtain ⟨es, cl, h1, h2, h3, h4⟩ := h
  refine ⟨setBlock w m (.map #[] cl), ?_, ⟨_, _, setBlock_same h1, MapKept.stamped_empty _, by simp, by simp⟩, But.setBlock _ _ _ rfl, by simp [ChangeMaps.setBlock]⟩
  simp [Builtin.clear_, run_underlying Try.underlying71, MapKept.run_getObj_map h1, MapKept.run_setObj_map _ h1, Result.andThen, setBlock]
/-- A row of blocks: a text and a mark each. -/
def Row (w : World) (b n : Nat) (tx : Nat → ByteArray) (bad : Nat → Bool) : Prop :=
  ∃ cs, w.heap[b]? = some (.cells cs 70 (0, 0)) ∧ cs.size = n * 2 ∧ ∀ p, p < n → cs[p * 2]? = some (.string (tx p)) ∧ cs[p * 2 + 1]? = some (.bool (bad p))
/-- The cells of a device itself. -/
def dcells (b m : Nat) (s : St) : Array Value := #[.bool s.ended, .bool s.cut, .int .i64 s.left, .int .u64 s.cnt, .string s.tag, .int .u32 s.boots, .slice (some ⟨b, 0, none⟩) s.n s.n, .map (some m)]
/-- A device in memory. -/
structure Dev (w : World) (d b m : Nat) (s : St) : Prop where
  self : w.heap[d]? = some (.cells (dcells b m s) 75 (0, 0))
  row : Row w b s.n s.tx s.bad
  map : Pm w m s.pd
  db : d ≠ b
  dm : d ≠ m
  bm : b ≠ m
/-- A device's own blocks. -/
def Dv (d b m k : Nat) : Prop := k = d ∨ k = b ∨ k = m
set_option maxRecDepth 100000 in
theorem Row.same {w w' : World} {b n : Nat} {tx : Nat → ByteArray} {bad : Nat → Bool} (h : Row w b n tx bad) (e : w'.heap[b]? = w.heap[b]?) : Row w' b n tx bad := by
  obtain ⟨cs, h1, h2⟩ := h
  exact ⟨cs, e.trans h1, h2⟩
set_option maxRecDepth 100000 in
theorem Row.lt {w : World} {b n : Nat} {tx : Nat → ByteArray} {bad : Nat → Bool} (h : Row w b n tx bad) : b < w.heap.size := by
  obtain ⟨cs, h1, h2⟩ := h
  exact (Array.getElem?_eq_some_iff.1 h1).1
set_option maxRecDepth 100000 in
theorem Dev.lt {w : World} {d b m : Nat} {s : St} (h : Dev w d b m s) : d < w.heap.size ∧ b < w.heap.size ∧ m < w.heap.size :=
  ⟨(Array.getElem?_eq_some_iff.1 h.self).1, h.row.lt, h.map.lt⟩
set_option maxRecDepth 100000 in
theorem Dev.same {w w' : World} {d b m : Nat} {s : St} (h : Dev w d b m s) (e1 : w'.heap[d]? = w.heap[d]?) (e2 : w'.heap[b]? = w.heap[b]?) (e3 : w'.heap[m]? = w.heap[m]?) : Dev w' d b m s :=
  ⟨e1.trans h.self, h.row.same e2, h.map.same e3, h.db, h.dm, h.bm⟩
set_option maxRecDepth 100000 in
theorem Dev.but {S : Nat → Prop} {w w' : World} {d b m : Nat} {s : St} (h : Dev w d b m s) (k : But S w w') (n1 : ¬ S d) (n2 : ¬ S b) (n3 : ¬ S m) : Dev w' d b m s :=
  h.same (k.block _ h.lt.1 n1) (k.block _ h.lt.2.1 n2) (k.block _ h.lt.2.2 n3)
set_option maxRecDepth 100000 in
theorem Dev.below {w w' : World} {d b m B : Nat} {s : St} (h : Dev w d b m s) (k : Below B w w') (hB : w.heap.size ≤ B) : Dev w' d b m s :=
  h.same (k.block _ (by have := h.lt; omega)) (k.block _ (by have := h.lt; omega)) (k.block _ (by have := h.lt; omega))
set_option maxRecDepth 100000 in
theorem set_at (w : World) (b i : Nat) (cs : Array Value) (T : TypeId) (fr : Nat × Nat) (v : Value) (hb : w.heap[b]? = some (.cells cs T fr)) : (w.setCell ⟨b, i, none⟩ v).heap[b]? = some (.cells (cs.setIfInBounds i v) T fr) := by
  have := (Array.getElem?_eq_some_iff.1 hb)
  simp only [World.setCell, Array.getElem?_modify, hb]
  rfl
/-- A place with another value. -/
def at' {α : Type} (f : Nat → α) (p : Nat) (v : α) : Nat → α := fun q => if q = p then v else f q
set_option maxRecDepth 100000 in
theorem Row.cells {w : World} {b n : Nat} {tx : Nat → ByteArray} {bad : Nat → Bool} (h : Row w b n tx bad) (p : Nat) (hp : p < n) :
    w.cell? ⟨b, p * 2, none⟩ = some (.string (tx p)) ∧ w.cell? ⟨b, p * 2 + 1, none⟩ = some (.bool (bad p)) ∧ w.frozen? ⟨b, p * 2, none⟩ = false ∧ w.frozen? ⟨b, p * 2 + 1, none⟩ = false := by
  obtain ⟨cs, h1, h2, h3⟩ := h
  obtain ⟨e1, e2⟩ := h3 p hp
  exact ⟨by rw [cell_of_row _ _ _ _ _ _ h1, e1], by rw [cell_of_row _ _ _ _ _ _ h1, e2], frozen_of_row w _ _ _ _ h1, frozen_of_row w _ _ _ _ h1⟩
set_option maxRecDepth 100000 in
theorem Row.setText {w : World} {b n : Nat} {tx : Nat → ByteArray} {bad : Nat → Bool} (h : Row w b n tx bad) (p : Nat) (hp : p < n) (t : ByteArray) :
    Row (w.setCell ⟨b, p * 2, none⟩ (.string t)) b n (at' tx p t) bad := by
  obtain ⟨cs, h1, h2, h3⟩ := h
  refine ⟨_, set_at _ _ _ _ _ _ _ h1, by simp [h2], fun q hq => ?_⟩
  obtain ⟨e1, e2⟩ := h3 q hq
  rw [Array.getElem?_setIfInBounds, Array.getElem?_setIfInBounds, if_neg (by omega : ¬ p * 2 = q * 2 + 1)]
  refine ⟨?_, e2⟩
  unfold at'
  by_cases hpq : q = p
  · subst hpq; rw [if_pos rfl, if_pos rfl, if_pos (by omega)]
  · rw [if_neg (by omega), if_neg hpq, e1]
set_option maxRecDepth 100000 in
theorem Row.setBad {w : World} {b n : Nat} {tx : Nat → ByteArray} {bad : Nat → Bool} (h : Row w b n tx bad) (p : Nat) (hp : p < n) (t : Bool) :
    Row (w.setCell ⟨b, p * 2 + 1, none⟩ (.bool t)) b n tx (at' bad p t) := by
  obtain ⟨cs, h1, h2, h3⟩ := h
  refine ⟨_, set_at _ _ _ _ _ _ _ h1, by simp [h2], fun q hq => ?_⟩
  obtain ⟨e1, e2⟩ := h3 q hq
  rw [Array.getElem?_setIfInBounds, Array.getElem?_setIfInBounds, if_neg (by omega : ¬ p * 2 + 1 = q * 2)]
  refine ⟨e1, ?_⟩
  unfold at'
  by_cases hpq : q = p
  · subst hpq; rw [if_pos rfl, if_pos rfl, if_pos (by omega)]
  · rw [if_neg (by omega), if_neg hpq, e2]
end Go.Proofs.Ytkpfnepbnaekoaa.Rd
