/- The document's own device: how it lies in memory; its calls, but for those with loops. -/
import Derived.Test.YtkpfnepbnaekoaaPDR
namespace Go.Proofs.Ytkpfnepbnaekoaa.Rd
open Go.RowKit
/-- A row of texts, at the head of a block. -/
def Tx (w : World) (g n : Nat) (f : Nat → ByteArray) : Prop := ∃ cs, w.heap[g]? = some (.cells cs 9 (0, 0)) ∧ n ≤ cs.size ∧ ∀ i, i < n → cs[i]? = some (.string (f i))
/-- A row of marks. -/
def Bl (w : World) (g n : Nat) (f : Nat → Bool) : Prop := ∃ cs, w.heap[g]? = some (.cells cs 4 (0, 0)) ∧ n ≤ cs.size ∧ ∀ i, i < n → cs[i]? = some (.bool (f i))
set_option maxRecDepth 100000 in
theorem Tx.lt {w : World} {g n : Nat} {f : Nat → ByteArray} (h : Tx w g n f) : g < w.heap.size := by
  obtain ⟨cs, h1, h2⟩ := h
  exact (Array.getElem?_eq_some_iff.1 h1).1
set_option maxRecDepth 100000 in
theorem Bl.lt {w : World} {g n : Nat} {f : Nat → Bool} (h : Bl w g n f) : g < w.heap.size := by
  obtain ⟨cs, h1, h2⟩ := h
  exact (Array.getElem?_eq_some_iff.1 h1).1
set_option maxRecDepth 100000 in
theorem Tx.same {w w' : World} {g n : Nat} {f : Nat → ByteArray} (h : Tx w g n f) (e : w'.heap[g]? = w.heap[g]?) : Tx w' g n f := by
  obtain ⟨cs, h1, h2⟩ := h
  exact ⟨cs, e.trans h1, h2⟩
set_option maxRecDepth 100000 in
theorem Bl.same {w w' : World} {g n : Nat} {f : Nat → Bool} (h : Bl w g n f) (e : w'.heap[g]? = w.heap[g]?) : Bl w' g n f := by
  obtain ⟨cs, h1, h2⟩ := h
  exact ⟨cs, e.trans h1, h2⟩
set_option maxRecDepth 100000 in
theorem Tx.cell {w : World} {g n : Nat} {f : Nat → ByteArray} (h : Tx w g n f) (i : Nat) (hi : i < n) : w.cell? ⟨g, i, none⟩ = some (.string (f i)) ∧ w.frozen? ⟨g, i, none⟩ = false := by
  obtain ⟨cs, h1, h2, h3⟩ := h
  exact ⟨by rw [cell_of_row _ _ _ _ _ _ h1, h3 i hi], frozen_of_row w _ _ _ _ h1⟩
set_option maxRecDepth 100000 in
theorem Bl.cell {w : World} {g n : Nat} {f : Nat → Bool} (h : Bl w g n f) (i : Nat) (hi : i < n) : w.cell? ⟨g, i, none⟩ = some (.bool (f i)) ∧ w.frozen? ⟨g, i, none⟩ = false := by
  obtain ⟨cs, h1, h2, h3⟩ := h
  exact ⟨by rw [cell_of_row _ _ _ _ _ _ h1, h3 i hi], frozen_of_row w _ _ _ _ h1⟩
set_option maxRecDepth 100000 in
theorem Tx.set {w : World} {g n : Nat} {f : Nat → ByteArray} (h : Tx w g n f) (i : Nat) (hi : i < n) (t : ByteArray) : Tx (w.setCell ⟨g, i, none⟩ (.string t)) g n (at' f i t) := by
  obtain ⟨cs, h1, h2, h3⟩ := h
  refine ⟨_, set_at _ _ _ _ _ _ _ h1, by simpa using h2, fun q hq => ?_⟩
  rw [Array.getElem?_setIfInBounds]
  unfold at'
  by_cases hpq : q = i
  · subst hpq; rw [if_pos rfl, if_pos rfl, if_pos (by omega)]
  · rw [if_neg (by omega), if_neg hpq, h3 q hq]
set_option maxRecDepth 100000 in
theorem Bl.set {w : World} {g n : Nat} {f : Nat → Bool} (h : Bl w g n f) (i : Nat) (hi : i < n) (t : Bool) : Bl (w.setCell ⟨g, i, none⟩ (.bool t)) g n (at' f i t) := by
  obtain ⟨cs, h1, h2, h3⟩ := h
  refine ⟨_, set_at _ _ _ _ _ _ _ h1, by simpa using h2, fun q hq => ?_⟩
  rw [Array.getElem?_setIfInBounds]
  unfold at'
  by_cases hpq : q = i
  · subst hpq; rw [if_pos rfl, if_pos rfl, if_pos (by omega)]
  · rw [if_neg (by omega), if_neg hpq, h3 q hq]
set_option maxRecDepth 100000 in
theorem Tx.ext {w : World} {g n : Nat} {f f' : Nat → ByteArray} (h : Tx w g n f) (e : ∀ i, i < n → f i = f' i) : Tx w g n f' := by
  obtain ⟨cs, h1, h2, h3⟩ := h
  exact ⟨cs, h1, h2, fun i hi => by rw [h3 i hi, e i hi]⟩
/-- Where the rows lie. -/
structure Rp where
  l : Nat
  p : Nat
  b : Nat
  lc : Nat
  pc : Nat
  bc : Nat
/-- What is pending, as a text. -/
def pend (f : Nat → Option ByteArray) (i : Nat) : ByteArray := (f i).getD ⟨#[]⟩
/-- How many operations are left, below 0 if there is no cut. -/
def lft (s : St) : Int := if s.cut then s.left else -1
/-- The cells of the document's device. -/
def rcells (x : Rp) (s : St) : Array Value := #[.slice (some ⟨x.l, 0, none⟩) s.n x.lc, .slice (some ⟨x.p, 0, none⟩) s.n x.pc, .slice (some ⟨x.b, 0, none⟩) s.n x.bc, .int .u64 s.cnt, .string s.tag, .int .u32 s.boots, .int .i64 (lft s), .bool s.ended]
/-- The document's device in memory. -/
structure Rf (w : World) (r : Nat) (x : Rp) (s : St) : Prop where
  self : w.heap[r]? = some (.cells (rcells x s) 45 (0, 0))
  rl : Tx w x.l s.n s.tx
  rp : Tx w x.p s.n (pend s.pd)
  rb : Bl w x.b s.n s.bad
  n1 : r ≠ x.l
  n2 : r ≠ x.p
  n3 : r ≠ x.b
  n4 : x.l ≠ x.p
  n5 : x.l ≠ x.b
  n6 : x.p ≠ x.b
/-- Its own blocks. -/
def Rv (r : Nat) (x : Rp) (k : Nat) : Prop := k = r ∨ k = x.l ∨ k = x.p ∨ k = x.b
set_option maxRecDepth 100000 in
theorem Rf.lt {w : World} {r : Nat} {x : Rp} {s : St} (h : Rf w r x s) : r < w.heap.size ∧ x.l < w.heap.size ∧ x.p < w.heap.size ∧ x.b < w.heap.size :=
  ⟨(Array.getElem?_eq_some_iff.1 h.self).1, h.rl.lt, h.rp.lt, h.rb.lt⟩
set_option maxRecDepth 100000 in
theorem Rf.same {w w' : World} {r : Nat} {x : Rp} {s : St} (h : Rf w r x s) (e : ∀ k, Rv r x k → w'.heap[k]? = w.heap[k]?) : Rf w' r x s :=
  ⟨(e _ (.inl rfl)).trans h.self, h.rl.same (e _ (.inr (.inl rfl))), h.rp.same (e _ (.inr (.inr (.inl rfl)))), h.rb.same (e _ (.inr (.inr (.inr rfl)))), h.n1, h.n2, h.n3, h.n4, h.n5, h.n6⟩
set_option maxRecDepth 100000 in
theorem Rf.own {w : World} {r : Nat} {x : Rp} {s : St} (h : Rf w r x s) {k : Nat} (hk : Rv r x k) : k < w.heap.size := by
  have := h.lt
  rcases hk with rfl | rfl | rfl | rfl <;> omega
set_option maxRecDepth 100000 in
theorem Rf.below {w w' : World} {r B : Nat} {x : Rp} {s : St} (h : Rf w r x s) (k : Below B w w') (hB : w.heap.size ≤ B) : Rf w' r x s :=
  h.same fun j hj => k.block j (by have := h.own hj; omega)
set_option maxRecDepth 100000 in
theorem Rf.but {S : Nat → Prop} {w w' : World} {r : Nat} {x : Rp} {s : St} (h : Rf w r x s) (k : But S w w') (hS : ∀ j, Rv r x j → ¬ S j) : Rf w' r x s :=
  h.same fun j hj => k.block j (h.own hj) (hS j hj)
set_option maxRecDepth 100000 in
theorem Rf.cell {w : World} {r : Nat} {x : Rp} {s : St} (h : Rf w r x s) (i : Nat) (v : Value) (hv : (rcells x s)[i]? = some v) : w.cell? ⟨r, i, none⟩ = some v ∧ w.frozen? ⟨r, i, none⟩ = false :=
  ⟨by rw [cell_of_row _ _ _ _ _ _ h.self, hv], frozen_of_row w _ _ _ _ h.self⟩
set_option maxRecDepth 100000 in
theorem Rf.c0 {w : World} {r : Nat} {x : Rp} {s : St} (h : Rf w r x s) : w.cell? ⟨r, 0, none⟩ = some (.slice (some ⟨x.l, 0, none⟩) s.n x.lc) ∧ w.frozen? ⟨r, 0, none⟩ = false := h.cell 0 _ rfl
set_option maxRecDepth 100000 in
theorem Rf.c1 {w : World} {r : Nat} {x : Rp} {s : St} (h : Rf w r x s) : w.cell? ⟨r, 1, none⟩ = some (.slice (some ⟨x.p, 0, none⟩) s.n x.pc) ∧ w.frozen? ⟨r, 1, none⟩ = false := h.cell 1 _ rfl
set_option maxRecDepth 100000 in
theorem Rf.c2 {w : World} {r : Nat} {x : Rp} {s : St} (h : Rf w r x s) : w.cell? ⟨r, 2, none⟩ = some (.slice (some ⟨x.b, 0, none⟩) s.n x.bc) ∧ w.frozen? ⟨r, 2, none⟩ = false := h.cell 2 _ rfl
set_option maxRecDepth 100000 in
theorem Rf.c3 {w : World} {r : Nat} {x : Rp} {s : St} (h : Rf w r x s) : w.cell? ⟨r, 3, none⟩ = some (.int .u64 s.cnt) ∧ w.frozen? ⟨r, 3, none⟩ = false := h.cell 3 _ rfl
set_option maxRecDepth 100000 in
theorem Rf.c4 {w : World} {r : Nat} {x : Rp} {s : St} (h : Rf w r x s) : w.cell? ⟨r, 4, none⟩ = some (.string s.tag) ∧ w.frozen? ⟨r, 4, none⟩ = false := h.cell 4 _ rfl
set_option maxRecDepth 100000 in
theorem Rf.c5 {w : World} {r : Nat} {x : Rp} {s : St} (h : Rf w r x s) : w.cell? ⟨r, 5, none⟩ = some (.int .u32 s.boots) ∧ w.frozen? ⟨r, 5, none⟩ = false := h.cell 5 _ rfl
set_option maxRecDepth 100000 in
theorem Rf.c6 {w : World} {r : Nat} {x : Rp} {s : St} (h : Rf w r x s) : w.cell? ⟨r, 6, none⟩ = some (.int .i64 (lft s)) ∧ w.frozen? ⟨r, 6, none⟩ = false := h.cell 6 _ rfl
set_option maxRecDepth 100000 in
theorem Rf.c7 {w : World} {r : Nat} {x : Rp} {s : St} (h : Rf w r x s) : w.cell? ⟨r, 7, none⟩ = some (.bool s.ended) ∧ w.frozen? ⟨r, 7, none⟩ = false := h.cell 7 _ rfl
set_option maxRecDepth 100000 in
theorem Rf.setSelf {w : World} {r : Nat} {x : Rp} {s : St} (h : Rf w r x s) (i : Nat) (v : Value) (s' : St) (e : (rcells x s).setIfInBounds i v = rcells x s')
    (hn : s'.n = s.n) (h1 : s'.tx = s.tx) (h2 : s'.bad = s.bad) (h3 : s'.pd = s.pd) : Rf (w.setCell ⟨r, i, none⟩ v) r x s' ∧ But (Rv r x) w (w.setCell ⟨r, i, none⟩ v) := by
  refine ⟨⟨?_, ?_, ?_, ?_, h.n1, h.n2, h.n3, h.n4, h.n5, h.n6⟩, But.set _ _ _ _ (.inl rfl)⟩
  · rw [← e]; exact set_at _ _ _ _ _ _ _ h.self
  · rw [hn, h1]; exact h.rl.same (Below.heap_setCell _ _ _ _ (by simpa using h.n1.symm))
  · rw [hn, h3]; exact h.rp.same (Below.heap_setCell _ _ _ _ (by simpa using h.n2.symm))
  · rw [hn, h2]; exact h.rb.same (Below.heap_setCell _ _ _ _ (by simpa using h.n3.symm))
set_option maxRecDepth 100000 in
theorem Rf.setL {w : World} {r : Nat} {x : Rp} {s : St} (h : Rf w r x s) (i : Nat) (hi : i < s.n) (t : ByteArray) : Rf (w.setCell ⟨x.l, i, none⟩ (.string t)) r x { s with tx := at' s.tx i t } ∧ But (Rv r x) w (w.setCell ⟨x.l, i, none⟩ (.string t)) :=
  ⟨⟨(Below.heap_setCell _ _ _ _ (by simpa using h.n1)).trans h.self, h.rl.set i hi t, h.rp.same (Below.heap_setCell _ _ _ _ (by simpa using h.n4.symm)), h.rb.same (Below.heap_setCell _ _ _ _ (by simpa using h.n5.symm)), h.n1, h.n2, h.n3, h.n4, h.n5, h.n6⟩, But.set _ _ _ _ (.inr (.inl rfl))⟩
set_option maxRecDepth 100000 in
theorem Rf.setB {w : World} {r : Nat} {x : Rp} {s : St} (h : Rf w r x s) (i : Nat) (hi : i < s.n) (t : Bool) : Rf (w.setCell ⟨x.b, i, none⟩ (.bool t)) r x { s with bad := at' s.bad i t } ∧ But (Rv r x) w (w.setCell ⟨x.b, i, none⟩ (.bool t)) :=
  ⟨⟨(Below.heap_setCell _ _ _ _ (by simpa using h.n3)).trans h.self, h.rl.same (Below.heap_setCell _ _ _ _ (by simpa using h.n5)), h.rp.same (Below.heap_setCell _ _ _ _ (by simpa using h.n6)), h.rb.set i hi t, h.n1, h.n2, h.n3, h.n4, h.n5, h.n6⟩, But.set _ _ _ _ (.inr (.inr (.inr rfl)))⟩
/-- What an operation's count tells. -/
def opE (s : St) : Int := if opOk s then 0 else 71
set_option maxRecDepth 100000 in
theorem pend_put (f : Nat → Option ByteArray) (i : Nat) (t : ByteArray) (q : Nat) : at' (pend f) i t q = pend (put f i (some t)) q := by
  unfold at' pend put; split <;> rfl
set_option maxRecDepth 100000 in
theorem pend_drop (f : Nat → Option ByteArray) (i : Nat) (q : Nat) : at' (pend f) i ⟨#[]⟩ q = pend (put f i none) q := by
  unfold at' pend put; split <;> rfl
set_option maxRecDepth 100000 in
theorem Rf.setP {w : World} {r : Nat} {x : Rp} {s : St} (h : Rf w r x s) (i : Nat) (hi : i < s.n) (t : ByteArray) : Rf (w.setCell ⟨x.p, i, none⟩ (.string t)) r x { s with pd := put s.pd i (some t) } ∧ But (Rv r x) w (w.setCell ⟨x.p, i, none⟩ (.string t)) :=
  ⟨⟨(Below.heap_setCell _ _ _ _ (by simpa using h.n2)).trans h.self, h.rl.same (Below.heap_setCell _ _ _ _ (by simpa using h.n4)), (h.rp.set i hi t).ext fun q _ => pend_put _ _ _ _, h.rb.same (Below.heap_setCell _ _ _ _ (by simpa using h.n6.symm)), h.n1, h.n2, h.n3, h.n4, h.n5, h.n6⟩, But.set _ _ _ _ (.inr (.inr (.inl rfl)))⟩
set_option maxRecDepth 100000 in
theorem Rf.dropP {w : World} {r : Nat} {x : Rp} {s : St} (h : Rf w r x s) (i : Nat) (hi : i < s.n) : Rf (w.setCell ⟨x.p, i, none⟩ (.string ⟨#[]⟩)) r x { s with pd := put s.pd i none } ∧ But (Rv r x) w (w.setCell ⟨x.p, i, none⟩ (.string ⟨#[]⟩)) :=
  ⟨⟨(Below.heap_setCell _ _ _ _ (by simpa using h.n2)).trans h.self, h.rl.same (Below.heap_setCell _ _ _ _ (by simpa using h.n4)), (h.rp.set i hi _).ext fun q _ => pend_drop _ _ _, h.rb.same (Below.heap_setCell _ _ _ _ (by simpa using h.n6.symm)), h.n1, h.n2, h.n3, h.n4, h.n5, h.n6⟩, But.set _ _ _ _ (.inr (.inr (.inl rfl)))⟩
set_option maxRecDepth 100000 in
set_option maxHeartbeats 1000000 in
theorem ris_any (r : Nat) (x : Rp) (s : St) (p : Nat) (hp : p ≤ 4294967295) (w : World) (h : Rf w r x s) (hk : Ok s) :
    Calls Try.prog 51 #[pt r, .int .u32 (p : Int)] w fun e w' => e = .returned (.bool (decide (p < s.n))) ∧ w' = w := by
  obtain ⟨c0, z0⟩ := h.c0
  have n1 := hk.n1
  clear h hk
  generalize s.n = k at *
  have hw : IntKind.u64.wrap (p : Int) = (p : Int) := IntWalk.u64_in _ (by omega)
  have hw2 : IntKind.u64.wrap (k : Int) = (k : Int) := IntWalk.u64_in _ (by omega)
  go_enter Try.func51, Try.ntmps51
  go_wp2_with fail
  go_ret
  exact ⟨by simp, rfl⟩
set_option maxRecDepth 100000 in
set_option maxHeartbeats 1000000 in
theorem rop_any (r : Nat) (x : Rp) (s : St) (w : World) (h : Rf w r x s) (hk : Ok s) :
    Calls Try.prog 52 #[pt r] w fun e w' => e = .returned (.int .i64 (opE s)) ∧ Rf w' r x (opS s) ∧ But (Rv r x) w w' := by
  obtain ⟨c6, z6⟩ := h.c6
  obtain ⟨c7, z7⟩ := h.c7
  have HD : Hid (Rf w r x s) := h
  have HK : Hid (Ok s) := hk
  have l0 := hk.l0
  have l1 := hk.l1
  clear h hk
  obtain ⟨n, tx, bad, pd, ended, cut, left, cnt, tag, boots⟩ := s
  simp only [lft] at c6 c7 l0 l1
  go_enter Try.func52, Try.ntmps52
  cases cut
  · simp only [Bool.false_eq_true, if_false] at c6
    cases ended
    · go_wp2_with fail
      go_ret
      exact ⟨rfl, HD.out, But.refl _ _⟩
    · go_wp2_with fail
      go_ret
      exact ⟨rfl, HD.out, But.refl _ _⟩
  · simp only [if_true] at c6
    by_cases hl : left = 0
    · subst hl
      go_wp2_with fail
      go_ret
      have := HD.out.setSelf 7 (.bool true) { n, tx, bad, pd, ended := true, cut := true, left := 0, cnt, tag, boots } rfl rfl rfl rfl rfl
      refine ⟨by cases ended <;> rfl, ?_, this.2⟩
      have e : opS { n, tx, bad, pd, ended, cut := true, left := 0, cnt, tag, boots } = { n, tx, bad, pd, ended := true, cut := true, left := 0, cnt, tag, boots } := by cases ended <;> rfl
      rw [e]
      exact this.1
    · have q1 : (left == 0) = false := by simpa using hl
      have hlp : 0 ≤ left := HK.out.lc rfl
      have q2 : 0 < left := by omega
      cases ended
      · go_wp2_with fail
        go_ret
        have := HD.out.setSelf 6 (.int .i64 (left - 1)) { n, tx, bad, pd, ended := false, cut := true, left := left - 1, cnt, tag, boots } rfl rfl rfl rfl rfl
        refine ⟨by simp [opE, opOk, hl], ?_, this.2⟩
        have e : opS { n, tx, bad, pd, ended := false, cut := true, left, cnt, tag, boots } = { n, tx, bad, pd, ended := false, cut := true, left := left - 1, cnt, tag, boots } := by simp [opS, opOk, hl]
        rw [e]
        exact this.1
      · go_wp2_with fail
        go_ret
        exact ⟨rfl, HD.out, But.refl _ _⟩
set_option maxRecDepth 100000 in
theorem nonempty_of {t : ByteArray} (h : t.size = 256) : (t.toList == []) = false := by
  rw [ByteArray.toList_eq]
  have : t.data.toList.length = 256 := by rw [Array.length_toList]; exact h
  cases e : t.data.toList with
  | nil => rw [e] at this; simp at this
  | cons a l => rfl
set_option maxRecDepth 100000 in
set_option maxHeartbeats 1000000 in
theorem rholds_any (r : Nat) (x : Rp) (s : St) (p : Nat) (hp : p < s.n) (w : World) (h : Rf w r x s) (hk : Ok s) :
    Calls Try.prog 42 #[pt r, .int .u32 (p : Int)] w fun e w' => e = .returned (.string (holdS s p)) ∧ w' = w := by
  obtain ⟨c0, z0⟩ := h.c0
  obtain ⟨c1, z1⟩ := h.c1
  obtain ⟨e1, y1⟩ := h.rl.cell p hp
  obtain ⟨e2, y2⟩ := h.rp.cell p hp
  have n1 := hk.n1
  have HK : Hid (Ok s) := hk
  have HS : Hid (holdS s p = (s.pd p).getD (s.tx p)) := rfl
  have hz := fun t => HK.out.pd p t
  unfold pend at e2
  have q1 : (p : Int) < (s.n : Int) := by omega
  have q0 : (0 : Int) ≤ (p : Int) := by omega
  clear h hk
  generalize s.tx p = t at *
  generalize s.n = k at *
  generalize s.pd p = f at *
  go_enter Try.func42, Try.ntmps42
  cases f with
  | none =>
    simp only [Option.getD_none] at e2
    go_wp2_with fail
    go_ret
    exact ⟨by rw [HS.out]; rfl, rfl⟩
  | some u =>
    simp only [Option.getD_some] at e2
    have hu := nonempty_of (hz u rfl).2
    go_wp2_with fail
    go_ret
    exact ⟨by rw [HS.out]; rfl, rfl⟩
end Go.Proofs.Ytkpfnepbnaekoaa.Rd
