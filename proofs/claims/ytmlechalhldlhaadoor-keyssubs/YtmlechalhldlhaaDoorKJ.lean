/- Rings that are cut, and rings that grow. -/
import Derived.Test.YtmlechalhldlhaaDoorKH
namespace Go.Proofs.YtmlechalhldlhaaDoor.Rk
open Go.RowKit
/-- The cells of a list of keys. -/
def cellsOf : List Ky → List Value
  | [] => []
  | k :: t => .int .u32 k.1 :: .string k.2 :: cellsOf t
theorem cellsOf_length (l : List Ky) : (cellsOf l).length = l.length * 2 := by
  induction l with
  | nil => rfl
  | cons k t ih => simp only [cellsOf, List.length_cons, ih]; omega
theorem cellsOf_append (l m : List Ky) : cellsOf (l ++ m) = cellsOf l ++ cellsOf m := by
  induction l with
  | nil => rfl
  | cons k t ih => simp [cellsOf, ih]
theorem cellsOf_get (l : List Ky) (i : Nat) (h : i < l.length) : (cellsOf l)[i * 2]? = some (.int .u32 (kat l i).1) ∧ (cellsOf l)[i * 2 + 1]? = some (.string (kat l i).2) := by
  induction l generalizing i with
  | nil => simp at h
  | cons k t ih =>
    cases i with
    | zero => simp [cellsOf, kat]
    | succ i =>
      have := ih i (by simpa using h)
      rw [show (i + 1) * 2 = i * 2 + 2 by omega]
      simpa [cellsOf, kat] using this
theorem cellsOf_one (l : List Ky) : ∀ u ∈ cellsOf l, u.oneCell' = true := by
  induction l with
  | nil => intro u hu; simp [cellsOf] at hu
  | cons k t ih =>
    intro u hu
    simp only [cellsOf, List.mem_cons] at hu
    rcases hu with rfl | rfl | h
    · rfl
    · rfl
    · exact ih u h
/-- A ring's cells, one by one. -/
theorem Ring.cells {w : World} {o : Option Addr} {cap : Nat} {l : List Ky} (h : Ring w o cap l) (a : Addr) (ho : o = some a) : ∀ j u, (cellsOf l)[j]? = some u → w.cell? (a.add j) = some u := by
  intro j u hu
  have hj : j < l.length * 2 := by have := (List.getElem?_eq_some_iff.1 hu).1; rwa [cellsOf_length] at this
  obtain ⟨b, off, e, hlt, hc⟩ := h.2.2.2 (by intro e; rw [e] at hj; simp at hj)
  obtain rfl : a = ⟨b, off, none⟩ := by rw [ho] at e; cases e; rfl
  have h2 := hc (j / 2) (by omega)
  have g2 := cellsOf_get l (j / 2) (by omega)
  rw [Addr.add_lit]
  rcases Nat.mod_two_eq_zero_or_one j with hm | hm
  · have e : j = j / 2 * 2 := by omega
    rw [e] at hu ⊢
    rw [g2.1] at hu; cases hu
    exact h2.1
  · have e : j = j / 2 * 2 + 1 := by omega
    rw [e] at hu ⊢
    rw [g2.2] at hu; cases hu
    exact h2.2
theorem Ring.tail {w : World} {o : Option Addr} {cap : Nat} {l : List Ky} (h : Ring w o cap l) (n : Nat) (hn : n ≤ l.length) : Ring w (if cap = n then o else o.map (·.add (n * 2))) (cap - n) (l.drop n) := by
  refine ⟨by rw [List.length_drop]; have := h.1; omega, by have := h.2.1; omega, fun e => ?_, fun hl => ?_⟩
  · split at e
    · rw [h.2.2.1 e]; omega
    · cases o with
      | none => rw [h.2.2.1 rfl]; omega
      | some a => cases e
  · have hlt : n < l.length := by
      rcases Nat.lt_or_ge n l.length with h | h
      · exact h
      · exact absurd (List.drop_eq_nil_iff.2 h) hl
    obtain ⟨b, off, rfl, hb, hc⟩ := h.2.2.2 (by intro e; rw [e] at hlt; simp at hlt)
    rw [if_neg (by have := h.1; omega)]
    refine ⟨b, off + n * 2, by simp [Addr.add_lit], hb, fun i hi => ?_⟩
    rw [List.length_drop] at hi
    have := hc (n + i) (by omega)
    rw [show off + n * 2 + i * 2 = off + (n + i) * 2 by omega]
    have e : kat (l.drop n) i = kat l (n + i) := by unfold kat; rw [List.getElem?_drop]
    rw [e]; exact this
theorem Ring.head {w : World} {o : Option Addr} {cap : Nat} {l : List Ky} (h : Ring w o cap l) (n c : Nat) (hn : n ≤ l.length) (hc : n ≤ c) (hcc : c ≤ cap) : Ring w o c (l.take n) := by
  refine ⟨by rw [List.length_take]; omega, by have := h.2.1; omega, fun e => by have := h.2.2.1 e; omega, fun hl => ?_⟩
  have hne : l ≠ [] := by intro e; rw [e] at hl; simp at hl
  obtain ⟨b, off, e, hb, hk⟩ := h.2.2.2 hne
  refine ⟨b, off, e, hb, fun i hi => ?_⟩
  rw [List.length_take] at hi
  have e : kat (l.take n) i = kat l i := by unfold kat; rw [List.getElem?_take_of_lt (by omega)]
  rw [e]; exact hk i (by omega)
theorem run_tail (o : Option Addr) (n cap k : Nat) (w : World) (hk : k ≤ n) : (Instr.sliceAt 30 (.slice o n cap) (some (.int .i64 (k : Int))) none none).run Tryd.prog w = .ok (.slice (if cap = k then o else o.map (·.add (k * 2))) (n - k) (cap - k)) w := by
  have h1 : (k : Int) ≤ (n : Int) := by omega
  simp [Instr.sliceAt, Instr.slice, run_underlying Tryd.underlying30, go_sem]
  intro h
  omega
theorem run_head3 (o : Option Addr) (n cap k : Nat) (w : World) (hk : k ≤ cap) : (Instr.sliceAt 30 (.slice o n cap) none (some (.int .i64 (k : Int))) (some (.int .i64 (k : Int)))).run Tryd.prog w = .ok (.slice o k k) w := by
  have h1 : (k : Int) ≤ (cap : Int) := by omega
  simp [Instr.sliceAt, Instr.slice, run_underlying Tryd.underlying30, go_sem]
  intro h
  omega
theorem ring_of_own {w : World} {base : Nat} {v : Value} {l : List Ky} {n : Nat} (h : w.ownsRow base 24 2 v n (cellsOf l)) : n = l.length ∧ ∃ o cap, v = .slice o l.length cap ∧ Ring w o cap l := by
  have hn : n = l.length := by have := h.1; rw [cellsOf_length] at this; omega
  subst hn
  refine ⟨rfl, ?_⟩
  rcases h.2 with ⟨rfl, hz⟩ | ⟨g, cap, cur, rfl, hb, hg, hnc, hcm, hcs, ht⟩
  · have : l = [] := List.eq_nil_of_length_eq_zero hz
    subst this
    exact ⟨none, 0, rfl, Nat.le_refl _, by decide, fun _ => rfl, fun h => absurd rfl h⟩
  · refine ⟨some ⟨g, 0, none⟩, cap, rfl, hnc, hcm, (fun e => by cases e), fun _ => ⟨g, 0, rfl, (Array.getElem?_eq_some_iff.1 hg).1, fun i hi => ?_⟩⟩
    obtain ⟨g1, g2⟩ := cellsOf_get l i hi
    rw [Nat.zero_add]
    exact ⟨own_cellK h g1, own_cellK h g2⟩
theorem nil_ring (w : World) : Ring w none 0 [] := ⟨Nat.le_refl _, by decide, fun _ => rfl, fun h => absurd rfl h⟩
/-- A key in two new cells is a ring of its own. -/
theorem one_ring {w : World} {g : Nat} {k : Ky} {t : TypeId} {fr : Nat × Nat} (h : w.heap[g]? = some (.cells #[.int .u32 k.1, .string k.2] t fr)) : Ring w (some ⟨g, 0, none⟩) 1 [k] := by
  refine ⟨Nat.le_refl _, by decide, (fun e => by cases e), fun _ => ⟨g, 0, rfl, (Array.getElem?_eq_some_iff.1 h).1, fun i hi => ?_⟩⟩
  obtain rfl : i = 0 := by simpa using hi
  exact ⟨by rw [cell_of_row _ _ _ _ _ _ h]; rfl, by rw [cell_of_row _ _ _ _ _ _ h]; rfl⟩
/-- A ring without spare room, and a key: new memory. -/
theorem append_new (w : World) (o p : Option Addr) (c : Nat) (l m : List Ky) (hl : Ring w o l.length l) (hm : Ring w p c m) (hm0 : m ≠ []) (hs : l.length + m.length ≤ 1000) :
    ∃ v' w', (Builtin.append_ #[30, 30] 30 #[.slice o l.length l.length, .slice p m.length c]).run Tryd.prog w = .ok v' w' ∧ w'.ownsRow w.heap.size 24 2 v' (l.length + m.length) (cellsOf (l ++ m)) ∧ w.grownBy w' none := by
  obtain ⟨i0, hi, hz0, hz1, hz2⟩ := info_parts infoKey
  obtain ⟨b, off, rfl, hb, hc⟩ := hm.2.2.2 hm0
  have hml : 0 < m.length := List.length_pos_iff.2 hm0
  rw [cellsOf_append]
  cases o with
  | none =>
    have h0 := hl.2.2.1 rfl
    have : l = [] := List.eq_nil_of_length_eq_zero h0
    subst this
    obtain ⟨v', w', hr, ho, hg, _, _⟩ := run_append_own_at (P := Tryd.prog) w w.heap.size 30 30 24 i0 _ 2 24 Tryd.underlying30 hi hz0 hz1 hz2 rfl (by decide) (.slice none 0 0) 0 [] (World.ownsRow_nil _ _ _ _) ⟨b, off, none⟩ m.length c (cellsOf m) (cellsOf_length m) (hm.cells _ rfl) (cellsOf_one m) (by simp only [maxLen]; omega) (by omega) (Nat.le_refl _)
    exact ⟨v', w', hr, ho, hg⟩
  | some a =>
    exact run_append_arg_grows (P := Tryd.prog) w 30 30 24 i0 _ 2 24 Tryd.underlying30 hi hz0 hz1 hz2 rfl (by decide) a l.length l.length (cellsOf l) (cellsOf_length l) (hl.cells a rfl) ⟨b, off, none⟩ m.length c (cellsOf m) (cellsOf_length m) (hm.cells _ rfl) (by omega) (by simp only [maxLen]; omega) (by omega)
/-- A row of its own, and a ring behind it. -/
theorem append_own (w : World) (base n : Nat) (v : Value) (p : Option Addr) (c : Nat) (l m : List Ky) (ho : w.ownsRow base 24 2 v n (cellsOf l)) (hb : base ≤ w.heap.size) (hm : Ring w p c m) (hs : l.length + m.length ≤ 1000) :
    ∃ v' w', (Builtin.append_ #[30, 30] 30 #[v, .slice p m.length c]).run Tryd.prog w = .ok v' w' ∧ w'.ownsRow base 24 2 v' (n + m.length) (cellsOf (l ++ m)) ∧ w.grownBy w' v.ownBlock := by
  obtain ⟨i0, hi, hz0, hz1, hz2⟩ := info_parts infoKey
  have hn := (ring_of_own ho).1
  rw [cellsOf_append]
  cases p with
  | none =>
    have h0 := hm.2.2.1 rfl
    have h1 := hm.1
    have : m = [] := List.eq_nil_of_length_eq_zero (by omega)
    subst this h0
    refine ⟨v, w, ?_, by simpa [cellsOf] using ho, ⟨rfl, rfl, rfl, Nat.le_refl _, fun _ _ _ => rfl⟩⟩
    exact run_append_owned_none (P := Tryd.prog) w base 30 30 24 i0 2 Tryd.underlying30 hi v n _ ho
  | some a =>
    obtain ⟨v', w', hr, ho', hg, _, _⟩ := run_append_own_at (P := Tryd.prog) w base 30 30 24 i0 _ 2 24 Tryd.underlying30 hi hz0 hz1 hz2 rfl (by decide) v n (cellsOf l) ho a m.length c (cellsOf m) (cellsOf_length m) (hm.cells a rfl) (cellsOf_one m) (by simp only [maxLen]; omega) (by omega) hb
    exact ⟨v', w', hr, ho', hg⟩
end Go.Proofs.YtmlechalhldlhaaDoor.Rk
