/- Lists of structs in memory; rows, nodes. -/
import Derived.Test.YthneciodobeehaaPCK
import Derived.Test.YthneciodobeehaaPCJ
import Derived.Test.YthneciodobeehaaPGA
namespace Go.Proofs.Ythneciodobeehaa.Rq
open Go.RowKit
open Go.Proofs.Ythneciodobeehaa.Rc
/-- A slice's parts, and the cells that it holds, k to an element. -/
def Sl (k : Nat) (w : World) (o : Option Addr) (n cap : Nat) (cs : List Value) : Prop :=
  n ≤ cap ∧ cap ≤ maxLen ∧ (o = none → cap = 0) ∧ cs.length = n * k ∧ (0 < n → ∃ b off, o = some ⟨b, off, none⟩ ∧ b < w.heap.size ∧ ∀ j u, cs[j]? = some u → w.cell? ⟨b, off + j, none⟩ = some u)
set_option maxRecDepth 100000 in
theorem Sl.nil (k : Nat) (w : World) : Sl k w none 0 0 [] := ⟨Nat.le_refl _, by decide, fun _ => rfl, by simp, fun h => absurd h (by decide)⟩
set_option maxRecDepth 100000 in
theorem Sl.same {k : Nat} {w w' : World} {o : Option Addr} {n cap : Nat} {cs : List Value} (h : Sl k w o n cap cs) (hs : w.heap.size ≤ w'.heap.size) (hb : ∀ b off, o = some ⟨b, off, none⟩ → b < w.heap.size → w'.heap[b]? = w.heap[b]?) : Sl k w' o n cap cs := by
  refine ⟨h.1, h.2.1, h.2.2.1, h.2.2.2.1, fun hn => ?_⟩
  obtain ⟨b, off, e, hlt, hc⟩ := h.2.2.2.2 hn
  exact ⟨b, off, e, Nat.lt_of_lt_of_le hlt hs, fun j u hu => (World.cell?_of_block (a := ⟨b, off + j, none⟩) (hb b off e hlt)).trans (hc j u hu)⟩
set_option maxRecDepth 100000 in
theorem Sl.below {k : Nat} {w w' : World} {o : Option Addr} {n cap B : Nat} {cs : List Value} (h : Sl k w o n cap cs) (hb : Below B w w') (hB : w.heap.size ≤ B) : Sl k w' o n cap cs :=
  h.same hb.size fun b _ _ hlt => hb.block b (by omega)
set_option maxRecDepth 100000 in
theorem own_cellK {A : World} {base : Nat} {e : TypeId} {p cap n sz : Nat} {xs : List Value} (ho : A.ownsRow base e sz (.slice (some ⟨p, 0, none⟩) n cap) n xs) {j : Nat} {v : Value} (h : xs[j]? = some v) : A.cell? ⟨p, j, none⟩ = some v := by
  have := ho.cells (g := p) rfl j v h
  rwa [Addr.add_lit, Nat.zero_add] at this
set_option maxRecDepth 100000 in
theorem sl_of_own {k : Nat} {w : World} {base : Nat} {v : Value} {e : TypeId} {n : Nat} {cs : List Value} (h : w.ownsRow base e k v n cs) : ∃ o cap, v = .slice o n cap ∧ Sl k w o n cap cs := by
  rcases h.2 with ⟨rfl, hz⟩ | ⟨g, cap, cur, rfl, hb, hg, hnc, hcm, hcs, ht⟩
  · subst hz
    have : cs = [] := List.eq_nil_of_length_eq_zero (by rw [h.1]; simp)
    subst this
    exact ⟨none, 0, rfl, Sl.nil k w⟩
  · refine ⟨some ⟨g, 0, none⟩, cap, rfl, hnc, hcm, (fun e => by cases e), h.1, fun _ => ⟨g, 0, rfl, (Array.getElem?_eq_some_iff.1 hg).1, fun j u hu => ?_⟩⟩
    rw [Nat.zero_add]
    exact own_cellK h hu
set_option maxRecDepth 100000 in
theorem Sl.cells {k : Nat} {w : World} {o : Option Addr} {n cap : Nat} {cs : List Value} (h : Sl k w o n cap cs) (hn : 0 < n) (a : Addr) (ho : o = some a) : ∀ j u, cs[j]? = some u → w.cell? (a.add j) = some u := by
  intro j u hu
  obtain ⟨b, off, e, hlt, hc⟩ := h.2.2.2.2 hn
  obtain rfl : a = ⟨b, off, none⟩ := by rw [ho] at e; cases e; rfl
  rw [Addr.add_lit]
  exact hc j u hu
set_option maxRecDepth 100000 in
theorem flat_len {α : Type} (f : α → List Value) (k : Nat) (hk : ∀ a, (f a).length = k) (l : List α) : (l.flatMap f).length = l.length * k := by
  induction l with
  | nil => simp
  | cons a t ih => rw [List.flatMap_cons, List.length_append, ih, hk, List.length_cons, Nat.add_mul, Nat.one_mul, Nat.add_comm]
set_option maxRecDepth 100000 in
theorem flat_get {α : Type} (f : α → List Value) (k : Nat) (hk : ∀ a, (f a).length = k) : ∀ (l : List α) (i : Nat) (a : α), l[i]? = some a → ∀ j, j < k → (l.flatMap f)[i * k + j]? = (f a)[j]?
  | [], i, a, h, _, _ => by simp at h
  | b :: t, 0, a, h, j, hj => by
    simp at h; subst h
    rw [List.flatMap_cons, Nat.zero_mul, Nat.zero_add, List.getElem?_append_left (by rw [hk]; exact hj)]
  | b :: t, i + 1, a, h, j, hj => by
    rw [List.flatMap_cons, List.getElem?_append_right (by rw [hk, Nat.add_mul]; omega), hk, show (i + 1) * k + j - k = i * k + j by rw [Nat.add_mul]; omega]
    exact flat_get f k hk t i a (by simpa using h) j hj
/-- A row as a value, and its cells. -/
abbrev rv (r : Rw) : Value := .agg #[.int .u64 (r.id : Int), .int .u32 (r.x : Int), .int .u32 (r.y : Int), .string r.v]
def rc (r : Rw) : List Value := [.int .u64 (r.id : Int), .int .u32 (r.x : Int), .int .u32 (r.y : Int), .string r.v]
/-- Rows in memory. -/
def RowsAt (w : World) (o : Option Addr) (cap : Nat) (l : List Rw) : Prop := Sl 4 w o l.length cap (l.flatMap rc)
/-- Four cells hold a row. -/
def Fr (w : World) (b x : Nat) (r : Rw) : Prop := w.cell? ⟨b, x, none⟩ = some (.int .u64 (r.id : Int)) ∧ w.cell? ⟨b, x + 1, none⟩ = some (.int .u32 (r.x : Int)) ∧ w.cell? ⟨b, x + 2, none⟩ = some (.int .u32 (r.y : Int)) ∧ w.cell? ⟨b, x + 3, none⟩ = some (.string r.v)
set_option maxRecDepth 100000 in
theorem RowsAt.below {w w' : World} {o : Option Addr} {cap B : Nat} {l : List Rw} (h : RowsAt w o cap l) (hb : Below B w w') (hB : w.heap.size ≤ B) : RowsAt w' o cap l := Sl.below h hb hB
set_option maxRecDepth 100000 in
theorem RowsAt.row {w : World} {o : Option Addr} {cap : Nat} {l : List Rw} (h : RowsAt w o cap l) {i : Nat} (hi : i < l.length) : ∃ b off, o = some ⟨b, off, none⟩ ∧ b < w.heap.size ∧ ∀ i, i < l.length → Fr w b (off + i * 4) (rat l i) := by
  obtain ⟨b, off, e, hlt, hc⟩ := h.2.2.2.2 (by omega)
  refine ⟨b, off, e, hlt, fun i hi => ?_⟩
  have g := fun j hj => flat_get rc 4 (fun _ => rfl) l i _ (rat_some hi) j hj
  refine ⟨?_, ?_, ?_, ?_⟩
  · have := hc (i * 4 + 0) _ (g 0 (by omega)); rwa [show off + (i * 4 + 0) = off + i * 4 by omega] at this
  · have := hc (i * 4 + 1) _ (g 1 (by omega)); rwa [show off + (i * 4 + 1) = off + i * 4 + 1 by omega] at this
  · have := hc (i * 4 + 2) _ (g 2 (by omega)); rwa [show off + (i * 4 + 2) = off + i * 4 + 2 by omega] at this
  · have := hc (i * 4 + 3) _ (g 3 (by omega)); rwa [show off + (i * 4 + 3) = off + i * 4 + 3 by omega] at this
set_option maxRecDepth 100000 in
theorem infoRow : (Try.prog.info? 27).map (fun i => (i.zero, i.size, i.bytes)) = some (some (.agg #[.int .u64 0, .int .u32 0, .int .u32 0, .string ⟨#[]⟩]), 4, 32) := by kernel_rfl
set_option maxRecDepth 100000 in
theorem info_parts {t : TypeId} {z : Value} {s b : Nat} (h : (Try.prog.info? t).map (fun i => (i.zero, i.size, i.bytes)) = some (some z, s, b)) : ∃ i, Try.prog.info? t = some i ∧ i.zero = some z ∧ i.size = s ∧ i.bytes = b := by
  obtain ⟨i, hi, h'⟩ := Option.map_eq_some_iff.1 h
  simp at h'
  exact ⟨i, hi, h'.1, h'.2.1, h'.2.2⟩
set_option maxRecDepth 100000 in
/-- A row of its own, and more behind it. -/
theorem append_sl (t e : TypeId) {z : Value} {k by' : Nat} (ht : Try.prog.underlying t = some (.slice e)) (hz : (Try.prog.info? e).map (fun i => (i.zero, i.size, i.bytes)) = some (some z, k, by')) (hzs : z.cells.size = k) (hk : 0 < k) (hby : by' ≤ 1000)
    (w : World) (base n m : Nat) (v : Value) (p : Option Addr) (c : Nat) (cs ds : List Value) (ho : w.ownsRow base e k v n cs) (hb : base ≤ w.heap.size) (hm : Sl k w p m c ds) (h1 : ∀ u ∈ ds, u.oneCell' = true) (hs : n + m ≤ 100000) :
    ∃ v' w', (Builtin.append_ #[t, t] t #[v, .slice p m c]).run Try.prog w = .ok v' w' ∧ w'.ownsRow base e k v' (n + m) (cs ++ ds) ∧ w.grownBy w' v.ownBlock ∧ (v'.ownBlock = v.ownBlock ∨ v'.ownBlock = some w.heap.size) := by
  obtain ⟨i0, hi, hz0, hz1, hz2⟩ := info_parts hz
  cases p with
  | none =>
    have h0 := hm.2.2.1 rfl
    have h2 := hm.1
    have e0 : m = 0 := by omega
    subst h0 e0
    have : ds = [] := List.eq_nil_of_length_eq_zero (by rw [hm.2.2.2.1]; simp)
    subst this
    refine ⟨v, w, ?_, by simpa using ho, ⟨rfl, rfl, rfl, Nat.le_refl _, fun _ _ _ => rfl⟩, .inl rfl⟩
    exact run_append_owned_none (P := Try.prog) w base t t e i0 k ht hi v n _ ho
  | some a =>
    have hcell : ∀ j u, ds[j]? = some u → w.cell? (a.add j) = some u := by
      intro j u hu
      have hj := (List.getElem?_eq_some_iff.1 hu).1
      rw [hm.2.2.2.1] at hj
      refine hm.cells ?_ a rfl j u hu
      rcases Nat.eq_zero_or_pos m with h | h
      · rw [h] at hj; simp at hj
      · exact h
    obtain ⟨v', w', hr, ho', hg, _, hf⟩ := run_append_own_at (P := Try.prog) w base t t e i0 z k by' ht hi hz0 hz1 hz2 hzs hk v n cs ho a m c ds hm.2.2.2.1 hcell h1 (by simp only [maxLen]; omega) (by
      have := Nat.mul_le_mul (show n + m ≤ 100000 from hs) hby; omega) hb
    exact ⟨v', w', hr, ho', hg, hf⟩
set_option maxRecDepth 100000 in
theorem rc_one (l : List Rw) : ∀ u ∈ l.flatMap rc, u.oneCell' = true := by
  intro u hu
  obtain ⟨r, _, h⟩ := List.mem_flatMap.1 hu
  simp only [rc, List.mem_cons, List.not_mem_nil, or_false] at h
  rcases h with rfl | rfl | rfl | rfl <;> rfl
end Go.Proofs.Ythneciodobeehaa.Rq
