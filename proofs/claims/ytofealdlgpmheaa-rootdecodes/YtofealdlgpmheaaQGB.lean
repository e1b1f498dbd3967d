/- Lists of structs in memory; rows, nodes. -/
import Derived.Test.YtofealdlgpmheaaQCC
import Derived.Test.YtofealdlgpmheaaPCK
import Derived.Test.YtofealdlgpmheaaPCJ
import Derived.Test.YtofealdlgpmheaaPGA
namespace Go.Proofs.Ytofealdlgpmheaa.Rq
open Go.RowKit
open Go.Proofs.Ytofealdlgpmheaa.Rc
/-- A slice's parts, and the cells that it holds, k to an element. -/
def Sl (k : Nat) (w : World) (o : Option Addr) (n cap : Nat) (cs : List Value) : Prop :=
  n ≤ cap ∧ cap ≤ maxLen ∧ (o = none → cap = 0) ∧ cs.length = n * k ∧ (0 < n → ∃ b off, o = some ⟨b, off, none⟩ ∧ b < w.heap.size ∧ ∀ j u, cs[j]? = some u → w.cell? ⟨b, off + j, none⟩ = some u)
set_option maxRecDepth 100000 in
theorem Sl.nil (k : Nat) (w : World) : Sl k w none 0 0 [] := ⟨Nat.le_refl _, by decide, fun _ => rfl, by simp, fun h => absurd h (by decide)⟩
set_option maxRecDepth 100000 in
theorem Sl.same {k : Nat} {w w' : World} {o : Option Addr} {n cap : Nat} {cs : List Value} (h : Sl k w o n cap cs) (hs : w.heap.size ≤ w'.heap.size) (hb : ∀ b off, o = some ⟨b, off, none⟩ → b < w.heap.size → w'.heap[b]? = w.heap[b]?) : Sl k w' o n cap cs := by
  refine ⟨h.1, h.2.1, h.2.2.1, h.2.2.2.1, fun hn => ?_⟩
  obtain ⟨b, off, e, hlt, hc⟩ := h.2.2.2.2 hn
  exact ⟨b, off, e, Nat.lt_of_lt_of_le hlt hs, fun j u hu => (World.cell?_of_block (a := ⟨b, off + j, none⟩) (hb b off e hlt)).trans (hc j u hu)⟩
set_option maxRecDepth 100000 in
theorem Sl.below {k : Nat} {w w' : World} {o : Option Addr} {n cap B : Nat} {cs : List Value} (h : Sl k w o n cap cs) (hb : Below B w w') (hB : w.heap.size ≤ B) : Sl k w' o n cap cs :=
  h.same hb.size fun b _ _ hlt => hb.block b (by omega)
set_option maxRecDepth 100000 in
theorem own_cellK {A : World} {base : Nat} {e : TypeId} {p cap n sz : Nat} {xs : List Value} (ho : A.ownsRow base e sz (.slice (some ⟨p, 0, none⟩) n cap) n xs) {j : Nat} {v : Value} (h : xs[j]? = some v) : A.cell? ⟨p, j, none⟩ = some v := by
  have := ho.cells (g := p) rfl j v h
  rwa [Addr.add_lit, Nat.zero_add] at this
set_option maxRecDepth 100000 in
theorem sl_of_own {k : Nat} {w : World} {base : Nat} {v : Value} {e : TypeId} {n : Nat} {cs : List Value} (h : w.ownsRow base e k v n cs) : ∃ o cap, v = .slice o n cap ∧ Sl k w o n cap cs := by
  rcases h.2 with ⟨rfl, hz⟩ | ⟨g, cap, cur, rfl, hb, hg, hnc, hcm, hcs, ht⟩
  · subst hz
    have : cs = [] := List.eq_nil_of_length_eq_zero (by rw [h.1]; simp)
    subst this
    exact ⟨none, 0, rfl, Sl.nil k w⟩
  · refine ⟨some ⟨g, 0, none⟩, cap, rfl, hnc, hcm, (fun e => by cases e), h.1, fun _ => ⟨g, 0, rfl, (Array.getElem?_eq_some_iff.1 hg).1, fun j u hu => ?_⟩⟩
    rw [Nat.zero_add]
    exact own_cellK h hu
set_option maxRecDepth 100000 in
theorem Sl.cells {k : Nat} {w : World} {o : Option Addr} {n cap : Nat} {cs : List Value} (h : Sl k w o n cap cs) (hn : 0 < n) (a : Addr) (ho : o = some a) : ∀ j u, cs[j]? = some u → w.cell? (a.add j) = some u := by
  intro j u hu
  obtain ⟨b, off, e, hlt, hc⟩ := h.2.2.2.2 hn
  obtain rfl : a = ⟨b, off, none⟩ := by rw [ho] at e; cases e; rfl
  rw [Addr.add_lit]
  exact hc j u hu
set_option maxRecDepth 100000 in
theorem flat_len {α : Type} (f : α → List Value) (k : Nat) (hk : ∀ a, (f a).length = k) (l : List α) : (l.flatMap f).length = l.length * k := by
  induction l with
  | nil => simp
  | cons a t ih => rw [List.flatMap_cons, List.length_append, ih, hk, List.length_cons, Nat.add_mul, Nat.one_mul, Nat.add_comm]
set_option maxRecDepth 100000 in
theorem flat_get {α : Type} (f : α → List Value) (k : Nat) (hk : ∀ a, (f a).length = k) : ∀ (l : List α) (i : Nat) (a : α), l[i]? = some a → ∀ j, j < k → (l.flatMap f)[i * k + j]? = (f a)[j]?
  | [], i, a, h, _, _ => by simp at h
  | b :: t, 0, a, h, j, hj => by
    simp at h; subst h
    rw [List.flatMap_cons, Nat.zero_mul, Nat.zero_add, List.getElem?_append_left (by rw [hk]; exact hj)]
  | b :: t, i + 1, a, h, j, hj => by
    rw [List.flatMap_cons, List.getElem?_append_right (by rw [hk, Nat.add_mul]; omega), hk, show (i + 1) * k + j - k = i * k + j by rw [Nat.add_mul]; omega]
    exact flat_get f k hk t i a (by simpa using h) j hj
/-- A row as a value, and its cells. -/
abbrev rv (r : Rw) : Value := .agg #[.int .u64 (r.id : Int), .int .u32 (r.x : Int), .int .u32 (r.y : Int), .string r.v]
def rc (r : Rw) : List Value := [.int .u64 (r.id : Int), .int .u32 (r.x : Int), .int .u32 (r.y : Int), .string r.v]
/-- Rows in memory. -/
def RowsAt (w : World) (o : Option Addr) (cap : Nat) (l : List Rw) : Prop := Sl 4 w o l.length cap (l.flatMap rc)
/-- Four cells hold a row. -/
def Fr (w : World) (b x : Nat) (r : Rw) : Prop := w.cell? ⟨b, x, none⟩ = some (.int .u64 (r.id : Int)) ∧ w.cell? ⟨b, x + 1, none⟩ = some (.int .u32 (r.x : Int)) ∧ w.cell? ⟨b, x + 2, none⟩ = some (.int .u32 (r.y : Int)) ∧ w.cell? ⟨b, x + 3, none⟩ = some (.string r.v)
set_option maxRecDepth 100000 in
theorem Fr.same {w w' : World} {b x : Nat} {r : Rw} (h : Fr w b x r) (e : w'.heap[b]? = w.heap[b]?) : Fr w' b x r :=
  ⟨(World.cell?_of_block (a := ⟨b, x, none⟩) e).trans h.1, (World.cell?_of_block (a := ⟨b, x + 1, none⟩) e).trans h.2.1, (World.cell?_of_block (a := ⟨b, x + 2, none⟩) e).trans h.2.2.1, (World.cell?_of_block (a := ⟨b, x + 3, none⟩) e).trans h.2.2.2⟩
set_option maxRecDepth 100000 in
theorem RowsAt.below {w w' : World} {o : Option Addr} {cap B : Nat} {l : List Rw} (h : RowsAt w o cap l) (hb : Below B w w') (hB : w.heap.size ≤ B) : RowsAt w' o cap l := Sl.below h hb hB
set_option maxRecDepth 100000 in
theorem RowsAt.row {w : World} {o : Option Addr} {cap : Nat} {l : List Rw} (h : RowsAt w o cap l) {i : Nat} (hi : i < l.length) : ∃ b off, o = some ⟨b, off, none⟩ ∧ b < w.heap.size ∧ ∀ i, i < l.length → Fr w b (off + i * 4) (rat l i) := by
  obtain ⟨b, off, e, hlt, hc⟩ := h.2.2.2.2 (by omega)
  refine ⟨b, off, e, hlt, fun i hi => ?_⟩
  have g := fun j hj => flat_get rc 4 (fun _ => rfl) l i _ (rat_some hi) j hj
  refine ⟨?_, ?_, ?_, ?_⟩
  · have := hc (i * 4 + 0) _ (g 0 (by omega)); rwa [show off + (i * 4 + 0) = off + i * 4 by omega] at this
  · have := hc (i * 4 + 1) _ (g 1 (by omega)); rwa [show off + (i * 4 + 1) = off + i * 4 + 1 by omega] at this
  · have := hc (i * 4 + 2) _ (g 2 (by omega)); rwa [show off + (i * 4 + 2) = off + i * 4 + 2 by omega] at this
  · have := hc (i * 4 + 3) _ (g 3 (by omega)); rwa [show off + (i * 4 + 3) = off + i * 4 + 3 by omega] at this
/-- A node as a value: its cell, the slice of its rows, the slice of its kids. -/
structure Nv where
  X : Nat
  Y : Nat
  L : Nat
  ro : Option Addr
  rn : Nat
  rc : Nat
  ko : Option Addr
  kn : Nat
  kc : Nat
abbrev nv (n : Nv) : Value := .agg #[.int .u32 (n.X : Int), .int .u32 (n.Y : Int), .int .i64 (n.L : Int), .slice n.ro n.rn n.rc, .slice n.ko n.kn n.kc]
def nc (n : Nv) : List Value := [.int .u32 (n.X : Int), .int .u32 (n.Y : Int), .int .i64 (n.L : Int), .slice n.ro n.rn n.rc, .slice n.ko n.kn n.kc]
/-- Five cells hold a node. -/
def Fn5 (w : World) (b x : Nat) (n : Nv) : Prop := w.cell? ⟨b, x, none⟩ = some (.int .u32 (n.X : Int)) ∧ w.cell? ⟨b, x + 1, none⟩ = some (.int .u32 (n.Y : Int)) ∧ w.cell? ⟨b, x + 2, none⟩ = some (.int .i64 (n.L : Int)) ∧ w.cell? ⟨b, x + 3, none⟩ = some (.slice n.ro n.rn n.rc) ∧ w.cell? ⟨b, x + 4, none⟩ = some (.slice n.ko n.kn n.kc)
set_option maxRecDepth 100000 in
theorem Fn5.same {w w' : World} {b x : Nat} {n : Nv} (h : Fn5 w b x n) (e : w'.heap[b]? = w.heap[b]?) : Fn5 w' b x n :=
  ⟨(World.cell?_of_block (a := ⟨b, x, none⟩) e).trans h.1, (World.cell?_of_block (a := ⟨b, x + 1, none⟩) e).trans h.2.1, (World.cell?_of_block (a := ⟨b, x + 2, none⟩) e).trans h.2.2.1, (World.cell?_of_block (a := ⟨b, x + 3, none⟩) e).trans h.2.2.2.1, (World.cell?_of_block (a := ⟨b, x + 4, none⟩) e).trans h.2.2.2.2⟩
def NodesAt (w : World) (o : Option Addr) (cap : Nat) (l : List Nv) : Prop := Sl 5 w o l.length cap (l.flatMap nc)
set_option maxRecDepth 100000 in
theorem NodesAt.node {w : World} {o : Option Addr} {cap : Nat} {l : List Nv} (h : NodesAt w o cap l) (h0 : 0 < l.length) : ∃ b off, o = some ⟨b, off, none⟩ ∧ b < w.heap.size ∧ ∀ i (hi : i < l.length), Fn5 w b (off + i * 5) l[i] := by
  obtain ⟨b, off, e, hlt, hc⟩ := h.2.2.2.2 h0
  refine ⟨b, off, e, hlt, fun i hi => ?_⟩
  have g := fun j hj => flat_get nc 5 (fun _ => rfl) l i _ (List.getElem?_eq_getElem hi) j hj
  refine ⟨?_, ?_, ?_, ?_, ?_⟩
  · have := hc (i * 5 + 0) _ (g 0 (by omega)); rwa [show off + (i * 5 + 0) = off + i * 5 by omega] at this
  · have := hc (i * 5 + 1) _ (g 1 (by omega)); rwa [show off + (i * 5 + 1) = off + i * 5 + 1 by omega] at this
  · have := hc (i * 5 + 2) _ (g 2 (by omega)); rwa [show off + (i * 5 + 2) = off + i * 5 + 2 by omega] at this
  · have := hc (i * 5 + 3) _ (g 3 (by omega)); rwa [show off + (i * 5 + 3) = off + i * 5 + 3 by omega] at this
  · have := hc (i * 5 + 4) _ (g 4 (by omega)); rwa [show off + (i * 5 + 4) = off + i * 5 + 4 by omega] at this
/-- A slice that holds something holds it in one of some blocks. -/
def Lies (G : Nat → Prop) (o : Option Addr) (n : Nat) : Prop := 0 < n → ∀ b off, o = some ⟨b, off, none⟩ → G b
/-- A node is the tree of rows, in some blocks. -/
def NodeAt (G : Nat → Prop) : Nat → World → Nv → List Rw → Prop
  | 0, _, _, _ => False
  | d + 1, w, n, l => n.X = cx l ∧ n.Y = cy l ∧ n.L = lev l ∧
    (leaf l = true → n.rn = l.length ∧ RowsAt w n.ro n.rc l ∧ Lies G n.ro l.length ∧ n.kn = 0 ∧ NodesAt w n.ko n.kc []) ∧
    (leaf l = false → n.rn = 0 ∧ RowsAt w n.ro n.rc [] ∧ ∃ ks : List Nv, n.kn = ks.length ∧ ks.length = (kidsL l).length ∧ NodesAt w n.ko n.kc ks ∧ Lies G n.ko ks.length ∧ ∀ i (h1 : i < ks.length) (h2 : i < (kidsL l).length), NodeAt G d w ks[i] (kidsL l)[i])
set_option maxRecDepth 100000 in
theorem Sl.lies {k : Nat} {w w' : World} {o : Option Addr} {n cap : Nat} {cs : List Value} {G : Nat → Prop} (h : Sl k w o n cap cs) (hl : Lies G o n) (hs : w.heap.size ≤ w'.heap.size) (hk : ∀ b, G b → b < w.heap.size → w'.heap[b]? = w.heap[b]?) : Sl k w' o n cap cs := by
  refine ⟨h.1, h.2.1, h.2.2.1, h.2.2.2.1, fun hn => ?_⟩
  obtain ⟨b, off, e, hlt, hc⟩ := h.2.2.2.2 hn
  exact ⟨b, off, e, Nat.lt_of_lt_of_le hlt hs, fun j u hu => (World.cell?_of_block (a := ⟨b, off + j, none⟩) (hk b (hl hn b off e) hlt)).trans (hc j u hu)⟩
set_option maxRecDepth 100000 in
theorem Sl.none {k : Nat} {w w' : World} {o : Option Addr} {cap : Nat} {cs : List Value} (h : Sl k w o 0 cap cs) : Sl k w' o 0 cap cs := ⟨h.1, h.2.1, h.2.2.1, h.2.2.2.1, fun hn => absurd hn (by decide)⟩
set_option maxRecDepth 100000 in
theorem NodeAt.same {G : Nat → Prop} : ∀ {d : Nat} {w w' : World} {n : Nv} {l : List Rw}, NodeAt G d w n l → w.heap.size ≤ w'.heap.size → (∀ b, G b → b < w.heap.size → w'.heap[b]? = w.heap[b]?) → NodeAt G d w' n l
  | 0, _, _, _, _, h, _, _ => h
  | d + 1, w, w', n, l, h, hs, hk => by
    obtain ⟨h1, h2, h3, h4, h5⟩ := h
    refine ⟨h1, h2, h3, fun hl => ?_, fun hl => ?_⟩
    · obtain ⟨a, b, b', c, e⟩ := h4 hl
      exact ⟨a, Sl.lies b b' hs hk, b', c, Sl.none e⟩
    · obtain ⟨a, b, ks, c, e, f, f', g⟩ := h5 hl
      exact ⟨a, Sl.none b, ks, c, e, Sl.lies f f' hs hk, f', fun i i1 i2 => (g i i1 i2).same hs hk⟩
set_option maxRecDepth 100000 in
theorem NodeAt.mono {G G' : Nat → Prop} : ∀ {d : Nat} {w : World} {n : Nv} {l : List Rw}, NodeAt G d w n l → (∀ b, b < w.heap.size → G b → G' b) → NodeAt G' d w n l
  | 0, _, _, _, h, _ => h
  | d + 1, w, n, l, h, hG => by
    obtain ⟨h1, h2, h3, h4, h5⟩ := h
    refine ⟨h1, h2, h3, fun hl => ?_, fun hl => ?_⟩
    · obtain ⟨a, b, b', c, e⟩ := h4 hl
      refine ⟨a, b, fun hn x off ho => ?_, c, e⟩
      obtain ⟨x', off', e', hlt, _⟩ := b.2.2.2.2 hn
      rw [ho] at e'; cases e'
      exact hG x hlt (b' hn x off ho)
    · obtain ⟨a, b, ks, c, e, f, f', g⟩ := h5 hl
      refine ⟨a, b, ks, c, e, f, fun hn x off ho => ?_, fun i i1 i2 => (g i i1 i2).mono hG⟩
      obtain ⟨x', off', e', hlt, _⟩ := f.2.2.2.2 hn
      rw [ho] at e'; cases e'
      exact hG x hlt (f' hn x off ho)
set_option maxRecDepth 100000 in
theorem NodeAt.below {G : Nat → Prop} {d : Nat} {w w' : World} {n : Nv} {l : List Rw} {B : Nat} (h : NodeAt G d w n l) (hb : Below B w w') (hB : w.heap.size ≤ B) : NodeAt G d w' n l :=
  h.same hb.size fun b _ hlt => hb.block b (by omega)
set_option maxRecDepth 100000 in
theorem NodeAt.more {G : Nat → Prop} : ∀ {d : Nat} {w : World} {n : Nv} {l : List Rw}, NodeAt G d w n l → NodeAt G (d + 1) w n l
  | 0, _, _, _, h => h.elim
  | d + 1, w, n, l, h => by
    obtain ⟨h1, h2, h3, h4, h5⟩ := h
    refine ⟨h1, h2, h3, h4, fun hl => ?_⟩
    obtain ⟨a, b, ks, c, e, f, f', g⟩ := h5 hl
    exact ⟨a, b, ks, c, e, f, f', fun i i1 i2 => (g i i1 i2).more⟩
set_option maxRecDepth 100000 in
theorem info_parts {t : TypeId} {z : Value} {s b : Nat} (h : (Try.prog.info? t).map (fun i => (i.zero, i.size, i.bytes)) = some (some z, s, b)) : ∃ i, Try.prog.info? t = some i ∧ i.zero = some z ∧ i.size = s ∧ i.bytes = b := by
  obtain ⟨i, hi, h'⟩ := Option.map_eq_some_iff.1 h
  simp at h'
  exact ⟨i, hi, h'.1, h'.2.1, h'.2.2⟩
set_option maxRecDepth 100000 in
/-- A row of its own, and more behind it. -/
theorem append_sl (t e : TypeId) {z : Value} {k by' : Nat} (ht : Try.prog.underlying t = some (.slice e)) (hz : (Try.prog.info? e).map (fun i => (i.zero, i.size, i.bytes)) = some (some z, k, by')) (hzs : z.cells.size = k) (hk : 0 < k) (hby : by' ≤ 1000)
    (w : World) (base n m : Nat) (v : Value) (p : Option Addr) (c : Nat) (cs ds : List Value) (ho : w.ownsRow base e k v n cs) (hb : base ≤ w.heap.size) (hm : Sl k w p m c ds) (h1 : ∀ u ∈ ds, u.oneCell' = true) (hs : n + m ≤ 100000) :
    ∃ v' w', (Builtin.append_ #[t, t] t #[v, .slice p m c]).run Try.prog w = .ok v' w' ∧ w'.ownsRow base e k v' (n + m) (cs ++ ds) ∧ w.grownBy w' v.ownBlock ∧ (v'.ownBlock = v.ownBlock ∨ v'.ownBlock = some w.heap.size) := by
  obtain ⟨i0, hi, hz0, hz1, hz2⟩ := info_parts hz
  cases p with
  | none =>
    have h0 := hm.2.2.1 rfl
    have h2 := hm.1
    have e0 : m = 0 := by omega
    subst h0 e0
    have : ds = [] := List.eq_nil_of_length_eq_zero (by rw [hm.2.2.2.1]; simp)
    subst this
    refine ⟨v, w, ?_, by simpa using ho, ⟨rfl, rfl, rfl, Nat.le_refl _, fun _ _ _ => rfl⟩, .inl rfl⟩
    exact run_append_owned_none (P := Try.prog) w base t t e i0 k ht hi v n _ ho
  | some a =>
    have hcell : ∀ j u, ds[j]? = some u → w.cell? (a.add j) = some u := by
      intro j u hu
      have hj := (List.getElem?_eq_some_iff.1 hu).1
      rw [hm.2.2.2.1] at hj
      refine hm.cells ?_ a rfl j u hu
      rcases Nat.eq_zero_or_pos m with h | h
      · rw [h] at hj; simp at hj
      · exact h
    obtain ⟨v', w', hr, ho', hg, _, hf⟩ := run_append_own_at (P := Try.prog) w base t t e i0 z k by' ht hi hz0 hz1 hz2 hzs hk v n cs ho a m c ds hm.2.2.2.1 hcell h1 (by simp only [maxLen]; omega) (by
      have := Nat.mul_le_mul (show n + m ≤ 100000 from hs) hby; omega) hb
    exact ⟨v', w', hr, ho', hg, hf⟩
set_option maxRecDepth 100000 in
theorem rc_one (l : List Rw) : ∀ u ∈ l.flatMap rc, u.oneCell' = true := by
  intro u hu
  obtain ⟨r, _, h⟩ := List.mem_flatMap.1 hu
  simp only [rc, List.mem_cons, List.not_mem_nil, or_false] at h
  rcases h with rfl | rfl | rfl | rfl <;> rfl
set_option maxRecDepth 100000 in
theorem nc_one (l : List Nv) : ∀ u ∈ l.flatMap nc, u.oneCell' = true := by
  intro u hu
  obtain ⟨r, _, h⟩ := List.mem_flatMap.1 hu
  simp only [nc, List.mem_cons, List.not_mem_nil, or_false] at h
  rcases h with rfl | rfl | rfl | rfl | rfl <;> rfl
end Go.Proofs.Ytofealdlgpmheaa.Rq
/- A range over a function whose body owns blocks, some of them new; what the function itself keeps is no block of the body's. -/
namespace Go.Proofs.Ytofealdlgpmheaa.Rq
open Go.RowKit
open Go.Proofs.Ytofealdlgpmheaa.Rc
/-- All but some blocks are as they were. -/
structure But (S : Nat → Prop) (w w' : World) : Prop where
  os : w'.os = w.os
  tape : w'.tape = w.tape
  output : w'.output = w.output
  size : w.heap.size ≤ w'.heap.size
  block : ∀ k, k < w.heap.size → ¬ S k → w'.heap[k]? = w.heap[k]?
theorem But.refl (S : Nat → Prop) (w : World) : But S w w := ⟨rfl, rfl, rfl, Nat.le_refl _, fun _ _ _ => rfl⟩
theorem But.trans {S : Nat → Prop} {a b c : World} (h : But S a b) (k : But S b c) : But S a c :=
  ⟨k.os.trans h.os, k.tape.trans h.tape, k.output.trans h.output, Nat.le_trans h.size k.size, fun i hi hs => (k.block i (Nat.lt_of_lt_of_le hi h.size) hs).trans (h.block i hi hs)⟩
theorem But.of_below {S : Nat → Prop} {w w' : World} (h : Below w.heap.size w w') : But S w w' := ⟨h.os, h.tape, h.output, h.size, fun k hk _ => h.block k hk⟩
theorem But.more {S S' : Nat → Prop} {w w' : World} (h : But S w w') (hs : ∀ k, k < w.heap.size → S k → S' k) : But S' w w' := ⟨h.os, h.tape, h.output, h.size, fun k hk hn => h.block k hk fun e => hn (hs k hk e)⟩
theorem But.below {S : Nat → Prop} {w w' : World} {B : Nat} (h : But S w w') (hs : ∀ k, S k → B ≤ k) (hB : B ≤ w.heap.size) : Below B w w' :=
  ⟨h.os, h.tape, h.output, h.size, fun k hk => h.block k (by omega) fun e => by have := hs k e; omega⟩
theorem But.put {S : Nat → Prop} (w : World) (l : Nat) (o : Obj) (hl : S l) : But S w (w.putObj l o) :=
  ⟨rfl, rfl, rfl, by simp [World.putObj], fun k _ hn => World.putObj_heap_other fun e => hn (by rw [e]; exact hl)⟩
/-- The blocks below a place, and some more, are as they were. -/
structure Kw (B : Nat) (own : Nat → Prop) (w w' : World) : Prop where
  os : w'.os = w.os
  tape : w'.tape = w.tape
  output : w'.output = w.output
  size : w.heap.size ≤ w'.heap.size
  block : ∀ k, k < w.heap.size → (k < B ∨ own k) → w'.heap[k]? = w.heap[k]?
theorem Kw.below {B : Nat} {own : Nat → Prop} {w w' : World} (h : Kw B own w w') (hB : B ≤ w.heap.size) : Below B w w' := ⟨h.os, h.tape, h.output, h.size, fun k hk => h.block k (by omega) (.inl hk)⟩
theorem Kw.of_below {B : Nat} {own : Nat → Prop} {w w' : World} (h : Below w.heap.size w w') : Kw B own w w' := ⟨h.os, h.tape, h.output, h.size, fun k hk _ => h.block k hk⟩
theorem Kw.trans {B : Nat} {own : Nat → Prop} {a b c : World} (h : Kw B own a b) (k : Kw B own b c) : Kw B own a c :=
  ⟨k.os.trans h.os, k.tape.trans h.tape, k.output.trans h.output, Nat.le_trans h.size k.size, fun i hi hs => (k.block i (Nat.lt_of_lt_of_le hi h.size) hs).trans (h.block i hi hs)⟩
theorem Kw.put {B : Nat} {own : Nat → Prop} (w : World) (l : Nat) (o : Obj) (h1 : B ≤ l) (h2 : ¬ own l) : Kw B own w (w.putObj l o) :=
  ⟨rfl, rfl, rfl, by simp [World.putObj], fun k _ hn => World.putObj_heap_other fun e => by
    rcases hn with hn | hn
    · omega
    · exact h2 (by rw [← e]; exact hn)⟩
theorem Kw.less {B B' : Nat} {own own' : Nat → Prop} {w w' : World} (h : Kw B own w w') (hB : B' ≤ B) (ho : ∀ k, own' k → own k ∨ k < B) : Kw B' own' w w' :=
  ⟨h.os, h.tape, h.output, h.size, fun k hk hn => h.block k hk (by
    rcases hn with hn | hn
    · exact .inl (by omega)
    · rcases ho k hn with a | a
      · exact .inr a
      · exact .inl a)⟩
theorem yield_wide {P : Program} {n m l : Nat} {args : Array Value} {W : World} {R : Ending → World → Prop} (h : YieldAt Fence.wide n P l args W R) : YieldAt Fence.wide m P l args W R := by
  obtain ⟨fn, tmps, assign, body, h1, h2⟩ := h
  exact ⟨fn, tmps, assign, body, h1, h2.1, fun c cs _ => h2.2 c cs (room_wide _)⟩
/-- What a yield may come to: some more blocks are owned, the others are as they were. -/
def YPost {ι : Type} (R : (Nat → Prop) → ι → World → Prop) (Rx : (Nat → Prop) → World → Prop) (own : Nat → Prop) (i : ι) (W : World) (e : Ending) (W' : World) : Prop :=
  ∃ own', (∀ j, own' j → own j ∨ (W.heap.size ≤ j ∧ j < W'.heap.size)) ∧ But own W W' ∧ ((e = .returned (.bool true) ∧ R own' i W') ∨ (e = .returned (.bool false) ∧ Rx own' W'))
/-- How a round's body may be left. -/
def lPost9 (J : (Nat → Prop) → World → Prop) (Jx : (Nat → Prop) → World → Prop) (jump : Code) (own : Nat → Prop) (W : World) : Exit → Act → World → Prop
  | .normal, _, W' => ∃ own', (∀ j, own' j → own j ∨ (W.heap.size ≤ j ∧ j < W'.heap.size)) ∧ But own W W' ∧ J own' W'
  | .exit i, _, W' => jump = .exit i ∧ ∃ own', (∀ j, own' j → own j ∨ (W.heap.size ≤ j ∧ j < W'.heap.size)) ∧ But own W W' ∧ Jx own' W'
  | .ret, _, W' => jump = .ret ∧ ∃ own', (∀ j, own' j → own j ∨ (W.heap.size ≤ j ∧ j < W'.heap.size)) ∧ But own W W' ∧ Jx own' W'
  | _, _, _ => False
set_option maxHeartbeats 1000000 in
theorem range_law9 {n : Nat} {P : Program} {g : Operand} {ps : Array Tmp} {assign body : Code} {Q : Exit → Act → World → Prop} {a : Act} {w : World}
    (h1 : 1 ≤ n) {gf : Nat} {lb : Array Value} (hg : a.eval g = .func (.func gf) #[] lb) (eg : ∀ args w, (callFunc gf args).run P w = .ok (.enter gf args) w)
    {α : Type} (N : Nat) (encs : α → Array Value) (hps : ∀ k, (encs k).size = ps.size) (ok : Nat → α → Prop)
    (J : (Nat → Prop) → Nat → World → Prop) (Jx : (Nat → Prop) → World → Prop) (jump : Code)
    (hJ : ∀ own k W W', J own k W → Kw w.heap.size own W W' → J own k W') (hJx : ∀ own W W', Jx own W → Kw w.heap.size own W W' → Jx own W')
    (own0 : Nat → Prop) (hown0 : ∀ j, own0 j → j < w.heap.size) (h0 : J own0 0 w)
    (A : α → Act → World → Prop) (hA : ∀ x a' W l o', A x a' W → w.heap.size ≤ l → l < w.heap.size + 2 → A x a' (W.putObj l o'))
    (hassign : ∀ (l : Nat) (own : Nat → Prop) (k : Nat) (x : α) (W : World) (K : Act → World → Prop), k < N → ok k x → J own k W → w.heap.size + 2 ≤ W.heap.size → (∀ a' W', Below W.heap.size W W' → A x a' W' → K a' W') →
      assign.wpIn (Fence.wide.inRound l) (n - 1 - 1) P (Exit.then K (fun _ _ _ => False)) { tmps := (ps.zip (encs x)).foldl (fun t (p, v) => t.setIfInBounds p v) a.tmps, defers := [] } W)
    (hbody : ∀ (l : Nat) (own : Nat → Prop) (k : Nat) (x : α) (a' : Act) (W : World), k < N → ok k x → J own k W → A x a' W → w.heap.size + 2 ≤ W.heap.size → (∀ j, own j → j < W.heap.size) → body.wpIn (Fence.wide.inRound l) (n - 1 - 1) P (lPost9 (fun own' W' => J own' (k + 1) W') Jx jump own W) a' W)
    (hiter : ∀ (l : Nat) (W1 : World), l = w.heap.size + 1 → Below w.heap.size w W1 → W1.heap.size = w.heap.size + 2 → ∀ (R : (Nat → Prop) → Nat → World → Prop) (Rx : (Nat → Prop) → World → Prop) (own : Nat → Prop), (∀ j, own j ↔ own0 j ∨ j = l) →
      (∀ own k W W', R own k W → Kw W1.heap.size own W W' → R own k W') → (∀ own W W', Rx own W → Kw W1.heap.size own W W' → Rx own W') →
      (∀ own k x W, k < N → ok k x → R own k W → (∀ j, own j → j < W.heap.size) → YieldAt Fence.wide 0 P l (encs x) W (YPost R Rx own (k + 1) W)) → R own 0 W1 →
      Calls P gf (#[.func (.yield l) #[] #[]] ++ lb) W1 fun e W' => (∃ v, e = .returned v) ∧ ∃ own', (R own' N W' ∨ Rx own' W'))
    (hdone : ∀ (D : Nat) (own : Nat → Prop) (W : World), D = w.heap.size → ¬ own D → J own N W → W.heap[D]? = some (.deferred (some [])) → Q .normal { a with defers := { target := .collected D, args := #[] } :: a.defers } W)
    (hstop : ∀ (D : Nat) (own : Nat → Prop) (W : World), D = w.heap.size → ¬ own D → Jx own W → W.heap[D]? = some (.deferred (some [])) → jump.wpIn Fence.wide n P Q { a with defers := { target := .collected D, args := #[] } :: a.defers } W) :
    (Code.rangeFunc g ps assign body).wpIn Fence.wide n P Q a w := by
  refine wpIn_rangeFunc fun fn hfn => ?_
  rw [show Fence.wide.round = none from rfl]
  obtain ⟨rc', hrc⟩ : ∃ rc' : LoopState → Option Code → Loop, rc' = fun st pe => { state := st, pending := pe, fn, tmps := a.tmps, params := ps, assign, body, defers := w.heap.size } := ⟨_, rfl⟩
  obtain ⟨W1, hW1⟩ : ∃ W1, (w.alloc (.deferred (some []))).alloc (.loop (rc' .ready none)) = W1 := ⟨_, rfl⟩
  have hn2 := two_new w (.deferred (some [])) (.loop (rc' .ready none))
  have hs : W1.heap.size = w.heap.size + 2 := by rw [← hW1]; simp
  rw [hW1] at hn2
  obtain ⟨hD1, hL1, hB1⟩ := hn2
  refine ⟨w.heap.size + 1, [{ target := .collected w.heap.size, args := #[] }], W1, { target := .fn (.func gf) lb, args := #[.func (.yield (w.heap.size + 1)) #[] #[]] }, W1, gf,
    #[.func (.yield (w.heap.size + 1)) #[] #[]] ++ lb, W1, ?_, ?_, ?_, ?_, fun _ => h1, ?_⟩
  · rw [← hW1, hrc]; exact run_enterLoop_outer _ _ _ _ _
  · simp only [resolve, hg]
    simp [go_sem]
  · intro f' hf'
    trivial
  · simp [invoke, go_sem, eg]
  · have out : ∀ own : Nat → Prop, (∀ j, own j → j < w.heap.size ∨ w.heap.size + 2 ≤ j) → ¬ own w.heap.size ∧ ¬ own (w.heap.size + 1) := fun own h => ⟨fun e => by have := h _ e; omega, fun e => by have := h _ e; omega⟩
    refine callsIn_wide.2 ((hiter (w.heap.size + 1) W1 rfl hB1 hs
      (fun oy k W => ∃ own, (∀ j, oy j ↔ own j ∨ j = w.heap.size + 1) ∧ (∀ j, own j → j < w.heap.size ∨ w.heap.size + 2 ≤ j) ∧ J own k W ∧ W.heap[w.heap.size + 1]? = some (.loop (rc' .ready none)) ∧ W.heap[w.heap.size]? = some (.deferred (some [])))
      (fun oy W => ∃ own, (∀ j, oy j ↔ own j ∨ j = w.heap.size + 1) ∧ (∀ j, own j → j < w.heap.size ∨ w.heap.size + 2 ≤ j) ∧ Jx own W ∧ W.heap[w.heap.size + 1]? = some (.loop (rc' .done (some jump))) ∧ W.heap[w.heap.size]? = some (.deferred (some [])))
      (fun j => own0 j ∨ j = w.heap.size + 1) (fun j => Iff.rfl)
      (fun oy k W W' h hb => ?_) (fun oy W W' h hb => ?_) ?_ ⟨own0, fun j => Iff.rfl, fun j hj => .inl (hown0 j hj), hJ own0 0 w W1 h0 (Kw.of_below hB1), hL1, hD1⟩).mono ?_)
    · obtain ⟨own, h1, h2, h3, h4, h5⟩ := h
      have l4 := (Array.getElem?_eq_some_iff.1 h4).1
      exact ⟨own, h1, h2, hJ own k W W' h3 (hb.less (by omega) fun j hj => .inl ((h1 j).2 (.inl hj))), (hb.block _ l4 (.inl (by omega))).trans h4, (hb.block _ (by omega) (.inl (by omega))).trans h5⟩
    · obtain ⟨own, h1, h2, h3, h4, h5⟩ := h
      have l4 := (Array.getElem?_eq_some_iff.1 h4).1
      exact ⟨own, h1, h2, hJx own W W' h3 (hb.less (by omega) fun j hj => .inl ((h1 j).2 (.inl hj))), (hb.block _ l4 (.inl (by omega))).trans h4, (hb.block _ (by omega) (.inl (by omega))).trans h5⟩
    · rintro oy k x Wb hkN hok ⟨own, g1, g2, hj, hl, hd⟩ hsz
      have hyr := run_yield (P := P) (args := encs x) hl (by rw [hrc]; exact hps x)
      rw [hrc] at hyr
      refine yield_wide (n := n - 1 - 1) ⟨fn, _, assign, body, hyr, roundIn_of_wpIn hfn (hassign _ own k x Wb _ hkN hok hj (by have := (Array.getElem?_eq_some_iff.1 hl).1; omega) ?_)⟩
      intro a' W hBa hAx
      have hltb := (Array.getElem?_eq_some_iff.1 hl).1
      have hO := out own g2
      replace hj := hJ own k _ _ hj (Kw.of_below hBa)
      replace hl := (hBa.block _ (by omega)).trans hl
      replace hd := (hBa.block _ (by omega)).trans hd
      have hlt : w.heap.size + 1 < W.heap.size := (Array.getElem?_eq_some_iff.1 hl).1
      have hszW := hBa.size
      refine ⟨_, run_beginRound hl (by rw [hrc]), ?_⟩
      obtain ⟨Wp, hWp⟩ : ∃ Wp, W.putObj (w.heap.size + 1) (.loop { rc' .ready none with state := .busy }) = Wp := ⟨_, rfl⟩
      have hl2 : Wp.heap[w.heap.size + 1]? = some (.loop { rc' .ready none with state := .busy }) := by rw [← hWp]; exact World.putObj_heap_same hlt
      have hd2 : Wp.heap[w.heap.size]? = some (.deferred (some [])) := by rw [← hWp]; exact (World.putObj_heap_other (by omega)).trans hd
      have hsp : Wp.heap.size = W.heap.size := by rw [← hWp]; simp [World.putObj]
      have hjp : J own k Wp := by rw [← hWp]; exact hJ own k _ _ hj (Kw.put W _ _ (by omega) hO.2)
      have hAp : A x a' Wp := by rw [← hWp]; exact hA x a' W _ _ hAx (by omega) (by omega)
      have hbp : But (fun j => own j ∨ j = w.heap.size + 1) Wb Wp := by rw [← hWp]; exact (But.of_below hBa).trans (But.put W _ _ (.inr rfl))
      rw [hWp]
      have hownlt : ∀ j, own j → j < Wp.heap.size := fun j hj' => by have := hsz j ((g1 j).2 (.inl hj')); omega
      refine wpIn_mono (hbody _ own k x a' Wp hkN hok hjp hAp (by omega) hownlt) ?_
      have fin : ∀ (W3 : World) (own' : Nat → Prop) (stt : LoopState) (pe : Option Code), (∀ j, own' j → own j ∨ (Wp.heap.size ≤ j ∧ j < W3.heap.size)) → But own Wp W3 →
          W3.heap[w.heap.size + 1]? = some (.loop { rc' .ready none with state := .busy }) ∧ W3.heap[w.heap.size]? = some (.deferred (some [])) ∧ (∀ j, own' j → j < w.heap.size ∨ w.heap.size + 2 ≤ j) ∧
          (∀ j, (own' j ∨ j = w.heap.size + 1) → oy j ∨ (Wb.heap.size ≤ j ∧ j < (W3.putObj (w.heap.size + 1) (.loop (rc' stt pe))).heap.size)) ∧ But oy Wb (W3.putObj (w.heap.size + 1) (.loop (rc' stt pe))) := fun W3 own' stt pe ho hb => by
        have hs3 := hb.size
        refine ⟨(hb.block _ (by omega) hO.2).trans hl2, (hb.block _ (by omega) hO.1).trans hd2, fun j hj' => ?_, fun j hj' => ?_, ?_⟩
        · rcases ho j hj' with a | a
          · exact g2 j a
          · omega
        · rcases hj' with hj' | rfl
          · rcases ho j hj' with a | a
            · exact .inl ((g1 j).2 (.inl a))
            · exact .inr ⟨by omega, by simp [World.putObj]; omega⟩
          · exact .inl ((g1 _).2 (.inr rfl))
        · have e : But (fun j => own j ∨ j = w.heap.size + 1) Wb (W3.putObj (w.heap.size + 1) (.loop (rc' stt pe))) := hbp.trans ((hb.more fun j _ hj' => .inl hj').trans (But.put W3 _ _ (.inr rfl)))
          exact e.more fun j _ hj' => (g1 j).2 hj'
      have stop3 : ∀ (W3 : World), (∃ own', (∀ j, own' j → own j ∨ (Wp.heap.size ≤ j ∧ j < W3.heap.size)) ∧ But own Wp W3 ∧ Jx own' W3) →
          (Instr.endRound (w.heap.size + 1) (some jump)).run P W3 = .ok (.bool false) (W3.putObj (w.heap.size + 1) (.loop (rc' .done (some jump)))) ∧
          YPost (fun oy k W => ∃ own, (∀ j, oy j ↔ own j ∨ j = w.heap.size + 1) ∧ (∀ j, own j → j < w.heap.size ∨ w.heap.size + 2 ≤ j) ∧ J own k W ∧ W.heap[w.heap.size + 1]? = some (.loop (rc' .ready none)) ∧ W.heap[w.heap.size]? = some (.deferred (some [])))
            (fun oy W => ∃ own, (∀ j, oy j ↔ own j ∨ j = w.heap.size + 1) ∧ (∀ j, own j → j < w.heap.size ∨ w.heap.size + 2 ≤ j) ∧ Jx own W ∧ W.heap[w.heap.size + 1]? = some (.loop (rc' .done (some jump))) ∧ W.heap[w.heap.size]? = some (.deferred (some []))) oy (k + 1) Wb (.returned (.bool false)) (W3.putObj (w.heap.size + 1) (.loop (rc' .done (some jump)))) := fun W3 ⟨own', ho, hb3, hj3⟩ => by
        obtain ⟨f1, f2, f3, f4, f5⟩ := fin W3 own' .done (some jump) ho hb3
        have hr := run_endRound (P := P) (some jump) f1
        rw [hrc] at hr f4 f5 ⊢
        refine ⟨hr, fun j => own' j ∨ j = w.heap.size + 1, f4, f5, .inr ⟨rfl, own', fun _ => Iff.rfl, f3, hJx own' _ _ hj3 (Kw.put W3 _ _ (by omega) (out own' f3).2), World.putObj_heap_same (Array.getElem?_eq_some_iff.1 f1).1, (World.putObj_heap_other (by omega)).trans f2⟩⟩
      rintro e a3 W3 hp
      cases e with
      | normal =>
        obtain ⟨own', ho, hb3, hj3⟩ := hp
        obtain ⟨f1, f2, f3, f4, f5⟩ := fin W3 own' .ready none ho hb3
        have hr := run_endRound (P := P) none f1
        rw [hrc] at hr f4 f5 ⊢
        refine ⟨_, _, hr, fun j => own' j ∨ j = w.heap.size + 1, f4, f5, .inl ⟨rfl, own', fun _ => Iff.rfl, f3, hJ own' _ _ _ hj3 (Kw.put W3 _ _ (by omega) (out own' f3).2), World.putObj_heap_same (Array.getElem?_eq_some_iff.1 f1).1, (World.putObj_heap_other (by omega)).trans f2⟩⟩
      | exit i =>
        obtain ⟨rfl, hp⟩ := hp
        obtain ⟨hr, hy⟩ := stop3 W3 hp
        exact ⟨_, _, hr, hy⟩
      | ret =>
        obtain ⟨rfl, hp⟩ := hp
        obtain ⟨hr, hy⟩ := stop3 W3 hp
        exact ⟨_, _, hr, hy⟩
      | goto t => exact hp.elim
      | panic ch => exact hp.elim
      | outgrown => exact hp.elim
    · rintro e W2 ⟨⟨v, rfl⟩, oy, ⟨own, g1, g2, hx, hl, hd⟩ | ⟨own, g1, g2, hx, hl, hd⟩⟩
      · refine ⟨none, _, by have := run_endLoop (P := P) hl (by rw [hrc]; simp); rw [hrc] at this; exact this, ?_⟩
        exact hdone _ own _ rfl (out own g2).1 (hJ _ _ _ _ hx (Kw.put W2 _ _ (by omega) (out own g2).2)) ((World.putObj_heap_other (by omega)).trans hd)
      · refine ⟨some jump, _, by have := run_endLoop (P := P) hl (by rw [hrc]; simp); rw [hrc] at this; exact this, ?_⟩
        exact hstop _ own _ rfl (out own g2).1 (hJx _ _ _ hx (Kw.put W2 _ _ (by omega) (out own g2).2)) ((World.putObj_heap_other (by omega)).trans hd)
/-- A function that holds ranges over functions is left: its marks. -/
theorem leaves_marks {F : Fence} {n : Nat} {P : Program} {fn : Func} {tmps : Array Value} {R : Ending → World → Prop} {v : Value} (hres : ∀ W, (results fn tmps).run P W = .ok v W) :
    ∀ (Ds : List Nat) (W : World), Ds.Nodup → (∀ D ∈ Ds, W.heap[D]? = some (.deferred (some []))) → (∀ W', But (fun j => j ∈ Ds) W W' → R (.returned v) W') →
      LeavesInM F n P fn tmps R (Ds.map fun D => { target := .collected D, args := #[] }) .returning W
  | [], W, _, _, h => ⟨v, hres W, h W (But.refl _ _)⟩
  | D :: Ds, W, hn, hd, h => by
    have hD := hd D (by simp)
    refine ⟨by simp, .inl ⟨D, _, rfl, run_takeDeferred hD, ?_⟩⟩
    obtain ⟨h1, h2⟩ := List.nodup_cons.1 hn
    refine leaves_marks hres Ds _ h2 (fun E hE => ?_) fun W' hb => h W' ?_
    · exact (World.putObj_heap_other (fun e => h1 (by rw [← e]; exact hE))).trans (hd E (by simp [hE]))
    · exact (But.put W D _ (by simp)).trans (hb.more fun j _ hj => by simp [hj])
end Go.Proofs.Ytofealdlgpmheaa.Rq
/- Which byte of a root's numbers stands where; the function that goes through them. -/
namespace Go.Proofs.Ytofealdlgpmheaa.Ro
open Go.RowKit Go.Lib Go.Shelf
open Go.Proofs.Ytofealdlgpmheaa.Rc Go.Proofs.Ytofealdlgpmheaa.Rq
attribute [local go_sem] Oper.semAt_some
/-- Of which number a byte is, and by how much it is moved. -/
def ix (p : Nat) : Nat := (p - 4) / 4
def sh (p : Nat) : Nat := if p < 8 then 8 * p else 8 * (p % 4)
set_option maxRecDepth 100000 in
theorem places_any (w : World) : Calls Try.prog 30 #[] w fun e w' => e = .returned (.func (.func 35) #[] #[]) ∧ w' = w := by
  go_enter Try.func30, Try.ntmps30
  go_wp2_with fail
  go_ret
  exact ⟨rfl, rfl⟩
set_option maxRecDepth 100000 in
theorem ar4 (a b c d : Value) (w : World) : (Instr.index 70 (.agg #[a, b, c, d]) (.int .i64 0)).run Try.prog w = .ok a w ∧ (Instr.index 70 (.agg #[a, b, c, d]) (.int .i64 1)).run Try.prog w = .ok b w ∧ (Instr.index 70 (.agg #[a, b, c, d]) (.int .i64 2)).run Try.prog w = .ok c w ∧ (Instr.index 70 (.agg #[a, b, c, d]) (.int .i64 3)).run Try.prog w = .ok d w := ⟨by kernel_rfl, by kernel_rfl, by kernel_rfl, by kernel_rfl⟩
def b0 (z : Int) : Nat := if z = 0 then 0 else 4 * z.toNat + 4
set_option maxRecDepth 100000 in
set_option maxHeartbeats 4000000 in
theorem places1_any (W1 : World) (l : Nat) (R : (Nat → Prop) → Nat → World → Prop) (Rx : (Nat → Prop) → World → Prop) (own : Nat → Prop) (hown : ∀ j, own j → j < W1.heap.size)
    (hY : ∀ own k W, k < 20 → R own k W → (∀ j, own j → j < W.heap.size) → YieldAt Fence.wide 0 Try.prog l #[.int .i64 ((ix k : Nat) : Int), .int .i64 ((sh k : Nat) : Int)] W (YPost R Rx own (k + 1) W)) (h0 : R own 0 W1) :
    Calls Try.prog 35 (#[.func (.yield l) #[] #[]] ++ #[]) W1 fun e W' => (∃ v, e = .returned v) ∧ ∃ own', (R own' 20 W' ∨ Rx own' W') := by
  have HY : Hid _ := hY
  have H0 : Hid (R own 0 W1) := h0
  have HOw : Hid (∀ j, own j → j < W1.heap.size) := hown
  clear hY h0 hown
  refine (callsIn_wide (n := 4)).1 ?_
  refine callsIn_of_wp Try.func35 rfl trivial ?_ rfl
  simp only [Try.ntmps35, List.size_toArray, List.length_cons, List.length_nil, Nat.reduceAdd, Nat.reduceSub, Array.replicate_succ, Array.replicate_zero, List.push_toArray, List.append_toArray, List.nil_append, List.cons_append]
  gi_wp2
  gi_loopw [6] (fun iv wr => ∃ (z : Int) (own2 : Nat → Prop), 0 ≤ z ∧ z ≤ 4 ∧ iv = .int .i64 z ∧ R own2 (b0 z) wr ∧ ∀ j, own2 j → j < wr.heap.size) (fun iv _ => 4 - natOf iv)
  case atStart => exact ⟨0, own, by omega, by omega, rfl, H0.out, HOw.out⟩
  case round =>
    obtain ⟨z, own2, hz0, hz4, rfl, hR2, ho2⟩ := hrel
    have HR2 : Hid (R own2 (b0 z) wr) := hR2
    have HO2 : Hid (∀ j, own2 j → j < wr.heap.size) := ho2
    clear hR2 ho2
    have hc : z = 0 ∨ z = 1 ∨ z = 2 ∨ z = 3 ∨ z = 4 := by omega
    clear hz0 hz4
    rcases hc with rfl | rfl | rfl | rfl | rfl
    · obtain ⟨k0, k1, k2, k3⟩ := ar4 (.int .i64 64) (.int .i64 32) (.int .i64 32) (.int .i64 32) wr
      gi_wp2
      clear k0 k1 k2 k3
      gi_loopw [4] (fun jv wr2 => ∃ (j : Nat) (own3 : Nat → Prop), j ≤ 8 ∧ jv = .int .i64 (8 * (j : Int)) ∧ R own3 (0 + j) wr2 ∧ ∀ j, own3 j → j < wr2.heap.size) (fun jv _ => 64 - natOf jv)
      case atStart => exact ⟨0, own2, Nat.zero_le _, rfl, HR2.out, HO2.out⟩
      case round =>
        obtain ⟨j, own3, hj, rfl, hR3, ho3⟩ := hrel
        by_cases hlt : j < 8
        · have q1 : 8 * (j : Int) < 64 := by omega
          have q0 : (0 : Int) ≤ 8 * (j : Int) := by omega
          have hy0 := yield_wide (m := 3) <| HY.out own3 (0 + j) wr (by omega) hR3 ho3
          rw [show ((ix (0 + j) : Nat) : Int) = 0 by unfold ix; omega, show ((sh (0 + j) : Nat) : Int) = 8 * (j : Int) by unfold sh; split <;> omega] at hy0
          obtain ⟨fn, tmps, assign, body, hy, hRd⟩ := hy0
          have HO3 : Hid (∀ j, own3 j → j < wr.heap.size) := ho3
          clear hR3 ho3
          gi_wp2
          refine RoundIn.mono (R := YPost R Rx own3 (0 + j + 1) wr) hRd ?_
          rintro e W6 ⟨own6, ho6, hb6, (⟨rfl, hR6⟩ | ⟨rfl, hx6⟩)⟩
          · have HR6 : Hid (R own6 (0 + j + 1) W6) := hR6
            have HO6 : Hid (∀ j, own6 j → j < W6.heap.size) := fun j hj => by
              rcases ho6 j hj with a | a
              · exact Nat.lt_of_lt_of_le (HO3.out j a) hb6.size
              · exact a.2
            clear hy hRd ho6 hb6 hR6
            gi_wp2
            go_roundw
            case rel => exact ⟨j + 1, own6, by omega, by congr 1, by rw [← Nat.add_assoc]; exact HR6.out, HO6.out⟩
            case measure => simp [natOf]; omega
          · have HX : Hid (Rx own6 W6) := hx6
            clear hy hRd ho6 hb6 hx6
            gi_wp2
            refine bodyPost_ret (results_none rfl _ _ _) rfl ?_
            exact ⟨⟨_, rfl⟩, own6, .inr HX.out⟩
        · obtain rfl : j = 8 := by omega
          have HR3 : Hid (R own3 8 wr) := hR3
          have HO3 : Hid (∀ j, own3 j → j < wr.heap.size) := ho3
          clear hR3 ho3 hlt hj
          gi_wp2
          go_roundw
          case rel => exact ⟨1, own3, by omega, by omega, by congr 1, HR3.out, HO3.out⟩
          case measure => simp [natOf]
    · obtain ⟨k0, k1, k2, k3⟩ := ar4 (.int .i64 64) (.int .i64 32) (.int .i64 32) (.int .i64 32) wr
      gi_wp2
      clear k0 k1 k2 k3
      gi_loopw [4] (fun jv wr2 => ∃ (j : Nat) (own3 : Nat → Prop), j ≤ 4 ∧ jv = .int .i64 (8 * (j : Int)) ∧ R own3 (8 + j) wr2 ∧ ∀ j, own3 j → j < wr2.heap.size) (fun jv _ => 32 - natOf jv)
      case atStart => exact ⟨0, own2, Nat.zero_le _, rfl, HR2.out, HO2.out⟩
      case round =>
        obtain ⟨j, own3, hj, rfl, hR3, ho3⟩ := hrel
        by_cases hlt : j < 4
        · have q1 : 8 * (j : Int) < 32 := by omega
          have q0 : (0 : Int) ≤ 8 * (j : Int) := by omega
          have hy0 := yield_wide (m := 3) <| HY.out own3 (8 + j) wr (by omega) hR3 ho3
          rw [show ((ix (8 + j) : Nat) : Int) = 1 by unfold ix; omega, show ((sh (8 + j) : Nat) : Int) = 8 * (j : Int) by unfold sh; split <;> omega] at hy0
          obtain ⟨fn, tmps, assign, body, hy, hRd⟩ := hy0
          have HO3 : Hid (∀ j, own3 j → j < wr.heap.size) := ho3
          clear hR3 ho3
          gi_wp2
          refine RoundIn.mono (R := YPost R Rx own3 (8 + j + 1) wr) hRd ?_
          rintro e W6 ⟨own6, ho6, hb6, (⟨rfl, hR6⟩ | ⟨rfl, hx6⟩)⟩
          · have HR6 : Hid (R own6 (8 + j + 1) W6) := hR6
            have HO6 : Hid (∀ j, own6 j → j < W6.heap.size) := fun j hj => by
              rcases ho6 j hj with a | a
              · exact Nat.lt_of_lt_of_le (HO3.out j a) hb6.size
              · exact a.2
            clear hy hRd ho6 hb6 hR6
            gi_wp2
            go_roundw
            case rel => exact ⟨j + 1, own6, by omega, by congr 1, by rw [← Nat.add_assoc]; exact HR6.out, HO6.out⟩
            case measure => simp [natOf]; omega
          · have HX : Hid (Rx own6 W6) := hx6
            clear hy hRd ho6 hb6 hx6
            gi_wp2
            refine bodyPost_ret (results_none rfl _ _ _) rfl ?_
            exact ⟨⟨_, rfl⟩, own6, .inr HX.out⟩
        · obtain rfl : j = 4 := by omega
          have HR3 : Hid (R own3 12 wr) := hR3
          have HO3 : Hid (∀ j, own3 j → j < wr.heap.size) := ho3
          clear hR3 ho3 hlt hj
          gi_wp2
          go_roundw
          case rel => exact ⟨2, own3, by omega, by omega, by congr 1, HR3.out, HO3.out⟩
          case measure => simp [natOf]
    · obtain ⟨k0, k1, k2, k3⟩ := ar4 (.int .i64 64) (.int .i64 32) (.int .i64 32) (.int .i64 32) wr
      gi_wp2
      clear k0 k1 k2 k3
      gi_loopw [4] (fun jv wr2 => ∃ (j : Nat) (own3 : Nat → Prop), j ≤ 4 ∧ jv = .int .i64 (8 * (j : Int)) ∧ R own3 (12 + j) wr2 ∧ ∀ j, own3 j → j < wr2.heap.size) (fun jv _ => 32 - natOf jv)
      case atStart => exact ⟨0, own2, Nat.zero_le _, rfl, HR2.out, HO2.out⟩
      case round =>
        obtain ⟨j, own3, hj, rfl, hR3, ho3⟩ := hrel
        by_cases hlt : j < 4
        · have q1 : 8 * (j : Int) < 32 := by omega
          have q0 : (0 : Int) ≤ 8 * (j : Int) := by omega
          have hy0 := yield_wide (m := 3) <| HY.out own3 (12 + j) wr (by omega) hR3 ho3
          rw [show ((ix (12 + j) : Nat) : Int) = 2 by unfold ix; omega, show ((sh (12 + j) : Nat) : Int) = 8 * (j : Int) by unfold sh; split <;> omega] at hy0
          obtain ⟨fn, tmps, assign, body, hy, hRd⟩ := hy0
          have HO3 : Hid (∀ j, own3 j → j < wr.heap.size) := ho3
          clear hR3 ho3
          gi_wp2
          refine RoundIn.mono (R := YPost R Rx own3 (12 + j + 1) wr) hRd ?_
          rintro e W6 ⟨own6, ho6, hb6, (⟨rfl, hR6⟩ | ⟨rfl, hx6⟩)⟩
          · have HR6 : Hid (R own6 (12 + j + 1) W6) := hR6
            have HO6 : Hid (∀ j, own6 j → j < W6.heap.size) := fun j hj => by
              rcases ho6 j hj with a | a
              · exact Nat.lt_of_lt_of_le (HO3.out j a) hb6.size
              · exact a.2
            clear hy hRd ho6 hb6 hR6
            gi_wp2
            go_roundw
            case rel => exact ⟨j + 1, own6, by omega, by congr 1, by rw [← Nat.add_assoc]; exact HR6.out, HO6.out⟩
            case measure => simp [natOf]; omega
          · have HX : Hid (Rx own6 W6) := hx6
            clear hy hRd ho6 hb6 hx6
            gi_wp2
            refine bodyPost_ret (results_none rfl _ _ _) rfl ?_
            exact ⟨⟨_, rfl⟩, own6, .inr HX.out⟩
        · obtain rfl : j = 4 := by omega
          have HR3 : Hid (R own3 16 wr) := hR3
          have HO3 : Hid (∀ j, own3 j → j < wr.heap.size) := ho3
          clear hR3 ho3 hlt hj
          gi_wp2
          go_roundw
          case rel => exact ⟨3, own3, by omega, by omega, by congr 1, HR3.out, HO3.out⟩
          case measure => simp [natOf]
    · obtain ⟨k0, k1, k2, k3⟩ := ar4 (.int .i64 64) (.int .i64 32) (.int .i64 32) (.int .i64 32) wr
      gi_wp2
      clear k0 k1 k2 k3
      gi_loopw [4] (fun jv wr2 => ∃ (j : Nat) (own3 : Nat → Prop), j ≤ 4 ∧ jv = .int .i64 (8 * (j : Int)) ∧ R own3 (16 + j) wr2 ∧ ∀ j, own3 j → j < wr2.heap.size) (fun jv _ => 32 - natOf jv)
      case atStart => exact ⟨0, own2, Nat.zero_le _, rfl, HR2.out, HO2.out⟩
      case round =>
        obtain ⟨j, own3, hj, rfl, hR3, ho3⟩ := hrel
        by_cases hlt : j < 4
        · have q1 : 8 * (j : Int) < 32 := by omega
          have q0 : (0 : Int) ≤ 8 * (j : Int) := by omega
          have hy0 := yield_wide (m := 3) <| HY.out own3 (16 + j) wr (by omega) hR3 ho3
          rw [show ((ix (16 + j) : Nat) : Int) = 3 by unfold ix; omega, show ((sh (16 + j) : Nat) : Int) = 8 * (j : Int) by unfold sh; split <;> omega] at hy0
          obtain ⟨fn, tmps, assign, body, hy, hRd⟩ := hy0
          have HO3 : Hid (∀ j, own3 j → j < wr.heap.size) := ho3
          clear hR3 ho3
          gi_wp2
          refine RoundIn.mono (R := YPost R Rx own3 (16 + j + 1) wr) hRd ?_
          rintro e W6 ⟨own6, ho6, hb6, (⟨rfl, hR6⟩ | ⟨rfl, hx6⟩)⟩
          · have HR6 : Hid (R own6 (16 + j + 1) W6) := hR6
            have HO6 : Hid (∀ j, own6 j → j < W6.heap.size) := fun j hj => by
              rcases ho6 j hj with a | a
              · exact Nat.lt_of_lt_of_le (HO3.out j a) hb6.size
              · exact a.2
            clear hy hRd ho6 hb6 hR6
            gi_wp2
            go_roundw
            case rel => exact ⟨j + 1, own6, by omega, by congr 1, by rw [← Nat.add_assoc]; exact HR6.out, HO6.out⟩
            case measure => simp [natOf]; omega
          · have HX : Hid (Rx own6 W6) := hx6
            clear hy hRd ho6 hb6 hx6
            gi_wp2
            refine bodyPost_ret (results_none rfl _ _ _) rfl ?_
            exact ⟨⟨_, rfl⟩, own6, .inr HX.out⟩
        · obtain rfl : j = 4 := by omega
          have HR3 : Hid (R own3 20 wr) := hR3
          have HO3 : Hid (∀ j, own3 j → j < wr.heap.size) := ho3
          clear hR3 ho3 hlt hj
          gi_wp2
          go_roundw
          case rel => exact ⟨4, own3, by omega, by omega, by congr 1, HR3.out, HO3.out⟩
          case measure => simp [natOf]
    · gi_wp2
      refine bodyPost_end (results_none rfl _ _ _) rfl ?_
      exact ⟨⟨_, rfl⟩, own2, .inl HR2.out⟩
end Go.Proofs.Ytofealdlgpmheaa.Ro
/- Roots in plain terms; which are right. -/
namespace Go.Proofs.Ytofealdlgpmheaa.Ro
open Go.RowKit Go.Lib Go.Shelf
open Go.Proofs.Ytofealdlgpmheaa.Rc Go.Proofs.Ytofealdlgpmheaa.Rq
/-- A root. -/
structure Rt where
  c : Nat
  g : Nat
  n : Nat
  p : Nat
  t : ByteArray
abbrev rtc (c g n p : Nat) (t : ByteArray) : Array Value := #[.int .u64 (c : Int), .int .u32 (g : Int), .int .u32 (n : Int), .int .u32 (p : Int), .string t]
abbrev rtv (r : Rt) : Value := .agg (rtc r.c r.g r.n r.p r.t)
abbrev zeroR : Rt := ⟨0, 0, 0, 0, ⟨#[]⟩⟩
def rref (p : Nat) (t : ByteArray) : Bool := decide (2 ≤ p) && decide (t.size = 32)
/-- Is a root right? -/
def rrt (r : Rt) : Bool := decide (0 < r.c) && (decide (0 < r.g) && (decide (r.n ≤ 1000) && rref r.p r.t))
set_option maxRecDepth 100000 in
theorem wRightRef_any (p : Nat) (t : ByteArray) (w : World) : Calls Try.prog 24 #[.agg #[.int .u32 (p : Int), .string t]] w fun e w' => e = .returned (.bool (rref p t)) ∧ Below w.heap.size w w' := by
  have HB : Hid _ := below_new w (.cells #[.int .u32 (p : Int), .string t] 25)
  unfold rref
  by_cases h1 : 2 ≤ p
  · have q1 : (2 : Int) ≤ (p : Int) := by omega
    by_cases h2 : t.size = 32
    · have q2 : (t.size : Int) = 32 := by omega
      go_enter Try.func24, Try.ntmps24
      go_wp2_with fail
      go_ret
      exact ⟨by simp [h1, h2], HB.out⟩
    · have q2 : ((t.size : Int) == 32) = false := by simp; omega
      go_enter Try.func24, Try.ntmps24
      go_wp2_with fail
      go_ret
      exact ⟨by simp [h1, h2], HB.out⟩
  · have q1 : ¬ (2 : Int) ≤ (p : Int) := by omega
    go_enter Try.func24, Try.ntmps24
    go_wp2_with fail
    go_ret
    exact ⟨by simp, HB.out⟩
set_option maxRecDepth 100000 in
theorem sRightRef_any (p : Nat) (t : ByteArray) (w : World) : Calls Try.prog 25 #[.agg #[.int .u32 (p : Int), .string t]] w fun e w' => e = .returned (.bool (rref p t)) ∧ Below w.heap.size w w' := by
  have HB : Hid _ := below_new w (.cells #[.int .u32 (p : Int), .string t] 25)
  unfold rref
  by_cases h1 : 2 ≤ p
  · have q1 : (2 : Int) ≤ (p : Int) := by omega
    by_cases h2 : t.size = 32
    · have q2 : (t.size : Int) = 32 := by omega
      go_enter Try.func25, Try.ntmps25
      go_wp2_with fail
      go_ret
      exact ⟨by simp [h1, h2], HB.out⟩
    · have q2 : ((t.size : Int) == 32) = false := by simp; omega
      go_enter Try.func25, Try.ntmps25
      go_wp2_with fail
      go_ret
      exact ⟨by simp [h1, h2], HB.out⟩
  · have q1 : ¬ (2 : Int) ≤ (p : Int) := by omega
    go_enter Try.func25, Try.ntmps25
    go_wp2_with fail
    go_ret
    exact ⟨by simp, HB.out⟩
set_option maxRecDepth 100000 in
set_option maxHeartbeats 2000000 in
theorem right_any (r : Rt) (w : World) : Calls Try.prog 13 #[rtv r] w fun e w' => e = .returned (.bool (rrt r)) ∧ Below w.heap.size w w' := by
  obtain ⟨c, g, n, p, t⟩ := r
  have hbn := below_new w (.cells (rtc c g n p t) 27)
  have hgn := heap_alloc_new w (.cells (rtc c g n p t) 27)
  obtain ⟨W1, hW1⟩ : ∃ W1, w.alloc (.cells (rtc c g n p t) 27) = W1 := ⟨_, rfl⟩
  rw [hW1] at hbn hgn
  have HB : Hid (Below w.heap.size w W1) := hbn
  have HG : Hid (W1.heap[w.heap.size]? = some (.cells (rtc c g n p t) 27)) := hgn
  have HW1 : Hid (w.alloc (.cells #[.int .u64 (c : Int), .int .u32 (g : Int), .int .u32 (n : Int), .int .u32 (p : Int), .string t] 27) = W1) := hW1
  have HR : Hid (∀ W : World, _) := wRightRef_any p t
  have c0 : W1.cell? ⟨w.heap.size, 0, none⟩ = some (.int .u64 (c : Int)) := by rw [cell_of_row _ _ _ _ _ _ hgn]; rfl
  have c1 : W1.cell? ⟨w.heap.size, 1, none⟩ = some (.int .u32 (g : Int)) := by rw [cell_of_row _ _ _ _ _ _ hgn]; rfl
  have c2 : W1.cell? ⟨w.heap.size, 2, none⟩ = some (.int .u32 (n : Int)) := by rw [cell_of_row _ _ _ _ _ _ hgn]; rfl
  have c3 : W1.cell? ⟨w.heap.size, 3, none⟩ = some (.int .u32 (p : Int)) := by rw [cell_of_row _ _ _ _ _ _ hgn]; rfl
  have c4 : W1.cell? ⟨w.heap.size, 4, none⟩ = some (.string t) := by rw [cell_of_row _ _ _ _ _ _ hgn]; rfl
  unfold rrt
  simp only
  obtain ⟨b, hb⟩ : ∃ b, rref p t = b := ⟨_, rfl⟩
  rw [hb] at HR ⊢
  clear hbn hgn hW1 hb
  by_cases h1 : 0 < c
  · have q1 : decide ((0 : Int) < (c : Int)) = true := decide_eq_true (by omega)
    by_cases h2 : 0 < g
    · have q2 : decide ((0 : Int) < (g : Int)) = true := decide_eq_true (by omega)
      by_cases h3 : n ≤ 1000
      · have q3 : decide ((n : Int) ≤ 1000) = true := decide_eq_true (by omega)
        go_enter Try.func13, Try.ntmps13
        go_wp2_with fail
        rw [HW1.out]
        clear HW1
        go_wp2_with fail
        refine (HR.out _).mono ?_
        rintro e w5 ⟨rfl, b5⟩
        have HB5 : Hid (Below w.heap.size w w5) := HB.out.trans (b5.mono HB.out.size)
        have hg5 : w5.heap[w.heap.size]? = some (.cells (rtc c g n p t) 27) := (b5.block _ (Array.getElem?_eq_some_iff.1 HG.out).1).trans HG.out
        clear b5 c0 c1 c2 c3 c4
        have c0 : w5.cell? ⟨w.heap.size, 0, none⟩ = some (.int .u64 (c : Int)) := by rw [cell_of_row _ _ _ _ _ _ hg5]; rfl
        have c1 : w5.cell? ⟨w.heap.size, 1, none⟩ = some (.int .u32 (g : Int)) := by rw [cell_of_row _ _ _ _ _ _ hg5]; rfl
        have c2 : w5.cell? ⟨w.heap.size, 2, none⟩ = some (.int .u32 (n : Int)) := by rw [cell_of_row _ _ _ _ _ _ hg5]; rfl
        clear hg5
        go_wp2_with fail
        go_ret
        exact ⟨by simp [*], HB5.out⟩
      · have q3 : decide ((n : Int) ≤ 1000) = false := decide_eq_false (by omega)
        go_enter Try.func13, Try.ntmps13
        go_wp2_with fail
        try rw [HW1.out]
        go_ret
        exact ⟨by simp [*], HB.out⟩
    · have q2 : decide ((0 : Int) < (g : Int)) = false := decide_eq_false (by omega)
      go_enter Try.func13, Try.ntmps13
      go_wp2_with fail
      try rw [HW1.out]
      go_ret
      exact ⟨by simp [*], HB.out⟩
  · have q1 : decide ((0 : Int) < (c : Int)) = false := decide_eq_false (by omega)
    go_enter Try.func13, Try.ntmps13
    go_wp2_with fail
    try rw [HW1.out]
    go_ret
    exact ⟨by simp [*], HB.out⟩
set_option maxRecDepth 100000 in
set_option maxHeartbeats 2000000 in
theorem sright_any (r : Rt) (w : World) : Calls Try.prog 14 #[rtv r] w fun e w' => e = .returned (.bool (rrt r)) ∧ Below w.heap.size w w' := by
  obtain ⟨c, g, n, p, t⟩ := r
  have hbn := below_new w (.cells (rtc c g n p t) 27)
  have hgn := heap_alloc_new w (.cells (rtc c g n p t) 27)
  obtain ⟨W1, hW1⟩ : ∃ W1, w.alloc (.cells (rtc c g n p t) 27) = W1 := ⟨_, rfl⟩
  rw [hW1] at hbn hgn
  have HB : Hid (Below w.heap.size w W1) := hbn
  have HG : Hid (W1.heap[w.heap.size]? = some (.cells (rtc c g n p t) 27)) := hgn
  have HW1 : Hid (w.alloc (.cells #[.int .u64 (c : Int), .int .u32 (g : Int), .int .u32 (n : Int), .int .u32 (p : Int), .string t] 27) = W1) := hW1
  have HR : Hid (∀ W : World, _) := sRightRef_any p t
  have c0 : W1.cell? ⟨w.heap.size, 0, none⟩ = some (.int .u64 (c : Int)) := by rw [cell_of_row _ _ _ _ _ _ hgn]; rfl
  have c1 : W1.cell? ⟨w.heap.size, 1, none⟩ = some (.int .u32 (g : Int)) := by rw [cell_of_row _ _ _ _ _ _ hgn]; rfl
  have c2 : W1.cell? ⟨w.heap.size, 2, none⟩ = some (.int .u32 (n : Int)) := by rw [cell_of_row _ _ _ _ _ _ hgn]; rfl
  have c3 : W1.cell? ⟨w.heap.size, 3, none⟩ = some (.int .u32 (p : Int)) := by rw [cell_of_row _ _ _ _ _ _ hgn]; rfl
  have c4 : W1.cell? ⟨w.heap.size, 4, none⟩ = some (.string t) := by rw [cell_of_row _ _ _ _ _ _ hgn]; rfl
  unfold rrt
  simp only
  obtain ⟨b, hb⟩ : ∃ b, rref p t = b := ⟨_, rfl⟩
  rw [hb] at HR ⊢
  clear hbn hgn hW1 hb
  go_enter Try.func14, Try.ntmps14
  go_wp2_with fail
  rw [HW1.out]
  clear HW1
  go_wp2_with fail
  refine (HR.out _).mono ?_
  rintro e w5 ⟨rfl, b5⟩
  have HB5 : Hid (Below w.heap.size w w5) := HB.out.trans (b5.mono HB.out.size)
  have hg5 : w5.heap[w.heap.size]? = some (.cells (rtc c g n p t) 27) := (b5.block _ (Array.getElem?_eq_some_iff.1 HG.out).1).trans HG.out
  clear b5 c0 c1 c2 c3 c4
  have c0 : w5.cell? ⟨w.heap.size, 0, none⟩ = some (.int .u64 (c : Int)) := by rw [cell_of_row _ _ _ _ _ _ hg5]; rfl
  have c1 : w5.cell? ⟨w.heap.size, 1, none⟩ = some (.int .u32 (g : Int)) := by rw [cell_of_row _ _ _ _ _ _ hg5]; rfl
  have c2 : w5.cell? ⟨w.heap.size, 2, none⟩ = some (.int .u32 (n : Int)) := by rw [cell_of_row _ _ _ _ _ _ hg5]; rfl
  clear hg5
  by_cases h1 : 0 < c
  · have q1 : decide ((0 : Int) < (c : Int)) = true := decide_eq_true (by omega)
    by_cases h2 : 0 < g
    · have q2 : decide ((0 : Int) < (g : Int)) = true := decide_eq_true (by omega)
      by_cases h3 : n ≤ 1000
      · have q3 : decide ((n : Int) ≤ 1000) = true := decide_eq_true (by omega)
        go_wp2_with fail
        go_ret
        exact ⟨by simp [*], HB5.out⟩
      · have q3 : decide ((n : Int) ≤ 1000) = false := decide_eq_false (by omega)
        go_wp2_with fail
        go_ret
        exact ⟨by simp [*], HB5.out⟩
    · have q2 : decide ((0 : Int) < (g : Int)) = false := decide_eq_false (by omega)
      go_wp2_with fail
      go_ret
      exact ⟨by simp [*], HB5.out⟩
  · have q1 : decide ((0 : Int) < (c : Int)) = false := decide_eq_false (by omega)
    go_wp2_with fail
    go_ret
    exact ⟨by simp [*], HB5.out⟩
end Go.Proofs.Ytofealdlgpmheaa.Ro
/- Which rows are right. -/
namespace Go.Proofs.Ytofealdlgpmheaa.Rq
open Go.RowKit Go.Lib Go.Shelf
open Go.Proofs.Ytofealdlgpmheaa.Rc
theorem rr_is (r : Rw) : rightRow r = (onS r.x r.y && decide (r.v.size ≤ 16)) := by
  unfold rightRow onS
  by_cases h1 : r.x < 2147483648
  · by_cases h2 : r.y < 2147483648
    · simp [h1, h2]
    · simp [h1, h2]
  · simp [h1]
theorem wrap_i64 {m : Int} (h0 : -9223372036854775808 ≤ m) (h1 : m ≤ 9223372036854775807) : IntKind.i64.wrap m = m := IntWalk.i64_in _ ⟨h0, h1⟩
/-- Four cells of a block of its own hold a row. -/
def F4 (g : Nat) (r : Rw) (w : World) : Prop := w.cell? ⟨g, 0, none⟩ = some (.int .u64 (r.id : Int)) ∧ w.cell? ⟨g, 1, none⟩ = some (.int .u32 (r.x : Int)) ∧ w.cell? ⟨g, 2, none⟩ = some (.int .u32 (r.y : Int)) ∧ w.cell? ⟨g, 3, none⟩ = some (.string r.v)
theorem F4.of {g : Nat} {r : Rw} {w : World} {t : TypeId} {fr : Nat × Nat} (h : w.heap[g]? = some (.cells #[.int .u64 (r.id : Int), .int .u32 (r.x : Int), .int .u32 (r.y : Int), .string r.v] t fr)) : F4 g r w :=
  ⟨by rw [cell_of_row _ _ _ _ _ _ h]; rfl, by rw [cell_of_row _ _ _ _ _ _ h]; rfl, by rw [cell_of_row _ _ _ _ _ _ h]; rfl, by rw [cell_of_row _ _ _ _ _ _ h]; rfl⟩
theorem F4.same {g : Nat} {r : Rw} {w w' : World} (h : F4 g r w) (e : w'.heap[g]? = w.heap[g]?) : F4 g r w' :=
  ⟨(World.cell?_of_block (a := ⟨g, 0, none⟩) e).trans h.1, (World.cell?_of_block (a := ⟨g, 1, none⟩) e).trans h.2.1, (World.cell?_of_block (a := ⟨g, 2, none⟩) e).trans h.2.2.1, (World.cell?_of_block (a := ⟨g, 3, none⟩) e).trans h.2.2.2⟩
def F4p (g : Nat) (r : Rw) (b x : Nat) (p : Nat) (w : World) : Prop := F4 g r w ∧ w.cell? ⟨b, x, none⟩ = some (.int .u64 (p : Int))
end Go.Proofs.Ytofealdlgpmheaa.Rq
