/- A list of operations that is handed in. -/
import Derived.Test.YtkpfnepbnaekoaaPLR
import Derived.Test.YtkpfnepbnaekoaaPDR
import Derived.ChangeSlices
import Derived.ChangeArms
import Derived.DataReads
namespace Go.Proofs.Ytkpfnepbnaekoaa.Rd
open Go.RowKit
/-- An operation of a list. -/
structure Opr where
  op : Int
  p : Nat
  n : Int
  s : ByteArray
  fo : Option Addr
  fs : List Int
  fc : Nat
/-- An operation's cells. -/
structure OpAt (w : World) (b i : Nat) (x : Opr) : Prop where
  c0 : w.cell? ⟨b, i, none⟩ = some (.int .i64 x.op)
  c1 : w.cell? ⟨b, i + 1, none⟩ = some (.int .u32 (x.p : Int))
  c2 : w.cell? ⟨b, i + 2, none⟩ = some (.int .i64 x.n)
  c3 : w.cell? ⟨b, i + 3, none⟩ = some (.string x.s)
  c4 : w.cell? ⟨b, i + 4, none⟩ = some (.slice x.fo x.fs.length x.fc)
/-- What an operation is. -/
structure OpOk (w : World) (x : Opr) : Prop where
  o0 : -9223372036854775808 ≤ x.op
  o1 : x.op ≤ 9223372036854775807
  p1 : x.p ≤ 4294967295
  n0 : -9223372036854775808 ≤ x.n
  n1 : x.n ≤ 9223372036854775807
  fs : Fs w x.fo x.fs
  fb : x.fs ≠ [] → ∀ a, x.fo = some a → a.block < w.heap.size
/-- Operations in a slice. -/
def Os (w : World) (o : Option Addr) (n : Nat) (f : Nat → Opr) : Prop := 0 < n → ∃ b off, o = some ⟨b, off, none⟩ ∧ b < w.heap.size ∧ ∀ i, i < n → OpAt w b (off + i * 5) (f i) ∧ OpOk w (f i)
set_option maxRecDepth 100000 in
theorem OpAt.same {w w' : World} {b i : Nat} {x : Opr} (h : OpAt w b i x) (e : w'.heap[b]? = w.heap[b]?) : OpAt w' b i x :=
  have c (j : Nat) : w'.cell? ⟨b, j, none⟩ = w.cell? ⟨b, j, none⟩ := World.cell?_of_block (a := ⟨b, j, none⟩) e
  ⟨(c _).trans h.c0, (c _).trans h.c1, (c _).trans h.c2, (c _).trans h.c3, (c _).trans h.c4⟩
set_option maxRecDepth 100000 in
theorem OpOk.below {w w' : World} {x : Opr} (h : OpOk w x) (hb : Below w.heap.size w w') : OpOk w' x :=
  ⟨h.o0, h.o1, h.p1, h.n0, h.n1, h.fs.below hb, fun hn a ha => Nat.lt_of_lt_of_le (h.fb hn a ha) hb.size⟩
set_option maxRecDepth 100000 in
theorem Os.below {w w' : World} {o : Option Addr} {n : Nat} {f : Nat → Opr} (h : Os w o n f) (hb : Below w.heap.size w w') : Os w' o n f := by
  intro hn
  obtain ⟨b, off, e, hl, hc⟩ := h hn
  exact ⟨b, off, e, Nat.lt_of_lt_of_le hl hb.size, fun i hi => ⟨(hc i hi).1.same (hb.block b hl), (hc i hi).2.below hb⟩⟩
end Go.Proofs.Ytkpfnepbnaekoaa.Rd
namespace Go.Proofs.Ytkpfnepbnaekoaa
open Go.ChangeShapes Go.WideShapes Go.ChangeAt Go.RowKit
set_option maxRecDepth 100000 in
set_option maxHeartbeats 1000000 in
theorem op_of_cells {H : Type} {enc : TypeId × Value → H} {W : World} {fuel b i : Nat} {cs : List Value} {x : DataW H × List MemPlace} (h : DataW.trod enc Try.prog W 0 (fun _ => true) true fuel 35 cs = some x)
    (hc : ∀ j, j < 5 → W.cell? ⟨b, i + j, none⟩ = cs[j]?) (hl : cs.length = 5) (hlt : ∀ y ∈ x.2, y.block < W.heap.size) : ∃ r : Rd.Opr, Rd.OpAt W b i r ∧ Rd.OpOk W r := by
  obtain ⟨xs, n, _, rfl, _, hxs, hf⟩ := DataW.trod_struct Try.underlying35 h
  have g0 : DataW.trod enc Try.prog W 0 (fun _ => true) true n 3 ((cs.drop 0).take (Try.prog.cellsOf 3)) = xs[0]? := hf 0 _ rfl
  have g1 : DataW.trod enc Try.prog W 0 (fun _ => true) true n 32 ((cs.drop 1).take (Try.prog.cellsOf 32)) = xs[1]? := hf 1 _ rfl
  have g2 : DataW.trod enc Try.prog W 0 (fun _ => true) true n 3 ((cs.drop 2).take (Try.prog.cellsOf 3)) = xs[2]? := hf 2 _ rfl
  have g3 : DataW.trod enc Try.prog W 0 (fun _ => true) true n 9 ((cs.drop 3).take (Try.prog.cellsOf 9)) = xs[3]? := hf 3 _ rfl
  have g4 : DataW.trod enc Try.prog W 0 (fun _ => true) true n 33 ((cs.drop 4).take (Try.prog.cellsOf 33)) = xs[4]? := hf 4 _ rfl
  have z (t : Nat) (ht : t = 3 ∨ t = 32 ∨ t = 9 ∨ t = 33) : Try.prog.cellsOf t = 1 := by
    rcases ht with rfl | rfl | rfl | rfl <;> kernel_rfl
  simp only [z 3 (by simp), z 32 (by simp), z 9 (by simp), z 33 (by simp)] at g0 g1 g2 g3 g4
  obtain ⟨v0, v1, v2, v3, v4, rfl⟩ : ∃ v0 v1 v2 v3 v4, cs = [v0, v1, v2, v3, v4] := by
    match cs, hl with
    | [v0, v1, v2, v3, v4], _ => exact ⟨v0, v1, v2, v3, v4, rfl⟩
  obtain ⟨x0, x1, x2, x3, x4, rfl⟩ : ∃ x0 x1 x2 x3 x4, xs = [x0, x1, x2, x3, x4] := by
    match xs, hxs with
    | [x0, x1, x2, x3, x4], _ => exact ⟨x0, x1, x2, x3, x4, rfl⟩
  simp at g0 g1 g2 g3 g4
  obtain ⟨a0, e0, _, u0⟩ := DataW.trod_int Try.underlying3 g0
  obtain ⟨a1, e1, _, u1⟩ := DataW.trod_int Try.underlying32 g1
  obtain ⟨a2, e2, _, u2⟩ := DataW.trod_int Try.underlying3 g2
  obtain ⟨a3, e3, _, u3⟩ := DataW.trod_string Try.underlying9 g3
  have w0 : -9223372036854775808 ≤ a0 ∧ a0 ≤ 9223372036854775807 := (by simpa [Lit.wf] using u0 : IntKind.i64.min ≤ a0 ∧ a0 ≤ IntKind.i64.max)
  have w1 : 0 ≤ a1 ∧ a1 ≤ 4294967295 := (by simpa [Lit.wf] using u1 : IntKind.u32.min ≤ a1 ∧ a1 ≤ IntKind.u32.max)
  have w2 : -9223372036854775808 ≤ a2 ∧ a2 ≤ 9223372036854775807 := (by simpa [Lit.wf] using u2 : IntKind.i64.min ≤ a2 ∧ a2 ≤ IntKind.i64.max)
  obtain ⟨m1, rfl⟩ := Int.eq_ofNat_of_zero_le w1.1
  cases e0; cases e1; cases e2; cases e3
  have h0 := hc 0 (by omega)
  have h1 := hc 1 (by omega)
  have h2 := hc 2 (by omega)
  have h3 := hc 3 (by omega)
  have h4 := hc 4 (by omega)
  simp at h0 h1 h2 h3 h4
  rcases open_ints Try.underlying33 Try.underlying3 (by kernel_rfl) g4 with ⟨hcs, hx⟩ | ⟨a, len, cap, ss, hcs, _, hle, hm, hz, hx, hcell, _⟩
  · cases hcs
    exact ⟨⟨a0, m1, a2, a3, none, [], 0⟩, ⟨h0, h1, h2, h3, h4⟩, ⟨w0.1, w0.2, by show m1 ≤ 4294967295; omega, w2.1, w2.2, fun h => absurd rfl h, fun h => absurd rfl h⟩⟩
  · cases hcs
    subst hx
    simp only [if_true] at hz
    have hlen : (ss.take len).length = len := by simp; omega
    have key : ss.take len ≠ [] → a.spot = none ∧ a.block < W.heap.size := fun hne => by
      have hl0 : 0 < len := Nat.pos_of_ne_zero fun e => hne (by simp [e])
      have hsp : a.spot = none := by simpa [Addr.add] using World.cell?_spot (hcell 0 (by omega))
      obtain ⟨fb, off, spot⟩ := a
      simp only at hsp
      subst hsp
      have hin : MemPlace.cell fb off ∈ MemPlace.row ⟨fb, off, none⟩ ss.length := MemPlace.mem_row.2 ⟨0, by omega, by simp⟩
      exact ⟨rfl, hlt (.cell fb off) (List.mem_flatMap.2 ⟨_, .tail _ (.tail _ (.tail _ (.tail _ (.head _)))), hin⟩)⟩
    refine ⟨⟨a0, m1, a2, a3, some a, ss.take len, cap⟩, ⟨h0, h1, h2, h3, by rw [hlen]; exact h4⟩, ⟨w0.1, w0.2, by show m1 ≤ 4294967295; omega, w2.1, w2.2, fun hne => ?_, fun hne b hb => by cases hb; exact (key hne).2⟩⟩
    obtain ⟨k1, k2⟩ := key hne
    obtain ⟨fb, off, spot⟩ := a
    simp only at k1
    subst k1
    refine ⟨fb, off, rfl, k2, fun i f hi => ?_⟩
    have hil := (List.getElem?_eq_some_iff.1 hi).1
    rw [hlen] at hil
    have h1 := hcell i (by omega)
    rw [show (⟨fb, off, none⟩ : Addr).add i = ⟨fb, off + i, none⟩ by unfold Addr.add; split <;> simp_all] at h1
    rw [h1]
    rw [List.getElem?_take_of_lt hil] at hi
    simp [hi]
set_option maxRecDepth 100000 in
set_option maxHeartbeats 1000000 in
theorem ops_of_arg {H : Type} {enc : TypeId × Value → H} {W : World} {o : Option Addr} {n c : Nat} {d : DataW H} {p : List MemPlace} (h : DataW.Trod enc Try.prog W 0 (fun _ => true) true 22 (.slice o n c) d p) (hlt : ∀ x ∈ p, x.block < W.heap.size) :
    ∃ f, n ≤ maxLen ∧ Rd.Os W o n f := by
  obtain ⟨fuel, hf⟩ := h
  have h5 : Try.prog.cellsOf 35 = 5 := by kernel_rfl
  rcases DataW.trod_slice Try.underlying22 hf with ⟨hcs, hx⟩ | ⟨a, len, cap, elems, rest, n', _, hcs, hx, hb, hl, hm, hlen, hel, _, _⟩
  · simp [Value.cells] at hcs
    obtain ⟨rfl, rfl, rfl⟩ := hcs
    exact ⟨fun _ => ⟨0, 0, 0, ⟨#[]⟩, none, [], 0⟩, by simp [maxLen], fun h => by omega⟩
  · simp [Value.cells] at hcs
    obtain ⟨rfl, rfl, rfl⟩ := hcs
    simp only [Prod.mk.injEq] at hx
    obtain ⟨rfl, rfl⟩ := hx
    rw [h5] at hel hlt
    by_cases hn0 : n = 0
    · exact ⟨fun _ => ⟨0, 0, 0, ⟨#[]⟩, none, [], 0⟩, by omega, fun h => by omega⟩
    have each : ∀ i, i < n → ∃ cs y, W.cells? 0 (a.add (i * 5)) 5 = some cs ∧ DataW.trod enc Try.prog W 0 (fun _ => true) true n' 35 cs = some y ∧ y ∈ elems := by
      intro i hi
      have h1 := hel i hi
      have h2 : elems[i]? = some elems[i] := List.getElem?_eq_getElem (by omega)
      rw [h2, Option.bind_eq_some_iff] at h1
      obtain ⟨cs, e1, e2⟩ := h1
      exact ⟨cs, _, e1, e2, List.getElem_mem _⟩
    obtain ⟨ab, off, spot⟩ := a
    have hspot : spot = none := by
      obtain ⟨cs, y, e1, _, _⟩ := each 0 (by omega)
      obtain ⟨_, hcl, hce⟩ := World.cells?_some e1
      have h0 := hce 0 (by omega)
      rw [List.getElem?_eq_getElem (by omega)] at h0
      simpa [Addr.add] using World.cell?_spot h0
    subst hspot
    have hadd (k : Nat) (o2 : Nat) : (⟨ab, o2, none⟩ : Addr).add k = ⟨ab, o2 + k, none⟩ := by unfold Addr.add; split <;> simp_all
    have hbW : ab < W.heap.size := hlt (.cell ab off) (by rw [List.mem_append]; exact .inl (MemPlace.mem_row.2 ⟨0, by omega, by simp⟩))
    have all : ∀ i, ∃ r : Rd.Opr, i < n → Rd.OpAt W ab (off + i * 5) r ∧ Rd.OpOk W r := by
      intro i
      by_cases hi : i < n
      · obtain ⟨cs, y, e1, e2, e3⟩ := each i hi
        obtain ⟨_, hcl, hce⟩ := World.cells?_some e1
        obtain ⟨r, hr⟩ := op_of_cells (b := ab) (i := off + i * 5) e2 (fun j hj => by rw [← hce j hj, hadd, hadd]) hcl (fun z hz => hlt z (by rw [List.mem_append]; exact .inr (List.mem_flatMap.2 ⟨y, List.mem_append.2 (.inl e3), hz⟩)))
        exact ⟨r, fun _ => hr⟩
      · exact ⟨⟨0, 0, 0, ⟨#[]⟩, none, [], 0⟩, fun h => absurd h hi⟩
    obtain ⟨f, hf⟩ := Classical.axiomOfChoice all
    exact ⟨f, by omega, fun _ => ⟨ab, off, rfl, hbW, hf⟩⟩
end Go.Proofs.Ytkpfnepbnaekoaa
