/- A device's state, in plain terms; how it lies in memory; what a call leaves as it was. -/
import Derived.Test.YtkpfnepbnaekoaaRows
import Derived.WalkSpells
import Derived.WalkLawsBesides
import Derived.Deep.QuietTactic
import Derived.BigQuiet
import Derived.RangeFuncNested
import Derived.RangeFuncBound
import Derived.RangeFuncCalls
import Derived.RangeFuncLeaves
import Derived.Shelf.Abstract
import Derived.Shelf.RegionOpen
import Derived.WalkKit
import Derived.OwnWalkIn
import Derived.TacticsInMore
import Derived.LoopNIn
import Derived.LoopIn
import Derived.RegionIn
import Derived.RegionTactic
import Derived.Deep.MidRow
import Derived.Laws.OwnMore
import Derived.Maps.AppendAt
import Derived.Maps.RangeRun
import Derived.Maps.Keyed
import Derived.ArgAppend
namespace Go.Proofs.Ytkpfnepbnaekoaa.Rd
open Go.RowKit
open Go.ChangeMaps (setBlock)
/-- The number in a slot. -/
def natOf : Value → Nat | .int _ x => x.toNat | _ => 0
set_option maxRecDepth 100000 in
theorem below_new (w : World) (o : Obj) : Below w.heap.size w (w.alloc o) := (Below.refl _ w).alloc (Nat.le_refl _) _
/-- All but some blocks are as they were. -/
structure But (S : Nat → Prop) (w w' : World) : Prop where
  os : w'.os = w.os
  tape : w'.tape = w.tape
  output : w'.output = w.output
  size : w.heap.size ≤ w'.heap.size
  block : ∀ k, k < w.heap.size → ¬ S k → w'.heap[k]? = w.heap[k]?
set_option maxRecDepth 100000 in
theorem But.refl (S : Nat → Prop) (w : World) : But S w w := ⟨rfl, rfl, rfl, Nat.le_refl _, fun _ _ _ => rfl⟩
set_option maxRecDepth 100000 in
theorem But.trans {S : Nat → Prop} {a b c : World} (h : But S a b) (k : But S b c) : But S a c :=
  ⟨k.os.trans h.os, k.tape.trans h.tape, k.output.trans h.output, Nat.le_trans h.size k.size, fun i hi hs => (k.block i (Nat.lt_of_lt_of_le hi h.size) hs).trans (h.block i hi hs)⟩
set_option maxRecDepth 100000 in
theorem But.of_below {S : Nat → Prop} {w w' : World} (h : Below w.heap.size w w') : But S w w' := ⟨h.os, h.tape, h.output, h.size, fun k hk _ => h.block k hk⟩
set_option maxRecDepth 100000 in
theorem But.more {S S' : Nat → Prop} {w w' : World} (h : But S w w') (hs : ∀ k, S k → S' k) : But S' w w' := ⟨h.os, h.tape, h.output, h.size, fun k hk hn => h.block k hk fun e => hn (hs k e)⟩
set_option maxRecDepth 100000 in
theorem But.below {S : Nat → Prop} {w w' : World} {B : Nat} (h : But S w w') (hs : ∀ k, S k → B ≤ k) (hB : B ≤ w.heap.size) : Below B w w' :=
  ⟨h.os, h.tape, h.output, h.size, fun k hk => h.block k (by omega) fun e => by have := hs k e; omega⟩
set_option maxRecDepth 100000 in
theorem But.set {S : Nat → Prop} (w : World) (b i : Nat) (v : Value) (hb : S b) : But S w (w.setCell ⟨b, i, none⟩ v) :=
  ⟨rfl, rfl, rfl, by simp [World.setCell], fun k _ hn => Below.heap_setCell _ _ _ _ fun e => hn (by simp only at e; rw [e]; exact hb)⟩
set_option maxRecDepth 100000 in
theorem But.setBlock {S : Nat → Prop} (w : World) (b : Nat) (o : Obj) (hb : S b) : But S w (setBlock w b o) :=
  ⟨rfl, rfl, rfl, by simp [ChangeMaps.setBlock], fun k _ hn => by
    simp only [ChangeMaps.setBlock, Array.getElem?_setIfInBounds]
    rw [if_neg fun e => hn (by rw [← e]; exact hb)]⟩
set_option maxRecDepth 100000 in
theorem setBlock_same {w : World} {b : Nat} {o o' : Obj} (h : w.heap[b]? = some o) : (setBlock w b o').heap[b]? = some o' := by
  have := (Array.getElem?_eq_some_iff.1 h).1
  simp only [ChangeMaps.setBlock, Array.getElem?_setIfInBounds]
  simp [this]
set_option maxRecDepth 100000 in
theorem setBlock_other (w : World) (b : Nat) (o' : Obj) {k : Nat} (h : k ≠ b) : (setBlock w b o').heap[k]? = w.heap[k]? := by
  simp only [ChangeMaps.setBlock, Array.getElem?_setIfInBounds]
  rw [if_neg (by omega)]
/-- A device's state: how many blocks, their texts, which are bad, what is pending, the power, the register. -/
structure St where
  n : Nat
  tx : Nat → ByteArray
  bad : Nat → Bool
  pd : Nat → Option ByteArray
  ended : Bool
  cut : Bool
  left : Int
  cnt : Int
  tag : ByteArray
  boots : Int
/-- What holds of each state. -/
structure Ok (s : St) : Prop where
  n0 : 4 ≤ s.n
  n1 : s.n ≤ 4096
  tx : ∀ p, p < s.n → (s.tx p).size = 256
  pd : ∀ p t, s.pd p = some t → p < s.n ∧ t.size = 256
  l0 : -9223372036854775808 ≤ s.left
  l1 : s.left ≤ 9223372036854775807
  lc : s.cut = true → 0 ≤ s.left
  c0 : 0 ≤ s.cnt
  c1 : s.cnt ≤ 18446744073709551615
  b0 : 0 ≤ s.boots
  b1 : s.boots ≤ 4294967295
/-- A map of texts. -/
def Pm (w : World) (m : Nat) (f : Nat → Option ByteArray) : Prop :=
  ∃ es clock, w.heap[m]? = some (.map es clock) ∧ MapKept.Stamped es clock ∧
    (∀ e ∈ es.toList, ∃ (p : Nat) (t : ByteArray), e.key = .int .u32 (p : Int) ∧ e.val = .agg #[.string t] ∧ f p = some t) ∧
    (∀ p t, f p = some t → ∃ e ∈ es.toList, e.key = .int .u32 (p : Int) ∧ e.val = .agg #[.string t])
set_option maxRecDepth 100000 in
theorem Pm.same {w w' : World} {m : Nat} {f : Nat → Option ByteArray} (h : Pm w m f) (e : w'.heap[m]? = w.heap[m]?) : Pm w' m f := by
  obtain ⟨es, c, h1, h2⟩ := h
  exact ⟨es, c, e.trans h1, h2⟩
set_option maxRecDepth 100000 in
theorem Pm.lt {w : World} {m : Nat} {f : Nat → Option ByteArray} (h : Pm w m f) : m < w.heap.size := by
  obtain ⟨es, c, h1, h2⟩ := h
  exact (Array.getElem?_eq_some_iff.1 h1).1
set_option maxRecDepth 100000 in
theorem Pm.made (w : World) : Pm (w.alloc (.map #[] 0)) w.heap.size (fun _ => none) :=
  ⟨#[], 0, heap_alloc_new w _, MapKept.stamped_empty 0, by simp, by simp⟩
set_option maxRecDepth 100000 in
/-- Which of two is not there is the other. -/
theorem Pm.look {w : World} {m : Nat} {f : Nat → Option ByteArray} (h : Pm w m f) (p : Nat) (c : Bool) :
    (Instr.lookup 71 (.map (some m)) (.int .u32 (p : Int)) c).run Try.prog w = .ok (if c then .tuple #[.agg #[.string ((f p).getD ⟨#[]⟩)], .bool (f p).isSome] else .agg #[.string ((f p).getD ⟨#[]⟩)]) w := by
  obtain ⟨es, cl, h1, h2, h3, h4⟩ := h
  have hk : MapKept.IsKey (.int .u32) (.int .u32 (p : Int)) := rfl
  have hks : ∀ e ∈ es.toList, MapKept.IsKey (.int .u32) e.key := fun e he => by
    obtain ⟨q, t, e1, _⟩ := h3 e he
    rw [e1]; rfl
  have hz : (zeroValue 81).run Try.prog w = .ok (.agg #[.string ⟨#[]⟩]) w := Try.zeroValue81 w
  rcases MapKept.findNow_spec hk es.toList 0 hks with ⟨k1, k2⟩ | ⟨j, e0, k1, k2, k3⟩
  · have hf : f p = none := by
      cases hf : f p with
      | none => rfl
      | some t =>
        obtain ⟨e, he, e1, _⟩ := h4 p t hf
        exact absurd e1 (k2 e he)
    rw [hf]
    have fk := MapKept.run_findKey (w := w) Try.underlying32 k1
    simp only [Instr.lookup, Sem.run_bind, run_underlying Try.underlying71, MapKept.run_getObj_map h1, MapKept.run_checkKey Try.underlying32 hk _ 9999, fk, hz, Result.andThen, Sem.run_pure]
    rfl
  · have hm0 : e0 ∈ es.toList := List.mem_of_getElem? k2
    obtain ⟨q, t, e1, e2, e3⟩ := h3 e0 hm0
    have hq : q = p := by rw [k3] at e1; simp at e1; omega
    subst hq
    rw [e3]
    have fk := MapKept.run_findKey (w := w) Try.underlying32 k1
    rw [e2] at fk
    simp only [Instr.lookup, Sem.run_bind, run_underlying Try.underlying71, MapKept.run_getObj_map h1, MapKept.run_checkKey Try.underlying32 hk _ 9999, fk, Result.andThen, Sem.run_pure]
    rfl
end Go.Proofs.Ytkpfnepbnaekoaa.Rd
