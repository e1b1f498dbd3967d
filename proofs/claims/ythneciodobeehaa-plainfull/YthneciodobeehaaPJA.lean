/- A range over a function whose body owns blocks, some of them new; what the function itself keeps is no block of the body's. -/
import Derived.Test.YthneciodobeehaaPGB
namespace Go.Proofs.Ythneciodobeehaa.Rq
open Go.RowKit
open Go.Proofs.Ythneciodobeehaa.Rc
/-- All but some blocks are as they were. -/
structure But (S : Nat → Prop) (w w' : World) : Prop where
  os : w'.os = w.os
  tape : w'.tape = w.tape
  output : w'.output = w.output
  size : w.heap.size ≤ w'.heap.size
  block : ∀ k, k < w.heap.size → ¬ S k → w'.heap[k]? = w.heap[k]?
theorem But.refl (S : Nat → Prop) (w : World) : But S w w := ⟨rfl, rfl, rfl, Nat.le_refl _, fun _ _ _ => rfl⟩
theorem But.trans {S : Nat → Prop} {a b c : World} (h : But S a b) (k : But S b c) : But S a c :=
  ⟨k.os.trans h.os, k.tape.trans h.tape, k.output.trans h.output, Nat.le_trans h.size k.size, fun i hi hs => (k.block i (Nat.lt_of_lt_of_le hi h.size) hs).trans (h.block i hi hs)⟩
theorem But.of_below {S : Nat → Prop} {w w' : World} (h : Below w.heap.size w w') : But S w w' := ⟨h.os, h.tape, h.output, h.size, fun k hk _ => h.block k hk⟩
theorem But.more {S S' : Nat → Prop} {w w' : World} (h : But S w w') (hs : ∀ k, k < w.heap.size → S k → S' k) : But S' w w' := ⟨h.os, h.tape, h.output, h.size, fun k hk hn => h.block k hk fun e => hn (hs k hk e)⟩
theorem But.below {S : Nat → Prop} {w w' : World} {B : Nat} (h : But S w w') (hs : ∀ k, S k → B ≤ k) (hB : B ≤ w.heap.size) : Below B w w' :=
  ⟨h.os, h.tape, h.output, h.size, fun k hk => h.block k (by omega) fun e => by have := hs k e; omega⟩
theorem But.put {S : Nat → Prop} (w : World) (l : Nat) (o : Obj) (hl : S l) : But S w (w.putObj l o) :=
  ⟨rfl, rfl, rfl, by simp [World.putObj], fun k _ hn => World.putObj_heap_other fun e => hn (by rw [e]; exact hl)⟩
theorem yield_wide {P : Program} {n m l : Nat} {args : Array Value} {W : World} {R : Ending → World → Prop} (h : YieldAt Fence.wide n P l args W R) : YieldAt Fence.wide m P l args W R := by
  obtain ⟨fn, tmps, assign, body, h1, h2⟩ := h
  exact ⟨fn, tmps, assign, body, h1, h2.1, fun c cs _ => h2.2 c cs (room_wide _)⟩
/-- What a yield may come to: some more blocks are owned, the others are as they were. -/
def YPost {ι : Type} (R : (Nat → Prop) → ι → World → Prop) (Rx : (Nat → Prop) → World → Prop) (own : Nat → Prop) (i : ι) (W : World) (e : Ending) (W' : World) : Prop :=
  ∃ own', (∀ j, own' j → own j ∨ (W.heap.size ≤ j ∧ j < W'.heap.size)) ∧ But own W W' ∧ ((e = .returned (.bool true) ∧ R own' i W') ∨ (e = .returned (.bool false) ∧ Rx own' W'))
/-- How a round's body may be left. -/
def lPost9 (J : (Nat → Prop) → World → Prop) (Jx : (Nat → Prop) → World → Prop) (jump : Code) (own : Nat → Prop) (W : World) : Exit → Act → World → Prop
  | .normal, _, W' => ∃ own', (∀ j, own' j → own j ∨ (W.heap.size ≤ j ∧ j < W'.heap.size)) ∧ But own W W' ∧ J own' W'
  | .exit i, _, W' => jump = .exit i ∧ ∃ own', (∀ j, own' j → own j ∨ (W.heap.size ≤ j ∧ j < W'.heap.size)) ∧ But own W W' ∧ Jx own' W'
  | .ret, _, W' => jump = .ret ∧ ∃ own', (∀ j, own' j → own j ∨ (W.heap.size ≤ j ∧ j < W'.heap.size)) ∧ But own W W' ∧ Jx own' W'
  | _, _, _ => False
/-- A function that holds ranges over functions is left: its marks. -/
theorem leaves_marks {F : Fence} {n : Nat} {P : Program} {fn : Func} {tmps : Array Value} {R : Ending → World → Prop} {v : Value} (hres : ∀ W, (results fn tmps).run P W = .ok v W) :
    ∀ (Ds : List Nat) (W : World), Ds.Nodup → (∀ D ∈ Ds, W.heap[D]? = some (.deferred (some []))) → (∀ W', But (fun j => j ∈ Ds) W W' → R (.returned v) W') →
      LeavesInM F n P fn tmps R (Ds.map fun D => { target := .collected D, args := #[] }) .returning W
  | [], W, _, _, h => ⟨v, hres W, h W (But.refl _ _)⟩
  | D :: Ds, W, hn, hd, h => by
    have hD := hd D (by simp)
    refine ⟨by simp, .inl ⟨D, _, rfl, run_takeDeferred hD, ?_⟩⟩
    obtain ⟨h1, h2⟩ := List.nodup_cons.1 hn
    refine leaves_marks hres Ds _ h2 (fun E hE => ?_) fun W' hb => h W' ?_
    · exact (World.putObj_heap_other (fun e => h1 (by rw [← e]; exact hE))).trans (hd E (by simp [hE]))
    · exact (But.put W D _ (by simp)).trans (hb.more fun j _ hj => by simp [hj])
end Go.Proofs.Ythneciodobeehaa.Rq
