/- The plane, the cell around a point, corners, gaps. -/
import Derived.Test.YtofealdlgpmheaaQCA
import Derived.Test.YtofealdlgpmheaaRows
import Derived.WalkKit
import Derived.Deep.RegionHeld3
namespace Go.Proofs.Ytofealdlgpmheaa.Rc
open Go.RowKit Go.Lib
theorem below_new (w : World) (o : Obj) : Below w.heap.size w (w.alloc o) := (Below.refl _ w).alloc (Nat.le_refl _) _
theorem onS_true {x y : Nat} (h1 : x < 2147483648) (h2 : y < 2147483648) : onS x y = true := decide_eq_true ⟨h1, h2⟩
theorem onS_false {x y : Nat} (h : ¬ (x < 2147483648 ∧ y < 2147483648)) : onS x y = false := decide_eq_false h
theorem andNot_is (x n : Nat) (hx : x < 4294967296) (hn : n ≤ 31) : bits .andNot .u32 (x : Int) ((2 ^ n - 1) % 4294967296) = (flr x n : Nat) := by
  have h := pow_le31 hn
  have hp := Nat.two_pow_pos n
  have e : ((2 : Int) ^ n - 1) % 4294967296 = ((2 ^ n - 1 : Nat) : Int) := by
    have : ((2 : Int) ^ n) = ((2 ^ n : Nat) : Int) := by simp
    rw [this]; omega
  rw [e, u32_andNot_nat x (2 ^ n - 1) hx (by omega), andNot_flr x n hx (by omega)]
/-- How far a place is from those from a to b. -/
def gp (x a b : Nat) : Nat := if x < a then a - x else if b < x then x - b else 0
end Go.Proofs.Ytofealdlgpmheaa.Rc
/- Right, RightBox, Has, In. -/
namespace Go.Proofs.Ytofealdlgpmheaa.Rc
open Go.RowKit Go.Lib
/-- A cell, a box as values. -/
abbrev cv (X Y : Nat) (L : Int) : Value := .agg #[.int .u32 (X : Int), .int .u32 (Y : Int), .int .i64 L]
abbrev bv (a b c d : Nat) : Value := .agg #[.int .u32 (a : Int), .int .u32 (b : Int), .int .u32 (c : Int), .int .u32 (d : Int)]
/-- One operation alone may come up, and it is wanted. -/
theorem readyH {P : Program} {md : Region.Mode} {ops : Array Oper} {Q : Exit → Act → World → Prop} {S : World → Prop} {fuel : Nat} {listed : Array Bool} {a : Act} {w : World} (k : Nat) (o : Oper) (hr : Region.ready md ops listed = [k]) (ho : ops[k]? = some o)
    (hw : Region.wanted o (yielded ops a.tmps) = true)
    (h : ∀ K : Act → World → Prop, (∀ a w, S w → wpAnyH P md ops Q S fuel (listed.setIfInBounds k true) a w → K a w) → Oper.wp P o a w K Q) : wpAnyH P md ops Q S (fuel + 1) listed a w := by
  refine wpAnyH_all hr (by simp) fun j hj => ?_
  obtain rfl : j = k := by simpa using hj
  unfold wpOp
  simp only [ho, hw, if_true]
  exact .inl (h _ fun a w h1 h2 => ⟨h1, h2⟩)
/-- What lies in the block of a cell that was handed in. -/
def Cel (g X Y : Nat) (L : Int) (w : World) : Prop := w.heap[g]? = some (.cells #[.int .u32 (X : Int), .int .u32 (Y : Int), .int .i64 L] 9999)
def CelS (g X Y : Nat) (L : Int) (w : World) : Prop := w.cell? ⟨g, 0, none⟩ = some (.int .u32 (X : Int)) ∧ w.cell? ⟨g, 1, none⟩ = some (.int .u32 (Y : Int)) ∧ w.cell? ⟨g, 2, none⟩ = some (.int .i64 L)
theorem Cel.cells {g X Y : Nat} {L : Int} {w : World} (h : Cel g X Y L w) : CelS g X Y L w :=
  ⟨by rw [cell_of_row _ _ _ _ _ _ h]; rfl, by rw [cell_of_row _ _ _ _ _ _ h]; rfl, by rw [cell_of_row _ _ _ _ _ _ h]; rfl⟩
theorem Cel.below {g X Y : Nat} {L : Int} {w w' : World} {B : Nat} (h : Cel g X Y L w) (hb : Below B w w') (hg : g < B) : Cel g X Y L w' := (hb.block g hg).trans h
theorem CelS.below {g X Y : Nat} {L : Int} {w w' : World} {B : Nat} (h : CelS g X Y L w) (hb : Below B w w') (hg : g < B) : CelS g X Y L w' :=
  ⟨(World.cell?_of_block (a := ⟨g, 0, none⟩) (hb.block g hg)).trans h.1, (World.cell?_of_block (a := ⟨g, 1, none⟩) (hb.block g hg)).trans h.2.1, (World.cell?_of_block (a := ⟨g, 2, none⟩) (hb.block g hg)).trans h.2.2⟩
theorem cel_new (X Y : Nat) (L : Int) (w : World) : CelS w.heap.size X Y L (w.alloc (.cells #[.int .u32 (X : Int), .int .u32 (Y : Int), .int .i64 L] 9999)) := Cel.cells (heap_alloc_new w _)
/-- Two cells of one level held against each other. -/
theorem two_if (a b c d : Nat) (w : World) : (if (a : Int) = (c : Int) then if (b : Int) = (d : Int) then Result.ok (Next.value (Value.bool true)) w else Result.ok (Next.value (Value.bool false)) w else Result.ok (Next.value (Value.bool false)) w) = Result.ok (Next.value (Value.bool (decide (a = c ∧ b = d)))) w := by
  by_cases h : a = c
  · by_cases k : b = d
    · simp [h, k]
    · rw [if_pos (by omega), if_neg (by omega), decide_eq_false (fun e => k e.2)]
  · rw [if_neg (by omega), decide_eq_false (fun e => h e.1)]
end Go.Proofs.Ytofealdlgpmheaa.Rc
/- The reference: Size, Right, RightBox, In. -/
namespace Go.Proofs.Ytofealdlgpmheaa.Rc
open Go.RowKit Go.Lib
theorem tmod_dec (a s : Nat) : ((a : Int).tmod (s : Int) == 0) = decide (a % s = 0) := by
  rw [← Int.ofNat_tmod]
  by_cases h : a % s = 0
  · simp [h]
  · simp [h]; omega
end Go.Proofs.Ytofealdlgpmheaa.Rc
