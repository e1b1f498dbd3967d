/- The sort beyond twelve: patterns broken. -/
import Derived.Test.YtkpfnepbnaekoaaPSD
import Derived.Laws.Bits64
import Derived.Laws.Bits64b
namespace Go.Proofs.Ytkpfnepbnaekoaa.Rd
open Go.RowKit
/-- A number that is drawn, in a block of its own. -/
def Xw (w : World) (q v : Nat) : Prop := w.heap[q]? = some (.cells #[.int .u64 (v : Int)] 130 (0, 0))
set_option maxRecDepth 100000 in
theorem Xw.cell {w : World} {sw k : Nat} (h : Xw w sw k) : w.cell? ⟨sw, 0, none⟩ = some (.int .u64 (k : Int)) ∧ w.frozen? ⟨sw, 0, none⟩ = false := ⟨(cell_of_row _ _ _ _ _ _ h).trans rfl, frozen_of_row w _ _ _ _ h⟩
set_option maxRecDepth 100000 in
theorem Xw.set {w : World} {sw k : Nat} (h : Xw w sw k) (j : Nat) : Xw (w.setCell ⟨sw, 0, none⟩ (.int .u64 (j : Int))) sw j := set_at _ _ _ _ _ _ _ h
set_option maxRecDepth 100000 in
theorem xw (a : Nat) (z : Int) (ha : a < 18446744073709551616) (h0 : 0 ≤ z) (h1 : z < 18446744073709551616) : ∃ A : Nat, A < 18446744073709551616 ∧ bits .xor .u64 (a : Int) z = (A : Int) := by
  obtain ⟨y, rfl⟩ := Int.eq_ofNat_of_zero_le h0
  exact ⟨a ^^^ y, Nat.xor_lt_two_pow (n := 64) (by omega) (by omega), bits_xor_u64_nat a y ha (by omega)⟩
set_option maxRecDepth 100000 in
set_option maxHeartbeats 2000000 in
theorem next_any (q v : Nat) (hv : v < 18446744073709551616) (w : World) (h : Xw w q v) :
    Calls Try.prog 89 #[.pointer (some ⟨q, 0, none⟩)] w fun e w' => (∃ u : Nat, u < 18446744073709551616 ∧ e = .returned (.int .u64 (u : Int)) ∧ Xw w' q u) ∧ Bg q w w' := by
  have HX : Hid (Xw w q v) := h
  obtain ⟨c0, z0⟩ := h.cell
  clear h
  obtain ⟨A, lA, e1⟩ : ∃ A : Nat, A < 18446744073709551616 ∧ bits .xor .u64 (v : Int) (IntKind.u64.wrap ((v : Int) * 8192)) = (A : Int) := xw v _ hv (by rw [IntKind.wrap_u64]; omega) (by rw [IntKind.wrap_u64]; omega)
  obtain ⟨B, lB, e2⟩ : ∃ B : Nat, B < 18446744073709551616 ∧ bits .xor .u64 (A : Int) ((A : Int) / 128) = (B : Int) := xw A _ lA (by omega) (by omega)
  obtain ⟨C, lC, e3⟩ : ∃ C : Nat, C < 18446744073709551616 ∧ bits .xor .u64 (B : Int) (IntKind.u64.wrap ((B : Int) * 131072)) = (C : Int) := xw B _ lB (by rw [IntKind.wrap_u64]; omega) (by rw [IntKind.wrap_u64]; omega)
  have W1 : Hid (Xw (w.setCell ⟨q, 0, none⟩ (.int .u64 (A : Int))).drew q A) := HX.out.set A
  have W2 : Hid (Xw ((w.setCell ⟨q, 0, none⟩ (.int .u64 (A : Int))).drew.setCell ⟨q, 0, none⟩ (.int .u64 (B : Int))).drew q B) := W1.out.set B
  go_enter Try.func89, Try.ntmps89
  go_wp2_with fail
  go_region
  have B1 : Hid (Bg q w (w.setCell ⟨q, 0, none⟩ (.int .u64 (A : Int))).drew) := (But.set (S := fun k => k = q) _ _ _ _ rfl).trans (Bg.drew _)
  obtain ⟨w1, hw1⟩ : ∃ w1, (w.setCell ⟨q, 0, none⟩ (.int .u64 (A : Int))).drew = w1 := ⟨_, rfl⟩
  have X1 : Xw w1 q A := by rw [← hw1]; exact W1.out
  rw [hw1] at B1 ⊢
  obtain ⟨c1, z1⟩ := X1.cell
  clear hw1 W1 W2 c0 z0
  go_wp2_with fail
  go_region
  have B2 : Hid (Bg q w (w1.setCell ⟨q, 0, none⟩ (.int .u64 (B : Int))).drew) := B1.out.trans ((But.set (S := fun k => k = q) _ _ _ _ rfl).trans (Bg.drew _))
  obtain ⟨w2, hw2⟩ : ∃ w2, (w1.setCell ⟨q, 0, none⟩ (.int .u64 (B : Int))).drew = w2 := ⟨_, rfl⟩
  have X2 : Xw w2 q B := by rw [← hw2]; exact X1.set B
  rw [hw2] at B2 ⊢
  obtain ⟨c2, z2⟩ := X2.cell
  clear hw2 c1 z1 X1
  go_wp2_with fail
  go_region
  have B3 : Hid (Bg q w (w2.setCell ⟨q, 0, none⟩ (.int .u64 (C : Int))).drew) := B2.out.trans ((But.set (S := fun k => k = q) _ _ _ _ rfl).trans (Bg.drew _))
  obtain ⟨w3, hw3⟩ : ∃ w3, (w2.setCell ⟨q, 0, none⟩ (.int .u64 (C : Int))).drew = w3 := ⟨_, rfl⟩
  have X3 : Xw w3 q C := by rw [← hw3]; exact X2.set C
  rw [hw3] at B3 ⊢
  have HX3 : Hid (Xw w3 q C) := X3
  obtain ⟨c3, z3⟩ := X3.cell
  clear hw3 c2 z2 X2 X3
  go_wp2_with fail
  go_ret
  exact ⟨⟨C, lC, rfl, HX3.out⟩, B3.out⟩
/-- The next power of two. -/
def pw (l : Nat) : Int := if l < 16 then 16 else 32
set_option maxRecDepth 100000 in
theorem blen : ∀ n : Fin 31, 8 ≤ n.val → Lib.bitLen n.val = if n.val < 16 then 4 else 5 := by decide
set_option maxRecDepth 100000 in
set_option maxHeartbeats 2000000 in
theorem npow_any (l : Nat) (h0 : 8 ≤ l) (h1 : l ≤ 30) (w : World) :
    Calls Try.prog 88 #[.int .i64 (l : Int)] w fun e w' => (e = .returned (.int .u64 (pw l))) ∧ w' = w := by
  have HL : Hid _ := Try.bits_Len (l : Int) w (by omega) (by omega)
  have hu : IntKind.u64.wrap (l : Int) = (l : Int) := IntWalk.u64_in _ (by omega)
  have hb : Lib.bitLen ((l : Int).toNat) = if l < 16 then 4 else 5 := blen ⟨l, by omega⟩ h0
  have HB : Hid _ := hb
  clear hb
  go_enter Try.func88, Try.ntmps88
  go_wp2_with fail
  refine Calls.mono HL.out ?_
  rintro e w1 ⟨rfl, rfl⟩
  rw [HB.out]
  by_cases h16 : l < 16
  · have HP : Hid (pw l = 16) := by refine (?_ : pw l = 16); simp [pw, h16]
    rw [if_pos h16]
    go_wp2_with fail
    go_ret
    exact ⟨by rw [HP.out]; rfl, rfl⟩
  · have HP : Hid (pw l = 32) := by refine (?_ : pw l = 32); simp [pw, h16]
    rw [if_neg h16]
    go_wp2_with fail
    go_ret
    exact ⟨by rw [HP.out]; rfl, rfl⟩
end Go.Proofs.Ytkpfnepbnaekoaa.Rd
