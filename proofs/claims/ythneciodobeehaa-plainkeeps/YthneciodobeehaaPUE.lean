/- PlainMoves. -/
import Derived.Test.YthneciodobeehaaPUC
namespace Go.Proofs.Ythneciodobeehaa.Rp
open Go.RowKit Go.Lib
open Go.Proofs.Ythneciodobeehaa.Rc Go.Proofs.Ythneciodobeehaa.Rq

set_option maxRecDepth 100000 in
set_option maxHeartbeats 4000000 in
theorem plainMoves_walk (l : List Rw) (id x y : Nat) (o : Option Addr) (cap : Nat) (w : World) (hr : RowsAt w o cap l) : Calls Try.prog 7 #[.slice o l.length cap, .int .u64 (id : Int), .int .u32 (x : Int), .int .u32 (y : Int)] w fun e w' => e = .returned (.bool true) ∧ Below w.heap.size w w' := by
  obtain ⟨L, hL⟩ : ∃ L, l.take 60 = L := ⟨_, rfl⟩
  have hlen : L.length ≤ 60 := by rw [← hL, List.length_take]; omega
  have HF : Hid (∀ W, RowsAt W o cap l → Calls Try.prog 13 #[.slice o l.length cap] W fun e w' => e = .returned (.slice o L.length cap) ∧ w' = W) := fun W hW => by rw [← hL]; exact few_any l o cap W hW
  have HR0 : Hid (RowsAt w o cap l) := hr
  have HR : Hid (RowsAt w o cap L) := by rw [← hL]; exact hr.head 60
  clear hL hr
  have HP : Hid _ := moves_plain (l := L) hlen id x y ⟨#[111, 116, 104, 101, 114]⟩
  have HA : Hid (∀ W, RowsAt W o cap L → Calls Try.prog 15 #[.slice o L.length cap, ov ⟨2, ⟨id, x, y, ⟨#[111, 116, 104, 101, 114]⟩⟩⟩] W (KP (apL L ⟨2, ⟨id, x, y, ⟨#[111, 116, 104, 101, 114]⟩⟩⟩) (apE L ⟨2, ⟨id, x, y, ⟨#[111, 116, 104, 101, 114]⟩⟩⟩) W)) := fun W hW => apply_any o cap L _ W hW
  have HC : Hid (∀ W, RowsAt W o cap L → Calls Try.prog 12 #[.slice o L.length cap, .int .u64 (id : Int)] W fun e w' => e = .returned (.tuple #[rv (getV L id), .int .i64 (getE L id)]) ∧ Below W.heap.size W w') := fun W hW => get_any o cap L id W hW
  generalize apE L ⟨2, ⟨id, x, y, ⟨#[111, 116, 104, 101, 114]⟩⟩⟩ = F at *
  generalize apL L ⟨2, ⟨id, x, y, ⟨#[111, 116, 104, 101, 114]⟩⟩⟩ = M at *
  have HC2 : Hid (∀ W o cap, RowsAt W o cap M → Calls Try.prog 12 #[.slice o M.length cap, .int .u64 (id : Int)] W fun e w' => e = .returned (.tuple #[rv (getV M id), .int .i64 (getE M id)]) ∧ Below W.heap.size W w') := fun W o cap hW => get_any o cap M id W hW
  generalize getV L id = V at *
  generalize getE L id = E at *
  generalize getV M id = U at *
  generalize getE M id = G at *
  obtain ⟨a, b, c, v⟩ := V
  obtain ⟨a', b', c', v'⟩ := U
  simp only [rv, ov] at HA HC HC2
  simp only at HP
  go_enter Try.func7, Try.ntmps7
  go_wp2_with fail
  refine (pshown_any _).mono ?_
  rintro e w1 ⟨rfl, b1⟩
  have HB1 : Hid (Below w.heap.size w w1) := b1
  clear b1
  go_wp2_with fail
  refine (HF.out _ (HR0.out.below HB1.out (Nat.le_refl _))).mono ?_
  rintro e w9 ⟨rfl, hw9⟩
  have hw9' := hw9.symm
  clear hw9
  subst hw9'
  go_wp2_with fail
  refine Calls.mono (HC.out _ (HR.out.below HB1.out (Nat.le_refl _))) ?_
  rintro e w2 ⟨rfl, b2⟩
  have HB2 : Hid (Below w.heap.size w w2) := HB1.out.trans (b2.mono HB1.out.size)
  clear b2 HC HB1
  have hb3 := below_new w2 (.cells #[.int .u64 (a : Int), .int .u32 (b : Int), .int .u32 (c : Int), .string v] 27)
  have hg3 := heap_alloc_new w2 (.cells #[.int .u64 (a : Int), .int .u32 (b : Int), .int .u32 (c : Int), .string v] 27)
  obtain ⟨W3, hW3⟩ : ∃ W3, w2.alloc (.cells #[.int .u64 (a : Int), .int .u32 (b : Int), .int .u32 (c : Int), .string v] 27) = W3 := ⟨_, rfl⟩
  rw [hW3] at hb3 hg3
  have HW3 : Hid _ := hW3
  have HB3 : Hid (Below w.heap.size w W3) := HB2.out.trans (hb3.mono HB2.out.size)
  have HG3 : Hid (W3.heap[w2.heap.size]? = some (.cells #[.int .u64 (a : Int), .int .u32 (b : Int), .int .u32 (c : Int), .string v] 27 (0, 0))) := hg3
  have l3 : w2.heap.size < W3.heap.size := (Array.getElem?_eq_some_iff.1 hg3).1
  have k2 : w.heap.size ≤ w2.heap.size := HB2.out.size
  clear hb3 hg3 hW3
  go_wp2_with (first | (rw [HW3.out]; clear HW3))
  refine Calls.mono (HA.out _ (HR.out.below HB3.out (Nat.le_refl _))) ?_
  rintro e w4 ⟨o4, cap4, rfl, hr4, b4, -⟩
  have HB4 : Hid (Below w.heap.size w w4) := HB3.out.trans (b4.mono HB3.out.size)
  have HG4 : Hid (w4.heap[w2.heap.size]? = some (.cells #[.int .u64 (a : Int), .int .u32 (b : Int), .int .u32 (c : Int), .string v] 27 (0, 0))) := (b4.block _ l3).trans HG3.out
  have l4 : w2.heap.size < w4.heap.size := Nat.lt_of_lt_of_le l3 b4.size
  have HX4 : Hid (RowsAt w4 o4 cap4 M) := hr4
  clear b4 hr4 HA HB3 HG3 l3 HB2
  rcases HP.out with ⟨h1, h2⟩ | h
  · have hE1 : decide (E = 0) = false := decide_eq_false h1
    have hE2 : (E == 0) = false := by simpa using h1
    have hE3 : (E != 0) = true := by simpa using h1
    have hF1 : decide (F = 0) = false := decide_eq_false h2
    have hF2 : (F == 0) = false := by simpa using h2
    have hF3 : (F != 0) = true := by simpa using h2
    clear HP h1 h2 HC2 HX4
    go_wp2_with fail
    go_ret
    exact ⟨rfl, HB4.out⟩
  have h0 : E = 0 := by rcases h with h | h <;> exact h.1
  subst h0
  clear HP
  have HP2 : Hid _ := h
  clear h
  go_wp2_with fail
  refine Calls.mono (HC2.out _ _ _ HX4.out) ?_
  rintro e w5 ⟨rfl, b5⟩
  have HB5 : Hid (Below w.heap.size w w5) := HB4.out.trans (b5.mono HB4.out.size)
  have HG5 : Hid (w5.heap[w2.heap.size]? = some (.cells #[.int .u64 (a : Int), .int .u32 (b : Int), .int .u32 (c : Int), .string v] 27 (0, 0))) := (b5.block _ l4).trans HG4.out
  have l5 : w2.heap.size < w5.heap.size := Nat.lt_of_lt_of_le l4 b5.size
  clear b5 HC2 HB4 HG4 l4 HX4
  have hb6 := below_new w5 (.cells #[.int .u64 (a' : Int), .int .u32 (b' : Int), .int .u32 (c' : Int), .string v'] 27)
  have hg6 := heap_alloc_new w5 (.cells #[.int .u64 (a' : Int), .int .u32 (b' : Int), .int .u32 (c' : Int), .string v'] 27)
  obtain ⟨W6, hW6⟩ : ∃ W6, w5.alloc (.cells #[.int .u64 (a' : Int), .int .u32 (b' : Int), .int .u32 (c' : Int), .string v'] 27) = W6 := ⟨_, rfl⟩
  rw [hW6] at hb6 hg6
  have HW6 : Hid _ := hW6
  have HB6 : Hid (Below w.heap.size w W6) := HB5.out.trans (hb6.mono HB5.out.size)
  have HG6 : Hid (W6.heap[w2.heap.size]? = some (.cells #[.int .u64 (a : Int), .int .u32 (b : Int), .int .u32 (c : Int), .string v] 27 (0, 0))) := (hb6.block _ l5).trans HG5.out
  have HG7 : Hid (W6.heap[w5.heap.size]? = some (.cells #[.int .u64 (a' : Int), .int .u32 (b' : Int), .int .u32 (c' : Int), .string v'] 27 (0, 0))) := hg6
  clear hb6 hg6 hW6 HG5 HB5
  rcases HP2.out with ⟨-, h1, h2, h3⟩ | ⟨-, h1, h2, h3, h4, h5⟩
  · subst h2
    obtain ⟨n1, n2⟩ := len_zero h3
    have hxy : 2147483648 ≤ x ∨ 2147483648 ≤ y := by
      simp only [onS, decide_eq_false_iff_not] at h1
      omega
    clear HP2 h1 HG6 HG7
    by_cases hx : 2147483648 ≤ x
    · have x1 : decide ((2147483648 : Int) ≤ (x : Int)) = true := decide_eq_true (by omega)
      have x2 : decide ((x : Int) < 2147483648) = false := decide_eq_false (by omega)
      go_wp2_with (first | (rw [HW6.out]; clear HW6))
      go_ret
      exact ⟨rfl, HB6.out⟩
    · have x1 : decide ((2147483648 : Int) ≤ (x : Int)) = false := decide_eq_false (by omega)
      have x2 : decide ((x : Int) < 2147483648) = true := decide_eq_true (by omega)
      have y1 : decide ((2147483648 : Int) ≤ (y : Int)) = true := decide_eq_true (by omega)
      have y2 : decide ((y : Int) < 2147483648) = false := decide_eq_false (by omega)
      go_wp2_with (first | (rw [HW6.out]; clear HW6))
      go_ret
      exact ⟨rfl, HB6.out⟩
  · cases h4
    subst h2 h3
    have hxy : x < 2147483648 ∧ y < 2147483648 := by simpa only [onS, decide_eq_true_eq] using h1
    have x1 : decide ((2147483648 : Int) ≤ (x : Int)) = false := decide_eq_false (by omega)
    have x2 : decide ((x : Int) < 2147483648) = true := decide_eq_true (by omega)
    have y1 : decide ((2147483648 : Int) ≤ (y : Int)) = false := decide_eq_false (by omega)
    have y2 : decide ((y : Int) < 2147483648) = true := decide_eq_true (by omega)
    have n1 : ((M.length : Int) == (L.length : Int)) = true := by rw [h5]; simp
    have n2 : decide ((M.length : Int) = (L.length : Int)) = true := by rw [h5]; simp
    clear HP2 h1 h5
    obtain ⟨z0, z1, z2, z3, f0, f1, f2, f3⟩ := row_facts HG6.out
    have p1 := heap_setCell_same W6 w2.heap.size 1 _ _ (.int .u32 (x : Int)) HG6.out
    have p2 := heap_setCell_same _ w2.heap.size 2 _ _ (.int .u32 (y : Int)) p1
    have q1 : W6.heap[w5.heap.size]? = _ := HG7.out
    rw [← setcr W6 w2.heap.size 1 (.int .u32 (x : Int)) (show w5.heap.size ≠ w2.heap.size by omega), ← setcr _ w2.heap.size 2 (.int .u32 (y : Int)) (show w5.heap.size ≠ w2.heap.size by omega)] at q1
    have hb7 : Below w2.heap.size W6 _ := (below_set W6 w2.heap.size 1 (.int .u32 (x : Int)) (Nat.le_refl _)).trans (below_set _ w2.heap.size 2 (.int .u32 (y : Int)) (Nat.le_refl _))
    have z2' := frozen_of_row _ _ 2 _ _ p1
    obtain ⟨W7, hW7⟩ : ∃ W7, (W6.setCell ⟨w2.heap.size, 1, none⟩ (.int .u32 (x : Int))).setCell ⟨w2.heap.size, 2, none⟩ (.int .u32 (y : Int)) = W7 := ⟨_, rfl⟩
    have HW7 : Hid _ := hW7
    rw [hW7] at p2 q1 hb7
    have HB7 : Hid (Below w.heap.size w W7) := HB6.out.trans (hb7.mono k2)
    obtain ⟨-, -, -, -, s0, s1, s2, s3⟩ := row_facts p2
    obtain ⟨-, -, -, -, t0, t1, t2, t3⟩ := row_facts q1
    have heq := fun W => eql_row a x y a x y v v W
    rw [(eqR_iff _ _).2 rfl] at heq
    clear p1 p2 q1 hb7 hW7 HG6 HG7 hxy
    go_wp2_with (first | (rw [HW6.out]; clear HW6) | (rw [HW7.out]; clear HW7))
    go_ret
    exact ⟨rfl, HB7.out⟩
end Go.Proofs.Ythneciodobeehaa.Rp
