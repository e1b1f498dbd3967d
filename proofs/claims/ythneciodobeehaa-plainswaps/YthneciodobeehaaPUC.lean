/- PlainSwaps. -/
import Derived.Test.YthneciodobeehaaPTP
import Derived.Test.YthneciodobeehaaPUA
import Derived.Test.YthneciodobeehaaPFW
namespace Go.Proofs.Ythneciodobeehaa.Rp
open Go.RowKit Go.Lib
open Go.Proofs.Ythneciodobeehaa.Rc Go.Proofs.Ythneciodobeehaa.Rq
set_option maxRecDepth 100000 in
theorem len_zero {n : Nat} (h : n = 0) : decide ((n : Int) = 0) = true ∧ ((n : Int) == 0) = true := by subst h; decide
set_option maxRecDepth 100000 in
theorem err_cases (E : Int) : (decide (E = 0) = true ∧ (E == 0) = true ∧ (E != 0) = false ∧ E = 0) ∨ (decide (E = 0) = false ∧ (E == 0) = false ∧ (E != 0) = true ∧ E ≠ 0) := by
  by_cases h : E = 0
  · subst h; left; decide
  · right
    exact ⟨decide_eq_false h, by simpa using h, by simpa using h, h⟩
set_option maxRecDepth 100000 in
set_option maxHeartbeats 4000000 in
theorem plainSwaps_walk (l : List Rw) (c d : Ch) (o : Option Addr) (cap : Nat) (w : World) (hr : RowsAt w o cap l) : Calls Try.prog 10 #[.slice o l.length cap, ov c, ov d] w fun e w' => e = .returned (.bool true) ∧ Below w.heap.size w w' := by
  have hn := two_new w (ocs c) (ocs d)
  obtain ⟨W0, hW0⟩ : ∃ W0, (w.alloc (ocs c)).alloc (ocs d) = W0 := ⟨_, rfl⟩
  rw [hW0] at hn
  obtain ⟨hg1, hg2, hb⟩ := hn
  have HW0 : Hid _ := hW0
  have HG1 : Hid (W0.heap[w.heap.size]? = some (ocs c)) := hg1
  have HG2 : Hid (W0.heap[w.heap.size + 1]? = some (ocs d)) := hg2
  have HB0 : Hid (Below w.heap.size w W0) := hb
  have l0 : w.heap.size + 1 < W0.heap.size := (Array.getElem?_eq_some_iff.1 hg2).1
  obtain ⟨L, hL⟩ : ∃ L, l.take 60 = L := ⟨_, rfl⟩
  have hlen : L.length ≤ 60 := by rw [← hL, List.length_take]; omega
  have HF : Hid (∀ W, RowsAt W o cap l → Calls Try.prog 13 #[.slice o l.length cap] W fun e w' => e = .returned (.slice o L.length cap) ∧ w' = W) := fun W hW => by rw [← hL]; exact few_any l o cap W hW
  have HR0 : Hid (RowsAt w o cap l) := hr
  have HR : Hid (RowsAt w o cap L) := by rw [← hL]; exact hr.head 60
  clear hL
  have HA : Hid (∀ W, RowsAt W o cap L → Calls Try.prog 15 #[.slice o L.length cap, ov c] W (KP (apL L c) (apE L c) W)) := fun W hW => apply_any o cap L c W hW
  have HC : Hid (∀ W, RowsAt W o cap L → Calls Try.prog 15 #[.slice o L.length cap, ov d] W (KP (apL L d) (apE L d) W)) := fun W hW => apply_any o cap L d W hW
  have HA2 : Hid (∀ W o' cap', RowsAt W o' cap' (apL L c) → Calls Try.prog 15 #[.slice o' (apL L c).length cap', ov d] W (KP (apL (apL L c) d) (apE (apL L c) d) W)) := fun W o' cap' hW => apply_any o' cap' _ d W hW
  have HC2 : Hid (∀ W o' cap', RowsAt W o' cap' (apL L d) → Calls Try.prog 15 #[.slice o' (apL L d).length cap', ov c] W (KP (apL (apL L d) c) (apE (apL L d) c) W)) := fun W o' cap' hW => apply_any o' cap' _ c W hW
  have HP : Hid (∀ _ : c.r.id ≠ d.r.id, _) := fun hid => swaps_plain (l := L) hlen hid
  generalize apE (apL L c) d = F at *
  generalize apL (apL L c) d = B at *
  generalize apE (apL L d) c = H at *
  generalize apL (apL L d) c = D at *
  generalize apE L c = E at *
  generalize apL L c = A at *
  generalize apE L d = G at *
  generalize apL L d = C at *
  obtain ⟨k, id, x, y, v⟩ := c
  obtain ⟨k', id', x', y', v'⟩ := d
  simp only [ov] at HA HC HA2 HC2 ⊢
  simp only at HP
  clear hb hg1 hg2 hW0 hr
  go_enter Try.func10, Try.ntmps10
  go_wp2_with (first | (rw [HW0.out]; clear HW0))
  refine (pshown_any _).mono ?_
  rintro e w1 ⟨rfl, b1⟩
  have HB1 : Hid (Below w.heap.size w w1) := HB0.out.trans (b1.mono HB0.out.size)
  have HG3 : Hid (w1.heap[w.heap.size]? = some (.cells #[.int .i64 k, .int .u64 (id : Int), .int .u32 (x : Int), .int .u32 (y : Int), .string v] 34 (0, 0))) := (b1.block _ (by omega)).trans HG1.out
  have HG4 : Hid (w1.heap[w.heap.size + 1]? = some (.cells #[.int .i64 k', .int .u64 (id' : Int), .int .u32 (x' : Int), .int .u32 (y' : Int), .string v'] 34 (0, 0))) := (b1.block _ l0).trans HG2.out
  have l1 : w.heap.size + 1 < w1.heap.size := Nat.lt_of_lt_of_le l0 b1.size
  clear b1 HG1 HG2 HB0 l0
  go_wp2_with fail
  refine (HF.out _ (HR0.out.below HB1.out (Nat.le_refl _))).mono ?_
  rintro e w9 ⟨rfl, hw9⟩
  have hw9' := hw9.symm
  clear hw9
  subst hw9'
  obtain ⟨e0, e1, e2, e3, e4⟩ := op_cells HG3.out
  obtain ⟨f0, f1, f2, f3, f4⟩ := op_cells HG4.out
  by_cases hid : id = id'
  · have i1 : decide ((id : Int) = (id' : Int)) = true := decide_eq_true (by omega)
    have i2 : ((id : Int) == (id' : Int)) = true := by rw [beq_iff_eq]; omega
    clear HA HC HA2 HC2 HP
    go_wp2_with fail
    go_ret
    exact ⟨rfl, HB1.out⟩
  have i1 : decide ((id : Int) = (id' : Int)) = false := decide_eq_false (by omega)
  have i2 : ((id : Int) == (id' : Int)) = false := by rw [beq_eq_false_iff_ne]; omega
  have HP2 : Hid _ := HP.out hid
  clear HP
  go_wp2_with fail
  refine Calls.mono (HA.out _ (HR.out.below HB1.out (Nat.le_refl _))) ?_
  rintro e w2 ⟨o2, cap2, rfl, hr2, b2, -⟩
  have HB2 : Hid (Below w.heap.size w w2) := HB1.out.trans (b2.mono HB1.out.size)
  have HG5 : Hid (w2.heap[w.heap.size]? = some (.cells #[.int .i64 k, .int .u64 (id : Int), .int .u32 (x : Int), .int .u32 (y : Int), .string v] 34 (0, 0))) := (b2.block _ (by omega)).trans HG3.out
  have HG6 : Hid (w2.heap[w.heap.size + 1]? = some (.cells #[.int .i64 k', .int .u64 (id' : Int), .int .u32 (x' : Int), .int .u32 (y' : Int), .string v'] 34 (0, 0))) := (b2.block _ l1).trans HG4.out
  have l2 : w.heap.size + 1 < w2.heap.size := Nat.lt_of_lt_of_le l1 b2.size
  have HX2 : Hid (RowsAt w2 o2 cap2 A) := hr2
  clear e0 e1 e2 e3 e4 f0 f1 f2 f3 f4 b2 hr2 HA HG3 HG4 l1 HB1
  obtain ⟨e0, e1, e2, e3, e4⟩ := op_cells HG5.out
  obtain ⟨f0, f1, f2, f3, f4⟩ := op_cells HG6.out
  go_wp2_with fail
  refine Calls.mono (HA2.out _ _ _ HX2.out) ?_
  rintro e w3 ⟨o3, cap3, rfl, hr3, b3, -⟩
  have HB3 : Hid (Below w.heap.size w w3) := HB2.out.trans (b3.mono HB2.out.size)
  have HG7 : Hid (w3.heap[w.heap.size]? = some (.cells #[.int .i64 k, .int .u64 (id : Int), .int .u32 (x : Int), .int .u32 (y : Int), .string v] 34 (0, 0))) := (b3.block _ (by omega)).trans HG5.out
  have HG8 : Hid (w3.heap[w.heap.size + 1]? = some (.cells #[.int .i64 k', .int .u64 (id' : Int), .int .u32 (x' : Int), .int .u32 (y' : Int), .string v'] 34 (0, 0))) := (b3.block _ l2).trans HG6.out
  have l3 : w.heap.size + 1 < w3.heap.size := Nat.lt_of_lt_of_le l2 b3.size
  have HX3 : Hid (RowsAt w3 o3 cap3 B) := hr3
  clear e0 e1 e2 e3 e4 f0 f1 f2 f3 f4 b3 hr3 HA2 HG5 HG6 l2 HB2 HX2
  obtain ⟨e0, e1, e2, e3, e4⟩ := op_cells HG7.out
  obtain ⟨f0, f1, f2, f3, f4⟩ := op_cells HG8.out
  go_wp2_with fail
  refine Calls.mono (HC.out _ (HR.out.below HB3.out (Nat.le_refl _))) ?_
  rintro e w4 ⟨o4, cap4, rfl, hr4, b4, -⟩
  have HB4 : Hid (Below w.heap.size w w4) := HB3.out.trans (b4.mono HB3.out.size)
  have HG9 : Hid (w4.heap[w.heap.size]? = some (.cells #[.int .i64 k, .int .u64 (id : Int), .int .u32 (x : Int), .int .u32 (y : Int), .string v] 34 (0, 0))) := (b4.block _ (by omega)).trans HG7.out
  have l4 : w.heap.size + 1 < w4.heap.size := Nat.lt_of_lt_of_le l3 b4.size
  have HX4 : Hid (RowsAt w4 o3 cap3 B) := HX3.out.below b4 (Nat.le_refl _)
  have HX5 : Hid (RowsAt w4 o4 cap4 C) := hr4
  clear e0 e1 e2 e3 e4 f0 f1 f2 f3 f4 b4 hr4 HC HG7 HG8 l3 HB3 HX3
  obtain ⟨e0, e1, e2, e3, e4⟩ := op_cells HG9.out
  go_wp2_with fail
  refine Calls.mono (HC2.out _ _ _ HX5.out) ?_
  rintro e w5 ⟨o5, cap5, rfl, hr5, b5, -⟩
  have HB5 : Hid (Below w.heap.size w w5) := HB4.out.trans (b5.mono HB4.out.size)
  have HX6 : Hid (RowsAt w5 o3 cap3 B) := HX4.out.below b5 (Nat.le_refl _)
  have HS : Hid (∀ _ : True, _) := fun _ => rsame_any B D o3 cap3 o5 cap5 w5 HX6.out hr5
  clear e0 e1 e2 e3 e4 b5 hr5 HC2 HG9 l4 HB4 HX4 HX5 HX6
  have hE := err_cases E
  have hF := err_cases F
  have hG := err_cases G
  have hH := err_cases H
  rcases HP2.out with ⟨h1, h2⟩ | ⟨h1, h2, h3, h4, h5⟩
  · have h2' : (decide (G = 0) = false ∧ (G == 0) = false ∧ (G != 0) = true) ∨ ((decide (G = 0) = true ∧ (G == 0) = true ∧ (G != 0) = false) ∧ (decide (H = 0) = false ∧ (H == 0) = false ∧ (H != 0) = true)) := by
      rcases hG with ⟨a, b, c, e⟩ | ⟨a, b, c, e⟩
      · rcases hH with ⟨a', b', c', e'⟩ | ⟨a', b', c', e'⟩
        · exact absurd h2 (by rintro (h | h) <;> contradiction)
        · exact .inr ⟨⟨a, b, c⟩, a', b', c'⟩
      · exact .inl ⟨a, b, c⟩
    have h1' : (decide (E = 0) = false ∧ (E == 0) = false ∧ (E != 0) = true) ∨ ((decide (E = 0) = true ∧ (E == 0) = true ∧ (E != 0) = false) ∧ (decide (F = 0) = false ∧ (F == 0) = false ∧ (F != 0) = true)) := by
      rcases hE with ⟨a, b, c, e⟩ | ⟨a, b, c, e⟩
      · rcases hF with ⟨a', b', c', e'⟩ | ⟨a', b', c', e'⟩
        · exact absurd h1 (by rintro (h | h) <;> contradiction)
        · exact .inr ⟨⟨a, b, c⟩, a', b', c'⟩
      · exact .inl ⟨a, b, c⟩
    clear hE hF hG hH HP2 h1 h2 HS
    rcases h1' with ⟨a1, a2, a3⟩ | ⟨⟨a1, a2, a3⟩, c1, c2, c3⟩ <;> rcases h2' with ⟨d1, d2, d3⟩ | ⟨⟨d1, d2, d3⟩, g1, g2, g3⟩ <;> (go_wp2_with fail) <;> go_ret <;> exact ⟨rfl, HB5.out⟩
  · clear hE hF hG hH HP2
    subst h1 h2 h3 h4
    rw [h5] at HS
    clear h5
    go_wp2_with fail
    refine Calls.mono (HS.out trivial) ?_
    rintro e w6 ⟨rfl, b6⟩
    have HB6 : Hid (Below w.heap.size w w6) := HB5.out.trans (b6.mono HB5.out.size)
    clear b6 HS
    go_wp2_with fail
    go_ret
    exact ⟨rfl, HB6.out⟩
end Go.Proofs.Ythneciodobeehaa.Rp
