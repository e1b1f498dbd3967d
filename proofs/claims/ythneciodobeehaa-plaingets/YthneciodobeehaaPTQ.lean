/- PlainGets. -/
import Derived.Test.YthneciodobeehaaPTP
import Derived.Test.YthneciodobeehaaPTO
import Derived.Test.YthneciodobeehaaPFW
namespace Go.Proofs.Ythneciodobeehaa.Rp
open Go.RowKit Go.Lib
open Go.Proofs.Ythneciodobeehaa.Rc Go.Proofs.Ythneciodobeehaa.Rq
set_option maxRecDepth 100000 in
theorem eqR_self (r : Rw) : eqR r r = true := by obtain ⟨a, b, c, d⟩ := r; simp [eqR]
set_option maxRecDepth 100000 in
set_option maxHeartbeats 4000000 in
theorem plainGets_walk (l : List Rw) (id : Nat) (o : Option Addr) (cap : Nat) (w : World) (hr : RowsAt w o cap l) : Calls Try.prog 3 #[.slice o l.length cap, .int .u64 (id : Int)] w fun e w' => e = .returned (.bool true) ∧ Below w.heap.size w w' := by
  obtain ⟨L, hL⟩ : ∃ L, l.take 60 = L := ⟨_, rfl⟩
  have HF : Hid (∀ W, RowsAt W o cap l → Calls Try.prog 13 #[.slice o l.length cap] W fun e w' => e = .returned (.slice o L.length cap) ∧ w' = W) := fun W hW => by rw [← hL]; exact few_any l o cap W hW
  have HR0 : Hid (RowsAt w o cap l) := hr
  have HR : Hid (RowsAt w o cap L) := by rw [← hL]; exact hr.head 60
  clear hL hr
  have HA : Hid (∀ W, RowsAt W o cap L → _) := fun W hW => get_any o cap L id W hW
  have HC : Hid (∀ W, RowsAt W o cap L → _) := fun W hW => hget_any o cap L id W hW
  generalize getV L id = V at *
  generalize getE L id = E at *
  obtain ⟨rid, x, y, v⟩ := V
  have heq := fun W => eql_row rid x y rid x y v v W
  rw [eqR_self] at heq
  simp only [rv] at HA HC
  go_enter Try.func3, Try.ntmps3
  go_wp2_with fail
  refine (pshown_any _).mono ?_
  rintro e w1 ⟨rfl, b1⟩
  have HB1 : Hid (Below w.heap.size w w1) := b1
  clear b1
  go_wp2_with fail
  refine (HF.out _ (HR0.out.below HB1.out (Nat.le_refl _))).mono ?_
  rintro e w9 ⟨rfl, hw9⟩
  have hw9' := hw9.symm
  clear hw9
  subst hw9'
  go_wp2_with fail
  refine Calls.mono (HA.out _ (HR.out.below HB1.out (Nat.le_refl _))) ?_
  rintro e w2 ⟨rfl, b2⟩
  have HB2 : Hid (Below w.heap.size w w2) := HB1.out.trans (b2.mono HB1.out.size)
  clear b2 HA HB1
  have hb3 := below_new w2 (.cells #[.int .u64 (rid : Int), .int .u32 (x : Int), .int .u32 (y : Int), .string v] 27)
  have hg3 := heap_alloc_new w2 (.cells #[.int .u64 (rid : Int), .int .u32 (x : Int), .int .u32 (y : Int), .string v] 27)
  obtain ⟨W3, hW3⟩ : ∃ W3, w2.alloc (.cells #[.int .u64 (rid : Int), .int .u32 (x : Int), .int .u32 (y : Int), .string v] 27) = W3 := ⟨_, rfl⟩
  rw [hW3] at hb3 hg3
  have HW3 : Hid _ := hW3
  have HB3 : Hid (Below w.heap.size w W3) := HB2.out.trans (hb3.mono HB2.out.size)
  have HG3 : Hid (W3.heap[w2.heap.size]? = some (.cells #[.int .u64 (rid : Int), .int .u32 (x : Int), .int .u32 (y : Int), .string v] 27 (0, 0))) := hg3
  have l3 : w2.heap.size < W3.heap.size := (Array.getElem?_eq_some_iff.1 hg3).1
  clear hb3 hg3 hW3
  go_wp2_with (first | (rw [HW3.out]; clear HW3))
  refine (HF.out _ (HR0.out.below HB3.out (Nat.le_refl _))).mono ?_
  rintro e w9 ⟨rfl, hw9⟩
  have hw9' := hw9.symm
  clear hw9
  subst hw9'
  go_wp2_with fail
  refine Calls.mono (HC.out _ (HR.out.below HB3.out (Nat.le_refl _))) ?_
  rintro e w4 ⟨rfl, b4⟩
  have HB4 : Hid (Below w.heap.size w w4) := HB3.out.trans (b4.mono HB3.out.size)
  have HG4 : Hid (w4.heap[w2.heap.size]? = some (.cells #[.int .u64 (rid : Int), .int .u32 (x : Int), .int .u32 (y : Int), .string v] 27 (0, 0))) := (b4.block _ l3).trans HG3.out
  have l4 : w2.heap.size < w4.heap.size := Nat.lt_of_lt_of_le l3 b4.size
  clear b4 HC HB3 HG3 l3
  have hb5 := below_new w4 (.cells #[.int .u64 (rid : Int), .int .u32 (x : Int), .int .u32 (y : Int), .string v] 27)
  have hg5 := heap_alloc_new w4 (.cells #[.int .u64 (rid : Int), .int .u32 (x : Int), .int .u32 (y : Int), .string v] 27)
  obtain ⟨W5, hW5⟩ : ∃ W5, w4.alloc (.cells #[.int .u64 (rid : Int), .int .u32 (x : Int), .int .u32 (y : Int), .string v] 27) = W5 := ⟨_, rfl⟩
  rw [hW5] at hb5 hg5
  have HW5 : Hid _ := hW5
  have HB5 : Hid (Below w.heap.size w W5) := HB4.out.trans (hb5.mono HB4.out.size)
  obtain ⟨z0, z1, z2, z3, f0, f1, f2, f3⟩ := row_facts hg5
  obtain ⟨y0, y1, y2, y3, g0, g1, g2, g3⟩ := row_facts ((hb5.block _ l4).trans HG4.out)
  clear hb5 hg5 hW5 HG4 l4
  go_wp2_with (first | (rw [HW5.out]; clear HW5))
  go_ret
  exact ⟨rfl, HB5.out⟩
#print axioms plainGets_walk
end Go.Proofs.Ythneciodobeehaa.Rp
