/- CellQuarters: a quarter, and which one has a point. -/
import Derived.Test.YtpfjfekpjlfibaaPFA
import Derived.Test.YtpfjfekpjlfibaaPEG
namespace Go.Proofs.Ytpfjfekpjlfibaa.Rc
open Go.RowKit Go.Lib
set_option maxHeartbeats 4000000 in
set_option maxRecDepth 100000 in
theorem quarters_walk (X Y : Nat) (L i : Int) (x y : Nat) (hX : X < 4294967296) (hY : Y < 4294967296) (hx : x < 4294967296) (hy : y < 4294967296) (w : World) :
    Calls Try.prog 4 #[cv X Y L, .int .i64 i, .int .u32 (x : Int), .int .u32 (y : Int)] w fun e w' => e = .returned (.bool true) ∧ Below w.heap.size w w' := by
  have H1 : Hid _ := quarter_any X Y L i hX hY
  have H2 : Hid _ := eQuarter_any X Y L i hX hY
  have H3 : Hid _ := where_any X Y L x y hX hY hx hy
  have H4 : Hid _ := eWhere_any X Y L x y hX hY hx hy
  generalize quart X Y L i = p at *
  generalize wher X Y L x y = q at *
  obtain ⟨px, py, pl, pe⟩ := p
  obtain ⟨qn, qe⟩ := q
  clear hX hY hx hy
  go_enter Try.func4, Try.ntmps4
  go_wp2_with fail
  refine (shown_any _).mono ?_
  rintro e w1 ⟨rfl, b1⟩
  have HB : Hid (Below w.heap.size w w1 ∧ CelS w.heap.size X Y L w1 ∧ w.heap.size < w1.heap.size) := ⟨(below_new w _).trans (b1.mono (by simp)), (cel_new X Y L w).below b1 (by simp), Nat.lt_of_lt_of_le (by simp) b1.size⟩
  obtain ⟨e0, e1, e2⟩ := HB.out.2.1
  clear b1
  go_wp2_with fail
  refine (H1.out _).mono ?_
  rintro e w2 ⟨rfl, b2⟩
  replace HB : Hid (Below w.heap.size w w2 ∧ CelS w.heap.size X Y L w2 ∧ w.heap.size < w2.heap.size) := ⟨HB.out.1.trans (b2.mono (Nat.le_of_lt HB.out.2.2)), HB.out.2.1.below b2 HB.out.2.2, Nat.lt_of_lt_of_le HB.out.2.2 b2.size⟩
  clear b2 e0 e1 e2
  obtain ⟨e0, e1, e2⟩ := HB.out.2.1
  have hl2 := HB.out.2.2
  go_wp2_with fail
  refine (H2.out _).mono ?_
  rintro e w3 ⟨rfl, b3⟩
  have HA : Hid (Cel w2.heap.size px py pl w3 ∧ w2.heap.size < w3.heap.size) := ⟨(b3.block _ (by simp)).trans (heap_alloc_new w2 _), Nat.lt_of_lt_of_le (by simp) b3.size⟩
  replace HB : Hid (Below w.heap.size w w3 ∧ CelS w.heap.size X Y L w3 ∧ w.heap.size < w3.heap.size) := ⟨(HB.out.1.alloc (Nat.le_of_lt hl2) _).trans (b3.mono (by simp; omega)), (HB.out.2.1.below (below_new w2 _) hl2).below b3 (by simp; omega), Nat.lt_of_lt_of_le (by simp; omega) b3.size⟩
  clear b3 e0 e1 e2 hl2
  obtain ⟨e0, e1, e2⟩ := HB.out.2.1
  have hl3 := HB.out.2.2
  have hl3' := HA.out.2
  go_wp2_with fail
  refine (H3.out _).mono ?_
  rintro e w4 ⟨rfl, b4⟩
  have HG : Hid (Cel w3.heap.size px py pl w4 ∧ w3.heap.size < w4.heap.size) := ⟨(b4.block _ (by simp)).trans (heap_alloc_new w3 _), Nat.lt_of_lt_of_le (by simp) b4.size⟩
  replace HA : Hid (Cel w2.heap.size px py pl w4) := (HA.out.1.below (below_new w3 _) hl3').below b4 (by simp; omega)
  replace HB : Hid (Below w.heap.size w w4 ∧ CelS w.heap.size X Y L w4 ∧ w.heap.size < w4.heap.size) := ⟨(HB.out.1.alloc (Nat.le_of_lt hl3) _).trans (b4.mono (by simp; omega)), (HB.out.2.1.below (below_new w3 _) hl3).below b4 (by simp; omega), Nat.lt_of_lt_of_le (by simp; omega) b4.size⟩
  have hl4 : w2.heap.size < w4.heap.size := Nat.lt_trans hl3' HG.out.2
  clear b4 e0 e1 e2
  obtain ⟨e0, e1, e2⟩ := HB.out.2.1
  go_wp2_with fail
  refine (H4.out _).mono ?_
  rintro e w5 ⟨rfl, b5⟩
  have HZ : Hid (Below w.heap.size w w5) := HB.out.1.trans (b5.mono (Nat.le_of_lt HB.out.2.2))
  obtain ⟨g0, g1, g2⟩ := Cel.cells (HG.out.1.below b5 HG.out.2)
  obtain ⟨k0, k1, k2⟩ := Cel.cells (HA.out.below b5 hl4)
  clear b5 e0 e1 e2
  go_wp2_with fail
  go_ret
  exact ⟨rfl, HZ.out⟩
end Go.Proofs.Ytpfjfekpjlfibaa.Rc
