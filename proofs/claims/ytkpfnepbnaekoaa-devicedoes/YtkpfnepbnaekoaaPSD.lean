/- The sort beyond twelve: a pivot is chosen. -/
import Derived.Test.YtkpfnepbnaekoaaPSC
namespace Go.Proofs.Ytkpfnepbnaekoaa.Rd
open Go.RowKit
/-- A count in a block of its own. -/
def Sw (w : World) (sw k : Nat) : Prop := w.heap[sw]? = some (.cells #[.int .i64 (k : Int)] 3 (0, 0))
set_option maxRecDepth 100000 in
theorem Sw.cell {w : World} {sw k : Nat} (h : Sw w sw k) : w.cell? ⟨sw, 0, none⟩ = some (.int .i64 (k : Int)) ∧ w.frozen? ⟨sw, 0, none⟩ = false := ⟨(cell_of_row _ _ _ _ _ _ h).trans rfl, frozen_of_row w _ _ _ _ h⟩
set_option maxRecDepth 100000 in
theorem Sw.lt {w : World} {sw k : Nat} (h : Sw w sw k) : sw < w.heap.size := (Array.getElem?_eq_some_iff.1 h).1
set_option maxRecDepth 100000 in
theorem Sw.set {w : World} {sw k : Nat} (h : Sw w sw k) (j : Nat) : Sw (w.setCell ⟨sw, 0, none⟩ (.int .i64 (j : Int))) sw j := set_at _ _ _ _ _ _ _ h
set_option maxRecDepth 100000 in
theorem Us.bg {w w' : World} {g q : Nat} {d : Array Nat} (h : Us w g d) (hb : Bg q w w') (hne : g ≠ q) : Us w' g d := h.same (hb.block g h.lt hne)
set_option maxRecDepth 100000 in
set_option maxHeartbeats 2000000 in
theorem order2_any (g cap a b sw k : Nat) (d : Array Nat) (ha : a < d.size) (hb : b < d.size) (_hd : d.size ≤ 1000000) (hk : k ≤ 1000) (_hne : g ≠ sw) (w : World) (h : Us w g d) (hs : Sw w sw k) :
    Calls Try.prog 93 #[.slice (some ⟨g, 0, none⟩) d.size cap, .int .i64 (a : Int), .int .i64 (b : Int), .pointer (some ⟨sw, 0, none⟩)] w fun e w' => (∃ x y : Nat, e = .returned (.tuple #[.int .i64 (x : Int), .int .i64 (y : Int)]) ∧ ((x = a ∧ y = b) ∨ (x = b ∧ y = a))) ∧ (∃ k', k' ≤ k + 1 ∧ Sw w' sw k') ∧ Bg sw w w' := by
  have HU : Hid (Us w g d) := h
  have HS : Hid (Sw w sw k) := hs
  obtain ⟨x1, y1⟩ := h.cell a ha
  obtain ⟨x2, y2⟩ := h.cell b hb
  clear h hs
  obtain ⟨n, hn⟩ : ∃ n, d.size = n := ⟨_, rfl⟩
  rw [hn] at ha hb ⊢
  have p1 : (a : Int) < (n : Int) := by omega
  have p2 : (b : Int) < (n : Int) := by omega
  have p3 : (0 : Int) ≤ (a : Int) := by omega
  have p4 : (0 : Int) ≤ (b : Int) := by omega
  generalize d[a]! = xv at *
  generalize d[b]! = yv at *
  go_enter Try.func93, Try.ntmps93
  go_wp2_with fail
  go_quiet (first | (go_at_call 82; refine Calls.quiet_of_same (less_any _ _ _)))
  rename_i hK
  refine hK _ _ ?_
  have S5 : Sw (w.drewN nq) sw k := HS.out
  have B5 : Hid (Bg sw w (w.drewN nq)) := Bg.drewN w nq
  obtain ⟨wz, hwz⟩ : ∃ wz, w.drewN nq = wz := ⟨_, rfl⟩
  rw [hwz] at S5 B5 ⊢
  have HS5 : Hid (Sw wz sw k) := S5
  obtain ⟨c0, z0⟩ := S5.cell
  clear hwz hK S5 x1 x2 y1 y2
  cases hl : ltN yv xv
  · go_wp2_with fail
    go_ret2
    exact ⟨⟨a, b, rfl, .inl ⟨rfl, rfl⟩⟩, ⟨k, by omega, HS5.out⟩, B5.out⟩
  · go_wp2_with fail
    go_ret2
    have := HS5.out.set (k + 1)
    exact ⟨⟨b, a, rfl, .inr ⟨rfl, rfl⟩⟩, ⟨k + 1, by omega, this⟩, B5.out.trans (But.set (S := fun q => q = sw) _ _ _ _ rfl)⟩
set_option maxRecDepth 100000 in
set_option maxHeartbeats 2000000 in
theorem median_any (g cap a b c sw k : Nat) (d : Array Nat) (ha : a < d.size) (hb : b < d.size) (hc : c < d.size) (hd : d.size ≤ 1000000) (hk : k ≤ 900) (hne : g ≠ sw) (w : World) (h : Us w g d) (hs : Sw w sw k) :
    Calls Try.prog 91 #[.slice (some ⟨g, 0, none⟩) d.size cap, .int .i64 (a : Int), .int .i64 (b : Int), .int .i64 (c : Int), .pointer (some ⟨sw, 0, none⟩)] w fun e w' => (∃ x : Nat, e = .returned (.int .i64 (x : Int)) ∧ (x = a ∨ x = b ∨ x = c)) ∧ (∃ k', k' ≤ k + 3 ∧ Sw w' sw k') ∧ Bg sw w w' := by
  have HU : Hid (Us w g d) := h
  have HS : Hid (Sw w sw k) := hs
  clear h hs
  obtain ⟨n, hn⟩ : ∃ n, d.size = n := ⟨_, rfl⟩
  have HN : Hid (d.size = n) := hn
  rw [hn] at ha hb hc hd ⊢
  clear hn
  go_enter Try.func91, Try.ntmps91
  go_wp2_with fail
  have h1 := order2_any g cap a b sw k d (by rw [HN.out]; exact ha) (by rw [HN.out]; exact hb) (by rw [HN.out]; exact hd) (by omega) hne w HU.out HS.out
  rw [HN.out] at h1
  refine h1.mono ?_
  clear h1
  rintro e w1 ⟨⟨x1, y1, rfl, hxy1⟩, ⟨k1, hk1, s1⟩, b1⟩
  have U1 : Hid (Us w1 g d) := HU.out.bg b1 hne
  have S1 : Hid (Sw w1 sw k1) := s1
  have B1 : Hid (Bg sw w w1) := b1
  have X1 : Hid ((x1 = a ∧ y1 = b) ∨ (x1 = b ∧ y1 = a)) := hxy1
  have hx1 : x1 < n := by rcases hxy1 with ⟨e1, e2⟩ | ⟨e1, e2⟩ <;> omega
  have hy1 : y1 < n := by rcases hxy1 with ⟨e1, e2⟩ | ⟨e1, e2⟩ <;> omega
  clear s1 b1 hxy1 HU HS
  go_wp2_with fail
  have h1 := order2_any g cap y1 c sw k1 d (by rw [HN.out]; exact hy1) (by rw [HN.out]; exact hc) (by rw [HN.out]; exact hd) (by omega) hne w1 U1.out S1.out
  rw [HN.out] at h1
  refine h1.mono ?_
  clear h1
  rintro e w2 ⟨⟨x2, y2, rfl, hxy2⟩, ⟨k2, hk2, s2⟩, b2⟩
  have U2 : Hid (Us w2 g d) := U1.out.bg b2 hne
  have S2 : Hid (Sw w2 sw k2) := s2
  have B2 : Hid (Bg sw w w2) := B1.out.trans b2
  have X2 : Hid ((x2 = y1 ∧ y2 = c) ∨ (x2 = c ∧ y2 = y1)) := hxy2
  have hx2 : x2 < n := by rcases hxy2 with ⟨e1, e2⟩ | ⟨e1, e2⟩ <;> omega
  clear s2 b2 hxy2 U1 S1
  go_wp2_with fail
  have h1 := order2_any g cap x1 x2 sw k2 d (by rw [HN.out]; exact hx1) (by rw [HN.out]; exact hx2) (by rw [HN.out]; exact hd) (by omega) hne w2 U2.out S2.out
  rw [HN.out] at h1
  refine h1.mono ?_
  clear h1
  rintro e w3 ⟨⟨x3, y3, rfl, hxy3⟩, ⟨k3, hk3, s3⟩, b3⟩
  have S3 : Hid (Sw w3 sw k3) := s3
  have B3 : Hid (Bg sw w w3) := B2.out.trans b3
  have X3 : Hid ((x3 = x1 ∧ y3 = x2) ∨ (x3 = x2 ∧ y3 = x1)) := hxy3
  clear s3 b3 hxy3 U2 S2
  go_wp2_with fail
  go_ret
  refine ⟨⟨y3, rfl, ?_⟩, ⟨k3, by omega, S3.out⟩, B3.out⟩
  rcases X1.out with ⟨e1, e2⟩ | ⟨e1, e2⟩ <;> rcases X2.out with ⟨e3, e4⟩ | ⟨e3, e4⟩ <;> rcases X3.out with ⟨e5, e6⟩ | ⟨e5, e6⟩ <;> omega
set_option maxRecDepth 100000 in
set_option maxHeartbeats 2000000 in
theorem choose_any (g cap a b : Nat) (d : Array Nat) (ha : a + 12 < b) (hb : b ≤ d.size) (hd : d.size ≤ 30) (w : World) (h : Us w g d) :
    Calls Try.prog 79 #[.slice (some ⟨g, 0, none⟩) d.size cap, .int .i64 (a : Int), .int .i64 (b : Int)] w fun e w' => (∃ p t : Nat, e = .returned (.tuple #[.int .i64 (p : Int), .int .i64 (t : Int)]) ∧ a ≤ p ∧ p < b ∧ t ≤ 2) ∧ Below w.heap.size w w' := by
  have HU : Hid (Us w g d) := h
  have hgl := h.lt
  clear h
  obtain ⟨n, hn⟩ : ∃ n, d.size = n := ⟨_, rfl⟩
  have HN : Hid (d.size = n) := hn
  rw [hn] at hb hd ⊢
  clear hn
  obtain ⟨l, hl⟩ : ∃ l : Nat, (b : Int) - (a : Int) = (l : Int) := ⟨b - a, by omega⟩
  obtain ⟨q, hq, hq2⟩ : ∃ q : Nat, (l : Int).tdiv 4 = (q : Int) ∧ 4 * q ≤ l := ⟨l / 4, by simp, by omega⟩
  have q1 : (8 : Int) ≤ (l : Int) := by omega
  have q2 : ¬ (50 : Int) ≤ (l : Int) := by omega
  obtain ⟨i, hi⟩ : ∃ i : Nat, (a : Int) + (q : Int) = (i : Int) := ⟨a + q, by omega⟩
  obtain ⟨j, hj⟩ : ∃ j : Nat, (a : Int) + (q : Int) * 2 = (j : Int) := ⟨a + q * 2, by omega⟩
  obtain ⟨k, hk⟩ : ∃ k : Nat, (a : Int) + (q : Int) * 3 = (k : Int) := ⟨a + q * 3, by omega⟩
  have hib : i < b := by omega
  have hjb : j < b := by omega
  have hkb : k < b := by omega
  go_enter Try.func79, Try.ntmps79
  go_wp2_with fail
  have U1 : Us (w.alloc (.cells #[.int .i64 0] 3)) g d := HU.out.same ((below_new w _).block g hgl)
  have h1 := median_any g cap i j k w.heap.size 0 d (by rw [HN.out]; omega) (by rw [HN.out]; omega) (by rw [HN.out]; omega) (by rw [HN.out]; omega) (by omega) (by omega) _ U1 (heap_alloc_new w _)
  rw [HN.out] at h1
  refine h1.mono ?_
  clear h1 U1
  rintro e w1 ⟨⟨x1, rfl, hx⟩, ⟨k1, hk1, s1⟩, b1⟩
  have B1 : Hid (Below w.heap.size w w1) := (below_new w _).trans (b1.below (fun q e => by omega) (below_new w _).size)
  have hx0 : a ≤ x1 := by omega
  have hxb : x1 < b := by omega
  obtain ⟨c0, z0⟩ := s1.cell
  clear hx b1 s1
  by_cases hz : k1 = 0
  · subst hz
    have c0' : w1.cell? ⟨w.heap.size, 0, none⟩ = some (.int .i64 0) := c0
    clear c0
    go_wp2_with fail
    go_ret2
    exact ⟨⟨x1, 1, rfl, hx0, hxb, by omega⟩, B1.out⟩
  · have w1' : ((k1 : Int) == 0) = false := by simp; omega
    have w2' : ((k1 : Int) == 12) = false := by simp; omega
    go_wp2_with fail
    go_ret2
    exact ⟨⟨x1, 0, rfl, hx0, hxb, by omega⟩, B1.out⟩
end Go.Proofs.Ytkpfnepbnaekoaa.Rd
