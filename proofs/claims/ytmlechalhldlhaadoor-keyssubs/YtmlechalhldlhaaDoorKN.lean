/- The example: a key is added in its place, and none twice. -/
import Derived.Test.YtmlechalhldlhaaDoorKK
namespace Go.Proofs.YtmlechalhldlhaaDoor.Rk
open Go.RowKit
theorem lit_ring {w : World} {g : Nat} {cs : Array Value} {l : List Ky} {t : TypeId} {fr : Nat × Nat} (h : w.heap[g]? = some (.cells cs t fr)) (hc : cs.toList = cellsOf l) (hl : l.length ≤ 1000) : Ring w (some ⟨g, 0, none⟩) l.length l := by
  refine ⟨Nat.le_refl _, by simp only [maxLen]; omega, (fun e => by cases e), fun _ => ⟨g, 0, rfl, (Array.getElem?_eq_some_iff.1 h).1, fun i hi => ?_⟩⟩
  obtain ⟨g1, g2⟩ := cellsOf_get l i hi
  rw [← hc, Array.getElem?_toList] at g1 g2
  exact ⟨by rw [cell_of_row _ _ _ _ _ _ h, Nat.zero_add]; exact g1, by rw [cell_of_row _ _ _ _ _ _ h, Nat.zero_add]; exact g2⟩
def ex2 : List Ky := [(1, rep 7), (3, rep 8)]
def ex3 : List Ky := [(1, rep 7), (2, rep 9), (3, rep 8)]
theorem ex_add : alS ex2 (2, rep 9) = ex3 ∧ aeS ex2 (2, rep 9) = 0 := by
  have h1 : rightS ex2 = true := by simp [ex2, rightS, rises, rep_size]
  have h2 : withS ex2 (2, rep 9) = ex3 := by simp [ex2, ex3, withS, placeS]
  have h3 : rightS ex3 = true := by simp [ex3, rightS, rises, rep_size]
  unfold alS aeS
  rw [h2, if_pos ⟨h1, h3⟩, if_pos ⟨h1, h3⟩]
  exact ⟨rfl, rfl⟩
theorem ex_twice : aeS ex3 (2, rep 5) = 40 := by
  have h3 : rightS (withS ex3 (2, rep 5)) = false := by simp [ex3, withS, placeS, rightS, rises]
  unfold aeS
  rw [h3]
  simp
theorem ex_find : feS ex3 4 = 41 := by
  have h3 : rightS ex3 = true := by simp [ex3, rightS, rises, rep_size]
  have h4 : findS ex3 4 = none := by simp [ex3, findS]
  unfold feS
  rw [h3, h4]
  rfl
set_option maxRecDepth 100000 in
set_option maxHeartbeats 2000000 in
theorem shown_any (w : World) : Calls Tryd.prog 5 #[] w fun e w' => e = .returned (.bool true) ∧ Below w.heap.size w w' := by
  go_enter Tryd.func5, Tryd.ntmps5
  go_wp2_with fail
  refine (key_any 1 7 w).mono ?_
  rintro e w1 ⟨rfl, b1⟩
  unfold kv
  go_wp2_with fail
  refine (key_any 3 8 w1).mono ?_
  rintro e w2 ⟨rfl, b2⟩
  unfold kv
  have B2 : Hid (Below w.heap.size w w2) := b1.trans (b2.mono b1.size)
  clear b1 b2
  go_wp2_with fail
  obtain ⟨w3, hw3⟩ : ∃ w3, w2.alloc (.cells #[.int .u32 1, .string (rep 7), .int .u32 3, .string (rep 8)] 24) = w3 := ⟨_, rfl⟩
  have B3 : Hid (Below w.heap.size w w3) := by rw [← hw3]; exact B2.out.alloc B2.out.size _
  have R3 : Hid (Ring w3 (some ⟨w2.heap.size, 0, none⟩) 2 ex2) := by rw [← hw3]; exact lit_ring (l := ex2) (heap_alloc_new w2 _) rfl (by decide)
  rw [hw3]
  clear hw3 B2
  refine (key_any 2 9 w3).mono ?_
  rintro e w4 ⟨rfl, b4⟩
  have B4 : Hid (Below w.heap.size w w4) := B3.out.trans (b4.mono B3.out.size)
  have R4 : Hid (Ring w4 (some ⟨w2.heap.size, 0, none⟩) 2 ex2) := R3.out.below b4 (Nat.le_refl _)
  clear b4 B3 R3
  go_wp2_with fail
  refine (add_any ex2 (2, rep 9) (some ⟨w2.heap.size, 0, none⟩) 2 w4 R4.out).mono ?_
  rintro e w5 ⟨o5, c5, rfl, r5, b5⟩
  rw [ex_add.1] at r5 ⊢
  rw [ex_add.2]
  have B5 : Hid (Below w.heap.size w w5) := B4.out.trans (b5.mono B4.out.size)
  have R5 : Hid (Ring w5 o5 c5 ex3) := r5
  clear b5 r5 B4 R4
  rw [show ex3.length = 3 from rfl]
  go_wp2_with fail
  refine (key_any 2 5 w5).mono ?_
  rintro e w6 ⟨rfl, b6⟩
  have B6 : Hid (Below w.heap.size w w6) := B5.out.trans (b6.mono B5.out.size)
  have R6 : Hid (Ring w6 o5 c5 ex3) := R5.out.below b6 (Nat.le_refl _)
  clear b6 B5 R5
  go_wp2_with fail
  refine (add_any ex3 (2, rep 5) o5 c5 w6 R6.out).mono ?_
  rintro e w7 ⟨o7, c7, rfl, r7, b7⟩
  rw [ex_twice]
  have B7 : Hid (Below w.heap.size w w7) := B6.out.trans (b7.mono B6.out.size)
  have R7 : Hid (Ring w7 o5 c5 ex3) := R6.out.below b7 (Nat.le_refl _)
  clear b7 r7 B6 R6
  generalize (alS ex3 (2, rep 5)).length = n7
  go_wp2_with fail
  refine (find_any ex3 4 o5 c5 w7 R7.out).mono ?_
  rintro e w8 ⟨rfl, b8⟩
  rw [ex_find]
  have B8 : Hid (Below w.heap.size w w8) := B7.out.trans (b8.mono B7.out.size)
  have R8 : Hid (Ring w8 o5 c5 ex3) := R7.out.below b8 (Nat.le_refl _)
  clear b8 B7 R7
  unfold kv
  generalize fkS ex3 4 = kz
  obtain ⟨kg, ks⟩ := kz
  go_wp2_with fail
  obtain ⟨w9, hw9⟩ : ∃ w9, w8.alloc (.cells #[.int .u32 kg, .string ks] 24) = w9 := ⟨_, rfl⟩
  have B9 : Hid (Below w.heap.size w w9) := by rw [← hw9]; exact B8.out.alloc B8.out.size _
  have R9 : Hid (Ring w9 o5 c5 ex3) := by rw [← hw9]; exact R8.out.below (below_new _ _) (Nat.le_refl _)
  rw [hw9]
  clear hw9 B8 R8
  refine (key_any 1 7 w9).mono ?_
  rintro e wa ⟨rfl, ba⟩
  have Ba : Hid (Below w.heap.size w wa) := B9.out.trans (ba.mono B9.out.size)
  have Ra : Hid (Ring wa o5 c5 ex3) := R9.out.below ba (Nat.le_refl _)
  clear ba B9 R9
  unfold kv
  go_wp2_with fail
  refine (key_any 2 9 wa).mono ?_
  rintro e wb ⟨rfl, bb⟩
  have Bb : Hid (Below w.heap.size w wb) := Ba.out.trans (bb.mono Ba.out.size)
  have Rb : Hid (Ring wb o5 c5 ex3) := Ra.out.below bb (Nat.le_refl _)
  clear bb Ba Ra
  unfold kv
  go_wp2_with fail
  refine (key_any 3 8 wb).mono ?_
  rintro e wc ⟨rfl, bc⟩
  have Bc : Hid (Below w.heap.size w wc) := Bb.out.trans (bc.mono Bb.out.size)
  have Rc : Hid (Ring wc o5 c5 ex3) := Rb.out.below bc (Nat.le_refl _)
  clear bc Bb Rb
  unfold kv
  go_wp2_with fail
  obtain ⟨wd, hwd⟩ : ∃ wd, wc.alloc (.cells #[.int .u32 1, .string (rep 7), .int .u32 2, .string (rep 9), .int .u32 3, .string (rep 8)] 24) = wd := ⟨_, rfl⟩
  have Bd : Hid (Below w.heap.size w wd) := by rw [← hwd]; exact Bc.out.alloc Bc.out.size _
  have Rd : Hid (Ring wd o5 c5 ex3) := by rw [← hwd]; exact Rc.out.below (below_new _ _) (Nat.le_refl _)
  have Ld : Hid (Ring wd (some ⟨wc.heap.size, 0, none⟩) 3 ex3) := by rw [← hwd]; exact lit_ring (l := ex3) (heap_alloc_new wc _) rfl (by decide)
  rw [hwd]
  clear hwd Bc Rc
  refine (same_any ex3 ex3 o5 (some ⟨wc.heap.size, 0, none⟩) c5 3 wd Rd.out Ld.out).mono ?_
  rintro e we ⟨rfl, be⟩
  have Be : Hid (Below w.heap.size w we) := Bd.out.trans (be.mono Bd.out.size)
  rw [decide_eq_true rfl]
  clear be Bd Rd Ld
  go_wp2_with fail
  go_ret
  exact ⟨rfl, Be.out⟩
end Go.Proofs.YtmlechalhldlhaaDoor.Rk
