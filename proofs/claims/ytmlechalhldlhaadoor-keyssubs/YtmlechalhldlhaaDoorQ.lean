/- The sum of texts behind each other, and of one text. -/
import Derived.Test.YtmlechalhldlhaaDoorP
namespace Go.Proofs.YtmlechalhldlhaaDoor
open Go.RowKit Go.Lib
theorem add_any (Kt m : Nat → Int) (hm : ∀ j, 0 ≤ m j ∧ m j < 256) (len cap : Nat) (o : Option Addr) (ts : Nat → ByteArray) (w : World) {tt : TypeId} {fr : Nat × Nat} (hK : w.heap[1]? = some (.cells (w64 Kt) tt fr))
    (hL : offs ts len ≤ 1000000000000) (hlen : len ≤ 1099511627776)
    (hts : ∀ i, i < len → (∃ b off, o = some ⟨b, off, none⟩ ∧ b < w.heap.size ∧ w.cell? ⟨b, off + i, none⟩ = some (.string (ts i))) ∧ ∀ j, j < (ts i).size → bt (ts i) j = m (offs ts i + j)) :
    Calls Tryd.prog 36 #[.slice o len cap] w fun e w' => e = .returned (.string (strOfNums (dig Kt (lf IV) m (offs ts len)))) ∧ Below w.heap.size w w' := by
  have h1l : 1 < w.heap.size := (Array.getElem?_eq_some_iff.1 hK).1
  have HK : Hid (w.heap[1]? = some (.cells (w64 Kt) tt fr)) := hK
  have HTS : Hid _ := hts
  have HL : Hid (offs ts len ≤ 1000000000000) := hL
  have HLN : Hid (len ≤ 1099511627776) := hlen
  have HM : Hid (∀ j, 0 ≤ m j ∧ m j < 256) := hm
  have NA : Hid (∀ w, Calls Tryd.prog 40 #[] w fun e w' => ∃ g, w.heap.size ≤ g ∧ e = .returned (.pointer (some ⟨g, 0, none⟩)) ∧ w'.heap[g]? = some (.cells (sm (lf IV) (fun _ => 0) 0) 79 (0, 0)) ∧ Below w.heap.size w w') := new_any
  clear hK hts hL hlen hm
  generalize lf IV = iv at *
  go_enter Tryd.func36, Tryd.ntmps36
  go_wp2_with fail
  refine (NA.out w).mono ?_
  rintro e w1 ⟨g, hg, rfl, h1, b1⟩
  have T1 : Hid (Told Kt iv m w1 g 0) := ⟨_, h1, fun j hj => absurd hj (by omega)⟩
  have B1 : Hid (Below w.heap.size w w1) := b1
  clear h1 b1 NA
  go_wp2_with fail
  refine (callsIn_wide.1 (lay_in Kt iv m HM.out g 0 len cap o ts w1 ((B1.out.block 1 h1l).trans HK.out) (by omega) (by have := HL.out; omega) HLN.out T1.out ?_)).mono ?_
  · intro i hi
    obtain ⟨⟨b, off, ho, hb, hc⟩, hbt⟩ := HTS.out i hi
    exact ⟨⟨b, off, ho, by omega, Nat.lt_of_lt_of_le hb B1.out.size, (cell_same (B1.out.block b hb) _).trans hc⟩, fun j hj => by rw [Nat.zero_add]; exact hbt j hj⟩
  rintro e w2 ⟨rfl, h2, g2⟩
  have T2 : Hid (Told Kt iv m w2 g (offs ts len)) := by rw [Nat.zero_add] at h2; exact h2
  have B2 : Hid (Below w.heap.size w w2) := B1.out.grown g2 B1.out.size (fun k e => by cases e; exact hg)
  clear h2 g2 T1 B1 HTS
  go_wp2_with fail
  refine (sum_any Kt iv m HM.out g _ w2 ((B2.out.block 1 h1l).trans HK.out) HL.out T2.out).mono ?_
  rintro e w3 ⟨rfl, b3⟩
  have B3 : Hid (Below w.heap.size w w3) := B2.out.trans (b3.mono B2.out.size)
  clear b3 B2 T2
  go_wp2_with fail
  go_ret
  exact ⟨rfl, B3.out⟩
theorem shaSum_any (Kt : Nat → Int) (s : ByteArray) (w : World) {tt : TypeId} {fr : Nat × Nat} (hK : w.heap[1]? = some (.cells (w64 Kt) tt fr)) (hL : s.size ≤ 1000000000000) :
    Calls Tryd.prog 38 #[.string s] w fun e w' => e = .returned (.string (strOfNums (dig Kt (lf IV) (bt s) s.size))) ∧ Below w.heap.size w w' := by
  have h1l : 1 < w.heap.size := (Array.getElem?_eq_some_iff.1 hK).1
  have AD : ∀ t, Hid (Calls Tryd.prog 36 #[.slice (some ⟨w.heap.size, 0, none⟩) 1 1] (w.alloc (.cells #[.string s] t)) fun e w' => e = .returned (.string (strOfNums (dig Kt (lf IV) (bt s) s.size))) ∧ Below w.heap.size w w') := fun t => by
    have hbl : Below w.heap.size w (w.alloc (.cells #[.string s] t)) := (Below.refl _ w).alloc (Nat.le_refl _) _
    refine (add_any Kt (bt s) (bt_range s) 1 1 (some ⟨w.heap.size, 0, none⟩) (fun _ => s) (w.alloc (.cells #[.string s] t)) ((hbl.block 1 h1l).trans hK) (by simpa [offs] using hL) (by decide) ?_).mono ?_
    · intro i hi
      obtain rfl : i = 0 := by omega
      exact ⟨⟨w.heap.size, 0, rfl, by simp, by rw [cell_of_row _ _ _ _ _ _ (heap_alloc_new w _)]; rfl⟩, fun j hj => by simp [offs]⟩
    · rintro e w' ⟨rfl, h2⟩
      exact ⟨by simp [offs], hbl.trans (h2.mono (by simp))⟩
  clear hK hL
  generalize dig Kt (lf IV) (bt s) s.size = D at *
  go_enter Tryd.func38, Tryd.ntmps38
  go_wp2_with fail
  refine (AD _).out.mono ?_
  rintro e w1 ⟨rfl, b1⟩
  have B1 : Hid _ := b1
  clear b1 AD
  go_wp2_with fail
  go_ret
  exact ⟨rfl, B1.out⟩
end Go.Proofs.YtmlechalhldlhaaDoor
