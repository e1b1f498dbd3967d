/- A text's sum: the walks. -/
import Derived.Test.YtnijfadjacnchaaDoorTe
namespace Go.Proofs.YtnijfadjacnchaaDoor
open Go.RowKit Go.Lib
theorem cut_any (s t : ByteArray) (r : Nat) (h1 : (if ((1000 : Nat) : Int) < (s.size : Int) then ((1000 : Nat) : Int) else (s.size : Int)) = (r : Int)) (h2 : r ≤ s.size) (h3 : s.extract 0 r = t) (w : World) :
    Calls Tryd.prog 11 #[.string s] w fun e w' => e = .returned (.string t) ∧ w' = w := by
  have HR : Hid ((if ((1000 : Nat) : Int) < (s.size : Int) then ((1000 : Nat) : Int) else (s.size : Int)) = (r : Int)) := h1
  have HRS : Hid (r ≤ s.size) := h2
  have HRT : Hid (s.extract 0 r = t) := h3
  clear h1 h2 h3
  go_enter Tryd.func11, Tryd.ntmps11
  go_wp2_with (first
    | (refine list_min rfl 3 3 (.tmp 5) (.const (.int .i64 1000)) rfl (p := (s.size : Int)) (q := 1000) rfl rfl HR.out ?_)
    | (refine list_head rfl (.tmp 3) (.tmp 6) rfl (s := s) (t := t) (n := r) rfl rfl HRS.out HRT.out ?_))
  go_ret
  exact ⟨rfl, rfl⟩
set_option maxHeartbeats 2000000 in
theorem sums_walk (s : ByteArray) (w : World) {tt tt' : TypeId} {fr fr' : Nat × Nat} (hT : w.heap[0]? = some (.cells (w64 (lf KL)) tt' fr')) (hK : w.heap[1]? = some (.cells (w64 (lf KL)) tt fr)) :
    Calls Tryd.prog 3 #[.string s] w fun e w' => e = .returned (.bool true) ∧ Below w.heap.size w w' := by
  have h1l : 1 < w.heap.size := (Array.getElem?_eq_some_iff.1 hK).1
  have HK : Hid (w.heap[1]? = some (.cells (w64 (lf KL)) tt fr)) := hK
  have HT : Hid (w.heap[0]? = some (.cells (w64 (lf KL)) tt' fr')) := hT
  clear hK hT
  obtain ⟨t, r, hr, hrs, hrt, hts⟩ := cut_is s 1000
  have CA : Hid (∀ w, Calls Tryd.prog 11 #[.string s] w fun e w' => e = .returned (.string t) ∧ w' = w) := cut_any s t r hr hrs hrt
  have HTS : Hid (t.size ≤ 1000) := hts
  clear hr hrs hrt hts
  go_enter Tryd.func3, Tryd.ntmps3
  go_wp2_with fail
  refine (shown_any w HK.out).mono ?_
  rintro e w1 ⟨rfl, b1⟩
  have B1 : Hid (Below w.heap.size w w1) := b1
  clear b1
  go_wp2_with fail
  refine (CA.out w1).mono ?_
  rintro e w2 ⟨rfl, h2⟩
  have h2' := h2.symm
  clear h2
  subst h2'
  go_wp2_with fail
  refine (shaSum_any (lf KL) t _ ((B1.out.block 1 h1l).trans HK.out) (by have := HTS.out; omega)).mono ?_
  rintro e w2 ⟨rfl, b2⟩
  have B2 : Hid (Below w.heap.size w w2) := B1.out.trans (b2.mono B1.out.size)
  obtain ⟨D, hD⟩ : ∃ D, strOfNums (dig (lf KL) (lf IV) (bt t) t.size) = D := ⟨_, rfl⟩
  have HD : Hid (strOfNums (dig (lf KL) (lf IV) (bt t) t.size) = D) := hD
  rw [hD]
  clear b2 B1 hD
  go_wp2_with fail
  refine (CA.out w2).mono ?_
  rintro e w3 ⟨rfl, h3⟩
  have h3' := h3.symm
  clear h3
  subst h3'
  go_wp2_with fail
  refine (refSum_any (lf KL) t (by have := HTS.out; omega) _ ((B2.out.block 0 (by omega)).trans HT.out)).mono ?_
  rintro e w3 ⟨rfl, b3⟩
  have B3 : Hid (Below w.heap.size w w3) := B2.out.trans (b3.mono B2.out.size)
  rw [HD.out]
  clear b3 B2
  go_wp2_with fail
  go_ret
  exact ⟨rfl, B3.out⟩
end Go.Proofs.YtnijfadjacnchaaDoor
