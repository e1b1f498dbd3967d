/- A text's mac; keys of any length: the walks. -/
import Derived.Test.YtdpmocgcpbjhiaaDoorUk
namespace Go.Proofs.YtdpmocgcpbjhiaaDoor
open Go.RowKit Go.Lib
theorem mac_one (Kt : Nat → Int) (key s : ByteArray) (hk : key.size ≤ 1000000) (hs : s.size ≤ 1000000) (w : World) (T : TypeId) {tt : TypeId} {fr : Nat × Nat} (hK : w.heap[1]? = some (.cells (w64 Kt) tt fr)) :
    Calls Tryd.prog 10 #[.string key, .slice (some ⟨w.heap.size, 0, none⟩) 1 1] (w.alloc (.cells #[.string s] T)) fun e w' => e = .returned (.string (macS Kt key s)) ∧ Below w.heap.size w w' :=
  mac_new Kt key hk 1 (by decide) #[.string s] T (fun _ => s) s (by apply ByteArray.ext; simp [catS]) (by omega) (fun i hi => by
    match i, hi with
    | 0, _ => rfl) w hK
set_option maxHeartbeats 2000000 in
theorem macMacs_walk (key s : ByteArray) (w : World) {tt tt' : TypeId} {fr fr' : Nat × Nat} (hT : w.heap[0]? = some (.cells (w64 (lf KL)) tt' fr')) (hK : w.heap[1]? = some (.cells (w64 (lf KL)) tt fr)) :
    Calls Tryd.prog 3 #[.string key, .string s] w fun e w' => e = .returned (.bool true) ∧ Below w.heap.size w w' := by
  have h1l : 1 < w.heap.size := (Array.getElem?_eq_some_iff.1 hK).1
  have HK : Hid (w.heap[1]? = some (.cells (w64 (lf KL)) tt fr)) := hK
  have HT : Hid (w.heap[0]? = some (.cells (w64 (lf KL)) tt' fr')) := hT
  obtain ⟨k, r, hr, hrs, hrt, hks⟩ := cut_is key 500
  obtain ⟨t, r', hr', hrs', hrt', hts⟩ := cut_is s 500
  have CK : Hid (∀ w, Calls Tryd.prog 11 #[.string key] w fun e w' => e = .returned (.string k) ∧ w' = w) := cut_any key k r hr hrs hrt
  have CS : Hid (∀ w, Calls Tryd.prog 11 #[.string s] w fun e w' => e = .returned (.string t) ∧ w' = w) := cut_any s t r' hr' hrs' hrt'
  clear hK hT hr hrs hrt hr' hrs' hrt'
  go_enter Tryd.func3, Tryd.ntmps3
  go_wp2_with fail
  refine (shown_any w HK.out).mono ?_
  rintro e w1 ⟨rfl, b1⟩
  have B1 : Hid (Below w.heap.size w w1) := b1
  clear b1
  go_wp2_with fail
  refine (CK.out w1).mono ?_
  rintro e w2 ⟨rfl, h2⟩
  have h2' := h2.symm
  clear h2
  subst h2'
  go_wp2_with fail
  refine (CS.out w1).mono ?_
  rintro e w2 ⟨rfl, h2⟩
  have h2' := h2.symm
  clear h2
  subst h2'
  have MO : ∀ T, Hid (Calls Tryd.prog 10 #[.string k, .slice (some ⟨w1.heap.size, 0, none⟩) 1 1] (w1.alloc (.cells #[.string t] T)) fun e w' => e = .returned (.string (macS (lf KL) k t)) ∧ Below w1.heap.size w1 w') := fun T => mac_one (lf KL) k t (by omega) (by omega) w1 T ((B1.out.block 1 h1l).trans HK.out)
  go_wp2_with fail
  refine (MO _).out.mono ?_
  rintro e w2 ⟨rfl, b2⟩
  have B2 : Hid (Below w.heap.size w w2) := B1.out.trans (b2.mono B1.out.size)
  obtain ⟨D, hD⟩ : ∃ D, macS (lf KL) k t = D := ⟨_, rfl⟩
  have HD : Hid (macS (lf KL) k t = D) := hD
  rw [hD]
  clear b2 B1 hD MO
  go_wp2_with fail
  refine (CK.out w2).mono ?_
  rintro e w3 ⟨rfl, h3⟩
  have h3' := h3.symm
  clear h3
  subst h3'
  go_wp2_with fail
  refine (CS.out w2).mono ?_
  rintro e w3 ⟨rfl, h3⟩
  have h3' := h3.symm
  clear h3
  subst h3'
  go_wp2_with fail
  refine (refMac_any (lf KL) k t (by omega) (by omega) w2 ((B2.out.block 0 (by omega)).trans HT.out)).mono ?_
  rintro e w3 ⟨rfl, b3⟩
  have B3 : Hid (Below w.heap.size w w3) := B2.out.trans (b3.mono B2.out.size)
  rw [HD.out]
  clear b3 B2
  go_wp2_with fail
  go_ret
  exact ⟨rfl, B3.out⟩
end Go.Proofs.YtdpmocgcpbjhiaaDoor
