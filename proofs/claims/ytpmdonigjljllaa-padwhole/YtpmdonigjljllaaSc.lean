/- PadCuts: the walk. -/
import Derived.Test.YtpmdonigjljllaaL
namespace Go.Proofs.Ytpmdonigjljllaa
open Go.RowKit
/-- A text's first bytes. -/
theorem cut_is (s : ByteArray) : ∃ (t : ByteArray) (r : Nat), (if (5000 : Int) < (s.size : Int) then (5000 : Int) else (s.size : Int)) = (r : Int) ∧ r ≤ s.size ∧ s.extract 0 r = t ∧ t.size ≤ 5000 := by
  refine ⟨_, min s.size 5000, by split <;> omega, by omega, rfl, by rw [ext_size]; omega⟩
theorem cutS_length (s : ByteArray) (h : s.size ≤ 5000) : (cutS s).length ≤ 26 := by unfold cutS; rw [partsS_length]; unfold nParts; omega
set_option maxRecDepth 100000 in
set_option maxHeartbeats 1000000 in
theorem padCuts_walk (s0 : ByteArray) (w : World) :
    Calls Try.prog 5 #[.string s0] w fun e w' => e = .returned (.bool true) ∧ Below w.heap.size w w' := by
  obtain ⟨t, r, hr, hrs, ht, hts⟩ := cut_is s0
  have hh := run_head s0 r hrs
  rw [ht] at hh
  have CT : Hid (∀ w : World, Calls Try.prog 15 #[.string t] w fun e w' => ∃ o cap, e = .returned (.slice o (cutS t).length cap) ∧ Strs w' o (cutS t) ∧ Below w.heap.size w w') := fun w => cut_any t hts w
  have RT : Hid (∀ w : World, Calls Try.prog 16 #[.string t] w fun e w' => ∃ o cap, e = .returned (.slice o (cutS t).length cap) ∧ Strs w' o (cutS t) ∧ Below w.heap.size w w') := fun w => refCut_any t hts w
  have HL : Hid ((cutS t).length ≤ 26) := cutS_length t hts
  generalize cutS t = l at *
  have HR : Hid ((if (5000 : Int) < (s0.size : Int) then (5000 : Int) else (s0.size : Int)) = (r : Int)) := hr
  clear ht hts hrs hr
  go_enter Try.func5, Try.ntmps5
  go_wp2_with fail
  refine (shown_any w).mono ?_
  rintro e w1 ⟨rfl, b1⟩
  have B1 : Hid (Below w.heap.size w w1) := b1
  clear b1
  go_wp2_with (first
    | (refine list_min rfl 3 3 (.tmp 7) (.const (.int .i64 5000)) rfl (p := (s0.size : Int)) (q := 5000) rfl rfl HR.out ?_))
  refine (CT.out w1).mono ?_
  rintro e w2 ⟨o2, c2, rfl, st2, b2⟩
  have B2 : Hid (Below w.heap.size w w2) := B1.out.trans (b2.mono B1.out.size)
  have S2 : Hid (Strs w2 o2 l) := st2
  clear b2 B1 st2
  go_wp2_with fail
  refine (RT.out w2).mono ?_
  rintro e w3 ⟨o3, c3, rfl, st3, b3⟩
  have B3 : Hid (Below w.heap.size w w3) := B2.out.trans (b3.mono B2.out.size)
  have S3 : Hid (Strs w3 o3 l) := st3
  have T3 : Hid (Strs w3 o2 l) := S2.out.below b3 (Nat.le_refl _)
  clear b3 B2 st3 S2
  go_wp2_with fail
  refine (same_true l (by have := HL.out; omega) o2 o3 c2 c3 w3 T3.out S3.out).mono ?_
  rintro e w4 ⟨rfl, b4⟩
  have B4 : Hid (Below w.heap.size w w4) := B3.out.trans (b4.mono B3.out.size)
  clear b4
  go_wp2_with fail
  go_ret
  exact ⟨rfl, B4.out⟩
end Go.Proofs.Ytpmdonigjljllaa
