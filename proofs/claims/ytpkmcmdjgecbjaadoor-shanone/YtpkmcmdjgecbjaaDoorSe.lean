/- A nil Summer sums nothing: the walk. -/
import Derived.Test.YtpkmcmdjgecbjaaDoorR
namespace Go.Proofs.YtpkmcmdjgecbjaaDoor
open Go.RowKit Go.Lib
theorem write_nil (s : ByteArray) (w : World) : Calls Tryd.prog 15 #[.pointer none, .string s] w fun e w' => e = .returned (.int .i64 1) ∧ w' = w := by
  go_enter Tryd.func15, Tryd.ntmps15
  go_wp2_with fail
  go_ret
  exact ⟨rfl, rfl⟩
theorem sum_nil (w : World) : Calls Tryd.prog 17 #[.pointer none] w fun e w' => e = .returned (.string ⟨#[]⟩) ∧ w' = w := by
  go_enter Tryd.func17, Tryd.ntmps17
  go_wp2_with fail
  go_ret
  exact ⟨rfl, rfl⟩
theorem len_nil (w : World) : Calls Tryd.prog 16 #[.pointer none] w fun e w' => e = .returned (.int .i64 0) ∧ w' = w := by
  go_enter Tryd.func16, Tryd.ntmps16
  go_wp2_with fail
  go_ret
  exact ⟨rfl, rfl⟩
set_option maxHeartbeats 2000000 in
theorem none_walk (s : ByteArray) (w : World) {tt : TypeId} {fr : Nat × Nat} (hK : w.heap[1]? = some (.cells (w64 (lf KL)) tt fr)) :
    Calls Tryd.prog 8 #[.string s] w fun e w' => e = .returned (.bool true) ∧ Below w.heap.size w w' := by
  have h1l : 1 < w.heap.size := (Array.getElem?_eq_some_iff.1 hK).1
  have HK : Hid (w.heap[1]? = some (.cells (w64 (lf KL)) tt fr)) := hK
  clear hK
  go_enter Tryd.func8, Tryd.ntmps8
  go_wp2_with fail
  refine (shown_any w HK.out).mono ?_
  rintro e w1 ⟨rfl, b1⟩
  have B1 : Hid (Below w.heap.size w w1) := b1
  clear b1
  go_wp2_with (first
    | (go_at_call 15; refine (write_nil _ _).mono ?_; rintro e w2 ⟨rfl, h2⟩; subst h2)
    | (go_at_call 17; refine (sum_nil _).mono ?_; rintro e w2 ⟨rfl, h2⟩; subst h2)
    | (go_at_call 16; refine (len_nil _).mono ?_; rintro e w2 ⟨rfl, h2⟩; subst h2))
  refine (add_any (lf KL) (bt ⟨#[]⟩) (bt_range _) 0 0 none (fun _ => ⟨#[]⟩) _ ((B1.out.block 1 h1l).trans HK.out) (by decide) (by decide) (fun i hi => absurd hi (by omega))).mono ?_
  rintro e w2 ⟨rfl, b2⟩
  have B2 : Hid (Below w.heap.size w w2) := B1.out.trans (b2.mono B1.out.size)
  obtain ⟨D, hD⟩ : ∃ D, strOfNums (dig (lf KL) (lf IV) (bt ⟨#[]⟩) 0) = D := ⟨_, rfl⟩
  have HD : Hid (strOfNums (dig (lf KL) (lf IV) (bt ⟨#[]⟩) 0) = D) := hD
  rw [show offs (fun _ => (⟨#[]⟩ : ByteArray)) 0 = 0 from rfl, hD]
  clear b2 B1 hD
  go_wp2_with fail
  refine (shaSum_any (lf KL) ⟨#[]⟩ _ ((B2.out.block 1 h1l).trans HK.out) (by decide)).mono ?_
  rintro e w3 ⟨rfl, b3⟩
  have B3 : Hid (Below w.heap.size w w3) := B2.out.trans (b3.mono B2.out.size)
  rw [show (ByteArray.mk #[]).size = 0 from rfl, HD.out]
  clear b3 B2
  go_wp2_with fail
  go_ret
  exact ⟨rfl, B3.out⟩
end Go.Proofs.YtpkmcmdjgecbjaaDoor
