/- The document's example; Pad and Unpad held against the reference's. -/
import Derived.Test.YtpmdonigjljllabC
namespace Go.Proofs.Ytpmdonigjljllab
open Go.RowKit
def abS : ByteArray := ⟨#[97, 98]⟩
set_option maxRecDepth 100000 in
set_option maxHeartbeats 1000000 in
theorem shown_any (w : World) :
    Calls Try.prog 4 #[] w fun e w' => e = .returned (.bool true) ∧ Below w.heap.size w w' := by
  have E1 : Hid (∀ w : World, Calls Try.prog 5 #[.string ⟨#[97, 98]⟩] w fun e w' => e = .returned (.tuple #[.string (bodyS abS), .int .i64 0]) ∧ Below w.heap.size w w') := fun w => by
    have h := pad_any abS w
    rw [show padV abS = bodyS abS from rfl, show padE abS = 0 from rfl] at h
    exact h
  have E2 : Hid (∀ w : World, Calls Try.prog 6 #[.string (bodyS abS)] w fun e w' => e = .returned (.tuple #[.string ⟨#[97, 98]⟩, .int .i64 0]) ∧ Below w.heap.size w w') := fun w => by
    have h := unpad_any (bodyS abS) w
    rw [show unV (bodyS abS) = abS by unfold unV; rw [isBody_body abS (by decide), textOf_body abS (by decide)]; rfl, show unE (bodyS abS) = 0 by unfold unE; rw [isBody_body abS (by decide)]; rfl] at h
    exact h
  have hsz : (bodyS abS).size = 200 := body_size _
  have hex : (bodyS abS).extract 0 5 = ⟨#[0, 2, 97, 98, 0]⟩ := by decide +kernel
  generalize bodyS abS = A at *
  go_enter Try.func4, Try.ntmps4
  go_wp2_with fail
  refine (E1.out _).mono ?_
  rintro e w1 ⟨rfl, b1⟩
  have B1 : Hid (Below w.heap.size w w1) := b1
  clear b1 E1
  go_wp2_with fail
  refine (E2.out _).mono ?_
  rintro e w2 ⟨rfl, b2⟩
  have B2 : Hid (Below w.heap.size w w2) := B1.out.trans (b2.mono B1.out.size)
  clear b2 E2 B1
  go_wp2_with fail
  go_ret
  exact ⟨rfl, B2.out⟩
end Go.Proofs.Ytpmdonigjljllab
