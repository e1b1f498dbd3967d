/- PadBack: the walk. -/
import Derived.Test.YtpmdonigjljllabF
namespace Go.Proofs.Ytpmdonigjljllab
open Go.RowKit
/-- What Pad tells, under names. -/
def PadIs (s v : ByteArray) (x : Int) : Prop := ∀ w : World, Calls Try.prog 5 #[.string s] w fun e w' => e = .returned (.tuple #[.string v, .int .i64 x]) ∧ Below w.heap.size w w'
/-- What Unpad tells, under names. -/
def UnIs (s v : ByteArray) (x : Int) : Prop := ∀ w : World, Calls Try.prog 6 #[.string s] w fun e w' => e = .returned (.tuple #[.string v, .int .i64 x]) ∧ Below w.heap.size w w'
theorem padIs (s : ByteArray) : PadIs s (padV s) (padE s) := fun w => pad_any s w
theorem unIs (s : ByteArray) : UnIs s (unV s) (unE s) := fun w => unpad_any s w
theorem pad_short (s : ByteArray) (h : s.size ≤ 198) : padV s = bodyS s ∧ padE s = 0 := by simp [padV, padE, h]
theorem pad_long (s : ByteArray) (h : ¬ s.size ≤ 198) : padV s = ⟨#[]⟩ ∧ padE s = 50 := by simp [padV, padE, h]
theorem un_body (s : ByteArray) (h : s.size ≤ 198) : unV (bodyS s) = s ∧ unE (bodyS s) = 0 := by simp [unV, unE, isBody_body s h, textOf_body s h]
theorem un_is (b : ByteArray) (h : isBody b = true) : unE b = 0 ∧ padV (unV b) = b ∧ padE (unV b) = 0 := by
  obtain ⟨h1, h2, h3⟩ := isBody_size b h
  have e : unV b = textOf b := by simp [unV, h]
  have hz : (textOf b).size ≤ 198 := by rw [textOf_size b h1 h2]; exact h2
  rw [e, (pad_short _ hz).1, (pad_short _ hz).2, h3]
  simp [unE, h]
theorem un_not (b : ByteArray) (h : isBody b = false) : unV b = ⟨#[]⟩ ∧ unE b = 50 := by simp [unV, unE, h]
end Go.Proofs.Ytpmdonigjljllab
