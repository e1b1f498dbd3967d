/- PadBack: the walk. -/
import Derived.Test.YtpmdonigjljllaaF
namespace Go.Proofs.Ytpmdonigjljllaa
open Go.RowKit
/-- What Pad tells, under names. -/
def PadIs (s v : ByteArray) (x : Int) : Prop := ∀ w : World, Calls Try.prog 10 #[.string s] w fun e w' => e = .returned (.tuple #[.string v, .int .i64 x]) ∧ Below w.heap.size w w'
/-- What Unpad tells, under names. -/
def UnIs (s v : ByteArray) (x : Int) : Prop := ∀ w : World, Calls Try.prog 12 #[.string s] w fun e w' => e = .returned (.tuple #[.string v, .int .i64 x]) ∧ Below w.heap.size w w'
theorem padIs (s : ByteArray) : PadIs s (padV s) (padE s) := fun w => pad_any s w
theorem unIs (s : ByteArray) : UnIs s (unV s) (unE s) := fun w => unpad_any s w
theorem pad_short (s : ByteArray) (h : s.size ≤ 198) : padV s = bodyS s ∧ padE s = 0 := by simp [padV, padE, h]
theorem pad_long (s : ByteArray) (h : ¬ s.size ≤ 198) : padV s = ⟨#[]⟩ ∧ padE s = 50 := by simp [padV, padE, h]
theorem un_body (s : ByteArray) (h : s.size ≤ 198) : unV (bodyS s) = s ∧ unE (bodyS s) = 0 := by simp [unV, unE, isBody_body s h, textOf_body s h]
theorem un_is (b : ByteArray) (h : isBody b = true) : unE b = 0 ∧ padV (unV b) = b ∧ padE (unV b) = 0 := by
  obtain ⟨h1, h2, h3⟩ := isBody_size b h
  have e : unV b = textOf b := by simp [unV, h]
  have hz : (textOf b).size ≤ 198 := by rw [textOf_size b h1 h2]; exact h2
  rw [e, (pad_short _ hz).1, (pad_short _ hz).2, h3]
  simp [unE, h]
theorem un_not (b : ByteArray) (h : isBody b = false) : unV b = ⟨#[]⟩ ∧ unE b = 50 := by simp [unV, unE, h]
set_option maxRecDepth 100000 in
set_option maxHeartbeats 1000000 in
theorem padBack_run (s b x y z v : ByteArray) (e f g h : Int) (P1 : PadIs s x e) (P2 : UnIs x y f) (P3 : UnIs b z g) (P4 : PadIs z v h)
    (hc : (e = 50 ∧ 198 < s.size ∧ x = ⟨#[]⟩) ∨ (e = 0 ∧ f = 0 ∧ y = s ∧ x.size = 200 ∧ ((g = 50 ∧ z = ⟨#[]⟩) ∨ (g = 0 ∧ h = 0 ∧ v = b)))) (w : World) :
    Calls Try.prog 6 #[.string s, .string b] w fun e w' => e = .returned (.bool true) ∧ Below w.heap.size w w' := by
  have Q1 : Hid (PadIs s x e) := P1
  have Q2 : Hid (UnIs x y f) := P2
  have Q3 : Hid (UnIs b z g) := P3
  have Q4 : Hid (PadIs z v h) := P4
  have HC : Hid _ := hc
  clear P1 P2 P3 P4 hc
  go_enter Try.func6, Try.ntmps6
  go_wp2_with fail
  refine (shown_any w).mono ?_
  rintro e w1 ⟨rfl, b1⟩
  have B1 : Hid (Below w.heap.size w w1) := b1
  clear b1
  go_wp2_with fail
  refine (Q1.out w1).mono ?_
  rintro e w2 ⟨rfl, b2⟩
  have B2 : Hid (Below w.heap.size w w2) := B1.out.trans (b2.mono B1.out.size)
  clear b2 B1 Q1
  go_wp2_with fail
  refine (Q2.out w2).mono ?_
  rintro e w3 ⟨rfl, b3⟩
  have B3 : Hid (Below w.heap.size w w3) := B2.out.trans (b3.mono B2.out.size)
  clear b3 B2 Q2
  go_wp2_with fail
  refine (Q3.out w3).mono ?_
  rintro e w4 ⟨rfl, b4⟩
  have B4 : Hid (Below w.heap.size w w4) := B3.out.trans (b4.mono B3.out.size)
  clear b4 B3 Q3
  go_wp2_with fail
  refine (Q4.out w4).mono ?_
  rintro e w5 ⟨rfl, b5⟩
  have B5 : Hid (Below w.heap.size w w5) := B4.out.trans (b5.mono B4.out.size)
  clear b5 B4 Q4
  rcases HC.out with ⟨rfl, hs, rfl⟩ | ⟨rfl, rfl, rfl, hx, ⟨rfl, rfl⟩ | ⟨rfl, rfl, rfl⟩⟩
  · have q : (198 : Int) < (s.size : Int) := by omega
    clear HC
    go_wp2_with fail
    go_ret
    exact ⟨rfl, B5.out⟩
  · have q : (x.size : Int) = 200 := by omega
    clear HC
    go_wp2_with fail
    go_ret
    exact ⟨rfl, B5.out⟩
  · have q : (x.size : Int) = 200 := by omega
    clear HC
    go_wp2_with fail
    go_ret
    exact ⟨rfl, B5.out⟩
theorem padBack_walk (s b : ByteArray) (w : World) :
    Calls Try.prog 6 #[.string s, .string b] w fun e w' => e = .returned (.bool true) ∧ Below w.heap.size w w' := by
  refine padBack_run s b _ _ _ _ _ _ _ _ (padIs s) (unIs (padV s)) (unIs b) (padIs (unV b)) ?_ w
  by_cases hs : s.size ≤ 198
  · refine .inr ⟨(pad_short s hs).2, ?_, ?_, ?_, ?_⟩
    · rw [(pad_short s hs).1]; exact (un_body s hs).2
    · rw [(pad_short s hs).1]; exact (un_body s hs).1
    · rw [(pad_short s hs).1]; exact body_size s
    · cases h : isBody b
      · exact .inl ⟨(un_not b h).2, (un_not b h).1⟩
      · exact .inr ⟨(un_is b h).1, (un_is b h).2.2, (un_is b h).2.1⟩
  · exact .inl ⟨(pad_long s hs).2, by omega, (pad_long s hs).1⟩
end Go.Proofs.Ytpmdonigjljllaa
