/- PadSizes: the walk. -/
import Derived.Test.YtpmdonigjljllabG
namespace Go.Proofs.Ytpmdonigjljllab
open Go.RowKit
set_option maxRecDepth 100000 in
set_option maxHeartbeats 1000000 in
theorem padSizes_run (s t a b : ByteArray) (e f n : Int) (P1 : PadIs s a e) (P2 : PadIs t b f) (hc : (e = 0 ∧ f = 0 ∧ a.size = b.size) ∨ e = 50 ∨ (e = 0 ∧ f = 50)) (w : World) :
    Calls Try.prog 3 #[.string s, .string t, .int .i64 n] w fun e w' => e = .returned (.bool true) ∧ Below w.heap.size w w' := by
  have Q1 : Hid (PadIs s a e) := P1
  have Q2 : Hid (PadIs t b f) := P2
  have HC : Hid _ := hc
  clear P1 P2 hc
  go_enter Try.func3, Try.ntmps3
  go_wp2_with fail
  refine (shown_any w).mono ?_
  rintro e w1 ⟨rfl, b1⟩
  have B1 : Hid (Below w.heap.size w w1) := b1
  clear b1
  go_wp2_with fail
  refine (Q1.out w1).mono ?_
  rintro e w2 ⟨rfl, b2⟩
  have B2 : Hid (Below w.heap.size w w2) := B1.out.trans (b2.mono B1.out.size)
  clear b2 B1 Q1
  go_wp2_with fail
  refine (Q2.out w2).mono ?_
  rintro e w3 ⟨rfl, b3⟩
  have B3 : Hid (Below w.heap.size w w3) := B2.out.trans (b3.mono B2.out.size)
  clear b3 B2 Q2
  by_cases h0 : n < 0
  · rcases HC.out with ⟨rfl, rfl, hz⟩ | rfl | ⟨rfl, rfl⟩
    · clear HC
      go_wp2_with fail
      go_ret
      exact ⟨rfl, B3.out⟩
    · clear HC
      go_wp2_with fail
      go_ret
      exact ⟨rfl, B3.out⟩
    · clear HC
      go_wp2_with fail
      go_ret
      exact ⟨rfl, B3.out⟩
  · obtain ⟨k, rfl⟩ := Int.eq_ofNat_of_zero_le (show 0 ≤ n by omega)
    by_cases h1 : (1000 : Int) < (k : Int)
    · rcases HC.out with ⟨rfl, rfl, hz⟩ | rfl | ⟨rfl, rfl⟩
      · clear HC
        go_wp2_with fail
        go_ret
        exact ⟨rfl, B3.out⟩
      · clear HC
        go_wp2_with fail
        go_ret
        exact ⟨rfl, B3.out⟩
      · clear HC
        go_wp2_with fail
        go_ret
        exact ⟨rfl, B3.out⟩
    · by_cases h2 : (k : Int) = 200
      · rcases HC.out with ⟨rfl, rfl, hz⟩ | rfl | ⟨rfl, rfl⟩
        · clear HC
          go_wp2_with fail
          go_ret
          exact ⟨rfl, B3.out⟩
        · clear HC
          go_wp2_with fail
          go_ret
          exact ⟨rfl, B3.out⟩
        · clear HC
          go_wp2_with fail
          go_ret
          exact ⟨rfl, B3.out⟩
      · have hmk : (Instr.makeSlice 26 (.int .i64 (k : Int)) (.int .i64 (k : Int))).run Try.prog w3 = .ok (.slice (some ⟨w3.heap.size, 0, none⟩) k k) (w3.alloc (.cells (madeCells #[.int .u8 0] k) 5)) :=
          run_make_row' 26 5 (.int .u8 0) 1 Try.underlying26 info5 rfl .i64 .i64 k (by omega) (by omega) w3
        have hcv : (convert 26 9 (.slice (some ⟨w3.heap.size, 0, none⟩) k k)).run Try.prog (w3.alloc (.cells (madeCells #[.int .u8 0] k) 5)) = .ok (.string (strOfNums (upto (fun _ => 0) k))) (w3.alloc (.cells (madeCells #[.int .u8 0] k) 5)) := by
          refine run_convert_bytes_arg _ 26 5 Try.underlying26 Try.underlying5 w3.heap.size 0 k k _ (by rw [upto_length]) (fun i hi => ?_) 9 Try.underlying9
          rw [Nat.zero_add, cell_of_row _ _ _ _ _ _ (heap_alloc_new w3 _), upto_get _ _ _ hi]
          simp [madeCells, hi, Nat.mod_one]
        have hz : (strOfNums (upto (fun _ => 0) k)).size = k := by rw [strOfNums_size, upto_length]
        obtain ⟨y, hy⟩ : ∃ y, strOfNums (upto (fun _ => 0) k) = y := ⟨_, rfl⟩
        rw [hy] at hcv hz
        have PU : Hid (UnIs y ⟨#[]⟩ 50) := by
          have h := unIs y
          have hn : isBody y = false := by unfold isBody; rw [hz, decide_eq_false (by omega)]; rfl
          rw [(un_not y hn).1, (un_not y hn).2] at h
          exact h
        obtain ⟨w4, hw4⟩ : ∃ w4, w3.alloc (.cells (madeCells #[.int .u8 0] k) 5) = w4 := ⟨_, rfl⟩
        have B4 : Hid (Below w.heap.size w w4) := by rw [← hw4]; exact B3.out.trans ((below_new w3 _).mono B3.out.size)
        rw [hw4] at hmk hcv
        clear hw4 hy hz
        have hend : ∀ w5 : World, Below w4.heap.size w4 w5 → Below w.heap.size w w5 := fun w5 b5 => B4.out.trans (b5.mono B4.out.size)
        have HEND : Hid _ := hend
        have n1 : ¬ 1000 < k := by omega
        have n2 : ¬ k = 200 := by omega
        have n3 : ((k : Int) == 200) = false := by simpa using h2
        have n4 : ¬ (k : Int) < 0 := by omega
        clear hend
        rcases HC.out with ⟨rfl, rfl, hz⟩ | rfl | ⟨rfl, rfl⟩
        · clear HC
          go_wp2_with fail
          refine (PU.out w4).mono ?_
          rintro e w5 ⟨rfl, b5⟩
          go_wp2_with fail
          go_ret
          exact ⟨rfl, HEND.out w5 b5⟩
        · clear HC
          go_wp2_with fail
          refine (PU.out w4).mono ?_
          rintro e w5 ⟨rfl, b5⟩
          go_wp2_with fail
          go_ret
          exact ⟨rfl, HEND.out w5 b5⟩
        · clear HC
          go_wp2_with fail
          refine (PU.out w4).mono ?_
          rintro e w5 ⟨rfl, b5⟩
          go_wp2_with fail
          go_ret
          exact ⟨rfl, HEND.out w5 b5⟩
theorem padSizes_walk (s t : ByteArray) (n : Int) (w : World) :
    Calls Try.prog 3 #[.string s, .string t, .int .i64 n] w fun e w' => e = .returned (.bool true) ∧ Below w.heap.size w w' := by
  refine padSizes_run s t _ _ _ _ n (padIs s) (padIs t) ?_ w
  by_cases hs : s.size ≤ 198
  · by_cases ht : t.size ≤ 198
    · refine .inl ⟨(pad_short s hs).2, (pad_short t ht).2, ?_⟩
      rw [(pad_short s hs).1, (pad_short t ht).1, body_size, body_size]
    · exact .inr (.inr ⟨(pad_short s hs).2, (pad_long t ht).2⟩)
  · exact .inr (.inl (pad_long s hs).2)
end Go.Proofs.Ytpmdonigjljllab
