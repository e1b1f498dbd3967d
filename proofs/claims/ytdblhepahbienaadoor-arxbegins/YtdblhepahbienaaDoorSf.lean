import Derived.Test.YtdblhepahbienaaDoorSd
import Derived.Test.YtdblhepahbienaaDoorSe
import Derived.Test.YtdblhepahbienaaDoorK
namespace Go.Proofs.YtdblhepahbienaaDoor
open Go.RowKit
theorem Xor_no (key nonce s : ByteArray) (w : World) (h : ¬ (key.size = 32 ∧ nonce.size = 12)) :
    Calls Tryd.prog 14 #[.string key, .string nonce, .string s] w fun e w' => e = .returned (.tuple #[.string ByteArray.empty, .int .i64 2]) ∧ Below w.heap.size w w' := callsIn_wide.1 (Xor_no_in key nonce s w h)
theorem Xor_long (key nonce s : ByteArray) (w : World) (h1 : key.size = 32) (h2 : nonce.size = 12) (h : 1048576 < s.size) :
    Calls Tryd.prog 14 #[.string key, .string nonce, .string s] w fun e w' => e = .returned (.tuple #[.string ByteArray.empty, .int .i64 2]) ∧ Below w.heap.size w w' := callsIn_wide.1 (Xor_long_in key nonce s w h1 h2 h)
theorem Xor_yes (key nonce s : ByteArray) (w : World) (h1 : key.size = 32) (h2 : nonce.size = 12) (h : s.size ≤ 1048576) {tt : TypeId} {fr : Nat × Nat} (hg : w.heap[0]? = some (.cells tab tt fr)) :
    Calls Tryd.prog 14 #[.string key, .string nonce, .string s] w fun e w' => e = .returned (.tuple #[.string (xorS key nonce s), .int .i64 0]) ∧ Below w.heap.size w w' := callsIn_wide.1 (Xor_yes_in key nonce s w h1 h2 h hg)
set_option maxHeartbeats 400000 in
theorem cut_any (s : ByteArray) (hs : s.size ≤ maxLen) (w : World) :
    Calls Tryd.prog 15 #[.string s] w fun e w' => ∃ c : ByteArray, e = .returned (.string c) ∧ c.size ≤ 3000 ∧ w' = w := by
  unfold maxLen at hs
  by_cases h : s.size ≤ 3000
  · have g1 : (s.size : Int) ≤ 3000 := by omega
    go_enter Tryd.func15, Tryd.ntmps15
    go_wp2
    go_ret
    exact ⟨s, rfl, h, rfl⟩
  · have g1 : (3000 : Int) < (s.size : Int) := by omega
    go_enter Tryd.func15, Tryd.ntmps15
    go_wp2
    go_ret
    exact ⟨s.extract 0 3000, rfl, by simp; omega, rfl⟩
set_option maxHeartbeats 1000000 in
theorem twice_walk (key nonce s : ByteArray) (hs : s.size ≤ maxLen) (w : World) {tt : TypeId} {fr : Nat × Nat} (hg : w.heap[0]? = some (.cells tab tt fr)) :
    Calls Tryd.prog 7 #[.string key, .string nonce, .string s] w fun e w' => e = .returned (.bool true) ∧ Below w.heap.size w w' := by
  have hw0 : 0 < w.heap.size := (Array.getElem?_eq_some_iff.1 hg).1
  have HG : Hid _ := hg
  have HS : Hid _ := hs
  clear hg hs
  by_cases h : key.size = 32 ∧ nonce.size = 12
  · have H1 : Hid (key.size = 32) := h.1
    have H2 : Hid (nonce.size = 12) := h.2
    have q1 : ((key.size : Int) == 32) = true := by simp [h.1]
    have q2 : ((nonce.size : Int) == 12) = true := by simp [h.2]
    clear h
    go_enter Tryd.func7, Tryd.ntmps7
    go_wp2_with (go_at_call 9; refine (shown_any _ HG.out).mono ?_; rintro e w1 ⟨rfl, hb1⟩)
    refine (cut_any s HS.out _).mono ?_
    rintro e w1' ⟨c, rfl, hc, rfl⟩
    have HC : Hid (c.size ≤ 3000) := hc
    clear hc
    go_wp2_with fail
    refine (Xor_yes key nonce c _ H1.out H2.out (by have := HC.out; omega) ((hb1.block 0 hw0).trans HG.out)).mono ?_
    rintro e w2 ⟨rfl, hb2⟩
    have h2 := hb1.trans (hb2.mono hb1.size)
    clear hb1 hb2
    go_wp2_with fail
    refine (Xor_yes key nonce (xorS key nonce c) _ H1.out H2.out (by rw [xorS_size]; have := HC.out; omega) ((h2.block 0 hw0).trans HG.out)).mono ?_
    rintro e w3 ⟨rfl, hb3⟩
    have h3 := h2.trans (hb3.mono h2.size)
    clear h2 hb3
    rw [xorS_twice]
    have hz : (xorS key nonce c).size = c.size := xorS_size _ _ _
    generalize xorS key nonce c = a at *
    go_wp2
    go_ret
    exact ⟨rfl, h3⟩
  · have HN : Hid (¬ (key.size = 32 ∧ nonce.size = 12)) := h
    by_cases h1 : key.size = 32
    · have q1 : ((key.size : Int) == 32) = true := by simp [h1]
      have q2 : ((nonce.size : Int) == 12) = false := by simp; omega
      clear h h1
      go_enter Tryd.func7, Tryd.ntmps7
      go_wp2_with (go_at_call 9; refine (shown_any _ HG.out).mono ?_; rintro e w1 ⟨rfl, hb1⟩)
      refine (cut_any s HS.out _).mono ?_
      rintro e w1' ⟨c, rfl, hc, rfl⟩
      clear hc
      go_wp2_with fail
      refine (Xor_no key nonce c _ HN.out).mono ?_
      rintro e w2 ⟨rfl, hb2⟩
      have h2 := hb1.trans (hb2.mono hb1.size)
      clear hb1 hb2
      go_wp2_with fail
      refine (Xor_no key nonce _ _ HN.out).mono ?_
      rintro e w3 ⟨rfl, hb3⟩
      have h3 := h2.trans (hb3.mono h2.size)
      clear h2 hb3
      go_wp2
      go_ret
      exact ⟨rfl, h3⟩
    · have q1 : ((key.size : Int) == 32) = false := by simp; omega
      clear h h1
      go_enter Tryd.func7, Tryd.ntmps7
      go_wp2_with (go_at_call 9; refine (shown_any _ HG.out).mono ?_; rintro e w1 ⟨rfl, hb1⟩)
      refine (cut_any s HS.out _).mono ?_
      rintro e w1' ⟨c, rfl, hc, rfl⟩
      clear hc
      go_wp2_with fail
      refine (Xor_no key nonce c _ HN.out).mono ?_
      rintro e w2 ⟨rfl, hb2⟩
      have h2 := hb1.trans (hb2.mono hb1.size)
      clear hb1 hb2
      go_wp2_with fail
      refine (Xor_no key nonce _ _ HN.out).mono ?_
      rintro e w3 ⟨rfl, hb3⟩
      have h3 := h2.trans (hb3.mono h2.size)
      clear h2 hb3
      go_wp2
      go_ret
      exact ⟨rfl, h3⟩
end Go.Proofs.YtdblhepahbienaaDoor
