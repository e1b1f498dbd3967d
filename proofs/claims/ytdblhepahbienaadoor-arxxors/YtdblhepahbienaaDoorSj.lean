import Derived.Test.YtdblhepahbienaaDoorSi
namespace Go.Proofs.YtdblhepahbienaaDoor
open Go.RowKit
set_option maxHeartbeats 1000000 in
theorem xors_walk (key nonce s : ByteArray) (hs : s.size ≤ maxLen) (w : World) {tt : TypeId} {fr : Nat × Nat} (hg : w.heap[0]? = some (.cells tab tt fr)) :
    Calls Tryd.prog 5 #[.string key, .string nonce, .string s] w fun e w' => e = .returned (.bool true) ∧ Below w.heap.size w w' := by
  have hw0 : 0 < w.heap.size := (Array.getElem?_eq_some_iff.1 hg).1
  have HG : Hid _ := hg
  have HS : Hid _ := hs
  have HC : Hid ((cutS s).size ≤ 3000) := cutS_size s
  clear hg hs
  by_cases h : key.size = 32 ∧ nonce.size = 12
  · have H1 : Hid (key.size = 32) := h.1
    have H2 : Hid (nonce.size = 12) := h.2
    clear h
    go_enter Tryd.func5, Tryd.ntmps5
    go_wp2_with (go_at_call 9; refine (shown_any _ HG.out).mono ?_; rintro e w1 ⟨rfl, hb1⟩)
    refine (cut_det s HS.out _).mono ?_
    rintro e w1' ⟨rfl, rfl⟩
    go_wp2_with fail
    refine (Xor_yes key nonce (cutS s) _ H1.out H2.out (by have := HC.out; omega) ((hb1.block 0 hw0).trans HG.out)).mono ?_
    rintro e w2 ⟨rfl, hb2⟩
    have h2 := hb1.trans (hb2.mono hb1.size)
    clear hb1 hb2
    go_wp2_with fail
    refine (cut_det s HS.out _).mono ?_
    rintro e w2' ⟨rfl, rfl⟩
    go_wp2_with fail
    refine (rXor_yes key nonce (cutS s) _ H1.out H2.out HC.out).mono ?_
    rintro e w3 ⟨rfl, hb3⟩
    have h3 := h2.trans (hb3.mono h2.size)
    clear h2 hb3
    rw [← xorS_xr key nonce (cutS s) H1.out H2.out]
    generalize xorS key nonce (cutS s) = a at *
    go_wp2
    go_ret
    exact ⟨rfl, h3⟩
  · have HN : Hid (¬ (key.size = 32 ∧ nonce.size = 12)) := h
    clear h
    go_enter Tryd.func5, Tryd.ntmps5
    go_wp2_with (go_at_call 9; refine (shown_any _ HG.out).mono ?_; rintro e w1 ⟨rfl, hb1⟩)
    refine (cut_det s HS.out _).mono ?_
    rintro e w1' ⟨rfl, rfl⟩
    go_wp2_with fail
    refine (Xor_no key nonce (cutS s) _ HN.out).mono ?_
    rintro e w2 ⟨rfl, hb2⟩
    have h2 := hb1.trans (hb2.mono hb1.size)
    clear hb1 hb2
    go_wp2_with fail
    refine (cut_det s HS.out _).mono ?_
    rintro e w2' ⟨rfl, rfl⟩
    go_wp2_with fail
    refine (rXor_no key nonce (cutS s) _ HN.out).mono ?_
    rintro e w3 ⟨rfl, rfl⟩
    go_wp2
    go_ret
    exact ⟨rfl, h2⟩
end Go.Proofs.YtdblhepahbienaaDoor
