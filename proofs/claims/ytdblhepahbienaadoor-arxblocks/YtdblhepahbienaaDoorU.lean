import Derived.Test.YtdblhepahbienaaDoorT
import Derived.Test.YtdblhepahbienaaDoorK
namespace Go.Proofs.YtdblhepahbienaaDoor
open Go.RowKit
set_option maxHeartbeats 1000000 in
theorem blocks_walk (key : ByteArray) (c : Int) (nonce : ByteArray) (w : World) {tt : TypeId} {fr : Nat × Nat} (hg : w.heap[0]? = some (.cells tab tt fr)) :
    Calls Tryd.prog 4 #[.string key, .int .u32 c, .string nonce] w fun e w' => e = .returned (.bool true) ∧ Below w.heap.size w w' := by
  have hw0 : 0 < w.heap.size := (Array.getElem?_eq_some_iff.1 hg).1
  have HG : Hid _ := hg
  clear hg
  by_cases h : key.size = 32 ∧ nonce.size = 12
  · have H1 : Hid _ := h.1
    have H2 : Hid _ := h.2
    clear h
    go_enter Tryd.func4, Tryd.ntmps4
    go_wp2_with (go_at_call 9; refine (shown_any _ HG.out).mono ?_; rintro e w1 ⟨rfl, hb1⟩)
    refine (Block_yes _ _ _ _ H1.out H2.out ((hb1.block 0 hw0).trans HG.out)).mono ?_
    rintro e w2 ⟨rfl, hb2⟩
    have h2 := hb1.trans (hb2.mono hb1.size)
    clear hb1 hb2
    go_wp2_with fail
    refine (rBlock_yes _ _ _ _ H1.out H2.out).mono ?_
    rintro e w3 ⟨rfl, hb3⟩
    have h3 := h2.trans (hb3.mono h2.size)
    clear h2 hb3
    generalize blkS key c nonce = bs
    go_wp2
    go_ret
    exact ⟨rfl, h3⟩
  · have HN : Hid _ := h
    clear h
    go_enter Tryd.func4, Tryd.ntmps4
    go_wp2_with (go_at_call 9; refine (shown_any _ HG.out).mono ?_; rintro e w1 ⟨rfl, hb1⟩)
    refine (Block_no _ _ _ _ HN.out).mono ?_
    rintro e w2 ⟨rfl, rfl⟩
    go_wp2_with fail
    refine (rBlock_no _ _ _ _ HN.out).mono ?_
    rintro e w3 ⟨rfl, rfl⟩
    go_wp2
    go_ret
    exact ⟨rfl, hb1⟩
end Go.Proofs.YtdblhepahbienaaDoor
