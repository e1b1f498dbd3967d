import Derived.Test.YtdblhepahbienaaDoorR
import Derived.Test.YtdblhepahbienaaDoorI
namespace Go.Proofs.YtdblhepahbienaaDoor
open Go.RowKit
theorem stt_key (key : ByteArray) (c : Int) (nonce : ByteArray) (k : Nat) (h : k < 8) : stt key c nonce (4 + k) = wdAt key (4 * k) := by
  unfold stt
  rw [if_neg (by omega), if_pos (by omega), show 4 + k - 4 = k by omega]
  rfl
theorem stt_nonce (key : ByteArray) (c : Int) (nonce : ByteArray) (k : Nat) (h : k < 3) : stt key c nonce (13 + k) = wdAt nonce (4 * k) := by
  unfold stt
  rw [if_neg (by omega), if_neg (by omega), if_neg (by omega), show 13 + k - 13 = k by omega]
  rfl
theorem stt_four (key : ByteArray) (c : Int) (nonce : ByteArray) : upto (stt key c nonce) 4 = [1634760805, 857760878, 2036477234, 1797285236] := by
  have w0 : wd opn 0 = 1634760805 := by decide +kernel
  have w1 : wd opn 1 = 857760878 := by decide +kernel
  have w2 : wd opn 2 = 2036477234 := by decide +kernel
  have w3 : wd opn 3 = 1797285236 := by decide +kernel
  simp [upto, List.range_succ, stt, w0, w1, w2, w3]
set_option maxHeartbeats 1000000 in
theorem State_any (key nonce : ByteArray) (c : Int) (h1 : key.size = 32) (h2 : nonce.size = 12) (w : World) :
    Calls Tryd.prog 24 #[.string key, .int .u32 c, .string nonce] w fun e w' => ∃ v, e = .returned v ∧ w'.ownsRow w.heap.size 22 1 v 16 ((upto (stt key c nonce) 16).map (Value.int .u32)) ∧ Below w.heap.size w w' := by
  obtain ⟨i0, hi, hz0, hz1, hz2⟩ := info_parts info22
  have K1 : Hid _ := fun k hk => stt_key key c nonce k hk
  have K2 : Hid _ := fun k hk => stt_nonce key c nonce k hk
  have K3 : Hid (stt key c nonce 12 = c) := rfl
  have K0 : Hid _ := stt_four key c nonce
  have H1 : Hid _ := h1
  have H2 : Hid _ := h2
  clear h1 h2
  generalize stt key c nonce = S at *
  go_enter Tryd.func24, Tryd.ntmps24
  go_wp2
  go_loopw [7, 8] (fun v i wr => ∃ k : Nat, k ≤ 8 ∧ i = .int .i64 k ∧ wr.ownsRow w.heap.size 22 1 v (4 + k) ((upto S (4 + k)).map (Value.int .u32)) ∧ Below w.heap.size w wr) (fun _ i _ => 8 - (intOf i).toNat)
  case atStart =>
    refine ⟨0, by omega, rfl, ⟨by simp [upto_length], .inr ⟨w.heap.size, 4, _, rfl, Nat.le_refl _, heap_alloc_new w _, by omega, by unfold maxLen; omega, rfl, ?_⟩⟩, (Below.refl _ w).alloc (Nat.le_refl _) _⟩
    show _ = (upto S 4).map (Value.int .u32)
    rw [K0.out]
    rfl
  case round =>
    obtain ⟨k, hk, rfl, hown, hb⟩ := hrel
    by_cases hlt : k < 8
    · have g1 : (k : Int) < 8 := by omega
      go_wp2_with fail
      rw [show 4 * (k : Int) = ((4 * k : Nat) : Int) by omega]
      refine (word_any key (4 * k) (by rw [H1.out]; omega) (by rw [H1.out]; omega) _).mono ?_
      rintro e w1 ⟨rfl, n1, rfl⟩
      rw [← K1.out k hlt]
      have ho1 : (wr.drewN n1).ownsRow w.heap.size 22 1 u7 (4 + k) ((upto S (4 + k)).map (Value.int .u32)) := hown
      have hb1 := below_drewN hb n1
      clear hown hb
      generalize wr.drewN n1 = wx at *
      go_wp2_with (at_builtin; refine wpList_append_own _ rfl _ _ 46 rfl w.heap.size 22 i0 (.int .u32 0) 1 4 Tryd.underlying46 hi hz0 hz1 hz2 rfl (by decide) _ _ _ rfl (ho1.alloc _) ⟨wx.heap.size, 0, none⟩ 1 1 [.int .u32 (S (4 + k))] rfl rfl (cell_one_new _ _ _) ?c2 ?c3 ?c4 ?c5 ?_)
      case c2 => intro u hu; simp at hu; subst hu; rfl
      case c3 => unfold maxLen; omega
      case c4 => omega
      case c5 => have := hb1.size; simp; omega
      intro v' w2 hown' hgrow _
      have hb2 := (hb1.alloc hb1.size (.cells #[.int .u32 (S (4 + k))] 22)).grown hgrow (by have := hb1.size; simp; omega) (fun j e => (ho1.lt j e).1)
      have HO : Hid _ := hown'
      have HB : Hid _ := hb2
      clear ho1 hb1 hgrow hown' hb2
      go_wp2
      go_roundw
      case rel => exact ⟨k + 1, by omega, by go_num, by rw [show 4 + (k + 1) = 4 + k + 1 by omega, upto_succ, List.map_append]; exact HO.out, HB.out⟩
      case measure => simp [intOf]; omega
    · obtain rfl : k = 8 := by omega
      clear hk
      go_wp2_with (at_builtin; refine wpList_append_own _ rfl _ _ 46 rfl w.heap.size 22 i0 (.int .u32 0) 1 4 Tryd.underlying46 hi hz0 hz1 hz2 rfl (by decide) _ _ _ rfl (hown.alloc _) ⟨wr.heap.size, 0, none⟩ 1 1 [.int .u32 c] rfl rfl (cell_one_new _ _ _) ?d2 ?d3 ?d4 ?d5 ?_)
      case d2 => intro u hu; simp at hu; subst hu; rfl
      case d3 => unfold maxLen; omega
      case d4 => omega
      case d5 => have := hb.size; simp; omega
      intro v' w2 hown' hgrow _
      have hb2 := (hb.alloc hb.size (.cells #[.int .u32 c] 22)).grown hgrow (by have := hb.size; simp; omega) (fun j e => (hown.lt j e).1)
      have ho2 : w2.ownsRow w.heap.size 22 1 v' 13 ((upto S 13).map (Value.int .u32)) := by
        rw [upto_succ, List.map_append, K3.out]; exact hown'
      clear hown hb hgrow hown'
      go_wp2
      go_loopw [7, 9] (fun v i wr => ∃ k : Nat, k ≤ 3 ∧ i = .int .i64 k ∧ wr.ownsRow w.heap.size 22 1 v (13 + k) ((upto S (13 + k)).map (Value.int .u32)) ∧ Below w.heap.size w wr) (fun _ i _ => 3 - (intOf i).toNat)
      case atStart => exact ⟨0, by omega, rfl, ho2, hb2⟩
      case round =>
        clear ho2 hb2
        obtain ⟨k, hk, rfl, hown, hb⟩ := hrel
        by_cases hlt : k < 3
        · have g1 : (k : Int) < 3 := by omega
          go_wp2_with fail
          rw [show 4 * (k : Int) = ((4 * k : Nat) : Int) by omega]
          refine (word_any nonce (4 * k) (by rw [H2.out]; omega) (by rw [H2.out]; omega) _).mono ?_
          rintro e w1 ⟨rfl, n1, rfl⟩
          rw [← K2.out k hlt]
          have ho1 : (wr.drewN n1).ownsRow w.heap.size 22 1 _ (13 + k) ((upto S (13 + k)).map (Value.int .u32)) := hown
          have hb1 := below_drewN hb n1
          clear hown hb
          generalize wr.drewN n1 = wx at *
          go_wp2_with (at_builtin; refine wpList_append_own _ rfl _ _ 46 rfl w.heap.size 22 i0 (.int .u32 0) 1 4 Tryd.underlying46 hi hz0 hz1 hz2 rfl (by decide) _ _ _ rfl (ho1.alloc _) ⟨wx.heap.size, 0, none⟩ 1 1 [.int .u32 (S (13 + k))] rfl rfl (cell_one_new _ _ _) ?e2 ?e3 ?e4 ?e5 ?_)
          case e2 => intro u hu; simp at hu; subst hu; rfl
          case e3 => unfold maxLen; omega
          case e4 => omega
          case e5 => have := hb1.size; simp; omega
          intro v3 w3 hown3 hgrow3 _
          have hb3 := (hb1.alloc hb1.size (.cells #[.int .u32 (S (13 + k))] 22)).grown hgrow3 (by have := hb1.size; simp; omega) (fun j e => (ho1.lt j e).1)
          have HO : Hid _ := hown3
          have HB : Hid _ := hb3
          clear ho1 hb1 hgrow3 hown3 hb3
          go_wp2
          go_roundw
          case rel => exact ⟨k + 1, by omega, by go_num, by rw [show 13 + (k + 1) = 13 + k + 1 by omega, upto_succ, List.map_append]; exact HO.out, HB.out⟩
          case measure => simp [intOf]; omega
        · obtain rfl : k = 3 := by omega
          go_wp2
          go_ret
          exact ⟨_, rfl, hown, hb⟩
end Go.Proofs.YtdblhepahbienaaDoor
