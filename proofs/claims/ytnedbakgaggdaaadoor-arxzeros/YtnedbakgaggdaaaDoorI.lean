import Derived.Test.YtnedbakgaggdaaaDoorG
import Derived.Test.YtnedbakgaggdaaaDoorH
namespace Go.Proofs.YtnedbakgaggdaaaDoor
open Go.RowKit
theorem gb_below {w w' : World} (h : Below w.heap.size w w') (r : Option Nat) : w.grownBy w' r := ⟨h.os, h.tape, h.output, h.size, fun k hk _ => h.block k hk⟩
theorem own_below {w w' : World} {base : Nat} {e : TypeId} {size : Nat} {v : Value} {n : Nat} {xs : List Value} (h : w.ownsRow base e size v n xs) (hb : Below w.heap.size w w') : w'.ownsRow base e size v n xs :=
  h.kept (gb_below hb none) (Classical.em _)
theorem below_gb {w w' : World} (h : w.grownBy w' none) : Below w.heap.size w w' := ⟨h.os, h.tape, h.output, h.size, fun k hk => h.block k hk (by simp)⟩
/-- A word's four bytes, the least first. -/
def b4 (x : Int) : List Int := [x % 256, x / 256 % 256, x / 65536 % 256, x / 16777216 % 256]
/-- The bytes of k words. -/
def bts (g : Nat → Int) (k : Nat) : List Int := cat (fun i => b4 (g i)) k
theorem bts_succ (g : Nat → Int) (k : Nat) : bts g (k + 1) = bts g k ++ b4 (g k) := cat_succ _ _
/-- The block of a key, a counter and a nonce. -/
def blkS (key : ByteArray) (c : Int) (nonce : ByteArray) : ByteArray := strOfNums (bts (blk (stt key c nonce)) 16)
set_option maxHeartbeats 400000 in
theorem Block_no (key nonce : ByteArray) (c : Int) (w : World) (h : ¬ (key.size = 32 ∧ nonce.size = 12)) :
    Calls Tryd.prog 12 #[.string key, .int .u32 c, .string nonce] w fun e w' => e = .returned (.tuple #[.string ByteArray.empty, .int .i64 2]) ∧ w' = w := by
  go_enter Tryd.func12, Tryd.ntmps12
  go_wp2_with (go_at_call 20; refine (fit_no _ _ _ h).mono ?_; rintro e w' ⟨rfl, rfl⟩)
  go_ret2
  exact ⟨rfl, rfl⟩
set_option maxHeartbeats 1000000 in
theorem Block_yes (key nonce : ByteArray) (c : Int) (w : World) (h1 : key.size = 32) (h2 : nonce.size = 12) {tt : TypeId} {fr : Nat × Nat} (hg : w.heap[0]? = some (.cells tab tt fr)) :
    Calls Tryd.prog 12 #[.string key, .int .u32 c, .string nonce] w fun e w' => e = .returned (.tuple #[.string (blkS key c nonce), .int .i64 0]) ∧ Below w.heap.size w w' := by
  have hw0 : 0 < w.heap.size := (Array.getElem?_eq_some_iff.1 hg).1
  have H1 : Hid _ := h1
  have H2 : Hid _ := h2
  have HG : Hid _ := hg
  clear h1 h2 hg
  obtain ⟨i0, hi, hz0, hz1, hz2⟩ := info_parts info5
  go_enter Tryd.func12, Tryd.ntmps12
  go_wp2_with (first
    | (go_at_call 20; refine (fit_yes _ _ _ H1.out H2.out).mono ?_; rintro e w' ⟨rfl, h⟩; have h' := h.symm; clear h; subst h')
    | (at_make; refine wpList_make_own _ rfl _ _ 34 rfl w.heap.size 5 i0 (.int .u8 0) 1 Tryd.underlying34 hi hz0 hz1 .i64 .i64 64 64 rfl rfl rfl (by rw [hz2]; decide) (by unfold maxLen; decide) (by simp) ?_; intro w1 hown hgrow))
  refine (begin_any key nonce H1.out H2.out _).mono ?_
  rintro e w2 ⟨rfl, hb2⟩
  go_wp2_with fail
  refine (at_any _ _ _).mono ?_
  rintro e w3 ⟨rfl, hw3⟩
  rw [tx_stt key c nonce H1.out H2.out] at hw3 ⊢
  have hb3 : Below w2.heap.size w2 w3 := by rw [hw3]; exact ((Below.refl _ w2).alloc (Nat.le_refl _) _).alloc (by simp) _
  have hb1 := below_gb hgrow
  have h03 : Below w.heap.size w w3 := hb1.trans ((hb2.mono hb1.size).trans (hb3.mono (Nat.le_trans hb1.size hb2.size)))
  have ho3 := own_below (own_below hown hb2) hb3
  clear hown hgrow hb2 hw3 hb3 hb1
  go_wp2_with fail
  refine (block_any _ _ ((h03.block 0 hw0).trans HG.out)).mono ?_
  rintro e w4 ⟨rfl, hb4⟩
  have h04 := h03.trans (hb4.mono h03.size)
  have ho4 := own_below ho3 hb4
  clear h03 ho3 hb4
  generalize hGf : blk (stt key c nonce) = G
  have HGf : Hid _ := hGf
  clear hGf
  go_wp2
  go_loopw [8, 22] (fun v i wr => ∃ k : Nat, k ≤ 16 ∧ i = .int .i64 k ∧ wr.ownsRow w.heap.size 5 1 v (4 * k) ((bts G k).map (Value.int .u8)) ∧ Below w.heap.size w wr) (fun _ i _ => 16 - (intOf i).toNat)
  case atStart => exact ⟨0, by omega, rfl, ho4, h04⟩
  case round =>
    clear ho4 h04
    obtain ⟨k, hk, rfl, hown, hb⟩ := hrel
    by_cases hlt : k < 16
    · have hix := idx_k G k hlt
      have g0 : (0 : Int) ≤ (k : Int) := by omega
      have g1 : (k : Int) < 16 := by omega
      generalize hx : G k = x at *
      have HX : Hid _ := hx
      clear hx
      go_wp2_with (at_builtin; refine wpList_append_own _ rfl _ _ 34 rfl w.heap.size 5 i0 (.int .u8 0) 1 1 Tryd.underlying34 hi hz0 hz1 hz2 rfl (by decide) _ _ _ rfl (hown.alloc _) ⟨wr.heap.size, 0, none⟩ 4 4 ((b4 x).map (Value.int .u8)) rfl rfl ?c1 ?c2 ?c3 ?c4 ?c5 ?_)
      case c1 =>
        intro j u hj
        rw [Addr.add_lit, cell_of_row _ _ _ _ _ _ (heap_alloc_new wr _), Nat.zero_add]
        simpa [b4] using hj
      case c2 => intro u hu; simp [b4] at hu; rcases hu with rfl | rfl | rfl | rfl <;> rfl
      case c3 => unfold maxLen; omega
      case c4 => omega
      case c5 => have := hb.size; simp; omega
      intro v' w5 hown' hgrow _
      have hb1 := (hb.alloc hb.size (.cells #[.int .u8 (x % 256), .int .u8 (x / 256 % 256), .int .u8 (x / 65536 % 256), .int .u8 (x / 16777216 % 256)] 5)).grown hgrow (by have := hb.size; simp; omega) (fun j e => (hown.lt j e).1)
      have HO : Hid _ := hown'
      have HB : Hid _ := hb1
      clear hown hb hgrow hown' hb1
      go_wp2
      go_roundw
      case rel => exact ⟨k + 1, by omega, by go_num, by rw [bts_succ, HX.out, List.map_append]; exact HO.out, HB.out⟩
      case measure => simp [intOf]; omega
    · obtain rfl : k = 16 := by omega
      have hcv := own_string hown
      clear hown
      go_wp2
      go_ret2
      refine ⟨?_, hb⟩
      unfold blkS
      rw [HGf.out]
      rfl
end Go.Proofs.YtnedbakgaggdaaaDoor
