/- Plain facts: the stream's bytes are the blocks' bytes. -/
import Derived.Test.YtaoadopnhphjbaaDoorQz
import Derived.BigRegion
import Derived.Deep.RegionHeld3
import Derived.Deep.AppendLies
namespace Go.Proofs.YtaoadopnhphjbaaDoor.Ra
theorem kb_upto (g : Nat → Int) (k : Nat) : kb (upto g k) = bts g k := by
  unfold kb upto bts cat
  rw [List.flatMap_map]
theorem kb_cat (g : Nat → List Int) (C : Nat) : kb (cat g C) = cat (fun c => kb (g c)) C := by
  unfold kb cat
  rw [List.flatMap_assoc]
theorem cat_get (B : Nat → List Int) (hB : ∀ c, (B c).length = 64) (C i : Nat) (hi : i < 64 * C) : (cat B C)[i]? = (B (i / 64))[i % 64]? := by
  induction C with
  | zero => omega
  | succ C ih =>
    have hl : (cat B C).length = 64 * C := by
      clear ih hi
      induction C with
      | zero => rfl
      | succ C ih => rw [cat_succ, List.length_append, ih, hB]; omega
    rw [cat_succ]
    by_cases h : i < 64 * C
    · rw [List.getElem?_append_left (by omega), ih h]
    · rw [List.getElem?_append_right (by omega), hl, show i / 64 = C by omega, show i % 64 = i - 64 * C by omega]
theorem bts_congr_le {f g : Nat → Int} (h : ∀ i, i < 16 → f i = g i) (k : Nat) (hk : k ≤ 16) : bts f k = bts g k := by
  induction k with
  | zero => rfl
  | succ k ih => rw [bts_succ, bts_succ, ih (by omega), h k (by omega)]
theorem bts_congr {f g : Nat → Int} (h : ∀ i, i < 16 → f i = g i) : bts f 16 = bts g 16 := bts_congr_le h 16 (by omega)
theorem rnds_congr {f g : Nat → Int} (h : ∀ i, i < 16 → f i = g i) (k : Nat) : ∀ i, i < 16 → rnds f k i = rnds g k i := by
  induction k with
  | zero => exact h
  | succ k ih => exact rnd_congr ih
theorem blk_congr {f g : Nat → Int} (h : ∀ i, i < 16 → f i = g i) : ∀ i, i < 16 → blk f i = blk g i := fun i hi => by
  unfold blk; rw [rnds_congr h 10 i hi, h i hi]
theorem tx_at (key : ByteArray) (c : Int) (nonce : ByteArray) (h1 : key.size = 32) (h2 : nonce.size = 12) (i : Nat) (hi : i < 16) :
    upd (lf (cat (fun j => wds (tx key nonce j)) 4)) 12 c i = stt key c nonce i := by
  have e := congrArg (fun a : Array Value => a[i]?) (tx_stt key c nonce h1 h2)
  simp only [stc_get _ i hi] at e
  injection e with e
  injection e
theorem bts_range (g : Nat → Int) (k : Nat) (z : Int) (hz : z ∈ bts g k) : 0 ≤ z ∧ z < 256 := by
  unfold bts cat at hz
  obtain ⟨i, _, hi⟩ := List.mem_flatMap.1 hz
  simp only [b4, List.mem_cons, List.not_mem_nil, or_false] at hi
  rcases hi with rfl | rfl | rfl | rfl <;> omega
theorem bt_blkS (key : ByteArray) (c : Int) (nonce : ByteArray) (i : Nat) (hi : i < 64) : bt (blkS key c nonce) i = (bts (blk (stt key c nonce)) 16)[i]?.getD 0 := by
  have hl : i < (bts (blk (stt key c nonce)) 16).length := by rw [bts_length]; exact hi
  have hr := bts_range _ _ _ (List.getElem_mem hl)
  unfold blkS
  rw [bt_str _ i hl hr.1 hr.2, List.getElem?_eq_getElem hl]; rfl
theorem strm_byte_of (F : Nat → Int) (key nonce : ByteArray) (hF : ∀ (c : Int) i, i < 16 → upd F 12 c i = stt key c nonce i) (C i : Nat) (hi : i < 64 * C) :
    lf (kb (strm F C)) i = bt (blkS key ((i / 64 : Nat) : Int) nonce) (i % 64) := by
  unfold strm lf
  rw [kb_cat, cat_get _ (fun c => by rw [kb_upto, bts_length]) C i hi, kb_upto, bt_blkS _ _ _ _ (Nat.mod_lt _ (by decide))]
  rw [bts_congr (blk_congr (hF ((i / 64 : Nat) : Int)))]
theorem strm_byte (key nonce : ByteArray) (h1 : key.size = 32) (h2 : nonce.size = 12) (C i : Nat) (hi : i < 64 * C) :
    lf (kb (strm (lf (cat (fun j => wds (tx key nonce j)) 4)) C)) i = bt (blkS key ((i / 64 : Nat) : Int) nonce) (i % 64) :=
  strm_byte_of _ key nonce (fun c i hi => tx_at key c nonce h1 h2 i hi) C i hi
/-- A text's byte under the block that its place is in. -/
def xr (key nonce s : ByteArray) : Nat → Int := fun i => bits BinOp.xor IntKind.u8 (bt s i) (bt (blkS key ((i / 64 : Nat) : Int) nonce) (i % 64))
theorem xorS_xr (key nonce s : ByteArray) (h1 : key.size = 32) (h2 : nonce.size = 12) : xorS key nonce s = strOfNums (upto (xr key nonce s) s.size) := by
  unfold xorS
  congr 1
  refine upto_congr fun i hi => ?_
  unfold xf xr
  rw [strm_byte key nonce h1 h2 _ i (by omega)]
end Go.Proofs.YtaoadopnhphjbaaDoor.Ra
namespace Go.Proofs.YtaoadopnhphjbaaDoor.Ra
open Go.RowKit
set_option maxRecDepth 100000 in
theorem stt_key (key : ByteArray) (c : Int) (nonce : ByteArray) (k : Nat) (h : k < 8) : stt key c nonce (4 + k) = wdAt key (4 * k) := by
  unfold stt
  rw [if_neg (by omega), if_pos (by omega), show 4 + k - 4 = k by omega]
  rfl
set_option maxRecDepth 100000 in
theorem stt_nonce (key : ByteArray) (c : Int) (nonce : ByteArray) (k : Nat) (h : k < 3) : stt key c nonce (13 + k) = wdAt nonce (4 * k) := by
  unfold stt
  rw [if_neg (by omega), if_neg (by omega), if_neg (by omega), show 13 + k - 13 = k by omega]
  rfl
set_option maxRecDepth 100000 in
theorem stt_four (key : ByteArray) (c : Int) (nonce : ByteArray) : upto (stt key c nonce) 4 = [1634760805, 857760878, 2036477234, 1797285236] := by
  have w0 : wd opn 0 = 1634760805 := by decide +kernel
  have w1 : wd opn 1 = 857760878 := by decide +kernel
  have w2 : wd opn 2 = 2036477234 := by decide +kernel
  have w3 : wd opn 3 = 1797285236 := by decide +kernel
  simp [upto, List.range_succ, stt, w0, w1, w2, w3]
set_option maxRecDepth 100000 in
set_option maxHeartbeats 1000000 in
theorem State_any (key nonce : ByteArray) (c : Int) (h1 : key.size = 32) (h2 : nonce.size = 12) (w : World) :
    Calls Tryd.prog 72 #[.string key, .int .u32 c, .string nonce] w fun e w' => ∃ v, e = .returned v ∧ w'.ownsRow w.heap.size 22 1 v 16 ((upto (stt key c nonce) 16).map (Value.int .u32)) ∧ Below w.heap.size w w' := by
  obtain ⟨i0, hi, hz0, hz1, hz2⟩ := info_parts info22
  have K1 : Hid _ := fun k hk => stt_key key c nonce k hk
  have K2 : Hid _ := fun k hk => stt_nonce key c nonce k hk
  have K3 : Hid (stt key c nonce 12 = c) := rfl
  have K0 : Hid _ := stt_four key c nonce
  have H1 : Hid _ := h1
  have H2 : Hid _ := h2
  clear h1 h2
  generalize stt key c nonce = S at *
  go_enter Tryd.func72, Tryd.ntmps72
  go_wp2
  go_loopw [7, 8] (fun v i wr => ∃ k : Nat, k ≤ 8 ∧ i = .int .i64 k ∧ wr.ownsRow w.heap.size 22 1 v (4 + k) ((upto S (4 + k)).map (Value.int .u32)) ∧ Below w.heap.size w wr) (fun _ i _ => 8 - (intOf i).toNat)
  case atStart =>
    refine ⟨0, by omega, rfl, ⟨by simp [upto_length], .inr ⟨w.heap.size, 4, _, rfl, Nat.le_refl _, heap_alloc_new w _, by omega, by unfold maxLen; omega, rfl, ?_⟩⟩, (Below.refl _ w).alloc (Nat.le_refl _) _⟩
    show _ = (upto S 4).map (Value.int .u32)
    rw [K0.out]
    rfl
  case round =>
    obtain ⟨k, hk, rfl, hown, hb⟩ := hrel
    by_cases hlt : k < 8
    · have g1 : (k : Int) < 8 := by omega
      go_wp2_with fail
      rw [show 4 * (k : Int) = ((4 * k : Nat) : Int) by omega]
      refine (word_any key (4 * k) (by rw [H1.out]; omega) (by rw [H1.out]; omega) _).mono ?_
      rintro e w1 ⟨rfl, n1, rfl⟩
      rw [← K1.out k hlt]
      have ho1 : (wr.drewN n1).ownsRow w.heap.size 22 1 u7 (4 + k) ((upto S (4 + k)).map (Value.int .u32)) := hown
      have hb1 := below_drewN hb n1
      clear hown hb
      generalize wr.drewN n1 = wx at *
      go_wp2_with (at_builtin; refine wpList_append_own _ rfl _ _ 98 rfl w.heap.size 22 i0 (.int .u32 0) 1 4 Tryd.underlying98 hi hz0 hz1 hz2 rfl (by decide) _ _ _ rfl (ho1.alloc _) ⟨wx.heap.size, 0, none⟩ 1 1 [.int .u32 (S (4 + k))] rfl rfl (cell_one_new _ _ _) ?c2 ?c3 ?c4 ?c5 ?_)
      case c2 => intro u hu; simp at hu; subst hu; rfl
      case c3 => unfold maxLen; omega
      case c4 => omega
      case c5 => have := hb1.size; simp; omega
      intro v' w2 hown' hgrow _
      have hb2 := (hb1.alloc hb1.size (.cells #[.int .u32 (S (4 + k))] 22)).grown hgrow (by have := hb1.size; simp; omega) (fun j e => (ho1.lt j e).1)
      have HO : Hid _ := hown'
      have HB : Hid _ := hb2
      clear ho1 hb1 hgrow hown' hb2
      go_wp2
      go_roundw
      case rel => exact ⟨k + 1, by omega, by go_num, by rw [show 4 + (k + 1) = 4 + k + 1 by omega, upto_succ, List.map_append]; exact HO.out, HB.out⟩
      case measure => simp [intOf]; omega
    · obtain rfl : k = 8 := by omega
      clear hk
      go_wp2_with (at_builtin; refine wpList_append_own _ rfl _ _ 98 rfl w.heap.size 22 i0 (.int .u32 0) 1 4 Tryd.underlying98 hi hz0 hz1 hz2 rfl (by decide) _ _ _ rfl (hown.alloc _) ⟨wr.heap.size, 0, none⟩ 1 1 [.int .u32 c] rfl rfl (cell_one_new _ _ _) ?d2 ?d3 ?d4 ?d5 ?_)
      case d2 => intro u hu; simp at hu; subst hu; rfl
      case d3 => unfold maxLen; omega
      case d4 => omega
      case d5 => have := hb.size; simp; omega
      intro v' w2 hown' hgrow _
      have hb2 := (hb.alloc hb.size (.cells #[.int .u32 c] 22)).grown hgrow (by have := hb.size; simp; omega) (fun j e => (hown.lt j e).1)
      have ho2 : w2.ownsRow w.heap.size 22 1 v' 13 ((upto S 13).map (Value.int .u32)) := by
        rw [upto_succ, List.map_append, K3.out]; exact hown'
      clear hown hb hgrow hown'
      go_wp2
      go_loopw [7, 9] (fun v i wr => ∃ k : Nat, k ≤ 3 ∧ i = .int .i64 k ∧ wr.ownsRow w.heap.size 22 1 v (13 + k) ((upto S (13 + k)).map (Value.int .u32)) ∧ Below w.heap.size w wr) (fun _ i _ => 3 - (intOf i).toNat)
      case atStart => exact ⟨0, by omega, rfl, ho2, hb2⟩
      case round =>
        clear ho2 hb2
        obtain ⟨k, hk, rfl, hown, hb⟩ := hrel
        by_cases hlt : k < 3
        · have g1 : (k : Int) < 3 := by omega
          go_wp2_with fail
          rw [show 4 * (k : Int) = ((4 * k : Nat) : Int) by omega]
          refine (word_any nonce (4 * k) (by rw [H2.out]; omega) (by rw [H2.out]; omega) _).mono ?_
          rintro e w1 ⟨rfl, n1, rfl⟩
          rw [← K2.out k hlt]
          have ho1 : (wr.drewN n1).ownsRow w.heap.size 22 1 _ (13 + k) ((upto S (13 + k)).map (Value.int .u32)) := hown
          have hb1 := below_drewN hb n1
          clear hown hb
          generalize wr.drewN n1 = wx at *
          go_wp2_with (at_builtin; refine wpList_append_own _ rfl _ _ 98 rfl w.heap.size 22 i0 (.int .u32 0) 1 4 Tryd.underlying98 hi hz0 hz1 hz2 rfl (by decide) _ _ _ rfl (ho1.alloc _) ⟨wx.heap.size, 0, none⟩ 1 1 [.int .u32 (S (13 + k))] rfl rfl (cell_one_new _ _ _) ?e2 ?e3 ?e4 ?e5 ?_)
          case e2 => intro u hu; simp at hu; subst hu; rfl
          case e3 => unfold maxLen; omega
          case e4 => omega
          case e5 => have := hb1.size; simp; omega
          intro v3 w3 hown3 hgrow3 _
          have hb3 := (hb1.alloc hb1.size (.cells #[.int .u32 (S (13 + k))] 22)).grown hgrow3 (by have := hb1.size; simp; omega) (fun j e => (ho1.lt j e).1)
          have HO : Hid _ := hown3
          have HB : Hid _ := hb3
          clear ho1 hb1 hgrow3 hown3 hb3
          go_wp2
          go_roundw
          case rel => exact ⟨k + 1, by omega, by go_num, by rw [show 13 + (k + 1) = 13 + k + 1 by omega, upto_succ, List.map_append]; exact HO.out, HB.out⟩
          case measure => simp [intOf]; omega
        · obtain rfl : k = 3 := by omega
          go_wp2
          go_ret
          exact ⟨_, rfl, hown, hb⟩
end Go.Proofs.YtaoadopnhphjbaaDoor.Ra
namespace Go.Proofs.YtaoadopnhphjbaaDoor.Ra
open Go.RowKit
set_option maxRecDepth 100000 in
theorem refat0 (g cap : Nat) (f : Nat → Int) (w : World) (h : RowS w g cap f) : Calls Tryd.prog 73 #[.slice (some ⟨g, 0, none⟩) 16 cap, .int .i64 0, .int .i64 4, .int .i64 8, .int .i64 12] w fun e w' => e = .returned (.tuple #[]) ∧ RowS w' g cap (qt f 0 4 8 12) ∧ w.grownBy w' (some g) :=
  refat_any g cap f 0 4 8 12 (by decide) (by decide) (by decide) (by decide) (by decide) (by decide) (by decide) (by decide) (by decide) (by decide) w h
set_option maxRecDepth 100000 in
theorem refat1 (g cap : Nat) (f : Nat → Int) (w : World) (h : RowS w g cap f) : Calls Tryd.prog 73 #[.slice (some ⟨g, 0, none⟩) 16 cap, .int .i64 1, .int .i64 5, .int .i64 9, .int .i64 13] w fun e w' => e = .returned (.tuple #[]) ∧ RowS w' g cap (qt f 1 5 9 13) ∧ w.grownBy w' (some g) :=
  refat_any g cap f 1 5 9 13 (by decide) (by decide) (by decide) (by decide) (by decide) (by decide) (by decide) (by decide) (by decide) (by decide) w h
set_option maxRecDepth 100000 in
theorem refat2 (g cap : Nat) (f : Nat → Int) (w : World) (h : RowS w g cap f) : Calls Tryd.prog 73 #[.slice (some ⟨g, 0, none⟩) 16 cap, .int .i64 2, .int .i64 6, .int .i64 10, .int .i64 14] w fun e w' => e = .returned (.tuple #[]) ∧ RowS w' g cap (qt f 2 6 10 14) ∧ w.grownBy w' (some g) :=
  refat_any g cap f 2 6 10 14 (by decide) (by decide) (by decide) (by decide) (by decide) (by decide) (by decide) (by decide) (by decide) (by decide) w h
set_option maxRecDepth 100000 in
theorem refat3 (g cap : Nat) (f : Nat → Int) (w : World) (h : RowS w g cap f) : Calls Tryd.prog 73 #[.slice (some ⟨g, 0, none⟩) 16 cap, .int .i64 3, .int .i64 7, .int .i64 11, .int .i64 15] w fun e w' => e = .returned (.tuple #[]) ∧ RowS w' g cap (qt f 3 7 11 15) ∧ w.grownBy w' (some g) :=
  refat_any g cap f 3 7 11 15 (by decide) (by decide) (by decide) (by decide) (by decide) (by decide) (by decide) (by decide) (by decide) (by decide) w h
set_option maxRecDepth 100000 in
theorem refat4 (g cap : Nat) (f : Nat → Int) (w : World) (h : RowS w g cap f) : Calls Tryd.prog 73 #[.slice (some ⟨g, 0, none⟩) 16 cap, .int .i64 0, .int .i64 5, .int .i64 10, .int .i64 15] w fun e w' => e = .returned (.tuple #[]) ∧ RowS w' g cap (qt f 0 5 10 15) ∧ w.grownBy w' (some g) :=
  refat_any g cap f 0 5 10 15 (by decide) (by decide) (by decide) (by decide) (by decide) (by decide) (by decide) (by decide) (by decide) (by decide) w h
set_option maxRecDepth 100000 in
theorem refat5 (g cap : Nat) (f : Nat → Int) (w : World) (h : RowS w g cap f) : Calls Tryd.prog 73 #[.slice (some ⟨g, 0, none⟩) 16 cap, .int .i64 1, .int .i64 6, .int .i64 11, .int .i64 12] w fun e w' => e = .returned (.tuple #[]) ∧ RowS w' g cap (qt f 1 6 11 12) ∧ w.grownBy w' (some g) :=
  refat_any g cap f 1 6 11 12 (by decide) (by decide) (by decide) (by decide) (by decide) (by decide) (by decide) (by decide) (by decide) (by decide) w h
set_option maxRecDepth 100000 in
theorem refat6 (g cap : Nat) (f : Nat → Int) (w : World) (h : RowS w g cap f) : Calls Tryd.prog 73 #[.slice (some ⟨g, 0, none⟩) 16 cap, .int .i64 2, .int .i64 7, .int .i64 8, .int .i64 13] w fun e w' => e = .returned (.tuple #[]) ∧ RowS w' g cap (qt f 2 7 8 13) ∧ w.grownBy w' (some g) :=
  refat_any g cap f 2 7 8 13 (by decide) (by decide) (by decide) (by decide) (by decide) (by decide) (by decide) (by decide) (by decide) (by decide) w h
set_option maxRecDepth 100000 in
theorem refat7 (g cap : Nat) (f : Nat → Int) (w : World) (h : RowS w g cap f) : Calls Tryd.prog 73 #[.slice (some ⟨g, 0, none⟩) 16 cap, .int .i64 3, .int .i64 4, .int .i64 9, .int .i64 14] w fun e w' => e = .returned (.tuple #[]) ∧ RowS w' g cap (qt f 3 4 9 14) ∧ w.grownBy w' (some g) :=
  refat_any g cap f 3 4 9 14 (by decide) (by decide) (by decide) (by decide) (by decide) (by decide) (by decide) (by decide) (by decide) (by decide) w h
set_option maxRecDepth 100000 in
theorem rowS_of {w : World} {base : Nat} {v : Value} {f : Nat → Int} (h : w.ownsRow base 22 1 v 16 ((upto f 16).map (Value.int .u32))) :
    ∃ g cap, v = .slice (some ⟨g, 0, none⟩) 16 cap ∧ base ≤ g ∧ cap ≤ maxLen ∧ RowS w g cap f := by
  obtain ⟨_, h⟩ := h
  rcases h with ⟨_, h⟩ | ⟨g, cap, cur, hv, hg, hh, hn, hc, hs, ht⟩
  · cases h
  · refine ⟨g, cap, hv, hg, hc, cur, hh, by omega, hn, fun i hi => ?_⟩
    have h1 : (cur.toList.take (16 * 1))[i]? = ((upto f 16).map (Value.int .u32))[i]? := by rw [ht]
    rw [List.getElem?_take, if_pos (by omega), Array.getElem?_toList] at h1
    rw [h1]
    simp [upto, hi]
set_option maxRecDepth 100000 in
set_option maxHeartbeats 400000 in
theorem rBlock_no (key nonce : ByteArray) (c : Int) (w : World) (h : ¬ (key.size = 32 ∧ nonce.size = 12)) :
    Calls Tryd.prog 56 #[.string key, .int .u32 c, .string nonce] w fun e w' => e = .returned (.tuple #[.string ByteArray.empty, .int .i64 2]) ∧ w' = w := by
  by_cases h1 : key.size = 32
  · have g1 : ((key.size : Int) != 32) = false := by simp [h1]
    have g2 : ((nonce.size : Int) != 12) = true := by simp; omega
    clear h h1
    go_enter Tryd.func56, Tryd.ntmps56
    go_wp2
    go_ret2
    exact ⟨rfl, rfl⟩
  · have g1 : ((key.size : Int) != 32) = true := by simp; omega
    clear h h1
    go_enter Tryd.func56, Tryd.ntmps56
    go_wp2
    go_ret2
    exact ⟨rfl, rfl⟩
set_option maxRecDepth 100000 in
set_option maxHeartbeats 2000000 in
theorem rBlock_yes (key nonce : ByteArray) (c : Int) (w : World) (h1 : key.size = 32) (h2 : nonce.size = 12) :
    Calls Tryd.prog 56 #[.string key, .int .u32 c, .string nonce] w fun e w' => e = .returned (.tuple #[.string (blkS key c nonce), .int .i64 0]) ∧ Below w.heap.size w w' := by
  have g1 : ((key.size : Int) != 32) = false := by simp [h1]
  have g2 : ((nonce.size : Int) != 12) = false := by simp [h2]
  have H1 : Hid _ := h1
  have H2 : Hid _ := h2
  clear h1 h2
  obtain ⟨i0, hi, hz0, hz1, hz2⟩ := info_parts info22
  obtain ⟨j0, hj, hy0, hy1, hy2⟩ := info_parts info5
  go_enter Tryd.func56, Tryd.ntmps56
  go_wp2_with fail
  refine (State_any key nonce c H1.out H2.out _).mono ?_
  rintro e w1 ⟨v, rfl, hown, hb1⟩
  have HB : Hid (blkS key c nonce = strOfNums (bts (blk (stt key c nonce)) 16)) := rfl
  generalize stt key c nonce = S at *
  obtain ⟨g, cap, rfl, hg, hcap, hrow⟩ := rowS_of hown
  have hglt := hrow.lt
  have hcells : ∀ j u, ((upto S 16).map (Value.int .u32))[j]? = some u → w1.cell? ⟨g, j, none⟩ = some u := fun j u hj => by
    have hj16 : j < 16 := by
      rcases Nat.lt_or_ge j 16 with h | h
      · exact h
      · rw [List.getElem?_eq_none (by simp [upto_length]; omega)] at hj; cases hj
    rw [(hrow.cell j hj16).1]
    simpa [upto, List.getElem?_map, List.getElem?_range, hj16] using hj
  clear hown
  go_wp2_with (first
    | (at_make; refine wpList_make_own _ rfl _ _ 98 rfl w1.heap.size 22 i0 (.int .u32 0) 1 Tryd.underlying98 hi hz0 hz1 .i64 .i64 16 16 rfl rfl rfl (by rw [hz2]; decide) (by unfold maxLen; decide) (Nat.le_refl _) ?_; intro w2 hown2 hgrow2)
    | (at_builtin; refine wpList_append_own _ rfl _ _ 98 rfl w1.heap.size 22 i0 (.int .u32 0) 1 4 Tryd.underlying98 hi hz0 hz1 hz2 rfl (by decide) _ _ _ rfl hown2 ⟨g, 0, none⟩ 16 cap ((upto S 16).map (Value.int .u32)) rfl ?c0 ?c1 ?c2 ?c3 ?c4 ?c5 ?_))
  case c0 => simp [upto_length]
  case c1 =>
    intro j u hj
    rw [Addr.add_lit, Nat.zero_add]
    exact hgrow2.cell (hcells j u hj) (by simp)
  case c2 =>
    intro u hu
    obtain ⟨z, _, rfl⟩ := List.mem_map.1 hu
    rfl
  case c3 => unfold maxLen; omega
  case c4 => omega
  case c5 => exact hgrow2.size
  intro v' w3 hown3 hgrow3 _
  have hb2 : Below w.heap.size w w2 := hb1.grown hgrow2 hb1.size (fun k e => by cases e)
  have hb3 : Below w.heap.size w w3 := hb2.grown hgrow3 hb2.size (fun k e => by cases e; exact hb1.size)
  have hr3 : RowS w3 g cap S := (hrow.same (hgrow2.block g hglt (by simp))).same (hgrow3.block g (Nat.lt_of_lt_of_le hglt hgrow2.size) (by intro e; simp [Value.ownBlock] at e; omega))
  obtain ⟨g2, cap2, rfl, hg2, hcap2, hrow2⟩ := rowS_of (f := S) (by simpa using hown3)
  have hne : g ≠ g2 := by omega
  clear hb1 hrow hcells hown2 hgrow2 hown3 hgrow3 hb2
  go_wp2
  go_loopw [10] (fun i wr => ∃ k : Nat, k ≤ 10 ∧ i = .int .i64 k ∧ RowS wr g2 cap2 (rnds S k) ∧ RowS wr g cap S ∧ Below w.heap.size w wr) (fun i _ => 10 - (intOf i).toNat)
  case atStart => exact ⟨0, by omega, rfl, hrow2, hr3, hb3⟩
  case round =>
    clear hrow2 hr3 hb3
    obtain ⟨k, hk, rfl, hr2, hr, hb⟩ := hrel
    have HR : Hid (RowS wr g2 cap2 (rnds S k)) := hr2
    have HW : Hid (RowS wr g cap S) := hr
    have HL : Hid _ := hb
    clear hr2 hr hb
    by_cases hlt : k < 10
    · go_wp2_with fail
      refine (refat0 g2 cap2 _ _ HR.out).mono ?_
      rintro e x1 ⟨rfl, r1, gb1⟩
      have G1 : Hid _ := gb_trans (gb_refl _ _) gb1
      clear gb1
      have R1 : Hid _ := r1
      clear r1
      go_wp2_with fail
      refine (refat1 g2 cap2 _ _ R1.out).mono ?_
      rintro e x2 ⟨rfl, r2, gb2⟩
      have G2 : Hid _ := gb_trans G1.out gb2
      clear gb2
      have R2 : Hid _ := r2
      clear r2
      go_wp2_with fail
      refine (refat2 g2 cap2 _ _ R2.out).mono ?_
      rintro e x3 ⟨rfl, r3, gb3⟩
      have G3 : Hid _ := gb_trans G2.out gb3
      clear gb3
      have R3 : Hid _ := r3
      clear r3
      go_wp2_with fail
      refine (refat3 g2 cap2 _ _ R3.out).mono ?_
      rintro e x4 ⟨rfl, r4, gb4⟩
      have G4 : Hid _ := gb_trans G3.out gb4
      clear gb4
      have R4 : Hid _ := r4
      clear r4
      go_wp2_with fail
      refine (refat4 g2 cap2 _ _ R4.out).mono ?_
      rintro e x5 ⟨rfl, r5, gb5⟩
      have G5 : Hid _ := gb_trans G4.out gb5
      clear gb5
      have R5 : Hid _ := r5
      clear r5
      go_wp2_with fail
      refine (refat5 g2 cap2 _ _ R5.out).mono ?_
      rintro e x6 ⟨rfl, r6, gb6⟩
      have G6 : Hid _ := gb_trans G5.out gb6
      clear gb6
      have R6 : Hid _ := r6
      clear r6
      go_wp2_with fail
      refine (refat6 g2 cap2 _ _ R6.out).mono ?_
      rintro e x7 ⟨rfl, r7, gb7⟩
      have G7 : Hid _ := gb_trans G6.out gb7
      clear gb7
      have R7 : Hid _ := r7
      clear r7
      go_wp2_with fail
      refine (refat7 g2 cap2 _ _ R7.out).mono ?_
      rintro e x8 ⟨rfl, r8, gb8⟩
      have G8 : Hid _ := gb_trans G7.out gb8
      clear gb8
      have R8 : Hid _ := r8
      clear r8
      go_wp2
      have hgl := HW.out.lt
      exact ⟨⟨k + 1, by omega, by go_num, R8.out, HW.out.same (G8.out.block g hgl (by simp; omega)), HL.out.grown G8.out HL.out.size (fun j e => by cases e; have := HL.out.size; omega)⟩, by simp [intOf]; omega⟩
    · have e10 : k = 10 := by omega
      rw [show (k : Int) = 10 by omega]
      subst e10
      clear hk
      go_wp2
      obtain ⟨B2, hB2⟩ : ∃ B, wr.heap.size = B := ⟨_, rfl⟩
      have l1 : g < B2 := by have := HW.out.lt; omega
      have l2 : g2 < B2 := by have := HR.out.lt; omega
      have l3 : w.heap.size ≤ B2 := by have := HL.out.size; omega
      have HB2 : Hid (B2 ≤ wr.heap.size) := by rw [hB2]; exact Nat.le_refl _
      clear hB2
      go_loopw [11, 12] (fun v i wr => ∃ k : Nat, k ≤ 16 ∧ i = .int .i64 k ∧ wr.ownsRow B2 5 1 v (4 * k) ((bts (blk S) k).map (Value.int .u8)) ∧ RowS wr g2 cap2 (rnds S 10) ∧ RowS wr g cap S ∧ Below w.heap.size w wr ∧ B2 ≤ wr.heap.size) (fun _ i _ => 16 - (intOf i).toNat)
      case atStart => exact ⟨0, by omega, rfl, World.ownsRow_nil _ _ _ _, HR.out, HW.out, HL.out, HB2.out⟩
      case round =>
        clear HR HW HL HB2
        obtain ⟨k, hk, rfl, hown, hr2, hr, hb, hnb⟩ := hrel
        by_cases hlt : k < 16
        · have c2 := (hr2.cell k hlt).1
          have c1 := (hr.cell k hlt).1
          have k0 : (0 : Int) ≤ (k : Int) := by omega
          have k1 : (k : Int) < 16 := by omega
          have HR : Hid (RowS wr g2 cap2 (rnds S 10)) := hr2
          have HW : Hid (RowS wr g cap S) := hr
          have HL : Hid _ := hb
          have HO : Hid _ := hown
          have HN : Hid _ := hnb
          clear hr2 hr hb hown hnb
          generalize hX : rnds S 10 k = X at *
          have HX : Hid _ := hX
          clear hX
          generalize hY : S k = Y at *
          have HY : Hid _ := hY
          clear hY
          go_wp2
          go_quiet (fail)
          have ho : (wr.drewN nq).ownsRow B2 5 1 _ (4 * k) ((bts (blk S) k).map (Value.int .u8)) := HO.out
          have HR1 : Hid (RowS (wr.drewN nq) g2 cap2 (rnds S 10)) := HR.out.drN nq
          have HW1 : Hid (RowS (wr.drewN nq) g cap S) := HW.out.drN nq
          have hl := below_drewN HL.out nq
          have HN1 : Hid (B2 ≤ (wr.drewN nq).heap.size) := HN.out
          clear HO HR HW HL c1 c2 HN
          generalize wr.drewN nq = wx at *
          obtain ⟨x, hx⟩ : ∃ x, (X + Y) % 4294967296 = x := ⟨_, rfl⟩
          have HB4 : Hid (blk S k = x) := by
            show (rnds S 10 k + S k) % 4294967296 = x
            rw [HX.out, HY.out]; exact hx
          have HQ4 : Hid (b4 x = [x % 256, x / 256 % 256, x / 65536 % 256, x / 16777216]) := by
            show [x % 256, x / 256 % 256, x / 65536 % 256, x / 16777216 % 256] = _
            rw [show x / 16777216 % 256 = x / 16777216 by omega]
          go_wp2_with (at_builtin; refine wpList_append_own _ rfl _ _ 41 rfl B2 5 j0 (.int .u8 0) 1 1 Tryd.underlying41 hj hy0 hy1 hy2 rfl (by decide) _ _ _ rfl (ho.alloc _) ⟨wx.heap.size, 0, none⟩ 4 4 ([x % 256, x / 256 % 256, x / 65536 % 256, x / 16777216].map (Value.int .u8)) rfl rfl ?e1 ?e2 ?e3 ?e4 ?e5 ?_)
          case e1 =>
            intro j u hj
            rw [Addr.add_lit, cell_of_row _ _ _ _ _ _ (heap_alloc_new wx _), Nat.zero_add]
            simpa using hj
          case e2 => intro u hu; simp at hu; rcases hu with rfl | rfl | rfl | rfl <;> rfl
          case e3 => unfold maxLen; omega
          case e4 => omega
          case e5 => have := HN1.out; simp; omega
          intro v5 w5 hown5 hgrow5 _
          have hgw := HW1.out.lt
          have hgw2 := HR1.out.lt
          have hnb5 : B2 ≤ w5.heap.size := by have := hgrow5.size; have := HN1.out; simp at *; omega
          have hl5 := (hl.alloc hl.size (.cells #[.int .u8 (x % 256), .int .u8 (x / 256 % 256), .int .u8 (x / 65536 % 256), .int .u8 (x / 16777216)] 5)).grown hgrow5 (by have := hl.size; simp; omega) (fun j e => Nat.le_trans l3 (ho.lt j e).1)
          have HR5 : Hid (RowS w5 g2 cap2 (rnds S 10)) := (HR1.out.al _).same (hgrow5.block g2 (by simp; omega) (fun e => by have := (ho.lt g2 e.symm).1; omega))
          have HW5 : Hid (RowS w5 g cap S) := (HW1.out.al _).same (hgrow5.block g (by simp; omega) (fun e => by have := (ho.lt g e.symm).1; omega))
          have HO5 : Hid _ := hown5
          have HL5 : Hid _ := hl5
          have HN5 : Hid _ := hnb5
          clear ho hl hgrow5 hown5 hl5 hnb5 HR1 HW1 hgw hgw2 hx
          go_wp2
          go_roundw
          case rel => exact ⟨k + 1, by omega, by go_num, by rw [bts_succ, HB4.out, List.map_append, HQ4.out]; exact HO5.out, HR5.out, HW5.out, HL5.out, HN5.out⟩
          case measure => simp [intOf]; omega
        · obtain rfl : k = 16 := by omega
          have hcv := own_string hown
          clear hown hnb hr2 hr
          go_wp2
          go_ret2
          exact ⟨by rw [HB.out]; rfl, hb⟩
end Go.Proofs.YtaoadopnhphjbaaDoor.Ra
namespace Go.Proofs.YtaoadopnhphjbaaDoor.Ra
open Go.RowKit
/-- The first three thousand bytes of a text. -/
def cutS (s : ByteArray) : ByteArray := if s.size ≤ 3000 then s else s.extract 0 3000
set_option maxRecDepth 100000 in
theorem cutS_size (s : ByteArray) : (cutS s).size ≤ 3000 := by
  unfold cutS
  split
  · assumption
  · simp; omega
set_option maxRecDepth 100000 in
set_option maxHeartbeats 400000 in
theorem rXor_no (key nonce s : ByteArray) (w : World) (h : ¬ (key.size = 32 ∧ nonce.size = 12)) :
    Calls Tryd.prog 38 #[.string key, .string nonce, .string s] w fun e w' => e = .returned (.tuple #[.string ByteArray.empty, .int .i64 2]) ∧ w' = w := by
  by_cases h1 : key.size = 32
  · have g1 : ((key.size : Int) != 32) = false := by simp [h1]
    have g2 : ((nonce.size : Int) != 12) = true := by simp; omega
    clear h h1
    go_enter Tryd.func38, Tryd.ntmps38
    go_wp2
    go_ret2
    exact ⟨rfl, rfl⟩
  · have g1 : ((key.size : Int) != 32) = true := by simp; omega
    clear h h1
    go_enter Tryd.func38, Tryd.ntmps38
    go_wp2
    go_ret2
    exact ⟨rfl, rfl⟩
set_option maxRecDepth 100000 in
set_option maxHeartbeats 1000000 in
theorem rXor_yes (key nonce s : ByteArray) (w : World) (h1 : key.size = 32) (h2 : nonce.size = 12) (h : s.size ≤ 3000) :
    Calls Tryd.prog 38 #[.string key, .string nonce, .string s] w fun e w' => e = .returned (.tuple #[.string (strOfNums (upto (xr key nonce s) s.size)), .int .i64 0]) ∧ Below w.heap.size w w' := by
  have g1 : ((key.size : Int) != 32) = false := by simp [h1]
  have g2 : ((nonce.size : Int) != 12) = false := by simp [h2]
  have g3 : decide ((1048576 : Int) < (s.size : Int)) = false := by simp; omega
  have H1 : Hid (key.size = 32) := h1
  have H2 : Hid (nonce.size = 12) := h2
  have XR : Hid (∀ i, xr key nonce s i = bits BinOp.xor IntKind.u8 (bt s i) (bt (blkS key ((i / 64 : Nat) : Int) nonce) (i % 64))) := fun _ => rfl
  clear h1 h2
  obtain ⟨i0, hi, hz0, hz1, hz2⟩ := info_parts info5
  go_enter Tryd.func38, Tryd.ntmps38
  go_wp2
  go_loopw [8, 9, 10] (fun v b i wr => ∃ k : Nat, k ≤ s.size ∧ i = .int .i64 k ∧ wr.ownsRow w.heap.size 5 1 v k ((upto (xr key nonce s) k).map (Value.int .u8)) ∧ Below w.heap.size w wr ∧ (∃ bs : ByteArray, b = .string bs ∧ (k % 64 = 0 ∨ bs = blkS key ((k / 64 : Nat) : Int) nonce))) (fun _ _ i _ => s.size - (intOf i).toNat)
  case atStart => exact ⟨0, by omega, rfl, World.ownsRow_nil _ _ _ _, Below.refl _ _, _, rfl, .inl rfl⟩
  case round =>
    obtain ⟨k, hk, rfl, hown, hb, bs, rfl, hbs⟩ := hrel
    have k0 : (0 : Int) ≤ (k : Int) := by omega
    have k1 : (k : Int) ≤ 3000 := by omega
    by_cases hlt : k < s.size
    · have hkl : (k : Int) < (s.size : Int) := by omega
      have HO : Hid (wr.ownsRow w.heap.size 5 1 _ k ((upto (xr key nonce s) k).map (Value.int .u8))) := hown
      have HB : Hid (Below w.heap.size w wr) := hb
      have HBS : Hid (k % 64 = 0 ∨ bs = blkS key ((k / 64 : Nat) : Int) nonce) := hbs
      clear hown hb hbs
      by_cases h64 : k % 64 = 0
      · have hq : ((k : Int) % 64 == 0) = true := by simp; omega
        go_wp2_with fail
        have hqu : (k : Int) / 64 = ((k / 64 : Nat) : Int) := by omega
        rw [hqu]
        refine (rBlock_yes key nonce ((k / 64 : Nat) : Int) wr H1.out H2.out).mono ?_
        rintro e w1 ⟨rfl, hbl⟩
        have HO1 : Hid (w1.ownsRow w.heap.size 5 1 u8 k ((upto (xr key nonce s) k).map (Value.int .u8))) := own_below HO.out hbl
        have HB1 : Hid (Below w.heap.size w w1) := HB.out.trans (hbl.mono HB.out.size)
        clear HO HB HBS hbl hqu
        obtain ⟨bs, hbs⟩ : ∃ bs, blkS key ((k / 64 : Nat) : Int) nonce = bs := ⟨_, rfl⟩
        have hbb : bs.size = 64 := by rw [← hbs, blkS_size]
        rw [hbs]
        have HZ : Hid (bs = blkS key ((k / 64 : Nat) : Int) nonce) := hbs.symm
        clear hbs
        have m0 : (0 : Int) ≤ (k : Int) % 64 := by omega
        have m1 : (k : Int) % 64 < (bs.size : Int) := by omega
        have hm : k % 64 < bs.size := by omega
        have t0 : (k : Int).tmod 64 = ((k % 64 : Nat) : Int) := by rw [Int.tmod_eq_emod_of_nonneg k0]; omega
        have t1 : (0 : Int) ≤ ((k % 64 : Nat) : Int) := by omega
        have t2 : ((k % 64 : Nat) : Int) < (bs.size : Int) := by omega
        have hm2 : ((k : Int) % 64).toNat < bs.size := by omega
        have hm3 : ((k : Int) % 64).toNat = k % 64 := by omega
        have HY : Hid (xr key nonce s k = bits .xor .u8 (s[k].toNat : Int) (bs[((k : Int) % 64).toNat].toNat : Int)) := by
          refine (?_ : xr key nonce s k = bits .xor .u8 (s[k].toNat : Int) (bs[((k : Int) % 64).toNat].toNat : Int))
          rw [XR.out, bt_get _ _ hlt, bt_get _ _ hm2, hm3, HZ.out]
        have H64 : Hid _ := h64
        clear hbb
        go_wp2_with fail
        clear h64 hq hm3 hm
        go_region_held3 (fun _ => True) (trivial)
          ((refine step_append_lies _ (by rfl) _ _ _ (by rfl) w.heap.size 5 i0 (.int .u8 0) 1 1 Tryd.underlying41 hi hz0 hz1 hz2 rfl (by omega) u8 k ((upto (xr key nonce s) k).map (Value.int .u8)) (by rfl) ((HO1.out.alloc _).drew)
              ⟨w1.heap.size, 0, none⟩ 1 1 [_] (by rfl) (by rfl) (cell_one_new _ _ _) (by simp [Value.oneCell'])
              (by omega) (by unfold maxLen; omega) (by omega) (by have := HB1.out.size; simp; omega) (w1.heap.size + 1) (by simp) ?_; intro gg cap w2 hown1 hgrow hat hltg))
        all_goals
          have hb1 := ((HB1.out.alloc HB1.out.size (.cells #[_] 5)).drew).grown hgrow (by have := HB1.out.size; simp; omega) (fun j e => (HO1.out.lt j e).1)
          have HO2 : Hid _ := hown1
          have HB2 : Hid _ := hb1
          clear HO1 HB1 hgrow hown1 hb1
          go_wp2
          go_roundw
          case rel =>
            refine ⟨k + 1, by omega, by go_num, by rw [upto_succ, List.map_append, HY.out]; exact HO2.out, HB2.out, bs, rfl, ?_⟩
            by_cases h : (k + 1) % 64 = 0
            · exact .inl h
            · exact .inr (by rw [HZ.out, show (k + 1) / 64 = k / 64 by omega])
          case measure => simp [intOf]; omega
      · have hq : ((k : Int) % 64 == 0) = false := by simp; omega
        have hbb : bs.size = 64 := by rcases HBS.out with h | h; exact absurd h h64; rw [h, blkS_size]
        have HZ : Hid (bs = blkS key ((k / 64 : Nat) : Int) nonce) := by rcases HBS.out with h | h; exact absurd h h64; exact h
        clear HBS
        have m0 : (0 : Int) ≤ (k : Int) % 64 := by omega
        have m1 : (k : Int) % 64 < (bs.size : Int) := by omega
        have hm : k % 64 < bs.size := by omega
        have t0 : (k : Int).tmod 64 = ((k % 64 : Nat) : Int) := by rw [Int.tmod_eq_emod_of_nonneg k0]; omega
        have t1 : (0 : Int) ≤ ((k % 64 : Nat) : Int) := by omega
        have t2 : ((k % 64 : Nat) : Int) < (bs.size : Int) := by omega
        have hm2 : ((k : Int) % 64).toNat < bs.size := by omega
        have hm3 : ((k : Int) % 64).toNat = k % 64 := by omega
        have HY : Hid (xr key nonce s k = bits .xor .u8 (s[k].toNat : Int) (bs[((k : Int) % 64).toNat].toNat : Int)) := by
          refine (?_ : xr key nonce s k = bits .xor .u8 (s[k].toNat : Int) (bs[((k : Int) % 64).toNat].toNat : Int))
          rw [XR.out, bt_get _ _ hlt, bt_get _ _ hm2, hm3, HZ.out]
        have H64 : Hid _ := h64
        clear hbb
        go_wp2_with fail
        clear h64 hq hm3 hm
        go_region_held3 (fun _ => True) (trivial)
          ((refine step_append_lies _ (by rfl) _ _ _ (by rfl) w.heap.size 5 i0 (.int .u8 0) 1 1 Tryd.underlying41 hi hz0 hz1 hz2 rfl (by omega) u8 k ((upto (xr key nonce s) k).map (Value.int .u8)) (by rfl) ((HO.out.alloc _).drew)
              ⟨wr.heap.size, 0, none⟩ 1 1 [_] (by rfl) (by rfl) (cell_one_new _ _ _) (by simp [Value.oneCell'])
              (by omega) (by unfold maxLen; omega) (by omega) (by have := HB.out.size; simp; omega) (wr.heap.size + 1) (by simp) ?_; intro gg cap w1 hown1 hgrow hat hltg))
        all_goals
          have hb1 := ((HB.out.alloc HB.out.size (.cells #[_] 5)).drew).grown hgrow (by have := HB.out.size; simp; omega) (fun j e => (HO.out.lt j e).1)
          have HO2 : Hid _ := hown1
          have HB2 : Hid _ := hb1
          clear HO HB hgrow hown1 hb1
          go_wp2
          go_roundw
          case rel =>
            refine ⟨k + 1, by omega, by go_num, by rw [upto_succ, List.map_append, HY.out]; exact HO2.out, HB2.out, bs, rfl, ?_⟩
            by_cases h : (k + 1) % 64 = 0
            · exact .inl h
            · exact .inr (by rw [HZ.out, show (k + 1) / 64 = k / 64 by omega])
          case measure => simp [intOf]; omega
    · obtain rfl : k = s.size := by omega
      have hcv := own_string hown
      clear hown
      go_wp2
      go_ret2
      exact ⟨rfl, hb⟩
end Go.Proofs.YtaoadopnhphjbaaDoor.Ra
