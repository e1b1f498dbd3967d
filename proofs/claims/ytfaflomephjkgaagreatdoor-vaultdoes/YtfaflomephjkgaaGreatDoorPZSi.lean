import Derived.Test.YtfaflomephjkgaaGreatDoorQZI
import Derived.Test.YtfaflomephjkgaaGreatDoorPZT
import Derived.BigRegion
import Derived.Deep.RegionHeld3
import Derived.Deep.AppendLies
set_option maxRecDepth 100000
namespace Go.Proofs.YtfaflomephjkgaaGreatDoor.Ra
open Go.RowKit
set_option maxRecDepth 100000 in
set_option maxHeartbeats 1000000 in
theorem rXor_yes (key nonce s : ByteArray) (w : World) (h1 : key.size = 32) (h2 : nonce.size = 12) (h : s.size ≤ 3000) :
    Calls Tryz.prog 109 #[.string key, .string nonce, .string s] w fun e w' => e = .returned (.tuple #[.string (strOfNums (upto (xr key nonce s) s.size)), .int .i64 0]) ∧ Below w.heap.size w w' := by
  have g1 : ((key.size : Int) != 32) = false := by simp [h1]
  have g2 : ((nonce.size : Int) != 12) = false := by simp [h2]
  have g3 : decide ((1048576 : Int) < (s.size : Int)) = false := by simp; omega
  have H1 : Hid (key.size = 32) := h1
  have H2 : Hid (nonce.size = 12) := h2
  have XR : Hid (∀ i, xr key nonce s i = bits BinOp.xor IntKind.u8 (bt s i) (bt (blkS key ((i / 64 : Nat) : Int) nonce) (i % 64))) := fun _ => rfl
  clear h1 h2
  obtain ⟨i0, hi, hz0, hz1, hz2⟩ := info_parts info5
  go_enter Tryz.func109, Tryz.ntmps109
  go_wp2
  go_loopw [8, 9, 10] (fun v b i wr => ∃ k : Nat, k ≤ s.size ∧ i = .int .i64 k ∧ wr.ownsRow w.heap.size 5 1 v k ((upto (xr key nonce s) k).map (Value.int .u8)) ∧ Below w.heap.size w wr ∧ (∃ bs : ByteArray, b = .string bs ∧ (k % 64 = 0 ∨ bs = blkS key ((k / 64 : Nat) : Int) nonce))) (fun _ _ i _ => s.size - (intOf i).toNat)
  case atStart => exact ⟨0, by omega, rfl, World.ownsRow_nil _ _ _ _, Below.refl _ _, _, rfl, .inl rfl⟩
  case round =>
    obtain ⟨k, hk, rfl, hown, hb, bs, rfl, hbs⟩ := hrel
    have k0 : (0 : Int) ≤ (k : Int) := by omega
    have k1 : (k : Int) ≤ 3000 := by omega
    by_cases hlt : k < s.size
    · have hkl : (k : Int) < (s.size : Int) := by omega
      have HO : Hid (wr.ownsRow w.heap.size 5 1 _ k ((upto (xr key nonce s) k).map (Value.int .u8))) := hown
      have HB : Hid (Below w.heap.size w wr) := hb
      have HBS : Hid (k % 64 = 0 ∨ bs = blkS key ((k / 64 : Nat) : Int) nonce) := hbs
      clear hown hb hbs
      by_cases h64 : k % 64 = 0
      · have hq : ((k : Int) % 64 == 0) = true := by simp; omega
        go_wp2_with fail
        have hqu : (k : Int) / 64 = ((k / 64 : Nat) : Int) := by omega
        rw [hqu]
        refine (rBlock_yes key nonce ((k / 64 : Nat) : Int) wr H1.out H2.out).mono ?_
        rintro e w1 ⟨rfl, hbl⟩
        have HO1 : Hid (w1.ownsRow w.heap.size 5 1 u8 k ((upto (xr key nonce s) k).map (Value.int .u8))) := own_below HO.out hbl
        have HB1 : Hid (Below w.heap.size w w1) := HB.out.trans (hbl.mono HB.out.size)
        clear HO HB HBS hbl hqu
        obtain ⟨bs, hbs⟩ : ∃ bs, blkS key ((k / 64 : Nat) : Int) nonce = bs := ⟨_, rfl⟩
        have hbb : bs.size = 64 := by rw [← hbs, blkS_size]
        rw [hbs]
        have HZ : Hid (bs = blkS key ((k / 64 : Nat) : Int) nonce) := hbs.symm
        clear hbs
        have m0 : (0 : Int) ≤ (k : Int) % 64 := by omega
        have m1 : (k : Int) % 64 < (bs.size : Int) := by omega
        have hm : k % 64 < bs.size := by omega
        have t0 : (k : Int).tmod 64 = ((k % 64 : Nat) : Int) := by rw [Int.tmod_eq_emod_of_nonneg k0]; omega
        have t1 : (0 : Int) ≤ ((k % 64 : Nat) : Int) := by omega
        have t2 : ((k % 64 : Nat) : Int) < (bs.size : Int) := by omega
        have hm2 : ((k : Int) % 64).toNat < bs.size := by omega
        have hm3 : ((k : Int) % 64).toNat = k % 64 := by omega
        have HY : Hid (xr key nonce s k = bits .xor .u8 (s[k].toNat : Int) (bs[((k : Int) % 64).toNat].toNat : Int)) := by
          refine (?_ : xr key nonce s k = bits .xor .u8 (s[k].toNat : Int) (bs[((k : Int) % 64).toNat].toNat : Int))
          rw [XR.out, bt_get _ _ hlt, bt_get _ _ hm2, hm3, HZ.out]
        have H64 : Hid _ := h64
        clear hbb
        go_wp2_with fail
        clear h64 hq hm3 hm
        go_region_held3 (fun _ => True) (trivial)
          ((refine step_append_lies _ (by rfl) _ _ _ (by rfl) w.heap.size 5 i0 (.int .u8 0) 1 1 Tryz.underlying98 hi hz0 hz1 hz2 rfl (by omega) u8 k ((upto (xr key nonce s) k).map (Value.int .u8)) (by rfl) ((HO1.out.alloc _).drew)
              ⟨w1.heap.size, 0, none⟩ 1 1 [_] (by rfl) (by rfl) (cell_one_new _ _ _) (by simp [Value.oneCell'])
              (by omega) (by unfold maxLen; omega) (by omega) (by have := HB1.out.size; simp; omega) (w1.heap.size + 1) (by simp) ?_; intro gg cap w2 hown1 hgrow hat hltg))
        all_goals
          have hb1 := ((HB1.out.alloc HB1.out.size (.cells #[_] 5)).drew).grown hgrow (by have := HB1.out.size; simp; omega) (fun j e => (HO1.out.lt j e).1)
          have HO2 : Hid _ := hown1
          have HB2 : Hid _ := hb1
          clear HO1 HB1 hgrow hown1 hb1
          go_wp2
          go_roundw
          case rel =>
            refine ⟨k + 1, by omega, by go_num, by rw [upto_succ, List.map_append, HY.out]; exact HO2.out, HB2.out, bs, rfl, ?_⟩
            by_cases h : (k + 1) % 64 = 0
            · exact .inl h
            · exact .inr (by rw [HZ.out, show (k + 1) / 64 = k / 64 by omega])
          case measure => simp [intOf]; omega
      · have hq : ((k : Int) % 64 == 0) = false := by simp; omega
        have hbb : bs.size = 64 := by rcases HBS.out with h | h; exact absurd h h64; rw [h, blkS_size]
        have HZ : Hid (bs = blkS key ((k / 64 : Nat) : Int) nonce) := by rcases HBS.out with h | h; exact absurd h h64; exact h
        clear HBS
        have m0 : (0 : Int) ≤ (k : Int) % 64 := by omega
        have m1 : (k : Int) % 64 < (bs.size : Int) := by omega
        have hm : k % 64 < bs.size := by omega
        have t0 : (k : Int).tmod 64 = ((k % 64 : Nat) : Int) := by rw [Int.tmod_eq_emod_of_nonneg k0]; omega
        have t1 : (0 : Int) ≤ ((k % 64 : Nat) : Int) := by omega
        have t2 : ((k % 64 : Nat) : Int) < (bs.size : Int) := by omega
        have hm2 : ((k : Int) % 64).toNat < bs.size := by omega
        have hm3 : ((k : Int) % 64).toNat = k % 64 := by omega
        have HY : Hid (xr key nonce s k = bits .xor .u8 (s[k].toNat : Int) (bs[((k : Int) % 64).toNat].toNat : Int)) := by
          refine (?_ : xr key nonce s k = bits .xor .u8 (s[k].toNat : Int) (bs[((k : Int) % 64).toNat].toNat : Int))
          rw [XR.out, bt_get _ _ hlt, bt_get _ _ hm2, hm3, HZ.out]
        have H64 : Hid _ := h64
        clear hbb
        go_wp2_with fail
        clear h64 hq hm3 hm
        go_region_held3 (fun _ => True) (trivial)
          ((refine step_append_lies _ (by rfl) _ _ _ (by rfl) w.heap.size 5 i0 (.int .u8 0) 1 1 Tryz.underlying98 hi hz0 hz1 hz2 rfl (by omega) u8 k ((upto (xr key nonce s) k).map (Value.int .u8)) (by rfl) ((HO.out.alloc _).drew)
              ⟨wr.heap.size, 0, none⟩ 1 1 [_] (by rfl) (by rfl) (cell_one_new _ _ _) (by simp [Value.oneCell'])
              (by omega) (by unfold maxLen; omega) (by omega) (by have := HB.out.size; simp; omega) (wr.heap.size + 1) (by simp) ?_; intro gg cap w1 hown1 hgrow hat hltg))
        all_goals
          have hb1 := ((HB.out.alloc HB.out.size (.cells #[_] 5)).drew).grown hgrow (by have := HB.out.size; simp; omega) (fun j e => (HO.out.lt j e).1)
          have HO2 : Hid _ := hown1
          have HB2 : Hid _ := hb1
          clear HO HB hgrow hown1 hb1
          go_wp2
          go_roundw
          case rel =>
            refine ⟨k + 1, by omega, by go_num, by rw [upto_succ, List.map_append, HY.out]; exact HO2.out, HB2.out, bs, rfl, ?_⟩
            by_cases h : (k + 1) % 64 = 0
            · exact .inl h
            · exact .inr (by rw [HZ.out, show (k + 1) / 64 = k / 64 by omega])
          case measure => simp [intOf]; omega
    · obtain rfl : k = s.size := by omega
      have hcv := own_string hown
      clear hown
      go_wp2
      go_ret2
      exact ⟨rfl, hb⟩
end Go.Proofs.YtfaflomephjkgaaGreatDoor.Ra
