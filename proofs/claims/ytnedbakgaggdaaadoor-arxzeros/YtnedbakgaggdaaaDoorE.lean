import Derived.RangeFuncNested
import Derived.RangeFuncBound
import Derived.RangeFuncCalls
import Derived.RangeFuncLeaves
import Derived.Shelf.Abstract
import Derived.Shelf.RegionOpen
import Derived.OwnWalkIn
import Derived.TacticsInMore
import Derived.LoopNIn
import Derived.LoopIn
import Derived.RegionIn
import Derived.Test.YtnedbakgaggdaaaDoorD
import Derived.Test.YtnedbakgaggdaaaDoorL
namespace Go.Proofs.YtnedbakgaggdaaaDoor
open Go.RowKit Go.Shelf
attribute [local go_sem] Oper.semAt_some
/-- The word that the first four bytes of a text say. -/
def wd4 (u : ByteArray) (h : 4 ≤ u.size) : Int := wrd (u[0].toNat : Int) (u[1].toNat : Int) (u[2].toNat : Int) (u[3].toNat : Int)
theorem wd4_eq (s : ByteArray) (m : Nat) (h : 4 ≤ (s.extract (4 * m) s.size).size) : wd4 (s.extract (4 * m) s.size) h = wd s m := by
  have hs : 4 * m + 4 ≤ s.size := by simp at h; omega
  unfold wd4 wd
  rw [bt_get _ 0 (by omega), bt_get _ 1 (by omega), bt_get _ 2 (by omega), bt_get _ 3 (by omega), bt_extract _ _ _ (by omega), bt_extract _ _ _ (by omega), bt_extract _ _ _ (by omega), bt_extract _ _ _ (by omega)]
  rfl
/-- How long the text in a slot is. -/
def szOf : Value → Nat | .string u => u.size | _ => 0
theorem gb_drew (w : World) (r : Option Nat) : w.grownBy w.drew r := ⟨rfl, rfl, rfl, Nat.le_refl _, fun _ _ _ => rfl⟩
/-- words: the texts are boxed; the function value captures the box. -/
theorem words_in (n : Nat) (a : Option Addr) (len cap : Nat) (w : World) :
    CallsIn Fence.wide n Tryd.prog 31 #[.slice a len cap] w fun e w' => e = .returned (.func (.func 32) #[] #[.pointer (some ⟨w.heap.size, 0, none⟩)]) ∧ w' = w.alloc (.cells #[.slice a len cap] 55) := by
  refine callsIn_of_wp Tryd.func31 rfl trivial ?_ rfl
  simp only [Tryd.ntmps31, List.size_toArray, List.length_cons, List.length_nil, Nat.reduceAdd, Nat.reduceSub, Array.replicate_succ, Array.replicate_zero, List.push_toArray, List.append_toArray, List.nil_append, List.cons_append]
  gi_wp2
  go_ret
  exact ⟨rfl, rfl⟩
theorem ext_ext (s : ByteArray) (a : Nat) : (s.extract a s.size).extract 4 (s.extract a s.size).size = s.extract (a + 4) s.size := by
  apply ByteArray.ext
  simp [ByteArray.data_extract, Array.extract_extract]
  congr 1
  omega
theorem words_lt (ts : Nat → ByteArray) (len k m : Nat) (hk : k < len) (hm : m < (ts k).size / 4) :
    (cat (fun j => wds (ts j)) k ++ upto (wd (ts k)) m).length < (cat (fun j => wds (ts j)) len).length ∧
    cat (fun j => wds (ts j)) k ++ upto (wd (ts k)) m ++ [wd (ts k) m] <+: cat (fun j => wds (ts j)) len := by
  have h2 : cat (fun j => wds (ts j)) k ++ upto (wd (ts k)) m ++ [wd (ts k) m] <+: cat (fun j => wds (ts j)) len := by
    rw [List.append_assoc, ← upto_succ]
    refine List.IsPrefix.trans ?_ (cat_prefix _ (show k + 1 ≤ len from hk))
    rw [cat_succ]
    exact (List.prefix_append_right_inj _).2 (upto_prefix _ (by omega))
  exact ⟨by have := h2.length_le; simp at this ⊢; omega, h2⟩
set_option maxRecDepth 100000 in
set_option maxHeartbeats 400000 in
theorem words1_in (n : Nat) (hn : 1 ≤ n) (l Bs n₀ b len cap : Nat) (ts : Nat → ByteArray) (hlen : len ≤ 1000) (hts : ∀ j, j < len → (ts j).size ≤ maxLen) (hb : b < n₀) (J Jx : List Int → World → Prop) (hJ : ∀ pre W, J pre W → J pre W.drew)
    (hY : ∀ pre x W, J pre W → pre.length < (cat (fun j => wds (ts j)) len).length → YieldAt Fence.wide (n - 1) Tryd.prog l #[.int .u32 x] W fun e W' =>
      (e = .returned (.bool true) ∧ J (pre ++ [x]) W' ∧ Below n₀ W W') ∨ (e = .returned (.bool false) ∧ Jx (pre ++ [x]) W'))
    (W : World) (hBs : W.cell? ⟨Bs, 0, none⟩ = some (.slice (some ⟨b, 0, none⟩) len cap)) (hc : ∀ j, j < len → W.cell? ⟨b, j, none⟩ = some (.string (ts j))) (h0 : J [] W) :
    CallsIn Fence.wide n Tryd.prog 32 #[.func (.yield l) #[] #[], .pointer (some ⟨Bs, 0, none⟩)] W fun e W' => (∃ v, e = .returned v) ∧
      ((∃ ys, ys = cat (fun j => wds (ts j)) len ∧ J ys W') ∨ (∃ pre, pre <+: cat (fun j => wds (ts j)) len ∧ Jx pre W')) := by
  have hmx : Tryd.prog.follows .mixedOrders = true := by kernel_rfl
  refine callsIn_of_wp Tryd.func32 rfl trivial ?_ rfl
  simp only [Tryd.ntmps32, List.size_toArray, List.length_cons, List.length_nil, Nat.reduceAdd, Nat.reduceSub, Array.replicate_succ, Array.replicate_zero, List.push_toArray, List.append_toArray, List.nil_append, List.cons_append]
  gi_wp2
  gi_loopw [7] (fun i wr => ∃ k : Nat, k ≤ len ∧ i = .int .i64 k ∧ J (cat (fun j => wds (ts j)) k) wr ∧ Below n₀ W wr)
    (fun i _ => len - (intOf i).toNat)
  case atStart => exact ⟨0, Nat.zero_le _, rfl, h0, Below.refl _ _⟩
  case round =>
    obtain ⟨k, hk, rfl, hJs, hnx⟩ := hrel
    by_cases hlt : k < len
    · have hcx : wr.cell? ⟨b, k, none⟩ = some (.string (ts k)) := (hnx.cell (p := ⟨b, k, none⟩) hb).trans (hc k hlt)
      have hsm := hts k hlt
      unfold maxLen at hsm
      have HP : Hid (∀ m, m < (ts k).size / 4 → (cat (fun j => wds (ts j)) k ++ upto (wd (ts k)) m).length < (cat (fun j => wds (ts j)) len).length ∧
        cat (fun j => wds (ts j)) k ++ upto (wd (ts k)) m ++ [wd (ts k) m] <+: cat (fun j => wds (ts j)) len) := fun m hm => words_lt ts len k m hlt hm
      have HS : Hid (cat (fun j => wds (ts j)) (k + 1) = cat (fun j => wds (ts j)) k ++ upto (wd (ts k)) ((ts k).size / 4)) := cat_succ _ _
      have HW : Hid (Below n₀ W wr) := hnx
      generalize cat (fun j => wds (ts j)) k = P0 at *
      generalize ts k = s at *
      have HY : Hid _ := hY
      have HC : Hid _ := hc
      clear hc hY hnx
      gi_wp2
      gi_loopw [4] (fun t wr => ∃ m : Nat, 4 * m ≤ s.size ∧ t = .string (s.extract (4 * m) s.size) ∧ J (P0 ++ upto (wd s) m) wr ∧ Below n₀ W wr) (fun t _ => szOf t)
      case atStart => exact ⟨0, by omega, by simp, by simpa [upto] using hJs, HW.out⟩
      case round =>
        clear hJs HW
        obtain ⟨m, hm, rfl, hJs, hnx⟩ := hrel
        by_cases h4 : 4 ≤ (s.extract (4 * m) s.size).size
        · have hms : m < s.size / 4 := by simp at h4; omega
          obtain ⟨fn, tmps, assign, body, hy, hR⟩ := HY.out (P0 ++ upto (wd s) m) (wd4 (s.extract (4 * m) s.size) h4) wr.drew (hJ _ _ hJs) (HP.out m hms).1
          rw [wd4_eq] at hR
          have hR' : RoundIn Fence.wide (n - 1) Tryd.prog l fn tmps assign body wr.drew fun e W' => ∃ bv, e = .returned (.bool bv) ∧ ((bv = true ∧ J (P0 ++ upto (wd s) m ++ [wd s m]) W' ∧ Below n₀ wr.drew W') ∨ (bv = false ∧ Jx (P0 ++ upto (wd s) m ++ [wd s m]) W')) :=
            hR.mono (fun e W' h => h.elim (fun h => ⟨true, h.1, .inl ⟨rfl, h.2⟩⟩) (fun h => ⟨false, h.1, .inr ⟨rfl, h.2⟩⟩))
          clear hR
          generalize hu : s.extract (4 * m) s.size = u at *
          have HU : Hid _ := hu
          clear hu
          have g0 : (4 : Int) ≤ (u.size : Int) := by omega
          have k0 : 0 < u.size := by omega
          have k1 : (1 : Int) < (u.size : Int) := by omega
          have k2 : (2 : Int) < (u.size : Int) := by omega
          have k3 : (3 : Int) < (u.size : Int) := by omega
          obtain ⟨y0, a0⟩ : ∃ y, IntKind.u32.wrap (u[0].toNat : Int) = y := ⟨_, rfl⟩
          obtain ⟨y1, a1⟩ : ∃ y, IntKind.u32.wrap (u[1].toNat : Int) = y := ⟨_, rfl⟩
          obtain ⟨z1, c1⟩ : ∃ y, IntKind.u32.wrap (y1 * 256) = y := ⟨_, rfl⟩
          obtain ⟨p1, o1⟩ : ∃ y, bits BinOp.or IntKind.u32 y0 z1 = y := ⟨_, rfl⟩
          obtain ⟨y2, a2⟩ : ∃ y, IntKind.u32.wrap (u[2].toNat : Int) = y := ⟨_, rfl⟩
          obtain ⟨z2, c2⟩ : ∃ y, IntKind.u32.wrap (y2 * 65536) = y := ⟨_, rfl⟩
          obtain ⟨p2, o2⟩ : ∃ y, bits BinOp.or IntKind.u32 p1 z2 = y := ⟨_, rfl⟩
          obtain ⟨y3, a3⟩ : ∃ y, IntKind.u32.wrap (u[3].toNat : Int) = y := ⟨_, rfl⟩
          obtain ⟨z3, c3⟩ : ∃ y, IntKind.u32.wrap (y3 * 16777216) = y := ⟨_, rfl⟩
          obtain ⟨x0, o3⟩ : ∃ y, bits BinOp.or IntKind.u32 p2 z3 = y := ⟨_, rfl⟩
          have hx : wd4 u h4 = x0 := by unfold wd4 wrd; rw [a0, a1, c1, o1, a2, c2, o2, a3, c3, o3]
          rw [hx] at hy
          clear hx
          have HJ : Hid _ := hJ
          have HN : Hid _ := hnx
          have HJs : Hid _ := hJs
          clear hJ hsm hBs h0 hJs hnx hb hk hlen hts hm hms
          gi_wp2
          refine wpIn_region_any hmx ?_
          change wpAnyIn _ _ _ _ _ _ _ _ _ (World.drew _)
          refine wpAnyIn_take (i := 0) (v := ?_) rfl rfl (by kernel_rfl) (by kernel_rfl) (by kernel_rfl) (fun _ _ _ h => h) ⟨Or.inl ⟨by rfl, ?_⟩, fun _ => rfl⟩ ?_
          rotate_left
          · intro w
            go_simp
            try with_reducible rfl
          refine wpAnyIn_take (i := 1) (v := ?_) rfl rfl (by kernel_rfl) (by kernel_rfl) (by kernel_rfl) (fun _ _ _ h => h) ⟨Or.inl ⟨by rfl, ?_⟩, fun _ => rfl⟩ ?_
          rotate_left
          · intro w
            go_simp
            try with_reducible rfl
          refine wpAnyIn_take (i := 2) (v := ?_) rfl rfl (by kernel_rfl) (by kernel_rfl) (by kernel_rfl) (fun _ _ _ h => h) ⟨Or.inl ⟨by rfl, ?_⟩, fun _ => rfl⟩ ?_
          rotate_left
          · intro w
            go_simp
            try with_reducible rfl
          refine wpAnyIn_take (i := 3) (v := ?_) rfl rfl (by kernel_rfl) (by kernel_rfl) (by kernel_rfl) (fun _ _ _ h => h) ⟨Or.inl ⟨by rfl, ?_⟩, fun _ => rfl⟩ ?_
          rotate_left
          · intro w
            go_simp
            try with_reducible rfl
          refine wpAnyIn_take (i := 4) (v := ?_) rfl rfl (by kernel_rfl) (by kernel_rfl) (by kernel_rfl) (fun _ _ _ h => h) ⟨Or.inl ⟨by rfl, ?_⟩, fun _ => rfl⟩ ?_
          rotate_left
          · intro w
            go_simp
            try with_reducible rfl
          refine wpAnyIn_take (i := 5) (v := ?_) rfl rfl (by kernel_rfl) (by kernel_rfl) (by kernel_rfl) (fun _ _ _ h => h) ⟨Or.inl ⟨by rfl, ?_⟩, fun _ => rfl⟩ ?_
          rotate_left
          · intro w
            go_simp
            try with_reducible rfl
          refine wpAnyIn_take (i := 6) (v := ?_) rfl rfl (by kernel_rfl) (by kernel_rfl) (by kernel_rfl) (fun _ _ _ h => h) ⟨Or.inl ⟨by rfl, ?_⟩, fun _ => rfl⟩ ?_
          rotate_left
          · intro w
            go_simp
            try with_reducible rfl
          refine wpAnyIn_take (i := 7) (v := ?_) rfl rfl (by kernel_rfl) (by kernel_rfl) (by kernel_rfl) (fun _ _ _ h => h) ⟨Or.inl ⟨by rfl, ?_⟩, fun _ => rfl⟩ ?_
          rotate_left
          · intro w
            go_simp
            try with_reducible rfl
          refine wpAnyIn_take (i := 8) (v := ?_) rfl rfl (by kernel_rfl) (by kernel_rfl) (by kernel_rfl) (fun _ _ _ h => h) ⟨Or.inl ⟨by rfl, ?_⟩, fun _ => rfl⟩ ?_
          rotate_left
          · intro w
            go_simp
            try with_reducible rfl
          refine wpAnyIn_take (i := 9) (v := ?_) rfl rfl (by kernel_rfl) (by kernel_rfl) (by kernel_rfl) (fun _ _ _ h => h) ⟨Or.inl ⟨by rfl, ?_⟩, fun _ => rfl⟩ ?_
          rotate_left
          · intro w
            go_simp
            try with_reducible rfl
          refine wpAnyIn_take (i := 10) (v := ?_) rfl rfl (by kernel_rfl) (by kernel_rfl) (by kernel_rfl) (fun _ _ _ h => h) ⟨Or.inl ⟨by rfl, ?_⟩, fun _ => rfl⟩ ?_
          rotate_left
          · intro w
            go_simp
            try with_reducible rfl
          refine wpAnyIn_take (i := 11) (v := ?_) rfl rfl (by kernel_rfl) (by kernel_rfl) (by kernel_rfl) (fun _ _ _ h => h) ⟨Or.inl ⟨by rfl, ?_⟩, fun _ => rfl⟩ ?_
          rotate_left
          · intro w
            go_simp
            try with_reducible rfl
          refine wpAnyIn_take (i := 12) (v := ?_) rfl rfl (by kernel_rfl) (by kernel_rfl) (by kernel_rfl) (fun _ _ _ h => h) ⟨Or.inl ⟨by rfl, ?_⟩, fun _ => rfl⟩ ?_
          rotate_left
          · intro w
            go_simp
            try with_reducible rfl
          refine wpAnyIn_take (i := 13) (v := ?_) rfl rfl (by kernel_rfl) (by kernel_rfl) (by kernel_rfl) (fun _ _ _ h => h) ⟨Or.inl ⟨by rfl, ?_⟩, fun _ => rfl⟩ ?_
          rotate_left
          · intro w
            go_simp
            try with_reducible rfl
          refine wpAnyIn_take (i := 14) (v := ?_) rfl rfl (by kernel_rfl) (by kernel_rfl) (by kernel_rfl) (fun _ _ _ h => h) ⟨Or.inl ⟨by rfl, ?_⟩, fun _ => rfl⟩ ?_
          rotate_left
          · intro w
            go_simp
            try with_reducible rfl
          refine wpAnyIn_take (i := 15) (v := ?_) rfl rfl (by kernel_rfl) (by kernel_rfl) (by kernel_rfl) (fun _ _ _ h => h) ⟨Or.inl ⟨by rfl, ?_⟩, fun _ => rfl⟩ ?_
          rotate_left
          · intro w
            go_simp
            try with_reducible rfl
          refine wpAnyIn_take (i := 16) (v := ?_) rfl rfl (by kernel_rfl) (by kernel_rfl) (by kernel_rfl) (fun _ _ _ h => h) ⟨Or.inl ⟨by rfl, ?_⟩, fun _ => rfl⟩ ?_
          rotate_left
          · intro w
            go_simp
            try with_reducible rfl
          refine wpAnyIn_take (i := 17) (v := ?_) rfl rfl (by kernel_rfl) (by kernel_rfl) (by kernel_rfl) (fun _ _ _ h => h) ⟨Or.inl ⟨by rfl, ?_⟩, fun _ => rfl⟩ ?_
          rotate_left
          · intro w
            go_simp
            try with_reducible rfl
          refine wpAnyIn_take (i := 18) (v := ?_) rfl rfl (by kernel_rfl) (by kernel_rfl) (by kernel_rfl) (fun _ _ _ h => h) ⟨Or.inl ⟨by rfl, ?_⟩, fun _ => rfl⟩ ?_
          rotate_left
          · intro w
            go_simp
            try with_reducible rfl
          refine wpAnyIn_ready (rs := [19]) (by kernel_rfl) (by simp) ?_
          refine AllReadyIn.cons rfl (fun K hK => ?_) AllReadyIn.nil
          go_simp
          refine hR'.mono ?_
          rintro e W3 ⟨bv, rfl, hdis⟩
          refine hK _ _ ?_
          clear hK K hR' hy
          refine wpAnyIn_take (i := 20) (v := ?_) rfl rfl (by kernel_rfl) (by kernel_rfl) (by kernel_rfl) (fun _ _ _ h => h) ⟨Or.inl ⟨by rfl, ?_⟩, fun _ => rfl⟩ ?_
          rotate_left
          · intro w
            go_simp
            try with_reducible rfl
          refine wpAnyIn_done (by kernel_rfl) ?_ _
          have hu := HU.out
          rcases hdis with ⟨rfl, hJ3, hk3⟩ | ⟨rfl, hJx3⟩
          · gi_wp2
            go_roundw
            case rel => exact ⟨m + 1, by rw [← hu] at h4; simp at h4; omega, by rw [← hu, ext_ext]; rfl, by rw [upto_succ, ← List.append_assoc]; exact hJ3, (HN.out.drew).trans hk3⟩
            case measure => simp [szOf]; omega
          · gi_wp2
            refine bodyPost_ret (results_none rfl _ _ _) rfl ?_
            exact ⟨⟨_, rfl⟩, .inr ⟨_, (HP.out m (by rw [← hu] at h4; simp at h4; omega)).2, hJx3⟩⟩
        · have g0 : ¬ (4 : Int) ≤ ((s.extract (4 * m) s.size).size : Int) := by omega
          have hms : m = s.size / 4 := by simp at h4; omega
          have HM : Hid _ := hms
          have HJs : Hid _ := hJs
          have HN : Hid _ := hnx
          clear hms hJs hnx
          generalize s.extract (4 * m) s.size = u at *
          gi_wp2
          go_roundw
          case rel => exact ⟨k + 1, by omega, by go_num, by rw [HS.out, ← HM.out]; exact HJs.out, HN.out⟩
          case measure => simp [intOf]; omega
    · obtain rfl : k = len := by omega
      gi_wp2
      go_end0
      exact ⟨⟨_, rfl⟩, .inl ⟨_, rfl, hJs⟩⟩
end Go.Proofs.YtnedbakgaggdaaaDoor
