/- What a key expands to, and what is extracted, against the reference: the walk. -/
import Derived.Test.YtmlechalhldlhaaDoorUk
import Derived.Test.YtmlechalhldlhaaDoorUp
namespace Go.Proofs.YtmlechalhldlhaaDoor
open Go.RowKit Go.Lib
/-- T1 to Tj, behind each other. -/
def outS (Kt : Nat → Int) (key label : ByteArray) : Nat → ByteArray
  | 0 => ⟨#[]⟩
  | j + 1 => outS Kt key label j ++ tsq Kt key label (j + 1)
theorem outS_size (Kt : Nat → Int) (key label : ByteArray) (j : Nat) : (outS Kt key label j).size = 32 * j := by
  induction j with
  | zero => rfl
  | succ j ih => show (outS Kt key label j ++ tsq Kt key label (j + 1)).size = _; rw [ByteArray.size_append, ih, tsq_size]; omega
theorem outS_bt (Kt : Nat → Int) (key label : ByteArray) (j : Nat) : ∀ k, k < 32 * j → bt (outS Kt key label j) k = xpd Kt key label k := by
  induction j with
  | zero => intro k hk; omega
  | succ j ih =>
    intro k hk
    show bt (outS Kt key label j ++ tsq Kt key label (j + 1)) k = _
    rw [bt_app, outS_size]
    by_cases h : k < 32 * j
    · rw [if_pos h]; exact ih k h
    · rw [if_neg h, ← xpd_at Kt key label j (k - 32 * j) (by omega), show 32 * j + (k - 32 * j) = k by omega]
theorem xpd_byte (Kt : Nat → Int) (key label : ByteArray) (k : Nat) : 0 ≤ xpd Kt key label k ∧ xpd Kt key label k < 256 := bt_range _ _
theorem bt_same (a b : ByteArray) (hs : a.size = b.size) (h : ∀ j, j < a.size → bt a j = bt b j) : a = b := by
  apply ByteArray.ext
  apply Array.ext
  · exact hs
  · intro i h1 h2
    have := h i h1
    unfold bt at this
    rw [Array.getElem?_eq_getElem h1, Array.getElem?_eq_getElem h2] at this
    simp only [Option.getD_some] at this
    exact UInt8.toNat_inj.1 (by omega)
theorem outS_cut (Kt : Nat → Int) (key label : ByteArray) (j n : Nat) (h : n ≤ 32 * j) : (outS Kt key label j).extract 0 n = xS Kt key label n := by
  have hs : ((outS Kt key label j).extract 0 n).size = n := by have := outS_size Kt key label j; simp; omega
  refine bt_same _ _ (by rw [hs, xS_size]) fun k hk => ?_
  rw [hs] at hk
  rw [bt_ext _ _ _ _ (by have := outS_size Kt key label j; omega), Nat.zero_add, outS_bt _ _ _ _ _ (by omega)]
  unfold xS
  have hg : ∀ i, (upto (xpd Kt key label) n).getD i 0 = if i < n then xpd Kt key label i else 0 := fun i => by
    rw [List.getD_eq_getElem?_getD]
    unfold upto
    by_cases h : i < n
    · simp [h]
    · simp [h]
  rw [bt_nums _ (fun i => by rw [hg]; split; exact xpd_byte _ _ _ _; decide) k (by rw [upto_length]; exact hk), hg, if_pos hk]
set_option maxHeartbeats 2000000 in
theorem refExpand_yes (Kt : Nat → Int) (key label : ByteArray) (hk : key.size ≤ 1000000) (hlb : label.size ≤ 1000) (n : Nat) (hn : n ≤ 8160) (w : World) {tt : TypeId} {fr : Nat × Nat} (hT : w.heap[0]? = some (.cells (w64 Kt) tt fr)) :
    Calls Tryd.prog 16 #[.string key, .string label, .int .i64 (n : Int)] w fun e w' => e = .returned (.tuple #[.string (xS Kt key label n), .int .i64 0]) ∧ Below w.heap.size w w' := by
  have h0l : 0 < w.heap.size := (Array.getElem?_eq_some_iff.1 hT).1
  have HT : Hid (w.heap[0]? = some (.cells (w64 Kt) tt fr)) := hT
  have q1 : decide ((n : Int) < 0) = false := by simp
  have q2 : decide ((8160 : Int) < (n : Int)) = false := by simp; omega
  clear hT
  go_enter Tryd.func16, Tryd.ntmps16
  go_wp2_with fail
  go_loopw [8, 9, 10] (fun u v i wr => ∃ j : Nat, (j = 0 ∨ 32 * j < n + 32) ∧ u = .string (outS Kt key label j) ∧ v = .string (tsq Kt key label j) ∧ i = .int .i64 ((j : Int) + 1) ∧ Below w.heap.size w wr) (fun _ _ i _ => 300 - natOf i)
  case atStart => exact ⟨0, .inl rfl, rfl, rfl, rfl, Below.refl _ _⟩
  case round =>
    obtain ⟨j, hj, rfl, rfl, rfl, hbe⟩ := hrel
    have BX : Hid (Below w.heap.size w wr) := hbe
    clear hbe
    have hos := outS_size Kt key label j
    have hts := tsq_le Kt key label j
    have j0 : (0 : Int) ≤ (j : Int) := by omega
    by_cases hlt : 32 * j < n
    · have k1 : ((outS Kt key label j).size : Int) < (n : Int) := by omega
      have j1 : (j : Int) < 255 := by omega
      have hoc := one_new wr ((j : Int) + 1)
      have HOS : Hid (outS Kt key label (j + 1) = outS Kt key label j ++ tsq Kt key label (j + 1)) := rfl
      have HT1 : Hid (tsq Kt key label (j + 1) = macS Kt key (tsq Kt key label j ++ label ++ strOfNums [(j : Int) + 1])) := rfl
      have hT1s := tsq_size Kt key label j
      have hOs : (outS Kt key label j).size ≤ 8160 := by omega
      obtain ⟨T1, hTT⟩ : ∃ T1, tsq Kt key label (j + 1) = T1 := ⟨_, rfl⟩
      have HTT : Hid (tsq Kt key label (j + 1) = T1) := hTT
      rw [hTT] at HT1 hT1s HOS
      clear hTT hos
      generalize tsq Kt key label j = T0 at *
      generalize outS Kt key label j = O0 at *
      have hbs : (strOfNums [(j : Int) + 1]).size = 1 := strOfNums_size _
      generalize strOfNums [(j : Int) + 1] = O1 at *
      have hcat : (T0 ++ label ++ O1).size = T0.size + label.size + O1.size := by rw [ByteArray.size_append, ByteArray.size_append]
      have hc1 : (T0 ++ label).size = T0.size + label.size := ByteArray.size_append
      have z1 : (T0.size : Int) + (label.size : Int) ≤ 2000 := by omega
      have z2 : (O0.size : Int) ≤ 8160 := by omega
      have z3 : (T0.size : Int) + (label.size : Int) + (O1.size : Int) ≤ 2001 := by omega
      go_wp2_with fail
      have BA : Below w.heap.size w (wr.alloc (.cells #[.int .u8 ((j : Int) + 1)] 5)) := BX.out.alloc BX.out.size _
      refine (refMac_any Kt key (T0 ++ label ++ O1) hk (by omega) _ ((BA.block 0 h0l).trans HT.out)).mono ?_
      rintro e w3 ⟨rfl, b3⟩
      have B3 : Hid (Below w.heap.size w w3) := BA.trans (b3.mono BA.size)
      rw [← HT1.out]
      have zT : (T1.size : Int) = 32 := by omega
      clear b3 BA BX hoc hcat hc1
      go_wp2_with fail
      go_roundw
      case rel => exact ⟨j + 1, .inr (by omega), by rw [HOS.out], by rw [HTT.out], by go_num, B3.out⟩
      case measure => simp [natOf]; omega
    · have k1 : ¬ ((outS Kt key label j).size : Int) < (n : Int) := by omega
      have hcut := outS_cut Kt key label j n (by omega)
      have k2 : (n : Int) ≤ ((outS Kt key label j).size : Int) := by omega
      generalize outS Kt key label j = O0 at *
      have HC : Hid (O0.extract 0 n = xS Kt key label n) := hcut
      clear hcut
      go_wp2_with fail
      go_ret2
      exact ⟨by rw [← HC.out]; rfl, BX.out⟩
end Go.Proofs.YtmlechalhldlhaaDoor
