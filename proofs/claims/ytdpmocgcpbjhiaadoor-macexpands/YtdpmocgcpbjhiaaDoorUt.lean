/- What a key expands to, and what is extracted, against the reference: the walk. -/
import Derived.Test.YtdpmocgcpbjhiaaDoorUl
import Derived.Test.YtdpmocgcpbjhiaaDoorUp
namespace Go.Proofs.YtdpmocgcpbjhiaaDoor
open Go.RowKit Go.Lib
/-- T1 to Tj, behind each other. -/
def outS (Kt : Nat → Int) (key label : ByteArray) : Nat → ByteArray
  | 0 => ⟨#[]⟩
  | j + 1 => outS Kt key label j ++ tsq Kt key label (j + 1)
theorem outS_size (Kt : Nat → Int) (key label : ByteArray) (j : Nat) : (outS Kt key label j).size = 32 * j := by
  induction j with
  | zero => rfl
  | succ j ih => show (outS Kt key label j ++ tsq Kt key label (j + 1)).size = _; rw [ByteArray.size_append, ih, tsq_size]; omega
theorem outS_bt (Kt : Nat → Int) (key label : ByteArray) (j : Nat) : ∀ k, k < 32 * j → bt (outS Kt key label j) k = xpd Kt key label k := by
  induction j with
  | zero => intro k hk; omega
  | succ j ih =>
    intro k hk
    show bt (outS Kt key label j ++ tsq Kt key label (j + 1)) k = _
    rw [bt_app, outS_size]
    by_cases h : k < 32 * j
    · rw [if_pos h]; exact ih k h
    · rw [if_neg h, ← xpd_at Kt key label j (k - 32 * j) (by omega), show 32 * j + (k - 32 * j) = k by omega]
theorem xpd_byte (Kt : Nat → Int) (key label : ByteArray) (k : Nat) : 0 ≤ xpd Kt key label k ∧ xpd Kt key label k < 256 := bt_range _ _
theorem outS_cut (Kt : Nat → Int) (key label : ByteArray) (j n : Nat) (h : n ≤ 32 * j) : (outS Kt key label j).extract 0 n = xS Kt key label n := by
  have hs : ((outS Kt key label j).extract 0 n).size = n := by have := outS_size Kt key label j; simp; omega
  refine bt_same _ _ (by rw [hs, xS_size]) fun k hk => ?_
  rw [hs] at hk
  rw [bt_ext _ _ _ _ (by have := outS_size Kt key label j; omega), Nat.zero_add, outS_bt _ _ _ _ _ (by omega)]
  unfold xS
  have hg : ∀ i, (upto (xpd Kt key label) n).getD i 0 = if i < n then xpd Kt key label i else 0 := fun i => by
    rw [List.getD_eq_getElem?_getD]
    unfold upto
    by_cases h : i < n
    · simp [h]
    · simp [h]
  rw [bt_nums _ (fun i => by rw [hg]; split; exact xpd_byte _ _ _ _; decide) k (by rw [upto_length]; exact hk), hg, if_pos hk]
set_option maxHeartbeats 2000000 in
theorem refExpand_yes (Kt : Nat → Int) (key label : ByteArray) (hk : key.size ≤ 1000000) (hlb : label.size ≤ 1000) (n : Nat) (hn : n ≤ 8160) (w : World) {tt : TypeId} {fr : Nat × Nat} (hT : w.heap[0]? = some (.cells (w64 Kt) tt fr)) :
    Calls Tryd.prog 15 #[.string key, .string label, .int .i64 (n : Int)] w fun e w' => e = .returned (.tuple #[.string (xS Kt key label n), .int .i64 0]) ∧ Below w.heap.size w w' := by
  have h0l : 0 < w.heap.size := (Array.getElem?_eq_some_iff.1 hT).1
  have HT : Hid (w.heap[0]? = some (.cells (w64 Kt) tt fr)) := hT
  have q1 : decide ((n : Int) < 0) = false := by simp
  have q2 : decide ((8160 : Int) < (n : Int)) = false := by simp; omega
  clear hT
  go_enter Tryd.func15, Tryd.ntmps15
  go_wp2_with fail
  go_loopw [8, 9, 10] (fun u v i wr => ∃ j : Nat, (j = 0 ∨ 32 * j < n + 32) ∧ u = .string (outS Kt key label j) ∧ v = .string (tsq Kt key label j) ∧ i = .int .i64 ((j : Int) + 1) ∧ Below w.heap.size w wr) (fun _ _ i _ => 300 - natOf i)
  case atStart => exact ⟨0, .inl rfl, rfl, rfl, rfl, Below.refl _ _⟩
  case round =>
    obtain ⟨j, hj, rfl, rfl, rfl, hbe⟩ := hrel
    have BX : Hid (Below w.heap.size w wr) := hbe
    clear hbe
    have hos := outS_size Kt key label j
    have hts := tsq_le Kt key label j
    have j0 : (0 : Int) ≤ (j : Int) := by omega
    by_cases hlt : 32 * j < n
    · have k1 : ((outS Kt key label j).size : Int) < (n : Int) := by omega
      have j1 : (j : Int) < 255 := by omega
      have hoc := one_new wr ((j : Int) + 1)
      have HOS : Hid (outS Kt key label (j + 1) = outS Kt key label j ++ tsq Kt key label (j + 1)) := rfl
      have HT1 : Hid (tsq Kt key label (j + 1) = macS Kt key (tsq Kt key label j ++ label ++ strOfNums [(j : Int) + 1])) := rfl
      have hT1s := tsq_size Kt key label j
      have hOs : (outS Kt key label j).size ≤ 8160 := by omega
      obtain ⟨T1, hTT⟩ : ∃ T1, tsq Kt key label (j + 1) = T1 := ⟨_, rfl⟩
      have HTT : Hid (tsq Kt key label (j + 1) = T1) := hTT
      rw [hTT] at HT1 hT1s HOS
      clear hTT hos
      generalize tsq Kt key label j = T0 at *
      generalize outS Kt key label j = O0 at *
      have hbs : (strOfNums [(j : Int) + 1]).size = 1 := strOfNums_size _
      generalize strOfNums [(j : Int) + 1] = O1 at *
      have hcat : (T0 ++ label ++ O1).size = T0.size + label.size + O1.size := by rw [ByteArray.size_append, ByteArray.size_append]
      have hc1 : (T0 ++ label).size = T0.size + label.size := ByteArray.size_append
      have z1 : (T0.size : Int) + (label.size : Int) ≤ 2000 := by omega
      have z2 : (O0.size : Int) ≤ 8160 := by omega
      have z3 : (T0.size : Int) + (label.size : Int) + (O1.size : Int) ≤ 2001 := by omega
      go_wp2_with fail
      have BA : Below w.heap.size w (wr.alloc (.cells #[.int .u8 ((j : Int) + 1)] 5)) := BX.out.alloc BX.out.size _
      refine (refMac_any Kt key (T0 ++ label ++ O1) hk (by omega) _ ((BA.block 0 h0l).trans HT.out)).mono ?_
      rintro e w3 ⟨rfl, b3⟩
      have B3 : Hid (Below w.heap.size w w3) := BA.trans (b3.mono BA.size)
      rw [← HT1.out]
      have zT : (T1.size : Int) = 32 := by omega
      clear b3 BA BX hoc hcat hc1
      go_wp2_with fail
      go_roundw
      case rel => exact ⟨j + 1, .inr (by omega), by rw [HOS.out], by rw [HTT.out], by go_num, B3.out⟩
      case measure => simp [natOf]; omega
    · have k1 : ¬ ((outS Kt key label j).size : Int) < (n : Int) := by omega
      have hcut := outS_cut Kt key label j n (by omega)
      have k2 : (n : Int) ≤ ((outS Kt key label j).size : Int) := by omega
      generalize outS Kt key label j = O0 at *
      have HC : Hid (O0.extract 0 n = xS Kt key label n) := hcut
      clear hcut
      go_wp2_with fail
      go_ret2
      exact ⟨by rw [← HC.out]; rfl, BX.out⟩
theorem refExpand_no (key label : ByteArray) (n : Int) (hn : n < 0 ∨ 8160 < n) (w : World) :
    Calls Tryd.prog 15 #[.string key, .string label, .int .i64 n] w fun e w' => e = .returned (.tuple #[.string ⟨#[]⟩, .int .i64 2]) ∧ w' = w := by
  have g1 : decide (n < 0) = true ∨ (decide (n < 0) = false ∧ decide (8160 < n) = true) := by simp; omega
  clear hn
  rcases g1 with g1 | ⟨g1, g2⟩
  · go_enter Tryd.func15, Tryd.ntmps15
    go_wp2_with fail
    go_ret2
    exact ⟨rfl, rfl⟩
  · go_enter Tryd.func15, Tryd.ntmps15
    go_wp2_with fail
    go_ret2
    exact ⟨rfl, rfl⟩
theorem extract_any (Kt : Nat → Int) (salt s : ByteArray) (hk : salt.size ≤ 1000000) (hs : s.size ≤ 1000000) (w : World) {tt : TypeId} {fr : Nat × Nat} (hK : w.heap[1]? = some (.cells (w64 Kt) tt fr)) :
    Calls Tryd.prog 16 #[.string salt, .string s] w fun e w' => e = .returned (.string (macS Kt salt s)) ∧ Below w.heap.size w w' := by
  have MO : ∀ T, Hid (Calls Tryd.prog 10 #[.string salt, .slice (some ⟨w.heap.size, 0, none⟩) 1 1] (w.alloc (.cells #[.string s] T)) fun e w' => e = .returned (.string (macS Kt salt s)) ∧ Below w.heap.size w w') := fun T => mac_one Kt salt s hk hs w T hK
  clear hK
  generalize macS Kt salt s = D at *
  go_enter Tryd.func16, Tryd.ntmps16
  go_wp2_with fail
  refine (MO _).out.mono ?_
  rintro e w1 ⟨rfl, b1⟩
  have B1 : Hid _ := b1
  clear b1 MO
  go_wp2_with fail
  go_ret
  exact ⟨rfl, B1.out⟩
set_option maxHeartbeats 2000000 in
theorem macExpands_walk (key label salt : ByteArray) (n : Int) (w : World) {tt tt' : TypeId} {fr fr' : Nat × Nat} (hT : w.heap[0]? = some (.cells (w64 (lf KL)) tt' fr')) (hK : w.heap[1]? = some (.cells (w64 (lf KL)) tt fr)) :
    Calls Tryd.prog 6 #[.string key, .string label, .string salt, .int .i64 n] w fun e w' => e = .returned (.bool true) ∧ Below w.heap.size w w' := by
  have h1l : 1 < w.heap.size := (Array.getElem?_eq_some_iff.1 hK).1
  have HK : Hid (w.heap[1]? = some (.cells (w64 (lf KL)) tt fr)) := hK
  have HT : Hid (w.heap[0]? = some (.cells (w64 (lf KL)) tt' fr')) := hT
  clear hK hT
  by_cases hmid : 200 < n ∧ n ≤ 8160
  · have q1 : decide ((200 : Int) < n) = true := by simpa using hmid.1
    have q2 : decide (n ≤ 8160) = true := by simpa using hmid.2
    go_enter Tryd.func6, Tryd.ntmps6
    go_wp2_with fail
    refine (shown_any w HK.out).mono ?_
    rintro e w1 ⟨rfl, b1⟩
    have B1 : Hid (Below w.heap.size w w1) := b1
    clear b1
    go_wp2_with fail
    go_ret
    exact ⟨rfl, B1.out⟩
  · obtain ⟨k, r, hr, hrs, hrt, hks⟩ := cut_is key 500
    obtain ⟨t, r', hr', hrs', hrt', hts⟩ := cut_is label 500
    obtain ⟨z, r2, hr2, hrs2, hrt2, hzs⟩ := cut_is salt 500
    have CK : Hid (∀ w, Calls Tryd.prog 11 #[.string key] w fun e w' => e = .returned (.string k) ∧ w' = w) := cut_any key k r hr hrs hrt
    have CL : Hid (∀ w, Calls Tryd.prog 11 #[.string label] w fun e w' => e = .returned (.string t) ∧ w' = w) := cut_any label t r' hr' hrs' hrt'
    have CZ : Hid (∀ w, Calls Tryd.prog 11 #[.string salt] w fun e w' => e = .returned (.string z) ∧ w' = w) := cut_any salt z r2 hr2 hrs2 hrt2
    obtain ⟨A, E, XA0, XB0⟩ : ∃ (A : ByteArray) (E : Int), (∀ w : World, w.heap[1]? = some (.cells (w64 (lf KL)) tt fr) → Calls Tryd.prog 14 #[.string k, .string t, .int .i64 n] w fun e w' => e = .returned (.tuple #[.string A, .int .i64 E]) ∧ Below w.heap.size w w') ∧
        (∀ w : World, w.heap[0]? = some (.cells (w64 (lf KL)) tt' fr') → Calls Tryd.prog 15 #[.string k, .string t, .int .i64 n] w fun e w' => e = .returned (.tuple #[.string A, .int .i64 E]) ∧ Below w.heap.size w w') := by
      by_cases h8 : 0 ≤ n ∧ n ≤ 8160
      · obtain ⟨q, rfl⟩ : ∃ q : Nat, n = (q : Int) := ⟨n.toNat, by omega⟩
        exact ⟨xS (lf KL) k t q, 0, fun w h => expand_yes (lf KL) k t (by omega) (by omega) q (by omega) w h, fun w h => refExpand_yes (lf KL) k t (by omega) (by omega) q (by omega) w h⟩
      · exact ⟨⟨#[]⟩, 2, fun w _ => (expand_no k t n (by omega) w).mono fun e w' ⟨h1, h2⟩ => ⟨h1, by rw [h2]; exact Below.refl _ _⟩, fun w _ => (refExpand_no k t n (by omega) w).mono fun e w' ⟨h1, h2⟩ => ⟨h1, by rw [h2]; exact Below.refl _ _⟩⟩
    have XA : Hid _ := XA0
    have XB : Hid _ := XB0
    have q0 : decide ((200 : Int) < n) = false ∨ (decide ((200 : Int) < n) = true ∧ decide (n ≤ 8160) = false) := by simp; omega
    clear hmid hr hrs hrt hr' hrs' hrt' hr2 hrs2 hrt2 XA0 XB0
    rcases q0 with q1 | ⟨q1, q2⟩
    · go_enter Tryd.func6, Tryd.ntmps6
      go_wp2_with fail
      refine (shown_any w HK.out).mono ?_
      rintro e w1 ⟨rfl, b1⟩
      have B1 : Hid (Below w.heap.size w w1) := b1
      clear b1
      go_wp2_with (first
        | (go_at_call 11; refine (CK.out _).mono ?_; rintro e wq ⟨rfl, hq⟩; have hq' := hq.symm; clear hq; subst hq')
        | (go_at_call 11; refine (CL.out _).mono ?_; rintro e wq ⟨rfl, hq⟩; have hq' := hq.symm; clear hq; subst hq')
        | (go_at_call 11; refine (CZ.out _).mono ?_; rintro e wq ⟨rfl, hq⟩; have hq' := hq.symm; clear hq; subst hq'))
      refine (XA.out w1 ((B1.out.block 1 h1l).trans HK.out)).mono ?_
      rintro e w2 ⟨rfl, b2⟩
      have B2 : Hid (Below w.heap.size w w2) := B1.out.trans (b2.mono B1.out.size)
      clear b2 B1
      go_wp2_with (first
        | (go_at_call 11; refine (CK.out _).mono ?_; rintro e wq ⟨rfl, hq⟩; have hq' := hq.symm; clear hq; subst hq')
        | (go_at_call 11; refine (CL.out _).mono ?_; rintro e wq ⟨rfl, hq⟩; have hq' := hq.symm; clear hq; subst hq')
        | (go_at_call 11; refine (CZ.out _).mono ?_; rintro e wq ⟨rfl, hq⟩; have hq' := hq.symm; clear hq; subst hq'))
      refine (XB.out w2 ((B2.out.block 0 (by omega)).trans HT.out)).mono ?_
      rintro e w3 ⟨rfl, b3⟩
      have B3 : Hid (Below w.heap.size w w3) := B2.out.trans (b3.mono B2.out.size)
      clear b3 B2
      go_wp2_with (first
        | (go_at_call 11; refine (CK.out _).mono ?_; rintro e wq ⟨rfl, hq⟩; have hq' := hq.symm; clear hq; subst hq')
        | (go_at_call 11; refine (CL.out _).mono ?_; rintro e wq ⟨rfl, hq⟩; have hq' := hq.symm; clear hq; subst hq')
        | (go_at_call 11; refine (CZ.out _).mono ?_; rintro e wq ⟨rfl, hq⟩; have hq' := hq.symm; clear hq; subst hq'))
      refine (extract_any (lf KL) z k (by omega) (by omega) w3 ((B3.out.block 1 h1l).trans HK.out)).mono ?_
      rintro e w4 ⟨rfl, b4⟩
      have B4 : Hid (Below w.heap.size w w4) := B3.out.trans (b4.mono B3.out.size)
      obtain ⟨D, hD⟩ : ∃ D, macS (lf KL) z k = D := ⟨_, rfl⟩
      have HD : Hid (macS (lf KL) z k = D) := hD
      rw [hD]
      clear b4 B3 hD
      go_wp2_with (first
        | (go_at_call 11; refine (CK.out _).mono ?_; rintro e wq ⟨rfl, hq⟩; have hq' := hq.symm; clear hq; subst hq')
        | (go_at_call 11; refine (CL.out _).mono ?_; rintro e wq ⟨rfl, hq⟩; have hq' := hq.symm; clear hq; subst hq')
        | (go_at_call 11; refine (CZ.out _).mono ?_; rintro e wq ⟨rfl, hq⟩; have hq' := hq.symm; clear hq; subst hq'))
      refine (refMac_any (lf KL) z k (by omega) (by omega) w4 ((B4.out.block 0 (by omega)).trans HT.out)).mono ?_
      rintro e w5 ⟨rfl, b5⟩
      have B5 : Hid (Below w.heap.size w w5) := B4.out.trans (b5.mono B4.out.size)
      rw [HD.out]
      clear b5 B4
      go_wp2_with fail
      go_ret
      exact ⟨rfl, B5.out⟩
    · go_enter Tryd.func6, Tryd.ntmps6
      go_wp2_with fail
      refine (shown_any w HK.out).mono ?_
      rintro e w1 ⟨rfl, b1⟩
      have B1 : Hid (Below w.heap.size w w1) := b1
      clear b1
      go_wp2_with (first
        | (go_at_call 11; refine (CK.out _).mono ?_; rintro e wq ⟨rfl, hq⟩; have hq' := hq.symm; clear hq; subst hq')
        | (go_at_call 11; refine (CL.out _).mono ?_; rintro e wq ⟨rfl, hq⟩; have hq' := hq.symm; clear hq; subst hq')
        | (go_at_call 11; refine (CZ.out _).mono ?_; rintro e wq ⟨rfl, hq⟩; have hq' := hq.symm; clear hq; subst hq'))
      refine (XA.out w1 ((B1.out.block 1 h1l).trans HK.out)).mono ?_
      rintro e w2 ⟨rfl, b2⟩
      have B2 : Hid (Below w.heap.size w w2) := B1.out.trans (b2.mono B1.out.size)
      clear b2 B1
      go_wp2_with (first
        | (go_at_call 11; refine (CK.out _).mono ?_; rintro e wq ⟨rfl, hq⟩; have hq' := hq.symm; clear hq; subst hq')
        | (go_at_call 11; refine (CL.out _).mono ?_; rintro e wq ⟨rfl, hq⟩; have hq' := hq.symm; clear hq; subst hq')
        | (go_at_call 11; refine (CZ.out _).mono ?_; rintro e wq ⟨rfl, hq⟩; have hq' := hq.symm; clear hq; subst hq'))
      refine (XB.out w2 ((B2.out.block 0 (by omega)).trans HT.out)).mono ?_
      rintro e w3 ⟨rfl, b3⟩
      have B3 : Hid (Below w.heap.size w w3) := B2.out.trans (b3.mono B2.out.size)
      clear b3 B2
      go_wp2_with (first
        | (go_at_call 11; refine (CK.out _).mono ?_; rintro e wq ⟨rfl, hq⟩; have hq' := hq.symm; clear hq; subst hq')
        | (go_at_call 11; refine (CL.out _).mono ?_; rintro e wq ⟨rfl, hq⟩; have hq' := hq.symm; clear hq; subst hq')
        | (go_at_call 11; refine (CZ.out _).mono ?_; rintro e wq ⟨rfl, hq⟩; have hq' := hq.symm; clear hq; subst hq'))
      refine (extract_any (lf KL) z k (by omega) (by omega) w3 ((B3.out.block 1 h1l).trans HK.out)).mono ?_
      rintro e w4 ⟨rfl, b4⟩
      have B4 : Hid (Below w.heap.size w w4) := B3.out.trans (b4.mono B3.out.size)
      obtain ⟨D, hD⟩ : ∃ D, macS (lf KL) z k = D := ⟨_, rfl⟩
      have HD : Hid (macS (lf KL) z k = D) := hD
      rw [hD]
      clear b4 B3 hD
      go_wp2_with (first
        | (go_at_call 11; refine (CK.out _).mono ?_; rintro e wq ⟨rfl, hq⟩; have hq' := hq.symm; clear hq; subst hq')
        | (go_at_call 11; refine (CL.out _).mono ?_; rintro e wq ⟨rfl, hq⟩; have hq' := hq.symm; clear hq; subst hq')
        | (go_at_call 11; refine (CZ.out _).mono ?_; rintro e wq ⟨rfl, hq⟩; have hq' := hq.symm; clear hq; subst hq'))
      refine (refMac_any (lf KL) z k (by omega) (by omega) w4 ((B4.out.block 0 (by omega)).trans HT.out)).mono ?_
      rintro e w5 ⟨rfl, b5⟩
      have B5 : Hid (Below w.heap.size w w5) := B4.out.trans (b5.mono B4.out.size)
      rw [HD.out]
      clear b5 B4
      go_wp2_with fail
      go_ret
      exact ⟨rfl, B5.out⟩
end Go.Proofs.YtdpmocgcpbjhiaaDoor
