/- A Summer's sums and lengths, behind each text that is written: the walk. -/
import Derived.Test.YtnijfadjacnchaaDoorSk
namespace Go.Proofs.YtnijfadjacnchaaDoor
open Go.RowKit Go.Lib
theorem Told.size {Kt iv m : Nat → Int} {W : World} {g L : Nat} (ht : Told Kt iv m W g L) : g < W.heap.size := by
  obtain ⟨r, h, _⟩ := ht
  exact (Array.getElem?_eq_some_iff.1 h).1
theorem len_told {Kt iv m : Nat → Int} {W : World} {g L : Nat} (ht : Told Kt iv m W g L) : Calls Tryd.prog 16 #[.pointer (some ⟨g, 0, none⟩)] W fun e w' => e = .returned (.int .i64 (L : Int)) ∧ w' = W := by
  obtain ⟨r, h, _⟩ := ht
  exact len_any g W h
set_option maxHeartbeats 4000000 in
theorem writes_walk (o : Option Addr) (len cap : Nat) (ts : Nat → ByteArray) (w : World)
    (hts : ∀ i, i < len → (∃ b off, o = some ⟨b, off, none⟩ ∧ b < w.heap.size ∧ w.cell? ⟨b, off + i, none⟩ = some (.string (ts i))) ∧ (ts i).size ≤ 140737488355328) {tt tt' : TypeId} {fr fr' : Nat × Nat} (hT : w.heap[0]? = some (.cells (w64 (lf KL)) tt' fr')) (hK : w.heap[1]? = some (.cells (w64 (lf KL)) tt fr)) :
    Calls Tryd.prog 6 #[.slice o len cap] w fun e w' => e = .returned (.bool true) ∧ Below w.heap.size w w' := by
  have h1l : 1 < w.heap.size := (Array.getElem?_eq_some_iff.1 hK).1
  have HK : Hid (w.heap[1]? = some (.cells (w64 (lf KL)) tt fr)) := hK
  have HT : Hid (w.heap[0]? = some (.cells (w64 (lf KL)) tt' fr')) := hT
  have HTS : Hid (∀ i, i < len → (∃ b off, o = some ⟨b, off, none⟩ ∧ b < w.heap.size ∧ w.cell? ⟨b, off + i, none⟩ = some (.string (ts i))) ∧ (ts i).size ≤ 140737488355328) := hts
  have NA : Hid (∀ w, Calls Tryd.prog 14 #[] w fun e w' => ∃ g, w.heap.size ≤ g ∧ e = .returned (.pointer (some ⟨g, 0, none⟩)) ∧ w'.heap[g]? = some (.cells (sm (lf IV) (fun _ => 0) 0) 49 (0, 0)) ∧ Below w.heap.size w w') := new_any
  clear hK hT hts
  go_enter Tryd.func6, Tryd.ntmps6
  go_wp2_with fail
  refine (shown_any w HK.out).mono ?_
  rintro e w1 ⟨rfl, b1⟩
  have B1 : Hid (Below w.heap.size w w1) := b1
  clear b1
  go_wp2_with fail
  refine (NA.out w1).mono ?_
  rintro e w2 ⟨g, hg, rfl, h2, b2⟩
  have T2 : Hid (Told (lf KL) (lf IV) (bt (catS ts 0)) w2 g 0) := ⟨_, h2, fun j hj => absurd hj (by omega)⟩
  have B2 : Hid (Below w.heap.size w w2) := B1.out.trans (b2.mono B1.out.size)
  have hgw : w.heap.size ≤ g := Nat.le_trans B1.out.size hg
  clear h2 b2 NA B1 hg
  go_wp2_with fail
  go_loopw [5, 6] (fun v i wr => ∃ j : Nat, j ≤ len ∧ j ≤ 10 ∧ v = .string (catS ts j) ∧ offs ts j ≤ 1000 ∧ i = .int .i64 (j : Int) ∧ Told (lf KL) (lf IV) (bt (catS ts j)) wr g (offs ts j) ∧ Below w.heap.size w wr) (fun _ i _ => 10 - (intOf i).toNat)
  case atStart => exact ⟨0, by omega, by omega, rfl, by simp [offs], rfl, by rw [show offs ts 0 = 0 from rfl]; exact T2.out, B2.out⟩
  case round =>
    clear T2 B2
    obtain ⟨j, hj, hj10, rfl, ho, rfl, htold, hbe⟩ := hrel
    have TW : Hid (Told (lf KL) (lf IV) (bt (catS ts j)) wr g (offs ts j)) := htold
    have BW : Hid (Below w.heap.size w wr) := hbe
    clear htold hbe
    have hcs := catS_size ts j
    obtain ⟨A, hA⟩ : ∃ A, catS ts j = A := ⟨_, rfl⟩
    have HA : Hid (catS ts j = A) := hA
    rw [hA, ← hcs, hA] at TW
    rw [hA] at hcs ⊢
    have j0 : (0 : Int) ≤ (j : Int) := by omega
    have hAs : (A.size : Int) ≤ 1000 := by omega
    have hA1 : A.size ≤ 1000 := by omega
    clear hA
    by_cases hlt : j < len ∧ j < 10
    · obtain ⟨hlt, hl10⟩ := hlt
      have q1 : decide ((j : Int) < (len : Int)) = true := by simp; omega
      have q2 : decide ((j : Int) < 10) = true := by simp; omega
      have j1 : (j : Int) < (len : Int) := by omega
      obtain ⟨⟨b, off, hob, hbw, hc⟩, c2⟩ := HTS.out j hlt
      subst hob
      have c1 : wr.cell? ⟨b, off + j, none⟩ = some (.string (ts j)) := (cell_same (BW.out.block b hbw) _).trans hc
      obtain ⟨T, hT⟩ : ∃ T, ts j = T := ⟨_, rfl⟩
      have HTj : Hid (ts j = T) := hT
      rw [hT] at c1 c2
      have hTs : (T.size : Int) ≤ 140737488355328 := by omega
      have HO : Hid (offs ts (j + 1) = A.size + T.size) := by rw [hcs, ← hT]; rfl
      have HC1 : Hid (catS ts (j + 1) = A ++ T) := by rw [← HA.out, ← hT]; rfl
      have hwr : ∀ W, W = wr → W.cell? ⟨b, off + j, none⟩ = some (.string T) := fun W h => by rw [h]; exact c1
      clear hT hc
      by_cases hbig : 1000 < A.size + T.size
      · have g1 : (1000 : Int) < (A.size : Int) + (T.size : Int) := by omega
        go_wp2_with fail
        go_ret
        exact ⟨rfl, BW.out⟩
      · have g1 : (A.size : Int) + (T.size : Int) ≤ 1000 := by omega
        have hLo : ∀ k, k < A.size → bt A k = bt (A ++ T) k := fun k hk => by rw [bt_app, if_pos hk]
        have hHi : ∀ k, k < T.size → bt T k = bt (A ++ T) (A.size + k) := fun k hk => by rw [bt_app, if_neg (by omega), show A.size + k - A.size = k by omega]
        have TW1 : Hid (Told (lf KL) (lf IV) (bt (A ++ T)) wr g A.size) := TW.out.congr hLo
        have HH : Hid (∀ k, k < T.size → bt T k = bt (A ++ T) (A.size + k)) := hHi
        have hAT : (A ++ T).size = A.size + T.size := ByteArray.size_append
        have hat : ((A ++ T).size : Int) = (A.size : Int) + (T.size : Int) := by omega
        clear hLo hHi TW hwr
        go_wp2_with fail
        refine (write_fits (lf KL) (lf IV) (bt (A ++ T)) (bt_range _) g A.size T wr ((BW.out.block 1 h1l).trans HK.out) (by omega) (by omega) TW1.out HH.out).mono ?_
        rintro e w3 ⟨rfl, h3, g3⟩
        generalize A ++ T = C at *
        have T3 : Hid (Told (lf KL) (lf IV) (bt C) w3 g C.size) := by rw [hAT]; exact h3
        have B3 : Hid (Below w.heap.size w w3) := BW.out.grown g3 BW.out.size (fun k e => by cases e; exact hgw)
        have hC1 : C.size ≤ 1000 := by omega
        clear h3 g3 TW1 HH BW c1
        go_wp2_with fail
        refine (len_told T3.out).mono ?_
        rintro e w4 ⟨rfl, h4⟩
        have h4' := h4.symm
        clear h4
        subst h4'
        go_wp2_with fail
        refine (sum_any (lf KL) (lf IV) (bt C) (bt_range _) g C.size w3 ((B3.out.block 1 h1l).trans HK.out) (by omega) T3.out).mono ?_
        rintro e w4 ⟨rfl, b4⟩
        have B4 : Hid (Below w.heap.size w w4) := B3.out.trans (b4.mono B3.out.size)
        have T4 : Hid (Told (lf KL) (lf IV) (bt C) w4 g C.size) := T3.out.below b4 T3.out.size
        obtain ⟨D, hD⟩ : ∃ D, strOfNums (dig (lf KL) (lf IV) (bt C) C.size) = D := ⟨_, rfl⟩
        have HD : Hid (strOfNums (dig (lf KL) (lf IV) (bt C) C.size) = D) := hD
        rw [hD]
        clear b4 B3 T3 hD
        go_wp2_with fail
        refine (refSum_any (lf KL) C (by omega) _ ((B4.out.block 0 (by omega)).trans HT.out)).mono ?_
        rintro e w5 ⟨rfl, b5⟩
        have B5 : Hid (Below w.heap.size w w5) := B4.out.trans (b5.mono B4.out.size)
        have T5 : Hid (Told (lf KL) (lf IV) (bt C) w5 g C.size) := T4.out.below b5 T4.out.size
        rw [HD.out]
        clear b5 B4 T4
        go_wp2_with fail
        go_roundw
        case rel => exact ⟨j + 1, by omega, by omega, by rw [HC1.out], by rw [HO.out]; omega, by go_num, by rw [HC1.out, HO.out, ← hAT]; exact T5.out, B5.out⟩
        case measure => simp [intOf]; omega
    · by_cases hjl : j < len
      · obtain rfl : j = 10 := by omega
        have q1 : (10 : Int) < (len : Int) := by omega
        clear hlt
        go_wp2_with fail
        refine (len_told TW.out).mono ?_
        rintro e w4 ⟨rfl, h4⟩
        have h4' := h4.symm
        clear h4
        subst h4'
        go_wp2_with fail
        refine (sum_any (lf KL) (lf IV) (bt A) (bt_range _) g A.size wr ((BW.out.block 1 h1l).trans HK.out) (by omega) TW.out).mono ?_
        rintro e w4 ⟨rfl, b4⟩
        have B4 : Hid (Below w.heap.size w w4) := BW.out.trans (b4.mono BW.out.size)
        obtain ⟨D, hD⟩ : ∃ D, strOfNums (dig (lf KL) (lf IV) (bt A) A.size) = D := ⟨_, rfl⟩
        have HD : Hid (strOfNums (dig (lf KL) (lf IV) (bt A) A.size) = D) := hD
        rw [hD]
        clear b4 BW TW hD
        go_wp2_with fail
        refine (refSum_any (lf KL) A (by omega) _ ((B4.out.block 0 (by omega)).trans HT.out)).mono ?_
        rintro e w5 ⟨rfl, b5⟩
        have B5 : Hid (Below w.heap.size w w5) := B4.out.trans (b5.mono B4.out.size)
        rw [HD.out]
        clear b5 B4
        go_wp2_with fail
        go_ret
        exact ⟨rfl, B5.out⟩
      · have q1 : ¬ (j : Int) < (len : Int) := by omega
        clear hlt
        go_wp2_with fail
        refine (len_told TW.out).mono ?_
        rintro e w4 ⟨rfl, h4⟩
        have h4' := h4.symm
        clear h4
        subst h4'
        go_wp2_with fail
        refine (sum_any (lf KL) (lf IV) (bt A) (bt_range _) g A.size wr ((BW.out.block 1 h1l).trans HK.out) (by omega) TW.out).mono ?_
        rintro e w4 ⟨rfl, b4⟩
        have B4 : Hid (Below w.heap.size w w4) := BW.out.trans (b4.mono BW.out.size)
        obtain ⟨D, hD⟩ : ∃ D, strOfNums (dig (lf KL) (lf IV) (bt A) A.size) = D := ⟨_, rfl⟩
        have HD : Hid (strOfNums (dig (lf KL) (lf IV) (bt A) A.size) = D) := hD
        rw [hD]
        clear b4 BW TW hD
        go_wp2_with fail
        refine (refSum_any (lf KL) A (by omega) _ ((B4.out.block 0 (by omega)).trans HT.out)).mono ?_
        rintro e w5 ⟨rfl, b5⟩
        have B5 : Hid (Below w.heap.size w w5) := B4.out.trans (b5.mono B4.out.size)
        rw [HD.out]
        clear b5 B4
        go_wp2_with fail
        go_ret
        exact ⟨rfl, B5.out⟩
end Go.Proofs.YtnijfadjacnchaaDoor
