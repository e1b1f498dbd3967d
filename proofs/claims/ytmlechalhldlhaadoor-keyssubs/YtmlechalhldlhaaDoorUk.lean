/- The reference: a key's part under a mask; the mac. -/
import Derived.Test.YtmlechalhldlhaaDoorUg
import Derived.Test.YtmlechalhldlhaaDoorTe
namespace Go.Proofs.YtmlechalhldlhaaDoor
open Go.RowKit Go.Lib
theorem upto_congr {f g : Nat → Int} {n : Nat} (h : ∀ i, i < n → f i = g i) : upto f n = upto g n := by
  unfold upto
  exact List.map_congr_left fun i hi => h i (List.mem_range.1 hi)
theorem bt_upto (s : ByteArray) (n j : Nat) (hj : j < n) : bt (strOfNums (upto (bt s) n)) j = bt s j := by
  have hg : ∀ i, (upto (bt s) n).getD i 0 = if i < n then bt s i else 0 := fun i => by
    rw [List.getD_eq_getElem?_getD]
    unfold upto
    by_cases h : i < n
    · simp [h]
    · simp [h]
  rw [bt_nums _ (fun i => by rw [hg]; split; exact bt_range s i; decide) j (by rw [upto_length]; exact hj), hg, if_pos hj]
theorem msk_kpart (Kt : Nat → Int) (key : ByteArray) (c : Int) : msk (kpart Kt key) c = strOfNums (upto (fun i => bits .xor .u8 (bt (kp Kt key) i) c) 64) := by
  unfold msk
  rw [kpart_size]
  refine congrArg strOfNums (upto_congr fun i hi => ?_)
  unfold kpart
  rw [bt_upto _ _ _ hi]
set_option maxHeartbeats 2000000 in
theorem rpart3_any (Kt : Nat → Int) (key : ByteArray) (hk : key.size ≤ 1000000) (c : Int) (w : World) {tt : TypeId} {fr : Nat × Nat} (hT : w.heap[0]? = some (.cells (w64 Kt) tt fr)) :
    Calls Tryd.prog 33 #[.string key, .int .u8 c] w fun e w' => e = .returned (.string (msk (kpart Kt key) c)) ∧ Below w.heap.size w w' := by
  have HT : Hid (w.heap[0]? = some (.cells (w64 Kt) tt fr)) := hT
  obtain ⟨i0, hi, hz0, hz1, hz2⟩ := info_parts info5
  rw [msk_kpart]
  clear hT
  by_cases h64 : 64 < key.size
  · have q1 : (64 : Int) < (key.size : Int) := by omega
    have hkp : kp Kt key = shaS Kt key := by unfold kp; rw [if_pos h64]; rfl
    have RS : Hid (Calls Tryd.prog 26 #[.string key] w fun e w' => e = .returned (.string (shaS Kt key)) ∧ Below w.heap.size w w') := refSum_any Kt key hk w HT.out
    rw [hkp]
    clear hkp
    obtain ⟨K, hK⟩ : ∃ K, shaS Kt key = K := ⟨_, rfl⟩
    have hKs : K.size = 32 := by rw [← hK]; exact shaS_size _ _
    rw [hK] at RS ⊢
    clear hK
    go_enter Tryd.func33, Tryd.ntmps33
    go_wp2_with fail
    refine RS.out.mono ?_
    rintro e WW ⟨rfl, b1⟩
    have B1 : Hid (Below w.heap.size w WW) := b1
    clear b1 RS
    go_wp2_with fail
    go_loopw [5, 6] (fun v i wr => ∃ j : Nat, j ≤ 64 ∧ i = .int .i64 (j : Int) ∧ wr.ownsRow WW.heap.size 5 1 v j ((upto (fun i => bits .xor .u8 (bt K i) c) j).map (Value.int .u8)) ∧ Below WW.heap.size WW wr) (fun _ i _ => 64 - (intOf i).toNat)
    case atStart => exact ⟨0, by omega, rfl, World.ownsRow_nil _ _ _ _, Below.refl _ _⟩
    case round =>
      obtain ⟨j, hj, rfl, hown, hbe⟩ := hrel
      have HO : Hid (wr.ownsRow WW.heap.size 5 1 u5 j ((upto (fun i => bits .xor .u8 (bt K i) c) j).map (Value.int .u8))) := hown
      have HB : Hid (Below WW.heap.size WW wr) := hbe
      clear hown hbe
      by_cases hlt : j < 64
      · have j0 : (0 : Int) ≤ (j : Int) := by omega
        have j1 : (j : Int) < 64 := by omega
        obtain ⟨x, hx⟩ : ∃ x, bt K j = x := ⟨_, rfl⟩
        have HX : Hid (bt K j = x) := hx
        obtain ⟨v5, W5, hr5, o5, g5, _, _⟩ := run_append_own_at (P := Tryd.prog) (wr.alloc (.cells #[.int .u8 (bits .xor .u8 x c)] 5)) WW.heap.size 42 42 5 i0 (.int .u8 0) 1 1 Tryd.underlying42 hi hz0 hz1 hz2 rfl (by decide) u5 j _ (HO.out.alloc _) ⟨wr.heap.size, 0, none⟩ 1 1 [.int .u8 (bits .xor .u8 x c)] rfl (cell_one _ _ _) (fun u hu => by simp at hu; subst hu; rfl) (by unfold maxLen; omega) (by omega) (by have := HB.out.size; simp; omega)
        have O5 : Hid (W5.ownsRow WW.heap.size 5 1 v5 (j + 1) ((upto (fun i => bits .xor .u8 (bt K i) c) (j + 1)).map (Value.int .u8))) := by
          rw [upto_succ, List.map_append, HX.out]; exact o5
        have B5 : Hid (Below WW.heap.size WW W5) := (HB.out.alloc HB.out.size _).grown g5 (by have := HB.out.size; simp; omega) (fun k e => (HO.out.lt k e).1)
        clear o5 g5
        by_cases hk : j < K.size
        · have k1 : (j : Int) < (K.size : Int) := by omega
          have hix := idx_s K j hk
          rw [hx] at hix
          clear hx
          go_wp2_with (at_builtin; refine list_append rfl 42 42 (.tmp 24) (.tmp 28) rfl (vs := u5) (vx := .slice (some ⟨wr.heap.size, 0, none⟩) 1 1) rfl rfl hr5 ?_)
          go_roundw
          case rel => exact ⟨j + 1, hlt, by go_num, O5.out, B5.out⟩
          case measure => simp [intOf]; omega
        · have k1 : ¬ (j : Int) < (K.size : Int) := by omega
          obtain rfl : x = 0 := by rw [← hx]; exact bt_out K j (by omega)
          clear hx
          go_wp2_with (at_builtin; refine list_append rfl 42 42 (.tmp 24) (.tmp 28) rfl (vs := u5) (vx := .slice (some ⟨wr.heap.size, 0, none⟩) 1 1) rfl rfl hr5 ?_)
          go_roundw
          case rel => exact ⟨j + 1, hlt, by go_num, O5.out, B5.out⟩
          case measure => simp [intOf]; omega
      · obtain rfl : j = 64 := by omega
        have hcv : (convert 42 9 u5).run Tryd.prog wr = .ok (.string (strOfNums (upto (fun i => bits .xor .u8 (bt K i) c) 64))) wr := by
          obtain ⟨p, cap, hv⟩ : ∃ p cap, u5 = .slice (some ⟨p, 0, none⟩) 64 cap := by
            rcases HO.out.2 with ⟨_, h0⟩ | ⟨p, cap, _, h, _⟩
            · omega
            · exact ⟨p, cap, h⟩
          subst hv
          refine run_convert_bytes_arg wr 42 5 Tryd.underlying42 Tryd.underlying5 p 0 64 cap _ (by rw [upto_length]) (fun i hi => ?_) 9 Tryd.underlying9
          rw [Nat.zero_add]
          refine own_cell HO.out ?_
          simp [upto, List.getD, hi]
        have BF : Hid (Below w.heap.size w wr) := B1.out.trans (HB.out.mono B1.out.size)
        clear HO
        go_wp2_with fail
        go_ret
        exact ⟨rfl, BF.out⟩
  · have q1 : ¬ (64 : Int) < (key.size : Int) := by omega
    have hkp : kp Kt key = key := by unfold kp; rw [if_neg h64]
    rw [hkp]
    clear hkp
    obtain ⟨K, hK⟩ : ∃ K, key = K := ⟨_, rfl⟩
    rw [hK] at q1 hk ⊢
    obtain ⟨WW, hWW⟩ : ∃ WW, WW = w := ⟨_, rfl⟩
    have HW : Hid (WW = w) := hWW
    clear hK h64
    go_enter Tryd.func33, Tryd.ntmps33
    go_wp2_with fail
    rw [← hWW]
    clear hWW
    go_loopw [5, 6] (fun v i wr => ∃ j : Nat, j ≤ 64 ∧ i = .int .i64 (j : Int) ∧ wr.ownsRow WW.heap.size 5 1 v j ((upto (fun i => bits .xor .u8 (bt K i) c) j).map (Value.int .u8)) ∧ Below WW.heap.size WW wr) (fun _ i _ => 64 - (intOf i).toNat)
    case atStart => exact ⟨0, by omega, rfl, World.ownsRow_nil _ _ _ _, Below.refl _ _⟩
    case round =>
      obtain ⟨j, hj, rfl, hown, hbe⟩ := hrel
      have HO : Hid (wr.ownsRow WW.heap.size 5 1 u5 j ((upto (fun i => bits .xor .u8 (bt K i) c) j).map (Value.int .u8))) := hown
      have HB : Hid (Below WW.heap.size WW wr) := hbe
      clear hown hbe
      by_cases hlt : j < 64
      · have j0 : (0 : Int) ≤ (j : Int) := by omega
        have j1 : (j : Int) < 64 := by omega
        obtain ⟨x, hx⟩ : ∃ x, bt K j = x := ⟨_, rfl⟩
        have HX : Hid (bt K j = x) := hx
        obtain ⟨v5, W5, hr5, o5, g5, _, _⟩ := run_append_own_at (P := Tryd.prog) (wr.alloc (.cells #[.int .u8 (bits .xor .u8 x c)] 5)) WW.heap.size 42 42 5 i0 (.int .u8 0) 1 1 Tryd.underlying42 hi hz0 hz1 hz2 rfl (by decide) u5 j _ (HO.out.alloc _) ⟨wr.heap.size, 0, none⟩ 1 1 [.int .u8 (bits .xor .u8 x c)] rfl (cell_one _ _ _) (fun u hu => by simp at hu; subst hu; rfl) (by unfold maxLen; omega) (by omega) (by have := HB.out.size; simp; omega)
        have O5 : Hid (W5.ownsRow WW.heap.size 5 1 v5 (j + 1) ((upto (fun i => bits .xor .u8 (bt K i) c) (j + 1)).map (Value.int .u8))) := by
          rw [upto_succ, List.map_append, HX.out]; exact o5
        have B5 : Hid (Below WW.heap.size WW W5) := (HB.out.alloc HB.out.size _).grown g5 (by have := HB.out.size; simp; omega) (fun k e => (HO.out.lt k e).1)
        clear o5 g5
        by_cases hk : j < K.size
        · have k1 : (j : Int) < (K.size : Int) := by omega
          have hix := idx_s K j hk
          rw [hx] at hix
          clear hx
          go_wp2_with (at_builtin; refine list_append rfl 42 42 (.tmp 24) (.tmp 28) rfl (vs := u5) (vx := .slice (some ⟨wr.heap.size, 0, none⟩) 1 1) rfl rfl hr5 ?_)
          go_roundw
          case rel => exact ⟨j + 1, hlt, by go_num, O5.out, B5.out⟩
          case measure => simp [intOf]; omega
        · have k1 : ¬ (j : Int) < (K.size : Int) := by omega
          obtain rfl : x = 0 := by rw [← hx]; exact bt_out K j (by omega)
          clear hx
          go_wp2_with (at_builtin; refine list_append rfl 42 42 (.tmp 24) (.tmp 28) rfl (vs := u5) (vx := .slice (some ⟨wr.heap.size, 0, none⟩) 1 1) rfl rfl hr5 ?_)
          go_roundw
          case rel => exact ⟨j + 1, hlt, by go_num, O5.out, B5.out⟩
          case measure => simp [intOf]; omega
      · obtain rfl : j = 64 := by omega
        have hcv : (convert 42 9 u5).run Tryd.prog wr = .ok (.string (strOfNums (upto (fun i => bits .xor .u8 (bt K i) c) 64))) wr := by
          obtain ⟨p, cap, hv⟩ : ∃ p cap, u5 = .slice (some ⟨p, 0, none⟩) 64 cap := by
            rcases HO.out.2 with ⟨_, h0⟩ | ⟨p, cap, _, h, _⟩
            · omega
            · exact ⟨p, cap, h⟩
          subst hv
          refine run_convert_bytes_arg wr 42 5 Tryd.underlying42 Tryd.underlying5 p 0 64 cap _ (by rw [upto_length]) (fun i hi => ?_) 9 Tryd.underlying9
          rw [Nat.zero_add]
          refine own_cell HO.out ?_
          simp [upto, List.getD, hi]
        have BF : Hid (Below w.heap.size w wr) := by rw [← HW.out]; exact HB.out
        clear HO
        go_wp2_with fail
        go_ret
        exact ⟨rfl, BF.out⟩
theorem refMac_any (Kt : Nat → Int) (key s : ByteArray) (hk : key.size ≤ 1000000) (hs : s.size ≤ 100000) (w : World) {tt : TypeId} {fr : Nat × Nat} (hT : w.heap[0]? = some (.cells (w64 Kt) tt fr)) :
    Calls Tryd.prog 22 #[.string key, .string s] w fun e w' => e = .returned (.string (macS Kt key s)) ∧ Below w.heap.size w w' := by
  have h0l : 0 < w.heap.size := (Array.getElem?_eq_some_iff.1 hT).1
  have TX : Hid (Calls Tryd.prog 27 #[.string key, .string s] w fun e w' => ∃ b, e = .returned (.slice (some ⟨b, 0, none⟩) 2 2) ∧ w'.cell? ⟨b, 1, none⟩ = some (.string (msk (kpart Kt key) 92 ++ shaS Kt (msk (kpart Kt key) 54 ++ s))) ∧ Below w.heap.size w w') := by
    have HT : Hid (w.heap[0]? = some (.cells (w64 Kt) tt fr)) := hT
    have PA : Hid (∀ (c : Int) (W : World), W.heap[0]? = some (.cells (w64 Kt) tt fr) → Calls Tryd.prog 33 #[.string key, .int .u8 c] W fun e w' => e = .returned (.string (msk (kpart Kt key) c)) ∧ Below W.heap.size W w') := fun c W h => rpart3_any Kt key hk c W h
    have hm1 : (msk (kpart Kt key) 54).size = 64 := by rw [msk_size, kpart_size]
    have hm2 : (msk (kpart Kt key) 92).size = 64 := by rw [msk_size, kpart_size]
    obtain ⟨x, hx⟩ : ∃ x, msk (kpart Kt key) 54 = x := ⟨_, rfl⟩
    obtain ⟨y, hy⟩ : ∃ y, msk (kpart Kt key) 92 = y := ⟨_, rfl⟩
    have P1 := PA.out 54
    have P2 := PA.out 92
    rw [hx] at P1 hm1 ⊢
    rw [hy] at P2 hm2 ⊢
    have H1 : Hid _ := P1
    have H2 : Hid _ := P2
    clear hT P1 P2 PA hx hy
    refine (?_ : Calls Tryd.prog 27 #[.string key, .string s] w fun e w' => ∃ b, e = .returned (.slice (some ⟨b, 0, none⟩) 2 2) ∧ w'.cell? ⟨b, 1, none⟩ = some (.string (y ++ shaS Kt (x ++ s))) ∧ Below w.heap.size w w')
    have z1 : (x.size : Int) + (s.size : Int) ≤ 100064 := by omega
    go_enter Tryd.func27, Tryd.ntmps27
    go_wp2_with fail
    refine (H1.out w HT.out).mono ?_
    rintro e w1 ⟨rfl, b1⟩
    have B1 : Hid (Below w.heap.size w w1) := b1
    clear b1
    have hxs : (x ++ s).size = x.size + s.size := ByteArray.size_append
    go_wp2_with fail
    refine (H2.out w1 ((B1.out.block 0 h0l).trans HT.out)).mono ?_
    rintro e w2 ⟨rfl, b2⟩
    have B2 : Hid (Below w.heap.size w w2) := B1.out.trans (b2.mono B1.out.size)
    clear b2 B1
    go_wp2_with fail
    refine (refSum_any Kt (x ++ s) (by omega) w2 ((B2.out.block 0 h0l).trans HT.out)).mono ?_
    rintro e w3 ⟨rfl, b3⟩
    have B3 : Hid (Below w.heap.size w w3) := B2.out.trans (b3.mono B2.out.size)
    rw [show strOfNums (dig Kt (lf IV) (bt (x ++ s)) (x ++ s).size) = shaS Kt (x ++ s) from rfl]
    obtain ⟨z, hz⟩ : ∃ z, shaS Kt (x ++ s) = z := ⟨_, rfl⟩
    have hzs : z.size = 32 := by rw [← hz]; exact shaS_size _ _
    have HZ : Hid (shaS Kt (x ++ s) = z) := hz
    rw [hz]
    clear hz
    clear b3 B2
    have R4 : Hid ((w3.alloc (.cells #[.string (x ++ s), .string (y ++ z)] 9)).cell? ⟨w3.heap.size, 1, none⟩ = some (.string (y ++ z))) := by rw [cell_of_row _ _ _ _ _ _ (heap_alloc_new w3 _)]; rfl
    have B4 : Hid (Below w.heap.size w (w3.alloc (.cells #[.string (x ++ s), .string (y ++ z)] 9))) := B3.out.alloc B3.out.size _
    go_wp2_with fail
    go_ret
    exact ⟨w3.heap.size, rfl, by rw [HZ.out]; exact R4.out, B4.out⟩
  have HT : Hid (w.heap[0]? = some (.cells (w64 Kt) tt fr)) := hT
  have HM : Hid (macS Kt key s = shaS Kt (msk (kpart Kt key) 92 ++ shaS Kt (msk (kpart Kt key) 54 ++ s))) := rfl
  have hms : (msk (kpart Kt key) 92 ++ shaS Kt (msk (kpart Kt key) 54 ++ s)).size = 96 := by rw [ByteArray.size_append, msk_size, kpart_size, shaS_size]
  generalize msk (kpart Kt key) 92 ++ shaS Kt (msk (kpart Kt key) 54 ++ s) = M at *
  clear hT
  go_enter Tryd.func22, Tryd.ntmps22
  go_wp2_with fail
  refine TX.out.mono ?_
  rintro e w1 ⟨b, rfl, c1, b1⟩
  have B1 : Hid (Below w.heap.size w w1) := b1
  clear b1 TX
  go_wp2_with fail
  refine (refSum_any Kt M (by omega) w1 ((B1.out.block 0 h0l).trans HT.out)).mono ?_
  rintro e w2 ⟨rfl, b2⟩
  have B2 : Hid (Below w.heap.size w w2) := B1.out.trans (b2.mono B1.out.size)
  rw [show strOfNums (dig Kt (lf IV) (bt M) M.size) = shaS Kt M from rfl]
  generalize shaS Kt M = z at *
  clear b2 B1
  go_wp2_with fail
  go_ret
  exact ⟨by rw [HM.out]; rfl, B2.out⟩
end Go.Proofs.YtmlechalhldlhaaDoor
