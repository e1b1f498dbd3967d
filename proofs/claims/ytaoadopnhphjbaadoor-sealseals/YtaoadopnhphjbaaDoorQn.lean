/- The reference: a key's part under a mask; the mac. What a key expands to, and what is extracted, against the reference: the walk. The reference's Subs; KeysSubs: the walk. -/
import Derived.Test.YtaoadopnhphjbaaDoorQm
import Derived.Test.YtaoadopnhphjbaaDoorQt
import Derived.Test.YtaoadopnhphjbaaDoorPVa
namespace Go.Proofs.YtaoadopnhphjbaaDoor
open Go.RowKit Go.Lib
set_option maxRecDepth 100000 in
theorem upto_congr {f g : Nat → Int} {n : Nat} (h : ∀ i, i < n → f i = g i) : upto f n = upto g n := by
  unfold upto
  exact List.map_congr_left fun i hi => h i (List.mem_range.1 hi)
set_option maxRecDepth 100000 in
theorem bt_upto (s : ByteArray) (n j : Nat) (hj : j < n) : bt (strOfNums (upto (bt s) n)) j = bt s j := by
  have hg : ∀ i, (upto (bt s) n).getD i 0 = if i < n then bt s i else 0 := fun i => by
    rw [List.getD_eq_getElem?_getD]
    unfold upto
    by_cases h : i < n
    · simp [h]
    · simp [h]
  rw [bt_nums _ (fun i => by rw [hg]; split; exact bt_range s i; decide) j (by rw [upto_length]; exact hj), hg, if_pos hj]
set_option maxRecDepth 100000 in
theorem msk_kpart (Kt : Nat → Int) (key : ByteArray) (c : Int) : msk (kpart Kt key) c = strOfNums (upto (fun i => bits .xor .u8 (bt (kp Kt key) i) c) 64) := by
  unfold msk
  rw [kpart_size]
  refine congrArg strOfNums (upto_congr fun i hi => ?_)
  unfold kpart
  rw [bt_upto _ _ _ hi]
set_option maxRecDepth 100000 in
set_option maxHeartbeats 2000000 in
theorem rpart3_any (Kt : Nat → Int) (key : ByteArray) (hk : key.size ≤ 1000000) (c : Int) (w : World) {tt : TypeId} {fr : Nat × Nat} (hT : w.heap[0]? = some (.cells (w64 Kt) tt fr)) :
    Calls Tryd.prog 70 #[.string key, .int .u8 c] w fun e w' => e = .returned (.string (msk (kpart Kt key) c)) ∧ Below w.heap.size w w' := by
  have HT : Hid (w.heap[0]? = some (.cells (w64 Kt) tt fr)) := hT
  obtain ⟨i0, hi, hz0, hz1, hz2⟩ := info_parts info5
  rw [msk_kpart]
  clear hT
  by_cases h64 : 64 < key.size
  · have q1 : (64 : Int) < (key.size : Int) := by omega
    have hkp : kp Kt key = shaS Kt key := by unfold kp; rw [if_pos h64]; rfl
    have RS : Hid (Calls Tryd.prog 51 #[.string key] w fun e w' => e = .returned (.string (shaS Kt key)) ∧ Below w.heap.size w w') := refSum_any Kt key hk w HT.out
    rw [hkp]
    clear hkp
    obtain ⟨K, hK⟩ : ∃ K, shaS Kt key = K := ⟨_, rfl⟩
    have hKs : K.size = 32 := by rw [← hK]; exact shaS_size _ _
    rw [hK] at RS ⊢
    clear hK
    go_enter Tryd.func70, Tryd.ntmps70
    go_wp2_with fail
    refine RS.out.mono ?_
    rintro e WW ⟨rfl, b1⟩
    have B1 : Hid (Below w.heap.size w WW) := b1
    clear b1 RS
    go_wp2_with fail
    go_loopw [5, 6] (fun v i wr => ∃ j : Nat, j ≤ 64 ∧ i = .int .i64 (j : Int) ∧ wr.ownsRow WW.heap.size 5 1 v j ((upto (fun i => bits .xor .u8 (bt K i) c) j).map (Value.int .u8)) ∧ Below WW.heap.size WW wr) (fun _ i _ => 64 - (intOf i).toNat)
    case atStart => exact ⟨0, by omega, rfl, World.ownsRow_nil _ _ _ _, Below.refl _ _⟩
    case round =>
      obtain ⟨j, hj, rfl, hown, hbe⟩ := hrel
      have HO : Hid (wr.ownsRow WW.heap.size 5 1 u5 j ((upto (fun i => bits .xor .u8 (bt K i) c) j).map (Value.int .u8))) := hown
      have HB : Hid (Below WW.heap.size WW wr) := hbe
      clear hown hbe
      by_cases hlt : j < 64
      · have j0 : (0 : Int) ≤ (j : Int) := by omega
        have j1 : (j : Int) < 64 := by omega
        obtain ⟨x, hx⟩ : ∃ x, bt K j = x := ⟨_, rfl⟩
        have HX : Hid (bt K j = x) := hx
        obtain ⟨v5, W5, hr5, o5, g5, _, _⟩ := run_append_own_at (P := Tryd.prog) (wr.alloc (.cells #[.int .u8 (bits .xor .u8 x c)] 5)) WW.heap.size 41 41 5 i0 (.int .u8 0) 1 1 Tryd.underlying41 hi hz0 hz1 hz2 rfl (by decide) u5 j _ (HO.out.alloc _) ⟨wr.heap.size, 0, none⟩ 1 1 [.int .u8 (bits .xor .u8 x c)] rfl (cell_one _ _ _) (fun u hu => by simp at hu; subst hu; rfl) (by unfold maxLen; omega) (by omega) (by have := HB.out.size; simp; omega)
        have O5 : Hid (W5.ownsRow WW.heap.size 5 1 v5 (j + 1) ((upto (fun i => bits .xor .u8 (bt K i) c) (j + 1)).map (Value.int .u8))) := by
          rw [upto_succ, List.map_append, HX.out]; exact o5
        have B5 : Hid (Below WW.heap.size WW W5) := (HB.out.alloc HB.out.size _).grown g5 (by have := HB.out.size; simp; omega) (fun k e => (HO.out.lt k e).1)
        clear o5 g5
        by_cases hk : j < K.size
        · have k1 : (j : Int) < (K.size : Int) := by omega
          have hix := idx_s K j hk
          rw [hx] at hix
          clear hx
          go_wp2_with (at_builtin; refine list_append rfl 41 41 (.tmp 24) (.tmp 28) rfl (vs := u5) (vx := .slice (some ⟨wr.heap.size, 0, none⟩) 1 1) rfl rfl hr5 ?_)
          go_roundw
          case rel => exact ⟨j + 1, hlt, by go_num, O5.out, B5.out⟩
          case measure => simp [intOf]; omega
        · have k1 : ¬ (j : Int) < (K.size : Int) := by omega
          obtain rfl : x = 0 := by rw [← hx]; exact bt_out K j (by omega)
          clear hx
          go_wp2_with (at_builtin; refine list_append rfl 41 41 (.tmp 24) (.tmp 28) rfl (vs := u5) (vx := .slice (some ⟨wr.heap.size, 0, none⟩) 1 1) rfl rfl hr5 ?_)
          go_roundw
          case rel => exact ⟨j + 1, hlt, by go_num, O5.out, B5.out⟩
          case measure => simp [intOf]; omega
      · obtain rfl : j = 64 := by omega
        have hcv : (convert 41 9 u5).run Tryd.prog wr = .ok (.string (strOfNums (upto (fun i => bits .xor .u8 (bt K i) c) 64))) wr := by
          obtain ⟨p, cap, hv⟩ : ∃ p cap, u5 = .slice (some ⟨p, 0, none⟩) 64 cap := by
            rcases HO.out.2 with ⟨_, h0⟩ | ⟨p, cap, _, h, _⟩
            · omega
            · exact ⟨p, cap, h⟩
          subst hv
          refine run_convert_bytes_arg wr 41 5 Tryd.underlying41 Tryd.underlying5 p 0 64 cap _ (by rw [upto_length]) (fun i hi => ?_) 9 Tryd.underlying9
          rw [Nat.zero_add]
          refine own_cell HO.out ?_
          simp [upto, List.getD, hi]
        have BF : Hid (Below w.heap.size w wr) := B1.out.trans (HB.out.mono B1.out.size)
        clear HO
        go_wp2_with fail
        go_ret
        exact ⟨rfl, BF.out⟩
  · have q1 : ¬ (64 : Int) < (key.size : Int) := by omega
    have hkp : kp Kt key = key := by unfold kp; rw [if_neg h64]
    rw [hkp]
    clear hkp
    obtain ⟨K, hK⟩ : ∃ K, key = K := ⟨_, rfl⟩
    rw [hK] at q1 hk ⊢
    obtain ⟨WW, hWW⟩ : ∃ WW, WW = w := ⟨_, rfl⟩
    have HW : Hid (WW = w) := hWW
    clear hK h64
    go_enter Tryd.func70, Tryd.ntmps70
    go_wp2_with fail
    rw [← hWW]
    clear hWW
    go_loopw [5, 6] (fun v i wr => ∃ j : Nat, j ≤ 64 ∧ i = .int .i64 (j : Int) ∧ wr.ownsRow WW.heap.size 5 1 v j ((upto (fun i => bits .xor .u8 (bt K i) c) j).map (Value.int .u8)) ∧ Below WW.heap.size WW wr) (fun _ i _ => 64 - (intOf i).toNat)
    case atStart => exact ⟨0, by omega, rfl, World.ownsRow_nil _ _ _ _, Below.refl _ _⟩
    case round =>
      obtain ⟨j, hj, rfl, hown, hbe⟩ := hrel
      have HO : Hid (wr.ownsRow WW.heap.size 5 1 u5 j ((upto (fun i => bits .xor .u8 (bt K i) c) j).map (Value.int .u8))) := hown
      have HB : Hid (Below WW.heap.size WW wr) := hbe
      clear hown hbe
      by_cases hlt : j < 64
      · have j0 : (0 : Int) ≤ (j : Int) := by omega
        have j1 : (j : Int) < 64 := by omega
        obtain ⟨x, hx⟩ : ∃ x, bt K j = x := ⟨_, rfl⟩
        have HX : Hid (bt K j = x) := hx
        obtain ⟨v5, W5, hr5, o5, g5, _, _⟩ := run_append_own_at (P := Tryd.prog) (wr.alloc (.cells #[.int .u8 (bits .xor .u8 x c)] 5)) WW.heap.size 41 41 5 i0 (.int .u8 0) 1 1 Tryd.underlying41 hi hz0 hz1 hz2 rfl (by decide) u5 j _ (HO.out.alloc _) ⟨wr.heap.size, 0, none⟩ 1 1 [.int .u8 (bits .xor .u8 x c)] rfl (cell_one _ _ _) (fun u hu => by simp at hu; subst hu; rfl) (by unfold maxLen; omega) (by omega) (by have := HB.out.size; simp; omega)
        have O5 : Hid (W5.ownsRow WW.heap.size 5 1 v5 (j + 1) ((upto (fun i => bits .xor .u8 (bt K i) c) (j + 1)).map (Value.int .u8))) := by
          rw [upto_succ, List.map_append, HX.out]; exact o5
        have B5 : Hid (Below WW.heap.size WW W5) := (HB.out.alloc HB.out.size _).grown g5 (by have := HB.out.size; simp; omega) (fun k e => (HO.out.lt k e).1)
        clear o5 g5
        by_cases hk : j < K.size
        · have k1 : (j : Int) < (K.size : Int) := by omega
          have hix := idx_s K j hk
          rw [hx] at hix
          clear hx
          go_wp2_with (at_builtin; refine list_append rfl 41 41 (.tmp 24) (.tmp 28) rfl (vs := u5) (vx := .slice (some ⟨wr.heap.size, 0, none⟩) 1 1) rfl rfl hr5 ?_)
          go_roundw
          case rel => exact ⟨j + 1, hlt, by go_num, O5.out, B5.out⟩
          case measure => simp [intOf]; omega
        · have k1 : ¬ (j : Int) < (K.size : Int) := by omega
          obtain rfl : x = 0 := by rw [← hx]; exact bt_out K j (by omega)
          clear hx
          go_wp2_with (at_builtin; refine list_append rfl 41 41 (.tmp 24) (.tmp 28) rfl (vs := u5) (vx := .slice (some ⟨wr.heap.size, 0, none⟩) 1 1) rfl rfl hr5 ?_)
          go_roundw
          case rel => exact ⟨j + 1, hlt, by go_num, O5.out, B5.out⟩
          case measure => simp [intOf]; omega
      · obtain rfl : j = 64 := by omega
        have hcv : (convert 41 9 u5).run Tryd.prog wr = .ok (.string (strOfNums (upto (fun i => bits .xor .u8 (bt K i) c) 64))) wr := by
          obtain ⟨p, cap, hv⟩ : ∃ p cap, u5 = .slice (some ⟨p, 0, none⟩) 64 cap := by
            rcases HO.out.2 with ⟨_, h0⟩ | ⟨p, cap, _, h, _⟩
            · omega
            · exact ⟨p, cap, h⟩
          subst hv
          refine run_convert_bytes_arg wr 41 5 Tryd.underlying41 Tryd.underlying5 p 0 64 cap _ (by rw [upto_length]) (fun i hi => ?_) 9 Tryd.underlying9
          rw [Nat.zero_add]
          refine own_cell HO.out ?_
          simp [upto, List.getD, hi]
        have BF : Hid (Below w.heap.size w wr) := by rw [← HW.out]; exact HB.out
        clear HO
        go_wp2_with fail
        go_ret
        exact ⟨rfl, BF.out⟩
set_option maxRecDepth 100000 in
theorem refMac_any (Kt : Nat → Int) (key s : ByteArray) (hk : key.size ≤ 1000000) (hs : s.size ≤ 100000) (w : World) {tt : TypeId} {fr : Nat × Nat} (hT : w.heap[0]? = some (.cells (w64 Kt) tt fr)) :
    Calls Tryd.prog 34 #[.string key, .string s] w fun e w' => e = .returned (.string (macS Kt key s)) ∧ Below w.heap.size w w' := by
  have h0l : 0 < w.heap.size := (Array.getElem?_eq_some_iff.1 hT).1
  have TX : Hid (Calls Tryd.prog 52 #[.string key, .string s] w fun e w' => ∃ b, e = .returned (.slice (some ⟨b, 0, none⟩) 2 2) ∧ w'.cell? ⟨b, 1, none⟩ = some (.string (msk (kpart Kt key) 92 ++ shaS Kt (msk (kpart Kt key) 54 ++ s))) ∧ Below w.heap.size w w') := by
    have HT : Hid (w.heap[0]? = some (.cells (w64 Kt) tt fr)) := hT
    have PA : Hid (∀ (c : Int) (W : World), W.heap[0]? = some (.cells (w64 Kt) tt fr) → Calls Tryd.prog 70 #[.string key, .int .u8 c] W fun e w' => e = .returned (.string (msk (kpart Kt key) c)) ∧ Below W.heap.size W w') := fun c W h => rpart3_any Kt key hk c W h
    have hm1 : (msk (kpart Kt key) 54).size = 64 := by rw [msk_size, kpart_size]
    have hm2 : (msk (kpart Kt key) 92).size = 64 := by rw [msk_size, kpart_size]
    obtain ⟨x, hx⟩ : ∃ x, msk (kpart Kt key) 54 = x := ⟨_, rfl⟩
    obtain ⟨y, hy⟩ : ∃ y, msk (kpart Kt key) 92 = y := ⟨_, rfl⟩
    have P1 := PA.out 54
    have P2 := PA.out 92
    rw [hx] at P1 hm1 ⊢
    rw [hy] at P2 hm2 ⊢
    have H1 : Hid _ := P1
    have H2 : Hid _ := P2
    clear hT P1 P2 PA hx hy
    refine (?_ : Calls Tryd.prog 52 #[.string key, .string s] w fun e w' => ∃ b, e = .returned (.slice (some ⟨b, 0, none⟩) 2 2) ∧ w'.cell? ⟨b, 1, none⟩ = some (.string (y ++ shaS Kt (x ++ s))) ∧ Below w.heap.size w w')
    have z1 : (x.size : Int) + (s.size : Int) ≤ 100064 := by omega
    go_enter Tryd.func52, Tryd.ntmps52
    go_wp2_with fail
    refine (H1.out w HT.out).mono ?_
    rintro e w1 ⟨rfl, b1⟩
    have B1 : Hid (Below w.heap.size w w1) := b1
    clear b1
    have hxs : (x ++ s).size = x.size + s.size := ByteArray.size_append
    go_wp2_with fail
    refine (H2.out w1 ((B1.out.block 0 h0l).trans HT.out)).mono ?_
    rintro e w2 ⟨rfl, b2⟩
    have B2 : Hid (Below w.heap.size w w2) := B1.out.trans (b2.mono B1.out.size)
    clear b2 B1
    go_wp2_with fail
    refine (refSum_any Kt (x ++ s) (by omega) w2 ((B2.out.block 0 h0l).trans HT.out)).mono ?_
    rintro e w3 ⟨rfl, b3⟩
    have B3 : Hid (Below w.heap.size w w3) := B2.out.trans (b3.mono B2.out.size)
    rw [show strOfNums (dig Kt (lf IV) (bt (x ++ s)) (x ++ s).size) = shaS Kt (x ++ s) from rfl]
    obtain ⟨z, hz⟩ : ∃ z, shaS Kt (x ++ s) = z := ⟨_, rfl⟩
    have hzs : z.size = 32 := by rw [← hz]; exact shaS_size _ _
    have HZ : Hid (shaS Kt (x ++ s) = z) := hz
    rw [hz]
    clear hz
    clear b3 B2
    have R4 : Hid ((w3.alloc (.cells #[.string (x ++ s), .string (y ++ z)] 9)).cell? ⟨w3.heap.size, 1, none⟩ = some (.string (y ++ z))) := by rw [cell_of_row _ _ _ _ _ _ (heap_alloc_new w3 _)]; rfl
    have B4 : Hid (Below w.heap.size w (w3.alloc (.cells #[.string (x ++ s), .string (y ++ z)] 9))) := B3.out.alloc B3.out.size _
    go_wp2_with fail
    go_ret
    exact ⟨w3.heap.size, rfl, by rw [HZ.out]; exact R4.out, B4.out⟩
  have HT : Hid (w.heap[0]? = some (.cells (w64 Kt) tt fr)) := hT
  have HM : Hid (macS Kt key s = shaS Kt (msk (kpart Kt key) 92 ++ shaS Kt (msk (kpart Kt key) 54 ++ s))) := rfl
  have hms : (msk (kpart Kt key) 92 ++ shaS Kt (msk (kpart Kt key) 54 ++ s)).size = 96 := by rw [ByteArray.size_append, msk_size, kpart_size, shaS_size]
  generalize msk (kpart Kt key) 92 ++ shaS Kt (msk (kpart Kt key) 54 ++ s) = M at *
  clear hT
  go_enter Tryd.func34, Tryd.ntmps34
  go_wp2_with fail
  refine TX.out.mono ?_
  rintro e w1 ⟨b, rfl, c1, b1⟩
  have B1 : Hid (Below w.heap.size w w1) := b1
  clear b1 TX
  go_wp2_with fail
  refine (refSum_any Kt M (by omega) w1 ((B1.out.block 0 h0l).trans HT.out)).mono ?_
  rintro e w2 ⟨rfl, b2⟩
  have B2 : Hid (Below w.heap.size w w2) := B1.out.trans (b2.mono B1.out.size)
  rw [show strOfNums (dig Kt (lf IV) (bt M) M.size) = shaS Kt M from rfl]
  generalize shaS Kt M = z at *
  clear b2 B1
  go_wp2_with fail
  go_ret
  exact ⟨by rw [HM.out]; rfl, B2.out⟩
end Go.Proofs.YtaoadopnhphjbaaDoor
namespace Go.Proofs.YtaoadopnhphjbaaDoor
open Go.RowKit Go.Lib
/-- T1 to Tj, behind each other. -/
def outS (Kt : Nat → Int) (key label : ByteArray) : Nat → ByteArray
  | 0 => ⟨#[]⟩
  | j + 1 => outS Kt key label j ++ tsq Kt key label (j + 1)
set_option maxRecDepth 100000 in
theorem outS_size (Kt : Nat → Int) (key label : ByteArray) (j : Nat) : (outS Kt key label j).size = 32 * j := by
  induction j with
  | zero => rfl
  | succ j ih => show (outS Kt key label j ++ tsq Kt key label (j + 1)).size = _; rw [ByteArray.size_append, ih, tsq_size]; omega
set_option maxRecDepth 100000 in
theorem outS_bt (Kt : Nat → Int) (key label : ByteArray) (j : Nat) : ∀ k, k < 32 * j → bt (outS Kt key label j) k = xpd Kt key label k := by
  induction j with
  | zero => intro k hk; omega
  | succ j ih =>
    intro k hk
    show bt (outS Kt key label j ++ tsq Kt key label (j + 1)) k = _
    rw [bt_app, outS_size]
    by_cases h : k < 32 * j
    · rw [if_pos h]; exact ih k h
    · rw [if_neg h, ← xpd_at Kt key label j (k - 32 * j) (by omega), show 32 * j + (k - 32 * j) = k by omega]
set_option maxRecDepth 100000 in
theorem xpd_byte (Kt : Nat → Int) (key label : ByteArray) (k : Nat) : 0 ≤ xpd Kt key label k ∧ xpd Kt key label k < 256 := bt_range _ _
set_option maxRecDepth 100000 in
theorem outS_cut (Kt : Nat → Int) (key label : ByteArray) (j n : Nat) (h : n ≤ 32 * j) : (outS Kt key label j).extract 0 n = xS Kt key label n := by
  have hs : ((outS Kt key label j).extract 0 n).size = n := by have := outS_size Kt key label j; simp; omega
  refine bt_same _ _ (by rw [hs, xS_size]) fun k hk => ?_
  rw [hs] at hk
  rw [bt_ext _ _ _ _ (by have := outS_size Kt key label j; omega), Nat.zero_add, outS_bt _ _ _ _ _ (by omega)]
  unfold xS
  have hg : ∀ i, (upto (xpd Kt key label) n).getD i 0 = if i < n then xpd Kt key label i else 0 := fun i => by
    rw [List.getD_eq_getElem?_getD]
    unfold upto
    by_cases h : i < n
    · simp [h]
    · simp [h]
  rw [bt_nums _ (fun i => by rw [hg]; split; exact xpd_byte _ _ _ _; decide) k (by rw [upto_length]; exact hk), hg, if_pos hk]
set_option maxRecDepth 100000 in
set_option maxHeartbeats 2000000 in
theorem refExpand_yes (Kt : Nat → Int) (key label : ByteArray) (hk : key.size ≤ 1000000) (hlb : label.size ≤ 1000) (n : Nat) (hn : n ≤ 8160) (w : World) {tt : TypeId} {fr : Nat × Nat} (hT : w.heap[0]? = some (.cells (w64 Kt) tt fr)) :
    Calls Tryd.prog 50 #[.string key, .string label, .int .i64 (n : Int)] w fun e w' => e = .returned (.tuple #[.string (xS Kt key label n), .int .i64 0]) ∧ Below w.heap.size w w' := by
  have h0l : 0 < w.heap.size := (Array.getElem?_eq_some_iff.1 hT).1
  have HT : Hid (w.heap[0]? = some (.cells (w64 Kt) tt fr)) := hT
  have q1 : decide ((n : Int) < 0) = false := by simp
  have q2 : decide ((8160 : Int) < (n : Int)) = false := by simp; omega
  clear hT
  go_enter Tryd.func50, Tryd.ntmps50
  go_wp2_with fail
  go_loopw [8, 9, 10] (fun u v i wr => ∃ j : Nat, (j = 0 ∨ 32 * j < n + 32) ∧ u = .string (outS Kt key label j) ∧ v = .string (tsq Kt key label j) ∧ i = .int .i64 ((j : Int) + 1) ∧ Below w.heap.size w wr) (fun _ _ i _ => 300 - natOf i)
  case atStart => exact ⟨0, .inl rfl, rfl, rfl, rfl, Below.refl _ _⟩
  case round =>
    obtain ⟨j, hj, rfl, rfl, rfl, hbe⟩ := hrel
    have BX : Hid (Below w.heap.size w wr) := hbe
    clear hbe
    have hos := outS_size Kt key label j
    have hts := tsq_le Kt key label j
    have j0 : (0 : Int) ≤ (j : Int) := by omega
    by_cases hlt : 32 * j < n
    · have k1 : ((outS Kt key label j).size : Int) < (n : Int) := by omega
      have j1 : (j : Int) < 255 := by omega
      have hoc := one_new wr ((j : Int) + 1)
      have HOS : Hid (outS Kt key label (j + 1) = outS Kt key label j ++ tsq Kt key label (j + 1)) := rfl
      have HT1 : Hid (tsq Kt key label (j + 1) = macS Kt key (tsq Kt key label j ++ label ++ strOfNums [(j : Int) + 1])) := rfl
      have hT1s := tsq_size Kt key label j
      have hOs : (outS Kt key label j).size ≤ 8160 := by omega
      obtain ⟨T1, hTT⟩ : ∃ T1, tsq Kt key label (j + 1) = T1 := ⟨_, rfl⟩
      have HTT : Hid (tsq Kt key label (j + 1) = T1) := hTT
      rw [hTT] at HT1 hT1s HOS
      clear hTT hos
      generalize tsq Kt key label j = T0 at *
      generalize outS Kt key label j = O0 at *
      have hbs : (strOfNums [(j : Int) + 1]).size = 1 := strOfNums_size _
      generalize strOfNums [(j : Int) + 1] = O1 at *
      have hcat : (T0 ++ label ++ O1).size = T0.size + label.size + O1.size := by rw [ByteArray.size_append, ByteArray.size_append]
      have hc1 : (T0 ++ label).size = T0.size + label.size := ByteArray.size_append
      have z1 : (T0.size : Int) + (label.size : Int) ≤ 2000 := by omega
      have z2 : (O0.size : Int) ≤ 8160 := by omega
      have z3 : (T0.size : Int) + (label.size : Int) + (O1.size : Int) ≤ 2001 := by omega
      go_wp2_with fail
      have BA : Below w.heap.size w (wr.alloc (.cells #[.int .u8 ((j : Int) + 1)] 5)) := BX.out.alloc BX.out.size _
      refine (refMac_any Kt key (T0 ++ label ++ O1) hk (by omega) _ ((BA.block 0 h0l).trans HT.out)).mono ?_
      rintro e w3 ⟨rfl, b3⟩
      have B3 : Hid (Below w.heap.size w w3) := BA.trans (b3.mono BA.size)
      rw [← HT1.out]
      have zT : (T1.size : Int) = 32 := by omega
      clear b3 BA BX hoc hcat hc1
      go_wp2_with fail
      go_roundw
      case rel => exact ⟨j + 1, .inr (by omega), by rw [HOS.out], by rw [HTT.out], by go_num, B3.out⟩
      case measure => simp [natOf]; omega
    · have k1 : ¬ ((outS Kt key label j).size : Int) < (n : Int) := by omega
      have hcut := outS_cut Kt key label j n (by omega)
      have k2 : (n : Int) ≤ ((outS Kt key label j).size : Int) := by omega
      generalize outS Kt key label j = O0 at *
      have HC : Hid (O0.extract 0 n = xS Kt key label n) := hcut
      clear hcut
      go_wp2_with fail
      go_ret2
      exact ⟨by rw [← HC.out]; rfl, BX.out⟩
set_option maxRecDepth 100000 in
theorem refExpand_no (key label : ByteArray) (n : Int) (hn : n < 0 ∨ 8160 < n) (w : World) :
    Calls Tryd.prog 50 #[.string key, .string label, .int .i64 n] w fun e w' => e = .returned (.tuple #[.string ⟨#[]⟩, .int .i64 2]) ∧ w' = w := by
  have g1 : decide (n < 0) = true ∨ (decide (n < 0) = false ∧ decide (8160 < n) = true) := by simp; omega
  clear hn
  rcases g1 with g1 | ⟨g1, g2⟩
  · go_enter Tryd.func50, Tryd.ntmps50
    go_wp2_with fail
    go_ret2
    exact ⟨rfl, rfl⟩
  · go_enter Tryd.func50, Tryd.ntmps50
    go_wp2_with fail
    go_ret2
    exact ⟨rfl, rfl⟩
end Go.Proofs.YtaoadopnhphjbaaDoor
namespace Go.Proofs.YtaoadopnhphjbaaDoor.Rk
open Go.RowKit Go.Lib
set_option maxRecDepth 100000 in
set_option maxHeartbeats 4000000 in
theorem refSubs_any (Kt : Nat → Int) (k : Ky) (w : World) {tt : TypeId} {fr : Nat × Nat} (hT : w.heap[0]? = some (.cells (w64 Kt) tt fr)) :
    Calls Tryd.prog 33 #[kv k] w fun e w' => e = .returned (.tuple #[.string (sealS Kt k), .string (bindS Kt k), .int .i64 (subE k)]) ∧ Below w.heap.size w w' := by
  obtain ⟨g, s⟩ := k
  unfold kv
  have HT0 : Hid (w.heap[0]? = some (.cells (w64 Kt) tt fr)) := hT
  clear hT
  go_enter Tryd.func33, Tryd.ntmps33
  go_wp2_with fail
  have h2 := two_new w (.cells #[.int .u32 g, .string s] 44) (.cells #[.int .u32 g, .string s] 44)
  obtain ⟨w1, hw1⟩ : ∃ w1, (w.alloc (.cells #[.int .u32 g, .string s] 44)).alloc (.cells #[.int .u32 g, .string s] 44) = w1 := ⟨_, rfl⟩
  rw [hw1] at h2 ⊢
  obtain ⟨x1, y1, b1⟩ := h2
  have B1 : Hid (Below w.heap.size w w1) := b1
  have X1 : Hid (w1.heap[w.heap.size]? = some (.cells #[.int .u32 g, .string s] 44 (0, 0))) := x1
  have R1 : Hid (Ring w1 (some ⟨w.heap.size + 1, 0, none⟩) 1 [(g, s)]) := one_ring (k := (g, s)) y1
  clear hw1 x1 y1 b1
  refine (refRight_any [(g, s)] (some ⟨w.heap.size + 1, 0, none⟩) 1 w1 R1.out).mono ?_
  rintro e w2 ⟨rfl, rfl⟩
  clear R1
  cases hR : rightS [(g, s)]
  · have HV : Hid (sealS Kt (g, s) = ⟨#[]⟩ ∧ bindS Kt (g, s) = ⟨#[]⟩ ∧ subE (g, s) = 40) := by
      refine (?_ : sealS Kt (g, s) = ⟨#[]⟩ ∧ bindS Kt (g, s) = ⟨#[]⟩ ∧ subE (g, s) = 40)
      simp [sealS, bindS, subE, hR]
    clear hR
    go_wp2_with fail
    refine bodyPost_ret (results_tmp3 rfl _ _ _) rfl ?_
    exact ⟨by rw [HV.out.1, HV.out.2.1, HV.out.2.2]; rfl, B1.out⟩
  · have HV : Hid (sealS Kt (g, s) = xS Kt s (uSeal ++ gB g) 32 ∧ bindS Kt (g, s) = xS Kt s (uBind ++ gB g) 32 ∧ subE (g, s) = 0) := by
      refine (?_ : sealS Kt (g, s) = xS Kt s (uSeal ++ gB g) 32 ∧ bindS Kt (g, s) = xS Kt s (uBind ++ gB g) 32 ∧ subE (g, s) = 0)
      simp [sealS, bindS, subE, hR, subS]
    have h32 : s.size = 32 := right_one (g, s) hR
    have hf := four_new w2 (g % 256) (g / 256 % 256) (g / 65536 % 256) (g / 16777216 % 256)
    have hgb : strOfNums [g % 256, g / 256 % 256, g / 65536 % 256, g / 16777216 % 256] = gB g := rfl
    rw [hgb] at hf
    obtain ⟨c0, c1⟩ := two_cells X1.out
    have hl1 : w.heap.size < w2.heap.size := (Array.getElem?_eq_some_iff.1 X1.out).1
    have HE : Hid (∀ u : ByteArray, u.size ≤ 100 → ∀ W, Below w2.heap.size w2 W → Calls Tryd.prog 50 #[.string s, .string (u ++ gB g), .int .i64 32] W fun e w' => e = .returned (.tuple #[.string (xS Kt s (u ++ gB g) 32), .int .i64 0]) ∧ Below W.heap.size W w') := fun u hu W hB =>
      refExpand_yes Kt s (u ++ gB g) (by omega) (by rw [ByteArray.size_append, gB_size]; omega) 32 (by decide) W (keepsK (keepsK HT0.out B1.out (Nat.le_refl _)) hB (Nat.le_refl _))
    have hs1 : ¬ 9223372036854775807 < uSeal.size + (gB g).size := by rw [gB_size]; decide
    have hs2 : ¬ 9223372036854775807 < uBind.size + (gB g).size := by rw [gB_size]; decide
    clear hR hgb
    go_wp2_with fail
    obtain ⟨w3, hw3⟩ : ∃ w3, w2.alloc (.cells #[.int .u8 (g % 256), .int .u8 (g / 256 % 256), .int .u8 (g / 65536 % 256), .int .u8 (g / 16777216 % 256)] 5) = w3 := ⟨_, rfl⟩
    have D3 : Hid (Below w2.heap.size w2 w3) := by rw [← hw3]; exact below_new _ _
    rw [hw3]
    clear hw3 hf c0 c1 hl1
    refine (HE.out uSeal (by decide) w3 D3.out).mono ?_
    rintro e w4 ⟨rfl, b4⟩
    have D4 : Hid (Below w2.heap.size w2 w4) := D3.out.trans (b4.mono D3.out.size)
    rw [← HV.out.1]
    clear b4 D3
    obtain ⟨c0, c1⟩ := two_cells (keepsK X1.out D4.out (Nat.le_refl _))
    go_wp2_with fail
    clear c0 c1
    refine (HE.out uBind (by decide) w4 D4.out).mono ?_
    rintro e w5 ⟨rfl, b5⟩
    have D5 : Hid (Below w2.heap.size w2 w5) := D4.out.trans (b5.mono D4.out.size)
    rw [← HV.out.2.1]
    clear b5 D4 HE
    go_wp2_with fail
    refine bodyPost_ret (results_tmp3 rfl _ _ _) rfl ?_
    exact ⟨by rw [HV.out.2.2]; rfl, B1.out.trans (D5.out.mono B1.out.size)⟩
end Go.Proofs.YtaoadopnhphjbaaDoor.Rk
