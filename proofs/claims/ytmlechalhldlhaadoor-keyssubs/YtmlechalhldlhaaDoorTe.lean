/- The reference: a text's sum. -/
import Derived.Test.YtmlechalhldlhaaDoorTd
namespace Go.Proofs.YtmlechalhldlhaaDoor
open Go.RowKit Go.Lib
theorem bt_part (s : ByteArray) (k j : Nat) (hk : 64 * k + 64 ≤ (filS s).size) (hj : j < 64) : bt ((filS s).extract (64 * k) (64 * k + 64)) j = mf (bt s) s.size (64 * k + j) := by
  rw [bt_ext _ _ _ _ (by omega), bt_filS _ _ (by omega)]
set_option maxRecDepth 100000 in
set_option maxHeartbeats 4000000 in
theorem refSum_any (Kt : Nat → Int) (s : ByteArray) (hsz : s.size ≤ 1000000) (w : World) {tt : TypeId} {fr : Nat × Nat} (hT : w.heap[0]? = some (.cells (w64 Kt) tt fr)) :
    Calls Tryd.prog 26 #[.string s] w fun e w' => e = .returned (.string (strOfNums (dig Kt (lf IV) (bt s) s.size))) ∧ Below w.heap.size w w' := by
  have h0l : 0 < w.heap.size := (Array.getElem?_eq_some_iff.1 hT).1
  have HT : Hid (w.heap[0]? = some (.cells (w64 Kt) tt fr)) := hT
  have HS : Hid (s.size ≤ 1000000) := hsz
  have FA : Hid (∀ w, Calls Tryd.prog 31 #[] w fun e w' => e = .returned (.slice (some ⟨w.heap.size, 0, none⟩) 8 8) ∧ w' = w.alloc (.cells (st8 (lf IV)) 22)) := first_any
  have HD : Hid (dig Kt (lf IV) (bt s) s.size = bw (hs Kt (lf IV) (mf (bt s) s.size) ((filS s).size / 64)) 8) := by
    refine (?_ : dig Kt (lf IV) (bt s) s.size = _); rw [filS_size]; rfl
  have HZ : Hid ((filS s).size % 64 = 0 ∧ (filS s).size ≤ 1000072) := by rw [filS_size]; exact ⟨fil_whole s.size, by have := fil_le s.size; have := HS.out; omega⟩
  have HBP : Hid (∀ k j, 64 * k + 64 ≤ (filS s).size → j < 64 → bt ((filS s).extract (64 * k) (64 * k + 64)) j = mf (bt s) s.size (64 * k + j)) := fun k j => bt_part s k j
  have FL : Hid (Calls Tryd.prog 30 #[.string s] w fun e w' => e = .returned (.string (filS s)) ∧ Below w.heap.size w w') := filled_any s hsz w
  clear hT hsz
  generalize filS s = f at *
  generalize lf IV = iv at *
  generalize mf (bt s) s.size = mm at *
  obtain ⟨i0, hi, hz0, hz1, hz2⟩ := info_parts info5
  go_enter Tryd.func26, Tryd.ntmps26
  go_wp2_with fail
  refine FL.out.mono ?_
  rintro e w1 ⟨rfl, b1⟩
  have B1 : Hid (Below w.heap.size w w1) := b1
  clear b1 FL
  go_wp2_with fail
  refine (FA.out w1).mono ?_
  rintro e w2 ⟨rfl, h2⟩
  have R2 : Hid (w2.heap[w1.heap.size]? = some (.cells (st8 iv) 22 (0, 0))) := by rw [h2]; exact heap_alloc_new w1 _
  have B2 : Hid (Below w.heap.size w w2) := by rw [h2]; exact B1.out.alloc B1.out.size _
  have S2 : Hid (w.heap.size ≤ w1.heap.size) := B1.out.size
  clear h2 B1 FA
  go_wp2_with fail
  go_loopw [4, 5] (fun v i wr => ∃ (k b : Nat), 64 * k ≤ f.size ∧ v = .slice (some ⟨b, 0, none⟩) 8 8 ∧ i = .int .i64 (64 * (k : Int)) ∧ w.heap.size ≤ b ∧ wr.heap[b]? = some (.cells (st8 (hs Kt iv mm k)) 22 (0, 0)) ∧ Below w.heap.size w wr) (fun _ i _ => f.size - (intOf i).toNat)
  case atStart => exact ⟨0, _, by omega, rfl, rfl, S2.out, R2.out, B2.out⟩
  case round =>
    clear R2 B2 S2
    obtain ⟨k, b, hk, rfl, rfl, hb, hrow, hbe⟩ := hrel
    have RX : Hid (wr.heap[b]? = some (.cells (st8 (hs Kt iv mm k)) 22 (0, 0))) := hrow
    have BX : Hid (Below w.heap.size w wr) := hbe
    have hz := HZ.out
    have k0 : (0 : Int) ≤ 64 * (k : Int) := by omega
    have k1 : 64 * (k : Int) ≤ 1000072 := by omega
    clear hrow hbe
    by_cases hlt : 64 * k < f.size
    · have a1 : 64 * (k : Int) < (f.size : Int) := by omega
      have a2 : 64 * (k : Int) + 64 ≤ (f.size : Int) := by omega
      have hk6 : 64 * k + 64 ≤ f.size := by omega
      have hz6 : (f.extract (64 * k) (64 * k + 64)).size = 64 := by simp; omega
      clear hz
      go_wp2_with fail
      refine (rpart_any Kt (hs Kt iv mm k) (f.extract (64 * k) (64 * k + 64)) hz6 b wr RX.out ((BX.out.block 0 h0l).trans HT.out)).mono ?_
      rintro e w3 ⟨g', rfl, hg', hr', b3⟩
      have R3 : Hid (w3.heap[g']? = some (.cells (st8 (hs Kt iv mm (k + 1))) 22 (0, 0))) := by
        rw [show hs Kt iv mm (k + 1) = chg Kt (hs Kt iv mm k) (bt (f.extract (64 * k) (64 * k + 64))) from (chg_congr (fun j hj => HBP.out k j hk6 hj)).symm]; exact hr'
      have B3 : Hid (Below w.heap.size w w3) := BX.out.trans (b3.mono BX.out.size)
      have G3 : Hid (w.heap.size ≤ g') := Nat.le_trans BX.out.size hg'
      clear RX BX hr' b3 hg' hz6
      go_wp2_with fail
      go_roundw
      case rel => exact ⟨k + 1, g', by omega, rfl, by go_num, G3.out, R3.out, B3.out⟩
      case measure => simp [intOf]; omega
    · have hkk : 64 * k = f.size := by omega
      have hkd : f.size / 64 = k := by omega
      have a1 : ¬ 64 * (k : Int) < (f.size : Int) := by omega
      rw [hkd] at HD
      have hbl : b < wr.heap.size := (Array.getElem?_eq_some_iff.1 RX.out).1
      have hwl : w.heap.size ≤ wr.heap.size := BX.out.size
      generalize hs Kt iv mm k = F at *
      clear hz HBP HZ hkd k1
      go_wp2_with fail
      obtain ⟨wo, hwo⟩ : ∃ wo, wo = wr := ⟨_, rfl⟩
      subst hwo
      go_loopw [6, 7] (fun v i wx => ∃ t : Nat, t ≤ 8 ∧ i = .int .i64 (t : Int) ∧ wx.ownsRow wo.heap.size 5 1 v (4 * t) ((bw F t).map (Value.int .u8)) ∧ Below wo.heap.size wo wx) (fun _ i _ => 8 - (intOf i).toNat)
      case atStart => exact ⟨0, by omega, rfl, World.ownsRow_nil _ _ _ _, Below.refl _ _⟩
      case round =>
        obtain ⟨t, ht, rfl, hown, hbw⟩ := hrel
        have HO : Hid (wr.ownsRow wo.heap.size 5 1 u6 (4 * t) ((bw F t).map (Value.int .u8))) := hown
        have HB : Hid (Below wo.heap.size wo wr) := hbw
        clear hown hbw
        by_cases hlt8 : t < 8
        · have t0 : (0 : Int) ≤ (t : Int) := by omega
          have t1 : (t : Int) < 8 := by omega
          have c0 : wr.cell? ⟨b, t, none⟩ = some (.int .u32 (F t)) := (cell_of_row wr b t _ _ _ ((HB.out.block b hbl).trans RX.out)).trans (st8_get F t hlt8)
          obtain ⟨x, hx⟩ : ∃ x, F t = x := ⟨_, rfl⟩
          rw [hx] at c0
          have HX : Hid (F t = x) := hx
          have HSW : Hid (wr.cell? ⟨b, t, none⟩ = some (.int .u32 x) ∧ True) := ⟨c0, trivial⟩
          clear c0 hx
          go_wp2_with fail
          refine wp_region_held (S := fun w' => w'.cell? ⟨b, t, none⟩ = some (.int .u32 x) ∧ True) (by kernel_rfl) ?_
          change wpAnyH _ _ _ _ _ _ _ _ (World.drew _)
          refine wpAnyH_take (i := 0) (v := ?_) rfl (by kernel_rfl) (by kernel_rfl) (by kernel_rfl) (fun _ _ _ h => h) (Or.inl ⟨by kernel_rfl, ?_⟩) HSW.out ?_
          rotate_left
          · intro w hS
            obtain ⟨c1, _⟩ := hS
            go_simp
            try with_reducible rfl
          conv in (Act.put _ _ _) => simp only [List.getElem_toArray, List.getElem_cons_succ, List.getElem_cons_zero, Act.put, List.setIfInBounds_toArray, List.set_cons_succ, List.set_cons_zero]
          refine wpAnyH_take (i := 1) (v := ?_) rfl (by kernel_rfl) (by kernel_rfl) (by kernel_rfl) (fun _ _ _ h => h) (Or.inl ⟨by kernel_rfl, ?_⟩) HSW.out ?_
          rotate_left
          · intro w hS
            obtain ⟨c1, _⟩ := hS
            go_simp
            try with_reducible rfl
          conv in (Act.put _ _ _) => simp only [List.getElem_toArray, List.getElem_cons_succ, List.getElem_cons_zero, Act.put, List.setIfInBounds_toArray, List.set_cons_succ, List.set_cons_zero]
          refine wpAnyH_take (i := 2) (v := ?_) rfl (by kernel_rfl) (by kernel_rfl) (by kernel_rfl) (fun _ _ _ h => h) (Or.inl ⟨by kernel_rfl, ?_⟩) HSW.out ?_
          rotate_left
          · intro w hS
            obtain ⟨c1, _⟩ := hS
            go_simp
            try with_reducible rfl
          conv in (Act.put _ _ _) => simp only [List.getElem_toArray, List.getElem_cons_succ, List.getElem_cons_zero, Act.put, List.setIfInBounds_toArray, List.set_cons_succ, List.set_cons_zero]
          refine wpAnyH_take (i := 3) (v := ?_) rfl (by kernel_rfl) (by kernel_rfl) (by kernel_rfl) (fun _ _ _ h => h) (Or.inl ⟨by kernel_rfl, ?_⟩) HSW.out ?_
          rotate_left
          · intro w hS
            obtain ⟨c1, _⟩ := hS
            go_simp
            try with_reducible rfl
          conv in (Act.put _ _ _) => simp only [List.getElem_toArray, List.getElem_cons_succ, List.getElem_cons_zero, Act.put, List.setIfInBounds_toArray, List.set_cons_succ, List.set_cons_zero]
          refine wpAnyH_take (i := 4) (v := ?_) rfl (by kernel_rfl) (by kernel_rfl) (by kernel_rfl) (fun _ _ _ h => h) (Or.inl ⟨by kernel_rfl, ?_⟩) HSW.out ?_
          rotate_left
          · intro w hS
            obtain ⟨c1, _⟩ := hS
            go_simp
            try with_reducible rfl
          conv in (Act.put _ _ _) => simp only [List.getElem_toArray, List.getElem_cons_succ, List.getElem_cons_zero, Act.put, List.setIfInBounds_toArray, List.set_cons_succ, List.set_cons_zero]
          refine wpAnyH_take (i := 5) (v := ?_) rfl (by kernel_rfl) (by kernel_rfl) (by kernel_rfl) (fun _ _ _ h => h) (Or.inl ⟨by kernel_rfl, ?_⟩) HSW.out ?_
          rotate_left
          · intro w hS
            obtain ⟨c1, _⟩ := hS
            go_simp
            try with_reducible rfl
          conv in (Act.put _ _ _) => simp only [List.getElem_toArray, List.getElem_cons_succ, List.getElem_cons_zero, Act.put, List.setIfInBounds_toArray, List.set_cons_succ, List.set_cons_zero]
          refine wpAnyH_take (i := 6) (v := ?_) rfl (by kernel_rfl) (by kernel_rfl) (by kernel_rfl) (fun _ _ _ h => h) (Or.inl ⟨by kernel_rfl, ?_⟩) HSW.out ?_
          rotate_left
          · intro w hS
            obtain ⟨c1, _⟩ := hS
            go_simp
            try with_reducible rfl
          conv in (Act.put _ _ _) => simp only [List.getElem_toArray, List.getElem_cons_succ, List.getElem_cons_zero, Act.put, List.setIfInBounds_toArray, List.set_cons_succ, List.set_cons_zero]
          refine wpAnyH_take (i := 7) (v := ?_) rfl (by kernel_rfl) (by kernel_rfl) (by kernel_rfl) (fun _ _ _ h => h) (Or.inl ⟨by kernel_rfl, ?_⟩) HSW.out ?_
          rotate_left
          · intro w hS
            obtain ⟨c1, _⟩ := hS
            go_simp
            try with_reducible rfl
          conv in (Act.put _ _ _) => simp only [List.getElem_toArray, List.getElem_cons_succ, List.getElem_cons_zero, Act.put, List.setIfInBounds_toArray, List.set_cons_succ, List.set_cons_zero]
          refine wpAnyH_take (i := 8) (v := ?_) rfl (by kernel_rfl) (by kernel_rfl) (by kernel_rfl) (fun _ _ _ h => h) (Or.inl ⟨by kernel_rfl, ?_⟩) HSW.out ?_
          rotate_left
          · intro w hS
            obtain ⟨c1, _⟩ := hS
            go_simp
            try with_reducible rfl
          conv in (Act.put _ _ _) => simp only [List.getElem_toArray, List.getElem_cons_succ, List.getElem_cons_zero, Act.put, List.setIfInBounds_toArray, List.set_cons_succ, List.set_cons_zero]
          refine wpAnyH_take (i := 9) (v := ?_) rfl (by kernel_rfl) (by kernel_rfl) (by kernel_rfl) (fun _ _ _ h => h) (Or.inl ⟨by kernel_rfl, ?_⟩) HSW.out ?_
          rotate_left
          · intro w hS
            obtain ⟨c1, _⟩ := hS
            go_simp
            try with_reducible rfl
          conv in (Act.put _ _ _) => simp only [List.getElem_toArray, List.getElem_cons_succ, List.getElem_cons_zero, Act.put, List.setIfInBounds_toArray, List.set_cons_succ, List.set_cons_zero]
          refine wpAnyH_take (i := 10) (v := ?_) rfl (by kernel_rfl) (by kernel_rfl) (by kernel_rfl) (fun _ _ _ h => h) (Or.inl ⟨by kernel_rfl, ?_⟩) HSW.out ?_
          rotate_left
          · intro w hS
            obtain ⟨c1, _⟩ := hS
            go_simp
            try with_reducible rfl
          conv in (Act.put _ _ _) => simp only [List.getElem_toArray, List.getElem_cons_succ, List.getElem_cons_zero, Act.put, List.setIfInBounds_toArray, List.set_cons_succ, List.set_cons_zero]
          refine wpAnyH_take (i := 11) (v := ?_) rfl (by kernel_rfl) (by kernel_rfl) (by kernel_rfl) (fun _ _ _ h => h) (Or.inl ⟨by kernel_rfl, ?_⟩) HSW.out ?_
          rotate_left
          · intro w hS
            obtain ⟨c1, _⟩ := hS
            go_simp
            try with_reducible rfl
          conv in (Act.put _ _ _) => simp only [List.getElem_toArray, List.getElem_cons_succ, List.getElem_cons_zero, Act.put, List.setIfInBounds_toArray, List.set_cons_succ, List.set_cons_zero]
          refine wpAnyH_take (i := 12) (v := ?_) rfl (by kernel_rfl) (by kernel_rfl) (by kernel_rfl) (fun _ _ _ h => h) (Or.inl ⟨by kernel_rfl, ?_⟩) HSW.out ?_
          rotate_left
          · intro w hS
            obtain ⟨c1, _⟩ := hS
            go_simp
            try with_reducible rfl
          conv in (Act.put _ _ _) => simp only [List.getElem_toArray, List.getElem_cons_succ, List.getElem_cons_zero, Act.put, List.setIfInBounds_toArray, List.set_cons_succ, List.set_cons_zero]
          refine wpAnyH_take (i := 13) (v := ?_) rfl (by kernel_rfl) (by kernel_rfl) (by kernel_rfl) (fun _ _ _ h => h) (Or.inl ⟨by kernel_rfl, ?_⟩) HSW.out ?_
          rotate_left
          · intro w hS
            obtain ⟨c1, _⟩ := hS
            go_simp
            try with_reducible rfl
          conv in (Act.put _ _ _) => simp only [List.getElem_toArray, List.getElem_cons_succ, List.getElem_cons_zero, Act.put, List.setIfInBounds_toArray, List.set_cons_succ, List.set_cons_zero]
          refine wpAnyH_take (i := 14) (v := ?_) rfl (by kernel_rfl) (by kernel_rfl) (by kernel_rfl) (fun _ _ _ h => h) (Or.inl ⟨by kernel_rfl, ?_⟩) HSW.out ?_
          rotate_left
          · intro w hS
            obtain ⟨c1, _⟩ := hS
            go_simp
            try with_reducible rfl
          conv in (Act.put _ _ _) => simp only [List.getElem_toArray, List.getElem_cons_succ, List.getElem_cons_zero, Act.put, List.setIfInBounds_toArray, List.set_cons_succ, List.set_cons_zero]
          refine wpAnyH_take (i := 15) (v := ?_) rfl (by kernel_rfl) (by kernel_rfl) (by kernel_rfl) (fun _ _ _ h => h) (Or.inl ⟨by kernel_rfl, ?_⟩) HSW.out ?_
          rotate_left
          · intro w hS
            obtain ⟨c1, _⟩ := hS
            go_simp
            try with_reducible rfl
          conv in (Act.put _ _ _) => simp only [List.getElem_toArray, List.getElem_cons_succ, List.getElem_cons_zero, Act.put, List.setIfInBounds_toArray, List.set_cons_succ, List.set_cons_zero]
          refine wpAnyH_take (i := 16) (v := ?_) rfl (by kernel_rfl) (by kernel_rfl) (by kernel_rfl) (fun _ _ _ h => h) (Or.inl ⟨by kernel_rfl, ?_⟩) HSW.out ?_
          rotate_left
          · intro w hS
            obtain ⟨c1, _⟩ := hS
            go_simp
            try with_reducible rfl
          conv in (Act.put _ _ _) => simp only [List.getElem_toArray, List.getElem_cons_succ, List.getElem_cons_zero, Act.put, List.setIfInBounds_toArray, List.set_cons_succ, List.set_cons_zero]
          refine wpAnyH_take (i := 17) (v := ?_) rfl (by kernel_rfl) (by kernel_rfl) (by kernel_rfl) (fun _ _ _ h => h) (Or.inl ⟨by kernel_rfl, ?_⟩) HSW.out ?_
          rotate_left
          · intro w hS
            obtain ⟨c1, _⟩ := hS
            go_simp
            try with_reducible rfl
          conv in (Act.put _ _ _) => simp only [List.getElem_toArray, List.getElem_cons_succ, List.getElem_cons_zero, Act.put, List.setIfInBounds_toArray, List.set_cons_succ, List.set_cons_zero]
          refine wpAnyH_take (i := 18) (v := ?_) rfl (by kernel_rfl) (by kernel_rfl) (by kernel_rfl) (fun _ _ _ h => h) (Or.inl ⟨by kernel_rfl, ?_⟩) HSW.out ?_
          rotate_left
          · intro w hS
            obtain ⟨c1, _⟩ := hS
            go_simp
            try with_reducible rfl
          conv in (Act.put _ _ _) => simp only [List.getElem_toArray, List.getElem_cons_succ, List.getElem_cons_zero, Act.put, List.setIfInBounds_toArray, List.set_cons_succ, List.set_cons_zero]
          refine wpAnyH_take (i := 19) (v := ?_) rfl (by kernel_rfl) (by kernel_rfl) (by kernel_rfl) (fun _ _ _ h => h) (Or.inl ⟨by kernel_rfl, ?_⟩) HSW.out ?_
          rotate_left
          · intro w hS
            obtain ⟨c1, _⟩ := hS
            go_simp
            try with_reducible rfl
          conv in (Act.put _ _ _) => simp only [List.getElem_toArray, List.getElem_cons_succ, List.getElem_cons_zero, Act.put, List.setIfInBounds_toArray, List.set_cons_succ, List.set_cons_zero]
          refine wpAnyH_take (i := 20) (v := ?_) rfl (by kernel_rfl) (by kernel_rfl) (by kernel_rfl) (fun _ _ _ h => h) (Or.inl ⟨by kernel_rfl, ?_⟩) HSW.out ?_
          rotate_left
          · intro w hS
            obtain ⟨c1, _⟩ := hS
            go_simp
            try with_reducible rfl
          conv in (Act.put _ _ _) => simp only [List.getElem_toArray, List.getElem_cons_succ, List.getElem_cons_zero, Act.put, List.setIfInBounds_toArray, List.set_cons_succ, List.set_cons_zero]
          refine wpAnyH_take (i := 21) (v := ?_) rfl (by kernel_rfl) (by kernel_rfl) (by kernel_rfl) (fun _ _ _ h => h) (Or.inl ⟨by kernel_rfl, ?_⟩) HSW.out ?_
          rotate_left
          · intro w hS
            obtain ⟨c1, _⟩ := hS
            go_simp
            try with_reducible rfl
          conv in (Act.put _ _ _) => simp only [List.getElem_toArray, List.getElem_cons_succ, List.getElem_cons_zero, Act.put, List.setIfInBounds_toArray, List.set_cons_succ, List.set_cons_zero]
          refine wpAnyH_take (i := 22) (v := ?_) rfl (by kernel_rfl) (by kernel_rfl) (by kernel_rfl) (fun _ _ _ h => h) (Or.inl ⟨by kernel_rfl, ?_⟩) HSW.out ?_
          rotate_left
          · intro w hS
            obtain ⟨c1, _⟩ := hS
            go_simp
            try with_reducible rfl
          conv in (Act.put _ _ _) => simp only [List.getElem_toArray, List.getElem_cons_succ, List.getElem_cons_zero, Act.put, List.setIfInBounds_toArray, List.set_cons_succ, List.set_cons_zero]
          refine wpAnyH_take (i := 23) (v := ?_) rfl (by kernel_rfl) (by kernel_rfl) (by kernel_rfl) (fun _ _ _ h => h) (Or.inl ⟨by kernel_rfl, ?_⟩) HSW.out ?_
          rotate_left
          · intro w hS
            obtain ⟨c1, _⟩ := hS
            go_simp
            try with_reducible rfl
          conv in (Act.put _ _ _) => simp only [List.getElem_toArray, List.getElem_cons_succ, List.getElem_cons_zero, Act.put, List.setIfInBounds_toArray, List.set_cons_succ, List.set_cons_zero]
          refine readyH 24 _ (by kernel_rfl) rfl (by kernel_rfl) (fun K hK => ?_)
          go_simp
          rw [show (#[.int .u8 (IntKind.u8.wrap (x / 16777216)), .int .u8 (IntKind.u8.wrap (x / 65536)), .int .u8 (IntKind.u8.wrap (x / 256)), .int .u8 (IntKind.u8.wrap x)] : Array Value) = #[.int .u8 (x / 16777216 % 256), .int .u8 (x / 65536 % 256), .int .u8 (x / 256 % 256), .int .u8 (x % 256)] by simp only [IntKind.wrap_u8]]
          obtain ⟨W4, hW4⟩ : ∃ W, (wr.alloc (.cells #[.int .u8 (x / 16777216 % 256), .int .u8 (x / 65536 % 256), .int .u8 (x / 256 % 256), .int .u8 (x % 256)] 5)).drew = W := ⟨_, rfl⟩
          have B4 : Hid (Below wo.heap.size wo W4) := by rw [← hW4]; exact (HB.out.alloc HB.out.size _).drew
          have O4 : Hid (W4.ownsRow wo.heap.size 5 1 u6 (4 * t) ((bw F t).map (Value.int .u8))) := by rw [← hW4]; exact (HO.out.alloc _).drew
          have N4 : ∀ j u, [Value.int .u8 (x / 16777216 % 256), .int .u8 (x / 65536 % 256), .int .u8 (x / 256 % 256), .int .u8 (x % 256)][j]? = some u → W4.cell? ((⟨wr.heap.size, 0, none⟩ : Addr).add j) = some u := by rw [← hW4]; exact cell_four wr _ _ _ _ 5
          have hbo : b < W4.heap.size := Nat.lt_of_lt_of_le hbl B4.out.size
          have S4 : Hid (W4.cell? ⟨b, t, none⟩ = some (.int .u32 x) ∧ True) := ⟨(cell_of_row W4 b t _ _ _ ((B4.out.block b hbl).trans RX.out)).trans (by rw [st8_get F t hlt8, HX.out]), trivial⟩
          rw [hW4]
          obtain ⟨v5, W5, hr5, o5, g5, _, _⟩ := run_append_own_at (P := Tryd.prog) W4 wo.heap.size 42 42 5 i0 (.int .u8 0) 1 1 Tryd.underlying42 hi hz0 hz1 hz2 rfl (by decide) u6 (4 * t) _ O4.out ⟨wr.heap.size, 0, none⟩ 4 4 [.int .u8 (x / 16777216 % 256), .int .u8 (x / 65536 % 256), .int .u8 (x / 256 % 256), .int .u8 (x % 256)] rfl N4 (fun u hu => by simp at hu; rcases hu with rfl | rfl | rfl | rfl <;> rfl) (by unfold maxLen; omega) (by omega) B4.out.size
          have O5 : Hid (W5.ownsRow wo.heap.size 5 1 v5 (4 * (t + 1)) ((bw F (t + 1)).map (Value.int .u8))) := by
            show W5.ownsRow wo.heap.size 5 1 v5 (4 * t + 4) ((bw F t ++ b4 (F t)).map (Value.int .u8))
            rw [List.map_append, HX.out]; exact o5
          have B5 : Hid (Below wo.heap.size wo W5) := B4.out.grown g5 B4.out.size (fun k e => (O4.out.lt k e).1)
          have S5 : Hid (W5.cell? ⟨b, t, none⟩ = some (.int .u32 x) ∧ True) := ⟨(cell_of_row W5 b t _ _ _ ((B5.out.block b hbl).trans RX.out)).trans (by rw [st8_get F t hlt8, HX.out]), trivial⟩
          clear hW4 HO HB o5 g5 O4 B4 N4 HSW
          refine hK _ _ S4.out ?_
          clear hK K
          refine readyH 25 _ (by kernel_rfl) rfl (by kernel_rfl) (fun K hK => ?_)
          refine op_append 42 42 (.tmp 28) (.tmp 52) rfl rfl rfl hr5 ?_
          refine hK _ _ S5.out ?_
          clear hK K
          conv in (Act.put _ _ _) => simp only [List.getElem_toArray, List.getElem_cons_succ, List.getElem_cons_zero, Act.put, List.setIfInBounds_toArray, List.set_cons_succ, List.set_cons_zero]
          refine readyH 26 _ (by kernel_rfl) rfl (by kernel_rfl) (fun K hK => ?_)
          go_simp
          refine hK _ _ S5.out ?_
          clear hK K
          refine wpAnyH_done (by kernel_rfl) ?_ _
          clear S4 S5
          go_wp2_with fail
          go_roundw
          case rel => exact ⟨t + 1, by omega, by go_num, O5.out, B5.out⟩
          case measure => simp [intOf]; omega
        · obtain rfl : t = 8 := by omega
          have hcv : (convert 42 9 u6).run Tryd.prog wr = .ok (.string (strOfNums (bw F 8))) wr := by
            obtain ⟨p, cap, hv⟩ : ∃ p cap, u6 = .slice (some ⟨p, 0, none⟩) (4 * 8) cap := by
              rcases HO.out.2 with ⟨_, h0⟩ | ⟨p, cap, _, h, _⟩
              · omega
              · exact ⟨p, cap, h⟩
            subst hv
            refine run_convert_bytes_arg wr 42 5 Tryd.underlying42 Tryd.underlying5 p 0 (4 * 8) cap (bw F 8) (by rw [bw_length]) (fun i hi => ?_) 9 Tryd.underlying9
            rw [Nat.zero_add]
            refine own_cell HO.out ?_
            rw [List.getElem?_map, List.getElem?_eq_getElem (by rw [bw_length]; exact hi)]
            simp [List.getD, List.getElem?_eq_getElem (show i < (bw F 8).length by rw [bw_length]; exact hi)]
          have BF : Hid (Below w.heap.size w wr) := BX.out.trans (HB.out.mono hwl)
          clear HO HB BX RX
          go_wp2_with fail
          go_ret
          exact ⟨by rw [HD.out]; rfl, BF.out⟩
end Go.Proofs.YtmlechalhldlhaaDoor
