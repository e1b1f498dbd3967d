import Derived.Test.YtdblhepahbienaaDoorSf
import Derived.Test.YtdblhepahbienaaDoorH
import Derived.Deep.OwnRows
import Derived.RegionTactic
namespace Go.Proofs.YtdblhepahbienaaDoor
open Go.RowKit
/-- So many zero bytes, as a text. -/
def zeros (n : Nat) : ByteArray := strOfNums (List.replicate n 0)
theorem zeros_size (n : Nat) : (zeros n).size = n := by unfold zeros; rw [strOfNums_size]; simp
theorem madeCells_get (n i : Nat) (hi : i < n) : (madeCells #[Value.int .u8 0] n)[i]? = some (.int .u8 0) := by
  unfold madeCells
  simp [hi, Nat.mod_one]
/-- Zero bytes at a block, as a text. -/
theorem zeros_conv {w : World} {g n : Nat} {tt : TypeId} {fr : Nat × Nat} (h : w.heap[g]? = some (.cells (madeCells #[.int .u8 0] n) tt fr)) :
    (convert 35 9 (.slice (some ⟨g, 0, none⟩) n n)).run Tryd.prog w = .ok (.string (zeros n)) w := by
  refine run_convert_bytes_arg w 35 5 Tryd.underlying35 Tryd.underlying5 g 0 n n (List.replicate n 0) (by simp) (fun i hi => ?_) 9 Tryd.underlying9
  rw [cell_of_row _ _ _ _ _ _ h, Nat.zero_add, madeCells_get n i hi]
  simp [List.getD, hi]
theorem step_zeros {ops : Array Oper} {o : Oper} {a : Act} {w : World} {K : Act → World → Prop} {Q : Exit → Act → World → Prop} {E : Prop} (hgd : o.guard = none) (l : Operand)
    (ho : o.op = .makeSlice 35 l l) (n : Nat) (hn : n ≤ 1100000) (hl : a.eval l = .int .i64 (n : Int))
    (h : ∀ w', w'.heap[w.heap.size]? = some (.cells (madeCells #[.int .u8 0] n) 5 (0, 0)) → Below w.heap.size w w' → w.heap.size < w'.heap.size → K (a.put o.dst (.slice (some ⟨w.heap.size, 0, none⟩) n n)) w') :
    if Region.wanted o (yielded ops a.tmps) = true then Oper.wp Tryd.prog o a w K Q else E := by
  have hw : Region.wanted o (yielded ops a.tmps) = true := by simp [Region.wanted, hgd]
  rw [if_pos hw]
  have hr := run_make_row' (P := Tryd.prog) 35 5 (.int .u8 0) 1 Tryd.underlying35 info5 rfl .i64 .i64 n (by omega) (by omega) w
  unfold Oper.wp execOp
  simp only [ho, hl, Sem.run_bind, hr, Sem.run_pure, Result.andThen_ok]
  exact h _ (heap_alloc_new w _) ((Below.refl _ w).alloc (Nat.le_refl _) _) (by simp)
set_option maxHeartbeats 4000000 in
theorem long_walk (n : Int) (w : World) {tt : TypeId} {fr : Nat × Nat} (hg : w.heap[0]? = some (.cells tab tt fr)) :
    Calls Tryd.prog 6 #[.int .i64 n] w fun e w' => e = .returned (.bool true) ∧ Below w.heap.size w w' := by
  have hw0 : 0 < w.heap.size := (Array.getElem?_eq_some_iff.1 hg).1
  have HG : Hid _ := hg
  clear hg
  by_cases hn : n < 1048570 ∨ 1100000 < n
  · have g1 : decide (n < 1048570) = true ∨ (decide (n < 1048570) = false ∧ decide (1100000 < n) = true) := by simp; omega
    rcases g1 with g1 | ⟨g1, g2⟩
    · clear hn
      go_enter Tryd.func6, Tryd.ntmps6
      go_wp2_with (go_at_call 9; refine (shown_any _ HG.out).mono ?_; rintro e w1 ⟨rfl, hb1⟩)
      go_ret
      exact ⟨rfl, hb1⟩
    · clear hn
      go_enter Tryd.func6, Tryd.ntmps6
      go_wp2_with (go_at_call 9; refine (shown_any _ HG.out).mono ?_; rintro e w1 ⟨rfl, hb1⟩)
      go_ret
      exact ⟨rfl, hb1⟩
  · obtain ⟨m, rfl⟩ : ∃ m : Nat, n = (m : Int) := ⟨n.toNat, by omega⟩
    have m0 : 1048570 ≤ m := by omega
    have m1 : m ≤ 1100000 := by omega
    have g1 : decide ((m : Int) < 1048570) = false := by simp; omega
    have g2 : decide ((1100000 : Int) < (m : Int)) = false := by simp; omega
    have M1 : Hid (m ≤ 1100000) := m1
    clear hn
    go_enter Tryd.func6, Tryd.ntmps6
    go_wp2_with (go_at_call 9; refine (shown_any _ HG.out).mono ?_; rintro e w1 ⟨rfl, hb1⟩)
    obtain ⟨kk, hkk⟩ : ∃ kk, strOfNums (upto (fun i => (i : Int)) 32) = kk := ⟨_, rfl⟩
    obtain ⟨nn, hnn⟩ : ∃ nn, strOfNums (upto (fun i => (i : Int)) 12) = nn := ⟨_, rfl⟩
    have HK : Hid (kk.size = 32) := by refine (?_ : kk.size = 32); rw [← hkk, strOfNums_size, upto_length]
    have HN : Hid (nn.size = 12) := by refine (?_ : nn.size = 12); rw [← hnn, strOfNums_size, upto_length]
    have R32 : Hid (∀ W : World, Calls Tryd.prog 17 #[.int .i64 32] W fun e w' => e = .returned (.string kk) ∧ Below W.heap.size W w') := fun W => by rw [← hkk]; exact rising_any 32 (by omega) W
    have R12 : Hid (∀ W : World, Calls Tryd.prog 17 #[.int .i64 12] W fun e w' => e = .returned (.string nn) ∧ Below W.heap.size W w') := fun W => by rw [← hnn]; exact rising_any 12 (by omega) W
    have hzs : (zeros m).size = m := zeros_size m
    clear hkk hnn m1
    have hb0 : Below w.heap.size w w1.drew := hb1.drew
    have hXX : ∃ (xs : ByteArray) (er : Int), Hid (∀ W : World, Below w.heap.size w W → Calls Tryd.prog 14 #[.string kk, .string nn, .string (zeros m)] W fun e w' => e = .returned (.tuple #[.string xs, .int .i64 er]) ∧ Below W.heap.size W w') ∧
        ((1048576 < m ∧ xs = ByteArray.empty ∧ er = 2) ∨ (m ≤ 1048576 ∧ xs.size = m ∧ er = 0)) := by
      by_cases hlong : 1048576 < m
      · exact ⟨_, _, fun W _ => Xor_long kk nn (zeros m) W HK.out HN.out (by rw [hzs]; exact hlong), .inl ⟨hlong, rfl, rfl⟩⟩
      · exact ⟨_, _, fun W hW => Xor_yes kk nn (zeros m) W HK.out HN.out (by rw [hzs]; exact Nat.le_of_not_lt hlong) ((hW.block 0 hw0).trans HG.out), .inr ⟨Nat.le_of_not_lt hlong, (xorS_size _ _ _).trans hzs, rfl⟩⟩
    obtain ⟨xs, er, HX, hlast⟩ := hXX
    have HL : Hid _ := hlast
    clear hlast hzs m0 g1 g2
    refine wp_region_any (by kernel_rfl) ?_
    change wpAny _ _ _ _ _ _ _ (World.drew _)
    refine wpAny_take (i := 2) (v := ?_) rfl (by kernel_rfl) (by kernel_rfl) (by kernel_rfl) (fun _ _ _ h => h) (Or.inl ⟨by rfl, ?_⟩) ?_
    rotate_left
    · intro w
      go_simp
      try with_reducible rfl
    refine wpAny_ready (rs := [0, 3]) (by kernel_rfl) (by simp) ?_
    refine (AllReady.cons rfl (fun K hK => ?_) (AllReady.cons rfl (fun K hK => ?_) AllReady.nil))
    · go_simp
      refine (R32.out _).mono ?_
      rintro e W1 ⟨rfl, hb⟩
      refine hK _ _ ?_
      clear hK K
      have hS1 := hb0.trans (hb.mono hb0.size)
      clear hb
      refine wpAny_ready (rs := [1, 3]) (by kernel_rfl) (by simp) ?_
      refine (AllReady.cons rfl (fun K hK => ?_) (AllReady.cons rfl (fun K hK => ?_) AllReady.nil))
      · go_simp
        refine (R12.out _).mono ?_
        rintro e W2 ⟨rfl, hb⟩
        refine hK _ _ ?_
        clear hK K
        have hS2 := hS1.trans (hb.mono hS1.size)
        clear hb
        refine wpAny_ready (rs := [3]) (by kernel_rfl) (by simp) ?_
        refine (AllReady.cons rfl (fun K hK => ?_) AllReady.nil)
        · refine step_zeros rfl (.tmp 17) rfl m M1.out (by rfl) (fun W3 hR3 hb _ => ?_)
          refine hK _ _ ?_
          clear hK K
          have hS3 := hS2.trans (hb.mono hS2.size)
          clear hb
          refine wpAny_ready (rs := [4]) (by kernel_rfl) (by simp) ?_
          refine (AllReady.cons rfl (fun K hK => ?_) AllReady.nil)
          · have hcv := zeros_conv hR3
            try have hcv2 : (convert 35 9 (.slice (some ⟨w1.heap.size, 0, none⟩) m m)).run Tryd.prog _ = .ok (.string (zeros m)) _ := hcv
            go_simp
            refine hK _ _ ?_
            clear hK K hcv
            try clear hcv2
            have hS := hS3
            refine wpAny_ready (rs := [5]) (by kernel_rfl) (by simp) ?_
            refine (AllReady.cons rfl (fun K hK => ?_) AllReady.nil)
            go_simp
            refine (HX.out _ hS).mono ?_
            rintro e W9 ⟨rfl, hb⟩
            refine hK _ _ ?_
            clear hK K
            have hX := hS.trans (hb.mono hS.size)
            clear hS hb
            refine wpAny_take (i := 6) (v := ?_) rfl (by kernel_rfl) (by kernel_rfl) (by kernel_rfl) (fun _ _ _ h => h) (Or.inl ⟨by rfl, ?_⟩) ?_
            rotate_left
            · intro w
              go_simp
              try with_reducible rfl
            refine wpAny_take (i := 7) (v := ?_) rfl (by kernel_rfl) (by kernel_rfl) (by kernel_rfl) (fun _ _ _ h => h) (Or.inl ⟨by rfl, ?_⟩) ?_
            rotate_left
            · intro w
              go_simp
              try with_reducible rfl
            refine wpAny_take (i := 8) (v := ?_) rfl (by kernel_rfl) (by kernel_rfl) (by kernel_rfl) (fun _ _ _ h => h) (Or.inl ⟨by rfl, ?_⟩) ?_
            rotate_left
            · intro w
              go_simp
              try with_reducible rfl
            refine wpAny_take (i := 9) (v := ?_) rfl (by kernel_rfl) (by kernel_rfl) (by kernel_rfl) (fun _ _ _ h => h) (Or.inl ⟨by rfl, ?_⟩) ?_
            rotate_left
            · intro w
              go_simp
              try with_reducible rfl
            refine wpAny_take (i := 10) (v := ?_) rfl (by kernel_rfl) (by kernel_rfl) (by kernel_rfl) (fun _ _ _ h => h) (Or.inl ⟨by rfl, ?_⟩) ?_
            rotate_left
            · intro w
              go_simp
              try with_reducible rfl
            refine wpAny_done (by kernel_rfl) ?_ _
            rcases HL.out with ⟨h1, rfl, rfl⟩ | ⟨h1, h2, rfl⟩
            · have g3 : decide ((1048576 : Int) < (m : Int)) = true := by simp; omega
              clear h1
              go_wp2
              go_ret
              exact ⟨rfl, hX⟩
            · have g3 : decide ((1048576 : Int) < (m : Int)) = false := by simp; omega
              have g4 : ((xs.size : Int) == (m : Int)) = true := by simp [h2]
              clear h1 h2
              go_wp2
              go_ret
              exact ⟨rfl, hX⟩
      · refine step_zeros rfl (.tmp 17) rfl m M1.out (by rfl) (fun W2 hR2 hb _ => ?_)
        refine hK _ _ ?_
        clear hK K
        have hS2 := hS1.trans (hb.mono hS1.size)
        clear hb
        refine wpAny_ready (rs := [1, 4]) (by kernel_rfl) (by simp) ?_
        refine (AllReady.cons rfl (fun K hK => ?_) (AllReady.cons rfl (fun K hK => ?_) AllReady.nil))
        · go_simp
          refine (R12.out _).mono ?_
          rintro e W3 ⟨rfl, hb⟩
          refine hK _ _ ?_
          clear hK K
          have hS3 := hS2.trans (hb.mono hS2.size)
          have hR3 := (hb.block _ (Array.getElem?_eq_some_iff.1 hR2).1).trans hR2
          clear hb
          refine wpAny_ready (rs := [4]) (by kernel_rfl) (by simp) ?_
          refine (AllReady.cons rfl (fun K hK => ?_) AllReady.nil)
          · have hcv := zeros_conv hR3
            try have hcv2 : (convert 35 9 (.slice (some ⟨w1.heap.size, 0, none⟩) m m)).run Tryd.prog _ = .ok (.string (zeros m)) _ := hcv
            go_simp
            refine hK _ _ ?_
            clear hK K hcv
            try clear hcv2
            have hS := hS3
            refine wpAny_ready (rs := [5]) (by kernel_rfl) (by simp) ?_
            refine (AllReady.cons rfl (fun K hK => ?_) AllReady.nil)
            go_simp
            refine (HX.out _ hS).mono ?_
            rintro e W9 ⟨rfl, hb⟩
            refine hK _ _ ?_
            clear hK K
            have hX := hS.trans (hb.mono hS.size)
            clear hS hb
            refine wpAny_take (i := 6) (v := ?_) rfl (by kernel_rfl) (by kernel_rfl) (by kernel_rfl) (fun _ _ _ h => h) (Or.inl ⟨by rfl, ?_⟩) ?_
            rotate_left
            · intro w
              go_simp
              try with_reducible rfl
            refine wpAny_take (i := 7) (v := ?_) rfl (by kernel_rfl) (by kernel_rfl) (by kernel_rfl) (fun _ _ _ h => h) (Or.inl ⟨by rfl, ?_⟩) ?_
            rotate_left
            · intro w
              go_simp
              try with_reducible rfl
            refine wpAny_take (i := 8) (v := ?_) rfl (by kernel_rfl) (by kernel_rfl) (by kernel_rfl) (fun _ _ _ h => h) (Or.inl ⟨by rfl, ?_⟩) ?_
            rotate_left
            · intro w
              go_simp
              try with_reducible rfl
            refine wpAny_take (i := 9) (v := ?_) rfl (by kernel_rfl) (by kernel_rfl) (by kernel_rfl) (fun _ _ _ h => h) (Or.inl ⟨by rfl, ?_⟩) ?_
            rotate_left
            · intro w
              go_simp
              try with_reducible rfl
            refine wpAny_take (i := 10) (v := ?_) rfl (by kernel_rfl) (by kernel_rfl) (by kernel_rfl) (fun _ _ _ h => h) (Or.inl ⟨by rfl, ?_⟩) ?_
            rotate_left
            · intro w
              go_simp
              try with_reducible rfl
            refine wpAny_done (by kernel_rfl) ?_ _
            rcases HL.out with ⟨h1, rfl, rfl⟩ | ⟨h1, h2, rfl⟩
            · have g3 : decide ((1048576 : Int) < (m : Int)) = true := by simp; omega
              clear h1
              go_wp2
              go_ret
              exact ⟨rfl, hX⟩
            · have g3 : decide ((1048576 : Int) < (m : Int)) = false := by simp; omega
              have g4 : ((xs.size : Int) == (m : Int)) = true := by simp [h2]
              clear h1 h2
              go_wp2
              go_ret
              exact ⟨rfl, hX⟩
        · have hcv := zeros_conv hR2
          try have hcv2 : (convert 35 9 (.slice (some ⟨w1.heap.size, 0, none⟩) m m)).run Tryd.prog _ = .ok (.string (zeros m)) _ := hcv
          go_simp
          refine hK _ _ ?_
          clear hK K hcv
          try clear hcv2
          refine wpAny_ready (rs := [1]) (by kernel_rfl) (by simp) ?_
          refine (AllReady.cons rfl (fun K hK => ?_) AllReady.nil)
          · go_simp
            refine (R12.out _).mono ?_
            rintro e W4 ⟨rfl, hb⟩
            refine hK _ _ ?_
            clear hK K
            have hS4 := hS2.trans (hb.mono hS2.size)
            clear hb
            have hS := hS4
            refine wpAny_ready (rs := [5]) (by kernel_rfl) (by simp) ?_
            refine (AllReady.cons rfl (fun K hK => ?_) AllReady.nil)
            go_simp
            refine (HX.out _ hS).mono ?_
            rintro e W9 ⟨rfl, hb⟩
            refine hK _ _ ?_
            clear hK K
            have hX := hS.trans (hb.mono hS.size)
            clear hS hb
            refine wpAny_take (i := 6) (v := ?_) rfl (by kernel_rfl) (by kernel_rfl) (by kernel_rfl) (fun _ _ _ h => h) (Or.inl ⟨by rfl, ?_⟩) ?_
            rotate_left
            · intro w
              go_simp
              try with_reducible rfl
            refine wpAny_take (i := 7) (v := ?_) rfl (by kernel_rfl) (by kernel_rfl) (by kernel_rfl) (fun _ _ _ h => h) (Or.inl ⟨by rfl, ?_⟩) ?_
            rotate_left
            · intro w
              go_simp
              try with_reducible rfl
            refine wpAny_take (i := 8) (v := ?_) rfl (by kernel_rfl) (by kernel_rfl) (by kernel_rfl) (fun _ _ _ h => h) (Or.inl ⟨by rfl, ?_⟩) ?_
            rotate_left
            · intro w
              go_simp
              try with_reducible rfl
            refine wpAny_take (i := 9) (v := ?_) rfl (by kernel_rfl) (by kernel_rfl) (by kernel_rfl) (fun _ _ _ h => h) (Or.inl ⟨by rfl, ?_⟩) ?_
            rotate_left
            · intro w
              go_simp
              try with_reducible rfl
            refine wpAny_take (i := 10) (v := ?_) rfl (by kernel_rfl) (by kernel_rfl) (by kernel_rfl) (fun _ _ _ h => h) (Or.inl ⟨by rfl, ?_⟩) ?_
            rotate_left
            · intro w
              go_simp
              try with_reducible rfl
            refine wpAny_done (by kernel_rfl) ?_ _
            rcases HL.out with ⟨h1, rfl, rfl⟩ | ⟨h1, h2, rfl⟩
            · have g3 : decide ((1048576 : Int) < (m : Int)) = true := by simp; omega
              clear h1
              go_wp2
              go_ret
              exact ⟨rfl, hX⟩
            · have g3 : decide ((1048576 : Int) < (m : Int)) = false := by simp; omega
              have g4 : ((xs.size : Int) == (m : Int)) = true := by simp [h2]
              clear h1 h2
              go_wp2
              go_ret
              exact ⟨rfl, hX⟩
    · refine step_zeros rfl (.tmp 17) rfl m M1.out (by rfl) (fun W1 hR1 hb _ => ?_)
      refine hK _ _ ?_
      clear hK K
      have hS1 := hb0.trans (hb.mono hb0.size)
      clear hb
      refine wpAny_ready (rs := [0, 4]) (by kernel_rfl) (by simp) ?_
      refine (AllReady.cons rfl (fun K hK => ?_) (AllReady.cons rfl (fun K hK => ?_) AllReady.nil))
      · go_simp
        refine (R32.out _).mono ?_
        rintro e W2 ⟨rfl, hb⟩
        refine hK _ _ ?_
        clear hK K
        have hS2 := hS1.trans (hb.mono hS1.size)
        have hR2 := (hb.block _ (Array.getElem?_eq_some_iff.1 hR1).1).trans hR1
        clear hb
        refine wpAny_ready (rs := [1, 4]) (by kernel_rfl) (by simp) ?_
        refine (AllReady.cons rfl (fun K hK => ?_) (AllReady.cons rfl (fun K hK => ?_) AllReady.nil))
        · go_simp
          refine (R12.out _).mono ?_
          rintro e W3 ⟨rfl, hb⟩
          refine hK _ _ ?_
          clear hK K
          have hS3 := hS2.trans (hb.mono hS2.size)
          have hR3 := (hb.block _ (Array.getElem?_eq_some_iff.1 hR2).1).trans hR2
          clear hb
          refine wpAny_ready (rs := [4]) (by kernel_rfl) (by simp) ?_
          refine (AllReady.cons rfl (fun K hK => ?_) AllReady.nil)
          · have hcv := zeros_conv hR3
            try have hcv2 : (convert 35 9 (.slice (some ⟨w1.heap.size, 0, none⟩) m m)).run Tryd.prog _ = .ok (.string (zeros m)) _ := hcv
            go_simp
            refine hK _ _ ?_
            clear hK K hcv
            try clear hcv2
            have hS := hS3
            refine wpAny_ready (rs := [5]) (by kernel_rfl) (by simp) ?_
            refine (AllReady.cons rfl (fun K hK => ?_) AllReady.nil)
            go_simp
            refine (HX.out _ hS).mono ?_
            rintro e W9 ⟨rfl, hb⟩
            refine hK _ _ ?_
            clear hK K
            have hX := hS.trans (hb.mono hS.size)
            clear hS hb
            refine wpAny_take (i := 6) (v := ?_) rfl (by kernel_rfl) (by kernel_rfl) (by kernel_rfl) (fun _ _ _ h => h) (Or.inl ⟨by rfl, ?_⟩) ?_
            rotate_left
            · intro w
              go_simp
              try with_reducible rfl
            refine wpAny_take (i := 7) (v := ?_) rfl (by kernel_rfl) (by kernel_rfl) (by kernel_rfl) (fun _ _ _ h => h) (Or.inl ⟨by rfl, ?_⟩) ?_
            rotate_left
            · intro w
              go_simp
              try with_reducible rfl
            refine wpAny_take (i := 8) (v := ?_) rfl (by kernel_rfl) (by kernel_rfl) (by kernel_rfl) (fun _ _ _ h => h) (Or.inl ⟨by rfl, ?_⟩) ?_
            rotate_left
            · intro w
              go_simp
              try with_reducible rfl
            refine wpAny_take (i := 9) (v := ?_) rfl (by kernel_rfl) (by kernel_rfl) (by kernel_rfl) (fun _ _ _ h => h) (Or.inl ⟨by rfl, ?_⟩) ?_
            rotate_left
            · intro w
              go_simp
              try with_reducible rfl
            refine wpAny_take (i := 10) (v := ?_) rfl (by kernel_rfl) (by kernel_rfl) (by kernel_rfl) (fun _ _ _ h => h) (Or.inl ⟨by rfl, ?_⟩) ?_
            rotate_left
            · intro w
              go_simp
              try with_reducible rfl
            refine wpAny_done (by kernel_rfl) ?_ _
            rcases HL.out with ⟨h1, rfl, rfl⟩ | ⟨h1, h2, rfl⟩
            · have g3 : decide ((1048576 : Int) < (m : Int)) = true := by simp; omega
              clear h1
              go_wp2
              go_ret
              exact ⟨rfl, hX⟩
            · have g3 : decide ((1048576 : Int) < (m : Int)) = false := by simp; omega
              have g4 : ((xs.size : Int) == (m : Int)) = true := by simp [h2]
              clear h1 h2
              go_wp2
              go_ret
              exact ⟨rfl, hX⟩
        · have hcv := zeros_conv hR2
          try have hcv2 : (convert 35 9 (.slice (some ⟨w1.heap.size, 0, none⟩) m m)).run Tryd.prog _ = .ok (.string (zeros m)) _ := hcv
          go_simp
          refine hK _ _ ?_
          clear hK K hcv
          try clear hcv2
          refine wpAny_ready (rs := [1]) (by kernel_rfl) (by simp) ?_
          refine (AllReady.cons rfl (fun K hK => ?_) AllReady.nil)
          · go_simp
            refine (R12.out _).mono ?_
            rintro e W4 ⟨rfl, hb⟩
            refine hK _ _ ?_
            clear hK K
            have hS4 := hS2.trans (hb.mono hS2.size)
            clear hb
            have hS := hS4
            refine wpAny_ready (rs := [5]) (by kernel_rfl) (by simp) ?_
            refine (AllReady.cons rfl (fun K hK => ?_) AllReady.nil)
            go_simp
            refine (HX.out _ hS).mono ?_
            rintro e W9 ⟨rfl, hb⟩
            refine hK _ _ ?_
            clear hK K
            have hX := hS.trans (hb.mono hS.size)
            clear hS hb
            refine wpAny_take (i := 6) (v := ?_) rfl (by kernel_rfl) (by kernel_rfl) (by kernel_rfl) (fun _ _ _ h => h) (Or.inl ⟨by rfl, ?_⟩) ?_
            rotate_left
            · intro w
              go_simp
              try with_reducible rfl
            refine wpAny_take (i := 7) (v := ?_) rfl (by kernel_rfl) (by kernel_rfl) (by kernel_rfl) (fun _ _ _ h => h) (Or.inl ⟨by rfl, ?_⟩) ?_
            rotate_left
            · intro w
              go_simp
              try with_reducible rfl
            refine wpAny_take (i := 8) (v := ?_) rfl (by kernel_rfl) (by kernel_rfl) (by kernel_rfl) (fun _ _ _ h => h) (Or.inl ⟨by rfl, ?_⟩) ?_
            rotate_left
            · intro w
              go_simp
              try with_reducible rfl
            refine wpAny_take (i := 9) (v := ?_) rfl (by kernel_rfl) (by kernel_rfl) (by kernel_rfl) (fun _ _ _ h => h) (Or.inl ⟨by rfl, ?_⟩) ?_
            rotate_left
            · intro w
              go_simp
              try with_reducible rfl
            refine wpAny_take (i := 10) (v := ?_) rfl (by kernel_rfl) (by kernel_rfl) (by kernel_rfl) (fun _ _ _ h => h) (Or.inl ⟨by rfl, ?_⟩) ?_
            rotate_left
            · intro w
              go_simp
              try with_reducible rfl
            refine wpAny_done (by kernel_rfl) ?_ _
            rcases HL.out with ⟨h1, rfl, rfl⟩ | ⟨h1, h2, rfl⟩
            · have g3 : decide ((1048576 : Int) < (m : Int)) = true := by simp; omega
              clear h1
              go_wp2
              go_ret
              exact ⟨rfl, hX⟩
            · have g3 : decide ((1048576 : Int) < (m : Int)) = false := by simp; omega
              have g4 : ((xs.size : Int) == (m : Int)) = true := by simp [h2]
              clear h1 h2
              go_wp2
              go_ret
              exact ⟨rfl, hX⟩
      · have hcv := zeros_conv hR1
        try have hcv2 : (convert 35 9 (.slice (some ⟨w1.heap.size, 0, none⟩) m m)).run Tryd.prog _ = .ok (.string (zeros m)) _ := hcv
        go_simp
        refine hK _ _ ?_
        clear hK K hcv
        try clear hcv2
        refine wpAny_ready (rs := [0]) (by kernel_rfl) (by simp) ?_
        refine (AllReady.cons rfl (fun K hK => ?_) AllReady.nil)
        · go_simp
          refine (R32.out _).mono ?_
          rintro e W3 ⟨rfl, hb⟩
          refine hK _ _ ?_
          clear hK K
          have hS3 := hS1.trans (hb.mono hS1.size)
          clear hb
          refine wpAny_ready (rs := [1]) (by kernel_rfl) (by simp) ?_
          refine (AllReady.cons rfl (fun K hK => ?_) AllReady.nil)
          · go_simp
            refine (R12.out _).mono ?_
            rintro e W4 ⟨rfl, hb⟩
            refine hK _ _ ?_
            clear hK K
            have hS4 := hS3.trans (hb.mono hS3.size)
            clear hb
            have hS := hS4
            refine wpAny_ready (rs := [5]) (by kernel_rfl) (by simp) ?_
            refine (AllReady.cons rfl (fun K hK => ?_) AllReady.nil)
            go_simp
            refine (HX.out _ hS).mono ?_
            rintro e W9 ⟨rfl, hb⟩
            refine hK _ _ ?_
            clear hK K
            have hX := hS.trans (hb.mono hS.size)
            clear hS hb
            refine wpAny_take (i := 6) (v := ?_) rfl (by kernel_rfl) (by kernel_rfl) (by kernel_rfl) (fun _ _ _ h => h) (Or.inl ⟨by rfl, ?_⟩) ?_
            rotate_left
            · intro w
              go_simp
              try with_reducible rfl
            refine wpAny_take (i := 7) (v := ?_) rfl (by kernel_rfl) (by kernel_rfl) (by kernel_rfl) (fun _ _ _ h => h) (Or.inl ⟨by rfl, ?_⟩) ?_
            rotate_left
            · intro w
              go_simp
              try with_reducible rfl
            refine wpAny_take (i := 8) (v := ?_) rfl (by kernel_rfl) (by kernel_rfl) (by kernel_rfl) (fun _ _ _ h => h) (Or.inl ⟨by rfl, ?_⟩) ?_
            rotate_left
            · intro w
              go_simp
              try with_reducible rfl
            refine wpAny_take (i := 9) (v := ?_) rfl (by kernel_rfl) (by kernel_rfl) (by kernel_rfl) (fun _ _ _ h => h) (Or.inl ⟨by rfl, ?_⟩) ?_
            rotate_left
            · intro w
              go_simp
              try with_reducible rfl
            refine wpAny_take (i := 10) (v := ?_) rfl (by kernel_rfl) (by kernel_rfl) (by kernel_rfl) (fun _ _ _ h => h) (Or.inl ⟨by rfl, ?_⟩) ?_
            rotate_left
            · intro w
              go_simp
              try with_reducible rfl
            refine wpAny_done (by kernel_rfl) ?_ _
            rcases HL.out with ⟨h1, rfl, rfl⟩ | ⟨h1, h2, rfl⟩
            · have g3 : decide ((1048576 : Int) < (m : Int)) = true := by simp; omega
              clear h1
              go_wp2
              go_ret
              exact ⟨rfl, hX⟩
            · have g3 : decide ((1048576 : Int) < (m : Int)) = false := by simp; omega
              have g4 : ((xs.size : Int) == (m : Int)) = true := by simp [h2]
              clear h1 h2
              go_wp2
              go_ret
              exact ⟨rfl, hX⟩
end Go.Proofs.YtdblhepahbienaaDoor
