import Derived.Test.YtdblhepahbienaaDoorSf
import Derived.Test.YtdblhepahbienaaDoorH
import Derived.Deep.OwnRows
import Derived.Deep.RegionHeld3
import Derived.RegionTactic
namespace Go.Proofs.YtdblhepahbienaaDoor
open Go.RowKit
/-- So many zero bytes, as a text. -/
def zeros (n : Nat) : ByteArray := strOfNums (List.replicate n 0)
theorem zeros_size (n : Nat) : (zeros n).size = n := by unfold zeros; rw [strOfNums_size]; simp
theorem madeCells_get (n i : Nat) (hi : i < n) : (madeCells #[Value.int .u8 0] n)[i]? = some (.int .u8 0) := by
  unfold madeCells
  simp [hi, Nat.mod_one]
/-- Zero bytes at a block, as a text. -/
theorem zeros_conv {w : World} {g n : Nat} {tt : TypeId} {fr : Nat × Nat} (h : w.heap[g]? = some (.cells (madeCells #[.int .u8 0] n) tt fr)) :
    (convert 35 9 (.slice (some ⟨g, 0, none⟩) n n)).run Tryd.prog w = .ok (.string (zeros n)) w := by
  refine run_convert_bytes_arg w 35 5 Tryd.underlying35 Tryd.underlying5 g 0 n n (List.replicate n 0) (by simp) (fun i hi => ?_) 9 Tryd.underlying9
  rw [cell_of_row _ _ _ _ _ _ h, Nat.zero_add, madeCells_get n i hi]
  simp [List.getD, hi]
theorem step_zeros {ops : Array Oper} {o : Oper} {a : Act} {w : World} {K : Act → World → Prop} {Q : Exit → Act → World → Prop} {E : Prop} (hgd : o.guard = none) (l : Operand)
    (ho : o.op = .makeSlice 35 l l) (n : Nat) (hn : n ≤ 1100000) (hl : a.eval l = .int .i64 (n : Int))
    (h : ∀ w', w'.heap[w.heap.size]? = some (.cells (madeCells #[.int .u8 0] n) 5 (0, 0)) → Below w.heap.size w w' → w.heap.size < w'.heap.size → K (a.put o.dst (.slice (some ⟨w.heap.size, 0, none⟩) n n)) w') :
    if Region.wanted o (yielded ops a.tmps) = true then Oper.wp Tryd.prog o a w K Q else E := by
  have hw : Region.wanted o (yielded ops a.tmps) = true := by simp [Region.wanted, hgd]
  rw [if_pos hw]
  have hr := run_make_row' (P := Tryd.prog) 35 5 (.int .u8 0) 1 Tryd.underlying35 info5 rfl .i64 .i64 n (by omega) (by omega) w
  unfold Oper.wp execOp
  simp only [ho, hl, Sem.run_bind, hr, Sem.run_pure, Result.andThen_ok]
  exact h _ (heap_alloc_new w _) ((Below.refl _ w).alloc (Nat.le_refl _) _) (by simp)
set_option maxHeartbeats 4000000 in
theorem long_walk (n : Int) (w : World) {tt : TypeId} {fr : Nat × Nat} (hg : w.heap[0]? = some (.cells tab tt fr)) :
    Calls Tryd.prog 6 #[.int .i64 n] w fun e w' => e = .returned (.bool true) ∧ Below w.heap.size w w' := by
  have hw0 : 0 < w.heap.size := (Array.getElem?_eq_some_iff.1 hg).1
  have HG : Hid _ := hg
  clear hg
  by_cases hn : n < 1048570 ∨ 1100000 < n
  · have g1 : decide (n < 1048570) = true ∨ (decide (n < 1048570) = false ∧ decide (1100000 < n) = true) := by simp; omega
    rcases g1 with g1 | ⟨g1, g2⟩
    · clear hn
      go_enter Tryd.func6, Tryd.ntmps6
      go_wp2_with (go_at_call 9; refine (shown_any _ HG.out).mono ?_; rintro e w1 ⟨rfl, hb1⟩)
      go_ret
      exact ⟨rfl, hb1⟩
    · clear hn
      go_enter Tryd.func6, Tryd.ntmps6
      go_wp2_with (go_at_call 9; refine (shown_any _ HG.out).mono ?_; rintro e w1 ⟨rfl, hb1⟩)
      go_ret
      exact ⟨rfl, hb1⟩
  · obtain ⟨m, rfl⟩ : ∃ m : Nat, n = (m : Int) := ⟨n.toNat, by omega⟩
    have m0 : 1048570 ≤ m := by omega
    have m1 : m ≤ 1100000 := by omega
    have g1 : decide ((m : Int) < 1048570) = false := by simp; omega
    have g2 : decide ((1100000 : Int) < (m : Int)) = false := by simp; omega
    have M1 : Hid (m ≤ 1100000) := m1
    clear hn
    go_enter Tryd.func6, Tryd.ntmps6
    go_wp2_with (go_at_call 9; refine (shown_any _ HG.out).mono ?_; rintro e w1 ⟨rfl, hb1⟩)
    obtain ⟨kk, hkk⟩ : ∃ kk, strOfNums (upto (fun i => (i : Int)) 32) = kk := ⟨_, rfl⟩
    obtain ⟨nn, hnn⟩ : ∃ nn, strOfNums (upto (fun i => (i : Int)) 12) = nn := ⟨_, rfl⟩
    have HK : Hid (kk.size = 32) := by refine (?_ : kk.size = 32); rw [← hkk, strOfNums_size, upto_length]
    have HN : Hid (nn.size = 12) := by refine (?_ : nn.size = 12); rw [← hnn, strOfNums_size, upto_length]
    have R32 : Hid (∀ W : World, Calls Tryd.prog 17 #[.int .i64 32] W fun e w' => e = .returned (.string kk) ∧ Below W.heap.size W w') := fun W => by rw [← hkk]; exact rising_any 32 (by omega) W
    have R12 : Hid (∀ W : World, Calls Tryd.prog 17 #[.int .i64 12] W fun e w' => e = .returned (.string nn) ∧ Below W.heap.size W w') := fun W => by rw [← hnn]; exact rising_any 12 (by omega) W
    have hzs : (zeros m).size = m := zeros_size m
    clear hkk hnn m1
    have hb0 : Below w.heap.size w w1.drew := hb1.drew
    have hmk : ∀ W : World, (Instr.makeSlice 35 (.int .i64 (m : Int)) (.int .i64 (m : Int))).run Tryd.prog W = .ok (.slice (some ⟨W.heap.size, 0, none⟩) m m) (W.alloc (.cells (madeCells #[.int .u8 0] m) 5)) :=
      run_make_row' (P := Tryd.prog) 35 5 (.int .u8 0) 1 Tryd.underlying35 info5 rfl .i64 .i64 m (by have := M1.out; omega) (by have := M1.out; omega)
    have hcv0 : ∀ W : World, (convert 35 9 (.slice (some ⟨W.heap.size, 0, none⟩) m m)).run Tryd.prog (W.alloc (.cells (madeCells #[.int .u8 0] m) 5)) = .ok (.string (zeros m)) (W.alloc (.cells (madeCells #[.int .u8 0] m) 5)) :=
      fun W => zeros_conv (heap_alloc_new W _)
    have hcv1 : ∀ W : World, (convert 35 9 (.slice (some ⟨W.heap.size, 0, none⟩) m m)).run Tryd.prog (W.alloc (.cells (madeCells #[.int .u8 0] m) 5)).drew = .ok (.string (zeros m)) (W.alloc (.cells (madeCells #[.int .u8 0] m) 5)).drew :=
      fun W => zeros_conv (w := (W.alloc _).drew) (heap_alloc_new W _)
    by_cases hlong : 1048576 < m
    · go_region_held3 (fun w' => Below w.heap.size w w') (first | assumption | exact Below.alloc (by assumption) (Below.size (by assumption)) _)
        (first
          | (go_at_call 17
             first
               | (have hdone := hbA; clear hdone; refine (R12.out _).mono ?_; rintro e wB ⟨rfl, hbB⟩
                  have hsB := Below.trans (by assumption : Below w.heap.size w _) (hbB.mono (Below.size (by assumption : Below w.heap.size w _)))
                  first
                    | (have hrowB := (hbB.block _ (Array.getElem?_eq_some_iff.1 hrowA).1).trans hrowA; have hcvB := zeros_conv hrowB)
                    | (have hrowB := (hbB.block _ (by simp)).trans (heap_alloc_new _ _); have hcvB := zeros_conv hrowB)
                    | skip)
               | (refine (R32.out _).mono ?_; rintro e wA ⟨rfl, hbA⟩
                  have hsA := Below.trans (by assumption : Below w.heap.size w _) (hbA.mono (Below.size (by assumption : Below w.heap.size w _)))
                  first
                    | (have hrowA := (hbA.block _ (by simp)).trans (heap_alloc_new _ _); have hcvA := zeros_conv hrowA)
                    | skip))
          | (go_at_call 14; refine (Xor_long kk nn (zeros m) _ HK.out HN.out (by rw [hzs]; exact hlong)).mono ?_; rintro e wX ⟨rfl, hbX⟩
             have hsX := Below.trans (by assumption : Below w.heap.size w _) (hbX.mono (Below.size (by assumption : Below w.heap.size w _)))))
      all_goals
        have hX : Below w.heap.size w wX := hsX
        have g3 : decide ((1048576 : Int) < (m : Int)) = true := by simp; omega
        clear hmk hcv0 hcv1 hzs hlong m0 g1 g2 hb0 hb1
        go_wp2
        go_ret
        exact ⟨rfl, hX⟩
    · go_region_held3 (fun w' => Below w.heap.size w w') (first | assumption | exact Below.alloc (by assumption) (Below.size (by assumption)) _)
        (first
          | (go_at_call 17
             first
               | (have hdone := hbA; clear hdone; refine (R12.out _).mono ?_; rintro e wB ⟨rfl, hbB⟩
                  have hsB := Below.trans (by assumption : Below w.heap.size w _) (hbB.mono (Below.size (by assumption : Below w.heap.size w _)))
                  first
                    | (have hrowB := (hbB.block _ (Array.getElem?_eq_some_iff.1 hrowA).1).trans hrowA; have hcvB := zeros_conv hrowB)
                    | (have hrowB := (hbB.block _ (by simp)).trans (heap_alloc_new _ _); have hcvB := zeros_conv hrowB)
                    | skip)
               | (refine (R32.out _).mono ?_; rintro e wA ⟨rfl, hbA⟩
                  have hsA := Below.trans (by assumption : Below w.heap.size w _) (hbA.mono (Below.size (by assumption : Below w.heap.size w _)))
                  first
                    | (have hrowA := (hbA.block _ (by simp)).trans (heap_alloc_new _ _); have hcvA := zeros_conv hrowA)
                    | skip))
          | (go_at_call 14; refine (Xor_yes kk nn (zeros m) _ HK.out HN.out (by rw [hzs]; exact Nat.le_of_not_lt hlong) ((Below.block (by assumption : Below w.heap.size w _) 0 hw0).trans HG.out)).mono ?_; rintro e wX ⟨rfl, hbX⟩
             have hsX := Below.trans (by assumption : Below w.heap.size w _) (hbX.mono (Below.size (by assumption : Below w.heap.size w _)))))
      all_goals
        have hX : Below w.heap.size w wX := hsX
        have g3 : decide ((1048576 : Int) < (m : Int)) = false := by simp; omega
        have hxs : (xorS kk nn (zeros m)).size = m := (xorS_size _ _ _).trans hzs
        generalize xorS kk nn (zeros m) = xs at *
        clear hmk hcv0 hcv1 hzs hlong m0 g1 g2 hb0 hb1
        have g4 : ((xs.size : Int) == (m : Int)) = true := by simp [hxs]
        clear hxs
        go_wp2
        go_ret
        exact ⟨rfl, hX⟩
end Go.Proofs.YtdblhepahbienaaDoor
