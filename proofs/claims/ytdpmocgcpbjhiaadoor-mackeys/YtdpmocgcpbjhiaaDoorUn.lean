/- Keys of any length: the walk. -/
import Derived.Test.YtdpmocgcpbjhiaaDoorUl
namespace Go.Proofs.YtdpmocgcpbjhiaaDoor
open Go.RowKit Go.Lib
theorem rep_conv {W : World} {base p n cap : Nat} {c : Int} (ho : W.ownsRow base 5 1 (.slice (some ⟨p, 0, none⟩) n cap) n ((List.replicate n c).map (Value.int .u8))) :
    (convert 27 9 (.slice (some ⟨p, 0, none⟩) n cap)).run Tryd.prog W = .ok (.string (strOfNums (List.replicate n c))) W := by
  refine run_convert_bytes_arg W 27 5 Tryd.underlying27 Tryd.underlying5 p 0 n cap (List.replicate n c) (by simp) (fun i hi => ?_) 9 Tryd.underlying9
  rw [Nat.zero_add]
  refine own_cell ho ?_
  simp [hi]
set_option maxHeartbeats 4000000 in
theorem macKeys_walk (c n : Int) (w : World) {tt tt' : TypeId} {fr fr' : Nat × Nat} (hT : w.heap[0]? = some (.cells (w64 (lf KL)) tt' fr')) (hK : w.heap[1]? = some (.cells (w64 (lf KL)) tt fr)) :
    Calls Tryd.prog 4 #[.int .u8 c, .int .i64 n] w fun e w' => e = .returned (.bool true) ∧ Below w.heap.size w w' := by
  have h1l : 1 < w.heap.size := (Array.getElem?_eq_some_iff.1 hK).1
  have HK : Hid (w.heap[1]? = some (.cells (w64 (lf KL)) tt fr)) := hK
  have HT : Hid (w.heap[0]? = some (.cells (w64 (lf KL)) tt' fr')) := hT
  clear hK hT
  obtain ⟨i0, hi, hz0, hz1, hz2⟩ := info_parts info5
  by_cases hn : n < 0 ∨ 150 < n
  · have g1 : decide (n < 0) = true ∨ (decide (n < 0) = false ∧ decide (150 < n) = true) := by simp; omega
    clear hn
    rcases g1 with g1 | ⟨g1, g2⟩
    · go_enter Tryd.func4, Tryd.ntmps4
      go_wp2_with fail
      refine (shown_any w HK.out).mono ?_
      rintro e w1 ⟨rfl, b1⟩
      have B1 : Hid (Below w.heap.size w w1) := b1
      clear b1
      go_wp2_with fail
      go_ret
      exact ⟨rfl, B1.out⟩
    · go_enter Tryd.func4, Tryd.ntmps4
      go_wp2_with fail
      refine (shown_any w HK.out).mono ?_
      rintro e w1 ⟨rfl, b1⟩
      have B1 : Hid (Below w.heap.size w w1) := b1
      clear b1
      go_wp2_with fail
      go_ret
      exact ⟨rfl, B1.out⟩
  · obtain ⟨k, rfl⟩ : ∃ k : Nat, n = (k : Int) := ⟨n.toNat, by omega⟩
    have hk3 : k ≤ 150 := by omega
    have g1 : decide ((k : Int) < 0) = false := by simp
    have g2 : decide ((150 : Int) < (k : Int)) = false := by simp; omega
    clear hn
    go_enter Tryd.func4, Tryd.ntmps4
    go_wp2_with fail
    refine (shown_any w HK.out).mono ?_
    rintro e w1 ⟨rfl, b1⟩
    have B1 : Hid (Below w.heap.size w w1) := b1
    have hw1 : w.heap.size ≤ w1.heap.size := b1.size
    clear b1
    go_wp2_with (at_make; refine wpList_make_own _ rfl _ _ 27 rfl w1.heap.size 5 i0 (.int .u8 0) 1 Tryd.underlying27 hi hz0 hz1 .i64 .i64 150 150 rfl rfl rfl (by rw [hz2]; decide) (by decide) (Nat.le_refl _) ?_; intro w2 hown2 hgrow2)
    have O2 : Hid (w2.ownsRow w1.heap.size 5 1 (.slice (some ⟨w1.heap.size, 0, none⟩) 0 150) 0 []) := hown2
    have B2 : Hid (Below w1.heap.size w1 w2) := ⟨hgrow2.os, hgrow2.tape, hgrow2.output, hgrow2.size, fun j hj => hgrow2.block j hj (by simp)⟩
    clear hown2 hgrow2
    generalize w1.heap.size = b0 at *
    go_loopw [6, 7] (fun v i wr => ∃ j : Nat, j ≤ k ∧ v = .slice (some ⟨b0, 0, none⟩) j 150 ∧ i = .int .i64 (j : Int) ∧ wr.ownsRow b0 5 1 (.slice (some ⟨b0, 0, none⟩) j 150) j ((List.replicate j c).map (Value.int .u8)) ∧ Below b0 w1 wr) (fun _ i _ => k - (intOf i).toNat)
    case atStart => exact ⟨0, by omega, rfl, rfl, O2.out, B2.out⟩
    case round =>
      clear O2 B2
      obtain ⟨j, hj, rfl, rfl, hown, hbw⟩ := hrel
      have HO : Hid (wr.ownsRow b0 5 1 (.slice (some ⟨b0, 0, none⟩) j 150) j ((List.replicate j c).map (Value.int .u8))) := hown
      have HB : Hid (Below b0 w1 wr) := hbw
      clear hown hbw
      by_cases hlt : j < k
      · have a0 : (j : Int) < (k : Int) := by omega
        have a1 : (0 : Int) ≤ (j : Int) := by omega
        have a2 : (j : Int) ≤ 150 := by omega
        obtain ⟨w5, hrun5, hown5, hgrow5⟩ := run_append_fits (P := Tryd.prog) (wr.alloc (.cells #[.int .u8 c] 5)) b0 27 27 5 i0 1 Tryd.underlying27 hi hz1 b0 j 150 _ (HO.out.alloc _) ⟨wr.heap.size, 0, none⟩ 1 1 [.int .u8 c] rfl (cell_one _ _ _) (fun u hu => by simp at hu; subst hu; rfl) (by omega)
        have O5 : Hid (w5.ownsRow b0 5 1 (.slice (some ⟨b0, 0, none⟩) (j + 1) 150) (j + 1) ((List.replicate (j + 1) c).map (Value.int .u8))) := by
          rw [List.replicate_succ', List.map_append]; exact hown5
        have hbw : b0 ≤ wr.heap.size := by have := own_lt HO.out; omega
        have B5 : Hid (Below b0 w1 w5) := (HB.out.alloc hbw _).trans (grown_below hgrow5 (Nat.le_refl _) (by simp; omega))
        clear hown5 hgrow5 hbw
        go_wp2_with (at_builtin; refine list_append rfl 27 27 (.tmp 22) (.tmp 24) rfl (vs := .slice (some ⟨b0, 0, none⟩) j 150) (vx := .slice (some ⟨wr.heap.size, 0, none⟩) 1 1) rfl rfl hrun5 ?_)
        go_roundw
        case rel => exact ⟨j + 1, by omega, rfl, by go_num, O5.out, B5.out⟩
        case measure => simp [intOf]; omega
      · obtain rfl : j = k := by omega
        have a0 : ¬ (j : Int) < (j : Int) := by omega
        have hbl : b0 < wr.heap.size := own_lt HO.out
        have BW : Hid (Below w.heap.size w wr) := B1.out.trans (HB.out.mono hw1)
        obtain ⟨Bs, hBs⟩ : ∃ B, strOfNums (List.replicate j c) = B := ⟨_, rfl⟩
        have hsz : Bs.size = j := by rw [← hBs, strOfNums_size, List.length_replicate]
        have HBs : Hid (∀ W : World, W.ownsRow b0 5 1 (.slice (some ⟨b0, 0, none⟩) j 150) j ((List.replicate j c).map (Value.int .u8)) → (convert 27 9 (.slice (some ⟨b0, 0, none⟩) j 150)).run Tryd.prog W = .ok (.string Bs) W) := fun W h => by rw [← hBs]; exact rep_conv h
        have HSW : Hid ((convert 27 9 (.slice (some ⟨b0, 0, none⟩) j 150)).run Tryd.prog wr.drew = .ok (.string Bs) wr.drew ∧ True) := ⟨HBs.out _ HO.out, trivial⟩
        clear hlt hBs hj
        go_wp2_with fail
        refine wp_region_held (S := fun w' => (convert 27 9 (.slice (some ⟨b0, 0, none⟩) j 150)).run Tryd.prog w' = .ok (.string Bs) w' ∧ True) (by kernel_rfl) ?_
        change wpAnyH _ _ _ _ _ _ _ _ (World.drew _)
        refine wpAnyH_take (i := 0) (v := ?_) rfl (by kernel_rfl) (by kernel_rfl) (by kernel_rfl) (fun _ _ _ h => h) (Or.inl ⟨by kernel_rfl, ?_⟩) HSW.out ?_
        rotate_left
        · intro w hS
          obtain ⟨c1, _⟩ := hS
          go_simp
          try with_reducible rfl
        conv in (Act.put _ _ _) => simp only [List.getElem_toArray, List.getElem_cons_succ, List.getElem_cons_zero, Act.put, List.setIfInBounds_toArray, List.set_cons_succ, List.set_cons_zero]
        refine wpAnyH_take (i := 1) (v := ?_) rfl (by kernel_rfl) (by kernel_rfl) (by kernel_rfl) (fun _ _ _ h => h) (Or.inl ⟨by kernel_rfl, ?_⟩) HSW.out ?_
        rotate_left
        · intro w hS
          obtain ⟨c1, _⟩ := hS
          go_simp
          try with_reducible rfl
        conv in (Act.put _ _ _) => simp only [List.getElem_toArray, List.getElem_cons_succ, List.getElem_cons_zero, Act.put, List.setIfInBounds_toArray, List.set_cons_succ, List.set_cons_zero]
        refine wpAnyH_take (i := 2) (v := ?_) rfl (by kernel_rfl) (by kernel_rfl) (by kernel_rfl) (fun _ _ _ h => h) (Or.inl ⟨by kernel_rfl, ?_⟩) HSW.out ?_
        rotate_left
        · intro w hS
          obtain ⟨c1, _⟩ := hS
          go_simp
          try with_reducible rfl
        conv in (Act.put _ _ _) => simp only [List.getElem_toArray, List.getElem_cons_succ, List.getElem_cons_zero, Act.put, List.setIfInBounds_toArray, List.set_cons_succ, List.set_cons_zero]
        refine wpAnyH_take (i := 3) (v := ?_) rfl (by kernel_rfl) (by kernel_rfl) (by kernel_rfl) (fun _ _ _ h => h) (Or.inl ⟨by kernel_rfl, ?_⟩) HSW.out ?_
        rotate_left
        · intro w hS
          obtain ⟨c1, _⟩ := hS
          go_simp
          try with_reducible rfl
        conv in (Act.put _ _ _) => simp only [List.getElem_toArray, List.getElem_cons_succ, List.getElem_cons_zero, Act.put, List.setIfInBounds_toArray, List.set_cons_succ, List.set_cons_zero]
        refine wpAnyH_take (i := 6) (v := ?_) rfl (by kernel_rfl) (by kernel_rfl) (by kernel_rfl) (fun _ _ _ h => h) (Or.inl ⟨by kernel_rfl, ?_⟩) HSW.out ?_
        rotate_left
        · intro w hS
          obtain ⟨c1, _⟩ := hS
          go_simp
          try with_reducible rfl
        conv in (Act.put _ _ _) => simp only [List.getElem_toArray, List.getElem_cons_succ, List.getElem_cons_zero, Act.put, List.setIfInBounds_toArray, List.set_cons_succ, List.set_cons_zero]
        refine wpAnyH_take (i := 7) (v := ?_) rfl (by kernel_rfl) (by kernel_rfl) (by kernel_rfl) (fun _ _ _ h => h) (Or.inl ⟨by kernel_rfl, ?_⟩) HSW.out ?_
        rotate_left
        · intro w hS
          obtain ⟨c1, _⟩ := hS
          go_simp
          try with_reducible rfl
        conv in (Act.put _ _ _) => simp only [List.getElem_toArray, List.getElem_cons_succ, List.getElem_cons_zero, Act.put, List.setIfInBounds_toArray, List.set_cons_succ, List.set_cons_zero]
        refine readyH 4 _ (by kernel_rfl) rfl (by kernel_rfl) (fun K hK => ?_)
        go_simp
        have MO : Hid (Calls Tryd.prog 10 #[.string Bs, .slice (some ⟨wr.heap.size, 0, none⟩) 1 1] (wr.alloc (.cells #[.string ⟨#[97]⟩] 9)).drew fun e w' => e = .returned (.string (macS (lf KL) Bs ⟨#[97]⟩)) ∧ Below wr.heap.size wr.drew w') := mac_one (lf KL) Bs ⟨#[97]⟩ (by omega) (by decide) wr.drew 9 ((BW.out.block 1 h1l).trans HK.out)
        have O3 : Hid ((wr.alloc (.cells #[.string ⟨#[97]⟩] 9)).drew.ownsRow b0 5 1 (.slice (some ⟨b0, 0, none⟩) j 150) j ((List.replicate j c).map (Value.int .u8))) := (HO.out.alloc _).drew
        have S3 : Hid ((convert 27 9 (.slice (some ⟨b0, 0, none⟩) j 150)).run Tryd.prog (wr.alloc (.cells #[.string ⟨#[97]⟩] 9)).drew = .ok (.string Bs) (wr.alloc (.cells #[.string ⟨#[97]⟩] 9)).drew ∧ True) := ⟨HBs.out _ O3.out, trivial⟩
        clear HSW
        have HSW := S3
        clear S3
        refine hK _ _ HSW.out ?_
        clear hK K
        refine readyH 5 _ (by kernel_rfl) rfl (by kernel_rfl) (fun K hK => ?_)
        go_simp
        refine MO.out.mono ?_
        rintro e w4 ⟨rfl, b4⟩
        have O4 : Hid (w4.ownsRow b0 5 1 (.slice (some ⟨b0, 0, none⟩) j 150) j ((List.replicate j c).map (Value.int .u8))) := own_blw (W := wr.drew) HO.out b4 hbl
        have B4 : Hid (Below w.heap.size w w4) := BW.out.drew.trans (b4.mono BW.out.drew.size)
        have S4 : Hid ((convert 27 9 (.slice (some ⟨b0, 0, none⟩) j 150)).run Tryd.prog w4 = .ok (.string Bs) w4 ∧ True) := ⟨HBs.out _ O4.out, trivial⟩
        obtain ⟨D, hD⟩ : ∃ D, macS (lf KL) Bs ⟨#[97]⟩ = D := ⟨_, rfl⟩
        have HD : Hid (macS (lf KL) Bs ⟨#[97]⟩ = D) := hD
        rw [hD]
        clear b4 hD HSW O3 MO
        have HSW := S4
        clear S4
        refine hK _ _ HSW.out ?_
        clear hK K
        refine readyH 8 _ (by kernel_rfl) rfl (by kernel_rfl) (fun K hK => ?_)
        go_simp
        refine (refMac_any (lf KL) Bs ⟨#[97]⟩ (by omega) (by decide) w4 ((B4.out.block 0 (by omega)).trans HT.out)).mono ?_
        rintro e w5 ⟨rfl, b5⟩
        have O5 : Hid (w5.ownsRow b0 5 1 (.slice (some ⟨b0, 0, none⟩) j 150) j ((List.replicate j c).map (Value.int .u8))) := own_blw O4.out b5 (own_lt O4.out)
        have B5 : Hid (Below w.heap.size w w5) := B4.out.trans (b5.mono B4.out.size)
        have S5 : Hid ((convert 27 9 (.slice (some ⟨b0, 0, none⟩) j 150)).run Tryd.prog w5 = .ok (.string Bs) w5 ∧ True) := ⟨HBs.out _ O5.out, trivial⟩
        rw [HD.out]
        clear b5 HSW O4
        have HSW := S5
        clear S5
        refine hK _ _ HSW.out ?_
        clear hK K
        refine wpAnyH_take (i := 9) (v := ?_) rfl (by kernel_rfl) (by kernel_rfl) (by kernel_rfl) (fun _ _ _ h => h) (Or.inl ⟨by kernel_rfl, ?_⟩) HSW.out ?_
        rotate_left
        · intro w hS
          obtain ⟨c1, _⟩ := hS
          go_simp
          try with_reducible rfl
        conv in (Act.put _ _ _) => simp only [List.getElem_toArray, List.getElem_cons_succ, List.getElem_cons_zero, Act.put, List.setIfInBounds_toArray, List.set_cons_succ, List.set_cons_zero]
        refine wpAnyH_take (i := 10) (v := ?_) rfl (by kernel_rfl) (by kernel_rfl) (by kernel_rfl) (fun _ _ _ h => h) (Or.inl ⟨by kernel_rfl, ?_⟩) HSW.out ?_
        rotate_left
        · intro w hS
          obtain ⟨c1, _⟩ := hS
          go_simp
          try with_reducible rfl
        conv in (Act.put _ _ _) => simp only [List.getElem_toArray, List.getElem_cons_succ, List.getElem_cons_zero, Act.put, List.setIfInBounds_toArray, List.set_cons_succ, List.set_cons_zero]
        refine readyH 11 _ (by kernel_rfl) rfl (by kernel_rfl) (fun K hK => ?_)
        go_simp
        refine hK _ _ HSW.out ?_
        clear hK K
        refine wpAnyH_done (by kernel_rfl) ?_ _
        clear HSW
        go_wp2_with fail
        go_ret
        exact ⟨rfl, B5.out⟩
end Go.Proofs.YtdpmocgcpbjhiaaDoor
