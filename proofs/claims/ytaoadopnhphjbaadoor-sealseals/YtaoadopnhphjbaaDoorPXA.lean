/- SealBack: the walk. -/
import Derived.Test.YtaoadopnhphjbaaDoorPWL
namespace Go.Proofs.YtaoadopnhphjbaaDoor.Rs
open Go.RowKit Go.Lib
set_option maxRecDepth 100000 in
/-- The first thirty keys, under a name of their own. -/
theorem cut_named (l : List Rk.Ky) (o : Option Addr) (cap : Nat) : ∃ m : List Rk.Ky, m.length ≤ 30 ∧ Hid (∀ W, Rk.Ring W o cap l → (Calls Tryd.prog 17 #[.slice o l.length cap] W fun e w' => e = .returned (.slice o m.length cap) ∧ w' = W) ∧ Rk.Ring W o cap m) :=
  ⟨l.take 30, by rw [List.length_take]; omega, fun W h => ⟨Rk.cut_any l o cap W h, h.cut⟩⟩
set_option maxRecDepth 100000 in
set_option maxHeartbeats 2000000 in
theorem sealBack_walk (Kt : Nat → Int) (l : List Rk.Ky) (o : Option Addr) (cap : Nat) (h : Hd) (hf : fits h) (s : ByteArray) (w : World) (hr : Rk.Ring w o cap l) (hT : Tb Kt w) :
    Calls Tryd.prog 6 #[.slice o l.length cap, hv h, .string s] w fun e w' => e = .returned (.bool true) ∧ Below w.heap.size w w' := by
  obtain ⟨m, hm30, CT⟩ := cut_named l o cap
  have HG : Hid (Rk.Ring w o cap l) := hr
  have HT : Hid (Tb Kt w) := hT
  have HS : Hid (∀ W, Rk.Ring W o cap m → Tb Kt W → Calls Tryd.prog 16 #[.slice o m.length cap, hv h, .string s] W fun e w' => e = .returned (.tuple #[.string (sV Kt m h s), .int .i64 (sE m h s)]) ∧ Below W.heap.size W w') := fun W h1 h2 => seal_any Kt m o cap h hf s W h1 h2
  have HO : Hid (∀ W, Rk.Ring W o cap m → Tb Kt W → Calls Tryd.prog 19 #[.slice o m.length cap, .string (sV Kt m h s)] W fun e w' => e = .returned (.tuple #[hv (oH Kt m (sV Kt m h s)), .string (oS Kt m (sV Kt m h s)), .int .i64 (oE Kt m (sV Kt m h s))]) ∧ Below W.heap.size W w') := fun W h1 h2 => open_any Kt m o cap _ W h1 h2
  have HE : Hid (∀ W, Calls Tryd.prog 11 #[.string ((sV Kt m h s).extract 0 24)] W fun e w' => e = .returned (.tuple #[hv (gv ((sV Kt m h s).extract 0 24)), .bool (gk ((sV Kt m h s).extract 0 24))]) ∧ Below W.heap.size W w') := get_any _
  have HV : Hid ((sE m h s ≠ 0 ∧ sV Kt m h s = ⟨#[]⟩) ∨ (sE m h s = 0 ∧ (sV Kt m h s).size = 256 ∧ oE Kt m (sV Kt m h s) = 0 ∧ oH Kt m (sV Kt m h s) = h ∧ oS Kt m (sV Kt m h s) = s ∧ gv ((sV Kt m h s).extract 0 24) = h ∧ gk ((sV Kt m h s).extract 0 24) = true)) := by
    refine (?_ : _ ∨ _)
    by_cases h0 : sE m h s = 0
    · obtain ⟨z1, z2, z3, z4, z5⟩ := open_seal Kt m h hf s h0
      exact .inr ⟨h0, z1, z3, z4, z5, by rw [z2]; exact gv_put h hf, by rw [z2]; exact gk_put h hf⟩
    · exact .inl ⟨h0, sv_none Kt m h s h0⟩
  have HEQ : Hid (∀ w, (binOp .eql 25 (hv h) (hv h)).run Tryd.prog w = .ok (.bool true) w) := fun w => by
    have := eql_heads h h w
    rw [decide_eq_true rfl] at this
    exact this
  clear hr hT hf
  generalize oE Kt m (sV Kt m h s) = oe at *
  generalize oH Kt m (sV Kt m h s) = oh at *
  generalize oS Kt m (sV Kt m h s) = os at *
  generalize gv ((sV Kt m h s).extract 0 24) = gvv at *
  generalize gk ((sV Kt m h s).extract 0 24) = gkk at *
  generalize sV Kt m h s = b at *
  generalize sE m h s = se at *
  have HTB : Hid (∀ W, Below w.heap.size w W → Tb Kt W) := fun W hB => HT.out.below hB (Nat.le_refl _)
  have HGB : Hid (∀ W, Below w.heap.size w W → Rk.Ring W o cap l) := fun W hB => HG.out.below hB (Nat.le_refl _)
  clear HT HG
  obtain ⟨a, b', c, d⟩ := h
  unfold hv at *
  simp only at HS HO HE HEQ ⊢
  go_enter Tryd.func6, Tryd.ntmps6
  go_wp2_with fail
  obtain ⟨w1, hw1⟩ : ∃ w1, w.alloc (.cells #[.int .u32 a, .int .u32 b', .int .u32 c, .int .u64 d] 25) = w1 := ⟨_, rfl⟩
  have D1 : Hid (Below w.heap.size w w1) := by rw [← hw1]; exact (Below.refl _ w).alloc (Nat.le_refl _) _
  have X1 : Hid (w1.heap[w.heap.size]? = some (.cells #[.int .u32 a, .int .u32 b', .int .u32 c, .int .u64 d] 25 (0, 0))) := by rw [← hw1]; exact heap_alloc_new w _
  have l1 : w.heap.size < w1.heap.size := (Array.getElem?_eq_some_iff.1 X1.out).1
  rw [hw1]
  clear hw1
  refine (shown_any Kt w1 (HTB.out w1 D1.out)).mono ?_
  rintro e w2 ⟨rfl, b2⟩
  have D2 : Hid (Below w.heap.size w w2) := D1.out.trans (b2.mono D1.out.size)
  have l2 : w.heap.size < w2.heap.size := Nat.lt_of_lt_of_le l1 b2.size
  have X2 : Hid (w2.heap[w.heap.size]? = some (.cells #[.int .u32 a, .int .u32 b', .int .u32 c, .int .u64 d] 25 (0, 0))) := (b2.block _ l1).trans X1.out
  clear b2 D1 X1 l1
  have HC : Hid (∀ w', Below w2.heap.size w2 w' → w'.cell? ⟨w.heap.size, 0, none⟩ = some (.int .u32 a) ∧ w'.cell? ⟨w.heap.size, 1, none⟩ = some (.int .u32 b') ∧ w'.cell? ⟨w.heap.size, 2, none⟩ = some (.int .u32 c) ∧ w'.cell? ⟨w.heap.size, 3, none⟩ = some (.int .u64 d)) := fun W hB => by
    have hV := (hB.block _ l2).trans X2.out
    exact ⟨by rw [cell_of_row _ _ _ _ _ _ hV]; rfl, by rw [cell_of_row _ _ _ _ _ _ hV]; rfl, by rw [cell_of_row _ _ _ _ _ _ hV]; rfl, by rw [cell_of_row _ _ _ _ _ _ hV]; rfl⟩
  go_wp2_with fail
  have Dw2 : Hid (Below w.heap.size w w2) := D2.out
  have Ew2 : Hid (Below w2.heap.size w2 w2) := Below.refl _ _
  clear D2
  refine wp_region_held (S := fun w' => w'.cell? ⟨w.heap.size, 0, none⟩ = some (.int .u32 a) ∧ w'.cell? ⟨w.heap.size, 1, none⟩ = some (.int .u32 b') ∧ w'.cell? ⟨w.heap.size, 2, none⟩ = some (.int .u32 c) ∧ w'.cell? ⟨w.heap.size, 3, none⟩ = some (.int .u64 d)) (by kernel_rfl) ?_
  change wpAnyH _ _ _ _ _ _ _ _ (World.drew _)
  obtain ⟨vr, hvr⟩ : ∃ vr, w2.drew = vr := ⟨_, rfl⟩
  have E2 : Hid (Below w2.heap.size w2 vr) := by rw [← hvr]; exact Ew2.out.drew
  rw [hvr]
  clear hvr
  have HSW : Hid _ := HC.out vr E2.out
  refine wpAnyH_take (i := 0) (v := ?_) rfl (by kernel_rfl) (by kernel_rfl) (by kernel_rfl) (fun _ _ _ h => h) (Or.inl ⟨by kernel_rfl, ?_⟩) HSW.out ?_
  rotate_left
  · intro w hS
    obtain ⟨e1, e2, e3, e4⟩ := hS
    go_simp
    try with_reducible rfl
  conv in (Act.put _ _ _) => simp only [List.getElem_toArray, List.getElem_cons_succ, List.getElem_cons_zero, Act.put, List.setIfInBounds_toArray, List.set_cons_succ, List.set_cons_zero]
  refine wpAnyH_take (i := 2) (v := ?_) rfl (by kernel_rfl) (by kernel_rfl) (by kernel_rfl) (fun _ _ _ h => h) (Or.inl ⟨by kernel_rfl, ?_⟩) HSW.out ?_
  rotate_left
  · intro w hS
    obtain ⟨e1, e2, e3, e4⟩ := hS
    go_simp
    try with_reducible rfl
  conv in (Act.put _ _ _) => simp only [List.getElem_toArray, List.getElem_cons_succ, List.getElem_cons_zero, Act.put, List.setIfInBounds_toArray, List.set_cons_succ, List.set_cons_zero]
  refine wpAnyH_take (i := 3) (v := ?_) rfl (by kernel_rfl) (by kernel_rfl) (by kernel_rfl) (fun _ _ _ h => h) (Or.inl ⟨by kernel_rfl, ?_⟩) HSW.out ?_
  rotate_left
  · intro w hS
    obtain ⟨e1, e2, e3, e4⟩ := hS
    go_simp
    try with_reducible rfl
  conv in (Act.put _ _ _) => simp only [List.getElem_toArray, List.getElem_cons_succ, List.getElem_cons_zero, Act.put, List.setIfInBounds_toArray, List.set_cons_succ, List.set_cons_zero]
  refine readyH 1 _ (by kernel_rfl) rfl (by kernel_rfl) (fun K hK => ?_)
  go_simp
  refine (CT.out vr (HGB.out vr (Dw2.out.trans (E2.out.mono Dw2.out.size)))).1.mono ?_
  rintro e vc ⟨rfl, hvc⟩
  subst hvc
  refine hK _ _ HSW.out ?_
  clear hK K
  refine readyH 4 _ (by kernel_rfl) rfl (by kernel_rfl) (fun K hK => ?_)
  go_simp
  refine (HS.out _ (CT.out _ (HGB.out _ (Dw2.out.trans (E2.out.mono Dw2.out.size)))).2 (HTB.out _ (Dw2.out.trans (E2.out.mono Dw2.out.size)))).mono ?_
  rintro e w3 ⟨rfl, b3⟩
  have Ew3 : Hid (Below w2.heap.size w2 w3) := E2.out.trans (b3.mono E2.out.size)
  clear b3 E2 HSW
  refine hK _ _ (HC.out w3 Ew3.out) ?_
  clear hK K
  have HSW : Hid _ := HC.out w3 Ew3.out
  refine wpAnyH_take (i := 5) (v := ?_) rfl (by kernel_rfl) (by kernel_rfl) (by kernel_rfl) (fun _ _ _ h => h) (Or.inl ⟨by kernel_rfl, ?_⟩) HSW.out ?_
  rotate_left
  · intro w hS
    obtain ⟨e1, e2, e3, e4⟩ := hS
    go_simp
    try with_reducible rfl
  conv in (Act.put _ _ _) => simp only [List.getElem_toArray, List.getElem_cons_succ, List.getElem_cons_zero, Act.put, List.setIfInBounds_toArray, List.set_cons_succ, List.set_cons_zero]
  refine wpAnyH_take (i := 6) (v := ?_) rfl (by kernel_rfl) (by kernel_rfl) (by kernel_rfl) (fun _ _ _ h => h) (Or.inl ⟨by kernel_rfl, ?_⟩) HSW.out ?_
  rotate_left
  · intro w hS
    obtain ⟨e1, e2, e3, e4⟩ := hS
    go_simp
    try with_reducible rfl
  conv in (Act.put _ _ _) => simp only [List.getElem_toArray, List.getElem_cons_succ, List.getElem_cons_zero, Act.put, List.setIfInBounds_toArray, List.set_cons_succ, List.set_cons_zero]
  refine wpAnyH_take (i := 7) (v := ?_) rfl (by kernel_rfl) (by kernel_rfl) (by kernel_rfl) (fun _ _ _ h => h) (Or.inl ⟨by kernel_rfl, ?_⟩) HSW.out ?_
  rotate_left
  · intro w hS
    obtain ⟨e1, e2, e3, e4⟩ := hS
    go_simp
    try with_reducible rfl
  conv in (Act.put _ _ _) => simp only [List.getElem_toArray, List.getElem_cons_succ, List.getElem_cons_zero, Act.put, List.setIfInBounds_toArray, List.set_cons_succ, List.set_cons_zero]
  refine readyH 8 _ (by kernel_rfl) rfl (by kernel_rfl) (fun K hK => ?_)
  go_simp
  refine hK _ _ HSW.out ?_
  clear hK K
  refine readyH 9 _ (by kernel_rfl) rfl (by kernel_rfl) (fun K hK => ?_)
  go_simp
  refine hK _ _ HSW.out ?_
  clear hK K
  refine wpAnyH_done (by kernel_rfl) ?_ _
  clear HSW

  rcases HV.out with ⟨h0, rfl⟩ | ⟨rfl, hz, rfl, rfl, rfl, rfl, rfl⟩
  · have q0 : (se != 0) = true := by simpa using h0
    clear HV
    go_wp2_with fail
    go_ret
    exact ⟨rfl, Dw2.out.trans (Ew3.out.mono Dw2.out.size)⟩
  · have hz2 : (b.size : Int) = 256 := by omega
    clear HV
    go_wp2_with fail
    refine (CT.out w3 (HGB.out w3 (Dw2.out.trans (Ew3.out.mono Dw2.out.size)))).1.mono ?_
    rintro e vc ⟨rfl, hvc⟩
    subst hvc
    go_wp2_with fail
    refine (HO.out _ (CT.out _ (HGB.out _ (Dw2.out.trans (Ew3.out.mono Dw2.out.size)))).2 (HTB.out _ (Dw2.out.trans (Ew3.out.mono Dw2.out.size)))).mono ?_
    rintro e w4 ⟨rfl, b4⟩
    have E4 : Hid (Below w2.heap.size w2 w4) := Ew3.out.trans (b4.mono Ew3.out.size)
    clear b4 Ew3 HO HS
    have hmn : (if (24 : Int) < (b.size : Int) then (24 : Int) else (b.size : Int)) = 24 := by rw [if_pos (by omega)]
    have hex : ∀ w, (Instr.sliceAt 9 (.string b) none (some (.int .i64 24)) none).run Tryd.prog w = .ok (.string (b.extract 0 24)) w := ext256n b hz 24 (by omega)
    generalize b.extract 0 24 = bx at *
    rw [hz2] at hmn
    go_wp2_with (first | (refine Rk.list_min rfl 3 3 _ _ rfl rfl rfl hmn ?_))
    obtain ⟨w5, hw5⟩ : ∃ w5, w4.alloc (.cells #[.int .u32 a, .int .u32 b', .int .u32 c, .int .u64 d] 25) = w5 := ⟨_, rfl⟩
    have b5 : Below w4.heap.size w4 w5 := by rw [← hw5]; exact (Below.refl _ w4).alloc (Nat.le_refl _) _
    have E5 : Hid (Below w2.heap.size w2 w5) := E4.out.trans (b5.mono E4.out.size)
    have G5 : Hid (w5.heap[w4.heap.size]? = some (.cells #[.int .u32 a, .int .u32 b', .int .u32 c, .int .u64 d] 25 (0, 0))) := by rw [← hw5]; exact heap_alloc_new w4 _
    rw [hw5]
    clear hw5 b5 E4
    refine (HE.out w5).mono ?_
    rintro e w6 ⟨rfl, b6⟩
    have E6 : Hid (Below w2.heap.size w2 w6) := E5.out.trans (b6.mono E5.out.size)
    have G6 : Hid (w6.heap[w4.heap.size]? = some (.cells #[.int .u32 a, .int .u32 b', .int .u32 c, .int .u64 d] 25 (0, 0))) := (b6.block _ (Array.getElem?_eq_some_iff.1 G5.out).1).trans G5.out
    clear b6 E5 G5 HE
    obtain ⟨ga, gb, gc, gd⟩ := HC.out w6 E6.out
    have gw : w.heap.size < w6.heap.size := Nat.lt_of_lt_of_le l2 E6.out.size
    have g8 : w4.heap.size < w6.heap.size := (Array.getElem?_eq_some_iff.1 G6.out).1
    have ha : w6.cell? ⟨w4.heap.size, 0, none⟩ = some (.int .u32 a) := by rw [cell_of_row _ _ _ _ _ _ G6.out]; rfl
    have hb : w6.cell? ⟨w4.heap.size, 1, none⟩ = some (.int .u32 b') := by rw [cell_of_row _ _ _ _ _ _ G6.out]; rfl
    have hc : w6.cell? ⟨w4.heap.size, 2, none⟩ = some (.int .u32 c) := by rw [cell_of_row _ _ _ _ _ _ G6.out]; rfl
    have hd : w6.cell? ⟨w4.heap.size, 3, none⟩ = some (.int .u64 d) := by rw [cell_of_row _ _ _ _ _ _ G6.out]; rfl
    have heq := HEQ.out
    go_wp2_with fail
    go_ret
    exact ⟨rfl, (Dw2.out.trans (E6.out.mono Dw2.out.size)).alloc (Dw2.out.trans (E6.out.mono Dw2.out.size)).size _⟩
end Go.Proofs.YtaoadopnhphjbaaDoor.Rs
