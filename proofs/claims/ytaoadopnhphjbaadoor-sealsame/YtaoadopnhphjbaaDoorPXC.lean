/- SealSame: the walk. -/
import Derived.Test.YtaoadopnhphjbaaDoorPXA
namespace Go.Proofs.YtaoadopnhphjbaaDoor.Rs
open Go.RowKit Go.Lib
set_option maxRecDepth 100000 in
set_option maxHeartbeats 2000000 in
theorem sealSame_walk (Kt : Nat → Int) (l : List Rk.Ky) (o : Option Addr) (cap : Nat) (b : ByteArray) (w : World) (hr : Rk.Ring w o cap l) (hT : Tb Kt w) :
    Calls Tryd.prog 7 #[.slice o l.length cap, .string b] w fun e w' => e = .returned (.bool true) ∧ Below w.heap.size w w' := by
  obtain ⟨m, hm30, CT⟩ := cut_named l o cap
  have HG : Hid (Rk.Ring w o cap l) := hr
  have HT : Hid (Tb Kt w) := hT
  have HO : Hid (∀ W, Rk.Ring W o cap m → Tb Kt W → Calls Tryd.prog 19 #[.slice o m.length cap, .string b] W fun e w' => e = .returned (.tuple #[hv (oH Kt m b), .string (oS Kt m b), .int .i64 (oE Kt m b)]) ∧ Below W.heap.size W w') := fun W h1 h2 => open_any Kt m o cap b W h1 h2
  have HS : Hid (oE Kt m b = 0 → ∀ W, Rk.Ring W o cap m → Tb Kt W → Calls Tryd.prog 16 #[.slice o m.length cap, hv (oH Kt m b), .string (oS Kt m b)] W fun e w' => e = .returned (.tuple #[.string b, .int .i64 0]) ∧ Below W.heap.size W w') := fun h0 W h1 h2 => by
    obtain ⟨e1, e2, e3⟩ := seal_open Kt m b h0
    have := seal_any Kt m o cap (oH Kt m b) e3 (oS Kt m b) W h1 h2
    rw [e1, e2] at this
    exact this
  have HV : Hid ((oE Kt m b ≠ 0 ∧ oH Kt m b = zh ∧ oS Kt m b = ⟨#[]⟩) ∨ oE Kt m b = 0) := by
    refine (?_ : _ ∨ _)
    by_cases h0 : oE Kt m b = 0
    · exact .inr h0
    · exact .inl ⟨h0, oe_none Kt m b h0⟩
  have HEQ : Hid (∀ w, (binOp .eql 25 (.agg #[.int .u32 0, .int .u32 0, .int .u32 0, .int .u64 0]) (.agg #[.int .u32 0, .int .u32 0, .int .u32 0, .int .u64 0])).run Tryd.prog w = .ok (.bool true) w) := fun w => eql_heads zh zh w
  clear hr hT
  generalize oE Kt m b = oe at *
  generalize oH Kt m b = oh at *
  generalize oS Kt m b = os at *
  have HTB : Hid (∀ W, Below w.heap.size w W → Tb Kt W) := fun W hB => HT.out.below hB (Nat.le_refl _)
  have HGB : Hid (∀ W, Below w.heap.size w W → Rk.Ring W o cap l) := fun W hB => HG.out.below hB (Nat.le_refl _)
  clear HT HG
  obtain ⟨a, b', c, d⟩ := oh
  go_enter Tryd.func7, Tryd.ntmps7
  go_wp2_with fail
  refine (shown_any Kt w (HTB.out w (Below.refl _ _))).mono ?_
  rintro e w1 ⟨rfl, b1⟩
  have D1 : Hid (Below w.heap.size w w1) := b1
  clear b1
  go_wp2_with fail
  refine (CT.out w1 (HGB.out w1 D1.out)).1.mono ?_
  rintro e vc ⟨rfl, hvc⟩
  subst hvc
  go_wp2_with fail
  refine (HO.out _ (CT.out _ (HGB.out _ D1.out)).2 (HTB.out _ D1.out)).mono ?_
  rintro e w2 ⟨rfl, b2⟩
  have D2 : Hid (Below w.heap.size w w2) := D1.out.trans (b2.mono D1.out.size)
  clear b2 D1 HO
  rcases HV.out with ⟨h0, he, rfl⟩ | rfl
  · cases he
    have q0 : (oe != 0) = true := by simpa using h0
    have heq := HEQ.out
    clear HV HS
    unfold hv
    go_wp2_with fail
    go_ret
    exact ⟨rfl, D2.out.alloc D2.out.size _⟩
  · have HS2 : Hid _ := HS.out rfl
    clear HV HS
    unfold hv at *
    simp only at HS2 ⊢
    go_wp2_with fail
    obtain ⟨w3, hw3⟩ : ∃ w3, w2.alloc (.cells #[.int .u32 a, .int .u32 b', .int .u32 c, .int .u64 d] 25) = w3 := ⟨_, rfl⟩
    have Dw3 : Hid (Below w.heap.size w w3) := by rw [← hw3]; exact D2.out.alloc D2.out.size _
    have X3 : Hid (w3.heap[w2.heap.size]? = some (.cells #[.int .u32 a, .int .u32 b', .int .u32 c, .int .u64 d] 25 (0, 0))) := by rw [← hw3]; exact heap_alloc_new w2 _
    have l3 : w2.heap.size < w3.heap.size := (Array.getElem?_eq_some_iff.1 X3.out).1
    rw [hw3]
    clear hw3 D2
    have HC : Hid (∀ w', Below w3.heap.size w3 w' → w'.cell? ⟨w2.heap.size, 0, none⟩ = some (.int .u32 a) ∧ w'.cell? ⟨w2.heap.size, 1, none⟩ = some (.int .u32 b') ∧ w'.cell? ⟨w2.heap.size, 2, none⟩ = some (.int .u32 c) ∧ w'.cell? ⟨w2.heap.size, 3, none⟩ = some (.int .u64 d)) := fun W hB => by
      have hV := (hB.block _ l3).trans X3.out
      exact ⟨by rw [cell_of_row _ _ _ _ _ _ hV]; rfl, by rw [cell_of_row _ _ _ _ _ _ hV]; rfl, by rw [cell_of_row _ _ _ _ _ _ hV]; rfl, by rw [cell_of_row _ _ _ _ _ _ hV]; rfl⟩
    have Ew3 : Hid (Below w3.heap.size w3 w3) := Below.refl _ _
    refine wp_region_held (S := fun w' => w'.cell? ⟨w2.heap.size, 0, none⟩ = some (.int .u32 a) ∧ w'.cell? ⟨w2.heap.size, 1, none⟩ = some (.int .u32 b') ∧ w'.cell? ⟨w2.heap.size, 2, none⟩ = some (.int .u32 c) ∧ w'.cell? ⟨w2.heap.size, 3, none⟩ = some (.int .u64 d)) (by kernel_rfl) ?_
    change wpAnyH _ _ _ _ _ _ _ _ (World.drew _)
    obtain ⟨vr, hvr⟩ : ∃ vr, w3.drew = vr := ⟨_, rfl⟩
    have E2 : Hid (Below w3.heap.size w3 vr) := by rw [← hvr]; exact Ew3.out.drew
    rw [hvr]
    clear hvr
    have HSW : Hid _ := HC.out vr E2.out
    refine wpAnyH_take (i := 0) (v := ?_) rfl (by kernel_rfl) (by kernel_rfl) (by kernel_rfl) (fun _ _ _ h => h) (Or.inl ⟨by kernel_rfl, ?_⟩) HSW.out ?_
    rotate_left
    · intro w hS
      obtain ⟨e1, e2, e3, e4⟩ := hS
      go_simp
      try with_reducible rfl
    conv in (Act.put _ _ _) => simp only [List.getElem_toArray, List.getElem_cons_succ, List.getElem_cons_zero, Act.put, List.setIfInBounds_toArray, List.set_cons_succ, List.set_cons_zero]
    refine wpAnyH_take (i := 2) (v := ?_) rfl (by kernel_rfl) (by kernel_rfl) (by kernel_rfl) (fun _ _ _ h => h) (Or.inl ⟨by kernel_rfl, ?_⟩) HSW.out ?_
    rotate_left
    · intro w hS
      obtain ⟨e1, e2, e3, e4⟩ := hS
      go_simp
      try with_reducible rfl
    conv in (Act.put _ _ _) => simp only [List.getElem_toArray, List.getElem_cons_succ, List.getElem_cons_zero, Act.put, List.setIfInBounds_toArray, List.set_cons_succ, List.set_cons_zero]
    refine wpAnyH_take (i := 3) (v := ?_) rfl (by kernel_rfl) (by kernel_rfl) (by kernel_rfl) (fun _ _ _ h => h) (Or.inl ⟨by kernel_rfl, ?_⟩) HSW.out ?_
    rotate_left
    · intro w hS
      obtain ⟨e1, e2, e3, e4⟩ := hS
      go_simp
      try with_reducible rfl
    conv in (Act.put _ _ _) => simp only [List.getElem_toArray, List.getElem_cons_succ, List.getElem_cons_zero, Act.put, List.setIfInBounds_toArray, List.set_cons_succ, List.set_cons_zero]
    refine readyH 1 _ (by kernel_rfl) rfl (by kernel_rfl) (fun K hK => ?_)
    go_simp
    refine (CT.out vr (HGB.out vr (Dw3.out.trans (E2.out.mono Dw3.out.size)))).1.mono ?_
    rintro e vc ⟨rfl, hvc⟩
    subst hvc
    refine hK _ _ HSW.out ?_
    clear hK K
    refine readyH 4 _ (by kernel_rfl) rfl (by kernel_rfl) (fun K hK => ?_)
    go_simp
    refine (HS2.out _ (CT.out _ (HGB.out _ (Dw3.out.trans (E2.out.mono Dw3.out.size)))).2 (HTB.out _ (Dw3.out.trans (E2.out.mono Dw3.out.size)))).mono ?_
    rintro e w4 ⟨rfl, b3⟩
    have Ew4 : Hid (Below w3.heap.size w3 w4) := E2.out.trans (b3.mono E2.out.size)
    clear b3 E2 HSW
    refine hK _ _ (HC.out w4 Ew4.out) ?_
    clear hK K
    have HSW : Hid _ := HC.out w4 Ew4.out
    refine wpAnyH_take (i := 5) (v := ?_) rfl (by kernel_rfl) (by kernel_rfl) (by kernel_rfl) (fun _ _ _ h => h) (Or.inl ⟨by kernel_rfl, ?_⟩) HSW.out ?_
    rotate_left
    · intro w hS
      obtain ⟨e1, e2, e3, e4⟩ := hS
      go_simp
      try with_reducible rfl
    conv in (Act.put _ _ _) => simp only [List.getElem_toArray, List.getElem_cons_succ, List.getElem_cons_zero, Act.put, List.setIfInBounds_toArray, List.set_cons_succ, List.set_cons_zero]
    refine wpAnyH_take (i := 6) (v := ?_) rfl (by kernel_rfl) (by kernel_rfl) (by kernel_rfl) (fun _ _ _ h => h) (Or.inl ⟨by kernel_rfl, ?_⟩) HSW.out ?_
    rotate_left
    · intro w hS
      obtain ⟨e1, e2, e3, e4⟩ := hS
      go_simp
      try with_reducible rfl
    conv in (Act.put _ _ _) => simp only [List.getElem_toArray, List.getElem_cons_succ, List.getElem_cons_zero, Act.put, List.setIfInBounds_toArray, List.set_cons_succ, List.set_cons_zero]
    refine wpAnyH_take (i := 7) (v := ?_) rfl (by kernel_rfl) (by kernel_rfl) (by kernel_rfl) (fun _ _ _ h => h) (Or.inl ⟨by kernel_rfl, ?_⟩) HSW.out ?_
    rotate_left
    · intro w hS
      obtain ⟨e1, e2, e3, e4⟩ := hS
      go_simp
      try with_reducible rfl
    conv in (Act.put _ _ _) => simp only [List.getElem_toArray, List.getElem_cons_succ, List.getElem_cons_zero, Act.put, List.setIfInBounds_toArray, List.set_cons_succ, List.set_cons_zero]
    refine readyH 8 _ (by kernel_rfl) rfl (by kernel_rfl) (fun K hK => ?_)
    go_simp
    refine hK _ _ HSW.out ?_
    clear hK K
    refine readyH 9 _ (by kernel_rfl) rfl (by kernel_rfl) (fun K hK => ?_)
    go_simp
    refine hK _ _ HSW.out ?_
    clear hK K
    refine wpAnyH_done (by kernel_rfl) ?_ _
    clear HSW

    go_wp2_with fail
    go_ret
    exact ⟨rfl, Dw3.out.trans (Ew4.out.mono Dw3.out.size)⟩
end Go.Proofs.YtaoadopnhphjbaaDoor.Rs
