/- KeysAlone: the walk. -/
import Derived.Test.YtmlechalhldlhaaDoorVa
namespace Go.Proofs.YtmlechalhldlhaaDoor.Rk
open Go.RowKit Go.Lib
/-- The first thirty keys, under a name of their own. -/
theorem cut_named (l : List Ky) (o : Option Addr) (cap : Nat) : ∃ m : List Ky, m.length ≤ 30 ∧ Hid (∀ W, Ring W o cap l → (Calls Tryd.prog 9 #[.slice o l.length cap] W fun e w' => e = .returned (.slice o m.length cap) ∧ w' = W) ∧ Ring W o cap m) :=
  ⟨l.take 30, by rw [List.length_take]; omega, fun W h => ⟨cut_any l o cap W h, h.cut⟩⟩
set_option maxRecDepth 100000 in
set_option maxHeartbeats 4000000 in
theorem keysAlone_walk (Kt : Nat → Int) (k : Ky) (l : List Ky) (o : Option Addr) (cap : Nat) (w : World) (hr : Ring w o cap l) {tt : TypeId} {fr : Nat × Nat} (hK : w.heap[1]? = some (.cells (w64 Kt) tt fr)) :
    Calls Tryd.prog 4 #[kv k, .slice o l.length cap] w fun e w' => e = .returned (.bool true) ∧ Below w.heap.size w w' := by
  have HG : Hid (Ring w o cap l) := hr
  have HK : Hid (w.heap[1]? = some (.cells (w64 Kt) tt fr)) := hK
  obtain ⟨m, hm30, CT⟩ := cut_named l o cap
  clear hr hK
  obtain ⟨g, s⟩ := k
  unfold kv
  go_enter Tryd.func4, Tryd.ntmps4
  go_wp2_with fail
  refine (shown_any _).mono ?_
  rintro e w1 ⟨rfl, b1⟩
  have B1 : Hid (Below w.heap.size w w1) := (below_new w _).trans (b1.mono (by simp))
  have X1 : Hid (w1.heap[w.heap.size]? = some (.cells #[.int .u32 g, .string s] 24 (0, 0))) := keepsK (heap_alloc_new w _) b1 (Nat.le_refl _)
  clear b1
  have HC : Hid (∀ W, Below w1.heap.size w1 W → W.cell? ⟨w.heap.size, 0, none⟩ = some (.int .u32 g) ∧ W.cell? ⟨w.heap.size, 1, none⟩ = some (.string s)) := fun W hB => two_cells (keepsK X1.out hB (Nat.le_refl _))
  have HT : Hid (∀ W, Below w1.heap.size w1 W → Calls Tryd.prog 6 #[.agg #[.int .u32 g, .string s]] W fun e w' => e = .returned (.tuple #[.string (sealS Kt (g, s)), .string (bindS Kt (g, s)), .int .i64 (subE (g, s))]) ∧ Below W.heap.size W w') := fun W hB =>
    subs_any Kt (g, s) W (keepsK (keepsK HK.out B1.out (Nat.le_refl _)) hB (Nat.le_refl _))
  obtain ⟨c0, c1⟩ := HC.out w1 (Below.refl _ _)
  go_wp2_with fail
  clear c0 c1
  refine (HT.out w1 (Below.refl _ _)).mono ?_
  rintro e w2 ⟨rfl, b2⟩
  have D2 : Hid (Below w1.heap.size w1 w2) := b2
  clear b2
  go_wp2_with fail
  refine wp_region_held (S := fun w' => w'.cell? ⟨w.heap.size, 0, none⟩ = some (.int .u32 g) ∧ w'.cell? ⟨w.heap.size, 1, none⟩ = some (.string s)) (by kernel_rfl) ?_
  change wpAnyH _ _ _ _ _ _ _ _ (World.drew _)
  obtain ⟨w3, hw3⟩ : ∃ w3, w2.drew = w3 := ⟨_, rfl⟩
  have D3 : Hid (Below w1.heap.size w1 w3) := by rw [← hw3]; exact D2.out.drew
  rw [hw3]
  clear hw3 D2
  have HSW : Hid _ := HC.out w3 D3.out
  refine wpAnyH_take (i := 0) (v := ?_) rfl (by kernel_rfl) (by kernel_rfl) (by kernel_rfl) (fun _ _ _ h => h) (Or.inl ⟨by kernel_rfl, ?_⟩) HSW.out ?_
  rotate_left
  · intro w hS
    obtain ⟨e1, e2⟩ := hS
    go_simp
    try with_reducible rfl
  conv in (Act.put _ _ _) => simp only [List.getElem_toArray, List.getElem_cons_succ, List.getElem_cons_zero, Act.put, List.setIfInBounds_toArray, List.set_cons_succ, List.set_cons_zero]
  refine wpAnyH_take (i := 2) (v := ?_) rfl (by kernel_rfl) (by kernel_rfl) (by kernel_rfl) (fun _ _ _ h => h) (Or.inl ⟨by kernel_rfl, ?_⟩) HSW.out ?_
  rotate_left
  · intro w hS
    obtain ⟨e1, e2⟩ := hS
    go_simp
    try with_reducible rfl
  conv in (Act.put _ _ _) => simp only [List.getElem_toArray, List.getElem_cons_succ, List.getElem_cons_zero, Act.put, List.setIfInBounds_toArray, List.set_cons_succ, List.set_cons_zero]
  refine readyH 1 _ (by kernel_rfl) rfl (by kernel_rfl) (fun K hK => ?_)
  go_simp
  refine (CT.out w3 (HG.out.below (B1.out.trans (D3.out.mono B1.out.size)) (Nat.le_refl _))).1.mono ?_
  rintro e w4 ⟨rfl, rfl⟩
  refine hK _ _ HSW.out ?_
  clear hK K
  refine readyH 3 _ (by kernel_rfl) rfl (by kernel_rfl) (fun K hK => ?_)
  go_simp
  refine (add_any m (g, s) o cap w4 (CT.out _ (HG.out.below (B1.out.trans (D3.out.mono B1.out.size)) (Nat.le_refl _))).2).mono ?_
  rintro e w5 ⟨o5, c5, rfl, r5, b5⟩
  have D5 : Hid (Below w1.heap.size w1 w5) := D3.out.trans (b5.mono D3.out.size)
  clear b5 r5 D3 HSW
  have HSW : Hid _ := HC.out w5 D5.out
  refine hK _ _ HSW.out ?_
  clear hK K
  refine wpAnyH_done (by kernel_rfl) ?_ _
  clear HSW
  generalize (alS m (g, s)).length = al at *
  generalize aeS m (g, s) = ae at *
  obtain ⟨c0, c1⟩ := HC.out w5 D5.out
  go_wp2_with fail
  clear c0 c1
  refine (HT.out w5 D5.out).mono ?_
  rintro e w6 ⟨rfl, b6⟩
  have D6 : Hid (Below w1.heap.size w1 w6) := D5.out.trans (b6.mono D5.out.size)
  clear b6 D5
  obtain ⟨c0, c1⟩ := HC.out w6 D6.out
  obtain ⟨sl, hsl⟩ : ∃ sl, sealS Kt (g, s) = sl := ⟨_, rfl⟩
  obtain ⟨bd, hbd⟩ : ∃ bd, bindS Kt (g, s) = bd := ⟨_, rfl⟩
  obtain ⟨er, her⟩ : ∃ er, subE (g, s) = er := ⟨_, rfl⟩
  rw [hsl, hbd, her]
  have HV : Hid ((rightS [(g, s)] = true → sl.size = 32 ∧ bd.size = 32 ∧ er = 0) ∧ (rightS [(g, s)] = false → sl = ⟨#[]⟩ ∧ bd = ⟨#[]⟩ ∧ er = 40)) := by
    refine (?_ : (rightS [(g, s)] = true → sl.size = 32 ∧ bd.size = 32 ∧ er = 0) ∧ (rightS [(g, s)] = false → sl = ⟨#[]⟩ ∧ bd = ⟨#[]⟩ ∧ er = 40))
    rw [← hsl, ← hbd, ← her]
    refine ⟨fun h => ?_, fun h => ?_⟩
    · unfold sealS bindS subE
      rw [if_pos h, if_pos h, if_pos h, subS_size, subS_size]
      exact ⟨rfl, rfl, rfl⟩
    · unfold sealS bindS subE
      rw [h]
      exact ⟨rfl, rfl, rfl⟩
  clear hsl hbd her HT
  go_wp2_with fail
  clear c0 c1
  obtain ⟨w7, hw7⟩ : ∃ w7, w6.alloc (.cells #[.int .u32 g, .string s] 24) = w7 := ⟨_, rfl⟩
  have D7 : Hid (Below w1.heap.size w1 w7) := by rw [← hw7]; exact D6.out.alloc D6.out.size _
  have R7 : Hid (Ring w7 (some ⟨w6.heap.size, 0, none⟩) 1 [(g, s)]) := by rw [← hw7]; exact one_ring (k := (g, s)) (heap_alloc_new w6 _)
  rw [hw7]
  clear hw7 D6
  refine (right_any [(g, s)] (some ⟨w6.heap.size, 0, none⟩) 1 w7 R7.out).mono ?_
  rintro e w8 ⟨rfl, b8⟩
  have B8 : Hid (Below w.heap.size w w8) := B1.out.trans ((D7.out.trans (b8.mono D7.out.size)).mono B1.out.size)
  clear b8 D7 R7
  cases hR : rightS [(g, s)]
  · obtain ⟨rfl, rfl, rfl⟩ := HV.out.2 hR
    clear hR HV
    go_wp2_with fail
    go_ret
    exact ⟨rfl, B8.out⟩
  · obtain ⟨h1, h2, rfl⟩ := HV.out.1 hR
    have q1 : (sl.size : Int) = 32 := by omega
    have q2 : (bd.size : Int) = 32 := by omega
    clear hR HV h1 h2
    go_wp2_with fail
    go_ret
    exact ⟨rfl, B8.out⟩
end Go.Proofs.YtmlechalhldlhaaDoor.Rk
