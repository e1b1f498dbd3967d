/- The reference's Subs; KeysSubs: the walk. -/
import Derived.Test.YtmlechalhldlhaaDoorVa
import Derived.Test.YtmlechalhldlhaaDoorUt
namespace Go.Proofs.YtmlechalhldlhaaDoor.Rk
open Go.RowKit Go.Lib
set_option maxRecDepth 100000 in
set_option maxHeartbeats 4000000 in
theorem refSubs_any (Kt : Nat → Int) (k : Ky) (w : World) {tt : TypeId} {fr : Nat × Nat} (hT : w.heap[0]? = some (.cells (w64 Kt) tt fr)) :
    Calls Tryd.prog 7 #[kv k] w fun e w' => e = .returned (.tuple #[.string (sealS Kt k), .string (bindS Kt k), .int .i64 (subE k)]) ∧ Below w.heap.size w w' := by
  obtain ⟨g, s⟩ := k
  unfold kv
  have HT0 : Hid (w.heap[0]? = some (.cells (w64 Kt) tt fr)) := hT
  clear hT
  go_enter Tryd.func7, Tryd.ntmps7
  go_wp2_with fail
  have h2 := two_new w (.cells #[.int .u32 g, .string s] 24) (.cells #[.int .u32 g, .string s] 24)
  obtain ⟨w1, hw1⟩ : ∃ w1, (w.alloc (.cells #[.int .u32 g, .string s] 24)).alloc (.cells #[.int .u32 g, .string s] 24) = w1 := ⟨_, rfl⟩
  rw [hw1] at h2 ⊢
  obtain ⟨x1, y1, b1⟩ := h2
  have B1 : Hid (Below w.heap.size w w1) := b1
  have X1 : Hid (w1.heap[w.heap.size]? = some (.cells #[.int .u32 g, .string s] 24 (0, 0))) := x1
  have R1 : Hid (Ring w1 (some ⟨w.heap.size + 1, 0, none⟩) 1 [(g, s)]) := one_ring (k := (g, s)) y1
  clear hw1 x1 y1 b1
  refine (refRight_any [(g, s)] (some ⟨w.heap.size + 1, 0, none⟩) 1 w1 R1.out).mono ?_
  rintro e w2 ⟨rfl, rfl⟩
  clear R1
  cases hR : rightS [(g, s)]
  · have HV : Hid (sealS Kt (g, s) = ⟨#[]⟩ ∧ bindS Kt (g, s) = ⟨#[]⟩ ∧ subE (g, s) = 40) := by
      refine (?_ : sealS Kt (g, s) = ⟨#[]⟩ ∧ bindS Kt (g, s) = ⟨#[]⟩ ∧ subE (g, s) = 40)
      simp [sealS, bindS, subE, hR]
    clear hR
    go_wp2_with fail
    refine bodyPost_ret (results_tmp3 rfl _ _ _) rfl ?_
    exact ⟨by rw [HV.out.1, HV.out.2.1, HV.out.2.2]; rfl, B1.out⟩
  · have HV : Hid (sealS Kt (g, s) = xS Kt s (uSeal ++ gB g) 32 ∧ bindS Kt (g, s) = xS Kt s (uBind ++ gB g) 32 ∧ subE (g, s) = 0) := by
      refine (?_ : sealS Kt (g, s) = xS Kt s (uSeal ++ gB g) 32 ∧ bindS Kt (g, s) = xS Kt s (uBind ++ gB g) 32 ∧ subE (g, s) = 0)
      simp [sealS, bindS, subE, hR, subS]
    have h32 : s.size = 32 := right_one (g, s) hR
    have hf := four_new w2 (g % 256) (g / 256 % 256) (g / 65536 % 256) (g / 16777216 % 256)
    have hgb : strOfNums [g % 256, g / 256 % 256, g / 65536 % 256, g / 16777216 % 256] = gB g := rfl
    rw [hgb] at hf
    obtain ⟨c0, c1⟩ := two_cells X1.out
    have hl1 : w.heap.size < w2.heap.size := (Array.getElem?_eq_some_iff.1 X1.out).1
    have HE : Hid (∀ u : ByteArray, u.size ≤ 100 → ∀ W, Below w2.heap.size w2 W → Calls Tryd.prog 16 #[.string s, .string (u ++ gB g), .int .i64 32] W fun e w' => e = .returned (.tuple #[.string (xS Kt s (u ++ gB g) 32), .int .i64 0]) ∧ Below W.heap.size W w') := fun u hu W hB =>
      refExpand_yes Kt s (u ++ gB g) (by omega) (by rw [ByteArray.size_append, gB_size]; omega) 32 (by decide) W (keepsK (keepsK HT0.out B1.out (Nat.le_refl _)) hB (Nat.le_refl _))
    have hs1 : ¬ 9223372036854775807 < uSeal.size + (gB g).size := by rw [gB_size]; decide
    have hs2 : ¬ 9223372036854775807 < uBind.size + (gB g).size := by rw [gB_size]; decide
    clear hR hgb
    go_wp2_with fail
    obtain ⟨w3, hw3⟩ : ∃ w3, w2.alloc (.cells #[.int .u8 (g % 256), .int .u8 (g / 256 % 256), .int .u8 (g / 65536 % 256), .int .u8 (g / 16777216 % 256)] 5) = w3 := ⟨_, rfl⟩
    have D3 : Hid (Below w2.heap.size w2 w3) := by rw [← hw3]; exact below_new _ _
    rw [hw3]
    clear hw3 hf c0 c1 hl1
    refine (HE.out uSeal (by decide) w3 D3.out).mono ?_
    rintro e w4 ⟨rfl, b4⟩
    have D4 : Hid (Below w2.heap.size w2 w4) := D3.out.trans (b4.mono D3.out.size)
    rw [← HV.out.1]
    clear b4 D3
    obtain ⟨c0, c1⟩ := two_cells (keepsK X1.out D4.out (Nat.le_refl _))
    go_wp2_with fail
    clear c0 c1
    refine (HE.out uBind (by decide) w4 D4.out).mono ?_
    rintro e w5 ⟨rfl, b5⟩
    have D5 : Hid (Below w2.heap.size w2 w5) := D4.out.trans (b5.mono D4.out.size)
    rw [← HV.out.2.1]
    clear b5 D4 HE
    go_wp2_with fail
    refine bodyPost_ret (results_tmp3 rfl _ _ _) rfl ?_
    exact ⟨by rw [HV.out.2.2]; rfl, B1.out.trans (D5.out.mono B1.out.size)⟩
set_option maxRecDepth 100000 in
set_option maxHeartbeats 4000000 in
theorem keysSubs_walk (k : Ky) (w : World) {tt tt' : TypeId} {fr fr' : Nat × Nat} (hT : w.heap[0]? = some (.cells (w64 (lf KL)) tt' fr')) (hK : w.heap[1]? = some (.cells (w64 (lf KL)) tt fr)) :
    Calls Tryd.prog 3 #[kv k] w fun e w' => e = .returned (.bool true) ∧ Below w.heap.size w w' := by
  have HT0 : Hid (w.heap[0]? = some (.cells (w64 (lf KL)) tt' fr')) := hT
  have HK : Hid (w.heap[1]? = some (.cells (w64 (lf KL)) tt fr)) := hK
  clear hT hK
  obtain ⟨g, s⟩ := k
  unfold kv
  go_enter Tryd.func3, Tryd.ntmps3
  go_wp2_with fail
  refine (shown_any _).mono ?_
  rintro e w1 ⟨rfl, b1⟩
  have B1 : Hid (Below w.heap.size w w1) := (below_new w _).trans (b1.mono (by simp))
  have X1 : Hid (w1.heap[w.heap.size]? = some (.cells #[.int .u32 g, .string s] 24 (0, 0))) := keepsK (heap_alloc_new w _) b1 (Nat.le_refl _)
  clear b1
  obtain ⟨c0, c1⟩ := two_cells X1.out
  go_wp2_with fail
  clear c0 c1
  refine (subs_any (lf KL) (g, s) w1 (keepsK HK.out B1.out (Nat.le_refl _))).mono ?_
  rintro e w2 ⟨rfl, b2⟩
  have B2 : Hid (Below w.heap.size w w2) := B1.out.trans (b2.mono B1.out.size)
  obtain ⟨c0, c1⟩ := two_cells (keepsK X1.out b2 (Nat.le_refl _))
  clear b2 B1 X1
  generalize hsl : sealS (lf KL) (g, s) = sl at *
  generalize hbd : bindS (lf KL) (g, s) = bd at *
  generalize her : subE (g, s) = er at *
  have HV : Hid (sealS (lf KL) (g, s) = sl ∧ bindS (lf KL) (g, s) = bd ∧ subE (g, s) = er) := ⟨hsl, hbd, her⟩
  clear hsl hbd her
  go_wp2_with fail
  clear c0 c1
  refine (refSubs_any (lf KL) (g, s) w2 (keepsK HT0.out B2.out (Nat.le_refl _))).mono ?_
  rintro e w3 ⟨rfl, b3⟩
  have B3 : Hid (Below w.heap.size w w3) := B2.out.trans (b3.mono B2.out.size)
  rw [HV.out.1, HV.out.2.1, HV.out.2.2]
  clear b3 B2 HV
  go_wp2_with fail
  go_ret
  exact ⟨rfl, B3.out⟩
end Go.Proofs.YtmlechalhldlhaaDoor.Rk
