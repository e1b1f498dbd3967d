/- KeysBack: the walk. -/
import Derived.Test.YtdgllokedcopjaaSc
namespace Go.Proofs.Ytdgllokedcopjaa
open Go.RowKit
theorem two_cells {w : World} {g : Nat} {x y : Value} {t : TypeId} {fr : Nat × Nat} (h : w.heap[g]? = some (.cells #[x, y] t fr)) : w.cell? ⟨g, 0, none⟩ = some x ∧ w.cell? ⟨g, 1, none⟩ = some y :=
  ⟨by rw [cell_of_row _ _ _ _ _ _ h]; rfl, by rw [cell_of_row _ _ _ _ _ _ h]; rfl⟩
theorem keeps {w w' : World} {g : Nat} {o : Obj} {B : Nat} (h : w.heap[g]? = some o) (hb : Below B w w') (hB : w.heap.size ≤ B) : w'.heap[g]? = some o :=
  (hb.block _ (Nat.lt_of_lt_of_le (Array.getElem?_eq_some_iff.1 h).1 hB)).trans h
set_option maxRecDepth 100000 in
set_option maxHeartbeats 4000000 in
theorem keysBack_walk (l : List Ky) (k : Ky) (h : Int) (o : Option Addr) (cap : Nat) (w : World) (hr : Ring w o cap l) :
    Calls Try.prog 6 #[.slice o l.length cap, kv k, .int .u32 h] w fun e w' => e = .returned (.bool true) ∧ Below w.heap.size w w' := by
  have HG : Hid (Ring w o cap l) := hr
  obtain ⟨m, hm30, CT⟩ := cut_named l o cap
  clear hr
  obtain ⟨g, s⟩ := k
  unfold kv
  go_enter Try.func6, Try.ntmps6
  go_wp2_with fail
  refine (shown_any _).mono ?_
  rintro e w1 ⟨rfl, b1⟩
  have B1 : Hid (Below w.heap.size w w1) := (below_new w _).trans (b1.mono (by simp))
  have H1 : Hid (w1.heap[w.heap.size]? = some (.cells #[.int .u32 g, .string s] 31 (0, 0))) := keeps (heap_alloc_new w _) b1 (Nat.le_refl _)
  clear b1
  go_wp2_with fail
  refine (CT.out w1 (HG.out.below B1.out (Nat.le_refl _))).1.mono ?_
  rintro e w2 ⟨rfl, rfl⟩
  have R2 : Hid (Ring w2 o cap m) := (CT.out _ (HG.out.below B1.out (Nat.le_refl _))).2
  obtain ⟨c0, c1⟩ := two_cells H1.out
  clear CT HG
  go_wp2_with fail
  clear c0 c1
  refine (add_any m (g, s) o cap w2 R2.out).mono ?_
  rintro e w3 ⟨o3, c3, rfl, r3, b3⟩
  have B3 : Hid (Below w.heap.size w w3) := B1.out.trans (b3.mono B1.out.size)
  have H3 : Hid _ := keeps H1.out b3 (Nat.le_refl _)
  have R3 : Hid (Ring w3 o cap m) := R2.out.below b3 (Nat.le_refl _)
  by_cases he : aeS m (g, s) = 0
  · have ha := al_zero _ _ he
    rw [ha] at r3 ⊢
    rw [he]
    have hw := (ae_zero _ _).1 he
    have HBK : Hid _ := back m (g, s) h hw
    have HRW : Hid (rightS (withS m (g, s)) = true) := hw.2
    have HLN : Hid ((withS m (g, s)).length = m.length + 1) := withS_length m (g, s)
    have S3 : Hid (Ring w3 o3 c3 (withS m (g, s))) := r3
    clear r3 b3 B1 H1 R2 ha he hw
    obtain ⟨n, hn⟩ : ∃ n, withS m (g, s) = n := ⟨_, rfl⟩
    rw [hn] at S3 HBK HRW HLN ⊢
    clear hn
    obtain ⟨c0, c1⟩ := two_cells H3.out
    go_wp2_with fail
    clear c0 c1
    refine (find_any n g o3 c3 w3 S3.out).mono ?_
    rintro e w4 ⟨rfl, b4⟩
    rw [HBK.out.1, HBK.out.2.1]
    unfold kv
    have B4 : Hid (Below w.heap.size w w4) := B3.out.trans (b4.mono B3.out.size)
    have H4 : Hid _ := keeps H3.out b4 (Nat.le_refl _)
    have R4 : Hid (Ring w4 o cap m) := R3.out.below b4 (Nat.le_refl _)
    have S4 : Hid (Ring w4 o3 c3 n) := S3.out.below b4 (Nat.le_refl _)
    clear b4 B3 H3 R3 S3
    obtain ⟨c0, c1⟩ := two_cells H4.out
    have hl4 : w.heap.size < w4.heap.size := (Array.getElem?_eq_some_iff.1 H4.out).1
    go_wp2_with fail
    clear c0 c1
    obtain ⟨w5, hw5⟩ : ∃ w5, w4.alloc (.cells #[.int .u32 g, .string s] 31) = w5 := ⟨_, rfl⟩
    have b5 : Below w4.heap.size w4 w5 := by rw [← hw5]; exact below_new _ _
    have X5 : Hid (w5.heap[w4.heap.size]? = some (.cells #[.int .u32 g, .string s] 31 (0, 0))) := by rw [← hw5]; exact heap_alloc_new w4 _
    rw [hw5]
    have B5 : Hid (Below w.heap.size w w5) := B4.out.trans (b5.mono B4.out.size)
    have H5 : Hid _ := keeps H4.out b5 (Nat.le_refl _)
    have R5 : Hid (Ring w5 o cap m) := R4.out.below b5 (Nat.le_refl _)
    have S5 : Hid (Ring w5 o3 c3 n) := S4.out.below b5 (Nat.le_refl _)
    clear hw5 b5 B4 H4 R4 S4 hl4
    refine (drop_any n g o3 c3 w5 S5.out).mono ?_
    rintro e w6 ⟨o6, c6, rfl, r6, b6⟩
    have hbk : dlS n g = m := HBK.out.2.2.1
    rw [hbk] at r6 ⊢
    rw [HBK.out.2.1]
    have B6 : Hid (Below w.heap.size w w6) := B5.out.trans (b6.mono B5.out.size)
    have H6 : Hid _ := keeps H5.out b6 (Nat.le_refl _)
    have X6 : Hid _ := keeps X5.out b6 (Nat.le_refl _)
    have R6 : Hid (Ring w6 o cap m) := R5.out.below b6 (Nat.le_refl _)
    have S6 : Hid (Ring w6 o3 c3 n) := S5.out.below b6 (Nat.le_refl _)
    have T6 : Hid (Ring w6 o6 c6 m) := r6
    clear b6 r6 hbk B5 H5 X5 R5 S5
    go_wp2_with fail
    refine (find_any m h o cap w6 R6.out).mono ?_
    rintro e w7 ⟨rfl, b7⟩
    have B7 : Hid (Below w.heap.size w w7) := B6.out.trans (b7.mono B6.out.size)
    have H7 : Hid _ := keeps H6.out b7 (Nat.le_refl _)
    have X7 : Hid _ := keeps X6.out b7 (Nat.le_refl _)
    have R7 : Hid (Ring w7 o cap m) := R6.out.below b7 (Nat.le_refl _)
    have S7 : Hid (Ring w7 o3 c3 n) := S6.out.below b7 (Nat.le_refl _)
    have T7 : Hid (Ring w7 o6 c6 m) := T6.out.below b7 (Nat.le_refl _)
    clear b7 B6 H6 X6 R6 S6 T6
    obtain ⟨y, hy⟩ : ∃ y, fkS m h = y := ⟨_, rfl⟩
    obtain ⟨ye, hye⟩ : ∃ ye, feS m h = ye := ⟨_, rfl⟩
    obtain ⟨z, hz⟩ : ∃ z, fkS n h = z := ⟨_, rfl⟩
    obtain ⟨ze, hze⟩ : ∃ ze, feS n h = ze := ⟨_, rfl⟩
    have HYZ : Hid (g ≠ h → y = z ∧ ye = ze) := fun hn => by have := HBK.out.2.2.2 hn; rw [hy, hz, hye, hze] at this; exact this
    have HZ : Hid (fkS n h = z ∧ feS n h = ze) := ⟨hz, hze⟩
    rw [hy, hye]
    clear hy hye hz hze HBK
    obtain ⟨yg, ys⟩ := y
    obtain ⟨zg, zs⟩ := z
    unfold kv
    go_wp2_with fail
    obtain ⟨w8, hw8⟩ : ∃ w8, w7.alloc (.cells #[.int .u32 yg, .string ys] 31) = w8 := ⟨_, rfl⟩
    have b8 : Below w7.heap.size w7 w8 := by rw [← hw8]; exact below_new _ _
    have Y8 : Hid (w8.heap[w7.heap.size]? = some (.cells #[.int .u32 yg, .string ys] 31 (0, 0))) := by rw [← hw8]; exact heap_alloc_new w7 _
    rw [hw8]
    have B8 : Hid (Below w.heap.size w w8) := B7.out.trans (b8.mono B7.out.size)
    have H8 : Hid _ := keeps H7.out b8 (Nat.le_refl _)
    have X8 : Hid _ := keeps X7.out b8 (Nat.le_refl _)
    have R8 : Hid (Ring w8 o cap m) := R7.out.below b8 (Nat.le_refl _)
    have S8 : Hid (Ring w8 o3 c3 n) := S7.out.below b8 (Nat.le_refl _)
    have T8 : Hid (Ring w8 o6 c6 m) := T7.out.below b8 (Nat.le_refl _)
    clear hw8 b8 B7 H7 X7 R7 S7 T7
    refine (find_any n h o3 c3 w8 S8.out).mono ?_
    rintro e w9 ⟨rfl, b9⟩
    rw [HZ.out.1, HZ.out.2]
    unfold kv
    have B9 : Hid (Below w.heap.size w w9) := B8.out.trans (b9.mono B8.out.size)
    have H9 : Hid _ := keeps H8.out b9 (Nat.le_refl _)
    have X9 : Hid _ := keeps X8.out b9 (Nat.le_refl _)
    have Y9 : Hid _ := keeps Y8.out b9 (Nat.le_refl _)
    have R9 : Hid (Ring w9 o cap m) := R8.out.below b9 (Nat.le_refl _)
    have S9 : Hid (Ring w9 o3 c3 n) := S8.out.below b9 (Nat.le_refl _)
    have T9 : Hid (Ring w9 o6 c6 m) := T8.out.below b9 (Nat.le_refl _)
    clear b9 B8 H8 X8 Y8 R8 S8 T8 HZ
    have hq := eql_keys (g, s) (g, s)
    rw [decide_eq_true rfl] at hq
    simp only at hq
    obtain ⟨c0, c1⟩ := two_cells H9.out
    obtain ⟨d0, d1⟩ := two_cells X9.out
    have hl1 : w.heap.size < w9.heap.size := (Array.getElem?_eq_some_iff.1 H9.out).1
    have hl2 : w4.heap.size < w9.heap.size := (Array.getElem?_eq_some_iff.1 X9.out).1
    go_wp2_with fail
    clear c0 c1 d0 d1 hq hl1 hl2
    obtain ⟨wa, hwa⟩ : ∃ wa, w9.alloc (.cells #[.int .u32 zg, .string zs] 31) = wa := ⟨_, rfl⟩
    have ba : Below w9.heap.size w9 wa := by rw [← hwa]; exact below_new _ _
    have Za : Hid (wa.heap[w9.heap.size]? = some (.cells #[.int .u32 zg, .string zs] 31 (0, 0))) := by rw [← hwa]; exact heap_alloc_new w9 _
    rw [hwa]
    have Ba : Hid (Below w.heap.size w wa) := B9.out.trans (ba.mono B9.out.size)
    have Ha : Hid _ := keeps H9.out ba (Nat.le_refl _)
    have Ya : Hid _ := keeps Y9.out ba (Nat.le_refl _)
    have Ra : Hid (Ring wa o cap m) := R9.out.below ba (Nat.le_refl _)
    have Sa : Hid (Ring wa o3 c3 n) := S9.out.below ba (Nat.le_refl _)
    have Ta : Hid (Ring wa o6 c6 m) := T9.out.below ba (Nat.le_refl _)
    clear hwa ba B9 H9 X9 Y9 R9 S9 T9
    refine (same_any m m o6 o c6 cap wa Ta.out Ra.out).mono ?_
    rintro e wb ⟨rfl, bb⟩
    rw [decide_eq_true rfl]
    have Bb : Hid (Below w.heap.size w wb) := Ba.out.trans (bb.mono Ba.out.size)
    have Hb := keeps Ha.out bb (Nat.le_refl _)
    have Yb := keeps Ya.out bb (Nat.le_refl _)
    have Zb := keeps Za.out bb (Nat.le_refl _)
    have Sb : Hid (Ring wb o3 c3 n) := Sa.out.below bb (Nat.le_refl _)
    obtain ⟨c0, c1⟩ := two_cells Hb
    obtain ⟨d0, d1⟩ := two_cells Yb
    obtain ⟨f0, f1⟩ := two_cells Zb
    clear bb Ba Ha Ya Za Ra Sa Ta Hb Yb Zb
    by_cases hgh : h = g
    · have qg : (h == g) = true := by simp [hgh]
      clear hgh HYZ
      go_wp2_with fail
      refine (right_any n o3 c3 wb Sb.out).mono ?_
      rintro e wc ⟨rfl, bc⟩
      have Bc : Hid (Below w.heap.size w wc) := Bb.out.trans (bc.mono Bb.out.size)
      rw [HRW.out]
      have hln : ((n.length : Int) == (m.length : Int) + 1) = true := by have := HLN.out; simp; omega
      have hml : (m.length : Int) ≤ 30 := by omega
      have hm0 : (0 : Int) ≤ (m.length : Int) := by omega
      clear bc Bb Sb c0 c1 d0 d1 f0 f1 qg
      go_wp2_with fail
      go_ret
      exact ⟨rfl, Bc.out⟩
    · have qg : (h == g) = false := by simp [hgh]
      obtain ⟨hyz, hye⟩ := HYZ.out (fun e => hgh e.symm)
      cases hyz
      subst hye
      have hq := eql_keys (yg, ys) (yg, ys)
      rw [decide_eq_true rfl] at hq
      simp only at hq
      clear hgh HYZ
      go_wp2_with fail
      refine (right_any n o3 c3 wb Sb.out).mono ?_
      rintro e wc ⟨rfl, bc⟩
      have Bc : Hid (Below w.heap.size w wc) := Bb.out.trans (bc.mono Bb.out.size)
      rw [HRW.out]
      have hln : ((n.length : Int) == (m.length : Int) + 1) = true := by have := HLN.out; simp; omega
      have hml : (m.length : Int) ≤ 30 := by omega
      have hm0 : (0 : Int) ≤ (m.length : Int) := by omega
      clear bc Bb Sb c0 c1 d0 d1 f0 f1 qg hq
      go_wp2_with fail
      go_ret
      exact ⟨rfl, Bc.out⟩
  · have hae : aeS m (g, s) = 40 ∧ alS m (g, s) = [] := by
      unfold aeS at he ⊢
      unfold alS
      split
      · rename_i hx; rw [if_pos hx] at he; exact absurd rfl he
      · exact ⟨rfl, rfl⟩
    rw [hae.1, hae.2]
    clear hae he r3 b3
    go_wp2_with fail
    go_ret
    exact ⟨rfl, B3.out⟩
end Go.Proofs.Ytdgllokedcopjaa
