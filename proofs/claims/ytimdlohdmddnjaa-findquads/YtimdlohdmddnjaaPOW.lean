/- FindQuads: what queries give is what the tree of the rows has there. -/
import Derived.Test.YtimdlohdmddnjaaPOZ
namespace Go.Proofs.Ytimdlohdmddnjaa.Rf
open Go.RowKit Go.Lib
open Go.Proofs.Ytimdlohdmddnjaa.Rc Go.Proofs.Ytimdlohdmddnjaa.Rq
set_option maxRecDepth 100000 in
set_option maxHeartbeats 4000000 in
theorem quads_no (l L : List Rw) (hL : l.take 60 = L) (q : Qr) (o : Option Addr) (cap : Nat) (w : World) (hr : RowsAt w o cap l) (hrl : rightL L = false) : Calls Try.prog 7 #[.slice o l.length cap, qv q] w fun e w' => e = .returned (.bool true) ∧ Below w.heap.size w w' := by
 have hb := below_new w (qcs q)
 have hg := heap_alloc_new w (qcs q)
 obtain ⟨W0, hW0⟩ : ∃ W0, w.alloc (qcs q) = W0 := ⟨_, rfl⟩
 rw [hW0] at hb hg
 have HW0 : Hid _ := hW0
 have HG0 : Hid (W0.heap[w.heap.size]? = some (qcs q)) := hg
 have HB0 : Hid (Below w.heap.size w W0) := hb
 have l0 : w.heap.size < W0.heap.size := (Array.getElem?_eq_some_iff.1 hg).1
 have HF : Hid (∀ W, RowsAt W o cap l → Calls Try.prog 14 #[.slice o l.length cap] W fun e w' => e = .returned (.slice o L.length cap) ∧ w' = W) := fun W hW => by rw [← hL]; exact few_any l o cap W hW
 have HR0 : Hid (RowsAt w o cap l) := hr
 have HR : Hid (RowsAt w o cap L) := by rw [← hL]; exact hr.head 60
 clear hL
 obtain ⟨M, hM⟩ := bound_ids L
 have HBd : Hid (∀ W, RowsAt W o cap L → _) := fun W hW => build_no L o cap W hW hrl
 have HA : Hid (∀ W, RowsAt W o cap L → _) := fun W hW => ask_any o cap L q M hM W hW
 have hE : fdE q L = 80 := by unfold fdE; rw [hrl]; rfl
 rw [hE] at HA
 generalize askL q M L = AL at *
 generalize askB q M L = AB at *
 clear hM hE hrl
 obtain ⟨k, a, b, c, d, x, y, sq, kk, af, fr⟩ := q
 simp only [qv, nv] at HA HBd ⊢
 clear hb hg hW0 hr
 go_enter Try.func7, Try.ntmps7
 go_wp2_with (first | (rw [HW0.out]; clear HW0))
 refine (fshown_any _).mono ?_
 rintro e w1 ⟨rfl, b1⟩
 have HB1 : Hid (Below w.heap.size w w1) := HB0.out.trans (b1.mono HB0.out.size)
 have HG1 : Hid (w1.heap[w.heap.size]? = some (qcs ⟨k, a, b, c, d, x, y, sq, kk, af, fr⟩)) := (b1.block _ l0).trans HG0.out
 have l1 : w.heap.size < w1.heap.size := Nat.lt_of_lt_of_le l0 b1.size
 clear b1 HG0 HB0 l0
 go_wp2_with fail
 refine (HF.out w1 (HR0.out.below HB1.out (Nat.le_refl _))).mono ?_
 rintro e w9 ⟨rfl, hw9⟩
 have hw9' := hw9.symm
 clear hw9
 subst hw9'
 clear HF HR0
 go_wp2_with fail
 refine Calls.mono (HBd.out w1 (HR.out.below HB1.out (Nat.le_refl _))) ?_
 rintro e w2 ⟨rfl, b2⟩
 have HB2 : Hid (Below w.heap.size w w2) := HB1.out.trans (b2.mono HB1.out.size)
 have HG2 : Hid (w2.heap[w.heap.size]? = some (qcs ⟨k, a, b, c, d, x, y, sq, kk, af, fr⟩)) := (b2.block _ l1).trans HG1.out
 have l2 : w.heap.size < w2.heap.size := Nat.lt_of_lt_of_le l1 b2.size
 have HB3 : Hid (Below w.heap.size w (w2.alloc (.cells #[.int .u32 0, .int .u32 0, .int .i64 0, .slice none 0 0, .slice none 0 0] 45))) := HB2.out.trans ((below_new w2 _).mono HB2.out.size)
 obtain ⟨c0, c1, c2, c3, c4, c5, c6, c7, c8, c9, c10⟩ := qc_of HG2.out
 simp only at c0 c1 c2 c3 c4 c5 c6 c7 c8 c9 c10
 clear b2 HBd
 go_wp2_with fail
 refine Calls.mono (HA.out _ (HR.out.below HB3.out (Nat.le_refl _))) ?_
 rintro e w4 ⟨o4, cap4, rfl, hr4, b4⟩
 have HB4 : Hid (Below w.heap.size w w4) := HB3.out.trans (b4.mono HB3.out.size)
 clear b4 hr4
 go_wp2_with fail
 go_ret
 exact ⟨rfl, HB4.out⟩
set_option maxRecDepth 100000 in
set_option maxHeartbeats 4000000 in
theorem quads_bad (l L : List Rw) (hL : l.take 60 = L) (q : Qr) (o : Option Addr) (cap : Nat) (w : World) (hr : RowsAt w o cap l) (hrl : rightL L = true) (hc : chk q ≠ 0) : Calls Try.prog 7 #[.slice o l.length cap, qv q] w fun e w' => e = .returned (.bool true) ∧ Below w.heap.size w w' := by
 have hb := below_new w (qcs q)
 have hg := heap_alloc_new w (qcs q)
 obtain ⟨W0, hW0⟩ : ∃ W0, w.alloc (qcs q) = W0 := ⟨_, rfl⟩
 rw [hW0] at hb hg
 have HW0 : Hid _ := hW0
 have HG0 : Hid (W0.heap[w.heap.size]? = some (qcs q)) := hg
 have HB0 : Hid (Below w.heap.size w W0) := hb
 have l0 : w.heap.size < W0.heap.size := (Array.getElem?_eq_some_iff.1 hg).1
 have HF : Hid (∀ W, RowsAt W o cap l → Calls Try.prog 14 #[.slice o l.length cap] W fun e w' => e = .returned (.slice o L.length cap) ∧ w' = W) := fun W hW => by rw [← hL]; exact few_any l o cap W hW
 have HR0 : Hid (RowsAt w o cap l) := hr
 have HR : Hid (RowsAt w o cap L) := by rw [← hL]; exact hr.head 60
 clear hL
 obtain ⟨M, hM⟩ := bound_ids L
 have HBd : Hid (∀ W, RowsAt W o cap L → _) := fun W hW => build_ok L o cap W hW hrl
 have HA : Hid (∀ W, RowsAt W o cap L → _) := fun W hW => ask_any o cap L q M hM W hW
 have hE : fdE q L ≠ 0 := fd_no (fun h => hc h.2)
 generalize askL q M L = AL at *
 generalize askB q M L = AB at *
 generalize fdE q L = E at *
 have q0 : (E == 0) = false := by simpa using hE
 have q1 : decide (E = 0) = false := decide_eq_false hE
 clear hM hrl hc
 obtain ⟨k, a, b, c, d, x, y, sq, kk, af, fr⟩ := q
 simp only [qv, nv] at HA HBd ⊢
 clear hb hg hW0 hr
 go_enter Try.func7, Try.ntmps7
 go_wp2_with (first | (rw [HW0.out]; clear HW0))
 refine (fshown_any _).mono ?_
 rintro e w1 ⟨rfl, b1⟩
 have HB1 : Hid (Below w.heap.size w w1) := HB0.out.trans (b1.mono HB0.out.size)
 have HG1 : Hid (w1.heap[w.heap.size]? = some (qcs ⟨k, a, b, c, d, x, y, sq, kk, af, fr⟩)) := (b1.block _ l0).trans HG0.out
 have l1 : w.heap.size < w1.heap.size := Nat.lt_of_lt_of_le l0 b1.size
 clear b1 HG0 HB0 l0
 go_wp2_with fail
 refine (HF.out w1 (HR0.out.below HB1.out (Nat.le_refl _))).mono ?_
 rintro e w9 ⟨rfl, hw9⟩
 have hw9' := hw9.symm
 clear hw9
 subst hw9'
 clear HF HR0
 go_wp2_with fail
 refine Calls.mono (HBd.out w1 (HR.out.below HB1.out (Nat.le_refl _))) ?_
 rintro e w2 ⟨n, rfl, n2, b2⟩
 obtain ⟨X, Y, Lv, ro, rn, rc', ko, kn, kc⟩ := n
 have HB2 : Hid (Below w.heap.size w w2) := HB1.out.trans (b2.mono HB1.out.size)
 have HG2 : Hid (w2.heap[w.heap.size]? = some (qcs ⟨k, a, b, c, d, x, y, sq, kk, af, fr⟩)) := (b2.block _ l1).trans HG1.out
 have l2 : w.heap.size < w2.heap.size := Nat.lt_of_lt_of_le l1 b2.size
 have b3 := below_new w2 (.cells #[.int .u32 (X : Int), .int .u32 (Y : Int), .int .i64 (Lv : Int), .slice ro rn rc', .slice ko kn kc] 45)
 have hn3 := heap_alloc_new w2 (.cells #[.int .u32 (X : Int), .int .u32 (Y : Int), .int .i64 (Lv : Int), .slice ro rn rc', .slice ko kn kc] 45)
 have ht3 := (n2.mono (G' := fun _ => True) fun _ _ _ => trivial).below b3 (Nat.le_refl _)
 obtain ⟨w3, hw3⟩ : ∃ w3, w2.alloc (.cells #[.int .u32 (X : Int), .int .u32 (Y : Int), .int .i64 (Lv : Int), .slice ro rn rc', .slice ko kn kc] 45) = w3 := ⟨_, rfl⟩
 rw [hw3] at b3 hn3 ht3
 have HW3 : Hid _ := hw3
 have HB3 : Hid (Below w.heap.size w w3) := HB2.out.trans (b3.mono HB2.out.size)
 have HG3 : Hid (w3.heap[w.heap.size]? = some (qcs ⟨k, a, b, c, d, x, y, sq, kk, af, fr⟩)) := (b3.block _ l2).trans HG2.out
 have l3 : w.heap.size < w3.heap.size := Nat.lt_of_lt_of_le l2 b3.size
 have HN3 : Hid (w3.heap[w2.heap.size]? = some (.cells #[.int .u32 (X : Int), .int .u32 (Y : Int), .int .i64 (Lv : Int), .slice ro rn rc', .slice ko kn kc] 45 (0, 0))) := hn3
 have HT3 : Hid (NodeAt (fun _ => True) 32 w3 ⟨X, Y, Lv, ro, rn, rc', ko, kn, kc⟩ L) := ht3
 have m3 : w2.heap.size < w3.heap.size := (Array.getElem?_eq_some_iff.1 hn3).1
 obtain ⟨c0, c1, c2, c3, c4, c5, c6, c7, c8, c9, c10⟩ := qc_of HG3.out
 simp only at c0 c1 c2 c3 c4 c5 c6 c7 c8 c9 c10
 clear b2 b3 hw3 hn3 ht3 n2 HBd
 go_wp2_with (first | (rw [HW3.out]; clear HW3))
 refine Calls.mono (HA.out w3 (HR.out.below HB3.out (Nat.le_refl _))) ?_
 rintro e w4 ⟨o4, cap4, rfl, hr4, b4⟩
 have HB4 : Hid (Below w.heap.size w w4) := HB3.out.trans (b4.mono HB3.out.size)
 clear b4 hr4
 go_wp2_with fail
 go_ret
 exact ⟨rfl, HB4.out⟩
set_option maxRecDepth 100000 in
set_option maxHeartbeats 8000000 in
theorem quads_1 (l L : List Rw) (hL : l.take 60 = L) (a b c d x y sq K af : Nat) (fr : Bool) (o : Option Addr) (cap : Nat) (w : World) (hr : RowsAt w o cap l) (hrl : rightL L = true) (hc : chk ⟨1, a, b, c, d, x, y, sq, (K : Int), af, fr⟩ = 0) : Calls Try.prog 7 #[.slice o l.length cap, qv ⟨1, a, b, c, d, x, y, sq, (K : Int), af, fr⟩] w fun e w' => e = .returned (.bool true) ∧ Below w.heap.size w w' := by
 have hL60 : L.length ≤ 60 := by rw [← hL, List.length_take]; omega
 have hb := below_new w (qcs ⟨1, a, b, c, d, x, y, sq, (K : Int), af, fr⟩)
 have hg := heap_alloc_new w (qcs ⟨1, a, b, c, d, x, y, sq, (K : Int), af, fr⟩)
 obtain ⟨W0, hW0⟩ : ∃ W0, w.alloc (qcs ⟨1, a, b, c, d, x, y, sq, (K : Int), af, fr⟩) = W0 := ⟨_, rfl⟩
 rw [hW0] at hb hg
 have HW0 : Hid _ := hW0
 have HG0 : Hid (W0.heap[w.heap.size]? = some (qcs ⟨1, a, b, c, d, x, y, sq, (K : Int), af, fr⟩)) := hg
 have HB0 : Hid (Below w.heap.size w W0) := hb
 have l0 : w.heap.size < W0.heap.size := (Array.getElem?_eq_some_iff.1 hg).1
 have HF : Hid (∀ W, RowsAt W o cap l → Calls Try.prog 14 #[.slice o l.length cap] W fun e w' => e = .returned (.slice o L.length cap) ∧ w' = W) := fun W hW => by rw [← hL]; exact few_any l o cap W hW
 have HR0 : Hid (RowsAt w o cap l) := hr
 have HR : Hid (RowsAt w o cap L) := by rw [← hL]; exact hr.head 60
 clear hL
 obtain ⟨M, hM⟩ := bound_ids L
 have hon := right_on hrl
 have hri := right_rise hrl
 have HBd : Hid (∀ W, RowsAt W o cap L → _) := fun W hW => build_ok L o cap W hW hrl
 have HA : Hid (∀ W, RowsAt W o cap L → _) := fun W hW => ask_any o cap L ⟨1, a, b, c, d, x, y, sq, (K : Int), af, fr⟩ M hM W hW
 have hok : rightL L = true ∧ chk ⟨1, a, b, c, d, x, y, sq, (K : Int), af, fr⟩ = 0 := ⟨hrl, hc⟩
 have hE : fdE ⟨1, a, b, c, d, x, y, sq, (K : Int), af, fr⟩ L = 0 := fd_ok hok
 have hAL : askL ⟨1, a, b, c, d, x, y, sq, (K : Int), af, fr⟩ M L = (rest ⟨1, a, b, c, d, x, y, sq, (K : Int), af, fr⟩ (winV L a b c d)).take K := if_pos hok
 have hAB : askB ⟨1, a, b, c, d, x, y, sq, (K : Int), af, fr⟩ M L = decide (K < (rest ⟨1, a, b, c, d, x, y, sq, (K : Int), af, fr⟩ (winV L a b c d)).length) := if_pos hok
 have hFl : (winV L a b c d).length ≤ 60 := Nat.le_trans (fnd_len ⟨1, a, b, c, d, x, y, sq, (K : Int), af, fr⟩ M L) hL60
 rw [hE] at HA
 have HQR : Hid (∀ (W : World) (n : Nv), NodeAt (fun _ => True) 32 W n L → _) := fun W n hN => rowsQ_any n L 32 W hN hon (by omega) hri
 have HQ : Hid (∀ (W : World) (n : Nv), NodeAt (fun _ => True) 32 W n L → Calls Try.prog 21 #[nv n, bv a b c d] W (KR (winV L a b c d) (boxE a b c d) W)) := fun W n hN => (window_any n L 32 a b c d W hN hon (by omega) hri).mono fun e w' ⟨v, h1, h2, h3⟩ => by
  obtain ⟨o', cap', rfl, h4⟩ := sl_of_own h2
  exact ⟨o', cap', h1, h4, h3⟩
 obtain ⟨F, hF⟩ : ∃ F, winV L a b c d = F := ⟨_, rfl⟩
 rw [hF] at hAL hAB hFl HQ
 generalize askL ⟨1, a, b, c, d, x, y, sq, (K : Int), af, fr⟩ M L = AL at *
 generalize askB ⟨1, a, b, c, d, x, y, sq, (K : Int), af, fr⟩ M L = AB at *
 clear hM hrl hc hok hE hon hri hF
 simp only [qv, nv, bv] at HA HBd HQR HQ ⊢
 clear hb hg hW0 hr
 have HAL : Hid (AL = (rest ⟨1, a, b, c, d, x, y, sq, (K : Int), af, fr⟩ F).take K) := hAL
 have HAB : Hid (AB = decide (K < (rest ⟨1, a, b, c, d, x, y, sq, (K : Int), af, fr⟩ F).length)) := hAB
 clear hAL hAB
 go_enter Try.func7, Try.ntmps7
 go_wp2_with (first | (rw [HW0.out]; clear HW0))
 refine (fshown_any _).mono ?_
 rintro e w1 ⟨rfl, b1⟩
 have HB1 : Hid (Below w.heap.size w w1) := HB0.out.trans (b1.mono HB0.out.size)
 have HG1 : Hid (w1.heap[w.heap.size]? = some (qcs ⟨1, a, b, c, d, x, y, sq, (K : Int), af, fr⟩)) := (b1.block _ l0).trans HG0.out
 have l1 : w.heap.size < w1.heap.size := Nat.lt_of_lt_of_le l0 b1.size
 clear b1 HG0 HB0 l0
 go_wp2_with fail
 refine (HF.out w1 (HR0.out.below HB1.out (Nat.le_refl _))).mono ?_
 rintro e w9 ⟨rfl, hw9⟩
 have hw9' := hw9.symm
 clear hw9
 subst hw9'
 clear HF HR0
 go_wp2_with fail
 refine Calls.mono (HBd.out w1 (HR.out.below HB1.out (Nat.le_refl _))) ?_
 rintro e w2 ⟨n, rfl, n2, b2⟩
 obtain ⟨X, Y, Lv, ro, rn, rc', ko, kn, kc⟩ := n
 have HB2 : Hid (Below w.heap.size w w2) := HB1.out.trans (b2.mono HB1.out.size)
 have HG2 : Hid (w2.heap[w.heap.size]? = some (qcs ⟨1, a, b, c, d, x, y, sq, (K : Int), af, fr⟩)) := (b2.block _ l1).trans HG1.out
 have l2 : w.heap.size < w2.heap.size := Nat.lt_of_lt_of_le l1 b2.size
 have b3 := below_new w2 (.cells #[.int .u32 (X : Int), .int .u32 (Y : Int), .int .i64 (Lv : Int), .slice ro rn rc', .slice ko kn kc] 45)
 have hn3 := heap_alloc_new w2 (.cells #[.int .u32 (X : Int), .int .u32 (Y : Int), .int .i64 (Lv : Int), .slice ro rn rc', .slice ko kn kc] 45)
 have ht3 := (n2.mono (G' := fun _ => True) fun _ _ _ => trivial).below b3 (Nat.le_refl _)
 obtain ⟨w3, hw3⟩ : ∃ w3, w2.alloc (.cells #[.int .u32 (X : Int), .int .u32 (Y : Int), .int .i64 (Lv : Int), .slice ro rn rc', .slice ko kn kc] 45) = w3 := ⟨_, rfl⟩
 rw [hw3] at b3 hn3 ht3
 have HW3 : Hid _ := hw3
 have HB3 : Hid (Below w.heap.size w w3) := HB2.out.trans (b3.mono HB2.out.size)
 have HG3 : Hid (w3.heap[w.heap.size]? = some (qcs ⟨1, a, b, c, d, x, y, sq, (K : Int), af, fr⟩)) := (b3.block _ l2).trans HG2.out
 have l3 : w.heap.size < w3.heap.size := Nat.lt_of_lt_of_le l2 b3.size
 have HN3 : Hid (w3.heap[w2.heap.size]? = some (.cells #[.int .u32 (X : Int), .int .u32 (Y : Int), .int .i64 (Lv : Int), .slice ro rn rc', .slice ko kn kc] 45 (0, 0))) := hn3
 have HT3 : Hid (NodeAt (fun _ => True) 32 w3 ⟨X, Y, Lv, ro, rn, rc', ko, kn, kc⟩ L) := ht3
 have m3 : w2.heap.size < w3.heap.size := (Array.getElem?_eq_some_iff.1 hn3).1
 obtain ⟨c0, c1, c2, c3, c4, c5, c6, c7, c8, c9, c10⟩ := qc_of HG3.out
 simp only at c0 c1 c2 c3 c4 c5 c6 c7 c8 c9 c10
 clear b2 b3 hw3 hn3 ht3 n2 HBd
 go_wp2_with (first | (rw [HW3.out]; clear HW3))
 refine Calls.mono (HA.out w3 (HR.out.below HB3.out (Nat.le_refl _))) ?_
 rintro e w4 ⟨o4, cap4, rfl, hr4, b4⟩
 have HB4 : Hid (Below w.heap.size w w4) := HB3.out.trans (b4.mono HB3.out.size)
 have HG4 : Hid (w4.heap[w.heap.size]? = some (qcs ⟨1, a, b, c, d, x, y, sq, (K : Int), af, fr⟩)) := (b4.block _ l3).trans HG3.out
 have l4 : w.heap.size < w4.heap.size := Nat.lt_of_lt_of_le l3 b4.size
 have HN4 : Hid (w4.heap[w2.heap.size]? = some (.cells #[.int .u32 (X : Int), .int .u32 (Y : Int), .int .i64 (Lv : Int), .slice ro rn rc', .slice ko kn kc] 45 (0, 0))) := (b4.block _ m3).trans HN3.out
 have HT4 : Hid (NodeAt (fun _ => True) 32 w4 ⟨X, Y, Lv, ro, rn, rc', ko, kn, kc⟩ L) := NodeAt.below HT3.out b4 (Nat.le_refl _)
 have m4 : w2.heap.size < w4.heap.size := Nat.lt_of_lt_of_le m3 b4.size
 have HX4 : Hid (RowsAt w4 o4 cap4 AL) := hr4
 clear b4 hr4 HA HB3 HG3 HN3 HT3 l3 m3 c0 c1 c2 c3 c4 c5 c6 c7 c8 c9 c10
 obtain ⟨c0, c1, c2, c3, c4, c5, c6, c7, c8, c9, c10⟩ := qc_of HG4.out
 simp only at c0 c1 c2 c3 c4 c5 c6 c7 c8 c9 c10
 obtain ⟨-, -, -, -, -, f0, f1, f2, f3, f4⟩ := node_facts HN4.out
 go_wp2_with fail
 refine Calls.mono (HQR.out w4 ⟨X, Y, Lv, ro, rn, rc', ko, kn, kc⟩ HT4.out) ?_
 rintro e w5 ⟨v5, rfl, ho5, b5⟩
 obtain ⟨o5, cap5, rfl, hr5⟩ := sl_of_own ho5
 have HB5 : Hid (Below w.heap.size w w5) := HB4.out.trans (b5.mono HB4.out.size)
 have HG5 : Hid (w5.heap[w.heap.size]? = some (qcs ⟨1, a, b, c, d, x, y, sq, (K : Int), af, fr⟩)) := (b5.block _ l4).trans HG4.out
 have l5 : w.heap.size < w5.heap.size := Nat.lt_of_lt_of_le l4 b5.size
 have HN5 : Hid (w5.heap[w2.heap.size]? = some (.cells #[.int .u32 (X : Int), .int .u32 (Y : Int), .int .i64 (Lv : Int), .slice ro rn rc', .slice ko kn kc] 45 (0, 0))) := (b5.block _ m4).trans HN4.out
 have HT5 : Hid (NodeAt (fun _ => True) 32 w5 ⟨X, Y, Lv, ro, rn, rc', ko, kn, kc⟩ L) := NodeAt.below HT4.out b5 (Nat.le_refl _)
 have m5 : w2.heap.size < w5.heap.size := Nat.lt_of_lt_of_le m4 b5.size
 have HX5 : Hid (RowsAt w5 o4 cap4 AL) := HX4.out.below b5 (Nat.le_refl _)
 have HY5 : Hid (RowsAt w5 o5 cap5 L) := hr5
 clear b5 hr5 ho5 HQR HB4 HG4 HN4 HT4 HX4 l4 m4 c0 c1 c2 c3 c4 c5 c6 c7 c8 c9 c10 f0 f1 f2 f3 f4
 obtain ⟨c0, c1, c2, c3, c4, c5, c6, c7, c8, c9, c10⟩ := qc_of HG5.out
 simp only at c0 c1 c2 c3 c4 c5 c6 c7 c8 c9 c10
 obtain ⟨-, -, -, -, -, f0, f1, f2, f3, f4⟩ := node_facts HN5.out
 go_wp2_with fail
 refine Calls.mono (HQ.out w5 ⟨X, Y, Lv, ro, rn, rc', ko, kn, kc⟩ HT5.out) ?_
 rintro e w6 ⟨o6, cap6, rfl, hr6, b6⟩
 have HB6 : Hid (Below w.heap.size w w6) := HB5.out.trans (b6.mono HB5.out.size)
 have HG6 : Hid (w6.heap[w.heap.size]? = some (qcs ⟨1, a, b, c, d, x, y, sq, (K : Int), af, fr⟩)) := (b6.block _ l5).trans HG5.out
 have l6 : w.heap.size < w6.heap.size := Nat.lt_of_lt_of_le l5 b6.size
 have HX6 : Hid (RowsAt w6 o4 cap4 AL) := HX5.out.below b6 (Nat.le_refl _)
 have HY6 : Hid (RowsAt w6 o6 cap6 F) := hr6
 clear b6 hr6 HQ HB5 HG5 HN5 HT5 HX5 HY5 l5 m5 c0 c1 c2 c3 c4 c5 c6 c7 c8 c9 c10 f0 f1 f2 f3 f4
 obtain ⟨c0, c1, c2, c3, c4, c5, c6, c7, c8, c9, c10⟩ := qc_of HG6.out
 simp only at c0 c1 c2 c3 c4 c5 c6 c7 c8 c9 c10
 cases fr
 ·have hrs : rest ⟨1, a, b, c, d, x, y, sq, (K : Int), af, false⟩ F = F := by unfold rest; exact if_neg (by simp)
  have hal := HAL.out
  have hab := HAB.out
  rw [hrs] at hal hab
  have hn : AL.length = min K F.length := by rw [hal, List.length_take]
  have hle : AL.length ≤ F.length := by omega
  have hab2 : AB = decide (AL.length < F.length) := by
   rw [hab]
   congr 1
   exact propext (by omega)
  have htk : F.take AL.length = AL := by
   conv => rhs; rw [hal]
   by_cases cK : K ≤ F.length
   ·rw [show AL.length = K by omega]
   ·rw [List.take_of_length_le (by omega), List.take_of_length_le (by omega)]
  have hh := RowsAt.head HY6.out AL.length
  rw [htk] at hh
  have hcap := HY6.out.1
  have hrun := fun W => run_headW o6 F.length cap6 AL.length W (by omega) HY6.out.2.2.1
  have HS : Hid (∀ _ : True, _) := fun _ => same_any AL o4 cap4 o6 cap6 w6 HX6.out hh
  have q3 : (AL.length : Int) ≤ (F.length : Int) := by omega
  have HNK : Hid (AL.length = min K F.length) := hn
  have HL6 : Hid (F.length ≤ 60) := hFl
  obtain ⟨nA, hnA⟩ : ∃ nA, AL.length = nA := ⟨_, rfl⟩
  rw [hnA] at hrun HS q3 hab2 HNK ⊢
  obtain ⟨nF, hnF⟩ : ∃ nF, F.length = nF := ⟨_, rfl⟩
  rw [hnF] at hrun q3 hab2 HNK HL6 ⊢
  clear hal hab hrs hn hle htk hh hcap hnA hnF hFl
  go_wp2_with fail
  refine Calls.mono (HS.out trivial) ?_
  rintro e w8 ⟨rfl, b8⟩
  have HB8 : Hid (Below w.heap.size w w8) := HB6.out.trans (b8.mono HB6.out.size)
  have hg8 := (b8.block _ l6).trans HG6.out
  have l8 : w.heap.size < w8.heap.size := Nat.lt_of_lt_of_le l6 b8.size
  clear c0 c1 c2 c3 c4 c5 c6 c7 c8 c9 c10
  obtain ⟨c0, c1, c2, c3, c4, c5, c6, c7, c8, c9, c10⟩ := qc_of hg8
  simp only at c0 c1 c2 c3 c4 c5 c6 c7 c8 c9 c10
  clear b8 HS hg8 hrun
  have hNK := HNK.out
  rcases Nat.lt_or_ge nA nF with hlt | hge
  ·have q5 : decide (nA < nF) = true := decide_eq_true hlt
   rw [q5] at hab2
   subst hab2
   have q6 : (nA : Int) < (nF : Int) := by omega
   have hmin : min (K : Int) (nF : Int) = (nA : Int) := by omega
   clear hNK hlt q5
   go_wp2_with fail
   go_ret
   exact ⟨rfl, HB8.out⟩
  ·have q5 : decide (nA < nF) = false := decide_eq_false (by omega)
   rw [q5] at hab2
   subst hab2
   obtain rfl : nA = nF := by omega
   have q6 : ¬ (nA : Int) < (nA : Int) := by omega
   have hmin : min (K : Int) (nA : Int) = (nA : Int) := by omega
   clear q5 hge hNK
   go_wp2_with fail
   go_ret
   exact ⟨rfl, HB8.out⟩
 ·have hle : AL.length ≤ F.length := by
   rw [HAL.out, List.length_take]
   have := rest_len ⟨1, a, b, c, d, x, y, sq, (K : Int), af, true⟩ F
   omega
  have q3 : (AL.length : Int) ≤ (F.length : Int) := by omega
  clear hle
  go_wp2_with fail
  go_ret
  exact ⟨rfl, HB6.out⟩
set_option maxRecDepth 100000 in
set_option maxHeartbeats 8000000 in
theorem quads_2 (l L : List Rw) (hL : l.take 60 = L) (a b c d x y sq K af : Nat) (fr : Bool) (o : Option Addr) (cap : Nat) (w : World) (hr : RowsAt w o cap l) (hrl : rightL L = true) (hc : chk ⟨2, a, b, c, d, x, y, sq, (K : Int), af, fr⟩ = 0) : Calls Try.prog 7 #[.slice o l.length cap, qv ⟨2, a, b, c, d, x, y, sq, (K : Int), af, fr⟩] w fun e w' => e = .returned (.bool true) ∧ Below w.heap.size w w' := by
 have hL60 : L.length ≤ 60 := by rw [← hL, List.length_take]; omega
 have hb := below_new w (qcs ⟨2, a, b, c, d, x, y, sq, (K : Int), af, fr⟩)
 have hg := heap_alloc_new w (qcs ⟨2, a, b, c, d, x, y, sq, (K : Int), af, fr⟩)
 obtain ⟨W0, hW0⟩ : ∃ W0, w.alloc (qcs ⟨2, a, b, c, d, x, y, sq, (K : Int), af, fr⟩) = W0 := ⟨_, rfl⟩
 rw [hW0] at hb hg
 have HW0 : Hid _ := hW0
 have HG0 : Hid (W0.heap[w.heap.size]? = some (qcs ⟨2, a, b, c, d, x, y, sq, (K : Int), af, fr⟩)) := hg
 have HB0 : Hid (Below w.heap.size w W0) := hb
 have l0 : w.heap.size < W0.heap.size := (Array.getElem?_eq_some_iff.1 hg).1
 have HF : Hid (∀ W, RowsAt W o cap l → Calls Try.prog 14 #[.slice o l.length cap] W fun e w' => e = .returned (.slice o L.length cap) ∧ w' = W) := fun W hW => by rw [← hL]; exact few_any l o cap W hW
 have HR0 : Hid (RowsAt w o cap l) := hr
 have HR : Hid (RowsAt w o cap L) := by rw [← hL]; exact hr.head 60
 clear hL
 obtain ⟨M, hM⟩ := bound_ids L
 have hon := right_on hrl
 have hri := right_rise hrl
 have HBd : Hid (∀ W, RowsAt W o cap L → _) := fun W hW => build_ok L o cap W hW hrl
 have HA : Hid (∀ W, RowsAt W o cap L → _) := fun W hW => ask_any o cap L ⟨2, a, b, c, d, x, y, sq, (K : Int), af, fr⟩ M hM W hW
 have hok : rightL L = true ∧ chk ⟨2, a, b, c, d, x, y, sq, (K : Int), af, fr⟩ = 0 := ⟨hrl, hc⟩
 have hE : fdE ⟨2, a, b, c, d, x, y, sq, (K : Int), af, fr⟩ L = 0 := fd_ok hok
 have hAL : askL ⟨2, a, b, c, d, x, y, sq, (K : Int), af, fr⟩ M L = (rest ⟨2, a, b, c, d, x, y, sq, (K : Int), af, fr⟩ (rndV L x y sq)).take K := if_pos hok
 have hAB : askB ⟨2, a, b, c, d, x, y, sq, (K : Int), af, fr⟩ M L = decide (K < (rest ⟨2, a, b, c, d, x, y, sq, (K : Int), af, fr⟩ (rndV L x y sq)).length) := if_pos hok
 have hFl : (rndV L x y sq).length ≤ 60 := Nat.le_trans (fnd_len ⟨2, a, b, c, d, x, y, sq, (K : Int), af, fr⟩ M L) hL60
 rw [hE] at HA
 have HQR : Hid (∀ (W : World) (n : Nv), NodeAt (fun _ => True) 32 W n L → _) := fun W n hN => rowsQ_any n L 32 W hN hon (by omega) hri
 have HQ : Hid (∀ (W : World) (n : Nv), NodeAt (fun _ => True) 32 W n L → Calls Try.prog 22 #[nv n, .int .u32 (x : Int), .int .u32 (y : Int), .int .u64 (sq : Int)] W (KR (rndV L x y sq) (rndE x y) W)) := fun W n hN => (qRound_any n L 32 x y sq W hN hon (by omega) hri).mono fun e w' ⟨v, h1, h2, h3⟩ => by
  obtain ⟨o', cap', rfl, h4⟩ := sl_of_own h2
  exact ⟨o', cap', h1, h4, h3⟩
 obtain ⟨F, hF⟩ : ∃ F, rndV L x y sq = F := ⟨_, rfl⟩
 rw [hF] at hAL hAB hFl HQ
 generalize askL ⟨2, a, b, c, d, x, y, sq, (K : Int), af, fr⟩ M L = AL at *
 generalize askB ⟨2, a, b, c, d, x, y, sq, (K : Int), af, fr⟩ M L = AB at *
 clear hM hrl hc hok hE hon hri hF
 simp only [qv, nv] at HA HBd HQR HQ ⊢
 clear hb hg hW0 hr
 have HAL : Hid (AL = (rest ⟨2, a, b, c, d, x, y, sq, (K : Int), af, fr⟩ F).take K) := hAL
 have HAB : Hid (AB = decide (K < (rest ⟨2, a, b, c, d, x, y, sq, (K : Int), af, fr⟩ F).length)) := hAB
 clear hAL hAB
 go_enter Try.func7, Try.ntmps7
 go_wp2_with (first | (rw [HW0.out]; clear HW0))
 refine (fshown_any _).mono ?_
 rintro e w1 ⟨rfl, b1⟩
 have HB1 : Hid (Below w.heap.size w w1) := HB0.out.trans (b1.mono HB0.out.size)
 have HG1 : Hid (w1.heap[w.heap.size]? = some (qcs ⟨2, a, b, c, d, x, y, sq, (K : Int), af, fr⟩)) := (b1.block _ l0).trans HG0.out
 have l1 : w.heap.size < w1.heap.size := Nat.lt_of_lt_of_le l0 b1.size
 clear b1 HG0 HB0 l0
 go_wp2_with fail
 refine (HF.out w1 (HR0.out.below HB1.out (Nat.le_refl _))).mono ?_
 rintro e w9 ⟨rfl, hw9⟩
 have hw9' := hw9.symm
 clear hw9
 subst hw9'
 clear HF HR0
 go_wp2_with fail
 refine Calls.mono (HBd.out w1 (HR.out.below HB1.out (Nat.le_refl _))) ?_
 rintro e w2 ⟨n, rfl, n2, b2⟩
 obtain ⟨X, Y, Lv, ro, rn, rc', ko, kn, kc⟩ := n
 have HB2 : Hid (Below w.heap.size w w2) := HB1.out.trans (b2.mono HB1.out.size)
 have HG2 : Hid (w2.heap[w.heap.size]? = some (qcs ⟨2, a, b, c, d, x, y, sq, (K : Int), af, fr⟩)) := (b2.block _ l1).trans HG1.out
 have l2 : w.heap.size < w2.heap.size := Nat.lt_of_lt_of_le l1 b2.size
 have b3 := below_new w2 (.cells #[.int .u32 (X : Int), .int .u32 (Y : Int), .int .i64 (Lv : Int), .slice ro rn rc', .slice ko kn kc] 45)
 have hn3 := heap_alloc_new w2 (.cells #[.int .u32 (X : Int), .int .u32 (Y : Int), .int .i64 (Lv : Int), .slice ro rn rc', .slice ko kn kc] 45)
 have ht3 := (n2.mono (G' := fun _ => True) fun _ _ _ => trivial).below b3 (Nat.le_refl _)
 obtain ⟨w3, hw3⟩ : ∃ w3, w2.alloc (.cells #[.int .u32 (X : Int), .int .u32 (Y : Int), .int .i64 (Lv : Int), .slice ro rn rc', .slice ko kn kc] 45) = w3 := ⟨_, rfl⟩
 rw [hw3] at b3 hn3 ht3
 have HW3 : Hid _ := hw3
 have HB3 : Hid (Below w.heap.size w w3) := HB2.out.trans (b3.mono HB2.out.size)
 have HG3 : Hid (w3.heap[w.heap.size]? = some (qcs ⟨2, a, b, c, d, x, y, sq, (K : Int), af, fr⟩)) := (b3.block _ l2).trans HG2.out
 have l3 : w.heap.size < w3.heap.size := Nat.lt_of_lt_of_le l2 b3.size
 have HN3 : Hid (w3.heap[w2.heap.size]? = some (.cells #[.int .u32 (X : Int), .int .u32 (Y : Int), .int .i64 (Lv : Int), .slice ro rn rc', .slice ko kn kc] 45 (0, 0))) := hn3
 have HT3 : Hid (NodeAt (fun _ => True) 32 w3 ⟨X, Y, Lv, ro, rn, rc', ko, kn, kc⟩ L) := ht3
 have m3 : w2.heap.size < w3.heap.size := (Array.getElem?_eq_some_iff.1 hn3).1
 obtain ⟨c0, c1, c2, c3, c4, c5, c6, c7, c8, c9, c10⟩ := qc_of HG3.out
 simp only at c0 c1 c2 c3 c4 c5 c6 c7 c8 c9 c10
 clear b2 b3 hw3 hn3 ht3 n2 HBd
 go_wp2_with (first | (rw [HW3.out]; clear HW3))
 refine Calls.mono (HA.out w3 (HR.out.below HB3.out (Nat.le_refl _))) ?_
 rintro e w4 ⟨o4, cap4, rfl, hr4, b4⟩
 have HB4 : Hid (Below w.heap.size w w4) := HB3.out.trans (b4.mono HB3.out.size)
 have HG4 : Hid (w4.heap[w.heap.size]? = some (qcs ⟨2, a, b, c, d, x, y, sq, (K : Int), af, fr⟩)) := (b4.block _ l3).trans HG3.out
 have l4 : w.heap.size < w4.heap.size := Nat.lt_of_lt_of_le l3 b4.size
 have HN4 : Hid (w4.heap[w2.heap.size]? = some (.cells #[.int .u32 (X : Int), .int .u32 (Y : Int), .int .i64 (Lv : Int), .slice ro rn rc', .slice ko kn kc] 45 (0, 0))) := (b4.block _ m3).trans HN3.out
 have HT4 : Hid (NodeAt (fun _ => True) 32 w4 ⟨X, Y, Lv, ro, rn, rc', ko, kn, kc⟩ L) := NodeAt.below HT3.out b4 (Nat.le_refl _)
 have m4 : w2.heap.size < w4.heap.size := Nat.lt_of_lt_of_le m3 b4.size
 have HX4 : Hid (RowsAt w4 o4 cap4 AL) := hr4
 clear b4 hr4 HA HB3 HG3 HN3 HT3 l3 m3 c0 c1 c2 c3 c4 c5 c6 c7 c8 c9 c10
 obtain ⟨c0, c1, c2, c3, c4, c5, c6, c7, c8, c9, c10⟩ := qc_of HG4.out
 simp only at c0 c1 c2 c3 c4 c5 c6 c7 c8 c9 c10
 obtain ⟨-, -, -, -, -, f0, f1, f2, f3, f4⟩ := node_facts HN4.out
 go_wp2_with fail
 refine Calls.mono (HQR.out w4 ⟨X, Y, Lv, ro, rn, rc', ko, kn, kc⟩ HT4.out) ?_
 rintro e w5 ⟨v5, rfl, ho5, b5⟩
 obtain ⟨o5, cap5, rfl, hr5⟩ := sl_of_own ho5
 have HB5 : Hid (Below w.heap.size w w5) := HB4.out.trans (b5.mono HB4.out.size)
 have HG5 : Hid (w5.heap[w.heap.size]? = some (qcs ⟨2, a, b, c, d, x, y, sq, (K : Int), af, fr⟩)) := (b5.block _ l4).trans HG4.out
 have l5 : w.heap.size < w5.heap.size := Nat.lt_of_lt_of_le l4 b5.size
 have HN5 : Hid (w5.heap[w2.heap.size]? = some (.cells #[.int .u32 (X : Int), .int .u32 (Y : Int), .int .i64 (Lv : Int), .slice ro rn rc', .slice ko kn kc] 45 (0, 0))) := (b5.block _ m4).trans HN4.out
 have HT5 : Hid (NodeAt (fun _ => True) 32 w5 ⟨X, Y, Lv, ro, rn, rc', ko, kn, kc⟩ L) := NodeAt.below HT4.out b5 (Nat.le_refl _)
 have m5 : w2.heap.size < w5.heap.size := Nat.lt_of_lt_of_le m4 b5.size
 have HX5 : Hid (RowsAt w5 o4 cap4 AL) := HX4.out.below b5 (Nat.le_refl _)
 have HY5 : Hid (RowsAt w5 o5 cap5 L) := hr5
 clear b5 hr5 ho5 HQR HB4 HG4 HN4 HT4 HX4 l4 m4 c0 c1 c2 c3 c4 c5 c6 c7 c8 c9 c10 f0 f1 f2 f3 f4
 obtain ⟨c0, c1, c2, c3, c4, c5, c6, c7, c8, c9, c10⟩ := qc_of HG5.out
 simp only at c0 c1 c2 c3 c4 c5 c6 c7 c8 c9 c10
 obtain ⟨-, -, -, -, -, f0, f1, f2, f3, f4⟩ := node_facts HN5.out
 go_wp2_with fail
 refine Calls.mono (HQ.out w5 ⟨X, Y, Lv, ro, rn, rc', ko, kn, kc⟩ HT5.out) ?_
 rintro e w6 ⟨o6, cap6, rfl, hr6, b6⟩
 have HB6 : Hid (Below w.heap.size w w6) := HB5.out.trans (b6.mono HB5.out.size)
 have HG6 : Hid (w6.heap[w.heap.size]? = some (qcs ⟨2, a, b, c, d, x, y, sq, (K : Int), af, fr⟩)) := (b6.block _ l5).trans HG5.out
 have l6 : w.heap.size < w6.heap.size := Nat.lt_of_lt_of_le l5 b6.size
 have HX6 : Hid (RowsAt w6 o4 cap4 AL) := HX5.out.below b6 (Nat.le_refl _)
 have HY6 : Hid (RowsAt w6 o6 cap6 F) := hr6
 clear b6 hr6 HQ HB5 HG5 HN5 HT5 HX5 HY5 l5 m5 c0 c1 c2 c3 c4 c5 c6 c7 c8 c9 c10 f0 f1 f2 f3 f4
 obtain ⟨c0, c1, c2, c3, c4, c5, c6, c7, c8, c9, c10⟩ := qc_of HG6.out
 simp only at c0 c1 c2 c3 c4 c5 c6 c7 c8 c9 c10
 cases fr
 ·have hrs : rest ⟨2, a, b, c, d, x, y, sq, (K : Int), af, false⟩ F = F := by unfold rest; exact if_neg (by simp)
  have hal := HAL.out
  have hab := HAB.out
  rw [hrs] at hal hab
  have hn : AL.length = min K F.length := by rw [hal, List.length_take]
  have hle : AL.length ≤ F.length := by omega
  have hab2 : AB = decide (AL.length < F.length) := by
   rw [hab]
   congr 1
   exact propext (by omega)
  have htk : F.take AL.length = AL := by
   conv => rhs; rw [hal]
   by_cases cK : K ≤ F.length
   ·rw [show AL.length = K by omega]
   ·rw [List.take_of_length_le (by omega), List.take_of_length_le (by omega)]
  have hh := RowsAt.head HY6.out AL.length
  rw [htk] at hh
  have hcap := HY6.out.1
  have hrun := fun W => run_headW o6 F.length cap6 AL.length W (by omega) HY6.out.2.2.1
  have HS : Hid (∀ _ : True, _) := fun _ => same_any AL o4 cap4 o6 cap6 w6 HX6.out hh
  have q3 : (AL.length : Int) ≤ (F.length : Int) := by omega
  have HNK : Hid (AL.length = min K F.length) := hn
  have HL6 : Hid (F.length ≤ 60) := hFl
  obtain ⟨nA, hnA⟩ : ∃ nA, AL.length = nA := ⟨_, rfl⟩
  rw [hnA] at hrun HS q3 hab2 HNK ⊢
  obtain ⟨nF, hnF⟩ : ∃ nF, F.length = nF := ⟨_, rfl⟩
  rw [hnF] at hrun q3 hab2 HNK HL6 ⊢
  clear hal hab hrs hn hle htk hh hcap hnA hnF hFl
  go_wp2_with fail
  refine Calls.mono (HS.out trivial) ?_
  rintro e w8 ⟨rfl, b8⟩
  have HB8 : Hid (Below w.heap.size w w8) := HB6.out.trans (b8.mono HB6.out.size)
  have hg8 := (b8.block _ l6).trans HG6.out
  have l8 : w.heap.size < w8.heap.size := Nat.lt_of_lt_of_le l6 b8.size
  clear c0 c1 c2 c3 c4 c5 c6 c7 c8 c9 c10
  obtain ⟨c0, c1, c2, c3, c4, c5, c6, c7, c8, c9, c10⟩ := qc_of hg8
  simp only at c0 c1 c2 c3 c4 c5 c6 c7 c8 c9 c10
  clear b8 HS hg8 hrun
  have hNK := HNK.out
  rcases Nat.lt_or_ge nA nF with hlt | hge
  ·have q5 : decide (nA < nF) = true := decide_eq_true hlt
   rw [q5] at hab2
   subst hab2
   have q6 : (nA : Int) < (nF : Int) := by omega
   have hmin : min (K : Int) (nF : Int) = (nA : Int) := by omega
   clear hNK hlt q5
   go_wp2_with fail
   go_ret
   exact ⟨rfl, HB8.out⟩
  ·have q5 : decide (nA < nF) = false := decide_eq_false (by omega)
   rw [q5] at hab2
   subst hab2
   obtain rfl : nA = nF := by omega
   have q6 : ¬ (nA : Int) < (nA : Int) := by omega
   have hmin : min (K : Int) (nA : Int) = (nA : Int) := by omega
   clear q5 hge hNK
   go_wp2_with fail
   go_ret
   exact ⟨rfl, HB8.out⟩
 ·have hle : AL.length ≤ F.length := by
   rw [HAL.out, List.length_take]
   have := rest_len ⟨2, a, b, c, d, x, y, sq, (K : Int), af, true⟩ F
   omega
  have q3 : (AL.length : Int) ≤ (F.length : Int) := by omega
  clear hle
  go_wp2_with fail
  go_ret
  exact ⟨rfl, HB6.out⟩
set_option maxRecDepth 100000 in
set_option maxHeartbeats 8000000 in
theorem quads_3 (l L : List Rw) (hL : l.take 60 = L) (a b c d x y sq K af : Nat) (fr : Bool) (o : Option Addr) (cap : Nat) (w : World) (hr : RowsAt w o cap l) (hrl : rightL L = true) (hc : chk ⟨3, a, b, c, d, x, y, sq, (K : Int), af, fr⟩ = 0) : Calls Try.prog 7 #[.slice o l.length cap, qv ⟨3, a, b, c, d, x, y, sq, (K : Int), af, fr⟩] w fun e w' => e = .returned (.bool true) ∧ Below w.heap.size w w' := by
 have hL60 : L.length ≤ 60 := by rw [← hL, List.length_take]; omega
 have hb := below_new w (qcs ⟨3, a, b, c, d, x, y, sq, (K : Int), af, fr⟩)
 have hg := heap_alloc_new w (qcs ⟨3, a, b, c, d, x, y, sq, (K : Int), af, fr⟩)
 obtain ⟨W0, hW0⟩ : ∃ W0, w.alloc (qcs ⟨3, a, b, c, d, x, y, sq, (K : Int), af, fr⟩) = W0 := ⟨_, rfl⟩
 rw [hW0] at hb hg
 have HW0 : Hid _ := hW0
 have HG0 : Hid (W0.heap[w.heap.size]? = some (qcs ⟨3, a, b, c, d, x, y, sq, (K : Int), af, fr⟩)) := hg
 have HB0 : Hid (Below w.heap.size w W0) := hb
 have l0 : w.heap.size < W0.heap.size := (Array.getElem?_eq_some_iff.1 hg).1
 have HF : Hid (∀ W, RowsAt W o cap l → Calls Try.prog 14 #[.slice o l.length cap] W fun e w' => e = .returned (.slice o L.length cap) ∧ w' = W) := fun W hW => by rw [← hL]; exact few_any l o cap W hW
 have HR0 : Hid (RowsAt w o cap l) := hr
 have HR : Hid (RowsAt w o cap L) := by rw [← hL]; exact hr.head 60
 clear hL
 obtain ⟨M, hM⟩ := bound_ids L
 have hon := right_on hrl
 have hri := right_rise hrl
 have HBd : Hid (∀ W, RowsAt W o cap L → _) := fun W hW => build_ok L o cap W hW hrl
 have HA : Hid (∀ W, RowsAt W o cap L → _) := fun W hW => ask_any o cap L ⟨3, a, b, c, d, x, y, sq, (K : Int), af, fr⟩ M hM W hW
 have hok : rightL L = true ∧ chk ⟨3, a, b, c, d, x, y, sq, (K : Int), af, fr⟩ = 0 := ⟨hrl, hc⟩
 have hE : fdE ⟨3, a, b, c, d, x, y, sq, (K : Int), af, fr⟩ L = 0 := fd_ok hok
 have hAL : askL ⟨3, a, b, c, d, x, y, sq, (K : Int), af, fr⟩ M L = (rest ⟨3, a, b, c, d, x, y, sq, (K : Int), af, fr⟩ (nrV L x y M)).take K := if_pos hok
 have hAB : askB ⟨3, a, b, c, d, x, y, sq, (K : Int), af, fr⟩ M L = decide (K < (rest ⟨3, a, b, c, d, x, y, sq, (K : Int), af, fr⟩ (nrV L x y M)).length) := if_pos hok
 have hFl : (nrV L x y M).length ≤ 60 := Nat.le_trans (fnd_len ⟨3, a, b, c, d, x, y, sq, (K : Int), af, fr⟩ M L) hL60
 rw [hE] at HA
 have HQR : Hid (∀ (W : World) (n : Nv), NodeAt (fun _ => True) 32 W n L → _) := fun W n hN => rowsQ_any n L 32 W hN hon (by omega) hri
 have hxy : onS x y = true := by
  have h1 := chk_in (q := ⟨3, a, b, c, d, x, y, sq, (K : Int), af, fr⟩) (by simp)
  rw [hc] at h1
  by_cases cc : (K : Int) < 0 ∨ 64 < (K : Int)
  ·rw [if_pos (by simpa using cc)] at h1
   exact absurd h1 (by decide)
  ·rw [if_neg (by simpa using cc)] at h1
   unfold fndE rndE at h1
   simp only at h1
   cases e : onS x y
   ·simp [e] at h1
   ·rfl
 have HQ : Hid (∀ (W : World) (n : Nv), NodeAt (fun _ => True) 32 W n L → Calls Try.prog 23 #[nv n, .int .u32 (x : Int), .int .u32 (y : Int), .int .i64 (L.length : Int)] W (KR (nrV L x y M) 0 W)) := fun W n hN => (near_ok n L 32 x y M L.length hxy (by omega) W hN hon (by omega) hri hM).mono fun e w' ⟨o', cap', h1, h2, h3⟩ => by
  rw [List.take_of_length_le (by rw [(nsort_perm x y M L).length_eq]; exact Nat.le_refl _)] at h1 h2
  have e9 : nrV L x y M = nsort x y M L := if_pos hxy
  rw [e9]
  exact ⟨o', cap', h1, h2, h3⟩
 obtain ⟨F, hF⟩ : ∃ F, nrV L x y M = F := ⟨_, rfl⟩
 rw [hF] at hAL hAB hFl HQ
 generalize askL ⟨3, a, b, c, d, x, y, sq, (K : Int), af, fr⟩ M L = AL at *
 generalize askB ⟨3, a, b, c, d, x, y, sq, (K : Int), af, fr⟩ M L = AB at *
 clear hM hrl hc hok hE hon hri hF hxy
 simp only [qv, nv] at HA HBd HQR HQ ⊢
 clear hb hg hW0 hr
 have HAL : Hid (AL = (rest ⟨3, a, b, c, d, x, y, sq, (K : Int), af, fr⟩ F).take K) := hAL
 have HAB : Hid (AB = decide (K < (rest ⟨3, a, b, c, d, x, y, sq, (K : Int), af, fr⟩ F).length)) := hAB
 clear hAL hAB
 go_enter Try.func7, Try.ntmps7
 go_wp2_with (first | (rw [HW0.out]; clear HW0))
 refine (fshown_any _).mono ?_
 rintro e w1 ⟨rfl, b1⟩
 have HB1 : Hid (Below w.heap.size w w1) := HB0.out.trans (b1.mono HB0.out.size)
 have HG1 : Hid (w1.heap[w.heap.size]? = some (qcs ⟨3, a, b, c, d, x, y, sq, (K : Int), af, fr⟩)) := (b1.block _ l0).trans HG0.out
 have l1 : w.heap.size < w1.heap.size := Nat.lt_of_lt_of_le l0 b1.size
 clear b1 HG0 HB0 l0
 go_wp2_with fail
 refine (HF.out w1 (HR0.out.below HB1.out (Nat.le_refl _))).mono ?_
 rintro e w9 ⟨rfl, hw9⟩
 have hw9' := hw9.symm
 clear hw9
 subst hw9'
 clear HF HR0
 go_wp2_with fail
 refine Calls.mono (HBd.out w1 (HR.out.below HB1.out (Nat.le_refl _))) ?_
 rintro e w2 ⟨n, rfl, n2, b2⟩
 obtain ⟨X, Y, Lv, ro, rn, rc', ko, kn, kc⟩ := n
 have HB2 : Hid (Below w.heap.size w w2) := HB1.out.trans (b2.mono HB1.out.size)
 have HG2 : Hid (w2.heap[w.heap.size]? = some (qcs ⟨3, a, b, c, d, x, y, sq, (K : Int), af, fr⟩)) := (b2.block _ l1).trans HG1.out
 have l2 : w.heap.size < w2.heap.size := Nat.lt_of_lt_of_le l1 b2.size
 have b3 := below_new w2 (.cells #[.int .u32 (X : Int), .int .u32 (Y : Int), .int .i64 (Lv : Int), .slice ro rn rc', .slice ko kn kc] 45)
 have hn3 := heap_alloc_new w2 (.cells #[.int .u32 (X : Int), .int .u32 (Y : Int), .int .i64 (Lv : Int), .slice ro rn rc', .slice ko kn kc] 45)
 have ht3 := (n2.mono (G' := fun _ => True) fun _ _ _ => trivial).below b3 (Nat.le_refl _)
 obtain ⟨w3, hw3⟩ : ∃ w3, w2.alloc (.cells #[.int .u32 (X : Int), .int .u32 (Y : Int), .int .i64 (Lv : Int), .slice ro rn rc', .slice ko kn kc] 45) = w3 := ⟨_, rfl⟩
 rw [hw3] at b3 hn3 ht3
 have HW3 : Hid _ := hw3
 have HB3 : Hid (Below w.heap.size w w3) := HB2.out.trans (b3.mono HB2.out.size)
 have HG3 : Hid (w3.heap[w.heap.size]? = some (qcs ⟨3, a, b, c, d, x, y, sq, (K : Int), af, fr⟩)) := (b3.block _ l2).trans HG2.out
 have l3 : w.heap.size < w3.heap.size := Nat.lt_of_lt_of_le l2 b3.size
 have HN3 : Hid (w3.heap[w2.heap.size]? = some (.cells #[.int .u32 (X : Int), .int .u32 (Y : Int), .int .i64 (Lv : Int), .slice ro rn rc', .slice ko kn kc] 45 (0, 0))) := hn3
 have HT3 : Hid (NodeAt (fun _ => True) 32 w3 ⟨X, Y, Lv, ro, rn, rc', ko, kn, kc⟩ L) := ht3
 have m3 : w2.heap.size < w3.heap.size := (Array.getElem?_eq_some_iff.1 hn3).1
 obtain ⟨c0, c1, c2, c3, c4, c5, c6, c7, c8, c9, c10⟩ := qc_of HG3.out
 simp only at c0 c1 c2 c3 c4 c5 c6 c7 c8 c9 c10
 clear b2 b3 hw3 hn3 ht3 n2 HBd
 go_wp2_with (first | (rw [HW3.out]; clear HW3))
 refine Calls.mono (HA.out w3 (HR.out.below HB3.out (Nat.le_refl _))) ?_
 rintro e w4 ⟨o4, cap4, rfl, hr4, b4⟩
 have HB4 : Hid (Below w.heap.size w w4) := HB3.out.trans (b4.mono HB3.out.size)
 have HG4 : Hid (w4.heap[w.heap.size]? = some (qcs ⟨3, a, b, c, d, x, y, sq, (K : Int), af, fr⟩)) := (b4.block _ l3).trans HG3.out
 have l4 : w.heap.size < w4.heap.size := Nat.lt_of_lt_of_le l3 b4.size
 have HN4 : Hid (w4.heap[w2.heap.size]? = some (.cells #[.int .u32 (X : Int), .int .u32 (Y : Int), .int .i64 (Lv : Int), .slice ro rn rc', .slice ko kn kc] 45 (0, 0))) := (b4.block _ m3).trans HN3.out
 have HT4 : Hid (NodeAt (fun _ => True) 32 w4 ⟨X, Y, Lv, ro, rn, rc', ko, kn, kc⟩ L) := NodeAt.below HT3.out b4 (Nat.le_refl _)
 have m4 : w2.heap.size < w4.heap.size := Nat.lt_of_lt_of_le m3 b4.size
 have HX4 : Hid (RowsAt w4 o4 cap4 AL) := hr4
 clear b4 hr4 HA HB3 HG3 HN3 HT3 l3 m3 c0 c1 c2 c3 c4 c5 c6 c7 c8 c9 c10
 obtain ⟨c0, c1, c2, c3, c4, c5, c6, c7, c8, c9, c10⟩ := qc_of HG4.out
 simp only at c0 c1 c2 c3 c4 c5 c6 c7 c8 c9 c10
 obtain ⟨-, -, -, -, -, f0, f1, f2, f3, f4⟩ := node_facts HN4.out
 go_wp2_with fail
 refine Calls.mono (HQR.out w4 ⟨X, Y, Lv, ro, rn, rc', ko, kn, kc⟩ HT4.out) ?_
 rintro e w5 ⟨v5, rfl, ho5, b5⟩
 obtain ⟨o5, cap5, rfl, hr5⟩ := sl_of_own ho5
 have HB5 : Hid (Below w.heap.size w w5) := HB4.out.trans (b5.mono HB4.out.size)
 have HG5 : Hid (w5.heap[w.heap.size]? = some (qcs ⟨3, a, b, c, d, x, y, sq, (K : Int), af, fr⟩)) := (b5.block _ l4).trans HG4.out
 have l5 : w.heap.size < w5.heap.size := Nat.lt_of_lt_of_le l4 b5.size
 have HN5 : Hid (w5.heap[w2.heap.size]? = some (.cells #[.int .u32 (X : Int), .int .u32 (Y : Int), .int .i64 (Lv : Int), .slice ro rn rc', .slice ko kn kc] 45 (0, 0))) := (b5.block _ m4).trans HN4.out
 have HT5 : Hid (NodeAt (fun _ => True) 32 w5 ⟨X, Y, Lv, ro, rn, rc', ko, kn, kc⟩ L) := NodeAt.below HT4.out b5 (Nat.le_refl _)
 have m5 : w2.heap.size < w5.heap.size := Nat.lt_of_lt_of_le m4 b5.size
 have HX5 : Hid (RowsAt w5 o4 cap4 AL) := HX4.out.below b5 (Nat.le_refl _)
 have HY5 : Hid (RowsAt w5 o5 cap5 L) := hr5
 clear b5 hr5 ho5 HQR HB4 HG4 HN4 HT4 HX4 l4 m4 c0 c1 c2 c3 c4 c5 c6 c7 c8 c9 c10 f0 f1 f2 f3 f4
 obtain ⟨c0, c1, c2, c3, c4, c5, c6, c7, c8, c9, c10⟩ := qc_of HG5.out
 simp only at c0 c1 c2 c3 c4 c5 c6 c7 c8 c9 c10
 obtain ⟨-, -, -, -, -, f0, f1, f2, f3, f4⟩ := node_facts HN5.out
 go_wp2_with fail
 refine Calls.mono (HQ.out w5 ⟨X, Y, Lv, ro, rn, rc', ko, kn, kc⟩ HT5.out) ?_
 rintro e w6 ⟨o6, cap6, rfl, hr6, b6⟩
 have HB6 : Hid (Below w.heap.size w w6) := HB5.out.trans (b6.mono HB5.out.size)
 have HG6 : Hid (w6.heap[w.heap.size]? = some (qcs ⟨3, a, b, c, d, x, y, sq, (K : Int), af, fr⟩)) := (b6.block _ l5).trans HG5.out
 have l6 : w.heap.size < w6.heap.size := Nat.lt_of_lt_of_le l5 b6.size
 have HX6 : Hid (RowsAt w6 o4 cap4 AL) := HX5.out.below b6 (Nat.le_refl _)
 have HY6 : Hid (RowsAt w6 o6 cap6 F) := hr6
 clear b6 hr6 HQ HB5 HG5 HN5 HT5 HX5 HY5 l5 m5 c0 c1 c2 c3 c4 c5 c6 c7 c8 c9 c10 f0 f1 f2 f3 f4
 obtain ⟨c0, c1, c2, c3, c4, c5, c6, c7, c8, c9, c10⟩ := qc_of HG6.out
 simp only at c0 c1 c2 c3 c4 c5 c6 c7 c8 c9 c10
 cases fr
 ·have hrs : rest ⟨3, a, b, c, d, x, y, sq, (K : Int), af, false⟩ F = F := by unfold rest; exact if_neg (by simp)
  have hal := HAL.out
  have hab := HAB.out
  rw [hrs] at hal hab
  have hn : AL.length = min K F.length := by rw [hal, List.length_take]
  have hle : AL.length ≤ F.length := by omega
  have hab2 : AB = decide (AL.length < F.length) := by
   rw [hab]
   congr 1
   exact propext (by omega)
  have htk : F.take AL.length = AL := by
   conv => rhs; rw [hal]
   by_cases cK : K ≤ F.length
   ·rw [show AL.length = K by omega]
   ·rw [List.take_of_length_le (by omega), List.take_of_length_le (by omega)]
  have hh := RowsAt.head HY6.out AL.length
  rw [htk] at hh
  have hcap := HY6.out.1
  have hrun := fun W => run_headW o6 F.length cap6 AL.length W (by omega) HY6.out.2.2.1
  have HS : Hid (∀ _ : True, _) := fun _ => same_any AL o4 cap4 o6 cap6 w6 HX6.out hh
  have q3 : (AL.length : Int) ≤ (F.length : Int) := by omega
  have HNK : Hid (AL.length = min K F.length) := hn
  have HL6 : Hid (F.length ≤ 60) := hFl
  obtain ⟨nA, hnA⟩ : ∃ nA, AL.length = nA := ⟨_, rfl⟩
  rw [hnA] at hrun HS q3 hab2 HNK ⊢
  obtain ⟨nF, hnF⟩ : ∃ nF, F.length = nF := ⟨_, rfl⟩
  rw [hnF] at hrun q3 hab2 HNK HL6 ⊢
  clear hal hab hrs hn hle htk hh hcap hnA hnF hFl
  go_wp2_with fail
  refine Calls.mono (HS.out trivial) ?_
  rintro e w8 ⟨rfl, b8⟩
  have HB8 : Hid (Below w.heap.size w w8) := HB6.out.trans (b8.mono HB6.out.size)
  have hg8 := (b8.block _ l6).trans HG6.out
  have l8 : w.heap.size < w8.heap.size := Nat.lt_of_lt_of_le l6 b8.size
  clear c0 c1 c2 c3 c4 c5 c6 c7 c8 c9 c10
  obtain ⟨c0, c1, c2, c3, c4, c5, c6, c7, c8, c9, c10⟩ := qc_of hg8
  simp only at c0 c1 c2 c3 c4 c5 c6 c7 c8 c9 c10
  clear b8 HS hg8 hrun
  have hNK := HNK.out
  rcases Nat.lt_or_ge nA nF with hlt | hge
  ·have q5 : decide (nA < nF) = true := decide_eq_true hlt
   rw [q5] at hab2
   subst hab2
   have q6 : (nA : Int) < (nF : Int) := by omega
   have hmin : min (K : Int) (nF : Int) = (nA : Int) := by omega
   clear hNK hlt q5
   go_wp2_with fail
   go_ret
   exact ⟨rfl, HB8.out⟩
  ·have q5 : decide (nA < nF) = false := decide_eq_false (by omega)
   rw [q5] at hab2
   subst hab2
   obtain rfl : nA = nF := by omega
   have q6 : ¬ (nA : Int) < (nA : Int) := by omega
   have hmin : min (K : Int) (nA : Int) = (nA : Int) := by omega
   clear q5 hge hNK
   go_wp2_with fail
   go_ret
   exact ⟨rfl, HB8.out⟩
 ·have hrs : rest ⟨3, a, b, c, d, x, y, sq, (K : Int), af, true⟩ F = F := by unfold rest; exact if_neg (by simp)
  have hal := HAL.out
  have hab := HAB.out
  rw [hrs] at hal hab
  have hn : AL.length = min K F.length := by rw [hal, List.length_take]
  have hle : AL.length ≤ F.length := by omega
  have hab2 : AB = decide (AL.length < F.length) := by
   rw [hab]
   congr 1
   exact propext (by omega)
  have htk : F.take AL.length = AL := by
   conv => rhs; rw [hal]
   by_cases cK : K ≤ F.length
   ·rw [show AL.length = K by omega]
   ·rw [List.take_of_length_le (by omega), List.take_of_length_le (by omega)]
  have hh := RowsAt.head HY6.out AL.length
  rw [htk] at hh
  have hcap := HY6.out.1
  have hrun := fun W => run_headW o6 F.length cap6 AL.length W (by omega) HY6.out.2.2.1
  have HS : Hid (∀ _ : True, _) := fun _ => same_any AL o4 cap4 o6 cap6 w6 HX6.out hh
  have q3 : (AL.length : Int) ≤ (F.length : Int) := by omega
  have HNK : Hid (AL.length = min K F.length) := hn
  have HL6 : Hid (F.length ≤ 60) := hFl
  obtain ⟨nA, hnA⟩ : ∃ nA, AL.length = nA := ⟨_, rfl⟩
  rw [hnA] at hrun HS q3 hab2 HNK ⊢
  obtain ⟨nF, hnF⟩ : ∃ nF, F.length = nF := ⟨_, rfl⟩
  rw [hnF] at hrun q3 hab2 HNK HL6 ⊢
  clear hal hab hrs hn hle htk hh hcap hnA hnF hFl
  go_wp2_with fail
  refine Calls.mono (HS.out trivial) ?_
  rintro e w8 ⟨rfl, b8⟩
  have HB8 : Hid (Below w.heap.size w w8) := HB6.out.trans (b8.mono HB6.out.size)
  have hg8 := (b8.block _ l6).trans HG6.out
  have l8 : w.heap.size < w8.heap.size := Nat.lt_of_lt_of_le l6 b8.size
  clear c0 c1 c2 c3 c4 c5 c6 c7 c8 c9 c10
  obtain ⟨c0, c1, c2, c3, c4, c5, c6, c7, c8, c9, c10⟩ := qc_of hg8
  simp only at c0 c1 c2 c3 c4 c5 c6 c7 c8 c9 c10
  clear b8 HS hg8 hrun
  have hNK := HNK.out
  rcases Nat.lt_or_ge nA nF with hlt | hge
  ·have q5 : decide (nA < nF) = true := decide_eq_true hlt
   rw [q5] at hab2
   subst hab2
   have q6 : (nA : Int) < (nF : Int) := by omega
   have hmin : min (K : Int) (nF : Int) = (nA : Int) := by omega
   clear hNK hlt q5
   go_wp2_with fail
   go_ret
   exact ⟨rfl, HB8.out⟩
  ·have q5 : decide (nA < nF) = false := decide_eq_false (by omega)
   rw [q5] at hab2
   subst hab2
   obtain rfl : nA = nF := by omega
   have q6 : ¬ (nA : Int) < (nA : Int) := by omega
   have hmin : min (K : Int) (nA : Int) = (nA : Int) := by omega
   clear q5 hge hNK
   go_wp2_with fail
   go_ret
   exact ⟨rfl, HB8.out⟩
set_option maxRecDepth 100000 in
set_option maxHeartbeats 8000000 in
theorem quads_4 (l L : List Rw) (hL : l.take 60 = L) (a b c d x y sq K af : Nat) (fr : Bool) (o : Option Addr) (cap : Nat) (w : World) (hr : RowsAt w o cap l) (hrl : rightL L = true) (hc : chk ⟨4, a, b, c, d, x, y, sq, (K : Int), af, fr⟩ = 0) : Calls Try.prog 7 #[.slice o l.length cap, qv ⟨4, a, b, c, d, x, y, sq, (K : Int), af, fr⟩] w fun e w' => e = .returned (.bool true) ∧ Below w.heap.size w w' := by
 have hL60 : L.length ≤ 60 := by rw [← hL, List.length_take]; omega
 have hb := below_new w (qcs ⟨4, a, b, c, d, x, y, sq, (K : Int), af, fr⟩)
 have hg := heap_alloc_new w (qcs ⟨4, a, b, c, d, x, y, sq, (K : Int), af, fr⟩)
 obtain ⟨W0, hW0⟩ : ∃ W0, w.alloc (qcs ⟨4, a, b, c, d, x, y, sq, (K : Int), af, fr⟩) = W0 := ⟨_, rfl⟩
 rw [hW0] at hb hg
 have HW0 : Hid _ := hW0
 have HG0 : Hid (W0.heap[w.heap.size]? = some (qcs ⟨4, a, b, c, d, x, y, sq, (K : Int), af, fr⟩)) := hg
 have HB0 : Hid (Below w.heap.size w W0) := hb
 have l0 : w.heap.size < W0.heap.size := (Array.getElem?_eq_some_iff.1 hg).1
 have HF : Hid (∀ W, RowsAt W o cap l → Calls Try.prog 14 #[.slice o l.length cap] W fun e w' => e = .returned (.slice o L.length cap) ∧ w' = W) := fun W hW => by rw [← hL]; exact few_any l o cap W hW
 have HR0 : Hid (RowsAt w o cap l) := hr
 have HR : Hid (RowsAt w o cap L) := by rw [← hL]; exact hr.head 60
 clear hL
 obtain ⟨M, hM⟩ := bound_ids L
 have hon := right_on hrl
 have hri := right_rise hrl
 have HBd : Hid (∀ W, RowsAt W o cap L → _) := fun W hW => build_ok L o cap W hW hrl
 have HA : Hid (∀ W, RowsAt W o cap L → _) := fun W hW => ask_any o cap L ⟨4, a, b, c, d, x, y, sq, (K : Int), af, fr⟩ M hM W hW
 have hok : rightL L = true ∧ chk ⟨4, a, b, c, d, x, y, sq, (K : Int), af, fr⟩ = 0 := ⟨hrl, hc⟩
 have hE : fdE ⟨4, a, b, c, d, x, y, sq, (K : Int), af, fr⟩ L = 0 := fd_ok hok
 have hAL : askL ⟨4, a, b, c, d, x, y, sq, (K : Int), af, fr⟩ M L = (rest ⟨4, a, b, c, d, x, y, sq, (K : Int), af, fr⟩ (L)).take K := if_pos hok
 have hAB : askB ⟨4, a, b, c, d, x, y, sq, (K : Int), af, fr⟩ M L = decide (K < (rest ⟨4, a, b, c, d, x, y, sq, (K : Int), af, fr⟩ (L)).length) := if_pos hok
 have hFl : (L).length ≤ 60 := Nat.le_trans (fnd_len ⟨4, a, b, c, d, x, y, sq, (K : Int), af, fr⟩ M L) hL60
 rw [hE] at HA
 have HQR : Hid (∀ (W : World) (n : Nv), NodeAt (fun _ => True) 32 W n L → _) := fun W n hN => rowsQ_any n L 32 W hN hon (by omega) hri
 generalize askL ⟨4, a, b, c, d, x, y, sq, (K : Int), af, fr⟩ M L = AL at *
 generalize askB ⟨4, a, b, c, d, x, y, sq, (K : Int), af, fr⟩ M L = AB at *
 clear hM hrl hc hok hE hon hri
 simp only [qv, nv] at HA HBd HQR ⊢
 clear hb hg hW0 hr
 have HAL : Hid (AL = (rest ⟨4, a, b, c, d, x, y, sq, (K : Int), af, fr⟩ L).take K) := hAL
 have HAB : Hid (AB = decide (K < (rest ⟨4, a, b, c, d, x, y, sq, (K : Int), af, fr⟩ L).length)) := hAB
 clear hAL hAB
 go_enter Try.func7, Try.ntmps7
 go_wp2_with (first | (rw [HW0.out]; clear HW0))
 refine (fshown_any _).mono ?_
 rintro e w1 ⟨rfl, b1⟩
 have HB1 : Hid (Below w.heap.size w w1) := HB0.out.trans (b1.mono HB0.out.size)
 have HG1 : Hid (w1.heap[w.heap.size]? = some (qcs ⟨4, a, b, c, d, x, y, sq, (K : Int), af, fr⟩)) := (b1.block _ l0).trans HG0.out
 have l1 : w.heap.size < w1.heap.size := Nat.lt_of_lt_of_le l0 b1.size
 clear b1 HG0 HB0 l0
 go_wp2_with fail
 refine (HF.out w1 (HR0.out.below HB1.out (Nat.le_refl _))).mono ?_
 rintro e w9 ⟨rfl, hw9⟩
 have hw9' := hw9.symm
 clear hw9
 subst hw9'
 clear HF HR0
 go_wp2_with fail
 refine Calls.mono (HBd.out w1 (HR.out.below HB1.out (Nat.le_refl _))) ?_
 rintro e w2 ⟨n, rfl, n2, b2⟩
 obtain ⟨X, Y, Lv, ro, rn, rc', ko, kn, kc⟩ := n
 have HB2 : Hid (Below w.heap.size w w2) := HB1.out.trans (b2.mono HB1.out.size)
 have HG2 : Hid (w2.heap[w.heap.size]? = some (qcs ⟨4, a, b, c, d, x, y, sq, (K : Int), af, fr⟩)) := (b2.block _ l1).trans HG1.out
 have l2 : w.heap.size < w2.heap.size := Nat.lt_of_lt_of_le l1 b2.size
 have b3 := below_new w2 (.cells #[.int .u32 (X : Int), .int .u32 (Y : Int), .int .i64 (Lv : Int), .slice ro rn rc', .slice ko kn kc] 45)
 have hn3 := heap_alloc_new w2 (.cells #[.int .u32 (X : Int), .int .u32 (Y : Int), .int .i64 (Lv : Int), .slice ro rn rc', .slice ko kn kc] 45)
 have ht3 := (n2.mono (G' := fun _ => True) fun _ _ _ => trivial).below b3 (Nat.le_refl _)
 obtain ⟨w3, hw3⟩ : ∃ w3, w2.alloc (.cells #[.int .u32 (X : Int), .int .u32 (Y : Int), .int .i64 (Lv : Int), .slice ro rn rc', .slice ko kn kc] 45) = w3 := ⟨_, rfl⟩
 rw [hw3] at b3 hn3 ht3
 have HW3 : Hid _ := hw3
 have HB3 : Hid (Below w.heap.size w w3) := HB2.out.trans (b3.mono HB2.out.size)
 have HG3 : Hid (w3.heap[w.heap.size]? = some (qcs ⟨4, a, b, c, d, x, y, sq, (K : Int), af, fr⟩)) := (b3.block _ l2).trans HG2.out
 have l3 : w.heap.size < w3.heap.size := Nat.lt_of_lt_of_le l2 b3.size
 have HN3 : Hid (w3.heap[w2.heap.size]? = some (.cells #[.int .u32 (X : Int), .int .u32 (Y : Int), .int .i64 (Lv : Int), .slice ro rn rc', .slice ko kn kc] 45 (0, 0))) := hn3
 have HT3 : Hid (NodeAt (fun _ => True) 32 w3 ⟨X, Y, Lv, ro, rn, rc', ko, kn, kc⟩ L) := ht3
 have m3 : w2.heap.size < w3.heap.size := (Array.getElem?_eq_some_iff.1 hn3).1
 obtain ⟨c0, c1, c2, c3, c4, c5, c6, c7, c8, c9, c10⟩ := qc_of HG3.out
 simp only at c0 c1 c2 c3 c4 c5 c6 c7 c8 c9 c10
 clear b2 b3 hw3 hn3 ht3 n2 HBd
 go_wp2_with (first | (rw [HW3.out]; clear HW3))
 refine Calls.mono (HA.out w3 (HR.out.below HB3.out (Nat.le_refl _))) ?_
 rintro e w4 ⟨o4, cap4, rfl, hr4, b4⟩
 have HB4 : Hid (Below w.heap.size w w4) := HB3.out.trans (b4.mono HB3.out.size)
 have HG4 : Hid (w4.heap[w.heap.size]? = some (qcs ⟨4, a, b, c, d, x, y, sq, (K : Int), af, fr⟩)) := (b4.block _ l3).trans HG3.out
 have l4 : w.heap.size < w4.heap.size := Nat.lt_of_lt_of_le l3 b4.size
 have HN4 : Hid (w4.heap[w2.heap.size]? = some (.cells #[.int .u32 (X : Int), .int .u32 (Y : Int), .int .i64 (Lv : Int), .slice ro rn rc', .slice ko kn kc] 45 (0, 0))) := (b4.block _ m3).trans HN3.out
 have HT4 : Hid (NodeAt (fun _ => True) 32 w4 ⟨X, Y, Lv, ro, rn, rc', ko, kn, kc⟩ L) := NodeAt.below HT3.out b4 (Nat.le_refl _)
 have m4 : w2.heap.size < w4.heap.size := Nat.lt_of_lt_of_le m3 b4.size
 have HX4 : Hid (RowsAt w4 o4 cap4 AL) := hr4
 clear b4 hr4 HA HB3 HG3 HN3 HT3 l3 m3 c0 c1 c2 c3 c4 c5 c6 c7 c8 c9 c10
 obtain ⟨c0, c1, c2, c3, c4, c5, c6, c7, c8, c9, c10⟩ := qc_of HG4.out
 simp only at c0 c1 c2 c3 c4 c5 c6 c7 c8 c9 c10
 obtain ⟨-, -, -, -, -, f0, f1, f2, f3, f4⟩ := node_facts HN4.out
 go_wp2_with fail
 refine Calls.mono (HQR.out w4 ⟨X, Y, Lv, ro, rn, rc', ko, kn, kc⟩ HT4.out) ?_
 rintro e w5 ⟨v5, rfl, ho5, b5⟩
 obtain ⟨o5, cap5, rfl, hr5⟩ := sl_of_own ho5
 have HB5 : Hid (Below w.heap.size w w5) := HB4.out.trans (b5.mono HB4.out.size)
 have HG5 : Hid (w5.heap[w.heap.size]? = some (qcs ⟨4, a, b, c, d, x, y, sq, (K : Int), af, fr⟩)) := (b5.block _ l4).trans HG4.out
 have l5 : w.heap.size < w5.heap.size := Nat.lt_of_lt_of_le l4 b5.size
 have HN5 : Hid (w5.heap[w2.heap.size]? = some (.cells #[.int .u32 (X : Int), .int .u32 (Y : Int), .int .i64 (Lv : Int), .slice ro rn rc', .slice ko kn kc] 45 (0, 0))) := (b5.block _ m4).trans HN4.out
 have HT5 : Hid (NodeAt (fun _ => True) 32 w5 ⟨X, Y, Lv, ro, rn, rc', ko, kn, kc⟩ L) := NodeAt.below HT4.out b5 (Nat.le_refl _)
 have m5 : w2.heap.size < w5.heap.size := Nat.lt_of_lt_of_le m4 b5.size
 have HX5 : Hid (RowsAt w5 o4 cap4 AL) := HX4.out.below b5 (Nat.le_refl _)
 have HY5 : Hid (RowsAt w5 o5 cap5 L) := hr5
 clear b5 hr5 ho5 HQR HB4 HG4 HN4 HT4 HX4 l4 m4 c0 c1 c2 c3 c4 c5 c6 c7 c8 c9 c10 f0 f1 f2 f3 f4
 obtain ⟨c0, c1, c2, c3, c4, c5, c6, c7, c8, c9, c10⟩ := qc_of HG5.out
 simp only at c0 c1 c2 c3 c4 c5 c6 c7 c8 c9 c10
 obtain ⟨-, -, -, -, -, f0, f1, f2, f3, f4⟩ := node_facts HN5.out
 clear HN5 HT5 m5 f0 f1 f2 f3 f4
 cases fr
 ·have hrs : rest ⟨4, a, b, c, d, x, y, sq, (K : Int), af, false⟩ L = L := by unfold rest; exact if_neg (by simp)
  have hal := HAL.out
  have hab := HAB.out
  rw [hrs] at hal hab
  have hn : AL.length = min K L.length := by rw [hal, List.length_take]
  have hle : AL.length ≤ L.length := by omega
  have hab2 : AB = decide (AL.length < L.length) := by
   rw [hab]
   congr 1
   exact propext (by omega)
  have htk : L.take AL.length = AL := by
   conv => rhs; rw [hal]
   by_cases cK : K ≤ L.length
   ·rw [show AL.length = K by omega]
   ·rw [List.take_of_length_le (by omega), List.take_of_length_le (by omega)]
  have hh := RowsAt.head HY5.out AL.length
  rw [htk] at hh
  have hcap := HY5.out.1
  have hrun := fun W => run_headW o5 L.length cap5 AL.length W (by omega) HY5.out.2.2.1
  have HS : Hid (∀ _ : True, _) := fun _ => same_any AL o4 cap4 o5 cap5 w5 HX5.out hh
  have q3 : (AL.length : Int) ≤ (L.length : Int) := by omega
  have HNK : Hid (AL.length = min K L.length) := hn
  have HL6 : Hid (L.length ≤ 60) := hFl
  obtain ⟨nA, hnA⟩ : ∃ nA, AL.length = nA := ⟨_, rfl⟩
  rw [hnA] at hrun HS q3 hab2 HNK ⊢
  obtain ⟨nF, hnF⟩ : ∃ nF, L.length = nF := ⟨_, rfl⟩
  rw [hnF] at hrun q3 hab2 HNK HL6 ⊢
  clear hal hab hrs hn hle htk hh hcap hnA hnF hFl
  go_wp2_with fail
  refine Calls.mono (HS.out trivial) ?_
  rintro e w8 ⟨rfl, b8⟩
  have HB8 : Hid (Below w.heap.size w w8) := HB5.out.trans (b8.mono HB5.out.size)
  have hg8 := (b8.block _ l5).trans HG5.out
  have l8 : w.heap.size < w8.heap.size := Nat.lt_of_lt_of_le l5 b8.size
  clear c0 c1 c2 c3 c4 c5 c6 c7 c8 c9 c10
  obtain ⟨c0, c1, c2, c3, c4, c5, c6, c7, c8, c9, c10⟩ := qc_of hg8
  simp only at c0 c1 c2 c3 c4 c5 c6 c7 c8 c9 c10
  clear b8 HS hg8 hrun
  have hNK := HNK.out
  rcases Nat.lt_or_ge nA nF with hlt | hge
  ·have q5 : decide (nA < nF) = true := decide_eq_true hlt
   rw [q5] at hab2
   subst hab2
   have q6 : (nA : Int) < (nF : Int) := by omega
   have hmin : min (K : Int) (nF : Int) = (nA : Int) := by omega
   clear hNK hlt q5
   go_wp2_with fail
   go_ret
   exact ⟨rfl, HB8.out⟩
  ·have q5 : decide (nA < nF) = false := decide_eq_false (by omega)
   rw [q5] at hab2
   subst hab2
   obtain rfl : nA = nF := by omega
   have q6 : ¬ (nA : Int) < (nA : Int) := by omega
   have hmin : min (K : Int) (nA : Int) = (nA : Int) := by omega
   clear q5 hge hNK
   go_wp2_with fail
   go_ret
   exact ⟨rfl, HB8.out⟩
 ·have hle : AL.length ≤ L.length := by
   rw [HAL.out, List.length_take]
   have := rest_len ⟨4, a, b, c, d, x, y, sq, (K : Int), af, true⟩ L
   omega
  have q3 : (AL.length : Int) ≤ (L.length : Int) := by omega
  clear hle
  go_wp2_with fail
  go_ret
  exact ⟨rfl, HB5.out⟩
set_option maxRecDepth 100000 in
theorem findQuads_walk (l : List Rw) (q : Qr) (o : Option Addr) (cap : Nat) (w : World) (hr : RowsAt w o cap l) : Calls Try.prog 7 #[.slice o l.length cap, qv q] w fun e w' => e = .returned (.bool true) ∧ Below w.heap.size w w' := by
 cases hrl : rightL (l.take 60)
 ·exact quads_no l _ rfl q o cap w hr hrl
 by_cases hc : chk q = 0
 ·obtain ⟨hk, k0, -, -⟩ := chk_ok hc
  obtain ⟨k, a, b, c, d, x, y, sq, kk, af, fr⟩ := q
  simp only at hk k0
  obtain ⟨K, rfl⟩ : ∃ K : Nat, kk = (K : Int) := ⟨kk.toNat, by omega⟩
  obtain rfl | rfl | rfl | rfl : k = 1 ∨ k = 2 ∨ k = 3 ∨ k = 4 := by omega
  ·exact quads_1 l _ rfl a b c d x y sq K af fr o cap w hr hrl hc
  ·exact quads_2 l _ rfl a b c d x y sq K af fr o cap w hr hrl hc
  ·exact quads_3 l _ rfl a b c d x y sq K af fr o cap w hr hrl hc
  ·exact quads_4 l _ rfl a b c d x y sq K af fr o cap w hr hrl hc
 ·exact quads_bad l _ rfl q o cap w hr hrl hc
end Go.Proofs.Ytimdlohdmddnjaa.Rf
