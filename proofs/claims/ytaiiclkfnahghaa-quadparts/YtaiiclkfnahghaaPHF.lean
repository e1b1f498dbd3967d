/- QuadParts: what is in one of two halves of a box is in the box, and the other way round. -/
import Derived.Test.YtaiiclkfnahghaaQBM
namespace Go.Proofs.Ytaiiclkfnahghaa.Rq
open Go.RowKit Go.Lib Go.Shelf
open Go.Proofs.Ytaiiclkfnahghaa.Rc
set_option maxRecDepth 100000 in
theorem filter_two (l : List Rw) (f g h : Rw → Bool) (hs : ∀ r, f r = (g r || h r)) (hd : ∀ r, ¬ (g r = true ∧ h r = true)) : (l.filter f).length = (l.filter g).length + (l.filter h).length := by
  induction l with
  | nil => rfl
  | cons r l ih =>
    have h1 := hs r
    have h2 := hd r
    cases hg : g r <;> cases hh : h r <;> simp_all <;> omega
set_option maxRecDepth 100000 in
theorem parts_count (l : List Rw) (a b c d m : Nat) (hb : boxS a b c d = true) (h1 : a ≤ m) (h2 : m < c) : countV l a b c d = countV l a b m d + countV l (m + 1) b c d ∧ boxE a b c d = 0 ∧ boxE a b m d = 0 ∧ boxE (m + 1) b c d = 0 := by
  have hb1 : boxS a b m d = true := by unfold boxS at hb ⊢; simp at hb ⊢; omega
  have hb2 : boxS (m + 1) b c d = true := by unfold boxS at hb ⊢; simp at hb ⊢; omega
  unfold countV boxE
  simp only [hb, hb1, hb2, if_true]
  refine ⟨filter_two l _ _ _ (fun r => ?_) (fun r => ?_), trivial, trivial, trivial⟩
  · unfold inS
    simp only [hb, hb1, hb2, true_and]
    rw [← Bool.decide_or]
    exact decide_eq_decide.2 (by omega)
  · unfold inS
    simp only [decide_eq_true_eq]
    omega
/-- A box, its halves, a tree. -/
structure Halves (w0 w : World) (g a b c d g2 g3 m m1 X Y L : Nat) (ro : Option Addr) (rn rc' : Nat) (ko : Option Addr) (kn kc : Nat) (l : List Rw) : Prop where
  bn : BxNd w g a b c d g2 X Y L ro rn rc' ko kn kc
  nod : NodeAt (fun _ => True) 32 w ⟨X, Y, L, ro, rn, rc', ko, kn, kc⟩ l
  bel : Below w0.heap.size w0 w
  le : w.heap[g3]? = some (.cells #[.int .u32 (a : Int), .int .u32 (b : Int), .int .u32 (m : Int), .int .u32 (d : Int)] 42 (0, 0))
  ri : w.heap[g3 + 1]? = some (.cells #[.int .u32 (m1 : Int), .int .u32 (b : Int), .int .u32 (c : Int), .int .u32 (d : Int)] 42 (0, 0))
set_option maxRecDepth 100000 in
theorem Halves.grow {w0 w W : World} {B g a b c d g2 g3 m m1 X Y L : Nat} {ro : Option Addr} {rn rc' : Nat} {ko : Option Addr} {kn kc : Nat} {l : List Rw} (h : Halves w0 w g a b c d g2 g3 m m1 X Y L ro rn rc' ko kn kc l) (hW : Below B w W) (hB : w.heap.size ≤ B) : Halves w0 W g a b c d g2 g3 m m1 X Y L ro rn rc' ko kn kc l :=
  ⟨h.bn.grow hW hB, NodeAt.below h.nod hW hB, h.bel.trans (hW.mono (Nat.le_trans h.bel.size hB)), (hW.block _ (Nat.lt_of_lt_of_le (Array.getElem?_eq_some_iff.1 h.le).1 hB)).trans h.le, (hW.block _ (Nat.lt_of_lt_of_le (Array.getElem?_eq_some_iff.1 h.ri).1 hB)).trans h.ri⟩
set_option maxRecDepth 100000 in
theorem Halves.facts {w0 w : World} {g a b c d g2 g3 m m1 X Y L : Nat} {ro : Option Addr} {rn rc' : Nat} {ko : Option Addr} {kn kc : Nat} {l : List Rw} (h : Halves w0 w g a b c d g2 g3 m m1 X Y L ro rn rc' ko kn kc l) :
    (w.cell? ⟨g3, 0, none⟩ = some (.int .u32 (a : Int)) ∧ w.cell? ⟨g3, 1, none⟩ = some (.int .u32 (b : Int)) ∧ w.cell? ⟨g3, 2, none⟩ = some (.int .u32 (m : Int)) ∧ w.cell? ⟨g3, 3, none⟩ = some (.int .u32 (d : Int))) ∧
    (w.cell? ⟨g3 + 1, 0, none⟩ = some (.int .u32 (m1 : Int)) ∧ w.cell? ⟨g3 + 1, 1, none⟩ = some (.int .u32 (b : Int)) ∧ w.cell? ⟨g3 + 1, 2, none⟩ = some (.int .u32 (c : Int)) ∧ w.cell? ⟨g3 + 1, 3, none⟩ = some (.int .u32 (d : Int))) ∧ g3 < w.heap.size ∧ g3 + 1 < w.heap.size :=
  ⟨box_cells h.le, box_cells h.ri, (Array.getElem?_eq_some_iff.1 h.le).1, (Array.getElem?_eq_some_iff.1 h.ri).1⟩
set_option maxRecDepth 100000 in
set_option maxHeartbeats 2000000 in
theorem quadParts_walk (l : List Rw) (a b c d m : Nat) (hm : m < 4294967296) (o : Option Addr) (cap : Nat) (w : World) (hr : RowsAt w o cap l) :
    Calls Try.prog 9 #[.slice o l.length cap, bv a b c d, .int .u32 (m : Int)] w fun e w' => e = .returned (.bool true) ∧ Below w.heap.size w w' := by
  have HF : Hid _ := few_any l o cap
  have HR0 : Hid (RowsAt w o cap l) := hr
  have HR : Hid (RowsAt w o cap (l.take 60)) := hr.head 60
  have h60 : (l.take 60).length ≤ 60 := by rw [List.length_take]; omega
  have hbn0 := below_new w (.cells #[.int .u32 (a : Int), .int .u32 (b : Int), .int .u32 (c : Int), .int .u32 (d : Int)] 42)
  have hg0 := heap_alloc_new w (.cells #[.int .u32 (a : Int), .int .u32 (b : Int), .int .u32 (c : Int), .int .u32 (d : Int)] 42)
  have HBN : Hid _ := hbn0
  have HGN : Hid _ := hg0
  clear hbn0 hg0
  simp only [bv]
  go_enter Try.func9, Try.ntmps9
  go_wp2_with fail
  refine (shown_any _).mono ?_
  rintro e w1 ⟨rfl, b1⟩
  have HB1 : Hid (Below w.heap.size w w1) := HBN.out.trans (b1.mono (by simp))
  have HG1 : Hid (w1.heap[w.heap.size]? = some (.cells #[.int .u32 (a : Int), .int .u32 (b : Int), .int .u32 (c : Int), .int .u32 (d : Int)] 42 (0, 0))) := (b1.block _ (by simp)).trans HGN.out
  clear b1 hr HBN HGN
  go_wp2_with fail
  refine (HF.out w1 (HR0.out.below HB1.out (Nat.le_refl _))).mono ?_
  rintro e w2 ⟨rfl, h⟩
  have h' := h.symm; clear h; subst h'
  clear HF HR0
  generalize l.take 60 = l at *
  go_wp2_with fail
  have hR1 := HR.out.below HB1.out (Nat.le_refl _)
  cases hrl : rightL l
  · refine (build_no l o cap _ hR1 hrl).mono ?_
    rintro e w2 ⟨rfl, b2⟩
    have HB2 : Hid (Below w.heap.size w w2) := HB1.out.trans (b2.mono HB1.out.size)
    clear b2 hR1
    go_wp2_with fail
    go_ret
    exact ⟨rfl, HB2.out.trans ((below_new w2 _).mono HB2.out.size)⟩
  · have hon := right_on hrl
    have hri := right_rise hrl
    refine (build_ok l o cap _ hR1 hrl).mono ?_
    rintro e w2 ⟨n, rfl, n2, b2⟩
    have HB2 : Hid (Below w.heap.size w w2) := HB1.out.trans (b2.mono HB1.out.size)
    have hg2 := (b2.block _ (Array.getElem?_eq_some_iff.1 HG1.out).1).trans HG1.out
    have hnb := (n2.mono (G' := fun _ => True) fun _ _ _ => trivial).below (below_new w2 (.cells #[.int .u32 (n.X : Int), .int .u32 (n.Y : Int), .int .i64 (n.L : Int), .slice n.ro n.rn n.rc, .slice n.ko n.kn n.kc] 33)) (Nat.le_refl _)
    obtain ⟨X, Y, L, ro, rn, rc', ko, kn, kc⟩ := n
    have hb3 := below_new w2 (.cells #[.int .u32 (X : Int), .int .u32 (Y : Int), .int .i64 (L : Int), .slice ro rn rc', .slice ko kn kc] 33)
    obtain ⟨W3, hW3⟩ : ∃ W3, w2.alloc (.cells #[.int .u32 (X : Int), .int .u32 (Y : Int), .int .i64 (L : Int), .slice ro rn rc', .slice ko kn kc] 33) = W3 := ⟨_, rfl⟩
    have hg3 := heap_alloc_new w2 (.cells #[.int .u32 (X : Int), .int .u32 (Y : Int), .int .i64 (L : Int), .slice ro rn rc', .slice ko kn kc] 33)
    simp only at hnb
    rw [hW3] at hb3 hg3 hnb
    have HW3 : Hid _ := hW3
    have HST : Hid (BxNd W3 w.heap.size a b c d w2.heap.size X Y L ro rn rc' ko kn kc ∧ NodeAt (fun _ => True) 32 W3 ⟨X, Y, L, ro, rn, rc', ko, kn, kc⟩ l ∧ Below w.heap.size w W3) := ⟨⟨(hb3.block _ (Array.getElem?_eq_some_iff.1 hg2).1).trans hg2, hg3⟩, hnb, HB2.out.trans (hb3.mono HB2.out.size)⟩
    obtain ⟨k0, k1, k2, k3⟩ := box_cells hg2
    have lb : w.heap.size < w2.heap.size := (Array.getElem?_eq_some_iff.1 hg2).1
    have HRB : Hid _ := rightBox_any a b c d
    have HON : Hid (On l) := hon
    have HRI : Hid (Rise l) := hri
    clear b2 hR1 n2 hb3 hg3 hW3 hnb hon hri hg2 HB2 HB1 HG1
    simp only [nv, bv] at HRB ⊢
    go_wp2_with fail
    rw [HW3.out]
    clear HW3
    refine (HRB.out _).mono ?_
    rintro e w3 ⟨rfl, b3⟩
    have HST3 : Hid (BxNd w3 w.heap.size a b c d w2.heap.size X Y L ro rn rc' ko kn kc ∧ NodeAt (fun _ => True) 32 w3 ⟨X, Y, L, ro, rn, rc', ko, kn, kc⟩ l ∧ Below w.heap.size w w3) := ⟨HST.out.1.grow b3 (Nat.le_refl _), NodeAt.below HST.out.2.1 b3 (Nat.le_refl _), HST.out.2.2.trans (b3.mono HST.out.2.2.size)⟩
    clear b3 HST HRB k0 k1 k2 k3 lb
    obtain ⟨k0, k1, k2, k3, f0, f1, f2, f3, f4, lb, ln⟩ := HST3.out.1.facts
    have hcase : boxS a b c d = false ∨ (boxS a b c d = true ∧ m < a) ∨ (boxS a b c d = true ∧ ¬ m < a ∧ c ≤ m) ∨ (boxS a b c d = true ∧ ¬ m < a ∧ ¬ c ≤ m) := by
      cases boxS a b c d <;> simp <;> omega
    rcases hcase with h1 | ⟨h1, h2⟩ | ⟨h1, h2, h3⟩ | ⟨h1, h2, h3⟩
    · rw [h1]
      go_wp2_with fail
      go_ret
      exact ⟨rfl, HST3.out.2.2⟩
    · rw [h1]
      have q1 : (m : Int) < (a : Int) := by omega
      go_wp2_with fail
      go_ret
      exact ⟨rfl, HST3.out.2.2⟩
    · rw [h1]
      have q1 : ¬ (m : Int) < (a : Int) := by omega
      have q2 : (c : Int) ≤ (m : Int) := by omega
      go_wp2_with fail
      go_ret
      exact ⟨rfl, HST3.out.2.2⟩
    · have hcm : c < 2147483648 := by unfold boxS at h1; simp at h1; omega
      have HPC : Hid _ := parts_count l a b c d m h1 (by omega) (by omega)
      rw [h1]
      clear h1
      have q1 : ¬ (m : Int) < (a : Int) := by omega
      have q2 : ¬ (c : Int) ≤ (m : Int) := by omega
      obtain ⟨m1, hm1⟩ : ∃ m1, m + 1 = m1 := ⟨_, rfl⟩
      rw [hm1] at HPC
      have q3 : (m : Int) + 1 = (m1 : Int) := by omega
      have q4 : IntKind.u32.wrap (m1 : Int) = (m1 : Int) := IntWalk.u32_in _ ⟨by omega, by omega⟩
      have HLB : Hid (∀ W : World, NodeAt (fun _ => True) 32 W ⟨X, Y, L, ro, rn, rc', ko, kn, kc⟩ l → _) := fun W hW => count_box _ l 32 a b c d W hW HON.out (by omega)
      have HLL : Hid (∀ W : World, NodeAt (fun _ => True) 32 W ⟨X, Y, L, ro, rn, rc', ko, kn, kc⟩ l → _) := fun W hW => count_box _ l 32 a b m d W hW HON.out (by omega)
      have HLR : Hid (∀ W : World, NodeAt (fun _ => True) 32 W ⟨X, Y, L, ro, rn, rc', ko, kn, kc⟩ l → _) := fun W hW => count_box _ l 32 m1 b c d W hW HON.out (by omega)
      have HLW : Hid (∀ W : World, NodeAt (fun _ => True) 32 W ⟨X, Y, L, ro, rn, rc', ko, kn, kc⟩ l → _) := fun W hW => window_any _ l 32 a b c d W hW HON.out (by omega) HRI.out
      have hwc : (winV l a b c d).length = countV l a b c d := by
        unfold countV winV
        split <;> simp
      have hc60 : countV l a b c d ≤ 60 := by
        unfold countV
        split
        · exact Nat.le_trans (List.length_filter_le _ _) h60
        · simp
      obtain ⟨p1, p2, p3, p4⟩ := HPC.out
      rw [p2] at HLB HLW
      rw [p3] at HLL
      rw [p4] at HLR
      obtain ⟨c0, hc0⟩ : ∃ c0, countV l a b c d = c0 := ⟨_, rfl⟩
      obtain ⟨c1, hc1⟩ : ∃ c1, countV l a b m d = c1 := ⟨_, rfl⟩
      obtain ⟨c2, hc2⟩ : ∃ c2, countV l m1 b c d = c2 := ⟨_, rfl⟩
      obtain ⟨wl, hwl⟩ : ∃ wl, winV l a b c d = wl := ⟨_, rfl⟩
      rw [hc0] at HLB p1 hwc hc60
      rw [hc1] at HLL p1
      rw [hc2] at HLR p1
      rw [hwl] at HLW hwc
      rw [hwc] at HLW
      simp only [nv, bv] at HLB HLL HLR HLW
      have r1 : (c1 : Int) + (c2 : Int) = (c0 : Int) := by omega
      have r2 : IntKind.i64.wrap (c0 : Int) = (c0 : Int) := wrap_i64 (by omega) (by omega)
      have r3 : (c0 : Int) ≤ 60 := by omega
      clear HPC p1 p2 p3 p4 hc0 hc1 hc2 hwl hwc hc60 HON HRI hm1
      obtain ⟨y1, y2, y3⟩ := two_new w3 (.cells #[.int .u32 (a : Int), .int .u32 (b : Int), .int .u32 (m : Int), .int .u32 (d : Int)] 42) (.cells #[.int .u32 (m1 : Int), .int .u32 (b : Int), .int .u32 (c : Int), .int .u32 (d : Int)] 42)
      obtain ⟨W4, hW4⟩ : ∃ W4, (w3.alloc (.cells #[.int .u32 (a : Int), .int .u32 (b : Int), .int .u32 (m : Int), .int .u32 (d : Int)] 42)).alloc (.cells #[.int .u32 (m1 : Int), .int .u32 (b : Int), .int .u32 (c : Int), .int .u32 (d : Int)] 42) = W4 := ⟨_, rfl⟩
      rw [hW4] at y1 y2 y3
      have HW4 : Hid _ := hW4
      have S0 : Hid (Halves w W4 w.heap.size a b c d w2.heap.size w3.heap.size m m1 X Y L ro rn rc' ko kn kc l) := ⟨HST3.out.1.grow y3 (Nat.le_refl _), NodeAt.below HST3.out.2.1 y3 (Nat.le_refl _), HST3.out.2.2.trans (y3.mono HST3.out.2.2.size), y1, y2⟩
      clear y1 y2 y3 hW4 HST3
      go_wp2_with fail
      rw [HW4.out]
      clear HW4
      clear k0 k1 k2 k3 f0 f1 f2 f3 f4 lb ln
      obtain ⟨k0, k1, k2, k3, f0, f1, f2, f3, f4, lb, ln⟩ := S0.out.bn.facts
      obtain ⟨⟨u0, u1, u2, u3⟩, ⟨v0, v1, v2, v3⟩, lu, lv⟩ := S0.out.facts
      refine (HLB.out _ S0.out.nod).mono ?_
      rintro e w5 ⟨rfl, b0⟩
      have S1 : Hid (Halves w w5 w.heap.size a b c d w2.heap.size w3.heap.size m m1 X Y L ro rn rc' ko kn kc l) := S0.out.grow b0 (Nat.le_refl _)
      clear b0 S0 HLB k0 k1 k2 k3 f0 f1 f2 f3 f4 lb ln u0 u1 u2 u3 v0 v1 v2 v3 lu lv
      obtain ⟨k0, k1, k2, k3, f0, f1, f2, f3, f4, lb, ln⟩ := S1.out.bn.facts
      obtain ⟨⟨u0, u1, u2, u3⟩, ⟨v0, v1, v2, v3⟩, lu, lv⟩ := S1.out.facts
      go_wp2_with fail
      refine (HLL.out _ S1.out.nod).mono ?_
      rintro e w6 ⟨rfl, b1⟩
      have S2 : Hid (Halves w w6 w.heap.size a b c d w2.heap.size w3.heap.size m m1 X Y L ro rn rc' ko kn kc l) := S1.out.grow b1 (Nat.le_refl _)
      clear b1 S1 HLL k0 k1 k2 k3 f0 f1 f2 f3 f4 lb ln u0 u1 u2 u3 v0 v1 v2 v3 lu lv
      obtain ⟨k0, k1, k2, k3, f0, f1, f2, f3, f4, lb, ln⟩ := S2.out.bn.facts
      obtain ⟨⟨u0, u1, u2, u3⟩, ⟨v0, v1, v2, v3⟩, lu, lv⟩ := S2.out.facts
      go_wp2_with fail
      refine (HLR.out _ S2.out.nod).mono ?_
      rintro e w7 ⟨rfl, b2⟩
      have S3 : Hid (Halves w w7 w.heap.size a b c d w2.heap.size w3.heap.size m m1 X Y L ro rn rc' ko kn kc l) := S2.out.grow b2 (Nat.le_refl _)
      clear b2 S2 HLR k0 k1 k2 k3 f0 f1 f2 f3 f4 lb ln u0 u1 u2 u3 v0 v1 v2 v3 lu lv
      obtain ⟨k0, k1, k2, k3, f0, f1, f2, f3, f4, lb, ln⟩ := S3.out.bn.facts
      obtain ⟨⟨u0, u1, u2, u3⟩, ⟨v0, v1, v2, v3⟩, lu, lv⟩ := S3.out.facts
      go_wp2_with fail
      refine (HLW.out _ S3.out.nod).mono ?_
      rintro e w8 ⟨v, rfl, o8, b8⟩
      obtain ⟨o9, cap9, rfl, -⟩ := sl_of_own o8
      have HB8 : Hid (Below w.heap.size w w8) := S3.out.bel.trans (b8.mono S3.out.bel.size)
      clear o8 b8 S3 HLW k0 k1 k2 k3 f0 f1 f2 f3 f4 lb ln u0 u1 u2 u3 v0 v1 v2 v3 lu lv
      go_wp2_with fail
      go_ret
      exact ⟨rfl, HB8.out⟩
end Go.Proofs.Ytaiiclkfnahghaa.Rq
