/- What the tests leave out; the rows of a tree as one promise. -/
import Derived.Test.YtaiiclkfnahghaaPJH
namespace Go.Proofs.Ytaiiclkfnahghaa.Rq
open Go.RowKit Go.Lib Go.Shelf
open Go.Proofs.Ytaiiclkfnahghaa.Rc
theorem box_all (a b c d : Nat) (m : List Rw) (_ : m ≠ []) (ho : On m) (h : touchS (cx m) (cy m) (lev m : Int) a b c d = false) : (m.filter fun r => inS a b c d r.x r.y) = [] := by
  refine List.filter_eq_nil_iff.2 fun r hr e => ?_
  have := touch_of e (lev_has ho hr)
  rw [h] at this
  simp at this
theorem dist_two (a b x y : Nat) : Rq.dist a b x y = Rc.dist x a * Rc.dist x a + Rc.dist y b * Rc.dist y b := by
  have h : ∀ u z : Nat, ((u : Int) - (z : Int)).natAbs = Rc.dist z u := fun u z => by unfold Rc.dist; omega
  unfold Rq.dist
  rw [h, h]
theorem round_all (x y s : Nat) (hxy : onS x y = true) (m : List Rw) (_ : m ≠ []) (ho : On m) (h : decide ((fars (cx m) (cy m) (lev m : Int) x y).2 = 0 ∧ (fars (cx m) (cy m) (lev m : Int) x y).1 ≤ s) = false) : (m.filter fun r => decide (Rq.dist r.x r.y x y ≤ s)) = [] := by
  refine List.filter_eq_nil_iff.2 fun r hr e => ?_
  have hh := lev_has ho hr
  have hc := hasS_right hh
  have c := (rightS_nat _ _ _).1 hc
  have hf : fars (cx m) (cy m) (lev m : Int) x y = (farS (cx m) (cy m) (lev m) x y, 0) := by unfold fars; rw [if_pos ⟨hc, hxy⟩, Int.toNat_natCast]
  have h1 := far_le x y c hh
  rw [← dist_two] at h1
  rw [hf] at h
  have h2 := of_decide_eq_true e
  simp at h
  omega
theorem rows_iter (w : World) (p : Nat → Nat → Nat → Bool) (ef : Nat) (eb : Array Value) (kp : Rw → Bool) (kf : Nat) (kb : Array Value) (d : Nat) (n : Nv) (l : List Rw) (hN : NodeAt (fun _ => True) d w n l) (hon : On l) (hmax : l.length ≤ 1000) (w' : World)
    (hw' : w' = ((w.alloc (.cells #[.int .u32 (n.X : Int), .int .u32 (n.Y : Int), .int .i64 (n.L : Int), .slice n.ro n.rn n.rc, .slice n.ko n.kn n.kc] 33)).alloc (.cells #[.func (.func ef) #[] eb] 70)).alloc (.cells #[.func (.func kf) #[] kb] 37)) (hE : Ent w' p ef eb) (hK : Kep w' kp kf kb) :
    Below w.heap.size w w' ∧ RowsIter w' (seqs kp (vis p d l)) 75 #[.pointer (some ⟨w.heap.size + 1, 0, none⟩), .pointer (some ⟨w.heap.size, 0, none⟩), .pointer (some ⟨w.heap.size + 2, 0, none⟩)] := by
  have hb1 := below_new w (.cells #[.int .u32 (n.X : Int), .int .u32 (n.Y : Int), .int .i64 (n.L : Int), .slice n.ro n.rn n.rc, .slice n.ko n.kn n.kc] 33)
  have hg1 := heap_alloc_new w (.cells #[.int .u32 (n.X : Int), .int .u32 (n.Y : Int), .int .i64 (n.L : Int), .slice n.ro n.rn n.rc, .slice n.ko n.kn n.kc] 33)
  have hs1 : (w.alloc (.cells #[.int .u32 (n.X : Int), .int .u32 (n.Y : Int), .int .i64 (n.L : Int), .slice n.ro n.rn n.rc, .slice n.ko n.kn n.kc] 33)).heap.size = w.heap.size + 1 := by simp
  obtain ⟨y1, y2, y3⟩ := two_new (w.alloc (.cells #[.int .u32 (n.X : Int), .int .u32 (n.Y : Int), .int .i64 (n.L : Int), .slice n.ro n.rn n.rc, .slice n.ko n.kn n.kc] 33)) (.cells #[.func (.func ef) #[] eb] 70) (.cells #[.func (.func kf) #[] kb] 37)
  rw [← hw'] at y1 y2 y3
  rw [hs1] at y1 y2 y3
  have hB : Below w.heap.size w w' := hb1.trans (y3.mono (by omega))
  refine ⟨hB, fun W1 hW1 li R Rx own hown hR hRx hY h0 => ?_⟩
  have := rows1_any w' p ef eb hE kp kf kb hK d n l (hN.below hB (Nat.le_refl _)) hon hmax (w.heap.size + 1) w.heap.size (w.heap.size + 2) y1 y2 ((y3.block _ (by omega)).trans hg1) (fun m hm => vis_on p d l 1000 hon hmax m (by rw [visL_one] at hm; exact hm)) W1 hW1 li R Rx own hown hR hRx (by rw [visL_one]; exact hY) h0
  rw [visL_one] at this
  exact this
end Go.Proofs.Ytaiiclkfnahghaa.Rq
