/- The reference: which queries may be. -/
import Derived.Test.YtimdlohdmddnjaaPOA
namespace Go.Proofs.Ytimdlohdmddnjaa.Rf
open Go.RowKit Go.Lib
open Go.Proofs.Ytimdlohdmddnjaa.Rc
set_option maxRecDepth 100000 in
set_option maxHeartbeats 4000000 in
theorem gCheck_any (q : Qr) (w : World) :
  Calls Try.prog 12 #[qv q] w fun e w' => e = .returned (.int .i64 (chk q)) ∧ Below w.heap.size w w' := by
 have hgn := heap_alloc_new w (qcs q)
 have HB : Hid (Below w.heap.size w (w.alloc (qcs q))) := below_new w (qcs q)
 have HBX : Hid _ := eRightBox_any q.a q.b q.c q.d
 have HG : Hid ((w.alloc (qcs q)).heap[w.heap.size]? = some (qcs q)) := hgn
 obtain ⟨r, hr⟩ : ∃ r, chk q = r := ⟨_, rfl⟩
 have HR : Hid (chk q = r) := hr
 rw [hr]
 clear hgn hr
 unfold chk at HR
 obtain ⟨bx, hbx⟩ : ∃ bx, boxS q.a q.b q.c q.d = bx := ⟨_, rfl⟩
 rw [hbx] at HR HBX
 clear hbx
 obtain ⟨k, a, b, c, d, x, y, sq, K, af, fr⟩ := q
 simp only at HR HBX
 obtain ⟨W1, hW1⟩ : ∃ W1, w.alloc (qcs ⟨k, a, b, c, d, x, y, sq, K, af, fr⟩) = W1 := ⟨_, rfl⟩
 rw [hW1] at HB HG
 have HW1 : Hid (w.alloc (.cells #[.int .i64 k, .int .u32 (a : Int), .int .u32 (b : Int), .int .u32 (c : Int), .int .u32 (d : Int), .int .u32 (x : Int), .int .u32 (y : Int), .int .u64 (sq : Int), .int .i64 K, .int .u64 (af : Int), .bool fr] 27) = W1) := hW1
 clear hW1
 simp only [qv]
 by_cases h1 : k < 1
 ·go_enter Try.func12, Try.ntmps12
  go_wp2_with fail
  rw [HW1.out]
  go_ret
  exact ⟨by rw [← HR.out]; simp [h1], HB.out⟩
 ·by_cases h4 : 4 < k
  ·go_enter Try.func12, Try.ntmps12
   go_wp2_with fail
   rw [HW1.out]
   go_ret
   exact ⟨by rw [← HR.out]; simp [h4], HB.out⟩
  ·by_cases h2 : 64 < K
   ·go_enter Try.func12, Try.ntmps12
    go_wp2_with fail
    rw [HW1.out]
    go_ret
    exact ⟨by rw [← HR.out]; simp [h1, h4, h2], HB.out⟩
   ·by_cases h3 : K < 0
    ·go_enter Try.func12, Try.ntmps12
     go_wp2_with fail
     rw [HW1.out]
     go_ret
     exact ⟨by rw [← HR.out]; simp [h1, h4, h3], HB.out⟩
    ·by_cases hK : K = 0
     ·subst hK
      by_cases hk3 : k = 3
      ·subst hk3
       go_enter Try.func12, Try.ntmps12
       go_wp2_with fail
       rw [HW1.out]
       refine (HBX.out W1).mono ?_
       rintro e w2 ⟨rfl, b2⟩
       have HB2 : Hid (Below w.heap.size w w2) := HB.out.trans (b2.mono HB.out.size)
       obtain ⟨c0, c1, c2, c3, c4, c5, c6, c7, c8, c9, c10⟩ := qc_of ((b2.block _ (Array.getElem?_eq_some_iff.1 HG.out).1).trans HG.out)
       simp only at c0 c1 c2 c3 c4 c5 c6 c7 c8 c9 c10
       clear b2
       obtain ⟨zx, hzx⟩ : ∃ z : Int, (x : Int) = z := ⟨_, rfl⟩
       obtain ⟨zy, hzy⟩ : ∃ z : Int, (y : Int) = z := ⟨_, rfl⟩
       have HXX : Hid (2147483648 ≤ x ↔ 2147483648 ≤ zx) := by refine (?_ : 2147483648 ≤ x ↔ 2147483648 ≤ zx); omega
       have HYY : Hid (2147483648 ≤ y ↔ 2147483648 ≤ zy) := by refine (?_ : 2147483648 ≤ y ↔ 2147483648 ≤ zy); omega
       have b0 : 0 ≤ zx := by omega
       have b1 : 0 ≤ zy := by omega
       rw [hzx] at c5 ⊢
       rw [hzy] at c6 ⊢
       clear hzx hzy
       by_cases q7 : 2147483648 ≤ zx
       ·go_wp2_with fail
        go_ret
        exact ⟨by rw [← HR.out]; simp [HXX.out.2 q7], HB2.out⟩
       ·by_cases q8 : 2147483648 ≤ zy
        ·go_wp2_with fail
         go_ret
         exact ⟨by rw [← HR.out]; simp [HYY.out.2 q8], HB2.out⟩
        ·have hx : ¬ 2147483648 ≤ x := fun h => q7 (HXX.out.1 h)
         have hy : ¬ 2147483648 ≤ y := fun h => q8 (HYY.out.1 h)
         have HXN : Hid (¬ 2147483648 ≤ x ∧ ¬ 2147483648 ≤ y) := ⟨hx, hy⟩
         clear hx hy
         go_wp2_with fail
         go_ret
         exact ⟨by rw [← HR.out]; simp [HXN.out.1, HXN.out.2], HB2.out⟩
      ·have q9 : (k == 3) = false := by simpa using hk3
       go_enter Try.func12, Try.ntmps12
       go_wp2_with fail
       rw [HW1.out]
       go_ret
       exact ⟨by rw [← HR.out]; simp [h1, h4, hk3], HB.out⟩
     ·have q10 : (K == 0) = false := by simpa using hK
      by_cases hk1 : k = 1
      ·subst hk1
       go_enter Try.func12, Try.ntmps12
       go_wp2_with fail
       rw [HW1.out]
       refine (HBX.out W1).mono ?_
       rintro e w2 ⟨rfl, b2⟩
       have HB2 : Hid (Below w.heap.size w w2) := HB.out.trans (b2.mono HB.out.size)
       obtain ⟨c0, c1, c2, c3, c4, c5, c6, c7, c8, c9, c10⟩ := qc_of ((b2.block _ (Array.getElem?_eq_some_iff.1 HG.out).1).trans HG.out)
       simp only at c0 c1 c2 c3 c4 c5 c6 c7 c8 c9 c10
       clear b2
       cases bx
       ·go_wp2_with fail
        go_ret
        exact ⟨by rw [← HR.out]; simp [h2, h3, hK], HB2.out⟩
       ·go_wp2_with fail
        go_ret
        exact ⟨by rw [← HR.out]; simp [h2, h3, hK], HB2.out⟩
      ·by_cases hk2 : k = 2
       ·subst hk2
        go_enter Try.func12, Try.ntmps12
        go_wp2_with fail
        rw [HW1.out]
        refine (HBX.out W1).mono ?_
        rintro e w2 ⟨rfl, b2⟩
        have HB2 : Hid (Below w.heap.size w w2) := HB.out.trans (b2.mono HB.out.size)
        obtain ⟨c0, c1, c2, c3, c4, c5, c6, c7, c8, c9, c10⟩ := qc_of ((b2.block _ (Array.getElem?_eq_some_iff.1 HG.out).1).trans HG.out)
        simp only at c0 c1 c2 c3 c4 c5 c6 c7 c8 c9 c10
        clear b2
        obtain ⟨zx, hzx⟩ : ∃ z : Int, (x : Int) = z := ⟨_, rfl⟩
        obtain ⟨zy, hzy⟩ : ∃ z : Int, (y : Int) = z := ⟨_, rfl⟩
        have HXX : Hid (2147483648 ≤ x ↔ 2147483648 ≤ zx) := by refine (?_ : 2147483648 ≤ x ↔ 2147483648 ≤ zx); omega
        have HYY : Hid (2147483648 ≤ y ↔ 2147483648 ≤ zy) := by refine (?_ : 2147483648 ≤ y ↔ 2147483648 ≤ zy); omega
        have b0 : 0 ≤ zx := by omega
        have b1 : 0 ≤ zy := by omega
        rw [hzx] at c5 ⊢
        rw [hzy] at c6 ⊢
        clear hzx hzy
        by_cases q7 : 2147483648 ≤ zx
        ·go_wp2_with fail
         go_ret
         exact ⟨by rw [← HR.out]; simp [HXX.out.2 q7, h2, h3, hK], HB2.out⟩
        ·by_cases q8 : 2147483648 ≤ zy
         ·go_wp2_with fail
          go_ret
          exact ⟨by rw [← HR.out]; simp [HYY.out.2 q8, h2, h3, hK], HB2.out⟩
         ·have hx : ¬ 2147483648 ≤ x := fun h => q7 (HXX.out.1 h)
          have hy : ¬ 2147483648 ≤ y := fun h => q8 (HYY.out.1 h)
          have HXN : Hid (¬ 2147483648 ≤ x ∧ ¬ 2147483648 ≤ y) := ⟨hx, hy⟩
          clear hx hy
          go_wp2_with fail
          go_ret
          exact ⟨by rw [← HR.out]; simp [HXN.out.1, HXN.out.2, h2, h3, hK], HB2.out⟩
       ·by_cases hk3 : k = 3
        ·subst hk3
         go_enter Try.func12, Try.ntmps12
         go_wp2_with fail
         rw [HW1.out]
         refine (HBX.out W1).mono ?_
         rintro e w2 ⟨rfl, b2⟩
         have HB2 : Hid (Below w.heap.size w w2) := HB.out.trans (b2.mono HB.out.size)
         obtain ⟨c0, c1, c2, c3, c4, c5, c6, c7, c8, c9, c10⟩ := qc_of ((b2.block _ (Array.getElem?_eq_some_iff.1 HG.out).1).trans HG.out)
         simp only at c0 c1 c2 c3 c4 c5 c6 c7 c8 c9 c10
         clear b2
         obtain ⟨zx, hzx⟩ : ∃ z : Int, (x : Int) = z := ⟨_, rfl⟩
         obtain ⟨zy, hzy⟩ : ∃ z : Int, (y : Int) = z := ⟨_, rfl⟩
         have HXX : Hid (2147483648 ≤ x ↔ 2147483648 ≤ zx) := by refine (?_ : 2147483648 ≤ x ↔ 2147483648 ≤ zx); omega
         have HYY : Hid (2147483648 ≤ y ↔ 2147483648 ≤ zy) := by refine (?_ : 2147483648 ≤ y ↔ 2147483648 ≤ zy); omega
         have b0 : 0 ≤ zx := by omega
         have b1 : 0 ≤ zy := by omega
         rw [hzx] at c5 ⊢
         rw [hzy] at c6 ⊢
         clear hzx hzy
         by_cases q7 : 2147483648 ≤ zx
         ·go_wp2_with fail
          go_ret
          exact ⟨by rw [← HR.out]; simp [HXX.out.2 q7, h2, h3, hK], HB2.out⟩
         ·by_cases q8 : 2147483648 ≤ zy
          ·go_wp2_with fail
           go_ret
           exact ⟨by rw [← HR.out]; simp [HYY.out.2 q8, h2, h3, hK], HB2.out⟩
          ·have hx : ¬ 2147483648 ≤ x := fun h => q7 (HXX.out.1 h)
           have hy : ¬ 2147483648 ≤ y := fun h => q8 (HYY.out.1 h)
           have HXN : Hid (¬ 2147483648 ≤ x ∧ ¬ 2147483648 ≤ y) := ⟨hx, hy⟩
           clear hx hy
           go_wp2_with fail
           go_ret
           exact ⟨by rw [← HR.out]; simp [HXN.out.1, HXN.out.2, h2, h3, hK], HB2.out⟩
        ·obtain rfl : k = 4 := by omega
         go_enter Try.func12, Try.ntmps12
         go_wp2_with fail
         rw [HW1.out]
         refine (HBX.out W1).mono ?_
         rintro e w2 ⟨rfl, b2⟩
         have HB2 : Hid (Below w.heap.size w w2) := HB.out.trans (b2.mono HB.out.size)
         obtain ⟨c0, c1, c2, c3, c4, c5, c6, c7, c8, c9, c10⟩ := qc_of ((b2.block _ (Array.getElem?_eq_some_iff.1 HG.out).1).trans HG.out)
         simp only at c0 c1 c2 c3 c4 c5 c6 c7 c8 c9 c10
         clear b2
         go_wp2_with fail
         go_ret
         exact ⟨by rw [← HR.out]; simp [h2, h3, hK], HB2.out⟩
end Go.Proofs.Ytimdlohdmddnjaa.Rf
