/- Two stretches of rows change places. -/
import Derived.Test.YtaiiclkfnahghaaPBB
import Derived.Test.YtaiiclkfnahghaaPBC
namespace Go.Proofs.Ytaiiclkfnahghaa.Rq
open Go.RowKit Go.Lib Go.Shelf
open Go.Proofs.Ytaiiclkfnahghaa.Rc
set_option maxRecDepth 100000 in
set_option maxHeartbeats 2000000 in
theorem swapR_any (cf : Nat) (cb : Array Value) (g z cap a b n : Nat) (d : Array Rw) (hab : a + n ≤ b) (hb : b + n ≤ d.size) (hd : d.size ≤ 1000000) (w : World) (h : Ur w g z d) :
    Calls Try.prog 100 #[.slice (some ⟨g, 0, none⟩) d.size cap, .int .i64 (a : Int), .int .i64 (b : Int), .int .i64 (n : Int), .func (.func cf) #[] cb] w fun e w' => e = .returned (.tuple #[]) ∧ ∃ d', Ur w' g z d' ∧ SwR d d' a b n ∧ Sort.PermIn a (b + n) d d' ∧ Bg g w w' := by
  have HU : Hid (Ur w g z d) := h
  clear h
  obtain ⟨sz, hsz⟩ : ∃ sz, d.size = sz := ⟨_, rfl⟩
  rw [hsz] at hb hd ⊢
  go_enter Try.func100, Try.ntmps100
  go_wp2_with fail
  go_loopw [10] (fun iv wr => ∃ (i : Nat) (d1 : Array Rw), iv = .int .i64 (i : Int) ∧ i ≤ n ∧ Ur wr g z d1 ∧ SwR d d1 a b i ∧ Sort.PermIn a (b + n) d d1 ∧ Bg g w wr) (fun iv _ => n - natOf iv)
  case atStart => exact ⟨0, d, by go_num, by omega, HU.out, SwR.zero _ _ _, Sort.permIn_refl _ _ _, But.refl _ _⟩
  case round =>
    obtain ⟨i, d1, rfl, hin, hu, hsw, hpm, hbg⟩ := hrel
    by_cases hlt : i < n
    · have S1 : d1.size = sz := hsw.1.trans hsz
      have HU1 : Hid (Ur wr g z d1) := hu
      have HSW : Hid (SwR d (Sort.swp d1 (a + i) (b + i)) a b (i + 1)) := hsw.step (by omega) (by omega)
      have HPM : Hid (Sort.PermIn a (b + n) d (Sort.swp d1 (a + i) (b + i))) := Sort.permIn_trans _ _ _ _ _ hpm (Sort.swp_permIn _ _ _ _ _ (by omega) (by omega) (by omega) (by omega) (by omega))
      have HBG : Hid (Bg g w wr) := hbg
      clear hsw hpm hbg
      obtain ⟨p, hp⟩ : ∃ p, a + i = p := ⟨_, rfl⟩
      obtain ⟨q, hq⟩ : ∃ q, b + i = q := ⟨_, rfl⟩
      rw [hp, hq] at HSW HPM
      have HW := Ur.swp HU1.out p q (by omega) (by omega)
      obtain ⟨⟨x0, x1, x2, x3⟩, fz⟩ := hu.cell p (by omega)
      obtain ⟨⟨y0, y1, y2, y3⟩, -⟩ := hu.cell q (by omega)
      obtain ⟨rx, hx⟩ : ∃ rx, d1[p]! = rx := ⟨_, rfl⟩
      obtain ⟨ry, hy⟩ : ∃ ry, d1[q]! = ry := ⟨_, rfl⟩
      rw [hx] at x0 x1 x2 x3
      rw [hy] at y0 y1 y2 y3
      rw [hx, hy] at HW
      obtain ⟨xi, xx, xy, xv⟩ := rx
      obtain ⟨yi, yx, yy, yv⟩ := ry
      simp only [set4] at HW
      have HW1 : Hid _ := HW.1
      have HW2 : Hid _ := HW.2
      have lg : g < wr.heap.size := hu.lt
      simp only at x0 x1 x2 x3 y0 y1 y2 y3
      clear HW hx hy hu
      have q1 : (i : Int) < (n : Int) := by omega
      have q2 : (a : Int) + (i : Int) = (p : Int) := by omega
      have q3 : (b : Int) + (i : Int) = (q : Int) := by omega
      have q4 : (p : Int) < (sz : Int) := by omega
      have q5 : (q : Int) < (sz : Int) := by omega
      have q6 : IntKind.i64.wrap (p : Int) = (p : Int) := wrap_i64 (by omega) (by omega)
      have q7 : IntKind.i64.wrap (q : Int) = (q : Int) := wrap_i64 (by omega) (by omega)
      go_wp2_with fail
      go_region
      go_wp2_with fail
      go_roundw
      case rel =>
        exact ⟨i + 1, _, by go_num, by omega, ur_drew HW1.out, HSW.out, HPM.out, (HBG.out.trans HW2.out).trans (Bg.drew _)⟩
      case measure => simp [natOf]; omega
    · have q1 : ¬ (i : Int) < (n : Int) := by omega
      obtain rfl : i = n := by omega
      have HU1 : Hid (Ur wr g z d1) := hu
      have HSW : Hid (SwR d d1 a b i) := hsw
      have HPM : Hid (Sort.PermIn a (b + i) d d1) := hpm
      have HBG : Hid (Bg g w wr) := hbg
      clear hu hsw hpm hbg
      go_wp2_with fail
      refine bodyPost_end (results_none rfl _ _ _) rfl ?_
      exact ⟨rfl, d1, HU1.out, HSW.out, HPM.out, HBG.out⟩
end Go.Proofs.Ytaiiclkfnahghaa.Rq
