/- Two stretches of pieces change places; a stretch is turned about. -/
import Derived.Test.YtaiiclkfnahghaaPBP
namespace Go.Proofs.Ytaiiclkfnahghaa.Rq.Pz
open Go.RowKit Go.Lib Go.Shelf
open Go.Proofs.Ytaiiclkfnahghaa.Rc Go.Proofs.Ytaiiclkfnahghaa.Rq
set_option maxRecDepth 100000 in
set_option maxHeartbeats 2000000 in
theorem swapR_any (cf : Nat) (cb : Array Value) (g z cap a b n : Nat) (d : Array Pc) (hab : a + n ≤ b) (hb : b + n ≤ d.size) (hd : d.size ≤ 1000000) (w : World) (h : Ur w g z d) :
    Calls Try.prog 101 #[.slice (some ⟨g, 0, none⟩) d.size cap, .int .i64 (a : Int), .int .i64 (b : Int), .int .i64 (n : Int), .func (.func cf) #[] cb] w fun e w' => e = .returned (.tuple #[]) ∧ ∃ d', Ur w' g z d' ∧ SwR d d' a b n ∧ Sort.PermIn a (b + n) d d' ∧ Bg g w w' := by
  have HU : Hid (Ur w g z d) := h
  clear h
  obtain ⟨sz, hsz⟩ : ∃ sz, d.size = sz := ⟨_, rfl⟩
  rw [hsz] at hb hd ⊢
  go_enter Try.func101, Try.ntmps101
  go_wp2_with fail
  go_loopw [10] (fun iv wr => ∃ (i : Nat) (d1 : Array Pc), iv = .int .i64 (i : Int) ∧ i ≤ n ∧ Ur wr g z d1 ∧ SwR d d1 a b i ∧ Sort.PermIn a (b + n) d d1 ∧ Bg g w wr) (fun iv _ => n - natOf iv)
  case atStart => exact ⟨0, d, by go_num, by omega, HU.out, SwR.zero _ _ _, Sort.permIn_refl _ _ _, But.refl _ _⟩
  case round =>
    obtain ⟨i, d1, rfl, hin, hu, hsw, hpm, hbg⟩ := hrel
    by_cases hlt : i < n
    · have S1 : d1.size = sz := hsw.1.trans hsz
      have HU1 : Hid (Ur wr g z d1) := hu
      have HSW : Hid (SwR d (Sort.swp d1 (a + i) (b + i)) a b (i + 1)) := hsw.step (by omega) (by omega)
      have HPM : Hid (Sort.PermIn a (b + n) d (Sort.swp d1 (a + i) (b + i))) := Sort.permIn_trans _ _ _ _ _ hpm (Sort.swp_permIn _ _ _ _ _ (by omega) (by omega) (by omega) (by omega) (by omega))
      have HBG : Hid (Bg g w wr) := hbg
      clear hsw hpm hbg
      obtain ⟨p, hp⟩ : ∃ p, a + i = p := ⟨_, rfl⟩
      obtain ⟨q, hq⟩ : ∃ q, b + i = q := ⟨_, rfl⟩
      rw [hp, hq] at HSW HPM
      have HW := Ur.swp HU1.out p q (by omega) (by omega)
      obtain ⟨⟨x0, x1⟩, fz⟩ := hu.cell p (by omega)
      obtain ⟨⟨y0, y1⟩, -⟩ := hu.cell q (by omega)
      obtain ⟨rx, hx⟩ : ∃ rx, d1[p]! = rx := ⟨_, rfl⟩
      obtain ⟨ry, hy⟩ : ∃ ry, d1[q]! = ry := ⟨_, rfl⟩
      rw [hx] at x0 x1
      rw [hy] at y0 y1
      rw [hx, hy] at HW
      obtain ⟨xi, xo, xn, xc⟩ := rx
      obtain ⟨yi, yo, yn, yc⟩ := ry
      simp only [set2] at HW
      have HW1 : Hid _ := HW.1
      have HW2 : Hid _ := HW.2
      have lg : g < wr.heap.size := hu.lt
      simp only at x0 x1 y0 y1
      clear HW hx hy hu
      have q1 : (i : Int) < (n : Int) := by omega
      have q2 : (a : Int) + (i : Int) = (p : Int) := by omega
      have q3 : (b : Int) + (i : Int) = (q : Int) := by omega
      have q4 : (p : Int) < (sz : Int) := by omega
      have q5 : (q : Int) < (sz : Int) := by omega
      have q6 : IntKind.i64.wrap (p : Int) = (p : Int) := wrap_i64 (by omega) (by omega)
      have q7 : IntKind.i64.wrap (q : Int) = (q : Int) := wrap_i64 (by omega) (by omega)
      go_wp2_with fail
      go_region
      go_wp2_with fail
      go_roundw
      case rel =>
        exact ⟨i + 1, _, by go_num, by omega, ur_drew HW1.out, HSW.out, HPM.out, (HBG.out.trans HW2.out).trans (Bg.drew _)⟩
      case measure => simp [natOf]; omega
    · have q1 : ¬ (i : Int) < (n : Int) := by omega
      obtain rfl : i = n := by omega
      have HU1 : Hid (Ur wr g z d1) := hu
      have HSW : Hid (SwR d d1 a b i) := hsw
      have HPM : Hid (Sort.PermIn a (b + i) d d1) := hpm
      have HBG : Hid (Bg g w wr) := hbg
      clear hu hsw hpm hbg
      go_wp2_with fail
      refine bodyPost_end (results_none rfl _ _ _) rfl ?_
      exact ⟨rfl, d1, HU1.out, HSW.out, HPM.out, HBG.out⟩
set_option maxRecDepth 100000 in
set_option maxHeartbeats 2000000 in
theorem rotateR_any (cf : Nat) (cb : Array Value) (g z cap a m b : Nat) (d : Array Pc) (ham : a < m) (hmb : m < b) (hb : b ≤ d.size) (hd : d.size ≤ 1000000) (w : World) (h : Ur w g z d) :
    Calls Try.prog 99 #[.slice (some ⟨g, 0, none⟩) d.size cap, .int .i64 (a : Int), .int .i64 (m : Int), .int .i64 (b : Int), .func (.func cf) #[] cb] w fun e w' => e = .returned (.tuple #[]) ∧ ∃ d', Ur w' g z d' ∧ Rot d d' a m b ∧ Sort.PermIn a b d d' ∧ Bg g w w' := by
  have HU : Hid (Ur w g z d) := h
  have HC : Hid _ := swapR_any cf cb g z cap
  clear h
  obtain ⟨sz, hsz⟩ : ∃ sz, d.size = sz := ⟨_, rfl⟩
  rw [hsz] at hb hd ⊢
  have q1 : IntKind.i64.wrap ((m : Int) - (a : Int)) = ((m - a : Nat) : Int) := by rw [wrap_i64 (by omega) (by omega)]; omega
  have q2 : IntKind.i64.wrap ((b : Int) - (m : Int)) = ((b - m : Nat) : Int) := by rw [wrap_i64 (by omega) (by omega)]; omega
  go_enter Try.func99, Try.ntmps99
  go_wp2_with fail
  go_loopw [10, 11] (fun iv jv wr => ∃ (i j : Nat) (d1 : Array Pc), iv = .int .i64 (i : Int) ∧ jv = .int .i64 (j : Int) ∧ (0 < i ∧ i ≤ m - a ∧ 0 < j ∧ j ≤ b - m) ∧ Ur wr g z d1 ∧ (∀ d', Rot d1 d' (m - i) m (m + j) → Rot d d' a m b) ∧ Sort.PermIn a b d d1 ∧ Bg g w wr) (fun iv jv _ => natOf iv + natOf jv)
  case atStart =>
    refine ⟨m - a, b - m, d, by go_num, by go_num, by omega, HU.out, fun d' hr => ?_, Sort.permIn_refl _ _ _, But.refl _ _⟩
    rwa [show m - (m - a) = a by omega, show m + (b - m) = b by omega] at hr
  case round =>
    obtain ⟨i, j, d1, rfl, rfl, ⟨i0, i1, j0, j1⟩, hu, hrt, hpm, hbg⟩ := hrel
    have S1 : d1.size = sz := hpm.1.trans hsz
    have HU1 : Hid (Ur wr g z d1) := hu
    have HRT : Hid (∀ d', Rot d1 d' (m - i) m (m + j) → Rot d d' a m b) := hrt
    have HPM : Hid (Sort.PermIn a b d d1) := hpm
    have HBG : Hid (Bg g w wr) := hbg
    clear hu hrt hpm hbg q1 q2
    obtain ⟨p, hp⟩ : ∃ p, m - i = p := ⟨_, rfl⟩
    have q2 : IntKind.i64.wrap ((m : Int) - (i : Int)) = (p : Int) := by rw [wrap_i64 (by omega) (by omega)]; omega
    by_cases hij : i = j
    · subst hij
      have HC1 : Hid (∀ _ : True, _) := fun _ => HC.out p m i d1 (by omega) (by omega) (by omega) wr HU1.out
      rw [S1] at HC1
      clear HC
      go_wp2_with fail
      refine (HC1.out trivial).mono ?_
      rintro e w1 ⟨rfl, d2, u2, s2, p2, b2⟩
      have HE : Hid (Ur w1 g z d2 ∧ Rot d d2 a m b ∧ Sort.PermIn a b d d2 ∧ Bg g w w1) := ⟨u2, HRT.out d2 (by rw [hp]; rw [← hp] at s2 ⊢; exact rot_even (by omega) s2), Sort.permIn_trans _ _ _ _ _ HPM.out (Sort.permIn_mono _ _ _ _ _ _ (by omega) (by omega) (by omega) p2), HBG.out.trans b2⟩
      clear u2 s2 p2 b2 HC1
      go_wp2_with fail
      refine bodyPost_end (results_none rfl _ _ _) rfl ?_
      exact ⟨rfl, d2, HE.out⟩
    · have q3 : ¬ (i : Int) = (j : Int) := by omega
      by_cases hgt : j < i
      · have q4 : (j : Int) < (i : Int) := by omega
        have q5 : IntKind.i64.wrap ((i : Int) - (j : Int)) = ((i - j : Nat) : Int) := by rw [wrap_i64 (by omega) (by omega)]; omega
        have HC1 : Hid (∀ _ : True, _) := fun _ => HC.out p m j d1 (by omega) (by omega) (by omega) wr HU1.out
        rw [S1] at HC1
        clear HC
        go_wp2_with fail
        refine (HC1.out trivial).mono ?_
        rintro e w1 ⟨rfl, d2, u2, s2, p2, b2⟩
        have HE : Hid (Ur w1 g z d2 ∧ (∀ d', Rot d2 d' (m - (i - j)) m (m + j) → Rot d d' a m b) ∧ Sort.PermIn a b d d2 ∧ Bg g w w1) := ⟨u2, fun d' hr => HRT.out d' (rot_more hgt (by omega) (by omega) (by rw [hp]; exact s2) hr), Sort.permIn_trans _ _ _ _ _ HPM.out (Sort.permIn_mono _ _ _ _ _ _ (by omega) (by omega) (by omega) p2), HBG.out.trans b2⟩
        clear u2 s2 p2 b2 HC1
        go_wp2_with fail
        go_roundw
        case rel => exact ⟨i - j, j, d2, by go_num, rfl, by omega, HE.out⟩
        case measure => simp [natOf]; omega
      · have q4 : ¬ (j : Int) < (i : Int) := by omega
        have q5 : IntKind.i64.wrap ((j : Int) - (i : Int)) = ((j - i : Nat) : Int) := by rw [wrap_i64 (by omega) (by omega)]; omega
        obtain ⟨q, hq⟩ : ∃ q, m + j - i = q := ⟨_, rfl⟩
        obtain ⟨M, hM⟩ : ∃ M, m + j = M := ⟨_, rfl⟩
        have q6 : IntKind.i64.wrap ((m : Int) + (j : Int)) = (M : Int) := by rw [wrap_i64 (by omega) (by omega)]; omega
        have q7 : IntKind.i64.wrap ((M : Int) - (i : Int)) = (q : Int) := by rw [wrap_i64 (by omega) (by omega)]; omega
        have HC1 : Hid (∀ _ : True, _) := fun _ => HC.out p q i d1 (by omega) (by omega) (by omega) wr HU1.out
        rw [S1] at HC1
        clear HC
        go_wp2_with fail
        refine (HC1.out trivial).mono ?_
        rintro e w1 ⟨rfl, d2, u2, s2, p2, b2⟩
        have HE : Hid (Ur w1 g z d2 ∧ (∀ d', Rot d2 d' (m - i) m (m + (j - i)) → Rot d d' a m b) ∧ Sort.PermIn a b d d2 ∧ Bg g w w1) := ⟨u2, fun d' hr => HRT.out d' (rot_less (by omega) (by omega) (by omega) (by rw [hp, hq]; exact s2) hr), Sort.permIn_trans _ _ _ _ _ HPM.out (Sort.permIn_mono _ _ _ _ _ _ (by omega) (by omega) (by omega) p2), HBG.out.trans b2⟩
        clear u2 s2 p2 b2 HC1
        go_wp2_with fail
        go_roundw
        case rel => exact ⟨i, j - i, d2, rfl, by go_num, by omega, HE.out⟩
        case measure => simp [natOf]; omega
end Go.Proofs.Ytaiiclkfnahghaa.Rq.Pz
