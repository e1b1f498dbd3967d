/- Two stretches of rows change places. -/
import Derived.Test.YtimdlohdmddnjaaQBA
import Derived.Test.YtimdlohdmddnjaaPBC
namespace Go.Proofs.Ytimdlohdmddnjaa.Rq
open Go.RowKit Go.Lib Go.Shelf
open Go.Proofs.Ytimdlohdmddnjaa.Rc
set_option maxRecDepth 100000 in
set_option maxHeartbeats 2000000 in
theorem swapR_any (cf : Nat) (cb : Array Value) (g z cap a b n : Nat) (d : Array Rw) (hab : a + n ≤ b) (hb : b + n ≤ d.size) (hd : d.size ≤ 1000000) (w : World) (h : Ur w g z d) :
  Calls Try.prog 103 #[.slice (some ⟨g, 0, none⟩) d.size cap, .int .i64 (a : Int), .int .i64 (b : Int), .int .i64 (n : Int), .func (.func cf) #[] cb] w fun e w' => e = .returned (.tuple #[]) ∧ ∃ d', Ur w' g z d' ∧ SwR d d' a b n ∧ Sort.PermIn a (b + n) d d' ∧ Bg g w w' := by
 have HU : Hid (Ur w g z d) := h
 clear h
 obtain ⟨sz, hsz⟩ : ∃ sz, d.size = sz := ⟨_, rfl⟩
 rw [hsz] at hb hd ⊢
 go_enter Try.func103, Try.ntmps103
 go_wp2_with fail
 go_loopw [10] (fun iv wr => ∃ (i : Nat) (d1 : Array Rw), iv = .int .i64 (i : Int) ∧ i ≤ n ∧ Ur wr g z d1 ∧ SwR d d1 a b i ∧ Sort.PermIn a (b + n) d d1 ∧ Bg g w wr) (fun iv _ => n - natOf iv)
 case atStart => exact ⟨0, d, by go_num, by omega, HU.out, SwR.zero _ _ _, Sort.permIn_refl _ _ _, But.refl _ _⟩
 case round =>
  obtain ⟨i, d1, rfl, hin, hu, hsw, hpm, hbg⟩ := hrel
  by_cases hlt : i < n
  ·have S1 : d1.size = sz := hsw.1.trans hsz
   have HU1 : Hid (Ur wr g z d1) := hu
   have HSW : Hid (SwR d (Sort.swp d1 (a + i) (b + i)) a b (i + 1)) := hsw.step (by omega) (by omega)
   have HPM : Hid (Sort.PermIn a (b + n) d (Sort.swp d1 (a + i) (b + i))) := Sort.permIn_trans _ _ _ _ _ hpm (Sort.swp_permIn _ _ _ _ _ (by omega) (by omega) (by omega) (by omega) (by omega))
   have HBG : Hid (Bg g w wr) := hbg
   clear hsw hpm hbg
   obtain ⟨p, hp⟩ : ∃ p, a + i = p := ⟨_, rfl⟩
   obtain ⟨q, hq⟩ : ∃ q, b + i = q := ⟨_, rfl⟩
   rw [hp, hq] at HSW HPM
   have HW := Ur.swp HU1.out p q (by omega) (by omega)
   obtain ⟨⟨x0, x1, x2, x3⟩, fz⟩ := hu.cell p (by omega)
   obtain ⟨⟨y0, y1, y2, y3⟩, -⟩ := hu.cell q (by omega)
   obtain ⟨rx, hx⟩ : ∃ rx, d1[p]! = rx := ⟨_, rfl⟩
   obtain ⟨ry, hy⟩ : ∃ ry, d1[q]! = ry := ⟨_, rfl⟩
   rw [hx] at x0 x1 x2 x3
   rw [hy] at y0 y1 y2 y3
   rw [hx, hy] at HW
   obtain ⟨xi, xx, xy, xv⟩ := rx
   obtain ⟨yi, yx, yy, yv⟩ := ry
   simp only [set4] at HW
   have HW1 : Hid _ := HW.1
   have HW2 : Hid _ := HW.2
   have lg : g < wr.heap.size := hu.lt
   simp only at x0 x1 x2 x3 y0 y1 y2 y3
   clear HW hx hy hu
   have q1 : (i : Int) < (n : Int) := by omega
   have q2 : (a : Int) + (i : Int) = (p : Int) := by omega
   have q3 : (b : Int) + (i : Int) = (q : Int) := by omega
   have q4 : (p : Int) < (sz : Int) := by omega
   have q5 : (q : Int) < (sz : Int) := by omega
   have q6 : IntKind.i64.wrap (p : Int) = (p : Int) := wrap_i64 (by omega) (by omega)
   have q7 : IntKind.i64.wrap (q : Int) = (q : Int) := wrap_i64 (by omega) (by omega)
   go_wp2_with fail
   go_region
   go_wp2_with fail
   go_roundw
   case rel =>
    exact ⟨i + 1, _, by go_num, by omega, ur_drew HW1.out, HSW.out, HPM.out, (HBG.out.trans HW2.out).trans (Bg.drew _)⟩
   case measure => simp [natOf]; omega
  ·have q1 : ¬ (i : Int) < (n : Int) := by omega
   obtain rfl : i = n := by omega
   have HU1 : Hid (Ur wr g z d1) := hu
   have HSW : Hid (SwR d d1 a b i) := hsw
   have HPM : Hid (Sort.PermIn a (b + i) d d1) := hpm
   have HBG : Hid (Bg g w wr) := hbg
   clear hu hsw hpm hbg
   go_wp2_with fail
   refine bodyPost_end (results_none rfl _ _ _) rfl ?_
   exact ⟨rfl, d1, HU1.out, HSW.out, HPM.out, HBG.out⟩
set_option maxRecDepth 100000 in
set_option maxHeartbeats 2000000 in
theorem rotateR_any (cf : Nat) (cb : Array Value) (g z cap a m b : Nat) (d : Array Rw) (ham : a < m) (hmb : m < b) (hb : b ≤ d.size) (hd : d.size ≤ 1000000) (w : World) (h : Ur w g z d) :
  Calls Try.prog 99 #[.slice (some ⟨g, 0, none⟩) d.size cap, .int .i64 (a : Int), .int .i64 (m : Int), .int .i64 (b : Int), .func (.func cf) #[] cb] w fun e w' => e = .returned (.tuple #[]) ∧ ∃ d', Ur w' g z d' ∧ Rot d d' a m b ∧ Sort.PermIn a b d d' ∧ Bg g w w' := by
 have HU : Hid (Ur w g z d) := h
 have HC : Hid _ := swapR_any cf cb g z cap
 clear h
 obtain ⟨sz, hsz⟩ : ∃ sz, d.size = sz := ⟨_, rfl⟩
 rw [hsz] at hb hd ⊢
 have q1 : IntKind.i64.wrap ((m : Int) - (a : Int)) = ((m - a : Nat) : Int) := by rw [wrap_i64 (by omega) (by omega)]; omega
 have q2 : IntKind.i64.wrap ((b : Int) - (m : Int)) = ((b - m : Nat) : Int) := by rw [wrap_i64 (by omega) (by omega)]; omega
 go_enter Try.func99, Try.ntmps99
 go_wp2_with fail
 go_loopw [10, 11] (fun iv jv wr => ∃ (i j : Nat) (d1 : Array Rw), iv = .int .i64 (i : Int) ∧ jv = .int .i64 (j : Int) ∧ (0 < i ∧ i ≤ m - a ∧ 0 < j ∧ j ≤ b - m) ∧ Ur wr g z d1 ∧ (∀ d', Rot d1 d' (m - i) m (m + j) → Rot d d' a m b) ∧ Sort.PermIn a b d d1 ∧ Bg g w wr) (fun iv jv _ => natOf iv + natOf jv)
 case atStart =>
  refine ⟨m - a, b - m, d, by go_num, by go_num, by omega, HU.out, fun d' hr => ?_, Sort.permIn_refl _ _ _, But.refl _ _⟩
  rwa [show m - (m - a) = a by omega, show m + (b - m) = b by omega] at hr
 case round =>
  obtain ⟨i, j, d1, rfl, rfl, ⟨i0, i1, j0, j1⟩, hu, hrt, hpm, hbg⟩ := hrel
  have S1 : d1.size = sz := hpm.1.trans hsz
  have HU1 : Hid (Ur wr g z d1) := hu
  have HRT : Hid (∀ d', Rot d1 d' (m - i) m (m + j) → Rot d d' a m b) := hrt
  have HPM : Hid (Sort.PermIn a b d d1) := hpm
  have HBG : Hid (Bg g w wr) := hbg
  clear hu hrt hpm hbg q1 q2
  obtain ⟨p, hp⟩ : ∃ p, m - i = p := ⟨_, rfl⟩
  have q2 : IntKind.i64.wrap ((m : Int) - (i : Int)) = (p : Int) := by rw [wrap_i64 (by omega) (by omega)]; omega
  by_cases hij : i = j
  ·subst hij
   have HC1 : Hid (∀ _ : True, _) := fun _ => HC.out p m i d1 (by omega) (by omega) (by omega) wr HU1.out
   rw [S1] at HC1
   clear HC
   go_wp2_with fail
   refine (HC1.out trivial).mono ?_
   rintro e w1 ⟨rfl, d2, u2, s2, p2, b2⟩
   have HE : Hid (Ur w1 g z d2 ∧ Rot d d2 a m b ∧ Sort.PermIn a b d d2 ∧ Bg g w w1) := ⟨u2, HRT.out d2 (by rw [hp]; rw [← hp] at s2 ⊢; exact rot_even (by omega) s2), Sort.permIn_trans _ _ _ _ _ HPM.out (Sort.permIn_mono _ _ _ _ _ _ (by omega) (by omega) (by omega) p2), HBG.out.trans b2⟩
   clear u2 s2 p2 b2 HC1
   go_wp2_with fail
   refine bodyPost_end (results_none rfl _ _ _) rfl ?_
   exact ⟨rfl, d2, HE.out⟩
  ·have q3 : ¬ (i : Int) = (j : Int) := by omega
   by_cases hgt : j < i
   ·have q4 : (j : Int) < (i : Int) := by omega
    have q5 : IntKind.i64.wrap ((i : Int) - (j : Int)) = ((i - j : Nat) : Int) := by rw [wrap_i64 (by omega) (by omega)]; omega
    have HC1 : Hid (∀ _ : True, _) := fun _ => HC.out p m j d1 (by omega) (by omega) (by omega) wr HU1.out
    rw [S1] at HC1
    clear HC
    go_wp2_with fail
    refine (HC1.out trivial).mono ?_
    rintro e w1 ⟨rfl, d2, u2, s2, p2, b2⟩
    have HE : Hid (Ur w1 g z d2 ∧ (∀ d', Rot d2 d' (m - (i - j)) m (m + j) → Rot d d' a m b) ∧ Sort.PermIn a b d d2 ∧ Bg g w w1) := ⟨u2, fun d' hr => HRT.out d' (rot_more hgt (by omega) (by omega) (by rw [hp]; exact s2) hr), Sort.permIn_trans _ _ _ _ _ HPM.out (Sort.permIn_mono _ _ _ _ _ _ (by omega) (by omega) (by omega) p2), HBG.out.trans b2⟩
    clear u2 s2 p2 b2 HC1
    go_wp2_with fail
    go_roundw
    case rel => exact ⟨i - j, j, d2, by go_num, rfl, by omega, HE.out⟩
    case measure => simp [natOf]; omega
   ·have q4 : ¬ (j : Int) < (i : Int) := by omega
    have q5 : IntKind.i64.wrap ((j : Int) - (i : Int)) = ((j - i : Nat) : Int) := by rw [wrap_i64 (by omega) (by omega)]; omega
    obtain ⟨q, hq⟩ : ∃ q, m + j - i = q := ⟨_, rfl⟩
    obtain ⟨M, hM⟩ : ∃ M, m + j = M := ⟨_, rfl⟩
    have q6 : IntKind.i64.wrap ((m : Int) + (j : Int)) = (M : Int) := by rw [wrap_i64 (by omega) (by omega)]; omega
    have q7 : IntKind.i64.wrap ((M : Int) - (i : Int)) = (q : Int) := by rw [wrap_i64 (by omega) (by omega)]; omega
    have HC1 : Hid (∀ _ : True, _) := fun _ => HC.out p q i d1 (by omega) (by omega) (by omega) wr HU1.out
    rw [S1] at HC1
    clear HC
    go_wp2_with fail
    refine (HC1.out trivial).mono ?_
    rintro e w1 ⟨rfl, d2, u2, s2, p2, b2⟩
    have HE : Hid (Ur w1 g z d2 ∧ (∀ d', Rot d2 d' (m - i) m (m + (j - i)) → Rot d d' a m b) ∧ Sort.PermIn a b d d2 ∧ Bg g w w1) := ⟨u2, fun d' hr => HRT.out d' (rot_less (by omega) (by omega) (by omega) (by rw [hp, hq]; exact s2) hr), Sort.permIn_trans _ _ _ _ _ HPM.out (Sort.permIn_mono _ _ _ _ _ _ (by omega) (by omega) (by omega) p2), HBG.out.trans b2⟩
    clear u2 s2 p2 b2 HC1
    go_wp2_with fail
    go_roundw
    case rel => exact ⟨i, j - i, d2, rfl, by go_num, by omega, HE.out⟩
    case measure => simp [natOf]; omega
set_option maxRecDepth 100000 in
theorem below_bg {w0 w w' : World} {g : Nat} (hg : w0.heap.size ≤ g) (h : Below w0.heap.size w0 w) (b : Bg g w w') : Below w0.heap.size w0 w' :=
 h.trans ⟨b.os, b.tape, b.output, b.size, fun k hk => b.block k (Nat.lt_of_lt_of_le hk h.size) (fun e => by omega)⟩
def TwoQ (g i j : Nat) (r s : Rw) (w : World) : Prop := (w.cell? ⟨g, i * 4, none⟩ = some (.int .u64 (r.id : Int)) ∧ w.cell? ⟨g, i * 4 + 1, none⟩ = some (.int .u32 (r.x : Int)) ∧ w.cell? ⟨g, i * 4 + 2, none⟩ = some (.int .u32 (r.y : Int)) ∧ w.cell? ⟨g, i * 4 + 3, none⟩ = some (.string r.v)) ∧
 (w.cell? ⟨g, j * 4, none⟩ = some (.int .u64 (s.id : Int)) ∧ w.cell? ⟨g, j * 4 + 1, none⟩ = some (.int .u32 (s.x : Int)) ∧ w.cell? ⟨g, j * 4 + 2, none⟩ = some (.int .u32 (s.y : Int)) ∧ w.cell? ⟨g, j * 4 + 3, none⟩ = some (.string s.v))
set_option maxRecDepth 100000 in
theorem Ur.twoq {w : World} {g z : Nat} {d : Array Rw} (h : Ur w g z d) {i j : Nat} (hi : i < d.size) (hj : j < d.size) {r s : Rw} (er : d[i]! = r) (es : d[j]! = s) : TwoQ g i j r s w := by
 obtain ⟨x, -⟩ := h.cell i hi
 obtain ⟨y, -⟩ := h.cell j hj
 rw [er] at x
 rw [es] at y
 exact ⟨x, y⟩
abbrev ltK (K : Rw → Nat) : Rw → Rw → Bool := fun x y => decide (K x < K y)
set_option maxRecDepth 100000 in
theorem cmp_two {w0 wr : World} {ok : Rw → Prop} {K : Rw → Nat} {cf g z : Nat} {cb : Array Value} (hC : Cmp w0 ok (ltK K) cf cb) {d : Array Rw} (hu : Ur wr g z d) (hok : ∀ i, i < d.size → ok d[i]!) (hw : Below w0.heap.size w0 wr) {i j : Nat} (hi : i < d.size) (hj : j < d.size) {r s : Rw} (er : d[i]! = r) (es : d[j]! = s) :
  Calls Try.prog cf (#[rv r, rv s] ++ cb) wr.drew fun e W' => ∃ c : Int, e = .returned (.int .i64 c) ∧ (c < 0 ↔ K r < K s) ∧ Bg g wr W' ∧ Ur W' g z d ∧ TwoQ g i j r s W' := by
 refine (hC.calls wr.drew (hw.trans ⟨rfl, rfl, rfl, Nat.le_refl _, fun _ _ => rfl⟩) r s (er ▸ hok i hi) (es ▸ hok j hj)).mono ?_
 rintro e W' ⟨c, h1, h2, h3⟩
 have hb : Below wr.heap.size wr W' := ⟨h3.os, h3.tape, h3.output, h3.size, h3.block⟩
 have hu' : Ur W' g z d := hu.same (hb.block _ hu.lt)
 exact ⟨c, h1, by simpa using h2, But.of_below hb, hu', hu'.twoq hi hj er es⟩
set_option maxRecDepth 100000 in
set_option maxHeartbeats 4000000 in
theorem symL_any (w0 : World) (ok : Rw → Prop) (K : Rw → Nat) (cf : Nat) (cb : Array Value) (hC : Cmp w0 ok (ltK K) cf cb) (g z cap a b : Nat) (hg : w0.heap.size ≤ g) (d : Array Rw) (hab : a + 1 < b) (hb : b ≤ d.size) (hd : d.size ≤ 1000000) (hok : ∀ i, i < d.size → ok d[i]!) (hs : Srt K (a + 1) b d) (w : World) (h : Ur w g z d) (hW : Below w0.heap.size w0 w) :
  Calls Try.prog 92 #[.slice (some ⟨g, 0, none⟩) d.size cap, .int .i64 (a : Int), .int .i64 ((a + 1 : Nat) : Int), .int .i64 (b : Int), .func (.func cf) #[] cb] w fun e w' => e = .returned (.tuple #[]) ∧ ∃ d', Ur w' g z d' ∧ Srt K a b d' ∧ Sort.PermIn a b d d' ∧ Bg g w w' := by
 have HU : Hid (Ur w g z d) := h
 have HS : Hid (Srt K (a + 1) b d) := hs
 have HW : Hid (Below w0.heap.size w0 w) := hW
 have HCm : Hid (Cmp w0 ok (ltK K) cf cb) := hC
 have HOK : Hid (∀ i, i < d.size → ok d[i]!) := hok
 have heg := hC.eg
 clear h hs hW hC hok
 obtain ⟨sz, hsz⟩ : ∃ sz, d.size = sz := ⟨_, rfl⟩
 rw [hsz] at hb hd ⊢
 obtain ⟨m, hm⟩ : ∃ m, a + 1 = m := ⟨_, rfl⟩
 rw [hm] at HS ⊢
 have q1 : IntKind.i64.wrap ((m : Int) - (a : Int)) = 1 := by rw [wrap_i64 (by omega) (by omega)]; omega
 go_enter Try.func92, Try.ntmps92
 go_wp2_with fail
 go_loopw [10, 11] (fun iv jv wr => ∃ (i j : Nat), iv = .int .i64 (i : Int) ∧ jv = .int .i64 (j : Int) ∧ (m ≤ i ∧ i ≤ j ∧ j ≤ b) ∧ Ur wr g z d ∧ ((∀ k, m ≤ k → k < i → K d[k]! < K d[a]!) ∧ (∀ k, j ≤ k → k < b → K d[a]! ≤ K d[k]!)) ∧ Bg g w wr) (fun iv jv _ => natOf jv - natOf iv)
 case atStart => exact ⟨m, b, rfl, rfl, by omega, HU.out, ⟨fun k h1 h2 => by omega, fun k h1 h2 => by omega⟩, But.refl _ _⟩
 case round =>
  obtain ⟨i, j, rfl, rfl, ⟨i0, i1, j1⟩, hu, hk, hbg⟩ := hrel
  have HU1 : Hid (Ur wr g z d) := hu
  have HK : Hid _ := hk
  have HBG : Hid (Bg g w wr) := hbg
  clear hu hk hbg
  by_cases hij : i < j
  ·have q2 : (i : Int) < (j : Int) := by omega
   obtain ⟨c, hc⟩ : ∃ c, (i + j) / 2 = c := ⟨_, rfl⟩
   have hc' : ((i : Int) + (j : Int)) / 2 = (c : Int) := by omega
   obtain ⟨rx, hx⟩ : ∃ rx, d[c]! = rx := ⟨_, rfl⟩
   obtain ⟨ry, hy⟩ : ∃ ry, d[a]! = ry := ⟨_, rfl⟩
   have HCA : Hid (∀ _ : True, _) := fun _ => cmp_two HCm.out HU1.out HOK.out (below_bg hg HW.out HBG.out) (i := c) (j := a) (by omega) (by omega) hx hy
   have HSW : Hid (TwoQ g c a rx ry wr.drew) := HU1.out.twoq (by omega) (by omega) hx hy
   have HXY : Hid (d[c]! = rx ∧ d[a]! = ry) := ⟨hx, hy⟩
   clear hx hy HU1
   obtain ⟨xi, xx, xy, xv⟩ := rx
   obtain ⟨yi, yx, yy, yv⟩ := ry
   simp only [rv] at HCA
   have q3 : (c : Int) < (sz : Int) := by omega
   have q4 : (a : Int) < (sz : Int) := by omega
   go_wp2_with fail
   refine wp_region_held (S := TwoQ g c a ⟨xi, xx, xy, xv⟩ ⟨yi, yx, yy, yv⟩) (by kernel_rfl) ?_
   change wpAnyH _ _ _ _ _ _ _ _ (World.drew _)
   refine wpAnyH_take (i := 0) (v := ?_) rfl (by kernel_rfl) (by kernel_rfl) (by kernel_rfl) (fun _ _ _ h => h) (Or.inl ⟨by kernel_rfl, ?_⟩) HSW.out ?_
   rotate_left
   ·rintro w ⟨⟨e0,e1,e2,e3⟩,f0,f1,f2,f3⟩; go_simp; try with_reducible rfl
   conv in (Act.put _ _ _) => simp only [List.getElem_toArray, List.getElem_cons_succ, List.getElem_cons_zero, Act.put, List.setIfInBounds_toArray, List.set_cons_succ, List.set_cons_zero]
   refine wpAnyH_take (i := 1) (v := ?_) rfl (by kernel_rfl) (by kernel_rfl) (by kernel_rfl) (fun _ _ _ h => h) (Or.inl ⟨by kernel_rfl, ?_⟩) HSW.out ?_
   rotate_left
   ·rintro w ⟨⟨e0,e1,e2,e3⟩,f0,f1,f2,f3⟩; go_simp; try with_reducible rfl
   conv in (Act.put _ _ _) => simp only [List.getElem_toArray, List.getElem_cons_succ, List.getElem_cons_zero, Act.put, List.setIfInBounds_toArray, List.set_cons_succ, List.set_cons_zero]
   refine wpAnyH_take (i := 2) (v := ?_) rfl (by kernel_rfl) (by kernel_rfl) (by kernel_rfl) (fun _ _ _ h => h) (Or.inl ⟨by kernel_rfl, ?_⟩) HSW.out ?_
   rotate_left
   ·rintro w ⟨⟨e0,e1,e2,e3⟩,f0,f1,f2,f3⟩; go_simp; try with_reducible rfl
   conv in (Act.put _ _ _) => simp only [List.getElem_toArray, List.getElem_cons_succ, List.getElem_cons_zero, Act.put, List.setIfInBounds_toArray, List.set_cons_succ, List.set_cons_zero]
   refine wpAnyH_take (i := 3) (v := ?_) rfl (by kernel_rfl) (by kernel_rfl) (by kernel_rfl) (fun _ _ _ h => h) (Or.inl ⟨by kernel_rfl, ?_⟩) HSW.out ?_
   rotate_left
   ·rintro w ⟨⟨e0,e1,e2,e3⟩,f0,f1,f2,f3⟩; go_simp; try with_reducible rfl
   conv in (Act.put _ _ _) => simp only [List.getElem_toArray, List.getElem_cons_succ, List.getElem_cons_zero, Act.put, List.setIfInBounds_toArray, List.set_cons_succ, List.set_cons_zero]
   refine wpAnyH_take (i := 4) (v := ?_) rfl (by kernel_rfl) (by kernel_rfl) (by kernel_rfl) (fun _ _ _ h => h) (Or.inl ⟨by kernel_rfl, ?_⟩) HSW.out ?_
   rotate_left
   ·rintro w ⟨⟨e0,e1,e2,e3⟩,f0,f1,f2,f3⟩; go_simp; try with_reducible rfl
   conv in (Act.put _ _ _) => simp only [List.getElem_toArray, List.getElem_cons_succ, List.getElem_cons_zero, Act.put, List.setIfInBounds_toArray, List.set_cons_succ, List.set_cons_zero]
   refine wpAnyH_take (i := 5) (v := ?_) rfl (by kernel_rfl) (by kernel_rfl) (by kernel_rfl) (fun _ _ _ h => h) (Or.inl ⟨by kernel_rfl, ?_⟩) HSW.out ?_
   rotate_left
   ·rintro w ⟨⟨e0,e1,e2,e3⟩,f0,f1,f2,f3⟩; go_simp; try with_reducible rfl
   conv in (Act.put _ _ _) => simp only [List.getElem_toArray, List.getElem_cons_succ, List.getElem_cons_zero, Act.put, List.setIfInBounds_toArray, List.set_cons_succ, List.set_cons_zero]
   refine wpAnyH_take (i := 6) (v := ?_) rfl (by kernel_rfl) (by kernel_rfl) (by kernel_rfl) (fun _ _ _ h => h) (Or.inl ⟨by kernel_rfl, ?_⟩) HSW.out ?_
   rotate_left
   ·rintro w ⟨⟨e0,e1,e2,e3⟩,f0,f1,f2,f3⟩; go_simp; try with_reducible rfl
   conv in (Act.put _ _ _) => simp only [List.getElem_toArray, List.getElem_cons_succ, List.getElem_cons_zero, Act.put, List.setIfInBounds_toArray, List.set_cons_succ, List.set_cons_zero]
   refine wpAnyH_take (i := 7) (v := ?_) rfl (by kernel_rfl) (by kernel_rfl) (by kernel_rfl) (fun _ _ _ h => h) (Or.inl ⟨by kernel_rfl, ?_⟩) HSW.out ?_
   rotate_left
   ·rintro w ⟨⟨e0,e1,e2,e3⟩,f0,f1,f2,f3⟩; go_simp; try with_reducible rfl
   conv in (Act.put _ _ _) => simp only [List.getElem_toArray, List.getElem_cons_succ, List.getElem_cons_zero, Act.put, List.setIfInBounds_toArray, List.set_cons_succ, List.set_cons_zero]
   refine wpAnyH_take (i := 8) (v := ?_) rfl (by kernel_rfl) (by kernel_rfl) (by kernel_rfl) (fun _ _ _ h => h) (Or.inl ⟨by kernel_rfl, ?_⟩) HSW.out ?_
   rotate_left
   ·rintro w ⟨⟨e0,e1,e2,e3⟩,f0,f1,f2,f3⟩; go_simp; try with_reducible rfl
   conv in (Act.put _ _ _) => simp only [List.getElem_toArray, List.getElem_cons_succ, List.getElem_cons_zero, Act.put, List.setIfInBounds_toArray, List.set_cons_succ, List.set_cons_zero]
   refine readyH 9 _ (by kernel_rfl) rfl (by kernel_rfl) (fun K hK => ?_)
   go_simp
   refine Calls.mono (HCA.out trivial) ?_
   rintro e w1 ⟨cv, rfl, hcl, b1, u1, t1⟩
   have HB1 : Hid (Bg g w w1) := HBG.out.trans b1
   have HU1 : Hid (Ur w1 g z d) := u1
   replace HSW : Hid (TwoQ g c a ⟨xi, xx, xy, xv⟩ ⟨yi, yx, yy, yv⟩ w1) := t1
   clear b1 u1 t1 HBG
   refine hK _ _ HSW.out ?_
   clear hK K
   by_cases hl : K ⟨xi, xx, xy, xv⟩ < K ⟨yi, yx, yy, yv⟩
   ·have q8 : cv < 0 := hcl.2 hl
    have HE : Hid ((∀ k, m ≤ k → k < c + 1 → K d[k]! < K d[a]!) ∧ (∀ k, j ≤ k → k < b → K d[a]! ≤ K d[k]!)) := by
     refine ⟨fun k h1 h2 => ?_, HK.out.2⟩
     have e1 : K d[k]! ≤ K d[c]! := HS.out.le h1 (by omega) (by omega)
     rw [HXY.out.1] at e1
     rw [HXY.out.2]
     omega
    clear hl hcl
    refine wpAnyH_take (i := 10) (v := ?_) rfl (by kernel_rfl) (by kernel_rfl) (by kernel_rfl) (fun _ _ _ h => h) (Or.inl ⟨by kernel_rfl, ?_⟩) HSW.out ?_
    rotate_left
    ·rintro w ⟨⟨e0,e1,e2,e3⟩,f0,f1,f2,f3⟩; go_simp; try with_reducible rfl
    conv in (Act.put _ _ _) => simp only [List.getElem_toArray, List.getElem_cons_succ, List.getElem_cons_zero, Act.put, List.setIfInBounds_toArray, List.set_cons_succ, List.set_cons_zero]
    refine wpAnyH_done (by kernel_rfl) ?_ _
    go_wp2_with fail
    go_roundw
    case rel => exact ⟨c + 1, j, by go_num, rfl, by omega, HU1.out, HE.out, HB1.out⟩
    case measure => simp [natOf]; omega
   ·have q8 : ¬ cv < 0 := fun h => hl (hcl.1 h)
    have HE : Hid ((∀ k, m ≤ k → k < i → K d[k]! < K d[a]!) ∧ (∀ k, c ≤ k → k < b → K d[a]! ≤ K d[k]!)) := by
     refine ⟨HK.out.1, fun k h1 h2 => ?_⟩
     have e1 : K d[c]! ≤ K d[k]! := HS.out.le (by omega) h1 h2
     rw [HXY.out.1] at e1
     rw [HXY.out.2]
     omega
    clear hl hcl
    refine wpAnyH_take (i := 10) (v := ?_) rfl (by kernel_rfl) (by kernel_rfl) (by kernel_rfl) (fun _ _ _ h => h) (Or.inl ⟨by kernel_rfl, ?_⟩) HSW.out ?_
    rotate_left
    ·rintro w ⟨⟨e0,e1,e2,e3⟩,f0,f1,f2,f3⟩; go_simp; try with_reducible rfl
    conv in (Act.put _ _ _) => simp only [List.getElem_toArray, List.getElem_cons_succ, List.getElem_cons_zero, Act.put, List.setIfInBounds_toArray, List.set_cons_succ, List.set_cons_zero]
    refine wpAnyH_done (by kernel_rfl) ?_ _
    go_wp2_with fail
    go_roundw
    case rel => exact ⟨i, c, rfl, rfl, by omega, HU1.out, HE.out, HB1.out⟩
    case measure => simp [natOf]; omega
  ·have q2 : ¬ (i : Int) < (j : Int) := by omega
   obtain rfl : i = j := by omega
   have q3 : IntKind.i64.wrap ((i : Int) - 1) = ((i - 1 : Nat) : Int) := by rw [wrap_i64 (by omega) (by omega)]; omega
   go_wp2_with fail
   go_loopw [13] (fun kv wr => ∃ (k : Nat) (d1 : Array Rw), kv = .int .i64 (k : Int) ∧ (a ≤ k ∧ k + 1 ≤ i) ∧ Ur wr g z d1 ∧ Rot d d1 a (a + 1) (k + 1) ∧ Sort.PermIn a b d d1 ∧ Bg g w wr) (fun kv _ => i - natOf kv)
   case atStart => exact ⟨a, d, rfl, by omega, HU1.out, Rot.right _ _ _, Sort.permIn_refl _ _ _, HBG.out⟩
   case round =>
    obtain ⟨k, d1, rfl, ⟨k0, k1⟩, hu, hr, hpm, hbg⟩ := hrel
    clear HU1 HBG
    by_cases hlt : k + 1 < i
    ·have S1 : d1.size = sz := hr.1.trans hsz
     have HRT : Hid (Rot d (Sort.swp d1 k (k + 1)) a (a + 1) (k + 2)) := hr.up k0 (by omega)
     have HPM : Hid (Sort.PermIn a b d (Sort.swp d1 k (k + 1))) := Sort.permIn_trans _ _ _ _ _ hpm (Sort.swp_permIn _ _ _ _ _ (by omega) (by omega) (by omega) (by omega) (by omega))
     have HBG : Hid (Bg g w wr) := hbg
     clear hr hpm hbg
     have HWR := Ur.swp hu k (k + 1) (by omega) (by omega)
     obtain ⟨⟨x0, x1, x2, x3⟩, fz⟩ := hu.cell k (by omega)
     obtain ⟨⟨y0, y1, y2, y3⟩, -⟩ := hu.cell (k + 1) (by omega)
     obtain ⟨rx, hx⟩ : ∃ rx, d1[k]! = rx := ⟨_, rfl⟩
     obtain ⟨ry, hy⟩ : ∃ ry, d1[k + 1]! = ry := ⟨_, rfl⟩
     rw [hx] at x0 x1 x2 x3
     rw [hy] at y0 y1 y2 y3
     rw [hx, hy] at HWR
     obtain ⟨xi, xx, xy, xv⟩ := rx
     obtain ⟨yi, yx, yy, yv⟩ := ry
     simp only [set4] at HWR
     have HW1 : Hid _ := HWR.1
     have HW2 : Hid _ := HWR.2
     have lg : g < wr.heap.size := hu.lt
     simp only at x0 x1 x2 x3 y0 y1 y2 y3
     clear HWR hx hy hu
     have q4 : (k : Int) < ((i - 1 : Nat) : Int) := by omega
     have q5 : (k : Int) < (sz : Int) := by omega
     have q6 : (k : Int) + 1 < (sz : Int) := by omega
     obtain ⟨i', hi'⟩ : ∃ i', i - 1 = i' := ⟨_, rfl⟩
     rw [hi'] at q3 q4
     go_wp2_with fail
     go_region
     go_wp2_with fail
     go_roundw
     case rel => exact ⟨k + 1, _, by go_num, by omega, ur_drew HW1.out, HRT.out, HPM.out, (HBG.out.trans HW2.out).trans (Bg.drew _)⟩
     case measure => simp [natOf]; omega
    ·obtain rfl : k + 1 = i := by omega
     have HU1 : Hid (Ur wr g z d1) := hu
     have HE : Hid (Srt K a b d1) := sym_one (by rw [hm]; exact HS.out) (by omega) (by omega) (by rw [hm]; exact HK.out.1) HK.out.2 hr
     have HPM : Hid (Sort.PermIn a b d d1) := hpm
     have HBG : Hid (Bg g w wr) := hbg
     clear hu hr hpm hbg
     have q4 : ¬ (k : Int) < ((k + 1 - 1 : Nat) : Int) := by omega
     obtain ⟨i', hi'⟩ : ∃ i', k + 1 - 1 = i' := ⟨_, rfl⟩
     rw [hi'] at q3 q4
     go_wp2_with fail
     refine bodyPost_ret (results_none rfl _ _ _) rfl ?_
     exact ⟨rfl, d1, HU1.out, HE.out, HPM.out, HBG.out⟩
set_option maxRecDepth 100000 in
set_option maxHeartbeats 4000000 in
theorem symE_any (w0 : World) (ok : Rw → Prop) (K : Rw → Nat) (cf : Nat) (cb : Array Value) (hC : Cmp w0 ok (ltK K) cf cb) (g z cap a m : Nat) (hg : w0.heap.size ≤ g) (d : Array Rw) (ham : a + 1 < m) (hb : m < d.size) (hd : d.size ≤ 1000000) (hok : ∀ i, i < d.size → ok d[i]!) (hs : Srt K a m d) (w : World) (h : Ur w g z d) (hW : Below w0.heap.size w0 w) :
  Calls Try.prog 92 #[.slice (some ⟨g, 0, none⟩) d.size cap, .int .i64 (a : Int), .int .i64 (m : Int), .int .i64 ((m + 1 : Nat) : Int), .func (.func cf) #[] cb] w fun e w' => e = .returned (.tuple #[]) ∧ ∃ d', Ur w' g z d' ∧ Srt K a (m + 1) d' ∧ Sort.PermIn a (m + 1) d d' ∧ Bg g w w' := by
 have HU : Hid (Ur w g z d) := h
 have HS : Hid (Srt K a m d) := hs
 have HW : Hid (Below w0.heap.size w0 w) := hW
 have HCm : Hid (Cmp w0 ok (ltK K) cf cb) := hC
 have HOK : Hid (∀ i, i < d.size → ok d[i]!) := hok
 have heg := hC.eg
 clear h hs hW hC hok
 obtain ⟨sz, hsz⟩ : ∃ sz, d.size = sz := ⟨_, rfl⟩
 rw [hsz] at hb hd ⊢
 obtain ⟨b, hm⟩ : ∃ b, m + 1 = b := ⟨_, rfl⟩
 rw [hm] at ⊢
 replace hb : b ≤ sz := by omega
 obtain ⟨ma, hma⟩ : ∃ ma, m - a = ma := ⟨_, rfl⟩
 have q0 : IntKind.i64.wrap ((m : Int) - (a : Int)) = (ma : Int) := by rw [wrap_i64 (by omega) (by omega)]; omega
 have q0' : ((ma : Int) == 1) = false := by simp; omega
 have q1 : IntKind.i64.wrap ((b : Int) - (m : Int)) = 1 := by rw [wrap_i64 (by omega) (by omega)]; omega
 go_enter Try.func92, Try.ntmps92
 go_wp2_with fail
 go_loopw [14, 15] (fun iv jv wr => ∃ (i j : Nat), iv = .int .i64 (i : Int) ∧ jv = .int .i64 (j : Int) ∧ (a ≤ i ∧ i ≤ j ∧ j ≤ m) ∧ Ur wr g z d ∧ ((∀ k, a ≤ k → k < i → K d[k]! ≤ K d[m]!) ∧ (∀ k, j ≤ k → k < m → K d[m]! < K d[k]!)) ∧ Bg g w wr) (fun iv jv _ => natOf jv - natOf iv)
 case atStart => exact ⟨a, m, rfl, rfl, by omega, HU.out, ⟨fun k h1 h2 => by omega, fun k h1 h2 => by omega⟩, But.refl _ _⟩
 case round =>
  obtain ⟨i, j, rfl, rfl, ⟨i0, i1, j1⟩, hu, hk, hbg⟩ := hrel
  have HU1 : Hid (Ur wr g z d) := hu
  have HK : Hid _ := hk
  have HBG : Hid (Bg g w wr) := hbg
  clear hu hk hbg
  by_cases hij : i < j
  ·have q2 : (i : Int) < (j : Int) := by omega
   obtain ⟨c, hc⟩ : ∃ c, (i + j) / 2 = c := ⟨_, rfl⟩
   have hc' : ((i : Int) + (j : Int)) / 2 = (c : Int) := by omega
   obtain ⟨rx, hx⟩ : ∃ rx, d[m]! = rx := ⟨_, rfl⟩
   obtain ⟨ry, hy⟩ : ∃ ry, d[c]! = ry := ⟨_, rfl⟩
   have HCA : Hid (∀ _ : True, _) := fun _ => cmp_two HCm.out HU1.out HOK.out (below_bg hg HW.out HBG.out) (i := m) (j := c) (by omega) (by omega) hx hy
   have HSW : Hid (TwoQ g m c rx ry wr.drew) := HU1.out.twoq (by omega) (by omega) hx hy
   have HXY : Hid (d[m]! = rx ∧ d[c]! = ry) := ⟨hx, hy⟩
   clear hx hy HU1
   obtain ⟨xi, xx, xy, xv⟩ := rx
   obtain ⟨yi, yx, yy, yv⟩ := ry
   simp only [rv] at HCA
   have q3 : (c : Int) < (sz : Int) := by omega
   have q4 : (m : Int) < (sz : Int) := by omega
   go_wp2_with fail
   refine wp_region_held (S := TwoQ g m c ⟨xi, xx, xy, xv⟩ ⟨yi, yx, yy, yv⟩) (by kernel_rfl) ?_
   change wpAnyH _ _ _ _ _ _ _ _ (World.drew _)
   refine wpAnyH_take (i := 0) (v := ?_) rfl (by kernel_rfl) (by kernel_rfl) (by kernel_rfl) (fun _ _ _ h => h) (Or.inl ⟨by kernel_rfl, ?_⟩) HSW.out ?_
   rotate_left
   ·rintro w ⟨⟨e0,e1,e2,e3⟩,f0,f1,f2,f3⟩; go_simp; try with_reducible rfl
   conv in (Act.put _ _ _) => simp only [List.getElem_toArray, List.getElem_cons_succ, List.getElem_cons_zero, Act.put, List.setIfInBounds_toArray, List.set_cons_succ, List.set_cons_zero]
   refine wpAnyH_take (i := 1) (v := ?_) rfl (by kernel_rfl) (by kernel_rfl) (by kernel_rfl) (fun _ _ _ h => h) (Or.inl ⟨by kernel_rfl, ?_⟩) HSW.out ?_
   rotate_left
   ·rintro w ⟨⟨e0,e1,e2,e3⟩,f0,f1,f2,f3⟩; go_simp; try with_reducible rfl
   conv in (Act.put _ _ _) => simp only [List.getElem_toArray, List.getElem_cons_succ, List.getElem_cons_zero, Act.put, List.setIfInBounds_toArray, List.set_cons_succ, List.set_cons_zero]
   refine wpAnyH_take (i := 2) (v := ?_) rfl (by kernel_rfl) (by kernel_rfl) (by kernel_rfl) (fun _ _ _ h => h) (Or.inl ⟨by kernel_rfl, ?_⟩) HSW.out ?_
   rotate_left
   ·rintro w ⟨⟨e0,e1,e2,e3⟩,f0,f1,f2,f3⟩; go_simp; try with_reducible rfl
   conv in (Act.put _ _ _) => simp only [List.getElem_toArray, List.getElem_cons_succ, List.getElem_cons_zero, Act.put, List.setIfInBounds_toArray, List.set_cons_succ, List.set_cons_zero]
   refine wpAnyH_take (i := 3) (v := ?_) rfl (by kernel_rfl) (by kernel_rfl) (by kernel_rfl) (fun _ _ _ h => h) (Or.inl ⟨by kernel_rfl, ?_⟩) HSW.out ?_
   rotate_left
   ·rintro w ⟨⟨e0,e1,e2,e3⟩,f0,f1,f2,f3⟩; go_simp; try with_reducible rfl
   conv in (Act.put _ _ _) => simp only [List.getElem_toArray, List.getElem_cons_succ, List.getElem_cons_zero, Act.put, List.setIfInBounds_toArray, List.set_cons_succ, List.set_cons_zero]
   refine wpAnyH_take (i := 4) (v := ?_) rfl (by kernel_rfl) (by kernel_rfl) (by kernel_rfl) (fun _ _ _ h => h) (Or.inl ⟨by kernel_rfl, ?_⟩) HSW.out ?_
   rotate_left
   ·rintro w ⟨⟨e0,e1,e2,e3⟩,f0,f1,f2,f3⟩; go_simp; try with_reducible rfl
   conv in (Act.put _ _ _) => simp only [List.getElem_toArray, List.getElem_cons_succ, List.getElem_cons_zero, Act.put, List.setIfInBounds_toArray, List.set_cons_succ, List.set_cons_zero]
   refine wpAnyH_take (i := 5) (v := ?_) rfl (by kernel_rfl) (by kernel_rfl) (by kernel_rfl) (fun _ _ _ h => h) (Or.inl ⟨by kernel_rfl, ?_⟩) HSW.out ?_
   rotate_left
   ·rintro w ⟨⟨e0,e1,e2,e3⟩,f0,f1,f2,f3⟩; go_simp; try with_reducible rfl
   conv in (Act.put _ _ _) => simp only [List.getElem_toArray, List.getElem_cons_succ, List.getElem_cons_zero, Act.put, List.setIfInBounds_toArray, List.set_cons_succ, List.set_cons_zero]
   refine wpAnyH_take (i := 6) (v := ?_) rfl (by kernel_rfl) (by kernel_rfl) (by kernel_rfl) (fun _ _ _ h => h) (Or.inl ⟨by kernel_rfl, ?_⟩) HSW.out ?_
   rotate_left
   ·rintro w ⟨⟨e0,e1,e2,e3⟩,f0,f1,f2,f3⟩; go_simp; try with_reducible rfl
   conv in (Act.put _ _ _) => simp only [List.getElem_toArray, List.getElem_cons_succ, List.getElem_cons_zero, Act.put, List.setIfInBounds_toArray, List.set_cons_succ, List.set_cons_zero]
   refine wpAnyH_take (i := 7) (v := ?_) rfl (by kernel_rfl) (by kernel_rfl) (by kernel_rfl) (fun _ _ _ h => h) (Or.inl ⟨by kernel_rfl, ?_⟩) HSW.out ?_
   rotate_left
   ·rintro w ⟨⟨e0,e1,e2,e3⟩,f0,f1,f2,f3⟩; go_simp; try with_reducible rfl
   conv in (Act.put _ _ _) => simp only [List.getElem_toArray, List.getElem_cons_succ, List.getElem_cons_zero, Act.put, List.setIfInBounds_toArray, List.set_cons_succ, List.set_cons_zero]
   refine wpAnyH_take (i := 8) (v := ?_) rfl (by kernel_rfl) (by kernel_rfl) (by kernel_rfl) (fun _ _ _ h => h) (Or.inl ⟨by kernel_rfl, ?_⟩) HSW.out ?_
   rotate_left
   ·rintro w ⟨⟨e0,e1,e2,e3⟩,f0,f1,f2,f3⟩; go_simp; try with_reducible rfl
   conv in (Act.put _ _ _) => simp only [List.getElem_toArray, List.getElem_cons_succ, List.getElem_cons_zero, Act.put, List.setIfInBounds_toArray, List.set_cons_succ, List.set_cons_zero]
   refine readyH 9 _ (by kernel_rfl) rfl (by kernel_rfl) (fun K hK => ?_)
   go_simp
   refine Calls.mono (HCA.out trivial) ?_
   rintro e w1 ⟨cv, rfl, hcl, b1, u1, t1⟩
   have HB1 : Hid (Bg g w w1) := HBG.out.trans b1
   have HU1 : Hid (Ur w1 g z d) := u1
   replace HSW : Hid (TwoQ g m c ⟨xi, xx, xy, xv⟩ ⟨yi, yx, yy, yv⟩ w1) := t1
   clear b1 u1 t1 HBG
   refine hK _ _ HSW.out ?_
   clear hK K
   by_cases hl : K ⟨xi, xx, xy, xv⟩ < K ⟨yi, yx, yy, yv⟩
   ·have q8 : cv < 0 := hcl.2 hl
    have HE : Hid ((∀ k, a ≤ k → k < i → K d[k]! ≤ K d[m]!) ∧ (∀ k, c ≤ k → k < m → K d[m]! < K d[k]!)) := by
     refine ⟨HK.out.1, fun k h1 h2 => ?_⟩
     have e1 : K d[c]! ≤ K d[k]! := HS.out.le (by omega) h1 h2
     rw [HXY.out.2] at e1
     rw [HXY.out.1]
     omega
    clear hl hcl
    refine wpAnyH_take (i := 10) (v := ?_) rfl (by kernel_rfl) (by kernel_rfl) (by kernel_rfl) (fun _ _ _ h => h) (Or.inl ⟨by kernel_rfl, ?_⟩) HSW.out ?_
    rotate_left
    ·rintro w ⟨⟨e0,e1,e2,e3⟩,f0,f1,f2,f3⟩; go_simp; try with_reducible rfl
    conv in (Act.put _ _ _) => simp only [List.getElem_toArray, List.getElem_cons_succ, List.getElem_cons_zero, Act.put, List.setIfInBounds_toArray, List.set_cons_succ, List.set_cons_zero]
    refine wpAnyH_take (i := 11) (v := ?_) rfl (by kernel_rfl) (by kernel_rfl) (by kernel_rfl) (fun _ _ _ h => h) (Or.inl ⟨by kernel_rfl, ?_⟩) HSW.out ?_
    rotate_left
    ·rintro w ⟨⟨e0,e1,e2,e3⟩,f0,f1,f2,f3⟩; go_simp; try with_reducible rfl
    conv in (Act.put _ _ _) => simp only [List.getElem_toArray, List.getElem_cons_succ, List.getElem_cons_zero, Act.put, List.setIfInBounds_toArray, List.set_cons_succ, List.set_cons_zero]
    refine wpAnyH_done (by kernel_rfl) ?_ _
    go_wp2_with fail
    go_roundw
    case rel => exact ⟨i, c, rfl, rfl, by omega, HU1.out, HE.out, HB1.out⟩
    case measure => simp [natOf]; omega
   ·have q8 : ¬ cv < 0 := fun h => hl (hcl.1 h)
    have HE : Hid ((∀ k, a ≤ k → k < c + 1 → K d[k]! ≤ K d[m]!) ∧ (∀ k, j ≤ k → k < m → K d[m]! < K d[k]!)) := by
     refine ⟨fun k h1 h2 => ?_, HK.out.2⟩
     have e1 : K d[k]! ≤ K d[c]! := HS.out.le h1 (by omega) (by omega)
     rw [HXY.out.2] at e1
     rw [HXY.out.1]
     omega
    clear hl hcl
    refine wpAnyH_take (i := 10) (v := ?_) rfl (by kernel_rfl) (by kernel_rfl) (by kernel_rfl) (fun _ _ _ h => h) (Or.inl ⟨by kernel_rfl, ?_⟩) HSW.out ?_
    rotate_left
    ·rintro w ⟨⟨e0,e1,e2,e3⟩,f0,f1,f2,f3⟩; go_simp; try with_reducible rfl
    conv in (Act.put _ _ _) => simp only [List.getElem_toArray, List.getElem_cons_succ, List.getElem_cons_zero, Act.put, List.setIfInBounds_toArray, List.set_cons_succ, List.set_cons_zero]
    refine wpAnyH_take (i := 11) (v := ?_) rfl (by kernel_rfl) (by kernel_rfl) (by kernel_rfl) (fun _ _ _ h => h) (Or.inl ⟨by kernel_rfl, ?_⟩) HSW.out ?_
    rotate_left
    ·rintro w ⟨⟨e0,e1,e2,e3⟩,f0,f1,f2,f3⟩; go_simp; try with_reducible rfl
    conv in (Act.put _ _ _) => simp only [List.getElem_toArray, List.getElem_cons_succ, List.getElem_cons_zero, Act.put, List.setIfInBounds_toArray, List.set_cons_succ, List.set_cons_zero]
    refine wpAnyH_done (by kernel_rfl) ?_ _
    go_wp2_with fail
    go_roundw
    case rel => exact ⟨c + 1, j, by go_num, rfl, by omega, HU1.out, HE.out, HB1.out⟩
    case measure => simp [natOf]; omega
  ·have q2 : ¬ (i : Int) < (j : Int) := by omega
   obtain rfl : i = j := by omega
   go_wp2_with fail
   go_loopw [17] (fun kv wr => ∃ (k : Nat) (d1 : Array Rw), kv = .int .i64 (k : Int) ∧ (i ≤ k ∧ k ≤ m) ∧ Ur wr g z d1 ∧ Rot d d1 k m (m + 1) ∧ Sort.PermIn a b d d1 ∧ Bg g w wr) (fun kv _ => natOf kv)
   case atStart => exact ⟨m, d, rfl, by omega, HU1.out, Rot.left _ _ _, Sort.permIn_refl _ _ _, HBG.out⟩
   case round =>
    obtain ⟨k, d1, rfl, ⟨k0, k1⟩, hu, hr, hpm, hbg⟩ := hrel
    clear HU1 HBG
    by_cases hlt : i < k
    ·obtain ⟨k', rfl⟩ : ∃ k', k = k' + 1 := ⟨k - 1, by omega⟩
     have S1 : d1.size = sz := hr.1.trans hsz
     have HRT : Hid (Rot d (Sort.swp d1 (k' + 1) k') k' m (m + 1)) := hr.down (by omega) (by omega)
     have HPM : Hid (Sort.PermIn a b d (Sort.swp d1 (k' + 1) k')) := Sort.permIn_trans _ _ _ _ _ hpm (Sort.swp_permIn _ _ _ _ _ (by omega) (by omega) (by omega) (by omega) (by omega))
     have HBG : Hid (Bg g w wr) := hbg
     clear hr hpm hbg
     have HWR := Ur.swp hu (k' + 1) k' (by omega) (by omega)
     obtain ⟨⟨x0, x1, x2, x3⟩, fz⟩ := hu.cell (k' + 1) (by omega)
     obtain ⟨⟨y0, y1, y2, y3⟩, -⟩ := hu.cell k' (by omega)
     obtain ⟨rx, hx⟩ : ∃ rx, d1[k' + 1]! = rx := ⟨_, rfl⟩
     obtain ⟨ry, hy⟩ : ∃ ry, d1[k']! = ry := ⟨_, rfl⟩
     rw [hx] at x0 x1 x2 x3
     rw [hy] at y0 y1 y2 y3
     rw [hx, hy] at HWR
     obtain ⟨xi, xx, xy, xv⟩ := rx
     obtain ⟨yi, yx, yy, yv⟩ := ry
     simp only [set4] at HWR
     have HW1 : Hid _ := HWR.1
     have HW2 : Hid _ := HWR.2
     have lg : g < wr.heap.size := hu.lt
     simp only at x0 x1 x2 x3 y0 y1 y2 y3
     clear HWR hx hy hu
     have hc : ((k' + 1 : Nat) : Int) = (k' : Int) + 1 := by omega
     rw [hc]
     clear hc
     have q4 : (i : Int) < (k' : Int) + 1 := by omega
     have q5 : (k' : Int) < (sz : Int) := by omega
     have q6 : (k' : Int) + 1 < (sz : Int) := by omega
     have q7 : IntKind.i64.wrap (k' : Int) = (k' : Int) := wrap_i64 (by omega) (by omega)
     go_wp2_with fail
     go_region
     go_wp2_with fail
     go_roundw
     case rel => exact ⟨k', _, by go_num, by omega, ur_drew HW1.out, HRT.out, HPM.out, (HBG.out.trans HW2.out).trans (Bg.drew _)⟩
     case measure => simp [natOf]
    ·obtain rfl : k = i := by omega
     have HU1 : Hid (Ur wr g z d1) := hu
     have HE : Hid (Srt K a b d1) := by
      rw [← hm]
      exact sym_last HS.out (by omega) (by omega) HK.out.1 HK.out.2 hr
     have HPM : Hid (Sort.PermIn a b d d1) := hpm
     have HBG : Hid (Bg g w wr) := hbg
     clear hu hr hpm hbg
     have q4 : ¬ (k : Int) < (k : Int) := by omega
     go_wp2_with fail
     refine bodyPost_ret (results_none rfl _ _ _) rfl ?_
     exact ⟨rfl, d1, HU1.out, HE.out, HPM.out, HBG.out⟩
end Go.Proofs.Ytimdlohdmddnjaa.Rq
