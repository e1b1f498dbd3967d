/- The like, where the last one alone is merged into those ahead of it. -/
import Derived.Test.YtaiiclkfnahghaaQBD
namespace Go.Proofs.Ytaiiclkfnahghaa.Rq
open Go.RowKit Go.Lib Go.Shelf
open Go.Proofs.Ytaiiclkfnahghaa.Rc
set_option maxRecDepth 100000 in
set_option maxHeartbeats 4000000 in
theorem symE_any (w0 : World) (ok : Rw → Prop) (K : Rw → Nat) (cf : Nat) (cb : Array Value) (hC : Cmp w0 ok (ltK K) cf cb) (g z cap a m : Nat) (hg : w0.heap.size ≤ g) (d : Array Rw) (ham : a + 1 < m) (hb : m < d.size) (hd : d.size ≤ 1000000) (hok : ∀ i, i < d.size → ok d[i]!) (hs : Srt K a m d) (w : World) (h : Ur w g z d) (hW : Below w0.heap.size w0 w) :
    Calls Try.prog 91 #[.slice (some ⟨g, 0, none⟩) d.size cap, .int .i64 (a : Int), .int .i64 (m : Int), .int .i64 ((m + 1 : Nat) : Int), .func (.func cf) #[] cb] w fun e w' => e = .returned (.tuple #[]) ∧ ∃ d', Ur w' g z d' ∧ Srt K a (m + 1) d' ∧ Sort.PermIn a (m + 1) d d' ∧ Bg g w w' := by
  have HU : Hid (Ur w g z d) := h
  have HS : Hid (Srt K a m d) := hs
  have HW : Hid (Below w0.heap.size w0 w) := hW
  have HCm : Hid (Cmp w0 ok (ltK K) cf cb) := hC
  have HOK : Hid (∀ i, i < d.size → ok d[i]!) := hok
  have heg := hC.eg
  clear h hs hW hC hok
  obtain ⟨sz, hsz⟩ : ∃ sz, d.size = sz := ⟨_, rfl⟩
  rw [hsz] at hb hd ⊢
  obtain ⟨b, hm⟩ : ∃ b, m + 1 = b := ⟨_, rfl⟩
  rw [hm] at ⊢
  replace hb : b ≤ sz := by omega
  obtain ⟨ma, hma⟩ : ∃ ma, m - a = ma := ⟨_, rfl⟩
  have q0 : IntKind.i64.wrap ((m : Int) - (a : Int)) = (ma : Int) := by rw [wrap_i64 (by omega) (by omega)]; omega
  have q0' : ((ma : Int) == 1) = false := by simp; omega
  have q1 : IntKind.i64.wrap ((b : Int) - (m : Int)) = 1 := by rw [wrap_i64 (by omega) (by omega)]; omega
  go_enter Try.func91, Try.ntmps91
  go_wp2_with fail
  go_loopw [14, 15] (fun iv jv wr => ∃ (i j : Nat), iv = .int .i64 (i : Int) ∧ jv = .int .i64 (j : Int) ∧ (a ≤ i ∧ i ≤ j ∧ j ≤ m) ∧ Ur wr g z d ∧ ((∀ k, a ≤ k → k < i → K d[k]! ≤ K d[m]!) ∧ (∀ k, j ≤ k → k < m → K d[m]! < K d[k]!)) ∧ Bg g w wr) (fun iv jv _ => natOf jv - natOf iv)
  case atStart => exact ⟨a, m, rfl, rfl, by omega, HU.out, ⟨fun k h1 h2 => by omega, fun k h1 h2 => by omega⟩, But.refl _ _⟩
  case round =>
    obtain ⟨i, j, rfl, rfl, ⟨i0, i1, j1⟩, hu, hk, hbg⟩ := hrel
    have HU1 : Hid (Ur wr g z d) := hu
    have HK : Hid _ := hk
    have HBG : Hid (Bg g w wr) := hbg
    clear hu hk hbg
    by_cases hij : i < j
    · have q2 : (i : Int) < (j : Int) := by omega
      obtain ⟨c, hc⟩ : ∃ c, (i + j) / 2 = c := ⟨_, rfl⟩
      have hc' : ((i : Int) + (j : Int)) / 2 = (c : Int) := by omega
      obtain ⟨rx, hx⟩ : ∃ rx, d[m]! = rx := ⟨_, rfl⟩
      obtain ⟨ry, hy⟩ : ∃ ry, d[c]! = ry := ⟨_, rfl⟩
      have HCA : Hid (∀ _ : True, _) := fun _ => cmp_two HCm.out HU1.out HOK.out (below_bg hg HW.out HBG.out) (i := m) (j := c) (by omega) (by omega) hx hy
      have HSW : Hid (TwoQ g m c rx ry wr.drew) := HU1.out.twoq (by omega) (by omega) hx hy
      have HXY : Hid (d[m]! = rx ∧ d[c]! = ry) := ⟨hx, hy⟩
      clear hx hy HU1
      obtain ⟨xi, xx, xy, xv⟩ := rx
      obtain ⟨yi, yx, yy, yv⟩ := ry
      simp only [rv] at HCA
      have q3 : (c : Int) < (sz : Int) := by omega
      have q4 : (m : Int) < (sz : Int) := by omega
      go_wp2_with fail
      refine wp_region_held (S := TwoQ g m c ⟨xi, xx, xy, xv⟩ ⟨yi, yx, yy, yv⟩) (by kernel_rfl) ?_
      change wpAnyH _ _ _ _ _ _ _ _ (World.drew _)
      refine wpAnyH_take (i := 0) (v := ?_) rfl (by kernel_rfl) (by kernel_rfl) (by kernel_rfl) (fun _ _ _ h => h) (Or.inl ⟨by kernel_rfl, ?_⟩) HSW.out ?_
      rotate_left
      · intro w hS
        obtain ⟨⟨e0, e1, e2, e3⟩, f0, f1, f2, f3⟩ := hS
        go_simp
        try with_reducible rfl
      conv in (Act.put _ _ _) => simp only [List.getElem_toArray, List.getElem_cons_succ, List.getElem_cons_zero, Act.put, List.setIfInBounds_toArray, List.set_cons_succ, List.set_cons_zero]
      refine wpAnyH_take (i := 1) (v := ?_) rfl (by kernel_rfl) (by kernel_rfl) (by kernel_rfl) (fun _ _ _ h => h) (Or.inl ⟨by kernel_rfl, ?_⟩) HSW.out ?_
      rotate_left
      · intro w hS
        obtain ⟨⟨e0, e1, e2, e3⟩, f0, f1, f2, f3⟩ := hS
        go_simp
        try with_reducible rfl
      conv in (Act.put _ _ _) => simp only [List.getElem_toArray, List.getElem_cons_succ, List.getElem_cons_zero, Act.put, List.setIfInBounds_toArray, List.set_cons_succ, List.set_cons_zero]
      refine wpAnyH_take (i := 2) (v := ?_) rfl (by kernel_rfl) (by kernel_rfl) (by kernel_rfl) (fun _ _ _ h => h) (Or.inl ⟨by kernel_rfl, ?_⟩) HSW.out ?_
      rotate_left
      · intro w hS
        obtain ⟨⟨e0, e1, e2, e3⟩, f0, f1, f2, f3⟩ := hS
        go_simp
        try with_reducible rfl
      conv in (Act.put _ _ _) => simp only [List.getElem_toArray, List.getElem_cons_succ, List.getElem_cons_zero, Act.put, List.setIfInBounds_toArray, List.set_cons_succ, List.set_cons_zero]
      refine wpAnyH_take (i := 3) (v := ?_) rfl (by kernel_rfl) (by kernel_rfl) (by kernel_rfl) (fun _ _ _ h => h) (Or.inl ⟨by kernel_rfl, ?_⟩) HSW.out ?_
      rotate_left
      · intro w hS
        obtain ⟨⟨e0, e1, e2, e3⟩, f0, f1, f2, f3⟩ := hS
        go_simp
        try with_reducible rfl
      conv in (Act.put _ _ _) => simp only [List.getElem_toArray, List.getElem_cons_succ, List.getElem_cons_zero, Act.put, List.setIfInBounds_toArray, List.set_cons_succ, List.set_cons_zero]
      refine wpAnyH_take (i := 4) (v := ?_) rfl (by kernel_rfl) (by kernel_rfl) (by kernel_rfl) (fun _ _ _ h => h) (Or.inl ⟨by kernel_rfl, ?_⟩) HSW.out ?_
      rotate_left
      · intro w hS
        obtain ⟨⟨e0, e1, e2, e3⟩, f0, f1, f2, f3⟩ := hS
        go_simp
        try with_reducible rfl
      conv in (Act.put _ _ _) => simp only [List.getElem_toArray, List.getElem_cons_succ, List.getElem_cons_zero, Act.put, List.setIfInBounds_toArray, List.set_cons_succ, List.set_cons_zero]
      refine wpAnyH_take (i := 5) (v := ?_) rfl (by kernel_rfl) (by kernel_rfl) (by kernel_rfl) (fun _ _ _ h => h) (Or.inl ⟨by kernel_rfl, ?_⟩) HSW.out ?_
      rotate_left
      · intro w hS
        obtain ⟨⟨e0, e1, e2, e3⟩, f0, f1, f2, f3⟩ := hS
        go_simp
        try with_reducible rfl
      conv in (Act.put _ _ _) => simp only [List.getElem_toArray, List.getElem_cons_succ, List.getElem_cons_zero, Act.put, List.setIfInBounds_toArray, List.set_cons_succ, List.set_cons_zero]
      refine wpAnyH_take (i := 6) (v := ?_) rfl (by kernel_rfl) (by kernel_rfl) (by kernel_rfl) (fun _ _ _ h => h) (Or.inl ⟨by kernel_rfl, ?_⟩) HSW.out ?_
      rotate_left
      · intro w hS
        obtain ⟨⟨e0, e1, e2, e3⟩, f0, f1, f2, f3⟩ := hS
        go_simp
        try with_reducible rfl
      conv in (Act.put _ _ _) => simp only [List.getElem_toArray, List.getElem_cons_succ, List.getElem_cons_zero, Act.put, List.setIfInBounds_toArray, List.set_cons_succ, List.set_cons_zero]
      refine wpAnyH_take (i := 7) (v := ?_) rfl (by kernel_rfl) (by kernel_rfl) (by kernel_rfl) (fun _ _ _ h => h) (Or.inl ⟨by kernel_rfl, ?_⟩) HSW.out ?_
      rotate_left
      · intro w hS
        obtain ⟨⟨e0, e1, e2, e3⟩, f0, f1, f2, f3⟩ := hS
        go_simp
        try with_reducible rfl
      conv in (Act.put _ _ _) => simp only [List.getElem_toArray, List.getElem_cons_succ, List.getElem_cons_zero, Act.put, List.setIfInBounds_toArray, List.set_cons_succ, List.set_cons_zero]
      refine wpAnyH_take (i := 8) (v := ?_) rfl (by kernel_rfl) (by kernel_rfl) (by kernel_rfl) (fun _ _ _ h => h) (Or.inl ⟨by kernel_rfl, ?_⟩) HSW.out ?_
      rotate_left
      · intro w hS
        obtain ⟨⟨e0, e1, e2, e3⟩, f0, f1, f2, f3⟩ := hS
        go_simp
        try with_reducible rfl
      conv in (Act.put _ _ _) => simp only [List.getElem_toArray, List.getElem_cons_succ, List.getElem_cons_zero, Act.put, List.setIfInBounds_toArray, List.set_cons_succ, List.set_cons_zero]
      refine readyH 9 _ (by kernel_rfl) rfl (by kernel_rfl) (fun K hK => ?_)
      go_simp
      refine Calls.mono (HCA.out trivial) ?_
      rintro e w1 ⟨cv, rfl, hcl, b1, u1, t1⟩
      have HB1 : Hid (Bg g w w1) := HBG.out.trans b1
      have HU1 : Hid (Ur w1 g z d) := u1
      replace HSW : Hid (TwoQ g m c ⟨xi, xx, xy, xv⟩ ⟨yi, yx, yy, yv⟩ w1) := t1
      clear b1 u1 t1 HBG
      refine hK _ _ HSW.out ?_
      clear hK K
      by_cases hl : K ⟨xi, xx, xy, xv⟩ < K ⟨yi, yx, yy, yv⟩
      · have q8 : cv < 0 := hcl.2 hl
        have HE : Hid ((∀ k, a ≤ k → k < i → K d[k]! ≤ K d[m]!) ∧ (∀ k, c ≤ k → k < m → K d[m]! < K d[k]!)) := by
          refine ⟨HK.out.1, fun k h1 h2 => ?_⟩
          have e1 : K d[c]! ≤ K d[k]! := HS.out.le (by omega) h1 h2
          rw [HXY.out.2] at e1
          rw [HXY.out.1]
          omega
        clear hl hcl
        refine wpAnyH_take (i := 10) (v := ?_) rfl (by kernel_rfl) (by kernel_rfl) (by kernel_rfl) (fun _ _ _ h => h) (Or.inl ⟨by kernel_rfl, ?_⟩) HSW.out ?_
        rotate_left
        · intro w hS
          obtain ⟨⟨e0, e1, e2, e3⟩, f0, f1, f2, f3⟩ := hS
          go_simp
          try with_reducible rfl
        conv in (Act.put _ _ _) => simp only [List.getElem_toArray, List.getElem_cons_succ, List.getElem_cons_zero, Act.put, List.setIfInBounds_toArray, List.set_cons_succ, List.set_cons_zero]
        refine wpAnyH_take (i := 11) (v := ?_) rfl (by kernel_rfl) (by kernel_rfl) (by kernel_rfl) (fun _ _ _ h => h) (Or.inl ⟨by kernel_rfl, ?_⟩) HSW.out ?_
        rotate_left
        · intro w hS
          obtain ⟨⟨e0, e1, e2, e3⟩, f0, f1, f2, f3⟩ := hS
          go_simp
          try with_reducible rfl
        conv in (Act.put _ _ _) => simp only [List.getElem_toArray, List.getElem_cons_succ, List.getElem_cons_zero, Act.put, List.setIfInBounds_toArray, List.set_cons_succ, List.set_cons_zero]
        refine wpAnyH_done (by kernel_rfl) ?_ _
        go_wp2_with fail
        go_roundw
        case rel => exact ⟨i, c, rfl, rfl, by omega, HU1.out, HE.out, HB1.out⟩
        case measure => simp [natOf]; omega
      · have q8 : ¬ cv < 0 := fun h => hl (hcl.1 h)
        have HE : Hid ((∀ k, a ≤ k → k < c + 1 → K d[k]! ≤ K d[m]!) ∧ (∀ k, j ≤ k → k < m → K d[m]! < K d[k]!)) := by
          refine ⟨fun k h1 h2 => ?_, HK.out.2⟩
          have e1 : K d[k]! ≤ K d[c]! := HS.out.le h1 (by omega) (by omega)
          rw [HXY.out.2] at e1
          rw [HXY.out.1]
          omega
        clear hl hcl
        refine wpAnyH_take (i := 10) (v := ?_) rfl (by kernel_rfl) (by kernel_rfl) (by kernel_rfl) (fun _ _ _ h => h) (Or.inl ⟨by kernel_rfl, ?_⟩) HSW.out ?_
        rotate_left
        · intro w hS
          obtain ⟨⟨e0, e1, e2, e3⟩, f0, f1, f2, f3⟩ := hS
          go_simp
          try with_reducible rfl
        conv in (Act.put _ _ _) => simp only [List.getElem_toArray, List.getElem_cons_succ, List.getElem_cons_zero, Act.put, List.setIfInBounds_toArray, List.set_cons_succ, List.set_cons_zero]
        refine wpAnyH_take (i := 11) (v := ?_) rfl (by kernel_rfl) (by kernel_rfl) (by kernel_rfl) (fun _ _ _ h => h) (Or.inl ⟨by kernel_rfl, ?_⟩) HSW.out ?_
        rotate_left
        · intro w hS
          obtain ⟨⟨e0, e1, e2, e3⟩, f0, f1, f2, f3⟩ := hS
          go_simp
          try with_reducible rfl
        conv in (Act.put _ _ _) => simp only [List.getElem_toArray, List.getElem_cons_succ, List.getElem_cons_zero, Act.put, List.setIfInBounds_toArray, List.set_cons_succ, List.set_cons_zero]
        refine wpAnyH_done (by kernel_rfl) ?_ _
        go_wp2_with fail
        go_roundw
        case rel => exact ⟨c + 1, j, by go_num, rfl, by omega, HU1.out, HE.out, HB1.out⟩
        case measure => simp [natOf]; omega
    · have q2 : ¬ (i : Int) < (j : Int) := by omega
      obtain rfl : i = j := by omega
      go_wp2_with fail
      go_loopw [17] (fun kv wr => ∃ (k : Nat) (d1 : Array Rw), kv = .int .i64 (k : Int) ∧ (i ≤ k ∧ k ≤ m) ∧ Ur wr g z d1 ∧ Rot d d1 k m (m + 1) ∧ Sort.PermIn a b d d1 ∧ Bg g w wr) (fun kv _ => natOf kv)
      case atStart => exact ⟨m, d, rfl, by omega, HU1.out, Rot.left _ _ _, Sort.permIn_refl _ _ _, HBG.out⟩
      case round =>
        obtain ⟨k, d1, rfl, ⟨k0, k1⟩, hu, hr, hpm, hbg⟩ := hrel
        clear HU1 HBG
        by_cases hlt : i < k
        · obtain ⟨k', rfl⟩ : ∃ k', k = k' + 1 := ⟨k - 1, by omega⟩
          have S1 : d1.size = sz := hr.1.trans hsz
          have HRT : Hid (Rot d (Sort.swp d1 (k' + 1) k') k' m (m + 1)) := hr.down (by omega) (by omega)
          have HPM : Hid (Sort.PermIn a b d (Sort.swp d1 (k' + 1) k')) := Sort.permIn_trans _ _ _ _ _ hpm (Sort.swp_permIn _ _ _ _ _ (by omega) (by omega) (by omega) (by omega) (by omega))
          have HBG : Hid (Bg g w wr) := hbg
          clear hr hpm hbg
          have HWR := Ur.swp hu (k' + 1) k' (by omega) (by omega)
          obtain ⟨⟨x0, x1, x2, x3⟩, fz⟩ := hu.cell (k' + 1) (by omega)
          obtain ⟨⟨y0, y1, y2, y3⟩, -⟩ := hu.cell k' (by omega)
          obtain ⟨rx, hx⟩ : ∃ rx, d1[k' + 1]! = rx := ⟨_, rfl⟩
          obtain ⟨ry, hy⟩ : ∃ ry, d1[k']! = ry := ⟨_, rfl⟩
          rw [hx] at x0 x1 x2 x3
          rw [hy] at y0 y1 y2 y3
          rw [hx, hy] at HWR
          obtain ⟨xi, xx, xy, xv⟩ := rx
          obtain ⟨yi, yx, yy, yv⟩ := ry
          simp only [set4] at HWR
          have HW1 : Hid _ := HWR.1
          have HW2 : Hid _ := HWR.2
          have lg : g < wr.heap.size := hu.lt
          simp only at x0 x1 x2 x3 y0 y1 y2 y3
          clear HWR hx hy hu
          have hc : ((k' + 1 : Nat) : Int) = (k' : Int) + 1 := by omega
          rw [hc]
          clear hc
          have q4 : (i : Int) < (k' : Int) + 1 := by omega
          have q5 : (k' : Int) < (sz : Int) := by omega
          have q6 : (k' : Int) + 1 < (sz : Int) := by omega
          have q7 : IntKind.i64.wrap (k' : Int) = (k' : Int) := wrap_i64 (by omega) (by omega)
          go_wp2_with fail
          go_region
          go_wp2_with fail
          go_roundw
          case rel => exact ⟨k', _, by go_num, by omega, ur_drew HW1.out, HRT.out, HPM.out, (HBG.out.trans HW2.out).trans (Bg.drew _)⟩
          case measure => simp [natOf]
        · obtain rfl : k = i := by omega
          have HU1 : Hid (Ur wr g z d1) := hu
          have HE : Hid (Srt K a b d1) := by
            rw [← hm]
            exact sym_last HS.out (by omega) (by omega) HK.out.1 HK.out.2 hr
          have HPM : Hid (Sort.PermIn a b d d1) := hpm
          have HBG : Hid (Bg g w wr) := hbg
          clear hu hr hpm hbg
          have q4 : ¬ (k : Int) < (k : Int) := by omega
          go_wp2_with fail
          refine bodyPost_ret (results_none rfl _ _ _) rfl ?_
          exact ⟨rfl, d1, HU1.out, HE.out, HPM.out, HBG.out⟩
end Go.Proofs.Ytaiiclkfnahghaa.Rq
