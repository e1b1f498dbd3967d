/- The like, where the cut falls behind the middle; the recursion. -/
import Derived.Test.YtimdlohdmddnjaaPBS
namespace Go.Proofs.Ytimdlohdmddnjaa.Rq.Pz
open Go.RowKit Go.Lib Go.Shelf
open Go.Proofs.Ytimdlohdmddnjaa.Rc Go.Proofs.Ytimdlohdmddnjaa.Rq
set_option maxRecDepth 100000 in
set_option maxHeartbeats 8000000 in
theorem symM2_any (w0 : World) (ok : Pc → Prop) (K : Pc → Nat) (cf : Nat) (cb : Array Value) (hC : Cmp w0 ok (ltK K) cf cb) (g z cap N : Nat) (hg : w0.heap.size ≤ g) (IH : SymOk w0 ok K cf cb g z cap N) (a m b : Nat) (d : Array Pc) (hN : b - a ≤ N + 1) (ham : a + 1 < m) (hmb : m + 1 < b) (hb : b ≤ d.size) (hd : d.size ≤ 1000000) (hok : ∀ i, i < d.size → ok d[i]!) (hmm : ¬ (a + b) / 2 < m) (hs1 : Srt K a m d) (hs2 : Srt K m b d) (w : World) (h : Ur w g z d) (hW : Below w0.heap.size w0 w) :
    Calls Try.prog 98 #[.slice (some ⟨g, 0, none⟩) d.size cap, .int .i64 (a : Int), .int .i64 (m : Int), .int .i64 (b : Int), .func (.func cf) #[] cb] w fun e w' => e = .returned (.tuple #[]) ∧ ∃ d', Ur w' g z d' ∧ Srt K a b d' ∧ Sort.PermIn a b d d' ∧ Bg g w w' := by
  have HU : Hid (Ur w g z d) := h
  have HS : Hid (Srt K a m d ∧ Srt K m b d) := ⟨hs1, hs2⟩
  have HW : Hid (Below w0.heap.size w0 w) := hW
  have HCm : Hid (Cmp w0 ok (ltK K) cf cb) := hC
  have HOK : Hid (∀ i, i < d.size → ok d[i]!) := hok
  have HIH : Hid (SymOk w0 ok K cf cb g z cap N) := IH
  have HR : Hid _ := rotateR_any cf cb g z cap
  have heg := hC.eg
  clear h hs1 hs2 hW hC hok IH
  obtain ⟨sz, hsz⟩ : ∃ sz, d.size = sz := ⟨_, rfl⟩
  rw [hsz] at hb hd ⊢
  obtain ⟨ma, hma⟩ : ∃ ma, m - a = ma := ⟨_, rfl⟩
  obtain ⟨bm, hbm⟩ : ∃ bm, b - m = bm := ⟨_, rfl⟩
  obtain ⟨mid, hmid⟩ : ∃ mid, (a + b) / 2 = mid := ⟨_, rfl⟩
  obtain ⟨n, hn⟩ : ∃ n, mid + m = n := ⟨_, rfl⟩
  obtain ⟨p, hp⟩ : ∃ p, n - 1 = p := ⟨_, rfl⟩
  have q0 : IntKind.i64.wrap ((m : Int) - (a : Int)) = (ma : Int) := by rw [wrap_i64 (by omega) (by omega)]; omega
  have q0' : ((ma : Int) == 1) = false := by simp; omega
  have q1 : IntKind.i64.wrap ((b : Int) - (m : Int)) = (bm : Int) := by rw [wrap_i64 (by omega) (by omega)]; omega
  have q1' : ((bm : Int) == 1) = false := by simp; omega
  have q2 : ((a : Int) + (b : Int)) / 2 = (mid : Int) := by omega
  have q3 : (mid : Int) + (m : Int) = (n : Int) := by omega
  have q3' : IntKind.i64.wrap (n : Int) = (n : Int) := wrap_i64 (by omega) (by omega)
  have q4 : (n : Int) - 1 = (p : Int) := by omega
  have q4' : IntKind.i64.wrap (p : Int) = (p : Int) := wrap_i64 (by omega) (by omega)
  have hmid1 : a < mid ∧ mid < b := by omega
  rw [hmid] at hmm
  have hf : a ≤ m ∧ n - a ≤ b ∧ m ≤ n - m := by omega
  have y1 : ¬ (mid : Int) < (m : Int) := by omega
  go_enter Try.func98, Try.ntmps98
  go_wp2_with fail
  go_loopw [20, 21] (fun sv pv' wr => ∃ (s r : Nat), sv = .int .i64 (s : Int) ∧ pv' = .int .i64 (r : Int) ∧ (a ≤ s ∧ s ≤ r ∧ r ≤ m) ∧ Ur wr g z d ∧ ((∀ k, a ≤ k → k < s → K d[k]! ≤ K d[p - k]!) ∧ (∀ k, r ≤ k → k < m → K d[p - k]! < K d[k]!)) ∧ Bg g w wr) (fun sv pv' _ => natOf pv' - natOf sv)
  case atStart => exact ⟨a, m, rfl, rfl, by omega, HU.out, ⟨fun k h1 h2 => by omega, fun k h1 h2 => by omega⟩, But.refl _ _⟩
  case round =>
    obtain ⟨s, r, rfl, rfl, ⟨hs0, hsr, hr0⟩, hu, hk, hbg⟩ := hrel
    have HU1 : Hid (Ur wr g z d) := hu
    have HK : Hid _ := hk
    have HBG : Hid (Bg g w wr) := hbg
    clear hu hk hbg
    by_cases hlt : s < r
    · have z1 : (s : Int) < (r : Int) := by omega
      obtain ⟨c, hc⟩ : ∃ c, (s + r) / 2 = c := ⟨_, rfl⟩
      have z2 : ((s : Int) + (r : Int)) / 2 = (c : Int) := by omega
      obtain ⟨pc, hpc⟩ : ∃ pc, p - c = pc := ⟨_, rfl⟩
      have z3 : (p : Int) - (c : Int) = (pc : Int) := by omega
      have z3' : IntKind.i64.wrap (pc : Int) = (pc : Int) := wrap_i64 (by omega) (by omega)
      have hci : a ≤ c ∧ c < m ∧ m ≤ pc ∧ pc < b := by omega
      obtain ⟨rx, hx⟩ : ∃ rx, d[pc]! = rx := ⟨_, rfl⟩
      obtain ⟨ry, hy⟩ : ∃ ry, d[c]! = ry := ⟨_, rfl⟩
      have HCA : Hid (∀ _ : True, _) := fun _ => cmp_two HCm.out HU1.out HOK.out (below_bg hg HW.out HBG.out) (i := pc) (j := c) (by omega) (by omega) hx hy
      have HSW : Hid (TwoQ g pc c rx ry wr.drew) := HU1.out.twoq (by omega) (by omega) hx hy
      have HXY : Hid (d[pc]! = rx ∧ d[c]! = ry) := ⟨hx, hy⟩
      clear hx hy HU1
      obtain ⟨xi, xo, xn, xc⟩ := rx
      obtain ⟨yi, yo, yn, yc⟩ := ry
      simp only [pv] at HCA
      have z4 : (c : Int) < (sz : Int) := by omega
      have z5 : (pc : Int) < (sz : Int) := by omega
      go_wp2_with fail
      refine wp_region_held (S := TwoQ g pc c ⟨xi, xo, xn, xc⟩ ⟨yi, yo, yn, yc⟩) (by kernel_rfl) ?_
      change wpAnyH _ _ _ _ _ _ _ _ (World.drew _)
      refine wpAnyH_take (i := 0) (v := ?_) rfl (by kernel_rfl) (by kernel_rfl) (by kernel_rfl) (fun _ _ _ h => h) (Or.inl ⟨by kernel_rfl, ?_⟩) HSW.out ?_
      rotate_left
      · rintro w ⟨⟨e0,e1⟩,f0,f1⟩; go_simp; try with_reducible rfl
      conv in (Act.put _ _ _) => simp only [List.getElem_toArray, List.getElem_cons_succ, List.getElem_cons_zero, Act.put, List.setIfInBounds_toArray, List.set_cons_succ, List.set_cons_zero]
      refine wpAnyH_take (i := 1) (v := ?_) rfl (by kernel_rfl) (by kernel_rfl) (by kernel_rfl) (fun _ _ _ h => h) (Or.inl ⟨by kernel_rfl, ?_⟩) HSW.out ?_
      rotate_left
      · rintro w ⟨⟨e0,e1⟩,f0,f1⟩; go_simp; try with_reducible rfl
      conv in (Act.put _ _ _) => simp only [List.getElem_toArray, List.getElem_cons_succ, List.getElem_cons_zero, Act.put, List.setIfInBounds_toArray, List.set_cons_succ, List.set_cons_zero]
      refine wpAnyH_take (i := 2) (v := ?_) rfl (by kernel_rfl) (by kernel_rfl) (by kernel_rfl) (fun _ _ _ h => h) (Or.inl ⟨by kernel_rfl, ?_⟩) HSW.out ?_
      rotate_left
      · rintro w ⟨⟨e0,e1⟩,f0,f1⟩; go_simp; try with_reducible rfl
      conv in (Act.put _ _ _) => simp only [List.getElem_toArray, List.getElem_cons_succ, List.getElem_cons_zero, Act.put, List.setIfInBounds_toArray, List.set_cons_succ, List.set_cons_zero]
      refine wpAnyH_take (i := 3) (v := ?_) rfl (by kernel_rfl) (by kernel_rfl) (by kernel_rfl) (fun _ _ _ h => h) (Or.inl ⟨by kernel_rfl, ?_⟩) HSW.out ?_
      rotate_left
      · rintro w ⟨⟨e0,e1⟩,f0,f1⟩; go_simp; try with_reducible rfl
      conv in (Act.put _ _ _) => simp only [List.getElem_toArray, List.getElem_cons_succ, List.getElem_cons_zero, Act.put, List.setIfInBounds_toArray, List.set_cons_succ, List.set_cons_zero]
      refine wpAnyH_take (i := 4) (v := .int .i64 (pc : Int)) rfl (by kernel_rfl) (by kernel_rfl) (by kernel_rfl) (fun _ _ _ h => h) (Or.inl ⟨by kernel_rfl, ?_⟩) HSW.out ?_
      · intro w hS
        go_simp
        try rw [z3]
        try rw [z3']
      conv in (Act.put _ _ _) => simp only [List.getElem_toArray, List.getElem_cons_succ, List.getElem_cons_zero, Act.put, List.setIfInBounds_toArray, List.set_cons_succ, List.set_cons_zero]
      refine wpAnyH_take (i := 5) (v := ?_) rfl (by kernel_rfl) (by kernel_rfl) (by kernel_rfl) (fun _ _ _ h => h) (Or.inl ⟨by kernel_rfl, ?_⟩) HSW.out ?_
      rotate_left
      · rintro w ⟨⟨e0,e1⟩,f0,f1⟩; go_simp; try with_reducible rfl
      conv in (Act.put _ _ _) => simp only [List.getElem_toArray, List.getElem_cons_succ, List.getElem_cons_zero, Act.put, List.setIfInBounds_toArray, List.set_cons_succ, List.set_cons_zero]
      refine wpAnyH_take (i := 6) (v := ?_) rfl (by kernel_rfl) (by kernel_rfl) (by kernel_rfl) (fun _ _ _ h => h) (Or.inl ⟨by kernel_rfl, ?_⟩) HSW.out ?_
      rotate_left
      · rintro w ⟨⟨e0,e1⟩,f0,f1⟩; go_simp; try with_reducible rfl
      conv in (Act.put _ _ _) => simp only [List.getElem_toArray, List.getElem_cons_succ, List.getElem_cons_zero, Act.put, List.setIfInBounds_toArray, List.set_cons_succ, List.set_cons_zero]
      refine wpAnyH_take (i := 7) (v := ?_) rfl (by kernel_rfl) (by kernel_rfl) (by kernel_rfl) (fun _ _ _ h => h) (Or.inl ⟨by kernel_rfl, ?_⟩) HSW.out ?_
      rotate_left
      · rintro w ⟨⟨e0,e1⟩,f0,f1⟩; go_simp; try with_reducible rfl
      conv in (Act.put _ _ _) => simp only [List.getElem_toArray, List.getElem_cons_succ, List.getElem_cons_zero, Act.put, List.setIfInBounds_toArray, List.set_cons_succ, List.set_cons_zero]
      refine wpAnyH_take (i := 8) (v := ?_) rfl (by kernel_rfl) (by kernel_rfl) (by kernel_rfl) (fun _ _ _ h => h) (Or.inl ⟨by kernel_rfl, ?_⟩) HSW.out ?_
      rotate_left
      · rintro w ⟨⟨e0,e1⟩,f0,f1⟩; go_simp; try with_reducible rfl
      conv in (Act.put _ _ _) => simp only [List.getElem_toArray, List.getElem_cons_succ, List.getElem_cons_zero, Act.put, List.setIfInBounds_toArray, List.set_cons_succ, List.set_cons_zero]
      refine wpAnyH_take (i := 9) (v := ?_) rfl (by kernel_rfl) (by kernel_rfl) (by kernel_rfl) (fun _ _ _ h => h) (Or.inl ⟨by kernel_rfl, ?_⟩) HSW.out ?_
      rotate_left
      · rintro w ⟨⟨e0,e1⟩,f0,f1⟩; go_simp; try with_reducible rfl
      conv in (Act.put _ _ _) => simp only [List.getElem_toArray, List.getElem_cons_succ, List.getElem_cons_zero, Act.put, List.setIfInBounds_toArray, List.set_cons_succ, List.set_cons_zero]
      refine wpAnyH_take (i := 10) (v := ?_) rfl (by kernel_rfl) (by kernel_rfl) (by kernel_rfl) (fun _ _ _ h => h) (Or.inl ⟨by kernel_rfl, ?_⟩) HSW.out ?_
      rotate_left
      · rintro w ⟨⟨e0,e1⟩,f0,f1⟩; go_simp; try with_reducible rfl
      conv in (Act.put _ _ _) => simp only [List.getElem_toArray, List.getElem_cons_succ, List.getElem_cons_zero, Act.put, List.setIfInBounds_toArray, List.set_cons_succ, List.set_cons_zero]
      refine readyH 11 _ (by kernel_rfl) rfl (by kernel_rfl) (fun K hK => ?_)
      go_simp
      refine Calls.mono (HCA.out trivial) ?_
      rintro e w1 ⟨cv, rfl, hcl, b1, u1, t1⟩
      have HB1 : Hid (Bg g w w1) := HBG.out.trans b1
      have HU1 : Hid (Ur w1 g z d) := u1
      replace HSW : Hid (TwoQ g pc c ⟨xi, xo, xn, xc⟩ ⟨yi, yo, yn, yc⟩ w1) := t1
      clear b1 u1 t1 HBG
      refine hK _ _ HSW.out ?_
      clear hK K
      by_cases hl : K ⟨xi, xo, xn, xc⟩ < K ⟨yi, yo, yn, yc⟩
      · have q8 : cv < 0 := hcl.2 hl
        have HE : Hid ((∀ k, a ≤ k → k < s → K d[k]! ≤ K d[p - k]!) ∧ (∀ k, c ≤ k → k < m → K d[p - k]! < K d[k]!)) := by
          refine ⟨HK.out.1, fun k h1 h2 => ?_⟩
          have e1 : K d[c]! ≤ K d[k]! := HS.out.1.le (by omega) h1 (by omega)
          have e2 : K d[p - k]! ≤ K d[pc]! := HS.out.2.le (by omega) (by omega) (by omega)
          rw [HXY.out.2] at e1
          rw [HXY.out.1] at e2
          omega
        clear hl hcl
        refine wpAnyH_take (i := 12) (v := ?_) rfl (by kernel_rfl) (by kernel_rfl) (by kernel_rfl) (fun _ _ _ h => h) (Or.inl ⟨by kernel_rfl, ?_⟩) HSW.out ?_
        rotate_left
        · rintro w ⟨⟨e0,e1⟩,f0,f1⟩; go_simp; try with_reducible rfl
        conv in (Act.put _ _ _) => simp only [List.getElem_toArray, List.getElem_cons_succ, List.getElem_cons_zero, Act.put, List.setIfInBounds_toArray, List.set_cons_succ, List.set_cons_zero]
        refine wpAnyH_take (i := 13) (v := ?_) rfl (by kernel_rfl) (by kernel_rfl) (by kernel_rfl) (fun _ _ _ h => h) (Or.inl ⟨by kernel_rfl, ?_⟩) HSW.out ?_
        rotate_left
        · rintro w ⟨⟨e0,e1⟩,f0,f1⟩; go_simp; try with_reducible rfl
        conv in (Act.put _ _ _) => simp only [List.getElem_toArray, List.getElem_cons_succ, List.getElem_cons_zero, Act.put, List.setIfInBounds_toArray, List.set_cons_succ, List.set_cons_zero]
        refine wpAnyH_done (by kernel_rfl) ?_ _
        go_wp2_with fail
        go_roundw
        case rel => exact ⟨s, c, rfl, rfl, by omega, HU1.out, HE.out, HB1.out⟩
        case measure => simp [natOf]; omega
      · have q8 : ¬ cv < 0 := fun h => hl (hcl.1 h)
        have HE : Hid ((∀ k, a ≤ k → k < c + 1 → K d[k]! ≤ K d[p - k]!) ∧ (∀ k, r ≤ k → k < m → K d[p - k]! < K d[k]!)) := by
          refine ⟨fun k h1 h2 => ?_, HK.out.2⟩
          have e1 : K d[k]! ≤ K d[c]! := HS.out.1.le (by omega) (by omega) (by omega)
          have e2 : K d[pc]! ≤ K d[p - k]! := HS.out.2.le (by omega) (by omega) (by omega)
          rw [HXY.out.2] at e1
          rw [HXY.out.1] at e2
          omega
        clear hl hcl
        refine wpAnyH_take (i := 12) (v := ?_) rfl (by kernel_rfl) (by kernel_rfl) (by kernel_rfl) (fun _ _ _ h => h) (Or.inl ⟨by kernel_rfl, ?_⟩) HSW.out ?_
        rotate_left
        · rintro w ⟨⟨e0,e1⟩,f0,f1⟩; go_simp; try with_reducible rfl
        conv in (Act.put _ _ _) => simp only [List.getElem_toArray, List.getElem_cons_succ, List.getElem_cons_zero, Act.put, List.setIfInBounds_toArray, List.set_cons_succ, List.set_cons_zero]
        refine wpAnyH_take (i := 13) (v := ?_) rfl (by kernel_rfl) (by kernel_rfl) (by kernel_rfl) (fun _ _ _ h => h) (Or.inl ⟨by kernel_rfl, ?_⟩) HSW.out ?_
        rotate_left
        · rintro w ⟨⟨e0,e1⟩,f0,f1⟩; go_simp; try with_reducible rfl
        conv in (Act.put _ _ _) => simp only [List.getElem_toArray, List.getElem_cons_succ, List.getElem_cons_zero, Act.put, List.setIfInBounds_toArray, List.set_cons_succ, List.set_cons_zero]
        refine wpAnyH_done (by kernel_rfl) ?_ _
        go_wp2_with fail
        go_roundw
        case rel => exact ⟨c + 1, r, by go_num, rfl, by omega, HU1.out, HE.out, HB1.out⟩
        case measure => simp [natOf]; omega
    · have z1 : ¬ (s : Int) < (r : Int) := by omega
      obtain rfl : s = r := by omega
      obtain ⟨e, he⟩ : ∃ e, n - s = e := ⟨_, rfl⟩
      have z2 : (n : Int) - (s : Int) = (e : Int) := by omega
      have z2' : IntKind.i64.wrap (e : Int) = (e : Int) := wrap_i64 (by omega) (by omega)
      clear HCm heg
      have HX1 : a < s → e < b → K d[s - 1]! ≤ K d[e]! := fun h1 h2 => by
        have := HK.out.1 (s - 1) (by omega) (by omega)
        rwa [show p - (s - 1) = e by omega] at this
      have HX2 : s < m → m < e → K d[e - 1]! < K d[s]! := fun h1 h2 => by
        have := HK.out.2 s (by omega) (by omega)
        rwa [show p - s = e - 1 by omega] at this
      have HCUTf : Hid (∀ d1, Rot d d1 s m e → Srt K a s d1 ∧ Srt K s mid d1 ∧ Srt K mid e d1 ∧ Srt K e b d1 ∧ ∀ i j, a ≤ i → i < mid → mid ≤ j → j < b → K d1[i]! ≤ K d1[j]!) := fun d1 hR => sym_cut HS.out.1 HS.out.2 (by omega) (by omega) hmid1 (by omega) (by omega) (by omega) (by omega) (by omega) HX1 HX2 hR
      clear HX1 HX2 HK
      by_cases hrot : s < m ∧ m < e
      · have t1 : (s : Int) < (m : Int) := by omega
        have t2 : (m : Int) < (e : Int) := by omega
        have HR1 : Hid (∀ _ : True, _) := fun _ => HR.out s m e d (by omega) (by omega) (by omega) (by omega) wr HU1.out
        rw [hsz] at HR1
        go_wp2_with fail
        refine (HR1.out trivial).mono ?_
        rintro ee w3 ⟨rfl, d3, u3, r3, p3, b3⟩
        have U1 : Hid (Ur w3 g z d3) := u3
        have P1 : Hid (Sort.PermIn a b d d3) := Sort.permIn_mono _ _ _ _ _ _ (by omega) (by omega) (by omega) p3
        have HCUT : Hid _ := HCUTf.out d3 r3
        have B1 : Hid (Bg g w w3) := HBG.out.trans b3
        clear u3 r3 p3 b3 HR1 HCUTf HR
        by_cases hlf : a < s ∧ s < mid
        · first
            | (exfalso; omega)
            | (skip
               have l1 : (a : Int) < (s : Int) := by omega
               have l2 : (s : Int) < (mid : Int) := by omega
               have HI1 : Hid (∀ _ : True, _) := fun _ => HIH.out a s mid d3 (by omega) (by omega) (by omega) (by have := P1.out.1; omega) (by have := P1.out.1; omega) (ok_perm (by omega) P1.out HOK.out) HCUT.out.1 HCUT.out.2.1 w3 U1.out (below_bg hg HW.out B1.out)
               rw [P1.out.1, hsz] at HI1
               go_wp2_with fail
               refine (HI1.out trivial).mono ?_
               rintro ee w4 ⟨rfl, d4, u4, s4, p4, b4⟩
               have U2 : Hid (Ur w4 g z d4) := u4
               have L2 : Hid (Sort.PermIn a mid d3 d4 ∧ Srt K a mid d4) := ⟨p4, s4⟩
               have B2 : Hid (Bg g w w4) := B1.out.trans b4
               have D2 : Hid (Sort.PermIn a b d d4) := Sort.permIn_trans _ _ _ _ _ P1.out (Sort.permIn_mono _ _ _ _ _ _ (by omega) (by omega) (by have := P1.out.1; omega) p4)
               clear u4 s4 p4 b4 HI1
               by_cases hrt : mid < e ∧ e < b
               · first
                   | (exfalso; omega)
                   | (skip
                      have r1 : (mid : Int) < (e : Int) := by omega
                      have r2 : (e : Int) < (b : Int) := by omega
                      have HI1 : Hid (∀ _ : True, _) := fun _ => HIH.out mid e b d4 (by omega) (by omega) (by omega) (by have := D2.out.1; omega) (by have := D2.out.1; omega) (ok_perm (by omega) D2.out HOK.out) (HCUT.out.2.2.1.congr fun k hk _ => L2.out.1.2.1 k (by omega)) (HCUT.out.2.2.2.1.congr fun k hk _ => L2.out.1.2.1 k (by omega)) w4 U2.out (below_bg hg HW.out B2.out)
                      rw [D2.out.1, hsz] at HI1
                      go_wp2_with fail
                      refine (HI1.out trivial).mono ?_
                      rintro ee w5 ⟨rfl, d5, u5, s5, p5, b5⟩
                      have HF : Hid (Ur w5 g z d5 ∧ Srt K a b d5 ∧ Sort.PermIn a b d d5 ∧ Bg g w w5) := ⟨u5, sym_join (by have := P1.out.1; omega) (by omega) (by omega) HCUT.out.2.2.2.2 L2.out.1 L2.out.2 p5 s5, Sort.permIn_trans _ _ _ _ _ D2.out (Sort.permIn_mono _ _ _ _ _ _ (by omega) (by omega) (by have := D2.out.1; omega) p5), B2.out.trans b5⟩
                      clear u5 s5 p5 b5 HI1
                      go_wp2_with fail
                      refine bodyPost_end (results_none rfl _ _ _) rfl ?_
                      exact ⟨rfl, d5, HF.out⟩)
               · have HF : Hid (Ur w4 g z d4 ∧ Srt K a b d4 ∧ Sort.PermIn a b d d4 ∧ Bg g w w4) := ⟨U2.out, sym_join (by have := P1.out.1; omega) (by omega) (by omega) HCUT.out.2.2.2.2 L2.out.1 L2.out.2 (Sort.permIn_refl _ _ _) ((srt_right HCUT.out.2.2.1 HCUT.out.2.2.2.1 (by omega) hrt).congr fun k hk _ => L2.out.1.2.1 k (by omega)), D2.out, B2.out⟩
                 by_cases r1 : mid < e
                 · have r2 : (mid : Int) < (e : Int) := by omega
                   have r3 : ¬ (e : Int) < (b : Int) := by omega
                   first
                     | (exfalso; omega)
                     | (skip
                        go_wp2_with fail
                        refine bodyPost_end (results_none rfl _ _ _) rfl ?_
                        exact ⟨rfl, d4, HF.out⟩)
                 · have r2 : ¬ (mid : Int) < (e : Int) := by omega
                   first
                     | (exfalso; omega)
                     | (skip
                        go_wp2_with fail
                        refine bodyPost_end (results_none rfl _ _ _) rfl ?_
                        exact ⟨rfl, d4, HF.out⟩))
        · have U2 : Hid (Ur w3 g z d3) := U1.out
          have L2 : Hid (Sort.PermIn a mid d3 d3 ∧ Srt K a mid d3) := ⟨Sort.permIn_refl _ _ _, srt_left HCUT.out.1 HCUT.out.2.1 (by omega) hlf⟩
          have B2 : Hid (Bg g w w3) := B1.out
          have D2 : Hid (Sort.PermIn a b d d3) := P1.out
          by_cases l1 : a < s
          · have l2 : (a : Int) < (s : Int) := by omega
            have l3 : ¬ (s : Int) < (mid : Int) := by omega
            first
              | (exfalso; omega)
              | (skip
                 by_cases hrt : mid < e ∧ e < b
                 · first
                     | (exfalso; omega)
                     | (skip
                        have r1 : (mid : Int) < (e : Int) := by omega
                        have r2 : (e : Int) < (b : Int) := by omega
                        have HI1 : Hid (∀ _ : True, _) := fun _ => HIH.out mid e b d3 (by omega) (by omega) (by omega) (by have := D2.out.1; omega) (by have := D2.out.1; omega) (ok_perm (by omega) D2.out HOK.out) (HCUT.out.2.2.1.congr fun k hk _ => L2.out.1.2.1 k (by omega)) (HCUT.out.2.2.2.1.congr fun k hk _ => L2.out.1.2.1 k (by omega)) w3 U2.out (below_bg hg HW.out B2.out)
                        rw [D2.out.1, hsz] at HI1
                        go_wp2_with fail
                        refine (HI1.out trivial).mono ?_
                        rintro ee w5 ⟨rfl, d5, u5, s5, p5, b5⟩
                        have HF : Hid (Ur w5 g z d5 ∧ Srt K a b d5 ∧ Sort.PermIn a b d d5 ∧ Bg g w w5) := ⟨u5, sym_join (by have := P1.out.1; omega) (by omega) (by omega) HCUT.out.2.2.2.2 L2.out.1 L2.out.2 p5 s5, Sort.permIn_trans _ _ _ _ _ D2.out (Sort.permIn_mono _ _ _ _ _ _ (by omega) (by omega) (by have := D2.out.1; omega) p5), B2.out.trans b5⟩
                        clear u5 s5 p5 b5 HI1
                        go_wp2_with fail
                        refine bodyPost_end (results_none rfl _ _ _) rfl ?_
                        exact ⟨rfl, d5, HF.out⟩)
                 · have HF : Hid (Ur w3 g z d3 ∧ Srt K a b d3 ∧ Sort.PermIn a b d d3 ∧ Bg g w w3) := ⟨U2.out, sym_join (by have := P1.out.1; omega) (by omega) (by omega) HCUT.out.2.2.2.2 L2.out.1 L2.out.2 (Sort.permIn_refl _ _ _) ((srt_right HCUT.out.2.2.1 HCUT.out.2.2.2.1 (by omega) hrt).congr fun k hk _ => L2.out.1.2.1 k (by omega)), D2.out, B2.out⟩
                   by_cases r1 : mid < e
                   · have r2 : (mid : Int) < (e : Int) := by omega
                     have r3 : ¬ (e : Int) < (b : Int) := by omega
                     first
                       | (exfalso; omega)
                       | (skip
                          go_wp2_with fail
                          refine bodyPost_end (results_none rfl _ _ _) rfl ?_
                          exact ⟨rfl, d3, HF.out⟩)
                   · have r2 : ¬ (mid : Int) < (e : Int) := by omega
                     first
                       | (exfalso; omega)
                       | (skip
                          go_wp2_with fail
                          refine bodyPost_end (results_none rfl _ _ _) rfl ?_
                          exact ⟨rfl, d3, HF.out⟩))
          · have l2 : ¬ (a : Int) < (s : Int) := by omega
            first
              | (exfalso; omega)
              | (skip
                 by_cases hrt : mid < e ∧ e < b
                 · first
                     | (exfalso; omega)
                     | (skip
                        have r1 : (mid : Int) < (e : Int) := by omega
                        have r2 : (e : Int) < (b : Int) := by omega
                        have HI1 : Hid (∀ _ : True, _) := fun _ => HIH.out mid e b d3 (by omega) (by omega) (by omega) (by have := D2.out.1; omega) (by have := D2.out.1; omega) (ok_perm (by omega) D2.out HOK.out) (HCUT.out.2.2.1.congr fun k hk _ => L2.out.1.2.1 k (by omega)) (HCUT.out.2.2.2.1.congr fun k hk _ => L2.out.1.2.1 k (by omega)) w3 U2.out (below_bg hg HW.out B2.out)
                        rw [D2.out.1, hsz] at HI1
                        go_wp2_with fail
                        refine (HI1.out trivial).mono ?_
                        rintro ee w5 ⟨rfl, d5, u5, s5, p5, b5⟩
                        have HF : Hid (Ur w5 g z d5 ∧ Srt K a b d5 ∧ Sort.PermIn a b d d5 ∧ Bg g w w5) := ⟨u5, sym_join (by have := P1.out.1; omega) (by omega) (by omega) HCUT.out.2.2.2.2 L2.out.1 L2.out.2 p5 s5, Sort.permIn_trans _ _ _ _ _ D2.out (Sort.permIn_mono _ _ _ _ _ _ (by omega) (by omega) (by have := D2.out.1; omega) p5), B2.out.trans b5⟩
                        clear u5 s5 p5 b5 HI1
                        go_wp2_with fail
                        refine bodyPost_end (results_none rfl _ _ _) rfl ?_
                        exact ⟨rfl, d5, HF.out⟩)
                 · have HF : Hid (Ur w3 g z d3 ∧ Srt K a b d3 ∧ Sort.PermIn a b d d3 ∧ Bg g w w3) := ⟨U2.out, sym_join (by have := P1.out.1; omega) (by omega) (by omega) HCUT.out.2.2.2.2 L2.out.1 L2.out.2 (Sort.permIn_refl _ _ _) ((srt_right HCUT.out.2.2.1 HCUT.out.2.2.2.1 (by omega) hrt).congr fun k hk _ => L2.out.1.2.1 k (by omega)), D2.out, B2.out⟩
                   by_cases r1 : mid < e
                   · have r2 : (mid : Int) < (e : Int) := by omega
                     have r3 : ¬ (e : Int) < (b : Int) := by omega
                     first
                       | (exfalso; omega)
                       | (skip
                          go_wp2_with fail
                          refine bodyPost_end (results_none rfl _ _ _) rfl ?_
                          exact ⟨rfl, d3, HF.out⟩)
                   · have r2 : ¬ (mid : Int) < (e : Int) := by omega
                     first
                       | (exfalso; omega)
                       | (skip
                          go_wp2_with fail
                          refine bodyPost_end (results_none rfl _ _ _) rfl ?_
                          exact ⟨rfl, d3, HF.out⟩))
      · have U1 : Hid (Ur wr g z d) := HU1.out
        have P1 : Hid (Sort.PermIn a b d d) := Sort.permIn_refl _ _ _
        have B1 : Hid (Bg g w wr) := HBG.out
        by_cases t1 : s < m
        · have HCUT : Hid _ := HCUTf.out d (by rw [show e = m by omega]; exact Rot.right _ _ _)
          have t2 : (s : Int) < (m : Int) := by omega
          have t3 : ¬ (m : Int) < (e : Int) := by omega
          clear HCUTf HR
          first
            | (exfalso; omega)
            | (skip
               by_cases hlf : a < s ∧ s < mid
               · first
                   | (exfalso; omega)
                   | (skip
                      have l1 : (a : Int) < (s : Int) := by omega
                      have l2 : (s : Int) < (mid : Int) := by omega
                      have HI1 : Hid (∀ _ : True, _) := fun _ => HIH.out a s mid d (by omega) (by omega) (by omega) (by omega) (by omega) (ok_perm (by omega) P1.out HOK.out) HCUT.out.1 HCUT.out.2.1 wr U1.out (below_bg hg HW.out B1.out)
                      rw [hsz] at HI1
                      go_wp2_with fail
                      refine (HI1.out trivial).mono ?_
                      rintro ee w4 ⟨rfl, d4, u4, s4, p4, b4⟩
                      have U2 : Hid (Ur w4 g z d4) := u4
                      have L2 : Hid (Sort.PermIn a mid d d4 ∧ Srt K a mid d4) := ⟨p4, s4⟩
                      have B2 : Hid (Bg g w w4) := B1.out.trans b4
                      have D2 : Hid (Sort.PermIn a b d d4) := Sort.permIn_trans _ _ _ _ _ P1.out (Sort.permIn_mono _ _ _ _ _ _ (by omega) (by omega) (by omega) p4)
                      clear u4 s4 p4 b4 HI1
                      by_cases hrt : mid < e ∧ e < b
                      · first
                          | (exfalso; omega)
                          | (skip
                             have r1 : (mid : Int) < (e : Int) := by omega
                             have r2 : (e : Int) < (b : Int) := by omega
                             have HI1 : Hid (∀ _ : True, _) := fun _ => HIH.out mid e b d4 (by omega) (by omega) (by omega) (by omega) (by omega) (ok_perm (by omega) D2.out HOK.out) (HCUT.out.2.2.1.congr fun k hk _ => L2.out.1.2.1 k (by omega)) (HCUT.out.2.2.2.1.congr fun k hk _ => L2.out.1.2.1 k (by omega)) w4 U2.out (below_bg hg HW.out B2.out)
                             rw [D2.out.1, hsz] at HI1
                             go_wp2_with fail
                             refine (HI1.out trivial).mono ?_
                             rintro ee w5 ⟨rfl, d5, u5, s5, p5, b5⟩
                             have HF : Hid (Ur w5 g z d5 ∧ Srt K a b d5 ∧ Sort.PermIn a b d d5 ∧ Bg g w w5) := ⟨u5, sym_join (by omega) (by omega) (by omega) HCUT.out.2.2.2.2 L2.out.1 L2.out.2 p5 s5, Sort.permIn_trans _ _ _ _ _ D2.out (Sort.permIn_mono _ _ _ _ _ _ (by omega) (by omega) (by omega) p5), B2.out.trans b5⟩
                             clear u5 s5 p5 b5 HI1
                             go_wp2_with fail
                             refine bodyPost_end (results_none rfl _ _ _) rfl ?_
                             exact ⟨rfl, d5, HF.out⟩)
                      · have HF : Hid (Ur w4 g z d4 ∧ Srt K a b d4 ∧ Sort.PermIn a b d d4 ∧ Bg g w w4) := ⟨U2.out, sym_join (by omega) (by omega) (by omega) HCUT.out.2.2.2.2 L2.out.1 L2.out.2 (Sort.permIn_refl _ _ _) ((srt_right HCUT.out.2.2.1 HCUT.out.2.2.2.1 (by omega) hrt).congr fun k hk _ => L2.out.1.2.1 k (by omega)), D2.out, B2.out⟩
                        by_cases r1 : mid < e
                        · have r2 : (mid : Int) < (e : Int) := by omega
                          have r3 : ¬ (e : Int) < (b : Int) := by omega
                          first
                            | (exfalso; omega)
                            | (skip
                               go_wp2_with fail
                               refine bodyPost_end (results_none rfl _ _ _) rfl ?_
                               exact ⟨rfl, d4, HF.out⟩)
                        · have r2 : ¬ (mid : Int) < (e : Int) := by omega
                          first
                            | (exfalso; omega)
                            | (skip
                               go_wp2_with fail
                               refine bodyPost_end (results_none rfl _ _ _) rfl ?_
                               exact ⟨rfl, d4, HF.out⟩))
               · have U2 : Hid (Ur wr g z d) := U1.out
                 have L2 : Hid (Sort.PermIn a mid d d ∧ Srt K a mid d) := ⟨Sort.permIn_refl _ _ _, srt_left HCUT.out.1 HCUT.out.2.1 (by omega) hlf⟩
                 have B2 : Hid (Bg g w wr) := B1.out
                 have D2 : Hid (Sort.PermIn a b d d) := P1.out
                 by_cases l1 : a < s
                 · have l2 : (a : Int) < (s : Int) := by omega
                   have l3 : ¬ (s : Int) < (mid : Int) := by omega
                   first
                     | (exfalso; omega)
                     | (skip
                        by_cases hrt : mid < e ∧ e < b
                        · first
                            | (exfalso; omega)
                            | (skip
                               have r1 : (mid : Int) < (e : Int) := by omega
                               have r2 : (e : Int) < (b : Int) := by omega
                               have HI1 : Hid (∀ _ : True, _) := fun _ => HIH.out mid e b d (by omega) (by omega) (by omega) (by omega) (by omega) (ok_perm (by omega) D2.out HOK.out) (HCUT.out.2.2.1.congr fun k hk _ => L2.out.1.2.1 k (by omega)) (HCUT.out.2.2.2.1.congr fun k hk _ => L2.out.1.2.1 k (by omega)) wr U2.out (below_bg hg HW.out B2.out)
                               rw [D2.out.1, hsz] at HI1
                               go_wp2_with fail
                               refine (HI1.out trivial).mono ?_
                               rintro ee w5 ⟨rfl, d5, u5, s5, p5, b5⟩
                               have HF : Hid (Ur w5 g z d5 ∧ Srt K a b d5 ∧ Sort.PermIn a b d d5 ∧ Bg g w w5) := ⟨u5, sym_join (by omega) (by omega) (by omega) HCUT.out.2.2.2.2 L2.out.1 L2.out.2 p5 s5, Sort.permIn_trans _ _ _ _ _ D2.out (Sort.permIn_mono _ _ _ _ _ _ (by omega) (by omega) (by omega) p5), B2.out.trans b5⟩
                               clear u5 s5 p5 b5 HI1
                               go_wp2_with fail
                               refine bodyPost_end (results_none rfl _ _ _) rfl ?_
                               exact ⟨rfl, d5, HF.out⟩)
                        · have HF : Hid (Ur wr g z d ∧ Srt K a b d ∧ Sort.PermIn a b d d ∧ Bg g w wr) := ⟨U2.out, sym_join (by omega) (by omega) (by omega) HCUT.out.2.2.2.2 L2.out.1 L2.out.2 (Sort.permIn_refl _ _ _) ((srt_right HCUT.out.2.2.1 HCUT.out.2.2.2.1 (by omega) hrt).congr fun k hk _ => L2.out.1.2.1 k (by omega)), D2.out, B2.out⟩
                          by_cases r1 : mid < e
                          · have r2 : (mid : Int) < (e : Int) := by omega
                            have r3 : ¬ (e : Int) < (b : Int) := by omega
                            first
                              | (exfalso; omega)
                              | (skip
                                 go_wp2_with fail
                                 refine bodyPost_end (results_none rfl _ _ _) rfl ?_
                                 exact ⟨rfl, d, HF.out⟩)
                          · have r2 : ¬ (mid : Int) < (e : Int) := by omega
                            first
                              | (exfalso; omega)
                              | (skip
                                 go_wp2_with fail
                                 refine bodyPost_end (results_none rfl _ _ _) rfl ?_
                                 exact ⟨rfl, d, HF.out⟩))
                 · have l2 : ¬ (a : Int) < (s : Int) := by omega
                   first
                     | (exfalso; omega)
                     | (skip
                        by_cases hrt : mid < e ∧ e < b
                        · first
                            | (exfalso; omega)
                            | (skip
                               have r1 : (mid : Int) < (e : Int) := by omega
                               have r2 : (e : Int) < (b : Int) := by omega
                               have HI1 : Hid (∀ _ : True, _) := fun _ => HIH.out mid e b d (by omega) (by omega) (by omega) (by omega) (by omega) (ok_perm (by omega) D2.out HOK.out) (HCUT.out.2.2.1.congr fun k hk _ => L2.out.1.2.1 k (by omega)) (HCUT.out.2.2.2.1.congr fun k hk _ => L2.out.1.2.1 k (by omega)) wr U2.out (below_bg hg HW.out B2.out)
                               rw [D2.out.1, hsz] at HI1
                               go_wp2_with fail
                               refine (HI1.out trivial).mono ?_
                               rintro ee w5 ⟨rfl, d5, u5, s5, p5, b5⟩
                               have HF : Hid (Ur w5 g z d5 ∧ Srt K a b d5 ∧ Sort.PermIn a b d d5 ∧ Bg g w w5) := ⟨u5, sym_join (by omega) (by omega) (by omega) HCUT.out.2.2.2.2 L2.out.1 L2.out.2 p5 s5, Sort.permIn_trans _ _ _ _ _ D2.out (Sort.permIn_mono _ _ _ _ _ _ (by omega) (by omega) (by omega) p5), B2.out.trans b5⟩
                               clear u5 s5 p5 b5 HI1
                               go_wp2_with fail
                               refine bodyPost_end (results_none rfl _ _ _) rfl ?_
                               exact ⟨rfl, d5, HF.out⟩)
                        · have HF : Hid (Ur wr g z d ∧ Srt K a b d ∧ Sort.PermIn a b d d ∧ Bg g w wr) := ⟨U2.out, sym_join (by omega) (by omega) (by omega) HCUT.out.2.2.2.2 L2.out.1 L2.out.2 (Sort.permIn_refl _ _ _) ((srt_right HCUT.out.2.2.1 HCUT.out.2.2.2.1 (by omega) hrt).congr fun k hk _ => L2.out.1.2.1 k (by omega)), D2.out, B2.out⟩
                          by_cases r1 : mid < e
                          · have r2 : (mid : Int) < (e : Int) := by omega
                            have r3 : ¬ (e : Int) < (b : Int) := by omega
                            first
                              | (exfalso; omega)
                              | (skip
                                 go_wp2_with fail
                                 refine bodyPost_end (results_none rfl _ _ _) rfl ?_
                                 exact ⟨rfl, d, HF.out⟩)
                          · have r2 : ¬ (mid : Int) < (e : Int) := by omega
                            first
                              | (exfalso; omega)
                              | (skip
                                 go_wp2_with fail
                                 refine bodyPost_end (results_none rfl _ _ _) rfl ?_
                                 exact ⟨rfl, d, HF.out⟩)))
        · have HCUT : Hid _ := HCUTf.out d (by rw [show s = m by omega]; exact Rot.left _ _ _)
          have t2 : ¬ (s : Int) < (m : Int) := by omega
          clear HCUTf HR
          first
            | (exfalso; omega)
            | (skip
               by_cases hlf : a < s ∧ s < mid
               · first
                   | (exfalso; omega)
                   | (skip
                      have l1 : (a : Int) < (s : Int) := by omega
                      have l2 : (s : Int) < (mid : Int) := by omega
                      have HI1 : Hid (∀ _ : True, _) := fun _ => HIH.out a s mid d (by omega) (by omega) (by omega) (by omega) (by omega) (ok_perm (by omega) P1.out HOK.out) HCUT.out.1 HCUT.out.2.1 wr U1.out (below_bg hg HW.out B1.out)
                      rw [hsz] at HI1
                      go_wp2_with fail
                      refine (HI1.out trivial).mono ?_
                      rintro ee w4 ⟨rfl, d4, u4, s4, p4, b4⟩
                      have U2 : Hid (Ur w4 g z d4) := u4
                      have L2 : Hid (Sort.PermIn a mid d d4 ∧ Srt K a mid d4) := ⟨p4, s4⟩
                      have B2 : Hid (Bg g w w4) := B1.out.trans b4
                      have D2 : Hid (Sort.PermIn a b d d4) := Sort.permIn_trans _ _ _ _ _ P1.out (Sort.permIn_mono _ _ _ _ _ _ (by omega) (by omega) (by omega) p4)
                      clear u4 s4 p4 b4 HI1
                      by_cases hrt : mid < e ∧ e < b
                      · first
                          | (exfalso; omega)
                          | (skip
                             have r1 : (mid : Int) < (e : Int) := by omega
                             have r2 : (e : Int) < (b : Int) := by omega
                             have HI1 : Hid (∀ _ : True, _) := fun _ => HIH.out mid e b d4 (by omega) (by omega) (by omega) (by omega) (by omega) (ok_perm (by omega) D2.out HOK.out) (HCUT.out.2.2.1.congr fun k hk _ => L2.out.1.2.1 k (by omega)) (HCUT.out.2.2.2.1.congr fun k hk _ => L2.out.1.2.1 k (by omega)) w4 U2.out (below_bg hg HW.out B2.out)
                             rw [D2.out.1, hsz] at HI1
                             go_wp2_with fail
                             refine (HI1.out trivial).mono ?_
                             rintro ee w5 ⟨rfl, d5, u5, s5, p5, b5⟩
                             have HF : Hid (Ur w5 g z d5 ∧ Srt K a b d5 ∧ Sort.PermIn a b d d5 ∧ Bg g w w5) := ⟨u5, sym_join (by omega) (by omega) (by omega) HCUT.out.2.2.2.2 L2.out.1 L2.out.2 p5 s5, Sort.permIn_trans _ _ _ _ _ D2.out (Sort.permIn_mono _ _ _ _ _ _ (by omega) (by omega) (by omega) p5), B2.out.trans b5⟩
                             clear u5 s5 p5 b5 HI1
                             go_wp2_with fail
                             refine bodyPost_end (results_none rfl _ _ _) rfl ?_
                             exact ⟨rfl, d5, HF.out⟩)
                      · have HF : Hid (Ur w4 g z d4 ∧ Srt K a b d4 ∧ Sort.PermIn a b d d4 ∧ Bg g w w4) := ⟨U2.out, sym_join (by omega) (by omega) (by omega) HCUT.out.2.2.2.2 L2.out.1 L2.out.2 (Sort.permIn_refl _ _ _) ((srt_right HCUT.out.2.2.1 HCUT.out.2.2.2.1 (by omega) hrt).congr fun k hk _ => L2.out.1.2.1 k (by omega)), D2.out, B2.out⟩
                        by_cases r1 : mid < e
                        · have r2 : (mid : Int) < (e : Int) := by omega
                          have r3 : ¬ (e : Int) < (b : Int) := by omega
                          first
                            | (exfalso; omega)
                            | (skip
                               go_wp2_with fail
                               refine bodyPost_end (results_none rfl _ _ _) rfl ?_
                               exact ⟨rfl, d4, HF.out⟩)
                        · have r2 : ¬ (mid : Int) < (e : Int) := by omega
                          first
                            | (exfalso; omega)
                            | (skip
                               go_wp2_with fail
                               refine bodyPost_end (results_none rfl _ _ _) rfl ?_
                               exact ⟨rfl, d4, HF.out⟩))
               · have U2 : Hid (Ur wr g z d) := U1.out
                 have L2 : Hid (Sort.PermIn a mid d d ∧ Srt K a mid d) := ⟨Sort.permIn_refl _ _ _, srt_left HCUT.out.1 HCUT.out.2.1 (by omega) hlf⟩
                 have B2 : Hid (Bg g w wr) := B1.out
                 have D2 : Hid (Sort.PermIn a b d d) := P1.out
                 by_cases l1 : a < s
                 · have l2 : (a : Int) < (s : Int) := by omega
                   have l3 : ¬ (s : Int) < (mid : Int) := by omega
                   first
                     | (exfalso; omega)
                     | (skip
                        by_cases hrt : mid < e ∧ e < b
                        · first
                            | (exfalso; omega)
                            | (skip
                               have r1 : (mid : Int) < (e : Int) := by omega
                               have r2 : (e : Int) < (b : Int) := by omega
                               have HI1 : Hid (∀ _ : True, _) := fun _ => HIH.out mid e b d (by omega) (by omega) (by omega) (by omega) (by omega) (ok_perm (by omega) D2.out HOK.out) (HCUT.out.2.2.1.congr fun k hk _ => L2.out.1.2.1 k (by omega)) (HCUT.out.2.2.2.1.congr fun k hk _ => L2.out.1.2.1 k (by omega)) wr U2.out (below_bg hg HW.out B2.out)
                               rw [D2.out.1, hsz] at HI1
                               go_wp2_with fail
                               refine (HI1.out trivial).mono ?_
                               rintro ee w5 ⟨rfl, d5, u5, s5, p5, b5⟩
                               have HF : Hid (Ur w5 g z d5 ∧ Srt K a b d5 ∧ Sort.PermIn a b d d5 ∧ Bg g w w5) := ⟨u5, sym_join (by omega) (by omega) (by omega) HCUT.out.2.2.2.2 L2.out.1 L2.out.2 p5 s5, Sort.permIn_trans _ _ _ _ _ D2.out (Sort.permIn_mono _ _ _ _ _ _ (by omega) (by omega) (by omega) p5), B2.out.trans b5⟩
                               clear u5 s5 p5 b5 HI1
                               go_wp2_with fail
                               refine bodyPost_end (results_none rfl _ _ _) rfl ?_
                               exact ⟨rfl, d5, HF.out⟩)
                        · have HF : Hid (Ur wr g z d ∧ Srt K a b d ∧ Sort.PermIn a b d d ∧ Bg g w wr) := ⟨U2.out, sym_join (by omega) (by omega) (by omega) HCUT.out.2.2.2.2 L2.out.1 L2.out.2 (Sort.permIn_refl _ _ _) ((srt_right HCUT.out.2.2.1 HCUT.out.2.2.2.1 (by omega) hrt).congr fun k hk _ => L2.out.1.2.1 k (by omega)), D2.out, B2.out⟩
                          by_cases r1 : mid < e
                          · have r2 : (mid : Int) < (e : Int) := by omega
                            have r3 : ¬ (e : Int) < (b : Int) := by omega
                            first
                              | (exfalso; omega)
                              | (skip
                                 go_wp2_with fail
                                 refine bodyPost_end (results_none rfl _ _ _) rfl ?_
                                 exact ⟨rfl, d, HF.out⟩)
                          · have r2 : ¬ (mid : Int) < (e : Int) := by omega
                            first
                              | (exfalso; omega)
                              | (skip
                                 go_wp2_with fail
                                 refine bodyPost_end (results_none rfl _ _ _) rfl ?_
                                 exact ⟨rfl, d, HF.out⟩))
                 · have l2 : ¬ (a : Int) < (s : Int) := by omega
                   first
                     | (exfalso; omega)
                     | (skip
                        by_cases hrt : mid < e ∧ e < b
                        · first
                            | (exfalso; omega)
                            | (skip
                               have r1 : (mid : Int) < (e : Int) := by omega
                               have r2 : (e : Int) < (b : Int) := by omega
                               have HI1 : Hid (∀ _ : True, _) := fun _ => HIH.out mid e b d (by omega) (by omega) (by omega) (by omega) (by omega) (ok_perm (by omega) D2.out HOK.out) (HCUT.out.2.2.1.congr fun k hk _ => L2.out.1.2.1 k (by omega)) (HCUT.out.2.2.2.1.congr fun k hk _ => L2.out.1.2.1 k (by omega)) wr U2.out (below_bg hg HW.out B2.out)
                               rw [D2.out.1, hsz] at HI1
                               go_wp2_with fail
                               refine (HI1.out trivial).mono ?_
                               rintro ee w5 ⟨rfl, d5, u5, s5, p5, b5⟩
                               have HF : Hid (Ur w5 g z d5 ∧ Srt K a b d5 ∧ Sort.PermIn a b d d5 ∧ Bg g w w5) := ⟨u5, sym_join (by omega) (by omega) (by omega) HCUT.out.2.2.2.2 L2.out.1 L2.out.2 p5 s5, Sort.permIn_trans _ _ _ _ _ D2.out (Sort.permIn_mono _ _ _ _ _ _ (by omega) (by omega) (by omega) p5), B2.out.trans b5⟩
                               clear u5 s5 p5 b5 HI1
                               go_wp2_with fail
                               refine bodyPost_end (results_none rfl _ _ _) rfl ?_
                               exact ⟨rfl, d5, HF.out⟩)
                        · have HF : Hid (Ur wr g z d ∧ Srt K a b d ∧ Sort.PermIn a b d d ∧ Bg g w wr) := ⟨U2.out, sym_join (by omega) (by omega) (by omega) HCUT.out.2.2.2.2 L2.out.1 L2.out.2 (Sort.permIn_refl _ _ _) ((srt_right HCUT.out.2.2.1 HCUT.out.2.2.2.1 (by omega) hrt).congr fun k hk _ => L2.out.1.2.1 k (by omega)), D2.out, B2.out⟩
                          by_cases r1 : mid < e
                          · have r2 : (mid : Int) < (e : Int) := by omega
                            have r3 : ¬ (e : Int) < (b : Int) := by omega
                            first
                              | (exfalso; omega)
                              | (skip
                                 go_wp2_with fail
                                 refine bodyPost_end (results_none rfl _ _ _) rfl ?_
                                 exact ⟨rfl, d, HF.out⟩)
                          · have r2 : ¬ (mid : Int) < (e : Int) := by omega
                            first
                              | (exfalso; omega)
                              | (skip
                                 go_wp2_with fail
                                 refine bodyPost_end (results_none rfl _ _ _) rfl ?_
                                 exact ⟨rfl, d, HF.out⟩)))
set_option maxRecDepth 100000 in
theorem symR_any (w0 : World) (ok : Pc → Prop) (K : Pc → Nat) (cf : Nat) (cb : Array Value) (hC : Cmp w0 ok (ltK K) cf cb) (g z cap : Nat) (hg : w0.heap.size ≤ g) : ∀ N, SymOk w0 ok K cf cb g z cap N
 | 0 => fun a m b d h1 h2 h3 => by omega
 | N + 1 => fun a m b d h1 h2 h3 h4 h5 h6 h7 h8 w h9 h10 => by
  by_cases c1 : m = a + 1
  ·subst c1
   exact symL_any w0 ok K cf cb hC g z cap a b hg d h3 h4 h5 h6 h8 w h9 h10
  ·by_cases c2 : b = m + 1
   ·subst c2
    exact symE_any w0 ok K cf cb hC g z cap a m hg d (by omega) h4 h5 h6 h7 w h9 h10
   ·by_cases c3 : (a + b) / 2 < m
    ·exact symM1_any w0 ok K cf cb hC g z cap N hg (symR_any w0 ok K cf cb hC g z cap hg N) a m b d h1 (by omega) (by omega) h4 h5 h6 c3 h7 h8 w h9 h10
    ·exact symM2_any w0 ok K cf cb hC g z cap N hg (symR_any w0 ok K cf cb hC g z cap hg N) a m b d h1 (by omega) (by omega) h4 h5 h6 c3 h7 h8 w h9 h10
end Go.Proofs.Ytimdlohdmddnjaa.Rq.Pz
