/- The like, where the cut falls behind the middle; the recursion. -/
import Derived.Test.YtimdlohdmddnjaaPBH
namespace Go.Proofs.Ytimdlohdmddnjaa.Rq
open Go.RowKit Go.Lib Go.Shelf
open Go.Proofs.Ytimdlohdmddnjaa.Rc
set_option maxRecDepth 100000 in
set_option maxHeartbeats 8000000 in
theorem symM2_any (w0 : World) (ok : Rw → Prop) (K : Rw → Nat) (cf : Nat) (cb : Array Value) (hC : Cmp w0 ok (ltK K) cf cb) (g z cap N : Nat) (hg : w0.heap.size ≤ g) (IH : SymOk w0 ok K cf cb g z cap N) (a m b : Nat) (d : Array Rw) (hN : b - a ≤ N + 1) (ham : a + 1 < m) (hmb : m + 1 < b) (hb : b ≤ d.size) (hd : d.size ≤ 1000000) (hok : ∀ i, i < d.size → ok d[i]!) (hmm : ¬ (a + b) / 2 < m) (hs1 : Srt K a m d) (hs2 : Srt K m b d) (w : World) (h : Ur w g z d) (hW : Below w0.heap.size w0 w) :
    Calls Try.prog 92 #[.slice (some ⟨g, 0, none⟩) d.size cap, .int .i64 (a : Int), .int .i64 (m : Int), .int .i64 (b : Int), .func (.func cf) #[] cb] w fun e w' => e = .returned (.tuple #[]) ∧ ∃ d', Ur w' g z d' ∧ Srt K a b d' ∧ Sort.PermIn a b d d' ∧ Bg g w w' := by
  have HU : Hid (Ur w g z d) := h
  have HS : Hid (Srt K a m d ∧ Srt K m b d) := ⟨hs1, hs2⟩
  have HW : Hid (Below w0.heap.size w0 w) := hW
  have HCm : Hid (Cmp w0 ok (ltK K) cf cb) := hC
  have HOK : Hid (∀ i, i < d.size → ok d[i]!) := hok
  have HIH : Hid (SymOk w0 ok K cf cb g z cap N) := IH
  have HR : Hid _ := rotateR_any cf cb g z cap
  have heg := hC.eg
  clear h hs1 hs2 hW hC hok IH
  obtain ⟨sz, hsz⟩ : ∃ sz, d.size = sz := ⟨_, rfl⟩
  rw [hsz] at hb hd ⊢
  obtain ⟨ma, hma⟩ : ∃ ma, m - a = ma := ⟨_, rfl⟩
  obtain ⟨bm, hbm⟩ : ∃ bm, b - m = bm := ⟨_, rfl⟩
  obtain ⟨mid, hmid⟩ : ∃ mid, (a + b) / 2 = mid := ⟨_, rfl⟩
  obtain ⟨n, hn⟩ : ∃ n, mid + m = n := ⟨_, rfl⟩
  obtain ⟨p, hp⟩ : ∃ p, n - 1 = p := ⟨_, rfl⟩
  have q0 : IntKind.i64.wrap ((m : Int) - (a : Int)) = (ma : Int) := by rw [wrap_i64 (by omega) (by omega)]; omega
  have q0' : ((ma : Int) == 1) = false := by simp; omega
  have q1 : IntKind.i64.wrap ((b : Int) - (m : Int)) = (bm : Int) := by rw [wrap_i64 (by omega) (by omega)]; omega
  have q1' : ((bm : Int) == 1) = false := by simp; omega
  have q2 : ((a : Int) + (b : Int)) / 2 = (mid : Int) := by omega
  have q3 : (mid : Int) + (m : Int) = (n : Int) := by omega
  have q3' : IntKind.i64.wrap (n : Int) = (n : Int) := wrap_i64 (by omega) (by omega)
  have q4 : (n : Int) - 1 = (p : Int) := by omega
  have q4' : IntKind.i64.wrap (p : Int) = (p : Int) := wrap_i64 (by omega) (by omega)
  have hmid1 : a < mid ∧ mid < b := by omega
  rw [hmid] at hmm
  have hf : a ≤ m ∧ n - a ≤ b ∧ m ≤ n - m := by omega
  have y1 : ¬ (mid : Int) < (m : Int) := by omega
  go_enter Try.func92, Try.ntmps92
  go_wp2_with fail
  go_loopw [20, 21] (fun sv rv' wr => ∃ (s r : Nat), sv = .int .i64 (s : Int) ∧ rv' = .int .i64 (r : Int) ∧ (a ≤ s ∧ s ≤ r ∧ r ≤ m) ∧ Ur wr g z d ∧ ((∀ k, a ≤ k → k < s → K d[k]! ≤ K d[p - k]!) ∧ (∀ k, r ≤ k → k < m → K d[p - k]! < K d[k]!)) ∧ Bg g w wr) (fun sv rv' _ => natOf rv' - natOf sv)
  case atStart => exact ⟨a, m, rfl, rfl, by omega, HU.out, ⟨fun k h1 h2 => by omega, fun k h1 h2 => by omega⟩, But.refl _ _⟩
  case round =>
    obtain ⟨s, r, rfl, rfl, ⟨hs0, hsr, hr0⟩, hu, hk, hbg⟩ := hrel
    have HU1 : Hid (Ur wr g z d) := hu
    have HK : Hid _ := hk
    have HBG : Hid (Bg g w wr) := hbg
    clear hu hk hbg
    by_cases hlt : s < r
    · have z1 : (s : Int) < (r : Int) := by omega
      obtain ⟨c, hc⟩ : ∃ c, (s + r) / 2 = c := ⟨_, rfl⟩
      have z2 : ((s : Int) + (r : Int)) / 2 = (c : Int) := by omega
      obtain ⟨pc, hpc⟩ : ∃ pc, p - c = pc := ⟨_, rfl⟩
      have z3 : (p : Int) - (c : Int) = (pc : Int) := by omega
      have z3' : IntKind.i64.wrap (pc : Int) = (pc : Int) := wrap_i64 (by omega) (by omega)
      have hci : a ≤ c ∧ c < m ∧ m ≤ pc ∧ pc < b := by omega
      obtain ⟨rx, hx⟩ : ∃ rx, d[pc]! = rx := ⟨_, rfl⟩
      obtain ⟨ry, hy⟩ : ∃ ry, d[c]! = ry := ⟨_, rfl⟩
      have HCA : Hid (∀ _ : True, _) := fun _ => cmp_two HCm.out HU1.out HOK.out (below_bg hg HW.out HBG.out) (i := pc) (j := c) (by omega) (by omega) hx hy
      have HSW : Hid (TwoQ g pc c rx ry wr.drew) := HU1.out.twoq (by omega) (by omega) hx hy
      have HXY : Hid (d[pc]! = rx ∧ d[c]! = ry) := ⟨hx, hy⟩
      clear hx hy HU1
      obtain ⟨xi, xx, xy, xv⟩ := rx
      obtain ⟨yi, yx, yy, yv⟩ := ry
      simp only [rv] at HCA
      have z4 : (c : Int) < (sz : Int) := by omega
      have z5 : (pc : Int) < (sz : Int) := by omega
      go_wp2_with fail
      refine wp_region_held (S := TwoQ g pc c ⟨xi, xx, xy, xv⟩ ⟨yi, yx, yy, yv⟩) (by kernel_rfl) ?_
      change wpAnyH _ _ _ _ _ _ _ _ (World.drew _)
      refine wpAnyH_take (i := 0) (v := ?_) rfl (by kernel_rfl) (by kernel_rfl) (by kernel_rfl) (fun _ _ _ h => h) (Or.inl ⟨by kernel_rfl, ?_⟩) HSW.out ?_
      rotate_left
      · rintro w ⟨⟨e0,e1,e2,e3⟩,f0,f1,f2,f3⟩; go_simp; try with_reducible rfl
      conv in (Act.put _ _ _) => simp only [List.getElem_toArray, List.getElem_cons_succ, List.getElem_cons_zero, Act.put, List.setIfInBounds_toArray, List.set_cons_succ, List.set_cons_zero]
      refine wpAnyH_take (i := 1) (v := ?_) rfl (by kernel_rfl) (by kernel_rfl) (by kernel_rfl) (fun _ _ _ h => h) (Or.inl ⟨by kernel_rfl, ?_⟩) HSW.out ?_
      rotate_left
      · rintro w ⟨⟨e0,e1,e2,e3⟩,f0,f1,f2,f3⟩; go_simp; try with_reducible rfl
      conv in (Act.put _ _ _) => simp only [List.getElem_toArray, List.getElem_cons_succ, List.getElem_cons_zero, Act.put, List.setIfInBounds_toArray, List.set_cons_succ, List.set_cons_zero]
      refine wpAnyH_take (i := 2) (v := ?_) rfl (by kernel_rfl) (by kernel_rfl) (by kernel_rfl) (fun _ _ _ h => h) (Or.inl ⟨by kernel_rfl, ?_⟩) HSW.out ?_
      rotate_left
      · rintro w ⟨⟨e0,e1,e2,e3⟩,f0,f1,f2,f3⟩; go_simp; try with_reducible rfl
      conv in (Act.put _ _ _) => simp only [List.getElem_toArray, List.getElem_cons_succ, List.getElem_cons_zero, Act.put, List.setIfInBounds_toArray, List.set_cons_succ, List.set_cons_zero]
      refine wpAnyH_take (i := 3) (v := ?_) rfl (by kernel_rfl) (by kernel_rfl) (by kernel_rfl) (fun _ _ _ h => h) (Or.inl ⟨by kernel_rfl, ?_⟩) HSW.out ?_
      rotate_left
      · rintro w ⟨⟨e0,e1,e2,e3⟩,f0,f1,f2,f3⟩; go_simp; try with_reducible rfl
      conv in (Act.put _ _ _) => simp only [List.getElem_toArray, List.getElem_cons_succ, List.getElem_cons_zero, Act.put, List.setIfInBounds_toArray, List.set_cons_succ, List.set_cons_zero]
      refine wpAnyH_take (i := 4) (v := .int .i64 (pc : Int)) rfl (by kernel_rfl) (by kernel_rfl) (by kernel_rfl) (fun _ _ _ h => h) (Or.inl ⟨by kernel_rfl, ?_⟩) HSW.out ?_
      · intro w hS
        go_simp
        try rw [z3]
        try rw [z3']
      conv in (Act.put _ _ _) => simp only [List.getElem_toArray, List.getElem_cons_succ, List.getElem_cons_zero, Act.put, List.setIfInBounds_toArray, List.set_cons_succ, List.set_cons_zero]
      refine wpAnyH_take (i := 5) (v := ?_) rfl (by kernel_rfl) (by kernel_rfl) (by kernel_rfl) (fun _ _ _ h => h) (Or.inl ⟨by kernel_rfl, ?_⟩) HSW.out ?_
      rotate_left
      · rintro w ⟨⟨e0,e1,e2,e3⟩,f0,f1,f2,f3⟩; go_simp; try with_reducible rfl
      conv in (Act.put _ _ _) => simp only [List.getElem_toArray, List.getElem_cons_succ, List.getElem_cons_zero, Act.put, List.setIfInBounds_toArray, List.set_cons_succ, List.set_cons_zero]
      refine wpAnyH_take (i := 6) (v := ?_) rfl (by kernel_rfl) (by kernel_rfl) (by kernel_rfl) (fun _ _ _ h => h) (Or.inl ⟨by kernel_rfl, ?_⟩) HSW.out ?_
      rotate_left
      · rintro w ⟨⟨e0,e1,e2,e3⟩,f0,f1,f2,f3⟩; go_simp; try with_reducible rfl
      conv in (Act.put _ _ _) => simp only [List.getElem_toArray, List.getElem_cons_succ, List.getElem_cons_zero, Act.put, List.setIfInBounds_toArray, List.set_cons_succ, List.set_cons_zero]
      refine wpAnyH_take (i := 7) (v := ?_) rfl (by kernel_rfl) (by kernel_rfl) (by kernel_rfl) (fun _ _ _ h => h) (Or.inl ⟨by kernel_rfl, ?_⟩) HSW.out ?_
      rotate_left
      · rintro w ⟨⟨e0,e1,e2,e3⟩,f0,f1,f2,f3⟩; go_simp; try with_reducible rfl
      conv in (Act.put _ _ _) => simp only [List.getElem_toArray, List.getElem_cons_succ, List.getElem_cons_zero, Act.put, List.setIfInBounds_toArray, List.set_cons_succ, List.set_cons_zero]
      refine wpAnyH_take (i := 8) (v := ?_) rfl (by kernel_rfl) (by kernel_rfl) (by kernel_rfl) (fun _ _ _ h => h) (Or.inl ⟨by kernel_rfl, ?_⟩) HSW.out ?_
      rotate_left
      · rintro w ⟨⟨e0,e1,e2,e3⟩,f0,f1,f2,f3⟩; go_simp; try with_reducible rfl
      conv in (Act.put _ _ _) => simp only [List.getElem_toArray, List.getElem_cons_succ, List.getElem_cons_zero, Act.put, List.setIfInBounds_toArray, List.set_cons_succ, List.set_cons_zero]
      refine wpAnyH_take (i := 9) (v := ?_) rfl (by kernel_rfl) (by kernel_rfl) (by kernel_rfl) (fun _ _ _ h => h) (Or.inl ⟨by kernel_rfl, ?_⟩) HSW.out ?_
      rotate_left
      · rintro w ⟨⟨e0,e1,e2,e3⟩,f0,f1,f2,f3⟩; go_simp; try with_reducible rfl
      conv in (Act.put _ _ _) => simp only [List.getElem_toArray, List.getElem_cons_succ, List.getElem_cons_zero, Act.put, List.setIfInBounds_toArray, List.set_cons_succ, List.set_cons_zero]
      refine wpAnyH_take (i := 10) (v := ?_) rfl (by kernel_rfl) (by kernel_rfl) (by kernel_rfl) (fun _ _ _ h => h) (Or.inl ⟨by kernel_rfl, ?_⟩) HSW.out ?_
      rotate_left
      · rintro w ⟨⟨e0,e1,e2,e3⟩,f0,f1,f2,f3⟩; go_simp; try with_reducible rfl
      conv in (Act.put _ _ _) => simp only [List.getElem_toArray, List.getElem_cons_succ, List.getElem_cons_zero, Act.put, List.setIfInBounds_toArray, List.set_cons_succ, List.set_cons_zero]
      refine readyH 11 _ (by kernel_rfl) rfl (by kernel_rfl) (fun K hK => ?_)
      go_simp
      refine Calls.mono (HCA.out trivial) ?_
      rintro e w1 ⟨cv, rfl, hcl, b1, u1, t1⟩
      have HB1 : Hid (Bg g w w1) := HBG.out.trans b1
      have HU1 : Hid (Ur w1 g z d) := u1
      replace HSW : Hid (TwoQ g pc c ⟨xi, xx, xy, xv⟩ ⟨yi, yx, yy, yv⟩ w1) := t1
      clear b1 u1 t1 HBG
      refine hK _ _ HSW.out ?_
      clear hK K
      by_cases hl : K ⟨xi, xx, xy, xv⟩ < K ⟨yi, yx, yy, yv⟩
      · have q8 : cv < 0 := hcl.2 hl
        have HE : Hid ((∀ k, a ≤ k → k < s → K d[k]! ≤ K d[p - k]!) ∧ (∀ k, c ≤ k → k < m → K d[p - k]! < K d[k]!)) := by
          refine ⟨HK.out.1, fun k h1 h2 => ?_⟩
          have e1 : K d[c]! ≤ K d[k]! := HS.out.1.le (by omega) h1 (by omega)
          have e2 : K d[p - k]! ≤ K d[pc]! := HS.out.2.le (by omega) (by omega) (by omega)
          rw [HXY.out.2] at e1
          rw [HXY.out.1] at e2
          omega
        clear hl hcl
        refine wpAnyH_take (i := 12) (v := ?_) rfl (by kernel_rfl) (by kernel_rfl) (by kernel_rfl) (fun _ _ _ h => h) (Or.inl ⟨by kernel_rfl, ?_⟩) HSW.out ?_
        rotate_left
        · rintro w ⟨⟨e0,e1,e2,e3⟩,f0,f1,f2,f3⟩; go_simp; try with_reducible rfl
        conv in (Act.put _ _ _) => simp only [List.getElem_toArray, List.getElem_cons_succ, List.getElem_cons_zero, Act.put, List.setIfInBounds_toArray, List.set_cons_succ, List.set_cons_zero]
        refine wpAnyH_take (i := 13) (v := ?_) rfl (by kernel_rfl) (by kernel_rfl) (by kernel_rfl) (fun _ _ _ h => h) (Or.inl ⟨by kernel_rfl, ?_⟩) HSW.out ?_
        rotate_left
        · rintro w ⟨⟨e0,e1,e2,e3⟩,f0,f1,f2,f3⟩; go_simp; try with_reducible rfl
        conv in (Act.put _ _ _) => simp only [List.getElem_toArray, List.getElem_cons_succ, List.getElem_cons_zero, Act.put, List.setIfInBounds_toArray, List.set_cons_succ, List.set_cons_zero]
        refine wpAnyH_done (by kernel_rfl) ?_ _
        go_wp2_with fail
        go_roundw
        case rel => exact ⟨s, c, rfl, rfl, by omega, HU1.out, HE.out, HB1.out⟩
        case measure => simp [natOf]; omega
      · have q8 : ¬ cv < 0 := fun h => hl (hcl.1 h)
        have HE : Hid ((∀ k, a ≤ k → k < c + 1 → K d[k]! ≤ K d[p - k]!) ∧ (∀ k, r ≤ k → k < m → K d[p - k]! < K d[k]!)) := by
          refine ⟨fun k h1 h2 => ?_, HK.out.2⟩
          have e1 : K d[k]! ≤ K d[c]! := HS.out.1.le (by omega) (by omega) (by omega)
          have e2 : K d[pc]! ≤ K d[p - k]! := HS.out.2.le (by omega) (by omega) (by omega)
          rw [HXY.out.2] at e1
          rw [HXY.out.1] at e2
          omega
        clear hl hcl
        refine wpAnyH_take (i := 12) (v := ?_) rfl (by kernel_rfl) (by kernel_rfl) (by kernel_rfl) (fun _ _ _ h => h) (Or.inl ⟨by kernel_rfl, ?_⟩) HSW.out ?_
        rotate_left
        · rintro w ⟨⟨e0,e1,e2,e3⟩,f0,f1,f2,f3⟩; go_simp; try with_reducible rfl
        conv in (Act.put _ _ _) => simp only [List.getElem_toArray, List.getElem_cons_succ, List.getElem_cons_zero, Act.put, List.setIfInBounds_toArray, List.set_cons_succ, List.set_cons_zero]
        refine wpAnyH_take (i := 13) (v := ?_) rfl (by kernel_rfl) (by kernel_rfl) (by kernel_rfl) (fun _ _ _ h => h) (Or.inl ⟨by kernel_rfl, ?_⟩) HSW.out ?_
        rotate_left
        · rintro w ⟨⟨e0,e1,e2,e3⟩,f0,f1,f2,f3⟩; go_simp; try with_reducible rfl
        conv in (Act.put _ _ _) => simp only [List.getElem_toArray, List.getElem_cons_succ, List.getElem_cons_zero, Act.put, List.setIfInBounds_toArray, List.set_cons_succ, List.set_cons_zero]
        refine wpAnyH_done (by kernel_rfl) ?_ _
        go_wp2_with fail
        go_roundw
        case rel => exact ⟨c + 1, r, by go_num, rfl, by omega, HU1.out, HE.out, HB1.out⟩
        case measure => simp [natOf]; omega
    · have z1 : ¬ (s : Int) < (r : Int) := by omega
      obtain rfl : s = r := by omega
      obtain ⟨e, he⟩ : ∃ e, n - s = e := ⟨_, rfl⟩
      have z2 : (n : Int) - (s : Int) = (e : Int) := by omega
      have z2' : IntKind.i64.wrap (e : Int) = (e : Int) := wrap_i64 (by omega) (by omega)
      clear HCm heg
      have HX1 : a < s → e < b → K d[s - 1]! ≤ K d[e]! := fun h1 h2 => by
        have := HK.out.1 (s - 1) (by omega) (by omega)
        rwa [show p - (s - 1) = e by omega] at this
      have HX2 : s < m → m < e → K d[e - 1]! < K d[s]! := fun h1 h2 => by
        have := HK.out.2 s (by omega) (by omega)
        rwa [show p - s = e - 1 by omega] at this
      have HCUTf : Hid (∀ d1, Rot d d1 s m e → Srt K a s d1 ∧ Srt K s mid d1 ∧ Srt K mid e d1 ∧ Srt K e b d1 ∧ ∀ i j, a ≤ i → i < mid → mid ≤ j → j < b → K d1[i]! ≤ K d1[j]!) := fun d1 hR => sym_cut HS.out.1 HS.out.2 (by omega) (by omega) hmid1 (by omega) (by omega) (by omega) (by omega) (by omega) HX1 HX2 hR
      clear HX1 HX2 HK
      by_cases hrot : s < m ∧ m < e
      · have t1 : (s : Int) < (m : Int) := by omega
        have t2 : (m : Int) < (e : Int) := by omega
        have HR1 : Hid (∀ _ : True, _) := fun _ => HR.out s m e d (by omega) (by omega) (by omega) (by omega) wr HU1.out
        rw [hsz] at HR1
        go_wp2_with fail
        refine (HR1.out trivial).mono ?_
        rintro ee w3 ⟨rfl, d3, u3, r3, p3, b3⟩
        have U1 : Hid (Ur w3 g z d3) := u3
        have P1 : Hid (Sort.PermIn a b d d3) := Sort.permIn_mono _ _ _ _ _ _ (by omega) (by omega) (by omega) p3
        have HCUT : Hid _ := HCUTf.out d3 r3
        have B1 : Hid (Bg g w w3) := HBG.out.trans b3
        clear u3 r3 p3 b3 HR1 HCUTf HR
        by_cases hlf : a < s ∧ s < mid
        · first
            | (exfalso; omega)
            | (skip
               have l1 : (a : Int) < (s : Int) := by omega
               have l2 : (s : Int) < (mid : Int) := by omega
               have HI1 : Hid (∀ _ : True, _) := fun _ => HIH.out a s mid d3 (by omega) (by omega) (by omega) (by have := P1.out.1; omega) (by have := P1.out.1; omega) (ok_perm (by omega) P1.out HOK.out) HCUT.out.1 HCUT.out.2.1 w3 U1.out (below_bg hg HW.out B1.out)
               rw [P1.out.1, hsz] at HI1
               go_wp2_with fail
               refine (HI1.out trivial).mono ?_
               rintro ee w4 ⟨rfl, d4, u4, s4, p4, b4⟩
               have U2 : Hid (Ur w4 g z d4) := u4
               have L2 : Hid (Sort.PermIn a mid d3 d4 ∧ Srt K a mid d4) := ⟨p4, s4⟩
               have B2 : Hid (Bg g w w4) := B1.out.trans b4
               have D2 : Hid (Sort.PermIn a b d d4) := Sort.permIn_trans _ _ _ _ _ P1.out (Sort.permIn_mono _ _ _ _ _ _ (by omega) (by omega) (by have := P1.out.1; omega) p4)
               clear u4 s4 p4 b4 HI1
               by_cases hrt : mid < e ∧ e < b
               · first
                   | (exfalso; omega)
                   | (skip
                      have r1 : (mid : Int) < (e : Int) := by omega
                      have r2 : (e : Int) < (b : Int) := by omega
                      have HI1 : Hid (∀ _ : True, _) := fun _ => HIH.out mid e b d4 (by omega) (by omega) (by omega) (by have := D2.out.1; omega) (by have := D2.out.1; omega) (ok_perm (by omega) D2.out HOK.out) (HCUT.out.2.2.1.congr fun k hk _ => L2.out.1.2.1 k (by omega)) (HCUT.out.2.2.2.1.congr fun k hk _ => L2.out.1.2.1 k (by omega)) w4 U2.out (below_bg hg HW.out B2.out)
                      rw [D2.out.1, hsz] at HI1
                      go_wp2_with fail
                      refine (HI1.out trivial).mono ?_
                      rintro ee w5 ⟨rfl, d5, u5, s5, p5, b5⟩
                      have HF : Hid (Ur w5 g z d5 ∧ Srt K a b d5 ∧ Sort.PermIn a b d d5 ∧ Bg g w w5) := ⟨u5, sym_join (by have := P1.out.1; omega) (by omega) (by omega) HCUT.out.2.2.2.2 L2.out.1 L2.out.2 p5 s5, Sort.permIn_trans _ _ _ _ _ D2.out (Sort.permIn_mono _ _ _ _ _ _ (by omega) (by omega) (by have := D2.out.1; omega) p5), B2.out.trans b5⟩
                      clear u5 s5 p5 b5 HI1
                      go_wp2_with fail
                      refine bodyPost_end (results_none rfl _ _ _) rfl ?_
                      exact ⟨rfl, d5, HF.out⟩)
               · have HF : Hid (Ur w4 g z d4 ∧ Srt K a b d4 ∧ Sort.PermIn a b d d4 ∧ Bg g w w4) := ⟨U2.out, sym_join (by have := P1.out.1; omega) (by omega) (by omega) HCUT.out.2.2.2.2 L2.out.1 L2.out.2 (Sort.permIn_refl _ _ _) ((srt_right HCUT.out.2.2.1 HCUT.out.2.2.2.1 (by omega) hrt).congr fun k hk _ => L2.out.1.2.1 k (by omega)), D2.out, B2.out⟩
                 by_cases r1 : mid < e
                 · have r2 : (mid : Int) < (e : Int) := by omega
                   have r3 : ¬ (e : Int) < (b : Int) := by omega
                   first
                     | (exfalso; omega)
                     | (skip
                        go_wp2_with fail
                        refine bodyPost_end (results_none rfl _ _ _) rfl ?_
                        exact ⟨rfl, d4, HF.out⟩)
                 · have r2 : ¬ (mid : Int) < (e : Int) := by omega
                   first
                     | (exfalso; omega)
                     | (skip
                        go_wp2_with fail
                        refine bodyPost_end (results_none rfl _ _ _) rfl ?_
                        exact ⟨rfl, d4, HF.out⟩))
        · have U2 : Hid (Ur w3 g z d3) := U1.out
          have L2 : Hid (Sort.PermIn a mid d3 d3 ∧ Srt K a mid d3) := ⟨Sort.permIn_refl _ _ _, srt_left HCUT.out.1 HCUT.out.2.1 (by omega) hlf⟩
          have B2 : Hid (Bg g w w3) := B1.out
          have D2 : Hid (Sort.PermIn a b d d3) := P1.out
          by_cases l1 : a < s
          · have l2 : (a : Int) < (s : Int) := by omega
            have l3 : ¬ (s : Int) < (mid : Int) := by omega
            first
              | (exfalso; omega)
              | (skip
                 by_cases hrt : mid < e ∧ e < b
                 · first
                     | (exfalso; omega)
                     | (skip
                        have r1 : (mid : Int) < (e : Int) := by omega
                        have r2 : (e : Int) < (b : Int) := by omega
                        have HI1 : Hid (∀ _ : True, _) := fun _ => HIH.out mid e b d3 (by omega) (by omega) (by omega) (by have := D2.out.1; omega) (by have := D2.out.1; omega) (ok_perm (by omega) D2.out HOK.out) (HCUT.out.2.2.1.congr fun k hk _ => L2.out.1.2.1 k (by omega)) (HCUT.out.2.2.2.1.congr fun k hk _ => L2.out.1.2.1 k (by omega)) w3 U2.out (below_bg hg HW.out B2.out)
                        rw [D2.out.1, hsz] at HI1
                        go_wp2_with fail
                        refine (HI1.out trivial).mono ?_
                        rintro ee w5 ⟨rfl, d5, u5, s5, p5, b5⟩
                        have HF : Hid (Ur w5 g z d5 ∧ Srt K a b d5 ∧ Sort.PermIn a b d d5 ∧ Bg g w w5) := ⟨u5, sym_join (by have := P1.out.1; omega) (by omega) (by omega) HCUT.out.2.2.2.2 L2.out.1 L2.out.2 p5 s5, Sort.permIn_trans _ _ _ _ _ D2.out (Sort.permIn_mono _ _ _ _ _ _ (by omega) (by omega) (by have := D2.out.1; omega) p5), B2.out.trans b5⟩
                        clear u5 s5 p5 b5 HI1
                        go_wp2_with fail
                        refine bodyPost_end (results_none rfl _ _ _) rfl ?_
                        exact ⟨rfl, d5, HF.out⟩)
                 · have HF : Hid (Ur w3 g z d3 ∧ Srt K a b d3 ∧ Sort.PermIn a b d d3 ∧ Bg g w w3) := ⟨U2.out, sym_join (by have := P1.out.1; omega) (by omega) (by omega) HCUT.out.2.2.2.2 L2.out.1 L2.out.2 (Sort.permIn_refl _ _ _) ((srt_right HCUT.out.2.2.1 HCUT.out.2.2.2.1 (by omega) hrt).congr fun k hk _ => L2.out.1.2.1 k (by omega)), D2.out, B2.out⟩
                   by_cases r1 : mid < e
                   · have r2 : (mid : Int) < (e : Int) := by omega
                     have r3 : ¬ (e : Int) < (b : Int) := by omega
                     first
                       | (exfalso; omega)
                       | (skip
                          go_wp2_with fail
                          refine bodyPost_end (results_none rfl _ _ _) rfl ?_
                          exact ⟨rfl, d3, HF.out⟩)
                   · have r2 : ¬ (mid : Int) < (e : Int) := by omega
                     first
                       | (exfalso; omega)
                       | (skip
                          go_wp2_with fail
                          refine bodyPost_end (results_none rfl _ _ _) rfl ?_
                          exact ⟨rfl, d3, HF.out⟩))
          · have l2 : ¬ (a : Int) < (s : Int) := by omega
            first
              | (exfalso; omega)
              | (skip
                 by_cases hrt : mid < e ∧ e < b
                 · first
                     | (exfalso; omega)
                     | (skip
                        have r1 : (mid : Int) < (e : Int) := by omega
                        have r2 : (e : Int) < (b : Int) := by omega
                        have HI1 : Hid (∀ _ : True, _) := fun _ => HIH.out mid e b d3 (by omega) (by omega) (by omega) (by have := D2.out.1; omega) (by have := D2.out.1; omega) (ok_perm (by omega) D2.out HOK.out) (HCUT.out.2.2.1.congr fun k hk _ => L2.out.1.2.1 k (by omega)) (HCUT.out.2.2.2.1.congr fun k hk _ => L2.out.1.2.1 k (by omega)) w3 U2.out (below_bg hg HW.out B2.out)
                        rw [D2.out.1, hsz] at HI1
                        go_wp2_with fail
                        refine (HI1.out trivial).mono ?_
                        rintro ee w5 ⟨rfl, d5, u5, s5, p5, b5⟩
                        have HF : Hid (Ur w5 g z d5 ∧ Srt K a b d5 ∧ Sort.PermIn a b d d5 ∧ Bg g w w5) := ⟨u5, sym_join (by have := P1.out.1; omega) (by omega) (by omega) HCUT.out.2.2.2.2 L2.out.1 L2.out.2 p5 s5, Sort.permIn_trans _ _ _ _ _ D2.out (Sort.permIn_mono _ _ _ _ _ _ (by omega) (by omega) (by have := D2.out.1; omega) p5), B2.out.trans b5⟩
                        clear u5 s5 p5 b5 HI1
                        go_wp2_with fail
                        refine bodyPost_end (results_none rfl _ _ _) rfl ?_
                        exact ⟨rfl, d5, HF.out⟩)
                 · have HF : Hid (Ur w3 g z d3 ∧ Srt K a b d3 ∧ Sort.PermIn a b d d3 ∧ Bg g w w3) := ⟨U2.out, sym_join (by have := P1.out.1; omega) (by omega) (by omega) HCUT.out.2.2.2.2 L2.out.1 L2.out.2 (Sort.permIn_refl _ _ _) ((srt_right HCUT.out.2.2.1 HCUT.out.2.2.2.1 (by omega) hrt).congr fun k hk _ => L2.out.1.2.1 k (by omega)), D2.out, B2.out⟩
                   by_cases r1 : mid < e
                   · have r2 : (mid : Int) < (e : Int) := by omega
                     have r3 : ¬ (e : Int) < (b : Int) := by omega
                     first
                       | (exfalso; omega)
                       | (skip
                          go_wp2_with fail
                          refine bodyPost_end (results_none rfl _ _ _) rfl ?_
                          exact ⟨rfl, d3, HF.out⟩)
                   · have r2 : ¬ (mid : Int) < (e : Int) := by omega
                     first
                       | (exfalso; omega)
                       | (skip
                          go_wp2_with fail
                          refine bodyPost_end (results_none rfl _ _ _) rfl ?_
                          exact ⟨rfl, d3, HF.out⟩))
      · have U1 : Hid (Ur wr g z d) := HU1.out
        have P1 : Hid (Sort.PermIn a b d d) := Sort.permIn_refl _ _ _
        have B1 : Hid (Bg g w wr) := HBG.out
        by_cases t1 : s < m
        · have HCUT : Hid _ := HCUTf.out d (by rw [show e = m by omega]; exact Rot.right _ _ _)
          have t2 : (s : Int) < (m : Int) := by omega
          have t3 : ¬ (m : Int) < (e : Int) := by omega
          clear HCUTf HR
          first
            | (exfalso; omega)
            | (skip
               by_cases hlf : a < s ∧ s < mid
               · first
                   | (exfalso; omega)
                   | (skip
                      have l1 : (a : Int) < (s : Int) := by omega
                      have l2 : (s : Int) < (mid : Int) := by omega
                      have HI1 : Hid (∀ _ : True, _) := fun _ => HIH.out a s mid d (by omega) (by omega) (by omega) (by omega) (by omega) (ok_perm (by omega) P1.out HOK.out) HCUT.out.1 HCUT.out.2.1 wr U1.out (below_bg hg HW.out B1.out)
                      rw [hsz] at HI1
                      go_wp2_with fail
                      refine (HI1.out trivial).mono ?_
                      rintro ee w4 ⟨rfl, d4, u4, s4, p4, b4⟩
                      have U2 : Hid (Ur w4 g z d4) := u4
                      have L2 : Hid (Sort.PermIn a mid d d4 ∧ Srt K a mid d4) := ⟨p4, s4⟩
                      have B2 : Hid (Bg g w w4) := B1.out.trans b4
                      have D2 : Hid (Sort.PermIn a b d d4) := Sort.permIn_trans _ _ _ _ _ P1.out (Sort.permIn_mono _ _ _ _ _ _ (by omega) (by omega) (by omega) p4)
                      clear u4 s4 p4 b4 HI1
                      by_cases hrt : mid < e ∧ e < b
                      · first
                          | (exfalso; omega)
                          | (skip
                             have r1 : (mid : Int) < (e : Int) := by omega
                             have r2 : (e : Int) < (b : Int) := by omega
                             have HI1 : Hid (∀ _ : True, _) := fun _ => HIH.out mid e b d4 (by omega) (by omega) (by omega) (by omega) (by omega) (ok_perm (by omega) D2.out HOK.out) (HCUT.out.2.2.1.congr fun k hk _ => L2.out.1.2.1 k (by omega)) (HCUT.out.2.2.2.1.congr fun k hk _ => L2.out.1.2.1 k (by omega)) w4 U2.out (below_bg hg HW.out B2.out)
                             rw [D2.out.1, hsz] at HI1
                             go_wp2_with fail
                             refine (HI1.out trivial).mono ?_
                             rintro ee w5 ⟨rfl, d5, u5, s5, p5, b5⟩
                             have HF : Hid (Ur w5 g z d5 ∧ Srt K a b d5 ∧ Sort.PermIn a b d d5 ∧ Bg g w w5) := ⟨u5, sym_join (by omega) (by omega) (by omega) HCUT.out.2.2.2.2 L2.out.1 L2.out.2 p5 s5, Sort.permIn_trans _ _ _ _ _ D2.out (Sort.permIn_mono _ _ _ _ _ _ (by omega) (by omega) (by omega) p5), B2.out.trans b5⟩
                             clear u5 s5 p5 b5 HI1
                             go_wp2_with fail
                             refine bodyPost_end (results_none rfl _ _ _) rfl ?_
                             exact ⟨rfl, d5, HF.out⟩)
                      · have HF : Hid (Ur w4 g z d4 ∧ Srt K a b d4 ∧ Sort.PermIn a b d d4 ∧ Bg g w w4) := ⟨U2.out, sym_join (by omega) (by omega) (by omega) HCUT.out.2.2.2.2 L2.out.1 L2.out.2 (Sort.permIn_refl _ _ _) ((srt_right HCUT.out.2.2.1 HCUT.out.2.2.2.1 (by omega) hrt).congr fun k hk _ => L2.out.1.2.1 k (by omega)), D2.out, B2.out⟩
                        by_cases r1 : mid < e
                        · have r2 : (mid : Int) < (e : Int) := by omega
                          have r3 : ¬ (e : Int) < (b : Int) := by omega
                          first
                            | (exfalso; omega)
                            | (skip
                               go_wp2_with fail
                               refine bodyPost_end (results_none rfl _ _ _) rfl ?_
                               exact ⟨rfl, d4, HF.out⟩)
                        · have r2 : ¬ (mid : Int) < (e : Int) := by omega
                          first
                            | (exfalso; omega)
                            | (skip
                               go_wp2_with fail
                               refine bodyPost_end (results_none rfl _ _ _) rfl ?_
                               exact ⟨rfl, d4, HF.out⟩))
               · have U2 : Hid (Ur wr g z d) := U1.out
                 have L2 : Hid (Sort.PermIn a mid d d ∧ Srt K a mid d) := ⟨Sort.permIn_refl _ _ _, srt_left HCUT.out.1 HCUT.out.2.1 (by omega) hlf⟩
                 have B2 : Hid (Bg g w wr) := B1.out
                 have D2 : Hid (Sort.PermIn a b d d) := P1.out
                 by_cases l1 : a < s
                 · have l2 : (a : Int) < (s : Int) := by omega
                   have l3 : ¬ (s : Int) < (mid : Int) := by omega
                   first
                     | (exfalso; omega)
                     | (skip
                        by_cases hrt : mid < e ∧ e < b
                        · first
                            | (exfalso; omega)
                            | (skip
                               have r1 : (mid : Int) < (e : Int) := by omega
                               have r2 : (e : Int) < (b : Int) := by omega
                               have HI1 : Hid (∀ _ : True, _) := fun _ => HIH.out mid e b d (by omega) (by omega) (by omega) (by omega) (by omega) (ok_perm (by omega) D2.out HOK.out) (HCUT.out.2.2.1.congr fun k hk _ => L2.out.1.2.1 k (by omega)) (HCUT.out.2.2.2.1.congr fun k hk _ => L2.out.1.2.1 k (by omega)) wr U2.out (below_bg hg HW.out B2.out)
                               rw [D2.out.1, hsz] at HI1
                               go_wp2_with fail
                               refine (HI1.out trivial).mono ?_
                               rintro ee w5 ⟨rfl, d5, u5, s5, p5, b5⟩
                               have HF : Hid (Ur w5 g z d5 ∧ Srt K a b d5 ∧ Sort.PermIn a b d d5 ∧ Bg g w w5) := ⟨u5, sym_join (by omega) (by omega) (by omega) HCUT.out.2.2.2.2 L2.out.1 L2.out.2 p5 s5, Sort.permIn_trans _ _ _ _ _ D2.out (Sort.permIn_mono _ _ _ _ _ _ (by omega) (by omega) (by omega) p5), B2.out.trans b5⟩
                               clear u5 s5 p5 b5 HI1
                               go_wp2_with fail
                               refine bodyPost_end (results_none rfl _ _ _) rfl ?_
                               exact ⟨rfl, d5, HF.out⟩)
                        · have HF : Hid (Ur wr g z d ∧ Srt K a b d ∧ Sort.PermIn a b d d ∧ Bg g w wr) := ⟨U2.out, sym_join (by omega) (by omega) (by omega) HCUT.out.2.2.2.2 L2.out.1 L2.out.2 (Sort.permIn_refl _ _ _) ((srt_right HCUT.out.2.2.1 HCUT.out.2.2.2.1 (by omega) hrt).congr fun k hk _ => L2.out.1.2.1 k (by omega)), D2.out, B2.out⟩
                          by_cases r1 : mid < e
                          · have r2 : (mid : Int) < (e : Int) := by omega
                            have r3 : ¬ (e : Int) < (b : Int) := by omega
                            first
                              | (exfalso; omega)
                              | (skip
                                 go_wp2_with fail
                                 refine bodyPost_end (results_none rfl _ _ _) rfl ?_
                                 exact ⟨rfl, d, HF.out⟩)
                          · have r2 : ¬ (mid : Int) < (e : Int) := by omega
                            first
                              | (exfalso; omega)
                              | (skip
                                 go_wp2_with fail
                                 refine bodyPost_end (results_none rfl _ _ _) rfl ?_
                                 exact ⟨rfl, d, HF.out⟩))
                 · have l2 : ¬ (a : Int) < (s : Int) := by omega
                   first
                     | (exfalso; omega)
                     | (skip
                        by_cases hrt : mid < e ∧ e < b
                        · first
                            | (exfalso; omega)
                            | (skip
                               have r1 : (mid : Int) < (e : Int) := by omega
                               have r2 : (e : Int) < (b : Int) := by omega
                               have HI1 : Hid (∀ _ : True, _) := fun _ => HIH.out mid e b d (by omega) (by omega) (by omega) (by omega) (by omega) (ok_perm (by omega) D2.out HOK.out) (HCUT.out.2.2.1.congr fun k hk _ => L2.out.1.2.1 k (by omega)) (HCUT.out.2.2.2.1.congr fun k hk _ => L2.out.1.2.1 k (by omega)) wr U2.out (below_bg hg HW.out B2.out)
                               rw [D2.out.1, hsz] at HI1
                               go_wp2_with fail
                               refine (HI1.out trivial).mono ?_
                               rintro ee w5 ⟨rfl, d5, u5, s5, p5, b5⟩
                               have HF : Hid (Ur w5 g z d5 ∧ Srt K a b d5 ∧ Sort.PermIn a b d d5 ∧ Bg g w w5) := ⟨u5, sym_join (by omega) (by omega) (by omega) HCUT.out.2.2.2.2 L2.out.1 L2.out.2 p5 s5, Sort.permIn_trans _ _ _ _ _ D2.out (Sort.permIn_mono _ _ _ _ _ _ (by omega) (by omega) (by omega) p5), B2.out.trans b5⟩
                               clear u5 s5 p5 b5 HI1
                               go_wp2_with fail
                               refine bodyPost_end (results_none rfl _ _ _) rfl ?_
                               exact ⟨rfl, d5, HF.out⟩)
                        · have HF : Hid (Ur wr g z d ∧ Srt K a b d ∧ Sort.PermIn a b d d ∧ Bg g w wr) := ⟨U2.out, sym_join (by omega) (by omega) (by omega) HCUT.out.2.2.2.2 L2.out.1 L2.out.2 (Sort.permIn_refl _ _ _) ((srt_right HCUT.out.2.2.1 HCUT.out.2.2.2.1 (by omega) hrt).congr fun k hk _ => L2.out.1.2.1 k (by omega)), D2.out, B2.out⟩
                          by_cases r1 : mid < e
                          · have r2 : (mid : Int) < (e : Int) := by omega
                            have r3 : ¬ (e : Int) < (b : Int) := by omega
                            first
                              | (exfalso; omega)
                              | (skip
                                 go_wp2_with fail
                                 refine bodyPost_end (results_none rfl _ _ _) rfl ?_
                                 exact ⟨rfl, d, HF.out⟩)
                          · have r2 : ¬ (mid : Int) < (e : Int) := by omega
                            first
                              | (exfalso; omega)
                              | (skip
                                 go_wp2_with fail
                                 refine bodyPost_end (results_none rfl _ _ _) rfl ?_
                                 exact ⟨rfl, d, HF.out⟩)))
        · have HCUT : Hid _ := HCUTf.out d (by rw [show s = m by omega]; exact Rot.left _ _ _)
          have t2 : ¬ (s : Int) < (m : Int) := by omega
          clear HCUTf HR
          first
            | (exfalso; omega)
            | (skip
               by_cases hlf : a < s ∧ s < mid
               · first
                   | (exfalso; omega)
                   | (skip
                      have l1 : (a : Int) < (s : Int) := by omega
                      have l2 : (s : Int) < (mid : Int) := by omega
                      have HI1 : Hid (∀ _ : True, _) := fun _ => HIH.out a s mid d (by omega) (by omega) (by omega) (by omega) (by omega) (ok_perm (by omega) P1.out HOK.out) HCUT.out.1 HCUT.out.2.1 wr U1.out (below_bg hg HW.out B1.out)
                      rw [hsz] at HI1
                      go_wp2_with fail
                      refine (HI1.out trivial).mono ?_
                      rintro ee w4 ⟨rfl, d4, u4, s4, p4, b4⟩
                      have U2 : Hid (Ur w4 g z d4) := u4
                      have L2 : Hid (Sort.PermIn a mid d d4 ∧ Srt K a mid d4) := ⟨p4, s4⟩
                      have B2 : Hid (Bg g w w4) := B1.out.trans b4
                      have D2 : Hid (Sort.PermIn a b d d4) := Sort.permIn_trans _ _ _ _ _ P1.out (Sort.permIn_mono _ _ _ _ _ _ (by omega) (by omega) (by omega) p4)
                      clear u4 s4 p4 b4 HI1
                      by_cases hrt : mid < e ∧ e < b
                      · first
                          | (exfalso; omega)
                          | (skip
                             have r1 : (mid : Int) < (e : Int) := by omega
                             have r2 : (e : Int) < (b : Int) := by omega
                             have HI1 : Hid (∀ _ : True, _) := fun _ => HIH.out mid e b d4 (by omega) (by omega) (by omega) (by omega) (by omega) (ok_perm (by omega) D2.out HOK.out) (HCUT.out.2.2.1.congr fun k hk _ => L2.out.1.2.1 k (by omega)) (HCUT.out.2.2.2.1.congr fun k hk _ => L2.out.1.2.1 k (by omega)) w4 U2.out (below_bg hg HW.out B2.out)
                             rw [D2.out.1, hsz] at HI1
                             go_wp2_with fail
                             refine (HI1.out trivial).mono ?_
                             rintro ee w5 ⟨rfl, d5, u5, s5, p5, b5⟩
                             have HF : Hid (Ur w5 g z d5 ∧ Srt K a b d5 ∧ Sort.PermIn a b d d5 ∧ Bg g w w5) := ⟨u5, sym_join (by omega) (by omega) (by omega) HCUT.out.2.2.2.2 L2.out.1 L2.out.2 p5 s5, Sort.permIn_trans _ _ _ _ _ D2.out (Sort.permIn_mono _ _ _ _ _ _ (by omega) (by omega) (by omega) p5), B2.out.trans b5⟩
                             clear u5 s5 p5 b5 HI1
                             go_wp2_with fail
                             refine bodyPost_end (results_none rfl _ _ _) rfl ?_
                             exact ⟨rfl, d5, HF.out⟩)
                      · have HF : Hid (Ur w4 g z d4 ∧ Srt K a b d4 ∧ Sort.PermIn a b d d4 ∧ Bg g w w4) := ⟨U2.out, sym_join (by omega) (by omega) (by omega) HCUT.out.2.2.2.2 L2.out.1 L2.out.2 (Sort.permIn_refl _ _ _) ((srt_right HCUT.out.2.2.1 HCUT.out.2.2.2.1 (by omega) hrt).congr fun k hk _ => L2.out.1.2.1 k (by omega)), D2.out, B2.out⟩
                        by_cases r1 : mid < e
                        · have r2 : (mid : Int) < (e : Int) := by omega
                          have r3 : ¬ (e : Int) < (b : Int) := by omega
                          first
                            | (exfalso; omega)
                            | (skip
                               go_wp2_with fail
                               refine bodyPost_end (results_none rfl _ _ _) rfl ?_
                               exact ⟨rfl, d4, HF.out⟩)
                        · have r2 : ¬ (mid : Int) < (e : Int) := by omega
                          first
                            | (exfalso; omega)
                            | (skip
                               go_wp2_with fail
                               refine bodyPost_end (results_none rfl _ _ _) rfl ?_
                               exact ⟨rfl, d4, HF.out⟩))
               · have U2 : Hid (Ur wr g z d) := U1.out
                 have L2 : Hid (Sort.PermIn a mid d d ∧ Srt K a mid d) := ⟨Sort.permIn_refl _ _ _, srt_left HCUT.out.1 HCUT.out.2.1 (by omega) hlf⟩
                 have B2 : Hid (Bg g w wr) := B1.out
                 have D2 : Hid (Sort.PermIn a b d d) := P1.out
                 by_cases l1 : a < s
                 · have l2 : (a : Int) < (s : Int) := by omega
                   have l3 : ¬ (s : Int) < (mid : Int) := by omega
                   first
                     | (exfalso; omega)
                     | (skip
                        by_cases hrt : mid < e ∧ e < b
                        · first
                            | (exfalso; omega)
                            | (skip
                               have r1 : (mid : Int) < (e : Int) := by omega
                               have r2 : (e : Int) < (b : Int) := by omega
                               have HI1 : Hid (∀ _ : True, _) := fun _ => HIH.out mid e b d (by omega) (by omega) (by omega) (by omega) (by omega) (ok_perm (by omega) D2.out HOK.out) (HCUT.out.2.2.1.congr fun k hk _ => L2.out.1.2.1 k (by omega)) (HCUT.out.2.2.2.1.congr fun k hk _ => L2.out.1.2.1 k (by omega)) wr U2.out (below_bg hg HW.out B2.out)
                               rw [D2.out.1, hsz] at HI1
                               go_wp2_with fail
                               refine (HI1.out trivial).mono ?_
                               rintro ee w5 ⟨rfl, d5, u5, s5, p5, b5⟩
                               have HF : Hid (Ur w5 g z d5 ∧ Srt K a b d5 ∧ Sort.PermIn a b d d5 ∧ Bg g w w5) := ⟨u5, sym_join (by omega) (by omega) (by omega) HCUT.out.2.2.2.2 L2.out.1 L2.out.2 p5 s5, Sort.permIn_trans _ _ _ _ _ D2.out (Sort.permIn_mono _ _ _ _ _ _ (by omega) (by omega) (by omega) p5), B2.out.trans b5⟩
                               clear u5 s5 p5 b5 HI1
                               go_wp2_with fail
                               refine bodyPost_end (results_none rfl _ _ _) rfl ?_
                               exact ⟨rfl, d5, HF.out⟩)
                        · have HF : Hid (Ur wr g z d ∧ Srt K a b d ∧ Sort.PermIn a b d d ∧ Bg g w wr) := ⟨U2.out, sym_join (by omega) (by omega) (by omega) HCUT.out.2.2.2.2 L2.out.1 L2.out.2 (Sort.permIn_refl _ _ _) ((srt_right HCUT.out.2.2.1 HCUT.out.2.2.2.1 (by omega) hrt).congr fun k hk _ => L2.out.1.2.1 k (by omega)), D2.out, B2.out⟩
                          by_cases r1 : mid < e
                          · have r2 : (mid : Int) < (e : Int) := by omega
                            have r3 : ¬ (e : Int) < (b : Int) := by omega
                            first
                              | (exfalso; omega)
                              | (skip
                                 go_wp2_with fail
                                 refine bodyPost_end (results_none rfl _ _ _) rfl ?_
                                 exact ⟨rfl, d, HF.out⟩)
                          · have r2 : ¬ (mid : Int) < (e : Int) := by omega
                            first
                              | (exfalso; omega)
                              | (skip
                                 go_wp2_with fail
                                 refine bodyPost_end (results_none rfl _ _ _) rfl ?_
                                 exact ⟨rfl, d, HF.out⟩))
                 · have l2 : ¬ (a : Int) < (s : Int) := by omega
                   first
                     | (exfalso; omega)
                     | (skip
                        by_cases hrt : mid < e ∧ e < b
                        · first
                            | (exfalso; omega)
                            | (skip
                               have r1 : (mid : Int) < (e : Int) := by omega
                               have r2 : (e : Int) < (b : Int) := by omega
                               have HI1 : Hid (∀ _ : True, _) := fun _ => HIH.out mid e b d (by omega) (by omega) (by omega) (by omega) (by omega) (ok_perm (by omega) D2.out HOK.out) (HCUT.out.2.2.1.congr fun k hk _ => L2.out.1.2.1 k (by omega)) (HCUT.out.2.2.2.1.congr fun k hk _ => L2.out.1.2.1 k (by omega)) wr U2.out (below_bg hg HW.out B2.out)
                               rw [D2.out.1, hsz] at HI1
                               go_wp2_with fail
                               refine (HI1.out trivial).mono ?_
                               rintro ee w5 ⟨rfl, d5, u5, s5, p5, b5⟩
                               have HF : Hid (Ur w5 g z d5 ∧ Srt K a b d5 ∧ Sort.PermIn a b d d5 ∧ Bg g w w5) := ⟨u5, sym_join (by omega) (by omega) (by omega) HCUT.out.2.2.2.2 L2.out.1 L2.out.2 p5 s5, Sort.permIn_trans _ _ _ _ _ D2.out (Sort.permIn_mono _ _ _ _ _ _ (by omega) (by omega) (by omega) p5), B2.out.trans b5⟩
                               clear u5 s5 p5 b5 HI1
                               go_wp2_with fail
                               refine bodyPost_end (results_none rfl _ _ _) rfl ?_
                               exact ⟨rfl, d5, HF.out⟩)
                        · have HF : Hid (Ur wr g z d ∧ Srt K a b d ∧ Sort.PermIn a b d d ∧ Bg g w wr) := ⟨U2.out, sym_join (by omega) (by omega) (by omega) HCUT.out.2.2.2.2 L2.out.1 L2.out.2 (Sort.permIn_refl _ _ _) ((srt_right HCUT.out.2.2.1 HCUT.out.2.2.2.1 (by omega) hrt).congr fun k hk _ => L2.out.1.2.1 k (by omega)), D2.out, B2.out⟩
                          by_cases r1 : mid < e
                          · have r2 : (mid : Int) < (e : Int) := by omega
                            have r3 : ¬ (e : Int) < (b : Int) := by omega
                            first
                              | (exfalso; omega)
                              | (skip
                                 go_wp2_with fail
                                 refine bodyPost_end (results_none rfl _ _ _) rfl ?_
                                 exact ⟨rfl, d, HF.out⟩)
                          · have r2 : ¬ (mid : Int) < (e : Int) := by omega
                            first
                              | (exfalso; omega)
                              | (skip
                                 go_wp2_with fail
                                 refine bodyPost_end (results_none rfl _ _ _) rfl ?_
                                 exact ⟨rfl, d, HF.out⟩)))
set_option maxRecDepth 100000 in
theorem symR_any (w0 : World) (ok : Rw → Prop) (K : Rw → Nat) (cf : Nat) (cb : Array Value) (hC : Cmp w0 ok (ltK K) cf cb) (g z cap : Nat) (hg : w0.heap.size ≤ g) : ∀ N, SymOk w0 ok K cf cb g z cap N
 | 0 => fun a m b d h1 h2 h3 => by omega
 | N + 1 => fun a m b d h1 h2 h3 h4 h5 h6 h7 h8 w h9 h10 => by
  by_cases c1 : m = a + 1
  ·subst c1
   exact symL_any w0 ok K cf cb hC g z cap a b hg d h3 h4 h5 h6 h8 w h9 h10
  ·by_cases c2 : b = m + 1
   ·subst c2
    exact symE_any w0 ok K cf cb hC g z cap a m hg d (by omega) h4 h5 h6 h7 w h9 h10
   ·by_cases c3 : (a + b) / 2 < m
    ·exact symM1_any w0 ok K cf cb hC g z cap N hg (symR_any w0 ok K cf cb hC g z cap hg N) a m b d h1 (by omega) (by omega) h4 h5 h6 c3 h7 h8 w h9 h10
    ·exact symM2_any w0 ok K cf cb hC g z cap N hg (symR_any w0 ok K cf cb hC g z cap hg N) a m b d h1 (by omega) (by omega) h4 h5 h6 c3 h7 h8 w h9 h10
set_option maxRecDepth 100000 in
set_option maxHeartbeats 4000000 in
theorem stableR_any (w0 : World) (ok : Rw → Prop) (K : Rw → Nat) (cf : Nat) (cb : Array Value) (hC : Cmp w0 ok (ltK K) cf cb) (g z cap : Nat) (hg : w0.heap.size ≤ g) (d : Array Rw) (hd : d.size ≤ 1000000) (hok : ∀ i, i < d.size → ok d[i]!) (w : World) (h : Ur w g z d) (hW : Below w0.heap.size w0 w) :
  Calls Try.prog 81 #[.slice (some ⟨g, 0, none⟩) d.size cap, .int .i64 (d.size : Int), .func (.func cf) #[] cb] w fun e w' => e = .returned (.tuple #[]) ∧ ∃ d', Ur w' g z d' ∧ Srt K 0 d.size d' ∧ Sort.PermIn 0 d.size d d' ∧ Bg g w w' := by
 have HU : Hid (Ur w g z d) := h
 have HW : Hid (Below w0.heap.size w0 w) := hW
 have HOK : Hid (∀ i, i < d.size → ok d[i]!) := hok
 have HI : Hid _ := insR_any w0 ok (ltK K) cf cb hC g z cap
 have HM : Hid _ := symR_any w0 ok K cf cb hC g z cap hg
 clear h hW hC hok
 obtain ⟨n, hsz⟩ : ∃ n, d.size = n := ⟨_, rfl⟩
 rw [hsz] at hd ⊢
 go_enter Try.func81, Try.ntmps81
 go_wp2_with fail
 go_loopw [7, 8] (fun av bv wr => ∃ (q a b : Nat) (d1 : Array Rw), av = .int .i64 (a : Int) ∧ bv = .int .i64 (b : Int) ∧ (a = q * 20 ∧ b = a + 20 ∧ a ≤ n) ∧ Ur wr g z d1 ∧ Pre K 20 q d1 ∧ Sort.PermIn 0 n d d1 ∧ Bg g w wr) (fun _ bv _ => n + 20 - natOf bv)
 case atStart => exact ⟨0, 0, 20, d, rfl, rfl, by omega, HU.out, Pre.zero _ _ _, Sort.permIn_refl _ _ _, But.refl _ _⟩
 case round =>
  obtain ⟨q, a, b, d1, rfl, rfl, ⟨hq', rfl, han⟩, hu, hpre, hpm, hbg⟩ := hrel
  have HQ : Hid (a = q * 20) := hq'
  clear hq'
  have S1 : d1.size = n := hpm.1.trans hsz
  have HU1 : Hid (Ur wr g z d1) := hu
  have HPR : Hid (Pre K 20 q d1) := hpre
  have HPM : Hid (Sort.PermIn 0 n d d1) := hpm
  have HBG : Hid (Bg g w wr) := hbg
  have HO1 : Hid (∀ i, i < d1.size → ok d1[i]!) := ok_perm (by omega) hpm HOK.out
  have HW1 : Hid (Below w0.heap.size w0 wr) := below_bg hg HW.out hbg
  clear hu hpre hpm hbg
  by_cases hlt : a + 20 ≤ n
  ·have q1 : ((a + 20 : Nat) : Int) ≤ (n : Int) := by omega
   have HI1 : Hid (∀ _ : True, _) := fun _ => HI.out a (a + 20) d1 HO1.out (by omega) (by omega) (by omega) wr HU1.out hg HW1.out
   rw [S1] at HI1
   have HF : Hid (Sort.PermIn a (a + 20) d1 (Sort.insertionSort (ltK K) d1 a (a + 20)) ∧ Srt K a (a + 20) (Sort.insertionSort (ltK K) d1 a (a + 20))) := ins_key K d1 a (a + 20) (by omega) (by omega)
   obtain ⟨b, hb⟩ : ∃ b, a + 20 = b := ⟨_, rfl⟩
   rw [hb] at HI1 HF q1 ⊢
   clear HI
   go_wp2_with fail
   refine (HI1.out trivial).mono ?_
   rintro e w1 ⟨rfl, u2, b2⟩
   have q2 : IntKind.i64.wrap ((b : Int) + 20) = ((b + 20 : Nat) : Int) := by rw [wrap_i64 (by omega) (by omega)]; omega
   generalize Sort.insertionSort (ltK K) d1 a b = d2 at u2 HF
   have HE : Hid (Ur w1 g z d2 ∧ Pre K 20 (q + 1) d2 ∧ Sort.PermIn 0 n d d2 ∧ Bg g w w1) := ⟨u2, HPR.out.snoc HQ.out (fun k hk => HF.out.1.2.1 k (by omega)) (by rw [hb]; exact HF.out.2), Sort.permIn_trans _ _ _ _ _ HPM.out (Sort.permIn_mono _ _ _ _ _ _ (by omega) (by omega) (by omega) HF.out.1), HBG.out.trans b2⟩
   clear u2 b2 HI1 HF
   go_wp2_with fail
   go_roundw
   case rel => exact ⟨q + 1, b, b + 20, d2, rfl, by go_num, by have := HQ.out; omega, HE.out⟩
   case measure => simp [natOf]; omega
  ·have q1 : ¬ ((a + 20 : Nat) : Int) ≤ (n : Int) := by omega
   have HI1 : Hid (∀ _ : True, _) := fun _ => HI.out a n d1 HO1.out (by omega) (by omega) (by omega) wr HU1.out hg HW1.out
   rw [S1] at HI1
   have HF : Hid (Sort.PermIn a n d1 (Sort.insertionSort (ltK K) d1 a n) ∧ Srt K a n (Sort.insertionSort (ltK K) d1 a n)) := ins_key K d1 a n (by omega) (by omega)
   obtain ⟨b, hb⟩ : ∃ b, a + 20 = b := ⟨_, rfl⟩
   rw [hb] at q1 ⊢
   clear HI
   go_wp2_with fail
   refine (HI1.out trivial).mono ?_
   rintro e w1 ⟨rfl, u2, b2⟩
   generalize Sort.insertionSort (ltK K) d1 a n = d2 at u2 HF
   have HE : Hid (Ur w1 g z d2 ∧ Suf K 20 0 n d2 ∧ Sort.PermIn 0 n d d2 ∧ Bg g w w1) := ⟨u2, HPR.out.suf HQ.out (by omega) (fun k hk => HF.out.1.2.1 k (by omega)) HF.out.2, Sort.permIn_trans _ _ _ _ _ HPM.out (Sort.permIn_mono _ _ _ _ _ _ (by omega) (by omega) (by omega) HF.out.1), HBG.out.trans b2⟩
   clear u2 b2 HI1 HF HPR HPM HBG HO1 HW1 HU1 q1 hlt hb HQ han S1
   go_wp2_with fail
   go_loopw [6] (fun sv wr => ∃ (s : Nat) (d1 : Array Rw), sv = .int .i64 (s : Int) ∧ (0 < s ∧ (s = 20 ∨ s < 2 * n)) ∧ Ur wr g z d1 ∧ Suf K s 0 n d1 ∧ Sort.PermIn 0 n d d1 ∧ Bg g w wr) (fun sv _ => n - natOf sv)
   case atStart => exact ⟨20, d2, rfl, by omega, HE.out⟩
   case round =>
    obtain ⟨s, d3, rfl, ⟨hs0, hs1⟩, hu, hsuf, hpm, hbg⟩ := hrel
    clear HE
    have S3 : d3.size = n := hpm.1.trans hsz
    have HU3 : Hid (Ur wr g z d3) := hu
    have HSF : Hid (Suf K s 0 n d3) := hsuf
    have HPM : Hid (Sort.PermIn 0 n d d3) := hpm
    have HBG : Hid (Bg g w wr) := hbg
    clear hu hsuf hpm hbg
    by_cases hsn : s < n
    ·have q1 : (s : Int) < (n : Int) := by omega
     obtain ⟨S, hS⟩ : ∃ S, 2 * s = S := ⟨_, rfl⟩
     have q2 : IntKind.i64.wrap (2 * (s : Int)) = (S : Int) := by rw [wrap_i64 (by omega) (by omega)]; omega
     have q2' : IntKind.i64.wrap ((s : Int) * 2) = (S : Int) := by rw [wrap_i64 (by omega) (by omega)]; omega
     go_wp2_with fail
     go_loopw [7, 8] (fun av bv wr => ∃ (q a b : Nat) (d4 : Array Rw), av = .int .i64 (a : Int) ∧ bv = .int .i64 (b : Int) ∧ (a = q * S ∧ b = a + S ∧ a ≤ n) ∧ Ur wr g z d4 ∧ (Pre K S q d4 ∧ Suf K s a n d4) ∧ Sort.PermIn 0 n d d4 ∧ Bg g w wr) (fun _ bv _ => n + S - natOf bv)
     case atStart => exact ⟨0, 0, S, d3, rfl, rfl, by omega, HU3.out, ⟨Pre.zero _ _ _, HSF.out⟩, HPM.out, HBG.out⟩
     case round =>
      obtain ⟨q, a, b, d4, rfl, rfl, ⟨hq', hb', han⟩, hu, ⟨hpre, hsuf⟩, hpm, hbg⟩ := hrel
      have HQ : Hid (a = q * S) := hq'
      have HB : Hid (b = a + S) := hb'
      have hb1 : b ≤ a + S := by omega
      have hb2 : a + S ≤ b := by omega
      clear hq' hb'
      clear HU3 HSF HPM HBG
      have S4 : d4.size = n := hpm.1.trans hsz
      have HU4 : Hid (Ur wr g z d4) := hu
      have HPR : Hid (Pre K S q d4) := hpre
      have HSF : Hid (Suf K s a n d4) := hsuf
      have HPM : Hid (Sort.PermIn 0 n d d4) := hpm
      have HBG : Hid (Bg g w wr) := hbg
      have HO4 : Hid (∀ i, i < d4.size → ok d4[i]!) := ok_perm (by omega) hpm HOK.out
      have HW4 : Hid (Below w0.heap.size w0 wr) := below_bg hg HW.out hbg
      clear hu hpre hsuf hpm hbg
      obtain ⟨m, hm⟩ : ∃ m, a + s = m := ⟨_, rfl⟩
      have q3 : IntKind.i64.wrap ((a : Int) + (s : Int)) = (m : Int) := by rw [wrap_i64 (by omega) (by omega)]; omega
      by_cases hlt : b ≤ n
      ·have q4 : (b : Int) ≤ (n : Int) := by omega
       have q5 : IntKind.i64.wrap ((b : Int) + (S : Int)) = ((b + S : Nat) : Int) := by rw [wrap_i64 (by omega) (by omega)]; omega
       have HM1 : Hid (∀ _ : True, _) := fun _ => HM.out (b - a) a m b d4 (Nat.le_refl _) (by omega) (by omega) (by omega) (by omega) HO4.out (by have := HSF.out.head; rwa [hm, Nat.min_eq_left (by omega)] at this) (by have := HSF.out.tail.head; rwa [hm, show m + s = b by omega, Nat.min_eq_left (by omega)] at this) wr HU4.out HW4.out
       rw [S4] at HM1
       clear HM
       go_wp2_with fail
       refine (HM1.out trivial).mono ?_
       rintro e w1 ⟨rfl, d5, u5, s5, p5, b5⟩
       have HE : Hid (Ur w1 g z d5 ∧ (Pre K S (q + 1) d5 ∧ Suf K s b n d5) ∧ Sort.PermIn 0 n d d5 ∧ Bg g w w1) := ⟨u5, ⟨HPR.out.snoc HQ.out (fun k hk => p5.2.1 k (by omega)) (by rw [← HB.out]; exact s5), by have := HSF.out.tail.tail; rw [show a + s + s = b by omega] at this; exact this.congr fun k hk => p5.2.1 k (by omega)⟩, Sort.permIn_trans _ _ _ _ _ HPM.out (Sort.permIn_mono _ _ _ _ _ _ (by omega) (by omega) (by omega) p5), HBG.out.trans b5⟩
       clear u5 s5 p5 b5 HM1
       go_wp2_with fail
       go_roundw
       case rel => exact ⟨q + 1, b, b + S, d5, rfl, by go_num, by rw [Nat.succ_mul]; have := HQ.out; omega, HE.out⟩
       case measure => simp [natOf]; omega
      ·have q4 : ¬ (b : Int) ≤ (n : Int) := by omega
       by_cases hmn : m < n
       ·have q5 : (m : Int) < (n : Int) := by omega
        have HM1 : Hid (∀ _ : True, _) := fun _ => HM.out (n - a) a m n d4 (Nat.le_refl _) (by omega) (by omega) (by omega) (by omega) HO4.out (by have := HSF.out.head; rwa [hm, Nat.min_eq_left (by omega)] at this) (by have := HSF.out.tail.head; rwa [hm, show m + s = b by omega, Nat.min_eq_right (by omega)] at this) wr HU4.out HW4.out
        rw [S4] at HM1
        clear HM
        go_wp2_with fail
        refine (HM1.out trivial).mono ?_
        rintro e w1 ⟨rfl, d5, u5, s5, p5, b5⟩
        have HE : Hid (Ur w1 g z d5 ∧ Suf K S 0 n d5 ∧ Sort.PermIn 0 n d d5 ∧ Bg g w w1) := ⟨u5, HPR.out.suf HQ.out (by omega) (fun k hk => p5.2.1 k (by omega)) s5, Sort.permIn_trans _ _ _ _ _ HPM.out (Sort.permIn_mono _ _ _ _ _ _ (by omega) (by omega) (by omega) p5), HBG.out.trans b5⟩
        clear u5 s5 p5 b5 HM1
        go_wp2_with fail
        go_roundw
        case rel => exact ⟨S, d5, by go_num, by omega, HE.out⟩
        case measure => simp [natOf]; omega
       ·have q5 : ¬ (m : Int) < (n : Int) := by omega
        have HE : Hid (Ur wr g z d4 ∧ Suf K S 0 n d4 ∧ Sort.PermIn 0 n d d4 ∧ Bg g w wr) := ⟨HU4.out, HPR.out.suf HQ.out (by omega) (fun k hk => rfl) (by have := HSF.out.head; rwa [hm, Nat.min_eq_right (by omega)] at this), HPM.out, HBG.out⟩
        clear HM
        go_wp2_with fail
        go_roundw
        case rel => exact ⟨S, d4, by go_num, by omega, HE.out⟩
        case measure => simp [natOf]; omega
    ·have q1 : ¬ (s : Int) < (n : Int) := by omega
     go_wp2_with fail
     refine bodyPost_end (results_none rfl _ _ _) rfl ?_
     refine ⟨rfl, d3, HU3.out, ?_, HPM.out, HBG.out⟩
     have := HSF.out.head
     rwa [Nat.zero_add, Nat.min_eq_right (by omega)] at this
end Go.Proofs.Ytimdlohdmddnjaa.Rq
