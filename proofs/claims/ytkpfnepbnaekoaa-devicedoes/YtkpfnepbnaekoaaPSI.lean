/- The sort beyond twelve: partition. -/
import Derived.Test.YtkpfnepbnaekoaaPSG
namespace Go.Proofs.Ytkpfnepbnaekoaa.Rd
open Go.RowKit
/-- A row that is parted. -/
structure PartOk (a b m : Nat) (d d' : Array Nat) : Prop where
  pm : Sort.PermIn a b d d'
  am : a ≤ m
  mb : m < b
  lo : ∀ t, a ≤ t → t < m → ltN d'[t]! d'[m]! = true
  hi : ∀ t, m < t → t < b → ltN d'[t]! d'[m]! = false
set_option maxRecDepth 100000 in
theorem Pt.final {a b i j P : Nat} {d d1 : Array Nat} (h : Pt (fun x => ltN x P) a b i j P d1) (hji : j < i) (hp : Sort.PermIn a b d d1) (hb : b ≤ d1.size) : PartOk a b j d (Sort.swp d1 j a) := by
  have h1 := h.ai
  have h2 := h.ij
  have h3 := h.jb
  have hv : (Sort.swp d1 j a)[j]! = P := by
    by_cases e : j = a
    · subst e; rw [Sort.swp_right d1 j j (by omega)]; exact h.pv
    · rw [Sort.swp_left d1 j a (by omega) e]; exact h.pv
  refine ⟨Sort.permIn_trans _ _ _ _ _ hp (Sort.swp_permIn d1 a b j a (by omega) (by omega) (by omega) (by omega) hb), by omega, by omega, fun t t1 t2 => ?_, fun t t1 t2 => ?_⟩
  · rw [hv]
    by_cases e : t = a
    · subst e; rw [Sort.swp_right d1 j t (by omega)]; exact h.lo j (by omega) (by omega)
    · rw [Sort.swp_other d1 j a t (by omega) e]; exact h.lo t (by omega) (by omega)
  · rw [hv, Sort.swp_other d1 j a t (by omega) (by omega)]; exact h.hi t (by omega) t2
def PartP (g a b : Nat) (d : Array Nat) (w : World) (e : Ending) (w' : World) : Prop := ∃ (m : Nat) (d' : Array Nat) (r : Bool), e = .returned (.tuple #[.int .i64 (m : Int), .bool r]) ∧ PartOk a b m d d' ∧ Us w' g d' ∧ Bg g w w'
set_option maxRecDepth 100000 in
set_option maxHeartbeats 8000000 in
theorem part_any (g cap a b pv : Nat) (d : Array Nat) (h1 : a ≤ pv) (h2 : pv < b) (hb : b ≤ d.size) (hd : d.size ≤ 30) (w : World) (h : Us w g d) :
    Calls Try.prog 84 #[.slice (some ⟨g, 0, none⟩) d.size cap, .int .i64 (a : Int), .int .i64 (b : Int), .int .i64 (pv : Int)] w fun e w' => PartP g a b d w e w' := by
  have HU : Hid (Us w g d) := h
  clear h
  obtain ⟨n, hn⟩ : ∃ n, d.size = n := ⟨_, rfl⟩
  rw [hn] at hb hd ⊢
  have HP0 : Hid (Pt (fun x => ltN x d[pv]!) a b (a + 1) (b - 1) d[pv]! (Sort.swp d a pv)) := Pt.start _ a b pv d h1 h2 (by omega)
  have PM0 : Hid (Sort.PermIn a b d (Sort.swp d a pv)) := Sort.swp_permIn d a b a pv (by omega) (by omega) h1 h2 (by omega)
  obtain ⟨P, hP⟩ : ∃ P, d[pv]! = P := ⟨_, rfl⟩
  rw [hP] at HP0
  obtain ⟨x1, y1⟩ := HU.out.cell a (by omega)
  obtain ⟨x2, y2⟩ := HU.out.cell pv (by omega)
  have p1 : (a : Int) < (n : Int) := by omega
  have p2 : (pv : Int) < (n : Int) := by omega
  have p3 : (0 : Int) ≤ (a : Int) := by omega
  have p4 : (0 : Int) ≤ (pv : Int) := by omega
  have HW := Us.swp HU.out a pv
  rw [hP] at x2 HW
  go_enter Try.func84, Try.ntmps84
  by_cases hap : a = pv
  · subst hap
    rw [hP] at x1
    have HW' : Us ((w.setCell ⟨g, a, none⟩ (.int .u32 (P : Int))).setCell ⟨g, a, none⟩ (.int .u32 (P : Int))) g (Sort.swp d a a) ∧ Bg g w ((w.setCell ⟨g, a, none⟩ (.int .u32 (P : Int))).setCell ⟨g, a, none⟩ (.int .u32 (P : Int))) := by
      have h := HW
      rw [hP] at h
      exact h
    have U0' : Hid (Us _ g (Sort.swp d a a)) := HW'.1
    have B0' : Hid (Bg g _ _) := HW'.2
    clear HW HW' hP
    go_wp2_with fail
    go_region
    obtain ⟨W0, hW0⟩ : ∃ W0, ((w.setCell ⟨g, a, none⟩ (.int .u32 (P : Int))).setCell ⟨g, a, none⟩ (.int .u32 (P : Int))).drew = W0 := ⟨_, rfl⟩
    have U0 : Hid (Us W0 g (Sort.swp d a a)) := by
      refine (?_ : Us W0 g (Sort.swp d a a))
      rw [← hW0]; exact Us.same U0'.out rfl
    have B0 : Hid (Bg g w W0) := by
      refine (?_ : Bg g w W0)
      rw [← hW0]; exact B0'.out.trans (Bg.drew _)
    rw [hW0]
    clear hW0 U0' B0' x1 x2 y1 y2
    obtain ⟨d1, hd1⟩ : ∃ d1, Sort.swp d a a = d1 := ⟨_, rfl⟩
    obtain ⟨i, hi⟩ : ∃ i : Nat, (a : Int) + 1 = (i : Int) := ⟨a + 1, by omega⟩
    obtain ⟨j, hj⟩ : ∃ j : Nat, (b : Int) - 1 = (j : Int) := ⟨b - 1, by omega⟩
    have hs1 : d1.size = n := by rw [← hd1, swp_sz]; exact hn
    have PT : Hid (Pt (fun x => ltN x P) a b i j P d1) := by
      have h := HP0.out
      rw [hd1, show a + 1 = i by omega, show b - 1 = j by omega] at h
      exact h
    have PM : Hid (Sort.PermIn a b d d1) := by
      have h := PM0.out
      rw [hd1] at h
      exact h
    have U1 : Hid (Us W0 g d1) := by
      have h := U0.out
      rw [hd1] at h
      exact h
    have B1 : Hid (Bg g w W0) := B0.out
    obtain ⟨i0, hi0⟩ : ∃ i0, i0 = i := ⟨i, rfl⟩
    obtain ⟨j0, hj0⟩ : ∃ j0, j0 = j := ⟨j, rfl⟩
    have IJ0 : Hid (i0 = i ∧ j0 = j) := ⟨hi0, hj0⟩
    clear hd1 HP0 PM0 U0 B0 hi0 hj0
    go_wp2_with fail
    go_loopw [10] (fun iv wr => ∃ (k : Nat), iv = .int .i64 (k : Int) ∧ Pt (fun x => ltN x P) a b k j P d1 ∧ Us wr g d1 ∧ Bg g w wr ∧ i0 ≤ k) (fun iv _ => b - natOf iv)
    case atStart => exact ⟨i, rfl, PT.out, U1.out, B1.out, by have := IJ0.out; omega⟩
    case round =>
      clear PT U1 B1
      obtain ⟨i, rfl, hpt, hu, hbg, hi0⟩ := hrel
      have PT : Hid (Pt (fun x => ltN x P) a b i j P d1) := hpt
      have U1 : Hid (Us wr g d1) := hu
      have B1 : Hid (Bg g w wr) := hbg
      have ai := hpt.ai
      have ij := hpt.ij
      have jb := hpt.jb
      have pv := hpt.pv
      have PV : Hid (d1[a]! = P) := pv
      clear hpt hbg pv
      by_cases hij : i ≤ j
      · have q1 : (i : Int) ≤ (j : Int) := by omega
        obtain ⟨x1, y1⟩ := hu.cell a (by omega)
        obtain ⟨x2, y2⟩ := hu.cell i (by omega)
        rw [PV.out] at x1
        have p1 : (a : Int) < (n : Int) := by omega
        have p2 : (i : Int) < (n : Int) := by omega
        have p3 : (0 : Int) ≤ (a : Int) := by omega
        have p4 : (0 : Int) ≤ (i : Int) := by omega
        generalize hx : d1[i]! = xv at *
        have HX : Hid (d1[i]! = xv) := hx
        clear hx hu
        go_wp2_with fail
        go_quiet (first | (go_at_call 82; refine Calls.quiet_of_same (less_any _ _ _)))
        rename_i hK
        refine hK _ _ ?_
        have U5 : Hid (Us (wr.drewN nq) g d1) := Us.same U1.out rfl
        have B5 : Hid (Bg g w (wr.drewN nq)) := B1.out.trans (Bg.drewN wr nq)
        obtain ⟨wz, hwz⟩ : ∃ wz, wr.drewN nq = wz := ⟨_, rfl⟩
        rw [hwz] at U5 B5 ⊢
        clear hwz hK
        revert nq
        intro nq1
        clear x1 x2 y1 y2 U1 B1
        cases hl : ltN xv P
        · have HI : Hid ((fun x => ltN x P) d1[i]! = false) := by
            refine (?_ : (fun x => ltN x P) d1[i]! = false)
            rw [HX.out]; show ltN xv P = false; first | exact hl | (rw [hl]; rfl)
          clear hl
          have U1 : Hid (Us wz g d1) := U5.out
          have B1 : Hid (Bg g w wz) := B5.out
          clear U5 B5
          go_wp2_with fail
          go_loopw [11] (fun iv wr => ∃ (k : Nat), iv = .int .i64 (k : Int) ∧ Pt (fun x => ltN x P) a b i k P d1 ∧ Us wr g d1 ∧ Bg g w wr ∧ k ≤ j0) (fun iv _ => natOf iv)
          case atStart => exact ⟨j, rfl, PT.out, U1.out, B1.out, by have := IJ0.out; omega⟩
          case round =>
            clear PT U1 B1
            obtain ⟨j, rfl, hpt, hu, hbg, hj0⟩ := hrel
            have PT : Hid (Pt (fun x => ltN x P) a b i j P d1) := hpt
            have U1 : Hid (Us wr g d1) := hu
            have B1 : Hid (Bg g w wr) := hbg
            have ai := hpt.ai
            have ij := hpt.ij
            have jb := hpt.jb
            have pv := hpt.pv
            have PV : Hid (d1[a]! = P) := pv
            clear hpt hbg pv
            by_cases hij : i ≤ j
            · have q1 : (i : Int) ≤ (j : Int) := by omega
              obtain ⟨x1, y1⟩ := hu.cell a (by omega)
              obtain ⟨x2, y2⟩ := hu.cell j (by omega)
              rw [PV.out] at x1
              have p1 : (a : Int) < (n : Int) := by omega
              have p2 : (j : Int) < (n : Int) := by omega
              have p3 : (0 : Int) ≤ (a : Int) := by omega
              have p4 : (0 : Int) ≤ (j : Int) := by omega
              generalize hx : d1[j]! = xv at *
              have HX : Hid (d1[j]! = xv) := hx
              clear hx hu
              go_wp2_with fail
              go_quiet (first | (go_at_call 82; refine Calls.quiet_of_same (less_any _ _ _)))
              rename_i hK
              refine hK _ _ ?_
              have U5 : Hid (Us (wr.drewN nq) g d1) := Us.same U1.out rfl
              have B5 : Hid (Bg g w (wr.drewN nq)) := B1.out.trans (Bg.drewN wr nq)
              obtain ⟨wz, hwz⟩ : ∃ wz, wr.drewN nq = wz := ⟨_, rfl⟩
              rw [hwz] at U5 B5 ⊢
              clear hwz hK
              revert nq
              intro nq1
              clear x1 x2 y1 y2 U1 B1
              cases hl : ltN xv P
              · obtain ⟨j', rfl⟩ : ∃ j', j = j' + 1 := ⟨j - 1, by omega⟩
                have PT2 : Hid (Pt (fun x => ltN x P) a b i j' P d1) := PT.out.down hij (by rw [HX.out]; show ltN xv P = false; first | exact hl | (rw [hl]; rfl))
                have hjj : ((j' + 1 : Nat) : Int) - 1 = (j' : Int) := by omega
                clear hl
                go_wp2_with fail
                go_roundw
                case rel => exact ⟨j', by go_num, PT2.out, U5.out, B5.out, by omega⟩
                case measure => simp [natOf]
              · have HJ : Hid ((fun x => ltN x P) d1[j]! = true) := by
                  refine (?_ : (fun x => ltN x P) d1[j]! = true)
                  rw [HX.out]; show ltN xv P = true; first | exact hl | (rw [hl]; rfl)
                have q9 : ¬ (j : Int) < (i : Int) := by omega
                clear hl
                have U1 : Hid (Us wz g d1) := U5.out
                have B1 : Hid (Bg g w wz) := B5.out
                clear U5 B5
                obtain ⟨j', rfl⟩ : ∃ j', j = j' + 1 := ⟨j - 1, by omega⟩
                obtain ⟨hii, hsw⟩ := PT.out.swap hij HI.out HJ.out (by omega)
                have PT2 : Hid (Pt (fun x => ltN x P) a b (i + 1) j' P (Sort.swp d1 i (j' + 1))) := hsw
                have PM2 : Hid (Sort.PermIn a b d (Sort.swp d1 i (j' + 1))) := Sort.permIn_trans _ _ _ _ _ PM.out (Sort.swp_permIn d1 a b i (j' + 1) (by omega) (by omega) (by omega) (by omega) (by omega))
                obtain ⟨x1, y1⟩ := U1.out.cell i (by omega)
                obtain ⟨x2, y2⟩ := U1.out.cell (j' + 1) (by omega)
                have p5 : (i : Int) < (n : Int) := by omega
                have p6 : (j' : Int) + 1 < (n : Int) := by omega
                have p7 : (0 : Int) ≤ (i : Int) := by omega
                have p8 : (0 : Int) ≤ (j' : Int) + 1 := by omega
                have hne : ¬ i = j' + 1 := by omega
                have hne2 : ¬ j' + 1 = i := by omega
                have HW := Us.swp U1.out i (j' + 1)
                clear hsw HI HJ HX
                generalize d1[i]! = xi at *
                generalize d1[j' + 1]! = xj at *
                have HW1 : Hid (Us _ g (Sort.swp d1 i (j' + 1))) := HW.1
                have HW2 : Hid (Bg g _ _) := HW.2
                clear HW
                go_wp2_with fail
                go_region
                go_wp2_with fail
                go_loopw [10, 11] (fun iv jv wr => ∃ (i j : Nat) (d1 : Array Nat), iv = .int .i64 (i : Int) ∧ jv = .int .i64 (j : Int) ∧ Pt (fun x => ltN x P) a b i j P d1 ∧ d1.size = n ∧ Sort.PermIn a b d d1 ∧ Us wr g d1 ∧ Bg g w wr) (fun iv jv _ => natOf jv + 1 - natOf iv)
                case atStart => exact ⟨i + 1, j', Sort.swp d1 i (j' + 1), by go_num, by go_num, PT2.out, by rw [swp_sz]; exact hs1, PM2.out, Us.same HW1.out rfl, (B1.out.trans HW2.out).trans (Bg.drew _)⟩
                case round =>
                  clear PT2 PM2 HW1 HW2 U1 B1 PT PM IJ0
                  obtain ⟨i, j, d1, rfl, rfl, hpt, hs1, hpm, hu0, hbg0⟩ := hrel
                  have PT : Hid (Pt (fun x => ltN x P) a b i j P d1) := hpt
                  have PM : Hid (Sort.PermIn a b d d1) := hpm
                  have U1 : Hid (Us wr g d1) := hu0
                  have B1 : Hid (Bg g w wr) := hbg0
                  obtain ⟨i0, hi0⟩ : ∃ i0, i0 = i := ⟨i, rfl⟩
                  obtain ⟨j0, hj0⟩ : ∃ j0, j0 = j := ⟨j, rfl⟩
                  have IJ0 : Hid (i0 = i ∧ j0 = j) := ⟨hi0, hj0⟩
                  clear hpt hpm hu0 hbg0 hi0 hj0
                  go_wp2_with fail
                  go_loopw [10] (fun iv wr => ∃ (k : Nat), iv = .int .i64 (k : Int) ∧ Pt (fun x => ltN x P) a b k j P d1 ∧ Us wr g d1 ∧ Bg g w wr ∧ i0 ≤ k) (fun iv _ => b - natOf iv)
                  case atStart => exact ⟨i, rfl, PT.out, U1.out, B1.out, by have := IJ0.out; omega⟩
                  case round =>
                    clear PT U1 B1
                    obtain ⟨i, rfl, hpt, hu, hbg, hi0⟩ := hrel
                    have PT : Hid (Pt (fun x => ltN x P) a b i j P d1) := hpt
                    have U1 : Hid (Us wr g d1) := hu
                    have B1 : Hid (Bg g w wr) := hbg
                    have ai := hpt.ai
                    have ij := hpt.ij
                    have jb := hpt.jb
                    have pv := hpt.pv
                    have PV : Hid (d1[a]! = P) := pv
                    clear hpt hbg pv
                    by_cases hij : i ≤ j
                    · have q1 : (i : Int) ≤ (j : Int) := by omega
                      obtain ⟨x1, y1⟩ := hu.cell a (by omega)
                      obtain ⟨x2, y2⟩ := hu.cell i (by omega)
                      rw [PV.out] at x1
                      have p1 : (a : Int) < (n : Int) := by omega
                      have p2 : (i : Int) < (n : Int) := by omega
                      have p3 : (0 : Int) ≤ (a : Int) := by omega
                      have p4 : (0 : Int) ≤ (i : Int) := by omega
                      generalize hx : d1[i]! = xv at *
                      have HX : Hid (d1[i]! = xv) := hx
                      clear hx hu
                      go_wp2_with fail
                      go_quiet (first | (go_at_call 82; refine Calls.quiet_of_same (less_any _ _ _)))
                      rename_i hK
                      refine hK _ _ ?_
                      have U5 : Hid (Us (wr.drewN nq) g d1) := Us.same U1.out rfl
                      have B5 : Hid (Bg g w (wr.drewN nq)) := B1.out.trans (Bg.drewN wr nq)
                      obtain ⟨wz, hwz⟩ : ∃ wz, wr.drewN nq = wz := ⟨_, rfl⟩
                      rw [hwz] at U5 B5 ⊢
                      clear hwz hK
                      revert nq
                      intro nq1
                      clear x1 x2 y1 y2 U1 B1
                      cases hl : ltN xv P
                      · have HI : Hid ((fun x => ltN x P) d1[i]! = false) := by
                          refine (?_ : (fun x => ltN x P) d1[i]! = false)
                          rw [HX.out]; show ltN xv P = false; first | exact hl | (rw [hl]; rfl)
                        clear hl
                        have U1 : Hid (Us wz g d1) := U5.out
                        have B1 : Hid (Bg g w wz) := B5.out
                        clear U5 B5
                        go_wp2_with fail
                        go_loopw [11] (fun iv wr => ∃ (k : Nat), iv = .int .i64 (k : Int) ∧ Pt (fun x => ltN x P) a b i k P d1 ∧ Us wr g d1 ∧ Bg g w wr ∧ k ≤ j0) (fun iv _ => natOf iv)
                        case atStart => exact ⟨j, rfl, PT.out, U1.out, B1.out, by have := IJ0.out; omega⟩
                        case round =>
                          clear PT U1 B1
                          obtain ⟨j, rfl, hpt, hu, hbg, hj0⟩ := hrel
                          have PT : Hid (Pt (fun x => ltN x P) a b i j P d1) := hpt
                          have U1 : Hid (Us wr g d1) := hu
                          have B1 : Hid (Bg g w wr) := hbg
                          have ai := hpt.ai
                          have ij := hpt.ij
                          have jb := hpt.jb
                          have pv := hpt.pv
                          have PV : Hid (d1[a]! = P) := pv
                          clear hpt hbg pv
                          by_cases hij : i ≤ j
                          · have q1 : (i : Int) ≤ (j : Int) := by omega
                            obtain ⟨x1, y1⟩ := hu.cell a (by omega)
                            obtain ⟨x2, y2⟩ := hu.cell j (by omega)
                            rw [PV.out] at x1
                            have p1 : (a : Int) < (n : Int) := by omega
                            have p2 : (j : Int) < (n : Int) := by omega
                            have p3 : (0 : Int) ≤ (a : Int) := by omega
                            have p4 : (0 : Int) ≤ (j : Int) := by omega
                            generalize hx : d1[j]! = xv at *
                            have HX : Hid (d1[j]! = xv) := hx
                            clear hx hu
                            go_wp2_with fail
                            go_quiet (first | (go_at_call 82; refine Calls.quiet_of_same (less_any _ _ _)))
                            rename_i hK
                            refine hK _ _ ?_
                            have U5 : Hid (Us (wr.drewN nq) g d1) := Us.same U1.out rfl
                            have B5 : Hid (Bg g w (wr.drewN nq)) := B1.out.trans (Bg.drewN wr nq)
                            obtain ⟨wz, hwz⟩ : ∃ wz, wr.drewN nq = wz := ⟨_, rfl⟩
                            rw [hwz] at U5 B5 ⊢
                            clear hwz hK
                            revert nq
                            intro nq1
                            clear x1 x2 y1 y2 U1 B1
                            cases hl : ltN xv P
                            · obtain ⟨j', rfl⟩ : ∃ j', j = j' + 1 := ⟨j - 1, by omega⟩
                              have PT2 : Hid (Pt (fun x => ltN x P) a b i j' P d1) := PT.out.down hij (by rw [HX.out]; show ltN xv P = false; first | exact hl | (rw [hl]; rfl))
                              have hjj : ((j' + 1 : Nat) : Int) - 1 = (j' : Int) := by omega
                              clear hl
                              go_wp2_with fail
                              go_roundw
                              case rel => exact ⟨j', by go_num, PT2.out, U5.out, B5.out, by omega⟩
                              case measure => simp [natOf]
                            · have HJ : Hid ((fun x => ltN x P) d1[j]! = true) := by
                                refine (?_ : (fun x => ltN x P) d1[j]! = true)
                                rw [HX.out]; show ltN xv P = true; first | exact hl | (rw [hl]; rfl)
                              have q9 : ¬ (j : Int) < (i : Int) := by omega
                              clear hl
                              have U1 : Hid (Us wz g d1) := U5.out
                              have B1 : Hid (Bg g w wz) := B5.out
                              clear U5 B5
                              obtain ⟨j', rfl⟩ : ∃ j', j = j' + 1 := ⟨j - 1, by omega⟩
                              obtain ⟨hii, hsw⟩ := PT.out.swap hij HI.out HJ.out (by omega)
                              have PT2 : Hid (Pt (fun x => ltN x P) a b (i + 1) j' P (Sort.swp d1 i (j' + 1))) := hsw
                              have PM2 : Hid (Sort.PermIn a b d (Sort.swp d1 i (j' + 1))) := Sort.permIn_trans _ _ _ _ _ PM.out (Sort.swp_permIn d1 a b i (j' + 1) (by omega) (by omega) (by omega) (by omega) (by omega))
                              obtain ⟨x1, y1⟩ := U1.out.cell i (by omega)
                              obtain ⟨x2, y2⟩ := U1.out.cell (j' + 1) (by omega)
                              have p5 : (i : Int) < (n : Int) := by omega
                              have p6 : (j' : Int) + 1 < (n : Int) := by omega
                              have p7 : (0 : Int) ≤ (i : Int) := by omega
                              have p8 : (0 : Int) ≤ (j' : Int) + 1 := by omega
                              have hne : ¬ i = j' + 1 := by omega
                              have hne2 : ¬ j' + 1 = i := by omega
                              have HW := Us.swp U1.out i (j' + 1)
                              clear hsw HI HJ HX
                              generalize d1[i]! = xi at *
                              generalize d1[j' + 1]! = xj at *
                              have HW1 : Hid (Us _ g (Sort.swp d1 i (j' + 1))) := HW.1
                              have HW2 : Hid (Bg g _ _) := HW.2
                              clear HW
                              go_wp2_with fail
                              go_region
                              go_wp2_with fail
                              go_roundw
                              case rel => exact ⟨i + 1, j', Sort.swp d1 i (j' + 1), by go_num, by go_num, PT2.out, by rw [swp_sz]; exact hs1, PM2.out, Us.same HW1.out rfl, (B1.out.trans HW2.out).trans (Bg.drew _)⟩
                              case measure => simp [natOf]; have := IJ0.out; omega
                          · have q1 : decide ((i : Int) ≤ (j : Int)) = false := by rw [decide_eq_false_iff_not]; omega
                            have q9 : (j : Int) < (i : Int) := by omega
                            clear hu
                            go_wp2_with fail
                            go_quiet (fail)
                            rename_i hK
                            refine hK _ _ ?_
                            have U5 : Hid (Us (wr.drewN nq) g d1) := Us.same U1.out rfl
                            have B5 : Hid (Bg g w (wr.drewN nq)) := B1.out.trans (Bg.drewN wr nq)
                            obtain ⟨wz, hwz⟩ : ∃ wz, wr.drewN nq = wz := ⟨_, rfl⟩
                            rw [hwz] at U5 B5 ⊢
                            clear hwz hK
                            revert nq
                            intro nq1
                            clear U1 B1
                            have U1 : Hid (Us wz g d1) := U5.out
                            have B1 : Hid (Bg g w wz) := B5.out
                            clear U5 B5
                            have hjn : j < n := by have := PT.out.jb; omega
                            have aij := PT.out.ai
                            have iij := PT.out.ij
                            obtain ⟨x1, y1⟩ := U1.out.cell j (by omega)
                            obtain ⟨x2, y2⟩ := U1.out.cell a (by omega)
                            have p5 : (j : Int) < (n : Int) := by omega
                            have p6 : (a : Int) < (n : Int) := by omega
                            have p7 : (0 : Int) ≤ (j : Int) := by omega
                            have p8 : (0 : Int) ≤ (a : Int) := by omega
                            have HW := Us.swp U1.out j a
                            have HF : Hid (PartOk a b j d (Sort.swp d1 j a)) := PT.out.final (by omega) PM.out (by omega)
                            by_cases hja : j = a
                            · subst hja
                              generalize d1[j]! = xj at *
                              have HW1 : Hid (Us _ g (Sort.swp d1 j j)) := HW.1
                              have HW2 : Hid (Bg g _ _) := HW.2
                              clear HW
                              go_wp2_with fail
                              go_region
                              go_wp2_with fail
                              go_ret2
                              exact ⟨j, _, false, rfl, HF.out, Us.same HW1.out rfl, (B1.out.trans HW2.out).trans (Bg.drew _)⟩
                            · have hja2 : ¬ a = j := fun e => hja e.symm
                              generalize d1[j]! = xj at *
                              generalize d1[a]! = xa at *
                              have HW1 : Hid (Us _ g (Sort.swp d1 j a)) := HW.1
                              have HW2 : Hid (Bg g _ _) := HW.2
                              clear HW
                              go_wp2_with fail
                              go_region
                              go_wp2_with fail
                              go_ret2
                              exact ⟨j, _, false, rfl, HF.out, Us.same HW1.out rfl, (B1.out.trans HW2.out).trans (Bg.drew _)⟩
                      · have PT2 : Hid (Pt (fun x => ltN x P) a b (i + 1) j P d1) := PT.out.up hij (by rw [HX.out]; show ltN xv P = true; first | exact hl | (rw [hl]; rfl))
                        clear hl
                        go_wp2_with fail
                        go_roundw
                        case rel => exact ⟨i + 1, by go_num, PT2.out, U5.out, B5.out, by omega⟩
                        case measure => simp [natOf]; omega
                    · have q1 : decide ((i : Int) ≤ (j : Int)) = false := by rw [decide_eq_false_iff_not]; omega
                      clear hu
                      go_wp2_with fail
                      go_quiet (fail)
                      rename_i hK
                      refine hK _ _ ?_
                      have U5 : Hid (Us (wr.drewN nq) g d1) := Us.same U1.out rfl
                      have B5 : Hid (Bg g w (wr.drewN nq)) := B1.out.trans (Bg.drewN wr nq)
                      obtain ⟨wz, hwz⟩ : ∃ wz, wr.drewN nq = wz := ⟨_, rfl⟩
                      rw [hwz] at U5 B5 ⊢
                      clear hwz hK
                      revert nq
                      intro nq1
                      clear U1 B1
                      have U1 : Hid (Us wz g d1) := U5.out
                      have B1 : Hid (Bg g w wz) := B5.out
                      clear U5 B5
                      go_wp2_with fail
                      go_loopw [11] (fun iv wr => iv = .int .i64 (j : Int) ∧ Us wr g d1 ∧ Bg g w wr) (fun iv _ => 0)
                      case atStart => exact ⟨rfl, U1.out, B1.out⟩
                      case round =>
                        clear U1 B1
                        obtain ⟨rfl, hu, hbg⟩ := hrel
                        have U1 : Hid (Us wr g d1) := hu
                        have B1 : Hid (Bg g w wr) := hbg
                        clear hu hbg
                        have q9 : (j : Int) < (i : Int) := by omega
                        go_wp2_with fail
                        go_quiet (fail)
                        rename_i hK
                        refine hK _ _ ?_
                        have U5 : Hid (Us (wr.drewN nq) g d1) := Us.same U1.out rfl
                        have B5 : Hid (Bg g w (wr.drewN nq)) := B1.out.trans (Bg.drewN wr nq)
                        obtain ⟨wz, hwz⟩ : ∃ wz, wr.drewN nq = wz := ⟨_, rfl⟩
                        rw [hwz] at U5 B5 ⊢
                        clear hwz hK
                        revert nq
                        intro nq1
                        clear U1 B1
                        have U1 : Hid (Us wz g d1) := U5.out
                        have B1 : Hid (Bg g w wz) := B5.out
                        clear U5 B5
                        have hjn : j < n := by have := PT.out.jb; omega
                        have aij := PT.out.ai
                        have iij := PT.out.ij
                        obtain ⟨x1, y1⟩ := U1.out.cell j (by omega)
                        obtain ⟨x2, y2⟩ := U1.out.cell a (by omega)
                        have p5 : (j : Int) < (n : Int) := by omega
                        have p6 : (a : Int) < (n : Int) := by omega
                        have p7 : (0 : Int) ≤ (j : Int) := by omega
                        have p8 : (0 : Int) ≤ (a : Int) := by omega
                        have HW := Us.swp U1.out j a
                        have HF : Hid (PartOk a b j d (Sort.swp d1 j a)) := PT.out.final (by omega) PM.out (by omega)
                        by_cases hja : j = a
                        · subst hja
                          generalize d1[j]! = xj at *
                          have HW1 : Hid (Us _ g (Sort.swp d1 j j)) := HW.1
                          have HW2 : Hid (Bg g _ _) := HW.2
                          clear HW
                          go_wp2_with fail
                          go_region
                          go_wp2_with fail
                          go_ret2
                          exact ⟨j, _, false, rfl, HF.out, Us.same HW1.out rfl, (B1.out.trans HW2.out).trans (Bg.drew _)⟩
                        · have hja2 : ¬ a = j := fun e => hja e.symm
                          generalize d1[j]! = xj at *
                          generalize d1[a]! = xa at *
                          have HW1 : Hid (Us _ g (Sort.swp d1 j a)) := HW.1
                          have HW2 : Hid (Bg g _ _) := HW.2
                          clear HW
                          go_wp2_with fail
                          go_region
                          go_wp2_with fail
                          go_ret2
                          exact ⟨j, _, false, rfl, HF.out, Us.same HW1.out rfl, (B1.out.trans HW2.out).trans (Bg.drew _)⟩
            · have q1 : decide ((i : Int) ≤ (j : Int)) = false := by rw [decide_eq_false_iff_not]; omega
              have q9 : (j : Int) < (i : Int) := by omega
              clear hu
              go_wp2_with fail
              go_quiet (fail)
              rename_i hK
              refine hK _ _ ?_
              have U5 : Hid (Us (wr.drewN nq) g d1) := Us.same U1.out rfl
              have B5 : Hid (Bg g w (wr.drewN nq)) := B1.out.trans (Bg.drewN wr nq)
              obtain ⟨wz, hwz⟩ : ∃ wz, wr.drewN nq = wz := ⟨_, rfl⟩
              rw [hwz] at U5 B5 ⊢
              clear hwz hK
              revert nq
              intro nq1
              clear U1 B1
              have U1 : Hid (Us wz g d1) := U5.out
              have B1 : Hid (Bg g w wz) := B5.out
              clear U5 B5
              have hjn : j < n := by have := PT.out.jb; omega
              have aij := PT.out.ai
              have iij := PT.out.ij
              obtain ⟨x1, y1⟩ := U1.out.cell j (by omega)
              obtain ⟨x2, y2⟩ := U1.out.cell a (by omega)
              have p5 : (j : Int) < (n : Int) := by omega
              have p6 : (a : Int) < (n : Int) := by omega
              have p7 : (0 : Int) ≤ (j : Int) := by omega
              have p8 : (0 : Int) ≤ (a : Int) := by omega
              have HW := Us.swp U1.out j a
              have HF : Hid (PartOk a b j d (Sort.swp d1 j a)) := PT.out.final (by omega) PM.out (by omega)
              by_cases hja : j = a
              · subst hja
                generalize d1[j]! = xj at *
                have HW1 : Hid (Us _ g (Sort.swp d1 j j)) := HW.1
                have HW2 : Hid (Bg g _ _) := HW.2
                clear HW
                go_wp2_with fail
                go_region
                go_wp2_with fail
                go_ret2
                exact ⟨j, _, true, rfl, HF.out, Us.same HW1.out rfl, (B1.out.trans HW2.out).trans (Bg.drew _)⟩
              · have hja2 : ¬ a = j := fun e => hja e.symm
                generalize d1[j]! = xj at *
                generalize d1[a]! = xa at *
                have HW1 : Hid (Us _ g (Sort.swp d1 j a)) := HW.1
                have HW2 : Hid (Bg g _ _) := HW.2
                clear HW
                go_wp2_with fail
                go_region
                go_wp2_with fail
                go_ret2
                exact ⟨j, _, true, rfl, HF.out, Us.same HW1.out rfl, (B1.out.trans HW2.out).trans (Bg.drew _)⟩
        · have PT2 : Hid (Pt (fun x => ltN x P) a b (i + 1) j P d1) := PT.out.up hij (by rw [HX.out]; show ltN xv P = true; first | exact hl | (rw [hl]; rfl))
          clear hl
          go_wp2_with fail
          go_roundw
          case rel => exact ⟨i + 1, by go_num, PT2.out, U5.out, B5.out, by omega⟩
          case measure => simp [natOf]; omega
      · have q1 : decide ((i : Int) ≤ (j : Int)) = false := by rw [decide_eq_false_iff_not]; omega
        clear hu
        go_wp2_with fail
        go_quiet (fail)
        rename_i hK
        refine hK _ _ ?_
        have U5 : Hid (Us (wr.drewN nq) g d1) := Us.same U1.out rfl
        have B5 : Hid (Bg g w (wr.drewN nq)) := B1.out.trans (Bg.drewN wr nq)
        obtain ⟨wz, hwz⟩ : ∃ wz, wr.drewN nq = wz := ⟨_, rfl⟩
        rw [hwz] at U5 B5 ⊢
        clear hwz hK
        revert nq
        intro nq1
        clear U1 B1
        have U1 : Hid (Us wz g d1) := U5.out
        have B1 : Hid (Bg g w wz) := B5.out
        clear U5 B5
        go_wp2_with fail
        go_loopw [11] (fun iv wr => iv = .int .i64 (j : Int) ∧ Us wr g d1 ∧ Bg g w wr) (fun iv _ => 0)
        case atStart => exact ⟨rfl, U1.out, B1.out⟩
        case round =>
          clear U1 B1
          obtain ⟨rfl, hu, hbg⟩ := hrel
          have U1 : Hid (Us wr g d1) := hu
          have B1 : Hid (Bg g w wr) := hbg
          clear hu hbg
          have q9 : (j : Int) < (i : Int) := by omega
          go_wp2_with fail
          go_quiet (fail)
          rename_i hK
          refine hK _ _ ?_
          have U5 : Hid (Us (wr.drewN nq) g d1) := Us.same U1.out rfl
          have B5 : Hid (Bg g w (wr.drewN nq)) := B1.out.trans (Bg.drewN wr nq)
          obtain ⟨wz, hwz⟩ : ∃ wz, wr.drewN nq = wz := ⟨_, rfl⟩
          rw [hwz] at U5 B5 ⊢
          clear hwz hK
          revert nq
          intro nq1
          clear U1 B1
          have U1 : Hid (Us wz g d1) := U5.out
          have B1 : Hid (Bg g w wz) := B5.out
          clear U5 B5
          have hjn : j < n := by have := PT.out.jb; omega
          have aij := PT.out.ai
          have iij := PT.out.ij
          obtain ⟨x1, y1⟩ := U1.out.cell j (by omega)
          obtain ⟨x2, y2⟩ := U1.out.cell a (by omega)
          have p5 : (j : Int) < (n : Int) := by omega
          have p6 : (a : Int) < (n : Int) := by omega
          have p7 : (0 : Int) ≤ (j : Int) := by omega
          have p8 : (0 : Int) ≤ (a : Int) := by omega
          have HW := Us.swp U1.out j a
          have HF : Hid (PartOk a b j d (Sort.swp d1 j a)) := PT.out.final (by omega) PM.out (by omega)
          by_cases hja : j = a
          · subst hja
            generalize d1[j]! = xj at *
            have HW1 : Hid (Us _ g (Sort.swp d1 j j)) := HW.1
            have HW2 : Hid (Bg g _ _) := HW.2
            clear HW
            go_wp2_with fail
            go_region
            go_wp2_with fail
            go_ret2
            exact ⟨j, _, true, rfl, HF.out, Us.same HW1.out rfl, (B1.out.trans HW2.out).trans (Bg.drew _)⟩
          · have hja2 : ¬ a = j := fun e => hja e.symm
            generalize d1[j]! = xj at *
            generalize d1[a]! = xa at *
            have HW1 : Hid (Us _ g (Sort.swp d1 j a)) := HW.1
            have HW2 : Hid (Bg g _ _) := HW.2
            clear HW
            go_wp2_with fail
            go_region
            go_wp2_with fail
            go_ret2
            exact ⟨j, _, true, rfl, HF.out, Us.same HW1.out rfl, (B1.out.trans HW2.out).trans (Bg.drew _)⟩
  · have hap2 : ¬ pv = a := fun e => hap e.symm
    generalize d[a]! = xa at *
    have U0' : Hid (Us _ g (Sort.swp d a pv)) := HW.1
    have B0' : Hid (Bg g _ _) := HW.2
    clear HW hP
    go_wp2_with fail
    go_region
    obtain ⟨W0, hW0⟩ : ∃ W0, ((w.setCell ⟨g, a, none⟩ (.int .u32 (P : Int))).setCell ⟨g, pv, none⟩ (.int .u32 (xa : Int))).drew = W0 := ⟨_, rfl⟩
    have U0 : Hid (Us W0 g (Sort.swp d a pv)) := by
      refine (?_ : Us W0 g (Sort.swp d a pv))
      rw [← hW0]; exact Us.same U0'.out rfl
    have B0 : Hid (Bg g w W0) := by
      refine (?_ : Bg g w W0)
      rw [← hW0]; exact B0'.out.trans (Bg.drew _)
    rw [hW0]
    clear hW0 U0' B0' x1 x2 y1 y2
    obtain ⟨d1, hd1⟩ : ∃ d1, Sort.swp d a pv = d1 := ⟨_, rfl⟩
    obtain ⟨i, hi⟩ : ∃ i : Nat, (a : Int) + 1 = (i : Int) := ⟨a + 1, by omega⟩
    obtain ⟨j, hj⟩ : ∃ j : Nat, (b : Int) - 1 = (j : Int) := ⟨b - 1, by omega⟩
    have hs1 : d1.size = n := by rw [← hd1, swp_sz]; exact hn
    have PT : Hid (Pt (fun x => ltN x P) a b i j P d1) := by
      have h := HP0.out
      rw [hd1, show a + 1 = i by omega, show b - 1 = j by omega] at h
      exact h
    have PM : Hid (Sort.PermIn a b d d1) := by
      have h := PM0.out
      rw [hd1] at h
      exact h
    have U1 : Hid (Us W0 g d1) := by
      have h := U0.out
      rw [hd1] at h
      exact h
    have B1 : Hid (Bg g w W0) := B0.out
    obtain ⟨i0, hi0⟩ : ∃ i0, i0 = i := ⟨i, rfl⟩
    obtain ⟨j0, hj0⟩ : ∃ j0, j0 = j := ⟨j, rfl⟩
    have IJ0 : Hid (i0 = i ∧ j0 = j) := ⟨hi0, hj0⟩
    clear hd1 HP0 PM0 U0 B0 hi0 hj0
    go_wp2_with fail
    go_loopw [10] (fun iv wr => ∃ (k : Nat), iv = .int .i64 (k : Int) ∧ Pt (fun x => ltN x P) a b k j P d1 ∧ Us wr g d1 ∧ Bg g w wr ∧ i0 ≤ k) (fun iv _ => b - natOf iv)
    case atStart => exact ⟨i, rfl, PT.out, U1.out, B1.out, by have := IJ0.out; omega⟩
    case round =>
      clear PT U1 B1
      obtain ⟨i, rfl, hpt, hu, hbg, hi0⟩ := hrel
      have PT : Hid (Pt (fun x => ltN x P) a b i j P d1) := hpt
      have U1 : Hid (Us wr g d1) := hu
      have B1 : Hid (Bg g w wr) := hbg
      have ai := hpt.ai
      have ij := hpt.ij
      have jb := hpt.jb
      have pv := hpt.pv
      have PV : Hid (d1[a]! = P) := pv
      clear hpt hbg pv
      by_cases hij : i ≤ j
      · have q1 : (i : Int) ≤ (j : Int) := by omega
        obtain ⟨x1, y1⟩ := hu.cell a (by omega)
        obtain ⟨x2, y2⟩ := hu.cell i (by omega)
        rw [PV.out] at x1
        have p1 : (a : Int) < (n : Int) := by omega
        have p2 : (i : Int) < (n : Int) := by omega
        have p3 : (0 : Int) ≤ (a : Int) := by omega
        have p4 : (0 : Int) ≤ (i : Int) := by omega
        generalize hx : d1[i]! = xv at *
        have HX : Hid (d1[i]! = xv) := hx
        clear hx hu
        go_wp2_with fail
        go_quiet (first | (go_at_call 82; refine Calls.quiet_of_same (less_any _ _ _)))
        rename_i hK
        refine hK _ _ ?_
        have U5 : Hid (Us (wr.drewN nq) g d1) := Us.same U1.out rfl
        have B5 : Hid (Bg g w (wr.drewN nq)) := B1.out.trans (Bg.drewN wr nq)
        obtain ⟨wz, hwz⟩ : ∃ wz, wr.drewN nq = wz := ⟨_, rfl⟩
        rw [hwz] at U5 B5 ⊢
        clear hwz hK
        revert nq
        intro nq1
        clear x1 x2 y1 y2 U1 B1
        cases hl : ltN xv P
        · have HI : Hid ((fun x => ltN x P) d1[i]! = false) := by
            refine (?_ : (fun x => ltN x P) d1[i]! = false)
            rw [HX.out]; show ltN xv P = false; first | exact hl | (rw [hl]; rfl)
          clear hl
          have U1 : Hid (Us wz g d1) := U5.out
          have B1 : Hid (Bg g w wz) := B5.out
          clear U5 B5
          go_wp2_with fail
          go_loopw [11] (fun iv wr => ∃ (k : Nat), iv = .int .i64 (k : Int) ∧ Pt (fun x => ltN x P) a b i k P d1 ∧ Us wr g d1 ∧ Bg g w wr ∧ k ≤ j0) (fun iv _ => natOf iv)
          case atStart => exact ⟨j, rfl, PT.out, U1.out, B1.out, by have := IJ0.out; omega⟩
          case round =>
            clear PT U1 B1
            obtain ⟨j, rfl, hpt, hu, hbg, hj0⟩ := hrel
            have PT : Hid (Pt (fun x => ltN x P) a b i j P d1) := hpt
            have U1 : Hid (Us wr g d1) := hu
            have B1 : Hid (Bg g w wr) := hbg
            have ai := hpt.ai
            have ij := hpt.ij
            have jb := hpt.jb
            have pv := hpt.pv
            have PV : Hid (d1[a]! = P) := pv
            clear hpt hbg pv
            by_cases hij : i ≤ j
            · have q1 : (i : Int) ≤ (j : Int) := by omega
              obtain ⟨x1, y1⟩ := hu.cell a (by omega)
              obtain ⟨x2, y2⟩ := hu.cell j (by omega)
              rw [PV.out] at x1
              have p1 : (a : Int) < (n : Int) := by omega
              have p2 : (j : Int) < (n : Int) := by omega
              have p3 : (0 : Int) ≤ (a : Int) := by omega
              have p4 : (0 : Int) ≤ (j : Int) := by omega
              generalize hx : d1[j]! = xv at *
              have HX : Hid (d1[j]! = xv) := hx
              clear hx hu
              go_wp2_with fail
              go_quiet (first | (go_at_call 82; refine Calls.quiet_of_same (less_any _ _ _)))
              rename_i hK
              refine hK _ _ ?_
              have U5 : Hid (Us (wr.drewN nq) g d1) := Us.same U1.out rfl
              have B5 : Hid (Bg g w (wr.drewN nq)) := B1.out.trans (Bg.drewN wr nq)
              obtain ⟨wz, hwz⟩ : ∃ wz, wr.drewN nq = wz := ⟨_, rfl⟩
              rw [hwz] at U5 B5 ⊢
              clear hwz hK
              revert nq
              intro nq1
              clear x1 x2 y1 y2 U1 B1
              cases hl : ltN xv P
              · obtain ⟨j', rfl⟩ : ∃ j', j = j' + 1 := ⟨j - 1, by omega⟩
                have PT2 : Hid (Pt (fun x => ltN x P) a b i j' P d1) := PT.out.down hij (by rw [HX.out]; show ltN xv P = false; first | exact hl | (rw [hl]; rfl))
                have hjj : ((j' + 1 : Nat) : Int) - 1 = (j' : Int) := by omega
                clear hl
                go_wp2_with fail
                go_roundw
                case rel => exact ⟨j', by go_num, PT2.out, U5.out, B5.out, by omega⟩
                case measure => simp [natOf]
              · have HJ : Hid ((fun x => ltN x P) d1[j]! = true) := by
                  refine (?_ : (fun x => ltN x P) d1[j]! = true)
                  rw [HX.out]; show ltN xv P = true; first | exact hl | (rw [hl]; rfl)
                have q9 : ¬ (j : Int) < (i : Int) := by omega
                clear hl
                have U1 : Hid (Us wz g d1) := U5.out
                have B1 : Hid (Bg g w wz) := B5.out
                clear U5 B5
                obtain ⟨j', rfl⟩ : ∃ j', j = j' + 1 := ⟨j - 1, by omega⟩
                obtain ⟨hii, hsw⟩ := PT.out.swap hij HI.out HJ.out (by omega)
                have PT2 : Hid (Pt (fun x => ltN x P) a b (i + 1) j' P (Sort.swp d1 i (j' + 1))) := hsw
                have PM2 : Hid (Sort.PermIn a b d (Sort.swp d1 i (j' + 1))) := Sort.permIn_trans _ _ _ _ _ PM.out (Sort.swp_permIn d1 a b i (j' + 1) (by omega) (by omega) (by omega) (by omega) (by omega))
                obtain ⟨x1, y1⟩ := U1.out.cell i (by omega)
                obtain ⟨x2, y2⟩ := U1.out.cell (j' + 1) (by omega)
                have p5 : (i : Int) < (n : Int) := by omega
                have p6 : (j' : Int) + 1 < (n : Int) := by omega
                have p7 : (0 : Int) ≤ (i : Int) := by omega
                have p8 : (0 : Int) ≤ (j' : Int) + 1 := by omega
                have hne : ¬ i = j' + 1 := by omega
                have hne2 : ¬ j' + 1 = i := by omega
                have HW := Us.swp U1.out i (j' + 1)
                clear hsw HI HJ HX
                generalize d1[i]! = xi at *
                generalize d1[j' + 1]! = xj at *
                have HW1 : Hid (Us _ g (Sort.swp d1 i (j' + 1))) := HW.1
                have HW2 : Hid (Bg g _ _) := HW.2
                clear HW
                go_wp2_with fail
                go_region
                go_wp2_with fail
                go_loopw [10, 11] (fun iv jv wr => ∃ (i j : Nat) (d1 : Array Nat), iv = .int .i64 (i : Int) ∧ jv = .int .i64 (j : Int) ∧ Pt (fun x => ltN x P) a b i j P d1 ∧ d1.size = n ∧ Sort.PermIn a b d d1 ∧ Us wr g d1 ∧ Bg g w wr) (fun iv jv _ => natOf jv + 1 - natOf iv)
                case atStart => exact ⟨i + 1, j', Sort.swp d1 i (j' + 1), by go_num, by go_num, PT2.out, by rw [swp_sz]; exact hs1, PM2.out, Us.same HW1.out rfl, (B1.out.trans HW2.out).trans (Bg.drew _)⟩
                case round =>
                  clear PT2 PM2 HW1 HW2 U1 B1 PT PM IJ0
                  obtain ⟨i, j, d1, rfl, rfl, hpt, hs1, hpm, hu0, hbg0⟩ := hrel
                  have PT : Hid (Pt (fun x => ltN x P) a b i j P d1) := hpt
                  have PM : Hid (Sort.PermIn a b d d1) := hpm
                  have U1 : Hid (Us wr g d1) := hu0
                  have B1 : Hid (Bg g w wr) := hbg0
                  obtain ⟨i0, hi0⟩ : ∃ i0, i0 = i := ⟨i, rfl⟩
                  obtain ⟨j0, hj0⟩ : ∃ j0, j0 = j := ⟨j, rfl⟩
                  have IJ0 : Hid (i0 = i ∧ j0 = j) := ⟨hi0, hj0⟩
                  clear hpt hpm hu0 hbg0 hi0 hj0
                  go_wp2_with fail
                  go_loopw [10] (fun iv wr => ∃ (k : Nat), iv = .int .i64 (k : Int) ∧ Pt (fun x => ltN x P) a b k j P d1 ∧ Us wr g d1 ∧ Bg g w wr ∧ i0 ≤ k) (fun iv _ => b - natOf iv)
                  case atStart => exact ⟨i, rfl, PT.out, U1.out, B1.out, by have := IJ0.out; omega⟩
                  case round =>
                    clear PT U1 B1
                    obtain ⟨i, rfl, hpt, hu, hbg, hi0⟩ := hrel
                    have PT : Hid (Pt (fun x => ltN x P) a b i j P d1) := hpt
                    have U1 : Hid (Us wr g d1) := hu
                    have B1 : Hid (Bg g w wr) := hbg
                    have ai := hpt.ai
                    have ij := hpt.ij
                    have jb := hpt.jb
                    have pv := hpt.pv
                    have PV : Hid (d1[a]! = P) := pv
                    clear hpt hbg pv
                    by_cases hij : i ≤ j
                    · have q1 : (i : Int) ≤ (j : Int) := by omega
                      obtain ⟨x1, y1⟩ := hu.cell a (by omega)
                      obtain ⟨x2, y2⟩ := hu.cell i (by omega)
                      rw [PV.out] at x1
                      have p1 : (a : Int) < (n : Int) := by omega
                      have p2 : (i : Int) < (n : Int) := by omega
                      have p3 : (0 : Int) ≤ (a : Int) := by omega
                      have p4 : (0 : Int) ≤ (i : Int) := by omega
                      generalize hx : d1[i]! = xv at *
                      have HX : Hid (d1[i]! = xv) := hx
                      clear hx hu
                      go_wp2_with fail
                      go_quiet (first | (go_at_call 82; refine Calls.quiet_of_same (less_any _ _ _)))
                      rename_i hK
                      refine hK _ _ ?_
                      have U5 : Hid (Us (wr.drewN nq) g d1) := Us.same U1.out rfl
                      have B5 : Hid (Bg g w (wr.drewN nq)) := B1.out.trans (Bg.drewN wr nq)
                      obtain ⟨wz, hwz⟩ : ∃ wz, wr.drewN nq = wz := ⟨_, rfl⟩
                      rw [hwz] at U5 B5 ⊢
                      clear hwz hK
                      revert nq
                      intro nq1
                      clear x1 x2 y1 y2 U1 B1
                      cases hl : ltN xv P
                      · have HI : Hid ((fun x => ltN x P) d1[i]! = false) := by
                          refine (?_ : (fun x => ltN x P) d1[i]! = false)
                          rw [HX.out]; show ltN xv P = false; first | exact hl | (rw [hl]; rfl)
                        clear hl
                        have U1 : Hid (Us wz g d1) := U5.out
                        have B1 : Hid (Bg g w wz) := B5.out
                        clear U5 B5
                        go_wp2_with fail
                        go_loopw [11] (fun iv wr => ∃ (k : Nat), iv = .int .i64 (k : Int) ∧ Pt (fun x => ltN x P) a b i k P d1 ∧ Us wr g d1 ∧ Bg g w wr ∧ k ≤ j0) (fun iv _ => natOf iv)
                        case atStart => exact ⟨j, rfl, PT.out, U1.out, B1.out, by have := IJ0.out; omega⟩
                        case round =>
                          clear PT U1 B1
                          obtain ⟨j, rfl, hpt, hu, hbg, hj0⟩ := hrel
                          have PT : Hid (Pt (fun x => ltN x P) a b i j P d1) := hpt
                          have U1 : Hid (Us wr g d1) := hu
                          have B1 : Hid (Bg g w wr) := hbg
                          have ai := hpt.ai
                          have ij := hpt.ij
                          have jb := hpt.jb
                          have pv := hpt.pv
                          have PV : Hid (d1[a]! = P) := pv
                          clear hpt hbg pv
                          by_cases hij : i ≤ j
                          · have q1 : (i : Int) ≤ (j : Int) := by omega
                            obtain ⟨x1, y1⟩ := hu.cell a (by omega)
                            obtain ⟨x2, y2⟩ := hu.cell j (by omega)
                            rw [PV.out] at x1
                            have p1 : (a : Int) < (n : Int) := by omega
                            have p2 : (j : Int) < (n : Int) := by omega
                            have p3 : (0 : Int) ≤ (a : Int) := by omega
                            have p4 : (0 : Int) ≤ (j : Int) := by omega
                            generalize hx : d1[j]! = xv at *
                            have HX : Hid (d1[j]! = xv) := hx
                            clear hx hu
                            go_wp2_with fail
                            go_quiet (first | (go_at_call 82; refine Calls.quiet_of_same (less_any _ _ _)))
                            rename_i hK
                            refine hK _ _ ?_
                            have U5 : Hid (Us (wr.drewN nq) g d1) := Us.same U1.out rfl
                            have B5 : Hid (Bg g w (wr.drewN nq)) := B1.out.trans (Bg.drewN wr nq)
                            obtain ⟨wz, hwz⟩ : ∃ wz, wr.drewN nq = wz := ⟨_, rfl⟩
                            rw [hwz] at U5 B5 ⊢
                            clear hwz hK
                            revert nq
                            intro nq1
                            clear x1 x2 y1 y2 U1 B1
                            cases hl : ltN xv P
                            · obtain ⟨j', rfl⟩ : ∃ j', j = j' + 1 := ⟨j - 1, by omega⟩
                              have PT2 : Hid (Pt (fun x => ltN x P) a b i j' P d1) := PT.out.down hij (by rw [HX.out]; show ltN xv P = false; first | exact hl | (rw [hl]; rfl))
                              have hjj : ((j' + 1 : Nat) : Int) - 1 = (j' : Int) := by omega
                              clear hl
                              go_wp2_with fail
                              go_roundw
                              case rel => exact ⟨j', by go_num, PT2.out, U5.out, B5.out, by omega⟩
                              case measure => simp [natOf]
                            · have HJ : Hid ((fun x => ltN x P) d1[j]! = true) := by
                                refine (?_ : (fun x => ltN x P) d1[j]! = true)
                                rw [HX.out]; show ltN xv P = true; first | exact hl | (rw [hl]; rfl)
                              have q9 : ¬ (j : Int) < (i : Int) := by omega
                              clear hl
                              have U1 : Hid (Us wz g d1) := U5.out
                              have B1 : Hid (Bg g w wz) := B5.out
                              clear U5 B5
                              obtain ⟨j', rfl⟩ : ∃ j', j = j' + 1 := ⟨j - 1, by omega⟩
                              obtain ⟨hii, hsw⟩ := PT.out.swap hij HI.out HJ.out (by omega)
                              have PT2 : Hid (Pt (fun x => ltN x P) a b (i + 1) j' P (Sort.swp d1 i (j' + 1))) := hsw
                              have PM2 : Hid (Sort.PermIn a b d (Sort.swp d1 i (j' + 1))) := Sort.permIn_trans _ _ _ _ _ PM.out (Sort.swp_permIn d1 a b i (j' + 1) (by omega) (by omega) (by omega) (by omega) (by omega))
                              obtain ⟨x1, y1⟩ := U1.out.cell i (by omega)
                              obtain ⟨x2, y2⟩ := U1.out.cell (j' + 1) (by omega)
                              have p5 : (i : Int) < (n : Int) := by omega
                              have p6 : (j' : Int) + 1 < (n : Int) := by omega
                              have p7 : (0 : Int) ≤ (i : Int) := by omega
                              have p8 : (0 : Int) ≤ (j' : Int) + 1 := by omega
                              have hne : ¬ i = j' + 1 := by omega
                              have hne2 : ¬ j' + 1 = i := by omega
                              have HW := Us.swp U1.out i (j' + 1)
                              clear hsw HI HJ HX
                              generalize d1[i]! = xi at *
                              generalize d1[j' + 1]! = xj at *
                              have HW1 : Hid (Us _ g (Sort.swp d1 i (j' + 1))) := HW.1
                              have HW2 : Hid (Bg g _ _) := HW.2
                              clear HW
                              go_wp2_with fail
                              go_region
                              go_wp2_with fail
                              go_roundw
                              case rel => exact ⟨i + 1, j', Sort.swp d1 i (j' + 1), by go_num, by go_num, PT2.out, by rw [swp_sz]; exact hs1, PM2.out, Us.same HW1.out rfl, (B1.out.trans HW2.out).trans (Bg.drew _)⟩
                              case measure => simp [natOf]; have := IJ0.out; omega
                          · have q1 : decide ((i : Int) ≤ (j : Int)) = false := by rw [decide_eq_false_iff_not]; omega
                            have q9 : (j : Int) < (i : Int) := by omega
                            clear hu
                            go_wp2_with fail
                            go_quiet (fail)
                            rename_i hK
                            refine hK _ _ ?_
                            have U5 : Hid (Us (wr.drewN nq) g d1) := Us.same U1.out rfl
                            have B5 : Hid (Bg g w (wr.drewN nq)) := B1.out.trans (Bg.drewN wr nq)
                            obtain ⟨wz, hwz⟩ : ∃ wz, wr.drewN nq = wz := ⟨_, rfl⟩
                            rw [hwz] at U5 B5 ⊢
                            clear hwz hK
                            revert nq
                            intro nq1
                            clear U1 B1
                            have U1 : Hid (Us wz g d1) := U5.out
                            have B1 : Hid (Bg g w wz) := B5.out
                            clear U5 B5
                            have hjn : j < n := by have := PT.out.jb; omega
                            have aij := PT.out.ai
                            have iij := PT.out.ij
                            obtain ⟨x1, y1⟩ := U1.out.cell j (by omega)
                            obtain ⟨x2, y2⟩ := U1.out.cell a (by omega)
                            have p5 : (j : Int) < (n : Int) := by omega
                            have p6 : (a : Int) < (n : Int) := by omega
                            have p7 : (0 : Int) ≤ (j : Int) := by omega
                            have p8 : (0 : Int) ≤ (a : Int) := by omega
                            have HW := Us.swp U1.out j a
                            have HF : Hid (PartOk a b j d (Sort.swp d1 j a)) := PT.out.final (by omega) PM.out (by omega)
                            by_cases hja : j = a
                            · subst hja
                              generalize d1[j]! = xj at *
                              have HW1 : Hid (Us _ g (Sort.swp d1 j j)) := HW.1
                              have HW2 : Hid (Bg g _ _) := HW.2
                              clear HW
                              go_wp2_with fail
                              go_region
                              go_wp2_with fail
                              go_ret2
                              exact ⟨j, _, false, rfl, HF.out, Us.same HW1.out rfl, (B1.out.trans HW2.out).trans (Bg.drew _)⟩
                            · have hja2 : ¬ a = j := fun e => hja e.symm
                              generalize d1[j]! = xj at *
                              generalize d1[a]! = xa at *
                              have HW1 : Hid (Us _ g (Sort.swp d1 j a)) := HW.1
                              have HW2 : Hid (Bg g _ _) := HW.2
                              clear HW
                              go_wp2_with fail
                              go_region
                              go_wp2_with fail
                              go_ret2
                              exact ⟨j, _, false, rfl, HF.out, Us.same HW1.out rfl, (B1.out.trans HW2.out).trans (Bg.drew _)⟩
                      · have PT2 : Hid (Pt (fun x => ltN x P) a b (i + 1) j P d1) := PT.out.up hij (by rw [HX.out]; show ltN xv P = true; first | exact hl | (rw [hl]; rfl))
                        clear hl
                        go_wp2_with fail
                        go_roundw
                        case rel => exact ⟨i + 1, by go_num, PT2.out, U5.out, B5.out, by omega⟩
                        case measure => simp [natOf]; omega
                    · have q1 : decide ((i : Int) ≤ (j : Int)) = false := by rw [decide_eq_false_iff_not]; omega
                      clear hu
                      go_wp2_with fail
                      go_quiet (fail)
                      rename_i hK
                      refine hK _ _ ?_
                      have U5 : Hid (Us (wr.drewN nq) g d1) := Us.same U1.out rfl
                      have B5 : Hid (Bg g w (wr.drewN nq)) := B1.out.trans (Bg.drewN wr nq)
                      obtain ⟨wz, hwz⟩ : ∃ wz, wr.drewN nq = wz := ⟨_, rfl⟩
                      rw [hwz] at U5 B5 ⊢
                      clear hwz hK
                      revert nq
                      intro nq1
                      clear U1 B1
                      have U1 : Hid (Us wz g d1) := U5.out
                      have B1 : Hid (Bg g w wz) := B5.out
                      clear U5 B5
                      go_wp2_with fail
                      go_loopw [11] (fun iv wr => iv = .int .i64 (j : Int) ∧ Us wr g d1 ∧ Bg g w wr) (fun iv _ => 0)
                      case atStart => exact ⟨rfl, U1.out, B1.out⟩
                      case round =>
                        clear U1 B1
                        obtain ⟨rfl, hu, hbg⟩ := hrel
                        have U1 : Hid (Us wr g d1) := hu
                        have B1 : Hid (Bg g w wr) := hbg
                        clear hu hbg
                        have q9 : (j : Int) < (i : Int) := by omega
                        go_wp2_with fail
                        go_quiet (fail)
                        rename_i hK
                        refine hK _ _ ?_
                        have U5 : Hid (Us (wr.drewN nq) g d1) := Us.same U1.out rfl
                        have B5 : Hid (Bg g w (wr.drewN nq)) := B1.out.trans (Bg.drewN wr nq)
                        obtain ⟨wz, hwz⟩ : ∃ wz, wr.drewN nq = wz := ⟨_, rfl⟩
                        rw [hwz] at U5 B5 ⊢
                        clear hwz hK
                        revert nq
                        intro nq1
                        clear U1 B1
                        have U1 : Hid (Us wz g d1) := U5.out
                        have B1 : Hid (Bg g w wz) := B5.out
                        clear U5 B5
                        have hjn : j < n := by have := PT.out.jb; omega
                        have aij := PT.out.ai
                        have iij := PT.out.ij
                        obtain ⟨x1, y1⟩ := U1.out.cell j (by omega)
                        obtain ⟨x2, y2⟩ := U1.out.cell a (by omega)
                        have p5 : (j : Int) < (n : Int) := by omega
                        have p6 : (a : Int) < (n : Int) := by omega
                        have p7 : (0 : Int) ≤ (j : Int) := by omega
                        have p8 : (0 : Int) ≤ (a : Int) := by omega
                        have HW := Us.swp U1.out j a
                        have HF : Hid (PartOk a b j d (Sort.swp d1 j a)) := PT.out.final (by omega) PM.out (by omega)
                        by_cases hja : j = a
                        · subst hja
                          generalize d1[j]! = xj at *
                          have HW1 : Hid (Us _ g (Sort.swp d1 j j)) := HW.1
                          have HW2 : Hid (Bg g _ _) := HW.2
                          clear HW
                          go_wp2_with fail
                          go_region
                          go_wp2_with fail
                          go_ret2
                          exact ⟨j, _, false, rfl, HF.out, Us.same HW1.out rfl, (B1.out.trans HW2.out).trans (Bg.drew _)⟩
                        · have hja2 : ¬ a = j := fun e => hja e.symm
                          generalize d1[j]! = xj at *
                          generalize d1[a]! = xa at *
                          have HW1 : Hid (Us _ g (Sort.swp d1 j a)) := HW.1
                          have HW2 : Hid (Bg g _ _) := HW.2
                          clear HW
                          go_wp2_with fail
                          go_region
                          go_wp2_with fail
                          go_ret2
                          exact ⟨j, _, false, rfl, HF.out, Us.same HW1.out rfl, (B1.out.trans HW2.out).trans (Bg.drew _)⟩
            · have q1 : decide ((i : Int) ≤ (j : Int)) = false := by rw [decide_eq_false_iff_not]; omega
              have q9 : (j : Int) < (i : Int) := by omega
              clear hu
              go_wp2_with fail
              go_quiet (fail)
              rename_i hK
              refine hK _ _ ?_
              have U5 : Hid (Us (wr.drewN nq) g d1) := Us.same U1.out rfl
              have B5 : Hid (Bg g w (wr.drewN nq)) := B1.out.trans (Bg.drewN wr nq)
              obtain ⟨wz, hwz⟩ : ∃ wz, wr.drewN nq = wz := ⟨_, rfl⟩
              rw [hwz] at U5 B5 ⊢
              clear hwz hK
              revert nq
              intro nq1
              clear U1 B1
              have U1 : Hid (Us wz g d1) := U5.out
              have B1 : Hid (Bg g w wz) := B5.out
              clear U5 B5
              have hjn : j < n := by have := PT.out.jb; omega
              have aij := PT.out.ai
              have iij := PT.out.ij
              obtain ⟨x1, y1⟩ := U1.out.cell j (by omega)
              obtain ⟨x2, y2⟩ := U1.out.cell a (by omega)
              have p5 : (j : Int) < (n : Int) := by omega
              have p6 : (a : Int) < (n : Int) := by omega
              have p7 : (0 : Int) ≤ (j : Int) := by omega
              have p8 : (0 : Int) ≤ (a : Int) := by omega
              have HW := Us.swp U1.out j a
              have HF : Hid (PartOk a b j d (Sort.swp d1 j a)) := PT.out.final (by omega) PM.out (by omega)
              by_cases hja : j = a
              · subst hja
                generalize d1[j]! = xj at *
                have HW1 : Hid (Us _ g (Sort.swp d1 j j)) := HW.1
                have HW2 : Hid (Bg g _ _) := HW.2
                clear HW
                go_wp2_with fail
                go_region
                go_wp2_with fail
                go_ret2
                exact ⟨j, _, true, rfl, HF.out, Us.same HW1.out rfl, (B1.out.trans HW2.out).trans (Bg.drew _)⟩
              · have hja2 : ¬ a = j := fun e => hja e.symm
                generalize d1[j]! = xj at *
                generalize d1[a]! = xa at *
                have HW1 : Hid (Us _ g (Sort.swp d1 j a)) := HW.1
                have HW2 : Hid (Bg g _ _) := HW.2
                clear HW
                go_wp2_with fail
                go_region
                go_wp2_with fail
                go_ret2
                exact ⟨j, _, true, rfl, HF.out, Us.same HW1.out rfl, (B1.out.trans HW2.out).trans (Bg.drew _)⟩
        · have PT2 : Hid (Pt (fun x => ltN x P) a b (i + 1) j P d1) := PT.out.up hij (by rw [HX.out]; show ltN xv P = true; first | exact hl | (rw [hl]; rfl))
          clear hl
          go_wp2_with fail
          go_roundw
          case rel => exact ⟨i + 1, by go_num, PT2.out, U5.out, B5.out, by omega⟩
          case measure => simp [natOf]; omega
      · have q1 : decide ((i : Int) ≤ (j : Int)) = false := by rw [decide_eq_false_iff_not]; omega
        clear hu
        go_wp2_with fail
        go_quiet (fail)
        rename_i hK
        refine hK _ _ ?_
        have U5 : Hid (Us (wr.drewN nq) g d1) := Us.same U1.out rfl
        have B5 : Hid (Bg g w (wr.drewN nq)) := B1.out.trans (Bg.drewN wr nq)
        obtain ⟨wz, hwz⟩ : ∃ wz, wr.drewN nq = wz := ⟨_, rfl⟩
        rw [hwz] at U5 B5 ⊢
        clear hwz hK
        revert nq
        intro nq1
        clear U1 B1
        have U1 : Hid (Us wz g d1) := U5.out
        have B1 : Hid (Bg g w wz) := B5.out
        clear U5 B5
        go_wp2_with fail
        go_loopw [11] (fun iv wr => iv = .int .i64 (j : Int) ∧ Us wr g d1 ∧ Bg g w wr) (fun iv _ => 0)
        case atStart => exact ⟨rfl, U1.out, B1.out⟩
        case round =>
          clear U1 B1
          obtain ⟨rfl, hu, hbg⟩ := hrel
          have U1 : Hid (Us wr g d1) := hu
          have B1 : Hid (Bg g w wr) := hbg
          clear hu hbg
          have q9 : (j : Int) < (i : Int) := by omega
          go_wp2_with fail
          go_quiet (fail)
          rename_i hK
          refine hK _ _ ?_
          have U5 : Hid (Us (wr.drewN nq) g d1) := Us.same U1.out rfl
          have B5 : Hid (Bg g w (wr.drewN nq)) := B1.out.trans (Bg.drewN wr nq)
          obtain ⟨wz, hwz⟩ : ∃ wz, wr.drewN nq = wz := ⟨_, rfl⟩
          rw [hwz] at U5 B5 ⊢
          clear hwz hK
          revert nq
          intro nq1
          clear U1 B1
          have U1 : Hid (Us wz g d1) := U5.out
          have B1 : Hid (Bg g w wz) := B5.out
          clear U5 B5
          have hjn : j < n := by have := PT.out.jb; omega
          have aij := PT.out.ai
          have iij := PT.out.ij
          obtain ⟨x1, y1⟩ := U1.out.cell j (by omega)
          obtain ⟨x2, y2⟩ := U1.out.cell a (by omega)
          have p5 : (j : Int) < (n : Int) := by omega
          have p6 : (a : Int) < (n : Int) := by omega
          have p7 : (0 : Int) ≤ (j : Int) := by omega
          have p8 : (0 : Int) ≤ (a : Int) := by omega
          have HW := Us.swp U1.out j a
          have HF : Hid (PartOk a b j d (Sort.swp d1 j a)) := PT.out.final (by omega) PM.out (by omega)
          by_cases hja : j = a
          · exfalso; omega
          · have hja2 : ¬ a = j := fun e => hja e.symm
            generalize d1[j]! = xj at *
            generalize d1[a]! = xa at *
            have HW1 : Hid (Us _ g (Sort.swp d1 j a)) := HW.1
            have HW2 : Hid (Bg g _ _) := HW.2
            clear HW
            go_wp2_with fail
            go_region
            go_wp2_with fail
            go_ret2
            exact ⟨j, _, true, rfl, HF.out, Us.same HW1.out rfl, (B1.out.trans HW2.out).trans (Bg.drew _)⟩
end Go.Proofs.Ytkpfnepbnaekoaa.Rd
