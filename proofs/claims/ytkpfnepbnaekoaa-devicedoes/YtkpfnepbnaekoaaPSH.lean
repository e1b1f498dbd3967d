/- The sort beyond twelve: partitionEqual. -/
import Derived.Test.YtkpfnepbnaekoaaPSG
namespace Go.Proofs.Ytkpfnepbnaekoaa.Rd
open Go.RowKit
set_option maxRecDepth 100000 in
set_option maxHeartbeats 8000000 in
def PartE (g a b pv : Nat) (d : Array Nat) (w : World) (e : Ending) (w' : World) : Prop := ∃ (i : Nat) (d' : Array Nat), e = .returned (.int .i64 (i : Int)) ∧ Sort.PermIn a b d d' ∧ Pt (fun x => !ltN d[pv]! x) a b i (i - 1) d[pv]! d' ∧ Us w' g d' ∧ Bg g w w'
set_option maxRecDepth 100000 in
set_option maxHeartbeats 8000000 in
theorem parteq_any (g cap a b pv : Nat) (d : Array Nat) (h1 : a ≤ pv) (h2 : pv < b) (hb : b ≤ d.size) (hd : d.size ≤ 30) (w : World) (h : Us w g d) :
    Calls Try.prog 83 #[.slice (some ⟨g, 0, none⟩) d.size cap, .int .i64 (a : Int), .int .i64 (b : Int), .int .i64 (pv : Int)] w fun e w' => PartE g a b pv d w e w' := by
  have HU : Hid (Us w g d) := h
  clear h
  obtain ⟨n, hn⟩ : ∃ n, d.size = n := ⟨_, rfl⟩
  rw [hn] at hb hd ⊢
  have HP0 : Hid (Pt (fun x => !ltN d[pv]! x) a b (a + 1) (b - 1) d[pv]! (Sort.swp d a pv)) := Pt.start _ a b pv d h1 h2 (by omega)
  have PM0 : Hid (Sort.PermIn a b d (Sort.swp d a pv)) := Sort.swp_permIn d a b a pv (by omega) (by omega) h1 h2 (by omega)
  obtain ⟨P, hP⟩ : ∃ P, d[pv]! = P := ⟨_, rfl⟩
  rw [hP] at HP0
  have HP : Hid (d[pv]! = P) := hP
  obtain ⟨x1, y1⟩ := HU.out.cell a (by omega)
  obtain ⟨x2, y2⟩ := HU.out.cell pv (by omega)
  have p1 : (a : Int) < (n : Int) := by omega
  have p2 : (pv : Int) < (n : Int) := by omega
  have p3 : (0 : Int) ≤ (a : Int) := by omega
  have p4 : (0 : Int) ≤ (pv : Int) := by omega
  have HW := Us.swp HU.out a pv
  rw [hP] at x2 HW
  go_enter Try.func83, Try.ntmps83
  by_cases hap : a = pv
  · subst hap
    rw [hP] at x1
    have HW' : Us ((w.setCell ⟨g, a, none⟩ (.int .u32 (P : Int))).setCell ⟨g, a, none⟩ (.int .u32 (P : Int))) g (Sort.swp d a a) ∧ Bg g w ((w.setCell ⟨g, a, none⟩ (.int .u32 (P : Int))).setCell ⟨g, a, none⟩ (.int .u32 (P : Int))) := by
      have h := HW
      rw [hP] at h
      exact h
    have U0' : Hid (Us _ g (Sort.swp d a a)) := HW'.1
    have B0' : Hid (Bg g _ _) := HW'.2
    clear HW HW' hP
    go_wp2_with fail
    go_region
    obtain ⟨W0, hW0⟩ : ∃ W0, ((w.setCell ⟨g, a, none⟩ (.int .u32 (P : Int))).setCell ⟨g, a, none⟩ (.int .u32 (P : Int))).drew = W0 := ⟨_, rfl⟩
    have U0 : Hid (Us W0 g (Sort.swp d a a)) := by
      refine (?_ : Us W0 g (Sort.swp d a a))
      rw [← hW0]; exact Us.same U0'.out rfl
    have B0 : Hid (Bg g w W0) := by
      refine (?_ : Bg g w W0)
      rw [← hW0]; exact B0'.out.trans (Bg.drew _)
    rw [hW0]
    clear hW0 U0' B0' x1 x2 y1 y2
    go_wp2_with fail
    go_loopw [9, 10] (fun iv jv wr => ∃ (i j : Nat) (d1 : Array Nat), iv = .int .i64 (i : Int) ∧ jv = .int .i64 (j : Int) ∧ Pt (fun x => !ltN P x) a b i j P d1 ∧ d1.size = n ∧ Sort.PermIn a b d d1 ∧ Us wr g d1 ∧ Bg g w wr) (fun iv jv _ => natOf jv + 1 - natOf iv)
    case atStart => exact ⟨a + 1, b - 1, Sort.swp d a a, by go_num, by go_num, HP0.out, by rw [swp_sz]; exact hn, PM0.out, U0.out, B0.out⟩
    case round =>
      clear HP0 PM0 U0 B0
      obtain ⟨i, j, d1, rfl, rfl, hpt, hs1, hpm, hu0, hbg0⟩ := hrel
      have PT : Hid (Pt (fun x => !ltN P x) a b i j P d1) := hpt
      have PM : Hid (Sort.PermIn a b d d1) := hpm
      have U1 : Hid (Us wr g d1) := hu0
      have B1 : Hid (Bg g w wr) := hbg0
      obtain ⟨i0, hi0⟩ : ∃ i0, i0 = i := ⟨i, rfl⟩
      obtain ⟨j0, hj0⟩ : ∃ j0, j0 = j := ⟨j, rfl⟩
      have IJ0 : Hid (i0 = i ∧ j0 = j) := ⟨hi0, hj0⟩
      clear hpt hpm hu0 hbg0 hi0 hj0
      go_wp2_with fail
      go_loopw [9] (fun iv wr => ∃ (k : Nat), iv = .int .i64 (k : Int) ∧ Pt (fun x => !ltN P x) a b k j P d1 ∧ Us wr g d1 ∧ Bg g w wr ∧ i0 ≤ k) (fun iv _ => b - natOf iv)
      case atStart => exact ⟨i, rfl, PT.out, U1.out, B1.out, by have := IJ0.out; omega⟩
      case round =>
        clear PT U1 B1
        obtain ⟨i, rfl, hpt, hu, hbg, hi0⟩ := hrel
        have PT : Hid (Pt (fun x => !ltN P x) a b i j P d1) := hpt
        have U1 : Hid (Us wr g d1) := hu
        have B1 : Hid (Bg g w wr) := hbg
        have ai := hpt.ai
        have ij := hpt.ij
        have jb := hpt.jb
        have pv := hpt.pv
        have PV : Hid (d1[a]! = P) := pv
        clear hpt hbg pv
        by_cases hij : i ≤ j
        · have q1 : (i : Int) ≤ (j : Int) := by omega
          obtain ⟨x1, y1⟩ := hu.cell a (by omega)
          obtain ⟨x2, y2⟩ := hu.cell i (by omega)
          rw [PV.out] at x1
          have p1 : (a : Int) < (n : Int) := by omega
          have p2 : (i : Int) < (n : Int) := by omega
          have p3 : (0 : Int) ≤ (a : Int) := by omega
          have p4 : (0 : Int) ≤ (i : Int) := by omega
          generalize hx : d1[i]! = xv at *
          have HX : Hid (d1[i]! = xv) := hx
          clear hx hu
          go_wp2_with fail
          go_quiet (first | (go_at_call 82; refine Calls.quiet_of_same (less_any _ _ _)))
          rename_i hK
          refine hK _ _ ?_
          have U5 : Hid (Us (wr.drewN nq) g d1) := Us.same U1.out rfl
          have B5 : Hid (Bg g w (wr.drewN nq)) := B1.out.trans (Bg.drewN wr nq)
          obtain ⟨wz, hwz⟩ : ∃ wz, wr.drewN nq = wz := ⟨_, rfl⟩
          rw [hwz] at U5 B5 ⊢
          clear hwz hK
          revert nq
          intro nq1
          clear x1 x2 y1 y2 U1 B1
          cases hl : ltN P xv
          · have PT2 : Hid (Pt (fun x => !ltN P x) a b (i + 1) j P d1) := PT.out.up hij (by rw [HX.out]; show (!ltN P xv) = true; rw [hl]; rfl)
            clear hl
            go_wp2_with fail
            go_roundw
            case rel => exact ⟨i + 1, by go_num, PT2.out, U5.out, B5.out, by omega⟩
            case measure => simp [natOf]; omega
          · have HI : Hid ((fun x => !ltN P x) d1[i]! = false) := by
              refine (?_ : (fun x => !ltN P x) d1[i]! = false)
              rw [HX.out]; show (!ltN P xv) = false; rw [hl]; rfl
            clear hl
            have U1 : Hid (Us wz g d1) := U5.out
            have B1 : Hid (Bg g w wz) := B5.out
            clear U5 B5
            go_wp2_with fail
            go_loopw [10] (fun iv wr => ∃ (k : Nat), iv = .int .i64 (k : Int) ∧ Pt (fun x => !ltN P x) a b i k P d1 ∧ Us wr g d1 ∧ Bg g w wr ∧ k ≤ j0) (fun iv _ => natOf iv)
            case atStart => exact ⟨j, rfl, PT.out, U1.out, B1.out, by have := IJ0.out; omega⟩
            case round =>
              clear PT U1 B1
              obtain ⟨j, rfl, hpt, hu, hbg, hj0⟩ := hrel
              have PT : Hid (Pt (fun x => !ltN P x) a b i j P d1) := hpt
              have U1 : Hid (Us wr g d1) := hu
              have B1 : Hid (Bg g w wr) := hbg
              have ai := hpt.ai
              have ij := hpt.ij
              have jb := hpt.jb
              have pv := hpt.pv
              have PV : Hid (d1[a]! = P) := pv
              clear hpt hbg pv
              by_cases hij : i ≤ j
              · have q1 : (i : Int) ≤ (j : Int) := by omega
                obtain ⟨x1, y1⟩ := hu.cell a (by omega)
                obtain ⟨x2, y2⟩ := hu.cell j (by omega)
                rw [PV.out] at x1
                have p1 : (a : Int) < (n : Int) := by omega
                have p2 : (j : Int) < (n : Int) := by omega
                have p3 : (0 : Int) ≤ (a : Int) := by omega
                have p4 : (0 : Int) ≤ (j : Int) := by omega
                generalize hx : d1[j]! = xv at *
                have HX : Hid (d1[j]! = xv) := hx
                clear hx hu
                go_wp2_with fail
                go_quiet (first | (go_at_call 82; refine Calls.quiet_of_same (less_any _ _ _)))
                rename_i hK
                refine hK _ _ ?_
                have U5 : Hid (Us (wr.drewN nq) g d1) := Us.same U1.out rfl
                have B5 : Hid (Bg g w (wr.drewN nq)) := B1.out.trans (Bg.drewN wr nq)
                obtain ⟨wz, hwz⟩ : ∃ wz, wr.drewN nq = wz := ⟨_, rfl⟩
                rw [hwz] at U5 B5 ⊢
                clear hwz hK
                revert nq
                intro nq1
                clear x1 x2 y1 y2 U1 B1
                cases hl : ltN P xv
                · have HJ : Hid ((fun x => !ltN P x) d1[j]! = true) := by
                    refine (?_ : (fun x => !ltN P x) d1[j]! = true)
                    rw [HX.out]; show (!ltN P xv) = true; rw [hl]; rfl
                  have q9 : ¬ (j : Int) < (i : Int) := by omega
                  clear hl
                  have U1 : Hid (Us wz g d1) := U5.out
                  have B1 : Hid (Bg g w wz) := B5.out
                  clear U5 B5
                  obtain ⟨j', rfl⟩ : ∃ j', j = j' + 1 := ⟨j - 1, by omega⟩
                  obtain ⟨hii, hsw⟩ := PT.out.swap hij HI.out HJ.out (by omega)
                  have PT2 : Hid (Pt (fun x => !ltN P x) a b (i + 1) j' P (Sort.swp d1 i (j' + 1))) := hsw
                  have PM2 : Hid (Sort.PermIn a b d (Sort.swp d1 i (j' + 1))) := Sort.permIn_trans _ _ _ _ _ PM.out (Sort.swp_permIn d1 a b i (j' + 1) (by omega) (by omega) (by omega) (by omega) (by omega))
                  obtain ⟨x1, y1⟩ := U1.out.cell i (by omega)
                  obtain ⟨x2, y2⟩ := U1.out.cell (j' + 1) (by omega)
                  have p5 : (i : Int) < (n : Int) := by omega
                  have p6 : (j' : Int) + 1 < (n : Int) := by omega
                  have p7 : (0 : Int) ≤ (i : Int) := by omega
                  have p8 : (0 : Int) ≤ (j' : Int) + 1 := by omega
                  have hne : ¬ i = j' + 1 := by omega
                  have hne2 : ¬ j' + 1 = i := by omega
                  have HW := Us.swp U1.out i (j' + 1)
                  clear hsw HI HJ HX
                  generalize d1[i]! = xi at *
                  generalize d1[j' + 1]! = xj at *
                  have HW1 : Hid (Us _ g (Sort.swp d1 i (j' + 1))) := HW.1
                  have HW2 : Hid (Bg g _ _) := HW.2
                  clear HW
                  go_wp2_with fail
                  go_region
                  go_wp2_with fail
                  go_roundw
                  case rel => exact ⟨i + 1, j', Sort.swp d1 i (j' + 1), by go_num, by go_num, PT2.out, by rw [swp_sz]; exact hs1, PM2.out, Us.same HW1.out rfl, (B1.out.trans HW2.out).trans (Bg.drew _)⟩
                  case measure => simp [natOf]; have := IJ0.out; omega
                · obtain ⟨j', rfl⟩ : ∃ j', j = j' + 1 := ⟨j - 1, by omega⟩
                  have PT2 : Hid (Pt (fun x => !ltN P x) a b i j' P d1) := PT.out.down hij (by rw [HX.out]; show (!ltN P xv) = false; rw [hl]; rfl)
                  have hjj : ((j' + 1 : Nat) : Int) - 1 = (j' : Int) := by omega
                  clear hl
                  go_wp2_with fail
                  go_roundw
                  case rel => exact ⟨j', by go_num, PT2.out, U5.out, B5.out, by omega⟩
                  case measure => simp [natOf]
              · have q1 : decide ((i : Int) ≤ (j : Int)) = false := by rw [decide_eq_false_iff_not]; omega
                have q9 : (j : Int) < (i : Int) := by omega
                clear hu
                go_wp2_with fail
                go_quiet (fail)
                rename_i hK
                refine hK _ _ ?_
                have U5 : Hid (Us (wr.drewN nq) g d1) := Us.same U1.out rfl
                have B5 : Hid (Bg g w (wr.drewN nq)) := B1.out.trans (Bg.drewN wr nq)
                obtain ⟨wz, hwz⟩ : ∃ wz, wr.drewN nq = wz := ⟨_, rfl⟩
                rw [hwz] at U5 B5 ⊢
                clear hwz hK
                revert nq
                intro nq1
                clear U1 B1
                have U1 : Hid (Us wz g d1) := U5.out
                have B1 : Hid (Bg g w wz) := B5.out
                clear U5 B5
                go_wp2_with fail
                go_ret
                exact ⟨i, d1, rfl, PM.out, (by rw [HP.out]; have hi : i - 1 = j := by omega
                                               rw [hi]; exact PT.out), U1.out, B1.out⟩
        · have q1 : decide ((i : Int) ≤ (j : Int)) = false := by rw [decide_eq_false_iff_not]; omega
          clear hu
          go_wp2_with fail
          go_quiet (fail)
          rename_i hK
          refine hK _ _ ?_
          have U5 : Hid (Us (wr.drewN nq) g d1) := Us.same U1.out rfl
          have B5 : Hid (Bg g w (wr.drewN nq)) := B1.out.trans (Bg.drewN wr nq)
          obtain ⟨wz, hwz⟩ : ∃ wz, wr.drewN nq = wz := ⟨_, rfl⟩
          rw [hwz] at U5 B5 ⊢
          clear hwz hK
          revert nq
          intro nq1
          clear U1 B1
          have U1 : Hid (Us wz g d1) := U5.out
          have B1 : Hid (Bg g w wz) := B5.out
          clear U5 B5
          go_wp2_with fail
          go_loopw [10] (fun iv wr => iv = .int .i64 (j : Int) ∧ Us wr g d1 ∧ Bg g w wr) (fun iv _ => 0)
          case atStart => exact ⟨rfl, U1.out, B1.out⟩
          case round =>
            clear U1 B1
            obtain ⟨rfl, hu, hbg⟩ := hrel
            have U1 : Hid (Us wr g d1) := hu
            have B1 : Hid (Bg g w wr) := hbg
            clear hu hbg
            have q9 : (j : Int) < (i : Int) := by omega
            go_wp2_with fail
            go_quiet (fail)
            rename_i hK
            refine hK _ _ ?_
            have U5 : Hid (Us (wr.drewN nq) g d1) := Us.same U1.out rfl
            have B5 : Hid (Bg g w (wr.drewN nq)) := B1.out.trans (Bg.drewN wr nq)
            obtain ⟨wz, hwz⟩ : ∃ wz, wr.drewN nq = wz := ⟨_, rfl⟩
            rw [hwz] at U5 B5 ⊢
            clear hwz hK
            revert nq
            intro nq1
            clear U1 B1
            have U1 : Hid (Us wz g d1) := U5.out
            have B1 : Hid (Bg g w wz) := B5.out
            clear U5 B5
            go_wp2_with fail
            go_ret
            exact ⟨i, d1, rfl, PM.out, (by rw [HP.out]; have hi : i - 1 = j := by omega
                                           rw [hi]; exact PT.out), U1.out, B1.out⟩
  · have hap2 : ¬ pv = a := fun e => hap e.symm
    generalize d[a]! = xa at *
    have U0' : Hid (Us _ g (Sort.swp d a pv)) := HW.1
    have B0' : Hid (Bg g _ _) := HW.2
    clear HW hP
    go_wp2_with fail
    go_region
    obtain ⟨W0, hW0⟩ : ∃ W0, ((w.setCell ⟨g, a, none⟩ (.int .u32 (P : Int))).setCell ⟨g, pv, none⟩ (.int .u32 (xa : Int))).drew = W0 := ⟨_, rfl⟩
    have U0 : Hid (Us W0 g (Sort.swp d a pv)) := by
      refine (?_ : Us W0 g (Sort.swp d a pv))
      rw [← hW0]; exact Us.same U0'.out rfl
    have B0 : Hid (Bg g w W0) := by
      refine (?_ : Bg g w W0)
      rw [← hW0]; exact B0'.out.trans (Bg.drew _)
    rw [hW0]
    clear hW0 U0' B0' x1 x2 y1 y2
    go_wp2_with fail
    go_loopw [9, 10] (fun iv jv wr => ∃ (i j : Nat) (d1 : Array Nat), iv = .int .i64 (i : Int) ∧ jv = .int .i64 (j : Int) ∧ Pt (fun x => !ltN P x) a b i j P d1 ∧ d1.size = n ∧ Sort.PermIn a b d d1 ∧ Us wr g d1 ∧ Bg g w wr) (fun iv jv _ => natOf jv + 1 - natOf iv)
    case atStart => exact ⟨a + 1, b - 1, Sort.swp d a pv, by go_num, by go_num, HP0.out, by rw [swp_sz]; exact hn, PM0.out, U0.out, B0.out⟩
    case round =>
      clear HP0 PM0 U0 B0
      obtain ⟨i, j, d1, rfl, rfl, hpt, hs1, hpm, hu0, hbg0⟩ := hrel
      have PT : Hid (Pt (fun x => !ltN P x) a b i j P d1) := hpt
      have PM : Hid (Sort.PermIn a b d d1) := hpm
      have U1 : Hid (Us wr g d1) := hu0
      have B1 : Hid (Bg g w wr) := hbg0
      obtain ⟨i0, hi0⟩ : ∃ i0, i0 = i := ⟨i, rfl⟩
      obtain ⟨j0, hj0⟩ : ∃ j0, j0 = j := ⟨j, rfl⟩
      have IJ0 : Hid (i0 = i ∧ j0 = j) := ⟨hi0, hj0⟩
      clear hpt hpm hu0 hbg0 hi0 hj0
      go_wp2_with fail
      go_loopw [9] (fun iv wr => ∃ (k : Nat), iv = .int .i64 (k : Int) ∧ Pt (fun x => !ltN P x) a b k j P d1 ∧ Us wr g d1 ∧ Bg g w wr ∧ i0 ≤ k) (fun iv _ => b - natOf iv)
      case atStart => exact ⟨i, rfl, PT.out, U1.out, B1.out, by have := IJ0.out; omega⟩
      case round =>
        clear PT U1 B1
        obtain ⟨i, rfl, hpt, hu, hbg, hi0⟩ := hrel
        have PT : Hid (Pt (fun x => !ltN P x) a b i j P d1) := hpt
        have U1 : Hid (Us wr g d1) := hu
        have B1 : Hid (Bg g w wr) := hbg
        have ai := hpt.ai
        have ij := hpt.ij
        have jb := hpt.jb
        have pv := hpt.pv
        have PV : Hid (d1[a]! = P) := pv
        clear hpt hbg pv
        by_cases hij : i ≤ j
        · have q1 : (i : Int) ≤ (j : Int) := by omega
          obtain ⟨x1, y1⟩ := hu.cell a (by omega)
          obtain ⟨x2, y2⟩ := hu.cell i (by omega)
          rw [PV.out] at x1
          have p1 : (a : Int) < (n : Int) := by omega
          have p2 : (i : Int) < (n : Int) := by omega
          have p3 : (0 : Int) ≤ (a : Int) := by omega
          have p4 : (0 : Int) ≤ (i : Int) := by omega
          generalize hx : d1[i]! = xv at *
          have HX : Hid (d1[i]! = xv) := hx
          clear hx hu
          go_wp2_with fail
          go_quiet (first | (go_at_call 82; refine Calls.quiet_of_same (less_any _ _ _)))
          rename_i hK
          refine hK _ _ ?_
          have U5 : Hid (Us (wr.drewN nq) g d1) := Us.same U1.out rfl
          have B5 : Hid (Bg g w (wr.drewN nq)) := B1.out.trans (Bg.drewN wr nq)
          obtain ⟨wz, hwz⟩ : ∃ wz, wr.drewN nq = wz := ⟨_, rfl⟩
          rw [hwz] at U5 B5 ⊢
          clear hwz hK
          revert nq
          intro nq1
          clear x1 x2 y1 y2 U1 B1
          cases hl : ltN P xv
          · have PT2 : Hid (Pt (fun x => !ltN P x) a b (i + 1) j P d1) := PT.out.up hij (by rw [HX.out]; show (!ltN P xv) = true; rw [hl]; rfl)
            clear hl
            go_wp2_with fail
            go_roundw
            case rel => exact ⟨i + 1, by go_num, PT2.out, U5.out, B5.out, by omega⟩
            case measure => simp [natOf]; omega
          · have HI : Hid ((fun x => !ltN P x) d1[i]! = false) := by
              refine (?_ : (fun x => !ltN P x) d1[i]! = false)
              rw [HX.out]; show (!ltN P xv) = false; rw [hl]; rfl
            clear hl
            have U1 : Hid (Us wz g d1) := U5.out
            have B1 : Hid (Bg g w wz) := B5.out
            clear U5 B5
            go_wp2_with fail
            go_loopw [10] (fun iv wr => ∃ (k : Nat), iv = .int .i64 (k : Int) ∧ Pt (fun x => !ltN P x) a b i k P d1 ∧ Us wr g d1 ∧ Bg g w wr ∧ k ≤ j0) (fun iv _ => natOf iv)
            case atStart => exact ⟨j, rfl, PT.out, U1.out, B1.out, by have := IJ0.out; omega⟩
            case round =>
              clear PT U1 B1
              obtain ⟨j, rfl, hpt, hu, hbg, hj0⟩ := hrel
              have PT : Hid (Pt (fun x => !ltN P x) a b i j P d1) := hpt
              have U1 : Hid (Us wr g d1) := hu
              have B1 : Hid (Bg g w wr) := hbg
              have ai := hpt.ai
              have ij := hpt.ij
              have jb := hpt.jb
              have pv := hpt.pv
              have PV : Hid (d1[a]! = P) := pv
              clear hpt hbg pv
              by_cases hij : i ≤ j
              · have q1 : (i : Int) ≤ (j : Int) := by omega
                obtain ⟨x1, y1⟩ := hu.cell a (by omega)
                obtain ⟨x2, y2⟩ := hu.cell j (by omega)
                rw [PV.out] at x1
                have p1 : (a : Int) < (n : Int) := by omega
                have p2 : (j : Int) < (n : Int) := by omega
                have p3 : (0 : Int) ≤ (a : Int) := by omega
                have p4 : (0 : Int) ≤ (j : Int) := by omega
                generalize hx : d1[j]! = xv at *
                have HX : Hid (d1[j]! = xv) := hx
                clear hx hu
                go_wp2_with fail
                go_quiet (first | (go_at_call 82; refine Calls.quiet_of_same (less_any _ _ _)))
                rename_i hK
                refine hK _ _ ?_
                have U5 : Hid (Us (wr.drewN nq) g d1) := Us.same U1.out rfl
                have B5 : Hid (Bg g w (wr.drewN nq)) := B1.out.trans (Bg.drewN wr nq)
                obtain ⟨wz, hwz⟩ : ∃ wz, wr.drewN nq = wz := ⟨_, rfl⟩
                rw [hwz] at U5 B5 ⊢
                clear hwz hK
                revert nq
                intro nq1
                clear x1 x2 y1 y2 U1 B1
                cases hl : ltN P xv
                · have HJ : Hid ((fun x => !ltN P x) d1[j]! = true) := by
                    refine (?_ : (fun x => !ltN P x) d1[j]! = true)
                    rw [HX.out]; show (!ltN P xv) = true; rw [hl]; rfl
                  have q9 : ¬ (j : Int) < (i : Int) := by omega
                  clear hl
                  have U1 : Hid (Us wz g d1) := U5.out
                  have B1 : Hid (Bg g w wz) := B5.out
                  clear U5 B5
                  obtain ⟨j', rfl⟩ : ∃ j', j = j' + 1 := ⟨j - 1, by omega⟩
                  obtain ⟨hii, hsw⟩ := PT.out.swap hij HI.out HJ.out (by omega)
                  have PT2 : Hid (Pt (fun x => !ltN P x) a b (i + 1) j' P (Sort.swp d1 i (j' + 1))) := hsw
                  have PM2 : Hid (Sort.PermIn a b d (Sort.swp d1 i (j' + 1))) := Sort.permIn_trans _ _ _ _ _ PM.out (Sort.swp_permIn d1 a b i (j' + 1) (by omega) (by omega) (by omega) (by omega) (by omega))
                  obtain ⟨x1, y1⟩ := U1.out.cell i (by omega)
                  obtain ⟨x2, y2⟩ := U1.out.cell (j' + 1) (by omega)
                  have p5 : (i : Int) < (n : Int) := by omega
                  have p6 : (j' : Int) + 1 < (n : Int) := by omega
                  have p7 : (0 : Int) ≤ (i : Int) := by omega
                  have p8 : (0 : Int) ≤ (j' : Int) + 1 := by omega
                  have hne : ¬ i = j' + 1 := by omega
                  have hne2 : ¬ j' + 1 = i := by omega
                  have HW := Us.swp U1.out i (j' + 1)
                  clear hsw HI HJ HX
                  generalize d1[i]! = xi at *
                  generalize d1[j' + 1]! = xj at *
                  have HW1 : Hid (Us _ g (Sort.swp d1 i (j' + 1))) := HW.1
                  have HW2 : Hid (Bg g _ _) := HW.2
                  clear HW
                  go_wp2_with fail
                  go_region
                  go_wp2_with fail
                  go_roundw
                  case rel => exact ⟨i + 1, j', Sort.swp d1 i (j' + 1), by go_num, by go_num, PT2.out, by rw [swp_sz]; exact hs1, PM2.out, Us.same HW1.out rfl, (B1.out.trans HW2.out).trans (Bg.drew _)⟩
                  case measure => simp [natOf]; have := IJ0.out; omega
                · obtain ⟨j', rfl⟩ : ∃ j', j = j' + 1 := ⟨j - 1, by omega⟩
                  have PT2 : Hid (Pt (fun x => !ltN P x) a b i j' P d1) := PT.out.down hij (by rw [HX.out]; show (!ltN P xv) = false; rw [hl]; rfl)
                  have hjj : ((j' + 1 : Nat) : Int) - 1 = (j' : Int) := by omega
                  clear hl
                  go_wp2_with fail
                  go_roundw
                  case rel => exact ⟨j', by go_num, PT2.out, U5.out, B5.out, by omega⟩
                  case measure => simp [natOf]
              · have q1 : decide ((i : Int) ≤ (j : Int)) = false := by rw [decide_eq_false_iff_not]; omega
                have q9 : (j : Int) < (i : Int) := by omega
                clear hu
                go_wp2_with fail
                go_quiet (fail)
                rename_i hK
                refine hK _ _ ?_
                have U5 : Hid (Us (wr.drewN nq) g d1) := Us.same U1.out rfl
                have B5 : Hid (Bg g w (wr.drewN nq)) := B1.out.trans (Bg.drewN wr nq)
                obtain ⟨wz, hwz⟩ : ∃ wz, wr.drewN nq = wz := ⟨_, rfl⟩
                rw [hwz] at U5 B5 ⊢
                clear hwz hK
                revert nq
                intro nq1
                clear U1 B1
                have U1 : Hid (Us wz g d1) := U5.out
                have B1 : Hid (Bg g w wz) := B5.out
                clear U5 B5
                go_wp2_with fail
                go_ret
                exact ⟨i, d1, rfl, PM.out, (by rw [HP.out]; have hi : i - 1 = j := by omega
                                               rw [hi]; exact PT.out), U1.out, B1.out⟩
        · have q1 : decide ((i : Int) ≤ (j : Int)) = false := by rw [decide_eq_false_iff_not]; omega
          clear hu
          go_wp2_with fail
          go_quiet (fail)
          rename_i hK
          refine hK _ _ ?_
          have U5 : Hid (Us (wr.drewN nq) g d1) := Us.same U1.out rfl
          have B5 : Hid (Bg g w (wr.drewN nq)) := B1.out.trans (Bg.drewN wr nq)
          obtain ⟨wz, hwz⟩ : ∃ wz, wr.drewN nq = wz := ⟨_, rfl⟩
          rw [hwz] at U5 B5 ⊢
          clear hwz hK
          revert nq
          intro nq1
          clear U1 B1
          have U1 : Hid (Us wz g d1) := U5.out
          have B1 : Hid (Bg g w wz) := B5.out
          clear U5 B5
          go_wp2_with fail
          go_loopw [10] (fun iv wr => iv = .int .i64 (j : Int) ∧ Us wr g d1 ∧ Bg g w wr) (fun iv _ => 0)
          case atStart => exact ⟨rfl, U1.out, B1.out⟩
          case round =>
            clear U1 B1
            obtain ⟨rfl, hu, hbg⟩ := hrel
            have U1 : Hid (Us wr g d1) := hu
            have B1 : Hid (Bg g w wr) := hbg
            clear hu hbg
            have q9 : (j : Int) < (i : Int) := by omega
            go_wp2_with fail
            go_quiet (fail)
            rename_i hK
            refine hK _ _ ?_
            have U5 : Hid (Us (wr.drewN nq) g d1) := Us.same U1.out rfl
            have B5 : Hid (Bg g w (wr.drewN nq)) := B1.out.trans (Bg.drewN wr nq)
            obtain ⟨wz, hwz⟩ : ∃ wz, wr.drewN nq = wz := ⟨_, rfl⟩
            rw [hwz] at U5 B5 ⊢
            clear hwz hK
            revert nq
            intro nq1
            clear U1 B1
            have U1 : Hid (Us wz g d1) := U5.out
            have B1 : Hid (Bg g w wz) := B5.out
            clear U5 B5
            go_wp2_with fail
            go_ret
            exact ⟨i, d1, rfl, PM.out, (by rw [HP.out]; have hi : i - 1 = j := by omega
                                           rw [hi]; exact PT.out), U1.out, B1.out⟩
end Go.Proofs.Ytkpfnepbnaekoaa.Rd
