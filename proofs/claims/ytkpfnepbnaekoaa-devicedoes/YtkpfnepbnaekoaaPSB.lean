/- The sort beyond twelve: siftDown. -/
import Derived.Test.YtkpfnepbnaekoaaPSA
namespace Go.Proofs.Ytkpfnepbnaekoaa.Rd
open Go.RowKit
set_option maxRecDepth 100000 in
set_option maxHeartbeats 4000000 in
theorem sift_any (g cap lo hi F : Nat) (d : Array Nat) (hlo : lo ≤ hi) (hb : F + hi ≤ d.size) (hd : d.size ≤ 1000000) (w : World) (h : Us w g d) :
    Calls Try.prog 87 #[.slice (some ⟨g, 0, none⟩) d.size cap, .int .i64 (lo : Int), .int .i64 (hi : Int), .int .i64 (F : Int)] w fun e w' => e = .returned (.tuple #[]) ∧ Us w' g (Sort.siftDown ltN hi F lo d) ∧ Bg g w w' := by
  have HU : Hid (Us w g d) := h
  clear h
  obtain ⟨n, hn⟩ : ∃ n, d.size = n := ⟨_, rfl⟩
  rw [hn] at hb hd ⊢
  go_enter Try.func87, Try.ntmps87
  go_wp2_with fail
  go_loopw [8] (fun iv wr => ∃ (root : Nat) (d1 : Array Nat), iv = .int .i64 (root : Int) ∧ root ≤ hi ∧ Us wr g d1 ∧ d1.size = n ∧ Sort.siftDown ltN hi F root d1 = Sort.siftDown ltN hi F lo d ∧ Bg g w wr) (fun iv _ => hi - natOf iv)
  case atStart => exact ⟨lo, d, rfl, hlo, HU.out, hn, rfl, But.refl _ _⟩
  case round =>
    obtain ⟨root, d1, rfl, hrh, hu, hs1, he, hbg⟩ := hrel
    have U1 : Hid (Us wr g d1) := hu
    have E1 : Hid (Sort.siftDown ltN hi F root d1 = Sort.siftDown ltN hi F lo d) := he
    have B1 : Hid (Bg g w wr) := hbg
    clear hu he hbg
    obtain ⟨ch, hch, hch2⟩ : ∃ ch : Nat, 2 * (root : Int) + 1 = (ch : Int) ∧ ch = 2 * root + 1 := ⟨2 * root + 1, by omega, rfl⟩
    have CH : Hid (ch = 2 * root + 1) := hch2
    clear hch2
    by_cases h0 : 2 * root + 1 < hi
    · have q1 : ¬ (hi : Int) ≤ (ch : Int) := by omega
      have q1' : (ch : Int) < (hi : Int) := by omega
      by_cases h2 : ch + 1 < hi
      · have q2 : (ch : Int) + 1 < (hi : Int) := by omega
        obtain ⟨x1, y1⟩ := Us.cell U1.out (F + ch) (by omega)
        obtain ⟨x2, y2⟩ := Us.cell U1.out (F + ch + 1) (by omega)
        have p1 : (F : Int) + (ch : Int) < (n : Int) := by omega
        have p2 : (F : Int) + (ch : Int) + 1 < (n : Int) := by omega
        have p3 : (0 : Int) ≤ (F : Int) + (ch : Int) := by omega
        have p4 : (0 : Int) ≤ (F : Int) + (ch : Int) + 1 := by omega
        generalize hx : d1[F + ch]! = xv at *
        generalize hy : d1[F + ch + 1]! = yv at *
        have HX : Hid (d1[F + ch]! = xv) := hx
        have HY : Hid (d1[F + ch + 1]! = yv) := hy
        clear hx hy
        go_wp2_with fail
        go_quiet (first | (go_at_call 82; refine Calls.quiet_of_same (less_any _ _ _)))
        rename_i hK
        refine hK _ _ ?_
        have UU : Hid (Us (wr.drewN nq) g d1) := Us.same U1.out rfl
        have BB : Hid (Bg g w (wr.drewN nq)) := B1.out.trans (Bg.drewN wr nq)
        obtain ⟨wq, hwq⟩ : ∃ wq, wr.drewN nq = wq := ⟨_, rfl⟩
        rw [hwq] at UU BB ⊢
        clear hwq x1 x2 y1 y2 p1 p2 p3 p4 U1 B1
        clear hK
        revert nq
        intro nq1
        cases hl : ltN xv yv
        · obtain ⟨c, hcc⟩ : ∃ c, c = ch := ⟨ch, rfl⟩
          have HC : Hid (c = if 2 * root + 1 + 1 < hi ∧ ltN d1[F + (2 * root + 1)]! d1[F + (2 * root + 1) + 1]! = true then 2 * root + 2 else 2 * root + 1) := by
            refine (?_ : c = if 2 * root + 1 + 1 < hi ∧ ltN d1[F + (2 * root + 1)]! d1[F + (2 * root + 1) + 1]! = true then 2 * root + 2 else 2 * root + 1)
            rw [← CH.out, HX.out, HY.out, hl]; simp [hcc]
          subst hcc
          clear hl HX HY
          obtain ⟨x1, y1⟩ := Us.cell UU.out (F + root) (by omega)
          obtain ⟨x2, y2⟩ := Us.cell UU.out (F + c) (by omega)
          have p1 : (F : Int) + (root : Int) < (n : Int) := by omega
          have p2 : (F : Int) + (c : Int) < (n : Int) := by omega
          have p3 : (0 : Int) ≤ (F : Int) + (root : Int) := by omega
          have p4 : (0 : Int) ≤ (F : Int) + (c : Int) := by omega
          generalize hx : d1[F + root]! = xv at *
          generalize hy : d1[F + c]! = yv at *
          have HX : Hid (d1[F + root]! = xv) := hx
          have HY : Hid (d1[F + c]! = yv) := hy
          clear hx hy
          go_wp2_with fail
          go_quiet (first | (go_at_call 82; refine Calls.quiet_of_same (less_any _ _ _)))
          rename_i hK
          refine hK _ _ ?_
          have U5 : Us (wq.drewN nq) g d1 := Us.same UU.out rfl
          have B5 : Bg g w (wq.drewN nq) := BB.out.trans (Bg.drewN wq nq)
          obtain ⟨wz, hwz⟩ : ∃ wz, wq.drewN nq = wz := ⟨_, rfl⟩
          rw [hwz] at U5 B5 ⊢
          have HU5 : Hid (Us wz g d1) := U5
          have HB5 : Hid (Bg g w wz) := B5
          clear hwz x1 x2 y1 y2 B5 UU BB
          obtain ⟨x1, y1⟩ := U5.cell (F + root) (by omega)
          obtain ⟨x2, y2⟩ := U5.cell (F + c) (by omega)
          rw [HX.out] at x1
          rw [HY.out] at x2
          clear U5
          cases hl : ltN xv yv
          · have HE : Hid (Sort.siftDown ltN hi F root d1 = d1) := sd_stop d1 h0 HC.out (by rw [HX.out, HY.out]; exact hl)
            clear hl
            go_wp2_with fail
            refine bodyPost_ret (results_none rfl _ _ _) rfl ?_
            refine ⟨rfl, ?_, HB5.out⟩
            rw [← E1.out, HE.out]
            exact HU5.out
          · have HE : Hid (Sort.siftDown ltN hi F root d1 = Sort.siftDown ltN hi F c (Sort.swp d1 (F + root) (F + c))) := sd_go d1 h0 HC.out (by rw [HX.out, HY.out]; exact hl)
            have HW := Us.swp HU5.out (F + root) (F + c)
            rw [HX.out, HY.out] at HW
            have HW1 : Hid _ := HW.1
            have HW2 : Hid _ := HW.2
            clear hl HW
            go_wp2_with fail
            go_region
            go_wp2_with fail
            go_roundw
            case rel => exact ⟨c, Sort.swp d1 (F + root) (F + c), rfl, by omega, HW1.out, by rw [swp_sz]; exact hs1, by rw [← HE.out]; exact E1.out, (HB5.out.trans HW2.out).trans (Bg.drew _)⟩
            case measure => simp [natOf]; omega
        · obtain ⟨c, hcc, hcd⟩ : ∃ c : Nat, (ch : Int) + 1 = (c : Int) ∧ c = ch + 1 := ⟨ch + 1, by omega, rfl⟩
          clear hcd
          have HC : Hid (c = if 2 * root + 1 + 1 < hi ∧ ltN d1[F + (2 * root + 1)]! d1[F + (2 * root + 1) + 1]! = true then 2 * root + 2 else 2 * root + 1) := by
            refine (?_ : c = if 2 * root + 1 + 1 < hi ∧ ltN d1[F + (2 * root + 1)]! d1[F + (2 * root + 1) + 1]! = true then 2 * root + 2 else 2 * root + 1)
            rw [← CH.out, HX.out, HY.out, hl, if_pos ⟨h2, rfl⟩]; omega
          clear hl HX HY
          obtain ⟨x1, y1⟩ := Us.cell UU.out (F + root) (by omega)
          obtain ⟨x2, y2⟩ := Us.cell UU.out (F + c) (by omega)
          have p1 : (F : Int) + (root : Int) < (n : Int) := by omega
          have p2 : (F : Int) + (c : Int) < (n : Int) := by omega
          have p3 : (0 : Int) ≤ (F : Int) + (root : Int) := by omega
          have p4 : (0 : Int) ≤ (F : Int) + (c : Int) := by omega
          generalize hx : d1[F + root]! = xv at *
          generalize hy : d1[F + c]! = yv at *
          have HX : Hid (d1[F + root]! = xv) := hx
          have HY : Hid (d1[F + c]! = yv) := hy
          clear hx hy
          go_wp2_with fail
          go_quiet (first | (go_at_call 82; refine Calls.quiet_of_same (less_any _ _ _)))
          rename_i hK
          refine hK _ _ ?_
          have U5 : Us (wq.drewN nq) g d1 := Us.same UU.out rfl
          have B5 : Bg g w (wq.drewN nq) := BB.out.trans (Bg.drewN wq nq)
          obtain ⟨wz, hwz⟩ : ∃ wz, wq.drewN nq = wz := ⟨_, rfl⟩
          rw [hwz] at U5 B5 ⊢
          have HU5 : Hid (Us wz g d1) := U5
          have HB5 : Hid (Bg g w wz) := B5
          clear hwz x1 x2 y1 y2 B5 UU BB
          obtain ⟨x1, y1⟩ := U5.cell (F + root) (by omega)
          obtain ⟨x2, y2⟩ := U5.cell (F + c) (by omega)
          rw [HX.out] at x1
          rw [HY.out] at x2
          clear U5
          cases hl : ltN xv yv
          · have HE : Hid (Sort.siftDown ltN hi F root d1 = d1) := sd_stop d1 h0 HC.out (by rw [HX.out, HY.out]; exact hl)
            clear hl
            go_wp2_with fail
            refine bodyPost_ret (results_none rfl _ _ _) rfl ?_
            refine ⟨rfl, ?_, HB5.out⟩
            rw [← E1.out, HE.out]
            exact HU5.out
          · have HE : Hid (Sort.siftDown ltN hi F root d1 = Sort.siftDown ltN hi F c (Sort.swp d1 (F + root) (F + c))) := sd_go d1 h0 HC.out (by rw [HX.out, HY.out]; exact hl)
            have HW := Us.swp HU5.out (F + root) (F + c)
            rw [HX.out, HY.out] at HW
            have HW1 : Hid _ := HW.1
            have HW2 : Hid _ := HW.2
            clear hl HW
            go_wp2_with fail
            go_region
            go_wp2_with fail
            go_roundw
            case rel => exact ⟨c, Sort.swp d1 (F + root) (F + c), rfl, by omega, HW1.out, by rw [swp_sz]; exact hs1, by rw [← HE.out]; exact E1.out, (HB5.out.trans HW2.out).trans (Bg.drew _)⟩
            case measure => simp [natOf]; omega
      · have q2 : decide ((ch : Int) + 1 < (hi : Int)) = false := by rw [decide_eq_false_iff_not]; omega
        go_wp2_with fail
        go_quiet (fail)
        rename_i hK
        refine hK _ _ ?_
        have UU : Hid (Us (wr.drewN nq) g d1) := Us.same U1.out rfl
        have BB : Hid (Bg g w (wr.drewN nq)) := B1.out.trans (Bg.drewN wr nq)
        obtain ⟨wq, hwq⟩ : ∃ wq, wr.drewN nq = wq := ⟨_, rfl⟩
        rw [hwq] at UU BB ⊢
        clear hwq U1 B1 hK
        revert nq
        intro nq1
        obtain ⟨c, hcc⟩ : ∃ c, c = ch := ⟨ch, rfl⟩
        have HC : Hid (c = if 2 * root + 1 + 1 < hi ∧ ltN d1[F + (2 * root + 1)]! d1[F + (2 * root + 1) + 1]! = true then 2 * root + 2 else 2 * root + 1) := by
          refine (?_ : c = if 2 * root + 1 + 1 < hi ∧ ltN d1[F + (2 * root + 1)]! d1[F + (2 * root + 1) + 1]! = true then 2 * root + 2 else 2 * root + 1)
          rw [← CH.out, if_neg (fun e => h2 e.1)]; exact hcc
        subst hcc
        obtain ⟨x1, y1⟩ := Us.cell UU.out (F + root) (by omega)
        obtain ⟨x2, y2⟩ := Us.cell UU.out (F + c) (by omega)
        have p1 : (F : Int) + (root : Int) < (n : Int) := by omega
        have p2 : (F : Int) + (c : Int) < (n : Int) := by omega
        have p3 : (0 : Int) ≤ (F : Int) + (root : Int) := by omega
        have p4 : (0 : Int) ≤ (F : Int) + (c : Int) := by omega
        generalize hx : d1[F + root]! = xv at *
        generalize hy : d1[F + c]! = yv at *
        have HX : Hid (d1[F + root]! = xv) := hx
        have HY : Hid (d1[F + c]! = yv) := hy
        clear hx hy
        go_wp2_with fail
        go_quiet (first | (go_at_call 82; refine Calls.quiet_of_same (less_any _ _ _)))
        rename_i hK
        refine hK _ _ ?_
        have U5 : Us (wq.drewN nq) g d1 := Us.same UU.out rfl
        have B5 : Bg g w (wq.drewN nq) := BB.out.trans (Bg.drewN wq nq)
        obtain ⟨wz, hwz⟩ : ∃ wz, wq.drewN nq = wz := ⟨_, rfl⟩
        rw [hwz] at U5 B5 ⊢
        have HU5 : Hid (Us wz g d1) := U5
        have HB5 : Hid (Bg g w wz) := B5
        clear hwz x1 x2 y1 y2 B5 UU BB
        obtain ⟨x1, y1⟩ := U5.cell (F + root) (by omega)
        obtain ⟨x2, y2⟩ := U5.cell (F + c) (by omega)
        rw [HX.out] at x1
        rw [HY.out] at x2
        clear U5
        cases hl : ltN xv yv
        · have HE : Hid (Sort.siftDown ltN hi F root d1 = d1) := sd_stop d1 h0 HC.out (by rw [HX.out, HY.out]; exact hl)
          clear hl
          go_wp2_with fail
          refine bodyPost_ret (results_none rfl _ _ _) rfl ?_
          refine ⟨rfl, ?_, HB5.out⟩
          rw [← E1.out, HE.out]
          exact HU5.out
        · have HE : Hid (Sort.siftDown ltN hi F root d1 = Sort.siftDown ltN hi F c (Sort.swp d1 (F + root) (F + c))) := sd_go d1 h0 HC.out (by rw [HX.out, HY.out]; exact hl)
          have HW := Us.swp HU5.out (F + root) (F + c)
          rw [HX.out, HY.out] at HW
          have HW1 : Hid _ := HW.1
          have HW2 : Hid _ := HW.2
          clear hl HW
          go_wp2_with fail
          go_region
          go_wp2_with fail
          go_roundw
          case rel => exact ⟨c, Sort.swp d1 (F + root) (F + c), rfl, by omega, HW1.out, by rw [swp_sz]; exact hs1, by rw [← HE.out]; exact E1.out, (HB5.out.trans HW2.out).trans (Bg.drew _)⟩
          case measure => simp [natOf]; omega
    · have q1 : (hi : Int) ≤ (ch : Int) := by omega
      go_wp2_with fail
      refine bodyPost_end (results_none rfl _ _ _) rfl ?_
      refine ⟨rfl, ?_, B1.out⟩
      rw [← E1.out, sd_end d1 (by omega)]
      exact U1.out
end Go.Proofs.Ytkpfnepbnaekoaa.Rd
