/- The sort beyond twelve: pdqsort; thirty. -/
import Derived.Test.YtkpfnepbnaekoaaPSJ
namespace Go.Proofs.Ytkpfnepbnaekoaa.Rd
open Go.RowKit
/-- pdqsort's word. -/
def PdqW (g a b : Nat) (d : Array Nat) (w : World) (e : Ending) (w' : World) : Prop := e = .returned (.tuple #[]) ∧ (∃ d', Sort.PermIn a b d d' ∧ Sort.SortedIn ltN a b d' ∧ Us w' g d') ∧ Bg g w w'
set_option maxRecDepth 100000 in
theorem blen30 : ∀ n : Fin 31, Lib.bitLen n.val ≤ 1000 := by decide
set_option maxRecDepth 100000 in
set_option maxHeartbeats 16000000 in
theorem pdq_round (g cap n : Nat) (hn30 : n ≤ 30) (z : Nat) (ih : ∀ (a b : Nat) (d : Array Nat) (l : Nat) (w : World), b - a < z → a ≤ b → b ≤ n → d.size = n → l ≤ 1000 → Sort.Below ltN a b d → Us w g d →
    Calls Try.prog 74 #[.slice (some ⟨g, 0, none⟩) n cap, .int .i64 (a : Int), .int .i64 (b : Int), .int .i64 (l : Int)] w fun e w' => PdqW g a b d w e w')
    (a b : Nat) (d : Array Nat) (l : Nat) (w : World) (hz : b - a ≤ z) (hab : a ≤ b) (hbn : b ≤ n) (hdn : d.size = n) (hl : l ≤ 1000) (hbe : Sort.Below ltN a b d) (h : Us w g d) :
    Calls Try.prog 74 #[.slice (some ⟨g, 0, none⟩) n cap, .int .i64 (a : Int), .int .i64 (b : Int), .int .i64 (l : Int)] w fun e w' => PdqW g a b d w e w' := by
  have HU : Hid (Us w g d) := h
  have HBE : Hid (Sort.Below ltN a b d) := hbe
  clear h hbe
  go_enter Try.func74, Try.ntmps74
  go_wp2_with fail
  go_loopw [1, 2, 3, 8, 9] (fun av bv lv wbv wpv wr => ∃ (a1 b1 l1 : Nat) (wb wp : Bool) (d1 : Array Nat), av = .int .i64 (a1 : Int) ∧ bv = .int .i64 (b1 : Int) ∧ lv = .int .i64 (l1 : Int) ∧ wbv = .bool wb ∧ wpv = .bool wp ∧ a ≤ a1 ∧ a1 ≤ b1 ∧ b1 ≤ b ∧ l1 ≤ 1000 ∧ d1.size = n ∧ Rest a b d a1 b1 d1 ∧ Sort.Below ltN a1 b1 d1 ∧ Us wr g d1 ∧ Bg g w wr) (fun av bv _ _ _ _ => natOf bv - natOf av)
  case atStart => exact ⟨a, b, l, true, true, d, rfl, rfl, rfl, rfl, rfl, by omega, by omega, by omega, hl, hdn, Rest.refl _ _ _, HBE.out, HU.out, But.refl _ _⟩
  case round =>
    obtain ⟨a1, b1, l1, wb, wp, d1, rfl, rfl, rfl, rfl, rfl, haa, hab1, hbb, hl1, hs1, hrs, hbe, hu, hbg⟩ := hrel
    have RS : Hid (Rest a b d a1 b1 d1) := hrs
    have BE : Hid (Sort.Below ltN a1 b1 d1) := hbe
    have U1 : Hid (Us wr g d1) := hu
    have B1 : Hid (Bg g w wr) := hbg
    clear hrs hbe hu hbg HU HBE
    obtain ⟨len, hlen⟩ : ∃ len : Nat, (b1 : Int) - (a1 : Int) = (len : Int) := ⟨b1 - a1, by omega⟩
    by_cases h12 : len ≤ 12
    · have q1 : (len : Int) ≤ 12 := by omega
      go_wp2_with fail
      have hin := insertion_any g cap a1 b1 d1 (by omega) (by omega) (by omega) wr U1.out
      rw [hs1] at hin
      refine hin.mono ?_
      clear hin
      rintro e w2 ⟨rfl, u2, b2⟩
      obtain ⟨k1, k2⟩ := Sort.insertionSort_holds (lt := ltN) swoN d1 a1 b1 (by omega) (by omega)
      have KK : Hid (Sort.PermIn a b d _ ∧ Sort.SortedIn ltN a b _) := RS.out _ k1 k2
      have U2 : Hid (Us w2 g (Sort.insertionSort ltN d1 a1 b1)) := u2
      have B2 : Hid (Bg g w w2) := B1.out.trans b2
      clear u2 b2 k1 k2
      go_wp2_with fail
      refine bodyPost_ret (results_none rfl _ _ _) rfl ?_
      exact ⟨rfl, ⟨_, KK.out.1, KK.out.2, U2.out⟩, B2.out⟩
    · have q1 : ¬ (len : Int) ≤ 12 := by omega
      by_cases hl0 : l1 = 0
      · subst hl0
        have hl0' : (((0 : Nat) : Int)) = 0 := rfl
        rw [hl0']
        clear hl0'
        go_wp2_with fail
        have hin := heap_any g cap a1 b1 d1 (by omega) (by omega) (by omega) wr U1.out
        rw [hs1] at hin
        refine hin.mono ?_
        clear hin
        rintro e w2 ⟨rfl, u2, b2⟩
        obtain ⟨k1, k2⟩ := Sort.heapSort_holds (lt := ltN) swoN d1 a1 b1 (by omega) (by omega)
        have KK : Hid (Sort.PermIn a b d _ ∧ Sort.SortedIn ltN a b _) := RS.out _ k1 k2
        have U2 : Hid (Us w2 g (Sort.heapSort ltN d1 a1 b1)) := u2
        have B2 : Hid (Bg g w w2) := B1.out.trans b2
        clear u2 b2 k1 k2
        go_wp2_with fail
        refine bodyPost_ret (results_none rfl _ _ _) rfl ?_
        exact ⟨rfl, ⟨_, KK.out.1, KK.out.2, U2.out⟩, B2.out⟩
      · have q2 : ((l1 : Int) == 0) = false := by simp; omega
        cases wb
        · obtain ⟨l2, hl2, hl3⟩ : ∃ l2 : Nat, (l1 : Int) - 1 = (l2 : Int) ∧ l2 ≤ 1000 := ⟨l1 - 1, by omega, by omega⟩
          go_wp2_with fail
          have hin := break_any g cap a1 b1 d1 (by omega) (by omega) (by omega) wr U1.out
          rw [hs1] at hin
          refine hin.mono ?_
          clear hin
          rintro e w4 ⟨rfl, ⟨d2, hp2, u2⟩, b2⟩
          have hs2 : d2.size = n := by rw [hp2.1]; exact hs1
          have U2 : Hid (Us w4 g d2) := u2
          have B2 : Hid (Bg g w w4) := B1.out.trans b2
          have RS2 : Hid (Rest a b d a1 b1 d2) := RS.out.trans (Rest.perm hp2)
          have BE2 : Hid (Sort.Below ltN a1 b1 d2) := Sort.Below.perm BE.out (by omega) hp2
          clear u2 b2 hp2 RS BE U1 B1
          have RS : Hid (Rest a b d a1 b1 d2) := RS2.out
          have BE : Hid (Sort.Below ltN a1 b1 d2) := BE2.out
          clear RS2 BE2
          go_wp2_with fail
          as_aux_lemma =>
            have hch := choose_any g cap a1 b1 d2 (by omega) (by omega) (by omega) w4 U2.out
            rw [hs2] at hch
            refine hch.mono ?_
            clear hch
            rintro e w5 ⟨⟨pv0, t0, rfl, hpa, hpb, ht0⟩, b5⟩
            have U5 : Hid (Us w5 g d2) := U2.out.same (b5.block g U2.out.lt)
            have B5 : Hid (Bg g w w5) := B2.out.trans (But.of_below b5)
            clear b5 U2 B2
            by_cases ht2 : t0 = 2
            · subst ht2
              have ht2' : (((2 : Nat) : Int)) = 2 := rfl
              rw [ht2']
              clear ht2'
              obtain ⟨pv, hpv, hpv1, hpv2⟩ : ∃ pv : Nat, (b1 : Int) - 1 - ((pv0 : Int) - (a1 : Int)) = (pv : Int) ∧ a1 ≤ pv ∧ pv < b1 := ⟨b1 - 1 - (pv0 - a1), by omega, by omega, by omega⟩
              go_wp2_with fail
              have hrv := reverse_any g cap a1 b1 d2 (by omega) (by omega) (by omega) w5 U5.out
              rw [hs2] at hrv
              refine hrv.mono ?_
              clear hrv
              rintro e w6 ⟨rfl, ⟨d3, hp3, u6⟩, b6⟩
              have hs3 : d3.size = n := by rw [hp3.1]; exact hs2
              have U3 : Hid (Us w6 g d3) := u6
              have B3 : Hid (Bg g w w6) := B5.out.trans b6
              have RS3 : Hid (Rest a b d a1 b1 d3) := RS.out.trans (Rest.perm hp3)
              have BE3 : Hid (Sort.Below ltN a1 b1 d3) := Sort.Below.perm BE.out (by omega) hp3
              clear u6 b6 hp3 RS BE U5 B5
              have RS : Hid (Rest a b d a1 b1 d3) := RS3.out
              have BE : Hid (Sort.Below ltN a1 b1 d3) := BE3.out
              clear RS3 BE3
              go_wp2_with fail
              by_cases ha0 : 0 < a1
              · have q5 : (0 : Int) < (a1 : Int) := by omega
                obtain ⟨ap, hap⟩ : ∃ ap : Nat, (a1 : Int) - 1 = (ap : Int) := ⟨a1 - 1, by omega⟩
                obtain ⟨x1, y1⟩ := U3.out.cell ap (by omega)
                obtain ⟨x2, y2⟩ := U3.out.cell pv (by omega)
                have p1 : (ap : Int) < (n : Int) := by omega
                have p2 : (pv : Int) < (n : Int) := by omega
                have p3 : (0 : Int) ≤ (ap : Int) := by omega
                have p4 : (0 : Int) ≤ (pv : Int) := by omega
                generalize hx : d3[ap]! = xv at *
                generalize hy : d3[pv]! = yv at *
                have HX : Hid (d3[ap]! = xv) := hx
                have HY : Hid (d3[pv]! = yv) := hy
                clear hx hy
                go_wp2_with fail
                go_quiet (first | (go_at_call 82; refine Calls.quiet_of_same (less_any _ _ _)))
                rename_i hK
                refine hK _ _ ?_
                have U3' : Hid (Us (w6.drewN nq) g d3) := Us.same U3.out rfl
                have B3' : Hid (Bg g w (w6.drewN nq)) := B3.out.trans (Bg.drewN w6 nq)
                obtain ⟨WY, hWY⟩ : ∃ WY, w6.drewN nq = WY := ⟨_, rfl⟩
                rw [hWY] at U3' B3' ⊢
                clear hWY hK U3 B3 x1 x2 y1 y2
                revert nq
                intro nq1
                have U3 : Hid (Us WY g d3) := U3'.out
                have B3 : Hid (Bg g w WY) := B3'.out
                clear U3' B3'
                cases hl2 : ltN xv yv
                · have hnl : ltN d3[a1 - 1]! d3[pv]! = false := by rw [show a1 - 1 = ap by omega, HX.out, HY.out]; exact hl2
                  have HNL : Hid _ := hnl
                  clear hl2 hnl
                  go_wp2_with fail
                  have hpa := parteq_any g cap a1 b1 pv d3 hpv1 hpv2 (by omega) (by omega) WY U3.out
                  rw [hs3] at hpa
                  refine hpa.mono ?_
                  clear hpa
                  rintro e w8 ⟨mid, d4, rfl, hpm, hpt, u8, b8⟩
                  obtain ⟨k1, k2, k3, k4, k5⟩ := rest_eq ha0 hpv2 hpv1 (by omega) BE.out HNL.out hpm hpt
                  have U8 : Hid (Us w8 g d4) := u8
                  have B8 : Hid (Bg g w w8) := B3.out.trans b8
                  have RS8 : Hid (Rest a b d mid b1 d4) := RS.out.trans k5
                  have BE8 : Hid (Sort.Below ltN mid b1 d4) := k4
                  have hz4 : d4.size = n := by rw [k3]; exact hs3
                  clear hpm hpt u8 b8 k3 k4 k5 U3 B3 RS BE
                  go_wp2_with fail
                  go_roundw
                  case rel => exact ⟨mid, b1, l2, _, _, d4, rfl, rfl, rfl, rfl, rfl, by omega, by omega, by omega, by omega, hz4, RS8.out, BE8.out, U8.out, B8.out⟩
                  case measure => simp [natOf]; omega
                · clear hl2
                  go_wp2_with fail
                  have hpa := part_any g cap a1 b1 pv d3 hpv1 hpv2 (by omega) (by omega) WY U3.out
                  rw [hs3] at hpa
                  refine hpa.mono ?_
                  clear hpa
                  rintro e w8 ⟨m, d4, r, rfl, hok, u8, b8⟩
                  obtain ⟨hz4, hba, hbb, hL, hR⟩ := rest_part (by omega) BE.out hok
                  have am := hok.am
                  have mb := hok.mb
                  have U8 : Hid (Us w8 g d4) := u8
                  have B8 : Hid (Bg g w w8) := B3.out.trans b8
                  have HL : Hid _ := hL
                  have HR : Hid _ := hR
                  have HBA : Hid (Sort.Below ltN a1 m d4) := hba
                  have HBB : Hid (Sort.Below ltN (m + 1) b1 d4) := hbb
                  have hs4 : d4.size = n := by rw [hz4]; exact hs3
                  clear hok u8 b8 hL hR hba hbb hz4 U3 B3 BE
                  obtain ⟨ll, hll⟩ : ∃ ll : Nat, (m : Int) - (a1 : Int) = (ll : Int) := ⟨m - a1, by omega⟩
                  obtain ⟨lr, hlr⟩ : ∃ lr : Nat, (b1 : Int) - (m : Int) = (lr : Int) := ⟨b1 - m, by omega⟩
                  obtain ⟨m1, hm1⟩ : ∃ m1 : Nat, (m : Int) + 1 = (m1 : Int) := ⟨m + 1, by omega⟩
                  have HM1 : Hid (m1 = m + 1) := by refine (?_ : m1 = m + 1); omega
                  by_cases hlt : ll < lr
                  · have q9 : (ll : Int) < (lr : Int) := by omega
                    go_wp2_with fail
                    have hrec := ih a1 m d4 l2 w8 (by omega) (by omega) (by omega) hs4 (by omega) HBA.out U8.out
                    refine hrec.mono ?_
                    clear hrec
                    rintro e w9 ⟨rfl, ⟨d5, hp5, hs5, u9⟩, b9⟩
                    obtain ⟨hb5, hr5⟩ := HL.out d5 hp5 hs5
                    have hz5 : d5.size = n := by rw [hp5.1]; exact hs4
                    have U9 : Hid (Us w9 g d5) := u9
                    have B9 : Hid (Bg g w w9) := B8.out.trans b9
                    have RS9 : Hid (Rest a b d m1 b1 d5) := by
                      refine (?_ : Rest a b d m1 b1 d5)
                      rw [HM1.out]; exact RS.out.trans hr5
                    have BE9 : Hid (Sort.Below ltN m1 b1 d5) := by
                      refine (?_ : Sort.Below ltN m1 b1 d5)
                      rw [HM1.out]; exact hb5
                    clear hp5 hs5 u9 b9 hb5 hr5 HL HR HBA HBB U8 B8 RS
                    go_wp2_with fail
                    go_roundw
                    case rel => exact ⟨m1, b1, l2, _, _, d5, rfl, rfl, rfl, rfl, rfl, by omega, by omega, by omega, by omega, hz5, RS9.out, BE9.out, U9.out, B9.out⟩
                    case measure => simp [natOf]; omega
                  · have q9 : ¬ (ll : Int) < (lr : Int) := by omega
                    go_wp2_with fail
                    have hrec := ih m1 b1 d4 l2 w8 (by omega) (by omega) (by omega) hs4 (by omega) (by rw [HM1.out]; exact HBB.out) U8.out
                    refine hrec.mono ?_
                    clear hrec
                    rintro e w9 ⟨rfl, ⟨d5, hp5, hs5, u9⟩, b9⟩
                    rw [HM1.out] at hp5 hs5
                    obtain ⟨hb5, hr5⟩ := HR.out d5 hp5 hs5
                    have hz5 : d5.size = n := by rw [hp5.1]; exact hs4
                    have U9 : Hid (Us w9 g d5) := u9
                    have B9 : Hid (Bg g w w9) := B8.out.trans b9
                    have RS9 : Hid (Rest a b d a1 m d5) := RS.out.trans hr5
                    have BE9 : Hid (Sort.Below ltN a1 m d5) := hb5
                    clear hp5 hs5 u9 b9 hb5 hr5 HL HR HBA HBB U8 B8 RS
                    go_wp2_with fail
                    go_roundw
                    case rel => exact ⟨a1, m, l2, _, _, d5, rfl, rfl, rfl, rfl, rfl, by omega, by omega, by omega, by omega, hz5, RS9.out, BE9.out, U9.out, B9.out⟩
                    case measure => simp [natOf]; omega
              · have q5 : decide ((0 : Int) < (a1 : Int)) = false := by rw [decide_eq_false_iff_not]; omega
                go_wp2_with fail
                go_quiet (fail)
                rename_i hK
                refine hK _ _ ?_
                have U3' : Hid (Us (w6.drewN nq) g d3) := Us.same U3.out rfl
                have B3' : Hid (Bg g w (w6.drewN nq)) := B3.out.trans (Bg.drewN w6 nq)
                obtain ⟨WY, hWY⟩ : ∃ WY, w6.drewN nq = WY := ⟨_, rfl⟩
                rw [hWY] at U3' B3' ⊢
                clear hWY hK U3 B3
                revert nq
                intro nq1
                have U3 : Hid (Us WY g d3) := U3'.out
                have B3 : Hid (Bg g w WY) := B3'.out
                clear U3' B3'
                go_wp2_with fail
                have hpa := part_any g cap a1 b1 pv d3 hpv1 hpv2 (by omega) (by omega) WY U3.out
                rw [hs3] at hpa
                refine hpa.mono ?_
                clear hpa
                rintro e w8 ⟨m, d4, r, rfl, hok, u8, b8⟩
                obtain ⟨hz4, hba, hbb, hL, hR⟩ := rest_part (by omega) BE.out hok
                have am := hok.am
                have mb := hok.mb
                have U8 : Hid (Us w8 g d4) := u8
                have B8 : Hid (Bg g w w8) := B3.out.trans b8
                have HL : Hid _ := hL
                have HR : Hid _ := hR
                have HBA : Hid (Sort.Below ltN a1 m d4) := hba
                have HBB : Hid (Sort.Below ltN (m + 1) b1 d4) := hbb
                have hs4 : d4.size = n := by rw [hz4]; exact hs3
                clear hok u8 b8 hL hR hba hbb hz4 U3 B3 BE
                obtain ⟨ll, hll⟩ : ∃ ll : Nat, (m : Int) - (a1 : Int) = (ll : Int) := ⟨m - a1, by omega⟩
                obtain ⟨lr, hlr⟩ : ∃ lr : Nat, (b1 : Int) - (m : Int) = (lr : Int) := ⟨b1 - m, by omega⟩
                obtain ⟨m1, hm1⟩ : ∃ m1 : Nat, (m : Int) + 1 = (m1 : Int) := ⟨m + 1, by omega⟩
                have HM1 : Hid (m1 = m + 1) := by refine (?_ : m1 = m + 1); omega
                by_cases hlt : ll < lr
                · have q9 : (ll : Int) < (lr : Int) := by omega
                  go_wp2_with fail
                  have hrec := ih a1 m d4 l2 w8 (by omega) (by omega) (by omega) hs4 (by omega) HBA.out U8.out
                  refine hrec.mono ?_
                  clear hrec
                  rintro e w9 ⟨rfl, ⟨d5, hp5, hs5, u9⟩, b9⟩
                  obtain ⟨hb5, hr5⟩ := HL.out d5 hp5 hs5
                  have hz5 : d5.size = n := by rw [hp5.1]; exact hs4
                  have U9 : Hid (Us w9 g d5) := u9
                  have B9 : Hid (Bg g w w9) := B8.out.trans b9
                  have RS9 : Hid (Rest a b d m1 b1 d5) := by
                    refine (?_ : Rest a b d m1 b1 d5)
                    rw [HM1.out]; exact RS.out.trans hr5
                  have BE9 : Hid (Sort.Below ltN m1 b1 d5) := by
                    refine (?_ : Sort.Below ltN m1 b1 d5)
                    rw [HM1.out]; exact hb5
                  clear hp5 hs5 u9 b9 hb5 hr5 HL HR HBA HBB U8 B8 RS
                  go_wp2_with fail
                  go_roundw
                  case rel => exact ⟨m1, b1, l2, _, _, d5, rfl, rfl, rfl, rfl, rfl, by omega, by omega, by omega, by omega, hz5, RS9.out, BE9.out, U9.out, B9.out⟩
                  case measure => simp [natOf]; omega
                · have q9 : ¬ (ll : Int) < (lr : Int) := by omega
                  go_wp2_with fail
                  have hrec := ih m1 b1 d4 l2 w8 (by omega) (by omega) (by omega) hs4 (by omega) (by rw [HM1.out]; exact HBB.out) U8.out
                  refine hrec.mono ?_
                  clear hrec
                  rintro e w9 ⟨rfl, ⟨d5, hp5, hs5, u9⟩, b9⟩
                  rw [HM1.out] at hp5 hs5
                  obtain ⟨hb5, hr5⟩ := HR.out d5 hp5 hs5
                  have hz5 : d5.size = n := by rw [hp5.1]; exact hs4
                  have U9 : Hid (Us w9 g d5) := u9
                  have B9 : Hid (Bg g w w9) := B8.out.trans b9
                  have RS9 : Hid (Rest a b d a1 m d5) := RS.out.trans hr5
                  have BE9 : Hid (Sort.Below ltN a1 m d5) := hb5
                  clear hp5 hs5 u9 b9 hb5 hr5 HL HR HBA HBB U8 B8 RS
                  go_wp2_with fail
                  go_roundw
                  case rel => exact ⟨a1, m, l2, _, _, d5, rfl, rfl, rfl, rfl, rfl, by omega, by omega, by omega, by omega, hz5, RS9.out, BE9.out, U9.out, B9.out⟩
                  case measure => simp [natOf]; omega
            · obtain ⟨pv, hpv⟩ : ∃ pv, pv0 = pv := ⟨_, rfl⟩
              subst hpv
              have hpv1 := hpa
              have hpv2 := hpb
              obtain ⟨d3, hd3⟩ : ∃ d3, d2 = d3 := ⟨_, rfl⟩
              subst hd3
              have hs3 := hs2
              have U3 : Hid (Us w5 g d2) := U5.out
              have B3 : Hid (Bg g w w5) := B5.out
              clear U5 B5
              have ht2' : ((t0 : Int) == 2) = false := by simp; omega
              go_wp2_with fail
              by_cases ha0 : 0 < a1
              · have q5 : (0 : Int) < (a1 : Int) := by omega
                obtain ⟨ap, hap⟩ : ∃ ap : Nat, (a1 : Int) - 1 = (ap : Int) := ⟨a1 - 1, by omega⟩
                obtain ⟨x1, y1⟩ := U3.out.cell ap (by omega)
                obtain ⟨x2, y2⟩ := U3.out.cell pv0 (by omega)
                have p1 : (ap : Int) < (n : Int) := by omega
                have p2 : (pv0 : Int) < (n : Int) := by omega
                have p3 : (0 : Int) ≤ (ap : Int) := by omega
                have p4 : (0 : Int) ≤ (pv0 : Int) := by omega
                generalize hx : d2[ap]! = xv at *
                generalize hy : d2[pv0]! = yv at *
                have HX : Hid (d2[ap]! = xv) := hx
                have HY : Hid (d2[pv0]! = yv) := hy
                clear hx hy
                go_wp2_with fail
                go_quiet (first | (go_at_call 82; refine Calls.quiet_of_same (less_any _ _ _)))
                rename_i hK
                refine hK _ _ ?_
                have U3' : Hid (Us (w5.drewN nq) g d2) := Us.same U3.out rfl
                have B3' : Hid (Bg g w (w5.drewN nq)) := B3.out.trans (Bg.drewN w5 nq)
                obtain ⟨WY, hWY⟩ : ∃ WY, w5.drewN nq = WY := ⟨_, rfl⟩
                rw [hWY] at U3' B3' ⊢
                clear hWY hK U3 B3 x1 x2 y1 y2
                revert nq
                intro nq1
                have U3 : Hid (Us WY g d2) := U3'.out
                have B3 : Hid (Bg g w WY) := B3'.out
                clear U3' B3'
                cases hl2 : ltN xv yv
                · have hnl : ltN d2[a1 - 1]! d2[pv0]! = false := by rw [show a1 - 1 = ap by omega, HX.out, HY.out]; exact hl2
                  have HNL : Hid _ := hnl
                  clear hl2 hnl
                  go_wp2_with fail
                  have hpa := parteq_any g cap a1 b1 pv0 d2 hpv1 hpv2 (by omega) (by omega) WY U3.out
                  rw [hs3] at hpa
                  refine hpa.mono ?_
                  clear hpa
                  rintro e w8 ⟨mid, d4, rfl, hpm, hpt, u8, b8⟩
                  obtain ⟨k1, k2, k3, k4, k5⟩ := rest_eq ha0 hpv2 hpv1 (by omega) BE.out HNL.out hpm hpt
                  have U8 : Hid (Us w8 g d4) := u8
                  have B8 : Hid (Bg g w w8) := B3.out.trans b8
                  have RS8 : Hid (Rest a b d mid b1 d4) := RS.out.trans k5
                  have BE8 : Hid (Sort.Below ltN mid b1 d4) := k4
                  have hz4 : d4.size = n := by rw [k3]; exact hs3
                  clear hpm hpt u8 b8 k3 k4 k5 U3 B3 RS BE
                  go_wp2_with fail
                  go_roundw
                  case rel => exact ⟨mid, b1, l2, _, _, d4, rfl, rfl, rfl, rfl, rfl, by omega, by omega, by omega, by omega, hz4, RS8.out, BE8.out, U8.out, B8.out⟩
                  case measure => simp [natOf]; omega
                · clear hl2
                  go_wp2_with fail
                  have hpa := part_any g cap a1 b1 pv0 d2 hpv1 hpv2 (by omega) (by omega) WY U3.out
                  rw [hs3] at hpa
                  refine hpa.mono ?_
                  clear hpa
                  rintro e w8 ⟨m, d4, r, rfl, hok, u8, b8⟩
                  obtain ⟨hz4, hba, hbb, hL, hR⟩ := rest_part (by omega) BE.out hok
                  have am := hok.am
                  have mb := hok.mb
                  have U8 : Hid (Us w8 g d4) := u8
                  have B8 : Hid (Bg g w w8) := B3.out.trans b8
                  have HL : Hid _ := hL
                  have HR : Hid _ := hR
                  have HBA : Hid (Sort.Below ltN a1 m d4) := hba
                  have HBB : Hid (Sort.Below ltN (m + 1) b1 d4) := hbb
                  have hs4 : d4.size = n := by rw [hz4]; exact hs3
                  clear hok u8 b8 hL hR hba hbb hz4 U3 B3 BE
                  obtain ⟨ll, hll⟩ : ∃ ll : Nat, (m : Int) - (a1 : Int) = (ll : Int) := ⟨m - a1, by omega⟩
                  obtain ⟨lr, hlr⟩ : ∃ lr : Nat, (b1 : Int) - (m : Int) = (lr : Int) := ⟨b1 - m, by omega⟩
                  obtain ⟨m1, hm1⟩ : ∃ m1 : Nat, (m : Int) + 1 = (m1 : Int) := ⟨m + 1, by omega⟩
                  have HM1 : Hid (m1 = m + 1) := by refine (?_ : m1 = m + 1); omega
                  by_cases hlt : ll < lr
                  · have q9 : (ll : Int) < (lr : Int) := by omega
                    go_wp2_with fail
                    have hrec := ih a1 m d4 l2 w8 (by omega) (by omega) (by omega) hs4 (by omega) HBA.out U8.out
                    refine hrec.mono ?_
                    clear hrec
                    rintro e w9 ⟨rfl, ⟨d5, hp5, hs5, u9⟩, b9⟩
                    obtain ⟨hb5, hr5⟩ := HL.out d5 hp5 hs5
                    have hz5 : d5.size = n := by rw [hp5.1]; exact hs4
                    have U9 : Hid (Us w9 g d5) := u9
                    have B9 : Hid (Bg g w w9) := B8.out.trans b9
                    have RS9 : Hid (Rest a b d m1 b1 d5) := by
                      refine (?_ : Rest a b d m1 b1 d5)
                      rw [HM1.out]; exact RS.out.trans hr5
                    have BE9 : Hid (Sort.Below ltN m1 b1 d5) := by
                      refine (?_ : Sort.Below ltN m1 b1 d5)
                      rw [HM1.out]; exact hb5
                    clear hp5 hs5 u9 b9 hb5 hr5 HL HR HBA HBB U8 B8 RS
                    go_wp2_with fail
                    go_roundw
                    case rel => exact ⟨m1, b1, l2, _, _, d5, rfl, rfl, rfl, rfl, rfl, by omega, by omega, by omega, by omega, hz5, RS9.out, BE9.out, U9.out, B9.out⟩
                    case measure => simp [natOf]; omega
                  · have q9 : ¬ (ll : Int) < (lr : Int) := by omega
                    go_wp2_with fail
                    have hrec := ih m1 b1 d4 l2 w8 (by omega) (by omega) (by omega) hs4 (by omega) (by rw [HM1.out]; exact HBB.out) U8.out
                    refine hrec.mono ?_
                    clear hrec
                    rintro e w9 ⟨rfl, ⟨d5, hp5, hs5, u9⟩, b9⟩
                    rw [HM1.out] at hp5 hs5
                    obtain ⟨hb5, hr5⟩ := HR.out d5 hp5 hs5
                    have hz5 : d5.size = n := by rw [hp5.1]; exact hs4
                    have U9 : Hid (Us w9 g d5) := u9
                    have B9 : Hid (Bg g w w9) := B8.out.trans b9
                    have RS9 : Hid (Rest a b d a1 m d5) := RS.out.trans hr5
                    have BE9 : Hid (Sort.Below ltN a1 m d5) := hb5
                    clear hp5 hs5 u9 b9 hb5 hr5 HL HR HBA HBB U8 B8 RS
                    go_wp2_with fail
                    go_roundw
                    case rel => exact ⟨a1, m, l2, _, _, d5, rfl, rfl, rfl, rfl, rfl, by omega, by omega, by omega, by omega, hz5, RS9.out, BE9.out, U9.out, B9.out⟩
                    case measure => simp [natOf]; omega
              · have q5 : decide ((0 : Int) < (a1 : Int)) = false := by rw [decide_eq_false_iff_not]; omega
                go_wp2_with fail
                go_quiet (fail)
                rename_i hK
                refine hK _ _ ?_
                have U3' : Hid (Us (w5.drewN nq) g d2) := Us.same U3.out rfl
                have B3' : Hid (Bg g w (w5.drewN nq)) := B3.out.trans (Bg.drewN w5 nq)
                obtain ⟨WY, hWY⟩ : ∃ WY, w5.drewN nq = WY := ⟨_, rfl⟩
                rw [hWY] at U3' B3' ⊢
                clear hWY hK U3 B3
                revert nq
                intro nq1
                have U3 : Hid (Us WY g d2) := U3'.out
                have B3 : Hid (Bg g w WY) := B3'.out
                clear U3' B3'
                go_wp2_with fail
                have hpa := part_any g cap a1 b1 pv0 d2 hpv1 hpv2 (by omega) (by omega) WY U3.out
                rw [hs3] at hpa
                refine hpa.mono ?_
                clear hpa
                rintro e w8 ⟨m, d4, r, rfl, hok, u8, b8⟩
                obtain ⟨hz4, hba, hbb, hL, hR⟩ := rest_part (by omega) BE.out hok
                have am := hok.am
                have mb := hok.mb
                have U8 : Hid (Us w8 g d4) := u8
                have B8 : Hid (Bg g w w8) := B3.out.trans b8
                have HL : Hid _ := hL
                have HR : Hid _ := hR
                have HBA : Hid (Sort.Below ltN a1 m d4) := hba
                have HBB : Hid (Sort.Below ltN (m + 1) b1 d4) := hbb
                have hs4 : d4.size = n := by rw [hz4]; exact hs3
                clear hok u8 b8 hL hR hba hbb hz4 U3 B3 BE
                obtain ⟨ll, hll⟩ : ∃ ll : Nat, (m : Int) - (a1 : Int) = (ll : Int) := ⟨m - a1, by omega⟩
                obtain ⟨lr, hlr⟩ : ∃ lr : Nat, (b1 : Int) - (m : Int) = (lr : Int) := ⟨b1 - m, by omega⟩
                obtain ⟨m1, hm1⟩ : ∃ m1 : Nat, (m : Int) + 1 = (m1 : Int) := ⟨m + 1, by omega⟩
                have HM1 : Hid (m1 = m + 1) := by refine (?_ : m1 = m + 1); omega
                by_cases hlt : ll < lr
                · have q9 : (ll : Int) < (lr : Int) := by omega
                  go_wp2_with fail
                  have hrec := ih a1 m d4 l2 w8 (by omega) (by omega) (by omega) hs4 (by omega) HBA.out U8.out
                  refine hrec.mono ?_
                  clear hrec
                  rintro e w9 ⟨rfl, ⟨d5, hp5, hs5, u9⟩, b9⟩
                  obtain ⟨hb5, hr5⟩ := HL.out d5 hp5 hs5
                  have hz5 : d5.size = n := by rw [hp5.1]; exact hs4
                  have U9 : Hid (Us w9 g d5) := u9
                  have B9 : Hid (Bg g w w9) := B8.out.trans b9
                  have RS9 : Hid (Rest a b d m1 b1 d5) := by
                    refine (?_ : Rest a b d m1 b1 d5)
                    rw [HM1.out]; exact RS.out.trans hr5
                  have BE9 : Hid (Sort.Below ltN m1 b1 d5) := by
                    refine (?_ : Sort.Below ltN m1 b1 d5)
                    rw [HM1.out]; exact hb5
                  clear hp5 hs5 u9 b9 hb5 hr5 HL HR HBA HBB U8 B8 RS
                  go_wp2_with fail
                  go_roundw
                  case rel => exact ⟨m1, b1, l2, _, _, d5, rfl, rfl, rfl, rfl, rfl, by omega, by omega, by omega, by omega, hz5, RS9.out, BE9.out, U9.out, B9.out⟩
                  case measure => simp [natOf]; omega
                · have q9 : ¬ (ll : Int) < (lr : Int) := by omega
                  go_wp2_with fail
                  have hrec := ih m1 b1 d4 l2 w8 (by omega) (by omega) (by omega) hs4 (by omega) (by rw [HM1.out]; exact HBB.out) U8.out
                  refine hrec.mono ?_
                  clear hrec
                  rintro e w9 ⟨rfl, ⟨d5, hp5, hs5, u9⟩, b9⟩
                  rw [HM1.out] at hp5 hs5
                  obtain ⟨hb5, hr5⟩ := HR.out d5 hp5 hs5
                  have hz5 : d5.size = n := by rw [hp5.1]; exact hs4
                  have U9 : Hid (Us w9 g d5) := u9
                  have B9 : Hid (Bg g w w9) := B8.out.trans b9
                  have RS9 : Hid (Rest a b d a1 m d5) := RS.out.trans hr5
                  have BE9 : Hid (Sort.Below ltN a1 m d5) := hb5
                  clear hp5 hs5 u9 b9 hb5 hr5 HL HR HBA HBB U8 B8 RS
                  go_wp2_with fail
                  go_roundw
                  case rel => exact ⟨a1, m, l2, _, _, d5, rfl, rfl, rfl, rfl, rfl, by omega, by omega, by omega, by omega, hz5, RS9.out, BE9.out, U9.out, B9.out⟩
                  case measure => simp [natOf]; omega
        · obtain ⟨d2, hd2⟩ : ∃ d2, d2 = d1 := ⟨_, rfl⟩
          subst hd2
          have hs2 := hs1
          have U2 : Hid (Us wr g d2) := U1.out
          have B2 : Hid (Bg g w wr) := B1.out
          clear U1 B1
          go_wp2_with fail
          as_aux_lemma =>
            have hch := choose_any g cap a1 b1 d2 (by omega) (by omega) (by omega) wr U2.out
            rw [hs2] at hch
            refine hch.mono ?_
            clear hch
            rintro e w5 ⟨⟨pv0, t0, rfl, hpa, hpb, ht0⟩, b5⟩
            have U5 : Hid (Us w5 g d2) := U2.out.same (b5.block g U2.out.lt)
            have B5 : Hid (Bg g w w5) := B2.out.trans (But.of_below b5)
            clear b5 U2 B2
            by_cases ht2 : t0 = 2
            · subst ht2
              have ht2' : (((2 : Nat) : Int)) = 2 := rfl
              rw [ht2']
              clear ht2'
              obtain ⟨pv, hpv, hpv1, hpv2⟩ : ∃ pv : Nat, (b1 : Int) - 1 - ((pv0 : Int) - (a1 : Int)) = (pv : Int) ∧ a1 ≤ pv ∧ pv < b1 := ⟨b1 - 1 - (pv0 - a1), by omega, by omega, by omega⟩
              go_wp2_with fail
              have hrv := reverse_any g cap a1 b1 d2 (by omega) (by omega) (by omega) w5 U5.out
              rw [hs2] at hrv
              refine hrv.mono ?_
              clear hrv
              rintro e w6 ⟨rfl, ⟨d3, hp3, u6⟩, b6⟩
              have hs3 : d3.size = n := by rw [hp3.1]; exact hs2
              have U3 : Hid (Us w6 g d3) := u6
              have B3 : Hid (Bg g w w6) := B5.out.trans b6
              have RS3 : Hid (Rest a b d a1 b1 d3) := RS.out.trans (Rest.perm hp3)
              have BE3 : Hid (Sort.Below ltN a1 b1 d3) := Sort.Below.perm BE.out (by omega) hp3
              clear u6 b6 hp3 RS BE U5 B5
              have RS : Hid (Rest a b d a1 b1 d3) := RS3.out
              have BE : Hid (Sort.Below ltN a1 b1 d3) := BE3.out
              clear RS3 BE3
              cases wp
              · go_wp2_with fail
                by_cases ha0 : 0 < a1
                · have q5 : (0 : Int) < (a1 : Int) := by omega
                  obtain ⟨ap, hap⟩ : ∃ ap : Nat, (a1 : Int) - 1 = (ap : Int) := ⟨a1 - 1, by omega⟩
                  obtain ⟨x1, y1⟩ := U3.out.cell ap (by omega)
                  obtain ⟨x2, y2⟩ := U3.out.cell pv (by omega)
                  have p1 : (ap : Int) < (n : Int) := by omega
                  have p2 : (pv : Int) < (n : Int) := by omega
                  have p3 : (0 : Int) ≤ (ap : Int) := by omega
                  have p4 : (0 : Int) ≤ (pv : Int) := by omega
                  generalize hx : d3[ap]! = xv at *
                  generalize hy : d3[pv]! = yv at *
                  have HX : Hid (d3[ap]! = xv) := hx
                  have HY : Hid (d3[pv]! = yv) := hy
                  clear hx hy
                  go_wp2_with fail
                  go_quiet (first | (go_at_call 82; refine Calls.quiet_of_same (less_any _ _ _)))
                  rename_i hK
                  refine hK _ _ ?_
                  have U3' : Hid (Us (w6.drewN nq) g d3) := Us.same U3.out rfl
                  have B3' : Hid (Bg g w (w6.drewN nq)) := B3.out.trans (Bg.drewN w6 nq)
                  obtain ⟨WY, hWY⟩ : ∃ WY, w6.drewN nq = WY := ⟨_, rfl⟩
                  rw [hWY] at U3' B3' ⊢
                  clear hWY hK U3 B3 x1 x2 y1 y2
                  revert nq
                  intro nq1
                  have U3 : Hid (Us WY g d3) := U3'.out
                  have B3 : Hid (Bg g w WY) := B3'.out
                  clear U3' B3'
                  cases hl2 : ltN xv yv
                  · have hnl : ltN d3[a1 - 1]! d3[pv]! = false := by rw [show a1 - 1 = ap by omega, HX.out, HY.out]; exact hl2
                    have HNL : Hid _ := hnl
                    clear hl2 hnl
                    go_wp2_with fail
                    have hpa := parteq_any g cap a1 b1 pv d3 hpv1 hpv2 (by omega) (by omega) WY U3.out
                    rw [hs3] at hpa
                    refine hpa.mono ?_
                    clear hpa
                    rintro e w8 ⟨mid, d4, rfl, hpm, hpt, u8, b8⟩
                    obtain ⟨k1, k2, k3, k4, k5⟩ := rest_eq ha0 hpv2 hpv1 (by omega) BE.out HNL.out hpm hpt
                    have U8 : Hid (Us w8 g d4) := u8
                    have B8 : Hid (Bg g w w8) := B3.out.trans b8
                    have RS8 : Hid (Rest a b d mid b1 d4) := RS.out.trans k5
                    have BE8 : Hid (Sort.Below ltN mid b1 d4) := k4
                    have hz4 : d4.size = n := by rw [k3]; exact hs3
                    clear hpm hpt u8 b8 k3 k4 k5 U3 B3 RS BE
                    go_wp2_with fail
                    go_roundw
                    case rel => exact ⟨mid, b1, l1, _, _, d4, rfl, rfl, rfl, rfl, rfl, by omega, by omega, by omega, by omega, hz4, RS8.out, BE8.out, U8.out, B8.out⟩
                    case measure => simp [natOf]; omega
                  · clear hl2
                    go_wp2_with fail
                    have hpa := part_any g cap a1 b1 pv d3 hpv1 hpv2 (by omega) (by omega) WY U3.out
                    rw [hs3] at hpa
                    refine hpa.mono ?_
                    clear hpa
                    rintro e w8 ⟨m, d4, r, rfl, hok, u8, b8⟩
                    obtain ⟨hz4, hba, hbb, hL, hR⟩ := rest_part (by omega) BE.out hok
                    have am := hok.am
                    have mb := hok.mb
                    have U8 : Hid (Us w8 g d4) := u8
                    have B8 : Hid (Bg g w w8) := B3.out.trans b8
                    have HL : Hid _ := hL
                    have HR : Hid _ := hR
                    have HBA : Hid (Sort.Below ltN a1 m d4) := hba
                    have HBB : Hid (Sort.Below ltN (m + 1) b1 d4) := hbb
                    have hs4 : d4.size = n := by rw [hz4]; exact hs3
                    clear hok u8 b8 hL hR hba hbb hz4 U3 B3 BE
                    obtain ⟨ll, hll⟩ : ∃ ll : Nat, (m : Int) - (a1 : Int) = (ll : Int) := ⟨m - a1, by omega⟩
                    obtain ⟨lr, hlr⟩ : ∃ lr : Nat, (b1 : Int) - (m : Int) = (lr : Int) := ⟨b1 - m, by omega⟩
                    obtain ⟨m1, hm1⟩ : ∃ m1 : Nat, (m : Int) + 1 = (m1 : Int) := ⟨m + 1, by omega⟩
                    have HM1 : Hid (m1 = m + 1) := by refine (?_ : m1 = m + 1); omega
                    by_cases hlt : ll < lr
                    · have q9 : (ll : Int) < (lr : Int) := by omega
                      go_wp2_with fail
                      have hrec := ih a1 m d4 l1 w8 (by omega) (by omega) (by omega) hs4 (by omega) HBA.out U8.out
                      refine hrec.mono ?_
                      clear hrec
                      rintro e w9 ⟨rfl, ⟨d5, hp5, hs5, u9⟩, b9⟩
                      obtain ⟨hb5, hr5⟩ := HL.out d5 hp5 hs5
                      have hz5 : d5.size = n := by rw [hp5.1]; exact hs4
                      have U9 : Hid (Us w9 g d5) := u9
                      have B9 : Hid (Bg g w w9) := B8.out.trans b9
                      have RS9 : Hid (Rest a b d m1 b1 d5) := by
                        refine (?_ : Rest a b d m1 b1 d5)
                        rw [HM1.out]; exact RS.out.trans hr5
                      have BE9 : Hid (Sort.Below ltN m1 b1 d5) := by
                        refine (?_ : Sort.Below ltN m1 b1 d5)
                        rw [HM1.out]; exact hb5
                      clear hp5 hs5 u9 b9 hb5 hr5 HL HR HBA HBB U8 B8 RS
                      go_wp2_with fail
                      go_roundw
                      case rel => exact ⟨m1, b1, l1, _, _, d5, rfl, rfl, rfl, rfl, rfl, by omega, by omega, by omega, by omega, hz5, RS9.out, BE9.out, U9.out, B9.out⟩
                      case measure => simp [natOf]; omega
                    · have q9 : ¬ (ll : Int) < (lr : Int) := by omega
                      go_wp2_with fail
                      have hrec := ih m1 b1 d4 l1 w8 (by omega) (by omega) (by omega) hs4 (by omega) (by rw [HM1.out]; exact HBB.out) U8.out
                      refine hrec.mono ?_
                      clear hrec
                      rintro e w9 ⟨rfl, ⟨d5, hp5, hs5, u9⟩, b9⟩
                      rw [HM1.out] at hp5 hs5
                      obtain ⟨hb5, hr5⟩ := HR.out d5 hp5 hs5
                      have hz5 : d5.size = n := by rw [hp5.1]; exact hs4
                      have U9 : Hid (Us w9 g d5) := u9
                      have B9 : Hid (Bg g w w9) := B8.out.trans b9
                      have RS9 : Hid (Rest a b d a1 m d5) := RS.out.trans hr5
                      have BE9 : Hid (Sort.Below ltN a1 m d5) := hb5
                      clear hp5 hs5 u9 b9 hb5 hr5 HL HR HBA HBB U8 B8 RS
                      go_wp2_with fail
                      go_roundw
                      case rel => exact ⟨a1, m, l1, _, _, d5, rfl, rfl, rfl, rfl, rfl, by omega, by omega, by omega, by omega, hz5, RS9.out, BE9.out, U9.out, B9.out⟩
                      case measure => simp [natOf]; omega
                · have q5 : decide ((0 : Int) < (a1 : Int)) = false := by rw [decide_eq_false_iff_not]; omega
                  go_wp2_with fail
                  go_quiet (fail)
                  rename_i hK
                  refine hK _ _ ?_
                  have U3' : Hid (Us (w6.drewN nq) g d3) := Us.same U3.out rfl
                  have B3' : Hid (Bg g w (w6.drewN nq)) := B3.out.trans (Bg.drewN w6 nq)
                  obtain ⟨WY, hWY⟩ : ∃ WY, w6.drewN nq = WY := ⟨_, rfl⟩
                  rw [hWY] at U3' B3' ⊢
                  clear hWY hK U3 B3
                  revert nq
                  intro nq1
                  have U3 : Hid (Us WY g d3) := U3'.out
                  have B3 : Hid (Bg g w WY) := B3'.out
                  clear U3' B3'
                  go_wp2_with fail
                  have hpa := part_any g cap a1 b1 pv d3 hpv1 hpv2 (by omega) (by omega) WY U3.out
                  rw [hs3] at hpa
                  refine hpa.mono ?_
                  clear hpa
                  rintro e w8 ⟨m, d4, r, rfl, hok, u8, b8⟩
                  obtain ⟨hz4, hba, hbb, hL, hR⟩ := rest_part (by omega) BE.out hok
                  have am := hok.am
                  have mb := hok.mb
                  have U8 : Hid (Us w8 g d4) := u8
                  have B8 : Hid (Bg g w w8) := B3.out.trans b8
                  have HL : Hid _ := hL
                  have HR : Hid _ := hR
                  have HBA : Hid (Sort.Below ltN a1 m d4) := hba
                  have HBB : Hid (Sort.Below ltN (m + 1) b1 d4) := hbb
                  have hs4 : d4.size = n := by rw [hz4]; exact hs3
                  clear hok u8 b8 hL hR hba hbb hz4 U3 B3 BE
                  obtain ⟨ll, hll⟩ : ∃ ll : Nat, (m : Int) - (a1 : Int) = (ll : Int) := ⟨m - a1, by omega⟩
                  obtain ⟨lr, hlr⟩ : ∃ lr : Nat, (b1 : Int) - (m : Int) = (lr : Int) := ⟨b1 - m, by omega⟩
                  obtain ⟨m1, hm1⟩ : ∃ m1 : Nat, (m : Int) + 1 = (m1 : Int) := ⟨m + 1, by omega⟩
                  have HM1 : Hid (m1 = m + 1) := by refine (?_ : m1 = m + 1); omega
                  by_cases hlt : ll < lr
                  · have q9 : (ll : Int) < (lr : Int) := by omega
                    go_wp2_with fail
                    have hrec := ih a1 m d4 l1 w8 (by omega) (by omega) (by omega) hs4 (by omega) HBA.out U8.out
                    refine hrec.mono ?_
                    clear hrec
                    rintro e w9 ⟨rfl, ⟨d5, hp5, hs5, u9⟩, b9⟩
                    obtain ⟨hb5, hr5⟩ := HL.out d5 hp5 hs5
                    have hz5 : d5.size = n := by rw [hp5.1]; exact hs4
                    have U9 : Hid (Us w9 g d5) := u9
                    have B9 : Hid (Bg g w w9) := B8.out.trans b9
                    have RS9 : Hid (Rest a b d m1 b1 d5) := by
                      refine (?_ : Rest a b d m1 b1 d5)
                      rw [HM1.out]; exact RS.out.trans hr5
                    have BE9 : Hid (Sort.Below ltN m1 b1 d5) := by
                      refine (?_ : Sort.Below ltN m1 b1 d5)
                      rw [HM1.out]; exact hb5
                    clear hp5 hs5 u9 b9 hb5 hr5 HL HR HBA HBB U8 B8 RS
                    go_wp2_with fail
                    go_roundw
                    case rel => exact ⟨m1, b1, l1, _, _, d5, rfl, rfl, rfl, rfl, rfl, by omega, by omega, by omega, by omega, hz5, RS9.out, BE9.out, U9.out, B9.out⟩
                    case measure => simp [natOf]; omega
                  · have q9 : ¬ (ll : Int) < (lr : Int) := by omega
                    go_wp2_with fail
                    have hrec := ih m1 b1 d4 l1 w8 (by omega) (by omega) (by omega) hs4 (by omega) (by rw [HM1.out]; exact HBB.out) U8.out
                    refine hrec.mono ?_
                    clear hrec
                    rintro e w9 ⟨rfl, ⟨d5, hp5, hs5, u9⟩, b9⟩
                    rw [HM1.out] at hp5 hs5
                    obtain ⟨hb5, hr5⟩ := HR.out d5 hp5 hs5
                    have hz5 : d5.size = n := by rw [hp5.1]; exact hs4
                    have U9 : Hid (Us w9 g d5) := u9
                    have B9 : Hid (Bg g w w9) := B8.out.trans b9
                    have RS9 : Hid (Rest a b d a1 m d5) := RS.out.trans hr5
                    have BE9 : Hid (Sort.Below ltN a1 m d5) := hb5
                    clear hp5 hs5 u9 b9 hb5 hr5 HL HR HBA HBB U8 B8 RS
                    go_wp2_with fail
                    go_roundw
                    case rel => exact ⟨a1, m, l1, _, _, d5, rfl, rfl, rfl, rfl, rfl, by omega, by omega, by omega, by omega, hz5, RS9.out, BE9.out, U9.out, B9.out⟩
                    case measure => simp [natOf]; omega
              · go_wp2_with fail
                have hpi := partial_any g cap a1 b1 d3 (by omega) (by omega) (by omega) w6 U3.out
                rw [hs3] at hpi
                refine hpi.mono ?_
                clear hpi
                rintro e w7 ⟨⟨r7, rfl, hr7⟩, u7, b7⟩
                have U7 : Hid (Us w7 g d3) := u7
                have B7 : Hid (Bg g w w7) := B3.out.trans b7
                clear u7 b7 U3 B3
                cases r7
                · clear hr7
                  have U3 : Hid (Us w7 g d3) := U7.out
                  have B3 : Hid (Bg g w w7) := B7.out
                  clear U7 B7
                  go_wp2_with fail
                  by_cases ha0 : 0 < a1
                  · have q5 : (0 : Int) < (a1 : Int) := by omega
                    obtain ⟨ap, hap⟩ : ∃ ap : Nat, (a1 : Int) - 1 = (ap : Int) := ⟨a1 - 1, by omega⟩
                    obtain ⟨x1, y1⟩ := U3.out.cell ap (by omega)
                    obtain ⟨x2, y2⟩ := U3.out.cell pv (by omega)
                    have p1 : (ap : Int) < (n : Int) := by omega
                    have p2 : (pv : Int) < (n : Int) := by omega
                    have p3 : (0 : Int) ≤ (ap : Int) := by omega
                    have p4 : (0 : Int) ≤ (pv : Int) := by omega
                    generalize hx : d3[ap]! = xv at *
                    generalize hy : d3[pv]! = yv at *
                    have HX : Hid (d3[ap]! = xv) := hx
                    have HY : Hid (d3[pv]! = yv) := hy
                    clear hx hy
                    go_wp2_with fail
                    go_quiet (first | (go_at_call 82; refine Calls.quiet_of_same (less_any _ _ _)))
                    rename_i hK
                    refine hK _ _ ?_
                    have U3' : Hid (Us (w7.drewN nq) g d3) := Us.same U3.out rfl
                    have B3' : Hid (Bg g w (w7.drewN nq)) := B3.out.trans (Bg.drewN w7 nq)
                    obtain ⟨WY, hWY⟩ : ∃ WY, w7.drewN nq = WY := ⟨_, rfl⟩
                    rw [hWY] at U3' B3' ⊢
                    clear hWY hK U3 B3 x1 x2 y1 y2
                    revert nq
                    intro nq1
                    have U3 : Hid (Us WY g d3) := U3'.out
                    have B3 : Hid (Bg g w WY) := B3'.out
                    clear U3' B3'
                    cases hl2 : ltN xv yv
                    · have hnl : ltN d3[a1 - 1]! d3[pv]! = false := by rw [show a1 - 1 = ap by omega, HX.out, HY.out]; exact hl2
                      have HNL : Hid _ := hnl
                      clear hl2 hnl
                      go_wp2_with fail
                      have hpa := parteq_any g cap a1 b1 pv d3 hpv1 hpv2 (by omega) (by omega) WY U3.out
                      rw [hs3] at hpa
                      refine hpa.mono ?_
                      clear hpa
                      rintro e w8 ⟨mid, d4, rfl, hpm, hpt, u8, b8⟩
                      obtain ⟨k1, k2, k3, k4, k5⟩ := rest_eq ha0 hpv2 hpv1 (by omega) BE.out HNL.out hpm hpt
                      have U8 : Hid (Us w8 g d4) := u8
                      have B8 : Hid (Bg g w w8) := B3.out.trans b8
                      have RS8 : Hid (Rest a b d mid b1 d4) := RS.out.trans k5
                      have BE8 : Hid (Sort.Below ltN mid b1 d4) := k4
                      have hz4 : d4.size = n := by rw [k3]; exact hs3
                      clear hpm hpt u8 b8 k3 k4 k5 U3 B3 RS BE
                      go_wp2_with fail
                      go_roundw
                      case rel => exact ⟨mid, b1, l1, _, _, d4, rfl, rfl, rfl, rfl, rfl, by omega, by omega, by omega, by omega, hz4, RS8.out, BE8.out, U8.out, B8.out⟩
                      case measure => simp [natOf]; omega
                    · clear hl2
                      go_wp2_with fail
                      have hpa := part_any g cap a1 b1 pv d3 hpv1 hpv2 (by omega) (by omega) WY U3.out
                      rw [hs3] at hpa
                      refine hpa.mono ?_
                      clear hpa
                      rintro e w8 ⟨m, d4, r, rfl, hok, u8, b8⟩
                      obtain ⟨hz4, hba, hbb, hL, hR⟩ := rest_part (by omega) BE.out hok
                      have am := hok.am
                      have mb := hok.mb
                      have U8 : Hid (Us w8 g d4) := u8
                      have B8 : Hid (Bg g w w8) := B3.out.trans b8
                      have HL : Hid _ := hL
                      have HR : Hid _ := hR
                      have HBA : Hid (Sort.Below ltN a1 m d4) := hba
                      have HBB : Hid (Sort.Below ltN (m + 1) b1 d4) := hbb
                      have hs4 : d4.size = n := by rw [hz4]; exact hs3
                      clear hok u8 b8 hL hR hba hbb hz4 U3 B3 BE
                      obtain ⟨ll, hll⟩ : ∃ ll : Nat, (m : Int) - (a1 : Int) = (ll : Int) := ⟨m - a1, by omega⟩
                      obtain ⟨lr, hlr⟩ : ∃ lr : Nat, (b1 : Int) - (m : Int) = (lr : Int) := ⟨b1 - m, by omega⟩
                      obtain ⟨m1, hm1⟩ : ∃ m1 : Nat, (m : Int) + 1 = (m1 : Int) := ⟨m + 1, by omega⟩
                      have HM1 : Hid (m1 = m + 1) := by refine (?_ : m1 = m + 1); omega
                      by_cases hlt : ll < lr
                      · have q9 : (ll : Int) < (lr : Int) := by omega
                        go_wp2_with fail
                        have hrec := ih a1 m d4 l1 w8 (by omega) (by omega) (by omega) hs4 (by omega) HBA.out U8.out
                        refine hrec.mono ?_
                        clear hrec
                        rintro e w9 ⟨rfl, ⟨d5, hp5, hs5, u9⟩, b9⟩
                        obtain ⟨hb5, hr5⟩ := HL.out d5 hp5 hs5
                        have hz5 : d5.size = n := by rw [hp5.1]; exact hs4
                        have U9 : Hid (Us w9 g d5) := u9
                        have B9 : Hid (Bg g w w9) := B8.out.trans b9
                        have RS9 : Hid (Rest a b d m1 b1 d5) := by
                          refine (?_ : Rest a b d m1 b1 d5)
                          rw [HM1.out]; exact RS.out.trans hr5
                        have BE9 : Hid (Sort.Below ltN m1 b1 d5) := by
                          refine (?_ : Sort.Below ltN m1 b1 d5)
                          rw [HM1.out]; exact hb5
                        clear hp5 hs5 u9 b9 hb5 hr5 HL HR HBA HBB U8 B8 RS
                        go_wp2_with fail
                        go_roundw
                        case rel => exact ⟨m1, b1, l1, _, _, d5, rfl, rfl, rfl, rfl, rfl, by omega, by omega, by omega, by omega, hz5, RS9.out, BE9.out, U9.out, B9.out⟩
                        case measure => simp [natOf]; omega
                      · have q9 : ¬ (ll : Int) < (lr : Int) := by omega
                        go_wp2_with fail
                        have hrec := ih m1 b1 d4 l1 w8 (by omega) (by omega) (by omega) hs4 (by omega) (by rw [HM1.out]; exact HBB.out) U8.out
                        refine hrec.mono ?_
                        clear hrec
                        rintro e w9 ⟨rfl, ⟨d5, hp5, hs5, u9⟩, b9⟩
                        rw [HM1.out] at hp5 hs5
                        obtain ⟨hb5, hr5⟩ := HR.out d5 hp5 hs5
                        have hz5 : d5.size = n := by rw [hp5.1]; exact hs4
                        have U9 : Hid (Us w9 g d5) := u9
                        have B9 : Hid (Bg g w w9) := B8.out.trans b9
                        have RS9 : Hid (Rest a b d a1 m d5) := RS.out.trans hr5
                        have BE9 : Hid (Sort.Below ltN a1 m d5) := hb5
                        clear hp5 hs5 u9 b9 hb5 hr5 HL HR HBA HBB U8 B8 RS
                        go_wp2_with fail
                        go_roundw
                        case rel => exact ⟨a1, m, l1, _, _, d5, rfl, rfl, rfl, rfl, rfl, by omega, by omega, by omega, by omega, hz5, RS9.out, BE9.out, U9.out, B9.out⟩
                        case measure => simp [natOf]; omega
                  · have q5 : decide ((0 : Int) < (a1 : Int)) = false := by rw [decide_eq_false_iff_not]; omega
                    go_wp2_with fail
                    go_quiet (fail)
                    rename_i hK
                    refine hK _ _ ?_
                    have U3' : Hid (Us (w7.drewN nq) g d3) := Us.same U3.out rfl
                    have B3' : Hid (Bg g w (w7.drewN nq)) := B3.out.trans (Bg.drewN w7 nq)
                    obtain ⟨WY, hWY⟩ : ∃ WY, w7.drewN nq = WY := ⟨_, rfl⟩
                    rw [hWY] at U3' B3' ⊢
                    clear hWY hK U3 B3
                    revert nq
                    intro nq1
                    have U3 : Hid (Us WY g d3) := U3'.out
                    have B3 : Hid (Bg g w WY) := B3'.out
                    clear U3' B3'
                    go_wp2_with fail
                    have hpa := part_any g cap a1 b1 pv d3 hpv1 hpv2 (by omega) (by omega) WY U3.out
                    rw [hs3] at hpa
                    refine hpa.mono ?_
                    clear hpa
                    rintro e w8 ⟨m, d4, r, rfl, hok, u8, b8⟩
                    obtain ⟨hz4, hba, hbb, hL, hR⟩ := rest_part (by omega) BE.out hok
                    have am := hok.am
                    have mb := hok.mb
                    have U8 : Hid (Us w8 g d4) := u8
                    have B8 : Hid (Bg g w w8) := B3.out.trans b8
                    have HL : Hid _ := hL
                    have HR : Hid _ := hR
                    have HBA : Hid (Sort.Below ltN a1 m d4) := hba
                    have HBB : Hid (Sort.Below ltN (m + 1) b1 d4) := hbb
                    have hs4 : d4.size = n := by rw [hz4]; exact hs3
                    clear hok u8 b8 hL hR hba hbb hz4 U3 B3 BE
                    obtain ⟨ll, hll⟩ : ∃ ll : Nat, (m : Int) - (a1 : Int) = (ll : Int) := ⟨m - a1, by omega⟩
                    obtain ⟨lr, hlr⟩ : ∃ lr : Nat, (b1 : Int) - (m : Int) = (lr : Int) := ⟨b1 - m, by omega⟩
                    obtain ⟨m1, hm1⟩ : ∃ m1 : Nat, (m : Int) + 1 = (m1 : Int) := ⟨m + 1, by omega⟩
                    have HM1 : Hid (m1 = m + 1) := by refine (?_ : m1 = m + 1); omega
                    by_cases hlt : ll < lr
                    · have q9 : (ll : Int) < (lr : Int) := by omega
                      go_wp2_with fail
                      have hrec := ih a1 m d4 l1 w8 (by omega) (by omega) (by omega) hs4 (by omega) HBA.out U8.out
                      refine hrec.mono ?_
                      clear hrec
                      rintro e w9 ⟨rfl, ⟨d5, hp5, hs5, u9⟩, b9⟩
                      obtain ⟨hb5, hr5⟩ := HL.out d5 hp5 hs5
                      have hz5 : d5.size = n := by rw [hp5.1]; exact hs4
                      have U9 : Hid (Us w9 g d5) := u9
                      have B9 : Hid (Bg g w w9) := B8.out.trans b9
                      have RS9 : Hid (Rest a b d m1 b1 d5) := by
                        refine (?_ : Rest a b d m1 b1 d5)
                        rw [HM1.out]; exact RS.out.trans hr5
                      have BE9 : Hid (Sort.Below ltN m1 b1 d5) := by
                        refine (?_ : Sort.Below ltN m1 b1 d5)
                        rw [HM1.out]; exact hb5
                      clear hp5 hs5 u9 b9 hb5 hr5 HL HR HBA HBB U8 B8 RS
                      go_wp2_with fail
                      go_roundw
                      case rel => exact ⟨m1, b1, l1, _, _, d5, rfl, rfl, rfl, rfl, rfl, by omega, by omega, by omega, by omega, hz5, RS9.out, BE9.out, U9.out, B9.out⟩
                      case measure => simp [natOf]; omega
                    · have q9 : ¬ (ll : Int) < (lr : Int) := by omega
                      go_wp2_with fail
                      have hrec := ih m1 b1 d4 l1 w8 (by omega) (by omega) (by omega) hs4 (by omega) (by rw [HM1.out]; exact HBB.out) U8.out
                      refine hrec.mono ?_
                      clear hrec
                      rintro e w9 ⟨rfl, ⟨d5, hp5, hs5, u9⟩, b9⟩
                      rw [HM1.out] at hp5 hs5
                      obtain ⟨hb5, hr5⟩ := HR.out d5 hp5 hs5
                      have hz5 : d5.size = n := by rw [hp5.1]; exact hs4
                      have U9 : Hid (Us w9 g d5) := u9
                      have B9 : Hid (Bg g w w9) := B8.out.trans b9
                      have RS9 : Hid (Rest a b d a1 m d5) := RS.out.trans hr5
                      have BE9 : Hid (Sort.Below ltN a1 m d5) := hb5
                      clear hp5 hs5 u9 b9 hb5 hr5 HL HR HBA HBB U8 B8 RS
                      go_wp2_with fail
                      go_roundw
                      case rel => exact ⟨a1, m, l1, _, _, d5, rfl, rfl, rfl, rfl, rfl, by omega, by omega, by omega, by omega, hz5, RS9.out, BE9.out, U9.out, B9.out⟩
                      case measure => simp [natOf]; omega
                · obtain ⟨k1, k2⟩ := RS.out d3 (Sort.permIn_refl d3 a1 b1) (hr7 rfl)
                  have KK : Hid (Sort.PermIn a b d d3 ∧ Sort.SortedIn ltN a b d3) := ⟨k1, k2⟩
                  clear hr7 k1 k2
                  go_wp2_with fail
                  refine bodyPost_ret (results_none rfl _ _ _) rfl ?_
                  exact ⟨rfl, ⟨d3, KK.out.1, KK.out.2, U7.out⟩, B7.out⟩
            · obtain ⟨pv, hpv⟩ : ∃ pv, pv0 = pv := ⟨_, rfl⟩
              subst hpv
              have hpv1 := hpa
              have hpv2 := hpb
              obtain ⟨d3, hd3⟩ : ∃ d3, d2 = d3 := ⟨_, rfl⟩
              subst hd3
              have hs3 := hs2
              have U3 : Hid (Us w5 g d2) := U5.out
              have B3 : Hid (Bg g w w5) := B5.out
              clear U5 B5
              have ht2' : ((t0 : Int) == 2) = false := by simp; omega
              cases wp
              · go_wp2_with fail
                by_cases ha0 : 0 < a1
                · have q5 : (0 : Int) < (a1 : Int) := by omega
                  obtain ⟨ap, hap⟩ : ∃ ap : Nat, (a1 : Int) - 1 = (ap : Int) := ⟨a1 - 1, by omega⟩
                  obtain ⟨x1, y1⟩ := U3.out.cell ap (by omega)
                  obtain ⟨x2, y2⟩ := U3.out.cell pv0 (by omega)
                  have p1 : (ap : Int) < (n : Int) := by omega
                  have p2 : (pv0 : Int) < (n : Int) := by omega
                  have p3 : (0 : Int) ≤ (ap : Int) := by omega
                  have p4 : (0 : Int) ≤ (pv0 : Int) := by omega
                  generalize hx : d2[ap]! = xv at *
                  generalize hy : d2[pv0]! = yv at *
                  have HX : Hid (d2[ap]! = xv) := hx
                  have HY : Hid (d2[pv0]! = yv) := hy
                  clear hx hy
                  go_wp2_with fail
                  go_quiet (first | (go_at_call 82; refine Calls.quiet_of_same (less_any _ _ _)))
                  rename_i hK
                  refine hK _ _ ?_
                  have U3' : Hid (Us (w5.drewN nq) g d2) := Us.same U3.out rfl
                  have B3' : Hid (Bg g w (w5.drewN nq)) := B3.out.trans (Bg.drewN w5 nq)
                  obtain ⟨WY, hWY⟩ : ∃ WY, w5.drewN nq = WY := ⟨_, rfl⟩
                  rw [hWY] at U3' B3' ⊢
                  clear hWY hK U3 B3 x1 x2 y1 y2
                  revert nq
                  intro nq1
                  have U3 : Hid (Us WY g d2) := U3'.out
                  have B3 : Hid (Bg g w WY) := B3'.out
                  clear U3' B3'
                  cases hl2 : ltN xv yv
                  · have hnl : ltN d2[a1 - 1]! d2[pv0]! = false := by rw [show a1 - 1 = ap by omega, HX.out, HY.out]; exact hl2
                    have HNL : Hid _ := hnl
                    clear hl2 hnl
                    go_wp2_with fail
                    have hpa := parteq_any g cap a1 b1 pv0 d2 hpv1 hpv2 (by omega) (by omega) WY U3.out
                    rw [hs3] at hpa
                    refine hpa.mono ?_
                    clear hpa
                    rintro e w8 ⟨mid, d4, rfl, hpm, hpt, u8, b8⟩
                    obtain ⟨k1, k2, k3, k4, k5⟩ := rest_eq ha0 hpv2 hpv1 (by omega) BE.out HNL.out hpm hpt
                    have U8 : Hid (Us w8 g d4) := u8
                    have B8 : Hid (Bg g w w8) := B3.out.trans b8
                    have RS8 : Hid (Rest a b d mid b1 d4) := RS.out.trans k5
                    have BE8 : Hid (Sort.Below ltN mid b1 d4) := k4
                    have hz4 : d4.size = n := by rw [k3]; exact hs3
                    clear hpm hpt u8 b8 k3 k4 k5 U3 B3 RS BE
                    go_wp2_with fail
                    go_roundw
                    case rel => exact ⟨mid, b1, l1, _, _, d4, rfl, rfl, rfl, rfl, rfl, by omega, by omega, by omega, by omega, hz4, RS8.out, BE8.out, U8.out, B8.out⟩
                    case measure => simp [natOf]; omega
                  · clear hl2
                    go_wp2_with fail
                    have hpa := part_any g cap a1 b1 pv0 d2 hpv1 hpv2 (by omega) (by omega) WY U3.out
                    rw [hs3] at hpa
                    refine hpa.mono ?_
                    clear hpa
                    rintro e w8 ⟨m, d4, r, rfl, hok, u8, b8⟩
                    obtain ⟨hz4, hba, hbb, hL, hR⟩ := rest_part (by omega) BE.out hok
                    have am := hok.am
                    have mb := hok.mb
                    have U8 : Hid (Us w8 g d4) := u8
                    have B8 : Hid (Bg g w w8) := B3.out.trans b8
                    have HL : Hid _ := hL
                    have HR : Hid _ := hR
                    have HBA : Hid (Sort.Below ltN a1 m d4) := hba
                    have HBB : Hid (Sort.Below ltN (m + 1) b1 d4) := hbb
                    have hs4 : d4.size = n := by rw [hz4]; exact hs3
                    clear hok u8 b8 hL hR hba hbb hz4 U3 B3 BE
                    obtain ⟨ll, hll⟩ : ∃ ll : Nat, (m : Int) - (a1 : Int) = (ll : Int) := ⟨m - a1, by omega⟩
                    obtain ⟨lr, hlr⟩ : ∃ lr : Nat, (b1 : Int) - (m : Int) = (lr : Int) := ⟨b1 - m, by omega⟩
                    obtain ⟨m1, hm1⟩ : ∃ m1 : Nat, (m : Int) + 1 = (m1 : Int) := ⟨m + 1, by omega⟩
                    have HM1 : Hid (m1 = m + 1) := by refine (?_ : m1 = m + 1); omega
                    by_cases hlt : ll < lr
                    · have q9 : (ll : Int) < (lr : Int) := by omega
                      go_wp2_with fail
                      have hrec := ih a1 m d4 l1 w8 (by omega) (by omega) (by omega) hs4 (by omega) HBA.out U8.out
                      refine hrec.mono ?_
                      clear hrec
                      rintro e w9 ⟨rfl, ⟨d5, hp5, hs5, u9⟩, b9⟩
                      obtain ⟨hb5, hr5⟩ := HL.out d5 hp5 hs5
                      have hz5 : d5.size = n := by rw [hp5.1]; exact hs4
                      have U9 : Hid (Us w9 g d5) := u9
                      have B9 : Hid (Bg g w w9) := B8.out.trans b9
                      have RS9 : Hid (Rest a b d m1 b1 d5) := by
                        refine (?_ : Rest a b d m1 b1 d5)
                        rw [HM1.out]; exact RS.out.trans hr5
                      have BE9 : Hid (Sort.Below ltN m1 b1 d5) := by
                        refine (?_ : Sort.Below ltN m1 b1 d5)
                        rw [HM1.out]; exact hb5
                      clear hp5 hs5 u9 b9 hb5 hr5 HL HR HBA HBB U8 B8 RS
                      go_wp2_with fail
                      go_roundw
                      case rel => exact ⟨m1, b1, l1, _, _, d5, rfl, rfl, rfl, rfl, rfl, by omega, by omega, by omega, by omega, hz5, RS9.out, BE9.out, U9.out, B9.out⟩
                      case measure => simp [natOf]; omega
                    · have q9 : ¬ (ll : Int) < (lr : Int) := by omega
                      go_wp2_with fail
                      have hrec := ih m1 b1 d4 l1 w8 (by omega) (by omega) (by omega) hs4 (by omega) (by rw [HM1.out]; exact HBB.out) U8.out
                      refine hrec.mono ?_
                      clear hrec
                      rintro e w9 ⟨rfl, ⟨d5, hp5, hs5, u9⟩, b9⟩
                      rw [HM1.out] at hp5 hs5
                      obtain ⟨hb5, hr5⟩ := HR.out d5 hp5 hs5
                      have hz5 : d5.size = n := by rw [hp5.1]; exact hs4
                      have U9 : Hid (Us w9 g d5) := u9
                      have B9 : Hid (Bg g w w9) := B8.out.trans b9
                      have RS9 : Hid (Rest a b d a1 m d5) := RS.out.trans hr5
                      have BE9 : Hid (Sort.Below ltN a1 m d5) := hb5
                      clear hp5 hs5 u9 b9 hb5 hr5 HL HR HBA HBB U8 B8 RS
                      go_wp2_with fail
                      go_roundw
                      case rel => exact ⟨a1, m, l1, _, _, d5, rfl, rfl, rfl, rfl, rfl, by omega, by omega, by omega, by omega, hz5, RS9.out, BE9.out, U9.out, B9.out⟩
                      case measure => simp [natOf]; omega
                · have q5 : decide ((0 : Int) < (a1 : Int)) = false := by rw [decide_eq_false_iff_not]; omega
                  go_wp2_with fail
                  go_quiet (fail)
                  rename_i hK
                  refine hK _ _ ?_
                  have U3' : Hid (Us (w5.drewN nq) g d2) := Us.same U3.out rfl
                  have B3' : Hid (Bg g w (w5.drewN nq)) := B3.out.trans (Bg.drewN w5 nq)
                  obtain ⟨WY, hWY⟩ : ∃ WY, w5.drewN nq = WY := ⟨_, rfl⟩
                  rw [hWY] at U3' B3' ⊢
                  clear hWY hK U3 B3
                  revert nq
                  intro nq1
                  have U3 : Hid (Us WY g d2) := U3'.out
                  have B3 : Hid (Bg g w WY) := B3'.out
                  clear U3' B3'
                  go_wp2_with fail
                  have hpa := part_any g cap a1 b1 pv0 d2 hpv1 hpv2 (by omega) (by omega) WY U3.out
                  rw [hs3] at hpa
                  refine hpa.mono ?_
                  clear hpa
                  rintro e w8 ⟨m, d4, r, rfl, hok, u8, b8⟩
                  obtain ⟨hz4, hba, hbb, hL, hR⟩ := rest_part (by omega) BE.out hok
                  have am := hok.am
                  have mb := hok.mb
                  have U8 : Hid (Us w8 g d4) := u8
                  have B8 : Hid (Bg g w w8) := B3.out.trans b8
                  have HL : Hid _ := hL
                  have HR : Hid _ := hR
                  have HBA : Hid (Sort.Below ltN a1 m d4) := hba
                  have HBB : Hid (Sort.Below ltN (m + 1) b1 d4) := hbb
                  have hs4 : d4.size = n := by rw [hz4]; exact hs3
                  clear hok u8 b8 hL hR hba hbb hz4 U3 B3 BE
                  obtain ⟨ll, hll⟩ : ∃ ll : Nat, (m : Int) - (a1 : Int) = (ll : Int) := ⟨m - a1, by omega⟩
                  obtain ⟨lr, hlr⟩ : ∃ lr : Nat, (b1 : Int) - (m : Int) = (lr : Int) := ⟨b1 - m, by omega⟩
                  obtain ⟨m1, hm1⟩ : ∃ m1 : Nat, (m : Int) + 1 = (m1 : Int) := ⟨m + 1, by omega⟩
                  have HM1 : Hid (m1 = m + 1) := by refine (?_ : m1 = m + 1); omega
                  by_cases hlt : ll < lr
                  · have q9 : (ll : Int) < (lr : Int) := by omega
                    go_wp2_with fail
                    have hrec := ih a1 m d4 l1 w8 (by omega) (by omega) (by omega) hs4 (by omega) HBA.out U8.out
                    refine hrec.mono ?_
                    clear hrec
                    rintro e w9 ⟨rfl, ⟨d5, hp5, hs5, u9⟩, b9⟩
                    obtain ⟨hb5, hr5⟩ := HL.out d5 hp5 hs5
                    have hz5 : d5.size = n := by rw [hp5.1]; exact hs4
                    have U9 : Hid (Us w9 g d5) := u9
                    have B9 : Hid (Bg g w w9) := B8.out.trans b9
                    have RS9 : Hid (Rest a b d m1 b1 d5) := by
                      refine (?_ : Rest a b d m1 b1 d5)
                      rw [HM1.out]; exact RS.out.trans hr5
                    have BE9 : Hid (Sort.Below ltN m1 b1 d5) := by
                      refine (?_ : Sort.Below ltN m1 b1 d5)
                      rw [HM1.out]; exact hb5
                    clear hp5 hs5 u9 b9 hb5 hr5 HL HR HBA HBB U8 B8 RS
                    go_wp2_with fail
                    go_roundw
                    case rel => exact ⟨m1, b1, l1, _, _, d5, rfl, rfl, rfl, rfl, rfl, by omega, by omega, by omega, by omega, hz5, RS9.out, BE9.out, U9.out, B9.out⟩
                    case measure => simp [natOf]; omega
                  · have q9 : ¬ (ll : Int) < (lr : Int) := by omega
                    go_wp2_with fail
                    have hrec := ih m1 b1 d4 l1 w8 (by omega) (by omega) (by omega) hs4 (by omega) (by rw [HM1.out]; exact HBB.out) U8.out
                    refine hrec.mono ?_
                    clear hrec
                    rintro e w9 ⟨rfl, ⟨d5, hp5, hs5, u9⟩, b9⟩
                    rw [HM1.out] at hp5 hs5
                    obtain ⟨hb5, hr5⟩ := HR.out d5 hp5 hs5
                    have hz5 : d5.size = n := by rw [hp5.1]; exact hs4
                    have U9 : Hid (Us w9 g d5) := u9
                    have B9 : Hid (Bg g w w9) := B8.out.trans b9
                    have RS9 : Hid (Rest a b d a1 m d5) := RS.out.trans hr5
                    have BE9 : Hid (Sort.Below ltN a1 m d5) := hb5
                    clear hp5 hs5 u9 b9 hb5 hr5 HL HR HBA HBB U8 B8 RS
                    go_wp2_with fail
                    go_roundw
                    case rel => exact ⟨a1, m, l1, _, _, d5, rfl, rfl, rfl, rfl, rfl, by omega, by omega, by omega, by omega, hz5, RS9.out, BE9.out, U9.out, B9.out⟩
                    case measure => simp [natOf]; omega
              · by_cases ht1 : t0 = 1
                · subst ht1
                  have ht1' : (((1 : Nat) : Int)) = 1 := rfl
                  rw [ht1']
                  clear ht1'
                  go_wp2_with fail
                  have hpi := partial_any g cap a1 b1 d2 (by omega) (by omega) (by omega) w5 U3.out
                  rw [hs3] at hpi
                  refine hpi.mono ?_
                  clear hpi
                  rintro e w7 ⟨⟨r7, rfl, hr7⟩, u7, b7⟩
                  have U7 : Hid (Us w7 g d2) := u7
                  have B7 : Hid (Bg g w w7) := B3.out.trans b7
                  clear u7 b7 U3 B3
                  cases r7
                  · clear hr7
                    have U3 : Hid (Us w7 g d2) := U7.out
                    have B3 : Hid (Bg g w w7) := B7.out
                    clear U7 B7
                    go_wp2_with fail
                    by_cases ha0 : 0 < a1
                    · have q5 : (0 : Int) < (a1 : Int) := by omega
                      obtain ⟨ap, hap⟩ : ∃ ap : Nat, (a1 : Int) - 1 = (ap : Int) := ⟨a1 - 1, by omega⟩
                      obtain ⟨x1, y1⟩ := U3.out.cell ap (by omega)
                      obtain ⟨x2, y2⟩ := U3.out.cell pv0 (by omega)
                      have p1 : (ap : Int) < (n : Int) := by omega
                      have p2 : (pv0 : Int) < (n : Int) := by omega
                      have p3 : (0 : Int) ≤ (ap : Int) := by omega
                      have p4 : (0 : Int) ≤ (pv0 : Int) := by omega
                      generalize hx : d2[ap]! = xv at *
                      generalize hy : d2[pv0]! = yv at *
                      have HX : Hid (d2[ap]! = xv) := hx
                      have HY : Hid (d2[pv0]! = yv) := hy
                      clear hx hy
                      go_wp2_with fail
                      go_quiet (first | (go_at_call 82; refine Calls.quiet_of_same (less_any _ _ _)))
                      rename_i hK
                      refine hK _ _ ?_
                      have U3' : Hid (Us (w7.drewN nq) g d2) := Us.same U3.out rfl
                      have B3' : Hid (Bg g w (w7.drewN nq)) := B3.out.trans (Bg.drewN w7 nq)
                      obtain ⟨WY, hWY⟩ : ∃ WY, w7.drewN nq = WY := ⟨_, rfl⟩
                      rw [hWY] at U3' B3' ⊢
                      clear hWY hK U3 B3 x1 x2 y1 y2
                      revert nq
                      intro nq1
                      have U3 : Hid (Us WY g d2) := U3'.out
                      have B3 : Hid (Bg g w WY) := B3'.out
                      clear U3' B3'
                      cases hl2 : ltN xv yv
                      · have hnl : ltN d2[a1 - 1]! d2[pv0]! = false := by rw [show a1 - 1 = ap by omega, HX.out, HY.out]; exact hl2
                        have HNL : Hid _ := hnl
                        clear hl2 hnl
                        go_wp2_with fail
                        have hpa := parteq_any g cap a1 b1 pv0 d2 hpv1 hpv2 (by omega) (by omega) WY U3.out
                        rw [hs3] at hpa
                        refine hpa.mono ?_
                        clear hpa
                        rintro e w8 ⟨mid, d4, rfl, hpm, hpt, u8, b8⟩
                        obtain ⟨k1, k2, k3, k4, k5⟩ := rest_eq ha0 hpv2 hpv1 (by omega) BE.out HNL.out hpm hpt
                        have U8 : Hid (Us w8 g d4) := u8
                        have B8 : Hid (Bg g w w8) := B3.out.trans b8
                        have RS8 : Hid (Rest a b d mid b1 d4) := RS.out.trans k5
                        have BE8 : Hid (Sort.Below ltN mid b1 d4) := k4
                        have hz4 : d4.size = n := by rw [k3]; exact hs3
                        clear hpm hpt u8 b8 k3 k4 k5 U3 B3 RS BE
                        go_wp2_with fail
                        go_roundw
                        case rel => exact ⟨mid, b1, l1, _, _, d4, rfl, rfl, rfl, rfl, rfl, by omega, by omega, by omega, by omega, hz4, RS8.out, BE8.out, U8.out, B8.out⟩
                        case measure => simp [natOf]; omega
                      · clear hl2
                        go_wp2_with fail
                        have hpa := part_any g cap a1 b1 pv0 d2 hpv1 hpv2 (by omega) (by omega) WY U3.out
                        rw [hs3] at hpa
                        refine hpa.mono ?_
                        clear hpa
                        rintro e w8 ⟨m, d4, r, rfl, hok, u8, b8⟩
                        obtain ⟨hz4, hba, hbb, hL, hR⟩ := rest_part (by omega) BE.out hok
                        have am := hok.am
                        have mb := hok.mb
                        have U8 : Hid (Us w8 g d4) := u8
                        have B8 : Hid (Bg g w w8) := B3.out.trans b8
                        have HL : Hid _ := hL
                        have HR : Hid _ := hR
                        have HBA : Hid (Sort.Below ltN a1 m d4) := hba
                        have HBB : Hid (Sort.Below ltN (m + 1) b1 d4) := hbb
                        have hs4 : d4.size = n := by rw [hz4]; exact hs3
                        clear hok u8 b8 hL hR hba hbb hz4 U3 B3 BE
                        obtain ⟨ll, hll⟩ : ∃ ll : Nat, (m : Int) - (a1 : Int) = (ll : Int) := ⟨m - a1, by omega⟩
                        obtain ⟨lr, hlr⟩ : ∃ lr : Nat, (b1 : Int) - (m : Int) = (lr : Int) := ⟨b1 - m, by omega⟩
                        obtain ⟨m1, hm1⟩ : ∃ m1 : Nat, (m : Int) + 1 = (m1 : Int) := ⟨m + 1, by omega⟩
                        have HM1 : Hid (m1 = m + 1) := by refine (?_ : m1 = m + 1); omega
                        by_cases hlt : ll < lr
                        · have q9 : (ll : Int) < (lr : Int) := by omega
                          go_wp2_with fail
                          have hrec := ih a1 m d4 l1 w8 (by omega) (by omega) (by omega) hs4 (by omega) HBA.out U8.out
                          refine hrec.mono ?_
                          clear hrec
                          rintro e w9 ⟨rfl, ⟨d5, hp5, hs5, u9⟩, b9⟩
                          obtain ⟨hb5, hr5⟩ := HL.out d5 hp5 hs5
                          have hz5 : d5.size = n := by rw [hp5.1]; exact hs4
                          have U9 : Hid (Us w9 g d5) := u9
                          have B9 : Hid (Bg g w w9) := B8.out.trans b9
                          have RS9 : Hid (Rest a b d m1 b1 d5) := by
                            refine (?_ : Rest a b d m1 b1 d5)
                            rw [HM1.out]; exact RS.out.trans hr5
                          have BE9 : Hid (Sort.Below ltN m1 b1 d5) := by
                            refine (?_ : Sort.Below ltN m1 b1 d5)
                            rw [HM1.out]; exact hb5
                          clear hp5 hs5 u9 b9 hb5 hr5 HL HR HBA HBB U8 B8 RS
                          go_wp2_with fail
                          go_roundw
                          case rel => exact ⟨m1, b1, l1, _, _, d5, rfl, rfl, rfl, rfl, rfl, by omega, by omega, by omega, by omega, hz5, RS9.out, BE9.out, U9.out, B9.out⟩
                          case measure => simp [natOf]; omega
                        · have q9 : ¬ (ll : Int) < (lr : Int) := by omega
                          go_wp2_with fail
                          have hrec := ih m1 b1 d4 l1 w8 (by omega) (by omega) (by omega) hs4 (by omega) (by rw [HM1.out]; exact HBB.out) U8.out
                          refine hrec.mono ?_
                          clear hrec
                          rintro e w9 ⟨rfl, ⟨d5, hp5, hs5, u9⟩, b9⟩
                          rw [HM1.out] at hp5 hs5
                          obtain ⟨hb5, hr5⟩ := HR.out d5 hp5 hs5
                          have hz5 : d5.size = n := by rw [hp5.1]; exact hs4
                          have U9 : Hid (Us w9 g d5) := u9
                          have B9 : Hid (Bg g w w9) := B8.out.trans b9
                          have RS9 : Hid (Rest a b d a1 m d5) := RS.out.trans hr5
                          have BE9 : Hid (Sort.Below ltN a1 m d5) := hb5
                          clear hp5 hs5 u9 b9 hb5 hr5 HL HR HBA HBB U8 B8 RS
                          go_wp2_with fail
                          go_roundw
                          case rel => exact ⟨a1, m, l1, _, _, d5, rfl, rfl, rfl, rfl, rfl, by omega, by omega, by omega, by omega, hz5, RS9.out, BE9.out, U9.out, B9.out⟩
                          case measure => simp [natOf]; omega
                    · have q5 : decide ((0 : Int) < (a1 : Int)) = false := by rw [decide_eq_false_iff_not]; omega
                      go_wp2_with fail
                      go_quiet (fail)
                      rename_i hK
                      refine hK _ _ ?_
                      have U3' : Hid (Us (w7.drewN nq) g d2) := Us.same U3.out rfl
                      have B3' : Hid (Bg g w (w7.drewN nq)) := B3.out.trans (Bg.drewN w7 nq)
                      obtain ⟨WY, hWY⟩ : ∃ WY, w7.drewN nq = WY := ⟨_, rfl⟩
                      rw [hWY] at U3' B3' ⊢
                      clear hWY hK U3 B3
                      revert nq
                      intro nq1
                      have U3 : Hid (Us WY g d2) := U3'.out
                      have B3 : Hid (Bg g w WY) := B3'.out
                      clear U3' B3'
                      go_wp2_with fail
                      have hpa := part_any g cap a1 b1 pv0 d2 hpv1 hpv2 (by omega) (by omega) WY U3.out
                      rw [hs3] at hpa
                      refine hpa.mono ?_
                      clear hpa
                      rintro e w8 ⟨m, d4, r, rfl, hok, u8, b8⟩
                      obtain ⟨hz4, hba, hbb, hL, hR⟩ := rest_part (by omega) BE.out hok
                      have am := hok.am
                      have mb := hok.mb
                      have U8 : Hid (Us w8 g d4) := u8
                      have B8 : Hid (Bg g w w8) := B3.out.trans b8
                      have HL : Hid _ := hL
                      have HR : Hid _ := hR
                      have HBA : Hid (Sort.Below ltN a1 m d4) := hba
                      have HBB : Hid (Sort.Below ltN (m + 1) b1 d4) := hbb
                      have hs4 : d4.size = n := by rw [hz4]; exact hs3
                      clear hok u8 b8 hL hR hba hbb hz4 U3 B3 BE
                      obtain ⟨ll, hll⟩ : ∃ ll : Nat, (m : Int) - (a1 : Int) = (ll : Int) := ⟨m - a1, by omega⟩
                      obtain ⟨lr, hlr⟩ : ∃ lr : Nat, (b1 : Int) - (m : Int) = (lr : Int) := ⟨b1 - m, by omega⟩
                      obtain ⟨m1, hm1⟩ : ∃ m1 : Nat, (m : Int) + 1 = (m1 : Int) := ⟨m + 1, by omega⟩
                      have HM1 : Hid (m1 = m + 1) := by refine (?_ : m1 = m + 1); omega
                      by_cases hlt : ll < lr
                      · have q9 : (ll : Int) < (lr : Int) := by omega
                        go_wp2_with fail
                        have hrec := ih a1 m d4 l1 w8 (by omega) (by omega) (by omega) hs4 (by omega) HBA.out U8.out
                        refine hrec.mono ?_
                        clear hrec
                        rintro e w9 ⟨rfl, ⟨d5, hp5, hs5, u9⟩, b9⟩
                        obtain ⟨hb5, hr5⟩ := HL.out d5 hp5 hs5
                        have hz5 : d5.size = n := by rw [hp5.1]; exact hs4
                        have U9 : Hid (Us w9 g d5) := u9
                        have B9 : Hid (Bg g w w9) := B8.out.trans b9
                        have RS9 : Hid (Rest a b d m1 b1 d5) := by
                          refine (?_ : Rest a b d m1 b1 d5)
                          rw [HM1.out]; exact RS.out.trans hr5
                        have BE9 : Hid (Sort.Below ltN m1 b1 d5) := by
                          refine (?_ : Sort.Below ltN m1 b1 d5)
                          rw [HM1.out]; exact hb5
                        clear hp5 hs5 u9 b9 hb5 hr5 HL HR HBA HBB U8 B8 RS
                        go_wp2_with fail
                        go_roundw
                        case rel => exact ⟨m1, b1, l1, _, _, d5, rfl, rfl, rfl, rfl, rfl, by omega, by omega, by omega, by omega, hz5, RS9.out, BE9.out, U9.out, B9.out⟩
                        case measure => simp [natOf]; omega
                      · have q9 : ¬ (ll : Int) < (lr : Int) := by omega
                        go_wp2_with fail
                        have hrec := ih m1 b1 d4 l1 w8 (by omega) (by omega) (by omega) hs4 (by omega) (by rw [HM1.out]; exact HBB.out) U8.out
                        refine hrec.mono ?_
                        clear hrec
                        rintro e w9 ⟨rfl, ⟨d5, hp5, hs5, u9⟩, b9⟩
                        rw [HM1.out] at hp5 hs5
                        obtain ⟨hb5, hr5⟩ := HR.out d5 hp5 hs5
                        have hz5 : d5.size = n := by rw [hp5.1]; exact hs4
                        have U9 : Hid (Us w9 g d5) := u9
                        have B9 : Hid (Bg g w w9) := B8.out.trans b9
                        have RS9 : Hid (Rest a b d a1 m d5) := RS.out.trans hr5
                        have BE9 : Hid (Sort.Below ltN a1 m d5) := hb5
                        clear hp5 hs5 u9 b9 hb5 hr5 HL HR HBA HBB U8 B8 RS
                        go_wp2_with fail
                        go_roundw
                        case rel => exact ⟨a1, m, l1, _, _, d5, rfl, rfl, rfl, rfl, rfl, by omega, by omega, by omega, by omega, hz5, RS9.out, BE9.out, U9.out, B9.out⟩
                        case measure => simp [natOf]; omega
                  · obtain ⟨k1, k2⟩ := RS.out d2 (Sort.permIn_refl d2 a1 b1) (hr7 rfl)
                    have KK : Hid (Sort.PermIn a b d d2 ∧ Sort.SortedIn ltN a b d2) := ⟨k1, k2⟩
                    clear hr7 k1 k2
                    go_wp2_with fail
                    refine bodyPost_ret (results_none rfl _ _ _) rfl ?_
                    exact ⟨rfl, ⟨d2, KK.out.1, KK.out.2, U7.out⟩, B7.out⟩
                · have ht1' : ((t0 : Int) == 1) = false := by simp; omega
                  go_wp2_with fail
                  by_cases ha0 : 0 < a1
                  · have q5 : (0 : Int) < (a1 : Int) := by omega
                    obtain ⟨ap, hap⟩ : ∃ ap : Nat, (a1 : Int) - 1 = (ap : Int) := ⟨a1 - 1, by omega⟩
                    obtain ⟨x1, y1⟩ := U3.out.cell ap (by omega)
                    obtain ⟨x2, y2⟩ := U3.out.cell pv0 (by omega)
                    have p1 : (ap : Int) < (n : Int) := by omega
                    have p2 : (pv0 : Int) < (n : Int) := by omega
                    have p3 : (0 : Int) ≤ (ap : Int) := by omega
                    have p4 : (0 : Int) ≤ (pv0 : Int) := by omega
                    generalize hx : d2[ap]! = xv at *
                    generalize hy : d2[pv0]! = yv at *
                    have HX : Hid (d2[ap]! = xv) := hx
                    have HY : Hid (d2[pv0]! = yv) := hy
                    clear hx hy
                    go_wp2_with fail
                    go_quiet (first | (go_at_call 82; refine Calls.quiet_of_same (less_any _ _ _)))
                    rename_i hK
                    refine hK _ _ ?_
                    have U3' : Hid (Us (w5.drewN nq) g d2) := Us.same U3.out rfl
                    have B3' : Hid (Bg g w (w5.drewN nq)) := B3.out.trans (Bg.drewN w5 nq)
                    obtain ⟨WY, hWY⟩ : ∃ WY, w5.drewN nq = WY := ⟨_, rfl⟩
                    rw [hWY] at U3' B3' ⊢
                    clear hWY hK U3 B3 x1 x2 y1 y2
                    revert nq
                    intro nq1
                    have U3 : Hid (Us WY g d2) := U3'.out
                    have B3 : Hid (Bg g w WY) := B3'.out
                    clear U3' B3'
                    cases hl2 : ltN xv yv
                    · have hnl : ltN d2[a1 - 1]! d2[pv0]! = false := by rw [show a1 - 1 = ap by omega, HX.out, HY.out]; exact hl2
                      have HNL : Hid _ := hnl
                      clear hl2 hnl
                      go_wp2_with fail
                      have hpa := parteq_any g cap a1 b1 pv0 d2 hpv1 hpv2 (by omega) (by omega) WY U3.out
                      rw [hs3] at hpa
                      refine hpa.mono ?_
                      clear hpa
                      rintro e w8 ⟨mid, d4, rfl, hpm, hpt, u8, b8⟩
                      obtain ⟨k1, k2, k3, k4, k5⟩ := rest_eq ha0 hpv2 hpv1 (by omega) BE.out HNL.out hpm hpt
                      have U8 : Hid (Us w8 g d4) := u8
                      have B8 : Hid (Bg g w w8) := B3.out.trans b8
                      have RS8 : Hid (Rest a b d mid b1 d4) := RS.out.trans k5
                      have BE8 : Hid (Sort.Below ltN mid b1 d4) := k4
                      have hz4 : d4.size = n := by rw [k3]; exact hs3
                      clear hpm hpt u8 b8 k3 k4 k5 U3 B3 RS BE
                      go_wp2_with fail
                      go_roundw
                      case rel => exact ⟨mid, b1, l1, _, _, d4, rfl, rfl, rfl, rfl, rfl, by omega, by omega, by omega, by omega, hz4, RS8.out, BE8.out, U8.out, B8.out⟩
                      case measure => simp [natOf]; omega
                    · clear hl2
                      go_wp2_with fail
                      have hpa := part_any g cap a1 b1 pv0 d2 hpv1 hpv2 (by omega) (by omega) WY U3.out
                      rw [hs3] at hpa
                      refine hpa.mono ?_
                      clear hpa
                      rintro e w8 ⟨m, d4, r, rfl, hok, u8, b8⟩
                      obtain ⟨hz4, hba, hbb, hL, hR⟩ := rest_part (by omega) BE.out hok
                      have am := hok.am
                      have mb := hok.mb
                      have U8 : Hid (Us w8 g d4) := u8
                      have B8 : Hid (Bg g w w8) := B3.out.trans b8
                      have HL : Hid _ := hL
                      have HR : Hid _ := hR
                      have HBA : Hid (Sort.Below ltN a1 m d4) := hba
                      have HBB : Hid (Sort.Below ltN (m + 1) b1 d4) := hbb
                      have hs4 : d4.size = n := by rw [hz4]; exact hs3
                      clear hok u8 b8 hL hR hba hbb hz4 U3 B3 BE
                      obtain ⟨ll, hll⟩ : ∃ ll : Nat, (m : Int) - (a1 : Int) = (ll : Int) := ⟨m - a1, by omega⟩
                      obtain ⟨lr, hlr⟩ : ∃ lr : Nat, (b1 : Int) - (m : Int) = (lr : Int) := ⟨b1 - m, by omega⟩
                      obtain ⟨m1, hm1⟩ : ∃ m1 : Nat, (m : Int) + 1 = (m1 : Int) := ⟨m + 1, by omega⟩
                      have HM1 : Hid (m1 = m + 1) := by refine (?_ : m1 = m + 1); omega
                      by_cases hlt : ll < lr
                      · have q9 : (ll : Int) < (lr : Int) := by omega
                        go_wp2_with fail
                        have hrec := ih a1 m d4 l1 w8 (by omega) (by omega) (by omega) hs4 (by omega) HBA.out U8.out
                        refine hrec.mono ?_
                        clear hrec
                        rintro e w9 ⟨rfl, ⟨d5, hp5, hs5, u9⟩, b9⟩
                        obtain ⟨hb5, hr5⟩ := HL.out d5 hp5 hs5
                        have hz5 : d5.size = n := by rw [hp5.1]; exact hs4
                        have U9 : Hid (Us w9 g d5) := u9
                        have B9 : Hid (Bg g w w9) := B8.out.trans b9
                        have RS9 : Hid (Rest a b d m1 b1 d5) := by
                          refine (?_ : Rest a b d m1 b1 d5)
                          rw [HM1.out]; exact RS.out.trans hr5
                        have BE9 : Hid (Sort.Below ltN m1 b1 d5) := by
                          refine (?_ : Sort.Below ltN m1 b1 d5)
                          rw [HM1.out]; exact hb5
                        clear hp5 hs5 u9 b9 hb5 hr5 HL HR HBA HBB U8 B8 RS
                        go_wp2_with fail
                        go_roundw
                        case rel => exact ⟨m1, b1, l1, _, _, d5, rfl, rfl, rfl, rfl, rfl, by omega, by omega, by omega, by omega, hz5, RS9.out, BE9.out, U9.out, B9.out⟩
                        case measure => simp [natOf]; omega
                      · have q9 : ¬ (ll : Int) < (lr : Int) := by omega
                        go_wp2_with fail
                        have hrec := ih m1 b1 d4 l1 w8 (by omega) (by omega) (by omega) hs4 (by omega) (by rw [HM1.out]; exact HBB.out) U8.out
                        refine hrec.mono ?_
                        clear hrec
                        rintro e w9 ⟨rfl, ⟨d5, hp5, hs5, u9⟩, b9⟩
                        rw [HM1.out] at hp5 hs5
                        obtain ⟨hb5, hr5⟩ := HR.out d5 hp5 hs5
                        have hz5 : d5.size = n := by rw [hp5.1]; exact hs4
                        have U9 : Hid (Us w9 g d5) := u9
                        have B9 : Hid (Bg g w w9) := B8.out.trans b9
                        have RS9 : Hid (Rest a b d a1 m d5) := RS.out.trans hr5
                        have BE9 : Hid (Sort.Below ltN a1 m d5) := hb5
                        clear hp5 hs5 u9 b9 hb5 hr5 HL HR HBA HBB U8 B8 RS
                        go_wp2_with fail
                        go_roundw
                        case rel => exact ⟨a1, m, l1, _, _, d5, rfl, rfl, rfl, rfl, rfl, by omega, by omega, by omega, by omega, hz5, RS9.out, BE9.out, U9.out, B9.out⟩
                        case measure => simp [natOf]; omega
                  · have q5 : decide ((0 : Int) < (a1 : Int)) = false := by rw [decide_eq_false_iff_not]; omega
                    go_wp2_with fail
                    go_quiet (fail)
                    rename_i hK
                    refine hK _ _ ?_
                    have U3' : Hid (Us (w5.drewN nq) g d2) := Us.same U3.out rfl
                    have B3' : Hid (Bg g w (w5.drewN nq)) := B3.out.trans (Bg.drewN w5 nq)
                    obtain ⟨WY, hWY⟩ : ∃ WY, w5.drewN nq = WY := ⟨_, rfl⟩
                    rw [hWY] at U3' B3' ⊢
                    clear hWY hK U3 B3
                    revert nq
                    intro nq1
                    have U3 : Hid (Us WY g d2) := U3'.out
                    have B3 : Hid (Bg g w WY) := B3'.out
                    clear U3' B3'
                    go_wp2_with fail
                    have hpa := part_any g cap a1 b1 pv0 d2 hpv1 hpv2 (by omega) (by omega) WY U3.out
                    rw [hs3] at hpa
                    refine hpa.mono ?_
                    clear hpa
                    rintro e w8 ⟨m, d4, r, rfl, hok, u8, b8⟩
                    obtain ⟨hz4, hba, hbb, hL, hR⟩ := rest_part (by omega) BE.out hok
                    have am := hok.am
                    have mb := hok.mb
                    have U8 : Hid (Us w8 g d4) := u8
                    have B8 : Hid (Bg g w w8) := B3.out.trans b8
                    have HL : Hid _ := hL
                    have HR : Hid _ := hR
                    have HBA : Hid (Sort.Below ltN a1 m d4) := hba
                    have HBB : Hid (Sort.Below ltN (m + 1) b1 d4) := hbb
                    have hs4 : d4.size = n := by rw [hz4]; exact hs3
                    clear hok u8 b8 hL hR hba hbb hz4 U3 B3 BE
                    obtain ⟨ll, hll⟩ : ∃ ll : Nat, (m : Int) - (a1 : Int) = (ll : Int) := ⟨m - a1, by omega⟩
                    obtain ⟨lr, hlr⟩ : ∃ lr : Nat, (b1 : Int) - (m : Int) = (lr : Int) := ⟨b1 - m, by omega⟩
                    obtain ⟨m1, hm1⟩ : ∃ m1 : Nat, (m : Int) + 1 = (m1 : Int) := ⟨m + 1, by omega⟩
                    have HM1 : Hid (m1 = m + 1) := by refine (?_ : m1 = m + 1); omega
                    by_cases hlt : ll < lr
                    · have q9 : (ll : Int) < (lr : Int) := by omega
                      go_wp2_with fail
                      have hrec := ih a1 m d4 l1 w8 (by omega) (by omega) (by omega) hs4 (by omega) HBA.out U8.out
                      refine hrec.mono ?_
                      clear hrec
                      rintro e w9 ⟨rfl, ⟨d5, hp5, hs5, u9⟩, b9⟩
                      obtain ⟨hb5, hr5⟩ := HL.out d5 hp5 hs5
                      have hz5 : d5.size = n := by rw [hp5.1]; exact hs4
                      have U9 : Hid (Us w9 g d5) := u9
                      have B9 : Hid (Bg g w w9) := B8.out.trans b9
                      have RS9 : Hid (Rest a b d m1 b1 d5) := by
                        refine (?_ : Rest a b d m1 b1 d5)
                        rw [HM1.out]; exact RS.out.trans hr5
                      have BE9 : Hid (Sort.Below ltN m1 b1 d5) := by
                        refine (?_ : Sort.Below ltN m1 b1 d5)
                        rw [HM1.out]; exact hb5
                      clear hp5 hs5 u9 b9 hb5 hr5 HL HR HBA HBB U8 B8 RS
                      go_wp2_with fail
                      go_roundw
                      case rel => exact ⟨m1, b1, l1, _, _, d5, rfl, rfl, rfl, rfl, rfl, by omega, by omega, by omega, by omega, hz5, RS9.out, BE9.out, U9.out, B9.out⟩
                      case measure => simp [natOf]; omega
                    · have q9 : ¬ (ll : Int) < (lr : Int) := by omega
                      go_wp2_with fail
                      have hrec := ih m1 b1 d4 l1 w8 (by omega) (by omega) (by omega) hs4 (by omega) (by rw [HM1.out]; exact HBB.out) U8.out
                      refine hrec.mono ?_
                      clear hrec
                      rintro e w9 ⟨rfl, ⟨d5, hp5, hs5, u9⟩, b9⟩
                      rw [HM1.out] at hp5 hs5
                      obtain ⟨hb5, hr5⟩ := HR.out d5 hp5 hs5
                      have hz5 : d5.size = n := by rw [hp5.1]; exact hs4
                      have U9 : Hid (Us w9 g d5) := u9
                      have B9 : Hid (Bg g w w9) := B8.out.trans b9
                      have RS9 : Hid (Rest a b d a1 m d5) := RS.out.trans hr5
                      have BE9 : Hid (Sort.Below ltN a1 m d5) := hb5
                      clear hp5 hs5 u9 b9 hb5 hr5 HL HR HBA HBB U8 B8 RS
                      go_wp2_with fail
                      go_roundw
                      case rel => exact ⟨a1, m, l1, _, _, d5, rfl, rfl, rfl, rfl, rfl, by omega, by omega, by omega, by omega, hz5, RS9.out, BE9.out, U9.out, B9.out⟩
                      case measure => simp [natOf]; omega
set_option maxRecDepth 100000 in
theorem pdq_any (g cap n : Nat) (hn30 : n ≤ 30) : ∀ (z a b : Nat) (d : Array Nat) (l : Nat) (w : World), b - a ≤ z → a ≤ b → b ≤ n → d.size = n → l ≤ 1000 → Sort.Below ltN a b d → Us w g d →
    Calls Try.prog 74 #[.slice (some ⟨g, 0, none⟩) n cap, .int .i64 (a : Int), .int .i64 (b : Int), .int .i64 (l : Int)] w fun e w' => PdqW g a b d w e w'
  | 0, a, b, d, l, w, h1, h2, h3, h4, h5, h6, h7 => pdq_round g cap n hn30 0 (fun _ _ _ _ _ h => by omega) a b d l w h1 h2 h3 h4 h5 h6 h7
  | z + 1, a, b, d, l, w, h1, h2, h3, h4, h5, h6, h7 => pdq_round g cap n hn30 (z + 1) (fun a' b' d' l' w' k1 k2 k3 k4 k5 k6 k7 => pdq_any g cap n hn30 z a' b' d' l' w' (by omega) k2 k3 k4 k5 k6 k7) a b d l w h1 h2 h3 h4 h5 h6 h7
set_option maxRecDepth 100000 in
set_option maxHeartbeats 1000000 in
theorem sorts_30 : Sorts 30 := by
  intro g cap d w hd h
  have HP : ∀ l : Nat, l ≤ 1000 → Hid (Calls Try.prog 74 #[.slice (some ⟨g, 0, none⟩) d.size cap, .int .i64 0, .int .i64 (d.size : Int), .int .i64 (l : Int)] w fun e w' => PdqW g 0 d.size d w e w') :=
    fun l hl => pdq_any g cap d.size hd d.size 0 d.size d l w (by omega) (by omega) (Nat.le_refl _) rfl hl (Or.inl rfl) h
  have HL : Hid _ := Try.bits_Len (d.size : Int) w (by omega) (by omega)
  have hu : IntKind.u64.wrap (d.size : Int) = (d.size : Int) := IntWalk.u64_in _ (by omega)
  have hbl : Lib.bitLen ((d.size : Int).toNat) ≤ 1000 := blen30 ⟨d.size, by omega⟩
  clear h
  go_enter Try.func69, Try.ntmps69
  go_wp2_with fail
  refine Calls.mono HL.out ?_
  rintro e w1 ⟨rfl, rfl⟩
  generalize Lib.bitLen ((d.size : Int).toNat) = l at *
  go_wp2_with fail
  refine Calls.mono (HP l hbl).out ?_
  rintro e w2 ⟨rfl, ⟨d', k1, k2, u2⟩, b2⟩
  have U2 : Hid (Us w2 g d') := u2
  have B2 : Hid (Bg g w1 w2) := b2
  clear u2 b2
  go_wp2_with fail
  refine bodyPost_end (results_none rfl _ _ _) rfl ?_
  exact ⟨rfl, ⟨_, k1, k2, U2.out⟩, B2.out⟩
end Go.Proofs.Ytkpfnepbnaekoaa.Rd
