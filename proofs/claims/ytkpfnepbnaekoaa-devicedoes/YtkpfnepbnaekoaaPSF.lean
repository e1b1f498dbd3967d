/- The sort beyond twelve: breakPatterns. -/
import Derived.Test.YtkpfnepbnaekoaaPSE
namespace Go.Proofs.Ytkpfnepbnaekoaa.Rd
open Go.RowKit
set_option maxRecDepth 100000 in
theorem Xw.lt {w : World} {sw k : Nat} (h : Xw w sw k) : sw < w.heap.size := (Array.getElem?_eq_some_iff.1 h).1
set_option maxRecDepth 100000 in
set_option maxHeartbeats 4000000 in
theorem break_any (g cap a b : Nat) (d : Array Nat) (ha : a + 12 < b) (hb : b ≤ d.size) (hd : d.size ≤ 30) (w : World) (h : Us w g d) :
    Calls Try.prog 78 #[.slice (some ⟨g, 0, none⟩) d.size cap, .int .i64 (a : Int), .int .i64 (b : Int)] w fun e w' => e = .returned (.tuple #[]) ∧ (∃ d', Sort.PermIn a b d d' ∧ Us w' g d') ∧ Bg g w w' := by
  have HU : Hid (Us w g d) := h
  have hgl := h.lt
  clear h
  obtain ⟨n, hn⟩ : ∃ n, d.size = n := ⟨_, rfl⟩
  rw [hn] at hb hd ⊢
  obtain ⟨l, hl⟩ : ∃ l : Nat, (b : Int) - (a : Int) = (l : Int) := ⟨b - a, by omega⟩
  obtain ⟨q, hq, hq2, hq3⟩ : ∃ q : Nat, (l : Int).tdiv 4 = (q : Int) ∧ 4 * q ≤ l ∧ 3 ≤ q := ⟨l / 4, by simp, by omega, by omega⟩
  have q1 : (8 : Int) ≤ (l : Int) := by omega
  have hu : IntKind.u64.wrap (l : Int) = (l : Int) := IntWalk.u64_in _ (by omega)
  obtain ⟨M, hM, hM1, hM2⟩ : ∃ M : Nat, pw l = (M : Int) ∧ 16 ≤ M ∧ M < 2 * l + 1 := by
    unfold pw
    split
    · exact ⟨16, rfl, by omega, by omega⟩
    · exact ⟨32, rfl, by omega, by omega⟩
  have hM3 : M ≤ 60 := by omega
  have HM : Hid (pw l = (M : Int)) := hM
  obtain ⟨s0, hs0⟩ : ∃ s0 : Nat, (a : Int) + (q : Int) * 2 - 1 = (s0 : Int) := ⟨a + q * 2 - 1, by omega⟩
  clear hM
  go_enter Try.func78, Try.ntmps78
  go_wp2_with fail
  refine (npow_any l (by omega) (by omega) _).mono ?_
  rintro e w0 ⟨rfl, rfl⟩
  rw [HM.out]
  go_wp2_with fail
  go_loopw [9] (fun iv wr => ∃ (i : Nat) (d1 : Array Nat) (v : Nat), iv = .int .i64 (i : Int) ∧ s0 ≤ i ∧ i ≤ s0 + 3 ∧ Us wr g d1 ∧ d1.size = n ∧ Sort.PermIn a b d d1 ∧ v < 18446744073709551616 ∧ Xw wr w.heap.size v ∧ But (fun k => k = g ∨ k = w.heap.size) (w.alloc (.cells #[.int .u64 (l : Int)] 130)) wr) (fun iv _ => s0 + 3 - natOf iv)
  case atStart => exact ⟨s0, d, l, by go_num, by omega, by omega, HU.out.same ((below_new w _).block g hgl), hn, Sort.permIn_refl d a b, by omega, heap_alloc_new w _, But.refl _ _⟩
  case round =>
    obtain ⟨i, d1, v, rfl, hi0, hi3, hu1, hs1, hp, hv, hx, hbg⟩ := hrel
    have U1 : Hid (Us wr g d1) := hu1
    have P1 : Hid (Sort.PermIn a b d d1) := hp
    have X1 : Hid (Xw wr w.heap.size v) := hx
    have B1 : Hid (But (fun k => k = g ∨ k = w.heap.size) (w.alloc (.cells #[.int .u64 (l : Int)] 130)) wr) := hbg
    clear hu1 hp hx hbg
    by_cases hlt : i < s0 + 3
    · have p0 : (i : Int) ≤ (a : Int) + (q : Int) * 2 + 1 := by omega
      have hib : i < b := by omega
      have hai : a ≤ i := by omega
      go_wp2_with fail
      refine (next_any w.heap.size v hv wr X1.out).mono ?_
      rintro e w2 ⟨⟨u, hu64, rfl, x2⟩, b2⟩
      have U2 : Hid (Us w2 g d1) := U1.out.bg b2 (by omega)
      have X2 : Hid (Xw w2 w.heap.size u) := x2
      have B2 : Hid (But (fun k => k = g ∨ k = w.heap.size) (w.alloc (.cells #[.int .u64 (l : Int)] 130)) w2) := B1.out.trans (b2.more fun k e => .inr e)
      obtain ⟨O, hO, lO⟩ : ∃ O : Nat, bits .and .u64 (u : Int) ((M : Int) - 1) = (O : Int) ∧ O ≤ M - 1 := by
        refine ⟨u &&& (M - 1), ?_, Nat.and_le_right⟩
        rw [show ((M : Int) - 1) = ((M - 1 : Nat) : Int) by omega, bits_and_u64_nat _ _ hu64 (by omega)]
      clear x2 b2 U1 X1 B1
      by_cases hol : l ≤ O
      · have r1 : (l : Int) ≤ (O : Int) := by omega
        obtain ⟨ot, hot⟩ : ∃ ot : Nat, (O : Int) - (l : Int) = (ot : Int) := ⟨O - l, by omega⟩
        have hotl : ot < l := by omega
        obtain ⟨x1, y1⟩ := Us.cell U2.out i (by omega)
        by_cases heq : i = a + ot
        · have heI : (a : Int) + (ot : Int) = (i : Int) := by omega
          clear heq
          have p1 : (i : Int) < (n : Int) := by omega
          have p3 : (0 : Int) ≤ (i : Int) := by omega
          generalize hx : d1[i]! = xv at *
          have HX : Hid (d1[i]! = xv) := hx
          have HW := Us.swp U2.out i i
          rw [HX.out] at HW
          have HW1 : Hid (Us _ g (Sort.swp d1 i i)) := HW.1
          have HW2 : Hid (Bg g _ _) := HW.2
          clear hx HW
          have XX : Hid (Xw ((w2.setCell ⟨g, i, none⟩ (.int .u32 (xv : Int))).setCell ⟨g, i, none⟩ (.int .u32 (xv : Int))) w.heap.size u) := (HW2.out.block _ X2.out.lt (by omega)).trans X2.out
          go_wp2_with fail
          go_region
          go_wp2_with fail
          go_roundw
          case rel => exact ⟨i + 1, Sort.swp d1 i i, u, by go_num, by omega, by omega, Us.same HW1.out rfl, by rw [swp_sz]; exact hs1, Sort.permIn_trans _ _ _ _ _ P1.out (Sort.swp_permIn d1 a b i i (by omega) (by omega) (by omega) (by omega) (by omega)), hu64, XX.out, (B2.out.trans (HW2.out.more fun k e => .inl e)).trans ⟨rfl, rfl, rfl, Nat.le_refl _, fun _ _ _ => rfl⟩⟩
          case measure => simp [natOf]; omega
        · obtain ⟨x2, y2⟩ := Us.cell U2.out (a + ot) (by omega)
          have heq2 : ¬ a + ot = i := fun e => heq e.symm
          have p1 : (i : Int) < (n : Int) := by omega
          have p2 : (a : Int) + (ot : Int) < (n : Int) := by omega
          have p3 : (0 : Int) ≤ (i : Int) := by omega
          have p4 : (0 : Int) ≤ (a : Int) + (ot : Int) := by omega
          generalize hx : d1[i]! = xv at *
          generalize hy : d1[a + ot]! = yv at *
          have HX : Hid (d1[i]! = xv) := hx
          have HY : Hid (d1[a + ot]! = yv) := hy
          have HW := Us.swp U2.out i (a + ot)
          rw [HX.out, HY.out] at HW
          have HW1 : Hid (Us _ g (Sort.swp d1 i (a + ot))) := HW.1
          have HW2 : Hid (Bg g _ _) := HW.2
          clear hx hy HW
          have XX : Hid (Xw ((w2.setCell ⟨g, i, none⟩ (.int .u32 (yv : Int))).setCell ⟨g, a + ot, none⟩ (.int .u32 (xv : Int))) w.heap.size u) := (HW2.out.block _ X2.out.lt (by omega)).trans X2.out
          go_wp2_with fail
          go_region
          go_wp2_with fail
          go_roundw
          case rel => exact ⟨i + 1, Sort.swp d1 i (a + ot), u, by go_num, by omega, by omega, Us.same HW1.out rfl, by rw [swp_sz]; exact hs1, Sort.permIn_trans _ _ _ _ _ P1.out (Sort.swp_permIn d1 a b i (a + ot) (by omega) (by omega) (by omega) (by omega) (by omega)), hu64, XX.out, (B2.out.trans (HW2.out.more fun k e => .inl e)).trans ⟨rfl, rfl, rfl, Nat.le_refl _, fun _ _ _ => rfl⟩⟩
          case measure => simp [natOf]; omega
      · have r1 : ¬ (l : Int) ≤ (O : Int) := by omega
        obtain ⟨ot, hot⟩ : ∃ ot : Nat, O = ot := ⟨O, rfl⟩
        subst hot
        have hotl : O < l := by omega
        obtain ⟨x1, y1⟩ := Us.cell U2.out i (by omega)
        by_cases heq : i = a + O
        · have heI : (a : Int) + (O : Int) = (i : Int) := by omega
          clear heq
          have p1 : (i : Int) < (n : Int) := by omega
          have p3 : (0 : Int) ≤ (i : Int) := by omega
          generalize hx : d1[i]! = xv at *
          have HX : Hid (d1[i]! = xv) := hx
          have HW := Us.swp U2.out i i
          rw [HX.out] at HW
          have HW1 : Hid (Us _ g (Sort.swp d1 i i)) := HW.1
          have HW2 : Hid (Bg g _ _) := HW.2
          clear hx HW
          have XX : Hid (Xw ((w2.setCell ⟨g, i, none⟩ (.int .u32 (xv : Int))).setCell ⟨g, i, none⟩ (.int .u32 (xv : Int))) w.heap.size u) := (HW2.out.block _ X2.out.lt (by omega)).trans X2.out
          go_wp2_with fail
          go_region
          go_wp2_with fail
          go_roundw
          case rel => exact ⟨i + 1, Sort.swp d1 i i, u, by go_num, by omega, by omega, Us.same HW1.out rfl, by rw [swp_sz]; exact hs1, Sort.permIn_trans _ _ _ _ _ P1.out (Sort.swp_permIn d1 a b i i (by omega) (by omega) (by omega) (by omega) (by omega)), hu64, XX.out, (B2.out.trans (HW2.out.more fun k e => .inl e)).trans ⟨rfl, rfl, rfl, Nat.le_refl _, fun _ _ _ => rfl⟩⟩
          case measure => simp [natOf]; omega
        · obtain ⟨x2, y2⟩ := Us.cell U2.out (a + O) (by omega)
          have heq2 : ¬ a + O = i := fun e => heq e.symm
          have p1 : (i : Int) < (n : Int) := by omega
          have p2 : (a : Int) + (O : Int) < (n : Int) := by omega
          have p3 : (0 : Int) ≤ (i : Int) := by omega
          have p4 : (0 : Int) ≤ (a : Int) + (O : Int) := by omega
          generalize hx : d1[i]! = xv at *
          generalize hy : d1[a + O]! = yv at *
          have HX : Hid (d1[i]! = xv) := hx
          have HY : Hid (d1[a + O]! = yv) := hy
          have HW := Us.swp U2.out i (a + O)
          rw [HX.out, HY.out] at HW
          have HW1 : Hid (Us _ g (Sort.swp d1 i (a + O))) := HW.1
          have HW2 : Hid (Bg g _ _) := HW.2
          clear hx hy HW
          have XX : Hid (Xw ((w2.setCell ⟨g, i, none⟩ (.int .u32 (yv : Int))).setCell ⟨g, a + O, none⟩ (.int .u32 (xv : Int))) w.heap.size u) := (HW2.out.block _ X2.out.lt (by omega)).trans X2.out
          go_wp2_with fail
          go_region
          go_wp2_with fail
          go_roundw
          case rel => exact ⟨i + 1, Sort.swp d1 i (a + O), u, by go_num, by omega, by omega, Us.same HW1.out rfl, by rw [swp_sz]; exact hs1, Sort.permIn_trans _ _ _ _ _ P1.out (Sort.swp_permIn d1 a b i (a + O) (by omega) (by omega) (by omega) (by omega) (by omega)), hu64, XX.out, (B2.out.trans (HW2.out.more fun k e => .inl e)).trans ⟨rfl, rfl, rfl, Nat.le_refl _, fun _ _ _ => rfl⟩⟩
          case measure => simp [natOf]; omega
    · have p0 : ¬ (i : Int) ≤ (a : Int) + (q : Int) * 2 + 1 := by omega
      go_wp2_with fail
      refine bodyPost_end (results_none rfl _ _ _) rfl ?_
      refine ⟨rfl, ⟨d1, P1.out, U1.out⟩, ?_⟩
      have hb := B1.out
      have hn := below_new w (.cells #[.int .u64 (l : Int)] 130)
      exact ⟨hb.os, hb.tape, hb.output, Nat.le_trans hn.size hb.size, fun k hk hne => (hb.block k (by have := hn.size; omega) (fun e => e.elim hne (fun e => by omega))).trans (hn.block k hk)⟩
end Go.Proofs.Ytkpfnepbnaekoaa.Rd
