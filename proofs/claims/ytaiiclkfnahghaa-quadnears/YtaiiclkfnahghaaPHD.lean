/- QuadNears: the nearest rows. -/
import Derived.Test.YtaiiclkfnahghaaPJP
namespace Go.Proofs.Ytaiiclkfnahghaa.Rq
open Go.RowKit Go.Lib Go.Shelf
open Go.Proofs.Ytaiiclkfnahghaa.Rc
set_option maxRecDepth 100000 in
set_option maxHeartbeats 2000000 in
theorem qNear_no (n : Nv) (x y : Nat) (k : Int) (hb : onS x y = false ∨ (onS x y = true ∧ k < 0)) (w : World) :
    Calls Try.prog 26 #[nv n, .int .u32 (x : Int), .int .u32 (y : Int), .int .i64 k] w fun e w' => e = .returned (.tuple #[.slice none 0 0, .int .i64 2]) ∧ Below w.heap.size w w' := by
  obtain ⟨nX, nY, nL, nro, nrn, nrc, nko, nkn, nkc⟩ := n
  obtain ⟨-, -, -, t4, -⟩ := trio_new w (.cells #[.int .u32 (nX : Int), .int .u32 (nY : Int), .int .i64 (nL : Int), .slice nro nrn nrc, .slice nko nkn nkc] 33) (.cells #[.int .u32 (x : Int)] 24) (.cells #[.int .u32 (y : Int)] 24)
  have HZ : Hid _ := t4
  have HP : Hid _ := qonPlane_any x y
  clear t4
  simp only [nv] at ⊢
  rcases hb with hb | ⟨hb, hk⟩
  all_goals
    rw [hb] at HP
    clear hb
    go_enter Try.func26, Try.ntmps26
    go_wp2_with fail
    refine wp_scope_straight ?_
    go_wp2_with fail
    refine (HP.out _).mono ?_
    rintro e w1 ⟨rfl, rfl⟩
    go_wp2_with fail
    simp only [Exit.noGoto]
    go_ret2
    exact ⟨rfl, HZ.out⟩
set_option maxRecDepth 100000 in
set_option maxHeartbeats 1000000 in
theorem rNear_no (sv : Value) (x y : Nat) (k : Int) (hb : onS x y = false ∨ (onS x y = true ∧ k < 0)) (w : World) :
    Calls Try.prog 27 #[sv, .int .u32 (x : Int), .int .u32 (y : Int), .int .i64 k] w fun e w' => e = .returned (.tuple #[.slice none 0 0, .int .i64 2]) ∧ Below w.heap.size w w' := by
  have hc : (2147483648 : Int) ≤ (x : Int) ∨ (¬ (2147483648 : Int) ≤ (x : Int) ∧ (2147483648 : Int) ≤ (y : Int)) ∨ (¬ (2147483648 : Int) ≤ (x : Int) ∧ ¬ (2147483648 : Int) ≤ (y : Int) ∧ k < 0) := by
    rcases hb with hb | ⟨hb, hk⟩
    · unfold onS at hb
      simp at hb
      omega
    · have := (onS_iff x y).1 hb
      omega
  clear hb
  rcases hc with h1 | ⟨h1, h2⟩ | ⟨h1, h2, h3⟩
  all_goals
    go_enter Try.func27, Try.ntmps27
    go_wp2_with fail
    go_ret2
    exact ⟨rfl, Below.refl _ _⟩
set_option maxRecDepth 100000 in
theorem nears_both (l : List Rw) (x y : Nat) (k : Int) (hk : k ≤ 9223372036854775807) (hon : On l) (hmax : l.length ≤ 60) (hri : Rise l) : ∃ (m : List Rw) (E : Int), m.length ≤ 60 ∧
    (∀ (n : Nv) (w : World), NodeAt (fun _ => True) 32 w n l → Calls Try.prog 26 #[nv n, .int .u32 (x : Int), .int .u32 (y : Int), .int .i64 k] w fun e w' => ∃ o cap, e = .returned (.tuple #[.slice o m.length cap, .int .i64 E]) ∧ RowsAt w' o cap m ∧ Below w.heap.size w w') ∧
    (∀ (o : Option Addr) (cap : Nat) (w : World), RowsAt w o cap l → Calls Try.prog 27 #[.slice o l.length cap, .int .u32 (x : Int), .int .u32 (y : Int), .int .i64 k] w fun e w' => ∃ o cap, e = .returned (.tuple #[.slice o m.length cap, .int .i64 E]) ∧ RowsAt w' o cap m ∧ Below w.heap.size w w') := by
  by_cases hok : onS x y = true ∧ 0 ≤ k
  · obtain ⟨kn, rfl⟩ : ∃ kn : Nat, k = (kn : Int) := ⟨k.toNat, by omega⟩
    have hxy := (onS_iff x y).1 hok.1
    obtain ⟨M, hM⟩ := bound_ids l
    refine ⟨(nsort x y M l).take kn, 0, ?_, fun n w hN => near_ok n l 32 x y M kn hok.1 (by omega) w hN hon (by omega) hri hM, fun o cap w hr => (rNear_ok l o cap x y kn M hxy.1 hxy.2 (by omega) w hr hon (by omega) hri hM).mono ?_⟩
    · rw [List.length_take, (nsort_perm x y M l).length_eq]; omega
    · rintro e w' ⟨v, rfl, h1, h2⟩
      obtain ⟨o', cap', rfl, h3⟩ := sl_of_own h1
      exact ⟨o', cap', rfl, h3, h2⟩
  · have hno : onS x y = false ∨ (onS x y = true ∧ k < 0) := by
      cases h : onS x y
      · exact .inl rfl
      · refine .inr ⟨rfl, ?_⟩
        exact Int.lt_of_not_ge fun h2 => hok ⟨h, h2⟩
    refine ⟨[], 2, by simp, fun n w _ => (qNear_no n x y k hno w).mono ?_, fun o cap w _ => (rNear_no _ x y k hno w).mono ?_⟩
    all_goals
      rintro e w' ⟨rfl, h2⟩
      exact ⟨none, 0, rfl, Sl.nil 4 w', h2⟩
set_option maxRecDepth 100000 in
set_option maxHeartbeats 2000000 in
theorem quadNears_walk (l : List Rw) (x y : Nat) (k : Int) (_ : x < 4294967296) (_ : y < 4294967296) (hk : -9223372036854775808 ≤ k ∧ k ≤ 9223372036854775807) (o : Option Addr) (cap : Nat) (w : World) (hr : RowsAt w o cap l) :
    Calls Try.prog 6 #[.slice o l.length cap, .int .u32 (x : Int), .int .u32 (y : Int), .int .i64 k] w fun e w' => e = .returned (.bool true) ∧ Below w.heap.size w w' := by
  have HF : Hid _ := few_any l o cap
  have HR0 : Hid (RowsAt w o cap l) := hr
  have HR : Hid (RowsAt w o cap (l.take 60)) := hr.head 60
  have h60 : (l.take 60).length ≤ 60 := by rw [List.length_take]; omega
  go_enter Try.func6, Try.ntmps6
  go_wp2_with fail
  refine (shown_any _).mono ?_
  rintro e w1 ⟨rfl, b1⟩
  have HB1 : Hid (Below w.heap.size w w1) := b1
  clear b1 hr
  go_wp2_with fail
  refine (HF.out w1 (HR0.out.below HB1.out (Nat.le_refl _))).mono ?_
  rintro e w2 ⟨rfl, h⟩
  have h' := h.symm; clear h; subst h'
  clear HF HR0
  generalize l.take 60 = l at *
  go_wp2_with fail
  have hR1 := HR.out.below HB1.out (Nat.le_refl _)
  cases hrl : rightL l
  · refine (build_no l o cap _ hR1 hrl).mono ?_
    rintro e w2 ⟨rfl, b2⟩
    have HB2 : Hid (Below w.heap.size w w2) := HB1.out.trans (b2.mono HB1.out.size)
    clear b2 hR1
    go_wp2_with fail
    go_ret
    exact ⟨rfl, HB2.out.trans ((below_new w2 _).mono HB2.out.size)⟩
  · have hon := right_on hrl
    have hri := right_rise hrl
    refine (build_ok l o cap _ hR1 hrl).mono ?_
    rintro e w2 ⟨n, rfl, n2, b2⟩
    have HB2 : Hid (Below w.heap.size w w2) := HB1.out.trans (b2.mono HB1.out.size)
    have hnb := (n2.mono (G' := fun _ => True) fun _ _ _ => trivial).below (below_new w2 (.cells #[.int .u32 (n.X : Int), .int .u32 (n.Y : Int), .int .i64 (n.L : Int), .slice n.ro n.rn n.rc, .slice n.ko n.kn n.kc] 33)) (Nat.le_refl _)
    obtain ⟨X, Y, L, ro, rn, rc', ko, kn, kc⟩ := n
    have hb3 := below_new w2 (.cells #[.int .u32 (X : Int), .int .u32 (Y : Int), .int .i64 (L : Int), .slice ro rn rc', .slice ko kn kc] 33)
    obtain ⟨W3, hW3⟩ : ∃ W3, w2.alloc (.cells #[.int .u32 (X : Int), .int .u32 (Y : Int), .int .i64 (L : Int), .slice ro rn rc', .slice ko kn kc] 33) = W3 := ⟨_, rfl⟩
    have hg3 := heap_alloc_new w2 (.cells #[.int .u32 (X : Int), .int .u32 (Y : Int), .int .i64 (L : Int), .slice ro rn rc', .slice ko kn kc] 33)
    simp only at hnb
    rw [hW3] at hb3 hg3 hnb
    have HW3 : Hid _ := hW3
    have HST : Hid (NdAt W3 w2.heap.size X Y L ro rn rc' ko kn kc ∧ NodeAt (fun _ => True) 32 W3 ⟨X, Y, L, ro, rn, rc', ko, kn, kc⟩ l ∧ Below w.heap.size w W3) := ⟨hg3, hnb, HB2.out.trans (hb3.mono HB2.out.size)⟩
    obtain ⟨wl, be, hwn, hA, hB⟩ := nears_both l x y k hk.2 hon h60 hri
    have HLW : Hid (∀ W : World, NodeAt (fun _ => True) 32 W ⟨X, Y, L, ro, rn, rc', ko, kn, kc⟩ l → _) := fun W hW => hA _ W hW
    have HLR : Hid (∀ W : World, RowsAt W o cap l → _) := fun W hW => hB o cap W hW
    clear hA hB
    clear b2 hR1 n2 hb3 hg3 hW3 hnb hon hri HB2 HB1
    simp only [nv] at HLW ⊢
    go_wp2_with fail
    rw [HW3.out]
    clear HW3
    refine (HLW.out _ HST.out.2.1).mono ?_
    rintro e w4 ⟨o5, cap5, rfl, s4, b4⟩
    have HS4 : Hid (RowsAt w4 o5 cap5 wl) := s4
    have HB4 : Hid (Below w.heap.size w w4) := HST.out.2.2.trans (b4.mono HST.out.2.2.size)
    clear b4 s4 HST HLW
    go_wp2_with fail
    refine (HLR.out _ (HR.out.below HB4.out (Nat.le_refl _))).mono ?_
    rintro e w5 ⟨o6, cap6, rfl, s5, b5⟩
    have HSM : Hid (∀ _ : True, _) := fun _ => same_any wl o5 cap5 o6 cap6 w5 (RowsAt.below HS4.out b5 (Nat.le_refl _)) s5
    have HB6 : Hid (Below w.heap.size w w5) := HB4.out.trans (b5.mono HB4.out.size)
    clear b5 HS4 HB4 s5 HLR
    have q1 : (wl.length : Int) ≤ 60 := by omega
    go_wp2_with fail
    refine Calls.mono (HSM.out trivial) ?_
    rintro e w7 ⟨rfl, b7⟩
    have HB7 : Hid (Below w.heap.size w w7) := HB6.out.trans (b7.mono HB6.out.size)
    clear b7 HSM HB6
    go_wp2_with fail
    go_ret
    exact ⟨rfl, HB7.out⟩
end Go.Proofs.Ytaiiclkfnahghaa.Rq
