/- keys.Drop: a ring without a key. -/
import Derived.Test.YtdgllokedcopjaaO
namespace Go.Proofs.Ytdgllokedcopjaa
open Go.RowKit
/-- What Drop tells. -/
def dlS (l : List Ky) (g : Int) : List Ky := if rightS l = true ∧ (findS l g).isSome = true then dropS l g else []
theorem fe_cases (l : List Ky) (g : Int) : (feS l g = 0 ∧ rightS l = true ∧ (findS l g).isSome = true) ∨ ((feS l g = 40 ∨ feS l g = 41) ∧ dlS l g = []) := by
  unfold feS dlS
  cases h1 : rightS l <;> cases h2 : (findS l g).isSome <;> simp
/-- Where the key of a generation stands in a right ring. -/
theorem find_place (l : List Ky) (g : Int) (hr : rightS l = true) (hf : (findS l g).isSome = true) : l[placeS l g]? = some (fkS l g) ∧ (fkS l g).1 = g ∧ (∀ j, j < placeS l g → kat l j ≠ fkS l g) ∧ dropS l g = l.take (placeS l g) ++ l.drop (placeS l g + 1) := by
  obtain ⟨h16, hri⟩ := (right_iff l).1 hr
  obtain ⟨ha, hb⟩ := (rises_iff 0 l).1 hri
  obtain ⟨hh, hiff⟩ := held_find l g hr
  have hp := hiff.1 (by intro e; rw [e] at hf; simp at hf)
  have hfk : fkS l g = kat l (placeS l g) := by
    unfold fkS; rw [if_pos hr, ← hh]; unfold heldS; rw [if_pos hp]
  have hk := kat_some hp.1
  refine ⟨by rw [hfk]; exact hk, by rw [hfk]; exact hp.2, fun j hj e => ?_, ?_⟩
  · have h1 := placeS_lt l g j (kat l j) hj (kat_some (by omega))
    rw [e, hfk, hp.2] at h1
    omega
  · have hd := drop_kat l (placeS l g) hp.1
    unfold dropS
    conv => lhs; rw [← List.take_append_drop (placeS l g) l, hd]
    rw [List.filter_append, List.filter_cons, if_neg (by simp [hp.2])]
    congr 1
    · refine List.filter_eq_self.2 fun x hx => ?_
      obtain ⟨i, hi⟩ := List.mem_iff_getElem?.1 hx
      have hil := (List.getElem?_eq_some_iff.1 hi).1
      rw [List.length_take] at hil
      rw [List.getElem?_take_of_lt (by omega)] at hi
      have := placeS_lt l g i x (by omega) hi
      simp; omega
    · refine List.filter_eq_self.2 fun x hx => ?_
      obtain ⟨i, hi⟩ := List.mem_iff_getElem?.1 hx
      rw [List.getElem?_drop] at hi
      have := hb (placeS l g) (placeS l g + 1 + i) _ x (by omega) hk hi
      have := hp.2
      simp; omega
set_option maxRecDepth 100000 in
set_option maxHeartbeats 2000000 in
theorem drop_any (l : List Ky) (g : Int) (o : Option Addr) (cap : Nat) (w : World) (hr : Ring w o cap l) :
    Calls Try.prog 18 #[.slice o l.length cap, .int .u32 g] w fun e w' => ∃ o' cap', e = .returned (.tuple #[.slice o' (dlS l g).length cap', .int .i64 (feS l g)]) ∧ Ring w' o' cap' (dlS l g) ∧ Below w.heap.size w w' := by
  have HG : Hid (Ring w o cap l) := hr
  have n1 : (l.length : Int) ≤ 9223372036854775807 := by have := hr.1; have := hr.2.1; simp only [maxLen] at this; omega
  clear hr
  go_enter Try.func18, Try.ntmps18
  go_wp2_with fail
  refine (find_any l g o cap w HG.out).mono ?_
  rintro e w1 ⟨rfl, b1⟩
  have B1 : Hid (Below w.heap.size w w1) := b1
  clear b1
  rcases fe_cases l g with ⟨hf0, hR, hF⟩ | ⟨hf, hD⟩
  · obtain ⟨hk, hk1, hkj, hdr⟩ := find_place l g hR hF
    have HD : Hid (dlS l g = l.take (placeS l g) ++ l.drop (placeS l g + 1)) := by refine (?_ : dlS l g = _); unfold dlS; rw [if_pos ⟨hR, hF⟩, hdr]
    have hl16 : l.length ≤ 16 := ((right_iff l).1 hR).1
    have hpl : placeS l g < l.length := (List.getElem?_eq_some_iff.1 hk).1
    rw [hf0]
    obtain ⟨w2, hw2⟩ : ∃ w2, w1.alloc (.cells #[.int .u32 (fkS l g).1, .string (fkS l g).2] 31) = w2 := ⟨_, rfl⟩
    have B2 : Hid (Below w.heap.size w w2) := by rw [← hw2]; exact B1.out.alloc B1.out.size _
    have HI : Hid (Calls Try.prog 25 #[.slice o l.length cap, kv (fkS l g)] w2 fun e w' => e = .returned (.int .i64 (placeS l g : Int)) ∧ Below w2.heap.size w2 w') := index_any l (placeS l g) (fkS l g) hk hkj o cap w2 (HG.out.below B2.out (Nat.le_refl _))
    have HF0 : Hid (feS l g = 0) := hf0
    clear hk hk1 hkj hdr hR hF hf0
    obtain ⟨n, hn⟩ : ∃ n, placeS l g = n := ⟨_, rfl⟩
    rw [hn] at HD HI hpl
    clear hn
    generalize fkS l g = k at *
    obtain ⟨x, s⟩ := k
    unfold kv at HI ⊢
    have HW2 : Hid (w1.alloc (.cells #[.int .u32 x, .string s] 31) = w2) := hw2
    clear hw2
    go_wp2_with fail
    rw [HW2.out]
    refine HI.out.mono ?_
    rintro e w3 ⟨rfl, b3⟩
    have B3 : Hid (Below w.heap.size w w3) := B2.out.trans (b3.mono B2.out.size)
    clear b3 B2 B1 HW2 HI
    have hs3 := run_head3 o l.length cap n (hk := by have := HG.out.1; omega)
    have hst : ∀ W, (Instr.sliceAt 22 (.slice o l.length cap) (some (.int .i64 ((n : Int) + 1))) none none).run Try.prog W = .ok (.slice (if cap = n + 1 then o else o.map (·.add ((n + 1) * 2))) (l.length - (n + 1)) (cap - (n + 1))) W := fun W => by
      have := run_tail o l.length cap (n + 1) W (by omega)
      rwa [show (((n + 1 : Nat)) : Int) = (n : Int) + 1 by omega] at this
    have hn2 : (n : Int) + 1 ≤ 9223372036854775807 := by omega
    have hn0 : (0 : Int) ≤ (n : Int) := by omega
    have hw1 : IntKind.i64.wrap ((n : Int) + 1) = (n : Int) + 1 := by rw [IntKind.wrap_i64]; omega
    go_wp2_with fail
    refine wp_region_any (by kernel_rfl) ?_
    change wpAny _ _ _ _ _ _ _ (World.drew _)
    refine wpAny_take (i := 0) (v := ?_) rfl (by kernel_rfl) (by kernel_rfl) (by kernel_rfl) (fun _ _ _ h => h) (Or.inl ⟨by kernel_rfl, ?_⟩) ?_
    rotate_left
    · intro w
      go_simp
      try with_reducible rfl
    conv in (Act.put _ _ _) => simp only [List.getElem_toArray, List.getElem_cons_succ, List.getElem_cons_zero, Act.put, List.setIfInBounds_toArray, List.set_cons_succ, List.set_cons_zero]
    refine wpAny_take (i := 1) (v := ?_) rfl (by kernel_rfl) (by kernel_rfl) (by kernel_rfl) (fun _ _ _ h => h) (Or.inl ⟨by kernel_rfl, ?_⟩) ?_
    rotate_left
    · intro w
      go_simp
      try with_reducible rfl
    conv in (Act.put _ _ _) => simp only [List.getElem_toArray, List.getElem_cons_succ, List.getElem_cons_zero, Act.put, List.setIfInBounds_toArray, List.set_cons_succ, List.set_cons_zero]
    refine wpAny_take (i := 2) (v := ?_) rfl (by kernel_rfl) (by kernel_rfl) (by kernel_rfl) (fun _ _ _ h => h) (Or.inl ⟨by kernel_rfl, ?_⟩) ?_
    rotate_left
    · intro w
      go_simp
      try with_reducible rfl
    conv in (Act.put _ _ _) => simp only [List.getElem_toArray, List.getElem_cons_succ, List.getElem_cons_zero, Act.put, List.setIfInBounds_toArray, List.set_cons_succ, List.set_cons_zero]
    refine wpAny_take (i := 3) (v := ?_) rfl (by kernel_rfl) (by kernel_rfl) (by kernel_rfl) (fun _ _ _ h => h) (Or.inl ⟨by kernel_rfl, ?_⟩) ?_
    rotate_left
    · intro w
      go_simp
      try with_reducible rfl
    conv in (Act.put _ _ _) => simp only [List.getElem_toArray, List.getElem_cons_succ, List.getElem_cons_zero, Act.put, List.setIfInBounds_toArray, List.set_cons_succ, List.set_cons_zero]
    refine wpAny_take (i := 4) (v := ?_) rfl (by kernel_rfl) (by kernel_rfl) (by kernel_rfl) (fun _ _ _ h => h) (Or.inl ⟨by kernel_rfl, ?_⟩) ?_
    rotate_left
    · intro w
      go_simp
      try with_reducible rfl
    conv in (Act.put _ _ _) => simp only [List.getElem_toArray, List.getElem_cons_succ, List.getElem_cons_zero, Act.put, List.setIfInBounds_toArray, List.set_cons_succ, List.set_cons_zero]
    refine wpAny_take (i := 5) (v := ?_) rfl (by kernel_rfl) (by kernel_rfl) (by kernel_rfl) (fun _ _ _ h => h) (Or.inl ⟨by kernel_rfl, ?_⟩) ?_
    rotate_left
    · intro w
      go_simp
      try with_reducible rfl
    conv in (Act.put _ _ _) => simp only [List.getElem_toArray, List.getElem_cons_succ, List.getElem_cons_zero, Act.put, List.setIfInBounds_toArray, List.set_cons_succ, List.set_cons_zero]
    refine wpAny_take (i := 6) (v := ?_) rfl (by kernel_rfl) (by kernel_rfl) (by kernel_rfl) (fun _ _ _ h => h) (Or.inl ⟨by kernel_rfl, ?_⟩) ?_
    rotate_left
    · intro w
      go_simp
      try with_reducible rfl
    conv in (Act.put _ _ _) => simp only [List.getElem_toArray, List.getElem_cons_succ, List.getElem_cons_zero, Act.put, List.setIfInBounds_toArray, List.set_cons_succ, List.set_cons_zero]
    refine wpAny_take (i := 7) (v := ?_) rfl (by kernel_rfl) (by kernel_rfl) (by kernel_rfl) (fun _ _ _ h => h) (Or.inl ⟨by kernel_rfl, ?_⟩) ?_
    rotate_left
    · intro w
      go_simp
      try with_reducible rfl
    conv in (Act.put _ _ _) => simp only [List.getElem_toArray, List.getElem_cons_succ, List.getElem_cons_zero, Act.put, List.setIfInBounds_toArray, List.set_cons_succ, List.set_cons_zero]
    have RG := HG.out.below B3.out (Nat.le_refl _)
    have Rh := RG.head n n (by omega) (Nat.le_refl _) (by have := HG.out.1; omega)
    have Rt := RG.tail (n + 1) (by omega)
    have hlh : (l.take n).length = n := by rw [List.length_take]; omega
    have hlt : (l.drop (n + 1)).length = l.length - (n + 1) := by rw [List.length_drop]
    generalize (if cap = n + 1 then o else Option.map (fun x => x.add ((n + 1) * 2)) o) = ot at *
    generalize cap - (n + 1) = ct at *
    generalize hm : l.length - (n + 1) = m at *
    obtain ⟨W4, hW4⟩ : ∃ W4, (w3.alloc (.cells #[.slice o n n, .slice ot m ct] 22)).drew = W4 := ⟨_, rfl⟩
    have b4 : Below w3.heap.size w3 W4 := by rw [← hW4]; exact (below_new w3 _).drew
    have H4 : W4.heap[w3.heap.size]? = some (.cells #[.slice o (l.take n).length n, .slice ot (l.drop (n + 1)).length ct] 22 (0, 0)) := by rw [← hW4, hlh, hlt]; exact heap_alloc_new w3 _
    have HCC : Hid (Calls Try.prog 26 #[.slice (some ⟨w3.heap.size, 0, none⟩) 2 2] W4 fun e w' => ∃ o' c', e = .returned (.slice o' (l.take n ++ l.drop (n + 1)).length c') ∧ Ring w' o' c' (l.take n ++ l.drop (n + 1)) ∧ Below W4.heap.size W4 w') :=
      concat_any (l.take n) (l.drop (n + 1)) o ot n ct w3.heap.size W4 (Rh.below b4 (Nat.le_refl _)) (Rt.below b4 (Nat.le_refl _)) (by rw [hlh, hlt]; omega) H4
    have B4 : Hid (Below w.heap.size w W4) := B3.out.trans (b4.mono B3.out.size)
    have HW4 : Hid ((w3.alloc (.cells #[.slice o n n, .slice ot m ct] 22)).drew = W4) := hW4
    clear hW4 b4 H4 RG Rh Rt hlh hlt hst hs3 hm
    generalize l.take n ++ l.drop (n + 1) = out at HD HCC
    refine wpAny_ready (rs := [8]) (by kernel_rfl) (by simp) ?_
    refine (AllReady.cons rfl (fun K hK => ?_) AllReady.nil)
    go_simp
    refine hK _ _ ?_
    clear hK K
    rw [HW4.out]
    clear HW4
    refine wpAny_ready (rs := [9]) (by kernel_rfl) (by simp) ?_
    refine (AllReady.cons rfl (fun K hK => ?_) AllReady.nil)
    go_simp
    refine HCC.out.mono ?_
    rintro e w5 ⟨o5, c5, rfl, r5, b5⟩
    have B5 : Hid (Below w.heap.size w w5) := B4.out.trans (b5.mono B4.out.size)
    have R5 : Hid (Ring w5 o5 c5 out) := r5
    clear r5 b5 B4 HCC
    refine hK _ _ ?_
    clear hK K
    refine wpAny_ready (rs := [10]) (by kernel_rfl) (by simp) ?_
    refine (AllReady.cons rfl (fun K hK => ?_) AllReady.nil)
    go_simp
    refine hK _ _ ?_
    clear hK K
    refine wpAny_ready (rs := [11]) (by kernel_rfl) (by simp) ?_
    refine (AllReady.cons rfl (fun K hK => ?_) AllReady.nil)
    go_simp
    refine hK _ _ ?_
    clear hK K
    refine wpAny_done (by kernel_rfl) ?_ _
    go_wp2_with fail
    refine bodyPost_ret (results_tmp2 rfl _ _ _) rfl ?_
    exact ⟨o5, c5, by rw [HD.out, HF0.out]; rfl, by rw [HD.out]; exact R5.out, B5.out⟩
  · have q0 : ((feS l g) != 0) = true := by rcases hf with h | h <;> rw [h] <;> rfl
    have HD : Hid (dlS l g = []) := hD
    clear hf hD
    obtain ⟨e, he⟩ : ∃ e, feS l g = e := ⟨_, rfl⟩
    have HE : Hid (feS l g = e) := he
    rw [he] at q0 ⊢
    clear he
    generalize fkS l g = k at *
    obtain ⟨x, s⟩ := k
    unfold kv
    go_wp2_with fail
    refine bodyPost_ret (results_tmp2 rfl _ _ _) rfl ?_
    exact ⟨none, 0, by rw [HD.out, HE.out]; rfl, by rw [HD.out]; exact nil_ring _, B1.out.alloc B1.out.size _⟩
/-- Where the walk of the reference's Drop is. -/
def DR (l : List Ky) (g : Int) (w : World) (B n : Nat) (v : Value) (W : World) : Prop :=
  W.ownsRow B 31 2 v ((l.take n).filter fun k => !decide (k.1 = g)).length (cellsOf ((l.take n).filter fun k => !decide (k.1 = g))) ∧ Below w.heap.size w W ∧ B ≤ W.heap.size
set_option maxRecDepth 100000 in
set_option maxHeartbeats 4000000 in
theorem refDrop_any (l : List Ky) (g : Int) (o : Option Addr) (cap : Nat) (w : World) (hr : Ring w o cap l) :
    Calls Try.prog 19 #[.slice o l.length cap, .int .u32 g] w fun e w' => ∃ o' cap', e = .returned (.tuple #[.slice o' (dlS l g).length cap', .int .i64 (feS l g)]) ∧ Ring w' o' cap' (dlS l g) ∧ Below w.heap.size w w' := by
  have HG : Hid (Ring w o cap l) := hr
  clear hr
  go_enter Try.func19, Try.ntmps19
  go_wp2_with fail
  refine (refFind_any l g o cap w HG.out).mono ?_
  rintro e w1 ⟨rfl, b1⟩
  have B1 : Hid (Below w.heap.size w w1) := b1
  clear b1
  rcases fe_cases l g with ⟨hf0, hR, hF⟩ | ⟨hf, hD⟩
  · have HD : Hid (dlS l g = dropS l g) := by refine (?_ : dlS l g = dropS l g); unfold dlS; rw [if_pos ⟨hR, hF⟩]
    have hl16 : (l.length : Int) ≤ 16 := by have := ((right_iff l).1 hR).1; omega
    have HL : Hid (l.length ≤ 16) := ((right_iff l).1 hR).1
    have n0 : (0 : Int) ≤ (l.length : Int) := by omega
    have HF0 : Hid (feS l g = 0) := hf0
    rw [hf0]
    clear hR hF hf0
    generalize fkS l g = k at *
    obtain ⟨x, s⟩ := k
    unfold kv
    go_wp2_with fail
    go_loopw [8, 9] (fun v i wr => ∃ n : Nat, n ≤ l.length ∧ i = .int .i64 (n : Int) ∧ DR l g w w1.heap.size n v wr) (fun _ i _ => l.length - natOf i)
    case atStart => exact ⟨0, by omega, rfl, World.ownsRow_nil _ _ _ _, B1.out.alloc B1.out.size _, by simp⟩
    case round =>
      obtain ⟨n, hn, rfl, hI⟩ := hrel
      have HI : Hid (DR l g w w1.heap.size n u8 wr) := hI
      clear hI
      by_cases hlt : n < l.length
      · have g0 : (n : Int) < (l.length : Int) := by omega
        have g1 : (0 : Int) ≤ (n : Int) := by omega
        obtain ⟨b, off, rfl, hbl, hc⟩ := (HG.out.below HI.out.2.1 (Nat.le_refl _)).2.2.2 (by intro e; rw [e] at hlt; simp at hlt)
        obtain ⟨d1, d2⟩ := hc n hlt
        have HT : Hid (l.take (n + 1) = l.take n ++ [kat l n]) := take_kat l n hlt
        obtain ⟨y, hy⟩ : ∃ y, kat l n = y := ⟨_, rfl⟩
        rw [hy] at d1 d2 HT
        clear hc hy
        obtain ⟨y, t⟩ := y
        simp only at d1 d2
        by_cases hyg : y = g
        · have q4 : (y != g) = false := by simp [hyg]
          have HF : Hid (DR l g w w1.heap.size (n + 1) u8 wr) := by
            refine (?_ : DR l g w w1.heap.size (n + 1) u8 wr)
            unfold DR
            rw [HT.out, List.filter_append, List.filter_cons, if_neg (by simp [hyg]), List.filter_nil, List.append_nil]
            exact HI.out
          clear hyg
          go_wp2_with fail
          go_roundw
          case rel => exact ⟨n + 1, by omega, by go_num, HF.out⟩
          case measure => simp [natOf]; omega
        · have q4 : (y != g) = true := by simp [hyg]
          have hI := HI.out
          have hfl : ((l.take n).filter fun k => !decide (k.1 = g)).length ≤ 16 := by
            have h1 := List.length_filter_le (fun k : Ky => !decide (k.1 = g)) (l.take n)
            rw [List.length_take] at h1
            have := HL.out
            omega
          obtain ⟨v5, W5, hr5, o5, g5⟩ := append_own (wr.alloc (.cells #[.int .u32 y, .string t] 31)) w1.heap.size _ u8 (some ⟨wr.heap.size, 0, none⟩) 1 _ [(y, t)] (hI.1.alloc _) (by simp; have := hI.2.2; omega) (one_ring (heap_alloc_new wr _)) (by simp; omega)
          have hne : ∀ j, u8.ownBlock = some j → w1.heap.size ≤ j := fun j e => (hI.1.lt j e).1
          have hs1 := B1.out.size
          have HF : Hid (DR l g w w1.heap.size (n + 1) v5 W5) := by
            refine (?_ : DR l g w w1.heap.size (n + 1) v5 W5)
            refine ⟨?_, (hI.2.1.alloc hI.2.1.size _).grown g5 (by simp; have := hI.2.2; omega) (fun j e => by have := hne j e; omega), Nat.le_trans hI.2.2 (Nat.le_trans (by simp) g5.size)⟩
            rw [HT.out, List.filter_append, List.filter_cons, if_pos (by simp [hyg]), List.filter_nil]
            simpa using o5
          clear hyg o5 g5 hne hI hfl hs1
          go_wp2_with (at_builtin; refine list_append rfl 22 22 (.tmp 32) (.tmp 37) rfl (vs := u8) (vx := .slice (some ⟨wr.heap.size, 0, none⟩) 1 1) rfl rfl hr5 ?_)
          go_roundw
          case rel => exact ⟨n + 1, by omega, by go_num, HF.out⟩
          case measure => simp [natOf]; omega
      · have g0 : ¬ (n : Int) < (l.length : Int) := by omega
        have hI := HI.out
        unfold DR at hI
        rw [List.take_of_length_le (by omega)] at hI
        obtain ⟨_, o6, c6, rfl, R6⟩ := ring_of_own hI.1
        have HR6 : Hid (Ring wr o6 c6 (dropS l g)) := R6
        have HB6 : Hid (Below w.heap.size w wr) := hI.2.1
        have HE : Hid ((List.filter (fun k : Ky => !decide (k.1 = g)) l) = dropS l g) := rfl
        clear hI R6 HI
        go_wp2_with fail
        refine bodyPost_ret (results_tmp2 rfl _ _ _) rfl ?_
        exact ⟨o6, c6, by rw [HD.out, HF0.out]; rfl, by rw [HD.out]; exact HR6.out, HB6.out⟩
  · have q0 : ((feS l g) != 0) = true := by rcases hf with h | h <;> rw [h] <;> rfl
    have HD : Hid (dlS l g = []) := hD
    clear hf hD
    obtain ⟨e, he⟩ : ∃ e, feS l g = e := ⟨_, rfl⟩
    have HE : Hid (feS l g = e) := he
    rw [he] at q0 ⊢
    clear he
    generalize fkS l g = k at *
    obtain ⟨x, s⟩ := k
    unfold kv
    go_wp2_with fail
    refine bodyPost_ret (results_tmp2 rfl _ _ _) rfl ?_
    exact ⟨none, 0, by rw [HD.out, HE.out]; rfl, by rw [HD.out]; exact nil_ring _, B1.out.alloc B1.out.size _⟩
end Go.Proofs.Ytdgllokedcopjaa
