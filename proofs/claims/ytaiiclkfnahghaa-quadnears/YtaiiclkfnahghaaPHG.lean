/- QuadRings: the nearest rows are those that are no farther than the last of them, but for some that are as far. -/
import Derived.Test.YtaiiclkfnahghaaQBM
import Derived.Test.YtaiiclkfnahghaaPBZ
namespace Go.Proofs.Ytaiiclkfnahghaa.Rq
open Go.RowKit Go.Lib Go.Shelf
open Go.Proofs.Ytaiiclkfnahghaa.Rc
set_option maxRecDepth 100000 in
theorem fars_zero {X Y x y : Nat} (h1 : X < 2147483648 ∧ Y < 2147483648) (h2 : onS x y = true) : fars X Y 0 x y = (Rq.dist X Y x y, 0) := by
  have hr : rightS X Y 0 = true := by
    have : rightS X Y ((0 : Nat) : Int) = true := (rightS_nat X Y 0).2 ⟨by omega, h1.1, h1.2, by simp [flr], by simp [flr]⟩
    simpa using this
  unfold fars
  rw [if_pos ⟨hr, h2⟩, dist_two]
  have hg : ∀ u v : Nat, gapS u v 0 = Rc.dist u v := fun u v => by
    unfold gapS Rc.dist
    simp only [Nat.pow_zero]
    split
    · omega
    · split <;> omega
  unfold farS
  rw [show (0 : Int).toNat = 0 from rfl, hg, hg]
set_option maxRecDepth 100000 in
theorem bound_ids (l : List Rw) : ∃ M, ∀ r ∈ l, r.id < M := by
  induction l with
  | nil => exact ⟨0, by simp⟩
  | cons a l ih =>
    obtain ⟨M, h⟩ := ih
    refine ⟨max M (a.id + 1), fun r hr => ?_⟩
    rcases List.mem_cons.1 hr with rfl | hr
    · omega
    · have := h r hr
      omega
set_option maxRecDepth 100000 in
/-- How many are no farther than the last of the nearest, and how many are nearer. -/
theorem rings_plain {l : List Rw} {x y M kn r : Nat} (hM : ∀ r ∈ l, r.id < M) (hr : ((nsort x y M l).take kn).length = r + 1) :
    r + 1 ≤ (l.filter fun s => decide (Rq.dist s.x s.y x y ≤ Rq.dist (rat ((nsort x y M l).take kn) r).x (rat ((nsort x y M l).take kn) r).y x y)).length ∧
    ∀ m, m + 1 = Rq.dist (rat ((nsort x y M l).take kn) r).x (rat ((nsort x y M l).take kn) r).y x y → (l.filter fun s => decide (Rq.dist s.x s.y x y ≤ m)).length < r + 1 := by
  have hp := nsort_perm x y M l
  have hs := nsort_sorted x y M l
  obtain ⟨S, hS⟩ : ∃ S, nsort x y M l = S := ⟨_, rfl⟩
  rw [hS] at hp hs hr ⊢
  have hrS : r < S.length := by rw [List.length_take] at hr; omega
  have e1 : rat (S.take kn) r = S[r] := by rw [rat_get (by omega), List.getElem_take]
  rw [e1]
  have hmem : S[r] ∈ l := hp.mem_iff.1 (List.getElem_mem hrS)
  constructor
  · rw [← List.countP_eq_length_filter, ← hp.countP_eq]
    have hsp : S.countP (fun s => decide (Rq.dist s.x s.y x y ≤ Rq.dist S[r].x S[r].y x y)) = (S.take (r + 1)).countP (fun s => decide (Rq.dist s.x s.y x y ≤ Rq.dist S[r].x S[r].y x y)) + (S.drop (r + 1)).countP (fun s => decide (Rq.dist s.x s.y x y ≤ Rq.dist S[r].x S[r].y x y)) := by
      rw [← List.countP_append, List.take_append_drop]
    have : (S.take (r + 1)).countP (fun s => decide (Rq.dist s.x s.y x y ≤ Rq.dist S[r].x S[r].y x y)) = (S.take (r + 1)).length := by
      refine List.countP_eq_length.2 fun s hs' => ?_
      obtain ⟨j, hj, rfl⟩ := List.getElem_of_mem hs'
      have hj2 : j < r + 1 ∧ j < S.length := by rw [List.length_take] at hj; omega
      rw [List.getElem_take]
      simp only [decide_eq_true_eq]
      by_cases c : j = r
      · subst c; exact Nat.le_refl _
      · have h1 := List.pairwise_iff_getElem.1 hs j r hj2.2 hrS (by omega)
        refine Nat.le_of_not_lt fun h2 => ?_
        have := (key_lt (M := M) (hM _ hmem) (hM _ (hp.mem_iff.1 (List.getElem_mem hj2.2)))).2 (.inl h2)
        unfold nkey at h1
        omega
    rw [List.length_take] at this
    omega
  · intro m hm
    rw [← List.countP_eq_length_filter, ← hp.countP_eq]
    have h1 := count_first hs hrS (nkey x y M S[r]) (Nat.le_refl _)
    have h2 : S.countP (fun s => decide (Rq.dist s.x s.y x y ≤ m)) ≤ S.countP (fun s => decide (nkey x y M s < nkey x y M S[r])) := List.countP_mono_left fun s hs' h => by
      simp only [decide_eq_true_eq] at h ⊢
      exact (key_lt (hM _ (hp.mem_iff.1 hs')) (hM _ hmem)).2 (.inl (by omega))
    omega
/-- Two cells of a row. -/
def QL (p x u v : Nat) (w : World) : Prop := w.cell? ⟨p, x + 1, none⟩ = some (.int .u32 (u : Int)) ∧ w.cell? ⟨p, x + 2, none⟩ = some (.int .u32 (v : Int))
set_option maxRecDepth 100000 in
set_option maxHeartbeats 4000000 in
theorem quadRings_walk (l : List Rw) (x y : Nat) (k : Int) (_ : x < 4294967296) (_ : y < 4294967296) (hk : -9223372036854775808 ≤ k ∧ k ≤ 9223372036854775807) (o : Option Addr) (cap : Nat) (w : World) (hr : RowsAt w o cap l) :
    Calls Try.prog 10 #[.slice o l.length cap, .int .u32 (x : Int), .int .u32 (y : Int), .int .i64 k] w fun e w' => e = .returned (.bool true) ∧ Below w.heap.size w w' := by
  have HF : Hid _ := few_any l o cap
  have HR0 : Hid (RowsAt w o cap l) := hr
  have HR : Hid (RowsAt w o cap (l.take 60)) := hr.head 60
  have h60 : (l.take 60).length ≤ 60 := by rw [List.length_take]; omega
  go_enter Try.func10, Try.ntmps10
  go_wp2_with fail
  refine (shown_any _).mono ?_
  rintro e w1 ⟨rfl, b1⟩
  have HB1 : Hid (Below w.heap.size w w1) := b1
  clear b1 hr
  go_wp2_with fail
  refine (HF.out w1 (HR0.out.below HB1.out (Nat.le_refl _))).mono ?_
  rintro e w2 ⟨rfl, h⟩
  have h' := h.symm; clear h; subst h'
  clear HF HR0
  generalize l.take 60 = l at *
  go_wp2_with fail
  have hR1 := HR.out.below HB1.out (Nat.le_refl _)
  cases hrl : rightL l
  · refine (build_no l o cap _ hR1 hrl).mono ?_
    rintro e w2 ⟨rfl, b2⟩
    have HB2 : Hid (Below w.heap.size w w2) := HB1.out.trans (b2.mono HB1.out.size)
    clear b2 hR1
    go_wp2_with fail
    go_ret
    exact ⟨rfl, HB2.out.trans ((below_new w2 _).mono HB2.out.size)⟩
  · have hon := right_on hrl
    have hri := right_rise hrl
    refine (build_ok l o cap _ hR1 hrl).mono ?_
    rintro e w2 ⟨n, rfl, n2, b2⟩
    have HB2 : Hid (Below w.heap.size w w2) := HB1.out.trans (b2.mono HB1.out.size)
    have hnb := (n2.mono (G' := fun _ => True) fun _ _ _ => trivial).below (below_new w2 (.cells #[.int .u32 (n.X : Int), .int .u32 (n.Y : Int), .int .i64 (n.L : Int), .slice n.ro n.rn n.rc, .slice n.ko n.kn n.kc] 33)) (Nat.le_refl _)
    obtain ⟨X, Y, L, ro, rn, rc', ko, kn', kc⟩ := n
    have hb3 := below_new w2 (.cells #[.int .u32 (X : Int), .int .u32 (Y : Int), .int .i64 (L : Int), .slice ro rn rc', .slice ko kn' kc] 33)
    obtain ⟨W3, hW3⟩ : ∃ W3, w2.alloc (.cells #[.int .u32 (X : Int), .int .u32 (Y : Int), .int .i64 (L : Int), .slice ro rn rc', .slice ko kn' kc] 33) = W3 := ⟨_, rfl⟩
    have hg3 := heap_alloc_new w2 (.cells #[.int .u32 (X : Int), .int .u32 (Y : Int), .int .i64 (L : Int), .slice ro rn rc', .slice ko kn' kc] 33)
    simp only at hnb
    rw [hW3] at hb3 hg3 hnb
    have HW3 : Hid _ := hW3
    have HST : Hid (NdAt W3 w2.heap.size X Y L ro rn rc' ko kn' kc ∧ NodeAt (fun _ => True) 32 W3 ⟨X, Y, L, ro, rn, rc', ko, kn', kc⟩ l ∧ Below w.heap.size w W3) := ⟨hg3, hnb, HB2.out.trans (hb3.mono HB2.out.size)⟩
    have HON : Hid (On l) := hon
    have HRI : Hid (Rise l) := hri
    clear b2 hR1 n2 hb3 hg3 hW3 hnb hon hri HB2 HB1
    simp only [nv] at ⊢
    have hcase : k < 1 ∨ (¬ k < 1 ∧ (2147483648 : Int) ≤ (x : Int)) ∨ (¬ k < 1 ∧ ¬ (2147483648 : Int) ≤ (x : Int) ∧ (2147483648 : Int) ≤ (y : Int)) ∨ (¬ k < 1 ∧ ¬ (2147483648 : Int) ≤ (x : Int) ∧ ¬ (2147483648 : Int) ≤ (y : Int)) := by omega
    rcases hcase with c1 | ⟨c1, c2⟩ | ⟨c1, c2, c3⟩ | ⟨c1, c2, c3⟩
    · go_wp2_with fail
      rw [HW3.out]
      go_ret
      exact ⟨rfl, HST.out.2.2⟩
    · go_wp2_with fail
      rw [HW3.out]
      go_ret
      exact ⟨rfl, HST.out.2.2⟩
    · go_wp2_with fail
      rw [HW3.out]
      go_ret
      exact ⟨rfl, HST.out.2.2⟩
    · obtain ⟨kn, rfl⟩ : ∃ kn : Nat, k = (kn : Int) := ⟨k.toNat, by omega⟩
      have hxy : onS x y = true := (onS_iff x y).2 ⟨by omega, by omega⟩
      have HXY : Hid (onS x y = true) := hxy
      obtain ⟨M, hM⟩ := bound_ids l
      have HLN : Hid (∀ _ : True, _) := fun _ => near_ok _ l 32 x y M kn hxy (by omega) W3 HST.out.2.1 HON.out (by omega) HRI.out hM
      have HIM : Hid (∀ r ∈ l, r.id < M) := hM
      simp only [nv] at HLN
      clear hxy hM
      go_wp2_with fail
      rw [HW3.out]
      clear HW3
      refine Calls.mono (HLN.out trivial) ?_
      rintro e w4 ⟨o4, cap4, rfl, r4, b4⟩
      have hal : ((nsort x y M l).take kn).length = min kn l.length := by rw [List.length_take, (nsort_perm x y M l).length_eq]
      have HR4 : Hid (RowsAt w4 o4 cap4 ((nsort x y M l).take kn)) := r4
      have HST4 : Hid (NdAt w4 w2.heap.size X Y L ro rn rc' ko kn' kc ∧ NodeAt (fun _ => True) 32 w4 ⟨X, Y, L, ro, rn, rc', ko, kn', kc⟩ l ∧ Below w.heap.size w w4) := ⟨(b4.block _ (Array.getElem?_eq_some_iff.1 HST.out.1).1).trans HST.out.1, NodeAt.below HST.out.2.1 b4 (Nat.le_refl _), HST.out.2.2.trans (b4.mono HST.out.2.2.size)⟩
      have HLS : Hid (∀ _ : True, _) := fun _ => size_any _ l 32 w4 HST4.out.2.1 HON.out (by omega)
      simp only [nv] at HLS
      obtain ⟨a, ha⟩ : ∃ a, (nsort x y M l).take kn = a := ⟨_, rfl⟩
      have HPL : Hid (∀ r, a.length = r + 1 → r + 1 ≤ (l.filter fun s => decide (Rq.dist s.x s.y x y ≤ Rq.dist (rat a r).x (rat a r).y x y)).length ∧ ∀ m, m + 1 = Rq.dist (rat a r).x (rat a r).y x y → (l.filter fun s => decide (Rq.dist s.x s.y x y ≤ m)).length < r + 1) := fun r hr => by
        rw [← ha] at hr ⊢
        exact rings_plain HIM.out hr
      have HMA : Hid (∀ r ∈ a, r.x < 2147483648 ∧ r.y < 2147483648) := fun r hr => HON.out r ((nsort_perm x y M l).mem_iff.1 (List.mem_of_mem_take (ha ▸ hr)))
      rw [ha] at hal HR4 ⊢
      obtain ⟨al, hal'⟩ : ∃ al, a.length = al := ⟨_, rfl⟩
      have HAL : Hid (a.length = al) := hal'
      rw [hal'] at hal ⊢
      obtain ⟨ll, hll⟩ : ∃ ll, l.length = ll := ⟨_, rfl⟩
      have HLLn : Hid (l.length = ll) := hll
      rw [hll] at hal HLS h60
      have q1 : min (kn : Int) (ll : Int) = (al : Int) := by omega
      have q2 : (al : Int) ≤ 60 := by omega
      have hmin : (if (ll : Int) < (kn : Int) then (ll : Int) else (kn : Int)) = (al : Int) := by split <;> omega
      obtain ⟨z0, z1, z2, z3, z4, f0, f1, f2, f3, f4⟩ := node_facts HST4.out.1
      have lg : w2.heap.size < w4.heap.size := (Array.getElem?_eq_some_iff.1 HST4.out.1).1
      clear z0 z1 z2 z3 z4 r4 b4 HLN HST ha hal hal' hll
      go_wp2_with fail
      refine Calls.mono (HLS.out trivial) ?_
      rintro e w5 ⟨rfl, b5⟩
      have HST5 : Hid (NdAt w5 w2.heap.size X Y L ro rn rc' ko kn' kc ∧ NodeAt (fun _ => True) 32 w5 ⟨X, Y, L, ro, rn, rc', ko, kn', kc⟩ l ∧ Below w.heap.size w w5) := ⟨(b5.block _ (Array.getElem?_eq_some_iff.1 HST4.out.1).1).trans HST4.out.1, NodeAt.below HST4.out.2.1 b5 (Nat.le_refl _), HST4.out.2.2.trans (b5.mono HST4.out.2.2.size)⟩
      have HR5 : Hid (RowsAt w5 o4 cap4 a) := RowsAt.below HR4.out b5 (Nat.le_refl _)
      clear b5 HLS HST4 HR4 f0 f1 f2 f3 f4 lg
      by_cases hz : al = 0
      · subst hz
        go_wp2_with fail
        go_ret
        exact ⟨rfl, HST5.out.2.2⟩
      · have q3 : ((al : Int) == 0) = false := by simp; omega
        obtain ⟨r, hr⟩ : ∃ r, al = r + 1 := ⟨al - 1, by omega⟩
        have hra : a.length = r + 1 := by rw [HAL.out]; exact hr
        have HPR : Hid _ := HPL.out r hra
        obtain ⟨pb, off, rfl, hbl, hc⟩ := HR5.out.row (show r < a.length by omega)
        obtain ⟨-, d1, d2, -⟩ := hc r (by omega)
        have onr := HMA.out _ (rat_mem (show r < a.length by omega))
        have HFZ : Hid _ := fars_zero (x := x) (y := y) (X := (rat a r).x) (Y := (rat a r).y) onr HXY.out
        generalize rat a r = rr at *
        obtain ⟨id, u, v, sv⟩ := rr
        simp only at d1 d2 onr HPR HFZ
        have HCF : Hid _ := far_any u v 0 x y (by omega) (by omega)
        rw [HFZ.out] at HCF
        simp only [cv, fv] at HCF
        obtain ⟨D, hD⟩ : ∃ D, Rq.dist u v x y = D := ⟨_, rfl⟩
        rw [hD] at HCF HPR
        have hDb : D < 18446744073709551616 := by
          have s1 := sq_lt u x onr.1 (by omega)
          have s2 := sq_lt v y onr.2 (by omega)
          rw [← hD]; unfold Rq.dist; omega
        have HSW : Hid (QL pb (off + r * 4) u v w5.drew) := ⟨d1, d2⟩
        have HB5 : Hid (w5.cell? ⟨pb, off + r * 4 + 1, none⟩ = some (.int .u32 (u : Int)) ∧ w5.cell? ⟨pb, off + r * 4 + 2, none⟩ = some (.int .u32 (v : Int))) := ⟨d1, d2⟩
        have q4 : (al : Int) - 1 = (r : Int) := by omega
        have q5 : IntKind.i64.wrap (r : Int) = (r : Int) := wrap_i64 (by omega) (by omega)
        have q6 : (r : Int) < (al : Int) := by omega
        have q7 : (0 : Int) ≤ (r : Int) := by omega
        have HRr : Hid (al = r + 1) := hr
        clear hc d1 d2 onr HFZ hD hr hra HR5 HPL HMA
        go_wp2_with fail
        refine wp_region_held (S := QL pb (off + r * 4) u v) (by kernel_rfl) ?_
        change wpAnyH _ _ _ _ _ _ _ _ (World.drew _)
        refine wpAnyH_take (i := 0) (v := ?_) rfl (by kernel_rfl) (by kernel_rfl) (by kernel_rfl) (fun _ _ _ h => h) (Or.inl ⟨by kernel_rfl, ?_⟩) HSW.out ?_
        rotate_left
        · intro w hS
          obtain ⟨e1, e2⟩ := hS
          go_simp
          try with_reducible rfl
        conv in (Act.put _ _ _) => simp only [List.getElem_toArray, List.getElem_cons_succ, List.getElem_cons_zero, Act.put, List.setIfInBounds_toArray, List.set_cons_succ, List.set_cons_zero]
        refine wpAnyH_take (i := 1) (v := ?_) rfl (by kernel_rfl) (by kernel_rfl) (by kernel_rfl) (fun _ _ _ h => h) (Or.inl ⟨by kernel_rfl, ?_⟩) HSW.out ?_
        rotate_left
        · intro w hS
          obtain ⟨e1, e2⟩ := hS
          go_simp
          try with_reducible rfl
        conv in (Act.put _ _ _) => simp only [List.getElem_toArray, List.getElem_cons_succ, List.getElem_cons_zero, Act.put, List.setIfInBounds_toArray, List.set_cons_succ, List.set_cons_zero]
        refine wpAnyH_take (i := 2) (v := ?_) rfl (by kernel_rfl) (by kernel_rfl) (by kernel_rfl) (fun _ _ _ h => h) (Or.inl ⟨by kernel_rfl, ?_⟩) HSW.out ?_
        rotate_left
        · intro w hS
          obtain ⟨e1, e2⟩ := hS
          go_simp
          try with_reducible rfl
        conv in (Act.put _ _ _) => simp only [List.getElem_toArray, List.getElem_cons_succ, List.getElem_cons_zero, Act.put, List.setIfInBounds_toArray, List.set_cons_succ, List.set_cons_zero]
        refine wpAnyH_take (i := 3) (v := .int .i64 (r : Int)) rfl (by kernel_rfl) (by kernel_rfl) (by kernel_rfl) (fun _ _ _ h => h) (Or.inl ⟨by kernel_rfl, ?_⟩) HSW.out ?_
        · intro w hS
          go_simp
          try rw [q4]
          try rw [q5]
        conv in (Act.put _ _ _) => simp only [List.getElem_toArray, List.getElem_cons_succ, List.getElem_cons_zero, Act.put, List.setIfInBounds_toArray, List.set_cons_succ, List.set_cons_zero]
        refine wpAnyH_take (i := 4) (v := ?_) rfl (by kernel_rfl) (by kernel_rfl) (by kernel_rfl) (fun _ _ _ h => h) (Or.inl ⟨by kernel_rfl, ?_⟩) HSW.out ?_
        rotate_left
        · intro w hS
          obtain ⟨e1, e2⟩ := hS
          go_simp
          try with_reducible rfl
        conv in (Act.put _ _ _) => simp only [List.getElem_toArray, List.getElem_cons_succ, List.getElem_cons_zero, Act.put, List.setIfInBounds_toArray, List.set_cons_succ, List.set_cons_zero]
        refine wpAnyH_take (i := 5) (v := ?_) rfl (by kernel_rfl) (by kernel_rfl) (by kernel_rfl) (fun _ _ _ h => h) (Or.inl ⟨by kernel_rfl, ?_⟩) HSW.out ?_
        rotate_left
        · intro w hS
          obtain ⟨e1, e2⟩ := hS
          go_simp
          try with_reducible rfl
        conv in (Act.put _ _ _) => simp only [List.getElem_toArray, List.getElem_cons_succ, List.getElem_cons_zero, Act.put, List.setIfInBounds_toArray, List.set_cons_succ, List.set_cons_zero]
        refine wpAnyH_take (i := 6) (v := ?_) rfl (by kernel_rfl) (by kernel_rfl) (by kernel_rfl) (fun _ _ _ h => h) (Or.inl ⟨by kernel_rfl, ?_⟩) HSW.out ?_
        rotate_left
        · intro w hS
          obtain ⟨e1, e2⟩ := hS
          go_simp
          try with_reducible rfl
        conv in (Act.put _ _ _) => simp only [List.getElem_toArray, List.getElem_cons_succ, List.getElem_cons_zero, Act.put, List.setIfInBounds_toArray, List.set_cons_succ, List.set_cons_zero]
        refine wpAnyH_take (i := 7) (v := ?_) rfl (by kernel_rfl) (by kernel_rfl) (by kernel_rfl) (fun _ _ _ h => h) (Or.inl ⟨by kernel_rfl, ?_⟩) HSW.out ?_
        rotate_left
        · intro w hS
          obtain ⟨e1, e2⟩ := hS
          go_simp
          try with_reducible rfl
        conv in (Act.put _ _ _) => simp only [List.getElem_toArray, List.getElem_cons_succ, List.getElem_cons_zero, Act.put, List.setIfInBounds_toArray, List.set_cons_succ, List.set_cons_zero]
        refine wpAnyH_take (i := 8) (v := ?_) rfl (by kernel_rfl) (by kernel_rfl) (by kernel_rfl) (fun _ _ _ h => h) (Or.inl ⟨by kernel_rfl, ?_⟩) HSW.out ?_
        rotate_left
        · intro w hS
          obtain ⟨e1, e2⟩ := hS
          go_simp
          try with_reducible rfl
        conv in (Act.put _ _ _) => simp only [List.getElem_toArray, List.getElem_cons_succ, List.getElem_cons_zero, Act.put, List.setIfInBounds_toArray, List.set_cons_succ, List.set_cons_zero]
        refine wpAnyH_take (i := 9) (v := ?_) rfl (by kernel_rfl) (by kernel_rfl) (by kernel_rfl) (fun _ _ _ h => h) (Or.inl ⟨by kernel_rfl, ?_⟩) HSW.out ?_
        rotate_left
        · intro w hS
          obtain ⟨e1, e2⟩ := hS
          go_simp
          try with_reducible rfl
        conv in (Act.put _ _ _) => simp only [List.getElem_toArray, List.getElem_cons_succ, List.getElem_cons_zero, Act.put, List.setIfInBounds_toArray, List.set_cons_succ, List.set_cons_zero]
        refine wpAnyH_take (i := 10) (v := .int .i64 (r : Int)) rfl (by kernel_rfl) (by kernel_rfl) (by kernel_rfl) (fun _ _ _ h => h) (Or.inl ⟨by kernel_rfl, ?_⟩) HSW.out ?_
        · intro w hS
          go_simp
          try rw [q4]
          try rw [q5]
        conv in (Act.put _ _ _) => simp only [List.getElem_toArray, List.getElem_cons_succ, List.getElem_cons_zero, Act.put, List.setIfInBounds_toArray, List.set_cons_succ, List.set_cons_zero]
        refine wpAnyH_take (i := 11) (v := ?_) rfl (by kernel_rfl) (by kernel_rfl) (by kernel_rfl) (fun _ _ _ h => h) (Or.inl ⟨by kernel_rfl, ?_⟩) HSW.out ?_
        rotate_left
        · intro w hS
          obtain ⟨e1, e2⟩ := hS
          go_simp
          try with_reducible rfl
        conv in (Act.put _ _ _) => simp only [List.getElem_toArray, List.getElem_cons_succ, List.getElem_cons_zero, Act.put, List.setIfInBounds_toArray, List.set_cons_succ, List.set_cons_zero]
        refine wpAnyH_take (i := 12) (v := ?_) rfl (by kernel_rfl) (by kernel_rfl) (by kernel_rfl) (fun _ _ _ h => h) (Or.inl ⟨by kernel_rfl, ?_⟩) HSW.out ?_
        rotate_left
        · intro w hS
          obtain ⟨e1, e2⟩ := hS
          go_simp
          try with_reducible rfl
        conv in (Act.put _ _ _) => simp only [List.getElem_toArray, List.getElem_cons_succ, List.getElem_cons_zero, Act.put, List.setIfInBounds_toArray, List.set_cons_succ, List.set_cons_zero]
        refine wpAnyH_take (i := 13) (v := ?_) rfl (by kernel_rfl) (by kernel_rfl) (by kernel_rfl) (fun _ _ _ h => h) (Or.inl ⟨by kernel_rfl, ?_⟩) HSW.out ?_
        rotate_left
        · intro w hS
          obtain ⟨e1, e2⟩ := hS
          go_simp
          try with_reducible rfl
        conv in (Act.put _ _ _) => simp only [List.getElem_toArray, List.getElem_cons_succ, List.getElem_cons_zero, Act.put, List.setIfInBounds_toArray, List.set_cons_succ, List.set_cons_zero]
        refine wpAnyH_take (i := 14) (v := ?_) rfl (by kernel_rfl) (by kernel_rfl) (by kernel_rfl) (fun _ _ _ h => h) (Or.inl ⟨by kernel_rfl, ?_⟩) HSW.out ?_
        rotate_left
        · intro w hS
          obtain ⟨e1, e2⟩ := hS
          go_simp
          try with_reducible rfl
        conv in (Act.put _ _ _) => simp only [List.getElem_toArray, List.getElem_cons_succ, List.getElem_cons_zero, Act.put, List.setIfInBounds_toArray, List.set_cons_succ, List.set_cons_zero]
        refine wpAnyH_take (i := 15) (v := ?_) rfl (by kernel_rfl) (by kernel_rfl) (by kernel_rfl) (fun _ _ _ h => h) (Or.inl ⟨by kernel_rfl, ?_⟩) HSW.out ?_
        rotate_left
        · intro w hS
          obtain ⟨e1, e2⟩ := hS
          go_simp
          try with_reducible rfl
        conv in (Act.put _ _ _) => simp only [List.getElem_toArray, List.getElem_cons_succ, List.getElem_cons_zero, Act.put, List.setIfInBounds_toArray, List.set_cons_succ, List.set_cons_zero]
        refine wpAnyH_take (i := 16) (v := ?_) rfl (by kernel_rfl) (by kernel_rfl) (by kernel_rfl) (fun _ _ _ h => h) (Or.inl ⟨by kernel_rfl, ?_⟩) HSW.out ?_
        rotate_left
        · intro w hS
          obtain ⟨e1, e2⟩ := hS
          go_simp
          try with_reducible rfl
        conv in (Act.put _ _ _) => simp only [List.getElem_toArray, List.getElem_cons_succ, List.getElem_cons_zero, Act.put, List.setIfInBounds_toArray, List.set_cons_succ, List.set_cons_zero]
        refine readyH 17 _ (by kernel_rfl) rfl (by kernel_rfl) (fun K hK => ?_)
        go_simp
        refine (HCF.out _).mono ?_
        rintro e w6 ⟨rfl, b6⟩
        replace b6 : Below w5.heap.size w5 w6 := (Below.refl _ w5).drew.trans b6
        replace HSW : Hid (QL pb (off + r * 4) u v w6) := ⟨(World.cell?_of_block (a := ⟨pb, off + r * 4 + 1, none⟩) (b6.block _ hbl)).trans HB5.out.1, (World.cell?_of_block (a := ⟨pb, off + r * 4 + 2, none⟩) (b6.block _ hbl)).trans HB5.out.2⟩
        have HST6 : Hid (NdAt w6 w2.heap.size X Y L ro rn rc' ko kn' kc ∧ NodeAt (fun _ => True) 32 w6 ⟨X, Y, L, ro, rn, rc', ko, kn', kc⟩ l ∧ Below w.heap.size w w6) := ⟨(b6.block _ (Array.getElem?_eq_some_iff.1 HST5.out.1).1).trans HST5.out.1, NodeAt.below HST5.out.2.1 b6 (Nat.le_refl _), HST5.out.2.2.trans (b6.mono HST5.out.2.2.size)⟩
        refine hK _ _ HSW.out ?_
        clear hK K b6 HCF HST5 HB5
        refine wpAnyH_take (i := 18) (v := ?_) rfl (by kernel_rfl) (by kernel_rfl) (by kernel_rfl) (fun _ _ _ h => h) (Or.inl ⟨by kernel_rfl, ?_⟩) HSW.out ?_
        rotate_left
        · intro w hS
          obtain ⟨e1, e2⟩ := hS
          go_simp
          try with_reducible rfl
        conv in (Act.put _ _ _) => simp only [List.getElem_toArray, List.getElem_cons_succ, List.getElem_cons_zero, Act.put, List.setIfInBounds_toArray, List.set_cons_succ, List.set_cons_zero]
        refine wpAnyH_take (i := 19) (v := ?_) rfl (by kernel_rfl) (by kernel_rfl) (by kernel_rfl) (fun _ _ _ h => h) (Or.inl ⟨by kernel_rfl, ?_⟩) HSW.out ?_
        rotate_left
        · intro w hS
          obtain ⟨e1, e2⟩ := hS
          go_simp
          try with_reducible rfl
        conv in (Act.put _ _ _) => simp only [List.getElem_toArray, List.getElem_cons_succ, List.getElem_cons_zero, Act.put, List.setIfInBounds_toArray, List.set_cons_succ, List.set_cons_zero]
        refine wpAnyH_take (i := 20) (v := ?_) rfl (by kernel_rfl) (by kernel_rfl) (by kernel_rfl) (fun _ _ _ h => h) (Or.inl ⟨by kernel_rfl, ?_⟩) HSW.out ?_
        rotate_left
        · intro w hS
          obtain ⟨e1, e2⟩ := hS
          go_simp
          try with_reducible rfl
        conv in (Act.put _ _ _) => simp only [List.getElem_toArray, List.getElem_cons_succ, List.getElem_cons_zero, Act.put, List.setIfInBounds_toArray, List.set_cons_succ, List.set_cons_zero]
        refine wpAnyH_take (i := 21) (v := ?_) rfl (by kernel_rfl) (by kernel_rfl) (by kernel_rfl) (fun _ _ _ h => h) (Or.inl ⟨by kernel_rfl, ?_⟩) HSW.out ?_
        rotate_left
        · intro w hS
          obtain ⟨e1, e2⟩ := hS
          go_simp
          try with_reducible rfl
        conv in (Act.put _ _ _) => simp only [List.getElem_toArray, List.getElem_cons_succ, List.getElem_cons_zero, Act.put, List.setIfInBounds_toArray, List.set_cons_succ, List.set_cons_zero]
        refine wpAnyH_take (i := 22) (v := ?_) rfl (by kernel_rfl) (by kernel_rfl) (by kernel_rfl) (fun _ _ _ h => h) (Or.inl ⟨by kernel_rfl, ?_⟩) HSW.out ?_
        rotate_left
        · intro w hS
          obtain ⟨e1, e2⟩ := hS
          go_simp
          try with_reducible rfl
        conv in (Act.put _ _ _) => simp only [List.getElem_toArray, List.getElem_cons_succ, List.getElem_cons_zero, Act.put, List.setIfInBounds_toArray, List.set_cons_succ, List.set_cons_zero]
        refine wpAnyH_done (by kernel_rfl) ?_ _
        have HRD : Hid (∀ m : Nat, ∀ W : World, NodeAt (fun _ => True) 32 W ⟨X, Y, L, ro, rn, rc', ko, kn', kc⟩ l → _) := fun m W hW => qRound_any _ l 32 x y m W hW HON.out (by have := HLLn.out; omega) HRI.out
        have hre : rndE x y = 0 := by unfold rndE; rw [if_pos HXY.out]
        rw [hre] at HRD
        simp only [nv] at HRD
        have HRV : Hid (∀ m, rndV l x y m = l.filter fun s => decide (Rq.dist s.x s.y x y ≤ m)) := fun m => by unfold rndV; rw [if_pos HXY.out]
        obtain ⟨z0, z1, z2, z3, z4, f0, f1, f2, f3, f4⟩ := node_facts HST6.out.1
        have lg : w2.heap.size < w6.heap.size := (Array.getElem?_eq_some_iff.1 HST6.out.1).1
        clear z0 z1 z2 z3 z4 hre HSW
        go_wp2_with fail
        refine (HRD.out D _ HST6.out.2.1).mono ?_
        rintro e w7 ⟨vb, rfl, ob, b7⟩
        obtain ⟨o7, cap7, rfl, -⟩ := sl_of_own ob
        have HST7 : Hid (NdAt w7 w2.heap.size X Y L ro rn rc' ko kn' kc ∧ NodeAt (fun _ => True) 32 w7 ⟨X, Y, L, ro, rn, rc', ko, kn', kc⟩ l ∧ Below w.heap.size w w7) := ⟨(b7.block _ (Array.getElem?_eq_some_iff.1 HST6.out.1).1).trans HST6.out.1, NodeAt.below HST6.out.2.1 b7 (Nat.le_refl _), HST6.out.2.2.trans (b7.mono HST6.out.2.2.size)⟩
        obtain ⟨bl, hbl'⟩ : ∃ bl, (rndV l x y D).length = bl := ⟨_, rfl⟩
        have hb1 : r + 1 ≤ bl := by rw [← hbl', HRV.out]; exact HPR.out.1
        have hb2 : bl ≤ 60 := by rw [← hbl', HRV.out]; exact Nat.le_trans (List.length_filter_le _ _) (by rw [HLLn.out]; exact h60)
        rw [hbl']
        have q8 : (al : Int) ≤ (bl : Int) := by have := HRr.out; omega
        have q9 : (bl : Int) ≤ 60 := by omega
        clear ob b7 HST6 hbl' f0 f1 f2 f3 f4 lg
        by_cases hD0 : D = 0
        · subst hD0
          go_wp2_with fail
          go_ret
          exact ⟨rfl, HST7.out.2.2⟩
        · obtain ⟨m, hm⟩ : ∃ m, D = m + 1 := ⟨D - 1, by omega⟩
          have q10 : ((D : Int) == 0) = false := by simp; omega
          have q11 : (D : Int) - 1 = (m : Int) := by omega
          have HPm : Hid _ := HPR.out.2 m hm.symm
          have q12 : IntKind.u64.wrap (m : Int) = (m : Int) := IntWalk.u64_in _ ⟨by omega, by omega⟩
          obtain ⟨z0, z1, z2, z3, z4, f0, f1, f2, f3, f4⟩ := node_facts HST7.out.1
          have lg : w2.heap.size < w7.heap.size := (Array.getElem?_eq_some_iff.1 HST7.out.1).1
          clear z0 z1 z2 z3 z4 hm
          go_wp2_with fail
          refine (HRD.out m _ HST7.out.2.1).mono ?_
          rintro e w8 ⟨vc, rfl, oc, b8⟩
          obtain ⟨o8, cap8, rfl, -⟩ := sl_of_own oc
          have HB8 : Hid (Below w.heap.size w w8) := HST7.out.2.2.trans (b8.mono HST7.out.2.2.size)
          obtain ⟨cl, hcl'⟩ : ∃ cl, (rndV l x y m).length = cl := ⟨_, rfl⟩
          have hc1 : cl < r + 1 := by rw [← hcl', HRV.out]; exact HPm.out
          rw [hcl']
          have q13 : (cl : Int) < (al : Int) := by have := HRr.out; omega
          have q14 : (cl : Int) ≤ 60 := by omega
          clear oc b8 HST7 hcl' f0 f1 f2 f3 f4 lg
          go_wp2_with fail
          go_ret
          exact ⟨rfl, HB8.out⟩
end Go.Proofs.Ytaiiclkfnahghaa.Rq
