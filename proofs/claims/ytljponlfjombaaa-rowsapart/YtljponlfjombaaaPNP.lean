/- A page is the page of its bytes. -/
import Derived.Test.YtljponlfjombaaaPNN
import Derived.Test.YtljponlfjombaaaPNE
namespace Go.Proofs.Ytljponlfjombaaa.Rw
open Go.RowKit Go.Lib Go.Shelf
open Go.Proofs.Ytljponlfjombaaa.Rc Go.Proofs.Ytljponlfjombaaa.Rq
/-- Two boxes of pages. -/
def PCC (g : Nat) (q : Pg) (g' : Nat) (q' : Pg) (w : World) : Prop := PC g q w ∧ PC g' q' w
set_option maxRecDepth 100000 in
set_option maxHeartbeats 4000000 in
theorem rowsBack_walk (q : Pg) (P : Pp) (w : World) (h : PAt w q P) (ho : okP P) :
    Calls Try.prog 6 #[gv q] w fun e w' => e = .returned (.bool true) ∧ Below w.heap.size w w' := by
  have HSH : Hid _ := shown_any
  have HCU : Hid (∀ w', PAt w' q P → Calls Try.prog 14 #[.agg #[.int .i64 q.k, .int .u32 (q.X : Int), .int .u32 (q.Y : Int), .int .i64 q.L, .slice q.ro q.rn q.rc, .slice q.ko q.kn q.kc, .int .u32 (q.np : Int), .string q.nt]] w' fun e w'' => ∃ q' v', v' = gv q' ∧ e = .returned v' ∧ PAt w'' q' (cutP P) ∧ Below w'.heap.size w' w'') := fun w' h => (cut_p q P w' h).mono fun e w'' ⟨q', h1, h2⟩ => ⟨q', _, rfl, h1, h2⟩
  have HEN : Hid _ := fun q' w' (h : PAt w' q' (cutP P)) => encode_p q' (cutP P) w' h (cut_ok ho)
  have HR1 : Hid _ := fun q' w' (h : PAt w' q' (cutP P)) => right_p q' (cutP P) w' h
  have HDE : Hid _ := decode_any
  have HSM : Hid _ := fun a b w' (ha : PAt w' a (cutP P)) (hb : PAt w' b (cutP P)) => ssame_p a b (cutP P) (cutP P) w' ha hb
  rw [eqP_self] at HSM
  have hcs := enc_cases (cutP P) (cut_ok ho)
  obtain ⟨s, hs⟩ : ∃ s, encS (cutP P) = s := ⟨_, rfl⟩
  rw [hs] at HEN hcs
  clear hs
  have HCS : Hid _ := hcs
  have h0 := below_new w (gcs q)
  have HB0 : Hid (Below w.heap.size w (w.alloc (gcs q))) := h0
  have HG0 : Hid ((w.alloc (gcs q)).heap[w.heap.size]? = some (gcs q)) := heap_alloc_new w _
  have HP0 : Hid (PAt (w.alloc (gcs q)) q P) := h.below h0 (Nat.le_refl _)
  obtain ⟨W0, hW0⟩ : ∃ W0, w.alloc (gcs q) = W0 := ⟨_, rfl⟩
  rw [hW0] at HB0 HG0 HP0
  obtain ⟨qk, qX, qY, qL, qro, qrn, qrc, qko, qkn, qkc, qnp, qnt⟩ := q
  have HW0 : Hid (w.alloc (.cells #[.int .i64 qk, .int .u32 (qX : Int), .int .u32 (qY : Int), .int .i64 qL, .slice qro qrn qrc, .slice qko qkn qkc, .int .u32 (qnp : Int), .string qnt] 30) = W0) := hW0
  clear h0 h ho hW0 hcs
  simp only at HCU
  simp only [gv]
  go_enter Try.func6, Try.ntmps6
  go_wp2_with fail
  rw [HW0.out]
  clear HW0
  refine (HSH.out W0).mono ?_
  rintro e w1 ⟨rfl, b1⟩
  have HB1 : Hid (Below w.heap.size w w1) := HB0.out.trans (b1.mono HB0.out.size)
  have HG1 : Hid (w1.heap[w.heap.size]? = some _) := (b1.block _ (Array.getElem?_eq_some_iff.1 HG0.out).1).trans HG0.out
  have HP1 : Hid _ := HP0.out.below b1 (Nat.le_refl _)
  obtain ⟨⟨c0, c1, c2, c3, c4, c5, c6, c7⟩, lB⟩ := pg_cells HG1.out
  simp only at c0 c1 c2 c3 c4 c5 c6 c7
  clear b1 HB0 HG0 HP0
  go_wp2_with fail
  refine (HCU.out w1 HP1.out).mono ?_
  rintro e w2 ⟨q1, v1, hv1, rfl, p1, b2⟩
  have HB2 : Hid (Below w.heap.size w w2) := HB1.out.trans (b2.mono HB1.out.size)
  have HG2 : Hid (w2.heap[w.heap.size]? = some _) := (b2.block _ (Array.getElem?_eq_some_iff.1 HG1.out).1).trans HG1.out
  have HP2 : Hid _ := HP1.out.below b2 (Nat.le_refl _)
  have HC2 : Hid (∀ _ : True, _) := fun _ => HEN.out q1 w2 p1
  rw [← hv1] at HC2
  clear b2 p1 HB1 HG1 HP1 c0 c1 c2 c3 c4 c5 c6 c7 lB hv1
  go_wp2_with fail
  refine (HC2.out trivial).mono ?_
  rintro e w3 ⟨rfl, b3⟩
  have HB3 : Hid (Below w.heap.size w w3) := HB2.out.trans (b3.mono HB2.out.size)
  have HG3 : Hid (w3.heap[w.heap.size]? = some (gcs ⟨qk, qX, qY, qL, qro, qrn, qrc, qko, qkn, qkc, qnp, qnt⟩)) := (b3.block _ (Array.getElem?_eq_some_iff.1 HG2.out).1).trans HG2.out
  have HP3 : Hid (PAt w3 ⟨qk, qX, qY, qL, qro, qrn, qrc, qko, qkn, qkc, qnp, qnt⟩ P) := HP2.out.below b3 (Nat.le_refl _)
  obtain ⟨⟨c0, c1, c2, c3, c4, c5, c6, c7⟩, lB⟩ := pg_cells HG3.out
  simp only at c0 c1 c2 c3 c4 c5 c6 c7
  clear b3 HB2 HC2 HG2 HP2
  rcases HCS.out with ⟨x1, x2, x3⟩ | ⟨x1, -, -, x3, x4, x5, x6, -, -⟩
  · rw [x1]
    subst x2
    rw [x3] at HR1
    clear x1 x3 HCS HEN HDE HSM
    go_wp2_with fail
    refine (HCU.out w3 HP3.out).mono ?_
    rintro e w4 ⟨q4, v4, hv4, rfl, p4, b4⟩
    have HB4 : Hid (Below w.heap.size w w4) := HB3.out.trans (b4.mono HB3.out.size)
    have HC4 : Hid (∀ _ : True, _) := fun _ => HR1.out q4 w4 p4
    rw [← hv4] at HC4
    clear b4 p4 hv4 c0 c1 c2 c3 c4 c5 c6 c7 lB
    go_wp2_with fail
    refine (HC4.out trivial).mono ?_
    rintro e w5 ⟨rfl, b5⟩
    have HB5 : Hid (Below w.heap.size w w5) := HB4.out.trans (b5.mono HB4.out.size)
    clear b5
    go_wp2_with fail
    go_ret
    exact ⟨rfl, HB5.out⟩
  · rw [x1]
    have HD : Hid _ := HDE.out s
    have d1 : decE s = 0 := by unfold decE; rw [x5]; rfl
    rw [d1, x6] at HD
    have z1 : (s.size : Int) ≤ 198 := by omega
    have z0 : (0 : Int) < (s.size : Int) := by omega
    clear x1 x3 x4 x5 x6 d1 HCS HEN HDE c0 c1 c2 c3 c4 c5 c6 c7 lB
    go_wp2_with fail
    refine (HD.out w3).mono ?_
    rintro e w4 ⟨q2, rfl, p2, b4⟩
    obtain ⟨k2, X2, Y2, L2, ro2, rn2, rc2, ko2, kn2, kc2, np2, nt2⟩ := q2
    simp only [gv]
    have HB4 : Hid (Below w.heap.size w w4) := HB3.out.trans (b4.mono HB3.out.size)
    have h5 := below_new w4 (gcs ⟨k2, X2, Y2, L2, ro2, rn2, rc2, ko2, kn2, kc2, np2, nt2⟩)
    have hb5 : Below w3.heap.size w3 (w4.alloc (gcs ⟨k2, X2, Y2, L2, ro2, rn2, rc2, ko2, kn2, kc2, np2, nt2⟩)) := b4.trans (h5.mono b4.size)
    have HB5 : Hid (Below w.heap.size w (w4.alloc (gcs ⟨k2, X2, Y2, L2, ro2, rn2, rc2, ko2, kn2, kc2, np2, nt2⟩))) := HB4.out.trans (h5.mono HB4.out.size)
    have HG5 : Hid ((w4.alloc (gcs ⟨k2, X2, Y2, L2, ro2, rn2, rc2, ko2, kn2, kc2, np2, nt2⟩)).heap[w.heap.size]? = some (gcs ⟨qk, qX, qY, qL, qro, qrn, qrc, qko, qkn, qkc, qnp, qnt⟩)) := (hb5.block _ (Array.getElem?_eq_some_iff.1 HG3.out).1).trans HG3.out
    have HN5 : Hid ((w4.alloc (gcs ⟨k2, X2, Y2, L2, ro2, rn2, rc2, ko2, kn2, kc2, np2, nt2⟩)).heap[w4.heap.size]? = some (gcs ⟨k2, X2, Y2, L2, ro2, rn2, rc2, ko2, kn2, kc2, np2, nt2⟩)) := heap_alloc_new w4 _
    have HP5 : Hid (PAt (w4.alloc (gcs ⟨k2, X2, Y2, L2, ro2, rn2, rc2, ko2, kn2, kc2, np2, nt2⟩)) ⟨qk, qX, qY, qL, qro, qrn, qrc, qko, qkn, qkc, qnp, qnt⟩ P) := HP3.out.below hb5 (Nat.le_refl _)
    have HQ5 : Hid (PAt (w4.alloc (gcs ⟨k2, X2, Y2, L2, ro2, rn2, rc2, ko2, kn2, kc2, np2, nt2⟩)) ⟨k2, X2, Y2, L2, ro2, rn2, rc2, ko2, kn2, kc2, np2, nt2⟩ (cutP P)) := p2.below h5 (Nat.le_refl _)
    obtain ⟨W5, hW5⟩ : ∃ W5, w4.alloc (gcs ⟨k2, X2, Y2, L2, ro2, rn2, rc2, ko2, kn2, kc2, np2, nt2⟩) = W5 := ⟨_, rfl⟩
    rw [hW5] at HB5 HG5 HN5 HP5 HQ5
    have HW5 : Hid (w4.alloc (.cells #[.int .i64 k2, .int .u32 (X2 : Int), .int .u32 (Y2 : Int), .int .i64 L2, .slice ro2 rn2 rc2, .slice ko2 kn2 kc2, .int .u32 (np2 : Int), .string nt2] 30) = W5) := hW5
    clear b4 p2 h5 hb5 hW5 HB4 HB3 HG3 HP3 HD
    go_wp2_with fail
    rw [HW5.out]
    clear HW5
    have HSK : Hid (∀ W, Below W5.heap.size W5 W → PCC w.heap.size ⟨qk, qX, qY, qL, qro, qrn, qrc, qko, qkn, qkc, qnp, qnt⟩ w4.heap.size ⟨k2, X2, Y2, L2, ro2, rn2, rc2, ko2, kn2, kc2, np2, nt2⟩ W) := fun W hW => ⟨pc_of ((hW.block _ (Array.getElem?_eq_some_iff.1 HG5.out).1).trans HG5.out), pc_of ((hW.block _ (Array.getElem?_eq_some_iff.1 HN5.out).1).trans HN5.out)⟩
    refine wp_region_held (S := PCC w.heap.size ⟨qk, qX, qY, qL, qro, qrn, qrc, qko, qkn, qkc, qnp, qnt⟩ w4.heap.size ⟨k2, X2, Y2, L2, ro2, rn2, rc2, ko2, kn2, kc2, np2, nt2⟩) (by kernel_rfl) ?_
    change wpAnyH _ _ _ _ _ _ _ _ (World.drew _)
    have HC0 : Hid (Below W5.heap.size W5 W5.drew) := (Below.refl _ _).drew
    have HSW : Hid (PCC w.heap.size ⟨qk, qX, qY, qL, qro, qrn, qrc, qko, qkn, qkc, qnp, qnt⟩ w4.heap.size ⟨k2, X2, Y2, L2, ro2, rn2, rc2, ko2, kn2, kc2, np2, nt2⟩ W5.drew) := HSK.out _ HC0.out
    refine wpAnyH_take (i := 0) (v := ?_) rfl (by kernel_rfl) (by kernel_rfl) (by kernel_rfl) (fun _ _ _ h => h) (Or.inl ⟨by kernel_rfl, ?_⟩) HSW.out ?_
    rotate_left
    · intro w hS
      obtain ⟨⟨e0, e1, e2, e3, e4, e5, e6, e7⟩, f0, f1, f2, f3, f4, f5, f6, f7⟩ := hS
      go_simp
      try with_reducible rfl
    conv in (Act.put _ _ _) => simp only [List.getElem_toArray, List.getElem_cons_succ, List.getElem_cons_zero, Act.put, List.setIfInBounds_toArray, List.set_cons_succ, List.set_cons_zero]
    refine wpAnyH_take (i := 1) (v := ?_) rfl (by kernel_rfl) (by kernel_rfl) (by kernel_rfl) (fun _ _ _ h => h) (Or.inl ⟨by kernel_rfl, ?_⟩) HSW.out ?_
    rotate_left
    · intro w hS
      obtain ⟨⟨e0, e1, e2, e3, e4, e5, e6, e7⟩, f0, f1, f2, f3, f4, f5, f6, f7⟩ := hS
      go_simp
      try with_reducible rfl
    conv in (Act.put _ _ _) => simp only [List.getElem_toArray, List.getElem_cons_succ, List.getElem_cons_zero, Act.put, List.setIfInBounds_toArray, List.set_cons_succ, List.set_cons_zero]
    refine wpAnyH_take (i := 2) (v := ?_) rfl (by kernel_rfl) (by kernel_rfl) (by kernel_rfl) (fun _ _ _ h => h) (Or.inl ⟨by kernel_rfl, ?_⟩) HSW.out ?_
    rotate_left
    · intro w hS
      obtain ⟨⟨e0, e1, e2, e3, e4, e5, e6, e7⟩, f0, f1, f2, f3, f4, f5, f6, f7⟩ := hS
      go_simp
      try with_reducible rfl
    conv in (Act.put _ _ _) => simp only [List.getElem_toArray, List.getElem_cons_succ, List.getElem_cons_zero, Act.put, List.setIfInBounds_toArray, List.set_cons_succ, List.set_cons_zero]
    refine wpAnyH_take (i := 3) (v := ?_) rfl (by kernel_rfl) (by kernel_rfl) (by kernel_rfl) (fun _ _ _ h => h) (Or.inl ⟨by kernel_rfl, ?_⟩) HSW.out ?_
    rotate_left
    · intro w hS
      obtain ⟨⟨e0, e1, e2, e3, e4, e5, e6, e7⟩, f0, f1, f2, f3, f4, f5, f6, f7⟩ := hS
      go_simp
      try with_reducible rfl
    conv in (Act.put _ _ _) => simp only [List.getElem_toArray, List.getElem_cons_succ, List.getElem_cons_zero, Act.put, List.setIfInBounds_toArray, List.set_cons_succ, List.set_cons_zero]
    refine wpAnyH_take (i := 4) (v := ?_) rfl (by kernel_rfl) (by kernel_rfl) (by kernel_rfl) (fun _ _ _ h => h) (Or.inl ⟨by kernel_rfl, ?_⟩) HSW.out ?_
    rotate_left
    · intro w hS
      obtain ⟨⟨e0, e1, e2, e3, e4, e5, e6, e7⟩, f0, f1, f2, f3, f4, f5, f6, f7⟩ := hS
      go_simp
      try with_reducible rfl
    conv in (Act.put _ _ _) => simp only [List.getElem_toArray, List.getElem_cons_succ, List.getElem_cons_zero, Act.put, List.setIfInBounds_toArray, List.set_cons_succ, List.set_cons_zero]
    refine wpAnyH_take (i := 5) (v := ?_) rfl (by kernel_rfl) (by kernel_rfl) (by kernel_rfl) (fun _ _ _ h => h) (Or.inl ⟨by kernel_rfl, ?_⟩) HSW.out ?_
    rotate_left
    · intro w hS
      obtain ⟨⟨e0, e1, e2, e3, e4, e5, e6, e7⟩, f0, f1, f2, f3, f4, f5, f6, f7⟩ := hS
      go_simp
      try with_reducible rfl
    conv in (Act.put _ _ _) => simp only [List.getElem_toArray, List.getElem_cons_succ, List.getElem_cons_zero, Act.put, List.setIfInBounds_toArray, List.set_cons_succ, List.set_cons_zero]
    refine wpAnyH_take (i := 6) (v := ?_) rfl (by kernel_rfl) (by kernel_rfl) (by kernel_rfl) (fun _ _ _ h => h) (Or.inl ⟨by kernel_rfl, ?_⟩) HSW.out ?_
    rotate_left
    · intro w hS
      obtain ⟨⟨e0, e1, e2, e3, e4, e5, e6, e7⟩, f0, f1, f2, f3, f4, f5, f6, f7⟩ := hS
      go_simp
      try with_reducible rfl
    conv in (Act.put _ _ _) => simp only [List.getElem_toArray, List.getElem_cons_succ, List.getElem_cons_zero, Act.put, List.setIfInBounds_toArray, List.set_cons_succ, List.set_cons_zero]
    refine wpAnyH_take (i := 7) (v := ?_) rfl (by kernel_rfl) (by kernel_rfl) (by kernel_rfl) (fun _ _ _ h => h) (Or.inl ⟨by kernel_rfl, ?_⟩) HSW.out ?_
    rotate_left
    · intro w hS
      obtain ⟨⟨e0, e1, e2, e3, e4, e5, e6, e7⟩, f0, f1, f2, f3, f4, f5, f6, f7⟩ := hS
      go_simp
      try with_reducible rfl
    conv in (Act.put _ _ _) => simp only [List.getElem_toArray, List.getElem_cons_succ, List.getElem_cons_zero, Act.put, List.setIfInBounds_toArray, List.set_cons_succ, List.set_cons_zero]
    refine readyH 8 _ (by kernel_rfl) rfl (by kernel_rfl) (fun K hK => ?_)
    go_simp
    refine (HCU.out W5.drew (HP5.out.below HC0.out (Nat.le_refl _))).mono ?_
    rintro e w6 ⟨q6, v6, hv6, rfl, p6, bb⟩
    have HC6 : Hid (Below W5.heap.size W5 w6) := HC0.out.trans (bb.mono HC0.out.size)
    replace HSW : Hid (PCC w.heap.size ⟨qk, qX, qY, qL, qro, qrn, qrc, qko, qkn, qkc, qnp, qnt⟩ w4.heap.size ⟨k2, X2, Y2, L2, ro2, rn2, rc2, ko2, kn2, kc2, np2, nt2⟩ w6) := HSK.out _ HC6.out
    have HX6 : Hid (∀ _ : True, _) := fun _ => HSM.out ⟨k2, X2, Y2, L2, ro2, rn2, rc2, ko2, kn2, kc2, np2, nt2⟩ q6 w6 (HQ5.out.below HC6.out (Nat.le_refl _)) p6
    rw [← hv6] at HX6
    simp only [gv] at HX6
    clear bb p6 hv6
    refine hK _ _ HSW.out ?_
    clear hK K
    refine readyH 9 _ (by kernel_rfl) rfl (by kernel_rfl) (fun K hK => ?_)
    go_simp
    refine (HX6.out trivial).mono ?_
    rintro e w7 ⟨rfl, bb⟩
    have HC7 : Hid (Below W5.heap.size W5 w7) := HC6.out.trans (bb.mono HC6.out.size)
    replace HSW : Hid (PCC w.heap.size ⟨qk, qX, qY, qL, qro, qrn, qrc, qko, qkn, qkc, qnp, qnt⟩ w4.heap.size ⟨k2, X2, Y2, L2, ro2, rn2, rc2, ko2, kn2, kc2, np2, nt2⟩ w7) := HSK.out _ HC7.out
    clear bb
    refine hK _ _ HSW.out ?_
    clear hK K
    refine wpAnyH_take (i := 10) (v := ?_) rfl (by kernel_rfl) (by kernel_rfl) (by kernel_rfl) (fun _ _ _ h => h) (Or.inl ⟨by kernel_rfl, ?_⟩) HSW.out ?_
    rotate_left
    · intro w hS
      obtain ⟨⟨e0, e1, e2, e3, e4, e5, e6, e7⟩, f0, f1, f2, f3, f4, f5, f6, f7⟩ := hS
      go_simp
      try with_reducible rfl
    conv in (Act.put _ _ _) => simp only [List.getElem_toArray, List.getElem_cons_succ, List.getElem_cons_zero, Act.put, List.setIfInBounds_toArray, List.set_cons_succ, List.set_cons_zero]
    refine wpAnyH_take (i := 11) (v := ?_) rfl (by kernel_rfl) (by kernel_rfl) (by kernel_rfl) (fun _ _ _ h => h) (Or.inl ⟨by kernel_rfl, ?_⟩) HSW.out ?_
    rotate_left
    · intro w hS
      obtain ⟨⟨e0, e1, e2, e3, e4, e5, e6, e7⟩, f0, f1, f2, f3, f4, f5, f6, f7⟩ := hS
      go_simp
      try with_reducible rfl
    conv in (Act.put _ _ _) => simp only [List.getElem_toArray, List.getElem_cons_succ, List.getElem_cons_zero, Act.put, List.setIfInBounds_toArray, List.set_cons_succ, List.set_cons_zero]
    refine wpAnyH_take (i := 12) (v := ?_) rfl (by kernel_rfl) (by kernel_rfl) (by kernel_rfl) (fun _ _ _ h => h) (Or.inl ⟨by kernel_rfl, ?_⟩) HSW.out ?_
    rotate_left
    · intro w hS
      obtain ⟨⟨e0, e1, e2, e3, e4, e5, e6, e7⟩, f0, f1, f2, f3, f4, f5, f6, f7⟩ := hS
      go_simp
      try with_reducible rfl
    conv in (Act.put _ _ _) => simp only [List.getElem_toArray, List.getElem_cons_succ, List.getElem_cons_zero, Act.put, List.setIfInBounds_toArray, List.set_cons_succ, List.set_cons_zero]
    refine wpAnyH_take (i := 13) (v := ?_) rfl (by kernel_rfl) (by kernel_rfl) (by kernel_rfl) (fun _ _ _ h => h) (Or.inl ⟨by kernel_rfl, ?_⟩) HSW.out ?_
    rotate_left
    · intro w hS
      obtain ⟨⟨e0, e1, e2, e3, e4, e5, e6, e7⟩, f0, f1, f2, f3, f4, f5, f6, f7⟩ := hS
      go_simp
      try with_reducible rfl
    conv in (Act.put _ _ _) => simp only [List.getElem_toArray, List.getElem_cons_succ, List.getElem_cons_zero, Act.put, List.setIfInBounds_toArray, List.set_cons_succ, List.set_cons_zero]
    refine wpAnyH_take (i := 14) (v := ?_) rfl (by kernel_rfl) (by kernel_rfl) (by kernel_rfl) (fun _ _ _ h => h) (Or.inl ⟨by kernel_rfl, ?_⟩) HSW.out ?_
    rotate_left
    · intro w hS
      obtain ⟨⟨e0, e1, e2, e3, e4, e5, e6, e7⟩, f0, f1, f2, f3, f4, f5, f6, f7⟩ := hS
      go_simp
      try with_reducible rfl
    conv in (Act.put _ _ _) => simp only [List.getElem_toArray, List.getElem_cons_succ, List.getElem_cons_zero, Act.put, List.setIfInBounds_toArray, List.set_cons_succ, List.set_cons_zero]
    refine wpAnyH_take (i := 15) (v := ?_) rfl (by kernel_rfl) (by kernel_rfl) (by kernel_rfl) (fun _ _ _ h => h) (Or.inl ⟨by kernel_rfl, ?_⟩) HSW.out ?_
    rotate_left
    · intro w hS
      obtain ⟨⟨e0, e1, e2, e3, e4, e5, e6, e7⟩, f0, f1, f2, f3, f4, f5, f6, f7⟩ := hS
      go_simp
      try with_reducible rfl
    conv in (Act.put _ _ _) => simp only [List.getElem_toArray, List.getElem_cons_succ, List.getElem_cons_zero, Act.put, List.setIfInBounds_toArray, List.set_cons_succ, List.set_cons_zero]
    refine wpAnyH_take (i := 16) (v := ?_) rfl (by kernel_rfl) (by kernel_rfl) (by kernel_rfl) (fun _ _ _ h => h) (Or.inl ⟨by kernel_rfl, ?_⟩) HSW.out ?_
    rotate_left
    · intro w hS
      obtain ⟨⟨e0, e1, e2, e3, e4, e5, e6, e7⟩, f0, f1, f2, f3, f4, f5, f6, f7⟩ := hS
      go_simp
      try with_reducible rfl
    conv in (Act.put _ _ _) => simp only [List.getElem_toArray, List.getElem_cons_succ, List.getElem_cons_zero, Act.put, List.setIfInBounds_toArray, List.set_cons_succ, List.set_cons_zero]
    refine wpAnyH_take (i := 17) (v := ?_) rfl (by kernel_rfl) (by kernel_rfl) (by kernel_rfl) (fun _ _ _ h => h) (Or.inl ⟨by kernel_rfl, ?_⟩) HSW.out ?_
    rotate_left
    · intro w hS
      obtain ⟨⟨e0, e1, e2, e3, e4, e5, e6, e7⟩, f0, f1, f2, f3, f4, f5, f6, f7⟩ := hS
      go_simp
      try with_reducible rfl
    conv in (Act.put _ _ _) => simp only [List.getElem_toArray, List.getElem_cons_succ, List.getElem_cons_zero, Act.put, List.setIfInBounds_toArray, List.set_cons_succ, List.set_cons_zero]
    refine wpAnyH_take (i := 18) (v := ?_) rfl (by kernel_rfl) (by kernel_rfl) (by kernel_rfl) (fun _ _ _ h => h) (Or.inl ⟨by kernel_rfl, ?_⟩) HSW.out ?_
    rotate_left
    · intro w hS
      obtain ⟨⟨e0, e1, e2, e3, e4, e5, e6, e7⟩, f0, f1, f2, f3, f4, f5, f6, f7⟩ := hS
      go_simp
      try with_reducible rfl
    conv in (Act.put _ _ _) => simp only [List.getElem_toArray, List.getElem_cons_succ, List.getElem_cons_zero, Act.put, List.setIfInBounds_toArray, List.set_cons_succ, List.set_cons_zero]
    refine wpAnyH_take (i := 19) (v := ?_) rfl (by kernel_rfl) (by kernel_rfl) (by kernel_rfl) (fun _ _ _ h => h) (Or.inl ⟨by kernel_rfl, ?_⟩) HSW.out ?_
    rotate_left
    · intro w hS
      obtain ⟨⟨e0, e1, e2, e3, e4, e5, e6, e7⟩, f0, f1, f2, f3, f4, f5, f6, f7⟩ := hS
      go_simp
      try with_reducible rfl
    conv in (Act.put _ _ _) => simp only [List.getElem_toArray, List.getElem_cons_succ, List.getElem_cons_zero, Act.put, List.setIfInBounds_toArray, List.set_cons_succ, List.set_cons_zero]
    refine wpAnyH_take (i := 20) (v := ?_) rfl (by kernel_rfl) (by kernel_rfl) (by kernel_rfl) (fun _ _ _ h => h) (Or.inl ⟨by kernel_rfl, ?_⟩) HSW.out ?_
    rotate_left
    · intro w hS
      obtain ⟨⟨e0, e1, e2, e3, e4, e5, e6, e7⟩, f0, f1, f2, f3, f4, f5, f6, f7⟩ := hS
      go_simp
      try with_reducible rfl
    conv in (Act.put _ _ _) => simp only [List.getElem_toArray, List.getElem_cons_succ, List.getElem_cons_zero, Act.put, List.setIfInBounds_toArray, List.set_cons_succ, List.set_cons_zero]
    refine wpAnyH_take (i := 21) (v := ?_) rfl (by kernel_rfl) (by kernel_rfl) (by kernel_rfl) (fun _ _ _ h => h) (Or.inl ⟨by kernel_rfl, ?_⟩) HSW.out ?_
    rotate_left
    · intro w hS
      obtain ⟨⟨e0, e1, e2, e3, e4, e5, e6, e7⟩, f0, f1, f2, f3, f4, f5, f6, f7⟩ := hS
      go_simp
      try with_reducible rfl
    conv in (Act.put _ _ _) => simp only [List.getElem_toArray, List.getElem_cons_succ, List.getElem_cons_zero, Act.put, List.setIfInBounds_toArray, List.set_cons_succ, List.set_cons_zero]
    refine wpAnyH_done (by kernel_rfl) ?_ _
    have HE : Hid (Below w.heap.size w w7) := HB5.out.trans (HC7.out.mono HB5.out.size)
    have HZ : Hid (decide (0 < s.size) = true) := decide_eq_true (by omega)
    go_wp2_with fail
    go_ret
    refine ⟨?_, HE.out⟩
    show Ending.returned (Value.bool (decide (0 < s.size))) = _
    rw [HZ.out]
end Go.Proofs.Ytljponlfjombaaa.Rw
