/- Which refs and pages may be. -/
import Derived.Test.YtljponlfjombaaaQNH
import Derived.Test.YtljponlfjombaaaQNJ
import Derived.Test.YtljponlfjombaaaPNE
namespace Go.Proofs.Ytljponlfjombaaa.Rw
open Go.RowKit Go.Lib Go.Shelf
open Go.Proofs.Ytljponlfjombaaa.Rc Go.Proofs.Ytljponlfjombaaa.Rq
/-- Two boxes: a page's and a ref's. -/
def PF (g : Nat) (q : Pg) (p : Nat) (t : ByteArray) (w : World) : Prop := PC g q w ∧ w.cell? ⟨g + 1, 0, none⟩ = some (.int .u32 (p : Int)) ∧ w.cell? ⟨g + 1, 1, none⟩ = some (.string t)
set_option maxRecDepth 100000 in
set_option maxHeartbeats 4000000 in
theorem rowsRight_walk (q : Pg) (P : Pp) (r : Rf) (w : World) (h : PAt w q P) :
    Calls Try.prog 3 #[gv q, fcv r] w fun e w' => e = .returned (.bool true) ∧ Below w.heap.size w w' := by
  obtain ⟨p, t⟩ := r
  have HSH : Hid _ := shown_any
  have HCU : Hid (∀ w', PAt w' q P → Calls Try.prog 14 #[.agg #[.int .i64 q.k, .int .u32 (q.X : Int), .int .u32 (q.Y : Int), .int .i64 q.L, .slice q.ro q.rn q.rc, .slice q.ko q.kn q.kc, .int .u32 (q.np : Int), .string q.nt]] w' fun e w'' => ∃ q' v', v' = gv q' ∧ e = .returned v' ∧ PAt w'' q' (cutP P) ∧ Below w'.heap.size w' w'') := fun w' h => (cut_p q P w' h).mono fun e w'' ⟨q', h1, h2⟩ => ⟨q', _, rfl, h1, h2⟩
  have HR1 : Hid _ := fun q' w' (h : PAt w' q' (cutP P)) => right_p q' (cutP P) w' h
  have HR2 : Hid _ := fun q' w' (h : PAt w' q' (cutP P)) => sright_p q' (cutP P) w' h
  have HF1 : Hid _ := rightRef_any p t
  have HF2 : Hid _ := sRightRef_any p t
  generalize rpp (cutP P) = rb at *
  generalize rref p t = fb at *
  have h0 := below_new w (gcs q)
  have h1 := below_new (w.alloc (gcs q)) (.cells #[.int .u32 (p : Int), .string t] 28)
  have HB0 : Hid (Below w.heap.size w ((w.alloc (gcs q)).alloc (.cells #[.int .u32 (p : Int), .string t] 28))) := h0.trans (h1.mono h0.size)
  have HG0 : Hid (((w.alloc (gcs q)).alloc (.cells #[.int .u32 (p : Int), .string t] 28)).heap[w.heap.size]? = some (gcs q)) := (h1.block _ (by simp)).trans (heap_alloc_new w _)
  have HF0 : Hid (((w.alloc (gcs q)).alloc (.cells #[.int .u32 (p : Int), .string t] 28)).heap[w.heap.size + 1]? = some (.cells #[.int .u32 (p : Int), .string t] 28 (0, 0))) := by
    refine (?_ : ((w.alloc (gcs q)).alloc (.cells #[.int .u32 (p : Int), .string t] 28)).heap[w.heap.size + 1]? = some (.cells #[.int .u32 (p : Int), .string t] 28 (0, 0)))
    have := heap_alloc_new (w.alloc (gcs q)) (.cells #[.int .u32 (p : Int), .string t] 28)
    simpa using this
  have HP0 : Hid (PAt ((w.alloc (gcs q)).alloc (.cells #[.int .u32 (p : Int), .string t] 28)) q P) := h.below HB0.out (Nat.le_refl _)
  obtain ⟨W0, hW0⟩ : ∃ W0, (w.alloc (gcs q)).alloc (.cells #[.int .u32 (p : Int), .string t] 28) = W0 := ⟨_, rfl⟩
  rw [hW0] at HB0 HG0 HP0 HF0
  obtain ⟨qk, qX, qY, qL, qro, qrn, qrc, qko, qkn, qkc, qnp, qnt⟩ := q
  have HW0 : Hid ((w.alloc (.cells #[.int .i64 qk, .int .u32 (qX : Int), .int .u32 (qY : Int), .int .i64 qL, .slice qro qrn qrc, .slice qko qkn qkc, .int .u32 (qnp : Int), .string qnt] 30)).alloc (.cells #[.int .u32 (p : Int), .string t] 28) = W0) := hW0
  clear h0 h1 h hW0
  simp only at HCU
  simp only [gv, fcv]
  go_enter Try.func3, Try.ntmps3
  go_wp2_with fail
  rw [HW0.out]
  clear HW0
  refine (HSH.out W0).mono ?_
  rintro e w1 ⟨rfl, b1⟩
  have HB1 : Hid (Below w.heap.size w w1) := HB0.out.trans (b1.mono HB0.out.size)
  have HG1 : Hid (w1.heap[w.heap.size]? = some _) := (b1.block _ (Array.getElem?_eq_some_iff.1 HG0.out).1).trans HG0.out
  have HF1' : Hid (w1.heap[w.heap.size + 1]? = some _) := (b1.block _ (Array.getElem?_eq_some_iff.1 HF0.out).1).trans HF0.out
  have HP1 : Hid _ := HP0.out.below b1 (Nat.le_refl _)
  have HSK : Hid (∀ W, Below w1.heap.size w1 W → PF w.heap.size ⟨qk, qX, qY, qL, qro, qrn, qrc, qko, qkn, qkc, qnp, qnt⟩ p t W) := fun W hW => ⟨pc_of ((hW.block _ (Array.getElem?_eq_some_iff.1 HG1.out).1).trans HG1.out), (ref_cells ((hW.block _ (Array.getElem?_eq_some_iff.1 HF1'.out).1).trans HF1'.out)).1⟩
  have HPK : Hid (∀ W, Below w1.heap.size w1 W → PAt W ⟨qk, qX, qY, qL, qro, qrn, qrc, qko, qkn, qkc, qnp, qnt⟩ P) := fun W hW => HP1.out.below hW (Nat.le_refl _)
  clear b1 HB0 HG0 HP0 HF0 HG1 HF1' HP1
  go_wp2_with fail
  refine wp_region_held (S := PF w.heap.size ⟨qk, qX, qY, qL, qro, qrn, qrc, qko, qkn, qkc, qnp, qnt⟩ p t) (by kernel_rfl) ?_
  change wpAnyH _ _ _ _ _ _ _ _ (World.drew _)
  have HC0 : Hid (Below w1.heap.size w1 w1.drew) := (Below.refl _ _).drew
  have HSW : Hid (PF w.heap.size ⟨qk, qX, qY, qL, qro, qrn, qrc, qko, qkn, qkc, qnp, qnt⟩ p t w1.drew) := HSK.out _ HC0.out
  refine wpAnyH_take (i := 0) (v := ?_) rfl (by kernel_rfl) (by kernel_rfl) (by kernel_rfl) (fun _ _ _ h => h) (Or.inl ⟨by kernel_rfl, ?_⟩) HSW.out ?_
  rotate_left
  · intro w hS
    obtain ⟨⟨e0, e1, e2, e3, e4, e5, e6, e7⟩, f0, f1⟩ := hS
    go_simp
    try with_reducible rfl
  conv in (Act.put _ _ _) => simp only [List.getElem_toArray, List.getElem_cons_succ, List.getElem_cons_zero, Act.put, List.setIfInBounds_toArray, List.set_cons_succ, List.set_cons_zero]
  refine wpAnyH_take (i := 1) (v := ?_) rfl (by kernel_rfl) (by kernel_rfl) (by kernel_rfl) (fun _ _ _ h => h) (Or.inl ⟨by kernel_rfl, ?_⟩) HSW.out ?_
  rotate_left
  · intro w hS
    obtain ⟨⟨e0, e1, e2, e3, e4, e5, e6, e7⟩, f0, f1⟩ := hS
    go_simp
    try with_reducible rfl
  conv in (Act.put _ _ _) => simp only [List.getElem_toArray, List.getElem_cons_succ, List.getElem_cons_zero, Act.put, List.setIfInBounds_toArray, List.set_cons_succ, List.set_cons_zero]
  refine wpAnyH_take (i := 2) (v := ?_) rfl (by kernel_rfl) (by kernel_rfl) (by kernel_rfl) (fun _ _ _ h => h) (Or.inl ⟨by kernel_rfl, ?_⟩) HSW.out ?_
  rotate_left
  · intro w hS
    obtain ⟨⟨e0, e1, e2, e3, e4, e5, e6, e7⟩, f0, f1⟩ := hS
    go_simp
    try with_reducible rfl
  conv in (Act.put _ _ _) => simp only [List.getElem_toArray, List.getElem_cons_succ, List.getElem_cons_zero, Act.put, List.setIfInBounds_toArray, List.set_cons_succ, List.set_cons_zero]
  refine wpAnyH_take (i := 4) (v := ?_) rfl (by kernel_rfl) (by kernel_rfl) (by kernel_rfl) (fun _ _ _ h => h) (Or.inl ⟨by kernel_rfl, ?_⟩) HSW.out ?_
  rotate_left
  · intro w hS
    obtain ⟨⟨e0, e1, e2, e3, e4, e5, e6, e7⟩, f0, f1⟩ := hS
    go_simp
    try with_reducible rfl
  conv in (Act.put _ _ _) => simp only [List.getElem_toArray, List.getElem_cons_succ, List.getElem_cons_zero, Act.put, List.setIfInBounds_toArray, List.set_cons_succ, List.set_cons_zero]
  refine readyH 3 _ (by kernel_rfl) rfl (by kernel_rfl) (fun K hK => ?_)
  go_simp
  refine (HF1.out w1.drew).mono ?_
  rintro e w2 ⟨rfl, bb⟩
  have HC2 : Hid (Below w1.heap.size w1 w2) := HC0.out.trans (bb.mono HC0.out.size)
  replace HSW : Hid (PF w.heap.size ⟨qk, qX, qY, qL, qro, qrn, qrc, qko, qkn, qkc, qnp, qnt⟩ p t w2) := HSK.out _ HC2.out
  clear bb
  refine hK _ _ HSW.out ?_
  clear hK K
  refine readyH 5 _ (by kernel_rfl) rfl (by kernel_rfl) (fun K hK => ?_)
  go_simp
  refine (HF2.out w2).mono ?_
  rintro e w3 ⟨rfl, bb⟩
  have HC3 : Hid (Below w1.heap.size w1 w3) := HC2.out.trans (bb.mono HC2.out.size)
  replace HSW : Hid (PF w.heap.size ⟨qk, qX, qY, qL, qro, qrn, qrc, qko, qkn, qkc, qnp, qnt⟩ p t w3) := HSK.out _ HC3.out
  clear bb
  refine hK _ _ HSW.out ?_
  clear hK K
  have hfb : (fb == fb) = true := beq_self_eq_true _
  refine wpAnyH_take (i := 6) (v := ?_) rfl (by kernel_rfl) (by kernel_rfl) (by kernel_rfl) (fun _ _ _ h => h) (Or.inl ⟨by kernel_rfl, ?_⟩) HSW.out ?_
  rotate_left
  · intro w hS
    obtain ⟨⟨e0, e1, e2, e3, e4, e5, e6, e7⟩, f0, f1⟩ := hS
    go_simp
    try with_reducible rfl
  conv in (Act.put _ _ _) => simp only [List.getElem_toArray, List.getElem_cons_succ, List.getElem_cons_zero, Act.put, List.setIfInBounds_toArray, List.set_cons_succ, List.set_cons_zero]
  refine wpAnyH_take (i := 7) (v := ?_) rfl (by kernel_rfl) (by kernel_rfl) (by kernel_rfl) (fun _ _ _ h => h) (Or.inl ⟨by kernel_rfl, ?_⟩) HSW.out ?_
  rotate_left
  · intro w hS
    obtain ⟨⟨e0, e1, e2, e3, e4, e5, e6, e7⟩, f0, f1⟩ := hS
    go_simp
    try with_reducible rfl
  conv in (Act.put _ _ _) => simp only [List.getElem_toArray, List.getElem_cons_succ, List.getElem_cons_zero, Act.put, List.setIfInBounds_toArray, List.set_cons_succ, List.set_cons_zero]
  refine wpAnyH_take (i := 8) (v := ?_) rfl (by kernel_rfl) (by kernel_rfl) (by kernel_rfl) (fun _ _ _ h => h) (Or.inl ⟨by kernel_rfl, ?_⟩) HSW.out ?_
  rotate_left
  · intro w hS
    obtain ⟨⟨e0, e1, e2, e3, e4, e5, e6, e7⟩, f0, f1⟩ := hS
    go_simp
    try with_reducible rfl
  conv in (Act.put _ _ _) => simp only [List.getElem_toArray, List.getElem_cons_succ, List.getElem_cons_zero, Act.put, List.setIfInBounds_toArray, List.set_cons_succ, List.set_cons_zero]
  refine wpAnyH_take (i := 9) (v := ?_) rfl (by kernel_rfl) (by kernel_rfl) (by kernel_rfl) (fun _ _ _ h => h) (Or.inl ⟨by kernel_rfl, ?_⟩) HSW.out ?_
  rotate_left
  · intro w hS
    obtain ⟨⟨e0, e1, e2, e3, e4, e5, e6, e7⟩, f0, f1⟩ := hS
    go_simp
    try with_reducible rfl
  conv in (Act.put _ _ _) => simp only [List.getElem_toArray, List.getElem_cons_succ, List.getElem_cons_zero, Act.put, List.setIfInBounds_toArray, List.set_cons_succ, List.set_cons_zero]
  refine wpAnyH_take (i := 12) (v := ?_) rfl (by kernel_rfl) (by kernel_rfl) (by kernel_rfl) (fun _ _ _ h => h) (Or.inl ⟨by kernel_rfl, ?_⟩) HSW.out ?_
  rotate_left
  · intro w hS
    obtain ⟨⟨e0, e1, e2, e3, e4, e5, e6, e7⟩, f0, f1⟩ := hS
    go_simp
    try with_reducible rfl
  conv in (Act.put _ _ _) => simp only [List.getElem_toArray, List.getElem_cons_succ, List.getElem_cons_zero, Act.put, List.setIfInBounds_toArray, List.set_cons_succ, List.set_cons_zero]
  refine readyH 10 _ (by kernel_rfl) rfl (by kernel_rfl) (fun K hK => ?_)
  go_simp
  refine (HCU.out w3 (HPK.out _ HC3.out)).mono ?_
  rintro e w4 ⟨q4, v4, hv4, rfl, p4, bb⟩
  have HC4 : Hid (Below w1.heap.size w1 w4) := HC3.out.trans (bb.mono HC3.out.size)
  replace HSW : Hid (PF w.heap.size ⟨qk, qX, qY, qL, qro, qrn, qrc, qko, qkn, qkc, qnp, qnt⟩ p t w4) := HSK.out _ HC4.out
  have HX4 : Hid (∀ _ : True, _) := fun _ => HR1.out q4 w4 p4
  rw [← hv4] at HX4
  clear bb p4 hv4
  refine hK _ _ HSW.out ?_
  clear hK K
  refine readyH 11 _ (by kernel_rfl) rfl (by kernel_rfl) (fun K hK => ?_)
  go_simp
  refine (HX4.out trivial).mono ?_
  rintro e w5 ⟨rfl, bb⟩
  have HC5 : Hid (Below w1.heap.size w1 w5) := HC4.out.trans (bb.mono HC4.out.size)
  replace HSW : Hid (PF w.heap.size ⟨qk, qX, qY, qL, qro, qrn, qrc, qko, qkn, qkc, qnp, qnt⟩ p t w5) := HSK.out _ HC5.out
  clear bb
  refine hK _ _ HSW.out ?_
  clear hK K
  refine readyH 13 _ (by kernel_rfl) rfl (by kernel_rfl) (fun K hK => ?_)
  go_simp
  refine (HCU.out w5 (HPK.out _ HC5.out)).mono ?_
  rintro e w6 ⟨q6, v6, hv6, rfl, p6, bb⟩
  have HC6 : Hid (Below w1.heap.size w1 w6) := HC5.out.trans (bb.mono HC5.out.size)
  replace HSW : Hid (PF w.heap.size ⟨qk, qX, qY, qL, qro, qrn, qrc, qko, qkn, qkc, qnp, qnt⟩ p t w6) := HSK.out _ HC6.out
  have HX6 : Hid (∀ _ : True, _) := fun _ => HR2.out q6 w6 p6
  rw [← hv6] at HX6
  clear bb p6 hv6
  refine hK _ _ HSW.out ?_
  clear hK K
  refine readyH 14 _ (by kernel_rfl) rfl (by kernel_rfl) (fun K hK => ?_)
  go_simp
  refine (HX6.out trivial).mono ?_
  rintro e w7 ⟨rfl, bb⟩
  have HC7 : Hid (Below w1.heap.size w1 w7) := HC6.out.trans (bb.mono HC6.out.size)
  replace HSW : Hid (PF w.heap.size ⟨qk, qX, qY, qL, qro, qrn, qrc, qko, qkn, qkc, qnp, qnt⟩ p t w7) := HSK.out _ HC7.out
  clear bb
  refine hK _ _ HSW.out ?_
  clear hK K
  have hrb : (rb == rb) = true := beq_self_eq_true _
  refine wpAnyH_take (i := 15) (v := ?_) rfl (by kernel_rfl) (by kernel_rfl) (by kernel_rfl) (fun _ _ _ h => h) (Or.inl ⟨by kernel_rfl, ?_⟩) HSW.out ?_
  rotate_left
  · intro w hS
    obtain ⟨⟨e0, e1, e2, e3, e4, e5, e6, e7⟩, f0, f1⟩ := hS
    go_simp
    try with_reducible rfl
  conv in (Act.put _ _ _) => simp only [List.getElem_toArray, List.getElem_cons_succ, List.getElem_cons_zero, Act.put, List.setIfInBounds_toArray, List.set_cons_succ, List.set_cons_zero]
  refine wpAnyH_take (i := 16) (v := ?_) rfl (by kernel_rfl) (by kernel_rfl) (by kernel_rfl) (fun _ _ _ h => h) (Or.inl ⟨by kernel_rfl, ?_⟩) HSW.out ?_
  rotate_left
  · intro w hS
    obtain ⟨⟨e0, e1, e2, e3, e4, e5, e6, e7⟩, f0, f1⟩ := hS
    go_simp
    try with_reducible rfl
  conv in (Act.put _ _ _) => simp only [List.getElem_toArray, List.getElem_cons_succ, List.getElem_cons_zero, Act.put, List.setIfInBounds_toArray, List.set_cons_succ, List.set_cons_zero]
  refine wpAnyH_take (i := 17) (v := ?_) rfl (by kernel_rfl) (by kernel_rfl) (by kernel_rfl) (fun _ _ _ h => h) (Or.inl ⟨by kernel_rfl, ?_⟩) HSW.out ?_
  rotate_left
  · intro w hS
    obtain ⟨⟨e0, e1, e2, e3, e4, e5, e6, e7⟩, f0, f1⟩ := hS
    go_simp
    try with_reducible rfl
  conv in (Act.put _ _ _) => simp only [List.getElem_toArray, List.getElem_cons_succ, List.getElem_cons_zero, Act.put, List.setIfInBounds_toArray, List.set_cons_succ, List.set_cons_zero]
  refine wpAnyH_done (by kernel_rfl) ?_ _
  have HE : Hid (Below w.heap.size w w7) := HB1.out.trans (HC7.out.mono HB1.out.size)
  go_wp2_with fail
  go_ret
  exact ⟨rfl, HE.out⟩
end Go.Proofs.Ytljponlfjombaaa.Rw
