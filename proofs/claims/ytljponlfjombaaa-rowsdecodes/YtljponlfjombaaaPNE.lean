/- The reference: the bytes of inner pages. -/
import Derived.Test.YtljponlfjombaaaQNC
namespace Go.Proofs.Ytljponlfjombaaa.Rw
open Go.RowKit Go.Lib Go.Shelf
open Go.Proofs.Ytljponlfjombaaa.Rc Go.Proofs.Ytljponlfjombaaa.Rq
set_option maxRecDepth 100000 in
theorem ba_app (a b : List UInt8) : (⟨a.toArray⟩ : ByteArray) ++ ⟨b.toArray⟩ = ⟨(a ++ b).toArray⟩ := by
  apply ByteArray.ext
  simp [ByteArray.data_append]
set_option maxRecDepth 100000 in
theorem ba_data (t : ByteArray) : (⟨t.data.toList.toArray⟩ : ByteArray) = t := by cases t; rfl
set_option maxRecDepth 100000 in
theorem ba_size (a : List UInt8) : (⟨a.toArray⟩ : ByteArray).size = a.length := by simp [ByteArray.size]
/-- A page's cells. -/
def PC (g : Nat) (q : Pg) (w : World) : Prop := w.cell? ⟨g, 0, none⟩ = some (.int .i64 q.k) ∧ w.cell? ⟨g, 1, none⟩ = some (.int .u32 (q.X : Int)) ∧ w.cell? ⟨g, 2, none⟩ = some (.int .u32 (q.Y : Int)) ∧ w.cell? ⟨g, 3, none⟩ = some (.int .i64 q.L) ∧ w.cell? ⟨g, 4, none⟩ = some (.slice q.ro q.rn q.rc) ∧ w.cell? ⟨g, 5, none⟩ = some (.slice q.ko q.kn q.kc) ∧ w.cell? ⟨g, 6, none⟩ = some (.int .u32 (q.np : Int)) ∧ w.cell? ⟨g, 7, none⟩ = some (.string q.nt)
def PK (g : Nat) (s : Value) (pb x p : Nat) (t : ByteArray) (w : World) : Prop := w.cell? ⟨g, 5, none⟩ = some s ∧ w.cell? ⟨pb, x, none⟩ = some (.int .u32 (p : Int)) ∧ w.cell? ⟨pb, x + 1, none⟩ = some (.string t)
set_option maxRecDepth 100000 in
theorem pc_of {g : Nat} {q : Pg} {w : World} (h : w.heap[g]? = some (gcs q)) : PC g q w := (pg_cells h).1
set_option maxRecDepth 100000 in
set_option maxHeartbeats 4000000 in
theorem senc_inner (q : Pg) (l : List Rw) (ks : List Rf) (w : World) (h : PgAt w q l ks) (hkp : ∀ r ∈ ks, r.p < 4294967296) (hk : q.k = 2) (hR : rpage q l ks = true) :
    Calls Try.prog 17 #[gv q] w fun e w' => e = .returned (.tuple #[.string ⟨(innerB q.X q.Y q.L.toNat ks).toArray⟩, .int .i64 0]) ∧ Below w.heap.size w w' := by
  have hri : rinner q ks = true := by unfold rpage at hR; rw [if_neg (by omega), if_pos hk] at hR; exact hR
  obtain ⟨f1, f2, f3, f4⟩ := inner_facts hri
  obtain ⟨L, hL⟩ : ∃ L, q.L.toNat = L := ⟨_, rfl⟩
  rw [hL] at f3 f4 ⊢
  have HRW : Hid (∀ W : World, Below w.heap.size w W → RefsAt W q.ko q.kc ks) := fun W hW => RefsAt.below h.kids hW (Nat.le_refl _)
  have HSR : Hid (∀ _ : True, _) := fun _ => sright_inner q l ks (w.alloc (gcs q)) (h.below (below_new w _) (Nat.le_refl _)) (by omega)
  have HG1 : Hid ((w.alloc (gcs q)).heap[w.heap.size]? = some (gcs q)) := heap_alloc_new w (gcs q)
  have HB1 : Hid (Below w.heap.size w (w.alloc (gcs q))) := below_new w (gcs q)
  rw [hri] at HSR
  have hkn := h.kn
  have hX := h.X32
  have hY := h.Y32
  have HP : Hid _ := sput_any
  have HT : Hid (∀ r ∈ ks, r.t.size ≤ 100 ∧ r.p < 4294967296) := fun r hr => ⟨f2 r hr, hkp r hr⟩
  have HTN : Hid (∀ r ∈ ks, refB r.p r.t = lef r.p 4 ++ r.t.data.toList) := fun r hr => by
    refine refB_yes (no_size ?_)
    have hri' := hri
    unfold rinner at hri'
    simp only [Bool.and_eq_true, List.all_eq_true] at hri'
    exact (rref_some (hri'.2.1 r hr)).2
  clear h hri hR f2 hkp hL
  obtain ⟨qk, qX, qY, qL, qro, qrn, qrc, qko, qkn, qkc, qnp, qnt⟩ := q
  simp only at hkn HRW hk hX hY f3 HSR ⊢
  subst hkn hk f3
  simp only [decide_true, Bool.true_and] at HSR
  obtain ⟨W1, hW1⟩ : ∃ W1, w.alloc (gcs ⟨2, qX, qY, (L : Int), qro, qrn, qrc, qko, ks.length, qkc, qnp, qnt⟩) = W1 := ⟨_, rfl⟩
  rw [hW1] at HG1 HB1 HSR
  have HW1 : Hid (w.alloc (.cells #[.int .i64 2, .int .u32 (qX : Int), .int .u32 (qY : Int), .int .i64 (L : Int), .slice qro qrn qrc, .slice qko ks.length qkc, .int .u32 (qnp : Int), .string qnt] 30) = W1) := hW1
  clear hW1
  simp only [gv] at HSR ⊢
  have q0 : (ks.length : Int) ≤ 4 := by omega
  have q1 : IntKind.u64.wrap (ks.length : Int) = (ks.length : Int) := IntWalk.u64_in _ ⟨by omega, by omega⟩
  have q2 : IntKind.u64.wrap (L : Int) = (L : Int) := IntWalk.u64_in _ ⟨by omega, by omega⟩
  have q3 : IntKind.u64.wrap (qX : Int) = (qX : Int) := IntWalk.u64_in _ ⟨by omega, by omega⟩
  have q4 : IntKind.u64.wrap (qY : Int) = (qY : Int) := IntWalk.u64_in _ ⟨by omega, by omega⟩
  go_enter Try.func17, Try.ntmps17
  go_wp2_with fail
  rw [HW1.out]
  clear HW1
  refine (HSR.out trivial).mono ?_
  rintro e w2 ⟨rfl, b2⟩
  have HB2 : Hid (Below w.heap.size w w2) := HB1.out.trans (b2.mono HB1.out.size)
  have hg2 := (b2.block _ (Array.getElem?_eq_some_iff.1 HG1.out).1).trans HG1.out
  have HG2 : Hid (w2.heap[w.heap.size]? = some (gcs ⟨2, qX, qY, (L : Int), qro, qrn, qrc, qko, ks.length, qkc, qnp, qnt⟩)) := hg2
  obtain ⟨⟨c0, c1, c2, c3, c4, c5, c6, c7⟩, lB⟩ := pg_cells hg2
  simp only at c0 c1 c2 c3 c4 c5 c6 c7
  clear b2 hg2 HSR HG1 HB1
  go_wp2_with fail
  refine wp_region_held (S := PC w.heap.size ⟨2, qX, qY, (L : Int), qro, qrn, qrc, qko, ks.length, qkc, qnp, qnt⟩) (by kernel_rfl) ?_
  change wpAnyH _ _ _ _ _ _ _ _ (World.drew _)
  have HSW : Hid (PC w.heap.size ⟨2, qX, qY, (L : Int), qro, qrn, qrc, qko, ks.length, qkc, qnp, qnt⟩ w2.drew) := pc_of HG2.out
  clear c0 c1 c2 c3 c4 c5 c6 c7
  have P1 : Hid _ := HP.out ks.length (by omega) 1 (by decide)
  have P2 : Hid _ := HP.out L (by omega) 1 (by decide)
  have P3 : Hid _ := HP.out qX (by omega) 4 (by decide)
  have P4 : Hid _ := HP.out qY (by omega) 4 (by decide)
  obtain ⟨y1, hy1⟩ : ∃ y, (⟨(lef ks.length 1).toArray⟩ : ByteArray) = y := ⟨_, rfl⟩
  have z1 : y1.size = 1 := by rw [← hy1, ba_size, lef_len]
  rw [hy1] at P1
  have HY1 : Hid _ := hy1
  obtain ⟨y2, hy2⟩ : ∃ y, (⟨(lef L 1).toArray⟩ : ByteArray) = y := ⟨_, rfl⟩
  have z2 : y2.size = 1 := by rw [← hy2, ba_size, lef_len]
  rw [hy2] at P2
  have HY2 : Hid _ := hy2
  obtain ⟨y3, hy3⟩ : ∃ y, (⟨(lef qX 4).toArray⟩ : ByteArray) = y := ⟨_, rfl⟩
  have z3 : y3.size = 4 := by rw [← hy3, ba_size, lef_len]
  rw [hy3] at P3
  have HY3 : Hid _ := hy3
  obtain ⟨y4, hy4⟩ : ∃ y, (⟨(lef qY 4).toArray⟩ : ByteArray) = y := ⟨_, rfl⟩
  have z4 : y4.size = 4 := by rw [← hy4, ba_size, lef_len]
  rw [hy4] at P4
  have HY4 : Hid _ := hy4
  have HGd : Hid (w2.drew.heap[w.heap.size]? = some (gcs ⟨2, qX, qY, (L : Int), qro, qrn, qrc, qko, ks.length, qkc, qnp, qnt⟩)) := HG2.out
  have HBd : Hid (Below w.heap.size w w2.drew) := HB2.out.drew
  clear hy1 hy2 hy3 hy4
  refine wpAnyH_take (i := 0) (v := ?_) rfl (by kernel_rfl) (by kernel_rfl) (by kernel_rfl) (fun _ _ _ h => h) (Or.inl ⟨by kernel_rfl, ?_⟩) HSW.out ?_
  rotate_left
  · intro w hS
    obtain ⟨e0, e1, e2, e3, e4, e5, e6, e7⟩ := hS
    go_simp
    try with_reducible rfl
  conv in (Act.put _ _ _) => simp only [List.getElem_toArray, List.getElem_cons_succ, List.getElem_cons_zero, Act.put, List.setIfInBounds_toArray, List.set_cons_succ, List.set_cons_zero]
  refine wpAnyH_take (i := 1) (v := ?_) rfl (by kernel_rfl) (by kernel_rfl) (by kernel_rfl) (fun _ _ _ h => h) (Or.inl ⟨by kernel_rfl, ?_⟩) HSW.out ?_
  rotate_left
  · intro w hS
    obtain ⟨e0, e1, e2, e3, e4, e5, e6, e7⟩ := hS
    go_simp
    try with_reducible rfl
  conv in (Act.put _ _ _) => simp only [List.getElem_toArray, List.getElem_cons_succ, List.getElem_cons_zero, Act.put, List.setIfInBounds_toArray, List.set_cons_succ, List.set_cons_zero]
  refine wpAnyH_take (i := 2) (v := ?_) rfl (by kernel_rfl) (by kernel_rfl) (by kernel_rfl) (fun _ _ _ h => h) (Or.inl ⟨by kernel_rfl, ?_⟩) HSW.out ?_
  rotate_left
  · intro w hS
    obtain ⟨e0, e1, e2, e3, e4, e5, e6, e7⟩ := hS
    go_simp
    try with_reducible rfl
  conv in (Act.put _ _ _) => simp only [List.getElem_toArray, List.getElem_cons_succ, List.getElem_cons_zero, Act.put, List.setIfInBounds_toArray, List.set_cons_succ, List.set_cons_zero]
  refine wpAnyH_take (i := 3) (v := ?_) rfl (by kernel_rfl) (by kernel_rfl) (by kernel_rfl) (fun _ _ _ h => h) (Or.inl ⟨by kernel_rfl, ?_⟩) HSW.out ?_
  rotate_left
  · intro w hS
    obtain ⟨e0, e1, e2, e3, e4, e5, e6, e7⟩ := hS
    go_simp
    try with_reducible rfl
  conv in (Act.put _ _ _) => simp only [List.getElem_toArray, List.getElem_cons_succ, List.getElem_cons_zero, Act.put, List.setIfInBounds_toArray, List.set_cons_succ, List.set_cons_zero]
  refine wpAnyH_take (i := 6) (v := ?_) rfl (by kernel_rfl) (by kernel_rfl) (by kernel_rfl) (fun _ _ _ h => h) (Or.inl ⟨by kernel_rfl, ?_⟩) HSW.out ?_
  rotate_left
  · intro w hS
    obtain ⟨e0, e1, e2, e3, e4, e5, e6, e7⟩ := hS
    go_simp
    try with_reducible rfl
  conv in (Act.put _ _ _) => simp only [List.getElem_toArray, List.getElem_cons_succ, List.getElem_cons_zero, Act.put, List.setIfInBounds_toArray, List.set_cons_succ, List.set_cons_zero]
  refine wpAnyH_take (i := 7) (v := ?_) rfl (by kernel_rfl) (by kernel_rfl) (by kernel_rfl) (fun _ _ _ h => h) (Or.inl ⟨by kernel_rfl, ?_⟩) HSW.out ?_
  rotate_left
  · intro w hS
    obtain ⟨e0, e1, e2, e3, e4, e5, e6, e7⟩ := hS
    go_simp
    try with_reducible rfl
  conv in (Act.put _ _ _) => simp only [List.getElem_toArray, List.getElem_cons_succ, List.getElem_cons_zero, Act.put, List.setIfInBounds_toArray, List.set_cons_succ, List.set_cons_zero]
  refine wpAnyH_take (i := 8) (v := ?_) rfl (by kernel_rfl) (by kernel_rfl) (by kernel_rfl) (fun _ _ _ h => h) (Or.inl ⟨by kernel_rfl, ?_⟩) HSW.out ?_
  rotate_left
  · intro w hS
    obtain ⟨e0, e1, e2, e3, e4, e5, e6, e7⟩ := hS
    go_simp
    try with_reducible rfl
  conv in (Act.put _ _ _) => simp only [List.getElem_toArray, List.getElem_cons_succ, List.getElem_cons_zero, Act.put, List.setIfInBounds_toArray, List.set_cons_succ, List.set_cons_zero]
  refine wpAnyH_take (i := 9) (v := ?_) rfl (by kernel_rfl) (by kernel_rfl) (by kernel_rfl) (fun _ _ _ h => h) (Or.inl ⟨by kernel_rfl, ?_⟩) HSW.out ?_
  rotate_left
  · intro w hS
    obtain ⟨e0, e1, e2, e3, e4, e5, e6, e7⟩ := hS
    go_simp
    try with_reducible rfl
  conv in (Act.put _ _ _) => simp only [List.getElem_toArray, List.getElem_cons_succ, List.getElem_cons_zero, Act.put, List.setIfInBounds_toArray, List.set_cons_succ, List.set_cons_zero]
  refine wpAnyH_take (i := 12) (v := ?_) rfl (by kernel_rfl) (by kernel_rfl) (by kernel_rfl) (fun _ _ _ h => h) (Or.inl ⟨by kernel_rfl, ?_⟩) HSW.out ?_
  rotate_left
  · intro w hS
    obtain ⟨e0, e1, e2, e3, e4, e5, e6, e7⟩ := hS
    go_simp
    try with_reducible rfl
  conv in (Act.put _ _ _) => simp only [List.getElem_toArray, List.getElem_cons_succ, List.getElem_cons_zero, Act.put, List.setIfInBounds_toArray, List.set_cons_succ, List.set_cons_zero]
  refine wpAnyH_take (i := 13) (v := ?_) rfl (by kernel_rfl) (by kernel_rfl) (by kernel_rfl) (fun _ _ _ h => h) (Or.inl ⟨by kernel_rfl, ?_⟩) HSW.out ?_
  rotate_left
  · intro w hS
    obtain ⟨e0, e1, e2, e3, e4, e5, e6, e7⟩ := hS
    go_simp
    try with_reducible rfl
  conv in (Act.put _ _ _) => simp only [List.getElem_toArray, List.getElem_cons_succ, List.getElem_cons_zero, Act.put, List.setIfInBounds_toArray, List.set_cons_succ, List.set_cons_zero]
  refine wpAnyH_take (i := 14) (v := ?_) rfl (by kernel_rfl) (by kernel_rfl) (by kernel_rfl) (fun _ _ _ h => h) (Or.inl ⟨by kernel_rfl, ?_⟩) HSW.out ?_
  rotate_left
  · intro w hS
    obtain ⟨e0, e1, e2, e3, e4, e5, e6, e7⟩ := hS
    go_simp
    try with_reducible rfl
  conv in (Act.put _ _ _) => simp only [List.getElem_toArray, List.getElem_cons_succ, List.getElem_cons_zero, Act.put, List.setIfInBounds_toArray, List.set_cons_succ, List.set_cons_zero]
  refine wpAnyH_take (i := 15) (v := ?_) rfl (by kernel_rfl) (by kernel_rfl) (by kernel_rfl) (fun _ _ _ h => h) (Or.inl ⟨by kernel_rfl, ?_⟩) HSW.out ?_
  rotate_left
  · intro w hS
    obtain ⟨e0, e1, e2, e3, e4, e5, e6, e7⟩ := hS
    go_simp
    try with_reducible rfl
  conv in (Act.put _ _ _) => simp only [List.getElem_toArray, List.getElem_cons_succ, List.getElem_cons_zero, Act.put, List.setIfInBounds_toArray, List.set_cons_succ, List.set_cons_zero]
  refine wpAnyH_take (i := 18) (v := ?_) rfl (by kernel_rfl) (by kernel_rfl) (by kernel_rfl) (fun _ _ _ h => h) (Or.inl ⟨by kernel_rfl, ?_⟩) HSW.out ?_
  rotate_left
  · intro w hS
    obtain ⟨e0, e1, e2, e3, e4, e5, e6, e7⟩ := hS
    go_simp
    try with_reducible rfl
  conv in (Act.put _ _ _) => simp only [List.getElem_toArray, List.getElem_cons_succ, List.getElem_cons_zero, Act.put, List.setIfInBounds_toArray, List.set_cons_succ, List.set_cons_zero]
  refine wpAnyH_take (i := 19) (v := ?_) rfl (by kernel_rfl) (by kernel_rfl) (by kernel_rfl) (fun _ _ _ h => h) (Or.inl ⟨by kernel_rfl, ?_⟩) HSW.out ?_
  rotate_left
  · intro w hS
    obtain ⟨e0, e1, e2, e3, e4, e5, e6, e7⟩ := hS
    go_simp
    try with_reducible rfl
  conv in (Act.put _ _ _) => simp only [List.getElem_toArray, List.getElem_cons_succ, List.getElem_cons_zero, Act.put, List.setIfInBounds_toArray, List.set_cons_succ, List.set_cons_zero]
  refine wpAnyH_take (i := 20) (v := ?_) rfl (by kernel_rfl) (by kernel_rfl) (by kernel_rfl) (fun _ _ _ h => h) (Or.inl ⟨by kernel_rfl, ?_⟩) HSW.out ?_
  rotate_left
  · intro w hS
    obtain ⟨e0, e1, e2, e3, e4, e5, e6, e7⟩ := hS
    go_simp
    try with_reducible rfl
  conv in (Act.put _ _ _) => simp only [List.getElem_toArray, List.getElem_cons_succ, List.getElem_cons_zero, Act.put, List.setIfInBounds_toArray, List.set_cons_succ, List.set_cons_zero]
  refine wpAnyH_take (i := 21) (v := ?_) rfl (by kernel_rfl) (by kernel_rfl) (by kernel_rfl) (fun _ _ _ h => h) (Or.inl ⟨by kernel_rfl, ?_⟩) HSW.out ?_
  rotate_left
  · intro w hS
    obtain ⟨e0, e1, e2, e3, e4, e5, e6, e7⟩ := hS
    go_simp
    try with_reducible rfl
  conv in (Act.put _ _ _) => simp only [List.getElem_toArray, List.getElem_cons_succ, List.getElem_cons_zero, Act.put, List.setIfInBounds_toArray, List.set_cons_succ, List.set_cons_zero]
  refine readyH 4 _ (by kernel_rfl) rfl (by kernel_rfl) (fun K hK => ?_)
  go_simp
  refine (P1.out w2.drew).mono ?_
  rintro e w3 ⟨rfl, bb⟩
  have HB3 : Hid (Below w.heap.size w w3) := HBd.out.trans (bb.mono HBd.out.size)
  replace HSW : Hid (PC w.heap.size ⟨2, qX, qY, (L : Int), qro, qrn, qrc, qko, ks.length, qkc, qnp, qnt⟩ w3) := pc_of ((bb.block _ (Array.getElem?_eq_some_iff.1 HGd.out).1).trans HGd.out)
  have HG3 : Hid (w3.heap[w.heap.size]? = some (gcs ⟨2, qX, qY, (L : Int), qro, qrn, qrc, qko, ks.length, qkc, qnp, qnt⟩)) := (bb.block _ (Array.getElem?_eq_some_iff.1 HGd.out).1).trans HGd.out
  clear bb
  refine hK _ _ HSW.out ?_
  clear hK K
  have z0 : (⟨#[2]⟩ : ByteArray).size = 1 := rfl
  refine wpAnyH_take (i := 5) (v := ?_) rfl (by kernel_rfl) (by kernel_rfl) (by kernel_rfl) (fun _ _ _ h => h) (Or.inl ⟨by kernel_rfl, ?_⟩) HSW.out ?_
  rotate_left
  · intro w hS
    obtain ⟨e0, e1, e2, e3, e4, e5, e6, e7⟩ := hS
    go_simp
    try with_reducible rfl
  conv in (Act.put _ _ _) => simp only [List.getElem_toArray, List.getElem_cons_succ, List.getElem_cons_zero, Act.put, List.setIfInBounds_toArray, List.set_cons_succ, List.set_cons_zero]
  obtain ⟨x1, hx1⟩ : ∃ x, (⟨#[2]⟩ : ByteArray) ++ y1 = x := ⟨_, rfl⟩
  have u1 : x1.size = 2 := by rw [← hx1, ByteArray.size_append]; omega
  rw [hx1]
  have HX1 : Hid _ := hx1
  clear hx1
  refine readyH 10 _ (by kernel_rfl) rfl (by kernel_rfl) (fun K hK => ?_)
  go_simp
  refine (P2.out w3).mono ?_
  rintro e w4 ⟨rfl, bb⟩
  have HB4 : Hid (Below w.heap.size w w4) := HB3.out.trans (bb.mono HB3.out.size)
  replace HSW : Hid (PC w.heap.size ⟨2, qX, qY, (L : Int), qro, qrn, qrc, qko, ks.length, qkc, qnp, qnt⟩ w4) := pc_of ((bb.block _ (Array.getElem?_eq_some_iff.1 HG3.out).1).trans HG3.out)
  have HG4 : Hid (w4.heap[w.heap.size]? = some (gcs ⟨2, qX, qY, (L : Int), qro, qrn, qrc, qko, ks.length, qkc, qnp, qnt⟩)) := (bb.block _ (Array.getElem?_eq_some_iff.1 HG3.out).1).trans HG3.out
  clear bb
  refine hK _ _ HSW.out ?_
  clear hK K
  refine wpAnyH_take (i := 11) (v := ?_) rfl (by kernel_rfl) (by kernel_rfl) (by kernel_rfl) (fun _ _ _ h => h) (Or.inl ⟨by kernel_rfl, ?_⟩) HSW.out ?_
  rotate_left
  · intro w hS
    obtain ⟨e0, e1, e2, e3, e4, e5, e6, e7⟩ := hS
    go_simp
    try with_reducible rfl
  conv in (Act.put _ _ _) => simp only [List.getElem_toArray, List.getElem_cons_succ, List.getElem_cons_zero, Act.put, List.setIfInBounds_toArray, List.set_cons_succ, List.set_cons_zero]
  obtain ⟨x2, hx2⟩ : ∃ x, (x1 : ByteArray) ++ y2 = x := ⟨_, rfl⟩
  have u2 : x2.size = 3 := by rw [← hx2, ByteArray.size_append]; omega
  rw [hx2]
  have HX2 : Hid _ := hx2
  clear hx2
  refine readyH 16 _ (by kernel_rfl) rfl (by kernel_rfl) (fun K hK => ?_)
  go_simp
  refine (P3.out w4).mono ?_
  rintro e w5 ⟨rfl, bb⟩
  have HB5 : Hid (Below w.heap.size w w5) := HB4.out.trans (bb.mono HB4.out.size)
  replace HSW : Hid (PC w.heap.size ⟨2, qX, qY, (L : Int), qro, qrn, qrc, qko, ks.length, qkc, qnp, qnt⟩ w5) := pc_of ((bb.block _ (Array.getElem?_eq_some_iff.1 HG4.out).1).trans HG4.out)
  have HG5 : Hid (w5.heap[w.heap.size]? = some (gcs ⟨2, qX, qY, (L : Int), qro, qrn, qrc, qko, ks.length, qkc, qnp, qnt⟩)) := (bb.block _ (Array.getElem?_eq_some_iff.1 HG4.out).1).trans HG4.out
  clear bb
  refine hK _ _ HSW.out ?_
  clear hK K
  refine wpAnyH_take (i := 17) (v := ?_) rfl (by kernel_rfl) (by kernel_rfl) (by kernel_rfl) (fun _ _ _ h => h) (Or.inl ⟨by kernel_rfl, ?_⟩) HSW.out ?_
  rotate_left
  · intro w hS
    obtain ⟨e0, e1, e2, e3, e4, e5, e6, e7⟩ := hS
    go_simp
    try with_reducible rfl
  conv in (Act.put _ _ _) => simp only [List.getElem_toArray, List.getElem_cons_succ, List.getElem_cons_zero, Act.put, List.setIfInBounds_toArray, List.set_cons_succ, List.set_cons_zero]
  obtain ⟨x3, hx3⟩ : ∃ x, (x2 : ByteArray) ++ y3 = x := ⟨_, rfl⟩
  have u3 : x3.size = 7 := by rw [← hx3, ByteArray.size_append]; omega
  rw [hx3]
  have HX3 : Hid _ := hx3
  clear hx3
  refine readyH 22 _ (by kernel_rfl) rfl (by kernel_rfl) (fun K hK => ?_)
  go_simp
  refine (P4.out w5).mono ?_
  rintro e w6 ⟨rfl, bb⟩
  have HB6 : Hid (Below w.heap.size w w6) := HB5.out.trans (bb.mono HB5.out.size)
  replace HSW : Hid (PC w.heap.size ⟨2, qX, qY, (L : Int), qro, qrn, qrc, qko, ks.length, qkc, qnp, qnt⟩ w6) := pc_of ((bb.block _ (Array.getElem?_eq_some_iff.1 HG5.out).1).trans HG5.out)
  have HG6 : Hid (w6.heap[w.heap.size]? = some (gcs ⟨2, qX, qY, (L : Int), qro, qrn, qrc, qko, ks.length, qkc, qnp, qnt⟩)) := (bb.block _ (Array.getElem?_eq_some_iff.1 HG5.out).1).trans HG5.out
  clear bb
  refine hK _ _ HSW.out ?_
  clear hK K
  refine wpAnyH_take (i := 23) (v := ?_) rfl (by kernel_rfl) (by kernel_rfl) (by kernel_rfl) (fun _ _ _ h => h) (Or.inl ⟨by kernel_rfl, ?_⟩) HSW.out ?_
  rotate_left
  · intro w hS
    obtain ⟨e0, e1, e2, e3, e4, e5, e6, e7⟩ := hS
    go_simp
    try with_reducible rfl
  conv in (Act.put _ _ _) => simp only [List.getElem_toArray, List.getElem_cons_succ, List.getElem_cons_zero, Act.put, List.setIfInBounds_toArray, List.set_cons_succ, List.set_cons_zero]
  obtain ⟨x4, hx4⟩ : ∃ x, (x3 : ByteArray) ++ y4 = x := ⟨_, rfl⟩
  have u4 : x4.size = 11 := by rw [← hx4, ByteArray.size_append]; omega
  rw [hx4]
  have HX4 : Hid _ := hx4
  clear hx4
  refine wpAnyH_take (i := 24) (v := ?_) rfl (by kernel_rfl) (by kernel_rfl) (by kernel_rfl) (fun _ _ _ h => h) (Or.inl ⟨by kernel_rfl, ?_⟩) HSW.out ?_
  rotate_left
  · intro w hS
    obtain ⟨e0, e1, e2, e3, e4, e5, e6, e7⟩ := hS
    go_simp
    try with_reducible rfl
  conv in (Act.put _ _ _) => simp only [List.getElem_toArray, List.getElem_cons_succ, List.getElem_cons_zero, Act.put, List.setIfInBounds_toArray, List.set_cons_succ, List.set_cons_zero]
  refine wpAnyH_done (by kernel_rfl) ?_ _
  have HX : Hid (x4 = ⟨(lef 2 1 ++ (lef ks.length 1 ++ (lef L 1 ++ (lef qX 4 ++ lef qY 4)))).toArray⟩) := by
    refine (?_ : x4 = ⟨(lef 2 1 ++ (lef ks.length 1 ++ (lef L 1 ++ (lef qX 4 ++ lef qY 4)))).toArray⟩)
    rw [← HX4.out, ← HX3.out, ← HX2.out, ← HX1.out, ← HY1.out, ← HY2.out, ← HY3.out, ← HY4.out]
    have : (⟨#[2]⟩ : ByteArray) = ⟨(lef 2 1).toArray⟩ := by decide
    rw [this]
    simp only [ba_app, List.append_assoc]
  clear HX1 HX2 HX3 HX4 HY1 HY2 HY3 HY4 P1 P2 P3 P4 HSW HG2 HG3 HG4 HG5 HB2 HB3 HB4 HB5 HGd HBd
  go_wp2_with fail
  clear u1 u2 u3
  have hb6 := HB6.out.size
  go_loopw [5, 6] (fun sv iv wr => ∃ (i : Nat) (x : ByteArray), i ≤ ks.length ∧ sv = .string x ∧ iv = .int .i64 (i : Int) ∧ x = ⟨(lef 2 1 ++ (lef ks.length 1 ++ (lef L 1 ++ (lef qX 4 ++ (lef qY 4 ++ (ks.take i).flatMap fun r => refB r.p r.t))))).toArray⟩ ∧ x.size ≤ 11 + i * 104 ∧ Below w6.heap.size w6 wr) (fun _ iv _ => ks.length - natOf iv)
  case atStart => exact ⟨0, x4, Nat.zero_le _, rfl, rfl, by rw [HX.out]; simp, by omega, Below.refl _ _⟩
  case round =>
    obtain ⟨i, x, hi, rfl, rfl, hx, hsz, hb⟩ := hrel
    have HX' : Hid _ := hx
    have HBx : Hid (Below w6.heap.size w6 wr) := hb
    have HBw : Hid (Below w.heap.size w wr) := HB6.out.trans (hb.mono HB6.out.size)
    have HGw : Hid (wr.heap[w.heap.size]? = some (gcs ⟨2, qX, qY, (L : Int), qro, qrn, qrc, qko, ks.length, qkc, qnp, qnt⟩)) := (hb.block _ (Array.getElem?_eq_some_iff.1 HG6.out).1).trans HG6.out
    clear hb hx
    obtain ⟨⟨c0, c1, c2, c3, c4, c5, c6, c7⟩, lB⟩ := pg_cells HGw.out
    simp only at c0 c1 c2 c3 c4 c5 c6 c7
    by_cases hlt : i < ks.length
    · have hrd := (HRW.out wr HBw.out).ref hlt
      obtain ⟨pb, off, rfl, hbl, hc⟩ := hrd
      have hci := hc i hlt
      have hmem : fat ks i ∈ ks := by unfold fat; rw [List.getElem?_eq_getElem hlt]; exact List.getElem_mem hlt
      have hT := HT.out _ hmem
      have HTN' : Hid _ := HTN.out _ hmem
      have HTK : Hid ((ks.take (i + 1)).flatMap (fun r => refB r.p r.t) = (ks.take i).flatMap (fun r => refB r.p r.t) ++ refB (fat ks i).p (fat ks i).t) := by
        refine (?_ : (ks.take (i + 1)).flatMap (fun r => refB r.p r.t) = (ks.take i).flatMap (fun r => refB r.p r.t) ++ refB (fat ks i).p (fat ks i).t)
        rw [List.take_add_one, fat_some hlt, List.flatMap_append]
        simp
      generalize fat ks i = rr at *
      obtain ⟨p, t⟩ := rr
      simp only at hci hT HTN' HTK
      obtain ⟨d0, d1⟩ := hci
      obtain ⟨hT1, hT2⟩ := hT
      have q5 : (i : Int) < (ks.length : Int) := by omega
      have i0 : (0 : Int) ≤ (i : Int) := by omega
      have qp : IntKind.u64.wrap (p : Int) = (p : Int) := IntWalk.u64_in _ ⟨by omega, by omega⟩
      have PP : Hid _ := HP.out p (by omega) 4 (by decide)
      obtain ⟨y, hy⟩ : ∃ y, (⟨(lef p 4).toArray⟩ : ByteArray) = y := ⟨_, rfl⟩
      have zy : y.size = 4 := by rw [← hy, ba_size, lef_len]
      rw [hy] at PP
      have HY : Hid _ := hy
      have hq0 : ¬ 9223372036854775807 < x.size + y.size := by omega
      have HZY : Hid (y.size = 4) := zy
      clear zy
      have HSK : Hid (∀ W, Below wr.heap.size wr W → PK w.heap.size (.slice (some ⟨pb, off, none⟩) ks.length qkc) pb (off + i * 2) p t W) := fun W hW => ⟨(World.cell?_of_block (a := ⟨w.heap.size, 5, none⟩) (hW.block _ lB)).trans c5, (World.cell?_of_block (a := ⟨pb, off + i * 2, none⟩) (hW.block _ hbl)).trans d0, (World.cell?_of_block (a := ⟨pb, off + i * 2 + 1, none⟩) (hW.block _ hbl)).trans d1⟩
      clear hc hy hmem
      go_wp2_with fail
      refine wp_region_held (S := PK w.heap.size (.slice (some ⟨pb, off, none⟩) ks.length qkc) pb (off + i * 2) p t) (by kernel_rfl) ?_
      change wpAnyH _ _ _ _ _ _ _ _ (World.drew _)
      have HSW : Hid (PK w.heap.size (.slice (some ⟨pb, off, none⟩) ks.length qkc) pb (off + i * 2) p t wr.drew) := HSK.out _ (Below.refl _ _).drew
      clear c0 c1 c2 c3 c4 c5 c6 c7 d0 d1
      refine wpAnyH_take (i := 0) (v := ?_) rfl (by kernel_rfl) (by kernel_rfl) (by kernel_rfl) (fun _ _ _ h => h) (Or.inl ⟨by kernel_rfl, ?_⟩) HSW.out ?_
      rotate_left
      · intro w hS
        obtain ⟨e0, e1, e2⟩ := hS
        go_simp
        try with_reducible rfl
      conv in (Act.put _ _ _) => simp only [List.getElem_toArray, List.getElem_cons_succ, List.getElem_cons_zero, Act.put, List.setIfInBounds_toArray, List.set_cons_succ, List.set_cons_zero]
      refine wpAnyH_take (i := 1) (v := ?_) rfl (by kernel_rfl) (by kernel_rfl) (by kernel_rfl) (fun _ _ _ h => h) (Or.inl ⟨by kernel_rfl, ?_⟩) HSW.out ?_
      rotate_left
      · intro w hS
        obtain ⟨e0, e1, e2⟩ := hS
        go_simp
        try with_reducible rfl
      conv in (Act.put _ _ _) => simp only [List.getElem_toArray, List.getElem_cons_succ, List.getElem_cons_zero, Act.put, List.setIfInBounds_toArray, List.set_cons_succ, List.set_cons_zero]
      refine wpAnyH_take (i := 2) (v := ?_) rfl (by kernel_rfl) (by kernel_rfl) (by kernel_rfl) (fun _ _ _ h => h) (Or.inl ⟨by kernel_rfl, ?_⟩) HSW.out ?_
      rotate_left
      · intro w hS
        obtain ⟨e0, e1, e2⟩ := hS
        go_simp
        try with_reducible rfl
      conv in (Act.put _ _ _) => simp only [List.getElem_toArray, List.getElem_cons_succ, List.getElem_cons_zero, Act.put, List.setIfInBounds_toArray, List.set_cons_succ, List.set_cons_zero]
      refine wpAnyH_take (i := 3) (v := ?_) rfl (by kernel_rfl) (by kernel_rfl) (by kernel_rfl) (fun _ _ _ h => h) (Or.inl ⟨by kernel_rfl, ?_⟩) HSW.out ?_
      rotate_left
      · intro w hS
        obtain ⟨e0, e1, e2⟩ := hS
        go_simp
        try with_reducible rfl
      conv in (Act.put _ _ _) => simp only [List.getElem_toArray, List.getElem_cons_succ, List.getElem_cons_zero, Act.put, List.setIfInBounds_toArray, List.set_cons_succ, List.set_cons_zero]
      refine wpAnyH_take (i := 4) (v := ?_) rfl (by kernel_rfl) (by kernel_rfl) (by kernel_rfl) (fun _ _ _ h => h) (Or.inl ⟨by kernel_rfl, ?_⟩) HSW.out ?_
      rotate_left
      · intro w hS
        obtain ⟨e0, e1, e2⟩ := hS
        go_simp
        try with_reducible rfl
      conv in (Act.put _ _ _) => simp only [List.getElem_toArray, List.getElem_cons_succ, List.getElem_cons_zero, Act.put, List.setIfInBounds_toArray, List.set_cons_succ, List.set_cons_zero]
      refine wpAnyH_take (i := 5) (v := ?_) rfl (by kernel_rfl) (by kernel_rfl) (by kernel_rfl) (fun _ _ _ h => h) (Or.inl ⟨by kernel_rfl, ?_⟩) HSW.out ?_
      rotate_left
      · intro w hS
        obtain ⟨e0, e1, e2⟩ := hS
        go_simp
        try with_reducible rfl
      conv in (Act.put _ _ _) => simp only [List.getElem_toArray, List.getElem_cons_succ, List.getElem_cons_zero, Act.put, List.setIfInBounds_toArray, List.set_cons_succ, List.set_cons_zero]
      refine wpAnyH_take (i := 6) (v := ?_) rfl (by kernel_rfl) (by kernel_rfl) (by kernel_rfl) (fun _ _ _ h => h) (Or.inl ⟨by kernel_rfl, ?_⟩) HSW.out ?_
      rotate_left
      · intro w hS
        obtain ⟨e0, e1, e2⟩ := hS
        go_simp
        try with_reducible rfl
      conv in (Act.put _ _ _) => simp only [List.getElem_toArray, List.getElem_cons_succ, List.getElem_cons_zero, Act.put, List.setIfInBounds_toArray, List.set_cons_succ, List.set_cons_zero]
      refine wpAnyH_take (i := 7) (v := ?_) rfl (by kernel_rfl) (by kernel_rfl) (by kernel_rfl) (fun _ _ _ h => h) (Or.inl ⟨by kernel_rfl, ?_⟩) HSW.out ?_
      rotate_left
      · intro w hS
        obtain ⟨e0, e1, e2⟩ := hS
        go_simp
        try with_reducible rfl
      conv in (Act.put _ _ _) => simp only [List.getElem_toArray, List.getElem_cons_succ, List.getElem_cons_zero, Act.put, List.setIfInBounds_toArray, List.set_cons_succ, List.set_cons_zero]
      refine wpAnyH_take (i := 10) (v := ?_) rfl (by kernel_rfl) (by kernel_rfl) (by kernel_rfl) (fun _ _ _ h => h) (Or.inl ⟨by kernel_rfl, ?_⟩) HSW.out ?_
      rotate_left
      · intro w hS
        obtain ⟨e0, e1, e2⟩ := hS
        go_simp
        try with_reducible rfl
      conv in (Act.put _ _ _) => simp only [List.getElem_toArray, List.getElem_cons_succ, List.getElem_cons_zero, Act.put, List.setIfInBounds_toArray, List.set_cons_succ, List.set_cons_zero]
      refine wpAnyH_take (i := 11) (v := ?_) rfl (by kernel_rfl) (by kernel_rfl) (by kernel_rfl) (fun _ _ _ h => h) (Or.inl ⟨by kernel_rfl, ?_⟩) HSW.out ?_
      rotate_left
      · intro w hS
        obtain ⟨e0, e1, e2⟩ := hS
        go_simp
        try with_reducible rfl
      conv in (Act.put _ _ _) => simp only [List.getElem_toArray, List.getElem_cons_succ, List.getElem_cons_zero, Act.put, List.setIfInBounds_toArray, List.set_cons_succ, List.set_cons_zero]
      refine wpAnyH_take (i := 12) (v := ?_) rfl (by kernel_rfl) (by kernel_rfl) (by kernel_rfl) (fun _ _ _ h => h) (Or.inl ⟨by kernel_rfl, ?_⟩) HSW.out ?_
      rotate_left
      · intro w hS
        obtain ⟨e0, e1, e2⟩ := hS
        go_simp
        try with_reducible rfl
      conv in (Act.put _ _ _) => simp only [List.getElem_toArray, List.getElem_cons_succ, List.getElem_cons_zero, Act.put, List.setIfInBounds_toArray, List.set_cons_succ, List.set_cons_zero]
      refine wpAnyH_take (i := 13) (v := ?_) rfl (by kernel_rfl) (by kernel_rfl) (by kernel_rfl) (fun _ _ _ h => h) (Or.inl ⟨by kernel_rfl, ?_⟩) HSW.out ?_
      rotate_left
      · intro w hS
        obtain ⟨e0, e1, e2⟩ := hS
        go_simp
        try with_reducible rfl
      conv in (Act.put _ _ _) => simp only [List.getElem_toArray, List.getElem_cons_succ, List.getElem_cons_zero, Act.put, List.setIfInBounds_toArray, List.set_cons_succ, List.set_cons_zero]
      refine wpAnyH_take (i := 14) (v := ?_) rfl (by kernel_rfl) (by kernel_rfl) (by kernel_rfl) (fun _ _ _ h => h) (Or.inl ⟨by kernel_rfl, ?_⟩) HSW.out ?_
      rotate_left
      · intro w hS
        obtain ⟨e0, e1, e2⟩ := hS
        go_simp
        try with_reducible rfl
      conv in (Act.put _ _ _) => simp only [List.getElem_toArray, List.getElem_cons_succ, List.getElem_cons_zero, Act.put, List.setIfInBounds_toArray, List.set_cons_succ, List.set_cons_zero]
      refine wpAnyH_take (i := 15) (v := ?_) rfl (by kernel_rfl) (by kernel_rfl) (by kernel_rfl) (fun _ _ _ h => h) (Or.inl ⟨by kernel_rfl, ?_⟩) HSW.out ?_
      rotate_left
      · intro w hS
        obtain ⟨e0, e1, e2⟩ := hS
        go_simp
        try with_reducible rfl
      conv in (Act.put _ _ _) => simp only [List.getElem_toArray, List.getElem_cons_succ, List.getElem_cons_zero, Act.put, List.setIfInBounds_toArray, List.set_cons_succ, List.set_cons_zero]
      refine readyH 8 _ (by kernel_rfl) rfl (by kernel_rfl) (fun K hK => ?_)
      go_simp
      refine (PP.out wr.drew).mono ?_
      rintro e w7 ⟨rfl, bb⟩
      have hbd : Below wr.heap.size wr w7 := (Below.refl _ wr).drew.trans (bb.mono (Nat.le_refl _))
      replace HSW : Hid (PK w.heap.size (.slice (some ⟨pb, off, none⟩) ks.length qkc) pb (off + i * 2) p t w7) := HSK.out _ hbd
      have HB7 : Hid (Below w6.heap.size w6 w7) := HBx.out.trans (hbd.mono HBx.out.size)
      clear bb hbd
      refine hK _ _ HSW.out ?_
      clear hK K
      refine wpAnyH_take (i := 9) (v := ?_) rfl (by kernel_rfl) (by kernel_rfl) (by kernel_rfl) (fun _ _ _ h => h) (Or.inl ⟨by kernel_rfl, ?_⟩) HSW.out ?_
      rotate_left
      · intro w hS
        obtain ⟨e0, e1, e2⟩ := hS
        go_simp
        try with_reducible rfl
      conv in (Act.put _ _ _) => simp only [List.getElem_toArray, List.getElem_cons_succ, List.getElem_cons_zero, Act.put, List.setIfInBounds_toArray, List.set_cons_succ, List.set_cons_zero]
      obtain ⟨v, hv⟩ : ∃ v, x ++ y = v := ⟨_, rfl⟩
      have zv : v.size ≤ 15 + i * 104 := by rw [← hv, ByteArray.size_append, HZY.out]; omega
      rw [hv]
      have HV : Hid _ := hv
      have hq : ¬ 9223372036854775807 < v.size + t.size := by omega
      clear hv
      refine wpAnyH_take (i := 16) (v := ?_) rfl (by kernel_rfl) (by kernel_rfl) (by kernel_rfl) (fun _ _ _ h => h) (Or.inl ⟨by kernel_rfl, ?_⟩) HSW.out ?_
      rotate_left
      · intro w hS
        obtain ⟨e0, e1, e2⟩ := hS
        go_simp
        try with_reducible rfl
      conv in (Act.put _ _ _) => simp only [List.getElem_toArray, List.getElem_cons_succ, List.getElem_cons_zero, Act.put, List.setIfInBounds_toArray, List.set_cons_succ, List.set_cons_zero]
      obtain ⟨v2, hv2⟩ : ∃ v2, v ++ t = v2 := ⟨_, rfl⟩
      have zv2 : v2.size ≤ 11 + (i + 1) * 104 := by rw [← hv2, ByteArray.size_append]; omega
      rw [hv2]
      have HV2 : Hid _ := hv2
      clear hv2
      refine wpAnyH_take (i := 17) (v := ?_) rfl (by kernel_rfl) (by kernel_rfl) (by kernel_rfl) (fun _ _ _ h => h) (Or.inl ⟨by kernel_rfl, ?_⟩) HSW.out ?_
      rotate_left
      · intro w hS
        obtain ⟨e0, e1, e2⟩ := hS
        go_simp
        try with_reducible rfl
      conv in (Act.put _ _ _) => simp only [List.getElem_toArray, List.getElem_cons_succ, List.getElem_cons_zero, Act.put, List.setIfInBounds_toArray, List.set_cons_succ, List.set_cons_zero]
      refine wpAnyH_done (by kernel_rfl) ?_ _
      go_wp2_with fail
      go_roundw
      case rel =>
        refine ⟨i + 1, v2, by omega, rfl, by go_num, ?_, zv2, HB7.out⟩
        rw [HTK.out, ← HV2.out, ← HV.out, HX'.out, ← HY.out, HTN'.out]
        conv => lhs; rw [← ba_data t]
        simp only [ba_app, List.append_assoc]
      case measure => simp [natOf]; omega
    · obtain rfl : i = ks.length := by omega
      have q5 : ¬ (ks.length : Int) < (ks.length : Int) := by omega
      go_wp2_with fail
      go_ret2
      refine ⟨?_, HBw.out⟩
      rw [HX'.out, List.take_length]
      unfold innerB
      rfl
end Go.Proofs.Ytljponlfjombaaa.Rw
