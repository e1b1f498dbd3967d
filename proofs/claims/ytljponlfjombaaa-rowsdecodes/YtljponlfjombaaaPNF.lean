/- The reference: the bytes of leaves. -/
import Derived.Test.YtljponlfjombaaaPNE
import Derived.Deep.OwnRows
namespace Go.Proofs.Ytljponlfjombaaa.Rw
open Go.RowKit Go.Lib Go.Shelf
open Go.Proofs.Ytljponlfjombaaa.Rc Go.Proofs.Ytljponlfjombaaa.Rq
set_option maxRecDepth 100000 in
theorem make_32 (w : World) : (Instr.makeSlice 43 (.int .i64 32) (.int .i64 32)).run Try.prog w = .ok (.slice (some ⟨w.heap.size, 0, none⟩) 32 32) (w.alloc (.cells (madeCells #[.int .u8 0] 32) 5)) :=
  run_make_row' 43 5 (.int .u8 0) 1 Try.underlying43 infoByte rfl .i64 .i64 32 (by decide) (by decide) w
set_option maxRecDepth 100000 in
theorem conv_32 (w W : World) (h : W.heap[w.heap.size]? = some (.cells (madeCells #[.int .u8 0] 32) 5 (0, 0))) : (convert 43 9 (.slice (some ⟨w.heap.size, 0, none⟩) 32 32)).run Try.prog W = .ok (.string noTag) W := by
  have e : noTag = ⟨(List.replicate 32 (0 : UInt8)).toArray⟩ := by decide
  rw [e]
  refine run_convert_bytes_back W 43 9 5 ⟨w.heap.size, 0, none⟩ 32 (List.replicate 32 (0 : UInt8)) Try.underlying43 Try.underlying5 Try.underlying9 fun j hj => ?_
  rw [List.length_replicate] at hj
  rw [Addr.add_lit, cell_of_row _ _ _ _ _ _ h, List.getElem_replicate, Nat.zero_add]
  have e2 : (madeCells #[Value.int .u8 0] 32) = (List.replicate 32 (Value.int .u8 0)).toArray := by kernel_rfl
  rw [e2]
  rw [List.getElem?_toArray, List.getElem?_replicate, if_pos hj]
  rfl
set_option maxRecDepth 100000 in
theorem leaf_tag {q : Pg} {l : List Rw} (h : rleaf q l = true) : (q.nt = ⟨#[]⟩ ∧ refB q.np q.nt = lef q.np 4 ++ noTag.data.toList) ∨ (q.nt ≠ ⟨#[]⟩ ∧ refB q.np q.nt = lef q.np 4 ++ q.nt.data.toList ∧ q.nt.size = 32) := by
  unfold rleaf at h
  simp only [Bool.and_eq_true, Bool.or_eq_true] at h
  rcases h.1 with h1 | h1
  · refine .inl ⟨(noRef_some h1).2, ?_⟩
    rw [refB_no h1, (noRef_some h1).1]
  · have := (rref_some h1).2
    refine .inr ⟨fun e => ?_, refB_yes (no_size this), this⟩
    rw [e] at this
    cases this
/-- A row's cells. -/
def PR (g : Nat) (id x y : Nat) (v : ByteArray) (w : World) : Prop := w.cell? ⟨g, 0, none⟩ = some (.int .u64 (id : Int)) ∧ w.cell? ⟨g, 1, none⟩ = some (.int .u32 (x : Int)) ∧ w.cell? ⟨g, 2, none⟩ = some (.int .u32 (y : Int)) ∧ w.cell? ⟨g, 3, none⟩ = some (.string v)
set_option maxRecDepth 100000 in
set_option maxHeartbeats 4000000 in
theorem senc_leaf (q : Pg) (l : List Rw) (ks : List Rf) (w : World) (h : PgAt w q l ks) (hnp : q.np < 4294967296) (hro : ∀ r ∈ l, okRow r) (hk : q.k = 1) (hR : rpage q l ks = true) :
    Calls Try.prog 17 #[gv q] w fun e w' => e = .returned (.tuple #[.string ⟨(leafB l q.np q.nt).toArray⟩, .int .i64 0]) ∧ Below w.heap.size w w' := by
  have hri : rleaf q l = true := by unfold rpage at hR; rw [if_pos hk] at hR; exact hR
  obtain ⟨f1, -, f2, -⟩ := leaf_facts hri
  have htg := leaf_tag hri
  have HRW : Hid (∀ W : World, Below w.heap.size w W → RowsAt W q.ro q.rc l) := fun W hW => RowsAt.below h.rows hW (Nat.le_refl _)
  have HSR : Hid (∀ _ : True, _) := fun _ => sright_leaf q l ks (w.alloc (gcs q)) (h.below (below_new w _) (Nat.le_refl _)) hk
  have HG1 : Hid ((w.alloc (gcs q)).heap[w.heap.size]? = some (gcs q)) := heap_alloc_new w (gcs q)
  have HB1 : Hid (Below w.heap.size w (w.alloc (gcs q))) := below_new w (gcs q)
  rw [hri] at HSR
  have hrn := h.rn
  have HP : Hid _ := sput_any
  have HT : Hid (∀ r ∈ l, r.v.size ≤ 16 ∧ okRow r) := fun r hr => ⟨(f2 r hr).1, hro r hr⟩
  clear h hri hR f2 hro
  obtain ⟨qk, qX, qY, qL, qro, qrn, qrc, qko, qkn, qkc, qnp, qnt⟩ := q
  simp only at hrn HRW hk HSR hnp htg ⊢
  subst hrn hk
  obtain ⟨tg, htg1, htg2, htg3⟩ : ∃ tg : ByteArray, ((qnt = ⟨#[]⟩ ∧ tg = noTag) ∨ (qnt ≠ ⟨#[]⟩ ∧ tg = qnt)) ∧ refB qnp qnt = lef qnp 4 ++ tg.data.toList ∧ tg.size = 32 := by
    rcases htg with ⟨a, b⟩ | ⟨a, b, c⟩
    · exact ⟨noTag, .inl ⟨a, rfl⟩, b, noTag_size⟩
    · exact ⟨qnt, .inr ⟨a, rfl⟩, b, c⟩
  have HTG : Hid (refB qnp qnt = lef qnp 4 ++ tg.data.toList ∧ tg.size = 32) := ⟨htg2, htg3⟩
  clear htg htg2 htg3
  obtain ⟨W1, hW1⟩ : ∃ W1, w.alloc (gcs ⟨1, qX, qY, qL, qro, l.length, qrc, qko, qkn, qkc, qnp, qnt⟩) = W1 := ⟨_, rfl⟩
  rw [hW1] at HG1 HB1 HSR
  have HW1 : Hid (w.alloc (.cells #[.int .i64 1, .int .u32 (qX : Int), .int .u32 (qY : Int), .int .i64 qL, .slice qro l.length qrc, .slice qko qkn qkc, .int .u32 (qnp : Int), .string qnt] 30) = W1) := hW1
  clear hW1
  simp only [gv] at HSR ⊢
  have q0 : (l.length : Int) ≤ 4 := by omega
  have q1 : IntKind.u64.wrap (l.length : Int) = (l.length : Int) := IntWalk.u64_in _ ⟨by omega, by omega⟩
  have q2 : IntKind.u64.wrap (qnp : Int) = (qnp : Int) := IntWalk.u64_in _ ⟨by omega, by omega⟩
  go_enter Try.func17, Try.ntmps17
  go_wp2_with fail
  rw [HW1.out]
  clear HW1
  refine (HSR.out trivial).mono ?_
  rintro e w2 ⟨rfl, b2⟩
  have HB2 : Hid (Below w.heap.size w w2) := HB1.out.trans (b2.mono HB1.out.size)
  have hg2 := (b2.block _ (Array.getElem?_eq_some_iff.1 HG1.out).1).trans HG1.out
  have HG2 : Hid (w2.heap[w.heap.size]? = some (gcs ⟨1, qX, qY, qL, qro, l.length, qrc, qko, qkn, qkc, qnp, qnt⟩)) := hg2
  obtain ⟨⟨c0, c1, c2, c3, c4, c5, c6, c7⟩, lB⟩ := pg_cells hg2
  simp only at c0 c1 c2 c3 c4 c5 c6 c7
  clear b2 hg2 HSR HG1 HB1
  rcases htg1 with ⟨rfl, rfl⟩ | ⟨hne, rfl⟩
  · have hmk := make_32
    have hcv := conv_32 w2 (w2.alloc (.cells (madeCells #[.int .u8 0] 32) 5)) (heap_alloc_new w2 _)
    go_wp2_with fail
    have hbn := below_new w2 (.cells (madeCells #[.int .u8 0] 32) 5)
    have HB3 : Hid (Below w.heap.size w (w2.alloc (.cells (madeCells #[.int .u8 0] 32) 5))) := HB2.out.trans (hbn.mono HB2.out.size)
    have HG3 : Hid ((w2.alloc (.cells (madeCells #[.int .u8 0] 32) 5)).heap[w.heap.size]? = some (gcs ⟨1, qX, qY, qL, qro, l.length, qrc, qko, qkn, qkc, qnp, ⟨#[]⟩⟩)) := (hbn.block _ lB).trans HG2.out
    obtain ⟨W3, hW3⟩ : ∃ W3, w2.alloc (.cells (madeCells #[.int .u8 0] 32) 5) = W3 := ⟨_, rfl⟩
    rw [hW3] at HB3 HG3 ⊢
    clear hW3 hmk hcv hbn HB2 HG2 lB
    clear c0 c1 c2 c3 c4 c5 c6 c7
    refine wp_region_held (S := PC w.heap.size ⟨1, qX, qY, qL, qro, l.length, qrc, qko, qkn, qkc, qnp, ⟨#[]⟩⟩) (by kernel_rfl) ?_
    change wpAnyH _ _ _ _ _ _ _ _ (World.drew _)
    have HSW : Hid (PC w.heap.size ⟨1, qX, qY, qL, qro, l.length, qrc, qko, qkn, qkc, qnp, ⟨#[]⟩⟩ W3.drew) := pc_of HG3.out
    have HGd : Hid (W3.drew.heap[w.heap.size]? = some (gcs ⟨1, qX, qY, qL, qro, l.length, qrc, qko, qkn, qkc, qnp, ⟨#[]⟩⟩)) := HG3.out
    have HBd : Hid (Below w.heap.size w W3.drew) := HB3.out.drew
    have P1 : Hid _ := HP.out l.length (by omega) 1 (by decide)
    have P2 : Hid _ := HP.out qnp (by omega) 4 (by decide)
    obtain ⟨y1, hy1⟩ : ∃ y, (⟨(lef l.length 1).toArray⟩ : ByteArray) = y := ⟨_, rfl⟩
    have z1 : y1.size = 1 := by rw [← hy1, ba_size, lef_len]
    rw [hy1] at P1
    have HY1 : Hid _ := hy1
    obtain ⟨y2, hy2⟩ : ∃ y, (⟨(lef qnp 4).toArray⟩ : ByteArray) = y := ⟨_, rfl⟩
    have z2 : y2.size = 4 := by rw [← hy2, ba_size, lef_len]
    rw [hy2] at P2
    have HY2 : Hid _ := hy2
    clear hy1 hy2
    have z0 : (⟨#[1]⟩ : ByteArray).size = 1 := rfl
    refine wpAnyH_take (i := 0) (v := ?_) rfl (by kernel_rfl) (by kernel_rfl) (by kernel_rfl) (fun _ _ _ h => h) (Or.inl ⟨by kernel_rfl, ?_⟩) HSW.out ?_
    rotate_left
    · intro w hS
      obtain ⟨e0, e1, e2, e3, e4, e5, e6, e7⟩ := hS
      go_simp
      try with_reducible rfl
    conv in (Act.put _ _ _) => simp only [List.getElem_toArray, List.getElem_cons_succ, List.getElem_cons_zero, Act.put, List.setIfInBounds_toArray, List.set_cons_succ, List.set_cons_zero]
    refine wpAnyH_take (i := 1) (v := ?_) rfl (by kernel_rfl) (by kernel_rfl) (by kernel_rfl) (fun _ _ _ h => h) (Or.inl ⟨by kernel_rfl, ?_⟩) HSW.out ?_
    rotate_left
    · intro w hS
      obtain ⟨e0, e1, e2, e3, e4, e5, e6, e7⟩ := hS
      go_simp
      try with_reducible rfl
    conv in (Act.put _ _ _) => simp only [List.getElem_toArray, List.getElem_cons_succ, List.getElem_cons_zero, Act.put, List.setIfInBounds_toArray, List.set_cons_succ, List.set_cons_zero]
    refine wpAnyH_take (i := 2) (v := ?_) rfl (by kernel_rfl) (by kernel_rfl) (by kernel_rfl) (fun _ _ _ h => h) (Or.inl ⟨by kernel_rfl, ?_⟩) HSW.out ?_
    rotate_left
    · intro w hS
      obtain ⟨e0, e1, e2, e3, e4, e5, e6, e7⟩ := hS
      go_simp
      try with_reducible rfl
    conv in (Act.put _ _ _) => simp only [List.getElem_toArray, List.getElem_cons_succ, List.getElem_cons_zero, Act.put, List.setIfInBounds_toArray, List.set_cons_succ, List.set_cons_zero]
    refine wpAnyH_take (i := 3) (v := ?_) rfl (by kernel_rfl) (by kernel_rfl) (by kernel_rfl) (fun _ _ _ h => h) (Or.inl ⟨by kernel_rfl, ?_⟩) HSW.out ?_
    rotate_left
    · intro w hS
      obtain ⟨e0, e1, e2, e3, e4, e5, e6, e7⟩ := hS
      go_simp
      try with_reducible rfl
    conv in (Act.put _ _ _) => simp only [List.getElem_toArray, List.getElem_cons_succ, List.getElem_cons_zero, Act.put, List.setIfInBounds_toArray, List.set_cons_succ, List.set_cons_zero]
    refine wpAnyH_take (i := 6) (v := ?_) rfl (by kernel_rfl) (by kernel_rfl) (by kernel_rfl) (fun _ _ _ h => h) (Or.inl ⟨by kernel_rfl, ?_⟩) HSW.out ?_
    rotate_left
    · intro w hS
      obtain ⟨e0, e1, e2, e3, e4, e5, e6, e7⟩ := hS
      go_simp
      try with_reducible rfl
    conv in (Act.put _ _ _) => simp only [List.getElem_toArray, List.getElem_cons_succ, List.getElem_cons_zero, Act.put, List.setIfInBounds_toArray, List.set_cons_succ, List.set_cons_zero]
    refine wpAnyH_take (i := 7) (v := ?_) rfl (by kernel_rfl) (by kernel_rfl) (by kernel_rfl) (fun _ _ _ h => h) (Or.inl ⟨by kernel_rfl, ?_⟩) HSW.out ?_
    rotate_left
    · intro w hS
      obtain ⟨e0, e1, e2, e3, e4, e5, e6, e7⟩ := hS
      go_simp
      try with_reducible rfl
    conv in (Act.put _ _ _) => simp only [List.getElem_toArray, List.getElem_cons_succ, List.getElem_cons_zero, Act.put, List.setIfInBounds_toArray, List.set_cons_succ, List.set_cons_zero]
    refine wpAnyH_take (i := 8) (v := ?_) rfl (by kernel_rfl) (by kernel_rfl) (by kernel_rfl) (fun _ _ _ h => h) (Or.inl ⟨by kernel_rfl, ?_⟩) HSW.out ?_
    rotate_left
    · intro w hS
      obtain ⟨e0, e1, e2, e3, e4, e5, e6, e7⟩ := hS
      go_simp
      try with_reducible rfl
    conv in (Act.put _ _ _) => simp only [List.getElem_toArray, List.getElem_cons_succ, List.getElem_cons_zero, Act.put, List.setIfInBounds_toArray, List.set_cons_succ, List.set_cons_zero]
    refine wpAnyH_take (i := 9) (v := ?_) rfl (by kernel_rfl) (by kernel_rfl) (by kernel_rfl) (fun _ _ _ h => h) (Or.inl ⟨by kernel_rfl, ?_⟩) HSW.out ?_
    rotate_left
    · intro w hS
      obtain ⟨e0, e1, e2, e3, e4, e5, e6, e7⟩ := hS
      go_simp
      try with_reducible rfl
    conv in (Act.put _ _ _) => simp only [List.getElem_toArray, List.getElem_cons_succ, List.getElem_cons_zero, Act.put, List.setIfInBounds_toArray, List.set_cons_succ, List.set_cons_zero]
    refine wpAnyH_take (i := 12) (v := ?_) rfl (by kernel_rfl) (by kernel_rfl) (by kernel_rfl) (fun _ _ _ h => h) (Or.inl ⟨by kernel_rfl, ?_⟩) HSW.out ?_
    rotate_left
    · intro w hS
      obtain ⟨e0, e1, e2, e3, e4, e5, e6, e7⟩ := hS
      go_simp
      try with_reducible rfl
    conv in (Act.put _ _ _) => simp only [List.getElem_toArray, List.getElem_cons_succ, List.getElem_cons_zero, Act.put, List.setIfInBounds_toArray, List.set_cons_succ, List.set_cons_zero]
    refine readyH 4 _ (by kernel_rfl) rfl (by kernel_rfl) (fun K hK => ?_)
    go_simp
    refine (P1.out W3.drew).mono ?_
    rintro e w4 ⟨rfl, bb⟩
    have HB4 : Hid (Below w.heap.size w w4) := HBd.out.trans (bb.mono HBd.out.size)
    replace HSW : Hid (PC w.heap.size ⟨1, qX, qY, qL, qro, l.length, qrc, qko, qkn, qkc, qnp, ⟨#[]⟩⟩ w4) := pc_of ((bb.block _ (Array.getElem?_eq_some_iff.1 HGd.out).1).trans HGd.out)
    have HG4 : Hid (w4.heap[w.heap.size]? = some (gcs ⟨1, qX, qY, qL, qro, l.length, qrc, qko, qkn, qkc, qnp, ⟨#[]⟩⟩)) := (bb.block _ (Array.getElem?_eq_some_iff.1 HGd.out).1).trans HGd.out
    clear bb
    refine hK _ _ HSW.out ?_
    clear hK K
    refine wpAnyH_take (i := 5) (v := ?_) rfl (by kernel_rfl) (by kernel_rfl) (by kernel_rfl) (fun _ _ _ h => h) (Or.inl ⟨by kernel_rfl, ?_⟩) HSW.out ?_
    rotate_left
    · intro w hS
      obtain ⟨e0, e1, e2, e3, e4, e5, e6, e7⟩ := hS
      go_simp
      try with_reducible rfl
    conv in (Act.put _ _ _) => simp only [List.getElem_toArray, List.getElem_cons_succ, List.getElem_cons_zero, Act.put, List.setIfInBounds_toArray, List.set_cons_succ, List.set_cons_zero]
    obtain ⟨x1, hx1⟩ : ∃ x, (⟨#[1]⟩ : ByteArray) ++ y1 = x := ⟨_, rfl⟩
    have u1 : x1.size = 2 := by rw [← hx1, ByteArray.size_append]; omega
    rw [hx1]
    have HX1 : Hid _ := hx1
    clear hx1
    refine readyH 10 _ (by kernel_rfl) rfl (by kernel_rfl) (fun K hK => ?_)
    go_simp
    refine (P2.out w4).mono ?_
    rintro e w5 ⟨rfl, bb⟩
    have HB5 : Hid (Below w.heap.size w w5) := HB4.out.trans (bb.mono HB4.out.size)
    replace HSW : Hid (PC w.heap.size ⟨1, qX, qY, qL, qro, l.length, qrc, qko, qkn, qkc, qnp, ⟨#[]⟩⟩ w5) := pc_of ((bb.block _ (Array.getElem?_eq_some_iff.1 HG4.out).1).trans HG4.out)
    have HG5 : Hid (w5.heap[w.heap.size]? = some (gcs ⟨1, qX, qY, qL, qro, l.length, qrc, qko, qkn, qkc, qnp, ⟨#[]⟩⟩)) := (bb.block _ (Array.getElem?_eq_some_iff.1 HG4.out).1).trans HG4.out
    clear bb
    refine hK _ _ HSW.out ?_
    clear hK K
    refine wpAnyH_take (i := 11) (v := ?_) rfl (by kernel_rfl) (by kernel_rfl) (by kernel_rfl) (fun _ _ _ h => h) (Or.inl ⟨by kernel_rfl, ?_⟩) HSW.out ?_
    rotate_left
    · intro w hS
      obtain ⟨e0, e1, e2, e3, e4, e5, e6, e7⟩ := hS
      go_simp
      try with_reducible rfl
    conv in (Act.put _ _ _) => simp only [List.getElem_toArray, List.getElem_cons_succ, List.getElem_cons_zero, Act.put, List.setIfInBounds_toArray, List.set_cons_succ, List.set_cons_zero]
    obtain ⟨x2, hx2⟩ : ∃ x, (x1 : ByteArray) ++ y2 = x := ⟨_, rfl⟩
    have u2 : x2.size = 6 := by rw [← hx2, ByteArray.size_append]; omega
    rw [hx2]
    have HX2 : Hid _ := hx2
    clear hx2
    have z3 : noTag.size = 32 := HTG.out.2
    refine wpAnyH_take (i := 13) (v := ?_) rfl (by kernel_rfl) (by kernel_rfl) (by kernel_rfl) (fun _ _ _ h => h) (Or.inl ⟨by kernel_rfl, ?_⟩) HSW.out ?_
    rotate_left
    · intro w hS
      obtain ⟨e0, e1, e2, e3, e4, e5, e6, e7⟩ := hS
      go_simp
      try with_reducible rfl
    conv in (Act.put _ _ _) => simp only [List.getElem_toArray, List.getElem_cons_succ, List.getElem_cons_zero, Act.put, List.setIfInBounds_toArray, List.set_cons_succ, List.set_cons_zero]
    obtain ⟨x3, hx3⟩ : ∃ x, (x2 : ByteArray) ++ noTag = x := ⟨_, rfl⟩
    have u3 : x3.size = 38 := by rw [← hx3, ByteArray.size_append]; omega
    rw [hx3]
    have HX3 : Hid _ := hx3
    clear hx3
    refine wpAnyH_take (i := 14) (v := ?_) rfl (by kernel_rfl) (by kernel_rfl) (by kernel_rfl) (fun _ _ _ h => h) (Or.inl ⟨by kernel_rfl, ?_⟩) HSW.out ?_
    rotate_left
    · intro w hS
      obtain ⟨e0, e1, e2, e3, e4, e5, e6, e7⟩ := hS
      go_simp
      try with_reducible rfl
    conv in (Act.put _ _ _) => simp only [List.getElem_toArray, List.getElem_cons_succ, List.getElem_cons_zero, Act.put, List.setIfInBounds_toArray, List.set_cons_succ, List.set_cons_zero]
    refine wpAnyH_done (by kernel_rfl) ?_ _
    have HX : Hid (x3 = ⟨(lef 1 1 ++ (lef l.length 1 ++ refB qnp ⟨#[]⟩)).toArray⟩) := by
      refine (?_ : x3 = ⟨(lef 1 1 ++ (lef l.length 1 ++ refB qnp ⟨#[]⟩)).toArray⟩)
      rw [← HX3.out, ← HX2.out, ← HX1.out, ← HY1.out, ← HY2.out, HTG.out.1]
      have : (⟨#[1]⟩ : ByteArray) = ⟨(lef 1 1).toArray⟩ := by decide
      rw [this]
      conv => lhs; rw [← ba_data noTag]
      simp only [ba_app, List.append_assoc]
    clear HX1 HX2 HX3 HY1 HY2 P1 P2 HSW HG3 HG4 HB3 HB4 HGd HBd u1 u2 z0 z1 z2 z3
    go_wp2_with fail
    have hb5 := HB5.out.size
    go_loopw [8, 9] (fun sv iv wr => ∃ (i : Nat) (x : ByteArray), i ≤ l.length ∧ sv = .string x ∧ iv = .int .i64 (i : Int) ∧ x = ⟨(lef 1 1 ++ (lef l.length 1 ++ (refB qnp ⟨#[]⟩ ++ (l.take i).flatMap rowB))).toArray⟩ ∧ x.size ≤ 38 + i * 33 ∧ Below w5.heap.size w5 wr) (fun _ iv _ => l.length - natOf iv)
    case atStart => exact ⟨0, x3, Nat.zero_le _, rfl, rfl, by rw [HX.out]; simp, by omega, Below.refl _ _⟩
    case round =>
      obtain ⟨i, x, hi, rfl, rfl, hx, hsz, hb⟩ := hrel
      have HX' : Hid _ := hx
      have HBx : Hid (Below w5.heap.size w5 wr) := hb
      have HBw : Hid (Below w.heap.size w wr) := HB5.out.trans (hb.mono HB5.out.size)
      have HGw : Hid (wr.heap[w.heap.size]? = some (gcs ⟨1, qX, qY, qL, qro, l.length, qrc, qko, qkn, qkc, qnp, ⟨#[]⟩⟩)) := (hb.block _ (Array.getElem?_eq_some_iff.1 HG5.out).1).trans HG5.out
      clear hb hx
      obtain ⟨⟨c0, c1, c2, c3, c4, c5, c6, c7⟩, lB⟩ := pg_cells HGw.out
      simp only at c0 c1 c2 c3 c4 c5 c6 c7
      by_cases hlt : i < l.length
      · have hrd := (HRW.out wr HBw.out).row hlt
        obtain ⟨pb, off, rfl, hbl, hc⟩ := hrd
        have hci := hc i hlt
        have hT := HT.out _ (rat_mem hlt)
        have HTK : Hid ((l.take (i + 1)).flatMap rowB = (l.take i).flatMap rowB ++ rowB (rat l i)) := by
          refine (?_ : (l.take (i + 1)).flatMap rowB = (l.take i).flatMap rowB ++ rowB (rat l i))
          rw [List.take_add_one, rat_some hlt, List.flatMap_append]
          simp
        generalize rat l i = rr at *
        obtain ⟨id, a, b, v⟩ := rr
        simp only at hT HTK
        obtain ⟨d0, d1, d2, d3⟩ := hci
        simp only at d0 d1 d2 d3
        obtain ⟨hT1, hT2, hT3, hT4⟩ := hT
        simp only at hT2 hT3 hT4
        have q5 : (i : Int) < (l.length : Int) := by omega
        have i0 : (0 : Int) ≤ (i : Int) := by omega
        have qa : IntKind.u64.wrap (a : Int) = (a : Int) := IntWalk.u64_in _ ⟨by omega, by omega⟩
        have qb : IntKind.u64.wrap (b : Int) = (b : Int) := IntWalk.u64_in _ ⟨by omega, by omega⟩
        have qv : IntKind.u64.wrap (v.size : Int) = (v.size : Int) := IntWalk.u64_in _ ⟨by omega, by omega⟩
        clear hc
        have hnw := heap_alloc_new wr (.cells #[.int .u64 (id : Int), .int .u32 (a : Int), .int .u32 (b : Int), .string v] 47)
        have HN : Hid _ := hnw
        have HBn : Hid (Below wr.heap.size wr (wr.alloc (.cells #[.int .u64 (id : Int), .int .u32 (a : Int), .int .u32 (b : Int), .string v] 47))) := below_new wr _
        clear hnw
        have A1 : Hid _ := HP.out id hT2 8 (by decide)
        have A2 : Hid _ := HP.out a (by omega) 4 (by decide)
        have A3 : Hid _ := HP.out b (by omega) 4 (by decide)
        have A4 : Hid _ := HP.out v.size (by omega) 1 (by decide)
        obtain ⟨g1, hg1⟩ : ∃ y, (⟨(lef id 8).toArray⟩ : ByteArray) = y := ⟨_, rfl⟩
        have hz1 : g1.size = 8 := by rw [← hg1, ba_size, lef_len]
        rw [hg1] at A1
        have HZ1 : Hid (g1.size = 8 ∧ (⟨(lef id 8).toArray⟩ : ByteArray) = g1) := ⟨hz1, hg1⟩
        clear hg1 hz1
        obtain ⟨g2, hg2⟩ : ∃ y, (⟨(lef a 4).toArray⟩ : ByteArray) = y := ⟨_, rfl⟩
        have hz2 : g2.size = 4 := by rw [← hg2, ba_size, lef_len]
        rw [hg2] at A2
        have HZ2 : Hid (g2.size = 4 ∧ (⟨(lef a 4).toArray⟩ : ByteArray) = g2) := ⟨hz2, hg2⟩
        clear hg2 hz2
        obtain ⟨g3, hg3⟩ : ∃ y, (⟨(lef b 4).toArray⟩ : ByteArray) = y := ⟨_, rfl⟩
        have hz3 : g3.size = 4 := by rw [← hg3, ba_size, lef_len]
        rw [hg3] at A3
        have HZ3 : Hid (g3.size = 4 ∧ (⟨(lef b 4).toArray⟩ : ByteArray) = g3) := ⟨hz3, hg3⟩
        clear hg3 hz3
        obtain ⟨g4, hg4⟩ : ∃ y, (⟨(lef v.size 1).toArray⟩ : ByteArray) = y := ⟨_, rfl⟩
        have hz4 : g4.size = 1 := by rw [← hg4, ba_size, lef_len]
        rw [hg4] at A4
        have HZ4 : Hid (g4.size = 1 ∧ (⟨(lef v.size 1).toArray⟩ : ByteArray) = g4) := ⟨hz4, hg4⟩
        clear hg4 hz4
        go_wp2_with fail
        obtain ⟨Wn, hWn⟩ : ∃ W, wr.alloc (.cells #[.int .u64 (id : Int), .int .u32 (a : Int), .int .u32 (b : Int), .string v] 47) = W := ⟨_, rfl⟩
        rw [hWn] at HN HBn ⊢
        clear hWn c0 c1 c2 c3 c4 c5 c6 c7 d0 d1 d2 d3
        refine wp_region_held (S := PR wr.heap.size id a b v) (by kernel_rfl) ?_
        change wpAnyH _ _ _ _ _ _ _ _ (World.drew _)
        have HSK : Hid (∀ W, Below Wn.heap.size Wn W → PR wr.heap.size id a b v W) := fun W hW => (row_cells ((hW.block _ (Array.getElem?_eq_some_iff.1 HN.out).1).trans HN.out)).1
        have HSW : Hid (PR wr.heap.size id a b v Wn.drew) := HSK.out _ (Below.refl _ _).drew
        have HC0 : Hid (Below Wn.heap.size Wn Wn.drew) := (Below.refl _ _).drew
        refine wpAnyH_take (i := 0) (v := ?_) rfl (by kernel_rfl) (by kernel_rfl) (by kernel_rfl) (fun _ _ _ h => h) (Or.inl ⟨by kernel_rfl, ?_⟩) HSW.out ?_
        rotate_left
        · intro w hS
          obtain ⟨e0, e1, e2, e3⟩ := hS
          go_simp
          try with_reducible rfl
        conv in (Act.put _ _ _) => simp only [List.getElem_toArray, List.getElem_cons_succ, List.getElem_cons_zero, Act.put, List.setIfInBounds_toArray, List.set_cons_succ, List.set_cons_zero]
        refine wpAnyH_take (i := 1) (v := ?_) rfl (by kernel_rfl) (by kernel_rfl) (by kernel_rfl) (fun _ _ _ h => h) (Or.inl ⟨by kernel_rfl, ?_⟩) HSW.out ?_
        rotate_left
        · intro w hS
          obtain ⟨e0, e1, e2, e3⟩ := hS
          go_simp
          try with_reducible rfl
        conv in (Act.put _ _ _) => simp only [List.getElem_toArray, List.getElem_cons_succ, List.getElem_cons_zero, Act.put, List.setIfInBounds_toArray, List.set_cons_succ, List.set_cons_zero]
        refine wpAnyH_take (i := 2) (v := ?_) rfl (by kernel_rfl) (by kernel_rfl) (by kernel_rfl) (fun _ _ _ h => h) (Or.inl ⟨by kernel_rfl, ?_⟩) HSW.out ?_
        rotate_left
        · intro w hS
          obtain ⟨e0, e1, e2, e3⟩ := hS
          go_simp
          try with_reducible rfl
        conv in (Act.put _ _ _) => simp only [List.getElem_toArray, List.getElem_cons_succ, List.getElem_cons_zero, Act.put, List.setIfInBounds_toArray, List.set_cons_succ, List.set_cons_zero]
        refine wpAnyH_take (i := 5) (v := ?_) rfl (by kernel_rfl) (by kernel_rfl) (by kernel_rfl) (fun _ _ _ h => h) (Or.inl ⟨by kernel_rfl, ?_⟩) HSW.out ?_
        rotate_left
        · intro w hS
          obtain ⟨e0, e1, e2, e3⟩ := hS
          go_simp
          try with_reducible rfl
        conv in (Act.put _ _ _) => simp only [List.getElem_toArray, List.getElem_cons_succ, List.getElem_cons_zero, Act.put, List.setIfInBounds_toArray, List.set_cons_succ, List.set_cons_zero]
        refine wpAnyH_take (i := 6) (v := ?_) rfl (by kernel_rfl) (by kernel_rfl) (by kernel_rfl) (fun _ _ _ h => h) (Or.inl ⟨by kernel_rfl, ?_⟩) HSW.out ?_
        rotate_left
        · intro w hS
          obtain ⟨e0, e1, e2, e3⟩ := hS
          go_simp
          try with_reducible rfl
        conv in (Act.put _ _ _) => simp only [List.getElem_toArray, List.getElem_cons_succ, List.getElem_cons_zero, Act.put, List.setIfInBounds_toArray, List.set_cons_succ, List.set_cons_zero]
        refine wpAnyH_take (i := 7) (v := ?_) rfl (by kernel_rfl) (by kernel_rfl) (by kernel_rfl) (fun _ _ _ h => h) (Or.inl ⟨by kernel_rfl, ?_⟩) HSW.out ?_
        rotate_left
        · intro w hS
          obtain ⟨e0, e1, e2, e3⟩ := hS
          go_simp
          try with_reducible rfl
        conv in (Act.put _ _ _) => simp only [List.getElem_toArray, List.getElem_cons_succ, List.getElem_cons_zero, Act.put, List.setIfInBounds_toArray, List.set_cons_succ, List.set_cons_zero]
        refine wpAnyH_take (i := 10) (v := ?_) rfl (by kernel_rfl) (by kernel_rfl) (by kernel_rfl) (fun _ _ _ h => h) (Or.inl ⟨by kernel_rfl, ?_⟩) HSW.out ?_
        rotate_left
        · intro w hS
          obtain ⟨e0, e1, e2, e3⟩ := hS
          go_simp
          try with_reducible rfl
        conv in (Act.put _ _ _) => simp only [List.getElem_toArray, List.getElem_cons_succ, List.getElem_cons_zero, Act.put, List.setIfInBounds_toArray, List.set_cons_succ, List.set_cons_zero]
        refine wpAnyH_take (i := 11) (v := ?_) rfl (by kernel_rfl) (by kernel_rfl) (by kernel_rfl) (fun _ _ _ h => h) (Or.inl ⟨by kernel_rfl, ?_⟩) HSW.out ?_
        rotate_left
        · intro w hS
          obtain ⟨e0, e1, e2, e3⟩ := hS
          go_simp
          try with_reducible rfl
        conv in (Act.put _ _ _) => simp only [List.getElem_toArray, List.getElem_cons_succ, List.getElem_cons_zero, Act.put, List.setIfInBounds_toArray, List.set_cons_succ, List.set_cons_zero]
        refine wpAnyH_take (i := 12) (v := ?_) rfl (by kernel_rfl) (by kernel_rfl) (by kernel_rfl) (fun _ _ _ h => h) (Or.inl ⟨by kernel_rfl, ?_⟩) HSW.out ?_
        rotate_left
        · intro w hS
          obtain ⟨e0, e1, e2, e3⟩ := hS
          go_simp
          try with_reducible rfl
        conv in (Act.put _ _ _) => simp only [List.getElem_toArray, List.getElem_cons_succ, List.getElem_cons_zero, Act.put, List.setIfInBounds_toArray, List.set_cons_succ, List.set_cons_zero]
        refine wpAnyH_take (i := 15) (v := ?_) rfl (by kernel_rfl) (by kernel_rfl) (by kernel_rfl) (fun _ _ _ h => h) (Or.inl ⟨by kernel_rfl, ?_⟩) HSW.out ?_
        rotate_left
        · intro w hS
          obtain ⟨e0, e1, e2, e3⟩ := hS
          go_simp
          try with_reducible rfl
        conv in (Act.put _ _ _) => simp only [List.getElem_toArray, List.getElem_cons_succ, List.getElem_cons_zero, Act.put, List.setIfInBounds_toArray, List.set_cons_succ, List.set_cons_zero]
        refine wpAnyH_take (i := 16) (v := ?_) rfl (by kernel_rfl) (by kernel_rfl) (by kernel_rfl) (fun _ _ _ h => h) (Or.inl ⟨by kernel_rfl, ?_⟩) HSW.out ?_
        rotate_left
        · intro w hS
          obtain ⟨e0, e1, e2, e3⟩ := hS
          go_simp
          try with_reducible rfl
        conv in (Act.put _ _ _) => simp only [List.getElem_toArray, List.getElem_cons_succ, List.getElem_cons_zero, Act.put, List.setIfInBounds_toArray, List.set_cons_succ, List.set_cons_zero]
        refine wpAnyH_take (i := 17) (v := ?_) rfl (by kernel_rfl) (by kernel_rfl) (by kernel_rfl) (fun _ _ _ h => h) (Or.inl ⟨by kernel_rfl, ?_⟩) HSW.out ?_
        rotate_left
        · intro w hS
          obtain ⟨e0, e1, e2, e3⟩ := hS
          go_simp
          try with_reducible rfl
        conv in (Act.put _ _ _) => simp only [List.getElem_toArray, List.getElem_cons_succ, List.getElem_cons_zero, Act.put, List.setIfInBounds_toArray, List.set_cons_succ, List.set_cons_zero]
        refine wpAnyH_take (i := 18) (v := ?_) rfl (by kernel_rfl) (by kernel_rfl) (by kernel_rfl) (fun _ _ _ h => h) (Or.inl ⟨by kernel_rfl, ?_⟩) HSW.out ?_
        rotate_left
        · intro w hS
          obtain ⟨e0, e1, e2, e3⟩ := hS
          go_simp
          try with_reducible rfl
        conv in (Act.put _ _ _) => simp only [List.getElem_toArray, List.getElem_cons_succ, List.getElem_cons_zero, Act.put, List.setIfInBounds_toArray, List.set_cons_succ, List.set_cons_zero]
        refine wpAnyH_take (i := 21) (v := ?_) rfl (by kernel_rfl) (by kernel_rfl) (by kernel_rfl) (fun _ _ _ h => h) (Or.inl ⟨by kernel_rfl, ?_⟩) HSW.out ?_
        rotate_left
        · intro w hS
          obtain ⟨e0, e1, e2, e3⟩ := hS
          go_simp
          try with_reducible rfl
        conv in (Act.put _ _ _) => simp only [List.getElem_toArray, List.getElem_cons_succ, List.getElem_cons_zero, Act.put, List.setIfInBounds_toArray, List.set_cons_succ, List.set_cons_zero]
        refine wpAnyH_take (i := 22) (v := ?_) rfl (by kernel_rfl) (by kernel_rfl) (by kernel_rfl) (fun _ _ _ h => h) (Or.inl ⟨by kernel_rfl, ?_⟩) HSW.out ?_
        rotate_left
        · intro w hS
          obtain ⟨e0, e1, e2, e3⟩ := hS
          go_simp
          try with_reducible rfl
        conv in (Act.put _ _ _) => simp only [List.getElem_toArray, List.getElem_cons_succ, List.getElem_cons_zero, Act.put, List.setIfInBounds_toArray, List.set_cons_succ, List.set_cons_zero]
        refine readyH 3 _ (by kernel_rfl) rfl (by kernel_rfl) (fun K hK => ?_)
        go_simp
        refine (A1.out Wn.drew).mono ?_
        rintro e v1 ⟨rfl, bb⟩
        have HC1 : Hid (Below Wn.heap.size Wn v1) := HC0.out.trans (bb.mono HC0.out.size)
        replace HSW : Hid (PR wr.heap.size id a b v v1) := HSK.out _ HC1.out
        clear bb
        refine hK _ _ HSW.out ?_
        clear hK K
        have hq1 : ¬ 9223372036854775807 < x.size + g1.size := by rw [HZ1.out.1]; omega
        refine wpAnyH_take (i := 4) (v := ?_) rfl (by kernel_rfl) (by kernel_rfl) (by kernel_rfl) (fun _ _ _ h => h) (Or.inl ⟨by kernel_rfl, ?_⟩) HSW.out ?_
        rotate_left
        · intro w hS
          obtain ⟨e0, e1, e2, e3⟩ := hS
          go_simp
          try with_reducible rfl
        conv in (Act.put _ _ _) => simp only [List.getElem_toArray, List.getElem_cons_succ, List.getElem_cons_zero, Act.put, List.setIfInBounds_toArray, List.set_cons_succ, List.set_cons_zero]
        obtain ⟨s1, hs1⟩ : ∃ s, x ++ g1 = s := ⟨_, rfl⟩
        have zs1 : s1.size ≤ 38 + i * 33 + 8 := by rw [← hs1, ByteArray.size_append, HZ1.out.1]; omega
        rw [hs1]
        have HS1 : Hid _ := hs1
        clear hs1 hq1
        refine readyH 8 _ (by kernel_rfl) rfl (by kernel_rfl) (fun K hK => ?_)
        go_simp
        refine (A2.out v1).mono ?_
        rintro e v2 ⟨rfl, bb⟩
        have HC2 : Hid (Below Wn.heap.size Wn v2) := HC1.out.trans (bb.mono HC1.out.size)
        replace HSW : Hid (PR wr.heap.size id a b v v2) := HSK.out _ HC2.out
        clear bb
        refine hK _ _ HSW.out ?_
        clear hK K
        have hq2 : ¬ 9223372036854775807 < s1.size + g2.size := by rw [HZ2.out.1]; omega
        refine wpAnyH_take (i := 9) (v := ?_) rfl (by kernel_rfl) (by kernel_rfl) (by kernel_rfl) (fun _ _ _ h => h) (Or.inl ⟨by kernel_rfl, ?_⟩) HSW.out ?_
        rotate_left
        · intro w hS
          obtain ⟨e0, e1, e2, e3⟩ := hS
          go_simp
          try with_reducible rfl
        conv in (Act.put _ _ _) => simp only [List.getElem_toArray, List.getElem_cons_succ, List.getElem_cons_zero, Act.put, List.setIfInBounds_toArray, List.set_cons_succ, List.set_cons_zero]
        obtain ⟨s2, hs2⟩ : ∃ s, s1 ++ g2 = s := ⟨_, rfl⟩
        have zs2 : s2.size ≤ 38 + i * 33 + 8 + 4 := by rw [← hs2, ByteArray.size_append, HZ2.out.1]; omega
        rw [hs2]
        have HS2 : Hid _ := hs2
        clear hs2 hq2
        refine readyH 13 _ (by kernel_rfl) rfl (by kernel_rfl) (fun K hK => ?_)
        go_simp
        refine (A3.out v2).mono ?_
        rintro e v3 ⟨rfl, bb⟩
        have HC3 : Hid (Below Wn.heap.size Wn v3) := HC2.out.trans (bb.mono HC2.out.size)
        replace HSW : Hid (PR wr.heap.size id a b v v3) := HSK.out _ HC3.out
        clear bb
        refine hK _ _ HSW.out ?_
        clear hK K
        have hq3 : ¬ 9223372036854775807 < s2.size + g3.size := by rw [HZ3.out.1]; omega
        refine wpAnyH_take (i := 14) (v := ?_) rfl (by kernel_rfl) (by kernel_rfl) (by kernel_rfl) (fun _ _ _ h => h) (Or.inl ⟨by kernel_rfl, ?_⟩) HSW.out ?_
        rotate_left
        · intro w hS
          obtain ⟨e0, e1, e2, e3⟩ := hS
          go_simp
          try with_reducible rfl
        conv in (Act.put _ _ _) => simp only [List.getElem_toArray, List.getElem_cons_succ, List.getElem_cons_zero, Act.put, List.setIfInBounds_toArray, List.set_cons_succ, List.set_cons_zero]
        obtain ⟨s3, hs3⟩ : ∃ s, s2 ++ g3 = s := ⟨_, rfl⟩
        have zs3 : s3.size ≤ 38 + i * 33 + 8 + 4 + 4 := by rw [← hs3, ByteArray.size_append, HZ3.out.1]; omega
        rw [hs3]
        have HS3 : Hid _ := hs3
        clear hs3 hq3
        refine readyH 19 _ (by kernel_rfl) rfl (by kernel_rfl) (fun K hK => ?_)
        go_simp
        refine (A4.out v3).mono ?_
        rintro e v4 ⟨rfl, bb⟩
        have HC4 : Hid (Below Wn.heap.size Wn v4) := HC3.out.trans (bb.mono HC3.out.size)
        replace HSW : Hid (PR wr.heap.size id a b v v4) := HSK.out _ HC4.out
        clear bb
        refine hK _ _ HSW.out ?_
        clear hK K
        have hq4 : ¬ 9223372036854775807 < s3.size + g4.size := by rw [HZ4.out.1]; omega
        refine wpAnyH_take (i := 20) (v := ?_) rfl (by kernel_rfl) (by kernel_rfl) (by kernel_rfl) (fun _ _ _ h => h) (Or.inl ⟨by kernel_rfl, ?_⟩) HSW.out ?_
        rotate_left
        · intro w hS
          obtain ⟨e0, e1, e2, e3⟩ := hS
          go_simp
          try with_reducible rfl
        conv in (Act.put _ _ _) => simp only [List.getElem_toArray, List.getElem_cons_succ, List.getElem_cons_zero, Act.put, List.setIfInBounds_toArray, List.set_cons_succ, List.set_cons_zero]
        obtain ⟨s4, hs4⟩ : ∃ s, s3 ++ g4 = s := ⟨_, rfl⟩
        have zs4 : s4.size ≤ 38 + i * 33 + 8 + 4 + 4 + 1 := by rw [← hs4, ByteArray.size_append, HZ4.out.1]; omega
        rw [hs4]
        have HS4 : Hid _ := hs4
        clear hs4 hq4
        have hq5 : ¬ 9223372036854775807 < s4.size + v.size := by omega
        refine wpAnyH_take (i := 23) (v := ?_) rfl (by kernel_rfl) (by kernel_rfl) (by kernel_rfl) (fun _ _ _ h => h) (Or.inl ⟨by kernel_rfl, ?_⟩) HSW.out ?_
        rotate_left
        · intro w hS
          obtain ⟨e0, e1, e2, e3⟩ := hS
          go_simp
          try with_reducible rfl
        conv in (Act.put _ _ _) => simp only [List.getElem_toArray, List.getElem_cons_succ, List.getElem_cons_zero, Act.put, List.setIfInBounds_toArray, List.set_cons_succ, List.set_cons_zero]
        obtain ⟨s5, hs5⟩ : ∃ s, s4 ++ v = s := ⟨_, rfl⟩
        have zs5 : s5.size ≤ 38 + (i + 1) * 33 := by rw [← hs5, ByteArray.size_append]; omega
        rw [hs5]
        have HS5 : Hid _ := hs5
        clear hs5 hq5
        refine wpAnyH_take (i := 24) (v := ?_) rfl (by kernel_rfl) (by kernel_rfl) (by kernel_rfl) (fun _ _ _ h => h) (Or.inl ⟨by kernel_rfl, ?_⟩) HSW.out ?_
        rotate_left
        · intro w hS
          obtain ⟨e0, e1, e2, e3⟩ := hS
          go_simp
          try with_reducible rfl
        conv in (Act.put _ _ _) => simp only [List.getElem_toArray, List.getElem_cons_succ, List.getElem_cons_zero, Act.put, List.setIfInBounds_toArray, List.set_cons_succ, List.set_cons_zero]
        refine wpAnyH_done (by kernel_rfl) ?_ _
        have HBz : Hid (Below w5.heap.size w5 v4) := HBx.out.trans ((HBn.out.trans (HC4.out.mono HBn.out.size)).mono HBx.out.size)
        go_wp2_with fail
        go_roundw
        case rel =>
          refine ⟨i + 1, s5, by omega, rfl, by go_num, ?_, zs5, HBz.out⟩
          rw [HTK.out, ← HS5.out, ← HS4.out, ← HS3.out, ← HS2.out, ← HS1.out, HX'.out, ← HZ1.out.2, ← HZ2.out.2, ← HZ3.out.2, ← HZ4.out.2]
          conv => lhs; rw [← ba_data v]
          unfold rowB
          simp only [ba_app, List.append_assoc]
        case measure => simp [natOf]; omega
      · obtain rfl : i = l.length := by omega
        have q5 : ¬ (l.length : Int) < (l.length : Int) := by omega
        go_wp2_with fail
        go_ret2
        refine ⟨?_, HBw.out⟩
        rw [HX'.out, List.take_length]
        rfl
  · have hne' := empty_not hne
    go_wp2_with fail
    have HB3 : Hid _ := HB2.out
    have HG3 : Hid _ := HG2.out
    obtain ⟨W3, rfl⟩ : ∃ W3, W3 = w2 := ⟨_, rfl⟩
    clear HB2 HG2 lB
    clear c0 c1 c2 c3 c4 c5 c6 c7
    refine wp_region_held (S := PC w.heap.size ⟨1, qX, qY, qL, qro, l.length, qrc, qko, qkn, qkc, qnp, tg⟩) (by kernel_rfl) ?_
    change wpAnyH _ _ _ _ _ _ _ _ (World.drew _)
    have HSW : Hid (PC w.heap.size ⟨1, qX, qY, qL, qro, l.length, qrc, qko, qkn, qkc, qnp, tg⟩ W3.drew) := pc_of HG3.out
    have HGd : Hid (W3.drew.heap[w.heap.size]? = some (gcs ⟨1, qX, qY, qL, qro, l.length, qrc, qko, qkn, qkc, qnp, tg⟩)) := HG3.out
    have HBd : Hid (Below w.heap.size w W3.drew) := HB3.out.drew
    have P1 : Hid _ := HP.out l.length (by omega) 1 (by decide)
    have P2 : Hid _ := HP.out qnp (by omega) 4 (by decide)
    obtain ⟨y1, hy1⟩ : ∃ y, (⟨(lef l.length 1).toArray⟩ : ByteArray) = y := ⟨_, rfl⟩
    have z1 : y1.size = 1 := by rw [← hy1, ba_size, lef_len]
    rw [hy1] at P1
    have HY1 : Hid _ := hy1
    obtain ⟨y2, hy2⟩ : ∃ y, (⟨(lef qnp 4).toArray⟩ : ByteArray) = y := ⟨_, rfl⟩
    have z2 : y2.size = 4 := by rw [← hy2, ba_size, lef_len]
    rw [hy2] at P2
    have HY2 : Hid _ := hy2
    clear hy1 hy2
    have z0 : (⟨#[1]⟩ : ByteArray).size = 1 := rfl
    refine wpAnyH_take (i := 0) (v := ?_) rfl (by kernel_rfl) (by kernel_rfl) (by kernel_rfl) (fun _ _ _ h => h) (Or.inl ⟨by kernel_rfl, ?_⟩) HSW.out ?_
    rotate_left
    · intro w hS
      obtain ⟨e0, e1, e2, e3, e4, e5, e6, e7⟩ := hS
      go_simp
      try with_reducible rfl
    conv in (Act.put _ _ _) => simp only [List.getElem_toArray, List.getElem_cons_succ, List.getElem_cons_zero, Act.put, List.setIfInBounds_toArray, List.set_cons_succ, List.set_cons_zero]
    refine wpAnyH_take (i := 1) (v := ?_) rfl (by kernel_rfl) (by kernel_rfl) (by kernel_rfl) (fun _ _ _ h => h) (Or.inl ⟨by kernel_rfl, ?_⟩) HSW.out ?_
    rotate_left
    · intro w hS
      obtain ⟨e0, e1, e2, e3, e4, e5, e6, e7⟩ := hS
      go_simp
      try with_reducible rfl
    conv in (Act.put _ _ _) => simp only [List.getElem_toArray, List.getElem_cons_succ, List.getElem_cons_zero, Act.put, List.setIfInBounds_toArray, List.set_cons_succ, List.set_cons_zero]
    refine wpAnyH_take (i := 2) (v := ?_) rfl (by kernel_rfl) (by kernel_rfl) (by kernel_rfl) (fun _ _ _ h => h) (Or.inl ⟨by kernel_rfl, ?_⟩) HSW.out ?_
    rotate_left
    · intro w hS
      obtain ⟨e0, e1, e2, e3, e4, e5, e6, e7⟩ := hS
      go_simp
      try with_reducible rfl
    conv in (Act.put _ _ _) => simp only [List.getElem_toArray, List.getElem_cons_succ, List.getElem_cons_zero, Act.put, List.setIfInBounds_toArray, List.set_cons_succ, List.set_cons_zero]
    refine wpAnyH_take (i := 3) (v := ?_) rfl (by kernel_rfl) (by kernel_rfl) (by kernel_rfl) (fun _ _ _ h => h) (Or.inl ⟨by kernel_rfl, ?_⟩) HSW.out ?_
    rotate_left
    · intro w hS
      obtain ⟨e0, e1, e2, e3, e4, e5, e6, e7⟩ := hS
      go_simp
      try with_reducible rfl
    conv in (Act.put _ _ _) => simp only [List.getElem_toArray, List.getElem_cons_succ, List.getElem_cons_zero, Act.put, List.setIfInBounds_toArray, List.set_cons_succ, List.set_cons_zero]
    refine wpAnyH_take (i := 6) (v := ?_) rfl (by kernel_rfl) (by kernel_rfl) (by kernel_rfl) (fun _ _ _ h => h) (Or.inl ⟨by kernel_rfl, ?_⟩) HSW.out ?_
    rotate_left
    · intro w hS
      obtain ⟨e0, e1, e2, e3, e4, e5, e6, e7⟩ := hS
      go_simp
      try with_reducible rfl
    conv in (Act.put _ _ _) => simp only [List.getElem_toArray, List.getElem_cons_succ, List.getElem_cons_zero, Act.put, List.setIfInBounds_toArray, List.set_cons_succ, List.set_cons_zero]
    refine wpAnyH_take (i := 7) (v := ?_) rfl (by kernel_rfl) (by kernel_rfl) (by kernel_rfl) (fun _ _ _ h => h) (Or.inl ⟨by kernel_rfl, ?_⟩) HSW.out ?_
    rotate_left
    · intro w hS
      obtain ⟨e0, e1, e2, e3, e4, e5, e6, e7⟩ := hS
      go_simp
      try with_reducible rfl
    conv in (Act.put _ _ _) => simp only [List.getElem_toArray, List.getElem_cons_succ, List.getElem_cons_zero, Act.put, List.setIfInBounds_toArray, List.set_cons_succ, List.set_cons_zero]
    refine wpAnyH_take (i := 8) (v := ?_) rfl (by kernel_rfl) (by kernel_rfl) (by kernel_rfl) (fun _ _ _ h => h) (Or.inl ⟨by kernel_rfl, ?_⟩) HSW.out ?_
    rotate_left
    · intro w hS
      obtain ⟨e0, e1, e2, e3, e4, e5, e6, e7⟩ := hS
      go_simp
      try with_reducible rfl
    conv in (Act.put _ _ _) => simp only [List.getElem_toArray, List.getElem_cons_succ, List.getElem_cons_zero, Act.put, List.setIfInBounds_toArray, List.set_cons_succ, List.set_cons_zero]
    refine wpAnyH_take (i := 9) (v := ?_) rfl (by kernel_rfl) (by kernel_rfl) (by kernel_rfl) (fun _ _ _ h => h) (Or.inl ⟨by kernel_rfl, ?_⟩) HSW.out ?_
    rotate_left
    · intro w hS
      obtain ⟨e0, e1, e2, e3, e4, e5, e6, e7⟩ := hS
      go_simp
      try with_reducible rfl
    conv in (Act.put _ _ _) => simp only [List.getElem_toArray, List.getElem_cons_succ, List.getElem_cons_zero, Act.put, List.setIfInBounds_toArray, List.set_cons_succ, List.set_cons_zero]
    refine wpAnyH_take (i := 12) (v := ?_) rfl (by kernel_rfl) (by kernel_rfl) (by kernel_rfl) (fun _ _ _ h => h) (Or.inl ⟨by kernel_rfl, ?_⟩) HSW.out ?_
    rotate_left
    · intro w hS
      obtain ⟨e0, e1, e2, e3, e4, e5, e6, e7⟩ := hS
      go_simp
      try with_reducible rfl
    conv in (Act.put _ _ _) => simp only [List.getElem_toArray, List.getElem_cons_succ, List.getElem_cons_zero, Act.put, List.setIfInBounds_toArray, List.set_cons_succ, List.set_cons_zero]
    refine readyH 4 _ (by kernel_rfl) rfl (by kernel_rfl) (fun K hK => ?_)
    go_simp
    refine (P1.out W3.drew).mono ?_
    rintro e w4 ⟨rfl, bb⟩
    have HB4 : Hid (Below w.heap.size w w4) := HBd.out.trans (bb.mono HBd.out.size)
    replace HSW : Hid (PC w.heap.size ⟨1, qX, qY, qL, qro, l.length, qrc, qko, qkn, qkc, qnp, tg⟩ w4) := pc_of ((bb.block _ (Array.getElem?_eq_some_iff.1 HGd.out).1).trans HGd.out)
    have HG4 : Hid (w4.heap[w.heap.size]? = some (gcs ⟨1, qX, qY, qL, qro, l.length, qrc, qko, qkn, qkc, qnp, tg⟩)) := (bb.block _ (Array.getElem?_eq_some_iff.1 HGd.out).1).trans HGd.out
    clear bb
    refine hK _ _ HSW.out ?_
    clear hK K
    refine wpAnyH_take (i := 5) (v := ?_) rfl (by kernel_rfl) (by kernel_rfl) (by kernel_rfl) (fun _ _ _ h => h) (Or.inl ⟨by kernel_rfl, ?_⟩) HSW.out ?_
    rotate_left
    · intro w hS
      obtain ⟨e0, e1, e2, e3, e4, e5, e6, e7⟩ := hS
      go_simp
      try with_reducible rfl
    conv in (Act.put _ _ _) => simp only [List.getElem_toArray, List.getElem_cons_succ, List.getElem_cons_zero, Act.put, List.setIfInBounds_toArray, List.set_cons_succ, List.set_cons_zero]
    obtain ⟨x1, hx1⟩ : ∃ x, (⟨#[1]⟩ : ByteArray) ++ y1 = x := ⟨_, rfl⟩
    have u1 : x1.size = 2 := by rw [← hx1, ByteArray.size_append]; omega
    rw [hx1]
    have HX1 : Hid _ := hx1
    clear hx1
    refine readyH 10 _ (by kernel_rfl) rfl (by kernel_rfl) (fun K hK => ?_)
    go_simp
    refine (P2.out w4).mono ?_
    rintro e w5 ⟨rfl, bb⟩
    have HB5 : Hid (Below w.heap.size w w5) := HB4.out.trans (bb.mono HB4.out.size)
    replace HSW : Hid (PC w.heap.size ⟨1, qX, qY, qL, qro, l.length, qrc, qko, qkn, qkc, qnp, tg⟩ w5) := pc_of ((bb.block _ (Array.getElem?_eq_some_iff.1 HG4.out).1).trans HG4.out)
    have HG5 : Hid (w5.heap[w.heap.size]? = some (gcs ⟨1, qX, qY, qL, qro, l.length, qrc, qko, qkn, qkc, qnp, tg⟩)) := (bb.block _ (Array.getElem?_eq_some_iff.1 HG4.out).1).trans HG4.out
    clear bb
    refine hK _ _ HSW.out ?_
    clear hK K
    refine wpAnyH_take (i := 11) (v := ?_) rfl (by kernel_rfl) (by kernel_rfl) (by kernel_rfl) (fun _ _ _ h => h) (Or.inl ⟨by kernel_rfl, ?_⟩) HSW.out ?_
    rotate_left
    · intro w hS
      obtain ⟨e0, e1, e2, e3, e4, e5, e6, e7⟩ := hS
      go_simp
      try with_reducible rfl
    conv in (Act.put _ _ _) => simp only [List.getElem_toArray, List.getElem_cons_succ, List.getElem_cons_zero, Act.put, List.setIfInBounds_toArray, List.set_cons_succ, List.set_cons_zero]
    obtain ⟨x2, hx2⟩ : ∃ x, (x1 : ByteArray) ++ y2 = x := ⟨_, rfl⟩
    have u2 : x2.size = 6 := by rw [← hx2, ByteArray.size_append]; omega
    rw [hx2]
    have HX2 : Hid _ := hx2
    clear hx2
    have z3 : tg.size = 32 := HTG.out.2
    refine wpAnyH_take (i := 13) (v := ?_) rfl (by kernel_rfl) (by kernel_rfl) (by kernel_rfl) (fun _ _ _ h => h) (Or.inl ⟨by kernel_rfl, ?_⟩) HSW.out ?_
    rotate_left
    · intro w hS
      obtain ⟨e0, e1, e2, e3, e4, e5, e6, e7⟩ := hS
      go_simp
      try with_reducible rfl
    conv in (Act.put _ _ _) => simp only [List.getElem_toArray, List.getElem_cons_succ, List.getElem_cons_zero, Act.put, List.setIfInBounds_toArray, List.set_cons_succ, List.set_cons_zero]
    obtain ⟨x3, hx3⟩ : ∃ x, (x2 : ByteArray) ++ tg = x := ⟨_, rfl⟩
    have u3 : x3.size = 38 := by rw [← hx3, ByteArray.size_append]; omega
    rw [hx3]
    have HX3 : Hid _ := hx3
    clear hx3
    refine wpAnyH_take (i := 14) (v := ?_) rfl (by kernel_rfl) (by kernel_rfl) (by kernel_rfl) (fun _ _ _ h => h) (Or.inl ⟨by kernel_rfl, ?_⟩) HSW.out ?_
    rotate_left
    · intro w hS
      obtain ⟨e0, e1, e2, e3, e4, e5, e6, e7⟩ := hS
      go_simp
      try with_reducible rfl
    conv in (Act.put _ _ _) => simp only [List.getElem_toArray, List.getElem_cons_succ, List.getElem_cons_zero, Act.put, List.setIfInBounds_toArray, List.set_cons_succ, List.set_cons_zero]
    refine wpAnyH_done (by kernel_rfl) ?_ _
    have HX : Hid (x3 = ⟨(lef 1 1 ++ (lef l.length 1 ++ refB qnp tg)).toArray⟩) := by
      refine (?_ : x3 = ⟨(lef 1 1 ++ (lef l.length 1 ++ refB qnp tg)).toArray⟩)
      rw [← HX3.out, ← HX2.out, ← HX1.out, ← HY1.out, ← HY2.out, HTG.out.1]
      have : (⟨#[1]⟩ : ByteArray) = ⟨(lef 1 1).toArray⟩ := by decide
      rw [this]
      conv => lhs; rw [← ba_data tg]
      simp only [ba_app, List.append_assoc]
    clear HX1 HX2 HX3 HY1 HY2 P1 P2 HSW HG3 HG4 HB3 HB4 HGd HBd u1 u2 z0 z1 z2 z3
    go_wp2_with fail
    have hb5 := HB5.out.size
    go_loopw [8, 9] (fun sv iv wr => ∃ (i : Nat) (x : ByteArray), i ≤ l.length ∧ sv = .string x ∧ iv = .int .i64 (i : Int) ∧ x = ⟨(lef 1 1 ++ (lef l.length 1 ++ (refB qnp tg ++ (l.take i).flatMap rowB))).toArray⟩ ∧ x.size ≤ 38 + i * 33 ∧ Below w5.heap.size w5 wr) (fun _ iv _ => l.length - natOf iv)
    case atStart => exact ⟨0, x3, Nat.zero_le _, rfl, rfl, by rw [HX.out]; simp, by omega, Below.refl _ _⟩
    case round =>
      obtain ⟨i, x, hi, rfl, rfl, hx, hsz, hb⟩ := hrel
      have HX' : Hid _ := hx
      have HBx : Hid (Below w5.heap.size w5 wr) := hb
      have HBw : Hid (Below w.heap.size w wr) := HB5.out.trans (hb.mono HB5.out.size)
      have HGw : Hid (wr.heap[w.heap.size]? = some (gcs ⟨1, qX, qY, qL, qro, l.length, qrc, qko, qkn, qkc, qnp, tg⟩)) := (hb.block _ (Array.getElem?_eq_some_iff.1 HG5.out).1).trans HG5.out
      clear hb hx
      obtain ⟨⟨c0, c1, c2, c3, c4, c5, c6, c7⟩, lB⟩ := pg_cells HGw.out
      simp only at c0 c1 c2 c3 c4 c5 c6 c7
      by_cases hlt : i < l.length
      · have hrd := (HRW.out wr HBw.out).row hlt
        obtain ⟨pb, off, rfl, hbl, hc⟩ := hrd
        have hci := hc i hlt
        have hT := HT.out _ (rat_mem hlt)
        have HTK : Hid ((l.take (i + 1)).flatMap rowB = (l.take i).flatMap rowB ++ rowB (rat l i)) := by
          refine (?_ : (l.take (i + 1)).flatMap rowB = (l.take i).flatMap rowB ++ rowB (rat l i))
          rw [List.take_add_one, rat_some hlt, List.flatMap_append]
          simp
        generalize rat l i = rr at *
        obtain ⟨id, a, b, v⟩ := rr
        simp only at hT HTK
        obtain ⟨d0, d1, d2, d3⟩ := hci
        simp only at d0 d1 d2 d3
        obtain ⟨hT1, hT2, hT3, hT4⟩ := hT
        simp only at hT2 hT3 hT4
        have q5 : (i : Int) < (l.length : Int) := by omega
        have i0 : (0 : Int) ≤ (i : Int) := by omega
        have qa : IntKind.u64.wrap (a : Int) = (a : Int) := IntWalk.u64_in _ ⟨by omega, by omega⟩
        have qb : IntKind.u64.wrap (b : Int) = (b : Int) := IntWalk.u64_in _ ⟨by omega, by omega⟩
        have qv : IntKind.u64.wrap (v.size : Int) = (v.size : Int) := IntWalk.u64_in _ ⟨by omega, by omega⟩
        clear hc
        have hnw := heap_alloc_new wr (.cells #[.int .u64 (id : Int), .int .u32 (a : Int), .int .u32 (b : Int), .string v] 47)
        have HN : Hid _ := hnw
        have HBn : Hid (Below wr.heap.size wr (wr.alloc (.cells #[.int .u64 (id : Int), .int .u32 (a : Int), .int .u32 (b : Int), .string v] 47))) := below_new wr _
        clear hnw
        have A1 : Hid _ := HP.out id hT2 8 (by decide)
        have A2 : Hid _ := HP.out a (by omega) 4 (by decide)
        have A3 : Hid _ := HP.out b (by omega) 4 (by decide)
        have A4 : Hid _ := HP.out v.size (by omega) 1 (by decide)
        obtain ⟨g1, hg1⟩ : ∃ y, (⟨(lef id 8).toArray⟩ : ByteArray) = y := ⟨_, rfl⟩
        have hz1 : g1.size = 8 := by rw [← hg1, ba_size, lef_len]
        rw [hg1] at A1
        have HZ1 : Hid (g1.size = 8 ∧ (⟨(lef id 8).toArray⟩ : ByteArray) = g1) := ⟨hz1, hg1⟩
        clear hg1 hz1
        obtain ⟨g2, hg2⟩ : ∃ y, (⟨(lef a 4).toArray⟩ : ByteArray) = y := ⟨_, rfl⟩
        have hz2 : g2.size = 4 := by rw [← hg2, ba_size, lef_len]
        rw [hg2] at A2
        have HZ2 : Hid (g2.size = 4 ∧ (⟨(lef a 4).toArray⟩ : ByteArray) = g2) := ⟨hz2, hg2⟩
        clear hg2 hz2
        obtain ⟨g3, hg3⟩ : ∃ y, (⟨(lef b 4).toArray⟩ : ByteArray) = y := ⟨_, rfl⟩
        have hz3 : g3.size = 4 := by rw [← hg3, ba_size, lef_len]
        rw [hg3] at A3
        have HZ3 : Hid (g3.size = 4 ∧ (⟨(lef b 4).toArray⟩ : ByteArray) = g3) := ⟨hz3, hg3⟩
        clear hg3 hz3
        obtain ⟨g4, hg4⟩ : ∃ y, (⟨(lef v.size 1).toArray⟩ : ByteArray) = y := ⟨_, rfl⟩
        have hz4 : g4.size = 1 := by rw [← hg4, ba_size, lef_len]
        rw [hg4] at A4
        have HZ4 : Hid (g4.size = 1 ∧ (⟨(lef v.size 1).toArray⟩ : ByteArray) = g4) := ⟨hz4, hg4⟩
        clear hg4 hz4
        go_wp2_with fail
        obtain ⟨Wn, hWn⟩ : ∃ W, wr.alloc (.cells #[.int .u64 (id : Int), .int .u32 (a : Int), .int .u32 (b : Int), .string v] 47) = W := ⟨_, rfl⟩
        rw [hWn] at HN HBn ⊢
        clear hWn c0 c1 c2 c3 c4 c5 c6 c7 d0 d1 d2 d3
        refine wp_region_held (S := PR wr.heap.size id a b v) (by kernel_rfl) ?_
        change wpAnyH _ _ _ _ _ _ _ _ (World.drew _)
        have HSK : Hid (∀ W, Below Wn.heap.size Wn W → PR wr.heap.size id a b v W) := fun W hW => (row_cells ((hW.block _ (Array.getElem?_eq_some_iff.1 HN.out).1).trans HN.out)).1
        have HSW : Hid (PR wr.heap.size id a b v Wn.drew) := HSK.out _ (Below.refl _ _).drew
        have HC0 : Hid (Below Wn.heap.size Wn Wn.drew) := (Below.refl _ _).drew
        refine wpAnyH_take (i := 0) (v := ?_) rfl (by kernel_rfl) (by kernel_rfl) (by kernel_rfl) (fun _ _ _ h => h) (Or.inl ⟨by kernel_rfl, ?_⟩) HSW.out ?_
        rotate_left
        · intro w hS
          obtain ⟨e0, e1, e2, e3⟩ := hS
          go_simp
          try with_reducible rfl
        conv in (Act.put _ _ _) => simp only [List.getElem_toArray, List.getElem_cons_succ, List.getElem_cons_zero, Act.put, List.setIfInBounds_toArray, List.set_cons_succ, List.set_cons_zero]
        refine wpAnyH_take (i := 1) (v := ?_) rfl (by kernel_rfl) (by kernel_rfl) (by kernel_rfl) (fun _ _ _ h => h) (Or.inl ⟨by kernel_rfl, ?_⟩) HSW.out ?_
        rotate_left
        · intro w hS
          obtain ⟨e0, e1, e2, e3⟩ := hS
          go_simp
          try with_reducible rfl
        conv in (Act.put _ _ _) => simp only [List.getElem_toArray, List.getElem_cons_succ, List.getElem_cons_zero, Act.put, List.setIfInBounds_toArray, List.set_cons_succ, List.set_cons_zero]
        refine wpAnyH_take (i := 2) (v := ?_) rfl (by kernel_rfl) (by kernel_rfl) (by kernel_rfl) (fun _ _ _ h => h) (Or.inl ⟨by kernel_rfl, ?_⟩) HSW.out ?_
        rotate_left
        · intro w hS
          obtain ⟨e0, e1, e2, e3⟩ := hS
          go_simp
          try with_reducible rfl
        conv in (Act.put _ _ _) => simp only [List.getElem_toArray, List.getElem_cons_succ, List.getElem_cons_zero, Act.put, List.setIfInBounds_toArray, List.set_cons_succ, List.set_cons_zero]
        refine wpAnyH_take (i := 5) (v := ?_) rfl (by kernel_rfl) (by kernel_rfl) (by kernel_rfl) (fun _ _ _ h => h) (Or.inl ⟨by kernel_rfl, ?_⟩) HSW.out ?_
        rotate_left
        · intro w hS
          obtain ⟨e0, e1, e2, e3⟩ := hS
          go_simp
          try with_reducible rfl
        conv in (Act.put _ _ _) => simp only [List.getElem_toArray, List.getElem_cons_succ, List.getElem_cons_zero, Act.put, List.setIfInBounds_toArray, List.set_cons_succ, List.set_cons_zero]
        refine wpAnyH_take (i := 6) (v := ?_) rfl (by kernel_rfl) (by kernel_rfl) (by kernel_rfl) (fun _ _ _ h => h) (Or.inl ⟨by kernel_rfl, ?_⟩) HSW.out ?_
        rotate_left
        · intro w hS
          obtain ⟨e0, e1, e2, e3⟩ := hS
          go_simp
          try with_reducible rfl
        conv in (Act.put _ _ _) => simp only [List.getElem_toArray, List.getElem_cons_succ, List.getElem_cons_zero, Act.put, List.setIfInBounds_toArray, List.set_cons_succ, List.set_cons_zero]
        refine wpAnyH_take (i := 7) (v := ?_) rfl (by kernel_rfl) (by kernel_rfl) (by kernel_rfl) (fun _ _ _ h => h) (Or.inl ⟨by kernel_rfl, ?_⟩) HSW.out ?_
        rotate_left
        · intro w hS
          obtain ⟨e0, e1, e2, e3⟩ := hS
          go_simp
          try with_reducible rfl
        conv in (Act.put _ _ _) => simp only [List.getElem_toArray, List.getElem_cons_succ, List.getElem_cons_zero, Act.put, List.setIfInBounds_toArray, List.set_cons_succ, List.set_cons_zero]
        refine wpAnyH_take (i := 10) (v := ?_) rfl (by kernel_rfl) (by kernel_rfl) (by kernel_rfl) (fun _ _ _ h => h) (Or.inl ⟨by kernel_rfl, ?_⟩) HSW.out ?_
        rotate_left
        · intro w hS
          obtain ⟨e0, e1, e2, e3⟩ := hS
          go_simp
          try with_reducible rfl
        conv in (Act.put _ _ _) => simp only [List.getElem_toArray, List.getElem_cons_succ, List.getElem_cons_zero, Act.put, List.setIfInBounds_toArray, List.set_cons_succ, List.set_cons_zero]
        refine wpAnyH_take (i := 11) (v := ?_) rfl (by kernel_rfl) (by kernel_rfl) (by kernel_rfl) (fun _ _ _ h => h) (Or.inl ⟨by kernel_rfl, ?_⟩) HSW.out ?_
        rotate_left
        · intro w hS
          obtain ⟨e0, e1, e2, e3⟩ := hS
          go_simp
          try with_reducible rfl
        conv in (Act.put _ _ _) => simp only [List.getElem_toArray, List.getElem_cons_succ, List.getElem_cons_zero, Act.put, List.setIfInBounds_toArray, List.set_cons_succ, List.set_cons_zero]
        refine wpAnyH_take (i := 12) (v := ?_) rfl (by kernel_rfl) (by kernel_rfl) (by kernel_rfl) (fun _ _ _ h => h) (Or.inl ⟨by kernel_rfl, ?_⟩) HSW.out ?_
        rotate_left
        · intro w hS
          obtain ⟨e0, e1, e2, e3⟩ := hS
          go_simp
          try with_reducible rfl
        conv in (Act.put _ _ _) => simp only [List.getElem_toArray, List.getElem_cons_succ, List.getElem_cons_zero, Act.put, List.setIfInBounds_toArray, List.set_cons_succ, List.set_cons_zero]
        refine wpAnyH_take (i := 15) (v := ?_) rfl (by kernel_rfl) (by kernel_rfl) (by kernel_rfl) (fun _ _ _ h => h) (Or.inl ⟨by kernel_rfl, ?_⟩) HSW.out ?_
        rotate_left
        · intro w hS
          obtain ⟨e0, e1, e2, e3⟩ := hS
          go_simp
          try with_reducible rfl
        conv in (Act.put _ _ _) => simp only [List.getElem_toArray, List.getElem_cons_succ, List.getElem_cons_zero, Act.put, List.setIfInBounds_toArray, List.set_cons_succ, List.set_cons_zero]
        refine wpAnyH_take (i := 16) (v := ?_) rfl (by kernel_rfl) (by kernel_rfl) (by kernel_rfl) (fun _ _ _ h => h) (Or.inl ⟨by kernel_rfl, ?_⟩) HSW.out ?_
        rotate_left
        · intro w hS
          obtain ⟨e0, e1, e2, e3⟩ := hS
          go_simp
          try with_reducible rfl
        conv in (Act.put _ _ _) => simp only [List.getElem_toArray, List.getElem_cons_succ, List.getElem_cons_zero, Act.put, List.setIfInBounds_toArray, List.set_cons_succ, List.set_cons_zero]
        refine wpAnyH_take (i := 17) (v := ?_) rfl (by kernel_rfl) (by kernel_rfl) (by kernel_rfl) (fun _ _ _ h => h) (Or.inl ⟨by kernel_rfl, ?_⟩) HSW.out ?_
        rotate_left
        · intro w hS
          obtain ⟨e0, e1, e2, e3⟩ := hS
          go_simp
          try with_reducible rfl
        conv in (Act.put _ _ _) => simp only [List.getElem_toArray, List.getElem_cons_succ, List.getElem_cons_zero, Act.put, List.setIfInBounds_toArray, List.set_cons_succ, List.set_cons_zero]
        refine wpAnyH_take (i := 18) (v := ?_) rfl (by kernel_rfl) (by kernel_rfl) (by kernel_rfl) (fun _ _ _ h => h) (Or.inl ⟨by kernel_rfl, ?_⟩) HSW.out ?_
        rotate_left
        · intro w hS
          obtain ⟨e0, e1, e2, e3⟩ := hS
          go_simp
          try with_reducible rfl
        conv in (Act.put _ _ _) => simp only [List.getElem_toArray, List.getElem_cons_succ, List.getElem_cons_zero, Act.put, List.setIfInBounds_toArray, List.set_cons_succ, List.set_cons_zero]
        refine wpAnyH_take (i := 21) (v := ?_) rfl (by kernel_rfl) (by kernel_rfl) (by kernel_rfl) (fun _ _ _ h => h) (Or.inl ⟨by kernel_rfl, ?_⟩) HSW.out ?_
        rotate_left
        · intro w hS
          obtain ⟨e0, e1, e2, e3⟩ := hS
          go_simp
          try with_reducible rfl
        conv in (Act.put _ _ _) => simp only [List.getElem_toArray, List.getElem_cons_succ, List.getElem_cons_zero, Act.put, List.setIfInBounds_toArray, List.set_cons_succ, List.set_cons_zero]
        refine wpAnyH_take (i := 22) (v := ?_) rfl (by kernel_rfl) (by kernel_rfl) (by kernel_rfl) (fun _ _ _ h => h) (Or.inl ⟨by kernel_rfl, ?_⟩) HSW.out ?_
        rotate_left
        · intro w hS
          obtain ⟨e0, e1, e2, e3⟩ := hS
          go_simp
          try with_reducible rfl
        conv in (Act.put _ _ _) => simp only [List.getElem_toArray, List.getElem_cons_succ, List.getElem_cons_zero, Act.put, List.setIfInBounds_toArray, List.set_cons_succ, List.set_cons_zero]
        refine readyH 3 _ (by kernel_rfl) rfl (by kernel_rfl) (fun K hK => ?_)
        go_simp
        refine (A1.out Wn.drew).mono ?_
        rintro e v1 ⟨rfl, bb⟩
        have HC1 : Hid (Below Wn.heap.size Wn v1) := HC0.out.trans (bb.mono HC0.out.size)
        replace HSW : Hid (PR wr.heap.size id a b v v1) := HSK.out _ HC1.out
        clear bb
        refine hK _ _ HSW.out ?_
        clear hK K
        have hq1 : ¬ 9223372036854775807 < x.size + g1.size := by rw [HZ1.out.1]; omega
        refine wpAnyH_take (i := 4) (v := ?_) rfl (by kernel_rfl) (by kernel_rfl) (by kernel_rfl) (fun _ _ _ h => h) (Or.inl ⟨by kernel_rfl, ?_⟩) HSW.out ?_
        rotate_left
        · intro w hS
          obtain ⟨e0, e1, e2, e3⟩ := hS
          go_simp
          try with_reducible rfl
        conv in (Act.put _ _ _) => simp only [List.getElem_toArray, List.getElem_cons_succ, List.getElem_cons_zero, Act.put, List.setIfInBounds_toArray, List.set_cons_succ, List.set_cons_zero]
        obtain ⟨s1, hs1⟩ : ∃ s, x ++ g1 = s := ⟨_, rfl⟩
        have zs1 : s1.size ≤ 38 + i * 33 + 8 := by rw [← hs1, ByteArray.size_append, HZ1.out.1]; omega
        rw [hs1]
        have HS1 : Hid _ := hs1
        clear hs1 hq1
        refine readyH 8 _ (by kernel_rfl) rfl (by kernel_rfl) (fun K hK => ?_)
        go_simp
        refine (A2.out v1).mono ?_
        rintro e v2 ⟨rfl, bb⟩
        have HC2 : Hid (Below Wn.heap.size Wn v2) := HC1.out.trans (bb.mono HC1.out.size)
        replace HSW : Hid (PR wr.heap.size id a b v v2) := HSK.out _ HC2.out
        clear bb
        refine hK _ _ HSW.out ?_
        clear hK K
        have hq2 : ¬ 9223372036854775807 < s1.size + g2.size := by rw [HZ2.out.1]; omega
        refine wpAnyH_take (i := 9) (v := ?_) rfl (by kernel_rfl) (by kernel_rfl) (by kernel_rfl) (fun _ _ _ h => h) (Or.inl ⟨by kernel_rfl, ?_⟩) HSW.out ?_
        rotate_left
        · intro w hS
          obtain ⟨e0, e1, e2, e3⟩ := hS
          go_simp
          try with_reducible rfl
        conv in (Act.put _ _ _) => simp only [List.getElem_toArray, List.getElem_cons_succ, List.getElem_cons_zero, Act.put, List.setIfInBounds_toArray, List.set_cons_succ, List.set_cons_zero]
        obtain ⟨s2, hs2⟩ : ∃ s, s1 ++ g2 = s := ⟨_, rfl⟩
        have zs2 : s2.size ≤ 38 + i * 33 + 8 + 4 := by rw [← hs2, ByteArray.size_append, HZ2.out.1]; omega
        rw [hs2]
        have HS2 : Hid _ := hs2
        clear hs2 hq2
        refine readyH 13 _ (by kernel_rfl) rfl (by kernel_rfl) (fun K hK => ?_)
        go_simp
        refine (A3.out v2).mono ?_
        rintro e v3 ⟨rfl, bb⟩
        have HC3 : Hid (Below Wn.heap.size Wn v3) := HC2.out.trans (bb.mono HC2.out.size)
        replace HSW : Hid (PR wr.heap.size id a b v v3) := HSK.out _ HC3.out
        clear bb
        refine hK _ _ HSW.out ?_
        clear hK K
        have hq3 : ¬ 9223372036854775807 < s2.size + g3.size := by rw [HZ3.out.1]; omega
        refine wpAnyH_take (i := 14) (v := ?_) rfl (by kernel_rfl) (by kernel_rfl) (by kernel_rfl) (fun _ _ _ h => h) (Or.inl ⟨by kernel_rfl, ?_⟩) HSW.out ?_
        rotate_left
        · intro w hS
          obtain ⟨e0, e1, e2, e3⟩ := hS
          go_simp
          try with_reducible rfl
        conv in (Act.put _ _ _) => simp only [List.getElem_toArray, List.getElem_cons_succ, List.getElem_cons_zero, Act.put, List.setIfInBounds_toArray, List.set_cons_succ, List.set_cons_zero]
        obtain ⟨s3, hs3⟩ : ∃ s, s2 ++ g3 = s := ⟨_, rfl⟩
        have zs3 : s3.size ≤ 38 + i * 33 + 8 + 4 + 4 := by rw [← hs3, ByteArray.size_append, HZ3.out.1]; omega
        rw [hs3]
        have HS3 : Hid _ := hs3
        clear hs3 hq3
        refine readyH 19 _ (by kernel_rfl) rfl (by kernel_rfl) (fun K hK => ?_)
        go_simp
        refine (A4.out v3).mono ?_
        rintro e v4 ⟨rfl, bb⟩
        have HC4 : Hid (Below Wn.heap.size Wn v4) := HC3.out.trans (bb.mono HC3.out.size)
        replace HSW : Hid (PR wr.heap.size id a b v v4) := HSK.out _ HC4.out
        clear bb
        refine hK _ _ HSW.out ?_
        clear hK K
        have hq4 : ¬ 9223372036854775807 < s3.size + g4.size := by rw [HZ4.out.1]; omega
        refine wpAnyH_take (i := 20) (v := ?_) rfl (by kernel_rfl) (by kernel_rfl) (by kernel_rfl) (fun _ _ _ h => h) (Or.inl ⟨by kernel_rfl, ?_⟩) HSW.out ?_
        rotate_left
        · intro w hS
          obtain ⟨e0, e1, e2, e3⟩ := hS
          go_simp
          try with_reducible rfl
        conv in (Act.put _ _ _) => simp only [List.getElem_toArray, List.getElem_cons_succ, List.getElem_cons_zero, Act.put, List.setIfInBounds_toArray, List.set_cons_succ, List.set_cons_zero]
        obtain ⟨s4, hs4⟩ : ∃ s, s3 ++ g4 = s := ⟨_, rfl⟩
        have zs4 : s4.size ≤ 38 + i * 33 + 8 + 4 + 4 + 1 := by rw [← hs4, ByteArray.size_append, HZ4.out.1]; omega
        rw [hs4]
        have HS4 : Hid _ := hs4
        clear hs4 hq4
        have hq5 : ¬ 9223372036854775807 < s4.size + v.size := by omega
        refine wpAnyH_take (i := 23) (v := ?_) rfl (by kernel_rfl) (by kernel_rfl) (by kernel_rfl) (fun _ _ _ h => h) (Or.inl ⟨by kernel_rfl, ?_⟩) HSW.out ?_
        rotate_left
        · intro w hS
          obtain ⟨e0, e1, e2, e3⟩ := hS
          go_simp
          try with_reducible rfl
        conv in (Act.put _ _ _) => simp only [List.getElem_toArray, List.getElem_cons_succ, List.getElem_cons_zero, Act.put, List.setIfInBounds_toArray, List.set_cons_succ, List.set_cons_zero]
        obtain ⟨s5, hs5⟩ : ∃ s, s4 ++ v = s := ⟨_, rfl⟩
        have zs5 : s5.size ≤ 38 + (i + 1) * 33 := by rw [← hs5, ByteArray.size_append]; omega
        rw [hs5]
        have HS5 : Hid _ := hs5
        clear hs5 hq5
        refine wpAnyH_take (i := 24) (v := ?_) rfl (by kernel_rfl) (by kernel_rfl) (by kernel_rfl) (fun _ _ _ h => h) (Or.inl ⟨by kernel_rfl, ?_⟩) HSW.out ?_
        rotate_left
        · intro w hS
          obtain ⟨e0, e1, e2, e3⟩ := hS
          go_simp
          try with_reducible rfl
        conv in (Act.put _ _ _) => simp only [List.getElem_toArray, List.getElem_cons_succ, List.getElem_cons_zero, Act.put, List.setIfInBounds_toArray, List.set_cons_succ, List.set_cons_zero]
        refine wpAnyH_done (by kernel_rfl) ?_ _
        have HBz : Hid (Below w5.heap.size w5 v4) := HBx.out.trans ((HBn.out.trans (HC4.out.mono HBn.out.size)).mono HBx.out.size)
        go_wp2_with fail
        go_roundw
        case rel =>
          refine ⟨i + 1, s5, by omega, rfl, by go_num, ?_, zs5, HBz.out⟩
          rw [HTK.out, ← HS5.out, ← HS4.out, ← HS3.out, ← HS2.out, ← HS1.out, HX'.out, ← HZ1.out.2, ← HZ2.out.2, ← HZ3.out.2, ← HZ4.out.2]
          conv => lhs; rw [← ba_data v]
          unfold rowB
          simp only [ba_app, List.append_assoc]
        case measure => simp [natOf]; omega
      · obtain rfl : i = l.length := by omega
        have q5 : ¬ (l.length : Int) < (l.length : Int) := by omega
        go_wp2_with fail
        go_ret2
        refine ⟨?_, HBw.out⟩
        rw [HX'.out, List.take_length]
        rfl
end Go.Proofs.Ytljponlfjombaaa.Rw
