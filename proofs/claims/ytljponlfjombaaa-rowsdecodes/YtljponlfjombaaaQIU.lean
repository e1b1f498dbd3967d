/- A reader: inner pages. -/
import Derived.Test.YtljponlfjombaaaQIS
import Derived.Test.YtljponlfjombaaaQII
namespace Go.Proofs.Ytljponlfjombaaa.Rw
open Go.RowKit Go.Lib Go.Shelf
open Go.Proofs.Ytljponlfjombaaa.Rc Go.Proofs.Ytljponlfjombaaa.Rq
set_option maxRecDepth 100000 in
theorem own_moreF {W W' : World} {B base : Nat} {v : Value} {n : Nat} {xs : List Value} (hB : B ≤ base) (h : W.ownsRow base 28 2 v n xs) (hs : ∀ b, base ≤ b → b < W.heap.size → W'.heap[b]? = W.heap[b]?) : W'.ownsRow B 28 2 v n xs := by
  refine ⟨h.1, ?_⟩
  rcases h.2 with h2 | ⟨g, cap, cur, h1, h2, h3, h4⟩
  · exact .inl h2
  · exact .inr ⟨g, cap, cur, h1, Nat.le_trans hB h2, (hs g h2 (Array.getElem?_eq_some_iff.1 h3).1).trans h3, h4⟩
/-- Three cells of a cell. -/
def QC (g x y l : Nat) (w : World) : Prop := w.cell? ⟨g, 0, none⟩ = some (.int .u32 (x : Int)) ∧ w.cell? ⟨g, 1, none⟩ = some (.int .u32 (y : Int)) ∧ w.cell? ⟨g, 2, none⟩ = some (.int .i64 (l : Int))
set_option maxRecDepth 100000 in
theorem qc_of {g x y l : Nat} {w : World} {t : TypeId} (h : w.heap[g]? = some (.cells #[.int .u32 (x : Int), .int .u32 (y : Int), .int .i64 (l : Int)] t (0, 0))) : QC g x y l w := by
  refine ⟨?_, ?_, ?_⟩ <;> (rw [cell_of_row _ _ _ _ _ _ h]; rfl)
/-- The inner page that is read: its cell, its refs, and what is left. -/
def inC (st : RS) : Nat := numS (aftS st 1) 1
def inX (st : RS) : Nat := numS (aftS (aftS st 1) 1) 4
def inY (st : RS) : Nat := numS (aftS (aftS (aftS st 1) 1) 4) 4
def inL (st : RS) : List Rf × RS := lstS refS f2S (numS st 1) (aftS (aftS (aftS (aftS st 1) 1) 4) 4)
set_option maxRecDepth 100000 in
set_option maxHeartbeats 1000000 in
theorem inner_any (g : Nat) (st : RS) (w : World) (h : RdS g st w) :
    Calls Try.prog 43 #[.pointer (some ⟨g, 0, none⟩)] w fun e w' => ∃ ro ca, e = .returned (gv ⟨2, inX st, inY st, (inC st : Int), none, 0, 0, ro, (inL st).1.length, ca, 0, ⟨#[]⟩⟩) ∧ w'.ownsRow w.heap.size 28 2 (.slice ro (inL st).1.length ca) (inL st).1.length ((inL st).1.flatMap fc) ∧ RdS g (inL st).2 w' ∧ Bo g w w' := by
  have HN1 : Hid _ := number_any g st 1 (by omega)
  have HN2 : Hid _ := number_any g (aftS st 1) 1 (by omega)
  have HN3 : Hid _ := number_any g (aftS (aftS st 1) 1) 4 (by omega)
  have HN4 : Hid _ := number_any g (aftS (aftS (aftS st 1) 1) 4) 4 (by omega)
  have n1 := numS_lt st 1
  have n2 := numS_lt (aftS st 1) 1
  have n3 := numS_lt (aftS (aftS st 1) 1) 4
  have n4 := numS_lt (aftS (aftS (aftS st 1) 1) 4) 4
  simp only [Nat.reduceMul, Nat.reducePow] at n1 n2 n3 n4
  have HLS : Hid _ := listRef_any g (aftS (aftS (aftS (aftS st 1) 1) 4) 4) (numS st 1) (by omega)
  have lg : g < w.heap.size := (Array.getElem?_eq_some_iff.1 h).1
  unfold inL inC inX inY
  obtain ⟨n, hn⟩ : ∃ n, numS st 1 = n := ⟨_, rfl⟩
  obtain ⟨l, hl⟩ : ∃ l, numS (aftS st 1) 1 = l := ⟨_, rfl⟩
  obtain ⟨x, hx⟩ : ∃ x, numS (aftS (aftS st 1) 1) 4 = x := ⟨_, rfl⟩
  obtain ⟨y, hy⟩ : ∃ y, numS (aftS (aftS (aftS st 1) 1) 4) 4 = y := ⟨_, rfl⟩
  obtain ⟨L, hL⟩ : ∃ L, lstS refS f2S n (aftS (aftS (aftS (aftS st 1) 1) 4) 4) = L := ⟨_, rfl⟩
  rw [hn] at n1 HN1 HLS ⊢
  rw [hl] at n2 HN2 ⊢
  rw [hx] at n3 HN3 ⊢
  rw [hy] at n4 HN4 ⊢
  rw [hL] at HLS ⊢
  have q1 : IntKind.u32.wrap (x : Int) = (x : Int) := IntWalk.u32_in _ ⟨by omega, by omega⟩
  have q2 : IntKind.u32.wrap (y : Int) = (y : Int) := IntWalk.u32_in _ ⟨by omega, by omega⟩
  have q3 : IntKind.i64.wrap (l : Int) = (l : Int) := wrap_i64 (by omega) (by omega)
  have hbn := below_new w (.cells #[.int .i64 0, .int .u32 0, .int .u32 0, .int .i64 0, .slice none 0 0, .slice none 0 0, .int .u32 0, .string ⟨#[]⟩] 30)
  have HG0 : Hid ((w.alloc (.cells #[.int .i64 0, .int .u32 0, .int .u32 0, .int .i64 0, .slice none 0 0, .slice none 0 0, .int .u32 0, .string ⟨#[]⟩] 30)).heap[w.heap.size]? = some (.cells #[.int .i64 0, .int .u32 0, .int .u32 0, .int .i64 0, .slice none 0 0, .slice none 0 0, .int .u32 0, .string ⟨#[]⟩] 30 (0, 0))) := heap_alloc_new w _
  have HR0 : Hid (RdS g st (w.alloc (.cells #[.int .i64 0, .int .u32 0, .int .u32 0, .int .i64 0, .slice none 0 0, .slice none 0 0, .int .u32 0, .string ⟨#[]⟩] 30))) := (hbn.block _ lg).trans h
  have HB0 : Hid (Bo g w (w.alloc (.cells #[.int .i64 0, .int .u32 0, .int .u32 0, .int .i64 0, .slice none 0 0, .slice none 0 0, .int .u32 0, .string ⟨#[]⟩] 30))) := But.of_below hbn
  clear h hbn hn hl hx hy hL
  obtain ⟨W0, hW0⟩ : ∃ W0, w.alloc (.cells #[.int .i64 0, .int .u32 0, .int .u32 0, .int .i64 0, .slice none 0 0, .slice none 0 0, .int .u32 0, .string ⟨#[]⟩] 30) = W0 := ⟨_, rfl⟩
  have HW0 : Hid _ := hW0
  rw [hW0] at HG0 HR0 HB0
  clear hW0
  have hng : w.heap.size ≠ g := by omega
  go_enter Try.func43, Try.ntmps43
  go_wp2_with fail
  rw [HW0.out]
  clear HW0
  refine (HN1.out W0 HR0.out).mono ?_
  rintro e w1 ⟨rfl, r1, b1⟩
  have HR1 : Hid (RdS g (aftS st 1) w1) := r1
  have HB1 : Hid (Bo g w w1) := HB0.out.trans b1
  have HG1 : Hid (w1.heap[w.heap.size]? = some (.cells #[.int .i64 0, .int .u32 0, .int .u32 0, .int .i64 0, .slice none 0 0, .slice none 0 0, .int .u32 0, .string ⟨#[]⟩] 30 (0, 0))) := (b1.block _ (Array.getElem?_eq_some_iff.1 HG0.out).1 hng).trans HG0.out
  clear r1 b1 HR0 HB0 HG0
  go_wp2_with fail
  refine (HN2.out w1 HR1.out).mono ?_
  rintro e w2 ⟨rfl, r1, b1⟩
  have HR2 : Hid (RdS g (aftS (aftS st 1) 1) w2) := r1
  have HB2 : Hid (Bo g w w2) := HB1.out.trans b1
  have HG2 : Hid (w2.heap[w.heap.size]? = some (.cells #[.int .i64 0, .int .u32 0, .int .u32 0, .int .i64 0, .slice none 0 0, .slice none 0 0, .int .u32 0, .string ⟨#[]⟩] 30 (0, 0))) := (b1.block _ (Array.getElem?_eq_some_iff.1 HG1.out).1 hng).trans HG1.out
  clear r1 b1 HR1 HB1 HG1
  go_wp2_with fail
  refine (HN3.out w2 HR2.out).mono ?_
  rintro e w3 ⟨rfl, r1, b1⟩
  have HR3 : Hid (RdS g (aftS (aftS (aftS st 1) 1) 4) w3) := r1
  have HB3 : Hid (Bo g w w3) := HB2.out.trans b1
  have HG3 : Hid (w3.heap[w.heap.size]? = some (.cells #[.int .i64 0, .int .u32 0, .int .u32 0, .int .i64 0, .slice none 0 0, .slice none 0 0, .int .u32 0, .string ⟨#[]⟩] 30 (0, 0))) := (b1.block _ (Array.getElem?_eq_some_iff.1 HG2.out).1 hng).trans HG2.out
  clear r1 b1 HR2 HB2 HG2
  go_wp2_with fail
  refine (HN4.out w3 HR3.out).mono ?_
  rintro e w4 ⟨rfl, r1, b1⟩
  have HR4 : Hid (RdS g (aftS (aftS (aftS (aftS st 1) 1) 4) 4) w4) := r1
  have HB4 : Hid (Bo g w w4) := HB3.out.trans b1
  have HG4 : Hid (w4.heap[w.heap.size]? = some (.cells #[.int .i64 0, .int .u32 0, .int .u32 0, .int .i64 0, .slice none 0 0, .slice none 0 0, .int .u32 0, .string ⟨#[]⟩] 30 (0, 0))) := (b1.block _ (Array.getElem?_eq_some_iff.1 HG3.out).1 hng).trans HG3.out
  clear r1 b1 HR3 HB3 HG3
  have l4 : w.heap.size < w4.heap.size := (Array.getElem?_eq_some_iff.1 HG4.out).1
  have hbx := below_new w4 (.cells #[.int .u32 (x : Int), .int .u32 (y : Int), .int .i64 (l : Int)] 24)
  have HR5 : Hid (RdS g (aftS (aftS (aftS (aftS st 1) 1) 4) 4) (w4.alloc (.cells #[.int .u32 (x : Int), .int .u32 (y : Int), .int .i64 (l : Int)] 24))) := (hbx.block _ (by omega)).trans HR4.out
  have HB5 : Hid (Bo g w (w4.alloc (.cells #[.int .u32 (x : Int), .int .u32 (y : Int), .int .i64 (l : Int)] 24))) := HB4.out.trans (But.of_below hbx)
  have HG5 : Hid ((w4.alloc (.cells #[.int .u32 (x : Int), .int .u32 (y : Int), .int .i64 (l : Int)] 24)).heap[w.heap.size]? = some (.cells #[.int .i64 0, .int .u32 0, .int .u32 0, .int .i64 0, .slice none 0 0, .slice none 0 0, .int .u32 0, .string ⟨#[]⟩] 30 (0, 0))) := (hbx.block _ (by omega)).trans HG4.out
  have hq5 := heap_alloc_new w4 (.cells #[.int .u32 (x : Int), .int .u32 (y : Int), .int .i64 (l : Int)] 24)
  have HQ5 : Hid _ := hq5
  clear HR4 HB4 HG4 hbx hq5
  go_wp2_with fail
  obtain ⟨W5, hW5⟩ : ∃ W5, w4.alloc (.cells #[.int .u32 (x : Int), .int .u32 (y : Int), .int .i64 (l : Int)] 24) = W5 := ⟨_, rfl⟩
  have hs5 : W5.heap.size = w4.heap.size + 1 := by rw [← hW5]; simp
  rw [hW5] at HR5 HB5 HG5 HQ5 ⊢
  have HSW : Hid (QC w4.heap.size x y l W5.drew) := qc_of HQ5.out
  refine wp_region_held (S := QC w4.heap.size x y l) (by kernel_rfl) ?_
  change wpAnyH _ _ _ _ _ _ _ _ (World.drew _)
  refine wpAnyH_take (i := 0) (v := ?_) rfl (by kernel_rfl) (by kernel_rfl) (by kernel_rfl) (fun _ _ _ h => h) (Or.inl ⟨by kernel_rfl, ?_⟩) HSW.out ?_
  rotate_left
  · intro w hS
    obtain ⟨e0, e1, e2⟩ := hS
    go_simp
    try with_reducible rfl
  conv in (Act.put _ _ _) => simp only [List.getElem_toArray, List.getElem_cons_succ, List.getElem_cons_zero, Act.put, List.setIfInBounds_toArray, List.set_cons_succ, List.set_cons_zero]
  refine wpAnyH_take (i := 1) (v := ?_) rfl (by kernel_rfl) (by kernel_rfl) (by kernel_rfl) (fun _ _ _ h => h) (Or.inl ⟨by kernel_rfl, ?_⟩) HSW.out ?_
  rotate_left
  · intro w hS
    obtain ⟨e0, e1, e2⟩ := hS
    go_simp
    try with_reducible rfl
  conv in (Act.put _ _ _) => simp only [List.getElem_toArray, List.getElem_cons_succ, List.getElem_cons_zero, Act.put, List.setIfInBounds_toArray, List.set_cons_succ, List.set_cons_zero]
  refine wpAnyH_take (i := 2) (v := ?_) rfl (by kernel_rfl) (by kernel_rfl) (by kernel_rfl) (fun _ _ _ h => h) (Or.inl ⟨by kernel_rfl, ?_⟩) HSW.out ?_
  rotate_left
  · intro w hS
    obtain ⟨e0, e1, e2⟩ := hS
    go_simp
    try with_reducible rfl
  conv in (Act.put _ _ _) => simp only [List.getElem_toArray, List.getElem_cons_succ, List.getElem_cons_zero, Act.put, List.setIfInBounds_toArray, List.set_cons_succ, List.set_cons_zero]
  refine wpAnyH_take (i := 3) (v := ?_) rfl (by kernel_rfl) (by kernel_rfl) (by kernel_rfl) (fun _ _ _ h => h) (Or.inl ⟨by kernel_rfl, ?_⟩) HSW.out ?_
  rotate_left
  · intro w hS
    obtain ⟨e0, e1, e2⟩ := hS
    go_simp
    try with_reducible rfl
  conv in (Act.put _ _ _) => simp only [List.getElem_toArray, List.getElem_cons_succ, List.getElem_cons_zero, Act.put, List.setIfInBounds_toArray, List.set_cons_succ, List.set_cons_zero]
  refine wpAnyH_take (i := 4) (v := ?_) rfl (by kernel_rfl) (by kernel_rfl) (by kernel_rfl) (fun _ _ _ h => h) (Or.inl ⟨by kernel_rfl, ?_⟩) HSW.out ?_
  rotate_left
  · intro w hS
    obtain ⟨e0, e1, e2⟩ := hS
    go_simp
    try with_reducible rfl
  conv in (Act.put _ _ _) => simp only [List.getElem_toArray, List.getElem_cons_succ, List.getElem_cons_zero, Act.put, List.setIfInBounds_toArray, List.set_cons_succ, List.set_cons_zero]
  refine readyH 5 _ (by kernel_rfl) rfl (by kernel_rfl) (fun K hK => ?_)
  go_simp
  refine (HLS.out W5.drew HR5.out).mono ?_
  rintro e w6 ⟨v, rfl, o6, r6, b6⟩
  obtain ⟨ro, ca, rfl, -⟩ := sl_of_own o6
  have hg6 := (b6.block _ (Array.getElem?_eq_some_iff.1 HG5.out).1 hng).trans HG5.out
  have hq6 := (b6.block _ (Array.getElem?_eq_some_iff.1 HQ5.out).1 (by omega)).trans HQ5.out
  have HE : Hid (w6.ownsRow W5.heap.size 28 2 (.slice ro L.1.length ca) L.1.length (L.1.flatMap fc) ∧ RdS g L.2 w6 ∧ Bo g w w6) := ⟨o6, r6, HB5.out.trans ((But.of_below (Below.refl _ W5).drew).trans b6)⟩
  have l6 : w.heap.size < w6.heap.size := (Array.getElem?_eq_some_iff.1 hg6).1
  have fz : ∀ k, w6.frozen? ⟨w.heap.size, k, none⟩ = false := fun k => frozen_of_row w6 _ k _ _ hg6
  have f0 := fz 0
  have f1 := fz 1
  have f2 := fz 2
  have f3 := fz 3
  have f4 := fz 4
  have f5 := fz 5
  have f6 := fz 6
  have f7 := fz 7
  have c0 : w6.cell? ⟨w.heap.size, 0, none⟩ = some (.int .i64 0) := by rw [cell_of_row _ _ _ _ _ _ hg6]; rfl
  have c1 : w6.cell? ⟨w.heap.size, 1, none⟩ = some (.int .u32 0) := by rw [cell_of_row _ _ _ _ _ _ hg6]; rfl
  have c2 : w6.cell? ⟨w.heap.size, 2, none⟩ = some (.int .u32 0) := by rw [cell_of_row _ _ _ _ _ _ hg6]; rfl
  have c3 : w6.cell? ⟨w.heap.size, 3, none⟩ = some (.int .i64 0) := by rw [cell_of_row _ _ _ _ _ _ hg6]; rfl
  have c4 : w6.cell? ⟨w.heap.size, 4, none⟩ = some (.slice none 0 0) := by rw [cell_of_row _ _ _ _ _ _ hg6]; rfl
  have c5 : w6.cell? ⟨w.heap.size, 5, none⟩ = some (.slice none 0 0) := by rw [cell_of_row _ _ _ _ _ _ hg6]; rfl
  have c6 : w6.cell? ⟨w.heap.size, 6, none⟩ = some (.int .u32 0) := by rw [cell_of_row _ _ _ _ _ _ hg6]; rfl
  have c7 : w6.cell? ⟨w.heap.size, 7, none⟩ = some (.string ⟨#[]⟩) := by rw [cell_of_row _ _ _ _ _ _ hg6]; rfl
  have HG6 : Hid _ := hg6
  have HQ6 : Hid _ := hq6
  replace HSW : Hid (QC w4.heap.size x y l w6) := qc_of hq6
  refine hK _ _ HSW.out ?_
  clear hK K
  refine wpAnyH_take (i := 6) (v := ?_) rfl (by kernel_rfl) (by kernel_rfl) (by kernel_rfl) (fun _ _ _ h => h) (Or.inl ⟨by kernel_rfl, ?_⟩) HSW.out ?_
  rotate_left
  · intro w hS
    obtain ⟨e0, e1, e2⟩ := hS
    go_simp
    try with_reducible rfl
  conv in (Act.put _ _ _) => simp only [List.getElem_toArray, List.getElem_cons_succ, List.getElem_cons_zero, Act.put, List.setIfInBounds_toArray, List.set_cons_succ, List.set_cons_zero]
  refine readyH 7 _ (by kernel_rfl) rfl (by kernel_rfl) (fun K hK => ?_)
  clear r6 b6 o6 hg6 hq6 fz HR5 HB5 HG5 HQ5
  have X1 := heap_setCell_same w6 w.heap.size 0 _ _ (.int .i64 2) HG6.out
  have X2 := heap_setCell_same _ w.heap.size 1 _ _ (.int .u32 (x : Int)) X1
  have X3 := heap_setCell_same _ w.heap.size 2 _ _ (.int .u32 (y : Int)) X2
  have X4 := heap_setCell_same _ w.heap.size 3 _ _ (.int .i64 (l : Int)) X3
  have X5 := heap_setCell_same _ w.heap.size 4 _ _ (.slice none 0 0) X4
  have X6 := heap_setCell_same _ w.heap.size 5 _ _ (.slice ro L.1.length ca) X5
  have X7 := heap_setCell_same _ w.heap.size 6 _ _ (.int .u32 0) X6
  have X8 := heap_setCell_same _ w.heap.size 7 _ _ (.string ⟨#[]⟩) X7
  simp only [List.setIfInBounds_toArray, List.set_cons_zero, List.set_cons_succ] at X8
  have HX : Hid _ := X8
  have hoth : ∀ j, j ≠ w.heap.size → (((((((((w6.setCell ⟨w.heap.size, 0, none⟩ (.int .i64 2)).setCell ⟨w.heap.size, 1, none⟩ (.int .u32 (x : Int))).setCell ⟨w.heap.size, 2, none⟩ (.int .u32 (y : Int))).setCell ⟨w.heap.size, 3, none⟩ (.int .i64 (l : Int))).setCell ⟨w.heap.size, 4, none⟩ (.slice none 0 0)).setCell ⟨w.heap.size, 5, none⟩ (.slice ro L.1.length ca)).setCell ⟨w.heap.size, 6, none⟩ (.int .u32 0)).setCell ⟨w.heap.size, 7, none⟩ (.string ⟨#[]⟩))).heap[j]? = w6.heap[j]? := fun j hj => by
    rw [Below.heap_setCell _ _ _ _ (fun e => hj e), Below.heap_setCell _ _ _ _ (fun e => hj e), Below.heap_setCell _ _ _ _ (fun e => hj e), Below.heap_setCell _ _ _ _ (fun e => hj e), Below.heap_setCell _ _ _ _ (fun e => hj e), Below.heap_setCell _ _ _ _ (fun e => hj e), Below.heap_setCell _ _ _ _ (fun e => hj e), Below.heap_setCell _ _ _ _ (fun e => hj e)]
  have HO : Hid _ := hoth
  clear X1 X2 X3 X4 X5 X6 X7 X8 hoth
  go_simp
  refine hK _ _ (qc_of ((HO.out w4.heap.size (by omega)).trans HQ6.out)) ?_
  refine wpAnyH_done (by kernel_rfl) ?_ _
  go_wp2_with fail
  refine bodyPost_ret (results_page rfl _ _ w.heap.size _ _ _ _ _ _ _ _ rfl HX.out) rfl ⟨ro, ca, rfl, ?_, (HO.out g (by omega)).trans HE.out.2.1, ?_⟩
  · exact own_moreF (by omega) HE.out.1 fun b h1 h2 => HO.out b (by omega)
  · have hb := HE.out.2.2
    exact ⟨by simp only [st_os]; exact hb.os, by simp only [st_tape]; exact hb.tape, by simp only [st_out]; exact hb.output, by simp only [st_size]; exact hb.size, fun j hj hn => (HO.out j (by omega)).trans (hb.block j hj hn)⟩
end Go.Proofs.Ytljponlfjombaaa.Rw
/- A reader: pages. -/
namespace Go.Proofs.Ytljponlfjombaaa.Rw
open Go.RowKit Go.Lib Go.Shelf
open Go.Proofs.Ytljponlfjombaaa.Rc Go.Proofs.Ytljponlfjombaaa.Rq
/-- What a page is that was read: its kind, its lists. -/
def PgRead (st : RS) (base : Nat) (q : Pg) (w : World) : Prop :=
  (numS st 1 = 1 ∧ ∃ ro ca, q = ⟨1, 0, 0, 0, ro, (lfL (aftS st 1)).1.length, ca, none, 0, 0, (lfN (aftS st 1)).p, (lfN (aftS st 1)).t⟩ ∧ w.ownsRow base 47 4 (.slice ro (lfL (aftS st 1)).1.length ca) (lfL (aftS st 1)).1.length ((lfL (aftS st 1)).1.flatMap rc)) ∨
  (numS st 1 = 2 ∧ ∃ ro ca, q = ⟨2, inX (aftS st 1), inY (aftS st 1), (inC (aftS st 1) : Int), none, 0, 0, ro, (inL (aftS st 1)).1.length, ca, 0, ⟨#[]⟩⟩ ∧ w.ownsRow base 28 2 (.slice ro (inL (aftS st 1)).1.length ca) (inL (aftS st 1)).1.length ((inL (aftS st 1)).1.flatMap fc)) ∨
  (numS st 1 ≠ 1 ∧ numS st 1 ≠ 2 ∧ q = ⟨0, 0, 0, 0, none, 0, 0, none, 0, 0, 0, ⟨#[]⟩⟩)
def pgE (st : RS) : RS := if numS st 1 = 1 then (lfL (aftS st 1)).2 else if numS st 1 = 2 then (inL (aftS st 1)).2 else aftS st 1
set_option maxRecDepth 100000 in
set_option maxHeartbeats 3000000 in
theorem page_any (g : Nat) (st : RS) (w : World) (h : RdS g st w) :
    Calls Try.prog 30 #[.pointer (some ⟨g, 0, none⟩)] w fun e w' => ∃ q, e = .returned (gv q) ∧ PgRead st w.heap.size q w' ∧ RdS g (pgE st) w' ∧ Bo g w w' := by
  have HN1 : Hid _ := number_any g st 1 (by omega)
  have HLF : Hid _ := leaf_any g (aftS st 1)
  have HIN : Hid _ := inner_any g (aftS st 1)
  have lg : g < w.heap.size := (Array.getElem?_eq_some_iff.1 h).1
  have H0 : Hid (RdS g st w) := h
  clear h
  unfold pgE PgRead
  obtain ⟨n, hn⟩ : ∃ n, numS st 1 = n := ⟨_, rfl⟩
  rw [hn] at HN1 ⊢
  clear hn
  obtain ⟨p, hp⟩ : ∃ p, (lfN (aftS st 1)).p = p := ⟨_, rfl⟩
  obtain ⟨t, ht⟩ : ∃ t, (lfN (aftS st 1)).t = t := ⟨_, rfl⟩
  rw [hp, ht] at HLF ⊢
  obtain ⟨x, hx⟩ : ∃ x, inX (aftS st 1) = x := ⟨_, rfl⟩
  obtain ⟨y, hy⟩ : ∃ y, inY (aftS st 1) = y := ⟨_, rfl⟩
  obtain ⟨c, hc⟩ : ∃ c, inC (aftS st 1) = c := ⟨_, rfl⟩
  rw [hx, hy, hc] at HIN ⊢
  obtain ⟨LL, hLL⟩ : ∃ LL, lfL (aftS st 1) = LL := ⟨_, rfl⟩
  rw [hLL] at HLF ⊢
  obtain ⟨LI, hLI⟩ : ∃ LI, inL (aftS st 1) = LI := ⟨_, rfl⟩
  rw [hLI] at HIN ⊢
  obtain ⟨M, hM⟩ : ∃ M, LL.1.length = M := ⟨_, rfl⟩
  rw [hM] at HLF ⊢
  obtain ⟨MI, hMI⟩ : ∃ MI, LI.1.length = MI := ⟨_, rfl⟩
  rw [hMI] at HIN ⊢
  clear hp ht hx hy hc hLL hLI hM hMI
  have hbn := below_new w (.cells #[.int .i64 0, .int .u32 0, .int .u32 0, .int .i64 0, .slice none 0 0, .slice none 0 0, .int .u32 0, .string ⟨#[]⟩] 30)
  have HG0 : Hid ((w.alloc (.cells #[.int .i64 0, .int .u32 0, .int .u32 0, .int .i64 0, .slice none 0 0, .slice none 0 0, .int .u32 0, .string ⟨#[]⟩] 30)).heap[w.heap.size]? = some (.cells #[.int .i64 0, .int .u32 0, .int .u32 0, .int .i64 0, .slice none 0 0, .slice none 0 0, .int .u32 0, .string ⟨#[]⟩] 30 (0, 0))) := heap_alloc_new w _
  have HR0 : Hid (RdS g st (w.alloc (.cells #[.int .i64 0, .int .u32 0, .int .u32 0, .int .i64 0, .slice none 0 0, .slice none 0 0, .int .u32 0, .string ⟨#[]⟩] 30))) := (hbn.block _ lg).trans H0.out
  have HB0 : Hid (Bo g w (w.alloc (.cells #[.int .i64 0, .int .u32 0, .int .u32 0, .int .i64 0, .slice none 0 0, .slice none 0 0, .int .u32 0, .string ⟨#[]⟩] 30))) := But.of_below hbn
  clear H0 hbn
  obtain ⟨W0, hW0⟩ : ∃ W0, w.alloc (.cells #[.int .i64 0, .int .u32 0, .int .u32 0, .int .i64 0, .slice none 0 0, .slice none 0 0, .int .u32 0, .string ⟨#[]⟩] 30) = W0 := ⟨_, rfl⟩
  have HW0 : Hid _ := hW0
  rw [hW0] at HG0 HR0 HB0
  clear hW0
  have hng : w.heap.size ≠ g := by omega
  go_enter Try.func30, Try.ntmps30
  go_wp2_with fail
  rw [HW0.out]
  clear HW0
  refine (HN1.out W0 HR0.out).mono ?_
  rintro e w1 ⟨rfl, r1, b1⟩
  have HR1 : Hid (RdS g (aftS st 1) w1) := r1
  have HB1 : Hid (Bo g w w1) := HB0.out.trans b1
  have HG1 : Hid (w1.heap[w.heap.size]? = some (.cells #[.int .i64 0, .int .u32 0, .int .u32 0, .int .i64 0, .slice none 0 0, .slice none 0 0, .int .u32 0, .string ⟨#[]⟩] 30 (0, 0))) := (b1.block _ (Array.getElem?_eq_some_iff.1 HG0.out).1 hng).trans HG0.out
  have l1 : w.heap.size < w1.heap.size := (Array.getElem?_eq_some_iff.1 HG1.out).1
  clear r1 b1 HR0 HB0 HG0
  by_cases h1 : n = 1
  · subst h1
    go_wp2_with fail
    refine (HLF.out w1 HR1.out).mono ?_
    rintro e w6 ⟨ro, ca, rfl, o6, r6, b6⟩
    simp only [gv]
    have hg6 := (b6.block _ l1 hng).trans HG1.out
    have HE : Hid (Bo g w w6) := HB1.out.trans b6
    have HOW : Hid (w6.ownsRow w1.heap.size 47 4 (.slice ro M ca) M (LL.1.flatMap rc)) := o6
    have HRW : Hid (RdS g LL.2 w6) := r6
    clear o6 r6 b6 HR1 HB1 HG1
    have l6 : w.heap.size < w6.heap.size := (Array.getElem?_eq_some_iff.1 hg6).1
    have fz : ∀ k, w6.frozen? ⟨w.heap.size, k, none⟩ = false := fun k => frozen_of_row w6 _ k _ _ hg6
    have f0 := fz 0
    have f1 := fz 1
    have f2 := fz 2
    have f3 := fz 3
    have f4 := fz 4
    have f5 := fz 5
    have f6 := fz 6
    have f7 := fz 7
    obtain ⟨z0, c0⟩ : ∃ z, w6.cell? ⟨w.heap.size, 0, none⟩ = some z := ⟨.int .i64 0, by rw [cell_of_row _ _ _ _ _ _ hg6]; rfl⟩
    obtain ⟨z1, c1⟩ : ∃ z, w6.cell? ⟨w.heap.size, 1, none⟩ = some z := ⟨.int .u32 0, by rw [cell_of_row _ _ _ _ _ _ hg6]; rfl⟩
    obtain ⟨z2, c2⟩ : ∃ z, w6.cell? ⟨w.heap.size, 2, none⟩ = some z := ⟨.int .u32 0, by rw [cell_of_row _ _ _ _ _ _ hg6]; rfl⟩
    obtain ⟨z3, c3⟩ : ∃ z, w6.cell? ⟨w.heap.size, 3, none⟩ = some z := ⟨.int .i64 0, by rw [cell_of_row _ _ _ _ _ _ hg6]; rfl⟩
    obtain ⟨z4, c4⟩ : ∃ z, w6.cell? ⟨w.heap.size, 4, none⟩ = some z := ⟨.slice none 0 0, by rw [cell_of_row _ _ _ _ _ _ hg6]; rfl⟩
    obtain ⟨z5, c5⟩ : ∃ z, w6.cell? ⟨w.heap.size, 5, none⟩ = some z := ⟨.slice none 0 0, by rw [cell_of_row _ _ _ _ _ _ hg6]; rfl⟩
    obtain ⟨z6, c6⟩ : ∃ z, w6.cell? ⟨w.heap.size, 6, none⟩ = some z := ⟨.int .u32 0, by rw [cell_of_row _ _ _ _ _ _ hg6]; rfl⟩
    obtain ⟨z7, c7⟩ : ∃ z, w6.cell? ⟨w.heap.size, 7, none⟩ = some z := ⟨.string ⟨#[]⟩, by rw [cell_of_row _ _ _ _ _ _ hg6]; rfl⟩
    have X1 := heap_setCell_same w6 w.heap.size 0 _ _ (.int .i64 1) hg6
    have X2 := heap_setCell_same _ w.heap.size 1 _ _ (.int .u32 0) X1
    have X3 := heap_setCell_same _ w.heap.size 2 _ _ (.int .u32 0) X2
    have X4 := heap_setCell_same _ w.heap.size 3 _ _ (.int .i64 0) X3
    have X5 := heap_setCell_same _ w.heap.size 4 _ _ (.slice ro M ca) X4
    have X6 := heap_setCell_same _ w.heap.size 5 _ _ (.slice none 0 0) X5
    have X7 := heap_setCell_same _ w.heap.size 6 _ _ (.int .u32 (p : Int)) X6
    have X8 := heap_setCell_same _ w.heap.size 7 _ _ (.string t) X7
    simp only [List.setIfInBounds_toArray, List.set_cons_zero, List.set_cons_succ] at X8
    have HX : Hid _ := X8
    have hoth : ∀ j, j ≠ w.heap.size → (((((((((w6.setCell ⟨w.heap.size, 0, none⟩ (.int .i64 1)).setCell ⟨w.heap.size, 1, none⟩ (.int .u32 0)).setCell ⟨w.heap.size, 2, none⟩ (.int .u32 0)).setCell ⟨w.heap.size, 3, none⟩ (.int .i64 0)).setCell ⟨w.heap.size, 4, none⟩ (.slice ro M ca)).setCell ⟨w.heap.size, 5, none⟩ (.slice none 0 0)).setCell ⟨w.heap.size, 6, none⟩ (.int .u32 (p : Int))).setCell ⟨w.heap.size, 7, none⟩ (.string t))).heap[j]? = w6.heap[j]? := fun j hj => by
      rw [Below.heap_setCell _ _ _ _ (fun e => hj e), Below.heap_setCell _ _ _ _ (fun e => hj e), Below.heap_setCell _ _ _ _ (fun e => hj e), Below.heap_setCell _ _ _ _ (fun e => hj e), Below.heap_setCell _ _ _ _ (fun e => hj e), Below.heap_setCell _ _ _ _ (fun e => hj e), Below.heap_setCell _ _ _ _ (fun e => hj e), Below.heap_setCell _ _ _ _ (fun e => hj e)]
    have HO : Hid _ := hoth
    clear X1 X2 X3 X4 X5 X6 X7 X8 hoth hg6 fz
    go_wp2_with fail
    refine bodyPost_ret (results_page rfl _ _ w.heap.size _ _ _ _ _ _ _ _ rfl HX.out) rfl ⟨⟨1, 0, 0, 0, ro, M, ca, none, 0, 0, p, t⟩, rfl, ?_, ?_, ?_⟩
    · exact ⟨ro, ca, rfl, own_moreR (by omega) HOW.out fun b h1 h2 => HO.out b (by omega)⟩
    · exact (HO.out g (by omega)).trans HRW.out
    · have hb := HE.out
      exact ⟨by simp only [st_os]; exact hb.os, by simp only [st_tape]; exact hb.tape, by simp only [st_out]; exact hb.output, by simp only [st_size]; exact hb.size, fun j hj hn => (HO.out j (by omega)).trans (hb.block j hj hn)⟩
  · by_cases h2 : n = 2
    · subst h2
      go_wp2_with fail
      refine (HIN.out w1 HR1.out).mono ?_
      rintro e w6 ⟨ro, ca, rfl, o6, r6, b6⟩
      simp only [gv]
      have hg6 := (b6.block _ l1 hng).trans HG1.out
      have HE : Hid (Bo g w w6) := HB1.out.trans b6
      have HOW : Hid (w6.ownsRow w1.heap.size 28 2 (.slice ro MI ca) MI (LI.1.flatMap fc)) := o6
      have HRW : Hid (RdS g LI.2 w6) := r6
      clear o6 r6 b6 HR1 HB1 HG1
      have l6 : w.heap.size < w6.heap.size := (Array.getElem?_eq_some_iff.1 hg6).1
      have fz : ∀ k, w6.frozen? ⟨w.heap.size, k, none⟩ = false := fun k => frozen_of_row w6 _ k _ _ hg6
      have f0 := fz 0
      have f1 := fz 1
      have f2 := fz 2
      have f3 := fz 3
      have f4 := fz 4
      have f5 := fz 5
      have f6 := fz 6
      have f7 := fz 7
      obtain ⟨z0, c0⟩ : ∃ z, w6.cell? ⟨w.heap.size, 0, none⟩ = some z := ⟨.int .i64 0, by rw [cell_of_row _ _ _ _ _ _ hg6]; rfl⟩
      obtain ⟨z1, c1⟩ : ∃ z, w6.cell? ⟨w.heap.size, 1, none⟩ = some z := ⟨.int .u32 0, by rw [cell_of_row _ _ _ _ _ _ hg6]; rfl⟩
      obtain ⟨z2, c2⟩ : ∃ z, w6.cell? ⟨w.heap.size, 2, none⟩ = some z := ⟨.int .u32 0, by rw [cell_of_row _ _ _ _ _ _ hg6]; rfl⟩
      obtain ⟨z3, c3⟩ : ∃ z, w6.cell? ⟨w.heap.size, 3, none⟩ = some z := ⟨.int .i64 0, by rw [cell_of_row _ _ _ _ _ _ hg6]; rfl⟩
      obtain ⟨z4, c4⟩ : ∃ z, w6.cell? ⟨w.heap.size, 4, none⟩ = some z := ⟨.slice none 0 0, by rw [cell_of_row _ _ _ _ _ _ hg6]; rfl⟩
      obtain ⟨z5, c5⟩ : ∃ z, w6.cell? ⟨w.heap.size, 5, none⟩ = some z := ⟨.slice none 0 0, by rw [cell_of_row _ _ _ _ _ _ hg6]; rfl⟩
      obtain ⟨z6, c6⟩ : ∃ z, w6.cell? ⟨w.heap.size, 6, none⟩ = some z := ⟨.int .u32 0, by rw [cell_of_row _ _ _ _ _ _ hg6]; rfl⟩
      obtain ⟨z7, c7⟩ : ∃ z, w6.cell? ⟨w.heap.size, 7, none⟩ = some z := ⟨.string ⟨#[]⟩, by rw [cell_of_row _ _ _ _ _ _ hg6]; rfl⟩
      have X1 := heap_setCell_same w6 w.heap.size 0 _ _ (.int .i64 2) hg6
      have X2 := heap_setCell_same _ w.heap.size 1 _ _ (.int .u32 (x : Int)) X1
      have X3 := heap_setCell_same _ w.heap.size 2 _ _ (.int .u32 (y : Int)) X2
      have X4 := heap_setCell_same _ w.heap.size 3 _ _ (.int .i64 (c : Int)) X3
      have X5 := heap_setCell_same _ w.heap.size 4 _ _ (.slice none 0 0) X4
      have X6 := heap_setCell_same _ w.heap.size 5 _ _ (.slice ro MI ca) X5
      have X7 := heap_setCell_same _ w.heap.size 6 _ _ (.int .u32 0) X6
      have X8 := heap_setCell_same _ w.heap.size 7 _ _ (.string ⟨#[]⟩) X7
      simp only [List.setIfInBounds_toArray, List.set_cons_zero, List.set_cons_succ] at X8
      have HX : Hid _ := X8
      have hoth : ∀ j, j ≠ w.heap.size → (((((((((w6.setCell ⟨w.heap.size, 0, none⟩ (.int .i64 2)).setCell ⟨w.heap.size, 1, none⟩ (.int .u32 (x : Int))).setCell ⟨w.heap.size, 2, none⟩ (.int .u32 (y : Int))).setCell ⟨w.heap.size, 3, none⟩ (.int .i64 (c : Int))).setCell ⟨w.heap.size, 4, none⟩ (.slice none 0 0)).setCell ⟨w.heap.size, 5, none⟩ (.slice ro MI ca)).setCell ⟨w.heap.size, 6, none⟩ (.int .u32 0)).setCell ⟨w.heap.size, 7, none⟩ (.string ⟨#[]⟩))).heap[j]? = w6.heap[j]? := fun j hj => by
        rw [Below.heap_setCell _ _ _ _ (fun e => hj e), Below.heap_setCell _ _ _ _ (fun e => hj e), Below.heap_setCell _ _ _ _ (fun e => hj e), Below.heap_setCell _ _ _ _ (fun e => hj e), Below.heap_setCell _ _ _ _ (fun e => hj e), Below.heap_setCell _ _ _ _ (fun e => hj e), Below.heap_setCell _ _ _ _ (fun e => hj e), Below.heap_setCell _ _ _ _ (fun e => hj e)]
      have HO : Hid _ := hoth
      clear X1 X2 X3 X4 X5 X6 X7 X8 hoth hg6 fz
      go_wp2_with fail
      refine bodyPost_ret (results_page rfl _ _ w.heap.size _ _ _ _ _ _ _ _ rfl HX.out) rfl ⟨⟨2, x, y, (c : Int), none, 0, 0, ro, MI, ca, 0, ⟨#[]⟩⟩, rfl, ?_, ?_, ?_⟩
      · exact ⟨ro, ca, rfl, own_moreF (by omega) HOW.out fun b h1 h2 => HO.out b (by omega)⟩
      · exact (HO.out g (by omega)).trans HRW.out
      · have hb := HE.out
        exact ⟨by simp only [st_os]; exact hb.os, by simp only [st_tape]; exact hb.tape, by simp only [st_out]; exact hb.output, by simp only [st_size]; exact hb.size, fun j hj hn => (HO.out j (by omega)).trans (hb.block j hj hn)⟩
    · clear HLF HIN HN1
      have g1 : ¬ (n : Int) = 1 := by omega
      have g2 : ¬ (n : Int) = 2 := by omega
      have HS : Hid (w1.setRow w.heap.size #[.int .i64 0, .int .u32 0, .int .u32 0, .int .i64 0, .slice none 0 0, .slice none 0 0, .int .u32 0, .string ⟨#[]⟩] = w1) := setRow_self w1 _ _ _ _ HG1.out
      have hi : (Try.prog.info? 30).map (·.size) = some 8 := by kernel_rfl
      have HI : Hid _ := hi
      clear hi
      go_wp2_with (refine wpList_store_row rfl 30 (.tmp 2) (.tmp 13) rfl w.heap.size #[.int .i64 0, .int .u32 0, .int .u32 0, .int .i64 0, .slice none 0 0, .slice none 0 0, .int .u32 0, .string ⟨#[]⟩] (by rfl) (by rfl) 30 #[.int .i64 0, .int .u32 0, .int .u32 0, .int .i64 0, .slice none 0 0, .slice none 0 0, .int .u32 0, .string ⟨#[]⟩] HG1.out HI.out (by rfl) (by kernel_rfl) ?_; rw [HS.out])
      refine bodyPost_ret (results_page rfl _ _ w.heap.size _ _ _ _ _ _ _ _ rfl HG1.out) rfl ⟨⟨0, 0, 0, 0, none, 0, 0, none, 0, 0, 0, ⟨#[]⟩⟩, rfl, ?_, ?_, ?_⟩
      · rfl
      · exact HR1.out
      · exact HB1.out
end Go.Proofs.Ytljponlfjombaaa.Rw
