/- The reference: leaves as they are read. -/
import Derived.Test.YtljponlfjombaaaQNT
import Derived.Test.YtljponlfjombaaaPNV
import Derived.Test.YtljponlfjombaaaPNF
import Derived.Test.YtljponlfjombaaaPNG
namespace Go.Proofs.Ytljponlfjombaaa.Rw
open Go.RowKit Go.Lib Go.Shelf
open Go.Proofs.Ytljponlfjombaaa.Rc Go.Proofs.Ytljponlfjombaaa.Rq
/-- The state of the loop: the page that grows, its rows, the place of the answer. -/
structure LJ (w : World) (p : Nat) (t : ByteArray) (l : List Rw) (v : Value) (W : World) : Prop where
  res : W.heap[w.heap.size]? = some (.cells #[.int .i64 0, .int .u32 0, .int .u32 0, .int .i64 0, .slice none 0 0, .slice none 0 0, .int .u32 0, .string ⟨#[]⟩] 30 (0, 0))
  pag : W.heap[w.heap.size + 1]? = some (.cells #[.int .i64 1, .int .u32 0, .int .u32 0, .int .i64 0, v, .slice none 0 0, .int .u32 (p : Int), .string t] 30 (0, 0))
  own : W.ownsRow (w.heap.size + 2) 47 4 v l.length (l.flatMap rc)
  bel : Below w.heap.size w W
set_option maxRecDepth 100000 in
theorem LJ.below {w W W' : World} {p : Nat} {t : ByteArray} {l : List Rw} {v : Value} (h : LJ w p t l v W) (hb : Below W.heap.size W W') : LJ w p t l v W' := by
  have l1 := (Array.getElem?_eq_some_iff.1 h.res).1
  have l2 := (Array.getElem?_eq_some_iff.1 h.pag).1
  exact ⟨(hb.block _ l1).trans h.res, (hb.block _ l2).trans h.pag, own_sameR h.own fun b _ h2 => hb.block b h2, h.bel.trans (hb.mono h.bel.size)⟩
set_option maxRecDepth 100000 in
theorem lf_end {w W : World} {p : Nat} {t : ByteArray} {l : List Rw} {o : Option Addr} {c : Nat} (h : LJ w p t l (.slice o l.length c) W) (cs : Array Value) : PAt (W.setRow w.heap.size cs) ⟨1, 0, 0, 0, o, l.length, c, none, 0, 0, p, t⟩ ⟨1, 0, 0, 0, l, [], p, t⟩ ∧ Lie w ⟨1, 0, 0, 0, o, l.length, c, none, 0, 0, p, t⟩ := by
  refine ⟨⟨rfl, rfl, rfl, rfl, rfl, rfl, ⟨Nat.zero_lt_succ _, Nat.zero_lt_succ _, rfl, ?_, rfl, Sl.nil _ _⟩⟩, fun b off e => ?_, fun b off e => by simp at e⟩
  rotate_left
  · simp only at e
    have := own_baseR h.own (b := b) (by subst e; rfl)
    omega
  obtain ⟨o', c', e, hs⟩ := sl_of_own h.own
  cases e
  refine Sl.same hs (by simp) fun b off e _ => setRow_other _ _ _ _ ?_
  have := own_baseR h.own (b := b) (by subst e; rfl)
  omega
set_option maxRecDepth 100000 in
theorem rowsA_small (s : ByteArray) : ∀ i, (rowsA s i).2 ≤ 38 + i * 272
  | 0 => Nat.le_refl _
  | i + 1 => by have := rowsA_small s i; have := bt_lt s ((rowsA s i).2 + 16); simp only [rowsA]; omega
/-- What the second test of the ref reads. -/
def P67 (g p : Nat) (t : ByteArray) (w : World) : Prop := w.cell? ⟨g, 6, none⟩ = some (.int .u32 (p : Int)) ∧ w.cell? ⟨g, 7, none⟩ = some (.string t)
set_option maxRecDepth 100000 in
set_option maxHeartbeats 40000000 in
theorem sleaf_any (s : ByteArray) (h0 : 0 < s.size) (hb : bt s 0 = 1) (w : World) :
    Calls Try.prog 31 #[.string s] w fun e w' => PRes s w e w' := by
  have h1 := below_new w (.cells #[.int .i64 0, .int .u32 0, .int .u32 0, .int .i64 0, .slice none 0 0, .slice none 0 0, .int .u32 0, .string ⟨#[]⟩] 30)
  have h2 := below_new (w.alloc (.cells #[.int .i64 0, .int .u32 0, .int .u32 0, .int .i64 0, .slice none 0 0, .slice none 0 0, .int .u32 0, .string ⟨#[]⟩] 30)) (.cells #[.int .i64 1, .int .u32 0, .int .u32 0, .int .i64 0, .slice none 0 0, .slice none 0 0, .int .u32 0, .string ⟨#[]⟩] 30)
  have HJ0 : Hid (LJ w 0 ⟨#[]⟩ [] (.slice none 0 0) ((w.alloc (.cells #[.int .i64 0, .int .u32 0, .int .u32 0, .int .i64 0, .slice none 0 0, .slice none 0 0, .int .u32 0, .string ⟨#[]⟩] 30)).alloc (.cells #[.int .i64 1, .int .u32 0, .int .u32 0, .int .i64 0, .slice none 0 0, .slice none 0 0, .int .u32 0, .string ⟨#[]⟩] 30))) := by
    refine (?_ : LJ w 0 ⟨#[]⟩ [] (.slice none 0 0) ((w.alloc (.cells #[.int .i64 0, .int .u32 0, .int .u32 0, .int .i64 0, .slice none 0 0, .slice none 0 0, .int .u32 0, .string ⟨#[]⟩] 30)).alloc (.cells #[.int .i64 1, .int .u32 0, .int .u32 0, .int .i64 0, .slice none 0 0, .slice none 0 0, .int .u32 0, .string ⟨#[]⟩] 30)))
    refine ⟨(h2.block _ (by simp)).trans (heap_alloc_new w _), ?_, World.ownsRow_nil _ _ _ _, h1.trans (h2.mono h1.size)⟩
    have := heap_alloc_new (w.alloc (.cells #[.int .i64 0, .int .u32 0, .int .u32 0, .int .i64 0, .slice none 0 0, .slice none 0 0, .int .u32 0, .string ⟨#[]⟩] 30)) (.cells #[.int .i64 1, .int .u32 0, .int .u32 0, .int .i64 0, .slice none 0 0, .slice none 0 0, .int .u32 0, .string ⟨#[]⟩] 30)
    simpa using this
  obtain ⟨W0, hW0⟩ : ∃ W0, (w.alloc (.cells #[.int .i64 0, .int .u32 0, .int .u32 0, .int .i64 0, .slice none 0 0, .slice none 0 0, .int .u32 0, .string ⟨#[]⟩] 30)).alloc (.cells #[.int .i64 1, .int .u32 0, .int .u32 0, .int .i64 0, .slice none 0 0, .slice none 0 0, .int .u32 0, .string ⟨#[]⟩] 30) = W0 := ⟨_, rfl⟩
  rw [hW0] at HJ0
  have HW0 : Hid _ := hW0
  clear h1 h2 hW0
  have hi : (Try.prog.info? 30).map (·.size) = some 8 := by kernel_rfl
  have HI : Hid _ := hi
  clear hi
  have HG0 : Hid _ := HJ0.out.res
  obtain ⟨p0, p1, p2, p3, p4, p5, p6, p7⟩ := (pg_cells (q := ⟨1, 0, 0, 0, none, 0, 0, none, 0, 0, 0, ⟨#[]⟩⟩) HJ0.out.pag).1
  simp only at p0 p1 p2 p3 p4 p5 p6 p7
  by_cases hlt : s.size < 38
  · have HR : Hid (Res s false ⟨1, 0, 0, 0, [], [], 0, ⟨#[]⟩⟩) := res_no (leaf_small h0 hb hlt)
    have q1 : (s.size : Int) < 38 := by omega
    have HF : Hid _ := lf_end HJ0.out #[.int .i64 1, .int .u32 0, .int .u32 0, .int .i64 0, .slice none 0 0, .slice none 0 0, .int .u32 0, .string ⟨#[]⟩]
    have HE : Hid (Below w.heap.size w (W0.setRow w.heap.size #[.int .i64 1, .int .u32 0, .int .u32 0, .int .i64 0, .slice none 0 0, .slice none 0 0, .int .u32 0, .string ⟨#[]⟩])) := below_row HJ0.out.bel (Nat.le_refl _) _
    clear hlt h0 hb
    go_enter Try.func31, Try.ntmps31
    go_wp2_with (first | (rw [HW0.out]; clear HW0) | (refine wpList_store_row rfl 30 (.tmp 2) (.tmp 12) rfl w.heap.size #[.int .i64 1, .int .u32 0, .int .u32 0, .int .i64 0, .slice none 0 0, .slice none 0 0, .int .u32 0, .string ⟨#[]⟩] (by rfl) (by rfl) 30 #[.int .i64 0, .int .u32 0, .int .u32 0, .int .i64 0, .slice none 0 0, .slice none 0 0, .int .u32 0, .string ⟨#[]⟩] HG0.out HI.out (by rfl) (by kernel_rfl) ?_))
    refine bodyPost_ret (results_page2 rfl _ _ w.heap.size _ _ _ _ _ _ _ _ rfl rfl (setRow_heap _ _ _ _ _ _ HG0.out)) rfl ?_
    exact ⟨_, _, false, rfl, HF.out, HR.out, HE.out⟩
  · have q1 : ¬ (s.size : Int) < 38 := by omega
    have HHALT : Hid _ := fun i => @leaf_halt s h0 hb (by omega) i
    have HRES : Hid _ := leaf_res h0 hb (by omega)
    have hidx : ∀ w', (Instr.index 9 (.string s) (.int .i64 1)).run Try.prog w' = .ok (.int .u8 (bt s 1 : Int)) w' := fun w' => idx_s s 1 (by omega) w'
    have hn := bt_lt s 1
    have HGT : Hid _ := sget_any
    have g1 : Hid _ := HGT.out (s.extract 2 6) (by rw [ByteArray.size_extract]; omega)
    have sz1 : (s.extract 2 6).size = 4 := by rw [ByteArray.size_extract]; omega
    rw [sz1] at g1
    have vx := valB_lt (s.extract 2 6) 4
    simp only [Nat.reduceMul, Nat.reducePow] at vx
    have hkd : kidA s 2 = ⟨valB (s.extract 2 6) 4, s.extract 6 38⟩ := rfl
    have hnx : nxA s = if isNo (valB (s.extract 2 6) 4) (s.extract 6 38) = true then ⟨0, ⟨#[]⟩⟩ else ⟨valB (s.extract 2 6) 4, s.extract 6 38⟩ := by unfold nxA; rw [hkd]
    have q2 : (38 : Int) ≤ (s.size : Int) := by omega
    have q3 : (6 : Int) ≤ (s.size : Int) := by omega
    generalize hp : valB (s.extract 2 6) 4 = p at *
    have cx : IntKind.u32.wrap (p : Int) = (p : Int) := IntWalk.u32_in _ ⟨by omega, by omega⟩
    obtain ⟨N, hN⟩ : ∃ N, bt s 1 = N := ⟨_, rfl⟩
    rw [hN] at hidx hn HHALT HRES
    have HNX : Hid _ := hnx
    have HSZ : Hid (38 ≤ s.size) := by refine (?_ : 38 ≤ s.size); omega
    clear hlt h0 hb sz1 hkd hnx hp hN
    go_enter Try.func31, Try.ntmps31
    go_wp2_with (first | (rw [HW0.out]; clear HW0))
    clear q1
    refine wp_region_any (by kernel_rfl) ?_
    refine wpAny_take (i := 0) (v := ?_) rfl (by kernel_rfl) (by kernel_rfl) (by kernel_rfl) (fun _ _ _ h => h) (Or.inl ⟨by kernel_rfl, ?_⟩) ?_
    rotate_left
    · intro w
      go_simp
      try with_reducible rfl
    conv in (Act.put _ _ _) => simp only [List.getElem_toArray, List.getElem_cons_succ, List.getElem_cons_zero, Act.put, List.setIfInBounds_toArray, List.set_cons_succ, List.set_cons_zero]
    refine wpAny_take (i := 1) (v := ?_) rfl (by kernel_rfl) (by kernel_rfl) (by kernel_rfl) (fun _ _ _ h => h) (Or.inl ⟨by kernel_rfl, ?_⟩) ?_
    rotate_left
    · intro w
      go_simp
      try with_reducible rfl
    conv in (Act.put _ _ _) => simp only [List.getElem_toArray, List.getElem_cons_succ, List.getElem_cons_zero, Act.put, List.setIfInBounds_toArray, List.set_cons_succ, List.set_cons_zero]
    refine wpAny_take (i := 4) (v := ?_) rfl (by kernel_rfl) (by kernel_rfl) (by kernel_rfl) (fun _ _ _ h => h) (Or.inl ⟨by kernel_rfl, ?_⟩) ?_
    rotate_left
    · intro w
      go_simp
      try with_reducible rfl
    conv in (Act.put _ _ _) => simp only [List.getElem_toArray, List.getElem_cons_succ, List.getElem_cons_zero, Act.put, List.setIfInBounds_toArray, List.set_cons_succ, List.set_cons_zero]
    refine wpAny_take (i := 5) (v := ?_) rfl (by kernel_rfl) (by kernel_rfl) (by kernel_rfl) (fun _ _ _ h => h) (Or.inl ⟨by kernel_rfl, ?_⟩) ?_
    rotate_left
    · intro w
      go_simp
      try with_reducible rfl
    conv in (Act.put _ _ _) => simp only [List.getElem_toArray, List.getElem_cons_succ, List.getElem_cons_zero, Act.put, List.setIfInBounds_toArray, List.set_cons_succ, List.set_cons_zero]
    refine wpAny_ready (rs := [2]) (by kernel_rfl) (by simp) ?_
    refine (AllReady.cons rfl (fun K hK => ?_) AllReady.nil)
    go_simp
    refine (g1.out W0.drew).mono ?_
    rintro e w3 ⟨rfl, b3⟩
    have hz3 : Below W0.heap.size W0 w3 := (Below.refl _ W0).drew.trans (b3.mono (Nat.le_refl _))
    have HJ3 : Hid _ := HJ0.out.below hz3
    have l3 : w.heap.size + 1 < w3.heap.size := (Array.getElem?_eq_some_iff.1 HJ3.out.pag).1
    have hg3 := HJ3.out.pag
    have fz : ∀ k, w3.frozen? ⟨w.heap.size + 1, k, none⟩ = false := fun k => frozen_of_row w3 _ k _ _ hg3
    have f6 := fz 6
    have f7 := fz 7
    obtain ⟨d0, d1, d2, d3, d4, d5, d6, d7⟩ := (pg_cells (q := ⟨1, 0, 0, 0, none, 0, 0, none, 0, 0, 0, ⟨#[]⟩⟩) hg3).1
    simp only at d0 d1 d2 d3 d4 d5 d6 d7
    obtain ⟨t, ht⟩ : ∃ t, s.extract 6 38 = t := ⟨_, rfl⟩
    rw [ht] at HNX
    have X1 := heap_setCell_same w3 (w.heap.size + 1) 6 _ _ (.int .u32 (p : Int)) hg3
    have X2 := heap_setCell_same _ (w.heap.size + 1) 7 _ _ (.string t) X1
    simp only [List.setIfInBounds_toArray, List.set_cons_zero, List.set_cons_succ] at X2
    have hoth : ∀ j, j ≠ w.heap.size + 1 → (((w3.setCell ⟨w.heap.size + 1, 6, none⟩ (.int .u32 (p : Int))).setCell ⟨w.heap.size + 1, 7, none⟩ (.string t))).heap[j]? = w3.heap[j]? := fun j hj => by
      rw [Below.heap_setCell _ _ _ _ (fun e => hj e), Below.heap_setCell _ _ _ _ (fun e => hj e)]
    have HJ4 : Hid (LJ w p t [] (.slice none 0 0) ((w3.setCell ⟨w.heap.size + 1, 6, none⟩ (.int .u32 (p : Int))).setCell ⟨w.heap.size + 1, 7, none⟩ (.string t))) := by
      refine (?_ : LJ w p t [] (.slice none 0 0) ((w3.setCell ⟨w.heap.size + 1, 6, none⟩ (.int .u32 (p : Int))).setCell ⟨w.heap.size + 1, 7, none⟩ (.string t)))
      refine ⟨(hoth _ (by omega)).trans HJ3.out.res, X2, World.ownsRow_nil _ _ _ _, ?_⟩
      have hb := HJ3.out.bel
      exact ⟨by simp only [st_os]; exact hb.os, by simp only [st_tape]; exact hb.tape, by simp only [st_out]; exact hb.output, by simp only [st_size]; exact hb.size, fun j hj => (hoth j (by omega)).trans (hb.block j hj)⟩
    clear hoth X1 X2 hg3 hz3 b3 fz p0 p1 p2 p3 p4 p5 p6 p7 HJ0 HG0 HJ3 g1
    refine hK _ _ ?_
    clear hK K
    refine wpAny_take (i := 3) (v := ?_) rfl (by kernel_rfl) (by kernel_rfl) (by kernel_rfl) (fun _ _ _ h => h) (Or.inl ⟨by kernel_rfl, ?_⟩) ?_
    rotate_left
    · intro w
      go_simp
      try with_reducible rfl
    conv in (Act.put _ _ _) => simp only [List.getElem_toArray, List.getElem_cons_succ, List.getElem_cons_zero, Act.put, List.setIfInBounds_toArray, List.set_cons_succ, List.set_cons_zero]
    refine wpAny_take (i := 6) (v := ?_) rfl (by kernel_rfl) (by kernel_rfl) (by kernel_rfl) (fun _ _ _ h => h) (Or.inl ⟨by kernel_rfl, ?_⟩) ?_
    rotate_left
    · intro w
      go_simp
      try with_reducible rfl
    conv in (Act.put _ _ _) => simp only [List.getElem_toArray, List.getElem_cons_succ, List.getElem_cons_zero, Act.put, List.setIfInBounds_toArray, List.set_cons_succ, List.set_cons_zero]
    refine wpAny_take (i := 7) (v := ?_) rfl (by kernel_rfl) (by kernel_rfl) (by kernel_rfl) (fun _ _ _ h => h) (Or.inl ⟨by kernel_rfl, ?_⟩) ?_
    rotate_left
    · intro w
      go_simp
      try with_reducible rfl
    conv in (Act.put _ _ _) => simp only [List.getElem_toArray, List.getElem_cons_succ, List.getElem_cons_zero, Act.put, List.setIfInBounds_toArray, List.set_cons_succ, List.set_cons_zero]
    rw [ht]
    refine wpAny_ready (rs := [8]) (by kernel_rfl) (by simp) ?_
    refine (AllReady.cons rfl (fun K hK => ?_) AllReady.nil)
    go_simp
    generalize ((w3.setCell ⟨w.heap.size + 1, 6, none⟩ (.int .u32 (p : Int))).setCell ⟨w.heap.size + 1, 7, none⟩ (.string t)) = W4 at *
    refine hK _ _ ?_
    clear hK K
    refine wpAny_done (by kernel_rfl) ?_ _
    have HT : Hid _ := ht
    clear d0 d1 d2 d3 d4 d5 d6 d7 f6 f7 ht q2 q3 cx l3
    go_wp2_with fail
    have S4 : Hid (∀ W, Below W4.heap.size W4 W → P67 (w.heap.size + 1) p t W) := fun W hW => by
      obtain ⟨-, -, -, -, -, -, c6, c7⟩ := (pg_cells (q := ⟨1, 0, 0, 0, none, 0, 0, none, 0, 0, p, t⟩) (HJ4.out.below hW).pag).1
      exact ⟨c6, c7⟩
    refine wp_region_held (S := P67 (w.heap.size + 1) p t) (by kernel_rfl) ?_
    change wpAnyH _ _ _ _ _ _ _ _ (World.drew _)
    have HSW : Hid (P67 (w.heap.size + 1) p t W4.drew) := S4.out _ (Below.refl _ _).drew
    by_cases hp0 : p = 0
    · have hpe1 : ((p : Int) == 0) = true := by simp; omega
      have HP0 : Hid (p = 0) := hp0
      clear hp0
      have hmk := make_32 W4.drew
      have hcv := conv_32 W4 ((W4.alloc (.cells (madeCells #[.int .u8 0] 32) 5)).drew) (heap_alloc_new W4 _)
      have hbl : Below W4.heap.size W4 ((W4.alloc (.cells (madeCells #[.int .u8 0] 32) 5)).drew) := (below_new W4 _).drew
      have HJ5 : Hid (LJ w p t [] (.slice none 0 0) ((W4.alloc (.cells (madeCells #[.int .u8 0] 32) 5)).drew)) := HJ4.out.below hbl
      have HS5 : Hid (P67 (w.heap.size + 1) p t ((W4.alloc (.cells (madeCells #[.int .u8 0] 32) 5)).drew)) := S4.out _ hbl
      clear hbl
      refine wpAnyH_take (i := 0) (v := ?_) rfl (by kernel_rfl) (by kernel_rfl) (by kernel_rfl) (fun _ _ _ h => h) (Or.inl ⟨by kernel_rfl, ?_⟩) HSW.out ?_
      rotate_left
      · intro w hS
        obtain ⟨e0, e1⟩ := hS
        go_simp
        try with_reducible rfl
      conv in (Act.put _ _ _) => simp only [List.getElem_toArray, List.getElem_cons_succ, List.getElem_cons_zero, Act.put, List.setIfInBounds_toArray, List.set_cons_succ, List.set_cons_zero]
      refine wpAnyH_take (i := 1) (v := ?_) rfl (by kernel_rfl) (by kernel_rfl) (by kernel_rfl) (fun _ _ _ h => h) (Or.inl ⟨by kernel_rfl, ?_⟩) HSW.out ?_
      rotate_left
      · intro w hS
        obtain ⟨e0, e1⟩ := hS
        go_simp
        try with_reducible rfl
      conv in (Act.put _ _ _) => simp only [List.getElem_toArray, List.getElem_cons_succ, List.getElem_cons_zero, Act.put, List.setIfInBounds_toArray, List.set_cons_succ, List.set_cons_zero]
      refine wpAnyH_take (i := 2) (v := ?_) rfl (by kernel_rfl) (by kernel_rfl) (by kernel_rfl) (fun _ _ _ h => h) (Or.inl ⟨by kernel_rfl, ?_⟩) HSW.out ?_
      rotate_left
      · intro w hS
        obtain ⟨e0, e1⟩ := hS
        go_simp
        try with_reducible rfl
      conv in (Act.put _ _ _) => simp only [List.getElem_toArray, List.getElem_cons_succ, List.getElem_cons_zero, Act.put, List.setIfInBounds_toArray, List.set_cons_succ, List.set_cons_zero]
      refine wpAnyH_take (i := 3) (v := ?_) rfl (by kernel_rfl) (by kernel_rfl) (by kernel_rfl) (fun _ _ _ h => h) (Or.inl ⟨by kernel_rfl, ?_⟩) HSW.out ?_
      rotate_left
      · intro w hS
        obtain ⟨e0, e1⟩ := hS
        go_simp
        try with_reducible rfl
      conv in (Act.put _ _ _) => simp only [List.getElem_toArray, List.getElem_cons_succ, List.getElem_cons_zero, Act.put, List.setIfInBounds_toArray, List.set_cons_succ, List.set_cons_zero]
      refine wpAnyH_take (i := 4) (v := ?_) rfl (by kernel_rfl) (by kernel_rfl) (by kernel_rfl) (fun _ _ _ h => h) (Or.inl ⟨by kernel_rfl, ?_⟩) HSW.out ?_
      rotate_left
      · intro w hS
        obtain ⟨e0, e1⟩ := hS
        go_simp
        try with_reducible rfl
      conv in (Act.put _ _ _) => simp only [List.getElem_toArray, List.getElem_cons_succ, List.getElem_cons_zero, Act.put, List.setIfInBounds_toArray, List.set_cons_succ, List.set_cons_zero]
      refine wpAnyH_take (i := 5) (v := ?_) rfl (by kernel_rfl) (by kernel_rfl) (by kernel_rfl) (fun _ _ _ h => h) (Or.inl ⟨by kernel_rfl, ?_⟩) HSW.out ?_
      rotate_left
      · intro w hS
        obtain ⟨e0, e1⟩ := hS
        go_simp
        try with_reducible rfl
      conv in (Act.put _ _ _) => simp only [List.getElem_toArray, List.getElem_cons_succ, List.getElem_cons_zero, Act.put, List.setIfInBounds_toArray, List.set_cons_succ, List.set_cons_zero]
      refine wpAnyH_take (i := 6) (v := ?_) rfl (by kernel_rfl) (by kernel_rfl) (by kernel_rfl) (fun _ _ _ h => h) (Or.inl ⟨by kernel_rfl, ?_⟩) HSW.out ?_
      rotate_left
      · intro w hS
        obtain ⟨e0, e1⟩ := hS
        go_simp
        try with_reducible rfl
      conv in (Act.put _ _ _) => simp only [List.getElem_toArray, List.getElem_cons_succ, List.getElem_cons_zero, Act.put, List.setIfInBounds_toArray, List.set_cons_succ, List.set_cons_zero]
      refine wpAnyH_take (i := 7) (v := ?_) rfl (by kernel_rfl) (by kernel_rfl) (by kernel_rfl) (fun _ _ _ h => h) (Or.inl ⟨by kernel_rfl, ?_⟩) HSW.out ?_
      rotate_left
      · intro w hS
        obtain ⟨e0, e1⟩ := hS
        go_simp
        try with_reducible rfl
      conv in (Act.put _ _ _) => simp only [List.getElem_toArray, List.getElem_cons_succ, List.getElem_cons_zero, Act.put, List.setIfInBounds_toArray, List.set_cons_succ, List.set_cons_zero]
      refine readyH 8 _ (by kernel_rfl) rfl (by kernel_rfl) (fun K hK => ?_)
      go_simp
      replace HSW : Hid (P67 (w.heap.size + 1) p t ((W4.alloc (.cells (madeCells #[.int .u8 0] 32) 5)).drew)) := HS5.out
      refine hK _ _ HSW.out ?_
      clear hK K
      refine readyH 9 _ (by kernel_rfl) rfl (by kernel_rfl) (fun K hK => ?_)
      go_simp
      refine hK _ _ HSW.out ?_
      clear hK K
      clear hmk hcv hpe1
      by_cases ht0 : t = noTag
      · have HNX' : Hid (nxA s = ⟨p, ⟨#[]⟩⟩) := by
          refine (?_ : nxA s = ⟨p, ⟨#[]⟩⟩)
          rw [HNX.out, ht0, HP0.out]
          rfl
        have hte : (t.toList == noTag.toList) = true := by rw [ht0]; exact beq_self_eq_true _
        clear ht0
        generalize noTag = nT at *
        refine wpAnyH_take (i := 10) (v := ?_) rfl (by kernel_rfl) (by kernel_rfl) (by kernel_rfl) (fun _ _ _ h => h) (Or.inl ⟨by kernel_rfl, ?_⟩) HSW.out ?_
        rotate_left
        · intro w hS
          obtain ⟨e0, e1⟩ := hS
          go_simp
          try with_reducible rfl
        conv in (Act.put _ _ _) => simp only [List.getElem_toArray, List.getElem_cons_succ, List.getElem_cons_zero, Act.put, List.setIfInBounds_toArray, List.set_cons_succ, List.set_cons_zero]
        refine wpAnyH_take (i := 11) (v := ?_) rfl (by kernel_rfl) (by kernel_rfl) (by kernel_rfl) (fun _ _ _ h => h) (Or.inl ⟨by kernel_rfl, ?_⟩) HSW.out ?_
        rotate_left
        · intro w hS
          obtain ⟨e0, e1⟩ := hS
          go_simp
          try with_reducible rfl
        conv in (Act.put _ _ _) => simp only [List.getElem_toArray, List.getElem_cons_succ, List.getElem_cons_zero, Act.put, List.setIfInBounds_toArray, List.set_cons_succ, List.set_cons_zero]
        refine wpAnyH_done (by kernel_rfl) ?_ _
        generalize (W4.alloc (.cells (madeCells #[.int .u8 0] 32) 5)).drew = W5 at *
        have hg5 := HJ5.out.pag
        have l5 : w.heap.size + 1 < W5.heap.size := (Array.getElem?_eq_some_iff.1 hg5).1
        have f7 := frozen_of_row W5 (w.heap.size + 1) 7 _ _ hg5
        have c7 : W5.cell? ⟨w.heap.size + 1, 7, none⟩ = some (.string t) := by rw [cell_of_row _ _ _ _ _ _ hg5]; rfl
        have X1 := heap_setCell_same W5 (w.heap.size + 1) 7 _ _ (.string ⟨#[]⟩) hg5
        simp only [List.setIfInBounds_toArray, List.set_cons_zero, List.set_cons_succ] at X1
        have hoth : ∀ j, j ≠ w.heap.size + 1 → (W5.setCell ⟨w.heap.size + 1, 7, none⟩ (.string ⟨#[]⟩)).heap[j]? = W5.heap[j]? := fun j hj => Below.heap_setCell _ _ _ _ (fun e => hj e)
        have HJ6 : Hid (LJ w p ⟨#[]⟩ [] (.slice none 0 0) (W5.setCell ⟨w.heap.size + 1, 7, none⟩ (.string ⟨#[]⟩))) := by
          refine (?_ : LJ w p ⟨#[]⟩ [] (.slice none 0 0) (W5.setCell ⟨w.heap.size + 1, 7, none⟩ (.string ⟨#[]⟩)))
          refine ⟨(hoth _ (by omega)).trans HJ5.out.res, X1, World.ownsRow_nil _ _ _ _, ?_⟩
          have hb := HJ5.out.bel
          exact ⟨hb.os, hb.tape, hb.output, by rw [st_size]; exact hb.size, fun j hj => (hoth j (by omega)).trans (hb.block j hj)⟩
        clear X1 hoth hg5 HJ5 HS5 HSW S4 HJ4 hte
        go_wp2_with fail
        generalize W5.setCell ⟨w.heap.size + 1, 7, none⟩ (.string ⟨#[]⟩) = W6 at *
        clear f7 c7
        have HJL : Hid (LJ w p ⟨#[]⟩ [] (.slice none 0 0) W6) := HJ6.out
        have HNL : Hid (nxA s = ⟨p, ⟨#[]⟩⟩) := HNX'.out
        clear HJ6 HNX'
        clear HNX
        go_loopw [5, 6] (fun av iv wr => ∃ (i : Nat) (v : Value), i ≤ N ∧ av = .int .i64 ((rowsA s i).2 : Int) ∧ iv = .int .i64 (i : Int) ∧ (rowsA s i).2 ≤ s.size ∧ LJ w p ⟨#[]⟩ (rowsA s i).1 v wr) (fun _ iv _ => N - natOf iv)
        case atStart => exact ⟨0, .slice none 0 0, Nat.zero_le _, rfl, rfl, HSZ.out, HJL.out⟩
        case round =>
          obtain ⟨i, v, hi, rfl, rfl, hle, hj⟩ := hrel
          obtain ⟨o, cap, rfl, -⟩ := sl_of_own hj.own
          have hlen := rowsA_len s i
          have hsm := rowsA_small s i
          have HHi : Hid _ := HHALT.out i hle
          have hrow : rowsA s (i + 1) = ((rowsA s i).1 ++ [rowA s (rowsA s i).2 (bt s ((rowsA s i).2 + 16))], (rowsA s i).2 + 17 + bt s ((rowsA s i).2 + 16)) := rfl
          have hP : lfP s i = ⟨1, 0, 0, 0, (rowsA s i).1, [], p, ⟨#[]⟩⟩ := by unfold lfP; rw [HNL.out]
          have HRi : Hid (i = N → Res s (decide ((rowsA s i).2 = s.size)) (lfP s i)) := fun e => by subst e; exact HRES.out hle
          rw [hP] at HRi
          obtain ⟨l, hl⟩ : ∃ l, (rowsA s i).1 = l := ⟨_, rfl⟩
          obtain ⟨a, ha⟩ : ∃ a, (rowsA s i).2 = a := ⟨_, rfl⟩
          rw [hl] at hlen hj hrow hP HRi
          rw [ha] at hle hsm HHi hrow HRi
          rw [hl] at *
          rw [ha]
          subst hlen
          have HJ : Hid _ := hj
          have HRW : Hid _ := hrow
          have hg := hj.pag
          obtain ⟨d0, d1, d2, d3, d4, d5, d6, d7⟩ := (pg_cells (q := ⟨1, 0, 0, 0, o, l.length, cap, none, 0, 0, p, ⟨#[]⟩⟩) hg).1
          simp only at d0 d1 d2 d3 d4 d5 d6 d7
          have lp : w.heap.size + 1 < wr.heap.size := (Array.getElem?_eq_some_iff.1 hg).1
          have HRE : Hid _ := hj.res
          have HF : Hid _ := lf_end hj #[.int .i64 1, .int .u32 0, .int .u32 0, .int .i64 0, .slice o l.length cap, .slice none 0 0, .int .u32 (p : Int), .string ⟨#[]⟩]
          have HE : Hid (Below w.heap.size w (wr.setRow w.heap.size #[.int .i64 1, .int .u32 0, .int .u32 0, .int .i64 0, .slice o l.length cap, .slice none 0 0, .int .u32 (p : Int), .string ⟨#[]⟩])) := below_row hj.bel (Nat.le_refl _) _
          have a0 : (0 : Int) ≤ (a : Int) := by omega
          have a1 : (a : Int) ≤ 100000 := by omega
          clear hj hg hrow hP hl ha
          by_cases hlt : l.length < N
          · have q5 : (l.length : Int) < (N : Int) := by omega
            by_cases h17 : s.size < a + 17
            · have HR : Hid (Res s false ⟨1, 0, 0, 0, l, [], p, ⟨#[]⟩⟩) := res_no (HHi.out (row_short1 h17) hlt)
              have q6 : (s.size : Int) < (a : Int) + 17 := by omega
              clear h17 hlt hi hle hsm
              go_wp2_with (refine wpList_store_row rfl 30 (.tmp 2) (.tmp 47) rfl w.heap.size #[.int .i64 1, .int .u32 0, .int .u32 0, .int .i64 0, .slice o l.length cap, .slice none 0 0, .int .u32 (p : Int), .string ⟨#[]⟩] (by rfl) (by rfl) 30 #[.int .i64 0, .int .u32 0, .int .u32 0, .int .i64 0, .slice none 0 0, .slice none 0 0, .int .u32 0, .string ⟨#[]⟩] HRE.out HI.out (by rfl) (by kernel_rfl) ?_)
              refine bodyPost_ret (results_page2 rfl _ _ w.heap.size _ _ _ _ _ _ _ _ rfl rfl (setRow_heap _ _ _ _ _ _ HRE.out)) rfl ?_
              exact ⟨_, _, false, rfl, HF.out, HR.out, HE.out⟩
            · have q6 : ¬ (s.size : Int) < (a : Int) + 17 := by omega
              have hidx2 : ∀ w', (Instr.index 9 (.string s) (.int .i64 ((a : Int) + 16))).run Try.prog w' = .ok (.int .u8 (bt s (a + 16) : Int)) w' := fun w' => by
                have := idx_s s (a + 16) (by omega) w'
                rwa [show ((a + 16 : Nat) : Int) = (a : Int) + 16 by omega] at this
              have hm := bt_lt s (a + 16)
              have HSH2 : Hid (s.size < a + 17 + bt s (a + 16) → decOK s = false) := fun h => HHi.out (row_short2 (by omega) h) hlt
              obtain ⟨m, hmm⟩ : ∃ m, bt s (a + 16) = m := ⟨_, rfl⟩
              rw [hmm] at hidx2 hm HSH2 HRW
              have m0 : (0 : Int) ≤ (m : Int) := by omega
              have m1 : (m : Int) < 256 := by omega
              by_cases h18 : s.size < a + 17 + m
              · have HR : Hid (Res s false ⟨1, 0, 0, 0, l, [], p, ⟨#[]⟩⟩) := res_no (HSH2.out h18)
                have q7 : (s.size : Int) < (a : Int) + 17 + (m : Int) := by omega
                clear h17 h18 hlt hi hle hsm hmm
                go_wp2_with (refine wpList_store_row rfl 30 (.tmp 2) (.tmp 60) rfl w.heap.size #[.int .i64 1, .int .u32 0, .int .u32 0, .int .i64 0, .slice o l.length cap, .slice none 0 0, .int .u32 (p : Int), .string ⟨#[]⟩] (by rfl) (by rfl) 30 #[.int .i64 0, .int .u32 0, .int .u32 0, .int .i64 0, .slice none 0 0, .slice none 0 0, .int .u32 0, .string ⟨#[]⟩] HRE.out HI.out (by rfl) (by kernel_rfl) ?_)
                refine bodyPost_ret (results_page2 rfl _ _ w.heap.size _ _ _ _ _ _ _ _ rfl rfl (setRow_heap _ _ _ _ _ _ HRE.out)) rfl ?_
                exact ⟨_, _, false, rfl, HF.out, HR.out, HE.out⟩
              · have q7 : ¬ (s.size : Int) < (a : Int) + 17 + (m : Int) := by omega
                have hrA : rowA s a m = ⟨valB (s.extract a (a + 8)) 8, valB (s.extract (a + 8) (a + 12)) 4, valB (s.extract (a + 12) (a + 16)) 4, s.extract (a + 17) (a + 17 + m)⟩ := rfl
                have g1 : Hid _ := HGT.out (s.extract a (a + 8)) (by rw [ByteArray.size_extract]; omega)
                have g2 : Hid _ := HGT.out (s.extract (a + 8) (a + 12)) (by rw [ByteArray.size_extract]; omega)
                have g3 : Hid _ := HGT.out (s.extract (a + 12) (a + 16)) (by rw [ByteArray.size_extract]; omega)
                rw [show (s.extract a (a + 8)).size = 8 by rw [ByteArray.size_extract]; omega] at g1
                rw [show (s.extract (a + 8) (a + 12)).size = 4 by rw [ByteArray.size_extract]; omega] at g2
                rw [show (s.extract (a + 12) (a + 16)).size = 4 by rw [ByteArray.size_extract]; omega] at g3
                have vx2 := valB_lt (s.extract (a + 8) (a + 12)) 4
                have vy2 := valB_lt (s.extract (a + 12) (a + 16)) 4
                simp only [Nat.reduceMul, Nat.reducePow] at vx2 vy2
                generalize valB (s.extract a (a + 8)) 8 = id at *
                generalize valB (s.extract (a + 8) (a + 12)) 4 = x at *
                generalize valB (s.extract (a + 12) (a + 16)) 4 = y at *
                obtain ⟨vl, hvl⟩ : ∃ vl, s.extract (a + 17) (a + 17 + m) = vl := ⟨_, rfl⟩
                rw [hvl] at hrA
                rw [hrA] at HRW
                have HVL : Hid _ := hvl
                have cx2 : IntKind.u32.wrap (x : Int) = (x : Int) := IntWalk.u32_in _ ⟨by omega, by omega⟩
                have cy2 : IntKind.u32.wrap (y : Int) = (y : Int) := IntWalk.u32_in _ ⟨by omega, by omega⟩
                have HIN : Hid (l.length < N ∧ a + 17 + m ≤ s.size ∧ N < 256) := ⟨hlt, by omega, hn⟩
                have w8 : IntKind.i64.wrap ((a : Int) + 8) = (a : Int) + 8 := IntWalk.i64_in _ ⟨by omega, by omega⟩
                have w12 : IntKind.i64.wrap ((a : Int) + 12) = (a : Int) + 12 := IntWalk.i64_in _ ⟨by omega, by omega⟩
                have w16 : IntKind.i64.wrap ((a : Int) + 16) = (a : Int) + 16 := IntWalk.i64_in _ ⟨by omega, by omega⟩
                have w17 : IntKind.i64.wrap ((a : Int) + 17) = (a : Int) + 17 := IntWalk.i64_in _ ⟨by omega, by omega⟩
                have w18 : IntKind.i64.wrap ((a : Int) + 17 + (m : Int)) = (a : Int) + 17 + (m : Int) := IntWalk.i64_in _ ⟨by omega, by omega⟩
                have y8 : ((a : Int) + 8).toNat = a + 8 := by omega
                have y12 : ((a : Int) + 12).toNat = a + 12 := by omega
                have y16 : ((a : Int) + 16).toNat = a + 16 := by omega
                have y17 : ((a : Int) + 17).toNat = a + 17 := by omega
                have y18 : ((a : Int) + 17 + (m : Int)).toNat = a + 17 + m := by omega
                have t8 : (a : Int) + 8 ≤ (s.size : Int) := by omega
                have t12 : (a : Int) + 12 ≤ (s.size : Int) := by omega
                have t16 : (a : Int) + 16 ≤ (s.size : Int) := by omega
                have t18 : (a : Int) + 17 + (m : Int) ≤ (s.size : Int) := by omega
                have u8 : (a : Int) ≤ (a : Int) + 8 := by omega
                have u12 : (a : Int) + 8 ≤ (a : Int) + 12 := by omega
                have u16 : (a : Int) + 12 ≤ (a : Int) + 16 := by omega
                have u18 : (a : Int) + 17 ≤ (a : Int) + 17 + (m : Int) := by omega
                have o8 : (0 : Int) ≤ (a : Int) + 8 := by omega
                have o12 : (0 : Int) ≤ (a : Int) + 12 := by omega
                have o17 : (0 : Int) ≤ (a : Int) + 17 := by omega
                clear h17 h18 hlt hi hle hsm hmm hrA hvl hm
                go_wp2_with fail
                clear q5 q6 q7 hidx2
                refine region_lastP (z := 36) (S := fun W => W.cell? ⟨w.heap.size + 1, 4, none⟩ = some (.slice o l.length cap) ∧ True) (by kernel_rfl) ?_
                change wpLast _ _ _ _ _ _ 37 _ _ _
                have HSW : Hid (wr.drew.cell? ⟨w.heap.size + 1, 4, none⟩ = some (.slice o l.length cap) ∧ True) := ⟨d4, trivial⟩
                clear d0 d1 d2 d3 d5 d6 d7
                refine wpLast_take (i := 0) (v := ?_) (by kernel_rfl) rfl (by kernel_rfl) (by kernel_rfl) (by kernel_rfl) (fun _ _ _ h => h) (Or.inl ⟨by kernel_rfl, ?_⟩) HSW.out ?_
                rotate_left
                · intro w hS
                  obtain ⟨e1, e2⟩ := hS
                  go_simp
                  try with_reducible rfl
                conv in (Act.put _ _ _) => simp only [List.getElem_toArray, List.getElem_cons_succ, List.getElem_cons_zero, Act.put, List.setIfInBounds_toArray, List.set_cons_succ, List.set_cons_zero]
                refine wpLast_take (i := 1) (v := ?_) (by kernel_rfl) rfl (by kernel_rfl) (by kernel_rfl) (by kernel_rfl) (fun _ _ _ h => h) (Or.inl ⟨by kernel_rfl, ?_⟩) HSW.out ?_
                rotate_left
                · intro w hS
                  obtain ⟨e1, e2⟩ := hS
                  go_simp
                  try with_reducible rfl
                conv in (Act.put _ _ _) => simp only [List.getElem_toArray, List.getElem_cons_succ, List.getElem_cons_zero, Act.put, List.setIfInBounds_toArray, List.set_cons_succ, List.set_cons_zero]
                refine wpLast_take (i := 2) (v := ?_) (by kernel_rfl) rfl (by kernel_rfl) (by kernel_rfl) (by kernel_rfl) (fun _ _ _ h => h) (Or.inl ⟨by kernel_rfl, ?_⟩) HSW.out ?_
                rotate_left
                · intro w hS
                  obtain ⟨e1, e2⟩ := hS
                  go_simp
                  try with_reducible rfl
                conv in (Act.put _ _ _) => simp only [List.getElem_toArray, List.getElem_cons_succ, List.getElem_cons_zero, Act.put, List.setIfInBounds_toArray, List.set_cons_succ, List.set_cons_zero]
                refine wpLast_take (i := 3) (v := ?_) (by kernel_rfl) rfl (by kernel_rfl) (by kernel_rfl) (by kernel_rfl) (fun _ _ _ h => h) (Or.inl ⟨by kernel_rfl, ?_⟩) HSW.out ?_
                rotate_left
                · intro w hS
                  obtain ⟨e1, e2⟩ := hS
                  go_simp
                  try with_reducible rfl
                conv in (Act.put _ _ _) => simp only [List.getElem_toArray, List.getElem_cons_succ, List.getElem_cons_zero, Act.put, List.setIfInBounds_toArray, List.set_cons_succ, List.set_cons_zero]
                refine wpLast_take (i := 4) (v := ?_) (by kernel_rfl) rfl (by kernel_rfl) (by kernel_rfl) (by kernel_rfl) (fun _ _ _ h => h) (Or.inl ⟨by kernel_rfl, ?_⟩) HSW.out ?_
                rotate_left
                · intro w hS
                  obtain ⟨e1, e2⟩ := hS
                  go_simp
                  try with_reducible rfl
                conv in (Act.put _ _ _) => simp only [List.getElem_toArray, List.getElem_cons_succ, List.getElem_cons_zero, Act.put, List.setIfInBounds_toArray, List.set_cons_succ, List.set_cons_zero]
                refine wpLast_take (i := 5) (v := ?_) (by kernel_rfl) rfl (by kernel_rfl) (by kernel_rfl) (by kernel_rfl) (fun _ _ _ h => h) (Or.inl ⟨by kernel_rfl, ?_⟩) HSW.out ?_
                rotate_left
                · intro w hS
                  obtain ⟨e1, e2⟩ := hS
                  go_simp
                  try with_reducible rfl
                conv in (Act.put _ _ _) => simp only [List.getElem_toArray, List.getElem_cons_succ, List.getElem_cons_zero, Act.put, List.setIfInBounds_toArray, List.set_cons_succ, List.set_cons_zero]
                refine wpLast_take (i := 6) (v := ?_) (by kernel_rfl) rfl (by kernel_rfl) (by kernel_rfl) (by kernel_rfl) (fun _ _ _ h => h) (Or.inl ⟨by kernel_rfl, ?_⟩) HSW.out ?_
                rotate_left
                · intro w hS
                  obtain ⟨e1, e2⟩ := hS
                  go_simp
                  try with_reducible rfl
                conv in (Act.put _ _ _) => simp only [List.getElem_toArray, List.getElem_cons_succ, List.getElem_cons_zero, Act.put, List.setIfInBounds_toArray, List.set_cons_succ, List.set_cons_zero]
                refine wpLast_take (i := 8) (v := ?_) (by kernel_rfl) rfl (by kernel_rfl) (by kernel_rfl) (by kernel_rfl) (fun _ _ _ h => h) (Or.inl ⟨by kernel_rfl, ?_⟩) HSW.out ?_
                rotate_left
                · intro w hS
                  obtain ⟨e1, e2⟩ := hS
                  go_simp
                  try with_reducible rfl
                conv in (Act.put _ _ _) => simp only [List.getElem_toArray, List.getElem_cons_succ, List.getElem_cons_zero, Act.put, List.setIfInBounds_toArray, List.set_cons_succ, List.set_cons_zero]
                refine wpLast_take (i := 9) (v := ?_) (by kernel_rfl) rfl (by kernel_rfl) (by kernel_rfl) (by kernel_rfl) (fun _ _ _ h => h) (Or.inl ⟨by kernel_rfl, ?_⟩) HSW.out ?_
                rotate_left
                · intro w hS
                  obtain ⟨e1, e2⟩ := hS
                  go_simp
                  try with_reducible rfl
                conv in (Act.put _ _ _) => simp only [List.getElem_toArray, List.getElem_cons_succ, List.getElem_cons_zero, Act.put, List.setIfInBounds_toArray, List.set_cons_succ, List.set_cons_zero]
                refine wpLast_take (i := 10) (v := ?_) (by kernel_rfl) rfl (by kernel_rfl) (by kernel_rfl) (by kernel_rfl) (fun _ _ _ h => h) (Or.inl ⟨by kernel_rfl, ?_⟩) HSW.out ?_
                rotate_left
                · intro w hS
                  obtain ⟨e1, e2⟩ := hS
                  go_simp
                  try with_reducible rfl
                conv in (Act.put _ _ _) => simp only [List.getElem_toArray, List.getElem_cons_succ, List.getElem_cons_zero, Act.put, List.setIfInBounds_toArray, List.set_cons_succ, List.set_cons_zero]
                refine wpLast_take (i := 11) (v := ?_) (by kernel_rfl) rfl (by kernel_rfl) (by kernel_rfl) (by kernel_rfl) (fun _ _ _ h => h) (Or.inl ⟨by kernel_rfl, ?_⟩) HSW.out ?_
                rotate_left
                · intro w hS
                  obtain ⟨e1, e2⟩ := hS
                  go_simp
                  try with_reducible rfl
                conv in (Act.put _ _ _) => simp only [List.getElem_toArray, List.getElem_cons_succ, List.getElem_cons_zero, Act.put, List.setIfInBounds_toArray, List.set_cons_succ, List.set_cons_zero]
                refine wpLast_take (i := 12) (v := ?_) (by kernel_rfl) rfl (by kernel_rfl) (by kernel_rfl) (by kernel_rfl) (fun _ _ _ h => h) (Or.inl ⟨by kernel_rfl, ?_⟩) HSW.out ?_
                rotate_left
                · intro w hS
                  obtain ⟨e1, e2⟩ := hS
                  go_simp
                  try with_reducible rfl
                conv in (Act.put _ _ _) => simp only [List.getElem_toArray, List.getElem_cons_succ, List.getElem_cons_zero, Act.put, List.setIfInBounds_toArray, List.set_cons_succ, List.set_cons_zero]
                refine wpLast_take (i := 13) (v := ?_) (by kernel_rfl) rfl (by kernel_rfl) (by kernel_rfl) (by kernel_rfl) (fun _ _ _ h => h) (Or.inl ⟨by kernel_rfl, ?_⟩) HSW.out ?_
                rotate_left
                · intro w hS
                  obtain ⟨e1, e2⟩ := hS
                  go_simp
                  try with_reducible rfl
                conv in (Act.put _ _ _) => simp only [List.getElem_toArray, List.getElem_cons_succ, List.getElem_cons_zero, Act.put, List.setIfInBounds_toArray, List.set_cons_succ, List.set_cons_zero]
                refine wpLast_take (i := 16) (v := ?_) (by kernel_rfl) rfl (by kernel_rfl) (by kernel_rfl) (by kernel_rfl) (fun _ _ _ h => h) (Or.inl ⟨by kernel_rfl, ?_⟩) HSW.out ?_
                rotate_left
                · intro w hS
                  obtain ⟨e1, e2⟩ := hS
                  go_simp
                  try with_reducible rfl
                conv in (Act.put _ _ _) => simp only [List.getElem_toArray, List.getElem_cons_succ, List.getElem_cons_zero, Act.put, List.setIfInBounds_toArray, List.set_cons_succ, List.set_cons_zero]
                refine wpLast_take (i := 17) (v := ?_) (by kernel_rfl) rfl (by kernel_rfl) (by kernel_rfl) (by kernel_rfl) (fun _ _ _ h => h) (Or.inl ⟨by kernel_rfl, ?_⟩) HSW.out ?_
                rotate_left
                · intro w hS
                  obtain ⟨e1, e2⟩ := hS
                  go_simp
                  try with_reducible rfl
                conv in (Act.put _ _ _) => simp only [List.getElem_toArray, List.getElem_cons_succ, List.getElem_cons_zero, Act.put, List.setIfInBounds_toArray, List.set_cons_succ, List.set_cons_zero]
                refine wpLast_take (i := 18) (v := ?_) (by kernel_rfl) rfl (by kernel_rfl) (by kernel_rfl) (by kernel_rfl) (fun _ _ _ h => h) (Or.inl ⟨by kernel_rfl, ?_⟩) HSW.out ?_
                rotate_left
                · intro w hS
                  obtain ⟨e1, e2⟩ := hS
                  go_simp
                  try with_reducible rfl
                conv in (Act.put _ _ _) => simp only [List.getElem_toArray, List.getElem_cons_succ, List.getElem_cons_zero, Act.put, List.setIfInBounds_toArray, List.set_cons_succ, List.set_cons_zero]
                refine wpLast_take (i := 19) (v := ?_) (by kernel_rfl) rfl (by kernel_rfl) (by kernel_rfl) (by kernel_rfl) (fun _ _ _ h => h) (Or.inl ⟨by kernel_rfl, ?_⟩) HSW.out ?_
                rotate_left
                · intro w hS
                  obtain ⟨e1, e2⟩ := hS
                  go_simp
                  try with_reducible rfl
                conv in (Act.put _ _ _) => simp only [List.getElem_toArray, List.getElem_cons_succ, List.getElem_cons_zero, Act.put, List.setIfInBounds_toArray, List.set_cons_succ, List.set_cons_zero]
                refine wpLast_take (i := 20) (v := ?_) (by kernel_rfl) rfl (by kernel_rfl) (by kernel_rfl) (by kernel_rfl) (fun _ _ _ h => h) (Or.inl ⟨by kernel_rfl, ?_⟩) HSW.out ?_
                rotate_left
                · intro w hS
                  obtain ⟨e1, e2⟩ := hS
                  go_simp
                  try with_reducible rfl
                conv in (Act.put _ _ _) => simp only [List.getElem_toArray, List.getElem_cons_succ, List.getElem_cons_zero, Act.put, List.setIfInBounds_toArray, List.set_cons_succ, List.set_cons_zero]
                refine wpLast_take (i := 21) (v := ?_) (by kernel_rfl) rfl (by kernel_rfl) (by kernel_rfl) (by kernel_rfl) (fun _ _ _ h => h) (Or.inl ⟨by kernel_rfl, ?_⟩) HSW.out ?_
                rotate_left
                · intro w hS
                  obtain ⟨e1, e2⟩ := hS
                  go_simp
                  try with_reducible rfl
                conv in (Act.put _ _ _) => simp only [List.getElem_toArray, List.getElem_cons_succ, List.getElem_cons_zero, Act.put, List.setIfInBounds_toArray, List.set_cons_succ, List.set_cons_zero]
                refine wpLast_take (i := 24) (v := ?_) (by kernel_rfl) rfl (by kernel_rfl) (by kernel_rfl) (by kernel_rfl) (fun _ _ _ h => h) (Or.inl ⟨by kernel_rfl, ?_⟩) HSW.out ?_
                rotate_left
                · intro w hS
                  obtain ⟨e1, e2⟩ := hS
                  go_simp
                  try with_reducible rfl
                conv in (Act.put _ _ _) => simp only [List.getElem_toArray, List.getElem_cons_succ, List.getElem_cons_zero, Act.put, List.setIfInBounds_toArray, List.set_cons_succ, List.set_cons_zero]
                refine wpLast_take (i := 25) (v := ?_) (by kernel_rfl) rfl (by kernel_rfl) (by kernel_rfl) (by kernel_rfl) (fun _ _ _ h => h) (Or.inl ⟨by kernel_rfl, ?_⟩) HSW.out ?_
                rotate_left
                · intro w hS
                  obtain ⟨e1, e2⟩ := hS
                  go_simp
                  try with_reducible rfl
                conv in (Act.put _ _ _) => simp only [List.getElem_toArray, List.getElem_cons_succ, List.getElem_cons_zero, Act.put, List.setIfInBounds_toArray, List.set_cons_succ, List.set_cons_zero]
                refine wpLast_take (i := 26) (v := ?_) (by kernel_rfl) rfl (by kernel_rfl) (by kernel_rfl) (by kernel_rfl) (fun _ _ _ h => h) (Or.inl ⟨by kernel_rfl, ?_⟩) HSW.out ?_
                rotate_left
                · intro w hS
                  obtain ⟨e1, e2⟩ := hS
                  go_simp
                  try with_reducible rfl
                conv in (Act.put _ _ _) => simp only [List.getElem_toArray, List.getElem_cons_succ, List.getElem_cons_zero, Act.put, List.setIfInBounds_toArray, List.set_cons_succ, List.set_cons_zero]
                refine wpLast_take (i := 27) (v := ?_) (by kernel_rfl) rfl (by kernel_rfl) (by kernel_rfl) (by kernel_rfl) (fun _ _ _ h => h) (Or.inl ⟨by kernel_rfl, ?_⟩) HSW.out ?_
                rotate_left
                · intro w hS
                  obtain ⟨e1, e2⟩ := hS
                  go_simp
                  try with_reducible rfl
                conv in (Act.put _ _ _) => simp only [List.getElem_toArray, List.getElem_cons_succ, List.getElem_cons_zero, Act.put, List.setIfInBounds_toArray, List.set_cons_succ, List.set_cons_zero]
                refine wpLast_take (i := 28) (v := ?_) (by kernel_rfl) rfl (by kernel_rfl) (by kernel_rfl) (by kernel_rfl) (fun _ _ _ h => h) (Or.inl ⟨by kernel_rfl, ?_⟩) HSW.out ?_
                rotate_left
                · intro w hS
                  obtain ⟨e1, e2⟩ := hS
                  go_simp
                  try with_reducible rfl
                conv in (Act.put _ _ _) => simp only [List.getElem_toArray, List.getElem_cons_succ, List.getElem_cons_zero, Act.put, List.setIfInBounds_toArray, List.set_cons_succ, List.set_cons_zero]
                refine wpLast_take (i := 29) (v := ?_) (by kernel_rfl) rfl (by kernel_rfl) (by kernel_rfl) (by kernel_rfl) (fun _ _ _ h => h) (Or.inl ⟨by kernel_rfl, ?_⟩) HSW.out ?_
                rotate_left
                · intro w hS
                  obtain ⟨e1, e2⟩ := hS
                  go_simp
                  try with_reducible rfl
                conv in (Act.put _ _ _) => simp only [List.getElem_toArray, List.getElem_cons_succ, List.getElem_cons_zero, Act.put, List.setIfInBounds_toArray, List.set_cons_succ, List.set_cons_zero]
                refine wpLast_take (i := 30) (v := ?_) (by kernel_rfl) rfl (by kernel_rfl) (by kernel_rfl) (by kernel_rfl) (fun _ _ _ h => h) (Or.inl ⟨by kernel_rfl, ?_⟩) HSW.out ?_
                rotate_left
                · intro w hS
                  obtain ⟨e1, e2⟩ := hS
                  go_simp
                  try with_reducible rfl
                conv in (Act.put _ _ _) => simp only [List.getElem_toArray, List.getElem_cons_succ, List.getElem_cons_zero, Act.put, List.setIfInBounds_toArray, List.set_cons_succ, List.set_cons_zero]
                refine wpLast_take (i := 31) (v := ?_) (by kernel_rfl) rfl (by kernel_rfl) (by kernel_rfl) (by kernel_rfl) (fun _ _ _ h => h) (Or.inl ⟨by kernel_rfl, ?_⟩) HSW.out ?_
                rotate_left
                · intro w hS
                  obtain ⟨e1, e2⟩ := hS
                  go_simp
                  try with_reducible rfl
                conv in (Act.put _ _ _) => simp only [List.getElem_toArray, List.getElem_cons_succ, List.getElem_cons_zero, Act.put, List.setIfInBounds_toArray, List.set_cons_succ, List.set_cons_zero]
                rw [HVL.out]
                refine readyL 7 _ (by kernel_rfl) rfl (by kernel_rfl) (fun K hK => ?_)
                go_simp
                refine (g1.out wr.drew).mono ?_
                rintro e W5a ⟨rfl, bb⟩
                have c5 : Below wr.heap.size wr W5a := (Below.refl _ wr).drew.trans (bb.mono (Nat.le_refl _))
                have HC5 : Hid (Below wr.heap.size wr W5a) := c5
                replace HSW : Hid (W5a.cell? ⟨w.heap.size + 1, 4, none⟩ = some (.slice o l.length cap) ∧ True) := ⟨(World.cell?_of_block (a := ⟨w.heap.size + 1, 4, none⟩) (c5.block (w.heap.size + 1) lp)).trans d4, trivial⟩
                clear bb c5
                refine hK _ _ HSW.out ?_
                clear hK K
                refine readyL 14 _ (by kernel_rfl) rfl (by kernel_rfl) (fun K hK => ?_)
                go_simp
                refine (g2.out W5a).mono ?_
                rintro e W6a ⟨rfl, bb⟩
                have c6 : Below wr.heap.size wr W6a := HC5.out.trans (bb.mono HC5.out.size)
                have HC6 : Hid (Below wr.heap.size wr W6a) := c6
                replace HSW : Hid (W6a.cell? ⟨w.heap.size + 1, 4, none⟩ = some (.slice o l.length cap) ∧ True) := ⟨(World.cell?_of_block (a := ⟨w.heap.size + 1, 4, none⟩) (c6.block (w.heap.size + 1) lp)).trans d4, trivial⟩
                clear bb c6
                refine hK _ _ HSW.out ?_
                clear hK K
                refine wpLast_take (i := 15) (v := ?_) (by kernel_rfl) rfl (by kernel_rfl) (by kernel_rfl) (by kernel_rfl) (fun _ _ _ h => h) (Or.inl ⟨by kernel_rfl, ?_⟩) HSW.out ?_
                rotate_left
                · intro w hS
                  obtain ⟨e1, e2⟩ := hS
                  go_simp
                  try with_reducible rfl
                conv in (Act.put _ _ _) => simp only [List.getElem_toArray, List.getElem_cons_succ, List.getElem_cons_zero, Act.put, List.setIfInBounds_toArray, List.set_cons_succ, List.set_cons_zero]
                refine readyL 22 _ (by kernel_rfl) rfl (by kernel_rfl) (fun K hK => ?_)
                go_simp
                refine (g3.out W6a).mono ?_
                rintro e W7 ⟨rfl, bb⟩
                have b7 : Below wr.heap.size wr W7 := HC6.out.trans (bb.mono HC6.out.size)
                replace HSW : Hid (W7.cell? ⟨w.heap.size + 1, 4, none⟩ = some (.slice o l.length cap) ∧ True) := ⟨(World.cell?_of_block (a := ⟨w.heap.size + 1, 4, none⟩) (b7.block (w.heap.size + 1) lp)).trans d4, trivial⟩
                clear bb
                refine hK _ _ HSW.out ?_
                clear hK K
                refine wpLast_take (i := 23) (v := ?_) (by kernel_rfl) rfl (by kernel_rfl) (by kernel_rfl) (by kernel_rfl) (fun _ _ _ h => h) (Or.inl ⟨by kernel_rfl, ?_⟩) HSW.out ?_
                rotate_left
                · intro w hS
                  obtain ⟨e1, e2⟩ := hS
                  go_simp
                  try with_reducible rfl
                conv in (Act.put _ _ _) => simp only [List.getElem_toArray, List.getElem_cons_succ, List.getElem_cons_zero, Act.put, List.setIfInBounds_toArray, List.set_cons_succ, List.set_cons_zero]
                refine wpLast_take (i := 32) (v := ?_) (by kernel_rfl) rfl (by kernel_rfl) (by kernel_rfl) (by kernel_rfl) (fun _ _ _ h => h) (Or.inl ⟨by kernel_rfl, ?_⟩) HSW.out ?_
                rotate_left
                · intro w hS
                  obtain ⟨e1, e2⟩ := hS
                  go_simp
                  try with_reducible rfl
                conv in (Act.put _ _ _) => simp only [List.getElem_toArray, List.getElem_cons_succ, List.getElem_cons_zero, Act.put, List.setIfInBounds_toArray, List.set_cons_succ, List.set_cons_zero]
                have hb8 := below_new W7 (.cells #[.int .u64 (id : Int), .int .u32 (x : Int), .int .u32 (y : Int), .string vl] 47)
                have hs7 := b7.size
                have hbs := HJ.out.bel.size
                obtain ⟨v', W', hrun, x1, x2, x3⟩ := append_sl 25 47 Try.underlying25 infoRow rfl (by decide) (by decide) (W7.alloc (.cells #[.int .u64 (id : Int), .int .u32 (x : Int), .int .u32 (y : Int), .string vl] 47)) (w.heap.size + 2) l.length 1 (.slice o l.length cap) (some ⟨W7.heap.size, 0, none⟩) 1
                  (l.flatMap rc) (rc ⟨id, x, y, vl⟩) (own_sameR HJ.out.own fun b h1 h2 => (hb8.block b (by omega)).trans (b7.block b h2)) (by simp; omega) (one_rowR (r := ⟨id, x, y, vl⟩) (heap_alloc_new W7 _)) (rc_one1 _) (by have := HIN.out; omega)
                have hob : ∀ b, (Value.slice o l.length cap).ownBlock = some b → w.heap.size + 2 ≤ b := fun b hb => own_baseR HJ.out.own hb
                have keepg : W'.heap[w.heap.size + 1]? = some (.cells #[.int .i64 1, .int .u32 0, .int .u32 0, .int .i64 0, .slice o l.length cap, .slice none 0 0, .int .u32 (p : Int), .string ⟨#[]⟩] 30 (0, 0)) := (x2.block _ (by simp; omega) (by intro e; have := hob _ e.symm; omega)).trans ((hb8.block _ (by omega)).trans ((b7.block _ lp).trans HJ.out.pag))
                have keepw : W'.heap[w.heap.size]? = some (.cells #[.int .i64 0, .int .u32 0, .int .u32 0, .int .i64 0, .slice none 0 0, .slice none 0 0, .int .u32 0, .string ⟨#[]⟩] 30 (0, 0)) := (x2.block _ (by simp; omega) (by intro e; have := hob _ e.symm; omega)).trans ((hb8.block _ (by omega)).trans ((b7.block _ (by omega)).trans HJ.out.res))
                have hB' : Below w.heap.size w W' := ((HJ.out.bel.trans (b7.mono (by omega))).trans (hb8.mono (by omega))).grown x2 (by simp; omega) fun b eb => by have := hob b eb; omega
                obtain ⟨g', cap', rfl⟩ := ownsRow_succ x1
                have hgb := own_baseR x1 (b := g') rfl
                have z4 := frozen_of_row W' (w.heap.size + 1) 4 _ _ keepg
                have z5 : W'.cell? ⟨w.heap.size + 1, 4, none⟩ = some (.slice o l.length cap) := by rw [cell_of_row _ _ _ _ _ _ keepg]; rfl
                have HFIN : Hid (LJ w p ⟨#[]⟩ (l ++ [⟨id, x, y, vl⟩]) (.slice (some ⟨g', 0, none⟩) (l.length + 1) cap') (W'.setCell ⟨w.heap.size + 1, 4, none⟩ (.slice (some ⟨g', 0, none⟩) (l.length + 1) cap'))) := by
                  refine (?_ : LJ w p ⟨#[]⟩ (l ++ [⟨id, x, y, vl⟩]) (.slice (some ⟨g', 0, none⟩) (l.length + 1) cap') (W'.setCell ⟨w.heap.size + 1, 4, none⟩ (.slice (some ⟨g', 0, none⟩) (l.length + 1) cap')))
                  have hoth : ∀ j, j ≠ w.heap.size + 1 → (W'.setCell ⟨w.heap.size + 1, 4, none⟩ (.slice (some ⟨g', 0, none⟩) (l.length + 1) cap')).heap[j]? = W'.heap[j]? := fun j hj => Below.heap_setCell _ _ _ _ (fun e => hj e)
                  refine ⟨(hoth _ (by omega)).trans keepw, ?_, ?_, ⟨hB'.os, hB'.tape, hB'.output, by rw [st_size]; exact hB'.size, fun j hj => (hoth j (by omega)).trans (hB'.block j hj)⟩⟩
                  · have := heap_setCell_same W' (w.heap.size + 1) 4 _ _ (.slice (some ⟨g', 0, none⟩) (l.length + 1) cap') keepg
                    simpa [List.setIfInBounds_toArray] using this
                  · have e1 : (l ++ [(⟨id, x, y, vl⟩ : Rw)]).length = l.length + 1 := by simp
                    have e2 : (l ++ [(⟨id, x, y, vl⟩ : Rw)]).flatMap rc = l.flatMap rc ++ rc ⟨id, x, y, vl⟩ := by rw [List.flatMap_append]; simp
                    rw [e1, e2]
                    exact own_sameR x1 fun b h1 h2 => hoth b (by omega)
                refine readyL 33 _ (by kernel_rfl) rfl (by kernel_rfl) (fun K hK => ?_)
                go_simp
                refine hK _ _ (⟨(World.cell?_of_block (a := ⟨w.heap.size + 1, 4, none⟩) (hb8.block (w.heap.size + 1) (by omega))).trans HSW.out.1, trivial⟩ : (W7.alloc (.cells #[.int .u64 (id : Int), .int .u32 (x : Int), .int .u32 (y : Int), .string vl] 47)).cell? ⟨w.heap.size + 1, 4, none⟩ = some (.slice o l.length cap) ∧ True) ?_
                clear hK K
                refine readyL 34 _ (by kernel_rfl) rfl (by kernel_rfl) (fun K hK => ?_)
                refine op_append 25 25 (.tmp 62) (.tmp 94) rfl rfl rfl hrun ?_
                replace HSW : Hid (W'.cell? ⟨w.heap.size + 1, 4, none⟩ = some (.slice o l.length cap) ∧ True) := ⟨z5, trivial⟩
                refine hK _ _ HSW.out ?_
                clear hK K hob keepg keepw x1 x2 x3 b7 hb8 hB' hrun
                conv in (Act.put _ _ _) => simp only [List.getElem_toArray, List.getElem_cons_succ, List.getElem_cons_zero, Act.put, List.setIfInBounds_toArray, List.set_cons_succ, List.set_cons_zero]
                refine wpLast_take (i := 35) (v := ?_) (by kernel_rfl) rfl (by kernel_rfl) (by kernel_rfl) (by kernel_rfl) (fun _ _ _ h => h) (Or.inl ⟨by kernel_rfl, ?_⟩) HSW.out ?_
                rotate_left
                · intro w hS
                  obtain ⟨e1, e2⟩ := hS
                  go_simp
                  try with_reducible rfl
                conv in (Act.put _ _ _) => simp only [List.getElem_toArray, List.getElem_cons_succ, List.getElem_cons_zero, Act.put, List.setIfInBounds_toArray, List.set_cons_succ, List.set_cons_zero]
                refine wpLast_end rfl (by kernel_rfl) (by kernel_rfl) (by kernel_rfl) ?_
                go_simp
                clear z4 z5
                have ln1 : (l.length : Int) < 256 := by have := HIN.out; omega
                go_wp2_with fail
                go_roundw
                case rel =>
                  refine ⟨l.length + 1, (.slice (some ⟨g', 0, none⟩) (l.length + 1) cap'), by have := HIN.out; omega, ?_, by go_num, ?_, ?_⟩
                  · rw [HRW.out]; simp only; congr 1
                  · rw [HRW.out]; exact HIN.out.2.1
                  · rw [HRW.out]; exact HFIN.out
                case measure =>
                  have := HIN.out
                  simp [natOf]
                  omega
          · have hN : l.length = N := by omega
            have q5 : ¬ (l.length : Int) < (N : Int) := by omega
            by_cases hz : a = s.size
            · have HR : Hid (Res s true ⟨1, 0, 0, 0, l, [], p, ⟨#[]⟩⟩) := by
                have := HRi.out hN
                rw [decide_eq_true hz] at this
                exact this
              have q8 : ((a : Int) == (s.size : Int)) = true := by simp; omega
              clear hlt hi hle hsm hN
              go_wp2_with (refine wpList_store_row rfl 30 (.tmp 2) (.tmp 101) rfl w.heap.size #[.int .i64 1, .int .u32 0, .int .u32 0, .int .i64 0, .slice o l.length cap, .slice none 0 0, .int .u32 (p : Int), .string ⟨#[]⟩] (by rfl) (by rfl) 30 #[.int .i64 0, .int .u32 0, .int .u32 0, .int .i64 0, .slice none 0 0, .slice none 0 0, .int .u32 0, .string ⟨#[]⟩] HRE.out HI.out (by rfl) (by kernel_rfl) ?_)
              refine bodyPost_ret (results_page2 rfl _ _ w.heap.size _ _ _ _ _ _ _ _ rfl rfl (setRow_heap _ _ _ _ _ _ HRE.out)) rfl ?_
              exact ⟨_, _, true, rfl, HF.out, HR.out, HE.out⟩
            · have HR : Hid (Res s false ⟨1, 0, 0, 0, l, [], p, ⟨#[]⟩⟩) := by
                have := HRi.out hN
                rw [decide_eq_false hz] at this
                exact this
              have q8 : ((a : Int) == (s.size : Int)) = false := by simp; omega
              clear hlt hi hle hsm hN
              go_wp2_with (refine wpList_store_row rfl 30 (.tmp 2) (.tmp 101) rfl w.heap.size #[.int .i64 1, .int .u32 0, .int .u32 0, .int .i64 0, .slice o l.length cap, .slice none 0 0, .int .u32 (p : Int), .string ⟨#[]⟩] (by rfl) (by rfl) 30 #[.int .i64 0, .int .u32 0, .int .u32 0, .int .i64 0, .slice none 0 0, .slice none 0 0, .int .u32 0, .string ⟨#[]⟩] HRE.out HI.out (by rfl) (by kernel_rfl) ?_)
              refine bodyPost_ret (results_page2 rfl _ _ w.heap.size _ _ _ _ _ _ _ _ rfl rfl (setRow_heap _ _ _ _ _ _ HRE.out)) rfl ?_
              exact ⟨_, _, false, rfl, HF.out, HR.out, HE.out⟩
      · have HNX' : Hid (nxA s = ⟨p, t⟩) := by
          refine (?_ : nxA s = ⟨p, t⟩)
          rw [HNX.out]
          have : isNo p t = false := by unfold isNo; simp [ht0]
          rw [this]; rfl
        have hte : (t.toList == noTag.toList) = false := by rw [beq_eq_false_iff_ne]; exact fun e => ba_ne ht0 e
        clear ht0
        generalize noTag = nT at *
        refine wpAnyH_take (i := 10) (v := ?_) rfl (by kernel_rfl) (by kernel_rfl) (by kernel_rfl) (fun _ _ _ h => h) (Or.inl ⟨by kernel_rfl, ?_⟩) HSW.out ?_
        rotate_left
        · intro w hS
          obtain ⟨e0, e1⟩ := hS
          go_simp
          try with_reducible rfl
        conv in (Act.put _ _ _) => simp only [List.getElem_toArray, List.getElem_cons_succ, List.getElem_cons_zero, Act.put, List.setIfInBounds_toArray, List.set_cons_succ, List.set_cons_zero]
        refine wpAnyH_take (i := 11) (v := ?_) rfl (by kernel_rfl) (by kernel_rfl) (by kernel_rfl) (fun _ _ _ h => h) (Or.inl ⟨by kernel_rfl, ?_⟩) HSW.out ?_
        rotate_left
        · intro w hS
          obtain ⟨e0, e1⟩ := hS
          go_simp
          try with_reducible rfl
        conv in (Act.put _ _ _) => simp only [List.getElem_toArray, List.getElem_cons_succ, List.getElem_cons_zero, Act.put, List.setIfInBounds_toArray, List.set_cons_succ, List.set_cons_zero]
        refine wpAnyH_done (by kernel_rfl) ?_ _
        generalize (W4.alloc (.cells (madeCells #[.int .u8 0] 32) 5)).drew = W5 at *
        clear HS5 HSW S4 HJ4 hte
        go_wp2_with fail
        have HJL : Hid (LJ w p t [] (.slice none 0 0) W5) := HJ5.out
        have HNL : Hid (nxA s = ⟨p, t⟩) := HNX'.out
        clear HJ5 HNX'
        clear HNX
        go_loopw [5, 6] (fun av iv wr => ∃ (i : Nat) (v : Value), i ≤ N ∧ av = .int .i64 ((rowsA s i).2 : Int) ∧ iv = .int .i64 (i : Int) ∧ (rowsA s i).2 ≤ s.size ∧ LJ w p t (rowsA s i).1 v wr) (fun _ iv _ => N - natOf iv)
        case atStart => exact ⟨0, .slice none 0 0, Nat.zero_le _, rfl, rfl, HSZ.out, HJL.out⟩
        case round =>
          obtain ⟨i, v, hi, rfl, rfl, hle, hj⟩ := hrel
          obtain ⟨o, cap, rfl, -⟩ := sl_of_own hj.own
          have hlen := rowsA_len s i
          have hsm := rowsA_small s i
          have HHi : Hid _ := HHALT.out i hle
          have hrow : rowsA s (i + 1) = ((rowsA s i).1 ++ [rowA s (rowsA s i).2 (bt s ((rowsA s i).2 + 16))], (rowsA s i).2 + 17 + bt s ((rowsA s i).2 + 16)) := rfl
          have hP : lfP s i = ⟨1, 0, 0, 0, (rowsA s i).1, [], p, t⟩ := by unfold lfP; rw [HNL.out]
          have HRi : Hid (i = N → Res s (decide ((rowsA s i).2 = s.size)) (lfP s i)) := fun e => by subst e; exact HRES.out hle
          rw [hP] at HRi
          obtain ⟨l, hl⟩ : ∃ l, (rowsA s i).1 = l := ⟨_, rfl⟩
          obtain ⟨a, ha⟩ : ∃ a, (rowsA s i).2 = a := ⟨_, rfl⟩
          rw [hl] at hlen hj hrow hP HRi
          rw [ha] at hle hsm HHi hrow HRi
          rw [hl] at *
          rw [ha]
          subst hlen
          have HJ : Hid _ := hj
          have HRW : Hid _ := hrow
          have hg := hj.pag
          obtain ⟨d0, d1, d2, d3, d4, d5, d6, d7⟩ := (pg_cells (q := ⟨1, 0, 0, 0, o, l.length, cap, none, 0, 0, p, t⟩) hg).1
          simp only at d0 d1 d2 d3 d4 d5 d6 d7
          have lp : w.heap.size + 1 < wr.heap.size := (Array.getElem?_eq_some_iff.1 hg).1
          have HRE : Hid _ := hj.res
          have HF : Hid _ := lf_end hj #[.int .i64 1, .int .u32 0, .int .u32 0, .int .i64 0, .slice o l.length cap, .slice none 0 0, .int .u32 (p : Int), .string t]
          have HE : Hid (Below w.heap.size w (wr.setRow w.heap.size #[.int .i64 1, .int .u32 0, .int .u32 0, .int .i64 0, .slice o l.length cap, .slice none 0 0, .int .u32 (p : Int), .string t])) := below_row hj.bel (Nat.le_refl _) _
          have a0 : (0 : Int) ≤ (a : Int) := by omega
          have a1 : (a : Int) ≤ 100000 := by omega
          clear hj hg hrow hP hl ha
          by_cases hlt : l.length < N
          · have q5 : (l.length : Int) < (N : Int) := by omega
            by_cases h17 : s.size < a + 17
            · have HR : Hid (Res s false ⟨1, 0, 0, 0, l, [], p, t⟩) := res_no (HHi.out (row_short1 h17) hlt)
              have q6 : (s.size : Int) < (a : Int) + 17 := by omega
              clear h17 hlt hi hle hsm
              go_wp2_with (refine wpList_store_row rfl 30 (.tmp 2) (.tmp 47) rfl w.heap.size #[.int .i64 1, .int .u32 0, .int .u32 0, .int .i64 0, .slice o l.length cap, .slice none 0 0, .int .u32 (p : Int), .string t] (by rfl) (by rfl) 30 #[.int .i64 0, .int .u32 0, .int .u32 0, .int .i64 0, .slice none 0 0, .slice none 0 0, .int .u32 0, .string ⟨#[]⟩] HRE.out HI.out (by rfl) (by kernel_rfl) ?_)
              refine bodyPost_ret (results_page2 rfl _ _ w.heap.size _ _ _ _ _ _ _ _ rfl rfl (setRow_heap _ _ _ _ _ _ HRE.out)) rfl ?_
              exact ⟨_, _, false, rfl, HF.out, HR.out, HE.out⟩
            · have q6 : ¬ (s.size : Int) < (a : Int) + 17 := by omega
              have hidx2 : ∀ w', (Instr.index 9 (.string s) (.int .i64 ((a : Int) + 16))).run Try.prog w' = .ok (.int .u8 (bt s (a + 16) : Int)) w' := fun w' => by
                have := idx_s s (a + 16) (by omega) w'
                rwa [show ((a + 16 : Nat) : Int) = (a : Int) + 16 by omega] at this
              have hm := bt_lt s (a + 16)
              have HSH2 : Hid (s.size < a + 17 + bt s (a + 16) → decOK s = false) := fun h => HHi.out (row_short2 (by omega) h) hlt
              obtain ⟨m, hmm⟩ : ∃ m, bt s (a + 16) = m := ⟨_, rfl⟩
              rw [hmm] at hidx2 hm HSH2 HRW
              have m0 : (0 : Int) ≤ (m : Int) := by omega
              have m1 : (m : Int) < 256 := by omega
              by_cases h18 : s.size < a + 17 + m
              · have HR : Hid (Res s false ⟨1, 0, 0, 0, l, [], p, t⟩) := res_no (HSH2.out h18)
                have q7 : (s.size : Int) < (a : Int) + 17 + (m : Int) := by omega
                clear h17 h18 hlt hi hle hsm hmm
                go_wp2_with (refine wpList_store_row rfl 30 (.tmp 2) (.tmp 60) rfl w.heap.size #[.int .i64 1, .int .u32 0, .int .u32 0, .int .i64 0, .slice o l.length cap, .slice none 0 0, .int .u32 (p : Int), .string t] (by rfl) (by rfl) 30 #[.int .i64 0, .int .u32 0, .int .u32 0, .int .i64 0, .slice none 0 0, .slice none 0 0, .int .u32 0, .string ⟨#[]⟩] HRE.out HI.out (by rfl) (by kernel_rfl) ?_)
                refine bodyPost_ret (results_page2 rfl _ _ w.heap.size _ _ _ _ _ _ _ _ rfl rfl (setRow_heap _ _ _ _ _ _ HRE.out)) rfl ?_
                exact ⟨_, _, false, rfl, HF.out, HR.out, HE.out⟩
              · have q7 : ¬ (s.size : Int) < (a : Int) + 17 + (m : Int) := by omega
                have hrA : rowA s a m = ⟨valB (s.extract a (a + 8)) 8, valB (s.extract (a + 8) (a + 12)) 4, valB (s.extract (a + 12) (a + 16)) 4, s.extract (a + 17) (a + 17 + m)⟩ := rfl
                have g1 : Hid _ := HGT.out (s.extract a (a + 8)) (by rw [ByteArray.size_extract]; omega)
                have g2 : Hid _ := HGT.out (s.extract (a + 8) (a + 12)) (by rw [ByteArray.size_extract]; omega)
                have g3 : Hid _ := HGT.out (s.extract (a + 12) (a + 16)) (by rw [ByteArray.size_extract]; omega)
                rw [show (s.extract a (a + 8)).size = 8 by rw [ByteArray.size_extract]; omega] at g1
                rw [show (s.extract (a + 8) (a + 12)).size = 4 by rw [ByteArray.size_extract]; omega] at g2
                rw [show (s.extract (a + 12) (a + 16)).size = 4 by rw [ByteArray.size_extract]; omega] at g3
                have vx2 := valB_lt (s.extract (a + 8) (a + 12)) 4
                have vy2 := valB_lt (s.extract (a + 12) (a + 16)) 4
                simp only [Nat.reduceMul, Nat.reducePow] at vx2 vy2
                generalize valB (s.extract a (a + 8)) 8 = id at *
                generalize valB (s.extract (a + 8) (a + 12)) 4 = x at *
                generalize valB (s.extract (a + 12) (a + 16)) 4 = y at *
                obtain ⟨vl, hvl⟩ : ∃ vl, s.extract (a + 17) (a + 17 + m) = vl := ⟨_, rfl⟩
                rw [hvl] at hrA
                rw [hrA] at HRW
                have HVL : Hid _ := hvl
                have cx2 : IntKind.u32.wrap (x : Int) = (x : Int) := IntWalk.u32_in _ ⟨by omega, by omega⟩
                have cy2 : IntKind.u32.wrap (y : Int) = (y : Int) := IntWalk.u32_in _ ⟨by omega, by omega⟩
                have HIN : Hid (l.length < N ∧ a + 17 + m ≤ s.size ∧ N < 256) := ⟨hlt, by omega, hn⟩
                have w8 : IntKind.i64.wrap ((a : Int) + 8) = (a : Int) + 8 := IntWalk.i64_in _ ⟨by omega, by omega⟩
                have w12 : IntKind.i64.wrap ((a : Int) + 12) = (a : Int) + 12 := IntWalk.i64_in _ ⟨by omega, by omega⟩
                have w16 : IntKind.i64.wrap ((a : Int) + 16) = (a : Int) + 16 := IntWalk.i64_in _ ⟨by omega, by omega⟩
                have w17 : IntKind.i64.wrap ((a : Int) + 17) = (a : Int) + 17 := IntWalk.i64_in _ ⟨by omega, by omega⟩
                have w18 : IntKind.i64.wrap ((a : Int) + 17 + (m : Int)) = (a : Int) + 17 + (m : Int) := IntWalk.i64_in _ ⟨by omega, by omega⟩
                have y8 : ((a : Int) + 8).toNat = a + 8 := by omega
                have y12 : ((a : Int) + 12).toNat = a + 12 := by omega
                have y16 : ((a : Int) + 16).toNat = a + 16 := by omega
                have y17 : ((a : Int) + 17).toNat = a + 17 := by omega
                have y18 : ((a : Int) + 17 + (m : Int)).toNat = a + 17 + m := by omega
                have t8 : (a : Int) + 8 ≤ (s.size : Int) := by omega
                have t12 : (a : Int) + 12 ≤ (s.size : Int) := by omega
                have t16 : (a : Int) + 16 ≤ (s.size : Int) := by omega
                have t18 : (a : Int) + 17 + (m : Int) ≤ (s.size : Int) := by omega
                have u8 : (a : Int) ≤ (a : Int) + 8 := by omega
                have u12 : (a : Int) + 8 ≤ (a : Int) + 12 := by omega
                have u16 : (a : Int) + 12 ≤ (a : Int) + 16 := by omega
                have u18 : (a : Int) + 17 ≤ (a : Int) + 17 + (m : Int) := by omega
                have o8 : (0 : Int) ≤ (a : Int) + 8 := by omega
                have o12 : (0 : Int) ≤ (a : Int) + 12 := by omega
                have o17 : (0 : Int) ≤ (a : Int) + 17 := by omega
                clear h17 h18 hlt hi hle hsm hmm hrA hvl hm
                go_wp2_with fail
                clear q5 q6 q7 hidx2
                refine region_lastP (z := 36) (S := fun W => W.cell? ⟨w.heap.size + 1, 4, none⟩ = some (.slice o l.length cap) ∧ True) (by kernel_rfl) ?_
                change wpLast _ _ _ _ _ _ 37 _ _ _
                have HSW : Hid (wr.drew.cell? ⟨w.heap.size + 1, 4, none⟩ = some (.slice o l.length cap) ∧ True) := ⟨d4, trivial⟩
                clear d0 d1 d2 d3 d5 d6 d7
                refine wpLast_take (i := 0) (v := ?_) (by kernel_rfl) rfl (by kernel_rfl) (by kernel_rfl) (by kernel_rfl) (fun _ _ _ h => h) (Or.inl ⟨by kernel_rfl, ?_⟩) HSW.out ?_
                rotate_left
                · intro w hS
                  obtain ⟨e1, e2⟩ := hS
                  go_simp
                  try with_reducible rfl
                conv in (Act.put _ _ _) => simp only [List.getElem_toArray, List.getElem_cons_succ, List.getElem_cons_zero, Act.put, List.setIfInBounds_toArray, List.set_cons_succ, List.set_cons_zero]
                refine wpLast_take (i := 1) (v := ?_) (by kernel_rfl) rfl (by kernel_rfl) (by kernel_rfl) (by kernel_rfl) (fun _ _ _ h => h) (Or.inl ⟨by kernel_rfl, ?_⟩) HSW.out ?_
                rotate_left
                · intro w hS
                  obtain ⟨e1, e2⟩ := hS
                  go_simp
                  try with_reducible rfl
                conv in (Act.put _ _ _) => simp only [List.getElem_toArray, List.getElem_cons_succ, List.getElem_cons_zero, Act.put, List.setIfInBounds_toArray, List.set_cons_succ, List.set_cons_zero]
                refine wpLast_take (i := 2) (v := ?_) (by kernel_rfl) rfl (by kernel_rfl) (by kernel_rfl) (by kernel_rfl) (fun _ _ _ h => h) (Or.inl ⟨by kernel_rfl, ?_⟩) HSW.out ?_
                rotate_left
                · intro w hS
                  obtain ⟨e1, e2⟩ := hS
                  go_simp
                  try with_reducible rfl
                conv in (Act.put _ _ _) => simp only [List.getElem_toArray, List.getElem_cons_succ, List.getElem_cons_zero, Act.put, List.setIfInBounds_toArray, List.set_cons_succ, List.set_cons_zero]
                refine wpLast_take (i := 3) (v := ?_) (by kernel_rfl) rfl (by kernel_rfl) (by kernel_rfl) (by kernel_rfl) (fun _ _ _ h => h) (Or.inl ⟨by kernel_rfl, ?_⟩) HSW.out ?_
                rotate_left
                · intro w hS
                  obtain ⟨e1, e2⟩ := hS
                  go_simp
                  try with_reducible rfl
                conv in (Act.put _ _ _) => simp only [List.getElem_toArray, List.getElem_cons_succ, List.getElem_cons_zero, Act.put, List.setIfInBounds_toArray, List.set_cons_succ, List.set_cons_zero]
                refine wpLast_take (i := 4) (v := ?_) (by kernel_rfl) rfl (by kernel_rfl) (by kernel_rfl) (by kernel_rfl) (fun _ _ _ h => h) (Or.inl ⟨by kernel_rfl, ?_⟩) HSW.out ?_
                rotate_left
                · intro w hS
                  obtain ⟨e1, e2⟩ := hS
                  go_simp
                  try with_reducible rfl
                conv in (Act.put _ _ _) => simp only [List.getElem_toArray, List.getElem_cons_succ, List.getElem_cons_zero, Act.put, List.setIfInBounds_toArray, List.set_cons_succ, List.set_cons_zero]
                refine wpLast_take (i := 5) (v := ?_) (by kernel_rfl) rfl (by kernel_rfl) (by kernel_rfl) (by kernel_rfl) (fun _ _ _ h => h) (Or.inl ⟨by kernel_rfl, ?_⟩) HSW.out ?_
                rotate_left
                · intro w hS
                  obtain ⟨e1, e2⟩ := hS
                  go_simp
                  try with_reducible rfl
                conv in (Act.put _ _ _) => simp only [List.getElem_toArray, List.getElem_cons_succ, List.getElem_cons_zero, Act.put, List.setIfInBounds_toArray, List.set_cons_succ, List.set_cons_zero]
                refine wpLast_take (i := 6) (v := ?_) (by kernel_rfl) rfl (by kernel_rfl) (by kernel_rfl) (by kernel_rfl) (fun _ _ _ h => h) (Or.inl ⟨by kernel_rfl, ?_⟩) HSW.out ?_
                rotate_left
                · intro w hS
                  obtain ⟨e1, e2⟩ := hS
                  go_simp
                  try with_reducible rfl
                conv in (Act.put _ _ _) => simp only [List.getElem_toArray, List.getElem_cons_succ, List.getElem_cons_zero, Act.put, List.setIfInBounds_toArray, List.set_cons_succ, List.set_cons_zero]
                refine wpLast_take (i := 8) (v := ?_) (by kernel_rfl) rfl (by kernel_rfl) (by kernel_rfl) (by kernel_rfl) (fun _ _ _ h => h) (Or.inl ⟨by kernel_rfl, ?_⟩) HSW.out ?_
                rotate_left
                · intro w hS
                  obtain ⟨e1, e2⟩ := hS
                  go_simp
                  try with_reducible rfl
                conv in (Act.put _ _ _) => simp only [List.getElem_toArray, List.getElem_cons_succ, List.getElem_cons_zero, Act.put, List.setIfInBounds_toArray, List.set_cons_succ, List.set_cons_zero]
                refine wpLast_take (i := 9) (v := ?_) (by kernel_rfl) rfl (by kernel_rfl) (by kernel_rfl) (by kernel_rfl) (fun _ _ _ h => h) (Or.inl ⟨by kernel_rfl, ?_⟩) HSW.out ?_
                rotate_left
                · intro w hS
                  obtain ⟨e1, e2⟩ := hS
                  go_simp
                  try with_reducible rfl
                conv in (Act.put _ _ _) => simp only [List.getElem_toArray, List.getElem_cons_succ, List.getElem_cons_zero, Act.put, List.setIfInBounds_toArray, List.set_cons_succ, List.set_cons_zero]
                refine wpLast_take (i := 10) (v := ?_) (by kernel_rfl) rfl (by kernel_rfl) (by kernel_rfl) (by kernel_rfl) (fun _ _ _ h => h) (Or.inl ⟨by kernel_rfl, ?_⟩) HSW.out ?_
                rotate_left
                · intro w hS
                  obtain ⟨e1, e2⟩ := hS
                  go_simp
                  try with_reducible rfl
                conv in (Act.put _ _ _) => simp only [List.getElem_toArray, List.getElem_cons_succ, List.getElem_cons_zero, Act.put, List.setIfInBounds_toArray, List.set_cons_succ, List.set_cons_zero]
                refine wpLast_take (i := 11) (v := ?_) (by kernel_rfl) rfl (by kernel_rfl) (by kernel_rfl) (by kernel_rfl) (fun _ _ _ h => h) (Or.inl ⟨by kernel_rfl, ?_⟩) HSW.out ?_
                rotate_left
                · intro w hS
                  obtain ⟨e1, e2⟩ := hS
                  go_simp
                  try with_reducible rfl
                conv in (Act.put _ _ _) => simp only [List.getElem_toArray, List.getElem_cons_succ, List.getElem_cons_zero, Act.put, List.setIfInBounds_toArray, List.set_cons_succ, List.set_cons_zero]
                refine wpLast_take (i := 12) (v := ?_) (by kernel_rfl) rfl (by kernel_rfl) (by kernel_rfl) (by kernel_rfl) (fun _ _ _ h => h) (Or.inl ⟨by kernel_rfl, ?_⟩) HSW.out ?_
                rotate_left
                · intro w hS
                  obtain ⟨e1, e2⟩ := hS
                  go_simp
                  try with_reducible rfl
                conv in (Act.put _ _ _) => simp only [List.getElem_toArray, List.getElem_cons_succ, List.getElem_cons_zero, Act.put, List.setIfInBounds_toArray, List.set_cons_succ, List.set_cons_zero]
                refine wpLast_take (i := 13) (v := ?_) (by kernel_rfl) rfl (by kernel_rfl) (by kernel_rfl) (by kernel_rfl) (fun _ _ _ h => h) (Or.inl ⟨by kernel_rfl, ?_⟩) HSW.out ?_
                rotate_left
                · intro w hS
                  obtain ⟨e1, e2⟩ := hS
                  go_simp
                  try with_reducible rfl
                conv in (Act.put _ _ _) => simp only [List.getElem_toArray, List.getElem_cons_succ, List.getElem_cons_zero, Act.put, List.setIfInBounds_toArray, List.set_cons_succ, List.set_cons_zero]
                refine wpLast_take (i := 16) (v := ?_) (by kernel_rfl) rfl (by kernel_rfl) (by kernel_rfl) (by kernel_rfl) (fun _ _ _ h => h) (Or.inl ⟨by kernel_rfl, ?_⟩) HSW.out ?_
                rotate_left
                · intro w hS
                  obtain ⟨e1, e2⟩ := hS
                  go_simp
                  try with_reducible rfl
                conv in (Act.put _ _ _) => simp only [List.getElem_toArray, List.getElem_cons_succ, List.getElem_cons_zero, Act.put, List.setIfInBounds_toArray, List.set_cons_succ, List.set_cons_zero]
                refine wpLast_take (i := 17) (v := ?_) (by kernel_rfl) rfl (by kernel_rfl) (by kernel_rfl) (by kernel_rfl) (fun _ _ _ h => h) (Or.inl ⟨by kernel_rfl, ?_⟩) HSW.out ?_
                rotate_left
                · intro w hS
                  obtain ⟨e1, e2⟩ := hS
                  go_simp
                  try with_reducible rfl
                conv in (Act.put _ _ _) => simp only [List.getElem_toArray, List.getElem_cons_succ, List.getElem_cons_zero, Act.put, List.setIfInBounds_toArray, List.set_cons_succ, List.set_cons_zero]
                refine wpLast_take (i := 18) (v := ?_) (by kernel_rfl) rfl (by kernel_rfl) (by kernel_rfl) (by kernel_rfl) (fun _ _ _ h => h) (Or.inl ⟨by kernel_rfl, ?_⟩) HSW.out ?_
                rotate_left
                · intro w hS
                  obtain ⟨e1, e2⟩ := hS
                  go_simp
                  try with_reducible rfl
                conv in (Act.put _ _ _) => simp only [List.getElem_toArray, List.getElem_cons_succ, List.getElem_cons_zero, Act.put, List.setIfInBounds_toArray, List.set_cons_succ, List.set_cons_zero]
                refine wpLast_take (i := 19) (v := ?_) (by kernel_rfl) rfl (by kernel_rfl) (by kernel_rfl) (by kernel_rfl) (fun _ _ _ h => h) (Or.inl ⟨by kernel_rfl, ?_⟩) HSW.out ?_
                rotate_left
                · intro w hS
                  obtain ⟨e1, e2⟩ := hS
                  go_simp
                  try with_reducible rfl
                conv in (Act.put _ _ _) => simp only [List.getElem_toArray, List.getElem_cons_succ, List.getElem_cons_zero, Act.put, List.setIfInBounds_toArray, List.set_cons_succ, List.set_cons_zero]
                refine wpLast_take (i := 20) (v := ?_) (by kernel_rfl) rfl (by kernel_rfl) (by kernel_rfl) (by kernel_rfl) (fun _ _ _ h => h) (Or.inl ⟨by kernel_rfl, ?_⟩) HSW.out ?_
                rotate_left
                · intro w hS
                  obtain ⟨e1, e2⟩ := hS
                  go_simp
                  try with_reducible rfl
                conv in (Act.put _ _ _) => simp only [List.getElem_toArray, List.getElem_cons_succ, List.getElem_cons_zero, Act.put, List.setIfInBounds_toArray, List.set_cons_succ, List.set_cons_zero]
                refine wpLast_take (i := 21) (v := ?_) (by kernel_rfl) rfl (by kernel_rfl) (by kernel_rfl) (by kernel_rfl) (fun _ _ _ h => h) (Or.inl ⟨by kernel_rfl, ?_⟩) HSW.out ?_
                rotate_left
                · intro w hS
                  obtain ⟨e1, e2⟩ := hS
                  go_simp
                  try with_reducible rfl
                conv in (Act.put _ _ _) => simp only [List.getElem_toArray, List.getElem_cons_succ, List.getElem_cons_zero, Act.put, List.setIfInBounds_toArray, List.set_cons_succ, List.set_cons_zero]
                refine wpLast_take (i := 24) (v := ?_) (by kernel_rfl) rfl (by kernel_rfl) (by kernel_rfl) (by kernel_rfl) (fun _ _ _ h => h) (Or.inl ⟨by kernel_rfl, ?_⟩) HSW.out ?_
                rotate_left
                · intro w hS
                  obtain ⟨e1, e2⟩ := hS
                  go_simp
                  try with_reducible rfl
                conv in (Act.put _ _ _) => simp only [List.getElem_toArray, List.getElem_cons_succ, List.getElem_cons_zero, Act.put, List.setIfInBounds_toArray, List.set_cons_succ, List.set_cons_zero]
                refine wpLast_take (i := 25) (v := ?_) (by kernel_rfl) rfl (by kernel_rfl) (by kernel_rfl) (by kernel_rfl) (fun _ _ _ h => h) (Or.inl ⟨by kernel_rfl, ?_⟩) HSW.out ?_
                rotate_left
                · intro w hS
                  obtain ⟨e1, e2⟩ := hS
                  go_simp
                  try with_reducible rfl
                conv in (Act.put _ _ _) => simp only [List.getElem_toArray, List.getElem_cons_succ, List.getElem_cons_zero, Act.put, List.setIfInBounds_toArray, List.set_cons_succ, List.set_cons_zero]
                refine wpLast_take (i := 26) (v := ?_) (by kernel_rfl) rfl (by kernel_rfl) (by kernel_rfl) (by kernel_rfl) (fun _ _ _ h => h) (Or.inl ⟨by kernel_rfl, ?_⟩) HSW.out ?_
                rotate_left
                · intro w hS
                  obtain ⟨e1, e2⟩ := hS
                  go_simp
                  try with_reducible rfl
                conv in (Act.put _ _ _) => simp only [List.getElem_toArray, List.getElem_cons_succ, List.getElem_cons_zero, Act.put, List.setIfInBounds_toArray, List.set_cons_succ, List.set_cons_zero]
                refine wpLast_take (i := 27) (v := ?_) (by kernel_rfl) rfl (by kernel_rfl) (by kernel_rfl) (by kernel_rfl) (fun _ _ _ h => h) (Or.inl ⟨by kernel_rfl, ?_⟩) HSW.out ?_
                rotate_left
                · intro w hS
                  obtain ⟨e1, e2⟩ := hS
                  go_simp
                  try with_reducible rfl
                conv in (Act.put _ _ _) => simp only [List.getElem_toArray, List.getElem_cons_succ, List.getElem_cons_zero, Act.put, List.setIfInBounds_toArray, List.set_cons_succ, List.set_cons_zero]
                refine wpLast_take (i := 28) (v := ?_) (by kernel_rfl) rfl (by kernel_rfl) (by kernel_rfl) (by kernel_rfl) (fun _ _ _ h => h) (Or.inl ⟨by kernel_rfl, ?_⟩) HSW.out ?_
                rotate_left
                · intro w hS
                  obtain ⟨e1, e2⟩ := hS
                  go_simp
                  try with_reducible rfl
                conv in (Act.put _ _ _) => simp only [List.getElem_toArray, List.getElem_cons_succ, List.getElem_cons_zero, Act.put, List.setIfInBounds_toArray, List.set_cons_succ, List.set_cons_zero]
                refine wpLast_take (i := 29) (v := ?_) (by kernel_rfl) rfl (by kernel_rfl) (by kernel_rfl) (by kernel_rfl) (fun _ _ _ h => h) (Or.inl ⟨by kernel_rfl, ?_⟩) HSW.out ?_
                rotate_left
                · intro w hS
                  obtain ⟨e1, e2⟩ := hS
                  go_simp
                  try with_reducible rfl
                conv in (Act.put _ _ _) => simp only [List.getElem_toArray, List.getElem_cons_succ, List.getElem_cons_zero, Act.put, List.setIfInBounds_toArray, List.set_cons_succ, List.set_cons_zero]
                refine wpLast_take (i := 30) (v := ?_) (by kernel_rfl) rfl (by kernel_rfl) (by kernel_rfl) (by kernel_rfl) (fun _ _ _ h => h) (Or.inl ⟨by kernel_rfl, ?_⟩) HSW.out ?_
                rotate_left
                · intro w hS
                  obtain ⟨e1, e2⟩ := hS
                  go_simp
                  try with_reducible rfl
                conv in (Act.put _ _ _) => simp only [List.getElem_toArray, List.getElem_cons_succ, List.getElem_cons_zero, Act.put, List.setIfInBounds_toArray, List.set_cons_succ, List.set_cons_zero]
                refine wpLast_take (i := 31) (v := ?_) (by kernel_rfl) rfl (by kernel_rfl) (by kernel_rfl) (by kernel_rfl) (fun _ _ _ h => h) (Or.inl ⟨by kernel_rfl, ?_⟩) HSW.out ?_
                rotate_left
                · intro w hS
                  obtain ⟨e1, e2⟩ := hS
                  go_simp
                  try with_reducible rfl
                conv in (Act.put _ _ _) => simp only [List.getElem_toArray, List.getElem_cons_succ, List.getElem_cons_zero, Act.put, List.setIfInBounds_toArray, List.set_cons_succ, List.set_cons_zero]
                rw [HVL.out]
                refine readyL 7 _ (by kernel_rfl) rfl (by kernel_rfl) (fun K hK => ?_)
                go_simp
                refine (g1.out wr.drew).mono ?_
                rintro e W5a ⟨rfl, bb⟩
                have c5 : Below wr.heap.size wr W5a := (Below.refl _ wr).drew.trans (bb.mono (Nat.le_refl _))
                have HC5 : Hid (Below wr.heap.size wr W5a) := c5
                replace HSW : Hid (W5a.cell? ⟨w.heap.size + 1, 4, none⟩ = some (.slice o l.length cap) ∧ True) := ⟨(World.cell?_of_block (a := ⟨w.heap.size + 1, 4, none⟩) (c5.block (w.heap.size + 1) lp)).trans d4, trivial⟩
                clear bb c5
                refine hK _ _ HSW.out ?_
                clear hK K
                refine readyL 14 _ (by kernel_rfl) rfl (by kernel_rfl) (fun K hK => ?_)
                go_simp
                refine (g2.out W5a).mono ?_
                rintro e W6a ⟨rfl, bb⟩
                have c6 : Below wr.heap.size wr W6a := HC5.out.trans (bb.mono HC5.out.size)
                have HC6 : Hid (Below wr.heap.size wr W6a) := c6
                replace HSW : Hid (W6a.cell? ⟨w.heap.size + 1, 4, none⟩ = some (.slice o l.length cap) ∧ True) := ⟨(World.cell?_of_block (a := ⟨w.heap.size + 1, 4, none⟩) (c6.block (w.heap.size + 1) lp)).trans d4, trivial⟩
                clear bb c6
                refine hK _ _ HSW.out ?_
                clear hK K
                refine wpLast_take (i := 15) (v := ?_) (by kernel_rfl) rfl (by kernel_rfl) (by kernel_rfl) (by kernel_rfl) (fun _ _ _ h => h) (Or.inl ⟨by kernel_rfl, ?_⟩) HSW.out ?_
                rotate_left
                · intro w hS
                  obtain ⟨e1, e2⟩ := hS
                  go_simp
                  try with_reducible rfl
                conv in (Act.put _ _ _) => simp only [List.getElem_toArray, List.getElem_cons_succ, List.getElem_cons_zero, Act.put, List.setIfInBounds_toArray, List.set_cons_succ, List.set_cons_zero]
                refine readyL 22 _ (by kernel_rfl) rfl (by kernel_rfl) (fun K hK => ?_)
                go_simp
                refine (g3.out W6a).mono ?_
                rintro e W7 ⟨rfl, bb⟩
                have b7 : Below wr.heap.size wr W7 := HC6.out.trans (bb.mono HC6.out.size)
                replace HSW : Hid (W7.cell? ⟨w.heap.size + 1, 4, none⟩ = some (.slice o l.length cap) ∧ True) := ⟨(World.cell?_of_block (a := ⟨w.heap.size + 1, 4, none⟩) (b7.block (w.heap.size + 1) lp)).trans d4, trivial⟩
                clear bb
                refine hK _ _ HSW.out ?_
                clear hK K
                refine wpLast_take (i := 23) (v := ?_) (by kernel_rfl) rfl (by kernel_rfl) (by kernel_rfl) (by kernel_rfl) (fun _ _ _ h => h) (Or.inl ⟨by kernel_rfl, ?_⟩) HSW.out ?_
                rotate_left
                · intro w hS
                  obtain ⟨e1, e2⟩ := hS
                  go_simp
                  try with_reducible rfl
                conv in (Act.put _ _ _) => simp only [List.getElem_toArray, List.getElem_cons_succ, List.getElem_cons_zero, Act.put, List.setIfInBounds_toArray, List.set_cons_succ, List.set_cons_zero]
                refine wpLast_take (i := 32) (v := ?_) (by kernel_rfl) rfl (by kernel_rfl) (by kernel_rfl) (by kernel_rfl) (fun _ _ _ h => h) (Or.inl ⟨by kernel_rfl, ?_⟩) HSW.out ?_
                rotate_left
                · intro w hS
                  obtain ⟨e1, e2⟩ := hS
                  go_simp
                  try with_reducible rfl
                conv in (Act.put _ _ _) => simp only [List.getElem_toArray, List.getElem_cons_succ, List.getElem_cons_zero, Act.put, List.setIfInBounds_toArray, List.set_cons_succ, List.set_cons_zero]
                have hb8 := below_new W7 (.cells #[.int .u64 (id : Int), .int .u32 (x : Int), .int .u32 (y : Int), .string vl] 47)
                have hs7 := b7.size
                have hbs := HJ.out.bel.size
                obtain ⟨v', W', hrun, x1, x2, x3⟩ := append_sl 25 47 Try.underlying25 infoRow rfl (by decide) (by decide) (W7.alloc (.cells #[.int .u64 (id : Int), .int .u32 (x : Int), .int .u32 (y : Int), .string vl] 47)) (w.heap.size + 2) l.length 1 (.slice o l.length cap) (some ⟨W7.heap.size, 0, none⟩) 1
                  (l.flatMap rc) (rc ⟨id, x, y, vl⟩) (own_sameR HJ.out.own fun b h1 h2 => (hb8.block b (by omega)).trans (b7.block b h2)) (by simp; omega) (one_rowR (r := ⟨id, x, y, vl⟩) (heap_alloc_new W7 _)) (rc_one1 _) (by have := HIN.out; omega)
                have hob : ∀ b, (Value.slice o l.length cap).ownBlock = some b → w.heap.size + 2 ≤ b := fun b hb => own_baseR HJ.out.own hb
                have keepg : W'.heap[w.heap.size + 1]? = some (.cells #[.int .i64 1, .int .u32 0, .int .u32 0, .int .i64 0, .slice o l.length cap, .slice none 0 0, .int .u32 (p : Int), .string t] 30 (0, 0)) := (x2.block _ (by simp; omega) (by intro e; have := hob _ e.symm; omega)).trans ((hb8.block _ (by omega)).trans ((b7.block _ lp).trans HJ.out.pag))
                have keepw : W'.heap[w.heap.size]? = some (.cells #[.int .i64 0, .int .u32 0, .int .u32 0, .int .i64 0, .slice none 0 0, .slice none 0 0, .int .u32 0, .string ⟨#[]⟩] 30 (0, 0)) := (x2.block _ (by simp; omega) (by intro e; have := hob _ e.symm; omega)).trans ((hb8.block _ (by omega)).trans ((b7.block _ (by omega)).trans HJ.out.res))
                have hB' : Below w.heap.size w W' := ((HJ.out.bel.trans (b7.mono (by omega))).trans (hb8.mono (by omega))).grown x2 (by simp; omega) fun b eb => by have := hob b eb; omega
                obtain ⟨g', cap', rfl⟩ := ownsRow_succ x1
                have hgb := own_baseR x1 (b := g') rfl
                have z4 := frozen_of_row W' (w.heap.size + 1) 4 _ _ keepg
                have z5 : W'.cell? ⟨w.heap.size + 1, 4, none⟩ = some (.slice o l.length cap) := by rw [cell_of_row _ _ _ _ _ _ keepg]; rfl
                have HFIN : Hid (LJ w p t (l ++ [⟨id, x, y, vl⟩]) (.slice (some ⟨g', 0, none⟩) (l.length + 1) cap') (W'.setCell ⟨w.heap.size + 1, 4, none⟩ (.slice (some ⟨g', 0, none⟩) (l.length + 1) cap'))) := by
                  refine (?_ : LJ w p t (l ++ [⟨id, x, y, vl⟩]) (.slice (some ⟨g', 0, none⟩) (l.length + 1) cap') (W'.setCell ⟨w.heap.size + 1, 4, none⟩ (.slice (some ⟨g', 0, none⟩) (l.length + 1) cap')))
                  have hoth : ∀ j, j ≠ w.heap.size + 1 → (W'.setCell ⟨w.heap.size + 1, 4, none⟩ (.slice (some ⟨g', 0, none⟩) (l.length + 1) cap')).heap[j]? = W'.heap[j]? := fun j hj => Below.heap_setCell _ _ _ _ (fun e => hj e)
                  refine ⟨(hoth _ (by omega)).trans keepw, ?_, ?_, ⟨hB'.os, hB'.tape, hB'.output, by rw [st_size]; exact hB'.size, fun j hj => (hoth j (by omega)).trans (hB'.block j hj)⟩⟩
                  · have := heap_setCell_same W' (w.heap.size + 1) 4 _ _ (.slice (some ⟨g', 0, none⟩) (l.length + 1) cap') keepg
                    simpa [List.setIfInBounds_toArray] using this
                  · have e1 : (l ++ [(⟨id, x, y, vl⟩ : Rw)]).length = l.length + 1 := by simp
                    have e2 : (l ++ [(⟨id, x, y, vl⟩ : Rw)]).flatMap rc = l.flatMap rc ++ rc ⟨id, x, y, vl⟩ := by rw [List.flatMap_append]; simp
                    rw [e1, e2]
                    exact own_sameR x1 fun b h1 h2 => hoth b (by omega)
                refine readyL 33 _ (by kernel_rfl) rfl (by kernel_rfl) (fun K hK => ?_)
                go_simp
                refine hK _ _ (⟨(World.cell?_of_block (a := ⟨w.heap.size + 1, 4, none⟩) (hb8.block (w.heap.size + 1) (by omega))).trans HSW.out.1, trivial⟩ : (W7.alloc (.cells #[.int .u64 (id : Int), .int .u32 (x : Int), .int .u32 (y : Int), .string vl] 47)).cell? ⟨w.heap.size + 1, 4, none⟩ = some (.slice o l.length cap) ∧ True) ?_
                clear hK K
                refine readyL 34 _ (by kernel_rfl) rfl (by kernel_rfl) (fun K hK => ?_)
                refine op_append 25 25 (.tmp 62) (.tmp 94) rfl rfl rfl hrun ?_
                replace HSW : Hid (W'.cell? ⟨w.heap.size + 1, 4, none⟩ = some (.slice o l.length cap) ∧ True) := ⟨z5, trivial⟩
                refine hK _ _ HSW.out ?_
                clear hK K hob keepg keepw x1 x2 x3 b7 hb8 hB' hrun
                conv in (Act.put _ _ _) => simp only [List.getElem_toArray, List.getElem_cons_succ, List.getElem_cons_zero, Act.put, List.setIfInBounds_toArray, List.set_cons_succ, List.set_cons_zero]
                refine wpLast_take (i := 35) (v := ?_) (by kernel_rfl) rfl (by kernel_rfl) (by kernel_rfl) (by kernel_rfl) (fun _ _ _ h => h) (Or.inl ⟨by kernel_rfl, ?_⟩) HSW.out ?_
                rotate_left
                · intro w hS
                  obtain ⟨e1, e2⟩ := hS
                  go_simp
                  try with_reducible rfl
                conv in (Act.put _ _ _) => simp only [List.getElem_toArray, List.getElem_cons_succ, List.getElem_cons_zero, Act.put, List.setIfInBounds_toArray, List.set_cons_succ, List.set_cons_zero]
                refine wpLast_end rfl (by kernel_rfl) (by kernel_rfl) (by kernel_rfl) ?_
                go_simp
                clear z4 z5
                have ln1 : (l.length : Int) < 256 := by have := HIN.out; omega
                go_wp2_with fail
                go_roundw
                case rel =>
                  refine ⟨l.length + 1, (.slice (some ⟨g', 0, none⟩) (l.length + 1) cap'), by have := HIN.out; omega, ?_, by go_num, ?_, ?_⟩
                  · rw [HRW.out]; simp only; congr 1
                  · rw [HRW.out]; exact HIN.out.2.1
                  · rw [HRW.out]; exact HFIN.out
                case measure =>
                  have := HIN.out
                  simp [natOf]
                  omega
          · have hN : l.length = N := by omega
            have q5 : ¬ (l.length : Int) < (N : Int) := by omega
            by_cases hz : a = s.size
            · have HR : Hid (Res s true ⟨1, 0, 0, 0, l, [], p, t⟩) := by
                have := HRi.out hN
                rw [decide_eq_true hz] at this
                exact this
              have q8 : ((a : Int) == (s.size : Int)) = true := by simp; omega
              clear hlt hi hle hsm hN
              go_wp2_with (refine wpList_store_row rfl 30 (.tmp 2) (.tmp 101) rfl w.heap.size #[.int .i64 1, .int .u32 0, .int .u32 0, .int .i64 0, .slice o l.length cap, .slice none 0 0, .int .u32 (p : Int), .string t] (by rfl) (by rfl) 30 #[.int .i64 0, .int .u32 0, .int .u32 0, .int .i64 0, .slice none 0 0, .slice none 0 0, .int .u32 0, .string ⟨#[]⟩] HRE.out HI.out (by rfl) (by kernel_rfl) ?_)
              refine bodyPost_ret (results_page2 rfl _ _ w.heap.size _ _ _ _ _ _ _ _ rfl rfl (setRow_heap _ _ _ _ _ _ HRE.out)) rfl ?_
              exact ⟨_, _, true, rfl, HF.out, HR.out, HE.out⟩
            · have HR : Hid (Res s false ⟨1, 0, 0, 0, l, [], p, t⟩) := by
                have := HRi.out hN
                rw [decide_eq_false hz] at this
                exact this
              have q8 : ((a : Int) == (s.size : Int)) = false := by simp; omega
              clear hlt hi hle hsm hN
              go_wp2_with (refine wpList_store_row rfl 30 (.tmp 2) (.tmp 101) rfl w.heap.size #[.int .i64 1, .int .u32 0, .int .u32 0, .int .i64 0, .slice o l.length cap, .slice none 0 0, .int .u32 (p : Int), .string t] (by rfl) (by rfl) 30 #[.int .i64 0, .int .u32 0, .int .u32 0, .int .i64 0, .slice none 0 0, .slice none 0 0, .int .u32 0, .string ⟨#[]⟩] HRE.out HI.out (by rfl) (by kernel_rfl) ?_)
              refine bodyPost_ret (results_page2 rfl _ _ w.heap.size _ _ _ _ _ _ _ _ rfl rfl (setRow_heap _ _ _ _ _ _ HRE.out)) rfl ?_
              exact ⟨_, _, false, rfl, HF.out, HR.out, HE.out⟩
    · have HNX' : Hid (nxA s = ⟨p, t⟩) := by
        refine (?_ : nxA s = ⟨p, t⟩)
        rw [HNX.out]
        have : isNo p t = false := by unfold isNo; simp [hp0]
        rw [this]; rfl
      have hpe : ((p : Int) == 0) = false := by simp; omega
      refine wpAnyH_take (i := 0) (v := ?_) rfl (by kernel_rfl) (by kernel_rfl) (by kernel_rfl) (fun _ _ _ h => h) (Or.inl ⟨by kernel_rfl, ?_⟩) HSW.out ?_
      rotate_left
      · intro w hS
        obtain ⟨e0, e1⟩ := hS
        go_simp
        try with_reducible rfl
      conv in (Act.put _ _ _) => simp only [List.getElem_toArray, List.getElem_cons_succ, List.getElem_cons_zero, Act.put, List.setIfInBounds_toArray, List.set_cons_succ, List.set_cons_zero]
      refine wpAnyH_take (i := 1) (v := ?_) rfl (by kernel_rfl) (by kernel_rfl) (by kernel_rfl) (fun _ _ _ h => h) (Or.inl ⟨by kernel_rfl, ?_⟩) HSW.out ?_
      rotate_left
      · intro w hS
        obtain ⟨e0, e1⟩ := hS
        go_simp
        try with_reducible rfl
      conv in (Act.put _ _ _) => simp only [List.getElem_toArray, List.getElem_cons_succ, List.getElem_cons_zero, Act.put, List.setIfInBounds_toArray, List.set_cons_succ, List.set_cons_zero]
      refine wpAnyH_take (i := 2) (v := ?_) rfl (by kernel_rfl) (by kernel_rfl) (by kernel_rfl) (fun _ _ _ h => h) (Or.inl ⟨by kernel_rfl, ?_⟩) HSW.out ?_
      rotate_left
      · intro w hS
        obtain ⟨e0, e1⟩ := hS
        go_simp
        try with_reducible rfl
      conv in (Act.put _ _ _) => simp only [List.getElem_toArray, List.getElem_cons_succ, List.getElem_cons_zero, Act.put, List.setIfInBounds_toArray, List.set_cons_succ, List.set_cons_zero]
      refine wpAnyH_take (i := 3) (v := ?_) rfl (by kernel_rfl) (by kernel_rfl) (by kernel_rfl) (fun _ _ _ h => h) (Or.inl ⟨by kernel_rfl, ?_⟩) HSW.out ?_
      rotate_left
      · intro w hS
        obtain ⟨e0, e1⟩ := hS
        go_simp
        try with_reducible rfl
      conv in (Act.put _ _ _) => simp only [List.getElem_toArray, List.getElem_cons_succ, List.getElem_cons_zero, Act.put, List.setIfInBounds_toArray, List.set_cons_succ, List.set_cons_zero]
      refine wpAnyH_take (i := 4) (v := ?_) rfl (by kernel_rfl) (by kernel_rfl) (by kernel_rfl) (fun _ _ _ h => h) (Or.inl ⟨by kernel_rfl, ?_⟩) HSW.out ?_
      rotate_left
      · intro w hS
        obtain ⟨e0, e1⟩ := hS
        go_simp
        try with_reducible rfl
      conv in (Act.put _ _ _) => simp only [List.getElem_toArray, List.getElem_cons_succ, List.getElem_cons_zero, Act.put, List.setIfInBounds_toArray, List.set_cons_succ, List.set_cons_zero]
      refine wpAnyH_take (i := 5) (v := undef) rfl (by kernel_rfl) (by kernel_rfl) (by kernel_rfl) (fun _ _ _ h => h) (Or.inr ⟨by kernel_rfl, rfl⟩) HSW.out ?_
      conv in (Act.put _ _ _) => simp only [List.getElem_toArray, List.getElem_cons_succ, List.getElem_cons_zero, Act.put, List.setIfInBounds_toArray, List.set_cons_succ, List.set_cons_zero]
      refine wpAnyH_take (i := 6) (v := undef) rfl (by kernel_rfl) (by kernel_rfl) (by kernel_rfl) (fun _ _ _ h => h) (Or.inr ⟨by kernel_rfl, rfl⟩) HSW.out ?_
      conv in (Act.put _ _ _) => simp only [List.getElem_toArray, List.getElem_cons_succ, List.getElem_cons_zero, Act.put, List.setIfInBounds_toArray, List.set_cons_succ, List.set_cons_zero]
      refine wpAnyH_take (i := 7) (v := undef) rfl (by kernel_rfl) (by kernel_rfl) (by kernel_rfl) (fun _ _ _ h => h) (Or.inr ⟨by kernel_rfl, rfl⟩) HSW.out ?_
      conv in (Act.put _ _ _) => simp only [List.getElem_toArray, List.getElem_cons_succ, List.getElem_cons_zero, Act.put, List.setIfInBounds_toArray, List.set_cons_succ, List.set_cons_zero]
      refine wpAnyH_take (i := 8) (v := undef) rfl (by kernel_rfl) (by kernel_rfl) (by kernel_rfl) (fun _ _ _ h => h) (Or.inr ⟨by kernel_rfl, rfl⟩) HSW.out ?_
      conv in (Act.put _ _ _) => simp only [List.getElem_toArray, List.getElem_cons_succ, List.getElem_cons_zero, Act.put, List.setIfInBounds_toArray, List.set_cons_succ, List.set_cons_zero]
      refine wpAnyH_take (i := 9) (v := undef) rfl (by kernel_rfl) (by kernel_rfl) (by kernel_rfl) (fun _ _ _ h => h) (Or.inr ⟨by kernel_rfl, rfl⟩) HSW.out ?_
      conv in (Act.put _ _ _) => simp only [List.getElem_toArray, List.getElem_cons_succ, List.getElem_cons_zero, Act.put, List.setIfInBounds_toArray, List.set_cons_succ, List.set_cons_zero]
      refine wpAnyH_take (i := 10) (v := undef) rfl (by kernel_rfl) (by kernel_rfl) (by kernel_rfl) (fun _ _ _ h => h) (Or.inr ⟨by kernel_rfl, rfl⟩) HSW.out ?_
      conv in (Act.put _ _ _) => simp only [List.getElem_toArray, List.getElem_cons_succ, List.getElem_cons_zero, Act.put, List.setIfInBounds_toArray, List.set_cons_succ, List.set_cons_zero]
      refine wpAnyH_take (i := 11) (v := ?_) rfl (by kernel_rfl) (by kernel_rfl) (by kernel_rfl) (fun _ _ _ h => h) (Or.inl ⟨by kernel_rfl, ?_⟩) HSW.out ?_
      rotate_left
      · intro w hS
        obtain ⟨e0, e1⟩ := hS
        go_simp
        try with_reducible rfl
      conv in (Act.put _ _ _) => simp only [List.getElem_toArray, List.getElem_cons_succ, List.getElem_cons_zero, Act.put, List.setIfInBounds_toArray, List.set_cons_succ, List.set_cons_zero]
      refine wpAnyH_done (by kernel_rfl) ?_ _
      have HJ5 : Hid (LJ w p t [] (.slice none 0 0) W4.drew) := HJ4.out.below (Below.refl _ _).drew
      generalize W4.drew = W5 at *
      clear HSW S4 HJ4 hpe
      go_wp2_with fail
      have HJL : Hid (LJ w p t [] (.slice none 0 0) W5) := HJ5.out
      have HNL : Hid (nxA s = ⟨p, t⟩) := HNX'.out
      clear HJ5 HNX'
      clear HNX
      go_loopw [5, 6] (fun av iv wr => ∃ (i : Nat) (v : Value), i ≤ N ∧ av = .int .i64 ((rowsA s i).2 : Int) ∧ iv = .int .i64 (i : Int) ∧ (rowsA s i).2 ≤ s.size ∧ LJ w p t (rowsA s i).1 v wr) (fun _ iv _ => N - natOf iv)
      case atStart => exact ⟨0, .slice none 0 0, Nat.zero_le _, rfl, rfl, HSZ.out, HJL.out⟩
      case round =>
        obtain ⟨i, v, hi, rfl, rfl, hle, hj⟩ := hrel
        obtain ⟨o, cap, rfl, -⟩ := sl_of_own hj.own
        have hlen := rowsA_len s i
        have hsm := rowsA_small s i
        have HHi : Hid _ := HHALT.out i hle
        have hrow : rowsA s (i + 1) = ((rowsA s i).1 ++ [rowA s (rowsA s i).2 (bt s ((rowsA s i).2 + 16))], (rowsA s i).2 + 17 + bt s ((rowsA s i).2 + 16)) := rfl
        have hP : lfP s i = ⟨1, 0, 0, 0, (rowsA s i).1, [], p, t⟩ := by unfold lfP; rw [HNL.out]
        have HRi : Hid (i = N → Res s (decide ((rowsA s i).2 = s.size)) (lfP s i)) := fun e => by subst e; exact HRES.out hle
        rw [hP] at HRi
        obtain ⟨l, hl⟩ : ∃ l, (rowsA s i).1 = l := ⟨_, rfl⟩
        obtain ⟨a, ha⟩ : ∃ a, (rowsA s i).2 = a := ⟨_, rfl⟩
        rw [hl] at hlen hj hrow hP HRi
        rw [ha] at hle hsm HHi hrow HRi
        rw [hl] at *
        rw [ha]
        subst hlen
        have HJ : Hid _ := hj
        have HRW : Hid _ := hrow
        have hg := hj.pag
        obtain ⟨d0, d1, d2, d3, d4, d5, d6, d7⟩ := (pg_cells (q := ⟨1, 0, 0, 0, o, l.length, cap, none, 0, 0, p, t⟩) hg).1
        simp only at d0 d1 d2 d3 d4 d5 d6 d7
        have lp : w.heap.size + 1 < wr.heap.size := (Array.getElem?_eq_some_iff.1 hg).1
        have HRE : Hid _ := hj.res
        have HF : Hid _ := lf_end hj #[.int .i64 1, .int .u32 0, .int .u32 0, .int .i64 0, .slice o l.length cap, .slice none 0 0, .int .u32 (p : Int), .string t]
        have HE : Hid (Below w.heap.size w (wr.setRow w.heap.size #[.int .i64 1, .int .u32 0, .int .u32 0, .int .i64 0, .slice o l.length cap, .slice none 0 0, .int .u32 (p : Int), .string t])) := below_row hj.bel (Nat.le_refl _) _
        have a0 : (0 : Int) ≤ (a : Int) := by omega
        have a1 : (a : Int) ≤ 100000 := by omega
        clear hj hg hrow hP hl ha
        by_cases hlt : l.length < N
        · have q5 : (l.length : Int) < (N : Int) := by omega
          by_cases h17 : s.size < a + 17
          · have HR : Hid (Res s false ⟨1, 0, 0, 0, l, [], p, t⟩) := res_no (HHi.out (row_short1 h17) hlt)
            have q6 : (s.size : Int) < (a : Int) + 17 := by omega
            clear h17 hlt hi hle hsm
            go_wp2_with (refine wpList_store_row rfl 30 (.tmp 2) (.tmp 47) rfl w.heap.size #[.int .i64 1, .int .u32 0, .int .u32 0, .int .i64 0, .slice o l.length cap, .slice none 0 0, .int .u32 (p : Int), .string t] (by rfl) (by rfl) 30 #[.int .i64 0, .int .u32 0, .int .u32 0, .int .i64 0, .slice none 0 0, .slice none 0 0, .int .u32 0, .string ⟨#[]⟩] HRE.out HI.out (by rfl) (by kernel_rfl) ?_)
            refine bodyPost_ret (results_page2 rfl _ _ w.heap.size _ _ _ _ _ _ _ _ rfl rfl (setRow_heap _ _ _ _ _ _ HRE.out)) rfl ?_
            exact ⟨_, _, false, rfl, HF.out, HR.out, HE.out⟩
          · have q6 : ¬ (s.size : Int) < (a : Int) + 17 := by omega
            have hidx2 : ∀ w', (Instr.index 9 (.string s) (.int .i64 ((a : Int) + 16))).run Try.prog w' = .ok (.int .u8 (bt s (a + 16) : Int)) w' := fun w' => by
              have := idx_s s (a + 16) (by omega) w'
              rwa [show ((a + 16 : Nat) : Int) = (a : Int) + 16 by omega] at this
            have hm := bt_lt s (a + 16)
            have HSH2 : Hid (s.size < a + 17 + bt s (a + 16) → decOK s = false) := fun h => HHi.out (row_short2 (by omega) h) hlt
            obtain ⟨m, hmm⟩ : ∃ m, bt s (a + 16) = m := ⟨_, rfl⟩
            rw [hmm] at hidx2 hm HSH2 HRW
            have m0 : (0 : Int) ≤ (m : Int) := by omega
            have m1 : (m : Int) < 256 := by omega
            by_cases h18 : s.size < a + 17 + m
            · have HR : Hid (Res s false ⟨1, 0, 0, 0, l, [], p, t⟩) := res_no (HSH2.out h18)
              have q7 : (s.size : Int) < (a : Int) + 17 + (m : Int) := by omega
              clear h17 h18 hlt hi hle hsm hmm
              go_wp2_with (refine wpList_store_row rfl 30 (.tmp 2) (.tmp 60) rfl w.heap.size #[.int .i64 1, .int .u32 0, .int .u32 0, .int .i64 0, .slice o l.length cap, .slice none 0 0, .int .u32 (p : Int), .string t] (by rfl) (by rfl) 30 #[.int .i64 0, .int .u32 0, .int .u32 0, .int .i64 0, .slice none 0 0, .slice none 0 0, .int .u32 0, .string ⟨#[]⟩] HRE.out HI.out (by rfl) (by kernel_rfl) ?_)
              refine bodyPost_ret (results_page2 rfl _ _ w.heap.size _ _ _ _ _ _ _ _ rfl rfl (setRow_heap _ _ _ _ _ _ HRE.out)) rfl ?_
              exact ⟨_, _, false, rfl, HF.out, HR.out, HE.out⟩
            · have q7 : ¬ (s.size : Int) < (a : Int) + 17 + (m : Int) := by omega
              have hrA : rowA s a m = ⟨valB (s.extract a (a + 8)) 8, valB (s.extract (a + 8) (a + 12)) 4, valB (s.extract (a + 12) (a + 16)) 4, s.extract (a + 17) (a + 17 + m)⟩ := rfl
              have g1 : Hid _ := HGT.out (s.extract a (a + 8)) (by rw [ByteArray.size_extract]; omega)
              have g2 : Hid _ := HGT.out (s.extract (a + 8) (a + 12)) (by rw [ByteArray.size_extract]; omega)
              have g3 : Hid _ := HGT.out (s.extract (a + 12) (a + 16)) (by rw [ByteArray.size_extract]; omega)
              rw [show (s.extract a (a + 8)).size = 8 by rw [ByteArray.size_extract]; omega] at g1
              rw [show (s.extract (a + 8) (a + 12)).size = 4 by rw [ByteArray.size_extract]; omega] at g2
              rw [show (s.extract (a + 12) (a + 16)).size = 4 by rw [ByteArray.size_extract]; omega] at g3
              have vx2 := valB_lt (s.extract (a + 8) (a + 12)) 4
              have vy2 := valB_lt (s.extract (a + 12) (a + 16)) 4
              simp only [Nat.reduceMul, Nat.reducePow] at vx2 vy2
              generalize valB (s.extract a (a + 8)) 8 = id at *
              generalize valB (s.extract (a + 8) (a + 12)) 4 = x at *
              generalize valB (s.extract (a + 12) (a + 16)) 4 = y at *
              obtain ⟨vl, hvl⟩ : ∃ vl, s.extract (a + 17) (a + 17 + m) = vl := ⟨_, rfl⟩
              rw [hvl] at hrA
              rw [hrA] at HRW
              have HVL : Hid _ := hvl
              have cx2 : IntKind.u32.wrap (x : Int) = (x : Int) := IntWalk.u32_in _ ⟨by omega, by omega⟩
              have cy2 : IntKind.u32.wrap (y : Int) = (y : Int) := IntWalk.u32_in _ ⟨by omega, by omega⟩
              have HIN : Hid (l.length < N ∧ a + 17 + m ≤ s.size ∧ N < 256) := ⟨hlt, by omega, hn⟩
              have w8 : IntKind.i64.wrap ((a : Int) + 8) = (a : Int) + 8 := IntWalk.i64_in _ ⟨by omega, by omega⟩
              have w12 : IntKind.i64.wrap ((a : Int) + 12) = (a : Int) + 12 := IntWalk.i64_in _ ⟨by omega, by omega⟩
              have w16 : IntKind.i64.wrap ((a : Int) + 16) = (a : Int) + 16 := IntWalk.i64_in _ ⟨by omega, by omega⟩
              have w17 : IntKind.i64.wrap ((a : Int) + 17) = (a : Int) + 17 := IntWalk.i64_in _ ⟨by omega, by omega⟩
              have w18 : IntKind.i64.wrap ((a : Int) + 17 + (m : Int)) = (a : Int) + 17 + (m : Int) := IntWalk.i64_in _ ⟨by omega, by omega⟩
              have y8 : ((a : Int) + 8).toNat = a + 8 := by omega
              have y12 : ((a : Int) + 12).toNat = a + 12 := by omega
              have y16 : ((a : Int) + 16).toNat = a + 16 := by omega
              have y17 : ((a : Int) + 17).toNat = a + 17 := by omega
              have y18 : ((a : Int) + 17 + (m : Int)).toNat = a + 17 + m := by omega
              have t8 : (a : Int) + 8 ≤ (s.size : Int) := by omega
              have t12 : (a : Int) + 12 ≤ (s.size : Int) := by omega
              have t16 : (a : Int) + 16 ≤ (s.size : Int) := by omega
              have t18 : (a : Int) + 17 + (m : Int) ≤ (s.size : Int) := by omega
              have u8 : (a : Int) ≤ (a : Int) + 8 := by omega
              have u12 : (a : Int) + 8 ≤ (a : Int) + 12 := by omega
              have u16 : (a : Int) + 12 ≤ (a : Int) + 16 := by omega
              have u18 : (a : Int) + 17 ≤ (a : Int) + 17 + (m : Int) := by omega
              have o8 : (0 : Int) ≤ (a : Int) + 8 := by omega
              have o12 : (0 : Int) ≤ (a : Int) + 12 := by omega
              have o17 : (0 : Int) ≤ (a : Int) + 17 := by omega
              clear h17 h18 hlt hi hle hsm hmm hrA hvl hm
              go_wp2_with fail
              clear q5 q6 q7 hidx2
              refine region_lastP (z := 36) (S := fun W => W.cell? ⟨w.heap.size + 1, 4, none⟩ = some (.slice o l.length cap) ∧ True) (by kernel_rfl) ?_
              change wpLast _ _ _ _ _ _ 37 _ _ _
              have HSW : Hid (wr.drew.cell? ⟨w.heap.size + 1, 4, none⟩ = some (.slice o l.length cap) ∧ True) := ⟨d4, trivial⟩
              clear d0 d1 d2 d3 d5 d6 d7
              refine wpLast_take (i := 0) (v := ?_) (by kernel_rfl) rfl (by kernel_rfl) (by kernel_rfl) (by kernel_rfl) (fun _ _ _ h => h) (Or.inl ⟨by kernel_rfl, ?_⟩) HSW.out ?_
              rotate_left
              · intro w hS
                obtain ⟨e1, e2⟩ := hS
                go_simp
                try with_reducible rfl
              conv in (Act.put _ _ _) => simp only [List.getElem_toArray, List.getElem_cons_succ, List.getElem_cons_zero, Act.put, List.setIfInBounds_toArray, List.set_cons_succ, List.set_cons_zero]
              refine wpLast_take (i := 1) (v := ?_) (by kernel_rfl) rfl (by kernel_rfl) (by kernel_rfl) (by kernel_rfl) (fun _ _ _ h => h) (Or.inl ⟨by kernel_rfl, ?_⟩) HSW.out ?_
              rotate_left
              · intro w hS
                obtain ⟨e1, e2⟩ := hS
                go_simp
                try with_reducible rfl
              conv in (Act.put _ _ _) => simp only [List.getElem_toArray, List.getElem_cons_succ, List.getElem_cons_zero, Act.put, List.setIfInBounds_toArray, List.set_cons_succ, List.set_cons_zero]
              refine wpLast_take (i := 2) (v := ?_) (by kernel_rfl) rfl (by kernel_rfl) (by kernel_rfl) (by kernel_rfl) (fun _ _ _ h => h) (Or.inl ⟨by kernel_rfl, ?_⟩) HSW.out ?_
              rotate_left
              · intro w hS
                obtain ⟨e1, e2⟩ := hS
                go_simp
                try with_reducible rfl
              conv in (Act.put _ _ _) => simp only [List.getElem_toArray, List.getElem_cons_succ, List.getElem_cons_zero, Act.put, List.setIfInBounds_toArray, List.set_cons_succ, List.set_cons_zero]
              refine wpLast_take (i := 3) (v := ?_) (by kernel_rfl) rfl (by kernel_rfl) (by kernel_rfl) (by kernel_rfl) (fun _ _ _ h => h) (Or.inl ⟨by kernel_rfl, ?_⟩) HSW.out ?_
              rotate_left
              · intro w hS
                obtain ⟨e1, e2⟩ := hS
                go_simp
                try with_reducible rfl
              conv in (Act.put _ _ _) => simp only [List.getElem_toArray, List.getElem_cons_succ, List.getElem_cons_zero, Act.put, List.setIfInBounds_toArray, List.set_cons_succ, List.set_cons_zero]
              refine wpLast_take (i := 4) (v := ?_) (by kernel_rfl) rfl (by kernel_rfl) (by kernel_rfl) (by kernel_rfl) (fun _ _ _ h => h) (Or.inl ⟨by kernel_rfl, ?_⟩) HSW.out ?_
              rotate_left
              · intro w hS
                obtain ⟨e1, e2⟩ := hS
                go_simp
                try with_reducible rfl
              conv in (Act.put _ _ _) => simp only [List.getElem_toArray, List.getElem_cons_succ, List.getElem_cons_zero, Act.put, List.setIfInBounds_toArray, List.set_cons_succ, List.set_cons_zero]
              refine wpLast_take (i := 5) (v := ?_) (by kernel_rfl) rfl (by kernel_rfl) (by kernel_rfl) (by kernel_rfl) (fun _ _ _ h => h) (Or.inl ⟨by kernel_rfl, ?_⟩) HSW.out ?_
              rotate_left
              · intro w hS
                obtain ⟨e1, e2⟩ := hS
                go_simp
                try with_reducible rfl
              conv in (Act.put _ _ _) => simp only [List.getElem_toArray, List.getElem_cons_succ, List.getElem_cons_zero, Act.put, List.setIfInBounds_toArray, List.set_cons_succ, List.set_cons_zero]
              refine wpLast_take (i := 6) (v := ?_) (by kernel_rfl) rfl (by kernel_rfl) (by kernel_rfl) (by kernel_rfl) (fun _ _ _ h => h) (Or.inl ⟨by kernel_rfl, ?_⟩) HSW.out ?_
              rotate_left
              · intro w hS
                obtain ⟨e1, e2⟩ := hS
                go_simp
                try with_reducible rfl
              conv in (Act.put _ _ _) => simp only [List.getElem_toArray, List.getElem_cons_succ, List.getElem_cons_zero, Act.put, List.setIfInBounds_toArray, List.set_cons_succ, List.set_cons_zero]
              refine wpLast_take (i := 8) (v := ?_) (by kernel_rfl) rfl (by kernel_rfl) (by kernel_rfl) (by kernel_rfl) (fun _ _ _ h => h) (Or.inl ⟨by kernel_rfl, ?_⟩) HSW.out ?_
              rotate_left
              · intro w hS
                obtain ⟨e1, e2⟩ := hS
                go_simp
                try with_reducible rfl
              conv in (Act.put _ _ _) => simp only [List.getElem_toArray, List.getElem_cons_succ, List.getElem_cons_zero, Act.put, List.setIfInBounds_toArray, List.set_cons_succ, List.set_cons_zero]
              refine wpLast_take (i := 9) (v := ?_) (by kernel_rfl) rfl (by kernel_rfl) (by kernel_rfl) (by kernel_rfl) (fun _ _ _ h => h) (Or.inl ⟨by kernel_rfl, ?_⟩) HSW.out ?_
              rotate_left
              · intro w hS
                obtain ⟨e1, e2⟩ := hS
                go_simp
                try with_reducible rfl
              conv in (Act.put _ _ _) => simp only [List.getElem_toArray, List.getElem_cons_succ, List.getElem_cons_zero, Act.put, List.setIfInBounds_toArray, List.set_cons_succ, List.set_cons_zero]
              refine wpLast_take (i := 10) (v := ?_) (by kernel_rfl) rfl (by kernel_rfl) (by kernel_rfl) (by kernel_rfl) (fun _ _ _ h => h) (Or.inl ⟨by kernel_rfl, ?_⟩) HSW.out ?_
              rotate_left
              · intro w hS
                obtain ⟨e1, e2⟩ := hS
                go_simp
                try with_reducible rfl
              conv in (Act.put _ _ _) => simp only [List.getElem_toArray, List.getElem_cons_succ, List.getElem_cons_zero, Act.put, List.setIfInBounds_toArray, List.set_cons_succ, List.set_cons_zero]
              refine wpLast_take (i := 11) (v := ?_) (by kernel_rfl) rfl (by kernel_rfl) (by kernel_rfl) (by kernel_rfl) (fun _ _ _ h => h) (Or.inl ⟨by kernel_rfl, ?_⟩) HSW.out ?_
              rotate_left
              · intro w hS
                obtain ⟨e1, e2⟩ := hS
                go_simp
                try with_reducible rfl
              conv in (Act.put _ _ _) => simp only [List.getElem_toArray, List.getElem_cons_succ, List.getElem_cons_zero, Act.put, List.setIfInBounds_toArray, List.set_cons_succ, List.set_cons_zero]
              refine wpLast_take (i := 12) (v := ?_) (by kernel_rfl) rfl (by kernel_rfl) (by kernel_rfl) (by kernel_rfl) (fun _ _ _ h => h) (Or.inl ⟨by kernel_rfl, ?_⟩) HSW.out ?_
              rotate_left
              · intro w hS
                obtain ⟨e1, e2⟩ := hS
                go_simp
                try with_reducible rfl
              conv in (Act.put _ _ _) => simp only [List.getElem_toArray, List.getElem_cons_succ, List.getElem_cons_zero, Act.put, List.setIfInBounds_toArray, List.set_cons_succ, List.set_cons_zero]
              refine wpLast_take (i := 13) (v := ?_) (by kernel_rfl) rfl (by kernel_rfl) (by kernel_rfl) (by kernel_rfl) (fun _ _ _ h => h) (Or.inl ⟨by kernel_rfl, ?_⟩) HSW.out ?_
              rotate_left
              · intro w hS
                obtain ⟨e1, e2⟩ := hS
                go_simp
                try with_reducible rfl
              conv in (Act.put _ _ _) => simp only [List.getElem_toArray, List.getElem_cons_succ, List.getElem_cons_zero, Act.put, List.setIfInBounds_toArray, List.set_cons_succ, List.set_cons_zero]
              refine wpLast_take (i := 16) (v := ?_) (by kernel_rfl) rfl (by kernel_rfl) (by kernel_rfl) (by kernel_rfl) (fun _ _ _ h => h) (Or.inl ⟨by kernel_rfl, ?_⟩) HSW.out ?_
              rotate_left
              · intro w hS
                obtain ⟨e1, e2⟩ := hS
                go_simp
                try with_reducible rfl
              conv in (Act.put _ _ _) => simp only [List.getElem_toArray, List.getElem_cons_succ, List.getElem_cons_zero, Act.put, List.setIfInBounds_toArray, List.set_cons_succ, List.set_cons_zero]
              refine wpLast_take (i := 17) (v := ?_) (by kernel_rfl) rfl (by kernel_rfl) (by kernel_rfl) (by kernel_rfl) (fun _ _ _ h => h) (Or.inl ⟨by kernel_rfl, ?_⟩) HSW.out ?_
              rotate_left
              · intro w hS
                obtain ⟨e1, e2⟩ := hS
                go_simp
                try with_reducible rfl
              conv in (Act.put _ _ _) => simp only [List.getElem_toArray, List.getElem_cons_succ, List.getElem_cons_zero, Act.put, List.setIfInBounds_toArray, List.set_cons_succ, List.set_cons_zero]
              refine wpLast_take (i := 18) (v := ?_) (by kernel_rfl) rfl (by kernel_rfl) (by kernel_rfl) (by kernel_rfl) (fun _ _ _ h => h) (Or.inl ⟨by kernel_rfl, ?_⟩) HSW.out ?_
              rotate_left
              · intro w hS
                obtain ⟨e1, e2⟩ := hS
                go_simp
                try with_reducible rfl
              conv in (Act.put _ _ _) => simp only [List.getElem_toArray, List.getElem_cons_succ, List.getElem_cons_zero, Act.put, List.setIfInBounds_toArray, List.set_cons_succ, List.set_cons_zero]
              refine wpLast_take (i := 19) (v := ?_) (by kernel_rfl) rfl (by kernel_rfl) (by kernel_rfl) (by kernel_rfl) (fun _ _ _ h => h) (Or.inl ⟨by kernel_rfl, ?_⟩) HSW.out ?_
              rotate_left
              · intro w hS
                obtain ⟨e1, e2⟩ := hS
                go_simp
                try with_reducible rfl
              conv in (Act.put _ _ _) => simp only [List.getElem_toArray, List.getElem_cons_succ, List.getElem_cons_zero, Act.put, List.setIfInBounds_toArray, List.set_cons_succ, List.set_cons_zero]
              refine wpLast_take (i := 20) (v := ?_) (by kernel_rfl) rfl (by kernel_rfl) (by kernel_rfl) (by kernel_rfl) (fun _ _ _ h => h) (Or.inl ⟨by kernel_rfl, ?_⟩) HSW.out ?_
              rotate_left
              · intro w hS
                obtain ⟨e1, e2⟩ := hS
                go_simp
                try with_reducible rfl
              conv in (Act.put _ _ _) => simp only [List.getElem_toArray, List.getElem_cons_succ, List.getElem_cons_zero, Act.put, List.setIfInBounds_toArray, List.set_cons_succ, List.set_cons_zero]
              refine wpLast_take (i := 21) (v := ?_) (by kernel_rfl) rfl (by kernel_rfl) (by kernel_rfl) (by kernel_rfl) (fun _ _ _ h => h) (Or.inl ⟨by kernel_rfl, ?_⟩) HSW.out ?_
              rotate_left
              · intro w hS
                obtain ⟨e1, e2⟩ := hS
                go_simp
                try with_reducible rfl
              conv in (Act.put _ _ _) => simp only [List.getElem_toArray, List.getElem_cons_succ, List.getElem_cons_zero, Act.put, List.setIfInBounds_toArray, List.set_cons_succ, List.set_cons_zero]
              refine wpLast_take (i := 24) (v := ?_) (by kernel_rfl) rfl (by kernel_rfl) (by kernel_rfl) (by kernel_rfl) (fun _ _ _ h => h) (Or.inl ⟨by kernel_rfl, ?_⟩) HSW.out ?_
              rotate_left
              · intro w hS
                obtain ⟨e1, e2⟩ := hS
                go_simp
                try with_reducible rfl
              conv in (Act.put _ _ _) => simp only [List.getElem_toArray, List.getElem_cons_succ, List.getElem_cons_zero, Act.put, List.setIfInBounds_toArray, List.set_cons_succ, List.set_cons_zero]
              refine wpLast_take (i := 25) (v := ?_) (by kernel_rfl) rfl (by kernel_rfl) (by kernel_rfl) (by kernel_rfl) (fun _ _ _ h => h) (Or.inl ⟨by kernel_rfl, ?_⟩) HSW.out ?_
              rotate_left
              · intro w hS
                obtain ⟨e1, e2⟩ := hS
                go_simp
                try with_reducible rfl
              conv in (Act.put _ _ _) => simp only [List.getElem_toArray, List.getElem_cons_succ, List.getElem_cons_zero, Act.put, List.setIfInBounds_toArray, List.set_cons_succ, List.set_cons_zero]
              refine wpLast_take (i := 26) (v := ?_) (by kernel_rfl) rfl (by kernel_rfl) (by kernel_rfl) (by kernel_rfl) (fun _ _ _ h => h) (Or.inl ⟨by kernel_rfl, ?_⟩) HSW.out ?_
              rotate_left
              · intro w hS
                obtain ⟨e1, e2⟩ := hS
                go_simp
                try with_reducible rfl
              conv in (Act.put _ _ _) => simp only [List.getElem_toArray, List.getElem_cons_succ, List.getElem_cons_zero, Act.put, List.setIfInBounds_toArray, List.set_cons_succ, List.set_cons_zero]
              refine wpLast_take (i := 27) (v := ?_) (by kernel_rfl) rfl (by kernel_rfl) (by kernel_rfl) (by kernel_rfl) (fun _ _ _ h => h) (Or.inl ⟨by kernel_rfl, ?_⟩) HSW.out ?_
              rotate_left
              · intro w hS
                obtain ⟨e1, e2⟩ := hS
                go_simp
                try with_reducible rfl
              conv in (Act.put _ _ _) => simp only [List.getElem_toArray, List.getElem_cons_succ, List.getElem_cons_zero, Act.put, List.setIfInBounds_toArray, List.set_cons_succ, List.set_cons_zero]
              refine wpLast_take (i := 28) (v := ?_) (by kernel_rfl) rfl (by kernel_rfl) (by kernel_rfl) (by kernel_rfl) (fun _ _ _ h => h) (Or.inl ⟨by kernel_rfl, ?_⟩) HSW.out ?_
              rotate_left
              · intro w hS
                obtain ⟨e1, e2⟩ := hS
                go_simp
                try with_reducible rfl
              conv in (Act.put _ _ _) => simp only [List.getElem_toArray, List.getElem_cons_succ, List.getElem_cons_zero, Act.put, List.setIfInBounds_toArray, List.set_cons_succ, List.set_cons_zero]
              refine wpLast_take (i := 29) (v := ?_) (by kernel_rfl) rfl (by kernel_rfl) (by kernel_rfl) (by kernel_rfl) (fun _ _ _ h => h) (Or.inl ⟨by kernel_rfl, ?_⟩) HSW.out ?_
              rotate_left
              · intro w hS
                obtain ⟨e1, e2⟩ := hS
                go_simp
                try with_reducible rfl
              conv in (Act.put _ _ _) => simp only [List.getElem_toArray, List.getElem_cons_succ, List.getElem_cons_zero, Act.put, List.setIfInBounds_toArray, List.set_cons_succ, List.set_cons_zero]
              refine wpLast_take (i := 30) (v := ?_) (by kernel_rfl) rfl (by kernel_rfl) (by kernel_rfl) (by kernel_rfl) (fun _ _ _ h => h) (Or.inl ⟨by kernel_rfl, ?_⟩) HSW.out ?_
              rotate_left
              · intro w hS
                obtain ⟨e1, e2⟩ := hS
                go_simp
                try with_reducible rfl
              conv in (Act.put _ _ _) => simp only [List.getElem_toArray, List.getElem_cons_succ, List.getElem_cons_zero, Act.put, List.setIfInBounds_toArray, List.set_cons_succ, List.set_cons_zero]
              refine wpLast_take (i := 31) (v := ?_) (by kernel_rfl) rfl (by kernel_rfl) (by kernel_rfl) (by kernel_rfl) (fun _ _ _ h => h) (Or.inl ⟨by kernel_rfl, ?_⟩) HSW.out ?_
              rotate_left
              · intro w hS
                obtain ⟨e1, e2⟩ := hS
                go_simp
                try with_reducible rfl
              conv in (Act.put _ _ _) => simp only [List.getElem_toArray, List.getElem_cons_succ, List.getElem_cons_zero, Act.put, List.setIfInBounds_toArray, List.set_cons_succ, List.set_cons_zero]
              rw [HVL.out]
              refine readyL 7 _ (by kernel_rfl) rfl (by kernel_rfl) (fun K hK => ?_)
              go_simp
              refine (g1.out wr.drew).mono ?_
              rintro e W5a ⟨rfl, bb⟩
              have c5 : Below wr.heap.size wr W5a := (Below.refl _ wr).drew.trans (bb.mono (Nat.le_refl _))
              have HC5 : Hid (Below wr.heap.size wr W5a) := c5
              replace HSW : Hid (W5a.cell? ⟨w.heap.size + 1, 4, none⟩ = some (.slice o l.length cap) ∧ True) := ⟨(World.cell?_of_block (a := ⟨w.heap.size + 1, 4, none⟩) (c5.block (w.heap.size + 1) lp)).trans d4, trivial⟩
              clear bb c5
              refine hK _ _ HSW.out ?_
              clear hK K
              refine readyL 14 _ (by kernel_rfl) rfl (by kernel_rfl) (fun K hK => ?_)
              go_simp
              refine (g2.out W5a).mono ?_
              rintro e W6a ⟨rfl, bb⟩
              have c6 : Below wr.heap.size wr W6a := HC5.out.trans (bb.mono HC5.out.size)
              have HC6 : Hid (Below wr.heap.size wr W6a) := c6
              replace HSW : Hid (W6a.cell? ⟨w.heap.size + 1, 4, none⟩ = some (.slice o l.length cap) ∧ True) := ⟨(World.cell?_of_block (a := ⟨w.heap.size + 1, 4, none⟩) (c6.block (w.heap.size + 1) lp)).trans d4, trivial⟩
              clear bb c6
              refine hK _ _ HSW.out ?_
              clear hK K
              refine wpLast_take (i := 15) (v := ?_) (by kernel_rfl) rfl (by kernel_rfl) (by kernel_rfl) (by kernel_rfl) (fun _ _ _ h => h) (Or.inl ⟨by kernel_rfl, ?_⟩) HSW.out ?_
              rotate_left
              · intro w hS
                obtain ⟨e1, e2⟩ := hS
                go_simp
                try with_reducible rfl
              conv in (Act.put _ _ _) => simp only [List.getElem_toArray, List.getElem_cons_succ, List.getElem_cons_zero, Act.put, List.setIfInBounds_toArray, List.set_cons_succ, List.set_cons_zero]
              refine readyL 22 _ (by kernel_rfl) rfl (by kernel_rfl) (fun K hK => ?_)
              go_simp
              refine (g3.out W6a).mono ?_
              rintro e W7 ⟨rfl, bb⟩
              have b7 : Below wr.heap.size wr W7 := HC6.out.trans (bb.mono HC6.out.size)
              replace HSW : Hid (W7.cell? ⟨w.heap.size + 1, 4, none⟩ = some (.slice o l.length cap) ∧ True) := ⟨(World.cell?_of_block (a := ⟨w.heap.size + 1, 4, none⟩) (b7.block (w.heap.size + 1) lp)).trans d4, trivial⟩
              clear bb
              refine hK _ _ HSW.out ?_
              clear hK K
              refine wpLast_take (i := 23) (v := ?_) (by kernel_rfl) rfl (by kernel_rfl) (by kernel_rfl) (by kernel_rfl) (fun _ _ _ h => h) (Or.inl ⟨by kernel_rfl, ?_⟩) HSW.out ?_
              rotate_left
              · intro w hS
                obtain ⟨e1, e2⟩ := hS
                go_simp
                try with_reducible rfl
              conv in (Act.put _ _ _) => simp only [List.getElem_toArray, List.getElem_cons_succ, List.getElem_cons_zero, Act.put, List.setIfInBounds_toArray, List.set_cons_succ, List.set_cons_zero]
              refine wpLast_take (i := 32) (v := ?_) (by kernel_rfl) rfl (by kernel_rfl) (by kernel_rfl) (by kernel_rfl) (fun _ _ _ h => h) (Or.inl ⟨by kernel_rfl, ?_⟩) HSW.out ?_
              rotate_left
              · intro w hS
                obtain ⟨e1, e2⟩ := hS
                go_simp
                try with_reducible rfl
              conv in (Act.put _ _ _) => simp only [List.getElem_toArray, List.getElem_cons_succ, List.getElem_cons_zero, Act.put, List.setIfInBounds_toArray, List.set_cons_succ, List.set_cons_zero]
              have hb8 := below_new W7 (.cells #[.int .u64 (id : Int), .int .u32 (x : Int), .int .u32 (y : Int), .string vl] 47)
              have hs7 := b7.size
              have hbs := HJ.out.bel.size
              obtain ⟨v', W', hrun, x1, x2, x3⟩ := append_sl 25 47 Try.underlying25 infoRow rfl (by decide) (by decide) (W7.alloc (.cells #[.int .u64 (id : Int), .int .u32 (x : Int), .int .u32 (y : Int), .string vl] 47)) (w.heap.size + 2) l.length 1 (.slice o l.length cap) (some ⟨W7.heap.size, 0, none⟩) 1
                (l.flatMap rc) (rc ⟨id, x, y, vl⟩) (own_sameR HJ.out.own fun b h1 h2 => (hb8.block b (by omega)).trans (b7.block b h2)) (by simp; omega) (one_rowR (r := ⟨id, x, y, vl⟩) (heap_alloc_new W7 _)) (rc_one1 _) (by have := HIN.out; omega)
              have hob : ∀ b, (Value.slice o l.length cap).ownBlock = some b → w.heap.size + 2 ≤ b := fun b hb => own_baseR HJ.out.own hb
              have keepg : W'.heap[w.heap.size + 1]? = some (.cells #[.int .i64 1, .int .u32 0, .int .u32 0, .int .i64 0, .slice o l.length cap, .slice none 0 0, .int .u32 (p : Int), .string t] 30 (0, 0)) := (x2.block _ (by simp; omega) (by intro e; have := hob _ e.symm; omega)).trans ((hb8.block _ (by omega)).trans ((b7.block _ lp).trans HJ.out.pag))
              have keepw : W'.heap[w.heap.size]? = some (.cells #[.int .i64 0, .int .u32 0, .int .u32 0, .int .i64 0, .slice none 0 0, .slice none 0 0, .int .u32 0, .string ⟨#[]⟩] 30 (0, 0)) := (x2.block _ (by simp; omega) (by intro e; have := hob _ e.symm; omega)).trans ((hb8.block _ (by omega)).trans ((b7.block _ (by omega)).trans HJ.out.res))
              have hB' : Below w.heap.size w W' := ((HJ.out.bel.trans (b7.mono (by omega))).trans (hb8.mono (by omega))).grown x2 (by simp; omega) fun b eb => by have := hob b eb; omega
              obtain ⟨g', cap', rfl⟩ := ownsRow_succ x1
              have hgb := own_baseR x1 (b := g') rfl
              have z4 := frozen_of_row W' (w.heap.size + 1) 4 _ _ keepg
              have z5 : W'.cell? ⟨w.heap.size + 1, 4, none⟩ = some (.slice o l.length cap) := by rw [cell_of_row _ _ _ _ _ _ keepg]; rfl
              have HFIN : Hid (LJ w p t (l ++ [⟨id, x, y, vl⟩]) (.slice (some ⟨g', 0, none⟩) (l.length + 1) cap') (W'.setCell ⟨w.heap.size + 1, 4, none⟩ (.slice (some ⟨g', 0, none⟩) (l.length + 1) cap'))) := by
                refine (?_ : LJ w p t (l ++ [⟨id, x, y, vl⟩]) (.slice (some ⟨g', 0, none⟩) (l.length + 1) cap') (W'.setCell ⟨w.heap.size + 1, 4, none⟩ (.slice (some ⟨g', 0, none⟩) (l.length + 1) cap')))
                have hoth : ∀ j, j ≠ w.heap.size + 1 → (W'.setCell ⟨w.heap.size + 1, 4, none⟩ (.slice (some ⟨g', 0, none⟩) (l.length + 1) cap')).heap[j]? = W'.heap[j]? := fun j hj => Below.heap_setCell _ _ _ _ (fun e => hj e)
                refine ⟨(hoth _ (by omega)).trans keepw, ?_, ?_, ⟨hB'.os, hB'.tape, hB'.output, by rw [st_size]; exact hB'.size, fun j hj => (hoth j (by omega)).trans (hB'.block j hj)⟩⟩
                · have := heap_setCell_same W' (w.heap.size + 1) 4 _ _ (.slice (some ⟨g', 0, none⟩) (l.length + 1) cap') keepg
                  simpa [List.setIfInBounds_toArray] using this
                · have e1 : (l ++ [(⟨id, x, y, vl⟩ : Rw)]).length = l.length + 1 := by simp
                  have e2 : (l ++ [(⟨id, x, y, vl⟩ : Rw)]).flatMap rc = l.flatMap rc ++ rc ⟨id, x, y, vl⟩ := by rw [List.flatMap_append]; simp
                  rw [e1, e2]
                  exact own_sameR x1 fun b h1 h2 => hoth b (by omega)
              refine readyL 33 _ (by kernel_rfl) rfl (by kernel_rfl) (fun K hK => ?_)
              go_simp
              refine hK _ _ (⟨(World.cell?_of_block (a := ⟨w.heap.size + 1, 4, none⟩) (hb8.block (w.heap.size + 1) (by omega))).trans HSW.out.1, trivial⟩ : (W7.alloc (.cells #[.int .u64 (id : Int), .int .u32 (x : Int), .int .u32 (y : Int), .string vl] 47)).cell? ⟨w.heap.size + 1, 4, none⟩ = some (.slice o l.length cap) ∧ True) ?_
              clear hK K
              refine readyL 34 _ (by kernel_rfl) rfl (by kernel_rfl) (fun K hK => ?_)
              refine op_append 25 25 (.tmp 62) (.tmp 94) rfl rfl rfl hrun ?_
              replace HSW : Hid (W'.cell? ⟨w.heap.size + 1, 4, none⟩ = some (.slice o l.length cap) ∧ True) := ⟨z5, trivial⟩
              refine hK _ _ HSW.out ?_
              clear hK K hob keepg keepw x1 x2 x3 b7 hb8 hB' hrun
              conv in (Act.put _ _ _) => simp only [List.getElem_toArray, List.getElem_cons_succ, List.getElem_cons_zero, Act.put, List.setIfInBounds_toArray, List.set_cons_succ, List.set_cons_zero]
              refine wpLast_take (i := 35) (v := ?_) (by kernel_rfl) rfl (by kernel_rfl) (by kernel_rfl) (by kernel_rfl) (fun _ _ _ h => h) (Or.inl ⟨by kernel_rfl, ?_⟩) HSW.out ?_
              rotate_left
              · intro w hS
                obtain ⟨e1, e2⟩ := hS
                go_simp
                try with_reducible rfl
              conv in (Act.put _ _ _) => simp only [List.getElem_toArray, List.getElem_cons_succ, List.getElem_cons_zero, Act.put, List.setIfInBounds_toArray, List.set_cons_succ, List.set_cons_zero]
              refine wpLast_end rfl (by kernel_rfl) (by kernel_rfl) (by kernel_rfl) ?_
              go_simp
              clear z4 z5
              have ln1 : (l.length : Int) < 256 := by have := HIN.out; omega
              go_wp2_with fail
              go_roundw
              case rel =>
                refine ⟨l.length + 1, (.slice (some ⟨g', 0, none⟩) (l.length + 1) cap'), by have := HIN.out; omega, ?_, by go_num, ?_, ?_⟩
                · rw [HRW.out]; simp only; congr 1
                · rw [HRW.out]; exact HIN.out.2.1
                · rw [HRW.out]; exact HFIN.out
              case measure =>
                have := HIN.out
                simp [natOf]
                omega
        · have hN : l.length = N := by omega
          have q5 : ¬ (l.length : Int) < (N : Int) := by omega
          by_cases hz : a = s.size
          · have HR : Hid (Res s true ⟨1, 0, 0, 0, l, [], p, t⟩) := by
              have := HRi.out hN
              rw [decide_eq_true hz] at this
              exact this
            have q8 : ((a : Int) == (s.size : Int)) = true := by simp; omega
            clear hlt hi hle hsm hN
            go_wp2_with (refine wpList_store_row rfl 30 (.tmp 2) (.tmp 101) rfl w.heap.size #[.int .i64 1, .int .u32 0, .int .u32 0, .int .i64 0, .slice o l.length cap, .slice none 0 0, .int .u32 (p : Int), .string t] (by rfl) (by rfl) 30 #[.int .i64 0, .int .u32 0, .int .u32 0, .int .i64 0, .slice none 0 0, .slice none 0 0, .int .u32 0, .string ⟨#[]⟩] HRE.out HI.out (by rfl) (by kernel_rfl) ?_)
            refine bodyPost_ret (results_page2 rfl _ _ w.heap.size _ _ _ _ _ _ _ _ rfl rfl (setRow_heap _ _ _ _ _ _ HRE.out)) rfl ?_
            exact ⟨_, _, true, rfl, HF.out, HR.out, HE.out⟩
          · have HR : Hid (Res s false ⟨1, 0, 0, 0, l, [], p, t⟩) := by
              have := HRi.out hN
              rw [decide_eq_false hz] at this
              exact this
            have q8 : ((a : Int) == (s.size : Int)) = false := by simp; omega
            clear hlt hi hle hsm hN
            go_wp2_with (refine wpList_store_row rfl 30 (.tmp 2) (.tmp 101) rfl w.heap.size #[.int .i64 1, .int .u32 0, .int .u32 0, .int .i64 0, .slice o l.length cap, .slice none 0 0, .int .u32 (p : Int), .string t] (by rfl) (by rfl) 30 #[.int .i64 0, .int .u32 0, .int .u32 0, .int .i64 0, .slice none 0 0, .slice none 0 0, .int .u32 0, .string ⟨#[]⟩] HRE.out HI.out (by rfl) (by kernel_rfl) ?_)
            refine bodyPost_ret (results_page2 rfl _ _ w.heap.size _ _ _ _ _ _ _ _ rfl rfl (setRow_heap _ _ _ _ _ _ HRE.out)) rfl ?_
            exact ⟨_, _, false, rfl, HF.out, HR.out, HE.out⟩
end Go.Proofs.Ytljponlfjombaaa.Rw
