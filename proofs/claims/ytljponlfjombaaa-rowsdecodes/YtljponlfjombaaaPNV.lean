/- The reference: inner pages as they are read. -/
import Derived.Test.YtljponlfjombaaaQNT
import Derived.Test.YtljponlfjombaaaQNC
import Derived.Test.YtljponlfjombaaaPGL
namespace Go.Proofs.Ytljponlfjombaaa.Rw
open Go.RowKit Go.Lib Go.Shelf
open Go.Proofs.Ytljponlfjombaaa.Rc Go.Proofs.Ytljponlfjombaaa.Rq
/-- Its lists are newer than the world. -/
def Lie (w : World) (q : Pg) : Prop := (∀ b off, q.ro = some ⟨b, off, none⟩ → w.heap.size ≤ b) ∧ (∀ b off, q.ko = some ⟨b, off, none⟩ → w.heap.size ≤ b)
/-- What a reading gives. -/
def PRes (s : ByteArray) (w : World) (e : Ending) (w' : World) : Prop := ∃ q P ok, e = .returned (.tuple #[gv q, .bool ok]) ∧ (PAt w' q P ∧ Lie w q) ∧ Res s ok P ∧ Below w.heap.size w w'
/-- The state of the loop: the page that grows, its kids, the place of the answer. -/
structure IJ (w : World) (X Y Z : Nat) (ks : List Rf) (v : Value) (W : World) : Prop where
  res : W.heap[w.heap.size]? = some (.cells #[.int .i64 0, .int .u32 0, .int .u32 0, .int .i64 0, .slice none 0 0, .slice none 0 0, .int .u32 0, .string ⟨#[]⟩] 30 (0, 0))
  pag : W.heap[w.heap.size + 1]? = some (.cells #[.int .i64 2, .int .u32 (X : Int), .int .u32 (Y : Int), .int .i64 (Z : Int), .slice none 0 0, v, .int .u32 0, .string ⟨#[]⟩] 30 (0, 0))
  own : W.ownsRow (w.heap.size + 2) 28 2 v ks.length (ks.flatMap fc)
  bel : Below w.heap.size w W
set_option maxRecDepth 100000 in
theorem sin_end {w W : World} {X Y Z : Nat} {ks : List Rf} {o : Option Addr} {c : Nat} (hX : X < 4294967296) (hY : Y < 4294967296) (h : IJ w X Y Z ks (.slice o ks.length c) W) (cs : Array Value) : PAt (W.setRow w.heap.size cs) ⟨2, X, Y, (Z : Int), none, 0, 0, o, ks.length, c, 0, ⟨#[]⟩⟩ ⟨2, X, Y, (Z : Int), [], ks, 0, ⟨#[]⟩⟩ ∧ Lie w ⟨2, X, Y, (Z : Int), none, 0, 0, o, ks.length, c, 0, ⟨#[]⟩⟩ := by
  refine ⟨⟨rfl, rfl, rfl, rfl, rfl, rfl, ⟨hX, hY, rfl, Sl.nil _ _, rfl, ?_⟩⟩, fun b off e => by simp at e, fun b off e => ?_⟩
  rotate_left
  · simp only at e
    have := own_baseF h.own (b := b) (by subst e; rfl)
    omega
  obtain ⟨o', c', e, hs⟩ := sl_of_own h.own
  cases e
  refine Sl.same hs (by simp) fun b off e _ => setRow_other _ _ _ _ ?_
  have := own_baseF h.own (b := b) (by subst e; rfl)
  omega
set_option maxRecDepth 100000 in
set_option maxHeartbeats 4000000 in
theorem sinner_any (s : ByteArray) (h0 : 0 < s.size) (hb : bt s 0 = 2) (w : World) :
    Calls Try.prog 32 #[.string s] w fun e w' => PRes s w e w' := by
  have h1 := below_new w (.cells #[.int .i64 0, .int .u32 0, .int .u32 0, .int .i64 0, .slice none 0 0, .slice none 0 0, .int .u32 0, .string ⟨#[]⟩] 30)
  have h2 := below_new (w.alloc (.cells #[.int .i64 0, .int .u32 0, .int .u32 0, .int .i64 0, .slice none 0 0, .slice none 0 0, .int .u32 0, .string ⟨#[]⟩] 30)) (.cells #[.int .i64 2, .int .u32 0, .int .u32 0, .int .i64 0, .slice none 0 0, .slice none 0 0, .int .u32 0, .string ⟨#[]⟩] 30)
  have HJ0 : Hid (IJ w 0 0 0 [] (.slice none 0 0) ((w.alloc (.cells #[.int .i64 0, .int .u32 0, .int .u32 0, .int .i64 0, .slice none 0 0, .slice none 0 0, .int .u32 0, .string ⟨#[]⟩] 30)).alloc (.cells #[.int .i64 2, .int .u32 0, .int .u32 0, .int .i64 0, .slice none 0 0, .slice none 0 0, .int .u32 0, .string ⟨#[]⟩] 30))) := by
    refine (?_ : IJ w 0 0 0 [] (.slice none 0 0) ((w.alloc (.cells #[.int .i64 0, .int .u32 0, .int .u32 0, .int .i64 0, .slice none 0 0, .slice none 0 0, .int .u32 0, .string ⟨#[]⟩] 30)).alloc (.cells #[.int .i64 2, .int .u32 0, .int .u32 0, .int .i64 0, .slice none 0 0, .slice none 0 0, .int .u32 0, .string ⟨#[]⟩] 30)))
    refine ⟨(h2.block _ (by simp)).trans (heap_alloc_new w _), ?_, World.ownsRow_nil _ _ _ _, h1.trans (h2.mono h1.size)⟩
    have := heap_alloc_new (w.alloc (.cells #[.int .i64 0, .int .u32 0, .int .u32 0, .int .i64 0, .slice none 0 0, .slice none 0 0, .int .u32 0, .string ⟨#[]⟩] 30)) (.cells #[.int .i64 2, .int .u32 0, .int .u32 0, .int .i64 0, .slice none 0 0, .slice none 0 0, .int .u32 0, .string ⟨#[]⟩] 30)
    simpa using this
  obtain ⟨W0, hW0⟩ : ∃ W0, (w.alloc (.cells #[.int .i64 0, .int .u32 0, .int .u32 0, .int .i64 0, .slice none 0 0, .slice none 0 0, .int .u32 0, .string ⟨#[]⟩] 30)).alloc (.cells #[.int .i64 2, .int .u32 0, .int .u32 0, .int .i64 0, .slice none 0 0, .slice none 0 0, .int .u32 0, .string ⟨#[]⟩] 30) = W0 := ⟨_, rfl⟩
  rw [hW0] at HJ0
  have HW0 : Hid _ := hW0
  clear h1 h2 hW0
  have hi : (Try.prog.info? 30).map (·.size) = some 8 := by kernel_rfl
  have HI : Hid _ := hi
  clear hi
  have HG0 : Hid _ := HJ0.out.res
  obtain ⟨p0, p1, p2, p3, p4, p5, p6, p7⟩ := (pg_cells (q := ⟨2, 0, 0, 0, none, 0, 0, none, 0, 0, 0, ⟨#[]⟩⟩) HJ0.out.pag).1
  simp only at p0 p1 p2 p3 p4 p5 p6 p7
  by_cases hlt : s.size < 11
  · have HR : Hid (Res s false ⟨2, 0, 0, 0, [], [], 0, ⟨#[]⟩⟩) := res_no (inner_small h0 hb hlt)
    have q1 : (s.size : Int) < 11 := by omega
    have HF : Hid _ := sin_end (Nat.zero_lt_succ _) (Nat.zero_lt_succ _) HJ0.out #[.int .i64 2, .int .u32 0, .int .u32 0, .int .i64 0, .slice none 0 0, .slice none 0 0, .int .u32 0, .string ⟨#[]⟩]
    have HE : Hid (Below w.heap.size w (W0.setRow w.heap.size #[.int .i64 2, .int .u32 0, .int .u32 0, .int .i64 0, .slice none 0 0, .slice none 0 0, .int .u32 0, .string ⟨#[]⟩])) := below_row HJ0.out.bel (Nat.le_refl _) _
    clear hlt h0 hb
    go_enter Try.func32, Try.ntmps32
    go_wp2_with (first | (rw [HW0.out]; clear HW0) | (refine wpList_store_row rfl 30 (.tmp 2) (.tmp 20) rfl w.heap.size #[.int .i64 2, .int .u32 0, .int .u32 0, .int .i64 0, .slice none 0 0, .slice none 0 0, .int .u32 0, .string ⟨#[]⟩] (by rfl) (by rfl) 30 #[.int .i64 0, .int .u32 0, .int .u32 0, .int .i64 0, .slice none 0 0, .slice none 0 0, .int .u32 0, .string ⟨#[]⟩] HG0.out HI.out (by rfl) (by kernel_rfl) ?_))
    refine bodyPost_ret (results_page2 rfl _ _ w.heap.size _ _ _ _ _ _ _ _ rfl rfl (setRow_heap _ _ _ _ _ _ HG0.out)) rfl ?_
    exact ⟨_, _, false, rfl, HF.out, HR.out, HE.out⟩
  · have q1 : ¬ (s.size : Int) < 11 := by omega
    have hidx : ∀ w', (Instr.index 9 (.string s) (.int .i64 1)).run Try.prog w' = .ok (.int .u8 (bt s 1 : Int)) w' := fun w' => idx_s s 1 (by omega) w'
    have hn := bt_lt s 1
    by_cases heq : s.size = 11 + 36 * bt s 1
    · have HRS : Hid (Res s true (inP s (bt s 1))) := inner_res h0 hb (by omega) heq
      obtain ⟨n, hbn⟩ : ∃ n, bt s 1 = n := ⟨_, rfl⟩
      rw [hbn] at hidx hn heq HRS
      have hz : (s.size : Int) = 11 + 36 * (n : Int) := by omega
      have q2 : ((s.size : Int) == 11 + 36 * (n : Int)) = true := by simp [hz]
      have hidx2 : ∀ w', (Instr.index 9 (.string s) (.int .i64 2)).run Try.prog w' = .ok (.int .u8 (bt s 2 : Int)) w' := fun w' => idx_s s 2 (by omega) w'
      have q3 : (11 : Int) ≤ (s.size : Int) := by omega
      have q4 : (7 : Int) ≤ (s.size : Int) := by omega
      have n0 : (0 : Int) ≤ (n : Int) := by omega
      have n1 : (n : Int) < 256 := by omega
      have HZ : Hid (s.size = 11 + 36 * n) := heq
      clear hlt h0 hb hbn heq hz
      go_enter Try.func32, Try.ntmps32
      have HGT : Hid _ := sget_any
      have g1 : Hid _ := HGT.out (s.extract 3 7) (by rw [ByteArray.size_extract]; omega)
      have g2 : Hid _ := HGT.out (s.extract 7 11) (by rw [ByteArray.size_extract]; omega)
      have sz1 : (s.extract 3 7).size = 4 := by rw [ByteArray.size_extract]; omega
      have sz2 : (s.extract 7 11).size = 4 := by rw [ByteArray.size_extract]; omega
      rw [sz1] at g1
      rw [sz2] at g2
      have vx := valB_lt (s.extract 3 7) 4
      have vy := valB_lt (s.extract 7 11) 4
      simp only [Nat.reduceMul, Nat.reducePow] at vx vy
      unfold inP at HRS
      have vz := bt_lt s 2
      generalize valB (s.extract 3 7) 4 = X at *
      generalize valB (s.extract 7 11) 4 = Y at *
      generalize bt s 2 = Z at *
      have cx : IntKind.u32.wrap (X : Int) = (X : Int) := IntWalk.u32_in _ ⟨by omega, by omega⟩
      have cy : IntKind.u32.wrap (Y : Int) = (Y : Int) := IntWalk.u32_in _ ⟨by omega, by omega⟩
      have cz : IntKind.i64.wrap (Z : Int) = (Z : Int) := IntWalk.i64_in _ ⟨by omega, by omega⟩
      clear sz1 sz2
      go_wp2_with (first | (rw [HW0.out]; clear HW0))
      clear q2 q1
      refine wp_region_any (by kernel_rfl) ?_
      refine wpAny_take (i := 0) (v := ?_) rfl (by kernel_rfl) (by kernel_rfl) (by kernel_rfl) (fun _ _ _ h => h) (Or.inl ⟨by kernel_rfl, ?_⟩) ?_
      rotate_left
      · intro w
        go_simp
        try with_reducible rfl
      conv in (Act.put _ _ _) => simp only [List.getElem_toArray, List.getElem_cons_succ, List.getElem_cons_zero, Act.put, List.setIfInBounds_toArray, List.set_cons_succ, List.set_cons_zero]
      refine wpAny_take (i := 1) (v := ?_) rfl (by kernel_rfl) (by kernel_rfl) (by kernel_rfl) (fun _ _ _ h => h) (Or.inl ⟨by kernel_rfl, ?_⟩) ?_
      rotate_left
      · intro w
        go_simp
        try with_reducible rfl
      conv in (Act.put _ _ _) => simp only [List.getElem_toArray, List.getElem_cons_succ, List.getElem_cons_zero, Act.put, List.setIfInBounds_toArray, List.set_cons_succ, List.set_cons_zero]
      refine wpAny_take (i := 4) (v := ?_) rfl (by kernel_rfl) (by kernel_rfl) (by kernel_rfl) (fun _ _ _ h => h) (Or.inl ⟨by kernel_rfl, ?_⟩) ?_
      rotate_left
      · intro w
        go_simp
        try with_reducible rfl
      conv in (Act.put _ _ _) => simp only [List.getElem_toArray, List.getElem_cons_succ, List.getElem_cons_zero, Act.put, List.setIfInBounds_toArray, List.set_cons_succ, List.set_cons_zero]
      refine wpAny_take (i := 5) (v := ?_) rfl (by kernel_rfl) (by kernel_rfl) (by kernel_rfl) (fun _ _ _ h => h) (Or.inl ⟨by kernel_rfl, ?_⟩) ?_
      rotate_left
      · intro w
        go_simp
        try with_reducible rfl
      conv in (Act.put _ _ _) => simp only [List.getElem_toArray, List.getElem_cons_succ, List.getElem_cons_zero, Act.put, List.setIfInBounds_toArray, List.set_cons_succ, List.set_cons_zero]
      refine wpAny_take (i := 8) (v := ?_) rfl (by kernel_rfl) (by kernel_rfl) (by kernel_rfl) (fun _ _ _ h => h) (Or.inl ⟨by kernel_rfl, ?_⟩) ?_
      rotate_left
      · intro w
        go_simp
        try with_reducible rfl
      conv in (Act.put _ _ _) => simp only [List.getElem_toArray, List.getElem_cons_succ, List.getElem_cons_zero, Act.put, List.setIfInBounds_toArray, List.set_cons_succ, List.set_cons_zero]
      refine wpAny_take (i := 9) (v := ?_) rfl (by kernel_rfl) (by kernel_rfl) (by kernel_rfl) (fun _ _ _ h => h) (Or.inl ⟨by kernel_rfl, ?_⟩) ?_
      rotate_left
      · intro w
        go_simp
        try with_reducible rfl
      conv in (Act.put _ _ _) => simp only [List.getElem_toArray, List.getElem_cons_succ, List.getElem_cons_zero, Act.put, List.setIfInBounds_toArray, List.set_cons_succ, List.set_cons_zero]
      refine wpAny_take (i := 10) (v := ?_) rfl (by kernel_rfl) (by kernel_rfl) (by kernel_rfl) (fun _ _ _ h => h) (Or.inl ⟨by kernel_rfl, ?_⟩) ?_
      rotate_left
      · intro w
        go_simp
        try with_reducible rfl
      conv in (Act.put _ _ _) => simp only [List.getElem_toArray, List.getElem_cons_succ, List.getElem_cons_zero, Act.put, List.setIfInBounds_toArray, List.set_cons_succ, List.set_cons_zero]
      refine wpAny_ready (rs := [2]) (by kernel_rfl) (by simp) ?_
      refine (AllReady.cons rfl (fun K hK => ?_) AllReady.nil)
      go_simp
      refine (g1.out W0.drew).mono ?_
      rintro e w2 ⟨rfl, b2⟩
      have HZ2 : Hid (Below W0.heap.size W0 w2) := (Below.refl _ W0).drew.trans (b2.mono (Nat.le_refl _))
      clear b2
      refine hK _ _ ?_
      clear hK K
      refine wpAny_take (i := 3) (v := ?_) rfl (by kernel_rfl) (by kernel_rfl) (by kernel_rfl) (fun _ _ _ h => h) (Or.inl ⟨by kernel_rfl, ?_⟩) ?_
      rotate_left
      · intro w
        go_simp
        try with_reducible rfl
      conv in (Act.put _ _ _) => simp only [List.getElem_toArray, List.getElem_cons_succ, List.getElem_cons_zero, Act.put, List.setIfInBounds_toArray, List.set_cons_succ, List.set_cons_zero]
      refine wpAny_ready (rs := [6]) (by kernel_rfl) (by simp) ?_
      refine (AllReady.cons rfl (fun K hK => ?_) AllReady.nil)
      go_simp
      refine (g2.out w2).mono ?_
      rintro e w3 ⟨rfl, b3⟩
      have hz3 : Below W0.heap.size W0 w3 := HZ2.out.trans (b3.mono HZ2.out.size)
      have lp : w.heap.size + 1 < W0.heap.size := (Array.getElem?_eq_some_iff.1 HJ0.out.pag).1
      have hg3 := (hz3.block _ lp).trans HJ0.out.pag
      have hr3 := (hz3.block _ (by omega)).trans HJ0.out.res
      have l3 : w.heap.size + 1 < w3.heap.size := (Array.getElem?_eq_some_iff.1 hg3).1
      have fz : ∀ k, w3.frozen? ⟨w.heap.size + 1, k, none⟩ = false := fun k => frozen_of_row w3 _ k _ _ hg3
      have f1 := fz 1
      have f2 := fz 2
      have f3 := fz 3
      obtain ⟨d0, d1, d2, d3, d4, d5, d6, d7⟩ := (pg_cells (q := ⟨2, 0, 0, 0, none, 0, 0, none, 0, 0, 0, ⟨#[]⟩⟩) hg3).1
      simp only at d0 d1 d2 d3 d4 d5 d6 d7
      have X1 := heap_setCell_same w3 (w.heap.size + 1) 1 _ _ (.int .u32 (X : Int)) hg3
      have X2 := heap_setCell_same _ (w.heap.size + 1) 2 _ _ (.int .u32 (Y : Int)) X1
      have X3 := heap_setCell_same _ (w.heap.size + 1) 3 _ _ (.int .i64 (Z : Int)) X2
      simp only [List.setIfInBounds_toArray, List.set_cons_zero, List.set_cons_succ] at X3
      have hoth : ∀ j, j ≠ w.heap.size + 1 → ((((w3.setCell ⟨w.heap.size + 1, 1, none⟩ (.int .u32 (X : Int))).setCell ⟨w.heap.size + 1, 2, none⟩ (.int .u32 (Y : Int))).setCell ⟨w.heap.size + 1, 3, none⟩ (.int .i64 (Z : Int)))).heap[j]? = w3.heap[j]? := fun j hj => by
        rw [Below.heap_setCell _ _ _ _ (fun e => hj e), Below.heap_setCell _ _ _ _ (fun e => hj e), Below.heap_setCell _ _ _ _ (fun e => hj e)]
      have HJ4 : Hid (IJ w X Y Z [] (.slice none 0 0) (((w3.setCell ⟨w.heap.size + 1, 1, none⟩ (.int .u32 (X : Int))).setCell ⟨w.heap.size + 1, 2, none⟩ (.int .u32 (Y : Int))).setCell ⟨w.heap.size + 1, 3, none⟩ (.int .i64 (Z : Int)))) := by
        refine (?_ : IJ w X Y Z [] (.slice none 0 0) (((w3.setCell ⟨w.heap.size + 1, 1, none⟩ (.int .u32 (X : Int))).setCell ⟨w.heap.size + 1, 2, none⟩ (.int .u32 (Y : Int))).setCell ⟨w.heap.size + 1, 3, none⟩ (.int .i64 (Z : Int))))
        refine ⟨(hoth _ (by omega)).trans hr3, X3, World.ownsRow_nil _ _ _ _, ?_⟩
        have hb := HJ0.out.bel.trans (hz3.mono HJ0.out.bel.size)
        exact ⟨by simp only [st_os]; exact hb.os, by simp only [st_tape]; exact hb.tape, by simp only [st_out]; exact hb.output, by simp only [st_size]; exact hb.size, fun j hj => (hoth j (by omega)).trans (hb.block j hj)⟩
      clear hoth X1 X2 X3 hg3 hr3 hz3 b3 fz p0 p1 p2 p3 p4 p5 p6 p7 HJ0 HG0 HZ2 g1 g2
      refine hK _ _ ?_
      clear hK K
      refine wpAny_take (i := 7) (v := ?_) rfl (by kernel_rfl) (by kernel_rfl) (by kernel_rfl) (fun _ _ _ h => h) (Or.inl ⟨by kernel_rfl, ?_⟩) ?_
      rotate_left
      · intro w
        go_simp
        try with_reducible rfl
      conv in (Act.put _ _ _) => simp only [List.getElem_toArray, List.getElem_cons_succ, List.getElem_cons_zero, Act.put, List.setIfInBounds_toArray, List.set_cons_succ, List.set_cons_zero]
      refine wpAny_take (i := 11) (v := ?_) rfl (by kernel_rfl) (by kernel_rfl) (by kernel_rfl) (fun _ _ _ h => h) (Or.inl ⟨by kernel_rfl, ?_⟩) ?_
      rotate_left
      · intro w
        go_simp
        try with_reducible rfl
      conv in (Act.put _ _ _) => simp only [List.getElem_toArray, List.getElem_cons_succ, List.getElem_cons_zero, Act.put, List.setIfInBounds_toArray, List.set_cons_succ, List.set_cons_zero]
      refine wpAny_take (i := 12) (v := ?_) rfl (by kernel_rfl) (by kernel_rfl) (by kernel_rfl) (fun _ _ _ h => h) (Or.inl ⟨by kernel_rfl, ?_⟩) ?_
      rotate_left
      · intro w
        go_simp
        try with_reducible rfl
      conv in (Act.put _ _ _) => simp only [List.getElem_toArray, List.getElem_cons_succ, List.getElem_cons_zero, Act.put, List.setIfInBounds_toArray, List.set_cons_succ, List.set_cons_zero]
      refine wpAny_ready (rs := [13]) (by kernel_rfl) (by simp) ?_
      refine (AllReady.cons rfl (fun K hK => ?_) AllReady.nil)
      go_simp
      generalize (((w3.setCell ⟨w.heap.size + 1, 1, none⟩ (.int .u32 (X : Int))).setCell ⟨w.heap.size + 1, 2, none⟩ (.int .u32 (Y : Int))).setCell ⟨w.heap.size + 1, 3, none⟩ (.int .i64 (Z : Int))) = W4 at *
      refine hK _ _ ?_
      clear hK K
      refine wpAny_done (by kernel_rfl) ?_ _
      clear d0 d1 d2 d3 d4 d5 d6 d7 f1 f2 f3
      go_wp2_with fail
      clear hidx hidx2 q3 q4 cx cy cz
      go_loopw [5] (fun iv wr => ∃ (i : Nat) (v : Value), i ≤ n ∧ iv = .int .i64 ((11 + 36 * i : Nat) : Int) ∧ IJ w X Y Z ((List.range i).map fun j => kidA s (11 + 36 * j)) v wr) (fun iv _ => s.size - natOf iv)
      case atStart => exact ⟨0, .slice none 0 0, Nat.zero_le _, rfl, HJ4.out⟩
      case round =>
        obtain ⟨i, v, hi, rfl, hj⟩ := hrel
        have HJ : Hid _ := hj
        obtain ⟨o, cap, rfl, -⟩ := sl_of_own hj.own
        have hlen : ((List.range i).map fun j => kidA s (11 + 36 * j)).length = i := by simp
        have hsz := HZ.out
        obtain ⟨a, ha⟩ : ∃ a, 11 + 36 * i = a := ⟨_, rfl⟩
        have hg := hj.pag
        obtain ⟨d0, d1, d2, d3, d4, d5, d6, d7⟩ := (pg_cells (q := ⟨2, X, Y, (Z : Int), none, 0, 0, o, ((List.range i).map fun j => kidA s (11 + 36 * j)).length, cap, 0, ⟨#[]⟩⟩) hg).1
        simp only at d0 d1 d2 d3 d4 d5 d6 d7
        have lp : w.heap.size + 1 < wr.heap.size := (Array.getElem?_eq_some_iff.1 hg).1
        rw [hlen] at d5
        by_cases hlt : i < n
        · rw [ha]
          have q5 : (a : Int) < (s.size : Int) := by omega
          have a0 : (0 : Int) ≤ (a : Int) := by omega
          have t1 : (a : Int) + 4 ≤ (s.size : Int) := by omega
          have t2 : (a : Int) + 36 ≤ (s.size : Int) := by omega
          have t3 : (s.size : Int) ≤ 10000 := by omega
          have hav : kidA s (11 + 36 * i) = kidA s a := by rw [ha]
          have HKA : Hid (((List.range (i + 1)).map fun j => kidA s (11 + 36 * j)) = ((List.range i).map fun j => kidA s (11 + 36 * j)) ++ [kidA s a]) := by
            refine (?_ : ((List.range (i + 1)).map fun j => kidA s (11 + 36 * j)) = ((List.range i).map fun j => kidA s (11 + 36 * j)) ++ [kidA s a])
            rw [List.range_succ, List.map_append]
            simp only [List.map_cons, List.map_nil]
            rw [hav]
          have hkd : kidA s a = ⟨valB (s.extract a (a + 4)) 4, s.extract (a + 4) (a + 36)⟩ := rfl
          have sz1 : (s.extract a (a + 4)).size = 4 := by rw [ByteArray.size_extract]; omega
          have g1 : Hid _ := HGT.out (s.extract a (a + 4)) (by omega)
          rw [sz1] at g1
          have vp := valB_lt (s.extract a (a + 4)) 4
          simp only [Nat.reduceMul, Nat.reducePow] at vp
          generalize valB (s.extract a (a + 4)) 4 = p at *
          have cp : IntKind.u32.wrap (p : Int) = (p : Int) := IntWalk.u32_in _ ⟨by omega, by omega⟩
          have HKD : Hid _ := hkd
          generalize ((List.range i).map fun j => kidA s (11 + 36 * j)) = ks at *
          subst hlen
          have HIN : Hid (ks.length < n ∧ 11 + 36 * ks.length = a ∧ s.size = 11 + 36 * n) := ⟨hlt, ha, hsz⟩
          clear hav hkd sz1 hj hg hsz ha hlt hi
          have y1 : ((a : Int) + 4).toNat = a + 4 := by omega
          have y2 : ((a : Int) + 36).toNat = a + 36 := by omega
          have y3 : ((a : Int)).toNat = a := by omega
          have t4 : (a : Int) ≤ (a : Int) + 4 := by omega
          have t5 : (a : Int) + 4 ≤ (a : Int) + 36 := by omega
          have t6 : (0 : Int) ≤ (a : Int) + 4 := by omega
          have w4 : IntKind.i64.wrap ((a : Int) + 4) = (a : Int) + 4 := IntWalk.i64_in _ ⟨by omega, by omega⟩
          have w36 : IntKind.i64.wrap ((a : Int) + 36) = (a : Int) + 36 := IntWalk.i64_in _ ⟨by omega, by omega⟩
          go_wp2_with fail
          refine region_lastP (z := 19) (S := fun W => W.cell? ⟨w.heap.size + 1, 5, none⟩ = some (.slice o ks.length cap) ∧ True) (by kernel_rfl) ?_
          change wpLast _ _ _ _ _ _ 20 _ _ _
          have HSW : Hid (wr.drew.cell? ⟨w.heap.size + 1, 5, none⟩ = some (.slice o ks.length cap) ∧ True) := ⟨d5, trivial⟩
          clear d0 d1 d2 d3 d4 d5 d6 d7
          refine wpLast_take (i := 0) (v := ?_) (by kernel_rfl) rfl (by kernel_rfl) (by kernel_rfl) (by kernel_rfl) (fun _ _ _ h => h) (Or.inl ⟨by kernel_rfl, ?_⟩) HSW.out ?_
          rotate_left
          · intro w hS
            obtain ⟨e1, e2⟩ := hS
            go_simp
            try with_reducible rfl
          conv in (Act.put _ _ _) => simp only [List.getElem_toArray, List.getElem_cons_succ, List.getElem_cons_zero, Act.put, List.setIfInBounds_toArray, List.set_cons_succ, List.set_cons_zero]
          refine wpLast_take (i := 1) (v := ?_) (by kernel_rfl) rfl (by kernel_rfl) (by kernel_rfl) (by kernel_rfl) (fun _ _ _ h => h) (Or.inl ⟨by kernel_rfl, ?_⟩) HSW.out ?_
          rotate_left
          · intro w hS
            obtain ⟨e1, e2⟩ := hS
            go_simp
            try with_reducible rfl
          conv in (Act.put _ _ _) => simp only [List.getElem_toArray, List.getElem_cons_succ, List.getElem_cons_zero, Act.put, List.setIfInBounds_toArray, List.set_cons_succ, List.set_cons_zero]
          refine wpLast_take (i := 2) (v := ?_) (by kernel_rfl) rfl (by kernel_rfl) (by kernel_rfl) (by kernel_rfl) (fun _ _ _ h => h) (Or.inl ⟨by kernel_rfl, ?_⟩) HSW.out ?_
          rotate_left
          · intro w hS
            obtain ⟨e1, e2⟩ := hS
            go_simp
            try with_reducible rfl
          conv in (Act.put _ _ _) => simp only [List.getElem_toArray, List.getElem_cons_succ, List.getElem_cons_zero, Act.put, List.setIfInBounds_toArray, List.set_cons_succ, List.set_cons_zero]
          refine wpLast_take (i := 3) (v := ?_) (by kernel_rfl) rfl (by kernel_rfl) (by kernel_rfl) (by kernel_rfl) (fun _ _ _ h => h) (Or.inl ⟨by kernel_rfl, ?_⟩) HSW.out ?_
          rotate_left
          · intro w hS
            obtain ⟨e1, e2⟩ := hS
            go_simp
            try with_reducible rfl
          conv in (Act.put _ _ _) => simp only [List.getElem_toArray, List.getElem_cons_succ, List.getElem_cons_zero, Act.put, List.setIfInBounds_toArray, List.set_cons_succ, List.set_cons_zero]
          refine wpLast_take (i := 4) (v := ?_) (by kernel_rfl) rfl (by kernel_rfl) (by kernel_rfl) (by kernel_rfl) (fun _ _ _ h => h) (Or.inl ⟨by kernel_rfl, ?_⟩) HSW.out ?_
          rotate_left
          · intro w hS
            obtain ⟨e1, e2⟩ := hS
            go_simp
            try with_reducible rfl
          conv in (Act.put _ _ _) => simp only [List.getElem_toArray, List.getElem_cons_succ, List.getElem_cons_zero, Act.put, List.setIfInBounds_toArray, List.set_cons_succ, List.set_cons_zero]
          refine wpLast_take (i := 5) (v := ?_) (by kernel_rfl) rfl (by kernel_rfl) (by kernel_rfl) (by kernel_rfl) (fun _ _ _ h => h) (Or.inl ⟨by kernel_rfl, ?_⟩) HSW.out ?_
          rotate_left
          · intro w hS
            obtain ⟨e1, e2⟩ := hS
            go_simp
            try with_reducible rfl
          conv in (Act.put _ _ _) => simp only [List.getElem_toArray, List.getElem_cons_succ, List.getElem_cons_zero, Act.put, List.setIfInBounds_toArray, List.set_cons_succ, List.set_cons_zero]
          refine wpLast_take (i := 6) (v := ?_) (by kernel_rfl) rfl (by kernel_rfl) (by kernel_rfl) (by kernel_rfl) (fun _ _ _ h => h) (Or.inl ⟨by kernel_rfl, ?_⟩) HSW.out ?_
          rotate_left
          · intro w hS
            obtain ⟨e1, e2⟩ := hS
            go_simp
            try with_reducible rfl
          conv in (Act.put _ _ _) => simp only [List.getElem_toArray, List.getElem_cons_succ, List.getElem_cons_zero, Act.put, List.setIfInBounds_toArray, List.set_cons_succ, List.set_cons_zero]
          refine wpLast_take (i := 9) (v := ?_) (by kernel_rfl) rfl (by kernel_rfl) (by kernel_rfl) (by kernel_rfl) (fun _ _ _ h => h) (Or.inl ⟨by kernel_rfl, ?_⟩) HSW.out ?_
          rotate_left
          · intro w hS
            obtain ⟨e1, e2⟩ := hS
            go_simp
            try with_reducible rfl
          conv in (Act.put _ _ _) => simp only [List.getElem_toArray, List.getElem_cons_succ, List.getElem_cons_zero, Act.put, List.setIfInBounds_toArray, List.set_cons_succ, List.set_cons_zero]
          refine wpLast_take (i := 10) (v := ?_) (by kernel_rfl) rfl (by kernel_rfl) (by kernel_rfl) (by kernel_rfl) (fun _ _ _ h => h) (Or.inl ⟨by kernel_rfl, ?_⟩) HSW.out ?_
          rotate_left
          · intro w hS
            obtain ⟨e1, e2⟩ := hS
            go_simp
            try with_reducible rfl
          conv in (Act.put _ _ _) => simp only [List.getElem_toArray, List.getElem_cons_succ, List.getElem_cons_zero, Act.put, List.setIfInBounds_toArray, List.set_cons_succ, List.set_cons_zero]
          refine wpLast_take (i := 11) (v := ?_) (by kernel_rfl) rfl (by kernel_rfl) (by kernel_rfl) (by kernel_rfl) (fun _ _ _ h => h) (Or.inl ⟨by kernel_rfl, ?_⟩) HSW.out ?_
          rotate_left
          · intro w hS
            obtain ⟨e1, e2⟩ := hS
            go_simp
            try with_reducible rfl
          conv in (Act.put _ _ _) => simp only [List.getElem_toArray, List.getElem_cons_succ, List.getElem_cons_zero, Act.put, List.setIfInBounds_toArray, List.set_cons_succ, List.set_cons_zero]
          refine wpLast_take (i := 12) (v := ?_) (by kernel_rfl) rfl (by kernel_rfl) (by kernel_rfl) (by kernel_rfl) (fun _ _ _ h => h) (Or.inl ⟨by kernel_rfl, ?_⟩) HSW.out ?_
          rotate_left
          · intro w hS
            obtain ⟨e1, e2⟩ := hS
            go_simp
            try with_reducible rfl
          conv in (Act.put _ _ _) => simp only [List.getElem_toArray, List.getElem_cons_succ, List.getElem_cons_zero, Act.put, List.setIfInBounds_toArray, List.set_cons_succ, List.set_cons_zero]
          refine wpLast_take (i := 13) (v := ?_) (by kernel_rfl) rfl (by kernel_rfl) (by kernel_rfl) (by kernel_rfl) (fun _ _ _ h => h) (Or.inl ⟨by kernel_rfl, ?_⟩) HSW.out ?_
          rotate_left
          · intro w hS
            obtain ⟨e1, e2⟩ := hS
            go_simp
            try with_reducible rfl
          conv in (Act.put _ _ _) => simp only [List.getElem_toArray, List.getElem_cons_succ, List.getElem_cons_zero, Act.put, List.setIfInBounds_toArray, List.set_cons_succ, List.set_cons_zero]
          refine wpLast_take (i := 14) (v := ?_) (by kernel_rfl) rfl (by kernel_rfl) (by kernel_rfl) (by kernel_rfl) (fun _ _ _ h => h) (Or.inl ⟨by kernel_rfl, ?_⟩) HSW.out ?_
          rotate_left
          · intro w hS
            obtain ⟨e1, e2⟩ := hS
            go_simp
            try with_reducible rfl
          conv in (Act.put _ _ _) => simp only [List.getElem_toArray, List.getElem_cons_succ, List.getElem_cons_zero, Act.put, List.setIfInBounds_toArray, List.set_cons_succ, List.set_cons_zero]
          refine readyL 7 _ (by kernel_rfl) rfl (by kernel_rfl) (fun K hK => ?_)
          go_simp
          refine (g1.out wr.drew).mono ?_
          rintro e W7 ⟨rfl, b7⟩
          replace b7 : Below wr.heap.size wr W7 := (Below.refl _ wr).drew.trans (b7.mono (Nat.le_refl _))
          replace HSW : Hid (W7.cell? ⟨w.heap.size + 1, 5, none⟩ = some (.slice o ks.length cap) ∧ True) := ⟨(World.cell?_of_block (a := ⟨w.heap.size + 1, 5, none⟩) (b7.block _ lp)).trans HSW.out.1, trivial⟩
          refine hK _ _ HSW.out ?_
          clear hK K
          refine wpLast_take (i := 8) (v := ?_) (by kernel_rfl) rfl (by kernel_rfl) (by kernel_rfl) (by kernel_rfl) (fun _ _ _ h => h) (Or.inl ⟨by kernel_rfl, ?_⟩) HSW.out ?_
          rotate_left
          · intro w hS
            obtain ⟨e1, e2⟩ := hS
            go_simp
            try with_reducible rfl
          conv in (Act.put _ _ _) => simp only [List.getElem_toArray, List.getElem_cons_succ, List.getElem_cons_zero, Act.put, List.setIfInBounds_toArray, List.set_cons_succ, List.set_cons_zero]
          refine wpLast_take (i := 15) (v := ?_) (by kernel_rfl) rfl (by kernel_rfl) (by kernel_rfl) (by kernel_rfl) (fun _ _ _ h => h) (Or.inl ⟨by kernel_rfl, ?_⟩) HSW.out ?_
          rotate_left
          · intro w hS
            obtain ⟨e1, e2⟩ := hS
            go_simp
            try with_reducible rfl
          conv in (Act.put _ _ _) => simp only [List.getElem_toArray, List.getElem_cons_succ, List.getElem_cons_zero, Act.put, List.setIfInBounds_toArray, List.set_cons_succ, List.set_cons_zero]
          have hb8 := below_new W7 (.cells #[.int .u32 (p : Int), .string (s.extract (a + 4) (a + 36))] 28)
          have hs7 := b7.size
          have hbs := HJ.out.bel.size
          obtain ⟨v', W', hrun, a1, a2, a3⟩ := append_sl 26 28 Try.underlying26 infoRef rfl (by decide) (by decide) (W7.alloc (.cells #[.int .u32 (p : Int), .string (s.extract (a + 4) (a + 36))] 28)) (w.heap.size + 2) ks.length 1 (.slice o ks.length cap) (some ⟨W7.heap.size, 0, none⟩) 1
            (ks.flatMap fc) (fc ⟨p, s.extract (a + 4) (a + 36)⟩) (own_sameF HJ.out.own fun b h1 h2 => (hb8.block b (by omega)).trans (b7.block b h2)) (by simp; omega) (one_refF (r := ⟨p, s.extract (a + 4) (a + 36)⟩) (heap_alloc_new W7 _)) (fc_one1 _) (by have := HIN.out; omega)
          have hob : ∀ b, (Value.slice o ks.length cap).ownBlock = some b → w.heap.size + 2 ≤ b := fun b hb => own_baseF HJ.out.own hb
          have keepg : W'.heap[w.heap.size + 1]? = some (.cells #[.int .i64 2, .int .u32 (X : Int), .int .u32 (Y : Int), .int .i64 (Z : Int), .slice none 0 0, .slice o ks.length cap, .int .u32 0, .string ⟨#[]⟩] 30 (0, 0)) := (a2.block _ (by simp; omega) (by intro e; have := hob _ e.symm; omega)).trans ((hb8.block _ (by omega)).trans ((b7.block _ lp).trans HJ.out.pag))
          have keepw : W'.heap[w.heap.size]? = some (.cells #[.int .i64 0, .int .u32 0, .int .u32 0, .int .i64 0, .slice none 0 0, .slice none 0 0, .int .u32 0, .string ⟨#[]⟩] 30 (0, 0)) := (a2.block _ (by simp; omega) (by intro e; have := hob _ e.symm; omega)).trans ((hb8.block _ (by omega)).trans ((b7.block _ (by omega)).trans HJ.out.res))
          have hB' : Below w.heap.size w W' := ((HJ.out.bel.trans (b7.mono (by omega))).trans (hb8.mono (by omega))).grown a2 (by simp; omega) fun b eb => by have := hob b eb; omega
          obtain ⟨g', cap', rfl⟩ := ownsRow_succ a1
          have hgb := own_baseF a1 (b := g') rfl
          have z4 := frozen_of_row W' (w.heap.size + 1) 5 _ _ keepg
          have z5 : W'.cell? ⟨w.heap.size + 1, 5, none⟩ = some (.slice o ks.length cap) := by rw [cell_of_row _ _ _ _ _ _ keepg]; rfl
          have HFIN : Hid (IJ w X Y Z (ks ++ [⟨p, s.extract (a + 4) (a + 36)⟩]) (.slice (some ⟨g', 0, none⟩) (ks.length + 1) cap') (W'.setCell ⟨w.heap.size + 1, 5, none⟩ (.slice (some ⟨g', 0, none⟩) (ks.length + 1) cap'))) := by
            refine (?_ : IJ w X Y Z (ks ++ [⟨p, s.extract (a + 4) (a + 36)⟩]) (.slice (some ⟨g', 0, none⟩) (ks.length + 1) cap') (W'.setCell ⟨w.heap.size + 1, 5, none⟩ (.slice (some ⟨g', 0, none⟩) (ks.length + 1) cap')))
            have hoth : ∀ j, j ≠ w.heap.size + 1 → (W'.setCell ⟨w.heap.size + 1, 5, none⟩ (.slice (some ⟨g', 0, none⟩) (ks.length + 1) cap')).heap[j]? = W'.heap[j]? := fun j hj => Below.heap_setCell _ _ _ _ (fun e => hj e)
            refine ⟨(hoth _ (by omega)).trans keepw, ?_, ?_, ⟨hB'.os, hB'.tape, hB'.output, by rw [st_size]; exact hB'.size, fun j hj => (hoth j (by omega)).trans (hB'.block j hj)⟩⟩
            · have := heap_setCell_same W' (w.heap.size + 1) 5 _ _ (.slice (some ⟨g', 0, none⟩) (ks.length + 1) cap') keepg
              simpa [List.setIfInBounds_toArray] using this
            · have e1 : (ks ++ [(⟨p, s.extract (a + 4) (a + 36)⟩ : Rf)]).length = ks.length + 1 := by simp
              have e2 : (ks ++ [(⟨p, s.extract (a + 4) (a + 36)⟩ : Rf)]).flatMap fc = ks.flatMap fc ++ fc ⟨p, s.extract (a + 4) (a + 36)⟩ := by rw [List.flatMap_append]; simp
              rw [e1, e2]
              exact own_sameF a1 fun b h1 h2 => hoth b (by omega)
          refine readyL 16 _ (by kernel_rfl) rfl (by kernel_rfl) (fun K hK => ?_)
          go_simp
          refine hK _ _ (⟨(World.cell?_of_block (a := ⟨w.heap.size + 1, 5, none⟩) (hb8.block (w.heap.size + 1) (by omega))).trans HSW.out.1, trivial⟩ : (W7.alloc (.cells #[.int .u32 (p : Int), .string (s.extract (a + 4) (a + 36))] 28)).cell? ⟨w.heap.size + 1, 5, none⟩ = some (.slice o ks.length cap) ∧ True) ?_
          clear hK K
          refine readyL 17 _ (by kernel_rfl) rfl (by kernel_rfl) (fun K hK => ?_)
          refine op_append 26 26 (.tmp 41) (.tmp 56) rfl rfl rfl hrun ?_
          replace HSW : Hid (W'.cell? ⟨w.heap.size + 1, 5, none⟩ = some (.slice o ks.length cap) ∧ True) := ⟨z5, trivial⟩
          refine hK _ _ HSW.out ?_
          clear hK K hob keepg keepw a1 a2 a3 b7 hb8 hB' hrun
          conv in (Act.put _ _ _) => simp only [List.getElem_toArray, List.getElem_cons_succ, List.getElem_cons_zero, Act.put, List.setIfInBounds_toArray, List.set_cons_succ, List.set_cons_zero]
          refine wpLast_take (i := 18) (v := ?_) (by kernel_rfl) rfl (by kernel_rfl) (by kernel_rfl) (by kernel_rfl) (fun _ _ _ h => h) (Or.inl ⟨by kernel_rfl, ?_⟩) HSW.out ?_
          rotate_left
          · intro w hS
            obtain ⟨e1, e2⟩ := hS
            go_simp
            try with_reducible rfl
          conv in (Act.put _ _ _) => simp only [List.getElem_toArray, List.getElem_cons_succ, List.getElem_cons_zero, Act.put, List.setIfInBounds_toArray, List.set_cons_succ, List.set_cons_zero]
          refine wpLast_end rfl (by kernel_rfl) (by kernel_rfl) (by kernel_rfl) ?_
          go_simp
          clear z4 z5
          go_wp2_with fail
          go_roundw
          case rel =>
            refine ⟨ks.length + 1, .slice (some ⟨g', 0, none⟩) (ks.length + 1) cap', by have := HIN.out; omega, ?_, ?_⟩
            · have := HIN.out.2.1
              congr 1
              omega
            · rw [HKA.out, HKD.out]; exact HFIN.out
          case measure =>
            have := HIN.out
            simp [natOf]
            omega
        · obtain rfl : i = n := by omega
          rw [ha]
          have q5 : ¬ (a : Int) < (s.size : Int) := by omega
          have HRE : Hid _ := HJ.out.res
          have HF : Hid _ := sin_end vx vy HJ.out #[.int .i64 2, .int .u32 (X : Int), .int .u32 (Y : Int), .int .i64 (Z : Int), .slice none 0 0, .slice o ((List.range i).map fun j => kidA s (11 + 36 * j)).length cap, .int .u32 0, .string ⟨#[]⟩]
          have HE : Hid (Below w.heap.size w (wr.setRow w.heap.size #[.int .i64 2, .int .u32 (X : Int), .int .u32 (Y : Int), .int .i64 (Z : Int), .slice none 0 0, .slice o ((List.range i).map fun j => kidA s (11 + 36 * j)).length cap, .int .u32 0, .string ⟨#[]⟩])) := below_row HJ.out.bel (Nat.le_refl _) _
          rw [hlen] at HF HE
          clear hj hg
          go_wp2_with (refine wpList_store_row rfl 30 (.tmp 2) (.tmp 59) rfl w.heap.size #[.int .i64 2, .int .u32 (X : Int), .int .u32 (Y : Int), .int .i64 (Z : Int), .slice none 0 0, .slice o i cap, .int .u32 0, .string ⟨#[]⟩] (by rfl) (by rfl) 30 #[.int .i64 0, .int .u32 0, .int .u32 0, .int .i64 0, .slice none 0 0, .slice none 0 0, .int .u32 0, .string ⟨#[]⟩] HRE.out HI.out (by rfl) (by kernel_rfl) ?_)
          refine bodyPost_ret (results_page2 rfl _ _ w.heap.size _ _ _ _ _ _ _ _ rfl rfl (setRow_heap _ _ _ _ _ _ HRE.out)) rfl ?_
          exact ⟨_, _, true, rfl, HF.out, HRS.out, HE.out⟩
    · have HR : Hid (Res s false ⟨2, 0, 0, 0, [], [], 0, ⟨#[]⟩⟩) := res_no (inner_unlike h0 hb (by omega) heq)
      have HF : Hid _ := sin_end (Nat.zero_lt_succ _) (Nat.zero_lt_succ _) HJ0.out #[.int .i64 2, .int .u32 0, .int .u32 0, .int .i64 0, .slice none 0 0, .slice none 0 0, .int .u32 0, .string ⟨#[]⟩]
      have HE : Hid (Below w.heap.size w (W0.setRow w.heap.size #[.int .i64 2, .int .u32 0, .int .u32 0, .int .i64 0, .slice none 0 0, .slice none 0 0, .int .u32 0, .string ⟨#[]⟩])) := below_row HJ0.out.bel (Nat.le_refl _) _
      obtain ⟨n, hbn⟩ : ∃ n, bt s 1 = n := ⟨_, rfl⟩
      rw [hbn] at hidx hn heq
      have q2 : ((s.size : Int) == 11 + 36 * (n : Int)) = false := by simp; omega
      have n0 : (0 : Int) ≤ (n : Int) := by omega
      have n1 : (n : Int) < 256 := by omega
      clear hlt h0 hb hbn heq
      go_enter Try.func32, Try.ntmps32
      go_wp2_with (first | (rw [HW0.out]; clear HW0) | (refine wpList_store_row rfl 30 (.tmp 2) (.tmp 20) rfl w.heap.size #[.int .i64 2, .int .u32 0, .int .u32 0, .int .i64 0, .slice none 0 0, .slice none 0 0, .int .u32 0, .string ⟨#[]⟩] (by rfl) (by rfl) 30 #[.int .i64 0, .int .u32 0, .int .u32 0, .int .i64 0, .slice none 0 0, .slice none 0 0, .int .u32 0, .string ⟨#[]⟩] HG0.out HI.out (by rfl) (by kernel_rfl) ?_))
      refine bodyPost_ret (results_page2 rfl _ _ w.heap.size _ _ _ _ _ _ _ _ rfl rfl (setRow_heap _ _ _ _ _ _ HG0.out)) rfl ?_
      exact ⟨_, _, false, rfl, HF.out, HR.out, HE.out⟩
end Go.Proofs.Ytljponlfjombaaa.Rw
