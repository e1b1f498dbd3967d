/- What a query gives of what was found. -/
import Derived.Test.YtimdlohdmddnjaaQGC
namespace Go.Proofs.Ytimdlohdmddnjaa.Rf
open Go.RowKit Go.Lib
open Go.Proofs.Ytimdlohdmddnjaa.Rc Go.Proofs.Ytimdlohdmddnjaa.Rq
set_option maxRecDepth 100000 in
theorem flist_min {P : Program} {ops : Array Oper} {rest : List Oper} {o : Oper} {a : Act} {w : World} {Q : Exit → Act → World → Prop} (hgd : o.guard = none) (t u : TypeId) (x y : Operand) (ho : o.op = .call { callee := .builtin .min, args := #[x, y], argTypes := #[t, u] })
  {p q r : Int} (hx : a.eval x = .int .i64 p) (hy : a.eval y = .int .i64 q) (hr : (if q < p then q else p) = r) (h : wpList P ops Q rest (a.put o.dst (.int .i64 r)) w) : wpList P ops Q (o :: rest) a w :=
 wpList_plain hgd fun _ hK => by
  have hrun : (Builtin.min_ #[t, u] o.type #[.int .i64 p, .int .i64 q]).run P w = .ok (.int .i64 r) w := by subst hr; rfl
  unfold Oper.wp execOp
  simp only [ho, resolve, invoke, builtin, Sem.run_bind, Sem.run_pure, Result.andThen_ok, List.map_toArray, List.map_cons, List.map_nil, hx, hy, hrun]
  exact hK _ _ h
set_option maxRecDepth 100000 in
theorem run_headW (o : Option Addr) (n cap r : Nat) (w : World) (hr : r ≤ cap) (ho : o = none → cap = 0) : (Instr.sliceAt 32 (.slice o n cap) none (some (.int .i64 (r : Int))) none).run Try.prog w = .ok (.slice o r cap) w := by
 have h1 : (r : Int) ≤ (cap : Int) := by omega
 cases o with
 | none =>
  have := ho rfl
  subst this
  obtain rfl : r = 0 := by omega
  simp [Instr.sliceAt, Instr.slice, run_underlying Try.underlying32, go_sem]
 | some a =>
  simp [Instr.sliceAt, Instr.slice, run_underlying Try.underlying32, go_sem]
  intro h
  omega
def rest (q : Qr) (l : List Rw) : List Rw := if q.fr = true ∧ q.k ≠ 3 then l.drop (upTo l q.af) else l
def CS (g : Nat) (v : Value) (w : World) : Prop := w.cell? ⟨g, 0, none⟩ = some v ∧ True
theorem upTo_le (l : List Rw) (af : Nat) : upTo l af ≤ l.length := List.findIdx_le_length
set_option maxRecDepth 100000 in
set_option maxHeartbeats 4000000 in
theorem give_any (k : Int) (a b c d x y sq K af : Nat) (fr : Bool) (o : Option Addr) (cap : Nat) (l : List Rw) (w : World) (hr : RowsAt w o cap l) (hmax : l.length ≤ 1000) (hri : k ≠ 3 → Rise l) (hK : K ≤ 64) :
  Calls Try.prog 28 #[.slice o l.length cap, .agg #[.int .i64 k, .int .u32 (a : Int), .int .u32 (b : Int), .int .u32 (c : Int), .int .u32 (d : Int), .int .u32 (x : Int), .int .u32 (y : Int), .int .u64 (sq : Int), .int .i64 (K : Int), .int .u64 (af : Int), .bool fr]] w fun e w' => ∃ o', e = .returned (.tuple #[.slice o' ((rest ⟨k, a, b, c, d, x, y, sq, (K : Int), af, fr⟩ l).take K).length ((rest ⟨k, a, b, c, d, x, y, sq, (K : Int), af, fr⟩ l).take K).length, .bool (decide (K < (rest ⟨k, a, b, c, d, x, y, sq, (K : Int), af, fr⟩ l).length))]) ∧ (∀ W, RowsAt W o cap l → RowsAt W o' ((rest ⟨k, a, b, c, d, x, y, sq, (K : Int), af, fr⟩ l).take K).length ((rest ⟨k, a, b, c, d, x, y, sq, (K : Int), af, fr⟩ l).take K)) ∧ Below w.heap.size w w' := by
 have h1 := below_new w (.cells #[.slice o l.length cap] 32)
 have h2 := below_new (w.alloc (.cells #[.slice o l.length cap] 32)) (.cells #[.int .i64 k, .int .u32 (a : Int), .int .u32 (b : Int), .int .u32 (c : Int), .int .u32 (d : Int), .int .u32 (x : Int), .int .u32 (y : Int), .int .u64 (sq : Int), .int .i64 (K : Int), .int .u64 (af : Int), .bool fr] 27)
 have hb0 := h1.trans (h2.mono h1.size)
 have hg2 : ((w.alloc (.cells #[.slice o l.length cap] 32)).alloc (.cells #[.int .i64 k, .int .u32 (a : Int), .int .u32 (b : Int), .int .u32 (c : Int), .int .u32 (d : Int), .int .u32 (x : Int), .int .u32 (y : Int), .int .u64 (sq : Int), .int .i64 (K : Int), .int .u64 (af : Int), .bool fr] 27)).heap[w.heap.size]? = some (.cells #[.slice o l.length cap] 32 (0, 0)) := (h2.block _ (by simp)).trans (heap_alloc_new w _)
 have hg3 := heap_alloc_new (w.alloc (.cells #[.slice o l.length cap] 32)) (.cells #[.int .i64 k, .int .u32 (a : Int), .int .u32 (b : Int), .int .u32 (c : Int), .int .u32 (d : Int), .int .u32 (x : Int), .int .u32 (y : Int), .int .u64 (sq : Int), .int .i64 (K : Int), .int .u64 (af : Int), .bool fr] 27)
 rw [show (w.alloc (.cells #[.slice o l.length cap] 32)).heap.size = w.heap.size + 1 by simp] at hg3
 obtain ⟨W0, hW0⟩ : ∃ W0, (w.alloc (.cells #[.slice o l.length cap] 32)).alloc (.cells #[.int .i64 k, .int .u32 (a : Int), .int .u32 (b : Int), .int .u32 (c : Int), .int .u32 (d : Int), .int .u32 (x : Int), .int .u32 (y : Int), .int .u64 (sq : Int), .int .i64 (K : Int), .int .u64 (af : Int), .bool fr] 27) = W0 := ⟨_, rfl⟩
 rw [hW0] at hb0 hg2 hg3
 have HW0 : Hid _ := hW0
 have hr0 : RowsAt W0 o cap l := hr.below hb0 (Nat.le_refl _)
 have HR0 : Hid (RowsAt W0 o cap l) := hr0
 have HB0 : Hid (Below w.heap.size w W0) := hb0
 have lg2 : w.heap.size < W0.heap.size := (Array.getElem?_eq_some_iff.1 hg2).1
 have lg3 : w.heap.size + 1 < W0.heap.size := (Array.getElem?_eq_some_iff.1 hg3).1
 obtain ⟨c0, -, -, -, -, -, -, -, c8, c9, c10⟩ := qc_of (q := ⟨k, a, b, c, d, x, y, sq, (K : Int), af, fr⟩) hg3
 have d0 : W0.cell? ⟨w.heap.size, 0, none⟩ = some (.slice o l.length cap) := by rw [cell_of_row _ _ _ _ _ _ hg2]; rfl
 simp only at c0 c8 c9 c10
 clear h1 h2 hW0 hb0
 by_cases hf : fr = true ∧ k ≠ 3
 ·have hrest : rest ⟨k, a, b, c, d, x, y, sq, (K : Int), af, fr⟩ l = l.drop (upTo l af) := by unfold rest; rw [if_pos hf]
  rw [hrest]
  have HSE : Hid (∀ _ : True, _) := fun _ => search_any w.heap.size (w.heap.size + 1) o cap l af W0 hmax (hri hf.2) hr0 lg2 lg3 d0 c9
  have hfl := upTo_le l af
  generalize upTo l af = f at *
  obtain ⟨m, hm⟩ : ∃ m, (l.drop f).length = m := ⟨_, rfl⟩
  have hm2 : m = l.length - f := by rw [← hm, List.length_drop]
  obtain ⟨n, hn⟩ : ∃ n, ((l.drop f).take K).length = n := ⟨_, rfl⟩
  have hn2 : n = min K m := by rw [← hn, List.length_take, hm]
  rw [hn, hm]
  have hle := hr0.1
  have hmin : (if (m : Int) < (K : Int) then (m : Int) else (K : Int)) = (n : Int) := by split <;> omega
  have hrun1 := fun w => run_tailR o l.length cap f w hfl
  have hrd := rows_drop hr0 hfl
  have hrdw : ∀ W, RowsAt W o cap l → _ := fun W hW => rows_drop (w := W) hW hfl
  obtain ⟨o2, ho2⟩ : ∃ o2, (if cap = f then o else o.map (·.add (f * 4))) = o2 := ⟨_, rfl⟩
  rw [ho2] at hrd hrdw hrun1
  rw [← hm2] at hrun1
  obtain ⟨cap2, hc2⟩ : ∃ c2, cap - f = c2 := ⟨_, rfl⟩
  rw [hc2] at hrd hrdw hrun1
  have hle2 := hrd.1
  rw [hm] at hle2
  have hrun2 := fun w => run_headW o2 m cap2 n w (by omega) hrd.2.2.1
  have HCL : Hid _ := fun w => fclip_any o2 n cap2 (by omega) w
  have HRX : Hid (∀ W, RowsAt W o cap l → RowsAt W o2 n ((l.drop f).take K)) := fun W hW => by
   have := rows_take (hrdw W hW) K
   rw [hn] at this
   exact this
  have HRT : Hid (RowsAt W0 o2 n ((l.drop f).take K)) := by
   have := rows_take hrd K
   rw [hn] at this
   exact this
  have HM : Hid (decide (n < m) = decide (K < m)) := by
   refine (?_ : decide (n < m) = decide (K < m))
   congr 1
   exact propext (by omega)
  have f0 : (0 : Int) ≤ (f : Int) := by omega
  have f1 : (f : Int) ≤ (l.length : Int) := by omega
  have HG2 : Hid _ := hg2
  have HG3 : Hid _ := hg3
  have hkn : (k == 3) = false := by simpa using hf.2
  obtain rfl : fr = true := hf.1
  have HBX : Hid (∀ b off, o2 = some ⟨b, off, none⟩ → b < w.heap.size ∨ n = 0) := fun b off e => by
   by_cases h0 : n = 0
   ·exact .inr h0
   ·obtain ⟨b', off', e', hlt', -⟩ := hr.2.2.2.2 (by omega)
    have hck : ¬ cap = f := by omega
    rw [if_neg hck, e'] at ho2
    subst ho2
    have e1 : b' = b := by
     have := congrArg (Option.map Addr.block) e
     simp [Addr.add] at this
     split at this <;> exact this
    exact .inl (e1 ▸ hlt')
  clear hrest hm hn hm2 hn2 hle hle2 hr hr0 hri hrd hrdw ho2 hc2 hf hfl hg2 hg3
  go_enter Try.func28, Try.ntmps28
  go_wp2_with (first | (rw [HW0.out]; clear HW0))
  refine (HSE.out trivial).mono ?_
  rintro e w1 ⟨rfl, b1⟩
  have hgA := (b1.block _ lg2).trans HG2.out
  have hgB := (b1.block _ lg3).trans HG3.out
  have e0 : w1.cell? ⟨w.heap.size, 0, none⟩ = some (.slice o l.length cap) := by rw [cell_of_row _ _ _ _ _ _ hgA]; rfl
  have z0 := frozen_of_row w1 w.heap.size 0 _ _ hgA
  have lA : w.heap.size < w1.heap.size := (Array.getElem?_eq_some_iff.1 hgA).1
  have hoth : ∀ j, j ≠ w.heap.size → (w1.setCell ⟨w.heap.size, 0, none⟩ (.slice o2 m cap2)).heap[j]? = w1.heap[j]? := fun j hj => Below.heap_setCell _ _ _ _ (fun e => hj e)
  have hsame := heap_setCell_same w1 w.heap.size 0 _ _ (.slice o2 m cap2) hgA
  have hB1 := HB0.out.trans (b1.mono HB0.out.size)
  have HB2 : Hid (Below w.heap.size w (w1.setCell ⟨w.heap.size, 0, none⟩ (.slice o2 m cap2))) := ⟨hB1.os, hB1.tape, hB1.output, by rw [show (w1.setCell ⟨w.heap.size, 0, none⟩ (.slice o2 m cap2)).heap.size = w1.heap.size by simp [World.setCell]]; exact hB1.size, fun j hj => (hoth j (by omega)).trans (hB1.block j hj)⟩
  have HRW : Hid (RowsAt (w1.setCell ⟨w.heap.size, 0, none⟩ (.slice o2 m cap2)) o2 n ((l.drop f).take K)) := by
   have h9 := RowsAt.below HRT.out b1 (Nat.le_refl _)
   refine ⟨h9.1, h9.2.1, h9.2.2.1, h9.2.2.2.1, fun hn0 => ?_⟩
   obtain ⟨b', off', e', hlt', hc'⟩ := h9.2.2.2.2 hn0
   have : b' < w.heap.size := by
    rcases HBX.out b' off' e' with h | h
    ·exact h
    ·have hz := h9.1
     have : ((l.drop f).take K).length = 0 := by omega
     omega
   exact ⟨b', off', e', by simp [World.setCell]; exact hlt', fun j u hu => (World.cell?_of_block (a := ⟨b', off' + j, none⟩) (hoth b' (by omega))).trans (hc' j u hu)⟩
  have k8 : (w1.setCell ⟨w.heap.size, 0, none⟩ (.slice o2 m cap2)).cell? ⟨w.heap.size + 1, 8, none⟩ = some (.int .i64 (K : Int)) := by rw [cell_of_row _ _ _ _ _ _ ((hoth _ (by omega)).trans hgB)]; rfl
  have k0 : (w1.setCell ⟨w.heap.size, 0, none⟩ (.slice o2 m cap2)).cell? ⟨w.heap.size, 0, none⟩ = some (.slice o2 m cap2) := by rw [cell_of_row _ _ _ _ _ _ hsame]; rfl
  clear hoth hsame hgA hgB hB1 b1 c0 c8 c9 c10 d0
  obtain ⟨W2, hW2⟩ : ∃ W2, w1.setCell ⟨w.heap.size, 0, none⟩ (.slice o2 m cap2) = W2 := ⟨_, rfl⟩
  rw [hW2] at HB2 HRW k8 k0
  have HW2 : Hid _ := hW2
  clear hW2
  go_wp2_with (first | (rw [HW2.out]; clear HW2) | (refine flist_min rfl 3 3 (.tmp 23) (.tmp 25) rfl rfl rfl hmin ?_))
  refine wp_region_held (S := CS w.heap.size (.slice o2 m cap2)) (by kernel_rfl) ?_
  change wpAnyH _ _ _ _ _ _ _ _ (World.drew _)
  have HSW : Hid (CS w.heap.size (.slice o2 m cap2) W2.drew) := ⟨k0, trivial⟩
  clear k0 k8 e0 z0
  refine wpAnyH_take (i := 0) (v := ?_) rfl (by kernel_rfl) (by kernel_rfl) (by kernel_rfl) (fun _ _ _ h => h) (Or.inl ⟨by kernel_rfl, ?_⟩) HSW.out ?_
  rotate_left
  ·rintro w ⟨e0,e1⟩; go_simp; try with_reducible rfl
  conv in (Act.put _ _ _) => simp only [List.getElem_toArray, List.getElem_cons_succ, List.getElem_cons_zero, Act.put, List.setIfInBounds_toArray, List.set_cons_succ, List.set_cons_zero]
  refine wpAnyH_take (i := 1) (v := ?_) rfl (by kernel_rfl) (by kernel_rfl) (by kernel_rfl) (fun _ _ _ h => h) (Or.inl ⟨by kernel_rfl, ?_⟩) HSW.out ?_
  rotate_left
  ·rintro w ⟨e0,e1⟩; go_simp; try with_reducible rfl
  conv in (Act.put _ _ _) => simp only [List.getElem_toArray, List.getElem_cons_succ, List.getElem_cons_zero, Act.put, List.setIfInBounds_toArray, List.set_cons_succ, List.set_cons_zero]
  refine wpAnyH_take (i := 2) (v := ?_) rfl (by kernel_rfl) (by kernel_rfl) (by kernel_rfl) (fun _ _ _ h => h) (Or.inl ⟨by kernel_rfl, ?_⟩) HSW.out ?_
  rotate_left
  ·rintro w ⟨e0,e1⟩; go_simp; try with_reducible rfl
  conv in (Act.put _ _ _) => simp only [List.getElem_toArray, List.getElem_cons_succ, List.getElem_cons_zero, Act.put, List.setIfInBounds_toArray, List.set_cons_succ, List.set_cons_zero]
  refine wpAnyH_take (i := 4) (v := ?_) rfl (by kernel_rfl) (by kernel_rfl) (by kernel_rfl) (fun _ _ _ h => h) (Or.inl ⟨by kernel_rfl, ?_⟩) HSW.out ?_
  rotate_left
  ·rintro w ⟨e0,e1⟩; go_simp; try with_reducible rfl
  conv in (Act.put _ _ _) => simp only [List.getElem_toArray, List.getElem_cons_succ, List.getElem_cons_zero, Act.put, List.setIfInBounds_toArray, List.set_cons_succ, List.set_cons_zero]
  refine wpAnyH_take (i := 5) (v := ?_) rfl (by kernel_rfl) (by kernel_rfl) (by kernel_rfl) (fun _ _ _ h => h) (Or.inl ⟨by kernel_rfl, ?_⟩) HSW.out ?_
  rotate_left
  ·rintro w ⟨e0,e1⟩; go_simp; try with_reducible rfl
  conv in (Act.put _ _ _) => simp only [List.getElem_toArray, List.getElem_cons_succ, List.getElem_cons_zero, Act.put, List.setIfInBounds_toArray, List.set_cons_succ, List.set_cons_zero]
  refine wpAnyH_take (i := 6) (v := ?_) rfl (by kernel_rfl) (by kernel_rfl) (by kernel_rfl) (fun _ _ _ h => h) (Or.inl ⟨by kernel_rfl, ?_⟩) HSW.out ?_
  rotate_left
  ·rintro w ⟨e0,e1⟩; go_simp; try with_reducible rfl
  conv in (Act.put _ _ _) => simp only [List.getElem_toArray, List.getElem_cons_succ, List.getElem_cons_zero, Act.put, List.setIfInBounds_toArray, List.set_cons_succ, List.set_cons_zero]
  refine wpAnyH_take (i := 7) (v := ?_) rfl (by kernel_rfl) (by kernel_rfl) (by kernel_rfl) (fun _ _ _ h => h) (Or.inl ⟨by kernel_rfl, ?_⟩) HSW.out ?_
  rotate_left
  ·rintro w ⟨e0,e1⟩; go_simp; try with_reducible rfl
  conv in (Act.put _ _ _) => simp only [List.getElem_toArray, List.getElem_cons_succ, List.getElem_cons_zero, Act.put, List.setIfInBounds_toArray, List.set_cons_succ, List.set_cons_zero]
  refine readyH 3 _ (by kernel_rfl) rfl (by kernel_rfl) (fun K hK => ?_)
  go_simp
  refine (HCL.out W2.drew).mono ?_
  rintro e w9 ⟨rfl, hw9⟩
  have hw9' := hw9.symm
  clear hw9
  subst hw9'
  refine hK _ _ HSW.out ?_
  clear hK K
  refine wpAnyH_take (i := 8) (v := ?_) rfl (by kernel_rfl) (by kernel_rfl) (by kernel_rfl) (fun _ _ _ h => h) (Or.inl ⟨by kernel_rfl, ?_⟩) HSW.out ?_
  rotate_left
  ·rintro w ⟨e0,e1⟩; go_simp; try with_reducible rfl
  conv in (Act.put _ _ _) => simp only [List.getElem_toArray, List.getElem_cons_succ, List.getElem_cons_zero, Act.put, List.setIfInBounds_toArray, List.set_cons_succ, List.set_cons_zero]
  refine wpAnyH_take (i := 9) (v := ?_) rfl (by kernel_rfl) (by kernel_rfl) (by kernel_rfl) (fun _ _ _ h => h) (Or.inl ⟨by kernel_rfl, ?_⟩) HSW.out ?_
  rotate_left
  ·rintro w ⟨e0,e1⟩; go_simp; try with_reducible rfl
  conv in (Act.put _ _ _) => simp only [List.getElem_toArray, List.getElem_cons_succ, List.getElem_cons_zero, Act.put, List.setIfInBounds_toArray, List.set_cons_succ, List.set_cons_zero]
  refine wpAnyH_done (by kernel_rfl) ?_ _
  have HE : Hid (RowsAt W2.drew o2 n ((l.drop f).take K) ∧ Below w.heap.size w W2.drew) := ⟨RowsAt.below HRW.out (Below.refl _ _).drew (Nat.le_refl _), HB2.out.drew⟩
  go_wp2_with fail
  go_ret2
  refine ⟨o2, ?_, HRX.out, HE.out.2⟩
  rw [← HM.out]
  rfl
 ·have hrest : rest ⟨k, a, b, c, d, x, y, sq, (K : Int), af, fr⟩ l = l := by unfold rest; rw [if_neg hf]
  rw [hrest]
  obtain ⟨n, hn⟩ : ∃ n, (l.take K).length = n := ⟨_, rfl⟩
  have hn2 : n = min K l.length := by rw [← hn, List.length_take]
  rw [hn]
  have hle := hr0.1
  have hmin : (if (l.length : Int) < (K : Int) then (l.length : Int) else (K : Int)) = (n : Int) := by split <;> omega
  have hrun := fun w => run_headW o l.length cap n w (by omega) hr0.2.2.1
  have HCL : Hid _ := fun w => fclip_any o n cap (by omega) w
  have HRX : Hid (∀ W, RowsAt W o cap l → RowsAt W o n (l.take K)) := fun W hW => by
   have := rows_take hW K
   rw [hn] at this
   exact this
  have HRT : Hid (RowsAt W0 o n (l.take K)) := by
   have := rows_take hr0 K
   rw [hn] at this
   exact this
  have HM : Hid (decide (n < l.length) = decide (K < l.length)) := by
   refine (?_ : decide (n < l.length) = decide (K < l.length))
   congr 1
   exact propext (by omega)
  have HSW : Hid (CS w.heap.size (.slice o l.length cap) W0.drew) := ⟨d0, trivial⟩
  clear hrest hn hn2 hle hr hr0 hri
  cases fr
  ·go_enter Try.func28, Try.ntmps28
   go_wp2_with (first | (rw [HW0.out]; clear HW0) | (refine flist_min rfl 3 3 (.tmp 23) (.tmp 25) rfl rfl rfl hmin ?_))
   refine wp_region_held (S := CS w.heap.size (.slice o l.length cap)) (by kernel_rfl) ?_
   change wpAnyH _ _ _ _ _ _ _ _ (World.drew _)
   clear d0 c0 c8 c9 c10
   refine wpAnyH_take (i := 0) (v := ?_) rfl (by kernel_rfl) (by kernel_rfl) (by kernel_rfl) (fun _ _ _ h => h) (Or.inl ⟨by kernel_rfl, ?_⟩) HSW.out ?_
   rotate_left
   ·rintro w ⟨e0,e1⟩; go_simp; try with_reducible rfl
   conv in (Act.put _ _ _) => simp only [List.getElem_toArray, List.getElem_cons_succ, List.getElem_cons_zero, Act.put, List.setIfInBounds_toArray, List.set_cons_succ, List.set_cons_zero]
   refine wpAnyH_take (i := 1) (v := ?_) rfl (by kernel_rfl) (by kernel_rfl) (by kernel_rfl) (fun _ _ _ h => h) (Or.inl ⟨by kernel_rfl, ?_⟩) HSW.out ?_
   rotate_left
   ·rintro w ⟨e0,e1⟩; go_simp; try with_reducible rfl
   conv in (Act.put _ _ _) => simp only [List.getElem_toArray, List.getElem_cons_succ, List.getElem_cons_zero, Act.put, List.setIfInBounds_toArray, List.set_cons_succ, List.set_cons_zero]
   refine wpAnyH_take (i := 2) (v := ?_) rfl (by kernel_rfl) (by kernel_rfl) (by kernel_rfl) (fun _ _ _ h => h) (Or.inl ⟨by kernel_rfl, ?_⟩) HSW.out ?_
   rotate_left
   ·rintro w ⟨e0,e1⟩; go_simp; try with_reducible rfl
   conv in (Act.put _ _ _) => simp only [List.getElem_toArray, List.getElem_cons_succ, List.getElem_cons_zero, Act.put, List.setIfInBounds_toArray, List.set_cons_succ, List.set_cons_zero]
   refine wpAnyH_take (i := 4) (v := ?_) rfl (by kernel_rfl) (by kernel_rfl) (by kernel_rfl) (fun _ _ _ h => h) (Or.inl ⟨by kernel_rfl, ?_⟩) HSW.out ?_
   rotate_left
   ·rintro w ⟨e0,e1⟩; go_simp; try with_reducible rfl
   conv in (Act.put _ _ _) => simp only [List.getElem_toArray, List.getElem_cons_succ, List.getElem_cons_zero, Act.put, List.setIfInBounds_toArray, List.set_cons_succ, List.set_cons_zero]
   refine wpAnyH_take (i := 5) (v := ?_) rfl (by kernel_rfl) (by kernel_rfl) (by kernel_rfl) (fun _ _ _ h => h) (Or.inl ⟨by kernel_rfl, ?_⟩) HSW.out ?_
   rotate_left
   ·rintro w ⟨e0,e1⟩; go_simp; try with_reducible rfl
   conv in (Act.put _ _ _) => simp only [List.getElem_toArray, List.getElem_cons_succ, List.getElem_cons_zero, Act.put, List.setIfInBounds_toArray, List.set_cons_succ, List.set_cons_zero]
   refine wpAnyH_take (i := 6) (v := ?_) rfl (by kernel_rfl) (by kernel_rfl) (by kernel_rfl) (fun _ _ _ h => h) (Or.inl ⟨by kernel_rfl, ?_⟩) HSW.out ?_
   rotate_left
   ·rintro w ⟨e0,e1⟩; go_simp; try with_reducible rfl
   conv in (Act.put _ _ _) => simp only [List.getElem_toArray, List.getElem_cons_succ, List.getElem_cons_zero, Act.put, List.setIfInBounds_toArray, List.set_cons_succ, List.set_cons_zero]
   refine wpAnyH_take (i := 7) (v := ?_) rfl (by kernel_rfl) (by kernel_rfl) (by kernel_rfl) (fun _ _ _ h => h) (Or.inl ⟨by kernel_rfl, ?_⟩) HSW.out ?_
   rotate_left
   ·rintro w ⟨e0,e1⟩; go_simp; try with_reducible rfl
   conv in (Act.put _ _ _) => simp only [List.getElem_toArray, List.getElem_cons_succ, List.getElem_cons_zero, Act.put, List.setIfInBounds_toArray, List.set_cons_succ, List.set_cons_zero]
   refine readyH 3 _ (by kernel_rfl) rfl (by kernel_rfl) (fun K hK => ?_)
   go_simp
   refine (HCL.out W0.drew).mono ?_
   rintro e w9 ⟨rfl, hw9⟩
   have hw9' := hw9.symm
   clear hw9
   subst hw9'
   refine hK _ _ HSW.out ?_
   clear hK K
   refine wpAnyH_take (i := 8) (v := ?_) rfl (by kernel_rfl) (by kernel_rfl) (by kernel_rfl) (fun _ _ _ h => h) (Or.inl ⟨by kernel_rfl, ?_⟩) HSW.out ?_
   rotate_left
   ·rintro w ⟨e0,e1⟩; go_simp; try with_reducible rfl
   conv in (Act.put _ _ _) => simp only [List.getElem_toArray, List.getElem_cons_succ, List.getElem_cons_zero, Act.put, List.setIfInBounds_toArray, List.set_cons_succ, List.set_cons_zero]
   refine wpAnyH_take (i := 9) (v := ?_) rfl (by kernel_rfl) (by kernel_rfl) (by kernel_rfl) (fun _ _ _ h => h) (Or.inl ⟨by kernel_rfl, ?_⟩) HSW.out ?_
   rotate_left
   ·rintro w ⟨e0,e1⟩; go_simp; try with_reducible rfl
   conv in (Act.put _ _ _) => simp only [List.getElem_toArray, List.getElem_cons_succ, List.getElem_cons_zero, Act.put, List.setIfInBounds_toArray, List.set_cons_succ, List.set_cons_zero]
   refine wpAnyH_done (by kernel_rfl) ?_ _
   have HE : Hid (RowsAt W0.drew o n (l.take K) ∧ Below w.heap.size w W0.drew) := ⟨RowsAt.below HRT.out (Below.refl _ _).drew (Nat.le_refl _), HB0.out.drew⟩
   go_wp2_with fail
   go_ret2
   refine ⟨o, ?_, HRX.out, HE.out.2⟩
   rw [← HM.out]
   rfl
  ·obtain rfl : k = 3 := by
    by_cases h : k = 3
    ·exact h
    ·exact absurd ⟨rfl, h⟩ hf
   go_enter Try.func28, Try.ntmps28
   go_wp2_with (first | (rw [HW0.out]; clear HW0) | (refine flist_min rfl 3 3 (.tmp 23) (.tmp 25) rfl rfl rfl hmin ?_))
   refine wp_region_held (S := CS w.heap.size (.slice o l.length cap)) (by kernel_rfl) ?_
   change wpAnyH _ _ _ _ _ _ _ _ (World.drew _)
   clear d0 c0 c8 c9 c10
   refine wpAnyH_take (i := 0) (v := ?_) rfl (by kernel_rfl) (by kernel_rfl) (by kernel_rfl) (fun _ _ _ h => h) (Or.inl ⟨by kernel_rfl, ?_⟩) HSW.out ?_
   rotate_left
   ·rintro w ⟨e0,e1⟩; go_simp; try with_reducible rfl
   conv in (Act.put _ _ _) => simp only [List.getElem_toArray, List.getElem_cons_succ, List.getElem_cons_zero, Act.put, List.setIfInBounds_toArray, List.set_cons_succ, List.set_cons_zero]
   refine wpAnyH_take (i := 1) (v := ?_) rfl (by kernel_rfl) (by kernel_rfl) (by kernel_rfl) (fun _ _ _ h => h) (Or.inl ⟨by kernel_rfl, ?_⟩) HSW.out ?_
   rotate_left
   ·rintro w ⟨e0,e1⟩; go_simp; try with_reducible rfl
   conv in (Act.put _ _ _) => simp only [List.getElem_toArray, List.getElem_cons_succ, List.getElem_cons_zero, Act.put, List.setIfInBounds_toArray, List.set_cons_succ, List.set_cons_zero]
   refine wpAnyH_take (i := 2) (v := ?_) rfl (by kernel_rfl) (by kernel_rfl) (by kernel_rfl) (fun _ _ _ h => h) (Or.inl ⟨by kernel_rfl, ?_⟩) HSW.out ?_
   rotate_left
   ·rintro w ⟨e0,e1⟩; go_simp; try with_reducible rfl
   conv in (Act.put _ _ _) => simp only [List.getElem_toArray, List.getElem_cons_succ, List.getElem_cons_zero, Act.put, List.setIfInBounds_toArray, List.set_cons_succ, List.set_cons_zero]
   refine wpAnyH_take (i := 4) (v := ?_) rfl (by kernel_rfl) (by kernel_rfl) (by kernel_rfl) (fun _ _ _ h => h) (Or.inl ⟨by kernel_rfl, ?_⟩) HSW.out ?_
   rotate_left
   ·rintro w ⟨e0,e1⟩; go_simp; try with_reducible rfl
   conv in (Act.put _ _ _) => simp only [List.getElem_toArray, List.getElem_cons_succ, List.getElem_cons_zero, Act.put, List.setIfInBounds_toArray, List.set_cons_succ, List.set_cons_zero]
   refine wpAnyH_take (i := 5) (v := ?_) rfl (by kernel_rfl) (by kernel_rfl) (by kernel_rfl) (fun _ _ _ h => h) (Or.inl ⟨by kernel_rfl, ?_⟩) HSW.out ?_
   rotate_left
   ·rintro w ⟨e0,e1⟩; go_simp; try with_reducible rfl
   conv in (Act.put _ _ _) => simp only [List.getElem_toArray, List.getElem_cons_succ, List.getElem_cons_zero, Act.put, List.setIfInBounds_toArray, List.set_cons_succ, List.set_cons_zero]
   refine wpAnyH_take (i := 6) (v := ?_) rfl (by kernel_rfl) (by kernel_rfl) (by kernel_rfl) (fun _ _ _ h => h) (Or.inl ⟨by kernel_rfl, ?_⟩) HSW.out ?_
   rotate_left
   ·rintro w ⟨e0,e1⟩; go_simp; try with_reducible rfl
   conv in (Act.put _ _ _) => simp only [List.getElem_toArray, List.getElem_cons_succ, List.getElem_cons_zero, Act.put, List.setIfInBounds_toArray, List.set_cons_succ, List.set_cons_zero]
   refine wpAnyH_take (i := 7) (v := ?_) rfl (by kernel_rfl) (by kernel_rfl) (by kernel_rfl) (fun _ _ _ h => h) (Or.inl ⟨by kernel_rfl, ?_⟩) HSW.out ?_
   rotate_left
   ·rintro w ⟨e0,e1⟩; go_simp; try with_reducible rfl
   conv in (Act.put _ _ _) => simp only [List.getElem_toArray, List.getElem_cons_succ, List.getElem_cons_zero, Act.put, List.setIfInBounds_toArray, List.set_cons_succ, List.set_cons_zero]
   refine readyH 3 _ (by kernel_rfl) rfl (by kernel_rfl) (fun K hK => ?_)
   go_simp
   refine (HCL.out W0.drew).mono ?_
   rintro e w9 ⟨rfl, hw9⟩
   have hw9' := hw9.symm
   clear hw9
   subst hw9'
   refine hK _ _ HSW.out ?_
   clear hK K
   refine wpAnyH_take (i := 8) (v := ?_) rfl (by kernel_rfl) (by kernel_rfl) (by kernel_rfl) (fun _ _ _ h => h) (Or.inl ⟨by kernel_rfl, ?_⟩) HSW.out ?_
   rotate_left
   ·rintro w ⟨e0,e1⟩; go_simp; try with_reducible rfl
   conv in (Act.put _ _ _) => simp only [List.getElem_toArray, List.getElem_cons_succ, List.getElem_cons_zero, Act.put, List.setIfInBounds_toArray, List.set_cons_succ, List.set_cons_zero]
   refine wpAnyH_take (i := 9) (v := ?_) rfl (by kernel_rfl) (by kernel_rfl) (by kernel_rfl) (fun _ _ _ h => h) (Or.inl ⟨by kernel_rfl, ?_⟩) HSW.out ?_
   rotate_left
   ·rintro w ⟨e0,e1⟩; go_simp; try with_reducible rfl
   conv in (Act.put _ _ _) => simp only [List.getElem_toArray, List.getElem_cons_succ, List.getElem_cons_zero, Act.put, List.setIfInBounds_toArray, List.set_cons_succ, List.set_cons_zero]
   refine wpAnyH_done (by kernel_rfl) ?_ _
   have HE : Hid (RowsAt W0.drew o n (l.take K) ∧ Below w.heap.size w W0.drew) := ⟨RowsAt.below HRT.out (Below.refl _ _).drew (Nat.le_refl _), HB0.out.drew⟩
   go_wp2_with fail
   go_ret2
   refine ⟨o, ?_, HRX.out, HE.out.2⟩
   rw [← HM.out]
   rfl
end Go.Proofs.Ytimdlohdmddnjaa.Rf
/- The least cell of rows. -/
namespace Go.Proofs.Ytimdlohdmddnjaa.Rq
open Go.RowKit Go.Lib Go.Shelf
open Go.Proofs.Ytimdlohdmddnjaa.Rc
def LS (b off g : Nat) (x y : Nat) (r : Rw) (w : World) : Prop := w.cell? ⟨b, off + 1, none⟩ = some (.int .u32 (x : Int)) ∧ w.cell? ⟨b, off + 2, none⟩ = some (.int .u32 (y : Int)) ∧ F4 g r w
set_option maxRecDepth 100000 in
theorem LS.same {b off g x y : Nat} {r : Rw} {w w' : World} (h : LS b off g x y r w) (e : w'.heap[b]? = w.heap[b]?) (f : w'.heap[g]? = w.heap[g]?) : LS b off g x y r w' :=
 ⟨(World.cell?_of_block (a := ⟨b, off + 1, none⟩) e).trans h.1, (World.cell?_of_block (a := ⟨b, off + 2, none⟩) e).trans h.2.1, h.2.2.same f⟩
set_option maxRecDepth 100000 in
theorem readyH2 {P : Program} {md : Region.Mode} {ops : Array Oper} {Q : Exit → Act → World → Prop} {S : World → Prop} {fuel : Nat} {listed : Array Bool} {a : Act} {w : World} (k k2 : Nat) (o o2 : Oper) (hr : Region.ready md ops listed = [k, k2]) (ho : ops[k]? = some o) (ho2 : ops[k2]? = some o2)
  (hw : Region.wanted o (yielded ops a.tmps) = true) (hw2 : Region.wanted o2 (yielded ops a.tmps) = true)
  (h : ∀ K : Act → World → Prop, (∀ a w, S w → wpAnyH P md ops Q S fuel (listed.setIfInBounds k true) a w → K a w) → Oper.wp P o a w K Q)
  (h2 : ∀ K : Act → World → Prop, (∀ a w, S w → wpAnyH P md ops Q S fuel (listed.setIfInBounds k2 true) a w → K a w) → Oper.wp P o2 a w K Q) : wpAnyH P md ops Q S (fuel + 1) listed a w := by
 refine wpAnyH_all hr (by simp) fun j hj => ?_
 have : j = k ∨ j = k2 := by simpa using hj
 rcases this with rfl | rfl
 ·unfold wpOp
  simp only [ho, hw, if_true]
  exact .inl (h _ fun a w h1 h2 => ⟨h1, h2⟩)
 ·unfold wpOp
  simp only [ho2, hw2, if_true]
  exact .inl (h2 _ fun a w h1 h2 => ⟨h1, h2⟩)
structure LJ (l : List Rw) (w : World) (k : Nat) (X Y L : Nat) (W : World) : Prop where
 res : W.heap[w.heap.size]? = some (.cells #[.int .u32 0, .int .u32 0, .int .i64 0] 42 (0, 0))
 out : W.heap[w.heap.size + 1]? = some (.cells #[.int .u32 (X : Int), .int .u32 (Y : Int), .int .i64 (L : Int)] 42 (0, 0))
 bel : Below w.heap.size w W
 is : 0 < k → L = levs (x0 l) (y0 l) (l.take k) ∧ X = flr (x0 l) L ∧ Y = flr (y0 l) L
set_option maxRecDepth 100000 in
theorem LJ.size {l : List Rw} {w W : World} {k X Y L : Nat} (h : LJ l w k X Y L W) : w.heap.size + 2 ≤ W.heap.size := (Array.getElem?_eq_some_iff.1 h.out).1
set_option maxRecDepth 100000 in
theorem LJ.next {l : List Rw} {w W W' : World} {k X Y L B : Nat} (h : LJ l w k X Y L W) (hb : Below B W W') (hB : w.heap.size + 2 ≤ B) : LJ l w k X Y L W' :=
 ⟨(hb.block _ (by omega)).trans h.res, (hb.block _ (by omega)).trans h.out, h.bel.trans (hb.mono (by omega)), h.is⟩
theorem take_rat (l : List Rw) (k : Nat) (h : k < l.length) : l.take (k + 1) = l.take k ++ [rat l k] := by
 rw [List.take_add_one, rat_some h]; rfl
theorem levs_one (x y : Nat) (r : Rw) : levs x y [r] = lvl x y r.x r.y := by simp [levs]
set_option maxRecDepth 100000 in
theorem LJ.keep {l : List Rw} {w W : World} {k X Y L : Nat} (h : LJ l w k X Y L W) (hk : k < l.length) (h0 : 0 < k) (hl : lvl (x0 l) (y0 l) (rat l k).x (rat l k).y ≤ L) : LJ l w (k + 1) X Y L W :=
 ⟨h.res, h.out, h.bel, fun _ => by
  obtain ⟨a, b, c⟩ := h.is h0
  refine ⟨?_, b, c⟩
  rw [take_rat l k hk, levs_append, ← a, levs_one]
  omega⟩
set_option maxRecDepth 100000 in
theorem LJ.put {l : List Rw} {w W : World} {k X Y L : Nat} (h : LJ l w k X Y L W) (hk : k < l.length) (v : Nat) (hv : v = lvl (x0 l) (y0 l) (rat l k).x (rat l k).y) (hm : 0 < k → L < v) :
  LJ l w (k + 1) (flr (x0 l) v) (flr (y0 l) v) v (((W.setCell ⟨w.heap.size + 1, 0, none⟩ (.int .u32 ((flr (x0 l) v : Nat) : Int))).setCell ⟨w.heap.size + 1, 1, none⟩ (.int .u32 ((flr (y0 l) v : Nat) : Int))).setCell ⟨w.heap.size + 1, 2, none⟩ (.int .i64 (v : Int))) := by
 have hs := h.size
 obtain ⟨h2, b2⟩ := put_cell h.out (.int .u32 ((flr (x0 l) v : Nat) : Int)) (.int .u32 ((flr (y0 l) v : Nat) : Int)) (.int .i64 (v : Int))
 refine ⟨(b2.block _ (by omega)).trans h.res, h2, h.bel.trans (b2.mono (by omega)), fun _ => ⟨?_, rfl, rfl⟩⟩
 rw [take_rat l k hk, levs_append, levs_one, ← hv]
 by_cases h0 : 0 < k
 ·have := (h.is h0).1
  have := hm h0
  omega
 ·obtain rfl : k = 0 := by omega
  simp [levs]
set_option maxRecDepth 100000 in
theorem results_c1 {fn : Func} {p : Tmp} (h : fn.results = #[.cell p 42]) (tmps : Array Value) (w : World) (g : Nat) (X Y : Nat) (L : Int) {t : TypeId} {fr : Nat × Nat}
  (hp : tmps.getD p undef = .pointer (some ⟨g, 0, none⟩)) (hg : w.heap[g]? = some (.cells #[.int .u32 (X : Int), .int .u32 (Y : Int), .int .i64 L] t fr)) : (results fn tmps).run Try.prog w = .ok (cv X Y L) w := by
 have hp' : tmps[p]?.getD undef = .pointer (some ⟨g, 0, none⟩) := by simpa using hp
 have c0 : w.cell? ⟨g, 0, none⟩ = some (.int .u32 (X : Int)) := by rw [cell_of_row _ _ _ _ _ _ hg]; rfl
 have c1 : w.cell? ⟨g, 1, none⟩ = some (.int .u32 (Y : Int)) := by rw [cell_of_row _ _ _ _ _ _ hg]; rfl
 have c2 : w.cell? ⟨g, 2, none⟩ = some (.int .i64 L) := by rw [cell_of_row _ _ _ _ _ _ hg]; rfl
 simp [results, h, hp', asAddr, go_sem, c0, c1, c2]
set_option maxRecDepth 100000 in
set_option maxHeartbeats 4000000 in
theorem qleast_any (l : List Rw) (o : Option Addr) (cap : Nat) (w : World) (hr : RowsAt w o cap l) (hne : 0 < l.length) (hon : On l) (hmax : l.length ≤ 1000) :
  Calls Try.prog 62 #[.slice o l.length cap] w fun e w' => e = .returned (cv (cx l) (cy l) (lev l)) ∧ Below w.heap.size w w' := by
 have HT := two_new w (.cells #[.int .u32 0, .int .u32 0, .int .i64 0] 42) (.cells #[.int .u32 0, .int .u32 0, .int .i64 0] 42)
 have H0 : Hid (LJ l w 0 0 0 0 ((w.alloc (.cells #[.int .u32 0, .int .u32 0, .int .i64 0] 42)).alloc (.cells #[.int .u32 0, .int .u32 0, .int .i64 0] 42))) := ⟨HT.1, HT.2.1, HT.2.2, fun h => absurd h (by omega)⟩
 clear HT
 go_enter Try.func62, Try.ntmps62
 go_wp2_with fail
 go_loopw [10] (fun i wr => ∃ k : Nat, k ≤ l.length ∧ i = .int .i64 (k : Int) ∧ ∃ X Y L, LJ l w k X Y L wr) (fun i _ => l.length - natOf i)
 case atStart => exact ⟨0, by omega, rfl, 0, 0, 0, H0.out⟩
 case round =>
  obtain ⟨k, hk, rfl, X, Y, L, hj⟩ := hrel
  have HJ : Hid (LJ l w k X Y L wr) := hj
  have hsz := hj.size
  by_cases hlt : k < l.length
  ·obtain ⟨b, off, rfl, hbl, hc⟩ := (hr.below hj.bel (Nat.le_refl _)).row hlt
   have hbw : b < w.heap.size := by
    obtain ⟨b', off', e, h, _⟩ := hr.row hlt
    cases e; exact h
   obtain ⟨c0, c1, c2, c3⟩ := hc k hlt
   obtain ⟨_, d1, d2, _⟩ := hc 0 hne
   rw [Nat.zero_mul, Nat.add_zero, ← x0_rat, ← y0_rat] at *
   have q1 : (k : Int) < (l.length : Int) := by omega
   have q2 : (0 : Int) < (l.length : Int) := by omega
   have k0 : (0 : Int) ≤ (k : Int) := by omega
   have k1 : (k : Int) + 1 ≤ 9223372036854775807 := by omega
   have onr := hon _ (rat_mem hlt)
   have on0' := on0 hon
   have HC : Hid _ := least_any (x0 l) (y0 l) (rat l k).x (rat l k).y
   rw [show leas (x0 l) (y0 l) (rat l k).x (rat l k).y = (flr (x0 l) (lvl (x0 l) (y0 l) (rat l k).x (rat l k).y), flr (y0 l) (lvl (x0 l) (y0 l) (rat l k).x (rat l k).y), (lvl (x0 l) (y0 l) (rat l k).x (rat l k).y : Int), 0) by unfold leas; rw [if_pos ⟨onS_true on0'.1 on0'.2, onS_true onr.1 onr.2⟩]] at HC
   simp only [qv] at HC
   have HP : Hid _ := fun (W : World) (h : LJ l w k X Y L W) => h.put hlt _ rfl
   have HKp : Hid _ := fun (W : World) (h : LJ l w k X Y L W) => h.keep hlt
   generalize lvl (x0 l) (y0 l) (rat l k).x (rat l k).y = lv at *
   generalize flr (x0 l) lv = fx at *
   generalize flr (y0 l) lv = fy at *
   generalize x0 l = xx at *
   generalize y0 l = yy at *
   generalize hr0 : rat l k = r at *
   obtain ⟨id, x, y, v⟩ := r
   simp only at c0 c1 c2 c3 HC
   clear hr0 hc onr on0' hj
   have HBn : Hid (Below wr.heap.size wr (wr.alloc (.cells #[.int .u64 (id : Int), .int .u32 (x : Int), .int .u32 (y : Int), .string v] 54)).drew) := (below_new wr _).drew
   have HSW : Hid (LS b off wr.heap.size xx yy ⟨id, x, y, v⟩ (wr.alloc (.cells #[.int .u64 (id : Int), .int .u32 (x : Int), .int .u32 (y : Int), .string v] 54)).drew) :=
    ⟨(World.cell?_of_block (a := ⟨b, off + 1, none⟩) (HBn.out.block b hbl)).trans d1, (World.cell?_of_block (a := ⟨b, off + 2, none⟩) (HBn.out.block b hbl)).trans d2, F4.of (heap_alloc_new wr _)⟩
   have hlt2 : wr.heap.size < (wr.alloc (.cells #[.int .u64 (id : Int), .int .u32 (x : Int), .int .u32 (y : Int), .string v] 54)).drew.heap.size := by simp
   clear d1 d2
   go_wp2_with fail
   refine wp_region_held (S := LS b off wr.heap.size xx yy ⟨id, x, y, v⟩) (by kernel_rfl) ?_
   change wpAnyH _ _ _ _ _ _ _ _ (World.drew _)
   refine wpAnyH_take (i := 0) (v := ?_) rfl (by kernel_rfl) (by kernel_rfl) (by kernel_rfl) (fun _ _ _ h => h) (Or.inl ⟨by kernel_rfl, ?_⟩) HSW.out ?_
   rotate_left
   ·rintro w ⟨e1,e2,e3,e4,e5,e6⟩; go_simp; try with_reducible rfl
   conv in (Act.put _ _ _) => simp only [List.getElem_toArray, List.getElem_cons_succ, List.getElem_cons_zero, Act.put, List.setIfInBounds_toArray, List.set_cons_succ, List.set_cons_zero]
   refine wpAnyH_take (i := 1) (v := ?_) rfl (by kernel_rfl) (by kernel_rfl) (by kernel_rfl) (fun _ _ _ h => h) (Or.inl ⟨by kernel_rfl, ?_⟩) HSW.out ?_
   rotate_left
   ·rintro w ⟨e1,e2,e3,e4,e5,e6⟩; go_simp; try with_reducible rfl
   conv in (Act.put _ _ _) => simp only [List.getElem_toArray, List.getElem_cons_succ, List.getElem_cons_zero, Act.put, List.setIfInBounds_toArray, List.set_cons_succ, List.set_cons_zero]
   refine wpAnyH_take (i := 2) (v := ?_) rfl (by kernel_rfl) (by kernel_rfl) (by kernel_rfl) (fun _ _ _ h => h) (Or.inl ⟨by kernel_rfl, ?_⟩) HSW.out ?_
   rotate_left
   ·rintro w ⟨e1,e2,e3,e4,e5,e6⟩; go_simp; try with_reducible rfl
   conv in (Act.put _ _ _) => simp only [List.getElem_toArray, List.getElem_cons_succ, List.getElem_cons_zero, Act.put, List.setIfInBounds_toArray, List.set_cons_succ, List.set_cons_zero]
   refine wpAnyH_take (i := 3) (v := ?_) rfl (by kernel_rfl) (by kernel_rfl) (by kernel_rfl) (fun _ _ _ h => h) (Or.inl ⟨by kernel_rfl, ?_⟩) HSW.out ?_
   rotate_left
   ·rintro w ⟨e1,e2,e3,e4,e5,e6⟩; go_simp; try with_reducible rfl
   conv in (Act.put _ _ _) => simp only [List.getElem_toArray, List.getElem_cons_succ, List.getElem_cons_zero, Act.put, List.setIfInBounds_toArray, List.set_cons_succ, List.set_cons_zero]
   refine wpAnyH_take (i := 4) (v := ?_) rfl (by kernel_rfl) (by kernel_rfl) (by kernel_rfl) (fun _ _ _ h => h) (Or.inl ⟨by kernel_rfl, ?_⟩) HSW.out ?_
   rotate_left
   ·rintro w ⟨e1,e2,e3,e4,e5,e6⟩; go_simp; try with_reducible rfl
   conv in (Act.put _ _ _) => simp only [List.getElem_toArray, List.getElem_cons_succ, List.getElem_cons_zero, Act.put, List.setIfInBounds_toArray, List.set_cons_succ, List.set_cons_zero]
   refine wpAnyH_take (i := 5) (v := ?_) rfl (by kernel_rfl) (by kernel_rfl) (by kernel_rfl) (fun _ _ _ h => h) (Or.inl ⟨by kernel_rfl, ?_⟩) HSW.out ?_
   rotate_left
   ·rintro w ⟨e1,e2,e3,e4,e5,e6⟩; go_simp; try with_reducible rfl
   conv in (Act.put _ _ _) => simp only [List.getElem_toArray, List.getElem_cons_succ, List.getElem_cons_zero, Act.put, List.setIfInBounds_toArray, List.set_cons_succ, List.set_cons_zero]
   refine wpAnyH_take (i := 6) (v := ?_) rfl (by kernel_rfl) (by kernel_rfl) (by kernel_rfl) (fun _ _ _ h => h) (Or.inl ⟨by kernel_rfl, ?_⟩) HSW.out ?_
   rotate_left
   ·rintro w ⟨e1,e2,e3,e4,e5,e6⟩; go_simp; try with_reducible rfl
   conv in (Act.put _ _ _) => simp only [List.getElem_toArray, List.getElem_cons_succ, List.getElem_cons_zero, Act.put, List.setIfInBounds_toArray, List.set_cons_succ, List.set_cons_zero]
   refine wpAnyH_take (i := 7) (v := ?_) rfl (by kernel_rfl) (by kernel_rfl) (by kernel_rfl) (fun _ _ _ h => h) (Or.inl ⟨by kernel_rfl, ?_⟩) HSW.out ?_
   rotate_left
   ·rintro w ⟨e1,e2,e3,e4,e5,e6⟩; go_simp; try with_reducible rfl
   conv in (Act.put _ _ _) => simp only [List.getElem_toArray, List.getElem_cons_succ, List.getElem_cons_zero, Act.put, List.setIfInBounds_toArray, List.set_cons_succ, List.set_cons_zero]
   refine wpAnyH_take (i := 8) (v := ?_) rfl (by kernel_rfl) (by kernel_rfl) (by kernel_rfl) (fun _ _ _ h => h) (Or.inl ⟨by kernel_rfl, ?_⟩) HSW.out ?_
   rotate_left
   ·rintro w ⟨e1,e2,e3,e4,e5,e6⟩; go_simp; try with_reducible rfl
   conv in (Act.put _ _ _) => simp only [List.getElem_toArray, List.getElem_cons_succ, List.getElem_cons_zero, Act.put, List.setIfInBounds_toArray, List.set_cons_succ, List.set_cons_zero]
   refine wpAnyH_take (i := 9) (v := ?_) rfl (by kernel_rfl) (by kernel_rfl) (by kernel_rfl) (fun _ _ _ h => h) (Or.inl ⟨by kernel_rfl, ?_⟩) HSW.out ?_
   rotate_left
   ·rintro w ⟨e1,e2,e3,e4,e5,e6⟩; go_simp; try with_reducible rfl
   conv in (Act.put _ _ _) => simp only [List.getElem_toArray, List.getElem_cons_succ, List.getElem_cons_zero, Act.put, List.setIfInBounds_toArray, List.set_cons_succ, List.set_cons_zero]
   refine wpAnyH_take (i := 10) (v := ?_) rfl (by kernel_rfl) (by kernel_rfl) (by kernel_rfl) (fun _ _ _ h => h) (Or.inl ⟨by kernel_rfl, ?_⟩) HSW.out ?_
   rotate_left
   ·rintro w ⟨e1,e2,e3,e4,e5,e6⟩; go_simp; try with_reducible rfl
   conv in (Act.put _ _ _) => simp only [List.getElem_toArray, List.getElem_cons_succ, List.getElem_cons_zero, Act.put, List.setIfInBounds_toArray, List.set_cons_succ, List.set_cons_zero]
   refine wpAnyH_take (i := 11) (v := ?_) rfl (by kernel_rfl) (by kernel_rfl) (by kernel_rfl) (fun _ _ _ h => h) (Or.inl ⟨by kernel_rfl, ?_⟩) HSW.out ?_
   rotate_left
   ·rintro w ⟨e1,e2,e3,e4,e5,e6⟩; go_simp; try with_reducible rfl
   conv in (Act.put _ _ _) => simp only [List.getElem_toArray, List.getElem_cons_succ, List.getElem_cons_zero, Act.put, List.setIfInBounds_toArray, List.set_cons_succ, List.set_cons_zero]
   refine readyH2 12 16 _ _ (by kernel_rfl) rfl rfl (by kernel_rfl) (by kernel_rfl) (fun K hK => ?_) (fun K hK => ?_)
   ·go_simp
    refine (HC.out _).mono ?_
    rintro e w1 ⟨rfl, b1⟩
    have HJ1 : Hid (LJ l w k X Y L w1) := (HJ.out.next HBn.out hsz).next b1 (by omega)
    replace HSW : Hid (LS b off wr.heap.size xx yy ⟨id, x, y, v⟩ w1) := HSW.out.same (b1.block _ (by omega)) (b1.block _ hlt2)
    have hs1 : wr.heap.size < w1.heap.size := Nat.lt_of_lt_of_le hlt2 b1.size
    refine hK _ _ HSW.out ?_
    clear hK K b1
    refine wpAnyH_take (i := 13) (v := ?_) rfl (by kernel_rfl) (by kernel_rfl) (by kernel_rfl) (fun _ _ _ h => h) (Or.inl ⟨by kernel_rfl, ?_⟩) HSW.out ?_
    rotate_left
    ·rintro w ⟨e1,e2,e3,e4,e5,e6⟩; go_simp; try with_reducible rfl
    conv in (Act.put _ _ _) => simp only [List.getElem_toArray, List.getElem_cons_succ, List.getElem_cons_zero, Act.put, List.setIfInBounds_toArray, List.set_cons_succ, List.set_cons_zero]
    refine wpAnyH_take (i := 14) (v := ?_) rfl (by kernel_rfl) (by kernel_rfl) (by kernel_rfl) (fun _ _ _ h => h) (Or.inl ⟨by kernel_rfl, ?_⟩) HSW.out ?_
    rotate_left
    ·rintro w ⟨e1,e2,e3,e4,e5,e6⟩; go_simp; try with_reducible rfl
    conv in (Act.put _ _ _) => simp only [List.getElem_toArray, List.getElem_cons_succ, List.getElem_cons_zero, Act.put, List.setIfInBounds_toArray, List.set_cons_succ, List.set_cons_zero]
    refine wpAnyH_take (i := 15) (v := ?_) rfl (by kernel_rfl) (by kernel_rfl) (by kernel_rfl) (fun _ _ _ h => h) (Or.inl ⟨by kernel_rfl, ?_⟩) HSW.out ?_
    rotate_left
    ·rintro w ⟨e1,e2,e3,e4,e5,e6⟩; go_simp; try with_reducible rfl
    conv in (Act.put _ _ _) => simp only [List.getElem_toArray, List.getElem_cons_succ, List.getElem_cons_zero, Act.put, List.setIfInBounds_toArray, List.set_cons_succ, List.set_cons_zero]
    refine readyH 16 _ (by kernel_rfl) rfl (by kernel_rfl) (fun K hK => ?_)
    go_simp
    have HJ2 := HJ1.out.next (below_new w1 (.cells #[.int .u32 0, .int .u32 0, .int .i64 0] 42)) (by have := HJ1.out.size; omega)
    have HG2 : Hid ((w1.alloc (.cells #[.int .u32 0, .int .u32 0, .int .i64 0] 42)).heap[w1.heap.size]? = some (.cells #[.int .u32 0, .int .u32 0, .int .i64 0] 42 (0, 0))) := heap_alloc_new w1 _
    have hbn := below_new w1 (.cells #[.int .u32 0, .int .u32 0, .int .i64 0] 42)
    replace HSW : Hid (LS b off wr.heap.size xx yy ⟨id, x, y, v⟩ (w1.alloc (.cells #[.int .u32 0, .int .u32 0, .int .i64 0] 42))) := HSW.out.same (hbn.block _ (by omega)) (hbn.block _ hs1)
    refine hK _ _ HSW.out ?_
    clear hK K hbn
    obtain ⟨g6, hg6'⟩ : ∃ g6, w1.heap.size = g6 := ⟨_, rfl⟩
    have hg6 : w.heap.size + 2 ≤ g6 := by have := HJ1.out.size; omega
    have hg6b : wr.heap.size < g6 := by omega
    obtain ⟨W2, hW2⟩ : ∃ W2, w1.alloc (.cells #[.int .u32 0, .int .u32 0, .int .i64 0] 42) = W2 := ⟨_, rfl⟩
    rw [hW2] at HJ2 HG2 HSW ⊢
    rw [hg6'] at HG2 ⊢
    clear hW2 hg6' HJ1 hs1
    have HJ3 : Hid (LJ l w k X Y L W2) := HJ2
    have HS2 := HSW.out
    obtain ⟨z0, z1, z2, f0, f1, f2⟩ := cell_facts HG2.out
    obtain ⟨h3, b3⟩ := put_cell HG2.out (.int .u32 (fx : Int)) (.int .u32 (fy : Int)) (.int .i64 (lv : Int))
    have HJ4 : Hid (LJ l w k X Y L (((W2.setCell ⟨g6, 0, none⟩ (.int .u32 (fx : Int))).setCell ⟨g6, 1, none⟩ (.int .u32 (fy : Int))).setCell ⟨g6, 2, none⟩ (.int .i64 (lv : Int)))) := HJ3.out.next b3 hg6
    have HG4 : Hid _ := h3
    replace HSW : Hid (LS b off wr.heap.size xx yy ⟨id, x, y, v⟩ (((W2.setCell ⟨g6, 0, none⟩ (.int .u32 (fx : Int))).setCell ⟨g6, 1, none⟩ (.int .u32 (fy : Int))).setCell ⟨g6, 2, none⟩ (.int .i64 (lv : Int)))) := HSW.out.same (b3.block _ (by omega)) (b3.block _ (by omega))
    clear h3 b3 HS2
    refine readyH 17 _ (by kernel_rfl) rfl (by kernel_rfl) (fun K hK => ?_)
    go_simp
    refine hK _ _ HSW.out ?_
    clear hK K f0 f1 f2 z0 z1 z2
    obtain ⟨W3, hW3⟩ : ∃ W3, ((W2.setCell ⟨g6, 0, none⟩ (.int .u32 (fx : Int))).setCell ⟨g6, 1, none⟩ (.int .u32 (fy : Int))).setCell ⟨g6, 2, none⟩ (.int .i64 (lv : Int)) = W3 := ⟨_, rfl⟩
    rw [hW3] at HJ4 HG4 HSW ⊢
    clear hW3 HJ3 HJ2 HG2
    refine wpAnyH_take (i := 18) (v := ?_) rfl (by kernel_rfl) (by kernel_rfl) (by kernel_rfl) (fun _ _ _ h => h) (Or.inl ⟨by kernel_rfl, ?_⟩) HSW.out ?_
    rotate_left
    ·rintro w ⟨e1,e2,e3,e4,e5,e6⟩; go_simp; try with_reducible rfl
    conv in (Act.put _ _ _) => simp only [List.getElem_toArray, List.getElem_cons_succ, List.getElem_cons_zero, Act.put, List.setIfInBounds_toArray, List.set_cons_succ, List.set_cons_zero]
    refine wpAnyH_done (by kernel_rfl) ?_ _
    clear HSW
    rename_i hKK
    refine hKK _ _ ?_
    clear hKK
    obtain ⟨y0, y1, y2, f0, f1, f2⟩ := cell_facts HG4.out
    clear y0 y1 y2
    obtain ⟨z0, z1, z2, t0, t1, t2⟩ := cell_facts HJ4.out.out
    clear HG4
    obtain ⟨zk, hzk⟩ : ∃ zk : Int, (k : Int) = zk := ⟨_, rfl⟩
    have HZ : Hid ((k : Int) = zk) := hzk
    have hq5 : zk = 0 ↔ k = 0 := by omega
    rw [hzk] at k0 k1 q1 ⊢
    clear hzk
    by_cases hk0 : k = 0
    ·have q5 : (zk == 0) = true := by rw [beq_iff_eq]; exact hq5.2 hk0
     have HL : Hid _ := HP.out W3 HJ4.out (fun h => absurd h (by omega))
     clear hk0 hq5
     go_wp2_with fail
     go_roundw
     case rel => exact ⟨k + 1, by omega, by rw [← HZ.out]; go_num, _, _, _, HL.out⟩
     case measure => rw [← HZ.out]; simp [natOf]; omega
    ·have q5 : (zk == 0) = false := by rw [beq_eq_false_iff_ne]; exact fun e => hk0 (hq5.1 e)
     by_cases hlv : L < lv
     ·have q6 : decide (L < lv) = true := decide_eq_true hlv
      have HL : Hid _ := HP.out W3 HJ4.out (fun _ => hlv)
      clear hk0 hlv hq5
      go_wp2_with fail
      go_roundw
      case rel => exact ⟨k + 1, by omega, by rw [← HZ.out]; go_num, _, _, _, HL.out⟩
      case measure => rw [← HZ.out]; simp [natOf]; omega
     ·have q6 : decide (L < lv) = false := decide_eq_false hlv
      have HL : Hid _ := HKp.out W3 HJ4.out (by omega) (by omega)
      clear hk0 hlv hq5
      go_wp2_with fail
      go_roundw
      case rel => exact ⟨k + 1, by omega, by rw [← HZ.out]; go_num, _, _, _, HL.out⟩
      case measure => rw [← HZ.out]; simp [natOf]; omega
   ·go_simp
    have hb2 := (below_new (wr.alloc (.cells #[.int .u64 (id : Int), .int .u32 (x : Int), .int .u32 (y : Int), .string v] 54)) (.cells #[.int .u32 0, .int .u32 0, .int .i64 0] 42)).drew
    have hs2 : (wr.alloc (.cells #[.int .u64 (id : Int), .int .u32 (x : Int), .int .u32 (y : Int), .string v] 54)).heap.size = wr.heap.size + 1 := by simp
    rw [hs2] at hb2
    have HG1 : ((wr.alloc (.cells #[.int .u64 (id : Int), .int .u32 (x : Int), .int .u32 (y : Int), .string v] 54)).alloc (.cells #[.int .u32 0, .int .u32 0, .int .i64 0] 42)).drew.heap[wr.heap.size + 1]? = some (.cells #[.int .u32 0, .int .u32 0, .int .i64 0] 42 (0, 0)) := by
     have := heap_alloc_new (wr.alloc (.cells #[.int .u64 (id : Int), .int .u32 (x : Int), .int .u32 (y : Int), .string v] 54)) (.cells #[.int .u32 0, .int .u32 0, .int .i64 0] 42)
     rw [hs2] at this; exact this
    have HJ1 : LJ l w k X Y L ((wr.alloc (.cells #[.int .u64 (id : Int), .int .u32 (x : Int), .int .u32 (y : Int), .string v] 54)).alloc (.cells #[.int .u32 0, .int .u32 0, .int .i64 0] 42)).drew := (HJ.out.next (below_new wr _) hsz).next hb2 (by omega)
    have HS1 : LS b off wr.heap.size xx yy ⟨id, x, y, v⟩ ((wr.alloc (.cells #[.int .u64 (id : Int), .int .u32 (x : Int), .int .u32 (y : Int), .string v] 54)).alloc (.cells #[.int .u32 0, .int .u32 0, .int .i64 0] 42)).drew :=
     HSW.out.same (hb2.block _ (by omega)) (hb2.block _ (by omega))
    refine hK _ _ HS1 ?_
    clear hK K hb2
    obtain ⟨g6, hg6'⟩ : ∃ g6, wr.heap.size + 1 = g6 := ⟨_, rfl⟩
    have hg6 : w.heap.size + 2 ≤ g6 := by omega
    have hg6b : wr.heap.size < g6 := by omega
    obtain ⟨W1, hW1⟩ : ∃ W1, ((wr.alloc (.cells #[.int .u64 (id : Int), .int .u32 (x : Int), .int .u32 (y : Int), .string v] 54)).alloc (.cells #[.int .u32 0, .int .u32 0, .int .i64 0] 42)).drew = W1 := ⟨_, rfl⟩
    rw [hW1] at HJ1 HG1 HS1 ⊢
    rw [hg6'] at HG1 ⊢
    clear hW1 hg6' HSW hs2
    have hgs : g6 < W1.heap.size := (Array.getElem?_eq_some_iff.1 HG1).1
    refine readyH 12 _ (by kernel_rfl) rfl (by kernel_rfl) (fun K hK => ?_)
    go_simp
    refine (HC.out _).mono ?_
    rintro e W2 ⟨rfl, b1⟩
    have HJ2 : LJ l w k X Y L W2 := HJ1.next b1 (by omega)
    have HSW : Hid (LS b off wr.heap.size xx yy ⟨id, x, y, v⟩ W2) := HS1.same (b1.block _ (by omega)) (b1.block _ (by omega))
    have HG2 : Hid (W2.heap[g6]? = some (.cells #[.int .u32 0, .int .u32 0, .int .i64 0] 42 (0, 0))) := (b1.block _ hgs).trans HG1
    refine hK _ _ HSW.out ?_
    clear hK K b1 HJ1 HS1 HG1 hgs
    refine wpAnyH_take (i := 13) (v := ?_) rfl (by kernel_rfl) (by kernel_rfl) (by kernel_rfl) (fun _ _ _ h => h) (Or.inl ⟨by kernel_rfl, ?_⟩) HSW.out ?_
    rotate_left
    ·rintro w ⟨e1,e2,e3,e4,e5,e6⟩; go_simp; try with_reducible rfl
    conv in (Act.put _ _ _) => simp only [List.getElem_toArray, List.getElem_cons_succ, List.getElem_cons_zero, Act.put, List.setIfInBounds_toArray, List.set_cons_succ, List.set_cons_zero]
    refine wpAnyH_take (i := 14) (v := ?_) rfl (by kernel_rfl) (by kernel_rfl) (by kernel_rfl) (fun _ _ _ h => h) (Or.inl ⟨by kernel_rfl, ?_⟩) HSW.out ?_
    rotate_left
    ·rintro w ⟨e1,e2,e3,e4,e5,e6⟩; go_simp; try with_reducible rfl
    conv in (Act.put _ _ _) => simp only [List.getElem_toArray, List.getElem_cons_succ, List.getElem_cons_zero, Act.put, List.setIfInBounds_toArray, List.set_cons_succ, List.set_cons_zero]
    refine wpAnyH_take (i := 15) (v := ?_) rfl (by kernel_rfl) (by kernel_rfl) (by kernel_rfl) (fun _ _ _ h => h) (Or.inl ⟨by kernel_rfl, ?_⟩) HSW.out ?_
    rotate_left
    ·rintro w ⟨e1,e2,e3,e4,e5,e6⟩; go_simp; try with_reducible rfl
    conv in (Act.put _ _ _) => simp only [List.getElem_toArray, List.getElem_cons_succ, List.getElem_cons_zero, Act.put, List.setIfInBounds_toArray, List.set_cons_succ, List.set_cons_zero]
    have HJ3 : Hid (LJ l w k X Y L W2) := HJ2
    have HS2 := HSW.out
    obtain ⟨z0, z1, z2, f0, f1, f2⟩ := cell_facts HG2.out
    obtain ⟨h3, b3⟩ := put_cell HG2.out (.int .u32 (fx : Int)) (.int .u32 (fy : Int)) (.int .i64 (lv : Int))
    have HJ4 : Hid (LJ l w k X Y L (((W2.setCell ⟨g6, 0, none⟩ (.int .u32 (fx : Int))).setCell ⟨g6, 1, none⟩ (.int .u32 (fy : Int))).setCell ⟨g6, 2, none⟩ (.int .i64 (lv : Int)))) := HJ3.out.next b3 hg6
    have HG4 : Hid _ := h3
    replace HSW : Hid (LS b off wr.heap.size xx yy ⟨id, x, y, v⟩ (((W2.setCell ⟨g6, 0, none⟩ (.int .u32 (fx : Int))).setCell ⟨g6, 1, none⟩ (.int .u32 (fy : Int))).setCell ⟨g6, 2, none⟩ (.int .i64 (lv : Int)))) := HSW.out.same (b3.block _ (by omega)) (b3.block _ (by omega))
    clear h3 b3 HS2
    refine readyH 17 _ (by kernel_rfl) rfl (by kernel_rfl) (fun K hK => ?_)
    go_simp
    refine hK _ _ HSW.out ?_
    clear hK K f0 f1 f2 z0 z1 z2
    obtain ⟨W3, hW3⟩ : ∃ W3, ((W2.setCell ⟨g6, 0, none⟩ (.int .u32 (fx : Int))).setCell ⟨g6, 1, none⟩ (.int .u32 (fy : Int))).setCell ⟨g6, 2, none⟩ (.int .i64 (lv : Int)) = W3 := ⟨_, rfl⟩
    rw [hW3] at HJ4 HG4 HSW ⊢
    clear hW3 HJ3 HJ2 HG2
    refine wpAnyH_take (i := 18) (v := ?_) rfl (by kernel_rfl) (by kernel_rfl) (by kernel_rfl) (fun _ _ _ h => h) (Or.inl ⟨by kernel_rfl, ?_⟩) HSW.out ?_
    rotate_left
    ·rintro w ⟨e1,e2,e3,e4,e5,e6⟩; go_simp; try with_reducible rfl
    conv in (Act.put _ _ _) => simp only [List.getElem_toArray, List.getElem_cons_succ, List.getElem_cons_zero, Act.put, List.setIfInBounds_toArray, List.set_cons_succ, List.set_cons_zero]
    refine wpAnyH_done (by kernel_rfl) ?_ _
    clear HSW
    rename_i hKK
    refine hKK _ _ ?_
    clear hKK
    obtain ⟨y0, y1, y2, f0, f1, f2⟩ := cell_facts HG4.out
    clear y0 y1 y2
    obtain ⟨z0, z1, z2, t0, t1, t2⟩ := cell_facts HJ4.out.out
    clear HG4
    obtain ⟨zk, hzk⟩ : ∃ zk : Int, (k : Int) = zk := ⟨_, rfl⟩
    have HZ : Hid ((k : Int) = zk) := hzk
    have hq5 : zk = 0 ↔ k = 0 := by omega
    rw [hzk] at k0 k1 q1 ⊢
    clear hzk
    by_cases hk0 : k = 0
    ·have q5 : (zk == 0) = true := by rw [beq_iff_eq]; exact hq5.2 hk0
     have HL : Hid _ := HP.out W3 HJ4.out (fun h => absurd h (by omega))
     clear hk0 hq5
     go_wp2_with fail
     go_roundw
     case rel => exact ⟨k + 1, by omega, by rw [← HZ.out]; go_num, _, _, _, HL.out⟩
     case measure => rw [← HZ.out]; simp [natOf]; omega
    ·have q5 : (zk == 0) = false := by rw [beq_eq_false_iff_ne]; exact fun e => hk0 (hq5.1 e)
     by_cases hlv : L < lv
     ·have q6 : decide (L < lv) = true := decide_eq_true hlv
      have HL : Hid _ := HP.out W3 HJ4.out (fun _ => hlv)
      clear hk0 hlv hq5
      go_wp2_with fail
      go_roundw
      case rel => exact ⟨k + 1, by omega, by rw [← HZ.out]; go_num, _, _, _, HL.out⟩
      case measure => rw [← HZ.out]; simp [natOf]; omega
     ·have q6 : decide (L < lv) = false := decide_eq_false hlv
      have HL : Hid _ := HKp.out W3 HJ4.out (by omega) (by omega)
      clear hk0 hlv hq5
      go_wp2_with fail
      go_roundw
      case rel => exact ⟨k + 1, by omega, by rw [← HZ.out]; go_num, _, _, _, HL.out⟩
      case measure => rw [← HZ.out]; simp [natOf]; omega
  ·obtain rfl : k = l.length := by omega
   have q1 : ¬ (l.length : Int) < (l.length : Int) := by omega
   obtain ⟨z0, z1, z2, f0, f1, f2⟩ := cell_facts HJ.out.res
   obtain ⟨_, _, _, t0, t1, t2⟩ := cell_facts HJ.out.out
   obtain ⟨a1, a2, a3⟩ := HJ.out.is hne
   rw [List.take_length] at a1
   obtain ⟨h3, b3⟩ := put_cell HJ.out.res (.int .u32 (X : Int)) (.int .u32 (Y : Int)) (.int .i64 (L : Int))
   have H3 : Hid _ := h3
   have B3 : Hid (Below w.heap.size w _) := HJ.out.bel.trans b3
   have HX : Hid (cv X Y (L : Int) = cv (cx l) (cy l) (lev l)) := by
    refine (?_ : cv X Y (L : Int) = cv (cx l) (cy l) (lev l))
    rw [a2, a3, a1]; rfl
   clear hj h3 b3 a1 a2 a3
   go_wp2_with fail
   refine bodyPost_ret (results_c1 rfl _ _ _ _ _ _ rfl H3.out) rfl ⟨by rw [HX.out], B3.out⟩
end Go.Proofs.Ytimdlohdmddnjaa.Rq
