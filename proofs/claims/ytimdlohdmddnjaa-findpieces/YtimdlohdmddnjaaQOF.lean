/- What a query gives of what was found. -/
import Derived.Test.YtimdlohdmddnjaaQGC
namespace Go.Proofs.Ytimdlohdmddnjaa.Rf
open Go.RowKit Go.Lib
open Go.Proofs.Ytimdlohdmddnjaa.Rc Go.Proofs.Ytimdlohdmddnjaa.Rq
set_option maxRecDepth 100000 in
theorem fclip_any (o : Option Addr) (n cap : Nat) (h : n ≤ cap) (w : World) :
    Calls Try.prog 49 #[.slice o n cap] w fun e w' => e = .returned (.slice o n n) ∧ w' = w := by
  have h1 : (n : Int) ≤ (cap : Int) := by omega
  have h0 : (0 : Int) ≤ (n : Int) := by omega
  go_enter Try.func49, Try.ntmps49
  go_wp2_with fail
  go_ret
  exact ⟨rfl, rfl⟩
set_option maxRecDepth 100000 in
theorem run_tailR (o : Option Addr) (n cap k : Nat) (w : World) (hk : k ≤ n) : (Instr.sliceAt 32 (.slice o n cap) (some (.int .i64 (k : Int))) none none).run Try.prog w = .ok (.slice (if cap = k then o else o.map (·.add (k * 4))) (n - k) (cap - k)) w := by
  have h1 : (k : Int) ≤ (n : Int) := by omega
  simp [Instr.sliceAt, Instr.slice, run_underlying Try.underlying32, go_sem]
  intro h
  omega
set_option maxRecDepth 100000 in
/-- Rows behind some, and the first ones, in the same block. -/
theorem rows_drop {w : World} {o : Option Addr} {cap : Nat} {l : List Rw} (h : RowsAt w o cap l) {k : Nat} (hk : k ≤ l.length) : RowsAt w (if cap = k then o else o.map (·.add (k * 4))) (cap - k) (l.drop k) := by
  have hl : (l.drop k).length = l.length - k := List.length_drop
  have h1 := h.1
  have h2 := h.2.1
  refine ⟨by omega, by omega, fun e => ?_, flat_len rc 4 (fun _ => rfl) _, fun hn => ?_⟩
  · by_cases hc : cap = k
    · omega
    · rw [if_neg hc] at e
      have : o = none := by cases o with | none => rfl | some a => simp at e
      have := h.2.2.1 this
      omega
  · obtain ⟨b, off, e, hlt, hc⟩ := h.2.2.2.2 (by omega)
    have hck : ¬ cap = k := by omega
    rw [if_neg hck, e]
    refine ⟨b, off + k * 4, ?_, hlt, fun j u hu => ?_⟩
    · simp [Addr.add]
    · have e2 : l.flatMap rc = (l.take k).flatMap rc ++ (l.drop k).flatMap rc := by rw [← List.flatMap_append, List.take_append_drop]
      have e3 : ((l.take k).flatMap rc).length = k * 4 := by rw [flat_len rc 4 (fun _ => rfl), List.length_take]; congr 1; omega
      have := hc (k * 4 + j) u (by rw [e2, List.getElem?_append_right (by omega), e3, Nat.add_sub_cancel_left]; exact hu)
      rwa [← Nat.add_assoc] at this
set_option maxRecDepth 100000 in
theorem rows_take {w : World} {o : Option Addr} {cap : Nat} {l : List Rw} (h : RowsAt w o cap l) (n : Nat) : RowsAt w o (l.take n).length (l.take n) := by
  have hle : (l.take n).length ≤ l.length := by rw [List.length_take]; omega
  have h1 := h.1
  have h2 := h.2.1
  refine ⟨Nat.le_refl _, by omega, fun e => ?_, flat_len rc 4 (fun _ => rfl) _, fun hn => ?_⟩
  · have := h.2.2.1 e
    omega
  · obtain ⟨b, off, e, hlt, hc⟩ := h.2.2.2.2 (by omega)
    refine ⟨b, off, e, hlt, fun j u hu => hc j u ?_⟩
    have : l.flatMap rc = (l.take n).flatMap rc ++ (l.drop n).flatMap rc := by rw [← List.flatMap_append, List.take_append_drop]
    rw [this, List.getElem?_append_left (List.getElem?_eq_some_iff.1 hu).1]
    exact hu
end Go.Proofs.Ytimdlohdmddnjaa.Rf
/- What a query gives of what was found. -/
namespace Go.Proofs.Ytimdlohdmddnjaa.Rf
open Go.RowKit Go.Lib
open Go.Proofs.Ytimdlohdmddnjaa.Rc Go.Proofs.Ytimdlohdmddnjaa.Rq
set_option maxRecDepth 100000 in
theorem flist_min {P : Program} {ops : Array Oper} {rest : List Oper} {o : Oper} {a : Act} {w : World} {Q : Exit → Act → World → Prop} (hgd : o.guard = none) (t u : TypeId) (x y : Operand) (ho : o.op = .call { callee := .builtin .min, args := #[x, y], argTypes := #[t, u] })
    {p q r : Int} (hx : a.eval x = .int .i64 p) (hy : a.eval y = .int .i64 q) (hr : (if q < p then q else p) = r) (h : wpList P ops Q rest (a.put o.dst (.int .i64 r)) w) : wpList P ops Q (o :: rest) a w :=
  wpList_plain hgd fun _ hK => by
    have hrun : (Builtin.min_ #[t, u] o.type #[.int .i64 p, .int .i64 q]).run P w = .ok (.int .i64 r) w := by subst hr; rfl
    unfold Oper.wp execOp
    simp only [ho, resolve, invoke, builtin, Sem.run_bind, Sem.run_pure, Result.andThen_ok, List.map_toArray, List.map_cons, List.map_nil, hx, hy, hrun]
    exact hK _ _ h
set_option maxRecDepth 100000 in
theorem run_headW (o : Option Addr) (n cap r : Nat) (w : World) (hr : r ≤ cap) (ho : o = none → cap = 0) : (Instr.sliceAt 32 (.slice o n cap) none (some (.int .i64 (r : Int))) none).run Try.prog w = .ok (.slice o r cap) w := by
  have h1 : (r : Int) ≤ (cap : Int) := by omega
  cases o with
  | none =>
    have := ho rfl
    subst this
    obtain rfl : r = 0 := by omega
    simp [Instr.sliceAt, Instr.slice, run_underlying Try.underlying32, go_sem]
  | some a =>
    simp [Instr.sliceAt, Instr.slice, run_underlying Try.underlying32, go_sem]
    intro h
    omega
/-- What is left of the rows behind After, if From holds. -/
def rest (q : Qr) (l : List Rw) : List Rw := if q.fr = true ∧ q.k ≠ 3 then l.drop (upTo l q.af) else l
def CS (g : Nat) (v : Value) (w : World) : Prop := w.cell? ⟨g, 0, none⟩ = some v ∧ True
set_option maxRecDepth 100000 in
theorem upTo_le (l : List Rw) (af : Nat) : upTo l af ≤ l.length := List.findIdx_le_length
set_option maxRecDepth 100000 in
set_option maxHeartbeats 4000000 in
theorem give_any (k : Int) (a b c d x y sq K af : Nat) (fr : Bool) (o : Option Addr) (cap : Nat) (l : List Rw) (w : World) (hr : RowsAt w o cap l) (hmax : l.length ≤ 1000) (hri : k ≠ 3 → Rise l) (hK : K ≤ 64) :
    Calls Try.prog 28 #[.slice o l.length cap, .agg #[.int .i64 k, .int .u32 (a : Int), .int .u32 (b : Int), .int .u32 (c : Int), .int .u32 (d : Int), .int .u32 (x : Int), .int .u32 (y : Int), .int .u64 (sq : Int), .int .i64 (K : Int), .int .u64 (af : Int), .bool fr]] w fun e w' => ∃ o', e = .returned (.tuple #[.slice o' ((rest ⟨k, a, b, c, d, x, y, sq, (K : Int), af, fr⟩ l).take K).length ((rest ⟨k, a, b, c, d, x, y, sq, (K : Int), af, fr⟩ l).take K).length, .bool (decide (K < (rest ⟨k, a, b, c, d, x, y, sq, (K : Int), af, fr⟩ l).length))]) ∧ (∀ W, RowsAt W o cap l → RowsAt W o' ((rest ⟨k, a, b, c, d, x, y, sq, (K : Int), af, fr⟩ l).take K).length ((rest ⟨k, a, b, c, d, x, y, sq, (K : Int), af, fr⟩ l).take K)) ∧ Below w.heap.size w w' := by
  have h1 := below_new w (.cells #[.slice o l.length cap] 32)
  have h2 := below_new (w.alloc (.cells #[.slice o l.length cap] 32)) (.cells #[.int .i64 k, .int .u32 (a : Int), .int .u32 (b : Int), .int .u32 (c : Int), .int .u32 (d : Int), .int .u32 (x : Int), .int .u32 (y : Int), .int .u64 (sq : Int), .int .i64 (K : Int), .int .u64 (af : Int), .bool fr] 27)
  have hb0 := h1.trans (h2.mono h1.size)
  have hg2 : ((w.alloc (.cells #[.slice o l.length cap] 32)).alloc (.cells #[.int .i64 k, .int .u32 (a : Int), .int .u32 (b : Int), .int .u32 (c : Int), .int .u32 (d : Int), .int .u32 (x : Int), .int .u32 (y : Int), .int .u64 (sq : Int), .int .i64 (K : Int), .int .u64 (af : Int), .bool fr] 27)).heap[w.heap.size]? = some (.cells #[.slice o l.length cap] 32 (0, 0)) := (h2.block _ (by simp)).trans (heap_alloc_new w _)
  have hg3 := heap_alloc_new (w.alloc (.cells #[.slice o l.length cap] 32)) (.cells #[.int .i64 k, .int .u32 (a : Int), .int .u32 (b : Int), .int .u32 (c : Int), .int .u32 (d : Int), .int .u32 (x : Int), .int .u32 (y : Int), .int .u64 (sq : Int), .int .i64 (K : Int), .int .u64 (af : Int), .bool fr] 27)
  rw [show (w.alloc (.cells #[.slice o l.length cap] 32)).heap.size = w.heap.size + 1 by simp] at hg3
  obtain ⟨W0, hW0⟩ : ∃ W0, (w.alloc (.cells #[.slice o l.length cap] 32)).alloc (.cells #[.int .i64 k, .int .u32 (a : Int), .int .u32 (b : Int), .int .u32 (c : Int), .int .u32 (d : Int), .int .u32 (x : Int), .int .u32 (y : Int), .int .u64 (sq : Int), .int .i64 (K : Int), .int .u64 (af : Int), .bool fr] 27) = W0 := ⟨_, rfl⟩
  rw [hW0] at hb0 hg2 hg3
  have HW0 : Hid _ := hW0
  have hr0 : RowsAt W0 o cap l := hr.below hb0 (Nat.le_refl _)
  have HR0 : Hid (RowsAt W0 o cap l) := hr0
  have HB0 : Hid (Below w.heap.size w W0) := hb0
  have lg2 : w.heap.size < W0.heap.size := (Array.getElem?_eq_some_iff.1 hg2).1
  have lg3 : w.heap.size + 1 < W0.heap.size := (Array.getElem?_eq_some_iff.1 hg3).1
  obtain ⟨c0, -, -, -, -, -, -, -, c8, c9, c10⟩ := qc_of (q := ⟨k, a, b, c, d, x, y, sq, (K : Int), af, fr⟩) hg3
  have d0 : W0.cell? ⟨w.heap.size, 0, none⟩ = some (.slice o l.length cap) := by rw [cell_of_row _ _ _ _ _ _ hg2]; rfl
  simp only at c0 c8 c9 c10
  clear h1 h2 hW0 hb0
  by_cases hf : fr = true ∧ k ≠ 3
  · have hrest : rest ⟨k, a, b, c, d, x, y, sq, (K : Int), af, fr⟩ l = l.drop (upTo l af) := by unfold rest; rw [if_pos hf]
    rw [hrest]
    have HSE : Hid (∀ _ : True, _) := fun _ => search_any w.heap.size (w.heap.size + 1) o cap l af W0 hmax (hri hf.2) hr0 lg2 lg3 d0 c9
    have hfl := upTo_le l af
    generalize upTo l af = f at *
    obtain ⟨m, hm⟩ : ∃ m, (l.drop f).length = m := ⟨_, rfl⟩
    have hm2 : m = l.length - f := by rw [← hm, List.length_drop]
    obtain ⟨n, hn⟩ : ∃ n, ((l.drop f).take K).length = n := ⟨_, rfl⟩
    have hn2 : n = min K m := by rw [← hn, List.length_take, hm]
    rw [hn, hm]
    have hle := hr0.1
    have hmin : (if (m : Int) < (K : Int) then (m : Int) else (K : Int)) = (n : Int) := by split <;> omega
    have hrun1 := fun w => run_tailR o l.length cap f w hfl
    have hrd := rows_drop hr0 hfl
    have hrdw : ∀ W, RowsAt W o cap l → _ := fun W hW => rows_drop (w := W) hW hfl
    obtain ⟨o2, ho2⟩ : ∃ o2, (if cap = f then o else o.map (·.add (f * 4))) = o2 := ⟨_, rfl⟩
    rw [ho2] at hrd hrdw hrun1
    rw [← hm2] at hrun1
    obtain ⟨cap2, hc2⟩ : ∃ c2, cap - f = c2 := ⟨_, rfl⟩
    rw [hc2] at hrd hrdw hrun1
    have hle2 := hrd.1
    rw [hm] at hle2
    have hrun2 := fun w => run_headW o2 m cap2 n w (by omega) hrd.2.2.1
    have HCL : Hid _ := fun w => fclip_any o2 n cap2 (by omega) w
    have HRX : Hid (∀ W, RowsAt W o cap l → RowsAt W o2 n ((l.drop f).take K)) := fun W hW => by
      have := rows_take (hrdw W hW) K
      rw [hn] at this
      exact this
    have HRT : Hid (RowsAt W0 o2 n ((l.drop f).take K)) := by
      have := rows_take hrd K
      rw [hn] at this
      exact this
    have HM : Hid (decide (n < m) = decide (K < m)) := by
      refine (?_ : decide (n < m) = decide (K < m))
      congr 1
      exact propext (by omega)
    have f0 : (0 : Int) ≤ (f : Int) := by omega
    have f1 : (f : Int) ≤ (l.length : Int) := by omega
    have HG2 : Hid _ := hg2
    have HG3 : Hid _ := hg3
    have hkn : (k == 3) = false := by simpa using hf.2
    obtain rfl : fr = true := hf.1
    have HBX : Hid (∀ b off, o2 = some ⟨b, off, none⟩ → b < w.heap.size ∨ n = 0) := fun b off e => by
      by_cases h0 : n = 0
      · exact .inr h0
      · obtain ⟨b', off', e', hlt', -⟩ := hr.2.2.2.2 (by omega)
        have hck : ¬ cap = f := by omega
        rw [if_neg hck, e'] at ho2
        subst ho2
        have e1 : b' = b := by
          have := congrArg (Option.map Addr.block) e
          simp [Addr.add] at this
          split at this <;> exact this
        exact .inl (e1 ▸ hlt')
    clear hrest hm hn hm2 hn2 hle hle2 hr hr0 hri hrd hrdw ho2 hc2 hf hfl hg2 hg3
    go_enter Try.func28, Try.ntmps28
    go_wp2_with (first | (rw [HW0.out]; clear HW0))
    refine (HSE.out trivial).mono ?_
    rintro e w1 ⟨rfl, b1⟩
    have hgA := (b1.block _ lg2).trans HG2.out
    have hgB := (b1.block _ lg3).trans HG3.out
    have e0 : w1.cell? ⟨w.heap.size, 0, none⟩ = some (.slice o l.length cap) := by rw [cell_of_row _ _ _ _ _ _ hgA]; rfl
    have z0 := frozen_of_row w1 w.heap.size 0 _ _ hgA
    have lA : w.heap.size < w1.heap.size := (Array.getElem?_eq_some_iff.1 hgA).1
    have hoth : ∀ j, j ≠ w.heap.size → (w1.setCell ⟨w.heap.size, 0, none⟩ (.slice o2 m cap2)).heap[j]? = w1.heap[j]? := fun j hj => Below.heap_setCell _ _ _ _ (fun e => hj e)
    have hsame := heap_setCell_same w1 w.heap.size 0 _ _ (.slice o2 m cap2) hgA
    have hB1 := HB0.out.trans (b1.mono HB0.out.size)
    have HB2 : Hid (Below w.heap.size w (w1.setCell ⟨w.heap.size, 0, none⟩ (.slice o2 m cap2))) := ⟨hB1.os, hB1.tape, hB1.output, by rw [show (w1.setCell ⟨w.heap.size, 0, none⟩ (.slice o2 m cap2)).heap.size = w1.heap.size by simp [World.setCell]]; exact hB1.size, fun j hj => (hoth j (by omega)).trans (hB1.block j hj)⟩
    have HRW : Hid (RowsAt (w1.setCell ⟨w.heap.size, 0, none⟩ (.slice o2 m cap2)) o2 n ((l.drop f).take K)) := by
      have h9 := RowsAt.below HRT.out b1 (Nat.le_refl _)
      refine ⟨h9.1, h9.2.1, h9.2.2.1, h9.2.2.2.1, fun hn0 => ?_⟩
      obtain ⟨b', off', e', hlt', hc'⟩ := h9.2.2.2.2 hn0
      have : b' < w.heap.size := by
        rcases HBX.out b' off' e' with h | h
        · exact h
        · have hz := h9.1
          have : ((l.drop f).take K).length = 0 := by omega
          omega
      exact ⟨b', off', e', by simp [World.setCell]; exact hlt', fun j u hu => (World.cell?_of_block (a := ⟨b', off' + j, none⟩) (hoth b' (by omega))).trans (hc' j u hu)⟩
    have k8 : (w1.setCell ⟨w.heap.size, 0, none⟩ (.slice o2 m cap2)).cell? ⟨w.heap.size + 1, 8, none⟩ = some (.int .i64 (K : Int)) := by rw [cell_of_row _ _ _ _ _ _ ((hoth _ (by omega)).trans hgB)]; rfl
    have k0 : (w1.setCell ⟨w.heap.size, 0, none⟩ (.slice o2 m cap2)).cell? ⟨w.heap.size, 0, none⟩ = some (.slice o2 m cap2) := by rw [cell_of_row _ _ _ _ _ _ hsame]; rfl
    clear hoth hsame hgA hgB hB1 b1 c0 c8 c9 c10 d0
    obtain ⟨W2, hW2⟩ : ∃ W2, w1.setCell ⟨w.heap.size, 0, none⟩ (.slice o2 m cap2) = W2 := ⟨_, rfl⟩
    rw [hW2] at HB2 HRW k8 k0
    have HW2 : Hid _ := hW2
    clear hW2
    go_wp2_with (first | (rw [HW2.out]; clear HW2) | (refine flist_min rfl 3 3 (.tmp 23) (.tmp 25) rfl rfl rfl hmin ?_))
    refine wp_region_held (S := CS w.heap.size (.slice o2 m cap2)) (by kernel_rfl) ?_
    change wpAnyH _ _ _ _ _ _ _ _ (World.drew _)
    have HSW : Hid (CS w.heap.size (.slice o2 m cap2) W2.drew) := ⟨k0, trivial⟩
    clear k0 k8 e0 z0
    refine wpAnyH_take (i := 0) (v := ?_) rfl (by kernel_rfl) (by kernel_rfl) (by kernel_rfl) (fun _ _ _ h => h) (Or.inl ⟨by kernel_rfl, ?_⟩) HSW.out ?_
    rotate_left
    · intro w hS
      obtain ⟨e0, e1⟩ := hS
      go_simp
      try with_reducible rfl
    conv in (Act.put _ _ _) => simp only [List.getElem_toArray, List.getElem_cons_succ, List.getElem_cons_zero, Act.put, List.setIfInBounds_toArray, List.set_cons_succ, List.set_cons_zero]
    refine wpAnyH_take (i := 1) (v := ?_) rfl (by kernel_rfl) (by kernel_rfl) (by kernel_rfl) (fun _ _ _ h => h) (Or.inl ⟨by kernel_rfl, ?_⟩) HSW.out ?_
    rotate_left
    · intro w hS
      obtain ⟨e0, e1⟩ := hS
      go_simp
      try with_reducible rfl
    conv in (Act.put _ _ _) => simp only [List.getElem_toArray, List.getElem_cons_succ, List.getElem_cons_zero, Act.put, List.setIfInBounds_toArray, List.set_cons_succ, List.set_cons_zero]
    refine wpAnyH_take (i := 2) (v := ?_) rfl (by kernel_rfl) (by kernel_rfl) (by kernel_rfl) (fun _ _ _ h => h) (Or.inl ⟨by kernel_rfl, ?_⟩) HSW.out ?_
    rotate_left
    · intro w hS
      obtain ⟨e0, e1⟩ := hS
      go_simp
      try with_reducible rfl
    conv in (Act.put _ _ _) => simp only [List.getElem_toArray, List.getElem_cons_succ, List.getElem_cons_zero, Act.put, List.setIfInBounds_toArray, List.set_cons_succ, List.set_cons_zero]
    refine wpAnyH_take (i := 4) (v := ?_) rfl (by kernel_rfl) (by kernel_rfl) (by kernel_rfl) (fun _ _ _ h => h) (Or.inl ⟨by kernel_rfl, ?_⟩) HSW.out ?_
    rotate_left
    · intro w hS
      obtain ⟨e0, e1⟩ := hS
      go_simp
      try with_reducible rfl
    conv in (Act.put _ _ _) => simp only [List.getElem_toArray, List.getElem_cons_succ, List.getElem_cons_zero, Act.put, List.setIfInBounds_toArray, List.set_cons_succ, List.set_cons_zero]
    refine wpAnyH_take (i := 5) (v := ?_) rfl (by kernel_rfl) (by kernel_rfl) (by kernel_rfl) (fun _ _ _ h => h) (Or.inl ⟨by kernel_rfl, ?_⟩) HSW.out ?_
    rotate_left
    · intro w hS
      obtain ⟨e0, e1⟩ := hS
      go_simp
      try with_reducible rfl
    conv in (Act.put _ _ _) => simp only [List.getElem_toArray, List.getElem_cons_succ, List.getElem_cons_zero, Act.put, List.setIfInBounds_toArray, List.set_cons_succ, List.set_cons_zero]
    refine wpAnyH_take (i := 6) (v := ?_) rfl (by kernel_rfl) (by kernel_rfl) (by kernel_rfl) (fun _ _ _ h => h) (Or.inl ⟨by kernel_rfl, ?_⟩) HSW.out ?_
    rotate_left
    · intro w hS
      obtain ⟨e0, e1⟩ := hS
      go_simp
      try with_reducible rfl
    conv in (Act.put _ _ _) => simp only [List.getElem_toArray, List.getElem_cons_succ, List.getElem_cons_zero, Act.put, List.setIfInBounds_toArray, List.set_cons_succ, List.set_cons_zero]
    refine wpAnyH_take (i := 7) (v := ?_) rfl (by kernel_rfl) (by kernel_rfl) (by kernel_rfl) (fun _ _ _ h => h) (Or.inl ⟨by kernel_rfl, ?_⟩) HSW.out ?_
    rotate_left
    · intro w hS
      obtain ⟨e0, e1⟩ := hS
      go_simp
      try with_reducible rfl
    conv in (Act.put _ _ _) => simp only [List.getElem_toArray, List.getElem_cons_succ, List.getElem_cons_zero, Act.put, List.setIfInBounds_toArray, List.set_cons_succ, List.set_cons_zero]
    refine readyH 3 _ (by kernel_rfl) rfl (by kernel_rfl) (fun K hK => ?_)
    go_simp
    refine (HCL.out W2.drew).mono ?_
    rintro e w9 ⟨rfl, hw9⟩
    have hw9' := hw9.symm
    clear hw9
    subst hw9'
    refine hK _ _ HSW.out ?_
    clear hK K
    refine wpAnyH_take (i := 8) (v := ?_) rfl (by kernel_rfl) (by kernel_rfl) (by kernel_rfl) (fun _ _ _ h => h) (Or.inl ⟨by kernel_rfl, ?_⟩) HSW.out ?_
    rotate_left
    · intro w hS
      obtain ⟨e0, e1⟩ := hS
      go_simp
      try with_reducible rfl
    conv in (Act.put _ _ _) => simp only [List.getElem_toArray, List.getElem_cons_succ, List.getElem_cons_zero, Act.put, List.setIfInBounds_toArray, List.set_cons_succ, List.set_cons_zero]
    refine wpAnyH_take (i := 9) (v := ?_) rfl (by kernel_rfl) (by kernel_rfl) (by kernel_rfl) (fun _ _ _ h => h) (Or.inl ⟨by kernel_rfl, ?_⟩) HSW.out ?_
    rotate_left
    · intro w hS
      obtain ⟨e0, e1⟩ := hS
      go_simp
      try with_reducible rfl
    conv in (Act.put _ _ _) => simp only [List.getElem_toArray, List.getElem_cons_succ, List.getElem_cons_zero, Act.put, List.setIfInBounds_toArray, List.set_cons_succ, List.set_cons_zero]
    refine wpAnyH_done (by kernel_rfl) ?_ _
    have HE : Hid (RowsAt W2.drew o2 n ((l.drop f).take K) ∧ Below w.heap.size w W2.drew) := ⟨RowsAt.below HRW.out (Below.refl _ _).drew (Nat.le_refl _), HB2.out.drew⟩
    go_wp2_with fail
    go_ret2
    refine ⟨o2, ?_, HRX.out, HE.out.2⟩
    rw [← HM.out]
    rfl
  · have hrest : rest ⟨k, a, b, c, d, x, y, sq, (K : Int), af, fr⟩ l = l := by unfold rest; rw [if_neg hf]
    rw [hrest]
    obtain ⟨n, hn⟩ : ∃ n, (l.take K).length = n := ⟨_, rfl⟩
    have hn2 : n = min K l.length := by rw [← hn, List.length_take]
    rw [hn]
    have hle := hr0.1
    have hmin : (if (l.length : Int) < (K : Int) then (l.length : Int) else (K : Int)) = (n : Int) := by split <;> omega
    have hrun := fun w => run_headW o l.length cap n w (by omega) hr0.2.2.1
    have HCL : Hid _ := fun w => fclip_any o n cap (by omega) w
    have HRX : Hid (∀ W, RowsAt W o cap l → RowsAt W o n (l.take K)) := fun W hW => by
      have := rows_take hW K
      rw [hn] at this
      exact this
    have HRT : Hid (RowsAt W0 o n (l.take K)) := by
      have := rows_take hr0 K
      rw [hn] at this
      exact this
    have HM : Hid (decide (n < l.length) = decide (K < l.length)) := by
      refine (?_ : decide (n < l.length) = decide (K < l.length))
      congr 1
      exact propext (by omega)
    have HSW : Hid (CS w.heap.size (.slice o l.length cap) W0.drew) := ⟨d0, trivial⟩
    clear hrest hn hn2 hle hr hr0 hri
    cases fr
    · go_enter Try.func28, Try.ntmps28
      go_wp2_with (first | (rw [HW0.out]; clear HW0) | (refine flist_min rfl 3 3 (.tmp 23) (.tmp 25) rfl rfl rfl hmin ?_))
      refine wp_region_held (S := CS w.heap.size (.slice o l.length cap)) (by kernel_rfl) ?_
      change wpAnyH _ _ _ _ _ _ _ _ (World.drew _)
      clear d0 c0 c8 c9 c10
      refine wpAnyH_take (i := 0) (v := ?_) rfl (by kernel_rfl) (by kernel_rfl) (by kernel_rfl) (fun _ _ _ h => h) (Or.inl ⟨by kernel_rfl, ?_⟩) HSW.out ?_
      rotate_left
      · intro w hS
        obtain ⟨e0, e1⟩ := hS
        go_simp
        try with_reducible rfl
      conv in (Act.put _ _ _) => simp only [List.getElem_toArray, List.getElem_cons_succ, List.getElem_cons_zero, Act.put, List.setIfInBounds_toArray, List.set_cons_succ, List.set_cons_zero]
      refine wpAnyH_take (i := 1) (v := ?_) rfl (by kernel_rfl) (by kernel_rfl) (by kernel_rfl) (fun _ _ _ h => h) (Or.inl ⟨by kernel_rfl, ?_⟩) HSW.out ?_
      rotate_left
      · intro w hS
        obtain ⟨e0, e1⟩ := hS
        go_simp
        try with_reducible rfl
      conv in (Act.put _ _ _) => simp only [List.getElem_toArray, List.getElem_cons_succ, List.getElem_cons_zero, Act.put, List.setIfInBounds_toArray, List.set_cons_succ, List.set_cons_zero]
      refine wpAnyH_take (i := 2) (v := ?_) rfl (by kernel_rfl) (by kernel_rfl) (by kernel_rfl) (fun _ _ _ h => h) (Or.inl ⟨by kernel_rfl, ?_⟩) HSW.out ?_
      rotate_left
      · intro w hS
        obtain ⟨e0, e1⟩ := hS
        go_simp
        try with_reducible rfl
      conv in (Act.put _ _ _) => simp only [List.getElem_toArray, List.getElem_cons_succ, List.getElem_cons_zero, Act.put, List.setIfInBounds_toArray, List.set_cons_succ, List.set_cons_zero]
      refine wpAnyH_take (i := 4) (v := ?_) rfl (by kernel_rfl) (by kernel_rfl) (by kernel_rfl) (fun _ _ _ h => h) (Or.inl ⟨by kernel_rfl, ?_⟩) HSW.out ?_
      rotate_left
      · intro w hS
        obtain ⟨e0, e1⟩ := hS
        go_simp
        try with_reducible rfl
      conv in (Act.put _ _ _) => simp only [List.getElem_toArray, List.getElem_cons_succ, List.getElem_cons_zero, Act.put, List.setIfInBounds_toArray, List.set_cons_succ, List.set_cons_zero]
      refine wpAnyH_take (i := 5) (v := ?_) rfl (by kernel_rfl) (by kernel_rfl) (by kernel_rfl) (fun _ _ _ h => h) (Or.inl ⟨by kernel_rfl, ?_⟩) HSW.out ?_
      rotate_left
      · intro w hS
        obtain ⟨e0, e1⟩ := hS
        go_simp
        try with_reducible rfl
      conv in (Act.put _ _ _) => simp only [List.getElem_toArray, List.getElem_cons_succ, List.getElem_cons_zero, Act.put, List.setIfInBounds_toArray, List.set_cons_succ, List.set_cons_zero]
      refine wpAnyH_take (i := 6) (v := ?_) rfl (by kernel_rfl) (by kernel_rfl) (by kernel_rfl) (fun _ _ _ h => h) (Or.inl ⟨by kernel_rfl, ?_⟩) HSW.out ?_
      rotate_left
      · intro w hS
        obtain ⟨e0, e1⟩ := hS
        go_simp
        try with_reducible rfl
      conv in (Act.put _ _ _) => simp only [List.getElem_toArray, List.getElem_cons_succ, List.getElem_cons_zero, Act.put, List.setIfInBounds_toArray, List.set_cons_succ, List.set_cons_zero]
      refine wpAnyH_take (i := 7) (v := ?_) rfl (by kernel_rfl) (by kernel_rfl) (by kernel_rfl) (fun _ _ _ h => h) (Or.inl ⟨by kernel_rfl, ?_⟩) HSW.out ?_
      rotate_left
      · intro w hS
        obtain ⟨e0, e1⟩ := hS
        go_simp
        try with_reducible rfl
      conv in (Act.put _ _ _) => simp only [List.getElem_toArray, List.getElem_cons_succ, List.getElem_cons_zero, Act.put, List.setIfInBounds_toArray, List.set_cons_succ, List.set_cons_zero]
      refine readyH 3 _ (by kernel_rfl) rfl (by kernel_rfl) (fun K hK => ?_)
      go_simp
      refine (HCL.out W0.drew).mono ?_
      rintro e w9 ⟨rfl, hw9⟩
      have hw9' := hw9.symm
      clear hw9
      subst hw9'
      refine hK _ _ HSW.out ?_
      clear hK K
      refine wpAnyH_take (i := 8) (v := ?_) rfl (by kernel_rfl) (by kernel_rfl) (by kernel_rfl) (fun _ _ _ h => h) (Or.inl ⟨by kernel_rfl, ?_⟩) HSW.out ?_
      rotate_left
      · intro w hS
        obtain ⟨e0, e1⟩ := hS
        go_simp
        try with_reducible rfl
      conv in (Act.put _ _ _) => simp only [List.getElem_toArray, List.getElem_cons_succ, List.getElem_cons_zero, Act.put, List.setIfInBounds_toArray, List.set_cons_succ, List.set_cons_zero]
      refine wpAnyH_take (i := 9) (v := ?_) rfl (by kernel_rfl) (by kernel_rfl) (by kernel_rfl) (fun _ _ _ h => h) (Or.inl ⟨by kernel_rfl, ?_⟩) HSW.out ?_
      rotate_left
      · intro w hS
        obtain ⟨e0, e1⟩ := hS
        go_simp
        try with_reducible rfl
      conv in (Act.put _ _ _) => simp only [List.getElem_toArray, List.getElem_cons_succ, List.getElem_cons_zero, Act.put, List.setIfInBounds_toArray, List.set_cons_succ, List.set_cons_zero]
      refine wpAnyH_done (by kernel_rfl) ?_ _
      have HE : Hid (RowsAt W0.drew o n (l.take K) ∧ Below w.heap.size w W0.drew) := ⟨RowsAt.below HRT.out (Below.refl _ _).drew (Nat.le_refl _), HB0.out.drew⟩
      go_wp2_with fail
      go_ret2
      refine ⟨o, ?_, HRX.out, HE.out.2⟩
      rw [← HM.out]
      rfl
    · obtain rfl : k = 3 := by
        by_cases h : k = 3
        · exact h
        · exact absurd ⟨rfl, h⟩ hf
      go_enter Try.func28, Try.ntmps28
      go_wp2_with (first | (rw [HW0.out]; clear HW0) | (refine flist_min rfl 3 3 (.tmp 23) (.tmp 25) rfl rfl rfl hmin ?_))
      refine wp_region_held (S := CS w.heap.size (.slice o l.length cap)) (by kernel_rfl) ?_
      change wpAnyH _ _ _ _ _ _ _ _ (World.drew _)
      clear d0 c0 c8 c9 c10
      refine wpAnyH_take (i := 0) (v := ?_) rfl (by kernel_rfl) (by kernel_rfl) (by kernel_rfl) (fun _ _ _ h => h) (Or.inl ⟨by kernel_rfl, ?_⟩) HSW.out ?_
      rotate_left
      · intro w hS
        obtain ⟨e0, e1⟩ := hS
        go_simp
        try with_reducible rfl
      conv in (Act.put _ _ _) => simp only [List.getElem_toArray, List.getElem_cons_succ, List.getElem_cons_zero, Act.put, List.setIfInBounds_toArray, List.set_cons_succ, List.set_cons_zero]
      refine wpAnyH_take (i := 1) (v := ?_) rfl (by kernel_rfl) (by kernel_rfl) (by kernel_rfl) (fun _ _ _ h => h) (Or.inl ⟨by kernel_rfl, ?_⟩) HSW.out ?_
      rotate_left
      · intro w hS
        obtain ⟨e0, e1⟩ := hS
        go_simp
        try with_reducible rfl
      conv in (Act.put _ _ _) => simp only [List.getElem_toArray, List.getElem_cons_succ, List.getElem_cons_zero, Act.put, List.setIfInBounds_toArray, List.set_cons_succ, List.set_cons_zero]
      refine wpAnyH_take (i := 2) (v := ?_) rfl (by kernel_rfl) (by kernel_rfl) (by kernel_rfl) (fun _ _ _ h => h) (Or.inl ⟨by kernel_rfl, ?_⟩) HSW.out ?_
      rotate_left
      · intro w hS
        obtain ⟨e0, e1⟩ := hS
        go_simp
        try with_reducible rfl
      conv in (Act.put _ _ _) => simp only [List.getElem_toArray, List.getElem_cons_succ, List.getElem_cons_zero, Act.put, List.setIfInBounds_toArray, List.set_cons_succ, List.set_cons_zero]
      refine wpAnyH_take (i := 4) (v := ?_) rfl (by kernel_rfl) (by kernel_rfl) (by kernel_rfl) (fun _ _ _ h => h) (Or.inl ⟨by kernel_rfl, ?_⟩) HSW.out ?_
      rotate_left
      · intro w hS
        obtain ⟨e0, e1⟩ := hS
        go_simp
        try with_reducible rfl
      conv in (Act.put _ _ _) => simp only [List.getElem_toArray, List.getElem_cons_succ, List.getElem_cons_zero, Act.put, List.setIfInBounds_toArray, List.set_cons_succ, List.set_cons_zero]
      refine wpAnyH_take (i := 5) (v := ?_) rfl (by kernel_rfl) (by kernel_rfl) (by kernel_rfl) (fun _ _ _ h => h) (Or.inl ⟨by kernel_rfl, ?_⟩) HSW.out ?_
      rotate_left
      · intro w hS
        obtain ⟨e0, e1⟩ := hS
        go_simp
        try with_reducible rfl
      conv in (Act.put _ _ _) => simp only [List.getElem_toArray, List.getElem_cons_succ, List.getElem_cons_zero, Act.put, List.setIfInBounds_toArray, List.set_cons_succ, List.set_cons_zero]
      refine wpAnyH_take (i := 6) (v := ?_) rfl (by kernel_rfl) (by kernel_rfl) (by kernel_rfl) (fun _ _ _ h => h) (Or.inl ⟨by kernel_rfl, ?_⟩) HSW.out ?_
      rotate_left
      · intro w hS
        obtain ⟨e0, e1⟩ := hS
        go_simp
        try with_reducible rfl
      conv in (Act.put _ _ _) => simp only [List.getElem_toArray, List.getElem_cons_succ, List.getElem_cons_zero, Act.put, List.setIfInBounds_toArray, List.set_cons_succ, List.set_cons_zero]
      refine wpAnyH_take (i := 7) (v := ?_) rfl (by kernel_rfl) (by kernel_rfl) (by kernel_rfl) (fun _ _ _ h => h) (Or.inl ⟨by kernel_rfl, ?_⟩) HSW.out ?_
      rotate_left
      · intro w hS
        obtain ⟨e0, e1⟩ := hS
        go_simp
        try with_reducible rfl
      conv in (Act.put _ _ _) => simp only [List.getElem_toArray, List.getElem_cons_succ, List.getElem_cons_zero, Act.put, List.setIfInBounds_toArray, List.set_cons_succ, List.set_cons_zero]
      refine readyH 3 _ (by kernel_rfl) rfl (by kernel_rfl) (fun K hK => ?_)
      go_simp
      refine (HCL.out W0.drew).mono ?_
      rintro e w9 ⟨rfl, hw9⟩
      have hw9' := hw9.symm
      clear hw9
      subst hw9'
      refine hK _ _ HSW.out ?_
      clear hK K
      refine wpAnyH_take (i := 8) (v := ?_) rfl (by kernel_rfl) (by kernel_rfl) (by kernel_rfl) (fun _ _ _ h => h) (Or.inl ⟨by kernel_rfl, ?_⟩) HSW.out ?_
      rotate_left
      · intro w hS
        obtain ⟨e0, e1⟩ := hS
        go_simp
        try with_reducible rfl
      conv in (Act.put _ _ _) => simp only [List.getElem_toArray, List.getElem_cons_succ, List.getElem_cons_zero, Act.put, List.setIfInBounds_toArray, List.set_cons_succ, List.set_cons_zero]
      refine wpAnyH_take (i := 9) (v := ?_) rfl (by kernel_rfl) (by kernel_rfl) (by kernel_rfl) (fun _ _ _ h => h) (Or.inl ⟨by kernel_rfl, ?_⟩) HSW.out ?_
      rotate_left
      · intro w hS
        obtain ⟨e0, e1⟩ := hS
        go_simp
        try with_reducible rfl
      conv in (Act.put _ _ _) => simp only [List.getElem_toArray, List.getElem_cons_succ, List.getElem_cons_zero, Act.put, List.setIfInBounds_toArray, List.set_cons_succ, List.set_cons_zero]
      refine wpAnyH_done (by kernel_rfl) ?_ _
      have HE : Hid (RowsAt W0.drew o n (l.take K) ∧ Below w.heap.size w W0.drew) := ⟨RowsAt.below HRT.out (Below.refl _ _).drew (Nat.le_refl _), HB0.out.drew⟩
      go_wp2_with fail
      go_ret2
      refine ⟨o, ?_, HRX.out, HE.out.2⟩
      rw [← HM.out]
      rfl
end Go.Proofs.Ytimdlohdmddnjaa.Rf
