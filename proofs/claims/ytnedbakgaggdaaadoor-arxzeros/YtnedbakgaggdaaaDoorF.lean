import Derived.Test.YtnedbakgaggdaaaDoorE
import Derived.WalkMore
namespace Go.Proofs.YtnedbakgaggdaaaDoor
open Go.RowKit Go.Shelf
attribute [local go_sem] Oper.semAt_some
/-- A whole array out of a variable, inside a fence. -/
theorem wpListIn_load_row {F : Fence} {n : Nat} {P : Program} {ops : Array Oper} {rest : List Oper} {o : Oper} {a : Act} {w : World} {Q : Exit → Act → World → Prop} (hgd : o.guard = none) (ty : TypeId) (x : Operand) (ho : o.op = .load ty x)
    (g : Nat) (hx : a.eval x = .pointer (some ⟨g, 0, none⟩)) (t : TypeId) (cs : Array Value) (fr : Nat × Nat) (d : TypeDesc) (hg : w.heap[g]? = some (.cells cs t fr))
    (hu : P.underlying ty = some d) (hd : (match d with | .struct _ | .array _ _ => true | _ => false) = true) (hi : (P.info? ty).map (·.size) = some cs.size)
    (h : wpListIn F n P ops Q rest (a.put o.dst (.agg cs)) w) : wpListIn F n P ops Q (o :: rest) a w := by
  refine wpListIn_plain hgd fun K hK' => ?_
  unfold Oper.wpIn
  refine ⟨?_, ?_⟩
  · simp [Oper.about, ho]
  · rw [Oper.semAt_plain F _ _ (by rw [ho]; intro c hc'; cases hc')]
    unfold execOp
    simp only [ho, hx, Instr.loadAt, Instr.sureAddr, Sem.run_bind, Sem.run_pure, Result.andThen_ok, run_loadVar_row w g t ty cs fr d hg hu hd hi]
    exact hK' _ _ h
/-- A whole array into a variable, inside a fence. -/
theorem wpListIn_store_row {F : Fence} {n : Nat} {P : Program} {ops : Array Oper} {rest : List Oper} {o : Oper} {a : Act} {w : World} {Q : Exit → Act → World → Prop} (hgd : o.guard = none) (ty : TypeId) (x y : Operand) (ho : o.op = .store ty x y)
    (g : Nat) (cells : Array Value) (hx : a.eval x = .pointer (some ⟨g, 0, none⟩)) (hy : a.eval y = .agg cells)
    (t : TypeId) (old : Array Value) (hg : w.heap[g]? = some (.cells old t (0, 0))) (hi : (P.info? ty).map (·.size) = some cells.size)
    (hold : old.size = cells.size) (h1 : cells.all (·.oneCell') = true)
    (h : wpListIn F n P ops Q rest (a.put o.dst undef) (w.setRow g cells)) : wpListIn F n P ops Q (o :: rest) a w := by
  refine wpListIn_plain hgd fun K hK' => ?_
  unfold Oper.wpIn
  refine ⟨?_, ?_⟩
  · simp [Oper.about, ho]
  · rw [Oper.semAt_plain F _ _ (by rw [ho]; intro c hc'; cases hc')]
    unfold execOp
    simp only [ho, hx, hy, Instr.storeAt, Instr.sureAddr, Sem.run_bind, Sem.run_pure, Result.andThen_ok, run_storeVar_row w g t ty old cells hg hi hold h1]
    exact hK' _ _ h
/-- The words of texts in a block below n₀, one behind the other. -/
theorem words_stops (n : Nat) (hn : 1 ≤ n) (Bs n₀ b len cap : Nat) (ts : Nat → ByteArray) (hlen : len ≤ 1000) (hts : ∀ j, j < len → (ts j).size ≤ maxLen) (hb : b < n₀) (w : World) (hBs : Bs < w.heap.size) (hn₀ : n₀ ≤ w.heap.size)
    (hc : w.cell? ⟨Bs, 0, none⟩ = some (.slice (some ⟨b, 0, none⟩) len cap)) (hcs : ∀ j, j < len → w.cell? ⟨b, j, none⟩ = some (.string (ts j))) :
    SeqStopsK Fence.wide n Tryd.prog 32 #[.pointer (some ⟨Bs, 0, none⟩)] (fun x : Int => #[Value.int .u32 x]) (Below n₀) (fun ys => ys = cat (fun j => wds (ts j)) len) (fun pre => pre <+: cat (fun j => wds (ts j)) len) (cat (fun j => wds (ts j)) len).length w :=
  fun l J Jx W hW hJ _ hY h0 =>
    words1_in n hn l Bs n₀ b len cap ts hlen hts hb J Jx (fun pre W h => hJ pre W W.drew none h (gb_drew W none) (fun r e => by cases e)) hY W ((hW.cell (p := ⟨Bs, 0, none⟩) hBs).trans hc)
      (fun j hj => (hW.cell (p := ⟨b, j, none⟩) (by show b < _; omega)).trans (hcs j hj)) h0
theorem blk_kept {W W' : World} {row : Option Nat} {k : Nat} {o : Obj} (h : W.heap[k]? = some o) (ho : o.isCells = true) (hg : W.grownBy W' row) (hr : ∀ r, row = some r → ∃ o : Obj, W.heap[r]? = some o ∧ o.isCells = false) : W'.heap[k]? = some o := by
  rw [hg.block k (Array.getElem?_eq_some_iff.1 h).1 (fun e => by
    obtain ⟨o', h1, h2⟩ := hr k e.symm
    rw [h] at h1; cases h1; rw [ho] at h2; cases h2)]
  exact h
theorem four_new (w : World) (a b c d : Obj) : let W := (((w.alloc a).alloc b).alloc c).alloc d
    W.heap[w.heap.size]? = some a ∧ W.heap[w.heap.size + 1]? = some b ∧ W.heap[w.heap.size + 1 + 1]? = some c ∧ W.heap[w.heap.size + 1 + 1 + 1]? = some d ∧ W.heap.size = w.heap.size + 4 ∧ Below w.heap.size w W := by
  have h3 := three_new w a b c
  have hs : (((w.alloc a).alloc b).alloc c).heap.size = w.heap.size + 3 := by simp
  refine ⟨(Below.heap_alloc _ _ _ (by omega)).trans h3.1, (Below.heap_alloc _ _ _ (by omega)).trans h3.2.1, (Below.heap_alloc _ _ _ (by omega)).trans h3.2.2.1, ?_, by simp, ?_⟩
  · have := heap_alloc_new (((w.alloc a).alloc b).alloc c) d
    rw [hs] at this
    exact this
  · exact ((((Below.refl _ w).alloc (Nat.le_refl _) _).alloc (by simp) _).alloc (by simp; omega) _).alloc (by simp; omega) _
set_option maxRecDepth 100000 in
set_option maxHeartbeats 2000000 in
theorem fill_any (b len cap : Nat) (ts : Nat → ByteArray) (hlen : len ≤ 1000) (hts : ∀ j, j < len → (ts j).size ≤ maxLen) (h16 : (cat (fun j => wds (ts j)) len).length = 16) (w : World) (hb : b < w.heap.size) (hcs : ∀ j, j < len → w.cell? ⟨b, j, none⟩ = some (.string (ts j))) :
    CallsIn Fence.wide 5 Tryd.prog 27 #[.slice (some ⟨b, 0, none⟩) len cap] w fun e W' => e = .returned (.agg (stc (lf (cat (fun j => wds (ts j)) len)))) ∧ Below w.heap.size w W' := by
  refine callsIn_of_wp_marks Tryd.func27 rfl trivial ?_ rfl
  simp only [Tryd.ntmps27, List.size_toArray, List.length_cons, List.length_nil, Nat.reduceAdd, Nat.reduceSub, Array.replicate_succ, Array.replicate_zero, List.push_toArray, List.append_toArray, List.nil_append, List.cons_append]
  gi_wp2
  refine (wpIn_wide (n := 5)).2 (wp_scope_straight ((wpIn_wide (n := 5)).1 ?_))
  gi_wp2
  refine wpIn_label ?_
  gi_wp2_with (refine ⟨trivial, ?_⟩; gi_at_call 31; refine (words_in _ _ _ _ _).mono ?_; rintro e w' ⟨rfl, rfl⟩)
  have zz : (#[.int .u32 0, .int .u32 0, .int .u32 0, .int .u32 0, .int .u32 0, .int .u32 0, .int .u32 0, .int .u32 0, .int .u32 0, .int .u32 0, .int .u32 0, .int .u32 0, .int .u32 0, .int .u32 0, .int .u32 0, .int .u32 0] : Array Value) = stc (lf []) := rfl
  rw [zz]
  obtain ⟨W0, hW0⟩ : ∃ W0, (((w.alloc (.cells (stc (lf [])) 41)).alloc (.cells (stc (lf [])) 41)).alloc (.cells #[.int .i64 0] 3)).alloc (.cells #[.slice (some ⟨b, 0, none⟩) len cap] 55) = W0 := ⟨_, rfl⟩
  have f4 := four_new w (.cells (stc (lf [])) 41) (.cells (stc (lf [])) 41) (.cells #[.int .i64 0] 3) (.cells #[.slice (some ⟨b, 0, none⟩) len cap] 55)
  rw [hW0] at f4 ⊢
  clear hW0 zz
  obtain ⟨b0, b1, b2, b3, hsz, hB0⟩ := f4
  have hc3 : W0.cell? ⟨w.heap.size + 1 + 1 + 1, 0, none⟩ = some (.slice (some ⟨b, 0, none⟩) len cap) := by rw [cell_of_row _ _ _ _ _ _ b3]; rfl
  have hcs0 : ∀ j, j < len → W0.cell? ⟨b, j, none⟩ = some (.string (ts j)) := fun j hj => (hB0.cell (p := ⟨b, j, none⟩) hb).trans (hcs j hj)
  refine wpIn_rangeFunc_ownF rfl (by omega) (gf := 32) (lb := #[.pointer (some ⟨w.heap.size + 1 + 1 + 1, 0, none⟩)]) rfl trivial (enters_of Tryd.func32 (by kernel_rfl) rfl)
    (words_stops 4 (by omega) (w.heap.size + 1 + 1 + 1) w.heap.size b len cap ts hlen hts hb W0 (by omega) (by omega) hc3 hcs0) belowK_t (belowK_b (by omega)) (Below.refl _ _) (fun _ => rfl)
    (fun pre W => (pre.length < 16 ∧ W.heap[w.heap.size]? = some (.cells (stc (lf [])) 41 (0, 0)) ∧ W.heap[w.heap.size + 1]? = some (.cells (stc (lf pre)) 41 (0, 0)) ∧ W.heap[w.heap.size + 1 + 1]? = some (.cells #[.int .i64 (pre.length : Int)] 3 (0, 0))) ∧ Below w.heap.size w W)
    (fun c pre W => (c = .exit 0 ∧ pre.length = 16 ∧ W.heap[w.heap.size]? = some (.cells (stc (lf [])) 41 (0, 0)) ∧ W.heap[w.heap.size + 1]? = some (.cells (stc (lf pre)) 41 (0, 0))) ∧ Below w.heap.size w W)
    (OwnFrom.and (Own.from (fun s A B row hs hg hr => ⟨hs.1, blk_kept hs.2.1 rfl hg hr, blk_kept hs.2.2.1 rfl hg hr, blk_kept hs.2.2.2 rfl hg hr⟩) _) (ownFrom_below (Nat.le_refl _) (by omega)))
    (fun c => OwnFrom.and (Own.from (fun s A B row hs hg hr => ⟨hs.1, hs.2.1, blk_kept hs.2.2.1 rfl hg hr, blk_kept hs.2.2.2 rfl hg hr⟩) _) (ownFrom_below (Nat.le_refl _) (by omega)))
    ⟨⟨by simp, b0, b1, b2⟩, hB0⟩
    (fun x => { tmps := #[.slice (some ⟨b, 0, none⟩) len cap, undef, .pointer (some ⟨w.heap.size, 0, none⟩), .pointer (some ⟨w.heap.size + 1, 0, none⟩), .pointer (some ⟨w.heap.size + 1 + 1, 0, none⟩), .int .u32 x, .slice (some ⟨b, 0, none⟩) len cap, .func (.func 32) #[] #[.pointer (some ⟨w.heap.size + 1 + 1 + 1, 0, none⟩)], .int .u32 x, undef, undef, undef, undef, undef, undef, undef, undef], defers := [] }) ?assign ?body ?done ?stop
  case assign =>
    intro l x W K hK
    gi_wp2
    exact hK
  case body =>
    rintro l pre x W ⟨⟨hlt, h0, h1, h2⟩, hB⟩ _
    have g0 : (0 : Int) ≤ (pre.length : Int) := by omega
    have g1 : (pre.length : Int) < 16 := by omega
    have c2 : W.cell? ⟨w.heap.size + 1 + 1, 0, none⟩ = some (.int .i64 (pre.length : Int)) := by rw [cell_of_row _ _ _ _ _ _ h2]; rfl
    have z2 := frozen_of_row W _ 0 _ _ h2
    have c1 : W.cell? ⟨w.heap.size + 1, pre.length, none⟩ = some (.int .u32 (lf pre pre.length)) := by rw [cell_of_row _ _ _ _ _ _ h1]; exact stc_get _ _ hlt
    have z1 := frozen_of_row W (w.heap.size + 1) pre.length _ _ h1
    have H0 : Hid _ := h0
    have H1 : Hid _ := h1
    have H2 : Hid _ := h2
    have HB : Hid _ := hB
    have HC : Hid _ := hcs
    clear h0 h1 h2 hB b0 b1 b2 b3 hB0 hc3 hcs0 hts hcs h16 hsz
    have hs1 : ∀ v : Int, ((W.setCell ⟨w.heap.size + 1, pre.length, none⟩ (.int .u32 x)).setCell ⟨w.heap.size + 1 + 1, 0, none⟩ (.int .i64 v)).heap[w.heap.size]? = some (.cells (stc (lf [])) 41 (0, 0)) ∧
        ((W.setCell ⟨w.heap.size + 1, pre.length, none⟩ (.int .u32 x)).setCell ⟨w.heap.size + 1 + 1, 0, none⟩ (.int .i64 v)).heap[w.heap.size + 1]? = some (.cells (stc (lf (pre ++ [x]))) 41 (0, 0)) ∧
        ((W.setCell ⟨w.heap.size + 1, pre.length, none⟩ (.int .u32 x)).setCell ⟨w.heap.size + 1 + 1, 0, none⟩ (.int .i64 v)).heap[w.heap.size + 1 + 1]? = some (.cells #[.int .i64 v] 3 (0, 0)) := fun v => by
      refine ⟨?_, ?_, ?_⟩
      · rw [Below.heap_setCell _ _ _ _ (by simp; omega), Below.heap_setCell _ _ _ _ (by simp)]; exact H0.out
      · rw [Below.heap_setCell _ _ _ _ (by simp), lf_snoc]; exact set_row _ _ _ _ _ H1.out hlt
      · have e : (W.setCell ⟨w.heap.size + 1, pre.length, none⟩ (.int .u32 x)).heap[w.heap.size + 1 + 1]? = some (.cells #[.int .i64 (pre.length : Int)] 3 (0, 0)) := by rw [Below.heap_setCell _ _ _ _ (by simp)]; exact H2.out
        rw [heap_setCell_same _ _ _ _ _ _ e]; rfl
    have HS1 : Hid _ := hs1
    clear hs1
    by_cases h16 : pre.length + 1 = 16
    · have hq : (((pre.length : Int) + 1) == 16) = true := by simp; omega
      gi_wp2
      exact ⟨(KeepsOthers.setCell _ _ _).trans (KeepsOthers.setCell _ _ _), ⟨rfl, by simp; omega, (HS1.out _).1, (HS1.out _).2.1⟩, (HB.out.setCell (by simp) _).setCell (by simp; omega) _⟩
    · have hq : (((pre.length : Int) + 1) == 16) = false := by simp; omega
      gi_wp2
      exact ⟨(KeepsOthers.setCell _ _ _).trans (KeepsOthers.setCell _ _ _), ((Below.refl _ _).setCell (by simp) _).setCell (by simp; omega) _, ⟨by simp; omega, (HS1.out _).1, (HS1.out _).2.1, by simpa using (HS1.out _).2.2⟩, (HB.out.setCell (by simp) _).setCell (by simp; omega) _⟩
  case done =>
    rintro D ys W hD rfl ⟨⟨hlt, _⟩, _⟩ hK
    omega
  case stop =>
    rintro D c pre W hD hpre ⟨⟨rfl, hp16, h0, h1⟩, hB⟩ hK
    obtain rfl : pre = cat (fun j => wds (ts j)) len := hpre.eq_of_length (by omega)
    have H0 : Hid _ := h0
    have H1 : Hid _ := h1
    have HB : Hid _ := hB
    have HK : Hid _ := hK
    have HD : Hid _ := hD
    clear b0 b1 b2 b3 hB0 hc3 hcs0 hts hcs h16 hp16 hpre h0 h1 hB hK hD
    gi_wp2_with (first | (refine wpListIn_load_row rfl 41 _ rfl (w.heap.size + 1) rfl 41 _ (0, 0) _ H1.out Tryd.underlying41 rfl (by rw [stc_size]; kernel_rfl) ?_) | (refine wpListIn_store_row rfl 41 _ _ rfl w.heap.size _ rfl rfl 41 _ H0.out (by rw [stc_size]; kernel_rfl) (by rw [stc_size, stc_size]) (stc_one _) ?_))
    have hD := HD.out
    have hne : D ≠ w.heap.size := by omega
    have hK' : (W.setRow w.heap.size (stc (lf (cat (fun j => wds (ts j)) len)))).heap[D]? = some (.deferred (some [])) := (setRow_other _ _ _ _ hne).trans HK.out
    have hR : ((W.setRow w.heap.size (stc (lf (cat (fun j => wds (ts j)) len)))).putObj D (.deferred none)).heap[w.heap.size]? = some (.cells (stc (lf (cat (fun j => wds (ts j)) len))) 41 (0, 0)) :=
      (World.putObj_heap_other hne.symm).trans (setRow_heap _ _ _ _ _ _ H0.out)
    rw [Exit.noGoto_ret]
    refine ⟨by simp, .inl ⟨_, _, rfl, run_takeDeferred hK', ?_⟩⟩
    refine ⟨_, results_cell_row Tryd.results27 _ _ w.heap.size 41 _ (0, 0) _ rfl hR Tryd.underlying41 rfl (by rw [stc_size]; kernel_rfl), rfl, ?_⟩
    exact (below_setRow HB.out (Nat.le_refl _) _).trans (belowK_b (w := w) (Nat.le_refl _) _ D _ _ (by omega) hK' rfl rfl)
end Go.Proofs.YtnedbakgaggdaaaDoor
