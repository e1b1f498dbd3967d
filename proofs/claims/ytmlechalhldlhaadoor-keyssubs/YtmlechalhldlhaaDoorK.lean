/- The words that a sum begins with; a Summer of nothing. -/
import Derived.Test.YtmlechalhldlhaaDoorI
namespace Go.Proofs.YtmlechalhldlhaaDoor
open Go.RowKit Go.Lib
theorem begin_any (w : World) : Calls Tryd.prog 44 #[] w fun e w' => e = .returned (.agg (st8 (lf IV))) ∧ Below w.heap.size w w' := by
  go_enter Tryd.func44, Tryd.ntmps44
  obtain ⟨W2, hW2, r2, b2, s2⟩ := new_row w #[.int .u32 0, .int .u32 0, .int .u32 0, .int .u32 0, .int .u32 0, .int .u32 0, .int .u32 0, .int .u32 0] 75 (st8 (lf IV))
  have E2 : Hid _ := hW2
  have R2 : Hid _ := r2
  have B2 : Hid _ := b2
  clear hW2 r2 b2 s2
  go_wp2_with (refine wpList_store_row rfl 75 _ _ rfl w.heap.size (st8 (lf IV)) rfl rfl 75 _ (heap_alloc_new w _) (by kernel_rfl) rfl (st8_one _) ?_; rw [E2.out])
  refine bodyPost_ret (results_cell_row Tryd.results44 _ _ w.heap.size 75 _ (0, 0) _ rfl R2.out Tryd.underlying75 rfl (by kernel_rfl)) rfl ⟨rfl, B2.out⟩
/-- The operation build, by its run. -/
theorem list_build {P : Program} {ops : Array Oper} {rest : List Oper} {o : Oper} {a : Act} {w : World} {Q : Exit → Act → World → Prop} (hgd : o.guard = none) (t : TypeId) (i : Nat) (x : Operand) (ho : o.op = .build t #[(i, x)])
    {vx v' : Value} (hx : a.eval x = vx) (hrun : (Instr.build t #[(i, vx)]).run P w = .ok v' w) (h : wpList P ops Q rest (a.put o.dst v') w) : wpList P ops Q (o :: rest) a w :=
  wpList_plain hgd fun _ hK => by
    unfold Oper.wp execOp
    simp only [ho, Sem.run_bind, Sem.run_pure, Result.andThen_ok, List.map_toArray, List.map_cons, List.map_nil, hx, hrun]
    exact hK _ _ h
theorem list_box {P : Program} {ops : Array Oper} {rest : List Oper} {o : Oper} {a : Act} {w : World} {Q : Exit → Act → World → Prop} (hgd : o.guard = none) (t : TypeId) (x : Operand) (ho : o.op = .box t x)
    {vx v' : Value} {w' : World} (hx : a.eval x = vx) (hrun : (Instr.box t vx).run P w = .ok v' w') (h : wpList P ops Q rest (a.put o.dst v') w') : wpList P ops Q (o :: rest) a w :=
  wpList_plain hgd fun _ hK => by
    unfold Oper.wp execOp
    simp only [ho, Sem.run_bind, Sem.run_pure, Result.andThen_ok, hx, hrun]
    exact hK _ _ h
theorem run_build (f : Nat → Int) (w : World) : (Instr.build 79 #[(0, .agg (st8 f))]).run Tryd.prog w = .ok (.agg (sm f (fun _ => 0) 0)) w := by kernel_rfl
theorem run_box (f r : Nat → Int) (c : Int) (w : World) : (Instr.box 79 (.agg (sm f r c))).run Tryd.prog w = .ok (.pointer (some ⟨w.heap.size, 0, none⟩)) (w.alloc (.cells (sm f r c) 79)) := by kernel_rfl
theorem new_any (w : World) : Calls Tryd.prog 40 #[] w fun e w' => ∃ g, w.heap.size ≤ g ∧ e = .returned (.pointer (some ⟨g, 0, none⟩)) ∧ w'.heap[g]? = some (.cells (sm (lf IV) (fun _ => 0) 0) 79 (0, 0)) ∧ Below w.heap.size w w' := by
  have BA := begin_any
  generalize lf IV = f at *
  go_enter Tryd.func40, Tryd.ntmps40
  go_wp2_with fail
  refine (BA _).mono ?_
  rintro e w' ⟨rfl, hb⟩
  rename_i hK
  refine hK _ _ ?_
  refine list_build rfl 79 0 (.tmp 1) rfl (vx := .agg (st8 f)) rfl (run_build f w') ?_
  refine list_box rfl 79 (.tmp 2) rfl (vx := .agg (sm f (fun _ => 0) 0)) rfl (run_box f _ 0 w') ?_
  have F1 : Hid ((w'.alloc (.cells (sm f (fun _ => 0) 0) 79)).heap[w'.heap.size]? = some (.cells (sm f (fun _ => 0) 0) 79 (0, 0))) := heap_alloc_new w' _
  have F2 : Hid (Below w.heap.size w (w'.alloc (.cells (sm f (fun _ => 0) 0) 79))) := hb.alloc hb.size _
  have F3 : Hid (w.heap.size ≤ w'.heap.size) := hb.size
  generalize w'.alloc (.cells (sm f (fun _ => 0) 0) 79) = W at *
  generalize w'.heap.size = g at *
  clear hK
  go_wp2_with fail
  go_ret
  exact ⟨_, F3.out, rfl, F1.out, F2.out⟩
end Go.Proofs.YtmlechalhldlhaaDoor
