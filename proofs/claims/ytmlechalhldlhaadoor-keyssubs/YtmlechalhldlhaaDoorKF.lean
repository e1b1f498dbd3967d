/- The reference's newest generation; a key of one byte; the first thirty keys. -/
import Derived.Test.YtmlechalhldlhaaDoorKE
namespace Go.Proofs.YtmlechalhldlhaaDoor.Rk
open Go.RowKit
theorem info5 : (Tryd.prog.info? 5).map (fun i => (i.zero, i.size, i.bytes)) = some (some (.int .u8 0), 1, 1) := by kernel_rfl
theorem infoKey : (Tryd.prog.info? 24).map (fun i => (i.zero, i.size, i.bytes)) = some (some (.agg #[.int .u32 0, .string ⟨#[]⟩]), 2, 24) := by kernel_rfl
theorem info_parts {t : TypeId} {z : Value} {s b : Nat} (h : (Tryd.prog.info? t).map (fun i => (i.zero, i.size, i.bytes)) = some (some z, s, b)) : ∃ i, Tryd.prog.info? t = some i ∧ i.zero = some z ∧ i.size = s ∧ i.bytes = b := by
  obtain ⟨i, hi, h'⟩ := Option.map_eq_some_iff.1 h
  simp at h'
  exact ⟨i, hi, h'.1, h'.2.1, h'.2.2⟩
/-- The built-in append, by its run. -/
theorem list_append {P : Program} {ops : Array Oper} {rest : List Oper} {o : Oper} {a : Act} {w : World} {Q : Exit → Act → World → Prop} (hgd : o.guard = none) (t u : TypeId) (s x : Operand) (ho : o.op = .call { callee := .builtin .append, args := #[s, x], argTypes := #[t, u] })
    {vs vx v' : Value} {w' : World} (hs : a.eval s = vs) (hx : a.eval x = vx) (hrun : (Builtin.append_ #[t, u] o.type #[vs, vx]).run P w = .ok v' w') (h : wpList P ops Q rest (a.put o.dst v') w') : wpList P ops Q (o :: rest) a w :=
  wpList_plain hgd fun _ hK => by
    unfold Oper.wp execOp
    simp only [ho, resolve, invoke, builtin, Sem.run_bind, Sem.run_pure, Result.andThen_ok, List.map_toArray, List.map_cons, List.map_nil, hs, hx, hrun]
    exact hK _ _ h
theorem cell_one (w : World) (v : Value) (t : TypeId) : ∀ j u, [v][j]? = some u → (w.alloc (.cells #[v] t)).cell? ((⟨w.heap.size, 0, none⟩ : Addr).add j) = some u := fun j u hj => by
  match j, hj with
  | 0, hj => rw [Addr.add_lit, cell_of_row _ _ _ _ _ _ (heap_alloc_new w _)]; simpa using hj
  | j + 1, hj => simp at hj
theorem list_min {P : Program} {ops : Array Oper} {rest : List Oper} {o : Oper} {a : Act} {w : World} {Q : Exit → Act → World → Prop} (hgd : o.guard = none) (t u : TypeId) (x y : Operand) (ho : o.op = .call { callee := .builtin .min, args := #[x, y], argTypes := #[t, u] })
    {p q r : Int} (hx : a.eval x = .int .i64 p) (hy : a.eval y = .int .i64 q) (hr : (if q < p then q else p) = r) (h : wpList P ops Q rest (a.put o.dst (.int .i64 r)) w) : wpList P ops Q (o :: rest) a w :=
  wpList_plain hgd fun _ hK => by
    have hrun : (Builtin.min_ #[t, u] o.type #[.int .i64 p, .int .i64 q]).run P w = .ok (.int .i64 r) w := by subst hr; rfl
    unfold Oper.wp execOp
    simp only [ho, resolve, invoke, builtin, Sem.run_bind, Sem.run_pure, Result.andThen_ok, List.map_toArray, List.map_cons, List.map_nil, hx, hy, hrun]
    exact hK _ _ h
/-- A slice of keys cut at its end, by its run. -/
theorem run_head (o : Option Addr) (n cap r : Nat) (w : World) (hr : r ≤ cap) (ho : o = none → cap = 0) : (Instr.sliceAt 30 (.slice o n cap) none (some (.int .i64 (r : Int))) none).run Tryd.prog w = .ok (.slice o r cap) w := by
  have h1 : (r : Int) ≤ (cap : Int) := by omega
  cases o with
  | none =>
    have := ho rfl
    subst this
    obtain rfl : r = 0 := by omega
    simp [Instr.sliceAt, Instr.slice, run_underlying Tryd.underlying30, go_sem]
  | some a =>
    simp [Instr.sliceAt, Instr.slice, run_underlying Tryd.underlying30, go_sem]
    intro h
    omega
set_option maxRecDepth 100000 in
set_option maxHeartbeats 1000000 in
theorem cut_any (l : List Ky) (o : Option Addr) (cap : Nat) (w : World) (hr : Ring w o cap l) :
    Calls Tryd.prog 9 #[.slice o l.length cap] w fun e w' => e = .returned (.slice o (l.take 30).length cap) ∧ w' = w := by
  have hr1 : (if (30 : Int) < (l.length : Int) then (30 : Int) else (l.length : Int)) = ((l.take 30).length : Int) := by rw [List.length_take]; split <;> omega
  have hl : (l.take 30).length ≤ cap := by rw [List.length_take]; have := hr.1; omega
  have hh := run_head o l.length cap (l.take 30).length w hl hr.2.2.1
  generalize (l.take 30).length = r at *
  go_enter Tryd.func9, Tryd.ntmps9
  go_wp2_with (at_builtin; refine list_min rfl 3 3 (.tmp 5) _ rfl rfl rfl hr1 ?_)
  go_ret
  exact ⟨rfl, rfl⟩
end Go.Proofs.YtmlechalhldlhaaDoor.Rk
