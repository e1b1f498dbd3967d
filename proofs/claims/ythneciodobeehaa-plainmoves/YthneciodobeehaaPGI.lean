/- The first sixty rows; a tree that is known. -/
import Derived.Test.YthneciodobeehaaPGC
namespace Go.Proofs.Ythneciodobeehaa.Rq
open Go.RowKit Go.Lib Go.Shelf
open Go.Proofs.Ythneciodobeehaa.Rc
set_option maxRecDepth 100000 in
theorem list_min {P : Program} {ops : Array Oper} {rest : List Oper} {o : Oper} {a : Act} {w : World} {Q : Exit → Act → World → Prop} (hgd : o.guard = none) (t u : TypeId) (x y : Operand) (ho : o.op = .call { callee := .builtin .min, args := #[x, y], argTypes := #[t, u] })
    {p q r : Int} (hx : a.eval x = .int .i64 p) (hy : a.eval y = .int .i64 q) (hr : (if q < p then q else p) = r) (h : wpList P ops Q rest (a.put o.dst (.int .i64 r)) w) : wpList P ops Q (o :: rest) a w :=
  wpList_plain hgd fun _ hK => by
    have hrun : (Builtin.min_ #[t, u] o.type #[.int .i64 p, .int .i64 q]).run P w = .ok (.int .i64 r) w := by subst hr; rfl
    unfold Oper.wp execOp
    simp only [ho, resolve, invoke, builtin, Sem.run_bind, Sem.run_pure, Result.andThen_ok, List.map_toArray, List.map_cons, List.map_nil, hx, hy, hrun]
    exact hK _ _ h
set_option maxRecDepth 100000 in
/-- A slice of rows cut at its end, by its run. -/
theorem run_head (o : Option Addr) (n cap r : Nat) (w : World) (hr : r ≤ cap) (ho : o = none → cap = 0) : (Instr.sliceAt 22 (.slice o n cap) none (some (.int .i64 (r : Int))) none).run Try.prog w = .ok (.slice o r cap) w := by
  have h1 : (r : Int) ≤ (cap : Int) := by omega
  cases o with
  | none =>
    have := ho rfl
    subst this
    obtain rfl : r = 0 := by omega
    simp [Instr.sliceAt, Instr.slice, run_underlying Try.underlying22, go_sem]
  | some a =>
    simp [Instr.sliceAt, Instr.slice, run_underlying Try.underlying22, go_sem]
    intro h
    omega
set_option maxRecDepth 100000 in
theorem RowsAt.head {w : World} {o : Option Addr} {cap : Nat} {l : List Rw} (h : RowsAt w o cap l) (n : Nat) : RowsAt w o cap (l.take n) := by
  have hle : (l.take n).length ≤ l.length := by rw [List.length_take]; omega
  refine ⟨Nat.le_trans hle h.1, h.2.1, h.2.2.1, flat_len rc 4 (fun _ => rfl) _, fun hn => ?_⟩
  obtain ⟨b, off, e, hlt, hc⟩ := h.2.2.2.2 (by omega)
  refine ⟨b, off, e, hlt, fun j u hu => hc j u ?_⟩
  have : l.flatMap rc = (l.take n).flatMap rc ++ (l.drop n).flatMap rc := by rw [← List.flatMap_append, List.take_append_drop]
  rw [this, List.getElem?_append_left (List.getElem?_eq_some_iff.1 hu).1]
  exact hu
end Go.Proofs.Ythneciodobeehaa.Rq
