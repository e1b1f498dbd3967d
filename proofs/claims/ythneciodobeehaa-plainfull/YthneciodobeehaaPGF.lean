/- The tree of rows. -/
import Derived.Test.YthneciodobeehaaPGL
namespace Go.Proofs.Ythneciodobeehaa.Rq
open Go.RowKit Go.Lib Go.Shelf
open Go.Proofs.Ythneciodobeehaa.Rc
set_option maxRecDepth 100000 in
theorem list_append {P : Program} {ops : Array Oper} {rest : List Oper} {o : Oper} {a : Act} {w : World} {Q : Exit → Act → World → Prop} (hgd : o.guard = none) (t u : TypeId) (s x : Operand) (ho : o.op = .call { callee := .builtin .append, args := #[s, x], argTypes := #[t, u] })
    {vs vx v' : Value} {w' : World} (hs : a.eval s = vs) (hx : a.eval x = vx) (hrun : (Builtin.append_ #[t, u] o.type #[vs, vx]).run P w = .ok v' w') (h : wpList P ops Q rest (a.put o.dst v') w') : wpList P ops Q (o :: rest) a w :=
  wpList_plain hgd fun _ hK => by
    unfold Oper.wp execOp
    simp only [ho, resolve, invoke, builtin, Sem.run_bind, Sem.run_pure, Result.andThen_ok, List.map_toArray, List.map_cons, List.map_nil, hs, hx, hrun]
    exact hK _ _ h
set_option maxRecDepth 100000 in
theorem not_nil (a : Addr) (n c : Nat) (w : World) : (binOp .eql 22 (.slice (some a) n c) (.slice none 0 0)).run Try.prog w = .ok (.bool false) w := by kernel_rfl
set_option maxRecDepth 100000 in
set_option maxHeartbeats 1000000 in
theorem clone_any (l : List Rw) (o : Option Addr) (cap : Nat) (w : World) (hr : RowsAt w o cap l) (hne : 0 < l.length) (hmax : l.length ≤ 1000) :
    Calls Try.prog 35 #[.slice o l.length cap] w fun e w' => ∃ v, e = .returned v ∧ w'.ownsRow w.heap.size 27 4 v l.length (l.flatMap rc) ∧ Below w.heap.size w w' := by
  obtain ⟨b, off, rfl, hb, _⟩ := hr.row hne
  have h0 : w.alloc (.cells #[] 27) = w.alloc (.cells #[] 27) := rfl
  have hb0 := below_new w (.cells #[] 27)
  have hown : (w.alloc (.cells #[] 27)).ownsRow w.heap.size 27 4 (.slice (some ⟨w.heap.size, 0, none⟩) 0 0) 0 [] :=
    ⟨by simp, .inr ⟨w.heap.size, 0, #[], rfl, Nat.le_refl _, heap_alloc_new w _, Nat.le_refl _, by decide, rfl, rfl⟩⟩
  obtain ⟨v', W', hrun, a1, a2, a3⟩ := append_sl 22 27 Try.underlying22 infoRow rfl (by decide) (by decide) (w.alloc (.cells #[] 27)) w.heap.size 0 l.length (.slice (some ⟨w.heap.size, 0, none⟩) 0 0) (some ⟨b, off, none⟩) cap
        [] (l.flatMap rc) hown (by simp) (Sl.below hr hb0 (Nat.le_refl _)) (rc_one l) (by omega)
  have HB : Hid (Below w.heap.size w W') := hb0.grown a2 (by simp) fun k ek => by simp [Value.ownBlock] at ek; omega
  have HO : Hid (W'.ownsRow w.heap.size 27 4 v' l.length (l.flatMap rc)) := by
    have := a1
    rw [Nat.zero_add, List.nil_append] at this
    exact this
  clear a1 a2 a3 hown hb0 h0 hr
  have hn := fun w => not_nil ⟨b, off, none⟩ l.length cap w
  go_enter Try.func35, Try.ntmps35
  go_wp2_with (refine list_append rfl 22 22 (.tmp 5) (.tmp 6) rfl rfl rfl hrun ?_)
  go_ret
  exact ⟨v', rfl, HO.out, HB.out⟩
end Go.Proofs.Ythneciodobeehaa.Rq
