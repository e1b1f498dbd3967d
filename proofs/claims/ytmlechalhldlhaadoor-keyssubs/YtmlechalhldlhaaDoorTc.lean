/- The reference: words made of words, and what appends leave. -/
import Derived.Test.YtmlechalhldlhaaDoorTa
import Derived.Test.YtmlechalhldlhaaDoorTb
import Derived.Maps.AppendAt
import Derived.OrdersHeld
namespace Go.Proofs.YtmlechalhldlhaaDoor
open Go.RowKit Go.Lib
theorem sw_stable (f : Nat → Int) (k : Nat) : ∀ d i, i < 16 + k → sw f (k + d) i = sw f k i := by
  intro d
  induction d with
  | zero => intro i _; rfl
  | succ d ih =>
    intro i hi
    show upd (sw f (k + d)) (16 + (k + d)) (ext (sw f (k + d)) (16 + (k + d))) i = _
    rw [upd_ne _ _ _ _ (by omega)]
    exact ih i hi
theorem sch_low (q : Nat → Int) (hq : ∀ j, 0 ≤ q j ∧ q j < 256) (i : Nat) (hi : i < 16) : sch q i = wd q i := by
  unfold sch
  rw [show (48 : Nat) = 0 + 48 from rfl, sw_stable _ 0 48 i hi]
  exact rw4_wd q hq i hi
theorem sch_ext (q : Nat → Int) (t : Nat) (ht : t < 48) : sch q (16 + t) = ext (sch q) (16 + t) := by
  unfold sch
  obtain ⟨d, hd⟩ : ∃ d, 48 = t + 1 + d := ⟨48 - (t + 1), by omega⟩
  have h1 : sw (rw4 q 64) 48 (16 + t) = sw (rw4 q 64) (t + 1) (16 + t) := by rw [hd]; exact sw_stable _ (t + 1) d (16 + t) (by omega)
  have h2 : ∀ i, i < 16 + t → sw (rw4 q 64) 48 i = sw (rw4 q 64) t i := fun i hi => by
    rw [show (48 : Nat) = t + (1 + d) by omega]; exact sw_stable _ t (1 + d) i hi
  rw [h1]
  show upd (sw (rw4 q 64) t) (16 + t) (ext (sw (rw4 q 64) t) (16 + t)) (16 + t) = _
  rw [upd_at]
  unfold ext
  rw [h2 _ (by omega), h2 _ (by omega), h2 _ (by omega), h2 _ (by omega)]
/-- The built-in append, by its run, as an operation. -/
theorem op_append {P : Program} {o : Oper} {a : Act} {w : World} {K : Act → World → Prop} {Q : Exit → Act → World → Prop} (t u : TypeId) (s x : Operand) (ho : o.op = .call { callee := .builtin .append, args := #[s, x], argTypes := #[t, u] })
    {vs vx v' : Value} {w' : World} (hs : a.eval s = vs) (hx : a.eval x = vx) (hrun : (Builtin.append_ #[t, u] o.type #[vs, vx]).run P w = .ok v' w') (h : K (a.put o.dst v') w') : Oper.wp P o a w K Q := by
  unfold Oper.wp execOp
  simp only [ho, resolve, invoke, builtin, Sem.run_bind, Sem.run_pure, Result.andThen_ok, List.map_toArray, List.map_cons, List.map_nil, hs, hx, hrun]
  exact h
theorem info41 : (Tryd.prog.info? 22).map (fun i => (i.zero, i.size, i.bytes)) = some (some (.int .u32 0), 1, 4) := by kernel_rfl
/-- One word more in a row of one's own: what lay there lies there still. -/
theorem app_keep (w : World) (base : Nat) (v : Value) (n : Nat) (xs : List Value) (hown : w.ownsRow base 22 1 v n xs) (y : Int) (ad : Addr) (hy : w.cell? ad = some (.int .u32 y)) (hn : n ≤ 1000) (hbase : base ≤ w.heap.size) (ty : TypeId) :
    ∃ v' w', (Builtin.append_ #[61, 61] ty #[v, .slice (some ad) 1 1]).run Tryd.prog w = .ok v' w' ∧ w'.ownsRow base 22 1 v' (n + 1) (xs ++ [.int .u32 y]) ∧ w.grownBy w' v.ownBlock ∧ (∀ p cap, v = .slice (some ⟨p, 0, none⟩) n cap → ∀ (j : Nat) (u : Value), xs[j]? = some u → w'.cell? ⟨p, j, none⟩ = some u) := by
  obtain ⟨i0, hi, hz0, hz1, hz2⟩ := info_parts info41
  have hnews : ∀ j u, [Value.int .u32 y][j]? = some u → w.cell? (ad.add j) = some u := fun j u hj => by
    match j, hj with
    | 0, hj => simp at hj; subst hj; rw [show ad.add 0 = ad by cases ad; rfl]; exact hy
    | j + 1, hj => simp at hj
  have h1 : ∀ u ∈ [Value.int .u32 y], u.oneCell' = true := fun u hu => by simp at hu; subst hu; rfl
  obtain ⟨v', w', hr, ho, hg, _, _⟩ := run_append_own_at (P := Tryd.prog) w base 61 ty 22 i0 (.int .u32 0) 1 4 Tryd.underlying61 hi hz0 hz1 hz2 rfl (by decide) v n xs hown ad 1 1 [.int .u32 y] rfl hnews h1 (by unfold maxLen; omega) (by omega) hbase
  refine ⟨v', w', hr, ho, hg, ?_⟩
  rintro p cap rfl j u hu
  rcases hown.2 with ⟨hv, _⟩ | ⟨g, cap', cur, hv, hbg, hgh, hnc, hcm, hcs, htake⟩
  · cases hv
  · cases hv
    by_cases hroom : n + 1 ≤ cap
    · obtain ⟨w2, hr2, ho2, _⟩ := run_append_fits (P := Tryd.prog) w base 61 ty 22 i0 1 Tryd.underlying61 hi hz1 p n cap xs hown ad 1 1 [.int .u32 y] rfl hnews h1 hroom
      rw [hr] at hr2
      injection hr2 with e1 e2
      rw [e2]
      exact own_cell ho2 (by rw [List.getElem?_append_left (List.getElem?_eq_some_iff.1 hu).1]; exact hu)
    · have holds : ∀ j u, xs[j]? = some u → w.cell? ((⟨p, 0, none⟩ : Addr).add j) = some u := hown.cells (g := p) rfl
      have hr2 := run_append_grow (P := Tryd.prog) w 61 ty 22 i0 (.int .u32 0) Tryd.underlying61 hi hz0 ⟨p, 0, none⟩ n cap xs (by rw [hown.1, hz1]) holds ad 1 1 [.int .u32 y] (by rw [hz1]; rfl) hnews (by omega) (by omega) (growslice_fits (by omega) (by rw [hz2]; omega))
      rw [hr] at hr2
      injection hr2 with e1 e2
      rw [e2]
      have hc := own_cell hown hu
      have hlt : p < w.heap.size := (Array.getElem?_eq_some_iff.1 hgh).1
      exact (cell_same (Below.heap_alloc w.drew _ p hlt) j).trans hc
/-- The next operation, where only one may come up; behind it the condition is shown anew. -/
theorem readyH {P : Program} {md : Region.Mode} {ops : Array Oper} {Q : Exit → Act → World → Prop} {S : World → Prop} {fuel : Nat} {listed : Array Bool} {a : Act} {w : World} (k : Nat) (o : Oper) (hr : Region.ready md ops listed = [k]) (ho : ops[k]? = some o)
    (hw : Region.wanted o (yielded ops a.tmps) = true)
    (h : ∀ K : Act → World → Prop, (∀ a w, S w → wpAnyH P md ops Q S fuel (listed.setIfInBounds k true) a w → K a w) → Oper.wp P o a w K Q) : wpAnyH P md ops Q S (fuel + 1) listed a w := by
  refine wpAnyH_all hr (by simp) fun j hj => ?_
  obtain rfl : j = k := by simpa using hj
  unfold wpOp
  simp only [ho, hw, if_true]
  exact .inl (h _ fun a w h1 h2 => ⟨h1, h2⟩)
end Go.Proofs.YtmlechalhldlhaaDoor
