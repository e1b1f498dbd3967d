/- A region that reads, in whatever order, and writes at its end. -/
import Derived.Test.YtimdlohdmddnjaaQGC
import Derived.OrdersHeld
import Derived.Test.YtimdlohdmddnjaaQOG
namespace Go.Proofs.Ytimdlohdmddnjaa.Rq
open Go.RowKit
section
variable {P : Program} {ops : Array Oper} {Q : Exit → Act → World → Prop} {md : Region.Mode} {S : World → Prop}
def wpLast (P : Program) (md : Region.Mode) (ops : Array Oper) (Q : Exit → Act → World → Prop) (S : World → Prop) (z : Nat) : Nat → Array Bool → Act → World → Prop
 | 0, listed, a, w => Region.ready md ops listed = [] ∧ Q .normal a w
 | fuel + 1, listed, a, w =>
  (Region.ready md ops listed = [] → Q .normal a w) ∧
  ∀ i ∈ Region.ready md ops listed, wpOp P ops Q i (fun a' w' => (i ≠ z → S w') ∧ wpLast P md ops Q S z fuel (listed.setIfInBounds i true) a' w') a w
def waitsOn (md : Region.Mode) (ops : Array Oper) (z j : Nat) : Bool :=
 match ops[z]? with
 | some oz => oz.after.any fun e => e.on == j && Region.binds md e
 | none => false
theorem last_waits {z j : Nat} {listed : Array Bool} (h : waitsOn md ops z j = true) (hz : z ∈ Region.ready md ops listed) : listed.getD j false = true := by
 obtain ⟨_, oz, ho, hall⟩ := mem_ready.1 hz
 unfold waitsOn at h
 rw [ho] at h
 simp only [Array.any_eq_true, Bool.and_eq_true, beq_iff_eq] at h
 obtain ⟨k, hk, h1, h2⟩ := h
 rw [← h1]
 exact hall _ (Array.getElem_mem hk) h2
theorem wpLast_first {z i : Nat} (hwz : waitsOn md ops z i = true) {oi : Oper} {v : Value} (hi : ops[i]? = some oi) (hsel : ∀ (j : Nat) (o : Oper) cs b, ops[j]? = some o → o.op ≠ .select cs b)
  (hQ : ∀ c a w, Q (.panic c) (a.put oi.dst v) w → Q (.panic c) a w) :
  ∀ (fuel : Nat) (listed : Array Bool) (a : Act) (w : World),
   (∀ j oj, ops[j]? = some oj → j ≠ i → listed.getD j true = false → (∀ e ∈ oj.after, Region.binds md e = true → e.on ≠ i) → oi.apart ops oj = true) →
   i ∈ Region.ready md ops listed → YieldsIf P ops S oi v a → S w →
   wpLast P md ops Q S z fuel (listed.setIfInBounds i true) (a.put oi.dst v) w → wpLast P md ops Q S z (fuel + 1) listed a w := by
 intro fuel
 induction fuel with
 | zero =>
  intro listed a w _ hr hy hS H
  refine ⟨fun h => (by rw [h] at hr; cases hr), fun j hj => ?_⟩
  by_cases hji : j = i
  ·subst hji; exact hy.wpOp hi hS ⟨fun _ => hS, H⟩
  ·have := ready_mono hj hji
   rw [H.1] at this
   cases this
 | succ fuel ih =>
  intro listed a w hfree hr hy hS H
  refine ⟨fun h => (by rw [h] at hr; cases hr), fun j hj => ?_⟩
  by_cases hji : j = i
  ·subst hji; exact hy.wpOp hi hS ⟨fun _ => hS, H⟩
  ·have hjz : j ≠ z := fun e => by
    subst e
    have h1 := last_waits hwz hj
    have h0 := (mem_ready.1 hr).1
    rcases Nat.lt_or_ge i listed.size with h' | h'
    ·simp [h'] at h0 h1; rw [h0] at h1; cases h1
    ·simp [Array.getElem?_eq_none h'] at h1
   have h1 := H.2 j (ready_mono hj hji)
   obtain ⟨hjun, oj, hoj, hall⟩ := mem_ready.1 hj
   have hnot : ∀ e ∈ oj.after, Region.binds md e = true → e.on ≠ i := fun e he hb heq => by
    have h1 := hall e he hb
    have h0 := (mem_ready.1 hr).1
    rw [heq] at h1
    rcases Nat.lt_or_ge i listed.size with h' | h'
    ·simp [h'] at h0 h1; rw [h0] at h1; cases h1
    ·simp [Array.getElem?_eq_none h'] at h1
   have h2 := wpOp_putIf hoj (hfree j oj hoj hji hjun hnot) (fun cs b => hsel i oi cs b hi) (fun cs b => hsel j oj cs b hoj) hQ hy h1
   have hfree' : ∀ k ok, ops[k]? = some ok → k ≠ i → (listed.setIfInBounds j true).getD k true = false →
     (∀ e ∈ ok.after, Region.binds md e = true → e.on ≠ i) → oi.apart ops ok = true := fun k ok hk hki hun hno => by
    refine hfree k ok hk hki ?_ hno
    by_cases hjk : j = k
    ·subst hjk; exact hjun
    ·rw [getD_set_ne true hjk] at hun; exact hun
   refine wpOp_mono (fun a' w' h3 => ⟨fun _ => h3.2.1 hjz, ih (listed.setIfInBounds j true) a' w' hfree' (ready_mono hr (Ne.symm hji)) h3.1 (h3.2.1 hjz) ?_⟩) h2
   rw [Array.setIfInBounds_comm _ _ hji]
   exact h3.2.2
theorem wpLast_take {z i : Nat} (hwz : waitsOn md ops z i = true) {oi : Oper} {v : Value} {fuel : Nat} {listed : Array Bool} {a : Act} {w : World} (hi : ops[i]? = some oi)
  (hs : Region.noSelect ops = true) (hf : Region.free md ops listed i = true) (hr : (Region.ready md ops listed).contains i = true)
  (hQ : ∀ c a w, Q (.panic c) (a.put oi.dst v) w → Q (.panic c) a w) (hy : YieldsIf P ops S oi v a) (hS : S w)
  (h : wpLast P md ops Q S z fuel (listed.setIfInBounds i true) (a.put oi.dst v) w) : wpLast P md ops Q S z (fuel + 1) listed a w :=
 wpLast_first hwz hi (Region.noSelect_spec hs) hQ fuel listed a w (Region.free_spec hi hf) (by simpa using hr) hy hS h
theorem wpLast_end {z : Nat} {oz : Oper} {listed : Array Bool} {a : Act} {w : World} (ho : ops[z]? = some oz) (hr : Region.ready md ops listed = [z]) (hr2 : Region.ready md ops (listed.setIfInBounds z true) = [])
  (hw : Region.wanted oz (yielded ops a.tmps) = true) (h : oz.wp P a w (fun a' w' => Q .normal a' w') Q) : wpLast P md ops Q S z 1 listed a w := by
 refine ⟨fun h0 => (by rw [hr] at h0; cases h0), fun i hi => ?_⟩
 rw [hr, List.mem_singleton] at hi
 subst hi
 unfold wpOp
 simp only [ho, hw, if_true]
 exact .inl (Oper.wp_mono (fun a' w' hq => ⟨fun e => absurd rfl e, hr2, hq⟩) h)
theorem any_of_last {z : Nat} : ∀ (fuel : Nat) (listed : Array Bool) (a : Act) (w : World), wpLast P md ops Q S z fuel listed a w → wpAny P md ops Q fuel listed a w
 | 0, _, _, _, h => h
 | fuel + 1, _, _, _, h => ⟨h.1, fun i hi => wpOp_mono (fun a w hq => any_of_last fuel _ a w hq.2) (h.2 i hi)⟩
theorem region_lastP {z id : Nat} {a : Act} {w : World} (hm : P.follows .mixedOrders = true) (h : wpLast P .any ops Q S z ops.size (Array.replicate ops.size false) a w.drew) : (Code.region id ops true).wp P Q a w :=
 wp_region_any hm (any_of_last _ _ _ _ h)
theorem readyL {z fuel : Nat} {listed : Array Bool} {a : Act} {w : World} (k : Nat) (o : Oper) (hr : Region.ready md ops listed = [k]) (ho : ops[k]? = some o) (hw : Region.wanted o (yielded ops a.tmps) = true)
  (h : ∀ K : Act → World → Prop, (∀ a w, S w → wpLast P md ops Q S z fuel (listed.setIfInBounds k true) a w → K a w) → Oper.wp P o a w K Q) : wpLast P md ops Q S z (fuel + 1) listed a w := by
 refine ⟨fun h0 => (by rw [hr] at h0; cases h0), fun j hj => ?_⟩
 rw [hr, List.mem_singleton] at hj
 subst hj
 unfold wpOp
 simp only [ho, hw, if_true]
 exact .inl (h _ fun a w h1 h2 => ⟨fun _ => h1, h2⟩)
theorem op_append {o : Oper} {a : Act} {w : World} {K : Act → World → Prop} (t u : TypeId) (s x : Operand) (ho : o.op = .call { callee := .builtin .append, args := #[s, x], argTypes := #[t, u] })
  {vs vx v' : Value} {w' : World} (hs : a.eval s = vs) (hx : a.eval x = vx) (hrun : (Builtin.append_ #[t, u] o.type #[vs, vx]).run P w = .ok v' w') (hK : K (a.put o.dst v') w') : Oper.wp P o a w K Q := by
 unfold Oper.wp execOp
 simp only [ho, resolve, invoke, builtin, Sem.run_bind, Sem.run_pure, Result.andThen_ok, List.map_toArray, List.map_cons, List.map_nil, hs, hx, hrun]
 exact hK
end
end Go.Proofs.Ytimdlohdmddnjaa.Rq
/- The rows in each quarter. -/
namespace Go.Proofs.Ytimdlohdmddnjaa.Rq
open Go.RowKit Go.Lib Go.Shelf
open Go.Proofs.Ytimdlohdmddnjaa.Rc
def pk (n : Nat) (l : List Rw) (k q : Nat) : List Rw := (l.take k).filter fun r => wq n r.x r.y == q
theorem pk_next (n : Nat) (l : List Rw) (k q : Nat) (h : k < l.length) : pk n l (k + 1) q = pk n l k q ++ (if wq n (rat l k).x (rat l k).y = q then [rat l k] else []) := by
 unfold pk
 rw [take_rat l k h, List.filter_append]
 congr 1
 by_cases e : wq n (rat l k).x (rat l k).y = q
 ·rw [if_pos e, List.filter_cons, if_pos (by simp [e])]; rfl
 ·rw [if_neg e, List.filter_cons, if_neg (by simp [e])]; rfl
theorem pk_len (n : Nat) (l : List Rw) (k q : Nat) : (pk n l k q).length ≤ l.length :=
 Nat.le_trans (List.length_filter_le _ _) (by rw [List.length_take]; omega)
set_option maxRecDepth 100000 in
theorem three_new (w : World) (a b c : Obj) : (((w.alloc a).alloc b).alloc c).heap[w.heap.size]? = some a ∧ (((w.alloc a).alloc b).alloc c).heap[w.heap.size + 1]? = some b ∧ (((w.alloc a).alloc b).alloc c).heap[w.heap.size + 2]? = some c ∧ Below w.heap.size w (((w.alloc a).alloc b).alloc c) ∧ (((w.alloc a).alloc b).alloc c).heap.size = w.heap.size + 3 := by
 obtain ⟨h1, h2, h3⟩ := two_new w a b
 refine ⟨(Below.heap_alloc _ _ _ (by simp; omega)).trans h1, (Below.heap_alloc _ _ _ (by simp)).trans h2, ?_, h3.alloc (by simp; omega) _, by simp⟩
 have := heap_alloc_new ((w.alloc a).alloc b) c
 simpa using this
structure SJ (n : Nat) (l : List Rw) (w : World) (k : Nat) (vs : Nat → Value) (X Y : Nat) (L : Int) (W : World) : Prop where
 cel : W.heap[w.heap.size]? = some (.cells #[.int .u32 (X : Int), .int .u32 (Y : Int), .int .i64 L] 42 (0, 0))
 res : W.heap[w.heap.size + 1]? = some (.cells #[.slice none 0 0, .slice none 0 0, .slice none 0 0, .slice none 0 0] 95 (0, 0))
 out : W.heap[w.heap.size + 2]? = some (.cells #[vs 0, vs 1, vs 2, vs 3] 95 (0, 0))
 rows : ∀ q, q < 4 → W.ownsRow (w.heap.size + 3) 54 4 (vs q) (pk n l k q).length ((pk n l k q).flatMap rc)
 apart : ∀ p q b, p < 4 → q < 4 → p ≠ q → (vs p).ownBlock = some b → (vs q).ownBlock ≠ some b
 bel : Below w.heap.size w W
set_option maxRecDepth 100000 in
theorem own_same {W W' : World} {base : Nat} {e : TypeId} {k : Nat} {v : Value} {n : Nat} {xs : List Value} (h : W.ownsRow base e k v n xs) (hs : ∀ b, v.ownBlock = some b → b < W.heap.size → W'.heap[b]? = W.heap[b]?) : W'.ownsRow base e k v n xs := by
 refine ⟨h.1, ?_⟩
 rcases h.2 with h | ⟨g, cap, cur, rfl, h2, h3, h4⟩
 ·exact .inl h
 ·exact .inr ⟨g, cap, cur, rfl, h2, (hs g rfl (Array.getElem?_eq_some_iff.1 h3).1).trans h3, h4⟩
set_option maxRecDepth 100000 in
theorem own_base {W : World} {base : Nat} {e : TypeId} {k : Nat} {v : Value} {n : Nat} {xs : List Value} (h : W.ownsRow base e k v n xs) {b : Nat} (hb : v.ownBlock = some b) : base ≤ b ∧ b < W.heap.size := by
 rcases h.2 with ⟨rfl, _⟩ | ⟨g, cap, cur, rfl, h2, h3, _⟩
 ·simp [Value.ownBlock] at hb
 ·simp [Value.ownBlock] at hb; subst hb; exact ⟨h2, (Array.getElem?_eq_some_iff.1 h3).1⟩
set_option maxRecDepth 100000 in
theorem own_lower {W : World} {base base' : Nat} {e : TypeId} {k : Nat} {v : Value} {n : Nat} {xs : List Value} (h : W.ownsRow base e k v n xs) (hb : base' ≤ base) : W.ownsRow base' e k v n xs := by
 refine ⟨h.1, ?_⟩
 rcases h.2 with h | ⟨g, cap, cur, rfl, h2, h3, h4⟩
 ·exact .inl h
 ·exact .inr ⟨g, cap, cur, rfl, by omega, h3, h4⟩
set_option maxRecDepth 100000 in
theorem SJ.size {n : Nat} {l : List Rw} {w : World} {k : Nat} {vs : Nat → Value} {X Y : Nat} {L : Int} {W : World} (h : SJ n l w k vs X Y L W) : w.heap.size + 3 ≤ W.heap.size := (Array.getElem?_eq_some_iff.1 h.out).1
set_option maxRecDepth 100000 in
theorem SJ.next {n : Nat} {l : List Rw} {w : World} {k : Nat} {vs : Nat → Value} {X Y : Nat} {L : Int} {W W' : World} (h : SJ n l w k vs X Y L W) (hb : Below W.heap.size W W') : SJ n l w k vs X Y L W' := by
 have hs := h.size
 exact ⟨(hb.block _ (by omega)).trans h.cel, (hb.block _ (by omega)).trans h.res, (hb.block _ (by omega)).trans h.out, fun q hq => own_same (h.rows q hq) fun b _ hb' => hb.block b hb', h.apart, h.bel.trans (hb.mono (by omega))⟩
def upd (vs : Nat → Value) (q : Nat) (v : Value) (j : Nat) : Value := if j = q then v else vs j
set_option maxRecDepth 100000 in
theorem set_four (W : World) (g q : Nat) (vs : Nat → Value) (v : Value) (t : TypeId) (h : W.heap[g]? = some (.cells #[vs 0, vs 1, vs 2, vs 3] t (0, 0))) (hq : q < 4) :
  (W.setCell ⟨g, q, none⟩ v).heap[g]? = some (.cells #[upd vs q v 0, upd vs q v 1, upd vs q v 2, upd vs q v 3] t (0, 0)) := by
 have := heap_setCell_same W g q _ _ v h
 rw [this]
 obtain rfl | rfl | rfl | rfl : q = 0 ∨ q = 1 ∨ q = 2 ∨ q = 3 := by omega
 all_goals rfl
set_option maxRecDepth 100000 in
theorem SJ.step {n : Nat} {l : List Rw} {w : World} {k : Nat} {vs : Nat → Value} {X Y : Nat} {L : Int} {W : World} (h : SJ n l w k vs X Y L W) {q : Nat} (hq : q < 4) (hk : k < l.length) (hw : wq n (rat l k).x (rat l k).y = q)
  {v' : Value} {W' : World} (ho : W'.ownsRow (w.heap.size + 3) 54 4 v' ((pk n l k q).length + 1) ((pk n l k q).flatMap rc ++ rc (rat l k))) (hg : W.grownBy W' (vs q).ownBlock) (hf : v'.ownBlock = (vs q).ownBlock ∨ v'.ownBlock = some W.heap.size) :
  SJ n l w (k + 1) (upd vs q v') X Y L (W'.setCell ⟨w.heap.size + 2, q, none⟩ v') := by
 have hs := h.size
 have nb : ∀ b, b < w.heap.size + 3 → (vs q).ownBlock ≠ some b := fun b hb e => by have := (own_base (h.rows q hq) e).1; omega
 have g2 := gb_set W' (w.heap.size + 2) q v'
 have keep : ∀ b, b < w.heap.size + 2 → (W'.setCell ⟨w.heap.size + 2, q, none⟩ v').heap[b]? = W.heap[b]? := fun b hb =>
  (g2.block b (by have := hg.size; omega) (by intro e; cases e; omega)).trans (hg.block b (by omega) (fun e => nb b (by omega) e.symm))
 have hout : W'.heap[w.heap.size + 2]? = some (.cells #[vs 0, vs 1, vs 2, vs 3] 95 (0, 0)) := (hg.block _ (by omega) (fun e => nb _ (by omega) e.symm)).trans h.out
 refine ⟨(keep _ (by omega)).trans h.cel, (keep _ (by omega)).trans h.res, set_four W' _ q vs v' _ hout hq, fun p hp => ?_, fun p p' b hp hp' hpp e => ?_, h.bel.trans ⟨hg.os, hg.tape, hg.output, Nat.le_trans hg.size g2.size, fun b hb => keep b (by omega)⟩⟩
 ·unfold upd
  by_cases e : p = q
  ·rw [if_pos e, e, pk_next n l k q hk, if_pos hw, List.length_append, List.flatMap_append]
   refine own_same ?_ fun b hb _ => g2.block b (by have := own_base ho hb; omega) (by intro e'; cases e'; have := (own_base ho hb).1; omega)
   simpa using ho
  ·rw [if_neg e, pk_next n l k p hk, if_neg (fun h' => e (h'.symm.trans hw)), List.append_nil]
   refine own_same (h.rows p hp) fun b hb hbl => ?_
   refine (g2.block b (by have := hg.size; omega) ?_).trans (hg.block b hbl ?_)
   ·intro e'; cases e'; have := (own_base (h.rows p hp) hb).1; omega
   ·exact fun e' => h.apart p q b hp hq e hb e'.symm
 ·unfold upd at e ⊢
  by_cases e1 : p = q
  ·rw [if_pos e1] at e
   rw [if_neg (by omega)]
   intro e2
   rcases hf with hf | hf
   ·rw [hf] at e; exact h.apart p' q b hp' hq (by omega) e2 e
   ·rw [hf] at e; cases e
    have := (own_base (h.rows p' hp') e2).2; omega
  ·rw [if_neg e1] at e
   by_cases e3 : p' = q
   ·rw [if_pos e3]
    intro e2
    rcases hf with hf | hf
    ·rw [hf] at e2; exact h.apart p q b hp hq e1 e e2
    ·rw [hf] at e2; cases e2
     have := (own_base (h.rows p hp) e).2; omega
   ·rw [if_neg e3]
    exact h.apart p p' b hp hp' hpp e
set_option maxRecDepth 100000 in
theorem ownsRow_succ {w : World} {base : Nat} {e : TypeId} {k : Nat} {v : Value} {n : Nat} {xs : List Value} (h : w.ownsRow base e k v (n + 1) xs) : ∃ g cap, v = .slice (some ⟨g, 0, none⟩) (n + 1) cap := by
 rcases h.2 with ⟨_, h⟩ | ⟨g, cap, cur, rfl, _⟩
 ·omega
 ·exact ⟨g, cap, rfl⟩
set_option maxRecDepth 100000 in
theorem four_facts {W : World} {g : Nat} {a b c d : Value} {t : TypeId} (h : W.heap[g]? = some (.cells #[a, b, c, d] t (0, 0))) : W.cell? ⟨g, 0, none⟩ = some a ∧ W.cell? ⟨g, 1, none⟩ = some b ∧ W.cell? ⟨g, 2, none⟩ = some c ∧ W.cell? ⟨g, 3, none⟩ = some d :=
 ⟨by rw [cell_of_row _ _ _ _ _ _ h]; rfl, by rw [cell_of_row _ _ _ _ _ _ h]; rfl, by rw [cell_of_row _ _ _ _ _ _ h]; rfl, by rw [cell_of_row _ _ _ _ _ _ h]; rfl⟩
set_option maxRecDepth 100000 in
theorem put_four {w : World} {g : Nat} {x y z u : Value} {t : TypeId} (h : w.heap[g]? = some (.cells #[x, y, z, u] t (0, 0))) (a b c d : Value) :
  ((((w.setCell ⟨g, 0, none⟩ a).setCell ⟨g, 1, none⟩ b).setCell ⟨g, 2, none⟩ c).setCell ⟨g, 3, none⟩ d).heap[g]? = some (.cells #[a, b, c, d] t (0, 0)) ∧
  (∀ j, j ≠ g → ((((w.setCell ⟨g, 0, none⟩ a).setCell ⟨g, 1, none⟩ b).setCell ⟨g, 2, none⟩ c).setCell ⟨g, 3, none⟩ d).heap[j]? = w.heap[j]?) ∧
  Below g w ((((w.setCell ⟨g, 0, none⟩ a).setCell ⟨g, 1, none⟩ b).setCell ⟨g, 2, none⟩ c).setCell ⟨g, 3, none⟩ d) := by
 have hl := (Array.getElem?_eq_some_iff.1 h).1
 have X1 := heap_setCell_same w g 0 _ _ a h
 have X2 := heap_setCell_same _ g 1 _ _ b X1
 have X3 := heap_setCell_same _ g 2 _ _ c X2
 have X4 := heap_setCell_same _ g 3 _ _ d X3
 have o : ∀ j, j ≠ g → ((((w.setCell ⟨g, 0, none⟩ a).setCell ⟨g, 1, none⟩ b).setCell ⟨g, 2, none⟩ c).setCell ⟨g, 3, none⟩ d).heap[j]? = w.heap[j]? := fun j hj =>
  (Below.heap_setCell _ _ _ _ hj).trans ((Below.heap_setCell _ _ _ _ hj).trans ((Below.heap_setCell _ _ _ _ hj).trans (Below.heap_setCell _ _ _ _ hj)))
 exact ⟨X4, o, rfl, rfl, rfl, by simp [World.setCell], fun j hj => o j (by omega)⟩
set_option maxRecDepth 100000 in
theorem results_four {fn : Func} {p : Tmp} (h : fn.results = #[.cell p 95]) (tmps : Array Value) (w : World) (g : Nat) (a b c d : Value) {t : TypeId}
  (hp : tmps.getD p undef = .pointer (some ⟨g, 0, none⟩)) (hg : w.heap[g]? = some (.cells #[a, b, c, d] t (0, 0))) : (results fn tmps).run Try.prog w = .ok (.agg #[a, b, c, d]) w := by
 have hp' : tmps[p]?.getD undef = .pointer (some ⟨g, 0, none⟩) := by simpa using hp
 obtain ⟨c0, c1, c2, c3⟩ := four_facts hg
 simp [results, h, hp', asAddr, go_sem, c0, c1, c2, c3]
def SS (g : Nat) (r : Rw) (g5 q : Nat) (v : Value) (w : World) : Prop := F4 g r w ∧ w.cell? ⟨g5, q, none⟩ = some v
set_option maxRecDepth 100000 in
theorem SS.same {g : Nat} {r : Rw} {g5 q : Nat} {v : Value} {w w' : World} (h : SS g r g5 q v w) (e : w'.heap[g]? = w.heap[g]?) (f : w'.heap[g5]? = w.heap[g5]?) : SS g r g5 q v w' := ⟨h.1.same e, (World.cell?_of_block (a := ⟨g5, q, none⟩) f).trans h.2⟩
set_option maxRecDepth 100000 in
theorem one_row {w : World} {g : Nat} {r : Rw} {t : TypeId} {fr : Nat × Nat} (h : w.heap[g]? = some (.cells #[.int .u64 (r.id : Int), .int .u32 (r.x : Int), .int .u32 (r.y : Int), .string r.v] t fr)) : Sl 4 w (some ⟨g, 0, none⟩) 1 1 (rc r) := by
 refine ⟨Nat.le_refl _, by decide, (fun e => by cases e), rfl, fun _ => ⟨g, 0, rfl, (Array.getElem?_eq_some_iff.1 h).1, fun j u hu => ?_⟩⟩
 rw [Nat.zero_add, cell_of_row _ _ _ _ _ _ h]
 have : j < 4 := (List.getElem?_eq_some_iff.1 hu).1
 obtain rfl | rfl | rfl | rfl : j = 0 ∨ j = 1 ∨ j = 2 ∨ j = 3 := by omega
 all_goals simpa [rc] using hu
theorem rc_one' (r : Rw) : ∀ u ∈ rc r, u.oneCell' = true := by
 have := rc_one [r]
 simpa using this
set_option maxRecDepth 100000 in
set_option maxHeartbeats 4000000 in
theorem shares_any (n : Nat) (l : List Rw) (o : Option Addr) (cap : Nat) (w : World) (hr : RowsAt w o cap l) (hon : On l) (hmax : l.length ≤ 1000) (hn : lev l = n + 1) :
  Calls Try.prog 64 #[cv (cx l) (cy l) (lev l), .slice o l.length cap] w fun e w' => ∃ vs : Nat → Value, e = .returned (.agg #[vs 0, vs 1, vs 2, vs 3]) ∧
   (∀ q, q < 4 → w'.ownsRow w.heap.size 54 4 (vs q) (part l q).length ((part l q).flatMap rc)) ∧ Below w.heap.size w w' := by
 obtain ⟨X, hX⟩ : ∃ X, cx l = X := ⟨_, rfl⟩
 obtain ⟨Y, hY⟩ : ∃ Y, cy l = Y := ⟨_, rfl⟩
 obtain ⟨L, hL⟩ : ∃ L : Int, (lev l : Int) = L := ⟨_, rfl⟩
 have HX : Hid (cx l = X) := hX
 have HY : Hid (cy l = Y) := hY
 have HL : Hid ((lev l : Int) = L) := hL
 rw [hX, hY, hL]
 clear hX hY hL
 go_enter Try.func64, Try.ntmps64
 go_wp2_with fail
 go_loopw [12] (fun i wr => ∃ k : Nat, k ≤ l.length ∧ i = .int .i64 (k : Int) ∧ ∃ vs, SJ n l w k vs X Y L wr) (fun i _ => l.length - natOf i)
 case atStart =>
  obtain ⟨h1, h2, h3, h4, h5⟩ := three_new w (.cells #[.int .u32 (X : Int), .int .u32 (Y : Int), .int .i64 L] 42) (.cells #[.slice none 0 0, .slice none 0 0, .slice none 0 0, .slice none 0 0] 95) (.cells #[.slice none 0 0, .slice none 0 0, .slice none 0 0, .slice none 0 0] 95)
  refine ⟨0, by omega, rfl, fun _ => .slice none 0 0, h1, h2, h3, fun q _ => ?_, fun p q b _ _ _ e => by simp [Value.ownBlock] at e, h4⟩
  have : pk n l 0 q = [] := by simp [pk]
  rw [this]
  exact World.ownsRow_nil _ _ _ _
 case round =>
  obtain ⟨k, hk, rfl, vs, hj⟩ := hrel
  have HJ : Hid (SJ n l w k vs X Y L wr) := hj
  have hsz : w.heap.size + 3 ≤ wr.heap.size := hj.size
  by_cases hlt : k < l.length
  ·obtain ⟨b, off, rfl, hbl, hc⟩ := (hr.below hj.bel (Nat.le_refl _)).row hlt
   have hbw : b < w.heap.size := by
    obtain ⟨b', off', e, h, _⟩ := hr.row hlt
    cases e; exact h
   obtain ⟨c0, c1, c2, c3⟩ := hc k hlt
   have q1 : (k : Int) < (l.length : Int) := by omega
   have k0 : (0 : Int) ≤ (k : Int) := by omega
   have k1 : (k : Int) + 1 ≤ 9223372036854775807 := by omega
   have onr := hon _ (rat_mem hlt)
   have HC : Hid _ := where_any X Y L (rat l k).x (rat l k).y (by rw [← HX.out]; have := (lev_cl hon).x31; omega) (by rw [← HY.out]; have := (lev_cl hon).y31; omega) (by omega) (by omega)
   have hhas := lev_has hon (rat_mem hlt)
   rw [HX.out, HY.out, HL.out] at hhas
   rw [show wher X Y L (rat l k).x (rat l k).y = (wq n (rat l k).x (rat l k).y, 0) by unfold wher; rw [if_pos ⟨hhas, by rw [← HL.out]; omega⟩, ← HL.out, hn, show (((n + 1 : Nat) : Int) - 1).toNat = n by omega]] at HC
   simp only [wv] at HC
   have hwq := wq_lt n (rat l k).x (rat l k).y
   generalize hq : wq n (rat l k).x (rat l k).y = q at *
   generalize hr0 : rat l k = r at *
   obtain ⟨id, x, y, v⟩ := r
   simp only at c0 c1 c2 c3 HC
   obtain ⟨t0, t1, t2⟩ := Cel.cells hj.cel
   have HQ : Hid (wq n x y = q) := hq
   have HR0 : Hid (rat l k = ⟨id, x, y, v⟩) := hr0
   have HN : Hid (lev l = n + 1) := hn
   clear hc onr hhas hj hq hr0 hn
   have HSZ : Hid (w.heap.size + 3 ≤ wr.heap.size) := hsz
   have hsz2 : w.heap.size < wr.heap.size := by omega
   clear hsz
   have HST : Hid (∀ (W : World), SJ n l w k vs X Y L W → ∀ v' W', W'.ownsRow (w.heap.size + 3) 54 4 v' ((pk n l k q).length + 1) ((pk n l k q).flatMap rc ++ rc ⟨id, x, y, v⟩) → W.grownBy W' (vs q).ownBlock → (v'.ownBlock = (vs q).ownBlock ∨ v'.ownBlock = some W.heap.size) → SJ n l w (k + 1) (upd vs q v') X Y L (W'.setCell ⟨w.heap.size + 1 + 1, q, none⟩ v')) := by
    intro W h v' W' a b c
    rw [← HR0.out] at a
    exact h.step hwq hlt (by rw [HR0.out]; exact HQ.out) a b c
   have hpl := pk_len n l k q
   go_wp2_with fail
   refine (HC.out _).mono ?_
   rintro e w1 ⟨rfl, b1⟩
   have hs1 : wr.heap.size < w1.heap.size := by have := b1.size; simp at this; omega
   have HJ1 : Hid (SJ n l w k vs X Y L w1) := (HJ.out.next (below_new wr _)).next b1
   have HF1 : Hid (F4 wr.heap.size ⟨id, x, y, v⟩ w1) := F4.same (F4.of (heap_alloc_new wr _)) (b1.block _ (by simp))
   clear b1
   go_wp2_with fail
   have c5 : w1.cell? ⟨w.heap.size + 1 + 1, q, none⟩ = some (vs q) := by
    rw [cell_of_row _ _ _ _ _ _ HJ1.out.out]
    obtain rfl | rfl | rfl | rfl : q = 0 ∨ q = 1 ∨ q = 2 ∨ q = 3 := by omega
    all_goals rfl
   have HSW : Hid (SS wr.heap.size ⟨id, x, y, v⟩ (w.heap.size + 1 + 1) q (vs q) w1.drew) := ⟨HF1.out, c5⟩
   have hq4 : (q : Int) < 4 := by omega
   have hq0 : (0 : Int) ≤ (q : Int) := by omega
   have hd1 : Below w1.heap.size w1 (w1.alloc (.cells #[.int .u64 (id : Int), .int .u32 (x : Int), .int .u32 (y : Int), .string v] 54)).drew := (below_new w1 _).drew
   obtain ⟨v', W', hrun, a1, a2, a3⟩ := append_sl 32 54 Try.underlying32 infoRow rfl (by decide) (by decide) (w1.alloc (.cells #[.int .u64 (id : Int), .int .u32 (x : Int), .int .u32 (y : Int), .string v] 54)).drew (w.heap.size + 3) (pk n l k q).length 1 (vs q) (some ⟨w1.heap.size, 0, none⟩) 1
    ((pk n l k q).flatMap rc) (rc ⟨id, x, y, v⟩) (own_same (HJ1.out.rows q hwq) fun b _ hb => hd1.block b hb) (by have := HJ1.out.size; simp; omega) (one_row (heap_alloc_new w1 _)) (rc_one' _) (by omega)
   have HFIN : Hid _ := HST.out _ (HJ1.out.next hd1) v' W' a1 a2 a3
   obtain ⟨g', cap', rfl⟩ := ownsRow_succ a1
   have z6 : W'.frozen? ⟨w.heap.size + 1 + 1, q, none⟩ = false := by
    refine frozen_of_row W' (w.heap.size + 1 + 1) q #[vs 0, vs 1, vs 2, vs 3] 95 ?_
    exact (a2.block _ (by have := HSZ.out; simp; omega) (by intro e; have := own_base (HJ.out.rows q hwq) e.symm; omega)).trans ((hd1.block _ (by have := HSZ.out; omega)).trans HJ1.out.out)
   have HNB : Hid (∀ b, (vs q).ownBlock = some b → w.heap.size + 3 ≤ b ∧ b < wr.heap.size) := fun b hb => own_base (HJ.out.rows q hwq) hb
   clear c5 hpl
   refine region_lastP (z := 8) (S := SS wr.heap.size ⟨id, x, y, v⟩ (w.heap.size + 1 + 1) q (vs q)) (by kernel_rfl) ?_
   change wpLast _ _ _ _ _ _ 9 _ _ _
   refine wpLast_take (i := 0) (v := ?_) (by kernel_rfl) rfl (by kernel_rfl) (by kernel_rfl) (by kernel_rfl) (fun _ _ _ h => h) (Or.inl ⟨by kernel_rfl, ?_⟩) HSW.out ?_
   rotate_left
   ·rintro w ⟨⟨e1,e2,e3,e4⟩,e5⟩; go_simp; try with_reducible rfl
   conv in (Act.put _ _ _) => simp only [List.getElem_toArray, List.getElem_cons_succ, List.getElem_cons_zero, Act.put, List.setIfInBounds_toArray, List.set_cons_succ, List.set_cons_zero]
   refine wpLast_take (i := 1) (v := ?_) (by kernel_rfl) rfl (by kernel_rfl) (by kernel_rfl) (by kernel_rfl) (fun _ _ _ h => h) (Or.inl ⟨by kernel_rfl, ?_⟩) HSW.out ?_
   rotate_left
   ·rintro w ⟨⟨e1,e2,e3,e4⟩,e5⟩; go_simp; try with_reducible rfl
   conv in (Act.put _ _ _) => simp only [List.getElem_toArray, List.getElem_cons_succ, List.getElem_cons_zero, Act.put, List.setIfInBounds_toArray, List.set_cons_succ, List.set_cons_zero]
   refine wpLast_take (i := 2) (v := ?_) (by kernel_rfl) rfl (by kernel_rfl) (by kernel_rfl) (by kernel_rfl) (fun _ _ _ h => h) (Or.inl ⟨by kernel_rfl, ?_⟩) HSW.out ?_
   rotate_left
   ·rintro w ⟨⟨e1,e2,e3,e4⟩,e5⟩; go_simp; try with_reducible rfl
   conv in (Act.put _ _ _) => simp only [List.getElem_toArray, List.getElem_cons_succ, List.getElem_cons_zero, Act.put, List.setIfInBounds_toArray, List.set_cons_succ, List.set_cons_zero]
   refine wpLast_take (i := 3) (v := ?_) (by kernel_rfl) rfl (by kernel_rfl) (by kernel_rfl) (by kernel_rfl) (fun _ _ _ h => h) (Or.inl ⟨by kernel_rfl, ?_⟩) HSW.out ?_
   rotate_left
   ·rintro w ⟨⟨e1,e2,e3,e4⟩,e5⟩; go_simp; try with_reducible rfl
   conv in (Act.put _ _ _) => simp only [List.getElem_toArray, List.getElem_cons_succ, List.getElem_cons_zero, Act.put, List.setIfInBounds_toArray, List.set_cons_succ, List.set_cons_zero]
   refine wpLast_take (i := 4) (v := ?_) (by kernel_rfl) rfl (by kernel_rfl) (by kernel_rfl) (by kernel_rfl) (fun _ _ _ h => h) (Or.inl ⟨by kernel_rfl, ?_⟩) HSW.out ?_
   rotate_left
   ·rintro w ⟨⟨e1,e2,e3,e4⟩,e5⟩; go_simp; try with_reducible rfl
   conv in (Act.put _ _ _) => simp only [List.getElem_toArray, List.getElem_cons_succ, List.getElem_cons_zero, Act.put, List.setIfInBounds_toArray, List.set_cons_succ, List.set_cons_zero]
   refine readyL 5 _ (by kernel_rfl) rfl (by kernel_rfl) (fun K hK => ?_)
   go_simp
   replace HSW : Hid (SS wr.heap.size ⟨id, x, y, v⟩ (w.heap.size + 1 + 1) q (vs q) (w1.alloc (.cells #[.int .u64 (id : Int), .int .u32 (x : Int), .int .u32 (y : Int), .string v] 54)).drew) := HSW.out.same (hd1.block _ hs1) (hd1.block _ (by have := HSZ.out; omega))
   refine hK _ _ HSW.out ?_
   clear hK K
   refine readyL 6 _ (by kernel_rfl) rfl (by kernel_rfl) (fun K hK => ?_)
   refine op_append 32 32 (.tmp 28) (.tmp 30) rfl rfl rfl hrun ?_
   replace HSW : Hid (SS wr.heap.size ⟨id, x, y, v⟩ (w.heap.size + 1 + 1) q (vs q) W') := HSW.out.same (a2.block _ (by simp; omega) (by intro e; have := HNB.out _ e.symm; omega)) (a2.block _ (by have := HSZ.out; simp; omega) (by intro e; have := HNB.out _ e.symm; omega))
   refine hK _ _ HSW.out ?_
   clear hK K
   conv in (Act.put _ _ _) => simp only [List.getElem_toArray, List.getElem_cons_succ, List.getElem_cons_zero, Act.put, List.setIfInBounds_toArray, List.set_cons_succ, List.set_cons_zero]
   refine wpLast_take (i := 7) (v := ?_) (by kernel_rfl) rfl (by kernel_rfl) (by kernel_rfl) (by kernel_rfl) (fun _ _ _ h => h) (Or.inl ⟨by kernel_rfl, ?_⟩) HSW.out ?_
   rotate_left
   ·rintro w ⟨⟨e1,e2,e3,e4⟩,e5⟩; go_simp; try with_reducible rfl
   conv in (Act.put _ _ _) => simp only [List.getElem_toArray, List.getElem_cons_succ, List.getElem_cons_zero, Act.put, List.setIfInBounds_toArray, List.set_cons_succ, List.set_cons_zero]
   refine wpLast_end rfl (by kernel_rfl) (by kernel_rfl) (by kernel_rfl) ?_
   have c6 := HSW.out.2
   go_simp
   clear c6 z6
   rename_i hKK
   refine hKK _ _ ?_
   clear hKK
   go_wp2_with fail
   go_roundw
   case rel => exact ⟨k + 1, by omega, by go_num, _, HFIN.out⟩
   case measure => simp [natOf]; omega
  ·obtain rfl : k = l.length := by omega
   have q1 : ¬ (l.length : Int) < (l.length : Int) := by omega
   obtain ⟨t0, t1, t2, t3⟩ := four_facts HJ.out.out
   obtain ⟨s0, s1, s2, s3⟩ := four_facts HJ.out.res
   have z0 := frozen_of_row wr (w.heap.size + 1) 0 _ _ HJ.out.res
   have z1 := frozen_of_row wr (w.heap.size + 1) 1 _ _ HJ.out.res
   have z2 := frozen_of_row wr (w.heap.size + 1) 2 _ _ HJ.out.res
   have z3 := frozen_of_row wr (w.heap.size + 1) 3 _ _ HJ.out.res
   have HR : Hid (∀ q, q < 4 → wr.ownsRow (w.heap.size + 3) 54 4 (vs q) (part l q).length ((part l q).flatMap rc)) := by
    intro q hq
    have := HJ.out.rows q hq
    have e : pk n l l.length q = part l q := by unfold pk part; rw [List.take_length, hn]; rfl
    rwa [e] at this
   have sl : ∀ q, q < 4 → ∃ o n c, vs q = .slice o n c := fun q hq => by
    obtain ⟨o, c, e, _⟩ := sl_of_own (HR.out q hq)
    exact ⟨o, _, c, e⟩
   obtain ⟨o0, n0, p0, e0⟩ := sl 0 (by omega)
   obtain ⟨o1, n1, p1, e1⟩ := sl 1 (by omega)
   obtain ⟨o2, n2, p2, e2⟩ := sl 2 (by omega)
   obtain ⟨o3, n3, p3, e3⟩ := sl 3 (by omega)
   obtain ⟨f1, f2⟩ := put_four HJ.out.res (vs 0) (vs 1) (vs 2) (vs 3)
   have F1 : Hid _ := f1
   have F2 : Hid _ := f2
   have E : Hid (.agg #[vs 0, vs 1, vs 2, vs 3] = Value.agg #[.slice o0 n0 p0, .slice o1 n1 p1, .slice o2 n2 p2, .slice o3 n3 p3]) := by rw [e0, e1, e2, e3]; exact rfl
   rw [e0, e1, e2, e3] at F1 F2
   have HSZ : Hid (w.heap.size + 3 ≤ wr.heap.size) := hsz
   clear hj hsz f1 f2 sl
   go_wp2_with fail
   refine bodyPost_ret (results_four rfl _ _ _ _ _ _ _ rfl F1.out) rfl ⟨vs, by rw [E.out], fun q hq => ?_, ?_⟩
   ·refine own_lower (own_same (HR.out q hq) fun b hb hlb => F2.out.1 b (by have := (own_base (HR.out q hq) hb).1; omega)) (by omega)
   ·exact HJ.out.bel.trans (F2.out.2.mono (by omega))
set_option maxRecDepth 100000 in
theorem list_append {P : Program} {ops : Array Oper} {rest : List Oper} {o : Oper} {a : Act} {w : World} {Q : Exit → Act → World → Prop} (hgd : o.guard = none) (t u : TypeId) (s x : Operand) (ho : o.op = .call { callee := .builtin .append, args := #[s, x], argTypes := #[t, u] })
  {vs vx v' : Value} {w' : World} (hs : a.eval s = vs) (hx : a.eval x = vx) (hrun : (Builtin.append_ #[t, u] o.type #[vs, vx]).run P w = .ok v' w') (h : wpList P ops Q rest (a.put o.dst v') w') : wpList P ops Q (o :: rest) a w :=
 wpList_plain hgd fun _ hK => by
  unfold Oper.wp execOp
  simp only [ho, resolve, invoke, builtin, Sem.run_bind, Sem.run_pure, Result.andThen_ok, List.map_toArray, List.map_cons, List.map_nil, hs, hx, hrun]
  exact hK _ _ h
set_option maxRecDepth 100000 in
theorem not_nil (a : Addr) (n c : Nat) (w : World) : (binOp .eql 32 (.slice (some a) n c) (.slice none 0 0)).run Try.prog w = .ok (.bool false) w := by kernel_rfl
set_option maxRecDepth 100000 in
set_option maxHeartbeats 1000000 in
theorem clone_any (l : List Rw) (o : Option Addr) (cap : Nat) (w : World) (hr : RowsAt w o cap l) (hne : 0 < l.length) (hmax : l.length ≤ 1000) :
  Calls Try.prog 63 #[.slice o l.length cap] w fun e w' => ∃ v, e = .returned v ∧ w'.ownsRow w.heap.size 54 4 v l.length (l.flatMap rc) ∧ Below w.heap.size w w' := by
 obtain ⟨b, off, rfl, hb, _⟩ := hr.row hne
 have h0 : w.alloc (.cells #[] 54) = w.alloc (.cells #[] 54) := rfl
 have hb0 := below_new w (.cells #[] 54)
 have hown : (w.alloc (.cells #[] 54)).ownsRow w.heap.size 54 4 (.slice (some ⟨w.heap.size, 0, none⟩) 0 0) 0 [] :=
  ⟨by simp, .inr ⟨w.heap.size, 0, #[], rfl, Nat.le_refl _, heap_alloc_new w _, Nat.le_refl _, by decide, rfl, rfl⟩⟩
 obtain ⟨v', W', hrun, a1, a2, a3⟩ := append_sl 32 54 Try.underlying32 infoRow rfl (by decide) (by decide) (w.alloc (.cells #[] 54)) w.heap.size 0 l.length (.slice (some ⟨w.heap.size, 0, none⟩) 0 0) (some ⟨b, off, none⟩) cap
    [] (l.flatMap rc) hown (by simp) (Sl.below hr hb0 (Nat.le_refl _)) (rc_one l) (by omega)
 have HB : Hid (Below w.heap.size w W') := hb0.grown a2 (by simp) fun k ek => by simp [Value.ownBlock] at ek; omega
 have HO : Hid (W'.ownsRow w.heap.size 54 4 v' l.length (l.flatMap rc)) := by
  have := a1
  rw [Nat.zero_add, List.nil_append] at this
  exact this
 clear a1 a2 a3 hown hb0 h0 hr
 have hn := fun w => not_nil ⟨b, off, none⟩ l.length cap w
 go_enter Try.func63, Try.ntmps63
 go_wp2_with (refine list_append rfl 32 32 (.tmp 5) (.tmp 6) rfl rfl rfl hrun ?_)
 go_ret
 exact ⟨v', rfl, HO.out, HB.out⟩
theorem leaf_nil : leaf [] = true := rfl
set_option maxRecDepth 100000 in
theorem node_nil (G : Nat → Prop) (d : Nat) (w : World) : NodeAt G (d + 1) w ⟨0, 0, 0, none, 0, 0, none, 0, 0⟩ [] :=
 ⟨rfl, rfl, rfl, fun _ => ⟨rfl, Sl.nil 4 w, fun h => absurd h (by decide), rfl, Sl.nil 5 w⟩, fun h => by rw [leaf_nil] at h; cases h⟩
set_option maxRecDepth 100000 in
theorem results_node {fn : Func} {p : Tmp} (h : fn.results = #[.cell p 45]) (tmps : Array Value) (w : World) (g : Nat) (a b c d e : Value) {t : TypeId}
  (hp : tmps.getD p undef = .pointer (some ⟨g, 0, none⟩)) (hg : w.heap[g]? = some (.cells #[a, b, c, d, e] t (0, 0))) : (results fn tmps).run Try.prog w = .ok (.agg #[a, b, c, d, e]) w := by
 have hp' : tmps[p]?.getD undef = .pointer (some ⟨g, 0, none⟩) := by simpa using hp
 have c0 : w.cell? ⟨g, 0, none⟩ = some a := by rw [cell_of_row _ _ _ _ _ _ hg]; rfl
 have c1 : w.cell? ⟨g, 1, none⟩ = some b := by rw [cell_of_row _ _ _ _ _ _ hg]; rfl
 have c2 : w.cell? ⟨g, 2, none⟩ = some c := by rw [cell_of_row _ _ _ _ _ _ hg]; rfl
 have c3 : w.cell? ⟨g, 3, none⟩ = some d := by rw [cell_of_row _ _ _ _ _ _ hg]; rfl
 have c4 : w.cell? ⟨g, 4, none⟩ = some e := by rw [cell_of_row _ _ _ _ _ _ hg]; rfl
 simp [results, h, hp', asAddr, go_sem, c0, c1, c2, c3, c4]
set_option maxRecDepth 100000 in
theorem node_facts {w : World} {g : Nat} {a b c d e : Value} {t : TypeId} (hg : w.heap[g]? = some (.cells #[a, b, c, d, e] t (0, 0))) :
  w.frozen? ⟨g, 0, none⟩ = false ∧ w.frozen? ⟨g, 1, none⟩ = false ∧ w.frozen? ⟨g, 2, none⟩ = false ∧ w.frozen? ⟨g, 3, none⟩ = false ∧ w.frozen? ⟨g, 4, none⟩ = false ∧
  w.cell? ⟨g, 0, none⟩ = some a ∧ w.cell? ⟨g, 1, none⟩ = some b ∧ w.cell? ⟨g, 2, none⟩ = some c ∧ w.cell? ⟨g, 3, none⟩ = some d ∧ w.cell? ⟨g, 4, none⟩ = some e :=
 ⟨frozen_of_row w g 0 _ _ hg, frozen_of_row w g 1 _ _ hg, frozen_of_row w g 2 _ _ hg, frozen_of_row w g 3 _ _ hg, frozen_of_row w g 4 _ _ hg, by rw [cell_of_row _ _ _ _ _ _ hg]; rfl, by rw [cell_of_row _ _ _ _ _ _ hg]; rfl, by rw [cell_of_row _ _ _ _ _ _ hg]; rfl, by rw [cell_of_row _ _ _ _ _ _ hg]; rfl, by rw [cell_of_row _ _ _ _ _ _ hg]; rfl⟩
set_option maxRecDepth 100000 in
theorem setc (w : World) (g k : Nat) (v : Value) {j : Nat} (hj : j ≠ g) : (w.setCell ⟨g, k, none⟩ v).heap[j]? = w.heap[j]? := Below.heap_setCell _ _ _ _ hj
set_option maxRecDepth 100000 in
set_option maxHeartbeats 2000000 in
theorem put_node {w : World} {g : Nat} {x0 x1 x2 x3 x4 : Value} {t : TypeId} (h : w.heap[g]? = some (.cells #[x0, x1, x2, x3, x4] t (0, 0))) (a b c d e : Value) :
  (((((w.setCell ⟨g, 0, none⟩ a).setCell ⟨g, 1, none⟩ b).setCell ⟨g, 2, none⟩ c).setCell ⟨g, 3, none⟩ d).setCell ⟨g, 4, none⟩ e).heap[g]? = some (.cells #[a, b, c, d, e] t (0, 0)) ∧
  (∀ j, j ≠ g → (((((w.setCell ⟨g, 0, none⟩ a).setCell ⟨g, 1, none⟩ b).setCell ⟨g, 2, none⟩ c).setCell ⟨g, 3, none⟩ d).setCell ⟨g, 4, none⟩ e).heap[j]? = w.heap[j]?) ∧
  Below g w (((((w.setCell ⟨g, 0, none⟩ a).setCell ⟨g, 1, none⟩ b).setCell ⟨g, 2, none⟩ c).setCell ⟨g, 3, none⟩ d).setCell ⟨g, 4, none⟩ e) := by
 have X1 := heap_setCell_same w g 0 _ _ a h
 have X2 := heap_setCell_same _ g 1 _ _ b X1
 have X3 := heap_setCell_same _ g 2 _ _ c X2
 have X4 := heap_setCell_same _ g 3 _ _ d X3
 have X5 := heap_setCell_same _ g 4 _ _ e X4
 have o : ∀ j, j ≠ g → (((((w.setCell ⟨g, 0, none⟩ a).setCell ⟨g, 1, none⟩ b).setCell ⟨g, 2, none⟩ c).setCell ⟨g, 3, none⟩ d).setCell ⟨g, 4, none⟩ e).heap[j]? = w.heap[j]? := fun j hj => by
  rw [setc _ _ _ _ hj, setc _ _ _ _ hj, setc _ _ _ _ hj, setc _ _ _ _ hj, setc _ _ _ _ hj]
 have b0 : ∀ (w : World) (k : Nat) (v : Value), Below g w (w.setCell ⟨g, k, none⟩ v) := fun w k v => ⟨rfl, rfl, rfl, by simp [World.setCell], fun j hj => setc w g k v (by omega)⟩
 exact ⟨X5, o, (b0 w 0 a).trans ((b0 _ 1 b).trans ((b0 _ 2 c).trans ((b0 _ 3 d).trans (b0 _ 4 e))))⟩
set_option maxRecDepth 100000 in
theorem cels_same {g X Y : Nat} {L : Int} {w w' : World} (h : CelS g X Y L w) (e : w'.heap[g]? = w.heap[g]?) : CelS g X Y L w' :=
 ⟨(World.cell?_of_block (a := ⟨g, 0, none⟩) e).trans h.1, (World.cell?_of_block (a := ⟨g, 1, none⟩) e).trans h.2.1, (World.cell?_of_block (a := ⟨g, 2, none⟩) e).trans h.2.2⟩
set_option maxRecDepth 100000 in
set_option maxHeartbeats 4000000 in
theorem tree_nil (d : Nat) (o : Option Addr) (cap : Nat) (w : World) :
  Calls Try.prog 33 #[.slice o 0 cap] w fun e w' => ∃ n : Nv, e = .returned (nv n) ∧ NodeAt (fun b => w.heap.size ≤ b) (d + 1) w' n [] ∧ Below w.heap.size w w' := by
 have HB : Hid (Below w.heap.size w (w.alloc (.cells #[.int .u32 0, .int .u32 0, .int .i64 0, .slice none 0 0, .slice none 0 0] 45))) := below_new w _
 have HG : Hid ((w.alloc (.cells #[.int .u32 0, .int .u32 0, .int .i64 0, .slice none 0 0, .slice none 0 0] 45)).heap[w.heap.size]? = some (.cells #[.int .u32 0, .int .u32 0, .int .i64 0, .slice none 0 0, .slice none 0 0] 45 (0, 0))) := heap_alloc_new w _
 go_enter Try.func33, Try.ntmps33
 go_wp2_with fail
 refine bodyPost_ret (results_node rfl _ _ _ _ _ _ _ _ rfl HG.out) rfl ⟨⟨0, 0, 0, none, 0, 0, none, 0, 0⟩, rfl, node_nil _ d _, HB.out⟩
set_option maxRecDepth 100000 in
set_option maxHeartbeats 4000000 in
theorem tree_leaf (d : Nat) (l : List Rw) (o : Option Addr) (cap : Nat) (w : World) (hr : RowsAt w o cap l) (hon : On l) (hmax : l.length ≤ 1000) (hne : 0 < l.length) (hlf : leaf l = true) :
  Calls Try.prog 33 #[.slice o l.length cap] w fun e w' => ∃ n : Nv, e = .returned (nv n) ∧ NodeAt (fun b => w.heap.size ≤ b) (d + 1) w' n l ∧ Below w.heap.size w w' := by
  have HLf : Hid (leaf l = true) := hlf
  have HCl : Hid (∀ W, RowsAt W o cap l → _) := fun W h => clone_any l o cap W h hne hmax

  have HHR : RowsAt (w.alloc (.cells #[.int .u32 0, .int .u32 0, .int .i64 0, .slice none 0 0, .slice none 0 0] 45)) o cap l := hr.below (below_new w _) (Nat.le_refl _)
  have HC : Hid _ := qleast_any l o cap (w.alloc (.cells #[.int .u32 0, .int .u32 0, .int .i64 0, .slice none 0 0, .slice none 0 0] 45)) HHR hne hon hmax
  have HG2n : Hid ((w.alloc (.cells #[.int .u32 0, .int .u32 0, .int .i64 0, .slice none 0 0, .slice none 0 0] 45)).heap[w.heap.size]? = some (.cells #[.int .u32 0, .int .u32 0, .int .i64 0, .slice none 0 0, .slice none 0 0] 45 (0, 0))) := heap_alloc_new w _
  have HBn : Hid (Below w.heap.size w (w.alloc (.cells #[.int .u32 0, .int .u32 0, .int .i64 0, .slice none 0 0, .slice none 0 0] 45))) := below_new w _
  have HR : Hid (RowsAt w o cap l) := hr
  obtain ⟨X, hX⟩ : ∃ X, cx l = X := ⟨_, rfl⟩
  obtain ⟨Y, hY⟩ : ∃ Y, cy l = Y := ⟨_, rfl⟩
  obtain ⟨L, hL⟩ : ∃ L : Int, (lev l : Int) = L := ⟨_, rfl⟩
  have HX : Hid (cx l = X) := hX
  have HY : Hid (cy l = Y) := hY
  have HL : Hid ((lev l : Int) = L) := hL
  rw [hX, hY, hL] at HC
  have q0 : ((l.length : Int) == 0) = false := by rw [beq_eq_false_iff_ne]; omega
  have n0 : ¬ l.length = 0 := by omega

  by_cases h4 : l.length ≤ 4
  ·have q1 : decide ((l.length : Int) ≤ 4) = true := decide_eq_true (by omega)
   clear hlf h4

   clear hr HHR hX hY hL
   go_enter Try.func33, Try.ntmps33
   go_wp2_with fail
   refine Calls.mono HC.out ?_
   rintro e W1 ⟨rfl, b1⟩
   have HG2a := (b1.block _ (by simp)).trans HG2n.out
   have hs1 : w.heap.size < W1.heap.size := by have := b1.size; simp at this; omega
   have HB2 : Hid (Below w.heap.size w (W1.alloc (.cells #[.int .u32 (X : Int), .int .u32 (Y : Int), .int .i64 L] 42))) := (HBn.out.trans (b1.mono (by simp))).trans ((below_new W1 _).mono (by omega))
   have HG2 : Hid ((W1.alloc (.cells #[.int .u32 (X : Int), .int .u32 (Y : Int), .int .i64 L] 42)).heap[w.heap.size]? = some (.cells #[.int .u32 0, .int .u32 0, .int .i64 0, .slice none 0 0, .slice none 0 0] 45 (0, 0))) := ((below_new W1 _).block _ hs1).trans HG2a
   have HG3 : Hid ((W1.alloc (.cells #[.int .u32 (X : Int), .int .u32 (Y : Int), .int .i64 L] 42)).heap[W1.heap.size]? = some (.cells #[.int .u32 (X : Int), .int .u32 (Y : Int), .int .i64 L] 42 (0, 0))) := heap_alloc_new W1 _
   clear b1 HG2a
   go_wp2_with fail
   have HG2s : Hid (w.heap.size < (W1.alloc (.cells #[.int .u32 (X : Int), .int .u32 (Y : Int), .int .i64 L] 42)).heap.size) := (Array.getElem?_eq_some_iff.1 HG2.out).1
   have HG3s : Hid (W1.heap.size < (W1.alloc (.cells #[.int .u32 (X : Int), .int .u32 (Y : Int), .int .i64 L] 42)).heap.size) := (Array.getElem?_eq_some_iff.1 HG3.out).1
   have HG32 : Hid (W1.heap.size ≠ w.heap.size) := Nat.ne_of_gt hs1
   obtain ⟨g3, hg3⟩ : ∃ g3, W1.heap.size = g3 := ⟨_, rfl⟩
   obtain ⟨W2, hW2⟩ : ∃ W2, W1.alloc (.cells #[.int .u32 (X : Int), .int .u32 (Y : Int), .int .i64 L] 42) = W2 := ⟨_, rfl⟩
   rw [hW2] at HB2 HG2 HG3 HG2s HG3s ⊢
   rw [hg3] at HG3 HG3s HG32 ⊢
   clear hW2 hg3 hs1 HC HG2n HBn
   obtain ⟨t0, t1, t2⟩ := Cel.cells HG3.out
   go_wp2_with fail

   have HSW : Hid (CelS g3 X Y L W2.drew) := Cel.cells HG3.out
   have HRW : Hid (RowsAt W2 o cap l) := HR.out.below HB2.out (Nat.le_refl _)
   clear t0 t1 t2
   refine wp_region_held (S := CelS g3 X Y L) (by kernel_rfl) ?_
   change wpAnyH _ _ _ _ _ _ _ _ (World.drew _)
   refine wpAnyH_take (i := 0) (v := ?_) rfl (by kernel_rfl) (by kernel_rfl) (by kernel_rfl) (fun _ _ _ h => h) (Or.inl ⟨by kernel_rfl, ?_⟩) HSW.out ?_
   rotate_left
   ·rintro w ⟨e1,e2,e3⟩; go_simp; try with_reducible rfl
   conv in (Act.put _ _ _) => simp only [List.getElem_toArray, List.getElem_cons_succ, List.getElem_cons_zero, Act.put, List.setIfInBounds_toArray, List.set_cons_succ, List.set_cons_zero]
   refine wpAnyH_take (i := 1) (v := ?_) rfl (by kernel_rfl) (by kernel_rfl) (by kernel_rfl) (fun _ _ _ h => h) (Or.inl ⟨by kernel_rfl, ?_⟩) HSW.out ?_
   rotate_left
   ·rintro w ⟨e1,e2,e3⟩; go_simp; try with_reducible rfl
   conv in (Act.put _ _ _) => simp only [List.getElem_toArray, List.getElem_cons_succ, List.getElem_cons_zero, Act.put, List.setIfInBounds_toArray, List.set_cons_succ, List.set_cons_zero]
   refine readyH 2 _ (by kernel_rfl) rfl (by kernel_rfl) (fun K hK => ?_)
   go_simp
   refine (HCl.out W2.drew (Sl.below HRW.out ((Below.refl _ W2).drew) (Nat.le_refl _))).mono ?_
   rintro e W3 ⟨v, rfl, o1, b1⟩
   replace b1 : Below W2.heap.size W2 W3 := (Below.refl _ W2).drew.trans b1
   replace HSW : Hid (CelS g3 X Y L W3) := CelS.below (Cel.cells HG3.out) b1 HG3s.out
   have HG2' : Hid (W3.heap[w.heap.size]? = some (.cells #[.int .u32 0, .int .u32 0, .int .i64 0, .slice none 0 0, .slice none 0 0] 45 (0, 0))) := (b1.block _ HG2s.out).trans HG2.out
   refine hK _ _ HSW.out ?_
   clear hK K
   obtain ⟨ro, rcap, rfl, sl⟩ := sl_of_own o1
   obtain ⟨n, hn⟩ : ∃ n, l.length = n := ⟨_, rfl⟩
   rw [hn]
   refine wpAnyH_take (i := 3) (v := ?_) rfl (by kernel_rfl) (by kernel_rfl) (by kernel_rfl) (fun _ _ _ h => h) (Or.inl ⟨by kernel_rfl, ?_⟩) HSW.out ?_
   rotate_left
   ·rintro w ⟨e1,e2,e3⟩; go_simp; try with_reducible rfl
   conv in (Act.put _ _ _) => simp only [List.getElem_toArray, List.getElem_cons_succ, List.getElem_cons_zero, Act.put, List.setIfInBounds_toArray, List.set_cons_succ, List.set_cons_zero]
   obtain ⟨z0, z1, z2, z3, z4, f0, f1, f2, f3, f4⟩ := node_facts HG2'.out
   obtain ⟨p1, p2, p3⟩ := put_node HG2'.out (.int .u32 (X : Int)) (.int .u32 (Y : Int)) (.int .i64 L) (.slice ro n rcap) (.slice none 0 0)
   have HP1 : Hid _ := p1
   have HP3 : Hid (Below w.heap.size w _) := HB2.out.trans ((b1.mono (Nat.le_of_lt HG2s.out)).trans p3)
   have HN : Hid (NodeAt (fun b => w.heap.size ≤ b) (d + 1) (((((W3.setCell ⟨w.heap.size, 0, none⟩ (.int .u32 (X : Int))).setCell ⟨w.heap.size, 1, none⟩ (.int .u32 (Y : Int))).setCell ⟨w.heap.size, 2, none⟩ (.int .i64 L)).setCell ⟨w.heap.size, 3, none⟩ (.slice ro n rcap)).setCell ⟨w.heap.size, 4, none⟩ (.slice none 0 0)) ⟨X, Y, lev l, ro, n, rcap, none, 0, 0⟩ l) := by
    refine (?_ : NodeAt (fun b => w.heap.size ≤ b) (d + 1) _ _ l)
    refine ⟨HX.out.symm, HY.out.symm, rfl, fun _ => ⟨hn.symm, ?_, fun _ b off e => ?_, rfl, Sl.nil 5 _⟩, fun h => by rw [HLf.out] at h; cases h⟩
    ·refine Sl.same sl (by simp [World.setCell]) fun b off e _ => p2 b ?_
     have hbb : W2.heap.size ≤ b := (own_base o1 (by have e' : ro = some ⟨b, off, none⟩ := e; rw [e']; rfl)).1
     have := HG2s.out; omega
    ·have hbb : W2.heap.size ≤ b := (own_base o1 (by have e' : ro = some ⟨b, off, none⟩ := e; rw [e']; rfl)).1
     have := HG2s.out; omega
   replace HSW : Hid (CelS g3 X Y L (((((W3.setCell ⟨w.heap.size, 0, none⟩ (.int .u32 (X : Int))).setCell ⟨w.heap.size, 1, none⟩ (.int .u32 (Y : Int))).setCell ⟨w.heap.size, 2, none⟩ (.int .i64 L)).setCell ⟨w.heap.size, 3, none⟩ (.slice ro n rcap)).setCell ⟨w.heap.size, 4, none⟩ (.slice none 0 0))) := cels_same HSW.out (p2 g3 HG32.out)
   clear p1 p2 p3 b1 o1 sl
   refine readyH 4 _ (by kernel_rfl) rfl (by kernel_rfl) (fun K hK => ?_)
   go_simp
   refine hK _ _ HSW.out ?_
   clear hK K
   refine wpAnyH_done (by kernel_rfl) ?_ _
   go_wp2_with fail
   refine bodyPost_ret (results_node rfl _ _ _ _ _ _ _ _ rfl HP1.out) rfl ⟨⟨X, Y, lev l, ro, n, rcap, none, 0, 0⟩, ?_, HN.out, HP3.out⟩
   rw [← HL.out]

  ·have q1 : decide ((l.length : Int) ≤ 4) = false := decide_eq_false (by omega)
   have q2 : (L == 0) = true := by
    rw [beq_iff_eq, ← hL]
    unfold leaf at hlf
    rw [decide_eq_true_iff] at hlf
    omega
   clear hlf h4

   clear hr HHR hX hY hL
   go_enter Try.func33, Try.ntmps33
   go_wp2_with fail
   refine Calls.mono HC.out ?_
   rintro e W1 ⟨rfl, b1⟩
   have HG2a := (b1.block _ (by simp)).trans HG2n.out
   have hs1 : w.heap.size < W1.heap.size := by have := b1.size; simp at this; omega
   have HB2 : Hid (Below w.heap.size w (W1.alloc (.cells #[.int .u32 (X : Int), .int .u32 (Y : Int), .int .i64 L] 42))) := (HBn.out.trans (b1.mono (by simp))).trans ((below_new W1 _).mono (by omega))
   have HG2 : Hid ((W1.alloc (.cells #[.int .u32 (X : Int), .int .u32 (Y : Int), .int .i64 L] 42)).heap[w.heap.size]? = some (.cells #[.int .u32 0, .int .u32 0, .int .i64 0, .slice none 0 0, .slice none 0 0] 45 (0, 0))) := ((below_new W1 _).block _ hs1).trans HG2a
   have HG3 : Hid ((W1.alloc (.cells #[.int .u32 (X : Int), .int .u32 (Y : Int), .int .i64 L] 42)).heap[W1.heap.size]? = some (.cells #[.int .u32 (X : Int), .int .u32 (Y : Int), .int .i64 L] 42 (0, 0))) := heap_alloc_new W1 _
   clear b1 HG2a
   go_wp2_with fail
   have HG2s : Hid (w.heap.size < (W1.alloc (.cells #[.int .u32 (X : Int), .int .u32 (Y : Int), .int .i64 L] 42)).heap.size) := (Array.getElem?_eq_some_iff.1 HG2.out).1
   have HG3s : Hid (W1.heap.size < (W1.alloc (.cells #[.int .u32 (X : Int), .int .u32 (Y : Int), .int .i64 L] 42)).heap.size) := (Array.getElem?_eq_some_iff.1 HG3.out).1
   have HG32 : Hid (W1.heap.size ≠ w.heap.size) := Nat.ne_of_gt hs1
   obtain ⟨g3, hg3⟩ : ∃ g3, W1.heap.size = g3 := ⟨_, rfl⟩
   obtain ⟨W2, hW2⟩ : ∃ W2, W1.alloc (.cells #[.int .u32 (X : Int), .int .u32 (Y : Int), .int .i64 L] 42) = W2 := ⟨_, rfl⟩
   rw [hW2] at HB2 HG2 HG3 HG2s HG3s ⊢
   rw [hg3] at HG3 HG3s HG32 ⊢
   clear hW2 hg3 hs1 HC HG2n HBn
   obtain ⟨t0, t1, t2⟩ := Cel.cells HG3.out
   go_wp2_with fail

   have HSW : Hid (CelS g3 X Y L W2.drew) := Cel.cells HG3.out
   have HRW : Hid (RowsAt W2 o cap l) := HR.out.below HB2.out (Nat.le_refl _)
   clear t0 t1 t2
   refine wp_region_held (S := CelS g3 X Y L) (by kernel_rfl) ?_
   change wpAnyH _ _ _ _ _ _ _ _ (World.drew _)
   refine wpAnyH_take (i := 0) (v := ?_) rfl (by kernel_rfl) (by kernel_rfl) (by kernel_rfl) (fun _ _ _ h => h) (Or.inl ⟨by kernel_rfl, ?_⟩) HSW.out ?_
   rotate_left
   ·rintro w ⟨e1,e2,e3⟩; go_simp; try with_reducible rfl
   conv in (Act.put _ _ _) => simp only [List.getElem_toArray, List.getElem_cons_succ, List.getElem_cons_zero, Act.put, List.setIfInBounds_toArray, List.set_cons_succ, List.set_cons_zero]
   refine wpAnyH_take (i := 1) (v := ?_) rfl (by kernel_rfl) (by kernel_rfl) (by kernel_rfl) (fun _ _ _ h => h) (Or.inl ⟨by kernel_rfl, ?_⟩) HSW.out ?_
   rotate_left
   ·rintro w ⟨e1,e2,e3⟩; go_simp; try with_reducible rfl
   conv in (Act.put _ _ _) => simp only [List.getElem_toArray, List.getElem_cons_succ, List.getElem_cons_zero, Act.put, List.setIfInBounds_toArray, List.set_cons_succ, List.set_cons_zero]
   refine readyH 2 _ (by kernel_rfl) rfl (by kernel_rfl) (fun K hK => ?_)
   go_simp
   refine (HCl.out W2.drew (Sl.below HRW.out ((Below.refl _ W2).drew) (Nat.le_refl _))).mono ?_
   rintro e W3 ⟨v, rfl, o1, b1⟩
   replace b1 : Below W2.heap.size W2 W3 := (Below.refl _ W2).drew.trans b1
   replace HSW : Hid (CelS g3 X Y L W3) := CelS.below (Cel.cells HG3.out) b1 HG3s.out
   have HG2' : Hid (W3.heap[w.heap.size]? = some (.cells #[.int .u32 0, .int .u32 0, .int .i64 0, .slice none 0 0, .slice none 0 0] 45 (0, 0))) := (b1.block _ HG2s.out).trans HG2.out
   refine hK _ _ HSW.out ?_
   clear hK K
   obtain ⟨ro, rcap, rfl, sl⟩ := sl_of_own o1
   obtain ⟨n, hn⟩ : ∃ n, l.length = n := ⟨_, rfl⟩
   rw [hn]
   refine wpAnyH_take (i := 3) (v := ?_) rfl (by kernel_rfl) (by kernel_rfl) (by kernel_rfl) (fun _ _ _ h => h) (Or.inl ⟨by kernel_rfl, ?_⟩) HSW.out ?_
   rotate_left
   ·rintro w ⟨e1,e2,e3⟩; go_simp; try with_reducible rfl
   conv in (Act.put _ _ _) => simp only [List.getElem_toArray, List.getElem_cons_succ, List.getElem_cons_zero, Act.put, List.setIfInBounds_toArray, List.set_cons_succ, List.set_cons_zero]
   obtain ⟨z0, z1, z2, z3, z4, f0, f1, f2, f3, f4⟩ := node_facts HG2'.out
   obtain ⟨p1, p2, p3⟩ := put_node HG2'.out (.int .u32 (X : Int)) (.int .u32 (Y : Int)) (.int .i64 L) (.slice ro n rcap) (.slice none 0 0)
   have HP1 : Hid _ := p1
   have HP3 : Hid (Below w.heap.size w _) := HB2.out.trans ((b1.mono (Nat.le_of_lt HG2s.out)).trans p3)
   have HN : Hid (NodeAt (fun b => w.heap.size ≤ b) (d + 1) (((((W3.setCell ⟨w.heap.size, 0, none⟩ (.int .u32 (X : Int))).setCell ⟨w.heap.size, 1, none⟩ (.int .u32 (Y : Int))).setCell ⟨w.heap.size, 2, none⟩ (.int .i64 L)).setCell ⟨w.heap.size, 3, none⟩ (.slice ro n rcap)).setCell ⟨w.heap.size, 4, none⟩ (.slice none 0 0)) ⟨X, Y, lev l, ro, n, rcap, none, 0, 0⟩ l) := by
    refine (?_ : NodeAt (fun b => w.heap.size ≤ b) (d + 1) _ _ l)
    refine ⟨HX.out.symm, HY.out.symm, rfl, fun _ => ⟨hn.symm, ?_, fun _ b off e => ?_, rfl, Sl.nil 5 _⟩, fun h => by rw [HLf.out] at h; cases h⟩
    ·refine Sl.same sl (by simp [World.setCell]) fun b off e _ => p2 b ?_
     have hbb : W2.heap.size ≤ b := (own_base o1 (by have e' : ro = some ⟨b, off, none⟩ := e; rw [e']; rfl)).1
     have := HG2s.out; omega
    ·have hbb : W2.heap.size ≤ b := (own_base o1 (by have e' : ro = some ⟨b, off, none⟩ := e; rw [e']; rfl)).1
     have := HG2s.out; omega
   replace HSW : Hid (CelS g3 X Y L (((((W3.setCell ⟨w.heap.size, 0, none⟩ (.int .u32 (X : Int))).setCell ⟨w.heap.size, 1, none⟩ (.int .u32 (Y : Int))).setCell ⟨w.heap.size, 2, none⟩ (.int .i64 L)).setCell ⟨w.heap.size, 3, none⟩ (.slice ro n rcap)).setCell ⟨w.heap.size, 4, none⟩ (.slice none 0 0))) := cels_same HSW.out (p2 g3 HG32.out)
   clear p1 p2 p3 b1 o1 sl
   refine readyH 4 _ (by kernel_rfl) rfl (by kernel_rfl) (fun K hK => ?_)
   go_simp
   refine hK _ _ HSW.out ?_
   clear hK K
   refine wpAnyH_done (by kernel_rfl) ?_ _
   go_wp2_with fail
   refine bodyPost_ret (results_node rfl _ _ _ _ _ _ _ _ rfl HP1.out) rfl ⟨⟨X, Y, lev l, ro, n, rcap, none, 0, 0⟩, ?_, HN.out, HP3.out⟩
   rw [← HL.out]

end Go.Proofs.Ytimdlohdmddnjaa.Rq
