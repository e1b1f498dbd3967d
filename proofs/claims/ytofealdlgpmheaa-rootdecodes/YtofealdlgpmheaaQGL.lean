/- A region that reads, in whatever order, and writes at its end. -/
import Derived.Test.YtofealdlgpmheaaQGB
import Derived.OrdersHeld
import Derived.Laws.IdiomStrings
namespace Go.Proofs.Ytofealdlgpmheaa.Rq
open Go.RowKit
section
variable {P : Program} {ops : Array Oper} {Q : Exit → Act → World → Prop} {md : Region.Mode} {S : World → Prop}
/-- Whatever order is picked; behind each operation but the last one a condition holds of the world. -/
def wpLast (P : Program) (md : Region.Mode) (ops : Array Oper) (Q : Exit → Act → World → Prop) (S : World → Prop) (z : Nat) : Nat → Array Bool → Act → World → Prop
  | 0, listed, a, w => Region.ready md ops listed = [] ∧ Q .normal a w
  | fuel + 1, listed, a, w =>
    (Region.ready md ops listed = [] → Q .normal a w) ∧
    ∀ i ∈ Region.ready md ops listed, wpOp P ops Q i (fun a' w' => (i ≠ z → S w') ∧ wpLast P md ops Q S z fuel (listed.setIfInBounds i true) a' w') a w
/-- The last one waits for another one. -/
def waitsOn (md : Region.Mode) (ops : Array Oper) (z j : Nat) : Bool :=
  match ops[z]? with
  | some oz => oz.after.any fun e => e.on == j && Region.binds md e
  | none => false
theorem last_waits {z j : Nat} {listed : Array Bool} (h : waitsOn md ops z j = true) (hz : z ∈ Region.ready md ops listed) : listed.getD j false = true := by
  obtain ⟨_, oz, ho, hall⟩ := mem_ready.1 hz
  unfold waitsOn at h
  rw [ho] at h
  simp only [Array.any_eq_true, Bool.and_eq_true, beq_iff_eq] at h
  obtain ⟨k, hk, h1, h2⟩ := h
  rw [← h1]
  exact hall _ (Array.getElem_mem hk) h2
theorem wpLast_first {z i : Nat} (hwz : waitsOn md ops z i = true) {oi : Oper} {v : Value} (hi : ops[i]? = some oi) (hsel : ∀ (j : Nat) (o : Oper) cs b, ops[j]? = some o → o.op ≠ .select cs b)
    (hQ : ∀ c a w, Q (.panic c) (a.put oi.dst v) w → Q (.panic c) a w) :
    ∀ (fuel : Nat) (listed : Array Bool) (a : Act) (w : World),
      (∀ j oj, ops[j]? = some oj → j ≠ i → listed.getD j true = false → (∀ e ∈ oj.after, Region.binds md e = true → e.on ≠ i) → oi.apart ops oj = true) →
      i ∈ Region.ready md ops listed → YieldsIf P ops S oi v a → S w →
      wpLast P md ops Q S z fuel (listed.setIfInBounds i true) (a.put oi.dst v) w → wpLast P md ops Q S z (fuel + 1) listed a w := by
  intro fuel
  induction fuel with
  | zero =>
    intro listed a w _ hr hy hS H
    refine ⟨fun h => (by rw [h] at hr; cases hr), fun j hj => ?_⟩
    by_cases hji : j = i
    · subst hji; exact hy.wpOp hi hS ⟨fun _ => hS, H⟩
    · have := ready_mono hj hji
      rw [H.1] at this
      cases this
  | succ fuel ih =>
    intro listed a w hfree hr hy hS H
    refine ⟨fun h => (by rw [h] at hr; cases hr), fun j hj => ?_⟩
    by_cases hji : j = i
    · subst hji; exact hy.wpOp hi hS ⟨fun _ => hS, H⟩
    · have hjz : j ≠ z := fun e => by
        subst e
        have h1 := last_waits hwz hj
        have h0 := (mem_ready.1 hr).1
        rcases Nat.lt_or_ge i listed.size with h' | h'
        · simp [h'] at h0 h1; rw [h0] at h1; cases h1
        · simp [Array.getElem?_eq_none h'] at h1
      have h1 := H.2 j (ready_mono hj hji)
      obtain ⟨hjun, oj, hoj, hall⟩ := mem_ready.1 hj
      have hnot : ∀ e ∈ oj.after, Region.binds md e = true → e.on ≠ i := fun e he hb heq => by
        have h1 := hall e he hb
        have h0 := (mem_ready.1 hr).1
        rw [heq] at h1
        rcases Nat.lt_or_ge i listed.size with h' | h'
        · simp [h'] at h0 h1; rw [h0] at h1; cases h1
        · simp [Array.getElem?_eq_none h'] at h1
      have h2 := wpOp_putIf hoj (hfree j oj hoj hji hjun hnot) (fun cs b => hsel i oi cs b hi) (fun cs b => hsel j oj cs b hoj) hQ hy h1
      have hfree' : ∀ k ok, ops[k]? = some ok → k ≠ i → (listed.setIfInBounds j true).getD k true = false →
          (∀ e ∈ ok.after, Region.binds md e = true → e.on ≠ i) → oi.apart ops ok = true := fun k ok hk hki hun hno => by
        refine hfree k ok hk hki ?_ hno
        by_cases hjk : j = k
        · subst hjk; exact hjun
        · rw [getD_set_ne true hjk] at hun; exact hun
      refine wpOp_mono (fun a' w' h3 => ⟨fun _ => h3.2.1 hjz, ih (listed.setIfInBounds j true) a' w' hfree' (ready_mono hr (Ne.symm hji)) h3.1 (h3.2.1 hjz) ?_⟩) h2
      rw [Array.setIfInBounds_comm _ _ hji]
      exact h3.2.2
theorem wpLast_take {z i : Nat} (hwz : waitsOn md ops z i = true) {oi : Oper} {v : Value} {fuel : Nat} {listed : Array Bool} {a : Act} {w : World} (hi : ops[i]? = some oi)
    (hs : Region.noSelect ops = true) (hf : Region.free md ops listed i = true) (hr : (Region.ready md ops listed).contains i = true)
    (hQ : ∀ c a w, Q (.panic c) (a.put oi.dst v) w → Q (.panic c) a w) (hy : YieldsIf P ops S oi v a) (hS : S w)
    (h : wpLast P md ops Q S z fuel (listed.setIfInBounds i true) (a.put oi.dst v) w) : wpLast P md ops Q S z (fuel + 1) listed a w :=
  wpLast_first hwz hi (Region.noSelect_spec hs) hQ fuel listed a w (Region.free_spec hi hf) (by simpa using hr) hy hS h
/-- The only one that may come up. -/
theorem wpLast_one {z i : Nat} {oi : Oper} {v : Value} {fuel : Nat} {listed : Array Bool} {a : Act} {w : World} (hi : ops[i]? = some oi) (hr : Region.ready md ops listed = [i]) (hy : YieldsIf P ops S oi v a) (hS : S w)
    (h : wpLast P md ops Q S z fuel (listed.setIfInBounds i true) (a.put oi.dst v) w) : wpLast P md ops Q S z (fuel + 1) listed a w := by
  refine ⟨fun h0 => (by rw [hr] at h0; cases h0), fun k hk => ?_⟩
  rw [hr, List.mem_singleton] at hk
  subst hk
  exact hy.wpOp hi hS ⟨fun _ => hS, h⟩
/-- The last one. -/
theorem wpLast_end {z : Nat} {oz : Oper} {listed : Array Bool} {a : Act} {w : World} (ho : ops[z]? = some oz) (hr : Region.ready md ops listed = [z]) (hr2 : Region.ready md ops (listed.setIfInBounds z true) = [])
    (hw : Region.wanted oz (yielded ops a.tmps) = true) (h : oz.wp P a w (fun a' w' => Q .normal a' w') Q) : wpLast P md ops Q S z 1 listed a w := by
  refine ⟨fun h0 => (by rw [hr] at h0; cases h0), fun i hi => ?_⟩
  rw [hr, List.mem_singleton] at hi
  subst hi
  unfold wpOp
  simp only [ho, hw, if_true]
  exact .inl (Oper.wp_mono (fun a' w' hq => ⟨fun e => absurd rfl e, hr2, hq⟩) h)
theorem any_of_last {z : Nat} : ∀ (fuel : Nat) (listed : Array Bool) (a : Act) (w : World), wpLast P md ops Q S z fuel listed a w → wpAny P md ops Q fuel listed a w
  | 0, _, _, _, h => h
  | fuel + 1, _, _, _, h => ⟨h.1, fun i hi => wpOp_mono (fun a w hq => any_of_last fuel _ a w hq.2) (h.2 i hi)⟩
theorem region_lastP {z id : Nat} {a : Act} {w : World} (hm : P.follows .mixedOrders = true) (h : wpLast P .any ops Q S z ops.size (Array.replicate ops.size false) a w.drew) : (Code.region id ops true).wp P Q a w :=
  wp_region_any hm (any_of_last _ _ _ _ h)
/-- One alone may come up, and it is wanted. -/
theorem readyL {z fuel : Nat} {listed : Array Bool} {a : Act} {w : World} (k : Nat) (o : Oper) (hr : Region.ready md ops listed = [k]) (ho : ops[k]? = some o) (hw : Region.wanted o (yielded ops a.tmps) = true)
    (h : ∀ K : Act → World → Prop, (∀ a w, S w → wpLast P md ops Q S z fuel (listed.setIfInBounds k true) a w → K a w) → Oper.wp P o a w K Q) : wpLast P md ops Q S z (fuel + 1) listed a w := by
  refine ⟨fun h0 => (by rw [hr] at h0; cases h0), fun j hj => ?_⟩
  rw [hr, List.mem_singleton] at hj
  subst hj
  unfold wpOp
  simp only [ho, hw, if_true]
  exact .inl (h _ fun a w h1 h2 => ⟨fun _ => h1, h2⟩)
/-- The built-in append, by its run. -/
theorem op_append {o : Oper} {a : Act} {w : World} {K : Act → World → Prop} (t u : TypeId) (s x : Operand) (ho : o.op = .call { callee := .builtin .append, args := #[s, x], argTypes := #[t, u] })
    {vs vx v' : Value} {w' : World} (hs : a.eval s = vs) (hx : a.eval x = vx) (hrun : (Builtin.append_ #[t, u] o.type #[vs, vx]).run P w = .ok v' w') (hK : K (a.put o.dst v') w') : Oper.wp P o a w K Q := by
  unfold Oper.wp execOp
  simp only [ho, resolve, invoke, builtin, Sem.run_bind, Sem.run_pure, Result.andThen_ok, List.map_toArray, List.map_cons, List.map_nil, hs, hx, hrun]
  exact hK
end
end Go.Proofs.Ytofealdlgpmheaa.Rq
/- A row of bytes in a box; a region in a round that reads in whatever order and writes at its end. -/
namespace Go.Proofs.Ytofealdlgpmheaa.Ro
open Go.RowKit Go.Lib Go.Shelf
open Go.Proofs.Ytofealdlgpmheaa.Rc Go.Proofs.Ytofealdlgpmheaa.Rq
section
variable {P : Program} {ops : Array Oper} {Q : Exit → Act → World → Prop} {md : Region.Mode} {S : World → Prop}
set_option maxRecDepth 100000 in
/-- An operation that calls no function and defers nothing, in a round. -/
theorem opIn_of_op {n l : Nat} {o : Oper} {a : Act} {w : World} {K : Act → World → Prop} (hd : ∀ c, o.op ≠ .defer c) (h : o.wp P a w K Q) : o.wpIn (Fence.wide.inRound l) n P a w K Q := by
  refine ⟨fun _ _ => trivial, ?_⟩
  rw [Oper.semAt_eq _ _ _ hd]
  unfold Oper.wp at h
  generalize (execOp a.eval o).run P w = r at *
  cases r with
  | ok x w' =>
    cases x <;> simp only [Oper.upon, Oper.uponIn] at h ⊢
    case value => exact h
    case skip => exact h
    case defer => exact h
    case enter f args => exact ⟨fun e => (by cases e), CallsIn.inRound l (callsIn_wide.2 h)⟩
    case row row args => exact ⟨fun e => (by cases e), fun c cs _ => let ⟨v, w2, r, st⟩ := h c cs; ⟨v, w2, r, stepsIn_wide.2 st⟩⟩
  | halt x w' =>
    cases x <;> simp only [Oper.upon, Oper.uponIn] at h ⊢
    case panic => exact h
set_option maxRecDepth 100000 in
theorem anyIn_of_last {z n l : Nat} (hd : ∀ o ∈ ops, ∀ c, o.op ≠ .defer c) (hQ : ¬ LetsOut Q) :
    ∀ (fuel : Nat) (listed : Array Bool) (a : Act) (w : World), wpLast P md ops Q S z fuel listed a w → wpAnyIn (Fence.wide.inRound l) n P md ops Q fuel listed a w
  | 0, _, _, _, h => h
  | fuel + 1, listed, a, w, h => by
    refine ⟨h.1, fun i hi => ?_⟩
    have h2 := h.2 i hi
    unfold wpOp at h2
    unfold wpOpIn
    cases ho : ops[i]? with
    | none => rw [ho] at h2; exact anyIn_of_last hd hQ fuel _ _ _ h2.2
    | some o =>
      rw [ho] at h2
      simp only at h2 ⊢
      split
      · rename_i hw
        rw [if_pos hw] at h2
        rcases h2 with h2 | ⟨_, h2⟩
        · refine opIn_of_op (hd o (Array.mem_of_getElem? ho)) (Oper.wp_mono (fun a' w' hk => anyIn_of_last hd hQ fuel _ _ _ hk.2) h2)
        · exact absurd h2 hQ
      · rename_i hw
        rw [if_neg hw] at h2
        exact ⟨fun _ _ => trivial, anyIn_of_last hd hQ fuel _ _ _ h2.2⟩
/-- Nothing is deferred. -/
def noDefer (ops : Array Oper) : Bool := ops.all fun o => match o.op with | .defer _ => false | _ => true
set_option maxRecDepth 100000 in
theorem region_last {z n l id : Nat} {a : Act} {w : World} (hm : P.follows .mixedOrders = true) (hd : noDefer ops = true) (hQ : ¬ LetsOut Q)
    (h : wpLast P .any ops Q S z ops.size (Array.replicate ops.size false) a w.drew) : (Code.region id ops true).wpIn (Fence.wide.inRound l) n P Q a w :=
  wpIn_region_any hm (anyIn_of_last (fun o ho c hc => by have := Array.all_eq_true_iff_forall_mem.1 hd o ho; rw [hc] at this; cases this) hQ _ _ _ _ h)
end
/-- Bytes as the cells of a row. -/
def bc (bs : List UInt8) : List Value := bs.map fun b => .int .u8 (b.toNat : Int)
set_option maxRecDepth 100000 in
theorem bc_len (bs : List UInt8) : (bc bs).length = bs.length := by simp [bc]
set_option maxRecDepth 100000 in
theorem bc_append (a b : List UInt8) : bc (a ++ b) = bc a ++ bc b := by simp [bc]
set_option maxRecDepth 100000 in
theorem bc_one (bs : List UInt8) : ∀ u ∈ bc bs, u.oneCell' = true := by
  intro u hu
  obtain ⟨b, -, rfl⟩ := List.mem_map.1 hu
  rfl
set_option maxRecDepth 100000 in
theorem infoByte : (Try.prog.info? 5).map (fun i => (i.zero, i.size, i.bytes)) = some (some (.int .u8 0), 1, 1) := by kernel_rfl
set_option maxRecDepth 100000 in
theorem list_append {P : Program} {ops : Array Oper} {rest : List Oper} {o : Oper} {a : Act} {w : World} {Q : Exit → Act → World → Prop} (hgd : o.guard = none) (t u : TypeId) (s x : Operand) (ho : o.op = .call { callee := .builtin .append, args := #[s, x], argTypes := #[t, u] })
    {vs vx v' : Value} {w' : World} (hs : a.eval s = vs) (hx : a.eval x = vx) (hrun : (Builtin.append_ #[t, u] o.type #[vs, vx]).run P w = .ok v' w') (h : wpList P ops Q rest (a.put o.dst v') w') : wpList P ops Q (o :: rest) a w :=
  wpList_plain hgd fun _ hK => by
    unfold Oper.wp execOp
    simp only [ho, resolve, invoke, builtin, Sem.run_bind, Sem.run_pure, Result.andThen_ok, List.map_toArray, List.map_cons, List.map_nil, hs, hx, hrun]
    exact hK _ _ h
set_option maxRecDepth 100000 in
theorem own_same1 {W W' : World} {base : Nat} {v : Value} {n : Nat} {xs : List Value} (h : W.ownsRow base 5 1 v n xs) (hs : ∀ b, v.ownBlock = some b → b < W.heap.size → W'.heap[b]? = W.heap[b]?) : W'.ownsRow base 5 1 v n xs := by
  refine ⟨h.1, ?_⟩
  rcases h.2 with h2 | ⟨g, cap, cur, rfl, h2, h3, h4⟩
  · exact .inl h2
  · exact .inr ⟨g, cap, cur, rfl, h2, (hs g rfl (Array.getElem?_eq_some_iff.1 h3).1).trans h3, h4⟩
set_option maxRecDepth 100000 in
theorem own_base1 {W : World} {base : Nat} {v : Value} {n : Nat} {xs : List Value} (h : W.ownsRow base 5 1 v n xs) {b : Nat} (hb : v.ownBlock = some b) : base ≤ b ∧ b < W.heap.size := by
  rcases h.2 with ⟨rfl, -⟩ | ⟨g, cap, cur, rfl, h2, h3, -⟩
  · simp [Value.ownBlock] at hb
  · simp [Value.ownBlock] at hb
    subst hb
    exact ⟨h2, (Array.getElem?_eq_some_iff.1 h3).1⟩
/-- A writer, what it has gathered, and the blocks that are its own. -/
structure Wr (g : Nat) (own : Nat → Prop) (bs : List UInt8) (W : World) : Prop where
  cell : ∃ v, W.heap[g]? = some (.cells #[v] 42 (0, 0)) ∧ W.ownsRow (g + 1) 5 1 v bs.length (bc bs) ∧ ∀ b, v.ownBlock = some b → own b
  mine : own g
  out : ∀ j, own j → g ≤ j ∧ j < W.heap.size
set_option maxRecDepth 100000 in
theorem Wr.lt {g : Nat} {own : Nat → Prop} {bs : List UInt8} {W : World} (h : Wr g own bs W) : g < W.heap.size := (h.out g h.mine).2
set_option maxRecDepth 100000 in
theorem Wr.but {g : Nat} {own S : Nat → Prop} {bs : List UInt8} {W W' : World} (h : Wr g own bs W) (hb : But S W W') (hS : ∀ j, own j → ¬ S j) : Wr g own bs W' := by
  obtain ⟨v, h1, h2, h3⟩ := h.cell
  exact ⟨⟨v, (hb.block _ h.lt (hS _ h.mine)).trans h1, own_same1 h2 fun b hb' hlt => hb.block b hlt (hS b (h3 b hb')), h3⟩, h.mine, fun j hj => ⟨(h.out j hj).1, Nat.lt_of_lt_of_le (h.out j hj).2 hb.size⟩⟩
set_option maxRecDepth 100000 in
theorem Wr.next {g : Nat} {own : Nat → Prop} {bs : List UInt8} {W W' : World} (h : Wr g own bs W) (hb : Below W.heap.size W W') : Wr g own bs W' := h.but (S := fun _ => False) (But.of_below hb) fun _ _ e => e
set_option maxRecDepth 100000 in
theorem conv_wr {g : Nat} {own : Nat → Prop} {bs : List UInt8} {W : World} (h : Wr g own bs W) (hne : 0 < bs.length) : ∃ o cap, W.cell? ⟨g, 0, none⟩ = some (.slice o bs.length cap) ∧ (convert 42 9 (.slice o bs.length cap)).run Try.prog W = .ok (.string ⟨bs.toArray⟩) W := by
  obtain ⟨v, h1, h2, -⟩ := h.cell
  obtain ⟨o, cap, rfl, hs⟩ := sl_of_own h2
  refine ⟨o, cap, by rw [cell_of_row _ _ _ _ _ _ h1]; rfl, ?_⟩
  obtain ⟨b, off, rfl, hlt, hc⟩ := hs.2.2.2.2 hne
  refine run_convert_bytes_back W 42 9 5 ⟨b, off, none⟩ cap bs Try.underlying42 Try.underlying5 Try.underlying9 fun j hj => ?_
  rw [Addr.add_lit]
  refine hc j _ ?_
  simp [bc, List.getElem?_eq_getElem hj]
/-- What lies there within a walk that lays bytes behind each other. -/
structure PN (g : Nat) (own0 : Nat → Prop) (Wf : World) (own : Nat → Prop) (xs : List UInt8) (W : World) : Prop where
  wr : Wr g own xs W
  new : ∀ j, own j → own0 j ∨ Wf.heap.size ≤ j
  but : But own0 Wf W
set_option maxRecDepth 100000 in
theorem PN.kw {g : Nat} {own0 : Nat → Prop} {Wf : World} {own : Nat → Prop} {xs : List UInt8} {W W' : World} (h : PN g own0 Wf own xs W) (hk : Kw Wf.heap.size own W W') : PN g own0 Wf own xs W' := by
  obtain ⟨v, h1, h2, h3⟩ := h.wr.cell
  refine ⟨⟨⟨v, (hk.block _ h.wr.lt (.inr h.wr.mine)).trans h1, own_same1 h2 fun b hb hlt => hk.block b hlt (.inr (h3 b hb)), h3⟩, h.wr.mine, fun j hj => ⟨(h.wr.out j hj).1, Nat.lt_of_lt_of_le (h.wr.out j hj).2 hk.size⟩⟩, h.new, ⟨hk.os.trans h.but.os, hk.tape.trans h.but.tape, hk.output.trans h.but.output, Nat.le_trans h.but.size hk.size, fun j hj hn => (hk.block j (Nat.lt_of_lt_of_le hj h.but.size) (.inl hj)).trans (h.but.block j hj hn)⟩⟩
end Go.Proofs.Ytofealdlgpmheaa.Ro
/- The bytes of a root's numbers: what said tells. -/
namespace Go.Proofs.Ytofealdlgpmheaa.Ro
open Go.RowKit Go.Lib Go.Shelf
open Go.Proofs.Ytofealdlgpmheaa.Rc Go.Proofs.Ytofealdlgpmheaa.Rq
attribute [local go_sem] Oper.semAt_some
/-- One of four numbers; a byte of them; the first of these. -/
def nm (v0 v1 v2 v3 z : Nat) : Nat := if z = 0 then v0 else if z = 1 then v1 else if z = 2 then v2 else v3
def sb (v0 v1 v2 v3 p : Nat) : UInt8 := UInt8.ofNat (nm v0 v1 v2 v3 (ix p) / 2 ^ sh p % 256)
def sd (v0 v1 v2 v3 k : Nat) : List UInt8 := (List.range k).map (sb v0 v1 v2 v3)
set_option maxRecDepth 100000 in
theorem sd_succ (v0 v1 v2 v3 k : Nat) : sd v0 v1 v2 v3 (k + 1) = sd v0 v1 v2 v3 k ++ [sb v0 v1 v2 v3 k] := by unfold sd; rw [List.range_succ, List.map_append]; rfl
set_option maxRecDepth 100000 in
theorem sd_len (v0 v1 v2 v3 k : Nat) : (sd v0 v1 v2 v3 k).length = k := by simp [sd]
set_option maxRecDepth 100000 in
theorem sb_nat (v0 v1 v2 v3 p : Nat) : ((sb v0 v1 v2 v3 p).toNat : Int) = (nm v0 v1 v2 v3 (ix p) : Int) / 2 ^ sh p % 256 := by
  unfold sb
  rw [UInt8.toNat_ofNat', Nat.mod_eq_of_lt (Nat.mod_lt _ (by decide))]
  push_cast
  rfl
set_option maxRecDepth 100000 in
theorem ix_lt (k : Nat) (hk : k < 20) : ix k < 4 := by unfold ix; omega
set_option maxRecDepth 100000 in
theorem sh_lt (k : Nat) (hk : k < 20) : sh k ≤ 56 := by unfold sh; split <;> omega
abbrev nmc (v0 v1 v2 v3 : Nat) : Array Value := #[.int .u64 (v0 : Int), .int .u64 (v1 : Int), .int .u64 (v2 : Int), .int .u64 (v3 : Int)]
set_option maxRecDepth 100000 in
theorem wrap_u8 (z : Int) : IntKind.u8.wrap z = z % 256 := IntKind.wrap_u8 z
set_option maxRecDepth 100000 in
theorem nm_cell {W : World} {g v0 v1 v2 v3 : Nat} {t : TypeId} (h : W.heap[g]? = some (.cells (nmc v0 v1 v2 v3) t (0, 0))) (z : Nat) (hz : z < 4) : W.cell? ⟨g, z, none⟩ = some (.int .u64 (nm v0 v1 v2 v3 z : Int)) := by
  rw [cell_of_row _ _ _ _ _ _ h]
  obtain rfl | rfl | rfl | rfl : z = 0 ∨ z = 1 ∨ z = 2 ∨ z = 3 := by omega
  all_goals rfl
set_option maxRecDepth 100000 in
set_option maxHeartbeats 4000000 in
theorem said_any (v0 v1 v2 v3 : Nat) (w : World) :
    Calls Try.prog 22 #[.agg (nmc v0 v1 v2 v3)] w fun e w' => e = .returned (.string ⟨(sd v0 v1 v2 v3 20).toArray⟩) ∧ Below w.heap.size w w' := by
  refine (callsIn_wide (n := 5)).1 ?_
  refine callsIn_of_wp_marks Try.func22 rfl trivial ?_ rfl
  simp only [Try.ntmps22, List.size_toArray, List.length_cons, List.length_nil, Nat.reduceAdd, Nat.reduceSub, Array.replicate_succ, Array.replicate_zero, List.push_toArray, List.append_toArray, List.nil_append, List.cons_append]
  gi_wp2
  refine ⟨trivial, callsIn_wide.2 ((places_any _).mono ?_)⟩
  rintro e Wf ⟨rfl, hWf⟩
  obtain ⟨t1, t2, t3⟩ := two_new w (.cells (nmc v0 v1 v2 v3) 46) (.cells #[.slice none 0 0] 42)
  have t4 : ((w.alloc (.cells (nmc v0 v1 v2 v3) 46)).alloc (.cells #[.slice none 0 0] 42)).heap.size = w.heap.size + 2 := by simp
  rw [← hWf] at t1 t2 t3 t4
  have HT1 : Hid (Wf.heap[w.heap.size]? = some (.cells (nmc v0 v1 v2 v3) 46 (0, 0))) := t1
  have HBf : Hid (Below w.heap.size w Wf) := t3
  have HSf : Hid (Wf.heap.size = w.heap.size + 2) := t4
  have HWr : Hid (Wr (w.heap.size + 1) (fun j => j = w.heap.size + 1) [] Wf) := by
    refine ⟨⟨.slice none 0 0, t2, ?_, fun b hb => by simp [Value.ownBlock] at hb⟩, rfl, fun j hj => ?_⟩
    · exact World.ownsRow_nil _ _ _ _
    · have e : j = w.heap.size + 1 := hj
      omega
  clear t1 t2 t3 t4 hWf
  gi_wp2
  refine range_law9 (by omega) (gf := 35) (lb := #[]) rfl (enters_of Try.func35 (by kernel_rfl) rfl) (α := Nat) 20 (fun k => #[.int .i64 ((ix k : Nat) : Int), .int .i64 ((sh k : Nat) : Int)]) (fun _ => rfl) (fun k x => x = k)
    (fun own' t W => PN (w.heap.size + 1) (fun j => j = w.heap.size + 1) Wf own' (sd v0 v1 v2 v3 t) W) (fun _ _ => False) .ret ?hJ ?hJx (fun j => j = w.heap.size + 1) ?hown0 ?h0
    (fun k a' _ => a' = { tmps := #[.agg (nmc v0 v1 v2 v3), .pointer (some ⟨w.heap.size, 0, none⟩), .string ⟨#[]⟩, .pointer (some ⟨w.heap.size + 1, 0, none⟩), .int .i64 ((ix k : Nat) : Int), .int .i64 ((sh k : Nat) : Int), .func (.func 35) #[] #[], .int .i64 ((ix k : Nat) : Int), .int .i64 ((sh k : Nat) : Int), undef, undef, undef, undef, undef, undef, undef, undef, undef, undef, undef], defers := [] }) ?hA ?assign ?body ?iter ?done ?stop
  case hJ => intro own' k A B h hk; exact h.kw hk
  case hJx => intro own' A B h _; exact h
  case hown0 => intro j hj; have hS := HSf.out; have e : j = w.heap.size + 1 := hj; omega
  case h0 => exact ⟨HWr.out, fun j hj => .inl hj, But.refl _ _⟩
  case hA => intro x a' W l o' h _ _; exact h
  case assign =>
    intro l' own' k x W' K hk hok hJk hsz' hK
    clear hok hJk
    gi_wp2
    exact hK _ _ (Below.refl _ _) rfl
  case iter =>
    intro l' W5 hl' hB5 hs5 R' Rx' ow how hR' hRx' hY' h0'
    have hS := HSf.out
    refine places1_any W5 l' R' Rx' ow (fun j hj => ?_) (fun own' k W hk hRk hsz' => hY' own' k k W hk rfl hRk hsz') h0'
    rcases (how j).1 hj with a | rfl
    · have e : j = w.heap.size + 1 := a
      omega
    · omega
  case stop => intro D own' W' _ _ h _; exact h.elim
  case done =>
    intro D own' W' hDe hno hJ hdf
    have HDf : Hid _ := hdf
    have HJe : Hid (PN (w.heap.size + 1) (fun j => j = w.heap.size + 1) Wf own' (sd v0 v1 v2 v3 20) W') := hJ
    have HDs : Hid (D = Wf.heap.size ∧ ¬ own' D) := ⟨hDe, hno⟩
    obtain ⟨o, cap, c1, hcv⟩ := conv_wr hJ.wr (by rw [sd_len]; decide)
    rw [sd_len] at c1 hcv
    clear hJ hdf hDe hno
    gi_wp2
    refine leaves_marks (fun W => results_tmp rfl _ _ _) [D] W' (by simp) (fun E hE => by simp at hE; subst hE; exact HDf.out) fun W'' hb => ⟨rfl, ?_⟩
    have h1 := HJe.out.but
    have h2 := HBf.out
    have hS := HSf.out
    have hD := HDs.out.1
    refine ⟨hb.os.trans (h1.os.trans h2.os), hb.tape.trans (h1.tape.trans h2.tape), hb.output.trans (h1.output.trans h2.output), Nat.le_trans h2.size (Nat.le_trans h1.size hb.size), fun j hj => ?_⟩
    have hjf : j < Wf.heap.size := by omega
    refine (hb.block j (Nat.lt_of_lt_of_le hjf h1.size) fun e => ?_).trans ((h1.block j hjf fun e => ?_).trans (h2.block j hj))
    · have e' : j = D := by simpa using e
      omega
    · have e' : j = w.heap.size + 1 := e
      omega
  case body =>
    rintro l' own' k x a' W' hk rfl hJ rfl hsz' hol
    have hS := HSf.out
    have x1 := (hJ.but.block w.heap.size (by omega) (fun e => by have e : w.heap.size = w.heap.size + 1 := e; omega)).trans HT1.out
    obtain ⟨v, hv1, hv2, hv3⟩ := hJ.wr.cell
    have hix := ix_lt x hk
    have hsh := sh_lt x hk
    have c1 : W'.drew.cell? ⟨w.heap.size + 1, 0, none⟩ = some v := by
      rw [World.cell?_of_block (a := ⟨w.heap.size + 1, 0, none⟩) (show W'.drew.heap[w.heap.size + 1]? = W'.heap[w.heap.size + 1]? from rfl), cell_of_row _ _ _ _ _ _ hv1]; rfl
    have c2 : W'.drew.cell? ⟨w.heap.size, ix x, none⟩ = some (.int .u64 (nm v0 v1 v2 v3 (ix x) : Int)) := by
      rw [World.cell?_of_block (a := ⟨w.heap.size, ix x, none⟩) (show W'.drew.heap[w.heap.size]? = W'.heap[w.heap.size]? from rfl)]; exact nm_cell x1 _ hix
    obtain ⟨bb, hbb⟩ : ∃ bb : UInt8, sb v0 v1 v2 v3 x = bb := ⟨_, rfl⟩
    have hsb := sb_nat v0 v1 v2 v3 x
    rw [hbb] at hsb
    obtain ⟨nx, hnx⟩ : ∃ nx : Nat, nm v0 v1 v2 v3 (ix x) = nx := ⟨_, rfl⟩
    rw [hnx] at hsb c2
    obtain ⟨ixx, hixx⟩ : ∃ n, ix x = n := ⟨_, rfl⟩
    obtain ⟨shx, hshx⟩ : ∃ n, sh x = n := ⟨_, rfl⟩
    rw [hixx] at c2 hix ⊢
    rw [hshx] at hsb hsh ⊢
    have HSD : Hid (sd v0 v1 v2 v3 (x + 1) = sd v0 v1 v2 v3 x ++ [bb]) := by rw [← hbb]; exact sd_succ _ _ _ _ _
    have HL : Hid ((sd v0 v1 v2 v3 x).length = x) := sd_len _ _ _ _ _
    obtain ⟨xs, hxs⟩ : ∃ xs, sd v0 v1 v2 v3 x = xs := ⟨_, rfl⟩
    rw [hxs] at hJ hv2 HSD HL
    have HJ : Hid (PN (w.heap.size + 1) (fun j => j = w.heap.size + 1) Wf own' xs W'.drew) := hJ.kw ⟨rfl, rfl, rfl, Nat.le_refl _, fun _ _ _ => rfl⟩
    have HO : Hid (∀ j, own' j → j < W'.heap.size) := hol
    have HV2 : Hid (W'.drew.ownsRow (w.heap.size + 1 + 1) 5 1 v xs.length (bc xs)) := own_same1 hv2 fun b _ _ => rfl
    have HV1 : Hid (W'.drew.heap[w.heap.size + 1]? = some (.cells #[v] 42 (0, 0))) := hv1
    have HV3 : Hid (∀ b, v.ownBlock = some b → own' b) := hv3
    have HLT : Hid (w.heap.size + 2 ≤ W'.heap.size) := by have := hJ.but.size; refine (?_ : w.heap.size + 2 ≤ W'.heap.size); omega
    have hlt1 : w.heap.size < W'.heap.size := by have := HLT.out; omega
    have HSB : Hid ((bb.toNat : Int) = (nx : Int) / 2 ^ shx % 256) := hsb
    have HX20 : Hid (x < 20) := hk
    clear hbb hnx hixx hshx hxs hv1 hv2 hv3 x1 hJ hol hsb hk hsz'
    have hmx : Try.prog.follows .mixedOrders = true := by kernel_rfl
    have q1 : (0 : Int) ≤ (ixx : Int) := by omega
    have q2 : (ixx : Int) < 4 := by omega
    have q3 : (0 : Int) ≤ (shx : Int) := by omega
    have q4 : (shx : Int) < 64 := by omega
    obtain ⟨Wd, hWd⟩ : ∃ Wd, W'.drew = Wd := ⟨_, rfl⟩
    have hbn := below_new Wd (.cells #[.int .u8 (bb.toNat : Int)] 5)
    have hgn := heap_alloc_new Wd (.cells #[.int .u8 (bb.toNat : Int)] 5)
    have hsl : Sl 1 (Wd.alloc (.cells #[.int .u8 (bb.toNat : Int)] 5)) (some ⟨Wd.heap.size, 0, none⟩) 1 1 (bc [bb]) := by
      refine ⟨Nat.le_refl _, by decide, (fun e => by cases e), rfl, fun _ => ⟨Wd.heap.size, 0, rfl, by simp, fun j u hu => ?_⟩⟩
      rw [Nat.zero_add, cell_of_row _ _ _ _ _ _ hgn]
      have : j < 1 := (List.getElem?_eq_some_iff.1 hu).1
      obtain rfl : j = 0 := by omega
      exact hu
    rw [hWd] at HV1 HV2 HJ
    have hwl : W'.heap.size = Wd.heap.size := by rw [← hWd]; rfl
    obtain ⟨v', W2, hrun, a1, a2, a3⟩ := append_sl 42 5 Try.underlying42 infoByte rfl (by decide) (by decide) (Wd.alloc (.cells #[.int .u8 (bb.toNat : Int)] 5)) (w.heap.size + 1 + 1) xs.length 1 v (some ⟨Wd.heap.size, 0, none⟩) 1
      (bc xs) (bc [bb]) (own_same1 HV2.out fun b _ hb => hbn.block b hb) (by have := HLT.out; simp; omega) hsl (bc_one _) (by have := HL.out; have := HX20.out; omega)
    have nb : ∀ b, b ≤ w.heap.size + 1 → v.ownBlock ≠ some b := fun b hb e => by have := (own_base1 HV2.out e).1; omega
    have hB2 : W2.heap[w.heap.size + 1]? = some (.cells #[v] 42 (0, 0)) := (a2.block _ (by have := HLT.out; simp; omega) (fun e => nb _ (Nat.le_refl _) e.symm)).trans ((hbn.block _ (by have := HLT.out; omega)).trans HV1.out)
    have z5 : W2.frozen? ⟨w.heap.size + 1, 0, none⟩ = false := frozen_of_row W2 _ 0 _ _ hB2
    have d0 : W2.cell? ⟨w.heap.size + 1, 0, none⟩ = some v := by rw [cell_of_row _ _ _ _ _ _ hB2]; rfl
    have HFIN : Hid (∃ own2 : Nat → Prop, (∀ j, own2 j → own' j ∨ (W'.heap.size ≤ j ∧ j < (W2.setCell ⟨w.heap.size + 1, 0, none⟩ v').heap.size)) ∧ But own' W' (W2.setCell ⟨w.heap.size + 1, 0, none⟩ v') ∧ PN (w.heap.size + 1) (fun j => j = w.heap.size + 1) Wf own2 (xs ++ [bb]) (W2.setCell ⟨w.heap.size + 1, 0, none⟩ v')) := by
      have hst : ∀ j, j ≠ w.heap.size + 1 → (W2.setCell ⟨w.heap.size + 1, 0, none⟩ v').heap[j]? = W2.heap[j]? := fun j hj => Below.heap_setCell _ _ _ _ (fun e => hj e)
      have hss : (W2.setCell ⟨w.heap.size + 1, 0, none⟩ v').heap.size = W2.heap.size := by simp [World.setCell]
      have hs2 := a2.size
      have hs3 := hbn.size
      have hsa : (Wd.alloc (.cells #[.int .u8 (bb.toNat : Int)] 5)).heap.size = Wd.heap.size + 1 := by simp
      have hJ := HJ.out
      have hlt := HLT.out
      have hbB : But own' W' (W2.setCell ⟨w.heap.size + 1, 0, none⟩ v') := by
        refine ⟨a2.os.trans (hbn.os.trans (by rw [← hWd]; rfl)), a2.tape.trans (hbn.tape.trans (by rw [← hWd]; rfl)), a2.output.trans (hbn.output.trans (by rw [← hWd]; rfl)), by omega, fun j hj hn => (hst j fun e => hn (e ▸ hJ.wr.mine)).trans ((a2.block j (by omega) (fun e => hn (HV3.out j e.symm))).trans ((hbn.block j (by omega)).trans (by rw [← hWd]; rfl)))⟩
      have hnew : ∀ j, (own' j ∨ v'.ownBlock = some j) → own' j ∨ (W'.heap.size ≤ j ∧ j < (W2.setCell ⟨w.heap.size + 1, 0, none⟩ v').heap.size) := fun j hj => by
        rcases hj with hj | hj
        · exact .inl hj
        · rcases a3 with a3 | a3
          · exact .inl (HV3.out j (by rw [← a3]; exact hj))
          · have hlt2 := (own_base1 a1 hj).2
            rw [a3] at hj
            cases hj
            exact .inr ⟨by omega, by omega⟩
      refine ⟨fun j => own' j ∨ v'.ownBlock = some j, hnew, hbB, ⟨⟨⟨v', ?_, ?_, fun b hb => .inr hb⟩, .inl hJ.wr.mine, fun j hj => ?_⟩, fun j hj => ?_, ?_⟩⟩
      · have := heap_setCell_same W2 (w.heap.size + 1) 0 _ _ v' hB2
        simpa using this
      · rw [bc_append, List.length_append]
        exact own_same1 a1 fun b hb _ => hst b (by have := (own_base1 a1 hb).1; omega)
      · rcases hj with hj | hj
        · have := hJ.wr.out j hj
          exact ⟨this.1, by omega⟩
        · have := own_base1 a1 hj
          exact ⟨by omega, by omega⟩
      · rcases hnew j hj with a | a
        · exact hJ.new j a
        · exact .inr (by have := hJ.but.size; omega)
      · have h1 := hJ.but
        have h2 := hbB
        refine ⟨h2.os.trans ((show W'.os = Wd.os by rw [← hWd]; rfl).trans h1.os), h2.tape.trans ((show W'.tape = Wd.tape by rw [← hWd]; rfl).trans h1.tape), h2.output.trans ((show W'.output = Wd.output by rw [← hWd]; rfl).trans h1.output), by have := h1.size; have := h2.size; omega, fun j hj hn => ?_⟩
        have e1 : W'.heap[j]? = Wd.heap[j]? := by rw [← hWd]; rfl
        refine (hst j hn).trans ((a2.block j (by have := h1.size; omega) fun e => ?_).trans ((hbn.block j (by have := h1.size; omega)).trans (h1.block j hj hn)))
        rcases hJ.new j (HV3.out j e.symm) with a | a
        · exact hn a
        · omega
    obtain ⟨o, cap, rfl, -⟩ := sl_of_own HV2.out
    obtain ⟨o', cap', rfl, -⟩ := sl_of_own a1
    have HSW : Hid (Wd.cell? ⟨w.heap.size + 1, 0, none⟩ = some (.slice o xs.length cap) ∧ Wd.cell? ⟨w.heap.size, ixx, none⟩ = some (.int .u64 (nx : Int))) := by rw [hWd] at c1 c2; exact ⟨c1, c2⟩
    gi_wp2
    refine region_last (z := 9) (S := fun u => u.cell? ⟨w.heap.size + 1, 0, none⟩ = some (.slice o xs.length cap) ∧ u.cell? ⟨w.heap.size, ixx, none⟩ = some (.int .u64 (nx : Int))) hmx (by kernel_rfl) ?lets ?_
    case lets =>
      rintro ⟨a, u, h⟩
      exact h
    change wpLast _ _ _ _ _ _ 10 _ _ _
    rw [hWd]
    refine wpLast_take (i := 0) (v := ?_) (by kernel_rfl) rfl (by kernel_rfl) (by kernel_rfl) (by kernel_rfl) (fun _ _ _ h => h) (Or.inl ⟨by kernel_rfl, ?_⟩) HSW.out ?_
    rotate_left
    · intro w hS
      obtain ⟨s1, s2⟩ := hS
      go_simp
      try with_reducible rfl
    conv in (Act.put _ _ _) => simp only [List.getElem_toArray, List.getElem_cons_succ, List.getElem_cons_zero, Act.put, List.setIfInBounds_toArray, List.set_cons_succ, List.set_cons_zero]
    refine wpLast_take (i := 1) (v := ?_) (by kernel_rfl) rfl (by kernel_rfl) (by kernel_rfl) (by kernel_rfl) (fun _ _ _ h => h) (Or.inl ⟨by kernel_rfl, ?_⟩) HSW.out ?_
    rotate_left
    · intro w hS
      obtain ⟨s1, s2⟩ := hS
      go_simp
      try with_reducible rfl
    conv in (Act.put _ _ _) => simp only [List.getElem_toArray, List.getElem_cons_succ, List.getElem_cons_zero, Act.put, List.setIfInBounds_toArray, List.set_cons_succ, List.set_cons_zero]
    refine wpLast_take (i := 2) (v := ?_) (by kernel_rfl) rfl (by kernel_rfl) (by kernel_rfl) (by kernel_rfl) (fun _ _ _ h => h) (Or.inl ⟨by kernel_rfl, ?_⟩) HSW.out ?_
    rotate_left
    · intro w hS
      obtain ⟨s1, s2⟩ := hS
      go_simp
      try with_reducible rfl
    conv in (Act.put _ _ _) => simp only [List.getElem_toArray, List.getElem_cons_succ, List.getElem_cons_zero, Act.put, List.setIfInBounds_toArray, List.set_cons_succ, List.set_cons_zero]
    refine wpLast_take (i := 3) (v := ?_) (by kernel_rfl) rfl (by kernel_rfl) (by kernel_rfl) (by kernel_rfl) (fun _ _ _ h => h) (Or.inl ⟨by kernel_rfl, ?_⟩) HSW.out ?_
    rotate_left
    · intro w hS
      obtain ⟨s1, s2⟩ := hS
      go_simp
      try with_reducible rfl
    conv in (Act.put _ _ _) => simp only [List.getElem_toArray, List.getElem_cons_succ, List.getElem_cons_zero, Act.put, List.setIfInBounds_toArray, List.set_cons_succ, List.set_cons_zero]
    refine wpLast_take (i := 4) (v := ?_) (by kernel_rfl) rfl (by kernel_rfl) (by kernel_rfl) (by kernel_rfl) (fun _ _ _ h => h) (Or.inl ⟨by kernel_rfl, ?_⟩) HSW.out ?_
    rotate_left
    · intro w hS
      obtain ⟨s1, s2⟩ := hS
      go_simp
      try with_reducible rfl
    conv in (Act.put _ _ _) => simp only [List.getElem_toArray, List.getElem_cons_succ, List.getElem_cons_zero, Act.put, List.setIfInBounds_toArray, List.set_cons_succ, List.set_cons_zero]
    refine wpLast_take (i := 5) (v := .int .u64 ((nx : Int) / 2 ^ shx)) (by kernel_rfl) rfl (by kernel_rfl) (by kernel_rfl) (by kernel_rfl) (fun _ _ _ h => h) (Or.inl ⟨by kernel_rfl, ?_⟩) HSW.out ?_
    · intro w hS
      go_simp
    conv in (Act.put _ _ _) => simp only [List.getElem_toArray, List.getElem_cons_succ, List.getElem_cons_zero, Act.put, List.setIfInBounds_toArray, List.set_cons_succ, List.set_cons_zero]
    refine wpLast_take (i := 6) (v := .int .u8 (bb.toNat : Int)) (by kernel_rfl) rfl (by kernel_rfl) (by kernel_rfl) (by kernel_rfl) (fun _ _ _ h => h) (Or.inl ⟨by kernel_rfl, ?_⟩) HSW.out ?_
    · intro w hS
      go_simp
      rw [HSB.out]
      exact wrap_u8 _
    conv in (Act.put _ _ _) => simp only [List.getElem_toArray, List.getElem_cons_succ, List.getElem_cons_zero, Act.put, List.setIfInBounds_toArray, List.set_cons_succ, List.set_cons_zero]
    clear c1 c2 d0
    refine readyL 7 _ (by kernel_rfl) rfl (by kernel_rfl) (fun K hK => ?_)
    go_simp
    replace HSW : Hid ((Wd.alloc (.cells #[.int .u8 (bb.toNat : Int)] 5)).cell? ⟨w.heap.size + 1, 0, none⟩ = some (.slice o xs.length cap) ∧ (Wd.alloc (.cells #[.int .u8 (bb.toNat : Int)] 5)).cell? ⟨w.heap.size, ixx, none⟩ = some (.int .u64 (nx : Int))) :=
      ⟨(World.cell?_of_block (a := ⟨w.heap.size + 1, 0, none⟩) (hbn.block _ (by have := HLT.out; show w.heap.size + 1 < _; omega))).trans HSW.out.1, (World.cell?_of_block (a := ⟨w.heap.size, ixx, none⟩) (hbn.block _ (by show w.heap.size < _; omega))).trans HSW.out.2⟩
    refine hK _ _ HSW.out ?_
    clear hK K
    refine readyL 8 _ (by kernel_rfl) rfl (by kernel_rfl) (fun K hK => ?_)
    refine op_append 42 42 (.tmp 9) (.tmp 16) rfl rfl rfl hrun ?_
    replace HSW : Hid (W2.cell? ⟨w.heap.size + 1, 0, none⟩ = some (.slice o xs.length cap) ∧ W2.cell? ⟨w.heap.size, ixx, none⟩ = some (.int .u64 (nx : Int))) :=
      ⟨(World.cell?_of_block (a := ⟨w.heap.size + 1, 0, none⟩) (a2.block _ (by have := HLT.out; simp; omega) (fun e => nb _ (Nat.le_refl _) e.symm))).trans HSW.out.1, (World.cell?_of_block (a := ⟨w.heap.size, ixx, none⟩) (a2.block _ (by simp; omega) (fun e => nb _ (Nat.le_succ _) e.symm))).trans HSW.out.2⟩
    refine hK _ _ HSW.out ?_
    clear hK K
    conv in (Act.put _ _ _) => simp only [List.getElem_toArray, List.getElem_cons_succ, List.getElem_cons_zero, Act.put, List.setIfInBounds_toArray, List.set_cons_succ, List.set_cons_zero]
    refine wpLast_end rfl (by kernel_rfl) (by kernel_rfl) (by kernel_rfl) ?_
    have c6 := HSW.out.1
    unfold Oper.wp
    go_simp
    rw [← HSD.out] at HFIN
    exact HFIN.out
end Go.Proofs.Ytofealdlgpmheaa.Ro
/- The mark ahead of a root's bytes. -/
namespace Go.Proofs.Ytofealdlgpmheaa.Ro
open Go.RowKit Go.Lib Go.Shelf
open Go.Proofs.Ytofealdlgpmheaa.Rc Go.Proofs.Ytofealdlgpmheaa.Rq
/-- Do these bytes begin with the mark? -/
def hasM (s : ByteArray) : Bool := (s.extract 0 4).toList == [115, 112, 104, 114]
set_option maxRecDepth 100000 in
theorem hasM_size {s : ByteArray} (h : hasM s = true) : 4 ≤ s.size := by
  unfold hasM at h
  have e := eq_of_beq h
  have e2 := congrArg List.length e
  rw [ByteArray.toList_eq] at e2
  have : (s.extract 0 4).data.toList.length = (s.extract 0 4).size := rfl
  rw [this, ByteArray.size_extract] at e2
  simp at e2
  omega
set_option maxRecDepth 100000 in
theorem cutPrefix_any (s : ByteArray) (w : World) :
    Calls Try.prog 31 #[.string s, .string ⟨#[115, 112, 104, 114]⟩] w fun e w' => e = .returned (.tuple #[.string (if hasM s then s.extract 4 s.size else s), .bool (hasM s)]) ∧ w' = w := by
  cases hM : hasM s
  · by_cases h4 : 4 ≤ s.size
    · have q : ((s.extract 0 4).toList == [115, 112, 104, 114]) = false := hM
      have q4 : (4 : Int) ≤ (s.size : Int) := by omega
      go_enter Try.func31, Try.ntmps31
      go_wp2
      go_ret2
      exact ⟨rfl, rfl⟩
    · have q4 : ¬ (4 : Int) ≤ (s.size : Int) := by omega
      go_enter Try.func31, Try.ntmps31
      go_wp2
      go_ret2
      exact ⟨rfl, rfl⟩
  · have h4 := hasM_size hM
    have q : ((s.extract 0 4).toList == [115, 112, 104, 114]) = true := hM
    have q4 : (4 : Int) ≤ (s.size : Int) := by omega
    go_enter Try.func31, Try.ntmps31
    go_wp2
    go_ret2
    exact ⟨rfl, rfl⟩
end Go.Proofs.Ytofealdlgpmheaa.Ro
/- What bytes say as numbers, in plain terms; a root in a block of its own. -/
namespace Go.Proofs.Ytofealdlgpmheaa.Ro
open Go.RowKit Go.Lib Go.Shelf
open Go.Proofs.Ytofealdlgpmheaa.Rc Go.Proofs.Ytofealdlgpmheaa.Rq
def bt (s : ByteArray) (i : Nat) : Nat := (s.data[i]?.getD 0).toNat
set_option maxRecDepth 100000 in
theorem bt_lt (s : ByteArray) (i : Nat) : bt s i < 256 := (s.data[i]?.getD 0).toNat_lt
set_option maxRecDepth 100000 in
theorem idx_s (s : ByteArray) (p : Nat) (hp : p < s.size) (w : World) : (Instr.index 9 (.string s) (.int .i64 (p : Int))).run Try.prog w = .ok (.int .u8 (bt s p : Int)) w := by
  have h0 : (p : Int) < (s.size : Int) := by omega
  simp [Instr.index, run_underlying Try.underlying9, go_sem, hp]
  unfold bt
  rw [Array.getElem?_eq_getElem (by exact hp)]
  rfl
set_option maxRecDepth 100000 in
theorem empty_not {s : ByteArray} (h : s.size ≠ 0) : s.toList.isEmpty = false := by
  rw [ByteArray.toList_eq]
  have e : s.data.toList.length = s.size := rfl
  cases h' : s.data.toList with
  | nil => rw [h'] at e; simp at e; omega
  | cons a l => rfl
set_option maxRecDepth 100000 in
theorem empty_is {s : ByteArray} (h : s.size = 0) : s = ⟨#[]⟩ := by
  have e : s.data.size = 0 := h
  exact ByteArray.ext (Array.eq_empty_of_size_eq_zero e)
/-- What k bytes say of a number. -/
def acc (f : Nat → Nat) (z : Nat) : Nat → Nat
  | 0 => 0
  | k + 1 => if ix k = z then acc f z k + f k * 2 ^ sh k else acc f z k
set_option maxRecDepth 100000 in
theorem acc_lt (f : Nat → Nat) (hf : ∀ i, f i < 256) (k : Nat) (hk : k < 20) : acc f (ix k) k < 2 ^ sh k := by
  have f0 := hf 0; have f1 := hf 1; have f2 := hf 2; have f3 := hf 3; have f4 := hf 4; have f5 := hf 5; have f6 := hf 6; have f7 := hf 7; have f8 := hf 8; have f9 := hf 9
  have f10 := hf 10; have f11 := hf 11; have f12 := hf 12; have f13 := hf 13; have f14 := hf 14; have f15 := hf 15; have f16 := hf 16; have f17 := hf 17; have f18 := hf 18; have f19 := hf 19
  have hc : k = 0 ∨ k = 1 ∨ k = 2 ∨ k = 3 ∨ k = 4 ∨ k = 5 ∨ k = 6 ∨ k = 7 ∨ k = 8 ∨ k = 9 ∨ k = 10 ∨ k = 11 ∨ k = 12 ∨ k = 13 ∨ k = 14 ∨ k = 15 ∨ k = 16 ∨ k = 17 ∨ k = 18 ∨ k = 19 := by omega
  clear hf hk
  rcases hc with rfl | rfl | rfl | rfl | rfl | rfl | rfl | rfl | rfl | rfl | rfl | rfl | rfl | rfl | rfl | rfl | rfl | rfl | rfl | rfl
  all_goals (simp [acc, ix, sh]; try omega)
set_option maxRecDepth 100000 in
theorem acc0 (f : Nat → Nat) : acc f 0 20 = f 0 + f 1 * 256 + f 2 * 65536 + f 3 * 16777216 + f 4 * 4294967296 + f 5 * 1099511627776 + f 6 * 281474976710656 + f 7 * 72057594037927936 := by simp [acc, ix, sh]
set_option maxRecDepth 100000 in
theorem acc1 (f : Nat → Nat) : acc f 1 20 = f 8 + f 9 * 256 + f 10 * 65536 + f 11 * 16777216 := by simp [acc, ix, sh]
set_option maxRecDepth 100000 in
theorem acc2 (f : Nat → Nat) : acc f 2 20 = f 12 + f 13 * 256 + f 14 * 65536 + f 15 * 16777216 := by simp [acc, ix, sh]
set_option maxRecDepth 100000 in
theorem acc3 (f : Nat → Nat) : acc f 3 20 = f 16 + f 17 * 256 + f 18 * 65536 + f 19 * 16777216 := by simp [acc, ix, sh]
set_option maxRecDepth 100000 in
theorem acc_or (f : Nat → Nat) (hf : ∀ i, f i < 256) (k : Nat) (hk : k < 20) : acc f (ix k) k ||| (f k * 2 ^ sh k) = acc f (ix k) k + f k * 2 ^ sh k := by
  rw [Nat.or_comm, ← Nat.shiftLeft_eq, ← Nat.shiftLeft_add_eq_or_of_lt (acc_lt f hf k hk), Nat.add_comm]
/-- The root that bytes say. -/
def fs (s : ByteArray) (k : Nat) : Nat := bt s (4 + k)
def rootOf (s : ByteArray) : Rt := ⟨acc (fs s) 0 20, acc (fs s) 1 20, acc (fs s) 2 20, acc (fs s) 3 20, s.extract 24 s.size⟩
set_option maxRecDepth 100000 in
theorem fs_lt (s : ByteArray) (k : Nat) : fs s k < 256 := bt_lt _ _
set_option maxRecDepth 100000 in
theorem rootOf_ok (s : ByteArray) : (rootOf s).c < 18446744073709551616 ∧ (rootOf s).g < 4294967296 ∧ (rootOf s).n < 4294967296 ∧ (rootOf s).p < 4294967296 := by
  have hf := fs_lt s
  have f0 := hf 0; have f1 := hf 1; have f2 := hf 2; have f3 := hf 3; have f4 := hf 4; have f5 := hf 5; have f6 := hf 6; have f7 := hf 7; have f8 := hf 8; have f9 := hf 9
  have f10 := hf 10; have f11 := hf 11; have f12 := hf 12; have f13 := hf 13; have f14 := hf 14; have f15 := hf 15; have f16 := hf 16; have f17 := hf 17; have f18 := hf 18; have f19 := hf 19
  clear hf
  unfold rootOf
  simp only [acc0, acc1, acc2, acc3]
  exact ⟨by omega, by omega, by omega, by omega⟩
def okD (s : ByteArray) : Bool := hasM s && rrt (rootOf s)
def rdR (s : ByteArray) : Rt := if okD s then rootOf s else zeroR
set_option maxRecDepth 100000 in
/-- A root laid in a block of its own. -/
theorem put_root {w : World} {g : Nat} {x0 x1 x2 x3 x4 : Value} (h : w.heap[g]? = some (.cells #[x0, x1, x2, x3, x4] 27 (0, 0))) (a b c d e : Value) :
    (((((w.setCell ⟨g, 0, none⟩ a).setCell ⟨g, 1, none⟩ b).setCell ⟨g, 2, none⟩ c).setCell ⟨g, 3, none⟩ d).setCell ⟨g, 4, none⟩ e).heap[g]? = some (.cells #[a, b, c, d, e] 27 (0, 0)) ∧
    Below g w (((((w.setCell ⟨g, 0, none⟩ a).setCell ⟨g, 1, none⟩ b).setCell ⟨g, 2, none⟩ c).setCell ⟨g, 3, none⟩ d).setCell ⟨g, 4, none⟩ e) := by
  have X1 := heap_setCell_same w g 0 _ _ a h
  have X2 := heap_setCell_same _ g 1 _ _ b X1
  have X3 := heap_setCell_same _ g 2 _ _ c X2
  have X4 := heap_setCell_same _ g 3 _ _ d X3
  have X5 := heap_setCell_same _ g 4 _ _ e X4
  have st : ∀ (W : World) (k : Nat) (v : Value), Below g W (W.setCell ⟨g, k, none⟩ v) := fun W k v => ⟨rfl, rfl, rfl, by simp [World.setCell], fun j hj => Below.heap_setCell _ _ _ _ (fun e => by have e' : j = g := e; omega)⟩
  exact ⟨X5, (st _ _ _).trans ((st _ _ _).trans ((st _ _ _).trans ((st _ _ _).trans (st _ _ _))))⟩
set_option maxRecDepth 100000 in
theorem root_facts {w : World} {g : Nat} {x0 x1 x2 x3 x4 : Value} (h : w.heap[g]? = some (.cells #[x0, x1, x2, x3, x4] 27 (0, 0))) : (w.cell? ⟨g, 0, none⟩ = some x0 ∧ w.cell? ⟨g, 1, none⟩ = some x1 ∧ w.cell? ⟨g, 2, none⟩ = some x2 ∧ w.cell? ⟨g, 3, none⟩ = some x3 ∧ w.cell? ⟨g, 4, none⟩ = some x4) ∧
    (w.frozen? ⟨g, 0, none⟩ = false ∧ w.frozen? ⟨g, 1, none⟩ = false ∧ w.frozen? ⟨g, 2, none⟩ = false ∧ w.frozen? ⟨g, 3, none⟩ = false ∧ w.frozen? ⟨g, 4, none⟩ = false) := by
  refine ⟨⟨?_, ?_, ?_, ?_, ?_⟩, ⟨frozen_of_row w _ _ _ _ h, frozen_of_row w _ _ _ _ h, frozen_of_row w _ _ _ _ h, frozen_of_row w _ _ _ _ h, frozen_of_row w _ _ _ _ h⟩⟩ <;> (rw [cell_of_row _ _ _ _ _ _ h]; rfl)
set_option maxRecDepth 100000 in
theorem results_root {fn : Func} {p : Tmp} (h : fn.results = #[.cell p 27]) (tmps : Array Value) (w : World) (g : Nat) (a b c d e : Value) {t : TypeId} {fr : Nat × Nat}
    (hp : tmps.getD p undef = .pointer (some ⟨g, 0, none⟩)) (hg : w.heap[g]? = some (.cells #[a, b, c, d, e] t fr)) : (results fn tmps).run Try.prog w = .ok (.agg #[a, b, c, d, e]) w := by
  have hp' : tmps[p]?.getD undef = .pointer (some ⟨g, 0, none⟩) := by simpa using hp
  have c0 : w.cell? ⟨g, 0, none⟩ = some a := by rw [cell_of_row _ _ _ _ _ _ hg]; rfl
  have c1 : w.cell? ⟨g, 1, none⟩ = some b := by rw [cell_of_row _ _ _ _ _ _ hg]; rfl
  have c2 : w.cell? ⟨g, 2, none⟩ = some c := by rw [cell_of_row _ _ _ _ _ _ hg]; rfl
  have c3 : w.cell? ⟨g, 3, none⟩ = some d := by rw [cell_of_row _ _ _ _ _ _ hg]; rfl
  have c4 : w.cell? ⟨g, 4, none⟩ = some e := by rw [cell_of_row _ _ _ _ _ _ hg]; rfl
  simp [results, h, hp', asAddr, go_sem, c0, c1, c2, c3, c4]
set_option maxRecDepth 100000 in
theorem results_root2 {fn : Func} {p r : Tmp} (h : fn.results = #[.cell p 27, .tmp r]) (tmps : Array Value) (w : World) (g : Nat) (a b c d e : Value) {t : TypeId} {fr : Nat × Nat} {v : Value}
    (hp : tmps.getD p undef = .pointer (some ⟨g, 0, none⟩)) (hr : tmps.getD r undef = v) (hg : w.heap[g]? = some (.cells #[a, b, c, d, e] t fr)) : (results fn tmps).run Try.prog w = .ok (.tuple #[.agg #[a, b, c, d, e], v]) w := by
  have hp' : tmps[p]?.getD undef = .pointer (some ⟨g, 0, none⟩) := by simpa using hp
  have hr' : tmps[r]?.getD undef = v := by simpa using hr
  have c0 : w.cell? ⟨g, 0, none⟩ = some a := by rw [cell_of_row _ _ _ _ _ _ hg]; rfl
  have c1 : w.cell? ⟨g, 1, none⟩ = some b := by rw [cell_of_row _ _ _ _ _ _ hg]; rfl
  have c2 : w.cell? ⟨g, 2, none⟩ = some c := by rw [cell_of_row _ _ _ _ _ _ hg]; rfl
  have c3 : w.cell? ⟨g, 3, none⟩ = some d := by rw [cell_of_row _ _ _ _ _ _ hg]; rfl
  have c4 : w.cell? ⟨g, 4, none⟩ = some e := by rw [cell_of_row _ _ _ _ _ _ hg]; rfl
  simp [results, h, hp', hr', asAddr, go_sem, c0, c1, c2, c3, c4]
end Go.Proofs.Ytofealdlgpmheaa.Ro
