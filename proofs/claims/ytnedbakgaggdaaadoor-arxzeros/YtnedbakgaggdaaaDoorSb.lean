import Derived.Test.YtnedbakgaggdaaaDoorSa
namespace Go.Proofs.YtnedbakgaggdaaaDoor
open Go.RowKit Go.Shelf
attribute [local go_sem] Oper.semAt_some
theorem stream_stops (n : Nat) (hn : 1 ≤ n) (Bn Bs : Nat) (f : Nat → Int) (N : Nat) (hN : N ≤ 1048576) {tt : TypeId} {fr : Nat × Nat} (w : World) (hBn : Bn < w.heap.size) (hBs : Bs < w.heap.size)
    (hc : w.cell? ⟨Bn, 0, none⟩ = some (.int .i64 (N : Int))) (hs : w.heap[Bs]? = some (.cells (stc f) 41 (0, 0))) (ht : w.heap[0]? = some (.cells tab tt fr)) :
    SeqStopsK Fence.wide n Tryd.prog 30 #[.pointer (some ⟨Bn, 0, none⟩), .pointer (some ⟨Bs, 0, none⟩)] (fun x : Int => #[Value.int .u32 x]) (Kst Bs) (fun ys => ys = strm f ((N + 63) / 64)) (fun pre => pre <+: strm f ((N + 63) / 64)) (strm f ((N + 63) / 64)).length w :=
  fun l J Jx W hW hJ _ hY h0 => by
    have hz : 0 < w.heap.size := (Array.getElem?_eq_some_iff.1 ht).1
    exact stream1_in n hn l Bn Bs f N hN J Jx (fun pre A B h hb => hJ pre A B none h (gb_below hb none) (fun r e => by cases e)) hY W ((hW.cell (p := ⟨Bn, 0, none⟩) hBn).trans hc)
      ((hW.block Bs hBs).trans hs) ((hW.block 0 hz).trans ht) h0
/-- An operation that defers nothing, in a round, is as outside. -/
theorem opIn_round {F : Fence} {n : Nat} {P : Program} {o : Oper} {a : Act} {w : World} {K : Act → World → Prop} {Q : Exit → Act → World → Prop} (l : Nat) (hd : ∀ c, o.op ≠ .defer c) (h : o.wpIn F n P a w K Q) : o.wpIn (F.inRound l) n P a w K Q := by
  unfold Oper.wpIn at h ⊢
  refine ⟨h.1, ?_⟩
  have h2 := h.2
  rw [Oper.semAt_plain F _ _ hd] at h2
  rw [Oper.semAt_plain (F.inRound l) _ _ hd]
  exact h2
theorem wpOpIn_round {F : Fence} {n : Nat} {P : Program} {ops : Array Oper} {Q : Exit → Act → World → Prop} {i : Nat} {K K' : Act → World → Prop} {a : Act} {w : World} (l : Nat) (hd : ∀ o ∈ ops, ∀ c, o.op ≠ .defer c)
    (hK : ∀ a w, K a w → K' a w) (h : wpOpIn F n P ops Q i K a w) : wpOpIn (F.inRound l) n P ops Q i K' a w := by
  have h' := wpOpIn_mono hK h
  unfold wpOpIn at h' ⊢
  cases ho : ops[i]? with
  | none => rw [ho] at h'; exact h'
  | some o =>
    rw [ho] at h'
    by_cases hw : Region.wanted o (yielded ops a.tmps) = true
    · simp only [hw, if_true] at h' ⊢
      exact opIn_round l (hd o (Array.mem_of_getElem? ho)) h'
    · simp only [hw] at h' ⊢
      exact h'
/-- A region that defers nothing, in a round, is as outside. -/
theorem anyIn_round {F : Fence} {n : Nat} {P : Program} {md : Region.Mode} {ops : Array Oper} {Q : Exit → Act → World → Prop} (l : Nat) (hd : ∀ o ∈ ops, ∀ c, o.op ≠ .defer c) :
    ∀ (fuel : Nat) (listed : Array Bool) (a : Act) (w : World), wpAnyIn F n P md ops Q fuel listed a w → wpAnyIn (F.inRound l) n P md ops Q fuel listed a w := by
  intro fuel
  induction fuel with
  | zero => intro listed a w h; exact h
  | succ fuel ih =>
    intro listed a w h
    exact ⟨h.1, fun i hi => wpOpIn_round l hd (fun a w hk => ih _ a w hk) (h.2 i hi)⟩
end Go.Proofs.YtnedbakgaggdaaaDoor
