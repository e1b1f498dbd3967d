/- A range over a function whose body owns blocks, some of them new; what the function itself keeps is no block of the body's. -/
import Derived.Test.YtaiiclkfnahghaaPGB
import Derived.Test.YtaiiclkfnahghaaPGM
namespace Go.Proofs.Ytaiiclkfnahghaa.Rq
open Go.RowKit
open Go.Proofs.Ytaiiclkfnahghaa.Rc
/-- All but some blocks are as they were. -/
structure But (S : Nat → Prop) (w w' : World) : Prop where
  os : w'.os = w.os
  tape : w'.tape = w.tape
  output : w'.output = w.output
  size : w.heap.size ≤ w'.heap.size
  block : ∀ k, k < w.heap.size → ¬ S k → w'.heap[k]? = w.heap[k]?
theorem But.refl (S : Nat → Prop) (w : World) : But S w w := ⟨rfl, rfl, rfl, Nat.le_refl _, fun _ _ _ => rfl⟩
theorem But.trans {S : Nat → Prop} {a b c : World} (h : But S a b) (k : But S b c) : But S a c :=
  ⟨k.os.trans h.os, k.tape.trans h.tape, k.output.trans h.output, Nat.le_trans h.size k.size, fun i hi hs => (k.block i (Nat.lt_of_lt_of_le hi h.size) hs).trans (h.block i hi hs)⟩
theorem But.of_below {S : Nat → Prop} {w w' : World} (h : Below w.heap.size w w') : But S w w' := ⟨h.os, h.tape, h.output, h.size, fun k hk _ => h.block k hk⟩
theorem But.more {S S' : Nat → Prop} {w w' : World} (h : But S w w') (hs : ∀ k, k < w.heap.size → S k → S' k) : But S' w w' := ⟨h.os, h.tape, h.output, h.size, fun k hk hn => h.block k hk fun e => hn (hs k hk e)⟩
theorem But.below {S : Nat → Prop} {w w' : World} {B : Nat} (h : But S w w') (hs : ∀ k, S k → B ≤ k) (hB : B ≤ w.heap.size) : Below B w w' :=
  ⟨h.os, h.tape, h.output, h.size, fun k hk => h.block k (by omega) fun e => by have := hs k e; omega⟩
theorem But.put {S : Nat → Prop} (w : World) (l : Nat) (o : Obj) (hl : S l) : But S w (w.putObj l o) :=
  ⟨rfl, rfl, rfl, by simp [World.putObj], fun k _ hn => World.putObj_heap_other fun e => hn (by rw [e]; exact hl)⟩
/-- The blocks below a place, and some more, are as they were. -/
structure Kw (B : Nat) (own : Nat → Prop) (w w' : World) : Prop where
  os : w'.os = w.os
  tape : w'.tape = w.tape
  output : w'.output = w.output
  size : w.heap.size ≤ w'.heap.size
  block : ∀ k, k < w.heap.size → (k < B ∨ own k) → w'.heap[k]? = w.heap[k]?
theorem Kw.below {B : Nat} {own : Nat → Prop} {w w' : World} (h : Kw B own w w') (hB : B ≤ w.heap.size) : Below B w w' := ⟨h.os, h.tape, h.output, h.size, fun k hk => h.block k (by omega) (.inl hk)⟩
theorem Kw.of_below {B : Nat} {own : Nat → Prop} {w w' : World} (h : Below w.heap.size w w') : Kw B own w w' := ⟨h.os, h.tape, h.output, h.size, fun k hk _ => h.block k hk⟩
theorem Kw.trans {B : Nat} {own : Nat → Prop} {a b c : World} (h : Kw B own a b) (k : Kw B own b c) : Kw B own a c :=
  ⟨k.os.trans h.os, k.tape.trans h.tape, k.output.trans h.output, Nat.le_trans h.size k.size, fun i hi hs => (k.block i (Nat.lt_of_lt_of_le hi h.size) hs).trans (h.block i hi hs)⟩
theorem Kw.put {B : Nat} {own : Nat → Prop} (w : World) (l : Nat) (o : Obj) (h1 : B ≤ l) (h2 : ¬ own l) : Kw B own w (w.putObj l o) :=
  ⟨rfl, rfl, rfl, by simp [World.putObj], fun k _ hn => World.putObj_heap_other fun e => by
    rcases hn with hn | hn
    · omega
    · exact h2 (by rw [← e]; exact hn)⟩
theorem Kw.less {B B' : Nat} {own own' : Nat → Prop} {w w' : World} (h : Kw B own w w') (hB : B' ≤ B) (ho : ∀ k, own' k → own k ∨ k < B) : Kw B' own' w w' :=
  ⟨h.os, h.tape, h.output, h.size, fun k hk hn => h.block k hk (by
    rcases hn with hn | hn
    · exact .inl (by omega)
    · rcases ho k hn with a | a
      · exact .inr a
      · exact .inl a)⟩
theorem yield_wide {P : Program} {n m l : Nat} {args : Array Value} {W : World} {R : Ending → World → Prop} (h : YieldAt Fence.wide n P l args W R) : YieldAt Fence.wide m P l args W R := by
  obtain ⟨fn, tmps, assign, body, h1, h2⟩ := h
  exact ⟨fn, tmps, assign, body, h1, h2.1, fun c cs _ => h2.2 c cs (room_wide _)⟩
/-- What a yield may come to: some more blocks are owned, the others are as they were. -/
def YPost {ι : Type} (R : (Nat → Prop) → ι → World → Prop) (Rx : (Nat → Prop) → World → Prop) (own : Nat → Prop) (i : ι) (W : World) (e : Ending) (W' : World) : Prop :=
  ∃ own', (∀ j, own' j → own j ∨ (W.heap.size ≤ j ∧ j < W'.heap.size)) ∧ But own W W' ∧ ((e = .returned (.bool true) ∧ R own' i W') ∨ (e = .returned (.bool false) ∧ Rx own' W'))
/-- How a round's body may be left. -/
def lPost9 (J : (Nat → Prop) → World → Prop) (Jx : (Nat → Prop) → World → Prop) (jump : Code) (own : Nat → Prop) (W : World) : Exit → Act → World → Prop
  | .normal, _, W' => ∃ own', (∀ j, own' j → own j ∨ (W.heap.size ≤ j ∧ j < W'.heap.size)) ∧ But own W W' ∧ J own' W'
  | .exit i, _, W' => jump = .exit i ∧ ∃ own', (∀ j, own' j → own j ∨ (W.heap.size ≤ j ∧ j < W'.heap.size)) ∧ But own W W' ∧ Jx own' W'
  | .ret, _, W' => jump = .ret ∧ ∃ own', (∀ j, own' j → own j ∨ (W.heap.size ≤ j ∧ j < W'.heap.size)) ∧ But own W W' ∧ Jx own' W'
  | _, _, _ => False
set_option maxHeartbeats 1000000 in
theorem range_law9 {n : Nat} {P : Program} {g : Operand} {ps : Array Tmp} {assign body : Code} {Q : Exit → Act → World → Prop} {a : Act} {w : World}
    (h1 : 1 ≤ n) {gf : Nat} {lb : Array Value} (hg : a.eval g = .func (.func gf) #[] lb) (eg : ∀ args w, (callFunc gf args).run P w = .ok (.enter gf args) w)
    {α : Type} (N : Nat) (encs : α → Array Value) (hps : ∀ k, (encs k).size = ps.size) (ok : Nat → α → Prop)
    (J : (Nat → Prop) → Nat → World → Prop) (Jx : (Nat → Prop) → World → Prop) (jump : Code)
    (hJ : ∀ own k W W', J own k W → Kw w.heap.size own W W' → J own k W') (hJx : ∀ own W W', Jx own W → Kw w.heap.size own W W' → Jx own W')
    (own0 : Nat → Prop) (hown0 : ∀ j, own0 j → j < w.heap.size) (h0 : J own0 0 w)
    (A : α → Act → World → Prop) (hA : ∀ x a' W l o', A x a' W → w.heap.size ≤ l → l < w.heap.size + 2 → A x a' (W.putObj l o'))
    (hassign : ∀ (l : Nat) (own : Nat → Prop) (k : Nat) (x : α) (W : World) (K : Act → World → Prop), k < N → ok k x → J own k W → w.heap.size + 2 ≤ W.heap.size → (∀ a' W', Below W.heap.size W W' → A x a' W' → K a' W') →
      assign.wpIn (Fence.wide.inRound l) (n - 1 - 1) P (Exit.then K (fun _ _ _ => False)) { tmps := (ps.zip (encs x)).foldl (fun t (p, v) => t.setIfInBounds p v) a.tmps, defers := [] } W)
    (hbody : ∀ (l : Nat) (own : Nat → Prop) (k : Nat) (x : α) (a' : Act) (W : World), k < N → ok k x → J own k W → A x a' W → w.heap.size + 2 ≤ W.heap.size → (∀ j, own j → j < W.heap.size) → body.wpIn (Fence.wide.inRound l) (n - 1 - 1) P (lPost9 (fun own' W' => J own' (k + 1) W') Jx jump own W) a' W)
    (hiter : ∀ (l : Nat) (W1 : World), l = w.heap.size + 1 → Below w.heap.size w W1 → W1.heap.size = w.heap.size + 2 → ∀ (R : (Nat → Prop) → Nat → World → Prop) (Rx : (Nat → Prop) → World → Prop) (own : Nat → Prop), (∀ j, own j ↔ own0 j ∨ j = l) →
      (∀ own k W W', R own k W → Kw W1.heap.size own W W' → R own k W') → (∀ own W W', Rx own W → Kw W1.heap.size own W W' → Rx own W') →
      (∀ own k x W, k < N → ok k x → R own k W → (∀ j, own j → j < W.heap.size) → YieldAt Fence.wide 0 P l (encs x) W (YPost R Rx own (k + 1) W)) → R own 0 W1 →
      Calls P gf (#[.func (.yield l) #[] #[]] ++ lb) W1 fun e W' => (∃ v, e = .returned v) ∧ ∃ own', (R own' N W' ∨ Rx own' W'))
    (hdone : ∀ (D : Nat) (own : Nat → Prop) (W : World), D = w.heap.size → ¬ own D → J own N W → W.heap[D]? = some (.deferred (some [])) → Q .normal { a with defers := { target := .collected D, args := #[] } :: a.defers } W)
    (hstop : ∀ (D : Nat) (own : Nat → Prop) (W : World), D = w.heap.size → ¬ own D → Jx own W → W.heap[D]? = some (.deferred (some [])) → jump.wpIn Fence.wide n P Q { a with defers := { target := .collected D, args := #[] } :: a.defers } W) :
    (Code.rangeFunc g ps assign body).wpIn Fence.wide n P Q a w := by
  refine wpIn_rangeFunc fun fn hfn => ?_
  rw [show Fence.wide.round = none from rfl]
  obtain ⟨rc', hrc⟩ : ∃ rc' : LoopState → Option Code → Loop, rc' = fun st pe => { state := st, pending := pe, fn, tmps := a.tmps, params := ps, assign, body, defers := w.heap.size } := ⟨_, rfl⟩
  obtain ⟨W1, hW1⟩ : ∃ W1, (w.alloc (.deferred (some []))).alloc (.loop (rc' .ready none)) = W1 := ⟨_, rfl⟩
  have hn2 := two_new w (.deferred (some [])) (.loop (rc' .ready none))
  have hs : W1.heap.size = w.heap.size + 2 := by rw [← hW1]; simp
  rw [hW1] at hn2
  obtain ⟨hD1, hL1, hB1⟩ := hn2
  refine ⟨w.heap.size + 1, [{ target := .collected w.heap.size, args := #[] }], W1, { target := .fn (.func gf) lb, args := #[.func (.yield (w.heap.size + 1)) #[] #[]] }, W1, gf,
    #[.func (.yield (w.heap.size + 1)) #[] #[]] ++ lb, W1, ?_, ?_, ?_, ?_, fun _ => h1, ?_⟩
  · rw [← hW1, hrc]; exact run_enterLoop_outer _ _ _ _ _
  · simp only [resolve, hg]
    simp [go_sem]
  · intro f' hf'
    trivial
  · simp [invoke, go_sem, eg]
  · have out : ∀ own : Nat → Prop, (∀ j, own j → j < w.heap.size ∨ w.heap.size + 2 ≤ j) → ¬ own w.heap.size ∧ ¬ own (w.heap.size + 1) := fun own h => ⟨fun e => by have := h _ e; omega, fun e => by have := h _ e; omega⟩
    refine callsIn_wide.2 ((hiter (w.heap.size + 1) W1 rfl hB1 hs
      (fun oy k W => ∃ own, (∀ j, oy j ↔ own j ∨ j = w.heap.size + 1) ∧ (∀ j, own j → j < w.heap.size ∨ w.heap.size + 2 ≤ j) ∧ J own k W ∧ W.heap[w.heap.size + 1]? = some (.loop (rc' .ready none)) ∧ W.heap[w.heap.size]? = some (.deferred (some [])))
      (fun oy W => ∃ own, (∀ j, oy j ↔ own j ∨ j = w.heap.size + 1) ∧ (∀ j, own j → j < w.heap.size ∨ w.heap.size + 2 ≤ j) ∧ Jx own W ∧ W.heap[w.heap.size + 1]? = some (.loop (rc' .done (some jump))) ∧ W.heap[w.heap.size]? = some (.deferred (some [])))
      (fun j => own0 j ∨ j = w.heap.size + 1) (fun j => Iff.rfl)
      (fun oy k W W' h hb => ?_) (fun oy W W' h hb => ?_) ?_ ⟨own0, fun j => Iff.rfl, fun j hj => .inl (hown0 j hj), hJ own0 0 w W1 h0 (Kw.of_below hB1), hL1, hD1⟩).mono ?_)
    · obtain ⟨own, h1, h2, h3, h4, h5⟩ := h
      have l4 := (Array.getElem?_eq_some_iff.1 h4).1
      exact ⟨own, h1, h2, hJ own k W W' h3 (hb.less (by omega) fun j hj => .inl ((h1 j).2 (.inl hj))), (hb.block _ l4 (.inl (by omega))).trans h4, (hb.block _ (by omega) (.inl (by omega))).trans h5⟩
    · obtain ⟨own, h1, h2, h3, h4, h5⟩ := h
      have l4 := (Array.getElem?_eq_some_iff.1 h4).1
      exact ⟨own, h1, h2, hJx own W W' h3 (hb.less (by omega) fun j hj => .inl ((h1 j).2 (.inl hj))), (hb.block _ l4 (.inl (by omega))).trans h4, (hb.block _ (by omega) (.inl (by omega))).trans h5⟩
    · rintro oy k x Wb hkN hok ⟨own, g1, g2, hj, hl, hd⟩ hsz
      have hyr := run_yield (P := P) (args := encs x) hl (by rw [hrc]; exact hps x)
      rw [hrc] at hyr
      refine yield_wide (n := n - 1 - 1) ⟨fn, _, assign, body, hyr, roundIn_of_wpIn hfn (hassign _ own k x Wb _ hkN hok hj (by have := (Array.getElem?_eq_some_iff.1 hl).1; omega) ?_)⟩
      intro a' W hBa hAx
      have hltb := (Array.getElem?_eq_some_iff.1 hl).1
      have hO := out own g2
      replace hj := hJ own k _ _ hj (Kw.of_below hBa)
      replace hl := (hBa.block _ (by omega)).trans hl
      replace hd := (hBa.block _ (by omega)).trans hd
      have hlt : w.heap.size + 1 < W.heap.size := (Array.getElem?_eq_some_iff.1 hl).1
      have hszW := hBa.size
      refine ⟨_, run_beginRound hl (by rw [hrc]), ?_⟩
      obtain ⟨Wp, hWp⟩ : ∃ Wp, W.putObj (w.heap.size + 1) (.loop { rc' .ready none with state := .busy }) = Wp := ⟨_, rfl⟩
      have hl2 : Wp.heap[w.heap.size + 1]? = some (.loop { rc' .ready none with state := .busy }) := by rw [← hWp]; exact World.putObj_heap_same hlt
      have hd2 : Wp.heap[w.heap.size]? = some (.deferred (some [])) := by rw [← hWp]; exact (World.putObj_heap_other (by omega)).trans hd
      have hsp : Wp.heap.size = W.heap.size := by rw [← hWp]; simp [World.putObj]
      have hjp : J own k Wp := by rw [← hWp]; exact hJ own k _ _ hj (Kw.put W _ _ (by omega) hO.2)
      have hAp : A x a' Wp := by rw [← hWp]; exact hA x a' W _ _ hAx (by omega) (by omega)
      have hbp : But (fun j => own j ∨ j = w.heap.size + 1) Wb Wp := by rw [← hWp]; exact (But.of_below hBa).trans (But.put W _ _ (.inr rfl))
      rw [hWp]
      have hownlt : ∀ j, own j → j < Wp.heap.size := fun j hj' => by have := hsz j ((g1 j).2 (.inl hj')); omega
      refine wpIn_mono (hbody _ own k x a' Wp hkN hok hjp hAp (by omega) hownlt) ?_
      have fin : ∀ (W3 : World) (own' : Nat → Prop) (stt : LoopState) (pe : Option Code), (∀ j, own' j → own j ∨ (Wp.heap.size ≤ j ∧ j < W3.heap.size)) → But own Wp W3 →
          W3.heap[w.heap.size + 1]? = some (.loop { rc' .ready none with state := .busy }) ∧ W3.heap[w.heap.size]? = some (.deferred (some [])) ∧ (∀ j, own' j → j < w.heap.size ∨ w.heap.size + 2 ≤ j) ∧
          (∀ j, (own' j ∨ j = w.heap.size + 1) → oy j ∨ (Wb.heap.size ≤ j ∧ j < (W3.putObj (w.heap.size + 1) (.loop (rc' stt pe))).heap.size)) ∧ But oy Wb (W3.putObj (w.heap.size + 1) (.loop (rc' stt pe))) := fun W3 own' stt pe ho hb => by
        have hs3 := hb.size
        refine ⟨(hb.block _ (by omega) hO.2).trans hl2, (hb.block _ (by omega) hO.1).trans hd2, fun j hj' => ?_, fun j hj' => ?_, ?_⟩
        · rcases ho j hj' with a | a
          · exact g2 j a
          · omega
        · rcases hj' with hj' | rfl
          · rcases ho j hj' with a | a
            · exact .inl ((g1 j).2 (.inl a))
            · exact .inr ⟨by omega, by simp [World.putObj]; omega⟩
          · exact .inl ((g1 _).2 (.inr rfl))
        · have e : But (fun j => own j ∨ j = w.heap.size + 1) Wb (W3.putObj (w.heap.size + 1) (.loop (rc' stt pe))) := hbp.trans ((hb.more fun j _ hj' => .inl hj').trans (But.put W3 _ _ (.inr rfl)))
          exact e.more fun j _ hj' => (g1 j).2 hj'
      have stop3 : ∀ (W3 : World), (∃ own', (∀ j, own' j → own j ∨ (Wp.heap.size ≤ j ∧ j < W3.heap.size)) ∧ But own Wp W3 ∧ Jx own' W3) →
          (Instr.endRound (w.heap.size + 1) (some jump)).run P W3 = .ok (.bool false) (W3.putObj (w.heap.size + 1) (.loop (rc' .done (some jump)))) ∧
          YPost (fun oy k W => ∃ own, (∀ j, oy j ↔ own j ∨ j = w.heap.size + 1) ∧ (∀ j, own j → j < w.heap.size ∨ w.heap.size + 2 ≤ j) ∧ J own k W ∧ W.heap[w.heap.size + 1]? = some (.loop (rc' .ready none)) ∧ W.heap[w.heap.size]? = some (.deferred (some [])))
            (fun oy W => ∃ own, (∀ j, oy j ↔ own j ∨ j = w.heap.size + 1) ∧ (∀ j, own j → j < w.heap.size ∨ w.heap.size + 2 ≤ j) ∧ Jx own W ∧ W.heap[w.heap.size + 1]? = some (.loop (rc' .done (some jump))) ∧ W.heap[w.heap.size]? = some (.deferred (some []))) oy (k + 1) Wb (.returned (.bool false)) (W3.putObj (w.heap.size + 1) (.loop (rc' .done (some jump)))) := fun W3 ⟨own', ho, hb3, hj3⟩ => by
        obtain ⟨f1, f2, f3, f4, f5⟩ := fin W3 own' .done (some jump) ho hb3
        have hr := run_endRound (P := P) (some jump) f1
        rw [hrc] at hr f4 f5 ⊢
        refine ⟨hr, fun j => own' j ∨ j = w.heap.size + 1, f4, f5, .inr ⟨rfl, own', fun _ => Iff.rfl, f3, hJx own' _ _ hj3 (Kw.put W3 _ _ (by omega) (out own' f3).2), World.putObj_heap_same (Array.getElem?_eq_some_iff.1 f1).1, (World.putObj_heap_other (by omega)).trans f2⟩⟩
      rintro e a3 W3 hp
      cases e with
      | normal =>
        obtain ⟨own', ho, hb3, hj3⟩ := hp
        obtain ⟨f1, f2, f3, f4, f5⟩ := fin W3 own' .ready none ho hb3
        have hr := run_endRound (P := P) none f1
        rw [hrc] at hr f4 f5 ⊢
        refine ⟨_, _, hr, fun j => own' j ∨ j = w.heap.size + 1, f4, f5, .inl ⟨rfl, own', fun _ => Iff.rfl, f3, hJ own' _ _ _ hj3 (Kw.put W3 _ _ (by omega) (out own' f3).2), World.putObj_heap_same (Array.getElem?_eq_some_iff.1 f1).1, (World.putObj_heap_other (by omega)).trans f2⟩⟩
      | exit i =>
        obtain ⟨rfl, hp⟩ := hp
        obtain ⟨hr, hy⟩ := stop3 W3 hp
        exact ⟨_, _, hr, hy⟩
      | ret =>
        obtain ⟨rfl, hp⟩ := hp
        obtain ⟨hr, hy⟩ := stop3 W3 hp
        exact ⟨_, _, hr, hy⟩
      | goto t => exact hp.elim
      | panic ch => exact hp.elim
      | outgrown => exact hp.elim
    · rintro e W2 ⟨⟨v, rfl⟩, oy, ⟨own, g1, g2, hx, hl, hd⟩ | ⟨own, g1, g2, hx, hl, hd⟩⟩
      · refine ⟨none, _, by have := run_endLoop (P := P) hl (by rw [hrc]; simp); rw [hrc] at this; exact this, ?_⟩
        exact hdone _ own _ rfl (out own g2).1 (hJ _ _ _ _ hx (Kw.put W2 _ _ (by omega) (out own g2).2)) ((World.putObj_heap_other (by omega)).trans hd)
      · refine ⟨some jump, _, by have := run_endLoop (P := P) hl (by rw [hrc]; simp); rw [hrc] at this; exact this, ?_⟩
        exact hstop _ own _ rfl (out own g2).1 (hJx _ _ _ hx (Kw.put W2 _ _ (by omega) (out own g2).2)) ((World.putObj_heap_other (by omega)).trans hd)
/-- A function that holds ranges over functions is left: its marks. -/
theorem leaves_marks {F : Fence} {n : Nat} {P : Program} {fn : Func} {tmps : Array Value} {R : Ending → World → Prop} {v : Value} (hres : ∀ W, (results fn tmps).run P W = .ok v W) :
    ∀ (Ds : List Nat) (W : World), Ds.Nodup → (∀ D ∈ Ds, W.heap[D]? = some (.deferred (some []))) → (∀ W', But (fun j => j ∈ Ds) W W' → R (.returned v) W') →
      LeavesInM F n P fn tmps R (Ds.map fun D => { target := .collected D, args := #[] }) .returning W
  | [], W, _, _, h => ⟨v, hres W, h W (But.refl _ _)⟩
  | D :: Ds, W, hn, hd, h => by
    have hD := hd D (by simp)
    refine ⟨by simp, .inl ⟨D, _, rfl, run_takeDeferred hD, ?_⟩⟩
    obtain ⟨h1, h2⟩ := List.nodup_cons.1 hn
    refine leaves_marks hres Ds _ h2 (fun E hE => ?_) fun W' hb => h W' ?_
    · exact (World.putObj_heap_other (fun e => h1 (by rw [← e]; exact hE))).trans (hd E (by simp [hE]))
    · exact (But.put W D _ (by simp)).trans (hb.more fun j _ hj => by simp [hj])
end Go.Proofs.Ytaiiclkfnahghaa.Rq
/- The kids of a node, and the function that goes through nodes. -/
namespace Go.Proofs.Ytaiiclkfnahghaa.Rq
open Go.RowKit Go.Lib Go.Shelf
open Go.Proofs.Ytaiiclkfnahghaa.Rc
set_option maxRecDepth 100000 in
set_option maxHeartbeats 4000000 in
theorem kids_any (X Y L : Nat) (ro : Option Addr) (rn rcc : Nat) (ko : Option Addr) (kn kc : Nat) (ks : List Nv) (q : Nat → Nat) (w : World) (hkn : kn = ks.length) (hna : NodesAt w ko kc ks) (h4 : ks.length ≤ 4) (bX : X < 4294967296) (bY : Y < 4294967296)
    (hw : ∀ i (h : i < ks.length), wher X Y (L : Int) ks[i].X ks[i].Y = (q i, 0) ∧ ks[i].X < 4294967296 ∧ ks[i].Y < 4294967296 ∧ rightS ks[i].X ks[i].Y (ks[i].L : Int) = true ∧ ks[i].L < L) (hq : ∀ i j, i < j → j < ks.length → q i < q j) :
    Calls Try.prog 88 #[.agg #[.int .u32 (X : Int), .int .u32 (Y : Int), .int .i64 (L : Int), .slice ro rn rcc, .slice ko kn kc]] w fun e w' => ∃ v, e = .returned v ∧ w'.ownsRow w.heap.size 33 5 v ks.length (ks.flatMap nc) ∧ Below w.heap.size w w' := by
  have HBn : Hid (Below w.heap.size w (w.alloc (.cells #[.int .u32 (X : Int), .int .u32 (Y : Int), .int .i64 (L : Int), .slice ro rn rcc, .slice ko kn kc] 33))) := below_new w _
  have HGn : Hid ((w.alloc (.cells #[.int .u32 (X : Int), .int .u32 (Y : Int), .int .i64 (L : Int), .slice ro rn rcc, .slice ko kn kc] 33)).heap[w.heap.size]? = some (.cells #[.int .u32 (X : Int), .int .u32 (Y : Int), .int .i64 (L : Int), .slice ro rn rcc, .slice ko kn kc] 33 (0, 0))) := heap_alloc_new w _
  have HNA : Hid (NodesAt w ko kc ks) := hna
  have HW : Hid _ := hw
  have HQ : Hid (∀ i j, i < j → j < ks.length → q i < q j) := hq
  have HKN : Hid (kn = ks.length ∧ ks.length ≤ 4) := ⟨hkn, h4⟩
  have hk4 : kn ≤ 4 := by omega
  obtain ⟨zL, hzL⟩ : ∃ zL : Int, (L : Int) = zL := ⟨_, rfl⟩
  have HZL : Hid ((L : Int) = zL) := hzL
  rw [hzL] at HBn HGn HW ⊢
  clear hna hw hq hkn h4 hzL
  go_enter Try.func88, Try.ntmps88
  go_wp2_with fail
  go_loopw [3, 4, 12] (fun v z j wr => ∃ i : Nat, ∃ zl : Int, i ≤ kn ∧ z = .int .i64 zl ∧ j = .int .i64 (i : Int) ∧ (∀ p, i ≤ p → p < kn → zl < (q p : Int)) ∧ wr.ownsRow (w.heap.size + 1) 33 5 v i ((ks.take i).flatMap nc) ∧ wr.heap[w.heap.size]? = some (.cells #[.int .u32 (X : Int), .int .u32 (Y : Int), .int .i64 zL, .slice ro rn rcc, .slice ko kn kc] 33 (0, 0)) ∧ Below w.heap.size w wr) (fun _ _ j _ => kn - natOf j)
  case atStart => exact ⟨0, -1, by omega, rfl, rfl, fun p _ _ => by omega, World.ownsRow_nil _ _ _ _, HGn.out, HBn.out⟩
  case round =>
    obtain ⟨i, zl, hi, rfl, rfl, hz, ho, hg, hb⟩ := hrel
    have HO : Hid (wr.ownsRow (w.heap.size + 1) 33 5 u3 i ((ks.take i).flatMap nc)) := ho
    have HGr : Hid _ := hg
    have HBr : Hid (Below w.heap.size w wr) := hb
    have hgs : w.heap.size < wr.heap.size := (Array.getElem?_eq_some_iff.1 hg).1
    obtain ⟨z0, z1, z2, z3, z4, f0, f1, f2, f3, f4⟩ := node_facts hg
    clear z0 z1 z2 z3 z4
    by_cases hlt : i < kn
    · have hik : i < ks.length := by have := HKN.out; omega
      obtain ⟨b, off, rfl, hbl0, hc⟩ := HNA.out.node (by omega)
      have hbl : b < wr.heap.size := Nat.lt_of_lt_of_le hbl0 hb.size
      obtain ⟨c0, c1, c2, c3, c4⟩ := (hc i hik).same (hb.block b hbl0)
      obtain ⟨x1, x2, x3, x4, x5⟩ := HW.out i hik
      have HC : Hid _ := where_any X Y zL ks[i].X ks[i].Y bX bY x2 x3
      rw [x1] at HC
      have HR : Hid _ := right_any ks[i].X ks[i].Y (ks[i].L : Int) x2 x3
      rw [x4] at HR
      have htk : ks.take (i + 1) = ks.take i ++ [ks[i]] := by rw [List.take_add_one, List.getElem?_eq_getElem hik]; rfl
      have HTK : Hid (ks.take (i + 1) = ks.take i ++ [ks[i]]) := htk
      have hzi := hz i (Nat.le_refl _) hlt
      have HQ1 : Hid (∀ p, i + 1 ≤ p → p < kn → (q i : Int) < (q p : Int)) := fun p hp hpn => by
        have := HQ.out i p (by omega) (by have := HKN.out; omega)
        omega
      generalize ks[i] = kid at *
      obtain ⟨kX, kY, kL, kro, krn, krc, kko, kkn, kkc⟩ := kid
      simp only at c0 c1 c2 c3 c4 HC HR x5
      obtain ⟨zk, hzk⟩ : ∃ zk : Int, (kL : Int) = zk := ⟨_, rfl⟩
      have q6 : decide (zk < zL) = true := decide_eq_true (by have := HZL.out; omega)
      have HZK : Hid ((kL : Int) = zk) := hzk
      rw [hzk] at c2 HR
      simp only [wv] at HC
      generalize hqi : (q i : Int) = zq at *
      have q5 : decide (zl < zq) = true := decide_eq_true (by omega)
      have q1 : (i : Int) < (kn : Int) := by omega
      have i0 : (0 : Int) ≤ (i : Int) := by omega
      have i1 : (i : Int) + 1 ≤ 9223372036854775807 := by omega
      clear x1 x2 x3 x4 x5 hc htk hz hzi hqi hzk ho hg hb hbl0 hik bX bY
      go_wp2_with fail
      refine (HC.out _).mono ?_
      rintro e w1 ⟨rfl, b1⟩
      have hb0 := below_new wr (.cells #[.int .u32 (kX : Int), .int .u32 (kY : Int), .int .i64 zk, .slice kro krn krc, .slice kko kkn kkc] 33)
      have HB1 : Hid (Below wr.heap.size wr w1) := hb0.trans (b1.mono (by simp))
      have HG1 : Hid (w1.heap[w.heap.size]? = some (.cells #[.int .u32 (X : Int), .int .u32 (Y : Int), .int .i64 zL, .slice ro rn rcc, .slice (some ⟨b, off, none⟩) kn kc] 33 (0, 0))) := (HB1.out.block _ hgs).trans HGr.out
      have HK1 : Hid (w1.heap[wr.heap.size]? = some (.cells #[.int .u32 (kX : Int), .int .u32 (kY : Int), .int .i64 zk, .slice kro krn krc, .slice kko kkn kkc] 33 (0, 0))) := (b1.block _ (by simp)).trans (heap_alloc_new wr _)
      have hs1 : wr.heap.size < w1.heap.size := (Array.getElem?_eq_some_iff.1 HK1.out).1
      clear b1 hb0 c0 c1 c2 c3 c4 f0 f1 f2 f3 f4
      obtain ⟨z0, z1, z2, z3, z4, f0, f1, f2, f3, f4⟩ := node_facts HG1.out
      obtain ⟨y0, y1, y2, y3, y4, k0, k1, k2, k3, k4⟩ := node_facts HK1.out
      clear z0 z1 z2 z3 z4 y0 y1 y2 y3 y4
      go_wp2_with fail
      refine (HR.out _).mono ?_
      rintro e w2 ⟨rfl, b2⟩
      have hs2 := b2.size
      have HB2 : Hid (Below wr.heap.size wr w2) := HB1.out.trans (b2.mono HB1.out.size)
      have HG2 : Hid (w2.heap[w.heap.size]? = some (.cells #[.int .u32 (X : Int), .int .u32 (Y : Int), .int .i64 zL, .slice ro rn rcc, .slice (some ⟨b, off, none⟩) kn kc] 33 (0, 0))) := (HB2.out.block _ hgs).trans HGr.out
      have HK2 : Hid (w2.heap[wr.heap.size]? = some (.cells #[.int .u32 (kX : Int), .int .u32 (kY : Int), .int .i64 zk, .slice kro krn krc, .slice kko kkn kkc] 33 (0, 0))) := (b2.block _ hs1).trans HK1.out
      clear b2 f0 f1 f2 f3 f4 k0 k1 k2 k3 k4 HC HR
      obtain ⟨z0, z1, z2, z3, z4, f0, f1, f2, f3, f4⟩ := node_facts HG2.out
      obtain ⟨y0, y1, y2, y3, y4, k0, k1, k2, k3, k4⟩ := node_facts HK2.out
      clear z0 z1 z2 z3 z4 y0 y1 y2 y3 y4
      have hb3 := below_new w2 (.cells #[.int .u32 (kX : Int), .int .u32 (kY : Int), .int .i64 zk, .slice kro krn krc, .slice kko kkn kkc] 33)
      obtain ⟨v', W', hrun, a1, a2, a3⟩ := append_sl 31 33 Try.underlying31 infoNode rfl (by decide) (by decide) (w2.alloc (.cells #[.int .u32 (kX : Int), .int .u32 (kY : Int), .int .i64 zk, .slice kro krn krc, .slice kko kkn kkc] 33)) (w.heap.size + 1) i 1 u3 (some ⟨w2.heap.size, 0, none⟩) 1
        ((ks.take i).flatMap nc) (nc ⟨kX, kY, kL, kro, krn, krc, kko, kkn, kkc⟩) (own_same HO.out fun b _ hb => (hb3.block b (Nat.lt_of_lt_of_le hb HB2.out.size)).trans (HB2.out.block b hb)) (by have := HB2.out.size; simp; omega) (by have := one_node (n := ⟨kX, kY, kL, kro, krn, krc, kko, kkn, kkc⟩) (w := w2.alloc (.cells #[.int .u32 (kX : Int), .int .u32 (kY : Int), .int .i64 (kL : Int), .slice kro krn krc, .slice kko kkn kkc] 33)) (heap_alloc_new w2 _); rw [HZK.out] at this; exact this) (nc_one' _) (by omega)
      have hob : ∀ b, u3.ownBlock = some b → w.heap.size + 1 ≤ b := fun b hb => (own_base HO.out hb).1
      have HN1 : Hid (W'.ownsRow (w.heap.size + 1) 33 5 v' (i + 1) ((ks.take (i + 1)).flatMap nc)) := by
        refine (?_ : W'.ownsRow (w.heap.size + 1) 33 5 v' (i + 1) ((ks.take (i + 1)).flatMap nc))
        rw [HTK.out, List.flatMap_append]
        simpa using a1
      have HG3 : Hid (W'.heap[w.heap.size]? = some (.cells #[.int .u32 (X : Int), .int .u32 (Y : Int), .int .i64 zL, .slice ro rn rcc, .slice (some ⟨b, off, none⟩) kn kc] 33 (0, 0))) := (a2.block _ (by simp; omega) (by intro e; have := hob _ e.symm; omega)).trans ((hb3.block _ (by omega)).trans HG2.out)
      have HB3 : Hid (Below w.heap.size w W') := (HBr.out.trans ((HB2.out.trans (hb3.mono HB2.out.size)).mono HBr.out.size)).grown a2 (by simp; omega) fun b eb => by have := hob b eb; omega
      clear a1 a2 a3 hb3 hob
      go_wp2_with (at_builtin; refine list_append rfl 31 31 (.tmp 49) (.tmp 51) rfl (vs := u3) (vx := .slice (some ⟨w2.heap.size, 0, none⟩) 1 1) rfl rfl hrun ?_)
      go_roundw
      case rel => exact ⟨i + 1, zq, by omega, rfl, by go_num, HQ1.out, HN1.out, HG3.out, HB3.out⟩
      case measure => simp [natOf]; omega
    · obtain rfl : i = kn := by omega
      have q1 : ¬ (i : Int) < (i : Int) := by omega
      have HF : Hid (wr.ownsRow w.heap.size 33 5 u3 ks.length (ks.flatMap nc)) := by
        have := HO.out
        rw [HKN.out.1, List.take_length] at this
        exact own_lower this (by omega)
      clear hb hg ho
      go_wp2_with fail
      go_ret
      exact ⟨u3, rfl, HF.out, HBr.out⟩
set_option maxRecDepth 100000 in
set_option maxHeartbeats 1000000 in
theorem nodes_any (ef : Nat) (eb : Array Value) (lo : Option Addr) (ln lc : Nat) (w : World) :
    Calls Try.prog 76 #[.func (.func ef) #[] eb, .slice lo ln lc] w fun e w' => e = .returned (.func (.func 87) #[] #[.pointer (some ⟨w.heap.size + 1, 0, none⟩), .pointer (some ⟨w.heap.size, 0, none⟩)]) ∧ w' = (w.alloc (.cells #[.func (.func ef) #[] eb] 70)).alloc (.cells #[.slice lo ln lc] 31) := by
  go_enter Try.func76, Try.ntmps76
  go_wp2_with fail
  go_ret
  exact ⟨rfl, rfl⟩
end Go.Proofs.Ytaiiclkfnahghaa.Rq
