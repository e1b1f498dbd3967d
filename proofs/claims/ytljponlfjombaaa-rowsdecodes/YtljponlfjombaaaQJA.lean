/- A range over a function whose body owns blocks, some of them new; what the function itself keeps is no block of the body's. -/
import Derived.Test.YtljponlfjombaaaPGB
import Derived.Test.YtljponlfjombaaaPHR
namespace Go.Proofs.Ytljponlfjombaaa.Rq
open Go.RowKit
open Go.Proofs.Ytljponlfjombaaa.Rc
/-- All but some blocks are as they were. -/
structure But (S : Nat → Prop) (w w' : World) : Prop where
  os : w'.os = w.os
  tape : w'.tape = w.tape
  output : w'.output = w.output
  size : w.heap.size ≤ w'.heap.size
  block : ∀ k, k < w.heap.size → ¬ S k → w'.heap[k]? = w.heap[k]?
theorem But.refl (S : Nat → Prop) (w : World) : But S w w := ⟨rfl, rfl, rfl, Nat.le_refl _, fun _ _ _ => rfl⟩
theorem But.trans {S : Nat → Prop} {a b c : World} (h : But S a b) (k : But S b c) : But S a c :=
  ⟨k.os.trans h.os, k.tape.trans h.tape, k.output.trans h.output, Nat.le_trans h.size k.size, fun i hi hs => (k.block i (Nat.lt_of_lt_of_le hi h.size) hs).trans (h.block i hi hs)⟩
theorem But.of_below {S : Nat → Prop} {w w' : World} (h : Below w.heap.size w w') : But S w w' := ⟨h.os, h.tape, h.output, h.size, fun k hk _ => h.block k hk⟩
theorem But.more {S S' : Nat → Prop} {w w' : World} (h : But S w w') (hs : ∀ k, k < w.heap.size → S k → S' k) : But S' w w' := ⟨h.os, h.tape, h.output, h.size, fun k hk hn => h.block k hk fun e => hn (hs k hk e)⟩
theorem But.below {S : Nat → Prop} {w w' : World} {B : Nat} (h : But S w w') (hs : ∀ k, S k → B ≤ k) (hB : B ≤ w.heap.size) : Below B w w' :=
  ⟨h.os, h.tape, h.output, h.size, fun k hk => h.block k (by omega) fun e => by have := hs k e; omega⟩
theorem But.put {S : Nat → Prop} (w : World) (l : Nat) (o : Obj) (hl : S l) : But S w (w.putObj l o) :=
  ⟨rfl, rfl, rfl, by simp [World.putObj], fun k _ hn => World.putObj_heap_other fun e => hn (by rw [e]; exact hl)⟩
/-- The blocks below a place, and some more, are as they were. -/
structure Kw (B : Nat) (own : Nat → Prop) (w w' : World) : Prop where
  os : w'.os = w.os
  tape : w'.tape = w.tape
  output : w'.output = w.output
  size : w.heap.size ≤ w'.heap.size
  block : ∀ k, k < w.heap.size → (k < B ∨ own k) → w'.heap[k]? = w.heap[k]?
theorem Kw.below {B : Nat} {own : Nat → Prop} {w w' : World} (h : Kw B own w w') (hB : B ≤ w.heap.size) : Below B w w' := ⟨h.os, h.tape, h.output, h.size, fun k hk => h.block k (by omega) (.inl hk)⟩
theorem Kw.of_below {B : Nat} {own : Nat → Prop} {w w' : World} (h : Below w.heap.size w w') : Kw B own w w' := ⟨h.os, h.tape, h.output, h.size, fun k hk _ => h.block k hk⟩
theorem Kw.trans {B : Nat} {own : Nat → Prop} {a b c : World} (h : Kw B own a b) (k : Kw B own b c) : Kw B own a c :=
  ⟨k.os.trans h.os, k.tape.trans h.tape, k.output.trans h.output, Nat.le_trans h.size k.size, fun i hi hs => (k.block i (Nat.lt_of_lt_of_le hi h.size) hs).trans (h.block i hi hs)⟩
theorem Kw.put {B : Nat} {own : Nat → Prop} (w : World) (l : Nat) (o : Obj) (h1 : B ≤ l) (h2 : ¬ own l) : Kw B own w (w.putObj l o) :=
  ⟨rfl, rfl, rfl, by simp [World.putObj], fun k _ hn => World.putObj_heap_other fun e => by
    rcases hn with hn | hn
    · omega
    · exact h2 (by rw [← e]; exact hn)⟩
theorem Kw.less {B B' : Nat} {own own' : Nat → Prop} {w w' : World} (h : Kw B own w w') (hB : B' ≤ B) (ho : ∀ k, own' k → own k ∨ k < B) : Kw B' own' w w' :=
  ⟨h.os, h.tape, h.output, h.size, fun k hk hn => h.block k hk (by
    rcases hn with hn | hn
    · exact .inl (by omega)
    · rcases ho k hn with a | a
      · exact .inr a
      · exact .inl a)⟩
theorem yield_wide {P : Program} {n m l : Nat} {args : Array Value} {W : World} {R : Ending → World → Prop} (h : YieldAt Fence.wide n P l args W R) : YieldAt Fence.wide m P l args W R := by
  obtain ⟨fn, tmps, assign, body, h1, h2⟩ := h
  exact ⟨fn, tmps, assign, body, h1, h2.1, fun c cs _ => h2.2 c cs (room_wide _)⟩
/-- What a yield may come to: some more blocks are owned, the others are as they were. -/
def YPost {ι : Type} (R : (Nat → Prop) → ι → World → Prop) (Rx : (Nat → Prop) → World → Prop) (own : Nat → Prop) (i : ι) (W : World) (e : Ending) (W' : World) : Prop :=
  ∃ own', (∀ j, own' j → own j ∨ (W.heap.size ≤ j ∧ j < W'.heap.size)) ∧ But own W W' ∧ ((e = .returned (.bool true) ∧ R own' i W') ∨ (e = .returned (.bool false) ∧ Rx own' W'))
/-- How a round's body may be left. -/
def lPost9 (J : (Nat → Prop) → World → Prop) (Jx : (Nat → Prop) → World → Prop) (jump : Code) (own : Nat → Prop) (W : World) : Exit → Act → World → Prop
  | .normal, _, W' => ∃ own', (∀ j, own' j → own j ∨ (W.heap.size ≤ j ∧ j < W'.heap.size)) ∧ But own W W' ∧ J own' W'
  | .exit i, _, W' => jump = .exit i ∧ ∃ own', (∀ j, own' j → own j ∨ (W.heap.size ≤ j ∧ j < W'.heap.size)) ∧ But own W W' ∧ Jx own' W'
  | .ret, _, W' => jump = .ret ∧ ∃ own', (∀ j, own' j → own j ∨ (W.heap.size ≤ j ∧ j < W'.heap.size)) ∧ But own W W' ∧ Jx own' W'
  | _, _, _ => False
set_option maxHeartbeats 1000000 in
theorem range_law9 {n : Nat} {P : Program} {g : Operand} {ps : Array Tmp} {assign body : Code} {Q : Exit → Act → World → Prop} {a : Act} {w : World}
    (h1 : 1 ≤ n) {gf : Nat} {lb : Array Value} (hg : a.eval g = .func (.func gf) #[] lb) (eg : ∀ args w, (callFunc gf args).run P w = .ok (.enter gf args) w)
    {α : Type} (N : Nat) (encs : α → Array Value) (hps : ∀ k, (encs k).size = ps.size) (ok : Nat → α → Prop)
    (J : (Nat → Prop) → Nat → World → Prop) (Jx : (Nat → Prop) → World → Prop) (jump : Code)
    (hJ : ∀ own k W W', J own k W → Kw w.heap.size own W W' → J own k W') (hJx : ∀ own W W', Jx own W → Kw w.heap.size own W W' → Jx own W')
    (own0 : Nat → Prop) (hown0 : ∀ j, own0 j → j < w.heap.size) (h0 : J own0 0 w)
    (A : α → Act → World → Prop) (hA : ∀ x a' W l o', A x a' W → w.heap.size ≤ l → l < w.heap.size + 2 → A x a' (W.putObj l o'))
    (hassign : ∀ (l : Nat) (own : Nat → Prop) (k : Nat) (x : α) (W : World) (K : Act → World → Prop), k < N → ok k x → J own k W → w.heap.size + 2 ≤ W.heap.size → (∀ a' W', Below W.heap.size W W' → A x a' W' → K a' W') →
      assign.wpIn (Fence.wide.inRound l) (n - 1 - 1) P (Exit.then K (fun _ _ _ => False)) { tmps := (ps.zip (encs x)).foldl (fun t (p, v) => t.setIfInBounds p v) a.tmps, defers := [] } W)
    (hbody : ∀ (l : Nat) (own : Nat → Prop) (k : Nat) (x : α) (a' : Act) (W : World), k < N → ok k x → J own k W → A x a' W → w.heap.size + 2 ≤ W.heap.size → (∀ j, own j → j < W.heap.size) → body.wpIn (Fence.wide.inRound l) (n - 1 - 1) P (lPost9 (fun own' W' => J own' (k + 1) W') Jx jump own W) a' W)
    (hiter : ∀ (l : Nat) (W1 : World), l = w.heap.size + 1 → Below w.heap.size w W1 → W1.heap.size = w.heap.size + 2 → ∀ (R : (Nat → Prop) → Nat → World → Prop) (Rx : (Nat → Prop) → World → Prop) (own : Nat → Prop), (∀ j, own j ↔ own0 j ∨ j = l) →
      (∀ own k W W', R own k W → Kw W1.heap.size own W W' → R own k W') → (∀ own W W', Rx own W → Kw W1.heap.size own W W' → Rx own W') →
      (∀ own k x W, k < N → ok k x → R own k W → (∀ j, own j → j < W.heap.size) → YieldAt Fence.wide 0 P l (encs x) W (YPost R Rx own (k + 1) W)) → R own 0 W1 →
      Calls P gf (#[.func (.yield l) #[] #[]] ++ lb) W1 fun e W' => (∃ v, e = .returned v) ∧ ∃ own', (R own' N W' ∨ Rx own' W'))
    (hdone : ∀ (D : Nat) (own : Nat → Prop) (W : World), D = w.heap.size → ¬ own D → J own N W → W.heap[D]? = some (.deferred (some [])) → Q .normal { a with defers := { target := .collected D, args := #[] } :: a.defers } W)
    (hstop : ∀ (D : Nat) (own : Nat → Prop) (W : World), D = w.heap.size → ¬ own D → Jx own W → W.heap[D]? = some (.deferred (some [])) → jump.wpIn Fence.wide n P Q { a with defers := { target := .collected D, args := #[] } :: a.defers } W) :
    (Code.rangeFunc g ps assign body).wpIn Fence.wide n P Q a w := by
  refine wpIn_rangeFunc fun fn hfn => ?_
  rw [show Fence.wide.round = none from rfl]
  obtain ⟨rc', hrc⟩ : ∃ rc' : LoopState → Option Code → Loop, rc' = fun st pe => { state := st, pending := pe, fn, tmps := a.tmps, params := ps, assign, body, defers := w.heap.size } := ⟨_, rfl⟩
  obtain ⟨W1, hW1⟩ : ∃ W1, (w.alloc (.deferred (some []))).alloc (.loop (rc' .ready none)) = W1 := ⟨_, rfl⟩
  have hn2 := two_new w (.deferred (some [])) (.loop (rc' .ready none))
  have hs : W1.heap.size = w.heap.size + 2 := by rw [← hW1]; simp
  rw [hW1] at hn2
  obtain ⟨hD1, hL1, hB1⟩ := hn2
  refine ⟨w.heap.size + 1, [{ target := .collected w.heap.size, args := #[] }], W1, { target := .fn (.func gf) lb, args := #[.func (.yield (w.heap.size + 1)) #[] #[]] }, W1, gf,
    #[.func (.yield (w.heap.size + 1)) #[] #[]] ++ lb, W1, ?_, ?_, ?_, ?_, fun _ => h1, ?_⟩
  · rw [← hW1, hrc]; exact run_enterLoop_outer _ _ _ _ _
  · simp only [resolve, hg]
    simp [go_sem]
  · intro f' hf'
    trivial
  · simp [invoke, go_sem, eg]
  · have out : ∀ own : Nat → Prop, (∀ j, own j → j < w.heap.size ∨ w.heap.size + 2 ≤ j) → ¬ own w.heap.size ∧ ¬ own (w.heap.size + 1) := fun own h => ⟨fun e => by have := h _ e; omega, fun e => by have := h _ e; omega⟩
    refine callsIn_wide.2 ((hiter (w.heap.size + 1) W1 rfl hB1 hs
      (fun oy k W => ∃ own, (∀ j, oy j ↔ own j ∨ j = w.heap.size + 1) ∧ (∀ j, own j → j < w.heap.size ∨ w.heap.size + 2 ≤ j) ∧ J own k W ∧ W.heap[w.heap.size + 1]? = some (.loop (rc' .ready none)) ∧ W.heap[w.heap.size]? = some (.deferred (some [])))
      (fun oy W => ∃ own, (∀ j, oy j ↔ own j ∨ j = w.heap.size + 1) ∧ (∀ j, own j → j < w.heap.size ∨ w.heap.size + 2 ≤ j) ∧ Jx own W ∧ W.heap[w.heap.size + 1]? = some (.loop (rc' .done (some jump))) ∧ W.heap[w.heap.size]? = some (.deferred (some [])))
      (fun j => own0 j ∨ j = w.heap.size + 1) (fun j => Iff.rfl)
      (fun oy k W W' h hb => ?_) (fun oy W W' h hb => ?_) ?_ ⟨own0, fun j => Iff.rfl, fun j hj => .inl (hown0 j hj), hJ own0 0 w W1 h0 (Kw.of_below hB1), hL1, hD1⟩).mono ?_)
    · obtain ⟨own, h1, h2, h3, h4, h5⟩ := h
      have l4 := (Array.getElem?_eq_some_iff.1 h4).1
      exact ⟨own, h1, h2, hJ own k W W' h3 (hb.less (by omega) fun j hj => .inl ((h1 j).2 (.inl hj))), (hb.block _ l4 (.inl (by omega))).trans h4, (hb.block _ (by omega) (.inl (by omega))).trans h5⟩
    · obtain ⟨own, h1, h2, h3, h4, h5⟩ := h
      have l4 := (Array.getElem?_eq_some_iff.1 h4).1
      exact ⟨own, h1, h2, hJx own W W' h3 (hb.less (by omega) fun j hj => .inl ((h1 j).2 (.inl hj))), (hb.block _ l4 (.inl (by omega))).trans h4, (hb.block _ (by omega) (.inl (by omega))).trans h5⟩
    · rintro oy k x Wb hkN hok ⟨own, g1, g2, hj, hl, hd⟩ hsz
      have hyr := run_yield (P := P) (args := encs x) hl (by rw [hrc]; exact hps x)
      rw [hrc] at hyr
      refine yield_wide (n := n - 1 - 1) ⟨fn, _, assign, body, hyr, roundIn_of_wpIn hfn (hassign _ own k x Wb _ hkN hok hj (by have := (Array.getElem?_eq_some_iff.1 hl).1; omega) ?_)⟩
      intro a' W hBa hAx
      have hltb := (Array.getElem?_eq_some_iff.1 hl).1
      have hO := out own g2
      replace hj := hJ own k _ _ hj (Kw.of_below hBa)
      replace hl := (hBa.block _ (by omega)).trans hl
      replace hd := (hBa.block _ (by omega)).trans hd
      have hlt : w.heap.size + 1 < W.heap.size := (Array.getElem?_eq_some_iff.1 hl).1
      have hszW := hBa.size
      refine ⟨_, run_beginRound hl (by rw [hrc]), ?_⟩
      obtain ⟨Wp, hWp⟩ : ∃ Wp, W.putObj (w.heap.size + 1) (.loop { rc' .ready none with state := .busy }) = Wp := ⟨_, rfl⟩
      have hl2 : Wp.heap[w.heap.size + 1]? = some (.loop { rc' .ready none with state := .busy }) := by rw [← hWp]; exact World.putObj_heap_same hlt
      have hd2 : Wp.heap[w.heap.size]? = some (.deferred (some [])) := by rw [← hWp]; exact (World.putObj_heap_other (by omega)).trans hd
      have hsp : Wp.heap.size = W.heap.size := by rw [← hWp]; simp [World.putObj]
      have hjp : J own k Wp := by rw [← hWp]; exact hJ own k _ _ hj (Kw.put W _ _ (by omega) hO.2)
      have hAp : A x a' Wp := by rw [← hWp]; exact hA x a' W _ _ hAx (by omega) (by omega)
      have hbp : But (fun j => own j ∨ j = w.heap.size + 1) Wb Wp := by rw [← hWp]; exact (But.of_below hBa).trans (But.put W _ _ (.inr rfl))
      rw [hWp]
      have hownlt : ∀ j, own j → j < Wp.heap.size := fun j hj' => by have := hsz j ((g1 j).2 (.inl hj')); omega
      refine wpIn_mono (hbody _ own k x a' Wp hkN hok hjp hAp (by omega) hownlt) ?_
      have fin : ∀ (W3 : World) (own' : Nat → Prop) (stt : LoopState) (pe : Option Code), (∀ j, own' j → own j ∨ (Wp.heap.size ≤ j ∧ j < W3.heap.size)) → But own Wp W3 →
          W3.heap[w.heap.size + 1]? = some (.loop { rc' .ready none with state := .busy }) ∧ W3.heap[w.heap.size]? = some (.deferred (some [])) ∧ (∀ j, own' j → j < w.heap.size ∨ w.heap.size + 2 ≤ j) ∧
          (∀ j, (own' j ∨ j = w.heap.size + 1) → oy j ∨ (Wb.heap.size ≤ j ∧ j < (W3.putObj (w.heap.size + 1) (.loop (rc' stt pe))).heap.size)) ∧ But oy Wb (W3.putObj (w.heap.size + 1) (.loop (rc' stt pe))) := fun W3 own' stt pe ho hb => by
        have hs3 := hb.size
        refine ⟨(hb.block _ (by omega) hO.2).trans hl2, (hb.block _ (by omega) hO.1).trans hd2, fun j hj' => ?_, fun j hj' => ?_, ?_⟩
        · rcases ho j hj' with a | a
          · exact g2 j a
          · omega
        · rcases hj' with hj' | rfl
          · rcases ho j hj' with a | a
            · exact .inl ((g1 j).2 (.inl a))
            · exact .inr ⟨by omega, by simp [World.putObj]; omega⟩
          · exact .inl ((g1 _).2 (.inr rfl))
        · have e : But (fun j => own j ∨ j = w.heap.size + 1) Wb (W3.putObj (w.heap.size + 1) (.loop (rc' stt pe))) := hbp.trans ((hb.more fun j _ hj' => .inl hj').trans (But.put W3 _ _ (.inr rfl)))
          exact e.more fun j _ hj' => (g1 j).2 hj'
      have stop3 : ∀ (W3 : World), (∃ own', (∀ j, own' j → own j ∨ (Wp.heap.size ≤ j ∧ j < W3.heap.size)) ∧ But own Wp W3 ∧ Jx own' W3) →
          (Instr.endRound (w.heap.size + 1) (some jump)).run P W3 = .ok (.bool false) (W3.putObj (w.heap.size + 1) (.loop (rc' .done (some jump)))) ∧
          YPost (fun oy k W => ∃ own, (∀ j, oy j ↔ own j ∨ j = w.heap.size + 1) ∧ (∀ j, own j → j < w.heap.size ∨ w.heap.size + 2 ≤ j) ∧ J own k W ∧ W.heap[w.heap.size + 1]? = some (.loop (rc' .ready none)) ∧ W.heap[w.heap.size]? = some (.deferred (some [])))
            (fun oy W => ∃ own, (∀ j, oy j ↔ own j ∨ j = w.heap.size + 1) ∧ (∀ j, own j → j < w.heap.size ∨ w.heap.size + 2 ≤ j) ∧ Jx own W ∧ W.heap[w.heap.size + 1]? = some (.loop (rc' .done (some jump))) ∧ W.heap[w.heap.size]? = some (.deferred (some []))) oy (k + 1) Wb (.returned (.bool false)) (W3.putObj (w.heap.size + 1) (.loop (rc' .done (some jump)))) := fun W3 ⟨own', ho, hb3, hj3⟩ => by
        obtain ⟨f1, f2, f3, f4, f5⟩ := fin W3 own' .done (some jump) ho hb3
        have hr := run_endRound (P := P) (some jump) f1
        rw [hrc] at hr f4 f5 ⊢
        refine ⟨hr, fun j => own' j ∨ j = w.heap.size + 1, f4, f5, .inr ⟨rfl, own', fun _ => Iff.rfl, f3, hJx own' _ _ hj3 (Kw.put W3 _ _ (by omega) (out own' f3).2), World.putObj_heap_same (Array.getElem?_eq_some_iff.1 f1).1, (World.putObj_heap_other (by omega)).trans f2⟩⟩
      rintro e a3 W3 hp
      cases e with
      | normal =>
        obtain ⟨own', ho, hb3, hj3⟩ := hp
        obtain ⟨f1, f2, f3, f4, f5⟩ := fin W3 own' .ready none ho hb3
        have hr := run_endRound (P := P) none f1
        rw [hrc] at hr f4 f5 ⊢
        refine ⟨_, _, hr, fun j => own' j ∨ j = w.heap.size + 1, f4, f5, .inl ⟨rfl, own', fun _ => Iff.rfl, f3, hJ own' _ _ _ hj3 (Kw.put W3 _ _ (by omega) (out own' f3).2), World.putObj_heap_same (Array.getElem?_eq_some_iff.1 f1).1, (World.putObj_heap_other (by omega)).trans f2⟩⟩
      | exit i =>
        obtain ⟨rfl, hp⟩ := hp
        obtain ⟨hr, hy⟩ := stop3 W3 hp
        exact ⟨_, _, hr, hy⟩
      | ret =>
        obtain ⟨rfl, hp⟩ := hp
        obtain ⟨hr, hy⟩ := stop3 W3 hp
        exact ⟨_, _, hr, hy⟩
      | goto t => exact hp.elim
      | panic ch => exact hp.elim
      | outgrown => exact hp.elim
    · rintro e W2 ⟨⟨v, rfl⟩, oy, ⟨own, g1, g2, hx, hl, hd⟩ | ⟨own, g1, g2, hx, hl, hd⟩⟩
      · refine ⟨none, _, by have := run_endLoop (P := P) hl (by rw [hrc]; simp); rw [hrc] at this; exact this, ?_⟩
        exact hdone _ own _ rfl (out own g2).1 (hJ _ _ _ _ hx (Kw.put W2 _ _ (by omega) (out own g2).2)) ((World.putObj_heap_other (by omega)).trans hd)
      · refine ⟨some jump, _, by have := run_endLoop (P := P) hl (by rw [hrc]; simp); rw [hrc] at this; exact this, ?_⟩
        exact hstop _ own _ rfl (out own g2).1 (hJx _ _ _ hx (Kw.put W2 _ _ (by omega) (out own g2).2)) ((World.putObj_heap_other (by omega)).trans hd)
/-- A function that holds ranges over functions is left: its marks. -/
theorem leaves_marks {F : Fence} {n : Nat} {P : Program} {fn : Func} {tmps : Array Value} {R : Ending → World → Prop} {v : Value} (hres : ∀ W, (results fn tmps).run P W = .ok v W) :
    ∀ (Ds : List Nat) (W : World), Ds.Nodup → (∀ D ∈ Ds, W.heap[D]? = some (.deferred (some []))) → (∀ W', But (fun j => j ∈ Ds) W W' → R (.returned v) W') →
      LeavesInM F n P fn tmps R (Ds.map fun D => { target := .collected D, args := #[] }) .returning W
  | [], W, _, _, h => ⟨v, hres W, h W (But.refl _ _)⟩
  | D :: Ds, W, hn, hd, h => by
    have hD := hd D (by simp)
    refine ⟨by simp, .inl ⟨D, _, rfl, run_takeDeferred hD, ?_⟩⟩
    obtain ⟨h1, h2⟩ := List.nodup_cons.1 hn
    refine leaves_marks hres Ds _ h2 (fun E hE => ?_) fun W' hb => h W' ?_
    · exact (World.putObj_heap_other (fun e => h1 (by rw [← e]; exact hE))).trans (hd E (by simp [hE]))
    · exact (But.put W D _ (by simp)).trans (hb.more fun j _ hj => by simp [hj])
end Go.Proofs.Ytljponlfjombaaa.Rq
/- Pages and refs in plain terms; the writer. -/
namespace Go.Proofs.Ytljponlfjombaaa.Rw
open Go.RowKit Go.Lib Go.Shelf
open Go.Proofs.Ytljponlfjombaaa.Rc Go.Proofs.Ytljponlfjombaaa.Rq
/-- Bytes as the cells of a row. -/
def bc (bs : List UInt8) : List Value := bs.map fun b => .int .u8 (b.toNat : Int)
set_option maxRecDepth 100000 in
theorem bc_len (bs : List UInt8) : (bc bs).length = bs.length := by simp [bc]
set_option maxRecDepth 100000 in
theorem bc_append (a b : List UInt8) : bc (a ++ b) = bc a ++ bc b := by simp [bc]
set_option maxRecDepth 100000 in
theorem bc_one (bs : List UInt8) : ∀ u ∈ bc bs, u.oneCell' = true := by
  intro u hu
  obtain ⟨b, -, rfl⟩ := List.mem_map.1 hu
  rfl
set_option maxRecDepth 100000 in
theorem infoByte : (Try.prog.info? 5).map (fun i => (i.zero, i.size, i.bytes)) = some (some (.int .u8 0), 1, 1) := by kernel_rfl
set_option maxRecDepth 100000 in
theorem list_append {P : Program} {ops : Array Oper} {rest : List Oper} {o : Oper} {a : Act} {w : World} {Q : Exit → Act → World → Prop} (hgd : o.guard = none) (t u : TypeId) (s x : Operand) (ho : o.op = .call { callee := .builtin .append, args := #[s, x], argTypes := #[t, u] })
    {vs vx v' : Value} {w' : World} (hs : a.eval s = vs) (hx : a.eval x = vx) (hrun : (Builtin.append_ #[t, u] o.type #[vs, vx]).run P w = .ok v' w') (h : wpList P ops Q rest (a.put o.dst v') w') : wpList P ops Q (o :: rest) a w :=
  wpList_plain hgd fun _ hK => by
    unfold Oper.wp execOp
    simp only [ho, resolve, invoke, builtin, Sem.run_bind, Sem.run_pure, Result.andThen_ok, List.map_toArray, List.map_cons, List.map_nil, hs, hx, hrun]
    exact hK _ _ h
set_option maxRecDepth 100000 in
theorem own_same1 {W W' : World} {base : Nat} {v : Value} {n : Nat} {xs : List Value} (h : W.ownsRow base 5 1 v n xs) (hs : ∀ b, v.ownBlock = some b → b < W.heap.size → W'.heap[b]? = W.heap[b]?) : W'.ownsRow base 5 1 v n xs := by
  refine ⟨h.1, ?_⟩
  rcases h.2 with h2 | ⟨g, cap, cur, rfl, h2, h3, h4⟩
  · exact .inl h2
  · exact .inr ⟨g, cap, cur, rfl, h2, (hs g rfl (Array.getElem?_eq_some_iff.1 h3).1).trans h3, h4⟩
set_option maxRecDepth 100000 in
theorem own_base1 {W : World} {base : Nat} {v : Value} {n : Nat} {xs : List Value} (h : W.ownsRow base 5 1 v n xs) {b : Nat} (hb : v.ownBlock = some b) : base ≤ b ∧ b < W.heap.size := by
  rcases h.2 with ⟨rfl, -⟩ | ⟨g, cap, cur, rfl, h2, h3, -⟩
  · simp [Value.ownBlock] at hb
  · simp [Value.ownBlock] at hb
    subst hb
    exact ⟨h2, (Array.getElem?_eq_some_iff.1 h3).1⟩
/-- A writer, what it has gathered, and the blocks that are its own. -/
structure Wr (g : Nat) (own : Nat → Prop) (bs : List UInt8) (W : World) : Prop where
  cell : ∃ v, W.heap[g]? = some (.cells #[v] 51 (0, 0)) ∧ W.ownsRow (g + 1) 5 1 v bs.length (bc bs) ∧ ∀ b, v.ownBlock = some b → own b
  mine : own g
  out : ∀ j, own j → g ≤ j ∧ j < W.heap.size
set_option maxRecDepth 100000 in
theorem Wr.lt {g : Nat} {own : Nat → Prop} {bs : List UInt8} {W : World} (h : Wr g own bs W) : g < W.heap.size := (h.out g h.mine).2
set_option maxRecDepth 100000 in
theorem Wr.but {g : Nat} {own S : Nat → Prop} {bs : List UInt8} {W W' : World} (h : Wr g own bs W) (hb : But S W W') (hS : ∀ j, own j → ¬ S j) : Wr g own bs W' := by
  obtain ⟨v, h1, h2, h3⟩ := h.cell
  exact ⟨⟨v, (hb.block _ h.lt (hS _ h.mine)).trans h1, own_same1 h2 fun b hb' hlt => hb.block b hlt (hS b (h3 b hb')), h3⟩, h.mine, fun j hj => ⟨(h.out j hj).1, Nat.lt_of_lt_of_le (h.out j hj).2 hb.size⟩⟩
set_option maxRecDepth 100000 in
theorem Wr.next {g : Nat} {own : Nat → Prop} {bs : List UInt8} {W W' : World} (h : Wr g own bs W) (hb : Below W.heap.size W W') : Wr g own bs W' := h.but (S := fun _ => False) (But.of_below hb) fun _ _ e => e
/-- What has become of a writer: it has more, and all blocks but its own are as they were. -/
def Wrote (g : Nat) (own : Nat → Prop) (bs : List UInt8) (W W' : World) : Prop := ∃ own', (∀ j, own' j → own j ∨ W.heap.size ≤ j) ∧ But own W W' ∧ Wr g own' bs W'
set_option maxRecDepth 100000 in
theorem Wrote.refl {g : Nat} {own : Nat → Prop} {bs : List UInt8} {W W' : World} (h : Wr g own bs W) (hb : Below W.heap.size W W') : Wrote g own bs W W' := ⟨own, fun _ h => .inl h, But.of_below hb, h.next hb⟩
set_option maxRecDepth 100000 in
theorem Wrote.trans {g : Nat} {own own' : Nat → Prop} {bs : List UInt8} {W W' W2 : World} (h1 : ∀ j, own' j → own j ∨ W.heap.size ≤ j) (h2 : But own W W') (k : Wrote g own' bs W' W2) : Wrote g own bs W W2 := by
  obtain ⟨own2, k1, k2, k3⟩ := k
  refine ⟨own2, fun j hj => ?_, ⟨k2.os.trans h2.os, k2.tape.trans h2.tape, k2.output.trans h2.output, Nat.le_trans h2.size k2.size, fun j hj hn => (k2.block j (Nat.lt_of_lt_of_le hj h2.size) fun e => ?_).trans (h2.block j hj hn)⟩, k3⟩
  · rcases k1 j hj with a | a
    · exact h1 j a
    · exact .inr (Nat.le_trans h2.size a)
  · rcases h1 j e with a | a
    · exact hn a
    · omega
set_option maxRecDepth 100000 in
/-- One byte more. -/
theorem add_any (g : Nat) (own : Nat → Prop) (bs : List UInt8) (c : UInt8) (hl : bs.length ≤ 10000) (W : World) (h : Wr g own bs W) :
    Calls Try.prog 26 #[.pointer (some ⟨g, 0, none⟩), .int .u8 (c.toNat : Int)] W fun e W' => e = .returned (.tuple #[]) ∧ Wrote g own (bs ++ [c]) W W' := by
  obtain ⟨v, h1, h2, h3⟩ := h.cell
  obtain ⟨z, hz⟩ : ∃ z : Int, (c.toNat : Int) = z := ⟨_, rfl⟩
  have hbn := below_new W (.cells #[.int .u8 z] 5)
  have hgn := heap_alloc_new W (.cells #[.int .u8 z] 5)
  have lg : g < W.heap.size := h.lt
  have c0 : W.cell? ⟨g, 0, none⟩ = some v := by rw [cell_of_row _ _ _ _ _ _ h1]; rfl
  have hsl : Sl 1 (W.alloc (.cells #[.int .u8 z] 5)) (some ⟨W.heap.size, 0, none⟩) 1 1 (bc [c]) := by
    refine ⟨Nat.le_refl _, by decide, (fun e => by cases e), rfl, fun _ => ⟨W.heap.size, 0, rfl, by simp, fun j u hu => ?_⟩⟩
    rw [Nat.zero_add, cell_of_row _ _ _ _ _ _ hgn]
    have : j < 1 := (List.getElem?_eq_some_iff.1 hu).1
    obtain rfl : j = 0 := by omega
    rw [← hz]; exact hu
  obtain ⟨v', W2, hrun, a1, a2, a3⟩ := append_sl 43 5 Try.underlying43 infoByte rfl (by decide) (by decide) (W.alloc (.cells #[.int .u8 z] 5)) (g + 1) bs.length 1 v (some ⟨W.heap.size, 0, none⟩) 1
    (bc bs) (bc [c]) (own_same1 h2 fun b _ hb => hbn.block b hb) (by simp; omega) hsl (bc_one _) (by omega)
  have nb : ∀ b, b ≤ g → v.ownBlock ≠ some b := fun b hb e => by have := (own_base1 h2 e).1; omega
  have hB2 : W2.heap[g]? = some (.cells #[v] 51 (0, 0)) := (a2.block _ (by simp; omega) (fun e => nb _ (Nat.le_refl _) e.symm)).trans ((hbn.block _ lg).trans h1)
  have z5 : W2.frozen? ⟨g, 0, none⟩ = false := frozen_of_row W2 _ 0 _ _ hB2
  have l2 : g < W2.heap.size := (Array.getElem?_eq_some_iff.1 hB2).1
  have d0 : W2.cell? ⟨g, 0, none⟩ = some v := by rw [cell_of_row _ _ _ _ _ _ hB2]; rfl
  have HFIN : Hid (Wrote g own (bs ++ [c]) W (W2.setCell ⟨g, 0, none⟩ v')) := by
    have hst : ∀ j, j ≠ g → (W2.setCell ⟨g, 0, none⟩ v').heap[j]? = W2.heap[j]? := fun j hj => Below.heap_setCell _ _ _ _ (fun e => hj e)
    have hss : (W2.setCell ⟨g, 0, none⟩ v').heap.size = W2.heap.size := by simp [World.setCell]
    have hs2 := a2.size
    have hs3 := hbn.size
    have hsa : (W.alloc (.cells #[.int .u8 z] 5)).heap.size = W.heap.size + 1 := by simp
    refine ⟨fun j => own j ∨ v'.ownBlock = some j, fun j hj => ?_, ⟨a2.os.trans hbn.os, a2.tape.trans hbn.tape, a2.output.trans hbn.output, by omega, fun j hj hn => (hst j fun e => hn (e ▸ h.mine)).trans ((a2.block j (by omega) (fun e => hn (h3 j e.symm))).trans (hbn.block j hj))⟩, ⟨⟨v', ?_, ?_, fun b hb => .inr hb⟩, .inl h.mine, fun j hj => ?_⟩⟩
    · rcases hj with hj | hj
      · exact .inl hj
      · rcases a3 with a3 | a3
        · exact .inl (h3 j (by rw [← a3]; exact hj))
        · rw [a3] at hj
          cases hj
          exact .inr (by omega)
    · have := heap_setCell_same W2 g 0 _ _ v' hB2
      simpa using this
    · rw [bc_append, List.length_append]
      exact own_same1 a1 fun b hb _ => hst b (by have := (own_base1 a1 hb).1; omega)
    · rcases hj with hj | hj
      · have := h.out j hj
        exact ⟨this.1, by omega⟩
      · have := own_base1 a1 hj
        exact ⟨by omega, by omega⟩
  obtain ⟨o, cap, rfl, -⟩ := sl_of_own h2
  obtain ⟨o', cap', rfl, -⟩ := sl_of_own a1
  rw [hz]
  clear h h1 h2 h3 hbn hgn hsl a1 a2 a3 nb hB2 hz
  go_enter Try.func26, Try.ntmps26
  go_wp2_with (at_builtin; refine list_append rfl 43 43 (.tmp 8) (.tmp 10) rfl (vs := .slice o bs.length cap) (vx := .slice (some ⟨W.heap.size, 0, none⟩) 1 1) rfl rfl hrun ?_)
  refine bodyPost_end (results_none rfl _ _ _) rfl ?_
  exact ⟨rfl, HFIN.out⟩
end Go.Proofs.Ytljponlfjombaaa.Rw
