/- A range over a function whose body keeps rows of its own, and what the function itself keeps; what comes is not known ahead; left by its end, by a return or by a label. -/
import Derived.Test.YtkpfnepbnaekoaaPDH
namespace Go.Proofs.Ytkpfnepbnaekoaa.Rd
open Go.RowKit
theorem below_put {B l : Nat} (W : World) (o : Obj) (h : B ≤ l) : Below B W (W.putObj l o) :=
  ⟨rfl, rfl, rfl, by simp [World.putObj], fun k hk => World.putObj_heap_other (by omega)⟩
theorem two_new (w : World) (a b : Obj) : ((w.alloc a).alloc b).heap[w.heap.size]? = some a ∧ ((w.alloc a).alloc b).heap[w.heap.size + 1]? = some b ∧ Below w.heap.size w ((w.alloc a).alloc b) := by
  refine ⟨?_, ?_, ((Below.refl _ w).alloc (Nat.le_refl _) _).alloc (by simp) _⟩
  · exact (Below.heap_alloc _ _ _ (by simp)).trans (heap_alloc_new w a)
  · have := heap_alloc_new (w.alloc a) b; simpa using this
/-- All blocks below a place are kept, and the cells of all others. -/
def Kz (b : Nat) (A B : World) : Prop := Below b A B ∧ ∀ (j : Nat) (o : Obj), A.heap[j]? = some o → o.isCells = true → B.heap[j]? = some o
theorem Kz.of_below {b : Nat} {A B : World} (h : Below A.heap.size A B) (hb : b ≤ A.heap.size) : Kz b A B := ⟨h.mono hb, fun j _ ho _ => (h.block j (Array.getElem?_eq_some_iff.1 ho).1).trans ho⟩
theorem Kz.put {b : Nat} (W : World) (l : Nat) (o o' : Obj) (h : W.heap[l]? = some o) (hc : o.isCells = false) (hl : b ≤ l) : Kz b W (W.putObj l o') :=
  ⟨below_put W o' hl, fun j p hp hpc => by
    by_cases e : j = l
    · subst e; rw [h] at hp; cases hp; rw [hc] at hpc; cases hpc
    · exact (World.putObj_heap_other e).trans hp⟩
/-- Some blocks are kept. -/
def Keeps (Sx : Nat → Prop) (A B : World) : Prop := A.heap.size ≤ B.heap.size ∧ ∀ j, Sx j → j < A.heap.size → B.heap[j]? = A.heap[j]?
theorem Keeps.trans {Sx : Nat → Prop} {A B C : World} (h : Keeps Sx A B) (k : Keeps Sx B C) : Keeps Sx A C := ⟨Nat.le_trans h.1 k.1, fun j hj hl => (k.2 j hj (Nat.lt_of_lt_of_le hl h.1)).trans (h.2 j hj hl)⟩
theorem Keeps.put {Sx : Nat → Prop} (W : World) (l : Nat) (o : Obj) (h : ¬ Sx l) : Keeps Sx W (W.putObj l o) := ⟨by simp [World.putObj], fun j hj _ => World.putObj_heap_other fun e => h (by rw [← e]; exact hj)⟩
theorem Keeps.below {Sx : Nat → Prop} {A B : World} (h : Below A.heap.size A B) : Keeps Sx A B := ⟨h.size, fun j _ hl => h.block j hl⟩
theorem Keeps.refl (Sx : Nat → Prop) (A : World) : Keeps Sx A A := ⟨Nat.le_refl _, fun _ _ _ => rfl⟩
/-- All that is no cells, from a place on, but for one block, is kept. -/
def Kn (B r : Nat) (A C : World) : Prop := ∀ (j : Nat) (o : Obj), B ≤ j → j ≠ r → A.heap[j]? = some o → o.isCells = false → C.heap[j]? = some o
theorem Kn.trans {B r : Nat} {A C D : World} (h : Kn B r A C) (k : Kn B r C D) : Kn B r A D := fun j o hB hr ho hc => k j o hB hr (h j o hB hr ho hc) hc
theorem Kn.below {B r : Nat} {A C : World} (h : Below A.heap.size A C) : Kn B r A C := fun j _ _ _ ho _ => (h.block j (Array.getElem?_eq_some_iff.1 ho).1).trans ho
theorem Kn.put (B r : Nat) (W : World) (o : Obj) : Kn B r W (W.putObj r o) := fun _ _ _ hr ho _ => (World.putObj_heap_other hr).trans ho
/-- How a round's body may be left: off its end, or by the one jump. -/
def lPost7 (B : Nat) (Sx : Nat → Prop) (J Jx : World → Prop) (jump : Code) (W : World) : Exit → Act → World → Prop
  | .normal, _, W' => KeepsFrom B W W' ∧ Keeps Sx W W' ∧ J W'
  | .exit i, _, W' => jump = .exit i ∧ KeepsFrom B W W' ∧ Jx W'
  | .ret, _, W' => jump = .ret ∧ KeepsFrom B W W' ∧ Jx W'
  | _, _, _ => False
theorem range_law7 {F : Fence} {n : Nat} {P : Program} {g : Operand} {ps : Array Tmp} {assign body : Code} {Q : Exit → Act → World → Prop} {a : Act} {w : World}
    (hro : F.round = none) (h1 : 1 ≤ n) {gf : Nat} {lb : Array Value} (hg : a.eval g = .func (.func gf) #[] lb) (hFg : F.fn gf) (eg : ∀ args w, (callFunc gf args).run P w = .ok (.enter gf args) w)
    {ι α : Type} (encs : α → Array Value) (hps : ∀ k, (encs k).size = ps.size) (step : ι → α → ι) (ok : ι → α → Prop) (fin : ι → Prop) (i0 : ι) (Sx : Nat → Prop) (hSx : ¬ Sx (w.heap.size + 1))
    (J : ι → World → Prop) (Jx : World → Prop) (jump : Code) (hJ : ∀ k W W', J k W → Kz w.heap.size W W' → J k W') (hJx : ∀ W W', Jx W → Kz w.heap.size W W' → Jx W') (h0 : J i0 w)
    (A : α → Act → World → Prop) (hA : ∀ k a' W l o', A k a' W → w.heap.size ≤ l → l < w.heap.size + 2 → A k a' (W.putObj l o'))
    (hassign : ∀ (l : Nat) (i : ι) (k : α) (W : World) (K : Act → World → Prop), ok i k → J i W → w.heap.size + 2 ≤ W.heap.size → (∀ a' W', Below W.heap.size W W' → A k a' W' → K a' W') →
      assign.wpIn (F.inRound l) (n - 1 - 1) P (Exit.then K (fun _ _ _ => False)) { tmps := (ps.zip (encs k)).foldl (fun t (p, v) => t.setIfInBounds p v) a.tmps, defers := [] } W)
    (hbody : ∀ (l : Nat) (i : ι) (k : α) (a' : Act) (W : World), ok i k → J i W → A k a' W → w.heap.size + 2 ≤ W.heap.size → body.wpIn (F.inRound l) (n - 1 - 1) P (lPost7 w.heap.size Sx (J (step i k)) Jx jump W) a' W)
    (hiter : ∀ (l : Nat) (W1 : World), l = w.heap.size + 1 → Below w.heap.size w W1 → W1.heap.size = w.heap.size + 2 → ∀ (R : ι → World → Prop) (Rx : World → Prop), (∀ k W W', R k W → Kz W1.heap.size W W' → R k W') → (∀ W W', Rx W → Kz W1.heap.size W W' → Rx W') → (∀ k W, R k W → J k W) →
      (∀ i k W, ok i k → R i W → YieldAt F (n - 1 - 1) P l (encs k) W fun e W' => (e = .returned (.bool true) ∧ R (step i k) W' ∧ Keeps Sx W W' ∧ Kn w.heap.size l W W') ∨ (e = .returned (.bool false) ∧ Rx W')) → R i0 W1 →
      CallsIn F (n - 1) P gf (#[.func (.yield l) #[] #[]] ++ lb) W1 fun e W' => (∃ v, e = .returned v) ∧ ((∃ i, fin i ∧ R i W') ∨ Rx W'))
    (hdone : ∀ (D : Nat) (i : ι) (W : World), w.heap.size ≤ D → fin i → J i W → W.heap[D]? = some (.deferred (some [])) → Q .normal { a with defers := { target := .collected D, args := #[] } :: a.defers } W)
    (hstop : ∀ (D : Nat) (W : World), w.heap.size ≤ D → Jx W → W.heap[D]? = some (.deferred (some [])) → jump.wpIn F n P Q { a with defers := { target := .collected D, args := #[] } :: a.defers } W) :
    (Code.rangeFunc g ps assign body).wpIn F n P Q a w := by
  refine wpIn_rangeFunc fun fn hfn => ?_
  rw [hro]
  obtain ⟨rc, hrc⟩ : ∃ rc : LoopState → Option Code → Loop, rc = fun st pe => { state := st, pending := pe, fn, tmps := a.tmps, params := ps, assign, body, defers := w.heap.size } := ⟨_, rfl⟩
  obtain ⟨W1, hW1⟩ : ∃ W1, (w.alloc (.deferred (some []))).alloc (.loop (rc .ready none)) = W1 := ⟨_, rfl⟩
  have hn2 := two_new w (.deferred (some [])) (.loop (rc .ready none))
  have hs : W1.heap.size = w.heap.size + 2 := by rw [← hW1]; simp
  rw [hW1] at hn2
  obtain ⟨hD1, hL1, hB1⟩ := hn2
  refine ⟨w.heap.size + 1, [{ target := .collected w.heap.size, args := #[] }], W1, { target := .fn (.func gf) lb, args := #[.func (.yield (w.heap.size + 1)) #[] #[]] }, W1, gf,
    #[.func (.yield (w.heap.size + 1)) #[] #[]] ++ lb, W1, ?_, ?_, ?_, ?_, fun _ => h1, ?_⟩
  · rw [← hW1, hrc]; exact run_enterLoop_outer _ _ _ _ _
  · simp only [resolve, hg]
    simp [go_sem]
  · intro f' hf'
    simp [Target.leads] at hf'
    subst hf'
    exact hFg
  · simp [invoke, go_sem, eg]
  · refine (hiter (w.heap.size + 1) W1 rfl hB1 hs
      (fun k W => J k W ∧ W.heap[w.heap.size + 1]? = some (.loop (rc .ready none)) ∧ W.heap[w.heap.size]? = some (.deferred (some [])))
      (fun W => Jx W ∧ W.heap[w.heap.size + 1]? = some (.loop (rc .done (some jump))) ∧ W.heap[w.heap.size]? = some (.deferred (some [])))
      (fun k W W' h hb => ⟨hJ k W W' h.1 ⟨hb.1.mono (by omega), hb.2⟩, (hb.1.block _ (by omega)).trans h.2.1, (hb.1.block _ (by omega)).trans h.2.2⟩)
      (fun W W' h hb => ⟨hJx W W' h.1 ⟨hb.1.mono (by omega), hb.2⟩, (hb.1.block _ (by omega)).trans h.2.1, (hb.1.block _ (by omega)).trans h.2.2⟩)
      (fun k W h => h.1) ?_ ⟨hJ i0 w W1 h0 (Kz.of_below hB1 (Nat.le_refl _)), hL1, hD1⟩).mono ?_
    · rintro i k Wb hkN ⟨hj, hl, hd⟩
      have hyr := run_yield (P := P) (args := encs k) hl (by rw [hrc]; exact hps k)
      rw [hrc] at hyr
      refine ⟨fn, _, assign, body, hyr, roundIn_of_wpIn hfn (hassign _ i k Wb _ hkN hj (by have := (Array.getElem?_eq_some_iff.1 hl).1; omega) ?_)⟩
      intro a' W hBa hAx
      have hltb := (Array.getElem?_eq_some_iff.1 hl).1
      have hKa : Keeps Sx Wb W := Keeps.below hBa
      have hNa : Kn w.heap.size (w.heap.size + 1) Wb W := Kn.below hBa
      replace hj := hJ i _ _ hj (Kz.of_below hBa (by omega))
      replace hl := (hBa.block _ (by omega)).trans hl
      replace hd := (hBa.block _ (by omega)).trans hd
      have hlt : w.heap.size + 1 < W.heap.size := (Array.getElem?_eq_some_iff.1 hl).1
      refine ⟨_, run_beginRound hl (by rw [hrc]), ?_⟩
      have hl2 : (W.putObj (w.heap.size + 1) (.loop { rc .ready none with state := .busy })).heap[w.heap.size + 1]? = some (.loop { rc .ready none with state := .busy }) := World.putObj_heap_same hlt
      have hd2 : (W.putObj (w.heap.size + 1) (.loop { rc .ready none with state := .busy })).heap[w.heap.size]? = some (.deferred (some [])) := (World.putObj_heap_other (by omega)).trans hd
      refine wpIn_mono (hbody _ i k a' _ hkN (hJ i _ _ hj (Kz.put W _ _ _ hl rfl (by omega))) (hA k a' W _ _ hAx (by omega) (by omega)) (by simp [World.putObj]; omega)) ?_
      have fin : ∀ (W3 : World), KeepsFrom w.heap.size (W.putObj (w.heap.size + 1) (.loop { rc .ready none with state := .busy })) W3 → Jx W3 →
          (Instr.endRound (w.heap.size + 1) (some jump)).run P W3 = .ok (.bool false) (W3.putObj (w.heap.size + 1) (.loop (rc .done (some jump)))) ∧ Jx (W3.putObj (w.heap.size + 1) (.loop (rc .done (some jump)))) ∧
          (W3.putObj (w.heap.size + 1) (.loop (rc .done (some jump)))).heap[w.heap.size + 1]? = some (.loop (rc .done (some jump))) ∧
          (W3.putObj (w.heap.size + 1) (.loop (rc .done (some jump)))).heap[w.heap.size]? = some (.deferred (some [])) := fun W3 hk3 hj3 => by
        have hl3 := hk3.same _ _ (by omega) hl2 rfl
        have hd3 := hk3.same _ _ (Nat.le_refl _) hd2 rfl
        have hr := run_endRound (P := P) (some jump) hl3
        rw [hrc] at hr ⊢
        exact ⟨hr, hJx _ _ hj3 (Kz.put W3 _ _ _ hl3 rfl (by omega)), World.putObj_heap_same (Array.getElem?_eq_some_iff.1 hl3).1, (World.putObj_heap_other (by omega)).trans hd3⟩
      rintro e a3 W3 hp
      cases e with
      | normal =>
        obtain ⟨hk3, hkp, hj3⟩ := hp
        have hl3 := hk3.same _ _ (by omega) hl2 rfl
        have hd3 := hk3.same _ _ (Nat.le_refl _) hd2 rfl
        have hr := run_endRound (P := P) none hl3
        refine ⟨_, _, hr, .inl ⟨rfl, ⟨hJ _ _ _ hj3 (Kz.put W3 _ _ _ hl3 rfl (by omega)), ?_, (World.putObj_heap_other (by omega)).trans hd3⟩, hKa.trans ((Keeps.put W _ _ hSx).trans (hkp.trans (Keeps.put W3 _ _ hSx))), hNa.trans ((Kn.put _ _ W _).trans (Kn.trans (fun j o hB _ ho hc => hk3.same j o hB ho hc) (Kn.put _ _ W3 _)))⟩⟩
        rw [World.putObj_heap_same (Array.getElem?_eq_some_iff.1 hl3).1, hrc]
        rfl
      | exit i =>
        obtain ⟨rfl, hk3, hj3⟩ := hp
        obtain ⟨hr, f1, f2, f3⟩ := fin W3 hk3 hj3
        exact ⟨_, _, hr, .inr ⟨rfl, f1, f2, f3⟩⟩
      | ret =>
        obtain ⟨rfl, hk3, hj3⟩ := hp
        obtain ⟨hr, f1, f2, f3⟩ := fin W3 hk3 hj3
        exact ⟨_, _, hr, .inr ⟨rfl, f1, f2, f3⟩⟩
      | goto t => exact hp.elim
      | panic ch => exact hp.elim
      | outgrown => exact hp.elim
    · rintro e W2 ⟨⟨v, rfl⟩, ⟨i, hfi, hx, hl, hd⟩ | ⟨hx, hl, hd⟩⟩
      · refine ⟨none, _, by have := run_endLoop (P := P) hl (by rw [hrc]; simp); rw [hrc] at this; exact this, ?_⟩
        exact hdone _ i _ (Nat.le_refl _) hfi (hJ _ _ _ hx (Kz.put W2 _ _ _ hl rfl (by omega))) ((World.putObj_heap_other (by omega)).trans hd)
      · refine ⟨some jump, _, by have := run_endLoop (P := P) hl (by rw [hrc]; simp); rw [hrc] at this; exact this, ?_⟩
        exact hstop _ _ (Nat.le_refl _) (hJx _ _ hx (Kz.put W2 _ _ _ hl rfl (by omega))) ((World.putObj_heap_other (by omega)).trans hd)
end Go.Proofs.Ytkpfnepbnaekoaa.Rd
