/- A range over a function, left at its end, by a return or by a label; the loop variable in a block of its own. -/
import Derived.Test.YtimdlohdmddnjaaQCD
import Derived.WalkSpells
import Derived.WalkLawsBesides
import Derived.Deep.QuietTactic
import Derived.BigQuiet
import Derived.RangeFuncNested
import Derived.RangeFuncBound
import Derived.RangeFuncCalls
import Derived.RangeFuncLeaves
import Derived.Shelf.Abstract
import Derived.Shelf.RegionOpen
import Derived.WalkKit
import Derived.OwnWalkIn
import Derived.TacticsInMore
import Derived.LoopNIn
import Derived.LoopIn
import Derived.RegionIn
import Derived.RegionTactic
import Derived.Deep.MidRow
import Derived.Laws.OwnMore
import Derived.Maps.AppendAt
import Derived.ArgAppend
namespace Go.Proofs.Ytimdlohdmddnjaa.Rc
open Go.RowKit
theorem below_put {B l : Nat} (W : World) (o : Obj) (h : B ≤ l) : Below B W (W.putObj l o) :=
 ⟨rfl, rfl, rfl, by simp [World.putObj], fun k hk => World.putObj_heap_other (by omega)⟩
theorem two_new (w : World) (a b : Obj) : ((w.alloc a).alloc b).heap[w.heap.size]? = some a ∧ ((w.alloc a).alloc b).heap[w.heap.size + 1]? = some b ∧ Below w.heap.size w ((w.alloc a).alloc b) := by
 refine ⟨?_, ?_, ((Below.refl _ w).alloc (Nat.le_refl _) _).alloc (by simp) _⟩
 ·exact (Below.heap_alloc _ _ _ (by simp)).trans (heap_alloc_new w a)
 ·have := heap_alloc_new (w.alloc a) b; simpa using this
def Kq (b c : Nat) (A B : World) : Prop := A.heap.size ≤ B.heap.size ∧ ∀ j o, j < b ∨ j = c → A.heap[j]? = some o → o.isCells = true → B.heap[j]? = some o
theorem Kq.refl (b c : Nat) (A : World) : Kq b c A A := ⟨Nat.le_refl _, fun _ _ _ h _ => h⟩
theorem Kq.trans {b c : Nat} {A B C : World} (h : Kq b c A B) (k : Kq b c B C) : Kq b c A C := ⟨Nat.le_trans h.1 k.1, fun j o hj ho hc => k.2 j o hj (h.2 j o hj ho hc) hc⟩
theorem Kq.put (b c : Nat) (W : World) (l : Nat) (o o' : Obj) (h : W.heap[l]? = some o) (hc : o.isCells = false) : Kq b c W (W.putObj l o') :=
 ⟨by simp [World.putObj], fun j p _ hp hpc => by
  by_cases e : j = l
  ·subst e; rw [h] at hp; cases hp; rw [hc] at hpc; cases hpc
  ·exact (World.putObj_heap_other e).trans hp⟩
theorem Kq.below {b c B : Nat} {X Y : World} (h : Below B X Y) (hB : b ≤ B) (hc : c < B) : Kq b c X Y := ⟨h.size, fun j _ hj ho _ => (h.block j (by omega)).trans ho⟩
def lPost3 (B : Nat) (Kp : World → World → Prop) (J Jx : World → Prop) (jump : Code) (W : World) : Exit → Act → World → Prop
 | .normal, _, W' => KeepsFrom B W W' ∧ Kp W W' ∧ J W'
 | .exit i, _, W' => jump = .exit i ∧ KeepsFrom B W W' ∧ Jx W'
 | .ret, _, W' => jump = .ret ∧ KeepsFrom B W W' ∧ Jx W'
 | _, _, _ => False
theorem range_law3 {F : Fence} {n : Nat} {P : Program} {g : Operand} {ps : Array Tmp} {assign body : Code} {Q : Exit → Act → World → Prop} {a : Act} {w : World}
  (hro : F.round = none) (h1 : 1 ≤ n) {gf : Nat} {lb : Array Value} (hg : a.eval g = .func (.func gf) #[] lb) (hFg : F.fn gf) (eg : ∀ args w, (callFunc gf args).run P w = .ok (.enter gf args) w)
  (N : Nat) (encs : Nat → Array Value) (hps : ∀ k, (encs k).size = ps.size) (Kp : World → World → Prop) (hKt : ∀ {A B C : World}, Kp A B → Kp B C → Kp A C)
  (hKb : ∀ (W : World) (l : Nat) (o o' : Obj), W.heap[l]? = some o → o.isCells = false → Kp W (W.putObj l o'))
  (J : Nat → World → Prop) (Jx : World → Prop) (jump : Code) (hJ : ∀ k W W', J k W → Below w.heap.size W W' → J k W') (hJx : ∀ W W', Jx W → Below w.heap.size W W' → Jx W') (h0 : J 0 w)
  (A : Nat → Act → World → Prop) (hA : ∀ k a' W l o', A k a' W → w.heap.size ≤ l → l < w.heap.size + 2 → A k a' (W.putObj l o'))
  (hassign : ∀ (l k : Nat) (W : World) (K : Act → World → Prop), k < N → J k W → w.heap.size + 2 ≤ W.heap.size → (∀ a' W', Below W.heap.size W W' → Kp W W' → A k a' W' → K a' W') →
   assign.wpIn (F.inRound l) (n - 1 - 1) P (Exit.then K (fun _ _ _ => False)) { tmps := (ps.zip (encs k)).foldl (fun t (p, v) => t.setIfInBounds p v) a.tmps, defers := [] } W)
  (hbody : ∀ (l k : Nat) (a' : Act) (W : World), k < N → J k W → A k a' W → body.wpIn (F.inRound l) (n - 1 - 1) P (lPost3 w.heap.size Kp (J (k + 1)) Jx jump W) a' W)
  (hiter : ∀ (l : Nat) (W1 : World), Below w.heap.size w W1 → W1.heap.size = w.heap.size + 2 → ∀ (R : Nat → World → Prop) (Rx : World → Prop), (∀ k W W', R k W → Below W1.heap.size W W' → R k W') → (∀ W W', Rx W → Below W1.heap.size W W' → Rx W') →
   (∀ k W, k < N → R k W → YieldAt F (n - 1 - 1) P l (encs k) W fun e W' => (e = .returned (.bool true) ∧ R (k + 1) W' ∧ Kp W W') ∨ (e = .returned (.bool false) ∧ Rx W')) → R 0 W1 →
   CallsIn F (n - 1) P gf (#[.func (.yield l) #[] #[]] ++ lb) W1 fun e W' => (∃ v, e = .returned v) ∧ (R N W' ∨ Rx W'))
  (hdone : ∀ (D : Nat) (W : World), w.heap.size ≤ D → J N W → W.heap[D]? = some (.deferred (some [])) → Q .normal { a with defers := { target := .collected D, args := #[] } :: a.defers } W)
  (hstop : ∀ (D : Nat) (W : World), w.heap.size ≤ D → Jx W → W.heap[D]? = some (.deferred (some [])) → jump.wpIn F n P Q { a with defers := { target := .collected D, args := #[] } :: a.defers } W) :
  (Code.rangeFunc g ps assign body).wpIn F n P Q a w := by
 refine wpIn_rangeFunc fun fn hfn => ?_
 rw [hro]
 obtain ⟨rc, hrc⟩ : ∃ rc : LoopState → Option Code → Loop, rc = fun st pe => { state := st, pending := pe, fn, tmps := a.tmps, params := ps, assign, body, defers := w.heap.size } := ⟨_, rfl⟩
 obtain ⟨W1, hW1⟩ : ∃ W1, (w.alloc (.deferred (some []))).alloc (.loop (rc .ready none)) = W1 := ⟨_, rfl⟩
 have hn2 := two_new w (.deferred (some [])) (.loop (rc .ready none))
 have hs : W1.heap.size = w.heap.size + 2 := by rw [← hW1]; simp
 rw [hW1] at hn2
 obtain ⟨hD1, hL1, hB1⟩ := hn2
 refine ⟨w.heap.size + 1, [{ target := .collected w.heap.size, args := #[] }], W1, { target := .fn (.func gf) lb, args := #[.func (.yield (w.heap.size + 1)) #[] #[]] }, W1, gf,
  #[.func (.yield (w.heap.size + 1)) #[] #[]] ++ lb, W1, ?_, ?_, ?_, ?_, fun _ => h1, ?_⟩
 ·rw [← hW1, hrc]; exact run_enterLoop_outer _ _ _ _ _
 ·simp only [resolve, hg]
  simp [go_sem]
 ·intro f' hf'
  simp [Target.leads] at hf'
  subst hf'
  exact hFg
 ·simp [invoke, go_sem, eg]
 ·refine (hiter (w.heap.size + 1) W1 hB1 hs
   (fun k W => J k W ∧ W.heap[w.heap.size + 1]? = some (.loop (rc .ready none)) ∧ W.heap[w.heap.size]? = some (.deferred (some [])))
   (fun W => Jx W ∧ W.heap[w.heap.size + 1]? = some (.loop (rc .done (some jump))) ∧ W.heap[w.heap.size]? = some (.deferred (some [])))
   (fun k W W' h hb => ⟨hJ k W W' h.1 (hb.mono (by omega)), (hb.block _ (by omega)).trans h.2.1, (hb.block _ (by omega)).trans h.2.2⟩)
   (fun W W' h hb => ⟨hJx W W' h.1 (hb.mono (by omega)), (hb.block _ (by omega)).trans h.2.1, (hb.block _ (by omega)).trans h.2.2⟩)
   ?_ ⟨hJ 0 w W1 h0 hB1, hL1, hD1⟩).mono ?_
  ·rintro k Wb hkN ⟨hj, hl, hd⟩
   have hyr := run_yield (P := P) (args := encs k) hl (by rw [hrc]; exact hps k)
   rw [hrc] at hyr
   refine ⟨fn, _, assign, body, hyr, roundIn_of_wpIn hfn (hassign _ k Wb _ hkN hj (by have := (Array.getElem?_eq_some_iff.1 hl).1; omega) ?_)⟩
   intro a' W hBa hKa hAx
   have hltb := (Array.getElem?_eq_some_iff.1 hl).1
   replace hj := hJ k _ _ hj (hBa.mono (by omega))
   replace hl := (hBa.block _ (by omega)).trans hl
   replace hd := (hBa.block _ (by omega)).trans hd
   have hlt : w.heap.size + 1 < W.heap.size := (Array.getElem?_eq_some_iff.1 hl).1
   refine ⟨_, run_beginRound hl (by rw [hrc]), ?_⟩
   have hl2 : (W.putObj (w.heap.size + 1) (.loop { rc .ready none with state := .busy })).heap[w.heap.size + 1]? = some (.loop { rc .ready none with state := .busy }) := World.putObj_heap_same hlt
   have hd2 : (W.putObj (w.heap.size + 1) (.loop { rc .ready none with state := .busy })).heap[w.heap.size]? = some (.deferred (some [])) := (World.putObj_heap_other (by omega)).trans hd
   refine wpIn_mono (hbody _ k a' _ hkN (hJ k _ _ hj (below_put W _ (by omega))) (hA k a' W _ _ hAx (by omega) (by omega))) ?_
   have fin : ∀ (W3 : World), KeepsFrom w.heap.size (W.putObj (w.heap.size + 1) (.loop { rc .ready none with state := .busy })) W3 → Jx W3 →
     (Instr.endRound (w.heap.size + 1) (some jump)).run P W3 = .ok (.bool false) (W3.putObj (w.heap.size + 1) (.loop (rc .done (some jump)))) ∧ Jx (W3.putObj (w.heap.size + 1) (.loop (rc .done (some jump)))) ∧
     (W3.putObj (w.heap.size + 1) (.loop (rc .done (some jump)))).heap[w.heap.size + 1]? = some (.loop (rc .done (some jump))) ∧
     (W3.putObj (w.heap.size + 1) (.loop (rc .done (some jump)))).heap[w.heap.size]? = some (.deferred (some [])) := fun W3 hk3 hj3 => by
    have hl3 := hk3.same _ _ (by omega) hl2 rfl
    have hd3 := hk3.same _ _ (Nat.le_refl _) hd2 rfl
    have hr := run_endRound (P := P) (some jump) hl3
    rw [hrc] at hr ⊢
    exact ⟨hr, hJx _ _ hj3 (below_put W3 _ (by omega)), World.putObj_heap_same (Array.getElem?_eq_some_iff.1 hl3).1, (World.putObj_heap_other (by omega)).trans hd3⟩
   rintro e a3 W3 hp
   cases e with
   | normal =>
    obtain ⟨hk3, hkp, hj3⟩ := hp
    have hl3 := hk3.same _ _ (by omega) hl2 rfl
    have hd3 := hk3.same _ _ (Nat.le_refl _) hd2 rfl
    have hr := run_endRound (P := P) none hl3
    refine ⟨_, _, hr, .inl ⟨rfl, ⟨hJ _ _ _ hj3 (below_put W3 _ (by omega)), ?_, (World.putObj_heap_other (by omega)).trans hd3⟩, hKt hKa (hKt (hKb W _ _ _ hl rfl) (hKt hkp (hKb W3 _ _ _ hl3 rfl)))⟩⟩
    rw [World.putObj_heap_same (Array.getElem?_eq_some_iff.1 hl3).1, hrc]
    rfl
   | exit i =>
    obtain ⟨rfl, hk3, hj3⟩ := hp
    obtain ⟨hr, f1, f2, f3⟩ := fin W3 hk3 hj3
    exact ⟨_, _, hr, .inr ⟨rfl, f1, f2, f3⟩⟩
   | ret =>
    obtain ⟨rfl, hk3, hj3⟩ := hp
    obtain ⟨hr, f1, f2, f3⟩ := fin W3 hk3 hj3
    exact ⟨_, _, hr, .inr ⟨rfl, f1, f2, f3⟩⟩
   | goto t => exact hp.elim
   | panic ch => exact hp.elim
   | outgrown => exact hp.elim
  ·rintro e W2 ⟨⟨v, rfl⟩, ⟨hx, hl, hd⟩ | ⟨hx, hl, hd⟩⟩
   ·refine ⟨none, _, by have := run_endLoop (P := P) hl (by rw [hrc]; simp); rw [hrc] at this; exact this, ?_⟩
    exact hdone _ _ (Nat.le_refl _) (hJ _ _ _ hx (below_put W2 _ (by omega))) ((World.putObj_heap_other (by omega)).trans hd)
   ·refine ⟨some jump, _, by have := run_endLoop (P := P) hl (by rw [hrc]; simp); rw [hrc] at this; exact this, ?_⟩
    exact hstop _ _ (Nat.le_refl _) (hJx _ _ hx (below_put W2 _ (by omega))) ((World.putObj_heap_other (by omega)).trans hd)
open Go.RowKit Go.Shelf Go.Lib
attribute [local go_sem] Oper.semAt_some ix0 ix1 ix2 ix3
def qx (X xr : Nat) : Nat → Nat | 0 => X | 1 => xr | 2 => X | _ => xr
def qy (Y yr : Nat) : Nat → Nat | 0 => Y | 1 => Y | 2 => yr | _ => yr
def YieldsQ (gf : Nat) (lb : Array Value) (e : Nat → Array Value) (B c : Nat) (w0 : World) : Prop :=
 ∀ (p : Nat) (W1 : World), Kq B c w0 W1 → ∀ (R : Nat → World → Prop) (Rx : World → Prop), (∀ k W W', R k W → Below W1.heap.size W W' → R k W') → (∀ W W', Rx W → Below W1.heap.size W W' → Rx W') →
  (∀ k W, k < 4 → R k W → YieldAt Fence.wide 3 Try.prog p (e k) W fun e W' => (e = .returned (.bool true) ∧ R (k + 1) W' ∧ Kq B c W W') ∨ (e = .returned (.bool false) ∧ Rx W')) → R 0 W1 →
  CallsIn Fence.wide 4 Try.prog gf (#[.func (.yield p) #[] #[]] ++ lb) W1 fun e W' => (∃ v, e = .returned v) ∧ (R 4 W' ∨ Rx W')
set_option maxRecDepth 100000 in
theorem quarters_any (X Y : Nat) (L : Int) (w : World) :
  Calls Try.prog 95 #[cv X Y L] w fun e w' => e = .returned (.func (.func 100) #[] #[.pointer (some ⟨w.heap.size, 0, none⟩)]) ∧ w' = w.alloc (.cells #[.int .u32 (X : Int), .int .u32 (Y : Int), .int .i64 L] 42) := by
 go_enter Try.func95, Try.ntmps95
 go_wp2_with fail
 go_ret
 exact ⟨rfl, rfl⟩
set_option maxRecDepth 100000 in
set_option maxHeartbeats 1000000 in
theorem quarters1_in (X Y m b1 : Nat) (L : Int) (w w0 : World) (hL : L = (m : Int) + 1) (hm : m ≤ 30) (hX : X + 2 ^ m < 4294967296) (hY : Y + 2 ^ m < 4294967296) (hw : Kq w.heap.size b1 w w0) (hb1 : b1 < w0.heap.size)
  (h1 : w0.heap[b1]? = some (.cells #[.int .u32 (X : Int), .int .u32 (Y : Int), .int .i64 L] 42 (0, 0))) :
  YieldsQ 100 #[.pointer (some ⟨b1, 0, none⟩)] (fun k => #[.int .i64 (k : Int), cv (qx X (X + 2 ^ m) k) (qy Y (Y + 2 ^ m) k) (m : Int)]) w.heap.size b1 w0 := by
 intro p W hKq R Rx hR hRx hY' h0
 have HY : Hid _ := hY'
 have HR : Hid _ := hR
 have HRx : Hid _ := hRx
 have H0 : Hid (R 0 W) := h0
 have HKq : Hid (Kq w.heap.size b1 w W) := hw.trans hKq
 have hb1W : b1 < W.heap.size := Nat.lt_of_lt_of_le hb1 hKq.1
 have HB : Hid (W.heap[b1]? = some (.cells #[.int .u32 (X : Int), .int .u32 (Y : Int), .int .i64 L] 42 (0, 0))) := hKq.2 b1 _ (.inr rfl) h1 rfl
 have HC : Hid _ := corners_any X Y (2 ^ m) L hX hY
 obtain ⟨e0, e1, e2⟩ := Cel.cells HB.out
 have l1 : L - 1 = (m : Int) := by omega
 have l2 : -9223372036854775808 ≤ L - 1 ∧ L - 1 ≤ 9223372036854775807 := by omega
 have l3 : IntKind.u32.wrap ((2 : Int) ^ m) = ((2 ^ m : Nat) : Int) := by
  have := Nat.two_pow_pos m
  have : ((2 : Int) ^ m) = ((2 ^ m : Nat) : Int) := by simp
  rw [this, IntKind.wrap_u32']; omega
 obtain ⟨s, hs⟩ : ∃ s, 2 ^ m = s := ⟨_, rfl⟩
 rw [hs] at HC HY l3 hX hY
 obtain ⟨xr, hxr⟩ : ∃ xr, X + s = xr := ⟨_, rfl⟩
 obtain ⟨yr, hyr⟩ : ∃ yr, Y + s = yr := ⟨_, rfl⟩
 rw [hxr, hyr] at HC HY
 clear hY' hR hRx h0 h1 hKq hw hL hX hY hs hxr hyr
 refine callsIn_of_wp Try.func100 rfl trivial ?_ rfl
 simp only [Try.ntmps100, List.size_toArray, List.length_cons, List.length_nil, Nat.reduceAdd, Nat.reduceSub, Array.replicate_succ, Array.replicate_zero, List.push_toArray, List.append_toArray, List.nil_append, List.cons_append]
 gi_wp2
 have HSW : Hid (CelS b1 X Y L W.drew) := Cel.cells HB.out
 clear e0 e1 e2
 refine (wpIn_wide (n := 4)).2 (wp_region_held (S := CelS b1 X Y L) (by kernel_rfl) ?_)
 change wpAnyH _ _ _ _ _ _ _ _ (World.drew _)
 refine wpAnyH_take (i := 0) (v := ?_) rfl (by kernel_rfl) (by kernel_rfl) (by kernel_rfl) (fun _ _ _ h => h) (Or.inl ⟨by kernel_rfl, ?_⟩) HSW.out ?_
 rotate_left
 ·rintro w ⟨e1,e2,e3⟩; go_simp; try with_reducible rfl
 conv in (Act.put _ _ _) => simp only [List.getElem_toArray, List.getElem_cons_succ, List.getElem_cons_zero, Act.put, List.setIfInBounds_toArray, List.set_cons_succ, List.set_cons_zero]
 refine wpAnyH_take (i := 1) (v := ?_) rfl (by kernel_rfl) (by kernel_rfl) (by kernel_rfl) (fun _ _ _ h => h) (Or.inl ⟨by kernel_rfl, ?_⟩) HSW.out ?_
 rotate_left
 ·rintro w ⟨e1,e2,e3⟩; go_simp; try with_reducible rfl
 conv in (Act.put _ _ _) => simp only [List.getElem_toArray, List.getElem_cons_succ, List.getElem_cons_zero, Act.put, List.setIfInBounds_toArray, List.set_cons_succ, List.set_cons_zero]
 refine wpAnyH_take (i := 2) (v := ?_) rfl (by kernel_rfl) (by kernel_rfl) (by kernel_rfl) (fun _ _ _ h => h) (Or.inl ⟨by kernel_rfl, ?_⟩) HSW.out ?_
 rotate_left
 ·rintro w ⟨e1,e2,e3⟩; go_simp; try with_reducible rfl
 conv in (Act.put _ _ _) => simp only [List.getElem_toArray, List.getElem_cons_succ, List.getElem_cons_zero, Act.put, List.setIfInBounds_toArray, List.set_cons_succ, List.set_cons_zero]
 refine wpAnyH_take (i := 4) (v := ?_) rfl (by kernel_rfl) (by kernel_rfl) (by kernel_rfl) (fun _ _ _ h => h) (Or.inl ⟨by kernel_rfl, ?_⟩) HSW.out ?_
 rotate_left
 ·rintro w ⟨e1,e2,e3⟩; go_simp; try with_reducible rfl
 conv in (Act.put _ _ _) => simp only [List.getElem_toArray, List.getElem_cons_succ, List.getElem_cons_zero, Act.put, List.setIfInBounds_toArray, List.set_cons_succ, List.set_cons_zero]
 refine readyH 3 _ (by kernel_rfl) rfl (by kernel_rfl) (fun K hK => ?_)
 go_simp
 refine (HC.out _).mono ?_
 rintro e w1 ⟨rfl, b1'⟩
 have HSZ : Hid (W.heap.size ≤ w1.heap.size) := b1'.size
 have HKW : Hid (Kq w.heap.size b1 W w1) := ⟨b1'.size, fun j o hj ho _ => (b1'.block j (Array.getElem?_eq_some_iff.1 ho).1).trans ho⟩
 have HR0 : Hid (R 0 w1) := HR.out 0 W w1 H0.out ((Below.refl _ W).drew.trans b1')
 refine hK _ _ (HSW.out.below b1' hb1W) ?_
 clear hK K b1' l1 l2 l3
 refine wpAnyH_done (by kernel_rfl) ?_ _
 clear HSW
 gi_wp2
 gi_loopw [13] (fun i wr => ∃ k : Nat, k ≤ 4 ∧ i = .int .i64 (k : Int) ∧ R k wr ∧ W.heap.size ≤ wr.heap.size ∧ Kq w.heap.size b1 W wr) (fun i _ => 4 - natOf i)
 case atStart => exact ⟨0, by omega, rfl, HR0.out, HSZ.out, HKW.out⟩
 case round =>
  obtain ⟨k, hk, rfl, hRk, hsz, hq⟩ := hrel
  have HRk : Hid (R k wr) := hRk
  have HS : Hid (W.heap.size ≤ wr.heap.size) := hsz
  have HQ : Hid (Kq w.heap.size b1 W wr) := hq
  clear hRk hsz hq
  obtain rfl | rfl | rfl | rfl | rfl : k = 0 ∨ k = 1 ∨ k = 2 ∨ k = 3 ∨ k = 4 := by omega
  ·have hy0 := HY.out 0 (wr.alloc (.cells #[.int .u32 (X : Int), .int .u32 (Y : Int)] 133)) (by omega) (HR.out _ _ _ HRk.out ((below_new wr _).mono HS.out))
   obtain ⟨fn, tmps, assign, body, hy, hRd⟩ := hy0
   simp only [qx, qy] at hy
   rw [show ((0 : Nat) : Int) = 0 from rfl] at hy
   gi_wp2
   refine hRd.mono ?_
   rintro e W6 (⟨rfl, hR6, hk6⟩ | ⟨rfl, hx6⟩)
   ·gi_wp2
    go_roundw
    case rel => exact ⟨1, by omega, by go_num, hR6, Nat.le_trans HS.out (Nat.le_trans (by simp) hk6.1), HQ.out.trans ((Kq.below (below_new wr _) (by have := HKq.out.1; have := HS.out; omega) (by have := HS.out; omega)).trans hk6)⟩
    case measure => simp [natOf]
   ·gi_wp2
    refine bodyPost_ret (results_none rfl _ _ _) rfl ?_
    exact ⟨⟨_, rfl⟩, .inr hx6⟩
  ·have hy0 := HY.out 1 (wr.alloc (.cells #[.int .u32 (xr : Int), .int .u32 (Y : Int)] 133)) (by omega) (HR.out _ _ _ HRk.out ((below_new wr _).mono HS.out))
   obtain ⟨fn, tmps, assign, body, hy, hRd⟩ := hy0
   simp only [qx, qy] at hy
   rw [show ((1 : Nat) : Int) = 1 from rfl] at hy
   gi_wp2
   refine hRd.mono ?_
   rintro e W6 (⟨rfl, hR6, hk6⟩ | ⟨rfl, hx6⟩)
   ·gi_wp2
    go_roundw
    case rel => exact ⟨2, by omega, by go_num, hR6, Nat.le_trans HS.out (Nat.le_trans (by simp) hk6.1), HQ.out.trans ((Kq.below (below_new wr _) (by have := HKq.out.1; have := HS.out; omega) (by have := HS.out; omega)).trans hk6)⟩
    case measure => simp [natOf]
   ·gi_wp2
    refine bodyPost_ret (results_none rfl _ _ _) rfl ?_
    exact ⟨⟨_, rfl⟩, .inr hx6⟩
  ·have hy0 := HY.out 2 (wr.alloc (.cells #[.int .u32 (X : Int), .int .u32 (yr : Int)] 133)) (by omega) (HR.out _ _ _ HRk.out ((below_new wr _).mono HS.out))
   obtain ⟨fn, tmps, assign, body, hy, hRd⟩ := hy0
   simp only [qx, qy] at hy
   rw [show ((2 : Nat) : Int) = 2 from rfl] at hy
   gi_wp2
   refine hRd.mono ?_
   rintro e W6 (⟨rfl, hR6, hk6⟩ | ⟨rfl, hx6⟩)
   ·gi_wp2
    go_roundw
    case rel => exact ⟨3, by omega, by go_num, hR6, Nat.le_trans HS.out (Nat.le_trans (by simp) hk6.1), HQ.out.trans ((Kq.below (below_new wr _) (by have := HKq.out.1; have := HS.out; omega) (by have := HS.out; omega)).trans hk6)⟩
    case measure => simp [natOf]
   ·gi_wp2
    refine bodyPost_ret (results_none rfl _ _ _) rfl ?_
    exact ⟨⟨_, rfl⟩, .inr hx6⟩
  ·have hy0 := HY.out 3 (wr.alloc (.cells #[.int .u32 (xr : Int), .int .u32 (yr : Int)] 133)) (by omega) (HR.out _ _ _ HRk.out ((below_new wr _).mono HS.out))
   obtain ⟨fn, tmps, assign, body, hy, hRd⟩ := hy0
   simp only [qx, qy] at hy
   rw [show ((3 : Nat) : Int) = 3 from rfl] at hy
   gi_wp2
   refine hRd.mono ?_
   rintro e W6 (⟨rfl, hR6, hk6⟩ | ⟨rfl, hx6⟩)
   ·gi_wp2
    go_roundw
    case rel => exact ⟨4, by omega, by go_num, hR6, Nat.le_trans HS.out (Nat.le_trans (by simp) hk6.1), HQ.out.trans ((Kq.below (below_new wr _) (by have := HKq.out.1; have := HS.out; omega) (by have := HS.out; omega)).trans hk6)⟩
    case measure => simp [natOf]
   ·gi_wp2
    refine bodyPost_ret (results_none rfl _ _ _) rfl ?_
    exact ⟨⟨_, rfl⟩, .inr hx6⟩
  ·gi_wp2
   refine bodyPost_end (results_none rfl _ _ _) rfl ?_
   exact ⟨⟨_, rfl⟩, .inl HRk.out⟩
end Go.Proofs.Ytimdlohdmddnjaa.Rc
/- Where. -/
namespace Go.Proofs.Ytimdlohdmddnjaa.Rc
open Go.RowKit Go.Shelf Go.Lib
attribute [local go_sem] Oper.semAt_some
structure WB (w : World) (g x y : Nat) (m n : Int) (W : World) : Prop where
 res : W.heap[g]? = some (.cells #[.int .u32 (x : Int), .int .u32 (y : Int), .int .i64 m] 42 (0, 0))
 num : W.heap[g + 1]? = some (.cells #[.int .i64 n] 3 (0, 0))
 bel : Below w.heap.size w W
set_option maxRecDepth 100000 in
theorem WB.next {w : World} {g x y : Nat} {m n : Int} {W W' : World} {B : Nat} (h : WB w g x y m n W) (hb : Below B W W') (hB : g + 2 ≤ B) (hg : w.heap.size ≤ g) : WB w g x y m n W' :=
 ⟨(hb.block _ (by omega)).trans h.res, (hb.block _ (by omega)).trans h.num, h.bel.trans (hb.mono (by omega))⟩
theorem q_iff {X Y s k q : Nat} (hs : 0 < s) (hk : k < 4) (hq : q < 4) : (qx X (X + s) k = X + s * (q % 2) ∧ qy Y (Y + s) k = Y + s * (q / 2)) ↔ k = q := by
 obtain rfl | rfl | rfl | rfl : k = 0 ∨ k = 1 ∨ k = 2 ∨ k = 3 := by omega
 all_goals obtain rfl | rfl | rfl | rfl : q = 0 ∨ q = 1 ∨ q = 2 ∨ q = 3 := by omega
 all_goals simp [qx, qy]
 all_goals omega
set_option maxRecDepth 100000 in
set_option maxHeartbeats 2000000 in
theorem where_no (X Y : Nat) (L : Int) (x y : Nat) (hX : X < 4294967296) (hY : Y < 4294967296) (hx : x < 4294967296) (hy : y < 4294967296) (h : hasS X Y L x y = false ∨ L = 0) (w : World) :
  CallsIn Fence.wide 5 Try.prog 85 #[cv X Y L, .int .u32 (x : Int), .int .u32 (y : Int)] w fun e w' => e = .returned (.tuple #[.int .i64 0, .int .i64 2]) ∧ Below w.heap.size w w' := by
 refine callsIn_of_wp_marks Try.func85 rfl trivial ?_ rfl
 simp only [Try.ntmps85, List.size_toArray, List.length_cons, List.length_nil, Nat.reduceAdd, Nat.reduceSub, Array.replicate_succ, Array.replicate_zero, List.push_toArray, List.append_toArray, List.nil_append, List.cons_append]
 have HC : Hid _ := has_any X Y L x y hX hY hx hy
 clear hX hY hx hy
 cases h1 : hasS X Y L x y
 ·rw [h1] at HC
  clear h h1
  gi_wp2
  refine (wpIn_wide (n := 5)).2 (wp_scope_straight ((wpIn_wide (n := 5)).1 ?_))
  gi_wp2
  refine ⟨trivial, callsIn_wide.2 ((HC.out _).mono ?_)⟩
  rintro e w1 ⟨rfl, b1⟩
  have HB1 : Hid (Below w.heap.size w w1) := (below_new w _).trans (b1.mono (by simp))
  obtain ⟨e1, e2, e3⟩ := (cel_new X Y L w).below b1 (by simp)
  clear b1
  gi_wp2
  rw [Exit.noGoto_ret]
  exact ⟨_, results_tmp2 rfl _ _ _, rfl, HB1.out⟩
 ·have hL : L = 0 := by rcases h with h | h; (rw [h1] at h; cases h); exact h
  rw [h1] at HC
  subst hL
  clear h h1
  gi_wp2
  refine (wpIn_wide (n := 5)).2 (wp_scope_straight ((wpIn_wide (n := 5)).1 ?_))
  gi_wp2
  refine ⟨trivial, callsIn_wide.2 ((HC.out _).mono ?_)⟩
  rintro e w1 ⟨rfl, b1⟩
  have HB1 : Hid (Below w.heap.size w w1) := (below_new w _).trans (b1.mono (by simp))
  obtain ⟨e1, e2, e3⟩ := (cel_new X Y 0 w).below b1 (by simp)
  clear b1
  gi_wp2
  rw [Exit.noGoto_ret]
  exact ⟨_, results_tmp2 rfl _ _ _, rfl, HB1.out⟩
def WJ (w : World) (g x y : Nat) (m : Int) (q k : Nat) (W : World) : Prop := (∀ j : Nat, j < k → j ≠ q) ∧ WB w g x y m 0 W
set_option maxRecDepth 100000 in
set_option maxHeartbeats 2000000 in
theorem where_in (X Y m x y : Nat) (cl : Cl X Y (m + 1)) (hx : x < 4294967296) (hy : y < 4294967296) (h : hasS X Y ((m + 1 : Nat) : Int) x y = true) (w : World) :
  CallsIn Fence.wide 5 Try.prog 85 #[cv X Y ((m + 1 : Nat) : Int), .int .u32 (x : Int), .int .u32 (y : Int)] w fun e w' => e = .returned (.tuple #[.int .i64 (wq m x y : Int), .int .i64 0]) ∧ Below w.heap.size w w' := by
 refine callsIn_of_wp_marks Try.func85 rfl trivial ?_ rfl
 simp only [Try.ntmps85, List.size_toArray, List.length_cons, List.length_nil, Nat.reduceAdd, Nat.reduceSub, Array.replicate_succ, Array.replicate_zero, List.push_toArray, List.append_toArray, List.nil_append, List.cons_append]
 obtain ⟨L, hL⟩ : ∃ L : Int, ((m + 1 : Nat) : Int) = L := ⟨_, rfl⟩
 have hxe := cl.xe
 have hye := cl.ye
 have hn31 := cl.n31
 rw [Nat.pow_succ] at hxe hye
 have hp := Nat.two_pow_pos m
 obtain ⟨f1, f2⟩ := has_where h
 have HA : Hid _ := around_any x y m hx hy (by omega)
 rw [f1, f2] at HA
 rw [hL] at h ⊢
 have HC : Hid _ := has_any X Y L x y (by omega) (by omega) hx hy
 rw [h] at HC
 have HI : Hid _ := fun (w' w0 : World) b1 => quarters1_in X Y m b1 L w' w0 (by omega) (by omega) (by omega) (by omega)
 have HQ : Hid (∀ k, k < 4 → ((qx X (X + 2 ^ m) k = X + 2 ^ m * (wq m x y % 2) ∧ qy Y (Y + 2 ^ m) k = Y + 2 ^ m * (wq m x y / 2)) ↔ k = wq m x y)) := fun k hk => q_iff hp hk (wq_lt m x y)
 have HQ4 : Hid (wq m x y < 4) := wq_lt m x y
 have l0 : (L == 0) = false := by simp; omega
 have l1 : L - 1 = (m : Int) := by omega
 have l2 : -9223372036854775808 ≤ L - 1 ∧ L - 1 ≤ 9223372036854775807 := by omega
 clear h f1 f2 hL cl hxe hye hn31 hp hx hy
 obtain ⟨fx, hfx⟩ : ∃ fx, X + 2 ^ m * (wq m x y % 2) = fx := ⟨_, rfl⟩
 obtain ⟨fy, hfy⟩ : ∃ fy, Y + 2 ^ m * (wq m x y / 2) = fy := ⟨_, rfl⟩
 obtain ⟨xr, hxr⟩ : ∃ xr, X + 2 ^ m = xr := ⟨_, rfl⟩
 obtain ⟨yr, hyr⟩ : ∃ yr, Y + 2 ^ m = yr := ⟨_, rfl⟩
 rw [hxr, hyr] at HI HQ
 rw [hfx, hfy] at HA HQ
 clear hxr hyr hfx hfy
 generalize wq m x y = q at *
 gi_wp2
 refine (wpIn_wide (n := 5)).2 (wp_scope_straight ((wpIn_wide (n := 5)).1 ?_))
 gi_wp2
 refine ⟨trivial, callsIn_wide.2 ((HC.out _).mono ?_)⟩
 rintro e w1 ⟨rfl, b1⟩
 have HB1 : Hid (Below w.heap.size w w1) := (below_new w _).trans (b1.mono (by simp))
 have HE : Hid (CelS w.heap.size X Y L w1) := (cel_new X Y L w).below b1 (by simp)
 have HL : Hid (w.heap.size < w1.heap.size) := Nat.lt_of_lt_of_le (by simp) b1.size
 obtain ⟨e1, e2, e3⟩ := HE.out
 clear b1
 gi_wp2
 refine ⟨trivial, callsIn_wide.2 ((HA.out _).mono ?_)⟩
 rintro e w2 ⟨rfl, b2⟩
 have HB2 : Hid (Below w.heap.size w w2) := HB1.out.trans (b2.mono (Nat.le_of_lt HL.out))
 replace HE : Hid (CelS w.heap.size X Y L w2) := HE.out.below b2 HL.out
 replace HL : Hid (w.heap.size < w2.heap.size) := Nat.lt_of_lt_of_le HL.out b2.size
 clear b2 e1 e2 e3
 obtain ⟨e1, e2, e3⟩ := HE.out
 have hl := HL.out
 gi_wp2
 refine wpIn_label ?_
 gi_wp2
 refine ⟨trivial, callsIn_wide.2 ((quarters_any _ _ _ _).mono ?_)⟩
 rintro e w3 ⟨rfl, rfl⟩
 have h3 := two_new w2 (.cells #[.int .u32 (fx : Int), .int .u32 (fy : Int), .int .i64 (m : Int)] 42) (.cells #[.int .i64 0] 3)
 have s3 : ((w2.alloc (.cells #[.int .u32 (fx : Int), .int .u32 (fy : Int), .int .i64 (m : Int)] 42)).alloc (.cells #[.int .i64 0] 3)).heap.size = w2.heap.size + 2 := by simp
 obtain ⟨w4, hw4⟩ : ∃ w4, (w2.alloc (.cells #[.int .u32 (fx : Int), .int .u32 (fy : Int), .int .i64 (m : Int)] 42)).alloc (.cells #[.int .i64 0] 3) = w4 := ⟨_, rfl⟩
 rw [hw4] at h3 s3 ⊢
 clear hw4 e1 e2 e3
 have HW : Hid (WB w w2.heap.size fx fy (m : Int) 0 (w4.alloc (.cells #[.int .u32 (X : Int), .int .u32 (Y : Int), .int .i64 L] 42))) := WB.next ⟨h3.1, h3.2.1, HB2.out.trans (h3.2.2.mono (Nat.le_of_lt hl))⟩ (below_new w4 _) (by omega) (Nat.le_of_lt hl)
 have HG : Hid ((w4.alloc (.cells #[.int .u32 (X : Int), .int .u32 (Y : Int), .int .i64 L] 42)).heap[w2.heap.size + 2]? = some (.cells #[.int .u32 (X : Int), .int .u32 (Y : Int), .int .i64 L] 42 (0, 0))) := by
  rw [← s3]; exact heap_alloc_new w4 _
 have s5 : (w4.alloc (.cells #[.int .u32 (X : Int), .int .u32 (Y : Int), .int .i64 L] 42)).heap.size = w2.heap.size + 3 := by simp [s3]
 rw [s3]
 obtain ⟨w5, hw5⟩ : ∃ w5, w4.alloc (.cells #[.int .u32 (X : Int), .int .u32 (Y : Int), .int .i64 L] 42) = w5 := ⟨_, rfl⟩
 rw [hw5] at HW HG s5 ⊢
 clear hw5 h3 s3 HA HC HE HB1 HB2 HL
 have hlt : w.heap.size < w2.heap.size := hl
 clear hl
 obtain ⟨g, hg⟩ : ∃ g, w2.heap.size = g := ⟨_, rfl⟩
 rw [hg] at HW HG s5 hlt ⊢
 clear hg
 have KW : Kq w.heap.size (g + 2) w w5 := ⟨HW.out.bel.size, fun j ob hj ho _ => (HW.out.bel.block j (by have := (Array.getElem?_eq_some_iff.1 ho).1; omega)).trans ho⟩
 gi_wp2
 refine range_law3 rfl (by omega) (gf := 100) (lb := #[.pointer (some ⟨g + 2, 0, none⟩)]) rfl trivial (enters_of Try.func100 (by kernel_rfl) rfl)
  4 (fun k => #[.int .i64 (k : Int), cv (qx X xr k) (qy Y yr k) (m : Int)]) (fun _ => rfl) (Kq w.heap.size (g + 2)) Kq.trans (fun W l o o' h hc => Kq.put _ _ W l o o' h hc)
  (fun k W => WJ w g fx fy (m : Int) q k W) (fun W => WB w g fx fy (m : Int) (q : Int) W) (.exit 0) (fun k W W' h hb => ?hJ) (fun W W' h hb => ?hJx) ?h0
  (fun k a' W => ∃ p, w5.heap.size + 2 ≤ p ∧ W.heap[p]? = some (.cells #[.int .u32 (qx X xr k : Int), .int .u32 (qy Y yr k : Int), .int .i64 (m : Int)] 42 (0, 0)) ∧
   a' = { tmps := #[cv X Y L, Value.int IntKind.u32 (x : Int), Value.int IntKind.u32 (y : Int), Value.pointer (some ⟨w.heap.size, 0, none⟩), undef, undef, Value.int IntKind.i64 0, Value.int IntKind.i64 0, Value.pointer (some ⟨g, 0, none⟩), Value.pointer (some ⟨g + 1, 0, none⟩), Value.int IntKind.i64 (k : Int), Value.pointer (some ⟨p, 0, none⟩), Value.agg #[Value.int IntKind.u32 (X : Int), Value.int IntKind.u32 (Y : Int), Value.int IntKind.i64 L], Value.int IntKind.u32 (x : Int), Value.int IntKind.u32 (y : Int), Value.bool true, Value.bool false, Value.bool false, Value.pointer (some ⟨w.heap.size, 2, none⟩), Value.int IntKind.i64 L, Value.bool false, Value.bool false, Value.int IntKind.u32 (x : Int), Value.int IntKind.u32 (y : Int), Value.pointer (some ⟨w.heap.size, 2, none⟩), Value.int IntKind.i64 L, Value.int IntKind.i64 (m : Int), Value.agg #[Value.int IntKind.u32 (fx : Int), Value.int IntKind.u32 (fy : Int), Value.int IntKind.i64 (m : Int)], Value.agg #[Value.int IntKind.u32 (X : Int), Value.int IntKind.u32 (Y : Int), Value.int IntKind.i64 L], Value.func (Fn.func 100) #[] #[Value.pointer (some ⟨g + 2, 0, none⟩)], Value.int IntKind.i64 (k : Int), cv (qx X xr k) (qy Y yr k) (m : Int), undef, undef, undef, undef, undef], defers := [] }) ?hA ?assign ?body ?iter ?done ?stop
 case hJ => exact ⟨h.1, h.2.next hb (by omega) (by omega)⟩
 case hJx => exact h.next hb (by omega) (by omega)
 case h0 => exact ⟨fun j hj => by omega, HW.out⟩
 case hA =>
  rintro k a' W j o' ⟨p, hq1, hq2, rfl⟩ h1 h2
  exact ⟨p, hq1, (World.putObj_heap_other (by omega)).trans hq2, rfl⟩
 case assign =>
  intro p k W K hk hJ hsz hK
  clear hJ
  generalize qx X xr k = x at *
  generalize qy Y yr k = y at *
  gi_wp2
  exact hK _ _ (below_new W _) (Kq.below (below_new W _) (by omega) (by omega)) ⟨W.heap.size, by omega, heap_alloc_new W _, rfl⟩
 case iter =>
  intro p W1 hB1 hs1 R Rx hR hRx hY h0
  exact HI.out w w5 (g + 2) KW (by omega) HG.out p W1 (Kq.below hB1 (by omega) (by omega)) R Rx hR hRx hY h0
 case body =>
  rintro p' k a' W hk hJ ⟨p, hq1, hq2, rfl⟩
  have HJ : Hid (WJ w g fx fy (m : Int) q k W) := hJ
  have hiff := HQ.out k hk
  obtain ⟨_, _, _, c2, c3, c4⟩ := cell_facts hq2
  obtain ⟨_, _, _, d0, d1, d2⟩ := cell_facts hJ.2.res
  have z3 := frozen_of_row W _ 0 _ _ hJ.2.num
  have d3 : W.cell? ⟨g + 1, 0, none⟩ = some (.int .i64 0) := by rw [cell_of_row _ _ _ _ _ _ hJ.2.num]; rfl
  clear hJ hq2
  generalize qx X xr k = x at *
  generalize qy Y yr k = y at *
  by_cases he : k = q
  ·obtain ⟨rfl, rfl⟩ := hiff.2 he
   have HE : Hid (k = q) := he
   clear hiff he
   gi_wp2
   have g6 := gb_set W (g + 1) 0 (.int .i64 (k : Int))
   have X6 := heap_setCell_same W (g + 1) 0 _ _ (.int .i64 (k : Int)) HJ.out.2.num
   refine ⟨rfl, KeepsFrom.of_grownBy g6 (fun j e => by cases e; omega), (Below.heap_setCell _ _ _ _ (by simp)).trans HJ.out.2.res, ?_, HJ.out.2.bel.trans (grown_below g6 (by omega) HJ.out.2.bel.size)⟩
   rw [X6, ← HE.out]; rfl
  ·have hor : x ≠ fx ∨ (x = fx ∧ y ≠ fy) := by
    by_cases e : x = fx
    ·exact .inr ⟨e, fun e2 => he (hiff.1 ⟨e, e2⟩)⟩
    ·exact .inl e
   have HE : Hid (k ≠ q) := he
   clear hiff he
   rcases hor with q1 | ⟨rfl, q2⟩
   ·have q1' : ¬ (x : Int) = (fx : Int) := by omega
    gi_wp2
    refine ⟨KeepsFrom.refl _ _, Kq.refl _ _ _, fun j hj => ?_, HJ.out.2⟩
    by_cases e : j = k
    ·subst e; exact HE.out
    ·exact HJ.out.1 j (by omega)
   ·have q2' : ¬ (y : Int) = (fy : Int) := by omega
    gi_wp2
    refine ⟨KeepsFrom.refl _ _, Kq.refl _ _ _, fun j hj => ?_, HJ.out.2⟩
    by_cases e : j = k
    ·subst e; exact HE.out
    ·exact HJ.out.1 j (by omega)
 case done =>
  rintro D W hD ⟨h1, h2⟩ hdf
  exact absurd rfl (h1 q HQ4.out)
 case stop =>
  rintro D W hD h2 hdf
  have HD : Hid _ := hdf
  have HB : Hid _ := h2
  have d3 : W.cell? ⟨g + 1, 0, none⟩ = some (.int .i64 (q : Int)) := by rw [cell_of_row _ _ _ _ _ _ h2.num]; rfl
  clear h2 hdf
  gi_wp2
  rw [Exit.noGoto_ret]
  refine ⟨by simp, .inl ⟨_, _, rfl, run_takeDeferred HD.out, ?_⟩⟩
  refine ⟨_, results_tmp2 rfl _ _ _, rfl, HB.out.bel.trans (below_put W _ (by omega))⟩
end Go.Proofs.Ytimdlohdmddnjaa.Rc
