/- A range over a function, left at its end, by a return or by a label; the loop variable in a block of its own. -/
import Derived.Test.YtheheaflebkipaaGreatDoorRows
import Derived.Test.YtheheaflebkipaaGreatDoorPKM
import Derived.WalkSpells
import Derived.WalkLawsBesides
import Derived.Deep.QuietTactic
import Derived.BigQuiet
import Derived.RangeFuncNested
import Derived.RangeFuncBound
import Derived.RangeFuncCalls
import Derived.RangeFuncLeaves
import Derived.Shelf.Abstract
import Derived.Shelf.RegionOpen
import Derived.WalkKit
import Derived.OwnWalkIn
import Derived.TacticsInMore
import Derived.LoopNIn
import Derived.LoopIn
import Derived.RegionIn
import Derived.RegionTactic
import Derived.Deep.MidRow
import Derived.Laws.OwnMore
import Derived.Maps.AppendAt
import Derived.ArgAppend
namespace Go.Proofs.YtheheaflebkipaaGreatDoor.Rk
open Go.RowKit
theorem below_put {B l : Nat} (W : World) (o : Obj) (h : B ≤ l) : Below B W (W.putObj l o) :=
  ⟨rfl, rfl, rfl, by simp [World.putObj], fun k hk => World.putObj_heap_other (by omega)⟩
theorem below_new (w : World) (o : Obj) : Below w.heap.size w (w.alloc o) := (Below.refl _ w).alloc (Nat.le_refl _) _
theorem two_new (w : World) (a b : Obj) : ((w.alloc a).alloc b).heap[w.heap.size]? = some a ∧ ((w.alloc a).alloc b).heap[w.heap.size + 1]? = some b ∧ Below w.heap.size w ((w.alloc a).alloc b) := by
  refine ⟨?_, ?_, ((Below.refl _ w).alloc (Nat.le_refl _) _).alloc (by simp) _⟩
  · exact (Below.heap_alloc _ _ _ (by simp)).trans (heap_alloc_new w a)
  · have := heap_alloc_new (w.alloc a) b; simpa using this
theorem gb_set (w : World) (g k : Nat) (v : Value) : w.grownBy (w.setCell ⟨g, k, none⟩ v) (some g) :=
  ⟨rfl, rfl, rfl, by simp [World.setCell], fun j _ hne => Below.heap_setCell _ _ _ _ (fun e => hne (by rw [e]))⟩
theorem grown_below {B r : Nat} {X Y : World} (hg : X.grownBy Y (some r)) (hr : B ≤ r) (hB : B ≤ X.heap.size) : Below B X Y := ⟨hg.os, hg.tape, hg.output, hg.size, fun k hk => hg.block k (by omega) (by intro e; cases e; omega)⟩
/-- The cells of all blocks below a place, and of one more, are kept. -/
def Kq (b c : Nat) (A B : World) : Prop := A.heap.size ≤ B.heap.size ∧ ∀ j o, j < b ∨ j = c → A.heap[j]? = some o → o.isCells = true → B.heap[j]? = some o
theorem Kq.refl (b c : Nat) (A : World) : Kq b c A A := ⟨Nat.le_refl _, fun _ _ _ h _ => h⟩
theorem Kq.trans {b c : Nat} {A B C : World} (h : Kq b c A B) (k : Kq b c B C) : Kq b c A C := ⟨Nat.le_trans h.1 k.1, fun j o hj ho hc => k.2 j o hj (h.2 j o hj ho hc) hc⟩
theorem Kq.put (b c : Nat) (W : World) (l : Nat) (o o' : Obj) (h : W.heap[l]? = some o) (hc : o.isCells = false) : Kq b c W (W.putObj l o') :=
  ⟨by simp [World.putObj], fun j p _ hp hpc => by
    by_cases e : j = l
    · subst e; rw [h] at hp; cases hp; rw [hc] at hpc; cases hpc
    · exact (World.putObj_heap_other e).trans hp⟩
theorem Kq.below {b c B : Nat} {X Y : World} (h : Below B X Y) (hB : b ≤ B) (hc : c < B) : Kq b c X Y := ⟨h.size, fun j _ hj ho _ => (h.block j (by omega)).trans ho⟩
theorem Kq.set {b c : Nat} (W : World) (g k : Nat) (v : Value) (h1 : b ≤ g) (h2 : c ≠ g) : Kq b c W (W.setCell ⟨g, k, none⟩ v) :=
  ⟨by simp [World.setCell], fun j _ hj ho _ => (Below.heap_setCell _ _ _ _ (by simp only; omega)).trans ho⟩
/-- How a round's body may be left: off its end, or by the one jump. -/
def lPost3 (B : Nat) (Kp : World → World → Prop) (J Jx : World → Prop) (jump : Code) (W : World) : Exit → Act → World → Prop
  | .normal, _, W' => KeepsFrom B W W' ∧ Kp W W' ∧ J W'
  | .exit i, _, W' => jump = .exit i ∧ KeepsFrom B W W' ∧ Jx W'
  | .ret, _, W' => jump = .ret ∧ KeepsFrom B W W' ∧ Jx W'
  | _, _, _ => False
theorem range_law3 {F : Fence} {n : Nat} {P : Program} {g : Operand} {ps : Array Tmp} {assign body : Code} {Q : Exit → Act → World → Prop} {a : Act} {w : World}
    (hro : F.round = none) (h1 : 1 ≤ n) {gf : Nat} {lb : Array Value} (hg : a.eval g = .func (.func gf) #[] lb) (hFg : F.fn gf) (eg : ∀ args w, (callFunc gf args).run P w = .ok (.enter gf args) w)
    (N : Nat) (encs : Nat → Array Value) (hps : ∀ k, (encs k).size = ps.size) (Kp : World → World → Prop) (hKt : ∀ {A B C : World}, Kp A B → Kp B C → Kp A C)
    (hKb : ∀ (W : World) (l : Nat) (o o' : Obj), W.heap[l]? = some o → o.isCells = false → Kp W (W.putObj l o'))
    (J : Nat → World → Prop) (Jx : World → Prop) (jump : Code) (hJ : ∀ k W W', J k W → Below w.heap.size W W' → J k W') (hJx : ∀ W W', Jx W → Below w.heap.size W W' → Jx W') (h0 : J 0 w)
    (A : Nat → Act → World → Prop) (hA : ∀ k a' W l o', A k a' W → w.heap.size ≤ l → l < w.heap.size + 2 → A k a' (W.putObj l o'))
    (hassign : ∀ (l k : Nat) (W : World) (K : Act → World → Prop), k < N → J k W → w.heap.size + 2 ≤ W.heap.size → (∀ a' W', Below W.heap.size W W' → Kp W W' → A k a' W' → K a' W') →
      assign.wpIn (F.inRound l) (n - 1 - 1) P (Exit.then K (fun _ _ _ => False)) { tmps := (ps.zip (encs k)).foldl (fun t (p, v) => t.setIfInBounds p v) a.tmps, defers := [] } W)
    (hbody : ∀ (l k : Nat) (a' : Act) (W : World), k < N → J k W → A k a' W → body.wpIn (F.inRound l) (n - 1 - 1) P (lPost3 w.heap.size Kp (J (k + 1)) Jx jump W) a' W)
    (hiter : ∀ (l : Nat) (W1 : World), Below w.heap.size w W1 → W1.heap.size = w.heap.size + 2 → ∀ (R : Nat → World → Prop) (Rx : World → Prop), (∀ k W W', R k W → Below W1.heap.size W W' → R k W') → (∀ W W', Rx W → Below W1.heap.size W W' → Rx W') →
      (∀ k W, k < N → R k W → YieldAt F (n - 1 - 1) P l (encs k) W fun e W' => (e = .returned (.bool true) ∧ R (k + 1) W' ∧ Kp W W') ∨ (e = .returned (.bool false) ∧ Rx W')) → R 0 W1 →
      CallsIn F (n - 1) P gf (#[.func (.yield l) #[] #[]] ++ lb) W1 fun e W' => (∃ v, e = .returned v) ∧ (R N W' ∨ Rx W'))
    (hdone : ∀ (D : Nat) (W : World), w.heap.size ≤ D → J N W → W.heap[D]? = some (.deferred (some [])) → Q .normal { a with defers := { target := .collected D, args := #[] } :: a.defers } W)
    (hstop : ∀ (D : Nat) (W : World), w.heap.size ≤ D → Jx W → W.heap[D]? = some (.deferred (some [])) → jump.wpIn F n P Q { a with defers := { target := .collected D, args := #[] } :: a.defers } W) :
    (Code.rangeFunc g ps assign body).wpIn F n P Q a w := by
  refine wpIn_rangeFunc fun fn hfn => ?_
  rw [hro]
  obtain ⟨rc, hrc⟩ : ∃ rc : LoopState → Option Code → Loop, rc = fun st pe => { state := st, pending := pe, fn, tmps := a.tmps, params := ps, assign, body, defers := w.heap.size } := ⟨_, rfl⟩
  obtain ⟨W1, hW1⟩ : ∃ W1, (w.alloc (.deferred (some []))).alloc (.loop (rc .ready none)) = W1 := ⟨_, rfl⟩
  have hn2 := two_new w (.deferred (some [])) (.loop (rc .ready none))
  have hs : W1.heap.size = w.heap.size + 2 := by rw [← hW1]; simp
  rw [hW1] at hn2
  obtain ⟨hD1, hL1, hB1⟩ := hn2
  refine ⟨w.heap.size + 1, [{ target := .collected w.heap.size, args := #[] }], W1, { target := .fn (.func gf) lb, args := #[.func (.yield (w.heap.size + 1)) #[] #[]] }, W1, gf,
    #[.func (.yield (w.heap.size + 1)) #[] #[]] ++ lb, W1, ?_, ?_, ?_, ?_, fun _ => h1, ?_⟩
  · rw [← hW1, hrc]; exact run_enterLoop_outer _ _ _ _ _
  · simp only [resolve, hg]
    simp [go_sem]
  · intro f' hf'
    simp [Target.leads] at hf'
    subst hf'
    exact hFg
  · simp [invoke, go_sem, eg]
  · refine (hiter (w.heap.size + 1) W1 hB1 hs
      (fun k W => J k W ∧ W.heap[w.heap.size + 1]? = some (.loop (rc .ready none)) ∧ W.heap[w.heap.size]? = some (.deferred (some [])))
      (fun W => Jx W ∧ W.heap[w.heap.size + 1]? = some (.loop (rc .done (some jump))) ∧ W.heap[w.heap.size]? = some (.deferred (some [])))
      (fun k W W' h hb => ⟨hJ k W W' h.1 (hb.mono (by omega)), (hb.block _ (by omega)).trans h.2.1, (hb.block _ (by omega)).trans h.2.2⟩)
      (fun W W' h hb => ⟨hJx W W' h.1 (hb.mono (by omega)), (hb.block _ (by omega)).trans h.2.1, (hb.block _ (by omega)).trans h.2.2⟩)
      ?_ ⟨hJ 0 w W1 h0 hB1, hL1, hD1⟩).mono ?_
    · rintro k Wb hkN ⟨hj, hl, hd⟩
      have hyr := run_yield (P := P) (args := encs k) hl (by rw [hrc]; exact hps k)
      rw [hrc] at hyr
      refine ⟨fn, _, assign, body, hyr, roundIn_of_wpIn hfn (hassign _ k Wb _ hkN hj (by have := (Array.getElem?_eq_some_iff.1 hl).1; omega) ?_)⟩
      intro a' W hBa hKa hAx
      have hltb := (Array.getElem?_eq_some_iff.1 hl).1
      replace hj := hJ k _ _ hj (hBa.mono (by omega))
      replace hl := (hBa.block _ (by omega)).trans hl
      replace hd := (hBa.block _ (by omega)).trans hd
      have hlt : w.heap.size + 1 < W.heap.size := (Array.getElem?_eq_some_iff.1 hl).1
      refine ⟨_, run_beginRound hl (by rw [hrc]), ?_⟩
      have hl2 : (W.putObj (w.heap.size + 1) (.loop { rc .ready none with state := .busy })).heap[w.heap.size + 1]? = some (.loop { rc .ready none with state := .busy }) := World.putObj_heap_same hlt
      have hd2 : (W.putObj (w.heap.size + 1) (.loop { rc .ready none with state := .busy })).heap[w.heap.size]? = some (.deferred (some [])) := (World.putObj_heap_other (by omega)).trans hd
      refine wpIn_mono (hbody _ k a' _ hkN (hJ k _ _ hj (below_put W _ (by omega))) (hA k a' W _ _ hAx (by omega) (by omega))) ?_
      have fin : ∀ (W3 : World), KeepsFrom w.heap.size (W.putObj (w.heap.size + 1) (.loop { rc .ready none with state := .busy })) W3 → Jx W3 →
          (Instr.endRound (w.heap.size + 1) (some jump)).run P W3 = .ok (.bool false) (W3.putObj (w.heap.size + 1) (.loop (rc .done (some jump)))) ∧ Jx (W3.putObj (w.heap.size + 1) (.loop (rc .done (some jump)))) ∧
          (W3.putObj (w.heap.size + 1) (.loop (rc .done (some jump)))).heap[w.heap.size + 1]? = some (.loop (rc .done (some jump))) ∧
          (W3.putObj (w.heap.size + 1) (.loop (rc .done (some jump)))).heap[w.heap.size]? = some (.deferred (some [])) := fun W3 hk3 hj3 => by
        have hl3 := hk3.same _ _ (by omega) hl2 rfl
        have hd3 := hk3.same _ _ (Nat.le_refl _) hd2 rfl
        have hr := run_endRound (P := P) (some jump) hl3
        rw [hrc] at hr ⊢
        exact ⟨hr, hJx _ _ hj3 (below_put W3 _ (by omega)), World.putObj_heap_same (Array.getElem?_eq_some_iff.1 hl3).1, (World.putObj_heap_other (by omega)).trans hd3⟩
      rintro e a3 W3 hp
      cases e with
      | normal =>
        obtain ⟨hk3, hkp, hj3⟩ := hp
        have hl3 := hk3.same _ _ (by omega) hl2 rfl
        have hd3 := hk3.same _ _ (Nat.le_refl _) hd2 rfl
        have hr := run_endRound (P := P) none hl3
        refine ⟨_, _, hr, .inl ⟨rfl, ⟨hJ _ _ _ hj3 (below_put W3 _ (by omega)), ?_, (World.putObj_heap_other (by omega)).trans hd3⟩, hKt hKa (hKt (hKb W _ _ _ hl rfl) (hKt hkp (hKb W3 _ _ _ hl3 rfl)))⟩⟩
        rw [World.putObj_heap_same (Array.getElem?_eq_some_iff.1 hl3).1, hrc]
        rfl
      | exit i =>
        obtain ⟨rfl, hk3, hj3⟩ := hp
        obtain ⟨hr, f1, f2, f3⟩ := fin W3 hk3 hj3
        exact ⟨_, _, hr, .inr ⟨rfl, f1, f2, f3⟩⟩
      | ret =>
        obtain ⟨rfl, hk3, hj3⟩ := hp
        obtain ⟨hr, f1, f2, f3⟩ := fin W3 hk3 hj3
        exact ⟨_, _, hr, .inr ⟨rfl, f1, f2, f3⟩⟩
      | goto t => exact hp.elim
      | panic ch => exact hp.elim
      | outgrown => exact hp.elim
    · rintro e W2 ⟨⟨v, rfl⟩, ⟨hx, hl, hd⟩ | ⟨hx, hl, hd⟩⟩
      · refine ⟨none, _, by have := run_endLoop (P := P) hl (by rw [hrc]; simp); rw [hrc] at this; exact this, ?_⟩
        exact hdone _ _ (Nat.le_refl _) (hJ _ _ _ hx (below_put W2 _ (by omega))) ((World.putObj_heap_other (by omega)).trans hd)
      · refine ⟨some jump, _, by have := run_endLoop (P := P) hl (by rw [hrc]; simp); rw [hrc] at this; exact this, ?_⟩
        exact hstop _ _ (Nat.le_refl _) (hJx _ _ hx (below_put W2 _ (by omega))) ((World.putObj_heap_other (by omega)).trans hd)
end Go.Proofs.YtheheaflebkipaaGreatDoor.Rk
/- A ring in memory, and the function that yields its keys. -/
namespace Go.Proofs.YtheheaflebkipaaGreatDoor.Rk
open Go.RowKit Go.Shelf Go.Lib
attribute [local go_sem] Oper.semAt_some
/-- The number in a slot. -/
def natOf : Value → Nat | .int _ x => x.toNat | _ => 0
/-- A key as a value. -/
def kv (k : Ky) : Value := .agg #[.int .u32 k.1, .string k.2]
/-- The key at an index. -/
def kat (l : List Ky) (i : Nat) : Ky := (l[i]?).getD (0, ByteArray.empty)
set_option maxRecDepth 100000 in
theorem kat_some {l : List Ky} {i : Nat} (h : i < l.length) : l[i]? = some (kat l i) := by unfold kat; rw [List.getElem?_eq_getElem h]; rfl
set_option maxRecDepth 100000 in
theorem kat_of {l : List Ky} {i : Nat} {k : Ky} (h : l[i]? = some k) : kat l i = k := by unfold kat; rw [h]; rfl
/-- Two cells hold a key. -/
def Two (w : World) (b x : Nat) (k : Ky) : Prop := w.cell? ⟨b, x, none⟩ = some (.int .u32 k.1) ∧ w.cell? ⟨b, x + 1, none⟩ = some (.string k.2)
/-- A slice's parts, and the keys that it holds. -/
def Ring (w : World) (o : Option Addr) (cap : Nat) (l : List Ky) : Prop :=
  l.length ≤ cap ∧ cap ≤ maxLen ∧ (o = none → cap = 0) ∧ (l ≠ [] → ∃ b off, o = some ⟨b, off, none⟩ ∧ b < w.heap.size ∧ ∀ i, i < l.length → Two w b (off + i * 2) (kat l i))
set_option maxRecDepth 100000 in
theorem Two.same {w w' : World} {b x : Nat} {k : Ky} (h : Two w b x k) (e : w'.heap[b]? = w.heap[b]?) : Two w' b x k :=
  ⟨(World.cell?_of_block (a := ⟨b, x, none⟩) e).trans h.1, (World.cell?_of_block (a := ⟨b, x + 1, none⟩) e).trans h.2⟩
set_option maxRecDepth 100000 in
theorem Ring.below {w w' : World} {o : Option Addr} {cap B : Nat} {l : List Ky} (h : Ring w o cap l) (hb : Below B w w') (hB : w.heap.size ≤ B) : Ring w' o cap l := by
  refine ⟨h.1, h.2.1, h.2.2.1, fun hl => ?_⟩
  obtain ⟨b, off, e, hlt, hc⟩ := h.2.2.2 hl
  exact ⟨b, off, e, Nat.lt_of_lt_of_le hlt hb.size, fun i hi => (hc i hi).same (hb.block b (by omega))⟩
set_option maxRecDepth 100000 in
theorem Ring.kq {w w' : World} {o : Option Addr} {cap B c : Nat} {l : List Ky} (h : Ring w o cap l) (hb : Kq B c w w') (hB : w.heap.size ≤ B) : Ring w' o cap l := by
  refine ⟨h.1, h.2.1, h.2.2.1, fun hl => ?_⟩
  obtain ⟨b, off, e, hlt, hc⟩ := h.2.2.2 hl
  refine ⟨b, off, e, Nat.lt_of_lt_of_le hlt hb.1, fun i hi => (hc i hi).same ?_⟩
  obtain ⟨ob, ho, hoc⟩ := cells_of_cell (hc i hi).1
  exact (hb.2 b ob (.inl (by omega)) ho hoc).trans ho.symm
/-- What a function says that yields keys. -/
def YieldsK (gf : Nat) (lb : Array Value) (l : List Ky) (B c : Nat) (w0 : World) : Prop :=
  ∀ (p : Nat) (W1 : World), Kq B c w0 W1 → ∀ (R : Nat → World → Prop) (Rx : World → Prop), (∀ k W W', R k W → Below W1.heap.size W W' → R k W') → (∀ W W', Rx W → Below W1.heap.size W W' → Rx W') →
    (∀ k W, k < l.length → R k W → YieldAt Fence.wide 3 Tryz.prog p #[kv (kat l k)] W fun e W' => (e = .returned (.bool true) ∧ R (k + 1) W' ∧ Kq B c W W') ∨ (e = .returned (.bool false) ∧ Rx W')) → R 0 W1 →
    CallsIn Fence.wide 4 Tryz.prog gf (#[.func (.yield p) #[] #[]] ++ lb) W1 fun e W' => (∃ v, e = .returned v) ∧ (R l.length W' ∨ Rx W')
set_option maxRecDepth 100000 in
set_option maxHeartbeats 1000000 in
theorem values1_in (l : List Ky) (o : Option Addr) (cap b1 : Nat) (w w0 : World) (hr : Ring w o cap l) (hw : Kq w.heap.size b1 w w0) (hb1 : b1 < w0.heap.size) (h1 : w0.heap[b1]? = some (.cells #[.slice o l.length cap] 39 (0, 0))) :
    YieldsK 133 #[.pointer (some ⟨b1, 0, none⟩)] l w.heap.size b1 w0 := by
  intro p W hKq R Rx hR hRx hY h0
  have HY : Hid _ := hY
  have HR : Hid _ := hR
  have HRx : Hid _ := hRx
  have H0 : Hid (R 0 W) := h0
  have HG : Hid (Ring w o cap l) := hr
  have HKq : Hid (Kq w.heap.size b1 w W) := hw.trans hKq
  have hb1W : b1 < W.heap.size := Nat.lt_of_lt_of_le hb1 hKq.1
  have HB : Hid (W.heap[b1]? = some (.cells #[.slice o l.length cap] 39 (0, 0))) := hKq.2 b1 _ (.inr rfl) h1 rfl
  have hlen : l.length ≤ maxLen := Nat.le_trans hr.1 hr.2.1
  have c1 : W.cell? ⟨b1, 0, none⟩ = some (.slice o l.length cap) := by rw [cell_of_row _ _ _ _ _ _ HB.out]; rfl
  clear hY hR hRx h0 h1 hr hKq hw
  refine callsIn_of_wp Tryz.func133 rfl trivial ?_ rfl
  simp only [Tryz.ntmps133, List.size_toArray, List.length_cons, List.length_nil, Nat.reduceAdd, Nat.reduceSub, Array.replicate_succ, Array.replicate_zero, List.push_toArray, List.append_toArray, List.nil_append, List.cons_append]
  gi_wp2
  clear c1
  gi_loopw [7] (fun i wr => ∃ k : Nat, k ≤ l.length ∧ i = .int .i64 (k : Int) ∧ R k wr ∧ W.heap.size ≤ wr.heap.size ∧ Kq w.heap.size b1 W wr) (fun i _ => l.length - natOf i)
  case atStart => exact ⟨0, by omega, rfl, H0.out, Nat.le_refl _, Kq.refl _ _ _⟩
  case round =>
    obtain ⟨k, hkl, rfl, hRk, hsz, hq⟩ := hrel
    have HRk : Hid (R k wr) := hRk
    have HS : Hid (W.heap.size ≤ wr.heap.size) := hsz
    have HQ : Hid (Kq w.heap.size b1 W wr) := hq
    have hG := HG.out.kq (HKq.out.trans hq) (Nat.le_refl _)
    clear hRk hsz hq
    by_cases hlt : k < l.length
    · obtain ⟨b, off, rfl, hbl, hc⟩ := hG.2.2.2 (by intro e; rw [e] at hlt; simp at hlt)
      obtain ⟨c1, c2⟩ := hc k hlt
      have q1 : (k : Int) < (l.length : Int) := by omega
      have k0 : (0 : Int) ≤ (k : Int) := by omega
      have k1 : (k : Int) + 1 ≤ 9223372036854775807 := by have := hlen; simp only [maxLen] at this; omega
      generalize hks : kat l k = gs at *
      obtain ⟨g, s⟩ := gs
      simp only at c1 c2
      have HKS : Hid (kat l k = (g, s)) := hks
      have hy0 := HY.out k (wr.alloc (.cells #[.int .u32 g, .string s] 99)) hlt (HR.out _ _ _ HRk.out ((below_new wr _).mono HS.out))
      rw [hks] at hy0
      obtain ⟨fn, tmps, assign, body, hy, hRd⟩ := hy0
      simp only [kv] at hy
      clear hks hc hG
      gi_wp2
      refine hRd.mono ?_
      rintro e W6 (⟨rfl, hR6, hk6⟩ | ⟨rfl, hx6⟩)
      · gi_wp2
        go_roundw
        case rel => exact ⟨k + 1, by omega, by go_num, hR6, Nat.le_trans HS.out (Nat.le_trans (by simp) hk6.1), HQ.out.trans ((Kq.below (below_new wr _) (by have := HKq.out.1; have := HS.out; omega) (by have := HS.out; omega)).trans hk6)⟩
        case measure => simp [natOf]; omega
      · gi_wp2
        refine bodyPost_ret (results_none rfl _ _ _) rfl ?_
        exact ⟨⟨_, rfl⟩, .inr hx6⟩
    · have hk : k = l.length := by omega
      have q1 : ¬ (k : Int) < (l.length : Int) := by omega
      have HE : Hid (R l.length wr) := by have := HRk.out; rw [hk] at this; exact this
      clear hk
      gi_wp2
      refine bodyPost_end (results_none rfl _ _ _) rfl ?_
      exact ⟨⟨_, rfl⟩, .inl HE.out⟩
set_option maxRecDepth 100000 in
theorem values_any (o : Option Addr) (n cap : Nat) (w : World) :
    Calls Tryz.prog 109 #[.slice o n cap] w fun e w' => e = .returned (.func (.func 133) #[] #[.pointer (some ⟨w.heap.size, 0, none⟩)]) ∧ w' = w.alloc (.cells #[.slice o n cap] 39) := by
  go_enter Tryz.func109, Tryz.ntmps109
  go_wp2_with fail
  go_ret
  exact ⟨rfl, rfl⟩
end Go.Proofs.YtheheaflebkipaaGreatDoor.Rk
