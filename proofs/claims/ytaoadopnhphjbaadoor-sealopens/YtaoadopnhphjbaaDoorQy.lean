/- Bodies of texts, in plain terms. A range over a function, left at its end, by a return or by a label; the loop variable in a block of its own. pad.body: a text's body. A range over a function whose body keeps rows of its own, left by its end, by a return or by a label; the function may have no end of its own. pad.Pad and pad.Unpad. PadBack: the walk. -/
import Derived.WalkKit
import Derived.Laws.BytesArg
import Derived.Test.YtaoadopnhphjbaaDoorRows
import Derived.WalkSpells
import Derived.WalkLawsBesides
import Derived.Deep.QuietTactic
import Derived.BigQuiet
import Derived.RangeFuncNested
import Derived.RangeFuncBound
import Derived.RangeFuncCalls
import Derived.RangeFuncLeaves
import Derived.Shelf.Abstract
import Derived.Shelf.RegionOpen
import Derived.OwnWalkIn
import Derived.TacticsInMore
import Derived.LoopNIn
import Derived.LoopIn
import Derived.RegionIn
import Derived.RegionTactic
import Derived.Deep.MidRow
import Derived.Laws.OwnMore
import Derived.Maps.AppendAt
import Derived.ArgAppend
import Derived.Deep.OwnRows
import Derived.Laws.IdiomStrings
import Derived.OrdersHeld
namespace Go.Proofs.YtaoadopnhphjbaaDoor.Rp
open Go.RowKit
def upto (f : Nat → Int) (k : Nat) : List Int := (List.range k).map f
theorem upto_length (f : Nat → Int) (k : Nat) : (upto f k).length = k := by simp [upto]
theorem upto_get (f : Nat → Int) (k i : Nat) (h : i < k) : (upto f k).getD i 0 = f i := by simp [upto, List.getD, h]
/-- A byte of a text. -/
def bt (s : ByteArray) (i : Nat) : Int := ((s.data[i]?.getD 0).toNat : Int)
theorem bt_range (s : ByteArray) (i : Nat) : 0 ≤ bt s i ∧ bt s i < 256 := by
  unfold bt
  have := (s.data[i]?.getD 0).toNat_lt
  omega
theorem bt_out (s : ByteArray) (k : Nat) (h : s.size ≤ k) : bt s k = 0 := by
  unfold bt
  rw [Array.getElem?_eq_none (by exact h)]
  rfl
theorem bt_ext (s : ByteArray) (a b i : Nat) (h : i < min b s.size - a) : bt (s.extract a b) i = bt s (a + i) := by
  unfold bt
  rw [ByteArray.data_extract, Array.getElem?_extract, if_pos (show i < min b s.data.size - a from h)]
theorem bt_same (a b : ByteArray) (hs : a.size = b.size) (h : ∀ j, j < a.size → bt a j = bt b j) : a = b := by
  apply ByteArray.ext
  apply Array.ext
  · exact hs
  · intro i h1 h2
    have := h i h1
    unfold bt at this
    rw [Array.getElem?_eq_getElem h1, Array.getElem?_eq_getElem h2] at this
    simp only [Option.getD_some] at this
    exact UInt8.toNat_inj.1 (by omega)
theorem bt_str (f : Nat → Int) (n j : Nat) (hj : j < n) (h0 : 0 ≤ f j) (h1 : f j < 256) : bt (strOfNums (upto f n)) j = f j := by
  unfold bt strOfNums upto
  simp [hj]
  omega
theorem bt_app (a b : ByteArray) (j : Nat) : bt (a ++ b) j = if j < a.size then bt a j else bt b (j - a.size) := by
  unfold bt
  rw [ByteArray.data_append, Array.getElem?_append]
  have e : a.data.size = a.size := rfl
  rw [e]
  split <;> rfl
theorem ext_size (s : ByteArray) (a b : Nat) : (s.extract a b).size = min b s.size - a := ByteArray.size_extract
/-- The bytes of a text's body. -/
def bodyN (s : ByteArray) (j : Nat) : Int := if j = 0 then ((s.size / 256 : Nat) : Int) else if j = 1 then ((s.size % 256 : Nat) : Int) else bt s (j - 2)
/-- A text's body. -/
def bodyS (s : ByteArray) : ByteArray := strOfNums (upto (bodyN s) 200)
theorem body_size (s : ByteArray) : (bodyS s).size = 200 := by unfold bodyS; rw [strOfNums_size, upto_length]
theorem bodyN_range (s : ByteArray) (hs : s.size ≤ 198) (j : Nat) : 0 ≤ bodyN s j ∧ bodyN s j < 256 := by
  unfold bodyN
  split
  · omega
  · split
    · omega
    · exact bt_range _ _
theorem bt_body (s : ByteArray) (hs : s.size ≤ 198) (j : Nat) (hj : j < 200) : bt (bodyS s) j = bodyN s j := by
  have := bodyN_range s hs j
  exact bt_str _ _ _ hj this.1 this.2
/-- The length that a body tells. -/
def lenOf (b : ByteArray) : Nat := (256 * bt b 0 + bt b 1).toNat
theorem lenOf_cast (b : ByteArray) : (lenOf b : Int) = 256 * bt b 0 + bt b 1 := by
  unfold lenOf
  have := bt_range b 0
  have := bt_range b 1
  omega
/-- The text that a body tells of. -/
def textOf (b : ByteArray) : ByteArray := b.extract 2 (2 + lenOf b)
/-- Is it a body? -/
def isBody (b : ByteArray) : Bool := decide (b.size = 200) && decide (lenOf b ≤ 198) && decide (bodyS (textOf b) = b)
def padV (s : ByteArray) : ByteArray := if s.size ≤ 198 then bodyS s else ⟨#[]⟩
def padE (s : ByteArray) : Int := if s.size ≤ 198 then 0 else 50
def unV (b : ByteArray) : ByteArray := if isBody b then textOf b else ⟨#[]⟩
def unE (b : ByteArray) : Int := if isBody b then 0 else 50
theorem lenOf_body (s : ByteArray) (hs : s.size ≤ 198) : lenOf (bodyS s) = s.size := by
  have h := lenOf_cast (bodyS s)
  rw [bt_body s hs 0 (by omega), bt_body s hs 1 (by omega)] at h
  simp only [bodyN, if_true, if_false, Nat.one_ne_zero] at h
  omega
theorem textOf_body (s : ByteArray) (hs : s.size ≤ 198) : textOf (bodyS s) = s := by
  unfold textOf
  rw [lenOf_body s hs]
  have hz : ((bodyS s).extract 2 (2 + s.size)).size = s.size := by rw [ext_size, body_size]; omega
  refine bt_same _ _ hz fun j hj => ?_
  rw [hz] at hj
  rw [bt_ext _ _ _ _ (by rw [body_size]; omega), bt_body s hs _ (by omega)]
  unfold bodyN
  rw [if_neg (by omega), if_neg (by omega), show 2 + j - 2 = j by omega]
theorem isBody_body (s : ByteArray) (hs : s.size ≤ 198) : isBody (bodyS s) = true := by
  unfold isBody
  rw [body_size, lenOf_body s hs, textOf_body s hs]
  simp [hs]
theorem textOf_size (b : ByteArray) (h : b.size = 200) (hl : lenOf b ≤ 198) : (textOf b).size = lenOf b := by unfold textOf; rw [ext_size, h]; omega
/-- A body, but for what lies behind its text. -/
theorem isBody_rest (b : ByteArray) (h : b.size = 200) (hl : lenOf b ≤ 198) : isBody b = true ↔ ∀ i, 2 + lenOf b ≤ i → i < 200 → bt b i = 0 := by
  have hts := textOf_size b h hl
  have hx : ∀ j, j < 200 → bt (bodyS (textOf b)) j = if j < 2 + lenOf b then bt b j else 0 := fun j hj => by
    rw [bt_body _ (by omega) j hj]
    unfold bodyN
    rw [hts]
    have c := lenOf_cast b
    have r0 := bt_range b 0
    have r1 := bt_range b 1
    by_cases h0 : j = 0
    · subst h0; rw [if_pos rfl, if_pos (by omega)]; omega
    · rw [if_neg h0]
      by_cases h1 : j = 1
      · subst h1; rw [if_pos rfl, if_pos (by omega)]; omega
      · rw [if_neg h1]
        by_cases h2 : j < 2 + lenOf b
        · rw [if_pos h2]
          unfold textOf
          rw [bt_ext _ _ _ _ (by omega), show 2 + (j - 2) = j by omega]
        · rw [if_neg h2, bt_out _ _ (by rw [hts]; omega)]
  unfold isBody
  rw [decide_eq_true h, decide_eq_true hl]
  simp only [Bool.true_and, decide_eq_true_eq]
  constructor
  · intro e i h1 h2
    have := hx i h2
    rw [e, if_neg (by omega)] at this
    exact this
  · intro e
    refine bt_same _ _ (by rw [body_size, h]) fun j hj => ?_
    rw [body_size] at hj
    rw [hx j hj]
    by_cases h2 : j < 2 + lenOf b
    · rw [if_pos h2]
    · rw [if_neg h2, e j (by omega) hj]
theorem isBody_size (b : ByteArray) (h : isBody b = true) : b.size = 200 ∧ lenOf b ≤ 198 ∧ bodyS (textOf b) = b := by
  unfold isBody at h
  simp at h
  exact ⟨h.1.1, h.1.2, h.2⟩
theorem toList_dec (a b : ByteArray) : (a.toList == b.toList) = decide (a = b) := by
  rw [ByteArray.toList_eq, ByteArray.toList_eq]
  by_cases e : a = b
  · subst e; simp
  · rw [decide_eq_false e]
    have h : ¬ a.data.toList = b.data.toList := fun h => e (ByteArray.ext (Array.toList_inj.1 h))
    simpa using h
end Go.Proofs.YtaoadopnhphjbaaDoor.Rp
namespace Go.Proofs.YtaoadopnhphjbaaDoor.Rp
open Go.RowKit
theorem below_put {B l : Nat} (W : World) (o : Obj) (h : B ≤ l) : Below B W (W.putObj l o) :=
  ⟨rfl, rfl, rfl, by simp [World.putObj], fun k hk => World.putObj_heap_other (by omega)⟩
theorem below_new (w : World) (o : Obj) : Below w.heap.size w (w.alloc o) := (Below.refl _ w).alloc (Nat.le_refl _) _
theorem two_new (w : World) (a b : Obj) : ((w.alloc a).alloc b).heap[w.heap.size]? = some a ∧ ((w.alloc a).alloc b).heap[w.heap.size + 1]? = some b ∧ Below w.heap.size w ((w.alloc a).alloc b) := by
  refine ⟨?_, ?_, ((Below.refl _ w).alloc (Nat.le_refl _) _).alloc (by simp) _⟩
  · exact (Below.heap_alloc _ _ _ (by simp)).trans (heap_alloc_new w a)
  · have := heap_alloc_new (w.alloc a) b; simpa using this
theorem gb_set (w : World) (g k : Nat) (v : Value) : w.grownBy (w.setCell ⟨g, k, none⟩ v) (some g) :=
  ⟨rfl, rfl, rfl, by simp [World.setCell], fun j _ hne => Below.heap_setCell _ _ _ _ (fun e => hne (by rw [e]))⟩
theorem grown_below {B r : Nat} {X Y : World} (hg : X.grownBy Y (some r)) (hr : B ≤ r) (hB : B ≤ X.heap.size) : Below B X Y := ⟨hg.os, hg.tape, hg.output, hg.size, fun k hk => hg.block k (by omega) (by intro e; cases e; omega)⟩
/-- The cells of all blocks below a place, and of one more, are kept. -/
def Kq (b c : Nat) (A B : World) : Prop := A.heap.size ≤ B.heap.size ∧ ∀ j o, j < b ∨ j = c → A.heap[j]? = some o → o.isCells = true → B.heap[j]? = some o
theorem Kq.refl (b c : Nat) (A : World) : Kq b c A A := ⟨Nat.le_refl _, fun _ _ _ h _ => h⟩
theorem Kq.trans {b c : Nat} {A B C : World} (h : Kq b c A B) (k : Kq b c B C) : Kq b c A C := ⟨Nat.le_trans h.1 k.1, fun j o hj ho hc => k.2 j o hj (h.2 j o hj ho hc) hc⟩
theorem Kq.put (b c : Nat) (W : World) (l : Nat) (o o' : Obj) (h : W.heap[l]? = some o) (hc : o.isCells = false) : Kq b c W (W.putObj l o') :=
  ⟨by simp [World.putObj], fun j p _ hp hpc => by
    by_cases e : j = l
    · subst e; rw [h] at hp; cases hp; rw [hc] at hpc; cases hpc
    · exact (World.putObj_heap_other e).trans hp⟩
theorem Kq.below {b c B : Nat} {X Y : World} (h : Below B X Y) (hB : b ≤ B) (hc : c < B) : Kq b c X Y := ⟨h.size, fun j _ hj ho _ => (h.block j (by omega)).trans ho⟩
theorem Kq.set {b c : Nat} (W : World) (g k : Nat) (v : Value) (h1 : b ≤ g) (h2 : c ≠ g) : Kq b c W (W.setCell ⟨g, k, none⟩ v) :=
  ⟨by simp [World.setCell], fun j _ hj ho _ => (Below.heap_setCell _ _ _ _ (by simp only; omega)).trans ho⟩
/-- How a round's body may be left: off its end, or by the one jump. -/
def lPost3 (B : Nat) (Kp : World → World → Prop) (J Jx : World → Prop) (jump : Code) (W : World) : Exit → Act → World → Prop
  | .normal, _, W' => KeepsFrom B W W' ∧ Kp W W' ∧ J W'
  | .exit i, _, W' => jump = .exit i ∧ KeepsFrom B W W' ∧ Jx W'
  | .ret, _, W' => jump = .ret ∧ KeepsFrom B W W' ∧ Jx W'
  | _, _, _ => False
theorem range_law3 {F : Fence} {n : Nat} {P : Program} {g : Operand} {ps : Array Tmp} {assign body : Code} {Q : Exit → Act → World → Prop} {a : Act} {w : World}
    (hro : F.round = none) (h1 : 1 ≤ n) {gf : Nat} {lb : Array Value} (hg : a.eval g = .func (.func gf) #[] lb) (hFg : F.fn gf) (eg : ∀ args w, (callFunc gf args).run P w = .ok (.enter gf args) w)
    (N : Nat) (encs : Nat → Array Value) (hps : ∀ k, (encs k).size = ps.size) (Kp : World → World → Prop) (hKt : ∀ {A B C : World}, Kp A B → Kp B C → Kp A C)
    (hKb : ∀ (W : World) (l : Nat) (o o' : Obj), W.heap[l]? = some o → o.isCells = false → Kp W (W.putObj l o'))
    (J : Nat → World → Prop) (Jx : World → Prop) (jump : Code) (hJ : ∀ k W W', J k W → Below w.heap.size W W' → J k W') (hJx : ∀ W W', Jx W → Below w.heap.size W W' → Jx W') (h0 : J 0 w)
    (A : Nat → Act → World → Prop) (hA : ∀ k a' W l o', A k a' W → w.heap.size ≤ l → l < w.heap.size + 2 → A k a' (W.putObj l o'))
    (hassign : ∀ (l k : Nat) (W : World) (K : Act → World → Prop), k < N → J k W → w.heap.size + 2 ≤ W.heap.size → (∀ a' W', Below W.heap.size W W' → Kp W W' → A k a' W' → K a' W') →
      assign.wpIn (F.inRound l) (n - 1 - 1) P (Exit.then K (fun _ _ _ => False)) { tmps := (ps.zip (encs k)).foldl (fun t (p, v) => t.setIfInBounds p v) a.tmps, defers := [] } W)
    (hbody : ∀ (l k : Nat) (a' : Act) (W : World), k < N → J k W → A k a' W → body.wpIn (F.inRound l) (n - 1 - 1) P (lPost3 w.heap.size Kp (J (k + 1)) Jx jump W) a' W)
    (hiter : ∀ (l : Nat) (W1 : World), Below w.heap.size w W1 → W1.heap.size = w.heap.size + 2 → ∀ (R : Nat → World → Prop) (Rx : World → Prop), (∀ k W W', R k W → Below W1.heap.size W W' → R k W') → (∀ W W', Rx W → Below W1.heap.size W W' → Rx W') →
      (∀ k W, k < N → R k W → YieldAt F (n - 1 - 1) P l (encs k) W fun e W' => (e = .returned (.bool true) ∧ R (k + 1) W' ∧ Kp W W') ∨ (e = .returned (.bool false) ∧ Rx W')) → R 0 W1 →
      CallsIn F (n - 1) P gf (#[.func (.yield l) #[] #[]] ++ lb) W1 fun e W' => (∃ v, e = .returned v) ∧ (R N W' ∨ Rx W'))
    (hdone : ∀ (D : Nat) (W : World), w.heap.size ≤ D → J N W → W.heap[D]? = some (.deferred (some [])) → Q .normal { a with defers := { target := .collected D, args := #[] } :: a.defers } W)
    (hstop : ∀ (D : Nat) (W : World), w.heap.size ≤ D → Jx W → W.heap[D]? = some (.deferred (some [])) → jump.wpIn F n P Q { a with defers := { target := .collected D, args := #[] } :: a.defers } W) :
    (Code.rangeFunc g ps assign body).wpIn F n P Q a w := by
  refine wpIn_rangeFunc fun fn hfn => ?_
  rw [hro]
  obtain ⟨rc, hrc⟩ : ∃ rc : LoopState → Option Code → Loop, rc = fun st pe => { state := st, pending := pe, fn, tmps := a.tmps, params := ps, assign, body, defers := w.heap.size } := ⟨_, rfl⟩
  obtain ⟨W1, hW1⟩ : ∃ W1, (w.alloc (.deferred (some []))).alloc (.loop (rc .ready none)) = W1 := ⟨_, rfl⟩
  have hn2 := two_new w (.deferred (some [])) (.loop (rc .ready none))
  have hs : W1.heap.size = w.heap.size + 2 := by rw [← hW1]; simp
  rw [hW1] at hn2
  obtain ⟨hD1, hL1, hB1⟩ := hn2
  refine ⟨w.heap.size + 1, [{ target := .collected w.heap.size, args := #[] }], W1, { target := .fn (.func gf) lb, args := #[.func (.yield (w.heap.size + 1)) #[] #[]] }, W1, gf,
    #[.func (.yield (w.heap.size + 1)) #[] #[]] ++ lb, W1, ?_, ?_, ?_, ?_, fun _ => h1, ?_⟩
  · rw [← hW1, hrc]; exact run_enterLoop_outer _ _ _ _ _
  · simp only [resolve, hg]
    simp [go_sem]
  · intro f' hf'
    simp [Target.leads] at hf'
    subst hf'
    exact hFg
  · simp [invoke, go_sem, eg]
  · refine (hiter (w.heap.size + 1) W1 hB1 hs
      (fun k W => J k W ∧ W.heap[w.heap.size + 1]? = some (.loop (rc .ready none)) ∧ W.heap[w.heap.size]? = some (.deferred (some [])))
      (fun W => Jx W ∧ W.heap[w.heap.size + 1]? = some (.loop (rc .done (some jump))) ∧ W.heap[w.heap.size]? = some (.deferred (some [])))
      (fun k W W' h hb => ⟨hJ k W W' h.1 (hb.mono (by omega)), (hb.block _ (by omega)).trans h.2.1, (hb.block _ (by omega)).trans h.2.2⟩)
      (fun W W' h hb => ⟨hJx W W' h.1 (hb.mono (by omega)), (hb.block _ (by omega)).trans h.2.1, (hb.block _ (by omega)).trans h.2.2⟩)
      ?_ ⟨hJ 0 w W1 h0 hB1, hL1, hD1⟩).mono ?_
    · rintro k Wb hkN ⟨hj, hl, hd⟩
      have hyr := run_yield (P := P) (args := encs k) hl (by rw [hrc]; exact hps k)
      rw [hrc] at hyr
      refine ⟨fn, _, assign, body, hyr, roundIn_of_wpIn hfn (hassign _ k Wb _ hkN hj (by have := (Array.getElem?_eq_some_iff.1 hl).1; omega) ?_)⟩
      intro a' W hBa hKa hAx
      have hltb := (Array.getElem?_eq_some_iff.1 hl).1
      replace hj := hJ k _ _ hj (hBa.mono (by omega))
      replace hl := (hBa.block _ (by omega)).trans hl
      replace hd := (hBa.block _ (by omega)).trans hd
      have hlt : w.heap.size + 1 < W.heap.size := (Array.getElem?_eq_some_iff.1 hl).1
      refine ⟨_, run_beginRound hl (by rw [hrc]), ?_⟩
      have hl2 : (W.putObj (w.heap.size + 1) (.loop { rc .ready none with state := .busy })).heap[w.heap.size + 1]? = some (.loop { rc .ready none with state := .busy }) := World.putObj_heap_same hlt
      have hd2 : (W.putObj (w.heap.size + 1) (.loop { rc .ready none with state := .busy })).heap[w.heap.size]? = some (.deferred (some [])) := (World.putObj_heap_other (by omega)).trans hd
      refine wpIn_mono (hbody _ k a' _ hkN (hJ k _ _ hj (below_put W _ (by omega))) (hA k a' W _ _ hAx (by omega) (by omega))) ?_
      have fin : ∀ (W3 : World), KeepsFrom w.heap.size (W.putObj (w.heap.size + 1) (.loop { rc .ready none with state := .busy })) W3 → Jx W3 →
          (Instr.endRound (w.heap.size + 1) (some jump)).run P W3 = .ok (.bool false) (W3.putObj (w.heap.size + 1) (.loop (rc .done (some jump)))) ∧ Jx (W3.putObj (w.heap.size + 1) (.loop (rc .done (some jump)))) ∧
          (W3.putObj (w.heap.size + 1) (.loop (rc .done (some jump)))).heap[w.heap.size + 1]? = some (.loop (rc .done (some jump))) ∧
          (W3.putObj (w.heap.size + 1) (.loop (rc .done (some jump)))).heap[w.heap.size]? = some (.deferred (some [])) := fun W3 hk3 hj3 => by
        have hl3 := hk3.same _ _ (by omega) hl2 rfl
        have hd3 := hk3.same _ _ (Nat.le_refl _) hd2 rfl
        have hr := run_endRound (P := P) (some jump) hl3
        rw [hrc] at hr ⊢
        exact ⟨hr, hJx _ _ hj3 (below_put W3 _ (by omega)), World.putObj_heap_same (Array.getElem?_eq_some_iff.1 hl3).1, (World.putObj_heap_other (by omega)).trans hd3⟩
      rintro e a3 W3 hp
      cases e with
      | normal =>
        obtain ⟨hk3, hkp, hj3⟩ := hp
        have hl3 := hk3.same _ _ (by omega) hl2 rfl
        have hd3 := hk3.same _ _ (Nat.le_refl _) hd2 rfl
        have hr := run_endRound (P := P) none hl3
        refine ⟨_, _, hr, .inl ⟨rfl, ⟨hJ _ _ _ hj3 (below_put W3 _ (by omega)), ?_, (World.putObj_heap_other (by omega)).trans hd3⟩, hKt hKa (hKt (hKb W _ _ _ hl rfl) (hKt hkp (hKb W3 _ _ _ hl3 rfl)))⟩⟩
        rw [World.putObj_heap_same (Array.getElem?_eq_some_iff.1 hl3).1, hrc]
        rfl
      | exit i =>
        obtain ⟨rfl, hk3, hj3⟩ := hp
        obtain ⟨hr, f1, f2, f3⟩ := fin W3 hk3 hj3
        exact ⟨_, _, hr, .inr ⟨rfl, f1, f2, f3⟩⟩
      | ret =>
        obtain ⟨rfl, hk3, hj3⟩ := hp
        obtain ⟨hr, f1, f2, f3⟩ := fin W3 hk3 hj3
        exact ⟨_, _, hr, .inr ⟨rfl, f1, f2, f3⟩⟩
      | goto t => exact hp.elim
      | panic ch => exact hp.elim
      | outgrown => exact hp.elim
    · rintro e W2 ⟨⟨v, rfl⟩, ⟨hx, hl, hd⟩ | ⟨hx, hl, hd⟩⟩
      · refine ⟨none, _, by have := run_endLoop (P := P) hl (by rw [hrc]; simp); rw [hrc] at this; exact this, ?_⟩
        exact hdone _ _ (Nat.le_refl _) (hJ _ _ _ hx (below_put W2 _ (by omega))) ((World.putObj_heap_other (by omega)).trans hd)
      · refine ⟨some jump, _, by have := run_endLoop (P := P) hl (by rw [hrc]; simp); rw [hrc] at this; exact this, ?_⟩
        exact hstop _ _ (Nat.le_refl _) (hJx _ _ hx (below_put W2 _ (by omega))) ((World.putObj_heap_other (by omega)).trans hd)
end Go.Proofs.YtaoadopnhphjbaaDoor.Rp
namespace Go.Proofs.YtaoadopnhphjbaaDoor.Rp
open Go.RowKit
/-- The number in a slot. -/
def natOf : Value → Nat | .int _ x => x.toNat | _ => 0
set_option maxRecDepth 100000 in
theorem info5 : (Tryd.prog.info? 5).map (fun i => (i.zero, i.size, i.bytes)) = some (some (.int .u8 0), 1, 1) := by kernel_rfl
set_option maxRecDepth 100000 in
theorem idx_s (s : ByteArray) (p : Nat) (hp : p < s.size) (w : World) : (Instr.index 9 (.string s) (.int .i64 (p : Int))).run Tryd.prog w = .ok (.int .u8 (bt s p)) w := by
  have h0 : (p : Int) < (s.size : Int) := by omega
  simp [Instr.index, run_underlying Tryd.underlying9, go_sem, hp]
  unfold bt
  rw [Array.getElem?_eq_getElem (by exact hp)]
  rfl
set_option maxRecDepth 100000 in
theorem set_at (w : World) (b i : Nat) (cs : Array Value) (T : TypeId) (fr : Nat × Nat) (v : Value) (hb : w.heap[b]? = some (.cells cs T fr)) : (w.setCell ⟨b, i, none⟩ v).heap[b]? = some (.cells (cs.setIfInBounds i v) T fr) := by
  rw [setCell_eq_setRow w b i cs T fr v hb]
  exact setRow_heap w b cs _ T _ hb
set_option maxRecDepth 100000 in
set_option maxHeartbeats 1000000 in
theorem body_any (s : ByteArray) (hs : s.size ≤ 198) (w : World) :
    Calls Tryd.prog 45 #[.string s] w fun e w' => e = .returned (.string (bodyS s)) ∧ Below w.heap.size w w' := by
  have hmk : ∀ w : World, (Instr.makeSlice 41 (.int .i64 200) (.int .i64 200)).run Tryd.prog w = .ok (.slice (some ⟨w.heap.size, 0, none⟩) 200 200) (w.alloc (.cells (madeCells #[.int .u8 0] 200) 5)) := fun w =>
    run_make_row' 41 5 (.int .u8 0) 1 Tryd.underlying41 info5 rfl .i64 .i64 200 (by decide) (by decide) w
  have hcs : ∀ j, j < 200 → (madeCells #[Value.int .u8 0] 200)[j]? = some (.int .u8 0) := fun j hj => by
    simp [madeCells, hj, Nat.mod_one]
  obtain ⟨cs, hc⟩ : ∃ cs, madeCells #[Value.int .u8 0] 200 = cs := ⟨_, rfl⟩
  rw [hc] at hmk hcs
  clear hc
  have HC : Hid (∀ j, j < 200 → cs[j]? = some (.int .u8 0)) := hcs
  have k0 := hcs 0 (by omega)
  have k1 := hcs 1 (by omega)
  have k2 : (cs.setIfInBounds 0 (.int .u8 ((s.size : Int) / 256)))[1]? = some (.int .u8 0) := by rw [Array.getElem?_setIfInBounds_ne (by omega)]; exact k1
  clear hcs k1
  go_enter Tryd.func45, Tryd.ntmps45
  go_wp2_with fail
  have D0 : Hid (∀ j, j < 200 → ((cs.setIfInBounds 0 (.int .u8 ((s.size : Int) / 256))).setIfInBounds 1 (.int .u8 (s.size : Int)))[j]? = some (.int .u8 (if j < 0 + 2 then bodyN s j else 0))) := fun j hj => by
    have hz : 200 ≤ cs.size := by
      have := (Array.getElem?_eq_some_iff.1 (HC.out 199 (by omega))).1
      omega
    by_cases h1 : j = 1
    · subst h1
      rw [Array.getElem?_setIfInBounds_self_of_lt (by rw [Array.size_setIfInBounds]; omega), if_pos (by omega)]
      simp only [bodyN, if_true, if_false, Nat.one_ne_zero]
      congr 2; omega
    · rw [Array.getElem?_setIfInBounds_ne (fun h => h1 h.symm)]
      by_cases h0 : j = 0
      · subst h0
        rw [Array.getElem?_setIfInBounds_self_of_lt (by omega), if_pos (by omega)]
        simp only [bodyN, if_true]
        congr 2
      · rw [Array.getElem?_setIfInBounds_ne (fun h => h0 h.symm), HC.out j hj, if_neg (by omega)]
  generalize (cs.setIfInBounds 0 (.int .u8 ((s.size : Int) / 256))).setIfInBounds 1 (.int .u8 (s.size : Int)) = es at *
  clear k0 k2 HC hmk
  go_loopw [19] (fun i wr => ∃ (k : Nat) (ds : Array Value), k ≤ s.size ∧ i = .int .i64 (k : Int) ∧ wr.heap[w.heap.size]? = some (.cells ds 5 (0, 0)) ∧ (∀ j, j < 200 → ds[j]? = some (.int .u8 (if j < k + 2 then bodyN s j else 0))) ∧ Below w.heap.size w wr) (fun i _ => s.size - natOf i)
  case atStart => exact ⟨0, es, by omega, rfl, heap_alloc_new w _, D0.out, below_new w _⟩
  case round =>
    clear D0
    obtain ⟨k, ds, hk, rfl, hrow, hds, hbe⟩ := hrel
    have RX : Hid (wr.heap[w.heap.size]? = some (.cells ds 5 (0, 0))) := hrow
    have DX : Hid (∀ j, j < 200 → ds[j]? = some (.int .u8 (if j < k + 2 then bodyN s j else 0))) := hds
    have BX : Hid (Below w.heap.size w wr) := hbe
    clear hds hbe
    by_cases hlt : k < s.size
    · have c1 : wr.cell? ⟨w.heap.size, k + 2, none⟩ = some (.int .u8 0) := by rw [cell_of_row _ _ _ _ _ _ hrow, DX.out (k + 2) (by omega)]; simp
      have c2 : wr.cell? ⟨w.heap.size, 2 + k, none⟩ = some (.int .u8 0) := by rw [Nat.add_comm]; exact c1
      have hz : wr.frozen? ⟨w.heap.size, 2 + k, none⟩ = false := frozen_of_row wr _ _ _ _ hrow
      have g0 : (0 : Int) ≤ (k : Int) := by omega
      have g1 : (k : Int) < (s.size : Int) := by omega
      have g2 : (k : Int) < 198 := by omega
      have hix := idx_s s k hlt
      obtain ⟨x, hx⟩ : ∃ x, bt s k = x := ⟨_, rfl⟩
      have HX : Hid (bt s k = x) := hx
      rw [hx] at hix
      clear hrow hx c1
      go_wp2_with fail
      go_roundw
      case rel =>
        refine ⟨k + 1, ds.setIfInBounds (2 + k) (.int .u8 x), hlt, by go_num, set_at _ _ _ _ _ _ _ RX.out, fun j hj => ?_, BX.out.setCell (Nat.le_refl _) _⟩
        by_cases e : j = 2 + k
        · subst e
          rw [Array.getElem?_setIfInBounds_self_of_lt (by have := DX.out _ hj; exact (Array.getElem?_eq_some_iff.1 this).1), if_pos (by omega)]
          unfold bodyN
          rw [if_neg (by omega), if_neg (by omega), show 2 + k - 2 = k by omega, HX.out]
        · rw [Array.getElem?_setIfInBounds_ne (fun h => e h.symm), DX.out j hj]
          by_cases h2 : j < k + 2
          · rw [if_pos h2, if_pos (by omega)]
          · rw [if_neg h2, if_neg (by omega)]
      case measure => simp [natOf]; omega
    · obtain rfl : k = s.size := by omega
      have a0 : ¬ (s.size : Int) < (s.size : Int) := by omega
      have hcb : (convert 41 9 (.slice (some ⟨w.heap.size, 0, none⟩) 200 200)).run Tryd.prog wr = .ok (.string (bodyS s)) wr := by
        unfold bodyS
        refine run_convert_bytes_arg wr 41 5 Tryd.underlying41 Tryd.underlying5 w.heap.size 0 200 200 _ (by rw [upto_length]) (fun i hi => ?_) 9 Tryd.underlying9
        rw [Nat.zero_add, cell_of_row _ _ _ _ _ _ hrow, DX.out i hi, upto_get _ _ _ hi]
        by_cases h2 : i < s.size + 2
        · rw [if_pos h2]
        · rw [if_neg h2]
          unfold bodyN
          rw [if_neg (by omega), if_neg (by omega), bt_out _ _ (by omega)]
      clear hrow
      go_wp2_with fail
      go_ret
      exact ⟨rfl, BX.out⟩
end Go.Proofs.YtaoadopnhphjbaaDoor.Rp
namespace Go.Proofs.YtaoadopnhphjbaaDoor.Rp
open Go.RowKit
/-- All blocks below a place are kept, and the cells of all others. -/
def Kz (b : Nat) (A B : World) : Prop := Below b A B ∧ ∀ (j : Nat) (o : Obj), A.heap[j]? = some o → o.isCells = true → B.heap[j]? = some o
theorem Kz.of_below {b : Nat} {A B : World} (h : Below A.heap.size A B) (hb : b ≤ A.heap.size) : Kz b A B := ⟨h.mono hb, fun j _ ho _ => (h.block j (Array.getElem?_eq_some_iff.1 ho).1).trans ho⟩
theorem Kz.put {b : Nat} (W : World) (l : Nat) (o o' : Obj) (h : W.heap[l]? = some o) (hc : o.isCells = false) (hl : b ≤ l) : Kz b W (W.putObj l o') :=
  ⟨below_put W o' hl, fun j p hp hpc => by
    by_cases e : j = l
    · subst e; rw [h] at hp; cases hp; rw [hc] at hpc; cases hpc
    · exact (World.putObj_heap_other e).trans hp⟩
/-- How a round's body may be left: off its end, or by the one jump. -/
def lPost5 (B : Nat) (J Jx : World → Prop) (jump : Code) (W : World) : Exit → Act → World → Prop
  | .normal, _, W' => KeepsFrom B W W' ∧ J W'
  | .exit i, _, W' => jump = .exit i ∧ KeepsFrom B W W' ∧ Jx W'
  | .ret, _, W' => jump = .ret ∧ KeepsFrom B W W' ∧ Jx W'
  | _, _, _ => False
theorem range_law5 {F : Fence} {n : Nat} {P : Program} {g : Operand} {ps : Array Tmp} {assign body : Code} {Q : Exit → Act → World → Prop} {a : Act} {w : World}
    (hro : F.round = none) (h1 : 1 ≤ n) {gf : Nat} {lb : Array Value} (hg : a.eval g = .func (.func gf) #[] lb) (hFg : F.fn gf) (eg : ∀ args w, (callFunc gf args).run P w = .ok (.enter gf args) w)
    (N : Nat) (encs : Nat → Array Value) (hps : ∀ k, (encs k).size = ps.size)
    (J : Nat → World → Prop) (Jx : World → Prop) (jump : Code) (hJ : ∀ k W W', J k W → Kz w.heap.size W W' → J k W') (hJx : ∀ W W', Jx W → Kz w.heap.size W W' → Jx W') (h0 : J 0 w)
    (A : Nat → Act → World → Prop) (hA : ∀ k a' W l o', A k a' W → w.heap.size ≤ l → l < w.heap.size + 2 → A k a' (W.putObj l o'))
    (hassign : ∀ (l k : Nat) (W : World) (K : Act → World → Prop), k < N → J k W → w.heap.size + 2 ≤ W.heap.size → (∀ a' W', Below W.heap.size W W' → A k a' W' → K a' W') →
      assign.wpIn (F.inRound l) (n - 1 - 1) P (Exit.then K (fun _ _ _ => False)) { tmps := (ps.zip (encs k)).foldl (fun t (p, v) => t.setIfInBounds p v) a.tmps, defers := [] } W)
    (hbody : ∀ (l k : Nat) (a' : Act) (W : World), k < N → J k W → A k a' W → w.heap.size + 2 ≤ W.heap.size → body.wpIn (F.inRound l) (n - 1 - 1) P (lPost5 w.heap.size (J (k + 1)) Jx jump W) a' W)
    (hiter : ∀ (l : Nat) (W1 : World), Below w.heap.size w W1 → W1.heap.size = w.heap.size + 2 → ∀ (R : Nat → World → Prop) (Rx : World → Prop), (∀ k W W', R k W → Below W.heap.size W W' → R k W') → (∀ W W', Rx W → Below W.heap.size W W' → Rx W') → (∀ k W, R k W → J k W) →
      (∀ k W, k < N → R k W → YieldAt F (n - 1 - 1) P l (encs k) W fun e W' => (e = .returned (.bool true) ∧ R (k + 1) W') ∨ (e = .returned (.bool false) ∧ Rx W')) → R 0 W1 →
      CallsIn F (n - 1) P gf (#[.func (.yield l) #[] #[]] ++ lb) W1 fun e W' => (∃ v, e = .returned v) ∧ (R N W' ∨ Rx W'))
    (hdone : ∀ (D : Nat) (W : World), w.heap.size ≤ D → J N W → W.heap[D]? = some (.deferred (some [])) → Q .normal { a with defers := { target := .collected D, args := #[] } :: a.defers } W)
    (hstop : ∀ (D : Nat) (W : World), w.heap.size ≤ D → Jx W → W.heap[D]? = some (.deferred (some [])) → jump.wpIn F n P Q { a with defers := { target := .collected D, args := #[] } :: a.defers } W) :
    (Code.rangeFunc g ps assign body).wpIn F n P Q a w := by
  refine wpIn_rangeFunc fun fn hfn => ?_
  rw [hro]
  obtain ⟨rc, hrc⟩ : ∃ rc : LoopState → Option Code → Loop, rc = fun st pe => { state := st, pending := pe, fn, tmps := a.tmps, params := ps, assign, body, defers := w.heap.size } := ⟨_, rfl⟩
  obtain ⟨W1, hW1⟩ : ∃ W1, (w.alloc (.deferred (some []))).alloc (.loop (rc .ready none)) = W1 := ⟨_, rfl⟩
  have hn2 := two_new w (.deferred (some [])) (.loop (rc .ready none))
  have hs : W1.heap.size = w.heap.size + 2 := by rw [← hW1]; simp
  rw [hW1] at hn2
  obtain ⟨hD1, hL1, hB1⟩ := hn2
  refine ⟨w.heap.size + 1, [{ target := .collected w.heap.size, args := #[] }], W1, { target := .fn (.func gf) lb, args := #[.func (.yield (w.heap.size + 1)) #[] #[]] }, W1, gf,
    #[.func (.yield (w.heap.size + 1)) #[] #[]] ++ lb, W1, ?_, ?_, ?_, ?_, fun _ => h1, ?_⟩
  · rw [← hW1, hrc]; exact run_enterLoop_outer _ _ _ _ _
  · simp only [resolve, hg]
    simp [go_sem]
  · intro f' hf'
    simp [Target.leads] at hf'
    subst hf'
    exact hFg
  · simp [invoke, go_sem, eg]
  · refine (hiter (w.heap.size + 1) W1 hB1 hs
      (fun k W => J k W ∧ W.heap[w.heap.size + 1]? = some (.loop (rc .ready none)) ∧ W.heap[w.heap.size]? = some (.deferred (some [])))
      (fun W => Jx W ∧ W.heap[w.heap.size + 1]? = some (.loop (rc .done (some jump))) ∧ W.heap[w.heap.size]? = some (.deferred (some [])))
      (fun k W W' h hb => by
        have := (Array.getElem?_eq_some_iff.1 h.2.1).1
        exact ⟨hJ k W W' h.1 (Kz.of_below hb (by omega)), (hb.block _ (by omega)).trans h.2.1, (hb.block _ (by omega)).trans h.2.2⟩)
      (fun W W' h hb => by
        have := (Array.getElem?_eq_some_iff.1 h.2.1).1
        exact ⟨hJx W W' h.1 (Kz.of_below hb (by omega)), (hb.block _ (by omega)).trans h.2.1, (hb.block _ (by omega)).trans h.2.2⟩)
      (fun k W h => h.1) ?_ ⟨hJ 0 w W1 h0 (Kz.of_below hB1 (Nat.le_refl _)), hL1, hD1⟩).mono ?_
    · rintro k Wb hkN ⟨hj, hl, hd⟩
      have hyr := run_yield (P := P) (args := encs k) hl (by rw [hrc]; exact hps k)
      rw [hrc] at hyr
      refine ⟨fn, _, assign, body, hyr, roundIn_of_wpIn hfn (hassign _ k Wb _ hkN hj (by have := (Array.getElem?_eq_some_iff.1 hl).1; omega) ?_)⟩
      intro a' W hBa hAx
      have hltb := (Array.getElem?_eq_some_iff.1 hl).1
      replace hj := hJ k _ _ hj (Kz.of_below hBa (by omega))
      replace hl := (hBa.block _ (by omega)).trans hl
      replace hd := (hBa.block _ (by omega)).trans hd
      have hlt : w.heap.size + 1 < W.heap.size := (Array.getElem?_eq_some_iff.1 hl).1
      refine ⟨_, run_beginRound hl (by rw [hrc]), ?_⟩
      have hl2 : (W.putObj (w.heap.size + 1) (.loop { rc .ready none with state := .busy })).heap[w.heap.size + 1]? = some (.loop { rc .ready none with state := .busy }) := World.putObj_heap_same hlt
      have hd2 : (W.putObj (w.heap.size + 1) (.loop { rc .ready none with state := .busy })).heap[w.heap.size]? = some (.deferred (some [])) := (World.putObj_heap_other (by omega)).trans hd
      refine wpIn_mono (hbody _ k a' _ hkN (hJ k _ _ hj (Kz.put W _ _ _ hl rfl (by omega))) (hA k a' W _ _ hAx (by omega) (by omega)) (by simp [World.putObj]; omega)) ?_
      have fin : ∀ (W3 : World), KeepsFrom w.heap.size (W.putObj (w.heap.size + 1) (.loop { rc .ready none with state := .busy })) W3 → Jx W3 →
          (Instr.endRound (w.heap.size + 1) (some jump)).run P W3 = .ok (.bool false) (W3.putObj (w.heap.size + 1) (.loop (rc .done (some jump)))) ∧ Jx (W3.putObj (w.heap.size + 1) (.loop (rc .done (some jump)))) ∧
          (W3.putObj (w.heap.size + 1) (.loop (rc .done (some jump)))).heap[w.heap.size + 1]? = some (.loop (rc .done (some jump))) ∧
          (W3.putObj (w.heap.size + 1) (.loop (rc .done (some jump)))).heap[w.heap.size]? = some (.deferred (some [])) := fun W3 hk3 hj3 => by
        have hl3 := hk3.same _ _ (by omega) hl2 rfl
        have hd3 := hk3.same _ _ (Nat.le_refl _) hd2 rfl
        have hr := run_endRound (P := P) (some jump) hl3
        rw [hrc] at hr ⊢
        exact ⟨hr, hJx _ _ hj3 (Kz.put W3 _ _ _ hl3 rfl (by omega)), World.putObj_heap_same (Array.getElem?_eq_some_iff.1 hl3).1, (World.putObj_heap_other (by omega)).trans hd3⟩
      rintro e a3 W3 hp
      cases e with
      | normal =>
        obtain ⟨hk3, hj3⟩ := hp
        have hl3 := hk3.same _ _ (by omega) hl2 rfl
        have hd3 := hk3.same _ _ (Nat.le_refl _) hd2 rfl
        have hr := run_endRound (P := P) none hl3
        refine ⟨_, _, hr, .inl ⟨rfl, hJ _ _ _ hj3 (Kz.put W3 _ _ _ hl3 rfl (by omega)), ?_, (World.putObj_heap_other (by omega)).trans hd3⟩⟩
        rw [World.putObj_heap_same (Array.getElem?_eq_some_iff.1 hl3).1, hrc]
        rfl
      | exit i =>
        obtain ⟨rfl, hk3, hj3⟩ := hp
        obtain ⟨hr, f1, f2, f3⟩ := fin W3 hk3 hj3
        exact ⟨_, _, hr, .inr ⟨rfl, f1, f2, f3⟩⟩
      | ret =>
        obtain ⟨rfl, hk3, hj3⟩ := hp
        obtain ⟨hr, f1, f2, f3⟩ := fin W3 hk3 hj3
        exact ⟨_, _, hr, .inr ⟨rfl, f1, f2, f3⟩⟩
      | goto t => exact hp.elim
      | panic ch => exact hp.elim
      | outgrown => exact hp.elim
    · rintro e W2 ⟨⟨v, rfl⟩, ⟨hx, hl, hd⟩ | ⟨hx, hl, hd⟩⟩
      · refine ⟨none, _, by have := run_endLoop (P := P) hl (by rw [hrc]; simp); rw [hrc] at this; exact this, ?_⟩
        exact hdone _ _ (Nat.le_refl _) (hJ _ _ _ hx (Kz.put W2 _ _ _ hl rfl (by omega))) ((World.putObj_heap_other (by omega)).trans hd)
      · refine ⟨some jump, _, by have := run_endLoop (P := P) hl (by rw [hrc]; simp); rw [hrc] at this; exact this, ?_⟩
        exact hstop _ _ (Nat.le_refl _) (hJx _ _ hx (Kz.put W2 _ _ _ hl rfl (by omega))) ((World.putObj_heap_other (by omega)).trans hd)
end Go.Proofs.YtaoadopnhphjbaaDoor.Rp
namespace Go.Proofs.YtaoadopnhphjbaaDoor.Rp
open Go.RowKit
set_option maxRecDepth 100000 in
set_option maxHeartbeats 1000000 in
theorem pad_any (s : ByteArray) (w : World) :
    Calls Tryd.prog 28 #[.string s] w fun e w' => e = .returned (.tuple #[.string (padV s), .int .i64 (padE s)]) ∧ Below w.heap.size w w' := by
  by_cases hs : s.size ≤ 198
  · have q : ¬ (198 : Int) < (s.size : Int) := by omega
    have HV : Hid (padV s = bodyS s ∧ padE s = 0) := by refine (?_ : padV s = bodyS s ∧ padE s = 0); simp [padV, padE, hs]
    have HS : Hid (s.size ≤ 198) := hs
    clear hs
    go_enter Tryd.func28, Tryd.ntmps28
    go_wp2_with fail
    refine (body_any s HS.out w).mono ?_
    rintro e w1 ⟨rfl, b1⟩
    generalize bodyS s = b at *
    go_wp2_with fail
    refine bodyPost_ret (results_tmp2 rfl _ _ _) rfl ?_
    exact ⟨by rw [HV.out.1, HV.out.2]; rfl, b1⟩
  · have q : (198 : Int) < (s.size : Int) := by omega
    have HV : Hid (padV s = ⟨#[]⟩ ∧ padE s = 50) := by refine (?_ : padV s = ⟨#[]⟩ ∧ padE s = 50); simp [padV, padE, hs]
    clear hs
    go_enter Tryd.func28, Tryd.ntmps28
    go_wp2_with fail
    refine bodyPost_ret (results_tmp2 rfl _ _ _) rfl ?_
    exact ⟨by rw [HV.out.1, HV.out.2]; rfl, Below.refl _ _⟩
set_option maxRecDepth 100000 in
/-- The text of a body, by its run. -/
theorem run_text (b : ByteArray) (n : Nat) (hb : b.size = 200) (hn : n ≤ 198) (w : World) : (Instr.sliceAt 9 (.string b) (some (.int .i64 2)) (some (.int .i64 (2 + (n : Int)))) none).run Tryd.prog w = .ok (.string (b.extract 2 (2 + n))) w := by
  have h1 : (2 : Int) + (n : Int) ≤ 200 := by omega
  simp [Instr.sliceAt, Instr.slice, run_underlying Tryd.underlying9, go_sem, hb]
  rw [if_pos (by omega), if_pos (by omega), show ((2 : Int) + (n : Int)).toNat = 2 + n by omega]
set_option maxRecDepth 100000 in
/-- Two bytes, the greater one first. -/
theorem or_bytes (x y : Int) (x0 : 0 ≤ x) (x1 : x < 256) (y0 : 0 ≤ y) (y1 : y < 256) : bits .or .i64 (x * 256) y = 256 * x + y := by
  obtain ⟨a, rfl⟩ := Int.eq_ofNat_of_zero_le x0
  obtain ⟨b, rfl⟩ := Int.eq_ofNat_of_zero_le y0
  have e1 : (BitVec.ofInt 64 ((a : Int) * 256)).toNat = 2 ^ 8 * a := by
    rw [show (a : Int) * 256 = ((2 ^ 8 * a : Nat) : Int) by omega, BitVec.ofInt_natCast, BitVec.toNat_ofNat]
    exact Nat.mod_eq_of_lt (by omega)
  have e2 : (BitVec.ofInt 64 (b : Int)).toNat = b := by
    rw [BitVec.ofInt_natCast, BitVec.toNat_ofNat]
    exact Nat.mod_eq_of_lt (by omega)
  have e3 : 2 ^ 8 * a ||| b = 2 ^ 8 * a + b := (Nat.two_pow_add_eq_or_of_lt (by omega) a).symm
  show IntKind.i64.wrap ((BitVec.ofInt 64 ((a : Int) * 256) ||| BitVec.ofInt 64 (b : Int)).toNat : Nat) = _
  rw [BitVec.toNat_or, e1, e2, e3, IntKind.wrap_i64]
  all_goals omega
set_option maxRecDepth 100000 in
set_option maxHeartbeats 1000000 in
theorem unpad_any (b : ByteArray) (w : World) :
    Calls Tryd.prog 55 #[.string b] w fun e w' => e = .returned (.tuple #[.string (unV b), .int .i64 (unE b)]) ∧ Below w.heap.size w w' := by
  by_cases hb : b.size = 200
  · have q : (b.size : Int) = 200 := by omega
    have HB : Hid (b.size = 200) := hb
    have i0 := idx_s b 0 (by omega)
    have i1 := idx_s b 1 (by omega)
    obtain ⟨a0, a1⟩ := bt_range b 0
    obtain ⟨c0, c1⟩ := bt_range b 1
    have hl := lenOf_cast b
    obtain ⟨x, hx⟩ : ∃ x, bt b 0 = x := ⟨_, rfl⟩
    obtain ⟨y, hy⟩ : ∃ y, bt b 1 = y := ⟨_, rfl⟩
    rw [hx] at i0 a0 a1 hl
    rw [hy] at i1 c0 c1 hl
    simp only [Int.natCast_zero, Int.natCast_one] at i0 i1
    have ho : bits .or .i64 (IntKind.i64.wrap (IntKind.i64.wrap x * 256)) (IntKind.i64.wrap y) = (lenOf b : Int) := by
      rw [show IntKind.i64.wrap x = x by rw [IntKind.wrap_i64]; omega, show IntKind.i64.wrap y = y by rw [IntKind.wrap_i64]; omega, show IntKind.i64.wrap (x * 256) = x * 256 by rw [IntKind.wrap_i64]; omega, or_bytes x y a0 a1 c0 c1, hl]
    obtain ⟨n, hn⟩ : ∃ n, lenOf b = n := ⟨_, rfl⟩
    have HN : Hid (lenOf b = n) := hn
    rw [hn] at ho
    have n0 : (n : Int) ≤ 65535 := by omega
    clear hb hx hy hl hn
    go_enter Tryd.func55, Tryd.ntmps55
    go_wp2_with fail
    refine wp_region_any (by kernel_rfl) ?_
    change wpAny _ _ _ _ _ _ _ (World.drew _)
    refine wpAny_take (i := 0) (v := ?_) rfl (by kernel_rfl) (by kernel_rfl) (by kernel_rfl) (fun _ _ _ h => h) (Or.inl ⟨by kernel_rfl, ?_⟩) ?_
    rotate_left
    · intro w
      go_simp
      try with_reducible rfl
    conv in (Act.put _ _ _) => simp only [List.getElem_toArray, List.getElem_cons_succ, List.getElem_cons_zero, Act.put, List.setIfInBounds_toArray, List.set_cons_succ, List.set_cons_zero]
    refine wpAny_take (i := 1) (v := ?_) rfl (by kernel_rfl) (by kernel_rfl) (by kernel_rfl) (fun _ _ _ h => h) (Or.inl ⟨by kernel_rfl, ?_⟩) ?_
    rotate_left
    · intro w
      go_simp
      try with_reducible rfl
    conv in (Act.put _ _ _) => simp only [List.getElem_toArray, List.getElem_cons_succ, List.getElem_cons_zero, Act.put, List.setIfInBounds_toArray, List.set_cons_succ, List.set_cons_zero]
    refine wpAny_take (i := 2) (v := ?_) rfl (by kernel_rfl) (by kernel_rfl) (by kernel_rfl) (fun _ _ _ h => h) (Or.inl ⟨by kernel_rfl, ?_⟩) ?_
    rotate_left
    · intro w
      go_simp
      try with_reducible rfl
    conv in (Act.put _ _ _) => simp only [List.getElem_toArray, List.getElem_cons_succ, List.getElem_cons_zero, Act.put, List.setIfInBounds_toArray, List.set_cons_succ, List.set_cons_zero]
    refine wpAny_take (i := 3) (v := ?_) rfl (by kernel_rfl) (by kernel_rfl) (by kernel_rfl) (fun _ _ _ h => h) (Or.inl ⟨by kernel_rfl, ?_⟩) ?_
    rotate_left
    · intro w
      go_simp
      try with_reducible rfl
    conv in (Act.put _ _ _) => simp only [List.getElem_toArray, List.getElem_cons_succ, List.getElem_cons_zero, Act.put, List.setIfInBounds_toArray, List.set_cons_succ, List.set_cons_zero]
    refine wpAny_take (i := 4) (v := ?_) rfl (by kernel_rfl) (by kernel_rfl) (by kernel_rfl) (fun _ _ _ h => h) (Or.inl ⟨by kernel_rfl, ?_⟩) ?_
    rotate_left
    · intro w
      go_simp
      try with_reducible rfl
    conv in (Act.put _ _ _) => simp only [List.getElem_toArray, List.getElem_cons_succ, List.getElem_cons_zero, Act.put, List.setIfInBounds_toArray, List.set_cons_succ, List.set_cons_zero]
    refine wpAny_take (i := 5) (v := ?_) rfl (by kernel_rfl) (by kernel_rfl) (by kernel_rfl) (fun _ _ _ h => h) (Or.inl ⟨by kernel_rfl, ?_⟩) ?_
    rotate_left
    · intro w
      go_simp
      try with_reducible rfl
    conv in (Act.put _ _ _) => simp only [List.getElem_toArray, List.getElem_cons_succ, List.getElem_cons_zero, Act.put, List.setIfInBounds_toArray, List.set_cons_succ, List.set_cons_zero]
    refine wpAny_take (i := 6) (v := ?_) rfl (by kernel_rfl) (by kernel_rfl) (by kernel_rfl) (fun _ _ _ h => h) (Or.inl ⟨by kernel_rfl, ?_⟩) ?_
    rotate_left
    · intro w
      go_simp
      try with_reducible rfl
    conv in (Act.put _ _ _) => simp only [List.getElem_toArray, List.getElem_cons_succ, List.getElem_cons_zero, Act.put, List.setIfInBounds_toArray, List.set_cons_succ, List.set_cons_zero]
    refine wpAny_take (i := 7) (v := ?_) rfl (by kernel_rfl) (by kernel_rfl) (by kernel_rfl) (fun _ _ _ h => h) (Or.inl ⟨by kernel_rfl, ?_⟩) ?_
    rotate_left
    · intro w
      go_simp
      try with_reducible rfl
    conv in (Act.put _ _ _) => simp only [List.getElem_toArray, List.getElem_cons_succ, List.getElem_cons_zero, Act.put, List.setIfInBounds_toArray, List.set_cons_succ, List.set_cons_zero]
    refine wpAny_ready (rs := [8]) (by kernel_rfl) (by simp) ?_
    refine (AllReady.cons rfl (fun K hK => ?_) AllReady.nil)
    go_simp
    refine hK _ _ ?_
    clear hK K
    refine wpAny_done (by kernel_rfl) ?_ _
    clear ho a0 a1 c0 c1 i0 i1
    by_cases hn : n ≤ 198
    · have hn' : ¬ (198 : Int) < (n : Int) := by omega
      have ht := run_text b n HB.out hn
      have HT : Hid (b.extract 2 (2 + n) = textOf b) := by refine (?_ : b.extract 2 (2 + n) = textOf b); unfold textOf; rw [HN.out]
      rw [HT.out] at ht
      have HS : Hid ((textOf b).size ≤ 198) := by refine (?_ : (textOf b).size ≤ 198); rw [textOf_size b HB.out (by rw [HN.out]; exact hn), HN.out]; exact hn
      have HI : Hid (isBody b = decide (bodyS (textOf b) = b)) := by
        refine (?_ : isBody b = decide (bodyS (textOf b) = b))
        unfold isBody
        rw [decide_eq_true HB.out, HN.out, decide_eq_true hn]; rfl
      obtain ⟨t, ht'⟩ : ∃ t, textOf b = t := ⟨_, rfl⟩
      have HTT : Hid (textOf b = t) := ht'
      rw [ht'] at ht HS HI
      clear hn HT ht'
      go_wp2_with fail
      refine (body_any t HS.out _).mono ?_
      rintro e w1 ⟨rfl, b1⟩
      have B1 : Hid (Below w.heap.size w w1) := ((Below.refl _ w).drew).trans b1
      obtain ⟨z, hz⟩ : ∃ z, bodyS t = z := ⟨_, rfl⟩
      rw [hz] at HI ⊢
      clear hz b1
      have he := toList_dec z b
      by_cases hzb : z = b
      · rw [decide_eq_true hzb] at he
        have HV : Hid (unV b = t ∧ unE b = 0) := by
          refine (?_ : unV b = t ∧ unE b = 0)
          have : isBody b = true := by rw [HI.out, decide_eq_true hzb]
          simp [unV, unE, this, HTT.out]
        clear hzb
        go_wp2_with fail
        refine bodyPost_ret (results_tmp2 rfl _ _ _) rfl ?_
        exact ⟨by rw [HV.out.1, HV.out.2]; rfl, B1.out⟩
      · rw [decide_eq_false hzb] at he
        have HV : Hid (unV b = ⟨#[]⟩ ∧ unE b = 50) := by
          refine (?_ : unV b = ⟨#[]⟩ ∧ unE b = 50)
          have : isBody b = false := by rw [HI.out, decide_eq_false hzb]
          simp [unV, unE, this]
        clear hzb
        go_wp2_with fail
        refine bodyPost_ret (results_tmp2 rfl _ _ _) rfl ?_
        exact ⟨by rw [HV.out.1, HV.out.2]; rfl, B1.out⟩
    · have hn' : (198 : Int) < (n : Int) := by omega
      have HV : Hid (unV b = ⟨#[]⟩ ∧ unE b = 50) := by
        refine (?_ : unV b = ⟨#[]⟩ ∧ unE b = 50)
        have : isBody b = false := by unfold isBody; rw [HN.out, decide_eq_false hn]; simp
        simp [unV, unE, this]
      clear hn
      go_wp2_with fail
      refine bodyPost_ret (results_tmp2 rfl _ _ _) rfl ?_
      exact ⟨by rw [HV.out.1, HV.out.2]; rfl, (Below.refl _ w).drew⟩
  · have q : ¬ (b.size : Int) = 200 := by omega
    have HV : Hid (unV b = ⟨#[]⟩ ∧ unE b = 50) := by
      refine (?_ : unV b = ⟨#[]⟩ ∧ unE b = 50)
      have : isBody b = false := by unfold isBody; rw [decide_eq_false hb]; rfl
      simp [unV, unE, this]
    clear hb
    go_enter Tryd.func55, Tryd.ntmps55
    go_wp2_with fail
    refine bodyPost_ret (results_tmp2 rfl _ _ _) rfl ?_
    exact ⟨by rw [HV.out.1, HV.out.2]; rfl, Below.refl _ _⟩
end Go.Proofs.YtaoadopnhphjbaaDoor.Rp
namespace Go.Proofs.YtaoadopnhphjbaaDoor.Rp
open Go.RowKit
/-- What Pad tells, under names. -/
def PadIs (s v : ByteArray) (x : Int) : Prop := ∀ w : World, Calls Tryd.prog 28 #[.string s] w fun e w' => e = .returned (.tuple #[.string v, .int .i64 x]) ∧ Below w.heap.size w w'
/-- What Unpad tells, under names. -/
def UnIs (s v : ByteArray) (x : Int) : Prop := ∀ w : World, Calls Tryd.prog 55 #[.string s] w fun e w' => e = .returned (.tuple #[.string v, .int .i64 x]) ∧ Below w.heap.size w w'
set_option maxRecDepth 100000 in
theorem padIs (s : ByteArray) : PadIs s (padV s) (padE s) := fun w => pad_any s w
set_option maxRecDepth 100000 in
theorem unIs (s : ByteArray) : UnIs s (unV s) (unE s) := fun w => unpad_any s w
set_option maxRecDepth 100000 in
theorem pad_short (s : ByteArray) (h : s.size ≤ 198) : padV s = bodyS s ∧ padE s = 0 := by simp [padV, padE, h]
set_option maxRecDepth 100000 in
theorem pad_long (s : ByteArray) (h : ¬ s.size ≤ 198) : padV s = ⟨#[]⟩ ∧ padE s = 50 := by simp [padV, padE, h]
set_option maxRecDepth 100000 in
theorem un_body (s : ByteArray) (h : s.size ≤ 198) : unV (bodyS s) = s ∧ unE (bodyS s) = 0 := by simp [unV, unE, isBody_body s h, textOf_body s h]
set_option maxRecDepth 100000 in
theorem un_is (b : ByteArray) (h : isBody b = true) : unE b = 0 ∧ padV (unV b) = b ∧ padE (unV b) = 0 := by
  obtain ⟨h1, h2, h3⟩ := isBody_size b h
  have e : unV b = textOf b := by simp [unV, h]
  have hz : (textOf b).size ≤ 198 := by rw [textOf_size b h1 h2]; exact h2
  rw [e, (pad_short _ hz).1, (pad_short _ hz).2, h3]
  simp [unE, h]
set_option maxRecDepth 100000 in
theorem un_not (b : ByteArray) (h : isBody b = false) : unV b = ⟨#[]⟩ ∧ unE b = 50 := by simp [unV, unE, h]
end Go.Proofs.YtaoadopnhphjbaaDoor.Rp
