/- A ring in memory, and the function that yields its keys. -/
import Derived.Test.YtmlechalhldlhaaDoorKA
namespace Go.Proofs.YtmlechalhldlhaaDoor.Rk
open Go.RowKit Go.Shelf Go.Lib
attribute [local go_sem] Oper.semAt_some
/-- The number in a slot. -/
def natOf : Value → Nat | .int _ x => x.toNat | _ => 0
/-- A key as a value. -/
def kv (k : Ky) : Value := .agg #[.int .u32 k.1, .string k.2]
/-- The key at an index. -/
def kat (l : List Ky) (i : Nat) : Ky := (l[i]?).getD (0, ByteArray.empty)
theorem kat_some {l : List Ky} {i : Nat} (h : i < l.length) : l[i]? = some (kat l i) := by unfold kat; rw [List.getElem?_eq_getElem h]; rfl
theorem kat_of {l : List Ky} {i : Nat} {k : Ky} (h : l[i]? = some k) : kat l i = k := by unfold kat; rw [h]; rfl
/-- Two cells hold a key. -/
def Two (w : World) (b x : Nat) (k : Ky) : Prop := w.cell? ⟨b, x, none⟩ = some (.int .u32 k.1) ∧ w.cell? ⟨b, x + 1, none⟩ = some (.string k.2)
/-- A slice's parts, and the keys that it holds. -/
def Ring (w : World) (o : Option Addr) (cap : Nat) (l : List Ky) : Prop :=
  l.length ≤ cap ∧ cap ≤ maxLen ∧ (o = none → cap = 0) ∧ (l ≠ [] → ∃ b off, o = some ⟨b, off, none⟩ ∧ b < w.heap.size ∧ ∀ i, i < l.length → Two w b (off + i * 2) (kat l i))
theorem Two.same {w w' : World} {b x : Nat} {k : Ky} (h : Two w b x k) (e : w'.heap[b]? = w.heap[b]?) : Two w' b x k :=
  ⟨(World.cell?_of_block (a := ⟨b, x, none⟩) e).trans h.1, (World.cell?_of_block (a := ⟨b, x + 1, none⟩) e).trans h.2⟩
theorem Ring.below {w w' : World} {o : Option Addr} {cap B : Nat} {l : List Ky} (h : Ring w o cap l) (hb : Below B w w') (hB : w.heap.size ≤ B) : Ring w' o cap l := by
  refine ⟨h.1, h.2.1, h.2.2.1, fun hl => ?_⟩
  obtain ⟨b, off, e, hlt, hc⟩ := h.2.2.2 hl
  exact ⟨b, off, e, Nat.lt_of_lt_of_le hlt hb.size, fun i hi => (hc i hi).same (hb.block b (by omega))⟩
theorem Ring.kq {w w' : World} {o : Option Addr} {cap B c : Nat} {l : List Ky} (h : Ring w o cap l) (hb : Kq B c w w') (hB : w.heap.size ≤ B) : Ring w' o cap l := by
  refine ⟨h.1, h.2.1, h.2.2.1, fun hl => ?_⟩
  obtain ⟨b, off, e, hlt, hc⟩ := h.2.2.2 hl
  refine ⟨b, off, e, Nat.lt_of_lt_of_le hlt hb.1, fun i hi => (hc i hi).same ?_⟩
  obtain ⟨ob, ho, hoc⟩ := cells_of_cell (hc i hi).1
  exact (hb.2 b ob (.inl (by omega)) ho hoc).trans ho.symm
/-- What a function says that yields keys. -/
def YieldsK (gf : Nat) (lb : Array Value) (l : List Ky) (B c : Nat) (w0 : World) : Prop :=
  ∀ (p : Nat) (W1 : World), Kq B c w0 W1 → ∀ (R : Nat → World → Prop) (Rx : World → Prop), (∀ k W W', R k W → Below W1.heap.size W W' → R k W') → (∀ W W', Rx W → Below W1.heap.size W W' → Rx W') →
    (∀ k W, k < l.length → R k W → YieldAt Fence.wide 3 Tryd.prog p #[kv (kat l k)] W fun e W' => (e = .returned (.bool true) ∧ R (k + 1) W' ∧ Kq B c W W') ∨ (e = .returned (.bool false) ∧ Rx W')) → R 0 W1 →
    CallsIn Fence.wide 4 Tryd.prog gf (#[.func (.yield p) #[] #[]] ++ lb) W1 fun e W' => (∃ v, e = .returned v) ∧ (R l.length W' ∨ Rx W')
set_option maxRecDepth 100000 in
set_option maxHeartbeats 1000000 in
theorem values1_in (l : List Ky) (o : Option Addr) (cap b1 : Nat) (w w0 : World) (hr : Ring w o cap l) (hw : Kq w.heap.size b1 w w0) (hb1 : b1 < w0.heap.size) (h1 : w0.heap[b1]? = some (.cells #[.slice o l.length cap] 30 (0, 0))) :
    YieldsK 23 #[.pointer (some ⟨b1, 0, none⟩)] l w.heap.size b1 w0 := by
  intro p W hKq R Rx hR hRx hY h0
  have HY : Hid _ := hY
  have HR : Hid _ := hR
  have HRx : Hid _ := hRx
  have H0 : Hid (R 0 W) := h0
  have HG : Hid (Ring w o cap l) := hr
  have HKq : Hid (Kq w.heap.size b1 w W) := hw.trans hKq
  have hb1W : b1 < W.heap.size := Nat.lt_of_lt_of_le hb1 hKq.1
  have HB : Hid (W.heap[b1]? = some (.cells #[.slice o l.length cap] 30 (0, 0))) := hKq.2 b1 _ (.inr rfl) h1 rfl
  have hlen : l.length ≤ maxLen := Nat.le_trans hr.1 hr.2.1
  have c1 : W.cell? ⟨b1, 0, none⟩ = some (.slice o l.length cap) := by rw [cell_of_row _ _ _ _ _ _ HB.out]; rfl
  clear hY hR hRx h0 h1 hr hKq hw
  refine callsIn_of_wp Tryd.func23 rfl trivial ?_ rfl
  simp only [Tryd.ntmps23, List.size_toArray, List.length_cons, List.length_nil, Nat.reduceAdd, Nat.reduceSub, Array.replicate_succ, Array.replicate_zero, List.push_toArray, List.append_toArray, List.nil_append, List.cons_append]
  gi_wp2
  clear c1
  gi_loopw [7] (fun i wr => ∃ k : Nat, k ≤ l.length ∧ i = .int .i64 (k : Int) ∧ R k wr ∧ W.heap.size ≤ wr.heap.size ∧ Kq w.heap.size b1 W wr) (fun i _ => l.length - natOf i)
  case atStart => exact ⟨0, by omega, rfl, H0.out, Nat.le_refl _, Kq.refl _ _ _⟩
  case round =>
    obtain ⟨k, hkl, rfl, hRk, hsz, hq⟩ := hrel
    have HRk : Hid (R k wr) := hRk
    have HS : Hid (W.heap.size ≤ wr.heap.size) := hsz
    have HQ : Hid (Kq w.heap.size b1 W wr) := hq
    have hG := HG.out.kq (HKq.out.trans hq) (Nat.le_refl _)
    clear hRk hsz hq
    by_cases hlt : k < l.length
    · obtain ⟨b, off, rfl, hbl, hc⟩ := hG.2.2.2 (by intro e; rw [e] at hlt; simp at hlt)
      obtain ⟨c1, c2⟩ := hc k hlt
      have q1 : (k : Int) < (l.length : Int) := by omega
      have k0 : (0 : Int) ≤ (k : Int) := by omega
      have k1 : (k : Int) + 1 ≤ 9223372036854775807 := by have := hlen; simp only [maxLen] at this; omega
      generalize hks : kat l k = gs at *
      obtain ⟨g, s⟩ := gs
      simp only at c1 c2
      have HKS : Hid (kat l k = (g, s)) := hks
      have hy0 := HY.out k (wr.alloc (.cells #[.int .u32 g, .string s] 24)) hlt (HR.out _ _ _ HRk.out ((below_new wr _).mono HS.out))
      rw [hks] at hy0
      obtain ⟨fn, tmps, assign, body, hy, hRd⟩ := hy0
      simp only [kv] at hy
      clear hks hc hG
      gi_wp2
      refine hRd.mono ?_
      rintro e W6 (⟨rfl, hR6, hk6⟩ | ⟨rfl, hx6⟩)
      · gi_wp2
        go_roundw
        case rel => exact ⟨k + 1, by omega, by go_num, hR6, Nat.le_trans HS.out (Nat.le_trans (by simp) hk6.1), HQ.out.trans ((Kq.below (below_new wr _) (by have := HKq.out.1; have := HS.out; omega) (by have := HS.out; omega)).trans hk6)⟩
        case measure => simp [natOf]; omega
      · gi_wp2
        refine bodyPost_ret (results_none rfl _ _ _) rfl ?_
        exact ⟨⟨_, rfl⟩, .inr hx6⟩
    · have hk : k = l.length := by omega
      have q1 : ¬ (k : Int) < (l.length : Int) := by omega
      have HE : Hid (R l.length wr) := by have := HRk.out; rw [hk] at this; exact this
      clear hk
      gi_wp2
      refine bodyPost_end (results_none rfl _ _ _) rfl ?_
      exact ⟨⟨_, rfl⟩, .inl HE.out⟩
theorem values_any (o : Option Addr) (n cap : Nat) (w : World) :
    Calls Tryd.prog 18 #[.slice o n cap] w fun e w' => e = .returned (.func (.func 23) #[] #[.pointer (some ⟨w.heap.size, 0, none⟩)]) ∧ w' = w.alloc (.cells #[.slice o n cap] 30) := by
  go_enter Tryd.func18, Tryd.ntmps18
  go_wp2_with fail
  go_ret
  exact ⟨rfl, rfl⟩
end Go.Proofs.YtmlechalhldlhaaDoor.Rk
