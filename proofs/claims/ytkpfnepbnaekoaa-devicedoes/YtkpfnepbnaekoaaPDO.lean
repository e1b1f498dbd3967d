/- Which pending block is the i-th; what a fate leaves of it; a row gone through. -/
import Derived.Test.YtkpfnepbnaekoaaPDN
namespace Go.Proofs.Ytkpfnepbnaekoaa.Rd
open Go.RowKit Go.Shelf Go.Lib
attribute [local go_sem] Oper.semAt_some
/-- How many pending blocks are ahead of a place. -/
def rank (f : Nat → Option ByteArray) (p : Nat) : Nat := ((List.range p).filter fun q => (f q).isSome).length
set_option maxRecDepth 100000 in
theorem rank_succ (f : Nat → Option ByteArray) (p : Nat) : rank f (p + 1) = rank f p + if (f p).isSome = true then 1 else 0 := by
  unfold rank
  rw [List.range_succ, List.filter_append, List.length_append]
  congr 1
  by_cases h : (f p).isSome = true <;> simp [h]
set_option maxRecDepth 100000 in
theorem rank_filter (f : Nat → Option ByteArray) : ∀ (n i p : Nat), ((List.range n).filter fun q => (f q).isSome)[i]? = some p → rank f p = i
  | 0, i, p, h => by simp at h
  | n + 1, i, p, h => by
    rw [List.range_succ, List.filter_append] at h
    by_cases hi : i < ((List.range n).filter fun q => (f q).isSome).length
    · rw [List.getElem?_append_left hi] at h
      exact rank_filter f n i p h
    · rw [List.getElem?_append_right (by omega)] at h
      by_cases hn : (f n).isSome = true
      · simp only [List.filter_cons, hn, if_true, List.filter_nil] at h
        have hj : i - ((List.range n).filter fun q => (f q).isSome).length = 0 := by
          have := (List.getElem?_eq_some_iff.1 h).1; simp at this; omega
        rw [hj] at h
        simp at h
        subst h
        unfold rank
        omega
      · simp [hn] at h
set_option maxRecDepth 100000 in
theorem Rising.eq {f : Nat → Option ByteArray} {l : List Nat} (h : Rising f l) (n : Nat) (hn : ∀ p t, f p = some t → p < n) : l = (List.range n).filter fun q => (f q).isSome := by
  have hp2 : ((List.range n).filter fun q => (f q).isSome).Pairwise (· < ·) := List.Pairwise.filter _ List.pairwise_lt_range
  have nd : ∀ {l : List Nat}, l.Pairwise (· < ·) → l.Nodup := fun h => h.imp (fun h => by omega)
  refine List.Perm.eq_of_pairwise (le := (· < ·)) (fun a b _ _ h1 h2 => by omega) h.1 hp2 ((List.perm_ext_iff_of_nodup (nd h.1) (nd hp2)).2 fun p => ?_)
  rw [h.2 p, List.mem_filter, List.mem_range]
  constructor
  · intro hs
    obtain ⟨t, ht⟩ := Option.isSome_iff_exists.1 hs
    exact ⟨hn p t ht, hs⟩
  · exact fun h => h.2
set_option maxRecDepth 100000 in
theorem Rising.rank {f : Nat → Option ByteArray} {l : List Nat} (h : Rising f l) (n : Nat) (hn : ∀ p t, f p = some t → p < n) {i p : Nat} (hi : l[i]? = some p) : Rd.rank f p = i := by
  have := h.eq n hn
  rw [this] at hi
  exact rank_filter f n i p hi
set_option maxRecDepth 100000 in
theorem Rising.one {f : Nat → Option ByteArray} {l : List Nat} (h : Rising f l) (n : Nat) (hn : ∀ p t, f p = some t → p < n) {i p q : Nat} (hi : l[i]? = some p) (hq : (f q).isSome = true) (hr : Rd.rank f q = i) : q = p := by
  obtain ⟨j, hj⟩ := List.mem_iff_getElem?.1 ((h.2 q).2 hq)
  have := h.rank n hn hj
  rw [this] at hr
  subst hr
  rw [hi] at hj
  exact (Option.some.inj hj).symm
set_option maxRecDepth 100000 in
theorem Rising.lt {f : Nat → Option ByteArray} {l : List Nat} (h : Rising f l) (n : Nat) (hn : ∀ p t, f p = some t → p < n) {q : Nat} (hq : (f q).isSome = true) : Rd.rank f q < l.length := by
  obtain ⟨j, hj⟩ := List.mem_iff_getElem?.1 ((h.2 q).2 hq)
  rw [h.rank n hn hj]
  exact (List.getElem?_eq_some_iff.1 hj).1
/-- Which of the sectors a fate leaves. -/
def kept (fs : List Int) (i : Nat) : Nat := match fs[i]? with | some f => if 1 ≤ f ∧ f ≤ 4 then (f * 64).toNat else 0 | none => 0
/-- A block of which so many bytes are new. -/
def torn (t o : ByteArray) (k : Nat) : ByteArray := t.extract 0 k ++ o.extract k o.size
set_option maxRecDepth 100000 in
theorem torn_zero (t o : ByteArray) : torn t o 0 = o := by
  unfold torn
  have h1 : t.extract 0 0 = ByteArray.empty := by simp
  rw [h1, ByteArray.empty_append]
  exact ByteArray.extract_zero_size
set_option maxRecDepth 100000 in
theorem torn_size (t o : ByteArray) (k : Nat) (hk : k ≤ 256) (ht : t.size = 256) (ho : o.size = 256) : (torn t o k).size = 256 := by
  unfold torn; rw [ByteArray.size_append, ByteArray.size_extract, ByteArray.size_extract]; omega
set_option maxRecDepth 100000 in
theorem kept_le (fs : List Int) (i : Nat) : kept fs i ≤ 256 := by
  unfold kept
  split
  · split
    · omega
    · omega
  · omega
/-- The texts when the k first fates are done. -/
def wkTx (s : St) (fs : List Int) (k : Nat) (p : Nat) : ByteArray := match s.pd p with
  | some t => if rank s.pd p < k then torn t (s.tx p) (kept fs (rank s.pd p)) else s.tx p
  | none => s.tx p
/-- The texts when all fates are done. -/
def wakeTx (s : St) (fs : List Int) (p : Nat) : ByteArray := match s.pd p with
  | some t => torn t (s.tx p) (kept fs (rank s.pd p))
  | none => s.tx p
set_option maxRecDepth 100000 in
theorem wkTx_zero (s : St) (fs : List Int) : wkTx s fs 0 = s.tx := by
  funext p; unfold wkTx; split
  · rw [if_neg (by omega)]
  · rfl
set_option maxRecDepth 100000 in
theorem wkTx_step (s : St) (fs : List Int) (l : List Nat) (h : Rising s.pd l) (hk : Ok s) (i x : Nat) (t : ByteArray) (hi : l[i]? = some x) (ht : s.pd x = some t) :
    wkTx s fs (i + 1) = at' (wkTx s fs i) x (torn t (s.tx x) (kept fs i)) ∧ wkTx s fs i x = s.tx x := by
  have hn : ∀ p t, s.pd p = some t → p < s.n := fun p t e => (hk.pd p t e).1
  have hr := h.rank s.n hn hi
  refine ⟨?_, ?_⟩
  · funext q
    unfold at'
    by_cases hq : q = x
    · subst hq
      rw [if_pos rfl]
      unfold wkTx
      rw [ht, hr]
      simp
    · rw [if_neg hq]
      unfold wkTx
      cases hp : s.pd q with
      | none => rfl
      | some u =>
        simp only
        have hne : rank s.pd q ≠ i := fun e => hq (h.one s.n hn hi (by rw [hp]; rfl) e)
        by_cases h1 : rank s.pd q < i
        · rw [if_pos h1, if_pos (by omega)]
        · rw [if_neg h1, if_neg (by omega)]
  · unfold wkTx
    rw [ht, hr]
    simp
set_option maxRecDepth 100000 in
theorem wkTx_all (s : St) (fs : List Int) (l : List Nat) (h : Rising s.pd l) (hk : Ok s) (k : Nat) (hl : k = l.length ∨ fs.length ≤ k) : wkTx s fs k = wakeTx s fs := by
  have hn : ∀ p t, s.pd p = some t → p < s.n := fun p t e => (hk.pd p t e).1
  funext p
  unfold wkTx wakeTx
  cases hp : s.pd p with
  | none => rfl
  | some t =>
    simp only
    by_cases h1 : rank s.pd p < k
    · rw [if_pos h1]
    · rw [if_neg h1]
      rcases hl with rfl | hl
      · exact absurd (h.lt s.n hn (by rw [hp]; rfl)) h1
      · have : kept fs (rank s.pd p) = 0 := by unfold kept; rw [List.getElem?_eq_none (by omega)]
        rw [this, torn_zero]
/-- The state when the power has come back. -/
def wakeS (s : St) (fs : List Int) : St := backS { s with tx := wakeTx s fs, pd := fun _ => none }
set_option maxRecDepth 100000 in
theorem wakeTx_size {s : St} (h : Ok s) (fs : List Int) (p : Nat) (hp : p < s.n) : (wakeTx s fs p).size = 256 := by
  unfold wakeTx
  cases hq : s.pd p with
  | none => exact h.tx p hp
  | some t => exact torn_size _ _ _ (kept_le _ _) (h.pd p t hq).2 (h.tx p hp)
set_option maxRecDepth 100000 in
theorem wakeS_ok {s : St} (h : Ok s) (fs : List Int) : Ok (wakeS s fs) :=
  backS_ok ⟨h.n0, h.n1, wakeTx_size h fs, fun _ _ e => by simp at e, h.l0, h.l1, h.lc, h.c0, h.c1, h.b0, h.b1⟩
set_option maxRecDepth 100000 in
set_option maxHeartbeats 1000000 in
theorem all1_in (l : List Nat) (hl : l.length ≤ 4096) (o : Option Addr) (cap mb p base : Nat) (W1 : World) (Sx : Nat → Prop) (B0 : Nat) (s1 : ∀ a, o = some a → Sx a.block)
    (hmb : W1.heap[mb]? = some (.cells #[.slice o l.length cap] 105 (0, 0))) (hrow : RowOf W1 base (.slice o l.length cap) l) (R : Nat → World → Prop) (Rx : World → Prop)
    (hY : ∀ i (x : Nat × Nat) W, (x.1 = i ∧ l[i]? = some x.2) → R i W → YieldAt Fence.wide 3 Try.prog p #[.int .i64 (x.1 : Int), .int .u32 (x.2 : Int)] W fun e W' => (e = .returned (.bool true) ∧ R (i + 1) W' ∧ Keeps Sx W W' ∧ Kn B0 p W W') ∨ (e = .returned (.bool false) ∧ Rx W')) (h0 : R 0 W1) :
    CallsIn Fence.wide 4 Try.prog 67 (#[.func (.yield p) #[] #[]] ++ #[.pointer (some ⟨mb, 0, none⟩)]) W1 fun e W' => (∃ v, e = .returned v) ∧ ((∃ i, i = l.length ∧ R i W') ∨ Rx W') := by
  have HY : Hid _ := hY
  have H0 : Hid (R 0 W1) := h0
  have HRW : Hid (RowOf W1 base (.slice o l.length cap) l) := hrow
  have c1 : W1.cell? ⟨mb, 0, none⟩ = some (.slice o l.length cap) := by rw [cell_of_row _ _ _ _ _ _ hmb]; rfl
  clear hY h0 hmb hrow
  refine callsIn_of_wp Try.func67 rfl trivial ?_ rfl
  simp only [Try.ntmps67, List.size_toArray, List.length_cons, List.length_nil, Nat.reduceAdd, Nat.reduceSub, Array.replicate_succ, Array.replicate_zero, List.push_toArray, List.append_toArray, List.nil_append, List.cons_append]
  gi_wp2
  clear c1
  gi_loopw [7] (fun i wr => ∃ k : Nat, k ≤ l.length ∧ i = .int .i64 (k : Int) ∧ R k wr ∧ Keeps Sx W1 wr) (fun i _ => l.length - natOf i)
  case atStart => exact ⟨0, by omega, rfl, H0.out, Keeps.refl _ _⟩
  case round =>
    obtain ⟨k, hkl, rfl, hRk, hq⟩ := hrel
    have HRk : Hid (R k wr) := hRk
    have HQ : Hid (Keeps Sx W1 wr) := hq
    clear hRk hq
    by_cases hlt : k < l.length
    · obtain ⟨g, cap', e, hb, hu⟩ : ∃ g cap', Value.slice o l.length cap = .slice (some ⟨g, 0, none⟩) l.length cap' ∧ base ≤ g ∧ Us W1 g l.toArray := by
        rcases HRW.out with ⟨_, rfl⟩ | h
        · simp at hlt
        · exact h
      simp only [Value.slice.injEq] at e
      obtain ⟨rfl, _, rfl⟩ := e
      have hu2 : Us wr g l.toArray := hu.same (HQ.out.2 g (s1 _ rfl) hu.lt)
      obtain ⟨x1, y1⟩ := hu2.cell k (by simpa using hlt)
      have hx : l[k]? = some (l.toArray[k]!) := by simp [getElem!_pos, hlt]
      generalize l.toArray[k]! = xv at *
      obtain ⟨fn, tmps, assign, body, hy, hRd⟩ := HY.out k (k, xv) wr ⟨rfl, hx⟩ HRk.out
      simp only at hy
      have q1 : (k : Int) < (l.length : Int) := by omega
      have k0 : (0 : Int) ≤ (k : Int) := by omega
      have k1 : (k : Int) + 1 ≤ 9223372036854775807 := by omega
      have HX : Hid _ := hx
      clear hu hu2 hb hx y1
      gi_wp2
      refine hRd.mono ?_
      rintro e W6 (⟨rfl, hR6, hk6, _⟩ | ⟨rfl, hx6⟩)
      · have K6 : Hid (Keeps Sx W1 W6) := HQ.out.trans hk6
        clear hk6
        gi_wp2
        go_roundw
        case rel => exact ⟨k + 1, by omega, by go_num, hR6, K6.out⟩
        case measure => simp [natOf]; omega
      · gi_wp2
        refine bodyPost_ret (results_none rfl _ _ _) rfl ?_
        exact ⟨⟨_, rfl⟩, .inr hx6⟩
    · have hk : k = l.length := by omega
      have q1 : ¬ (k : Int) < (l.length : Int) := by omega
      have HE : Hid (R l.length wr) := by have := HRk.out; rw [hk] at this; exact this
      clear hk
      gi_wp2
      refine bodyPost_end (results_none rfl _ _ _) rfl ?_
      exact ⟨⟨_, rfl⟩, .inl HE.out⟩
end Go.Proofs.Ytkpfnepbnaekoaa.Rd
