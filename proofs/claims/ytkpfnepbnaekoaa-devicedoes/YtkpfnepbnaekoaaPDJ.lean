/- The keys of a map, one by one, in whatever order. -/
import Derived.Test.YtkpfnepbnaekoaaPDI
namespace Go.Proofs.Ytkpfnepbnaekoaa.Rd
open Go.RowKit Go.Shelf Go.Lib
open Go.ChangeMaps (setBlock)
attribute [local go_sem] Oper.semAt_some
/-- Which entries have come. -/
def Coh (es : Array MapEntry) (f : Nat → Option ByteArray) (seen : Array Nat) (l : List Nat) : Prop :=
  (∀ e ∈ es.toList, ∀ p : Nat, e.key = .int .u32 (p : Int) → (seen.contains e.born = true ↔ p ∈ l)) ∧ l.Nodup ∧ ∀ p ∈ l, (f p).isSome = true
/-- All keys, each one once. -/
def AllKeys (f : Nat → Option ByteArray) (l : List Nat) : Prop := l.Nodup ∧ ∀ p, p ∈ l ↔ (f p).isSome = true
set_option maxRecDepth 100000 in
theorem Coh.start (es : Array MapEntry) (f : Nat → Option ByteArray) : Coh es f #[] [] := ⟨fun e _ p _ => by simp, List.nodup_nil, by simp⟩
set_option maxRecDepth 100000 in
theorem Coh.step {es : Array MapEntry} {cl : Nat} {f : Nat → Option ByteArray} (h : Ent es cl f) {seen : Array Nat} {l : List Nat} (hc : Coh es f seen l) {e : MapEntry} (he : e ∈ es.toList) (hs : seen.contains e.born = false) {p : Nat} {t : ByteArray}
    (hk : e.key = .int .u32 (p : Int)) (hf : f p = some t) : p ∉ l ∧ Coh es f (seen.push e.born) (l ++ [p]) := by
  have hp : p ∉ l := fun hm => by have := (hc.1 e he p hk).2 hm; rw [hs] at this; cases this
  refine ⟨hp, fun x hx q hq => ?_, ?_, ?_⟩
  · have h1 := hc.1 x hx q hq
    simp only [Array.contains_push, Bool.or_eq_true, beq_iff_eq, List.mem_append, List.mem_singleton]
    constructor
    · rintro (h2 | h2)
      · exact .inl (h1.1 h2)
      · have := h.born he hx h2
        subst this
        rw [hk] at hq
        exact .inr (u32_inj hq).symm
    · rintro (h2 | h2)
      · exact .inl (h1.2 h2)
      · refine .inr ?_
        subst h2
        have hn := ((MapKept.stamped_iff es cl).1 h.st).2.2
        by_cases hxe : x = e
        · rw [hxe]
        · exfalso
          obtain ⟨i, hi, rfl⟩ := List.mem_iff_getElem.1 he
          obtain ⟨j, hj, rfl⟩ := List.mem_iff_getElem.1 hx
          rw [List.pairwise_iff_getElem] at hn
          rcases Nat.lt_trichotomy i j with hlt | heq | hlt
          · exact hn i j hi hj hlt (by rw [hk, hq])
          · subst heq; exact hxe rfl
          · exact hn j i hj hi hlt (by rw [hk, hq])
  · rw [List.nodup_append]
    exact ⟨hc.2.1, by simp, fun a ha b hb => by simp at hb; subst hb; intro e; subst e; exact hp ha⟩
  · intro q hq
    rcases List.mem_append.1 hq with hq | hq
    · exact hc.2.2 q hq
    · simp at hq; subst hq; rw [hf]; rfl
set_option maxRecDepth 100000 in
theorem Coh.all {es : Array MapEntry} {cl : Nat} {f : Nat → Option ByteArray} (h : Ent es cl f) {seen : Array Nat} {l : List Nat} (hc : Coh es f seen l) (h0 : (leftOf es seen).size = 0) : AllKeys f l := by
  refine ⟨hc.2.1, fun p => ⟨hc.2.2 p, fun hp => ?_⟩⟩
  obtain ⟨t, ht⟩ := Option.isSome_iff_exists.1 hp
  obtain ⟨e, he, e1, _⟩ := h.all p t ht
  exact (hc.1 e he p e1).1 (all_seen es seen h0 e he)
set_option maxRecDepth 100000 in
theorem keys_any (m : Nat) (w : World) :
    Calls Try.prog 63 #[.map (some m)] w fun e w' => e = .returned (.func (.func 70) #[] #[.pointer (some ⟨w.heap.size, 0, none⟩)]) ∧ w' = w.alloc (.cells #[.map (some m)] 71) := by
  go_enter Try.func63, Try.ntmps63
  go_wp2_with fail
  go_ret
  exact ⟨rfl, rfl⟩
set_option maxRecDepth 100000 in
set_option maxHeartbeats 2000000 in
theorem keys1_in (es : Array MapEntry) (cl : Nat) (f : Nat → Option ByteArray) (hE : Ent es cl f) (m mb p : Nat) (W1 : World) (Sx : Nat → Prop) (s1 : Sx m) (B0 : Nat) (s3 : B0 ≤ W1.heap.size) (s4 : p < W1.heap.size)
    (hmb : W1.heap[mb]? = some (.cells #[.map (some m)] 71 (0, 0))) (hm : W1.heap[m]? = some (.map es cl)) (R : List Nat → World → Prop) (Rx : World → Prop)
    (hR : ∀ k W W', R k W → Kz W1.heap.size W W' → R k W')
    (hY : ∀ l x W, (f x).isSome = true ∧ x ∉ l → R l W → YieldAt Fence.wide 3 Try.prog p #[.int .u32 (x : Int)] W fun e W' => (e = .returned (.bool true) ∧ R (l ++ [x]) W' ∧ Keeps Sx W W' ∧ Kn B0 p W W') ∨ (e = .returned (.bool false) ∧ Rx W')) (h0 : R [] W1) :
    CallsIn Fence.wide 4 Try.prog 70 (#[.func (.yield p) #[] #[]] ++ #[.pointer (some ⟨mb, 0, none⟩)]) W1 fun e W' => (∃ v, e = .returned v) ∧ ((∃ l, AllKeys f l ∧ R l W') ∨ Rx W') := by
  have HY : Hid _ := hY
  have HR : Hid _ := hR
  have H0 : Hid (R [] W1) := h0
  have HE : Hid _ := hE
  have HM : Hid _ := hm
  have hml : m < W1.heap.size := (Array.getElem?_eq_some_iff.1 hm).1
  have hmbl : mb < W1.heap.size := (Array.getElem?_eq_some_iff.1 hmb).1
  have c1 : W1.cell? ⟨mb, 0, none⟩ = some (.map (some m)) := by rw [cell_of_row _ _ _ _ _ _ hmb]; rfl
  have hrg := run_range_map (P := Try.prog) W1 71 32 81 m es cl Try.underlying71 hm
  clear hY hR h0 hm hmb hE
  refine callsIn_of_wp Try.func70 rfl trivial ?_ rfl
  simp only [Try.ntmps70, List.size_toArray, List.length_cons, List.length_nil, Nat.reduceAdd, Nat.reduceSub, Array.replicate_succ, Array.replicate_zero, List.push_toArray, List.append_toArray, List.nil_append, List.cons_append]
  gi_wp2
  clear c1 hrg
  gi_loopw [] (fun wr => ∃ seen l, wr.heap[W1.heap.size]? = some (.mapIter (some m) cl seen cl) ∧ wr.heap[m]? = some (.map es cl) ∧ Coh es f seen l ∧ R l wr) (fun wr => (leftOf es (wr.iterSeen W1.heap.size)).size)
  case atStart =>
    exact ⟨#[], [], heap_alloc_new W1 _, (Below.heap_alloc _ _ _ hml).trans HM.out, Coh.start es f, HR.out _ _ _ H0.out (Kz.of_below (below_new W1 _) (Nat.le_refl _))⟩
  case round =>
    obtain ⟨seen, l, h1, h2, h3, h4⟩ := hrel
    rcases run_next_at (P := Try.prog) wr 0 W1.heap.size m cl cl seen es cl h1 h2 HE.out.st.1 (Nat.le_refl _) with ⟨hz, hrun⟩ | ⟨e, he, w2, hal, hrun⟩
    · have hnx : ∀ ty, (Instr.next (.pointer (some ⟨W1.heap.size, 0, none⟩)) false ty).run Try.prog wr = _ := fun _ => hrun
      have HF : Hid (∃ l, AllKeys f l ∧ R l wr) := ⟨l, h3.all HE.out hz, h4⟩
      clear h1 h2 h3 h4 hrun
      gi_wp2
      refine bodyPost_end (results_none rfl _ _ _) rfl ?_
      exact ⟨⟨_, rfl⟩, .inl HF.out⟩
    · obtain ⟨q, t, k1, k2, k3⟩ := HE.out.is e (mem_left he).1
      rw [k1, k2] at hrun
      have hnx : ∀ ty, (Instr.next (.pointer (some ⟨W1.heap.size, 0, none⟩)) false ty).run Try.prog wr = _ := fun _ => hrun
      obtain ⟨W2, hW2⟩ : ∃ W2, setBlock w2 W1.heap.size (.mapIter (some m) cl (seen.push e.born) cl) = W2 := ⟨_, rfl⟩
      rw [hW2] at hnx
      have hh : ∀ k, k ≠ W1.heap.size → W2.heap[k]? = wr.heap[k]? := fun k hk => by
        rw [← hW2, setBlock_other _ _ _ hk]; rcases hal with rfl | rfl <;> rfl
      have g1 : W2.heap[W1.heap.size]? = some (.mapIter (some m) cl (seen.push e.born) cl) := by
        rw [← hW2]; refine setBlock_same (o := .mapIter (some m) cl seen cl) ?_; rcases hal with rfl | rfl <;> exact h1
      have g2 := (hh m (by omega)).trans h2
      have gk : Kz W1.heap.size wr W2 := by
        refine ⟨⟨?_, ?_, ?_, ?_, fun k hk => hh k (by omega)⟩, fun j o hj hc => ?_⟩
        · rw [← hW2]; rcases hal with rfl | rfl <;> rfl
        · rw [← hW2]; rcases hal with rfl | rfl <;> rfl
        · rw [← hW2]; rcases hal with rfl | rfl <;> rfl
        · rw [← hW2]; rcases hal with rfl | rfl <;> simp [ChangeMaps.setBlock]
        · rw [hh j fun e => ?_, hj]
          subst e; rw [h1] at hj; cases hj; cases hc
      have hen := run_entry_at (P := Try.prog) W2 W1.heap.size m cl seen es cl e g1 g2 (mem_left he).1 HE.out.st.2.1
      rw [k1, k2] at hen
      obtain ⟨hql, hcoh⟩ := h3.step HE.out (mem_left he).1 (mem_left he).2 k1 k3
      have HS : Hid (wr.iterSeen W1.heap.size = seen) := iterSeen_of h1
      have G1 : Hid _ := g1
      have G2 : Hid _ := g2
      have HC : Hid _ := hcoh
      have HL : Hid _ := he
      have hsz : W1.heap.size < W2.heap.size := (Array.getElem?_eq_some_iff.1 g1).1
      obtain ⟨fn, tmps, assign, body, hy, hRd⟩ := HY.out l q W2 ⟨by rw [k3]; rfl, hql⟩ (HR.out _ _ _ h4 gk)
      clear h1 h2 h3 h4 hrun hW2 hh g1 g2 gk he k3 k1 k2 hal hcoh hql
      gi_wp2
      refine hRd.mono ?_
      rintro e' W6 (⟨rfl, hR6, hk6, hn6⟩ | ⟨rfl, hx6⟩)
      · have I6 : Hid (W6.heap[W1.heap.size]? = some (.mapIter (some m) cl (seen.push e.born) cl)) := hn6 _ _ s3 (by omega) G1.out rfl
        have M6 : Hid (W6.heap[m]? = some (.map es cl)) := (hk6.2 _ s1 (by omega)).trans G2.out
        clear hk6 hn6
        gi_wp2
        go_roundw
        case rel => exact ⟨seen.push e.born, l ++ [q], I6.out, M6.out, HC.out, hR6⟩
        case measure =>
          rw [iterSeen_of I6.out, HS.out]
          exact left_shrinks es seen e HL.out
      · gi_wp2
        refine bodyPost_ret (results_none rfl _ _ _) rfl ?_
        exact ⟨⟨_, rfl⟩, .inr hx6⟩
end Go.Proofs.Ytkpfnepbnaekoaa.Rd
