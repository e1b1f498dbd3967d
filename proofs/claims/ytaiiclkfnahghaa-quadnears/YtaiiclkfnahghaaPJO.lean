/- The nearest rows, one by one, in plain terms. -/
import Derived.Test.YtaiiclkfnahghaaPHG
namespace Go.Proofs.Ytaiiclkfnahghaa.Rq
open Go.RowKit Go.Lib Go.Shelf
open Go.Proofs.Ytaiiclkfnahghaa.Rc
set_option maxRecDepth 100000 in
theorem rise_nodup {l : List Rw} (h : Rise l) : l.Nodup := h.imp fun h e => by rw [e] at h; exact Nat.lt_irrefl _ h
/-- Which rows were taken: those of a beginning of the sorted ones. -/
def Tkn (l S : List Rw) (t : Nat) (tk : Nat → Bool) : Prop := ∀ i, i < l.length → (tk i = true ↔ rat l i ∈ S.take t)
set_option maxRecDepth 100000 in
theorem tkn_zero (l S : List Rw) : Tkn l S 0 fun _ => false := fun i _ => by simp
set_option maxRecDepth 100000 in
theorem tkn_some {l S : List Rw} {t : Nat} {tk : Nat → Bool} (hp : S.Perm l) (hl : Rise l) (h : Tkn l S t tk) (ht : t < l.length) : ∃ j, j < l.length ∧ tk j = false ∧ rat l j = S[t]'(by rw [hp.length_eq]; exact ht) := by
  have htS : t < S.length := by rw [hp.length_eq]; exact ht
  obtain ⟨j, hj, e⟩ := List.getElem_of_mem (hp.mem_iff.1 (List.getElem_mem htS))
  refine ⟨j, hj, ?_, by rw [rat_get hj, e]⟩
  cases c : tk j
  · rfl
  · have hm := (h j hj).1 c
    rw [rat_get hj, e] at hm
    have hnd : S.Nodup := hp.nodup_iff.2 (rise_nodup hl)
    rw [← List.take_append_drop t S, List.nodup_append] at hnd
    exact (hnd.2.2 _ hm _ (List.mem_drop_iff_getElem.2 ⟨0, by omega, by simp⟩) rfl).elim
set_option maxRecDepth 100000 in
theorem next_best {l : List Rw} {x y M t b : Nat} {tk : Nat → Bool} (hl : Rise l) (hM : ∀ r ∈ l, r.id < M) (h : Tkn l (nsort x y M l) t tk) (ht : t < l.length) (hb : b < l.length) (hbt : tk b = false)
    (hmin : ∀ j, j < l.length → tk j = false → nkey x y M (rat l b) ≤ nkey x y M (rat l j)) : (nsort x y M l).take (t + 1) = (nsort x y M l).take t ++ [rat l b] ∧ Tkn l (nsort x y M l) (t + 1) (fun i => if i = b then true else tk i) := by
  have hp := nsort_perm x y M l
  have hs := nsort_sorted x y M l
  obtain ⟨S, hS⟩ : ∃ S, nsort x y M l = S := ⟨_, rfl⟩
  rw [hS] at hp hs h ⊢
  have htS : t < S.length := by rw [hp.length_eq]; exact ht
  obtain ⟨j, hj, hjt, hje⟩ := tkn_some hp hl h ht
  have e : rat l b = S[t] := by
    refine nkey_inj hl hM (rat_mem hb) (hp.mem_iff.1 (List.getElem_mem htS)) (x := x) (y := y) (by rw [← hje]; exact hmin j hj hjt) ?_
    obtain ⟨i, hi, hie⟩ := List.getElem_of_mem (hp.mem_iff.2 (rat_mem hb))
    have hit : ¬ i < t := fun c => by
      have : rat l b ∈ S.take t := by rw [← hie]; exact List.mem_take_iff_getElem.2 ⟨i, by omega, rfl⟩
      rw [(h b hb).2 this] at hbt
      cases hbt
    by_cases c : i = t
    · subst c; rw [hie]; exact Nat.le_refl _
    · have := List.pairwise_iff_getElem.1 hs t i htS hi (by omega)
      rw [← hie]; exact this
  have e2 : S.take (t + 1) = S.take t ++ [rat l b] := by rw [List.take_add_one, List.getElem?_eq_getElem htS, e]; rfl
  refine ⟨e2, fun i hi => ?_⟩
  rw [e2, List.mem_append]
  by_cases c : i = b
  · subst c; simp
  · simp only [c, if_false]
    rw [h i hi]
    constructor
    · exact fun h => .inl h
    · rintro (h | h)
      · exact h
      · have hh : rat l i = rat l b := by simpa using h
        rw [rat_get hi, rat_get hb] at hh
        have hp2 := List.pairwise_iff_getElem.1 hl
        rcases Nat.lt_trichotomy i b with c1 | c1 | c1
        · have := hp2 i b hi hb c1
          rw [hh] at this
          omega
        · exact absurd c1 c
        · have := hp2 b i hb hi c1
          rw [hh] at this
          omega
/-- The nearest of the rows gone through that were not taken. -/
def Best (l : List Rw) (x y M : Nat) (tk : Nat → Bool) (i : Nat) (z : Int) : Prop :=
  (z = -1 ∧ ∀ j, j < i → tk j = true) ∨ ∃ b : Nat, z = (b : Int) ∧ b < i ∧ tk b = false ∧ ∀ j, j < i → tk j = false → nkey x y M (rat l b) ≤ nkey x y M (rat l j)
set_option maxRecDepth 100000 in
theorem best_skip {l : List Rw} {x y M : Nat} {tk : Nat → Bool} {i : Nat} {z : Int} (h : Best l x y M tk i z) (hi : tk i = true) : Best l x y M tk (i + 1) z := by
  rcases h with ⟨h1, h2⟩ | ⟨b, h1, h2, h3, h4⟩
  · refine .inl ⟨h1, fun j hj => ?_⟩
    by_cases c : j = i
    · rw [c]; exact hi
    · exact h2 j (by omega)
  · refine .inr ⟨b, h1, by omega, h3, fun j hj hjt => ?_⟩
    by_cases c : j = i
    · rw [c, hi] at hjt; cases hjt
    · exact h4 j (by omega) hjt
set_option maxRecDepth 100000 in
theorem best_first {l : List Rw} {x y M : Nat} {tk : Nat → Bool} {i : Nat} {z : Int} (h : Best l x y M tk i z) (hz : z < 0) (hi : tk i = false) : Best l x y M tk (i + 1) (i : Int) := by
  rcases h with ⟨h1, h2⟩ | ⟨b, h1, h2, h3, h4⟩
  · refine .inr ⟨i, rfl, by omega, hi, fun j hj hjt => ?_⟩
    by_cases c : j = i
    · rw [c]; exact Nat.le_refl _
    · rw [h2 j (by omega)] at hjt; cases hjt
  · omega
set_option maxRecDepth 100000 in
theorem best_less {l : List Rw} {M : Nat} (hM : ∀ r ∈ l, r.id < M) {x y : Nat} {tk : Nat → Bool} {i b : Nat} (hil : i < l.length) (h : Best l x y M tk i (b : Int)) (hi : tk i = false) (hd : Rq.dist (rat l i).x (rat l i).y x y < Rq.dist (rat l b).x (rat l b).y x y) : Best l x y M tk (i + 1) (i : Int) := by
  rcases h with ⟨h1, h2⟩ | ⟨b', h1, h2, h3, h4⟩
  · omega
  · obtain rfl : b = b' := by omega
    have hk : nkey x y M (rat l i) < nkey x y M (rat l b) := (key_lt (hM _ (rat_mem hil)) (hM _ (rat_mem (by omega)))).2 (.inl hd)
    refine .inr ⟨i, rfl, by omega, hi, fun j hj hjt => ?_⟩
    by_cases c : j = i
    · rw [c]; exact Nat.le_refl _
    · have := h4 j (by omega) hjt
      omega
set_option maxRecDepth 100000 in
theorem best_keep {l : List Rw} {M : Nat} (hl : Rise l) (hM : ∀ r ∈ l, r.id < M) {x y : Nat} {tk : Nat → Bool} {i b : Nat} (hil : i < l.length) (h : Best l x y M tk i (b : Int)) (hd : ¬ Rq.dist (rat l i).x (rat l i).y x y < Rq.dist (rat l b).x (rat l b).y x y) : Best l x y M tk (i + 1) (b : Int) := by
  rcases h with ⟨h1, h2⟩ | ⟨b', h1, h2, h3, h4⟩
  · omega
  · obtain rfl : b = b' := by omega
    have hid : (rat l b).id < (rat l i).id := by
      rw [rat_get hil, rat_get (show b < l.length by omega)]
      exact List.pairwise_iff_getElem.1 hl b i (by omega) hil h2
    have hk : nkey x y M (rat l b) < nkey x y M (rat l i) := (key_lt (hM _ (rat_mem (by omega))) (hM _ (rat_mem hil))).2 (by
      by_cases c : Rq.dist (rat l b).x (rat l b).y x y < Rq.dist (rat l i).x (rat l i).y x y
      · exact .inl c
      · exact .inr ⟨by omega, hid⟩)
    refine .inr ⟨b, rfl, by omega, h3, fun j hj hjt => ?_⟩
    by_cases c : j = i
    · rw [c]; exact Nat.le_of_lt hk
    · exact h4 j (by omega) hjt
/-- A row of truth values in a block of its own. -/
def Tk (w : World) (g n : Nat) (tk : Nat → Bool) : Prop := ∃ cs, w.heap[g]? = some (.cells cs 4 (0, 0)) ∧ cs.size = n ∧ ∀ i, i < n → cs[i]? = some (.bool (tk i))
set_option maxRecDepth 100000 in
theorem Tk.same {w w' : World} {g n : Nat} {tk : Nat → Bool} (h : Tk w g n tk) (e : w'.heap[g]? = w.heap[g]?) : Tk w' g n tk := by
  obtain ⟨cs, h1, h2⟩ := h
  exact ⟨cs, e.trans h1, h2⟩
set_option maxRecDepth 100000 in
theorem Tk.lt {w : World} {g n : Nat} {tk : Nat → Bool} (h : Tk w g n tk) : g < w.heap.size := by
  obtain ⟨cs, h1, h2⟩ := h
  exact (Array.getElem?_eq_some_iff.1 h1).1
set_option maxRecDepth 100000 in
theorem Tk.cell {w : World} {g n : Nat} {tk : Nat → Bool} (h : Tk w g n tk) {i : Nat} (hi : i < n) : w.cell? ⟨g, i, none⟩ = some (.bool (tk i)) ∧ w.frozen? ⟨g, i, none⟩ = false := by
  obtain ⟨cs, h1, h2, h3⟩ := h
  exact ⟨by rw [cell_of_row _ _ _ _ _ _ h1]; exact h3 i hi, frozen_of_row w _ _ _ _ h1⟩
set_option maxRecDepth 100000 in
theorem Tk.put {w : World} {g n : Nat} {tk : Nat → Bool} (h : Tk w g n tk) {b : Nat} (hb : b < n) : Tk (w.setCell ⟨g, b, none⟩ (.bool true)) g n (fun i => if i = b then true else tk i) := by
  obtain ⟨cs, h1, h2, h3⟩ := h
  refine ⟨_, heap_setCell_same w g b _ _ (.bool true) h1, by simpa using h2, fun i hi => ?_⟩
  rw [Array.getElem?_setIfInBounds]
  by_cases c : b = i
  · subst c; simp [h2, hb]
  · rw [if_neg c, h3 i hi]
    simp only [if_neg (show ¬ i = b from fun e => c e.symm)]
set_option maxRecDepth 100000 in
theorem infoBool : (Try.prog.info? 4).map (fun i => (i.zero, i.size, i.bytes)) = some (some (.bool false), 1, 1) := by kernel_rfl
set_option maxRecDepth 100000 in
theorem make_bools (n : Nat) (hn : n ≤ 1000) (w : World) : (Instr.makeSlice 84 (.int .i64 (n : Int)) (.int .i64 (n : Int))).run Try.prog w = .ok (.slice (some ⟨w.heap.size, 0, none⟩) n n) (w.alloc (.cells (madeCells #[.bool false] n) 4)) := by
  obtain ⟨i, hi, hz, hs, hb⟩ := info_parts infoBool
  have hr := run_make (P := Try.prog) w 84 4 i _ Try.underlying84 hi hz .i64 .i64 n n (by omega) (Int.le_refl _) (by rw [hb]; omega) (by omega)
  simp only [Int.toNat_natCast, hs, Nat.mul_one] at hr
  exact hr
set_option maxRecDepth 100000 in
theorem tk_made (w : World) (n : Nat) : Tk (w.alloc (.cells (madeCells #[.bool false] n) 4)) w.heap.size n fun _ => false :=
  ⟨_, heap_alloc_new w _, by simp [madeCells], fun i hi => by simp [madeCells, hi, Nat.mod_one]⟩
end Go.Proofs.Ytaiiclkfnahghaa.Rq
