/- What follows of changes: in plain terms. -/
import Derived.Test.YthneciodobeehaaPTU
import Derived.Test.YthneciodobeehaaPTN
namespace Go.Proofs.Ythneciodobeehaa.Rp
open Go.RowKit Go.Lib
open Go.Proofs.Ythneciodobeehaa.Rc Go.Proofs.Ythneciodobeehaa.Rq
theorem right_mem (l : List Rw) : rightL l = true ↔ l.length ≤ 1000 ∧ (∀ r ∈ l, rightRow r = true) ∧ Rise l := by
  constructor
  · intro h
    refine ⟨((rightL_iff l).1 h).1, fun r hr => ?_, right_rise h⟩
    obtain ⟨i, hi, rfl⟩ := List.getElem_of_mem hr
    have := ((rightAt_iff l i).1 (((rightL_iff l).1 h).2 i hi)).1
    rwa [rat_get hi] at this
  · rintro ⟨h1, h2, h3⟩
    refine (rightL_iff l).2 ⟨h1, fun i hi => (rightAt_iff l i).2 ⟨?_, fun h0 => rise_lt h3 (by omega) hi⟩⟩
    rw [rat_get hi]
    exact h2 _ (List.getElem_mem hi)
theorem its_filter (l : List Rw) (id j : Nat) : its (l.filter (nid id)) j = if j = id then none else its l j := by
  induction l with
  | nil => simp [its]
  | cons x t ih =>
    rw [List.filter_cons]
    by_cases e : x.id = id
    · rw [if_neg (by simp [nid, e]), ih, its_cons]
      by_cases ej : j = id
      · rw [if_pos ej, if_pos ej]
      · rw [if_neg ej, if_neg ej, if_neg (by omega)]
    · rw [if_pos (by simp [nid, e]), its_cons, its_cons, ih]
      by_cases ej : j = id
      · rw [if_pos ej, if_pos ej, if_neg (by omega)]
      · rw [if_neg ej, if_neg ej]
theorem its_rem {l : List Rw} (h : Rise l) (id j : Nat) : its (remR l id) j = if j = id then none else its l j := by
  rw [rem_filter h, its_filter]
theorem its_ins (l : List Rw) (r : Rw) (j : Nat) : its (insR l r) j = if j = r.id then some r else its l j := by
  induction l with
  | nil =>
    show its [r] j = _
    rw [its_cons]
    by_cases e : j = r.id
    · rw [if_pos e.symm, if_pos e]
    · rw [if_neg (Ne.symm e), if_neg e]
  | cons x t ih =>
    by_cases g : x.id < r.id
    · rw [ins_cons_lt g, its_cons, its_cons, ih]
      by_cases e : j = r.id
      · rw [if_pos e, if_pos e, if_neg (by omega)]
      · rw [if_neg e, if_neg e]
    · have h0 : lowTo (x :: t) r.id = 0 := by rw [low_cons, if_pos (by omega)]
      have : insR (x :: t) r = r :: x :: t := by unfold insR; rw [h0]; simp
      rw [this, its_cons]
      by_cases e : j = r.id
      · rw [if_pos e.symm, if_pos e]
      · rw [if_neg (Ne.symm e), if_neg e]
theorem mem_ins {l : List Rw} {r y : Rw} (h : y ∈ insR l r) : y = r ∨ y ∈ l := by
  unfold insR at h
  rcases List.mem_append.1 h with h | h
  · rcases List.mem_append.1 h with h | h
    · exact .inr (List.mem_of_mem_take h)
    · exact .inl (by simpa using h)
  · exact .inr (List.mem_of_mem_drop h)
theorem ins_rise {l : List Rw} (h : Rise l) {r : Rw} (hn : ∀ y ∈ l, y.id ≠ r.id) : Rise (insR l r) := by
  induction l with
  | nil => exact List.pairwise_singleton _ _
  | cons x t ih =>
    have h1 := List.pairwise_cons.1 h
    by_cases g : x.id < r.id
    · rw [ins_cons_lt g]
      refine List.pairwise_cons.2 ⟨fun y hy => ?_, ih h1.2 fun y hy => hn y (List.mem_cons_of_mem _ hy)⟩
      rcases mem_ins hy with rfl | hy
      · exact g
      · exact h1.1 y hy
    · have hx := hn x (List.mem_cons_self ..)
      rw [ins_cons_ge (fun y hy => by rcases List.mem_cons.1 hy with rfl | hy; omega; have := h1.1 y hy; omega)]
      refine List.pairwise_cons.2 ⟨fun y hy => ?_, h⟩
      rcases List.mem_cons.1 hy with rfl | hy
      · omega
      · have := h1.1 y hy; omega
theorem mem_rem {l : List Rw} (h : Rise l) {id : Nat} {y : Rw} (hy : y ∈ remR l id) : y ∈ l ∧ y.id ≠ id := by
  rw [rem_filter h] at hy
  have := List.mem_filter.1 hy
  exact ⟨this.1, by simpa [nid] using this.2⟩
theorem rem_right {l : List Rw} (h : rightL l = true) (id : Nat) : rightL (remR l id) = true := by
  obtain ⟨h1, h2, h3⟩ := (right_mem l).1 h
  exact (right_mem _).2 ⟨Nat.le_trans (rem_len l id) h1, fun r hr => h2 r (mem_rem h3 hr).1, rem_rise h3 id⟩
theorem its_mem {l : List Rw} {id : Nat} {s : Rw} (h : its l id = some s) : s ∈ l := List.mem_of_find?_eq_some h
/-- The rows behind a change that can be done. -/
theorem ap_ok {l : List Rw} {c : Ch} (h : apE l c = 0) : rightL l = true ∧ chkO c = 0 ∧ (c.k = 1 ∨ (its l c.r.id).isSome = true) ∧ (c.k = 1 ∨ c.k = 2 ∨ c.k = 3) ∧ (c.k = 3 ∨ (remR l c.r.id).length ≠ 1000) := by
  unfold apE at h
  cases hL : rightL l with
  | false => rw [hL] at h; simp at h
  | true =>
    rw [hL, if_pos rfl] at h
    by_cases hc : chkO c = 0
    · rw [if_pos hc] at h
      have hk : c.k = 1 ∨ c.k = 2 ∨ c.k = 3 := by
        unfold chkO at hc
        by_cases k1 : c.k = 1; · exact .inl k1
        by_cases k2 : c.k = 2; · exact .inr (.inl k2)
        by_cases k3 : c.k = 3; · exact .inr (.inr k3)
        rw [if_neg k1, if_neg k2, if_neg k3] at hc
        cases hc
      by_cases h1 : c.k ≠ 1 ∧ (its l c.r.id).isSome = false
      · rw [if_pos h1] at h; cases h
      · rw [if_neg h1] at h
        have hx : c.k = 1 ∨ (its l c.r.id).isSome = true := by
          by_cases k1 : c.k = 1
          · exact .inl k1
          · right
            cases hs : (its l c.r.id).isSome
            · exact absurd ⟨k1, hs⟩ h1
            · rfl
        by_cases h2 : c.k ≠ 3 ∧ (remR l c.r.id).length = 1000
        · rw [if_pos h2] at h; cases h
        · refine ⟨rfl, hc, hx, hk, ?_⟩
          by_cases k3 : c.k = 3
          · exact .inl k3
          · exact .inr fun e => h2 ⟨k3, e⟩
    · rw [if_neg hc] at h
      exact absurd h hc
theorem ap_zero {l : List Rw} {c : Ch} (h1 : rightL l = true) (h2 : chkO c = 0) (h3 : c.k = 1 ∨ (its l c.r.id).isSome = true) (h4 : c.k = 3 ∨ (remR l c.r.id).length ≠ 1000) : apE l c = 0 := by
  unfold apE
  rw [h1, if_pos rfl, if_pos h2, if_neg (by rintro ⟨a, b⟩; rcases h3 with h | h; exact a h; rw [h] at b; cases b), if_neg (by rintro ⟨a, b⟩; rcases h4 with h | h; exact a h; exact h b)]
/-- The row that a change puts there. -/
def putR (l : List Rw) (c : Ch) : Rw := newR ((its l c.r.id).getD zr) c
theorem put_id {l : List Rw} {c : Ch} (h : c.k = 1 ∨ (its l c.r.id).isSome = true) : (putR l c).id = c.r.id := by
  unfold putR newR
  by_cases k1 : c.k = 1
  · rw [if_pos k1]
  · rw [if_neg k1]
    rcases h with h | h
    · exact absurd h k1
    · obtain ⟨s, hs⟩ := Option.isSome_iff_exists.1 h
      rw [hs]
      show s.id = _
      exact its_id hs
theorem ap_list {l : List Rw} {c : Ch} (h : apE l c = 0) : apL l c = if c.k = 3 then remR l c.r.id else insR (remR l c.r.id) (putR l c) := by
  unfold apL putR
  rw [if_pos h]
theorem put_right {l : List Rw} {c : Ch} (h : apE l c = 0) (h3 : c.k ≠ 3) : rightRow (putR l c) = true := by
  obtain ⟨hL, hc, hx, hk, -⟩ := ap_ok h
  unfold putR newR
  by_cases k1 : c.k = 1
  · rw [if_pos k1]
    unfold chkO at hc
    rw [if_pos k1] at hc
    cases hr : rightRow c.r
    · rw [hr] at hc; cases hc
    · rfl
  · have k2 : c.k = 2 := by omega
    rw [if_neg k1]
    unfold chkO at hc
    rw [if_neg k1, if_pos k2] at hc
    have ho : onS c.r.x c.r.y = true := by
      cases ho : onS c.r.x c.r.y
      · rw [ho] at hc; cases hc
      · rfl
    obtain ⟨s, hs⟩ := Option.isSome_iff_exists.1 (hx.resolve_left k1)
    rw [hs, rr_is, ho]
    have := ((right_mem l).1 hL).2.1 s (its_mem hs)
    rw [rr_is, Bool.and_eq_true] at this
    simpa using this.2
theorem ap_right {l : List Rw} {c : Ch} (h : apE l c = 0) : rightL (apL l c) = true := by
  obtain ⟨hL, hc, hx, hk, hm⟩ := ap_ok h
  obtain ⟨h1, h2, h3⟩ := (right_mem l).1 hL
  rw [ap_list h]
  by_cases k3 : c.k = 3
  · rw [if_pos k3]; exact rem_right hL _
  · rw [if_neg k3]
    have hl := rem_len l c.r.id
    have hne := hm.resolve_left k3
    refine (right_mem _).2 ⟨by rw [ins_len]; omega, fun r hr => ?_, ins_rise (rem_rise h3 _) fun y hy => ?_⟩
    · rcases mem_ins hr with rfl | hr
      · exact put_right h k3
      · exact h2 _ (mem_rem h3 hr).1
    · rw [put_id hx]; exact (mem_rem h3 hy).2
theorem ap_its {l : List Rw} {c : Ch} (h : apE l c = 0) (j : Nat) : its (apL l c) j = if j = c.r.id then (if c.k = 3 then none else some (putR l c)) else its l j := by
  obtain ⟨hL, hc, hx, hk, hm⟩ := ap_ok h
  have h3 := right_rise hL
  rw [ap_list h]
  by_cases k3 : c.k = 3
  · rw [if_pos k3, if_pos k3, its_rem h3]
  · rw [if_neg k3, if_neg k3, its_ins, its_rem h3, put_id hx]
    by_cases e : j = c.r.id
    · rw [if_pos e, if_pos e]
    · rw [if_neg e, if_neg e, if_neg e]
theorem rem_lt {l : List Rw} (h : Rise l) {id : Nat} (hs : (its l id).isSome = true) : (remR l id).length + 1 = l.length := by
  unfold remR
  rw [if_pos hs]
  obtain ⟨s, hs⟩ := Option.isSome_iff_exists.1 hs
  have := (its_at h hs).1
  rw [List.length_eraseIdx, if_pos this]
  omega
theorem rem_same {l : List Rw} {id : Nat} (hs : (its l id).isSome = false) : remR l id = l := by
  unfold remR
  rw [if_neg (by rw [hs]; decide)]
theorem ap_len {l : List Rw} {c : Ch} (h : apE l c = 0) : (apL l c).length = if c.k = 3 then l.length - 1 else if (its l c.r.id).isSome = true then l.length else l.length + 1 := by
  obtain ⟨hL, hc, hx, hk, hm⟩ := ap_ok h
  have h3 := right_rise hL
  rw [ap_list h]
  by_cases k3 : c.k = 3
  · rw [if_pos k3, if_pos k3]
    have := rem_lt h3 (hx.resolve_left (by omega))
    omega
  · rw [if_neg k3, if_neg k3, ins_len]
    cases hs : (its l c.r.id).isSome
    · rw [rem_same hs]; rfl
    · have := rem_lt h3 hs
      rw [if_pos rfl]
      omega
theorem rise_ext : ∀ {l m : List Rw}, Rise l → Rise m → (∀ j, its l j = its m j) → l = m
  | [], [], _, _, _ => rfl
  | [], y :: u, _, _, h => by have := h y.id; rw [its_cons, if_pos rfl] at this; simp [its] at this
  | x :: t, [], _, _, h => by have := h x.id; rw [its_cons, if_pos rfl] at this; simp [its] at this
  | x :: t, y :: u, hl, hm, h => by
    have h1 := List.pairwise_cons.1 hl
    have h2 := List.pairwise_cons.1 hm
    have hx := h x.id
    have hy := h y.id
    rw [its_cons, if_pos rfl, its_cons] at hx
    rw [its_cons, its_cons, if_pos (rfl : y.id = y.id)] at hy
    have e : x = y := by
      by_cases e : y.id = x.id
      · rw [if_pos e] at hx; exact Option.some.inj hx
      · rw [if_neg e] at hx
        rw [if_neg (Ne.symm e)] at hy
        have a := h2.1 _ (its_mem hx.symm)
        have b := h1.1 _ (its_mem hy)
        omega
    subst e
    have ht : t = u := rise_ext h1.2 h2.2 fun j => by
      have := h j
      rw [its_cons, its_cons] at this
      by_cases e : x.id = j
      · rw [its_above (fun y hy => by have := h1.1 y hy; omega), its_above (fun y hy => by have := h2.1 y hy; omega)]
      · rwa [if_neg e, if_neg e] at this
    rw [ht]
theorem swaps_eq {l : List Rw} {o p : Ch} (hlen : l.length ≤ 60) (hid : o.r.id ≠ p.r.id) (h1 : apE l o = 0) (h2 : apE (apL l o) p = 0) :
    apE l p = 0 ∧ apE (apL l p) o = 0 ∧ apL (apL l o) p = apL (apL l p) o := by
  have a := ap_ok h1
  have b := ap_ok h2
  have hio : its (apL l o) p.r.id = its l p.r.id := by rw [ap_its h1, if_neg (Ne.symm hid)]
  rw [hio] at b
  have g : apE l p = 0 := ap_zero a.1 b.2.1 b.2.2.1 (.inr (by have := rem_len l p.r.id; omega))
  have hip : its (apL l p) o.r.id = its l o.r.id := by rw [ap_its g, if_neg hid]
  have hpl := ap_len g
  have h : apE (apL l p) o = 0 := ap_zero (ap_right g) a.2.1 (by rw [hip]; exact a.2.2.1) (.inr (by have := rem_len (apL l p) o.r.id; rw [hpl] at this; revert this; split; omega; split <;> omega))
  refine ⟨g, h, rise_ext (right_rise (ap_right h2)) (right_rise (ap_right h)) fun j => ?_⟩
  rw [ap_its h2, ap_its h1, ap_its h, ap_its g]
  have e1 : putR (apL l o) p = putR l p := by unfold putR; rw [hio]
  have e2 : putR (apL l p) o = putR l o := by unfold putR; rw [hip]
  rw [e1, e2]
  by_cases c1 : j = p.r.id
  · have c2 : ¬ j = o.r.id := by omega
    simp only [if_pos c1, if_neg c2]
  · simp only [if_neg c1]
/-- Changes of unlike ids, in either order. -/
theorem swaps_plain {l : List Rw} {o p : Ch} (hlen : l.length ≤ 60) (hid : o.r.id ≠ p.r.id) :
    ((apE l o ≠ 0 ∨ apE (apL l o) p ≠ 0) ∧ (apE l p ≠ 0 ∨ apE (apL l p) o ≠ 0)) ∨ (apE l o = 0 ∧ apE (apL l o) p = 0 ∧ apE l p = 0 ∧ apE (apL l p) o = 0 ∧ eqL eqR (apL (apL l o) p) (apL (apL l p) o) = true) := by
  by_cases h : apE l o = 0 ∧ apE (apL l o) p = 0
  · obtain ⟨g, k, e⟩ := swaps_eq hlen hid h.1 h.2
    exact .inr ⟨h.1, h.2, g, k, (eqL_iff eqR eqR_iff _ _).2 e⟩
  · by_cases h' : apE l p = 0 ∧ apE (apL l p) o = 0
    · obtain ⟨g, k, e⟩ := swaps_eq hlen (Ne.symm hid) h'.1 h'.2
      exact absurd ⟨g, k⟩ h
    · refine .inl ⟨?_, ?_⟩
      · by_cases a : apE l o = 0
        · exact .inr fun b => h ⟨a, b⟩
        · exact .inl a
      · by_cases a : apE l p = 0
        · exact .inr fun b => h' ⟨a, b⟩
        · exact .inl a
/-- A row that was put, and deleted again. -/
theorem keeps_plain {l : List Rw} (hlen : l.length ≤ 60) (r : Rw) (id : Nat) :
    (apE l ⟨1, r⟩ ≠ 0 ∧ (rightL l = false ∨ rightRow r = false)) ∨
    (apE l ⟨1, r⟩ = 0 ∧ getV (apL l ⟨1, r⟩) r.id = r ∧ getE (apL l ⟨1, r⟩) r.id = 0 ∧ apE (apL l ⟨1, r⟩) ⟨3, ⟨r.id, 0, 0, ⟨#[]⟩⟩⟩ = 0 ∧ getE (apL (apL l ⟨1, r⟩) ⟨3, ⟨r.id, 0, 0, ⟨#[]⟩⟩⟩) r.id = 100 ∧
      rightL (apL l ⟨1, r⟩) = true ∧ rightL (apL (apL l ⟨1, r⟩) ⟨3, ⟨r.id, 0, 0, ⟨#[]⟩⟩⟩) = true ∧
      (id = r.id ∨ id ≠ r.id ∧ getV (apL l ⟨1, r⟩) id = getV l id ∧ getV (apL (apL l ⟨1, r⟩) ⟨3, ⟨r.id, 0, 0, ⟨#[]⟩⟩⟩) id = getV l id ∧ getE (apL l ⟨1, r⟩) id = getE l id ∧ getE (apL (apL l ⟨1, r⟩) ⟨3, ⟨r.id, 0, 0, ⟨#[]⟩⟩⟩) id = getE l id)) := by
  by_cases h : apE l ⟨1, r⟩ = 0
  · right
    have hL := (ap_ok h).1
    have hm := ap_right h
    have hi := ap_its h
    generalize hM : apL l ⟨1, r⟩ = m at *
    have hput : putR l ⟨1, r⟩ = r := by simp [putR, newR]
    simp only [hput] at hi
    have hir : its m r.id = some r := by rw [hi]; simp
    have h2 : apE m ⟨3, ⟨r.id, 0, 0, ⟨#[]⟩⟩⟩ = 0 := ap_zero hm (by simp [chkO]) (.inr (by simp only; rw [hir]; rfl)) (.inl rfl)
    have hn := ap_right h2
    have hi2 := ap_its h2
    generalize hN : apL m ⟨3, ⟨r.id, 0, 0, ⟨#[]⟩⟩⟩ = n at *
    simp only [if_true] at hi2
    have hir2 : its n r.id = none := by rw [hi2]; simp
    refine ⟨h, ?_, ?_, h2, ?_, hm, hn, ?_⟩
    · unfold getV; rw [if_pos hm, hir]; rfl
    · unfold getE; rw [if_pos hm, hir]; rfl
    · unfold getE; rw [if_pos hn, hir2]; rfl
    · by_cases e : id = r.id
      · exact .inl e
      · have e1 : its m id = its l id := by rw [hi, if_neg e]
        have e2 : its n id = its l id := by rw [hi2, if_neg e, e1]
        refine .inr ⟨e, ?_, ?_, ?_, ?_⟩
        · unfold getV; rw [if_pos hm, if_pos hL, e1]
        · unfold getV; rw [if_pos hn, if_pos hL, e2]
        · unfold getE; rw [if_pos hm, if_pos hL, e1]
        · unfold getE; rw [if_pos hn, if_pos hL, e2]
  · left
    refine ⟨h, ?_⟩
    cases hL : rightL l
    · exact .inl rfl
    · cases hR : rightRow r
      · exact .inr rfl
      · exact absurd (ap_zero (c := ⟨1, r⟩) hL (by simp [chkO, hR]) (.inl rfl) (.inr (by have := rem_len l r.id; show (remR l r.id).length ≠ 1000; omega))) h
/-- A row that is moved. -/
theorem moves_plain {l : List Rw} (hlen : l.length ≤ 60) (id x y : Nat) (v : ByteArray) :
    (getE l id ≠ 0 ∧ apE l ⟨2, ⟨id, x, y, v⟩⟩ ≠ 0) ∨
    (getE l id = 0 ∧ onS x y = false ∧ apE l ⟨2, ⟨id, x, y, v⟩⟩ = 80 ∧ (apL l ⟨2, ⟨id, x, y, v⟩⟩).length = 0) ∨
    (getE l id = 0 ∧ onS x y = true ∧ apE l ⟨2, ⟨id, x, y, v⟩⟩ = 0 ∧ getE (apL l ⟨2, ⟨id, x, y, v⟩⟩) id = 0 ∧ getV (apL l ⟨2, ⟨id, x, y, v⟩⟩) id = ⟨(getV l id).id, x, y, (getV l id).v⟩ ∧ (apL l ⟨2, ⟨id, x, y, v⟩⟩).length = l.length) := by
  by_cases g : getE l id = 0
  · right
    have hL : rightL l = true := by
      cases hL : rightL l
      · unfold getE at g; rw [hL] at g; cases g
      · rfl
    have hs : (its l id).isSome = true := by
      cases hs : (its l id).isSome
      · unfold getE at g; rw [hL, if_pos rfl, hs] at g; cases g
      · rfl
    cases ho : onS x y
    · left
      have hc : chkO ⟨2, ⟨id, x, y, v⟩⟩ = 80 := by simp [chkO, ho]
      have hE : apE l ⟨2, ⟨id, x, y, v⟩⟩ = 80 := by unfold apE; rw [if_pos hL, hc, if_neg (by decide)]
      refine ⟨g, rfl, hE, ?_⟩
      unfold apL
      rw [hE, if_neg (by decide)]
      rfl
    · right
      have hc : chkO ⟨2, ⟨id, x, y, v⟩⟩ = 0 := by simp [chkO, ho]
      have hE : apE l ⟨2, ⟨id, x, y, v⟩⟩ = 0 := ap_zero hL hc (.inr hs) (.inr (by have := rem_len l id; show (remR l id).length ≠ 1000; omega))
      have hm := ap_right hE
      have hi : its (apL l ⟨2, ⟨id, x, y, v⟩⟩) id = some (putR l ⟨2, ⟨id, x, y, v⟩⟩) := by rw [ap_its hE, if_pos rfl, if_neg (by simp)]
      have hl := ap_len hE
      rw [if_neg (by simp), if_pos hs] at hl
      refine ⟨g, rfl, hE, ?_, ?_, hl⟩
      · unfold getE; rw [if_pos hm, hi]; rfl
      · unfold getV; rw [if_pos hm, if_pos hL, hi]
        simp [putR, newR]
  · left
    refine ⟨g, fun h => g ?_⟩
    obtain ⟨hL, -, hx, -⟩ := ap_ok h
    unfold getE
    rw [if_pos hL, if_pos (hx.resolve_left (by simp))]
end Go.Proofs.Ythneciodobeehaa.Rp
