/- What follows: what was added is found and dropped again; rings are emptied; two keys in either order. -/
import Derived.Test.YtdgllokedcopjaaSb
namespace Go.Proofs.Ytdgllokedcopjaa
theorem find_with (l : List Ky) (k : Ky) (g : Int) : findS (withS l k) g = if k.1 = g then some k else findS l g := by
  induction l with
  | nil =>
    rw [withS_nil]
    unfold findS
    by_cases h : k.1 = g <;> simp [h]
  | cons x t ih =>
    rw [withS_cons]
    by_cases hx : x.1 < k.1
    · rw [if_pos hx]
      unfold findS at ih ⊢
      rw [List.find?_cons, List.find?_cons]
      by_cases hg : x.1 = g
      · have : ¬ k.1 = g := by omega
        simp [hg, this]
      · simp only [hg, decide_false]
        exact ih
    · rw [if_neg hx]
      unfold findS
      rw [List.find?_cons]
      by_cases h : k.1 = g <;> simp [h]
theorem rises_with_inv (a : Int) (l : List Ky) (k : Ky) (h : rises a (withS l k) = true) : rises a l = true ∧ dropS l k.1 = l := by
  induction l generalizing a with
  | nil => exact ⟨rfl, rfl⟩
  | cons x t ih =>
    rw [withS_cons] at h
    by_cases hx : x.1 < k.1
    · rw [if_pos hx] at h
      obtain ⟨h1, h2, h3⟩ := (rises_cons _ _ _).1 h
      obtain ⟨i1, i2⟩ := ih _ h3
      refine ⟨(rises_cons _ _ _).2 ⟨h1, h2, i1⟩, ?_⟩
      unfold dropS at i2 ⊢
      rw [List.filter_cons, if_pos (by simp; omega), i2]
    · rw [if_neg hx] at h
      obtain ⟨h1, h2, h3⟩ := (rises_cons _ _ _).1 h
      obtain ⟨h4, h5, h6⟩ := (rises_cons _ _ _).1 h3
      refine ⟨(rises_cons _ _ _).2 ⟨by omega, h5, h6⟩, ?_⟩
      unfold dropS
      refine List.filter_eq_self.2 fun y hy => ?_
      obtain ⟨i, hi⟩ := List.mem_iff_getElem?.1 hy
      have := (((rises_iff _ _).1 h3).1 i y hi).2
      simp; omega
theorem drop_with (l : List Ky) (k : Ky) (a : Int) (h : rises a (withS l k) = true) : dropS (withS l k) k.1 = l := by
  have hl := (rises_with_inv a l k h).2
  unfold dropS withS at *
  rw [List.filter_append, List.filter_cons, if_neg (by simp), ← List.filter_append, List.take_append_drop]
  exact hl
/-- What was added is found, and dropped again, and the others stay. -/
theorem back (l : List Ky) (k : Ky) (g : Int) (h : rightS l = true ∧ rightS (withS l k) = true) :
    fkS (withS l k) k.1 = k ∧ feS (withS l k) k.1 = 0 ∧ dlS (withS l k) k.1 = l ∧ (k.1 ≠ g → fkS l g = fkS (withS l k) g ∧ feS l g = feS (withS l k) g) := by
  obtain ⟨h1, h2⟩ := h
  have hf := find_with l k k.1
  rw [if_pos rfl] at hf
  refine ⟨?_, ?_, ?_, fun hg => ?_⟩
  · unfold fkS; rw [if_pos h2, hf]; rfl
  · unfold feS; rw [if_pos h2, hf]; rfl
  · unfold dlS; rw [if_pos ⟨h2, by rw [hf]; rfl⟩]; exact drop_with l k 0 ((right_iff _).1 h2).2
  · have hg2 := find_with l k g
    rw [if_neg hg] at hg2
    unfold fkS feS
    rw [if_pos h1, if_pos h2, if_pos h1, if_pos h2, hg2]
    exact ⟨rfl, rfl⟩
theorem rises_tail (a b : Int) (l : List Ky) (i : Nat) (h : rises a l = true) (hb : ∀ k, (l.drop i)[0]? = some k → b < k.1) : rises b (l.drop i) = true := by
  rw [rises_iff] at h ⊢
  obtain ⟨h1, h2⟩ := h
  refine ⟨fun j k e => ?_, fun j m k n hj e1 e2 => ?_⟩
  · rw [List.getElem?_drop] at e
    refine ⟨(h1 _ k e).1, ?_⟩
    cases j with
    | zero => exact hb k (by rw [List.getElem?_drop]; exact e)
    | succ j =>
      have hl := (List.getElem?_eq_some_iff.1 e).1
      have e0 : (l.drop i)[0]? = some (kat l i) := by rw [List.getElem?_drop]; exact kat_some (by omega)
      have := hb _ e0
      have := h2 i (i + (j + 1)) _ k (by omega) (kat_some (by omega)) e
      omega
  · rw [List.getElem?_drop] at e1 e2
    exact h2 _ _ k n (by omega) e1 e2
/-- One key after the other is dropped. -/
theorem left (l : List Ky) (i : Nat) (hr : rightS l = true) (hi : i < l.length) :
    nvS (l.drop i) = (kat l (l.length - 1)).1 ∧ neS (l.drop i) = 0 ∧ dlS (l.drop i) (kat l i).1 = l.drop (i + 1) ∧ feS (l.drop i) (kat l i).1 = 0 ∧ feS (l.drop (i + 1)) (kat l i).1 = 41 := by
  obtain ⟨h16, hri⟩ := (right_iff l).1 hr
  obtain ⟨ha, hb⟩ := (rises_iff 0 l).1 hri
  have hR : ∀ j, rightS (l.drop j) = true := fun j => (right_iff _).2 ⟨by rw [List.length_drop]; omega, rises_tail 0 0 l j hri (fun k e => by rw [List.getElem?_drop] at e; exact (ha _ k e).2)⟩
  have hd := drop_kat l i hi
  have hgt : ∀ y ∈ l.drop (i + 1), (kat l i).1 < y.1 := fun y hy => by
    obtain ⟨j, hj⟩ := List.mem_iff_getElem?.1 hy
    rw [List.getElem?_drop] at hj
    exact hb i (i + 1 + j) _ y (by omega) (kat_some hi) hj
  have hfs : findS (l.drop i) (kat l i).1 = some (kat l i) := by rw [hd]; unfold findS; simp
  have hfn : findS (l.drop (i + 1)) (kat l i).1 = none := by
    unfold findS
    rw [List.find?_eq_none]
    intro y hy
    have := hgt y hy
    simp; omega
  have hlen : (l.drop i).length = l.length - i := List.length_drop
  refine ⟨?_, ?_, ?_, ?_, ?_⟩
  · unfold nvS
    rw [if_pos (hR i), if_neg (by omega), hlen]
    congr 1
    unfold kat
    rw [List.getElem?_drop]
    congr 2
    omega
  · unfold neS; rw [if_pos (hR i), if_neg (by omega)]
  · unfold dlS
    rw [if_pos ⟨hR i, by rw [hfs]; rfl⟩, hd]
    unfold dropS
    rw [List.filter_cons, if_neg (by simp)]
    refine List.filter_eq_self.2 fun y hy => ?_
    have := hgt y hy
    simp; omega
  · unfold feS; rw [if_pos (hR i), hfs]; rfl
  · unfold feS; rw [if_pos (hR (i + 1)), hfn]; rfl
theorem with_comm (l : List Ky) (j k : Ky) (h : j.1 ≠ k.1) : withS (withS l j) k = withS (withS l k) j := by
  induction l with
  | nil =>
    rw [withS_nil, withS_nil, withS_cons, withS_cons, withS_nil, withS_nil]
    by_cases hjk : j.1 < k.1
    · rw [if_pos hjk, if_neg (by omega)]
    · rw [if_neg hjk, if_pos (by omega)]
  | cons x t ih =>
    rw [withS_cons x t j, withS_cons x t k]
    by_cases h1 : x.1 < j.1 <;> by_cases h2 : x.1 < k.1
    · rw [if_pos h1, if_pos h2, withS_cons, withS_cons, if_pos h1, if_pos h2, ih]
    · rw [if_pos h1, if_neg h2, withS_cons, if_neg h2, withS_cons, if_pos (by omega), withS_cons, if_pos h1]
    · rw [if_neg h1, if_pos h2, withS_cons, if_pos (by omega), withS_cons, if_pos h2, withS_cons, if_neg h1]
    · rw [if_neg h1, if_neg h2]
      by_cases hjk : j.1 < k.1
      · rw [withS_cons j (x :: t) k, if_pos hjk, withS_cons x t k, if_neg h2, withS_cons k (x :: t) j, if_neg (by omega)]
      · rw [withS_cons j (x :: t) k, if_neg hjk, withS_cons k (x :: t) j, if_pos (by omega), withS_cons x t j, if_neg h1]
theorem ae_zero (l : List Ky) (k : Ky) : aeS l k = 0 ↔ rightS l = true ∧ rightS (withS l k) = true := by
  unfold aeS
  split
  · rename_i h; exact ⟨fun _ => h, fun _ => rfl⟩
  · rename_i h; exact ⟨fun e => absurd e (by decide), fun e => absurd e h⟩
theorem al_zero (l : List Ky) (k : Ky) (h : aeS l k = 0) : alS l k = withS l k := by
  have := (ae_zero l k).1 h
  unfold alS
  rw [if_pos this]
/-- Two keys, in either order. -/
theorem order (l : List Ky) (j k : Ky) (h : j.1 ≠ k.1) (h1 : aeS l j = 0) (h2 : aeS (alS l j) k = 0) : aeS l k = 0 ∧ aeS (alS l k) j = 0 ∧ alS (alS l j) k = alS (alS l k) j := by
  have e1 := al_zero l j h1
  have e2 := al_zero (alS l j) k h2
  rw [ae_zero] at h1 h2
  rw [e1] at h2 e2
  have hc := with_comm l j k h
  have hw : rightS (withS (withS l k) j) = true := by rw [← hc]; exact h2.2
  have hk : rightS (withS l k) = true := by
    obtain ⟨g1, g2⟩ := (right_iff _).1 hw
    rw [withS_length] at g1
    exact (right_iff _).2 ⟨by omega, (rises_with_inv 0 _ _ g2).1⟩
  have f1 : aeS l k = 0 := (ae_zero l k).2 ⟨h1.1, hk⟩
  have e3 := al_zero l k f1
  have f2 : aeS (alS l k) j = 0 := by rw [e3]; exact (ae_zero _ _).2 ⟨hk, hw⟩
  refine ⟨f1, f2, ?_⟩
  rw [al_zero _ _ f2, e3, e1, e2, hc]
end Go.Proofs.Ytdgllokedcopjaa
