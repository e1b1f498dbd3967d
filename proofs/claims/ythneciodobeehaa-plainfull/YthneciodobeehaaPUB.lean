/- Batches that are cut, and a thousand rows: in plain terms. -/
import Derived.Test.YthneciodobeehaaPUA
namespace Go.Proofs.Ythneciodobeehaa.Rp
open Go.RowKit Go.Lib
open Go.Proofs.Ythneciodobeehaa.Rc Go.Proofs.Ythneciodobeehaa.Rq
theorem bt_cases {l : List Rw} {cs : List Ch} (h : rightL l = true) (h1 : 1 ≤ cs.length) (h2 : cs.length ≤ 64) :
    (∃ i, i < cs.length ∧ stE l cs i ≠ 0 ∧ (∀ j, j < i → stE l cs j = 0) ∧ btE l cs = stE l cs i ∧ btA l cs = i ∧ btL l cs = []) ∨
    ((∀ j, j < cs.length → stE l cs j = 0) ∧ btE l cs = 0 ∧ btA l cs = 0 ∧ btL l cs = stL l cs cs.length) := by
  have hn : ¬ (cs.length < 1 ∨ 64 < cs.length) := by omega
  cases hf : fb l cs cs.length with
  | none =>
    right
    refine ⟨fun j hj => ?_, ?_, ?_, ?_⟩
    · unfold fb at hf
      rw [List.find?_eq_none] at hf
      have := hf j (by simpa using hj)
      simpa using this
    · unfold btE; rw [if_pos h, if_neg hn, hf]
    · unfold btA; rw [if_pos h, if_neg hn, hf]
    · unfold btL; rw [if_pos h, if_neg hn, hf]
  | some i =>
    left
    have hf' := hf
    unfold fb at hf'
    rw [List.find?_eq_some_iff_getElem] at hf'
    obtain ⟨e1, k, hk, hk2, hk3⟩ := hf'
    simp only [List.length_range] at hk
    simp only [List.getElem_range] at hk2
    subst hk2
    refine ⟨k, hk, by simpa using e1, fun j hj => ?_, ?_, ?_, ?_⟩
    · have := hk3 j hj
      simpa using this
    · unfold btE; rw [if_pos h, if_neg hn, hf]
    · unfold btA; rw [if_pos h, if_neg hn, hf]
    · unfold btL; rw [if_pos h, if_neg hn, hf]
theorem cat_take {cs : List Ch} {i n : Nat} (h : i < n) : cat (cs.take n) i = cat cs i := by
  unfold cat
  rw [List.getElem?_take, if_pos h]
theorem cat_drop (cs : List Ch) (i n : Nat) : cat (cs.drop n) i = cat cs (n + i) := by
  unfold cat
  rw [List.getElem?_drop]
theorem stL_take (l : List Rw) (cs : List Ch) (n : Nat) : ∀ i, i ≤ n → stL l (cs.take n) i = stL l cs i
  | 0, _ => rfl
  | i + 1, h => by
    unfold stL
    rw [stL_take l cs n i (by omega), cat_take (by omega)]
theorem stE_take (l : List Rw) (cs : List Ch) {n i : Nat} (h : i < n) : stE l (cs.take n) i = stE l cs i := by
  unfold stE
  rw [stL_take l cs n i (by omega), cat_take h]
theorem stL_drop (l : List Rw) (cs : List Ch) (n : Nat) : ∀ i, stL (stL l cs n) (cs.drop n) i = stL l cs (n + i)
  | 0 => rfl
  | i + 1 => by
    show apL (stL (stL l cs n) (cs.drop n) i) _ = apL (stL l cs (n + i)) _
    rw [stL_drop l cs n i, cat_drop]
    rfl
theorem stE_drop (l : List Rw) (cs : List Ch) (n i : Nat) : stE (stL l cs n) (cs.drop n) i = stE l cs (n + i) := by
  unfold stE
  rw [stL_drop, cat_drop]
theorem stL_right {l : List Rw} {cs : List Ch} (h : rightL l = true) : ∀ n, (∀ j, j < n → stE l cs j = 0) → rightL (stL l cs n) = true
  | 0, _ => h
  | n + 1, h2 => ap_right (h2 n (by omega))
/-- Changes in two batches. -/
theorem cuts_plain {l : List Rw} {cs : List Ch} {n : Nat} (h : rightL l = true) (h1 : 1 ≤ n) (h2 : n < cs.length) (h3 : cs.length ≤ 64) :
    (btE l (cs.take n) ≠ 0 ∧ btE l cs = btE l (cs.take n) ∧ btA l cs = btA l (cs.take n) ∧ (btL l cs).length = 0) ∨
    (btE l (cs.take n) = 0 ∧ btE (btL l (cs.take n)) (cs.drop n) ≠ 0 ∧ btE l cs = btE (btL l (cs.take n)) (cs.drop n) ∧ btA l cs = btA (btL l (cs.take n)) (cs.drop n) + n ∧ (btL l cs).length = 0) ∨
    (btE l (cs.take n) = 0 ∧ btE (btL l (cs.take n)) (cs.drop n) = 0 ∧ btE l cs = 0 ∧ btA l cs = 0 ∧ eqL eqR (btL l cs) (btL (btL l (cs.take n)) (cs.drop n)) = true) := by
  have lt : (cs.take n).length = n := by rw [List.length_take]; omega
  have ld : (cs.drop n).length = cs.length - n := by rw [List.length_drop]
  have A := bt_cases (cs := cs) h (by omega) h3
  have B := bt_cases (cs := cs.take n) h (by omega) (by omega)
  rw [lt] at B
  rcases B with ⟨i, hi, e1, e2, b1, b2, b3⟩ | ⟨e0, b1, b2, b3⟩
  · left
    rw [stE_take l cs hi] at e1 b1
    have e2' : ∀ j, j < i → stE l cs j = 0 := fun j hj => by rw [← stE_take l cs (n := n) (by omega)]; exact e2 j hj
    rcases A with ⟨k, hk, a1, a2, a3, a4, a5⟩ | ⟨a0, -⟩
    · have : k = i := by
        rcases Nat.lt_trichotomy k i with c | c | c
        · exact absurd (e2' k c) a1
        · exact c
        · exact absurd (a2 i c) e1
      subst this
      exact ⟨by rw [b1]; exact e1, by rw [a3, b1], by rw [a4, b2], by rw [a5]; rfl⟩
    · exact absurd (a0 i (by omega)) e1
  · have e0' : ∀ j, j < n → stE l cs j = 0 := fun j hj => by rw [← stE_take l cs (n := n) hj]; exact e0 j hj
    rw [stL_take l cs n n (Nat.le_refl _)] at b3
    have hr := stL_right h n e0'
    rw [b3]
    have D := bt_cases (cs := cs.drop n) hr (by omega) (by omega)
    rw [ld] at D
    right
    rcases D with ⟨i, hi, e1, e2, d1, d2, d3⟩ | ⟨d0, d1, d2, d3⟩
    · left
      rw [stE_drop] at e1 d1
      have e2' : ∀ j, j < n + i → stE l cs j = 0 := fun j hj => by
        by_cases c : j < n
        · exact e0' j c
        · have := e2 (j - n) (by omega)
          rwa [stE_drop, show n + (j - n) = j by omega] at this
      rcases A with ⟨k, hk, a1, a2, a3, a4, a5⟩ | ⟨a0, -⟩
      · have : k = n + i := by
          rcases Nat.lt_trichotomy k (n + i) with c | c | c
          · exact absurd (e2' k c) a1
          · exact c
          · exact absurd (a2 _ c) e1
        subst this
        exact ⟨b1, by rw [d1]; exact e1, by rw [a3, d1], by rw [a4, d2]; omega, by rw [a5]; rfl⟩
      · exact absurd (a0 _ (by omega)) e1
    · right
      have all : ∀ j, j < cs.length → stE l cs j = 0 := fun j hj => by
        by_cases c : j < n
        · exact e0' j c
        · have := d0 (j - n) (by omega)
          rwa [stE_drop, show n + (j - n) = j by omega] at this
      rcases A with ⟨k, hk, a1, -⟩ | ⟨a0, a1, a2, a3⟩
      · exact absurd (all k hk) a1
      · refine ⟨b1, d1, a1, a2, (eqL_iff eqR eqR_iff _ _).2 ?_⟩
        rw [a3, d3, stL_drop, show n + (cs.length - n) = cs.length by omega]
/-- So many rows of even ids. -/
def evens (n : Nat) : List Rw := (List.range n).map fun i => ⟨2 * i, 0, 0, ⟨#[]⟩⟩
theorem evens_len (n : Nat) : (evens n).length = n := by simp [evens]
theorem evens_succ (n : Nat) : evens (n + 1) = evens n ++ [⟨2 * n, 0, 0, ⟨#[]⟩⟩] := by simp [evens, List.range_succ]
theorem evens_right {n : Nat} (h : n ≤ 1000) : rightL (evens n) = true := by
  refine (right_mem _).2 ⟨by rw [evens_len]; exact h, fun r hr => ?_, ?_⟩
  · obtain ⟨i, -, rfl⟩ := List.mem_map.1 hr
    simp [rightRow, ByteArray.size]
  · refine List.Pairwise.map _ (fun a b hab => ?_) (List.pairwise_lt_range (n := n))
    show 2 * a < 2 * b
    omega
theorem evens_wrong {n : Nat} (h : 1000 < n) : rightL (evens n) = false := by
  cases e : rightL (evens n)
  · rfl
  · have := ((right_mem _).1 e).1
    rw [evens_len] at this
    omega
theorem evens_its (n id : Nat) : (its (evens n) id).isSome = decide (id % 2 = 0 ∧ id < 2 * n) := by
  by_cases h : id % 2 = 0 ∧ id < 2 * n
  · rw [decide_eq_true h]
    unfold its
    rw [List.find?_isSome]
    exact ⟨⟨2 * (id / 2), 0, 0, ⟨#[]⟩⟩, List.mem_map.2 ⟨id / 2, by simp; omega, rfl⟩, by simp; omega⟩
  · rw [decide_eq_false h]
    cases e : (its (evens n) id).isSome
    · rfl
    · obtain ⟨s, hs⟩ := Option.isSome_iff_exists.1 e
      have h1 := its_id hs
      obtain ⟨i, hi, rfl⟩ := List.mem_map.1 (its_mem hs)
      simp only [List.mem_range] at hi
      simp only at h1
      exact absurd (by omega) h
theorem full_plain (n id : Nat) (hn : n ≤ 1001) :
    (1000 < n ∧ apE (evens n) ⟨1, ⟨id, 0, 0, ⟨#[]⟩⟩⟩ = 80) ∨
    (n = 1000 ∧ ¬ (id % 2 = 0 ∧ id < 2 * n) ∧ apE (evens n) ⟨1, ⟨id, 0, 0, ⟨#[]⟩⟩⟩ = 82 ∧ (apL (evens n) ⟨1, ⟨id, 0, 0, ⟨#[]⟩⟩⟩).length = 0) ∨
    (n ≤ 1000 ∧ (id % 2 = 0 ∧ id < 2 * n) ∧ apE (evens n) ⟨1, ⟨id, 0, 0, ⟨#[]⟩⟩⟩ = 0 ∧ (apL (evens n) ⟨1, ⟨id, 0, 0, ⟨#[]⟩⟩⟩).length = n) ∨
    (n < 1000 ∧ ¬ (id % 2 = 0 ∧ id < 2 * n) ∧ apE (evens n) ⟨1, ⟨id, 0, 0, ⟨#[]⟩⟩⟩ = 0 ∧ (apL (evens n) ⟨1, ⟨id, 0, 0, ⟨#[]⟩⟩⟩).length = n + 1) := by
  by_cases h : 1000 < n
  · exact .inl ⟨h, by unfold apE; rw [evens_wrong h]; rfl⟩
  have hR := evens_right (n := n) (by omega)
  have hc : chkO ⟨1, ⟨id, 0, 0, ⟨#[]⟩⟩⟩ = 0 := by simp [chkO, rightRow, ByteArray.size]
  have hI := evens_its n id
  have hlen := evens_len n
  right
  by_cases t : id % 2 = 0 ∧ id < 2 * n
  · rw [decide_eq_true t] at hI
    have hl := rem_lt (right_rise hR) hI
    have hE : apE (evens n) ⟨1, ⟨id, 0, 0, ⟨#[]⟩⟩⟩ = 0 := ap_zero hR hc (.inl rfl) (.inr (by show (remR (evens n) id).length ≠ 1000; omega))
    refine .inr (.inl ⟨by omega, t, hE, ?_⟩)
    rw [ap_len hE, if_neg (by simp), if_pos hI, hlen]
  · rw [decide_eq_false t] at hI
    have hrs := rem_same hI
    by_cases e : n = 1000
    · refine .inl ⟨e, t, ?_⟩
      have hE : apE (evens n) ⟨1, ⟨id, 0, 0, ⟨#[]⟩⟩⟩ = 82 := by
        unfold apE
        rw [if_pos hR, if_pos hc, if_neg (by simp), if_pos ⟨by simp, by show (remR (evens n) id).length = 1000; rw [hrs, hlen]; exact e⟩]
      refine ⟨hE, ?_⟩
      unfold apL
      rw [hE, if_neg (by decide)]
      rfl
    · have hE : apE (evens n) ⟨1, ⟨id, 0, 0, ⟨#[]⟩⟩⟩ = 0 := ap_zero hR hc (.inl rfl) (.inr (by show (remR (evens n) id).length ≠ 1000; rw [hrs]; omega))
      refine .inr (.inr ⟨by omega, t, hE, ?_⟩)
      rw [ap_len hE, if_neg (by simp), if_neg (by rw [hI]; decide), hlen]
end Go.Proofs.Ythneciodobeehaa.Rp
