/- Kids and their quarters, in plain terms. -/
import Derived.Test.YtaiiclkfnahghaaPGI
namespace Go.Proofs.Ytaiiclkfnahghaa.Rq
open Go.Proofs.Ytaiiclkfnahghaa.Rc
theorem flr_div (a : Nat) {k n : Nat} (h : k ≤ n) : flr a k / 2 ^ n = a / 2 ^ n := by
  obtain ⟨m, rfl⟩ := Nat.le.dest h
  unfold flr
  rw [Nat.pow_add, ← Nat.div_div_eq_div_mul, Nat.mul_div_cancel _ (Nat.two_pow_pos k), Nat.div_div_eq_div_mul]
theorem flr_flr (a : Nat) {k n : Nat} (h : k ≤ n) : flr (flr a k) n = flr a n := by
  unfold flr
  have := flr_div a h
  unfold flr at this
  rw [this]
/-- The quarters that have rows. -/
def qs (l : List Rw) : List Nat := [0, 1, 2, 3].filter fun q => !(part l q).isEmpty
theorem kids_qs (l : List Rw) : kidsL l = (qs l).map (part l) := by
  unfold kidsL qs
  rw [List.filter_map]
  rfl
theorem qs_lt {l : List Rw} {q : Nat} (h : q ∈ qs l) : q < 4 ∧ part l q ≠ [] := by
  unfold qs at h
  rw [List.mem_filter] at h
  refine ⟨?_, fun e => by rw [e] at h; simp at h⟩
  have := h.1
  simp at this
  omega
theorem qs_rise (l : List Rw) : (qs l).Pairwise (· < ·) := List.Pairwise.filter _ (by decide)
theorem qs_len (l : List Rw) : (qs l).length = (kidsL l).length := by rw [kids_qs]; simp
/-- The quarter of a kid. -/
def qat (l : List Rw) (i : Nat) : Nat := (qs l).getD i 0
theorem kid_part {l : List Rw} {i : Nat} (h : i < (kidsL l).length) : (kidsL l)[i] = part l (qat l i) ∧ qat l i < 4 ∧ part l (qat l i) ≠ [] := by
  have hq : i < (qs l).length := by rw [qs_len]; exact h
  have e : qat l i = (qs l)[i] := by unfold qat; rw [List.getD_eq_getElem?_getD, List.getElem?_eq_getElem hq]; rfl
  have m : qat l i ∈ qs l := by rw [e]; exact List.getElem_mem hq
  refine ⟨?_, (qs_lt m).1, (qs_lt m).2⟩
  have : (kidsL l)[i] = ((qs l).map (part l))[i]'(by simpa using hq) := by congr 1; exact kids_qs l
  rw [this, List.getElem_map, e]
theorem qat_rise {l : List Rw} {i j : Nat} (hij : i < j) (h : j < (kidsL l).length) : qat l i < qat l j := by
  have hq : j < (qs l).length := by rw [qs_len]; exact h
  have ei : qat l i = (qs l)[i] := by unfold qat; rw [List.getD_eq_getElem?_getD, List.getElem?_eq_getElem (by omega)]; rfl
  have ej : qat l j = (qs l)[j] := by unfold qat; rw [List.getD_eq_getElem?_getD, List.getElem?_eq_getElem hq]; rfl
  rw [ei, ej]
  exact (List.pairwise_iff_getElem.1 (qs_rise l)) i j (by omega) hq hij
theorem kid_has {l : List Rw} (h : On l) {n : Nat} (hn : lev l = n + 1) {q : Nat} (hp : part l q ≠ []) :
    hasS (cx l) (cy l) (lev l : Int) (cx (part l q)) (cy (part l q)) = true ∧ wq n (cx (part l q)) (cy (part l q)) = q := by
  obtain ⟨r, hr, e1, e2⟩ := x0_mem hp
  have hk := lev_part h hn q
  have hm := mem_part.1 hr
  have hh := lev_has h hm.1
  have f1 : cx (part l q) = flr r.x (lev (part l q)) := by unfold cx; rw [e1]
  have f2 : cy (part l q) = flr r.y (lev (part l q)) := by unfold cy; rw [e2]
  constructor
  · unfold hasS at hh ⊢
    rw [decide_eq_true_iff, Int.toNat_natCast] at hh
    rw [decide_eq_true_iff, Int.toNat_natCast, f1, f2, flr_flr _ (by omega), flr_flr _ (by omega)]
    exact hh
  · have := hm.2
    rw [hn, Nat.add_sub_cancel] at this
    unfold wq at this ⊢
    rw [f1, f2, flr_div _ hk, flr_div _ hk]
    exact this
theorem kid_wher {l : List Rw} (h : On l) {n : Nat} (hn : lev l = n + 1) {q : Nat} (hp : part l q ≠ []) : wher (cx l) (cy l) (lev l : Int) (cx (part l q)) (cy (part l q)) = (q, 0) := by
  obtain ⟨a, b⟩ := kid_has h hn hp
  unfold wher
  rw [if_pos ⟨a, by omega⟩, hn, show (((n + 1 : Nat) : Int) - 1).toNat = n by omega, b]
theorem cnt_len : ∀ (d : Nat) (l : List Rw), On l → cnt d l ≤ 2 * l.length + 1 := fun d l h => by
  cases l with
  | nil =>
    cases d with
    | zero => decide
    | succ d => rw [cnt, if_pos leaf_nil]; omega
  | cons r t => have := cnt_le d (r :: t) h (by simp); omega
/-- How many nodes the first kids have. -/
def cntTo (d : Nat) (l : List Rw) (i : Nat) : Nat := (((kidsL l).take i).map (cnt d)).sum
theorem cntTo_next (d : Nat) (l : List Rw) (i : Nat) (h : i < (kidsL l).length) : cntTo d l (i + 1) = cntTo d l i + cnt d (kidsL l)[i] := by
  unfold cntTo
  rw [List.take_add_one, List.getElem?_eq_getElem h, List.map_append, List.sum_append]
  simp
theorem cntTo_le (d : Nat) (l : List Rw) (h : On l) (i : Nat) : cntTo d l i ≤ 2 * l.length := by
  have key : ∀ (ks : List (List Rw)), (∀ m ∈ ks, cnt d m + 1 ≤ 2 * m.length) → (ks.map (cnt d)).sum + ks.length ≤ 2 * (ks.map List.length).sum := by
    intro ks
    induction ks with
    | nil => intro _; simp
    | cons m t ih =>
      intro hm
      have a := hm m (by simp); have b := ih fun k hk => hm k (by simp [hk])
      simp only [List.map_cons, List.sum_cons, List.length_cons]
      omega
  have h1 := key ((kidsL l).take i) fun m hm => by
    have hm' := List.mem_of_mem_take hm
    exact cnt_le d m (h.kid hm') (mem_kids hm').1
  have h2 := kids_sum l
  have h3 : (((kidsL l).take i).map List.length).sum ≤ ((kidsL l).map List.length).sum := by
    have e : (kidsL l).map List.length = ((kidsL l).take i).map List.length ++ ((kidsL l).drop i).map List.length := by rw [← List.map_append, List.take_append_drop]
    rw [e, List.sum_append]
    omega
  unfold cntTo
  omega
end Go.Proofs.Ytaiiclkfnahghaa.Rq
