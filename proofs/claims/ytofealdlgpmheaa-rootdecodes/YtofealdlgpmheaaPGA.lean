/- Rows and their tree, in plain terms. -/
import Derived.Test.YtofealdlgpmheaaQCA
namespace Go.Proofs.Ytofealdlgpmheaa.Rq
open Go.Proofs.Ytofealdlgpmheaa.Rc
/-- A row. -/
structure Rw where
  id : Nat
  x : Nat
  y : Nat
  v : ByteArray
def okRow (r : Rw) : Prop := r.id < 18446744073709551616 ∧ r.x < 4294967296 ∧ r.y < 4294967296
def rightRow (r : Rw) : Bool := decide (r.x < 2147483648 ∧ r.y < 2147483648 ∧ r.v.size ≤ 16)
/-- The row at an index. -/
def rat (l : List Rw) (i : Nat) : Rw := (l[i]?).getD ⟨0, 0, 0, ByteArray.empty⟩
theorem rat_some {l : List Rw} {i : Nat} (h : i < l.length) : l[i]? = some (rat l i) := by unfold rat; rw [List.getElem?_eq_getElem h]; rfl
theorem rat_get {l : List Rw} {i : Nat} (h : i < l.length) : rat l i = l[i] := by unfold rat; rw [List.getElem?_eq_getElem h]; rfl
theorem rat_of {l : List Rw} {i : Nat} {r : Rw} (h : l[i]? = some r) : rat l i = r := by unfold rat; rw [h]; rfl
theorem rat_mem {l : List Rw} {i : Nat} (h : i < l.length) : rat l i ∈ l := by rw [rat_get h]; exact List.getElem_mem h
/-- A row that is right, behind the one ahead of it. -/
def rightAt (l : List Rw) (i : Nat) : Bool := rightRow (rat l i) && (decide (i = 0) || decide ((rat l (i - 1)).id < (rat l i).id))
def rightL (l : List Rw) : Bool := decide (l.length ≤ 1000 ∧ ∀ i, i < l.length → rightAt l i = true)
theorem rightL_iff (l : List Rw) : rightL l = true ↔ l.length ≤ 1000 ∧ ∀ i, i < l.length → rightAt l i = true := by unfold rightL; rw [decide_eq_true_iff]
theorem rightAt_iff (l : List Rw) (i : Nat) : rightAt l i = true ↔ rightRow (rat l i) = true ∧ (0 < i → (rat l (i - 1)).id < (rat l i).id) := by
  unfold rightAt
  rw [Bool.and_eq_true, Bool.or_eq_true, decide_eq_true_iff, decide_eq_true_iff]
  constructor
  · rintro ⟨h, k⟩
    exact ⟨h, fun hi => by rcases k with k | k; omega; exact k⟩
  · rintro ⟨h, k⟩
    refine ⟨h, ?_⟩
    by_cases e : i = 0
    · exact .inl e
    · exact .inr (k (by omega))
/-- All points are of the plane. -/
def On (l : List Rw) : Prop := ∀ r, r ∈ l → r.x < 2147483648 ∧ r.y < 2147483648
def Rise (l : List Rw) : Prop := l.Pairwise fun a b => a.id < b.id
theorem right_on {l : List Rw} (h : rightL l = true) : On l := by
  intro r hr
  obtain ⟨i, hi, rfl⟩ := List.getElem_of_mem hr
  have := ((rightAt_iff l i).1 (((rightL_iff l).1 h).2 i hi)).1
  rw [rat_get hi] at this
  unfold rightRow at this
  rw [decide_eq_true_iff] at this
  exact ⟨this.1, this.2.1⟩
theorem right_rise {l : List Rw} (h : rightL l = true) : Rise l := by
  have hs : ∀ i, i + 1 < l.length → (rat l i).id < (rat l (i + 1)).id := fun i hi => ((rightAt_iff l (i + 1)).1 (((rightL_iff l).1 h).2 (i + 1) hi)).2 (by omega)
  have key : ∀ (k i : Nat), i + k + 1 < l.length → (rat l i).id < (rat l (i + k + 1)).id := by
    intro k
    induction k with
    | zero => exact fun i hi => hs i hi
    | succ k ih => exact fun i hi => Nat.lt_trans (ih i (by omega)) (hs (i + k + 1) hi)
  unfold Rise
  rw [List.pairwise_iff_getElem]
  intro i j hi hj hij
  have := key (j - i - 1) i (by omega)
  rw [show i + (j - i - 1) + 1 = j by omega] at this
  rw [rat_get hi, rat_get hj] at this
  exact this
theorem On.filter {l : List Rw} (h : On l) (p : Rw → Bool) : On (l.filter p) := fun r hr => h r (List.mem_filter.1 hr).1
/-- The level of the least cell of a point and of all rows. -/
def levs (x y : Nat) : List Rw → Nat
  | [] => 0
  | r :: t => max (lvl x y r.x r.y) (levs x y t)
def x0 : List Rw → Nat | [] => 0 | r :: _ => r.x
def y0 : List Rw → Nat | [] => 0 | r :: _ => r.y
def lev (l : List Rw) : Nat := levs (x0 l) (y0 l) l
def cx (l : List Rw) : Nat := flr (x0 l) (lev l)
def cy (l : List Rw) : Nat := flr (y0 l) (lev l)
theorem x0_rat (l : List Rw) : x0 l = (rat l 0).x := by cases l <;> rfl
theorem y0_rat (l : List Rw) : y0 l = (rat l 0).y := by cases l <;> rfl
theorem on0 {l : List Rw} (h : On l) : x0 l < 2147483648 ∧ y0 l < 2147483648 := by
  cases l with
  | nil => exact ⟨by decide, by decide⟩
  | cons r t => exact h r (by simp)
theorem levs_iff (x y : Nat) (hx : x < 2147483648) (hy : y < 2147483648) (k : Nat) : ∀ (l : List Rw), On l → (levs x y l ≤ k ↔ ∀ r ∈ l, flr x k = flr r.x k ∧ flr y k = flr r.y k)
  | [], _ => ⟨fun _ r hr => by simp at hr, fun _ => Nat.zero_le _⟩
  | r :: t, h => by
    have ih := levs_iff x y hx hy k t (fun s hs => h s (by simp [hs]))
    have hr := h r (by simp)
    rw [levs, Nat.max_le, ih, lvl_iff x y r.x r.y k (by omega) (by omega) (by omega) (by omega)]
    constructor
    · rintro ⟨a, b⟩ s hs
      rcases List.mem_cons.1 hs with rfl | hs
      · exact a
      · exact b s hs
    · exact fun a => ⟨a r (by simp), fun s hs => a s (by simp [hs])⟩
theorem levs_append (x y : Nat) (l m : List Rw) : levs x y (l ++ m) = max (levs x y l) (levs x y m) := by
  induction l with
  | nil => simp [levs]
  | cons r t ih => rw [List.cons_append, levs, levs, ih, Nat.max_assoc]
theorem lev_iff {l : List Rw} (h : On l) (k : Nat) : lev l ≤ k ↔ ∀ r ∈ l, flr (x0 l) k = flr r.x k ∧ flr (y0 l) k = flr r.y k :=
  levs_iff _ _ (on0 h).1 (on0 h).2 k l h
theorem lev_le {l : List Rw} (h : On l) : lev l ≤ 31 := (lev_iff h 31).2 fun r hr => by
  have h0 := on0 h; have h1 := h r hr
  rw [flr_top (n := 31) h0.1, flr_top (n := 31) h0.2, flr_top (n := 31) h1.1, flr_top (n := 31) h1.2]
  exact ⟨rfl, rfl⟩
theorem lev_cl {l : List Rw} (h : On l) : Cl (cx l) (cy l) (lev l) :=
  ⟨lev_le h, Nat.lt_of_le_of_lt (flr_le _ _) (on0 h).1, Nat.lt_of_le_of_lt (flr_le _ _) (on0 h).2, flr_down _ (Nat.le_refl _), flr_down _ (Nat.le_refl _)⟩
theorem lev_has {l : List Rw} (h : On l) {r : Rw} (hr : r ∈ l) : hasS (cx l) (cy l) (lev l : Int) r.x r.y = true := by
  have e := (lev_iff h (lev l)).1 (Nat.le_refl _) r hr
  unfold hasS
  rw [decide_eq_true_iff, Int.toNat_natCast, rightS_nat]
  exact ⟨lev_cl h, e.1.symm, e.2.symm⟩
/-- The rows in a quarter. -/
def part (l : List Rw) (q : Nat) : List Rw := l.filter fun r => wq (lev l - 1) r.x r.y == q
theorem mem_part {l : List Rw} {q : Nat} {r : Rw} : r ∈ part l q ↔ r ∈ l ∧ wq (lev l - 1) r.x r.y = q := by unfold part; rw [List.mem_filter, beq_iff_eq]
theorem On.part {l : List Rw} (h : On l) (q : Nat) : On (part l q) := h.filter _
theorem part_sub (l : List Rw) (q : Nat) : (part l q).length ≤ l.length := List.length_filter_le _ _
theorem x0_mem {l : List Rw} (h : l ≠ []) : ∃ r ∈ l, x0 l = r.x ∧ y0 l = r.y := by
  cases l with
  | nil => exact absurd rfl h
  | cons r t => exact ⟨r, by simp, rfl, rfl⟩
theorem lev_part {l : List Rw} (h : On l) {n : Nat} (hn : lev l = n + 1) (q : Nat) : lev (part l q) ≤ n := by
  by_cases he : part l q = []
  · rw [he]; exact Nat.zero_le _
  · rw [lev_iff (h.part q)]
    obtain ⟨s, hs, e1, e2⟩ := x0_mem he
    intro r hr
    rw [e1, e2]
    have a := mem_part.1 hs; have b := mem_part.1 hr
    have ha := lev_has h a.1; have hb := lev_has h b.1
    rw [hn] at ha hb a b
    have fa := has_where ha; have fb := has_where hb
    rw [Nat.add_sub_cancel] at a b
    rw [a.2] at fa; rw [b.2] at fb
    exact ⟨fa.1.trans fb.1.symm, fa.2.trans fb.2.symm⟩
def leaf (l : List Rw) : Bool := decide (l.length ≤ 4 ∨ lev l = 0)
theorem leaf_no {l : List Rw} (h : leaf l = false) : 4 < l.length ∧ ∃ n, lev l = n + 1 := by
  unfold leaf at h
  rw [decide_eq_false_iff_not] at h
  exact ⟨by omega, lev l - 1, by omega⟩
/-- The rows of the kids. -/
def kidsL (l : List Rw) : List (List Rw) := ([0, 1, 2, 3].map (part l)).filter fun m => !m.isEmpty
theorem mem_kids {l m : List Rw} (h : m ∈ kidsL l) : m ≠ [] ∧ ∃ q, q < 4 ∧ m = part l q := by
  unfold kidsL at h
  rw [List.mem_filter, List.mem_map] at h
  obtain ⟨⟨q, hq, rfl⟩, he⟩ := h
  refine ⟨fun e => by rw [e] at he; simp at he, q, ?_, rfl⟩
  simp at hq
  omega
theorem On.kid {l m : List Rw} (h : On l) (hm : m ∈ kidsL l) : On m := by
  obtain ⟨_, q, _, rfl⟩ := mem_kids hm
  exact h.part q
theorem lev_kid {l m : List Rw} (h : On l) {n : Nat} (hn : lev l = n + 1) (hm : m ∈ kidsL l) : lev m ≤ n := by
  obtain ⟨_, q, _, rfl⟩ := mem_kids hm
  exact lev_part h hn q
/-- One quarter behind the other. -/
def four {α : Type} (f : List Rw → List α) (l : List Rw) : List α := f (part l 0) ++ (f (part l 1) ++ (f (part l 2) ++ f (part l 3)))
theorem kids_flat {α : Type} (f : List Rw → List α) (hf : f [] = []) (l : List Rw) : (kidsL l).flatMap f = four f l := by
  have key : ∀ (ps : List (List Rw)), (ps.filter fun m => !m.isEmpty).flatMap f = ps.flatMap f := by
    intro ps
    induction ps with
    | nil => rfl
    | cons p t ih =>
      cases p with
      | nil => simp [hf, ih]
      | cons a b => simp [ih]
  unfold kidsL four
  rw [key]
  simp
theorem parts_perm (l : List Rw) : (four (fun m => m) l).Perm l := by
  have h1 := List.filter_append_perm (fun r : Rw => wq (lev l - 1) r.x r.y == 0) l
  have h2 := List.filter_append_perm (fun r : Rw => wq (lev l - 1) r.x r.y == 1) (l.filter fun r => !(wq (lev l - 1) r.x r.y == 0))
  have h3 := List.filter_append_perm (fun r : Rw => wq (lev l - 1) r.x r.y == 2) ((l.filter fun r => !(wq (lev l - 1) r.x r.y == 0)).filter fun r => !(wq (lev l - 1) r.x r.y == 1))
  have e1 : ((l.filter fun r => !(wq (lev l - 1) r.x r.y == 0)).filter fun r => wq (lev l - 1) r.x r.y == 1) = part l 1 := by
    unfold part; rw [List.filter_filter]; congr 1; funext r
    have := wq_lt (lev l - 1) r.x r.y
    generalize wq (lev l - 1) r.x r.y = k at *
    obtain rfl | rfl | rfl | rfl : k = 0 ∨ k = 1 ∨ k = 2 ∨ k = 3 := by omega
    all_goals rfl
  have e2 : ((((l.filter fun r => !(wq (lev l - 1) r.x r.y == 0)).filter fun r => !(wq (lev l - 1) r.x r.y == 1))).filter fun r => wq (lev l - 1) r.x r.y == 2) = part l 2 := by
    unfold part; rw [List.filter_filter, List.filter_filter]; congr 1; funext r
    have := wq_lt (lev l - 1) r.x r.y
    generalize wq (lev l - 1) r.x r.y = k at *
    obtain rfl | rfl | rfl | rfl : k = 0 ∨ k = 1 ∨ k = 2 ∨ k = 3 := by omega
    all_goals rfl
  have e3 : ((((l.filter fun r => !(wq (lev l - 1) r.x r.y == 0)).filter fun r => !(wq (lev l - 1) r.x r.y == 1))).filter fun r => !(wq (lev l - 1) r.x r.y == 2)) = part l 3 := by
    unfold part; rw [List.filter_filter, List.filter_filter]; congr 1; funext r
    have := wq_lt (lev l - 1) r.x r.y
    generalize wq (lev l - 1) r.x r.y = k at *
    obtain rfl | rfl | rfl | rfl : k = 0 ∨ k = 1 ∨ k = 2 ∨ k = 3 := by omega
    all_goals rfl
  rw [e1] at h2
  rw [e2, e3] at h3
  exact ((List.Perm.append_left _ ((List.Perm.append_left _ h3).trans h2))).trans h1
theorem four_len (l : List Rw) : (part l 0).length + ((part l 1).length + ((part l 2).length + (part l 3).length)) = l.length := by
  have := (parts_perm l).length_eq
  unfold four at this
  simpa using this
/-- Two quarters at least have rows. -/
theorem two_kids {l : List Rw} (h : On l) {n : Nat} (hn : lev l = n + 1) : ∃ a b, a < 4 ∧ b < 4 ∧ a ≠ b ∧ part l a ≠ [] ∧ part l b ≠ [] := by
  have hne : l ≠ [] := fun e => by rw [e] at hn; simp [lev, levs] at hn
  have hnot : ¬ lev l ≤ n := by omega
  rw [lev_iff h] at hnot
  obtain ⟨s, hs, e1, e2⟩ := x0_mem hne
  by_cases hd : ∀ r ∈ l, wq n r.x r.y = wq n s.x s.y
  · refine absurd (fun r hr => ?_) hnot
    have ha := lev_has h hs; have hb := lev_has h hr
    rw [hn] at ha hb
    have fa := has_where ha; have fb := has_where hb
    rw [hd r hr] at fb
    rw [e1, e2]
    exact ⟨fa.1.trans fb.1.symm, fa.2.trans fb.2.symm⟩
  · have : ∃ r ∈ l, wq n r.x r.y ≠ wq n s.x s.y := by
      refine Classical.byContradiction fun hc => hd fun r hr => Classical.byContradiction fun hw => hc ⟨r, hr, hw⟩
    obtain ⟨r, hr, hw⟩ := this
    refine ⟨_, _, wq_lt n r.x r.y, wq_lt n s.x s.y, hw, fun e => ?_, fun e => ?_⟩
    · have := (mem_part (l := l) (q := wq n r.x r.y) (r := r)).2 ⟨hr, by rw [hn]; rfl⟩
      rw [e] at this; simp at this
    · have := (mem_part (l := l) (q := wq n s.x s.y) (r := s)).2 ⟨hs, by rw [hn]; rfl⟩
      rw [e] at this; simp at this
theorem kids_len (l : List Rw) : (kidsL l).length ≤ 4 := by
  unfold kidsL
  have := List.length_filter_le (fun m : List Rw => !m.isEmpty) ([0, 1, 2, 3].map (part l))
  simpa using this
theorem kids_two {l : List Rw} (h : On l) {n : Nat} (hn : lev l = n + 1) : 2 ≤ (kidsL l).length := by
  obtain ⟨a, b, ha, hb, hab, pa, pb⟩ := two_kids h hn
  have e : ∀ (m : List Rw), m ≠ [] → (!m.isEmpty) = true := fun m hm => by cases m; exact absurd rfl hm; rfl
  have qa := e _ pa; have qb := e _ pb
  unfold kidsL
  rw [← List.countP_eq_length_filter]
  simp only [List.map_cons, List.map_nil, List.countP_cons, List.countP_nil]
  obtain rfl | rfl | rfl | rfl : a = 0 ∨ a = 1 ∨ a = 2 ∨ a = 3 := by omega
  all_goals obtain rfl | rfl | rfl | rfl : b = 0 ∨ b = 1 ∨ b = 2 ∨ b = 3 := by omega
  all_goals first | exact absurd rfl hab | (simp only [qa, qb, if_true]; omega)
/-- How many nodes a tree has. -/
def cnt : Nat → List Rw → Nat
  | 0, _ => 1
  | d + 1, l => if leaf l = true then 1 else 1 + ((kidsL l).map (cnt d)).sum
theorem cnt_pos (d : Nat) (l : List Rw) : 1 ≤ cnt d l := by
  cases d with
  | zero => exact Nat.le_refl _
  | succ d => rw [cnt]; split <;> omega
theorem kids_sum (l : List Rw) : ((kidsL l).map List.length).sum = l.length := by
  have key : ∀ (ps : List (List Rw)), ((ps.filter fun m => !m.isEmpty).map List.length).sum = (ps.map List.length).sum := by
    intro ps
    induction ps with
    | nil => rfl
    | cons p t ih =>
      cases p with
      | nil => simp [ih]
      | cons a b => simp [ih]
  unfold kidsL
  rw [key]
  have := four_len l
  simpa using this
theorem cnt_le : ∀ (d : Nat) (l : List Rw), On l → l ≠ [] → cnt d l + 1 ≤ 2 * l.length
  | 0, l, _, hne => by have := List.length_pos_iff.2 hne; rw [cnt]; omega
  | d + 1, l, h, hne => by
    have hp := List.length_pos_iff.2 hne
    rw [cnt]
    split
    · omega
    · rename_i hl
      obtain ⟨h4, n, hn⟩ := leaf_no (by simpa using hl)
      have h2 := kids_two h hn
      have key : ∀ (ks : List (List Rw)), (∀ m ∈ ks, cnt d m + 1 ≤ 2 * m.length) → (ks.map (cnt d)).sum + ks.length ≤ 2 * (ks.map List.length).sum := by
        intro ks
        induction ks with
        | nil => intro _; simp
        | cons m t ih =>
          intro hm
          have a := hm m (by simp); have b := ih fun k hk => hm k (by simp [hk])
          simp only [List.map_cons, List.sum_cons, List.length_cons]
          omega
      have := key (kidsL l) fun m hm => cnt_le d m (h.kid hm) (mem_kids hm).1
      rw [kids_sum] at this
      omega
end Go.Proofs.Ytofealdlgpmheaa.Rq
