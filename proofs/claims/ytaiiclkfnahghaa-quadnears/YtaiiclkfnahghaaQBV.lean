/- How rows are compared by Near: the nearer ones ahead, of those that are as far the lesser ids. -/
import Derived.Test.YtaiiclkfnahghaaQBI
import Derived.Test.YtaiiclkfnahghaaPBU
namespace Go.Proofs.Ytaiiclkfnahghaa.Rq
open Go.RowKit Go.Lib Go.Shelf
open Go.Proofs.Ytaiiclkfnahghaa.Rc
/-- The place of a row in that order, as a number; M is above all ids. -/
def nkey (x y M : Nat) (r : Rw) : Nat := Rq.dist r.x r.y x y * M + r.id
def nok (M : Nat) (r : Rw) : Prop := r.id < M ∧ r.x < 2147483648 ∧ r.y < 2147483648
set_option maxRecDepth 100000 in
theorem key_lt {p q i j M : Nat} (hi : i < M) (hj : j < M) : p * M + i < q * M + j ↔ p < q ∨ (p = q ∧ i < j) := by
  rcases Nat.lt_trichotomy p q with h | h | h
  · have := Nat.mul_le_mul_right M (show p + 1 ≤ q from h)
    rw [Nat.succ_mul] at this
    constructor
    · intro _; exact .inl h
    · intro _; omega
  · subst h
    constructor
    · intro _; exact .inr ⟨rfl, by omega⟩
    · intro _; omega
  · have := Nat.mul_le_mul_right M (show q + 1 ≤ p from h)
    rw [Nat.succ_mul] at this
    constructor
    · intro _; omega
    · intro _; omega
set_option maxRecDepth 100000 in
theorem or_key (p q i j M : Nat) (hi : i < M) (hj : j < M) : decide (orS (cmpS p q) (cmpS i j) < 0) = decide (p * M + i < q * M + j) := by
  rw [decide_eq_decide, key_lt hi hj]
  unfold orS cmpS
  rcases Nat.lt_trichotomy p q with h | h | h
  · simp [h]
  · subst h
    simp
    rcases Nat.lt_trichotomy i j with h2 | h2 | h2
    · simp [h2]
    · subst h2; simp
    · have : ¬ i < j := by omega
      simp [h2, this]
  · have h1 : ¬ p < q := by omega
    have h2 : ¬ p = q := by omega
    simp [h, h1, h2]
/-- A point's two blocks. -/
structure Pt2 (w : World) (g1 g2 x y : Nat) : Prop where
  x : w.heap[g1]? = some (.cells #[.int .u32 (x : Int)] 24 (0, 0))
  y : w.heap[g2]? = some (.cells #[.int .u32 (y : Int)] 24 (0, 0))
set_option maxRecDepth 100000 in
theorem Pt2.grow {w W : World} {B g1 g2 x y : Nat} (h : Pt2 w g1 g2 x y) (hW : Below B w W) (hB : w.heap.size ≤ B) : Pt2 W g1 g2 x y :=
  ⟨(hW.block _ (Nat.lt_of_lt_of_le (Array.getElem?_eq_some_iff.1 h.x).1 hB)).trans h.x, (hW.block _ (Nat.lt_of_lt_of_le (Array.getElem?_eq_some_iff.1 h.y).1 hB)).trans h.y⟩
/-- The two rows and the point, in cells. -/
def NS (g1 g2 ga gb x y i a b : Nat) (v : ByteArray) (j c d : Nat) (u : ByteArray) (w : World) : Prop :=
  (w.cell? ⟨g1, 0, none⟩ = some (.int .u32 (x : Int)) ∧ w.cell? ⟨g2, 0, none⟩ = some (.int .u32 (y : Int))) ∧
  (w.cell? ⟨ga, 0, none⟩ = some (.int .u64 (i : Int)) ∧ w.cell? ⟨ga, 1, none⟩ = some (.int .u32 (a : Int)) ∧ w.cell? ⟨ga, 2, none⟩ = some (.int .u32 (b : Int)) ∧ w.cell? ⟨ga, 3, none⟩ = some (.string v)) ∧
  (w.cell? ⟨gb, 0, none⟩ = some (.int .u64 (j : Int)) ∧ w.cell? ⟨gb, 1, none⟩ = some (.int .u32 (c : Int)) ∧ w.cell? ⟨gb, 2, none⟩ = some (.int .u32 (d : Int)) ∧ w.cell? ⟨gb, 3, none⟩ = some (.string u))
set_option maxRecDepth 100000 in
theorem NS.same {g1 g2 ga gb x y i a b : Nat} {v : ByteArray} {j c d : Nat} {u : ByteArray} {w w' : World} (h : NS g1 g2 ga gb x y i a b v j c d u w) (e1 : w'.heap[g1]? = w.heap[g1]?) (e2 : w'.heap[g2]? = w.heap[g2]?) (e3 : w'.heap[ga]? = w.heap[ga]?) (e4 : w'.heap[gb]? = w.heap[gb]?) : NS g1 g2 ga gb x y i a b v j c d u w' := by
  obtain ⟨⟨h1, h2⟩, ⟨h3, h4, h5, h6⟩, h7, h8, h9, h10⟩ := h
  exact ⟨⟨(World.cell?_of_block (a := ⟨g1, 0, none⟩) e1).trans h1, (World.cell?_of_block (a := ⟨g2, 0, none⟩) e2).trans h2⟩,
    ⟨(World.cell?_of_block (a := ⟨ga, 0, none⟩) e3).trans h3, (World.cell?_of_block (a := ⟨ga, 1, none⟩) e3).trans h4, (World.cell?_of_block (a := ⟨ga, 2, none⟩) e3).trans h5, (World.cell?_of_block (a := ⟨ga, 3, none⟩) e3).trans h6⟩,
    (World.cell?_of_block (a := ⟨gb, 0, none⟩) e4).trans h7, (World.cell?_of_block (a := ⟨gb, 1, none⟩) e4).trans h8, (World.cell?_of_block (a := ⟨gb, 2, none⟩) e4).trans h9, (World.cell?_of_block (a := ⟨gb, 3, none⟩) e4).trans h10⟩
/-- What is known of a world on the way. -/
structure NW (w W : World) (g1 g2 ga gb x y i a b : Nat) (v : ByteArray) (j c d : Nat) (u : ByteArray) : Prop where
  ns : NS g1 g2 ga gb x y i a b v j c d u W
  bel : Below w.heap.size w W
  l1 : g1 < W.heap.size
  l2 : g2 < W.heap.size
  l3 : ga < W.heap.size
  l4 : gb < W.heap.size
set_option maxRecDepth 100000 in
theorem NW.grow {w W W' : World} {g1 g2 ga gb x y i a b : Nat} {v : ByteArray} {j c d : Nat} {u : ByteArray} (h : NW w W g1 g2 ga gb x y i a b v j c d u) (hb : Below W.heap.size W W') : NW w W' g1 g2 ga gb x y i a b v j c d u :=
  ⟨h.ns.same (hb.block _ h.l1) (hb.block _ h.l2) (hb.block _ h.l3) (hb.block _ h.l4), h.bel.trans (hb.mono h.bel.size), Nat.lt_of_lt_of_le h.l1 hb.size, Nat.lt_of_lt_of_le h.l2 hb.size, Nat.lt_of_lt_of_le h.l3 hb.size, Nat.lt_of_lt_of_le h.l4 hb.size⟩
set_option maxRecDepth 100000 in
set_option maxHeartbeats 8000000 in
theorem near1_any (ra rb : Rw) (g1 g2 x y : Nat) (hra : ra.x < 2147483648 ∧ ra.y < 2147483648) (hrb : rb.x < 2147483648 ∧ rb.y < 2147483648) (hx : x < 2147483648) (hy : y < 2147483648) (w : World) (hp : Pt2 w g1 g2 x y) :
    Calls Try.prog 47 #[rv ra, rv rb, .pointer (some ⟨g1, 0, none⟩), .pointer (some ⟨g2, 0, none⟩)] w fun e w' => e = .returned (.int .i64 (orS (cmpS (Rq.dist ra.x ra.y x y) (Rq.dist rb.x rb.y x y)) (cmpS ra.id rb.id))) ∧ Below w.heap.size w w' := by
  obtain ⟨i, a, b, v⟩ := ra
  obtain ⟨j, c, d, u⟩ := rb
  have HF1 : Hid _ := qfar_any i a b v x y hra.1 hra.2 hx hy
  have HF2 : Hid _ := qfar_any j c d u x y hrb.1 hrb.2 hx hy
  obtain ⟨p, hpd⟩ : ∃ p, Rq.dist a b x y = p := ⟨_, rfl⟩
  obtain ⟨q, hqd⟩ : ∃ q, Rq.dist c d x y = q := ⟨_, rfl⟩
  have HC1 : Hid _ := compare_any p q
  have HC2 : Hid _ := compare_any i j
  simp only [rv] at HF1 HF2 ⊢
  rw [hpd] at HF1 ⊢
  rw [hqd] at HF2 ⊢
  obtain ⟨z1, hz1⟩ : ∃ z1, cmpS p q = z1 := ⟨_, rfl⟩
  obtain ⟨z2, hz2⟩ : ∃ z2, cmpS i j = z2 := ⟨_, rfl⟩
  rw [hz1] at HC1 ⊢
  rw [hz2] at HC2 ⊢
  obtain ⟨y1, y2, y3⟩ := two_new w (.cells #[.int .u64 (i : Int), .int .u32 (a : Int), .int .u32 (b : Int), .string v] 26) (.cells #[.int .u64 (j : Int), .int .u32 (c : Int), .int .u32 (d : Int), .string u] 26)
  obtain ⟨W1, hW1⟩ : ∃ W1, (w.alloc (.cells #[.int .u64 (i : Int), .int .u32 (a : Int), .int .u32 (b : Int), .string v] 26)).alloc (.cells #[.int .u64 (j : Int), .int .u32 (c : Int), .int .u32 (d : Int), .string u] 26) = W1 := ⟨_, rfl⟩
  rw [hW1] at y1 y2 y3
  have hp1 := hp.grow y3 (Nat.le_refl _)
  have HW1 : Hid _ := hW1
  have HN0 : Hid (NW w W1.drew g1 g2 w.heap.size (w.heap.size + 1) x y i a b v j c d u) := ⟨⟨⟨by rw [World.cell?_of_block (a := ⟨g1, 0, none⟩) (show W1.drew.heap[g1]? = W1.heap[g1]? from rfl), cell_of_row _ _ _ _ _ _ hp1.x]; rfl, by rw [World.cell?_of_block (a := ⟨g2, 0, none⟩) (show W1.drew.heap[g2]? = W1.heap[g2]? from rfl), cell_of_row _ _ _ _ _ _ hp1.y]; rfl⟩, four_facts y1, four_facts y2⟩, y3.trans ⟨rfl, rfl, rfl, Nat.le_refl _, fun _ _ => rfl⟩, (Array.getElem?_eq_some_iff.1 hp1.x).1, (Array.getElem?_eq_some_iff.1 hp1.y).1, (Array.getElem?_eq_some_iff.1 y1).1, (Array.getElem?_eq_some_iff.1 y2).1⟩
  have HSW : Hid (NS g1 g2 w.heap.size (w.heap.size + 1) x y i a b v j c d u W1.drew) := HN0.out.ns
  clear hra hrb hx hy hpd hqd hz1 hz2 y1 y2 y3 hp1 hW1 hp
  go_enter Try.func47, Try.ntmps47
  go_wp2_with fail
  rw [HW1.out]
  clear HW1
  refine wp_region_held (S := NS g1 g2 w.heap.size (w.heap.size + 1) x y i a b v j c d u) (by kernel_rfl) ?_
  change wpAnyH _ _ _ _ _ _ _ _ (World.drew _)
  refine wpAnyH_take (i := 0) (v := ?_) rfl (by kernel_rfl) (by kernel_rfl) (by kernel_rfl) (fun _ _ _ h => h) (Or.inl ⟨by kernel_rfl, ?_⟩) HSW.out ?_
  rotate_left
  · intro w hS
    obtain ⟨⟨e1, e2⟩, ⟨e3, e4, e5, e6⟩, e7, e8, e9, e10⟩ := hS
    go_simp
    try with_reducible rfl
  conv in (Act.put _ _ _) => simp only [List.getElem_toArray, List.getElem_cons_succ, List.getElem_cons_zero, Act.put, List.setIfInBounds_toArray, List.set_cons_succ, List.set_cons_zero]
  refine wpAnyH_take (i := 1) (v := ?_) rfl (by kernel_rfl) (by kernel_rfl) (by kernel_rfl) (fun _ _ _ h => h) (Or.inl ⟨by kernel_rfl, ?_⟩) HSW.out ?_
  rotate_left
  · intro w hS
    obtain ⟨⟨e1, e2⟩, ⟨e3, e4, e5, e6⟩, e7, e8, e9, e10⟩ := hS
    go_simp
    try with_reducible rfl
  conv in (Act.put _ _ _) => simp only [List.getElem_toArray, List.getElem_cons_succ, List.getElem_cons_zero, Act.put, List.setIfInBounds_toArray, List.set_cons_succ, List.set_cons_zero]
  refine wpAnyH_take (i := 2) (v := ?_) rfl (by kernel_rfl) (by kernel_rfl) (by kernel_rfl) (fun _ _ _ h => h) (Or.inl ⟨by kernel_rfl, ?_⟩) HSW.out ?_
  rotate_left
  · intro w hS
    obtain ⟨⟨e1, e2⟩, ⟨e3, e4, e5, e6⟩, e7, e8, e9, e10⟩ := hS
    go_simp
    try with_reducible rfl
  conv in (Act.put _ _ _) => simp only [List.getElem_toArray, List.getElem_cons_succ, List.getElem_cons_zero, Act.put, List.setIfInBounds_toArray, List.set_cons_succ, List.set_cons_zero]
  refine wpAnyH_take (i := 4) (v := ?_) rfl (by kernel_rfl) (by kernel_rfl) (by kernel_rfl) (fun _ _ _ h => h) (Or.inl ⟨by kernel_rfl, ?_⟩) HSW.out ?_
  rotate_left
  · intro w hS
    obtain ⟨⟨e1, e2⟩, ⟨e3, e4, e5, e6⟩, e7, e8, e9, e10⟩ := hS
    go_simp
    try with_reducible rfl
  conv in (Act.put _ _ _) => simp only [List.getElem_toArray, List.getElem_cons_succ, List.getElem_cons_zero, Act.put, List.setIfInBounds_toArray, List.set_cons_succ, List.set_cons_zero]
  refine wpAnyH_take (i := 5) (v := ?_) rfl (by kernel_rfl) (by kernel_rfl) (by kernel_rfl) (fun _ _ _ h => h) (Or.inl ⟨by kernel_rfl, ?_⟩) HSW.out ?_
  rotate_left
  · intro w hS
    obtain ⟨⟨e1, e2⟩, ⟨e3, e4, e5, e6⟩, e7, e8, e9, e10⟩ := hS
    go_simp
    try with_reducible rfl
  conv in (Act.put _ _ _) => simp only [List.getElem_toArray, List.getElem_cons_succ, List.getElem_cons_zero, Act.put, List.setIfInBounds_toArray, List.set_cons_succ, List.set_cons_zero]
  refine wpAnyH_take (i := 6) (v := ?_) rfl (by kernel_rfl) (by kernel_rfl) (by kernel_rfl) (fun _ _ _ h => h) (Or.inl ⟨by kernel_rfl, ?_⟩) HSW.out ?_
  rotate_left
  · intro w hS
    obtain ⟨⟨e1, e2⟩, ⟨e3, e4, e5, e6⟩, e7, e8, e9, e10⟩ := hS
    go_simp
    try with_reducible rfl
  conv in (Act.put _ _ _) => simp only [List.getElem_toArray, List.getElem_cons_succ, List.getElem_cons_zero, Act.put, List.setIfInBounds_toArray, List.set_cons_succ, List.set_cons_zero]
  refine wpAnyH_take (i := 9) (v := ?_) rfl (by kernel_rfl) (by kernel_rfl) (by kernel_rfl) (fun _ _ _ h => h) (Or.inl ⟨by kernel_rfl, ?_⟩) HSW.out ?_
  rotate_left
  · intro w hS
    obtain ⟨⟨e1, e2⟩, ⟨e3, e4, e5, e6⟩, e7, e8, e9, e10⟩ := hS
    go_simp
    try with_reducible rfl
  conv in (Act.put _ _ _) => simp only [List.getElem_toArray, List.getElem_cons_succ, List.getElem_cons_zero, Act.put, List.setIfInBounds_toArray, List.set_cons_succ, List.set_cons_zero]
  refine wpAnyH_take (i := 10) (v := ?_) rfl (by kernel_rfl) (by kernel_rfl) (by kernel_rfl) (fun _ _ _ h => h) (Or.inl ⟨by kernel_rfl, ?_⟩) HSW.out ?_
  rotate_left
  · intro w hS
    obtain ⟨⟨e1, e2⟩, ⟨e3, e4, e5, e6⟩, e7, e8, e9, e10⟩ := hS
    go_simp
    try with_reducible rfl
  conv in (Act.put _ _ _) => simp only [List.getElem_toArray, List.getElem_cons_succ, List.getElem_cons_zero, Act.put, List.setIfInBounds_toArray, List.set_cons_succ, List.set_cons_zero]
  refine wpAnyH_take (i := 11) (v := ?_) rfl (by kernel_rfl) (by kernel_rfl) (by kernel_rfl) (fun _ _ _ h => h) (Or.inl ⟨by kernel_rfl, ?_⟩) HSW.out ?_
  rotate_left
  · intro w hS
    obtain ⟨⟨e1, e2⟩, ⟨e3, e4, e5, e6⟩, e7, e8, e9, e10⟩ := hS
    go_simp
    try with_reducible rfl
  conv in (Act.put _ _ _) => simp only [List.getElem_toArray, List.getElem_cons_succ, List.getElem_cons_zero, Act.put, List.setIfInBounds_toArray, List.set_cons_succ, List.set_cons_zero]
  refine wpAnyH_take (i := 12) (v := ?_) rfl (by kernel_rfl) (by kernel_rfl) (by kernel_rfl) (fun _ _ _ h => h) (Or.inl ⟨by kernel_rfl, ?_⟩) HSW.out ?_
  rotate_left
  · intro w hS
    obtain ⟨⟨e1, e2⟩, ⟨e3, e4, e5, e6⟩, e7, e8, e9, e10⟩ := hS
    go_simp
    try with_reducible rfl
  conv in (Act.put _ _ _) => simp only [List.getElem_toArray, List.getElem_cons_succ, List.getElem_cons_zero, Act.put, List.setIfInBounds_toArray, List.set_cons_succ, List.set_cons_zero]
  refine readyH 3 _ (by kernel_rfl) rfl (by kernel_rfl) (fun K hK => ?_)
  go_simp
  refine (HF1.out _).mono ?_
  rintro e w1 ⟨rfl, b1⟩
  have N1 : Hid (NW w w1 g1 g2 w.heap.size (w.heap.size + 1) x y i a b v j c d u) := HN0.out.grow b1
  have HSW : Hid (NS g1 g2 w.heap.size (w.heap.size + 1) x y i a b v j c d u w1) := N1.out.ns
  clear b1
  refine hK _ _ HSW.out ?_
  clear hK K
  refine readyH 7 _ (by kernel_rfl) rfl (by kernel_rfl) (fun K hK => ?_)
  go_simp
  refine (HF2.out _).mono ?_
  rintro e w2 ⟨rfl, b2⟩
  have N2 : Hid (NW w w2 g1 g2 w.heap.size (w.heap.size + 1) x y i a b v j c d u) := N1.out.grow b2
  have HSW : Hid (NS g1 g2 w.heap.size (w.heap.size + 1) x y i a b v j c d u w2) := N2.out.ns
  clear b2
  refine hK _ _ HSW.out ?_
  clear hK K
  refine readyH 8 _ (by kernel_rfl) rfl (by kernel_rfl) (fun K hK => ?_)
  go_simp
  refine (HC1.out _).mono ?_
  rintro e w3 ⟨rfl, hw3⟩
  have hw' := hw3.symm
  clear hw3
  subst hw'
  refine hK _ _ HSW.out ?_
  clear hK K
  refine readyH 13 _ (by kernel_rfl) rfl (by kernel_rfl) (fun K hK => ?_)
  go_simp
  refine (HC2.out _).mono ?_
  rintro e w4 ⟨rfl, hw4⟩
  have hw' := hw4.symm
  clear hw4
  subst hw'
  refine hK _ _ HSW.out ?_
  clear hK K
  have HT : Hid (NW w w2 g1 g2 w.heap.size (w.heap.size + 1) x y i a b v j c d u) := N2.out
  refine readyH 14 _ (by kernel_rfl) rfl (by kernel_rfl) (fun K hK => ?_)
  go_simp
  have hbn := below_new w2 (.cells #[.int .i64 z1, .int .i64 z2] 3)
  have hgn := heap_alloc_new w2 (.cells #[.int .i64 z1, .int .i64 z2] 3)
  have HT2 : Hid (NW w (w2.alloc (.cells #[.int .i64 z1, .int .i64 z2] 3)) g1 g2 w.heap.size (w.heap.size + 1) x y i a b v j c d u) := HT.out.grow hbn
  have HOR : Hid (∀ _ : True, _) := fun _ => or_any z1 z2 w2.heap.size (w2.alloc (.cells #[.int .i64 z1, .int .i64 z2] 3)) (by rw [cell_of_row _ _ _ _ _ _ hgn]; rfl) (by rw [cell_of_row _ _ _ _ _ _ hgn]; rfl)
  have HSW : Hid (NS g1 g2 w.heap.size (w.heap.size + 1) x y i a b v j c d u (w2.alloc (.cells #[.int .i64 z1, .int .i64 z2] 3))) := HT2.out.ns
  clear hbn hgn
  refine hK _ _ HSW.out ?_
  clear hK K
  refine readyH 15 _ (by kernel_rfl) rfl (by kernel_rfl) (fun K hK => ?_)
  go_simp
  refine Calls.mono (HOR.out trivial) ?_
  rintro e wz ⟨rfl, hwz⟩
  have hwz' := hwz.symm
  clear hwz
  subst hwz'
  refine hK _ _ HSW.out ?_
  clear hK K
  refine wpAnyH_take (i := 16) (v := ?_) rfl (by kernel_rfl) (by kernel_rfl) (by kernel_rfl) (fun _ _ _ h => h) (Or.inl ⟨by kernel_rfl, ?_⟩) HSW.out ?_
  rotate_left
  · intro w hS
    obtain ⟨⟨e1, e2⟩, ⟨e3, e4, e5, e6⟩, e7, e8, e9, e10⟩ := hS
    go_simp
    try with_reducible rfl
  conv in (Act.put _ _ _) => simp only [List.getElem_toArray, List.getElem_cons_succ, List.getElem_cons_zero, Act.put, List.setIfInBounds_toArray, List.set_cons_succ, List.set_cons_zero]
  refine wpAnyH_done (by kernel_rfl) ?_ _
  go_wp2_with fail
  go_ret
  exact ⟨rfl, HT2.out.bel⟩
set_option maxRecDepth 100000 in
theorem cmp_near (w0 : World) (g1 g2 x y M : Nat) (hx : x < 2147483648) (hy : y < 2147483648) (hp : Pt2 w0 g1 g2 x y) : Cmp w0 (nok M) (ltK (nkey x y M)) 47 #[.pointer (some ⟨g1, 0, none⟩), .pointer (some ⟨g2, 0, none⟩)] :=
  ⟨fun _ _ => rfl, fun W hW a b ha hb => (near1_any a b g1 g2 x y ha.2 hb.2 hx hy W (hp.grow hW (Nat.le_refl _))).mono fun _ _ ⟨h1, h2⟩ => ⟨_, h1, or_key _ _ _ _ M ha.1 hb.1, h2⟩⟩
end Go.Proofs.Ytaiiclkfnahghaa.Rq
/- The pieces of a tree: the rows of its nodes, and how far each is, the nearer ones ahead. -/
namespace Go.Proofs.Ytaiiclkfnahghaa.Rq
open Go.RowKit Go.Lib Go.Shelf
open Go.Proofs.Ytaiiclkfnahghaa.Rc
open Pz (Pc pcs pv)
attribute [local go_sem] Oper.semAt_some
set_option maxRecDepth 100000 in
theorem infoPiece : (Try.prog.info? 82).map (fun i => (i.zero, i.size, i.bytes)) = some (some (.agg #[.int .u64 0, .slice none 0 0]), 2, 32) := by kernel_rfl
set_option maxRecDepth 100000 in
theorem one_piece {w : World} {g : Nat} {r : Pc} {t : TypeId} {fr : Nat × Nat} (h : w.heap[g]? = some (.cells #[.int .u64 (r.aw : Int), .slice r.ro r.rn r.rc] t fr)) : Sl 2 w (some ⟨g, 0, none⟩) 1 1 (pcs r) := by
  refine ⟨Nat.le_refl _, by decide, (fun e => by cases e), rfl, fun _ => ⟨g, 0, rfl, (Array.getElem?_eq_some_iff.1 h).1, fun j u hu => ?_⟩⟩
  rw [Nat.zero_add, cell_of_row _ _ _ _ _ _ h]
  have : j < 2 := (List.getElem?_eq_some_iff.1 hu).1
  obtain rfl | rfl : j = 0 ∨ j = 1 := by omega
  all_goals exact hu
set_option maxRecDepth 100000 in
theorem pcs_one (r : Pc) : ∀ u ∈ pcs r, u.oneCell' = true := by
  intro u hu
  simp [pcs] at hu
  rcases hu with rfl | rfl <;> rfl
set_option maxRecDepth 100000 in
theorem away_le {x y : Nat} (hxy : onS x y = true) {m : List Rw} (ho : On m) {r : Rw} (hr : r ∈ m) : (fars (cx m) (cy m) (lev m : Int) x y).1 ≤ Rq.dist r.x r.y x y := by
  have hh := lev_has ho hr
  have hc := hasS_right hh
  have c := (rightS_nat _ _ _).1 hc
  have hf : fars (cx m) (cy m) (lev m : Int) x y = (farS (cx m) (cy m) (lev m) x y, 0) := by unfold fars; rw [if_pos ⟨hc, hxy⟩, Int.toNat_natCast]
  have h1 := far_le x y c hh
  rw [← dist_two] at h1
  rw [hf]
  exact h1
/-- A piece and its rows. -/
structure PA (w : World) (x y : Nat) (a : Pc × List Rw) : Prop where
  len : a.1.rn = a.2.length
  pos : 0 < a.2.length
  rows : RowsAt w a.1.ro a.1.rc a.2
  far : ∀ r ∈ a.2, a.1.aw ≤ Rq.dist r.x r.y x y
/-- What lies there within the walk. -/
structure PJ (w : World) (x y : Nat) (vs : List (List Rw)) (own : Nat → Prop) (t : Nat) (W : World) : Prop where
  rows : ∃ v ps, W.heap[w.heap.size]? = some (.cells #[v] 79 (0, 0)) ∧ W.ownsRow (w.heap.size + 1) 82 2 v ps.length (ps.flatMap pcs) ∧ (∀ b, v.ownBlock = some b → own b) ∧ ∃ L : List (Pc × List Rw), L.map Prod.fst = ps ∧ (∀ a ∈ L, PA w x y a) ∧ L.flatMap Prod.snd = seqs (fun _ => true) (vs.take t)
  bel : Below w.heap.size w W
  mine : own w.heap.size
  least : ∀ j, own j → w.heap.size ≤ j
set_option maxRecDepth 100000 in
theorem PJ.kw {w : World} {x y : Nat} {vs : List (List Rw)} {own : Nat → Prop} {t B : Nat} {W W' : World} (h : PJ w x y vs own t W) (hk : Kw B own W W') (hB : w.heap.size ≤ B) : PJ w x y vs own t W' := by
  obtain ⟨v, ps, h1, h2, h3, h4⟩ := h.rows
  exact ⟨⟨v, ps, (hk.block _ (Array.getElem?_eq_some_iff.1 h1).1 (.inr h.mine)).trans h1, own_same h2 fun b hb hlt => hk.block b hlt (.inr (h3 b hb)), h3, h4⟩, h.bel.trans ⟨hk.os, hk.tape, hk.output, hk.size, fun j hj => hk.block j (Nat.lt_of_lt_of_le hj h.bel.size) (.inl (by omega))⟩, h.mine, h.least⟩
set_option maxRecDepth 100000 in
theorem pieces1_any (a b : Pc) (w : World) : Calls Try.prog 79 #[pv a, pv b] w fun e w' => e = .returned (.int .i64 (cmpS a.aw b.aw)) ∧ Below w.heap.size w w' := by
  obtain ⟨i, x, y, v⟩ := a
  obtain ⟨j, s, t, u⟩ := b
  have HC : Hid _ := compare_any i j
  simp only [pv]
  generalize cmpS i j = c at *
  go_enter Try.func79, Try.ntmps79
  go_wp2_with fail
  refine (HC.out _).mono ?_
  rintro e w1 ⟨rfl, rfl⟩
  go_wp2_with fail
  go_ret
  exact ⟨rfl, (below_new w _).alloc (by simp) _⟩
set_option maxRecDepth 100000 in
theorem cmp_pieces (w0 : World) : Pz.Cmp w0 (fun _ => True) (Pz.ltK Pc.aw) 79 #[] :=
  ⟨fun _ _ => rfl, fun W _ a b _ _ => (pieces1_any a b W).mono fun e W' ⟨h1, h2⟩ => ⟨_, h1, by unfold cmpS Pz.ltK; by_cases c : a.aw < b.aw <;> by_cases c2 : b.aw < a.aw <;> simp [c, c2], h2⟩⟩
set_option maxRecDepth 100000 in
theorem perm_map_inv {α β : Type} (f : α → β) : ∀ {ps qs : List β}, qs.Perm ps → ∀ L : List α, L.map f = ps → ∃ L' : List α, L'.Perm L ∧ L'.map f = qs := by
  intro ps qs h
  induction h with
  | nil => intro L hL; exact ⟨L, List.Perm.refl _, hL⟩
  | cons x _ ih =>
    intro L hL
    cases L with
    | nil => cases hL
    | cons a L =>
      simp only [List.map_cons, List.cons.injEq] at hL
      obtain ⟨L', h1, h2⟩ := ih L hL.2
      exact ⟨a :: L', h1.cons a, by rw [List.map_cons, h2, hL.1]⟩
  | swap x y l =>
    intro L hL
    match L, hL with
    | a :: b :: L, hL =>
      simp only [List.map_cons, List.cons.injEq] at hL
      exact ⟨b :: a :: L, List.Perm.swap _ _ _, by simp [hL.1, hL.2.1, hL.2.2]⟩
  | trans _ _ ih1 ih2 =>
    intro L hL
    obtain ⟨L1, h1, h2⟩ := ih2 L hL
    obtain ⟨L2, h3, h4⟩ := ih1 L1 h2
    exact ⟨L2, h3.trans h1, h4⟩
set_option maxRecDepth 100000 in
theorem trio_new (w : World) (a b c : Obj) : (((w.alloc a).alloc b).alloc c).heap[w.heap.size]? = some a ∧ (((w.alloc a).alloc b).alloc c).heap[w.heap.size + 1]? = some b ∧ (((w.alloc a).alloc b).alloc c).heap[w.heap.size + 2]? = some c ∧ Below w.heap.size w (((w.alloc a).alloc b).alloc c) ∧ (((w.alloc a).alloc b).alloc c).heap.size = w.heap.size + 3 := by
  obtain ⟨x1, x2, x3⟩ := two_new w a b
  have hs : ((w.alloc a).alloc b).heap.size = w.heap.size + 2 := by simp
  have y1 := heap_alloc_new ((w.alloc a).alloc b) c
  have y2 := below_new ((w.alloc a).alloc b) c
  rw [hs] at y1 y2
  exact ⟨(y2.block _ (by omega)).trans x1, (y2.block _ (by omega)).trans x2, y1, x3.trans (y2.mono (by omega)), by simp⟩
set_option maxRecDepth 100000 in
/-- Not more pieces than rows. -/
theorem len_le {L : List (Pc × List Rw)} (h : ∀ a ∈ L, 0 < a.2.length) : L.length ≤ (L.flatMap Prod.snd).length := by
  induction L with
  | nil => simp
  | cons a L ih =>
    have h1 := h a (by simp)
    have h2 := ih fun b hb => h b (by simp [hb])
    rw [List.flatMap_cons, List.length_append, List.length_cons]
    omega
end Go.Proofs.Ytaiiclkfnahghaa.Rq
