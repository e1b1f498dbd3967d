/- Rows, and one more among them. -/
import Derived.Test.YthneciodobeehaaPTD
import Derived.Test.YthneciodobeehaaPFW
namespace Go.Proofs.Ythneciodobeehaa.Rp
open Go.RowKit Go.Lib
open Go.Proofs.Ythneciodobeehaa.Rc Go.Proofs.Ythneciodobeehaa.Rq
set_option maxRecDepth 100000 in
theorem run_cut3 (o : Option Addr) (n cap r : Nat) (w : World) (hr : r ≤ cap) (ho : o = none → cap = 0) : (Instr.sliceAt 22 (.slice o n cap) none (some (.int .i64 (r : Int))) (some (.int .i64 (r : Int)))).run Try.prog w = .ok (.slice o r r) w := by
  have h1 : (r : Int) ≤ (cap : Int) := by omega
  cases o with
  | none =>
    have := ho rfl
    subst this
    obtain rfl : r = 0 := by omega
    simp [Instr.sliceAt, Instr.slice, run_underlying Try.underlying22, go_sem]
  | some a =>
    simp [Instr.sliceAt, Instr.slice, run_underlying Try.underlying22, go_sem]
    intro h
    omega
set_option maxRecDepth 100000 in
theorem run_tail (o : Option Addr) (n cap k : Nat) (w : World) (hk : k ≤ n) : (Instr.sliceAt 22 (.slice o n cap) (some (.int .i64 (k : Int))) none none).run Try.prog w = .ok (.slice (if cap = k then o else o.map (·.add (k * 4))) (n - k) (cap - k)) w := by
  have h1 : (k : Int) ≤ (n : Int) := by omega
  simp [Instr.sliceAt, Instr.slice, run_underlying Try.underlying22, go_sem]
  intro h
  omega
set_option maxRecDepth 100000 in
theorem rows_drop {w : World} {o : Option Addr} {cap : Nat} {l : List Rw} (h : RowsAt w o cap l) {k : Nat} (hk : k ≤ l.length) : RowsAt w (if cap = k then o else o.map (·.add (k * 4))) (cap - k) (l.drop k) := by
  have hl : (l.drop k).length = l.length - k := List.length_drop
  have h1 := h.1
  have h2 := h.2.1
  have h4 := h.2.2.2.1
  refine ⟨by omega, by omega, fun e => ?_, flat_len rc 4 (fun _ => rfl) _, fun hn => ?_⟩
  · split at e
    · have := h.2.2.1 e
      omega
    · have : o = none := by cases o with | none => rfl | some a => cases e
      have := h.2.2.1 this
      omega
  · obtain ⟨b, off, e, hlt, hc⟩ := h.2.2.2.2 (by omega)
    rw [if_neg (by omega), e]
    refine ⟨b, off + k * 4, ?_, hlt, fun j u hu => ?_⟩
    · simp [Addr.add]
    · have e2 : l.flatMap rc = (l.take k).flatMap rc ++ (l.drop k).flatMap rc := by rw [← List.flatMap_append, List.take_append_drop]
      have e3 : ((l.take k).flatMap rc).length = k * 4 := by rw [flat_len rc 4 (fun _ => rfl), List.length_take]; congr 1; omega
      have := hc (k * 4 + j) u (by rw [e2, List.getElem?_append_right (by omega), e3, Nat.add_sub_cancel_left]; exact hu)
      rwa [← Nat.add_assoc] at this
set_option maxRecDepth 100000 in
theorem own_base {W : World} {base : Nat} {e : TypeId} {k : Nat} {v : Value} {n : Nat} {xs : List Value} (h : W.ownsRow base e k v n xs) {b : Nat} (hb : v.ownBlock = some b) : base ≤ b ∧ b < W.heap.size := by
  rcases h.2 with ⟨rfl, _⟩ | ⟨g, cap, cur, rfl, h2, h3, _⟩
  · simp [Value.ownBlock] at hb
  · simp [Value.ownBlock] at hb; subst hb; exact ⟨h2, (Array.getElem?_eq_some_iff.1 h3).1⟩
set_option maxRecDepth 100000 in
theorem own_same {W W' : World} {base : Nat} {e : TypeId} {k : Nat} {v : Value} {n : Nat} {xs : List Value} (h : W.ownsRow base e k v n xs) (hs : ∀ b, v.ownBlock = some b → b < W.heap.size → W'.heap[b]? = W.heap[b]?) : W'.ownsRow base e k v n xs := by
  refine ⟨h.1, ?_⟩
  rcases h.2 with h | ⟨g, cap, cur, rfl, h2, h3, h4⟩
  · exact .inl h
  · exact .inr ⟨g, cap, cur, rfl, h2, (hs g rfl (Array.getElem?_eq_some_iff.1 h3).1).trans h3, h4⟩
set_option maxRecDepth 100000 in
theorem one_row {w : World} {g : Nat} {r : Rw} {t : TypeId} {fr : Nat × Nat} (h : w.heap[g]? = some (.cells #[.int .u64 (r.id : Int), .int .u32 (r.x : Int), .int .u32 (r.y : Int), .string r.v] t fr)) : Sl 4 w (some ⟨g, 0, none⟩) 1 1 (rc r) := by
  refine ⟨Nat.le_refl _, by decide, (fun e => by cases e), rfl, fun _ => ⟨g, 0, rfl, (Array.getElem?_eq_some_iff.1 h).1, fun j u hu => ?_⟩⟩
  rw [Nat.zero_add, cell_of_row _ _ _ _ _ _ h]
  have : j < 4 := (List.getElem?_eq_some_iff.1 hu).1
  obtain rfl | rfl | rfl | rfl : j = 0 ∨ j = 1 ∨ j = 2 ∨ j = 3 := by omega
  all_goals simpa [rc] using hu
set_option maxRecDepth 100000 in
theorem rc_one' (r : Rw) : ∀ u ∈ rc r, u.oneCell' = true := by
  have := rc_one [r]
  simpa using this
set_option maxRecDepth 100000 in
/-- A row behind rows that fill their slice: a new block. -/
theorem append_full (w : World) (o : Option Addr) (n : Nat) (l : List Rw) (hn : l.length = n) (hr : RowsAt w o n l) (g : Nat) (r : Rw) (hg : Sl 4 w (some ⟨g, 0, none⟩) 1 1 (rc r)) (hs : n ≤ 2000) :
    ∃ v' w', (Builtin.append_ #[22, 22] 22 #[.slice o n n, .slice (some ⟨g, 0, none⟩) 1 1]).run Try.prog w = .ok v' w' ∧ w'.ownsRow w.heap.size 27 4 v' (n + 1) ((l ++ [r]).flatMap rc) ∧ Below w.heap.size w w' := by
  have ef : (l ++ [r]).flatMap rc = l.flatMap rc ++ rc r := by rw [List.flatMap_append]; simp
  rw [ef]
  cases o with
  | none =>
    have h0 := hr.2.2.1 rfl
    subst h0
    have : l = [] := List.eq_nil_of_length_eq_zero hn
    subst this
    obtain ⟨v', w', h1, h2, h3, -⟩ := append_sl 22 27 Try.underlying22 infoRow rfl (by decide) (by decide) w w.heap.size 0 1 (.slice none 0 0) (some ⟨g, 0, none⟩) 1 [] (rc r) (World.ownsRow_nil _ _ _ _) (Nat.le_refl _) hg (rc_one' r) (by omega)
    exact ⟨v', w', h1, h2, (Below.refl _ w).grown h3 (Nat.le_refl _) fun b eb => by simp [Value.ownBlock] at eb⟩
  | some b =>
    obtain ⟨i0, hi, hz0, hz1, hz2⟩ := info_parts infoRow
    have hlen : (l.flatMap rc).length = n * 4 := by rw [flat_len rc 4 (fun _ => rfl), hn]
    have holds : ∀ j u, (l.flatMap rc)[j]? = some u → w.cell? (b.add j) = some u := fun j u hu => by
      have hj := (List.getElem?_eq_some_iff.1 hu).1
      refine Sl.cells hr ?_ b rfl j u hu
      rw [hlen] at hj
      rw [hn]
      omega
    have hnews : ∀ j u, (rc r)[j]? = some u → w.cell? ((⟨g, 0, none⟩ : Addr).add j) = some u := fun j u hu => Sl.cells hg (by decide) ⟨g, 0, none⟩ rfl j u hu
    obtain ⟨v', w', h1, h2, h3⟩ := run_append_arg_grows (P := Try.prog) (w := w) 22 22 27 i0 _ 4 32 Try.underlying22 hi hz0 hz1 hz2 rfl (by decide) b n n (l.flatMap rc) hlen holds ⟨g, 0, none⟩ 1 1 (rc r) rfl hnews (by omega) (by simp only [maxLen]; omega) (by omega)
    exact ⟨v', w', h1, h2, (Below.refl _ w).grown h3 (Nat.le_refl _) fun b eb => by cases eb⟩
/-- Rows with one more among them. -/
def insR (l : List Rw) (r : Rw) : List Rw := l.take (lowTo l r.id) ++ [r] ++ l.drop (lowTo l r.id)
/-- Rows in a new block. -/
def Fresh (B : Nat) (o : Option Addr) : Prop := ∀ b off, o = some ⟨b, off, none⟩ → B ≤ b
set_option maxRecDepth 100000 in
theorem own_fresh {w : World} {base n cap : Nat} {o : Option Addr} {t : TypeId} {cs : List Value} (h : w.ownsRow base t 4 (.slice o n cap) n cs) : Fresh base o := by
  intro b off e
  rcases h.2 with ⟨h1, -⟩ | ⟨g, cap', cur, h1, h2, -⟩
  · cases h1
    cases e
  · cases h1
    cases e
    exact h2
set_option maxRecDepth 100000 in
theorem Fresh.mono {B B' : Nat} {o : Option Addr} (h : Fresh B o) (hB : B' ≤ B) : Fresh B' o := fun b off e => Nat.le_trans hB (h b off e)
def WR (m : List Rw) (w : World) (e : Ending) (w' : World) : Prop := ∃ o cap, e = .returned (.slice o m.length cap) ∧ RowsAt w' o cap m ∧ Below w.heap.size w w' ∧ Fresh w.heap.size o
set_option maxRecDepth 100000 in
set_option maxHeartbeats 4000000 in
theorem with_any (o : Option Addr) (cap : Nat) (l : List Rw) (r : Rw) (w : World) (hmax : l.length ≤ 1000) (hri : Rise l) (hr : RowsAt w o cap l) :
    Calls Try.prog 26 #[.slice o l.length cap, rv r] w (WR (insR l r) w) := by
  obtain ⟨id, x, y, v⟩ := r
  have hb := below_new w (.cells #[.int .u64 (id : Int), .int .u32 (x : Int), .int .u32 (y : Int), .string v] 27)
  have hg := heap_alloc_new w (.cells #[.int .u64 (id : Int), .int .u32 (x : Int), .int .u32 (y : Int), .string v] 27)
  obtain ⟨W0, hW0⟩ : ∃ W0, w.alloc (.cells #[.int .u64 (id : Int), .int .u32 (x : Int), .int .u32 (y : Int), .string v] 27) = W0 := ⟨_, rfl⟩
  rw [hW0] at hb hg
  have HW0 : Hid _ := hW0
  have HG0 : Hid (W0.heap[w.heap.size]? = some (.cells #[.int .u64 (id : Int), .int .u32 (x : Int), .int .u32 (y : Int), .string v] 27 (0, 0))) := hg
  have l0 : w.heap.size < W0.heap.size := (Array.getElem?_eq_some_iff.1 hg).1
  have HB0 : Hid (Below w.heap.size w W0) := hb
  have c0 := (F4.of hg (r := ⟨id, x, y, v⟩)).1
  simp only at c0
  have HP : Hid (∀ _ : True, _) := fun _ => place_any o cap l id W0 hmax hri (hr.below hb (Nat.le_refl _))
  have HRW : Hid (RowsAt w o cap l) := hr
  have hp := low_le l id
  have hcap := hr.1
  have hnone := hr.2.2.1
  have hINS : insR l ⟨id, x, y, v⟩ = l.take (lowTo l id) ++ [⟨id, x, y, v⟩] ++ l.drop (lowTo l id) := rfl
  rw [hINS]
  clear hINS
  generalize lowTo l id = p at *
  have hrun1 := fun W => run_cut3 o l.length cap p W (by omega) hnone
  have hrun2 := fun W => run_tail o l.length cap p W hp
  have HLT : Hid ((l.take p).length = p) := by refine (?_ : (l.take p).length = p); rw [List.length_take]; omega
  have HL1 : Hid (l.length ≤ 1000) := hmax
  obtain ⟨o2, ho2⟩ : ∃ o2, (if cap = p then o else o.map (·.add (p * 4))) = o2 := ⟨_, rfl⟩
  rw [ho2] at hrun2
  have HO2 : Hid (∀ W, RowsAt W o cap l → RowsAt W o2 (cap - p) (l.drop p)) := fun W hW => ho2 ▸ rows_drop hW hp
  obtain ⟨n2, hn2⟩ : ∃ n2, l.length - p = n2 := ⟨_, rfl⟩
  obtain ⟨cap2, hc2⟩ : ∃ c2, cap - p = c2 := ⟨_, rfl⟩
  rw [hn2, hc2] at hrun2
  rw [hc2] at HO2
  have HN2 : Hid (l.length - p = n2) := hn2
  simp only [rv]
  clear hb hg hW0 hr hri ho2 hn2 hc2
  go_enter Try.func26, Try.ntmps26
  go_wp2_with (first | (rw [HW0.out]; clear HW0))
  refine Calls.mono (HP.out trivial) ?_
  rintro e w1 ⟨rfl, b1⟩
  have HB1 : Hid (Below w.heap.size w w1) := HB0.out.trans (b1.mono HB0.out.size)
  have HG1 : Hid _ := (b1.block _ l0).trans HG0.out
  have l1 : w.heap.size < w1.heap.size := Nat.lt_of_lt_of_le l0 b1.size
  have HSW : Hid (F4 w.heap.size ⟨id, x, y, v⟩ w1.drew) := F4.of HG1.out
  have p0 : (0 : Int) ≤ (p : Int) := by omega
  have p1 : (p : Int) ≤ (cap : Int) := by omega
  have p2 : (p : Int) ≤ (l.length : Int) := by omega
  clear b1 HP HB0 HG0 l0 c0
  go_wp2_with fail
  refine wp_region_held (S := F4 w.heap.size ⟨id, x, y, v⟩) (by kernel_rfl) ?_
  change wpAnyH _ _ _ _ _ _ _ _ (World.drew _)
  refine wpAnyH_take (i := 0) (v := ?_) rfl (by kernel_rfl) (by kernel_rfl) (by kernel_rfl) (fun _ _ _ h => h) (Or.inl ⟨by kernel_rfl, ?_⟩) HSW.out ?_
  rotate_left
  · intro w hS
    obtain ⟨e0, e1, e2, e3⟩ := hS
    go_simp
    try with_reducible rfl
  conv in (Act.put _ _ _) => simp only [List.getElem_toArray, List.getElem_cons_succ, List.getElem_cons_zero, Act.put, List.setIfInBounds_toArray, List.set_cons_succ, List.set_cons_zero]
  refine wpAnyH_take (i := 1) (v := ?_) rfl (by kernel_rfl) (by kernel_rfl) (by kernel_rfl) (fun _ _ _ h => h) (Or.inl ⟨by kernel_rfl, ?_⟩) HSW.out ?_
  rotate_left
  · intro w hS
    obtain ⟨e0, e1, e2, e3⟩ := hS
    go_simp
    try with_reducible rfl
  conv in (Act.put _ _ _) => simp only [List.getElem_toArray, List.getElem_cons_succ, List.getElem_cons_zero, Act.put, List.setIfInBounds_toArray, List.set_cons_succ, List.set_cons_zero]
  refine wpAnyH_take (i := 2) (v := ?_) rfl (by kernel_rfl) (by kernel_rfl) (by kernel_rfl) (fun _ _ _ h => h) (Or.inl ⟨by kernel_rfl, ?_⟩) HSW.out ?_
  rotate_left
  · intro w hS
    obtain ⟨e0, e1, e2, e3⟩ := hS
    go_simp
    try with_reducible rfl
  conv in (Act.put _ _ _) => simp only [List.getElem_toArray, List.getElem_cons_succ, List.getElem_cons_zero, Act.put, List.setIfInBounds_toArray, List.set_cons_succ, List.set_cons_zero]
  refine wpAnyH_take (i := 3) (v := ?_) rfl (by kernel_rfl) (by kernel_rfl) (by kernel_rfl) (fun _ _ _ h => h) (Or.inl ⟨by kernel_rfl, ?_⟩) HSW.out ?_
  rotate_left
  · intro w hS
    obtain ⟨e0, e1, e2, e3⟩ := hS
    go_simp
    try with_reducible rfl
  conv in (Act.put _ _ _) => simp only [List.getElem_toArray, List.getElem_cons_succ, List.getElem_cons_zero, Act.put, List.setIfInBounds_toArray, List.set_cons_succ, List.set_cons_zero]
  refine wpAnyH_take (i := 4) (v := ?_) rfl (by kernel_rfl) (by kernel_rfl) (by kernel_rfl) (fun _ _ _ h => h) (Or.inl ⟨by kernel_rfl, ?_⟩) HSW.out ?_
  rotate_left
  · intro w hS
    obtain ⟨e0, e1, e2, e3⟩ := hS
    go_simp
    try with_reducible rfl
  conv in (Act.put _ _ _) => simp only [List.getElem_toArray, List.getElem_cons_succ, List.getElem_cons_zero, Act.put, List.setIfInBounds_toArray, List.set_cons_succ, List.set_cons_zero]
  refine readyH 5 _ (by kernel_rfl) rfl (by kernel_rfl) (fun K hK => ?_)
  go_simp
  have hbn := below_new w1.drew (.cells #[.int .u64 (id : Int), .int .u32 (x : Int), .int .u32 (y : Int), .string v] 27)
  have hgn := heap_alloc_new w1.drew (.cells #[.int .u64 (id : Int), .int .u32 (x : Int), .int .u32 (y : Int), .string v] 27)
  have HB2 : Hid (Below w.heap.size w (w1.drew.alloc (.cells #[.int .u64 (id : Int), .int .u32 (x : Int), .int .u32 (y : Int), .string v] 27))) := HB1.out.drew.trans (hbn.mono HB1.out.size)
  have hr2 := HRW.out.below HB2.out (Nat.le_refl _)
  have hrt := RowsAt.head hr2 p
  have hrt2 : RowsAt (w1.drew.alloc (.cells #[.int .u64 (id : Int), .int .u32 (x : Int), .int .u32 (y : Int), .string v] 27)) o p (l.take p) := by
    have h9 := HLT.out
    exact ⟨by omega, by simp only [maxLen]; omega, fun e => by have := hnone e; omega, hrt.2.2.2.1, hrt.2.2.2.2⟩
  obtain ⟨v', W2, hrun, a1, a2⟩ := append_full _ o p (l.take p) HLT.out hrt2 w1.heap.size ⟨id, x, y, v⟩ (one_row (r := ⟨id, x, y, v⟩) hgn) (by omega)
  have hs2 : w1.drew.heap.size = w1.heap.size := rfl
  have HSW2 : Hid (F4 w.heap.size ⟨id, x, y, v⟩ (w1.drew.alloc (.cells #[.int .u64 (id : Int), .int .u32 (x : Int), .int .u32 (y : Int), .string v] 27))) := F4.same HSW.out (hbn.block _ l1)
  have HSW3 : Hid (F4 w.heap.size ⟨id, x, y, v⟩ W2) := F4.same HSW2.out (a2.block _ (by simp; omega))
  have HB3 : Hid (Below w.heap.size w W2) := HB2.out.trans (a2.mono HB2.out.size)
  have HR3 : Hid (RowsAt W2 o cap l) := hr2.below a2 (Nat.le_refl _)
  have LW : Hid (w.heap.size ≤ (w1.drew.alloc (.cells #[.int .u64 (id : Int), .int .u32 (x : Int), .int .u32 (y : Int), .string v] 27)).heap.size) := HB2.out.size
  have ha1 := a1
  obtain ⟨o3, cap3, rfl, -⟩ := sl_of_own a1
  obtain ⟨v4, W3, hrun3, d1, d2, -⟩ := append_sl 22 27 Try.underlying22 infoRow rfl (by decide) (by decide) W2 _ (p + 1) n2 (.slice o3 (p + 1) cap3) o2 cap2 _ ((l.drop p).flatMap rc) ha1 a2.size (by have := HO2.out W2 HR3.out; unfold RowsAt at this; rw [List.length_drop, HN2.out] at this; exact this) (rc_one _) (by have := HN2.out; omega)
  have HE : Hid (∃ o cap, v4 = .slice o (l.take p ++ [(⟨id, x, y, v⟩ : Rw)] ++ l.drop p).length cap ∧ RowsAt W3 o cap (l.take p ++ [(⟨id, x, y, v⟩ : Rw)] ++ l.drop p) ∧ Below w.heap.size w W3 ∧ Fresh w.heap.size o) := by
    have e1 : p + 1 + n2 = (l.take p ++ [(⟨id, x, y, v⟩ : Rw)] ++ l.drop p).length := by
      rw [List.length_append, List.length_append, HLT.out, List.length_drop, HN2.out]; rfl
    rw [← List.flatMap_append, e1] at d1
    obtain ⟨o4, cap4, h1, h2⟩ := sl_of_own d1
    subst h1
    refine ⟨o4, cap4, rfl, h2, HB3.out.grown d2 HB3.out.size fun b eb => ?_, (own_fresh d1).mono LW.out⟩
    have := (own_base ha1 eb).1
    have := LW.out
    omega
  clear hr2 hrt hrt2 a1 a2 ha1 hbn hgn d1 d2
  refine hK _ _ HSW2.out ?_
  clear hK K
  refine readyH 6 _ (by kernel_rfl) rfl (by kernel_rfl) (fun K hK => ?_)
  refine op_append 22 22 (.tmp 14) (.tmp 16) rfl rfl rfl hrun ?_
  refine hK _ _ HSW3.out ?_
  clear hK K
  clear HSW
  have HSW : Hid (F4 w.heap.size ⟨id, x, y, v⟩ W2) := HSW3.out
  refine wpAnyH_take (i := 7) (v := ?_) rfl (by kernel_rfl) (by kernel_rfl) (by kernel_rfl) (fun _ _ _ h => h) (Or.inl ⟨by kernel_rfl, ?_⟩) HSW.out ?_
  rotate_left
  · intro w hS
    obtain ⟨e0, e1, e2, e3⟩ := hS
    go_simp
    try with_reducible rfl
  conv in (Act.put _ _ _) => simp only [List.getElem_toArray, List.getElem_cons_succ, List.getElem_cons_zero, Act.put, List.setIfInBounds_toArray, List.set_cons_succ, List.set_cons_zero]
  refine wpAnyH_done (by kernel_rfl) ?_ _
  go_wp2_with (at_builtin; refine list_append rfl 22 22 (.tmp 18) (.tmp 21) rfl (vs := .slice o3 (p + 1) cap3) (vx := .slice o2 n2 cap2) rfl rfl hrun3 ?_)
  obtain ⟨o4, cap4, rfl, hE1, hE2⟩ := HE.out
  go_ret
  exact ⟨o4, cap4, rfl, hE1, hE2.1, hE2.2⟩
end Go.Proofs.Ythneciodobeehaa.Rp
