/- Batch. -/
import Derived.Test.YthneciodobeehaaPTL
namespace Go.Proofs.Ythneciodobeehaa.Rp
open Go.RowKit Go.Lib Go.Shelf
open Go.Proofs.Ythneciodobeehaa.Rc Go.Proofs.Ythneciodobeehaa.Rq
attribute [local go_sem] Oper.semAt_some
/-- The first change that can't be done. -/
def fb (l : List Rw) (cs : List Ch) (n : Nat) : Option Nat := (List.range n).find? fun i => !(stE l cs i == 0)
set_option maxRecDepth 100000 in
theorem fb_some {l : List Rw} {cs : List Ch} {n i : Nat} (hi : i < n) (h1 : stE l cs i ≠ 0) (h2 : ∀ j, j < i → stE l cs j = 0) : fb l cs n = some i := by
  unfold fb
  rw [List.find?_eq_some_iff_getElem]
  refine ⟨by simpa using h1, i, by simpa using hi, by simp, fun j hj => ?_⟩
  simp [h2 j hj]
set_option maxRecDepth 100000 in
theorem fb_none {l : List Rw} {cs : List Ch} {n : Nat} (h : ∀ j, j < n → stE l cs j = 0) : fb l cs n = none := by
  unfold fb
  rw [List.find?_eq_none]
  intro i hi
  simp [h i (by simpa using hi)]
/-- What a batch comes to. -/
def btE (l : List Rw) (cs : List Ch) : Int := if rightL l = true then (if cs.length < 1 ∨ 64 < cs.length then 101 else match fb l cs cs.length with | some i => stE l cs i | none => 0) else 80
def btA (l : List Rw) (cs : List Ch) : Nat := if rightL l = true then (if cs.length < 1 ∨ 64 < cs.length then 0 else match fb l cs cs.length with | some i => i | none => 0) else 0
def btL (l : List Rw) (cs : List Ch) : List Rw := if rightL l = true then (if cs.length < 1 ∨ 64 < cs.length then [] else match fb l cs cs.length with | some _ => [] | none => stL l cs cs.length) else []
def BP (m : List Rw) (A : Nat) (E : Int) (w : World) (e : Ending) (w' : World) : Prop := ∃ o cap, e = .returned (.tuple #[.slice o m.length cap, .int .i64 (A : Int), .int .i64 E]) ∧ RowsAt w' o cap m ∧ Below w.heap.size w w'
set_option maxRecDepth 100000 in
set_option maxHeartbeats 2000000 in
theorem batch_no (o : Option Addr) (cap : Nat) (l : List Rw) (sv : Value) (w : World) (hr : RowsAt w o cap l) (h : rightL l = false) :
    Calls Try.prog 18 #[.slice o l.length cap, sv] w fun e w' => e = .returned (.tuple #[.slice none 0 0, .int .i64 0, .int .i64 80]) ∧ Below w.heap.size w w' := by
  have hb := below_new w (.cells #[.slice o l.length cap] 22)
  have hg := heap_alloc_new w (.cells #[.slice o l.length cap] 22)
  obtain ⟨W0, hW0⟩ : ∃ W0, w.alloc (.cells #[.slice o l.length cap] 22) = W0 := ⟨_, rfl⟩
  rw [hW0] at hb hg
  have HW0 : Hid _ := hW0
  have HB0 : Hid (Below w.heap.size w W0) := hb
  have c0 : W0.cell? ⟨w.heap.size, 0, none⟩ = some (.slice o l.length cap) := by rw [cell_of_row _ _ _ _ _ _ hg]; rfl
  have HC : Hid (∀ _ : True, _) := fun _ => qright_any l o cap W0 (hr.below hb (Nat.le_refl _))
  rw [h] at HC
  clear hb hg hW0 hr h
  go_enter Try.func18, Try.ntmps18
  go_wp2_with (first | (rw [HW0.out]; clear HW0))
  refine wp_scope_straight ?_
  go_wp2_with (first | (rw [HW0.out]; clear HW0))
  refine Calls.mono (HC.out trivial) ?_
  rintro e w1 ⟨rfl, b1⟩
  have HB1 : Hid (Below w.heap.size w w1) := HB0.out.trans (b1.mono HB0.out.size)
  clear b1
  go_wp2_with fail
  simp only [Exit.noGoto]
  go_ret3
  exact ⟨rfl, HB1.out⟩
set_option maxRecDepth 100000 in
set_option maxHeartbeats 2000000 in
theorem batch_size (o : Option Addr) (cap : Nat) (l : List Rw) (oo : Option Addr) (n ccap : Nat) (w : World) (hr : RowsAt w o cap l) (h : rightL l = true) (hn : n < 1 ∨ 64 < n) :
    Calls Try.prog 18 #[.slice o l.length cap, .slice oo n ccap] w fun e w' => e = .returned (.tuple #[.slice none 0 0, .int .i64 0, .int .i64 101]) ∧ Below w.heap.size w w' := by
  have hb := below_new w (.cells #[.slice o l.length cap] 22)
  have hg := heap_alloc_new w (.cells #[.slice o l.length cap] 22)
  obtain ⟨W0, hW0⟩ : ∃ W0, w.alloc (.cells #[.slice o l.length cap] 22) = W0 := ⟨_, rfl⟩
  rw [hW0] at hb hg
  have HW0 : Hid _ := hW0
  have HB0 : Hid (Below w.heap.size w W0) := hb
  have c0 : W0.cell? ⟨w.heap.size, 0, none⟩ = some (.slice o l.length cap) := by rw [cell_of_row _ _ _ _ _ _ hg]; rfl
  have HC : Hid (∀ _ : True, _) := fun _ => qright_any l o cap W0 (hr.below hb (Nat.le_refl _))
  rw [h] at HC
  clear hb hg hW0 hr h
  rcases (by omega : (n : Int) < 1 ∨ (¬ (n : Int) < 1 ∧ 64 < (n : Int))) with q1 | ⟨q1, q2⟩
  all_goals
    clear hn
    go_enter Try.func18, Try.ntmps18
    go_wp2_with (first | (rw [HW0.out]; clear HW0))
    refine wp_scope_straight ?_
    go_wp2_with (first | (rw [HW0.out]; clear HW0))
    refine Calls.mono (HC.out trivial) ?_
    rintro e w1 ⟨rfl, b1⟩
    have HB1 : Hid (Below w.heap.size w w1) := HB0.out.trans (b1.mono HB0.out.size)
    clear b1
    go_wp2_with fail
    simp only [Exit.noGoto]
    go_ret3
    exact ⟨rfl, HB1.out⟩
/-- What lies there within the loop. -/
structure BJ (w w1 w3 : World) (l : List Rw) (cs : List Ch) (own : Nat → Prop) (i : Nat) (W : World) : Prop where
  rows : ∃ o cap, W.heap[w.heap.size]? = some (.cells #[.slice o (stL l cs i).length cap] 22 (0, 0)) ∧ RowsAt W o cap (stL l cs i) ∧ ∀ b off, o = some ⟨b, off, none⟩ → 0 < (stL l cs i).length → b ≠ w3.heap.size + 1
  at' : W.heap[w1.heap.size]? = some (.cells #[.int .i64 (i : Int)] 3 (0, 0))
  fail : W.heap[w1.heap.size + 1]? = some (.cells #[.int .i64 0] 28 (0, 0))
  ok : ∀ j, j < i → stE l cs j = 0
  bel : Below w.heap.size w W
  mine : own w.heap.size ∧ own w1.heap.size ∧ own (w1.heap.size + 1)
structure BX (w w1 : World) (l : List Rw) (cs : List Ch) (n : Nat) (W : World) : Prop where
  bad : ∃ i, i < n ∧ stE l cs i ≠ 0 ∧ (∀ j, j < i → stE l cs j = 0) ∧ W.heap[w1.heap.size]? = some (.cells #[.int .i64 (i : Int)] 3 (0, 0)) ∧ W.heap[w1.heap.size + 1]? = some (.cells #[.int .i64 (stE l cs i)] 28 (0, 0))
  bel : Below w.heap.size w W
structure B2 (w w1 w3 : World) (l : List Rw) (cs : List Ch) (own : Nat → Prop) (i : Nat) (W : World) : Prop where
  rows : ∃ o cap, W.heap[w.heap.size]? = some (.cells #[.slice o (stL l cs (i + 1)).length cap] 22 (0, 0)) ∧ RowsAt W o cap (stL l cs (i + 1)) ∧ ∀ b off, o = some ⟨b, off, none⟩ → 0 < (stL l cs (i + 1)).length → b ≠ w3.heap.size + 1
  at' : W.heap[w1.heap.size]? = some (.cells #[.int .i64 (i : Int)] 3 (0, 0))
  fail : W.heap[w1.heap.size + 1]? = some (.cells #[.int .i64 (stE l cs i)] 28 (0, 0))
  ok : ∀ j, j < i → stE l cs j = 0
  bel : Below w.heap.size w W
  mine : own w.heap.size ∧ own w1.heap.size ∧ own (w1.heap.size + 1)
set_option maxRecDepth 100000 in
theorem lt_of {W : World} {j : Nat} {ob : Obj} (h : W.heap[j]? = some ob) : j < W.heap.size := (Array.getElem?_eq_some_iff.1 h).1
set_option maxRecDepth 100000 in
theorem BJ.grow {w w1 w3 : World} {l : List Rw} {cs : List Ch} {own : Nat → Prop} {i : Nat} {W W' : World} (h : BJ w w1 w3 l cs own i W) (hb : Below W.heap.size W W') : BJ w w1 w3 l cs own i W' := by
  obtain ⟨o, cap, h1, h2, h3⟩ := h.rows
  exact ⟨⟨o, cap, (hb.block _ (lt_of h1)).trans h1, h2.below hb (Nat.le_refl _), h3⟩, (hb.block _ (lt_of h.at')).trans h.at', (hb.block _ (lt_of h.fail)).trans h.fail, h.ok, h.bel.trans (hb.mono h.bel.size), h.mine⟩
set_option maxRecDepth 100000 in
theorem below_putj {w W : World} {j : Nat} {ob : Obj} (h : Below w.heap.size w W) (hj : w.heap.size ≤ j) : Below w.heap.size w (W.putObj j ob) := h.trans ⟨rfl, rfl, rfl, by simp [World.putObj], fun k hk => World.putObj_heap_other (by omega)⟩
set_option maxRecDepth 100000 in
theorem BJ.put {w w1 w3 : World} {l : List Rw} {cs : List Ch} {own : Nat → Prop} {i : Nat} {W : World} {ob : Obj} (h : BJ w w1 w3 l cs own i W) (hw : w.heap.size < w1.heap.size) (h3w : w1.heap.size + 1 < w3.heap.size) : BJ w w1 w3 l cs own i (W.putObj (w3.heap.size + 1) ob) := by
  obtain ⟨o, cap, h1, h2, h3⟩ := h.rows
  exact ⟨⟨o, cap, (World.putObj_heap_other (by omega)).trans h1, sl_keep h2 (by simp [World.putObj]) (fun b off e hn _ => World.putObj_heap_other (h3 b off e hn)), h3⟩, (World.putObj_heap_other (by omega)).trans h.at', (World.putObj_heap_other (by omega)).trans h.fail, h.ok, below_putj h.bel (by omega), h.mine⟩
set_option maxRecDepth 100000 in
theorem B2.put {w w1 w3 : World} {l : List Rw} {cs : List Ch} {own : Nat → Prop} {i : Nat} {W : World} {ob : Obj} (h : B2 w w1 w3 l cs own i W) (hw : w.heap.size < w1.heap.size) (h3w : w1.heap.size + 1 < w3.heap.size) : B2 w w1 w3 l cs own i (W.putObj (w3.heap.size + 1) ob) := by
  obtain ⟨o, cap, h1, h2, h3⟩ := h.rows
  exact ⟨⟨o, cap, (World.putObj_heap_other (by omega)).trans h1, sl_keep h2 (by simp [World.putObj]) (fun b off e hn _ => World.putObj_heap_other (h3 b off e hn)), h3⟩, (World.putObj_heap_other (by omega)).trans h.at', (World.putObj_heap_other (by omega)).trans h.fail, h.ok, below_putj h.bel (by omega), h.mine⟩
set_option maxRecDepth 100000 in
theorem BX.grow {w w1 : World} {l : List Rw} {cs : List Ch} {n : Nat} {W W' : World} (h : BX w w1 l cs n W) (hb : Below W.heap.size W W') : BX w w1 l cs n W' := by
  obtain ⟨i, h1, h2, h3, h4, h5⟩ := h.bad
  exact ⟨⟨i, h1, h2, h3, (hb.block _ (lt_of h4)).trans h4, (hb.block _ (lt_of h5)).trans h5⟩, h.bel.trans (hb.mono h.bel.size)⟩
set_option maxRecDepth 100000 in
theorem BX.put {w w1 : World} {l : List Rw} {cs : List Ch} {n j : Nat} {W : World} {ob : Obj} (h : BX w w1 l cs n W) (hw : w.heap.size < w1.heap.size) (hj : w1.heap.size + 1 < j) : BX w w1 l cs n (W.putObj j ob) := by
  obtain ⟨i, h1, h2, h3, h4, h5⟩ := h.bad
  exact ⟨⟨i, h1, h2, h3, (World.putObj_heap_other (by omega)).trans h4, (World.putObj_heap_other (by omega)).trans h5⟩, below_putj h.bel (by omega)⟩
set_option maxRecDepth 100000 in
theorem box1_set {W : World} {g : Nat} {v v' : Value} {t : TypeId} (h : W.heap[g]? = some (.cells #[v] t (0, 0))) : (W.setCell ⟨g, 0, none⟩ v').heap[g]? = some (.cells #[v'] t (0, 0)) := by
  have := heap_setCell_same W g 0 _ _ v' h
  simpa using this
set_option maxRecDepth 100000 in
/-- A box of one cell holds no rows, and no changes. -/
theorem sl_not_box {w : World} {g b off cap k n : Nat} {v : Value} {t : TypeId} {xs : List Value} (hg : w.heap[g]? = some (.cells #[v] t (0, 0))) (hr : Sl k w (some ⟨b, off, none⟩) n cap xs) (hk : 2 ≤ k) (hl : 0 < n) : b ≠ g := by
  obtain ⟨b', off', e, -, hc⟩ := hr.2.2.2.2 hl
  cases e
  intro e
  subst e
  have h4 := hr.2.2.2.1
  have hlen : 1 < xs.length := by
    have : 1 * k ≤ n * k := Nat.mul_le_mul_right k hl
    omega
  have h1 := hc 1 _ (List.getElem?_eq_getElem hlen)
  rw [cell_of_row _ _ _ _ _ _ hg] at h1
  rw [Array.getElem?_eq_none (by simp)] at h1
  cases h1
set_option maxRecDepth 100000 in
theorem applied1_eg : ∀ args w, (callFunc 37 args).run Try.prog w = .ok (.enter 37 args) w := enters_of Try.func37 (by kernel_rfl) rfl
set_option maxRecDepth 100000 in
set_option maxHeartbeats 4000000 in
theorem batch_ok (o : Option Addr) (cap : Nat) (l : List Rw) (oo : Option Addr) (ccap : Nat) (cs : List Ch) (w : World) (hr : RowsAt w o cap l) (hc : OpsAt w oo ccap cs) (h : rightL l = true) (hn : ¬ (cs.length < 1 ∨ 64 < cs.length)) :
    Calls Try.prog 18 #[.slice o l.length cap, .slice oo cs.length ccap] w (BP (match fb l cs cs.length with | some _ => [] | none => stL l cs cs.length) (match fb l cs cs.length with | some i => i | none => 0) (match fb l cs cs.length with | some i => stE l cs i | none => 0) w) := by
  have hb := below_new w (.cells #[.slice o l.length cap] 22)
  have hg := heap_alloc_new w (.cells #[.slice o l.length cap] 22)
  obtain ⟨W0, hW0⟩ : ∃ W0, w.alloc (.cells #[.slice o l.length cap] 22) = W0 := ⟨_, rfl⟩
  rw [hW0] at hb hg
  have HW0 : Hid _ := hW0
  have HB0 : Hid (Below w.heap.size w W0) := hb
  have HG0 : Hid (W0.heap[w.heap.size]? = some (.cells #[.slice o l.length cap] 22 (0, 0))) := hg
  have l0 : w.heap.size < W0.heap.size := (Array.getElem?_eq_some_iff.1 hg).1
  have c0 : W0.cell? ⟨w.heap.size, 0, none⟩ = some (.slice o l.length cap) := by rw [cell_of_row _ _ _ _ _ _ hg]; rfl
  have HC : Hid (∀ _ : True, _) := fun _ => qright_any l o cap W0 (hr.below hb (Nat.le_refl _))
  rw [h] at HC
  have HRW : Hid (RowsAt w o cap l) := hr
  have HCW : Hid (OpsAt w oo ccap cs) := hc
  obtain ⟨n, hnn⟩ : ∃ n, cs.length = n := ⟨_, rfl⟩
  rw [hnn] at hn ⊢
  have HN : Hid (cs.length = n) := hnn
  have q1 : ¬ (n : Int) < 1 := by omega
  have q2 : ¬ 64 < (n : Int) := by omega
  have HP : Hid (∀ (e : Ending) (w' : World), ((∃ i, i < n ∧ stE l cs i ≠ 0 ∧ (∀ j, j < i → stE l cs j = 0) ∧ e = .returned (.tuple #[.slice none 0 0, .int .i64 (i : Int), .int .i64 (stE l cs i)])) ∨ ((∀ j, j < n → stE l cs j = 0) ∧ ∃ o cap, e = .returned (.tuple #[.slice o (stL l cs n).length cap, .int .i64 0, .int .i64 0]) ∧ RowsAt w' o cap (stL l cs n))) → Below w.heap.size w w' → BP (match fb l cs n with | some _ => [] | none => stL l cs n) (match fb l cs n with | some i => i | none => 0) (match fb l cs n with | some i => stE l cs i | none => 0) w e w') := fun e w' h1 h2 => by
    rcases h1 with ⟨i, g1, g2, g3, g4⟩ | ⟨g1, o', cap', g2, g3⟩
    · rw [fb_some g1 g2 g3]
      exact ⟨none, 0, g4, Sl.nil 4 w', h2⟩
    · rw [fb_none g1]
      exact ⟨o', cap', g2, g3, h2⟩
  generalize BP (match fb l cs n with | some _ => [] | none => stL l cs n) (match fb l cs n with | some i => i | none => 0) (match fb l cs n with | some i => stE l cs i | none => 0) w = PST at *
  clear hb hg hW0 hr hc h hnn hn
  refine (callsIn_wide (n := 5)).1 ?_
  refine callsIn_of_wp_marks Try.func18 rfl trivial ?_ rfl
  simp only [Try.ntmps18, List.size_toArray, List.length_cons, List.length_nil, Nat.reduceAdd, Nat.reduceSub, Array.replicate_succ, Array.replicate_zero, List.push_toArray, List.append_toArray, List.nil_append, List.cons_append]
  gi_wp2_with (first | (rw [HW0.out]; clear HW0))
  refine (wpIn_wide (n := 5)).2 (wp_scope_straight ((wpIn_wide (n := 5)).1 ?_))
  gi_wp2_with (first | (rw [HW0.out]; clear HW0))
  refine ⟨trivial, callsIn_wide.2 (Calls.mono (HC.out trivial) ?_)⟩
  rintro e w1 ⟨rfl, b1⟩
  have HB1 : Hid (Below w.heap.size w w1) := HB0.out.trans (b1.mono HB0.out.size)
  have HG1 : Hid (w1.heap[w.heap.size]? = some (.cells #[.slice o l.length cap] 22 (0, 0))) := (b1.block _ l0).trans HG0.out
  have l1 : w.heap.size < w1.heap.size := Nat.lt_of_lt_of_le l0 b1.size
  clear b1 HC HB0 HG0 l0 c0
  have c0 : w1.cell? ⟨w.heap.size, 0, none⟩ = some (.slice o l.length cap) := by rw [cell_of_row _ _ _ _ _ _ HG1.out]; rfl
  obtain ⟨t1, t2, t3⟩ := two_new w1 (.cells #[.int .i64 0] 3) (.cells #[.int .i64 0] 28)
  have hs2 : ((w1.alloc (.cells #[.int .i64 0] 3)).alloc (.cells #[.int .i64 0] 28)).heap.size = w1.heap.size + 2 := by simp
  obtain ⟨w2, hw2⟩ : ∃ w2, (w1.alloc (.cells #[.int .i64 0] 3)).alloc (.cells #[.int .i64 0] 28) = w2 := ⟨_, rfl⟩
  rw [hw2] at t1 t2 t3 hs2
  have HW2 : Hid _ := hw2
  have HT2 : Hid (w2.heap[w1.heap.size]? = some (.cells #[.int .i64 0] 3 (0, 0)) ∧ w2.heap[w1.heap.size + 1]? = some (.cells #[.int .i64 0] 28 (0, 0)) ∧ Below w1.heap.size w1 w2) := ⟨t1, t2, t3⟩
  clear t1 t2 t3 hw2
  gi_wp2
  refine wpIn_label ?_
  gi_wp2
  rw [HW2.out]
  refine ⟨trivial, callsIn_wide.2 ((applied_any o l.length cap oo n ccap w2).mono ?_)⟩
  rintro e w3 ⟨rfl, hw3⟩
  obtain ⟨u1, u2, u3⟩ := two_new w2 (.cells #[.slice o l.length cap] 22) (.cells #[.slice oo n ccap] 39)
  have hs3 : w3.heap.size = w1.heap.size + 4 := by rw [hw3]; simp [hs2]
  rw [← hw3] at u1 u2 u3
  have HU : Hid (w3.heap[w2.heap.size]? = some (.cells #[.slice o l.length cap] 22 (0, 0)) ∧ w3.heap[w2.heap.size + 1]? = some (.cells #[.slice oo n ccap] 39 (0, 0))) := ⟨u1, u2⟩
  have hb13 : Below w1.heap.size w1 w3 := HT2.out.2.2.trans (u3.mono (by omega))
  have HB3 : Hid (Below w.heap.size w w3) := HB1.out.trans (hb13.mono HB1.out.size)
  have HSZ : Hid (w3.heap.size = w1.heap.size + 4 ∧ w2.heap.size = w1.heap.size + 2 ∧ w.heap.size < w1.heap.size) := ⟨hs3, hs2, l1⟩
  have hr3 := HRW.out.below HB3.out (Nat.le_refl _)
  have hc3 : OpsAt w3 oo ccap cs := Sl.below HCW.out HB3.out (Nat.le_refl _)
  have HLT : Hid ((∀ b off, o = some ⟨b, off, none⟩ → 0 < l.length → b < w.heap.size) ∧ (∀ b off, oo = some ⟨b, off, none⟩ → 0 < n → b < w.heap.size)) := ⟨fun b off e hn => sl_lt HRW.out e hn, fun b off e hn => sl_lt HCW.out e (by rw [HN.out]; exact hn)⟩
  have HJ0 : Hid (BJ w w1 w3 l cs (fun j => j = w.heap.size ∨ j = w1.heap.size ∨ j = w1.heap.size + 1) 0 w3) :=
    ⟨⟨o, cap, (hb13.block _ l1).trans HG1.out, hr3, fun b off e hn => by have := HLT.out.1 b off e hn; omega⟩, (u3.block _ (by omega)).trans HT2.out.1, (u3.block _ (by omega)).trans HT2.out.2.1, fun j hj => by omega, HB3.out, .inl rfl, .inr (.inl rfl), .inr (.inr rfl)⟩
  have HR3 : Hid (RowsAt w3 o cap l ∧ OpsAt w3 oo ccap cs) := ⟨hr3, hc3⟩
  have n64 : n ≤ 64 := by omega
  clear u1 u2 u3 hb13 hw3 hr3 hc3 HW2 c0 hs3 hs2 l1 HT2 HG1 HB1
  gi_wp2
  refine range_law11 (by omega) (gf := 37) (lb := #[.pointer (some ⟨w2.heap.size, 0, none⟩), .pointer (some ⟨w2.heap.size + 1, 0, none⟩)]) rfl applied1_eg (α := Option Addr × Nat × List Rw × Int) n (fun z => #[.slice z.1 z.2.2.1.length z.2.1, .int .i64 z.2.2.2]) (fun _ => rfl)
    (fun i z W => z.2.2.1 = stL l cs (i + 1) ∧ z.2.2.2 = stE l cs i ∧ RowsAt W z.1 z.2.1 z.2.2.1 ∧ ∀ b off, z.1 = some ⟨b, off, none⟩ → 0 < z.2.2.1.length → b ≠ w3.heap.size + 1 ∧ b ≠ w.heap.size ∧ b ≠ w1.heap.size + 1)
    (fun own i W => BJ w w1 w3 l cs own i W) (fun _ W => BX w w1 l cs n W) (.exit 0) ?hJ ?hJx ?hJp ?hJxp (fun own i z W => B2 w w1 w3 l cs own i W ∧ z.2.2.2 = stE l cs i) ?hJ2p (fun j => j = w.heap.size ∨ j = w1.heap.size ∨ j = w1.heap.size + 1) ?hown0 ?h0
    (fun z a' _ => a' = { tmps := #[.slice o l.length cap, .slice oo n ccap, .pointer (some ⟨w.heap.size, 0, none⟩), undef, .slice none 0 0, .int .i64 0, .int .i64 0, .pointer (some ⟨w1.heap.size, 0, none⟩), .pointer (some ⟨w1.heap.size + 1, 0, none⟩), .slice o l.length cap, .bool true, .bool false, .slice oo n ccap, .int .i64 (n : Int), .bool (decide ((n : Int) < 1)), .bool (decide ((n : Int) < 1)), .slice oo n ccap, .int .i64 (n : Int), .bool (decide (64 < (n : Int))), .bool (decide ((n : Int) < 1) || decide (64 < (n : Int))), .slice o l.length cap, .slice oo n ccap, .func (.func 37) #[] #[.pointer (some ⟨w2.heap.size, 0, none⟩), .pointer (some ⟨w2.heap.size + 1, 0, none⟩)], .slice z.1 z.2.2.1.length z.2.1, .int .i64 z.2.2.2, undef, undef, undef, undef, undef, undef, undef, undef, undef], defers := [] }) ?hA ?assign ?body ?iter ?done ?stop
  case hJ => intro own i A B h hb; exact h.grow hb
  case hJx => intro own A B h hb; exact h.grow hb
  case hJp => intro own i A ob h; exact h.put HSZ.out.2.2 (by have := HSZ.out; omega)
  case hJxp => intro own A ob h; exact h.put HSZ.out.2.2 (by have := HSZ.out; omega)
  case hJ2p => intro own i z A ob h; exact ⟨h.1.put HSZ.out.2.2 (by have := HSZ.out; omega), h.2⟩
  case hown0 => intro j hj; have := HSZ.out; omega
  case h0 => exact HJ0.out
  case hA => intro z a' W l' o' h _ _; exact h
  case assign =>
    intro l' own i z W' K' hi hok hJk hsz hol hK'
    obtain ⟨zo, zc, zl, zE⟩ := z
    obtain ⟨k1, k2, k3, k4⟩ := hok
    simp only at k1 k2 k3 k4
    subst k1
    obtain ⟨o1, cap1, g1, -, -⟩ := hJk.rows
    have hz := HSZ.out
    have d0 : W'.cell? ⟨w.heap.size, 0, none⟩ = some (.slice o1 (stL l cs i).length cap1) := by rw [cell_of_row _ _ _ _ _ _ g1]; rfl
    have z0 : W'.frozen? ⟨w.heap.size, 0, none⟩ = false := frozen_of_row W' _ 0 _ _ g1
    have m0 := lt_of g1
    have hA1 := box1_set (v' := .slice zo (stL l cs (i + 1)).length zc) g1
    have hAo : ∀ j, j ≠ w.heap.size → (W'.setCell ⟨w.heap.size, 0, none⟩ (.slice zo (stL l cs (i + 1)).length zc)).heap[j]? = W'.heap[j]? := fun j hj => Below.heap_setCell _ _ _ _ (fun e => hj e)
    have gf := (hAo _ (by omega)).trans hJk.fail
    have d1 : (W'.setCell ⟨w.heap.size, 0, none⟩ (.slice zo (stL l cs (i + 1)).length zc)).cell? ⟨w1.heap.size + 1, 0, none⟩ = some (.int .i64 0) := by rw [cell_of_row _ _ _ _ _ _ gf]; rfl
    have z1 : (W'.setCell ⟨w.heap.size, 0, none⟩ (.slice zo (stL l cs (i + 1)).length zc)).frozen? ⟨w1.heap.size + 1, 0, none⟩ = false := frozen_of_row _ _ 0 _ _ gf
    have m1 := lt_of gf
    have hC1 := box1_set (v' := .int .i64 zE) gf
    have hCo : ∀ j, j ≠ w1.heap.size + 1 → ((W'.setCell ⟨w.heap.size, 0, none⟩ (.slice zo (stL l cs (i + 1)).length zc)).setCell ⟨w1.heap.size + 1, 0, none⟩ (.int .i64 zE)).heap[j]? = (W'.setCell ⟨w.heap.size, 0, none⟩ (.slice zo (stL l cs (i + 1)).length zc)).heap[j]? := fun j hj => Below.heap_setCell _ _ _ _ (fun e => hj e)
    have hbt : But own W' ((W'.setCell ⟨w.heap.size, 0, none⟩ (.slice zo (stL l cs (i + 1)).length zc)).setCell ⟨w1.heap.size + 1, 0, none⟩ (.int .i64 zE)) := (but_set _ _ _ _ _ hJk.mine.1).trans (but_set _ _ _ _ _ hJk.mine.2.2)
    have HF : Hid (B2 w w1 w3 l cs own i ((W'.setCell ⟨w.heap.size, 0, none⟩ (.slice zo (stL l cs (i + 1)).length zc)).setCell ⟨w1.heap.size + 1, 0, none⟩ (.int .i64 zE)) ∧ But own W' ((W'.setCell ⟨w.heap.size, 0, none⟩ (.slice zo (stL l cs (i + 1)).length zc)).setCell ⟨w1.heap.size + 1, 0, none⟩ (.int .i64 zE))) := by
      refine ⟨⟨⟨zo, zc, (hCo _ (by omega)).trans hA1, sl_keep k3 hbt.size (fun b off e hn _ => (hCo b (k4 b off e hn).2.2).trans (hAo b (k4 b off e hn).2.1)), fun b off e hn => (k4 b off e hn).1⟩, (hCo _ (by omega)).trans ((hAo _ (by omega)).trans hJk.at'), ?_, hJk.ok, hJk.bel.trans ⟨rfl, rfl, rfl, hbt.size, fun j hj => (hCo j (by omega)).trans (hAo j (by omega))⟩, hJk.mine⟩, hbt⟩
      rw [hC1, k2]
    have HE : Hid (zE = stE l cs i) := k2
    obtain ⟨LN, hLN⟩ : ∃ LN, (stL l cs (i + 1)).length = LN := ⟨_, rfl⟩
    rw [hLN] at d1 z1 m1 HF ⊢
    have HLN : Hid ((stL l cs (i + 1)).length = LN) := hLN
    clear k2 k3 k4 g1 hA1 hAo gf hC1 hCo hbt hJk hi hsz hol hLN
    gi_wp2
    exact hK' _ _ HF.out.2 ⟨HF.out.1, HE.out⟩ (by simp [HLN.out])
  case iter =>
    intro l' W5 hl' hB5 hs5 R' Rx' ow how hR' hRx' hY' h0'
    have hz := HSZ.out
    have a1 : ∀ j, ow j → j < W5.heap.size := fun j hj => by
      rcases (how j).1 hj with (rfl | rfl | rfl) | rfl <;> omega
    have a2 : Off ow o l.length := fun j hj b off e hn he => by
      have := HLT.out.1 b off e hn
      rcases (how j).1 hj with (rfl | rfl | rfl) | rfl <;> omega
    have a3 : Off ow oo cs.length := fun j hj b off e hn he => by
      have := HLT.out.2 b off e (by rw [← HN.out]; exact hn)
      rcases (how j).1 hj with (rfl | rfl | rfl) | rfl <;> omega
    have h9 := applied1_any w2.heap.size (w2.heap.size + 1) l cs o cap oo ccap (by rw [HN.out]; exact n64) W5 (HR3.out.1.below hB5 (Nat.le_refl _)) (Sl.below HR3.out.2 hB5 (Nat.le_refl _)) ((hB5.block _ (by omega)).trans HU.out.1) (by rw [HN.out]; exact (hB5.block _ (by omega)).trans HU.out.2) l' R' Rx' ow ⟨a1, a2, a3⟩ hR' (fun own i o' cap' W hi hRi hro hlt hof hfr => hY' own i (o', cap', stL l cs (i + 1), stE l cs i) W (by rw [← HN.out]; exact hi) ⟨rfl, rfl, hro, fun b off e hn => by
      have := hfr b off e
      omega⟩ hRi hlt) h0'
    rw [HN.out] at h9
    exact h9
  case stop =>
    intro D own W' hDe hno hJ hdf
    have HDf : Hid _ := hdf
    obtain ⟨i, g1, g2, g3, g4, g5⟩ := hJ.bad
    have e0 : W'.cell? ⟨w1.heap.size, 0, none⟩ = some (.int .i64 (i : Int)) := by rw [cell_of_row _ _ _ _ _ _ g4]; rfl
    have e1 : W'.cell? ⟨w1.heap.size + 1, 0, none⟩ = some (.int .i64 (stE l cs i)) := by rw [cell_of_row _ _ _ _ _ _ g5]; rfl
    have m0 := lt_of g4
    have m1 := lt_of g5
    have HBd : Hid (i < n ∧ stE l cs i ≠ 0 ∧ ∀ j, j < i → stE l cs j = 0) := ⟨g1, g2, g3⟩
    have HBl : Hid (Below w.heap.size w W') := hJ.bel
    have HD : Hid (w.heap.size ≤ D) := by refine (?_ : w.heap.size ≤ D); have := HSZ.out; omega
    obtain ⟨E, hE⟩ : ∃ E, stE l cs i = E := ⟨_, rfl⟩
    rw [hE] at e1 g2
    have HE : Hid (stE l cs i = E) := hE
    have q5 : (E == 0) = false := by simpa using g2
    have q6 : decide (E = 0) = false := decide_eq_false g2
    clear hJ hdf hDe hno g1 g2 g3 g4 g5 hE
    gi_wp2
    gi_region
    gi_wp2
    rw [Exit.noGoto_ret]
    refine leaves_marks (fun W => results_tmp3 rfl _ _ _) [D] W'.drew (by simp) (fun E hE => by simp at hE; subst hE; exact HDf.out) fun W'' hb => HP.out _ W'' (.inl ⟨i, HBd.out.1, HBd.out.2.1, HBd.out.2.2, by rw [HE.out]; rfl⟩) (HBl.out.drew.trans ⟨hb.os, hb.tape, hb.output, hb.size, fun j hj => hb.block j (Nat.lt_of_lt_of_le hj HBl.out.size) fun e => ?_⟩)
    have e' : j = D := by simpa using e
    have := HD.out
    omega
  case done =>
    intro D own W' hDe hno hJ hdf
    have HDf : Hid _ := hdf
    obtain ⟨o9, cap9, g1, g2, -⟩ := hJ.rows
    have e0 : W'.cell? ⟨w.heap.size, 0, none⟩ = some (.slice o9 (stL l cs n).length cap9) := by rw [cell_of_row _ _ _ _ _ _ g1]; rfl
    have e1 : W'.cell? ⟨w1.heap.size + 1, 0, none⟩ = some (.int .i64 0) := by rw [cell_of_row _ _ _ _ _ _ hJ.fail]; rfl
    have m0 := lt_of g1
    have m1 := lt_of hJ.fail
    have HRo : Hid (RowsAt W' o9 cap9 (stL l cs n)) := g2
    have HOk : Hid (∀ j, j < n → stE l cs j = 0) := hJ.ok
    have HBl : Hid (Below w.heap.size w W') := hJ.bel
    have HD : Hid (w.heap.size ≤ D ∧ ∀ b off, o9 = some ⟨b, off, none⟩ → 0 < (stL l cs n).length → b ≠ D) := ⟨by have := HSZ.out; omega, fun b off e hn he => by
      subst he
      obtain ⟨b', off', e', -, hc'⟩ := g2.2.2.2.2 hn
      rw [e] at e'
      cases e'
      have hl9 : 0 < ((stL l cs n).flatMap rc).length := by rw [flat_len rc 4 (fun _ => rfl)]; omega
      have h9 := hc' 0 _ (List.getElem?_eq_getElem hl9)
      simp [World.cell?, hdf] at h9⟩
    obtain ⟨LN, hLN⟩ : ∃ LN, (stL l cs n).length = LN := ⟨_, rfl⟩
    rw [hLN] at e0
    have HLN : Hid ((stL l cs n).length = LN) := hLN
    clear hJ hdf hDe hno g1 g2 hLN
    gi_wp2
    rw [Exit.noGoto_ret]
    refine leaves_marks (fun W => results_tmp3 rfl _ _ _) [D] W' (by simp) (fun E hE => by simp at hE; subst hE; exact HDf.out) fun W'' hb => HP.out _ W'' (.inr ⟨HOk.out, o9, cap9, by rw [HLN.out]; rfl, sl_keep HRo.out hb.size fun b off e hn hlt => hb.block b hlt fun e' => HD.out.2 b off e hn (by simpa using e')⟩) (HBl.out.trans ⟨hb.os, hb.tape, hb.output, hb.size, fun j hj => hb.block j (Nat.lt_of_lt_of_le hj HBl.out.size) fun e => ?_⟩)
    have e' : j = D := by simpa using e
    have := HD.out.1
    omega
  case body =>
    intro l' own i z a' W' hi hJ hA hsz hol
    subst hA
    obtain ⟨hJ, hzE⟩ := hJ
    obtain ⟨zo, zc, zl, zE⟩ := z
    simp only at hzE
    have HJe : Hid (B2 w w1 w3 l cs own i W') := hJ
    have e1 : W'.cell? ⟨w1.heap.size + 1, 0, none⟩ = some (.int .i64 (stE l cs i)) := by rw [cell_of_row _ _ _ _ _ _ hJ.fail]; rfl
    have e0 : W'.cell? ⟨w1.heap.size, 0, none⟩ = some (.int .i64 (i : Int)) := by rw [cell_of_row _ _ _ _ _ _ hJ.at']; rfl
    have z0 : W'.frozen? ⟨w1.heap.size, 0, none⟩ = false := frozen_of_row W' _ 0 _ _ hJ.at'
    have m0 := lt_of hJ.at'
    have m1 := lt_of hJ.fail
    obtain ⟨E, hE⟩ : ∃ E, stE l cs i = E := ⟨_, rfl⟩
    rw [hE] at e1
    have HE : Hid (stE l cs i = E) := hE
    have HI : Hid (i < n) := hi
    by_cases hE0 : E = 0
    · subst hE0
      have hz := HSZ.out
      have hA1 := box1_set (v' := .int .i64 ((i : Int) + 1)) hJ.at'
      have hAo : ∀ j, j ≠ w1.heap.size → (W'.setCell ⟨w1.heap.size, 0, none⟩ (.int .i64 ((i : Int) + 1))).heap[j]? = W'.heap[j]? := fun j hj => Below.heap_setCell _ _ _ _ (fun e => hj e)
      have hbt : But own W' (W'.setCell ⟨w1.heap.size, 0, none⟩ (.int .i64 ((i : Int) + 1))) := but_set _ _ _ _ _ hJ.mine.2.1
      have HF : Hid (BJ w w1 w3 l cs own (i + 1) (W'.setCell ⟨w1.heap.size, 0, none⟩ (.int .i64 ((i : Int) + 1))) ∧ But own W' (W'.setCell ⟨w1.heap.size, 0, none⟩ (.int .i64 ((i : Int) + 1)))) := by
        obtain ⟨o9, cap9, g1, g2, g3⟩ := hJ.rows
        refine ⟨⟨⟨o9, cap9, (hAo _ (by omega)).trans g1, sl_keep g2 hbt.size (fun b off e hn _ => hAo b ?_), g3⟩, ?_, (hAo _ (by omega)).trans (by rw [hJ.fail, HE.out]), fun j hj => ?_, hJ.bel.trans ⟨rfl, rfl, rfl, hbt.size, fun j hj => hAo j (by omega)⟩, hJ.mine⟩, hbt⟩
        · subst e
          exact sl_not_box hJ.at' g2 (by decide) hn
        · rw [hA1]
          rfl
        · rcases Nat.lt_or_ge j i with h | h
          · exact hJ.ok j h
          · obtain rfl : j = i := by omega
            exact HE.out
      have i1 : (i : Int) + 1 ≤ 9223372036854775807 := by omega
      have i0 : (0 : Int) ≤ (i : Int) := by omega
      clear hJ hzE hA1 hAo hbt hE hi hsz hol
      gi_wp2
      exact ⟨own, fun j hj => .inl hj, HF.out.2, HF.out.1⟩
    · have q5 : (E == 0) = false := by simpa using hE0
      have q6 : decide (E = 0) = false := decide_eq_false hE0
      have HF : Hid (BX w w1 l cs n W') := ⟨⟨i, HI.out, by rw [HE.out]; exact hE0, hJ.ok, hJ.at', hJ.fail⟩, hJ.bel⟩
      clear hJ hzE hE hi hsz hol
      gi_wp2
      exact ⟨rfl, own, fun j hj => .inl hj, But.refl _ _, HF.out⟩
end Go.Proofs.Ythneciodobeehaa.Rp
