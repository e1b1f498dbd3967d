/- Where the row of an id stands, or would stand: found by halves. -/
import Derived.Test.YthneciodobeehaaPGC
import Derived.Test.YthneciodobeehaaPCJ
namespace Go.Proofs.Ythneciodobeehaa.Rp
open Go.RowKit Go.Lib
open Go.Proofs.Ythneciodobeehaa.Rc Go.Proofs.Ythneciodobeehaa.Rq
/-- Two boxes: the rows' and the query's, and one row. -/
def G1 (g h : Nat) (o : Option Addr) (n cap : Nat) (af b x id : Nat) (w : World) : Prop := w.cell? ⟨g, 0, none⟩ = some (.slice o n cap) ∧ w.cell? ⟨h, 0, none⟩ = some (.int .u64 (af : Int)) ∧ w.cell? ⟨b, x, none⟩ = some (.int .u64 (id : Int))
set_option maxRecDepth 100000 in
set_option maxHeartbeats 2000000 in
theorem place1_any (g h i : Nat) (o : Option Addr) (cap : Nat) (l : List Rw) (af : Nat) (w : World) (hi : i < l.length) (hr : RowsAt w o cap l) (hg : w.cell? ⟨g, 0, none⟩ = some (.slice o l.length cap)) (hh : w.cell? ⟨h, 0, none⟩ = some (.int .u64 (af : Int))) :
    Calls Try.prog 33 #[.int .i64 (i : Int), .pointer (some ⟨g, 0, none⟩), .pointer (some ⟨h, 0, none⟩)] w fun e w' => e = .returned (.bool (decide (af ≤ (rat l i).id))) ∧ Below w.heap.size w w' := by
  obtain ⟨b, off, rfl, hbl, hc⟩ := hr.row hi
  have c0 := (hc i hi).1
  have q1 : (i : Int) < (l.length : Int) := by omega
  have q0 : (0 : Int) ≤ (i : Int) := by omega
  obtain ⟨id, hid⟩ : ∃ id, (rat l i).id = id := ⟨_, rfl⟩
  rw [hid] at c0 ⊢
  have HB : Hid (Below w.heap.size w w.drew) := (Below.refl _ w).drew
  have HSW : Hid (G1 g h (some ⟨b, off, none⟩) l.length cap af b (off + i * 4) id w.drew) := ⟨hg, hh, c0⟩
  clear hc hg hh c0 hid
  go_enter Try.func33, Try.ntmps33
  go_wp2_with fail
  refine wp_region_held (S := G1 g h (some ⟨b, off, none⟩) l.length cap af b (off + i * 4) id) (by kernel_rfl) ?_
  change wpAnyH _ _ _ _ _ _ _ _ (World.drew _)
  refine wpAnyH_take (i := 0) (v := ?_) rfl (by kernel_rfl) (by kernel_rfl) (by kernel_rfl) (fun _ _ _ h => h) (Or.inl ⟨by kernel_rfl, ?_⟩) HSW.out ?_
  rotate_left
  · intro w hS
    obtain ⟨e0, e1, e2⟩ := hS
    go_simp
    try with_reducible rfl
  conv in (Act.put _ _ _) => simp only [List.getElem_toArray, List.getElem_cons_succ, List.getElem_cons_zero, Act.put, List.setIfInBounds_toArray, List.set_cons_succ, List.set_cons_zero]
  refine wpAnyH_take (i := 1) (v := ?_) rfl (by kernel_rfl) (by kernel_rfl) (by kernel_rfl) (fun _ _ _ h => h) (Or.inl ⟨by kernel_rfl, ?_⟩) HSW.out ?_
  rotate_left
  · intro w hS
    obtain ⟨e0, e1, e2⟩ := hS
    go_simp
    try with_reducible rfl
  conv in (Act.put _ _ _) => simp only [List.getElem_toArray, List.getElem_cons_succ, List.getElem_cons_zero, Act.put, List.setIfInBounds_toArray, List.set_cons_succ, List.set_cons_zero]
  refine wpAnyH_take (i := 2) (v := ?_) rfl (by kernel_rfl) (by kernel_rfl) (by kernel_rfl) (fun _ _ _ h => h) (Or.inl ⟨by kernel_rfl, ?_⟩) HSW.out ?_
  rotate_left
  · intro w hS
    obtain ⟨e0, e1, e2⟩ := hS
    go_simp
    try with_reducible rfl
  conv in (Act.put _ _ _) => simp only [List.getElem_toArray, List.getElem_cons_succ, List.getElem_cons_zero, Act.put, List.setIfInBounds_toArray, List.set_cons_succ, List.set_cons_zero]
  refine wpAnyH_take (i := 3) (v := ?_) rfl (by kernel_rfl) (by kernel_rfl) (by kernel_rfl) (fun _ _ _ h => h) (Or.inl ⟨by kernel_rfl, ?_⟩) HSW.out ?_
  rotate_left
  · intro w hS
    obtain ⟨e0, e1, e2⟩ := hS
    go_simp
    try with_reducible rfl
  conv in (Act.put _ _ _) => simp only [List.getElem_toArray, List.getElem_cons_succ, List.getElem_cons_zero, Act.put, List.setIfInBounds_toArray, List.set_cons_succ, List.set_cons_zero]
  refine wpAnyH_take (i := 4) (v := ?_) rfl (by kernel_rfl) (by kernel_rfl) (by kernel_rfl) (fun _ _ _ h => h) (Or.inl ⟨by kernel_rfl, ?_⟩) HSW.out ?_
  rotate_left
  · intro w hS
    obtain ⟨e0, e1, e2⟩ := hS
    go_simp
    try with_reducible rfl
  conv in (Act.put _ _ _) => simp only [List.getElem_toArray, List.getElem_cons_succ, List.getElem_cons_zero, Act.put, List.setIfInBounds_toArray, List.set_cons_succ, List.set_cons_zero]
  refine wpAnyH_take (i := 5) (v := ?_) rfl (by kernel_rfl) (by kernel_rfl) (by kernel_rfl) (fun _ _ _ h => h) (Or.inl ⟨by kernel_rfl, ?_⟩) HSW.out ?_
  rotate_left
  · intro w hS
    obtain ⟨e0, e1, e2⟩ := hS
    go_simp
    try with_reducible rfl
  conv in (Act.put _ _ _) => simp only [List.getElem_toArray, List.getElem_cons_succ, List.getElem_cons_zero, Act.put, List.setIfInBounds_toArray, List.set_cons_succ, List.set_cons_zero]
  refine wpAnyH_take (i := 6) (v := ?_) rfl (by kernel_rfl) (by kernel_rfl) (by kernel_rfl) (fun _ _ _ h => h) (Or.inl ⟨by kernel_rfl, ?_⟩) HSW.out ?_
  rotate_left
  · intro w hS
    obtain ⟨e0, e1, e2⟩ := hS
    go_simp
    try with_reducible rfl
  conv in (Act.put _ _ _) => simp only [List.getElem_toArray, List.getElem_cons_succ, List.getElem_cons_zero, Act.put, List.setIfInBounds_toArray, List.set_cons_succ, List.set_cons_zero]
  refine wpAnyH_take (i := 7) (v := ?_) rfl (by kernel_rfl) (by kernel_rfl) (by kernel_rfl) (fun _ _ _ h => h) (Or.inl ⟨by kernel_rfl, ?_⟩) HSW.out ?_
  rotate_left
  · intro w hS
    obtain ⟨e0, e1, e2⟩ := hS
    go_simp
    try with_reducible rfl
  conv in (Act.put _ _ _) => simp only [List.getElem_toArray, List.getElem_cons_succ, List.getElem_cons_zero, Act.put, List.setIfInBounds_toArray, List.set_cons_succ, List.set_cons_zero]
  refine wpAnyH_done (by kernel_rfl) ?_ _
  go_wp2_with fail
  go_ret
  exact ⟨rfl, HB.out⟩
/-- How many rows come ahead of an id. -/
def lowTo (l : List Rw) (af : Nat) : Nat := l.findIdx fun r => decide (af ≤ r.id)
set_option maxRecDepth 100000 in
theorem lowTo_is {l : List Rw} {af n : Nat} (hn : n ≤ l.length) (h1 : ∀ j, j < n → (rat l j).id < af) (h2 : ∀ j, n ≤ j → j < l.length → af ≤ (rat l j).id) : lowTo l af = n := by
  unfold lowTo
  by_cases h : n < l.length
  · rw [List.findIdx_eq h]
    refine ⟨?_, fun j hj => ?_⟩
    · have := h2 n (Nat.le_refl _) h
      rw [rat_get h] at this
      simpa using this
    · have := h1 j hj
      rw [rat_get (by omega)] at this
      simpa using this
  · obtain rfl : n = l.length := by omega
    rw [List.findIdx_eq_length]
    intro r hr
    obtain ⟨j, hj, rfl⟩ := List.getElem_of_mem hr
    have := h1 j hj
    rw [rat_get hj] at this
    simpa using this
set_option maxRecDepth 100000 in
theorem rise_lt {l : List Rw} (h : Rise l) {i j : Nat} (hij : i < j) (hj : j < l.length) : (rat l i).id < (rat l j).id := by
  rw [rat_get (by omega), rat_get hj]
  exact List.pairwise_iff_getElem.1 h i j (by omega) hj hij
set_option maxRecDepth 100000 in
set_option maxHeartbeats 2000000 in
theorem search_any (g h : Nat) (o : Option Addr) (cap : Nat) (l : List Rw) (af : Nat) (w : World) (hmax : l.length ≤ 1000) (hri : Rise l) (hr : RowsAt w o cap l) (bg : g < w.heap.size) (bh : h < w.heap.size) (hg : w.cell? ⟨g, 0, none⟩ = some (.slice o l.length cap)) (hh : w.cell? ⟨h, 0, none⟩ = some (.int .u64 (af : Int))) :
    Calls Try.prog 32 #[.int .i64 (l.length : Int), .func (.func 33) #[] #[.pointer (some ⟨g, 0, none⟩), .pointer (some ⟨h, 0, none⟩)]] w fun e w' => e = .returned (.int .i64 (lowTo l af : Int)) ∧ Below w.heap.size w w' := by
  have HC : Hid (∀ W i, Below w.heap.size w W → i < l.length → _) := fun W i hW hi => place1_any g h i o cap l af W hi (hr.below hW (Nat.le_refl _)) ((World.cell?_of_block (a := ⟨g, 0, none⟩) (hW.block g bg)).trans hg) ((World.cell?_of_block (a := ⟨h, 0, none⟩) (hW.block h bh)).trans hh)
  have HRI : Hid (Rise l) := hri
  have n0 : (l.length : Int) ≤ 1000 := by omega
  clear hr hg hh hri
  go_enter Try.func32, Try.ntmps32
  go_wp2_with fail
  go_loopw [5, 6] (fun iv jv wr => ∃ i j : Nat, i ≤ j ∧ j ≤ l.length ∧ iv = .int .i64 (i : Int) ∧ jv = .int .i64 (j : Int) ∧ (∀ k, k < i → (rat l k).id < af) ∧ (∀ k, j ≤ k → k < l.length → af ≤ (rat l k).id) ∧ Below w.heap.size w wr) (fun iv jv _ => natOf jv - natOf iv)
  case atStart => exact ⟨0, l.length, Nat.zero_le _, Nat.le_refl _, rfl, rfl, fun k hk => by omega, fun k h1 h2 => by omega, Below.refl _ _⟩
  case round =>
    obtain ⟨i, j, hij, hj, rfl, rfl, a1, a2, hb⟩ := hrel
    have HA : Hid ((∀ k, k < i → (rat l k).id < af) ∧ (∀ k, j ≤ k → k < l.length → af ≤ (rat l k).id)) := ⟨a1, a2⟩
    have HB : Hid (Below w.heap.size w wr) := hb
    clear a1 a2 hb
    by_cases hlt : i < j
    · obtain ⟨m, hm⟩ : ∃ m, (i + j) / 2 = m := ⟨_, rfl⟩
      have HM : Hid (i ≤ m ∧ m < j) := by refine (?_ : i ≤ m ∧ m < j); omega
      have q1 : (i : Int) < (j : Int) := by omega
      have i0 : (0 : Int) ≤ (i : Int) := by omega
      have j1 : (j : Int) ≤ 1000 := by omega
      have hsh : ((i : Int) + (j : Int)) / 2 ^ min (1 : Int).toNat 64 = (m : Int) := by
        rw [show min (1 : Int).toNat 64 = 1 from rfl]
        omega
      have hsh2 : ((i : Int) + (j : Int)) / 2 = (m : Int) := by omega
      have HCM : Hid _ := fun W hW => HC.out W m hW (by have := HM.out; omega)
      clear hm
      go_wp2_with fail
      refine (HCM.out wr HB.out).mono ?_
      rintro e w2 ⟨rfl, b2⟩
      have HB2 : Hid (Below w.heap.size w w2) := HB.out.trans (b2.mono HB.out.size)
      clear b2 q1 hsh hsh2
      by_cases hd : af ≤ (rat l m).id
      · rw [decide_eq_true hd]
        have HN : Hid (∀ k, m ≤ k → k < l.length → af ≤ (rat l k).id) := fun k h1 h2 => by
          rcases Nat.eq_or_lt_of_le h1 with rfl | h3
          · exact hd
          · have := rise_lt HRI.out h3 h2; omega
        clear hd
        go_wp2_with fail
        go_roundw
        case rel => exact ⟨i, m, HM.out.1, by have := HM.out; omega, rfl, rfl, HA.out.1, HN.out, HB2.out⟩
        case measure => have := HM.out; simp [natOf]; omega
      · rw [decide_eq_false hd]
        have HN : Hid (∀ k, k < m + 1 → (rat l k).id < af) := fun k h1 => by
          have hm := HM.out
          rcases Nat.eq_or_lt_of_le (Nat.le_of_lt_succ h1) with rfl | h3
          · omega
          · have := rise_lt HRI.out h3 (by omega); omega
        have m1 : (m : Int) ≤ 1000 := by have := HM.out; omega
        have m0 : (0 : Int) ≤ (m : Int) := by omega
        clear hd
        go_wp2_with fail
        go_roundw
        case rel => exact ⟨m + 1, j, by have := HM.out; omega, by omega, by go_num, rfl, HN.out, HA.out.2, HB2.out⟩
        case measure => have := HM.out; simp [natOf]; omega
    · obtain rfl : i = j := by omega
      have q1 : ¬ (i : Int) < (i : Int) := by omega
      have HU : Hid (lowTo l af = i) := lowTo_is hj HA.out.1 HA.out.2
      go_wp2_with fail
      go_ret
      exact ⟨by rw [HU.out]; rfl, HB.out⟩
end Go.Proofs.Ythneciodobeehaa.Rp
