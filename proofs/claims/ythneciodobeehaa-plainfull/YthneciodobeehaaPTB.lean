/- The row of an id. -/
import Derived.Test.YthneciodobeehaaPTA
import Derived.Test.YthneciodobeehaaPGF
namespace Go.Proofs.Ythneciodobeehaa.Rp
open Go.RowKit Go.Lib
open Go.Proofs.Ythneciodobeehaa.Rc Go.Proofs.Ythneciodobeehaa.Rq
set_option maxRecDepth 100000 in
set_option maxHeartbeats 2000000 in
theorem place_any (o : Option Addr) (cap : Nat) (l : List Rw) (id : Nat) (w : World) (hmax : l.length ≤ 1000) (hri : Rise l) (hr : RowsAt w o cap l) :
    Calls Try.prog 22 #[.slice o l.length cap, .int .u64 (id : Int)] w fun e w' => e = .returned (.int .i64 (lowTo l id : Int)) ∧ Below w.heap.size w w' := by
  have hn := two_new w (.cells #[.slice o l.length cap] 22) (.cells #[.int .u64 (id : Int)] 23)
  obtain ⟨W0, hW0⟩ : ∃ W0, (w.alloc (.cells #[.slice o l.length cap] 22)).alloc (.cells #[.int .u64 (id : Int)] 23) = W0 := ⟨_, rfl⟩
  rw [hW0] at hn
  obtain ⟨h1, h2, h3⟩ := hn
  have HW0 : Hid _ := hW0
  have c0 : W0.cell? ⟨w.heap.size, 0, none⟩ = some (.slice o l.length cap) := by rw [cell_of_row _ _ _ _ _ _ h1]; rfl
  have c1 : W0.cell? ⟨w.heap.size + 1, 0, none⟩ = some (.int .u64 (id : Int)) := by rw [cell_of_row _ _ _ _ _ _ h2]; rfl
  have HS : Hid (∀ _ : True, _) := fun _ => search_any w.heap.size (w.heap.size + 1) o cap l id W0 hmax hri (hr.below h3 (Nat.le_refl _)) (Array.getElem?_eq_some_iff.1 h1).1 (Array.getElem?_eq_some_iff.1 h2).1 c0 c1
  have HB : Hid (Below w.heap.size w W0) := h3
  clear h1 h2 h3 c1 hr hri hW0
  generalize lowTo l id = p at *
  go_enter Try.func22, Try.ntmps22
  go_wp2_with (first | (rw [HW0.out]; clear HW0))
  refine (HS.out trivial).mono ?_
  rintro e w1 ⟨rfl, b1⟩
  have HB1 : Hid (Below w.heap.size w w1) := HB.out.trans (b1.mono HB.out.size)
  clear b1
  go_wp2_with fail
  go_ret
  exact ⟨rfl, HB1.out⟩
/-- The row of an id, if there is one. -/
def its (l : List Rw) (id : Nat) : Option Rw := l.find? fun r => r.id == id
def zr : Rw := ⟨0, 0, 0, ⟨#[]⟩⟩
def getV (l : List Rw) (id : Nat) : Rw := if rightL l = true then (its l id).getD zr else zr
def getE (l : List Rw) (id : Nat) : Int := if rightL l = true then (if (its l id).isSome = true then 0 else 100) else 80
set_option maxRecDepth 100000 in
theorem low_le (l : List Rw) (id : Nat) : lowTo l id ≤ l.length := List.findIdx_le_length
set_option maxRecDepth 100000 in
theorem low_below {l : List Rw} {id j : Nat} (h : j < lowTo l id) : (rat l j).id < id := by
  have h1 := low_le l id
  have := List.not_of_lt_findIdx h
  rw [rat_get (by omega)]
  simpa using this
set_option maxRecDepth 100000 in
theorem low_at {l : List Rw} {id : Nat} (h : lowTo l id < l.length) : id ≤ (rat l (lowTo l id)).id := by
  have := List.findIdx_getElem (w := h)
  rw [rat_get h]
  simp only [decide_eq_true_eq] at this
  exact this
set_option maxRecDepth 100000 in
theorem its_some {l : List Rw} {id : Nat} (h : lowTo l id < l.length) (he : (rat l (lowTo l id)).id = id) : its l id = some (rat l (lowTo l id)) := by
  unfold its
  rw [List.find?_eq_some_iff_getElem]
  refine ⟨by simpa using he, lowTo l id, h, (rat_get h).symm, fun j hj => ?_⟩
  have := low_below hj
  rw [rat_get (by omega)] at this
  simp
  omega
set_option maxRecDepth 100000 in
theorem its_none {l : List Rw} (hri : Rise l) {id : Nat} (h : lowTo l id = l.length ∨ (rat l (lowTo l id)).id ≠ id) : its l id = none := by
  unfold its
  rw [List.find?_eq_none]
  intro r hr
  obtain ⟨j, hj, rfl⟩ := List.getElem_of_mem hr
  simp only [beq_iff_eq]
  intro e
  have hl := low_le l id
  by_cases c : j < lowTo l id
  · have := low_below c
    rw [rat_get hj] at this
    omega
  · have hlt : lowTo l id < l.length := by omega
    have h1 := low_at hlt
    rcases h with h | h
    · omega
    · by_cases c2 : j = lowTo l id
      · subst c2
        rw [rat_get hj] at h
        exact h e
      · have := rise_lt hri (i := lowTo l id) (j := j) (by omega) hj
        rw [rat_get hj] at this
        omega
set_option maxRecDepth 100000 in
theorem results_rowE {fn : Func} {p u : Tmp} (h : fn.results = #[.cell p 27, .tmp u]) (tmps : Array Value) (w : World) (g : Nat) (a b c d x : Value) {t : TypeId}
    (hp : tmps.getD p undef = .pointer (some ⟨g, 0, none⟩)) (hu : tmps.getD u undef = x) (hg : w.heap[g]? = some (.cells #[a, b, c, d] t (0, 0))) : (results fn tmps).run Try.prog w = .ok (.tuple #[.agg #[a, b, c, d], x]) w := by
  have hp' : tmps[p]?.getD undef = .pointer (some ⟨g, 0, none⟩) := by simpa using hp
  have hu' : tmps[u]?.getD undef = x := by simpa using hu
  have c0 : w.cell? ⟨g, 0, none⟩ = some a := by rw [cell_of_row _ _ _ _ _ _ hg]; rfl
  have c1 : w.cell? ⟨g, 1, none⟩ = some b := by rw [cell_of_row _ _ _ _ _ _ hg]; rfl
  have c2 : w.cell? ⟨g, 2, none⟩ = some c := by rw [cell_of_row _ _ _ _ _ _ hg]; rfl
  have c3 : w.cell? ⟨g, 3, none⟩ = some d := by rw [cell_of_row _ _ _ _ _ _ hg]; rfl
  simp [results, h, hp', hu', asAddr, go_sem, c0, c1, c2, c3]
set_option maxRecDepth 100000 in
theorem row_facts {w : World} {g : Nat} {a b c d : Value} {t : TypeId} (hg : w.heap[g]? = some (.cells #[a, b, c, d] t (0, 0))) :
    w.frozen? ⟨g, 0, none⟩ = false ∧ w.frozen? ⟨g, 1, none⟩ = false ∧ w.frozen? ⟨g, 2, none⟩ = false ∧ w.frozen? ⟨g, 3, none⟩ = false ∧
    w.cell? ⟨g, 0, none⟩ = some a ∧ w.cell? ⟨g, 1, none⟩ = some b ∧ w.cell? ⟨g, 2, none⟩ = some c ∧ w.cell? ⟨g, 3, none⟩ = some d :=
  ⟨frozen_of_row w _ _ _ _ hg, frozen_of_row w _ _ _ _ hg, frozen_of_row w _ _ _ _ hg, frozen_of_row w _ _ _ _ hg, by rw [cell_of_row _ _ _ _ _ _ hg]; rfl, by rw [cell_of_row _ _ _ _ _ _ hg]; rfl, by rw [cell_of_row _ _ _ _ _ _ hg]; rfl, by rw [cell_of_row _ _ _ _ _ _ hg]; rfl⟩
set_option maxRecDepth 100000 in
theorem put_row {w : World} {g : Nat} {x0 x1 x2 x3 : Value} {t : TypeId} (h : w.heap[g]? = some (.cells #[x0, x1, x2, x3] t (0, 0))) (a b c d : Value) :
    ((((w.setCell ⟨g, 0, none⟩ a).setCell ⟨g, 1, none⟩ b).setCell ⟨g, 2, none⟩ c).setCell ⟨g, 3, none⟩ d).heap[g]? = some (.cells #[a, b, c, d] t (0, 0)) ∧
    (∀ j, j ≠ g → ((((w.setCell ⟨g, 0, none⟩ a).setCell ⟨g, 1, none⟩ b).setCell ⟨g, 2, none⟩ c).setCell ⟨g, 3, none⟩ d).heap[j]? = w.heap[j]?) ∧
    (∀ B, B ≤ g → Below B w ((((w.setCell ⟨g, 0, none⟩ a).setCell ⟨g, 1, none⟩ b).setCell ⟨g, 2, none⟩ c).setCell ⟨g, 3, none⟩ d)) := by
  have X1 := heap_setCell_same w g 0 _ _ a h
  have X2 := heap_setCell_same _ g 1 _ _ b X1
  have X3 := heap_setCell_same _ g 2 _ _ c X2
  have X4 := heap_setCell_same _ g 3 _ _ d X3
  have ho : ∀ j, j ≠ g → ((((w.setCell ⟨g, 0, none⟩ a).setCell ⟨g, 1, none⟩ b).setCell ⟨g, 2, none⟩ c).setCell ⟨g, 3, none⟩ d).heap[j]? = w.heap[j]? := fun j hj => by
    rw [Below.heap_setCell _ _ _ _ hj, Below.heap_setCell _ _ _ _ hj, Below.heap_setCell _ _ _ _ hj, Below.heap_setCell _ _ _ _ hj]
  exact ⟨X4, ho, fun B hB => ⟨rfl, rfl, rfl, by simp [World.setCell], fun j hj => ho j (by omega)⟩⟩
end Go.Proofs.Ythneciodobeehaa.Rp
