/- Rows but one; a change. -/
import Derived.Test.YthneciodobeehaaPTH
namespace Go.Proofs.Ythneciodobeehaa.Rp
open Go.RowKit Go.Lib
open Go.Proofs.Ythneciodobeehaa.Rc Go.Proofs.Ythneciodobeehaa.Rq
set_option maxRecDepth 100000 in
theorem its_at {l : List Rw} (hri : Rise l) {id : Nat} {s : Rw} (h : its l id = some s) : lowTo l id < l.length ∧ rat l (lowTo l id) = s ∧ s.id = id := by
  by_cases c : lowTo l id < l.length ∧ (rat l (lowTo l id)).id = id
  · have := its_some c.1 c.2
    rw [h] at this
    cases this
    exact ⟨c.1, rfl, c.2⟩
  · have hn := its_none hri (id := id) (by
      have := low_le l id
      by_cases c2 : lowTo l id = l.length
      · exact .inl c2
      · exact .inr fun e => c ⟨by omega, e⟩)
    rw [h] at hn
    cases hn
set_option maxRecDepth 100000 in
set_option maxHeartbeats 2000000 in
theorem without_any (o : Option Addr) (cap : Nat) (l : List Rw) (s : Rw) (w : World) (hmax : l.length ≤ 1000) (hri : Rise l) (hr : RowsAt w o cap l) (hs : its l s.id = some s) :
    Calls Try.prog 25 #[.slice o l.length cap, rv s] w (WR (l.eraseIdx (lowTo l s.id)) w) := by
  obtain ⟨hp, hat, -⟩ := its_at hri hs
  have hE1 : ∀ j, j < l.length → j ≠ lowTo l s.id → eqR (rat l j) s = false := fun j hj hne => by
    cases e : eqR (rat l j) s
    · rfl
    · have h1 := (eqR_iff _ _).1 e
      rcases Nat.lt_or_gt_of_ne hne with h | h
      · have := rise_lt hri h hp
        rw [hat, h1] at this
        omega
      · have := rise_lt hri h hj
        rw [hat, h1] at this
        omega
  have hE2 : eqR (rat l (lowTo l s.id)) s = true := (eqR_iff _ _).2 hat
  generalize lowTo l s.id = p at *
  obtain ⟨id, x, y, v⟩ := s
  have hb := below_new w (.cells #[.int .u64 (id : Int), .int .u32 (x : Int), .int .u32 (y : Int), .string v] 27)
  have hg := heap_alloc_new w (.cells #[.int .u64 (id : Int), .int .u32 (x : Int), .int .u32 (y : Int), .string v] 27)
  obtain ⟨W0, hW0⟩ : ∃ W0, w.alloc (.cells #[.int .u64 (id : Int), .int .u32 (x : Int), .int .u32 (y : Int), .string v] 27) = W0 := ⟨_, rfl⟩
  rw [hW0] at hb hg
  have HW0 : Hid _ := hW0
  have HB0 : Hid (Below w.heap.size w W0) := hb
  have HG0 : Hid (W0.heap[w.heap.size]? = some (.cells #[.int .u64 (id : Int), .int .u32 (x : Int), .int .u32 (y : Int), .string v] 27 (0, 0))) := hg
  have l0 : w.heap.size < W0.heap.size := (Array.getElem?_eq_some_iff.1 hg).1
  have HC : Hid (∀ _ : True, _) := fun _ => clone_any l o cap W0 (hr.below hb (Nat.le_refl _)) (by omega) hmax
  have HE : Hid ((∀ j, j < l.length → j ≠ p → eqR (rat l j) ⟨id, x, y, v⟩ = false) ∧ eqR (rat l p) ⟨id, x, y, v⟩ = true) := ⟨hE1, hE2⟩
  have HL : Hid ((l.eraseIdx p).length = l.length - 1) := by refine (?_ : (l.eraseIdx p).length = l.length - 1); rw [List.length_eraseIdx, if_pos hp]
  simp only [rv]
  clear hb hg hW0 hr hri hE1 hE2 hs hat
  go_enter Try.func25, Try.ntmps25
  go_wp2_with (first | (rw [HW0.out]; clear HW0))
  refine Calls.mono (HC.out trivial) ?_
  rintro e w1 ⟨v1, rfl, ho1, b1⟩
  obtain ⟨g, cap1, rfl, hbg, hu⟩ := ur_of_own ho1 (List.ne_nil_of_length_pos (by omega))
  have hsl : l.length ≤ cap1 ∧ cap1 ≤ maxLen := by
    obtain ⟨o', cap', e, h⟩ := sl_of_own ho1
    cases e
    exact ⟨h.1, h.2.1⟩
  have hg1 := (b1.block _ l0).trans HG0.out
  have HD : Hid (∀ _ : True, _) := fun _ => deleteF_any l g cap1 ⟨id, x, y, v⟩ w.heap.size p w1 hu hsl.1 hsl.2 hmax (by omega) hg1 hp HE.out.1 HE.out.2
  have HB1 : Hid (Below w.heap.size w w1) := HB0.out.trans (b1.mono HB0.out.size)
  have LG : Hid (w.heap.size < g) := by refine (?_ : w.heap.size < g); omega
  clear ho1 b1 hbg hu hsl hg1 HC
  go_wp2_with fail
  refine Calls.mono (HD.out trivial) ?_
  rintro e w2 ⟨rfl, hr2, b2⟩
  have HF : Hid (RowsAt w2 (some ⟨g, 0, none⟩) cap1 (l.eraseIdx p) ∧ Below w.heap.size w w2) := ⟨hr2, HB1.out.trans (b2.below (fun k hk => by have := LG.out; omega) HB1.out.size)⟩
  clear hr2 b2 HD
  go_wp2_with fail
  go_ret
  refine ⟨some ⟨g, 0, none⟩, cap1, ?_, HF.out.1, HF.out.2, fun b off e => by cases e; exact Nat.le_of_lt LG.out⟩
  rw [HL.out]
  rfl
/-- The rows without the one of an id. -/
def remR (l : List Rw) (id : Nat) : List Rw := if (its l id).isSome = true then l.eraseIdx (lowTo l id) else l
set_option maxRecDepth 100000 in
theorem rem_rise {l : List Rw} (h : Rise l) (id : Nat) : Rise (remR l id) := by
  unfold remR
  split
  · exact h.sublist (List.eraseIdx_sublist _ _)
  · exact h
set_option maxRecDepth 100000 in
theorem rem_len (l : List Rw) (id : Nat) : (remR l id).length ≤ l.length := by
  unfold remR
  split
  · exact List.Sublist.length_le (List.eraseIdx_sublist _ _)
  · exact Nat.le_refl _
/-- What a change comes to: its error, and the rows behind it. -/
def apE (l : List Rw) (o : Ch) : Int := if rightL l = true then (if chkO o = 0 then (if o.k ≠ 1 ∧ (its l o.r.id).isSome = false then 100 else if o.k ≠ 3 ∧ (remR l o.r.id).length = 1000 then 82 else 0) else chkO o) else 80
def apL (l : List Rw) (o : Ch) : List Rw := if apE l o = 0 then (if o.k = 3 then remR l o.r.id else insR (remR l o.r.id) (newR ((its l o.r.id).getD zr) o)) else []
/-- Rows and an error. -/
def KP (m : List Rw) (E : Int) (w : World) (e : Ending) (w' : World) : Prop := ∃ o cap, e = .returned (.tuple #[.slice o m.length cap, .int .i64 E]) ∧ RowsAt w' o cap m ∧ Below w.heap.size w w' ∧ Fresh w.heap.size o
end Go.Proofs.Ythneciodobeehaa.Rp
