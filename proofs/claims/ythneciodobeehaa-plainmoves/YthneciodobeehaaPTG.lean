/- Rows but one. -/
import Derived.Test.YthneciodobeehaaPTF
namespace Go.Proofs.Ythneciodobeehaa.Rp
open Go.RowKit Go.Lib
open Go.Proofs.Ythneciodobeehaa.Rc Go.Proofs.Ythneciodobeehaa.Rq
set_option maxRecDepth 100000 in
set_option maxHeartbeats 2000000 in
theorem without1_any (r s : Rw) (g : Nat) (w : World) (hg : w.heap[g]? = some (.cells #[.int .u64 (s.id : Int), .int .u32 (s.x : Int), .int .u32 (s.y : Int), .string s.v] 27 (0, 0))) :
    Calls Try.prog 36 #[rv r, .pointer (some ⟨g, 0, none⟩)] w fun e w' => e = .returned (.bool (eqR r s)) ∧ Below w.heap.size w w' := by
  obtain ⟨id, x, y, v⟩ := r
  obtain ⟨id2, x2, y2, v2⟩ := s
  have hb := below_new w (.cells #[.int .u64 (id : Int), .int .u32 (x : Int), .int .u32 (y : Int), .string v] 27)
  have hg1 := heap_alloc_new w (.cells #[.int .u64 (id : Int), .int .u32 (x : Int), .int .u32 (y : Int), .string v] 27)
  obtain ⟨W0, hW0⟩ : ∃ W0, w.alloc (.cells #[.int .u64 (id : Int), .int .u32 (x : Int), .int .u32 (y : Int), .string v] 27) = W0 := ⟨_, rfl⟩
  rw [hW0] at hb hg1
  have HW0 : Hid _ := hW0
  have HB0 : Hid (Below w.heap.size w W0) := hb
  have hg2 := (hb.block _ (Array.getElem?_eq_some_iff.1 hg).1).trans hg
  obtain ⟨-, -, -, -, c0, c1, c2, c3⟩ := row_facts hg1
  obtain ⟨-, -, -, -, d0, d1, d2, d3⟩ := row_facts hg2
  have l0 : w.heap.size < W0.heap.size := (Array.getElem?_eq_some_iff.1 hg1).1
  have l1 : g < W0.heap.size := (Array.getElem?_eq_some_iff.1 hg2).1
  have hq := eql_row id x y id2 x2 y2 v v2
  obtain ⟨eb, heb⟩ : ∃ eb, eqR ⟨id, x, y, v⟩ ⟨id2, x2, y2, v2⟩ = eb := ⟨_, rfl⟩
  rw [heb] at hq ⊢
  simp only at d0 d1 d2 d3
  simp only [rv]
  clear hb hg1 hW0 hg2 hg heb
  go_enter Try.func36, Try.ntmps36
  go_wp2_with (first | (rw [HW0.out]; clear HW0))
  go_ret
  exact ⟨rfl, HB0.out⟩
set_option maxRecDepth 100000 in
set_option maxHeartbeats 2000000 in
theorem indexF_any (l : List Rw) (o : Option Addr) (cap : Nat) (s : Rw) (g p : Nat) (w : World) (hr : RowsAt w o cap l) (hmax : l.length ≤ 1000) (hg : w.heap[g]? = some (.cells #[.int .u64 (s.id : Int), .int .u32 (s.x : Int), .int .u32 (s.y : Int), .string s.v] 27 (0, 0))) (hp : p < l.length) (h1 : ∀ j, j < p → eqR (rat l j) s = false) (h2 : eqR (rat l p) s = true) :
    Calls Try.prog 38 #[.slice o l.length cap, .func (.func 36) #[] #[.pointer (some ⟨g, 0, none⟩)]] w fun e w' => e = .returned (.int .i64 (p : Int)) ∧ Below w.heap.size w w' := by
  have HC : Hid (∀ (W : World) (r : Rw), Below w.heap.size w W → _) := fun W r hW => without1_any r s g W ((hW.block _ (Array.getElem?_eq_some_iff.1 hg).1).trans hg)
  have HR : Hid (RowsAt w o cap l) := hr
  have H1 : Hid ((∀ j, j < p → eqR (rat l j) s = false) ∧ eqR (rat l p) s = true) := ⟨h1, h2⟩
  have n0 : (l.length : Int) ≤ 1000 := by omega
  simp only [rv] at HC
  clear hr hg h1 h2
  go_enter Try.func38, Try.ntmps38
  go_wp2_with fail
  go_loopw [8] (fun iv wr => ∃ i : Nat, i ≤ p ∧ iv = .int .i64 (i : Int) ∧ Below w.heap.size w wr) (fun iv _ => p + 1 - natOf iv)
  case atStart => exact ⟨0, Nat.zero_le _, rfl, Below.refl _ _⟩
  case round =>
    obtain ⟨i, hi, rfl, hb⟩ := hrel
    have HB : Hid (Below w.heap.size w wr) := hb
    obtain ⟨b, off, rfl, hbl, hc⟩ := (HR.out.below hb (Nat.le_refl _)).row (i := i) (by omega)
    obtain ⟨c0, c1, c2, c3⟩ := hc i (by omega)
    have q1 : (i : Int) < (l.length : Int) := by omega
    have q0 : (0 : Int) ≤ (i : Int) := by omega
    have hE : (i < p ∧ eqR (rat l i) s = false) ∨ (i = p ∧ eqR (rat l i) s = true) := by
      rcases Nat.lt_or_ge i p with h | h
      · exact .inl ⟨h, H1.out.1 i h⟩
      · obtain rfl : i = p := by omega
        exact .inr ⟨rfl, H1.out.2⟩
    generalize rat l i = r at *
    obtain ⟨id, x, y, v⟩ := r
    simp only at c0 c1 c2 c3
    clear hc hb
    have HCi : Hid (∀ _ : True, _) := fun _ => HC.out wr ⟨id, x, y, v⟩ HB.out
    simp only at HCi
    rcases hE with ⟨hlt, he⟩ | ⟨rfl, he⟩
    · rw [he] at HCi
      clear he
      go_wp2_with fail
      refine Calls.mono (HCi.out trivial) ?_
      rintro e w2 ⟨rfl, b2⟩
      have HB2 : Hid (Below w.heap.size w w2) := HB.out.trans (b2.mono HB.out.size)
      clear b2 HCi c0 c1 c2 c3
      go_wp2_with fail
      go_roundw
      case rel => exact ⟨i + 1, by omega, by go_num, HB2.out⟩
      case measure => simp [natOf]; omega
    · rw [he] at HCi
      clear he
      go_wp2_with fail
      refine Calls.mono (HCi.out trivial) ?_
      rintro e w2 ⟨rfl, b2⟩
      have HB2 : Hid (Below w.heap.size w w2) := HB.out.trans (b2.mono HB.out.size)
      clear b2 HCi c0 c1 c2 c3
      go_wp2_with fail
      go_ret
      exact ⟨rfl, HB2.out⟩
end Go.Proofs.Ythneciodobeehaa.Rp
