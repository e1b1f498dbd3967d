/- Ask. -/
import Derived.Test.YtimdlohdmddnjaaPOJ
import Derived.Test.YtimdlohdmddnjaaPOL
namespace Go.Proofs.Ytimdlohdmddnjaa.Rf
open Go.RowKit Go.Lib
open Go.Proofs.Ytimdlohdmddnjaa.Rc Go.Proofs.Ytimdlohdmddnjaa.Rq
def askL (q : Qr) (M : Nat) (l : List Rw) : List Rw := if rightL l = true ∧ chk q = 0 then (rest q (fnd q M l)).take q.K.toNat else []
def askB (q : Qr) (M : Nat) (l : List Rw) : Bool := if rightL l = true ∧ chk q = 0 then decide (q.K.toNat < (rest q (fnd q M l)).length) else false
def AR (m : List Rw) (B : Bool) (E : Int) (w : World) (e : Ending) (w' : World) : Prop := ∃ o cap, e = .returned (.tuple #[.slice o m.length cap, .bool B, .int .i64 E]) ∧ RowsAt w' o cap m ∧ Below w.heap.size w w'
theorem fd_ok {q : Qr} {l : List Rw} (h : rightL l = true ∧ chk q = 0) : fdE q l = 0 := by unfold fdE; rw [if_pos h.1, h.2]
set_option maxRecDepth 100000 in
theorem fd_no {q : Qr} {l : List Rw} (h : ¬ (rightL l = true ∧ chk q = 0)) : fdE q l ≠ 0 := by
 unfold fdE
 by_cases h1 : rightL l = true
 ·rw [if_pos h1]
  exact fun e => h ⟨h1, e⟩
 ·rw [if_neg h1]
  decide
set_option maxRecDepth 100000 in
set_option maxHeartbeats 2000000 in
theorem ask_any (o : Option Addr) (cap : Nat) (l : List Rw) (q : Qr) (M : Nat) (hM : ∀ r ∈ l, r.id < M) (w : World) (hr : RowsAt w o cap l) :
  Calls Try.prog 13 #[.slice o l.length cap, qv q] w (AR (askL q M l) (askB q M l) (fdE q l) w) := by
 have hb := below_new w (qcs q)
 have hg := heap_alloc_new w (qcs q)
 obtain ⟨W0, hW0⟩ : ∃ W0, w.alloc (qcs q) = W0 := ⟨_, rfl⟩
 rw [hW0] at hb hg
 have HW0 : Hid _ := hW0
 have HG0 : Hid (W0.heap[w.heap.size]? = some (qcs q)) := hg
 have HB0 : Hid (Below w.heap.size w W0) := hb
 have lq : w.heap.size < W0.heap.size := (Array.getElem?_eq_some_iff.1 hg).1
 have HFD : Hid (∀ _ : True, _) := fun _ => found_any o cap l q M hM W0 (hr.below hb (Nat.le_refl _))
 obtain ⟨c0, c1, c2, c3, c4, c5, c6, c7, c8, c9, c10⟩ := qc_of hg
 by_cases hok : rightL l = true ∧ chk q = 0
 ·have hE := fd_ok hok
  have e1 : fdV q M l = fnd q M l := if_pos hok
  have e2 : askL q M l = (rest q (fnd q M l)).take q.K.toNat := if_pos hok
  have e3 : askB q M l = decide (q.K.toNat < (rest q (fnd q M l)).length) := if_pos hok
  rw [hE, e1] at HFD
  rw [hE, e2, e3]
  obtain ⟨-, k0, k64, -⟩ := chk_ok hok.2
  have hlen := fnd_len q M l
  have hmx := ((rightL_iff l).1 hok.1).1
  have hri : q.k ≠ 3 → Rise (fnd q M l) := fun hk => fnd_rise hk (right_rise hok.1)
  obtain ⟨F, hF⟩ : ∃ F, fnd q M l = F := ⟨_, rfl⟩
  rw [hF] at HFD hlen hri ⊢
  obtain ⟨k, a, b, c, d, x, y, sq, kk, af, fr⟩ := q
  obtain ⟨K, rfl⟩ : ∃ K : Nat, kk = (K : Int) := ⟨kk.toNat, by simp only at k0; omega⟩
  simp only [Int.toNat_natCast]
  simp only at c0 c1 c2 c3 c4 c5 c6 c7 c8 c9 c10
  have HGV : Hid (∀ (W : World) (o : Option Addr) (cap : Nat), RowsAt W o cap F → _) := fun W o cap hW => give_any k a b c d x y sq K af fr o cap F W hW (by omega) hri (by simp only at k64; omega)
  obtain ⟨m, hm⟩ : ∃ m, (rest ⟨k, a, b, c, d, x, y, sq, (K : Int), af, fr⟩ F).take K = m := ⟨_, rfl⟩
  obtain ⟨B, hB⟩ : ∃ B, decide (K < (rest ⟨k, a, b, c, d, x, y, sq, (K : Int), af, fr⟩ F).length) = B := ⟨_, rfl⟩
  rw [hm, hB] at HGV
  rw [hm, hB]
  simp only [qv] at HFD ⊢
  clear hb hg hW0 hr hE e1 e2 e3 hok hF hri k0 k64 hlen hmx hm hB
  go_enter Try.func13, Try.ntmps13
  go_wp2_with (first | (rw [HW0.out]; clear HW0))
  refine Calls.mono (HFD.out trivial) ?_
  rintro e w1 ⟨o1, cap1, rfl, hr1, b1⟩
  have HB1 : Hid (Below w.heap.size w w1) := HB0.out.trans (b1.mono HB0.out.size)
  have HR1 : Hid (RowsAt w1 o1 cap1 F) := hr1
  have hg1 := (b1.block _ lq).trans HG0.out
  clear c0 c1 c2 c3 c4 c5 c6 c7 c8 c9 c10
  have lq1 : w.heap.size < w1.heap.size := (Array.getElem?_eq_some_iff.1 hg1).1
  obtain ⟨c0, c1, c2, c3, c4, c5, c6, c7, c8, c9, c10⟩ := qc_of hg1
  simp only at c0 c1 c2 c3 c4 c5 c6 c7 c8 c9 c10
  clear b1 hr1 hg1 HFD lq
  go_wp2_with fail
  refine Calls.mono (HGV.out w1 o1 cap1 HR1.out) ?_
  rintro e w2 ⟨o2, rfl, hro, b2⟩
  have HE : Hid (RowsAt w2 o2 m.length m ∧ Below w.heap.size w w2) := ⟨(hro w1 HR1.out).below b2 (Nat.le_refl _), HB1.out.trans (b2.mono HB1.out.size)⟩
  clear hro b2 HGV
  go_wp2_with fail
  go_ret3
  exact ⟨o2, _, rfl, HE.out.1, HE.out.2⟩
 ·have hE := fd_no hok
  have e2 : askL q M l = [] := if_neg hok
  have e3 : askB q M l = false := if_neg hok
  rw [e2, e3]
  generalize fdE q l = E at *
  have q0 : (E == 0) = false := by simpa using hE
  obtain ⟨k, a, b, c, d, x, y, sq, kk, af, fr⟩ := q
  simp only at c0 c1 c2 c3 c4 c5 c6 c7 c8 c9 c10
  simp only [qv] at HFD ⊢
  clear hb hg hW0 hr hE e2 e3 hok
  go_enter Try.func13, Try.ntmps13
  go_wp2_with (first | (rw [HW0.out]; clear HW0))
  refine Calls.mono (HFD.out trivial) ?_
  rintro e w1 ⟨o1, cap1, rfl, hr1, b1⟩
  have HB1 : Hid (Below w.heap.size w w1) := HB0.out.trans (b1.mono HB0.out.size)
  clear b1 hr1
  go_wp2_with fail
  go_ret3
  exact ⟨none, 0, rfl, Sl.nil 4 w1, HB1.out⟩
end Go.Proofs.Ytimdlohdmddnjaa.Rf
