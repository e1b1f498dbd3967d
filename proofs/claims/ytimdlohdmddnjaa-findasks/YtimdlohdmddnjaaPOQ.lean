/- The reference: Ask. -/
import Derived.Test.YtimdlohdmddnjaaPOP
import Derived.Test.YtimdlohdmddnjaaPHR
namespace Go.Proofs.Ytimdlohdmddnjaa.Rf
open Go.RowKit Go.Lib
open Go.Proofs.Ytimdlohdmddnjaa.Rc Go.Proofs.Ytimdlohdmddnjaa.Rq
/-- Rows, a bool, and an error; the rows in a new block. -/
def AF (m : List Rw) (B : Bool) (E : Int) (w : World) (e : Ending) (w' : World) : Prop := ∃ o cap, e = .returned (.tuple #[.slice o m.length cap, .bool B, .int .i64 E]) ∧ RowsAt w' o cap m ∧ Below w.heap.size w w' ∧ Fresh w.heap.size o m.length
set_option maxRecDepth 100000 in
set_option maxHeartbeats 2000000 in
theorem gask_any (o : Option Addr) (cap : Nat) (l : List Rw) (q : Qr) (M : Nat) (hM : ∀ r ∈ l, r.id < M) (w : World) (hr : RowsAt w o cap l) :
  Calls Try.prog 15 #[.slice o l.length cap, qv q] w (AF (askL q M l) (askB q M l) (fdE q l) w) := by
 have hb := below_new w (qcs q)
 have hg := heap_alloc_new w (qcs q)
 obtain ⟨W0, hW0⟩ : ∃ W0, w.alloc (qcs q) = W0 := ⟨_, rfl⟩
 rw [hW0] at hb hg
 have HW0 : Hid _ := hW0
 have HG0 : Hid (W0.heap[w.heap.size]? = some (qcs q)) := hg
 have HB0 : Hid (Below w.heap.size w W0) := hb
 have HR : Hid (RowsAt w o cap l) := hr
 have lq : w.heap.size < W0.heap.size := (Array.getElem?_eq_some_iff.1 hg).1
 have HRT : Hid (∀ _ : True, _) := fun _ => eright_any l o cap W0 (hr.below hb (Nat.le_refl _))
 have HCK : Hid _ := gCheck_any q
 by_cases hok : rightL l = true ∧ chk q = 0
 ·have hE := fd_ok hok
  have e2 : askL q M l = (rest q (fnd q M l)).take q.K.toNat := if_pos hok
  have e3 : askB q M l = decide (q.K.toNat < (rest q (fnd q M l)).length) := if_pos hok
  rw [hE, e2, e3]
  obtain ⟨-, k0, k64, -⟩ := chk_ok hok.2
  have HAK : Hid (∀ W, RowsAt W o cap l → _) := fun W hW => asked_any o cap l q M hM W hW hok.1 hok.2
  have hlen := Nat.le_trans (rest_len q (fnd q M l)) (fnd_len q M l)
  have hmx := ((rightL_iff l).1 hok.1).1
  obtain ⟨R, hR⟩ : ∃ R, rest q (fnd q M l) = R := ⟨_, rfl⟩
  rw [hR] at HAK hlen ⊢
  rw [hok.1] at HRT
  rw [hok.2] at HCK
  obtain ⟨k, a, b, c, d, x, y, sq, kk, af, fr⟩ := q
  obtain ⟨K, rfl⟩ : ∃ K : Nat, kk = (K : Int) := ⟨kk.toNat, by simp only at k0; omega⟩
  simp only [Int.toNat_natCast]
  simp only at k64
  obtain ⟨n, hn⟩ : ∃ n, (R.take K).length = n := ⟨_, rfl⟩
  have hn2 : n = min K R.length := by rw [← hn, List.length_take]
  have hmin : (if (R.length : Int) < (K : Int) then (R.length : Int) else (K : Int)) = (n : Int) := by split <;> omega
  have HBq : Hid (decide (n < R.length) = decide (K < R.length)) := by
   refine (?_ : decide (n < R.length) = decide (K < R.length))
   congr 1
   exact propext (by omega)
  have HNR : Hid ((R.take K).length = n) := hn
  have hnle : n ≤ R.length := by omega
  simp only [qv] at HAK HCK ⊢
  clear hb hg hW0 hr hE e2 e3 hok hR k0 k64 hlen hmx hn hn2
  go_enter Try.func15, Try.ntmps15
  go_wp2_with (first | (rw [HW0.out]; clear HW0))
  refine Calls.mono (HRT.out trivial) ?_
  rintro e w1 ⟨rfl, b1⟩
  have HB1 : Hid (Below w.heap.size w w1) := HB0.out.trans (b1.mono HB0.out.size)
  have HG1 : Hid _ := (b1.block _ lq).trans HG0.out
  have lq1 : w.heap.size < w1.heap.size := (Array.getElem?_eq_some_iff.1 HG1.out).1
  obtain ⟨c0, c1, c2, c3, c4, c5, c6, c7, c8, c9, c10⟩ := qc_of HG1.out
  simp only at c0 c1 c2 c3 c4 c5 c6 c7 c8 c9 c10
  clear b1 HRT HG0 HB0 lq
  go_wp2_with fail
  refine (HCK.out w1).mono ?_
  rintro e w2 ⟨rfl, b2⟩
  have HB2 : Hid (Below w.heap.size w w2) := HB1.out.trans (b2.mono HB1.out.size)
  have HG2 : Hid _ := (b2.block _ lq1).trans HG1.out
  have lq2 : w.heap.size < w2.heap.size := (Array.getElem?_eq_some_iff.1 HG2.out).1
  clear c0 c1 c2 c3 c4 c5 c6 c7 c8 c9 c10
  obtain ⟨c0, c1, c2, c3, c4, c5, c6, c7, c8, c9, c10⟩ := qc_of HG2.out
  simp only at c0 c1 c2 c3 c4 c5 c6 c7 c8 c9 c10
  clear b2 HCK HG1 HB1 lq1
  go_wp2_with fail
  refine Calls.mono (HAK.out w2 (HR.out.below HB2.out (Nat.le_refl _))) ?_
  rintro e w3 ⟨o3, cap3, rfl, hr3, b3, hf3⟩
  have HFr : Hid (Fresh w.heap.size o3 (R.take K).length) := fun b off e hn => hf3.mono HB2.out.size b off e (by rw [List.length_take] at hn; omega)
  clear hf3
  have HB3 : Hid (Below w.heap.size w w3) := HB2.out.trans (b3.mono HB2.out.size)
  have HG3 : Hid _ := (b3.block _ lq2).trans HG2.out
  have lq3 : w.heap.size < w3.heap.size := (Array.getElem?_eq_some_iff.1 HG3.out).1
  clear c0 c1 c2 c3 c4 c5 c6 c7 c8 c9 c10
  obtain ⟨c0, c1, c2, c3, c4, c5, c6, c7, c8, c9, c10⟩ := qc_of HG3.out
  simp only at c0 c1 c2 c3 c4 c5 c6 c7 c8 c9 c10
  have hle3 := hr3.1
  have hrun := fun w => run_headW o3 R.length cap3 n w (by omega) hr3.2.2.1
  have HR3 : Hid (RowsAt w3 o3 cap3 (R.take K)) := hr3.head K
  clear b3 HAK HG2 HB2 lq2 hr3
  go_wp2_with (refine flist_min rfl 3 3 (.tmp 24) (.tmp 26) rfl rfl rfl hmin ?_)
  go_ret3
  refine ⟨o3, cap3, ?_, HR3.out, HB3.out, HFr.out⟩
  rw [HNR.out, ← HBq.out]
  rfl
 ·have hE := fd_no hok
  have e2 : askL q M l = [] := if_neg hok
  have e3 : askB q M l = false := if_neg hok
  rw [e2, e3]
  cases hl : rightL l
  ·have e4 : fdE q l = 80 := by unfold fdE; rw [hl]; rfl
   rw [e4]
   rw [hl] at HRT
   obtain ⟨k, a, b, c, d, x, y, sq, kk, af, fr⟩ := q
   simp only [qv] at ⊢
   clear hb hg hW0 hr hE e2 e3 hok e4 hl
   go_enter Try.func15, Try.ntmps15
   go_wp2_with (first | (rw [HW0.out]; clear HW0))
   refine Calls.mono (HRT.out trivial) ?_
   rintro e w1 ⟨rfl, b1⟩
   have HB1 : Hid (Below w.heap.size w w1) := HB0.out.trans (b1.mono HB0.out.size)
   clear b1
   go_wp2_with fail
   go_ret3
   exact ⟨none, 0, rfl, Sl.nil 4 w1, HB1.out, fun b off e _ => by cases e⟩
  ·have e4 : fdE q l = chk q := by unfold fdE; rw [hl]; rfl
   rw [e4] at hE ⊢
   rw [hl] at HRT
   generalize chk q = E at *
   have q0 : (E == 0) = false := by simpa using hE
   obtain ⟨k, a, b, c, d, x, y, sq, kk, af, fr⟩ := q
   simp only [qv] at HCK ⊢
   clear hb hg hW0 hr hE e2 e3 hok e4 hl
   go_enter Try.func15, Try.ntmps15
   go_wp2_with (first | (rw [HW0.out]; clear HW0))
   refine Calls.mono (HRT.out trivial) ?_
   rintro e w1 ⟨rfl, b1⟩
   have HB1 : Hid (Below w.heap.size w w1) := HB0.out.trans (b1.mono HB0.out.size)
   have hg1 := (b1.block _ lq).trans HG0.out
   have lq1 : w.heap.size < w1.heap.size := (Array.getElem?_eq_some_iff.1 hg1).1
   obtain ⟨c0, c1, c2, c3, c4, c5, c6, c7, c8, c9, c10⟩ := qc_of hg1
   simp only at c0 c1 c2 c3 c4 c5 c6 c7 c8 c9 c10
   clear b1 hg1
   go_wp2_with fail
   refine (HCK.out w1).mono ?_
   rintro e w2 ⟨rfl, b2⟩
   have HB2 : Hid (Below w.heap.size w w2) := HB1.out.trans (b2.mono HB1.out.size)
   clear b2
   go_wp2_with fail
   go_ret3
   exact ⟨none, 0, rfl, Sl.nil 4 w2, HB2.out, fun b off e _ => by cases e⟩
end Go.Proofs.Ytimdlohdmddnjaa.Rf
