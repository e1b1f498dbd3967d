/- The reference: Ask. -/
import Derived.Test.YtimdlohdmddnjaaPOP
import Derived.Test.YtimdlohdmddnjaaPHR
import Derived.Test.YtimdlohdmddnjaaQOM
import Derived.Test.YtimdlohdmddnjaaQOZ
namespace Go.Proofs.Ytimdlohdmddnjaa.Rf
open Go.RowKit Go.Lib
open Go.Proofs.Ytimdlohdmddnjaa.Rc Go.Proofs.Ytimdlohdmddnjaa.Rq
def AF (m : List Rw) (B : Bool) (E : Int) (w : World) (e : Ending) (w' : World) : Prop := ∃ o cap, e = .returned (.tuple #[.slice o m.length cap, .bool B, .int .i64 E]) ∧ RowsAt w' o cap m ∧ Below w.heap.size w w' ∧ Fresh w.heap.size o m.length
set_option maxRecDepth 100000 in
set_option maxHeartbeats 2000000 in
theorem gask_any (o : Option Addr) (cap : Nat) (l : List Rw) (q : Qr) (M : Nat) (hM : ∀ r ∈ l, r.id < M) (w : World) (hr : RowsAt w o cap l) :
  Calls Try.prog 15 #[.slice o l.length cap, qv q] w (AF (askL q M l) (askB q M l) (fdE q l) w) := by
 have hb := below_new w (qcs q)
 have hg := heap_alloc_new w (qcs q)
 obtain ⟨W0, hW0⟩ : ∃ W0, w.alloc (qcs q) = W0 := ⟨_, rfl⟩
 rw [hW0] at hb hg
 have HW0 : Hid _ := hW0
 have HG0 : Hid (W0.heap[w.heap.size]? = some (qcs q)) := hg
 have HB0 : Hid (Below w.heap.size w W0) := hb
 have HR : Hid (RowsAt w o cap l) := hr
 have lq : w.heap.size < W0.heap.size := (Array.getElem?_eq_some_iff.1 hg).1
 have HRT : Hid (∀ _ : True, _) := fun _ => eright_any l o cap W0 (hr.below hb (Nat.le_refl _))
 have HCK : Hid _ := gCheck_any q
 by_cases hok : rightL l = true ∧ chk q = 0
 ·have hE := fd_ok hok
  have e2 : askL q M l = (rest q (fnd q M l)).take q.K.toNat := if_pos hok
  have e3 : askB q M l = decide (q.K.toNat < (rest q (fnd q M l)).length) := if_pos hok
  rw [hE, e2, e3]
  obtain ⟨-, k0, k64, -⟩ := chk_ok hok.2
  have HAK : Hid (∀ W, RowsAt W o cap l → _) := fun W hW => asked_any o cap l q M hM W hW hok.1 hok.2
  have hlen := Nat.le_trans (rest_len q (fnd q M l)) (fnd_len q M l)
  have hmx := ((rightL_iff l).1 hok.1).1
  obtain ⟨R, hR⟩ : ∃ R, rest q (fnd q M l) = R := ⟨_, rfl⟩
  rw [hR] at HAK hlen ⊢
  rw [hok.1] at HRT
  rw [hok.2] at HCK
  obtain ⟨k, a, b, c, d, x, y, sq, kk, af, fr⟩ := q
  obtain ⟨K, rfl⟩ : ∃ K : Nat, kk = (K : Int) := ⟨kk.toNat, by simp only at k0; omega⟩
  simp only [Int.toNat_natCast]
  simp only at k64
  obtain ⟨n, hn⟩ : ∃ n, (R.take K).length = n := ⟨_, rfl⟩
  have hn2 : n = min K R.length := by rw [← hn, List.length_take]
  have hmin : (if (R.length : Int) < (K : Int) then (R.length : Int) else (K : Int)) = (n : Int) := by split <;> omega
  have HBq : Hid (decide (n < R.length) = decide (K < R.length)) := by
   refine (?_ : decide (n < R.length) = decide (K < R.length))
   congr 1
   exact propext (by omega)
  have HNR : Hid ((R.take K).length = n) := hn
  have hnle : n ≤ R.length := by omega
  simp only [qv] at HAK HCK ⊢
  clear hb hg hW0 hr hE e2 e3 hok hR k0 k64 hlen hmx hn hn2
  go_enter Try.func15, Try.ntmps15
  go_wp2_with (first | (rw [HW0.out]; clear HW0))
  refine Calls.mono (HRT.out trivial) ?_
  rintro e w1 ⟨rfl, b1⟩
  have HB1 : Hid (Below w.heap.size w w1) := HB0.out.trans (b1.mono HB0.out.size)
  have HG1 : Hid _ := (b1.block _ lq).trans HG0.out
  have lq1 : w.heap.size < w1.heap.size := (Array.getElem?_eq_some_iff.1 HG1.out).1
  obtain ⟨c0, c1, c2, c3, c4, c5, c6, c7, c8, c9, c10⟩ := qc_of HG1.out
  simp only at c0 c1 c2 c3 c4 c5 c6 c7 c8 c9 c10
  clear b1 HRT HG0 HB0 lq
  go_wp2_with fail
  refine (HCK.out w1).mono ?_
  rintro e w2 ⟨rfl, b2⟩
  have HB2 : Hid (Below w.heap.size w w2) := HB1.out.trans (b2.mono HB1.out.size)
  have HG2 : Hid _ := (b2.block _ lq1).trans HG1.out
  have lq2 : w.heap.size < w2.heap.size := (Array.getElem?_eq_some_iff.1 HG2.out).1
  clear c0 c1 c2 c3 c4 c5 c6 c7 c8 c9 c10
  obtain ⟨c0, c1, c2, c3, c4, c5, c6, c7, c8, c9, c10⟩ := qc_of HG2.out
  simp only at c0 c1 c2 c3 c4 c5 c6 c7 c8 c9 c10
  clear b2 HCK HG1 HB1 lq1
  go_wp2_with fail
  refine Calls.mono (HAK.out w2 (HR.out.below HB2.out (Nat.le_refl _))) ?_
  rintro e w3 ⟨o3, cap3, rfl, hr3, b3, hf3⟩
  have HFr : Hid (Fresh w.heap.size o3 (R.take K).length) := fun b off e hn => hf3.mono HB2.out.size b off e (by rw [List.length_take] at hn; omega)
  clear hf3
  have HB3 : Hid (Below w.heap.size w w3) := HB2.out.trans (b3.mono HB2.out.size)
  have HG3 : Hid _ := (b3.block _ lq2).trans HG2.out
  have lq3 : w.heap.size < w3.heap.size := (Array.getElem?_eq_some_iff.1 HG3.out).1
  clear c0 c1 c2 c3 c4 c5 c6 c7 c8 c9 c10
  obtain ⟨c0, c1, c2, c3, c4, c5, c6, c7, c8, c9, c10⟩ := qc_of HG3.out
  simp only at c0 c1 c2 c3 c4 c5 c6 c7 c8 c9 c10
  have hle3 := hr3.1
  have hrun := fun w => run_headW o3 R.length cap3 n w (by omega) hr3.2.2.1
  have HR3 : Hid (RowsAt w3 o3 cap3 (R.take K)) := hr3.head K
  clear b3 HAK HG2 HB2 lq2 hr3
  go_wp2_with (refine flist_min rfl 3 3 (.tmp 24) (.tmp 26) rfl rfl rfl hmin ?_)
  go_ret3
  refine ⟨o3, cap3, ?_, HR3.out, HB3.out, HFr.out⟩
  rw [HNR.out, ← HBq.out]
  rfl
 ·have hE := fd_no hok
  have e2 : askL q M l = [] := if_neg hok
  have e3 : askB q M l = false := if_neg hok
  rw [e2, e3]
  cases hl : rightL l
  ·have e4 : fdE q l = 80 := by unfold fdE; rw [hl]; rfl
   rw [e4]
   rw [hl] at HRT
   obtain ⟨k, a, b, c, d, x, y, sq, kk, af, fr⟩ := q
   simp only [qv] at ⊢
   clear hb hg hW0 hr hE e2 e3 hok e4 hl
   go_enter Try.func15, Try.ntmps15
   go_wp2_with (first | (rw [HW0.out]; clear HW0))
   refine Calls.mono (HRT.out trivial) ?_
   rintro e w1 ⟨rfl, b1⟩
   have HB1 : Hid (Below w.heap.size w w1) := HB0.out.trans (b1.mono HB0.out.size)
   clear b1
   go_wp2_with fail
   go_ret3
   exact ⟨none, 0, rfl, Sl.nil 4 w1, HB1.out, fun b off e _ => by cases e⟩
  ·have e4 : fdE q l = chk q := by unfold fdE; rw [hl]; rfl
   rw [e4] at hE ⊢
   rw [hl] at HRT
   generalize chk q = E at *
   have q0 : (E == 0) = false := by simpa using hE
   obtain ⟨k, a, b, c, d, x, y, sq, kk, af, fr⟩ := q
   simp only [qv] at HCK ⊢
   clear hb hg hW0 hr hE e2 e3 hok e4 hl
   go_enter Try.func15, Try.ntmps15
   go_wp2_with (first | (rw [HW0.out]; clear HW0))
   refine Calls.mono (HRT.out trivial) ?_
   rintro e w1 ⟨rfl, b1⟩
   have HB1 : Hid (Below w.heap.size w w1) := HB0.out.trans (b1.mono HB0.out.size)
   have hg1 := (b1.block _ lq).trans HG0.out
   have lq1 : w.heap.size < w1.heap.size := (Array.getElem?_eq_some_iff.1 hg1).1
   obtain ⟨c0, c1, c2, c3, c4, c5, c6, c7, c8, c9, c10⟩ := qc_of hg1
   simp only at c0 c1 c2 c3 c4 c5 c6 c7 c8 c9 c10
   clear b1 hg1
   go_wp2_with fail
   refine (HCK.out w1).mono ?_
   rintro e w2 ⟨rfl, b2⟩
   have HB2 : Hid (Below w.heap.size w w2) := HB1.out.trans (b2.mono HB1.out.size)
   clear b2
   go_wp2_with fail
   go_ret3
   exact ⟨none, 0, rfl, Sl.nil 4 w2, HB2.out, fun b off e _ => by cases e⟩
set_option maxRecDepth 100000 in
set_option maxHeartbeats 2000000 in
theorem gall_arg (sv : Value) (q : Qr) (mo : Int) (h : q.k = 3 ∨ mo < 0) (w : World) :
  Calls Try.prog 18 #[sv, qv q, .int .i64 mo] w fun e w' => e = .returned (.tuple #[.slice none 0 0, .int .i64 2]) ∧ Below w.heap.size w w' := by
 have hb := below_new w (qcs q)
 have hg := heap_alloc_new w (qcs q)
 obtain ⟨W0, hW0⟩ : ∃ W0, w.alloc (qcs q) = W0 := ⟨_, rfl⟩
 rw [hW0] at hb hg
 have HW0 : Hid _ := hW0
 have HB0 : Hid (Below w.heap.size w W0) := hb
 obtain ⟨k, a, b, c, d, x, y, sq, kk, af, fr⟩ := q
 have c0 := (qc_of hg).1
 simp only at c0 h
 simp only [qv]
 clear hW0 hb hg
 by_cases hk : k = 3
 ·subst hk
  clear h
  go_enter Try.func18, Try.ntmps18
  go_wp2_with (first | (rw [HW0.out]; clear HW0))
  go_ret2
  exact ⟨rfl, HB0.out⟩
 ·have q1 : (k == 3) = false := by simpa using hk
  have q2 : mo < 0 := h.resolve_left hk
  clear h hk
  go_enter Try.func18, Try.ntmps18
  go_wp2_with (first | (rw [HW0.out]; clear HW0))
  go_ret2
  exact ⟨rfl, HB0.out⟩
set_option maxRecDepth 100000 in
set_option maxHeartbeats 2000000 in
theorem gall_bad (o : Option Addr) (cap : Nat) (l : List Rw) (q : Qr) (M : Nat) (hM : ∀ r ∈ l, r.id < M) (mo : Int) (h : ¬ (q.k = 3 ∨ mo < 0)) (hbad : ¬ (rightL l = true ∧ chk q = 0)) (w : World) (hr : RowsAt w o cap l) :
  Calls Try.prog 18 #[.slice o l.length cap, qv q, .int .i64 mo] w fun e w' => e = .returned (.tuple #[.slice none 0 0, .int .i64 (fdE q l)]) ∧ Below w.heap.size w w' := by
 have hb := below_new w (qcs q)
 have hg := heap_alloc_new w (qcs q)
 obtain ⟨W0, hW0⟩ : ∃ W0, w.alloc (qcs q) = W0 := ⟨_, rfl⟩
 rw [hW0] at hb hg
 have HW0 : Hid _ := hW0
 have HB0 : Hid (Below w.heap.size w W0) := hb
 have HFD : Hid (∀ _ : True, _) := fun _ => gask_any o cap l q M hM W0 (hr.below hb (Nat.le_refl _))
 have hE := fd_no hbad
 generalize fdE q l = E at *
 generalize askL q M l = AL at *
 generalize askB q M l = AB at *
 have q0 : (E == 0) = false := by simpa using hE
 obtain ⟨k, a, b, c, d, x, y, sq, kk, af, fr⟩ := q
 obtain ⟨c0, c1, c2, c3, c4, c5, c6, c7, c8, c9, c10⟩ := qc_of hg
 simp only at c0 c1 c2 c3 c4 c5 c6 c7 c8 c9 c10 h
 simp only [qv] at HFD ⊢
 have q1 : (k == 3) = false := by simp; omega
 have q2 : ¬ mo < 0 := by omega
 clear hW0 hb hg h hbad hE hr
 go_enter Try.func18, Try.ntmps18
 go_wp2_with (first | (rw [HW0.out]; clear HW0))
 refine Calls.mono (HFD.out trivial) ?_
 rintro e w1 ⟨o1, cap1, rfl, hr1, b1, hf1⟩
 have HB1 : Hid (Below w.heap.size w w1) := HB0.out.trans (b1.mono HB0.out.size)
 clear b1 hr1 hf1
 go_wp2_with fail
 go_ret2
 exact ⟨rfl, HB1.out⟩
structure GL (w W1 : World) (at' : Qr) (T : List Rw) (v : Value) (W : World) : Prop where
 box : W.heap[w.heap.size]? = some (qcs at')
 own : W.ownsRow W1.heap.size 54 4 v T.length (T.flatMap rc)
 bel : Below w.heap.size w W
 le : W1.heap.size ≤ W.heap.size
set_option maxRecDepth 100000 in
set_option maxHeartbeats 4000000 in
theorem gall_ok (o : Option Addr) (cap : Nat) (l : List Rw) (k : Int) (a b c d x y sq K af : Nat) (fr : Bool) (M : Nat) (hM : ∀ r ∈ l, r.id < M) (mo : Nat) (hk : k ≠ 3) (hok : rightL l = true ∧ chk ⟨k, a, b, c, d, x, y, sq, (K : Int), af, fr⟩ = 0) (w : World) (hr : RowsAt w o cap l) (hmo : mo < 9223372036854775808) (Rr F : List Rw) (hF : fnd ⟨k, a, b, c, d, x, y, sq, (K : Int), af, fr⟩ M l = F) (hRr : rest ⟨k, a, b, c, d, x, y, sq, (K : Int), af, fr⟩ F = Rr) :
  Calls Try.prog 18 #[.slice o l.length cap, qv ⟨k, a, b, c, d, x, y, sq, (K : Int), af, fr⟩, .int .i64 (mo : Int)] w (KR (Rr.take (mo * K)) 0 w) := by
 obtain ⟨T, hT⟩ : ∃ T, Rr.take (mo * K) = T := ⟨_, rfl⟩
 rw [hT]
 have HTT : Hid (Rr.take (mo * K) = T) := hT
 clear hT
 have hb := below_new w (qcs ⟨k, a, b, c, d, x, y, sq, (K : Int), af, fr⟩)
 have hg := heap_alloc_new w (qcs ⟨k, a, b, c, d, x, y, sq, (K : Int), af, fr⟩)
 obtain ⟨W0, hW0⟩ : ∃ W0, w.alloc (qcs ⟨k, a, b, c, d, x, y, sq, (K : Int), af, fr⟩) = W0 := ⟨_, rfl⟩
 rw [hW0] at hb hg
 have HW0 : Hid _ := hW0
 have HB0 : Hid (Below w.heap.size w W0) := hb
 have HG0 : Hid (W0.heap[w.heap.size]? = some (qcs ⟨k, a, b, c, d, x, y, sq, (K : Int), af, fr⟩)) := hg
 have HR : Hid (RowsAt w o cap l) := hr
 have HOK : Hid (rightL l = true ∧ chk ⟨k, a, b, c, d, x, y, sq, (K : Int), af, fr⟩ = 0) := hok
 have HA : Hid (∀ (W : World) (af2 : Nat) (fr2 : Bool), RowsAt W o cap l → Calls Try.prog 15 #[.slice o l.length cap, qv ⟨k, a, b, c, d, x, y, sq, (K : Int), af2, fr2⟩] W (AF ((rest ⟨k, a, b, c, d, x, y, sq, (K : Int), af2, fr2⟩ F).take K) (decide (K < (rest ⟨k, a, b, c, d, x, y, sq, (K : Int), af2, fr2⟩ F).length)) 0 W)) := fun W af2 fr2 hW => by
  have hok2 : rightL l = true ∧ chk ⟨k, a, b, c, d, x, y, sq, (K : Int), af2, fr2⟩ = 0 := ⟨hok.1, hok.2⟩
  have h := gask_any o cap l ⟨k, a, b, c, d, x, y, sq, (K : Int), af2, fr2⟩ M hM W hW
  rw [fd_ok hok2, show askL ⟨k, a, b, c, d, x, y, sq, (K : Int), af2, fr2⟩ M l = (rest ⟨k, a, b, c, d, x, y, sq, (K : Int), af2, fr2⟩ (fnd ⟨k, a, b, c, d, x, y, sq, (K : Int), af2, fr2⟩ M l)).take (K : Int).toNat from if_pos hok2, show askB ⟨k, a, b, c, d, x, y, sq, (K : Int), af2, fr2⟩ M l = decide ((K : Int).toNat < (rest ⟨k, a, b, c, d, x, y, sq, (K : Int), af2, fr2⟩ (fnd ⟨k, a, b, c, d, x, y, sq, (K : Int), af2, fr2⟩ M l)).length) from if_pos hok2, Int.toNat_natCast, show fnd ⟨k, a, b, c, d, x, y, sq, (K : Int), af2, fr2⟩ M l = F from hF] at h
  exact h
 obtain ⟨-, k0, k64, k1⟩ := chk_ok hok.2
 have hFl := fnd_len ⟨k, a, b, c, d, x, y, sq, (K : Int), af, fr⟩ M l
 have hFr := fnd_rise (q := ⟨k, a, b, c, d, x, y, sq, (K : Int), af, fr⟩) (M := M) hk (right_rise hok.1)
 rw [hF] at hFl hFr
 have hmx : F.length ≤ 1000 := Nat.le_trans hFl ((rightL_iff l).1 hok.1).1
 simp only at k0 k64 k1
 have h0K : 0 < K := by have := k1 hk; omega
 have hK : K ≤ 64 := by omega
 have HF : Hid (Rise F) := hFr
 have HRl : Hid (Rr.length ≤ 1000) := by
  refine (?_ : Rr.length ≤ 1000)
  rw [← hRr]
  exact Nat.le_trans (rest_len _ _) hmx
 have HRr : Hid (rest ⟨k, a, b, c, d, x, y, sq, (K : Int), af, fr⟩ F = Rr) := hRr
 obtain ⟨c0, c1, c2, c3, c4, c5, c6, c7, c8, c9, c10⟩ := qc_of hg
 have l0 : w.heap.size < W0.heap.size := (Array.getElem?_eq_some_iff.1 hg).1
 simp only at c0 c1 c2 c3 c4 c5 c6 c7 c8 c9 c10
 simp only [qv] at HA ⊢
 have q1 : (k == 3) = false := by simpa using hk
 have q2 : ¬ (mo : Int) < 0 := by omega
 have HC0 : Hid (∀ _ : True, _) := fun _ => HA.out W0 af fr (hr.below hb (Nat.le_refl _))
 generalize (rest ⟨k, a, b, c, d, x, y, sq, (K : Int), af, fr⟩ F).take K = AL at HC0
 generalize decide (K < (rest ⟨k, a, b, c, d, x, y, sq, (K : Int), af, fr⟩ F).length) = AB at HC0
 clear hW0 hb hg hr hRr hF hFl hFr hok k0 k64 k1 hmx
 go_enter Try.func18, Try.ntmps18
 go_wp2_with (first | (rw [HW0.out]; clear HW0))
 refine Calls.mono (HC0.out trivial) ?_
 rintro e W1 ⟨o1, cap1, rfl, hr1, b1, -⟩
 have HGL0 : Hid (GL w W1 ⟨k, a, b, c, d, x, y, sq, (K : Int), af, fr⟩ [] (.slice none 0 0) W1) := ⟨(b1.block _ l0).trans HG0.out, World.ownsRow_nil _ _ _ _, HB0.out.trans (b1.mono HB0.out.size), Nat.le_refl _⟩
 have LW1 : Hid (w.heap.size < W1.heap.size) := Nat.lt_of_lt_of_le l0 b1.size
 clear hr1 b1 HC0 HG0 HB0 l0 c0 c1 c2 c3 c4 c5 c6 c7 c8 c9 c10 q1 q2
 go_wp2_with fail
 go_loopw [11, 12] (fun pv iv wr => ∃ (i af2 : Nat) (fr2 : Bool), i ≤ mo ∧ i < np Rr K ∧ iv = .int .i64 (i : Int) ∧ rest ⟨k, a, b, c, d, x, y, sq, (K : Int), af2, fr2⟩ F = Rr.drop (i * K) ∧ GL w W1 ⟨k, a, b, c, d, x, y, sq, (K : Int), af2, fr2⟩ (Rr.take (i * K)) pv wr) (fun _ iv _ => mo - natOf iv)
 case atStart =>
  refine ⟨0, af, fr, Nat.zero_le _, np_pos Rr K, rfl, ?_, ?_⟩
  ·rw [Nat.zero_mul, List.drop_zero]; exact HRr.out
  ·rw [Nat.zero_mul, List.take_zero]; exact HGL0.out
 case round =>
  obtain ⟨i, af2, fr2, hi, hnp, rfl, hrs, hG⟩ := hrel
  obtain ⟨po, pc, rfl, -⟩ := sl_of_own hG.own
  have HG : Hid (GL w W1 ⟨k, a, b, c, d, x, y, sq, (K : Int), af2, fr2⟩ (Rr.take (i * K)) _ wr) := hG
  obtain ⟨pn, hpn⟩ : ∃ pn, (Rr.take (i * K)).length = pn := ⟨_, rfl⟩
  rw [hpn] at HG ⊢
  clear HGL0
  by_cases hlt : i < mo
  ·have q5 : (i : Int) < (mo : Int) := by omega
   have hgv := HA.out wr af2 fr2 (HR.out.below hG.bel (Nat.le_refl _))
   rw [hrs] at hgv
   have hmo2 : decide (K < (Rr.drop (i * K)).length) = decide (i + 1 < np Rr K) := by
    rw [List.length_drop]
    congr 1
    refine propext ?_
    rw [np_iff Rr h0K]
    have : (i + 1) * K = i * K + K := by rw [Nat.add_mul, Nat.one_mul]
    omega
   rw [hmo2, show (Rr.drop (i * K)).take K = pce Rr K i from rfl] at hgv
   have HGV : Hid (∀ _ : True, _) := fun _ => hgv
   have HPL : Hid ((pce Rr K i).length ≤ K ∧ (i + 1 < np Rr K → (pce Rr K i).length = K)) := ⟨by unfold pce; rw [List.length_take]; omega, fun h => by
    have h2 := (np_iff Rr h0K i).1 h
    have : (i + 1) * K = i * K + K := by rw [Nat.add_mul, Nat.one_mul]
    unfold pce
    rw [List.length_take, List.length_drop]
    omega⟩
   have HNX : Hid (i + 1 < np Rr K → rest ⟨k, a, b, c, d, x, y, sq, (K : Int), (rat (pce Rr K i) (K - 1)).id, true⟩ F = Rr.drop ((i + 1) * K)) := fun h => by
    have h2 := (np_iff Rr h0K i).1 h
    have e3 : (i + 1) * K = i * K + K := by rw [Nat.add_mul, Nat.one_mul]
    have := rest_next (q := ⟨k, a, b, c, d, x, y, sq, (K : Int), af2, fr2⟩) HF.out hk h0K (by rw [hrs, List.length_drop]; omega)
    rw [hrs, drop_next] at this
    exact this
   have HTN : Hid (Rr.take ((i + 1) * K) = Rr.take (i * K) ++ pce Rr K i) := pce_next Rr K i
   have lg : w.heap.size < wr.heap.size := (Array.getElem?_eq_some_iff.1 hG.box).1
   obtain ⟨c0, c1, c2, c3, c4, c5, c6, c7, c8, c9, c10⟩ := qc_of hG.box
   simp only at c0 c1 c2 c3 c4 c5 c6 c7 c8 c9 c10
   obtain ⟨P, hP⟩ : ∃ P, pce Rr K i = P := ⟨_, rfl⟩
   rw [hP] at HGV HPL HNX HTN
   have htl : pn ≤ 1000 := by have := HRl.out; rw [← hpn, List.length_take]; omega
   have HPN : Hid ((Rr.take (i * K)).length = pn) := hpn
   clear hgv hmo2 hrs hP hG hpn
   go_wp2_with fail
   refine Calls.mono (HGV.out trivial) ?_
   rintro e w2 ⟨o2, cap2, rfl, hr2, b2, hf2⟩
   have HG2 : Hid (GL w W1 ⟨k, a, b, c, d, x, y, sq, (K : Int), af2, fr2⟩ (Rr.take (i * K)) (.slice po pn pc) w2) := ⟨(b2.block _ lg).trans HG.out.box, own_same HG.out.own fun b _ hlt => b2.block b hlt, HG.out.bel.trans (b2.mono HG.out.bel.size), Nat.le_trans HG.out.le b2.size⟩
   have hown2 := HG2.out.own
   rw [HPN.out] at hown2
   have HPm := HPL.out.1
   obtain ⟨v', W3, hrun, a1, a2, a3⟩ := append_sl 32 54 Try.underlying32 infoRow rfl (by decide) (by decide) w2 W1.heap.size pn P.length (.slice po pn pc) o2 cap2 ((Rr.take (i * K)).flatMap rc) (P.flatMap rc) hown2 HG2.out.le hr2 (rc_one P) (by omega)
   have hnb : ∀ j, j < W1.heap.size → Value.ownBlock (.slice po pn pc) ≠ some j := fun j hj e => by have := (own_base hown2 e).1; omega
   have hl2 : w.heap.size < w2.heap.size := Nat.lt_of_lt_of_le lg b2.size
   have hg3 : W3.heap[w.heap.size]? = some (qcs ⟨k, a, b, c, d, x, y, sq, (K : Int), af2, fr2⟩) := (a2.block _ hl2 (fun e => hnb _ LW1.out e.symm)).trans HG2.out.box
   have HG3 : Hid (GL w W1 ⟨k, a, b, c, d, x, y, sq, (K : Int), af2, fr2⟩ (Rr.take ((i + 1) * K)) v' W3) := by
    refine ⟨hg3, ?_, HG2.out.bel.grown a2 HG2.out.bel.size fun b eb => by have := (own_base hown2 eb).1; have := LW1.out; omega, Nat.le_trans HG2.out.le a2.size⟩
    rw [HTN.out, List.flatMap_append, List.length_append, HPN.out]
    exact a1
   have HR3 : Hid (RowsAt W3 o2 cap2 P) := rows_keep hr2 a2.size fun b off e hn hlt => a2.block b hlt fun e2 => by
    have h5 := hf2 b off e hn
    have h6 := (own_base HG.out.own (b := b) (by have := e2.symm; simpa using this)).2
    omega
   have HFB : Hid (∀ b off, o2 = some ⟨b, off, none⟩ → 0 < P.length → b ≠ w.heap.size) := fun b off e hn => by have := hf2 b off e hn; omega
   have htn : ∀ n m : Nat, pn + P.length = n → n = m → True := fun _ _ _ _ => trivial
   obtain ⟨tn, htn2⟩ : ∃ tn, pn + P.length = tn := ⟨_, rfl⟩
   rw [htn2] at a1
   obtain ⟨o3, cap3, rfl, -⟩ := sl_of_own a1
   have HNX3 : Hid (Rr.take ((i + 1) * K) = Rr.take ((i + 1) * K)) := rfl
   have hg3' := hg3
   clear c0 c1 c2 c3 c4 c5 c6 c7 c8 c9 c10 htn
   have lg3 : w.heap.size < W3.heap.size := (Array.getElem?_eq_some_iff.1 hg3).1
   obtain ⟨c0, c1, c2, c3, c4, c5, c6, c7, c8, c9, c10⟩ := qc_of hg3
   simp only at c0 c1 c2 c3 c4 c5 c6 c7 c8 c9 c10
   by_cases hmore : i + 1 < np Rr K
   ·rw [decide_eq_true hmore]
    have hPl := HPL.out.2 hmore
    obtain ⟨bb, off, rfl, hbl, hc⟩ := HR3.out.row (i := K - 1) (by omega)
    have ci := (hc (K - 1) (by omega)).1
    have hnx := HNX.out hmore
    obtain ⟨id, hid⟩ : ∃ id, (rat P (K - 1)).id = id := ⟨_, rfl⟩
    rw [hid] at ci hnx
    have hne : bb ≠ w.heap.size := HFB.out bb off rfl (by omega)
    have z9 : W3.frozen? ⟨w.heap.size, 9, none⟩ = false := frozen_of_row W3 _ 9 _ _ hg3
    have z10 : W3.frozen? ⟨w.heap.size, 10, none⟩ = false := frozen_of_row W3 _ 10 _ _ hg3
    have ci2 : (W3.setCell ⟨w.heap.size, 10, none⟩ (.bool true)).cell? ⟨bb, off + (K - 1) * 4, none⟩ = some (.int .u64 (id : Int)) := (World.cell?_of_block (a := ⟨bb, off + (K - 1) * 4, none⟩) (Below.heap_setCell W3 _ _ _ hne)).trans ci
    have hPK : (P.length : Int) = (K : Int) := by omega
    have hK1 : (0 : Int) ≤ (K : Int) - 1 := by omega
    have s1 := heap_setCell_same W3 w.heap.size 10 _ _ (.bool true) hg3
    have s2 := heap_setCell_same _ w.heap.size 9 _ _ (.int .u64 (id : Int)) s1
    have bset : ∀ (A : World) (k : Nat) (u : Value), Below w.heap.size A (A.setCell ⟨w.heap.size, k, none⟩ u) := fun A k u => ⟨rfl, rfl, rfl, by simp [World.setCell], fun j hj => Below.heap_setCell _ _ _ _ (fun e => by have e' : j = w.heap.size := e; omega)⟩
    have HG4 : Hid (GL w W1 ⟨k, a, b, c, d, x, y, sq, (K : Int), id, true⟩ (Rr.take ((i + 1) * K)) (.slice o3 tn cap3) ((W3.setCell ⟨w.heap.size, 10, none⟩ (.bool true)).setCell ⟨w.heap.size, 9, none⟩ (.int .u64 (id : Int)))) := by
     refine ⟨s2, own_same HG3.out.own fun b hb hlt => ?_, HG3.out.bel.trans ((bset _ _ _).trans (bset _ _ _)), by simp [World.setCell]; exact HG3.out.le⟩
     have : b ≠ w.heap.size := by have := (own_base HG3.out.own hb).1; have := LW1.out; omega
     exact (Below.heap_setCell _ _ _ _ (fun e => this e)).trans (Below.heap_setCell _ _ _ _ (fun e => this e))
    have HNX2 : Hid (rest ⟨k, a, b, c, d, x, y, sq, (K : Int), id, true⟩ F = Rr.drop ((i + 1) * K)) := hnx
    have i1 : (i : Int) + 1 ≤ 9223372036854775807 := by omega
    have HI : Hid (i + 1 ≤ mo ∧ i + 1 < np Rr K) := ⟨by omega, hmore⟩
    have hkb : (bb : Nat) ≠ w.heap.size := hne
    clear hc hid ci hnx s1 s2 bset hown2 hnb hr2 b2 hf2 a1 a2 a3 hg3 hg3' hbl HPm hl2 hmore hPl HNX HPL HTN HG2 HG HGV HR3 HFB hnp htn2
    go_wp2_with (at_builtin; refine list_append rfl 32 32 (.tmp 45) (.tmp 46) rfl (vs := .slice po pn pc) (vx := .slice (some ⟨bb, off, none⟩) P.length cap2) rfl rfl hrun ?_)
    go_roundw
    case rel => exact ⟨i + 1, id, true, HI.out.1, HI.out.2, by go_num, HNX2.out, HG4.out⟩
    case measure => simp [natOf]; omega
   ·rw [decide_eq_false hmore]
    have hnp2 : np Rr K = i + 1 := by omega
    have hall := np_all Rr h0K (mo := mo) (by omega)
    have hT3 : Rr.take ((i + 1) * K) = T := by rw [← hnp2, hall.2, ← hall.1]; exact HTT.out
    have h7 := HG3.out.own
    rw [hT3] at h7
    obtain ⟨o4, cap4, e4, s4⟩ := sl_of_own h7
    have h8 : T.length = tn := by cases e4; rfl
    rw [h8] at e4
    cases e4
    have HE : Hid (RowsAt W3 o3 cap3 T ∧ Below w.heap.size w W3) := ⟨s4, HG3.out.bel⟩
    have HTL : Hid (T.length = tn) := h8
    clear hown2 hnb hr2 b2 hf2 a1 a2 a3 hg3 hg3' HPm hl2 hmore HNX HPL HTN HG2 HG HGV HR3 HFB hnp htn2 h7 h8 s4 hT3 hall hnp2
    go_wp2_with (at_builtin; refine list_append rfl 32 32 (.tmp 45) (.tmp 46) rfl (vs := .slice po pn pc) (vx := .slice o2 P.length cap2) rfl rfl hrun ?_)
    go_ret2
    refine ⟨o3, cap3, ?_, HE.out.1, HE.out.2⟩
    rw [HTL.out]
    rfl
  ·obtain rfl : i = mo := by omega
   have q5 : ¬ (i : Int) < (i : Int) := by omega
   have h7 := HG.out.own
   rw [HTT.out] at h7 hpn
   rw [hpn] at h7
   rw [← hpn] at h7
   obtain ⟨o4, cap4, e4, s4⟩ := sl_of_own h7
   rw [hpn] at e4
   cases e4
   have HE : Hid (RowsAt wr po pc T ∧ Below w.heap.size w wr) := ⟨s4, HG.out.bel⟩
   have HTL : Hid (T.length = pn) := hpn
   clear hrs hG h7 s4 hpn
   go_wp2_with fail
   go_ret2
   refine ⟨po, pc, ?_, HE.out.1, HE.out.2⟩
   rw [HTL.out]
   rfl
set_option maxRecDepth 100000 in
theorem gall_any (o : Option Addr) (cap : Nat) (l : List Rw) (q : Qr) (M : Nat) (hM : ∀ r ∈ l, r.id < M) (mo : Int) (hmo : mo ≤ 9223372036854775807) (w : World) (hr : RowsAt w o cap l) :
  Calls Try.prog 18 #[.slice o l.length cap, qv q, .int .i64 mo] w (KR (allL q M mo l) (allE q mo l) w) := by
 unfold allL allE
 by_cases h : q.k = 3 ∨ mo < 0
 ·rw [if_pos h, if_pos (.inl h)]
  refine (gall_arg _ q mo h w).mono ?_
  rintro e w' ⟨rfl, hb⟩
  exact ⟨none, 0, rfl, Sl.nil 4 w', hb⟩
 ·rw [if_neg h]
  by_cases hok : rightL l = true ∧ chk q = 0
  ·rw [if_neg (fun e => e.elim h (fun e => e hok)), fd_ok hok]
   obtain ⟨-, k0, -, -⟩ := chk_ok hok.2
   obtain ⟨k, a, b, c, d, x, y, sq, kk, af, fr⟩ := q
   simp only at k0 h
   obtain ⟨K, rfl⟩ : ∃ K : Nat, kk = (K : Int) := ⟨kk.toNat, by omega⟩
   obtain ⟨m, rfl⟩ : ∃ m : Nat, mo = (m : Int) := ⟨mo.toNat, by omega⟩
   simp only [Int.toNat_natCast]
   exact gall_ok o cap l k a b c d x y sq K af fr M hM m (fun e => h (.inl e)) hok w hr (by omega) _ _ rfl rfl
  ·rw [if_pos (.inr hok)]
   refine (gall_bad o cap l q M hM mo h hok w hr).mono ?_
   rintro e w' ⟨rfl, hb⟩
   exact ⟨none, 0, rfl, Sl.nil 4 w', hb⟩
set_option maxRecDepth 100000 in
set_option maxHeartbeats 4000000 in
theorem findAsks_walk (l : List Rw) (q : Qr) (o : Option Addr) (cap : Nat) (w : World) (hr : RowsAt w o cap l) : Calls Try.prog 4 #[.slice o l.length cap, qv q] w fun e w' => e = .returned (.bool true) ∧ Below w.heap.size w w' := by
 have hb := below_new w (qcs q)
 have hg := heap_alloc_new w (qcs q)
 obtain ⟨W0, hW0⟩ : ∃ W0, w.alloc (qcs q) = W0 := ⟨_, rfl⟩
 rw [hW0] at hb hg
 have HW0 : Hid _ := hW0
 have HG0 : Hid (W0.heap[w.heap.size]? = some (qcs q)) := hg
 have HB0 : Hid (Below w.heap.size w W0) := hb
 have l0 : w.heap.size < W0.heap.size := (Array.getElem?_eq_some_iff.1 hg).1
 obtain ⟨L, hL⟩ : ∃ L, l.take 60 = L := ⟨_, rfl⟩
 have HF : Hid (∀ W, RowsAt W o cap l → Calls Try.prog 14 #[.slice o l.length cap] W fun e w' => e = .returned (.slice o L.length cap) ∧ w' = W) := fun W hW => by rw [← hL]; exact few_any l o cap W hW
 have HR0 : Hid (RowsAt w o cap l) := hr
 have HR : Hid (RowsAt w o cap L) := by rw [← hL]; exact hr.head 60
 clear hL
 obtain ⟨M, hM⟩ := bound_ids L
 have HA : Hid (∀ W, RowsAt W o cap L → _) := fun W hW => ask_any o cap L q M hM W hW
 have HC : Hid (∀ W, RowsAt W o cap L → _) := fun W hW => gask_any o cap L q M hM W hW
 generalize askL q M L = AL at *
 generalize askB q M L = AB at *
 generalize fdE q L = E at *
 clear hM
 obtain ⟨k, a, b, c, d, x, y, sq, kk, af, fr⟩ := q
 simp only [qv] at HA HC ⊢
 clear hb hg hW0 hr
 go_enter Try.func4, Try.ntmps4
 go_wp2_with (first | (rw [HW0.out]; clear HW0))
 refine (fshown_any _).mono ?_
 rintro e w1 ⟨rfl, b1⟩
 have HB1 : Hid (Below w.heap.size w w1) := HB0.out.trans (b1.mono HB0.out.size)
 have HG1 : Hid (w1.heap[w.heap.size]? = some (qcs ⟨k, a, b, c, d, x, y, sq, kk, af, fr⟩)) := (b1.block _ l0).trans HG0.out
 have l1 : w.heap.size < w1.heap.size := Nat.lt_of_lt_of_le l0 b1.size
 clear b1 HG0 HB0 l0
 go_wp2_with fail
 refine wp_region_held (S := QC w.heap.size ⟨k, a, b, c, d, x, y, sq, kk, af, fr⟩) (by kernel_rfl) ?_
 change wpAnyH _ _ _ _ _ _ _ _ (World.drew _)
 have HSW : Hid (QC w.heap.size ⟨k, a, b, c, d, x, y, sq, kk, af, fr⟩ w1.drew) := qc_of HG1.out
 refine wpAnyH_take (i := 0) (v := ?_) rfl (by kernel_rfl) (by kernel_rfl) (by kernel_rfl) (fun _ _ _ h => h) (Or.inl ⟨by kernel_rfl, ?_⟩) HSW.out ?_
 rotate_left
 ·rintro w ⟨e0,e1,e2,e3,e4,e5,e6,e7,e8,e9,e10⟩; go_simp; try with_reducible rfl
 conv in (Act.put _ _ _) => simp only [List.getElem_toArray, List.getElem_cons_succ, List.getElem_cons_zero, Act.put, List.setIfInBounds_toArray, List.set_cons_succ, List.set_cons_zero]
 refine wpAnyH_take (i := 2) (v := ?_) rfl (by kernel_rfl) (by kernel_rfl) (by kernel_rfl) (fun _ _ _ h => h) (Or.inl ⟨by kernel_rfl, ?_⟩) HSW.out ?_
 rotate_left
 ·rintro w ⟨e0,e1,e2,e3,e4,e5,e6,e7,e8,e9,e10⟩; go_simp; try with_reducible rfl
 conv in (Act.put _ _ _) => simp only [List.getElem_toArray, List.getElem_cons_succ, List.getElem_cons_zero, Act.put, List.setIfInBounds_toArray, List.set_cons_succ, List.set_cons_zero]
 refine readyH 1 _ (by kernel_rfl) rfl (by kernel_rfl) (fun K hK => ?_)
 go_simp
 refine (HF.out _ (HR0.out.below HB1.out.drew (Nat.le_refl _))).mono ?_
 rintro e w9 ⟨rfl, hw9⟩
 have hw9' := hw9.symm
 clear hw9
 subst hw9'
 refine hK _ _ HSW.out ?_
 clear hK K
 refine readyH 3 _ (by kernel_rfl) rfl (by kernel_rfl) (fun K hK => ?_)
 go_simp
 refine Calls.mono (HA.out _ (HR.out.below HB1.out.drew (Nat.le_refl _))) ?_
 rintro e w2 ⟨o2, cap2, rfl, hr2, b2⟩
 replace b2 : Below w1.heap.size w1 w2 := (Below.refl _ w1).drew.trans b2
 have HB2 : Hid (Below w.heap.size w w2) := HB1.out.trans (b2.mono HB1.out.size)
 have HG2 : Hid (w2.heap[w.heap.size]? = some (qcs ⟨k, a, b, c, d, x, y, sq, kk, af, fr⟩)) := (b2.block _ l1).trans HG1.out
 have l2 : w.heap.size < w2.heap.size := Nat.lt_of_lt_of_le l1 b2.size
 clear HSW
 have HSW : Hid (QC w.heap.size ⟨k, a, b, c, d, x, y, sq, kk, af, fr⟩ w2) := qc_of HG2.out
 have HX2 : Hid (RowsAt w2 o2 cap2 AL) := hr2
 clear b2 hr2 HA
 refine hK _ _ HSW.out ?_
 clear hK K
 refine wpAnyH_take (i := 4) (v := ?_) rfl (by kernel_rfl) (by kernel_rfl) (by kernel_rfl) (fun _ _ _ h => h) (Or.inl ⟨by kernel_rfl, ?_⟩) HSW.out ?_
 rotate_left
 ·rintro w ⟨e0,e1,e2,e3,e4,e5,e6,e7,e8,e9,e10⟩; go_simp; try with_reducible rfl
 conv in (Act.put _ _ _) => simp only [List.getElem_toArray, List.getElem_cons_succ, List.getElem_cons_zero, Act.put, List.setIfInBounds_toArray, List.set_cons_succ, List.set_cons_zero]
 refine wpAnyH_take (i := 5) (v := ?_) rfl (by kernel_rfl) (by kernel_rfl) (by kernel_rfl) (fun _ _ _ h => h) (Or.inl ⟨by kernel_rfl, ?_⟩) HSW.out ?_
 rotate_left
 ·rintro w ⟨e0,e1,e2,e3,e4,e5,e6,e7,e8,e9,e10⟩; go_simp; try with_reducible rfl
 conv in (Act.put _ _ _) => simp only [List.getElem_toArray, List.getElem_cons_succ, List.getElem_cons_zero, Act.put, List.setIfInBounds_toArray, List.set_cons_succ, List.set_cons_zero]
 refine wpAnyH_take (i := 6) (v := ?_) rfl (by kernel_rfl) (by kernel_rfl) (by kernel_rfl) (fun _ _ _ h => h) (Or.inl ⟨by kernel_rfl, ?_⟩) HSW.out ?_
 rotate_left
 ·rintro w ⟨e0,e1,e2,e3,e4,e5,e6,e7,e8,e9,e10⟩; go_simp; try with_reducible rfl
 conv in (Act.put _ _ _) => simp only [List.getElem_toArray, List.getElem_cons_succ, List.getElem_cons_zero, Act.put, List.setIfInBounds_toArray, List.set_cons_succ, List.set_cons_zero]
 refine wpAnyH_take (i := 7) (v := ?_) rfl (by kernel_rfl) (by kernel_rfl) (by kernel_rfl) (fun _ _ _ h => h) (Or.inl ⟨by kernel_rfl, ?_⟩) HSW.out ?_
 rotate_left
 ·rintro w ⟨e0,e1,e2,e3,e4,e5,e6,e7,e8,e9,e10⟩; go_simp; try with_reducible rfl
 conv in (Act.put _ _ _) => simp only [List.getElem_toArray, List.getElem_cons_succ, List.getElem_cons_zero, Act.put, List.setIfInBounds_toArray, List.set_cons_succ, List.set_cons_zero]
 refine wpAnyH_take (i := 8) (v := ?_) rfl (by kernel_rfl) (by kernel_rfl) (by kernel_rfl) (fun _ _ _ h => h) (Or.inl ⟨by kernel_rfl, ?_⟩) HSW.out ?_
 rotate_left
 ·rintro w ⟨e0,e1,e2,e3,e4,e5,e6,e7,e8,e9,e10⟩; go_simp; try with_reducible rfl
 conv in (Act.put _ _ _) => simp only [List.getElem_toArray, List.getElem_cons_succ, List.getElem_cons_zero, Act.put, List.setIfInBounds_toArray, List.set_cons_succ, List.set_cons_zero]
 refine wpAnyH_take (i := 9) (v := ?_) rfl (by kernel_rfl) (by kernel_rfl) (by kernel_rfl) (fun _ _ _ h => h) (Or.inl ⟨by kernel_rfl, ?_⟩) HSW.out ?_
 rotate_left
 ·rintro w ⟨e0,e1,e2,e3,e4,e5,e6,e7,e8,e9,e10⟩; go_simp; try with_reducible rfl
 conv in (Act.put _ _ _) => simp only [List.getElem_toArray, List.getElem_cons_succ, List.getElem_cons_zero, Act.put, List.setIfInBounds_toArray, List.set_cons_succ, List.set_cons_zero]
 refine wpAnyH_take (i := 10) (v := ?_) rfl (by kernel_rfl) (by kernel_rfl) (by kernel_rfl) (fun _ _ _ h => h) (Or.inl ⟨by kernel_rfl, ?_⟩) HSW.out ?_
 rotate_left
 ·rintro w ⟨e0,e1,e2,e3,e4,e5,e6,e7,e8,e9,e10⟩; go_simp; try with_reducible rfl
 conv in (Act.put _ _ _) => simp only [List.getElem_toArray, List.getElem_cons_succ, List.getElem_cons_zero, Act.put, List.setIfInBounds_toArray, List.set_cons_succ, List.set_cons_zero]
 refine wpAnyH_done (by kernel_rfl) ?_ _
 clear HSW
 go_wp2_with fail
 refine wp_region_held (S := QC w.heap.size ⟨k, a, b, c, d, x, y, sq, kk, af, fr⟩) (by kernel_rfl) ?_
 change wpAnyH _ _ _ _ _ _ _ _ (World.drew _)
 have HSW : Hid (QC w.heap.size ⟨k, a, b, c, d, x, y, sq, kk, af, fr⟩ w2.drew) := qc_of HG2.out
 refine wpAnyH_take (i := 0) (v := ?_) rfl (by kernel_rfl) (by kernel_rfl) (by kernel_rfl) (fun _ _ _ h => h) (Or.inl ⟨by kernel_rfl, ?_⟩) HSW.out ?_
 rotate_left
 ·rintro w ⟨e0,e1,e2,e3,e4,e5,e6,e7,e8,e9,e10⟩; go_simp; try with_reducible rfl
 conv in (Act.put _ _ _) => simp only [List.getElem_toArray, List.getElem_cons_succ, List.getElem_cons_zero, Act.put, List.setIfInBounds_toArray, List.set_cons_succ, List.set_cons_zero]
 refine wpAnyH_take (i := 2) (v := ?_) rfl (by kernel_rfl) (by kernel_rfl) (by kernel_rfl) (fun _ _ _ h => h) (Or.inl ⟨by kernel_rfl, ?_⟩) HSW.out ?_
 rotate_left
 ·rintro w ⟨e0,e1,e2,e3,e4,e5,e6,e7,e8,e9,e10⟩; go_simp; try with_reducible rfl
 conv in (Act.put _ _ _) => simp only [List.getElem_toArray, List.getElem_cons_succ, List.getElem_cons_zero, Act.put, List.setIfInBounds_toArray, List.set_cons_succ, List.set_cons_zero]
 refine readyH 1 _ (by kernel_rfl) rfl (by kernel_rfl) (fun K hK => ?_)
 go_simp
 refine (HF.out _ (HR0.out.below HB2.out.drew (Nat.le_refl _))).mono ?_
 rintro e w9 ⟨rfl, hw9⟩
 have hw9' := hw9.symm
 clear hw9
 subst hw9'
 refine hK _ _ HSW.out ?_
 clear hK K
 refine readyH 3 _ (by kernel_rfl) rfl (by kernel_rfl) (fun K hK => ?_)
 go_simp
 refine Calls.mono (HC.out _ (HR.out.below HB2.out.drew (Nat.le_refl _))) ?_
 rintro e w3 ⟨o3, cap3, rfl, hr3, b3, -⟩
 replace b3 : Below w2.heap.size w2 w3 := (Below.refl _ w2).drew.trans b3
 have HB3 : Hid (Below w.heap.size w w3) := HB2.out.trans (b3.mono HB2.out.size)
 have HG3 : Hid (w3.heap[w.heap.size]? = some (qcs ⟨k, a, b, c, d, x, y, sq, kk, af, fr⟩)) := (b3.block _ l2).trans HG2.out
 have l3 : w.heap.size < w3.heap.size := Nat.lt_of_lt_of_le l2 b3.size
 clear HSW
 have HSW : Hid (QC w.heap.size ⟨k, a, b, c, d, x, y, sq, kk, af, fr⟩ w3) := qc_of HG3.out
 have HS : Hid (∀ _ : True, _) := fun _ => same_any AL o2 cap2 o3 cap3 w3 (HX2.out.below b3 (Nat.le_refl _)) hr3
 clear b3 hr3 HC HX2
 refine hK _ _ HSW.out ?_
 clear hK K
 refine wpAnyH_take (i := 4) (v := ?_) rfl (by kernel_rfl) (by kernel_rfl) (by kernel_rfl) (fun _ _ _ h => h) (Or.inl ⟨by kernel_rfl, ?_⟩) HSW.out ?_
 rotate_left
 ·rintro w ⟨e0,e1,e2,e3,e4,e5,e6,e7,e8,e9,e10⟩; go_simp; try with_reducible rfl
 conv in (Act.put _ _ _) => simp only [List.getElem_toArray, List.getElem_cons_succ, List.getElem_cons_zero, Act.put, List.setIfInBounds_toArray, List.set_cons_succ, List.set_cons_zero]
 refine wpAnyH_take (i := 5) (v := ?_) rfl (by kernel_rfl) (by kernel_rfl) (by kernel_rfl) (fun _ _ _ h => h) (Or.inl ⟨by kernel_rfl, ?_⟩) HSW.out ?_
 rotate_left
 ·rintro w ⟨e0,e1,e2,e3,e4,e5,e6,e7,e8,e9,e10⟩; go_simp; try with_reducible rfl
 conv in (Act.put _ _ _) => simp only [List.getElem_toArray, List.getElem_cons_succ, List.getElem_cons_zero, Act.put, List.setIfInBounds_toArray, List.set_cons_succ, List.set_cons_zero]
 refine wpAnyH_take (i := 6) (v := ?_) rfl (by kernel_rfl) (by kernel_rfl) (by kernel_rfl) (fun _ _ _ h => h) (Or.inl ⟨by kernel_rfl, ?_⟩) HSW.out ?_
 rotate_left
 ·rintro w ⟨e0,e1,e2,e3,e4,e5,e6,e7,e8,e9,e10⟩; go_simp; try with_reducible rfl
 conv in (Act.put _ _ _) => simp only [List.getElem_toArray, List.getElem_cons_succ, List.getElem_cons_zero, Act.put, List.setIfInBounds_toArray, List.set_cons_succ, List.set_cons_zero]
 refine wpAnyH_take (i := 7) (v := ?_) rfl (by kernel_rfl) (by kernel_rfl) (by kernel_rfl) (fun _ _ _ h => h) (Or.inl ⟨by kernel_rfl, ?_⟩) HSW.out ?_
 rotate_left
 ·rintro w ⟨e0,e1,e2,e3,e4,e5,e6,e7,e8,e9,e10⟩; go_simp; try with_reducible rfl
 conv in (Act.put _ _ _) => simp only [List.getElem_toArray, List.getElem_cons_succ, List.getElem_cons_zero, Act.put, List.setIfInBounds_toArray, List.set_cons_succ, List.set_cons_zero]
 refine wpAnyH_take (i := 8) (v := ?_) rfl (by kernel_rfl) (by kernel_rfl) (by kernel_rfl) (fun _ _ _ h => h) (Or.inl ⟨by kernel_rfl, ?_⟩) HSW.out ?_
 rotate_left
 ·rintro w ⟨e0,e1,e2,e3,e4,e5,e6,e7,e8,e9,e10⟩; go_simp; try with_reducible rfl
 conv in (Act.put _ _ _) => simp only [List.getElem_toArray, List.getElem_cons_succ, List.getElem_cons_zero, Act.put, List.setIfInBounds_toArray, List.set_cons_succ, List.set_cons_zero]
 refine wpAnyH_take (i := 9) (v := ?_) rfl (by kernel_rfl) (by kernel_rfl) (by kernel_rfl) (fun _ _ _ h => h) (Or.inl ⟨by kernel_rfl, ?_⟩) HSW.out ?_
 rotate_left
 ·rintro w ⟨e0,e1,e2,e3,e4,e5,e6,e7,e8,e9,e10⟩; go_simp; try with_reducible rfl
 conv in (Act.put _ _ _) => simp only [List.getElem_toArray, List.getElem_cons_succ, List.getElem_cons_zero, Act.put, List.setIfInBounds_toArray, List.set_cons_succ, List.set_cons_zero]
 refine wpAnyH_take (i := 10) (v := ?_) rfl (by kernel_rfl) (by kernel_rfl) (by kernel_rfl) (fun _ _ _ h => h) (Or.inl ⟨by kernel_rfl, ?_⟩) HSW.out ?_
 rotate_left
 ·rintro w ⟨e0,e1,e2,e3,e4,e5,e6,e7,e8,e9,e10⟩; go_simp; try with_reducible rfl
 conv in (Act.put _ _ _) => simp only [List.getElem_toArray, List.getElem_cons_succ, List.getElem_cons_zero, Act.put, List.setIfInBounds_toArray, List.set_cons_succ, List.set_cons_zero]
 refine wpAnyH_done (by kernel_rfl) ?_ _
 go_wp2_with fail
 refine Calls.mono (HS.out trivial) ?_
 rintro e w4 ⟨rfl, b4⟩
 have HB4 : Hid (Below w.heap.size w w4) := HB3.out.trans (b4.mono HB3.out.size)
 clear b4 HS
 go_wp2_with fail
 go_ret
 exact ⟨rfl, HB4.out⟩
end Go.Proofs.Ytimdlohdmddnjaa.Rf
