/- The reference: Ask. -/
import Derived.Test.YtimdlohdmddnjaaPOP
import Derived.Test.YtimdlohdmddnjaaPHR
import Derived.Test.YtimdlohdmddnjaaPOM
import Derived.Test.YtimdlohdmddnjaaQJJ
namespace Go.Proofs.Ytimdlohdmddnjaa.Rf
open Go.RowKit Go.Lib
open Go.Proofs.Ytimdlohdmddnjaa.Rc Go.Proofs.Ytimdlohdmddnjaa.Rq
/-- Rows, a bool, and an error; the rows in a new block. -/
def AF (m : List Rw) (B : Bool) (E : Int) (w : World) (e : Ending) (w' : World) : Prop := ∃ o cap, e = .returned (.tuple #[.slice o m.length cap, .bool B, .int .i64 E]) ∧ RowsAt w' o cap m ∧ Below w.heap.size w w' ∧ Fresh w.heap.size o m.length
set_option maxRecDepth 100000 in
set_option maxHeartbeats 2000000 in
theorem gask_any (o : Option Addr) (cap : Nat) (l : List Rw) (q : Qr) (M : Nat) (hM : ∀ r ∈ l, r.id < M) (w : World) (hr : RowsAt w o cap l) :
  Calls Try.prog 15 #[.slice o l.length cap, qv q] w (AF (askL q M l) (askB q M l) (fdE q l) w) := by
 have hb := below_new w (qcs q)
 have hg := heap_alloc_new w (qcs q)
 obtain ⟨W0, hW0⟩ : ∃ W0, w.alloc (qcs q) = W0 := ⟨_, rfl⟩
 rw [hW0] at hb hg
 have HW0 : Hid _ := hW0
 have HG0 : Hid (W0.heap[w.heap.size]? = some (qcs q)) := hg
 have HB0 : Hid (Below w.heap.size w W0) := hb
 have HR : Hid (RowsAt w o cap l) := hr
 have lq : w.heap.size < W0.heap.size := (Array.getElem?_eq_some_iff.1 hg).1
 have HRT : Hid (∀ _ : True, _) := fun _ => eright_any l o cap W0 (hr.below hb (Nat.le_refl _))
 have HCK : Hid _ := gCheck_any q
 by_cases hok : rightL l = true ∧ chk q = 0
 ·have hE := fd_ok hok
  have e2 : askL q M l = (rest q (fnd q M l)).take q.K.toNat := if_pos hok
  have e3 : askB q M l = decide (q.K.toNat < (rest q (fnd q M l)).length) := if_pos hok
  rw [hE, e2, e3]
  obtain ⟨-, k0, k64, -⟩ := chk_ok hok.2
  have HAK : Hid (∀ W, RowsAt W o cap l → _) := fun W hW => asked_any o cap l q M hM W hW hok.1 hok.2
  have hlen := Nat.le_trans (rest_len q (fnd q M l)) (fnd_len q M l)
  have hmx := ((rightL_iff l).1 hok.1).1
  obtain ⟨R, hR⟩ : ∃ R, rest q (fnd q M l) = R := ⟨_, rfl⟩
  rw [hR] at HAK hlen ⊢
  rw [hok.1] at HRT
  rw [hok.2] at HCK
  obtain ⟨k, a, b, c, d, x, y, sq, kk, af, fr⟩ := q
  obtain ⟨K, rfl⟩ : ∃ K : Nat, kk = (K : Int) := ⟨kk.toNat, by simp only at k0; omega⟩
  simp only [Int.toNat_natCast]
  simp only at k64
  obtain ⟨n, hn⟩ : ∃ n, (R.take K).length = n := ⟨_, rfl⟩
  have hn2 : n = min K R.length := by rw [← hn, List.length_take]
  have hmin : (if (R.length : Int) < (K : Int) then (R.length : Int) else (K : Int)) = (n : Int) := by split <;> omega
  have HBq : Hid (decide (n < R.length) = decide (K < R.length)) := by
   refine (?_ : decide (n < R.length) = decide (K < R.length))
   congr 1
   exact propext (by omega)
  have HNR : Hid ((R.take K).length = n) := hn
  have hnle : n ≤ R.length := by omega
  simp only [qv] at HAK HCK ⊢
  clear hb hg hW0 hr hE e2 e3 hok hR k0 k64 hlen hmx hn hn2
  go_enter Try.func15, Try.ntmps15
  go_wp2_with (first | (rw [HW0.out]; clear HW0))
  refine Calls.mono (HRT.out trivial) ?_
  rintro e w1 ⟨rfl, b1⟩
  have HB1 : Hid (Below w.heap.size w w1) := HB0.out.trans (b1.mono HB0.out.size)
  have HG1 : Hid _ := (b1.block _ lq).trans HG0.out
  have lq1 : w.heap.size < w1.heap.size := (Array.getElem?_eq_some_iff.1 HG1.out).1
  obtain ⟨c0, c1, c2, c3, c4, c5, c6, c7, c8, c9, c10⟩ := qc_of HG1.out
  simp only at c0 c1 c2 c3 c4 c5 c6 c7 c8 c9 c10
  clear b1 HRT HG0 HB0 lq
  go_wp2_with fail
  refine (HCK.out w1).mono ?_
  rintro e w2 ⟨rfl, b2⟩
  have HB2 : Hid (Below w.heap.size w w2) := HB1.out.trans (b2.mono HB1.out.size)
  have HG2 : Hid _ := (b2.block _ lq1).trans HG1.out
  have lq2 : w.heap.size < w2.heap.size := (Array.getElem?_eq_some_iff.1 HG2.out).1
  clear c0 c1 c2 c3 c4 c5 c6 c7 c8 c9 c10
  obtain ⟨c0, c1, c2, c3, c4, c5, c6, c7, c8, c9, c10⟩ := qc_of HG2.out
  simp only at c0 c1 c2 c3 c4 c5 c6 c7 c8 c9 c10
  clear b2 HCK HG1 HB1 lq1
  go_wp2_with fail
  refine Calls.mono (HAK.out w2 (HR.out.below HB2.out (Nat.le_refl _))) ?_
  rintro e w3 ⟨o3, cap3, rfl, hr3, b3, hf3⟩
  have HFr : Hid (Fresh w.heap.size o3 (R.take K).length) := fun b off e hn => hf3.mono HB2.out.size b off e (by rw [List.length_take] at hn; omega)
  clear hf3
  have HB3 : Hid (Below w.heap.size w w3) := HB2.out.trans (b3.mono HB2.out.size)
  have HG3 : Hid _ := (b3.block _ lq2).trans HG2.out
  have lq3 : w.heap.size < w3.heap.size := (Array.getElem?_eq_some_iff.1 HG3.out).1
  clear c0 c1 c2 c3 c4 c5 c6 c7 c8 c9 c10
  obtain ⟨c0, c1, c2, c3, c4, c5, c6, c7, c8, c9, c10⟩ := qc_of HG3.out
  simp only at c0 c1 c2 c3 c4 c5 c6 c7 c8 c9 c10
  have hle3 := hr3.1
  have hrun := fun w => run_headW o3 R.length cap3 n w (by omega) hr3.2.2.1
  have HR3 : Hid (RowsAt w3 o3 cap3 (R.take K)) := hr3.head K
  clear b3 HAK HG2 HB2 lq2 hr3
  go_wp2_with (refine flist_min rfl 3 3 (.tmp 24) (.tmp 26) rfl rfl rfl hmin ?_)
  go_ret3
  refine ⟨o3, cap3, ?_, HR3.out, HB3.out, HFr.out⟩
  rw [HNR.out, ← HBq.out]
  rfl
 ·have hE := fd_no hok
  have e2 : askL q M l = [] := if_neg hok
  have e3 : askB q M l = false := if_neg hok
  rw [e2, e3]
  cases hl : rightL l
  ·have e4 : fdE q l = 80 := by unfold fdE; rw [hl]; rfl
   rw [e4]
   rw [hl] at HRT
   obtain ⟨k, a, b, c, d, x, y, sq, kk, af, fr⟩ := q
   simp only [qv] at ⊢
   clear hb hg hW0 hr hE e2 e3 hok e4 hl
   go_enter Try.func15, Try.ntmps15
   go_wp2_with (first | (rw [HW0.out]; clear HW0))
   refine Calls.mono (HRT.out trivial) ?_
   rintro e w1 ⟨rfl, b1⟩
   have HB1 : Hid (Below w.heap.size w w1) := HB0.out.trans (b1.mono HB0.out.size)
   clear b1
   go_wp2_with fail
   go_ret3
   exact ⟨none, 0, rfl, Sl.nil 4 w1, HB1.out, fun b off e _ => by cases e⟩
  ·have e4 : fdE q l = chk q := by unfold fdE; rw [hl]; rfl
   rw [e4] at hE ⊢
   rw [hl] at HRT
   generalize chk q = E at *
   have q0 : (E == 0) = false := by simpa using hE
   obtain ⟨k, a, b, c, d, x, y, sq, kk, af, fr⟩ := q
   simp only [qv] at HCK ⊢
   clear hb hg hW0 hr hE e2 e3 hok e4 hl
   go_enter Try.func15, Try.ntmps15
   go_wp2_with (first | (rw [HW0.out]; clear HW0))
   refine Calls.mono (HRT.out trivial) ?_
   rintro e w1 ⟨rfl, b1⟩
   have HB1 : Hid (Below w.heap.size w w1) := HB0.out.trans (b1.mono HB0.out.size)
   have hg1 := (b1.block _ lq).trans HG0.out
   have lq1 : w.heap.size < w1.heap.size := (Array.getElem?_eq_some_iff.1 hg1).1
   obtain ⟨c0, c1, c2, c3, c4, c5, c6, c7, c8, c9, c10⟩ := qc_of hg1
   simp only at c0 c1 c2 c3 c4 c5 c6 c7 c8 c9 c10
   clear b1 hg1
   go_wp2_with fail
   refine (HCK.out w1).mono ?_
   rintro e w2 ⟨rfl, b2⟩
   have HB2 : Hid (Below w.heap.size w w2) := HB1.out.trans (b2.mono HB1.out.size)
   clear b2
   go_wp2_with fail
   go_ret3
   exact ⟨none, 0, rfl, Sl.nil 4 w2, HB2.out, fun b off e _ => by cases e⟩
end Go.Proofs.Ytimdlohdmddnjaa.Rf
/- All. -/
namespace Go.Proofs.Ytimdlohdmddnjaa.Rf
open Go.RowKit Go.Lib Go.Shelf
open Go.Proofs.Ytimdlohdmddnjaa.Rc Go.Proofs.Ytimdlohdmddnjaa.Rq
attribute [local go_sem] Oper.semAt_some
/-- What all pieces give, and what is wrong. -/
def allE (q : Qr) (mo : Int) (l : List Rw) : Int := if q.k = 3 ∨ mo < 0 then 2 else fdE q l
def allL (q : Qr) (M : Nat) (mo : Int) (l : List Rw) : List Rw := if (q.k = 3 ∨ mo < 0) ∨ ¬ (rightL l = true ∧ chk q = 0) then [] else (rest q (fnd q M l)).take (mo.toNat * q.K.toNat)
set_option maxRecDepth 100000 in
theorem pieces1_eg : ∀ args w, (callFunc 60 args).run Try.prog w = .ok (.enter 60 args) w := enters_of Try.func60 (by kernel_rfl) rfl
set_option maxRecDepth 100000 in
set_option maxHeartbeats 2000000 in
theorem all_arg (sv : Value) (q : Qr) (mo : Int) (h : q.k = 3 ∨ mo < 0) (w : World) :
  Calls Try.prog 17 #[sv, qv q, .int .i64 mo] w fun e w' => e = .returned (.tuple #[.slice none 0 0, .int .i64 2]) ∧ Below w.heap.size w w' := by
 have hn := two_new w (qcs q) (.cells #[.int .i64 mo] 3)
 obtain ⟨W0, hW0⟩ : ∃ W0, (w.alloc (qcs q)).alloc (.cells #[.int .i64 mo] 3) = W0 := ⟨_, rfl⟩
 rw [hW0] at hn
 obtain ⟨h1, h2, h3⟩ := hn
 have HW0 : Hid _ := hW0
 have HB0 : Hid (Below w.heap.size w W0) := h3
 obtain ⟨k, a, b, c, d, x, y, sq, kk, af, fr⟩ := q
 have c0 := (qc_of h1).1
 have c1 : W0.cell? ⟨w.heap.size + 1, 0, none⟩ = some (.int .i64 mo) := by rw [cell_of_row _ _ _ _ _ _ h2]; rfl
 simp only at c0 h
 simp only [qv]
 clear hW0 h1 h2 h3
 by_cases hk : k = 3
 ·subst hk
  clear h
  go_enter Try.func17, Try.ntmps17
  go_wp2_with (first | (rw [HW0.out]; clear HW0))
  refine wp_scope_straight ?_
  go_wp2_with (first | (rw [HW0.out]; clear HW0))
  simp only [Exit.noGoto]
  go_ret2
  exact ⟨rfl, HB0.out⟩
 ·have q1 : (k == 3) = false := by simpa using hk
  have q2 : mo < 0 := h.resolve_left hk
  clear h hk
  go_enter Try.func17, Try.ntmps17
  go_wp2_with (first | (rw [HW0.out]; clear HW0))
  refine wp_scope_straight ?_
  go_wp2_with (first | (rw [HW0.out]; clear HW0))
  simp only [Exit.noGoto]
  go_ret2
  exact ⟨rfl, HB0.out⟩
set_option maxRecDepth 100000 in
set_option maxHeartbeats 2000000 in
theorem all_bad (o : Option Addr) (cap : Nat) (l : List Rw) (q : Qr) (M : Nat) (hM : ∀ r ∈ l, r.id < M) (mo : Int) (h : ¬ (q.k = 3 ∨ mo < 0)) (hbad : ¬ (rightL l = true ∧ chk q = 0)) (w : World) (hr : RowsAt w o cap l) :
  Calls Try.prog 17 #[.slice o l.length cap, qv q, .int .i64 mo] w fun e w' => e = .returned (.tuple #[.slice none 0 0, .int .i64 (fdE q l)]) ∧ Below w.heap.size w w' := by
 have hn := two_new w (qcs q) (.cells #[.int .i64 mo] 3)
 obtain ⟨W0, hW0⟩ : ∃ W0, (w.alloc (qcs q)).alloc (.cells #[.int .i64 mo] 3) = W0 := ⟨_, rfl⟩
 rw [hW0] at hn
 obtain ⟨h1, h2, h3⟩ := hn
 have HW0 : Hid _ := hW0
 have HB0 : Hid (Below w.heap.size w W0) := h3
 have HFD : Hid (∀ _ : True, _) := fun _ => found_any o cap l q M hM W0 (hr.below h3 (Nat.le_refl _))
 have hE := fd_no hbad
 generalize fdE q l = E at *
 have q0 : (E == 0) = false := by simpa using hE
 obtain ⟨k, a, b, c, d, x, y, sq, kk, af, fr⟩ := q
 obtain ⟨c0, c1, c2, c3, c4, c5, c6, c7, c8, c9, c10⟩ := qc_of h1
 have d1 : W0.cell? ⟨w.heap.size + 1, 0, none⟩ = some (.int .i64 mo) := by rw [cell_of_row _ _ _ _ _ _ h2]; rfl
 simp only at c0 c1 c2 c3 c4 c5 c6 c7 c8 c9 c10 h
 simp only [qv] at HFD ⊢
 have q1 : (k == 3) = false := by simp; omega
 have q2 : ¬ mo < 0 := by omega
 clear hW0 h1 h2 h3 h hbad hE hr
 go_enter Try.func17, Try.ntmps17
 go_wp2_with (first | (rw [HW0.out]; clear HW0))
 refine wp_scope_straight ?_
 go_wp2_with (first | (rw [HW0.out]; clear HW0))
 refine Calls.mono (HFD.out trivial) ?_
 rintro e w1 ⟨o1, cap1, rfl, hr1, b1⟩
 have HB1 : Hid (Below w.heap.size w w1) := HB0.out.trans (b1.mono HB0.out.size)
 clear b1 hr1
 go_wp2_with fail
 simp only [Exit.noGoto]
 go_ret2
 exact ⟨rfl, HB1.out⟩
set_option maxRecDepth 100000 in
/-- A box of one cell holds no rows. -/
theorem rows_not_box {w : World} {g b off cap : Nat} {v : Value} {t : TypeId} {l : List Rw} (hg : w.heap[g]? = some (.cells #[v] t (0, 0))) (hr : RowsAt w (some ⟨b, off, none⟩) cap l) (hl : 0 < l.length) : b ≠ g := by
 obtain ⟨b', off', e, -, hc⟩ := hr.row hl
 cases e
 intro e
 subst e
 have h1 := (hc 0 hl).2.1
 rw [cell_of_row _ _ _ _ _ _ hg] at h1
 rw [Array.getElem?_eq_none (by simp)] at h1
 cases h1
/-- What lies there within the loop. -/
structure LJ (w w1 w3 : World) (o1 : Option Addr) (cap1 : Nat) (F Rr : List Rw) (K mo : Nat) (own : Nat → Prop) (i : Nat) (W : World) : Prop where
 most : W.heap[w.heap.size + 1]? = some (.cells #[.int .i64 ((mo : Int) - (i : Int))] 3 (0, 0))
 le : i ≤ mo
 rows : ∃ v, W.heap[w1.heap.size]? = some (.cells #[v] 32 (0, 0)) ∧ W.ownsRow w3.heap.size 54 4 v (Rr.take (i * K)).length ((Rr.take (i * K)).flatMap rc) ∧ ∀ b, v.ownBlock = some b → own b
 frows : RowsAt W o1 cap1 F
 bel : Below w.heap.size w W
 mineA : own (w.heap.size + 1)
 mineB : own w1.heap.size
 least : ∀ j, own j → j = w.heap.size + 1 ∨ j = w1.heap.size ∨ w3.heap.size ≤ j
set_option maxRecDepth 100000 in
theorem LJ.kw {w w1 w3 : World} {o1 : Option Addr} {cap1 : Nat} {F Rr : List Rw} {K mo : Nat} {own : Nat → Prop} {i : Nat} {W W' : World} (h : LJ w w1 w3 o1 cap1 F Rr K mo own i W) (hk : Kw w3.heap.size own W W') (h3 : w.heap.size ≤ w3.heap.size) (hlo : ∀ b off, o1 = some ⟨b, off, none⟩ → 0 < F.length → b < w3.heap.size) : LJ w w1 w3 o1 cap1 F Rr K mo own i W' := by
 obtain ⟨v, h1, h2, h4⟩ := h.rows
 exact ⟨(hk.block _ (Array.getElem?_eq_some_iff.1 h.most).1 (.inr h.mineA)).trans h.most, h.le, ⟨v, (hk.block _ (Array.getElem?_eq_some_iff.1 h1).1 (.inr h.mineB)).trans h1, own_same h2 fun b hb hlt => hk.block b hlt (.inr (h4 b hb)), h4⟩, rows_keep h.frows hk.size fun b off e hn hlt => hk.block b hlt (.inl (hlo b off e hn)), h.bel.trans ⟨hk.os, hk.tape, hk.output, hk.size, fun j hj => hk.block j (Nat.lt_of_lt_of_le hj h.bel.size) (.inl (by omega))⟩, h.mineA, h.mineB, h.least⟩
set_option maxRecDepth 100000 in
theorem np_all (R : List Rw) {K mo : Nat} (h : 0 < K) (hm : np R K ≤ mo) : R.take (mo * K) = R ∧ R.take (np R K * K) = R := by
 have h1 : R.length ≤ np R K * K := by
  rcases Nat.lt_or_ge (np R K * K) R.length with h2 | h2
  ·have := (np_iff R h (np R K - 1)).2 (by rw [Nat.sub_add_cancel (np_pos R K)]; exact h2)
   have := np_pos R K
   omega
  ·exact h2
 have h3 : np R K * K ≤ mo * K := Nat.mul_le_mul_right K hm
 exact ⟨List.take_of_length_le (by omega), List.take_of_length_le h1⟩
set_option maxRecDepth 100000 in
set_option maxHeartbeats 4000000 in
theorem all_ok (o : Option Addr) (cap : Nat) (l : List Rw) (k : Int) (a b c d x y sq K af : Nat) (fr : Bool) (M : Nat) (hM : ∀ r ∈ l, r.id < M) (mo : Nat) (hk : k ≠ 3) (hok : rightL l = true ∧ chk ⟨k, a, b, c, d, x, y, sq, (K : Int), af, fr⟩ = 0) (w : World) (hr : RowsAt w o cap l) (hmo : mo < 9223372036854775808) (Rr F : List Rw) (hF : fnd ⟨k, a, b, c, d, x, y, sq, (K : Int), af, fr⟩ M l = F) (hRr : rest ⟨k, a, b, c, d, x, y, sq, (K : Int), af, fr⟩ F = Rr) :
  Calls Try.prog 17 #[.slice o l.length cap, qv ⟨k, a, b, c, d, x, y, sq, (K : Int), af, fr⟩, .int .i64 (mo : Int)] w (KR (Rr.take (mo * K)) 0 w) := by
 obtain ⟨T, hT⟩ : ∃ T, Rr.take (mo * K) = T := ⟨_, rfl⟩
 rw [hT]
 have HTT : Hid (Rr.take (mo * K) = T) := hT
 clear hT
 have hn := two_new w (qcs ⟨k, a, b, c, d, x, y, sq, (K : Int), af, fr⟩) (.cells #[.int .i64 (mo : Int)] 3)
 obtain ⟨W0, hW0⟩ : ∃ W0, (w.alloc (qcs ⟨k, a, b, c, d, x, y, sq, (K : Int), af, fr⟩)).alloc (.cells #[.int .i64 (mo : Int)] 3) = W0 := ⟨_, rfl⟩
 rw [hW0] at hn
 obtain ⟨h1, h2, h3⟩ := hn
 have HW0 : Hid _ := hW0
 have HB0 : Hid (Below w.heap.size w W0) := h3
 have HG0 : Hid (W0.heap[w.heap.size]? = some (qcs ⟨k, a, b, c, d, x, y, sq, (K : Int), af, fr⟩)) := h1
 have HM0 : Hid (W0.heap[w.heap.size + 1]? = some (.cells #[.int .i64 (mo : Int)] 3 (0, 0))) := h2
 have HFD : Hid (∀ _ : True, _) := fun _ => found_any o cap l ⟨k, a, b, c, d, x, y, sq, (K : Int), af, fr⟩ M hM W0 (hr.below h3 (Nat.le_refl _))
 rw [fd_ok hok, show fdV ⟨k, a, b, c, d, x, y, sq, (K : Int), af, fr⟩ M l = F from (if_pos hok).trans hF] at HFD
 obtain ⟨-, k0, k64, k1⟩ := chk_ok hok.2
 have hFl := fnd_len ⟨k, a, b, c, d, x, y, sq, (K : Int), af, fr⟩ M l
 have hFr := fnd_rise (q := ⟨k, a, b, c, d, x, y, sq, (K : Int), af, fr⟩) (M := M) hk (right_rise hok.1)
 rw [hF] at hFl hFr
 have hmx : F.length ≤ 1000 := Nat.le_trans hFl ((rightL_iff l).1 hok.1).1
 simp only at k0 k64 k1
 have h0K : 0 < K := by have := k1 hk; omega
 have hK : K ≤ 64 := by omega
 have HF : Hid (Rise F) := hFr
 have HRr : Hid (rest ⟨k, a, b, c, d, x, y, sq, (K : Int), af, fr⟩ F = Rr) := hRr
 have HRl : Hid (Rr.length ≤ 1000) := by
  refine (?_ : Rr.length ≤ 1000)
  rw [← hRr]
  exact Nat.le_trans (rest_len _ _) hmx
 obtain ⟨c0, c1, c2, c3, c4, c5, c6, c7, c8, c9, c10⟩ := qc_of h1
 have d1 : W0.cell? ⟨w.heap.size + 1, 0, none⟩ = some (.int .i64 (mo : Int)) := by rw [cell_of_row _ _ _ _ _ _ h2]; rfl
 have l0 : w.heap.size < W0.heap.size := (Array.getElem?_eq_some_iff.1 h1).1
 have l1 : w.heap.size + 1 < W0.heap.size := (Array.getElem?_eq_some_iff.1 h2).1
 simp only at c0 c1 c2 c3 c4 c5 c6 c7 c8 c9 c10
 simp only [qv] at HFD ⊢
 have q1 : (k == 3) = false := by simpa using hk
 have q2 : ¬ (mo : Int) < 0 := by omega
 clear hW0 h1 h2 h3 hr hRr hF hFl hFr hok k0 k64 k1
 refine (callsIn_wide (n := 5)).1 ?_
 refine callsIn_of_wp_marks Try.func17 rfl trivial ?_ rfl
 simp only [Try.ntmps17, List.size_toArray, List.length_cons, List.length_nil, Nat.reduceAdd, Nat.reduceSub, Array.replicate_succ, Array.replicate_zero, List.push_toArray, List.append_toArray, List.nil_append, List.cons_append]
 gi_wp2_with (first | (rw [HW0.out]; clear HW0))
 refine (wpIn_wide (n := 5)).2 (wp_scope_straight ((wpIn_wide (n := 5)).1 ?_))
 gi_wp2_with (first | (rw [HW0.out]; clear HW0))
 refine ⟨trivial, callsIn_wide.2 (Calls.mono (HFD.out trivial) ?_)⟩
 rintro e w1 ⟨o1, cap1, rfl, hr1, b1⟩
 have HB1 : Hid (Below w.heap.size w w1) := HB0.out.trans (b1.mono HB0.out.size)
 have hg1 := (b1.block _ l0).trans HG0.out
 have hm1 := (b1.block _ l1).trans HM0.out
 have HR1 : Hid (RowsAt w1 o1 cap1 F) := hr1
 have lb1 : W0.heap.size ≤ w1.heap.size := b1.size
 have HNB : Hid (∀ b off, o1 = some ⟨b, off, none⟩ → 0 < F.length → b < w1.heap.size ∧ b ≠ w.heap.size + 1) := fun b off e hn => by
  subst e
  obtain ⟨b', off', e', hlt, -⟩ := hr1.2.2.2.2 hn
  cases e'
  exact ⟨hlt, rows_not_box hm1 hr1 hn⟩
 have hbo := below_new w1 (.cells #[.slice none 0 0] 32)
 have hgo := heap_alloc_new w1 (.cells #[.slice none 0 0] 32)
 have hso : (w1.alloc (.cells #[.slice none 0 0] 32)).heap.size = w1.heap.size + 1 := by simp
 obtain ⟨w2, hw2⟩ : ∃ w2, w1.alloc (.cells #[.slice none 0 0] 32) = w2 := ⟨_, rfl⟩
 rw [hw2] at hbo hgo hso
 have HW2 : Hid _ := hw2
 have hg2 := (hbo.block _ (by omega)).trans hg1
 have hm2 := (hbo.block _ (by omega)).trans hm1
 clear c0 c1 c2 c3 c4 c5 c6 c7 c8 c9 c10 d1
 obtain ⟨c0, c1, c2, c3, c4, c5, c6, c7, c8, c9, c10⟩ := qc_of hg2
 simp only at c0 c1 c2 c3 c4 c5 c6 c7 c8 c9 c10
 have HO2 : Hid (w2.heap[w1.heap.size]? = some (.cells #[.slice none 0 0] 32 (0, 0)) ∧ w2.heap[w.heap.size + 1]? = some (.cells #[.int .i64 (mo : Int)] 3 (0, 0)) ∧ Below w.heap.size w w2 ∧ RowsAt w2 o1 cap1 F) := ⟨hgo, hm2, HB1.out.trans (hbo.mono HB1.out.size), hr1.below hbo (Nat.le_refl _)⟩
 have lq2 : w.heap.size < w2.heap.size := by omega
 clear hw2 hbo hgo hg1 hm1 hg2 hm2 b1 hr1 HFD HB1 HR1 HG0 HM0 HB0
 gi_wp2_with (first | (rw [HW2.out]; clear HW2))
 refine wpIn_label ?_
 gi_wp2_with (first | (rw [HW2.out]; clear HW2))
 refine ⟨trivial, callsIn_wide.2 ((pieces_any o1 F.length cap1 ⟨k, a, b, c, d, x, y, sq, (K : Int), af, fr⟩ w2).mono ?_)⟩
 rintro e w3 ⟨rfl, hw3⟩
 obtain ⟨t1, t2, t3⟩ := two_new w2 (.cells #[.slice o1 F.length cap1] 32) (qcs ⟨k, a, b, c, d, x, y, sq, (K : Int), af, fr⟩)
 have hs3 : w3.heap.size = w1.heap.size + 3 := by rw [hw3]; simp [hso]
 rw [← hw3] at t1 t2 t3
 have HSO : Hid (w2.heap.size = w1.heap.size + 1) := hso
 have HT : Hid (w3.heap[w2.heap.size]? = some (.cells #[.slice o1 F.length cap1] 32 (0, 0)) ∧ w3.heap[w2.heap.size + 1]? = some (qcs ⟨k, a, b, c, d, x, y, sq, (K : Int), af, fr⟩)) := ⟨t1, t2⟩
 have HLO : Hid (∀ b off, o1 = some ⟨b, off, none⟩ → 0 < F.length → b < w3.heap.size) := fun b off e hn => by have := (HNB.out b off e hn).1; omega
 have HJ0 : Hid (LJ w w1 w3 o1 cap1 F Rr K mo (fun j => j = w.heap.size + 1 ∨ j = w1.heap.size) 0 w3) :=
  ⟨by rw [show (mo : Int) - ((0 : Nat) : Int) = (mo : Int) by omega]; exact (t3.block _ (by omega)).trans HO2.out.2.1, Nat.zero_le _, ⟨_, (t3.block _ (by omega)).trans HO2.out.1, by rw [Nat.zero_mul]; exact World.ownsRow_nil _ _ _ _, fun b hb => by simp [Value.ownBlock] at hb⟩, HO2.out.2.2.2.below t3 (by omega), HO2.out.2.2.1.trans (t3.mono (by omega)), .inl rfl, .inr rfl, fun j hj => by omega⟩
 have HS3 : Hid (w3.heap.size = w1.heap.size + 3) := hs3
 have HL1 : Hid (w.heap.size + 1 < w1.heap.size) := by refine (?_ : w.heap.size + 1 < w1.heap.size); omega
 clear t1 t2 t3 hw3 hs3 HO2 c0 c1 c2 c3 c4 c5 c6 c7 c8 c9 c10 lq2 l0 l1 lb1 hso
 gi_wp2
 refine range_law9 (by omega) (gf := 60) (lb := #[.pointer (some ⟨w2.heap.size + 1, 0, none⟩), .pointer (some ⟨w2.heap.size, 0, none⟩)]) rfl pieces1_eg (α := Option Addr × List Rw) (np Rr K) (fun z => #[.slice z.1 z.2.length z.2.length]) (fun _ => rfl) (fun i z => z.2 = pce Rr K i ∧ ∀ W, RowsAt W o1 cap1 F → RowsAt W z.1 z.2.length z.2)
  (fun own i W => LJ w w1 w3 o1 cap1 F Rr K mo own i W) (fun own W => LJ w w1 w3 o1 cap1 F Rr K mo own mo W) (.exit 0) ?hJ ?hJx (fun j => j = w.heap.size + 1 ∨ j = w1.heap.size) ?hown0 ?h0
  (fun z a' _ => a' = { tmps := #[.slice o l.length cap, .agg #[.int .i64 k, .int .u32 (a : Int), .int .u32 (b : Int), .int .u32 (c : Int), .int .u32 (d : Int), .int .u32 (x : Int), .int .u32 (y : Int), .int .u64 (sq : Int), .int .i64 (K : Int), .int .u64 (af : Int), .bool fr], .int .i64 (mo : Int), undef, .pointer (some ⟨w.heap.size, 0, none⟩), .pointer (some ⟨w.heap.size + 1, 0, none⟩), .slice none 0 0, .int .i64 0, .slice o1 F.length cap1, .int .i64 0, .pointer (some ⟨w1.heap.size, 0, none⟩), .slice z.1 z.2.length z.2.length, .pointer (some ⟨w.heap.size, 0, none⟩), .int .i64 k, .bool false, .bool false, .int .i64 (mo : Int), .bool (decide ((mo : Int) < 0)), .bool (decide ((mo : Int) < 0)), .tuple #[.slice o1 F.length cap1, .int .i64 0], .slice o l.length cap, .agg #[.int .i64 k, .int .u32 (a : Int), .int .u32 (b : Int), .int .u32 (c : Int), .int .u32 (d : Int), .int .u32 (x : Int), .int .u32 (y : Int), .int .u64 (sq : Int), .int .i64 (K : Int), .int .u64 (af : Int), .bool fr], .tuple #[.slice o1 F.length cap1, .int .i64 0], .slice o1 F.length cap1, .int .i64 0, .int .i64 0, .bool false, undef, .slice o1 F.length cap1, .agg #[.int .i64 k, .int .u32 (a : Int), .int .u32 (b : Int), .int .u32 (c : Int), .int .u32 (d : Int), .int .u32 (x : Int), .int .u32 (y : Int), .int .u64 (sq : Int), .int .i64 (K : Int), .int .u64 (af : Int), .bool fr], .func (.func 60) #[] #[.pointer (some ⟨w2.heap.size + 1, 0, none⟩), .pointer (some ⟨w2.heap.size, 0, none⟩)], .slice z.1 z.2.length z.2.length, undef, undef, undef, undef, undef, undef, undef, undef], defers := [] }) ?hA ?assign ?body ?iter ?done ?stop
 case hJ =>
  intro own i A B h hk'
  exact h.kw hk' (by have := HS3.out; have := HL1.out; omega) HLO.out
 case hJx =>
  intro own A B h hk'
  exact h.kw hk' (by have := HS3.out; have := HL1.out; omega) HLO.out
 case hown0 => intro j hj; have := HS3.out; have := HL1.out; omega
 case h0 => exact HJ0.out
 case hA => intro z a' W l' o' h _ _; exact h
 case assign =>
  intro l' own i z W' K' hi hok hJk hsz hK'
  clear hok hJk
  gi_wp2
  exact hK' _ _ (Below.refl _ _) (by simp)
 case iter =>
  intro l' W5 hl' hB5 hs5 R' Rx' ow how hR' hRx' hY' h0'
  have hs := HS3.out
  have hl1 := HL1.out
  have hs2 := HSO.out
  refine pieces1_any (w2.heap.size + 1) w2.heap.size k a b c d x y sq K af fr o1 cap1 F hk HF.out hmx h0K hK W5 (HJ0.out.frows.below hB5 (by omega)) ((hB5.block _ (by omega)).trans HT.out.2) ((hB5.block _ (by omega)).trans HT.out.1) Rr HRr.out l' R' Rx' ow (fun j hj => ?_) hR' (fun own i o' W hi hro hRi hsz => hY' own i (o', pce Rr K i) W hi ⟨rfl, hro⟩ hRi hsz) h0'
  rcases (how j).1 hj with (rfl | rfl) | rfl
  ·exact ⟨by omega, by omega, fun b off e hn he => (HNB.out b off e hn).2 he.symm⟩
  ·exact ⟨by omega, by omega, fun b off e hn he => by have := (HNB.out b off e hn).1; omega⟩
  ·exact ⟨by omega, by omega, fun b off e hn he => by have := (HNB.out b off e hn).1; omega⟩
 case stop =>
  intro D own W' hDe hno hJ hdf
  have hT2 := HTT.out
  have HDf : Hid _ := hdf
  obtain ⟨v, h1, h2, h4⟩ := hJ.rows
  rw [hT2] at h2
  have HO : Hid (W'.ownsRow w3.heap.size 54 4 v T.length (T.flatMap rc)) := h2
  have HBl : Hid (Below w.heap.size w W') := hJ.bel
  have HDs : Hid (w.heap.size ≤ D ∧ ∀ b, v.ownBlock = some b → b ≠ D) := ⟨by have := HS3.out; have := HL1.out; omega, fun b hb e => hno (e ▸ h4 b hb)⟩
  have e0 : W'.cell? ⟨w1.heap.size, 0, none⟩ = some v := by rw [cell_of_row _ _ _ _ _ _ h1]; rfl
  have l0 : w1.heap.size < W'.heap.size := (Array.getElem?_eq_some_iff.1 h1).1
  obtain ⟨o9, cap9, rfl, -⟩ := sl_of_own h2
  clear hJ hdf hDe hno h1 h2 h4 hT2
  gi_wp2
  rw [Exit.noGoto_ret]
  refine leaves_marks (fun W => results_tmp2 rfl _ _ _) [D] W' (by simp) (fun E hE => by simp at hE; subst hE; exact HDf.out) fun W'' hb => ⟨o9, cap9, rfl, ?_, HBl.out.trans ⟨hb.os, hb.tape, hb.output, hb.size, fun j hj => hb.block j (Nat.lt_of_lt_of_le hj HBl.out.size) fun e => ?_⟩⟩
  ·obtain ⟨o', cap', e', h6⟩ := sl_of_own (own_same HO.out fun b hb' hlt => hb.block b hlt fun e => HDs.out.2 b hb' (by simpa using e))
   cases e'
   exact h6
  ·have e' : j = D := by simpa using e
   have := HDs.out.1
   omega
 case done =>
  intro D own W' hDe hno hJ hdf
  have hT2 : Rr.take (np Rr K * K) = T := (np_all Rr h0K hJ.le).2.trans ((np_all Rr h0K hJ.le).1.symm.trans HTT.out)
  have HDf : Hid _ := hdf
  obtain ⟨v, h1, h2, h4⟩ := hJ.rows
  rw [hT2] at h2
  have HO : Hid (W'.ownsRow w3.heap.size 54 4 v T.length (T.flatMap rc)) := h2
  have HBl : Hid (Below w.heap.size w W') := hJ.bel
  have HDs : Hid (w.heap.size ≤ D ∧ ∀ b, v.ownBlock = some b → b ≠ D) := ⟨by have := HS3.out; have := HL1.out; omega, fun b hb e => hno (e ▸ h4 b hb)⟩
  have e0 : W'.cell? ⟨w1.heap.size, 0, none⟩ = some v := by rw [cell_of_row _ _ _ _ _ _ h1]; rfl
  have l0 : w1.heap.size < W'.heap.size := (Array.getElem?_eq_some_iff.1 h1).1
  obtain ⟨o9, cap9, rfl, -⟩ := sl_of_own h2
  clear hJ hdf hDe hno h1 h2 h4 hT2
  gi_wp2
  rw [Exit.noGoto_ret]
  refine leaves_marks (fun W => results_tmp2 rfl _ _ _) [D] W' (by simp) (fun E hE => by simp at hE; subst hE; exact HDf.out) fun W'' hb => ⟨o9, cap9, rfl, ?_, HBl.out.trans ⟨hb.os, hb.tape, hb.output, hb.size, fun j hj => hb.block j (Nat.lt_of_lt_of_le hj HBl.out.size) fun e => ?_⟩⟩
  ·obtain ⟨o', cap', e', h6⟩ := sl_of_own (own_same HO.out fun b hb' hlt => hb.block b hlt fun e => HDs.out.2 b hb' (by simpa using e))
   cases e'
   exact h6
  ·have e' : j = D := by simpa using e
   have := HDs.out.1
   omega
 case body =>
  intro l' own i z a' W' hi hok hJ hA hsz hol
  subst hA
  obtain ⟨zo, zl⟩ := z
  obtain ⟨hz1, hz2⟩ := hok
  simp only at hz1 hz2
  have HJe : Hid (LJ w w1 w3 o1 cap1 F Rr K mo own i W') := hJ
  have e0 : W'.cell? ⟨w.heap.size + 1, 0, none⟩ = some (.int .i64 ((mo : Int) - (i : Int))) := by rw [cell_of_row _ _ _ _ _ _ hJ.most]; rfl
  have l0 : w.heap.size + 1 < W'.heap.size := (Array.getElem?_eq_some_iff.1 hJ.most).1
  by_cases him : i = mo
  ·subst him
   have q5 : ((i : Int) - (i : Int) == 0) = true := by simp
   clear hJ hz1 hz2 hsz hol hi
   gi_wp2
   exact ⟨rfl, own, fun j hj => .inl hj, But.refl _ _, HJe.out⟩
  ·have q5 : ((mo : Int) - (i : Int) == 0) = false := by simp; have := hJ.le; omega
   have hile := hJ.le
   have z0 : W'.frozen? ⟨w.heap.size + 1, 0, none⟩ = false := frozen_of_row W' _ 0 _ _ hJ.most
   obtain ⟨u, h1, h2, h4⟩ := hJ.rows
   have hml := HL1.out
   have hs3 := HS3.out
   have hA1 := box1_set (v' := .int .i64 ((mo : Int) - (i : Int) - 1)) hJ.most
   have hAo : ∀ j, j ≠ w.heap.size + 1 → (W'.setCell ⟨w.heap.size + 1, 0, none⟩ (.int .i64 ((mo : Int) - (i : Int) - 1))).heap[j]? = W'.heap[j]? := fun j hj => Below.heap_setCell _ _ _ _ (fun e => hj e)
   have hAs : (W'.setCell ⟨w.heap.size + 1, 0, none⟩ (.int .i64 ((mo : Int) - (i : Int) - 1))).heap.size = W'.heap.size := by simp [World.setCell]
   have hAb : But own W' (W'.setCell ⟨w.heap.size + 1, 0, none⟩ (.int .i64 ((mo : Int) - (i : Int) - 1))) := but_set _ _ _ _ _ hJ.mineA
   obtain ⟨A, hA⟩ : ∃ A, W'.setCell ⟨w.heap.size + 1, 0, none⟩ (.int .i64 ((mo : Int) - (i : Int) - 1)) = A := ⟨_, rfl⟩
   rw [hA] at hA1 hAo hAs hAb
   have HAe : Hid _ := hA
   have g1 := (hAo _ (by omega)).trans h1
   have o1' : A.ownsRow w3.heap.size 54 4 u (Rr.take (i * K)).length ((Rr.take (i * K)).flatMap rc) := own_same h2 fun b hb hlt => hAo b (fun e => by have := (own_base h2 hb).1; omega)
   have hfr : RowsAt A o1 cap1 F := rows_keep hJ.frows (by omega) fun b off e hn hlt => hAo b (fun e' => (HNB.out b off e hn).2 e')
   have hzr := hz2 A hfr
   have hzl : zl.length ≤ 64 := by rw [hz1]; unfold pce; rw [List.length_take]; omega
   have htl : (Rr.take (i * K)).length ≤ 1000 := by have := HRl.out; rw [List.length_take]; omega
   obtain ⟨v', W2, hrun, a1, a2, a3⟩ := append_sl 32 54 Try.underlying32 infoRow rfl (by decide) (by decide) A w3.heap.size (Rr.take (i * K)).length zl.length u zo zl.length ((Rr.take (i * K)).flatMap rc) (zl.flatMap rc) o1' (by have := hsz; omega) hzr (rc_one zl) (by omega)
   have HRU : Hid _ := hrun
   have nb : ∀ b, b < w3.heap.size → u.ownBlock ≠ some b := fun b hb e => by have := (own_base h2 e).1; omega
   have hB2 : W2.heap[w1.heap.size]? = some (.cells #[u] 32 (0, 0)) := (a2.block _ (by have := (Array.getElem?_eq_some_iff.1 g1).1; omega) (fun e => nb _ (by omega) e.symm)).trans g1
   have hM2 : W2.heap[w.heap.size + 1]? = some (.cells #[.int .i64 ((mo : Int) - (i : Int) - 1)] 3 (0, 0)) := (a2.block _ (by omega) (fun e => nb _ (by omega) e.symm)).trans hA1
   have z2 : W2.frozen? ⟨w1.heap.size, 0, none⟩ = false := frozen_of_row W2 _ 0 _ _ hB2
   have l2 : w1.heap.size < W2.heap.size := (Array.getElem?_eq_some_iff.1 hB2).1
   have d0 : W2.cell? ⟨w1.heap.size, 0, none⟩ = some u := by rw [cell_of_row _ _ _ _ _ _ hB2]; rfl
   have e5 : A.cell? ⟨w1.heap.size, 0, none⟩ = some u := by rw [cell_of_row _ _ _ _ _ _ g1]; rfl
   have l5 : w1.heap.size < A.heap.size := (Array.getElem?_eq_some_iff.1 g1).1
   have HFIN : Hid (∃ own', (∀ j, own' j → own j ∨ (W'.heap.size ≤ j ∧ j < (W2.setCell ⟨w1.heap.size, 0, none⟩ v').heap.size)) ∧ But own W' (W2.setCell ⟨w1.heap.size, 0, none⟩ v') ∧ LJ w w1 w3 o1 cap1 F Rr K mo own' (i + 1) (W2.setCell ⟨w1.heap.size, 0, none⟩ v')) := by
    have hs2 := a2.size
    have hss : (W2.setCell ⟨w1.heap.size, 0, none⟩ v').heap.size = W2.heap.size := by simp [World.setCell]
    have hob : ∀ {b : Nat}, v'.ownBlock = some b → w3.heap.size ≤ b ∧ b < W2.heap.size := fun hb => own_base a1 hb
    have hst : ∀ j, j ≠ w1.heap.size → (W2.setCell ⟨w1.heap.size, 0, none⟩ v').heap[j]? = W2.heap[j]? := fun j hj => Below.heap_setCell _ _ _ _ (fun e => hj e)
    have hbk : ∀ j, j < W'.heap.size → j ≠ w1.heap.size → j ≠ w.heap.size + 1 → u.ownBlock ≠ some j → (W2.setCell ⟨w1.heap.size, 0, none⟩ v').heap[j]? = W'.heap[j]? := fun j hj h1' h3' h2' => (hst j h1').trans ((a2.block j (by omega) (fun e => h2' e.symm)).trans (hAo j h3'))
    refine ⟨fun j => own j ∨ v'.ownBlock = some j, fun j hj => ?_, ⟨a2.os.trans hAb.os, a2.tape.trans hAb.tape, a2.output.trans hAb.output, by omega, fun j hj hn => hbk j hj (fun e => hn (e ▸ HJe.out.mineB)) (fun e => hn (e ▸ HJe.out.mineA)) fun e => hn (h4 j e)⟩, ⟨?_, by omega, ⟨v', box1_set hB2, ?_, fun b hb => .inr hb⟩, ?_, ?_, .inl HJe.out.mineA, .inl HJe.out.mineB, fun j hj => ?_⟩⟩
    ·rcases hj with hj | hj
     ·exact .inl hj
     ·rcases a3 with a3 | a3
      ·exact .inl (h4 j (by rw [← a3]; exact hj))
      ·rw [a3] at hj
       have := hob a3
       cases hj
       exact .inr ⟨by omega, by omega⟩
    ·rw [hst _ (by omega), hM2]
     rw [show (mo : Int) - (i : Int) - 1 = (mo : Int) - ((i + 1 : Nat) : Int) by omega]
    ·rw [pce_next, List.flatMap_append, List.length_append, ← hz1]
     exact own_same a1 fun b hb _ => hst b (fun e => by have := (hob hb).1; omega)
    ·exact rows_keep HJe.out.frows (by omega) fun b off e hn hlt => hbk b hlt (by have := (HNB.out b off e hn).1; omega) (HNB.out b off e hn).2 (nb b (by have := (HNB.out b off e hn).1; omega))
    ·exact HJe.out.bel.trans ⟨a2.os.trans hAb.os, a2.tape.trans hAb.tape, a2.output.trans hAb.output, by omega, fun j hj => hbk j (by have := HJe.out.bel.size; omega) (by omega) (by omega) (nb j (by omega))⟩
    ·rcases hj with hj | hj
     ·exact HJe.out.least j hj
     ·exact .inr (.inr (hob hj).1)
   obtain ⟨o', cap', rfl, -⟩ := sl_of_own h2
   obtain ⟨o'', cap'', rfl, -⟩ := sl_of_own a1
   have w0 : -9223372036854775808 ≤ (mo : Int) - (i : Int) - 1 ∧ (mo : Int) - (i : Int) - 1 ≤ 9223372036854775807 := by omega
   have w0' := IntWalk.wrap64_in ((mo : Int) - (i : Int) - 1) w0
   obtain ⟨tn, htn⟩ : ∃ tn, (Rr.take (i * K)).length = tn := ⟨_, rfl⟩
   rw [htn] at HRU HFIN
   clear hJ hz1 hz2 hsz hol hi h1 h2 h4 nb hB2 a1 a2 a3 hA hA1 hAo hAs hAb g1 o1' hfr hzr hzl htl hM2 hrun him hile hml hs3
   rw [htn] at e5 d0
   clear htn
   gi_wp2_with (first | (rw [HAe.out]; clear HAe) | (gi_at_builtin; refine listIn_append rfl 32 32 (.tmp 36) (.tmp 37) rfl (vs := .slice o' tn cap') (vx := .slice zo zl.length zl.length) rfl rfl HRU.out ?_))
   exact HFIN.out
end Go.Proofs.Ytimdlohdmddnjaa.Rf
/- The reference: All. -/
namespace Go.Proofs.Ytimdlohdmddnjaa.Rf
open Go.RowKit Go.Lib
open Go.Proofs.Ytimdlohdmddnjaa.Rc Go.Proofs.Ytimdlohdmddnjaa.Rq
set_option maxRecDepth 100000 in
set_option maxHeartbeats 2000000 in
theorem gall_arg (sv : Value) (q : Qr) (mo : Int) (h : q.k = 3 ∨ mo < 0) (w : World) :
  Calls Try.prog 18 #[sv, qv q, .int .i64 mo] w fun e w' => e = .returned (.tuple #[.slice none 0 0, .int .i64 2]) ∧ Below w.heap.size w w' := by
 have hb := below_new w (qcs q)
 have hg := heap_alloc_new w (qcs q)
 obtain ⟨W0, hW0⟩ : ∃ W0, w.alloc (qcs q) = W0 := ⟨_, rfl⟩
 rw [hW0] at hb hg
 have HW0 : Hid _ := hW0
 have HB0 : Hid (Below w.heap.size w W0) := hb
 obtain ⟨k, a, b, c, d, x, y, sq, kk, af, fr⟩ := q
 have c0 := (qc_of hg).1
 simp only at c0 h
 simp only [qv]
 clear hW0 hb hg
 by_cases hk : k = 3
 ·subst hk
  clear h
  go_enter Try.func18, Try.ntmps18
  go_wp2_with (first | (rw [HW0.out]; clear HW0))
  go_ret2
  exact ⟨rfl, HB0.out⟩
 ·have q1 : (k == 3) = false := by simpa using hk
  have q2 : mo < 0 := h.resolve_left hk
  clear h hk
  go_enter Try.func18, Try.ntmps18
  go_wp2_with (first | (rw [HW0.out]; clear HW0))
  go_ret2
  exact ⟨rfl, HB0.out⟩
set_option maxRecDepth 100000 in
set_option maxHeartbeats 2000000 in
theorem gall_bad (o : Option Addr) (cap : Nat) (l : List Rw) (q : Qr) (M : Nat) (hM : ∀ r ∈ l, r.id < M) (mo : Int) (h : ¬ (q.k = 3 ∨ mo < 0)) (hbad : ¬ (rightL l = true ∧ chk q = 0)) (w : World) (hr : RowsAt w o cap l) :
  Calls Try.prog 18 #[.slice o l.length cap, qv q, .int .i64 mo] w fun e w' => e = .returned (.tuple #[.slice none 0 0, .int .i64 (fdE q l)]) ∧ Below w.heap.size w w' := by
 have hb := below_new w (qcs q)
 have hg := heap_alloc_new w (qcs q)
 obtain ⟨W0, hW0⟩ : ∃ W0, w.alloc (qcs q) = W0 := ⟨_, rfl⟩
 rw [hW0] at hb hg
 have HW0 : Hid _ := hW0
 have HB0 : Hid (Below w.heap.size w W0) := hb
 have HFD : Hid (∀ _ : True, _) := fun _ => gask_any o cap l q M hM W0 (hr.below hb (Nat.le_refl _))
 have hE := fd_no hbad
 generalize fdE q l = E at *
 generalize askL q M l = AL at *
 generalize askB q M l = AB at *
 have q0 : (E == 0) = false := by simpa using hE
 obtain ⟨k, a, b, c, d, x, y, sq, kk, af, fr⟩ := q
 obtain ⟨c0, c1, c2, c3, c4, c5, c6, c7, c8, c9, c10⟩ := qc_of hg
 simp only at c0 c1 c2 c3 c4 c5 c6 c7 c8 c9 c10 h
 simp only [qv] at HFD ⊢
 have q1 : (k == 3) = false := by simp; omega
 have q2 : ¬ mo < 0 := by omega
 clear hW0 hb hg h hbad hE hr
 go_enter Try.func18, Try.ntmps18
 go_wp2_with (first | (rw [HW0.out]; clear HW0))
 refine Calls.mono (HFD.out trivial) ?_
 rintro e w1 ⟨o1, cap1, rfl, hr1, b1, hf1⟩
 have HB1 : Hid (Below w.heap.size w w1) := HB0.out.trans (b1.mono HB0.out.size)
 clear b1 hr1 hf1
 go_wp2_with fail
 go_ret2
 exact ⟨rfl, HB1.out⟩
/-- What lies there within the loop. -/
structure GL (w W1 : World) (at' : Qr) (T : List Rw) (v : Value) (W : World) : Prop where
 box : W.heap[w.heap.size]? = some (qcs at')
 own : W.ownsRow W1.heap.size 54 4 v T.length (T.flatMap rc)
 bel : Below w.heap.size w W
 le : W1.heap.size ≤ W.heap.size
set_option maxRecDepth 100000 in
set_option maxHeartbeats 4000000 in
theorem gall_ok (o : Option Addr) (cap : Nat) (l : List Rw) (k : Int) (a b c d x y sq K af : Nat) (fr : Bool) (M : Nat) (hM : ∀ r ∈ l, r.id < M) (mo : Nat) (hk : k ≠ 3) (hok : rightL l = true ∧ chk ⟨k, a, b, c, d, x, y, sq, (K : Int), af, fr⟩ = 0) (w : World) (hr : RowsAt w o cap l) (hmo : mo < 9223372036854775808) (Rr F : List Rw) (hF : fnd ⟨k, a, b, c, d, x, y, sq, (K : Int), af, fr⟩ M l = F) (hRr : rest ⟨k, a, b, c, d, x, y, sq, (K : Int), af, fr⟩ F = Rr) :
  Calls Try.prog 18 #[.slice o l.length cap, qv ⟨k, a, b, c, d, x, y, sq, (K : Int), af, fr⟩, .int .i64 (mo : Int)] w (KR (Rr.take (mo * K)) 0 w) := by
 obtain ⟨T, hT⟩ : ∃ T, Rr.take (mo * K) = T := ⟨_, rfl⟩
 rw [hT]
 have HTT : Hid (Rr.take (mo * K) = T) := hT
 clear hT
 have hb := below_new w (qcs ⟨k, a, b, c, d, x, y, sq, (K : Int), af, fr⟩)
 have hg := heap_alloc_new w (qcs ⟨k, a, b, c, d, x, y, sq, (K : Int), af, fr⟩)
 obtain ⟨W0, hW0⟩ : ∃ W0, w.alloc (qcs ⟨k, a, b, c, d, x, y, sq, (K : Int), af, fr⟩) = W0 := ⟨_, rfl⟩
 rw [hW0] at hb hg
 have HW0 : Hid _ := hW0
 have HB0 : Hid (Below w.heap.size w W0) := hb
 have HG0 : Hid (W0.heap[w.heap.size]? = some (qcs ⟨k, a, b, c, d, x, y, sq, (K : Int), af, fr⟩)) := hg
 have HR : Hid (RowsAt w o cap l) := hr
 have HOK : Hid (rightL l = true ∧ chk ⟨k, a, b, c, d, x, y, sq, (K : Int), af, fr⟩ = 0) := hok
 have HA : Hid (∀ (W : World) (af2 : Nat) (fr2 : Bool), RowsAt W o cap l → Calls Try.prog 15 #[.slice o l.length cap, qv ⟨k, a, b, c, d, x, y, sq, (K : Int), af2, fr2⟩] W (AF ((rest ⟨k, a, b, c, d, x, y, sq, (K : Int), af2, fr2⟩ F).take K) (decide (K < (rest ⟨k, a, b, c, d, x, y, sq, (K : Int), af2, fr2⟩ F).length)) 0 W)) := fun W af2 fr2 hW => by
  have hok2 : rightL l = true ∧ chk ⟨k, a, b, c, d, x, y, sq, (K : Int), af2, fr2⟩ = 0 := ⟨hok.1, hok.2⟩
  have h := gask_any o cap l ⟨k, a, b, c, d, x, y, sq, (K : Int), af2, fr2⟩ M hM W hW
  rw [fd_ok hok2, show askL ⟨k, a, b, c, d, x, y, sq, (K : Int), af2, fr2⟩ M l = (rest ⟨k, a, b, c, d, x, y, sq, (K : Int), af2, fr2⟩ (fnd ⟨k, a, b, c, d, x, y, sq, (K : Int), af2, fr2⟩ M l)).take (K : Int).toNat from if_pos hok2, show askB ⟨k, a, b, c, d, x, y, sq, (K : Int), af2, fr2⟩ M l = decide ((K : Int).toNat < (rest ⟨k, a, b, c, d, x, y, sq, (K : Int), af2, fr2⟩ (fnd ⟨k, a, b, c, d, x, y, sq, (K : Int), af2, fr2⟩ M l)).length) from if_pos hok2, Int.toNat_natCast, show fnd ⟨k, a, b, c, d, x, y, sq, (K : Int), af2, fr2⟩ M l = F from hF] at h
  exact h
 obtain ⟨-, k0, k64, k1⟩ := chk_ok hok.2
 have hFl := fnd_len ⟨k, a, b, c, d, x, y, sq, (K : Int), af, fr⟩ M l
 have hFr := fnd_rise (q := ⟨k, a, b, c, d, x, y, sq, (K : Int), af, fr⟩) (M := M) hk (right_rise hok.1)
 rw [hF] at hFl hFr
 have hmx : F.length ≤ 1000 := Nat.le_trans hFl ((rightL_iff l).1 hok.1).1
 simp only at k0 k64 k1
 have h0K : 0 < K := by have := k1 hk; omega
 have hK : K ≤ 64 := by omega
 have HF : Hid (Rise F) := hFr
 have HRl : Hid (Rr.length ≤ 1000) := by
  refine (?_ : Rr.length ≤ 1000)
  rw [← hRr]
  exact Nat.le_trans (rest_len _ _) hmx
 have HRr : Hid (rest ⟨k, a, b, c, d, x, y, sq, (K : Int), af, fr⟩ F = Rr) := hRr
 obtain ⟨c0, c1, c2, c3, c4, c5, c6, c7, c8, c9, c10⟩ := qc_of hg
 have l0 : w.heap.size < W0.heap.size := (Array.getElem?_eq_some_iff.1 hg).1
 simp only at c0 c1 c2 c3 c4 c5 c6 c7 c8 c9 c10
 simp only [qv] at HA ⊢
 have q1 : (k == 3) = false := by simpa using hk
 have q2 : ¬ (mo : Int) < 0 := by omega
 have HC0 : Hid (∀ _ : True, _) := fun _ => HA.out W0 af fr (hr.below hb (Nat.le_refl _))
 generalize (rest ⟨k, a, b, c, d, x, y, sq, (K : Int), af, fr⟩ F).take K = AL at HC0
 generalize decide (K < (rest ⟨k, a, b, c, d, x, y, sq, (K : Int), af, fr⟩ F).length) = AB at HC0
 clear hW0 hb hg hr hRr hF hFl hFr hok k0 k64 k1 hmx
 go_enter Try.func18, Try.ntmps18
 go_wp2_with (first | (rw [HW0.out]; clear HW0))
 refine Calls.mono (HC0.out trivial) ?_
 rintro e W1 ⟨o1, cap1, rfl, hr1, b1, -⟩
 have HGL0 : Hid (GL w W1 ⟨k, a, b, c, d, x, y, sq, (K : Int), af, fr⟩ [] (.slice none 0 0) W1) := ⟨(b1.block _ l0).trans HG0.out, World.ownsRow_nil _ _ _ _, HB0.out.trans (b1.mono HB0.out.size), Nat.le_refl _⟩
 have LW1 : Hid (w.heap.size < W1.heap.size) := Nat.lt_of_lt_of_le l0 b1.size
 clear hr1 b1 HC0 HG0 HB0 l0 c0 c1 c2 c3 c4 c5 c6 c7 c8 c9 c10 q1 q2
 go_wp2_with fail
 go_loopw [11, 12] (fun pv iv wr => ∃ (i af2 : Nat) (fr2 : Bool), i ≤ mo ∧ i < np Rr K ∧ iv = .int .i64 (i : Int) ∧ rest ⟨k, a, b, c, d, x, y, sq, (K : Int), af2, fr2⟩ F = Rr.drop (i * K) ∧ GL w W1 ⟨k, a, b, c, d, x, y, sq, (K : Int), af2, fr2⟩ (Rr.take (i * K)) pv wr) (fun _ iv _ => mo - natOf iv)
 case atStart =>
  refine ⟨0, af, fr, Nat.zero_le _, np_pos Rr K, rfl, ?_, ?_⟩
  ·rw [Nat.zero_mul, List.drop_zero]; exact HRr.out
  ·rw [Nat.zero_mul, List.take_zero]; exact HGL0.out
 case round =>
  obtain ⟨i, af2, fr2, hi, hnp, rfl, hrs, hG⟩ := hrel
  obtain ⟨po, pc, rfl, -⟩ := sl_of_own hG.own
  have HG : Hid (GL w W1 ⟨k, a, b, c, d, x, y, sq, (K : Int), af2, fr2⟩ (Rr.take (i * K)) _ wr) := hG
  obtain ⟨pn, hpn⟩ : ∃ pn, (Rr.take (i * K)).length = pn := ⟨_, rfl⟩
  rw [hpn] at HG ⊢
  clear HGL0
  by_cases hlt : i < mo
  ·have q5 : (i : Int) < (mo : Int) := by omega
   have hgv := HA.out wr af2 fr2 (HR.out.below hG.bel (Nat.le_refl _))
   rw [hrs] at hgv
   have hmo2 : decide (K < (Rr.drop (i * K)).length) = decide (i + 1 < np Rr K) := by
    rw [List.length_drop]
    congr 1
    refine propext ?_
    rw [np_iff Rr h0K]
    have : (i + 1) * K = i * K + K := by rw [Nat.add_mul, Nat.one_mul]
    omega
   rw [hmo2, show (Rr.drop (i * K)).take K = pce Rr K i from rfl] at hgv
   have HGV : Hid (∀ _ : True, _) := fun _ => hgv
   have HPL : Hid ((pce Rr K i).length ≤ K ∧ (i + 1 < np Rr K → (pce Rr K i).length = K)) := ⟨by unfold pce; rw [List.length_take]; omega, fun h => by
    have h2 := (np_iff Rr h0K i).1 h
    have : (i + 1) * K = i * K + K := by rw [Nat.add_mul, Nat.one_mul]
    unfold pce
    rw [List.length_take, List.length_drop]
    omega⟩
   have HNX : Hid (i + 1 < np Rr K → rest ⟨k, a, b, c, d, x, y, sq, (K : Int), (rat (pce Rr K i) (K - 1)).id, true⟩ F = Rr.drop ((i + 1) * K)) := fun h => by
    have h2 := (np_iff Rr h0K i).1 h
    have e3 : (i + 1) * K = i * K + K := by rw [Nat.add_mul, Nat.one_mul]
    have := rest_next (q := ⟨k, a, b, c, d, x, y, sq, (K : Int), af2, fr2⟩) HF.out hk h0K (by rw [hrs, List.length_drop]; omega)
    rw [hrs, drop_next] at this
    exact this
   have HTN : Hid (Rr.take ((i + 1) * K) = Rr.take (i * K) ++ pce Rr K i) := pce_next Rr K i
   have lg : w.heap.size < wr.heap.size := (Array.getElem?_eq_some_iff.1 hG.box).1
   obtain ⟨c0, c1, c2, c3, c4, c5, c6, c7, c8, c9, c10⟩ := qc_of hG.box
   simp only at c0 c1 c2 c3 c4 c5 c6 c7 c8 c9 c10
   obtain ⟨P, hP⟩ : ∃ P, pce Rr K i = P := ⟨_, rfl⟩
   rw [hP] at HGV HPL HNX HTN
   have htl : pn ≤ 1000 := by have := HRl.out; rw [← hpn, List.length_take]; omega
   have HPN : Hid ((Rr.take (i * K)).length = pn) := hpn
   clear hgv hmo2 hrs hP hG hpn
   go_wp2_with fail
   refine Calls.mono (HGV.out trivial) ?_
   rintro e w2 ⟨o2, cap2, rfl, hr2, b2, hf2⟩
   have HG2 : Hid (GL w W1 ⟨k, a, b, c, d, x, y, sq, (K : Int), af2, fr2⟩ (Rr.take (i * K)) (.slice po pn pc) w2) := ⟨(b2.block _ lg).trans HG.out.box, own_same HG.out.own fun b _ hlt => b2.block b hlt, HG.out.bel.trans (b2.mono HG.out.bel.size), Nat.le_trans HG.out.le b2.size⟩
   have hown2 := HG2.out.own
   rw [HPN.out] at hown2
   have HPm := HPL.out.1
   obtain ⟨v', W3, hrun, a1, a2, a3⟩ := append_sl 32 54 Try.underlying32 infoRow rfl (by decide) (by decide) w2 W1.heap.size pn P.length (.slice po pn pc) o2 cap2 ((Rr.take (i * K)).flatMap rc) (P.flatMap rc) hown2 HG2.out.le hr2 (rc_one P) (by omega)
   have hnb : ∀ j, j < W1.heap.size → Value.ownBlock (.slice po pn pc) ≠ some j := fun j hj e => by have := (own_base hown2 e).1; omega
   have hl2 : w.heap.size < w2.heap.size := Nat.lt_of_lt_of_le lg b2.size
   have hg3 : W3.heap[w.heap.size]? = some (qcs ⟨k, a, b, c, d, x, y, sq, (K : Int), af2, fr2⟩) := (a2.block _ hl2 (fun e => hnb _ LW1.out e.symm)).trans HG2.out.box
   have HG3 : Hid (GL w W1 ⟨k, a, b, c, d, x, y, sq, (K : Int), af2, fr2⟩ (Rr.take ((i + 1) * K)) v' W3) := by
    refine ⟨hg3, ?_, HG2.out.bel.grown a2 HG2.out.bel.size fun b eb => by have := (own_base hown2 eb).1; have := LW1.out; omega, Nat.le_trans HG2.out.le a2.size⟩
    rw [HTN.out, List.flatMap_append, List.length_append, HPN.out]
    exact a1
   have HR3 : Hid (RowsAt W3 o2 cap2 P) := rows_keep hr2 a2.size fun b off e hn hlt => a2.block b hlt fun e2 => by
    have h5 := hf2 b off e hn
    have h6 := (own_base HG.out.own (b := b) (by have := e2.symm; simpa using this)).2
    omega
   have HFB : Hid (∀ b off, o2 = some ⟨b, off, none⟩ → 0 < P.length → b ≠ w.heap.size) := fun b off e hn => by have := hf2 b off e hn; omega
   have htn : ∀ n m : Nat, pn + P.length = n → n = m → True := fun _ _ _ _ => trivial
   obtain ⟨tn, htn2⟩ : ∃ tn, pn + P.length = tn := ⟨_, rfl⟩
   rw [htn2] at a1
   obtain ⟨o3, cap3, rfl, -⟩ := sl_of_own a1
   have HNX3 : Hid (Rr.take ((i + 1) * K) = Rr.take ((i + 1) * K)) := rfl
   have hg3' := hg3
   clear c0 c1 c2 c3 c4 c5 c6 c7 c8 c9 c10 htn
   have lg3 : w.heap.size < W3.heap.size := (Array.getElem?_eq_some_iff.1 hg3).1
   obtain ⟨c0, c1, c2, c3, c4, c5, c6, c7, c8, c9, c10⟩ := qc_of hg3
   simp only at c0 c1 c2 c3 c4 c5 c6 c7 c8 c9 c10
   by_cases hmore : i + 1 < np Rr K
   ·rw [decide_eq_true hmore]
    have hPl := HPL.out.2 hmore
    obtain ⟨bb, off, rfl, hbl, hc⟩ := HR3.out.row (i := K - 1) (by omega)
    have ci := (hc (K - 1) (by omega)).1
    have hnx := HNX.out hmore
    obtain ⟨id, hid⟩ : ∃ id, (rat P (K - 1)).id = id := ⟨_, rfl⟩
    rw [hid] at ci hnx
    have hne : bb ≠ w.heap.size := HFB.out bb off rfl (by omega)
    have z9 : W3.frozen? ⟨w.heap.size, 9, none⟩ = false := frozen_of_row W3 _ 9 _ _ hg3
    have z10 : W3.frozen? ⟨w.heap.size, 10, none⟩ = false := frozen_of_row W3 _ 10 _ _ hg3
    have ci2 : (W3.setCell ⟨w.heap.size, 10, none⟩ (.bool true)).cell? ⟨bb, off + (K - 1) * 4, none⟩ = some (.int .u64 (id : Int)) := (World.cell?_of_block (a := ⟨bb, off + (K - 1) * 4, none⟩) (Below.heap_setCell W3 _ _ _ hne)).trans ci
    have hPK : (P.length : Int) = (K : Int) := by omega
    have hK1 : (0 : Int) ≤ (K : Int) - 1 := by omega
    have s1 := heap_setCell_same W3 w.heap.size 10 _ _ (.bool true) hg3
    have s2 := heap_setCell_same _ w.heap.size 9 _ _ (.int .u64 (id : Int)) s1
    have bset : ∀ (A : World) (k : Nat) (u : Value), Below w.heap.size A (A.setCell ⟨w.heap.size, k, none⟩ u) := fun A k u => ⟨rfl, rfl, rfl, by simp [World.setCell], fun j hj => Below.heap_setCell _ _ _ _ (fun e => by have e' : j = w.heap.size := e; omega)⟩
    have HG4 : Hid (GL w W1 ⟨k, a, b, c, d, x, y, sq, (K : Int), id, true⟩ (Rr.take ((i + 1) * K)) (.slice o3 tn cap3) ((W3.setCell ⟨w.heap.size, 10, none⟩ (.bool true)).setCell ⟨w.heap.size, 9, none⟩ (.int .u64 (id : Int)))) := by
     refine ⟨s2, own_same HG3.out.own fun b hb hlt => ?_, HG3.out.bel.trans ((bset _ _ _).trans (bset _ _ _)), by simp [World.setCell]; exact HG3.out.le⟩
     have : b ≠ w.heap.size := by have := (own_base HG3.out.own hb).1; have := LW1.out; omega
     exact (Below.heap_setCell _ _ _ _ (fun e => this e)).trans (Below.heap_setCell _ _ _ _ (fun e => this e))
    have HNX2 : Hid (rest ⟨k, a, b, c, d, x, y, sq, (K : Int), id, true⟩ F = Rr.drop ((i + 1) * K)) := hnx
    have i1 : (i : Int) + 1 ≤ 9223372036854775807 := by omega
    have HI : Hid (i + 1 ≤ mo ∧ i + 1 < np Rr K) := ⟨by omega, hmore⟩
    have hkb : (bb : Nat) ≠ w.heap.size := hne
    clear hc hid ci hnx s1 s2 bset hown2 hnb hr2 b2 hf2 a1 a2 a3 hg3 hg3' hbl HPm hl2 hmore hPl HNX HPL HTN HG2 HG HGV HR3 HFB hnp htn2
    go_wp2_with (at_builtin; refine list_append rfl 32 32 (.tmp 45) (.tmp 46) rfl (vs := .slice po pn pc) (vx := .slice (some ⟨bb, off, none⟩) P.length cap2) rfl rfl hrun ?_)
    go_roundw
    case rel => exact ⟨i + 1, id, true, HI.out.1, HI.out.2, by go_num, HNX2.out, HG4.out⟩
    case measure => simp [natOf]; omega
   ·rw [decide_eq_false hmore]
    have hnp2 : np Rr K = i + 1 := by omega
    have hall := np_all Rr h0K (mo := mo) (by omega)
    have hT3 : Rr.take ((i + 1) * K) = T := by rw [← hnp2, hall.2, ← hall.1]; exact HTT.out
    have h7 := HG3.out.own
    rw [hT3] at h7
    obtain ⟨o4, cap4, e4, s4⟩ := sl_of_own h7
    have h8 : T.length = tn := by cases e4; rfl
    rw [h8] at e4
    cases e4
    have HE : Hid (RowsAt W3 o3 cap3 T ∧ Below w.heap.size w W3) := ⟨s4, HG3.out.bel⟩
    have HTL : Hid (T.length = tn) := h8
    clear hown2 hnb hr2 b2 hf2 a1 a2 a3 hg3 hg3' HPm hl2 hmore HNX HPL HTN HG2 HG HGV HR3 HFB hnp htn2 h7 h8 s4 hT3 hall hnp2
    go_wp2_with (at_builtin; refine list_append rfl 32 32 (.tmp 45) (.tmp 46) rfl (vs := .slice po pn pc) (vx := .slice o2 P.length cap2) rfl rfl hrun ?_)
    go_ret2
    refine ⟨o3, cap3, ?_, HE.out.1, HE.out.2⟩
    rw [HTL.out]
    rfl
  ·obtain rfl : i = mo := by omega
   have q5 : ¬ (i : Int) < (i : Int) := by omega
   have h7 := HG.out.own
   rw [HTT.out] at h7 hpn
   rw [hpn] at h7
   rw [← hpn] at h7
   obtain ⟨o4, cap4, e4, s4⟩ := sl_of_own h7
   rw [hpn] at e4
   cases e4
   have HE : Hid (RowsAt wr po pc T ∧ Below w.heap.size w wr) := ⟨s4, HG.out.bel⟩
   have HTL : Hid (T.length = pn) := hpn
   clear hrs hG h7 s4 hpn
   go_wp2_with fail
   go_ret2
   refine ⟨po, pc, ?_, HE.out.1, HE.out.2⟩
   rw [HTL.out]
   rfl
end Go.Proofs.Ytimdlohdmddnjaa.Rf
