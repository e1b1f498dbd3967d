/- Ask. -/
import Derived.Test.YtimdlohdmddnjaaPOJ
import Derived.Test.YtimdlohdmddnjaaPOL
import Derived.Test.YtimdlohdmddnjaaQJJ
namespace Go.Proofs.Ytimdlohdmddnjaa.Rf
open Go.RowKit Go.Lib
open Go.Proofs.Ytimdlohdmddnjaa.Rc Go.Proofs.Ytimdlohdmddnjaa.Rq
def askL (q : Qr) (M : Nat) (l : List Rw) : List Rw := if rightL l = true ∧ chk q = 0 then (rest q (fnd q M l)).take q.K.toNat else []
def askB (q : Qr) (M : Nat) (l : List Rw) : Bool := if rightL l = true ∧ chk q = 0 then decide (q.K.toNat < (rest q (fnd q M l)).length) else false
def AR (m : List Rw) (B : Bool) (E : Int) (w : World) (e : Ending) (w' : World) : Prop := ∃ o cap, e = .returned (.tuple #[.slice o m.length cap, .bool B, .int .i64 E]) ∧ RowsAt w' o cap m ∧ Below w.heap.size w w'
theorem fd_ok {q : Qr} {l : List Rw} (h : rightL l = true ∧ chk q = 0) : fdE q l = 0 := by unfold fdE; rw [if_pos h.1, h.2]
set_option maxRecDepth 100000 in
theorem fd_no {q : Qr} {l : List Rw} (h : ¬ (rightL l = true ∧ chk q = 0)) : fdE q l ≠ 0 := by
 unfold fdE
 by_cases h1 : rightL l = true
 ·rw [if_pos h1]
  exact fun e => h ⟨h1, e⟩
 ·rw [if_neg h1]
  decide
set_option maxRecDepth 100000 in
set_option maxHeartbeats 2000000 in
theorem ask_any (o : Option Addr) (cap : Nat) (l : List Rw) (q : Qr) (M : Nat) (hM : ∀ r ∈ l, r.id < M) (w : World) (hr : RowsAt w o cap l) :
  Calls Try.prog 13 #[.slice o l.length cap, qv q] w (AR (askL q M l) (askB q M l) (fdE q l) w) := by
 have hb := below_new w (qcs q)
 have hg := heap_alloc_new w (qcs q)
 obtain ⟨W0, hW0⟩ : ∃ W0, w.alloc (qcs q) = W0 := ⟨_, rfl⟩
 rw [hW0] at hb hg
 have HW0 : Hid _ := hW0
 have HG0 : Hid (W0.heap[w.heap.size]? = some (qcs q)) := hg
 have HB0 : Hid (Below w.heap.size w W0) := hb
 have lq : w.heap.size < W0.heap.size := (Array.getElem?_eq_some_iff.1 hg).1
 have HFD : Hid (∀ _ : True, _) := fun _ => found_any o cap l q M hM W0 (hr.below hb (Nat.le_refl _))
 obtain ⟨c0, c1, c2, c3, c4, c5, c6, c7, c8, c9, c10⟩ := qc_of hg
 by_cases hok : rightL l = true ∧ chk q = 0
 ·have hE := fd_ok hok
  have e1 : fdV q M l = fnd q M l := if_pos hok
  have e2 : askL q M l = (rest q (fnd q M l)).take q.K.toNat := if_pos hok
  have e3 : askB q M l = decide (q.K.toNat < (rest q (fnd q M l)).length) := if_pos hok
  rw [hE, e1] at HFD
  rw [hE, e2, e3]
  obtain ⟨-, k0, k64, -⟩ := chk_ok hok.2
  have hlen := fnd_len q M l
  have hmx := ((rightL_iff l).1 hok.1).1
  have hri : q.k ≠ 3 → Rise (fnd q M l) := fun hk => fnd_rise hk (right_rise hok.1)
  obtain ⟨F, hF⟩ : ∃ F, fnd q M l = F := ⟨_, rfl⟩
  rw [hF] at HFD hlen hri ⊢
  obtain ⟨k, a, b, c, d, x, y, sq, kk, af, fr⟩ := q
  obtain ⟨K, rfl⟩ : ∃ K : Nat, kk = (K : Int) := ⟨kk.toNat, by simp only at k0; omega⟩
  simp only [Int.toNat_natCast]
  simp only at c0 c1 c2 c3 c4 c5 c6 c7 c8 c9 c10
  have HGV : Hid (∀ (W : World) (o : Option Addr) (cap : Nat), RowsAt W o cap F → _) := fun W o cap hW => give_any k a b c d x y sq K af fr o cap F W hW (by omega) hri (by simp only at k64; omega)
  obtain ⟨m, hm⟩ : ∃ m, (rest ⟨k, a, b, c, d, x, y, sq, (K : Int), af, fr⟩ F).take K = m := ⟨_, rfl⟩
  obtain ⟨B, hB⟩ : ∃ B, decide (K < (rest ⟨k, a, b, c, d, x, y, sq, (K : Int), af, fr⟩ F).length) = B := ⟨_, rfl⟩
  rw [hm, hB] at HGV
  rw [hm, hB]
  simp only [qv] at HFD ⊢
  clear hb hg hW0 hr hE e1 e2 e3 hok hF hri k0 k64 hlen hmx hm hB
  go_enter Try.func13, Try.ntmps13
  go_wp2_with (first | (rw [HW0.out]; clear HW0))
  refine Calls.mono (HFD.out trivial) ?_
  rintro e w1 ⟨o1, cap1, rfl, hr1, b1⟩
  have HB1 : Hid (Below w.heap.size w w1) := HB0.out.trans (b1.mono HB0.out.size)
  have HR1 : Hid (RowsAt w1 o1 cap1 F) := hr1
  have hg1 := (b1.block _ lq).trans HG0.out
  clear c0 c1 c2 c3 c4 c5 c6 c7 c8 c9 c10
  have lq1 : w.heap.size < w1.heap.size := (Array.getElem?_eq_some_iff.1 hg1).1
  obtain ⟨c0, c1, c2, c3, c4, c5, c6, c7, c8, c9, c10⟩ := qc_of hg1
  simp only at c0 c1 c2 c3 c4 c5 c6 c7 c8 c9 c10
  clear b1 hr1 hg1 HFD lq
  go_wp2_with fail
  refine Calls.mono (HGV.out w1 o1 cap1 HR1.out) ?_
  rintro e w2 ⟨o2, rfl, hro, b2⟩
  have HE : Hid (RowsAt w2 o2 m.length m ∧ Below w.heap.size w w2) := ⟨(hro w1 HR1.out).below b2 (Nat.le_refl _), HB1.out.trans (b2.mono HB1.out.size)⟩
  clear hro b2 HGV
  go_wp2_with fail
  go_ret3
  exact ⟨o2, _, rfl, HE.out.1, HE.out.2⟩
 ·have hE := fd_no hok
  have e2 : askL q M l = [] := if_neg hok
  have e3 : askB q M l = false := if_neg hok
  rw [e2, e3]
  generalize fdE q l = E at *
  have q0 : (E == 0) = false := by simpa using hE
  obtain ⟨k, a, b, c, d, x, y, sq, kk, af, fr⟩ := q
  simp only at c0 c1 c2 c3 c4 c5 c6 c7 c8 c9 c10
  simp only [qv] at HFD ⊢
  clear hb hg hW0 hr hE e2 e3 hok
  go_enter Try.func13, Try.ntmps13
  go_wp2_with (first | (rw [HW0.out]; clear HW0))
  refine Calls.mono (HFD.out trivial) ?_
  rintro e w1 ⟨o1, cap1, rfl, hr1, b1⟩
  have HB1 : Hid (Below w.heap.size w w1) := HB0.out.trans (b1.mono HB0.out.size)
  clear b1 hr1
  go_wp2_with fail
  go_ret3
  exact ⟨none, 0, rfl, Sl.nil 4 w1, HB1.out⟩
open Go.RowKit Go.Lib Go.Shelf
attribute [local go_sem] Oper.semAt_some
def allE (q : Qr) (mo : Int) (l : List Rw) : Int := if q.k = 3 ∨ mo < 0 then 2 else fdE q l
def allL (q : Qr) (M : Nat) (mo : Int) (l : List Rw) : List Rw := if (q.k = 3 ∨ mo < 0) ∨ ¬ (rightL l = true ∧ chk q = 0) then [] else (rest q (fnd q M l)).take (mo.toNat * q.K.toNat)
set_option maxRecDepth 100000 in
theorem pieces1_eg : ∀ args w, (callFunc 60 args).run Try.prog w = .ok (.enter 60 args) w := enters_of Try.func60 (by kernel_rfl) rfl
set_option maxRecDepth 100000 in
set_option maxHeartbeats 2000000 in
theorem all_arg (sv : Value) (q : Qr) (mo : Int) (h : q.k = 3 ∨ mo < 0) (w : World) :
  Calls Try.prog 17 #[sv, qv q, .int .i64 mo] w fun e w' => e = .returned (.tuple #[.slice none 0 0, .int .i64 2]) ∧ Below w.heap.size w w' := by
 have hn := two_new w (qcs q) (.cells #[.int .i64 mo] 3)
 obtain ⟨W0, hW0⟩ : ∃ W0, (w.alloc (qcs q)).alloc (.cells #[.int .i64 mo] 3) = W0 := ⟨_, rfl⟩
 rw [hW0] at hn
 obtain ⟨h1, h2, h3⟩ := hn
 have HW0 : Hid _ := hW0
 have HB0 : Hid (Below w.heap.size w W0) := h3
 obtain ⟨k, a, b, c, d, x, y, sq, kk, af, fr⟩ := q
 have c0 := (qc_of h1).1
 have c1 : W0.cell? ⟨w.heap.size + 1, 0, none⟩ = some (.int .i64 mo) := by rw [cell_of_row _ _ _ _ _ _ h2]; rfl
 simp only at c0 h
 simp only [qv]
 clear hW0 h1 h2 h3
 by_cases hk : k = 3
 ·subst hk
  clear h
  go_enter Try.func17, Try.ntmps17
  go_wp2_with (first | (rw [HW0.out]; clear HW0))
  refine wp_scope_straight ?_
  go_wp2_with (first | (rw [HW0.out]; clear HW0))
  simp only [Exit.noGoto]
  go_ret2
  exact ⟨rfl, HB0.out⟩
 ·have q1 : (k == 3) = false := by simpa using hk
  have q2 : mo < 0 := h.resolve_left hk
  clear h hk
  go_enter Try.func17, Try.ntmps17
  go_wp2_with (first | (rw [HW0.out]; clear HW0))
  refine wp_scope_straight ?_
  go_wp2_with (first | (rw [HW0.out]; clear HW0))
  simp only [Exit.noGoto]
  go_ret2
  exact ⟨rfl, HB0.out⟩
set_option maxRecDepth 100000 in
set_option maxHeartbeats 2000000 in
theorem all_bad (o : Option Addr) (cap : Nat) (l : List Rw) (q : Qr) (M : Nat) (hM : ∀ r ∈ l, r.id < M) (mo : Int) (h : ¬ (q.k = 3 ∨ mo < 0)) (hbad : ¬ (rightL l = true ∧ chk q = 0)) (w : World) (hr : RowsAt w o cap l) :
  Calls Try.prog 17 #[.slice o l.length cap, qv q, .int .i64 mo] w fun e w' => e = .returned (.tuple #[.slice none 0 0, .int .i64 (fdE q l)]) ∧ Below w.heap.size w w' := by
 have hn := two_new w (qcs q) (.cells #[.int .i64 mo] 3)
 obtain ⟨W0, hW0⟩ : ∃ W0, (w.alloc (qcs q)).alloc (.cells #[.int .i64 mo] 3) = W0 := ⟨_, rfl⟩
 rw [hW0] at hn
 obtain ⟨h1, h2, h3⟩ := hn
 have HW0 : Hid _ := hW0
 have HB0 : Hid (Below w.heap.size w W0) := h3
 have HFD : Hid (∀ _ : True, _) := fun _ => found_any o cap l q M hM W0 (hr.below h3 (Nat.le_refl _))
 have hE := fd_no hbad
 generalize fdE q l = E at *
 have q0 : (E == 0) = false := by simpa using hE
 obtain ⟨k, a, b, c, d, x, y, sq, kk, af, fr⟩ := q
 obtain ⟨c0, c1, c2, c3, c4, c5, c6, c7, c8, c9, c10⟩ := qc_of h1
 have d1 : W0.cell? ⟨w.heap.size + 1, 0, none⟩ = some (.int .i64 mo) := by rw [cell_of_row _ _ _ _ _ _ h2]; rfl
 simp only at c0 c1 c2 c3 c4 c5 c6 c7 c8 c9 c10 h
 simp only [qv] at HFD ⊢
 have q1 : (k == 3) = false := by simp; omega
 have q2 : ¬ mo < 0 := by omega
 clear hW0 h1 h2 h3 h hbad hE hr
 go_enter Try.func17, Try.ntmps17
 go_wp2_with (first | (rw [HW0.out]; clear HW0))
 refine wp_scope_straight ?_
 go_wp2_with (first | (rw [HW0.out]; clear HW0))
 refine Calls.mono (HFD.out trivial) ?_
 rintro e w1 ⟨o1, cap1, rfl, hr1, b1⟩
 have HB1 : Hid (Below w.heap.size w w1) := HB0.out.trans (b1.mono HB0.out.size)
 clear b1 hr1
 go_wp2_with fail
 simp only [Exit.noGoto]
 go_ret2
 exact ⟨rfl, HB1.out⟩
set_option maxRecDepth 100000 in
theorem rows_not_box {w : World} {g b off cap : Nat} {v : Value} {t : TypeId} {l : List Rw} (hg : w.heap[g]? = some (.cells #[v] t (0, 0))) (hr : RowsAt w (some ⟨b, off, none⟩) cap l) (hl : 0 < l.length) : b ≠ g := by
 obtain ⟨b', off', e, -, hc⟩ := hr.row hl
 cases e
 intro e
 subst e
 have h1 := (hc 0 hl).2.1
 rw [cell_of_row _ _ _ _ _ _ hg] at h1
 rw [Array.getElem?_eq_none (by simp)] at h1
 cases h1
structure LJ (w w1 w3 : World) (o1 : Option Addr) (cap1 : Nat) (F Rr : List Rw) (K mo : Nat) (own : Nat → Prop) (i : Nat) (W : World) : Prop where
 most : W.heap[w.heap.size + 1]? = some (.cells #[.int .i64 ((mo : Int) - (i : Int))] 3 (0, 0))
 le : i ≤ mo
 rows : ∃ v, W.heap[w1.heap.size]? = some (.cells #[v] 32 (0, 0)) ∧ W.ownsRow w3.heap.size 54 4 v (Rr.take (i * K)).length ((Rr.take (i * K)).flatMap rc) ∧ ∀ b, v.ownBlock = some b → own b
 frows : RowsAt W o1 cap1 F
 bel : Below w.heap.size w W
 mineA : own (w.heap.size + 1)
 mineB : own w1.heap.size
 least : ∀ j, own j → j = w.heap.size + 1 ∨ j = w1.heap.size ∨ w3.heap.size ≤ j
set_option maxRecDepth 100000 in
theorem LJ.kw {w w1 w3 : World} {o1 : Option Addr} {cap1 : Nat} {F Rr : List Rw} {K mo : Nat} {own : Nat → Prop} {i : Nat} {W W' : World} (h : LJ w w1 w3 o1 cap1 F Rr K mo own i W) (hk : Kw w3.heap.size own W W') (h3 : w.heap.size ≤ w3.heap.size) (hlo : ∀ b off, o1 = some ⟨b, off, none⟩ → 0 < F.length → b < w3.heap.size) : LJ w w1 w3 o1 cap1 F Rr K mo own i W' := by
 obtain ⟨v, h1, h2, h4⟩ := h.rows
 exact ⟨(hk.block _ (Array.getElem?_eq_some_iff.1 h.most).1 (.inr h.mineA)).trans h.most, h.le, ⟨v, (hk.block _ (Array.getElem?_eq_some_iff.1 h1).1 (.inr h.mineB)).trans h1, own_same h2 fun b hb hlt => hk.block b hlt (.inr (h4 b hb)), h4⟩, rows_keep h.frows hk.size fun b off e hn hlt => hk.block b hlt (.inl (hlo b off e hn)), h.bel.trans ⟨hk.os, hk.tape, hk.output, hk.size, fun j hj => hk.block j (Nat.lt_of_lt_of_le hj h.bel.size) (.inl (by omega))⟩, h.mineA, h.mineB, h.least⟩
theorem np_all (R : List Rw) {K mo : Nat} (h : 0 < K) (hm : np R K ≤ mo) : R.take (mo * K) = R ∧ R.take (np R K * K) = R := by
 have h1 : R.length ≤ np R K * K := by
  rcases Nat.lt_or_ge (np R K * K) R.length with h2 | h2
  ·have := (np_iff R h (np R K - 1)).2 (by rw [Nat.sub_add_cancel (np_pos R K)]; exact h2)
   have := np_pos R K
   omega
  ·exact h2
 have h3 : np R K * K ≤ mo * K := Nat.mul_le_mul_right K hm
 exact ⟨List.take_of_length_le (by omega), List.take_of_length_le h1⟩
set_option maxRecDepth 100000 in
set_option maxHeartbeats 4000000 in
theorem all_ok (o : Option Addr) (cap : Nat) (l : List Rw) (k : Int) (a b c d x y sq K af : Nat) (fr : Bool) (M : Nat) (hM : ∀ r ∈ l, r.id < M) (mo : Nat) (hk : k ≠ 3) (hok : rightL l = true ∧ chk ⟨k, a, b, c, d, x, y, sq, (K : Int), af, fr⟩ = 0) (w : World) (hr : RowsAt w o cap l) (hmo : mo < 9223372036854775808) (Rr F : List Rw) (hF : fnd ⟨k, a, b, c, d, x, y, sq, (K : Int), af, fr⟩ M l = F) (hRr : rest ⟨k, a, b, c, d, x, y, sq, (K : Int), af, fr⟩ F = Rr) :
  Calls Try.prog 17 #[.slice o l.length cap, qv ⟨k, a, b, c, d, x, y, sq, (K : Int), af, fr⟩, .int .i64 (mo : Int)] w (KR (Rr.take (mo * K)) 0 w) := by
 obtain ⟨T, hT⟩ : ∃ T, Rr.take (mo * K) = T := ⟨_, rfl⟩
 rw [hT]
 have HTT : Hid (Rr.take (mo * K) = T) := hT
 clear hT
 have hn := two_new w (qcs ⟨k, a, b, c, d, x, y, sq, (K : Int), af, fr⟩) (.cells #[.int .i64 (mo : Int)] 3)
 obtain ⟨W0, hW0⟩ : ∃ W0, (w.alloc (qcs ⟨k, a, b, c, d, x, y, sq, (K : Int), af, fr⟩)).alloc (.cells #[.int .i64 (mo : Int)] 3) = W0 := ⟨_, rfl⟩
 rw [hW0] at hn
 obtain ⟨h1, h2, h3⟩ := hn
 have HW0 : Hid _ := hW0
 have HB0 : Hid (Below w.heap.size w W0) := h3
 have HG0 : Hid (W0.heap[w.heap.size]? = some (qcs ⟨k, a, b, c, d, x, y, sq, (K : Int), af, fr⟩)) := h1
 have HM0 : Hid (W0.heap[w.heap.size + 1]? = some (.cells #[.int .i64 (mo : Int)] 3 (0, 0))) := h2
 have HFD : Hid (∀ _ : True, _) := fun _ => found_any o cap l ⟨k, a, b, c, d, x, y, sq, (K : Int), af, fr⟩ M hM W0 (hr.below h3 (Nat.le_refl _))
 rw [fd_ok hok, show fdV ⟨k, a, b, c, d, x, y, sq, (K : Int), af, fr⟩ M l = F from (if_pos hok).trans hF] at HFD
 obtain ⟨-, k0, k64, k1⟩ := chk_ok hok.2
 have hFl := fnd_len ⟨k, a, b, c, d, x, y, sq, (K : Int), af, fr⟩ M l
 have hFr := fnd_rise (q := ⟨k, a, b, c, d, x, y, sq, (K : Int), af, fr⟩) (M := M) hk (right_rise hok.1)
 rw [hF] at hFl hFr
 have hmx : F.length ≤ 1000 := Nat.le_trans hFl ((rightL_iff l).1 hok.1).1
 simp only at k0 k64 k1
 have h0K : 0 < K := by have := k1 hk; omega
 have hK : K ≤ 64 := by omega
 have HF : Hid (Rise F) := hFr
 have HRr : Hid (rest ⟨k, a, b, c, d, x, y, sq, (K : Int), af, fr⟩ F = Rr) := hRr
 have HRl : Hid (Rr.length ≤ 1000) := by
  refine (?_ : Rr.length ≤ 1000)
  rw [← hRr]
  exact Nat.le_trans (rest_len _ _) hmx
 obtain ⟨c0, c1, c2, c3, c4, c5, c6, c7, c8, c9, c10⟩ := qc_of h1
 have d1 : W0.cell? ⟨w.heap.size + 1, 0, none⟩ = some (.int .i64 (mo : Int)) := by rw [cell_of_row _ _ _ _ _ _ h2]; rfl
 have l0 : w.heap.size < W0.heap.size := (Array.getElem?_eq_some_iff.1 h1).1
 have l1 : w.heap.size + 1 < W0.heap.size := (Array.getElem?_eq_some_iff.1 h2).1
 simp only at c0 c1 c2 c3 c4 c5 c6 c7 c8 c9 c10
 simp only [qv] at HFD ⊢
 have q1 : (k == 3) = false := by simpa using hk
 have q2 : ¬ (mo : Int) < 0 := by omega
 clear hW0 h1 h2 h3 hr hRr hF hFl hFr hok k0 k64 k1
 refine (callsIn_wide (n := 5)).1 ?_
 refine callsIn_of_wp_marks Try.func17 rfl trivial ?_ rfl
 simp only [Try.ntmps17, List.size_toArray, List.length_cons, List.length_nil, Nat.reduceAdd, Nat.reduceSub, Array.replicate_succ, Array.replicate_zero, List.push_toArray, List.append_toArray, List.nil_append, List.cons_append]
 gi_wp2_with (first | (rw [HW0.out]; clear HW0))
 refine (wpIn_wide (n := 5)).2 (wp_scope_straight ((wpIn_wide (n := 5)).1 ?_))
 gi_wp2_with (first | (rw [HW0.out]; clear HW0))
 refine ⟨trivial, callsIn_wide.2 (Calls.mono (HFD.out trivial) ?_)⟩
 rintro e w1 ⟨o1, cap1, rfl, hr1, b1⟩
 have HB1 : Hid (Below w.heap.size w w1) := HB0.out.trans (b1.mono HB0.out.size)
 have hg1 := (b1.block _ l0).trans HG0.out
 have hm1 := (b1.block _ l1).trans HM0.out
 have HR1 : Hid (RowsAt w1 o1 cap1 F) := hr1
 have lb1 : W0.heap.size ≤ w1.heap.size := b1.size
 have HNB : Hid (∀ b off, o1 = some ⟨b, off, none⟩ → 0 < F.length → b < w1.heap.size ∧ b ≠ w.heap.size + 1) := fun b off e hn => by
  subst e
  obtain ⟨b', off', e', hlt, -⟩ := hr1.2.2.2.2 hn
  cases e'
  exact ⟨hlt, rows_not_box hm1 hr1 hn⟩
 have hbo := below_new w1 (.cells #[.slice none 0 0] 32)
 have hgo := heap_alloc_new w1 (.cells #[.slice none 0 0] 32)
 have hso : (w1.alloc (.cells #[.slice none 0 0] 32)).heap.size = w1.heap.size + 1 := by simp
 obtain ⟨w2, hw2⟩ : ∃ w2, w1.alloc (.cells #[.slice none 0 0] 32) = w2 := ⟨_, rfl⟩
 rw [hw2] at hbo hgo hso
 have HW2 : Hid _ := hw2
 have hg2 := (hbo.block _ (by omega)).trans hg1
 have hm2 := (hbo.block _ (by omega)).trans hm1
 clear c0 c1 c2 c3 c4 c5 c6 c7 c8 c9 c10 d1
 obtain ⟨c0, c1, c2, c3, c4, c5, c6, c7, c8, c9, c10⟩ := qc_of hg2
 simp only at c0 c1 c2 c3 c4 c5 c6 c7 c8 c9 c10
 have HO2 : Hid (w2.heap[w1.heap.size]? = some (.cells #[.slice none 0 0] 32 (0, 0)) ∧ w2.heap[w.heap.size + 1]? = some (.cells #[.int .i64 (mo : Int)] 3 (0, 0)) ∧ Below w.heap.size w w2 ∧ RowsAt w2 o1 cap1 F) := ⟨hgo, hm2, HB1.out.trans (hbo.mono HB1.out.size), hr1.below hbo (Nat.le_refl _)⟩
 have lq2 : w.heap.size < w2.heap.size := by omega
 clear hw2 hbo hgo hg1 hm1 hg2 hm2 b1 hr1 HFD HB1 HR1 HG0 HM0 HB0
 gi_wp2_with (first | (rw [HW2.out]; clear HW2))
 refine wpIn_label ?_
 gi_wp2_with (first | (rw [HW2.out]; clear HW2))
 refine ⟨trivial, callsIn_wide.2 ((pieces_any o1 F.length cap1 ⟨k, a, b, c, d, x, y, sq, (K : Int), af, fr⟩ w2).mono ?_)⟩
 rintro e w3 ⟨rfl, hw3⟩
 obtain ⟨t1, t2, t3⟩ := two_new w2 (.cells #[.slice o1 F.length cap1] 32) (qcs ⟨k, a, b, c, d, x, y, sq, (K : Int), af, fr⟩)
 have hs3 : w3.heap.size = w1.heap.size + 3 := by rw [hw3]; simp [hso]
 rw [← hw3] at t1 t2 t3
 have HSO : Hid (w2.heap.size = w1.heap.size + 1) := hso
 have HT : Hid (w3.heap[w2.heap.size]? = some (.cells #[.slice o1 F.length cap1] 32 (0, 0)) ∧ w3.heap[w2.heap.size + 1]? = some (qcs ⟨k, a, b, c, d, x, y, sq, (K : Int), af, fr⟩)) := ⟨t1, t2⟩
 have HLO : Hid (∀ b off, o1 = some ⟨b, off, none⟩ → 0 < F.length → b < w3.heap.size) := fun b off e hn => by have := (HNB.out b off e hn).1; omega
 have HJ0 : Hid (LJ w w1 w3 o1 cap1 F Rr K mo (fun j => j = w.heap.size + 1 ∨ j = w1.heap.size) 0 w3) :=
  ⟨by rw [show (mo : Int) - ((0 : Nat) : Int) = (mo : Int) by omega]; exact (t3.block _ (by omega)).trans HO2.out.2.1, Nat.zero_le _, ⟨_, (t3.block _ (by omega)).trans HO2.out.1, by rw [Nat.zero_mul]; exact World.ownsRow_nil _ _ _ _, fun b hb => by simp [Value.ownBlock] at hb⟩, HO2.out.2.2.2.below t3 (by omega), HO2.out.2.2.1.trans (t3.mono (by omega)), .inl rfl, .inr rfl, fun j hj => by omega⟩
 have HS3 : Hid (w3.heap.size = w1.heap.size + 3) := hs3
 have HL1 : Hid (w.heap.size + 1 < w1.heap.size) := by refine (?_ : w.heap.size + 1 < w1.heap.size); omega
 clear t1 t2 t3 hw3 hs3 HO2 c0 c1 c2 c3 c4 c5 c6 c7 c8 c9 c10 lq2 l0 l1 lb1 hso
 gi_wp2
 refine range_law9 (by omega) (gf := 60) (lb := #[.pointer (some ⟨w2.heap.size + 1, 0, none⟩), .pointer (some ⟨w2.heap.size, 0, none⟩)]) rfl pieces1_eg (α := Option Addr × List Rw) (np Rr K) (fun z => #[.slice z.1 z.2.length z.2.length]) (fun _ => rfl) (fun i z => z.2 = pce Rr K i ∧ ∀ W, RowsAt W o1 cap1 F → RowsAt W z.1 z.2.length z.2)
  (fun own i W => LJ w w1 w3 o1 cap1 F Rr K mo own i W) (fun own W => LJ w w1 w3 o1 cap1 F Rr K mo own mo W) (.exit 0) ?hJ ?hJx (fun j => j = w.heap.size + 1 ∨ j = w1.heap.size) ?hown0 ?h0
  (fun z a' _ => a' = { tmps := #[.slice o l.length cap, .agg #[.int .i64 k, .int .u32 (a : Int), .int .u32 (b : Int), .int .u32 (c : Int), .int .u32 (d : Int), .int .u32 (x : Int), .int .u32 (y : Int), .int .u64 (sq : Int), .int .i64 (K : Int), .int .u64 (af : Int), .bool fr], .int .i64 (mo : Int), undef, .pointer (some ⟨w.heap.size, 0, none⟩), .pointer (some ⟨w.heap.size + 1, 0, none⟩), .slice none 0 0, .int .i64 0, .slice o1 F.length cap1, .int .i64 0, .pointer (some ⟨w1.heap.size, 0, none⟩), .slice z.1 z.2.length z.2.length, .pointer (some ⟨w.heap.size, 0, none⟩), .int .i64 k, .bool false, .bool false, .int .i64 (mo : Int), .bool (decide ((mo : Int) < 0)), .bool (decide ((mo : Int) < 0)), .tuple #[.slice o1 F.length cap1, .int .i64 0], .slice o l.length cap, .agg #[.int .i64 k, .int .u32 (a : Int), .int .u32 (b : Int), .int .u32 (c : Int), .int .u32 (d : Int), .int .u32 (x : Int), .int .u32 (y : Int), .int .u64 (sq : Int), .int .i64 (K : Int), .int .u64 (af : Int), .bool fr], .tuple #[.slice o1 F.length cap1, .int .i64 0], .slice o1 F.length cap1, .int .i64 0, .int .i64 0, .bool false, undef, .slice o1 F.length cap1, .agg #[.int .i64 k, .int .u32 (a : Int), .int .u32 (b : Int), .int .u32 (c : Int), .int .u32 (d : Int), .int .u32 (x : Int), .int .u32 (y : Int), .int .u64 (sq : Int), .int .i64 (K : Int), .int .u64 (af : Int), .bool fr], .func (.func 60) #[] #[.pointer (some ⟨w2.heap.size + 1, 0, none⟩), .pointer (some ⟨w2.heap.size, 0, none⟩)], .slice z.1 z.2.length z.2.length, undef, undef, undef, undef, undef, undef, undef, undef], defers := [] }) ?hA ?assign ?body ?iter ?done ?stop
 case hJ =>
  intro own i A B h hk'
  exact h.kw hk' (by have := HS3.out; have := HL1.out; omega) HLO.out
 case hJx =>
  intro own A B h hk'
  exact h.kw hk' (by have := HS3.out; have := HL1.out; omega) HLO.out
 case hown0 => intro j hj; have := HS3.out; have := HL1.out; omega
 case h0 => exact HJ0.out
 case hA => intro z a' W l' o' h _ _; exact h
 case assign =>
  intro l' own i z W' K' hi hok hJk hsz hK'
  clear hok hJk
  gi_wp2
  exact hK' _ _ (Below.refl _ _) (by simp)
 case iter =>
  intro l' W5 hl' hB5 hs5 R' Rx' ow how hR' hRx' hY' h0'
  have hs := HS3.out
  have hl1 := HL1.out
  have hs2 := HSO.out
  refine pieces1_any (w2.heap.size + 1) w2.heap.size k a b c d x y sq K af fr o1 cap1 F hk HF.out hmx h0K hK W5 (HJ0.out.frows.below hB5 (by omega)) ((hB5.block _ (by omega)).trans HT.out.2) ((hB5.block _ (by omega)).trans HT.out.1) Rr HRr.out l' R' Rx' ow (fun j hj => ?_) hR' (fun own i o' W hi hro hRi hsz => hY' own i (o', pce Rr K i) W hi ⟨rfl, hro⟩ hRi hsz) h0'
  rcases (how j).1 hj with (rfl | rfl) | rfl
  ·exact ⟨by omega, by omega, fun b off e hn he => (HNB.out b off e hn).2 he.symm⟩
  ·exact ⟨by omega, by omega, fun b off e hn he => by have := (HNB.out b off e hn).1; omega⟩
  ·exact ⟨by omega, by omega, fun b off e hn he => by have := (HNB.out b off e hn).1; omega⟩
 case stop =>
  intro D own W' hDe hno hJ hdf
  have hT2 := HTT.out
  have HDf : Hid _ := hdf
  obtain ⟨v, h1, h2, h4⟩ := hJ.rows
  rw [hT2] at h2
  have HO : Hid (W'.ownsRow w3.heap.size 54 4 v T.length (T.flatMap rc)) := h2
  have HBl : Hid (Below w.heap.size w W') := hJ.bel
  have HDs : Hid (w.heap.size ≤ D ∧ ∀ b, v.ownBlock = some b → b ≠ D) := ⟨by have := HS3.out; have := HL1.out; omega, fun b hb e => hno (e ▸ h4 b hb)⟩
  have e0 : W'.cell? ⟨w1.heap.size, 0, none⟩ = some v := by rw [cell_of_row _ _ _ _ _ _ h1]; rfl
  have l0 : w1.heap.size < W'.heap.size := (Array.getElem?_eq_some_iff.1 h1).1
  obtain ⟨o9, cap9, rfl, -⟩ := sl_of_own h2
  clear hJ hdf hDe hno h1 h2 h4 hT2
  gi_wp2
  rw [Exit.noGoto_ret]
  refine leaves_marks (fun W => results_tmp2 rfl _ _ _) [D] W' (by simp) (fun E hE => by simp at hE; subst hE; exact HDf.out) fun W'' hb => ⟨o9, cap9, rfl, ?_, HBl.out.trans ⟨hb.os, hb.tape, hb.output, hb.size, fun j hj => hb.block j (Nat.lt_of_lt_of_le hj HBl.out.size) fun e => ?_⟩⟩
  ·obtain ⟨o', cap', e', h6⟩ := sl_of_own (own_same HO.out fun b hb' hlt => hb.block b hlt fun e => HDs.out.2 b hb' (by simpa using e))
   cases e'
   exact h6
  ·have e' : j = D := by simpa using e
   have := HDs.out.1
   omega
 case done =>
  intro D own W' hDe hno hJ hdf
  have hT2 : Rr.take (np Rr K * K) = T := (np_all Rr h0K hJ.le).2.trans ((np_all Rr h0K hJ.le).1.symm.trans HTT.out)
  have HDf : Hid _ := hdf
  obtain ⟨v, h1, h2, h4⟩ := hJ.rows
  rw [hT2] at h2
  have HO : Hid (W'.ownsRow w3.heap.size 54 4 v T.length (T.flatMap rc)) := h2
  have HBl : Hid (Below w.heap.size w W') := hJ.bel
  have HDs : Hid (w.heap.size ≤ D ∧ ∀ b, v.ownBlock = some b → b ≠ D) := ⟨by have := HS3.out; have := HL1.out; omega, fun b hb e => hno (e ▸ h4 b hb)⟩
  have e0 : W'.cell? ⟨w1.heap.size, 0, none⟩ = some v := by rw [cell_of_row _ _ _ _ _ _ h1]; rfl
  have l0 : w1.heap.size < W'.heap.size := (Array.getElem?_eq_some_iff.1 h1).1
  obtain ⟨o9, cap9, rfl, -⟩ := sl_of_own h2
  clear hJ hdf hDe hno h1 h2 h4 hT2
  gi_wp2
  rw [Exit.noGoto_ret]
  refine leaves_marks (fun W => results_tmp2 rfl _ _ _) [D] W' (by simp) (fun E hE => by simp at hE; subst hE; exact HDf.out) fun W'' hb => ⟨o9, cap9, rfl, ?_, HBl.out.trans ⟨hb.os, hb.tape, hb.output, hb.size, fun j hj => hb.block j (Nat.lt_of_lt_of_le hj HBl.out.size) fun e => ?_⟩⟩
  ·obtain ⟨o', cap', e', h6⟩ := sl_of_own (own_same HO.out fun b hb' hlt => hb.block b hlt fun e => HDs.out.2 b hb' (by simpa using e))
   cases e'
   exact h6
  ·have e' : j = D := by simpa using e
   have := HDs.out.1
   omega
 case body =>
  intro l' own i z a' W' hi hok hJ hA hsz hol
  subst hA
  obtain ⟨zo, zl⟩ := z
  obtain ⟨hz1, hz2⟩ := hok
  simp only at hz1 hz2
  have HJe : Hid (LJ w w1 w3 o1 cap1 F Rr K mo own i W') := hJ
  have e0 : W'.cell? ⟨w.heap.size + 1, 0, none⟩ = some (.int .i64 ((mo : Int) - (i : Int))) := by rw [cell_of_row _ _ _ _ _ _ hJ.most]; rfl
  have l0 : w.heap.size + 1 < W'.heap.size := (Array.getElem?_eq_some_iff.1 hJ.most).1
  by_cases him : i = mo
  ·subst him
   have q5 : ((i : Int) - (i : Int) == 0) = true := by simp
   clear hJ hz1 hz2 hsz hol hi
   gi_wp2
   exact ⟨rfl, own, fun j hj => .inl hj, But.refl _ _, HJe.out⟩
  ·have q5 : ((mo : Int) - (i : Int) == 0) = false := by simp; have := hJ.le; omega
   have hile := hJ.le
   have z0 : W'.frozen? ⟨w.heap.size + 1, 0, none⟩ = false := frozen_of_row W' _ 0 _ _ hJ.most
   obtain ⟨u, h1, h2, h4⟩ := hJ.rows
   have hml := HL1.out
   have hs3 := HS3.out
   have hA1 := box1_set (v' := .int .i64 ((mo : Int) - (i : Int) - 1)) hJ.most
   have hAo : ∀ j, j ≠ w.heap.size + 1 → (W'.setCell ⟨w.heap.size + 1, 0, none⟩ (.int .i64 ((mo : Int) - (i : Int) - 1))).heap[j]? = W'.heap[j]? := fun j hj => Below.heap_setCell _ _ _ _ (fun e => hj e)
   have hAs : (W'.setCell ⟨w.heap.size + 1, 0, none⟩ (.int .i64 ((mo : Int) - (i : Int) - 1))).heap.size = W'.heap.size := by simp [World.setCell]
   have hAb : But own W' (W'.setCell ⟨w.heap.size + 1, 0, none⟩ (.int .i64 ((mo : Int) - (i : Int) - 1))) := but_set _ _ _ _ _ hJ.mineA
   obtain ⟨A, hA⟩ : ∃ A, W'.setCell ⟨w.heap.size + 1, 0, none⟩ (.int .i64 ((mo : Int) - (i : Int) - 1)) = A := ⟨_, rfl⟩
   rw [hA] at hA1 hAo hAs hAb
   have HAe : Hid _ := hA
   have g1 := (hAo _ (by omega)).trans h1
   have o1' : A.ownsRow w3.heap.size 54 4 u (Rr.take (i * K)).length ((Rr.take (i * K)).flatMap rc) := own_same h2 fun b hb hlt => hAo b (fun e => by have := (own_base h2 hb).1; omega)
   have hfr : RowsAt A o1 cap1 F := rows_keep hJ.frows (by omega) fun b off e hn hlt => hAo b (fun e' => (HNB.out b off e hn).2 e')
   have hzr := hz2 A hfr
   have hzl : zl.length ≤ 64 := by rw [hz1]; unfold pce; rw [List.length_take]; omega
   have htl : (Rr.take (i * K)).length ≤ 1000 := by have := HRl.out; rw [List.length_take]; omega
   obtain ⟨v', W2, hrun, a1, a2, a3⟩ := append_sl 32 54 Try.underlying32 infoRow rfl (by decide) (by decide) A w3.heap.size (Rr.take (i * K)).length zl.length u zo zl.length ((Rr.take (i * K)).flatMap rc) (zl.flatMap rc) o1' (by have := hsz; omega) hzr (rc_one zl) (by omega)
   have HRU : Hid _ := hrun
   have nb : ∀ b, b < w3.heap.size → u.ownBlock ≠ some b := fun b hb e => by have := (own_base h2 e).1; omega
   have hB2 : W2.heap[w1.heap.size]? = some (.cells #[u] 32 (0, 0)) := (a2.block _ (by have := (Array.getElem?_eq_some_iff.1 g1).1; omega) (fun e => nb _ (by omega) e.symm)).trans g1
   have hM2 : W2.heap[w.heap.size + 1]? = some (.cells #[.int .i64 ((mo : Int) - (i : Int) - 1)] 3 (0, 0)) := (a2.block _ (by omega) (fun e => nb _ (by omega) e.symm)).trans hA1
   have z2 : W2.frozen? ⟨w1.heap.size, 0, none⟩ = false := frozen_of_row W2 _ 0 _ _ hB2
   have l2 : w1.heap.size < W2.heap.size := (Array.getElem?_eq_some_iff.1 hB2).1
   have d0 : W2.cell? ⟨w1.heap.size, 0, none⟩ = some u := by rw [cell_of_row _ _ _ _ _ _ hB2]; rfl
   have e5 : A.cell? ⟨w1.heap.size, 0, none⟩ = some u := by rw [cell_of_row _ _ _ _ _ _ g1]; rfl
   have l5 : w1.heap.size < A.heap.size := (Array.getElem?_eq_some_iff.1 g1).1
   have HFIN : Hid (∃ own', (∀ j, own' j → own j ∨ (W'.heap.size ≤ j ∧ j < (W2.setCell ⟨w1.heap.size, 0, none⟩ v').heap.size)) ∧ But own W' (W2.setCell ⟨w1.heap.size, 0, none⟩ v') ∧ LJ w w1 w3 o1 cap1 F Rr K mo own' (i + 1) (W2.setCell ⟨w1.heap.size, 0, none⟩ v')) := by
    have hs2 := a2.size
    have hss : (W2.setCell ⟨w1.heap.size, 0, none⟩ v').heap.size = W2.heap.size := by simp [World.setCell]
    have hob : ∀ {b : Nat}, v'.ownBlock = some b → w3.heap.size ≤ b ∧ b < W2.heap.size := fun hb => own_base a1 hb
    have hst : ∀ j, j ≠ w1.heap.size → (W2.setCell ⟨w1.heap.size, 0, none⟩ v').heap[j]? = W2.heap[j]? := fun j hj => Below.heap_setCell _ _ _ _ (fun e => hj e)
    have hbk : ∀ j, j < W'.heap.size → j ≠ w1.heap.size → j ≠ w.heap.size + 1 → u.ownBlock ≠ some j → (W2.setCell ⟨w1.heap.size, 0, none⟩ v').heap[j]? = W'.heap[j]? := fun j hj h1' h3' h2' => (hst j h1').trans ((a2.block j (by omega) (fun e => h2' e.symm)).trans (hAo j h3'))
    refine ⟨fun j => own j ∨ v'.ownBlock = some j, fun j hj => ?_, ⟨a2.os.trans hAb.os, a2.tape.trans hAb.tape, a2.output.trans hAb.output, by omega, fun j hj hn => hbk j hj (fun e => hn (e ▸ HJe.out.mineB)) (fun e => hn (e ▸ HJe.out.mineA)) fun e => hn (h4 j e)⟩, ⟨?_, by omega, ⟨v', box1_set hB2, ?_, fun b hb => .inr hb⟩, ?_, ?_, .inl HJe.out.mineA, .inl HJe.out.mineB, fun j hj => ?_⟩⟩
    ·rcases hj with hj | hj
     ·exact .inl hj
     ·rcases a3 with a3 | a3
      ·exact .inl (h4 j (by rw [← a3]; exact hj))
      ·rw [a3] at hj
       have := hob a3
       cases hj
       exact .inr ⟨by omega, by omega⟩
    ·rw [hst _ (by omega), hM2]
     rw [show (mo : Int) - (i : Int) - 1 = (mo : Int) - ((i + 1 : Nat) : Int) by omega]
    ·rw [pce_next, List.flatMap_append, List.length_append, ← hz1]
     exact own_same a1 fun b hb _ => hst b (fun e => by have := (hob hb).1; omega)
    ·exact rows_keep HJe.out.frows (by omega) fun b off e hn hlt => hbk b hlt (by have := (HNB.out b off e hn).1; omega) (HNB.out b off e hn).2 (nb b (by have := (HNB.out b off e hn).1; omega))
    ·exact HJe.out.bel.trans ⟨a2.os.trans hAb.os, a2.tape.trans hAb.tape, a2.output.trans hAb.output, by omega, fun j hj => hbk j (by have := HJe.out.bel.size; omega) (by omega) (by omega) (nb j (by omega))⟩
    ·rcases hj with hj | hj
     ·exact HJe.out.least j hj
     ·exact .inr (.inr (hob hj).1)
   obtain ⟨o', cap', rfl, -⟩ := sl_of_own h2
   obtain ⟨o'', cap'', rfl, -⟩ := sl_of_own a1
   have w0 : -9223372036854775808 ≤ (mo : Int) - (i : Int) - 1 ∧ (mo : Int) - (i : Int) - 1 ≤ 9223372036854775807 := by omega
   have w0' := IntWalk.wrap64_in ((mo : Int) - (i : Int) - 1) w0
   obtain ⟨tn, htn⟩ : ∃ tn, (Rr.take (i * K)).length = tn := ⟨_, rfl⟩
   rw [htn] at HRU HFIN
   clear hJ hz1 hz2 hsz hol hi h1 h2 h4 nb hB2 a1 a2 a3 hA hA1 hAo hAs hAb g1 o1' hfr hzr hzl htl hM2 hrun him hile hml hs3
   rw [htn] at e5 d0
   clear htn
   gi_wp2_with (first | (rw [HAe.out]; clear HAe) | (gi_at_builtin; refine listIn_append rfl 32 32 (.tmp 36) (.tmp 37) rfl (vs := .slice o' tn cap') (vx := .slice zo zl.length zl.length) rfl rfl HRU.out ?_))
   exact HFIN.out
end Go.Proofs.Ytimdlohdmddnjaa.Rf
