/- A scan that is given in two pieces. -/
import Derived.Test.YtimdlohdmddnjaaQOM
import Derived.Test.YtimdlohdmddnjaaPFW
import Derived.Test.YtimdlohdmddnjaaQGC
import Derived.Test.YtimdlohdmddnjaaQCK
import Derived.Test.YtimdlohdmddnjaaQGG
namespace Go.Proofs.Ytimdlohdmddnjaa.Rf
open Go.RowKit Go.Lib
open Go.Proofs.Ytimdlohdmddnjaa.Rc Go.Proofs.Ytimdlohdmddnjaa.Rq
def ex3 : List Rw := [⟨1, 0, 0, ⟨#[]⟩⟩, ⟨2, 0, 0, ⟨#[]⟩⟩, ⟨3, 0, 0, ⟨#[]⟩⟩]
set_option maxRecDepth 100000 in
theorem ex3_M : ∀ r ∈ ex3, r.id < 4 := by decide
set_option maxRecDepth 100000 in
theorem ex3_a : askL ⟨4, 0, 0, 0, 0, 0, 0, 0, 2, 0, false⟩ 4 ex3 = [⟨1, 0, 0, ⟨#[]⟩⟩, ⟨2, 0, 0, ⟨#[]⟩⟩] ∧ askB ⟨4, 0, 0, 0, 0, 0, 0, 0, 2, 0, false⟩ 4 ex3 = true ∧ fdE ⟨4, 0, 0, 0, 0, 0, 0, 0, 2, 0, false⟩ ex3 = 0 := by
 have h : rightL ex3 = true ∧ chk ⟨4, 0, 0, 0, 0, 0, 0, 0, 2, 0, false⟩ = 0 := ⟨by decide, by decide⟩
 exact ⟨(if_pos h).trans rfl, (if_pos h).trans rfl, fd_ok h⟩
set_option maxRecDepth 100000 in
theorem ex3_b : askL ⟨4, 0, 0, 0, 0, 0, 0, 0, 2, 2, true⟩ 4 ex3 = [⟨3, 0, 0, ⟨#[]⟩⟩] ∧ askB ⟨4, 0, 0, 0, 0, 0, 0, 0, 2, 2, true⟩ 4 ex3 = false ∧ fdE ⟨4, 0, 0, 0, 0, 0, 0, 0, 2, 2, true⟩ ex3 = 0 := by
 have h : rightL ex3 = true ∧ chk ⟨4, 0, 0, 0, 0, 0, 0, 0, 2, 2, true⟩ = 0 := ⟨by decide, by decide⟩
 exact ⟨(if_pos h).trans rfl, (if_pos h).trans rfl, fd_ok h⟩
set_option maxRecDepth 100000 in
set_option maxHeartbeats 2000000 in
theorem fshown_any (w : World) : Calls Try.prog 10 #[] w fun e w' => e = .returned (.bool true) ∧ Below w.heap.size w w' := by
 have hb := below_new w (.cells #[.int .u64 1, .int .u32 0, .int .u32 0, .string ⟨#[]⟩, .int .u64 2, .int .u32 0, .int .u32 0, .string ⟨#[]⟩, .int .u64 3, .int .u32 0, .int .u32 0, .string ⟨#[]⟩] 54)
 have hg := heap_alloc_new w (.cells #[.int .u64 1, .int .u32 0, .int .u32 0, .string ⟨#[]⟩, .int .u64 2, .int .u32 0, .int .u32 0, .string ⟨#[]⟩, .int .u64 3, .int .u32 0, .int .u32 0, .string ⟨#[]⟩] 54)
 obtain ⟨W0, hW0⟩ : ∃ W0, w.alloc (.cells #[.int .u64 1, .int .u32 0, .int .u32 0, .string ⟨#[]⟩, .int .u64 2, .int .u32 0, .int .u32 0, .string ⟨#[]⟩, .int .u64 3, .int .u32 0, .int .u32 0, .string ⟨#[]⟩] 54) = W0 := ⟨_, rfl⟩
 rw [hW0] at hb hg
 have HW0 : Hid _ := hW0
 have HB0 : Hid (Below w.heap.size w W0) := hb
 have hr0 : RowsAt W0 (some ⟨w.heap.size, 0, none⟩) 3 ex3 := by
  refine ⟨by decide, by decide, (fun e => by cases e), rfl, fun _ => ⟨w.heap.size, 0, rfl, (Array.getElem?_eq_some_iff.1 hg).1, fun j u hu => ?_⟩⟩
  rw [Nat.zero_add, cell_of_row _ _ _ _ _ _ hg, ← hu, ← Array.getElem?_toList]
  rfl
 have HR0 : Hid (RowsAt W0 (some ⟨w.heap.size, 0, none⟩) 3 ex3) := hr0
 have HA : Hid (∀ W, RowsAt W (some ⟨w.heap.size, 0, none⟩) 3 ex3 → Calls Try.prog 13 #[.slice (some ⟨w.heap.size, 0, none⟩) 3 3, .agg #[.int .i64 4, .int .u32 0, .int .u32 0, .int .u32 0, .int .u32 0, .int .u32 0, .int .u32 0, .int .u64 0, .int .i64 2, .int .u64 0, .bool false]] W (AR [⟨1, 0, 0, ⟨#[]⟩⟩, ⟨2, 0, 0, ⟨#[]⟩⟩] true 0 W)) := fun W hW => by
  have := ask_any (some ⟨w.heap.size, 0, none⟩) 3 ex3 ⟨4, 0, 0, 0, 0, 0, 0, 0, 2, 0, false⟩ 4 ex3_M W hW
  rw [ex3_a.1, ex3_a.2.1, ex3_a.2.2] at this
  exact this
 have HB : Hid (∀ W, RowsAt W (some ⟨w.heap.size, 0, none⟩) 3 ex3 → Calls Try.prog 13 #[.slice (some ⟨w.heap.size, 0, none⟩) 3 3, .agg #[.int .i64 4, .int .u32 0, .int .u32 0, .int .u32 0, .int .u32 0, .int .u32 0, .int .u32 0, .int .u64 0, .int .i64 2, .int .u64 2, .bool true]] W (AR [⟨3, 0, 0, ⟨#[]⟩⟩] false 0 W)) := fun W hW => by
  have := ask_any (some ⟨w.heap.size, 0, none⟩) 3 ex3 ⟨4, 0, 0, 0, 0, 0, 0, 0, 2, 2, true⟩ 4 ex3_M W hW
  rw [ex3_b.1, ex3_b.2.1, ex3_b.2.2] at this
  exact this
 have hrun1 := fun W => run_headW (some ⟨w.heap.size, 0, none⟩) 3 3 2 W (by decide) (fun e => by cases e)
 have hrun2 := fun W => run_tailR (some ⟨w.heap.size, 0, none⟩) 3 3 2 W (by decide)
 simp only [Option.map_some, show ((3 : Nat) = 2) = False by simp, if_false] at hrun2
 clear hb hg hW0 hr0
 go_enter Try.func10, Try.ntmps10
 go_wp2_with (first | (rw [HW0.out]; clear HW0))
 refine Calls.mono (HA.out W0 HR0.out) ?_
 rintro e w1 ⟨o1, cap1, rfl, hr1, b1⟩
 have HB1 : Hid (Below w.heap.size w w1) := HB0.out.trans (b1.mono HB0.out.size)
 have HR1 : Hid (RowsAt w1 (some ⟨w.heap.size, 0, none⟩) 3 ex3) := HR0.out.below b1 (Nat.le_refl _)
 have HX1 : Hid (RowsAt w1 o1 cap1 [⟨1, 0, 0, ⟨#[]⟩⟩, ⟨2, 0, 0, ⟨#[]⟩⟩]) := hr1
 clear b1 hr1 HA HR0 HB0
 go_wp2_with fail
 refine Calls.mono (HB.out w1 HR1.out) ?_
 rintro e w2 ⟨o2, cap2, rfl, hr2, b2⟩
 have HB2 : Hid (Below w.heap.size w w2) := HB1.out.trans (b2.mono HB1.out.size)
 have HR2 : Hid (RowsAt w2 (some ⟨w.heap.size, 0, none⟩) 3 ex3) := HR1.out.below b2 (Nat.le_refl _)
 have HX2 : Hid (RowsAt w2 o1 cap1 [⟨1, 0, 0, ⟨#[]⟩⟩, ⟨2, 0, 0, ⟨#[]⟩⟩]) := HX1.out.below b2 (Nat.le_refl _)
 have HY2 : Hid (RowsAt w2 o2 cap2 [⟨3, 0, 0, ⟨#[]⟩⟩]) := hr2
 have HS1 : Hid (∀ _ : True, _) := fun _ => same_any [⟨1, 0, 0, ⟨#[]⟩⟩, ⟨2, 0, 0, ⟨#[]⟩⟩] o1 cap1 (some ⟨w.heap.size, 0, none⟩) 3 w2 HX2.out (HR2.out.head 2)
 clear b2 hr2 HB HR1 HB1 HX1
 go_wp2_with fail
 refine Calls.mono (HS1.out trivial) ?_
 rintro e w3 ⟨rfl, b3⟩
 have HB3 : Hid (Below w.heap.size w w3) := HB2.out.trans (b3.mono HB2.out.size)
 have hr3 := rows_drop (k := 2) (HR2.out.below b3 (Nat.le_refl _)) (by decide)
 have HS2 : Hid (∀ _ : True, _) := fun _ => same_any [⟨3, 0, 0, ⟨#[]⟩⟩] o2 cap2 _ _ w3 (HY2.out.below b3 (Nat.le_refl _)) hr3
 clear b3 HS1 HR2 HB2 HX2 hr3
 go_wp2_with fail
 refine Calls.mono (HS2.out trivial) ?_
 rintro e w4 ⟨rfl, b4⟩
 have HB4 : Hid (Below w.heap.size w w4) := HB3.out.trans (b4.mono HB3.out.size)
 clear b4 HS2
 go_wp2_with fail
 go_ret
 exact ⟨rfl, HB4.out⟩
set_option maxRecDepth 100000 in
theorem all_any (o : Option Addr) (cap : Nat) (l : List Rw) (q : Qr) (M : Nat) (hM : ∀ r ∈ l, r.id < M) (mo : Int) (hmo : mo ≤ 9223372036854775807) (w : World) (hr : RowsAt w o cap l) :
  Calls Try.prog 17 #[.slice o l.length cap, qv q, .int .i64 mo] w (KR (allL q M mo l) (allE q mo l) w) := by
 unfold allL allE
 by_cases h : q.k = 3 ∨ mo < 0
 ·rw [if_pos h, if_pos (.inl h)]
  refine (all_arg _ q mo h w).mono ?_
  rintro e w' ⟨rfl, hb⟩
  exact ⟨none, 0, rfl, Sl.nil 4 w', hb⟩
 ·rw [if_neg h]
  by_cases hok : rightL l = true ∧ chk q = 0
  ·rw [if_neg (fun e => e.elim h (fun e => e hok)), fd_ok hok]
   obtain ⟨-, k0, -, -⟩ := chk_ok hok.2
   obtain ⟨k, a, b, c, d, x, y, sq, kk, af, fr⟩ := q
   simp only at k0 h
   obtain ⟨K, rfl⟩ : ∃ K : Nat, kk = (K : Int) := ⟨kk.toNat, by omega⟩
   obtain ⟨m, rfl⟩ : ∃ m : Nat, mo = (m : Int) := ⟨mo.toNat, by omega⟩
   simp only [Int.toNat_natCast]
   exact all_ok o cap l k a b c d x y sq K af fr M hM m (fun e => h (.inl e)) hok w hr (by omega) _ _ rfl rfl
  ·rw [if_pos (.inr hok)]
   refine (all_bad o cap l q M hM mo h hok w hr).mono ?_
   rintro e w' ⟨rfl, hb⟩
   exact ⟨none, 0, rfl, Sl.nil 4 w', hb⟩
theorem right_nil : rightL [] = true := by decide
theorem rest_nil (q : Qr) (M : Nat) : rest q (fnd q M []) = [] := by
 have h1 := rest_len q (fnd q M [])
 have h2 := fnd_len q M []
 exact List.eq_nil_of_length_eq_zero (by simp only [List.length_nil] at h2; omega)
theorem ask_nil (q : Qr) (M : Nat) : askL q M [] = [] ∧ askB q M [] = false ∧ fdE q [] = chk q := by
 unfold askL askB fdE
 rw [rest_nil]
 refine ⟨?_, ?_, if_pos right_nil⟩
 ·split <;> simp
 ·split <;> simp
theorem all_nil (q : Qr) (M : Nat) (mo : Int) : allL q M mo [] = [] ∧ (allE q mo [] = chk q ∨ (allE q mo [] = 2 ∧ allE q mo [] ≠ chk q)) := by
 unfold allL allE
 rw [rest_nil, (ask_nil q M).2.2]
 refine ⟨by split <;> simp, ?_⟩
 by_cases h : (if q.k = 3 ∨ mo < 0 then 2 else chk q) = chk q
 ·exact .inl h
 ·refine .inr ⟨?_, h⟩
  by_cases c : q.k = 3 ∨ mo < 0
  ·exact if_pos c
  ·exact absurd (if_neg c) h
def ofK (q : Qr) (n : Int) : Qr := ⟨q.k, q.a, q.b, q.c, q.d, q.x, q.y, q.sq, n, q.af, q.fr⟩
theorem chk_ofK {q : Qr} (h : chk q = 0) {n : Int} (h1 : q.K ≤ n ∨ 1 ≤ n) (h2 : n ≤ 64) : chk (ofK q n) = 0 := by
 have hk := (chk_ok h).1
 have h0 := (chk_ok h).2
 have e1 := chk_in (q := q) (by omega)
 have e2 := chk_in (q := ofK q n) (by show ¬ (q.k < 1 ∨ 4 < q.k); omega)
 rw [h] at e1
 have c1 : ¬ (q.K < (if q.k = 3 then 0 else 1) ∨ 64 < q.K) := fun c => by
  rw [if_pos c] at e1
  exact absurd e1 (by decide)
 rw [if_neg c1] at e1
 have c2 : ¬ (n < (if q.k = 3 then 0 else 1) ∨ 64 < n) := by
  split at c1
  ·rw [if_pos (by assumption)]; omega
  ·rw [if_neg (by assumption)]; omega
 rw [e2]
 show (if n < (if q.k = 3 then 0 else 1) ∨ 64 < n then 82 else fndE (ofK q n)) = 0
 rw [if_neg c2]
 exact e1.symm
theorem rest_ofK (q : Qr) (n : Int) (l : List Rw) : rest (ofK q n) l = rest q l := rfl
theorem fnd_ofK (q : Qr) (n : Int) (M : Nat) (l : List Rw) : fnd (ofK q n) M l = fnd q M l := rfl
theorem less_plain {q : Qr} {M : Nat} {l : List Rw} {n : Int} (h : fdE q l = 0) (h1 : q.K ≤ n) (h2 : n ≤ 64) : fdE (ofK q n) l = 0 ∧ (askL q M l).length ≤ (askL (ofK q n) M l).length ∧ (askL (ofK q n) M l).take (askL q M l).length = askL q M l ∧ (askB q M l = true ∨ (askB q M l = false ∧ (askL q M l).length = (askL (ofK q n) M l).length)) := by
 have hok : rightL l = true ∧ chk q = 0 := by
  by_cases c : rightL l = true ∧ chk q = 0
  ·exact c
  ·exact absurd h (fd_no c)
 have hok2 : rightL l = true ∧ chk (ofK q n) = 0 := ⟨hok.1, chk_ofK hok.2 (.inl h1) h2⟩
 have h0 := (chk_ok hok.2).2.1
 refine ⟨fd_ok hok2, ?_⟩
 rw [show askL q M l = _ from if_pos hok, show askL (ofK q n) M l = _ from if_pos hok2, show askB q M l = _ from if_pos hok, rest_ofK, fnd_ofK]
 obtain ⟨R, hR⟩ : ∃ R, rest q (fnd q M l) = R := ⟨_, rfl⟩
 rw [hR]
 show (R.take q.K.toNat).length ≤ (R.take n.toNat).length ∧ (R.take n.toNat).take (R.take q.K.toNat).length = R.take q.K.toNat ∧ _
 obtain ⟨a, ha⟩ : ∃ a : Nat, q.K = (a : Int) := ⟨q.K.toNat, by omega⟩
 obtain ⟨b, hb⟩ : ∃ b : Nat, n = (b : Int) := ⟨n.toNat, by omega⟩
 have hab : a ≤ b := by omega
 have ea : q.K.toNat = a := by rw [ha]; rfl
 have eb : n.toNat = b := by rw [hb]; rfl
 have eb2 : (ofK q n).K.toNat = b := eb
 rw [ea, eb, eb2]
 refine ⟨by rw [List.length_take, List.length_take]; omega, ?_, ?_⟩
 ·rw [List.take_take, List.length_take]
  by_cases c : a ≤ R.length
  ·congr 1; omega
  ·rw [List.take_of_length_le (by omega), List.take_of_length_le (by omega)]
 ·by_cases c : a < R.length
  ·exact .inl (decide_eq_true c)
  ·exact .inr ⟨decide_eq_false c, by rw [List.length_take, List.length_take]; omega⟩
theorem pieces_plain {q : Qr} {M : Nat} {l : List Rw} {n : Int} (hl : l.length ≤ 60) (h : allE q 100 l = 0) (h1 : 1 ≤ n) (h2 : n ≤ 64) : allE (ofK q n) 100 l = 0 ∧ allL (ofK q n) M 100 l = allL q M 100 l := by
 unfold allE at h
 have hk : ¬ (q.k = 3 ∨ (100 : Int) < 0) := fun c => by rw [if_pos c] at h; exact absurd h (by decide)
 rw [if_neg hk] at h
 have hok : rightL l = true ∧ chk q = 0 := by
  by_cases c : rightL l = true ∧ chk q = 0
  ·exact c
  ·exact absurd h (fd_no c)
 have hok2 : rightL l = true ∧ chk (ofK q n) = 0 := ⟨hok.1, chk_ofK hok.2 (.inr h1) h2⟩
 refine ⟨(if_neg hk).trans (fd_ok hok2), ?_⟩
 have h3 := (chk_ok hok.2).2.2.2 (fun c => hk (.inl c))
 have hlen : (rest q (fnd q M l)).length ≤ 60 := Nat.le_trans (Nat.le_trans (rest_len _ _) (fnd_len _ _ _)) hl
 rw [show allL q M 100 l = _ from if_neg (fun e => e.elim hk (fun e => e hok)), show allL (ofK q n) M 100 l = _ from if_neg (fun e => e.elim hk (fun e => e hok2)), rest_ofK, fnd_ofK]
 have e100 : (100 : Int).toNat = 100 := rfl
 rw [e100]
 have a1 : 1 ≤ q.K.toNat := by omega
 have a2 : 1 ≤ (ofK q n).K.toNat := by show 1 ≤ n.toNat; omega
 rw [List.take_of_length_le (by omega), List.take_of_length_le (by omega)]
theorem rows_not_query {w : World} {g b off cap : Nat} {q : Qr} {l : List Rw} (hg : w.heap[g]? = some (qcs q)) (hr : RowsAt w (some ⟨b, off, none⟩) cap l) (hl : 0 < l.length) : b ≠ g := by
 obtain ⟨b', off', e, -, hc⟩ := hr.row hl
 cases e
 intro e
 subst e
 have h1 := (hc 0 hl).2.2.2
 rw [cell_of_row _ _ _ _ _ _ hg] at h1
 have key : ∀ (n : Nat) (s : ByteArray), (#[.int .i64 q.k, .int .u32 (q.a : Int), .int .u32 (q.b : Int), .int .u32 (q.c : Int), .int .u32 (q.d : Int), .int .u32 (q.x : Int), .int .u32 (q.y : Int), .int .u64 (q.sq : Int), .int .i64 q.K, .int .u64 (q.af : Int), .bool q.fr] : Array Value)[n]? ≠ some (Value.string s) := by
  intro n s h
  rw [← Array.getElem?_toList] at h
  have hm := List.mem_of_getElem? h
  simp at hm
 exact key _ _ h1
set_option maxRecDepth 100000 in
set_option maxHeartbeats 4000000 in
theorem findNone_walk (q : Qr) (mo : Int) (w : World) : Calls Try.prog 9 #[qv q, .int .i64 mo] w fun e w' => e = .returned (.bool true) ∧ Below w.heap.size w w' := by
 have hb := below_new w (qcs q)
 have hg := heap_alloc_new w (qcs q)
 obtain ⟨W0, hW0⟩ : ∃ W0, w.alloc (qcs q) = W0 := ⟨_, rfl⟩
 rw [hW0] at hb hg
 have HW0 : Hid _ := hW0
 have HG0 : Hid (W0.heap[w.heap.size]? = some (qcs q)) := hg
 have HB0 : Hid (Below w.heap.size w W0) := hb
 have l0 : w.heap.size < W0.heap.size := (Array.getElem?_eq_some_iff.1 hg).1
 obtain ⟨m, hm⟩ : ∃ m : Int, (if (100 : Int) < mo then (100 : Int) else mo) = m := ⟨_, rfl⟩
 have hm2 : m ≤ 9223372036854775807 := by rw [← hm]; split <;> omega
 have HA : Hid (∀ W, Calls Try.prog 13 #[.slice none 0 0, qv q] W (AR [] false (chk q) W)) := fun W => by
  have := ask_any none 0 [] q 0 (fun r hr => by simp at hr) W (Sl.nil 4 W)
  rw [(ask_nil q 0).1, (ask_nil q 0).2.1, (ask_nil q 0).2.2] at this
  exact this
 have HC : Hid (∀ W, Calls Try.prog 17 #[.slice none 0 0, qv q, .int .i64 m] W (KR [] (allE q m []) W)) := fun W => by
  have := all_any none 0 [] q 0 (fun r hr => by simp at hr) m hm2 W (Sl.nil 4 W)
  rw [(all_nil q 0 m).1] at this
  exact this
 have HK : Hid _ := check_any q
 have hF := (all_nil q 0 m).2
 generalize allE q m [] = F at *
 generalize chk q = E at *
 obtain ⟨k, a, b, c, d, x, y, sq, kk, af, fr⟩ := q
 simp only [qv] at HA HC HK ⊢
 clear hb hg hW0 hm2
 go_enter Try.func9, Try.ntmps9
 go_wp2_with (first | (rw [HW0.out]; clear HW0))
 refine (fshown_any _).mono ?_
 rintro e w1 ⟨rfl, b1⟩
 have HB1 : Hid (Below w.heap.size w w1) := HB0.out.trans (b1.mono HB0.out.size)
 have HG1 : Hid (w1.heap[w.heap.size]? = some (qcs ⟨k, a, b, c, d, x, y, sq, kk, af, fr⟩)) := (b1.block _ l0).trans HG0.out
 have l1 : w.heap.size < w1.heap.size := Nat.lt_of_lt_of_le l0 b1.size
 clear b1 HG0 HB0 l0
 obtain ⟨c0, c1, c2, c3, c4, c5, c6, c7, c8, c9, c10⟩ := qc_of HG1.out
 simp only at c0 c1 c2 c3 c4 c5 c6 c7 c8 c9 c10
 go_wp2_with fail
 refine Calls.mono (HA.out _) ?_
 rintro e w2 ⟨o2, cap2, rfl, hr2, b2⟩
 have HB2 : Hid (Below w.heap.size w w2) := HB1.out.trans (b2.mono HB1.out.size)
 have HG2 : Hid (w2.heap[w.heap.size]? = some (qcs ⟨k, a, b, c, d, x, y, sq, kk, af, fr⟩)) := (b2.block _ l1).trans HG1.out
 have l2 : w.heap.size < w2.heap.size := Nat.lt_of_lt_of_le l1 b2.size
 clear b2 HG1 HB1 l1 hr2 HA c0 c1 c2 c3 c4 c5 c6 c7 c8 c9 c10
 obtain ⟨c0, c1, c2, c3, c4, c5, c6, c7, c8, c9, c10⟩ := qc_of HG2.out
 simp only at c0 c1 c2 c3 c4 c5 c6 c7 c8 c9 c10
 go_wp2_with (refine flist_min rfl 3 3 (.tmp 20) (.const (.int .i64 100)) rfl rfl rfl hm ?_)
 refine Calls.mono (HC.out _) ?_
 rintro e w3 ⟨o3, cap3, rfl, hr3, b3⟩
 have HB3 : Hid (Below w.heap.size w w3) := HB2.out.trans (b3.mono HB2.out.size)
 have HG3 : Hid (w3.heap[w.heap.size]? = some (qcs ⟨k, a, b, c, d, x, y, sq, kk, af, fr⟩)) := (b3.block _ l2).trans HG2.out
 have l3 : w.heap.size < w3.heap.size := Nat.lt_of_lt_of_le l2 b3.size
 clear b3 HG2 HB2 l2 hr3 HC c0 c1 c2 c3 c4 c5 c6 c7 c8 c9 c10 hm
 obtain ⟨c0, c1, c2, c3, c4, c5, c6, c7, c8, c9, c10⟩ := qc_of HG3.out
 simp only at c0 c1 c2 c3 c4 c5 c6 c7 c8 c9 c10
 rcases hF with rfl | ⟨rfl, hne⟩
 ·go_wp2_with fail
  refine (HK.out _).mono ?_
  rintro e w4 ⟨rfl, b4⟩
  have HB4 : Hid (Below w.heap.size w w4) := HB3.out.trans (b4.mono HB3.out.size)
  clear b4
  go_wp2_with fail
  go_ret
  exact ⟨rfl, HB4.out⟩
 ·have hne2 : ((2 : Int) == E) = false := by simpa using hne
  clear hne
  go_wp2_with fail
  refine (HK.out _).mono ?_
  rintro e w4 ⟨rfl, b4⟩
  have HB4 : Hid (Below w.heap.size w w4) := HB3.out.trans (b4.mono HB3.out.size)
  clear b4
  go_wp2_with fail
  go_ret
  exact ⟨rfl, HB4.out⟩
end Go.Proofs.Ytimdlohdmddnjaa.Rf
