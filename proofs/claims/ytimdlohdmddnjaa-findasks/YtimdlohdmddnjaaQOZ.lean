/- A scan that is given in two pieces. -/
import Derived.Test.YtimdlohdmddnjaaPOM
import Derived.Test.YtimdlohdmddnjaaPFW
import Derived.Test.YtimdlohdmddnjaaQGC
import Derived.Test.YtimdlohdmddnjaaQCK
import Derived.Test.YtimdlohdmddnjaaQGG
import Derived.Test.YtimdlohdmddnjaaQOQ
namespace Go.Proofs.Ytimdlohdmddnjaa.Rf
open Go.RowKit Go.Lib
open Go.Proofs.Ytimdlohdmddnjaa.Rc Go.Proofs.Ytimdlohdmddnjaa.Rq
/-- Three rows. -/
def ex3 : List Rw := [⟨1, 0, 0, ⟨#[]⟩⟩, ⟨2, 0, 0, ⟨#[]⟩⟩, ⟨3, 0, 0, ⟨#[]⟩⟩]
set_option maxRecDepth 100000 in
theorem ex3_M : ∀ r ∈ ex3, r.id < 4 := by decide
set_option maxRecDepth 100000 in
theorem ex3_a : askL ⟨4, 0, 0, 0, 0, 0, 0, 0, 2, 0, false⟩ 4 ex3 = [⟨1, 0, 0, ⟨#[]⟩⟩, ⟨2, 0, 0, ⟨#[]⟩⟩] ∧ askB ⟨4, 0, 0, 0, 0, 0, 0, 0, 2, 0, false⟩ 4 ex3 = true ∧ fdE ⟨4, 0, 0, 0, 0, 0, 0, 0, 2, 0, false⟩ ex3 = 0 := by
 have h : rightL ex3 = true ∧ chk ⟨4, 0, 0, 0, 0, 0, 0, 0, 2, 0, false⟩ = 0 := ⟨by decide, by decide⟩
 exact ⟨(if_pos h).trans rfl, (if_pos h).trans rfl, fd_ok h⟩
set_option maxRecDepth 100000 in
theorem ex3_b : askL ⟨4, 0, 0, 0, 0, 0, 0, 0, 2, 2, true⟩ 4 ex3 = [⟨3, 0, 0, ⟨#[]⟩⟩] ∧ askB ⟨4, 0, 0, 0, 0, 0, 0, 0, 2, 2, true⟩ 4 ex3 = false ∧ fdE ⟨4, 0, 0, 0, 0, 0, 0, 0, 2, 2, true⟩ ex3 = 0 := by
 have h : rightL ex3 = true ∧ chk ⟨4, 0, 0, 0, 0, 0, 0, 0, 2, 2, true⟩ = 0 := ⟨by decide, by decide⟩
 exact ⟨(if_pos h).trans rfl, (if_pos h).trans rfl, fd_ok h⟩
set_option maxRecDepth 100000 in
set_option maxHeartbeats 2000000 in
theorem fshown_any (w : World) : Calls Try.prog 10 #[] w fun e w' => e = .returned (.bool true) ∧ Below w.heap.size w w' := by
 have hb := below_new w (.cells #[.int .u64 1, .int .u32 0, .int .u32 0, .string ⟨#[]⟩, .int .u64 2, .int .u32 0, .int .u32 0, .string ⟨#[]⟩, .int .u64 3, .int .u32 0, .int .u32 0, .string ⟨#[]⟩] 54)
 have hg := heap_alloc_new w (.cells #[.int .u64 1, .int .u32 0, .int .u32 0, .string ⟨#[]⟩, .int .u64 2, .int .u32 0, .int .u32 0, .string ⟨#[]⟩, .int .u64 3, .int .u32 0, .int .u32 0, .string ⟨#[]⟩] 54)
 obtain ⟨W0, hW0⟩ : ∃ W0, w.alloc (.cells #[.int .u64 1, .int .u32 0, .int .u32 0, .string ⟨#[]⟩, .int .u64 2, .int .u32 0, .int .u32 0, .string ⟨#[]⟩, .int .u64 3, .int .u32 0, .int .u32 0, .string ⟨#[]⟩] 54) = W0 := ⟨_, rfl⟩
 rw [hW0] at hb hg
 have HW0 : Hid _ := hW0
 have HB0 : Hid (Below w.heap.size w W0) := hb
 have hr0 : RowsAt W0 (some ⟨w.heap.size, 0, none⟩) 3 ex3 := by
  refine ⟨by decide, by decide, (fun e => by cases e), rfl, fun _ => ⟨w.heap.size, 0, rfl, (Array.getElem?_eq_some_iff.1 hg).1, fun j u hu => ?_⟩⟩
  rw [Nat.zero_add, cell_of_row _ _ _ _ _ _ hg, ← hu, ← Array.getElem?_toList]
  rfl
 have HR0 : Hid (RowsAt W0 (some ⟨w.heap.size, 0, none⟩) 3 ex3) := hr0
 have HA : Hid (∀ W, RowsAt W (some ⟨w.heap.size, 0, none⟩) 3 ex3 → Calls Try.prog 13 #[.slice (some ⟨w.heap.size, 0, none⟩) 3 3, .agg #[.int .i64 4, .int .u32 0, .int .u32 0, .int .u32 0, .int .u32 0, .int .u32 0, .int .u32 0, .int .u64 0, .int .i64 2, .int .u64 0, .bool false]] W (AR [⟨1, 0, 0, ⟨#[]⟩⟩, ⟨2, 0, 0, ⟨#[]⟩⟩] true 0 W)) := fun W hW => by
  have := ask_any (some ⟨w.heap.size, 0, none⟩) 3 ex3 ⟨4, 0, 0, 0, 0, 0, 0, 0, 2, 0, false⟩ 4 ex3_M W hW
  rw [ex3_a.1, ex3_a.2.1, ex3_a.2.2] at this
  exact this
 have HB : Hid (∀ W, RowsAt W (some ⟨w.heap.size, 0, none⟩) 3 ex3 → Calls Try.prog 13 #[.slice (some ⟨w.heap.size, 0, none⟩) 3 3, .agg #[.int .i64 4, .int .u32 0, .int .u32 0, .int .u32 0, .int .u32 0, .int .u32 0, .int .u32 0, .int .u64 0, .int .i64 2, .int .u64 2, .bool true]] W (AR [⟨3, 0, 0, ⟨#[]⟩⟩] false 0 W)) := fun W hW => by
  have := ask_any (some ⟨w.heap.size, 0, none⟩) 3 ex3 ⟨4, 0, 0, 0, 0, 0, 0, 0, 2, 2, true⟩ 4 ex3_M W hW
  rw [ex3_b.1, ex3_b.2.1, ex3_b.2.2] at this
  exact this
 have hrun1 := fun W => run_headW (some ⟨w.heap.size, 0, none⟩) 3 3 2 W (by decide) (fun e => by cases e)
 have hrun2 := fun W => run_tailR (some ⟨w.heap.size, 0, none⟩) 3 3 2 W (by decide)
 simp only [Option.map_some, show ((3 : Nat) = 2) = False by simp, if_false] at hrun2
 clear hb hg hW0 hr0
 go_enter Try.func10, Try.ntmps10
 go_wp2_with (first | (rw [HW0.out]; clear HW0))
 refine Calls.mono (HA.out W0 HR0.out) ?_
 rintro e w1 ⟨o1, cap1, rfl, hr1, b1⟩
 have HB1 : Hid (Below w.heap.size w w1) := HB0.out.trans (b1.mono HB0.out.size)
 have HR1 : Hid (RowsAt w1 (some ⟨w.heap.size, 0, none⟩) 3 ex3) := HR0.out.below b1 (Nat.le_refl _)
 have HX1 : Hid (RowsAt w1 o1 cap1 [⟨1, 0, 0, ⟨#[]⟩⟩, ⟨2, 0, 0, ⟨#[]⟩⟩]) := hr1
 clear b1 hr1 HA HR0 HB0
 go_wp2_with fail
 refine Calls.mono (HB.out w1 HR1.out) ?_
 rintro e w2 ⟨o2, cap2, rfl, hr2, b2⟩
 have HB2 : Hid (Below w.heap.size w w2) := HB1.out.trans (b2.mono HB1.out.size)
 have HR2 : Hid (RowsAt w2 (some ⟨w.heap.size, 0, none⟩) 3 ex3) := HR1.out.below b2 (Nat.le_refl _)
 have HX2 : Hid (RowsAt w2 o1 cap1 [⟨1, 0, 0, ⟨#[]⟩⟩, ⟨2, 0, 0, ⟨#[]⟩⟩]) := HX1.out.below b2 (Nat.le_refl _)
 have HY2 : Hid (RowsAt w2 o2 cap2 [⟨3, 0, 0, ⟨#[]⟩⟩]) := hr2
 have HS1 : Hid (∀ _ : True, _) := fun _ => same_any [⟨1, 0, 0, ⟨#[]⟩⟩, ⟨2, 0, 0, ⟨#[]⟩⟩] o1 cap1 (some ⟨w.heap.size, 0, none⟩) 3 w2 HX2.out (HR2.out.head 2)
 clear b2 hr2 HB HR1 HB1 HX1
 go_wp2_with fail
 refine Calls.mono (HS1.out trivial) ?_
 rintro e w3 ⟨rfl, b3⟩
 have HB3 : Hid (Below w.heap.size w w3) := HB2.out.trans (b3.mono HB2.out.size)
 have hr3 := rows_drop (k := 2) (HR2.out.below b3 (Nat.le_refl _)) (by decide)
 have HS2 : Hid (∀ _ : True, _) := fun _ => same_any [⟨3, 0, 0, ⟨#[]⟩⟩] o2 cap2 _ _ w3 (HY2.out.below b3 (Nat.le_refl _)) hr3
 clear b3 HS1 HR2 HB2 HX2 hr3
 go_wp2_with fail
 refine Calls.mono (HS2.out trivial) ?_
 rintro e w4 ⟨rfl, b4⟩
 have HB4 : Hid (Below w.heap.size w w4) := HB3.out.trans (b4.mono HB3.out.size)
 clear b4 HS2
 go_wp2_with fail
 go_ret
 exact ⟨rfl, HB4.out⟩
end Go.Proofs.Ytimdlohdmddnjaa.Rf
/- What is asked, as a whole. -/
namespace Go.Proofs.Ytimdlohdmddnjaa.Rf
open Go.RowKit Go.Lib
open Go.Proofs.Ytimdlohdmddnjaa.Rc Go.Proofs.Ytimdlohdmddnjaa.Rq
set_option maxRecDepth 100000 in
theorem all_any (o : Option Addr) (cap : Nat) (l : List Rw) (q : Qr) (M : Nat) (hM : ∀ r ∈ l, r.id < M) (mo : Int) (hmo : mo ≤ 9223372036854775807) (w : World) (hr : RowsAt w o cap l) :
  Calls Try.prog 17 #[.slice o l.length cap, qv q, .int .i64 mo] w (KR (allL q M mo l) (allE q mo l) w) := by
 unfold allL allE
 by_cases h : q.k = 3 ∨ mo < 0
 ·rw [if_pos h, if_pos (.inl h)]
  refine (all_arg _ q mo h w).mono ?_
  rintro e w' ⟨rfl, hb⟩
  exact ⟨none, 0, rfl, Sl.nil 4 w', hb⟩
 ·rw [if_neg h]
  by_cases hok : rightL l = true ∧ chk q = 0
  ·rw [if_neg (fun e => e.elim h (fun e => e hok)), fd_ok hok]
   obtain ⟨-, k0, -, -⟩ := chk_ok hok.2
   obtain ⟨k, a, b, c, d, x, y, sq, kk, af, fr⟩ := q
   simp only at k0 h
   obtain ⟨K, rfl⟩ : ∃ K : Nat, kk = (K : Int) := ⟨kk.toNat, by omega⟩
   obtain ⟨m, rfl⟩ : ∃ m : Nat, mo = (m : Int) := ⟨mo.toNat, by omega⟩
   simp only [Int.toNat_natCast]
   exact all_ok o cap l k a b c d x y sq K af fr M hM m (fun e => h (.inl e)) hok w hr (by omega) _ _ rfl rfl
  ·rw [if_pos (.inr hok)]
   refine (all_bad o cap l q M hM mo h hok w hr).mono ?_
   rintro e w' ⟨rfl, hb⟩
   exact ⟨none, 0, rfl, Sl.nil 4 w', hb⟩
set_option maxRecDepth 100000 in
theorem gall_any (o : Option Addr) (cap : Nat) (l : List Rw) (q : Qr) (M : Nat) (hM : ∀ r ∈ l, r.id < M) (mo : Int) (hmo : mo ≤ 9223372036854775807) (w : World) (hr : RowsAt w o cap l) :
  Calls Try.prog 18 #[.slice o l.length cap, qv q, .int .i64 mo] w (KR (allL q M mo l) (allE q mo l) w) := by
 unfold allL allE
 by_cases h : q.k = 3 ∨ mo < 0
 ·rw [if_pos h, if_pos (.inl h)]
  refine (gall_arg _ q mo h w).mono ?_
  rintro e w' ⟨rfl, hb⟩
  exact ⟨none, 0, rfl, Sl.nil 4 w', hb⟩
 ·rw [if_neg h]
  by_cases hok : rightL l = true ∧ chk q = 0
  ·rw [if_neg (fun e => e.elim h (fun e => e hok)), fd_ok hok]
   obtain ⟨-, k0, -, -⟩ := chk_ok hok.2
   obtain ⟨k, a, b, c, d, x, y, sq, kk, af, fr⟩ := q
   simp only at k0 h
   obtain ⟨K, rfl⟩ : ∃ K : Nat, kk = (K : Int) := ⟨kk.toNat, by omega⟩
   obtain ⟨m, rfl⟩ : ∃ m : Nat, mo = (m : Int) := ⟨mo.toNat, by omega⟩
   simp only [Int.toNat_natCast]
   exact gall_ok o cap l k a b c d x y sq K af fr M hM m (fun e => h (.inl e)) hok w hr (by omega) _ _ rfl rfl
  ·rw [if_pos (.inr hok)]
   refine (gall_bad o cap l q M hM mo h hok w hr).mono ?_
   rintro e w' ⟨rfl, hb⟩
   exact ⟨none, 0, rfl, Sl.nil 4 w', hb⟩
end Go.Proofs.Ytimdlohdmddnjaa.Rf
/- FindChecks, FindAsks, FindAlls: the program's answers are the reference's. -/
namespace Go.Proofs.Ytimdlohdmddnjaa.Rf
open Go.RowKit Go.Lib
open Go.Proofs.Ytimdlohdmddnjaa.Rc Go.Proofs.Ytimdlohdmddnjaa.Rq
set_option maxRecDepth 100000 in
set_option maxHeartbeats 4000000 in
theorem findAsks_walk (l : List Rw) (q : Qr) (o : Option Addr) (cap : Nat) (w : World) (hr : RowsAt w o cap l) : Calls Try.prog 4 #[.slice o l.length cap, qv q] w fun e w' => e = .returned (.bool true) ∧ Below w.heap.size w w' := by
 have hb := below_new w (qcs q)
 have hg := heap_alloc_new w (qcs q)
 obtain ⟨W0, hW0⟩ : ∃ W0, w.alloc (qcs q) = W0 := ⟨_, rfl⟩
 rw [hW0] at hb hg
 have HW0 : Hid _ := hW0
 have HG0 : Hid (W0.heap[w.heap.size]? = some (qcs q)) := hg
 have HB0 : Hid (Below w.heap.size w W0) := hb
 have l0 : w.heap.size < W0.heap.size := (Array.getElem?_eq_some_iff.1 hg).1
 obtain ⟨L, hL⟩ : ∃ L, l.take 60 = L := ⟨_, rfl⟩
 have HF : Hid (∀ W, RowsAt W o cap l → Calls Try.prog 14 #[.slice o l.length cap] W fun e w' => e = .returned (.slice o L.length cap) ∧ w' = W) := fun W hW => by rw [← hL]; exact few_any l o cap W hW
 have HR0 : Hid (RowsAt w o cap l) := hr
 have HR : Hid (RowsAt w o cap L) := by rw [← hL]; exact hr.head 60
 clear hL
 obtain ⟨M, hM⟩ := bound_ids L
 have HA : Hid (∀ W, RowsAt W o cap L → _) := fun W hW => ask_any o cap L q M hM W hW
 have HC : Hid (∀ W, RowsAt W o cap L → _) := fun W hW => gask_any o cap L q M hM W hW
 generalize askL q M L = AL at *
 generalize askB q M L = AB at *
 generalize fdE q L = E at *
 clear hM
 obtain ⟨k, a, b, c, d, x, y, sq, kk, af, fr⟩ := q
 simp only [qv] at HA HC ⊢
 clear hb hg hW0 hr
 go_enter Try.func4, Try.ntmps4
 go_wp2_with (first | (rw [HW0.out]; clear HW0))
 refine (fshown_any _).mono ?_
 rintro e w1 ⟨rfl, b1⟩
 have HB1 : Hid (Below w.heap.size w w1) := HB0.out.trans (b1.mono HB0.out.size)
 have HG1 : Hid (w1.heap[w.heap.size]? = some (qcs ⟨k, a, b, c, d, x, y, sq, kk, af, fr⟩)) := (b1.block _ l0).trans HG0.out
 have l1 : w.heap.size < w1.heap.size := Nat.lt_of_lt_of_le l0 b1.size
 clear b1 HG0 HB0 l0
 go_wp2_with fail
 refine wp_region_held (S := QC w.heap.size ⟨k, a, b, c, d, x, y, sq, kk, af, fr⟩) (by kernel_rfl) ?_
 change wpAnyH _ _ _ _ _ _ _ _ (World.drew _)
 have HSW : Hid (QC w.heap.size ⟨k, a, b, c, d, x, y, sq, kk, af, fr⟩ w1.drew) := qc_of HG1.out
 refine wpAnyH_take (i := 0) (v := ?_) rfl (by kernel_rfl) (by kernel_rfl) (by kernel_rfl) (fun _ _ _ h => h) (Or.inl ⟨by kernel_rfl, ?_⟩) HSW.out ?_
 rotate_left
 ·rintro w ⟨e0, e1, e2, e3, e4, e5, e6, e7, e8, e9, e10⟩; go_simp; try with_reducible rfl
 conv in (Act.put _ _ _) => simp only [List.getElem_toArray, List.getElem_cons_succ, List.getElem_cons_zero, Act.put, List.setIfInBounds_toArray, List.set_cons_succ, List.set_cons_zero]
 refine wpAnyH_take (i := 2) (v := ?_) rfl (by kernel_rfl) (by kernel_rfl) (by kernel_rfl) (fun _ _ _ h => h) (Or.inl ⟨by kernel_rfl, ?_⟩) HSW.out ?_
 rotate_left
 ·rintro w ⟨e0, e1, e2, e3, e4, e5, e6, e7, e8, e9, e10⟩; go_simp; try with_reducible rfl
 conv in (Act.put _ _ _) => simp only [List.getElem_toArray, List.getElem_cons_succ, List.getElem_cons_zero, Act.put, List.setIfInBounds_toArray, List.set_cons_succ, List.set_cons_zero]
 refine readyH 1 _ (by kernel_rfl) rfl (by kernel_rfl) (fun K hK => ?_)
 go_simp
 refine (HF.out _ (HR0.out.below HB1.out.drew (Nat.le_refl _))).mono ?_
 rintro e w9 ⟨rfl, hw9⟩
 have hw9' := hw9.symm
 clear hw9
 subst hw9'
 refine hK _ _ HSW.out ?_
 clear hK K
 refine readyH 3 _ (by kernel_rfl) rfl (by kernel_rfl) (fun K hK => ?_)
 go_simp
 refine Calls.mono (HA.out _ (HR.out.below HB1.out.drew (Nat.le_refl _))) ?_
 rintro e w2 ⟨o2, cap2, rfl, hr2, b2⟩
 replace b2 : Below w1.heap.size w1 w2 := (Below.refl _ w1).drew.trans b2
 have HB2 : Hid (Below w.heap.size w w2) := HB1.out.trans (b2.mono HB1.out.size)
 have HG2 : Hid (w2.heap[w.heap.size]? = some (qcs ⟨k, a, b, c, d, x, y, sq, kk, af, fr⟩)) := (b2.block _ l1).trans HG1.out
 have l2 : w.heap.size < w2.heap.size := Nat.lt_of_lt_of_le l1 b2.size
 clear HSW
 have HSW : Hid (QC w.heap.size ⟨k, a, b, c, d, x, y, sq, kk, af, fr⟩ w2) := qc_of HG2.out
 have HX2 : Hid (RowsAt w2 o2 cap2 AL) := hr2
 clear b2 hr2 HA
 refine hK _ _ HSW.out ?_
 clear hK K
 refine wpAnyH_take (i := 4) (v := ?_) rfl (by kernel_rfl) (by kernel_rfl) (by kernel_rfl) (fun _ _ _ h => h) (Or.inl ⟨by kernel_rfl, ?_⟩) HSW.out ?_
 rotate_left
 ·rintro w ⟨e0, e1, e2, e3, e4, e5, e6, e7, e8, e9, e10⟩; go_simp; try with_reducible rfl
 conv in (Act.put _ _ _) => simp only [List.getElem_toArray, List.getElem_cons_succ, List.getElem_cons_zero, Act.put, List.setIfInBounds_toArray, List.set_cons_succ, List.set_cons_zero]
 refine wpAnyH_take (i := 5) (v := ?_) rfl (by kernel_rfl) (by kernel_rfl) (by kernel_rfl) (fun _ _ _ h => h) (Or.inl ⟨by kernel_rfl, ?_⟩) HSW.out ?_
 rotate_left
 ·rintro w ⟨e0, e1, e2, e3, e4, e5, e6, e7, e8, e9, e10⟩; go_simp; try with_reducible rfl
 conv in (Act.put _ _ _) => simp only [List.getElem_toArray, List.getElem_cons_succ, List.getElem_cons_zero, Act.put, List.setIfInBounds_toArray, List.set_cons_succ, List.set_cons_zero]
 refine wpAnyH_take (i := 6) (v := ?_) rfl (by kernel_rfl) (by kernel_rfl) (by kernel_rfl) (fun _ _ _ h => h) (Or.inl ⟨by kernel_rfl, ?_⟩) HSW.out ?_
 rotate_left
 ·rintro w ⟨e0, e1, e2, e3, e4, e5, e6, e7, e8, e9, e10⟩; go_simp; try with_reducible rfl
 conv in (Act.put _ _ _) => simp only [List.getElem_toArray, List.getElem_cons_succ, List.getElem_cons_zero, Act.put, List.setIfInBounds_toArray, List.set_cons_succ, List.set_cons_zero]
 refine wpAnyH_take (i := 7) (v := ?_) rfl (by kernel_rfl) (by kernel_rfl) (by kernel_rfl) (fun _ _ _ h => h) (Or.inl ⟨by kernel_rfl, ?_⟩) HSW.out ?_
 rotate_left
 ·rintro w ⟨e0, e1, e2, e3, e4, e5, e6, e7, e8, e9, e10⟩; go_simp; try with_reducible rfl
 conv in (Act.put _ _ _) => simp only [List.getElem_toArray, List.getElem_cons_succ, List.getElem_cons_zero, Act.put, List.setIfInBounds_toArray, List.set_cons_succ, List.set_cons_zero]
 refine wpAnyH_take (i := 8) (v := ?_) rfl (by kernel_rfl) (by kernel_rfl) (by kernel_rfl) (fun _ _ _ h => h) (Or.inl ⟨by kernel_rfl, ?_⟩) HSW.out ?_
 rotate_left
 ·rintro w ⟨e0, e1, e2, e3, e4, e5, e6, e7, e8, e9, e10⟩; go_simp; try with_reducible rfl
 conv in (Act.put _ _ _) => simp only [List.getElem_toArray, List.getElem_cons_succ, List.getElem_cons_zero, Act.put, List.setIfInBounds_toArray, List.set_cons_succ, List.set_cons_zero]
 refine wpAnyH_take (i := 9) (v := ?_) rfl (by kernel_rfl) (by kernel_rfl) (by kernel_rfl) (fun _ _ _ h => h) (Or.inl ⟨by kernel_rfl, ?_⟩) HSW.out ?_
 rotate_left
 ·rintro w ⟨e0, e1, e2, e3, e4, e5, e6, e7, e8, e9, e10⟩; go_simp; try with_reducible rfl
 conv in (Act.put _ _ _) => simp only [List.getElem_toArray, List.getElem_cons_succ, List.getElem_cons_zero, Act.put, List.setIfInBounds_toArray, List.set_cons_succ, List.set_cons_zero]
 refine wpAnyH_take (i := 10) (v := ?_) rfl (by kernel_rfl) (by kernel_rfl) (by kernel_rfl) (fun _ _ _ h => h) (Or.inl ⟨by kernel_rfl, ?_⟩) HSW.out ?_
 rotate_left
 ·rintro w ⟨e0, e1, e2, e3, e4, e5, e6, e7, e8, e9, e10⟩; go_simp; try with_reducible rfl
 conv in (Act.put _ _ _) => simp only [List.getElem_toArray, List.getElem_cons_succ, List.getElem_cons_zero, Act.put, List.setIfInBounds_toArray, List.set_cons_succ, List.set_cons_zero]
 refine wpAnyH_done (by kernel_rfl) ?_ _
 clear HSW
 go_wp2_with fail
 refine wp_region_held (S := QC w.heap.size ⟨k, a, b, c, d, x, y, sq, kk, af, fr⟩) (by kernel_rfl) ?_
 change wpAnyH _ _ _ _ _ _ _ _ (World.drew _)
 have HSW : Hid (QC w.heap.size ⟨k, a, b, c, d, x, y, sq, kk, af, fr⟩ w2.drew) := qc_of HG2.out
 refine wpAnyH_take (i := 0) (v := ?_) rfl (by kernel_rfl) (by kernel_rfl) (by kernel_rfl) (fun _ _ _ h => h) (Or.inl ⟨by kernel_rfl, ?_⟩) HSW.out ?_
 rotate_left
 ·rintro w ⟨e0, e1, e2, e3, e4, e5, e6, e7, e8, e9, e10⟩; go_simp; try with_reducible rfl
 conv in (Act.put _ _ _) => simp only [List.getElem_toArray, List.getElem_cons_succ, List.getElem_cons_zero, Act.put, List.setIfInBounds_toArray, List.set_cons_succ, List.set_cons_zero]
 refine wpAnyH_take (i := 2) (v := ?_) rfl (by kernel_rfl) (by kernel_rfl) (by kernel_rfl) (fun _ _ _ h => h) (Or.inl ⟨by kernel_rfl, ?_⟩) HSW.out ?_
 rotate_left
 ·rintro w ⟨e0, e1, e2, e3, e4, e5, e6, e7, e8, e9, e10⟩; go_simp; try with_reducible rfl
 conv in (Act.put _ _ _) => simp only [List.getElem_toArray, List.getElem_cons_succ, List.getElem_cons_zero, Act.put, List.setIfInBounds_toArray, List.set_cons_succ, List.set_cons_zero]
 refine readyH 1 _ (by kernel_rfl) rfl (by kernel_rfl) (fun K hK => ?_)
 go_simp
 refine (HF.out _ (HR0.out.below HB2.out.drew (Nat.le_refl _))).mono ?_
 rintro e w9 ⟨rfl, hw9⟩
 have hw9' := hw9.symm
 clear hw9
 subst hw9'
 refine hK _ _ HSW.out ?_
 clear hK K
 refine readyH 3 _ (by kernel_rfl) rfl (by kernel_rfl) (fun K hK => ?_)
 go_simp
 refine Calls.mono (HC.out _ (HR.out.below HB2.out.drew (Nat.le_refl _))) ?_
 rintro e w3 ⟨o3, cap3, rfl, hr3, b3, -⟩
 replace b3 : Below w2.heap.size w2 w3 := (Below.refl _ w2).drew.trans b3
 have HB3 : Hid (Below w.heap.size w w3) := HB2.out.trans (b3.mono HB2.out.size)
 have HG3 : Hid (w3.heap[w.heap.size]? = some (qcs ⟨k, a, b, c, d, x, y, sq, kk, af, fr⟩)) := (b3.block _ l2).trans HG2.out
 have l3 : w.heap.size < w3.heap.size := Nat.lt_of_lt_of_le l2 b3.size
 clear HSW
 have HSW : Hid (QC w.heap.size ⟨k, a, b, c, d, x, y, sq, kk, af, fr⟩ w3) := qc_of HG3.out
 have HS : Hid (∀ _ : True, _) := fun _ => same_any AL o2 cap2 o3 cap3 w3 (HX2.out.below b3 (Nat.le_refl _)) hr3
 clear b3 hr3 HC HX2
 refine hK _ _ HSW.out ?_
 clear hK K
 refine wpAnyH_take (i := 4) (v := ?_) rfl (by kernel_rfl) (by kernel_rfl) (by kernel_rfl) (fun _ _ _ h => h) (Or.inl ⟨by kernel_rfl, ?_⟩) HSW.out ?_
 rotate_left
 ·rintro w ⟨e0, e1, e2, e3, e4, e5, e6, e7, e8, e9, e10⟩; go_simp; try with_reducible rfl
 conv in (Act.put _ _ _) => simp only [List.getElem_toArray, List.getElem_cons_succ, List.getElem_cons_zero, Act.put, List.setIfInBounds_toArray, List.set_cons_succ, List.set_cons_zero]
 refine wpAnyH_take (i := 5) (v := ?_) rfl (by kernel_rfl) (by kernel_rfl) (by kernel_rfl) (fun _ _ _ h => h) (Or.inl ⟨by kernel_rfl, ?_⟩) HSW.out ?_
 rotate_left
 ·rintro w ⟨e0, e1, e2, e3, e4, e5, e6, e7, e8, e9, e10⟩; go_simp; try with_reducible rfl
 conv in (Act.put _ _ _) => simp only [List.getElem_toArray, List.getElem_cons_succ, List.getElem_cons_zero, Act.put, List.setIfInBounds_toArray, List.set_cons_succ, List.set_cons_zero]
 refine wpAnyH_take (i := 6) (v := ?_) rfl (by kernel_rfl) (by kernel_rfl) (by kernel_rfl) (fun _ _ _ h => h) (Or.inl ⟨by kernel_rfl, ?_⟩) HSW.out ?_
 rotate_left
 ·rintro w ⟨e0, e1, e2, e3, e4, e5, e6, e7, e8, e9, e10⟩; go_simp; try with_reducible rfl
 conv in (Act.put _ _ _) => simp only [List.getElem_toArray, List.getElem_cons_succ, List.getElem_cons_zero, Act.put, List.setIfInBounds_toArray, List.set_cons_succ, List.set_cons_zero]
 refine wpAnyH_take (i := 7) (v := ?_) rfl (by kernel_rfl) (by kernel_rfl) (by kernel_rfl) (fun _ _ _ h => h) (Or.inl ⟨by kernel_rfl, ?_⟩) HSW.out ?_
 rotate_left
 ·rintro w ⟨e0, e1, e2, e3, e4, e5, e6, e7, e8, e9, e10⟩; go_simp; try with_reducible rfl
 conv in (Act.put _ _ _) => simp only [List.getElem_toArray, List.getElem_cons_succ, List.getElem_cons_zero, Act.put, List.setIfInBounds_toArray, List.set_cons_succ, List.set_cons_zero]
 refine wpAnyH_take (i := 8) (v := ?_) rfl (by kernel_rfl) (by kernel_rfl) (by kernel_rfl) (fun _ _ _ h => h) (Or.inl ⟨by kernel_rfl, ?_⟩) HSW.out ?_
 rotate_left
 ·rintro w ⟨e0, e1, e2, e3, e4, e5, e6, e7, e8, e9, e10⟩; go_simp; try with_reducible rfl
 conv in (Act.put _ _ _) => simp only [List.getElem_toArray, List.getElem_cons_succ, List.getElem_cons_zero, Act.put, List.setIfInBounds_toArray, List.set_cons_succ, List.set_cons_zero]
 refine wpAnyH_take (i := 9) (v := ?_) rfl (by kernel_rfl) (by kernel_rfl) (by kernel_rfl) (fun _ _ _ h => h) (Or.inl ⟨by kernel_rfl, ?_⟩) HSW.out ?_
 rotate_left
 ·rintro w ⟨e0, e1, e2, e3, e4, e5, e6, e7, e8, e9, e10⟩; go_simp; try with_reducible rfl
 conv in (Act.put _ _ _) => simp only [List.getElem_toArray, List.getElem_cons_succ, List.getElem_cons_zero, Act.put, List.setIfInBounds_toArray, List.set_cons_succ, List.set_cons_zero]
 refine wpAnyH_take (i := 10) (v := ?_) rfl (by kernel_rfl) (by kernel_rfl) (by kernel_rfl) (fun _ _ _ h => h) (Or.inl ⟨by kernel_rfl, ?_⟩) HSW.out ?_
 rotate_left
 ·rintro w ⟨e0, e1, e2, e3, e4, e5, e6, e7, e8, e9, e10⟩; go_simp; try with_reducible rfl
 conv in (Act.put _ _ _) => simp only [List.getElem_toArray, List.getElem_cons_succ, List.getElem_cons_zero, Act.put, List.setIfInBounds_toArray, List.set_cons_succ, List.set_cons_zero]
 refine wpAnyH_done (by kernel_rfl) ?_ _
 go_wp2_with fail
 refine Calls.mono (HS.out trivial) ?_
 rintro e w4 ⟨rfl, b4⟩
 have HB4 : Hid (Below w.heap.size w w4) := HB3.out.trans (b4.mono HB3.out.size)
 clear b4 HS
 go_wp2_with fail
 go_ret
 exact ⟨rfl, HB4.out⟩
end Go.Proofs.Ytimdlohdmddnjaa.Rf
