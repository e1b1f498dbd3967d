/- A scan that is given in two pieces. -/
import Derived.Test.YtimdlohdmddnjaaQOM
import Derived.Test.YtimdlohdmddnjaaPFW
import Derived.Test.YtimdlohdmddnjaaQGC
import Derived.Test.YtimdlohdmddnjaaQCK
import Derived.Test.YtimdlohdmddnjaaQGG
namespace Go.Proofs.Ytimdlohdmddnjaa.Rf
open Go.RowKit Go.Lib
open Go.Proofs.Ytimdlohdmddnjaa.Rc Go.Proofs.Ytimdlohdmddnjaa.Rq
def ex3 : List Rw := [⟨1, 0, 0, ⟨#[]⟩⟩, ⟨2, 0, 0, ⟨#[]⟩⟩, ⟨3, 0, 0, ⟨#[]⟩⟩]
set_option maxRecDepth 100000 in
theorem ex3_M : ∀ r ∈ ex3, r.id < 4 := by decide
set_option maxRecDepth 100000 in
theorem ex3_a : askL ⟨4, 0, 0, 0, 0, 0, 0, 0, 2, 0, false⟩ 4 ex3 = [⟨1, 0, 0, ⟨#[]⟩⟩, ⟨2, 0, 0, ⟨#[]⟩⟩] ∧ askB ⟨4, 0, 0, 0, 0, 0, 0, 0, 2, 0, false⟩ 4 ex3 = true ∧ fdE ⟨4, 0, 0, 0, 0, 0, 0, 0, 2, 0, false⟩ ex3 = 0 := by
 have h : rightL ex3 = true ∧ chk ⟨4, 0, 0, 0, 0, 0, 0, 0, 2, 0, false⟩ = 0 := ⟨by decide, by decide⟩
 exact ⟨(if_pos h).trans rfl, (if_pos h).trans rfl, fd_ok h⟩
set_option maxRecDepth 100000 in
theorem ex3_b : askL ⟨4, 0, 0, 0, 0, 0, 0, 0, 2, 2, true⟩ 4 ex3 = [⟨3, 0, 0, ⟨#[]⟩⟩] ∧ askB ⟨4, 0, 0, 0, 0, 0, 0, 0, 2, 2, true⟩ 4 ex3 = false ∧ fdE ⟨4, 0, 0, 0, 0, 0, 0, 0, 2, 2, true⟩ ex3 = 0 := by
 have h : rightL ex3 = true ∧ chk ⟨4, 0, 0, 0, 0, 0, 0, 0, 2, 2, true⟩ = 0 := ⟨by decide, by decide⟩
 exact ⟨(if_pos h).trans rfl, (if_pos h).trans rfl, fd_ok h⟩
set_option maxRecDepth 100000 in
set_option maxHeartbeats 2000000 in
theorem fshown_any (w : World) : Calls Try.prog 10 #[] w fun e w' => e = .returned (.bool true) ∧ Below w.heap.size w w' := by
 have hb := below_new w (.cells #[.int .u64 1, .int .u32 0, .int .u32 0, .string ⟨#[]⟩, .int .u64 2, .int .u32 0, .int .u32 0, .string ⟨#[]⟩, .int .u64 3, .int .u32 0, .int .u32 0, .string ⟨#[]⟩] 54)
 have hg := heap_alloc_new w (.cells #[.int .u64 1, .int .u32 0, .int .u32 0, .string ⟨#[]⟩, .int .u64 2, .int .u32 0, .int .u32 0, .string ⟨#[]⟩, .int .u64 3, .int .u32 0, .int .u32 0, .string ⟨#[]⟩] 54)
 obtain ⟨W0, hW0⟩ : ∃ W0, w.alloc (.cells #[.int .u64 1, .int .u32 0, .int .u32 0, .string ⟨#[]⟩, .int .u64 2, .int .u32 0, .int .u32 0, .string ⟨#[]⟩, .int .u64 3, .int .u32 0, .int .u32 0, .string ⟨#[]⟩] 54) = W0 := ⟨_, rfl⟩
 rw [hW0] at hb hg
 have HW0 : Hid _ := hW0
 have HB0 : Hid (Below w.heap.size w W0) := hb
 have hr0 : RowsAt W0 (some ⟨w.heap.size, 0, none⟩) 3 ex3 := by
  refine ⟨by decide, by decide, (fun e => by cases e), rfl, fun _ => ⟨w.heap.size, 0, rfl, (Array.getElem?_eq_some_iff.1 hg).1, fun j u hu => ?_⟩⟩
  rw [Nat.zero_add, cell_of_row _ _ _ _ _ _ hg, ← hu, ← Array.getElem?_toList]
  rfl
 have HR0 : Hid (RowsAt W0 (some ⟨w.heap.size, 0, none⟩) 3 ex3) := hr0
 have HA : Hid (∀ W, RowsAt W (some ⟨w.heap.size, 0, none⟩) 3 ex3 → Calls Try.prog 13 #[.slice (some ⟨w.heap.size, 0, none⟩) 3 3, .agg #[.int .i64 4, .int .u32 0, .int .u32 0, .int .u32 0, .int .u32 0, .int .u32 0, .int .u32 0, .int .u64 0, .int .i64 2, .int .u64 0, .bool false]] W (AR [⟨1, 0, 0, ⟨#[]⟩⟩, ⟨2, 0, 0, ⟨#[]⟩⟩] true 0 W)) := fun W hW => by
  have := ask_any (some ⟨w.heap.size, 0, none⟩) 3 ex3 ⟨4, 0, 0, 0, 0, 0, 0, 0, 2, 0, false⟩ 4 ex3_M W hW
  rw [ex3_a.1, ex3_a.2.1, ex3_a.2.2] at this
  exact this
 have HB : Hid (∀ W, RowsAt W (some ⟨w.heap.size, 0, none⟩) 3 ex3 → Calls Try.prog 13 #[.slice (some ⟨w.heap.size, 0, none⟩) 3 3, .agg #[.int .i64 4, .int .u32 0, .int .u32 0, .int .u32 0, .int .u32 0, .int .u32 0, .int .u32 0, .int .u64 0, .int .i64 2, .int .u64 2, .bool true]] W (AR [⟨3, 0, 0, ⟨#[]⟩⟩] false 0 W)) := fun W hW => by
  have := ask_any (some ⟨w.heap.size, 0, none⟩) 3 ex3 ⟨4, 0, 0, 0, 0, 0, 0, 0, 2, 2, true⟩ 4 ex3_M W hW
  rw [ex3_b.1, ex3_b.2.1, ex3_b.2.2] at this
  exact this
 have hrun1 := fun W => run_headW (some ⟨w.heap.size, 0, none⟩) 3 3 2 W (by decide) (fun e => by cases e)
 have hrun2 := fun W => run_tailR (some ⟨w.heap.size, 0, none⟩) 3 3 2 W (by decide)
 simp only [Option.map_some, show ((3 : Nat) = 2) = False by simp, if_false] at hrun2
 clear hb hg hW0 hr0
 go_enter Try.func10, Try.ntmps10
 go_wp2_with (first | (rw [HW0.out]; clear HW0))
 refine Calls.mono (HA.out W0 HR0.out) ?_
 rintro e w1 ⟨o1, cap1, rfl, hr1, b1⟩
 have HB1 : Hid (Below w.heap.size w w1) := HB0.out.trans (b1.mono HB0.out.size)
 have HR1 : Hid (RowsAt w1 (some ⟨w.heap.size, 0, none⟩) 3 ex3) := HR0.out.below b1 (Nat.le_refl _)
 have HX1 : Hid (RowsAt w1 o1 cap1 [⟨1, 0, 0, ⟨#[]⟩⟩, ⟨2, 0, 0, ⟨#[]⟩⟩]) := hr1
 clear b1 hr1 HA HR0 HB0
 go_wp2_with fail
 refine Calls.mono (HB.out w1 HR1.out) ?_
 rintro e w2 ⟨o2, cap2, rfl, hr2, b2⟩
 have HB2 : Hid (Below w.heap.size w w2) := HB1.out.trans (b2.mono HB1.out.size)
 have HR2 : Hid (RowsAt w2 (some ⟨w.heap.size, 0, none⟩) 3 ex3) := HR1.out.below b2 (Nat.le_refl _)
 have HX2 : Hid (RowsAt w2 o1 cap1 [⟨1, 0, 0, ⟨#[]⟩⟩, ⟨2, 0, 0, ⟨#[]⟩⟩]) := HX1.out.below b2 (Nat.le_refl _)
 have HY2 : Hid (RowsAt w2 o2 cap2 [⟨3, 0, 0, ⟨#[]⟩⟩]) := hr2
 have HS1 : Hid (∀ _ : True, _) := fun _ => same_any [⟨1, 0, 0, ⟨#[]⟩⟩, ⟨2, 0, 0, ⟨#[]⟩⟩] o1 cap1 (some ⟨w.heap.size, 0, none⟩) 3 w2 HX2.out (HR2.out.head 2)
 clear b2 hr2 HB HR1 HB1 HX1
 go_wp2_with fail
 refine Calls.mono (HS1.out trivial) ?_
 rintro e w3 ⟨rfl, b3⟩
 have HB3 : Hid (Below w.heap.size w w3) := HB2.out.trans (b3.mono HB2.out.size)
 have hr3 := rows_drop (k := 2) (HR2.out.below b3 (Nat.le_refl _)) (by decide)
 have HS2 : Hid (∀ _ : True, _) := fun _ => same_any [⟨3, 0, 0, ⟨#[]⟩⟩] o2 cap2 _ _ w3 (HY2.out.below b3 (Nat.le_refl _)) hr3
 clear b3 HS1 HR2 HB2 HX2 hr3
 go_wp2_with fail
 refine Calls.mono (HS2.out trivial) ?_
 rintro e w4 ⟨rfl, b4⟩
 have HB4 : Hid (Below w.heap.size w w4) := HB3.out.trans (b4.mono HB3.out.size)
 clear b4 HS2
 go_wp2_with fail
 go_ret
 exact ⟨rfl, HB4.out⟩
set_option maxRecDepth 100000 in
theorem all_any (o : Option Addr) (cap : Nat) (l : List Rw) (q : Qr) (M : Nat) (hM : ∀ r ∈ l, r.id < M) (mo : Int) (hmo : mo ≤ 9223372036854775807) (w : World) (hr : RowsAt w o cap l) :
  Calls Try.prog 17 #[.slice o l.length cap, qv q, .int .i64 mo] w (KR (allL q M mo l) (allE q mo l) w) := by
 unfold allL allE
 by_cases h : q.k = 3 ∨ mo < 0
 ·rw [if_pos h, if_pos (.inl h)]
  refine (all_arg _ q mo h w).mono ?_
  rintro e w' ⟨rfl, hb⟩
  exact ⟨none, 0, rfl, Sl.nil 4 w', hb⟩
 ·rw [if_neg h]
  by_cases hok : rightL l = true ∧ chk q = 0
  ·rw [if_neg (fun e => e.elim h (fun e => e hok)), fd_ok hok]
   obtain ⟨-, k0, -, -⟩ := chk_ok hok.2
   obtain ⟨k, a, b, c, d, x, y, sq, kk, af, fr⟩ := q
   simp only at k0 h
   obtain ⟨K, rfl⟩ : ∃ K : Nat, kk = (K : Int) := ⟨kk.toNat, by omega⟩
   obtain ⟨m, rfl⟩ : ∃ m : Nat, mo = (m : Int) := ⟨mo.toNat, by omega⟩
   simp only [Int.toNat_natCast]
   exact all_ok o cap l k a b c d x y sq K af fr M hM m (fun e => h (.inl e)) hok w hr (by omega) _ _ rfl rfl
  ·rw [if_pos (.inr hok)]
   refine (all_bad o cap l q M hM mo h hok w hr).mono ?_
   rintro e w' ⟨rfl, hb⟩
   exact ⟨none, 0, rfl, Sl.nil 4 w', hb⟩
end Go.Proofs.Ytimdlohdmddnjaa.Rf
