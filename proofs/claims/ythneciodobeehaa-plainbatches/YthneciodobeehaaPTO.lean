/- The reference's Get. -/
import Derived.Test.YthneciodobeehaaPTC
import Derived.Test.YthneciodobeehaaPHR
namespace Go.Proofs.Ythneciodobeehaa.Rp
open Go.RowKit Go.Lib
open Go.Proofs.Ythneciodobeehaa.Rc Go.Proofs.Ythneciodobeehaa.Rq
set_option maxRecDepth 100000 in
set_option maxHeartbeats 2000000 in
theorem hget_no (o : Option Addr) (cap : Nat) (l : List Rw) (id : Nat) (w : World) (hr : RowsAt w o cap l) (h : rightL l = false) :
    Calls Try.prog 14 #[.slice o l.length cap, .int .u64 (id : Int)] w fun e w' => e = .returned (.tuple #[rv zr, .int .i64 80]) ∧ Below w.heap.size w w' := by
  have hbn := below_new w (.cells #[.int .u64 0, .int .u32 0, .int .u32 0, .string ⟨#[]⟩] 27)
  have HC : Hid _ := eright_any l o cap _ (hr.below hbn (Nat.le_refl _))
  rw [h] at HC
  have HBn : Hid _ := hbn
  have HG : Hid _ := heap_alloc_new w (.cells #[.int .u64 0, .int .u32 0, .int .u32 0, .string ⟨#[]⟩] 27)
  clear hr h hbn
  go_enter Try.func14, Try.ntmps14
  go_wp2_with fail
  refine Calls.mono HC.out ?_
  rintro e W1 ⟨rfl, b1⟩
  have hg : W1.heap[w.heap.size]? = some (.cells #[.int .u64 0, .int .u32 0, .int .u32 0, .string ⟨#[]⟩] 27 (0, 0)) := (b1.block _ (by simp)).trans HG.out
  have HB1 : Hid (Below w.heap.size w W1) := HBn.out.trans (b1.mono (by simp))
  obtain ⟨z0, z1, z2, z3, f0, f1, f2, f3⟩ := row_facts hg
  obtain ⟨p1, _, p3⟩ := put_row hg (.int .u64 0) (.int .u32 0) (.int .u32 0) (.string ⟨#[]⟩)
  have HP1 : Hid _ := p1
  have HP3 : Hid _ := HB1.out.trans (p3 w.heap.size (Nat.le_refl _))
  clear p1 p3 b1 HC hg
  go_wp2_with fail
  refine bodyPost_ret (results_rowE rfl _ _ _ _ _ _ _ _ rfl rfl HP1.out) rfl ⟨rfl, HP3.out⟩
set_option maxRecDepth 100000 in
theorem its_atk {l : List Rw} {id k : Nat} (hk : k < l.length) (he : (rat l k).id = id) (hj : ∀ j, j < k → (rat l j).id ≠ id) : its l id = some (rat l k) := by
  unfold its
  rw [List.find?_eq_some_iff_getElem]
  refine ⟨by simpa using he, k, hk, (rat_get hk).symm, fun j hj' => ?_⟩
  have := hj j hj'
  rw [rat_get (by omega)] at this
  simpa using this
set_option maxRecDepth 100000 in
theorem its_nilk {l : List Rw} {id : Nat} (hj : ∀ j, j < l.length → (rat l j).id ≠ id) : its l id = none := by
  unfold its
  rw [List.find?_eq_none]
  intro r hr
  obtain ⟨j, hj', rfl⟩ := List.getElem_of_mem hr
  have := hj j hj'
  rw [rat_get hj'] at this
  simpa using this
set_option maxRecDepth 100000 in
set_option maxHeartbeats 2000000 in
theorem hget_ok (o : Option Addr) (cap : Nat) (l : List Rw) (id : Nat) (w : World) (hr : RowsAt w o cap l) (h : rightL l = true) :
    Calls Try.prog 14 #[.slice o l.length cap, .int .u64 (id : Int)] w fun e w' => e = .returned (.tuple #[rv ((its l id).getD zr), .int .i64 (if (its l id).isSome = true then 0 else 100)]) ∧ Below w.heap.size w w' := by
  have hmx := ((rightL_iff l).1 h).1
  have hbn := below_new w (.cells #[.int .u64 0, .int .u32 0, .int .u32 0, .string ⟨#[]⟩] 27)
  have HC : Hid _ := eright_any l o cap _ (hr.below hbn (Nat.le_refl _))
  rw [h] at HC
  have HBn : Hid _ := hbn
  have HR : Hid (RowsAt w o cap l) := hr
  have HG : Hid _ := heap_alloc_new w (.cells #[.int .u64 0, .int .u32 0, .int .u32 0, .string ⟨#[]⟩] 27)
  clear hr h hbn
  obtain ⟨V, hV⟩ : ∃ V, rv ((its l id).getD zr) = V := ⟨_, rfl⟩
  obtain ⟨E, hE⟩ : ∃ E : Int, (if (its l id).isSome = true then 0 else 100) = E := ⟨_, rfl⟩
  rw [hV, hE]
  have HV : Hid (rv ((its l id).getD zr) = V) := hV
  have HE : Hid ((if (its l id).isSome = true then (0 : Int) else 100) = E) := hE
  clear hV hE
  go_enter Try.func14, Try.ntmps14
  go_wp2_with fail
  refine Calls.mono HC.out ?_
  rintro e W1 ⟨rfl, b1⟩
  have HB1 : Hid (Below w.heap.size w W1) := HBn.out.trans (b1.mono (by simp))
  have HG1 : Hid (W1.heap[w.heap.size]? = some (.cells #[.int .u64 0, .int .u32 0, .int .u32 0, .string ⟨#[]⟩] 27 (0, 0))) := (b1.block _ (by simp)).trans HG.out
  have HS1 : Hid (w.heap.size < W1.heap.size) := (Array.getElem?_eq_some_iff.1 HG1.out).1
  clear b1 HC HBn HG
  go_wp2_with fail
  go_loopw [7] (fun i wr => ∃ k : Nat, k ≤ l.length ∧ i = .int .i64 (k : Int) ∧ (∀ j, j < k → (rat l j).id ≠ id) ∧ Below W1.heap.size W1 wr) (fun i _ => l.length - natOf i)
  case atStart => exact ⟨0, by omega, rfl, fun j hj => absurd hj (by omega), Below.refl _ _⟩
  case round =>
    obtain ⟨k, hk, rfl, hj, hb⟩ := hrel
    have HJ : Hid (∀ j, j < k → (rat l j).id ≠ id) := hj
    have HB2 : Hid (Below w.heap.size w wr) := HB1.out.trans (hb.mono HB1.out.size)
    have HBk : Hid (Below W1.heap.size W1 wr) := hb
    have hg : wr.heap[w.heap.size]? = some (.cells #[.int .u64 0, .int .u32 0, .int .u32 0, .string ⟨#[]⟩] 27 (0, 0)) := (hb.block _ HS1.out).trans HG1.out
    obtain ⟨z0, z1, z2, z3, f0, f1, f2, f3⟩ := row_facts hg
    clear hj hb
    by_cases hlt : k < l.length
    · obtain ⟨b, off, rfl, hbl, hc⟩ := (HR.out.below HB2.out (Nat.le_refl _)).row hlt
      have q1 : (k : Int) < (l.length : Int) := by omega
      have k0 : (0 : Int) ≤ (k : Int) := by omega
      have k1 : (k : Int) + 1 ≤ 9223372036854775807 := by omega
      by_cases hid : (rat l k).id = id
      · have HI : Hid _ := its_atk hlt hid HJ.out
        obtain ⟨c0, c1, c2, c3⟩ := hc k hlt
        generalize rat l k = r at *
        obtain ⟨rid, x, y, v⟩ := r
        simp only at hid c0 c1 c2 c3
        subst hid
        obtain ⟨p1, _, p3⟩ := put_row hg (.int .u64 (rid : Int)) (.int .u32 (x : Int)) (.int .u32 (y : Int)) (.string v)
        have HP1 : Hid _ := p1
        have HP3 : Hid _ := HB2.out.trans (p3 w.heap.size (Nat.le_refl _))
        clear p1 p3 hg hc HBk HJ
        go_wp2_with fail
        refine bodyPost_ret (results_rowE rfl _ _ _ _ _ _ _ _ rfl rfl HP1.out) rfl ⟨?_, HP3.out⟩
        rw [← HV.out, ← HE.out, HI.out]
        rfl
      · have HN : Hid ((rat l k).id ≠ id) := hid
        obtain ⟨c0, -, -, -⟩ := hc k hlt
        have HEn : Hid (∀ rid, (rat l k).id = rid → rid ≠ id) := fun rid e => e ▸ hid
        obtain ⟨rid, hrid⟩ : ∃ rid, (rat l k).id = rid := ⟨_, rfl⟩
        rw [hrid] at c0
        have hne := HEn.out rid hrid
        have q2 : ((rid : Int) == (id : Int)) = false := by simp; omega
        clear hc hg hrid HEn
        go_wp2_with fail
        refine ⟨⟨k + 1, by omega, rfl, ?_, HBk.out⟩, ?_⟩
        · intro j hj
          by_cases e : j = k
          · subst e; exact HN.out
          · exact HJ.out j (by omega)
        · simp only [natOf]; omega
    · have hkl : k = l.length := by omega
      subst hkl
      have HI : Hid _ := its_nilk HJ.out
      obtain ⟨p1, _, p3⟩ := put_row hg (.int .u64 0) (.int .u32 0) (.int .u32 0) (.string ⟨#[]⟩)
      have HP1 : Hid _ := p1
      have HP3 : Hid _ := HB2.out.trans (p3 w.heap.size (Nat.le_refl _))
      have q1 : ¬ (l.length : Int) < (l.length : Int) := by omega
      clear p1 p3 hg HBk HJ
      go_wp2_with fail
      refine bodyPost_ret (results_rowE rfl _ _ _ _ _ _ _ _ rfl rfl HP1.out) rfl ⟨?_, HP3.out⟩
      rw [← HV.out, ← HE.out, HI.out]
      rfl
set_option maxRecDepth 100000 in
theorem hget_any (o : Option Addr) (cap : Nat) (l : List Rw) (id : Nat) (w : World) (hr : RowsAt w o cap l) :
    Calls Try.prog 14 #[.slice o l.length cap, .int .u64 (id : Int)] w fun e w' => e = .returned (.tuple #[rv (getV l id), .int .i64 (getE l id)]) ∧ Below w.heap.size w w' := by
  cases h : rightL l with
  | false =>
    have := hget_no o cap l id w hr h
    simpa only [getV, getE, h, Bool.false_eq_true, if_false] using this
  | true =>
    have := hget_ok o cap l id w hr h
    simpa only [getV, getE, h, if_true] using this
#print axioms hget_any
end Go.Proofs.Ythneciodobeehaa.Rp
