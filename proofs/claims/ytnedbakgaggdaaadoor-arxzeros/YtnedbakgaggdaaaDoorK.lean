import Derived.Test.YtnedbakgaggdaaaDoorJ
namespace Go.Proofs.YtnedbakgaggdaaaDoor
open Go.RowKit
theorem bts_length (g : Nat → Int) (k : Nat) : (bts g k).length = 4 * k := by
  induction k with
  | zero => rfl
  | succ k ih => rw [bts_succ, List.length_append, ih]; simp [b4]; omega
theorem blkS_size (key : ByteArray) (c : Int) (nonce : ByteArray) : (blkS key c nonce).size = 64 := by
  unfold blkS; rw [strOfNums_size, bts_length]
theorem bts_take (g : Nat → Int) (k : Nat) : ∃ r, bts g (k + 2) = b4 (g 0) ++ b4 (g 1) ++ r := by
  induction k with
  | zero => exact ⟨[], by rw [bts_succ, bts_succ]; simp [bts, cat]⟩
  | succ k ih => obtain ⟨r, hr⟩ := ih; exact ⟨r ++ b4 (g (k + 2)), by rw [bts_succ, hr]; simp⟩
theorem known8 : (blkS K32 1 N12).extract 0 8 = ⟨#[16, 241, 231, 228, 209, 59, 89, 21]⟩ := by
  obtain ⟨r, hr⟩ := bts_take (blk (stt K32 1 N12)) 14
  apply ByteArray.ext
  unfold blkS
  rw [hr, known0, known1]
  rw [ByteArray.data_extract]
  apply Array.toList_inj.1
  rw [Array.toList_extract]
  show ((strOfNums (b4 3840405776 ++ b4 358169553 ++ r)).data.toList.extract 0 8) = _
  rw [strOfNums_data]
  simp [b4]
theorem eq1 (a b : Int) (w : World) : (Op.equalIn 9999 22 (.int .u32 a) (.int .u32 b)).run Tryd.prog w = .ok (a == b) w := by kernel_rfl
/-- Two arrays of the same four words are the same. -/
theorem eq4 (a b c d : Int) (w : World) : (Op.equalIn 10000 24 (.agg #[.int .u32 a, .int .u32 b, .int .u32 c, .int .u32 d]) (.agg #[.int .u32 a, .int .u32 b, .int .u32 c, .int .u32 d])).run Tryd.prog w = .ok true w := by
  unfold Op.equalIn
  have hr : List.range' 0 4 = [0, 1, 2, 3] := rfl
  simp [go_sem, hr, eq1]
theorem rising32 (w : World) : Calls Tryd.prog 17 #[.int .i64 32] w fun e w' => e = .returned (.string K32) ∧ Below w.heap.size w w' := rising_any 32 (by omega) w
theorem K32_size : K32.size = 32 := by unfold K32; rw [strOfNums_size, upto_length]
theorem two_new (w : World) (a b : Obj) : ((w.alloc a).alloc b).heap[w.heap.size + 1]? = some b ∧ ((w.alloc a).alloc b).heap.size = w.heap.size + 1 + 1 ∧ Below w.heap.size w ((w.alloc a).alloc b) := by
  refine ⟨?_, by simp, ((Below.refl _ w).alloc (Nat.le_refl _) _).alloc (by simp) _⟩
  simpa using heap_alloc_new (w.alloc a) b
set_option maxHeartbeats 1000000 in
theorem shown_any (w : World) {tt : TypeId} {fr : Nat × Nat} (hg : w.heap[0]? = some (.cells tab tt fr)) :
    Calls Tryd.prog 9 #[] w fun e w' => e = .returned (.bool true) ∧ Below w.heap.size w w' := by
  have hw0 : 0 < w.heap.size := (Array.getElem?_eq_some_iff.1 hg).1
  have HG : Hid _ := hg
  clear hg
  have q1 : qa 286331153 16909060 2609737539 19088743 = 3928658676 := by decide +kernel
  have q2 : qb 286331153 16909060 2609737539 19088743 = 3407673550 := by decide +kernel
  have q3 : qc 286331153 16909060 2609737539 19088743 = 1166100270 := by decide +kernel
  have q4 : qd 286331153 16909060 2609737539 19088743 = 1484899515 := by decide +kernel
  go_enter Tryd.func9, Tryd.ntmps9
  go_wp2_with fail
  refine (quarter_any _ _ _ _ _).mono ?_
  rintro e w1 ⟨rfl, hw1⟩
  rw [q1, q2, q3, q4] at hw1 ⊢
  clear q1 q2 q3 q4
  subst hw1
  go_wp2_with fail
  obtain ⟨W0, hW0⟩ : ∃ W0, (w.alloc (.cells #[.int .u32 3928658676, .int .u32 3407673550, .int .u32 1166100270, .int .u32 1484899515] 24)).alloc (.cells #[.int .u32 3928658676, .int .u32 3407673550, .int .u32 1166100270, .int .u32 1484899515] 24) = W0 := ⟨_, rfl⟩
  have f2 := two_new w (.cells #[.int .u32 3928658676, .int .u32 3407673550, .int .u32 1166100270, .int .u32 1484899515] 24) (.cells #[.int .u32 3928658676, .int .u32 3407673550, .int .u32 1166100270, .int .u32 1484899515] 24)
  rw [hW0] at f2 ⊢
  clear hW0
  obtain ⟨hq, hsz, hB0⟩ := f2
  refine (rising32 _).mono ?_
  rintro e w2 ⟨rfl, hb2⟩
  have hq2 := (hb2.block _ (by omega)).trans hq
  have hB2 := hB0.trans (hb2.mono hB0.size)
  have hs2 : w.heap.size + 1 < w2.heap.size := (Array.getElem?_eq_some_iff.1 hq2).1
  have HQ : Hid _ := hq2
  clear hq hq2 hsz hB0 hb2
  go_wp2_with fail
  refine (Block_yes _ _ _ _ K32_size (by rfl) ((hB2.block 0 hw0).trans HG.out)).mono ?_
  rintro e w3 ⟨rfl, hb3⟩
  have hq3 := (hb3.block _ hs2).trans HQ.out
  have hB3 := hB2.trans (hb3.mono hB2.size)
  have c0 : w3.cell? ⟨w.heap.size + 1, 0, none⟩ = some (.int .u32 3928658676) := by rw [cell_of_row _ _ _ _ _ _ hq3]; rfl
  have c1 : w3.cell? ⟨w.heap.size + 1, 1, none⟩ = some (.int .u32 3407673550) := by rw [cell_of_row _ _ _ _ _ _ hq3]; rfl
  have c2 : w3.cell? ⟨w.heap.size + 1, 2, none⟩ = some (.int .u32 1166100270) := by rw [cell_of_row _ _ _ _ _ _ hq3]; rfl
  have c3 : w3.cell? ⟨w.heap.size + 1, 3, none⟩ = some (.int .u32 1484899515) := by rw [cell_of_row _ _ _ _ _ _ hq3]; rfl
  have k8 : (blkS K32 1 ⟨#[0, 0, 0, 9, 0, 0, 0, 74, 0, 0, 0, 0]⟩).extract 0 8 = ⟨#[16, 241, 231, 228, 209, 59, 89, 21]⟩ := known8
  have ks := blkS_size K32 1 ⟨#[0, 0, 0, 9, 0, 0, 0, 74, 0, 0, 0, 0]⟩
  generalize blkS K32 1 ⟨#[0, 0, 0, 9, 0, 0, 0, 74, 0, 0, 0, 0]⟩ = bs at *
  have he4 := eq4 3928658676 3407673550 1166100270 1484899515
  clear hq3 hB2 hb3 HQ hs2
  go_wp2
  go_ret
  exact ⟨rfl, hB3⟩
end Go.Proofs.YtnedbakgaggdaaaDoor
