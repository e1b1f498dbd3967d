/- Get. -/
import Derived.Test.YthneciodobeehaaPTB
namespace Go.Proofs.Ythneciodobeehaa.Rp
open Go.RowKit Go.Lib
open Go.Proofs.Ythneciodobeehaa.Rc Go.Proofs.Ythneciodobeehaa.Rq
set_option maxRecDepth 100000 in
set_option maxHeartbeats 2000000 in
theorem get_no (o : Option Addr) (cap : Nat) (l : List Rw) (id : Nat) (w : World) (hr : RowsAt w o cap l) (h : rightL l = false) :
    Calls Try.prog 12 #[.slice o l.length cap, .int .u64 (id : Int)] w fun e w' => e = .returned (.tuple #[rv zr, .int .i64 80]) ∧ Below w.heap.size w w' := by
  have hbn := below_new w (.cells #[.int .u64 0, .int .u32 0, .int .u32 0, .string ⟨#[]⟩] 27)
  have HC : Hid _ := qright_any l o cap _ (hr.below hbn (Nat.le_refl _))
  rw [h] at HC
  have HBn : Hid _ := hbn
  have HG : Hid _ := heap_alloc_new w (.cells #[.int .u64 0, .int .u32 0, .int .u32 0, .string ⟨#[]⟩] 27)
  clear hr h hbn
  go_enter Try.func12, Try.ntmps12
  go_wp2_with fail
  refine Calls.mono HC.out ?_
  rintro e W1 ⟨rfl, b1⟩
  have hg : W1.heap[w.heap.size]? = some (.cells #[.int .u64 0, .int .u32 0, .int .u32 0, .string ⟨#[]⟩] 27 (0, 0)) := (b1.block _ (by simp)).trans HG.out
  have HB1 : Hid (Below w.heap.size w W1) := HBn.out.trans (b1.mono (by simp))
  obtain ⟨z0, z1, z2, z3, f0, f1, f2, f3⟩ := row_facts hg
  obtain ⟨p1, _, p3⟩ := put_row hg (.int .u64 0) (.int .u32 0) (.int .u32 0) (.string ⟨#[]⟩)
  have HP1 : Hid _ := p1
  have HP3 : Hid _ := HB1.out.trans (p3 w.heap.size (Nat.le_refl _))
  clear p1 p3 b1 HC hg
  go_wp2_with fail
  refine bodyPost_ret (results_rowE rfl _ _ _ _ _ _ _ _ rfl rfl HP1.out) rfl ⟨rfl, HP3.out⟩
set_option maxRecDepth 100000 in
set_option maxHeartbeats 2000000 in
theorem get_ok (o : Option Addr) (cap : Nat) (l : List Rw) (id : Nat) (w : World) (hr : RowsAt w o cap l) (h : rightL l = true) :
    Calls Try.prog 12 #[.slice o l.length cap, .int .u64 (id : Int)] w fun e w' => e = .returned (.tuple #[rv ((its l id).getD zr), .int .i64 (if (its l id).isSome = true then 0 else 100)]) ∧ Below w.heap.size w w' := by
  have hri := right_rise h
  have hmx := ((rightL_iff l).1 h).1
  have hbn := below_new w (.cells #[.int .u64 0, .int .u32 0, .int .u32 0, .string ⟨#[]⟩] 27)
  have HC : Hid _ := qright_any l o cap _ (hr.below hbn (Nat.le_refl _))
  rw [h] at HC
  have HBn : Hid _ := hbn
  have HR : Hid (RowsAt w o cap l) := hr
  have HG : Hid _ := heap_alloc_new w (.cells #[.int .u64 0, .int .u32 0, .int .u32 0, .string ⟨#[]⟩] 27)
  have HP : Hid (∀ W, RowsAt W o cap l → _) := fun W hW => place_any o cap l id W hmx hri hW
  have hle := low_le l id
  by_cases hc : lowTo l id < l.length ∧ (rat l (lowTo l id)).id = id
  · have hi := its_some hc.1 hc.2
    rw [hi]
    simp only [Option.getD_some, Option.isSome_some, if_true]
    generalize lowTo l id = p at *
    obtain ⟨b, off, rfl, -, -⟩ := hr.row hc.1
    have HF : Hid (∀ W, Below w.heap.size w W → Fr W b (off + p * 4) (rat l p)) := fun W hW => by
      obtain ⟨b', off', e, -, hf⟩ := (hr.below hW (Nat.le_refl _)).row hc.1
      cases e
      exact hf p hc.1
    have hid := hc.2
    have hp : p < l.length := hc.1
    generalize rat l p = r at *
    obtain ⟨rid, x, y, v⟩ := r
    simp only at hid
    subst hid
    have q0 : ((p : Int) == (l.length : Int)) = false := by simp; omega
    have q1 : (p : Int) < (l.length : Int) := by omega
    have q2 : (0 : Int) ≤ (p : Int) := by omega
    clear hr h hbn hi hc hri hle hmx
    go_enter Try.func12, Try.ntmps12
    go_wp2_with fail
    refine Calls.mono HC.out ?_
    rintro e W1 ⟨rfl, b1⟩
    have HB1 : Hid (Below w.heap.size w W1) := HBn.out.trans (b1.mono (by simp))
    have HG1 : Hid (W1.heap[w.heap.size]? = some (.cells #[.int .u64 0, .int .u32 0, .int .u32 0, .string ⟨#[]⟩] 27 (0, 0))) := (b1.block _ (by simp)).trans HG.out
    have HS1 : Hid (w.heap.size < W1.heap.size) := (Array.getElem?_eq_some_iff.1 HG1.out).1
    clear b1 HC
    go_wp2_with fail
    refine Calls.mono (HP.out W1 (HR.out.below HB1.out (Nat.le_refl _))) ?_
    rintro e W2 ⟨rfl, b2⟩
    have HB2 : Hid (Below w.heap.size w W2) := HB1.out.trans (b2.mono HB1.out.size)
    have hg : W2.heap[w.heap.size]? = some (.cells #[.int .u64 0, .int .u32 0, .int .u32 0, .string ⟨#[]⟩] 27 (0, 0)) := (b2.block _ HS1.out).trans HG1.out
    obtain ⟨z0, z1, z2, z3, f0, f1, f2, f3⟩ := row_facts hg
    obtain ⟨c0, c1, c2, c3⟩ := HF.out W2 HB2.out
    simp only at c0 c1 c2 c3
    obtain ⟨p1, _, p3⟩ := put_row hg (.int .u64 (rid : Int)) (.int .u32 (x : Int)) (.int .u32 (y : Int)) (.string v)
    have HP1 : Hid _ := p1
    have HP3 : Hid _ := HB2.out.trans (p3 w.heap.size (Nat.le_refl _))
    clear p1 p3 b2 hg HP
    go_wp2_with fail
    refine bodyPost_ret (results_rowE rfl _ _ _ _ _ _ _ _ rfl rfl HP1.out) rfl ⟨rfl, HP3.out⟩
  · have hi := its_none hri (id := id) (by
      by_cases c : lowTo l id = l.length
      · exact .inl c
      · exact .inr fun e => hc ⟨by omega, e⟩)
    rw [hi]
    simp only [Option.getD_none, Option.isSome_none, zr]
    generalize lowTo l id = p at *
    have HGO : Hid (∀ W, Below w.heap.size w W → p < l.length → ∃ b off rid, o = some ⟨b, off, none⟩ ∧ rid ≠ id ∧ W.cell? ⟨b, off + p * 4, none⟩ = some (.int .u64 (rid : Int))) := fun W hW hlt => by
      obtain ⟨b', off', e, -, hf⟩ := (hr.below hW (Nat.le_refl _)).row hlt
      exact ⟨b', off', (rat l p).id, e, fun e => hc ⟨hlt, e⟩, (hf p hlt).1⟩
    clear hr h hbn hi hc hri hmx
    go_enter Try.func12, Try.ntmps12
    go_wp2_with fail
    refine Calls.mono HC.out ?_
    rintro e W1 ⟨rfl, b1⟩
    have HB1 : Hid (Below w.heap.size w W1) := HBn.out.trans (b1.mono (by simp))
    have HG1 : Hid (W1.heap[w.heap.size]? = some (.cells #[.int .u64 0, .int .u32 0, .int .u32 0, .string ⟨#[]⟩] 27 (0, 0))) := (b1.block _ (by simp)).trans HG.out
    have HS1 : Hid (w.heap.size < W1.heap.size) := (Array.getElem?_eq_some_iff.1 HG1.out).1
    clear b1 HC
    go_wp2_with fail
    refine Calls.mono (HP.out W1 (HR.out.below HB1.out (Nat.le_refl _))) ?_
    rintro e W2 ⟨rfl, b2⟩
    have HB2 : Hid (Below w.heap.size w W2) := HB1.out.trans (b2.mono HB1.out.size)
    have hg : W2.heap[w.heap.size]? = some (.cells #[.int .u64 0, .int .u32 0, .int .u32 0, .string ⟨#[]⟩] 27 (0, 0)) := (b2.block _ HS1.out).trans HG1.out
    obtain ⟨z0, z1, z2, z3, f0, f1, f2, f3⟩ := row_facts hg
    obtain ⟨p1, _, p3⟩ := put_row hg (.int .u64 0) (.int .u32 0) (.int .u32 0) (.string ⟨#[]⟩)
    have HP1 : Hid _ := p1
    have HP3 : Hid _ := HB2.out.trans (p3 w.heap.size (Nat.le_refl _))
    clear p1 p3 b2 hg HP
    by_cases hpl : p = l.length
    · have q0 : ((p : Int) == (l.length : Int)) = true := by simp; omega
      clear hle hpl
      go_wp2_with fail
      refine bodyPost_ret (results_rowE rfl _ _ _ _ _ _ _ _ rfl rfl HP1.out) rfl ⟨rfl, HP3.out⟩
    · obtain ⟨b, off, rid, rfl, hne, c0⟩ := HGO.out W2 HB2.out (by omega)
      have q0 : ((p : Int) == (l.length : Int)) = false := by simp; omega
      have q1 : (p : Int) < (l.length : Int) := by omega
      have q2 : (0 : Int) ≤ (p : Int) := by omega
      have q3 : ((rid : Int) == (id : Int)) = false := by simp; omega
      clear hle hpl hne
      go_wp2_with fail
      refine bodyPost_ret (results_rowE rfl _ _ _ _ _ _ _ _ rfl rfl HP1.out) rfl ⟨rfl, HP3.out⟩
set_option maxRecDepth 100000 in
theorem get_any (o : Option Addr) (cap : Nat) (l : List Rw) (id : Nat) (w : World) (hr : RowsAt w o cap l) :
    Calls Try.prog 12 #[.slice o l.length cap, .int .u64 (id : Int)] w fun e w' => e = .returned (.tuple #[rv (getV l id), .int .i64 (getE l id)]) ∧ Below w.heap.size w w' := by
  unfold getV getE
  cases h : rightL l
  · exact get_no o cap l id w hr h
  · exact get_ok o cap l id w hr h
end Go.Proofs.Ythneciodobeehaa.Rp
