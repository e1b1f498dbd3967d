/- PlainBatches. -/
import Derived.Test.YthneciodobeehaaPTP
import Derived.Test.YthneciodobeehaaPTX
import Derived.Test.YthneciodobeehaaPFW
namespace Go.Proofs.Ythneciodobeehaa.Rp
open Go.RowKit Go.Lib
open Go.Proofs.Ythneciodobeehaa.Rc Go.Proofs.Ythneciodobeehaa.Rq
set_option maxRecDepth 100000 in
theorem run_headO (o : Option Addr) (n cap r : Nat) (w : World) (hr : r ≤ cap) (ho : o = none → cap = 0) : (Instr.sliceAt 39 (.slice o n cap) none (some (.int .i64 (r : Int))) none).run Try.prog w = .ok (.slice o r cap) w := by
  have h1 : (r : Int) ≤ (cap : Int) := by omega
  cases o with
  | none =>
    have := ho rfl
    subst this
    obtain rfl : r = 0 := by omega
    simp [Instr.sliceAt, Instr.slice, run_underlying Try.underlying39, go_sem]
  | some a =>
    simp [Instr.sliceAt, Instr.slice, run_underlying Try.underlying39, go_sem]
    intro h
    omega
set_option maxRecDepth 100000 in
theorem OpsAt.head {w : World} {o : Option Addr} {cap : Nat} {l : List Ch} (h : OpsAt w o cap l) (n : Nat) : OpsAt w o cap (l.take n) := by
  have hle : (l.take n).length ≤ l.length := by rw [List.length_take]; omega
  refine ⟨Nat.le_trans hle h.1, h.2.1, h.2.2.1, flat_len oc 5 (fun _ => rfl) _, fun hn => ?_⟩
  obtain ⟨b, off, e, hlt, hc⟩ := h.2.2.2.2 (by omega)
  refine ⟨b, off, e, hlt, fun j u hu => hc j u ?_⟩
  have : l.flatMap oc = (l.take n).flatMap oc ++ (l.drop n).flatMap oc := by rw [← List.flatMap_append, List.take_append_drop]
  rw [this, List.getElem?_append_left (List.getElem?_eq_some_iff.1 hu).1]
  exact hu
set_option maxRecDepth 100000 in
set_option maxHeartbeats 4000000 in
theorem plainBatches_walk (l : List Rw) (cs : List Ch) (o : Option Addr) (cap : Nat) (oo : Option Addr) (ccap : Nat) (w : World) (hr : RowsAt w o cap l) (hc : OpsAt w oo ccap cs) : Calls Try.prog 5 #[.slice o l.length cap, .slice oo cs.length ccap] w fun e w' => e = .returned (.bool true) ∧ Below w.heap.size w w' := by
  obtain ⟨L, hL⟩ : ∃ L, l.take 60 = L := ⟨_, rfl⟩
  have HF : Hid (∀ W, RowsAt W o cap l → Calls Try.prog 13 #[.slice o l.length cap] W fun e w' => e = .returned (.slice o L.length cap) ∧ w' = W) := fun W hW => by rw [← hL]; exact few_any l o cap W hW
  have HR0 : Hid (RowsAt w o cap l) := hr
  have HR : Hid (RowsAt w o cap L) := by rw [← hL]; exact hr.head 60
  obtain ⟨C, hC⟩ : ∃ C, cs.take 70 = C := ⟨_, rfl⟩
  have HO : Hid (OpsAt w oo ccap C) := by rw [← hC]; exact hc.head 70
  have hC2 : C.length = min 70 cs.length := by rw [← hC, List.length_take]
  have hmin : (if (70 : Int) < (cs.length : Int) then (70 : Int) else (cs.length : Int)) = (C.length : Int) := by split <;> omega
  have hcc := hc.1
  have hrun := fun w => run_headO oo cs.length ccap C.length w (by omega) hc.2.2.1
  clear hL hC hr hC2 hcc hc
  have HA : Hid (∀ W, RowsAt W o cap L → OpsAt W oo ccap C → _) := fun W hW hO => batch_any o cap L oo ccap C W hW hO
  have HC : Hid (∀ W, RowsAt W o cap L → OpsAt W oo ccap C → _) := fun W hW hO => hbatch_any o cap L oo ccap C W hW hO
  generalize btL L C = AL at *
  generalize btA L C = AA at *
  generalize btE L C = E at *
  have HQ : Hid (eqL eqR AL AL = true) := (eqL_iff eqR eqR_iff AL AL).2 rfl
  go_enter Try.func5, Try.ntmps5
  go_wp2_with fail
  refine (pshown_any _).mono ?_
  rintro e w1 ⟨rfl, b1⟩
  have HB1 : Hid (Below w.heap.size w w1) := b1
  clear b1
  go_wp2_with (refine list_min rfl 3 3 (.tmp 15) (.const (.int .i64 70)) rfl rfl rfl hmin ?_)
  refine (HF.out _ (HR0.out.below HB1.out (Nat.le_refl _))).mono ?_
  rintro e w9 ⟨rfl, hw9⟩
  have hw9' := hw9.symm
  clear hw9
  subst hw9'
  go_wp2_with fail
  refine Calls.mono (HA.out _ (HR.out.below HB1.out (Nat.le_refl _)) (Sl.below HO.out HB1.out (Nat.le_refl _))) ?_
  rintro e w2 ⟨o2, cap2, rfl, hr2, b2⟩
  have HB2 : Hid (Below w.heap.size w w2) := HB1.out.trans (b2.mono HB1.out.size)
  have HX2 : Hid (RowsAt w2 o2 cap2 AL) := hr2
  clear b2 hr2 HA HB1
  go_wp2_with fail
  refine (HF.out _ (HR0.out.below HB2.out (Nat.le_refl _))).mono ?_
  rintro e w9 ⟨rfl, hw9⟩
  have hw9' := hw9.symm
  clear hw9
  subst hw9'
  go_wp2_with fail
  refine Calls.mono (HC.out _ (HR.out.below HB2.out (Nat.le_refl _)) (Sl.below HO.out HB2.out (Nat.le_refl _))) ?_
  rintro e w3 ⟨o3, cap3, rfl, hr3, b3⟩
  have HB3 : Hid (Below w.heap.size w w3) := HB2.out.trans (b3.mono HB2.out.size)
  have HS : Hid (∀ _ : True, _) := fun _ => rsame_any AL AL o2 cap2 o3 cap3 w3 (HX2.out.below b3 (Nat.le_refl _)) hr3
  rw [HQ.out] at HS
  clear b3 hr3 HC HX2 HB2
  go_wp2_with fail
  refine Calls.mono (HS.out trivial) ?_
  rintro e w4 ⟨rfl, b4⟩
  have HB4 : Hid (Below w.heap.size w w4) := HB3.out.trans (b4.mono HB3.out.size)
  clear b4 HS
  go_wp2_with fail
  go_ret
  exact ⟨rfl, HB4.out⟩
#print axioms plainBatches_walk
end Go.Proofs.Ythneciodobeehaa.Rp
