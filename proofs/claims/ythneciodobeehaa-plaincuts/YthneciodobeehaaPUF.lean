/- PlainCuts. -/
import Derived.Test.YthneciodobeehaaPUB
import Derived.Test.YthneciodobeehaaPUC
import Derived.Test.YthneciodobeehaaPTZ
namespace Go.Proofs.Ythneciodobeehaa.Rp
open Go.RowKit Go.Lib
open Go.Proofs.Ythneciodobeehaa.Rc Go.Proofs.Ythneciodobeehaa.Rq
set_option maxRecDepth 100000 in
theorem run_tailO (o : Option Addr) (n cap k : Nat) (w : World) (hk : k ≤ n) : (Instr.sliceAt 39 (.slice o n cap) (some (.int .i64 (k : Int))) none none).run Try.prog w = .ok (.slice (if cap = k then o else o.map (·.add (k * 5))) (n - k) (cap - k)) w := by
  have h1 : (k : Int) ≤ (n : Int) := by omega
  simp [Instr.sliceAt, Instr.slice, run_underlying Try.underlying39, go_sem]
  intro h
  omega
set_option maxRecDepth 100000 in
theorem ops_drop {w : World} {o : Option Addr} {cap : Nat} {l : List Ch} (h : OpsAt w o cap l) {k : Nat} (hk : k ≤ l.length) : OpsAt w (if cap = k then o else o.map (·.add (k * 5))) (cap - k) (l.drop k) := by
  have hl : (l.drop k).length = l.length - k := List.length_drop
  have h1 := h.1
  have h2 := h.2.1
  refine ⟨by omega, by omega, fun e => ?_, flat_len oc 5 (fun _ => rfl) _, fun hn => ?_⟩
  · by_cases hc : cap = k
    · omega
    · rw [if_neg hc] at e
      have : o = none := by cases o with | none => rfl | some a => simp at e
      have := h.2.2.1 this
      omega
  · obtain ⟨b, off, e, hlt, hc⟩ := h.2.2.2.2 (by omega)
    have hck : ¬ cap = k := by omega
    rw [if_neg hck, e]
    refine ⟨b, off + k * 5, ?_, hlt, fun j u hu => ?_⟩
    · simp [Addr.add]
    · have e2 : l.flatMap oc = (l.take k).flatMap oc ++ (l.drop k).flatMap oc := by rw [← List.flatMap_append, List.take_append_drop]
      have e3 : ((l.take k).flatMap oc).length = k * 5 := by rw [flat_len oc 5 (fun _ => rfl), List.length_take]; congr 1; omega
      have := hc (k * 5 + j) u (by rw [e2, List.getElem?_append_right (by omega), e3, Nat.add_sub_cancel_left]; exact hu)
      rwa [← Nat.add_assoc] at this
set_option maxRecDepth 100000 in
theorem btA_le (l : List Rw) (cs : List Ch) : btA l cs ≤ cs.length := by
  unfold btA
  split
  · split
    · omega
    · split
      · rename_i i h
        unfold fb at h
        have := List.mem_of_find?_eq_some h
        simp only [List.mem_range] at this
        omega
      · omega
  · omega
set_option maxRecDepth 100000 in
set_option maxHeartbeats 4000000 in
theorem plainCuts_walk (l : List Rw) (cs : List Ch) (i : Int) (o : Option Addr) (cap : Nat) (oo : Option Addr) (ccap : Nat) (w : World) (hr : RowsAt w o cap l) (hc : OpsAt w oo ccap cs) : Calls Try.prog 8 #[.slice o l.length cap, .slice oo cs.length ccap, .int .i64 i] w fun e w' => e = .returned (.bool true) ∧ Below w.heap.size w w' := by
  obtain ⟨L, hL⟩ : ∃ L, l.take 60 = L := ⟨_, rfl⟩
  have HF : Hid (∀ W, RowsAt W o cap l → Calls Try.prog 13 #[.slice o l.length cap] W fun e w' => e = .returned (.slice o L.length cap) ∧ w' = W) := fun W hW => by rw [← hL]; exact few_any l o cap W hW
  have HR0 : Hid (RowsAt w o cap l) := hr
  have HR : Hid (RowsAt w o cap L) := by rw [← hL]; exact hr.head 60
  obtain ⟨C, hC⟩ : ∃ C, cs.take 64 = C := ⟨_, rfl⟩
  have HO : Hid (OpsAt w oo ccap C) := by rw [← hC]; exact hc.head 64
  have hC2 : C.length = min 64 cs.length := by rw [← hC, List.length_take]
  have hC3 : C.length ≤ 64 := by omega
  have hmin : (if (64 : Int) < (cs.length : Int) then (64 : Int) else (cs.length : Int)) = (C.length : Int) := by split <;> omega
  have hcc := hc.1
  have hcn := hc.2.2.1
  have hCc : C.length ≤ ccap := by omega
  have hrun := fun w => run_headO oo cs.length ccap C.length w (by omega) hcn
  clear hL hC hr hC2 hcc hc
  go_enter Try.func8, Try.ntmps8
  go_wp2_with fail
  refine (pshown_any _).mono ?_
  rintro e w1 ⟨rfl, b1⟩
  have HB1 : Hid (Below w.heap.size w w1) := b1
  clear b1
  go_wp2_with fail
  refine (HF.out _ (HR0.out.below HB1.out (Nat.le_refl _))).mono ?_
  rintro e w9 ⟨rfl, hw9⟩
  have hw9' := hw9.symm
  clear hw9
  subst hw9'
  by_cases a1 : i < 1
  · have t1 : decide (i < 1) = true := decide_eq_true a1
    go_wp2_with (refine list_min rfl 3 3 (.tmp 22) (.const (.int .i64 64)) rfl rfl rfl hmin ?_)
    go_ret
    exact ⟨rfl, HB1.out⟩
  have t1 : decide (i < 1) = false := decide_eq_false a1
  by_cases a2 : (C.length : Int) ≤ i
  · have t2 : decide ((C.length : Int) ≤ i) = true := decide_eq_true a2
    have t3 : decide (i < (C.length : Int)) = false := decide_eq_false (by omega)
    go_wp2_with (refine list_min rfl 3 3 (.tmp 22) (.const (.int .i64 64)) rfl rfl rfl hmin ?_)
    go_ret
    exact ⟨rfl, HB1.out⟩
  have t2 : decide ((C.length : Int) ≤ i) = false := decide_eq_false a2
  have t3 : decide (i < (C.length : Int)) = true := decide_eq_true (by omega)
  have HQ : Hid (∀ _ : True, _) := fun _ => qright_any L o cap w1 (HR.out.below HB1.out (Nat.le_refl _))
  go_wp2_with (refine list_min rfl 3 3 (.tmp 22) (.const (.int .i64 64)) rfl rfl rfl hmin ?_)
  refine Calls.mono (HQ.out trivial) ?_
  rintro e w2 ⟨rfl, b2⟩
  have HB2 : Hid (Below w.heap.size w w2) := HB1.out.trans (b2.mono HB1.out.size)
  clear b2 HQ HB1
  cases hL1 : rightL L with
  | false =>
    go_wp2_with fail
    go_ret
    exact ⟨rfl, HB2.out⟩
  | true =>
    obtain ⟨n, rfl⟩ : ∃ n : Nat, i = (n : Int) := ⟨i.toNat, by omega⟩
    have hn1 : 1 ≤ n := by omega
    have hn2 : n < C.length := by omega
    have HP : Hid _ := cuts_plain (l := L) (cs := C) (n := n) hL1 hn1 hn2 hC3
    have ht : (C.take n).length = n := by rw [List.length_take]; omega
    have hd : (C.drop n).length = C.length - n := List.length_drop
    have hrun2 := fun w => run_headO oo C.length ccap n w (by omega) hcn
    have hrun3 := fun w => run_tailO oo C.length ccap n w (by omega)
    have HA : Hid (∀ W, RowsAt W o cap L → OpsAt W oo ccap C → _) := fun W hW hO => batch_any o cap L oo ccap C W hW hO
    have HT : Hid (∀ W, RowsAt W o cap L → OpsAt W oo ccap C → Calls Try.prog 18 #[.slice o L.length cap, .slice oo n ccap] W (BP (btL L (C.take n)) (btA L (C.take n)) (btE L (C.take n)) W)) := fun W hW hO => by
      have := batch_any o cap L oo ccap (C.take n) W hW (hO.head n)
      rwa [ht] at this
    have hsz := btA_le (btL L (C.take n)) (C.drop n)
    rw [hd] at hsz
    have HD : Hid (∀ W o' cap', RowsAt W o' cap' (btL L (C.take n)) → OpsAt W oo ccap C → Calls Try.prog 18 #[.slice o' (btL L (C.take n)).length cap', .slice (if ccap = n then oo else oo.map (·.add (n * 5))) (C.length - n) (ccap - n)] W (BP (btL (btL L (C.take n)) (C.drop n)) (btA (btL L (C.take n)) (C.drop n)) (btE (btL L (C.take n)) (C.drop n)) W)) := fun W o' cap' hW hO => by
      have := batch_any o' cap' (btL L (C.take n)) _ _ (C.drop n) W hW (ops_drop hO (by omega))
      rwa [hd] at this
    generalize (if ccap = n then oo else oo.map (·.add (n * 5))) = o5 at *
    generalize btL (btL L (C.take n)) (C.drop n) = DL at *
    generalize btA (btL L (C.take n)) (C.drop n) = DA at *
    generalize btE (btL L (C.take n)) (C.drop n) = DE at *
    generalize btL L (C.take n) = TL at *
    generalize btA L (C.take n) = TA at *
    generalize btE L (C.take n) = TE at *
    generalize btL L C = AL at *
    generalize btA L C = AA at *
    generalize btE L C = AE at *
    clear hL1 ht hd hCc hcn hrun a1 a2 t1 t2 t3 hmin
    go_wp2_with fail
    refine Calls.mono (HA.out _ (HR.out.below HB2.out (Nat.le_refl _)) (Sl.below HO.out HB2.out (Nat.le_refl _))) ?_
    rintro e w3 ⟨o3, cap3, rfl, hr3, b3⟩
    have HB3 : Hid (Below w.heap.size w w3) := HB2.out.trans (b3.mono HB2.out.size)
    have HX3 : Hid (RowsAt w3 o3 cap3 AL) := hr3
    clear b3 hr3 HA HB2
    go_wp2_with fail
    refine Calls.mono (HT.out _ (HR.out.below HB3.out (Nat.le_refl _)) (Sl.below HO.out HB3.out (Nat.le_refl _))) ?_
    rintro e w4 ⟨o4, cap4, rfl, hr4, b4⟩
    have HB4 : Hid (Below w.heap.size w w4) := HB3.out.trans (b4.mono HB3.out.size)
    have HX4 : Hid (RowsAt w4 o3 cap3 AL) := HX3.out.below b4 (Nat.le_refl _)
    have HY4 : Hid (RowsAt w4 o4 cap4 TL) := hr4
    clear b4 hr4 HT HB3 HX3
    have HDO : Hid (OpsAt w4 oo ccap C) := Sl.below HO.out HB4.out (Nat.le_refl _)
    rcases HP.out with ⟨h1, h2, h3, h4⟩ | ⟨h0, h1, h2, h3, h4⟩ | ⟨h0, h1, h2, h3, h4⟩
    · have hE1 : decide (TE = 0) = false := decide_eq_false h1
      have hE2 : (TE == 0) = false := by simpa using h1
      have hE3 : (TE != 0) = true := by simpa using h1
      obtain ⟨n1, n2⟩ := len_zero h4
      subst h2 h3
      clear HP HD h1 h4
      go_wp2_with fail
      go_ret
      exact ⟨rfl, HB4.out⟩
    · subst h0
      have hE1 : decide (DE = 0) = false := decide_eq_false h1
      have hE2 : (DE == 0) = false := by simpa using h1
      have hE3 : (DE != 0) = true := by simpa using h1
      obtain ⟨n1, n2⟩ := len_zero h4
      subst h2 h3
      clear HP h1 h4
      go_wp2_with fail
      refine Calls.mono (HD.out _ _ _ HY4.out HDO.out) ?_
      rintro e w5 ⟨o6, cap6, rfl, hr5, b5⟩
      have HB5 : Hid (Below w.heap.size w w5) := HB4.out.trans (b5.mono HB4.out.size)
      have hw : IntKind.i64.wrap ((DA : Int) + (n : Int)) = ((DA + n : Nat) : Int) := by rw [wrap_i64 (by omega) (by omega)]; omega
      clear b5 hr5 HD HB4
      go_wp2_with fail
      go_ret
      exact ⟨rfl, HB5.out⟩
    · subst h0 h1 h2 h3
      clear HP
      go_wp2_with fail
      refine Calls.mono (HD.out _ _ _ HY4.out HDO.out) ?_
      rintro e w5 ⟨o6, cap6, rfl, hr5, b5⟩
      have HB5 : Hid (Below w.heap.size w w5) := HB4.out.trans (b5.mono HB4.out.size)
      have HS : Hid (∀ _ : True, _) := fun _ => rsame_any AL DL o3 cap3 o6 cap6 w5 (HX4.out.below b5 (Nat.le_refl _)) hr5
      rw [h4] at HS
      clear b5 hr5 HD HB4 HX4 h4
      go_wp2_with fail
      refine Calls.mono (HS.out trivial) ?_
      rintro e w6 ⟨rfl, b6⟩
      have HB6 : Hid (Below w.heap.size w w6) := HB5.out.trans (b6.mono HB5.out.size)
      clear b6 HS
      go_wp2_with fail
      go_ret
      exact ⟨rfl, HB6.out⟩
end Go.Proofs.Ythneciodobeehaa.Rp
