/- How texts are cut makes no difference to a mac: the walk. -/
import Derived.Test.YtdpmocgcpbjhiaaDoorUg
namespace Go.Proofs.YtdpmocgcpbjhiaaDoor
open Go.RowKit Go.Lib
/-- A list's beginning, by its run. -/
theorem list_cut {P : Program} {ops : Array Oper} {rest : List Oper} {o : Oper} {a : Act} {w : World} {Q : Exit → Act → World → Prop} (hgd : o.guard = none) {t : TypeId} (x y : Operand) (ho : o.op = .slice t x none (some y) none)
    {vs vh v' : Value} (hx : a.eval x = vs) (hy : a.eval y = vh) (hrun : (Instr.sliceAt t vs none (some vh) none).run P w = .ok v' w) (h : wpList P ops Q rest (a.put o.dst v') w) : wpList P ops Q (o :: rest) a w :=
  wpList_plain hgd fun _ hK => by
    unfold Oper.wp execOp
    simp only [ho, Sem.run_bind, Sem.run_pure, Result.andThen_ok, Option.map_none, Option.map_some, hx, hy, hrun]
    exact hK _ _ h
set_option maxHeartbeats 4000000 in
/-- How texts are cut makes no difference to a mac. -/
theorem macCuts_walk (key : ByteArray) (o : Option Addr) (len cap : Nat) (hlc : len ≤ cap) (ho : o = none → len = 0 ∧ cap = 0) (ts : Nat → ByteArray) (w : World)
    (hsl : ∀ n : Nat, n ≤ cap → ∀ w : World, (Instr.sliceAt 33 (.slice o len cap) none (some (.int .i64 (n : Int))) none).run Tryd.prog w = .ok (.slice o n cap) w)
    (hts : ∀ i, i < len → (∃ b off, o = some ⟨b, off, none⟩ ∧ b < w.heap.size ∧ w.cell? ⟨b, off + i, none⟩ = some (.string (ts i))) ∧ (ts i).size ≤ 140737488355328) {tt : TypeId} {fr : Nat × Nat} (hK : w.heap[1]? = some (.cells (w64 (lf KL)) tt fr)) :
    Calls Tryd.prog 7 #[.string key, .slice o len cap] w fun e w' => e = .returned (.bool true) ∧ Below w.heap.size w w' := by
  have h1l : 1 < w.heap.size := (Array.getElem?_eq_some_iff.1 hK).1
  have HK : Hid (w.heap[1]? = some (.cells (w64 (lf KL)) tt fr)) := hK
  have HTS : Hid (∀ i, i < len → (∃ b off, o = some ⟨b, off, none⟩ ∧ b < w.heap.size ∧ w.cell? ⟨b, off + i, none⟩ = some (.string (ts i))) ∧ (ts i).size ≤ 140737488355328) := hts
  have HO : Hid (o = none → len = 0 ∧ cap = 0) := ho
  obtain ⟨n, hn, hn1, hn2⟩ : ∃ n : Nat, (if (20 : Int) < (len : Int) then (20 : Int) else (len : Int)) = (n : Int) ∧ n ≤ len ∧ n ≤ 20 := by
    by_cases h : 20 < len
    · exact ⟨20, by rw [if_pos (by omega)]; rfl, by omega, by omega⟩
    · exact ⟨len, by rw [if_neg (by omega)], by omega, by omega⟩
  have HN : Hid ((if (20 : Int) < (len : Int) then (20 : Int) else (len : Int)) = (n : Int)) := hn
  have SL : Hid (∀ w : World, (Instr.sliceAt 33 (.slice o len cap) none (some (.int .i64 (n : Int))) none).run Tryd.prog w = .ok (.slice o n cap) w) := hsl n (by omega)
  obtain ⟨t, r, hr, hrs, hrt, hks⟩ := cut_is key 500
  have CA : Hid (∀ w, Calls Tryd.prog 11 #[.string key] w fun e w' => e = .returned (.string t) ∧ w' = w) := cut_any key t r hr hrs hrt
  have HKS : Hid (t.size ≤ 500) := hks
  clear hK hts ho hn hsl hr hrs hrt hks
  go_enter Tryd.func7, Tryd.ntmps7
  go_wp2_with fail
  refine (shown_any w HK.out).mono ?_
  rintro e w1 ⟨rfl, b1⟩
  have B1 : Hid (Below w.heap.size w w1) := b1
  clear b1
  go_wp2_with (first
    | (refine list_min rfl 3 3 (.tmp 12) (.const (.int .i64 20)) rfl (p := (len : Int)) (q := 20) rfl rfl HN.out ?_)
    | (refine list_cut rfl (.tmp 10) (.tmp 13) rfl (vs := .slice o len cap) (vh := .int .i64 (n : Int)) rfl rfl (SL.out _) ?_))
  have CL : Hid (∀ i, i < n → (∃ b off, o = some ⟨b, off, none⟩ ∧ b < w1.heap.size ∧ w1.cell? ⟨b, off + i, none⟩ = some (.string (ts i))) ∧ (ts i).size ≤ 140737488355328) := fun i hi => by
    obtain ⟨⟨b, off, h1, h2, h3⟩, h4⟩ := HTS.out i (by omega)
    exact ⟨⟨b, off, h1, Nat.lt_of_lt_of_le h2 B1.out.size, (cell_same (B1.out.block b h2) _).trans h3⟩, h4⟩
  have HO2 : Hid (o = none → n = 0 ∧ cap = 0) := fun h => by have := HO.out h; omega
  clear HTS HO SL HN
  go_loopw [6, 7] (fun v i wr => ∃ j : Nat, j ≤ n ∧ v = .string (catS ts j) ∧ offs ts j ≤ 2000 ∧ i = .int .i64 (j : Int) ∧ wr = w1) (fun _ i _ => n - (intOf i).toNat)
  case atStart => exact ⟨0, by omega, rfl, by simp [offs], rfl, rfl⟩
  case round =>
    obtain ⟨j, hj, rfl, hof, rfl, hwr⟩ := hrel
    subst hwr
    have hcs := catS_size ts j
    obtain ⟨A, hA⟩ : ∃ A, catS ts j = A := ⟨_, rfl⟩
    have HA : Hid (catS ts j = A) := hA
    rw [hA] at hcs ⊢
    have j0 : (0 : Int) ≤ (j : Int) := by omega
    have hAs : (A.size : Int) ≤ 2000 := by omega
    clear hA
    by_cases hlt : j < n
    · have j1 : (j : Int) < (n : Int) := by omega
      obtain ⟨⟨b, off, hob, hbw, c1⟩, c2⟩ := CL.out j hlt
      subst hob
      obtain ⟨T, hT⟩ : ∃ T, ts j = T := ⟨_, rfl⟩
      have HTj : Hid (ts j = T) := hT
      rw [hT] at c1 c2
      have hTs : (T.size : Int) ≤ 140737488355328 := by omega
      have HOF : Hid (offs ts (j + 1) = A.size + T.size) := by rw [hcs, ← hT]; rfl
      clear hT
      by_cases hbig : 2000 < A.size + T.size
      · have g1 : (2000 : Int) < (A.size : Int) + (T.size : Int) := by omega
        go_wp2_with fail
        go_ret
        exact ⟨rfl, B1.out⟩
      · have g1 : (A.size : Int) + (T.size : Int) ≤ 2000 := by omega
        go_wp2_with fail
        go_roundw
        case rel => exact ⟨j + 1, hlt, by rw [← HTj.out, ← HA.out]; rfl, by rw [HOF.out]; omega, by go_num, trivial⟩
        case measure => simp [intOf]; omega
    · obtain rfl : j = n := by omega
      have a0 : ¬ (j : Int) < (j : Int) := by omega
      have hA2 : A.size ≤ 2000 := by omega
      have hks := HKS.out
      go_wp2_with fail
      refine (CA.out wr).mono ?_
      rintro e w2 ⟨rfl, h2⟩
      have h2' := h2.symm
      clear h2
      subst h2'
      have MN : ∀ T, Hid (Calls Tryd.prog 10 #[.string t, .slice (some ⟨wr.heap.size, 0, none⟩) 1 1] (wr.alloc (.cells #[.string A] T)) fun e w' => e = .returned (.string (macS (lf KL) t A)) ∧ Below wr.heap.size wr w') := fun T =>
        mac_new (lf KL) t (by omega) 1 (by decide) #[.string A] T (fun _ => A) A (by apply ByteArray.ext; simp [catS]) (by omega) (fun i hi => by
          match i, hi with
          | 0, _ => rfl) wr ((B1.out.block 1 h1l).trans HK.out)
      go_wp2_with fail
      refine (MN _).out.mono ?_
      rintro e w2 ⟨rfl, b2⟩
      have B2 : Hid (Below w.heap.size w w2) := B1.out.trans (b2.mono B1.out.size)
      have CL2 : Hid (∀ i, i < j → ∃ b off, o = some ⟨b, off, none⟩ ∧ b < w2.heap.size ∧ w2.cell? ⟨b, off + i, none⟩ = some (.string (ts i))) := fun i hi => by
        obtain ⟨⟨b, off, h1, h2, h3⟩, _⟩ := CL.out i hi
        exact ⟨b, off, h1, Nat.lt_of_lt_of_le h2 b2.size, (cell_same (b2.block b h2) _).trans h3⟩
      have hDs := macS_size (lf KL) t A
      obtain ⟨D, hD⟩ : ∃ D, macS (lf KL) t A = D := ⟨_, rfl⟩
      have HD : Hid (macS (lf KL) t A = D) := hD
      rw [hD] at hDs ⊢
      clear hD b2 B1 CL MN
      go_wp2_with fail
      refine (CA.out w2).mono ?_
      rintro e w3 ⟨rfl, h3⟩
      have h3' := h3.symm
      clear h3
      subst h3'
      go_wp2_with fail
      refine (mac_any (lf KL) t (by omega) j cap o HO2.out ts A HA.out w2 ((B2.out.block 1 h1l).trans HK.out) (by omega) (by omega) CL2.out).mono ?_
      rintro e w3 ⟨rfl, b3⟩
      have B3 : Hid (Below w.heap.size w w3) := B2.out.trans (b3.mono B2.out.size)
      rw [HD.out]
      clear b3 B2 CL2
      go_wp2_with fail
      refine (CA.out w3).mono ?_
      rintro e w4 ⟨rfl, h4⟩
      have h4' := h4.symm
      clear h4
      subst h4'
      have MN : ∀ T, Hid (Calls Tryd.prog 10 #[.string t, .slice (some ⟨w3.heap.size, 0, none⟩) 2 2] (w3.alloc (.cells #[.string A, .string ⟨#[]⟩] T)) fun e w' => e = .returned (.string (macS (lf KL) t A)) ∧ Below w3.heap.size w3 w') := fun T =>
        mac_new (lf KL) t (by omega) 2 (by decide) #[.string A, .string ⟨#[]⟩] T (fun i => if i = 0 then A else ⟨#[]⟩) A (by apply ByteArray.ext; simp [catS]) (by omega) (fun i hi => by
          match i, hi with
          | 0, _ => rfl
          | 1, _ => rfl) w3 ((B3.out.block 1 h1l).trans HK.out)
      go_wp2_with fail
      refine (MN _).out.mono ?_
      rintro e w4 ⟨rfl, b4⟩
      have B4 : Hid (Below w.heap.size w w4) := B3.out.trans (b4.mono B3.out.size)
      rw [HD.out]
      clear b4 B3 MN
      go_wp2_with fail
      go_ret
      exact ⟨rfl, B4.out⟩
theorem slice_some (b off len cap n : Nat) (hn : n ≤ cap) (w : World) : (Instr.sliceAt 33 (.slice (some ⟨b, off, none⟩) len cap) none (some (.int .i64 (n : Int))) none).run Tryd.prog w = .ok (.slice (some ⟨b, off, none⟩) n cap) w := by
  have h1 : (n : Int) ≤ (cap : Int) := by omega
  obtain ⟨i0, hi, hz0, hz1, hz2⟩ := info_parts info9
  simp [Instr.sliceAt, Instr.slice, run_underlying Tryd.underlying33, go_sem, sizeOf, typeInfo, hi]
  intro h
  omega
theorem slice_nil (a : Option Addr) (n : Nat) (hn : n ≤ 0) (w : World) : (Instr.sliceAt 33 (.slice a 0 0) none (some (.int .i64 (n : Int))) none).run Tryd.prog w = .ok (.slice a n 0) w := by
  obtain rfl : n = 0 := by omega
  cases a <;> kernel_rfl
end Go.Proofs.YtdpmocgcpbjhiaaDoor
