/- A Summer's length, what is written to it, and its sum. -/
import Derived.Test.YtmlechalhldlhaaDoorK
namespace Go.Proofs.YtmlechalhldlhaaDoor
open Go.RowKit Go.Lib
theorem bt_nums (l : List Int) (h : ∀ j, 0 ≤ l.getD j 0 ∧ l.getD j 0 < 256) (j : Nat) (hj : j < l.length) : bt (strOfNums l) j = l.getD j 0 := by
  have := h j
  rw [List.getD_eq_getElem?_getD] at this ⊢
  unfold bt strOfNums
  rw [List.getElem?_eq_getElem hj] at this ⊢
  simp only [Option.getD_some] at this ⊢
  simp only [List.getElem?_toArray, List.getElem?_map, List.getElem?_eq_getElem hj, Option.map_some, Option.getD_some]
  rw [UInt8.toNat_ofNat']
  omega
theorem lay_one (Kt iv m : Nat → Int) (hm : ∀ j, 0 ≤ m j ∧ m j < 256) (g L : Nat) (s : ByteArray) (w : World) (t : TypeId) {tt : TypeId} {fr : Nat × Nat} (hK : w.heap[1]? = some (.cells (w64 Kt) tt fr)) (hg1 : g ≠ 1)
    (hL : L + s.size ≤ 1099511627776) (ht : Told Kt iv m w g L) (hb : ∀ j, j < s.size → bt s j = m (L + j)) :
    Calls Tryd.prog 41 #[.pointer (some ⟨g, 0, none⟩), .slice (some ⟨w.heap.size, 0, none⟩) 1 1] (w.alloc (.cells #[.string s] t)) fun e w' => e = .returned (.tuple #[]) ∧ Told Kt iv m w' g (L + s.size) ∧ w.grownBy w' (some g) := by
  have hgl : g < w.heap.size := by obtain ⟨r, h1, _⟩ := ht; exact (Array.getElem?_eq_some_iff.1 h1).1
  have h1l : 1 < w.heap.size := (Array.getElem?_eq_some_iff.1 hK).1
  have hbl : Below w.heap.size w (w.alloc (.cells #[.string s] t)) := (Below.refl _ w).alloc (Nat.le_refl _) _
  refine (callsIn_wide.1 (lay_in Kt iv m hm g L 1 1 (some ⟨w.heap.size, 0, none⟩) (fun _ => s) (w.alloc (.cells #[.string s] t)) ((hbl.block 1 h1l).trans hK) hg1 (by simpa [offs] using hL) (by decide) (by obtain ⟨r, h1, h2⟩ := ht; exact ⟨r, (hbl.block g hgl).trans h1, h2⟩) ?_)).mono ?_
  · intro i hi
    obtain rfl : i = 0 := by omega
    exact ⟨⟨w.heap.size, 0, rfl, by omega, by simp, by rw [cell_of_row _ _ _ _ _ _ (heap_alloc_new w _)]; rfl⟩, fun j hj => by simpa [offs] using hb j hj⟩
  · rintro e w' ⟨rfl, h1, h2⟩
    refine ⟨rfl, by simpa [offs] using h1, ⟨h2.os, h2.tape, h2.output, Nat.le_trans (by simp) h2.size, fun k hk hne => (h2.block k (by simp; omega) hne).trans (hbl.block k hk)⟩⟩
theorem Told.below {Kt iv m : Nat → Int} {W W' : World} {g L B : Nat} (ht : Told Kt iv m W g L) (hb : Below B W W') (hg : g < B) : Told Kt iv m W' g L := by
  obtain ⟨r, h1, h2⟩ := ht
  exact ⟨r, (hb.block g hg).trans h1, h2⟩
theorem sm_one (f r : Nat → Int) (c : Int) : (sm f r c).all (·.oneCell') = true := by
  rw [Array.all_eq_true]
  intro i hi
  simp only [sm, Array.getElem_ofFn]
  split
  · rfl
  · split <;> rfl
/-- What the filling does to a copy. -/
theorem lay_fil (Kt iv m : Nat → Int) (hm : ∀ j, 0 ≤ m j ∧ m j < 256) (g L : Nat) (w : World) (t : TypeId) {tt : TypeId} {fr : Nat × Nat} (hK : w.heap[1]? = some (.cells (w64 Kt) tt fr)) (hg1 : g ≠ 1)
    (hL : L ≤ 1000000000000) (ht : Told Kt iv m w g L) :
    Calls Tryd.prog 41 #[.pointer (some ⟨g, 0, none⟩), .slice (some ⟨w.heap.size, 0, none⟩) 1 1] (w.alloc (.cells #[.string (strOfNums (fil L))] t)) fun e w' => e = .returned (.tuple #[]) ∧ (∃ r c, w'.heap[g]? = some (.cells (sm (hs Kt iv (mf m L) ((L + (fil L).length) / 64)) r c) 79 (0, 0))) ∧ w.grownBy w' (some g) := by
  have hsz : (strOfNums (fil L)).size = (fil L).length := strOfNums_size _
  have hle := fil_le L
  refine (lay_one Kt iv (mf m L) (mf_byte hm L) g L (strOfNums (fil L)) w t hK hg1 (by omega) (ht.congr fun j hj => by simp [mf, hj]) fun j hj => ?_).mono ?_
  · rw [bt_nums _ (fil_byte L) j (by omega)]
    unfold mf
    rw [if_neg (by omega), show L + j - L = j by omega]
  · rintro e w' ⟨rfl, ⟨r, h1, _⟩, h2⟩
    rw [hsz] at h1
    exact ⟨rfl, ⟨r, _, h1⟩, h2⟩
/-- The operation alloc, by its run. -/
theorem list_alloc {P : Program} {ops : Array Oper} {rest : List Oper} {o : Oper} {a : Act} {w : World} {Q : Exit → Act → World → Prop} (hgd : o.guard = none) (t : TypeId) (ho : o.op = .alloc t)
    {v' : Value} {w' : World} (hrun : (Instr.alloc t true (.tuple #[])).run P w = .ok v' w') (h : wpList P ops Q rest (a.put o.dst v') w') : wpList P ops Q (o :: rest) a w :=
  wpList_plain hgd fun _ hK => by
    unfold Oper.wp execOp
    simp only [ho, Sem.run_bind, Sem.run_pure, Result.andThen_ok, hrun]
    exact hK _ _ h
theorem run_alloc (w : World) : (Instr.alloc 79 true (.tuple #[])).run Tryd.prog w = .ok (.pointer (some ⟨w.heap.size, 0, none⟩)) (w.alloc (.cells (sm (fun _ => 0) (fun _ => 0) 0) 79)) := by kernel_rfl
set_option maxHeartbeats 1000000 in
theorem sum_any (Kt iv m : Nat → Int) (hm : ∀ j, 0 ≤ m j ∧ m j < 256) (g L : Nat) (w : World) {tt : TypeId} {fr : Nat × Nat} (hK : w.heap[1]? = some (.cells (w64 Kt) tt fr))
    (hL : L ≤ 1000000000000) (ht : Told Kt iv m w g L) :
    Calls Tryd.prog 42 #[.pointer (some ⟨g, 0, none⟩)] w fun e w' => e = .returned (.string (strOfNums (dig Kt iv m L))) ∧ Below w.heap.size w w' := by
  have h1l : 1 < w.heap.size := (Array.getElem?_eq_some_iff.1 hK).1
  obtain ⟨r, h1, h2⟩ := ht
  have hgl : g < w.heap.size := (Array.getElem?_eq_some_iff.1 h1).1
  obtain ⟨f, hf⟩ : ∃ f, hs Kt iv m (L / 64) = f := ⟨_, rfl⟩
  have H1 : Hid (w.heap[g]? = some (.cells (sm f r (L : Int)) 79 (0, 0))) := by rw [← hf]; exact h1
  have H2 : Hid (∀ j, j < L % 64 → r j = m (64 * (L / 64) + j)) := h2
  have HF : Hid (hs Kt iv m (L / 64) = f) := hf
  have HK : Hid (w.heap[1]? = some (.cells (w64 Kt) tt fr)) := hK
  have HM : Hid (∀ j, 0 ≤ m j ∧ m j < 256) := hm
  clear h1 h2 hf hK hm
  have z0 : (0 : Int) ≤ (L : Int) := by omega
  go_enter Tryd.func42, Tryd.ntmps42
  obtain ⟨W2, hW2, r2, b2, s2⟩ := new_row w (sm (fun _ => 0) (fun _ => 0) 0) 79 (sm f r (L : Int))
  have E2 : Hid _ := hW2
  have R2 : Hid (W2.heap[w.heap.size]? = some (.cells (sm f r (L : Int)) 79 (0, 0))) := r2
  have B2 : Hid (Below w.heap.size w W2) := b2
  have S2 : Hid (W2.heap.size = w.heap.size + 1) := s2
  clear hW2 r2 b2 s2
  go_wp2_with (first
    | (refine wpList_load_row rfl 79 _ rfl g rfl 79 _ (0, 0) _ H1.out Tryd.underlying79 rfl (by rw [sm_size]; kernel_rfl) ?_
       refine list_alloc rfl 79 rfl (run_alloc w) ?_
       refine wpList_store_row rfl 79 _ _ rfl w.heap.size (sm f r (L : Int)) rfl rfl 79 _ (heap_alloc_new w _) (by rw [sm_size]; kernel_rfl) (by rw [sm_size, sm_size]) (sm_one _ _ _) ?_
       rw [E2.out]
       have cc : W2.cell? ⟨g, 72, none⟩ = some (.int .i64 (L : Int)) := by rw [cell_of_row _ _ _ _ _ _ ((B2.out.block g hgl).trans H1.out), sm_c]))
  refine (filling_any L (by omega) W2).mono ?_
  rintro e W3 ⟨rfl, b3⟩
  have hs2 := S2.out
  have hsz3 : w.heap.size + 1 ≤ W3.heap.size := by have := b3.size; omega
  have B3 : Hid (Below w.heap.size w W3) := B2.out.trans (b3.mono (by omega))
  have T3 : Hid (Told Kt iv m W3 w.heap.size L) := ⟨r, by rw [HF.out]; exact (b3.block _ (by omega)).trans R2.out, H2.out⟩
  have LF : ∀ t, Hid (Calls Tryd.prog 41 #[.pointer (some ⟨w.heap.size, 0, none⟩), .slice (some ⟨W3.heap.size, 0, none⟩) 1 1] (W3.alloc (.cells #[.string (strOfNums (fil L))] t)) fun e w' => e = .returned (.tuple #[]) ∧ (∃ r c, w'.heap[w.heap.size]? = some (.cells (sm (hs Kt iv (mf m L) ((L + (fil L).length) / 64)) r c) 79 (0, 0))) ∧ W3.grownBy w' (some w.heap.size)) := fun t =>
    lay_fil Kt iv m HM.out w.heap.size L W3 t ((B3.out.block 1 h1l).trans HK.out) (by omega) hL T3.out
  clear b3 hs2 cc T3 H1 H2 HF HK HM R2 S2 E2 B2
  have HD : Hid (dig Kt iv m L = bw (hs Kt iv (mf m L) ((L + (fil L).length) / 64)) 8) := rfl
  generalize hs Kt iv (mf m L) ((L + (fil L).length) / 64) = F at *
  generalize strOfNums (fil L) = sf at *
  go_wp2_with fail
  refine (LF _).out.mono ?_
  rintro e W4 ⟨rfl, ⟨r4, c4, h4⟩, g4⟩
  have B4 : Hid (Below w.heap.size w W4) := B3.out.grown g4 (by omega) (fun k e => by cases e; exact Nat.le_refl _)
  have H4 : Hid (W4.heap[w.heap.size]? = some (.cells (sm F r4 c4) 79 (0, 0))) := h4
  clear h4 g4 LF B3
  go_wp2_with (first
    | (refine wpList_load_mid rfl 75 _ rfl w.heap.size 0 rfl (st8 F).toList _ (sm_range H4.out) Tryd.underlying75 rfl (by kernel_rfl) ?_))
  refine (text_any F W4).mono ?_
  rintro e W5 ⟨rfl, b5⟩
  have B5 : Hid (Below w.heap.size w W5) := B4.out.trans (b5.mono B4.out.size)
  clear b5 B4 H4
  go_wp2_with fail
  go_ret
  exact ⟨by rw [HD.out]; rfl, B5.out⟩
end Go.Proofs.YtmlechalhldlhaaDoor
