/- Plain: a text's sum, by its bytes alone. -/
import Derived.Test.YtheheaflebkipaaGreatDoorQG
import Derived.Test.YtheheaflebkipaaGreatDoorPJ
import Derived.Laws.BitsAllLaws
import Derived.RegionTactic
import Derived.Deep.QuietTactic
import Derived.BigQuiet
import Derived.Maps.AppendAt
import Derived.OrdersHeld
namespace Go.Proofs.YtheheaflebkipaaGreatDoor
open Go.RowKit
theorem hs_congr {Kt iv m m' : Nat → Int} (k : Nat) (h : ∀ j, j < 64 * k → m j = m' j) : hs Kt iv m k = hs Kt iv m' k := by
  induction k with
  | zero => rfl
  | succ k ih => unfold hs; rw [ih (fun j hj => h j (by omega)), chg_congr (q' := fun j => m' (64 * k + j)) (fun j hj => h _ (by omega))]
theorem fil_length (n : Nat) : (fil n).length = 9 + nz n := by simp [fil, upto]; omega
theorem fil_le (n : Nat) : (fil n).length ≤ 72 := by rw [fil_length]; unfold nz; omega
theorem fil_byte (n j : Nat) : 0 ≤ (fil n).getD j 0 ∧ (fil n).getD j 0 < 256 := by
  have hall : ∀ x ∈ fil n, 0 ≤ x ∧ x < 256 := by
    intro x hx
    unfold fil at hx
    rcases List.mem_cons.1 hx with rfl | hx
    · decide
    · rcases List.mem_append.1 hx with hx | hx
      · rw [(List.mem_replicate.1 hx).2]; decide
      · obtain ⟨j, _, rfl⟩ := List.mem_map.1 hx
        exact ⟨Int.emod_nonneg _ (by decide), Int.emod_lt_of_pos _ (by decide)⟩
  rw [List.getD_eq_getElem?_getD]
  by_cases h : j < (fil n).length
  · rw [List.getElem?_eq_getElem h]; exact hall _ (List.getElem_mem h)
  · rw [List.getElem?_eq_none (by omega)]; decide
/-- A filled message: its first L bytes, and the filling behind. -/
def mf (m : Nat → Int) (L : Nat) : Nat → Int := fun j => if j < L then m j else (fil L).getD (j - L) 0
theorem mf_byte {m : Nat → Int} (hm : ∀ j, 0 ≤ m j ∧ m j < 256) (L j : Nat) : 0 ≤ mf m L j ∧ mf m L j < 256 := by
  unfold mf
  split
  · exact hm j
  · exact fil_byte _ _
/-- The sum of a message's first L bytes. -/
def dig (Kt iv m : Nat → Int) (L : Nat) : List Int := bw (hs Kt iv (mf m L) ((L + (fil L).length) / 64)) 8
theorem dig_length (Kt iv m : Nat → Int) (L : Nat) : (dig Kt iv m L).length = 32 := by unfold dig; rw [bw_length]
/-- The bytes of a told message do not hang on what is behind it. -/
theorem Told.congr {Kt iv m m' : Nat → Int} {W : World} {g L : Nat} (ht : Told Kt iv m W g L) (h : ∀ j, j < L → m j = m' j) : Told Kt iv m' W g L := by
  obtain ⟨r, h1, h2⟩ := ht
  refine ⟨r, ?_, fun j hj => (h2 j hj).trans (h _ (by omega))⟩
  rw [← hs_congr (L / 64) (fun j hj => h j (by omega))]; exact h1
end Go.Proofs.YtheheaflebkipaaGreatDoor
/- The words that a sum begins with; a Summer of nothing. -/
namespace Go.Proofs.YtheheaflebkipaaGreatDoor
open Go.RowKit Go.Lib
set_option maxRecDepth 100000 in
theorem begin_any (w : World) : Calls Tryz.prog 187 #[] w fun e w' => e = .returned (.agg (st8 (lf IV))) ∧ Below w.heap.size w w' := by
  go_enter Tryz.func187, Tryz.ntmps187
  obtain ⟨W2, hW2, r2, b2, s2⟩ := new_row w #[.int .u32 0, .int .u32 0, .int .u32 0, .int .u32 0, .int .u32 0, .int .u32 0, .int .u32 0, .int .u32 0] 220 (st8 (lf IV))
  have E2 : Hid _ := hW2
  have R2 : Hid _ := r2
  have B2 : Hid _ := b2
  clear hW2 r2 b2 s2
  go_wp2_with (refine wpList_store_row rfl 220 _ _ rfl w.heap.size (st8 (lf IV)) rfl rfl 220 _ (heap_alloc_new w _) (by kernel_rfl) rfl (st8_one _) ?_; rw [E2.out])
  refine bodyPost_ret (results_cell_row Tryz.results187 _ _ w.heap.size 220 _ (0, 0) _ rfl R2.out Tryz.underlying220 rfl (by kernel_rfl)) rfl ⟨rfl, B2.out⟩
set_option maxRecDepth 100000 in
/-- The operation build, by its run. -/
theorem list_build {P : Program} {ops : Array Oper} {rest : List Oper} {o : Oper} {a : Act} {w : World} {Q : Exit → Act → World → Prop} (hgd : o.guard = none) (t : TypeId) (i : Nat) (x : Operand) (ho : o.op = .build t #[(i, x)])
    {vx v' : Value} (hx : a.eval x = vx) (hrun : (Instr.build t #[(i, vx)]).run P w = .ok v' w) (h : wpList P ops Q rest (a.put o.dst v') w) : wpList P ops Q (o :: rest) a w :=
  wpList_plain hgd fun _ hK => by
    unfold Oper.wp execOp
    simp only [ho, Sem.run_bind, Sem.run_pure, Result.andThen_ok, List.map_toArray, List.map_cons, List.map_nil, hx, hrun]
    exact hK _ _ h
set_option maxRecDepth 100000 in
theorem list_box {P : Program} {ops : Array Oper} {rest : List Oper} {o : Oper} {a : Act} {w : World} {Q : Exit → Act → World → Prop} (hgd : o.guard = none) (t : TypeId) (x : Operand) (ho : o.op = .box t x)
    {vx v' : Value} {w' : World} (hx : a.eval x = vx) (hrun : (Instr.box t vx).run P w = .ok v' w') (h : wpList P ops Q rest (a.put o.dst v') w') : wpList P ops Q (o :: rest) a w :=
  wpList_plain hgd fun _ hK => by
    unfold Oper.wp execOp
    simp only [ho, Sem.run_bind, Sem.run_pure, Result.andThen_ok, hx, hrun]
    exact hK _ _ h
set_option maxRecDepth 100000 in
theorem run_build (f : Nat → Int) (w : World) : (Instr.build 224 #[(0, .agg (st8 f))]).run Tryz.prog w = .ok (.agg (sm f (fun _ => 0) 0)) w := by kernel_rfl
set_option maxRecDepth 100000 in
theorem run_box (f r : Nat → Int) (c : Int) (w : World) : (Instr.box 224 (.agg (sm f r c))).run Tryz.prog w = .ok (.pointer (some ⟨w.heap.size, 0, none⟩)) (w.alloc (.cells (sm f r c) 224)) := by kernel_rfl
set_option maxRecDepth 100000 in
theorem new_any (w : World) : Calls Tryz.prog 173 #[] w fun e w' => ∃ g, w.heap.size ≤ g ∧ e = .returned (.pointer (some ⟨g, 0, none⟩)) ∧ w'.heap[g]? = some (.cells (sm (lf IV) (fun _ => 0) 0) 224 (0, 0)) ∧ Below w.heap.size w w' := by
  have BA := begin_any
  generalize lf IV = f at *
  go_enter Tryz.func173, Tryz.ntmps173
  go_wp2_with fail
  refine (BA _).mono ?_
  rintro e w' ⟨rfl, hb⟩
  rename_i hK
  refine hK _ _ ?_
  refine list_build rfl 224 0 (.tmp 1) rfl (vx := .agg (st8 f)) rfl (run_build f w') ?_
  refine list_box rfl 224 (.tmp 2) rfl (vx := .agg (sm f (fun _ => 0) 0)) rfl (run_box f _ 0 w') ?_
  have F1 : Hid ((w'.alloc (.cells (sm f (fun _ => 0) 0) 224)).heap[w'.heap.size]? = some (.cells (sm f (fun _ => 0) 0) 224 (0, 0))) := heap_alloc_new w' _
  have F2 : Hid (Below w.heap.size w (w'.alloc (.cells (sm f (fun _ => 0) 0) 224))) := hb.alloc hb.size _
  have F3 : Hid (w.heap.size ≤ w'.heap.size) := hb.size
  generalize w'.alloc (.cells (sm f (fun _ => 0) 0) 224) = W at *
  generalize w'.heap.size = g at *
  clear hK
  go_wp2_with fail
  go_ret
  exact ⟨_, F3.out, rfl, F1.out, F2.out⟩
end Go.Proofs.YtheheaflebkipaaGreatDoor
/- A Summer's length, what is written to it, and its sum. -/
namespace Go.Proofs.YtheheaflebkipaaGreatDoor
open Go.RowKit Go.Lib
set_option maxRecDepth 100000 in
theorem bt_nums (l : List Int) (h : ∀ j, 0 ≤ l.getD j 0 ∧ l.getD j 0 < 256) (j : Nat) (hj : j < l.length) : bt (strOfNums l) j = l.getD j 0 := by
  have := h j
  rw [List.getD_eq_getElem?_getD] at this ⊢
  unfold bt strOfNums
  rw [List.getElem?_eq_getElem hj] at this ⊢
  simp only [Option.getD_some] at this ⊢
  simp only [List.getElem?_toArray, List.getElem?_map, List.getElem?_eq_getElem hj, Option.map_some, Option.getD_some]
  rw [UInt8.toNat_ofNat']
  omega
set_option maxRecDepth 100000 in
theorem lay_one (Kt iv m : Nat → Int) (hm : ∀ j, 0 ≤ m j ∧ m j < 256) (g L : Nat) (s : ByteArray) (w : World) (t : TypeId) {tt : TypeId} {fr : Nat × Nat} (hK : w.heap[3]? = some (.cells (w64 Kt) tt fr)) (hg1 : g ≠ 3)
    (hL : L + s.size ≤ 1099511627776) (ht : Told Kt iv m w g L) (hb : ∀ j, j < s.size → bt s j = m (L + j)) :
    Calls Tryz.prog 174 #[.pointer (some ⟨g, 0, none⟩), .slice (some ⟨w.heap.size, 0, none⟩) 1 1] (w.alloc (.cells #[.string s] t)) fun e w' => e = .returned (.tuple #[]) ∧ Told Kt iv m w' g (L + s.size) ∧ w.grownBy w' (some g) := by
  have hgl : g < w.heap.size := by obtain ⟨r, h1, _⟩ := ht; exact (Array.getElem?_eq_some_iff.1 h1).1
  have h1l : 3 < w.heap.size := (Array.getElem?_eq_some_iff.1 hK).1
  have hbl : Below w.heap.size w (w.alloc (.cells #[.string s] t)) := (Below.refl _ w).alloc (Nat.le_refl _) _
  refine (callsIn_wide.1 (lay_in Kt iv m hm g L 1 1 (some ⟨w.heap.size, 0, none⟩) (fun _ => s) (w.alloc (.cells #[.string s] t)) ((hbl.block 3 h1l).trans hK) hg1 (by simpa [offs] using hL) (by decide) (by obtain ⟨r, h1, h2⟩ := ht; exact ⟨r, (hbl.block g hgl).trans h1, h2⟩) ?_)).mono ?_
  · intro i hi
    obtain rfl : i = 0 := by omega
    exact ⟨⟨w.heap.size, 0, rfl, by omega, by simp, by rw [cell_of_row _ _ _ _ _ _ (heap_alloc_new w _)]; rfl⟩, fun j hj => by simpa [offs] using hb j hj⟩
  · rintro e w' ⟨rfl, h1, h2⟩
    refine ⟨rfl, by simpa [offs] using h1, ⟨h2.os, h2.tape, h2.output, Nat.le_trans (by simp) h2.size, fun k hk hne => (h2.block k (by simp; omega) hne).trans (hbl.block k hk)⟩⟩
set_option maxRecDepth 100000 in
theorem sm_one (f r : Nat → Int) (c : Int) : (sm f r c).all (·.oneCell') = true := by
  rw [Array.all_eq_true]
  intro i hi
  simp only [sm, Array.getElem_ofFn]
  split
  · rfl
  · split <;> rfl
set_option maxRecDepth 100000 in
/-- What the filling does to a copy. -/
theorem lay_fil (Kt iv m : Nat → Int) (hm : ∀ j, 0 ≤ m j ∧ m j < 256) (g L : Nat) (w : World) (t : TypeId) {tt : TypeId} {fr : Nat × Nat} (hK : w.heap[3]? = some (.cells (w64 Kt) tt fr)) (hg1 : g ≠ 3)
    (hL : L ≤ 1000000000000) (ht : Told Kt iv m w g L) :
    Calls Tryz.prog 174 #[.pointer (some ⟨g, 0, none⟩), .slice (some ⟨w.heap.size, 0, none⟩) 1 1] (w.alloc (.cells #[.string (strOfNums (fil L))] t)) fun e w' => e = .returned (.tuple #[]) ∧ (∃ r c, w'.heap[g]? = some (.cells (sm (hs Kt iv (mf m L) ((L + (fil L).length) / 64)) r c) 224 (0, 0))) ∧ w.grownBy w' (some g) := by
  have hsz : (strOfNums (fil L)).size = (fil L).length := strOfNums_size _
  have hle := fil_le L
  refine (lay_one Kt iv (mf m L) (mf_byte hm L) g L (strOfNums (fil L)) w t hK hg1 (by omega) (ht.congr fun j hj => by simp [mf, hj]) fun j hj => ?_).mono ?_
  · rw [bt_nums _ (fil_byte L) j (by omega)]
    unfold mf
    rw [if_neg (by omega), show L + j - L = j by omega]
  · rintro e w' ⟨rfl, ⟨r, h1, _⟩, h2⟩
    rw [hsz] at h1
    exact ⟨rfl, ⟨r, _, h1⟩, h2⟩
set_option maxRecDepth 100000 in
/-- The operation alloc, by its run. -/
theorem list_alloc {P : Program} {ops : Array Oper} {rest : List Oper} {o : Oper} {a : Act} {w : World} {Q : Exit → Act → World → Prop} (hgd : o.guard = none) (t : TypeId) (ho : o.op = .alloc t)
    {v' : Value} {w' : World} (hrun : (Instr.alloc t true (.tuple #[])).run P w = .ok v' w') (h : wpList P ops Q rest (a.put o.dst v') w') : wpList P ops Q (o :: rest) a w :=
  wpList_plain hgd fun _ hK => by
    unfold Oper.wp execOp
    simp only [ho, Sem.run_bind, Sem.run_pure, Result.andThen_ok, hrun]
    exact hK _ _ h
set_option maxRecDepth 100000 in
theorem run_alloc (w : World) : (Instr.alloc 224 true (.tuple #[])).run Tryz.prog w = .ok (.pointer (some ⟨w.heap.size, 0, none⟩)) (w.alloc (.cells (sm (fun _ => 0) (fun _ => 0) 0) 224)) := by kernel_rfl
set_option maxRecDepth 100000 in
set_option maxHeartbeats 1000000 in
theorem sum_any (Kt iv m : Nat → Int) (hm : ∀ j, 0 ≤ m j ∧ m j < 256) (g L : Nat) (w : World) {tt : TypeId} {fr : Nat × Nat} (hK : w.heap[3]? = some (.cells (w64 Kt) tt fr))
    (hL : L ≤ 1000000000000) (ht : Told Kt iv m w g L) :
    Calls Tryz.prog 175 #[.pointer (some ⟨g, 0, none⟩)] w fun e w' => e = .returned (.string (strOfNums (dig Kt iv m L))) ∧ Below w.heap.size w w' := by
  have h1l : 3 < w.heap.size := (Array.getElem?_eq_some_iff.1 hK).1
  obtain ⟨r, h1, h2⟩ := ht
  have hgl : g < w.heap.size := (Array.getElem?_eq_some_iff.1 h1).1
  obtain ⟨f, hf⟩ : ∃ f, hs Kt iv m (L / 64) = f := ⟨_, rfl⟩
  have H1 : Hid (w.heap[g]? = some (.cells (sm f r (L : Int)) 224 (0, 0))) := by rw [← hf]; exact h1
  have H2 : Hid (∀ j, j < L % 64 → r j = m (64 * (L / 64) + j)) := h2
  have HF : Hid (hs Kt iv m (L / 64) = f) := hf
  have HK : Hid (w.heap[3]? = some (.cells (w64 Kt) tt fr)) := hK
  have HM : Hid (∀ j, 0 ≤ m j ∧ m j < 256) := hm
  clear h1 h2 hf hK hm
  have z0 : (0 : Int) ≤ (L : Int) := by omega
  go_enter Tryz.func175, Tryz.ntmps175
  obtain ⟨W2, hW2, r2, b2, s2⟩ := new_row w (sm (fun _ => 0) (fun _ => 0) 0) 224 (sm f r (L : Int))
  have E2 : Hid _ := hW2
  have R2 : Hid (W2.heap[w.heap.size]? = some (.cells (sm f r (L : Int)) 224 (0, 0))) := r2
  have B2 : Hid (Below w.heap.size w W2) := b2
  have S2 : Hid (W2.heap.size = w.heap.size + 1) := s2
  clear hW2 r2 b2 s2
  go_wp2_with (first
    | (refine wpList_load_row rfl 224 _ rfl g rfl 224 _ (0, 0) _ H1.out Tryz.underlying224 rfl (by rw [sm_size]; kernel_rfl) ?_
       refine list_alloc rfl 224 rfl (run_alloc w) ?_
       refine wpList_store_row rfl 224 _ _ rfl w.heap.size (sm f r (L : Int)) rfl rfl 224 _ (heap_alloc_new w _) (by rw [sm_size]; kernel_rfl) (by rw [sm_size, sm_size]) (sm_one _ _ _) ?_
       rw [E2.out]
       have cc : W2.cell? ⟨g, 72, none⟩ = some (.int .i64 (L : Int)) := by rw [cell_of_row _ _ _ _ _ _ ((B2.out.block g hgl).trans H1.out), sm_c]))
  refine (filling_any L (by omega) W2).mono ?_
  rintro e W3 ⟨rfl, b3⟩
  have hs2 := S2.out
  have hsz3 : w.heap.size + 1 ≤ W3.heap.size := by have := b3.size; omega
  have B3 : Hid (Below w.heap.size w W3) := B2.out.trans (b3.mono (by omega))
  have T3 : Hid (Told Kt iv m W3 w.heap.size L) := ⟨r, by rw [HF.out]; exact (b3.block _ (by omega)).trans R2.out, H2.out⟩
  have LF : ∀ t, Hid (Calls Tryz.prog 174 #[.pointer (some ⟨w.heap.size, 0, none⟩), .slice (some ⟨W3.heap.size, 0, none⟩) 1 1] (W3.alloc (.cells #[.string (strOfNums (fil L))] t)) fun e w' => e = .returned (.tuple #[]) ∧ (∃ r c, w'.heap[w.heap.size]? = some (.cells (sm (hs Kt iv (mf m L) ((L + (fil L).length) / 64)) r c) 224 (0, 0))) ∧ W3.grownBy w' (some w.heap.size)) := fun t =>
    lay_fil Kt iv m HM.out w.heap.size L W3 t ((B3.out.block 3 h1l).trans HK.out) (by omega) hL T3.out
  clear b3 hs2 cc T3 H1 H2 HF HK HM R2 S2 E2 B2
  have HD : Hid (dig Kt iv m L = bw (hs Kt iv (mf m L) ((L + (fil L).length) / 64)) 8) := rfl
  generalize hs Kt iv (mf m L) ((L + (fil L).length) / 64) = F at *
  generalize strOfNums (fil L) = sf at *
  go_wp2_with fail
  refine (LF _).out.mono ?_
  rintro e W4 ⟨rfl, ⟨r4, c4, h4⟩, g4⟩
  have B4 : Hid (Below w.heap.size w W4) := B3.out.grown g4 (by omega) (fun k e => by cases e; exact Nat.le_refl _)
  have H4 : Hid (W4.heap[w.heap.size]? = some (.cells (sm F r4 c4) 224 (0, 0))) := h4
  clear h4 g4 LF B3
  go_wp2_with (first
    | (refine wpList_load_mid rfl 220 _ rfl w.heap.size 0 rfl (st8 F).toList _ (sm_range H4.out) Tryz.underlying220 rfl (by kernel_rfl) ?_))
  refine (text_any F W4).mono ?_
  rintro e W5 ⟨rfl, b5⟩
  have B5 : Hid (Below w.heap.size w W5) := B4.out.trans (b5.mono B4.out.size)
  clear b5 B4 H4
  go_wp2_with fail
  go_ret
  exact ⟨by rw [HD.out]; rfl, B5.out⟩
end Go.Proofs.YtheheaflebkipaaGreatDoor
/- The sum of texts behind each other, and of one text. -/
namespace Go.Proofs.YtheheaflebkipaaGreatDoor
open Go.RowKit Go.Lib
set_option maxRecDepth 100000 in
theorem add_any (Kt m : Nat → Int) (hm : ∀ j, 0 ≤ m j ∧ m j < 256) (len cap : Nat) (o : Option Addr) (ts : Nat → ByteArray) (w : World) {tt : TypeId} {fr : Nat × Nat} (hK : w.heap[3]? = some (.cells (w64 Kt) tt fr))
    (hL : offs ts len ≤ 1000000000000) (hlen : len ≤ 1099511627776)
    (hts : ∀ i, i < len → (∃ b off, o = some ⟨b, off, none⟩ ∧ b < w.heap.size ∧ w.cell? ⟨b, off + i, none⟩ = some (.string (ts i))) ∧ ∀ j, j < (ts i).size → bt (ts i) j = m (offs ts i + j)) :
    Calls Tryz.prog 151 #[.slice o len cap] w fun e w' => e = .returned (.string (strOfNums (dig Kt (lf IV) m (offs ts len)))) ∧ Below w.heap.size w w' := by
  have h1l : 3 < w.heap.size := (Array.getElem?_eq_some_iff.1 hK).1
  have HK : Hid (w.heap[3]? = some (.cells (w64 Kt) tt fr)) := hK
  have HTS : Hid _ := hts
  have HL : Hid (offs ts len ≤ 1000000000000) := hL
  have HLN : Hid (len ≤ 1099511627776) := hlen
  have HM : Hid (∀ j, 0 ≤ m j ∧ m j < 256) := hm
  have NA : Hid (∀ w, Calls Tryz.prog 173 #[] w fun e w' => ∃ g, w.heap.size ≤ g ∧ e = .returned (.pointer (some ⟨g, 0, none⟩)) ∧ w'.heap[g]? = some (.cells (sm (lf IV) (fun _ => 0) 0) 224 (0, 0)) ∧ Below w.heap.size w w') := new_any
  clear hK hts hL hlen hm
  generalize lf IV = iv at *
  go_enter Tryz.func151, Tryz.ntmps151
  go_wp2_with fail
  refine (NA.out w).mono ?_
  rintro e w1 ⟨g, hg, rfl, h1, b1⟩
  have T1 : Hid (Told Kt iv m w1 g 0) := ⟨_, h1, fun j hj => absurd hj (by omega)⟩
  have B1 : Hid (Below w.heap.size w w1) := b1
  clear h1 b1 NA
  go_wp2_with fail
  refine (callsIn_wide.1 (lay_in Kt iv m HM.out g 0 len cap o ts w1 ((B1.out.block 3 h1l).trans HK.out) (by omega) (by have := HL.out; omega) HLN.out T1.out ?_)).mono ?_
  · intro i hi
    obtain ⟨⟨b, off, ho, hb, hc⟩, hbt⟩ := HTS.out i hi
    exact ⟨⟨b, off, ho, by omega, Nat.lt_of_lt_of_le hb B1.out.size, (cell_same (B1.out.block b hb) _).trans hc⟩, fun j hj => by rw [Nat.zero_add]; exact hbt j hj⟩
  rintro e w2 ⟨rfl, h2, g2⟩
  have T2 : Hid (Told Kt iv m w2 g (offs ts len)) := by rw [Nat.zero_add] at h2; exact h2
  have B2 : Hid (Below w.heap.size w w2) := B1.out.grown g2 B1.out.size (fun k e => by cases e; exact hg)
  clear h2 g2 T1 B1 HTS
  go_wp2_with fail
  refine (sum_any Kt iv m HM.out g _ w2 ((B2.out.block 3 h1l).trans HK.out) HL.out T2.out).mono ?_
  rintro e w3 ⟨rfl, b3⟩
  have B3 : Hid (Below w.heap.size w w3) := B2.out.trans (b3.mono B2.out.size)
  clear b3 B2 T2
  go_wp2_with fail
  go_ret
  exact ⟨rfl, B3.out⟩
set_option maxRecDepth 100000 in
theorem shaSum_any (Kt : Nat → Int) (s : ByteArray) (w : World) {tt : TypeId} {fr : Nat × Nat} (hK : w.heap[3]? = some (.cells (w64 Kt) tt fr)) (hL : s.size ≤ 1000000000000) :
    Calls Tryz.prog 170 #[.string s] w fun e w' => e = .returned (.string (strOfNums (dig Kt (lf IV) (bt s) s.size))) ∧ Below w.heap.size w w' := by
  have h1l : 3 < w.heap.size := (Array.getElem?_eq_some_iff.1 hK).1
  have AD : ∀ t, Hid (Calls Tryz.prog 151 #[.slice (some ⟨w.heap.size, 0, none⟩) 1 1] (w.alloc (.cells #[.string s] t)) fun e w' => e = .returned (.string (strOfNums (dig Kt (lf IV) (bt s) s.size))) ∧ Below w.heap.size w w') := fun t => by
    have hbl : Below w.heap.size w (w.alloc (.cells #[.string s] t)) := (Below.refl _ w).alloc (Nat.le_refl _) _
    refine (add_any Kt (bt s) (bt_range s) 1 1 (some ⟨w.heap.size, 0, none⟩) (fun _ => s) (w.alloc (.cells #[.string s] t)) ((hbl.block 3 h1l).trans hK) (by simpa [offs] using hL) (by decide) ?_).mono ?_
    · intro i hi
      obtain rfl : i = 0 := by omega
      exact ⟨⟨w.heap.size, 0, rfl, by simp, by rw [cell_of_row _ _ _ _ _ _ (heap_alloc_new w _)]; rfl⟩, fun j hj => by simp [offs]⟩
    · rintro e w' ⟨rfl, h2⟩
      exact ⟨by simp [offs], hbl.trans (h2.mono (by simp))⟩
  clear hK hL
  generalize dig Kt (lf IV) (bt s) s.size = D at *
  go_enter Tryz.func170, Tryz.ntmps170
  go_wp2_with fail
  refine (AD _).out.mono ?_
  rintro e w1 ⟨rfl, b1⟩
  have B1 : Hid _ := b1
  clear b1 AD
  go_wp2_with fail
  go_ret
  exact ⟨rfl, B1.out⟩
end Go.Proofs.YtheheaflebkipaaGreatDoor
/- Texts cut in pieces: their sums. -/
namespace Go.Proofs.YtheheaflebkipaaGreatDoor
open Go.RowKit Go.Lib
set_option maxRecDepth 100000 in
theorem below_new (w : World) (o : Obj) : Below w.heap.size w (w.alloc o) := (Below.refl _ w).alloc (Nat.le_refl _) _
end Go.Proofs.YtheheaflebkipaaGreatDoor
/- The reference: a text, filled; the words that a sum begins with. -/
namespace Go.Proofs.YtheheaflebkipaaGreatDoor
open Go.RowKit Go.Lib
set_option maxRecDepth 100000 in
theorem app_assoc (a b c : ByteArray) : a ++ b ++ c = a ++ (b ++ c) := by
  apply ByteArray.ext
  simp [Array.append_assoc]
set_option maxRecDepth 100000 in
theorem bt_app (a b : ByteArray) (j : Nat) : bt (a ++ b) j = if j < a.size then bt a j else bt b (j - a.size) := by
  unfold bt
  have e : (a ++ b).data = a.data ++ b.data := by simp
  rw [e]
  by_cases h : j < a.size
  · rw [if_pos h, Array.getElem?_append_left h]
  · rw [if_neg h, Array.getElem?_append_right (by exact Nat.le_of_not_lt h)]; rfl
set_option maxRecDepth 100000 in
/-- Bytes in a new block, as a text. -/
theorem conv_new (w : World) (cs : Array Value) (l : List Int) (n : Nat) (hl : l.length = n) (hc : ∀ i, i < n → cs[i]? = some (.int .u8 (l.getD i 0))) :
    (convert 70 9 (.slice (some ⟨w.heap.size, 0, none⟩) n n)).run Tryz.prog (w.alloc (.cells cs 5)) = .ok (.string (strOfNums l)) (w.alloc (.cells cs 5)) := by
  refine run_convert_bytes_arg _ 70 5 Tryz.underlying70 Tryz.underlying5 w.heap.size 0 n n l hl (fun i hi => ?_) 9 Tryz.underlying9
  rw [cell_of_row _ _ _ _ _ _ (heap_alloc_new w _), Nat.zero_add]
  exact hc i hi
end Go.Proofs.YtheheaflebkipaaGreatDoor
/- The reference: words made of words, and what appends leave. -/
namespace Go.Proofs.YtheheaflebkipaaGreatDoor
open Go.RowKit Go.Lib
set_option maxRecDepth 100000 in
/-- The next operation, where only one may come up; behind it the condition is shown anew. -/
theorem readyH {P : Program} {md : Region.Mode} {ops : Array Oper} {Q : Exit → Act → World → Prop} {S : World → Prop} {fuel : Nat} {listed : Array Bool} {a : Act} {w : World} (k : Nat) (o : Oper) (hr : Region.ready md ops listed = [k]) (ho : ops[k]? = some o)
    (hw : Region.wanted o (yielded ops a.tmps) = true)
    (h : ∀ K : Act → World → Prop, (∀ a w, S w → wpAnyH P md ops Q S fuel (listed.setIfInBounds k true) a w → K a w) → Oper.wp P o a w K Q) : wpAnyH P md ops Q S (fuel + 1) listed a w := by
  refine wpAnyH_all hr (by simp) fun j hj => ?_
  obtain rfl : j = k := by simpa using hj
  unfold wpOp
  simp only [ho, hw, if_true]
  exact .inl (h _ fun a w h1 h2 => ⟨h1, h2⟩)
end Go.Proofs.YtheheaflebkipaaGreatDoor
