import Derived.Test.YtheheaflebkipaaGreatDoorQE
import Derived.WalkSpells
namespace Go.Proofs.YtheheaflebkipaaGreatDoor
open Go.RowKit Go.Lib
set_option maxRecDepth 100000 in
theorem zc (z : Nat) : (Builtin.zeroCells #[.int .u8 0] z).toList = List.replicate z (.int .u8 0) := by
  apply List.ext_getElem?
  intro i
  by_cases h : i < z
  · simp [Builtin.zeroCells, h, Nat.mod_one]
  · simp [Builtin.zeroCells, h]
set_option maxRecDepth 100000 in
theorem run_append_zeros (w : World) (base g n cap : Nat) (xs : List Value) (hown : w.ownsRow base 5 1 (.slice (some ⟨g, 0, none⟩) n cap) n xs) (z : Nat) (hz : z ≤ 64) (hroom : n + z ≤ cap) :
    ∃ w', (Builtin.append_ #[70, 3] 70 #[.slice (some ⟨g, 0, none⟩) n cap, .int .i64 (z : Int)]).run Tryz.prog w = .ok (.slice (some ⟨g, 0, none⟩) (n + z) cap) w' ∧
      w'.ownsRow base 5 1 (.slice (some ⟨g, 0, none⟩) (n + z) cap) (n + z) (xs ++ List.replicate z (.int .u8 0)) ∧ w.grownBy w' (some g) := by
  obtain ⟨i0, hi, hz0, hz1, hz2⟩ := info_parts info5
  have hxl : xs.length = n := by simpa using hown.1
  rcases hown.2 with ⟨hv, _⟩ | ⟨g', cap', cur, hv, hbg, hg, hnc, hcm, hcs, htake⟩
  · cases hv
  · cases hv
    have hst := run_storeCells_at (P := Tryz.prog) g n 5 (List.replicate z (.int .u8 0)) 0 cur w hg (by simp; omega) (fun v hv => by rw [(List.mem_replicate.1 hv).2]; rfl)
    simp only [Nat.add_zero, List.length_replicate] at hst
    have w64 : IntKind.i64.wrap (z : Int) = (z : Int) := by rw [IntKind.wrap_i64]; omega
    have w0 : IntKind.i64.wrap 0 = 0 := by decide
    have hb : ¬ (281474976710656 : Int) < (z : Int) := by omega
    have hr : (Builtin.append_ #[70, 3] 70 #[.slice (some ⟨g, 0, none⟩) n cap, .int .i64 (z : Int)]).run Tryz.prog w = .ok (.slice (some ⟨g, 0, none⟩) (n + z) cap) (w.setRow g (cur.toList.take n ++ List.replicate z (Value.int .u8 0) ++ cur.toList.drop (n + z)).toArray) := by
      by_cases h0 : z = 0
      · subst h0
        simp only [List.replicate_zero] at hst
        simp [Builtin.append_, run_underlying Tryz.underlying70, run_underlying Tryz.underlying3, sizeOf, typeInfo, hi, hz1, hz2, hnc, Addr.add_lit, asInt, asIntOf, w0, hst]
      · simp [Builtin.append_, run_underlying Tryz.underlying70, run_underlying Tryz.underlying3, sizeOf, typeInfo, zeroValue, hi, hz0, hz1, hz2, hroom, Addr.add_lit, asInt, asIntOf, w64, hb, h0, Value.cells, zc, hst]
        intro h
        omega
    refine ⟨_, hr, ⟨by simp [hxl], .inr ⟨g, cap, _, rfl, hbg, setRow_heap w g cur _ 5 _ hg, hroom, hcm, by simp; omega, ?_⟩⟩, ⟨rfl, rfl, rfl, by rw [size_setRow]; exact Nat.le_refl _, fun k _ hk => setRow_other w g k _ (fun e => hk (by rw [e]))⟩⟩
    have ht' : cur.toList.take n = xs := by simpa using htake
    rw [ht']
    rw [show (n + z) * 1 = (xs ++ List.replicate z (Value.int .u8 0)).length by simp [hxl]]
    exact List.take_left
set_option maxRecDepth 100000 in
/-- The built-in append, by its run. -/
theorem list_append {P : Program} {ops : Array Oper} {rest : List Oper} {o : Oper} {a : Act} {w : World} {Q : Exit → Act → World → Prop} (hgd : o.guard = none) (t u : TypeId) (s x : Operand) (ho : o.op = .call { callee := .builtin .append, args := #[s, x], argTypes := #[t, u] })
    {vs vx v' : Value} {w' : World} (hs : a.eval s = vs) (hx : a.eval x = vx) (hrun : (Builtin.append_ #[t, u] o.type #[vs, vx]).run P w = .ok v' w') (h : wpList P ops Q rest (a.put o.dst v') w') : wpList P ops Q (o :: rest) a w :=
  wpList_plain hgd fun _ hK => by
    unfold Oper.wp execOp
    simp only [ho, resolve, invoke, builtin, Sem.run_bind, Sem.run_pure, Result.andThen_ok, List.map_toArray, List.map_cons, List.map_nil, hs, hx, hrun]
    exact hK _ _ h
set_option maxRecDepth 100000 in
theorem cell_one (w : World) (v : Value) (t : TypeId) : ∀ j u, [v][j]? = some u → (w.alloc (.cells #[v] t)).cell? ((⟨w.heap.size, 0, none⟩ : Addr).add j) = some u := fun j u hj => by
  match j, hj with
  | 0, hj => rw [Addr.add_lit, cell_of_row _ _ _ _ _ _ (heap_alloc_new w _)]; simpa using hj
  | j + 1, hj => simp at hj
/-- How many bytes 0 stand in a text's filling. -/
def nz (n : Nat) : Nat := (119 - n % 64) % 64
/-- The bytes of a text's filling. -/
def fil (n : Nat) : List Int := 128 :: (List.replicate (nz n) 0 ++ upto (fun j => ((n : Int) * 8) / 2 ^ (56 - 8 * j) % 256) 8)
set_option maxRecDepth 100000 in
theorem upto_succ (f : Nat → Int) (k : Nat) : upto f (k + 1) = upto f k ++ [f k] := by simp [upto, List.range_succ]
set_option maxRecDepth 100000 in
set_option maxHeartbeats 1000000 in
theorem filling_any (n : Nat) (hn : n ≤ 1099511627776) (w : World) :
    Calls Tryz.prog 190 #[.int .i64 (n : Int)] w fun e w' => e = .returned (.string (strOfNums (fil n))) ∧ Below w.heap.size w w' := by
  obtain ⟨i0, hi, hz0, hz1, hz2⟩ := info_parts info5
  have n0 : (0 : Int) ≤ (n : Int) := by omega
  have n1 : (n : Int) ≤ 1099511627776 := by omega
  obtain ⟨a, ha⟩ : ∃ a, n % 64 = a := ⟨_, rfl⟩
  have hal : a < 64 := by omega
  have d0 : (n : Int).tmod 64 = (a : Int) := by rw [Int.tmod_eq_emod_of_nonneg n0]; omega
  have d1 : (n : Int) % 64 = (a : Int) := by omega
  have a0 : (0 : Int) ≤ (a : Int) := by omega
  have a1 : (a : Int) < 64 := by omega
  obtain ⟨z, hz⟩ : ∃ z, nz n = z := ⟨_, rfl⟩
  have hzl : z < 64 := by rw [← hz]; unfold nz; omega
  have hz' : (119 - a) % 64 = z := by rw [← hz, ← ha]; rfl
  have d2 : ((119 : Int) - (a : Int)).tmod 64 = (z : Int) := by rw [Int.tmod_eq_emod_of_nonneg (by omega)]; omega
  have d3 : ((119 : Int) - (a : Int)) % 64 = (z : Int) := by omega
  have HZ : Hid (nz n = z) := hz
  have HN : Hid (n ≤ 1099511627776) := hn
  clear ha hz hz' hn
  go_enter Tryz.func190, Tryz.ntmps190
  go_wp2_with (first
    | (at_make; refine wpList_make_own _ rfl _ _ 70 rfl w.heap.size 5 i0 (.int .u8 0) 1 Tryz.underlying70 hi hz0 hz1 .i64 .i64 128 128 rfl rfl rfl (by rw [hz2]; decide) (by decide) (Nat.le_refl _) ?_; intro w2 hown2 hgrow2)
    | (at_builtin
       obtain ⟨w3, hrun3, hown3, hgrow3⟩ := run_append_fits (P := Tryz.prog) (w2.alloc (.cells #[.int .u8 128] 5)) w.heap.size 70 70 5 i0 1 Tryz.underlying70 hi hz1 w.heap.size 0 128 [] (hown2.alloc _) ⟨w2.heap.size, 0, none⟩ 1 1 [.int .u8 128] rfl (cell_one _ _ _) (fun u hu => by simp at hu; subst hu; rfl) (by decide)
       refine list_append rfl 70 70 (.tmp 11) (.tmp 12) rfl (vs := .slice (some ⟨w.heap.size, 0, none⟩) 0 128) (vx := .slice (some ⟨w2.heap.size, 0, none⟩) 1 1) rfl rfl hrun3 ?_
       have HO3 : Hid (w3.ownsRow w.heap.size 5 1 (.slice (some ⟨w.heap.size, 0, none⟩) 1 128) 1 [.int .u8 128]) := hown3
       have HB3 : Hid (Below w.heap.size w w3) := ⟨hgrow3.os.trans hgrow2.os, hgrow3.tape.trans hgrow2.tape, hgrow3.output.trans hgrow2.output, Nat.le_trans hgrow2.size (Nat.le_trans (by simp) hgrow3.size), fun k hk => (hgrow3.block k (by simp; have := hgrow2.size; omega) (by intro e; cases e; omega)).trans ((Below.heap_alloc _ _ _ (by have := hgrow2.size; omega)).trans (hgrow2.block k hk (by simp)))⟩
       clear hown3 hgrow3 hown2 hgrow2 hrun3)
    | (at_builtin
       obtain ⟨w4, hrun4, hown4, hgrow4⟩ := run_append_zeros w3 w.heap.size w.heap.size 1 128 _ HO3.out z (by omega) (by omega)
       refine list_append rfl 70 3 (.tmp 14) (.tmp 15) rfl (vs := .slice (some ⟨w.heap.size, 0, none⟩) 1 128) (vx := .int .i64 (z : Int)) rfl rfl hrun4 ?_
       have HO4 : Hid (w4.ownsRow w.heap.size 5 1 (.slice (some ⟨w.heap.size, 0, none⟩) (1 + z) 128) (1 + z) ((.int .u8 128) :: List.replicate z (.int .u8 0))) := hown4
       have HB4 : Hid (Below w.heap.size w w4) := HB3.out.trans (grown_below hgrow4 (Nat.le_refl _) HB3.out.size)
       clear hown4 hgrow4 hrun4 HO3 HB3))
  clear d0 d1 d2 d3 a0 a1 hal
  have LST : ∀ j, ((.int .u8 128) :: List.replicate z (.int .u8 0)) ++ (upto (fun j => ((n : Int) * 8) / 2 ^ (56 - 8 * j) % 256) j).map (Value.int .u8) = (128 :: (List.replicate z 0 ++ upto (fun j => ((n : Int) * 8) / 2 ^ (56 - 8 * j) % 256) j)).map (Value.int .u8) := fun j => by simp
  have HLST : Hid _ := LST
  clear LST
  go_loopw [4, 6] (fun v i wr => ∃ j : Nat, j ≤ 8 ∧ v = .slice (some ⟨w.heap.size, 0, none⟩) (1 + z + j) 128 ∧ i = .int .i64 (56 - 8 * (j : Int)) ∧ wr.ownsRow w.heap.size 5 1 (.slice (some ⟨w.heap.size, 0, none⟩) (1 + z + j) 128) (1 + z + j) (((.int .u8 128) :: List.replicate z (.int .u8 0)) ++ (upto (fun j => ((n : Int) * 8) / 2 ^ (56 - 8 * j) % 256) j).map (Value.int .u8)) ∧ Below w.heap.size w wr) (fun _ i _ => (intOf i + 8).toNat)
  case atStart => exact ⟨0, by omega, rfl, rfl, by simpa [upto] using HO4.out, HB4.out⟩
  case round =>
    clear HO4 HB4
    obtain ⟨j, hj, rfl, rfl, hown, hbl⟩ := hrel
    have HO : Hid (wr.ownsRow w.heap.size 5 1 (.slice (some ⟨w.heap.size, 0, none⟩) (1 + z + j) 128) (1 + z + j) (((.int .u8 128) :: List.replicate z (.int .u8 0)) ++ (upto (fun j => ((n : Int) * 8) / 2 ^ (56 - 8 * j) % 256) j).map (Value.int .u8))) := hown
    have HB : Hid (Below w.heap.size w wr) := hbl
    clear hown hbl
    by_cases hlt : j < 8
    · have g0 : (0 : Int) ≤ 56 - 8 * (j : Int) := by omega
      have g1 : (56 : Int) - 8 * (j : Int) ≤ 56 := by omega
      obtain ⟨w5, hrun5, hown5, hgrow5⟩ := run_append_fits (P := Tryz.prog) (wr.alloc (.cells #[.int .u8 ((n : Int) * 8 / 2 ^ (56 - 8 * j) % 256)] 5)) w.heap.size 70 70 5 i0 1 Tryz.underlying70 hi hz1 w.heap.size (1 + z + j) 128 _ (HO.out.alloc _) ⟨wr.heap.size, 0, none⟩ 1 1 [.int .u8 ((n : Int) * 8 / 2 ^ (56 - 8 * j) % 256)] rfl (cell_one _ _ _) (fun u hu => by simp at hu; subst hu; rfl) (by omega)
      have HO5 : Hid (w5.ownsRow w.heap.size 5 1 (.slice (some ⟨w.heap.size, 0, none⟩) (1 + z + (j + 1)) 128) (1 + z + (j + 1)) (((.int .u8 128) :: List.replicate z (.int .u8 0)) ++ (upto (fun j => ((n : Int) * 8) / 2 ^ (56 - 8 * j) % 256) (j + 1)).map (Value.int .u8))) := by
        rw [upto_succ, List.map_append, ← List.append_assoc]; exact hown5
      have HB5 : Hid (Below w.heap.size w w5) := (HB.out.alloc HB.out.size _).trans (grown_below hgrow5 (Nat.le_refl _) (by simp; have := HB.out.size; omega))
      clear hown5 hgrow5
      go_wp2_with (at_builtin; refine list_append rfl 70 70 (.tmp 24) (.tmp 29) rfl (vs := .slice (some ⟨w.heap.size, 0, none⟩) (1 + z + j) 128) (vx := .slice (some ⟨wr.heap.size, 0, none⟩) 1 1) rfl rfl hrun5 ?_)
      go_roundw
      case rel => exact ⟨j + 1, by omega, rfl, by go_num, HO5.out, HB5.out⟩
      case measure => simp [intOf]; omega
    · have hj8 : j = 8 := by omega
      subst hj8
      have g0 : ¬ (0 : Int) ≤ 56 - 8 * ((8 : Nat) : Int) := by decide
      have hcv : (convert 70 9 (.slice (some ⟨w.heap.size, 0, none⟩) (1 + z + 8) 128)).run Tryz.prog wr = .ok (.string (strOfNums (fil n))) wr := by
        unfold fil
        rw [HZ.out]
        refine run_convert_bytes_arg wr 70 5 Tryz.underlying70 Tryz.underlying5 w.heap.size 0 (1 + z + 8) 128 (128 :: (List.replicate z 0 ++ upto (fun j => ((n : Int) * 8) / 2 ^ (56 - 8 * j) % 256) 8)) (by simp [upto]; omega) (fun i hi => ?_) 9 Tryz.underlying9
        rw [Nat.zero_add]
        have hx := HO.out
        rw [HLST.out 8] at hx
        refine own_cell hx ?_
        rw [List.getElem?_map, List.getElem?_eq_getElem (by simp [upto]; omega)]
        simp [List.getD, List.getElem?_eq_getElem (show i < (128 :: (List.replicate z 0 ++ upto (fun j => ((n : Int) * 8) / 2 ^ (56 - 8 * j) % 256) 8)).length by simp [upto]; omega)]
      go_wp2
      go_ret
      exact ⟨rfl, HB.out⟩
end Go.Proofs.YtheheaflebkipaaGreatDoor
namespace Go.Proofs.YtheheaflebkipaaGreatDoor
open Go.RowKit Go.Lib
/-- A word's bytes, the greatest first. -/
def b4 (x : Int) : List Int := [x / 16777216 % 256, x / 65536 % 256, x / 256 % 256, x % 256]
/-- The bytes of the first k words. -/
def bw (f : Nat → Int) : Nat → List Int
  | 0 => []
  | k + 1 => bw f k ++ b4 (f k)
set_option maxRecDepth 100000 in
theorem bw_length (f : Nat → Int) (k : Nat) : (bw f k).length = 4 * k := by
  induction k with
  | zero => rfl
  | succ k ih => unfold bw; rw [List.length_append, ih]; simp [b4]; omega
set_option maxRecDepth 100000 in
theorem cell_four (w : World) (a b c d : Value) (t : TypeId) : ∀ j u, [a, b, c, d][j]? = some u → (w.alloc (.cells #[a, b, c, d] t)).cell? ((⟨w.heap.size, 0, none⟩ : Addr).add j) = some u := fun j u hj => by
  rw [Addr.add_lit, Nat.zero_add, cell_of_row _ _ _ _ _ _ (heap_alloc_new w _)]
  simpa using hj
set_option maxRecDepth 100000 in
set_option maxHeartbeats 1000000 in
theorem text_any (f : Nat → Int) (w : World) :
    Calls Tryz.prog 191 #[.agg (st8 f)] w fun e w' => e = .returned (.string (strOfNums (bw f 8))) ∧ Below w.heap.size w w' := by
  obtain ⟨i0, hi, hz0, hz1, hz2⟩ := info_parts info5
  have H1 : Hid ((w.alloc (.cells (st8 f) 220)).heap[w.heap.size]? = some (.cells (st8 f) 220 (0, 0))) := heap_alloc_new w _
  have B1 : Hid (Below w.heap.size w (w.alloc (.cells (st8 f) 220))) := (Below.refl _ w).alloc (Nat.le_refl _) _
  have S1 : Hid ((w.alloc (.cells (st8 f) 220)).heap.size = w.heap.size + 1) := by refine (?_ : _ = _); simp
  go_enter Tryz.func191, Tryz.ntmps191
  go_wp2_with (first
    | (at_make; refine wpList_make_own _ rfl _ _ 70 rfl (w.heap.size + 1) 5 i0 (.int .u8 0) 1 Tryz.underlying70 hi hz0 hz1 .i64 .i64 32 32 rfl rfl rfl (by rw [hz2]; decide) (by decide) (by simp) ?_; intro w2 hown2 hgrow2
       have H2 : Hid (w2.heap[w.heap.size]? = some (.cells (st8 f) 220 (0, 0))) := (hgrow2.block w.heap.size (by rw [S1.out]; omega) (by simp)).trans H1.out
       have B2 : Hid (Below w.heap.size w w2) := B1.out.grown hgrow2 (Nat.le_of_lt (by rw [S1.out]; omega)) (fun k e => by cases e)
       have O2 : Hid (w2.ownsRow (w.heap.size + 1) 5 1 (.slice (some ⟨w.heap.size + 1, 0, none⟩) 0 32) 0 []) := by rw [S1.out] at hown2; exact hown2
       clear hown2 hgrow2 H1 B1)
    | (refine wpList_load_row rfl 220 _ rfl w.heap.size rfl 220 _ (0, 0) _ H2.out Tryz.underlying220 rfl (by kernel_rfl) ?_))
  go_loopw [3, 8] (fun v i wr => ∃ k : Nat, k ≤ 8 ∧ v = .slice (some ⟨w.heap.size + 1, 0, none⟩) (4 * k) 32 ∧ i = .int .i64 (k : Int) ∧ wr.ownsRow (w.heap.size + 1) 5 1 (.slice (some ⟨w.heap.size + 1, 0, none⟩) (4 * k) 32) (4 * k) ((bw f k).map (Value.int .u8)) ∧ Below w.heap.size w wr) (fun _ i _ => 8 - (intOf i).toNat)
  case atStart => exact ⟨0, by omega, rfl, rfl, O2.out, B2.out⟩
  case round =>
    clear O2 B2 H2
    obtain ⟨k, hk, rfl, rfl, hown, hbl⟩ := hrel
    have HO : Hid (wr.ownsRow (w.heap.size + 1) 5 1 (.slice (some ⟨w.heap.size + 1, 0, none⟩) (4 * k) 32) (4 * k) ((bw f k).map (Value.int .u8))) := hown
    have HB : Hid (Below w.heap.size w wr) := hbl
    clear hown hbl
    by_cases hlt : k < 8
    · have hix := idx8 f k hlt
      have g0 : (0 : Int) ≤ (k : Int) := by omega
      have g1 : (k : Int) < 8 := by omega
      generalize hx : f k = x at *
      have HX : Hid (f k = x) := hx
      clear hx
      obtain ⟨w5, hrun5, hown5, hgrow5⟩ := run_append_fits (P := Tryz.prog) (wr.alloc (.cells #[.int .u8 (x / 16777216 % 256), .int .u8 (x / 65536 % 256), .int .u8 (x / 256 % 256), .int .u8 (x % 256)] 5)) (w.heap.size + 1) 70 70 5 i0 1 Tryz.underlying70 hi hz1 (w.heap.size + 1) (4 * k) 32 _ (HO.out.alloc _) ⟨wr.heap.size, 0, none⟩ 4 4 [.int .u8 (x / 16777216 % 256), .int .u8 (x / 65536 % 256), .int .u8 (x / 256 % 256), .int .u8 (x % 256)] rfl (cell_four _ _ _ _ _ _) (fun u hu => by simp at hu; rcases hu with rfl | rfl | rfl | rfl <;> rfl) (by omega)
      have HO5 : Hid (w5.ownsRow (w.heap.size + 1) 5 1 (.slice (some ⟨w.heap.size + 1, 0, none⟩) (4 * (k + 1)) 32) (4 * (k + 1)) ((bw f (k + 1)).map (Value.int .u8))) := by
        show w5.ownsRow (w.heap.size + 1) 5 1 (.slice (some ⟨w.heap.size + 1, 0, none⟩) (4 * k + 4) 32) (4 * k + 4) ((bw f k ++ b4 (f k)).map (Value.int .u8))
        rw [List.map_append, HX.out]; exact hown5
      have HB5 : Hid (Below w.heap.size w w5) := (HB.out.alloc HB.out.size _).trans (grown_below hgrow5 (by omega) (by simp; have := HB.out.size; omega))
      clear hown5 hgrow5
      go_wp2_with (at_builtin; refine list_append rfl 70 70 (.tmp 11) (.tmp 23) rfl (vs := .slice (some ⟨w.heap.size + 1, 0, none⟩) (4 * k) 32) (vx := .slice (some ⟨wr.heap.size, 0, none⟩) 4 4) rfl rfl hrun5 ?_)
      go_roundw
      case rel => exact ⟨k + 1, by omega, rfl, by go_num, HO5.out, HB5.out⟩
      case measure => simp [intOf]; omega
    · have hk8 : k = 8 := by omega
      subst hk8
      have hcv : (convert 70 9 (.slice (some ⟨w.heap.size + 1, 0, none⟩) (4 * 8) 32)).run Tryz.prog wr = .ok (.string (strOfNums (bw f 8))) wr := by
        refine run_convert_bytes_arg wr 70 5 Tryz.underlying70 Tryz.underlying5 (w.heap.size + 1) 0 (4 * 8) 32 (bw f 8) (by rw [bw_length]) (fun i hi => ?_) 9 Tryz.underlying9
        rw [Nat.zero_add]
        refine own_cell HO.out ?_
        rw [List.getElem?_map, List.getElem?_eq_getElem (by rw [bw_length]; exact hi)]
        simp [List.getD, List.getElem?_eq_getElem (show i < (bw f 8).length by rw [bw_length]; exact hi)]
      go_wp2
      go_ret
      exact ⟨rfl, HB.out⟩
end Go.Proofs.YtheheaflebkipaaGreatDoor
