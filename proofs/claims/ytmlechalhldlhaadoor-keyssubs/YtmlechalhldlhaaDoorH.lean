import Derived.Test.YtmlechalhldlhaaDoorG
namespace Go.Proofs.YtmlechalhldlhaaDoor
open Go.RowKit Go.Lib
/-- A word's bytes, the greatest first. -/
def b4 (x : Int) : List Int := [x / 16777216 % 256, x / 65536 % 256, x / 256 % 256, x % 256]
/-- The bytes of the first k words. -/
def bw (f : Nat → Int) : Nat → List Int
  | 0 => []
  | k + 1 => bw f k ++ b4 (f k)
theorem bw_length (f : Nat → Int) (k : Nat) : (bw f k).length = 4 * k := by
  induction k with
  | zero => rfl
  | succ k ih => unfold bw; rw [List.length_append, ih]; simp [b4]; omega
theorem cell_four (w : World) (a b c d : Value) (t : TypeId) : ∀ j u, [a, b, c, d][j]? = some u → (w.alloc (.cells #[a, b, c, d] t)).cell? ((⟨w.heap.size, 0, none⟩ : Addr).add j) = some u := fun j u hj => by
  rw [Addr.add_lit, Nat.zero_add, cell_of_row _ _ _ _ _ _ (heap_alloc_new w _)]
  simpa using hj
set_option maxHeartbeats 1000000 in
theorem text_any (f : Nat → Int) (w : World) :
    Calls Tryd.prog 48 #[.agg (st8 f)] w fun e w' => e = .returned (.string (strOfNums (bw f 8))) ∧ Below w.heap.size w w' := by
  obtain ⟨i0, hi, hz0, hz1, hz2⟩ := info_parts info5
  have H1 : Hid ((w.alloc (.cells (st8 f) 75)).heap[w.heap.size]? = some (.cells (st8 f) 75 (0, 0))) := heap_alloc_new w _
  have B1 : Hid (Below w.heap.size w (w.alloc (.cells (st8 f) 75))) := (Below.refl _ w).alloc (Nat.le_refl _) _
  have S1 : Hid ((w.alloc (.cells (st8 f) 75)).heap.size = w.heap.size + 1) := by refine (?_ : _ = _); simp
  go_enter Tryd.func48, Tryd.ntmps48
  go_wp2_with (first
    | (at_make; refine wpList_make_own _ rfl _ _ 42 rfl (w.heap.size + 1) 5 i0 (.int .u8 0) 1 Tryd.underlying42 hi hz0 hz1 .i64 .i64 32 32 rfl rfl rfl (by rw [hz2]; decide) (by decide) (by simp) ?_; intro w2 hown2 hgrow2
       have H2 : Hid (w2.heap[w.heap.size]? = some (.cells (st8 f) 75 (0, 0))) := (hgrow2.block w.heap.size (by rw [S1.out]; omega) (by simp)).trans H1.out
       have B2 : Hid (Below w.heap.size w w2) := B1.out.grown hgrow2 (Nat.le_of_lt (by rw [S1.out]; omega)) (fun k e => by cases e)
       have O2 : Hid (w2.ownsRow (w.heap.size + 1) 5 1 (.slice (some ⟨w.heap.size + 1, 0, none⟩) 0 32) 0 []) := by rw [S1.out] at hown2; exact hown2
       clear hown2 hgrow2 H1 B1)
    | (refine wpList_load_row rfl 75 _ rfl w.heap.size rfl 75 _ (0, 0) _ H2.out Tryd.underlying75 rfl (by kernel_rfl) ?_))
  go_loopw [3, 8] (fun v i wr => ∃ k : Nat, k ≤ 8 ∧ v = .slice (some ⟨w.heap.size + 1, 0, none⟩) (4 * k) 32 ∧ i = .int .i64 (k : Int) ∧ wr.ownsRow (w.heap.size + 1) 5 1 (.slice (some ⟨w.heap.size + 1, 0, none⟩) (4 * k) 32) (4 * k) ((bw f k).map (Value.int .u8)) ∧ Below w.heap.size w wr) (fun _ i _ => 8 - (intOf i).toNat)
  case atStart => exact ⟨0, by omega, rfl, rfl, O2.out, B2.out⟩
  case round =>
    clear O2 B2 H2
    obtain ⟨k, hk, rfl, rfl, hown, hbl⟩ := hrel
    have HO : Hid (wr.ownsRow (w.heap.size + 1) 5 1 (.slice (some ⟨w.heap.size + 1, 0, none⟩) (4 * k) 32) (4 * k) ((bw f k).map (Value.int .u8))) := hown
    have HB : Hid (Below w.heap.size w wr) := hbl
    clear hown hbl
    by_cases hlt : k < 8
    · have hix := idx8 f k hlt
      have g0 : (0 : Int) ≤ (k : Int) := by omega
      have g1 : (k : Int) < 8 := by omega
      generalize hx : f k = x at *
      have HX : Hid (f k = x) := hx
      clear hx
      obtain ⟨w5, hrun5, hown5, hgrow5⟩ := run_append_fits (P := Tryd.prog) (wr.alloc (.cells #[.int .u8 (x / 16777216 % 256), .int .u8 (x / 65536 % 256), .int .u8 (x / 256 % 256), .int .u8 (x % 256)] 5)) (w.heap.size + 1) 42 42 5 i0 1 Tryd.underlying42 hi hz1 (w.heap.size + 1) (4 * k) 32 _ (HO.out.alloc _) ⟨wr.heap.size, 0, none⟩ 4 4 [.int .u8 (x / 16777216 % 256), .int .u8 (x / 65536 % 256), .int .u8 (x / 256 % 256), .int .u8 (x % 256)] rfl (cell_four _ _ _ _ _ _) (fun u hu => by simp at hu; rcases hu with rfl | rfl | rfl | rfl <;> rfl) (by omega)
      have HO5 : Hid (w5.ownsRow (w.heap.size + 1) 5 1 (.slice (some ⟨w.heap.size + 1, 0, none⟩) (4 * (k + 1)) 32) (4 * (k + 1)) ((bw f (k + 1)).map (Value.int .u8))) := by
        show w5.ownsRow (w.heap.size + 1) 5 1 (.slice (some ⟨w.heap.size + 1, 0, none⟩) (4 * k + 4) 32) (4 * k + 4) ((bw f k ++ b4 (f k)).map (Value.int .u8))
        rw [List.map_append, HX.out]; exact hown5
      have HB5 : Hid (Below w.heap.size w w5) := (HB.out.alloc HB.out.size _).trans (grown_below hgrow5 (by omega) (by simp; have := HB.out.size; omega))
      clear hown5 hgrow5
      go_wp2_with (at_builtin; refine list_append rfl 42 42 (.tmp 11) (.tmp 23) rfl (vs := .slice (some ⟨w.heap.size + 1, 0, none⟩) (4 * k) 32) (vx := .slice (some ⟨wr.heap.size, 0, none⟩) 4 4) rfl rfl hrun5 ?_)
      go_roundw
      case rel => exact ⟨k + 1, by omega, rfl, by go_num, HO5.out, HB5.out⟩
      case measure => simp [intOf]; omega
    · have hk8 : k = 8 := by omega
      subst hk8
      have hcv : (convert 42 9 (.slice (some ⟨w.heap.size + 1, 0, none⟩) (4 * 8) 32)).run Tryd.prog wr = .ok (.string (strOfNums (bw f 8))) wr := by
        refine run_convert_bytes_arg wr 42 5 Tryd.underlying42 Tryd.underlying5 (w.heap.size + 1) 0 (4 * 8) 32 (bw f 8) (by rw [bw_length]) (fun i hi => ?_) 9 Tryd.underlying9
        rw [Nat.zero_add]
        refine own_cell HO.out ?_
        rw [List.getElem?_map, List.getElem?_eq_getElem (by rw [bw_length]; exact hi)]
        simp [List.getD, List.getElem?_eq_getElem (show i < (bw f 8).length by rw [bw_length]; exact hi)]
      go_wp2
      go_ret
      exact ⟨rfl, HB.out⟩
end Go.Proofs.YtmlechalhldlhaaDoor
