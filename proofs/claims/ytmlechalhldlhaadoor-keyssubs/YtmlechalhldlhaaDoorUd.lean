/- A mask; the mac. -/
import Derived.Test.YtmlechalhldlhaaDoorUc
import Derived.Laws.IdiomStrings
namespace Go.Proofs.YtmlechalhldlhaaDoor
open Go.RowKit Go.Lib
/-- A text, each byte xor a mask. -/
def msk (s : ByteArray) (c : Int) : ByteArray := strOfNums (upto (fun j => bits .xor .u8 (bt s j) c) s.size)
theorem msk_size (s : ByteArray) (c : Int) : (msk s c).size = s.size := by unfold msk; rw [strOfNums_size, upto_length]
theorem set_at (w : World) (b i : Nat) (cs : Array Value) (T : TypeId) (fr : Nat × Nat) (v : Value) (hb : w.heap[b]? = some (.cells cs T fr)) : (w.setCell ⟨b, i, none⟩ v).heap[b]? = some (.cells (cs.setIfInBounds i v) T fr) := by
  rw [setCell_eq_setRow w b i cs T fr v hb]
  exact setRow_heap w b cs _ T _ hb
set_option maxHeartbeats 1000000 in
theorem masked_any (s : ByteArray) (hs : s.size ≤ 1000000) (c : Int) (w : World) :
    Calls Tryd.prog 35 #[.string s, .int .u8 c] w fun e w' => e = .returned (.string (msk s c)) ∧ Below w.heap.size w w' := by
  have hcv := run_bytes_of_string (P := Tryd.prog) w 9 42 5 s Tryd.underlying9 Tryd.underlying42 Tryd.underlying5
  obtain ⟨cap, hcap⟩ : ∃ cap, grownCap w s.size 0 5 = cap := ⟨_, rfl⟩
  rw [hcap] at hcv
  obtain ⟨Z, hZ⟩ : ∃ Z, (bytesRow s cap).size = Z := ⟨_, rfl⟩
  rw [hZ] at hcv
  have hZs : s.size ≤ Z := by
    rw [← hZ]; unfold bytesRow; rw [Array.size_append, Array.size_map]; exact Nat.le_add_right _ _
  obtain ⟨W1, hW1⟩ : ∃ W1, w.drew.alloc (.cells (bytesRow s cap) 5 (Z, Z + 1)) = W1 := ⟨_, rfl⟩
  rw [hW1] at hcv
  have R1 : Hid (W1.heap[w.heap.size]? = some (.cells (bytesRow s cap) 5 (Z, Z + 1))) := by rw [← hW1]; exact heap_alloc_new w.drew _
  have B1 : Hid (Below w.heap.size w W1) := by rw [← hW1]; exact ((Below.refl _ w).drew).alloc (Nat.le_refl _) _
  have C1 : Hid (∀ j, j < s.size → (bytesRow s cap)[j]? = some (.int .u8 (bt s j))) := fun j hj => by
    rw [bytesRow_at s cap j hj]; unfold bt; rw [Array.getElem?_eq_getElem hj]; rfl
  have hsz : (s.size : Int) ≤ 1000000 := by omega
  generalize bytesRow s cap = cs at *
  clear hW1 hcap hZ
  go_enter Tryd.func35, Tryd.ntmps35
  go_wp2_with fail
  go_loopw [11] (fun i wr => ∃ (k : Nat) (ds : Array Value), k ≤ s.size ∧ i = .int .i64 (k : Int) ∧ wr.heap[w.heap.size]? = some (.cells ds 5 (Z, Z + 1)) ∧ (∀ j, j < s.size → ds[j]? = some (.int .u8 (if j < k then bits .xor .u8 (bt s j) c else bt s j))) ∧ Below w.heap.size w wr) (fun i _ => s.size - (intOf i).toNat)
  case atStart => exact ⟨0, cs, by omega, rfl, R1.out, fun j hj => by simpa using C1.out j hj, B1.out⟩
  case round =>
    clear R1 B1 C1
    obtain ⟨k, ds, hk, rfl, hrow, hds, hbe⟩ := hrel
    have RX : Hid (wr.heap[w.heap.size]? = some (.cells ds 5 (Z, Z + 1))) := hrow
    have DX : Hid (∀ j, j < s.size → ds[j]? = some (.int .u8 (if j < k then bits .xor .u8 (bt s j) c else bt s j))) := hds
    have BX : Hid (Below w.heap.size w wr) := hbe
    clear hds hbe
    by_cases hlt : k < s.size
    · have c1 : wr.cell? ⟨w.heap.size, k, none⟩ = some (.int .u8 (bt s k)) := by rw [cell_of_row _ _ _ _ _ _ hrow, DX.out k hlt]; simp
      have hz : wr.frozen? ⟨w.heap.size, k, none⟩ = false := by simp [World.frozen?, hrow]; omega
      have g0 : (0 : Int) ≤ (k : Int) := by omega
      have g1 : (k : Int) < (s.size : Int) := by omega
      clear hrow
      obtain ⟨x, hx⟩ : ∃ x, bt s k = x := ⟨_, rfl⟩
      have HX : Hid (bt s k = x) := hx
      rw [hx] at c1
      clear hx
      go_wp2_with fail
      go_roundw
      case rel =>
        refine ⟨k + 1, ds.setIfInBounds k (.int .u8 (bits .xor .u8 x c)), hlt, by go_num, set_at _ _ _ _ _ _ _ RX.out, fun j hj => ?_, BX.out.setCell (Nat.le_refl _) _⟩
        by_cases e : j = k
        · subst e
          rw [Array.getElem?_setIfInBounds_self_of_lt (by have := DX.out j hj; exact (Array.getElem?_eq_some_iff.1 this).1), if_pos (by omega), HX.out]
        · rw [Array.getElem?_setIfInBounds_ne (fun h => e h.symm), DX.out j hj]
          by_cases h2 : j < k
          · rw [if_pos h2, if_pos (by omega)]
          · rw [if_neg h2, if_neg (by omega)]
      case measure => simp [intOf]; omega
    · obtain rfl : k = s.size := by omega
      have a0 : ¬ (s.size : Int) < (s.size : Int) := by omega
      have hcb : (convert 42 9 (.slice (some ⟨w.heap.size, 0, none⟩) s.size cap)).run Tryd.prog wr = .ok (.string (msk s c)) wr := by
        unfold msk
        refine run_convert_bytes_arg wr 42 5 Tryd.underlying42 Tryd.underlying5 w.heap.size 0 s.size cap _ (by rw [upto_length]) (fun i hi => ?_) 9 Tryd.underlying9
        rw [Nat.zero_add, cell_of_row _ _ _ _ _ _ hrow, DX.out i hi, if_pos hi]
        simp [upto, List.getD, hi]
      clear hrow
      go_wp2_with fail
      go_ret
      exact ⟨rfl, BX.out⟩
end Go.Proofs.YtmlechalhldlhaaDoor
