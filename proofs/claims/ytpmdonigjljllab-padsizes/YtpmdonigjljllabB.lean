/- pad.body: a text's body. -/
import Derived.Test.YtpmdonigjljllabA
import Derived.Deep.OwnRows
import Derived.Laws.IdiomStrings
namespace Go.Proofs.Ytpmdonigjljllab
open Go.RowKit
/-- The number in a slot. -/
def natOf : Value → Nat | .int _ x => x.toNat | _ => 0
theorem info5 : (Try.prog.info? 5).map (fun i => (i.zero, i.size, i.bytes)) = some (some (.int .u8 0), 1, 1) := by kernel_rfl
theorem idx_s (s : ByteArray) (p : Nat) (hp : p < s.size) (w : World) : (Instr.index 9 (.string s) (.int .i64 (p : Int))).run Try.prog w = .ok (.int .u8 (bt s p)) w := by
  have h0 : (p : Int) < (s.size : Int) := by omega
  simp [Instr.index, run_underlying Try.underlying9, go_sem, hp]
  unfold bt
  rw [Array.getElem?_eq_getElem (by exact hp)]
  rfl
theorem set_at (w : World) (b i : Nat) (cs : Array Value) (T : TypeId) (fr : Nat × Nat) (v : Value) (hb : w.heap[b]? = some (.cells cs T fr)) : (w.setCell ⟨b, i, none⟩ v).heap[b]? = some (.cells (cs.setIfInBounds i v) T fr) := by
  rw [setCell_eq_setRow w b i cs T fr v hb]
  exact setRow_heap w b cs _ T _ hb
set_option maxRecDepth 100000 in
set_option maxHeartbeats 1000000 in
theorem body_any (s : ByteArray) (hs : s.size ≤ 198) (w : World) :
    Calls Try.prog 7 #[.string s] w fun e w' => e = .returned (.string (bodyS s)) ∧ Below w.heap.size w w' := by
  have hmk : ∀ w : World, (Instr.makeSlice 26 (.int .i64 200) (.int .i64 200)).run Try.prog w = .ok (.slice (some ⟨w.heap.size, 0, none⟩) 200 200) (w.alloc (.cells (madeCells #[.int .u8 0] 200) 5)) := fun w =>
    run_make_row' 26 5 (.int .u8 0) 1 Try.underlying26 info5 rfl .i64 .i64 200 (by decide) (by decide) w
  have hcs : ∀ j, j < 200 → (madeCells #[Value.int .u8 0] 200)[j]? = some (.int .u8 0) := fun j hj => by
    simp [madeCells, hj, Nat.mod_one]
  obtain ⟨cs, hc⟩ : ∃ cs, madeCells #[Value.int .u8 0] 200 = cs := ⟨_, rfl⟩
  rw [hc] at hmk hcs
  clear hc
  have HC : Hid (∀ j, j < 200 → cs[j]? = some (.int .u8 0)) := hcs
  have k0 := hcs 0 (by omega)
  have k1 := hcs 1 (by omega)
  have k2 : (cs.setIfInBounds 0 (.int .u8 ((s.size : Int) / 256)))[1]? = some (.int .u8 0) := by rw [Array.getElem?_setIfInBounds_ne (by omega)]; exact k1
  clear hcs k1
  go_enter Try.func7, Try.ntmps7
  go_wp2_with fail
  have D0 : Hid (∀ j, j < 200 → ((cs.setIfInBounds 0 (.int .u8 ((s.size : Int) / 256))).setIfInBounds 1 (.int .u8 (s.size : Int)))[j]? = some (.int .u8 (if j < 0 + 2 then bodyN s j else 0))) := fun j hj => by
    have hz : 200 ≤ cs.size := by
      have := (Array.getElem?_eq_some_iff.1 (HC.out 199 (by omega))).1
      omega
    by_cases h1 : j = 1
    · subst h1
      rw [Array.getElem?_setIfInBounds_self_of_lt (by rw [Array.size_setIfInBounds]; omega), if_pos (by omega)]
      simp only [bodyN, if_true, if_false, Nat.one_ne_zero]
      congr 2; omega
    · rw [Array.getElem?_setIfInBounds_ne (fun h => h1 h.symm)]
      by_cases h0 : j = 0
      · subst h0
        rw [Array.getElem?_setIfInBounds_self_of_lt (by omega), if_pos (by omega)]
        simp only [bodyN, if_true]
        congr 2
      · rw [Array.getElem?_setIfInBounds_ne (fun h => h0 h.symm), HC.out j hj, if_neg (by omega)]
  generalize (cs.setIfInBounds 0 (.int .u8 ((s.size : Int) / 256))).setIfInBounds 1 (.int .u8 (s.size : Int)) = es at *
  clear k0 k2 HC hmk
  go_loopw [19] (fun i wr => ∃ (k : Nat) (ds : Array Value), k ≤ s.size ∧ i = .int .i64 (k : Int) ∧ wr.heap[w.heap.size]? = some (.cells ds 5 (0, 0)) ∧ (∀ j, j < 200 → ds[j]? = some (.int .u8 (if j < k + 2 then bodyN s j else 0))) ∧ Below w.heap.size w wr) (fun i _ => s.size - natOf i)
  case atStart => exact ⟨0, es, by omega, rfl, heap_alloc_new w _, D0.out, below_new w _⟩
  case round =>
    clear D0
    obtain ⟨k, ds, hk, rfl, hrow, hds, hbe⟩ := hrel
    have RX : Hid (wr.heap[w.heap.size]? = some (.cells ds 5 (0, 0))) := hrow
    have DX : Hid (∀ j, j < 200 → ds[j]? = some (.int .u8 (if j < k + 2 then bodyN s j else 0))) := hds
    have BX : Hid (Below w.heap.size w wr) := hbe
    clear hds hbe
    by_cases hlt : k < s.size
    · have c1 : wr.cell? ⟨w.heap.size, k + 2, none⟩ = some (.int .u8 0) := by rw [cell_of_row _ _ _ _ _ _ hrow, DX.out (k + 2) (by omega)]; simp
      have c2 : wr.cell? ⟨w.heap.size, 2 + k, none⟩ = some (.int .u8 0) := by rw [Nat.add_comm]; exact c1
      have hz : wr.frozen? ⟨w.heap.size, 2 + k, none⟩ = false := frozen_of_row wr _ _ _ _ hrow
      have g0 : (0 : Int) ≤ (k : Int) := by omega
      have g1 : (k : Int) < (s.size : Int) := by omega
      have g2 : (k : Int) < 198 := by omega
      have hix := idx_s s k hlt
      obtain ⟨x, hx⟩ : ∃ x, bt s k = x := ⟨_, rfl⟩
      have HX : Hid (bt s k = x) := hx
      rw [hx] at hix
      clear hrow hx c1
      go_wp2_with fail
      go_roundw
      case rel =>
        refine ⟨k + 1, ds.setIfInBounds (2 + k) (.int .u8 x), hlt, by go_num, set_at _ _ _ _ _ _ _ RX.out, fun j hj => ?_, BX.out.setCell (Nat.le_refl _) _⟩
        by_cases e : j = 2 + k
        · subst e
          rw [Array.getElem?_setIfInBounds_self_of_lt (by have := DX.out _ hj; exact (Array.getElem?_eq_some_iff.1 this).1), if_pos (by omega)]
          unfold bodyN
          rw [if_neg (by omega), if_neg (by omega), show 2 + k - 2 = k by omega, HX.out]
        · rw [Array.getElem?_setIfInBounds_ne (fun h => e h.symm), DX.out j hj]
          by_cases h2 : j < k + 2
          · rw [if_pos h2, if_pos (by omega)]
          · rw [if_neg h2, if_neg (by omega)]
      case measure => simp [natOf]; omega
    · obtain rfl : k = s.size := by omega
      have a0 : ¬ (s.size : Int) < (s.size : Int) := by omega
      have hcb : (convert 26 9 (.slice (some ⟨w.heap.size, 0, none⟩) 200 200)).run Try.prog wr = .ok (.string (bodyS s)) wr := by
        unfold bodyS
        refine run_convert_bytes_arg wr 26 5 Try.underlying26 Try.underlying5 w.heap.size 0 200 200 _ (by rw [upto_length]) (fun i hi => ?_) 9 Try.underlying9
        rw [Nat.zero_add, cell_of_row _ _ _ _ _ _ hrow, DX.out i hi, upto_get _ _ _ hi]
        by_cases h2 : i < s.size + 2
        · rw [if_pos h2]
        · rw [if_neg h2]
          unfold bodyN
          rw [if_neg (by omega), if_neg (by omega), bt_out _ _ (by omega)]
      clear hrow
      go_wp2_with fail
      go_ret
      exact ⟨rfl, BX.out⟩
end Go.Proofs.Ytpmdonigjljllab
