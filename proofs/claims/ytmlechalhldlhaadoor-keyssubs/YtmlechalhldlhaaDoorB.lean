import Derived.Test.YtmlechalhldlhaaDoorA
import Derived.Deep.RegionHeld3
import Derived.BigRegion
import Derived.Laws.CopyOwn
namespace Go.Proofs.YtmlechalhldlhaaDoor
open Go.RowKit
theorem w64_one (f : Nat → Int) : (w64 f).all (·.oneCell') = true := by
  rw [Array.all_eq_true]
  intro i h
  simp [w64, Value.oneCell']
theorem set_row64 (w : World) (B a : Nat) (f : Nat → Int) (x : Int) (hb : w.heap[B]? = some (.cells (w64 f) 68 (0, 0))) :
    (w.setCell ⟨B, a, none⟩ (.int .u32 x)).heap[B]? = some (.cells (w64 (upd f a x)) 68 (0, 0)) := by
  rw [heap_setCell_same w B a _ _ _ hb, w64_set]
theorem two_new (w : World) (a b : Obj) : ((w.alloc a).alloc b).heap[w.heap.size]? = some a ∧ ((w.alloc a).alloc b).heap[w.heap.size + 1]? = some b ∧ Below w.heap.size w ((w.alloc a).alloc b) := by
  refine ⟨?_, ?_, ((Below.refl _ w).alloc (Nat.le_refl _) _).alloc (by simp) _⟩
  · rw [Below.heap_alloc _ _ _ (by simp)]
    exact heap_alloc_new w a
  · simpa using heap_alloc_new (w.alloc a) b
def z64 : Array Value := #[.int .u32 0, .int .u32 0, .int .u32 0, .int .u32 0, .int .u32 0, .int .u32 0, .int .u32 0, .int .u32 0, .int .u32 0, .int .u32 0, .int .u32 0, .int .u32 0, .int .u32 0, .int .u32 0, .int .u32 0, .int .u32 0, .int .u32 0, .int .u32 0, .int .u32 0, .int .u32 0, .int .u32 0, .int .u32 0, .int .u32 0, .int .u32 0, .int .u32 0, .int .u32 0, .int .u32 0, .int .u32 0, .int .u32 0, .int .u32 0, .int .u32 0, .int .u32 0, .int .u32 0, .int .u32 0, .int .u32 0, .int .u32 0, .int .u32 0, .int .u32 0, .int .u32 0, .int .u32 0, .int .u32 0, .int .u32 0, .int .u32 0, .int .u32 0, .int .u32 0, .int .u32 0, .int .u32 0, .int .u32 0, .int .u32 0, .int .u32 0, .int .u32 0, .int .u32 0, .int .u32 0, .int .u32 0, .int .u32 0, .int .u32 0, .int .u32 0, .int .u32 0, .int .u32 0, .int .u32 0, .int .u32 0, .int .u32 0, .int .u32 0, .int .u32 0]
theorem z64_eq : z64 = w64 (fun _ => 0) := by
  apply Array.ext
  · rw [w64_size]; rfl
  · intro i h1 h2
    have h : i < 64 := by rw [w64_size] at h2; exact h2
    simp only [w64, Array.getElem_ofFn]
    revert i
    unfold z64
    intro i h1 h2 h
    match i, h with
    | 0, _ | 1, _ | 2, _ | 3, _ | 4, _ | 5, _ | 6, _ | 7, _ | 8, _ | 9, _ | 10, _ | 11, _ | 12, _ | 13, _ | 14, _ | 15, _ => rfl
    | 16, _ | 17, _ | 18, _ | 19, _ | 20, _ | 21, _ | 22, _ | 23, _ | 24, _ | 25, _ | 26, _ | 27, _ | 28, _ | 29, _ | 30, _ | 31, _ => rfl
    | 32, _ | 33, _ | 34, _ | 35, _ | 36, _ | 37, _ | 38, _ | 39, _ | 40, _ | 41, _ | 42, _ | 43, _ | 44, _ | 45, _ | 46, _ | 47, _ => rfl
    | 48, _ | 49, _ | 50, _ | 51, _ | 52, _ | 53, _ | 54, _ | 55, _ | 56, _ | 57, _ | 58, _ | 59, _ | 60, _ | 61, _ | 62, _ | 63, _ => rfl
    | k + 64, h => exact absurd h (by omega)
set_option maxHeartbeats 1000000 in
theorem schedule_any (q : Nat → Int) (b cap : Nat) (w : World) (hb : b < w.heap.size) (hq : ∀ j, j < 64 → w.cell? ⟨b, j, none⟩ = some (.int .u8 (q j))) (hr : ∀ j, 0 ≤ q j ∧ q j < 256) :
    Calls Tryd.prog 50 #[.slice (some ⟨b, 0, none⟩) 64 cap] w fun e w' => e = .returned (.agg (w64 (sch q))) ∧ Below w.heap.size w w' := by
  have HQ : Hid _ := hq
  have HR : Hid _ := hr
  clear hq hr
  go_enter Tryd.func50, Tryd.ntmps50
  go_wp2_with fail
  go_loopw [11] (fun i wr => ∃ k : Nat, k ≤ 64 ∧ i = .int .i64 k ∧ wr.heap[w.heap.size]? = some (.cells (w64 fun _ => 0) 68 (0, 0)) ∧ wr.heap[w.heap.size + 1]? = some (.cells (w64 (rw4 q k)) 68 (0, 0)) ∧ Below w.heap.size w wr) (fun i _ => 64 - (intOf i).toNat)
  case atStart =>
    have h2 := two_new w (.cells z64 68) (.cells z64 68)
    rw [z64_eq] at h2
    rw [← z64_eq] at h2
    exact ⟨0, by omega, rfl, z64_eq ▸ h2.1, z64_eq ▸ h2.2.1, h2.2.2⟩
  case round =>
    obtain ⟨k, hk, rfl, h0, h1, hbl⟩ := hrel
    have H0 : Hid _ := h0
    have H1 : Hid _ := h1
    have HB : Hid _ := hbl
    clear h0 hbl
    by_cases hlt : k < 64
    · have hc : wr.cell? ⟨b, k, none⟩ = some (.int .u8 (q k)) := (HB.out.cell (p := ⟨b, k, none⟩) hb).trans (HQ.out k hlt)
      obtain ⟨a, ha⟩ : ∃ a, k / 4 = a := ⟨_, rfl⟩
      have ha2 : a < 64 := by omega
      have hcw : wr.cell? ⟨w.heap.size + 1, a, none⟩ = some (.int .u32 (rw4 q k a)) := by
        rw [cell_of_row _ _ _ _ _ _ h1, w64_get _ _ ha2]
      have hz := frozen_of_row _ _ a _ _ h1
      have g0 : (0 : Int) ≤ (k : Int) := by omega
      have g1 : (k : Int) < 64 := by omega
      have g2 : (0 : Int) ≤ (a : Int) := by omega
      have g3 : (a : Int) < 64 := by omega
      have d0 : (k : Int).tdiv 4 = (a : Int) := by rw [Int.tdiv_eq_ediv_of_nonneg g0]; omega
      have d1 : (k : Int) / 4 = (a : Int) := by omega
      have hq0 := (HR.out k).1
      have hq1 := (HR.out k).2
      have HA : Hid _ := ha
      clear h1 ha
      go_wp2
      have fB : (wr.setCell ⟨w.heap.size + 1, a, none⟩ (.int .u32 (bits .or .u32 (rw4 q k a * 256 % 4294967296) (q k)))).heap[w.heap.size + 1]? = some (.cells (w64 (rw4 q (k + 1))) 68 (0, 0)) := by
        rw [set_row64 _ _ _ _ _ H1.out, ← HA.out]; rfl
      exact ⟨⟨k + 1, by omega, by go_num, (Below.heap_setCell _ _ _ _ (by simp)).trans H0.out, fB, HB.out.setCell (by simp) _⟩, by simp [intOf]; omega⟩
    · have hk64 : k = 64 := by omega
      rw [show (k : Int) = 64 by omega]
      rw [hk64] at H1
      clear h1 hk hlt hk64
      go_wp2_with fail
      go_loopw [6] (fun i wr => ∃ k : Nat, k ≤ 48 ∧ i = .int .i64 (16 + (k : Int)) ∧ wr.heap[w.heap.size]? = some (.cells (w64 fun _ => 0) 68 (0, 0)) ∧ wr.heap[w.heap.size + 1]? = some (.cells (w64 (sw (rw4 q 64) k)) 68 (0, 0)) ∧ Below w.heap.size w wr) (fun i _ => 64 - (intOf i).toNat)
      case atStart => exact ⟨0, by omega, rfl, H0.out, H1.out, HB.out⟩
      case round =>
        clear H0 H1 HB
        obtain ⟨k, hk, rfl, h0, h1, hbl⟩ := hrel
        obtain ⟨f0, hf0⟩ : ∃ f0, rw4 q 64 = f0 := ⟨_, rfl⟩
        rw [hf0] at h1
        have HF0 : Hid (rw4 q 64 = f0) := hf0
        clear hf0
        have H0 : Hid _ := h0
        have H1 : Hid _ := h1
        have HB : Hid _ := hbl
        clear h0 hbl
        by_cases hlt : k < 48
        · obtain ⟨F, hF⟩ : ∃ F, sw f0 k = F := ⟨_, rfl⟩
          have HF : Hid _ := hF
          rw [hF] at h1
          have c2 : wr.cell? ⟨w.heap.size + 1, k + 14, none⟩ = some (.int .u32 (F (k + 14))) := by rw [cell_of_row _ _ _ _ _ _ h1, w64_get _ _ (by omega)]
          have c15 : wr.cell? ⟨w.heap.size + 1, k + 1, none⟩ = some (.int .u32 (F (k + 1))) := by rw [cell_of_row _ _ _ _ _ _ h1, w64_get _ _ (by omega)]
          have c16 : wr.cell? ⟨w.heap.size + 1, k, none⟩ = some (.int .u32 (F k)) := by rw [cell_of_row _ _ _ _ _ _ h1, w64_get _ _ (by omega)]
          have c7 : wr.cell? ⟨w.heap.size + 1, k + 9, none⟩ = some (.int .u32 (F (k + 9))) := by rw [cell_of_row _ _ _ _ _ _ h1, w64_get _ _ (by omega)]
          have c0 : wr.cell? ⟨w.heap.size + 1, k + 16, none⟩ = some (.int .u32 (F (k + 16))) := by rw [cell_of_row _ _ _ _ _ _ h1, w64_get _ _ (by omega)]
          have hz := frozen_of_row _ _ (k + 16) _ _ h1
          have g0 : (0 : Int) ≤ (k : Int) := by omega
          have g1 : (k : Int) < 48 := by omega
          have i2 : (16 : Int) + (k : Int) - 2 = ((k + 14 : Nat) : Int) := by omega
          have i15 : (16 : Int) + (k : Int) - 15 = ((k + 1 : Nat) : Int) := by omega
          have i16 : (16 : Int) + (k : Int) - 16 = (k : Int) := by omega
          have i7 : (16 : Int) + (k : Int) - 7 = ((k + 9 : Nat) : Int) := by omega
          clear h1 hF
          go_wp2_with fail
          go_quiet (fail)
          obtain ⟨wd, hwd⟩ : ∃ wd, wr.drewN nq = wd := ⟨_, rfl⟩
          have d16 : wd.cell? ⟨w.heap.size + 1, k, none⟩ = some (.int .u32 (F k)) := by rw [← hwd]; exact c16
          have d7 : wd.cell? ⟨w.heap.size + 1, k + 9, none⟩ = some (.int .u32 (F (k + 9))) := by rw [← hwd]; exact c7
          have d0 : wd.cell? ⟨w.heap.size + 1, 16 + k, none⟩ = some (.int .u32 (F (k + 16))) := by rw [← hwd, Nat.add_comm 16 k]; exact c0
          have dz : wd.frozen? ⟨w.heap.size + 1, 16 + k, none⟩ = false := by rw [← hwd, Nat.add_comm 16 k]; exact hz
          have D0 : Hid (wd.heap[w.heap.size]? = some (.cells (w64 fun _ => 0) 68 (0, 0))) := by rw [← hwd]; exact H0.out
          have D1 : Hid (wd.heap[w.heap.size + 1]? = some (.cells (w64 F) 68 (0, 0))) := by rw [← hwd, ← HF.out]; exact H1.out
          have DB : Hid (Below w.heap.size w wd) := by rw [← hwd]; exact below_drewN HB.out _
          rw [hwd]
          clear hwd c2 c15 c16 c7 c0 hz H0 H1 HB i2 i15
          go_wp2_with fail
          refine (turn17_any _ _).mono ?_; rintro e w' ⟨rfl, rfl⟩
          go_wp2_with fail
          refine (turn19_any _ _).mono ?_; rintro e w' ⟨rfl, rfl⟩
          go_wp2_with fail
          refine (turn7_any _ _).mono ?_; rintro e w' ⟨rfl, rfl⟩
          go_wp2_with fail
          refine (turn18_any _ _).mono ?_; rintro e w' ⟨rfl, rfl⟩
          go_wp2_with fail
          go_region
          have hx : (F k + bits BinOp.xor IntKind.u32 (bits BinOp.xor IntKind.u32 (t7 (F (k + 1))) (t18 (F (k + 1)))) (F (k + 1) / 8) + F (k + 9) + bits BinOp.xor IntKind.u32 (bits BinOp.xor IntKind.u32 (t17 (F (k + 14))) (t19 (F (k + 14)))) (F (k + 14) / 1024)) % 4294967296 = ext F (16 + k) := by
            unfold ext e0 e1
            rw [show 16 + k - 16 = k by omega, show 16 + k - 15 = k + 1 by omega, show 16 + k - 7 = k + 9 by omega, show 16 + k - 2 = k + 14 by omega]
          rw [hx]
          clear hx d16 d7 d0 dz i16 i7
          go_wp2
          have fB : (w'.setCell ⟨w.heap.size + 1, 16 + k, none⟩ (.int .u32 (ext F (16 + k)))).heap[w.heap.size + 1]? = some (.cells (w64 (sw f0 (k + 1))) 68 (0, 0)) := by
            rw [set_row64 _ _ _ _ _ D1.out, ← HF.out]; rfl
          go_roundw
          case rel => exact ⟨k + 1, by omega, by go_num, (Below.heap_setCell _ _ _ _ (by simp)).trans D0.out, by rw [HF0.out]; exact fB, (DB.out.setCell (by simp) _).drew⟩
          case measure => simp [intOf]; omega
        · obtain rfl : k = 48 := by omega
          clear h1 hk
          have e16 : (16 : Int) + ((48 : Nat) : Int) = 64 := rfl
          go_wp2_with (first | (refine wpList_load_row rfl 68 _ rfl (w.heap.size + 1) rfl 68 _ (0, 0) _ H1.out Tryd.underlying68 rfl (by rw [w64_size]; kernel_rfl) ?_) | (refine wpList_store_row rfl 68 _ _ rfl w.heap.size _ rfl rfl 68 _ H0.out (by rw [w64_size]; kernel_rfl) (by rw [w64_size, w64_size]) (w64_one _) ?_))
          refine bodyPost_ret (results_cell_row Tryd.results50 _ _ w.heap.size 68 _ (0, 0) _ rfl (setRow_heap _ _ _ _ _ _ H0.out) Tryd.underlying68 rfl (by rw [w64_size]; kernel_rfl)) rfl ⟨?_, below_setRow HB.out (Nat.le_refl _) _⟩
          rw [show sch q = sw f0 48 by rw [← HF0.out]; rfl]
end Go.Proofs.YtmlechalhldlhaaDoor
