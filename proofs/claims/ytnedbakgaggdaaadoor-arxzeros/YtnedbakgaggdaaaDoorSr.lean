import Derived.Test.YtnedbakgaggdaaaDoorSf
import Derived.Test.YtnedbakgaggdaaaDoorSq
import Derived.Test.YtnedbakgaggdaaaDoorH
import Derived.Deep.OwnRows
namespace Go.Proofs.YtnedbakgaggdaaaDoor
open Go.RowKit
theorem madeCells_get (n i : Nat) (hi : i < n) : (madeCells #[Value.int .u8 0] n)[i]? = some (.int .u8 0) := by
  unfold madeCells
  simp [hi, Nat.mod_one]
/-- Zero bytes at a block, as a text. -/
theorem zeros_conv {w : World} {g n : Nat} {tt : TypeId} {fr : Nat × Nat} (h : w.heap[g]? = some (.cells (madeCells #[.int .u8 0] n) tt fr)) :
    (convert 34 9 (.slice (some ⟨g, 0, none⟩) n n)).run Tryd.prog w = .ok (.string (zeros n)) w := by
  refine run_convert_bytes_arg w 34 5 Tryd.underlying34 Tryd.underlying5 g 0 n n (List.replicate n 0) (by simp) (fun i hi => ?_) 9 Tryd.underlying9
  rw [cell_of_row _ _ _ _ _ _ h, Nat.zero_add, madeCells_get n i hi]
  simp [List.getD, hi]
set_option maxHeartbeats 1000000 in
theorem zeros_walk (key nonce : ByteArray) (n : Int) (w : World) {tt : TypeId} {fr : Nat × Nat} (hg : w.heap[0]? = some (.cells tab tt fr)) :
    Calls Tryd.prog 8 #[.string key, .string nonce, .int .i64 n] w fun e w' => e = .returned (.bool true) ∧ Below w.heap.size w w' := by
  have hw0 : 0 < w.heap.size := (Array.getElem?_eq_some_iff.1 hg).1
  have HG : Hid _ := hg
  clear hg
  by_cases hn : n < 0 ∨ 40 < n
  · have g1 : decide (n < 0) = true ∨ (decide (n < 0) = false ∧ decide (40 < n) = true) := by simp; omega
    rcases g1 with g1 | ⟨g1, g2⟩
    · clear hn
      go_enter Tryd.func8, Tryd.ntmps8
      go_wp2_with (go_at_call 9; refine (shown_any _ HG.out).mono ?_; rintro e w1 ⟨rfl, hb1⟩)
      go_ret
      exact ⟨rfl, hb1⟩
    · clear hn
      go_enter Tryd.func8, Tryd.ntmps8
      go_wp2_with (go_at_call 9; refine (shown_any _ HG.out).mono ?_; rintro e w1 ⟨rfl, hb1⟩)
      go_ret
      exact ⟨rfl, hb1⟩
  · obtain ⟨m, rfl⟩ : ∃ m : Nat, n = (m : Int) := ⟨n.toNat, by omega⟩
    have m1 : m ≤ 40 := by omega
    have m2 : (m : Int) ≤ 40 := by omega
    have M1 : Hid (m ≤ 40) := m1
    clear hn
    obtain ⟨xs, er, B, HX, HB, hlast⟩ : ∃ (xs : ByteArray) (er : Int) (B : Nat → ByteArray), Hid (∀ W : World, Below w.heap.size w W → Calls Tryd.prog 14 #[.string key, .string nonce, .string (zeros (64 * m))] W fun e w' => e = .returned (.tuple #[.string xs, .int .i64 er]) ∧ Below W.heap.size W w') ∧
        Hid (∀ (k : Nat) (W : World), Below w.heap.size w W → Calls Tryd.prog 12 #[.string key, .int .u32 (k : Int), .string nonce] W fun e w' => e = .returned (.tuple #[.string (B k), .int .i64 er]) ∧ Below W.heap.size W w') ∧
        (∃ ac : Nat → ByteArray, ac 0 = ByteArray.empty ∧ (∀ k, ac (k + 1) = ac k ++ B k) ∧ ac m = xs ∧ ∀ k, (ac k).size ≤ 64 * k) ∧ ∀ k, (B k).size ≤ 64 := by
      by_cases h : key.size = 32 ∧ nonce.size = 12
      · refine ⟨_, 0, fun k => blkS key (k : Int) nonce, fun W hW => Xor_yes key nonce _ W h.1 h.2 (by rw [zeros_size]; omega) ((hW.block 0 hw0).trans HG.out), fun k W hW => Block_yes key nonce _ W h.1 h.2 ((hW.block 0 hw0).trans HG.out), ⟨blks key nonce, rfl, fun _ => rfl, (zeros_stream key nonce h.1 h.2 m).symm, fun k => by rw [blks_size]; omega⟩, fun k => by rw [blkS_size]; omega⟩
      · refine ⟨ByteArray.empty, 2, fun _ => ByteArray.empty, fun W _ => Xor_no key nonce _ W h, fun k W _ => (Block_no key nonce _ W h).mono fun e w' ⟨h1, h2⟩ => ⟨h1, by rw [h2]; exact Below.refl _ _⟩, ⟨fun _ => ByteArray.empty, rfl, fun _ => rfl, rfl, fun k => by simp⟩, fun k => by simp⟩
    obtain ⟨⟨ac, hac0, hac1, hacm, hacs⟩, hBs⟩ := hlast
    have HA1 : Hid _ := hac1
    have HAm : Hid _ := hacm
    have HAs : Hid _ := hacs
    have HBs : Hid _ := hBs
    clear hac1 hacm hacs hBs m1
    have hmk : ∀ W : World, (Instr.makeSlice 34 (.int .i64 (64 * (m : Int))) (.int .i64 (64 * (m : Int)))).run Tryd.prog W = .ok (.slice (some ⟨W.heap.size, 0, none⟩) (64 * m) (64 * m)) (W.alloc (.cells (madeCells #[.int .u8 0] (64 * m)) 5)) := by
      have e : (64 * (m : Int)) = ((64 * m : Nat) : Int) := by omega
      rw [e]
      exact run_make_row' (P := Tryd.prog) 34 5 (.int .u8 0) 1 Tryd.underlying34 info5 rfl .i64 .i64 (64 * m) (by have := M1.out; omega) (by have := M1.out; omega)
    have hcv : ∀ W : World, (convert 34 9 (.slice (some ⟨W.heap.size, 0, none⟩) (64 * m) (64 * m))).run Tryd.prog (W.alloc (.cells (madeCells #[.int .u8 0] (64 * m)) 5)) = .ok (.string (zeros (64 * m))) (W.alloc (.cells (madeCells #[.int .u8 0] (64 * m)) 5)) :=
      fun W => zeros_conv (heap_alloc_new W _)
    go_enter Tryd.func8, Tryd.ntmps8
    go_wp2_with (go_at_call 9; refine (shown_any _ HG.out).mono ?_; rintro e w1 ⟨rfl, hb1⟩)
    have hb2 : Below w.heap.size w (w1.alloc (.cells (madeCells #[.int .u8 0] (64 * m)) 5)) := hb1.alloc hb1.size _
    refine (HX.out _ hb2).mono ?_
    rintro e w2 ⟨rfl, hbX⟩
    have h2 := hb2.trans (hbX.mono hb2.size)
    clear hb1 hb2 hbX hmk hcv
    go_wp2
    go_loopw [10, 11] (fun v i wr => ∃ k : Nat, k ≤ m ∧ i = .int .i64 k ∧ v = .string (ac k) ∧ Below w.heap.size w wr) (fun _ i _ => m - (intOf i).toNat)
    case atStart => exact ⟨0, by omega, rfl, by rw [hac0]; rfl, h2⟩
    case round =>
      clear h2
      obtain ⟨k, hk, rfl, rfl, hbr⟩ := hrel
      by_cases hlt : k < m
      · have k1 : (k : Int) < (m : Int) := by omega
        have hsz : (ac k).size ≤ 2560 := by have := HAs.out k; omega
        have hbz : (B k).size ≤ 64 := HBs.out k
        go_wp2_with fail
        refine (HB.out k _ hbr).mono ?_
        rintro e w3 ⟨rfl, hb3⟩
        have h3 := hbr.trans (hb3.mono hbr.size)
        clear hbr hb3
        have hnc : ¬ 9223372036854775807 < (ac k).size + (B k).size := by omega
        have hq : (er == er) = true := by simp
        go_wp2
        go_roundw
        case rel => exact ⟨k + 1, by omega, by go_num, by rw [HA1.out], h3⟩
        case measure => simp [intOf]; omega
      · obtain rfl : k = m := by omega
        have hm := HAm.out
        rw [hm]
        go_wp2
        go_ret
        exact ⟨rfl, hbr⟩
end Go.Proofs.YtnedbakgaggdaaaDoor
