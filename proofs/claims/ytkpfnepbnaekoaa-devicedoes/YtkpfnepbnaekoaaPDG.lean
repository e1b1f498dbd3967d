/- Image; zeros; a row of blocks, all alike; New. -/
import Derived.Test.YtkpfnepbnaekoaaPDF
import Derived.Test.YtkpfnepbnaekoaaPAa
import Derived.Lib.Repeat
import Derived.Deep.OwnRows
namespace Go.Proofs.Ytkpfnepbnaekoaa.Rd
open Go.RowKit
open Go.ChangeMaps (setBlock)
/-- So many bytes 0. -/
def zs (n : Nat) : ByteArray := ⟨(List.replicate n (0 : UInt8)).toArray⟩
set_option maxRecDepth 100000 in
theorem zs_size (n : Nat) : (zs n).size = n := by simp [zs, ByteArray.size]
set_option maxRecDepth 100000 in
theorem repeat_zero (n : Nat) : Lib.repeatL [(0 : UInt8)] n = List.replicate n 0 := by
  induction n with
  | zero => rfl
  | succ n ih => simp [Lib.repeatL, List.replicate_succ] at ih ⊢; exact ih
set_option maxRecDepth 100000 in
set_option maxHeartbeats 1000000 in
theorem zeros_any (n : Nat) (hn : n ≤ 1000000) (w : World) :
    Calls Try.prog 30 #[.int .i64 (n : Int)] w fun e w' => e = .returned (.string (zs n)) ∧ Below w.heap.size w w' := by
  have hr := Try.strings_Repeat ⟨#[0]⟩ n w (by omega) (by simp [ByteArray.size]; omega)
  have hz : Lib.repeatL (ByteArray.mk #[0]).data.toList n = List.replicate n 0 := repeat_zero n
  rw [hz] at hr
  have HR : Hid (Calls Try.prog 49 #[.string ⟨#[0]⟩, .int .i64 (n : Int)] w fun e w' => e = .returned (.string (zs n)) ∧ Below w.heap.size w w') := hr
  clear hr hz
  go_enter Try.func30, Try.ntmps30
  go_wp2_with fail
  refine Calls.mono HR.out ?_
  rintro e w1 ⟨rfl, b1⟩
  have B1 : Hid _ := b1
  clear b1
  go_wp2_with fail
  go_ret
  exact ⟨rfl, B1.out⟩
/-- A row of texts. -/
def Txs (w : World) (g n : Nat) (f : Nat → ByteArray) : Prop := ∃ cs, w.heap[g]? = some (.cells cs 9 (0, 0)) ∧ cs.size = n ∧ ∀ i, i < n → cs[i]? = some (.string (f i))
set_option maxRecDepth 100000 in
theorem Txs.lt {w : World} {g n : Nat} {f : Nat → ByteArray} (h : Txs w g n f) : g < w.heap.size := by
  obtain ⟨cs, h1, h2⟩ := h
  exact (Array.getElem?_eq_some_iff.1 h1).1
set_option maxRecDepth 100000 in
theorem Txs.same {w w' : World} {g n : Nat} {f : Nat → ByteArray} (h : Txs w g n f) (e : w'.heap[g]? = w.heap[g]?) : Txs w' g n f := by
  obtain ⟨cs, h1, h2⟩ := h
  exact ⟨cs, e.trans h1, h2⟩
set_option maxRecDepth 100000 in
theorem Txs.cell {w : World} {g n : Nat} {f : Nat → ByteArray} (h : Txs w g n f) (i : Nat) (hi : i < n) : w.cell? ⟨g, i, none⟩ = some (.string (f i)) ∧ w.frozen? ⟨g, i, none⟩ = false := by
  obtain ⟨cs, h1, h2, h3⟩ := h
  exact ⟨by rw [cell_of_row _ _ _ _ _ _ h1, h3 i hi], frozen_of_row w _ _ _ _ h1⟩
set_option maxRecDepth 100000 in
theorem Txs.set {w : World} {g n : Nat} {f : Nat → ByteArray} (h : Txs w g n f) (i : Nat) (hi : i < n) (t : ByteArray) : Txs (w.setCell ⟨g, i, none⟩ (.string t)) g n (at' f i t) := by
  obtain ⟨cs, h1, h2, h3⟩ := h
  refine ⟨_, set_at _ _ _ _ _ _ _ h1, by simp [h2], fun q hq => ?_⟩
  rw [Array.getElem?_setIfInBounds]
  unfold at'
  by_cases hpq : q = i
  · subst hpq; rw [if_pos rfl, if_pos rfl, if_pos (by omega)]
  · rw [if_neg (by omega), if_neg hpq, h3 q hq]
set_option maxRecDepth 100000 in
theorem Txs.ext {w : World} {g n : Nat} {f f' : Nat → ByteArray} (h : Txs w g n f) (e : ∀ i, i < n → f i = f' i) : Txs w g n f' := by
  obtain ⟨cs, h1, h2, h3⟩ := h
  exact ⟨cs, h1, h2, fun i hi => by rw [h3 i hi, e i hi]⟩
set_option maxRecDepth 100000 in
theorem info9 : (Try.prog.info? 9).map (fun i => (i.zero, i.size, i.bytes)) = some (some (.string ⟨#[]⟩), 1, 16) := by kernel_rfl
set_option maxRecDepth 100000 in
set_option maxHeartbeats 1000000 in
theorem image_any (d b m : Nat) (s : St) (w : World) (h : Dev w d b m s) (hk : Ok s) :
    Calls Try.prog 15 #[pt d] w fun e w' => ∃ g, e = .returned (.slice (some ⟨g, 0, none⟩) s.n s.n) ∧ Txs w' g s.n (holdS s) ∧ w.heap.size ≤ g ∧ Below w.heap.size w w' := by
  have HD : Hid (Dev w d b m s) := h
  have HK : Hid (Ok s) := hk
  obtain ⟨c6, z6⟩ := h.c6
  have n0 := hk.n0
  have n1 := hk.n1
  have hmk : (Instr.makeSlice 37 (.int .i64 (s.n : Int)) (.int .i64 (s.n : Int))).run Try.prog w = .ok (.slice (some ⟨w.heap.size, 0, none⟩) s.n s.n) (w.alloc (.cells (madeCells #[.string ⟨#[]⟩] s.n) 9)) :=
    run_make_row' 37 9 (.string ⟨#[]⟩) 16 Try.underlying37 info9 rfl .i64 .i64 s.n (by omega) (by omega) w
  have HT : Hid (Txs (w.alloc (.cells (madeCells #[.string ⟨#[]⟩] s.n) 9)) w.heap.size s.n (fun _ => ⟨#[]⟩)) :=
    ⟨_, heap_alloc_new w _, by simp [madeCells], fun i hi => by simp [madeCells, hi, Nat.mod_one]⟩
  have HB : Hid (Below w.heap.size w (w.alloc (.cells (madeCells #[.string ⟨#[]⟩] s.n) 9))) := below_new w _
  obtain ⟨W, hW⟩ : ∃ W, w.alloc (.cells (madeCells #[.string ⟨#[]⟩] s.n) 9) = W := ⟨_, rfl⟩
  rw [hW] at hmk HT HB
  clear h hk hW
  generalize hn : s.n = n at *
  have HN : Hid (s.n = n) := hn
  clear hn
  go_enter Try.func15, Try.ntmps15
  go_wp2_with fail
  go_loopw [15] (fun i wr => ∃ k : Nat, k ≤ n ∧ i = .int .i64 (k : Int) ∧ Txs wr w.heap.size n (fun q => if q < k then holdS s q else ⟨#[]⟩) ∧ Below w.heap.size w wr) (fun i _ => n - natOf i)
  case atStart => exact ⟨0, by omega, rfl, by simpa using HT.out, HB.out⟩
  case round =>
    obtain ⟨k, hkl, rfl, ht, hb⟩ := hrel
    have T1 : Hid _ := ht
    have B1 : Hid _ := hb
    clear ht hb
    by_cases hlt : k < n
    · have q1 : (k : Int) < (n : Int) := by omega
      have q0 : (0 : Int) ≤ (k : Int) := by omega
      have hwr : IntKind.u32.wrap (k : Int) = (k : Int) := IntWalk.u32_in _ (by omega)
      go_wp2_with fail
      refine (holds_any d b m s k (by rw [HN.out]; exact hlt) wr (HD.out.below B1.out (Nat.le_refl _)) HK.out).mono ?_
      rintro e w2 ⟨rfl, b2⟩
      have T2 : Hid (Txs w2 w.heap.size n (fun q => if q < k then holdS s q else ⟨#[]⟩)) := Txs.same T1.out (b2.block _ (Txs.lt T1.out))
      have B2 : Hid (Below w.heap.size w w2) := B1.out.trans (b2.mono B1.out.size)
      obtain ⟨x1, y1⟩ := Txs.cell T2.out k hlt
      rw [if_neg (by omega)] at x1
      clear b2
      go_wp2_with fail
      go_roundw
      case rel =>
        refine ⟨k + 1, by omega, by go_num, ?_, B2.out.setCell (p := ⟨w.heap.size, k, none⟩) (Nat.le_refl _) _⟩
        refine (Txs.set T2.out k hlt (holdS s k)).ext fun i hi => ?_
        unfold at'
        by_cases hik : i = k
        · subst hik; simp
        · rw [if_neg hik]
          show (if i < k then holdS s i else ⟨#[]⟩) = _
          by_cases h2 : i < k
          · rw [if_pos h2, if_pos (by omega)]
          · rw [if_neg h2, if_neg (by omega)]
      case measure => simp [natOf]; omega
    · have q1 : ¬ (k : Int) < (n : Int) := by omega
      have hk : k = n := by omega
      go_wp2_with fail
      go_ret
      refine ⟨w.heap.size, ⟨by rfl, ?_, Nat.le_refl _, B1.out⟩⟩
      exact Txs.ext T1.out fun i hi => by rw [if_pos (by omega)]
end Go.Proofs.Ytkpfnepbnaekoaa.Rd
