import Derived.Test.YtnedbakgaggdaaaDoorL
import Derived.Test.YtnedbakgaggdaaaDoorRows
import Derived.WalkSpells
import Derived.WalkLawsBesides
import Derived.Deep.QuietTactic
import Derived.BigQuiet
namespace Go.Proofs.YtnedbakgaggdaaaDoor
open Go.RowKit
/-- The word of four bytes from a place on. -/
def wdAt (s : ByteArray) (a : Nat) : Int := wrd (bt s a) (bt s (a + 1)) (bt s (a + 2)) (bt s (a + 3))
theorem wdAt_get (s : ByteArray) (a : Nat) (h : a + 4 ≤ s.size) : wdAt s a = bits BinOp.or IntKind.u32 (bits BinOp.or IntKind.u32 (bits BinOp.or IntKind.u32 ((s[a].toNat : Int) % 4294967296) ((s[a + 1].toNat : Int) % 4294967296 * 256 % 4294967296)) ((s[a + 2].toNat : Int) % 4294967296 * 65536 % 4294967296)) ((s[a + 3].toNat : Int) % 4294967296 * 16777216 % 4294967296) := by
  unfold wdAt wrd
  rw [bt_get s a (by omega), bt_get s (a + 1) (by omega), bt_get s (a + 2) (by omega), bt_get s (a + 3) (by omega)]
  simp only [IntKind.wrap_u32']
set_option maxHeartbeats 400000 in
theorem word_any (s : ByteArray) (a : Nat) (h : a + 4 ≤ s.size) (hm : s.size ≤ 1000) (w : World) :
    Calls Tryd.prog 29 #[.string s, .int .i64 (a : Int)] w fun e w' => e = .returned (.int .u32 (wdAt s a)) ∧ ∃ n, w' = w.drewN n := by
  have k0 : (0 : Int) ≤ (a : Int) := by omega
  have kn : a < s.size := by omega
  have k0' : (a : Int) < (s.size : Int) := by omega
  have k1 : (a : Int) + 1 < (s.size : Int) := by omega
  have k2 : (a : Int) + 2 < (s.size : Int) := by omega
  have k3 : (a : Int) + 3 < (s.size : Int) := by omega
  have ka : (a : Int) ≤ 1000 := by omega
  have n1 : (0 : Int) ≤ (a : Int) + 1 := by omega
  have n2 : (0 : Int) ≤ (a : Int) + 2 := by omega
  have n3 : (0 : Int) ≤ (a : Int) + 3 := by omega
  go_enter Tryd.func29, Tryd.ntmps29
  go_wp2
  go_quiet (fail)
  go_wp2
  go_ret
  refine ⟨?_, _, rfl⟩
  rw [wdAt_get s a h]
  rfl
theorem info22 : (Tryd.prog.info? 22).map (fun i => (i.zero, i.size, i.bytes)) = some (some (.int .u32 0), 1, 4) := by kernel_rfl
/-- A slice of sixteen words, by its block. -/
def RowS (w : World) (g cap : Nat) (f : Nat → Int) : Prop :=
  ∃ cur, w.heap[g]? = some (.cells cur 22 (0, 0)) ∧ cur.size = cap ∧ 16 ≤ cap ∧ ∀ i, i < 16 → cur[i]? = some (.int .u32 (f i))
theorem RowS.cell {w : World} {g cap : Nat} {f : Nat → Int} (h : RowS w g cap f) (i : Nat) (hi : i < 16) : w.cell? ⟨g, i, none⟩ = some (.int .u32 (f i)) ∧ w.frozen? ⟨g, i, none⟩ = false := by
  obtain ⟨cur, h1, _, _, h4⟩ := h
  exact ⟨(cell_of_row _ _ _ _ _ _ h1).trans (h4 i hi), frozen_of_row _ _ _ _ _ h1⟩
theorem RowS.set {w : World} {g cap : Nat} {f : Nat → Int} (h : RowS w g cap f) (a : Nat) (x : Int) (ha : a < 16) : RowS (w.setCell ⟨g, a, none⟩ (.int .u32 x)) g cap (upd f a x) := by
  obtain ⟨cur, h1, h2, h3, h4⟩ := h
  refine ⟨_, heap_setCell_same _ _ _ _ _ _ h1, by simpa using h2, h3, fun i hi => ?_⟩
  unfold upd
  by_cases e : i = a
  · subst e
    rw [Array.getElem?_setIfInBounds_self_of_lt (by omega)]; simp
  · rw [Array.getElem?_setIfInBounds_ne (by omega), h4 i hi]; simp [e]
theorem RowS.same {w w' : World} {g cap : Nat} {f : Nat → Int} (h : RowS w g cap f) (hh : w'.heap[g]? = w.heap[g]?) : RowS w' g cap f := by
  obtain ⟨cur, h1, h2, h3, h4⟩ := h
  exact ⟨cur, hh.trans h1, h2, h3, h4⟩
theorem RowS.lt {w : World} {g cap : Nat} {f : Nat → Int} (h : RowS w g cap f) : g < w.heap.size := by
  obtain ⟨cur, h1, _⟩ := h
  exact (Array.getElem?_eq_some_iff.1 h1).1
end Go.Proofs.YtnedbakgaggdaaaDoor
