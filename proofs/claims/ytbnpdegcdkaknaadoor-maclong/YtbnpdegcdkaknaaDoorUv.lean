/- Which numbers of bytes may be: the walk. -/
import Derived.Test.YtbnpdegcdkaknaaDoorUp
namespace Go.Proofs.YtbnpdegcdkaknaaDoor
open Go.RowKit Go.Lib
set_option maxHeartbeats 2000000 in
theorem macLong_walk (n : Int) (w : World) {tt : TypeId} {fr : Nat × Nat} (hK : w.heap[1]? = some (.cells (w64 (lf KL)) tt fr)) :
    Calls Tryd.prog 8 #[.int .i64 n] w fun e w' => e = .returned (.bool true) ∧ Below w.heap.size w w' := by
  have h1l : 1 < w.heap.size := (Array.getElem?_eq_some_iff.1 hK).1
  have HK : Hid (w.heap[1]? = some (.cells (w64 (lf KL)) tt fr)) := hK
  clear hK
  by_cases hn : n < 0 ∨ 8160 < n
  · have XN : Hid (∀ w : World, Calls Tryd.prog 14 #[.string ⟨#[107]⟩, .string ⟨#[108]⟩, .int .i64 n] w fun e w' => e = .returned (.tuple #[.string ⟨#[]⟩, .int .i64 2]) ∧ w' = w) := expand_no ⟨#[107]⟩ ⟨#[108]⟩ n hn
    have g1 : decide (n < 0) = true ∨ (decide (n < 0) = false ∧ decide (8160 < n) = true) := by simp; omega
    clear hn
    rcases g1 with g1 | ⟨g1, g2⟩
    · go_enter Tryd.func8, Tryd.ntmps8
      go_wp2_with fail
      refine (shown_any w HK.out).mono ?_
      rintro e w1 ⟨rfl, b1⟩
      have B1 : Hid (Below w.heap.size w w1) := b1
      clear b1
      go_wp2_with fail
      refine (XN.out w1).mono ?_
      rintro e w2 ⟨rfl, h2⟩
      have h2' := h2.symm
      clear h2
      subst h2'
      go_wp2_with fail
      go_ret
      exact ⟨rfl, B1.out⟩
    · go_enter Tryd.func8, Tryd.ntmps8
      go_wp2_with fail
      refine (shown_any w HK.out).mono ?_
      rintro e w1 ⟨rfl, b1⟩
      have B1 : Hid (Below w.heap.size w w1) := b1
      clear b1
      go_wp2_with fail
      refine (XN.out w1).mono ?_
      rintro e w2 ⟨rfl, h2⟩
      have h2' := h2.symm
      clear h2
      subst h2'
      go_wp2_with fail
      go_ret
      exact ⟨rfl, B1.out⟩
  · obtain ⟨k, rfl⟩ : ∃ k : Nat, n = (k : Int) := ⟨n.toNat, by omega⟩
    have hk : k ≤ 8160 := by omega
    have g1 : decide ((k : Int) < 0) = false := by simp
    have g2 : decide ((8160 : Int) < (k : Int)) = false := by simp; omega
    have XY : Hid (∀ w : World, w.heap[1]? = some (.cells (w64 (lf KL)) tt fr) → Calls Tryd.prog 14 #[.string ⟨#[107]⟩, .string ⟨#[108]⟩, .int .i64 (k : Int)] w fun e w' => e = .returned (.tuple #[.string (xS (lf KL) ⟨#[107]⟩ ⟨#[108]⟩ k), .int .i64 0]) ∧ Below w.heap.size w w') := fun w h => expand_yes (lf KL) ⟨#[107]⟩ ⟨#[108]⟩ (by decide) (by decide) k hk w h
    have hAs := xS_size (lf KL) ⟨#[107]⟩ ⟨#[108]⟩ k
    generalize xS (lf KL) ⟨#[107]⟩ ⟨#[108]⟩ k = A at *
    clear hn
    go_enter Tryd.func8, Tryd.ntmps8
    go_wp2_with fail
    refine (shown_any w HK.out).mono ?_
    rintro e w1 ⟨rfl, b1⟩
    have B1 : Hid (Below w.heap.size w w1) := b1
    clear b1
    go_wp2_with fail
    refine (XY.out w1 ((B1.out.block 1 h1l).trans HK.out)).mono ?_
    rintro e w2 ⟨rfl, b2⟩
    have B2 : Hid (Below w.heap.size w w2) := B1.out.trans (b2.mono B1.out.size)
    clear b2 B1
    go_wp2_with fail
    go_ret
    exact ⟨rfl, B2.out⟩
end Go.Proofs.YtbnpdegcdkaknaaDoor
