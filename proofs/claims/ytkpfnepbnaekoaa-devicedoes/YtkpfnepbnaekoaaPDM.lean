/- A short row sorted; the keys of a map, rising. -/
import Derived.Test.YtkpfnepbnaekoaaPDL
import Derived.Test.YtkpfnepbnaekoaaPAb
namespace Go.Proofs.Ytkpfnepbnaekoaa.Rd
open Go.RowKit
/-- A sort's word. -/
def Sorts (N : Nat) : Prop := ∀ (g cap : Nat) (d : Array Nat) (w : World), d.size ≤ N → Us w g d →
  Calls Try.prog 69 #[.slice (some ⟨g, 0, none⟩) d.size cap] w fun e w' => e = .returned (.tuple #[]) ∧ (∃ d', Sort.PermIn 0 d.size d d' ∧ Sort.SortedIn ltN 0 d.size d' ∧ Us w' g d') ∧ Bg g w w'
set_option maxRecDepth 100000 in
set_option maxHeartbeats 1000000 in
theorem pdq_small (g cap a b : Nat) (d : Array Nat) (l : Int) (ha : a ≤ b) (hab : b - a ≤ 12) (hb : b ≤ d.size) (hd : d.size ≤ 1000000) (w : World) (h : Us w g d) :
    Calls Try.prog 74 #[.slice (some ⟨g, 0, none⟩) d.size cap, .int .i64 (a : Int), .int .i64 (b : Int), .int .i64 l] w fun e w' => e = .returned (.tuple #[]) ∧ Us w' g (Sort.insertionSort ltN d a b) ∧ Bg g w w' := by
  have HI : Hid _ := insertion_any g cap a b d ha hb hd w h
  have q1 : (b : Int) - (a : Int) ≤ 12 := by omega
  have q2 : 0 ≤ (b : Int) - (a : Int) := by omega
  clear h
  go_enter Try.func74, Try.ntmps74
  go_wp2_with fail
  refine wp_loop_rounds 1 ?_
  rw [rounds_succ]
  go_wp2_with fail
  refine Calls.mono HI.out ?_
  rintro e w1 ⟨rfl, u1, b1⟩
  have U1 : Hid _ := u1
  have B1 : Hid _ := b1
  clear u1 b1
  go_wp2_with fail
  refine bodyPost_ret (results_none rfl _ _ _) rfl ?_
  exact ⟨rfl, U1.out, B1.out⟩
set_option maxRecDepth 100000 in
set_option maxHeartbeats 1000000 in
theorem sorts_small : Sorts 12 := by
  intro g cap d w hd h
  have HP : ∀ l, Hid (Calls Try.prog 74 #[.slice (some ⟨g, 0, none⟩) d.size cap, .int .i64 0, .int .i64 (d.size : Int), .int .i64 l] w fun e w' => e = .returned (.tuple #[]) ∧ Us w' g (Sort.insertionSort ltN d 0 d.size) ∧ Bg g w w') :=
    fun l => pdq_small g cap 0 d.size d l (by omega) (by omega) (Nat.le_refl _) (by omega) w h
  have HL : Hid _ := Try.bits_Len (d.size : Int) w (by omega) (by omega)
  have HS := Sort.insertionSort_holds (lt := ltN) swoN d 0 d.size (by omega) (Nat.le_refl _)
  have hu : IntKind.u64.wrap (d.size : Int) = (d.size : Int) := IntWalk.u64_in _ (by omega)
  clear h
  go_enter Try.func69, Try.ntmps69
  go_wp2_with fail
  refine Calls.mono HL.out ?_
  rintro e w1 ⟨rfl, rfl⟩
  generalize ((Lib.bitLen (d.size : Int).toNat : Nat) : Int) = l at *
  go_wp2_with fail
  refine Calls.mono (HP l).out ?_
  rintro e w2 ⟨rfl, u2, b2⟩
  have U2 : Hid _ := u2
  have B2 : Hid _ := b2
  clear u2 b2
  go_wp2_with fail
  refine bodyPost_end (results_none rfl _ _ _) rfl ?_
  exact ⟨rfl, ⟨_, HS.1, HS.2, U2.out⟩, B2.out⟩
set_option maxRecDepth 100000 in
set_option maxHeartbeats 1000000 in
theorem insertion_nil (w : World) : Calls Try.prog 76 #[.slice none 0 0, .int .i64 0, .int .i64 0] w fun e w' => e = .returned (.tuple #[]) ∧ w' = w := by
  go_enter Try.func76, Try.ntmps76
  go_wp2_with fail
  refine wp_loop_rounds 1 ?_
  rw [rounds_succ]
  go_wp2_with fail
  refine bodyPost_end (results_none rfl _ _ _) rfl ?_
  exact ⟨rfl, rfl⟩
set_option maxRecDepth 100000 in
set_option maxHeartbeats 1000000 in
theorem pdq_nil (l : Int) (w : World) : Calls Try.prog 74 #[.slice none 0 0, .int .i64 0, .int .i64 0, .int .i64 l] w fun e w' => e = .returned (.tuple #[]) ∧ w' = w := by
  go_enter Try.func74, Try.ntmps74
  go_wp2_with fail
  refine wp_loop_rounds 1 ?_
  rw [rounds_succ]
  go_wp2_with fail
  refine (insertion_nil w).mono ?_
  rintro e w1 ⟨rfl, rfl⟩
  go_wp2_with fail
  refine bodyPost_ret (results_none rfl _ _ _) rfl ?_
  exact ⟨rfl, rfl⟩
set_option maxRecDepth 100000 in
set_option maxHeartbeats 1000000 in
theorem sort_nil (w : World) : Calls Try.prog 69 #[.slice none 0 0] w fun e w' => e = .returned (.tuple #[]) ∧ w' = w := by
  have HL : Hid (Calls Try.prog 75 #[.int .u64 0] w fun e w' => e = .returned (.int .i64 0) ∧ w' = w) := Try.bits_Len 0 w (by omega) (by omega)
  go_enter Try.func69, Try.ntmps69
  go_wp2_with fail
  refine Calls.mono HL.out ?_
  rintro e w1 ⟨rfl, rfl⟩
  go_wp2_with fail
  refine (pdq_nil 0 w1).mono ?_
  rintro e w2 ⟨rfl, rfl⟩
  go_wp2_with fail
  refine bodyPost_end (results_none rfl _ _ _) rfl ?_
  exact ⟨rfl, rfl⟩
end Go.Proofs.Ytkpfnepbnaekoaa.Rd
