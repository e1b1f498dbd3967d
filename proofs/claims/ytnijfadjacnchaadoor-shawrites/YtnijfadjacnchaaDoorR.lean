/- The document's example. -/
import Derived.Test.YtnijfadjacnchaaDoorQ
namespace Go.Proofs.YtnijfadjacnchaaDoor
open Go.RowKit Go.Lib
/-- The sum of three letters. -/
def abcS : ByteArray := ⟨#[186, 120, 22, 191, 143, 1, 207, 234, 65, 65, 64, 222, 93, 174, 34, 35, 176, 3, 97, 163, 150, 23, 122, 156, 180, 16, 255, 97, 242, 0, 21, 173]⟩
theorem abc_str : strOfNums (dig (lf KL) (lf IV) (bt ⟨#[97, 98, 99]⟩) 3) = abcS := by
  rw [dig_congr (m' := abc) (fun j hj => by match j, hj with | 0, _ => rfl | 1, _ => rfl | 2, _ => rfl | j + 3, h => exact absurd h (by omega)), abc_dig]
  decide +kernel
theorem shown_any (w : World) {tt : TypeId} {fr : Nat × Nat} (hK : w.heap[1]? = some (.cells (w64 (lf KL)) tt fr)) :
    Calls Tryd.prog 9 #[] w fun e w' => e = .returned (.bool true) ∧ Below w.heap.size w w' := by
  have SA : Hid (Calls Tryd.prog 10 #[.string ⟨#[97, 98, 99]⟩] w fun e w' => e = .returned (.string abcS) ∧ Below w.heap.size w w') := by
    have h := shaSum_any (lf KL) ⟨#[97, 98, 99]⟩ w hK (by decide)
    rw [show (ByteArray.mk #[97, 98, 99]).size = 3 from rfl, abc_str] at h
    exact h
  clear hK
  go_enter Tryd.func9, Tryd.ntmps9
  go_wp2_with fail
  refine SA.out.mono ?_
  rintro e w1 ⟨rfl, b1⟩
  have B1 : Hid _ := b1
  clear b1 SA
  have hsz : abcS.size = 32 := rfl
  have hex : abcS.extract 0 8 = ⟨#[186, 120, 22, 191, 143, 1, 207, 234]⟩ := by decide +kernel
  generalize abcS = A at *
  go_wp2_with fail
  go_ret
  exact ⟨rfl, B1.out⟩
end Go.Proofs.YtnijfadjacnchaaDoor
