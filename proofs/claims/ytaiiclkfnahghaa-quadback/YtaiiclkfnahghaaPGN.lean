/- QuadWhole: a tree's nodes. -/
import Derived.Test.YtaiiclkfnahghaaPGM
namespace Go.Proofs.Ytaiiclkfnahghaa.Rq
open Go.RowKit Go.Lib Go.Shelf
open Go.Proofs.Ytaiiclkfnahghaa.Rc
set_option maxRecDepth 100000 in
set_option maxHeartbeats 2000000 in
theorem quadWhole_walk (l : List Rw) (o : Option Addr) (cap : Nat) (w : World) (hr : RowsAt w o cap l) :
    Calls Try.prog 8 #[.slice o l.length cap] w fun e w' => e = .returned (.bool true) ∧ Below w.heap.size w w' := by
  have HF : Hid _ := few_any l o cap
  have HR0 : Hid (RowsAt w o cap l) := hr
  have HR : Hid (RowsAt w o cap (l.take 60)) := hr.head 60
  have h60 : (l.take 60).length ≤ 60 := by rw [List.length_take]; omega
  go_enter Try.func8, Try.ntmps8
  go_wp2_with fail
  refine (shown_any _).mono ?_
  rintro e w1 ⟨rfl, b1⟩
  have HB1 : Hid (Below w.heap.size w w1) := b1
  clear b1 hr
  go_wp2_with fail
  refine (HF.out w1 (HR0.out.below HB1.out (Nat.le_refl _))).mono ?_
  rintro e w2 ⟨rfl, h⟩
  have h' := h.symm; clear h; subst h'
  clear HF HR0
  generalize l.take 60 = l at *
  go_wp2_with fail
  have hR1 := HR.out.below HB1.out (Nat.le_refl _)
  cases hrl : rightL l
  · refine (build_no l o cap _ hR1 hrl).mono ?_
    rintro e w2 ⟨rfl, b2⟩
    have HB2 : Hid (Below w.heap.size w w2) := HB1.out.trans (b2.mono HB1.out.size)
    clear b2 hR1
    go_wp2_with fail
    go_ret
    exact ⟨rfl, HB2.out.trans ((below_new w2 _).mono HB2.out.size)⟩
  · have hon := right_on hrl
    refine (build_ok l o cap _ hR1 hrl).mono ?_
    rintro e w2 ⟨n, rfl, n2, b2⟩
    have HB2 : Hid (Below w.heap.size w w2) := HB1.out.trans (b2.mono HB1.out.size)
    obtain ⟨X, Y, L, ro, rn, rc', ko, kn, kc⟩ := n
    have hb3 := below_new w2 (.cells #[.int .u32 (X : Int), .int .u32 (Y : Int), .int .i64 (L : Int), .slice ro rn rc', .slice ko kn kc] 33)
    have HC : Hid _ := whole_any 32 l _ _ _ true (n2.below hb3 (Nat.le_refl _)) hon (by omega) (fun _ => rfl)
    have HB3 : Hid _ := HB2.out.trans (hb3.mono HB2.out.size)
    clear b2 hR1 hb3 n2
    go_wp2_with fail
    refine Calls.mono HC.out ?_
    rintro e w3 ⟨rfl, b3⟩
    have HB4 : Hid (Below w.heap.size w w3) := HB3.out.trans (b3.mono HB3.out.size)
    have h1 : 1 ≤ cnt 32 l := cnt_pos 32 l
    have h2 : cnt 32 l ≤ 1 ∨ cnt 32 l ≤ 2 * l.length := by
      cases l with
      | nil => left; decide
      | cons r t => right; have := cnt_le 32 (r :: t) hon (by simp); omega
    generalize cnt 32 l = m at *
    generalize l.length = n at *
    clear b3 HC hon hrl
    have q1 : decide (1 ≤ m) = true := decide_eq_true h1
    have q2 : decide ((m : Int) ≤ max 1 (2 * (n : Int))) = true := decide_eq_true (by omega)
    have Q2 : Hid _ := q2
    clear q2
    go_wp2_with fail
    rw [Q2.out]
    go_ret
    exact ⟨rfl, HB4.out⟩
end Go.Proofs.Ytaiiclkfnahghaa.Rq
