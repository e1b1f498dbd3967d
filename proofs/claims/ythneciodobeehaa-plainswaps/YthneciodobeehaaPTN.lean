/- Batch, whatever it is given. -/
import Derived.Test.YthneciodobeehaaPTM
namespace Go.Proofs.Ythneciodobeehaa.Rp
open Go.RowKit Go.Lib Go.Shelf
open Go.Proofs.Ythneciodobeehaa.Rc Go.Proofs.Ythneciodobeehaa.Rq
set_option maxRecDepth 100000 in
theorem batch_any (o : Option Addr) (cap : Nat) (l : List Rw) (oo : Option Addr) (ccap : Nat) (cs : List Ch) (w : World) (hr : RowsAt w o cap l) (hc : OpsAt w oo ccap cs) :
    Calls Try.prog 18 #[.slice o l.length cap, .slice oo cs.length ccap] w (BP (btL l cs) (btA l cs) (btE l cs) w) := by
  cases h : rightL l with
  | false =>
    refine (batch_no o cap l _ w hr h).mono ?_
    rintro e w' ⟨he, hb⟩
    simp only [btL, btA, btE, h, Bool.false_eq_true, if_false]
    exact ⟨none, 0, he, Sl.nil 4 _, hb⟩
  | true =>
    by_cases hn : cs.length < 1 ∨ 64 < cs.length
    · refine (batch_size o cap l oo _ ccap w hr h hn).mono ?_
      rintro e w' ⟨he, hb⟩
      simp only [btL, btA, btE, h, if_true, if_pos hn]
      exact ⟨none, 0, he, Sl.nil 4 _, hb⟩
    · have := batch_ok o cap l oo ccap cs w hr hc h hn
      simp only [btL, btA, btE, h, if_true, if_neg hn]
      exact this
end Go.Proofs.Ythneciodobeehaa.Rp
