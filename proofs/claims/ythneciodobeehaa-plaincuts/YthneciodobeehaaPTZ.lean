/- PlainBatches. -/
import Derived.Test.YthneciodobeehaaPTP
import Derived.Test.YthneciodobeehaaPTU
import Derived.Test.YthneciodobeehaaPTN
import Derived.Test.YthneciodobeehaaPFW
namespace Go.Proofs.Ythneciodobeehaa.Rp
open Go.RowKit Go.Lib
open Go.Proofs.Ythneciodobeehaa.Rc Go.Proofs.Ythneciodobeehaa.Rq
set_option maxRecDepth 100000 in
theorem run_headO (o : Option Addr) (n cap r : Nat) (w : World) (hr : r ≤ cap) (ho : o = none → cap = 0) : (Instr.sliceAt 39 (.slice o n cap) none (some (.int .i64 (r : Int))) none).run Try.prog w = .ok (.slice o r cap) w := by
  have h1 : (r : Int) ≤ (cap : Int) := by omega
  cases o with
  | none =>
    have := ho rfl
    subst this
    obtain rfl : r = 0 := by omega
    simp [Instr.sliceAt, Instr.slice, run_underlying Try.underlying39, go_sem]
  | some a =>
    simp [Instr.sliceAt, Instr.slice, run_underlying Try.underlying39, go_sem]
    intro h
    omega
set_option maxRecDepth 100000 in
theorem OpsAt.head {w : World} {o : Option Addr} {cap : Nat} {l : List Ch} (h : OpsAt w o cap l) (n : Nat) : OpsAt w o cap (l.take n) := by
  have hle : (l.take n).length ≤ l.length := by rw [List.length_take]; omega
  refine ⟨Nat.le_trans hle h.1, h.2.1, h.2.2.1, flat_len oc 5 (fun _ => rfl) _, fun hn => ?_⟩
  obtain ⟨b, off, e, hlt, hc⟩ := h.2.2.2.2 (by omega)
  refine ⟨b, off, e, hlt, fun j u hu => hc j u ?_⟩
  have : l.flatMap oc = (l.take n).flatMap oc ++ (l.drop n).flatMap oc := by rw [← List.flatMap_append, List.take_append_drop]
  rw [this, List.getElem?_append_left (List.getElem?_eq_some_iff.1 hu).1]
  exact hu
end Go.Proofs.Ythneciodobeehaa.Rp
