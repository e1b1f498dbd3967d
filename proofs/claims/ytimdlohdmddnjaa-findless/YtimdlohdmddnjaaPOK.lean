/- Pieces of what was found, in plain terms. -/
import Derived.Test.YtimdlohdmddnjaaQOF
import Derived.Test.YtimdlohdmddnjaaQJJ
namespace Go.Proofs.Ytimdlohdmddnjaa.Rf
open Go.RowKit Go.Lib
open Go.Proofs.Ytimdlohdmddnjaa.Rc Go.Proofs.Ytimdlohdmddnjaa.Rq
theorem rest_drop (q : Qr) (l : List Rw) : ∃ s, s ≤ l.length ∧ rest q l = l.drop s := by
  unfold rest
  split
  · exact ⟨_, upTo_le l _, rfl⟩
  · exact ⟨0, Nat.zero_le _, rfl⟩
theorem rest_len (q : Qr) (l : List Rw) : (rest q l).length ≤ l.length := by
  obtain ⟨s, _, e⟩ := rest_drop q l
  rw [e, List.length_drop]
  omega
end Go.Proofs.Ytimdlohdmddnjaa.Rf
