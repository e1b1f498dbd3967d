/- Rows of a block moved about, in plain terms: two stretches change places, a stretch is turned about, two sorted ones are merged. -/
import Derived.Sort.AssemblyPlain
set_option maxRecDepth 100000
namespace Go.Proofs.YtokfnghckpgjmaaGreatDoor
namespace Rq
open Go.Sort
section
variable {α : Type} [Inhabited α]
def Srt (K:α→Nat) (a b:Nat) (d:Array α):Prop:=∀ i j,a≤i→i<j→j<b→K d[i]! ≤K d[j]!
theorem zpc {β:Type} (K:β→Nat):SWO (fun x y:β=>decide (K x<K y)):=
 ⟨fun x=>by simp,fun x y z h1 h2=>by simp only[decide_eq_true_eq] at h1 h2 ⊢;omega,fun x y z h1 h2=>by simp only[decide_eq_false_iff_not] at h1 h2 ⊢;omega⟩
end
end Rq
end Go.Proofs.YtokfnghckpgjmaaGreatDoor
