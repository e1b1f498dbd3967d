/- Short words for what is shown by one tactic. -/
import Derived.Test.YtokfnghckpgjmaaGreatDoorPPk
import Derived.OrdersIn
import Derived.OrdersHeld
import Derived.KernelRfl
namespace Go.Proofs.YtokfnghckpgjmaaGreatDoor
theorem uo {p:Prop} (h:p:=by omega):p:=h
theorem uk {p:Prop} (h:p:=by kernel_rfl):p:=h
theorem us {p:Prop} (h:p:=by simp):p:=h
theorem ud {p:Prop} (h:p:=by decide):p:=h
theorem uc {p q:Prop} (k:q) (h:q=p:=by ((conv in(Act.put _ _ _)=>simp only[zL1,zL2,zL3,Act.put,zL4,zL5,zL6]);exact rfl)):p:=h▸k
theorem um {P:Program} {f:Nat} {a:Array Value} {w:World} {E:Ending} {R:World→Prop} {Q:Ending→World→Prop} (c:Calls P f a w fun e v=>e=E∧R v) (k:∀ v,R v→Q E v):Calls P f a w Q:=c.mono fun _ v h=>h.1▸k v h.2
end Go.Proofs.YtokfnghckpgjmaaGreatDoor
