import Derived.Below
/- Short names. -/
namespace Go.Proofs.YtokfnghckpgjmaaGreatDoor
theorem bH : type_of% @List.getElem_toArray := @List.getElem_toArray
theorem bI : type_of% @List.getElem_cons_succ := @List.getElem_cons_succ
theorem bJ : type_of% @List.getElem_cons_zero := @List.getElem_cons_zero
theorem bK : type_of% @List.setIfInBounds_toArray := @List.setIfInBounds_toArray
theorem bL : type_of% @List.set_cons_succ := @List.set_cons_succ
theorem bM : type_of% @List.set_cons_zero := @List.set_cons_zero
theorem eR : type_of% @List.size_toArray := @List.size_toArray
theorem eS : type_of% @List.length_cons := @List.length_cons
theorem eT : type_of% @List.length_nil := @List.length_nil
theorem eU : type_of% @Array.replicate_succ := @Array.replicate_succ
theorem eV : type_of% @Array.replicate_zero := @Array.replicate_zero
theorem eW : type_of% @List.push_toArray := @List.push_toArray
theorem eX : type_of% @List.append_toArray := @List.append_toArray
theorem eY : type_of% @List.nil_append := @List.nil_append
theorem eZ : type_of% @List.cons_append := @List.cons_append
theorem zi {α : Type _} {xs : Array α} {i : Nat} {b : α} (h : xs[i]? = some b) : ∃ h : i < xs.size, xs[i] = b := Array.getElem?_eq_some_iff.1 h
theorem zn {n : Nat} : n ≤ n := Nat.le_refl n
theorem _root_.Go.RowKit.Hid.o {p : Prop} (h : Go.RowKit.Hid p) : p := h
end Go.Proofs.YtokfnghckpgjmaaGreatDoor
