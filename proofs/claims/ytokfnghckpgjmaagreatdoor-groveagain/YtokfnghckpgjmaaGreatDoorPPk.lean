/- Short names. -/
namespace Go.Proofs.YtokfnghckpgjmaaGreatDoor
theorem zL1 : type_of% @List.getElem_toArray := @List.getElem_toArray
theorem zL2 : type_of% @List.getElem_cons_succ := @List.getElem_cons_succ
theorem zL3 : type_of% @List.getElem_cons_zero := @List.getElem_cons_zero
theorem zL4 : type_of% @List.setIfInBounds_toArray := @List.setIfInBounds_toArray
theorem zL5 : type_of% @List.set_cons_succ := @List.set_cons_succ
theorem zL6 : type_of% @List.set_cons_zero := @List.set_cons_zero
theorem zS1 : type_of% @List.size_toArray := @List.size_toArray
theorem zS2 : type_of% @List.length_cons := @List.length_cons
theorem zS3 : type_of% @List.length_nil := @List.length_nil
theorem zS4 : type_of% @Array.replicate_succ := @Array.replicate_succ
theorem zS5 : type_of% @Array.replicate_zero := @Array.replicate_zero
theorem zS6 : type_of% @List.push_toArray := @List.push_toArray
theorem zS7 : type_of% @List.append_toArray := @List.append_toArray
theorem zS8 : type_of% @List.nil_append := @List.nil_append
theorem zS9 : type_of% @List.cons_append := @List.cons_append
theorem zi {α : Type _} {xs : Array α} {i : Nat} {b : α} (h : xs[i]? = some b) : ∃ h : i < xs.size, xs[i] = b := Array.getElem?_eq_some_iff.1 h
theorem zn {n : Nat} : n ≤ n := Nat.le_refl n
end Go.Proofs.YtokfnghckpgjmaaGreatDoor
