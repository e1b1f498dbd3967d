/- Proved: whichever rows are handed in, what was saved is loaded, in at most twice as many pages as there are rows, or one (P14.3). Conditions: the package variables that the statement lists read as the program's text lays them (the card ties them). -/
import Derived.Test.YtokfnghckpgjmaaGreatDoorQHja
import Derived.Test.YtokfnghckpgjmaaGreatDoorPXO
import Derived.Test.YtokfnghckpgjmaaGreatDoorPGR
import Derived.Test.YtokfnghckpgjmaaGreatDoorPHier
namespace Go.Proofs.YtokfnghckpgjmaaGreatDoor
open Go.ChangeShapes Go.WideShapes Go.ChangeAt Go.RowKit
open Go.ChangeMaps (open_string)
set_option maxRecDepth 100000 in
theorem groveBack_lifted (os : Os) (started : os.Started) (H : Type) (enc : TypeId × Value → H) :
    ReturnsInHanded {} Tryz.checked os 6 .any (fun w args => (Rows.groveBackSpec.pre enc Tryz.prog Tryz.f6 [] false w args ∧ laidMetH Tryz.prog [("sphragis/arx.turns", Rows.laid_sphragis_arx_turns), ("sphragis/sha.constants", Rows.laid_sphragis_sha_constants)] w) ∧ sizedMet enc Tryz.prog Tryz.f6 (OpenSpec.ofChange Rows.groveBackSpec) false w args)
      (Rows.groveBackSpec.post enc Tryz.prog Tryz.f6 false true false false) := by
  refine returnsInHanded_of_change_and (C := Tryz.checked) (X := fun w _ => laidMetH Tryz.prog [("sphragis/arx.turns", Rows.laid_sphragis_arx_turns), ("sphragis/sha.constants", Rows.laid_sphragis_sha_constants)] w) (fun _ _ _ hh h => h.of_heap hh) own started (by kernel_rfl) Tryz.func6
    (ChangeSpec.witness_shaped (enc := enc) (C := Tryz.checked) (os := os) (X := fun w _ => laidMetH Tryz.prog [("sphragis/arx.turns", Rows.laid_sphragis_arx_turns), ("sphragis/sha.constants", Rows.laid_sphragis_sha_constants)] w) false (World.doorLaid Tryz.prog 400 os) #[.slice none 0 0] 8 rfl (World.shaped_of_RefB (by kernel_rfl) (by kernel_rfl)) (by kernel_rfl) (by kernel_rfl) (by kernel_rfl) (door_two os _)) ?_
  intro W base args ds gs before hval0 hW _ _ hL _
  have hval : ∀ (j : Nat) t v, Tryz.f6.params[j]? = some t → args[j]? = some v → Value.okWide Tryz.prog W .any base t v := hval0
  have hW' := hW
  obtain ⟨p, q, hA0, hV, rfl, hfz, hnd⟩ := hW
  have hA : DataW.TrodAll enc Tryz.prog W 0 (fun _ => true) true Tryz.f6.params.toList args.toList ds p := hA0
  rw [Tryz.params6] at hA hval
  obtain ⟨v0, vs0, d0, ds0, p0, q0, hargs, rfl, rfl, h0, r0⟩ := trodAll_cons hA
  obtain ⟨rfl, rfl, rfl⟩ := trodAll_nil r0
  obtain rfl : args = #[v0] := by cases args; simp_all
  obtain ⟨rfl, rfl⟩ := trodVars_none hV
  clear hA0 hval0
  simp only [List.append_nil] at hW'
  have hTb := laid_two W hL
  have hlt : ∀ x, (x ∈ p0) → x.block < W.heap.size := fun x hx => hW'.lt x (by simpa using hx)
  have fin : ∀ W' : World, Below W.heap.size W W' → Rows.groveBackSpec.post enc Tryz.checked.prog Tryz.f6 false true false false W #[v0] (.bool true) W' := fun W' hb =>
    ⟨_, _, _, [] ++ [], _, [], hW', trodAll_cons_mk (shut_bool Tryz.underlying4 _) trodAll_mk0, (trodAll_cons_mk (Below.trod (by kernel_rfl) (by kernel_rfl) (of_decide_eq_true (by kernel_rfl)) h0 hb (fun x hx => hlt x (hx))) trodAll_mk0), rfl, hb.frame _, fun h => by cases h⟩
  obtain ⟨o0, len0, cap0, rfl⟩ := okWide_slice Tryz.underlying22 (hval 0 22 v0 rfl rfl)
  obtain ⟨l0, rfl, R0, K0⟩ := Rq.rows_of_arg h0 (fun x hx => hlt x (hx))
  refine (Rz.groveBack_walk (lf KL) l0 o0 cap0 K0 W R0 hTb).mono fun e W' ⟨he, hb⟩ => ?_
  subst he
  exact ⟨_, rfl, fin W' hb⟩
theorem groveBack_card : Rows.GroveBackCardSaid := groveBack_card_of (groveBack_row_of groveBack_lifted)
#print axioms groveBack_card
end Go.Proofs.YtokfnghckpgjmaaGreatDoor
