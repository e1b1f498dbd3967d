/- Proved: at whatever key (its first five hundred bytes) and texts (the first twenty, in all two thousand bytes), how the texts are cut makes no difference to their mac, which has 32 bytes (P3.3). Conditions: the package variables that the statement lists read as the program's text lays them (the card ties them). -/
import Derived.Test.YtdpmocgcpbjhiaaDoorUi
import Derived.Test.YtdpmocgcpbjhiaaDoorO
import Derived.Test.YtdpmocgcpbjhiaaDoorCards
import Derived.SliceStrings
import Derived.Carry
import Derived.SizedLaws
namespace Go.Proofs.YtdpmocgcpbjhiaaDoor
open Go.ChangeShapes Go.WideShapes Go.ChangeAt Go.RowKit
open Go.ChangeMaps (open_string shut_string)
theorem macCuts_sized {H : Type} (P : Program) (e : TypeId) : ∀ (ss : List ByteArray) (s : ByteArray), s ∈ ss → s.size ∈ DataW.weightsAll (H := H) P e (strs ss)
  | [], _, h => by cases h
  | t :: ts, s, h => by
    simp only [strs, List.map_cons, DataW.weightsAll, List.mem_append]
    rcases List.mem_cons.1 h with rfl | h
    · exact .inl (by simp [DataW.weights])
    · exact .inr (macCuts_sized P e ts s h)
set_option maxRecDepth 100000 in
theorem macCuts_lifted (os : Os) (started : os.Started) (H : Type) (enc : TypeId × Value → H) :
    ReturnsInHanded {} Tryd.checked os 7 .any (fun w args => (Rows.macCutsSpec.pre enc Tryd.prog Tryd.f7 [] false w args ∧ laidMetH Tryd.prog [("sphragis/sha.constants", Rows.laid_sphragis_sha_constants)] w) ∧ sizedMet enc Tryd.prog Tryd.f7 (OpenSpec.ofChange Rows.macCutsSpec) false w args)
      (Rows.macCutsSpec.post enc Tryd.prog Tryd.f7 false true false false) := by
  refine returnsInHanded_of_change_and (C := Tryd.checked) (X := fun w _ => laidMetH Tryd.prog [("sphragis/sha.constants", Rows.laid_sphragis_sha_constants)] w) (fun _ _ _ hh h => h.of_heap hh) own started (by kernel_rfl) Tryd.func7
    (ChangeSpec.witness_shaped (enc := enc) (C := Tryd.checked) (os := os) (X := fun w _ => laidMetH Tryd.prog [("sphragis/sha.constants", Rows.laid_sphragis_sha_constants)] w) false (World.doorLaid Tryd.prog 400 os) #[.string ByteArray.empty, .slice none 0 0] 8 rfl (World.shaped_of_RefB (by kernel_rfl) (by kernel_rfl)) (by kernel_rfl) (by kernel_rfl) (by kernel_rfl) (door_const os _)) ?_
  intro W base args ds gs before hval0 hW _ hsz0 hL _
  have hsz : (DataW.weightsEach Tryd.prog (Tryd.f7.params.toList ++ Rows.macCutsSpec.plain.varTypes Tryd.prog) (ds ++ gs)).all (· ≤ reachBytes) = true := hsz0
  have hval : ∀ (j : Nat) t v, Tryd.f7.params[j]? = some t → args[j]? = some v → Value.okWide Tryd.prog W .any base t v := hval0
  have hW' := hW
  obtain ⟨p, q, hA0, hV, rfl, hfz, hnd⟩ := hW
  have hA : DataW.TrodAll enc Tryd.prog W 0 (fun _ => true) true Tryd.f7.params.toList args.toList ds p := hA0
  rw [Tryd.params7] at hA hval hsz
  obtain ⟨vk, vs0, dk, ds0, pk, qk, hargs, rfl, rfl, hk, rk⟩ := trodAll_cons hA
  obtain ⟨v0, vs1, d0, ds1, p0, q0, rfl, rfl, rfl, h0, r1⟩ := trodAll_cons rk
  obtain ⟨rfl, rfl, rfl⟩ := trodAll_nil r1
  obtain rfl : args = #[vk, v0] := by cases args; simp_all
  obtain ⟨rfl, rfl⟩ := trodVars_none hV
  obtain ⟨ak, rfl, rfl, rfl, wk⟩ := open_string Tryd.underlying9 (hval 0 9 vk rfl rfl) hk
  obtain ⟨o0, len, cap, rfl⟩ := okWide_slice Tryd.underlying33 (hval 1 33 v0 rfl rfl)
  have h0k := h0
  obtain ⟨fuel, hf⟩ := h0
  obtain ⟨tt, fr, hg⟩ := laid_const W hL
  clear hA0 hval0 hsz0
  simp only [List.append_nil, List.nil_append] at hW'
  have hlt : ∀ x ∈ p0, x.block < W.heap.size := fun x hx => by simpa using hW'.lt x hx
  have fin : ∀ W' : World, Below W.heap.size W W' → Rows.macCutsSpec.post enc Tryd.checked.prog Tryd.f7 false true false false W #[.string ak, .slice o0 len cap] (.bool true) W' := fun W' hb =>
    ⟨_, _, _, [] ++ [], _, [], hW', trodAll_cons_mk (shut_bool Tryd.underlying4 _) trodAll_mk0, trodAll_cons_mk (shut_string Tryd.underlying9 wk) (trodAll_cons_mk (Below.trod (by kernel_rfl) (by kernel_rfl) (of_decide_eq_true (by kernel_rfl)) h0k hb hlt) trodAll_mk0), rfl, hb.frame _, fun h => by cases h⟩
  rcases open_strings Tryd.underlying33 Tryd.underlying9 (by kernel_rfl) hf with ⟨hcs, hx⟩ | ⟨a, len', cap', ss, hcs, _, hl, hm, hz, hx, hcell, _⟩
  · simp [Value.cells] at hcs
    obtain ⟨rfl, rfl, rfl⟩ := hcs
    refine (macCuts_walk ak none 0 0 (Nat.le_refl _) (fun _ => ⟨rfl, rfl⟩) (fun _ => ByteArray.empty) W (fun n hn => slice_nil none n hn) (fun i hi => absurd hi (by omega)) hg).mono fun e W' ⟨he, hb⟩ => ?_
    subst he
    exact ⟨_, rfl, fin W' hb⟩
  · simp [Value.cells] at hcs
    obtain ⟨rfl, rfl, rfl⟩ := hcs
    simp only [Prod.mk.injEq] at hx
    obtain ⟨rfl, rfl⟩ := hx
    simp only [if_true] at hz
    have hw : ∀ s ∈ ss.take len, s.size ≤ 140737488355328 := fun s hs => by
      have hm2 := DataW.weights_mem_each (P := Tryd.prog) (ts := [9, 33]) (ds := [(DataW.lit (.string ak.data.toList) : DataW H), DataW.slice (strs (ss.take len)) (strs (ss.drop len))]) (j := 1) rfl rfl s.size (by
        simp only [DataW.weights, Tryd.underlying33, List.mem_cons, List.mem_append]
        exact .inr (.inl (macCuts_sized _ _ _ _ hs)))
      have h2 := List.all_eq_true.1 hsz _ hm2
      have h3 := reachBytes_lt
      simp only [decide_eq_true_eq] at h2
      omega
    by_cases hc0 : cap = 0
    · subst hc0
      obtain rfl : len = 0 := by omega
      refine (macCuts_walk ak (some a) 0 0 (Nat.le_refl _) (fun h => by cases h) (fun _ => ByteArray.empty) W (fun n hn => slice_nil (some a) n hn) (fun i hi => absurd hi (by omega)) hg).mono fun e W' ⟨he, hb⟩ => ?_
      subst he
      exact ⟨_, rfl, fin W' hb⟩
    · obtain ⟨b, off, spot⟩ := a
      have hspot : spot = none := by simpa [Addr.add] using World.cell?_spot (hcell 0 (by omega))
      subst hspot
      have hbW : b < W.heap.size := hlt (.cell b off) (MemPlace.mem_row.2 ⟨0, by omega, by simp⟩)
      refine (macCuts_walk ak (some ⟨b, off, none⟩) len cap hl (fun h => by cases h) (fun i => ss.getD i ByteArray.empty) W (fun n hn => slice_some b off len cap n hn) (fun i hi => ⟨⟨b, off, rfl, hbW, by have h := hcell i (by omega); rw [Addr.add_lit] at h; exact h⟩, hw _ (by rw [List.getD_eq_getElem?_getD, List.getElem?_eq_getElem (by omega)]; exact List.mem_take_iff_getElem.2 ⟨i, by omega, rfl⟩)⟩) hg).mono fun e W' ⟨he, hb⟩ => ?_
      subst he
      exact ⟨_, rfl, fin W' hb⟩
theorem macCuts_row : Rows.MacCutsSaid :=
  OpenClaim.holds_of_wide 7 Tryd.f7 rfl rfl rfl rfl rfl rfl rfl ⟨rfl, rfl, rfl, rfl, rfl⟩ rfl rfl rfl rfl rfl (by kernel_rfl) Tryd.func7 (by kernel_rfl)
    (of_decide_eq_true (by kernel_rfl)) (by unfold Func.isWrapper; first | (rw [if_pos (by decide +kernel)]; kernel_rfl) | (rw [if_neg (by decide +kernel)]; exact ⟨rfl, rfl⟩))
    (fun os started H enc _ => macCuts_lifted os started H enc)
theorem macCuts_card : Rows.MacCutsCardSaid :=
  Claim7.holds_tied_plain_at .later [] [.data] true (true, "1f321935f047496f6a14c68eb4a69405c050b0d6049c8e35d4868b1ec09edb4b") false
    macCuts_row (fun _ h => by cases h) (by kernel_rfl) (fun _ h => by cases h) macCuts_row_tie rfl ⟨rfl, rfl⟩ (by kernel_rfl) rfl
    (fun f fn hf hfn => by
      obtain rfl : f = 7 := Option.some.inj ((show Tryd.prog.funcNamed "sphragis/sphragislaw03.MacCuts" = some 7 by kernel_rfl).symm.trans hf) |>.symm
      obtain rfl : fn = Tryd.f7 := (Option.some.inj (Tryd.func7.symm.trans hfn)).symm
      exact ⟨by kernel_rfl, fun j t ht => by
        rw [Tryd.params7] at ht
        have hm : t ∈ [9, 33] := by simpa using Array.mem_of_getElem? ht
        have hall : ([9, 33].all fun u => !Tryd.prog.wantsStandIn u) = true := by kernel_rfl
        exact (show Tryd.prog.wantsStandIn t = false by simpa using List.all_eq_true.1 hall t hm)⟩)
    (by kernel_rfl)
#print axioms macCuts_card
end Go.Proofs.YtdpmocgcpbjhiaaDoor
