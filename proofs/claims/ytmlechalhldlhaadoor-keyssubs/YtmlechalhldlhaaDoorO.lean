/- What the package variables read as: the tables of words. -/
import Derived.Test.YtmlechalhldlhaaDoorJ
import Derived.Test.YtmlechalhldlhaaDoorTie
import Derived.ProofKit
import Derived.LaidMore
import Derived.OpenShut
import Derived.ShutString
import Derived.Stop.Joined
import Derived.Lib.LaidTab
namespace Go.Proofs.YtmlechalhldlhaaDoor
open Go.ChangeShapes Go.WideShapes Go.ChangeAt Go.RowKit
theorem own : ownKnob Tryd.prog.godebug = none := by kernel_rfl
theorem gRef : Tryd.prog.globalNamed "sphragis/sphragisref02.table" = some 0 := by kernel_rfl
theorem tRef : (Tryd.prog.globals[0]?).map (·.type) = some 68 := by kernel_rfl
theorem gSha : Tryd.prog.globalNamed "sphragis/sha.constants" = some 1 := by kernel_rfl
theorem tSha : (Tryd.prog.globals[1]?).map (·.type) = some 68 := by kernel_rfl
theorem w64_list (cs : Array Value) (h : cs.toList = KL.map fun z => Value.int .u32 z) : cs = w64 (lf KL) := by
  apply Array.toList_inj.1
  rw [h]
  rfl
theorem row_of {W : World} {m : Nat} {cs : Array Value} {q : List MemPlace}
    (h : DataW.trod (fun _ => ()) Tryd.prog W 0 (fun _ => true) false m 68 cs.toList = some (Lib.tabData .u32 KL, q)) : cs = w64 (lf KL) :=
  w64_list _ (Lib.cells_of_tab Tryd.underlying68 Tryd.underlying22 (by kernel_rfl) (by kernel_rfl) h)
theorem var_heap {W : World} {g : Nat} {n : String} {cs : Array Value} (hg : Tryd.prog.globalNamed n = some g) (h : World.var? Tryd.prog W n = some cs) : ∃ tt fr, W.heap[g]? = some (.cells cs tt fr) := by
  unfold World.var? at h
  rw [hg] at h
  simp only [Option.bind_some] at h
  split at h
  · rename_i cs tt fr hh
    cases h
    exact ⟨tt, fr, hh⟩
  · cases h
theorem laid_const (W : World) (h : laidMetH Tryd.prog [("sphragis/sha.constants", Rows.laid_sphragis_sha_constants)] W) : ∃ tt fr, W.heap[1]? = some (.cells (w64 (lf KL)) tt fr) := by
  rw [MakeChecks.laidMetH_plain _ _ _ (by kernel_rfl)] at h
  obtain ⟨ps, ⟨g0, t0, cs0, f0, p0, q0, hg0, ht0, hv0, hd0, _, _⟩, _, _⟩ := h
  obtain rfl := Option.some.inj (gSha.symm.trans hg0)
  obtain rfl := Option.some.inj (tSha.symm.trans ht0)
  obtain rfl := row_of hd0
  exact var_heap gSha hv0
theorem laid_both (W : World) (h : laidMetH Tryd.prog [("sphragis/sphragisref02.table", Rows.laid_sphragis_sphragisref02_table), ("sphragis/sha.constants", Rows.laid_sphragis_sha_constants)] W) :
    (∃ tt fr, W.heap[0]? = some (.cells (w64 (lf KL)) tt fr)) ∧ ∃ tt fr, W.heap[1]? = some (.cells (w64 (lf KL)) tt fr) := by
  rw [MakeChecks.laidMetH_plain _ _ _ (by kernel_rfl)] at h
  obtain ⟨ps, ⟨g0, t0, cs0, f0, p0, q0, hg0, ht0, hv0, hd0, ⟨g1, t1, cs1, f1, p1, q1, hg1, ht1, hv1, hd1, _, _⟩, _⟩, _, _⟩ := h
  obtain rfl := Option.some.inj (gRef.symm.trans hg0)
  obtain rfl := Option.some.inj (tRef.symm.trans ht0)
  obtain rfl := Option.some.inj (gSha.symm.trans hg1)
  obtain rfl := Option.some.inj (tSha.symm.trans ht1)
  obtain rfl := row_of hd0
  obtain rfl := row_of hd1
  exact ⟨var_heap gRef hv0, var_heap gSha hv1⟩
/-- The door's own heap meets the conditions. -/
theorem door_const (os : Os) (args : Array Value) : laidMetH Tryd.prog [("sphragis/sha.constants", Rows.laid_sphragis_sha_constants)] ((World.doorLaid Tryd.prog 400 os).forCall (fun _ _ => 0) ⟨#[], args, []⟩).memory := by
  rw [MakeChecks.laidMetH_plain _ _ _ (by kernel_rfl)]
  exact laidMet_of_run' 8 (by kernel_rfl) (by kernel_rfl)
theorem door_both (os : Os) (args : Array Value) : laidMetH Tryd.prog [("sphragis/sphragisref02.table", Rows.laid_sphragis_sphragisref02_table), ("sphragis/sha.constants", Rows.laid_sphragis_sha_constants)] ((World.doorLaid Tryd.prog 400 os).forCall (fun _ _ => 0) ⟨#[], args, []⟩).memory := by
  rw [MakeChecks.laidMetH_plain _ _ _ (by kernel_rfl)]
  exact laidMet_of_run' 8 (by kernel_rfl) (by kernel_rfl)
end Go.Proofs.YtmlechalhldlhaaDoor
