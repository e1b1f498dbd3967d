import Derived.Test.YtnedbakgaggdaaaDoorM
import Derived.Test.YtnedbakgaggdaaaDoorTie
import Derived.ProofKit
import Derived.LaidMore
import Derived.OpenShut
import Derived.ShutString
import Derived.Stop.Joined
import Derived.Lib.LaidTab
namespace Go.Proofs.YtnedbakgaggdaaaDoor
open Go.ChangeShapes Go.WideShapes Go.ChangeAt Go.RowKit
theorem own : ownKnob Tryd.prog.godebug = none := by kernel_rfl
theorem gTurns : Tryd.prog.globalNamed "sphragis/arx.turns" = some 0 := by kernel_rfl
theorem tTurns : (Tryd.prog.globals[0]?).map (·.type) = some 59 := by kernel_rfl
theorem drop4 {α : Type} (l : List α) (k : Nat) : l.drop k = (l.drop k).take 4 ++ l.drop (k + 4) := by
  rw [← List.drop_drop]; exact (List.take_append_drop 4 _).symm
theorem row_of {W : World} {xs : List (DataW Unit × List MemPlace)} {m : Nat} {l : List Value} {i : Nat} {zs : List Int}
    (h : DataW.trod (fun _ => ()) Tryd.prog W 0 (fun _ => true) false m 58 ((l.drop (i * 4)).take 4) = xs[i]?) (hx : (xs.map (·.1))[i]? = some (Lib.tabData .i64 zs)) : (l.drop (i * 4)).take 4 = zs.map fun z => Value.int .i64 z := by
  rw [List.getElem?_map] at hx
  obtain ⟨x, hx1, hx2⟩ := Option.map_eq_some_iff.1 hx
  rw [hx1] at h
  obtain ⟨d, q⟩ := x
  cases hx2
  exact Lib.cells_of_tab Tryd.underlying58 Tryd.underlying3 (by kernel_rfl) (by kernel_rfl) h
theorem laid_plain (W : World) (h : laidMetH Tryd.prog [("sphragis/arx.turns", Rows.laid_sphragis_arx_turns)] W) : ∃ tt fr, W.heap[0]? = some (.cells tab tt fr) := by
  rw [MakeChecks.laidMetH_plain _ _ _ (by kernel_rfl)] at h
  obtain ⟨ps, ⟨g0, t0, cs0, f0, p0, q0, hg0, ht0, hv0, hd0, _, _⟩, _, _⟩ := h
  obtain rfl := Option.some.inj (gTurns.symm.trans hg0)
  obtain rfl := Option.some.inj (tTurns.symm.trans ht0)
  obtain ⟨xs, m1, rfl, hx1, hlen, hn3, hel⟩ := DataW.trod_array Tryd.underlying59 hd0
  have c58 : Tryd.prog.cellsOf 58 = 4 := by kernel_rfl
  have c59 : Tryd.prog.cellsOf 59 = 32 := by kernel_rfl
  rw [c58] at hel
  rw [c59] at hlen
  have hxl : Rows.laid_sphragis_arx_turns = DataW.agg (xs.map (·.1)) := (Prod.mk.inj hx1).1
  unfold Rows.laid_sphragis_arx_turns at hxl
  have hxs := DataW.agg.inj hxl
  have r0 := row_of (zs := [0, 4, 8, 12]) (hel 0 (by omega)) (by rw [← hxs]; rfl)
  have r1 := row_of (zs := [1, 5, 9, 13]) (hel 1 (by omega)) (by rw [← hxs]; rfl)
  have r2 := row_of (zs := [2, 6, 10, 14]) (hel 2 (by omega)) (by rw [← hxs]; rfl)
  have r3 := row_of (zs := [3, 7, 11, 15]) (hel 3 (by omega)) (by rw [← hxs]; rfl)
  have r4 := row_of (zs := [0, 5, 10, 15]) (hel 4 (by omega)) (by rw [← hxs]; rfl)
  have r5 := row_of (zs := [1, 6, 11, 12]) (hel 5 (by omega)) (by rw [← hxs]; rfl)
  have r6 := row_of (zs := [2, 7, 8, 13]) (hel 6 (by omega)) (by rw [← hxs]; rfl)
  have r7 := row_of (zs := [3, 4, 9, 14]) (hel 7 (by omega)) (by rw [← hxs]; rfl)
  have hl : cs0.toList = tab.toList := by
    have h32 : cs0.toList.drop 32 = [] := List.drop_eq_nil_of_le (by omega)
    have e0 : cs0.toList = cs0.toList.drop (0 * 4) := rfl
    rw [e0]
    rw [drop4 _ (0 * 4), r0]
    rw [show cs0.toList.drop (0 * 4 + 4) = cs0.toList.drop (1 * 4) from rfl, drop4 _ (1 * 4), r1]
    rw [show cs0.toList.drop (1 * 4 + 4) = cs0.toList.drop (2 * 4) from rfl, drop4 _ (2 * 4), r2]
    rw [show cs0.toList.drop (2 * 4 + 4) = cs0.toList.drop (3 * 4) from rfl, drop4 _ (3 * 4), r3]
    rw [show cs0.toList.drop (3 * 4 + 4) = cs0.toList.drop (4 * 4) from rfl, drop4 _ (4 * 4), r4]
    rw [show cs0.toList.drop (4 * 4 + 4) = cs0.toList.drop (5 * 4) from rfl, drop4 _ (5 * 4), r5]
    rw [show cs0.toList.drop (5 * 4 + 4) = cs0.toList.drop (6 * 4) from rfl, drop4 _ (6 * 4), r6]
    rw [show cs0.toList.drop (6 * 4 + 4) = cs0.toList.drop (7 * 4) from rfl, drop4 _ (7 * 4), r7]
    rw [show cs0.toList.drop (7 * 4 + 4) = cs0.toList.drop 32 from rfl, h32]
    rfl
  have hc : cs0 = tab := Array.toList_inj.1 hl
  subst hc
  unfold World.var? at hv0
  rw [hg0] at hv0
  simp only [Option.bind_some] at hv0
  split at hv0
  · rename_i cs tt fr hh
    cases hv0
    exact ⟨tt, fr, hh⟩
  · cases hv0
/-- The door's own heap meets the condition. -/
theorem door_met (os : Os) (args : Array Value) : laidMetH Tryd.prog [("sphragis/arx.turns", Rows.laid_sphragis_arx_turns)] ((World.doorLaid Tryd.prog 400 os).forCall (fun _ _ => 0) ⟨#[], args, []⟩).memory := by
  rw [MakeChecks.laidMetH_plain _ _ _ (by kernel_rfl)]
  exact laidMet_of_run' 8 (by kernel_rfl) (by kernel_rfl)
end Go.Proofs.YtnedbakgaggdaaaDoor
