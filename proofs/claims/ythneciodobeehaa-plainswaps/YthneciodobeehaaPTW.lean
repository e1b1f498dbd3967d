/- Changes that are handed in. -/
import Derived.Test.YthneciodobeehaaPGR
import Derived.Test.YthneciodobeehaaPTD
namespace Go.Proofs.Ythneciodobeehaa
namespace Rp
open Go.RowKit Go.ChangeShapes Go.WideShapes Go.ChangeAt Go.Deep
open Go.Proofs.Ythneciodobeehaa.Rc Go.Proofs.Ythneciodobeehaa.Rq
set_option maxRecDepth 100000 in
theorem cells3 : Try.prog.cellsOf 3 = 1 := by kernel_rfl
set_option maxRecDepth 100000 in
theorem cellsOp : Try.prog.cellsOf 34 = 5 := by kernel_rfl
set_option maxRecDepth 100000 in
set_option maxHeartbeats 1000000 in
theorem op_of_arg {H : Type} {enc : TypeId × Value → H} {W : World} {v : Value} {base : Nat} {d : DataW H} {p : List MemPlace} (hv' : Value.okWide Try.prog W .any base 34 v) (h : DataW.Trod enc Try.prog W 0 (fun _ => true) true 34 v d p) :
    ∃ c : Ch, v = ov c := by
  obtain ⟨cs, rfl, hcs⟩ := okWide_struct Try.underlying34 hv'
  rw [cellsOp] at hcs
  obtain ⟨n, h⟩ := h
  obtain ⟨xs, m, _, _, _, hlen, hf⟩ := DataW.trod_struct Try.underlying34 h
  obtain ⟨c0, c1, c2, c3, c4, rfl⟩ : ∃ c0 c1 c2 c3 c4, cs = #[c0, c1, c2, c3, c4] := by
    match cs, hcs with
    | ⟨[c0, c1, c2, c3, c4]⟩, _ => exact ⟨c0, c1, c2, c3, c4, rfl⟩
  obtain ⟨y0, y1, rfl⟩ : ∃ y0 y1, xs = [y0, y1] := by
    match xs, hlen with
    | [y0, y1], _ => exact ⟨y0, y1, rfl⟩
  have e0 := hf 0 _ rfl
  have e1 := hf 1 _ rfl
  simp [Value.cells, cells3, cellsRow] at e0 e1
  obtain ⟨k, ek, _, _⟩ := DataW.trod_int Try.underlying3 e0
  obtain ⟨r, er, -⟩ := row_of_cells e1 rfl
  simp [rc] at ek er
  obtain ⟨rfl, rfl, rfl, rfl⟩ := er
  subst ek
  exact ⟨⟨k, r⟩, rfl⟩
end Rp
end Go.Proofs.Ythneciodobeehaa
