/- Cells, boxes and numbers that are handed in. -/
import Derived.Test.YtpfjfekpjlfibaaPCE
import Derived.ProofKit
import Derived.Deep.SlicePairs
import Derived.Carry
import Derived.OpenShut
import Derived.SliceStrings
import Derived.SizedLaws
namespace Go.Proofs.Ytpfjfekpjlfibaa
set_option maxRecDepth 100000 in
theorem own : ownKnob Try.prog.godebug = none := by kernel_rfl
set_option maxRecDepth 100000 in
theorem laidOut : laidOutB Try.prog = true := by kernel_rfl
namespace Rc
open Go.RowKit Go.ChangeShapes Go.WideShapes Go.Deep
set_option maxRecDepth 100000 in
theorem cellsCell : Try.prog.cellsOf 24 = 3 := by kernel_rfl
set_option maxRecDepth 100000 in
theorem cellsBox : Try.prog.cellsOf 26 = 4 := by kernel_rfl
set_option maxRecDepth 100000 in
theorem cells32 : Try.prog.cellsOf 22 = 1 := by kernel_rfl
set_option maxRecDepth 100000 in
theorem cells3 : Try.prog.cellsOf 3 = 1 := by kernel_rfl
set_option maxRecDepth 100000 in
theorem wf32 {n : Int} (h : (Lit.int .u32 n).wf = true) : ∃ m : Nat, n = (m : Int) ∧ m < 4294967296 := by
  simp only [Lit.wf, IntKind.min, IntKind.max, IntKind.signed, IntKind.bits, Bool.and_eq_true] at h
  simp at h
  exact ⟨n.toNat, by omega, by omega⟩
set_option maxRecDepth 100000 in
theorem cell_of_arg {H : Type} {enc : TypeId × Value → H} {W : World} {v : Value} {base : Nat} {d : DataW H} {p : List MemPlace} (hv' : Value.okWide Try.prog W .any base 24 v) (h : DataW.Trod enc Try.prog W 0 (fun _ => true) true 24 v d p) :
    ∃ (X Y : Nat) (L : Int), v = cv X Y L ∧ X < 4294967296 ∧ Y < 4294967296 := by
  obtain ⟨cs, rfl, hcs⟩ := okWide_struct Try.underlying24 hv'
  rw [cellsCell] at hcs
  obtain ⟨n, h⟩ := h
  obtain ⟨xs, m, _, _, _, hlen, hf⟩ := DataW.trod_struct Try.underlying24 h
  obtain ⟨c0, c1, c2, rfl⟩ : ∃ c0 c1 c2, cs = #[c0, c1, c2] := by
    match cs, hcs with
    | ⟨[c0, c1, c2]⟩, _ => exact ⟨c0, c1, c2, rfl⟩
  obtain ⟨y0, y1, y2, rfl⟩ : ∃ y0 y1 y2, xs = [y0, y1, y2] := by
    match xs, hlen with
    | [y0, y1, y2], _ => exact ⟨y0, y1, y2, rfl⟩
  have e0 := hf 0 _ rfl
  have e1 := hf 1 _ rfl
  have e2 := hf 2 _ rfl
  simp [Value.cells, cells32, cells3] at e0 e1 e2
  obtain ⟨a, ea, _, wa⟩ := DataW.trod_int Try.underlying22 e0
  obtain ⟨b, eb, _, wb⟩ := DataW.trod_int Try.underlying22 e1
  obtain ⟨c, ec, _, wc⟩ := DataW.trod_int Try.underlying3 e2
  simp at ea eb ec
  subst ea eb ec
  obtain ⟨X, rfl, hX⟩ := wf32 wa
  obtain ⟨Y, rfl, hY⟩ := wf32 wb
  exact ⟨X, Y, c, rfl, hX, hY⟩
set_option maxRecDepth 100000 in
theorem box_of_arg {H : Type} {enc : TypeId × Value → H} {W : World} {v : Value} {base : Nat} {d : DataW H} {p : List MemPlace} (hv' : Value.okWide Try.prog W .any base 26 v) (h : DataW.Trod enc Try.prog W 0 (fun _ => true) true 26 v d p) :
    ∃ (a b c d : Nat), v = bv a b c d := by
  obtain ⟨cs, rfl, hcs⟩ := okWide_struct Try.underlying26 hv'
  rw [cellsBox] at hcs
  obtain ⟨n, h⟩ := h
  obtain ⟨xs, m, _, _, _, hlen, hf⟩ := DataW.trod_struct Try.underlying26 h
  obtain ⟨c0, c1, c2, c3, rfl⟩ : ∃ c0 c1 c2 c3, cs = #[c0, c1, c2, c3] := by
    match cs, hcs with
    | ⟨[c0, c1, c2, c3]⟩, _ => exact ⟨c0, c1, c2, c3, rfl⟩
  obtain ⟨y0, y1, y2, y3, rfl⟩ : ∃ y0 y1 y2 y3, xs = [y0, y1, y2, y3] := by
    match xs, hlen with
    | [y0, y1, y2, y3], _ => exact ⟨y0, y1, y2, y3, rfl⟩
  have e0 := hf 0 _ rfl
  have e1 := hf 1 _ rfl
  have e2 := hf 2 _ rfl
  have e3 := hf 3 _ rfl
  simp [Value.cells, cells32] at e0 e1 e2 e3
  obtain ⟨a, ea, _, wa⟩ := DataW.trod_int Try.underlying22 e0
  obtain ⟨b, eb, _, wb⟩ := DataW.trod_int Try.underlying22 e1
  obtain ⟨c, ec, _, wc⟩ := DataW.trod_int Try.underlying22 e2
  obtain ⟨d, ed, _, wd⟩ := DataW.trod_int Try.underlying22 e3
  simp at ea eb ec ed
  subst ea eb ec ed
  obtain ⟨a, rfl, _⟩ := wf32 wa
  obtain ⟨b, rfl, _⟩ := wf32 wb
  obtain ⟨c, rfl, _⟩ := wf32 wc
  obtain ⟨d, rfl, _⟩ := wf32 wd
  exact ⟨a, b, c, d, rfl⟩
set_option maxRecDepth 100000 in
theorem u32_of_arg {H : Type} {enc : TypeId × Value → H} {W : World} {v : Value} {base : Nat} {d : DataW H} {p : List MemPlace} (hv' : Value.okWide Try.prog W .any base 22 v) (h : DataW.Trod enc Try.prog W 0 (fun _ => true) true 22 v d p) :
    ∃ m : Nat, v = .int .u32 (m : Int) ∧ m < 4294967296 := by
  obtain ⟨a, rfl, _, _, wa⟩ := open_int Try.underlying22 hv' h
  obtain ⟨m, rfl, hm⟩ := wf32 wa
  exact ⟨m, rfl, hm⟩
set_option maxRecDepth 100000 in
theorem i64_of_arg {W : World} {v : Value} {base : Nat} (hv' : Value.okWide Try.prog W .any base 3 v) : ∃ i : Int, v = .int .i64 i := okWide_int Try.underlying3 hv'
end Rc
end Go.Proofs.Ytpfjfekpjlfibaa
