/- A head that is handed in. -/
import Derived.Test.YtaoadopnhphjbaaDoorPWA
import Derived.Test.YtaoadopnhphjbaaDoorQk
import Derived.Carry
import Derived.OpenShut
namespace Go.Proofs.YtaoadopnhphjbaaDoor.Rs
open Go.RowKit Go.ChangeShapes Go.WideShapes Go.Deep
set_option maxRecDepth 100000 in
theorem cellsHead : Tryd.prog.cellsOf 25 = 4 := by kernel_rfl
set_option maxRecDepth 100000 in
theorem cells32 : Tryd.prog.cellsOf 22 = 1 := by kernel_rfl
set_option maxRecDepth 100000 in
theorem cells64 : Tryd.prog.cellsOf 23 = 1 := by kernel_rfl
set_option maxRecDepth 100000 in
theorem wf32 {n : Int} (h : (Lit.int .u32 n).wf = true) : 0 ≤ n ∧ n < 4294967296 := by
  simp only [Lit.wf, IntKind.min, IntKind.max, IntKind.signed, IntKind.bits, Bool.and_eq_true] at h
  simp at h
  omega
set_option maxRecDepth 100000 in
theorem wf64 {n : Int} (h : (Lit.int .u64 n).wf = true) : 0 ≤ n ∧ n < 18446744073709551616 := by
  simp only [Lit.wf, IntKind.min, IntKind.max, IntKind.signed, IntKind.bits, Bool.and_eq_true] at h
  simp at h
  omega
set_option maxRecDepth 100000 in
theorem wf8 {n : Int} (h : (Lit.int .u8 n).wf = true) : 0 ≤ n ∧ n < 256 := by
  simp only [Lit.wf, IntKind.min, IntKind.max, IntKind.signed, IntKind.bits, Bool.and_eq_true] at h
  simp at h
  omega
set_option maxRecDepth 100000 in
theorem head_of_arg {H : Type} {enc : TypeId × Value → H} {W : World} {v : Value} {base : Nat} {d : DataW H} {p : List MemPlace} (hv' : Value.okWide Tryd.prog W .any base 25 v) (h : DataW.Trod enc Tryd.prog W 0 (fun _ => true) true 25 v d p) : ∃ k : Hd, v = hv k ∧ fits k := by
  obtain ⟨cs, rfl, hcs⟩ := okWide_struct Tryd.underlying25 hv'
  rw [cellsHead] at hcs
  obtain ⟨n, h⟩ := h
  obtain ⟨xs, m, _, _, _, hlen, hf⟩ := DataW.trod_struct Tryd.underlying25 h
  obtain ⟨c0, c1, c2, c3, rfl⟩ : ∃ c0 c1 c2 c3, cs = #[c0, c1, c2, c3] := by
    match cs, hcs with
    | ⟨[c0, c1, c2, c3]⟩, _ => exact ⟨c0, c1, c2, c3, rfl⟩
  obtain ⟨y0, y1, y2, y3, rfl⟩ : ∃ y0 y1 y2 y3, xs = [y0, y1, y2, y3] := by
    match xs, hlen with
    | [y0, y1, y2, y3], _ => exact ⟨y0, y1, y2, y3, rfl⟩
  have e0 := hf 0 _ rfl
  have e1 := hf 1 _ rfl
  have e2 := hf 2 _ rfl
  have e3 := hf 3 _ rfl
  simp [Value.cells, cells32, cells64] at e0 e1 e2 e3
  obtain ⟨a, ea, _, wa⟩ := DataW.trod_int Tryd.underlying22 e0
  obtain ⟨b, eb, _, wb⟩ := DataW.trod_int Tryd.underlying22 e1
  obtain ⟨c, ec, _, wc⟩ := DataW.trod_int Tryd.underlying22 e2
  obtain ⟨d, ed, _, wd⟩ := DataW.trod_int Tryd.underlying23 e3
  simp at ea eb ec ed
  subst ea eb ec ed
  exact ⟨(a, b, c, d), rfl, wf32 wa, wf32 wb, wf32 wc, wf64 wd⟩
end Go.Proofs.YtaoadopnhphjbaaDoor.Rs
