/- Roots, refs, texts and numbers that are handed in. -/
import Derived.Test.YtofealdlgpmheaaQRtn
import Derived.ProofKit
import Derived.Deep.SlicePairs
import Derived.Carry
import Derived.OpenShut
import Derived.SliceStrings
import Derived.SizedLaws
import Derived.ChangeSlices
import Derived.ChangeArms
import Derived.DataReads
import Derived.ChangeMaps5
namespace Go.Proofs.Ytofealdlgpmheaa
set_option maxRecDepth 100000 in
theorem own : ownKnob Try.prog.godebug = none := by kernel_rfl
set_option maxRecDepth 100000 in
theorem laidOut : laidOutB Try.prog = true := by kernel_rfl
namespace Ro
open Go.RowKit Go.ChangeShapes Go.WideShapes Go.ChangeAt Go.Deep
open Go.Proofs.Ytofealdlgpmheaa.Rc Go.Proofs.Ytofealdlgpmheaa.Rq
set_option maxRecDepth 100000 in
theorem cells32 : Try.prog.cellsOf 23 = 1 := by kernel_rfl
set_option maxRecDepth 100000 in
theorem cells64 : Try.prog.cellsOf 22 = 1 := by kernel_rfl
set_option maxRecDepth 100000 in
theorem cells9 : Try.prog.cellsOf 9 = 1 := by kernel_rfl
set_option maxRecDepth 100000 in
theorem cellsRef : Try.prog.cellsOf 25 = 2 := by kernel_rfl
set_option maxRecDepth 100000 in
theorem cellsRoot : Try.prog.cellsOf 27 = 5 := by kernel_rfl
set_option maxRecDepth 100000 in
theorem wf32 {n : Int} (h : (Lit.int .u32 n).wf = true) : ∃ m : Nat, n = (m : Int) ∧ m < 4294967296 := by
  simp only [Lit.wf, IntKind.min, IntKind.max, IntKind.signed, IntKind.bits, Bool.and_eq_true] at h
  simp at h
  exact ⟨n.toNat, by omega, by omega⟩
set_option maxRecDepth 100000 in
theorem wf64 {n : Int} (h : (Lit.int .u64 n).wf = true) : ∃ m : Nat, n = (m : Int) ∧ m < 18446744073709551616 := by
  simp only [Lit.wf, IntKind.min, IntKind.max, IntKind.signed, IntKind.bits, Bool.and_eq_true] at h
  simp at h
  exact ⟨n.toNat, by omega, by omega⟩
set_option maxRecDepth 100000 in
theorem wfi64 {n : Int} (h : (Lit.int .i64 n).wf = true) : -9223372036854775808 ≤ n ∧ n ≤ 9223372036854775807 := by
  exact (by simpa [Lit.wf] using h : IntKind.i64.min ≤ n ∧ n ≤ IntKind.i64.max)
set_option maxRecDepth 100000 in
set_option maxHeartbeats 1000000 in
theorem ref_of_cells {H : Type} {enc : TypeId × Value → H} {W : World} {fuel : Nat} {cs : List Value} {x : DataW H × List MemPlace} (h : DataW.trod enc Try.prog W 0 (fun _ => true) true fuel 25 cs = some x) (hl : cs.length = 2) : ∃ (p : Nat) (t : ByteArray), cs = [.int .u32 (p : Int), .string t] ∧ p < 4294967296 := by
  obtain ⟨xs, n, _, rfl, _, hxs, hf⟩ := DataW.trod_struct Try.underlying25 h
  have g0 : DataW.trod enc Try.prog W 0 (fun _ => true) true n 23 ((cs.drop 0).take (Try.prog.cellsOf 23)) = xs[0]? := hf 0 _ rfl
  have g1 : DataW.trod enc Try.prog W 0 (fun _ => true) true n 9 ((cs.drop 1).take (Try.prog.cellsOf 9)) = xs[1]? := hf 1 _ rfl
  simp only [cells32, cells9] at g0 g1
  obtain ⟨v0, v1, rfl⟩ : ∃ v0 v1, cs = [v0, v1] := by
    match cs, hl with
    | [v0, v1], _ => exact ⟨v0, v1, rfl⟩
  obtain ⟨x0, x1, rfl⟩ : ∃ x0 x1, xs = [x0, x1] := by
    match xs, hxs with
    | [x0, x1], _ => exact ⟨x0, x1, rfl⟩
  simp at g0 g1
  obtain ⟨a0, e0, _, u0⟩ := DataW.trod_int Try.underlying23 g0
  obtain ⟨a1, e1, _, u1⟩ := DataW.trod_string Try.underlying9 g1
  obtain ⟨m0, rfl, b0⟩ := wf32 u0
  cases e0; cases e1
  exact ⟨m0, a1, rfl, b0⟩
set_option maxRecDepth 100000 in
theorem i64_of_arg {H : Type} {enc : TypeId × Value → H} {W : World} {v : Value} {base : Nat} {d : DataW H} {p : List MemPlace} (hv' : Value.okWide Try.prog W .any base 3 v) (h : DataW.Trod enc Try.prog W 0 (fun _ => true) true 3 v d p) :
    ∃ i : Int, v = .int .i64 i ∧ -9223372036854775808 ≤ i ∧ i ≤ 9223372036854775807 := by
  obtain ⟨a, rfl, _, _, wa⟩ := open_int Try.underlying3 hv' h
  exact ⟨a, rfl, wfi64 wa⟩
set_option maxRecDepth 100000 in
theorem ref_of_arg {H : Type} {enc : TypeId × Value → H} {W : World} {v : Value} {base : Nat} {d : DataW H} {p : List MemPlace} (hv' : Value.okWide Try.prog W .any base 25 v) (h : DataW.Trod enc Try.prog W 0 (fun _ => true) true 25 v d p) :
    ∃ (q : Nat) (t : ByteArray), v = rfv q t ∧ q < 4294967296 := by
  obtain ⟨cs, rfl, hcs⟩ := okWide_struct Try.underlying25 hv'
  rw [cellsRef] at hcs
  obtain ⟨n, h⟩ := h
  obtain ⟨q, t, hr, ok⟩ := ref_of_cells h (by simpa [Value.cells] using hcs)
  refine ⟨q, t, ?_, ok⟩
  have : cs = #[.int .u32 (q : Int), .string t] := by
    have e : cs.toList = [.int .u32 (q : Int), .string t] := by simpa [Value.cells] using hr
    rw [← Array.toArray_toList (xs := cs), e]
  rw [this]
set_option maxRecDepth 100000 in
theorem u32_of_arg {H : Type} {enc : TypeId × Value → H} {W : World} {v : Value} {base : Nat} {d : DataW H} {p : List MemPlace} (hv' : Value.okWide Try.prog W .any base 23 v) (h : DataW.Trod enc Try.prog W 0 (fun _ => true) true 23 v d p) :
    ∃ m : Nat, v = .int .u32 (m : Int) ∧ m < 4294967296 := by
  obtain ⟨a, rfl, _, _, wa⟩ := open_int Try.underlying23 hv' h
  obtain ⟨m, rfl, hm⟩ := wf32 wa
  exact ⟨m, rfl, hm⟩
set_option maxRecDepth 100000 in
theorem u64_of_arg {H : Type} {enc : TypeId × Value → H} {W : World} {v : Value} {base : Nat} {d : DataW H} {p : List MemPlace} (hv' : Value.okWide Try.prog W .any base 22 v) (h : DataW.Trod enc Try.prog W 0 (fun _ => true) true 22 v d p) :
    ∃ m : Nat, v = .int .u64 (m : Int) ∧ m < 18446744073709551616 := by
  obtain ⟨a, rfl, _, _, wa⟩ := open_int Try.underlying22 hv' h
  obtain ⟨m, rfl, hm⟩ := wf64 wa
  exact ⟨m, rfl, hm⟩
set_option maxRecDepth 100000 in
theorem u8_of_arg {H : Type} {enc : TypeId × Value → H} {W : World} {v : Value} {base : Nat} {d : DataW H} {p : List MemPlace} (hv' : Value.okWide Try.prog W .any base 5 v) (h : DataW.Trod enc Try.prog W 0 (fun _ => true) true 5 v d p) :
    ∃ m : Nat, v = .int .u8 (m : Int) ∧ m < 256 := by
  obtain ⟨a, rfl, _, _, wa⟩ := open_int Try.underlying5 hv' h
  simp only [Lit.wf, IntKind.min, IntKind.max, IntKind.signed, IntKind.bits, Bool.and_eq_true] at wa
  simp at wa
  exact ⟨a.toNat, by congr 1; omega, by omega⟩
set_option maxRecDepth 100000 in
theorem str_of_arg {H : Type} {enc : TypeId × Value → H} {W : World} {v : Value} {base : Nat} {d : DataW H} {p : List MemPlace} (hv' : Value.okWide Try.prog W .any base 9 v) (h : DataW.Trod enc Try.prog W 0 (fun _ => true) true 9 v d p) :
    ∃ s : ByteArray, v = .string s ∧ s.size ≤ maxLen := by
  obtain ⟨a, rfl, rfl, rfl, w⟩ := Go.ChangeMaps.open_string Try.underlying9 hv' h
  exact ⟨a, rfl, w⟩
set_option maxRecDepth 100000 in
set_option maxHeartbeats 1000000 in
theorem root_of_arg {H : Type} {enc : TypeId × Value → H} {W : World} {v : Value} {base : Nat} {d : DataW H} {p : List MemPlace} (hv' : Value.okWide Try.prog W .any base 27 v) (h : DataW.Trod enc Try.prog W 0 (fun _ => true) true 27 v d p) :
    ∃ r : Rt, v = rtv r ∧ okR r := by
  obtain ⟨cs, rfl, hcs⟩ := okWide_struct Try.underlying27 hv'
  rw [cellsRoot] at hcs
  obtain ⟨n, h⟩ := h
  obtain ⟨xs, m, _, hx, _, hlen, hf⟩ := DataW.trod_struct Try.underlying27 h
  obtain ⟨c0, c1, c2, c3, c4, rfl⟩ : ∃ c0 c1 c2 c3 c4, cs = #[c0, c1, c2, c3, c4] := by
    match cs, hcs with
    | ⟨[c0, c1, c2, c3, c4]⟩, _ => exact ⟨c0, c1, c2, c3, c4, rfl⟩
  obtain ⟨y0, y1, y2, y3, rfl⟩ : ∃ y0 y1 y2 y3, xs = [y0, y1, y2, y3] := by
    match xs, hlen with
    | [y0, y1, y2, y3], _ => exact ⟨y0, y1, y2, y3, rfl⟩
  have e0 := hf 0 _ rfl
  have e1 := hf 1 _ rfl
  have e2 := hf 2 _ rfl
  have e3 := hf 3 _ rfl
  simp [Value.cells, cells32, cells64, cellsRef] at e0 e1 e2 e3
  obtain ⟨a0, f0, _, u0⟩ := DataW.trod_int Try.underlying22 e0
  obtain ⟨a1, f1, _, u1⟩ := DataW.trod_int Try.underlying23 e1
  obtain ⟨a2, f2, _, u2⟩ := DataW.trod_int Try.underlying23 e2
  obtain ⟨q, t, f3, bq⟩ := ref_of_cells e3 rfl
  simp at f0 f1 f2 f3
  obtain ⟨rfl, rfl⟩ := f3
  obtain ⟨m0, rfl, b0⟩ := wf64 u0
  obtain ⟨m1, rfl, b1⟩ := wf32 u1
  obtain ⟨m2, rfl, b2⟩ := wf32 u2
  subst f0 f1 f2
  exact ⟨⟨m0, m1, m2, q, t⟩, rfl, b0, b1, b2, bq⟩
end Ro
end Go.Proofs.Ytofealdlgpmheaa
