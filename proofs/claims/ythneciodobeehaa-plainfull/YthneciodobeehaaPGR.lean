/- Rows, boxes and numbers that are handed in. -/
import Derived.Test.YthneciodobeehaaPGB
import Derived.ProofKit
import Derived.Deep.SlicePairs
import Derived.Carry
import Derived.OpenShut
import Derived.SliceStrings
import Derived.SizedLaws
import Derived.ChangeSlices
import Derived.ChangeArms
import Derived.DataReads
namespace Go.Proofs.Ythneciodobeehaa
set_option maxRecDepth 100000 in
theorem own : ownKnob Try.prog.godebug = none := by kernel_rfl
set_option maxRecDepth 100000 in
theorem laidOut : laidOutB Try.prog = true := by kernel_rfl
namespace Rq
open Go.RowKit Go.ChangeShapes Go.WideShapes Go.ChangeAt Go.Deep
open Go.Proofs.Ythneciodobeehaa.Rc
set_option maxRecDepth 100000 in
theorem cells32 : Try.prog.cellsOf 25 = 1 := by kernel_rfl
set_option maxRecDepth 100000 in
theorem cells64 : Try.prog.cellsOf 23 = 1 := by kernel_rfl
set_option maxRecDepth 100000 in
theorem cells9 : Try.prog.cellsOf 9 = 1 := by kernel_rfl
set_option maxRecDepth 100000 in
theorem cellsRow : Try.prog.cellsOf 27 = 4 := by kernel_rfl
set_option maxRecDepth 100000 in
theorem wf32 {n : Int} (h : (Lit.int .u32 n).wf = true) : ∃ m : Nat, n = (m : Int) ∧ m < 4294967296 := by
  simp only [Lit.wf, IntKind.min, IntKind.max, IntKind.signed, IntKind.bits, Bool.and_eq_true] at h
  simp at h
  exact ⟨n.toNat, by omega, by omega⟩
set_option maxRecDepth 100000 in
theorem wf64 {n : Int} (h : (Lit.int .u64 n).wf = true) : ∃ m : Nat, n = (m : Int) ∧ m < 18446744073709551616 := by
  simp only [Lit.wf, IntKind.min, IntKind.max, IntKind.signed, IntKind.bits, Bool.and_eq_true] at h
  simp at h
  exact ⟨n.toNat, by omega, by omega⟩
set_option maxRecDepth 100000 in
theorem wfi64 {n : Int} (h : (Lit.int .i64 n).wf = true) : -9223372036854775808 ≤ n ∧ n ≤ 9223372036854775807 := by
  exact (by simpa [Lit.wf] using h : IntKind.i64.min ≤ n ∧ n ≤ IntKind.i64.max)
set_option maxRecDepth 100000 in
set_option maxHeartbeats 1000000 in
theorem row_of_cells {H : Type} {enc : TypeId × Value → H} {W : World} {fuel : Nat} {cs : List Value} {x : DataW H × List MemPlace} (h : DataW.trod enc Try.prog W 0 (fun _ => true) true fuel 27 cs = some x) (hl : cs.length = 4) : ∃ r : Rw, cs = rc r ∧ okRow r := by
  obtain ⟨xs, n, _, rfl, _, hxs, hf⟩ := DataW.trod_struct Try.underlying27 h
  have g0 : DataW.trod enc Try.prog W 0 (fun _ => true) true n 23 ((cs.drop 0).take (Try.prog.cellsOf 23)) = xs[0]? := hf 0 _ rfl
  have g1 : DataW.trod enc Try.prog W 0 (fun _ => true) true n 25 ((cs.drop 1).take (Try.prog.cellsOf 25)) = xs[1]? := hf 1 _ rfl
  have g2 : DataW.trod enc Try.prog W 0 (fun _ => true) true n 25 ((cs.drop 2).take (Try.prog.cellsOf 25)) = xs[2]? := hf 2 _ rfl
  have g3 : DataW.trod enc Try.prog W 0 (fun _ => true) true n 9 ((cs.drop 3).take (Try.prog.cellsOf 9)) = xs[3]? := hf 3 _ rfl
  simp only [cells32, cells64, cells9] at g0 g1 g2 g3
  obtain ⟨v0, v1, v2, v3, rfl⟩ : ∃ v0 v1 v2 v3, cs = [v0, v1, v2, v3] := by
    match cs, hl with
    | [v0, v1, v2, v3], _ => exact ⟨v0, v1, v2, v3, rfl⟩
  obtain ⟨x0, x1, x2, x3, rfl⟩ : ∃ x0 x1 x2 x3, xs = [x0, x1, x2, x3] := by
    match xs, hxs with
    | [x0, x1, x2, x3], _ => exact ⟨x0, x1, x2, x3, rfl⟩
  simp at g0 g1 g2 g3
  obtain ⟨a0, e0, _, u0⟩ := DataW.trod_int Try.underlying23 g0
  obtain ⟨a1, e1, _, u1⟩ := DataW.trod_int Try.underlying25 g1
  obtain ⟨a2, e2, _, u2⟩ := DataW.trod_int Try.underlying25 g2
  obtain ⟨a3, e3, _, u3⟩ := DataW.trod_string Try.underlying9 g3
  obtain ⟨m0, rfl, b0⟩ := wf64 u0
  obtain ⟨m1, rfl, b1⟩ := wf32 u1
  obtain ⟨m2, rfl, b2⟩ := wf32 u2
  cases e0; cases e1; cases e2; cases e3
  exact ⟨⟨m0, m1, m2, a3⟩, rfl, b0, b1, b2⟩
set_option maxRecDepth 100000 in
theorem row_of_arg {H : Type} {enc : TypeId × Value → H} {W : World} {v : Value} {base : Nat} {d : DataW H} {p : List MemPlace} (hv' : Value.okWide Try.prog W .any base 27 v) (h : DataW.Trod enc Try.prog W 0 (fun _ => true) true 27 v d p) : ∃ r : Rw, v = rv r ∧ okRow r := by
  obtain ⟨cs, rfl, hcs⟩ := okWide_struct Try.underlying27 hv'
  rw [cellsRow] at hcs
  obtain ⟨n, h⟩ := h
  obtain ⟨r, hr, ok⟩ := row_of_cells h (by simpa [Value.cells] using hcs)
  refine ⟨r, ?_, ok⟩
  have : cs = (rc r).toArray := by
    have e : cs.toList = rc r := by simpa [Value.cells] using hr
    rw [← e]
  rw [this]; rfl
set_option maxRecDepth 100000 in
theorem u32_of_arg {H : Type} {enc : TypeId × Value → H} {W : World} {v : Value} {base : Nat} {d : DataW H} {p : List MemPlace} (hv' : Value.okWide Try.prog W .any base 25 v) (h : DataW.Trod enc Try.prog W 0 (fun _ => true) true 25 v d p) :
    ∃ m : Nat, v = .int .u32 (m : Int) ∧ m < 4294967296 := by
  obtain ⟨a, rfl, _, _, wa⟩ := open_int Try.underlying25 hv' h
  obtain ⟨m, rfl, hm⟩ := wf32 wa
  exact ⟨m, rfl, hm⟩
set_option maxRecDepth 100000 in
theorem u64_of_arg {H : Type} {enc : TypeId × Value → H} {W : World} {v : Value} {base : Nat} {d : DataW H} {p : List MemPlace} (hv' : Value.okWide Try.prog W .any base 23 v) (h : DataW.Trod enc Try.prog W 0 (fun _ => true) true 23 v d p) :
    ∃ m : Nat, v = .int .u64 (m : Int) ∧ m < 18446744073709551616 := by
  obtain ⟨a, rfl, _, _, wa⟩ := open_int Try.underlying23 hv' h
  obtain ⟨m, rfl, hm⟩ := wf64 wa
  exact ⟨m, rfl, hm⟩
set_option maxRecDepth 100000 in
theorem i64_of_arg {H : Type} {enc : TypeId × Value → H} {W : World} {v : Value} {base : Nat} {d : DataW H} {p : List MemPlace} (hv' : Value.okWide Try.prog W .any base 3 v) (h : DataW.Trod enc Try.prog W 0 (fun _ => true) true 3 v d p) :
    ∃ i : Int, v = .int .i64 i ∧ -9223372036854775808 ≤ i ∧ i ≤ 9223372036854775807 := by
  obtain ⟨a, rfl, _, _, wa⟩ := open_int Try.underlying3 hv' h
  exact ⟨a, rfl, wfi64 wa⟩
set_option maxRecDepth 100000 in
set_option maxHeartbeats 1000000 in
theorem rows_of_arg {H : Type} {enc : TypeId × Value → H} {W : World} {o : Option Addr} {n c : Nat} {d : DataW H} {p : List MemPlace} (h : DataW.Trod enc Try.prog W 0 (fun _ => true) true 22 (.slice o n c) d p) (hlt : ∀ x ∈ p, x.block < W.heap.size) :
    ∃ l : List Rw, n = l.length ∧ RowsAt W o c l ∧ ∀ r ∈ l, okRow r := by
  obtain ⟨fuel, hf⟩ := h
  rcases DataW.trod_slice Try.underlying22 hf with ⟨hcs, hx⟩ | ⟨a, len, cap, elems, rest, n', _, hcs, hx, hb, hl, hm, hlen, hel, _, _⟩
  · simp [Value.cells] at hcs
    obtain ⟨rfl, rfl, rfl⟩ := hcs
    exact ⟨[], rfl, Sl.nil 4 W, fun r hr => by simp at hr⟩
  · simp [Value.cells] at hcs
    obtain ⟨rfl, rfl, rfl⟩ := hcs
    simp only [Prod.mk.injEq] at hx
    obtain ⟨rfl, rfl⟩ := hx
    rw [cellsRow] at hel hlt
    by_cases hn0 : n = 0
    · subst hn0
      exact ⟨[], rfl, ⟨by simp, hm, (fun e => by cases e), rfl, fun h => absurd h (by simp)⟩, fun r hr => by simp at hr⟩
    have each : ∀ i, i < n → ∃ cs y, W.cells? 0 (a.add (i * 4)) 4 = some cs ∧ DataW.trod enc Try.prog W 0 (fun _ => true) true n' 27 cs = some y := by
      intro i hi
      have h1 := hel i hi
      have h2 : elems[i]? = some elems[i] := List.getElem?_eq_getElem (by omega)
      rw [h2, Option.bind_eq_some_iff] at h1
      obtain ⟨cs, e1, e2⟩ := h1
      exact ⟨cs, _, e1, e2⟩
    obtain ⟨ab, off, spot⟩ := a
    have hspot : spot = none := by
      obtain ⟨cs, y, e1, _⟩ := each 0 (by omega)
      obtain ⟨_, hcl, hce⟩ := World.cells?_some e1
      have h0 := hce 0 (by omega)
      rw [List.getElem?_eq_getElem (by omega)] at h0
      simpa [Addr.add] using World.cell?_spot h0
    subst hspot
    have hadd (k : Nat) (o2 : Nat) : (⟨ab, o2, none⟩ : Addr).add k = ⟨ab, o2 + k, none⟩ := by unfold Addr.add; split <;> simp_all
    have hbW : ab < W.heap.size := hlt (.cell ab off) (by rw [List.mem_append]; exact .inl (MemPlace.mem_row.2 ⟨0, by omega, by simp⟩))
    have all : ∀ i, ∃ r : Rw, i < n → okRow r ∧ ∀ j u, (rc r)[j]? = some u → W.cell? ⟨ab, off + i * 4 + j, none⟩ = some u := by
      intro i
      by_cases hi : i < n
      · obtain ⟨cs, y, e1, e2⟩ := each i hi
        obtain ⟨_, hcl, hce⟩ := World.cells?_some e1
        obtain ⟨r, rfl, ok⟩ := row_of_cells e2 hcl
        refine ⟨r, fun _ => ⟨ok, fun j u hu => ?_⟩⟩
        have hj : j < 4 := (List.getElem?_eq_some_iff.1 hu).1
        have := hce j hj
        rw [hadd, hadd, hu] at this
        exact this
      · exact ⟨⟨0, 0, 0, ⟨#[]⟩⟩, fun h => absurd h hi⟩
    obtain ⟨f, hf⟩ := Classical.axiomOfChoice all
    have hlen2 : ((List.range n).map f).length = n := by simp
    refine ⟨(List.range n).map f, hlen2.symm, ⟨by rw [hlen2]; exact hl, hm, (fun e => by cases e), flat_len rc 4 (fun _ => rfl) _, fun _ => ⟨ab, off, rfl, hbW, fun j u hu => ?_⟩⟩, fun r hr => ?_⟩
    · have hj := (List.getElem?_eq_some_iff.1 hu).1
      rw [flat_len rc 4 (fun _ => rfl), hlen2] at hj
      have hi : j / 4 < n := by omega
      have e : j = j / 4 * 4 + j % 4 := by omega
      have g := flat_get rc 4 (fun _ => rfl) ((List.range n).map f) (j / 4) (f (j / 4)) (by simp [hi]) (j % 4) (by omega)
      rw [← e, hu] at g
      have := (hf (j / 4) hi).2 (j % 4) u g.symm
      rw [show off + j / 4 * 4 + j % 4 = off + j by omega] at this
      exact this
    · obtain ⟨i, hi, rfl⟩ := List.mem_map.1 hr
      exact (hf i (by simpa using hi)).1
end Rq
end Go.Proofs.Ythneciodobeehaa
