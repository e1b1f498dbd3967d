/- Pages, refs, texts and numbers that are handed in. -/
import Derived.Test.YtljponlfjombaaaPIZ
import Derived.ProofKit
import Derived.Deep.SlicePairs
import Derived.Carry
import Derived.OpenShut
import Derived.SliceStrings
import Derived.SizedLaws
import Derived.ChangeSlices
import Derived.ChangeArms
import Derived.DataReads
import Derived.ChangeMaps5
namespace Go.Proofs.Ytljponlfjombaaa
set_option maxRecDepth 100000 in
theorem own : ownKnob Try.prog.godebug = none := by kernel_rfl
set_option maxRecDepth 100000 in
theorem laidOut : laidOutB Try.prog = true := by kernel_rfl
namespace Rw
open Go.RowKit Go.ChangeShapes Go.WideShapes Go.ChangeAt Go.Deep
open Go.Proofs.Ytljponlfjombaaa.Rc Go.Proofs.Ytljponlfjombaaa.Rq
set_option maxRecDepth 100000 in
theorem cells32 : Try.prog.cellsOf 22 = 1 := by kernel_rfl
set_option maxRecDepth 100000 in
theorem cells64 : Try.prog.cellsOf 45 = 1 := by kernel_rfl
set_option maxRecDepth 100000 in
theorem cells9 : Try.prog.cellsOf 9 = 1 := by kernel_rfl
set_option maxRecDepth 100000 in
theorem cells3 : Try.prog.cellsOf 3 = 1 := by kernel_rfl
set_option maxRecDepth 100000 in
theorem cellsRow : Try.prog.cellsOf 47 = 4 := by kernel_rfl
set_option maxRecDepth 100000 in
theorem cellsRef : Try.prog.cellsOf 28 = 2 := by kernel_rfl
set_option maxRecDepth 100000 in
theorem cellsCell : Try.prog.cellsOf 24 = 3 := by kernel_rfl
set_option maxRecDepth 100000 in
theorem cellsRows : Try.prog.cellsOf 25 = 1 := by kernel_rfl
set_option maxRecDepth 100000 in
theorem cellsRefs : Try.prog.cellsOf 26 = 1 := by kernel_rfl
set_option maxRecDepth 100000 in
theorem cellsPage : Try.prog.cellsOf 30 = 8 := by kernel_rfl
set_option maxRecDepth 100000 in
theorem wf32 {n : Int} (h : (Lit.int .u32 n).wf = true) : ∃ m : Nat, n = (m : Int) ∧ m < 4294967296 := by
  simp only [Lit.wf, IntKind.min, IntKind.max, IntKind.signed, IntKind.bits, Bool.and_eq_true] at h
  simp at h
  exact ⟨n.toNat, by omega, by omega⟩
set_option maxRecDepth 100000 in
theorem wf64 {n : Int} (h : (Lit.int .u64 n).wf = true) : ∃ m : Nat, n = (m : Int) ∧ m < 18446744073709551616 := by
  simp only [Lit.wf, IntKind.min, IntKind.max, IntKind.signed, IntKind.bits, Bool.and_eq_true] at h
  simp at h
  exact ⟨n.toNat, by omega, by omega⟩
set_option maxRecDepth 100000 in
theorem wfi64 {n : Int} (h : (Lit.int .i64 n).wf = true) : -9223372036854775808 ≤ n ∧ n ≤ 9223372036854775807 := by
  exact (by simpa [Lit.wf] using h : IntKind.i64.min ≤ n ∧ n ≤ IntKind.i64.max)
set_option maxRecDepth 100000 in
set_option maxHeartbeats 1000000 in
theorem row_of_cells {H : Type} {enc : TypeId × Value → H} {W : World} {fuel : Nat} {cs : List Value} {x : DataW H × List MemPlace} (h : DataW.trod enc Try.prog W 0 (fun _ => true) true fuel 47 cs = some x) (hl : cs.length = 4) : ∃ r : Rw, cs = rc r ∧ okRow r := by
  obtain ⟨xs, n, _, rfl, _, hxs, hf⟩ := DataW.trod_struct Try.underlying47 h
  have g0 : DataW.trod enc Try.prog W 0 (fun _ => true) true n 45 ((cs.drop 0).take (Try.prog.cellsOf 45)) = xs[0]? := hf 0 _ rfl
  have g1 : DataW.trod enc Try.prog W 0 (fun _ => true) true n 22 ((cs.drop 1).take (Try.prog.cellsOf 22)) = xs[1]? := hf 1 _ rfl
  have g2 : DataW.trod enc Try.prog W 0 (fun _ => true) true n 22 ((cs.drop 2).take (Try.prog.cellsOf 22)) = xs[2]? := hf 2 _ rfl
  have g3 : DataW.trod enc Try.prog W 0 (fun _ => true) true n 9 ((cs.drop 3).take (Try.prog.cellsOf 9)) = xs[3]? := hf 3 _ rfl
  simp only [cells32, cells64, cells9] at g0 g1 g2 g3
  obtain ⟨v0, v1, v2, v3, rfl⟩ : ∃ v0 v1 v2 v3, cs = [v0, v1, v2, v3] := by
    match cs, hl with
    | [v0, v1, v2, v3], _ => exact ⟨v0, v1, v2, v3, rfl⟩
  obtain ⟨x0, x1, x2, x3, rfl⟩ : ∃ x0 x1 x2 x3, xs = [x0, x1, x2, x3] := by
    match xs, hxs with
    | [x0, x1, x2, x3], _ => exact ⟨x0, x1, x2, x3, rfl⟩
  simp at g0 g1 g2 g3
  obtain ⟨a0, e0, _, u0⟩ := DataW.trod_int Try.underlying45 g0
  obtain ⟨a1, e1, _, u1⟩ := DataW.trod_int Try.underlying22 g1
  obtain ⟨a2, e2, _, u2⟩ := DataW.trod_int Try.underlying22 g2
  obtain ⟨a3, e3, _, u3⟩ := DataW.trod_string Try.underlying9 g3
  obtain ⟨m0, rfl, b0⟩ := wf64 u0
  obtain ⟨m1, rfl, b1⟩ := wf32 u1
  obtain ⟨m2, rfl, b2⟩ := wf32 u2
  cases e0; cases e1; cases e2; cases e3
  exact ⟨⟨m0, m1, m2, a3⟩, rfl, b0, b1, b2⟩
set_option maxRecDepth 100000 in
set_option maxHeartbeats 1000000 in
theorem ref_of_cells {H : Type} {enc : TypeId × Value → H} {W : World} {fuel : Nat} {cs : List Value} {x : DataW H × List MemPlace} (h : DataW.trod enc Try.prog W 0 (fun _ => true) true fuel 28 cs = some x) (hl : cs.length = 2) : ∃ r : Rf, cs = fc r ∧ r.p < 4294967296 := by
  obtain ⟨xs, n, _, rfl, _, hxs, hf⟩ := DataW.trod_struct Try.underlying28 h
  have g0 : DataW.trod enc Try.prog W 0 (fun _ => true) true n 22 ((cs.drop 0).take (Try.prog.cellsOf 22)) = xs[0]? := hf 0 _ rfl
  have g1 : DataW.trod enc Try.prog W 0 (fun _ => true) true n 9 ((cs.drop 1).take (Try.prog.cellsOf 9)) = xs[1]? := hf 1 _ rfl
  simp only [cells32, cells9] at g0 g1
  obtain ⟨v0, v1, rfl⟩ : ∃ v0 v1, cs = [v0, v1] := by
    match cs, hl with
    | [v0, v1], _ => exact ⟨v0, v1, rfl⟩
  obtain ⟨x0, x1, rfl⟩ : ∃ x0 x1, xs = [x0, x1] := by
    match xs, hxs with
    | [x0, x1], _ => exact ⟨x0, x1, rfl⟩
  simp at g0 g1
  obtain ⟨a0, e0, _, u0⟩ := DataW.trod_int Try.underlying22 g0
  obtain ⟨a1, e1, _, u1⟩ := DataW.trod_string Try.underlying9 g1
  obtain ⟨m0, rfl, b0⟩ := wf32 u0
  cases e0; cases e1
  exact ⟨⟨m0, a1⟩, rfl, b0⟩
set_option maxRecDepth 100000 in
theorem cell_of_cells {H : Type} {enc : TypeId × Value → H} {W : World} {fuel : Nat} {cs : List Value} {x : DataW H × List MemPlace} (h : DataW.trod enc Try.prog W 0 (fun _ => true) true fuel 24 cs = some x) (hl : cs.length = 3) : ∃ (X Y : Nat) (L : Int), cs = [.int .u32 (X : Int), .int .u32 (Y : Int), .int .i64 L] ∧ X < 4294967296 ∧ Y < 4294967296 := by
  obtain ⟨xs, n, _, rfl, _, hxs, hf⟩ := DataW.trod_struct Try.underlying24 h
  have g0 : DataW.trod enc Try.prog W 0 (fun _ => true) true n 22 ((cs.drop 0).take (Try.prog.cellsOf 22)) = xs[0]? := hf 0 _ rfl
  have g1 : DataW.trod enc Try.prog W 0 (fun _ => true) true n 22 ((cs.drop 1).take (Try.prog.cellsOf 22)) = xs[1]? := hf 1 _ rfl
  have g2 : DataW.trod enc Try.prog W 0 (fun _ => true) true n 3 ((cs.drop 2).take (Try.prog.cellsOf 3)) = xs[2]? := hf 2 _ rfl
  simp only [cells32, cells3] at g0 g1 g2
  obtain ⟨v0, v1, v2, rfl⟩ : ∃ v0 v1 v2, cs = [v0, v1, v2] := by
    match cs, hl with
    | [v0, v1, v2], _ => exact ⟨v0, v1, v2, rfl⟩
  obtain ⟨x0, x1, x2, rfl⟩ : ∃ x0 x1 x2, xs = [x0, x1, x2] := by
    match xs, hxs with
    | [x0, x1, x2], _ => exact ⟨x0, x1, x2, rfl⟩
  simp at g0 g1 g2
  obtain ⟨a0, e0, _, u0⟩ := DataW.trod_int Try.underlying22 g0
  obtain ⟨a1, e1, _, u1⟩ := DataW.trod_int Try.underlying22 g1
  obtain ⟨a2, e2, _, u2⟩ := DataW.trod_int Try.underlying3 g2
  obtain ⟨m0, rfl, b0⟩ := wf32 u0
  obtain ⟨m1, rfl, b1⟩ := wf32 u1
  cases e0; cases e1; cases e2
  exact ⟨m0, m1, a2, rfl, b0, b1⟩
set_option maxRecDepth 100000 in
theorem i64_of_arg {H : Type} {enc : TypeId × Value → H} {W : World} {v : Value} {base : Nat} {d : DataW H} {p : List MemPlace} (hv' : Value.okWide Try.prog W .any base 3 v) (h : DataW.Trod enc Try.prog W 0 (fun _ => true) true 3 v d p) :
    ∃ i : Int, v = .int .i64 i ∧ -9223372036854775808 ≤ i ∧ i ≤ 9223372036854775807 := by
  obtain ⟨a, rfl, _, _, wa⟩ := open_int Try.underlying3 hv' h
  exact ⟨a, rfl, wfi64 wa⟩
set_option maxRecDepth 100000 in
set_option maxHeartbeats 1000000 in
theorem rows_of_cells {H : Type} {enc : TypeId × Value → H} {W : World} {cs0 : List Value} {fuel : Nat} {d : DataW H} {p : List MemPlace} (hf : DataW.trod enc Try.prog W 0 (fun _ => true) true fuel 25 cs0 = some (d, p)) (hlt : ∀ x ∈ p, x.block < W.heap.size) :
    ∃ (o : Option Addr) (c : Nat) (l : List Rw), cs0 = [.slice o l.length c] ∧ RowsAt W o c l ∧ ∀ r ∈ l, okRow r := by
  rcases DataW.trod_slice Try.underlying25 hf with ⟨hcs, hx⟩ | ⟨a, len, cap, elems, rest, n', _, hcs, hx, hb, hl, hm, hlen, hel, _, _⟩
  · subst hcs
    exact ⟨none, 0, [], rfl, Sl.nil 4 W, fun r hr => by simp at hr⟩
  · subst hcs
    obtain ⟨n, hn⟩ : ∃ n, len = n := ⟨_, rfl⟩
    subst hn
    simp only [Prod.mk.injEq] at hx
    obtain ⟨rfl, rfl⟩ := hx
    rw [cellsRow] at hel hlt
    by_cases hn0 : len = 0
    · subst hn0
      exact ⟨some a, cap, [], rfl, ⟨by simp, hm, (fun e => by cases e), rfl, fun h => absurd h (by simp)⟩, fun r hr => by simp at hr⟩
    have each : ∀ i, i < len → ∃ cs y, W.cells? 0 (a.add (i * 4)) 4 = some cs ∧ DataW.trod enc Try.prog W 0 (fun _ => true) true n' 47 cs = some y := by
      intro i hi
      have h1 := hel i hi
      have h2 : elems[i]? = some elems[i] := List.getElem?_eq_getElem (by omega)
      rw [h2, Option.bind_eq_some_iff] at h1
      obtain ⟨cs, e1, e2⟩ := h1
      exact ⟨cs, _, e1, e2⟩
    obtain ⟨ab, off, spot⟩ := a
    have hspot : spot = none := by
      obtain ⟨cs, y, e1, _⟩ := each 0 (by omega)
      obtain ⟨_, hcl, hce⟩ := World.cells?_some e1
      have h0 := hce 0 (by omega)
      rw [List.getElem?_eq_getElem (by omega)] at h0
      simpa [Addr.add] using World.cell?_spot h0
    subst hspot
    have hadd (k : Nat) (o2 : Nat) : (⟨ab, o2, none⟩ : Addr).add k = ⟨ab, o2 + k, none⟩ := by unfold Addr.add; split <;> simp_all
    have hbW : ab < W.heap.size := hlt (.cell ab off) (by rw [List.mem_append]; exact .inl (MemPlace.mem_row.2 ⟨0, by omega, by simp⟩))
    have all : ∀ i, ∃ r : Rw, i < len → okRow r ∧ ∀ j u, (rc r)[j]? = some u → W.cell? ⟨ab, off + i * 4 + j, none⟩ = some u := by
      intro i
      by_cases hi : i < len
      · obtain ⟨cs, y, e1, e2⟩ := each i hi
        obtain ⟨_, hcl, hce⟩ := World.cells?_some e1
        obtain ⟨r, rfl, ok⟩ := row_of_cells e2 hcl
        refine ⟨r, fun _ => ⟨ok, fun j u hu => ?_⟩⟩
        have hj : j < 4 := (List.getElem?_eq_some_iff.1 hu).1
        have := hce j hj
        rw [hadd, hadd, hu] at this
        exact this
      · exact ⟨⟨0, 0, 0, ⟨#[]⟩⟩, fun h => absurd h hi⟩
    obtain ⟨f, hf⟩ := Classical.axiomOfChoice all
    have hlen2 : ((List.range len).map f).length = len := by simp
    refine ⟨_, cap, (List.range len).map f, by rw [hlen2], ⟨by rw [hlen2]; exact hl, hm, (fun e => by cases e), flat_len rc 4 (fun _ => rfl) _, fun _ => ⟨ab, off, rfl, hbW, fun j u hu => ?_⟩⟩, fun r hr => ?_⟩
    · have hj := (List.getElem?_eq_some_iff.1 hu).1
      rw [flat_len rc 4 (fun _ => rfl), hlen2] at hj
      have hi : j / 4 < len := by omega
      have e : j = j / 4 * 4 + j % 4 := by omega
      have g := flat_get rc 4 (fun _ => rfl) ((List.range len).map f) (j / 4) (f (j / 4)) (by simp [hi]) (j % 4) (by omega)
      rw [← e, hu] at g
      have := (hf (j / 4) hi).2 (j % 4) u g.symm
      rw [show off + j / 4 * 4 + j % 4 = off + j by omega] at this
      exact this
    · obtain ⟨i, hi, rfl⟩ := List.mem_map.1 hr
      exact (hf i (by simpa using hi)).1
set_option maxRecDepth 100000 in
set_option maxHeartbeats 1000000 in
theorem refs_of_cells {H : Type} {enc : TypeId × Value → H} {W : World} {cs0 : List Value} {fuel : Nat} {d : DataW H} {p : List MemPlace} (hf : DataW.trod enc Try.prog W 0 (fun _ => true) true fuel 26 cs0 = some (d, p)) (hlt : ∀ x ∈ p, x.block < W.heap.size) :
    ∃ (o : Option Addr) (c : Nat) (l : List Rf), cs0 = [.slice o l.length c] ∧ RefsAt W o c l ∧ ∀ r ∈ l, r.p < 4294967296 := by
  rcases DataW.trod_slice Try.underlying26 hf with ⟨hcs, hx⟩ | ⟨a, len, cap, elems, rest, n', _, hcs, hx, hb, hl, hm, hlen, hel, _, _⟩
  · subst hcs
    exact ⟨none, 0, [], rfl, Sl.nil 2 W, fun r hr => by simp at hr⟩
  · subst hcs
    obtain ⟨n, hn⟩ : ∃ n, len = n := ⟨_, rfl⟩
    subst hn
    simp only [Prod.mk.injEq] at hx
    obtain ⟨rfl, rfl⟩ := hx
    rw [cellsRef] at hel hlt
    by_cases hn0 : len = 0
    · subst hn0
      exact ⟨some a, cap, [], rfl, ⟨by simp, hm, (fun e => by cases e), rfl, fun h => absurd h (by simp)⟩, fun r hr => by simp at hr⟩
    have each : ∀ i, i < len → ∃ cs y, W.cells? 0 (a.add (i * 2)) 2 = some cs ∧ DataW.trod enc Try.prog W 0 (fun _ => true) true n' 28 cs = some y := by
      intro i hi
      have h1 := hel i hi
      have h2 : elems[i]? = some elems[i] := List.getElem?_eq_getElem (by omega)
      rw [h2, Option.bind_eq_some_iff] at h1
      obtain ⟨cs, e1, e2⟩ := h1
      exact ⟨cs, _, e1, e2⟩
    obtain ⟨ab, off, spot⟩ := a
    have hspot : spot = none := by
      obtain ⟨cs, y, e1, _⟩ := each 0 (by omega)
      obtain ⟨_, hcl, hce⟩ := World.cells?_some e1
      have h0 := hce 0 (by omega)
      rw [List.getElem?_eq_getElem (by omega)] at h0
      simpa [Addr.add] using World.cell?_spot h0
    subst hspot
    have hadd (k : Nat) (o2 : Nat) : (⟨ab, o2, none⟩ : Addr).add k = ⟨ab, o2 + k, none⟩ := by unfold Addr.add; split <;> simp_all
    have hbW : ab < W.heap.size := hlt (.cell ab off) (by rw [List.mem_append]; exact .inl (MemPlace.mem_row.2 ⟨0, by omega, by simp⟩))
    have all : ∀ i, ∃ r : Rf, i < len → r.p < 4294967296 ∧ ∀ j u, (fc r)[j]? = some u → W.cell? ⟨ab, off + i * 2 + j, none⟩ = some u := by
      intro i
      by_cases hi : i < len
      · obtain ⟨cs, y, e1, e2⟩ := each i hi
        obtain ⟨_, hcl, hce⟩ := World.cells?_some e1
        obtain ⟨r, rfl, ok⟩ := ref_of_cells e2 hcl
        refine ⟨r, fun _ => ⟨ok, fun j u hu => ?_⟩⟩
        have hj : j < 2 := (List.getElem?_eq_some_iff.1 hu).1
        have := hce j hj
        rw [hadd, hadd, hu] at this
        exact this
      · exact ⟨⟨0, ⟨#[]⟩⟩, fun h => absurd h hi⟩
    obtain ⟨f, hf⟩ := Classical.axiomOfChoice all
    have hlen2 : ((List.range len).map f).length = len := by simp
    refine ⟨_, cap, (List.range len).map f, by rw [hlen2], ⟨by rw [hlen2]; exact hl, hm, (fun e => by cases e), flat_len fc 2 (fun _ => rfl) _, fun _ => ⟨ab, off, rfl, hbW, fun j u hu => ?_⟩⟩, fun r hr => ?_⟩
    · have hj := (List.getElem?_eq_some_iff.1 hu).1
      rw [flat_len fc 2 (fun _ => rfl), hlen2] at hj
      have hi : j / 2 < len := by omega
      have e : j = j / 2 * 2 + j % 2 := by omega
      have g := flat_get fc 2 (fun _ => rfl) ((List.range len).map f) (j / 2) (f (j / 2)) (by simp [hi]) (j % 2) (by omega)
      rw [← e, hu] at g
      have := (hf (j / 2) hi).2 (j % 2) u g.symm
      rw [show off + j / 2 * 2 + j % 2 = off + j by omega] at this
      exact this
    · obtain ⟨i, hi, rfl⟩ := List.mem_map.1 hr
      exact (hf i (by simpa using hi)).1
set_option maxRecDepth 100000 in
theorem ref_of_arg {H : Type} {enc : TypeId × Value → H} {W : World} {v : Value} {base : Nat} {d : DataW H} {p : List MemPlace} (hv' : Value.okWide Try.prog W .any base 28 v) (h : DataW.Trod enc Try.prog W 0 (fun _ => true) true 28 v d p) :
    ∃ r : Rf, v = fcv r ∧ r.p < 4294967296 := by
  obtain ⟨cs, rfl, hcs⟩ := okWide_struct Try.underlying28 hv'
  rw [cellsRef] at hcs
  obtain ⟨n, h⟩ := h
  obtain ⟨r, hr, ok⟩ := ref_of_cells h (by simpa [Value.cells] using hcs)
  refine ⟨r, ?_, ok⟩
  have : cs = (fc r).toArray := by
    have e : cs.toList = fc r := by simpa [Value.cells] using hr
    rw [← e]
  rw [this]; rfl
set_option maxRecDepth 100000 in
theorem u8_of_arg {H : Type} {enc : TypeId × Value → H} {W : World} {v : Value} {base : Nat} {d : DataW H} {p : List MemPlace} (hv' : Value.okWide Try.prog W .any base 5 v) (h : DataW.Trod enc Try.prog W 0 (fun _ => true) true 5 v d p) :
    ∃ m : Nat, v = .int .u8 (m : Int) ∧ m < 256 := by
  obtain ⟨a, rfl, _, _, wa⟩ := open_int Try.underlying5 hv' h
  simp only [Lit.wf, IntKind.min, IntKind.max, IntKind.signed, IntKind.bits, Bool.and_eq_true] at wa
  simp at wa
  exact ⟨a.toNat, by congr 1; omega, by omega⟩
set_option maxRecDepth 100000 in
theorem str_of_arg {H : Type} {enc : TypeId × Value → H} {W : World} {v : Value} {base : Nat} {d : DataW H} {p : List MemPlace} (hv' : Value.okWide Try.prog W .any base 9 v) (h : DataW.Trod enc Try.prog W 0 (fun _ => true) true 9 v d p) :
    ∃ s : ByteArray, v = .string s ∧ s.size ≤ maxLen := by
  obtain ⟨a, rfl, rfl, rfl, w⟩ := Go.ChangeMaps.open_string Try.underlying9 hv' h
  exact ⟨a, rfl, w⟩
set_option maxRecDepth 100000 in
set_option maxHeartbeats 1000000 in
theorem page_of_arg {H : Type} {enc : TypeId × Value → H} {W : World} {v : Value} {base : Nat} {d : DataW H} {p : List MemPlace} (hv' : Value.okWide Try.prog W .any base 30 v) (h : DataW.Trod enc Try.prog W 0 (fun _ => true) true 30 v d p) (hlt : ∀ x ∈ p, x.block < W.heap.size) :
    ∃ (q : Pg) (P : Pp), v = gv q ∧ PAt W q P ∧ okP P := by
  obtain ⟨cs, rfl, hcs⟩ := okWide_struct Try.underlying30 hv'
  rw [cellsPage] at hcs
  obtain ⟨n, h⟩ := h
  obtain ⟨xs, m, _, hx, _, hlen, hf⟩ := DataW.trod_struct Try.underlying30 h
  simp only [Prod.mk.injEq] at hx
  obtain ⟨-, rfl⟩ := hx
  obtain ⟨c0, c1, c2, c3, c4, c5, c6, c7, rfl⟩ : ∃ c0 c1 c2 c3 c4 c5 c6 c7, cs = #[c0, c1, c2, c3, c4, c5, c6, c7] := by
    match cs, hcs with
    | ⟨[c0, c1, c2, c3, c4, c5, c6, c7]⟩, _ => exact ⟨c0, c1, c2, c3, c4, c5, c6, c7, rfl⟩
  obtain ⟨y0, y1, y2, y3, y4, rfl⟩ : ∃ y0 y1 y2 y3 y4, xs = [y0, y1, y2, y3, y4] := by
    match xs, hlen with
    | [y0, y1, y2, y3, y4], _ => exact ⟨y0, y1, y2, y3, y4, rfl⟩
  have e0 := hf 0 _ rfl
  have e1 := hf 1 _ rfl
  have e2 := hf 2 _ rfl
  have e3 := hf 3 _ rfl
  have e4 := hf 4 _ rfl
  simp [Value.cells, cells3, cellsCell, cellsRows, cellsRefs, cellsRef] at e0 e1 e2 e3 e4
  obtain ⟨a, ea, _, wa⟩ := DataW.trod_int Try.underlying3 e0
  obtain ⟨X, Y, L, ec, hX, hY⟩ := cell_of_cells e1 rfl
  obtain ⟨ro, rc', l, er, hr, okr⟩ := rows_of_cells (d := y2.1) (p := y2.2) e2 (fun x hx => hlt x (by simp [hx]))
  obtain ⟨ko, kc', ks, ek, hk, okk⟩ := refs_of_cells (d := y3.1) (p := y3.2) e3 (fun x hx => hlt x (by simp [hx]))
  obtain ⟨r, en, okn⟩ := ref_of_cells e4 rfl
  unfold fc at en
  simp at ea ec er ek en
  obtain ⟨rfl, rfl, rfl⟩ := ec
  obtain ⟨rfl, rfl⟩ := en
  subst ea er ek
  exact ⟨⟨a, X, Y, L, ro, l.length, rc', ko, ks.length, kc', r.p, r.t⟩, ⟨a, X, Y, L, l, ks, r.p, r.t⟩, rfl, ⟨rfl, rfl, rfl, rfl, rfl, rfl, ⟨hX, hY, rfl, hr, rfl, hk⟩⟩, ⟨hX, hY, okn, okr, okk⟩⟩
end Rw
end Go.Proofs.Ytljponlfjombaaa
