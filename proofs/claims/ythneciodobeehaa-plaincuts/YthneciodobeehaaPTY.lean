/- Changes that are handed in, one behind the other. -/
import Derived.Test.YthneciodobeehaaPTW
import Derived.Test.YthneciodobeehaaPTL
namespace Go.Proofs.Ythneciodobeehaa
namespace Rp
open Go.RowKit Go.ChangeShapes Go.WideShapes Go.ChangeAt Go.Deep
open Go.Proofs.Ythneciodobeehaa.Rc Go.Proofs.Ythneciodobeehaa.Rq
set_option maxRecDepth 100000 in
theorem op_of_cells {H : Type} {enc : TypeId × Value → H} {W : World} {fuel : Nat} {cs : List Value} {x : DataW H × List MemPlace} (h : DataW.trod enc Try.prog W 0 (fun _ => true) true fuel 34 cs = some x) (hl : cs.length = 5) : ∃ c : Ch, cs = oc c := by
  obtain ⟨xs, n, _, rfl, _, hxs, hf⟩ := DataW.trod_struct Try.underlying34 h
  obtain ⟨v0, v1, v2, v3, v4, rfl⟩ : ∃ v0 v1 v2 v3 v4, cs = [v0, v1, v2, v3, v4] := by
    match cs, hl with
    | [v0, v1, v2, v3, v4], _ => exact ⟨v0, v1, v2, v3, v4, rfl⟩
  obtain ⟨x0, x1, rfl⟩ : ∃ x0 x1, xs = [x0, x1] := by
    match xs, hxs with
    | [x0, x1], _ => exact ⟨x0, x1, rfl⟩
  have e0 := hf 0 _ rfl
  have e1 := hf 1 _ rfl
  simp [cells3, cellsRow] at e0 e1
  obtain ⟨k, ek, _, _⟩ := DataW.trod_int Try.underlying3 e0
  obtain ⟨r, er, -⟩ := row_of_cells e1 rfl
  simp [rc] at ek er
  obtain ⟨rfl, rfl, rfl, rfl⟩ := er
  subst ek
  exact ⟨⟨k, r⟩, rfl⟩
set_option maxRecDepth 100000 in
set_option maxHeartbeats 1000000 in
theorem ops_of_arg {H : Type} {enc : TypeId × Value → H} {W : World} {o : Option Addr} {n c : Nat} {d : DataW H} {p : List MemPlace} (h : DataW.Trod enc Try.prog W 0 (fun _ => true) true 39 (.slice o n c) d p) (hlt : ∀ x ∈ p, x.block < W.heap.size) :
    ∃ l : List Ch, n = l.length ∧ OpsAt W o c l ∧ ∀ r ∈ l, True := by
  obtain ⟨fuel, hf⟩ := h
  rcases DataW.trod_slice Try.underlying39 hf with ⟨hcs, hx⟩ | ⟨a, len, cap, elems, rest, n', _, hcs, hx, hb, hl, hm, hlen, hel, _, _⟩
  · simp [Value.cells] at hcs
    obtain ⟨rfl, rfl, rfl⟩ := hcs
    exact ⟨[], rfl, Sl.nil 5 W, fun r hr => by simp at hr⟩
  · simp [Value.cells] at hcs
    obtain ⟨rfl, rfl, rfl⟩ := hcs
    simp only [Prod.mk.injEq] at hx
    obtain ⟨rfl, rfl⟩ := hx
    rw [cellsOp] at hel hlt
    by_cases hn0 : n = 0
    · subst hn0
      exact ⟨[], rfl, ⟨by simp, hm, (fun e => by cases e), rfl, fun h => absurd h (by simp)⟩, fun r hr => by simp at hr⟩
    have each : ∀ i, i < n → ∃ cs y, W.cells? 0 (a.add (i * 5)) 5 = some cs ∧ DataW.trod enc Try.prog W 0 (fun _ => true) true n' 34 cs = some y := by
      intro i hi
      have h1 := hel i hi
      have h2 : elems[i]? = some elems[i] := List.getElem?_eq_getElem (by omega)
      rw [h2, Option.bind_eq_some_iff] at h1
      obtain ⟨cs, e1, e2⟩ := h1
      exact ⟨cs, _, e1, e2⟩
    obtain ⟨ab, off, spot⟩ := a
    have hspot : spot = none := by
      obtain ⟨cs, y, e1, _⟩ := each 0 (by omega)
      obtain ⟨_, hcl, hce⟩ := World.cells?_some e1
      have h0 := hce 0 (by omega)
      rw [List.getElem?_eq_getElem (by omega)] at h0
      simpa [Addr.add] using World.cell?_spot h0
    subst hspot
    have hadd (k : Nat) (o2 : Nat) : (⟨ab, o2, none⟩ : Addr).add k = ⟨ab, o2 + k, none⟩ := by unfold Addr.add; split <;> simp_all
    have hbW : ab < W.heap.size := hlt (.cell ab off) (by rw [List.mem_append]; exact .inl (MemPlace.mem_row.2 ⟨0, by omega, by simp⟩))
    have all : ∀ i, ∃ r : Ch, i < n → True ∧ ∀ j u, (oc r)[j]? = some u → W.cell? ⟨ab, off + i * 5 + j, none⟩ = some u := by
      intro i
      by_cases hi : i < n
      · obtain ⟨cs, y, e1, e2⟩ := each i hi
        obtain ⟨_, hcl, hce⟩ := World.cells?_some e1
        obtain ⟨r, rfl⟩ := op_of_cells e2 hcl
        refine ⟨r, fun _ => ⟨trivial, fun j u hu => ?_⟩⟩
        have hj : j < 5 := (List.getElem?_eq_some_iff.1 hu).1
        have := hce j hj
        rw [hadd, hadd, hu] at this
        exact this
      · exact ⟨⟨0, ⟨0, 0, 0, ⟨#[]⟩⟩⟩, fun h => absurd h hi⟩
    obtain ⟨f, hf⟩ := Classical.axiomOfChoice all
    have hlen2 : ((List.range n).map f).length = n := by simp
    refine ⟨(List.range n).map f, hlen2.symm, ⟨by rw [hlen2]; exact hl, hm, (fun e => by cases e), flat_len oc 5 (fun _ => rfl) _, fun _ => ⟨ab, off, rfl, hbW, fun j u hu => ?_⟩⟩, fun r hr => ?_⟩
    · have hj := (List.getElem?_eq_some_iff.1 hu).1
      rw [flat_len oc 5 (fun _ => rfl), hlen2] at hj
      have hi : j / 5 < n := by omega
      have e : j = j / 5 * 5 + j % 5 := by omega
      have g := flat_get oc 5 (fun _ => rfl) ((List.range n).map f) (j / 5) (f (j / 5)) (by simp [hi]) (j % 5) (by omega)
      rw [← e, hu] at g
      have := (hf (j / 5) hi).2 (j % 5) u g.symm
      rw [show off + j / 5 * 5 + j % 5 = off + j by omega] at this
      exact this
    · obtain ⟨i, hi, rfl⟩ := List.mem_map.1 hr
      exact (hf i (by simpa using hi)).1
end Rp
end Go.Proofs.Ythneciodobeehaa
