/- Rings and keys that are handed in; the first thirty keys; KeysRight. -/
import Derived.Test.YtmlechalhldlhaaDoorKN
import Derived.Deep.SlicePairs
import Derived.Carry
import Derived.OpenShut
namespace Go.Proofs.YtmlechalhldlhaaDoor.Rk
open Go.RowKit Go.ChangeShapes Go.WideShapes Go.Deep
theorem Ring.cut {w : World} {o : Option Addr} {cap : Nat} {l : List Ky} (h : Ring w o cap l) : Ring w o cap (l.take 30) := by
  by_cases h30 : 30 ≤ l.length
  · exact h.head 30 cap h30 (by have := h.1; omega) (Nat.le_refl _)
  · rw [List.take_of_length_le (by omega)]; exact h
theorem cellsKey : Tryd.prog.cellsOf 24 = 2 := by kernel_rfl
theorem cellsGen : Tryd.prog.cellsOf 22 = 1 := by kernel_rfl
theorem cells9 : Tryd.prog.cellsOf 9 = 1 := by kernel_rfl
theorem ring_of_arg {H : Type} {enc : TypeId × Value → H} {W : World} {o : Option Addr} {len cap n : Nat} {x : DataW H × List MemPlace} (h : DataW.trod enc Tryd.prog W 0 (fun _ => true) true n 30 [.slice o len cap] = some x) :
    ∃ l : List Ky, len = l.length ∧ Ring W o cap l := by
  rcases open_slice_pairs Tryd.underlying30 Tryd.underlying24 cellsKey rfl rfl cellsGen cells9 h with ⟨hc, hx⟩ | ⟨a, len', cap', m, k, V0, V1, D0, D1, P0, P1, hc, _, hl, hm, hmm, hx, hall⟩
  · simp only [List.cons.injEq, and_true, Value.slice.injEq] at hc
    obtain ⟨rfl, rfl, rfl⟩ := hc
    exact ⟨[], rfl, nil_ring _⟩
  · simp only [List.cons.injEq, and_true, Value.slice.injEq] at hc
    obtain ⟨rfl, rfl, rfl⟩ := hc
    simp only [if_true] at hmm
    subst hmm
    have hint : ∀ i, i < m → ∃ p : Ky, V0 i = .int .u32 p.1 ∧ V1 i = .string p.2 := fun i hi => by
      obtain ⟨Ni, h1, _, _⟩ := DataW.trod_int Tryd.underlying22 (hall i hi).2.2.1
      obtain ⟨s, h2, _, _⟩ := DataW.trod_string Tryd.underlying9 (hall i hi).2.2.2
      simp only [List.cons.injEq, and_true] at h1 h2
      exact ⟨(Ni, s), h1, h2⟩
    obtain ⟨q, hq⟩ := choose_lt hint
    refine ⟨(List.range len).map q, by simp, by simpa using hl, hm, (fun e => by cases e), fun hne => ?_⟩
    have hpos : 0 < len := by
      rcases Nat.eq_zero_or_pos len with h | h
      · subst h; exact absurd rfl hne
      · exact h
    obtain ⟨b, off, spot⟩ := a
    have hspot : spot = none := by simpa [Addr.add] using World.cell?_spot (hall 0 (by omega)).1
    subst hspot
    refine ⟨b, off, rfl, ?_, fun i hi => ?_⟩
    · have := (hall 0 (by omega)).1
      rw [Addr.add_lit] at this
      obtain ⟨ob, ho, _⟩ := cells_of_cell this
      exact (Array.getElem?_eq_some_iff.1 ho).1
    · simp at hi
      have h1 := (hall i (by omega)).1
      have h2 := (hall i (by omega)).2.1
      have e : kat ((List.range len).map q) i = q i := kat_of (by simp [hi])
      rw [(hq i (by omega)).1, Addr.add_lit] at h1
      rw [(hq i (by omega)).2, Addr.add_lit] at h2
      rw [e]
      exact ⟨h1, h2⟩
theorem key_of_arg {H : Type} {enc : TypeId × Value → H} {W : World} {v : Value} {base : Nat} {d : DataW H} {p : List MemPlace} (hv : Value.okWide Tryd.prog W .any base 24 v) (h : DataW.Trod enc Tryd.prog W 0 (fun _ => true) true 24 v d p) : ∃ k : Ky, v = kv k := by
  obtain ⟨cs, rfl, hcs⟩ := okWide_struct Tryd.underlying24 hv
  rw [cellsKey] at hcs
  obtain ⟨n, h⟩ := h
  obtain ⟨y0, y1, m, _, _, h0, h1⟩ := trod_struct2 Tryd.underlying24 h
  obtain ⟨c0, c1, rfl⟩ : ∃ c0 c1, cs = #[c0, c1] := by
    match cs, hcs with
    | ⟨[c0, c1]⟩, _ => exact ⟨c0, c1, rfl⟩
  simp [Value.cells, cellsGen, cells9] at h0 h1
  obtain ⟨g, e0, _, _⟩ := DataW.trod_int Tryd.underlying22 h0
  obtain ⟨s, e1, _, _⟩ := DataW.trod_string Tryd.underlying9 h1
  simp at e0 e1
  subst e0 e1
  exact ⟨(g, s), rfl⟩
end Go.Proofs.YtmlechalhldlhaaDoor.Rk
