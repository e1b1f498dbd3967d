/- Rings and keys that are handed in; the first thirty keys; KeysRight. -/
import Derived.Test.YtdgllokedcopjaaP
import Derived.Deep.SlicePairs
import Derived.Carry
import Derived.OpenShut
namespace Go.Proofs.Ytdgllokedcopjaa
open Go.RowKit Go.ChangeShapes Go.WideShapes Go.Deep
theorem Ring.cut {w : World} {o : Option Addr} {cap : Nat} {l : List Ky} (h : Ring w o cap l) : Ring w o cap (l.take 30) := by
  by_cases h30 : 30 ≤ l.length
  · exact h.head 30 cap h30 (by have := h.1; omega) (Nat.le_refl _)
  · rw [List.take_of_length_le (by omega)]; exact h
theorem cellsKey : Try.prog.cellsOf 31 = 2 := by kernel_rfl
theorem cells25 : Try.prog.cellsOf 25 = 1 := by kernel_rfl
theorem cells9 : Try.prog.cellsOf 9 = 1 := by kernel_rfl
theorem ring_of_arg {H : Type} {enc : TypeId × Value → H} {W : World} {o : Option Addr} {len cap n : Nat} {x : DataW H × List MemPlace} (h : DataW.trod enc Try.prog W 0 (fun _ => true) true n 22 [.slice o len cap] = some x) :
    ∃ l : List Ky, len = l.length ∧ Ring W o cap l := by
  rcases open_slice_pairs Try.underlying22 Try.underlying31 cellsKey rfl rfl cells25 cells9 h with ⟨hc, hx⟩ | ⟨a, len', cap', m, k, V0, V1, D0, D1, P0, P1, hc, _, hl, hm, hmm, hx, hall⟩
  · simp only [List.cons.injEq, and_true, Value.slice.injEq] at hc
    obtain ⟨rfl, rfl, rfl⟩ := hc
    exact ⟨[], rfl, nil_ring _⟩
  · simp only [List.cons.injEq, and_true, Value.slice.injEq] at hc
    obtain ⟨rfl, rfl, rfl⟩ := hc
    simp only [if_true] at hmm
    subst hmm
    have hint : ∀ i, i < m → ∃ p : Ky, V0 i = .int .u32 p.1 ∧ V1 i = .string p.2 := fun i hi => by
      obtain ⟨Ni, h1, _, _⟩ := DataW.trod_int Try.underlying25 (hall i hi).2.2.1
      obtain ⟨s, h2, _, _⟩ := DataW.trod_string Try.underlying9 (hall i hi).2.2.2
      simp only [List.cons.injEq, and_true] at h1 h2
      exact ⟨(Ni, s), h1, h2⟩
    obtain ⟨q, hq⟩ := choose_lt hint
    refine ⟨(List.range len).map q, by simp, by simpa using hl, hm, (fun e => by cases e), fun hne => ?_⟩
    have hpos : 0 < len := by
      rcases Nat.eq_zero_or_pos len with h | h
      · subst h; exact absurd rfl hne
      · exact h
    obtain ⟨b, off, spot⟩ := a
    have hspot : spot = none := by simpa [Addr.add] using World.cell?_spot (hall 0 (by omega)).1
    subst hspot
    refine ⟨b, off, rfl, ?_, fun i hi => ?_⟩
    · have := (hall 0 (by omega)).1
      rw [Addr.add_lit] at this
      obtain ⟨ob, ho, _⟩ := cells_of_cell this
      exact (Array.getElem?_eq_some_iff.1 ho).1
    · simp at hi
      have h1 := (hall i (by omega)).1
      have h2 := (hall i (by omega)).2.1
      have e : kat ((List.range len).map q) i = q i := kat_of (by simp [hi])
      rw [(hq i (by omega)).1, Addr.add_lit] at h1
      rw [(hq i (by omega)).2, Addr.add_lit] at h2
      rw [e]
      exact ⟨h1, h2⟩
theorem key_of_arg {H : Type} {enc : TypeId × Value → H} {W : World} {v : Value} {base : Nat} {d : DataW H} {p : List MemPlace} (hv : Value.okWide Try.prog W .any base 31 v) (h : DataW.Trod enc Try.prog W 0 (fun _ => true) true 31 v d p) : ∃ k : Ky, v = kv k := by
  obtain ⟨cs, rfl, hcs⟩ := okWide_struct Try.underlying31 hv
  rw [cellsKey] at hcs
  obtain ⟨n, h⟩ := h
  obtain ⟨y0, y1, m, _, _, h0, h1⟩ := trod_struct2 Try.underlying31 h
  obtain ⟨c0, c1, rfl⟩ : ∃ c0 c1, cs = #[c0, c1] := by
    match cs, hcs with
    | ⟨[c0, c1]⟩, _ => exact ⟨c0, c1, rfl⟩
  simp [Value.cells, cells25, cells9] at h0 h1
  obtain ⟨g, e0, _, _⟩ := DataW.trod_int Try.underlying25 h0
  obtain ⟨s, e1, _, _⟩ := DataW.trod_string Try.underlying9 h1
  simp at e0 e1
  subst e0 e1
  exact ⟨(g, s), rfl⟩
set_option maxRecDepth 100000 in
set_option maxHeartbeats 2000000 in
theorem keysRight_walk (l : List Ky) (o : Option Addr) (cap : Nat) (w : World) (hr : Ring w o cap l) :
    Calls Try.prog 3 #[.slice o l.length cap] w fun e w' => e = .returned (.bool true) ∧ Below w.heap.size w w' := by
  have HG : Hid (Ring w o cap l) := hr
  clear hr
  go_enter Try.func3, Try.ntmps3
  go_wp2_with fail
  refine (shown_any w).mono ?_
  rintro e w1 ⟨rfl, b1⟩
  have B1 : Hid (Below w.heap.size w w1) := b1
  have R1 : Hid (Ring w1 o cap l) := HG.out.below b1 (Nat.le_refl _)
  clear b1 HG
  go_wp2_with fail
  refine (cut_any l o cap w1 R1.out).mono ?_
  rintro e w2 ⟨rfl, rfl⟩
  have R2 : Hid (Ring w2 o cap (l.take 30)) := R1.out.cut
  clear R1
  generalize l.take 30 = l at *
  go_wp2_with fail
  refine (newest_any l o cap w2 R2.out).mono ?_
  rintro e w3 ⟨rfl, b3⟩
  have B3 : Hid (Below w.heap.size w w3) := B1.out.trans (b3.mono B1.out.size)
  have R3 : Hid (Ring w3 o cap l) := R2.out.below b3 (Nat.le_refl _)
  clear b3 R2 B1
  go_wp2_with fail
  refine (refNewest_any l o cap w3 R3.out).mono ?_
  rintro e w4 ⟨rfl, b4⟩
  have B4 : Hid (Below w.heap.size w w4) := B3.out.trans (b4.mono B3.out.size)
  have R4 : Hid (Ring w4 o cap l) := R3.out.below b4 (Nat.le_refl _)
  clear b4 R3 B3
  go_wp2_with fail
  refine (right_any l o cap w4 R4.out).mono ?_
  rintro e w5 ⟨rfl, b5⟩
  have B5 : Hid (Below w.heap.size w w5) := B4.out.trans (b5.mono B4.out.size)
  have R5 : Hid (Ring w5 o cap l) := R4.out.below b5 (Nat.le_refl _)
  clear b5 R4 B4
  go_wp2_with fail
  refine (refRight_any l o cap w5 R5.out).mono ?_
  rintro e w6 ⟨rfl, rfl⟩
  generalize nvS l = nv
  generalize neS l = ne
  generalize rightS l = rr
  go_wp2_with fail
  go_ret
  exact ⟨rfl, B5.out⟩
end Go.Proofs.Ytdgllokedcopjaa
