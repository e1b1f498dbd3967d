/- Queries that are handed in. -/
import Derived.Test.YtimdlohdmddnjaaPGR
import Derived.Test.YtimdlohdmddnjaaPOA
namespace Go.Proofs.Ytimdlohdmddnjaa
namespace Rf
open Go.RowKit Go.ChangeShapes Go.WideShapes Go.ChangeAt Go.Deep
open Go.Proofs.Ytimdlohdmddnjaa.Rc Go.Proofs.Ytimdlohdmddnjaa.Rq
set_option maxRecDepth 100000 in
theorem cells3 : Try.prog.cellsOf 3 = 1 := by kernel_rfl
set_option maxRecDepth 100000 in
theorem cells4 : Try.prog.cellsOf 4 = 1 := by kernel_rfl
set_option maxRecDepth 100000 in
theorem cellsQuery : Try.prog.cellsOf 27 = 11 := by kernel_rfl
set_option maxRecDepth 100000 in
theorem box_of_cells {H : Type} {enc : TypeId × Value → H} {W : World} {fuel : Nat} {cs : List Value} {x : DataW H × List MemPlace} (h : DataW.trod enc Try.prog W 0 (fun _ => true) true fuel 24 cs = some x) (hl : cs.length = 4) : ∃ (a b c d : Nat), cs = [.int .u32 (a : Int), .int .u32 (b : Int), .int .u32 (c : Int), .int .u32 (d : Int)] := by
 obtain ⟨xs, n, _, rfl, _, hxs, hf⟩ := DataW.trod_struct Try.underlying24 h
 have g0 : DataW.trod enc Try.prog W 0 (fun _ => true) true n 22 ((cs.drop 0).take (Try.prog.cellsOf 22)) = xs[0]? := hf 0 _ rfl
 have g1 : DataW.trod enc Try.prog W 0 (fun _ => true) true n 22 ((cs.drop 1).take (Try.prog.cellsOf 22)) = xs[1]? := hf 1 _ rfl
 have g2 : DataW.trod enc Try.prog W 0 (fun _ => true) true n 22 ((cs.drop 2).take (Try.prog.cellsOf 22)) = xs[2]? := hf 2 _ rfl
 have g3 : DataW.trod enc Try.prog W 0 (fun _ => true) true n 22 ((cs.drop 3).take (Try.prog.cellsOf 22)) = xs[3]? := hf 3 _ rfl
 simp only [cells32] at g0 g1 g2 g3
 obtain ⟨v0, v1, v2, v3, rfl⟩ : ∃ v0 v1 v2 v3, cs = [v0, v1, v2, v3] := by
  match cs, hl with
  | [v0, v1, v2, v3], _ => exact ⟨v0, v1, v2, v3, rfl⟩
 obtain ⟨x0, x1, x2, x3, rfl⟩ : ∃ x0 x1 x2 x3, xs = [x0, x1, x2, x3] := by
  match xs, hxs with
  | [x0, x1, x2, x3], _ => exact ⟨x0, x1, x2, x3, rfl⟩
 simp at g0 g1 g2 g3
 obtain ⟨a0, e0, _, u0⟩ := DataW.trod_int Try.underlying22 g0
 obtain ⟨a1, e1, _, u1⟩ := DataW.trod_int Try.underlying22 g1
 obtain ⟨a2, e2, _, u2⟩ := DataW.trod_int Try.underlying22 g2
 obtain ⟨a3, e3, _, u3⟩ := DataW.trod_int Try.underlying22 g3
 obtain ⟨m0, rfl, -⟩ := wf32 u0
 obtain ⟨m1, rfl, -⟩ := wf32 u1
 obtain ⟨m2, rfl, -⟩ := wf32 u2
 obtain ⟨m3, rfl, -⟩ := wf32 u3
 cases e0; cases e1; cases e2; cases e3
 exact ⟨m0, m1, m2, m3, rfl⟩
set_option maxRecDepth 100000 in
set_option maxHeartbeats 1000000 in
theorem query_of_arg {H : Type} {enc : TypeId × Value → H} {W : World} {v : Value} {base : Nat} {d : DataW H} {p : List MemPlace} (hv' : Value.okWide Try.prog W .any base 27 v) (h : DataW.Trod enc Try.prog W 0 (fun _ => true) true 27 v d p) :
  ∃ q : Qr, v = qv q := by
 obtain ⟨cs, rfl, hcs⟩ := okWide_struct Try.underlying27 hv'
 rw [cellsQuery] at hcs
 obtain ⟨n, h⟩ := h
 obtain ⟨xs, m, _, _, _, hlen, hf⟩ := DataW.trod_struct Try.underlying27 h
 obtain ⟨c0, c1, c2, c3, c4, c5, c6, c7, c8, c9, c10, rfl⟩ : ∃ c0 c1 c2 c3 c4 c5 c6 c7 c8 c9 c10, cs = #[c0, c1, c2, c3, c4, c5, c6, c7, c8, c9, c10] := by
  match cs, hcs with
  | ⟨[c0, c1, c2, c3, c4, c5, c6, c7, c8, c9, c10]⟩, _ => exact ⟨c0, c1, c2, c3, c4, c5, c6, c7, c8, c9, c10, rfl⟩
 obtain ⟨y0, y1, y2, y3, y4, y5, y6, y7, rfl⟩ : ∃ y0 y1 y2 y3 y4 y5 y6 y7, xs = [y0, y1, y2, y3, y4, y5, y6, y7] := by
  match xs, hlen with
  | [y0, y1, y2, y3, y4, y5, y6, y7], _ => exact ⟨y0, y1, y2, y3, y4, y5, y6, y7, rfl⟩
 have e0 := hf 0 _ rfl
 have e1 := hf 1 _ rfl
 have e2 := hf 2 _ rfl
 have e3 := hf 3 _ rfl
 have e4 := hf 4 _ rfl
 have e5 := hf 5 _ rfl
 have e6 := hf 6 _ rfl
 have e7 := hf 7 _ rfl
 simp [Value.cells, cells3, cells4, cells32, cells64, cellsBox] at e0 e1 e2 e3 e4 e5 e6 e7
 obtain ⟨k, ek, _, _⟩ := DataW.trod_int Try.underlying3 e0
 obtain ⟨a, b, c, d', eb⟩ := box_of_cells e1 rfl
 obtain ⟨x, ex, _, wx⟩ := DataW.trod_int Try.underlying22 e2
 obtain ⟨y, ey, _, wy⟩ := DataW.trod_int Try.underlying22 e3
 obtain ⟨s, es, _, ws⟩ := DataW.trod_int Try.underlying25 e4
 obtain ⟨kk, eK, _, _⟩ := DataW.trod_int Try.underlying3 e5
 obtain ⟨af, ea, _, wa⟩ := DataW.trod_int Try.underlying25 e6
 obtain ⟨fr, ef, _⟩ := DataW.trod_bool Try.underlying4 e7
 obtain ⟨x', rfl, -⟩ := wf32 wx
 obtain ⟨y', rfl, -⟩ := wf32 wy
 obtain ⟨s', rfl, -⟩ := wf64 ws
 obtain ⟨a', rfl, -⟩ := wf64 wa
 simp at ek eb ex ey es eK ea ef
 obtain ⟨rfl, rfl, rfl, rfl⟩ := eb
 subst ek ex ey es eK ea ef
 exact ⟨⟨k, a, b, c, d', x', y', s', kk, a', fr⟩, rfl⟩
end Rf
end Go.Proofs.Ytimdlohdmddnjaa
