/- CellLeast: the least cell of two points. -/
import Derived.Test.YtpfjfekpjlfibaaPFA
import Derived.Test.YtpfjfekpjlfibaaPEH
namespace Go.Proofs.Ytpfjfekpjlfibaa.Rc
open Go.RowKit Go.Lib
set_option maxHeartbeats 4000000 in
set_option maxRecDepth 100000 in
theorem least_walk (x y u v : Nat) (hx : x < 4294967296) (hy : y < 4294967296) (hu : u < 4294967296) (hv : v < 4294967296) (w : World) :
    Calls Try.prog 5 #[.int .u32 (x : Int), .int .u32 (y : Int), .int .u32 (u : Int), .int .u32 (v : Int)] w fun e w' => e = .returned (.bool true) ∧ Below w.heap.size w w' := by
  have H1 : Hid _ := least_any x y u v
  have H2 : Hid _ := eLeast_any x y u v hx hy hu hv
  generalize leas x y u v = p at *
  obtain ⟨px, py, pl, pe⟩ := p
  clear hx hy hu hv
  go_enter Try.func5, Try.ntmps5
  go_wp2_with fail
  refine (shown_any _).mono ?_
  rintro e w1 ⟨rfl, b1⟩
  have HB : Hid (Below w.heap.size w w1) := b1
  clear b1
  go_wp2_with fail
  refine (H1.out _).mono ?_
  rintro e w2 ⟨rfl, b2⟩
  replace HB : Hid (Below w.heap.size w w2) := HB.out.trans (b2.mono HB.out.size)
  clear b2
  go_wp2_with fail
  refine (H2.out _).mono ?_
  rintro e w3 ⟨rfl, b3⟩
  have HA : Hid (Cel w2.heap.size px py pl w3 ∧ w2.heap.size < w3.heap.size) := ⟨(b3.block _ (by simp)).trans (heap_alloc_new w2 _), Nat.lt_of_lt_of_le (by simp) b3.size⟩
  replace HB : Hid (Below w.heap.size w w3) := (HB.out.alloc HB.out.size _).trans (b3.mono (by have := HB.out.size; simp; omega))
  obtain ⟨e0, e1, e2⟩ := Cel.cells HA.out.1
  have hl := HA.out.2
  clear b3
  go_wp2_with fail
  go_ret
  exact ⟨rfl, HB.out.alloc HB.out.size _⟩
end Go.Proofs.Ytpfjfekpjlfibaa.Rc
