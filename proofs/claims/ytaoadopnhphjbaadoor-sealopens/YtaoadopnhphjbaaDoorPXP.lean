/- SealOpens: the walk. -/
import Derived.Test.YtaoadopnhphjbaaDoorPXA
import Derived.Test.YtaoadopnhphjbaaDoorPXN
namespace Go.Proofs.YtaoadopnhphjbaaDoor.Rs
open Go.RowKit Go.Lib
set_option maxRecDepth 100000 in
set_option maxHeartbeats 4000000 in
theorem sealOpens_walk (Kt : Nat → Int) (l : List Rk.Ky) (o : Option Addr) (cap : Nat) (b : ByteArray) (w : World) (hr : Rk.Ring w o cap l) (hT : Tb Kt w) (hQ : Tr Kt w) :
    Calls Tryd.prog 5 #[.slice o l.length cap, .string b] w fun e w' => e = .returned (.bool true) ∧ Below w.heap.size w w' := by
  obtain ⟨m, hm30, CT⟩ := cut_named l o cap
  have HG : Hid (Rk.Ring w o cap l) := hr
  have HT : Hid (Tb Kt w) := hT
  have HQ : Hid (Tr Kt w) := hQ
  have HO : Hid (∀ W, Rk.Ring W o cap m → Tb Kt W → Calls Tryd.prog 19 #[.slice o m.length cap, .string b] W fun e w' => e = .returned (.tuple #[hv (oH Kt m b), .string (oS Kt m b), .int .i64 (oE Kt m b)]) ∧ Below W.heap.size W w') := fun W h1 h2 => open_any Kt m o cap b W h1 h2
  have HRO : Hid (∀ W, Rk.Ring W o cap m → Tr Kt W → Calls Tryd.prog 20 #[.slice o m.length cap, .string b] W fun e w' => e = .returned (.tuple #[hv (oH Kt m b), .string (oS Kt m b), .int .i64 (oE Kt m b)]) ∧ Below W.heap.size W w') := fun W h1 h2 => rOpen_any Kt m o cap b W h1 h2
  have HEQ : Hid (∀ w, (binOp .eql 25 (hv (oH Kt m b)) (hv (oH Kt m b))).run Tryd.prog w = .ok (.bool true) w) := fun w => by
    have := eql_heads (oH Kt m b) (oH Kt m b) w
    rw [decide_eq_true rfl] at this
    exact this
  clear hr hT hQ
  generalize oE Kt m b = oe at *
  generalize oH Kt m b = oh at *
  generalize oS Kt m b = os at *
  have HTB : Hid (∀ W, Below w.heap.size w W → Tb Kt W) := fun W hB => HT.out.below hB (Nat.le_refl _)
  have HTR : Hid (∀ W, Below w.heap.size w W → Tr Kt W) := fun W hB => HQ.out.below hB (Nat.le_refl _)
  have HGB : Hid (∀ W, Below w.heap.size w W → Rk.Ring W o cap l) := fun W hB => HG.out.below hB (Nat.le_refl _)
  clear HT HG HQ
  obtain ⟨a, b', c, d⟩ := oh
  unfold hv at *
  simp only at HO HRO HEQ
  go_enter Tryd.func5, Tryd.ntmps5
  go_wp2_with fail
  refine (shown_any Kt w (HTB.out w (Below.refl _ _))).mono ?_
  rintro e w1 ⟨rfl, b1⟩
  have D1 : Hid (Below w.heap.size w w1) := b1
  clear b1
  go_wp2_with fail
  refine (CT.out w1 (HGB.out w1 D1.out)).1.mono ?_
  rintro e vc ⟨rfl, hvc⟩
  subst hvc
  go_wp2_with fail
  refine (HO.out _ (CT.out _ (HGB.out _ D1.out)).2 (HTB.out _ D1.out)).mono ?_
  rintro e w2 ⟨rfl, b2⟩
  have D2 : Hid (Below w.heap.size w w2) := D1.out.trans (b2.mono D1.out.size)
  clear b2 D1 HO
  go_wp2_with fail
  obtain ⟨w3, hw3⟩ : ∃ w3, w2.alloc (.cells #[.int .u32 a, .int .u32 b', .int .u32 c, .int .u64 d] 25) = w3 := ⟨_, rfl⟩
  have D3 : Hid (Below w.heap.size w w3) := by rw [← hw3]; exact D2.out.alloc D2.out.size _
  have X3 : Hid (w3.heap[w2.heap.size]? = some (.cells #[.int .u32 a, .int .u32 b', .int .u32 c, .int .u64 d] 25 (0, 0))) := by rw [← hw3]; exact heap_alloc_new w2 _
  rw [hw3]
  clear hw3 D2
  refine (CT.out w3 (HGB.out w3 D3.out)).1.mono ?_
  rintro e vc ⟨rfl, hvc⟩
  subst hvc
  go_wp2_with fail
  refine (HRO.out _ (CT.out _ (HGB.out _ D3.out)).2 (HTR.out _ D3.out)).mono ?_
  rintro e w4 ⟨rfl, b4⟩
  have D4 : Hid (Below w.heap.size w w4) := D3.out.trans (b4.mono D3.out.size)
  have X4 : Hid (w4.heap[w2.heap.size]? = some (.cells #[.int .u32 a, .int .u32 b', .int .u32 c, .int .u64 d] 25 (0, 0))) := (b4.block _ (Array.getElem?_eq_some_iff.1 X3.out).1).trans X3.out
  clear b4 D3 X3 HRO
  have g8 : w2.heap.size < w4.heap.size := (Array.getElem?_eq_some_iff.1 X4.out).1
  have ha : w4.cell? ⟨w2.heap.size, 0, none⟩ = some (.int .u32 a) := by rw [cell_of_row _ _ _ _ _ _ X4.out]; rfl
  have hb : w4.cell? ⟨w2.heap.size, 1, none⟩ = some (.int .u32 b') := by rw [cell_of_row _ _ _ _ _ _ X4.out]; rfl
  have hc : w4.cell? ⟨w2.heap.size, 2, none⟩ = some (.int .u32 c) := by rw [cell_of_row _ _ _ _ _ _ X4.out]; rfl
  have hd : w4.cell? ⟨w2.heap.size, 3, none⟩ = some (.int .u64 d) := by rw [cell_of_row _ _ _ _ _ _ X4.out]; rfl
  have heq := HEQ.out
  go_wp2_with fail
  go_ret
  exact ⟨rfl, D4.out.alloc D4.out.size _⟩
end Go.Proofs.YtaoadopnhphjbaaDoor.Rs
