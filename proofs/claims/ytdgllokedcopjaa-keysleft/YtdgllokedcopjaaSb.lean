/- KeysDrops: the walk. -/
import Derived.Test.YtdgllokedcopjaaSa
namespace Go.Proofs.Ytdgllokedcopjaa
open Go.RowKit
set_option maxRecDepth 100000 in
set_option maxHeartbeats 4000000 in
theorem keysDrops_walk (l : List Ky) (g : Int) (o : Option Addr) (cap : Nat) (w : World) (hr : Ring w o cap l) :
    Calls Try.prog 5 #[.slice o l.length cap, .int .u32 g] w fun e w' => e = .returned (.bool true) ∧ Below w.heap.size w w' := by
  have HG : Hid (Ring w o cap l) := hr
  obtain ⟨m, hm30, CT⟩ := cut_named l o cap
  clear hr
  go_enter Try.func5, Try.ntmps5
  go_wp2_with fail
  refine (shown_any _).mono ?_
  rintro e w1 ⟨rfl, b1⟩
  have B1 : Hid (Below w.heap.size w w1) := b1
  clear b1
  go_wp2_with fail
  refine (CT.out w1 (HG.out.below B1.out (Nat.le_refl _))).1.mono ?_
  rintro e w2 ⟨rfl, rfl⟩
  go_wp2_with fail
  refine (drop_any m g o cap w2 (CT.out _ (HG.out.below B1.out (Nat.le_refl _))).2).mono ?_
  rintro e w3 ⟨o3, c3, rfl, r3, b3⟩
  have B3 : Hid (Below w.heap.size w w3) := B1.out.trans (b3.mono B1.out.size)
  have R3 : Hid (Ring w3 o3 c3 (dlS m g)) := r3
  clear r3 b3 B1
  go_wp2_with fail
  refine (CT.out w3 (HG.out.below B3.out (Nat.le_refl _))).1.mono ?_
  rintro e w4 ⟨rfl, rfl⟩
  go_wp2_with fail
  refine (refDrop_any m g o cap w4 (CT.out _ (HG.out.below B3.out (Nat.le_refl _))).2).mono ?_
  rintro e w5 ⟨o5, c5, rfl, r5, b5⟩
  have B5 : Hid (Below w.heap.size w w5) := B3.out.trans (b5.mono B3.out.size)
  have R5 : Hid (Ring w5 o5 c5 (dlS m g)) := r5
  have S5 : Hid (Ring w5 o3 c3 (dlS m g)) := R3.out.below b5 (Nat.le_refl _)
  clear r5 b5 B3 R3
  go_wp2_with fail
  refine (CT.out w5 (HG.out.below B5.out (Nat.le_refl _))).1.mono ?_
  rintro e w6 ⟨rfl, rfl⟩
  go_wp2_with fail
  refine (find_any m g o cap w6 (CT.out _ (HG.out.below B5.out (Nat.le_refl _))).2).mono ?_
  rintro e w7 ⟨rfl, b7⟩
  have B7 : Hid (Below w.heap.size w w7) := B5.out.trans (b7.mono B5.out.size)
  have R7 : Hid (Ring w7 o5 c5 (dlS m g)) := R5.out.below b7 (Nat.le_refl _)
  have S7 : Hid (Ring w7 o3 c3 (dlS m g)) := S5.out.below b7 (Nat.le_refl _)
  clear b7 B5 R5 S5
  obtain ⟨kx, hkx⟩ : ∃ kx, fkS m g = kx := ⟨_, rfl⟩
  have HKX : Hid (fkS m g = kx) := hkx
  rw [hkx]
  clear hkx
  obtain ⟨x, s⟩ := kx
  unfold kv
  go_wp2_with fail
  obtain ⟨w8, hw8⟩ : ∃ w8, w7.alloc (.cells #[.int .u32 x, .string s] 31) = w8 := ⟨_, rfl⟩
  have B8 : Hid (Below w.heap.size w w8) := by rw [← hw8]; exact B7.out.alloc B7.out.size _
  have X8 : Hid (w8.heap[w7.heap.size]? = some (.cells #[.int .u32 x, .string s] 31 (0, 0))) := by rw [← hw8]; exact heap_alloc_new w7 _
  have R8 : Hid (Ring w8 o5 c5 (dlS m g)) := by rw [← hw8]; exact R7.out.below (below_new _ _) (Nat.le_refl _)
  have S8 : Hid (Ring w8 o3 c3 (dlS m g)) := by rw [← hw8]; exact S7.out.below (below_new _ _) (Nat.le_refl _)
  rw [hw8]
  clear hw8 B7 R7 S7
  refine (CT.out w8 (HG.out.below B8.out (Nat.le_refl _))).1.mono ?_
  rintro e w9 ⟨rfl, rfl⟩
  go_wp2_with fail
  refine (refFind_any m g o cap w9 (CT.out _ (HG.out.below B8.out (Nat.le_refl _))).2).mono ?_
  rintro e wa ⟨rfl, ba⟩
  have Ba : Hid (Below w.heap.size w wa) := B8.out.trans (ba.mono B8.out.size)
  have Xa : Hid (wa.heap[w7.heap.size]? = some (.cells #[.int .u32 x, .string s] 31 (0, 0))) := (ba.block _ (Array.getElem?_eq_some_iff.1 X8.out).1).trans X8.out
  have Ra : Hid (Ring wa o5 c5 (dlS m g)) := R8.out.below ba (Nat.le_refl _)
  have Sa : Hid (Ring wa o3 c3 (dlS m g)) := S8.out.below ba (Nat.le_refl _)
  clear ba B8 R8 S8 X8
  rw [HKX.out]
  unfold kv
  generalize dlS m g = dl at *
  generalize feS m g = fe at *
  go_wp2_with fail
  obtain ⟨wb, hwb⟩ : ∃ wb, wa.alloc (.cells #[.int .u32 x, .string s] 31) = wb := ⟨_, rfl⟩
  have Bb : Hid (Below w.heap.size w wb) := by rw [← hwb]; exact Ba.out.alloc Ba.out.size _
  have Yb : Hid (wb.heap[wa.heap.size]? = some (.cells #[.int .u32 x, .string s] 31 (0, 0))) := by rw [← hwb]; exact heap_alloc_new wa _
  have Xb : Hid (wb.heap[w7.heap.size]? = some (.cells #[.int .u32 x, .string s] 31 (0, 0))) := by rw [← hwb]; exact (Below.heap_alloc _ _ _ (Array.getElem?_eq_some_iff.1 Xa.out).1).trans Xa.out
  have Rb : Hid (Ring wb o5 c5 dl) := by rw [← hwb]; exact Ra.out.below (below_new _ _) (Nat.le_refl _)
  have Sb : Hid (Ring wb o3 c3 dl) := by rw [← hwb]; exact Sa.out.below (below_new _ _) (Nat.le_refl _)
  rw [hwb]
  clear hwb Ba Xa Ra Sa
  refine (same_any dl dl o3 o5 c3 c5 wb Sb.out Rb.out).mono ?_
  rintro e wc ⟨rfl, bc⟩
  have Bc : Hid (Below w.heap.size w wc) := Bb.out.trans (bc.mono Bb.out.size)
  have Yc : wc.heap[wa.heap.size]? = some (.cells #[.int .u32 x, .string s] 31 (0, 0)) := (bc.block _ (Array.getElem?_eq_some_iff.1 Yb.out).1).trans Yb.out
  have Xc : wc.heap[w7.heap.size]? = some (.cells #[.int .u32 x, .string s] 31 (0, 0)) := (bc.block _ (Array.getElem?_eq_some_iff.1 Xb.out).1).trans Xb.out
  have c0 : wc.cell? ⟨wa.heap.size, 0, none⟩ = some (.int .u32 x) := by rw [cell_of_row _ _ _ _ _ _ Yc]; rfl
  have c1 : wc.cell? ⟨wa.heap.size, 1, none⟩ = some (.string s) := by rw [cell_of_row _ _ _ _ _ _ Yc]; rfl
  have d0 : wc.cell? ⟨w7.heap.size, 0, none⟩ = some (.int .u32 x) := by rw [cell_of_row _ _ _ _ _ _ Xc]; rfl
  have d1 : wc.cell? ⟨w7.heap.size, 1, none⟩ = some (.string s) := by rw [cell_of_row _ _ _ _ _ _ Xc]; rfl
  have hq := eql_keys (x, s) (x, s)
  rw [decide_eq_true rfl] at hq
  rw [decide_eq_true rfl]
  simp only at hq
  clear bc Bb Rb Sb Yb Xb Yc Xc
  go_wp2_with fail
  go_ret
  exact ⟨rfl, Bc.out⟩
end Go.Proofs.Ytdgllokedcopjaa
