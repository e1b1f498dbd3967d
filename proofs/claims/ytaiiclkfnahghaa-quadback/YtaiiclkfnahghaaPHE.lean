/- QuadBack: a tree has the rows that it was built of. -/
import Derived.Test.YtaiiclkfnahghaaPHS
import Derived.Test.YtaiiclkfnahghaaPBL
namespace Go.Proofs.Ytaiiclkfnahghaa.Rq
open Go.RowKit Go.Lib Go.Shelf
open Go.Proofs.Ytaiiclkfnahghaa.Rc
set_option maxRecDepth 100000 in
set_option maxHeartbeats 2000000 in
theorem quadBack_walk (l : List Rw) (o : Option Addr) (cap : Nat) (w : World) (hr : RowsAt w o cap l) :
    Calls Try.prog 7 #[.slice o l.length cap] w fun e w' => e = .returned (.bool true) ∧ Below w.heap.size w w' := by
  have HF : Hid _ := few_any l o cap
  have HR0 : Hid (RowsAt w o cap l) := hr
  have HR : Hid (RowsAt w o cap (l.take 60)) := hr.head 60
  have h60 : (l.take 60).length ≤ 60 := by rw [List.length_take]; omega
  go_enter Try.func7, Try.ntmps7
  go_wp2_with fail
  refine (shown_any _).mono ?_
  rintro e w1 ⟨rfl, b1⟩
  have HB1 : Hid (Below w.heap.size w w1) := b1
  clear b1 hr
  go_wp2_with fail
  refine (HF.out w1 (HR0.out.below HB1.out (Nat.le_refl _))).mono ?_
  rintro e w2 ⟨rfl, h⟩
  have h' := h.symm; clear h; subst h'
  clear HF HR0
  generalize l.take 60 = l at *
  go_wp2_with fail
  have hR1 := HR.out.below HB1.out (Nat.le_refl _)
  cases hrl : rightL l
  · refine (build_no l o cap _ hR1 hrl).mono ?_
    rintro e w2 ⟨rfl, b2⟩
    have HB2 : Hid (Below w.heap.size w w2) := HB1.out.trans (b2.mono HB1.out.size)
    have HQ : Hid (∀ W : World, Below w.heap.size w W → Calls Try.prog 17 #[.slice o l.length cap] W fun e w' => e = .returned (.bool false) ∧ Below W.heap.size W w') := fun W hW => hrl ▸ qright_any l o cap W (HR.out.below hW (Nat.le_refl _))
    have hb3 := below_new w2 (.cells #[.int .u32 0, .int .u32 0, .int .i64 0, .slice none 0 0, .slice none 0 0] 33)
    have HB3 : Hid _ := HB2.out.trans (hb3.mono HB2.out.size)
    clear b2 hR1 hb3
    generalize l.length = n at *
    go_wp2_with fail
    refine (HQ.out _ HB3.out).mono ?_
    rintro e w3 ⟨rfl, b3⟩
    have HB4 : Hid (Below w.heap.size w w3) := HB3.out.trans (b3.mono HB3.out.size)
    clear b3
    go_wp2_with fail
    go_ret
    exact ⟨rfl, HB4.out⟩
  · have hon := right_on hrl
    have hri := right_rise hrl
    refine (build_ok l o cap _ hR1 hrl).mono ?_
    rintro e w2 ⟨n, rfl, n2, b2⟩
    have HB2 : Hid (Below w.heap.size w w2) := HB1.out.trans (b2.mono HB1.out.size)
    have hnb := (n2.mono (G' := fun _ => True) fun _ _ _ => trivial).below (below_new w2 (.cells #[.int .u32 (n.X : Int), .int .u32 (n.Y : Int), .int .i64 (n.L : Int), .slice n.ro n.rn n.rc, .slice n.ko n.kn n.kc] 33)) (Nat.le_refl _)
    obtain ⟨X, Y, L, ro, rn, rc', ko, kn, kc⟩ := n
    have hb3 := below_new w2 (.cells #[.int .u32 (X : Int), .int .u32 (Y : Int), .int .i64 (L : Int), .slice ro rn rc', .slice ko kn kc] 33)
    obtain ⟨W3, hW3⟩ : ∃ W3, w2.alloc (.cells #[.int .u32 (X : Int), .int .u32 (Y : Int), .int .i64 (L : Int), .slice ro rn rc', .slice ko kn kc] 33) = W3 := ⟨_, rfl⟩
    have hg3 := heap_alloc_new w2 (.cells #[.int .u32 (X : Int), .int .u32 (Y : Int), .int .i64 (L : Int), .slice ro rn rc', .slice ko kn kc] 33)
    simp only at hnb
    rw [hW3] at hb3 hg3 hnb
    have HW3 : Hid _ := hW3
    have HG3 : Hid (W3.heap[w2.heap.size]? = some (.cells #[.int .u32 (X : Int), .int .u32 (Y : Int), .int .i64 (L : Int), .slice ro rn rc', .slice ko kn kc] 33 (0, 0))) := hg3
    have HN3 : Hid (NodeAt (fun _ => True) 32 W3 ⟨X, Y, L, ro, rn, rc', ko, kn, kc⟩ l) := hnb
    have HB3 : Hid (Below w.heap.size w W3) := HB2.out.trans (hb3.mono HB2.out.size)
    have HON : Hid (On l) := hon
    have HC : Hid (∀ _ : True, _) := fun _ => rowsQ_any _ l 32 W3 hnb hon (by omega) hri
    clear b2 hR1 n2 hb3 hg3 hW3 hnb hon hri
    simp only [nv] at HC ⊢
    have q1 : (l.length : Int) ≤ 60 := by omega
    go_wp2_with fail
    rw [HW3.out]
    refine Calls.mono (HC.out trivial) ?_
    rintro e w4 ⟨v, rfl, o4, b4⟩
    obtain ⟨o5, cap5, rfl, s4⟩ := sl_of_own o4
    have HG4 : Hid (w4.heap[w2.heap.size]? = some (.cells #[.int .u32 (X : Int), .int .u32 (Y : Int), .int .i64 (L : Int), .slice ro rn rc', .slice ko kn kc] 33 (0, 0))) := (b4.block _ (Array.getElem?_eq_some_iff.1 HG3.out).1).trans HG3.out
    have HB4 : Hid (Below w.heap.size w w4) := HB3.out.trans (b4.mono HB3.out.size)
    have HS4 : Hid (RowsAt w4 o5 cap5 l) := s4
    have HN4 : Hid (NodeAt (fun _ => True) 32 w4 ⟨X, Y, L, ro, rn, rc', ko, kn, kc⟩ l) := NodeAt.below HN3.out b4 (Nat.le_refl _)
    have HSM : Hid (∀ _ : True, _) := fun _ => same_any l o5 cap5 o cap w4 s4 (HR.out.below HB4.out (Nat.le_refl _))
    clear o4 b4 s4 HC HN3 HG3 HW3 HB3
    obtain ⟨z0, z1, z2, z3, z4, f0, f1, f2, f3, f4⟩ := node_facts HG4.out
    clear z0 z1 z2 z3 z4
    go_wp2_with fail
    refine Calls.mono (HSM.out trivial) ?_
    rintro e w5 ⟨rfl, b5⟩
    have hg5 := (b5.block _ (Array.getElem?_eq_some_iff.1 HG4.out).1).trans HG4.out
    have HB5 : Hid (Below w.heap.size w w5) := HB4.out.trans (b5.mono HB4.out.size)
    have HSZ : Hid (∀ _ : True, _) := fun _ => size_any _ l 32 w5 (NodeAt.below HN4.out b5 (Nat.le_refl _)) HON.out (by omega)
    clear b5 HSM f0 f1 f2 f3 f4
    obtain ⟨z0, z1, z2, z3, z4, f0, f1, f2, f3, f4⟩ := node_facts hg5
    have lg := (Array.getElem?_eq_some_iff.1 hg5).1
    clear z0 z1 z2 z3 z4 hg5
    simp only [nv] at HSZ
    go_wp2_with fail
    refine Calls.mono (HSZ.out trivial) ?_
    rintro e w6 ⟨rfl, b6⟩
    have HB6 : Hid (Below w.heap.size w w6) := HB5.out.trans (b6.mono HB5.out.size)
    clear b6
    go_wp2_with fail
    go_ret
    exact ⟨rfl, HB6.out⟩
end Go.Proofs.Ytaiiclkfnahghaa.Rq
