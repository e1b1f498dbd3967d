/- The sort beyond twelve: heapSort. -/
import Derived.Test.YtkpfnepbnaekoaaPSB
namespace Go.Proofs.Ytkpfnepbnaekoaa.Rd
open Go.RowKit
set_option maxRecDepth 100000 in
theorem sift_size (hi F : Nat) : ∀ (m root : Nat) (d : Array Nat), hi - root ≤ m → (Sort.siftDown ltN hi F root d).size = d.size
  | m, root, d, hm => by
    rw [Sort.siftDown]
    split
    · rfl
    · rename_i h
      cases m with
      | zero => omega
      | succ m =>
        split
        · split
          · rfl
          · split
            · rw [sift_size hi F m _ _ (by omega), swp_sz]
            · rfl
        · split
          · rfl
          · rw [sift_size hi F m _ _ (by omega), swp_sz]
set_option maxRecDepth 100000 in
set_option maxHeartbeats 4000000 in
theorem heap_any (g cap a b : Nat) (d : Array Nat) (ha : a ≤ b) (hb : b ≤ d.size) (hd : d.size ≤ 1000000) (w : World) (h : Us w g d) :
    Calls Try.prog 77 #[.slice (some ⟨g, 0, none⟩) d.size cap, .int .i64 (a : Int), .int .i64 (b : Int)] w fun e w' => e = .returned (.tuple #[]) ∧ Us w' g (Sort.heapSort ltN d a b) ∧ Bg g w w' := by
  have HU : Hid (Us w g d) := h
  clear h
  obtain ⟨n, hn⟩ : ∃ n, d.size = n := ⟨_, rfl⟩
  rw [hn] at hb hd ⊢
  obtain ⟨hi, hhi⟩ : ∃ hi : Nat, (b : Int) - (a : Int) = (hi : Int) := ⟨b - a, by omega⟩
  have HH : Hid (b - a = hi) := by refine (?_ : b - a = hi); omega
  obtain ⟨k0, hk0, hk1⟩ : ∃ k0 : Nat, ((hi : Int) - 1).tdiv 2 = (k0 : Int) ∧ k0 = (hi - 1) / 2 := by
    refine ⟨(hi - 1) / 2, ?_, rfl⟩
    cases hi with
    | zero => rfl
    | succ q => rw [show ((q + 1 : Nat) : Int) - 1 = (q : Int) by omega]; simp
  have HK1 : Hid (k0 = (hi - 1) / 2) := hk1
  have hkh : k0 ≤ hi := by omega
  clear hk1
  go_enter Try.func77, Try.ntmps77
  go_wp2_with fail
  go_loopw [9] (fun iv wr => ∃ (k : Nat) (d1 : Array Nat), iv = .int .i64 ((k : Int) - 1) ∧ k ≤ hi + 1 ∧ Us wr g d1 ∧ d1.size = n ∧ Sort.heapBuild ltN hi a k d1 = Sort.heapBuild ltN hi a (k0 + 1) d ∧ Bg g w wr) (fun iv _ => match iv with | .int _ x => (x + 1).toNat | _ => 0)
  case atStart => exact ⟨k0 + 1, d, by go_num, by omega, HU.out, hn, rfl, But.refl _ _⟩
  case round =>
    obtain ⟨k, d1, rfl, hkb, hu, hs1, he, hbg⟩ := hrel
    have U1 : Hid (Us wr g d1) := hu
    have E1 : Hid (Sort.heapBuild ltN hi a k d1 = Sort.heapBuild ltN hi a (k0 + 1) d) := he
    have B1 : Hid (Bg g w wr) := hbg
    clear hu he hbg
    cases k with
    | succ k =>
      have hkk : ((k + 1 : Nat) : Int) - 1 = (k : Int) := by omega
      rw [hkk]
      clear hkk
      have q1 : (0 : Int) ≤ (k : Int) := by omega
      go_wp2_with fail
      have hsft := sift_any g cap k hi a d1 (by omega) (by omega) (by omega) wr U1.out
      rw [hs1] at hsft
      refine hsft.mono ?_
      rintro e w2 ⟨rfl, u2, b2⟩
      have U2 : Hid (Us w2 g (Sort.siftDown ltN hi a k d1)) := u2
      have B2 : Hid (Bg g w w2) := B1.out.trans b2
      clear u2 b2 hsft
      go_wp2_with fail
      go_roundw
      case rel => exact ⟨k, Sort.siftDown ltN hi a k d1, rfl, by omega, U2.out, by rw [sift_size hi a _ _ _ (Nat.le_refl _)]; exact hs1, E1.out, B2.out⟩
      case measure => simp
    | zero =>
      have hkk : ((0 : Nat) : Int) - 1 = -1 := rfl
      rw [hkk]
      clear hkk
      have E1' : Hid (d1 = Sort.heapBuild ltN hi a (k0 + 1) d) := E1.out
      clear E1
      go_wp2_with fail
      go_loopw [10] (fun iv wr => ∃ (k : Nat) (d2 : Array Nat), iv = .int .i64 ((k : Int) - 1) ∧ k ≤ hi ∧ Us wr g d2 ∧ d2.size = n ∧ Sort.heapPop ltN a k d2 = Sort.heapPop ltN a hi d1 ∧ Bg g w wr) (fun iv _ => match iv with | .int _ x => (x + 1).toNat | _ => 0)
      case atStart => exact ⟨hi, d1, by go_num, by omega, U1.out, hs1, rfl, B1.out⟩
      case round =>
        obtain ⟨k, d2, rfl, hkb, hu, hs2, he, hbg⟩ := hrel
        have U2 : Hid (Us wr g d2) := hu
        have E2 : Hid (Sort.heapPop ltN a k d2 = Sort.heapPop ltN a hi d1) := he
        have B2 : Hid (Bg g w wr) := hbg
        clear hu he hbg U1 B1
        cases k with
        | succ k =>
          have hkk : ((k + 1 : Nat) : Int) - 1 = (k : Int) := by omega
          rw [hkk]
          clear hkk
          have q1 : (0 : Int) ≤ (k : Int) := by omega
          by_cases hkz : k = 0
          · subst hkz
            have hk00 : (((0 : Nat) : Int)) = 0 := rfl
            rw [hk00]
            clear hk00
            obtain ⟨x1, y1⟩ := Us.cell U2.out a (by omega)
            have p1 : (a : Int) < (n : Int) := by omega
            have p3 : (0 : Int) ≤ (a : Int) := by omega
            generalize hx : d2[a]! = xv at *
            have HX : Hid (d2[a]! = xv) := hx
            have HW := Us.swp U2.out a (a + 0)
            rw [show a + 0 = a from rfl, HX.out] at HW
            have HW1 : Hid (Us _ g (Sort.swp d2 a a)) := HW.1
            have HW2 : Hid _ := HW.2
            clear hx HW
            go_wp2_with fail
            go_region
            obtain ⟨W2, hW2⟩ : ∃ W2, ((wr.setCell ⟨g, a, none⟩ (.int .u32 (xv : Int))).setCell ⟨g, a, none⟩ (.int .u32 (xv : Int))).drew = W2 := ⟨_, rfl⟩
            have U3 : Hid (Us W2 g (Sort.swp d2 a a)) := by
              refine (?_ : Us W2 g (Sort.swp d2 a a))
              rw [← hW2]; exact Us.same HW1.out rfl
            have B3 : Hid (Bg g w W2) := by
              refine (?_ : Bg g w W2)
              rw [← hW2]; exact (B2.out.trans HW2.out).trans (Bg.drew _)
            rw [hW2]
            clear hW2 HW1 HW2 x1 y1
            go_wp2_with fail
            have hsft : Calls Try.prog _ _ _ _ := sift_any g cap 0 0 a (Sort.swp d2 a a) (by omega) (by rw [swp_sz]; omega) (by rw [swp_sz]; omega) W2 U3.out
            rw [swp_sz, hs2] at hsft
            refine hsft.mono ?_
            rintro e w3 ⟨rfl, u3, b3⟩
            have U4 : Hid (Us w3 g (Sort.siftDown ltN 0 a 0 (Sort.swp d2 a a))) := u3
            have B4 : Hid (Bg g w w3) := B3.out.trans b3
            clear u3 b3 hsft
            go_wp2_with fail
            go_roundw
            case rel => exact ⟨0, _, rfl, by omega, U4.out, by rw [sift_size 0 a _ _ _ (Nat.le_refl _), swp_sz]; exact hs2, E2.out, B4.out⟩
            case measure => simp
          · have hne : ¬ a = a + k := by omega
            have hne2 : ¬ a + k = a := by omega
            obtain ⟨x1, y1⟩ := Us.cell U2.out a (by omega)
            obtain ⟨x2, y2⟩ := Us.cell U2.out (a + k) (by omega)
            have p1 : (a : Int) < (n : Int) := by omega
            have p2 : (a : Int) + (k : Int) < (n : Int) := by omega
            have p3 : (0 : Int) ≤ (a : Int) := by omega
            have p4 : (0 : Int) ≤ (a : Int) + (k : Int) := by omega
            generalize hx : d2[a]! = xv at *
            generalize hy : d2[a + k]! = yv at *
            have HX : Hid (d2[a]! = xv) := hx
            have HY : Hid (d2[a + k]! = yv) := hy
            have HW := Us.swp U2.out a (a + k)
            rw [HX.out, HY.out] at HW
            have HW1 : Hid (Us _ g (Sort.swp d2 a (a + k))) := HW.1
            have HW2 : Hid _ := HW.2
            clear hx hy HW
            go_wp2_with fail
            go_region
            obtain ⟨W2, hW2⟩ : ∃ W2, ((wr.setCell ⟨g, a, none⟩ (.int .u32 (yv : Int))).setCell ⟨g, a + k, none⟩ (.int .u32 (xv : Int))).drew = W2 := ⟨_, rfl⟩
            have U3 : Hid (Us W2 g (Sort.swp d2 a (a + k))) := by
              refine (?_ : Us W2 g (Sort.swp d2 a (a + k)))
              rw [← hW2]; exact Us.same HW1.out rfl
            have B3 : Hid (Bg g w W2) := by
              refine (?_ : Bg g w W2)
              rw [← hW2]; exact (B2.out.trans HW2.out).trans (Bg.drew _)
            rw [hW2]
            clear hW2 HW1 HW2 x1 x2 y1 y2
            go_wp2_with fail
            have hsft := sift_any g cap 0 k a (Sort.swp d2 a (a + k)) (by omega) (by rw [swp_sz]; omega) (by rw [swp_sz]; omega) W2 U3.out
            rw [swp_sz, hs2] at hsft
            refine hsft.mono ?_
            rintro e w3 ⟨rfl, u3, b3⟩
            have U4 : Hid (Us w3 g (Sort.siftDown ltN k a 0 (Sort.swp d2 a (a + k)))) := u3
            have B4 : Hid (Bg g w w3) := B3.out.trans b3
            clear u3 b3 hsft
            go_wp2_with fail
            go_roundw
            case rel => exact ⟨k, _, rfl, by omega, U4.out, by rw [sift_size k a _ _ _ (Nat.le_refl _), swp_sz]; exact hs2, E2.out, B4.out⟩
            case measure => simp
        | zero =>
          have hkk : ((0 : Nat) : Int) - 1 = -1 := rfl
          rw [hkk]
          clear hkk
          go_wp2_with fail
          refine bodyPost_end (results_none rfl _ _ _) rfl ?_
          refine ⟨rfl, ?_, B2.out⟩
          have : Sort.heapSort ltN d a b = d2 := by
            unfold Sort.heapSort
            rw [HH.out, ← HK1.out, ← E1'.out, ← E2.out]
            rfl
          rw [this]
          exact U2.out
end Go.Proofs.Ytkpfnepbnaekoaa.Rd
