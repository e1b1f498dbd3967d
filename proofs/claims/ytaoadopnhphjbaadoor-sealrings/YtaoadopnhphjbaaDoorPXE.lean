/- SealRings: the walk. -/
import Derived.Test.YtaoadopnhphjbaaDoorPXA
import Derived.Test.YtaoadopnhphjbaaDoorPXE0
namespace Go.Proofs.YtaoadopnhphjbaaDoor.Rs
open Go.RowKit Go.Lib
/-- Where the walk over the keys is. -/
def LR (l : List Rk.Ky) (g : Int) (w : World) (B n : Nat) (v : Value) (W : World) : Prop :=
  W.ownsRow B 44 2 v (lessS (l.take n) g).length (Rk.cellsOf (lessS (l.take n) g)) ∧ Below w.heap.size w W ∧ B ≤ W.heap.size
set_option maxRecDepth 100000 in
set_option maxHeartbeats 4000000 in
theorem sealRings_walk (Kt : Nat → Int) (l : List Rk.Ky) (o : Option Addr) (cap : Nat) (h : Hd) (hf : fits h) (s : ByteArray) (g : Int) (w : World) (hr : Rk.Ring w o cap l) (hT : Tb Kt w) :
    Calls Tryd.prog 9 #[.slice o l.length cap, hv h, .string s, .int .u32 g] w fun e w' => e = .returned (.bool true) ∧ Below w.heap.size w w' := by
  obtain ⟨m, hm30, CT⟩ := cut_named l o cap
  have HG : Hid (Rk.Ring w o cap l) := hr
  have HT : Hid (Tb Kt w) := hT
  have HS : Hid (∀ W, Rk.Ring W o cap m → Tb Kt W → Calls Tryd.prog 16 #[.slice o m.length cap, hv h, .string s] W fun e w' => e = .returned (.tuple #[.string (sV Kt m h s), .int .i64 (sE m h s)]) ∧ Below W.heap.size W w') := fun W h1 h2 => seal_any Kt m o cap h hf s W h1 h2
  have HS2 : Hid (sE m h s = 0 → h.2.1 ≠ g → ∀ W o' cap', Rk.Ring W o' cap' (lessS m g) → Tb Kt W → Calls Tryd.prog 16 #[.slice o' (lessS m g).length cap', hv h, .string s] W fun e w' => e = .returned (.tuple #[.string (sV Kt m h s), .int .i64 0]) ∧ Below W.heap.size W w') := fun h0 hg W o' cap' h1 h2 => by
    obtain ⟨e1, e2⟩ := less_seal Kt m g h hg s h0
    have := seal_any Kt (lessS m g) o' cap' h hf s W h1 h2
    rw [e1, e2] at this
    exact this
  have HO : Hid (sE m h s = 0 → h.2.1 ≠ g → ∀ W o' cap', Rk.Ring W o' cap' (lessS m g) → Tb Kt W → Calls Tryd.prog 19 #[.slice o' (lessS m g).length cap', .string (sV Kt m h s)] W fun e w' => e = .returned (.tuple #[hv h, .string s, .int .i64 0]) ∧ Below W.heap.size W w') := fun h0 hg W o' cap' h1 h2 => by
    obtain ⟨e1, e2⟩ := less_seal Kt m g h hg s h0
    obtain ⟨z1, z2, z3, z4, z5⟩ := open_seal Kt (lessS m g) h hf s e1
    rw [e2] at z3 z4 z5
    have := open_any Kt (lessS m g) o' cap' (sV Kt m h s) W h1 h2
    rw [z3, z4, z5] at this
    exact this
  have HEQ : Hid (∀ w, (binOp .eql 25 (hv h) (hv h)).run Tryd.prog w = .ok (.bool true) w) := fun w => by
    have := eql_heads h h w
    rw [decide_eq_true rfl] at this
    exact this
  clear hr hT hf
  generalize sV Kt m h s = b at *
  generalize sE m h s = se at *
  have HTB : Hid (∀ W, Below w.heap.size w W → Tb Kt W) := fun W hB => HT.out.below hB (Nat.le_refl _)
  have HGB : Hid (∀ W, Below w.heap.size w W → Rk.Ring W o cap l) := fun W hB => HG.out.below hB (Nat.le_refl _)
  clear HT HG
  obtain ⟨a, b', c, d⟩ := h
  unfold hv at *
  simp only at HS HS2 HO HEQ ⊢
  go_enter Tryd.func9, Tryd.ntmps9
  go_wp2_with fail
  obtain ⟨w1, hw1⟩ : ∃ w1, w.alloc (.cells #[.int .u32 a, .int .u32 b', .int .u32 c, .int .u64 d] 25) = w1 := ⟨_, rfl⟩
  have D1 : Hid (Below w.heap.size w w1) := by rw [← hw1]; exact (Below.refl _ w).alloc (Nat.le_refl _) _
  have X1 : Hid (w1.heap[w.heap.size]? = some (.cells #[.int .u32 a, .int .u32 b', .int .u32 c, .int .u64 d] 25 (0, 0))) := by rw [← hw1]; exact heap_alloc_new w _
  have l1 : w.heap.size < w1.heap.size := (Array.getElem?_eq_some_iff.1 X1.out).1
  rw [hw1]
  clear hw1
  refine (shown_any Kt w1 (HTB.out w1 D1.out)).mono ?_
  rintro e w2 ⟨rfl, b2⟩
  have D2 : Hid (Below w.heap.size w w2) := D1.out.trans (b2.mono D1.out.size)
  have l2 : w.heap.size < w2.heap.size := Nat.lt_of_lt_of_le l1 b2.size
  have X2 : Hid (w2.heap[w.heap.size]? = some (.cells #[.int .u32 a, .int .u32 b', .int .u32 c, .int .u64 d] 25 (0, 0))) := (b2.block _ l1).trans X1.out
  clear b2 D1 X1 l1
  have HC : Hid (∀ w', Below w2.heap.size w2 w' → w'.cell? ⟨w.heap.size, 0, none⟩ = some (.int .u32 a) ∧ w'.cell? ⟨w.heap.size, 1, none⟩ = some (.int .u32 b') ∧ w'.cell? ⟨w.heap.size, 2, none⟩ = some (.int .u32 c) ∧ w'.cell? ⟨w.heap.size, 3, none⟩ = some (.int .u64 d)) := fun W hB => by
    have hV := (hB.block _ l2).trans X2.out
    exact ⟨by rw [cell_of_row _ _ _ _ _ _ hV]; rfl, by rw [cell_of_row _ _ _ _ _ _ hV]; rfl, by rw [cell_of_row _ _ _ _ _ _ hV]; rfl, by rw [cell_of_row _ _ _ _ _ _ hV]; rfl⟩
  go_wp2_with fail
  refine (CT.out w2 (HGB.out w2 D2.out)).1.mono ?_
  rintro e vc ⟨rfl, hvc⟩
  have hvc' := hvc.symm
  clear hvc
  subst hvc'
  obtain ⟨ca, cb, cc, cd⟩ := HC.out w2 (Below.refl _ _)
  go_wp2_with fail
  clear ca cb cc cd
  refine (HS.out w2 (CT.out w2 (HGB.out w2 D2.out)).2 (HTB.out w2 D2.out)).mono ?_
  rintro e w3 ⟨rfl, b3⟩
  have E3 : Hid (Below w2.heap.size w2 w3) := b3
  have D3 : Hid (Below w.heap.size w w3) := D2.out.trans (b3.mono D2.out.size)
  clear b3 HS
  obtain ⟨ca, cb, cc, cd⟩ := HC.out w3 E3.out
  by_cases h0 : se = 0
  · by_cases hg : b' = g
    · have q0 : (se != 0) = false := by simp [h0]
      have q1 : (g == b') = true := by simp [hg]
      go_wp2_with fail
      go_ret
      exact ⟨rfl, D3.out⟩
    · have q0 : (se != 0) = false := by simp [h0]
      have q1 : (g == b') = false := by simp; omega
      have HS3 : Hid _ := HS2.out h0 hg
      have HO3 : Hid _ := HO.out h0 hg
      clear HS2 HO
      go_wp2_with fail
      clear ca cb cc cd
      have n0 : (0 : Int) ≤ (m.length : Int) := by omega
      have n30 : (m.length : Int) ≤ 30 := by omega
      go_loopw [12, 13] (fun v i wr => ∃ n : Nat, n ≤ m.length ∧ i = .int .i64 (n : Int) ∧ LR m g w w3.heap.size n v wr ∧ Below w3.heap.size w3 wr) (fun _ i _ => m.length - Rp.natOf i)
      case atStart => exact ⟨0, by omega, rfl, ⟨World.ownsRow_nil _ _ _ _, D3.out, Nat.le_refl _⟩, Below.refl _ _⟩
      case round =>
        obtain ⟨n, hn, rfl, hI, hB⟩ := hrel
        have HI : Hid (LR m g w w3.heap.size n u12 wr) := hI
        have HB : Hid (Below w3.heap.size w3 wr) := hB
        clear hI hB
        by_cases hlt : n < m.length
        · have g0 : (n : Int) < (m.length : Int) := by omega
          have g1 : (0 : Int) ≤ (n : Int) := by omega
          obtain ⟨bb, off, ho, hbl, hc⟩ := (CT.out wr (HGB.out wr HI.out.2.1)).2.2.2.2 (by intro e; rw [e] at hlt; simp at hlt)
          subst ho
          obtain ⟨d1, d2⟩ := hc n hlt
          have HT : Hid (m.take (n + 1) = m.take n ++ [Rk.kat m n]) := Rk.take_kat m n hlt
          obtain ⟨y, hy⟩ : ∃ y, Rk.kat m n = y := ⟨_, rfl⟩
          rw [hy] at d1 d2 HT
          clear hc hy
          obtain ⟨y, t⟩ := y
          simp only at d1 d2
          by_cases hyg : y = g
          · have q4 : (y != g) = false := by simp [hyg]
            have HF : Hid (LR m g w w3.heap.size (n + 1) u12 wr) := by
              refine (?_ : LR m g w w3.heap.size (n + 1) u12 wr)
              unfold LR lessS
              rw [HT.out, List.filter_append, List.filter_cons, if_neg (by simp [hyg]), List.filter_nil, List.append_nil]
              exact HI.out
            clear hyg
            go_wp2_with fail
            go_roundw
            case rel => exact ⟨n + 1, by omega, by go_num, HF.out, HB.out⟩
            case measure => simp [Rp.natOf]; omega
          · have q4 : (y != g) = true := by simp [hyg]
            have hI := HI.out
            have hfl : (lessS (m.take n) g).length ≤ 30 := by
              have h1 := List.length_filter_le (fun k : Rk.Ky => !decide (k.1 = g)) (m.take n)
              rw [List.length_take] at h1
              unfold lessS
              omega
            obtain ⟨v5, W5, hr5, o5, g5⟩ := Rk.append_own (wr.alloc (.cells #[.int .u32 y, .string t] 44)) w3.heap.size _ u12 (some ⟨wr.heap.size, 0, none⟩) 1 _ [(y, t)] (hI.1.alloc _) (by simp; have := hI.2.2; omega) (Rk.one_ring (heap_alloc_new wr _)) (by simp; omega)
            have hne : ∀ j, u12.ownBlock = some j → w3.heap.size ≤ j := fun j e => (hI.1.lt j e).1
            have hs1 := D3.out.size
            have HF : Hid (LR m g w w3.heap.size (n + 1) v5 W5) := by
              refine (?_ : LR m g w w3.heap.size (n + 1) v5 W5)
              refine ⟨?_, (hI.2.1.alloc hI.2.1.size _).grown g5 (by simp; have := hI.2.2; omega) (fun j e => by have := hne j e; omega), Nat.le_trans hI.2.2 (Nat.le_trans (by simp) g5.size)⟩
              unfold lessS
              rw [HT.out, List.filter_append, List.filter_cons, if_pos (by simp [hyg]), List.filter_nil]
              simpa [lessS] using o5
            have HB5 : Hid (Below w3.heap.size w3 W5) := (HB.out.alloc HB.out.size _).grown g5 (by simp; have := HB.out.size; omega) (fun j e => hne j e)
            clear hyg o5 g5 hne hI hfl hs1
            go_wp2_with (at_builtin; refine Rk.list_append rfl 32 32 (.tmp 51) (.tmp 56) rfl (vs := u12) (vx := .slice (some ⟨wr.heap.size, 0, none⟩) 1 1) rfl rfl hr5 ?_)
            go_roundw
            case rel => exact ⟨n + 1, by omega, by go_num, HF.out, HB5.out⟩
            case measure => simp [Rp.natOf]; omega
        · have g0 : ¬ (n : Int) < (m.length : Int) := by omega
          have hI := HI.out
          unfold LR at hI
          rw [List.take_of_length_le (by omega)] at hI
          obtain ⟨_, o6, c6, ho6, R6⟩ := Rk.ring_of_own hI.1
          subst ho6
          have HR6 : Hid (Rk.Ring wr o6 c6 (lessS m g)) := R6
          have HB6 : Hid (Below w.heap.size w wr) := hI.2.1
          clear hI R6 HI
          obtain ⟨ca, cb, cc, cd⟩ := HC.out wr (E3.out.trans (HB.out.mono E3.out.size))
          go_wp2_with fail
          clear ca cb cc cd
          refine (HS3.out wr o6 c6 HR6.out (HTB.out wr HB6.out)).mono ?_
          rintro e w7 ⟨rfl, b7⟩
          have E7 : Hid (Below w2.heap.size w2 w7) := (E3.out.trans (HB.out.mono E3.out.size)).trans (b7.mono (E3.out.trans (HB.out.mono E3.out.size)).size)
          have D7 : Hid (Below w.heap.size w w7) := HB6.out.trans (b7.mono HB6.out.size)
          have R7 : Hid (Rk.Ring w7 o6 c6 (lessS m g)) := HR6.out.below b7 (Nat.le_refl _)
          clear b7 HR6 HB6 HS3 HB
          go_wp2_with fail
          refine (HO3.out w7 o6 c6 R7.out (HTB.out w7 D7.out)).mono ?_
          rintro e w8 ⟨rfl, b8⟩
          have E8 : Hid (Below w2.heap.size w2 w8) := E7.out.trans (b8.mono E7.out.size)
          have D8 : Hid (Below w.heap.size w w8) := D7.out.trans (b8.mono D7.out.size)
          clear b8 R7 D7 E7 HO3
          obtain ⟨ga, gb, gc, gd⟩ := HC.out w8 E8.out
          have gw : w.heap.size < w8.heap.size := Nat.lt_of_lt_of_le l2 E8.out.size
          have heq := HEQ.out
          go_wp2_with fail
          go_ret
          exact ⟨rfl, D8.out.alloc D8.out.size _⟩
  · have q0 : (se != 0) = true := by simpa using h0
    go_wp2_with fail
    go_ret
    exact ⟨rfl, D3.out⟩
end Go.Proofs.YtaoadopnhphjbaaDoor.Rs
