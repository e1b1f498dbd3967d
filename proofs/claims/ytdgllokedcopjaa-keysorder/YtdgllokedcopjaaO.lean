/- slices.Grow and slices.Concat of two rings. -/
import Derived.Test.YtdgllokedcopjaaN
namespace Go.Proofs.Ytdgllokedcopjaa
open Go.RowKit
theorem zeroCells_size (z : Array Value) (n : Nat) : (Builtin.zeroCells z n).size = n * z.size := by simp [Builtin.zeroCells]
/-- Room for n keys. -/
theorem run_grow (n : Nat) (h0 : 0 < n) (hn : n ≤ 1000) (w : World) : ∃ cap w', (Builtin.append_ #[22, 3] 22 #[.slice none 0 0, .int .i64 (n : Int)]).run Try.prog w = .ok (.slice (some ⟨w.heap.size, 0, none⟩) n cap) w' ∧ n ≤ cap ∧ w'.ownsRow w.heap.size 31 2 (.slice (some ⟨w.heap.size, 0, none⟩) 0 cap) 0 [] ∧ w.grownBy w' none := by
  obtain ⟨i0, hi, hz0, hz1, hz2⟩ := info_parts info31
  have hwr : IntKind.i64.wrap (n : Int) = (n : Int) := by rw [IntKind.wrap_i64]; omega
  have hnc : Builtin.nextslicecap n 0 = n := by unfold Builtin.nextslicecap; rw [if_pos (by omega)]
  have h1 : ¬ ((n : Int) < 0) := by omega
  have h2 : ¬ ((281474976710656 : Int) < (n : Int) * 24) := by omega
  have h5 : ¬ (281474976710656 < n * 24) := by omega
  have h6 : ¬ (n = 0) := by omega
  have hge := grownCap_ge w n 0 31
  have hcm : grownCap w n 0 31 ≤ maxLen := grownCap_le_maxLen w n 0 31 (by simp only [maxLen]; omega)
  refine ⟨grownCap w n 0 31, (w.alloc (.cells (Builtin.zeroCells #[.int .u32 0, .string ⟨#[]⟩] n ++ Builtin.zeroCells #[.int .u32 0, .string ⟨#[]⟩] (grownCap w n 0 31 - n)) 31)).drew, ?_, hge, ⟨rfl, .inr ⟨w.heap.size, _, _, rfl, Nat.le_refl _, heap_alloc_new w _, by omega, hcm, ?_, rfl⟩⟩, ⟨rfl, rfl, rfl, by simp, fun k hk _ => Below.heap_alloc w _ k hk⟩⟩
  · simp [Builtin.append_, run_underlying Try.underlying22, run_underlying Try.underlying3, sizeOf, typeInfo, hi, hz1, hz2, go_sem, hwr, hnc, h1, h2, h5, h6]
    rw [if_neg (by omega), if_neg (by omega)]
    rfl
  · simp only [Array.size_append, zeroCells_size]
    simp
    omega
theorem cell_two (w : World) (u v : Value) (t : TypeId) : (w.alloc (.cells #[u, v] t)).cell? ⟨w.heap.size, 0, none⟩ = some u ∧ (w.alloc (.cells #[u, v] t)).cell? ⟨w.heap.size, 1, none⟩ = some v := by
  constructor <;> (rw [cell_of_row _ _ _ _ _ _ (heap_alloc_new w _)]; rfl)
set_option maxRecDepth 100000 in
set_option maxHeartbeats 1000000 in
theorem grow_any (n : Nat) (hn : n ≤ 1000) (w : World) :
    Calls Try.prog 29 #[.slice none 0 0, .int .i64 (n : Int)] w fun e w' => ∃ v, e = .returned v ∧ w'.ownsRow w.heap.size 31 2 v 0 [] ∧ Below w.heap.size w w' := by
  have g1 : (0 : Int) ≤ (n : Int) := by omega
  have g2 : (n : Int) ≤ 1000 := by omega
  by_cases h0 : n = 0
  · subst h0
    go_enter Try.func29, Try.ntmps29
    go_wp2_with fail
    go_ret
    exact ⟨_, rfl, World.ownsRow_nil _ _ _ _, Below.refl _ _⟩
  · obtain ⟨cap, w1, hr, hc, ho, hg⟩ := run_grow n (by omega) hn w
    have g3 : (0 : Int) < (n : Int) := by omega
    have hh := run_head (some ⟨w.heap.size, 0, none⟩) n cap 0 w1 (by omega) (fun e => by cases e)
    have HO : Hid (w1.ownsRow w.heap.size 31 2 (.slice (some ⟨w.heap.size, 0, none⟩) 0 cap) 0 []) := ho
    have HB : Hid (Below w.heap.size w w1) := (Below.refl _ w).grown hg (Nat.le_refl _) (fun j e => by cases e)
    clear ho hg h0
    simp only [Int.natCast_zero] at hh
    go_enter Try.func29, Try.ntmps29
    go_wp2_with (at_builtin; refine list_append rfl 22 3 (.tmp 20) (.tmp 21) rfl (vs := .slice none 0 0) (vx := .int .i64 (n : Int)) rfl rfl hr ?_)
    go_ret
    exact ⟨_, rfl, HO.out, HB.out⟩
theorem underlying52' : Try.prog.underlying 52 = some (.slice 22) := by kernel_rfl
set_option maxRecDepth 100000 in
set_option maxHeartbeats 2000000 in
theorem concat_any (l m : List Ky) (o p : Option Addr) (c d q : Nat) (w : World) (hl : Ring w o c l) (hm : Ring w p d m) (hs : l.length + m.length ≤ 1000) {T : TypeId} {fr : Nat × Nat}
    (hq : w.heap[q]? = some (.cells #[.slice o l.length c, .slice p m.length d] T fr)) :
    Calls Try.prog 26 #[.slice (some ⟨q, 0, none⟩) 2 2] w fun e w' => ∃ o' c', e = .returned (.slice o' (l ++ m).length c') ∧ Ring w' o' c' (l ++ m) ∧ Below w.heap.size w w' := by
  have n0 : (0 : Int) ≤ (l.length : Int) := by omega
  have n1 : (0 : Int) ≤ (m.length : Int) := by omega
  have n2 : (l.length : Int) + (m.length : Int) ≤ 1000 := by omega
  have HL : Hid (Ring w o c l) := hl
  have HM : Hid (Ring w p d m) := hm
  have HQ : Hid _ := hq
  clear hl hm hq
  have hql : q < w.heap.size := (Array.getElem?_eq_some_iff.1 HQ.out).1
  have HC : Hid (∀ W, Below w.heap.size w W → W.cell? ⟨q, 0, none⟩ = some (.slice o l.length c) ∧ W.cell? ⟨q, 1, none⟩ = some (.slice p m.length d)) := fun W hB => by
    have := (hB.block q hql).trans HQ.out
    exact ⟨by rw [cell_of_row _ _ _ _ _ _ this]; rfl, by rw [cell_of_row _ _ _ _ _ _ this]; rfl⟩
  go_enter Try.func26, Try.ntmps26
  go_wp2_with fail
  go_loopw [3, 11] (fun z i wr => ∃ k : Nat, k ≤ 2 ∧ i = .int .i64 (k : Int) ∧ z = .int .i64 (if k = 0 then 0 else if k = 1 then (l.length : Int) else (l.length : Int) + (m.length : Int)) ∧ wr = w) (fun _ i _ => 2 - natOf i)
  case atStart => exact ⟨0, by omega, rfl, rfl, rfl⟩
  case round =>
    obtain ⟨k, hk, rfl, rfl, hwr⟩ := hrel
    replace hwr := hwr.symm
    subst hwr
    obtain ⟨c0, c1⟩ := HC.out _ (Below.refl _ _)
    rcases (by omega : k = 0 ∨ k = 1 ∨ k = 2) with rfl | rfl | rfl
    · go_wp2_with fail
      exact ⟨⟨1, by omega, rfl, rfl, trivial⟩, by simp [natOf]⟩
    · go_wp2_with fail
      exact ⟨⟨2, by omega, rfl, rfl, trivial⟩, by simp [natOf]⟩
    · clear c0 c1
      rw [show (if (2 : Nat) = 0 then (0 : Int) else if (2 : Nat) = 1 then (l.length : Int) else (l.length : Int) + (m.length : Int)) = ((l.length + m.length : Nat) : Int) by simp]
      generalize hsum : l.length + m.length = n at *
      have HSUM : Hid (l.length + m.length = n) := hsum
      clear hsum n2
      go_wp2_with fail
      refine (grow_any n hs w).mono ?_
      rintro e w1 ⟨v1, rfl, ho1, b1⟩
      have HO1 : Hid (w1.ownsRow w.heap.size 31 2 v1 0 []) := ho1
      have B1 : Hid (Below w.heap.size w w1) := b1
      clear ho1 b1
      go_wp2_with fail
      go_loopw [6, 27] (fun v i wr => ∃ k : Nat, k ≤ 2 ∧ i = .int .i64 (k : Int) ∧ (∃ out : List Ky, (out = if k = 0 then [] else if k = 1 then l else l ++ m) ∧ wr.ownsRow w.heap.size 31 2 v out.length (cellsOf out)) ∧ Below w.heap.size w wr) (fun _ i _ => 2 - natOf i)
      case atStart => exact ⟨0, by omega, rfl, ⟨[], rfl, HO1.out⟩, B1.out⟩
      case round =>
        obtain ⟨k, hk, rfl, ⟨out, hout, ho⟩, hb⟩ := hrel
        have HO : Hid (wr.ownsRow w.heap.size 31 2 u6 out.length (cellsOf out)) := ho
        have HB : Hid (Below w.heap.size w wr) := hb
        obtain ⟨c0, c1⟩ := HC.out wr hb
        have hlm := HSUM.out
        rcases (by omega : k = 0 ∨ k = 1 ∨ k = 2) with rfl | rfl | rfl
        · have hout' : out = [] := hout
          subst hout'
          obtain ⟨v5, W5, hr5, o5, g5⟩ := append_own wr w.heap.size _ u6 o c [] l ho hb.size (HL.out.below hb (Nat.le_refl _)) (by simp; omega)
          have O5 : Hid (W5.ownsRow w.heap.size 31 2 v5 l.length (cellsOf l)) := by refine (?_ : W5.ownsRow _ _ _ _ _ _); simpa using o5
          have B5 : Hid (Below w.heap.size w W5) := hb.grown g5 hb.size (fun j e => (ho.lt j e).1)
          clear o5 g5 ho hb hout
          go_wp2_with (at_builtin; refine list_append rfl 22 22 (.tmp 31) (.tmp 32) rfl (vs := u6) (vx := .slice o l.length c) rfl rfl hr5 ?_)
          exact ⟨⟨1, by omega, rfl, ⟨l, rfl, O5.out⟩, B5.out⟩, by simp [natOf]⟩
        · have hout' : out = l := hout
          subst hout'
          obtain ⟨v5, W5, hr5, o5, g5⟩ := append_own wr w.heap.size _ u6 p d out m ho hb.size (HM.out.below hb (Nat.le_refl _)) (by omega)
          have O5 : Hid (W5.ownsRow w.heap.size 31 2 v5 (out ++ m).length (cellsOf (out ++ m))) := by refine (?_ : W5.ownsRow _ _ _ _ _ _); simpa using o5
          have B5 : Hid (Below w.heap.size w W5) := hb.grown g5 hb.size (fun j e => (ho.lt j e).1)
          clear o5 g5 ho hb hout
          go_wp2_with (at_builtin; refine list_append rfl 22 22 (.tmp 31) (.tmp 32) rfl (vs := u6) (vx := .slice p m.length d) rfl rfl hr5 ?_)
          exact ⟨⟨2, by omega, rfl, ⟨_, rfl, O5.out⟩, B5.out⟩, by simp [natOf]⟩
        · have hout' : out = l ++ m := hout
          subst hout'
          obtain ⟨_, o6, c6, rfl, R6⟩ := ring_of_own ho
          have R6' : Hid (Ring wr o6 c6 (l ++ m)) := R6
          clear R6 ho hb hout c0 c1 HO
          go_wp2_with fail
          go_ret
          exact ⟨o6, c6, rfl, R6'.out, HB.out⟩
end Go.Proofs.Ytdgllokedcopjaa
