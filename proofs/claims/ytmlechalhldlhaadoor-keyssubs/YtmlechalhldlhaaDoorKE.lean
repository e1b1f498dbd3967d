/- The reference's Right; the newest generation, told twice. -/
import Derived.Test.YtmlechalhldlhaaDoorKD
namespace Go.Proofs.YtmlechalhldlhaaDoor.Rk
open Go.RowKit
set_option maxRecDepth 100000 in
set_option maxHeartbeats 1000000 in
theorem refRight_any (l : List Ky) (o : Option Addr) (cap : Nat) (w : World) (hr : Ring w o cap l) :
    Calls Tryd.prog 15 #[.slice o l.length cap] w fun e w' => e = .returned (.bool (rightS l)) ∧ w' = w := by
  have n0 : (0 : Int) ≤ (l.length : Int) := by omega
  have n1 : (l.length : Int) ≤ 9223372036854775807 := by have := hr.1; have := hr.2.1; simp only [maxLen] at this; omega
  have HG : Hid (Ring w o cap l) := hr
  clear hr
  by_cases h16 : 16 < l.length
  · have q16 : (16 : Int) < (l.length : Int) := by omega
    have HE : Hid (rightS l = false) := by refine (?_ : rightS l = false); unfold rightS; rw [decide_eq_false (by omega)]; rfl
    go_enter Tryd.func15, Tryd.ntmps15
    go_wp2_with fail
    go_ret
    exact ⟨by rw [HE.out]; rfl, rfl⟩
  · have q16 : ¬ (16 : Int) < (l.length : Int) := by omega
    have HE : Hid (rightS l = rises 0 l) := by refine (?_ : rightS l = rises 0 l); unfold rightS; rw [decide_eq_true (by omega)]; rfl
    go_enter Tryd.func15, Tryd.ntmps15
    go_wp2_with fail
    go_loopw [3, 4] (fun v i wr => ∃ k : Nat, k ≤ l.length ∧ v = .int .u32 (lastG 0 (l.take k)) ∧ i = .int .i64 (k : Int) ∧ rises 0 (l.take k) = true ∧ wr = w) (fun _ i _ => l.length - natOf i)
    case atStart => exact ⟨0, by omega, rfl, rfl, rfl, rfl⟩
    case round =>
      obtain ⟨k, hk, rfl, rfl, hs, rfl⟩ := hrel
      have HS : Hid _ := hs
      by_cases hlt : k < l.length
      · have g0 : (k : Int) < (l.length : Int) := by omega
        have g1 : (0 : Int) ≤ (k : Int) := by omega
        have g2 : (k : Int) + 1 ≤ 9223372036854775807 := by omega
        obtain ⟨b, off, rfl, hbl, hc⟩ := HG.out.2.2.2 (by intro e; rw [e] at hlt; simp at hlt)
        obtain ⟨c1, c2⟩ := hc k hlt
        have ht := take_kat l k hlt
        have hla := lastG_take l k hlt
        have hsn : rises 0 (l.take (k + 1)) = (true && (decide (lastG 0 (l.take k) < (kat l k).1) && decide ((kat l k).2.size = 32))) := by rw [ht, rises_snoc, hs]
        generalize kat l k = gs at *
        obtain ⟨g, s⟩ := gs
        obtain ⟨a, ha⟩ : ∃ a, lastG 0 (l.take k) = a := ⟨_, rfl⟩
        rw [ha] at hsn ⊢
        have HL : Hid (lastG 0 (l.take (k + 1)) = g) := hla
        have HN : Hid (rises 0 (l.take (k + 1)) = (true && (decide (a < g) && decide (s.size = 32)))) := hsn
        clear ht hla hsn hc hs ha
        simp only at c1 c2
        by_cases hg : a < g
        · by_cases hs32 : s.size = 32
          · have q1 : ¬ g ≤ a := by omega
            have q2 : (s.size : Int) = 32 := by omega
            go_wp2_with fail
            go_roundw
            case rel => exact ⟨k + 1, by omega, by rw [HL.out], by go_num, by rw [HN.out]; simp [hg, hs32], by first | rfl | trivial⟩
            case measure => simp [natOf]; omega
          · have q1 : ¬ g ≤ a := by omega
            have q2 : ((s.size : Int) != 32) = true := by simp; omega
            have HS32 : Hid (¬ s.size = 32) := hs32
            clear hs32
            go_wp2_with fail
            go_ret
            exact ⟨by rw [HE.out, rises_take 0 l (k + 1) (by rw [HN.out]; simp [HS32.out])]; rfl, rfl⟩
        · have q1 : g ≤ a := by omega
          go_wp2_with fail
          go_ret
          exact ⟨by rw [HE.out, rises_take 0 l (k + 1) (by rw [HN.out, decide_eq_false (by omega : ¬ a < g)]; rfl)]; rfl, rfl⟩
      · have hke : k = l.length := by omega
        have g0 : ¬ (k : Int) < (l.length : Int) := by omega
        have HR : Hid (rises 0 l = true) := by have := HS.out; rw [hke, List.take_length] at this; exact this
        clear hke
        go_wp2_with fail
        go_ret
        exact ⟨by rw [HE.out, HR.out]; rfl, rfl⟩
end Go.Proofs.YtmlechalhldlhaaDoor.Rk
