/- KeysLeft: the walk. -/
import Derived.Test.YtdgllokedcopjaaSd
namespace Go.Proofs.Ytdgllokedcopjaa
open Go.RowKit
set_option maxRecDepth 100000 in
set_option maxHeartbeats 4000000 in
theorem keysLeft_walk (l : List Ky) (o : Option Addr) (cap : Nat) (w : World) (hr : Ring w o cap l) :
    Calls Try.prog 7 #[.slice o l.length cap] w fun e w' => e = .returned (.bool true) ∧ Below w.heap.size w w' := by
  have HG : Hid (Ring w o cap l) := hr
  obtain ⟨m, hm30, CT⟩ := cut_named l o cap
  clear hr
  go_enter Try.func7, Try.ntmps7
  go_wp2_with fail
  refine (shown_any _).mono ?_
  rintro e w1 ⟨rfl, b1⟩
  have B1 : Hid (Below w.heap.size w w1) := b1
  clear b1
  go_wp2_with fail
  refine (CT.out w1 (HG.out.below B1.out (Nat.le_refl _))).1.mono ?_
  rintro e w2 ⟨rfl, rfl⟩
  have R2 : Hid (Ring w2 o cap m) := (CT.out _ (HG.out.below B1.out (Nat.le_refl _))).2
  clear CT HG
  go_wp2_with fail
  refine (right_any m o cap w2 R2.out).mono ?_
  rintro e w3 ⟨rfl, b3⟩
  have B3 : Hid (Below w.heap.size w w3) := B1.out.trans (b3.mono B1.out.size)
  have R3 : Hid (Ring w3 o cap m) := R2.out.below b3 (Nat.le_refl _)
  clear b3 B1 R2
  cases hR : rightS m
  · clear hR
    go_wp2_with fail
    go_ret
    exact ⟨rfl, B3.out⟩
  · have HR : Hid (rightS m = true) := hR
    have n0 : (0 : Int) ≤ (m.length : Int) := by omega
    have n1 : (m.length : Int) ≤ 30 := by omega
    clear hR
    go_wp2_with fail
    go_loopw [4, 5] (fun v i wr => ∃ (n : Nat) (om : Option Addr) (cm : Nat), n ≤ m.length ∧ i = .int .i64 (n : Int) ∧ v = .slice om (m.drop n).length cm ∧ Ring wr om cm (m.drop n) ∧ Ring wr o cap m ∧ Below w.heap.size w wr) (fun _ i _ => m.length - natOf i)
    case atStart => exact ⟨0, o, cap, by omega, rfl, rfl, R3.out, R3.out, B3.out⟩
    case round =>
      obtain ⟨n, om, cm, hn, rfl, rfl, hrm, hrl, hb⟩ := hrel
      have RM : Hid (Ring wr om cm (m.drop n)) := hrm
      have RL : Hid (Ring wr o cap m) := hrl
      have HB : Hid (Below w.heap.size w wr) := hb
      clear hrm hrl hb
      by_cases hlt : n < m.length
      · have HLF : Hid _ := left m n HR.out hlt
        have g0 : (n : Int) < (m.length : Int) := by omega
        have g1 : (0 : Int) ≤ (n : Int) := by omega
        have HLN : Hid ((m.drop n).length = m.length - n ∧ (m.drop (n + 1)).length = m.length - (n + 1)) := ⟨List.length_drop, List.length_drop⟩
        obtain ⟨d, hd⟩ : ∃ d, m.drop n = d := ⟨_, rfl⟩
        obtain ⟨d', hd'⟩ : ∃ d', m.drop (n + 1) = d' := ⟨_, rfl⟩
        have HD' : Hid (m.drop (n + 1) = d') := hd'
        rw [hd] at HLF HLN RM ⊢
        rw [hd'] at HLF HLN
        clear hd hd'
        obtain ⟨b, off, hob, hbl, hc⟩ := RL.out.2.2.2 (by intro e; rw [e] at hlt; simp at hlt)
        have HC : Hid (∀ W, Below wr.heap.size wr W → ∀ i, i < m.length → W.cell? ⟨b, off + i * 2, none⟩ = some (.int .u32 (kat m i).1)) := fun W hB i hi => ((hc i hi).same (hB.block b hbl)).1
        clear hc
        subst hob
        obtain ⟨x, hx⟩ : ∃ x, (kat m n).1 = x := ⟨_, rfl⟩
        obtain ⟨z, hz⟩ : ∃ z, (kat m (m.length - 1)).1 = z := ⟨_, rfl⟩
        rw [hx, hz] at HLF
        obtain ⟨p, hp⟩ : ∃ p, m.length - 1 = p := ⟨_, rfl⟩
        have HX : Hid (∀ W, Below wr.heap.size wr W → W.cell? ⟨b, off + n * 2, none⟩ = some (.int .u32 x) ∧ W.cell? ⟨b, off + p * 2, none⟩ = some (.int .u32 z)) := fun W hB => by
          have h1 := HC.out W hB n hlt
          have h2 := HC.out W hB (m.length - 1) (by omega)
          rw [hx] at h1
          rw [hz, hp] at h2
          exact ⟨h1, h2⟩
        have hpp : (m.length : Int) - 1 = (p : Int) := by omega
        have hp2 : p < m.length := by omega
        clear hx hz hp HC
        go_wp2_with fail
        refine (newest_any d om cm wr RM.out).mono ?_
        rintro e w4 ⟨rfl, b4⟩
        rw [HLF.out.1, HLF.out.2.1]
        have D4 : Hid (Below wr.heap.size wr w4) := b4
        have M4 : Hid (Ring w4 om cm d) := RM.out.below b4 (Nat.le_refl _)
        obtain ⟨c0, c1⟩ := HX.out w4 b4
        clear b4 RM
        go_wp2_with fail
        clear c0 c1
        refine (drop_any d x om cm w4 M4.out).mono ?_
        rintro e w5 ⟨o5, c5, rfl, r5, b5⟩
        rw [HLF.out.2.2.1] at r5 ⊢
        rw [HLF.out.2.2.2.1]
        have D5 : Hid (Below wr.heap.size wr w5) := D4.out.trans (b5.mono D4.out.size)
        have N5 : Hid (Ring w5 o5 c5 d') := r5
        obtain ⟨c0, c1⟩ := HX.out w5 D5.out
        clear b5 r5 D4 M4
        go_wp2_with fail
        clear c0 c1
        refine (find_any d' x o5 c5 w5 N5.out).mono ?_
        rintro e w6 ⟨rfl, b6⟩
        rw [HLF.out.2.2.2.2]
        have D6 : Hid (Below wr.heap.size wr w6) := D5.out.trans (b6.mono D5.out.size)
        have N6 : Hid (Ring w6 o5 c5 d') := N5.out.below b6 (Nat.le_refl _)
        obtain ⟨c0, c1⟩ := HX.out w6 D6.out
        clear b6 D5 N5
        generalize fkS d' x = kz
        obtain ⟨kg, ks⟩ := kz
        unfold kv
        have hl6 : b < w6.heap.size := Nat.lt_of_lt_of_le hbl D6.out.size
        have hln : ((d'.length : Int) != (d.length : Int) - 1) = false := by have := HLN.out; simp; omega
        have hdl : (d.length : Int) ≤ 30 := by have := HLN.out; omega
        have hd1 : (1 : Int) ≤ (d.length : Int) := by have := HLN.out; omega
        go_wp2_with fail
        have D7 : Below wr.heap.size wr (w6.alloc (.cells #[.int .u32 kg, .string ks] 31)) := D6.out.alloc D6.out.size _
        refine ⟨⟨n + 1, o5, c5, by omega, by go_num, by rw [HD'.out], by rw [HD'.out]; exact N6.out.below (below_new _ _) (Nat.le_refl _), RL.out.below D7 (Nat.le_refl _), HB.out.trans (D7.mono HB.out.size)⟩, by simp [natOf]; omega⟩
      · have g0 : ¬ (n : Int) < (m.length : Int) := by omega
        have hd0 : m.drop n = [] := List.drop_eq_nil_iff.2 (by omega)
        rw [hd0] at RM ⊢
        have HN : Hid (neS [] = 41) := rfl
        have HV : Hid (nvS [] = 0) := rfl
        clear hd0
        go_wp2_with fail
        refine (newest_any [] om cm wr RM.out).mono ?_
        rintro e w4 ⟨rfl, b4⟩
        rw [HN.out, HV.out]
        have B4 : Hid (Below w.heap.size w w4) := HB.out.trans (b4.mono HB.out.size)
        clear b4
        go_wp2_with fail
        go_ret
        exact ⟨rfl, B4.out⟩
end Go.Proofs.Ytdgllokedcopjaa
