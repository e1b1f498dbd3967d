/- The reference's Cut, and Same. -/
import Derived.Test.YtpmdonigjljllaaI
namespace Go.Proofs.Ytpmdonigjljllaa
open Go.RowKit
theorem own_ge {W : World} {base n : Nat} {v : Value} {xs : List Value} (ho : W.ownsRow base 9 1 v n xs) : ∀ j, v.ownBlock = some j → base ≤ j := fun j e => (ho.lt j e).1
set_option maxRecDepth 100000 in
set_option maxHeartbeats 1000000 in
theorem refCut_any (s : ByteArray) (hs : s.size ≤ 5000) (w : World) :
    Calls Try.prog 16 #[.string s] w fun e w' => ∃ o cap, e = .returned (.slice o (cutS s).length cap) ∧ Strs w' o (cutS s) ∧ Below w.heap.size w w' := by
  have hN : nParts s ≤ 26 := by unfold nParts; omega
  go_enter Try.func16, Try.ntmps16
  go_wp2_with fail
  go_loopw [3, 4] (fun v i wr => ∃ k : Nat, k ≤ nParts s ∧ i = .int .i64 (198 * (k : Int)) ∧ wr.ownsRow w.heap.size 9 1 v (partsS s k).length ((partsS s k).map Value.string) ∧ Below w.heap.size w wr) (fun _ i _ => 198 * nParts s - natOf i)
  case atStart => exact ⟨0, by omega, rfl, World.ownsRow_nil _ _ _ _, Below.refl _ _⟩
  case round =>
    obtain ⟨k, hk, rfl, ho, hb⟩ := hrel
    have HK := nParts_lt s k
    by_cases hlt : k < nParts s
    · have h1 := HK.1 hlt
      have g0 : 198 * (k : Int) < (s.size : Int) := by omega
      have g1 : (0 : Int) ≤ 198 * (k : Int) := by omega
      have g2 : 198 * (k : Int) ≤ 5000 := by omega
      obtain ⟨v', W', hr5, ho5, hg5⟩ := app_strs wr w.heap.size _ (partsS s k) (part s k) ho (by rw [partsS_length]; omega) hb.size
      have hmn : (if 198 * (k : Int) + 198 < (s.size : Int) then 198 * (k : Int) + 198 else (s.size : Int)) = ((min (198 * k + 198) s.size : Nat) : Int) := by split <;> omega
      have hsl : (Instr.sliceAt 9 (.string s) (some (.int .i64 (198 * (k : Int)))) (some (.int .i64 ((min (198 * k + 198) s.size : Nat) : Int))) none).run Try.prog wr = .ok (.string (part s k)) wr := by
        have := run_mid s (198 * k) (min (198 * k + 198) s.size) (by omega) (by omega) wr
        rw [show ((198 * k : Nat) : Int) = 198 * (k : Int) by omega] at this
        exact this
      rw [← partsS_succ] at ho5
      have HO : Hid (W'.ownsRow w.heap.size 9 1 v' (partsS s (k + 1)).length ((partsS s (k + 1)).map Value.string)) := ho5
      have HB : Hid (Below w.heap.size w W') := (hb.trans ((below_new wr _).mono hb.size)).grown hg5 (by have := hb.size; simp; omega) (own_ge ho)
      obtain ⟨r, hr⟩ : ∃ r : Nat, min (198 * k + 198) s.size = r := ⟨_, rfl⟩
      rw [hr] at hmn hsl
      generalize part s k = x at *
      clear hr ho hb ho5 hg5 h1 HK
      go_wp2_with (first
        | (refine list_min rfl 3 3 (.tmp 15) (.tmp 17) rfl (p := (s.size : Int)) (q := 198 * (k : Int) + 198) rfl rfl hmn ?_)
        | (at_builtin; refine list_append rfl 28 28 (.tmp 11) (.tmp 20) rfl rfl rfl hr5 ?_))
      go_roundw
      case rel => exact ⟨k + 1, by omega, by go_num, HO.out, HB.out⟩
      case measure => simp [natOf]; omega
    · have hke : k = nParts s := by omega
      have g0 : ¬ 198 * (k : Int) < (s.size : Int) := by omega
      obtain ⟨o, cap, rfl, hst⟩ := strs_of_own ho
      rw [hke] at hst
      have HS : Hid (Strs wr o (partsS s (nParts s))) := hst
      have HL : Hid ((partsS s k).length = (cutS s).length) := by refine (?_ : (partsS s k).length = (cutS s).length); rw [hke]; rfl
      have HB : Hid (Below w.heap.size w wr) := hb
      generalize (partsS s k).length = len at *
      clear ho hb hst hke HK
      go_wp2_with fail
      go_ret
      exact ⟨o, ⟨cap, by rw [← HL.out]; rfl⟩, HS.out, HB.out⟩
theorem below_drewN (w : World) (n B : Nat) : Below B w (w.drewN n) := by
  induction n with
  | zero => exact Below.refl _ _
  | succ n ih => exact ih.drew
set_option maxRecDepth 100000 in
set_option maxHeartbeats 1000000 in
theorem same_true (l : List ByteArray) (hl : l.length ≤ 100000) (o p : Option Addr) (cap dap : Nat) (w : World) (hr : Strs w o l) (hs : Strs w p l) :
    Calls Try.prog 14 #[.slice o l.length cap, .slice p l.length dap] w fun e w' => e = .returned (.bool true) ∧ Below w.heap.size w w' := by
  have n0 : (0 : Int) ≤ (l.length : Int) := by omega
  have n1 : (l.length : Int) ≤ 100000 := by omega
  have HG : Hid (Strs w o l) := hr
  have HM : Hid (Strs w p l) := hs
  clear hr hs
  go_enter Try.func14, Try.ntmps14
  go_wp2_with fail
  go_loopw [5] (fun i wr => ∃ k : Nat, k ≤ l.length ∧ i = .int .i64 (k : Int) ∧ Below w.heap.size w wr) (fun i _ => l.length - natOf i)
  case atStart => exact ⟨0, by omega, rfl, Below.refl _ _⟩
  case round =>
    obtain ⟨k, hk, rfl, hb⟩ := hrel
    have HB : Hid (Below w.heap.size w wr) := hb
    by_cases hlt : k < l.length
    · have g0 : (k : Int) < (l.length : Int) := by omega
      have g1 : (0 : Int) ≤ (k : Int) := by omega
      have hne : l ≠ [] := by intro e; rw [e] at hlt; simp at hlt
      obtain ⟨b, rfl, hbl, hc⟩ := HG.out.below hb (Nat.le_refl _) hne
      obtain ⟨b', rfl, hbl', hc'⟩ := HM.out.below hb (Nat.le_refl _) hne
      have c1 := hc k hlt
      have d1 := hc' k hlt
      generalize sat l k = x at *
      clear hc hc' hb
      go_wp2_with fail
      go_quiet (fail)
      have BQ : Hid (Below w.heap.size w (wr.drewN nq)) := HB.out.trans (below_drewN _ _ _)
      rename_i K1 h1 K2 h2 K3 h3
      refine h3 _ _ ?_
      clear c1 d1
      generalize wr.drewN nq = wq at *
      go_wp2_with fail
      go_roundw
      case rel => exact ⟨k + 1, by omega, by go_num, BQ.out⟩
      case measure => simp [natOf]; omega
    · have g0 : ¬ (k : Int) < (l.length : Int) := by omega
      clear hb
      go_wp2_with fail
      go_ret
      exact ⟨rfl, HB.out⟩
end Go.Proofs.Ytpmdonigjljllaa
