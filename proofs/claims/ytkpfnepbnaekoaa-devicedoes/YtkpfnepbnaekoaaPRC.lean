/- The document's own device: calls with a loop; two lists, the same or not. -/
import Derived.Test.YtkpfnepbnaekoaaPRB
import Derived.BigRegion
namespace Go.Proofs.Ytkpfnepbnaekoaa.Rd
open Go.RowKit
/-- The first k blocks flushed. -/
def flK (s : St) (k : Nat) : St := { s with tx := fun i => if i < k then holdS s i else s.tx i, pd := fun i => if i < k then none else s.pd i }
set_option maxRecDepth 100000 in
theorem flK_zero (s : St) : flK s 0 = s := by cases s; simp [flK]
set_option maxRecDepth 100000 in
theorem flK_none (s : St) (k : Nat) (h : s.pd k = none) : flK s (k + 1) = flK s k := by
  unfold flK
  congr 1
  · funext i
    by_cases h1 : i < k
    · rw [if_pos h1, if_pos (by omega)]
    · by_cases h2 : i = k
      · subst h2; rw [if_pos (by omega), if_neg (by omega)]; unfold holdS; rw [h]; rfl
      · rw [if_neg (by omega), if_neg (by omega)]
  · funext i
    by_cases h1 : i < k
    · rw [if_pos h1, if_pos (by omega)]
    · by_cases h2 : i = k
      · subst h2; rw [if_pos (by omega), if_neg (by omega), h]
      · rw [if_neg (by omega), if_neg (by omega)]
set_option maxRecDepth 100000 in
theorem flK_some (s : St) (k : Nat) (t : ByteArray) (h : s.pd k = some t) : flK s (k + 1) = { flK s k with tx := at' (flK s k).tx k t, pd := put (flK s k).pd k none } := by
  unfold flK
  congr 1
  · funext i
    unfold at'
    by_cases h2 : i = k
    · subst h2; rw [if_pos (by omega), if_pos rfl]; unfold holdS; rw [h]; rfl
    · rw [if_neg h2]
      by_cases h1 : i < k
      · rw [if_pos (by omega)]; simp [h1]
      · rw [if_neg (by omega)]; simp [h1]
  · funext i
    unfold put
    by_cases h2 : i = k
    · subst h2; rw [if_pos (by omega), if_pos rfl]
    · rw [if_neg h2]
      by_cases h1 : i < k
      · rw [if_pos (by omega)]; simp [h1]
      · rw [if_neg (by omega)]; simp [h1]
set_option maxRecDepth 100000 in
/-- A state that is the same on its blocks. -/
theorem Rf.all {w : World} {r : Nat} {x : Rp} {s s' : St} (h : Rf w r x s) (hn : s'.n = s.n) (h1 : ∀ i, i < s.n → s.tx i = s'.tx i) (h2 : ∀ i, i < s.n → pend s.pd i = pend s'.pd i) (h3 : s'.bad = s.bad) (h4 : rcells x s = rcells x s') : Rf w r x s' :=
  ⟨by rw [← h4]; exact h.self, by rw [hn]; exact h.rl.ext h1, by rw [hn]; exact h.rp.ext h2, by rw [hn, h3]; exact h.rb, h.n1, h.n2, h.n3, h.n4, h.n5, h.n6⟩
set_option maxRecDepth 100000 in
set_option maxHeartbeats 1000000 in
theorem rflush_any (r : Nat) (x : Rp) (s : St) (w : World) (h : Rf w r x s) (hk : Ok s) :
    Calls Try.prog 33 #[pt r] w fun e w' => e = .returned (.int .i64 (flushE s)) ∧ Rf w' r x (flushS s) ∧ But (Rv r x) w w' := by
  have HD : Hid (Rf w r x s) := h
  have HK : Hid (Ok s) := hk
  clear h hk
  go_enter Try.func33, Try.ntmps33
  go_wp2_with fail
  refine (rop_any r x s w HD.out HK.out).mono ?_
  rintro e w1 ⟨rfl, d1, b1⟩
  have D1 : Hid _ := d1
  have B1 : Hid _ := b1
  have K1 : Hid (Ok (opS s)) := opS_ok HK.out
  obtain ⟨ot, ob, op, on, _⟩ := opS_tx s
  have OT : Hid _ := ot
  have OP : Hid _ := op
  clear ot ob op
  cases ho : opOk s
  · have HE : Hid (flushE s = 71 ∧ flushS s = opS s) := by refine (?_ : flushE s = 71 ∧ flushS s = opS s); simp [flushE, flushS, ho]
    have hoe : opE s = 71 := by simp [opE, ho]
    rw [hoe]
    obtain ⟨c0, z0⟩ := d1.c0
    have n0 := K1.out.n0
    have q1 : (0 : Int) < ((opS s).n : Int) := by omega
    clear d1 b1 ho on
    generalize (opS s).n = n at *
    go_wp2_with fail
    refine wp_loop_rounds 1 ?_
    rw [rounds_succ]
    go_wp2_with fail
    go_ret
    exact ⟨by rw [HE.out.1]; rfl, by rw [HE.out.2]; exact D1.out, B1.out⟩
  · have HE : Hid (flushE s = 0 ∧ flushS s = { opS s with tx := holdS s, pd := fun _ => none }) := by refine (?_ : flushE s = 0 ∧ flushS s = { opS s with tx := holdS s, pd := fun _ => none }); simp [flushE, flushS, ho]
    have hoe : opE s = 0 := by simp [opE, ho]
    rw [hoe]
    have HO : Hid (∀ i, holdS (opS s) i = holdS s i) := fun i => by unfold holdS; rw [OT.out, OP.out]
    clear d1 b1 ho on
    generalize opS s = s1 at *
    go_wp2_with fail
    go_loopw [4] (fun iv wr => ∃ (k : Nat), iv = .int .i64 (k : Int) ∧ k ≤ s1.n ∧ Rf wr r x (flK s1 k) ∧ But (Rv r x) w wr) (fun iv _ => s1.n - natOf iv)
    case atStart => exact ⟨0, rfl, by omega, by rw [flK_zero]; exact D1.out, B1.out⟩
    case round =>
      obtain ⟨k, rfl, hkn, hf, hb⟩ := hrel
      obtain ⟨c0, z0⟩ := hf.c0
      obtain ⟨c1, z1⟩ := hf.c1
      have HF : Hid _ := hf
      have HB : Hid _ := hb
      have n1 := K1.out.n1
      have hnn : (flK s1 k).n = s1.n := rfl
      rw [hnn] at c0 c1
      clear hf hb hnn
      by_cases hlt : k < s1.n
      · have q1 : (k : Int) < (s1.n : Int) := by omega
        have q0 : (0 : Int) ≤ (k : Int) := by omega
        obtain ⟨e0, y0⟩ := HF.out.rl.cell k hlt
        obtain ⟨e1, y1⟩ := HF.out.rp.cell k hlt
        have hpk : pend (flK s1 k).pd k = (s1.pd k).getD ⟨#[]⟩ := by unfold pend flK; simp
        rw [hpk] at e1
        clear hpk
        cases hp : s1.pd k with
        | none =>
          rw [hp] at e1
          simp only [Option.getD_none] at e1
          have HN : Hid _ := flK_none s1 k hp
          clear hp
          go_wp2_with fail
          go_roundw
          case rel => exact ⟨k + 1, by go_num, by omega, by rw [HN.out]; exact HF.out, HB.out⟩
          case measure => simp [natOf]; omega
        | some t =>
          rw [hp] at e1
          simp only [Option.getD_some] at e1
          have hz := nonempty_of (K1.out.pd k t hp).2
          have HN : Hid _ := flK_some s1 k t hp
          have hx4 := HF.out.n4
          have hx1 := HF.out.n1
          have hx2 := HF.out.n2
          have H1 : Hid _ := HF.out.setL k hlt t
          have HD1 : Hid (Rf (wr.setCell ⟨x.l, k, none⟩ (.string t)).drew r x { flK s1 k with tx := at' (flK s1 k).tx k t }) := H1.out.1.same fun _ _ => rfl
          have H2 : Hid _ := HD1.out.dropP k hlt
          have BD : Hid (But (Rv r x) (wr.setCell ⟨x.l, k, none⟩ (.string t)) (wr.setCell ⟨x.l, k, none⟩ (.string t)).drew) := ⟨rfl, rfl, rfl, Nat.le_refl _, fun _ _ _ => rfl⟩
          clear hp
          go_wp2_with fail
          go_region
          obtain ⟨c1', z1'⟩ : (wr.setCell ⟨x.l, k, none⟩ (.string t)).drew.cell? ⟨r, 1, none⟩ = some (.slice (some ⟨x.p, 0, none⟩) s1.n x.pc) ∧ _ := HD1.out.c1
          obtain ⟨e1', y1'⟩ := HD1.out.rp.cell k hlt
          go_wp2_with fail
          go_roundw
          case rel => exact ⟨k + 1, by go_num, by omega, by rw [HN.out]; exact H2.out.1, (HB.out.trans H1.out.2).trans (BD.out.trans H2.out.2)⟩
          case measure => simp [natOf]; omega
      · have q1 : ¬ (k : Int) < (s1.n : Int) := by omega
        have hk : k = s1.n := by omega
        have HKN : Hid (k = s1.n) := hk
        clear hk
        go_wp2_with fail
        go_ret
        refine ⟨by rw [HE.out.1]; rfl, ?_, HB.out⟩
        rw [HE.out.2]
        refine HF.out.all rfl (fun i hi => ?_) (fun i hi => ?_) rfl rfl
        · have hi' : i < s1.n := hi
          show (if i < k then holdS s1 i else s1.tx i) = holdS s i
          rw [if_pos (by rw [HKN.out]; exact hi'), HO.out]
        · have hi' : i < s1.n := hi
          show pend (fun i => if i < k then none else s1.pd i) i = pend (fun _ => none) i
          show (if i < k then none else s1.pd i).getD _ = _
          rw [if_pos (by rw [HKN.out]; exact hi')]
          rfl
/-- The first k blocks settled. -/
def wkK (s : St) (fs : List Int) (k : Nat) : St := { s with tx := fun i => if i < k then wakeTx s fs i else s.tx i, pd := fun i => if i < k then none else s.pd i }
set_option maxRecDepth 100000 in
theorem wkK_zero (s : St) (fs : List Int) : wkK s fs 0 = s := by cases s; simp [wkK]
set_option maxRecDepth 100000 in
theorem wkK_none (s : St) (fs : List Int) (k : Nat) (h : s.pd k = none) : wkK s fs (k + 1) = wkK s fs k := by
  unfold wkK
  congr 1
  · funext i
    by_cases h1 : i < k
    · rw [if_pos h1, if_pos (by omega)]
    · by_cases h2 : i = k
      · subst h2; rw [if_pos (by omega), if_neg (by omega)]; unfold wakeTx; rw [h]
      · rw [if_neg (by omega), if_neg (by omega)]
  · funext i
    by_cases h1 : i < k
    · rw [if_pos h1, if_pos (by omega)]
    · by_cases h2 : i = k
      · subst h2; rw [if_pos (by omega), if_neg (by omega), h]
      · rw [if_neg (by omega), if_neg (by omega)]
set_option maxRecDepth 100000 in
theorem wkK_some (s : St) (fs : List Int) (k : Nat) (t : ByteArray) (h : s.pd k = some t) : wkK s fs (k + 1) = { wkK s fs k with tx := at' (wkK s fs k).tx k (wakeTx s fs k), pd := put (wkK s fs k).pd k none } := by
  unfold wkK
  congr 1
  · funext i
    unfold at'
    by_cases h2 : i = k
    · subst h2; rw [if_pos (by omega), if_pos rfl]
    · rw [if_neg h2]
      by_cases h1 : i < k
      · rw [if_pos (by omega)]; simp [h1]
      · rw [if_neg (by omega)]; simp [h1]
  · funext i
    unfold put
    by_cases h2 : i = k
    · subst h2; rw [if_pos (by omega), if_pos rfl]
    · rw [if_neg h2]
      by_cases h1 : i < k
      · rw [if_pos (by omega)]; simp [h1]
      · rw [if_neg (by omega)]; simp [h1]
set_option maxRecDepth 100000 in
theorem rank_le (f : Nat → Option ByteArray) (k : Nat) : rank f k ≤ k := by
  unfold rank
  refine Nat.le_trans (List.length_filter_le _ _) ?_
  simp
end Go.Proofs.Ytkpfnepbnaekoaa.Rd
