/- The reference: Where. -/
import Derived.Test.YtpfjfekpjlfibaaPCQ
namespace Go.Proofs.Ytpfjfekpjlfibaa.Rc
open Go.RowKit Go.Lib
/-- Is it that quarter? -/
def wit (X Y : Nat) (L : Int) (x y k : Nat) : Bool := decide ((quart X Y L (k : Int)).2.2.2 = 0) && hasS (quart X Y L (k : Int)).1 (quart X Y L (k : Int)).2.1 (quart X Y L (k : Int)).2.2.1 x y
set_option maxRecDepth 100000 in
theorem wit_iff (X Y : Nat) (L : Int) (x y : Nat) {k : Nat} (hk : k < 4) : wit X Y L x y k = true ↔ (hasS X Y L x y = true ∧ L ≠ 0) ∧ wq (L - 1).toNat x y = k := by
  unfold wit
  by_cases h : rightS X Y L = true ∧ L ≠ 0
  · obtain ⟨m, rfl, c⟩ := right_pos h.1 h.2
    rw [quart_yes c hk, pred_nat]
    simp only [decide_true, Bool.true_and]
    rw [c.in_quarter k hk]
    exact ⟨fun a => ⟨⟨a.1, h.2⟩, a.2⟩, fun a => ⟨a.1.1, a.2⟩⟩
  · rw [show quart X Y L (k : Int) = (0, 0, 0, 2) by unfold quart; rw [if_neg (fun a => h ⟨a.1, a.2.1⟩)]]
    constructor
    · intro a; simp at a
    · rintro ⟨⟨a, b⟩, _⟩; exact absurd ⟨hasS_right a, b⟩ h
set_option maxRecDepth 100000 in
theorem quart_small (X Y : Nat) (L i : Int) : (quart X Y L i).1 < 4294967296 ∧ (quart X Y L i).2.1 < 4294967296 := by
  by_cases h : rightS X Y L = true ∧ L ≠ 0 ∧ 0 ≤ i ∧ i ≤ 3
  · obtain ⟨m, rfl, c⟩ := right_pos h.1 h.2.1
    obtain ⟨k, rfl⟩ := Int.eq_ofNat_of_zero_le h.2.2.1
    have hk : k < 4 := by omega
    rw [quart_yes c hk]
    have q := c.quarter k hk
    have := q.x31; have := q.y31
    exact ⟨by simp only; omega, by simp only; omega⟩
  · rw [show quart X Y L i = (0, 0, 0, 2) by unfold quart; rw [if_neg h]]
    exact ⟨by decide, by decide⟩
set_option maxHeartbeats 2000000 in
set_option maxRecDepth 100000 in
theorem eWhere_any (X Y : Nat) (L : Int) (x y : Nat) (hX : X < 4294967296) (hY : Y < 4294967296) (hx : x < 4294967296) (hy : y < 4294967296) (w : World) :
    Calls Try.prog 24 #[cv X Y L, .int .u32 (x : Int), .int .u32 (y : Int)] w fun e w' => e = .returned (wv (wher X Y L x y)) ∧ Below w.heap.size w w' := by
  have HQ : Hid (∀ (k : Nat) w, Calls Try.prog 22 #[cv X Y L, .int .i64 (k : Int)] w fun e w' => e = .returned (qv (quart X Y L (k : Int))) ∧ Below w.heap.size w w') := fun k w => eQuarter_any X Y L k hX hY w
  have HH : Hid (∀ (k : Nat) w, Calls Try.prog 18 #[cv (quart X Y L (k : Int)).1 (quart X Y L (k : Int)).2.1 (quart X Y L (k : Int)).2.2.1, .int .u32 (x : Int), .int .u32 (y : Int)] w fun e w' => e = .returned (.bool (hasS (quart X Y L (k : Int)).1 (quart X Y L (k : Int)).2.1 (quart X Y L (k : Int)).2.2.1 x y)) ∧ Below w.heap.size w w') := fun k w => eHas_any _ _ _ x y (quart_small X Y L k).1 (quart_small X Y L k).2 hx hy w
  have HW : Hid (∀ k, k < 4 → (wit X Y L x y k = true ↔ (hasS X Y L x y = true ∧ L ≠ 0) ∧ wq (L - 1).toNat x y = k)) := fun k hk => wit_iff X Y L x y hk
  clear hX hY hx hy
  go_enter Try.func24, Try.ntmps24
  go_wp2_with fail
  go_loopw [8] (fun i wr => ∃ k : Nat, k ≤ 4 ∧ i = .int .i64 (k : Int) ∧ CelS w.heap.size X Y L wr ∧ Below w.heap.size w wr ∧ w.heap.size < wr.heap.size ∧ ∀ j, j < k → wit X Y L x y j = false) (fun i _ => 4 - natOf i)
  case atStart => exact ⟨0, by omega, rfl, cel_new X Y L w, below_new w _, by simp, fun j hj => by omega⟩
  case round =>
    obtain ⟨k, hk, rfl, hc, hb, hl, hj⟩ := hrel
    have HB : Hid (Below w.heap.size w wr) := hb
    have HJ : Hid (∀ j, j < k → wit X Y L x y j = false) := hj
    have k1 : (k : Int) + 1 ≤ 9223372036854775807 := by omega
    have k0 : (0 : Int) ≤ (k : Int) := by omega
    obtain ⟨e0, e1, e2⟩ := hc
    clear hb hj
    by_cases h4 : k = 4
    · have q4 : ¬ (k : Int) < 4 := by omega
      have HF : Hid (wher X Y L x y = (0, 2)) := by
        refine (?_ : wher X Y L x y = (0, 2))
        unfold wher
        rw [if_neg]
        intro h
        have := HJ.out (wq (L - 1).toNat x y) (by have := wq_lt (L - 1).toNat x y; omega)
        rw [(HW.out _ (wq_lt _ x y)).2 ⟨h, rfl⟩] at this
        cases this
      go_wp2_with fail
      exact bodyPost_ret (results_tmp2 rfl _ _ _) rfl ⟨by rw [HF.out]; rfl, HB.out⟩
    · have q4 : (k : Int) < 4 := by omega
      have HK4 : Hid (k < 4) := by refine (?_ : k < 4); omega
      have HWk : Hid (wit X Y L x y k = (decide ((quart X Y L (k : Int)).2.2.2 = 0) && hasS (quart X Y L (k : Int)).1 (quart X Y L (k : Int)).2.1 (quart X Y L (k : Int)).2.2.1 x y)) := rfl
      have HQk : Hid _ := HQ.out k
      have HHk : Hid _ := HH.out k
      clear h4
      generalize quart X Y L (k : Int) = p at *
      obtain ⟨px, py, pl, pe⟩ := p
      simp only at HWk HHk
      go_wp2_with fail
      refine (HQk.out _).mono ?_
      rintro e w1 ⟨rfl, b1⟩
      replace HB : Hid (Below w.heap.size w w1) := HB.out.trans (b1.mono (by omega))
      have HC : Hid (CelS w.heap.size X Y L w1 ∧ w.heap.size < w1.heap.size) := ⟨CelS.below ⟨e0, e1, e2⟩ b1 hl, Nat.lt_of_lt_of_le hl b1.size⟩
      clear b1 e0 e1 e2 hl
      go_wp2_with fail
      refine (HHk.out _).mono ?_
      rintro e w2 ⟨rfl, b2⟩
      replace HB : Hid (Below w.heap.size w w2) := (HB.out.alloc (Nat.le_of_lt HC.out.2) _).trans (b2.mono (by have := HC.out.2; simp; omega))
      replace HC : Hid (CelS w.heap.size X Y L w2 ∧ w.heap.size < w2.heap.size) := ⟨(HC.out.1.below (below_new w1 _) HC.out.2).below b2 (by have := HC.out.2; simp; omega), Nat.lt_of_lt_of_le (by have := HC.out.2; simp; omega) b2.size⟩
      clear b2
      have HR : Hid (wit X Y L x y k = false → ∃ i : Nat, i ≤ 4 ∧ Value.int .i64 ((k : Int) + 1) = .int .i64 (i : Int) ∧ CelS w.heap.size X Y L w2 ∧ Below w.heap.size w w2 ∧ w.heap.size < w2.heap.size ∧ ∀ j, j < i → wit X Y L x y j = false) := fun hw =>
        ⟨k + 1, by have := HK4.out; omega, rfl, HC.out.1, HB.out, HC.out.2, fun j hj => by
          by_cases e : j = k
          · subst e; exact hw
          · exact HJ.out j (by omega)⟩
      generalize hasS px py pl x y = r at *
      by_cases he : pe = 0
      · subst he
        cases r
        · have HN : Hid (wit X Y L x y k = false) := by refine (?_ : wit X Y L x y k = false); rw [HWk.out]; rfl
          go_wp2_with fail
          go_roundw
          case rel => exact HR.out HN.out
          case measure => simp [natOf]; omega
        · have HN : Hid (wher X Y L x y = (k, 0)) := by
            refine (?_ : wher X Y L x y = (k, 0))
            obtain ⟨h1, h2⟩ := (HW.out k HK4.out).1 (by rw [HWk.out]; rfl)
            unfold wher
            rw [if_pos h1, h2]
          go_wp2_with fail
          exact bodyPost_ret (results_tmp2 rfl _ _ _) rfl ⟨by rw [HN.out]; rfl, HB.out⟩
      · have q5 : (pe == 0) = false := by simp [he]
        have HN : Hid (wit X Y L x y k = false) := by refine (?_ : wit X Y L x y k = false); rw [HWk.out, decide_eq_false he]; rfl
        clear he
        go_wp2_with fail
        go_roundw
        case rel => exact HR.out HN.out
        case measure => simp [natOf]; omega
end Go.Proofs.Ytpfjfekpjlfibaa.Rc
