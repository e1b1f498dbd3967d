/- CellSplits: the quarters of a cell have its points, each one of them. -/
import Derived.Test.YtpfjfekpjlfibaaPFH
import Derived.Test.YtpfjfekpjlfibaaPEG
namespace Go.Proofs.Ytpfjfekpjlfibaa.Rc
open Go.RowKit Go.Lib
/-- How many of the first quarters have the point. -/
def cnt (X Y : Nat) (L : Int) (x y : Nat) : Nat → Nat
  | 0 => 0
  | k + 1 => cnt X Y L x y k + (if wit X Y L x y k = true then 1 else 0)
set_option maxRecDepth 100000 in
theorem cnt_is (X Y : Nat) (L : Int) (x y : Nat) : ∀ k, k ≤ 4 → cnt X Y L x y k = if (hasS X Y L x y = true ∧ L ≠ 0) ∧ wq (L - 1).toNat x y < k then 1 else 0
  | 0, _ => by simp [cnt]
  | k + 1, hk => by
    rw [cnt, cnt_is X Y L x y k (by omega)]
    have h := wit_iff X Y L x y (k := k) (by omega)
    by_cases a : hasS X Y L x y = true ∧ L ≠ 0
    · by_cases b : wq (L - 1).toNat x y = k
      · rw [if_neg (by omega), if_pos (h.2 ⟨a, b⟩), if_pos ⟨a, by omega⟩]
      · rw [if_neg (c := wit X Y L x y k = true) (fun c => b (h.1 c).2)]
        by_cases c : wq (L - 1).toNat x y < k
        · rw [if_pos ⟨a, c⟩, if_pos ⟨a, by omega⟩]
        · rw [if_neg (fun d => c d.2), if_neg (by rintro ⟨_, d⟩; omega)]
    · rw [if_neg (fun c => a c.1), if_neg (fun c => a (h.1 c).1), if_neg (fun c => a c.1)]
set_option maxRecDepth 100000 in
theorem cnt_four (X Y : Nat) (L : Int) (x y : Nat) : cnt X Y L x y 4 = if hasS X Y L x y = true ∧ L ≠ 0 then 1 else 0 := by
  rw [cnt_is X Y L x y 4 (Nat.le_refl _)]
  have := wq_lt (L - 1).toNat x y
  by_cases a : hasS X Y L x y = true ∧ L ≠ 0
  · rw [if_pos ⟨a, this⟩, if_pos a]
  · rw [if_neg (fun c => a c.1), if_neg a]
set_option maxHeartbeats 4000000 in
set_option maxRecDepth 100000 in
theorem splits_walk (X Y : Nat) (L : Int) (x y : Nat) (hX : X < 4294967296) (hY : Y < 4294967296) (hx : x < 4294967296) (hy : y < 4294967296) (w : World) :
    Calls Try.prog 7 #[cv X Y L, .int .u32 (x : Int), .int .u32 (y : Int)] w fun e w' => e = .returned (.bool true) ∧ Below w.heap.size w w' := by
  have HQ : Hid (∀ (k : Nat) w, Calls Try.prog 21 #[cv X Y L, .int .i64 (k : Int)] w fun e w' => e = .returned (qv (quart X Y L (k : Int))) ∧ Below w.heap.size w w') := fun k w => quarter_any X Y L k hX hY w
  have HH : Hid (∀ (k : Nat) w, Calls Try.prog 17 #[cv (quart X Y L (k : Int)).1 (quart X Y L (k : Int)).2.1 (quart X Y L (k : Int)).2.2.1, .int .u32 (x : Int), .int .u32 (y : Int)] w fun e w' => e = .returned (.bool (hasS (quart X Y L (k : Int)).1 (quart X Y L (k : Int)).2.1 (quart X Y L (k : Int)).2.2.1 x y)) ∧ Below w.heap.size w w') := fun k w => has_any _ _ _ x y (quart_small X Y L k).1 (quart_small X Y L k).2 hx hy w
  have HW : Hid _ := where_any X Y L x y hX hY hx hy
  have HR : Hid _ := right_any X Y L hX hY
  have HC : Hid _ := has_any X Y L x y hX hY hx hy
  have HI : Hid (∀ k, k < 4 → wit X Y L x y k = true → wher X Y L x y = (k, 0)) := fun k hk h => by
    obtain ⟨h1, h2⟩ := (wit_iff X Y L x y hk).1 h
    unfold wher
    rw [if_pos h1, h2]
  have H4 : Hid _ := cnt_four X Y L x y
  have HN : Hid _ := ca_new X Y L w
  clear hX hY hx hy
  go_enter Try.func7, Try.ntmps7
  go_wp2_with fail
  refine (shown_any _).mono ?_
  rintro e w1 ⟨rfl, b1⟩
  have HB : Hid (CA w X Y L w1) := HN.out.next b1
  clear b1
  go_wp2_with fail
  go_loopw [8, 9] (fun n i wr => ∃ k : Nat, k ≤ 4 ∧ i = .int .i64 (k : Int) ∧ n = .int .i64 (cnt X Y L x y k : Int) ∧ CA w X Y L wr) (fun _ i _ => 4 - natOf i)
  case atStart => exact ⟨0, by omega, rfl, rfl, HB.out⟩
  case round =>
    obtain ⟨k, hk, rfl, rfl, hb⟩ := hrel
    replace HB : Hid (CA w X Y L wr) := hb
    obtain ⟨e0, e1, e2⟩ := hb.cel
    have hl := hb.one
    have k1 : (k : Int) + 1 ≤ 9223372036854775807 := by omega
    have k0 : (0 : Int) ≤ (k : Int) := by omega
    clear hb
    by_cases h4 : k = 4
    · subst h4
      have hno : rightS X Y L = false → hasS X Y L x y = false := fun h => hasS_no x y h
      have h4 := H4.out
      generalize cnt X Y L x y 4 = cn at *
      generalize rightS X Y L = r at *
      generalize hasS X Y L x y = rh at *
      cases r
      · have hz : cn = 0 := by rw [h4, hno rfl]; simp
        subst hz
        clear h4 hno H4
        go_wp2_with fail
        refine (HR.out _).mono ?_
        rintro e w2 ⟨rfl, b2⟩
        replace HB : Hid (CA w X Y L w2) := HB.out.next b2
        clear b2 e0 e1 e2
        go_wp2_with fail
        go_ret
        exact ⟨rfl, HB.out.bel⟩
      · by_cases q0 : L = 0
        · have hz : cn = 0 := by rw [h4, q0]; simp
          subst hz
          subst q0
          clear h4 hno H4
          go_wp2_with fail
          refine (HR.out _).mono ?_
          rintro e w2 ⟨rfl, b2⟩
          replace HB : Hid (CA w X Y 0 w2) := HB.out.next b2
          clear b2 e0 e1 e2
          obtain ⟨e0, e1, e2⟩ := HB.out.cel
          go_wp2_with fail
          go_ret
          exact ⟨rfl, HB.out.bel⟩
        · have hz : cn = if rh = true then 1 else 0 := by rw [h4]; simp [q0]
          clear h4 hno H4
          go_wp2_with fail
          refine (HR.out _).mono ?_
          rintro e w2 ⟨rfl, b2⟩
          replace HB : Hid (CA w X Y L w2) := HB.out.next b2
          clear b2 e0 e1 e2
          obtain ⟨e0, e1, e2⟩ := HB.out.cel
          cases rh
          · obtain rfl : cn = 0 := by simpa using hz
            clear hz
            go_wp2_with fail
            refine (HC.out _).mono ?_
            rintro e w3 ⟨rfl, b3⟩
            replace HB : Hid (CA w X Y L w3) := HB.out.next b3
            clear b3 e0 e1 e2
            go_wp2_with fail
            go_ret
            exact ⟨rfl, HB.out.bel⟩
          · obtain rfl : cn = 1 := by simpa using hz
            clear hz
            go_wp2_with fail
            refine (HC.out _).mono ?_
            rintro e w3 ⟨rfl, b3⟩
            replace HB : Hid (CA w X Y L w3) := HB.out.next b3
            clear b3 e0 e1 e2
            go_wp2_with fail
            go_ret
            exact ⟨rfl, HB.out.bel⟩
    · have q4 : (k : Int) < 4 := by omega
      have HK4 : Hid (k < 4) := by refine (?_ : k < 4); omega
      have HWk : Hid (wit X Y L x y k = (decide ((quart X Y L (k : Int)).2.2.2 = 0) && hasS (quart X Y L (k : Int)).1 (quart X Y L (k : Int)).2.1 (quart X Y L (k : Int)).2.2.1 x y)) := rfl
      have HQk : Hid _ := HQ.out k
      have HHk : Hid _ := HH.out k
      have hcs : cnt X Y L x y (k + 1) = cnt X Y L x y k + (if wit X Y L x y k = true then 1 else 0) := rfl
      have HCS : Hid (cnt X Y L x y (k + 1) = cnt X Y L x y k + (if wit X Y L x y k = true then 1 else 0)) := hcs
      have hcle : cnt X Y L x y k ≤ 1 := by rw [cnt_is X Y L x y k (by omega)]; split <;> omega
      clear h4 hcs
      generalize quart X Y L (k : Int) = p at *
      obtain ⟨px, py, pl, pe⟩ := p
      simp only at HWk HHk
      generalize hcn : cnt X Y L x y k = cn at *
      clear hcn
      have c0 : (0 : Int) ≤ (cn : Int) := by omega
      have c1 : (cn : Int) + 1 ≤ 9223372036854775807 := by omega
      go_wp2_with fail
      refine (HQk.out _).mono ?_
      rintro e w2 ⟨rfl, b2⟩
      replace HB : Hid (CA w X Y L w2) := HB.out.next b2
      have hl2 := HB.out.one
      clear b2 e0 e1 e2 hl
      have HNX : Hid (∀ (c : Nat) (W : World), CA w X Y L W → cnt X Y L x y (k + 1) = c → ∃ i : Nat, i ≤ 4 ∧ Value.int .i64 ((k : Int) + 1) = .int .i64 (i : Int) ∧ Value.int .i64 (c : Int) = .int .i64 (cnt X Y L x y i : Int) ∧ CA w X Y L W) := fun c W h1 h2 =>
        ⟨k + 1, by have := HK4.out; omega, rfl, by rw [h2], h1⟩
      by_cases he : pe = 0
      · subst he
        go_wp2_with fail
        refine (HHk.out _).mono ?_
        rintro e w3 ⟨rfl, b3⟩
        replace HB : Hid (CA w X Y L w3) := (HB.out.next (below_new w2 _)).next b3
        obtain ⟨e0, e1, e2⟩ := HB.out.cel
        clear b3 hl2
        generalize hasS px py pl x y = r at *
        cases r
        · have HF : Hid (cnt X Y L x y (k + 1) = cn) := by refine (?_ : cnt X Y L x y (k + 1) = cn); rw [HCS.out, HWk.out]; rfl
          go_wp2_with fail
          go_roundw
          case rel => exact HNX.out cn _ HB.out HF.out
          case measure => simp [natOf]; have := HK4.out; omega
        · have HF : Hid (cnt X Y L x y (k + 1) = cn + 1) := by refine (?_ : cnt X Y L x y (k + 1) = cn + 1); rw [HCS.out, HWk.out]; rfl
          have HE : Hid (wher X Y L x y = (k, 0)) := HI.out k HK4.out HWk.out
          have HWW : Hid _ := HW.out
          rw [HE.out] at HWW
          go_wp2_with fail
          refine (HWW.out _).mono ?_
          rintro e w4 ⟨rfl, b4⟩
          replace HB : Hid (CA w X Y L w4) := HB.out.next b4
          clear b4 e0 e1 e2
          go_wp2_with fail
          go_roundw
          case rel => exact HNX.out (cn + 1) _ HB.out HF.out
          case measure => simp [natOf]; have := HK4.out; omega
      · have q5 : (pe == 0) = false := by simp [he]
        have HF : Hid (cnt X Y L x y (k + 1) = cn) := by refine (?_ : cnt X Y L x y (k + 1) = cn); rw [HCS.out, HWk.out, decide_eq_false he]; rfl
        clear he
        go_wp2_with fail
        go_roundw
        case rel => exact HNX.out cn _ (HB.out.next (below_new w2 _)) HF.out
        case measure => simp [natOf]; have := HK4.out; omega
end Go.Proofs.Ytpfjfekpjlfibaa.Rc
