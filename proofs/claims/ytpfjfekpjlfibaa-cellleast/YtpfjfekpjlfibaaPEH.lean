/- The reference: Least. -/
import Derived.Test.YtpfjfekpjlfibaaPCQ
namespace Go.Proofs.Ytpfjfekpjlfibaa.Rc
open Go.RowKit Go.Lib
/-- Has the cell of that level both points? -/
def lst (x y u v k : Nat) : Bool := hasS (flr x k) (flr y k) (k : Int) x y && hasS (flr x k) (flr y k) (k : Int) u v
set_option maxRecDepth 100000 in
theorem flr_big {x k : Nat} (hk : k ≤ 31) (h : flr x k < 2147483648) : x < 2147483648 := by
  have := flr_end hk h (flr_down x (Nat.le_refl k))
  have := flr_lt x k
  omega
set_option maxRecDepth 100000 in
theorem lst_iff {x y u v k : Nat} (hx : x < 4294967296) (hy : y < 4294967296) (hu : u < 4294967296) (hv : v < 4294967296) (hk : k ≤ 31) : lst x y u v k = true ↔ onS x y = true ∧ onS u v = true ∧ lvl x y u v ≤ k := by
  unfold lst onS
  rw [Bool.and_eq_true, decide_eq_true_iff, decide_eq_true_iff, lvl_iff x y u v k hx hy hu hv]
  unfold hasS
  rw [decide_eq_true_iff, decide_eq_true_iff, rightS_nat, Int.toNat_natCast]
  constructor
  · rintro ⟨⟨c, _, _⟩, _, h1, h2⟩
    have h3 := c.x31; have h4 := c.y31
    exact ⟨⟨flr_big hk h3, flr_big hk h4⟩, ⟨flr_big hk (by rw [h1]; exact h3), flr_big hk (by rw [h2]; exact h4)⟩, h1.symm, h2.symm⟩
  · rintro ⟨⟨h1, h2⟩, _, h3, h4⟩
    have c : Cl (flr x k) (flr y k) k := ⟨hk, Nat.lt_of_le_of_lt (flr_le _ _) h1, Nat.lt_of_le_of_lt (flr_le _ _) h2, flr_down _ (Nat.le_refl _), flr_down _ (Nat.le_refl _)⟩
    exact ⟨⟨c, rfl, rfl⟩, c, h3.symm, h4.symm⟩
set_option maxHeartbeats 2000000 in
set_option maxRecDepth 100000 in
theorem eLeast_any (x y u v : Nat) (hx : x < 4294967296) (hy : y < 4294967296) (hu : u < 4294967296) (hv : v < 4294967296) (w : World) :
    Calls Try.prog 26 #[.int .u32 (x : Int), .int .u32 (y : Int), .int .u32 (u : Int), .int .u32 (v : Int)] w fun e w' => e = .returned (qv (leas x y u v)) ∧ Below w.heap.size w w' := by
  have HL : Hid (∀ k, k ≤ 31 → (lst x y u v k = true ↔ onS x y = true ∧ onS u v = true ∧ lvl x y u v ≤ k)) := fun k hk => lst_iff hx hy hu hv hk
  have x64 := u64_in x (by omega)
  have y64 := u64_in y (by omega)
  go_enter Try.func26, Try.ntmps26
  go_wp2_with fail
  go_loopw [10] (fun i wr => ∃ k : Nat, k ≤ 32 ∧ i = .int .i64 (k : Int) ∧ wr.heap[w.heap.size]? = some (.cells #[.int .u32 0, .int .u32 0, .int .i64 0] 24 (0, 0)) ∧ Below w.heap.size w wr ∧ ∀ j, j < k → lst x y u v j = false) (fun i _ => 32 - natOf i)
  case atStart => exact ⟨0, by omega, rfl, heap_alloc_new w _, below_new w _, fun j hj => by omega⟩
  case round =>
    obtain ⟨k, hk, rfl, hc, hb, hj⟩ := hrel
    have HB : Hid (Below w.heap.size w wr) := hb
    have HC : Hid (wr.heap[w.heap.size]? = some (.cells #[.int .u32 0, .int .u32 0, .int .i64 0] 24 (0, 0))) := hc
    have HJ : Hid (∀ j, j < k → lst x y u v j = false) := hj
    have k1 : (k : Int) + 1 ≤ 9223372036854775807 := by omega
    have k0 : (0 : Int) ≤ (k : Int) := by omega
    have hl : w.heap.size < wr.heap.size := (Array.getElem?_eq_some_iff.1 hc).1
    clear hb hj hc
    by_cases h4 : k = 32
    · have q4 : ¬ (k : Int) ≤ 31 := by omega
      obtain ⟨z0, z1, z2, c0, c1, c2⟩ := cell_facts HC.out
      have HF : Hid (leas x y u v = (0, 0, 0, 2)) := by
        refine (?_ : leas x y u v = (0, 0, 0, 2))
        unfold leas
        rw [if_neg]
        rintro ⟨h1, h2⟩
        have h3 := HJ.out 31 (by omega)
        have h5 := h1; have h6 := h2
        unfold onS at h5 h6
        rw [decide_eq_true_iff] at h5 h6
        rw [(HL.out 31 (Nat.le_refl _)).2 ⟨h1, h2, lvl_le x y u v h5.1 h5.2 h6.1 h6.2⟩] at h3
        cases h3
      go_wp2_with fail
      obtain ⟨X3, B3⟩ := put_cell HC.out (.int .u32 0) (.int .u32 0) (.int .i64 0)
      exact bodyPost_ret (results_cl rfl _ _ w.heap.size 0 0 0 rfl X3) rfl ⟨by rw [HF.out]; rfl, HB.out.trans B3⟩
    · have q4 : (k : Int) ≤ 31 := by omega
      have h64 : IntKind.u64.wrap (k : Int) = (k : Int) := u64_in k (by omega)
      have hmin : min k 64 = k := by omega
      have fx : IntKind.u64.wrap ((x : Int) / 2 ^ k * 2 ^ k) % 4294967296 = (flr x k : Nat) := by
        have e : (x : Int) / 2 ^ k * 2 ^ k = (flr x k : Nat) := by unfold flr; simp
        have := flr_le x k
        rw [e, u64_in _ (by omega)]; omega
      have fy : IntKind.u64.wrap ((y : Int) / 2 ^ k * 2 ^ k) % 4294967296 = (flr y k : Nat) := by
        have e : (y : Int) / 2 ^ k * 2 ^ k = (flr y k : Nat) := by unfold flr; simp
        have := flr_le y k
        rw [e, u64_in _ (by omega)]; omega
      have lx := flr_le x k
      have ly := flr_le y k
      have H1 : Hid _ := eHas_any (flr x k) (flr y k) (k : Int) x y (by omega) (by omega) hx hy
      have H2 : Hid _ := eHas_any (flr x k) (flr y k) (k : Int) u v (by omega) (by omega) hu hv
      have HK : Hid (k ≤ 31) := by refine (?_ : k ≤ 31); omega
      have HS : Hid (lst x y u v k = (hasS (flr x k) (flr y k) (k : Int) x y && hasS (flr x k) (flr y k) (k : Int) u v)) := rfl
      have HT : Hid (lst x y u v k = true → leas x y u v = (flr x k, flr y k, (k : Int), 0)) := fun h => by
        obtain ⟨h1, h2, h3⟩ := (HL.out k HK.out).1 h
        have e : lvl x y u v = k := by
          refine Nat.le_antisymm h3 (Nat.le_of_not_lt fun hlt => ?_)
          have := HJ.out (lvl x y u v) hlt
          rw [(HL.out _ (by have := HK.out; omega)).2 ⟨h1, h2, Nat.le_refl _⟩] at this
          cases this
        unfold leas
        rw [if_pos ⟨h1, h2⟩, e]
      clear lx ly h4
      generalize flr x k = p at *
      generalize flr y k = q at *
      generalize hasS p q (k : Int) x y = r1 at *
      generalize hasS p q (k : Int) u v = r2 at *
      go_wp2_with fail
      refine (H1.out _).mono ?_
      rintro e w1 ⟨rfl, b1⟩
      have HB1 : Hid (Below w.heap.size w w1) := (HB.out.alloc (Nat.le_of_lt hl) _).trans (b1.mono (by simp; omega))
      have HC1 : Hid (w1.heap[w.heap.size]? = some (.cells #[.int .u32 0, .int .u32 0, .int .i64 0] 24 (0, 0))) := (b1.block _ (by simp; omega)).trans ((Below.heap_alloc _ _ _ hl).trans HC.out)
      have HG1 : Hid (w1.heap[wr.heap.size]? = some (.cells #[.int .u32 (p : Int), .int .u32 (q : Int), .int .i64 (k : Int)] 24 (0, 0))) := (b1.block _ (by simp)).trans (heap_alloc_new wr _)
      obtain ⟨d0, d1, d2⟩ := Cel.cells HG1.out
      have hl1 : wr.heap.size < w1.heap.size := (Array.getElem?_eq_some_iff.1 HG1.out).1
      clear b1
      go_wp2_with fail
      refine (H2.out _).mono ?_
      rintro e w2 ⟨rfl, b2⟩
      have HB2 : Hid (Below w.heap.size w w2) := HB1.out.trans (b2.mono (by omega))
      have HC2 : Hid (w2.heap[w.heap.size]? = some (.cells #[.int .u32 0, .int .u32 0, .int .i64 0] 24 (0, 0))) := (b2.block _ (by omega)).trans HC1.out
      have HG2 : Hid (w2.heap[wr.heap.size]? = some (.cells #[.int .u32 (p : Int), .int .u32 (q : Int), .int .i64 (k : Int)] 24 (0, 0))) := (b2.block _ hl1).trans HG1.out
      clear b2 d0 d1 d2 HC1 HG1
      have HR : Hid (lst x y u v k = false → ∃ i : Nat, i ≤ 32 ∧ Value.int .i64 ((k : Int) + 1) = .int .i64 (i : Int) ∧ w2.heap[w.heap.size]? = some (.cells #[.int .u32 0, .int .u32 0, .int .i64 0] 24 (0, 0)) ∧ Below w.heap.size w w2 ∧ ∀ j, j < i → lst x y u v j = false) := fun hw =>
        ⟨k + 1, by have := HK.out; omega, rfl, HC2.out, HB2.out, fun j hj => by
          by_cases e : j = k
          · subst e; exact hw
          · exact HJ.out j (by omega)⟩
      cases r1
      · have HN : Hid (lst x y u v k = false) := HS.out
        go_wp2_with fail
        go_roundw
        case rel => exact HR.out HN.out
        case measure => simp [natOf]; have := HK.out; omega
      · cases r2
        · have HN : Hid (lst x y u v k = false) := HS.out
          go_wp2_with fail
          go_roundw
          case rel => exact HR.out HN.out
          case measure => simp [natOf]; have := HK.out; omega
        · have HN : Hid (leas x y u v = (p, q, (k : Int), 0)) := HT.out HS.out
          obtain ⟨d0, d1, d2⟩ := Cel.cells HG2.out
          obtain ⟨z0, z1, z2, c0, c1, c2⟩ := cell_facts HC2.out
          go_wp2_with fail
          obtain ⟨X3, B3⟩ := put_cell HC2.out (.int .u32 (p : Int)) (.int .u32 (q : Int)) (.int .i64 (k : Int))
          exact bodyPost_ret (results_cl rfl _ _ w.heap.size p q k rfl X3) rfl ⟨by rw [HN.out]; rfl, HB2.out.trans B3⟩
end Go.Proofs.Ytpfjfekpjlfibaa.Rc
