/- The sum of texts behind each other: the walk. -/
import Derived.Test.YtnijfadjacnchaaDoorSg
namespace Go.Proofs.YtnijfadjacnchaaDoor
open Go.RowKit Go.Lib
/-- The first so many texts, behind each other. -/
def catS (ts : Nat → ByteArray) : Nat → ByteArray
  | 0 => ⟨#[]⟩
  | j + 1 => catS ts j ++ ts j
theorem catS_size (ts : Nat → ByteArray) (n : Nat) : (catS ts n).size = offs ts n := by
  induction n with
  | zero => rfl
  | succ n ih => show (catS ts n ++ ts n).size = offs ts n + (ts n).size; rw [ByteArray.size_append, ih]
theorem catS_bt (ts : Nat → ByteArray) : ∀ n i, i < n → ∀ j, j < (ts i).size → bt (ts i) j = bt (catS ts n) (offs ts i + j) := by
  intro n
  induction n with
  | zero => intro i hi; omega
  | succ n ih =>
    intro i hi j hj
    show _ = bt (catS ts n ++ ts n) (offs ts i + j)
    rw [bt_app, catS_size]
    by_cases e : i = n
    · subst e
      rw [if_neg (by omega), show offs ts i + j - offs ts i = j by omega]
    · have h1 : offs ts (i + 1) ≤ offs ts n := offs_mono ts (by omega)
      have h2 : offs ts (i + 1) = offs ts i + (ts i).size := rfl
      rw [if_pos (by omega)]
      exact ih i (by omega) j hj
theorem catS_low (ts : Nat → ByteArray) (n j : Nat) (hj : j < offs ts n) : bt (catS ts n) j = bt (catS ts (n + 1)) j := by
  show _ = bt (catS ts n ++ ts n) j
  rw [bt_app, catS_size, if_pos hj]
set_option maxHeartbeats 4000000 in
theorem adds_walk (b off len cap : Nat) (ts : Nat → ByteArray) (hlc : len ≤ cap) (w : World) (hbw : b < w.heap.size)
    (hts : ∀ i, i < len → w.cell? ⟨b, off + i, none⟩ = some (.string (ts i)) ∧ (ts i).size ≤ 140737488355328) {tt tt' : TypeId} {fr fr' : Nat × Nat} (hT : w.heap[0]? = some (.cells (w64 (lf KL)) tt' fr')) (hK : w.heap[1]? = some (.cells (w64 (lf KL)) tt fr)) :
    Calls Tryd.prog 5 #[.slice (some ⟨b, off, none⟩) len cap] w fun e w' => e = .returned (.bool true) ∧ Below w.heap.size w w' := by
  have h1l : 1 < w.heap.size := (Array.getElem?_eq_some_iff.1 hK).1
  have HK : Hid (w.heap[1]? = some (.cells (w64 (lf KL)) tt fr)) := hK
  have HT : Hid (w.heap[0]? = some (.cells (w64 (lf KL)) tt' fr')) := hT
  have HTS : Hid (∀ i, i < len → w.cell? ⟨b, off + i, none⟩ = some (.string (ts i)) ∧ (ts i).size ≤ 140737488355328) := hts
  obtain ⟨n, hn, hn1, hn2⟩ : ∃ n : Nat, (if (20 : Int) < (len : Int) then (20 : Int) else (len : Int)) = (n : Int) ∧ n ≤ len ∧ n ≤ 20 := by
    by_cases h : 20 < len
    · exact ⟨20, by rw [if_pos (by omega)]; rfl, by omega, by omega⟩
    · exact ⟨len, by rw [if_neg (by omega)], by omega, by omega⟩
  have HN : Hid ((if (20 : Int) < (len : Int) then (20 : Int) else (len : Int)) = (n : Int)) := hn
  have n1 : (n : Int) ≤ (cap : Int) := by omega
  clear hK hT hts hn
  go_enter Tryd.func5, Tryd.ntmps5
  go_wp2_with fail
  refine (shown_any w HK.out).mono ?_
  rintro e w1 ⟨rfl, b1⟩
  have B1 : Hid (Below w.heap.size w w1) := b1
  clear b1
  go_wp2_with (refine list_min rfl 3 3 (.tmp 9) (.const (.int .i64 20)) rfl (p := (len : Int)) (q := 20) rfl rfl HN.out ?_)
  have CL : Hid (∀ i, i < n → w1.cell? ⟨b, off + i, none⟩ = some (.string (ts i)) ∧ (ts i).size ≤ 140737488355328) := fun i hi => ⟨(cell_same (B1.out.block b hbw) _).trans (HTS.out i (by omega)).1, (HTS.out i (by omega)).2⟩
  go_loopw [4, 5] (fun v i wr => ∃ j : Nat, j ≤ n ∧ v = .string (catS ts j) ∧ offs ts j ≤ 1000 ∧ i = .int .i64 (j : Int) ∧ wr = w1) (fun _ i _ => n - (intOf i).toNat)
  case atStart => exact ⟨0, by omega, rfl, by simp [offs], rfl, rfl⟩
  case round =>
    obtain ⟨j, hj, rfl, ho, rfl, hwr⟩ := hrel
    subst hwr
    have hcs := catS_size ts j
    obtain ⟨A, hA⟩ : ∃ A, catS ts j = A := ⟨_, rfl⟩
    have HA : Hid (catS ts j = A) := hA
    rw [hA] at hcs ⊢
    have j0 : (0 : Int) ≤ (j : Int) := by omega
    have hAs : (A.size : Int) ≤ 1000 := by omega
    clear hA
    by_cases hlt : j < n
    · have j1 : (j : Int) < (n : Int) := by omega
      obtain ⟨c1, c2⟩ := CL.out j hlt
      obtain ⟨T, hT⟩ : ∃ T, ts j = T := ⟨_, rfl⟩
      have HTj : Hid (ts j = T) := hT
      rw [hT] at c1 c2
      have hTs : (T.size : Int) ≤ 140737488355328 := by omega
      have HO : Hid (offs ts (j + 1) = A.size + T.size) := by rw [hcs, ← hT]; rfl
      clear hT
      by_cases hbig : 1000 < A.size + T.size
      · have g1 : (1000 : Int) < (A.size : Int) + (T.size : Int) := by omega
        go_wp2_with fail
        go_ret
        exact ⟨rfl, B1.out⟩
      · have g1 : (A.size : Int) + (T.size : Int) ≤ 1000 := by omega
        go_wp2_with fail
        go_roundw
        case rel => exact ⟨j + 1, hlt, by rw [← HTj.out, ← HA.out]; rfl, by rw [HO.out]; omega, by go_num, trivial⟩
        case measure => simp [intOf]; omega
    · obtain rfl : j = n := by omega
      have a0 : ¬ (j : Int) < (j : Int) := by omega
      go_wp2_with fail
      refine (add_any (lf KL) (bt A) (bt_range A) j cap (some ⟨b, off, none⟩) ts wr ((B1.out.block 1 h1l).trans HK.out) (by omega) (by omega) (fun i hi => ⟨⟨b, off, rfl, Nat.lt_of_lt_of_le hbw B1.out.size, (CL.out i hi).1⟩, fun k hk => by rw [← HA.out]; exact catS_bt ts j i hi k hk⟩)).mono ?_
      rintro e w2 ⟨rfl, b2⟩
      have B2 : Hid (Below w.heap.size w w2) := B1.out.trans (b2.mono B1.out.size)
      obtain ⟨D, hD⟩ : ∃ D, strOfNums (dig (lf KL) (lf IV) (bt A) A.size) = D := ⟨_, rfl⟩
      have HD : Hid (strOfNums (dig (lf KL) (lf IV) (bt A) A.size) = D) := hD
      rw [← hcs, hD]
      clear b2 B1 hD
      go_wp2_with fail
      refine (refSum_any (lf KL) A (by omega) _ ((B2.out.block 0 (by omega)).trans HT.out)).mono ?_
      rintro e w3 ⟨rfl, b3⟩
      have B3 : Hid (Below w.heap.size w w3) := B2.out.trans (b3.mono B2.out.size)
      rw [HD.out]
      clear b3 B2
      go_wp2_with fail
      go_ret
      exact ⟨rfl, B3.out⟩
set_option maxHeartbeats 4000000 in
theorem adds_nil (o : Option Addr) (w : World) {tt tt' : TypeId} {fr fr' : Nat × Nat} (hT : w.heap[0]? = some (.cells (w64 (lf KL)) tt' fr')) (hK : w.heap[1]? = some (.cells (w64 (lf KL)) tt fr)) :
    Calls Tryd.prog 5 #[.slice o 0 0] w fun e w' => e = .returned (.bool true) ∧ Below w.heap.size w w' := by
  have h1l : 1 < w.heap.size := (Array.getElem?_eq_some_iff.1 hK).1
  have HK : Hid (w.heap[1]? = some (.cells (w64 (lf KL)) tt fr)) := hK
  have HT : Hid (w.heap[0]? = some (.cells (w64 (lf KL)) tt' fr')) := hT
  clear hK hT
  go_enter Tryd.func5, Tryd.ntmps5
  go_wp2_with fail
  refine (shown_any w HK.out).mono ?_
  rintro e w1 ⟨rfl, b1⟩
  have B1 : Hid (Below w.heap.size w w1) := b1
  clear b1
  go_wp2_with (refine list_min rfl 3 3 (.tmp 9) (.const (.int .i64 20)) rfl (p := 0) (q := 20) (r := 0) rfl rfl (by decide) ?_)
  go_loopw [4, 5] (fun v i wr => v = .string ⟨#[]⟩ ∧ i = .int .i64 0 ∧ wr = w1) (fun _ _ _ => 0)
  case atStart => exact ⟨rfl, rfl, rfl⟩
  case round =>
    obtain ⟨rfl, rfl, hwr⟩ := hrel
    subst hwr
    go_wp2_with fail
    refine (add_any (lf KL) (bt ⟨#[]⟩) (bt_range _) 0 0 o (fun _ => ⟨#[]⟩) wr ((B1.out.block 1 h1l).trans HK.out) (by decide) (by decide) (fun i hi => absurd hi (by omega))).mono ?_
    rintro e w2 ⟨rfl, b2⟩
    have B2 : Hid (Below w.heap.size w w2) := B1.out.trans (b2.mono B1.out.size)
    obtain ⟨D, hD⟩ : ∃ D, strOfNums (dig (lf KL) (lf IV) (bt ⟨#[]⟩) 0) = D := ⟨_, rfl⟩
    have HD : Hid (strOfNums (dig (lf KL) (lf IV) (bt ⟨#[]⟩) 0) = D) := hD
    rw [show offs (fun _ => (⟨#[]⟩ : ByteArray)) 0 = 0 from rfl, hD]
    clear b2 B1 hD
    go_wp2_with fail
    refine (refSum_any (lf KL) ⟨#[]⟩ (by decide) _ ((B2.out.block 0 (by omega)).trans HT.out)).mono ?_
    rintro e w3 ⟨rfl, b3⟩
    have B3 : Hid (Below w.heap.size w w3) := B2.out.trans (b3.mono B2.out.size)
    rw [show (ByteArray.mk #[]).size = 0 from rfl, HD.out]
    clear b3 B2
    go_wp2_with fail
    go_ret
    exact ⟨rfl, B3.out⟩
end Go.Proofs.YtnijfadjacnchaaDoor
