/- A Summer takes no more than there may be: the walk. -/
import Derived.Test.YtnijfadjacnchaaDoorR
import Derived.Deep.OwnRows
namespace Go.Proofs.YtnijfadjacnchaaDoor
open Go.RowKit Go.Lib
/-- So many bytes 0. -/
def zs (n : Nat) : ByteArray := strOfNums (List.replicate n 0)
theorem zs_size (n : Nat) : (zs n).size = n := by unfold zs; rw [strOfNums_size, List.length_replicate]
theorem zs_bt (n j : Nat) (hj : j < n) : bt (zs n) j = 0 := by
  unfold zs
  have h : ∀ j, (List.replicate n (0 : Int)).getD j 0 = 0 := fun j => by
    rw [List.getD_eq_getElem?_getD]
    by_cases h : j < n
    · simp [h]
    · simp [h]
  rw [bt_nums _ (fun j => by rw [h]; decide) j (by simpa using hj), h]
/-- So many bytes are made and read as a text. -/
theorem list_zeros {ops : Array Oper} {rest : List Oper} {o o2 : Oper} {a : Act} {w : World} {Q : Exit → Act → World → Prop} (hgd : o.guard = none) (hgd2 : o2.guard = none) (x y : Operand) (ho : o.op = .makeSlice 25 x x) (ho2 : o2.op = .convert 25 9 y)
    (n : Nat) (hn : n ≤ 281474976710656) (hx : a.eval x = .int .i64 (n : Int)) (hy : (a.put o.dst (.slice (some ⟨w.heap.size, 0, none⟩) n n)).eval y = .slice (some ⟨w.heap.size, 0, none⟩) n n)
    (h : wpList Tryd.prog ops Q rest ((a.put o.dst (.slice (some ⟨w.heap.size, 0, none⟩) n n)).put o2.dst (.string (zs n))) (w.alloc (.cells (madeCells #[.int .u8 0] n) 5))) : wpList Tryd.prog ops Q (o :: o2 :: rest) a w :=
  wpList_plain hgd fun _ hK => by
    have hr := run_make_row' (P := Tryd.prog) 25 5 (.int .u8 0) 1 Tryd.underlying25 info5 rfl .i64 .i64 n (by omega) (by omega) w
    unfold Oper.wp execOp
    simp only [ho, Sem.run_bind, Sem.run_pure, Result.andThen_ok, hx, hr]
    refine hK _ _ ?_
    refine wpList_plain hgd2 fun _ hK2 => ?_
    have hc : (convert 25 9 (.slice (some ⟨w.heap.size, 0, none⟩) n n)).run Tryd.prog (w.alloc (.cells (madeCells #[.int .u8 0] n) 5)) = .ok (.string (zs n)) (w.alloc (.cells (madeCells #[.int .u8 0] n) 5)) := by
      refine run_convert_bytes_arg _ 25 5 Tryd.underlying25 Tryd.underlying5 w.heap.size 0 n n (List.replicate n 0) (by simp) (fun i hi => ?_) 9 Tryd.underlying9
      rw [cell_of_row _ _ _ _ _ _ (heap_alloc_new w _), Nat.zero_add]
      rw [← Array.getElem?_toList, toList_madeCells_one]
      simp [hi]
    unfold Oper.wp execOp
    simp only [ho2, Sem.run_bind, Sem.run_pure, Result.andThen_ok, hy, hc]
    exact hK2 _ _ h
theorem below_at {w w' : World} {o : Obj} (h : w.alloc o = w') : Below w.heap.size w w' := by rw [← h]; exact (Below.refl _ w).alloc (Nat.le_refl _) _
set_option maxHeartbeats 4000000 in
theorem full_walk (n : Int) (w : World) {tt : TypeId} {fr : Nat × Nat} (hK : w.heap[1]? = some (.cells (w64 (lf KL)) tt fr)) :
    Calls Tryd.prog 8 #[.int .i64 n] w fun e w' => e = .returned (.bool true) ∧ Below w.heap.size w w' := by
  have h1l : 1 < w.heap.size := (Array.getElem?_eq_some_iff.1 hK).1
  have HK : Hid (w.heap[1]? = some (.cells (w64 (lf KL)) tt fr)) := hK
  clear hK
  by_cases hn : n < 16700000 ∨ 17000000 < n
  · have g1 : decide (n < 16700000) = true ∨ (decide (n < 16700000) = false ∧ decide (17000000 < n) = true) := by simp; omega
    clear hn
    rcases g1 with g1 | ⟨g1, g2⟩
    · go_enter Tryd.func8, Tryd.ntmps8
      go_wp2_with fail
      refine (shown_any w HK.out).mono ?_
      rintro e w1 ⟨rfl, b1⟩
      have B1 : Hid (Below w.heap.size w w1) := b1
      clear b1
      go_wp2_with fail
      go_ret
      exact ⟨rfl, B1.out⟩
    · go_enter Tryd.func8, Tryd.ntmps8
      go_wp2_with fail
      refine (shown_any w HK.out).mono ?_
      rintro e w1 ⟨rfl, b1⟩
      have B1 : Hid (Below w.heap.size w w1) := b1
      clear b1
      go_wp2_with fail
      go_ret
      exact ⟨rfl, B1.out⟩
  · obtain ⟨k, rfl⟩ : ∃ k : Nat, n = (k : Int) := ⟨n.toNat, by omega⟩
    have k1 : 16700000 ≤ k := by omega
    have k2 : k ≤ 17000000 := by omega
    have g1 : decide ((k : Int) < 16700000) = false := by simp; omega
    have g2 : decide ((17000000 : Int) < (k : Int)) = false := by simp; omega
    have HZ : Hid (∀ j : Nat, 0 ≤ (0 : Int) ∧ (0 : Int) < 256) := fun _ => by decide
    have NA : Hid (∀ w, Calls Tryd.prog 14 #[] w fun e w' => ∃ g, w.heap.size ≤ g ∧ e = .returned (.pointer (some ⟨g, 0, none⟩)) ∧ w'.heap[g]? = some (.cells (sm (lf IV) (fun _ => 0) 0) 49 (0, 0)) ∧ Below w.heap.size w w') := new_any
    clear hn
    by_cases hk : 16777216 < k
    · have g3 : decide ((16777216 : Int) < (k : Int)) = true := by simp; omega
      go_enter Tryd.func8, Tryd.ntmps8
      go_wp2_with fail
      refine (shown_any w HK.out).mono ?_
      rintro e w1 ⟨rfl, b1⟩
      have B1 : Hid (Below w.heap.size w w1) := b1
      clear b1
      go_wp2_with fail
      refine (NA.out w1).mono ?_
      rintro e w2 ⟨g, hg, rfl, h2, b2⟩
      have G2 : Hid (w2.heap[g]? = some (.cells (sm (lf IV) (fun _ => 0) ((0 : Nat) : Int)) 49 (0, 0))) := h2
      have B2 : Hid (Below w.heap.size w w2) := B1.out.trans (b2.mono B1.out.size)
      have hgw : w.heap.size ≤ g := Nat.le_trans B1.out.size hg
      have hgl : g < w2.heap.size := (Array.getElem?_eq_some_iff.1 h2).1
      clear h2 b2 NA B1 hg
      go_wp2_with (refine list_zeros rfl rfl (.tmp 17) (.tmp 18) rfl rfl k (by omega) rfl rfl ?_)
      obtain ⟨w3, hw3⟩ : ∃ w3, w2.alloc (.cells (madeCells #[.int .u8 0] k) 5) = w3 := ⟨_, rfl⟩
      have b3 := below_at hw3
      have G3 : Hid (w3.heap[g]? = some (.cells (sm (lf IV) (fun _ => 0) ((0 : Nat) : Int)) 49 (0, 0))) := (b3.block g hgl).trans G2.out
      have B3 : Hid (Below w.heap.size w w3) := B2.out.trans (b3.mono B2.out.size)
      rw [hw3]
      clear hw3 b3 B2 G2
      refine (write_over g 0 (zs k) w3 G3.out (by omega) (by rw [zs_size]; omega)).mono ?_
      rintro e w4 ⟨rfl, h4⟩
      have h4' := h4.symm
      clear h4
      subst h4'
      go_wp2_with fail
      refine (len_any g w3 G3.out).mono ?_
      rintro e w4 ⟨rfl, h4⟩
      have h4' := h4.symm
      clear h4
      subst h4'
      go_wp2_with fail
      refine (sum_any (lf KL) (lf IV) (fun _ => 0) HZ.out g 0 w3 ((B3.out.block 1 h1l).trans HK.out) (by omega) ⟨_, G3.out, fun j hj => absurd hj (by omega)⟩).mono ?_
      rintro e w5 ⟨rfl, b5⟩
      have B5 : Hid (Below w.heap.size w w5) := B3.out.trans (b5.mono B3.out.size)
      have hD : dig (lf KL) (lf IV) (fun _ => 0) 0 = dig (lf KL) (lf IV) (bt ⟨#[]⟩) 0 := dig_congr (fun j hj => absurd hj (by omega))
      rw [hD]
      obtain ⟨D, hD0⟩ : ∃ D, strOfNums (dig (lf KL) (lf IV) (bt ⟨#[]⟩) 0) = D := ⟨_, rfl⟩
      have HD : Hid (strOfNums (dig (lf KL) (lf IV) (bt ⟨#[]⟩) 0) = D) := hD0
      rw [hD0]
      clear b5 B3 G3 hD hD0
      go_wp2_with fail
      refine (shaSum_any (lf KL) ⟨#[]⟩ w5 ((B5.out.block 1 h1l).trans HK.out) (by decide)).mono ?_
      rintro e w6 ⟨rfl, b6⟩
      have B6 : Hid (Below w.heap.size w w6) := B5.out.trans (b6.mono B5.out.size)
      rw [show (ByteArray.mk #[]).size = 0 from rfl, HD.out]
      clear b6 B5
      go_wp2_with fail
      go_ret
      exact ⟨rfl, B6.out⟩
    · have g3 : decide ((16777216 : Int) < (k : Int)) = false := by simp; omega
      obtain ⟨q, hq⟩ : ∃ q : Nat, q = 16777216 - k + 1 := ⟨_, rfl⟩
      have hq1 : (16777216 : Int) - (k : Int) + 1 = (q : Int) := by omega
      have hq2 : (16777216 : Int) - (k : Int) = (q : Int) - 1 := by omega
      have hq3 : q ≤ 77217 := by omega
      have HQ : Hid (q = 16777216 - k + 1) := hq
      have hk' : k ≤ 16777216 := by omega
      clear hq
      go_enter Tryd.func8, Tryd.ntmps8
      go_wp2_with fail
      refine (shown_any w HK.out).mono ?_
      rintro e w1 ⟨rfl, b1⟩
      have B1 : Hid (Below w.heap.size w w1) := b1
      clear b1
      go_wp2_with fail
      refine (NA.out w1).mono ?_
      rintro e w2 ⟨g, hg, rfl, h2, b2⟩
      have G2 : Hid (w2.heap[g]? = some (.cells (sm (lf IV) (fun _ => 0) ((0 : Nat) : Int)) 49 (0, 0))) := h2
      have B2 : Hid (Below w.heap.size w w2) := B1.out.trans (b2.mono B1.out.size)
      have hgw : w.heap.size ≤ g := Nat.le_trans B1.out.size hg
      have hgl : g < w2.heap.size := (Array.getElem?_eq_some_iff.1 h2).1
      clear h2 b2 NA B1 hg
      go_wp2_with (refine list_zeros rfl rfl (.tmp 17) (.tmp 18) rfl rfl k (by omega) rfl rfl ?_)
      obtain ⟨w3, hw3⟩ : ∃ w3, w2.alloc (.cells (madeCells #[.int .u8 0] k) 5) = w3 := ⟨_, rfl⟩
      have b3 := below_at hw3
      have T3 : Hid (Told (lf KL) (lf IV) (fun _ => 0) w3 g 0) := ⟨_, (b3.block g hgl).trans G2.out, fun j hj => absurd hj (by omega)⟩
      have B3 : Hid (Below w.heap.size w w3) := B2.out.trans (b3.mono B2.out.size)
      rw [hw3]
      clear hw3 b3 B2 G2
      refine (write_fits (lf KL) (lf IV) (fun _ => 0) HZ.out g 0 (zs k) w3 ((B3.out.block 1 h1l).trans HK.out) (by omega) (by rw [zs_size]; omega) T3.out (fun j hj => zs_bt k j (by rw [zs_size] at hj; exact hj))).mono ?_
      rintro e w4 ⟨rfl, h4, g4⟩
      have T4 : Hid (Told (lf KL) (lf IV) (fun _ => 0) w4 g k) := by rw [zs_size, Nat.zero_add] at h4; exact h4
      have B4 : Hid (Below w.heap.size w w4) := B3.out.grown g4 B3.out.size (fun k e => by cases e; exact hgw)
      clear h4 g4 B3 T3
      go_wp2_with (refine list_zeros rfl rfl (.tmp 42) (.tmp 43) rfl rfl q (by omega) rfl rfl ?_)
      obtain ⟨w5, hw5⟩ : ∃ w5, w4.alloc (.cells (madeCells #[.int .u8 0] q) 5) = w5 := ⟨_, rfl⟩
      have b5 := below_at hw5
      obtain ⟨r, h4, _⟩ := T4.out
      have G5 : Hid (w5.heap[g]? = some (.cells (sm (hs (lf KL) (lf IV) (fun _ => 0) (k / 64)) r (k : Int)) 49 (0, 0))) := (b5.block g (Array.getElem?_eq_some_iff.1 h4).1).trans h4
      have B5 : Hid (Below w.heap.size w w5) := B4.out.trans (b5.mono B4.out.size)
      rw [hw5]
      clear hw5 b5 B4 T4 h4
      refine (write_over g k (zs q) w5 G5.out hk' (by rw [zs_size, HQ.out]; omega)).mono ?_
      rintro e w6 ⟨rfl, h6⟩
      have h6' := h6.symm
      clear h6
      subst h6'
      go_wp2_with fail
      refine (len_any g w5 G5.out).mono ?_
      rintro e w6 ⟨rfl, h6⟩
      have h6' := h6.symm
      clear h6
      subst h6'
      go_wp2_with fail
      go_ret
      exact ⟨rfl, B5.out⟩
end Go.Proofs.YtnijfadjacnchaaDoor
