/- pad.Pad and pad.Unpad. -/
import Derived.Test.YtheheaflebkipaaGreatDoorQYB
import Derived.OrdersHeld
namespace Go.Proofs.YtheheaflebkipaaGreatDoor.Rp
open Go.RowKit
set_option maxRecDepth 100000 in
set_option maxHeartbeats 1000000 in
theorem pad_any (s : ByteArray) (w : World) :
    Calls Tryz.prog 103 #[.string s] w fun e w' => e = .returned (.tuple #[.string (padV s), .int .i64 (padE s)]) ∧ Below w.heap.size w w' := by
  by_cases hs : s.size ≤ 198
  · have q : ¬ (198 : Int) < (s.size : Int) := by omega
    have HV : Hid (padV s = bodyS s ∧ padE s = 0) := by refine (?_ : padV s = bodyS s ∧ padE s = 0); simp [padV, padE, hs]
    have HS : Hid (s.size ≤ 198) := hs
    clear hs
    go_enter Tryz.func103, Tryz.ntmps103
    go_wp2_with fail
    refine (body_any s HS.out w).mono ?_
    rintro e w1 ⟨rfl, b1⟩
    generalize bodyS s = b at *
    go_wp2_with fail
    refine bodyPost_ret (results_tmp2 rfl _ _ _) rfl ?_
    exact ⟨by rw [HV.out.1, HV.out.2]; rfl, b1⟩
  · have q : (198 : Int) < (s.size : Int) := by omega
    have HV : Hid (padV s = ⟨#[]⟩ ∧ padE s = 50) := by refine (?_ : padV s = ⟨#[]⟩ ∧ padE s = 50); simp [padV, padE, hs]
    clear hs
    go_enter Tryz.func103, Tryz.ntmps103
    go_wp2_with fail
    refine bodyPost_ret (results_tmp2 rfl _ _ _) rfl ?_
    exact ⟨by rw [HV.out.1, HV.out.2]; rfl, Below.refl _ _⟩
set_option maxRecDepth 100000 in
/-- The text of a body, by its run. -/
theorem run_text (b : ByteArray) (n : Nat) (hb : b.size = 200) (hn : n ≤ 198) (w : World) : (Instr.sliceAt 9 (.string b) (some (.int .i64 2)) (some (.int .i64 (2 + (n : Int)))) none).run Tryz.prog w = .ok (.string (b.extract 2 (2 + n))) w := by
  have h1 : (2 : Int) + (n : Int) ≤ 200 := by omega
  simp [Instr.sliceAt, Instr.slice, run_underlying Tryz.underlying9, go_sem, hb]
  rw [if_pos (by omega), if_pos (by omega), show ((2 : Int) + (n : Int)).toNat = 2 + n by omega]
set_option maxRecDepth 100000 in
/-- Two bytes, the greater one first. -/
theorem or_bytes (x y : Int) (x0 : 0 ≤ x) (x1 : x < 256) (y0 : 0 ≤ y) (y1 : y < 256) : bits .or .i64 (x * 256) y = 256 * x + y := by
  obtain ⟨a, rfl⟩ := Int.eq_ofNat_of_zero_le x0
  obtain ⟨b, rfl⟩ := Int.eq_ofNat_of_zero_le y0
  have e1 : (BitVec.ofInt 64 ((a : Int) * 256)).toNat = 2 ^ 8 * a := by
    rw [show (a : Int) * 256 = ((2 ^ 8 * a : Nat) : Int) by omega, BitVec.ofInt_natCast, BitVec.toNat_ofNat]
    exact Nat.mod_eq_of_lt (by omega)
  have e2 : (BitVec.ofInt 64 (b : Int)).toNat = b := by
    rw [BitVec.ofInt_natCast, BitVec.toNat_ofNat]
    exact Nat.mod_eq_of_lt (by omega)
  have e3 : 2 ^ 8 * a ||| b = 2 ^ 8 * a + b := (Nat.two_pow_add_eq_or_of_lt (by omega) a).symm
  show IntKind.i64.wrap ((BitVec.ofInt 64 ((a : Int) * 256) ||| BitVec.ofInt 64 (b : Int)).toNat : Nat) = _
  rw [BitVec.toNat_or, e1, e2, e3, IntKind.wrap_i64]
  all_goals omega
set_option maxRecDepth 100000 in
set_option maxHeartbeats 1000000 in
theorem unpad_any (b : ByteArray) (w : World) :
    Calls Tryz.prog 132 #[.string b] w fun e w' => e = .returned (.tuple #[.string (unV b), .int .i64 (unE b)]) ∧ Below w.heap.size w w' := by
  by_cases hb : b.size = 200
  · have q : (b.size : Int) = 200 := by omega
    have HB : Hid (b.size = 200) := hb
    have i0 := idx_s b 0 (by omega)
    have i1 := idx_s b 1 (by omega)
    obtain ⟨a0, a1⟩ := bt_range b 0
    obtain ⟨c0, c1⟩ := bt_range b 1
    have hl := lenOf_cast b
    obtain ⟨x, hx⟩ : ∃ x, bt b 0 = x := ⟨_, rfl⟩
    obtain ⟨y, hy⟩ : ∃ y, bt b 1 = y := ⟨_, rfl⟩
    rw [hx] at i0 a0 a1 hl
    rw [hy] at i1 c0 c1 hl
    simp only [Int.natCast_zero, Int.natCast_one] at i0 i1
    have ho : bits .or .i64 (IntKind.i64.wrap (IntKind.i64.wrap x * 256)) (IntKind.i64.wrap y) = (lenOf b : Int) := by
      rw [show IntKind.i64.wrap x = x by rw [IntKind.wrap_i64]; omega, show IntKind.i64.wrap y = y by rw [IntKind.wrap_i64]; omega, show IntKind.i64.wrap (x * 256) = x * 256 by rw [IntKind.wrap_i64]; omega, or_bytes x y a0 a1 c0 c1, hl]
    obtain ⟨n, hn⟩ : ∃ n, lenOf b = n := ⟨_, rfl⟩
    have HN : Hid (lenOf b = n) := hn
    rw [hn] at ho
    have n0 : (n : Int) ≤ 65535 := by omega
    clear hb hx hy hl hn
    go_enter Tryz.func132, Tryz.ntmps132
    go_wp2_with fail
    refine wp_region_any (by kernel_rfl) ?_
    change wpAny _ _ _ _ _ _ _ (World.drew _)
    refine wpAny_take (i := 0) (v := ?_) rfl (by kernel_rfl) (by kernel_rfl) (by kernel_rfl) (fun _ _ _ h => h) (Or.inl ⟨by kernel_rfl, ?_⟩) ?_
    rotate_left
    · intro w
      go_simp
      try with_reducible rfl
    conv in (Act.put _ _ _) => simp only [List.getElem_toArray, List.getElem_cons_succ, List.getElem_cons_zero, Act.put, List.setIfInBounds_toArray, List.set_cons_succ, List.set_cons_zero]
    refine wpAny_take (i := 1) (v := ?_) rfl (by kernel_rfl) (by kernel_rfl) (by kernel_rfl) (fun _ _ _ h => h) (Or.inl ⟨by kernel_rfl, ?_⟩) ?_
    rotate_left
    · intro w
      go_simp
      try with_reducible rfl
    conv in (Act.put _ _ _) => simp only [List.getElem_toArray, List.getElem_cons_succ, List.getElem_cons_zero, Act.put, List.setIfInBounds_toArray, List.set_cons_succ, List.set_cons_zero]
    refine wpAny_take (i := 2) (v := ?_) rfl (by kernel_rfl) (by kernel_rfl) (by kernel_rfl) (fun _ _ _ h => h) (Or.inl ⟨by kernel_rfl, ?_⟩) ?_
    rotate_left
    · intro w
      go_simp
      try with_reducible rfl
    conv in (Act.put _ _ _) => simp only [List.getElem_toArray, List.getElem_cons_succ, List.getElem_cons_zero, Act.put, List.setIfInBounds_toArray, List.set_cons_succ, List.set_cons_zero]
    refine wpAny_take (i := 3) (v := ?_) rfl (by kernel_rfl) (by kernel_rfl) (by kernel_rfl) (fun _ _ _ h => h) (Or.inl ⟨by kernel_rfl, ?_⟩) ?_
    rotate_left
    · intro w
      go_simp
      try with_reducible rfl
    conv in (Act.put _ _ _) => simp only [List.getElem_toArray, List.getElem_cons_succ, List.getElem_cons_zero, Act.put, List.setIfInBounds_toArray, List.set_cons_succ, List.set_cons_zero]
    refine wpAny_take (i := 4) (v := ?_) rfl (by kernel_rfl) (by kernel_rfl) (by kernel_rfl) (fun _ _ _ h => h) (Or.inl ⟨by kernel_rfl, ?_⟩) ?_
    rotate_left
    · intro w
      go_simp
      try with_reducible rfl
    conv in (Act.put _ _ _) => simp only [List.getElem_toArray, List.getElem_cons_succ, List.getElem_cons_zero, Act.put, List.setIfInBounds_toArray, List.set_cons_succ, List.set_cons_zero]
    refine wpAny_take (i := 5) (v := ?_) rfl (by kernel_rfl) (by kernel_rfl) (by kernel_rfl) (fun _ _ _ h => h) (Or.inl ⟨by kernel_rfl, ?_⟩) ?_
    rotate_left
    · intro w
      go_simp
      try with_reducible rfl
    conv in (Act.put _ _ _) => simp only [List.getElem_toArray, List.getElem_cons_succ, List.getElem_cons_zero, Act.put, List.setIfInBounds_toArray, List.set_cons_succ, List.set_cons_zero]
    refine wpAny_take (i := 6) (v := ?_) rfl (by kernel_rfl) (by kernel_rfl) (by kernel_rfl) (fun _ _ _ h => h) (Or.inl ⟨by kernel_rfl, ?_⟩) ?_
    rotate_left
    · intro w
      go_simp
      try with_reducible rfl
    conv in (Act.put _ _ _) => simp only [List.getElem_toArray, List.getElem_cons_succ, List.getElem_cons_zero, Act.put, List.setIfInBounds_toArray, List.set_cons_succ, List.set_cons_zero]
    refine wpAny_take (i := 7) (v := ?_) rfl (by kernel_rfl) (by kernel_rfl) (by kernel_rfl) (fun _ _ _ h => h) (Or.inl ⟨by kernel_rfl, ?_⟩) ?_
    rotate_left
    · intro w
      go_simp
      try with_reducible rfl
    conv in (Act.put _ _ _) => simp only [List.getElem_toArray, List.getElem_cons_succ, List.getElem_cons_zero, Act.put, List.setIfInBounds_toArray, List.set_cons_succ, List.set_cons_zero]
    refine wpAny_ready (rs := [8]) (by kernel_rfl) (by simp) ?_
    refine (AllReady.cons rfl (fun K hK => ?_) AllReady.nil)
    go_simp
    refine hK _ _ ?_
    clear hK K
    refine wpAny_done (by kernel_rfl) ?_ _
    clear ho a0 a1 c0 c1 i0 i1
    by_cases hn : n ≤ 198
    · have hn' : ¬ (198 : Int) < (n : Int) := by omega
      have ht := run_text b n HB.out hn
      have HT : Hid (b.extract 2 (2 + n) = textOf b) := by refine (?_ : b.extract 2 (2 + n) = textOf b); unfold textOf; rw [HN.out]
      rw [HT.out] at ht
      have HS : Hid ((textOf b).size ≤ 198) := by refine (?_ : (textOf b).size ≤ 198); rw [textOf_size b HB.out (by rw [HN.out]; exact hn), HN.out]; exact hn
      have HI : Hid (isBody b = decide (bodyS (textOf b) = b)) := by
        refine (?_ : isBody b = decide (bodyS (textOf b) = b))
        unfold isBody
        rw [decide_eq_true HB.out, HN.out, decide_eq_true hn]; rfl
      obtain ⟨t, ht'⟩ : ∃ t, textOf b = t := ⟨_, rfl⟩
      have HTT : Hid (textOf b = t) := ht'
      rw [ht'] at ht HS HI
      clear hn HT ht'
      go_wp2_with fail
      refine (body_any t HS.out _).mono ?_
      rintro e w1 ⟨rfl, b1⟩
      have B1 : Hid (Below w.heap.size w w1) := ((Below.refl _ w).drew).trans b1
      obtain ⟨z, hz⟩ : ∃ z, bodyS t = z := ⟨_, rfl⟩
      rw [hz] at HI ⊢
      clear hz b1
      have he := toList_dec z b
      by_cases hzb : z = b
      · rw [decide_eq_true hzb] at he
        have HV : Hid (unV b = t ∧ unE b = 0) := by
          refine (?_ : unV b = t ∧ unE b = 0)
          have : isBody b = true := by rw [HI.out, decide_eq_true hzb]
          simp [unV, unE, this, HTT.out]
        clear hzb
        go_wp2_with fail
        refine bodyPost_ret (results_tmp2 rfl _ _ _) rfl ?_
        exact ⟨by rw [HV.out.1, HV.out.2]; rfl, B1.out⟩
      · rw [decide_eq_false hzb] at he
        have HV : Hid (unV b = ⟨#[]⟩ ∧ unE b = 50) := by
          refine (?_ : unV b = ⟨#[]⟩ ∧ unE b = 50)
          have : isBody b = false := by rw [HI.out, decide_eq_false hzb]
          simp [unV, unE, this]
        clear hzb
        go_wp2_with fail
        refine bodyPost_ret (results_tmp2 rfl _ _ _) rfl ?_
        exact ⟨by rw [HV.out.1, HV.out.2]; rfl, B1.out⟩
    · have hn' : (198 : Int) < (n : Int) := by omega
      have HV : Hid (unV b = ⟨#[]⟩ ∧ unE b = 50) := by
        refine (?_ : unV b = ⟨#[]⟩ ∧ unE b = 50)
        have : isBody b = false := by unfold isBody; rw [HN.out, decide_eq_false hn]; simp
        simp [unV, unE, this]
      clear hn
      go_wp2_with fail
      refine bodyPost_ret (results_tmp2 rfl _ _ _) rfl ?_
      exact ⟨by rw [HV.out.1, HV.out.2]; rfl, (Below.refl _ w).drew⟩
  · have q : ¬ (b.size : Int) = 200 := by omega
    have HV : Hid (unV b = ⟨#[]⟩ ∧ unE b = 50) := by
      refine (?_ : unV b = ⟨#[]⟩ ∧ unE b = 50)
      have : isBody b = false := by unfold isBody; rw [decide_eq_false hb]; rfl
      simp [unV, unE, this]
    clear hb
    go_enter Tryz.func132, Tryz.ntmps132
    go_wp2_with fail
    refine bodyPost_ret (results_tmp2 rfl _ _ _) rfl ?_
    exact ⟨by rw [HV.out.1, HV.out.2]; rfl, Below.refl _ _⟩
end Go.Proofs.YtheheaflebkipaaGreatDoor.Rp
/- PadBack: the walk. -/
namespace Go.Proofs.YtheheaflebkipaaGreatDoor.Rp
open Go.RowKit
set_option maxRecDepth 100000 in
theorem pad_short (s : ByteArray) (h : s.size ≤ 198) : padV s = bodyS s ∧ padE s = 0 := by simp [padV, padE, h]
set_option maxRecDepth 100000 in
theorem pad_long (s : ByteArray) (h : ¬ s.size ≤ 198) : padV s = ⟨#[]⟩ ∧ padE s = 50 := by simp [padV, padE, h]
end Go.Proofs.YtheheaflebkipaaGreatDoor.Rp
