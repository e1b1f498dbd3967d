/- PadTurns: the walk. -/
import Derived.Test.YtpmdonigjljllaaG
namespace Go.Proofs.Ytpmdonigjljllaa
open Go.RowKit
theorem run_head (b : ByteArray) (p : Nat) (h : p ≤ b.size) (w : World) : (Instr.sliceAt 9 (.string b) none (some (.int .i64 (p : Int))) none).run Try.prog w = .ok (.string (b.extract 0 p)) w := by
  have h1 : (p : Int) ≤ (b.size : Int) := by omega
  simp [Instr.sliceAt, Instr.slice, run_underlying Try.underlying9, go_sem]
  intro h
  omega
theorem run_tail (b : ByteArray) (p : Nat) (h : p ≤ b.size) (w : World) : (Instr.sliceAt 9 (.string b) (some (.int .i64 (p : Int))) none none).run Try.prog w = .ok (.string (b.extract p b.size)) w := by
  have h1 : (p : Int) ≤ (b.size : Int) := by omega
  simp [Instr.sliceAt, Instr.slice, run_underlying Try.underlying9, go_sem]
  intro h
  omega
/-- A text with another byte at a place. -/
theorem turned (b : ByteArray) (p : Nat) (hp : p < b.size) (c : Int) (h0 : 0 ≤ c) (h1 : c < 256) (hc : bt b p ≠ c) : b.extract 0 p ++ strOfNums [c] ++ b.extract (p + 1) b.size ≠ b := by
  intro e
  have h : bt (b.extract 0 p ++ strOfNums [c] ++ b.extract (p + 1) b.size) p = bt b p := by rw [e]
  have z : (b.extract 0 p).size = p := by rw [ext_size]; omega
  have z1 : (strOfNums [c]).size = 1 := by rw [strOfNums_size]; rfl
  rw [bt_app, ByteArray.size_append, z, z1, if_pos (by omega), bt_app, z, if_neg (by omega), Nat.sub_self] at h
  refine hc (h.symm.trans ?_)
  simp [bt, strOfNums]
  omega
set_option maxRecDepth 100000 in
set_option maxHeartbeats 1000000 in
theorem padTurns_run (s b t : ByteArray) (k : Nat) (e f c : Int) (P1 : PadIs s b e) (hk : k < b.size) (hb : b.size ≤ 200) (he : e = 0) (hc : bt b k ≠ c) (P2 : UnIs (b.extract 0 k ++ strOfNums [c] ++ b.extract (k + 1) b.size) t f)
    (hf : (f = 50 ∧ t = ⟨#[]⟩) ∨ (f = 0 ∧ t ≠ s)) (w : World) :
    Calls Try.prog 7 #[.string s, .int .i64 (k : Int), .int .u8 c] w fun e w' => e = .returned (.bool true) ∧ Below w.heap.size w w' := by
  have Q1 : Hid (PadIs s b e) := P1
  have Q2 : Hid (UnIs (b.extract 0 k ++ strOfNums [c] ++ b.extract (k + 1) b.size) t f) := P2
  have HF : Hid _ := hf
  clear P1 P2 hf
  subst he
  go_enter Try.func7, Try.ntmps7
  go_wp2_with fail
  refine (shown_any w).mono ?_
  rintro e w1 ⟨rfl, b1⟩
  have B1 : Hid (Below w.heap.size w w1) := b1
  clear b1
  go_wp2_with fail
  refine (Q1.out w1).mono ?_
  rintro e w2 ⟨rfl, b2⟩
  have B2 : Hid (Below w.heap.size w w2) := B1.out.trans (b2.mono B1.out.size)
  clear b2 B1 Q1
  have g0 : ¬ (k : Int) < 0 := by omega
  have g1 : ¬ (b.size : Int) ≤ (k : Int) := by omega
  have g2 : (k : Int) < (b.size : Int) := by omega
  have g3 : (0 : Int) ≤ (k : Int) := by omega
  have g4 : (k : Int) < 200 := by omega
  have hix := idx_s b k hk
  obtain ⟨x, hx⟩ : ∃ x, bt b k = x := ⟨_, rfl⟩
  rw [hx] at hix hc
  have hxc : (x == c) = false := by simpa using hc
  have g5 : ¬ b.size ≤ k := by omega
  clear hx hc
  have r1 := run_head b k (by omega)
  have r2 := run_tail b (k + 1) (by omega)
  rw [show ((k + 1 : Nat) : Int) = (k : Int) + 1 by omega] at r2
  obtain ⟨y1, hy1⟩ : ∃ y, b.extract 0 k = y := ⟨_, rfl⟩
  obtain ⟨y2, hy2⟩ : ∃ y, b.extract (k + 1) b.size = y := ⟨_, rfl⟩
  rw [hy1] at r1 Q2
  rw [hy2] at r2 Q2
  have z1 : y1.size ≤ 200 := by rw [← hy1, ext_size]; omega
  have z2 : y2.size ≤ 200 := by rw [← hy2, ext_size]; omega
  clear hy1 hy2
  have hwr : IntKind.i64.wrap ((k : Int) + 1) = (k : Int) + 1 := by rw [IntKind.wrap_i64]; omega
  go_wp2_with fail
  refine wp_region_any (by kernel_rfl) ?_
  change wpAny _ _ _ _ _ _ _ (World.drew _)
  refine wpAny_take (i := 0) (v := ?_) rfl (by kernel_rfl) (by kernel_rfl) (by kernel_rfl) (fun _ _ _ h => h) (Or.inl ⟨by kernel_rfl, ?_⟩) ?_
  rotate_left
  · intro w
    go_simp
    try with_reducible rfl
  conv in (Act.put _ _ _) => simp only [List.getElem_toArray, List.getElem_cons_succ, List.getElem_cons_zero, Act.put, List.setIfInBounds_toArray, List.set_cons_succ, List.set_cons_zero]
  refine wpAny_take (i := 1) (v := ?_) rfl (by kernel_rfl) (by kernel_rfl) (by kernel_rfl) (fun _ _ _ h => h) (Or.inl ⟨by kernel_rfl, ?_⟩) ?_
  rotate_left
  · intro w
    go_simp
    try with_reducible rfl
  conv in (Act.put _ _ _) => simp only [List.getElem_toArray, List.getElem_cons_succ, List.getElem_cons_zero, Act.put, List.setIfInBounds_toArray, List.set_cons_succ, List.set_cons_zero]
  refine wpAny_take (i := 2) (v := ?_) rfl (by kernel_rfl) (by kernel_rfl) (by kernel_rfl) (fun _ _ _ h => h) (Or.inl ⟨by kernel_rfl, ?_⟩) ?_
  rotate_left
  · intro w
    go_simp
    try with_reducible rfl
  conv in (Act.put _ _ _) => simp only [List.getElem_toArray, List.getElem_cons_succ, List.getElem_cons_zero, Act.put, List.setIfInBounds_toArray, List.set_cons_succ, List.set_cons_zero]
  refine wpAny_take (i := 3) (v := ?_) rfl (by kernel_rfl) (by kernel_rfl) (by kernel_rfl) (fun _ _ _ h => h) (Or.inl ⟨by kernel_rfl, ?_⟩) ?_
  rotate_left
  · intro w
    go_simp
    try with_reducible rfl
  conv in (Act.put _ _ _) => simp only [List.getElem_toArray, List.getElem_cons_succ, List.getElem_cons_zero, Act.put, List.setIfInBounds_toArray, List.set_cons_succ, List.set_cons_zero]
  refine wpAny_take (i := 7) (v := ?_) rfl (by kernel_rfl) (by kernel_rfl) (by kernel_rfl) (fun _ _ _ h => h) (Or.inl ⟨by kernel_rfl, ?_⟩) ?_
  rotate_left
  · intro w
    go_simp
    try with_reducible rfl
  conv in (Act.put _ _ _) => simp only [List.getElem_toArray, List.getElem_cons_succ, List.getElem_cons_zero, Act.put, List.setIfInBounds_toArray, List.set_cons_succ, List.set_cons_zero]
  refine wpAny_take (i := 8) (v := ?_) rfl (by kernel_rfl) (by kernel_rfl) (by kernel_rfl) (fun _ _ _ h => h) (Or.inl ⟨by kernel_rfl, ?_⟩) ?_
  rotate_left
  · intro w
    go_simp
    try with_reducible rfl
  conv in (Act.put _ _ _) => simp only [List.getElem_toArray, List.getElem_cons_succ, List.getElem_cons_zero, Act.put, List.setIfInBounds_toArray, List.set_cons_succ, List.set_cons_zero]
  refine wpAny_take (i := 9) (v := ?_) rfl (by kernel_rfl) (by kernel_rfl) (by kernel_rfl) (fun _ _ _ h => h) (Or.inl ⟨by kernel_rfl, ?_⟩) ?_
  rotate_left
  · intro w
    go_simp
    try with_reducible rfl
  conv in (Act.put _ _ _) => simp only [List.getElem_toArray, List.getElem_cons_succ, List.getElem_cons_zero, Act.put, List.setIfInBounds_toArray, List.set_cons_succ, List.set_cons_zero]
  refine wpAny_take (i := 10) (v := ?_) rfl (by kernel_rfl) (by kernel_rfl) (by kernel_rfl) (fun _ _ _ h => h) (Or.inl ⟨by kernel_rfl, ?_⟩) ?_
  rotate_left
  · intro w
    go_simp
    try with_reducible rfl
  conv in (Act.put _ _ _) => simp only [List.getElem_toArray, List.getElem_cons_succ, List.getElem_cons_zero, Act.put, List.setIfInBounds_toArray, List.set_cons_succ, List.set_cons_zero]
  refine wpAny_ready (rs := [4]) (by kernel_rfl) (by simp) ?_
  refine (AllReady.cons rfl (fun K hK => ?_) AllReady.nil)
  go_simp
  refine hK _ _ ?_
  clear hK K
  obtain ⟨w3, hw3⟩ : ∃ w3, (w2.alloc (.cells #[.int .u8 c] 5)).drew = w3 := ⟨_, rfl⟩
  have X3 : w3.heap[w2.heap.size]? = some (.cells #[.int .u8 c] 5 (0, 0)) := by rw [← hw3]; exact heap_alloc_new w2 _
  have B3 : Hid (Below w.heap.size w w3) := by rw [← hw3]; exact (B2.out.trans ((below_new w2 _).mono B2.out.size)).drew
  rw [hw3]
  have hcv : (convert 31 9 (.slice (some ⟨w2.heap.size, 0, none⟩) 1 1)).run Try.prog w3 = .ok (.string (strOfNums [c])) w3 := by
    refine run_convert_bytes_arg _ 31 5 Try.underlying31 Try.underlying5 w2.heap.size 0 1 1 _ rfl (fun i hi => ?_) 9 Try.underlying9
    rw [cell_of_row _ _ _ _ _ _ X3, Nat.zero_add]
    match i, hi with
    | 0, _ => rfl
  clear hw3 X3 B2 r1 r2 hwr hix
  have z3 : (strOfNums [c]).size = 1 := by rw [strOfNums_size]; rfl
  generalize strOfNums [c] = y3 at *
  have z4 : (y1 ++ y3).size ≤ 201 := by rw [ByteArray.size_append]; omega
  refine wpAny_ready (rs := [5]) (by kernel_rfl) (by simp) ?_
  refine (AllReady.cons rfl (fun K hK => ?_) AllReady.nil)
  go_simp
  refine hK _ _ ?_
  clear hK K
  clear hcv
  have u1 : ¬ 9223372036854775807 < y1.size + 1 := by omega
  refine wpAny_take (i := 6) (v := ?_) rfl (by kernel_rfl) (by kernel_rfl) (by kernel_rfl) (fun _ _ _ h => h) (Or.inl ⟨by kernel_rfl, ?_⟩) ?_
  rotate_left
  · intro w
    go_simp
    try with_reducible rfl
  conv in (Act.put _ _ _) => simp only [List.getElem_toArray, List.getElem_cons_succ, List.getElem_cons_zero, Act.put, List.setIfInBounds_toArray, List.set_cons_succ, List.set_cons_zero]
  generalize y1 ++ y3 = y4 at *
  have u2 : ¬ 9223372036854775807 < y4.size + y2.size := by omega
  clear u1 z3
  refine wpAny_take (i := 11) (v := ?_) rfl (by kernel_rfl) (by kernel_rfl) (by kernel_rfl) (fun _ _ _ h => h) (Or.inl ⟨by kernel_rfl, ?_⟩) ?_
  rotate_left
  · intro w
    go_simp
    try with_reducible rfl
  conv in (Act.put _ _ _) => simp only [List.getElem_toArray, List.getElem_cons_succ, List.getElem_cons_zero, Act.put, List.setIfInBounds_toArray, List.set_cons_succ, List.set_cons_zero]
  refine wpAny_ready (rs := [12]) (by kernel_rfl) (by simp) ?_
  refine (AllReady.cons rfl (fun K hK => ?_) AllReady.nil)
  go_simp
  refine (Q2.out w3).mono ?_
  rintro e w4 ⟨rfl, b4⟩
  have B4 : Hid (Below w.heap.size w w4) := B3.out.trans (b4.mono B3.out.size)
  clear b4 B3 Q2
  refine hK _ _ ?_
  clear hK K
  refine wpAny_take (i := 13) (v := ?_) rfl (by kernel_rfl) (by kernel_rfl) (by kernel_rfl) (fun _ _ _ h => h) (Or.inl ⟨by kernel_rfl, ?_⟩) ?_
  rotate_left
  · intro w
    go_simp
    try with_reducible rfl
  conv in (Act.put _ _ _) => simp only [List.getElem_toArray, List.getElem_cons_succ, List.getElem_cons_zero, Act.put, List.setIfInBounds_toArray, List.set_cons_succ, List.set_cons_zero]
  refine wpAny_take (i := 14) (v := ?_) rfl (by kernel_rfl) (by kernel_rfl) (by kernel_rfl) (fun _ _ _ h => h) (Or.inl ⟨by kernel_rfl, ?_⟩) ?_
  rotate_left
  · intro w
    go_simp
    try with_reducible rfl
  conv in (Act.put _ _ _) => simp only [List.getElem_toArray, List.getElem_cons_succ, List.getElem_cons_zero, Act.put, List.setIfInBounds_toArray, List.set_cons_succ, List.set_cons_zero]
  refine wpAny_take (i := 15) (v := ?_) rfl (by kernel_rfl) (by kernel_rfl) (by kernel_rfl) (fun _ _ _ h => h) (Or.inl ⟨by kernel_rfl, ?_⟩) ?_
  rotate_left
  · intro w
    go_simp
    try with_reducible rfl
  conv in (Act.put _ _ _) => simp only [List.getElem_toArray, List.getElem_cons_succ, List.getElem_cons_zero, Act.put, List.setIfInBounds_toArray, List.set_cons_succ, List.set_cons_zero]
  refine wpAny_ready (rs := [16]) (by kernel_rfl) (by simp) ?_
  refine (AllReady.cons rfl (fun K hK => ?_) AllReady.nil)
  go_simp
  refine hK _ _ ?_
  clear hK K
  refine wpAny_ready (rs := [17]) (by kernel_rfl) (by simp) ?_
  refine (AllReady.cons rfl (fun K hK => ?_) AllReady.nil)
  go_simp
  refine hK _ _ ?_
  clear hK K
  refine wpAny_done (by kernel_rfl) ?_ _
  rcases HF.out with ⟨rfl, rfl⟩ | ⟨rfl, ht⟩
  · clear HF
    go_wp2_with fail
    go_ret
    exact ⟨rfl, B4.out⟩
  · have hts : (t.toList == s.toList) = false := by rw [toList_dec]; simpa using ht
    clear HF ht
    go_wp2_with fail
    go_ret
    exact ⟨rfl, B4.out⟩
set_option maxRecDepth 100000 in
set_option maxHeartbeats 1000000 in
/-- Where nothing is turned. -/
theorem padTurns_none (s b : ByteArray) (e p c : Int) (P1 : PadIs s b e) (hn : e = 50 ∨ p < 0 ∨ (b.size : Int) ≤ p ∨ ∃ k : Nat, p = (k : Int) ∧ k < b.size ∧ bt b k = c) (he : e = 0 ∨ e = 50) (w : World) :
    Calls Try.prog 7 #[.string s, .int .i64 p, .int .u8 c] w fun e w' => e = .returned (.bool true) ∧ Below w.heap.size w w' := by
  have Q1 : Hid (PadIs s b e) := P1
  have HN : Hid _ := hn
  have HE : Hid _ := he
  clear P1 hn he
  go_enter Try.func7, Try.ntmps7
  go_wp2_with fail
  refine (shown_any w).mono ?_
  rintro e w1 ⟨rfl, b1⟩
  have B1 : Hid (Below w.heap.size w w1) := b1
  clear b1
  go_wp2_with fail
  refine (Q1.out w1).mono ?_
  rintro e w2 ⟨rfl, b2⟩
  have B2 : Hid (Below w.heap.size w w2) := B1.out.trans (b2.mono B1.out.size)
  clear b2 B1 Q1
  rcases HE.out with rfl | rfl
  · by_cases h0 : p < 0
    · clear HN HE
      go_wp2_with fail
      go_ret
      exact ⟨rfl, B2.out⟩
    · by_cases h1 : (b.size : Int) ≤ p
      · clear HN HE
        go_wp2_with fail
        go_ret
        exact ⟨rfl, B2.out⟩
      · rcases HN.out with h | h | h | ⟨k, rfl, hk, hc⟩
        · cases h
        · exact absurd h h0
        · exact absurd h h1
        · have hix := idx_s b k hk
          rw [hc] at hix
          have g5 : ¬ b.size ≤ k := by omega
          have g3 : (0 : Int) ≤ (k : Int) := by omega
          clear hc HN HE
          go_wp2_with fail
          go_ret
          exact ⟨rfl, B2.out⟩
  · clear HN HE
    go_wp2_with fail
    go_ret
    exact ⟨rfl, B2.out⟩
theorem padTurns_walk (s : ByteArray) (p c : Int) (hp : (Lit.int .u8 c).wf = true) (w : World) :
    Calls Try.prog 7 #[.string s, .int .i64 p, .int .u8 c] w fun e w' => e = .returned (.bool true) ∧ Below w.heap.size w w' := by
  have hcr : 0 ≤ c ∧ c < 256 := by
    simp only [Lit.wf, Bool.and_eq_true, decide_eq_true_eq] at hp
    exact ⟨hp.1, Int.lt_of_le_of_lt hp.2 (by decide)⟩
  by_cases hs : s.size ≤ 198
  · obtain ⟨e1, e2⟩ := pad_short s hs
    have P1 := padIs s
    rw [e1, e2] at P1
    have hz := body_size s
    by_cases hn : p < 0 ∨ ((bodyS s).size : Int) ≤ p
    · exact padTurns_none s _ _ p c P1 (by rcases hn with h | h; exact .inr (.inl h); exact .inr (.inr (.inl h))) (.inl rfl) w
    · obtain ⟨k, rfl⟩ := Int.eq_ofNat_of_zero_le (show 0 ≤ p by omega)
      have hk : k < (bodyS s).size := by omega
      by_cases hc : bt (bodyS s) k = c
      · exact padTurns_none s _ _ _ c P1 (.inr (.inr (.inr ⟨k, rfl, hk, hc⟩))) (.inl rfl) w
      · refine padTurns_run s (bodyS s) _ k 0 _ c P1 hk (by omega) rfl hc (unIs _) ?_ w
        have ht := turned (bodyS s) k hk c hcr.1 hcr.2 hc
        generalize (bodyS s).extract 0 k ++ strOfNums [c] ++ (bodyS s).extract (k + 1) (bodyS s).size = b at *
        cases h : isBody b
        · exact .inl ⟨(un_not b h).2, (un_not b h).1⟩
        · refine .inr ⟨(un_is b h).1, fun hu => ht ?_⟩
          have := (un_is b h).2.1
          rw [hu, e1] at this
          exact this.symm
  · obtain ⟨e1, e2⟩ := pad_long s hs
    have P1 := padIs s
    rw [e1, e2] at P1
    exact padTurns_none s _ _ p c P1 (.inl rfl) (.inr rfl) w
end Go.Proofs.Ytpmdonigjljllaa
