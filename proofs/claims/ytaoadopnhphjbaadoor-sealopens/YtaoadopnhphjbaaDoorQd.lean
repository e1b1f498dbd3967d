/- The reference's Pad and Unpad. The reference's Unpad. -/
import Derived.Test.YtaoadopnhphjbaaDoorQy
namespace Go.Proofs.YtaoadopnhphjbaaDoor.Rp
open Go.RowKit
/-- The length of a text in a slot. -/
def sizeOfV : Value → Nat | .string s => s.size | _ => 0
/-- The text that is filled up. -/
def fillS (s : ByteArray) (k : Nat) : ByteArray := strOfNums (upto (bodyN s) k)
set_option maxRecDepth 100000 in
theorem fill_size (s : ByteArray) (k : Nat) : (fillS s k).size = k := by unfold fillS; rw [strOfNums_size, upto_length]
set_option maxRecDepth 100000 in
theorem fill_bt (s : ByteArray) (hs : s.size ≤ 198) (k j : Nat) (h : j < k) : bt (fillS s k) j = bodyN s j := by
  have := bodyN_range s hs j
  exact bt_str _ _ _ h this.1 this.2
set_option maxRecDepth 100000 in
theorem fill_more (s : ByteArray) (hs : s.size ≤ 198) (k : Nat) (h : s.size + 2 ≤ k) : fillS s k ++ ⟨#[0]⟩ = fillS s (k + 1) := by
  refine bt_same _ _ (by rw [ByteArray.size_append, fill_size, fill_size]; rfl) fun j hj => ?_
  rw [ByteArray.size_append, fill_size] at hj
  have hj' : j < k + 1 := hj
  rw [bt_app, fill_size, fill_bt s hs _ _ hj']
  by_cases e : j < k
  · rw [if_pos e, fill_bt s hs _ _ e]
  · obtain rfl : j = k := by omega
    rw [if_neg e, Nat.sub_self]
    unfold bodyN
    rw [if_neg (by omega), if_neg (by omega), bt_out s _ (by omega)]
    rfl
set_option maxRecDepth 100000 in
theorem fill_first (s : ByteArray) (hs : s.size ≤ 198) : strOfNums [((s.size / 256 : Nat) : Int), ((s.size % 256 : Nat) : Int)] ++ s = fillS s (s.size + 2) := by
  refine bt_same _ _ (by rw [ByteArray.size_append, fill_size, strOfNums_size]; simp; omega) fun j hj => ?_
  rw [ByteArray.size_append, strOfNums_size] at hj
  simp only [List.length_cons, List.length_nil] at hj
  rw [bt_app, fill_bt s hs _ _ (by omega), strOfNums_size]
  simp only [List.length_cons, List.length_nil]
  unfold bodyN
  by_cases h0 : j = 0
  · subst h0
    rw [if_pos (by omega), if_pos rfl]
    simp [bt, strOfNums]; omega
  · by_cases h1 : j = 1
    · subst h1
      rw [if_pos (by omega), if_neg (by omega), if_pos rfl]
      simp [bt, strOfNums]; omega
    · rw [if_neg (by omega), if_neg (by omega), if_neg (by omega)]
set_option maxRecDepth 100000 in
set_option maxHeartbeats 1000000 in
theorem refPad_any (s : ByteArray) (w : World) :
    Calls Tryd.prog 31 #[.string s] w fun e w' => e = .returned (.tuple #[.string (padV s), .int .i64 (padE s)]) ∧ Below w.heap.size w w' := by
  by_cases hs : s.size ≤ 198
  · have q : ¬ (198 : Int) < (s.size : Int) := by omega
    have HV : Hid (padV s = bodyS s ∧ padE s = 0) := by refine (?_ : padV s = bodyS s ∧ padE s = 0); simp [padV, padE, hs]
    have HS : Hid (s.size ≤ 198) := hs
    have hcv : (convert 41 9 (.slice (some ⟨w.heap.size, 0, none⟩) 2 2)).run Tryd.prog (w.alloc (.cells #[.int .u8 ((s.size : Int) / 256), .int .u8 ((s.size : Int) % 256)] 5)) = .ok (.string (strOfNums [((s.size / 256 : Nat) : Int), ((s.size % 256 : Nat) : Int)])) (w.alloc (.cells #[.int .u8 ((s.size : Int) / 256), .int .u8 ((s.size : Int) % 256)] 5)) := by
      refine run_convert_bytes_arg _ 41 5 Tryd.underlying41 Tryd.underlying5 w.heap.size 0 2 2 _ rfl (fun i hi => ?_) 9 Tryd.underlying9
      rw [cell_of_row _ _ _ _ _ _ (heap_alloc_new w _), Nat.zero_add]
      match i, hi with
      | 0, _ => rfl
      | 1, _ => rfl
    have H1 : Hid (strOfNums [((s.size / 256 : Nat) : Int), ((s.size % 256 : Nat) : Int)] ++ s = fillS s (s.size + 2)) := fill_first s hs
    have hz : (strOfNums [((s.size / 256 : Nat) : Int), ((s.size % 256 : Nat) : Int)]).size = 2 := by rw [strOfNums_size]; rfl
    generalize strOfNums [((s.size / 256 : Nat) : Int), ((s.size % 256 : Nat) : Int)] = u at *
    go_enter Tryd.func31, Tryd.ntmps31
    go_wp2_with fail
    rw [H1.out]
    clear hcv H1 hz
    go_loopw [4] (fun v wr => ∃ k : Nat, s.size + 2 ≤ k ∧ k ≤ 200 ∧ v = .string (fillS s k) ∧ Below w.heap.size w wr) (fun v _ => 200 - sizeOfV v)
    case atStart => exact ⟨s.size + 2, by omega, by omega, rfl, below_new w _⟩
    case round =>
      obtain ⟨k, hk1, hk2, rfl, hb⟩ := hrel
      have HB : Hid (Below w.heap.size w wr) := hb
      have hz := fill_size s k
      have HM : Hid (fillS s k ++ ⟨#[0]⟩ = fillS s (k + 1)) := fill_more s HS.out k hk1
      have HK : Hid (s.size + 2 ≤ k) := hk1
      obtain ⟨f, hf⟩ : ∃ f, fillS s k = f := ⟨_, rfl⟩
      have HF : Hid (fillS s k = f) := hf
      rw [hf] at hz HM ⊢
      clear hb hf hk1
      by_cases hlt : k < 200
      · have q1 : (f.size : Int) < 200 := by omega
        go_wp2_with fail
        go_roundw
        case rel => exact ⟨k + 1, by have := HK.out; omega, by omega, by rw [← HM.out], HB.out⟩
        case measure => rw [HM.out]; simp only [sizeOfV, fill_size, hz]; omega
      · obtain rfl : k = 200 := by omega
        have q1 : ¬ (f.size : Int) < 200 := by omega
        clear hlt
        go_wp2_with fail
        refine bodyPost_ret (results_tmp2 rfl _ _ _) rfl ?_
        exact ⟨by rw [HV.out.1, HV.out.2, ← HF.out]; rfl, HB.out⟩
  · have q : (198 : Int) < (s.size : Int) := by omega
    have HV : Hid (padV s = ⟨#[]⟩ ∧ padE s = 50) := by refine (?_ : padV s = ⟨#[]⟩ ∧ padE s = 50); simp [padV, padE, hs]
    clear hs
    go_enter Tryd.func31, Tryd.ntmps31
    go_wp2_with fail
    refine bodyPost_ret (results_tmp2 rfl _ _ _) rfl ?_
    exact ⟨by rw [HV.out.1, HV.out.2]; rfl, Below.refl _ _⟩
end Go.Proofs.YtaoadopnhphjbaaDoor.Rp
namespace Go.Proofs.YtaoadopnhphjbaaDoor.Rp
open Go.RowKit
set_option maxRecDepth 100000 in
set_option maxHeartbeats 1000000 in
theorem refUnpad_any (b : ByteArray) (w : World) :
    Calls Tryd.prog 40 #[.string b] w fun e w' => e = .returned (.tuple #[.string (unV b), .int .i64 (unE b)]) ∧ Below w.heap.size w w' := by
  by_cases hb : b.size = 200
  · have q : (b.size : Int) = 200 := by omega
    have HB : Hid (b.size = 200) := hb
    have i0 := idx_s b 0 (by omega)
    have i1 := idx_s b 1 (by omega)
    obtain ⟨a0, a1⟩ := bt_range b 0
    obtain ⟨c0, c1⟩ := bt_range b 1
    have hl := lenOf_cast b
    obtain ⟨x, hx⟩ : ∃ x, bt b 0 = x := ⟨_, rfl⟩
    obtain ⟨y, hy⟩ : ∃ y, bt b 1 = y := ⟨_, rfl⟩
    rw [hx] at i0 a0 a1 hl
    rw [hy] at i1 c0 c1 hl
    simp only [Int.natCast_zero, Int.natCast_one] at i0 i1
    have ho : IntKind.i64.wrap (IntKind.i64.wrap (256 * IntKind.i64.wrap x) + IntKind.i64.wrap y) = (lenOf b : Int) := by
      rw [show IntKind.i64.wrap x = x by rw [IntKind.wrap_i64]; omega, show IntKind.i64.wrap y = y by rw [IntKind.wrap_i64]; omega, show IntKind.i64.wrap (256 * x) = 256 * x by rw [IntKind.wrap_i64]; omega, IntKind.wrap_i64, hl]
      omega
    obtain ⟨n, hn⟩ : ∃ n, lenOf b = n := ⟨_, rfl⟩
    have HN : Hid (lenOf b = n) := hn
    rw [hn] at ho
    have n0 : (n : Int) ≤ 65535 := by omega
    clear hb hx hy hl hn
    go_enter Tryd.func40, Tryd.ntmps40
    go_wp2_with fail
    refine wp_region_any (by kernel_rfl) ?_
    change wpAny _ _ _ _ _ _ _ (World.drew _)
    refine wpAny_take (i := 0) (v := ?_) rfl (by kernel_rfl) (by kernel_rfl) (by kernel_rfl) (fun _ _ _ h => h) (Or.inl ⟨by kernel_rfl, ?_⟩) ?_
    rotate_left
    · intro w
      go_simp
      try with_reducible rfl
    conv in (Act.put _ _ _) => simp only [List.getElem_toArray, List.getElem_cons_succ, List.getElem_cons_zero, Act.put, List.setIfInBounds_toArray, List.set_cons_succ, List.set_cons_zero]
    refine wpAny_take (i := 1) (v := ?_) rfl (by kernel_rfl) (by kernel_rfl) (by kernel_rfl) (fun _ _ _ h => h) (Or.inl ⟨by kernel_rfl, ?_⟩) ?_
    rotate_left
    · intro w
      go_simp
      try with_reducible rfl
    conv in (Act.put _ _ _) => simp only [List.getElem_toArray, List.getElem_cons_succ, List.getElem_cons_zero, Act.put, List.setIfInBounds_toArray, List.set_cons_succ, List.set_cons_zero]
    refine wpAny_take (i := 2) (v := ?_) rfl (by kernel_rfl) (by kernel_rfl) (by kernel_rfl) (fun _ _ _ h => h) (Or.inl ⟨by kernel_rfl, ?_⟩) ?_
    rotate_left
    · intro w
      go_simp
      try with_reducible rfl
    conv in (Act.put _ _ _) => simp only [List.getElem_toArray, List.getElem_cons_succ, List.getElem_cons_zero, Act.put, List.setIfInBounds_toArray, List.set_cons_succ, List.set_cons_zero]
    refine wpAny_take (i := 3) (v := ?_) rfl (by kernel_rfl) (by kernel_rfl) (by kernel_rfl) (fun _ _ _ h => h) (Or.inl ⟨by kernel_rfl, ?_⟩) ?_
    rotate_left
    · intro w
      go_simp
      try with_reducible rfl
    conv in (Act.put _ _ _) => simp only [List.getElem_toArray, List.getElem_cons_succ, List.getElem_cons_zero, Act.put, List.setIfInBounds_toArray, List.set_cons_succ, List.set_cons_zero]
    refine wpAny_take (i := 4) (v := ?_) rfl (by kernel_rfl) (by kernel_rfl) (by kernel_rfl) (fun _ _ _ h => h) (Or.inl ⟨by kernel_rfl, ?_⟩) ?_
    rotate_left
    · intro w
      go_simp
      try with_reducible rfl
    conv in (Act.put _ _ _) => simp only [List.getElem_toArray, List.getElem_cons_succ, List.getElem_cons_zero, Act.put, List.setIfInBounds_toArray, List.set_cons_succ, List.set_cons_zero]
    refine wpAny_take (i := 5) (v := ?_) rfl (by kernel_rfl) (by kernel_rfl) (by kernel_rfl) (fun _ _ _ h => h) (Or.inl ⟨by kernel_rfl, ?_⟩) ?_
    rotate_left
    · intro w
      go_simp
      try with_reducible rfl
    conv in (Act.put _ _ _) => simp only [List.getElem_toArray, List.getElem_cons_succ, List.getElem_cons_zero, Act.put, List.setIfInBounds_toArray, List.set_cons_succ, List.set_cons_zero]
    refine wpAny_take (i := 6) (v := ?_) rfl (by kernel_rfl) (by kernel_rfl) (by kernel_rfl) (fun _ _ _ h => h) (Or.inl ⟨by kernel_rfl, ?_⟩) ?_
    rotate_left
    · intro w
      go_simp
      try with_reducible rfl
    conv in (Act.put _ _ _) => simp only [List.getElem_toArray, List.getElem_cons_succ, List.getElem_cons_zero, Act.put, List.setIfInBounds_toArray, List.set_cons_succ, List.set_cons_zero]
    refine wpAny_take (i := 7) (v := ?_) rfl (by kernel_rfl) (by kernel_rfl) (by kernel_rfl) (fun _ _ _ h => h) (Or.inl ⟨by kernel_rfl, ?_⟩) ?_
    rotate_left
    · intro w
      go_simp
      try with_reducible rfl
    conv in (Act.put _ _ _) => simp only [List.getElem_toArray, List.getElem_cons_succ, List.getElem_cons_zero, Act.put, List.setIfInBounds_toArray, List.set_cons_succ, List.set_cons_zero]
    refine wpAny_ready (rs := [8]) (by kernel_rfl) (by simp) ?_
    refine (AllReady.cons rfl (fun K hK => ?_) AllReady.nil)
    go_simp
    refine hK _ _ ?_
    clear hK K
    refine wpAny_done (by kernel_rfl) ?_ _
    clear ho a0 a1 c0 c1 i0 i1
    by_cases hn : n ≤ 198
    · have hn' : ¬ (198 : Int) < (n : Int) := by omega
      have ht := run_text b n HB.out hn
      have HT : Hid (b.extract 2 (2 + n) = textOf b) := by refine (?_ : b.extract 2 (2 + n) = textOf b); unfold textOf; rw [HN.out]
      rw [HT.out] at ht
      have HI : Hid (isBody b = true ↔ ∀ i, 2 + n ≤ i → i < 200 → bt b i = 0) := by
        have := isBody_rest b HB.out (by rw [HN.out]; exact hn)
        rw [HN.out] at this
        exact this
      have HNN : Hid (n ≤ 198) := hn
      clear HT
      go_wp2_with fail
      go_loopw [5] (fun i wr => ∃ k : Nat, 2 + n ≤ k ∧ k ≤ 200 ∧ i = .int .i64 (k : Int) ∧ (∀ i, 2 + n ≤ i → i < k → bt b i = 0) ∧ Below w.heap.size w wr) (fun i _ => 200 - natOf i)
      case atStart => exact ⟨2 + n, by omega, by omega, by go_num, fun i h1 h2 => by omega, (Below.refl _ _).drew⟩
      case round =>
        obtain ⟨k, hk1, hk2, rfl, hz, hbe⟩ := hrel
        have HZ : Hid (∀ i, 2 + n ≤ i → i < k → bt b i = 0) := hz
        have HBe : Hid (Below w.heap.size w wr) := hbe
        clear hz hbe
        by_cases hlt : k < 200
        · have g0 : (k : Int) < 200 := by omega
          have g1 : (0 : Int) ≤ (k : Int) := by omega
          have hix := idx_s b k (by have := HB.out; omega)
          obtain ⟨z, hz⟩ : ∃ z, bt b k = z := ⟨_, rfl⟩
          have HX : Hid (bt b k = z) := hz
          rw [hz] at hix
          clear hz
          by_cases hz : z = 0
          · subst hz
            go_wp2_with fail
            go_roundw
            case rel =>
              refine ⟨k + 1, by omega, by omega, by go_num, fun i h1 h2 => ?_, HBe.out⟩
              by_cases e : i = k
              · rw [e]; exact HX.out
              · exact HZ.out i h1 (by omega)
            case measure => simp [natOf]; omega
          · have HV : Hid (unV b = ⟨#[]⟩ ∧ unE b = 50) := by
              refine (?_ : unV b = ⟨#[]⟩ ∧ unE b = 50)
              have : isBody b = false := by
                cases e : isBody b
                · rfl
                · exact absurd (HX.out.symm.trans (HI.out.1 e k hk1 hlt)) hz
              simp [unV, unE, this]
            go_wp2_with fail
            refine bodyPost_ret (results_tmp2 rfl _ _ _) rfl ?_
            exact ⟨by rw [HV.out.1, HV.out.2]; rfl, HBe.out⟩
        · obtain rfl : k = 200 := by omega
          have HV : Hid (unV b = textOf b ∧ unE b = 0) := by
            refine (?_ : unV b = textOf b ∧ unE b = 0)
            have : isBody b = true := HI.out.2 HZ.out
            simp [unV, unE, this]
          clear hlt
          go_wp2_with fail
          refine bodyPost_ret (results_tmp2 rfl _ _ _) rfl ?_
          exact ⟨by rw [HV.out.1, HV.out.2]; rfl, HBe.out⟩
    · have hn' : (198 : Int) < (n : Int) := by omega
      have HV : Hid (unV b = ⟨#[]⟩ ∧ unE b = 50) := by
        refine (?_ : unV b = ⟨#[]⟩ ∧ unE b = 50)
        have : isBody b = false := by unfold isBody; rw [HN.out, decide_eq_false hn]; simp
        simp [unV, unE, this]
      clear hn
      go_wp2_with fail
      refine bodyPost_ret (results_tmp2 rfl _ _ _) rfl ?_
      exact ⟨by rw [HV.out.1, HV.out.2]; rfl, (Below.refl _ w).drew⟩
  · have q : ¬ (b.size : Int) = 200 := by omega
    have HV : Hid (unV b = ⟨#[]⟩ ∧ unE b = 50) := by
      refine (?_ : unV b = ⟨#[]⟩ ∧ unE b = 50)
      have : isBody b = false := by unfold isBody; rw [decide_eq_false hb]; rfl
      simp [unV, unE, this]
    clear hb
    go_enter Tryd.func40, Tryd.ntmps40
    go_wp2_with fail
    refine bodyPost_ret (results_tmp2 rfl _ _ _) rfl ?_
    exact ⟨by rw [HV.out.1, HV.out.2]; rfl, Below.refl _ _⟩
end Go.Proofs.YtaoadopnhphjbaaDoor.Rp
