/- A text's bytes, and bytes 0 behind; a key's part; a mask. -/
import Derived.Test.YtmlechalhldlhaaDoorUb
import Derived.Test.YtmlechalhldlhaaDoorS
namespace Go.Proofs.YtmlechalhldlhaaDoor
open Go.RowKit Go.Shelf Go.Lib
attribute [local go_sem] Oper.semAt_some
/-- The number in a slot. -/
def natOf : Value → Nat | .int _ x => x.toNat | _ => 0
theorem bt_out (s : ByteArray) (k : Nat) (h : s.size ≤ k) : bt s k = 0 := by
  unfold bt
  rw [Array.getElem?_eq_none (by exact h)]
  rfl
theorem idx_s (s : ByteArray) (p : Nat) (hp : p < s.size) (w : World) : (Instr.index 9 (.string s) (.int .i64 (p : Int))).run Tryd.prog w = .ok (.int .u8 (bt s p)) w := by
  have h0 : (p : Int) < (s.size : Int) := by omega
  simp [Instr.index, run_underlying Tryd.underlying9, go_sem, hp]
  unfold bt
  rw [Array.getElem?_eq_getElem (by exact hp)]
  rfl
set_option maxRecDepth 100000 in
set_option maxHeartbeats 1000000 in
theorem filled1_in (s : ByteArray) (b1 N : Nat) (hN : N ≤ 1000000) (w0 : World) (hb1 : b1 < w0.heap.size) (h1 : w0.heap[b1]? = some (.cells #[.string s] 9 (0, 0))) :
    Yields8 43 #[.pointer (some ⟨b1, 0, none⟩)] (bt s) N w0 := by
  intro l W hKq R Rx hR hRx hY hN' h0
  have HY : Hid _ := hY
  have HN : Hid _ := hN'
  have HR : Hid _ := hR
  have HRx : Hid _ := hRx
  have H0 : Hid (R 0 W) := h0
  have HB : Hid (W.heap[b1]? = some (.cells #[.string s] 9 (0, 0))) := hKq.2 b1 _ hb1 h1 rfl
  clear hY hN' hR hRx h0 hKq h1
  refine callsIn_of_wp Tryd.func43 rfl trivial ?_ rfl
  simp only [Tryd.ntmps43, List.size_toArray, List.length_cons, List.length_nil, Nat.reduceAdd, Nat.reduceSub, Array.replicate_succ, Array.replicate_zero, List.push_toArray, List.append_toArray, List.nil_append, List.cons_append]
  gi_wp2
  gi_loopw [3] (fun i wr => ∃ k : Nat, i = .int .i64 (k : Int) ∧ R k wr ∧ wr.heap[b1]? = some (.cells #[.string s] 9 (0, 0))) (fun i _ => N - natOf i)
  case atStart => exact ⟨0, rfl, H0.out, HB.out⟩
  case round =>
    clear H0 HB
    obtain ⟨k, rfl, hRk, hb⟩ := hrel
    have HRk : Hid (R k wr) := hRk
    have HB : Hid (wr.heap[b1]? = some (.cells #[.string s] 9 (0, 0))) := hb
    have hkN := HN.out k wr hRk
    have c1 : wr.cell? ⟨b1, 0, none⟩ = some (.string s) := by rw [cell_of_row _ _ _ _ _ _ hb]; rfl
    have k0 : (0 : Int) ≤ (k : Int) := by omega
    have k1 : (k : Int) ≤ 1000000 := by omega
    obtain ⟨fn, tmps, assign, body, hy, hRd⟩ := HY.out k wr hRk
    clear hRk hb
    by_cases hlt : k < s.size
    · have q1 : (k : Int) < (s.size : Int) := by omega
      have hix := idx_s s k hlt
      generalize bt s k = x at *
      gi_wp2
      refine hRd.mono ?_
      rintro e W6 (⟨rfl, hR6, hk6⟩ | ⟨rfl, hx6⟩)
      · gi_wp2
        go_roundw
        case rel => exact ⟨k + 1, by go_num, hR6, hk6.2 b1 _ hb1 HB.out rfl⟩
        case measure => simp [natOf]; omega
      · gi_wp2
        refine bodyPost_ret (results_none rfl _ _ _) rfl ?_
        exact ⟨⟨_, rfl⟩, hx6⟩
    · have q1 : ¬ (k : Int) < (s.size : Int) := by omega
      rw [bt_out s k (by omega)] at hy
      gi_wp2
      refine hRd.mono ?_
      rintro e W6 (⟨rfl, hR6, hk6⟩ | ⟨rfl, hx6⟩)
      · gi_wp2
        go_roundw
        case rel => exact ⟨k + 1, by go_num, hR6, hk6.2 b1 _ hb1 HB.out rfl⟩
        case measure => simp [natOf]; omega
      · gi_wp2
        refine bodyPost_ret (results_none rfl _ _ _) rfl ?_
        exact ⟨⟨_, rfl⟩, hx6⟩
theorem filled_any8 (s : ByteArray) (w : World) :
    Calls Tryd.prog 39 #[.string s] w fun e w' => e = .returned (.func (.func 43) #[] #[.pointer (some ⟨w.heap.size, 0, none⟩)]) ∧ w' = w.alloc (.cells #[.string s] 9) := by
  go_enter Tryd.func39, Tryd.ntmps39
  go_wp2_with fail
  go_ret
  exact ⟨rfl, rfl⟩
theorem firstFilled_any (s : ByteArray) (n : Nat) (hn : n ≤ 100000) (w : World) (b1 : Nat) (h1 : w.heap[b1]? = some (.cells #[.string s] 9 (0, 0))) :
    Calls Tryd.prog 24 #[.int .i64 (n : Int), .func (.func 43) #[] #[.pointer (some ⟨b1, 0, none⟩)]] w fun e w' => e = .returned (.string (strOfNums (upto (bt s) n))) ∧ Below w.heap.size w w' :=
  callsIn_wide.1 (first_in 43 _ (bt s) n hn w (enters_of Tryd.func43 (by kernel_rfl) rfl) (filled1_in s b1 (max n 1) (by omega) w (Array.getElem?_eq_some_iff.1 h1).1 h1))
/-- The text that stands for a key. -/
def kp (Kt : Nat → Int) (key : ByteArray) : ByteArray := if 64 < key.size then strOfNums (dig Kt (lf IV) (bt key) key.size) else key
/-- A key's part. -/
def kpart (Kt : Nat → Int) (key : ByteArray) : ByteArray := strOfNums (upto (bt (kp Kt key)) 64)
theorem part_any (Kt : Nat → Int) (key : ByteArray) (hk : key.size ≤ 1000000) (w : World) {tt : TypeId} {fr : Nat × Nat} (hK : w.heap[1]? = some (.cells (w64 Kt) tt fr)) :
    Calls Tryd.prog 34 #[.string key] w fun e w' => e = .returned (.string (kpart Kt key)) ∧ Below w.heap.size w w' := by
  have FA : ∀ (s : ByteArray) (W : World), Hid (Calls Tryd.prog 24 #[.int .i64 64, .func (.func 43) #[] #[.pointer (some ⟨W.heap.size, 0, none⟩)]] (W.alloc (.cells #[.string s] 9)) fun e w' => e = .returned (.string (strOfNums (upto (bt s) 64))) ∧ Below W.heap.size W w') := fun s W =>
    (firstFilled_any s 64 (by decide) (W.alloc (.cells #[.string s] 9)) W.heap.size (heap_alloc_new W _)).mono fun e w' ⟨h1, h2⟩ => ⟨h1, (below_new W _).trans (h2.mono (by simp))⟩
  have HK : Hid (w.heap[1]? = some (.cells (w64 Kt) tt fr)) := hK
  clear hK
  by_cases h64 : 64 < key.size
  · have q1 : (64 : Int) < (key.size : Int) := by omega
    have HP : Hid (kpart Kt key = strOfNums (upto (bt (strOfNums (dig Kt (lf IV) (bt key) key.size))) 64)) := by
      refine (?_ : kpart Kt key = _); unfold kpart kp; rw [if_pos h64]
    have hds : (strOfNums (dig Kt (lf IV) (bt key) key.size)).size = 32 := by rw [strOfNums_size, dig_length]
    go_enter Tryd.func34, Tryd.ntmps34
    go_wp2_with fail
    refine (shaSum_any Kt key w HK.out (by omega)).mono ?_
    rintro e w1 ⟨rfl, b1⟩
    have B1 : Hid (Below w.heap.size w w1) := b1
    generalize strOfNums (dig Kt (lf IV) (bt key) key.size) = D at *
    clear b1
    go_wp2_with fail
    refine (filled_any8 D w1).mono ?_
    rintro e w2 ⟨rfl, rfl⟩
    have F2 := FA D w1
    clear FA
    go_wp2_with fail
    refine F2.out.mono ?_
    rintro e w3 ⟨rfl, b3⟩
    have B3 : Hid (Below w.heap.size w w3) := B1.out.trans (b3.mono B1.out.size)
    clear b3 B1 F2
    go_wp2_with fail
    go_ret
    exact ⟨by rw [HP.out]; rfl, B3.out⟩
  · have q1 : ¬ (64 : Int) < (key.size : Int) := by omega
    have HP : Hid (kpart Kt key = strOfNums (upto (bt key) 64)) := by
      refine (?_ : kpart Kt key = _); unfold kpart kp; rw [if_neg h64]
    have F2 := FA key w
    clear FA
    go_enter Tryd.func34, Tryd.ntmps34
    go_wp2_with fail
    refine (filled_any8 key w).mono ?_
    rintro e w2 ⟨rfl, rfl⟩
    go_wp2_with fail
    refine F2.out.mono ?_
    rintro e w3 ⟨rfl, b3⟩
    have B3 : Hid (Below w.heap.size w w3) := b3
    clear b3 F2
    go_wp2_with fail
    go_ret
    exact ⟨by rw [HP.out]; rfl, B3.out⟩
end Go.Proofs.YtmlechalhldlhaaDoor
