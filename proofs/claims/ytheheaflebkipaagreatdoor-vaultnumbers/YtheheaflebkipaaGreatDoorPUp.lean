/- What a key expands to. -/
import Derived.Test.YtheheaflebkipaaGreatDoorQUa
namespace Go.Proofs.YtheheaflebkipaaGreatDoor
open Go.RowKit Go.Shelf Go.Lib
attribute [local go_sem] Oper.semAt_some
/-- T1, T2, ..: each one is the mac of the one ahead, the label, and a byte that counts. -/
def tsq (Kt : Nat → Int) (key label : ByteArray) : Nat → ByteArray
  | 0 => ⟨#[]⟩
  | i + 1 => macS Kt key (tsq Kt key label i ++ label ++ strOfNums [((i + 1 : Nat) : Int)])
set_option maxRecDepth 100000 in
theorem tsq_size (Kt : Nat → Int) (key label : ByteArray) (i : Nat) : (tsq Kt key label (i + 1)).size = 32 := macS_size _ _ _
set_option maxRecDepth 100000 in
theorem tsq_le (Kt : Nat → Int) (key label : ByteArray) (i : Nat) : (tsq Kt key label i).size ≤ 32 := by
  cases i with
  | zero => exact Nat.zero_le _
  | succ i => rw [tsq_size]; exact Nat.le_refl _
/-- The bytes of all of them, behind each other. -/
def xpd (Kt : Nat → Int) (key label : ByteArray) (k : Nat) : Int := bt (tsq Kt key label (k / 32 + 1)) (k % 32)
set_option maxRecDepth 100000 in
theorem xpd_at (Kt : Nat → Int) (key label : ByteArray) (i k : Nat) (hk : k < 32) : xpd Kt key label (32 * i + k) = bt (tsq Kt key label (i + 1)) k := by
  unfold xpd
  rw [show (32 * i + k) / 32 = i by omega, show (32 * i + k) % 32 = k by omega]
set_option maxRecDepth 100000 in
/-- One byte in a new block, as a text. -/
theorem one_new (w : World) (x : Int) : (convert 70 9 (.slice (some ⟨w.heap.size, 0, none⟩) 1 1)).run Tryz.prog (w.alloc (.cells #[.int .u8 x] 5)) = .ok (.string (strOfNums [x])) (w.alloc (.cells #[.int .u8 x] 5)) :=
  conv_new w #[.int .u8 x] [x] 1 rfl (fun i hi => by
    match i, hi with
    | 0, _ => rfl)
set_option maxRecDepth 100000 in
set_option maxHeartbeats 2000000 in
theorem expanded1_in (Kt : Nat → Int) (key label : ByteArray) (hk : key.size ≤ 1000000) (hlb : label.size ≤ 1000000) (b1 b2 N : Nat) (hN : N ≤ 8160) (w0 : World) (hb1 : b1 < w0.heap.size) (hb2 : b2 < w0.heap.size) (h1 : w0.heap[b1]? = some (.cells #[.string key] 9 (0, 0))) (h2 : w0.heap[b2]? = some (.cells #[.string label] 9 (0, 0)))
    {tt : TypeId} {fr : Nat × Nat} (hK : w0.heap[3]? = some (.cells (w64 Kt) tt fr)) :
    Yields8 204 #[.pointer (some ⟨b1, 0, none⟩), .pointer (some ⟨b2, 0, none⟩)] (xpd Kt key label) N w0 := by
  intro l W hKq R Rx hR hRx hY hN' h0
  have h1l : 3 < w0.heap.size := (Array.getElem?_eq_some_iff.1 hK).1
  have HY : Hid _ := hY
  have HN : Hid _ := hN'
  have HR : Hid _ := hR
  have HRx : Hid _ := hRx
  have H0 : Hid (R 0 W) := h0
  have KB : Hid (∀ A : World, Kq w0.heap.size W A → A.heap[b1]? = some (.cells #[.string key] 9 (0, 0)) ∧ A.heap[b2]? = some (.cells #[.string label] 9 (0, 0)) ∧ A.heap[3]? = some (.cells (w64 Kt) tt fr)) := fun A hA =>
    ⟨(hKq.trans hA).2 b1 _ hb1 h1 rfl, (hKq.trans hA).2 b2 _ hb2 h2 rfl, (hKq.trans hA).2 3 _ h1l hK rfl⟩
  have hWl : w0.heap.size ≤ W.heap.size := hKq.1
  clear hY hN' hR hRx h0 hKq h1 h2 hK
  refine callsIn_of_wp Tryz.func204 rfl trivial ?_ rfl
  simp only [Tryz.ntmps204, List.size_toArray, List.length_cons, List.length_nil, Nat.reduceAdd, Nat.reduceSub, Array.replicate_succ, Array.replicate_zero, List.push_toArray, List.append_toArray, List.nil_append, List.cons_append]
  gi_wp2
  gi_loopw [4, 7] (fun v i wr => ∃ k : Nat, k ≤ 255 ∧ v = .string (tsq Kt key label k) ∧ i = .int .i64 (k : Int) ∧ R (32 * k) wr ∧ Kq w0.heap.size W wr) (fun _ i _ => 255 - natOf i)
  case atStart => exact ⟨0, by omega, rfl, rfl, H0.out, Kq.refl _ _⟩
  case round =>
    clear H0
    obtain ⟨k, hk255, rfl, rfl, hRk, hKk⟩ := hrel
    have HRk : Hid (R (32 * k) wr) := hRk
    have HKk : Hid (Kq w0.heap.size W wr) := hKk
    obtain ⟨f1, f2, f3⟩ := KB.out wr hKk
    have c1 : wr.cell? ⟨b1, 0, none⟩ = some (.string key) := by rw [cell_of_row _ _ _ _ _ _ f1]; rfl
    have c2 : wr.cell? ⟨b2, 0, none⟩ = some (.string label) := by rw [cell_of_row _ _ _ _ _ _ f2]; rfl
    have F3 : Hid (wr.heap[3]? = some (.cells (w64 Kt) tt fr)) := f3
    have k0 : (0 : Int) ≤ (k : Int) := by omega
    clear hRk hKk f1 f2 f3
    by_cases hlt : k < 255
    · have k1 : (k : Int) < 255 := by omega
      have hoc := one_new wr ((k : Int) + 1)
      have hts := tsq_le Kt key label k
      have HT1 : Hid (tsq Kt key label (k + 1) = macS Kt key (tsq Kt key label k ++ label ++ strOfNums [(k : Int) + 1])) := rfl
      have hT1s := tsq_size Kt key label k
      have HXP : Hid (∀ j, j < 32 → xpd Kt key label (32 * k + j) = bt (tsq Kt key label (k + 1)) j) := fun j hj => xpd_at Kt key label k j hj
      obtain ⟨T1, hTT⟩ : ∃ T1, tsq Kt key label (k + 1) = T1 := ⟨_, rfl⟩
      have HTT : Hid (tsq Kt key label (k + 1) = T1) := hTT
      rw [hTT] at HT1 hT1s HXP
      clear hTT
      generalize tsq Kt key label k = T0 at *
      have hos : (strOfNums [(k : Int) + 1]).size = 1 := strOfNums_size _
      generalize strOfNums [(k : Int) + 1] = O1 at *
      have hcat : (T0 ++ label ++ O1).size = T0.size + label.size + O1.size := by rw [ByteArray.size_append, ByteArray.size_append]
      have MC : Hid (Calls Tryz.prog 128 #[.string key, .slice (some ⟨wr.heap.size + 1, 0, none⟩) 3 3] ((wr.alloc (.cells #[.int .u8 ((k : Int) + 1)] 5)).alloc (.cells #[.string T0, .string label, .string O1] 9)) fun e w' => e = .returned (.string T1) ∧ Below wr.heap.size wr w') := by
        have hsz : (wr.alloc (.cells #[.int .u8 ((k : Int) + 1)] 5)).heap.size = wr.heap.size + 1 := by simp
        refine (?_ : Calls Tryz.prog 128 #[.string key, .slice (some ⟨wr.heap.size + 1, 0, none⟩) 3 3] ((wr.alloc (.cells #[.int .u8 ((k : Int) + 1)] 5)).alloc (.cells #[.string T0, .string label, .string O1] 9)) fun e w' => e = .returned (.string T1) ∧ Below wr.heap.size wr w')
        rw [HT1.out, ← hsz]
        refine (mac_new Kt key hk 3 (by decide) #[.string T0, .string label, .string O1] 9 (fun i => if i = 0 then T0 else if i = 1 then label else O1) (T0 ++ label ++ O1) (by apply ByteArray.ext; simp [catS]) (by omega) (fun i hi => by
          match i, hi with
          | 0, _ => rfl
          | 1, _ => rfl
          | 2, _ => rfl) (wr.alloc (.cells #[.int .u8 ((k : Int) + 1)] 5)) (((below_new wr _).block 3 (by have := HKk.out.1; omega)).trans F3.out)).mono fun e w' ⟨e1, e2⟩ => ⟨e1, (below_new wr _).trans (e2.mono (by omega))⟩
      gi_wp2
      refine ⟨trivial, ?_⟩
      refine (callsIn_wide.2 MC.out).mono ?_
      rintro e w3 ⟨rfl, b3⟩
      have R3 : Hid (R (32 * k) w3) := HR.out _ wr w3 HRk.out (b3.mono HKk.out.1)
      have K3 : Hid (Kq w0.heap.size W w3) := HKk.out.trans (Kq.below b3 (by have := HKk.out.1; omega))
      clear b3 MC HRk HKk F3 c1 c2 hoc HT1 hcat
      gi_wp2
      gi_loopw [22] (fun i wx => ∃ j : Nat, j ≤ 32 ∧ i = .int .i64 (j : Int) ∧ R (32 * k + j) wx ∧ Kq w0.heap.size W wx) (fun i _ => 32 - natOf i)
      case atStart => exact ⟨0, by omega, rfl, R3.out, K3.out⟩
      case round =>
        clear R3 K3
        obtain ⟨j, hj, rfl, hRj, hKj⟩ := hrel
        have HRj : Hid (R (32 * k + j) wr) := hRj
        have HKj : Hid (Kq w0.heap.size W wr) := hKj
        have j0 : (0 : Int) ≤ (j : Int) := by omega
        by_cases hj32 : j < 32
        · have j1 : (j : Int) < 32 := by omega
          have hix := idx_s T1 j (by omega)
          obtain ⟨fn, tmps, assign, body, hy, hRd⟩ := HY.out (32 * k + j) wr hRj
          rw [HXP.out j hj32] at hy
          generalize bt T1 j = x at *
          clear hRj hKj
          gi_wp2
          refine hRd.mono ?_
          rintro e W6 (⟨rfl, hR6, hk6⟩ | ⟨rfl, hx6⟩)
          · gi_wp2
            go_roundw
            case rel => exact ⟨j + 1, hj32, by go_num, hR6, HKj.out.trans hk6⟩
            case measure => simp [natOf]; omega
          · gi_wp2
            refine bodyPost_ret (results_none rfl _ _ _) rfl ?_
            exact ⟨⟨_, rfl⟩, hx6⟩
        · obtain rfl : j = 32 := by omega
          clear hRj hKj
          gi_wp2
          go_roundw
          case rel => exact ⟨k + 1, hlt, by rw [HTT.out], by go_num, HRj.out, HKj.out⟩
          case measure => simp [natOf]; omega
    · obtain rfl : k = 255 := by omega
      have hlast := HN.out _ wr HRk.out
      omega
set_option maxRecDepth 100000 in
theorem expanded_any8 (key label : ByteArray) (w : World) :
    Calls Tryz.prog 183 #[.string key, .string label] w fun e w' => e = .returned (.func (.func 204) #[] #[.pointer (some ⟨w.heap.size, 0, none⟩), .pointer (some ⟨w.heap.size + 1, 0, none⟩)]) ∧ w' = (w.alloc (.cells #[.string key] 9)).alloc (.cells #[.string label] 9) := by
  go_enter Tryz.func183, Tryz.ntmps183
  go_wp2_with fail
  go_ret
  exact ⟨rfl, rfl⟩
/-- The first n bytes of what a key expands to. -/
def xS (Kt : Nat → Int) (key label : ByteArray) (n : Nat) : ByteArray := strOfNums (upto (xpd Kt key label) n)
set_option maxRecDepth 100000 in
theorem xS_size (Kt : Nat → Int) (key label : ByteArray) (n : Nat) : (xS Kt key label n).size = n := by unfold xS; rw [strOfNums_size, upto_length]
set_option maxRecDepth 100000 in
theorem expand_yes (Kt : Nat → Int) (key label : ByteArray) (hk : key.size ≤ 1000000) (hlb : label.size ≤ 1000000) (n : Nat) (hn : n ≤ 8160) (w : World) {tt : TypeId} {fr : Nat × Nat} (hK : w.heap[3]? = some (.cells (w64 Kt) tt fr)) :
    Calls Tryz.prog 164 #[.string key, .string label, .int .i64 (n : Int)] w fun e w' => e = .returned (.tuple #[.string (xS Kt key label n), .int .i64 0]) ∧ Below w.heap.size w w' := by
  have FE : Hid (Calls Tryz.prog 171 #[.int .i64 (n : Int), .func (.func 204) #[] #[.pointer (some ⟨w.heap.size, 0, none⟩), .pointer (some ⟨w.heap.size + 1, 0, none⟩)]] ((w.alloc (.cells #[.string key] 9)).alloc (.cells #[.string label] 9)) fun e w' => e = .returned (.string (xS Kt key label n)) ∧ Below w.heap.size w w') := by
    obtain ⟨e1, e2, hb⟩ := two_new w (.cells #[.string key] 9) (.cells #[.string label] 9)
    have h1l : 3 < w.heap.size := (Array.getElem?_eq_some_iff.1 hK).1
    refine (callsIn_wide.1 (first_in 204 _ (xpd Kt key label) n (by omega) _ (enters_of Tryz.func204 (by kernel_rfl) rfl) (expanded1_in Kt key label hk hlb w.heap.size (w.heap.size + 1) (max n 1) (by omega) _ (by simp; omega) (by simp) e1 e2 ((hb.block 3 h1l).trans hK)))).mono fun e w' ⟨h1, h2⟩ => ⟨h1, hb.trans (h2.mono (by simp; omega))⟩
  have q1 : decide ((n : Int) < 0) = false := by simp
  have q2 : decide ((8160 : Int) < (n : Int)) = false := by simp; omega
  generalize xS Kt key label n = X at *
  clear hK
  go_enter Tryz.func164, Tryz.ntmps164
  go_wp2_with fail
  refine (expanded_any8 key label w).mono ?_
  rintro e w1 ⟨rfl, rfl⟩
  go_wp2_with fail
  refine FE.out.mono ?_
  rintro e w2 ⟨rfl, b2⟩
  have B2 : Hid (Below w.heap.size w w2) := b2
  clear b2 FE
  go_wp2_with fail
  go_ret2
  exact ⟨rfl, B2.out⟩
end Go.Proofs.YtheheaflebkipaaGreatDoor
