/- The reference: right inner pages; all pages. -/
import Derived.Test.YtljponlfjombaaaQNT
import Derived.Test.YtljponlfjombaaaPEA
namespace Go.Proofs.Ytljponlfjombaaa.Rw
open Go.RowKit Go.Lib Go.Shelf
open Go.Proofs.Ytljponlfjombaaa.Rc Go.Proofs.Ytljponlfjombaaa.Rq
set_option maxRecDepth 100000 in
set_option maxHeartbeats 4000000 in
theorem sright_inner (q : Pg) (l : List Rw) (ks : List Rf) (w : World) (h : PgAt w q l ks) (hk : q.k ≠ 1) :
    Calls Try.prog 15 #[gv q] w fun e w' => e = .returned (.bool (decide (q.k = 2) && rinner q ks)) ∧ Below w.heap.size w w' := by
  have hmx : ks.length ≤ maxLen := Nat.le_trans h.kids.1 h.kids.2.1
  have HRW : Hid (∀ W : World, Below w.heap.size w W → RefsAt W q.ko q.kc ks) := fun W hW => RefsAt.below h.kids hW (Nat.le_refl _)
  have HG1 : Hid ((w.alloc (gcs q)).heap[w.heap.size]? = some (gcs q)) := heap_alloc_new w (gcs q)
  have HB1 : Hid (Below w.heap.size w (w.alloc (gcs q))) := below_new w (gcs q)
  have hkn := h.kn
  have hX := h.X32
  have hY := h.Y32
  clear h
  unfold rinner
  obtain ⟨qk, qX, qY, qL, qro, qrn, qrc, qko, qkn, qkc, qnp, qnt⟩ := q
  simp only at hkn HRW hk hX hY ⊢
  subst hkn
  have HRF : Hid _ := sRightRef_any
  have HNO : Hid _ := snone_any qnp qnt
  have HCR : Hid _ := eRight_any qX qY qL hX hY
  have q0 : (ks.length : Int) ≤ 9223372036854775807 := by simp only [maxLen] at hmx; omega
  clear hmx
  obtain ⟨nr, hnr⟩ : ∃ nr, noRef qnp qnt = nr := ⟨_, rfl⟩
  rw [hnr] at HNO ⊢
  clear hnr
  obtain ⟨rs, hrs⟩ : ∃ rs, rightS qX qY qL = rs := ⟨_, rfl⟩
  rw [hrs] at HCR ⊢
  clear hrs
  obtain ⟨W1, hW1⟩ : ∃ W1, w.alloc (gcs ⟨qk, qX, qY, qL, qro, qrn, qrc, qko, ks.length, qkc, qnp, qnt⟩) = W1 := ⟨_, rfl⟩
  rw [hW1] at HG1 HB1
  have HW1 : Hid (w.alloc (.cells #[.int .i64 qk, .int .u32 (qX : Int), .int .u32 (qY : Int), .int .i64 qL, .slice qro qrn qrc, .slice qko ks.length qkc, .int .u32 (qnp : Int), .string qnt] 30) = W1) := hW1
  clear hW1
  have hk1 : (qk == 1) = false := by simpa using hk
  simp only [gv]
  by_cases hk2 : qk = 2
  · subst hk2
    by_cases hz : qrn = 0
    · subst hz
      go_enter Try.func15, Try.ntmps15
      go_wp2_with fail
      rw [HW1.out]
      clear HW1
      refine (HNO.out _).mono ?_
      rintro e w2 ⟨rfl, b2⟩
      have HB2 : Hid (Below w.heap.size w w2) := HB1.out.trans (b2.mono HB1.out.size)
      have HG2 : Hid (w2.heap[w.heap.size]? = some (gcs ⟨2, qX, qY, qL, qro, 0, qrc, qko, ks.length, qkc, qnp, qnt⟩)) := (b2.block _ (Array.getElem?_eq_some_iff.1 HG1.out).1).trans HG1.out
      obtain ⟨⟨c0, c1, c2, c3, c4, c5, c6, c7⟩, lB⟩ := pg_cells HG2.out
      simp only at c0 c1 c2 c3 c4 c5 c6 c7
      clear b2
      cases nr
      · go_wp2_with fail
        go_ret
        exact ⟨by simp , HB2.out⟩
      · by_cases h2 : 2 ≤ ks.length
        · have q2 : ¬ (ks.length : Int) < 2 := by omega
          by_cases h4 : ks.length ≤ 4
          · have q4 : ¬ (4 : Int) < (ks.length : Int) := by omega
            by_cases hL : 0 < qL
            · have q6 : ¬ qL < 1 := by omega
              go_wp2_with fail
              rw [show (0 : Int) = ((0 : Nat) : Int) from rfl]
              go_loopw [5, 6] (fun iv _ wr => ∃ i : Nat, i ≤ ks.length ∧ iv = .int .i64 (i : Int) ∧ (ks.take i).all (fun r => rref r.p r.t) = true ∧ Below w2.heap.size w2 wr) (fun iv _ _ => ks.length - natOf iv)
              case atStart => exact ⟨0, Nat.zero_le _, rfl, by simp, Below.refl _ _⟩
              case round =>
                obtain ⟨i, hi, rfl, hal, hb⟩ := hrel
                have HA : Hid _ := hal
                have HBx : Hid (Below w2.heap.size w2 wr) := hb
                have HBw : Hid (Below w.heap.size w wr) := HB2.out.trans (hb.mono HB2.out.size)
                have HGw : Hid (wr.heap[w.heap.size]? = some (gcs ⟨2, qX, qY, qL, qro, 0, qrc, qko, ks.length, qkc, qnp, qnt⟩)) := (hb.block _ (Array.getElem?_eq_some_iff.1 HG2.out).1).trans HG2.out
                clear hal hb c0 c1 c2 c3 c4 c5 c6 c7 lB
                obtain ⟨⟨c0, c1, c2, c3, c4, c5, c6, c7⟩, lB⟩ := pg_cells HGw.out
                simp only at c0 c1 c2 c3 c4 c5 c6 c7
                by_cases hlt : i < ks.length
                · obtain ⟨pb, off, rfl, hbl, hc⟩ := (HRW.out wr HBw.out).ref hlt
                  obtain ⟨d0, d1⟩ := hc i hlt
                  have hat := all_take hlt
                  have haf := all_false hlt
                  have HCF : Hid _ := HRF.out (fat ks i).p (fat ks i).t
                  generalize fat ks i = rr at *
                  obtain ⟨p, t⟩ := rr
                  simp only at d0 d1 hat haf HCF
                  have HAT : Hid _ := hat
                  have HAF : Hid _ := haf
                  have q5 : (i : Int) < (ks.length : Int) := by omega
                  have i0 : (0 : Int) ≤ (i : Int) := by omega
                  obtain ⟨rb, hrb⟩ : ∃ rb, rref p t = rb := ⟨_, rfl⟩
                  rw [hrb] at HCF HAT
                  have HRB : Hid (rref p t = rb) := hrb
                  clear hc hat haf hrb
                  go_wp2_with fail
                  refine (HCF.out _).mono ?_
                  rintro e w5 ⟨rfl, b5⟩
                  have HB5 : Hid (Below w2.heap.size w2 w5) := HBx.out.trans (b5.mono HBx.out.size)
                  clear b5
                  cases rb
                  · have HE : Hid (ks.all (fun r => rref r.p r.t) = false) := HAF.out HRB.out
                    have HBe : Hid (Below w.heap.size w w5) := HB2.out.trans (HB5.out.mono HB2.out.size)
                    go_wp2_with fail
                    go_ret
                    rw [HE.out]
                    exact ⟨by simp, HBe.out⟩
                  · have HE : Hid ((ks.take (i + 1)).all (fun r => rref r.p r.t) = true) := by
                      refine (?_ : (ks.take (i + 1)).all (fun r => rref r.p r.t) = true)
                      rw [HAT.out, HA.out]; rfl
                    go_wp2_with fail
                    go_roundw
                    case rel =>
                      refine ⟨_, _, _, _, _, _, _, _, _, _, _, _, _, _, _, _, _, _, ?_, rfl⟩
                      exact ⟨i + 1, by omega, by go_num, HE.out, HB5.out⟩
                    case measure => simp [natOf]; omega
                · obtain rfl : i = ks.length := by omega
                  have q5 : ¬ (ks.length : Int) < (ks.length : Int) := by omega
                  have HE : Hid (ks.all (fun r => rref r.p r.t) = true) := by
                    have := HA.out
                    rw [List.take_length] at this
                    exact this
                  go_wp2_with fail
                  refine (HCR.out _).mono ?_
                  rintro e w6 ⟨rfl, b6⟩
                  have HB6 : Hid (Below w.heap.size w w6) := HBw.out.trans (b6.mono HBw.out.size)
                  clear b6
                  go_wp2_with fail
                  go_ret
                  refine ⟨?_, HB6.out⟩
                  rw [HE.out]
                  simp [h2, h4, hL]
            · have q6 : qL < 1 := by omega
              go_wp2_with fail
              go_ret
              exact ⟨by simp [hL], HB2.out⟩
          · have q4 : (4 : Int) < (ks.length : Int) := by omega
            go_wp2_with fail
            go_ret
            exact ⟨by simp [h4], HB2.out⟩
        · have q2 : (ks.length : Int) < 2 := by omega
          go_wp2_with fail
          go_ret
          exact ⟨by simp [h2], HB2.out⟩
    · have q7 : (0 : Int) < (qrn : Int) := by omega
      go_enter Try.func15, Try.ntmps15
      go_wp2_with fail
      rw [HW1.out]
      go_ret
      exact ⟨by simp [hz], HB1.out⟩
  · have hk3 : (qk == 2) = false := by simpa using hk2
    go_enter Try.func15, Try.ntmps15
    go_wp2_with fail
    rw [HW1.out]
    go_ret
    exact ⟨by simp [hk2], HB1.out⟩
set_option maxRecDepth 100000 in
theorem sright_p (q : Pg) (P : Pp) (w : World) (h : PAt w q P) :
    Calls Try.prog 15 #[gv q] w fun e w' => e = .returned (.bool (rpp P)) ∧ Below w.heap.size w w' := by
  rw [← h.rpp]
  unfold rpage
  by_cases hk : q.k = 1
  · rw [if_pos hk]; exact sright_leaf q P.l P.ks w h.at' hk
  · rw [if_neg hk]
    have := sright_inner q P.l P.ks w h.at' hk
    by_cases h2 : q.k = 2
    · rw [if_pos h2]; simpa [h2] using this
    · rw [if_neg h2]; simpa [h2] using this
end Go.Proofs.Ytljponlfjombaaa.Rw
/- The reference: numbers in bytes. -/
namespace Go.Proofs.Ytljponlfjombaaa.Rw
open Go.RowKit Go.Lib Go.Shelf
open Go.Proofs.Ytljponlfjombaaa.Rc Go.Proofs.Ytljponlfjombaaa.Rq
set_option maxRecDepth 100000 in
theorem idx_s (s : ByteArray) (p : Nat) (hp : p < s.size) (w : World) : (Instr.index 9 (.string s) (.int .i64 (p : Int))).run Try.prog w = .ok (.int .u8 (bt s p : Int)) w := by
  have h0 : (p : Int) < (s.size : Int) := by omega
  simp [Instr.index, run_underlying Try.underlying9, go_sem, hp]
  unfold bt
  rw [Array.getElem?_eq_getElem (by exact hp)]
  rfl
/-- One byte as a text. -/
def by1 (n : Nat) : ByteArray := ⟨#[UInt8.ofNat (n % 256)]⟩
set_option maxRecDepth 100000 in
theorem one_str (W : World) (q : Nat) (x : Int) (n : Nat) (hx : x = ((n % 256 : Nat) : Int)) (h : W.heap[q]? = some (.cells #[.int .u8 x] 5 (0, 0))) : (convert 43 9 (.slice (some ⟨q, 0, none⟩) 1 1)).run Try.prog W = .ok (.string (by1 n)) W := by
  have e : by1 n = ⟨[UInt8.ofNat (n % 256)].toArray⟩ := rfl
  rw [e]
  refine run_convert_bytes_back W 43 9 5 ⟨q, 0, none⟩ 1 [UInt8.ofNat (n % 256)] Try.underlying43 Try.underlying5 Try.underlying9 fun j hj => ?_
  match j, hj with
  | 0, _ =>
    rw [Addr.add_lit, cell_of_row _ _ _ _ _ _ h, hx]
    simp
set_option maxRecDepth 100000 in
theorem lef_app (v k : Nat) : (⟨(lef v k).toArray⟩ : ByteArray) ++ by1 (v / 256 ^ k) = ⟨(lef v (k + 1)).toArray⟩ := by
  apply ByteArray.ext
  rw [lef_succ]
  have : lb v k = UInt8.ofNat (v / 256 ^ k % 256) := by unfold lb; rw [Nat.pow_mul]
  rw [this]
  simp [by1, ByteArray.data_append]
set_option maxRecDepth 100000 in
set_option maxHeartbeats 2000000 in
theorem sput_any (v : Nat) (hv : v < 18446744073709551616) (width : Nat) (hw : width ≤ 8) (w : World) :
    Calls Try.prog 29 #[.int .u64 (v : Int), .int .i64 (width : Int)] w fun e w' => e = .returned (.string ⟨(lef v width).toArray⟩) ∧ Below w.heap.size w w' := by
  have z0 : (0 : Int) ≤ (width : Int) := by omega
  have z1 : (width : Int) ≤ 8 := by omega
  go_enter Try.func29, Try.ntmps29
  go_wp2_with fail
  go_loopw [0, 5, 6] (fun u s i wr => ∃ k : Nat, k ≤ width ∧ u = .int .u64 ((v / 256 ^ k : Nat) : Int) ∧ s = .string ⟨(lef v k).toArray⟩ ∧ i = .int .i64 (k : Int) ∧ Below w.heap.size w wr) (fun _ _ i _ => width - natOf i)
  case atStart => exact ⟨0, by omega, by rw [Nat.pow_zero, Nat.div_one], rfl, rfl, Below.refl _ _⟩
  case round =>
    obtain ⟨k, hk, rfl, rfl, rfl, hb⟩ := hrel
    have HB : Hid (Below w.heap.size w wr) := hb
    have k0 : (0 : Int) ≤ (k : Int) := by omega
    have k8 : (k : Int) ≤ 8 := by omega
    clear hb
    by_cases hlt : k < width
    · have q1 : (k : Int) < (width : Int) := by omega
      have HE : Hid (v / 256 ^ k / 256 = v / 256 ^ (k + 1)) := by
        refine (?_ : v / 256 ^ k / 256 = v / 256 ^ (k + 1))
        rw [Nat.pow_succ, Nat.div_div_eq_div_mul]
      have HU : Hid _ := lef_app v k
      have hxn : v / 256 ^ k ≤ v := Nat.div_le_self _ _
      have zs : (⟨(lef v k).toArray⟩ : ByteArray).size ≤ 8 := by simp [ByteArray.size, lef_len]; omega
      have zt : (by1 (v / 256 ^ k)).size = 1 := rfl
      generalize v / 256 ^ k = q at *
      have hcv := one_str (wr.alloc (.cells #[.int .u8 ((q : Int) % 256)] 5)) wr.heap.size ((q : Int) % 256) q (by omega) (heap_alloc_new wr _)
      generalize (⟨(lef v k).toArray⟩ : ByteArray) = x at *
      generalize by1 q = y at *
      have hx0 : (0 : Int) ≤ (q : Int) := by omega
      have hx1 : (q : Int) < 18446744073709551616 := by omega
      have hq : ¬ 9223372036854775807 < x.size + y.size := by omega
      clear zs zt
      have hq2 : IntKind.u64.wrap ((q : Int).tdiv 256) = ((q / 256 : Nat) : Int) := by
        rw [Int.tdiv_eq_ediv_of_nonneg hx0, IntKind.wrap_u64]
        all_goals omega
      clear hxn
      go_wp2_with fail
      refine ⟨⟨k + 1, by omega, by rw [← HE.out]; simp, by rw [HU.out], rfl, HB.out.alloc HB.out.size _⟩, ?_⟩
      simp only [natOf]
      omega
    · have q1 : ¬ (k : Int) < (width : Int) := by omega
      obtain rfl : k = width := by omega
      go_wp2_with fail
      go_ret
      exact ⟨rfl, HB.out⟩
/-- The number that the last bytes say. -/
def upS (s : ByteArray) : Nat → Nat
  | 0 => 0
  | k + 1 => 256 * upS s k + bt s (s.size - 1 - k)
set_option maxRecDepth 100000 in
theorem up_lt (s : ByteArray) (k : Nat) : upS s k < 256 ^ k := by
  induction k with
  | zero => simp [upS]
  | succ k ih =>
    have hb := bt_lt s (s.size - 1 - k)
    show 256 * upS s k + bt s (s.size - 1 - k) < 256 ^ (k + 1)
    rw [Nat.pow_succ]
    omega
set_option maxRecDepth 100000 in
theorem up_rd (s : ByteArray) (k : Nat) (hk : k ≤ s.size) : valB s s.size = valB s (s.size - k) + upS s k * 256 ^ (s.size - k) := by
  induction k with
  | zero => simp [upS]
  | succ k ih =>
    rw [ih (by omega)]
    obtain ⟨j, hj⟩ : ∃ j, s.size - k = j + 1 := ⟨s.size - k - 1, by omega⟩
    rw [hj, show s.size - (k + 1) = j by omega, valB, upS, show s.size - 1 - k = j by omega, Nat.pow_mul, Nat.pow_succ (n := 256), Nat.add_mul, Nat.mul_comm (256 ^ j) 256, ← Nat.mul_assoc, Nat.mul_comm (upS s k) 256]
    simp only [Nat.reducePow]
    omega
set_option maxRecDepth 100000 in
theorem up_all (s : ByteArray) : upS s s.size = valB s s.size := by
  have := up_rd s s.size (Nat.le_refl _)
  rw [Nat.sub_self] at this
  rw [this]
  simp [valB]
set_option maxRecDepth 100000 in
set_option maxHeartbeats 2000000 in
theorem sget_any (s : ByteArray) (hs : s.size ≤ 8) (w : World) :
    Calls Try.prog 44 #[.string s] w fun e w' => e = .returned (.int .u64 (valB s s.size : Int)) ∧ Below w.heap.size w w' := by
  have z0 : (0 : Int) ≤ (s.size : Int) := by omega
  have z1 : (s.size : Int) ≤ 8 := by omega
  have HU : Hid (upS s s.size = valB s s.size) := up_all s
  go_enter Try.func44, Try.ntmps44
  go_wp2_with fail
  go_loopw [3, 4] (fun v i wr => ∃ k : Nat, k ≤ s.size ∧ v = .int .u64 (upS s k : Int) ∧ i = .int .i64 ((s.size : Int) - 1 - (k : Int)) ∧ Below w.heap.size w wr) (fun _ i _ => (match i with | .int _ x => (x + 1).toNat | _ => 0))
  case atStart => exact ⟨0, Nat.zero_le _, rfl, by simp, Below.refl _ _⟩
  case round =>
    obtain ⟨k, hk, rfl, rfl, hb⟩ := hrel
    have HB : Hid (Below w.heap.size w wr) := hb
    clear hb
    have k0 : (0 : Int) ≤ (k : Int) := by omega
    by_cases hlt : k < s.size
    · obtain ⟨j, hj⟩ : ∃ j, s.size - 1 - k = j := ⟨_, rfl⟩
      have ej : (s.size : Int) - 1 - (k : Int) = (j : Int) := by omega
      have j0 : (0 : Int) ≤ (j : Int) := by omega
      have j8 : (j : Int) < 8 := by omega
      have hjl : j < s.size := by omega
      have hi8 : ∀ w', (Instr.index 9 (.string s) (.int .i64 (j : Int))).run Try.prog w' = .ok (.int .u8 (bt s j : Int)) w' := fun w' => idx_s s j hjl w'
      have HU2 : Hid (upS s (k + 1) = 256 * upS s k + bt s j) := by refine (?_ : upS s (k + 1) = 256 * upS s k + bt s j); rw [← hj]; rfl
      have hr := up_lt s k
      have hb := bt_lt s j
      have hp : 256 ^ k ≤ 256 ^ 7 := Nat.pow_le_pow_right (by decide) (by omega)
      have hlow : 256 * upS s k + bt s j < 18446744073709551616 := by
        have : 256 ^ 7 = 72057594037927936 := by decide
        omega
      rw [ej]
      clear hr hp
      generalize hy : bt s j = y at *
      generalize hx : upS s k = x at *
      have HX : Hid (upS s (k + 1) = 256 * x + y) := HU2.out
      obtain ⟨X, hX⟩ : ∃ X : Int, (x : Int) = X := ⟨_, rfl⟩
      obtain ⟨Y, hY⟩ : ∃ Y : Int, (y : Int) = Y := ⟨_, rfl⟩
      have HXY : Hid ((x : Int) = X ∧ (y : Int) = Y) := ⟨hX, hY⟩
      have r0 : 0 ≤ X := by omega
      have r1 : 0 ≤ Y := by omega
      have r2 : Y < 256 := by omega
      have hw1 : IntKind.u64.wrap (256 * X) = 256 * X := by rw [IntKind.wrap_u64] <;> omega
      have hw2 : IntKind.u64.wrap (256 * X + Y) = 256 * X + Y := by rw [IntKind.wrap_u64] <;> omega
      rw [hY] at hi8
      rw [hX]
      clear hX hY hlow hb hx hy
      go_wp2_with fail
      refine ⟨⟨k + 1, by omega, ?_, by congr 1; omega, HB.out⟩, ?_⟩
      · rw [HX.out, ← HXY.out.1, ← HXY.out.2]; simp
      · simp only
        omega
    · obtain rfl : k = s.size := by omega
      have ej : (s.size : Int) - 1 - (s.size : Int) = -1 := by omega
      rw [ej]
      go_wp2_with fail
      go_ret
      exact ⟨by rw [HU.out]; rfl, HB.out⟩
end Go.Proofs.Ytljponlfjombaaa.Rw
