/- PlainKeeps. -/
import Derived.Test.YthneciodobeehaaPUE
namespace Go.Proofs.Ythneciodobeehaa.Rp
open Go.RowKit Go.Lib
open Go.Proofs.Ythneciodobeehaa.Rc Go.Proofs.Ythneciodobeehaa.Rq
/-- A row in a block of its own. -/
def RB (g a b c : Nat) (s : ByteArray) (W : World) : Prop := W.heap[g]? = some (.cells #[.int .u64 (a : Int), .int .u32 (b : Int), .int .u32 (c : Int), .string s] 27 (0, 0))
set_option maxRecDepth 100000 in
theorem RB.grow {g a b c : Nat} {s : ByteArray} {W W' : World} (h : RB g a b c s W) (hb : Below W.heap.size W W') : RB g a b c s W' := (hb.block _ (lt_of h)).trans h
set_option maxRecDepth 100000 in
theorem rb_new (W : World) (a b c : Nat) (s : ByteArray) : RB W.heap.size a b c s (W.alloc (.cells #[.int .u64 (a : Int), .int .u32 (b : Int), .int .u32 (c : Int), .string s] 27)) := heap_alloc_new W _
set_option maxRecDepth 100000 in
set_option maxHeartbeats 8000000 in
theorem plainKeeps_walk (l : List Rw) (r : Rw) (id : Nat) (o : Option Addr) (cap : Nat) (w : World) (hr : RowsAt w o cap l) : Calls Try.prog 6 #[.slice o l.length cap, rv r, .int .u64 (id : Int)] w fun e w' => e = .returned (.bool true) ∧ Below w.heap.size w w' := by
  obtain ⟨r0, r1, r2, r3⟩ := r
  have hb := below_new w (.cells #[.int .u64 (r0 : Int), .int .u32 (r1 : Int), .int .u32 (r2 : Int), .string r3] 27)
  have hg := rb_new w r0 r1 r2 r3
  obtain ⟨W0, hW0⟩ : ∃ W0, w.alloc (.cells #[.int .u64 (r0 : Int), .int .u32 (r1 : Int), .int .u32 (r2 : Int), .string r3] 27) = W0 := ⟨_, rfl⟩
  rw [hW0] at hb hg
  have HW0 : Hid _ := hW0
  have Kr0 : Hid (RB w.heap.size r0 r1 r2 r3 W0) := hg
  have HB0 : Hid (Below w.heap.size w W0) := hb
  obtain ⟨L, hL⟩ : ∃ L, l.take 60 = L := ⟨_, rfl⟩
  have hlen : L.length ≤ 60 := by rw [← hL, List.length_take]; omega
  have HF : Hid (∀ W, RowsAt W o cap l → Calls Try.prog 13 #[.slice o l.length cap] W fun e w' => e = .returned (.slice o L.length cap) ∧ w' = W) := fun W hW => by rw [← hL]; exact few_any l o cap W hW
  have HL0 : Hid (RowsAt w o cap l) := hr
  have HL : Hid (RowsAt w o cap L) := by rw [← hL]; exact hr.head 60
  clear hL
  have HP : Hid _ := keeps_plain (l := L) hlen ⟨r0, r1, r2, r3⟩ id
  have HA : Hid (∀ W, RowsAt W o cap L → Calls Try.prog 15 #[.slice o L.length cap, ov ⟨1, ⟨r0, r1, r2, r3⟩⟩] W (KP (apL L ⟨1, ⟨r0, r1, r2, r3⟩⟩) (apE L ⟨1, ⟨r0, r1, r2, r3⟩⟩) W)) := fun W hW => apply_any o cap L _ W hW
  generalize apE L ⟨1, ⟨r0, r1, r2, r3⟩⟩ = E at *
  generalize apL L ⟨1, ⟨r0, r1, r2, r3⟩⟩ = M at *
  have HD : Hid (∀ W o' cap', RowsAt W o' cap' M → Calls Try.prog 15 #[.slice o' M.length cap', ov ⟨3, ⟨r0, 0, 0, ⟨#[]⟩⟩⟩] W (KP (apL M ⟨3, ⟨r0, 0, 0, ⟨#[]⟩⟩⟩) (apE M ⟨3, ⟨r0, 0, 0, ⟨#[]⟩⟩⟩) W)) := fun W o' cap' hW => apply_any o' cap' M _ W hW
  simp only at HP
  generalize apE M ⟨3, ⟨r0, 0, 0, ⟨#[]⟩⟩⟩ = G at *
  generalize apL M ⟨3, ⟨r0, 0, 0, ⟨#[]⟩⟩⟩ = N at *
  have HGa : Hid (∀ W o' cap', RowsAt W o' cap' M → Calls Try.prog 12 #[.slice o' M.length cap', .int .u64 (r0 : Int)] W fun e w' => e = .returned (.tuple #[rv (getV M r0), .int .i64 (getE M r0)]) ∧ Below W.heap.size W w') := fun W o' cap' hW => get_any o' cap' M r0 W hW
  have HGb : Hid (∀ W o' cap', RowsAt W o' cap' N → Calls Try.prog 12 #[.slice o' N.length cap', .int .u64 (r0 : Int)] W fun e w' => e = .returned (.tuple #[rv (getV N r0), .int .i64 (getE N r0)]) ∧ Below W.heap.size W w') := fun W o' cap' hW => get_any o' cap' N r0 W hW
  have HGx : Hid (∀ W, RowsAt W o cap L → Calls Try.prog 12 #[.slice o L.length cap, .int .u64 (id : Int)] W fun e w' => e = .returned (.tuple #[rv (getV L id), .int .i64 (getE L id)]) ∧ Below W.heap.size W w') := fun W hW => get_any o cap L id W hW
  have HGy : Hid (∀ W o' cap', RowsAt W o' cap' M → Calls Try.prog 12 #[.slice o' M.length cap', .int .u64 (id : Int)] W fun e w' => e = .returned (.tuple #[rv (getV M id), .int .i64 (getE M id)]) ∧ Below W.heap.size W w') := fun W o' cap' hW => get_any o' cap' M id W hW
  have HGz : Hid (∀ W o' cap', RowsAt W o' cap' N → Calls Try.prog 12 #[.slice o' N.length cap', .int .u64 (id : Int)] W fun e w' => e = .returned (.tuple #[rv (getV N id), .int .i64 (getE N id)]) ∧ Below W.heap.size W w') := fun W o' cap' hW => get_any o' cap' N id W hW
  generalize getV M r0 = Va at *
  generalize getE M r0 = Ea at *
  generalize getV N r0 = Vb at *
  generalize getE N r0 = Eb at *
  generalize getV L id = Vx at *
  generalize getE L id = Ex at *
  generalize getV M id = Vy at *
  generalize getE M id = Ey at *
  generalize getV N id = Vz at *
  generalize getE N id = Ez at *
  obtain ⟨b0, b1, b2, b3⟩ := Vb
  obtain ⟨x0, x1, x2, x3⟩ := Vx
  obtain ⟨y0, y1, y2, y3⟩ := Vy
  obtain ⟨z0, z1, z2, z3⟩ := Vz
  simp only [rv, ov] at HA HD HGa HGb HGx HGy HGz ⊢
  clear hb hg hW0 hr
  go_enter Try.func6, Try.ntmps6
  go_wp2_with (first | (rw [HW0.out]; clear HW0))
  refine (pshown_any _).mono ?_
  rintro e w1 ⟨rfl, q1⟩
  have HB1 : Hid (Below w.heap.size w w1) := HB0.out.trans (q1.mono HB0.out.size)
  have Kr1 : Hid (RB w.heap.size r0 r1 r2 r3 w1) := Kr0.out.grow q1
  clear q1 Kr0 HB0
  go_wp2_with fail
  refine (HF.out _ (HL0.out.below HB1.out (Nat.le_refl _))).mono ?_
  rintro e w9 ⟨rfl, hw9⟩
  have hw9' := hw9.symm
  clear hw9
  subst hw9'
  obtain ⟨-, -, -, -, e0, e1, e2, e3⟩ := row_facts Kr1.out
  go_wp2_with fail
  refine Calls.mono (HA.out _ (HL.out.below HB1.out (Nat.le_refl _))) ?_
  rintro e w2 ⟨oM, capM, rfl, hr2, q2, -⟩
  have HB2 : Hid (Below w.heap.size w w2) := HB1.out.trans (q2.mono HB1.out.size)
  have Kr2 : Hid (RB w.heap.size r0 r1 r2 r3 w2) := Kr1.out.grow q2
  have RM2 : Hid (RowsAt w2 oM capM M) := hr2
  clear q2 hr2 Kr1 HB1 HA e0 e1 e2 e3
  obtain ⟨-, -, -, -, e0, e1, e2, e3⟩ := row_facts Kr2.out
  rcases HP.out with ⟨h1, h2⟩ | ⟨h1, h2, h3, h4, h5, h6, h7, h8⟩
  · have hE1 : decide (E = 0) = false := decide_eq_false h1
    have hE2 : (E == 0) = false := by simpa using h1
    have hE3 : (E != 0) = true := by simpa using h1
    have HQ : Hid (∀ _ : True, _) := fun _ => qright_any L o cap w2 (HL.out.below HB2.out (Nat.le_refl _))
    have HQ2 : Hid (∀ W, _) := fun W => rightRow_any ⟨r0, r1, r2, r3⟩ W
    clear HP h1 HD HGa HGb HGx HGy HGz RM2 e0 e1 e2 e3
    cases hL1 : rightL L with
    | false =>
      rw [hL1] at HQ
      clear h2 hL1 HQ2
      go_wp2_with fail
      refine Calls.mono (HQ.out trivial) ?_
      rintro e w3 ⟨rfl, q3⟩
      have HB3 : Hid (Below w.heap.size w w3) := HB2.out.trans (q3.mono HB2.out.size)
      clear q3 HQ
      go_wp2_with fail
      go_ret
      exact ⟨rfl, HB3.out⟩
    | true =>
      rw [hL1] at HQ h2
      have hR : rightRow ⟨r0, r1, r2, r3⟩ = false := h2.resolve_left (by decide)
      rw [hR] at HQ2
      clear h2 hL1 hR
      go_wp2_with fail
      refine Calls.mono (HQ.out trivial) ?_
      rintro e w3 ⟨rfl, q3⟩
      have HB3 : Hid (Below w.heap.size w w3) := HB2.out.trans (q3.mono HB2.out.size)
      obtain ⟨-, -, -, -, e0, e1, e2, e3⟩ := row_facts (Kr2.out.grow q3)
      clear q3 HQ Kr2
      go_wp2_with fail
      refine Calls.mono (HQ2.out _) ?_
      rintro e w4 ⟨rfl, q4⟩
      have HB4 : Hid (Below w.heap.size w w4) := HB3.out.trans (q4.mono HB3.out.size)
      clear q4 HQ2
      go_wp2_with fail
      go_ret
      exact ⟨rfl, HB4.out⟩
  subst h1 h2 h3 h4 h5
  have HP8 : Hid _ := h8
  have HR6 : Hid (rightL M = true) := h6
  have HR7 : Hid (rightL N = true) := h7
  clear HP h6 h7 h8
  go_wp2_with fail
  refine Calls.mono (HGa.out _ _ _ RM2.out) ?_
  rintro e v2 ⟨rfl, q2⟩
  have HB3 : Hid (Below w.heap.size w v2) := HB2.out.trans (q2.mono HB2.out.size)
  have Kr3 : Hid (RB w.heap.size r0 r1 r2 r3 v2) := Kr2.out.grow q2
  have RM3 : Hid (RowsAt v2 oM capM M) := RM2.out.below q2 (Nat.le_refl _)
  clear q2 HGa e0 e1 e2 e3 HB2 Kr2 RM2
  have qa3 := below_new v2 (.cells #[.int .u64 (r0 : Int), .int .u32 (r1 : Int), .int .u32 (r2 : Int), .string r3] 27)
  have ga3 := rb_new v2 r0 r1 r2 r3
  obtain ⟨U3, hU3⟩ : ∃ U3, v2.alloc (.cells #[.int .u64 (r0 : Int), .int .u32 (r1 : Int), .int .u32 (r2 : Int), .string r3] 27) = U3 := ⟨_, rfl⟩
  rw [hU3] at qa3 ga3
  have HU3 : Hid _ := hU3
  have HB4 : Hid (Below w.heap.size w U3) := HB3.out.trans (qa3.mono HB3.out.size)
  have Kr4 : Hid (RB w.heap.size r0 r1 r2 r3 U3) := Kr3.out.grow qa3
  have RM4 : Hid (RowsAt U3 oM capM M) := RM3.out.below qa3 (Nat.le_refl _)
  have Ka4 : Hid (RB v2.heap.size r0 r1 r2 r3 U3) := ga3
  clear qa3 ga3 hU3 HB3 Kr3 RM3
  obtain ⟨-, -, -, -, e0, e1, e2, e3⟩ := row_facts Kr4.out
  go_wp2_with (first | (rw [HU3.out]; clear HU3))
  refine Calls.mono (HD.out _ _ _ RM4.out) ?_
  rintro e v4 ⟨oN, capN, rfl, hr4, q4, -⟩
  have HB5 : Hid (Below w.heap.size w v4) := HB4.out.trans (q4.mono HB4.out.size)
  have Kr5 : Hid (RB w.heap.size r0 r1 r2 r3 v4) := Kr4.out.grow q4
  have Ka5 : Hid (RB v2.heap.size r0 r1 r2 r3 v4) := Ka4.out.grow q4
  have RM5 : Hid (RowsAt v4 oM capM M) := RM4.out.below q4 (Nat.le_refl _)
  have RN5 : Hid (RowsAt v4 oN capN N) := hr4
  clear q4 hr4 HD e0 e1 e2 e3 HB4 Kr4 Ka4 RM4
  obtain ⟨-, -, -, -, e0, e1, e2, e3⟩ := row_facts Kr5.out
  go_wp2_with fail
  refine Calls.mono (HGb.out _ _ _ RN5.out) ?_
  rintro e v5 ⟨rfl, q5⟩
  have HB6 : Hid (Below w.heap.size w v5) := HB5.out.trans (q5.mono HB5.out.size)
  have Kr6 : Hid (RB w.heap.size r0 r1 r2 r3 v5) := Kr5.out.grow q5
  have Ka6 : Hid (RB v2.heap.size r0 r1 r2 r3 v5) := Ka5.out.grow q5
  have RM6 : Hid (RowsAt v5 oM capM M) := RM5.out.below q5 (Nat.le_refl _)
  have RN6 : Hid (RowsAt v5 oN capN N) := RN5.out.below q5 (Nat.le_refl _)
  clear q5 HGb e0 e1 e2 e3 HB5 Kr5 Ka5 RM5 RN5
  have qa6 := below_new v5 (.cells #[.int .u64 (b0 : Int), .int .u32 (b1 : Int), .int .u32 (b2 : Int), .string b3] 27)
  have ga6 := rb_new v5 b0 b1 b2 b3
  obtain ⟨U6, hU6⟩ : ∃ U6, v5.alloc (.cells #[.int .u64 (b0 : Int), .int .u32 (b1 : Int), .int .u32 (b2 : Int), .string b3] 27) = U6 := ⟨_, rfl⟩
  rw [hU6] at qa6 ga6
  have HU6 : Hid _ := hU6
  have HB7 : Hid (Below w.heap.size w U6) := HB6.out.trans (qa6.mono HB6.out.size)
  have Kr7 : Hid (RB w.heap.size r0 r1 r2 r3 U6) := Kr6.out.grow qa6
  have Ka7 : Hid (RB v2.heap.size r0 r1 r2 r3 U6) := Ka6.out.grow qa6
  have RM7 : Hid (RowsAt U6 oM capM M) := RM6.out.below qa6 (Nat.le_refl _)
  have RN7 : Hid (RowsAt U6 oN capN N) := RN6.out.below qa6 (Nat.le_refl _)
  have Kb7 : Hid (RB v5.heap.size b0 b1 b2 b3 U6) := ga6
  clear qa6 ga6 hU6 HB6 Kr6 Ka6 RM6 RN6
  obtain ⟨-, -, -, -, e0, e1, e2, e3⟩ := row_facts Kr7.out
  go_wp2_with (first | (rw [HU6.out]; clear HU6))
  refine Calls.mono (HGx.out _ (HL.out.below HB7.out (Nat.le_refl _))) ?_
  rintro e v7 ⟨rfl, q7⟩
  have HB8 : Hid (Below w.heap.size w v7) := HB7.out.trans (q7.mono HB7.out.size)
  have Kr8 : Hid (RB w.heap.size r0 r1 r2 r3 v7) := Kr7.out.grow q7
  have Ka8 : Hid (RB v2.heap.size r0 r1 r2 r3 v7) := Ka7.out.grow q7
  have Kb8 : Hid (RB v5.heap.size b0 b1 b2 b3 v7) := Kb7.out.grow q7
  have RM8 : Hid (RowsAt v7 oM capM M) := RM7.out.below q7 (Nat.le_refl _)
  have RN8 : Hid (RowsAt v7 oN capN N) := RN7.out.below q7 (Nat.le_refl _)
  clear q7 HGx e0 e1 e2 e3 HB7 Kr7 Ka7 Kb7 RM7 RN7
  have qa8 := below_new v7 (.cells #[.int .u64 (x0 : Int), .int .u32 (x1 : Int), .int .u32 (x2 : Int), .string x3] 27)
  have ga8 := rb_new v7 x0 x1 x2 x3
  obtain ⟨U8, hU8⟩ : ∃ U8, v7.alloc (.cells #[.int .u64 (x0 : Int), .int .u32 (x1 : Int), .int .u32 (x2 : Int), .string x3] 27) = U8 := ⟨_, rfl⟩
  rw [hU8] at qa8 ga8
  have HU8 : Hid _ := hU8
  have HB9 : Hid (Below w.heap.size w U8) := HB8.out.trans (qa8.mono HB8.out.size)
  have Kr9 : Hid (RB w.heap.size r0 r1 r2 r3 U8) := Kr8.out.grow qa8
  have Ka9 : Hid (RB v2.heap.size r0 r1 r2 r3 U8) := Ka8.out.grow qa8
  have Kb9 : Hid (RB v5.heap.size b0 b1 b2 b3 U8) := Kb8.out.grow qa8
  have RM9 : Hid (RowsAt U8 oM capM M) := RM8.out.below qa8 (Nat.le_refl _)
  have RN9 : Hid (RowsAt U8 oN capN N) := RN8.out.below qa8 (Nat.le_refl _)
  have Kx9 : Hid (RB v7.heap.size x0 x1 x2 x3 U8) := ga8
  clear qa8 ga8 hU8 HB8 Kr8 Ka8 Kb8 RM8 RN8
  obtain ⟨-, -, -, -, e0, e1, e2, e3⟩ := row_facts Kr9.out
  go_wp2_with (first | (rw [HU8.out]; clear HU8))
  refine Calls.mono (HGy.out _ _ _ RM9.out) ?_
  rintro e v9 ⟨rfl, q9⟩
  have HB10 : Hid (Below w.heap.size w v9) := HB9.out.trans (q9.mono HB9.out.size)
  have Kr10 : Hid (RB w.heap.size r0 r1 r2 r3 v9) := Kr9.out.grow q9
  have Ka10 : Hid (RB v2.heap.size r0 r1 r2 r3 v9) := Ka9.out.grow q9
  have Kb10 : Hid (RB v5.heap.size b0 b1 b2 b3 v9) := Kb9.out.grow q9
  have Kx10 : Hid (RB v7.heap.size x0 x1 x2 x3 v9) := Kx9.out.grow q9
  have RM10 : Hid (RowsAt v9 oM capM M) := RM9.out.below q9 (Nat.le_refl _)
  have RN10 : Hid (RowsAt v9 oN capN N) := RN9.out.below q9 (Nat.le_refl _)
  clear q9 HGy e0 e1 e2 e3 HB9 Kr9 Ka9 Kb9 Kx9 RM9 RN9
  have qa10 := below_new v9 (.cells #[.int .u64 (y0 : Int), .int .u32 (y1 : Int), .int .u32 (y2 : Int), .string y3] 27)
  have ga10 := rb_new v9 y0 y1 y2 y3
  obtain ⟨U10, hU10⟩ : ∃ U10, v9.alloc (.cells #[.int .u64 (y0 : Int), .int .u32 (y1 : Int), .int .u32 (y2 : Int), .string y3] 27) = U10 := ⟨_, rfl⟩
  rw [hU10] at qa10 ga10
  have HU10 : Hid _ := hU10
  have HB11 : Hid (Below w.heap.size w U10) := HB10.out.trans (qa10.mono HB10.out.size)
  have Kr11 : Hid (RB w.heap.size r0 r1 r2 r3 U10) := Kr10.out.grow qa10
  have Ka11 : Hid (RB v2.heap.size r0 r1 r2 r3 U10) := Ka10.out.grow qa10
  have Kb11 : Hid (RB v5.heap.size b0 b1 b2 b3 U10) := Kb10.out.grow qa10
  have Kx11 : Hid (RB v7.heap.size x0 x1 x2 x3 U10) := Kx10.out.grow qa10
  have RM11 : Hid (RowsAt U10 oM capM M) := RM10.out.below qa10 (Nat.le_refl _)
  have RN11 : Hid (RowsAt U10 oN capN N) := RN10.out.below qa10 (Nat.le_refl _)
  have Ky11 : Hid (RB v9.heap.size y0 y1 y2 y3 U10) := ga10
  clear qa10 ga10 hU10 HB10 Kr10 Ka10 Kb10 Kx10 RM10 RN10
  obtain ⟨-, -, -, -, e0, e1, e2, e3⟩ := row_facts Kr11.out
  go_wp2_with (first | (rw [HU10.out]; clear HU10))
  refine Calls.mono (HGz.out _ _ _ RN11.out) ?_
  rintro e v11 ⟨rfl, q11⟩
  have HB12 : Hid (Below w.heap.size w v11) := HB11.out.trans (q11.mono HB11.out.size)
  have Kr12 : Hid (RB w.heap.size r0 r1 r2 r3 v11) := Kr11.out.grow q11
  have Ka12 : Hid (RB v2.heap.size r0 r1 r2 r3 v11) := Ka11.out.grow q11
  have Kb12 : Hid (RB v5.heap.size b0 b1 b2 b3 v11) := Kb11.out.grow q11
  have Kx12 : Hid (RB v7.heap.size x0 x1 x2 x3 v11) := Kx11.out.grow q11
  have Ky12 : Hid (RB v9.heap.size y0 y1 y2 y3 v11) := Ky11.out.grow q11
  have RM12 : Hid (RowsAt v11 oM capM M) := RM11.out.below q11 (Nat.le_refl _)
  have RN12 : Hid (RowsAt v11 oN capN N) := RN11.out.below q11 (Nat.le_refl _)
  clear q11 HGz e0 e1 e2 e3 HB11 Kr11 Ka11 Kb11 Kx11 Ky11 RM11 RN11
  have qa12 := below_new v11 (.cells #[.int .u64 (z0 : Int), .int .u32 (z1 : Int), .int .u32 (z2 : Int), .string z3] 27)
  have ga12 := rb_new v11 z0 z1 z2 z3
  obtain ⟨U12, hU12⟩ : ∃ U12, v11.alloc (.cells #[.int .u64 (z0 : Int), .int .u32 (z1 : Int), .int .u32 (z2 : Int), .string z3] 27) = U12 := ⟨_, rfl⟩
  rw [hU12] at qa12 ga12
  have HU12 : Hid _ := hU12
  have HB13 : Hid (Below w.heap.size w U12) := HB12.out.trans (qa12.mono HB12.out.size)
  have Kr13 : Hid (RB w.heap.size r0 r1 r2 r3 U12) := Kr12.out.grow qa12
  have Ka13 : Hid (RB v2.heap.size r0 r1 r2 r3 U12) := Ka12.out.grow qa12
  have Kb13 : Hid (RB v5.heap.size b0 b1 b2 b3 U12) := Kb12.out.grow qa12
  have Kx13 : Hid (RB v7.heap.size x0 x1 x2 x3 U12) := Kx12.out.grow qa12
  have Ky13 : Hid (RB v9.heap.size y0 y1 y2 y3 U12) := Ky12.out.grow qa12
  have RM13 : Hid (RowsAt U12 oM capM M) := RM12.out.below qa12 (Nat.le_refl _)
  have RN13 : Hid (RowsAt U12 oN capN N) := RN12.out.below qa12 (Nat.le_refl _)
  have Kz13 : Hid (RB v11.heap.size z0 z1 z2 z3 U12) := ga12
  clear qa12 ga12 hU12 HB12 Kr12 Ka12 Kb12 Kx12 Ky12 RM12 RN12
  obtain ⟨-, -, -, -, e0, e1, e2, e3⟩ := row_facts Kr13.out
  clear e0 e1 e2 e3
  obtain ⟨-, -, -, -, e0, e1, e2, e3⟩ := row_facts Kr13.out
  obtain ⟨-, -, -, -, f0, f1, f2, f3⟩ := row_facts Ka13.out
  have hneq := fun W => neq_row r0 r1 r2 r0 r1 r2 r3 r3 W
  rw [(eqR_iff _ _).2 rfl] at hneq
  have HQM : Hid (∀ _ : True, _) := fun _ => qright_any M oM capM U12 RM13.out
  rw [HR6.out] at HQM
  go_wp2_with (first | (rw [HU12.out]; clear HU12))
  refine Calls.mono (HQM.out trivial) ?_
  rintro e v13 ⟨rfl, q13⟩
  have HB14 : Hid (Below w.heap.size w v13) := HB13.out.trans (q13.mono HB13.out.size)
  have Kr14 : Hid (RB w.heap.size r0 r1 r2 r3 v13) := Kr13.out.grow q13
  have Ka14 : Hid (RB v2.heap.size r0 r1 r2 r3 v13) := Ka13.out.grow q13
  have Kb14 : Hid (RB v5.heap.size b0 b1 b2 b3 v13) := Kb13.out.grow q13
  have Kx14 : Hid (RB v7.heap.size x0 x1 x2 x3 v13) := Kx13.out.grow q13
  have Ky14 : Hid (RB v9.heap.size y0 y1 y2 y3 v13) := Ky13.out.grow q13
  have Kz14 : Hid (RB v11.heap.size z0 z1 z2 z3 v13) := Kz13.out.grow q13
  have RM14 : Hid (RowsAt v13 oM capM M) := RM13.out.below q13 (Nat.le_refl _)
  have RN14 : Hid (RowsAt v13 oN capN N) := RN13.out.below q13 (Nat.le_refl _)
  clear q13 HQM e0 e1 e2 e3 f0 f1 f2 f3 HB13 Kr13 Ka13 Kb13 Kx13 Ky13 Kz13 RM13 RN13
  have HQN : Hid (∀ _ : True, _) := fun _ => qright_any N oN capN v13 RN14.out
  rw [HR7.out] at HQN
  go_wp2_with fail
  refine Calls.mono (HQN.out trivial) ?_
  rintro e v14 ⟨rfl, q14⟩
  have HB15 : Hid (Below w.heap.size w v14) := HB14.out.trans (q14.mono HB14.out.size)
  have Kr15 : Hid (RB w.heap.size r0 r1 r2 r3 v14) := Kr14.out.grow q14
  have Ka15 : Hid (RB v2.heap.size r0 r1 r2 r3 v14) := Ka14.out.grow q14
  have Kb15 : Hid (RB v5.heap.size b0 b1 b2 b3 v14) := Kb14.out.grow q14
  have Kx15 : Hid (RB v7.heap.size x0 x1 x2 x3 v14) := Kx14.out.grow q14
  have Ky15 : Hid (RB v9.heap.size y0 y1 y2 y3 v14) := Ky14.out.grow q14
  have Kz15 : Hid (RB v11.heap.size z0 z1 z2 z3 v14) := Kz14.out.grow q14
  have RM15 : Hid (RowsAt v14 oM capM M) := RM14.out.below q14 (Nat.le_refl _)
  have RN15 : Hid (RowsAt v14 oN capN N) := RN14.out.below q14 (Nat.le_refl _)
  clear q14 HQN HB14 Kr14 Ka14 Kb14 Kx14 Ky14 Kz14 RM14 RN14
  obtain ⟨-, -, -, -, e0, e1, e2, e3⟩ := row_facts Kr15.out
  rcases HP8.out with h | ⟨h1, h2, h3, h4, h5⟩
  · subst h
    have i1 : decide ((id : Int) = (id : Int)) = true := by simp
    have i2 : ((id : Int) == (id : Int)) = true := by simp
    go_wp2_with fail
    go_ret
    exact ⟨rfl, HB15.out⟩
  · have i1 : decide ((id : Int) = (r0 : Int)) = false := decide_eq_false (by omega)
    have i2 : ((id : Int) == (r0 : Int)) = false := by rw [beq_eq_false_iff_ne]; omega
    cases h2
    cases h3
    subst h4 h5
    have heq := fun W => eql_row x0 x1 x2 x0 x1 x2 x3 x3 W
    rw [(eqR_iff _ _).2 rfl] at heq
    obtain ⟨-, -, -, -, f0, f1, f2, f3⟩ := row_facts Kx15.out
    obtain ⟨-, -, -, -, g0, g1, g2, g3⟩ := row_facts Ky15.out
    obtain ⟨-, -, -, -, k0, k1, k2, k3⟩ := row_facts Kz15.out
    go_wp2_with fail
    go_ret
    exact ⟨rfl, HB15.out⟩
end Go.Proofs.Ythneciodobeehaa.Rp
