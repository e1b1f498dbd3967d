/- A beginning of a page's bytes, and what has more, are no page's. -/
import Derived.Test.YtljponlfjombaaaQNH
import Derived.Test.YtljponlfjombaaaQNJ
namespace Go.Proofs.Ytljponlfjombaaa.Rw
open Go.RowKit Go.Lib Go.Shelf
open Go.Proofs.Ytljponlfjombaaa.Rc Go.Proofs.Ytljponlfjombaaa.Rq
set_option maxRecDepth 100000 in
theorem enc_cases (P : Pp) (ho : okP P) : (encE P = 90 ∧ encS P = ⟨#[]⟩ ∧ rpp P = false) ∨ (encE P = 0 ∧ rpp P = true ∧ encS P = ⟨(pB P).toArray⟩ ∧ 0 < (encS P).size ∧ (encS P).size ≤ 198 ∧ decOK (encS P) = true ∧ decP (encS P) = P ∧ (∀ n, n < (encS P).size → decOK ((encS P).extract 0 n) = false) ∧ (∀ c : Nat, decOK (encS P ++ ⟨#[UInt8.ofNat (c % 256)]⟩) = false)) := by
  cases hR : rpp P
  · refine .inl ⟨?_, ?_, rfl⟩
    · unfold encE; rw [hR]; rfl
    · unfold encS; rw [hR]; rfl
  · have e1 : encE P = 0 := by unfold encE; rw [hR]; rfl
    have e2 : encS P = ⟨(pB P).toArray⟩ := by unfold encS; rw [hR]; rfl
    have hl := pB_len hR
    have hz : (encS P).size = (pB P).length := by rw [e2]; simp [ByteArray.size]
    refine .inr ⟨e1, rfl, e2, by omega, by omega, ?_, ?_, fun n hn => ?_, fun c => ?_⟩
    · rw [e2]; exact (dec_enc hR ho).1
    · rw [e2]; exact (dec_enc hR ho).2
    · rw [e2, ByteArray.extract_mk, List.drop_zero, Nat.sub_zero]
      refine dec_less hR ho ((pB P).take n) ((pB P).drop n) (List.take_append_drop n _).symm fun e => ?_
      rw [List.drop_eq_nil_iff] at e
      omega
    · rw [e2]
      have : (⟨(pB P).toArray⟩ : ByteArray) ++ ⟨#[UInt8.ofNat (c % 256)]⟩ = ⟨(pB P ++ [UInt8.ofNat (c % 256)]).toArray⟩ := by
        apply ByteArray.ext
        simp [ByteArray.data_append]
      rw [this]
      exact dec_more hR ho _ (by simp)
set_option maxRecDepth 100000 in
set_option maxHeartbeats 4000000 in
theorem rowsEnds_walk (q : Pg) (P : Pp) (n : Int) (c : Nat) (hc : c < 256) (w : World) (h : PAt w q P) (ho : okP P) :
    Calls Try.prog 9 #[gv q, .int .i64 n, .int .u8 (c : Int)] w fun e w' => e = .returned (.bool true) ∧ Below w.heap.size w w' := by
  have HSH : Hid _ := shown_any
  have HCU : Hid _ := fun w' (h : PAt w' q P) => cut_p q P w' h
  have HEN : Hid _ := fun q' w' (h : PAt w' q' (cutP P)) => encode_p q' (cutP P) w' h (cut_ok ho)
  have HDE : Hid _ := decode_any
  have hcs := enc_cases (cutP P) (cut_ok ho)
  obtain ⟨s, hs⟩ : ∃ s, encS (cutP P) = s := ⟨_, rfl⟩
  rw [hs] at HEN hcs
  clear hs
  have h0 := below_new w (gcs q)
  have HB0 : Hid (Below w.heap.size w (w.alloc (gcs q))) := h0
  have HG0 : Hid ((w.alloc (gcs q)).heap[w.heap.size]? = some (gcs q)) := heap_alloc_new w _
  have HP0 : Hid (PAt (w.alloc (gcs q)) q P) := h.below h0 (Nat.le_refl _)
  obtain ⟨W0, hW0⟩ : ∃ W0, w.alloc (gcs q) = W0 := ⟨_, rfl⟩
  rw [hW0] at HB0 HG0 HP0
  obtain ⟨qk, qX, qY, qL, qro, qrn, qrc, qko, qkn, qkc, qnp, qnt⟩ := q
  have HW0 : Hid (w.alloc (.cells #[.int .i64 qk, .int .u32 (qX : Int), .int .u32 (qY : Int), .int .i64 qL, .slice qro qrn qrc, .slice qko qkn qkc, .int .u32 (qnp : Int), .string qnt] 30) = W0) := hW0
  clear h0 h ho hW0
  have HCS : Hid _ := hcs
  clear hcs
  simp only [gv] at HCU ⊢
  go_enter Try.func9, Try.ntmps9
  go_wp2_with fail
  rw [HW0.out]
  clear HW0
  refine (HSH.out W0).mono ?_
  rintro e w1 ⟨rfl, b1⟩
  have HB1 : Hid (Below w.heap.size w w1) := HB0.out.trans (b1.mono HB0.out.size)
  have HG1 : Hid (w1.heap[w.heap.size]? = some _) := (b1.block _ (Array.getElem?_eq_some_iff.1 HG0.out).1).trans HG0.out
  have HP1 : Hid _ := HP0.out.below b1 (Nat.le_refl _)
  obtain ⟨⟨c0, c1, c2, c3, c4, c5, c6, c7⟩, lB⟩ := pg_cells HG1.out
  simp only at c0 c1 c2 c3 c4 c5 c6 c7
  clear b1 HB0 HG0 HP0
  go_wp2_with fail
  refine (HCU.out w1 HP1.out).mono ?_
  rintro e w2 ⟨q1, rfl, p1, b2⟩
  have HB2 : Hid (Below w.heap.size w w2) := HB1.out.trans (b2.mono HB1.out.size)
  have HC2 : Hid (∀ _ : True, _) := fun _ => HEN.out q1 w2 p1
  clear b2 p1 HB1 HG1 HP1 c0 c1 c2 c3 c4 c5 c6 c7 lB
  simp only [gv] at HC2
  generalize (Value.agg #[.int .i64 q1.k, .int .u32 (q1.X : Int), .int .u32 (q1.Y : Int), .int .i64 q1.L, .slice q1.ro q1.rn q1.rc, .slice q1.ko q1.kn q1.kc, .int .u32 (q1.np : Int), .string q1.nt]) = v1 at HC2 ⊢
  go_wp2_with fail
  refine (HC2.out trivial).mono ?_
  rintro e w3 ⟨rfl, b3⟩
  have HB3 : Hid (Below w.heap.size w w3) := HB2.out.trans (b3.mono HB2.out.size)
  clear b3 HB2 HC2
  rcases HCS.out with ⟨e1, e2, -⟩ | ⟨e1, -, -, e3, e4, -, -, e7, e8⟩
  · rw [e1]
    clear e1 e2
    go_wp2_with fail
    go_ret
    exact ⟨rfl, HB3.out⟩
  · rw [e1]
    clear e1
    by_cases hn : n < 0
    · go_wp2_with fail
      go_ret
      exact ⟨rfl, HB3.out⟩
    · by_cases hn2 : (s.size : Int) ≤ n
      · go_wp2_with fail
        go_ret
        exact ⟨rfl, HB3.out⟩
      · obtain ⟨m, rfl⟩ : ∃ m : Nat, n = (m : Int) := ⟨n.toNat, by omega⟩
        have d1 : decE (s.extract 0 m) = 90 := by unfold decE; rw [e7 m (by omega)]; rfl
        have d2 : decE (s ++ by1 c) = 90 := by
          unfold decE
          have := e8 c
          have e : by1 c = ⟨#[UInt8.ofNat (c % 256)]⟩ := rfl
          rw [e, this]; rfl
        have q1 : ¬ (m : Int) < 0 := by omega
        have q2 : ¬ (s.size : Int) ≤ (m : Int) := by omega
        have q3 : (m : Int) ≤ (s.size : Int) := by omega
        have q4 : (0 : Int) ≤ (m : Int) := by omega
        have HD1 : Hid _ := HDE.out (s.extract 0 m)
        have HD2 : Hid _ := HDE.out (s ++ by1 c)
        rw [d1] at HD1
        rw [d2] at HD2
        clear d1 d2 e7 e8 e3 hn hn2
        go_wp2_with fail
        refine (HD1.out w3).mono ?_
        rintro e w4 ⟨q2, rfl, -, b4⟩
        obtain ⟨k2, X2, Y2, L2, ro2, rn2, rc2, ko2, kn2, kc2, np2, nt2⟩ := q2
        simp only [gv]
        have h5 := below_new w4 (gcs ⟨k2, X2, Y2, L2, ro2, rn2, rc2, ko2, kn2, kc2, np2, nt2⟩)
        have HB4 : Hid (Below w.heap.size w w4) := HB3.out.trans (b4.mono HB3.out.size)
        have HB5 : Hid (Below w.heap.size w (w4.alloc (gcs ⟨k2, X2, Y2, L2, ro2, rn2, rc2, ko2, kn2, kc2, np2, nt2⟩))) := HB4.out.trans (h5.mono HB4.out.size)
        obtain ⟨W5, hW5⟩ : ∃ W5, w4.alloc (gcs ⟨k2, X2, Y2, L2, ro2, rn2, rc2, ko2, kn2, kc2, np2, nt2⟩) = W5 := ⟨_, rfl⟩
        rw [hW5] at HB5
        have HW5 : Hid (w4.alloc (gcs ⟨k2, X2, Y2, L2, ro2, rn2, rc2, ko2, kn2, kc2, np2, nt2⟩) = W5) := hW5
        have hs5 : W5.heap.size = w4.heap.size + 1 := by rw [← hW5]; simp
        have h6 := below_new W5 (.cells #[.int .u8 (c : Int)] 5)
        have HB6 : Hid (Below w.heap.size w (W5.alloc (.cells #[.int .u8 (c : Int)] 5))) := HB5.out.trans (h6.mono HB5.out.size)
        have hcv := one_str (W5.alloc (.cells #[.int .u8 (c : Int)] 5)) W5.heap.size (c : Int) c (by omega) (heap_alloc_new W5 _)
        rw [← hW5, show (w4.alloc (gcs ⟨k2, X2, Y2, L2, ro2, rn2, rc2, ko2, kn2, kc2, np2, nt2⟩)).heap.size = w4.heap.size + 1 by simp] at hcv
        have hz : (by1 c).size = 1 := rfl
        have hq : ¬ 9223372036854775807 < s.size + 1 := by omega
        have HC6 : Hid (∀ _ : True, _) := fun _ => HD2.out (W5.alloc (.cells #[.int .u8 (c : Int)] 5))
        clear b4 h5 h6 hW5 hs5
        generalize by1 c = y at *
        go_wp2_with fail
        rw [HW5.out]
        refine (HC6.out trivial).mono ?_
        rintro e w6 ⟨q3, rfl, -, b6⟩
        obtain ⟨k3, X3, Y3, L3, ro3, rn3, rc3, ko3, kn3, kc3, np3, nt3⟩ := q3
        simp only [gv]
        have h7 := below_new w6 (gcs ⟨k3, X3, Y3, L3, ro3, rn3, rc3, ko3, kn3, kc3, np3, nt3⟩)
        have HB7 : Hid (Below w.heap.size w w6) := HB6.out.trans (b6.mono HB6.out.size)
        have HB8 : Hid (Below w.heap.size w (w6.alloc (gcs ⟨k3, X3, Y3, L3, ro3, rn3, rc3, ko3, kn3, kc3, np3, nt3⟩))) := HB7.out.trans (h7.mono HB7.out.size)
        clear b6 h7 hcv hq hz
        go_wp2_with fail
        go_ret
        exact ⟨rfl, HB8.out⟩
end Go.Proofs.Ytljponlfjombaaa.Rw
