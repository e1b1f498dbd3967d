/- The reference: a page's bytes. -/
import Derived.Test.YtljponlfjombaaaPNF
import Derived.Test.YtljponlfjombaaaQNH
import Derived.Test.YtljponlfjombaaaQNJ
namespace Go.Proofs.Ytljponlfjombaaa.Rw
open Go.RowKit Go.Lib Go.Shelf
open Go.Proofs.Ytljponlfjombaaa.Rc Go.Proofs.Ytljponlfjombaaa.Rq
set_option maxRecDepth 100000 in
set_option maxHeartbeats 2000000 in
theorem senc_no (q : Pg) (P : Pp) (w : World) (h : PAt w q P) (hR : rpp P = false) :
    Calls Try.prog 17 #[gv q] w fun e w' => e = .returned (.tuple #[.string ⟨#[]⟩, .int .i64 90]) ∧ Below w.heap.size w w' := by
  have hbn := below_new w (gcs q)
  have HPR : Hid (∀ _ : True, _) := fun _ => sright_p q P (w.alloc (gcs q)) (h.below hbn (Nat.le_refl _))
  rw [hR] at HPR
  have HB : Hid (Below w.heap.size w (w.alloc (gcs q))) := hbn
  clear hbn hR h
  go_enter Try.func17, Try.ntmps17
  go_wp2_with fail
  refine Calls.mono (HPR.out trivial) ?_
  rintro e w2 ⟨rfl, b2⟩
  have HB2 : Hid (Below w.heap.size w w2) := HB.out.trans (b2.mono HB.out.size)
  clear b2 HPR HB
  go_wp2_with fail
  go_ret2
  exact ⟨rfl, HB2.out⟩
set_option maxRecDepth 100000 in
theorem senc_p (q : Pg) (P : Pp) (w : World) (h : PAt w q P) (ho : okP P) :
    Calls Try.prog 17 #[gv q] w fun e w' => e = .returned (.tuple #[.string (encS P), .int .i64 (encE P)]) ∧ Below w.heap.size w w' := by
  unfold encS encE
  cases hR : rpp P
  · exact senc_no q P w h hR
  · have hr := h.rpp
    rw [hR] at hr
    rcases rpp_kind hR with hk | hk
    · have := senc_leaf q P.l P.ks w h.at' (by rw [h.np]; exact ho.np) ho.rows (by rw [h.k]; exact hk) hr
      have e : pB P = leafB P.l q.np q.nt := by unfold pB; rw [if_pos hk, h.np, h.nt]
      rw [e]
      simpa using this
    · have := senc_inner q P.l P.ks w h.at' ho.kids (by rw [h.k]; exact hk) hr
      have e : pB P = innerB q.X q.Y q.L.toNat P.ks := by unfold pB; rw [if_neg (by omega), h.X, h.Y, h.L]
      rw [e]
      simpa using this
end Go.Proofs.Ytljponlfjombaaa.Rw
/- A page's bytes are the document's. -/
namespace Go.Proofs.Ytljponlfjombaaa.Rw
open Go.RowKit Go.Lib Go.Shelf
open Go.Proofs.Ytljponlfjombaaa.Rc Go.Proofs.Ytljponlfjombaaa.Rq
set_option maxRecDepth 100000 in
set_option maxHeartbeats 4000000 in
theorem rowsBytes_walk (q : Pg) (P : Pp) (w : World) (h : PAt w q P) (ho : okP P) :
    Calls Try.prog 4 #[gv q] w fun e w' => e = .returned (.bool true) ∧ Below w.heap.size w w' := by
  have HSH : Hid _ := shown_any
  have HCU : Hid _ := fun w' (h : PAt w' q P) => cut_p q P w' h
  have HEN : Hid _ := fun q' w' (h : PAt w' q' (cutP P)) => encode_p q' (cutP P) w' h (cut_ok ho)
  have HSE : Hid _ := fun q' w' (h : PAt w' q' (cutP P)) => senc_p q' (cutP P) w' h (cut_ok ho)
  obtain ⟨s, hs⟩ : ∃ s, encS (cutP P) = s := ⟨_, rfl⟩
  obtain ⟨x, hx⟩ : ∃ x, encE (cutP P) = x := ⟨_, rfl⟩
  rw [hs, hx] at HEN HSE
  clear hs hx
  have h0 := below_new w (gcs q)
  have HB0 : Hid (Below w.heap.size w (w.alloc (gcs q))) := h0
  have HG0 : Hid ((w.alloc (gcs q)).heap[w.heap.size]? = some (gcs q)) := heap_alloc_new w _
  have HP0 : Hid (PAt (w.alloc (gcs q)) q P) := h.below h0 (Nat.le_refl _)
  obtain ⟨W0, hW0⟩ : ∃ W0, w.alloc (gcs q) = W0 := ⟨_, rfl⟩
  rw [hW0] at HB0 HG0 HP0
  obtain ⟨qk, qX, qY, qL, qro, qrn, qrc, qko, qkn, qkc, qnp, qnt⟩ := q
  have HW0 : Hid (w.alloc (.cells #[.int .i64 qk, .int .u32 (qX : Int), .int .u32 (qY : Int), .int .i64 qL, .slice qro qrn qrc, .slice qko qkn qkc, .int .u32 (qnp : Int), .string qnt] 30) = W0) := hW0
  clear h0 h ho hW0
  simp only [gv] at HCU ⊢
  go_enter Try.func4, Try.ntmps4
  go_wp2_with fail
  rw [HW0.out]
  clear HW0
  refine (HSH.out W0).mono ?_
  rintro e w1 ⟨rfl, b1⟩
  have HB1 : Hid (Below w.heap.size w w1) := HB0.out.trans (b1.mono HB0.out.size)
  have HG1 : Hid (w1.heap[w.heap.size]? = some _) := (b1.block _ (Array.getElem?_eq_some_iff.1 HG0.out).1).trans HG0.out
  have HP1 : Hid _ := HP0.out.below b1 (Nat.le_refl _)
  obtain ⟨⟨c0, c1, c2, c3, c4, c5, c6, c7⟩, lB⟩ := pg_cells HG1.out
  simp only at c0 c1 c2 c3 c4 c5 c6 c7
  clear b1 HB0 HG0 HP0
  go_wp2_with fail
  refine (HCU.out w1 HP1.out).mono ?_
  rintro e w2 ⟨q1, rfl, p1, b2⟩
  have HB2 : Hid (Below w.heap.size w w2) := HB1.out.trans (b2.mono HB1.out.size)
  have HG2 : Hid (w2.heap[w.heap.size]? = some _) := (b2.block _ (Array.getElem?_eq_some_iff.1 HG1.out).1).trans HG1.out
  have HP2 : Hid _ := HP1.out.below b2 (Nat.le_refl _)
  have HC2 : Hid (∀ _ : True, _) := fun _ => HEN.out q1 w2 p1
  clear b2 p1 HB1 HG1 HP1 c0 c1 c2 c3 c4 c5 c6 c7 lB
  simp only [gv] at HC2
  generalize (Value.agg #[.int .i64 q1.k, .int .u32 (q1.X : Int), .int .u32 (q1.Y : Int), .int .i64 q1.L, .slice q1.ro q1.rn q1.rc, .slice q1.ko q1.kn q1.kc, .int .u32 (q1.np : Int), .string q1.nt]) = v1 at HC2 ⊢
  go_wp2_with fail
  refine (HC2.out trivial).mono ?_
  rintro e w3 ⟨rfl, b3⟩
  have HB3 : Hid (Below w.heap.size w w3) := HB2.out.trans (b3.mono HB2.out.size)
  have HG3 : Hid (w3.heap[w.heap.size]? = some _) := (b3.block _ (Array.getElem?_eq_some_iff.1 HG2.out).1).trans HG2.out
  have HP3 : Hid _ := HP2.out.below b3 (Nat.le_refl _)
  obtain ⟨⟨c0, c1, c2, c3, c4, c5, c6, c7⟩, lB⟩ := pg_cells HG3.out
  simp only at c0 c1 c2 c3 c4 c5 c6 c7
  clear b3 HB2 HG2 HP2 HC2
  go_wp2_with fail
  refine (HCU.out w3 HP3.out).mono ?_
  rintro e w4 ⟨q2, rfl, p2, b4⟩
  have HB4 : Hid (Below w.heap.size w w4) := HB3.out.trans (b4.mono HB3.out.size)
  have HC4 : Hid (∀ _ : True, _) := fun _ => HSE.out q2 w4 p2
  clear b4 p2 HB3 HG3 HP3 c0 c1 c2 c3 c4 c5 c6 c7 lB
  simp only [gv] at HC4
  generalize (Value.agg #[.int .i64 q2.k, .int .u32 (q2.X : Int), .int .u32 (q2.Y : Int), .int .i64 q2.L, .slice q2.ro q2.rn q2.rc, .slice q2.ko q2.kn q2.kc, .int .u32 (q2.np : Int), .string q2.nt]) = v2 at HC4 ⊢
  go_wp2_with fail
  refine (HC4.out trivial).mono ?_
  rintro e w5 ⟨rfl, b5⟩
  have HB5 : Hid (Below w.heap.size w w5) := HB4.out.trans (b5.mono HB4.out.size)
  clear b5
  go_wp2_with fail
  go_ret
  exact ⟨rfl, HB5.out⟩
end Go.Proofs.Ytljponlfjombaaa.Rw
