/- The page of bytes is the document's. -/
import Derived.Test.YtljponlfjombaaaPNZ
import Derived.Test.YtljponlfjombaaaQNH
namespace Go.Proofs.Ytljponlfjombaaa.Rw
open Go.RowKit Go.Lib Go.Shelf
open Go.Proofs.Ytljponlfjombaaa.Rc Go.Proofs.Ytljponlfjombaaa.Rq
set_option maxRecDepth 100000 in
set_option maxHeartbeats 4000000 in
theorem rowsDecodes_walk (s : ByteArray) (w : World) :
    Calls Try.prog 5 #[.string s] w fun e w' => e = .returned (.bool true) ∧ Below w.heap.size w w' := by
  have HSH : Hid _ := shown_any
  have HDE : Hid _ := decode_any s
  have HSD : Hid _ := sdec_any s
  have HSM : Hid _ := fun a b w' (ha : PAt w' a (decP s)) (hb : PAt w' b (decP s)) => ssame_p a b (decP s) (decP s) w' ha hb
  rw [eqP_self] at HSM
  generalize decP s = P at *
  generalize decE s = x at *
  go_enter Try.func5, Try.ntmps5
  go_wp2_with fail
  refine (HSH.out w).mono ?_
  rintro e w1 ⟨rfl, b1⟩
  have HB1 : Hid (Below w.heap.size w w1) := b1
  clear b1
  go_wp2_with fail
  refine (HDE.out w1).mono ?_
  rintro e w2 ⟨q, rfl, hq, b2⟩
  have h3 := below_new w2 (gcs q)
  have HB3 : Hid (Below w.heap.size w (w2.alloc (gcs q))) := (HB1.out.trans (b2.mono HB1.out.size)).trans (h3.mono (Nat.le_trans HB1.out.size b2.size))
  have HG3 : Hid ((w2.alloc (gcs q)).heap[w2.heap.size]? = some (gcs q)) := heap_alloc_new w2 _
  have HP3 : Hid (PAt (w2.alloc (gcs q)) q P) := hq.below h3 (Nat.le_refl _)
  obtain ⟨W3, hW3⟩ : ∃ W3, w2.alloc (gcs q) = W3 := ⟨_, rfl⟩
  rw [hW3] at HB3 HG3 HP3
  obtain ⟨qk, qX, qY, qL, qro, qrn, qrc, qko, qkn, qkc, qnp, qnt⟩ := q
  have HW3 : Hid (w2.alloc (.cells #[.int .i64 qk, .int .u32 (qX : Int), .int .u32 (qY : Int), .int .i64 qL, .slice qro qrn qrc, .slice qko qkn qkc, .int .u32 (qnp : Int), .string qnt] 30) = W3) := hW3
  clear b2 hq h3 hW3
  simp only [gv]
  go_wp2_with (first | (rw [HW3.out]; clear HW3))
  refine (HSD.out W3).mono ?_
  rintro e w4 ⟨r, rfl, hr, b4⟩
  have HB4 : Hid (Below w.heap.size w w4) := HB3.out.trans (b4.mono HB3.out.size)
  have h5 := below_new w4 (gcs r)
  have hb5 : Below W3.heap.size W3 (w4.alloc (gcs r)) := b4.trans (h5.mono b4.size)
  have HB5 : Hid (Below w.heap.size w (w4.alloc (gcs r))) := HB4.out.trans (h5.mono HB4.out.size)
  have hg4 := (b4.block _ (Array.getElem?_eq_some_iff.1 HG3.out).1).trans HG3.out
  have HC : Hid (∀ _ : True, _) := fun _ => HSM.out _ r (w4.alloc (gcs r)) (HP3.out.below hb5 (Nat.le_refl _)) (hr.below h5 (Nat.le_refl _))
  obtain ⟨⟨c0, c1, c2, c3, c4, c5, c6, c7⟩, lB⟩ := pg_cells hg4
  simp only at c0 c1 c2 c3 c4 c5 c6 c7
  clear b4 hr h5 hb5 hg4
  obtain ⟨rk, rX, rY, rL, rro, rrn, rrc, rko, rkn, rkc, rnp, rnt⟩ := r
  simp only [gv, gcs] at HC HB5 ⊢
  go_wp2_with fail
  refine (HC.out trivial).mono ?_
  rintro e w6 ⟨rfl, b6⟩
  have HB6 : Hid (Below w.heap.size w w6) := HB5.out.trans (b6.mono HB5.out.size)
  clear b6 c0 c1 c2 c3 c4 c5 c6 c7 lB
  go_wp2_with fail
  go_ret
  exact ⟨rfl, HB6.out⟩
end Go.Proofs.Ytljponlfjombaaa.Rw
