/- The reference: are pages the same? -/
import Derived.Test.YtljponlfjombaaaPNG
namespace Go.Proofs.Ytljponlfjombaaa.Rw
open Go.RowKit Go.Lib Go.Shelf
open Go.Proofs.Ytljponlfjombaaa.Rc Go.Proofs.Ytljponlfjombaaa.Rq
def eqP (A B : Pp) : Bool := decide (A.k = B.k) && (eqC A.X A.Y A.L B.X B.Y B.L && (eqL eqR A.l B.l && (eqF ⟨A.np, A.nt⟩ ⟨B.np, B.nt⟩ && eqL eqF A.ks B.ks)))
set_option maxRecDepth 100000 in
theorem eqP_iff (A B : Pp) : eqP A B = true ↔ A = B := by
  unfold eqP eqC
  simp only [Bool.and_eq_true, decide_eq_true_eq, eqL_iff eqR eqR_iff, eqL_iff eqF eqF_iff, eqF_iff]
  constructor
  · rintro ⟨h1, ⟨h2, h3, h4⟩, h5, h6, h7⟩
    exact Pp.eq h1 h2 h3 h4 h5 h7 (congrArg Rf.p h6) (congrArg Rf.t h6)
  · rintro rfl
    exact ⟨rfl, ⟨rfl, rfl, rfl⟩, rfl, rfl, rfl⟩
set_option maxRecDepth 100000 in
theorem eqP_self (A : Pp) : eqP A A = true := (eqP_iff A A).2 rfl
/-- What two rounds read. -/
def PK2 (g g' : Nat) (s s' : Value) (pb x p pb' x' p' : Nat) (t t' : ByteArray) (w : World) : Prop := w.cell? ⟨g, 5, none⟩ = some s ∧ w.cell? ⟨g', 5, none⟩ = some s' ∧ w.cell? ⟨pb, x, none⟩ = some (.int .u32 (p : Int)) ∧ w.cell? ⟨pb, x + 1, none⟩ = some (.string t) ∧ w.cell? ⟨pb', x', none⟩ = some (.int .u32 (p' : Int)) ∧ w.cell? ⟨pb', x' + 1, none⟩ = some (.string t')
set_option maxRecDepth 100000 in
set_option maxHeartbeats 4000000 in
theorem ssame_at (a b : Pg) (l m : List Rw) (ks js : List Rf) (w : World) (ha : PgAt w a l ks) (hb : PgAt w b m js) :
    Calls Try.prog 20 #[gv a, gv b] w fun e w' => e = .returned (.bool (decide (a.k = b.k) && (eqC a.X a.Y a.L b.X b.Y b.L && (eqL eqR l m && (eqF ⟨a.np, a.nt⟩ ⟨b.np, b.nt⟩ && eqL eqF ks js))))) ∧ Below w.heap.size w w' := by
  have HKA : Hid (∀ W : World, Below w.heap.size w W → RefsAt W a.ko a.kc ks) := fun W hW => RefsAt.below ha.kids hW (Nat.le_refl _)
  have HKB : Hid (∀ W : World, Below w.heap.size w W → RefsAt W b.ko b.kc js) := fun W hW => RefsAt.below hb.kids hW (Nat.le_refl _)
  have hmx : ks.length ≤ maxLen := Nat.le_trans ha.kids.1 ha.kids.2.1
  have hmy : js.length ≤ maxLen := Nat.le_trans hb.kids.1 hb.kids.2.1
  have hb1 := below_new w (gcs a)
  have hb2 := below_new (w.alloc (gcs a)) (gcs b)
  have HB1 : Hid (Below w.heap.size w ((w.alloc (gcs a)).alloc (gcs b))) := hb1.trans (hb2.mono hb1.size)
  have HGA : Hid (((w.alloc (gcs a)).alloc (gcs b)).heap[w.heap.size]? = some (gcs a)) := (hb2.block _ (by simp)).trans (heap_alloc_new w (gcs a))
  have HGB : Hid (((w.alloc (gcs a)).alloc (gcs b)).heap[w.heap.size + 1]? = some (gcs b)) := by
    refine (?_ : ((w.alloc (gcs a)).alloc (gcs b)).heap[w.heap.size + 1]? = some (gcs b))
    have := heap_alloc_new (w.alloc (gcs a)) (gcs b)
    simpa using this
  have HSR : Hid (∀ _ : True, _) := fun _ => rsame_any l m a.ro a.rc b.ro b.rc ((w.alloc (gcs a)).alloc (gcs b)) (RowsAt.below ha.rows HB1.out (Nat.le_refl _)) (RowsAt.below hb.rows HB1.out (Nat.le_refl _))
  have a1 := ha.rn
  have a2 := ha.kn
  have b1 := hb.rn
  have b2 := hb.kn
  clear ha hb hb1 hb2
  obtain ⟨ak, aX, aY, aL, aro, arn, arc, ako, akn, akc, anp, ant⟩ := a
  obtain ⟨bk, bX, bY, bL, bro, brn, brc, bko, bkn, bkc, bnp, bnt⟩ := b
  simp only at a1 a2 b1 b2 HKA HKB HSR ⊢
  subst a1 a2 b1 b2
  have hcq := neq_cell2 aX aY bX bY aL bL
  have hrq := neq_ref2 anp bnp ant bnt
  obtain ⟨rs, hrs⟩ : ∃ rs, eqL eqR l m = rs := ⟨_, rfl⟩
  obtain ⟨cs, hcs⟩ : ∃ cs, eqC aX aY aL bX bY bL = cs := ⟨_, rfl⟩
  obtain ⟨fs, hfs⟩ : ∃ fs, eqF ⟨anp, ant⟩ ⟨bnp, bnt⟩ = fs := ⟨_, rfl⟩
  rw [hrs] at HSR ⊢
  rw [hcs] at hcq ⊢
  rw [hfs] at hrq ⊢
  clear hrs hcs hfs
  obtain ⟨W1, hW1⟩ : ∃ W1, (w.alloc (gcs ⟨ak, aX, aY, aL, aro, l.length, arc, ako, ks.length, akc, anp, ant⟩)).alloc (gcs ⟨bk, bX, bY, bL, bro, m.length, brc, bko, js.length, bkc, bnp, bnt⟩) = W1 := ⟨_, rfl⟩
  rw [hW1] at HB1 HGA HGB HSR
  have HW1 : Hid ((w.alloc (.cells #[.int .i64 ak, .int .u32 (aX : Int), .int .u32 (aY : Int), .int .i64 aL, .slice aro l.length arc, .slice ako ks.length akc, .int .u32 (anp : Int), .string ant] 30)).alloc (.cells #[.int .i64 bk, .int .u32 (bX : Int), .int .u32 (bY : Int), .int .i64 bL, .slice bro m.length brc, .slice bko js.length bkc, .int .u32 (bnp : Int), .string bnt] 30) = W1) := hW1
  clear hW1
  have q0 : (ks.length : Int) ≤ 9223372036854775807 := by simp only [maxLen] at hmx; omega
  have q00 : (js.length : Int) ≤ 9223372036854775807 := by simp only [maxLen] at hmy; omega
  simp only [gv] at HSR ⊢
  go_enter Try.func20, Try.ntmps20
  go_wp2_with fail
  rw [HW1.out]
  clear HW1
  refine (HSR.out trivial).mono ?_
  rintro e w2 ⟨rfl, bb⟩
  have HB2 : Hid (Below w.heap.size w w2) := HB1.out.trans (bb.mono HB1.out.size)
  have HA2 : Hid (w2.heap[w.heap.size]? = some (gcs ⟨ak, aX, aY, aL, aro, l.length, arc, ako, ks.length, akc, anp, ant⟩)) := (bb.block _ (Array.getElem?_eq_some_iff.1 HGA.out).1).trans HGA.out
  have HC2 : Hid (w2.heap[w.heap.size + 1]? = some (gcs ⟨bk, bX, bY, bL, bro, m.length, brc, bko, js.length, bkc, bnp, bnt⟩)) := (bb.block _ (Array.getElem?_eq_some_iff.1 HGB.out).1).trans HGB.out
  clear bb HB1 HGA HGB HSR
  obtain ⟨⟨c0, c1, c2, c3, c4, c5, c6, c7⟩, lA⟩ := pg_cells HA2.out
  obtain ⟨⟨d0, d1, d2, d3, d4, d5, d6, d7⟩, lC⟩ := pg_cells HC2.out
  simp only at c0 c1 c2 c3 c4 c5 c6 c7 d0 d1 d2 d3 d4 d5 d6 d7
  by_cases hk : ak = bk
  · subst hk
    cases cs
    · go_wp2_with fail
      go_ret
      exact ⟨by simp , HB2.out⟩
    · cases rs
      · go_wp2_with fail
        go_ret
        exact ⟨by simp , HB2.out⟩
      · cases fs
        · go_wp2_with fail
          go_ret
          exact ⟨by simp , HB2.out⟩
        · by_cases hln : ks.length = js.length
          · have HE0 : Hid (eqL eqF ks js = ((ks.zip js).all fun p => eqF p.1 p.2)) := by
              refine (?_ : eqL eqF ks js = ((ks.zip js).all fun p => eqF p.1 p.2))
              unfold eqL; simp [hln]
            have HL : Hid (ks.length = js.length) := hln
            have q6 : ((ks.length : Int) == (js.length : Int)) = true := by simp; omega
            clear hln
            go_wp2_with fail
            clear q6 c0 c1 c2 c3 c4 c5 c6 c7 d0 d1 d2 d3 d4 d5 d6 d7
            go_loopw [6] (fun iv wr => ∃ i : Nat, i ≤ ks.length ∧ iv = .int .i64 (i : Int) ∧ ((ks.zip js).take i).all (fun p => eqF p.1 p.2) = true ∧ Below w2.heap.size w2 wr) (fun iv _ => ks.length - natOf iv)
            case atStart => exact ⟨0, Nat.zero_le _, rfl, by simp, Below.refl _ _⟩
            case round =>
              obtain ⟨i, hi, rfl, hal, hb⟩ := hrel
              have HA : Hid _ := hal
              have HBx : Hid (Below w2.heap.size w2 wr) := hb
              have HBw : Hid (Below w.heap.size w wr) := HB2.out.trans (hb.mono HB2.out.size)
              have HAw : Hid (wr.heap[w.heap.size]? = some (gcs ⟨ak, aX, aY, aL, aro, l.length, arc, ako, ks.length, akc, anp, ant⟩)) := (hb.block _ (Array.getElem?_eq_some_iff.1 HA2.out).1).trans HA2.out
              have HCw : Hid (wr.heap[w.heap.size + 1]? = some (gcs ⟨ak, bX, bY, bL, bro, m.length, brc, bko, js.length, bkc, bnp, bnt⟩)) := (hb.block _ (Array.getElem?_eq_some_iff.1 HC2.out).1).trans HC2.out
              clear hal hb
              obtain ⟨⟨c0, c1, c2, c3, c4, c5, c6, c7⟩, lA⟩ := pg_cells HAw.out
              obtain ⟨⟨d0, d1, d2, d3, d4, d5, d6, d7⟩, lC⟩ := pg_cells HCw.out
              simp only at c0 c1 c2 c3 c4 c5 c6 c7 d0 d1 d2 d3 d4 d5 d6 d7
              by_cases hlt : i < ks.length
              · have hlt2 : i < js.length := by have := HL.out; omega
                obtain ⟨pb, off, rfl, hbl, hc⟩ := (HKA.out wr HBw.out).ref hlt
                obtain ⟨pb2, off2, rfl, hbl2, hc2⟩ := (HKB.out wr HBw.out).ref hlt2
                have g1 := hc i hlt
                have g2 := hc2 i hlt2
                have HZT : Hid _ := zip_take eqF (fat_some hlt) (fat_some hlt2)
                have HZF : Hid _ := zip_false eqF (fat_some hlt) (fat_some hlt2)
                generalize fat ks i = r at *
                generalize fat js i = r2 at *
                obtain ⟨p, t⟩ := r
                obtain ⟨p2, t2⟩ := r2
                simp only at g1 g2
                have hnq := neq_ref2 p p2 t t2
                obtain ⟨eb, heb⟩ : ∃ eb, eqF ⟨p, t⟩ ⟨p2, t2⟩ = eb := ⟨_, rfl⟩
                have HEB : Hid (eqF ⟨p, t⟩ ⟨p2, t2⟩ = eb) := heb
                rw [heb] at hnq
                have q5 : (i : Int) < (ks.length : Int) := by omega
                have q7 : (i : Int) < (js.length : Int) := by omega
                have i0 : (0 : Int) ≤ (i : Int) := by omega
                have HSW : Hid (PK2 w.heap.size (w.heap.size + 1) (.slice (some ⟨pb, off, none⟩) ks.length akc) (.slice (some ⟨pb2, off2, none⟩) js.length bkc) pb (off + i * 2) p pb2 (off2 + i * 2) p2 t t2 wr.drew) := ⟨c5, d5, g1.1, g1.2, g2.1, g2.2⟩
                clear hc hc2 heb hlt2 hbl hbl2 g1 g2 hcq hrq
                go_wp2_with fail
                refine wp_region_held (S := PK2 w.heap.size (w.heap.size + 1) (.slice (some ⟨pb, off, none⟩) ks.length akc) (.slice (some ⟨pb2, off2, none⟩) js.length bkc) pb (off + i * 2) p pb2 (off2 + i * 2) p2 t t2) (by kernel_rfl) ?_
                change wpAnyH _ _ _ _ _ _ _ _ (World.drew _)
                clear c0 c1 c2 c3 c4 c5 c6 c7 d0 d1 d2 d3 d4 d5 d6 d7
                refine wpAnyH_take (i := 0) (v := ?_) rfl (by kernel_rfl) (by kernel_rfl) (by kernel_rfl) (fun _ _ _ h => h) (Or.inl ⟨by kernel_rfl, ?_⟩) HSW.out ?_
                rotate_left
                · intro w hS
                  obtain ⟨e0, e1, e2, e3, e4, e5⟩ := hS
                  go_simp
                  try with_reducible rfl
                conv in (Act.put _ _ _) => simp only [List.getElem_toArray, List.getElem_cons_succ, List.getElem_cons_zero, Act.put, List.setIfInBounds_toArray, List.set_cons_succ, List.set_cons_zero]
                refine wpAnyH_take (i := 1) (v := ?_) rfl (by kernel_rfl) (by kernel_rfl) (by kernel_rfl) (fun _ _ _ h => h) (Or.inl ⟨by kernel_rfl, ?_⟩) HSW.out ?_
                rotate_left
                · intro w hS
                  obtain ⟨e0, e1, e2, e3, e4, e5⟩ := hS
                  go_simp
                  try with_reducible rfl
                conv in (Act.put _ _ _) => simp only [List.getElem_toArray, List.getElem_cons_succ, List.getElem_cons_zero, Act.put, List.setIfInBounds_toArray, List.set_cons_succ, List.set_cons_zero]
                refine wpAnyH_take (i := 2) (v := ?_) rfl (by kernel_rfl) (by kernel_rfl) (by kernel_rfl) (fun _ _ _ h => h) (Or.inl ⟨by kernel_rfl, ?_⟩) HSW.out ?_
                rotate_left
                · intro w hS
                  obtain ⟨e0, e1, e2, e3, e4, e5⟩ := hS
                  go_simp
                  try with_reducible rfl
                conv in (Act.put _ _ _) => simp only [List.getElem_toArray, List.getElem_cons_succ, List.getElem_cons_zero, Act.put, List.setIfInBounds_toArray, List.set_cons_succ, List.set_cons_zero]
                refine wpAnyH_take (i := 3) (v := ?_) rfl (by kernel_rfl) (by kernel_rfl) (by kernel_rfl) (fun _ _ _ h => h) (Or.inl ⟨by kernel_rfl, ?_⟩) HSW.out ?_
                rotate_left
                · intro w hS
                  obtain ⟨e0, e1, e2, e3, e4, e5⟩ := hS
                  go_simp
                  try with_reducible rfl
                conv in (Act.put _ _ _) => simp only [List.getElem_toArray, List.getElem_cons_succ, List.getElem_cons_zero, Act.put, List.setIfInBounds_toArray, List.set_cons_succ, List.set_cons_zero]
                refine wpAnyH_take (i := 4) (v := ?_) rfl (by kernel_rfl) (by kernel_rfl) (by kernel_rfl) (fun _ _ _ h => h) (Or.inl ⟨by kernel_rfl, ?_⟩) HSW.out ?_
                rotate_left
                · intro w hS
                  obtain ⟨e0, e1, e2, e3, e4, e5⟩ := hS
                  go_simp
                  try with_reducible rfl
                conv in (Act.put _ _ _) => simp only [List.getElem_toArray, List.getElem_cons_succ, List.getElem_cons_zero, Act.put, List.setIfInBounds_toArray, List.set_cons_succ, List.set_cons_zero]
                refine wpAnyH_take (i := 5) (v := ?_) rfl (by kernel_rfl) (by kernel_rfl) (by kernel_rfl) (fun _ _ _ h => h) (Or.inl ⟨by kernel_rfl, ?_⟩) HSW.out ?_
                rotate_left
                · intro w hS
                  obtain ⟨e0, e1, e2, e3, e4, e5⟩ := hS
                  go_simp
                  try with_reducible rfl
                conv in (Act.put _ _ _) => simp only [List.getElem_toArray, List.getElem_cons_succ, List.getElem_cons_zero, Act.put, List.setIfInBounds_toArray, List.set_cons_succ, List.set_cons_zero]
                refine wpAnyH_take (i := 6) (v := ?_) rfl (by kernel_rfl) (by kernel_rfl) (by kernel_rfl) (fun _ _ _ h => h) (Or.inl ⟨by kernel_rfl, ?_⟩) HSW.out ?_
                rotate_left
                · intro w hS
                  obtain ⟨e0, e1, e2, e3, e4, e5⟩ := hS
                  go_simp
                  try with_reducible rfl
                conv in (Act.put _ _ _) => simp only [List.getElem_toArray, List.getElem_cons_succ, List.getElem_cons_zero, Act.put, List.setIfInBounds_toArray, List.set_cons_succ, List.set_cons_zero]
                refine wpAnyH_take (i := 7) (v := ?_) rfl (by kernel_rfl) (by kernel_rfl) (by kernel_rfl) (fun _ _ _ h => h) (Or.inl ⟨by kernel_rfl, ?_⟩) HSW.out ?_
                rotate_left
                · intro w hS
                  obtain ⟨e0, e1, e2, e3, e4, e5⟩ := hS
                  go_simp
                  try with_reducible rfl
                conv in (Act.put _ _ _) => simp only [List.getElem_toArray, List.getElem_cons_succ, List.getElem_cons_zero, Act.put, List.setIfInBounds_toArray, List.set_cons_succ, List.set_cons_zero]
                refine wpAnyH_take (i := 8) (v := ?_) rfl (by kernel_rfl) (by kernel_rfl) (by kernel_rfl) (fun _ _ _ h => h) (Or.inl ⟨by kernel_rfl, ?_⟩) HSW.out ?_
                rotate_left
                · intro w hS
                  obtain ⟨e0, e1, e2, e3, e4, e5⟩ := hS
                  go_simp
                  try with_reducible rfl
                conv in (Act.put _ _ _) => simp only [List.getElem_toArray, List.getElem_cons_succ, List.getElem_cons_zero, Act.put, List.setIfInBounds_toArray, List.set_cons_succ, List.set_cons_zero]
                refine wpAnyH_take (i := 9) (v := ?_) rfl (by kernel_rfl) (by kernel_rfl) (by kernel_rfl) (fun _ _ _ h => h) (Or.inl ⟨by kernel_rfl, ?_⟩) HSW.out ?_
                rotate_left
                · intro w hS
                  obtain ⟨e0, e1, e2, e3, e4, e5⟩ := hS
                  go_simp
                  try with_reducible rfl
                conv in (Act.put _ _ _) => simp only [List.getElem_toArray, List.getElem_cons_succ, List.getElem_cons_zero, Act.put, List.setIfInBounds_toArray, List.set_cons_succ, List.set_cons_zero]
                refine wpAnyH_take (i := 10) (v := ?_) rfl (by kernel_rfl) (by kernel_rfl) (by kernel_rfl) (fun _ _ _ h => h) (Or.inl ⟨by kernel_rfl, ?_⟩) HSW.out ?_
                rotate_left
                · intro w hS
                  obtain ⟨e0, e1, e2, e3, e4, e5⟩ := hS
                  go_simp
                  try with_reducible rfl
                conv in (Act.put _ _ _) => simp only [List.getElem_toArray, List.getElem_cons_succ, List.getElem_cons_zero, Act.put, List.setIfInBounds_toArray, List.set_cons_succ, List.set_cons_zero]
                refine wpAnyH_done (by kernel_rfl) ?_ _
                have HBd : Hid (Below w2.heap.size w2 wr.drew) := HBx.out.drew
                have HBe : Hid (Below w.heap.size w wr.drew) := HBw.out.drew
                cases eb
                · simp only [Bool.not_false]
                  clear hnq q5 q7 i0
                  go_wp2_with fail
                  go_ret
                  refine ⟨?_, HBe.out⟩
                  rw [HE0.out, HZF.out HEB.out]
                  simp
                · simp only [Bool.not_true]
                  clear hnq q7
                  go_wp2_with fail
                  go_roundw
                  case rel => exact ⟨i + 1, by omega, by go_num, by rw [HZT.out, HA.out, HEB.out]; rfl, HBd.out⟩
                  case measure => simp [natOf]; omega
              · obtain rfl : i = ks.length := by omega
                have q5 : ¬ (ks.length : Int) < (ks.length : Int) := by omega
                go_wp2_with fail
                go_ret
                refine ⟨?_, HBw.out⟩
                rw [HE0.out]
                have := HA.out
                rw [List.take_of_length_le (by rw [List.length_zip]; omega)] at this
                rw [this]
                simp
          · have HE0 : Hid (eqL eqF ks js = false) := by
              refine (?_ : eqL eqF ks js = false)
              unfold eqL; simp [hln]
            have q6 : ((ks.length : Int) == (js.length : Int)) = false := by simp; omega
            go_wp2_with fail
            go_ret
            exact ⟨by rw [HE0.out]; simp, HB2.out⟩
  · have hk1 : (ak == bk) = false := by simpa using hk
    go_wp2_with fail
    go_ret
    exact ⟨by simp [hk], HB2.out⟩
set_option maxRecDepth 100000 in
theorem ssame_p (a b : Pg) (A B : Pp) (w : World) (ha : PAt w a A) (hb : PAt w b B) :
    Calls Try.prog 20 #[gv a, gv b] w fun e w' => e = .returned (.bool (eqP A B)) ∧ Below w.heap.size w w' := by
  have := ssame_at a b A.l B.l A.ks B.ks w ha.at' hb.at'
  unfold eqP
  rw [ha.k, ha.X, ha.Y, ha.L, ha.np, ha.nt, hb.k, hb.X, hb.Y, hb.L, hb.np, hb.nt] at this
  exact this
end Go.Proofs.Ytljponlfjombaaa.Rw
/- A page whose bytes are known. -/
namespace Go.Proofs.Ytljponlfjombaaa.Rw
open Go.RowKit Go.Lib Go.Shelf
open Go.Proofs.Ytljponlfjombaaa.Rc Go.Proofs.Ytljponlfjombaaa.Rq
def exP : Pp := ⟨1, 0, 0, 0, [⟨1, 2, 3, ⟨#[97]⟩⟩], [], 0, ⟨#[]⟩⟩
set_option maxRecDepth 100000 in
theorem exP_right : rpp exP = true := by decide
set_option maxRecDepth 100000 in
theorem exP_ok : okP exP := ⟨by decide, by decide, by decide, fun r hr => by simp [exP] at hr; rw [hr]; unfold okRow; decide, fun r hr => by simp [exP] at hr⟩
set_option maxRecDepth 100000 in
theorem exP_bytes : encS exP = ⟨(pB exP).toArray⟩ ∧ encE exP = 0 := by unfold encS encE; rw [exP_right]; exact ⟨rfl, rfl⟩
set_option maxRecDepth 100000 in
theorem exP_known : (encS exP).size = 56 ∧ (encS exP).extract 0 2 = ⟨#[1, 1]⟩ ∧ (encS exP).extract 38 40 = ⟨#[1, 0]⟩ ∧ (encS exP).extract 54 56 = ⟨#[1, 97]⟩ := by
  rw [exP_bytes.1]
  simp only [ByteArray.extract_mk]
  refine ⟨by decide, by decide, by decide, by decide⟩
set_option maxRecDepth 100000 in
theorem exP_back : decE (encS exP) = 0 ∧ decP (encS exP) = exP := by
  rw [exP_bytes.1]
  have h := dec_enc exP_right exP_ok
  refine ⟨?_, h.2⟩
  unfold decE
  rw [h.1]
  rfl
set_option maxRecDepth 100000 in
set_option maxHeartbeats 4000000 in
theorem shown_any (w : World) : Calls Try.prog 10 #[] w fun e w' => e = .returned (.bool true) ∧ Below w.heap.size w w' := by
  obtain ⟨s, hs⟩ : ∃ s, encS exP = s := ⟨_, rfl⟩
  have hk := exP_known
  have hb := exP_back
  rw [hs] at hk hb
  obtain ⟨k0, k1, k2, k3⟩ := hk
  have HEN : Hid _ := fun q w' (h : PAt w' q exP) => encode_p q exP w' h exP_ok
  rw [hs, exP_bytes.2] at HEN
  have HDE : Hid _ := decode_any s
  rw [hb.1, hb.2] at HDE
  clear hs hb
  have h1 := below_new w (.cells #[.int .u64 1, .int .u32 2, .int .u32 3, .string ⟨#[97]⟩] 47)
  have g1 := heap_alloc_new w (.cells #[.int .u64 1, .int .u32 2, .int .u32 3, .string ⟨#[97]⟩] 47)
  have hP : PAt (w.alloc (.cells #[.int .u64 1, .int .u32 2, .int .u32 3, .string ⟨#[97]⟩] 47)) ⟨1, 0, 0, 0, some ⟨w.heap.size, 0, none⟩, 1, 1, none, 0, 0, 0, ⟨#[]⟩⟩ exP :=
    ⟨rfl, rfl, rfl, rfl, rfl, rfl, ⟨Nat.zero_lt_succ _, Nat.zero_lt_succ _, rfl, one_rowR (r := ⟨1, 2, 3, ⟨#[97]⟩⟩) g1, rfl, Sl.nil _ _⟩⟩
  obtain ⟨W1, hW1⟩ : ∃ W1, w.alloc (.cells #[.int .u64 1, .int .u32 2, .int .u32 3, .string ⟨#[97]⟩] 47) = W1 := ⟨_, rfl⟩
  have hs1 : W1.heap.size = w.heap.size + 1 := by rw [← hW1]; simp
  rw [hW1] at h1 g1 hP
  have h2 := below_new W1 (gcs ⟨1, 0, 0, 0, some ⟨w.heap.size, 0, none⟩, 1, 1, none, 0, 0, 0, ⟨#[]⟩⟩)
  have HG2 : Hid ((W1.alloc (gcs ⟨1, 0, 0, 0, some ⟨w.heap.size, 0, none⟩, 1, 1, none, 0, 0, 0, ⟨#[]⟩⟩)).heap[W1.heap.size]? = some (gcs ⟨1, 0, 0, 0, some ⟨w.heap.size, 0, none⟩, 1, 1, none, 0, 0, 0, ⟨#[]⟩⟩)) := heap_alloc_new W1 _
  have HP2 : Hid (PAt (W1.alloc (gcs ⟨1, 0, 0, 0, some ⟨w.heap.size, 0, none⟩, 1, 1, none, 0, 0, 0, ⟨#[]⟩⟩)) ⟨1, 0, 0, 0, some ⟨w.heap.size, 0, none⟩, 1, 1, none, 0, 0, 0, ⟨#[]⟩⟩ exP) := hP.below h2 (Nat.le_refl _)
  have HB2 : Hid (Below w.heap.size w (W1.alloc (gcs ⟨1, 0, 0, 0, some ⟨w.heap.size, 0, none⟩, 1, 1, none, 0, 0, 0, ⟨#[]⟩⟩))) := h1.trans (h2.mono h1.size)
  have HW1 : Hid _ := hW1
  obtain ⟨W2, hW2⟩ : ∃ W2, W1.alloc (gcs ⟨1, 0, 0, 0, some ⟨w.heap.size, 0, none⟩, 1, 1, none, 0, 0, 0, ⟨#[]⟩⟩) = W2 := ⟨_, rfl⟩
  rw [hW2] at HG2 HP2 HB2
  have HW2 : Hid ((w.alloc (.cells #[.int .u64 1, .int .u32 2, .int .u32 3, .string ⟨#[97]⟩] 47)).alloc (.cells #[.int .i64 1, .int .u32 0, .int .u32 0, .int .i64 0, .slice (some ⟨w.heap.size, 0, none⟩) 1 1, .slice none 0 0, .int .u32 0, .string ⟨#[]⟩] 30) = W2) := by
    refine (?_ : (w.alloc (.cells #[.int .u64 1, .int .u32 2, .int .u32 3, .string ⟨#[97]⟩] 47)).alloc (.cells #[.int .i64 1, .int .u32 0, .int .u32 0, .int .i64 0, .slice (some ⟨w.heap.size, 0, none⟩) 1 1, .slice none 0 0, .int .u32 0, .string ⟨#[]⟩] 30) = W2)
    rw [hW1]; exact hW2
  rw [hs1] at HG2
  have HC : Hid (∀ _ : True, _) := fun _ => HEN.out ⟨1, 0, 0, 0, some ⟨w.heap.size, 0, none⟩, 1, 1, none, 0, 0, 0, ⟨#[]⟩⟩ W2 HP2.out
  clear h1 g1 hP h2 hW1 hW2 HW1 HEN hs1
  simp only [gv] at HC
  go_enter Try.func10, Try.ntmps10
  go_wp2_with fail
  rw [HW2.out]
  clear HW2
  refine (HC.out trivial).mono ?_
  rintro e w3 ⟨rfl, b3⟩
  have HB3 : Hid (Below w.heap.size w w3) := HB2.out.trans (b3.mono HB2.out.size)
  have HG3 : Hid (w3.heap[w.heap.size + 1]? = some (gcs ⟨1, 0, 0, 0, some ⟨w.heap.size, 0, none⟩, 1, 1, none, 0, 0, 0, ⟨#[]⟩⟩)) := (b3.block _ (Array.getElem?_eq_some_iff.1 HG2.out).1).trans HG2.out
  have HP3 : Hid _ := HP2.out.below b3 (Nat.le_refl _)
  clear b3 HC HG2 HP2 HB2
  go_wp2_with fail
  refine (HDE.out w3).mono ?_
  rintro e w4 ⟨q, rfl, hq, b4⟩
  have HB4 : Hid (Below w.heap.size w w4) := HB3.out.trans (b4.mono HB3.out.size)
  have hg4 := (b4.block _ (Array.getElem?_eq_some_iff.1 HG3.out).1).trans HG3.out
  have HP4 : Hid _ := HP3.out.below b4 (Nat.le_refl _)
  have h5 := below_new w4 (gcs q)
  have HP5 : Hid (PAt (w4.alloc (gcs q)) _ exP) := HP4.out.below h5 (Nat.le_refl _)
  have HQ5 : Hid (PAt (w4.alloc (gcs q)) q exP) := hq.below h5 (Nat.le_refl _)
  have HB5 : Hid (Below w.heap.size w (w4.alloc (gcs q))) := HB4.out.trans (h5.mono HB4.out.size)
  have HSM : Hid (∀ _ : True, _) := fun _ => ssame_p _ q exP exP (w4.alloc (gcs q)) HP5.out HQ5.out
  rw [eqP_self] at HSM
  obtain ⟨⟨c0, c1, c2, c3, c4, c5, c6, c7⟩, lB⟩ := pg_cells hg4
  simp only at c0 c1 c2 c3 c4 c5 c6 c7
  clear b4 hg4 HB3 HG3 HP3 HP4 hq h5
  obtain ⟨qk, qX, qY, qL, qro, qrn, qrc, qko, qkn, qkc, qnp, qnt⟩ := q
  simp only [gv, gcs] at HSM HB5 ⊢
  have r1 : ((s.extract 0 2).toList == (⟨#[1, 1]⟩ : ByteArray).toList) = true := by rw [k1]; exact beq_self_eq_true _
  have r2 : ((s.extract 38 40).toList == (⟨#[1, 0]⟩ : ByteArray).toList) = true := by rw [k2]; exact beq_self_eq_true _
  have r3 : ((s.extract 54 56).toList == (⟨#[1, 97]⟩ : ByteArray).toList) = true := by rw [k3]; exact beq_self_eq_true _
  go_wp2_with fail
  refine (HSM.out trivial).mono ?_
  rintro e w6 ⟨rfl, b6⟩
  have HB6 : Hid (Below w.heap.size w w6) := HB5.out.trans (b6.mono HB5.out.size)
  clear b6
  go_wp2_with fail
  go_ret
  exact ⟨rfl, HB6.out⟩
end Go.Proofs.Ytljponlfjombaaa.Rw
