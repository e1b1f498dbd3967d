/- Which refs and pages are right. -/
import Derived.Test.YtljponlfjombaaaQIG
import Derived.Laws.IdiomStrings
namespace Go.Proofs.Ytljponlfjombaaa.Rw
open Go.RowKit Go.Lib Go.Shelf
open Go.Proofs.Ytljponlfjombaaa.Rc Go.Proofs.Ytljponlfjombaaa.Rq
/-- Is a ref right? -/
def rref (p : Nat) (t : ByteArray) : Bool := decide (2 ≤ p) && decide (t.size = 32)
set_option maxRecDepth 100000 in
theorem rightRef_any (p : Nat) (t : ByteArray) (w : World) : Calls Try.prog 11 #[.agg #[.int .u32 (p : Int), .string t]] w fun e w' => e = .returned (.bool (rref p t)) ∧ Below w.heap.size w w' := by
  have HB : Hid _ := below_new w (.cells #[.int .u32 (p : Int), .string t] 28)
  unfold rref
  by_cases h1 : 2 ≤ p
  · have q1 : (2 : Int) ≤ (p : Int) := by omega
    by_cases h2 : t.size = 32
    · have q2 : (t.size : Int) = 32 := by omega
      go_enter Try.func11, Try.ntmps11
      go_wp2_with fail
      go_ret
      exact ⟨by simp [h1, h2], HB.out⟩
    · have q2 : ((t.size : Int) == 32) = false := by simp; omega
      go_enter Try.func11, Try.ntmps11
      go_wp2_with fail
      go_ret
      exact ⟨by simp [h1, h2], HB.out⟩
  · have q1 : ¬ (2 : Int) ≤ (p : Int) := by omega
    go_enter Try.func11, Try.ntmps11
    go_wp2_with fail
    go_ret
    exact ⟨by simp, HB.out⟩
/-- Is a cell none? -/
def noCell (X Y : Nat) (L : Int) : Bool := decide (X = 0) && (decide (Y = 0) && decide (L = 0))
set_option maxRecDepth 100000 in
theorem eql_cell0 (X Y : Nat) (L : Int) (w : World) : (binOp .eql 24 (.agg #[.int .u32 (X : Int), .int .u32 (Y : Int), .int .i64 L]) (.agg #[.int .u32 0, .int .u32 0, .int .i64 0])).run Try.prog w = .ok (.bool (noCell X Y L)) w := by
  have hS : Try.prog.underlying 24 = some (.struct (Try.prog.fieldsOf 24)) := by kernel_rfl
  have hp : Try.prog.stoodInHeld 24 = false := by kernel_rfl
  have u2 := Try.underlying22
  have u3 := Try.underlying3
  rw [run_eql_struct, show (10000 : Nat) = 9999 + 1 from rfl, run_equalIn_agg w 9999 24 _ _ hS hp]
  simp only [Program.fieldsOf, Try.underlying24]
  unfold noCell
  by_cases h1 : X = 0
  · subst h1
    by_cases h2 : Y = 0
    · subst h2
      by_cases h3 : L = 0
      · subst h3
        go_simp
      · go_simp
    · go_simp
  · go_simp
/-- Is a leaf right? -/
def rleaf (q : Pg) (l : List Rw) : Bool := (noRef q.np q.nt || rref q.np q.nt) && (decide (l.length ≤ 4) && (rightL l && (noCell q.X q.Y q.L && decide (q.kn = 0))))
set_option maxRecDepth 100000 in
set_option maxHeartbeats 4000000 in
theorem rightLeaf_any (q : Pg) (l : List Rw) (w : World) (hrn : q.rn = l.length) (hr : RowsAt w q.ro q.rc l) :
    Calls Try.prog 21 #[gv q] w fun e w' => e = .returned (.bool (rleaf q l)) ∧ Below w.heap.size w w' := by
  have hmx : l.length ≤ maxLen := Nat.le_trans hr.1 hr.2.1
  have hbn := below_new w (gcs q)
  have hgn := heap_alloc_new w (gcs q)
  unfold rleaf
  obtain ⟨W1, hW1⟩ : ∃ W1, w.alloc (gcs q) = W1 := ⟨_, rfl⟩
  rw [hW1] at hbn hgn
  have HRW : Hid (∀ W : World, Below w.heap.size w W → RowsAt W q.ro q.rc l) := fun W hW => RowsAt.below hr hW (Nat.le_refl _)
  obtain ⟨qk, qX, qY, qL, qro, qrn, qrc, qko, qkn, qkc, qnp, qnt⟩ := q
  simp only at hrn HRW ⊢
  subst hrn
  have HG : Hid (W1.heap[w.heap.size]? = some (gcs ⟨qk, qX, qY, qL, qro, l.length, qrc, qko, qkn, qkc, qnp, qnt⟩)) := hgn
  have HB : Hid (Below w.heap.size w W1) := hbn
  have HW1 : Hid (w.alloc (.cells #[.int .i64 qk, .int .u32 (qX : Int), .int .u32 (qY : Int), .int .i64 qL, .slice qro l.length qrc, .slice qko qkn qkc, .int .u32 (qnp : Int), .string qnt] 30) = W1) := hW1
  have heq := eql_ref qnp qnt
  have hcq := eql_cell0 qX qY qL
  have HRF : Hid _ := rightRef_any qnp qnt
  have HQR : Hid (∀ W : World, Below w.heap.size w W → _) := fun W hW => qright_any l qro qrc W (HRW.out W hW)
  have q0 : (l.length : Int) ≤ 9223372036854775807 := by simp only [maxLen] at hmx; omega
  clear hbn hgn hW1 hr
  obtain ⟨nr, hnr⟩ : ∃ nr, noRef qnp qnt = nr := ⟨_, rfl⟩
  obtain ⟨rr, hrr⟩ : ∃ rr, rref qnp qnt = rr := ⟨_, rfl⟩
  obtain ⟨rl, hrl⟩ : ∃ rl, rightL l = rl := ⟨_, rfl⟩
  obtain ⟨nc, hnc⟩ : ∃ nc, noCell qX qY qL = nc := ⟨_, rfl⟩
  rw [hnr] at heq ⊢
  rw [hrr] at HRF ⊢
  rw [hrl] at HQR ⊢
  rw [hnc] at hcq ⊢
  clear hnr hrr hrl hnc
  simp only [gv]
  cases nr
  · go_enter Try.func21, Try.ntmps21
    go_wp2_with fail
    rw [HW1.out]
    clear HW1
    refine (HRF.out _).mono ?_
    rintro e w2 ⟨rfl, b2⟩
    have HG2 : Hid (w2.heap[w.heap.size]? = some (gcs ⟨qk, qX, qY, qL, qro, l.length, qrc, qko, qkn, qkc, qnp, qnt⟩)) := (b2.block _ (Array.getElem?_eq_some_iff.1 HG.out).1).trans HG.out
    have HB2 : Hid (Below w.heap.size w w2) := HB.out.trans (b2.mono HB.out.size)
    obtain ⟨⟨c0, c1, c2, c3, c4, c5, c6, c7⟩, lB⟩ := pg_cells HG2.out
    simp only at c0 c1 c2 c3 c4 c5 c6 c7
    clear b2
    cases rr
    · go_wp2_with fail
      go_ret
      exact ⟨by simp , HB2.out⟩
    · by_cases h4 : l.length ≤ 4
      · have q4 : (l.length : Int) ≤ 4 := by omega
        go_wp2_with fail
        refine (HQR.out _ HB2.out).mono ?_
        rintro e w5 ⟨rfl, b5⟩
        have HB5 : Hid (Below w.heap.size w w5) := (HB2.out).trans (b5.mono (HB2.out).size)
        obtain ⟨⟨c0, c1, c2, c3, c4, c5, c6, c7⟩, lB⟩ := pg_cells ((b5.block _ (Array.getElem?_eq_some_iff.1 HG2.out).1).trans HG2.out)
        simp only at c0 c1 c2 c3 c4 c5 c6 c7
        clear b5
        cases rl
        · go_wp2_with fail
          go_ret
          exact ⟨by simp , HB5.out⟩
        · cases nc
          · go_wp2_with fail
            go_ret
            exact ⟨by simp , HB5.out⟩
          · by_cases hk : qkn = 0
            · subst hk
              go_wp2_with fail
              go_ret
              exact ⟨by simp , HB5.out⟩
            · have q5 : ((qkn : Int) == 0) = false := by simp; omega
              go_wp2_with fail
              go_ret
              exact ⟨by simp [hk], HB5.out⟩
      · have q4 : ¬ (l.length : Int) ≤ 4 := by omega
        go_wp2_with fail
        go_ret
        exact ⟨by simp , HB2.out⟩
  · go_enter Try.func21, Try.ntmps21
    by_cases h4 : l.length ≤ 4
    · have q4 : (l.length : Int) ≤ 4 := by omega
      go_wp2_with fail
      rw [HW1.out]
      refine (HQR.out _ HB.out).mono ?_
      rintro e w5 ⟨rfl, b5⟩
      have HB5 : Hid (Below w.heap.size w w5) := (HB.out).trans (b5.mono (HB.out).size)
      obtain ⟨⟨c0, c1, c2, c3, c4, c5, c6, c7⟩, lB⟩ := pg_cells ((b5.block _ (Array.getElem?_eq_some_iff.1 HG.out).1).trans HG.out)
      simp only at c0 c1 c2 c3 c4 c5 c6 c7
      clear b5
      cases rl
      · go_wp2_with fail
        go_ret
        exact ⟨by simp , HB5.out⟩
      · cases nc
        · go_wp2_with fail
          go_ret
          exact ⟨by simp , HB5.out⟩
        · by_cases hk : qkn = 0
          · subst hk
            go_wp2_with fail
            go_ret
            exact ⟨by simp , HB5.out⟩
          · have q5 : ((qkn : Int) == 0) = false := by simp; omega
            go_wp2_with fail
            go_ret
            exact ⟨by simp [hk], HB5.out⟩
    · have q4 : ¬ (l.length : Int) ≤ 4 := by omega
      go_wp2_with fail
      rw [HW1.out]
      go_ret
      exact ⟨by simp , HB.out⟩
end Go.Proofs.Ytljponlfjombaaa.Rw
/- Inner pages that are right; pages that are. -/
namespace Go.Proofs.Ytljponlfjombaaa.Rw
open Go.RowKit Go.Lib Go.Shelf
open Go.Proofs.Ytljponlfjombaaa.Rc Go.Proofs.Ytljponlfjombaaa.Rq
/-- Is an inner page right? -/
def rinner (q : Pg) (ks : List Rf) : Bool := decide (2 ≤ ks.length ∧ ks.length ≤ 4) && (ks.all (fun r => rref r.p r.t) && (rightS q.X q.Y q.L && (decide (0 < q.L) && (decide (q.rn = 0) && noRef q.np q.nt))))
set_option maxRecDepth 100000 in
theorem all_take {ks : List Rf} {i : Nat} (h : i < ks.length) : (ks.take (i + 1)).all (fun r => rref r.p r.t) = ((ks.take i).all (fun r => rref r.p r.t) && rref (fat ks i).p (fat ks i).t) := by
  rw [List.take_add_one, fat_some h, List.all_append]
  simp
set_option maxRecDepth 100000 in
theorem all_false {ks : List Rf} {i : Nat} (h : i < ks.length) (hf : rref (fat ks i).p (fat ks i).t = false) : ks.all (fun r => rref r.p r.t) = false := by
  rw [List.all_eq_false]
  exact ⟨fat ks i, fat_mem h, by rw [hf]; simp⟩
set_option maxRecDepth 100000 in
set_option maxHeartbeats 4000000 in
theorem rightInner_any (q : Pg) (ks : List Rf) (w : World) (hX : q.X < 4294967296) (hY : q.Y < 4294967296) (hrn : q.kn = ks.length) (hr : RefsAt w q.ko q.kc ks) :
    Calls Try.prog 22 #[gv q] w fun e w' => e = .returned (.bool (rinner q ks)) ∧ Below w.heap.size w w' := by
  have hmx : ks.length ≤ maxLen := Nat.le_trans hr.1 hr.2.1
  have hbn := below_new w (gcs q)
  have hgn := heap_alloc_new w (gcs q)
  unfold rinner
  obtain ⟨W1, hW1⟩ : ∃ W1, w.alloc (gcs q) = W1 := ⟨_, rfl⟩
  rw [hW1] at hbn hgn
  have HRW : Hid (∀ W : World, Below w.heap.size w W → RefsAt W q.ko q.kc ks) := fun W hW => RefsAt.below hr hW (Nat.le_refl _)
  obtain ⟨qk, qX, qY, qL, qro, qrn, qrc, qko, qkn, qkc, qnp, qnt⟩ := q
  simp only at hrn HRW hX hY ⊢
  subst hrn
  have HG : Hid (W1.heap[w.heap.size]? = some (gcs ⟨qk, qX, qY, qL, qro, qrn, qrc, qko, ks.length, qkc, qnp, qnt⟩)) := hgn
  have HB : Hid (Below w.heap.size w W1) := hbn
  have HW1 : Hid (w.alloc (.cells #[.int .i64 qk, .int .u32 (qX : Int), .int .u32 (qY : Int), .int .i64 qL, .slice qro qrn qrc, .slice qko ks.length qkc, .int .u32 (qnp : Int), .string qnt] 30) = W1) := hW1
  have heq := eql_ref qnp qnt
  have HRF : Hid _ := rightRef_any
  have HCR : Hid _ := right_any qX qY qL hX hY
  have q0 : (ks.length : Int) ≤ 9223372036854775807 := by simp only [maxLen] at hmx; omega
  clear hbn hgn hW1 hr
  simp only [gv]
  by_cases h2 : 2 ≤ ks.length
  · have q2 : ¬ (ks.length : Int) < 2 := by omega
    by_cases h4 : ks.length ≤ 4
    · have q4 : ¬ (4 : Int) < (ks.length : Int) := by omega
      go_enter Try.func22, Try.ntmps22
      go_wp2_with fail
      rw [HW1.out]
      clear HW1
      go_loopw [18] (fun iv wr => ∃ i : Nat, i ≤ ks.length ∧ iv = .int .i64 (i : Int) ∧ (ks.take i).all (fun r => rref r.p r.t) = true ∧ Below W1.heap.size W1 wr) (fun iv _ => ks.length - natOf iv)
      case atStart => exact ⟨0, Nat.zero_le _, rfl, by simp, Below.refl _ _⟩
      case round =>
        obtain ⟨i, hi, rfl, hal, hb⟩ := hrel
        have HA : Hid _ := hal
        have HBx : Hid (Below W1.heap.size W1 wr) := hb
        have HBw : Hid (Below w.heap.size w wr) := HB.out.trans (hb.mono HB.out.size)
        have HGw : Hid (wr.heap[w.heap.size]? = some (gcs ⟨qk, qX, qY, qL, qro, qrn, qrc, qko, ks.length, qkc, qnp, qnt⟩)) := (hb.block _ (Array.getElem?_eq_some_iff.1 HG.out).1).trans HG.out
        clear hal hb
        by_cases hlt : i < ks.length
        · obtain ⟨pb, off, rfl, hbl, hc⟩ := (HRW.out wr HBw.out).ref hlt
          obtain ⟨d0, d1⟩ := hc i hlt
          have hat := all_take hlt
          have haf := all_false hlt
          have HCF : Hid _ := HRF.out (fat ks i).p (fat ks i).t
          generalize fat ks i = rr at *
          obtain ⟨p, t⟩ := rr
          simp only at d0 d1 hat haf HCF
          have HAT : Hid _ := hat
          have HAF : Hid _ := haf
          have HBr : Hid (Below wr.heap.size wr (wr.alloc (.cells #[.int .u32 (p : Int), .string t] 28))) := below_new wr _
          have q5 : (i : Int) < (ks.length : Int) := by omega
          have i0 : (0 : Int) ≤ (i : Int) := by omega
          obtain ⟨rb, hrb⟩ : ∃ rb, rref p t = rb := ⟨_, rfl⟩
          rw [hrb] at HCF HAT
          have HRB : Hid (rref p t = rb) := hrb
          clear hc hat haf hrb
          go_wp2_with fail
          refine (HCF.out _).mono ?_
          rintro e w2 ⟨rfl, b2⟩
          have HB2 : Hid (Below W1.heap.size W1 w2) := HBx.out.trans ((HBr.out.trans (b2.mono (by simp))).mono HBx.out.size)
          clear b2
          cases rb
          · have HE : Hid (ks.all (fun r => rref r.p r.t) = false) := HAF.out HRB.out
            have HBe : Hid (Below w.heap.size w w2) := HB.out.trans (HB2.out.mono HB.out.size)
            go_wp2_with fail
            go_ret
            rw [HE.out]
            exact ⟨by simp, HBe.out⟩
          · have HE : Hid ((ks.take (i + 1)).all (fun r => rref r.p r.t) = true) := by
              refine (?_ : (ks.take (i + 1)).all (fun r => rref r.p r.t) = true)
              rw [HAT.out, HA.out]; rfl
            go_wp2_with fail
            go_roundw
            case rel => exact ⟨i + 1, by omega, by go_num, HE.out, HB2.out⟩
            case measure => simp [natOf]; omega
        · obtain rfl : i = ks.length := by omega
          have q5 : ¬ (ks.length : Int) < (ks.length : Int) := by omega
          have HE : Hid (ks.all (fun r => rref r.p r.t) = true) := by
            have := HA.out
            rw [List.take_length] at this
            exact this
          obtain ⟨⟨c0, c1, c2, c3, c4, c5, c6, c7⟩, lB⟩ := pg_cells HGw.out
          simp only at c0 c1 c2 c3 c4 c5 c6 c7
          go_wp2_with fail
          refine (HCR.out _).mono ?_
          rintro e w2 ⟨rfl, b2⟩
          have HBe : Hid (Below w.heap.size w w2) := HBw.out.trans (b2.mono HBw.out.size)
          have hg2 := (b2.block _ (Array.getElem?_eq_some_iff.1 HGw.out).1).trans HGw.out
          clear c0 c1 c2 c3 c4 c5 c6 c7 lB
          obtain ⟨⟨c0, c1, c2, c3, c4, c5, c6, c7⟩, lB⟩ := pg_cells hg2
          simp only at c0 c1 c2 c3 c4 c5 c6 c7
          clear b2 hg2
          cases hrs : rightS qX qY qL
          · have HS : Hid (rightS qX qY qL = false) := hrs
            clear hrs
            go_wp2_with fail
            go_ret
            exact ⟨by rw [HE.out, HS.out]; simp, HBe.out⟩
          · have HS : Hid (rightS qX qY qL = true) := hrs
            clear hrs
            by_cases hL : 0 < qL
            · by_cases hz : qrn = 0
              · subst hz
                cases hnr : noRef qnp qnt
                · rw [hnr] at heq
                  have HNR : Hid (noRef qnp qnt = false) := hnr
                  clear hnr
                  go_wp2_with fail
                  go_ret
                  exact ⟨by rw [HE.out, HS.out, HNR.out]; simp, HBe.out⟩
                · rw [hnr] at heq
                  have HNR : Hid (noRef qnp qnt = true) := hnr
                  clear hnr
                  go_wp2_with fail
                  go_ret
                  exact ⟨by rw [HE.out, HS.out, HNR.out]; simp, HBe.out⟩
              · have q7 : ((qrn : Int) == 0) = false := by simp; omega
                go_wp2_with fail
                go_ret
                exact ⟨by rw [HE.out, HS.out]; simp [hz], HBe.out⟩
            · have q6 : decide (0 < qL) = false := decide_eq_false hL
              have HLz : Hid (decide (0 < qL) = false) := q6
              go_wp2_with fail
              go_ret
              exact ⟨by rw [HE.out, HS.out, HLz.out]; simp, HBe.out⟩
    · have q4 : (4 : Int) < (ks.length : Int) := by omega
      go_enter Try.func22, Try.ntmps22
      go_wp2_with fail
      rw [HW1.out]
      go_ret
      exact ⟨by simp, HB.out⟩
  · have q2 : (ks.length : Int) < 2 := by omega
    go_enter Try.func22, Try.ntmps22
    go_wp2_with fail
    rw [HW1.out]
    go_ret
    exact ⟨by simp [h2], HB.out⟩
end Go.Proofs.Ytljponlfjombaaa.Rw
/- Pages that are right. -/
namespace Go.Proofs.Ytljponlfjombaaa.Rw
open Go.RowKit Go.Lib Go.Shelf
open Go.Proofs.Ytljponlfjombaaa.Rc Go.Proofs.Ytljponlfjombaaa.Rq
/-- Is a page right? -/
def rpage (q : Pg) (l : List Rw) (ks : List Rf) : Bool := if q.k = 1 then rleaf q l else if q.k = 2 then rinner q ks else false
/-- A page in memory: its lists. -/
structure PgAt (w : World) (q : Pg) (l : List Rw) (ks : List Rf) : Prop where
  X32 : q.X < 4294967296
  Y32 : q.Y < 4294967296
  rn : q.rn = l.length
  rows : RowsAt w q.ro q.rc l
  kn : q.kn = ks.length
  kids : RefsAt w q.ko q.kc ks
set_option maxRecDepth 100000 in
theorem PgAt.below {w w' : World} {q : Pg} {l : List Rw} {ks : List Rf} {B : Nat} (h : PgAt w q l ks) (hb : Below B w w') (hB : w.heap.size ≤ B) : PgAt w' q l ks := ⟨h.X32, h.Y32, h.rn, RowsAt.below h.rows hb hB, h.kn, RefsAt.below h.kids hb hB⟩
set_option maxRecDepth 100000 in
set_option maxHeartbeats 1000000 in
theorem pright_any (q : Pg) (l : List Rw) (ks : List Rf) (w : World) (h : PgAt w q l ks) :
    Calls Try.prog 13 #[gv q] w fun e w' => e = .returned (.bool (rpage q l ks)) ∧ Below w.heap.size w w' := by
  have hbn := below_new w (gcs q)
  have HL : Hid (∀ _ : True, _) := fun _ => rightLeaf_any q l (w.alloc (gcs q)) h.rn (RowsAt.below h.rows hbn (Nat.le_refl _))
  have HI : Hid (∀ _ : True, _) := fun _ => rightInner_any q ks (w.alloc (gcs q)) h.X32 h.Y32 h.kn (RefsAt.below h.kids hbn (Nat.le_refl _))
  have HB : Hid _ := hbn
  unfold rpage
  obtain ⟨rl, hrl⟩ : ∃ rl, rleaf q l = rl := ⟨_, rfl⟩
  obtain ⟨ri, hri⟩ : ∃ ri, rinner q ks = ri := ⟨_, rfl⟩
  rw [hrl] at HL ⊢
  rw [hri] at HI ⊢
  clear hrl hri hbn h
  obtain ⟨qk, qX, qY, qL, qro, qrn, qrc, qko, qkn, qkc, qnp, qnt⟩ := q
  simp only [gv, gcs] at HL HI HB ⊢
  by_cases h1 : qk = 1
  · subst h1
    go_enter Try.func13, Try.ntmps13
    go_wp2_with fail
    refine Calls.mono (HL.out trivial) ?_
    rintro e w2 ⟨rfl, b2⟩
    have HB2 : Hid (Below w.heap.size w w2) := HB.out.trans (b2.mono HB.out.size)
    clear b2
    go_wp2_with fail
    go_ret
    exact ⟨by simp, HB2.out⟩
  · by_cases h2 : qk = 2
    · subst h2
      go_enter Try.func13, Try.ntmps13
      go_wp2_with fail
      refine Calls.mono (HI.out trivial) ?_
      rintro e w2 ⟨rfl, b2⟩
      have HB2 : Hid (Below w.heap.size w w2) := HB.out.trans (b2.mono HB.out.size)
      clear b2
      go_wp2_with fail
      go_ret
      exact ⟨by simp, HB2.out⟩
    · have q1 : (qk == 1) = false := by simpa using h1
      have q2 : (qk == 2) = false := by simpa using h2
      go_enter Try.func13, Try.ntmps13
      go_wp2_with fail
      go_ret
      exact ⟨by simp, HB.out⟩
end Go.Proofs.Ytljponlfjombaaa.Rw
/- A page's bytes. -/
namespace Go.Proofs.Ytljponlfjombaaa.Rw
open Go.RowKit Go.Lib Go.Shelf
open Go.Proofs.Ytljponlfjombaaa.Rc Go.Proofs.Ytljponlfjombaaa.Rq
/-- A right page's bytes. -/
def pageB (q : Pg) (l : List Rw) (ks : List Rf) : List UInt8 := if q.k = 1 then leafB l q.np q.nt else innerB q.X q.Y q.L.toNat ks
set_option maxRecDepth 100000 in
theorem conv_wr {g : Nat} {own : Nat → Prop} {bs : List UInt8} {W : World} (h : Wr g own bs W) (hne : 0 < bs.length) : ∃ o cap, W.cell? ⟨g, 0, none⟩ = some (.slice o bs.length cap) ∧ (convert 43 9 (.slice o bs.length cap)).run Try.prog W = .ok (.string ⟨bs.toArray⟩) W := by
  obtain ⟨v, h1, h2, -⟩ := h.cell
  obtain ⟨o, cap, rfl, hs⟩ := sl_of_own h2
  refine ⟨o, cap, by rw [cell_of_row _ _ _ _ _ _ h1]; rfl, ?_⟩
  obtain ⟨b, off, rfl, hlt, hc⟩ := hs.2.2.2.2 hne
  refine run_convert_bytes_back W 43 9 5 ⟨b, off, none⟩ cap bs Try.underlying43 Try.underlying5 Try.underlying9 fun j hj => ?_
  rw [Addr.add_lit]
  refine hc j _ ?_
  simp [bc, List.getElem?_eq_getElem hj]
set_option maxRecDepth 100000 in
theorem leaf_facts {q : Pg} {l : List Rw} (h : rleaf q l = true) : l.length ≤ 4 ∧ rightL l = true ∧ (∀ r ∈ l, r.v.size ≤ 16 ∧ r.x < 4294967296 ∧ r.y < 4294967296) ∧ q.nt.size ≤ 100 := by
  unfold rleaf at h
  simp only [Bool.and_eq_true, Bool.or_eq_true, decide_eq_true_eq] at h
  obtain ⟨h1, h2, h3, -, -⟩ := h
  refine ⟨h2, h3, fun r hr => ?_, ?_⟩
  · have ho := right_on h3 r hr
    obtain ⟨i, hi, rfl⟩ := List.getElem_of_mem hr
    have hrr := ((rightAt_iff l i).1 (((rightL_iff l).1 h3).2 i hi)).1
    rw [rat_get hi] at hrr
    unfold rightRow at hrr
    simp only [decide_eq_true_eq] at hrr
    exact ⟨hrr.2.2, by omega, by omega⟩
  · rcases h1 with h1 | h1
    · unfold noRef at h1
      simp only [Bool.and_eq_true, decide_eq_true_eq] at h1
      rw [h1.2]; decide
    · unfold rref at h1
      simp only [Bool.and_eq_true, decide_eq_true_eq] at h1
      omega
set_option maxRecDepth 100000 in
theorem inner_facts {q : Pg} {ks : List Rf} (h : rinner q ks = true) : ks.length ≤ 4 ∧ (∀ r ∈ ks, r.t.size ≤ 100) ∧ q.L = (q.L.toNat : Int) ∧ q.L.toNat ≤ 1000 := by
  unfold rinner at h
  simp only [Bool.and_eq_true, decide_eq_true_eq, List.all_eq_true] at h
  obtain ⟨h1, h2, h3, h4, -, -⟩ := h
  have hr : q.L ≤ 31 := by
    unfold rightS at h3
    simp only [decide_eq_true_eq] at h3
    omega
  refine ⟨h1.2, fun r hr => ?_, by omega, by omega⟩
  have := h2 r hr
  unfold rref at this
  simp only [Bool.and_eq_true, decide_eq_true_eq] at this
  omega
set_option maxRecDepth 100000 in
set_option maxHeartbeats 4000000 in
theorem encode_ok (q : Pg) (l : List Rw) (ks : List Rf) (w : World) (h : PgAt w q l ks) (hnp : q.np < 4294967296) (hkp : ∀ r ∈ ks, r.p < 4294967296) (hR : rpage q l ks = true) :
    Calls Try.prog 16 #[gv q] w fun e w' => e = .returned (.tuple #[.string ⟨(pageB q l ks).toArray⟩, .int .i64 0]) ∧ Below w.heap.size w w' := by
  have hbn := below_new w (gcs q)
  have hgn := heap_alloc_new w (gcs q)
  have HPR : Hid (∀ _ : True, _) := fun _ => pright_any q l ks (w.alloc (gcs q)) (h.below hbn (Nat.le_refl _))
  rw [hR] at HPR
  have hkk : (q.k = 1 ∧ rleaf q l = true) ∨ (q.k = 2 ∧ rinner q ks = true) := by
    unfold rpage at hR
    by_cases h1 : q.k = 1
    · rw [if_pos h1] at hR; exact .inl ⟨h1, hR⟩
    · rw [if_neg h1] at hR
      by_cases h2 : q.k = 2
      · rw [if_pos h2] at hR; exact .inr ⟨h2, hR⟩
      · rw [if_neg h2] at hR; cases hR
  have HAT : Hid (PgAt w q l ks) := h
  obtain ⟨W1, hW1⟩ : ∃ W1, w.alloc (gcs q) = W1 := ⟨_, rfl⟩
  rw [hW1] at hbn hgn HPR
  have HB : Hid (Below w.heap.size w W1) := hbn
  have HG : Hid (W1.heap[w.heap.size]? = some (gcs q)) := hgn
  have HKP : Hid (∀ r ∈ ks, r.p < 4294967296) := hkp
  have HLF : Hid _ := fun (g : Nat) => putLeaf_any g (fun j => j = g) [] q l (by simp)
  have HIN : Hid _ := fun (g : Nat) => putInner_any g (fun j => j = g) [] q ks q.L.toNat (by simp)
  have HW1 : Hid _ := hW1
  clear hbn hgn hW1 hR hkp h
  obtain ⟨pg, hpg⟩ : ∃ pg, pageB q l ks = pg := ⟨_, rfl⟩
  have HPG : Hid (pageB q l ks = pg) := hpg
  rw [hpg]
  clear hpg
  obtain ⟨qk, qX, qY, qL, qro, qrn, qrc, qko, qkn, qkc, qnp, qnt⟩ := q
  simp only at hkk hnp HLF HIN HW1
  have HW1' : Hid (w.alloc (.cells #[.int .i64 qk, .int .u32 (qX : Int), .int .u32 (qY : Int), .int .i64 qL, .slice qro qrn qrc, .slice qko qkn qkc, .int .u32 (qnp : Int), .string qnt] 30) = W1) := HW1.out
  simp only [gv] at HPR ⊢
  go_enter Try.func16, Try.ntmps16
  go_wp2_with fail
  rw [HW1'.out]
  clear HW1 HW1'
  refine Calls.mono (HPR.out trivial) ?_
  rintro e w2 ⟨rfl, b2⟩
  have HB2 : Hid (Below w.heap.size w w2) := HB.out.trans (b2.mono HB.out.size)
  obtain ⟨⟨c0, c1, c2, c3, c4, c5, c6, c7⟩, lB⟩ := pg_cells ((b2.block _ (Array.getElem?_eq_some_iff.1 HG.out).1).trans HG.out)
  simp only at c0 c1 c2 c3 c4 c5 c6 c7
  have HWR : Hid (Wr w2.heap.size (fun j => j = w2.heap.size) [] (w2.alloc (.cells #[.slice none 0 0] 51))) := ⟨⟨_, heap_alloc_new w2 _, World.ownsRow_nil _ _ _ _, fun b hb => by simp [Value.ownBlock] at hb⟩, rfl, fun j hj => by subst hj; simp⟩
  clear b2 HPR
  rcases hkk with ⟨rfl, hr⟩ | ⟨rfl, hr⟩
  · have hf := leaf_facts hr
    simp only at hf
    have HPB : Hid (leafB l qnp qnt = pg) := by
      refine (?_ : leafB l qnp qnt = pg)
      have := HPG.out
      unfold pageB at this
      simpa using this
    have HCL := HLF.out w2.heap.size (by omega) hf.2.2.1 hnp hf.2.2.2 (w2.alloc (.cells #[.slice none 0 0] 51)) HWR.out HAT.out.rn (RowsAt.below (RowsAt.below HAT.out.rows HB2.out (Nat.le_refl _)) (below_new w2 _) (Nat.le_refl _)) (fun b off e h0 eb => ?_)
    · simp only [List.nil_append, gv] at HCL
      rw [HPB.out] at HCL
      have HCC : Hid (∀ _ : True, _) := fun _ => HCL
      have hpos : 0 < pg.length := by rw [← HPB.out]; unfold leafB; simp [lef]
      clear HCL hf hr
      go_wp2_with fail
      refine Calls.mono (HCC.out trivial) ?_
      rintro e w4 ⟨rfl, own4, k1, k2, k3⟩
      obtain ⟨o4, cap4, cw, hcv⟩ := conv_wr k3 hpos
      have lw : w2.heap.size < w4.heap.size := k3.lt
      have HBf : Hid (Below w.heap.size w w4) := HB2.out.trans ⟨k2.os, k2.tape, k2.output, by have := k2.size; simp at this; omega, fun j hj => (k2.block j (by have := HB2.out.size; simp; omega) (fun e => by have := HB2.out.size; omega)).trans ((below_new w2 _).block j (by have := HB2.out.size; omega))⟩
      clear k1 k2 k3 HCC
      go_wp2_with fail
      go_ret2
      exact ⟨rfl, HBf.out⟩
    · obtain ⟨b', off', e', hlt', -⟩ := HAT.out.rows.2.2.2.2 h0
      rw [e] at e'
      cases e'
      have := HB2.out.size
      omega
  · have hf := inner_facts hr
    simp only at hf
    have HPB : Hid (innerB qX qY qL.toNat ks = pg) := by
      refine (?_ : innerB qX qY qL.toNat ks = pg)
      have := HPG.out
      unfold pageB at this
      simpa using this
    have HCL := HIN.out w2.heap.size (by omega) (fun r hr' => ⟨hf.2.1 r hr', HKP.out r hr'⟩) HAT.out.X32 HAT.out.Y32 hf.2.2.1 hf.2.2.2 (w2.alloc (.cells #[.slice none 0 0] 51)) HWR.out HAT.out.kn (RefsAt.below (RefsAt.below HAT.out.kids HB2.out (Nat.le_refl _)) (below_new w2 _) (Nat.le_refl _)) (fun b off e h0 eb => ?_)
    · simp only [List.nil_append, gv] at HCL
      rw [HPB.out] at HCL
      have HCC : Hid (∀ _ : True, _) := fun _ => HCL
      have hpos : 0 < pg.length := by rw [← HPB.out]; unfold innerB; simp [lef]
      clear HCL hf hr
      go_wp2_with fail
      refine Calls.mono (HCC.out trivial) ?_
      rintro e w4 ⟨rfl, own4, k1, k2, k3⟩
      obtain ⟨o4, cap4, cw, hcv⟩ := conv_wr k3 hpos
      have lw : w2.heap.size < w4.heap.size := k3.lt
      have HBf : Hid (Below w.heap.size w w4) := HB2.out.trans ⟨k2.os, k2.tape, k2.output, by have := k2.size; simp at this; omega, fun j hj => (k2.block j (by have := HB2.out.size; simp; omega) (fun e => by have := HB2.out.size; omega)).trans ((below_new w2 _).block j (by have := HB2.out.size; omega))⟩
      clear k1 k2 k3 HCC
      go_wp2_with fail
      go_ret2
      exact ⟨rfl, HBf.out⟩
    · obtain ⟨b', off', e', hlt', -⟩ := HAT.out.kids.2.2.2.2 h0
      rw [e] at e'
      cases e'
      have := HB2.out.size
      omega
set_option maxRecDepth 100000 in
set_option maxHeartbeats 1000000 in
theorem encode_no (q : Pg) (l : List Rw) (ks : List Rf) (w : World) (h : PgAt w q l ks) (hR : rpage q l ks = false) :
    Calls Try.prog 16 #[gv q] w fun e w' => e = .returned (.tuple #[.string ⟨#[]⟩, .int .i64 90]) ∧ Below w.heap.size w w' := by
  have hbn := below_new w (gcs q)
  have HPR : Hid (∀ _ : True, _) := fun _ => pright_any q l ks (w.alloc (gcs q)) (h.below hbn (Nat.le_refl _))
  rw [hR] at HPR
  have HB : Hid (Below w.heap.size w (w.alloc (gcs q))) := hbn
  clear hbn hR h
  go_enter Try.func16, Try.ntmps16
  go_wp2_with fail
  refine Calls.mono (HPR.out trivial) ?_
  rintro e w2 ⟨rfl, b2⟩
  have HB2 : Hid (Below w.heap.size w w2) := HB.out.trans (b2.mono HB.out.size)
  clear b2 HPR HB
  go_wp2_with fail
  go_ret2
  exact ⟨rfl, HB2.out⟩
end Go.Proofs.Ytljponlfjombaaa.Rw
