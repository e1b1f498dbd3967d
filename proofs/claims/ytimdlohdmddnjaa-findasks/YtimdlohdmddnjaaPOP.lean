/- The reference: what a query asks for. -/
import Derived.Test.YtimdlohdmddnjaaQOM
import Derived.Test.YtimdlohdmddnjaaPOB
namespace Go.Proofs.Ytimdlohdmddnjaa.Rf
open Go.RowKit Go.Lib
open Go.Proofs.Ytimdlohdmddnjaa.Rc Go.Proofs.Ytimdlohdmddnjaa.Rq
def G2 (g : Nat) (af : Nat) (fr : Bool) (b x id : Nat) (w : World) : Prop := w.cell? ⟨g, 10, none⟩ = some (.bool fr) ∧ w.cell? ⟨g, 9, none⟩ = some (.int .u64 (af : Int)) ∧ w.cell? ⟨b, x, none⟩ = some (.int .u64 (id : Int))
def Fresh (B : Nat) (o : Option Addr) (n : Nat) : Prop := ∀ b off, o = some ⟨b, off, none⟩ → 0 < n → B ≤ b
set_option maxRecDepth 100000 in
theorem own_fresh {w : World} {base n m cap : Nat} {o : Option Addr} {t : TypeId} {cs : List Value} (h : w.ownsRow base t 4 (.slice o n cap) n cs) : Fresh base o m := by
 intro b off e _
 rcases h.2 with ⟨h1, -⟩ | ⟨g, cap', cur, h1, h2, -⟩
 ·cases h1
  cases e
 ·cases h1
  cases e
  exact h2
theorem Fresh.mono {B B' n : Nat} {o : Option Addr} (h : Fresh B o n) (hB : B' ≤ B) : Fresh B' o n := fun b off e hn => Nat.le_trans hB (h b off e hn)
def RR (m : List Rw) (w : World) (e : Ending) (w' : World) : Prop := ∃ o cap, e = .returned (.slice o m.length cap) ∧ RowsAt w' o cap m ∧ Below w.heap.size w w' ∧ Fresh w.heap.size o m.length
set_option maxRecDepth 100000 in
theorem rnear_all (l : List Rw) (o : Option Addr) (cap x y M : Nat) (hxy : onS x y = true) (w : World) (hr : RowsAt w o cap l) (hon : On l) (hm : l.length ≤ 1000) (hri : Rise l) (hM : ∀ r ∈ l, r.id < M) :
  Calls Try.prog 57 #[.slice o l.length cap, .int .u32 (x : Int), .int .u32 (y : Int), .int .i64 (l.length : Int)] w fun e w' => ∃ o cap, e = .returned (.tuple #[.slice o (nrV l x y M).length cap, .int .i64 0]) ∧ RowsAt w' o cap (nrV l x y M) ∧ Below w.heap.size w w' ∧ Fresh w.heap.size o (nrV l x y M).length := by
 have hxy2 := (onS_iff x y).1 hxy
 refine (rNear_ok l o cap x y l.length M hxy2.1 hxy2.2 (by omega) w hr hon hm hri hM).mono ?_
 rintro e w' ⟨v, rfl, h1, h2⟩
 rw [List.take_of_length_le (by rw [(nsort_perm x y M l).length_eq]; exact Nat.le_refl _)] at h1
 have : nrV l x y M = nsort x y M l := if_pos hxy
 rw [this]
 obtain ⟨o', cap', rfl, h3⟩ := sl_of_own h1
 exact ⟨o', cap', rfl, h3, h2, own_fresh h1⟩
set_option maxRecDepth 100000 in
set_option maxHeartbeats 4000000 in
theorem asked_1 (o : Option Addr) (cap : Nat) (l : List Rw) (a b c d x y sq : Nat) (kk : Int) (af : Nat) (fr : Bool) (w : World) (hr : RowsAt w o cap l) (hmax : l.length ≤ 1000) (hri : Rise l) (hx : boxS a b c d = true) :
  Calls Try.prog 30 #[.slice o l.length cap, qv ⟨1, a, b, c, d, x, y, sq, kk, af, fr⟩] w (RR (rest ⟨1, a, b, c, d, x, y, sq, kk, af, fr⟩ (winV l a b c d)) w) := by
 have hb := below_new w (qcs ⟨1, a, b, c, d, x, y, sq, kk, af, fr⟩)
 have hg := heap_alloc_new w (qcs ⟨1, a, b, c, d, x, y, sq, kk, af, fr⟩)
 obtain ⟨W0, hW0⟩ : ∃ W0, w.alloc (qcs ⟨1, a, b, c, d, x, y, sq, kk, af, fr⟩) = W0 := ⟨_, rfl⟩
 rw [hW0] at hb hg
 have HW0 : Hid _ := hW0
 have HG0 : Hid (W0.heap[w.heap.size]? = some (qcs ⟨1, a, b, c, d, x, y, sq, kk, af, fr⟩)) := hg
 have HB0 : Hid (Below w.heap.size w W0) := hb
 have lq : w.heap.size < W0.heap.size := (Array.getElem?_eq_some_iff.1 hg).1
 obtain ⟨c0, c1, c2, c3, c4, c5, c6, c7, c8, c9, c10⟩ := qc_of hg
 simp only at c0 c1 c2 c3 c4 c5 c6 c7 c8 c9 c10
 have hr0 := hr.below hb (Nat.le_refl _)
 have hrl : Rise (winV l a b c d) := by unfold winV; rw [if_pos hx]; exact rise_filter hri _
 have hml : (winV l a b c d).length ≤ 1000 := by unfold winV; rw [if_pos hx]; exact Nat.le_trans (List.length_filter_le _ _) hmax
 have hrs : rest ⟨1, a, b, c, d, x, y, sq, kk, af, fr⟩ (winV l a b c d) = (winV l a b c d).filter fun r => !fr || decide (af < r.id) := (rest_is (fun _ => hrl)).trans (if_neg (by simp))
 have HC : Hid (∀ _ : True, _) := fun _ => rWindow_any l o cap a b c d W0 hr0 hmax
 obtain ⟨L, hL⟩ : ∃ L, winV l a b c d = L := ⟨_, rfl⟩
 rw [hL] at HC hml hrs ⊢
 obtain ⟨f, hf⟩ : ∃ f : Rw → Bool, (fun r : Rw => !fr || decide (af < r.id)) = f := ⟨_, rfl⟩
 rw [hf] at hrs
 have HRS : Hid (rest ⟨1, a, b, c, d, x, y, sq, kk, af, fr⟩ L = L.filter f) := hrs
 have HLm : Hid (L.length ≤ 1000) := hml
 have e9 : boxE a b c d = 0 := by unfold boxE; rw [if_pos hx]
 rw [e9] at HC
 clear e9
 simp only [qv, bv] at HC ⊢
 clear hb hg hW0 hrl hrs hri hmax hml hr hr0 hL hx
 go_enter Try.func30, Try.ntmps30
 go_wp2_with (first | (rw [HW0.out]; clear HW0))
 refine Calls.mono (HC.out trivial) ?_
 rintro e W1 ⟨v, rfl, ho1, b1⟩
 obtain ⟨o1, cap1, rfl, hs1⟩ := sl_of_own ho1
 have HR1 : Hid (RowsAt W1 o1 cap1 L) := hs1
 have HBW : Hid (Below w.heap.size w W1) := HB0.out.trans (b1.mono HB0.out.size)
 have HG1 : Hid (W1.heap[w.heap.size]? = some (qcs ⟨1, a, b, c, d, x, y, sq, kk, af, fr⟩)) := (b1.block _ lq).trans HG0.out
 have lq1 : w.heap.size < W1.heap.size := (Array.getElem?_eq_some_iff.1 HG1.out).1
 clear ho1 hs1 b1 HC HB0 HG0 lq c0 c1 c2 c3 c4 c5 c6 c7 c8 c9 c10
 have HF : Hid (∀ r : Rw, f r = (!fr || decide (af < r.id))) := fun r => by rw [← hf]
 clear hf
 go_wp2_with fail
 go_loopw [6, 7] (fun pv iv wr => ∃ k : Nat, k ≤ L.length ∧ iv = .int .i64 (k : Int) ∧ wr.ownsRow W1.heap.size 54 4 pv (fk f L k).length ((fk f L k).flatMap rc) ∧ Below W1.heap.size W1 wr) (fun _ iv _ => L.length - natOf iv)
 case atStart =>
  refine ⟨0, by omega, rfl, ?_, Below.refl _ _⟩
  rw [fk_zero]
  exact World.ownsRow_nil _ _ _ _
 case round =>
  obtain ⟨k, hk, rfl, ho, hbk⟩ := hrel
  have HO : Hid _ := ho
  have HBk : Hid (Below W1.heap.size W1 wr) := hbk
  obtain ⟨po, pc, rfl, sp⟩ := sl_of_own ho
  obtain ⟨pn, hpn⟩ : ∃ pn, (fk f L k).length = pn := ⟨_, rfl⟩
  have HPN : Hid ((fk f L k).length = pn) := hpn
  have hpl := fk_len f L k
  rw [hpn] at ho HO sp hpl ⊢
  by_cases hkl : k < L.length
  ·obtain ⟨p, off, rfl, hbl, hc⟩ := (HR1.out.below hbk (Nat.le_refl _)).row hkl
   have hcr := hc k hkl
   have hnx := fk_next f L k hkl
   have q5 : (k : Int) < (L.length : Int) := by omega
   have k0 : (0 : Int) ≤ (k : Int) := by omega
   have k2 : (k : Int) + 1 ≤ 9223372036854775807 := by have := HLm.out; omega
   have gk := (hbk.block _ lq1).trans HG1.out
   generalize rat L k = r at *
   obtain ⟨id, rx, ry, rvl⟩ := r
   have HSW : Hid (G2 w.heap.size af fr p (off + k * 4) id wr.drew) := ⟨(qc_of gk).2.2.2.2.2.2.2.2.2.2, (qc_of gk).2.2.2.2.2.2.2.2.2.1, hcr.1⟩
   have HCR : Hid (Fr wr p (off + k * 4) ⟨id, rx, ry, rvl⟩) := hcr
   clear hc hcr gk
   have hfi := HF.out ⟨id, rx, ry, rvl⟩
   simp only at hfi
   have hcase : (fr = false) ∨ (fr = true ∧ decide (af < id) = true) ∨ (fr = true ∧ decide (af < id) = false) := by
    cases fr
    ·exact .inl rfl
    ·cases decide (af < id)
     ·exact .inr (.inr ⟨rfl, rfl⟩)
     ·exact .inr (.inl ⟨rfl, rfl⟩)
   rcases hcase with rfl | ⟨rfl, hd⟩ | ⟨rfl, hd⟩
   ·have hft : f ⟨id, rx, ry, rvl⟩ = true := hfi
    clear hfi
    go_wp2_with fail
    refine wp_region_held (S := G2 w.heap.size af false p (off + k * 4) id) (by kernel_rfl) ?_
    change wpAnyH _ _ _ _ _ _ _ _ (World.drew _)
    refine wpAnyH_take (i := 0) (v := ?_) rfl (by kernel_rfl) (by kernel_rfl) (by kernel_rfl) (fun _ _ _ h => h) (Or.inl ⟨by kernel_rfl, ?_⟩) HSW.out ?_
    rotate_left
    ·rintro w ⟨e0,e1,e2⟩; go_simp; try with_reducible rfl
    conv in (Act.put _ _ _) => simp only [List.getElem_toArray, List.getElem_cons_succ, List.getElem_cons_zero, Act.put, List.setIfInBounds_toArray, List.set_cons_succ, List.set_cons_zero]
    refine wpAnyH_take (i := 1) (v := ?_) rfl (by kernel_rfl) (by kernel_rfl) (by kernel_rfl) (fun _ _ _ h => h) (Or.inl ⟨by kernel_rfl, ?_⟩) HSW.out ?_
    rotate_left
    ·rintro w ⟨e0,e1,e2⟩; go_simp; try with_reducible rfl
    conv in (Act.put _ _ _) => simp only [List.getElem_toArray, List.getElem_cons_succ, List.getElem_cons_zero, Act.put, List.setIfInBounds_toArray, List.set_cons_succ, List.set_cons_zero]
    refine wpAnyH_take (i := 2) (v := ?_) rfl (by kernel_rfl) (by kernel_rfl) (by kernel_rfl) (fun _ _ _ h => h) (Or.inl ⟨by kernel_rfl, ?_⟩) HSW.out ?_
    rotate_left
    ·rintro w ⟨e0,e1,e2⟩; go_simp; try with_reducible rfl
    conv in (Act.put _ _ _) => simp only [List.getElem_toArray, List.getElem_cons_succ, List.getElem_cons_zero, Act.put, List.setIfInBounds_toArray, List.set_cons_succ, List.set_cons_zero]
    refine wpAnyH_take (i := 3) (v := ?_) rfl (by kernel_rfl) (by kernel_rfl) (by kernel_rfl) (fun _ _ _ h => h) (Or.inl ⟨by kernel_rfl, ?_⟩) HSW.out ?_
    rotate_left
    ·rintro w ⟨e0,e1,e2⟩; go_simp; try with_reducible rfl
    conv in (Act.put _ _ _) => simp only [List.getElem_toArray, List.getElem_cons_succ, List.getElem_cons_zero, Act.put, List.setIfInBounds_toArray, List.set_cons_succ, List.set_cons_zero]
    refine wpAnyH_take (i := 4) (v := undef) rfl (by kernel_rfl) (by kernel_rfl) (by kernel_rfl) (fun _ _ _ h => h) (Or.inr ⟨by kernel_rfl, rfl⟩) HSW.out ?_
    conv in (Act.put _ _ _) => simp only [List.getElem_toArray, List.getElem_cons_succ, List.getElem_cons_zero, Act.put, List.setIfInBounds_toArray, List.set_cons_succ, List.set_cons_zero]
    refine wpAnyH_take (i := 5) (v := undef) rfl (by kernel_rfl) (by kernel_rfl) (by kernel_rfl) (fun _ _ _ h => h) (Or.inr ⟨by kernel_rfl, rfl⟩) HSW.out ?_
    conv in (Act.put _ _ _) => simp only [List.getElem_toArray, List.getElem_cons_succ, List.getElem_cons_zero, Act.put, List.setIfInBounds_toArray, List.set_cons_succ, List.set_cons_zero]
    refine wpAnyH_take (i := 6) (v := undef) rfl (by kernel_rfl) (by kernel_rfl) (by kernel_rfl) (fun _ _ _ h => h) (Or.inr ⟨by kernel_rfl, rfl⟩) HSW.out ?_
    conv in (Act.put _ _ _) => simp only [List.getElem_toArray, List.getElem_cons_succ, List.getElem_cons_zero, Act.put, List.setIfInBounds_toArray, List.set_cons_succ, List.set_cons_zero]
    refine wpAnyH_take (i := 7) (v := undef) rfl (by kernel_rfl) (by kernel_rfl) (by kernel_rfl) (fun _ _ _ h => h) (Or.inr ⟨by kernel_rfl, rfl⟩) HSW.out ?_
    conv in (Act.put _ _ _) => simp only [List.getElem_toArray, List.getElem_cons_succ, List.getElem_cons_zero, Act.put, List.setIfInBounds_toArray, List.set_cons_succ, List.set_cons_zero]
    refine wpAnyH_take (i := 8) (v := undef) rfl (by kernel_rfl) (by kernel_rfl) (by kernel_rfl) (fun _ _ _ h => h) (Or.inr ⟨by kernel_rfl, rfl⟩) HSW.out ?_
    conv in (Act.put _ _ _) => simp only [List.getElem_toArray, List.getElem_cons_succ, List.getElem_cons_zero, Act.put, List.setIfInBounds_toArray, List.set_cons_succ, List.set_cons_zero]
    refine wpAnyH_take (i := 9) (v := undef) rfl (by kernel_rfl) (by kernel_rfl) (by kernel_rfl) (fun _ _ _ h => h) (Or.inr ⟨by kernel_rfl, rfl⟩) HSW.out ?_
    conv in (Act.put _ _ _) => simp only [List.getElem_toArray, List.getElem_cons_succ, List.getElem_cons_zero, Act.put, List.setIfInBounds_toArray, List.set_cons_succ, List.set_cons_zero]
    refine wpAnyH_take (i := 10) (v := undef) rfl (by kernel_rfl) (by kernel_rfl) (by kernel_rfl) (fun _ _ _ h => h) (Or.inr ⟨by kernel_rfl, rfl⟩) HSW.out ?_
    conv in (Act.put _ _ _) => simp only [List.getElem_toArray, List.getElem_cons_succ, List.getElem_cons_zero, Act.put, List.setIfInBounds_toArray, List.set_cons_succ, List.set_cons_zero]
    refine wpAnyH_take (i := 11) (v := undef) rfl (by kernel_rfl) (by kernel_rfl) (by kernel_rfl) (fun _ _ _ h => h) (Or.inr ⟨by kernel_rfl, rfl⟩) HSW.out ?_
    conv in (Act.put _ _ _) => simp only [List.getElem_toArray, List.getElem_cons_succ, List.getElem_cons_zero, Act.put, List.setIfInBounds_toArray, List.set_cons_succ, List.set_cons_zero]
    refine wpAnyH_take (i := 12) (v := ?_) rfl (by kernel_rfl) (by kernel_rfl) (by kernel_rfl) (fun _ _ _ h => h) (Or.inl ⟨by kernel_rfl, ?_⟩) HSW.out ?_
    rotate_left
    ·rintro w ⟨e0,e1,e2⟩; go_simp; try with_reducible rfl
    conv in (Act.put _ _ _) => simp only [List.getElem_toArray, List.getElem_cons_succ, List.getElem_cons_zero, Act.put, List.setIfInBounds_toArray, List.set_cons_succ, List.set_cons_zero]
    refine wpAnyH_done (by kernel_rfl) ?_ _
    rw [hft] at hnx
    have HNX : Hid (fk f L (k + 1) = fk f L k ++ [⟨id, rx, ry, rvl⟩]) := by
     refine (?_ : fk f L (k + 1) = _)
     rw [hnx]; simp
    clear hnx hft
    obtain ⟨u0, u1, u2, u3⟩ := Fr.same (w' := wr.drew) HCR.out rfl
    simp only at u0 u1 u2 u3
    have hbn := below_new wr.drew (.cells #[.int .u64 (id : Int), .int .u32 (rx : Int), .int .u32 (ry : Int), .string rvl] 54)
    obtain ⟨v', W', hrun, a1, a2, a3⟩ := append_sl 32 54 Try.underlying32 infoRow rfl (by decide) (by decide) (wr.drew.alloc (.cells #[.int .u64 (id : Int), .int .u32 (rx : Int), .int .u32 (ry : Int), .string rvl] 54)) W1.heap.size pn 1 (.slice po pn pc) (some ⟨wr.heap.size, 0, none⟩) 1
     ((fk f L k).flatMap rc) (rc ⟨id, rx, ry, rvl⟩) (own_same HO.out fun b _ hb' => hbn.block b hb') (by have := HBk.out.size; have h9 : wr.drew.heap.size = wr.heap.size := rfl; simp; omega) (one_row (r := ⟨id, rx, ry, rvl⟩) (heap_alloc_new wr.drew _)) (rc_one' _) (by have := HLm.out; omega)
    have HO1 : Hid (W'.ownsRow W1.heap.size 54 4 v' (fk f L (k + 1)).length ((fk f L (k + 1)).flatMap rc)) := by
     refine (?_ : W'.ownsRow W1.heap.size 54 4 v' (fk f L (k + 1)).length ((fk f L (k + 1)).flatMap rc))
     rw [HNX.out, List.flatMap_append, List.length_append, HPN.out]
     simpa using a1
    have HB1 : Hid (Below W1.heap.size W1 W') := (HBk.out.drew.trans (hbn.mono HBk.out.size)).grown a2 (by have := HBk.out.size; have h9 : wr.drew.heap.size = wr.heap.size := rfl; simp; omega) fun b eb => (own_base HO.out eb).1
    clear hbn a1 a2 a3 HSW hbk ho sp
    go_wp2_with (at_builtin; refine list_append rfl 32 32 (.tmp 66) (.tmp 71) rfl (vs := .slice po pn pc) (vx := .slice (some ⟨wr.heap.size, 0, none⟩) 1 1) rfl rfl hrun ?_)
    go_roundw
    case rel => exact ⟨k + 1, by omega, by go_num, HO1.out, HB1.out⟩
    case measure => simp [natOf]; omega
   ·have hft : f ⟨id, rx, ry, rvl⟩ = true := by rw [hfi, hd]; rfl
    clear hfi
    go_wp2_with fail
    refine wp_region_held (S := G2 w.heap.size af true p (off + k * 4) id) (by kernel_rfl) ?_
    change wpAnyH _ _ _ _ _ _ _ _ (World.drew _)
    refine wpAnyH_take (i := 0) (v := ?_) rfl (by kernel_rfl) (by kernel_rfl) (by kernel_rfl) (fun _ _ _ h => h) (Or.inl ⟨by kernel_rfl, ?_⟩) HSW.out ?_
    rotate_left
    ·rintro w ⟨e0,e1,e2⟩; go_simp; try with_reducible rfl
    conv in (Act.put _ _ _) => simp only [List.getElem_toArray, List.getElem_cons_succ, List.getElem_cons_zero, Act.put, List.setIfInBounds_toArray, List.set_cons_succ, List.set_cons_zero]
    refine wpAnyH_take (i := 1) (v := ?_) rfl (by kernel_rfl) (by kernel_rfl) (by kernel_rfl) (fun _ _ _ h => h) (Or.inl ⟨by kernel_rfl, ?_⟩) HSW.out ?_
    rotate_left
    ·rintro w ⟨e0,e1,e2⟩; go_simp; try with_reducible rfl
    conv in (Act.put _ _ _) => simp only [List.getElem_toArray, List.getElem_cons_succ, List.getElem_cons_zero, Act.put, List.setIfInBounds_toArray, List.set_cons_succ, List.set_cons_zero]
    refine wpAnyH_take (i := 2) (v := ?_) rfl (by kernel_rfl) (by kernel_rfl) (by kernel_rfl) (fun _ _ _ h => h) (Or.inl ⟨by kernel_rfl, ?_⟩) HSW.out ?_
    rotate_left
    ·rintro w ⟨e0,e1,e2⟩; go_simp; try with_reducible rfl
    conv in (Act.put _ _ _) => simp only [List.getElem_toArray, List.getElem_cons_succ, List.getElem_cons_zero, Act.put, List.setIfInBounds_toArray, List.set_cons_succ, List.set_cons_zero]
    refine wpAnyH_take (i := 3) (v := ?_) rfl (by kernel_rfl) (by kernel_rfl) (by kernel_rfl) (fun _ _ _ h => h) (Or.inl ⟨by kernel_rfl, ?_⟩) HSW.out ?_
    rotate_left
    ·rintro w ⟨e0,e1,e2⟩; go_simp; try with_reducible rfl
    conv in (Act.put _ _ _) => simp only [List.getElem_toArray, List.getElem_cons_succ, List.getElem_cons_zero, Act.put, List.setIfInBounds_toArray, List.set_cons_succ, List.set_cons_zero]
    refine wpAnyH_take (i := 4) (v := ?_) rfl (by kernel_rfl) (by kernel_rfl) (by kernel_rfl) (fun _ _ _ h => h) (Or.inl ⟨by kernel_rfl, ?_⟩) HSW.out ?_
    rotate_left
    ·rintro w ⟨e0,e1,e2⟩; go_simp; try with_reducible rfl
    conv in (Act.put _ _ _) => simp only [List.getElem_toArray, List.getElem_cons_succ, List.getElem_cons_zero, Act.put, List.setIfInBounds_toArray, List.set_cons_succ, List.set_cons_zero]
    refine wpAnyH_take (i := 5) (v := ?_) rfl (by kernel_rfl) (by kernel_rfl) (by kernel_rfl) (fun _ _ _ h => h) (Or.inl ⟨by kernel_rfl, ?_⟩) HSW.out ?_
    rotate_left
    ·rintro w ⟨e0,e1,e2⟩; go_simp; try with_reducible rfl
    conv in (Act.put _ _ _) => simp only [List.getElem_toArray, List.getElem_cons_succ, List.getElem_cons_zero, Act.put, List.setIfInBounds_toArray, List.set_cons_succ, List.set_cons_zero]
    refine wpAnyH_take (i := 6) (v := ?_) rfl (by kernel_rfl) (by kernel_rfl) (by kernel_rfl) (fun _ _ _ h => h) (Or.inl ⟨by kernel_rfl, ?_⟩) HSW.out ?_
    rotate_left
    ·rintro w ⟨e0,e1,e2⟩; go_simp; try with_reducible rfl
    conv in (Act.put _ _ _) => simp only [List.getElem_toArray, List.getElem_cons_succ, List.getElem_cons_zero, Act.put, List.setIfInBounds_toArray, List.set_cons_succ, List.set_cons_zero]
    refine wpAnyH_take (i := 7) (v := ?_) rfl (by kernel_rfl) (by kernel_rfl) (by kernel_rfl) (fun _ _ _ h => h) (Or.inl ⟨by kernel_rfl, ?_⟩) HSW.out ?_
    rotate_left
    ·rintro w ⟨e0,e1,e2⟩; go_simp; try with_reducible rfl
    conv in (Act.put _ _ _) => simp only [List.getElem_toArray, List.getElem_cons_succ, List.getElem_cons_zero, Act.put, List.setIfInBounds_toArray, List.set_cons_succ, List.set_cons_zero]
    refine wpAnyH_take (i := 8) (v := ?_) rfl (by kernel_rfl) (by kernel_rfl) (by kernel_rfl) (fun _ _ _ h => h) (Or.inl ⟨by kernel_rfl, ?_⟩) HSW.out ?_
    rotate_left
    ·rintro w ⟨e0,e1,e2⟩; go_simp; try with_reducible rfl
    conv in (Act.put _ _ _) => simp only [List.getElem_toArray, List.getElem_cons_succ, List.getElem_cons_zero, Act.put, List.setIfInBounds_toArray, List.set_cons_succ, List.set_cons_zero]
    refine wpAnyH_take (i := 9) (v := ?_) rfl (by kernel_rfl) (by kernel_rfl) (by kernel_rfl) (fun _ _ _ h => h) (Or.inl ⟨by kernel_rfl, ?_⟩) HSW.out ?_
    rotate_left
    ·rintro w ⟨e0,e1,e2⟩; go_simp; try with_reducible rfl
    conv in (Act.put _ _ _) => simp only [List.getElem_toArray, List.getElem_cons_succ, List.getElem_cons_zero, Act.put, List.setIfInBounds_toArray, List.set_cons_succ, List.set_cons_zero]
    refine wpAnyH_take (i := 10) (v := ?_) rfl (by kernel_rfl) (by kernel_rfl) (by kernel_rfl) (fun _ _ _ h => h) (Or.inl ⟨by kernel_rfl, ?_⟩) HSW.out ?_
    rotate_left
    ·rintro w ⟨e0,e1,e2⟩; go_simp; try with_reducible rfl
    conv in (Act.put _ _ _) => simp only [List.getElem_toArray, List.getElem_cons_succ, List.getElem_cons_zero, Act.put, List.setIfInBounds_toArray, List.set_cons_succ, List.set_cons_zero]
    refine wpAnyH_take (i := 11) (v := ?_) rfl (by kernel_rfl) (by kernel_rfl) (by kernel_rfl) (fun _ _ _ h => h) (Or.inl ⟨by kernel_rfl, ?_⟩) HSW.out ?_
    rotate_left
    ·rintro w ⟨e0,e1,e2⟩; go_simp; try with_reducible rfl
    conv in (Act.put _ _ _) => simp only [List.getElem_toArray, List.getElem_cons_succ, List.getElem_cons_zero, Act.put, List.setIfInBounds_toArray, List.set_cons_succ, List.set_cons_zero]
    refine wpAnyH_take (i := 12) (v := ?_) rfl (by kernel_rfl) (by kernel_rfl) (by kernel_rfl) (fun _ _ _ h => h) (Or.inl ⟨by kernel_rfl, ?_⟩) HSW.out ?_
    rotate_left
    ·rintro w ⟨e0,e1,e2⟩; go_simp; try with_reducible rfl
    conv in (Act.put _ _ _) => simp only [List.getElem_toArray, List.getElem_cons_succ, List.getElem_cons_zero, Act.put, List.setIfInBounds_toArray, List.set_cons_succ, List.set_cons_zero]
    refine wpAnyH_done (by kernel_rfl) ?_ _
    rw [hft] at hnx
    have HNX : Hid (fk f L (k + 1) = fk f L k ++ [⟨id, rx, ry, rvl⟩]) := by
     refine (?_ : fk f L (k + 1) = _)
     rw [hnx]; simp
    clear hnx hft
    obtain ⟨u0, u1, u2, u3⟩ := Fr.same (w' := wr.drew) HCR.out rfl
    simp only at u0 u1 u2 u3
    have hbn := below_new wr.drew (.cells #[.int .u64 (id : Int), .int .u32 (rx : Int), .int .u32 (ry : Int), .string rvl] 54)
    obtain ⟨v', W', hrun, a1, a2, a3⟩ := append_sl 32 54 Try.underlying32 infoRow rfl (by decide) (by decide) (wr.drew.alloc (.cells #[.int .u64 (id : Int), .int .u32 (rx : Int), .int .u32 (ry : Int), .string rvl] 54)) W1.heap.size pn 1 (.slice po pn pc) (some ⟨wr.heap.size, 0, none⟩) 1
     ((fk f L k).flatMap rc) (rc ⟨id, rx, ry, rvl⟩) (own_same HO.out fun b _ hb' => hbn.block b hb') (by have := HBk.out.size; have h9 : wr.drew.heap.size = wr.heap.size := rfl; simp; omega) (one_row (r := ⟨id, rx, ry, rvl⟩) (heap_alloc_new wr.drew _)) (rc_one' _) (by have := HLm.out; omega)
    have HO1 : Hid (W'.ownsRow W1.heap.size 54 4 v' (fk f L (k + 1)).length ((fk f L (k + 1)).flatMap rc)) := by
     refine (?_ : W'.ownsRow W1.heap.size 54 4 v' (fk f L (k + 1)).length ((fk f L (k + 1)).flatMap rc))
     rw [HNX.out, List.flatMap_append, List.length_append, HPN.out]
     simpa using a1
    have HB1 : Hid (Below W1.heap.size W1 W') := (HBk.out.drew.trans (hbn.mono HBk.out.size)).grown a2 (by have := HBk.out.size; have h9 : wr.drew.heap.size = wr.heap.size := rfl; simp; omega) fun b eb => (own_base HO.out eb).1
    clear hbn a1 a2 a3 HSW hbk ho sp
    go_wp2_with (at_builtin; refine list_append rfl 32 32 (.tmp 66) (.tmp 71) rfl (vs := .slice po pn pc) (vx := .slice (some ⟨wr.heap.size, 0, none⟩) 1 1) rfl rfl hrun ?_)
    go_roundw
    case rel => exact ⟨k + 1, by omega, by go_num, HO1.out, HB1.out⟩
    case measure => simp [natOf]; omega
   ·have hft : f ⟨id, rx, ry, rvl⟩ = false := by rw [hfi, hd]; rfl
    clear hfi
    rw [hft] at hnx
    have HNX : Hid (fk f L (k + 1) = fk f L k) := by
     refine (?_ : fk f L (k + 1) = _)
     rw [hnx]; simp
    clear hnx hft
    go_wp2_with fail
    refine wp_region_held (S := G2 w.heap.size af true p (off + k * 4) id) (by kernel_rfl) ?_
    change wpAnyH _ _ _ _ _ _ _ _ (World.drew _)
    refine wpAnyH_take (i := 0) (v := ?_) rfl (by kernel_rfl) (by kernel_rfl) (by kernel_rfl) (fun _ _ _ h => h) (Or.inl ⟨by kernel_rfl, ?_⟩) HSW.out ?_
    rotate_left
    ·rintro w ⟨e0,e1,e2⟩; go_simp; try with_reducible rfl
    conv in (Act.put _ _ _) => simp only [List.getElem_toArray, List.getElem_cons_succ, List.getElem_cons_zero, Act.put, List.setIfInBounds_toArray, List.set_cons_succ, List.set_cons_zero]
    refine wpAnyH_take (i := 1) (v := ?_) rfl (by kernel_rfl) (by kernel_rfl) (by kernel_rfl) (fun _ _ _ h => h) (Or.inl ⟨by kernel_rfl, ?_⟩) HSW.out ?_
    rotate_left
    ·rintro w ⟨e0,e1,e2⟩; go_simp; try with_reducible rfl
    conv in (Act.put _ _ _) => simp only [List.getElem_toArray, List.getElem_cons_succ, List.getElem_cons_zero, Act.put, List.setIfInBounds_toArray, List.set_cons_succ, List.set_cons_zero]
    refine wpAnyH_take (i := 2) (v := ?_) rfl (by kernel_rfl) (by kernel_rfl) (by kernel_rfl) (fun _ _ _ h => h) (Or.inl ⟨by kernel_rfl, ?_⟩) HSW.out ?_
    rotate_left
    ·rintro w ⟨e0,e1,e2⟩; go_simp; try with_reducible rfl
    conv in (Act.put _ _ _) => simp only [List.getElem_toArray, List.getElem_cons_succ, List.getElem_cons_zero, Act.put, List.setIfInBounds_toArray, List.set_cons_succ, List.set_cons_zero]
    refine wpAnyH_take (i := 3) (v := ?_) rfl (by kernel_rfl) (by kernel_rfl) (by kernel_rfl) (fun _ _ _ h => h) (Or.inl ⟨by kernel_rfl, ?_⟩) HSW.out ?_
    rotate_left
    ·rintro w ⟨e0,e1,e2⟩; go_simp; try with_reducible rfl
    conv in (Act.put _ _ _) => simp only [List.getElem_toArray, List.getElem_cons_succ, List.getElem_cons_zero, Act.put, List.setIfInBounds_toArray, List.set_cons_succ, List.set_cons_zero]
    refine wpAnyH_take (i := 4) (v := ?_) rfl (by kernel_rfl) (by kernel_rfl) (by kernel_rfl) (fun _ _ _ h => h) (Or.inl ⟨by kernel_rfl, ?_⟩) HSW.out ?_
    rotate_left
    ·rintro w ⟨e0,e1,e2⟩; go_simp; try with_reducible rfl
    conv in (Act.put _ _ _) => simp only [List.getElem_toArray, List.getElem_cons_succ, List.getElem_cons_zero, Act.put, List.setIfInBounds_toArray, List.set_cons_succ, List.set_cons_zero]
    refine wpAnyH_take (i := 5) (v := ?_) rfl (by kernel_rfl) (by kernel_rfl) (by kernel_rfl) (fun _ _ _ h => h) (Or.inl ⟨by kernel_rfl, ?_⟩) HSW.out ?_
    rotate_left
    ·rintro w ⟨e0,e1,e2⟩; go_simp; try with_reducible rfl
    conv in (Act.put _ _ _) => simp only [List.getElem_toArray, List.getElem_cons_succ, List.getElem_cons_zero, Act.put, List.setIfInBounds_toArray, List.set_cons_succ, List.set_cons_zero]
    refine wpAnyH_take (i := 6) (v := ?_) rfl (by kernel_rfl) (by kernel_rfl) (by kernel_rfl) (fun _ _ _ h => h) (Or.inl ⟨by kernel_rfl, ?_⟩) HSW.out ?_
    rotate_left
    ·rintro w ⟨e0,e1,e2⟩; go_simp; try with_reducible rfl
    conv in (Act.put _ _ _) => simp only [List.getElem_toArray, List.getElem_cons_succ, List.getElem_cons_zero, Act.put, List.setIfInBounds_toArray, List.set_cons_succ, List.set_cons_zero]
    refine wpAnyH_take (i := 7) (v := ?_) rfl (by kernel_rfl) (by kernel_rfl) (by kernel_rfl) (fun _ _ _ h => h) (Or.inl ⟨by kernel_rfl, ?_⟩) HSW.out ?_
    rotate_left
    ·rintro w ⟨e0,e1,e2⟩; go_simp; try with_reducible rfl
    conv in (Act.put _ _ _) => simp only [List.getElem_toArray, List.getElem_cons_succ, List.getElem_cons_zero, Act.put, List.setIfInBounds_toArray, List.set_cons_succ, List.set_cons_zero]
    refine wpAnyH_take (i := 8) (v := ?_) rfl (by kernel_rfl) (by kernel_rfl) (by kernel_rfl) (fun _ _ _ h => h) (Or.inl ⟨by kernel_rfl, ?_⟩) HSW.out ?_
    rotate_left
    ·rintro w ⟨e0,e1,e2⟩; go_simp; try with_reducible rfl
    conv in (Act.put _ _ _) => simp only [List.getElem_toArray, List.getElem_cons_succ, List.getElem_cons_zero, Act.put, List.setIfInBounds_toArray, List.set_cons_succ, List.set_cons_zero]
    refine wpAnyH_take (i := 9) (v := ?_) rfl (by kernel_rfl) (by kernel_rfl) (by kernel_rfl) (fun _ _ _ h => h) (Or.inl ⟨by kernel_rfl, ?_⟩) HSW.out ?_
    rotate_left
    ·rintro w ⟨e0,e1,e2⟩; go_simp; try with_reducible rfl
    conv in (Act.put _ _ _) => simp only [List.getElem_toArray, List.getElem_cons_succ, List.getElem_cons_zero, Act.put, List.setIfInBounds_toArray, List.set_cons_succ, List.set_cons_zero]
    refine wpAnyH_take (i := 10) (v := ?_) rfl (by kernel_rfl) (by kernel_rfl) (by kernel_rfl) (fun _ _ _ h => h) (Or.inl ⟨by kernel_rfl, ?_⟩) HSW.out ?_
    rotate_left
    ·rintro w ⟨e0,e1,e2⟩; go_simp; try with_reducible rfl
    conv in (Act.put _ _ _) => simp only [List.getElem_toArray, List.getElem_cons_succ, List.getElem_cons_zero, Act.put, List.setIfInBounds_toArray, List.set_cons_succ, List.set_cons_zero]
    refine wpAnyH_take (i := 11) (v := ?_) rfl (by kernel_rfl) (by kernel_rfl) (by kernel_rfl) (fun _ _ _ h => h) (Or.inl ⟨by kernel_rfl, ?_⟩) HSW.out ?_
    rotate_left
    ·rintro w ⟨e0,e1,e2⟩; go_simp; try with_reducible rfl
    conv in (Act.put _ _ _) => simp only [List.getElem_toArray, List.getElem_cons_succ, List.getElem_cons_zero, Act.put, List.setIfInBounds_toArray, List.set_cons_succ, List.set_cons_zero]
    refine wpAnyH_take (i := 12) (v := ?_) rfl (by kernel_rfl) (by kernel_rfl) (by kernel_rfl) (fun _ _ _ h => h) (Or.inl ⟨by kernel_rfl, ?_⟩) HSW.out ?_
    rotate_left
    ·rintro w ⟨e0,e1,e2⟩; go_simp; try with_reducible rfl
    conv in (Act.put _ _ _) => simp only [List.getElem_toArray, List.getElem_cons_succ, List.getElem_cons_zero, Act.put, List.setIfInBounds_toArray, List.set_cons_succ, List.set_cons_zero]
    refine wpAnyH_done (by kernel_rfl) ?_ _
    have HO1 : Hid (wr.drew.ownsRow W1.heap.size 54 4 (.slice po pn pc) (fk f L (k + 1)).length ((fk f L (k + 1)).flatMap rc)) := by
     refine (?_ : wr.drew.ownsRow W1.heap.size 54 4 (.slice po pn pc) (fk f L (k + 1)).length ((fk f L (k + 1)).flatMap rc))
     rw [HNX.out, HPN.out]
     exact own_same HO.out fun b _ hb' => rfl
    have HB1 : Hid (Below W1.heap.size W1 wr.drew) := HBk.out.drew
    clear HSW hbk ho sp
    go_wp2_with fail
    go_roundw
    case rel => exact ⟨k + 1, by omega, by go_num, HO1.out, HB1.out⟩
    case measure => simp [natOf]; omega
  ·obtain rfl : k = L.length := by omega
   have q5 : ¬ (L.length : Int) < (L.length : Int) := by omega
   rw [fk_all] at HO HPN
   have hs := HO.out
   rw [← HPN.out] at hs
   obtain ⟨o9, cap9, e9, s9⟩ := sl_of_own hs
   rw [HPN.out] at e9
   cases e9
   have HE : Hid (RowsAt wr po pc (L.filter f) ∧ Below w.heap.size w wr ∧ Fresh w.heap.size po (L.filter f).length) := ⟨s9, HBW.out.trans (HBk.out.mono HBW.out.size), (own_fresh hs).mono HBW.out.size⟩
   clear hbk ho sp hs s9
   go_wp2_with fail
   go_ret
   refine ⟨po, pc, ?_, by rw [HRS.out]; exact HE.out.1, HE.out.2.1, by rw [HRS.out]; exact HE.out.2.2⟩
   rw [HRS.out, HPN.out]
   rfl
set_option maxRecDepth 100000 in
set_option maxHeartbeats 4000000 in
theorem asked_2 (o : Option Addr) (cap : Nat) (l : List Rw) (a b c d x y sq : Nat) (kk : Int) (af : Nat) (fr : Bool) (w : World) (hr : RowsAt w o cap l) (hon : On l) (hmax : l.length ≤ 1000) (hri : Rise l) (hx : onS x y = true) :
  Calls Try.prog 30 #[.slice o l.length cap, qv ⟨2, a, b, c, d, x, y, sq, kk, af, fr⟩] w (RR (rest ⟨2, a, b, c, d, x, y, sq, kk, af, fr⟩ (rndV l x y sq)) w) := by
 have hb := below_new w (qcs ⟨2, a, b, c, d, x, y, sq, kk, af, fr⟩)
 have hg := heap_alloc_new w (qcs ⟨2, a, b, c, d, x, y, sq, kk, af, fr⟩)
 obtain ⟨W0, hW0⟩ : ∃ W0, w.alloc (qcs ⟨2, a, b, c, d, x, y, sq, kk, af, fr⟩) = W0 := ⟨_, rfl⟩
 rw [hW0] at hb hg
 have HW0 : Hid _ := hW0
 have HG0 : Hid (W0.heap[w.heap.size]? = some (qcs ⟨2, a, b, c, d, x, y, sq, kk, af, fr⟩)) := hg
 have HB0 : Hid (Below w.heap.size w W0) := hb
 have lq : w.heap.size < W0.heap.size := (Array.getElem?_eq_some_iff.1 hg).1
 obtain ⟨c0, c1, c2, c3, c4, c5, c6, c7, c8, c9, c10⟩ := qc_of hg
 simp only at c0 c1 c2 c3 c4 c5 c6 c7 c8 c9 c10
 have hr0 := hr.below hb (Nat.le_refl _)
 have hrl : Rise (rndV l x y sq) := by unfold rndV; rw [if_pos hx]; exact rise_filter hri _
 have hml : (rndV l x y sq).length ≤ 1000 := by unfold rndV; rw [if_pos hx]; exact Nat.le_trans (List.length_filter_le _ _) hmax
 have hrs : rest ⟨2, a, b, c, d, x, y, sq, kk, af, fr⟩ (rndV l x y sq) = (rndV l x y sq).filter fun r => !fr || decide (af < r.id) := (rest_is (fun _ => hrl)).trans (if_neg (by simp))
 have HC : Hid (∀ _ : True, _) := fun _ => rRound_any l o cap x y sq W0 hr0 hon hmax
 obtain ⟨L, hL⟩ : ∃ L, rndV l x y sq = L := ⟨_, rfl⟩
 rw [hL] at HC hml hrs ⊢
 obtain ⟨f, hf⟩ : ∃ f : Rw → Bool, (fun r : Rw => !fr || decide (af < r.id)) = f := ⟨_, rfl⟩
 rw [hf] at hrs
 have HRS : Hid (rest ⟨2, a, b, c, d, x, y, sq, kk, af, fr⟩ L = L.filter f) := hrs
 have HLm : Hid (L.length ≤ 1000) := hml
 have e9 : rndE x y = 0 := by unfold rndE; rw [if_pos hx]
 rw [e9] at HC
 clear e9
 simp only [qv] at HC ⊢
 clear hb hg hW0 hrl hrs hri hmax hml hr hr0 hL hx hon
 go_enter Try.func30, Try.ntmps30
 go_wp2_with (first | (rw [HW0.out]; clear HW0))
 refine Calls.mono (HC.out trivial) ?_
 rintro e W1 ⟨v, rfl, ho1, b1⟩
 obtain ⟨o1, cap1, rfl, hs1⟩ := sl_of_own ho1
 have HR1 : Hid (RowsAt W1 o1 cap1 L) := hs1
 have HBW : Hid (Below w.heap.size w W1) := HB0.out.trans (b1.mono HB0.out.size)
 have HG1 : Hid (W1.heap[w.heap.size]? = some (qcs ⟨2, a, b, c, d, x, y, sq, kk, af, fr⟩)) := (b1.block _ lq).trans HG0.out
 have lq1 : w.heap.size < W1.heap.size := (Array.getElem?_eq_some_iff.1 HG1.out).1
 clear ho1 hs1 b1 HC HB0 HG0 lq c0 c1 c2 c3 c4 c5 c6 c7 c8 c9 c10
 have HF : Hid (∀ r : Rw, f r = (!fr || decide (af < r.id))) := fun r => by rw [← hf]
 clear hf
 go_wp2_with fail
 go_loopw [6, 7] (fun pv iv wr => ∃ k : Nat, k ≤ L.length ∧ iv = .int .i64 (k : Int) ∧ wr.ownsRow W1.heap.size 54 4 pv (fk f L k).length ((fk f L k).flatMap rc) ∧ Below W1.heap.size W1 wr) (fun _ iv _ => L.length - natOf iv)
 case atStart =>
  refine ⟨0, by omega, rfl, ?_, Below.refl _ _⟩
  rw [fk_zero]
  exact World.ownsRow_nil _ _ _ _
 case round =>
  obtain ⟨k, hk, rfl, ho, hbk⟩ := hrel
  have HO : Hid _ := ho
  have HBk : Hid (Below W1.heap.size W1 wr) := hbk
  obtain ⟨po, pc, rfl, sp⟩ := sl_of_own ho
  obtain ⟨pn, hpn⟩ : ∃ pn, (fk f L k).length = pn := ⟨_, rfl⟩
  have HPN : Hid ((fk f L k).length = pn) := hpn
  have hpl := fk_len f L k
  rw [hpn] at ho HO sp hpl ⊢
  by_cases hkl : k < L.length
  ·obtain ⟨p, off, rfl, hbl, hc⟩ := (HR1.out.below hbk (Nat.le_refl _)).row hkl
   have hcr := hc k hkl
   have hnx := fk_next f L k hkl
   have q5 : (k : Int) < (L.length : Int) := by omega
   have k0 : (0 : Int) ≤ (k : Int) := by omega
   have k2 : (k : Int) + 1 ≤ 9223372036854775807 := by have := HLm.out; omega
   have gk := (hbk.block _ lq1).trans HG1.out
   generalize rat L k = r at *
   obtain ⟨id, rx, ry, rvl⟩ := r
   have HSW : Hid (G2 w.heap.size af fr p (off + k * 4) id wr.drew) := ⟨(qc_of gk).2.2.2.2.2.2.2.2.2.2, (qc_of gk).2.2.2.2.2.2.2.2.2.1, hcr.1⟩
   have HCR : Hid (Fr wr p (off + k * 4) ⟨id, rx, ry, rvl⟩) := hcr
   clear hc hcr gk
   have hfi := HF.out ⟨id, rx, ry, rvl⟩
   simp only at hfi
   have hcase : (fr = false) ∨ (fr = true ∧ decide (af < id) = true) ∨ (fr = true ∧ decide (af < id) = false) := by
    cases fr
    ·exact .inl rfl
    ·cases decide (af < id)
     ·exact .inr (.inr ⟨rfl, rfl⟩)
     ·exact .inr (.inl ⟨rfl, rfl⟩)
   rcases hcase with rfl | ⟨rfl, hd⟩ | ⟨rfl, hd⟩
   ·have hft : f ⟨id, rx, ry, rvl⟩ = true := hfi
    clear hfi
    go_wp2_with fail
    refine wp_region_held (S := G2 w.heap.size af false p (off + k * 4) id) (by kernel_rfl) ?_
    change wpAnyH _ _ _ _ _ _ _ _ (World.drew _)
    refine wpAnyH_take (i := 0) (v := ?_) rfl (by kernel_rfl) (by kernel_rfl) (by kernel_rfl) (fun _ _ _ h => h) (Or.inl ⟨by kernel_rfl, ?_⟩) HSW.out ?_
    rotate_left
    ·rintro w ⟨e0,e1,e2⟩; go_simp; try with_reducible rfl
    conv in (Act.put _ _ _) => simp only [List.getElem_toArray, List.getElem_cons_succ, List.getElem_cons_zero, Act.put, List.setIfInBounds_toArray, List.set_cons_succ, List.set_cons_zero]
    refine wpAnyH_take (i := 1) (v := ?_) rfl (by kernel_rfl) (by kernel_rfl) (by kernel_rfl) (fun _ _ _ h => h) (Or.inl ⟨by kernel_rfl, ?_⟩) HSW.out ?_
    rotate_left
    ·rintro w ⟨e0,e1,e2⟩; go_simp; try with_reducible rfl
    conv in (Act.put _ _ _) => simp only [List.getElem_toArray, List.getElem_cons_succ, List.getElem_cons_zero, Act.put, List.setIfInBounds_toArray, List.set_cons_succ, List.set_cons_zero]
    refine wpAnyH_take (i := 2) (v := ?_) rfl (by kernel_rfl) (by kernel_rfl) (by kernel_rfl) (fun _ _ _ h => h) (Or.inl ⟨by kernel_rfl, ?_⟩) HSW.out ?_
    rotate_left
    ·rintro w ⟨e0,e1,e2⟩; go_simp; try with_reducible rfl
    conv in (Act.put _ _ _) => simp only [List.getElem_toArray, List.getElem_cons_succ, List.getElem_cons_zero, Act.put, List.setIfInBounds_toArray, List.set_cons_succ, List.set_cons_zero]
    refine wpAnyH_take (i := 3) (v := ?_) rfl (by kernel_rfl) (by kernel_rfl) (by kernel_rfl) (fun _ _ _ h => h) (Or.inl ⟨by kernel_rfl, ?_⟩) HSW.out ?_
    rotate_left
    ·rintro w ⟨e0,e1,e2⟩; go_simp; try with_reducible rfl
    conv in (Act.put _ _ _) => simp only [List.getElem_toArray, List.getElem_cons_succ, List.getElem_cons_zero, Act.put, List.setIfInBounds_toArray, List.set_cons_succ, List.set_cons_zero]
    refine wpAnyH_take (i := 4) (v := undef) rfl (by kernel_rfl) (by kernel_rfl) (by kernel_rfl) (fun _ _ _ h => h) (Or.inr ⟨by kernel_rfl, rfl⟩) HSW.out ?_
    conv in (Act.put _ _ _) => simp only [List.getElem_toArray, List.getElem_cons_succ, List.getElem_cons_zero, Act.put, List.setIfInBounds_toArray, List.set_cons_succ, List.set_cons_zero]
    refine wpAnyH_take (i := 5) (v := undef) rfl (by kernel_rfl) (by kernel_rfl) (by kernel_rfl) (fun _ _ _ h => h) (Or.inr ⟨by kernel_rfl, rfl⟩) HSW.out ?_
    conv in (Act.put _ _ _) => simp only [List.getElem_toArray, List.getElem_cons_succ, List.getElem_cons_zero, Act.put, List.setIfInBounds_toArray, List.set_cons_succ, List.set_cons_zero]
    refine wpAnyH_take (i := 6) (v := undef) rfl (by kernel_rfl) (by kernel_rfl) (by kernel_rfl) (fun _ _ _ h => h) (Or.inr ⟨by kernel_rfl, rfl⟩) HSW.out ?_
    conv in (Act.put _ _ _) => simp only [List.getElem_toArray, List.getElem_cons_succ, List.getElem_cons_zero, Act.put, List.setIfInBounds_toArray, List.set_cons_succ, List.set_cons_zero]
    refine wpAnyH_take (i := 7) (v := undef) rfl (by kernel_rfl) (by kernel_rfl) (by kernel_rfl) (fun _ _ _ h => h) (Or.inr ⟨by kernel_rfl, rfl⟩) HSW.out ?_
    conv in (Act.put _ _ _) => simp only [List.getElem_toArray, List.getElem_cons_succ, List.getElem_cons_zero, Act.put, List.setIfInBounds_toArray, List.set_cons_succ, List.set_cons_zero]
    refine wpAnyH_take (i := 8) (v := undef) rfl (by kernel_rfl) (by kernel_rfl) (by kernel_rfl) (fun _ _ _ h => h) (Or.inr ⟨by kernel_rfl, rfl⟩) HSW.out ?_
    conv in (Act.put _ _ _) => simp only [List.getElem_toArray, List.getElem_cons_succ, List.getElem_cons_zero, Act.put, List.setIfInBounds_toArray, List.set_cons_succ, List.set_cons_zero]
    refine wpAnyH_take (i := 9) (v := undef) rfl (by kernel_rfl) (by kernel_rfl) (by kernel_rfl) (fun _ _ _ h => h) (Or.inr ⟨by kernel_rfl, rfl⟩) HSW.out ?_
    conv in (Act.put _ _ _) => simp only [List.getElem_toArray, List.getElem_cons_succ, List.getElem_cons_zero, Act.put, List.setIfInBounds_toArray, List.set_cons_succ, List.set_cons_zero]
    refine wpAnyH_take (i := 10) (v := undef) rfl (by kernel_rfl) (by kernel_rfl) (by kernel_rfl) (fun _ _ _ h => h) (Or.inr ⟨by kernel_rfl, rfl⟩) HSW.out ?_
    conv in (Act.put _ _ _) => simp only [List.getElem_toArray, List.getElem_cons_succ, List.getElem_cons_zero, Act.put, List.setIfInBounds_toArray, List.set_cons_succ, List.set_cons_zero]
    refine wpAnyH_take (i := 11) (v := undef) rfl (by kernel_rfl) (by kernel_rfl) (by kernel_rfl) (fun _ _ _ h => h) (Or.inr ⟨by kernel_rfl, rfl⟩) HSW.out ?_
    conv in (Act.put _ _ _) => simp only [List.getElem_toArray, List.getElem_cons_succ, List.getElem_cons_zero, Act.put, List.setIfInBounds_toArray, List.set_cons_succ, List.set_cons_zero]
    refine wpAnyH_take (i := 12) (v := ?_) rfl (by kernel_rfl) (by kernel_rfl) (by kernel_rfl) (fun _ _ _ h => h) (Or.inl ⟨by kernel_rfl, ?_⟩) HSW.out ?_
    rotate_left
    ·rintro w ⟨e0,e1,e2⟩; go_simp; try with_reducible rfl
    conv in (Act.put _ _ _) => simp only [List.getElem_toArray, List.getElem_cons_succ, List.getElem_cons_zero, Act.put, List.setIfInBounds_toArray, List.set_cons_succ, List.set_cons_zero]
    refine wpAnyH_done (by kernel_rfl) ?_ _
    rw [hft] at hnx
    have HNX : Hid (fk f L (k + 1) = fk f L k ++ [⟨id, rx, ry, rvl⟩]) := by
     refine (?_ : fk f L (k + 1) = _)
     rw [hnx]; simp
    clear hnx hft
    obtain ⟨u0, u1, u2, u3⟩ := Fr.same (w' := wr.drew) HCR.out rfl
    simp only at u0 u1 u2 u3
    have hbn := below_new wr.drew (.cells #[.int .u64 (id : Int), .int .u32 (rx : Int), .int .u32 (ry : Int), .string rvl] 54)
    obtain ⟨v', W', hrun, a1, a2, a3⟩ := append_sl 32 54 Try.underlying32 infoRow rfl (by decide) (by decide) (wr.drew.alloc (.cells #[.int .u64 (id : Int), .int .u32 (rx : Int), .int .u32 (ry : Int), .string rvl] 54)) W1.heap.size pn 1 (.slice po pn pc) (some ⟨wr.heap.size, 0, none⟩) 1
     ((fk f L k).flatMap rc) (rc ⟨id, rx, ry, rvl⟩) (own_same HO.out fun b _ hb' => hbn.block b hb') (by have := HBk.out.size; have h9 : wr.drew.heap.size = wr.heap.size := rfl; simp; omega) (one_row (r := ⟨id, rx, ry, rvl⟩) (heap_alloc_new wr.drew _)) (rc_one' _) (by have := HLm.out; omega)
    have HO1 : Hid (W'.ownsRow W1.heap.size 54 4 v' (fk f L (k + 1)).length ((fk f L (k + 1)).flatMap rc)) := by
     refine (?_ : W'.ownsRow W1.heap.size 54 4 v' (fk f L (k + 1)).length ((fk f L (k + 1)).flatMap rc))
     rw [HNX.out, List.flatMap_append, List.length_append, HPN.out]
     simpa using a1
    have HB1 : Hid (Below W1.heap.size W1 W') := (HBk.out.drew.trans (hbn.mono HBk.out.size)).grown a2 (by have := HBk.out.size; have h9 : wr.drew.heap.size = wr.heap.size := rfl; simp; omega) fun b eb => (own_base HO.out eb).1
    clear hbn a1 a2 a3 HSW hbk ho sp
    go_wp2_with (at_builtin; refine list_append rfl 32 32 (.tmp 66) (.tmp 71) rfl (vs := .slice po pn pc) (vx := .slice (some ⟨wr.heap.size, 0, none⟩) 1 1) rfl rfl hrun ?_)
    go_roundw
    case rel => exact ⟨k + 1, by omega, by go_num, HO1.out, HB1.out⟩
    case measure => simp [natOf]; omega
   ·have hft : f ⟨id, rx, ry, rvl⟩ = true := by rw [hfi, hd]; rfl
    clear hfi
    go_wp2_with fail
    refine wp_region_held (S := G2 w.heap.size af true p (off + k * 4) id) (by kernel_rfl) ?_
    change wpAnyH _ _ _ _ _ _ _ _ (World.drew _)
    refine wpAnyH_take (i := 0) (v := ?_) rfl (by kernel_rfl) (by kernel_rfl) (by kernel_rfl) (fun _ _ _ h => h) (Or.inl ⟨by kernel_rfl, ?_⟩) HSW.out ?_
    rotate_left
    ·rintro w ⟨e0,e1,e2⟩; go_simp; try with_reducible rfl
    conv in (Act.put _ _ _) => simp only [List.getElem_toArray, List.getElem_cons_succ, List.getElem_cons_zero, Act.put, List.setIfInBounds_toArray, List.set_cons_succ, List.set_cons_zero]
    refine wpAnyH_take (i := 1) (v := ?_) rfl (by kernel_rfl) (by kernel_rfl) (by kernel_rfl) (fun _ _ _ h => h) (Or.inl ⟨by kernel_rfl, ?_⟩) HSW.out ?_
    rotate_left
    ·rintro w ⟨e0,e1,e2⟩; go_simp; try with_reducible rfl
    conv in (Act.put _ _ _) => simp only [List.getElem_toArray, List.getElem_cons_succ, List.getElem_cons_zero, Act.put, List.setIfInBounds_toArray, List.set_cons_succ, List.set_cons_zero]
    refine wpAnyH_take (i := 2) (v := ?_) rfl (by kernel_rfl) (by kernel_rfl) (by kernel_rfl) (fun _ _ _ h => h) (Or.inl ⟨by kernel_rfl, ?_⟩) HSW.out ?_
    rotate_left
    ·rintro w ⟨e0,e1,e2⟩; go_simp; try with_reducible rfl
    conv in (Act.put _ _ _) => simp only [List.getElem_toArray, List.getElem_cons_succ, List.getElem_cons_zero, Act.put, List.setIfInBounds_toArray, List.set_cons_succ, List.set_cons_zero]
    refine wpAnyH_take (i := 3) (v := ?_) rfl (by kernel_rfl) (by kernel_rfl) (by kernel_rfl) (fun _ _ _ h => h) (Or.inl ⟨by kernel_rfl, ?_⟩) HSW.out ?_
    rotate_left
    ·rintro w ⟨e0,e1,e2⟩; go_simp; try with_reducible rfl
    conv in (Act.put _ _ _) => simp only [List.getElem_toArray, List.getElem_cons_succ, List.getElem_cons_zero, Act.put, List.setIfInBounds_toArray, List.set_cons_succ, List.set_cons_zero]
    refine wpAnyH_take (i := 4) (v := ?_) rfl (by kernel_rfl) (by kernel_rfl) (by kernel_rfl) (fun _ _ _ h => h) (Or.inl ⟨by kernel_rfl, ?_⟩) HSW.out ?_
    rotate_left
    ·rintro w ⟨e0,e1,e2⟩; go_simp; try with_reducible rfl
    conv in (Act.put _ _ _) => simp only [List.getElem_toArray, List.getElem_cons_succ, List.getElem_cons_zero, Act.put, List.setIfInBounds_toArray, List.set_cons_succ, List.set_cons_zero]
    refine wpAnyH_take (i := 5) (v := ?_) rfl (by kernel_rfl) (by kernel_rfl) (by kernel_rfl) (fun _ _ _ h => h) (Or.inl ⟨by kernel_rfl, ?_⟩) HSW.out ?_
    rotate_left
    ·rintro w ⟨e0,e1,e2⟩; go_simp; try with_reducible rfl
    conv in (Act.put _ _ _) => simp only [List.getElem_toArray, List.getElem_cons_succ, List.getElem_cons_zero, Act.put, List.setIfInBounds_toArray, List.set_cons_succ, List.set_cons_zero]
    refine wpAnyH_take (i := 6) (v := ?_) rfl (by kernel_rfl) (by kernel_rfl) (by kernel_rfl) (fun _ _ _ h => h) (Or.inl ⟨by kernel_rfl, ?_⟩) HSW.out ?_
    rotate_left
    ·rintro w ⟨e0,e1,e2⟩; go_simp; try with_reducible rfl
    conv in (Act.put _ _ _) => simp only [List.getElem_toArray, List.getElem_cons_succ, List.getElem_cons_zero, Act.put, List.setIfInBounds_toArray, List.set_cons_succ, List.set_cons_zero]
    refine wpAnyH_take (i := 7) (v := ?_) rfl (by kernel_rfl) (by kernel_rfl) (by kernel_rfl) (fun _ _ _ h => h) (Or.inl ⟨by kernel_rfl, ?_⟩) HSW.out ?_
    rotate_left
    ·rintro w ⟨e0,e1,e2⟩; go_simp; try with_reducible rfl
    conv in (Act.put _ _ _) => simp only [List.getElem_toArray, List.getElem_cons_succ, List.getElem_cons_zero, Act.put, List.setIfInBounds_toArray, List.set_cons_succ, List.set_cons_zero]
    refine wpAnyH_take (i := 8) (v := ?_) rfl (by kernel_rfl) (by kernel_rfl) (by kernel_rfl) (fun _ _ _ h => h) (Or.inl ⟨by kernel_rfl, ?_⟩) HSW.out ?_
    rotate_left
    ·rintro w ⟨e0,e1,e2⟩; go_simp; try with_reducible rfl
    conv in (Act.put _ _ _) => simp only [List.getElem_toArray, List.getElem_cons_succ, List.getElem_cons_zero, Act.put, List.setIfInBounds_toArray, List.set_cons_succ, List.set_cons_zero]
    refine wpAnyH_take (i := 9) (v := ?_) rfl (by kernel_rfl) (by kernel_rfl) (by kernel_rfl) (fun _ _ _ h => h) (Or.inl ⟨by kernel_rfl, ?_⟩) HSW.out ?_
    rotate_left
    ·rintro w ⟨e0,e1,e2⟩; go_simp; try with_reducible rfl
    conv in (Act.put _ _ _) => simp only [List.getElem_toArray, List.getElem_cons_succ, List.getElem_cons_zero, Act.put, List.setIfInBounds_toArray, List.set_cons_succ, List.set_cons_zero]
    refine wpAnyH_take (i := 10) (v := ?_) rfl (by kernel_rfl) (by kernel_rfl) (by kernel_rfl) (fun _ _ _ h => h) (Or.inl ⟨by kernel_rfl, ?_⟩) HSW.out ?_
    rotate_left
    ·rintro w ⟨e0,e1,e2⟩; go_simp; try with_reducible rfl
    conv in (Act.put _ _ _) => simp only [List.getElem_toArray, List.getElem_cons_succ, List.getElem_cons_zero, Act.put, List.setIfInBounds_toArray, List.set_cons_succ, List.set_cons_zero]
    refine wpAnyH_take (i := 11) (v := ?_) rfl (by kernel_rfl) (by kernel_rfl) (by kernel_rfl) (fun _ _ _ h => h) (Or.inl ⟨by kernel_rfl, ?_⟩) HSW.out ?_
    rotate_left
    ·rintro w ⟨e0,e1,e2⟩; go_simp; try with_reducible rfl
    conv in (Act.put _ _ _) => simp only [List.getElem_toArray, List.getElem_cons_succ, List.getElem_cons_zero, Act.put, List.setIfInBounds_toArray, List.set_cons_succ, List.set_cons_zero]
    refine wpAnyH_take (i := 12) (v := ?_) rfl (by kernel_rfl) (by kernel_rfl) (by kernel_rfl) (fun _ _ _ h => h) (Or.inl ⟨by kernel_rfl, ?_⟩) HSW.out ?_
    rotate_left
    ·rintro w ⟨e0,e1,e2⟩; go_simp; try with_reducible rfl
    conv in (Act.put _ _ _) => simp only [List.getElem_toArray, List.getElem_cons_succ, List.getElem_cons_zero, Act.put, List.setIfInBounds_toArray, List.set_cons_succ, List.set_cons_zero]
    refine wpAnyH_done (by kernel_rfl) ?_ _
    rw [hft] at hnx
    have HNX : Hid (fk f L (k + 1) = fk f L k ++ [⟨id, rx, ry, rvl⟩]) := by
     refine (?_ : fk f L (k + 1) = _)
     rw [hnx]; simp
    clear hnx hft
    obtain ⟨u0, u1, u2, u3⟩ := Fr.same (w' := wr.drew) HCR.out rfl
    simp only at u0 u1 u2 u3
    have hbn := below_new wr.drew (.cells #[.int .u64 (id : Int), .int .u32 (rx : Int), .int .u32 (ry : Int), .string rvl] 54)
    obtain ⟨v', W', hrun, a1, a2, a3⟩ := append_sl 32 54 Try.underlying32 infoRow rfl (by decide) (by decide) (wr.drew.alloc (.cells #[.int .u64 (id : Int), .int .u32 (rx : Int), .int .u32 (ry : Int), .string rvl] 54)) W1.heap.size pn 1 (.slice po pn pc) (some ⟨wr.heap.size, 0, none⟩) 1
     ((fk f L k).flatMap rc) (rc ⟨id, rx, ry, rvl⟩) (own_same HO.out fun b _ hb' => hbn.block b hb') (by have := HBk.out.size; have h9 : wr.drew.heap.size = wr.heap.size := rfl; simp; omega) (one_row (r := ⟨id, rx, ry, rvl⟩) (heap_alloc_new wr.drew _)) (rc_one' _) (by have := HLm.out; omega)
    have HO1 : Hid (W'.ownsRow W1.heap.size 54 4 v' (fk f L (k + 1)).length ((fk f L (k + 1)).flatMap rc)) := by
     refine (?_ : W'.ownsRow W1.heap.size 54 4 v' (fk f L (k + 1)).length ((fk f L (k + 1)).flatMap rc))
     rw [HNX.out, List.flatMap_append, List.length_append, HPN.out]
     simpa using a1
    have HB1 : Hid (Below W1.heap.size W1 W') := (HBk.out.drew.trans (hbn.mono HBk.out.size)).grown a2 (by have := HBk.out.size; have h9 : wr.drew.heap.size = wr.heap.size := rfl; simp; omega) fun b eb => (own_base HO.out eb).1
    clear hbn a1 a2 a3 HSW hbk ho sp
    go_wp2_with (at_builtin; refine list_append rfl 32 32 (.tmp 66) (.tmp 71) rfl (vs := .slice po pn pc) (vx := .slice (some ⟨wr.heap.size, 0, none⟩) 1 1) rfl rfl hrun ?_)
    go_roundw
    case rel => exact ⟨k + 1, by omega, by go_num, HO1.out, HB1.out⟩
    case measure => simp [natOf]; omega
   ·have hft : f ⟨id, rx, ry, rvl⟩ = false := by rw [hfi, hd]; rfl
    clear hfi
    rw [hft] at hnx
    have HNX : Hid (fk f L (k + 1) = fk f L k) := by
     refine (?_ : fk f L (k + 1) = _)
     rw [hnx]; simp
    clear hnx hft
    go_wp2_with fail
    refine wp_region_held (S := G2 w.heap.size af true p (off + k * 4) id) (by kernel_rfl) ?_
    change wpAnyH _ _ _ _ _ _ _ _ (World.drew _)
    refine wpAnyH_take (i := 0) (v := ?_) rfl (by kernel_rfl) (by kernel_rfl) (by kernel_rfl) (fun _ _ _ h => h) (Or.inl ⟨by kernel_rfl, ?_⟩) HSW.out ?_
    rotate_left
    ·rintro w ⟨e0,e1,e2⟩; go_simp; try with_reducible rfl
    conv in (Act.put _ _ _) => simp only [List.getElem_toArray, List.getElem_cons_succ, List.getElem_cons_zero, Act.put, List.setIfInBounds_toArray, List.set_cons_succ, List.set_cons_zero]
    refine wpAnyH_take (i := 1) (v := ?_) rfl (by kernel_rfl) (by kernel_rfl) (by kernel_rfl) (fun _ _ _ h => h) (Or.inl ⟨by kernel_rfl, ?_⟩) HSW.out ?_
    rotate_left
    ·rintro w ⟨e0,e1,e2⟩; go_simp; try with_reducible rfl
    conv in (Act.put _ _ _) => simp only [List.getElem_toArray, List.getElem_cons_succ, List.getElem_cons_zero, Act.put, List.setIfInBounds_toArray, List.set_cons_succ, List.set_cons_zero]
    refine wpAnyH_take (i := 2) (v := ?_) rfl (by kernel_rfl) (by kernel_rfl) (by kernel_rfl) (fun _ _ _ h => h) (Or.inl ⟨by kernel_rfl, ?_⟩) HSW.out ?_
    rotate_left
    ·rintro w ⟨e0,e1,e2⟩; go_simp; try with_reducible rfl
    conv in (Act.put _ _ _) => simp only [List.getElem_toArray, List.getElem_cons_succ, List.getElem_cons_zero, Act.put, List.setIfInBounds_toArray, List.set_cons_succ, List.set_cons_zero]
    refine wpAnyH_take (i := 3) (v := ?_) rfl (by kernel_rfl) (by kernel_rfl) (by kernel_rfl) (fun _ _ _ h => h) (Or.inl ⟨by kernel_rfl, ?_⟩) HSW.out ?_
    rotate_left
    ·rintro w ⟨e0,e1,e2⟩; go_simp; try with_reducible rfl
    conv in (Act.put _ _ _) => simp only [List.getElem_toArray, List.getElem_cons_succ, List.getElem_cons_zero, Act.put, List.setIfInBounds_toArray, List.set_cons_succ, List.set_cons_zero]
    refine wpAnyH_take (i := 4) (v := ?_) rfl (by kernel_rfl) (by kernel_rfl) (by kernel_rfl) (fun _ _ _ h => h) (Or.inl ⟨by kernel_rfl, ?_⟩) HSW.out ?_
    rotate_left
    ·rintro w ⟨e0,e1,e2⟩; go_simp; try with_reducible rfl
    conv in (Act.put _ _ _) => simp only [List.getElem_toArray, List.getElem_cons_succ, List.getElem_cons_zero, Act.put, List.setIfInBounds_toArray, List.set_cons_succ, List.set_cons_zero]
    refine wpAnyH_take (i := 5) (v := ?_) rfl (by kernel_rfl) (by kernel_rfl) (by kernel_rfl) (fun _ _ _ h => h) (Or.inl ⟨by kernel_rfl, ?_⟩) HSW.out ?_
    rotate_left
    ·rintro w ⟨e0,e1,e2⟩; go_simp; try with_reducible rfl
    conv in (Act.put _ _ _) => simp only [List.getElem_toArray, List.getElem_cons_succ, List.getElem_cons_zero, Act.put, List.setIfInBounds_toArray, List.set_cons_succ, List.set_cons_zero]
    refine wpAnyH_take (i := 6) (v := ?_) rfl (by kernel_rfl) (by kernel_rfl) (by kernel_rfl) (fun _ _ _ h => h) (Or.inl ⟨by kernel_rfl, ?_⟩) HSW.out ?_
    rotate_left
    ·rintro w ⟨e0,e1,e2⟩; go_simp; try with_reducible rfl
    conv in (Act.put _ _ _) => simp only [List.getElem_toArray, List.getElem_cons_succ, List.getElem_cons_zero, Act.put, List.setIfInBounds_toArray, List.set_cons_succ, List.set_cons_zero]
    refine wpAnyH_take (i := 7) (v := ?_) rfl (by kernel_rfl) (by kernel_rfl) (by kernel_rfl) (fun _ _ _ h => h) (Or.inl ⟨by kernel_rfl, ?_⟩) HSW.out ?_
    rotate_left
    ·rintro w ⟨e0,e1,e2⟩; go_simp; try with_reducible rfl
    conv in (Act.put _ _ _) => simp only [List.getElem_toArray, List.getElem_cons_succ, List.getElem_cons_zero, Act.put, List.setIfInBounds_toArray, List.set_cons_succ, List.set_cons_zero]
    refine wpAnyH_take (i := 8) (v := ?_) rfl (by kernel_rfl) (by kernel_rfl) (by kernel_rfl) (fun _ _ _ h => h) (Or.inl ⟨by kernel_rfl, ?_⟩) HSW.out ?_
    rotate_left
    ·rintro w ⟨e0,e1,e2⟩; go_simp; try with_reducible rfl
    conv in (Act.put _ _ _) => simp only [List.getElem_toArray, List.getElem_cons_succ, List.getElem_cons_zero, Act.put, List.setIfInBounds_toArray, List.set_cons_succ, List.set_cons_zero]
    refine wpAnyH_take (i := 9) (v := ?_) rfl (by kernel_rfl) (by kernel_rfl) (by kernel_rfl) (fun _ _ _ h => h) (Or.inl ⟨by kernel_rfl, ?_⟩) HSW.out ?_
    rotate_left
    ·rintro w ⟨e0,e1,e2⟩; go_simp; try with_reducible rfl
    conv in (Act.put _ _ _) => simp only [List.getElem_toArray, List.getElem_cons_succ, List.getElem_cons_zero, Act.put, List.setIfInBounds_toArray, List.set_cons_succ, List.set_cons_zero]
    refine wpAnyH_take (i := 10) (v := ?_) rfl (by kernel_rfl) (by kernel_rfl) (by kernel_rfl) (fun _ _ _ h => h) (Or.inl ⟨by kernel_rfl, ?_⟩) HSW.out ?_
    rotate_left
    ·rintro w ⟨e0,e1,e2⟩; go_simp; try with_reducible rfl
    conv in (Act.put _ _ _) => simp only [List.getElem_toArray, List.getElem_cons_succ, List.getElem_cons_zero, Act.put, List.setIfInBounds_toArray, List.set_cons_succ, List.set_cons_zero]
    refine wpAnyH_take (i := 11) (v := ?_) rfl (by kernel_rfl) (by kernel_rfl) (by kernel_rfl) (fun _ _ _ h => h) (Or.inl ⟨by kernel_rfl, ?_⟩) HSW.out ?_
    rotate_left
    ·rintro w ⟨e0,e1,e2⟩; go_simp; try with_reducible rfl
    conv in (Act.put _ _ _) => simp only [List.getElem_toArray, List.getElem_cons_succ, List.getElem_cons_zero, Act.put, List.setIfInBounds_toArray, List.set_cons_succ, List.set_cons_zero]
    refine wpAnyH_take (i := 12) (v := ?_) rfl (by kernel_rfl) (by kernel_rfl) (by kernel_rfl) (fun _ _ _ h => h) (Or.inl ⟨by kernel_rfl, ?_⟩) HSW.out ?_
    rotate_left
    ·rintro w ⟨e0,e1,e2⟩; go_simp; try with_reducible rfl
    conv in (Act.put _ _ _) => simp only [List.getElem_toArray, List.getElem_cons_succ, List.getElem_cons_zero, Act.put, List.setIfInBounds_toArray, List.set_cons_succ, List.set_cons_zero]
    refine wpAnyH_done (by kernel_rfl) ?_ _
    have HO1 : Hid (wr.drew.ownsRow W1.heap.size 54 4 (.slice po pn pc) (fk f L (k + 1)).length ((fk f L (k + 1)).flatMap rc)) := by
     refine (?_ : wr.drew.ownsRow W1.heap.size 54 4 (.slice po pn pc) (fk f L (k + 1)).length ((fk f L (k + 1)).flatMap rc))
     rw [HNX.out, HPN.out]
     exact own_same HO.out fun b _ hb' => rfl
    have HB1 : Hid (Below W1.heap.size W1 wr.drew) := HBk.out.drew
    clear HSW hbk ho sp
    go_wp2_with fail
    go_roundw
    case rel => exact ⟨k + 1, by omega, by go_num, HO1.out, HB1.out⟩
    case measure => simp [natOf]; omega
  ·obtain rfl : k = L.length := by omega
   have q5 : ¬ (L.length : Int) < (L.length : Int) := by omega
   rw [fk_all] at HO HPN
   have hs := HO.out
   rw [← HPN.out] at hs
   obtain ⟨o9, cap9, e9, s9⟩ := sl_of_own hs
   rw [HPN.out] at e9
   cases e9
   have HE : Hid (RowsAt wr po pc (L.filter f) ∧ Below w.heap.size w wr ∧ Fresh w.heap.size po (L.filter f).length) := ⟨s9, HBW.out.trans (HBk.out.mono HBW.out.size), (own_fresh hs).mono HBW.out.size⟩
   clear hbk ho sp hs s9
   go_wp2_with fail
   go_ret
   refine ⟨po, pc, ?_, by rw [HRS.out]; exact HE.out.1, HE.out.2.1, by rw [HRS.out]; exact HE.out.2.2⟩
   rw [HRS.out, HPN.out]
   rfl
set_option maxRecDepth 100000 in
set_option maxHeartbeats 4000000 in
theorem asked_4 (o : Option Addr) (cap : Nat) (l : List Rw) (a b c d x y sq : Nat) (kk : Int) (af : Nat) (fr : Bool) (w : World) (hr : RowsAt w o cap l) (hmax : l.length ≤ 1000) (hri : Rise l) :
  Calls Try.prog 30 #[.slice o l.length cap, qv ⟨4, a, b, c, d, x, y, sq, kk, af, fr⟩] w (RR (rest ⟨4, a, b, c, d, x, y, sq, kk, af, fr⟩ (l)) w) := by
 have hb := below_new w (qcs ⟨4, a, b, c, d, x, y, sq, kk, af, fr⟩)
 have hg := heap_alloc_new w (qcs ⟨4, a, b, c, d, x, y, sq, kk, af, fr⟩)
 obtain ⟨W0, hW0⟩ : ∃ W0, w.alloc (qcs ⟨4, a, b, c, d, x, y, sq, kk, af, fr⟩) = W0 := ⟨_, rfl⟩
 rw [hW0] at hb hg
 have HW0 : Hid _ := hW0
 have HG0 : Hid (W0.heap[w.heap.size]? = some (qcs ⟨4, a, b, c, d, x, y, sq, kk, af, fr⟩)) := hg
 have HB0 : Hid (Below w.heap.size w W0) := hb
 have lq : w.heap.size < W0.heap.size := (Array.getElem?_eq_some_iff.1 hg).1
 obtain ⟨c0, c1, c2, c3, c4, c5, c6, c7, c8, c9, c10⟩ := qc_of hg
 simp only at c0 c1 c2 c3 c4 c5 c6 c7 c8 c9 c10
 have hr0 := hr.below hb (Nat.le_refl _)
 have hrl : Rise (l) := hri
 have hml : (l).length ≤ 1000 := hmax
 have hrs : rest ⟨4, a, b, c, d, x, y, sq, kk, af, fr⟩ (l) = (l).filter fun r => !fr || decide (af < r.id) := (rest_is (fun _ => hrl)).trans (if_neg (by simp))
 obtain ⟨L, hL⟩ : ∃ L, l = L := ⟨_, rfl⟩
 subst hL
 obtain ⟨f, hf⟩ : ∃ f : Rw → Bool, (fun r : Rw => !fr || decide (af < r.id)) = f := ⟨_, rfl⟩
 rw [hf] at hrs
 have HRS : Hid (rest ⟨4, a, b, c, d, x, y, sq, kk, af, fr⟩ l = l.filter f) := hrs
 have HLm : Hid (l.length ≤ 1000) := hml
 simp only [qv]
 clear hb hg hW0 hrl hrs hri hmax hml
 go_enter Try.func30, Try.ntmps30
 go_wp2_with (first | (rw [HW0.out]; clear HW0))
 have HR1 : Hid (RowsAt W0 o cap l) := hr0
 have HBW : Hid (Below w.heap.size w W0) := HB0.out
 have HG1 : Hid (W0.heap[w.heap.size]? = some (qcs ⟨4, a, b, c, d, x, y, sq, kk, af, fr⟩)) := HG0.out
 have lq1 : w.heap.size < W0.heap.size := lq
 clear HB0 HG0 lq c0 c1 c2 c3 c4 c5 c6 c7 c8 c9 c10 hr hr0
 have HF : Hid (∀ r : Rw, f r = (!fr || decide (af < r.id))) := fun r => by rw [← hf]
 clear hf
 go_loopw [6, 7] (fun pv iv wr => ∃ k : Nat, k ≤ l.length ∧ iv = .int .i64 (k : Int) ∧ wr.ownsRow W0.heap.size 54 4 pv (fk f l k).length ((fk f l k).flatMap rc) ∧ Below W0.heap.size W0 wr) (fun _ iv _ => l.length - natOf iv)
 case atStart =>
  refine ⟨0, by omega, rfl, ?_, Below.refl _ _⟩
  rw [fk_zero]
  exact World.ownsRow_nil _ _ _ _
 case round =>
  obtain ⟨k, hk, rfl, ho, hbk⟩ := hrel
  have HO : Hid _ := ho
  have HBk : Hid (Below W0.heap.size W0 wr) := hbk
  obtain ⟨po, pc, rfl, sp⟩ := sl_of_own ho
  obtain ⟨pn, hpn⟩ : ∃ pn, (fk f l k).length = pn := ⟨_, rfl⟩
  have HPN : Hid ((fk f l k).length = pn) := hpn
  have hpl := fk_len f l k
  rw [hpn] at ho HO sp hpl ⊢
  by_cases hkl : k < l.length
  ·obtain ⟨p, off, rfl, hbl, hc⟩ := (HR1.out.below hbk (Nat.le_refl _)).row hkl
   have hcr := hc k hkl
   have hnx := fk_next f l k hkl
   have q5 : (k : Int) < (l.length : Int) := by omega
   have k0 : (0 : Int) ≤ (k : Int) := by omega
   have k2 : (k : Int) + 1 ≤ 9223372036854775807 := by have := HLm.out; omega
   have gk := (hbk.block _ lq1).trans HG1.out
   generalize rat l k = r at *
   obtain ⟨id, rx, ry, rvl⟩ := r
   have HSW : Hid (G2 w.heap.size af fr p (off + k * 4) id wr.drew) := ⟨(qc_of gk).2.2.2.2.2.2.2.2.2.2, (qc_of gk).2.2.2.2.2.2.2.2.2.1, hcr.1⟩
   have HCR : Hid (Fr wr p (off + k * 4) ⟨id, rx, ry, rvl⟩) := hcr
   clear hc hcr gk
   have hfi := HF.out ⟨id, rx, ry, rvl⟩
   simp only at hfi
   have hcase : (fr = false) ∨ (fr = true ∧ decide (af < id) = true) ∨ (fr = true ∧ decide (af < id) = false) := by
    cases fr
    ·exact .inl rfl
    ·cases decide (af < id)
     ·exact .inr (.inr ⟨rfl, rfl⟩)
     ·exact .inr (.inl ⟨rfl, rfl⟩)
   rcases hcase with rfl | ⟨rfl, hd⟩ | ⟨rfl, hd⟩
   ·have hft : f ⟨id, rx, ry, rvl⟩ = true := hfi
    clear hfi
    go_wp2_with fail
    refine wp_region_held (S := G2 w.heap.size af false p (off + k * 4) id) (by kernel_rfl) ?_
    change wpAnyH _ _ _ _ _ _ _ _ (World.drew _)
    refine wpAnyH_take (i := 0) (v := ?_) rfl (by kernel_rfl) (by kernel_rfl) (by kernel_rfl) (fun _ _ _ h => h) (Or.inl ⟨by kernel_rfl, ?_⟩) HSW.out ?_
    rotate_left
    ·rintro w ⟨e0,e1,e2⟩; go_simp; try with_reducible rfl
    conv in (Act.put _ _ _) => simp only [List.getElem_toArray, List.getElem_cons_succ, List.getElem_cons_zero, Act.put, List.setIfInBounds_toArray, List.set_cons_succ, List.set_cons_zero]
    refine wpAnyH_take (i := 1) (v := ?_) rfl (by kernel_rfl) (by kernel_rfl) (by kernel_rfl) (fun _ _ _ h => h) (Or.inl ⟨by kernel_rfl, ?_⟩) HSW.out ?_
    rotate_left
    ·rintro w ⟨e0,e1,e2⟩; go_simp; try with_reducible rfl
    conv in (Act.put _ _ _) => simp only [List.getElem_toArray, List.getElem_cons_succ, List.getElem_cons_zero, Act.put, List.setIfInBounds_toArray, List.set_cons_succ, List.set_cons_zero]
    refine wpAnyH_take (i := 2) (v := ?_) rfl (by kernel_rfl) (by kernel_rfl) (by kernel_rfl) (fun _ _ _ h => h) (Or.inl ⟨by kernel_rfl, ?_⟩) HSW.out ?_
    rotate_left
    ·rintro w ⟨e0,e1,e2⟩; go_simp; try with_reducible rfl
    conv in (Act.put _ _ _) => simp only [List.getElem_toArray, List.getElem_cons_succ, List.getElem_cons_zero, Act.put, List.setIfInBounds_toArray, List.set_cons_succ, List.set_cons_zero]
    refine wpAnyH_take (i := 3) (v := ?_) rfl (by kernel_rfl) (by kernel_rfl) (by kernel_rfl) (fun _ _ _ h => h) (Or.inl ⟨by kernel_rfl, ?_⟩) HSW.out ?_
    rotate_left
    ·rintro w ⟨e0,e1,e2⟩; go_simp; try with_reducible rfl
    conv in (Act.put _ _ _) => simp only [List.getElem_toArray, List.getElem_cons_succ, List.getElem_cons_zero, Act.put, List.setIfInBounds_toArray, List.set_cons_succ, List.set_cons_zero]
    refine wpAnyH_take (i := 4) (v := undef) rfl (by kernel_rfl) (by kernel_rfl) (by kernel_rfl) (fun _ _ _ h => h) (Or.inr ⟨by kernel_rfl, rfl⟩) HSW.out ?_
    conv in (Act.put _ _ _) => simp only [List.getElem_toArray, List.getElem_cons_succ, List.getElem_cons_zero, Act.put, List.setIfInBounds_toArray, List.set_cons_succ, List.set_cons_zero]
    refine wpAnyH_take (i := 5) (v := undef) rfl (by kernel_rfl) (by kernel_rfl) (by kernel_rfl) (fun _ _ _ h => h) (Or.inr ⟨by kernel_rfl, rfl⟩) HSW.out ?_
    conv in (Act.put _ _ _) => simp only [List.getElem_toArray, List.getElem_cons_succ, List.getElem_cons_zero, Act.put, List.setIfInBounds_toArray, List.set_cons_succ, List.set_cons_zero]
    refine wpAnyH_take (i := 6) (v := undef) rfl (by kernel_rfl) (by kernel_rfl) (by kernel_rfl) (fun _ _ _ h => h) (Or.inr ⟨by kernel_rfl, rfl⟩) HSW.out ?_
    conv in (Act.put _ _ _) => simp only [List.getElem_toArray, List.getElem_cons_succ, List.getElem_cons_zero, Act.put, List.setIfInBounds_toArray, List.set_cons_succ, List.set_cons_zero]
    refine wpAnyH_take (i := 7) (v := undef) rfl (by kernel_rfl) (by kernel_rfl) (by kernel_rfl) (fun _ _ _ h => h) (Or.inr ⟨by kernel_rfl, rfl⟩) HSW.out ?_
    conv in (Act.put _ _ _) => simp only [List.getElem_toArray, List.getElem_cons_succ, List.getElem_cons_zero, Act.put, List.setIfInBounds_toArray, List.set_cons_succ, List.set_cons_zero]
    refine wpAnyH_take (i := 8) (v := undef) rfl (by kernel_rfl) (by kernel_rfl) (by kernel_rfl) (fun _ _ _ h => h) (Or.inr ⟨by kernel_rfl, rfl⟩) HSW.out ?_
    conv in (Act.put _ _ _) => simp only [List.getElem_toArray, List.getElem_cons_succ, List.getElem_cons_zero, Act.put, List.setIfInBounds_toArray, List.set_cons_succ, List.set_cons_zero]
    refine wpAnyH_take (i := 9) (v := undef) rfl (by kernel_rfl) (by kernel_rfl) (by kernel_rfl) (fun _ _ _ h => h) (Or.inr ⟨by kernel_rfl, rfl⟩) HSW.out ?_
    conv in (Act.put _ _ _) => simp only [List.getElem_toArray, List.getElem_cons_succ, List.getElem_cons_zero, Act.put, List.setIfInBounds_toArray, List.set_cons_succ, List.set_cons_zero]
    refine wpAnyH_take (i := 10) (v := undef) rfl (by kernel_rfl) (by kernel_rfl) (by kernel_rfl) (fun _ _ _ h => h) (Or.inr ⟨by kernel_rfl, rfl⟩) HSW.out ?_
    conv in (Act.put _ _ _) => simp only [List.getElem_toArray, List.getElem_cons_succ, List.getElem_cons_zero, Act.put, List.setIfInBounds_toArray, List.set_cons_succ, List.set_cons_zero]
    refine wpAnyH_take (i := 11) (v := undef) rfl (by kernel_rfl) (by kernel_rfl) (by kernel_rfl) (fun _ _ _ h => h) (Or.inr ⟨by kernel_rfl, rfl⟩) HSW.out ?_
    conv in (Act.put _ _ _) => simp only [List.getElem_toArray, List.getElem_cons_succ, List.getElem_cons_zero, Act.put, List.setIfInBounds_toArray, List.set_cons_succ, List.set_cons_zero]
    refine wpAnyH_take (i := 12) (v := ?_) rfl (by kernel_rfl) (by kernel_rfl) (by kernel_rfl) (fun _ _ _ h => h) (Or.inl ⟨by kernel_rfl, ?_⟩) HSW.out ?_
    rotate_left
    ·rintro w ⟨e0,e1,e2⟩; go_simp; try with_reducible rfl
    conv in (Act.put _ _ _) => simp only [List.getElem_toArray, List.getElem_cons_succ, List.getElem_cons_zero, Act.put, List.setIfInBounds_toArray, List.set_cons_succ, List.set_cons_zero]
    refine wpAnyH_done (by kernel_rfl) ?_ _
    rw [hft] at hnx
    have HNX : Hid (fk f l (k + 1) = fk f l k ++ [⟨id, rx, ry, rvl⟩]) := by
     refine (?_ : fk f l (k + 1) = _)
     rw [hnx]; simp
    clear hnx hft
    obtain ⟨u0, u1, u2, u3⟩ := Fr.same (w' := wr.drew) HCR.out rfl
    simp only at u0 u1 u2 u3
    have hbn := below_new wr.drew (.cells #[.int .u64 (id : Int), .int .u32 (rx : Int), .int .u32 (ry : Int), .string rvl] 54)
    obtain ⟨v', W', hrun, a1, a2, a3⟩ := append_sl 32 54 Try.underlying32 infoRow rfl (by decide) (by decide) (wr.drew.alloc (.cells #[.int .u64 (id : Int), .int .u32 (rx : Int), .int .u32 (ry : Int), .string rvl] 54)) W0.heap.size pn 1 (.slice po pn pc) (some ⟨wr.heap.size, 0, none⟩) 1
     ((fk f l k).flatMap rc) (rc ⟨id, rx, ry, rvl⟩) (own_same HO.out fun b _ hb' => hbn.block b hb') (by have := HBk.out.size; have h9 : wr.drew.heap.size = wr.heap.size := rfl; simp; omega) (one_row (r := ⟨id, rx, ry, rvl⟩) (heap_alloc_new wr.drew _)) (rc_one' _) (by have := HLm.out; omega)
    have HO1 : Hid (W'.ownsRow W0.heap.size 54 4 v' (fk f l (k + 1)).length ((fk f l (k + 1)).flatMap rc)) := by
     refine (?_ : W'.ownsRow W0.heap.size 54 4 v' (fk f l (k + 1)).length ((fk f l (k + 1)).flatMap rc))
     rw [HNX.out, List.flatMap_append, List.length_append, HPN.out]
     simpa using a1
    have HB1 : Hid (Below W0.heap.size W0 W') := (HBk.out.drew.trans (hbn.mono HBk.out.size)).grown a2 (by have := HBk.out.size; have h9 : wr.drew.heap.size = wr.heap.size := rfl; simp; omega) fun b eb => (own_base HO.out eb).1
    clear hbn a1 a2 a3 HSW hbk ho sp
    go_wp2_with (at_builtin; refine list_append rfl 32 32 (.tmp 66) (.tmp 71) rfl (vs := .slice po pn pc) (vx := .slice (some ⟨wr.heap.size, 0, none⟩) 1 1) rfl rfl hrun ?_)
    go_roundw
    case rel => exact ⟨k + 1, by omega, by go_num, HO1.out, HB1.out⟩
    case measure => simp [natOf]; omega
   ·have hft : f ⟨id, rx, ry, rvl⟩ = true := by rw [hfi, hd]; rfl
    clear hfi
    go_wp2_with fail
    refine wp_region_held (S := G2 w.heap.size af true p (off + k * 4) id) (by kernel_rfl) ?_
    change wpAnyH _ _ _ _ _ _ _ _ (World.drew _)
    refine wpAnyH_take (i := 0) (v := ?_) rfl (by kernel_rfl) (by kernel_rfl) (by kernel_rfl) (fun _ _ _ h => h) (Or.inl ⟨by kernel_rfl, ?_⟩) HSW.out ?_
    rotate_left
    ·rintro w ⟨e0,e1,e2⟩; go_simp; try with_reducible rfl
    conv in (Act.put _ _ _) => simp only [List.getElem_toArray, List.getElem_cons_succ, List.getElem_cons_zero, Act.put, List.setIfInBounds_toArray, List.set_cons_succ, List.set_cons_zero]
    refine wpAnyH_take (i := 1) (v := ?_) rfl (by kernel_rfl) (by kernel_rfl) (by kernel_rfl) (fun _ _ _ h => h) (Or.inl ⟨by kernel_rfl, ?_⟩) HSW.out ?_
    rotate_left
    ·rintro w ⟨e0,e1,e2⟩; go_simp; try with_reducible rfl
    conv in (Act.put _ _ _) => simp only [List.getElem_toArray, List.getElem_cons_succ, List.getElem_cons_zero, Act.put, List.setIfInBounds_toArray, List.set_cons_succ, List.set_cons_zero]
    refine wpAnyH_take (i := 2) (v := ?_) rfl (by kernel_rfl) (by kernel_rfl) (by kernel_rfl) (fun _ _ _ h => h) (Or.inl ⟨by kernel_rfl, ?_⟩) HSW.out ?_
    rotate_left
    ·rintro w ⟨e0,e1,e2⟩; go_simp; try with_reducible rfl
    conv in (Act.put _ _ _) => simp only [List.getElem_toArray, List.getElem_cons_succ, List.getElem_cons_zero, Act.put, List.setIfInBounds_toArray, List.set_cons_succ, List.set_cons_zero]
    refine wpAnyH_take (i := 3) (v := ?_) rfl (by kernel_rfl) (by kernel_rfl) (by kernel_rfl) (fun _ _ _ h => h) (Or.inl ⟨by kernel_rfl, ?_⟩) HSW.out ?_
    rotate_left
    ·rintro w ⟨e0,e1,e2⟩; go_simp; try with_reducible rfl
    conv in (Act.put _ _ _) => simp only [List.getElem_toArray, List.getElem_cons_succ, List.getElem_cons_zero, Act.put, List.setIfInBounds_toArray, List.set_cons_succ, List.set_cons_zero]
    refine wpAnyH_take (i := 4) (v := ?_) rfl (by kernel_rfl) (by kernel_rfl) (by kernel_rfl) (fun _ _ _ h => h) (Or.inl ⟨by kernel_rfl, ?_⟩) HSW.out ?_
    rotate_left
    ·rintro w ⟨e0,e1,e2⟩; go_simp; try with_reducible rfl
    conv in (Act.put _ _ _) => simp only [List.getElem_toArray, List.getElem_cons_succ, List.getElem_cons_zero, Act.put, List.setIfInBounds_toArray, List.set_cons_succ, List.set_cons_zero]
    refine wpAnyH_take (i := 5) (v := ?_) rfl (by kernel_rfl) (by kernel_rfl) (by kernel_rfl) (fun _ _ _ h => h) (Or.inl ⟨by kernel_rfl, ?_⟩) HSW.out ?_
    rotate_left
    ·rintro w ⟨e0,e1,e2⟩; go_simp; try with_reducible rfl
    conv in (Act.put _ _ _) => simp only [List.getElem_toArray, List.getElem_cons_succ, List.getElem_cons_zero, Act.put, List.setIfInBounds_toArray, List.set_cons_succ, List.set_cons_zero]
    refine wpAnyH_take (i := 6) (v := ?_) rfl (by kernel_rfl) (by kernel_rfl) (by kernel_rfl) (fun _ _ _ h => h) (Or.inl ⟨by kernel_rfl, ?_⟩) HSW.out ?_
    rotate_left
    ·rintro w ⟨e0,e1,e2⟩; go_simp; try with_reducible rfl
    conv in (Act.put _ _ _) => simp only [List.getElem_toArray, List.getElem_cons_succ, List.getElem_cons_zero, Act.put, List.setIfInBounds_toArray, List.set_cons_succ, List.set_cons_zero]
    refine wpAnyH_take (i := 7) (v := ?_) rfl (by kernel_rfl) (by kernel_rfl) (by kernel_rfl) (fun _ _ _ h => h) (Or.inl ⟨by kernel_rfl, ?_⟩) HSW.out ?_
    rotate_left
    ·rintro w ⟨e0,e1,e2⟩; go_simp; try with_reducible rfl
    conv in (Act.put _ _ _) => simp only [List.getElem_toArray, List.getElem_cons_succ, List.getElem_cons_zero, Act.put, List.setIfInBounds_toArray, List.set_cons_succ, List.set_cons_zero]
    refine wpAnyH_take (i := 8) (v := ?_) rfl (by kernel_rfl) (by kernel_rfl) (by kernel_rfl) (fun _ _ _ h => h) (Or.inl ⟨by kernel_rfl, ?_⟩) HSW.out ?_
    rotate_left
    ·rintro w ⟨e0,e1,e2⟩; go_simp; try with_reducible rfl
    conv in (Act.put _ _ _) => simp only [List.getElem_toArray, List.getElem_cons_succ, List.getElem_cons_zero, Act.put, List.setIfInBounds_toArray, List.set_cons_succ, List.set_cons_zero]
    refine wpAnyH_take (i := 9) (v := ?_) rfl (by kernel_rfl) (by kernel_rfl) (by kernel_rfl) (fun _ _ _ h => h) (Or.inl ⟨by kernel_rfl, ?_⟩) HSW.out ?_
    rotate_left
    ·rintro w ⟨e0,e1,e2⟩; go_simp; try with_reducible rfl
    conv in (Act.put _ _ _) => simp only [List.getElem_toArray, List.getElem_cons_succ, List.getElem_cons_zero, Act.put, List.setIfInBounds_toArray, List.set_cons_succ, List.set_cons_zero]
    refine wpAnyH_take (i := 10) (v := ?_) rfl (by kernel_rfl) (by kernel_rfl) (by kernel_rfl) (fun _ _ _ h => h) (Or.inl ⟨by kernel_rfl, ?_⟩) HSW.out ?_
    rotate_left
    ·rintro w ⟨e0,e1,e2⟩; go_simp; try with_reducible rfl
    conv in (Act.put _ _ _) => simp only [List.getElem_toArray, List.getElem_cons_succ, List.getElem_cons_zero, Act.put, List.setIfInBounds_toArray, List.set_cons_succ, List.set_cons_zero]
    refine wpAnyH_take (i := 11) (v := ?_) rfl (by kernel_rfl) (by kernel_rfl) (by kernel_rfl) (fun _ _ _ h => h) (Or.inl ⟨by kernel_rfl, ?_⟩) HSW.out ?_
    rotate_left
    ·rintro w ⟨e0,e1,e2⟩; go_simp; try with_reducible rfl
    conv in (Act.put _ _ _) => simp only [List.getElem_toArray, List.getElem_cons_succ, List.getElem_cons_zero, Act.put, List.setIfInBounds_toArray, List.set_cons_succ, List.set_cons_zero]
    refine wpAnyH_take (i := 12) (v := ?_) rfl (by kernel_rfl) (by kernel_rfl) (by kernel_rfl) (fun _ _ _ h => h) (Or.inl ⟨by kernel_rfl, ?_⟩) HSW.out ?_
    rotate_left
    ·rintro w ⟨e0,e1,e2⟩; go_simp; try with_reducible rfl
    conv in (Act.put _ _ _) => simp only [List.getElem_toArray, List.getElem_cons_succ, List.getElem_cons_zero, Act.put, List.setIfInBounds_toArray, List.set_cons_succ, List.set_cons_zero]
    refine wpAnyH_done (by kernel_rfl) ?_ _
    rw [hft] at hnx
    have HNX : Hid (fk f l (k + 1) = fk f l k ++ [⟨id, rx, ry, rvl⟩]) := by
     refine (?_ : fk f l (k + 1) = _)
     rw [hnx]; simp
    clear hnx hft
    obtain ⟨u0, u1, u2, u3⟩ := Fr.same (w' := wr.drew) HCR.out rfl
    simp only at u0 u1 u2 u3
    have hbn := below_new wr.drew (.cells #[.int .u64 (id : Int), .int .u32 (rx : Int), .int .u32 (ry : Int), .string rvl] 54)
    obtain ⟨v', W', hrun, a1, a2, a3⟩ := append_sl 32 54 Try.underlying32 infoRow rfl (by decide) (by decide) (wr.drew.alloc (.cells #[.int .u64 (id : Int), .int .u32 (rx : Int), .int .u32 (ry : Int), .string rvl] 54)) W0.heap.size pn 1 (.slice po pn pc) (some ⟨wr.heap.size, 0, none⟩) 1
     ((fk f l k).flatMap rc) (rc ⟨id, rx, ry, rvl⟩) (own_same HO.out fun b _ hb' => hbn.block b hb') (by have := HBk.out.size; have h9 : wr.drew.heap.size = wr.heap.size := rfl; simp; omega) (one_row (r := ⟨id, rx, ry, rvl⟩) (heap_alloc_new wr.drew _)) (rc_one' _) (by have := HLm.out; omega)
    have HO1 : Hid (W'.ownsRow W0.heap.size 54 4 v' (fk f l (k + 1)).length ((fk f l (k + 1)).flatMap rc)) := by
     refine (?_ : W'.ownsRow W0.heap.size 54 4 v' (fk f l (k + 1)).length ((fk f l (k + 1)).flatMap rc))
     rw [HNX.out, List.flatMap_append, List.length_append, HPN.out]
     simpa using a1
    have HB1 : Hid (Below W0.heap.size W0 W') := (HBk.out.drew.trans (hbn.mono HBk.out.size)).grown a2 (by have := HBk.out.size; have h9 : wr.drew.heap.size = wr.heap.size := rfl; simp; omega) fun b eb => (own_base HO.out eb).1
    clear hbn a1 a2 a3 HSW hbk ho sp
    go_wp2_with (at_builtin; refine list_append rfl 32 32 (.tmp 66) (.tmp 71) rfl (vs := .slice po pn pc) (vx := .slice (some ⟨wr.heap.size, 0, none⟩) 1 1) rfl rfl hrun ?_)
    go_roundw
    case rel => exact ⟨k + 1, by omega, by go_num, HO1.out, HB1.out⟩
    case measure => simp [natOf]; omega
   ·have hft : f ⟨id, rx, ry, rvl⟩ = false := by rw [hfi, hd]; rfl
    clear hfi
    rw [hft] at hnx
    have HNX : Hid (fk f l (k + 1) = fk f l k) := by
     refine (?_ : fk f l (k + 1) = _)
     rw [hnx]; simp
    clear hnx hft
    go_wp2_with fail
    refine wp_region_held (S := G2 w.heap.size af true p (off + k * 4) id) (by kernel_rfl) ?_
    change wpAnyH _ _ _ _ _ _ _ _ (World.drew _)
    refine wpAnyH_take (i := 0) (v := ?_) rfl (by kernel_rfl) (by kernel_rfl) (by kernel_rfl) (fun _ _ _ h => h) (Or.inl ⟨by kernel_rfl, ?_⟩) HSW.out ?_
    rotate_left
    ·rintro w ⟨e0,e1,e2⟩; go_simp; try with_reducible rfl
    conv in (Act.put _ _ _) => simp only [List.getElem_toArray, List.getElem_cons_succ, List.getElem_cons_zero, Act.put, List.setIfInBounds_toArray, List.set_cons_succ, List.set_cons_zero]
    refine wpAnyH_take (i := 1) (v := ?_) rfl (by kernel_rfl) (by kernel_rfl) (by kernel_rfl) (fun _ _ _ h => h) (Or.inl ⟨by kernel_rfl, ?_⟩) HSW.out ?_
    rotate_left
    ·rintro w ⟨e0,e1,e2⟩; go_simp; try with_reducible rfl
    conv in (Act.put _ _ _) => simp only [List.getElem_toArray, List.getElem_cons_succ, List.getElem_cons_zero, Act.put, List.setIfInBounds_toArray, List.set_cons_succ, List.set_cons_zero]
    refine wpAnyH_take (i := 2) (v := ?_) rfl (by kernel_rfl) (by kernel_rfl) (by kernel_rfl) (fun _ _ _ h => h) (Or.inl ⟨by kernel_rfl, ?_⟩) HSW.out ?_
    rotate_left
    ·rintro w ⟨e0,e1,e2⟩; go_simp; try with_reducible rfl
    conv in (Act.put _ _ _) => simp only [List.getElem_toArray, List.getElem_cons_succ, List.getElem_cons_zero, Act.put, List.setIfInBounds_toArray, List.set_cons_succ, List.set_cons_zero]
    refine wpAnyH_take (i := 3) (v := ?_) rfl (by kernel_rfl) (by kernel_rfl) (by kernel_rfl) (fun _ _ _ h => h) (Or.inl ⟨by kernel_rfl, ?_⟩) HSW.out ?_
    rotate_left
    ·rintro w ⟨e0,e1,e2⟩; go_simp; try with_reducible rfl
    conv in (Act.put _ _ _) => simp only [List.getElem_toArray, List.getElem_cons_succ, List.getElem_cons_zero, Act.put, List.setIfInBounds_toArray, List.set_cons_succ, List.set_cons_zero]
    refine wpAnyH_take (i := 4) (v := ?_) rfl (by kernel_rfl) (by kernel_rfl) (by kernel_rfl) (fun _ _ _ h => h) (Or.inl ⟨by kernel_rfl, ?_⟩) HSW.out ?_
    rotate_left
    ·rintro w ⟨e0,e1,e2⟩; go_simp; try with_reducible rfl
    conv in (Act.put _ _ _) => simp only [List.getElem_toArray, List.getElem_cons_succ, List.getElem_cons_zero, Act.put, List.setIfInBounds_toArray, List.set_cons_succ, List.set_cons_zero]
    refine wpAnyH_take (i := 5) (v := ?_) rfl (by kernel_rfl) (by kernel_rfl) (by kernel_rfl) (fun _ _ _ h => h) (Or.inl ⟨by kernel_rfl, ?_⟩) HSW.out ?_
    rotate_left
    ·rintro w ⟨e0,e1,e2⟩; go_simp; try with_reducible rfl
    conv in (Act.put _ _ _) => simp only [List.getElem_toArray, List.getElem_cons_succ, List.getElem_cons_zero, Act.put, List.setIfInBounds_toArray, List.set_cons_succ, List.set_cons_zero]
    refine wpAnyH_take (i := 6) (v := ?_) rfl (by kernel_rfl) (by kernel_rfl) (by kernel_rfl) (fun _ _ _ h => h) (Or.inl ⟨by kernel_rfl, ?_⟩) HSW.out ?_
    rotate_left
    ·rintro w ⟨e0,e1,e2⟩; go_simp; try with_reducible rfl
    conv in (Act.put _ _ _) => simp only [List.getElem_toArray, List.getElem_cons_succ, List.getElem_cons_zero, Act.put, List.setIfInBounds_toArray, List.set_cons_succ, List.set_cons_zero]
    refine wpAnyH_take (i := 7) (v := ?_) rfl (by kernel_rfl) (by kernel_rfl) (by kernel_rfl) (fun _ _ _ h => h) (Or.inl ⟨by kernel_rfl, ?_⟩) HSW.out ?_
    rotate_left
    ·rintro w ⟨e0,e1,e2⟩; go_simp; try with_reducible rfl
    conv in (Act.put _ _ _) => simp only [List.getElem_toArray, List.getElem_cons_succ, List.getElem_cons_zero, Act.put, List.setIfInBounds_toArray, List.set_cons_succ, List.set_cons_zero]
    refine wpAnyH_take (i := 8) (v := ?_) rfl (by kernel_rfl) (by kernel_rfl) (by kernel_rfl) (fun _ _ _ h => h) (Or.inl ⟨by kernel_rfl, ?_⟩) HSW.out ?_
    rotate_left
    ·rintro w ⟨e0,e1,e2⟩; go_simp; try with_reducible rfl
    conv in (Act.put _ _ _) => simp only [List.getElem_toArray, List.getElem_cons_succ, List.getElem_cons_zero, Act.put, List.setIfInBounds_toArray, List.set_cons_succ, List.set_cons_zero]
    refine wpAnyH_take (i := 9) (v := ?_) rfl (by kernel_rfl) (by kernel_rfl) (by kernel_rfl) (fun _ _ _ h => h) (Or.inl ⟨by kernel_rfl, ?_⟩) HSW.out ?_
    rotate_left
    ·rintro w ⟨e0,e1,e2⟩; go_simp; try with_reducible rfl
    conv in (Act.put _ _ _) => simp only [List.getElem_toArray, List.getElem_cons_succ, List.getElem_cons_zero, Act.put, List.setIfInBounds_toArray, List.set_cons_succ, List.set_cons_zero]
    refine wpAnyH_take (i := 10) (v := ?_) rfl (by kernel_rfl) (by kernel_rfl) (by kernel_rfl) (fun _ _ _ h => h) (Or.inl ⟨by kernel_rfl, ?_⟩) HSW.out ?_
    rotate_left
    ·rintro w ⟨e0,e1,e2⟩; go_simp; try with_reducible rfl
    conv in (Act.put _ _ _) => simp only [List.getElem_toArray, List.getElem_cons_succ, List.getElem_cons_zero, Act.put, List.setIfInBounds_toArray, List.set_cons_succ, List.set_cons_zero]
    refine wpAnyH_take (i := 11) (v := ?_) rfl (by kernel_rfl) (by kernel_rfl) (by kernel_rfl) (fun _ _ _ h => h) (Or.inl ⟨by kernel_rfl, ?_⟩) HSW.out ?_
    rotate_left
    ·rintro w ⟨e0,e1,e2⟩; go_simp; try with_reducible rfl
    conv in (Act.put _ _ _) => simp only [List.getElem_toArray, List.getElem_cons_succ, List.getElem_cons_zero, Act.put, List.setIfInBounds_toArray, List.set_cons_succ, List.set_cons_zero]
    refine wpAnyH_take (i := 12) (v := ?_) rfl (by kernel_rfl) (by kernel_rfl) (by kernel_rfl) (fun _ _ _ h => h) (Or.inl ⟨by kernel_rfl, ?_⟩) HSW.out ?_
    rotate_left
    ·rintro w ⟨e0,e1,e2⟩; go_simp; try with_reducible rfl
    conv in (Act.put _ _ _) => simp only [List.getElem_toArray, List.getElem_cons_succ, List.getElem_cons_zero, Act.put, List.setIfInBounds_toArray, List.set_cons_succ, List.set_cons_zero]
    refine wpAnyH_done (by kernel_rfl) ?_ _
    have HO1 : Hid (wr.drew.ownsRow W0.heap.size 54 4 (.slice po pn pc) (fk f l (k + 1)).length ((fk f l (k + 1)).flatMap rc)) := by
     refine (?_ : wr.drew.ownsRow W0.heap.size 54 4 (.slice po pn pc) (fk f l (k + 1)).length ((fk f l (k + 1)).flatMap rc))
     rw [HNX.out, HPN.out]
     exact own_same HO.out fun b _ hb' => rfl
    have HB1 : Hid (Below W0.heap.size W0 wr.drew) := HBk.out.drew
    clear HSW hbk ho sp
    go_wp2_with fail
    go_roundw
    case rel => exact ⟨k + 1, by omega, by go_num, HO1.out, HB1.out⟩
    case measure => simp [natOf]; omega
  ·obtain rfl : k = l.length := by omega
   have q5 : ¬ (l.length : Int) < (l.length : Int) := by omega
   rw [fk_all] at HO HPN
   have hs := HO.out
   rw [← HPN.out] at hs
   obtain ⟨o9, cap9, e9, s9⟩ := sl_of_own hs
   rw [HPN.out] at e9
   cases e9
   have HE : Hid (RowsAt wr po pc (l.filter f) ∧ Below w.heap.size w wr ∧ Fresh w.heap.size po (l.filter f).length) := ⟨s9, HBW.out.trans (HBk.out.mono HBW.out.size), (own_fresh hs).mono HBW.out.size⟩
   clear hbk ho sp hs s9
   go_wp2_with fail
   go_ret
   refine ⟨po, pc, ?_, by rw [HRS.out]; exact HE.out.1, HE.out.2.1, by rw [HRS.out]; exact HE.out.2.2⟩
   rw [HRS.out, HPN.out]
   rfl
set_option maxRecDepth 100000 in
set_option maxHeartbeats 2000000 in
theorem asked_3 (o : Option Addr) (cap : Nat) (l : List Rw) (a b c d x y sq : Nat) (kk : Int) (af : Nat) (fr : Bool) (M : Nat) (hM : ∀ r ∈ l, r.id < M) (w : World) (hr : RowsAt w o cap l) (hon : On l) (hmax : l.length ≤ 1000) (hri : Rise l) (hx : onS x y = true) :
  Calls Try.prog 30 #[.slice o l.length cap, qv ⟨3, a, b, c, d, x, y, sq, kk, af, fr⟩] w (RR (rest ⟨3, a, b, c, d, x, y, sq, kk, af, fr⟩ (nrV l x y M)) w) := by
 have hb := below_new w (qcs ⟨3, a, b, c, d, x, y, sq, kk, af, fr⟩)
 have hg := heap_alloc_new w (qcs ⟨3, a, b, c, d, x, y, sq, kk, af, fr⟩)
 obtain ⟨W0, hW0⟩ : ∃ W0, w.alloc (qcs ⟨3, a, b, c, d, x, y, sq, kk, af, fr⟩) = W0 := ⟨_, rfl⟩
 rw [hW0] at hb hg
 have HW0 : Hid _ := hW0
 have HG0 : Hid (W0.heap[w.heap.size]? = some (qcs ⟨3, a, b, c, d, x, y, sq, kk, af, fr⟩)) := hg
 have HB0 : Hid (Below w.heap.size w W0) := hb
 have lq : w.heap.size < W0.heap.size := (Array.getElem?_eq_some_iff.1 hg).1
 obtain ⟨c0, c1, c2, c3, c4, c5, c6, c7, c8, c9, c10⟩ := qc_of hg
 simp only at c0 c1 c2 c3 c4 c5 c6 c7 c8 c9 c10
 have hr0 := hr.below hb (Nat.le_refl _)
 have hrs : rest ⟨3, a, b, c, d, x, y, sq, kk, af, fr⟩ (nrV l x y M) = nrV l x y M := by unfold rest; exact if_neg (by simp)
 rw [hrs]
 have HC : Hid (∀ _ : True, _) := fun _ => rnear_all l o cap x y M hx W0 hr0 hon hmax hri hM
 generalize nrV l x y M = L at *
 simp only [qv]
 clear hb hg hW0 hrs hri hmax hr hr0 hx hon hM
 go_enter Try.func30, Try.ntmps30
 go_wp2_with (first | (rw [HW0.out]; clear HW0))
 refine Calls.mono (HC.out trivial) ?_
 rintro e W1 ⟨o1, cap1, rfl, hs1, b1, hf1⟩
 have HE : Hid (RowsAt W1 o1 cap1 L ∧ Below w.heap.size w W1 ∧ Fresh w.heap.size o1 L.length) := ⟨hs1, HB0.out.trans (b1.mono HB0.out.size), hf1.mono HB0.out.size⟩
 clear hs1 b1 HC hf1
 go_wp2_with fail
 go_ret
 exact ⟨o1, cap1, rfl, HE.out⟩
set_option maxRecDepth 100000 in
theorem asked_any (o : Option Addr) (cap : Nat) (l : List Rw) (q : Qr) (M : Nat) (hM : ∀ r ∈ l, r.id < M) (w : World) (hr : RowsAt w o cap l) (hl : rightL l = true) (hc : chk q = 0) :
  Calls Try.prog 30 #[.slice o l.length cap, qv q] w (RR (rest q (fnd q M l)) w) := by
 have hk := (chk_ok hc).1
 have hon := right_on hl
 have hri := right_rise hl
 have hmax := ((rightL_iff l).1 hl).1
 have h2 := chk_in (q := q) (by omega)
 rw [hc] at h2
 have hf : fndE q = 0 := by
  by_cases cc : q.K < (if q.k = 3 then 0 else 1) ∨ 64 < q.K
  ·rw [if_pos cc] at h2
   exact absurd h2 (by decide)
  ·rw [if_neg cc] at h2
   exact h2.symm
 obtain ⟨k, a, b, c, d, x, y, sq, kk, af, fr⟩ := q
 simp only at hk
 have hbx : boxE a b c d = 0 → boxS a b c d = true := fun h => by
  unfold boxE at h
  cases e : boxS a b c d
  ·simp [e] at h
  ·rfl
 have hrn : rndE x y = 0 → onS x y = true := fun h => by
  unfold rndE at h
  cases e : onS x y
  ·simp [e] at h
  ·rfl
 obtain rfl | rfl | rfl | rfl : k = 1 ∨ k = 2 ∨ k = 3 ∨ k = 4 := by omega
 ·exact asked_1 o cap l a b c d x y sq kk af fr w hr hmax hri (hbx hf)
 ·exact asked_2 o cap l a b c d x y sq kk af fr w hr hon hmax hri (hrn hf)
 ·exact asked_3 o cap l a b c d x y sq kk af fr M hM w hr hon hmax hri (hrn hf)
 ·exact asked_4 o cap l a b c d x y sq kk af fr w hr hmax hri
end Go.Proofs.Ytimdlohdmddnjaa.Rf
