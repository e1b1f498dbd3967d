/- The pieces of what was found: the function that goes through them. -/
import Derived.Test.YtimdlohdmddnjaaPOK
import Derived.Test.YtimdlohdmddnjaaQJD
import Derived.Sort.LoopGhostIn
namespace Go.Proofs.Ytimdlohdmddnjaa.Rf
open Go.RowKit Go.Lib Go.Shelf
open Go.Proofs.Ytimdlohdmddnjaa.Rc Go.Proofs.Ytimdlohdmddnjaa.Rq
attribute [local go_sem] Oper.semAt_some
set_option maxRecDepth 100000 in
theorem pieces_any (o : Option Addr) (n cap : Nat) (q : Qr) (w : World) :
  Calls Try.prog 31 #[.slice o n cap, qv q] w fun e w' => e = .returned (.func (.func 60) #[] #[.pointer (some ⟨w.heap.size + 1, 0, none⟩), .pointer (some ⟨w.heap.size, 0, none⟩)]) ∧ w' = (w.alloc (.cells #[.slice o n cap] 32)).alloc (qcs q) := by
 obtain ⟨k, a, b, c, d, x, y, sq, kk, af, fr⟩ := q
 simp only [qv]
 go_enter Try.func31, Try.ntmps31
 go_wp2_with fail
 go_ret
 exact ⟨rfl, rfl⟩
def np (R : List Rw) (K : Nat) : Nat := max 1 ((R.length + K - 1) / K)
theorem np_pos (R : List Rw) (K : Nat) : 0 < np R K := by unfold np; omega
theorem np_iff (R : List Rw) {K : Nat} (h : 0 < K) (i : Nat) : i + 1 < np R K ↔ (i + 1) * K < R.length := by
 unfold np
 have h1 : i + 2 ≤ (R.length + K - 1) / K ↔ (i + 2) * K ≤ R.length + K - 1 := Nat.le_div_iff_mul_le h
 have h2 : (i + 2) * K = (i + 1) * K + K := by rw [show i + 2 = (i + 1) + 1 from rfl, Nat.add_mul (i + 1) 1 K, Nat.one_mul]
 rw [h2] at h1
 omega
set_option maxRecDepth 100000 in
theorem kw_set {B : Nat} {own : Nat → Prop} (w : World) (g k : Nat) (v : Value) (h1 : B ≤ g) (h2 : ¬ own g) : Kw B own w (w.setCell ⟨g, k, none⟩ v) :=
 ⟨rfl, rfl, rfl, by simp [World.setCell], fun j _ hn => Below.heap_setCell _ _ _ _ (fun e => by
  have e' : j = g := e
  subst e'
  rcases hn with hn | hn
  ·omega
  ·exact h2 hn)⟩
set_option maxRecDepth 100000 in
theorem Kw.drew {B : Nat} {own : Nat → Prop} (w : World) : Kw B own w w.drew := ⟨rfl, rfl, rfl, Nat.le_refl _, fun _ _ _ => rfl⟩
set_option maxRecDepth 100000 in
theorem rows_keep {W W' : World} {o : Option Addr} {cap : Nat} {F : List Rw} (h : RowsAt W o cap F) (hs : W.heap.size ≤ W'.heap.size) (hk : ∀ b off, o = some ⟨b, off, none⟩ → 0 < F.length → b < W.heap.size → W'.heap[b]? = W.heap[b]?) : RowsAt W' o cap F := by
 refine ⟨h.1, h.2.1, h.2.2.1, h.2.2.2.1, fun hn => ?_⟩
 obtain ⟨b, off, e, hlt, hc⟩ := h.2.2.2.2 hn
 exact ⟨b, off, e, Nat.lt_of_lt_of_le hlt hs, fun j u hu => (World.cell?_of_block (a := ⟨b, off + j, none⟩) (hk b off e hn hlt)).trans (hc j u hu)⟩
structure PJ (W1 : World) (ga : Nat) (o : Option Addr) (cap : Nat) (F : List Rw) (at' : Qr) (g : Nat) (own : Nat → Prop) (W : World) : Prop where
 box : W.heap[g]? = some (qcs at')
 ge : W1.heap.size ≤ g
 all : W.heap[ga]? = some (.cells #[.slice o F.length cap] 32 (0, 0))
 rows : RowsAt W o cap F
 lo : ga < W1.heap.size ∧ ∀ b off, o = some ⟨b, off, none⟩ → 0 < F.length → b < W1.heap.size
 out : ∀ j, own j → j < W.heap.size ∧ j ≠ g ∧ j ≠ ga ∧ ∀ b off, o = some ⟨b, off, none⟩ → 0 < F.length → j ≠ b
set_option maxRecDepth 100000 in
theorem PJ.next {W1 : World} {ga : Nat} {o : Option Addr} {cap : Nat} {F : List Rw} {q : Qr} {g : Nat} {own own' : Nat → Prop} {W W' : World} (h : PJ W1 ga o cap F q g own W) (hb : But own W W') (ho : ∀ j, own' j → own j ∨ (W.heap.size ≤ j ∧ j < W'.heap.size)) : PJ W1 ga o cap F q g own' W' := by
 have l4 := (Array.getElem?_eq_some_iff.1 h.box).1
 have l5 := (Array.getElem?_eq_some_iff.1 h.all).1
 refine ⟨(hb.block g l4 fun e => (h.out _ e).2.1 rfl).trans h.box, h.ge, (hb.block ga l5 fun e => (h.out _ e).2.2.1 rfl).trans h.all, rows_keep h.rows hb.size fun b off e hn hlt => hb.block b hlt fun hj => (h.out b hj).2.2.2 b off e hn rfl, h.lo, fun j hj => ?_⟩
 rcases ho j hj with a | a
 ·obtain ⟨x1, x2, x3, x4⟩ := h.out j a
  exact ⟨Nat.lt_of_lt_of_le x1 hb.size, x2, x3, x4⟩
 ·refine ⟨a.2, by omega, by omega, fun b off e hn => ?_⟩
  have := h.lo.2 b off e hn
  have := h.ge
  omega
set_option maxRecDepth 100000 in
theorem PJ.grow {W1 : World} {ga : Nat} {o : Option Addr} {cap : Nat} {F : List Rw} {q : Qr} {g : Nat} {own : Nat → Prop} {W W' : World} (h : PJ W1 ga o cap F q g own W) (hb : Below W.heap.size W W') : PJ W1 ga o cap F q g own W' := h.next (But.of_below hb) fun _ hj => .inl hj
set_option maxRecDepth 100000 in
theorem PJ.copy {W1 : World} {ga : Nat} {o : Option Addr} {cap : Nat} {F : List Rw} {q : Qr} {g : Nat} {own : Nat → Prop} {W : World} (h : PJ W1 ga o cap F q g own W) (hw : W1.heap.size ≤ W.heap.size) : PJ W1 ga o cap F q W.heap.size own (W.alloc (qcs q)) := by
 have hb := below_new W (qcs q)
 refine ⟨heap_alloc_new W _, hw, (hb.block _ (Array.getElem?_eq_some_iff.1 h.all).1).trans h.all, h.rows.below hb (Nat.le_refl _), h.lo, fun j hj => ?_⟩
 obtain ⟨x1, x2, x3, x4⟩ := h.out j hj
 exact ⟨by simp; omega, by omega, x3, x4⟩
set_option maxRecDepth 100000 in
theorem qinfo : (Try.prog.info? 27).map (·.size) = some 11 := by kernel_rfl
set_option maxRecDepth 100000 in
set_option maxHeartbeats 4000000 in
theorem pieces1_any (gq ga : Nat) (k : Int) (a b c d x y sq K af : Nat) (fr : Bool) (o : Option Addr) (cap : Nat) (F : List Rw) (hk : k ≠ 3) (hF : Rise F) (hmax : F.length ≤ 1000) (h0K : 0 < K) (hK : K ≤ 64) (W1 : World) (hr : RowsAt W1 o cap F)
  (hgq : W1.heap[gq]? = some (qcs ⟨k, a, b, c, d, x, y, sq, (K : Int), af, fr⟩)) (hga : W1.heap[ga]? = some (.cells #[.slice o F.length cap] 32 (0, 0))) (Rr : List Rw) (hRr : rest ⟨k, a, b, c, d, x, y, sq, (K : Int), af, fr⟩ F = Rr)
  (l : Nat) (R : (Nat → Prop) → Nat → World → Prop) (Rx : (Nat → Prop) → World → Prop) (own : Nat → Prop) (hown : ∀ j, own j → j < W1.heap.size ∧ j ≠ ga ∧ ∀ b off, o = some ⟨b, off, none⟩ → 0 < F.length → j ≠ b)
  (hR : ∀ own k W W', R own k W → Kw W1.heap.size own W W' → R own k W')
  (hY : ∀ own i o' W, i < np Rr K → (∀ W, RowsAt W o cap F → RowsAt W o' (pce Rr K i).length (pce Rr K i)) → R own i W → (∀ j, own j → j < W.heap.size) → YieldAt Fence.wide 0 Try.prog l #[.slice o' (pce Rr K i).length (pce Rr K i).length] W (YPost R Rx own (i + 1) W))
  (h0 : R own 0 W1) :
  Calls Try.prog 60 (#[.func (.yield l) #[] #[]] ++ #[.pointer (some ⟨gq, 0, none⟩), .pointer (some ⟨ga, 0, none⟩)]) W1 fun e W' => (∃ v, e = .returned v) ∧ ∃ own', (R own' (np Rr K) W' ∨ Rx own' W') := by
 have HR : Hid _ := hR
 have HY : Hid _ := hY
 have HF : Hid (Rise F) := hF
 have HRr : Hid (rest ⟨k, a, b, c, d, x, y, sq, (K : Int), af, fr⟩ F = Rr) := hRr
 have lq1 : gq < W1.heap.size := (Array.getElem?_eq_some_iff.1 hgq).1
 have la := (Array.getElem?_eq_some_iff.1 hga).1
 have HRW1 : Hid (RowsAt W1 o cap F) := hr
 have hrb : ∀ b off, o = some ⟨b, off, none⟩ → 0 < F.length → b < W1.heap.size := fun b off e hn => by
  obtain ⟨b', off', e', hlt, -⟩ := hr.2.2.2.2 hn
  rw [e] at e'
  cases e'
  exact hlt
 obtain ⟨c0, c1, c2, c3, c4, c5, c6, c7, c8, c9, c10⟩ := qc_of hgq
 simp only at c0 c1 c2 c3 c4 c5 c6 c7 c8 c9 c10
 have hbn := below_new W1 (qcs ⟨k, a, b, c, d, x, y, sq, (K : Int), af, fr⟩)
 have HJ0 : Hid (PJ W1 ga o cap F ⟨k, a, b, c, d, x, y, sq, (K : Int), af, fr⟩ W1.heap.size own (W1.alloc (qcs ⟨k, a, b, c, d, x, y, sq, (K : Int), af, fr⟩))) := ⟨heap_alloc_new W1 _, Nat.le_refl _, (hbn.block _ la).trans hga, hr.below hbn (Nat.le_refl _), ⟨la, hrb⟩, fun j hj => ⟨by have := (hown j hj).1; simp; omega, by have := (hown j hj).1; omega, (hown j hj).2⟩⟩
 have HR0 : Hid (R own 0 (W1.alloc (qcs ⟨k, a, b, c, d, x, y, sq, (K : Int), af, fr⟩))) := hR own 0 _ _ h0 (Kw.of_below hbn)
 have HZ : Hid ((W1.alloc (.cells #[.int .i64 0, .int .u32 0, .int .u32 0, .int .u32 0, .int .u32 0, .int .u32 0, .int .u32 0, .int .u64 0, .int .i64 0, .int .u64 0, .bool false] 27)).heap[W1.heap.size]? = some (.cells #[.int .i64 0, .int .u32 0, .int .u32 0, .int .u32 0, .int .u32 0, .int .u32 0, .int .u32 0, .int .u64 0, .int .i64 0, .int .u64 0, .bool false] 27 (0, 0))) := heap_alloc_new W1 _
 have HQI : Hid _ := qinfo
 clear hR hY hF hr hRr hga hgq la hbn h0 hown hrb
 refine (callsIn_wide (n := 4)).1 ?_
 refine callsIn_of_wp Try.func60 rfl trivial ?_ rfl
 simp only [Try.ntmps60, List.size_toArray, List.length_cons, List.length_nil, Nat.reduceAdd, Nat.reduceSub, Array.replicate_succ, Array.replicate_zero, List.push_toArray, List.append_toArray, List.nil_append, List.cons_append]
 gi_wp2_with (refine wpListIn_store_row rfl 27 (.tmp 4) (.tmp 7) rfl W1.heap.size #[.int .i64 k, .int .u32 (a : Int), .int .u32 (b : Int), .int .u32 (c : Int), .int .u32 (d : Int), .int .u32 (x : Int), .int .u32 (y : Int), .int .u64 (sq : Int), .int .i64 (K : Int), .int .u64 (af : Int), .bool fr] (by rfl) (by rfl) 27 #[.int .i64 0, .int .u32 0, .int .u32 0, .int .u32 0, .int .u32 0, .int .u32 0, .int .u32 0, .int .u64 0, .int .i64 0, .int .u64 0, .bool false] HZ.out HQI.out (by rfl) (by kernel_rfl) ?_; rw [World.setRow_alloc_new])
 clear c0 c1 c2 c3 c4 c5 c6 c7 c8 c9 c10 lq1 HZ
 have hnp := np_pos Rr K
 gi_loopg [4, 5] (np Rr K) (fun gh pv mv wr => ∃ (i af2 : Nat) (fr2 : Bool) (own2 : Nat → Prop) (g : Nat), i ≤ np Rr K ∧ gh = np Rr K - i ∧ pv = .pointer (some ⟨g, 0, none⟩) ∧ mv = .bool (decide (i < np Rr K)) ∧ PJ W1 ga o cap F ⟨k, a, b, c, d, x, y, sq, (K : Int), af2, fr2⟩ g own2 wr ∧ (i < np Rr K → rest ⟨k, a, b, c, d, x, y, sq, (K : Int), af2, fr2⟩ F = Rr.drop (i * K)) ∧ R own2 i wr ∧ W1.heap.size ≤ wr.heap.size)
 case atStart => exact ⟨0, af, fr, own, W1.heap.size, Nat.zero_le _, rfl, rfl, by rw [decide_eq_true hnp], HJ0.out, fun _ => by rw [Nat.zero_mul, List.drop_zero]; exact HRr.out, HR0.out, by simp⟩
 case round =>
  obtain ⟨i, af2, fr2, own2, g, hi, rfl, rfl, rfl, hJ, hrs, hR2, hsz⟩ := hrel
  have HJ : Hid (PJ W1 ga o cap F ⟨k, a, b, c, d, x, y, sq, (K : Int), af2, fr2⟩ g own2 wr) := hJ
  have HR2 : Hid (R own2 i wr) := hR2
  clear hR2 HJ0 HR0
  by_cases hlt : i < np Rr K
  ·rw [decide_eq_true hlt]
   have hrs' := hrs hlt
   have hgv := give_any k a b c d x y sq K af2 fr2 o cap F wr hJ.rows hmax (fun _ => HF.out) hK
   rw [hrs'] at hgv
   have hpe : (Rr.drop (i * K)).take K = pce Rr K i := rfl
   rw [hpe] at hgv
   have hmo : decide (K < (Rr.drop (i * K)).length) = decide (i + 1 < np Rr K) := by
    rw [List.length_drop]
    congr 1
    refine propext ?_
    rw [np_iff Rr h0K]
    have : (i + 1) * K = i * K + K := by rw [Nat.add_mul, Nat.one_mul]
    omega
   rw [hmo] at hgv
   have HGV : Hid (∀ _ : True, _) := fun _ => hgv
   have ca : wr.cell? ⟨ga, 0, none⟩ = some (.slice o F.length cap) := by rw [cell_of_row _ _ _ _ _ _ hJ.all]; rfl
   have la : ga < wr.heap.size := (Array.getElem?_eq_some_iff.1 hJ.all).1
   have lg : g < wr.heap.size := (Array.getElem?_eq_some_iff.1 hJ.box).1
   obtain ⟨c0, c1, c2, c3, c4, c5, c6, c7, c8, c9, c10⟩ := qc_of hJ.box
   simp only at c0 c1 c2 c3 c4 c5 c6 c7 c8 c9 c10
   have HPL : Hid (i + 1 < np Rr K → (pce Rr K i).length = K) := fun h => by
    have h2 := (np_iff Rr h0K i).1 h
    have : (i + 1) * K = i * K + K := by rw [Nat.add_mul, Nat.one_mul]
    unfold pce
    rw [List.length_take, List.length_drop]
    omega
   have HNX : Hid (i + 1 < np Rr K → rest ⟨k, a, b, c, d, x, y, sq, (K : Int), (rat (pce Rr K i) (K - 1)).id, true⟩ F = Rr.drop ((i + 1) * K)) := fun h => by
    have h2 := (np_iff Rr h0K i).1 h
    have e3 : (i + 1) * K = i * K + K := by rw [Nat.add_mul, Nat.one_mul]
    have := rest_next (q := ⟨k, a, b, c, d, x, y, sq, (K : Int), af2, fr2⟩) HF.out hk h0K (by rw [hrs', List.length_drop]; omega)
    rw [hrs', drop_next] at this
    exact this
   clear hgv hmo hpe hrs hrs'
   obtain ⟨P, hP⟩ : ∃ P, pce Rr K i = P := ⟨_, rfl⟩
   have HYi : Hid _ := HY.out own2 i
   rw [hP] at HGV HPL HNX HYi
   clear hP hJ
   gi_wp2
   refine ⟨trivial, callsIn_wide.2 (Calls.mono (HGV.out trivial) ?_)⟩
   rintro e w2 ⟨o2, rfl, hro, b2⟩
   have HJ2 : Hid (PJ W1 ga o cap F ⟨k, a, b, c, d, x, y, sq, (K : Int), af2, fr2⟩ g own2 w2) := HJ.out.grow b2
   have HRO : Hid (∀ W, RowsAt W o cap F → RowsAt W o2 P.length P) := hro
   have HRw2 : Hid (R own2 i w2) := HR.out own2 i _ _ HR2.out (Kw.of_below b2)
   have HS2 : Hid (W1.heap.size ≤ w2.heap.size) := Nat.le_trans hsz b2.size
   have hy0 := yield_wide (m := 3) <| HYi.out o2 w2 hlt HRO.out HRw2.out (fun j hj => (HJ2.out.out j hj).1)
   obtain ⟨fn, tmps, assign, body, hy, hRd⟩ := hy0
   clear b2 hro hsz ca c0 c1 c2 c3 c4 c5 c6 c7 c8 c9 c10 la lg HYi HJ HR2 HGV
   gi_wp2
   refine RoundIn.mono (R := YPost R Rx own2 (i + 1) w2) hRd ?_
   rintro e W6 ⟨own6, ho6, hb6, (⟨rfl, hR6⟩ | ⟨rfl, hx6⟩)⟩
   ·have HJ6 : Hid (PJ W1 ga o cap F ⟨k, a, b, c, d, x, y, sq, (K : Int), af2, fr2⟩ g own6 W6) := HJ2.out.next hb6 ho6
    have HR6 : Hid (R own6 (i + 1) W6) := hR6
    have hs6 : W1.heap.size ≤ W6.heap.size := Nat.le_trans HS2.out hb6.size
    have lg : g < W6.heap.size := (Array.getElem?_eq_some_iff.1 HJ6.out.box).1
    obtain ⟨c0, c1, c2, c3, c4, c5, c6, c7, c8, c9, c10⟩ := qc_of HJ6.out.box
    simp only at c0 c1 c2 c3 c4 c5 c6 c7 c8 c9 c10
    clear hy hRd ho6 hb6 hR6
    by_cases hmore : i + 1 < np Rr K
    ·rw [decide_eq_true hmore]
     have hPl := HPL.out hmore
     obtain ⟨bb, off, rfl, hb0, -⟩ := RowsAt.row (HRO.out W1 HRW1.out) (i := K - 1) (by omega)
     obtain ⟨bb2, off2, e2, hbl, hc⟩ := (HRO.out W6 HJ6.out.rows).row (i := K - 1) (by omega)
     cases e2
     have ci := (hc (K - 1) (by omega)).1
     have hnx := HNX.out hmore
     obtain ⟨id, hid⟩ : ∃ id, (rat P (K - 1)).id = id := ⟨_, rfl⟩
     rw [hid] at ci hnx
     have z9 : W6.frozen? ⟨g, 9, none⟩ = false := frozen_of_row W6 _ 9 _ _ HJ6.out.box
     have z10 : W6.frozen? ⟨g, 10, none⟩ = false := frozen_of_row W6 _ 10 _ _ HJ6.out.box
     have hne : bb ≠ g := by have := HJ6.out.ge; omega
     have ci2 : (W6.setCell ⟨g, 10, none⟩ (.bool true)).drew.cell? ⟨bb, off + (K - 1) * 4, none⟩ = some (.int .u64 (id : Int)) := (World.cell?_of_block (a := ⟨bb, off + (K - 1) * 4, none⟩) (Below.heap_setCell W6 _ _ _ hne)).trans ci
     have hPK : (P.length : Int) = (K : Int) := by omega
     clear hc hid
     gi_wp2
     gi_region
     have s1 := heap_setCell_same W6 g 10 _ _ (.bool true) HJ6.out.box
     have s2 := heap_setCell_same _ g 9 _ _ (.int .u64 (id : Int)) s1
     have hng : ¬ own6 g := fun e => (HJ6.out.out g e).2.1 rfl
     have hkw : Kw W1.heap.size own6 W6 ((W6.setCell ⟨g, 10, none⟩ (.bool true)).setCell ⟨g, 9, none⟩ (.int .u64 (id : Int))).drew := ((kw_set W6 g 10 _ HJ6.out.ge hng).trans (kw_set _ g 9 _ HJ6.out.ge hng)).trans (Kw.drew _)
     obtain ⟨W7, hW7⟩ : ∃ W7, ((W6.setCell ⟨g, 10, none⟩ (.bool true)).setCell ⟨g, 9, none⟩ (.int .u64 (id : Int))).drew = W7 := ⟨_, rfl⟩
     have hg7 : W7.heap[g]? = some (qcs ⟨k, a, b, c, d, x, y, sq, (K : Int), id, true⟩) := by rw [← hW7]; exact s2
     rw [hW7] at hkw ⊢
     have hJ7 : PJ W1 ga o cap F ⟨k, a, b, c, d, x, y, sq, (K : Int), id, true⟩ g own6 W7 := ⟨hg7, HJ6.out.ge, (hkw.block _ (Array.getElem?_eq_some_iff.1 HJ6.out.all).1 (.inl HJ6.out.lo.1)).trans HJ6.out.all, rows_keep HJ6.out.rows hkw.size fun b off e hn hlt => hkw.block b hlt (.inl (HJ6.out.lo.2 b off e hn)), HJ6.out.lo, fun j hj => ⟨Nat.lt_of_lt_of_le (HJ6.out.out j hj).1 hkw.size, (HJ6.out.out j hj).2⟩⟩
     have hs7 : W1.heap.size ≤ W7.heap.size := Nat.le_trans hs6 hkw.size
     have HZ : Hid ((W7.alloc (.cells #[.int .i64 0, .int .u32 0, .int .u32 0, .int .u32 0, .int .u32 0, .int .u32 0, .int .u32 0, .int .u64 0, .int .i64 0, .int .u64 0, .bool false] 27)).heap[W7.heap.size]? = some (.cells #[.int .i64 0, .int .u32 0, .int .u32 0, .int .u32 0, .int .u32 0, .int .u32 0, .int .u32 0, .int .u64 0, .int .i64 0, .int .u64 0, .bool false] 27 (0, 0))) := heap_alloc_new W7 _
     have HJ8 : Hid (PJ W1 ga o cap F ⟨k, a, b, c, d, x, y, sq, (K : Int), id, true⟩ W7.heap.size own6 (W7.alloc (qcs ⟨k, a, b, c, d, x, y, sq, (K : Int), id, true⟩))) := hJ7.copy hs7
     have HR8 : Hid (R own6 (i + 1) (W7.alloc (qcs ⟨k, a, b, c, d, x, y, sq, (K : Int), id, true⟩))) := HR.out own6 (i + 1) _ _ (HR.out own6 (i + 1) _ _ HR6.out hkw) (Kw.of_below (below_new W7 _))
     have HS8 : Hid (W1.heap.size ≤ (W7.alloc (qcs ⟨k, a, b, c, d, x, y, sq, (K : Int), id, true⟩)).heap.size) := by refine (?_ : W1.heap.size ≤ (W7.alloc (qcs ⟨k, a, b, c, d, x, y, sq, (K : Int), id, true⟩)).heap.size); simp; omega
     have HNX2 : Hid (rest ⟨k, a, b, c, d, x, y, sq, (K : Int), id, true⟩ F = Rr.drop ((i + 1) * K)) := hnx
     have lg7 : g < W7.heap.size := (Array.getElem?_eq_some_iff.1 hg7).1
     clear c0 c1 c2 c3 c4 c5 c6 c7 c8 c9 c10
     obtain ⟨c0, c1, c2, c3, c4, c5, c6, c7, c8, c9, c10⟩ := qc_of hg7
     simp only at c0 c1 c2 c3 c4 c5 c6 c7 c8 c9 c10
     clear s1 s2 hng hkw hW7 hg7 hJ7 ci ci2 z9 z10 hnx hbl hb0 lg
     gi_wp2_with (refine wpListIn_store_row rfl 27 (.tmp 4) (.tmp 29) rfl W7.heap.size #[.int .i64 k, .int .u32 (a : Int), .int .u32 (b : Int), .int .u32 (c : Int), .int .u32 (d : Int), .int .u32 (x : Int), .int .u32 (y : Int), .int .u64 (sq : Int), .int .i64 (K : Int), .int .u64 (id : Int), .bool true] (by rfl) (by rfl) 27 #[.int .i64 0, .int .u32 0, .int .u32 0, .int .u32 0, .int .u32 0, .int .u32 0, .int .u32 0, .int .u64 0, .int .i64 0, .int .u64 0, .bool false] HZ.out HQI.out (by rfl) (by kernel_rfl) ?_; rw [World.setRow_alloc_new])
     gi_roundg (np Rr K - (i + 1))
     case rel => exact ⟨i + 1, id, true, own6, W7.heap.size, by omega, rfl, rfl, by rw [decide_eq_true hmore], HJ8.out, fun _ => HNX2.out, HR8.out, HS8.out⟩
     case measure => omega
    ·rw [decide_eq_false hmore]
     have hZ : (W6.alloc (.cells #[.int .i64 0, .int .u32 0, .int .u32 0, .int .u32 0, .int .u32 0, .int .u32 0, .int .u32 0, .int .u64 0, .int .i64 0, .int .u64 0, .bool false] 27)).heap[W6.heap.size]? = some (.cells #[.int .i64 0, .int .u32 0, .int .u32 0, .int .u32 0, .int .u32 0, .int .u32 0, .int .u32 0, .int .u64 0, .int .i64 0, .int .u64 0, .bool false] 27 (0, 0)) := heap_alloc_new W6 _
     have HZ : Hid _ := hZ
     have HJ7 : Hid (PJ W1 ga o cap F ⟨k, a, b, c, d, x, y, sq, (K : Int), af2, fr2⟩ W6.heap.size own6 (W6.alloc (qcs ⟨k, a, b, c, d, x, y, sq, (K : Int), af2, fr2⟩))) := HJ6.out.copy hs6
     have HR7 : Hid (R own6 (i + 1) (W6.alloc (qcs ⟨k, a, b, c, d, x, y, sq, (K : Int), af2, fr2⟩))) := HR.out own6 (i + 1) _ _ HR6.out (Kw.of_below (below_new W6 _))
     have HS7 : Hid (W1.heap.size ≤ (W6.alloc (qcs ⟨k, a, b, c, d, x, y, sq, (K : Int), af2, fr2⟩)).heap.size) := by refine (?_ : W1.heap.size ≤ (W6.alloc (qcs ⟨k, a, b, c, d, x, y, sq, (K : Int), af2, fr2⟩)).heap.size); simp; omega
     clear hZ
     gi_wp2_with (refine wpListIn_store_row rfl 27 (.tmp 4) (.tmp 29) rfl W6.heap.size #[.int .i64 k, .int .u32 (a : Int), .int .u32 (b : Int), .int .u32 (c : Int), .int .u32 (d : Int), .int .u32 (x : Int), .int .u32 (y : Int), .int .u64 (sq : Int), .int .i64 (K : Int), .int .u64 (af2 : Int), .bool fr2] (by rfl) (by rfl) 27 #[.int .i64 0, .int .u32 0, .int .u32 0, .int .u32 0, .int .u32 0, .int .u32 0, .int .u32 0, .int .u64 0, .int .i64 0, .int .u64 0, .bool false] HZ.out HQI.out (by rfl) (by kernel_rfl) ?_; rw [World.setRow_alloc_new])
     gi_roundg (np Rr K - (i + 1))
     case rel => exact ⟨i + 1, af2, fr2, own6, W6.heap.size, by omega, rfl, rfl, by rw [decide_eq_false hmore], HJ7.out, fun h => absurd h hmore, HR7.out, HS7.out⟩
     case measure => omega
   ·have HX : Hid (Rx own6 W6) := hx6
    clear hy hRd ho6 hb6 hx6
    gi_wp2
    refine bodyPost_ret (results_none rfl _ _ _) rfl ?_
    exact ⟨⟨_, rfl⟩, own6, .inr HX.out⟩
  ·rw [decide_eq_false hlt]
   obtain rfl : i = np Rr K := by omega
   clear hrs hJ
   gi_wp2
   refine bodyPost_end (results_none rfl _ _ _) rfl ?_
   exact ⟨⟨_, rfl⟩, own2, .inl HR2.out⟩
end Go.Proofs.Ytimdlohdmddnjaa.Rf
