/- The tree of rows: kids. -/
import Derived.Test.YtimdlohdmddnjaaQGL
import Derived.Test.YtimdlohdmddnjaaPGB
namespace Go.Proofs.Ytimdlohdmddnjaa.Rq
open Go.RowKit Go.Lib Go.Shelf
open Go.Proofs.Ytimdlohdmddnjaa.Rc
def kl (l : List Rw) (j : Nat) : List (List Rw) := ((List.range j).map (part l)).filter fun m => !m.isEmpty
theorem kl_four (l : List Rw) : kl l 4 = kidsL l := rfl
theorem kl_no {l : List Rw} {j : Nat} (h : part l j = []) : kl l (j + 1) = kl l j := by
 unfold kl; rw [List.range_succ, List.map_append, List.filter_append]; simp [h]
theorem kl_yes {l : List Rw} {j : Nat} (h : part l j ≠ []) : kl l (j + 1) = kl l j ++ [part l j] := by
 unfold kl; rw [List.range_succ, List.map_append, List.filter_append]; simp [h]
theorem kl_len (l : List Rw) (j : Nat) : (kl l j).length ≤ j := by
 unfold kl
 exact Nat.le_trans (List.length_filter_le _ _) (by simp)
structure KJ (d : Nat) (l : List Rw) (w3 : World) (j : Nat) (ks : List Nv) (v : Value) (W : World) : Prop where
 len : ks.length = (kl l j).length
 own : W.ownsRow w3.heap.size 45 5 v ks.length (ks.flatMap nc)
 nodes : ∀ i (h1 : i < ks.length) (h2 : i < (kl l j).length), NodeAt (fun b => w3.heap.size ≤ b ∧ v.ownBlock ≠ some b) d W ks[i] (kl l j)[i]
 bel : Below w3.heap.size w3 W
set_option maxRecDepth 100000 in
theorem KJ.skip {d : Nat} {l : List Rw} {w3 : World} {j : Nat} {ks : List Nv} {v : Value} {W : World} (h : KJ d l w3 j ks v W) (hp : part l j = []) : KJ d l w3 (j + 1) ks v W := by
 obtain ⟨h1, h2, h3, h4⟩ := h
 refine ⟨by rw [kl_no hp]; exact h1, h2, ?_, h4⟩
 rw [kl_no hp]; exact h3
set_option maxRecDepth 100000 in
theorem KJ.step {d : Nat} {l : List Rw} {w3 : World} {j : Nat} {ks : List Nv} {v : Value} {W W1 W2 W' : World} (h : KJ d l w3 j ks v W) (hp : part l j ≠ []) {n : Nv} {v' : Value}
  (hb1 : Below W.heap.size W W1) (hn : NodeAt (fun b => W.heap.size ≤ b) d W1 n (part l j)) (hb2 : Below W1.heap.size W1 W2) (ho : W'.ownsRow w3.heap.size 45 5 v' (ks.length + 1) (ks.flatMap nc ++ nc n)) (hg : W2.grownBy W' v.ownBlock) (hf : v'.ownBlock = v.ownBlock ∨ v'.ownBlock = some W2.heap.size) :
  KJ d l w3 (j + 1) (ks ++ [n]) v' W' := by
 have hs1 := hb1.size
 have hs2 := hb2.size
 have hw3 := h.bel.size
 have hv : ∀ b, v.ownBlock = some b → w3.heap.size ≤ b ∧ b < W.heap.size := fun b hb => own_base h.own hb
 have keep : ∀ b, b < W2.heap.size → v.ownBlock ≠ some b → W'.heap[b]? = W2.heap[b]? := fun b hb hne => hg.block b hb fun e => hne e.symm
 have nv' : ∀ b, b < W2.heap.size → v.ownBlock ≠ some b → v'.ownBlock ≠ some b := fun b hb hne e => by
  rcases hf with hf | hf
  ·rw [hf] at e; exact hne e
  ·rw [hf] at e; cases e; omega
 refine ⟨by rw [kl_yes hp, List.length_append, List.length_append, h.len]; rfl, ?_, fun i h1 h2 => ?_, h.bel.trans ⟨?_, ?_, ?_, ?_, fun b hb => ?_⟩⟩
 ·rw [List.length_append, List.flatMap_append]; simpa using ho
 ·have e : (kl l (j + 1))[i] = (kl l j ++ [part l j])[i]'(by rw [← kl_yes hp]; exact h2) := by congr 1; exact kl_yes hp
  rw [e]
  by_cases hi : i < ks.length
  ·rw [List.getElem_append_left hi, List.getElem_append_left (by rw [← h.len]; exact hi)]
   have a := h.nodes i hi (by rw [← h.len]; exact hi)
   have a2 := (a.below hb1 (Nat.le_refl _)).below hb2 (Nat.le_refl _)
   have a0 : NodeAt (fun b => (w3.heap.size ≤ b ∧ v.ownBlock ≠ some b) ∧ b < W2.heap.size) d W2 ks[i] ((kl l j)[i]'(by rw [← h.len]; exact hi)) := a2.mono fun b hb hG => ⟨hG, hb⟩
   exact (a0.same hg.size fun b hG hb => keep b hb hG.1.2).mono fun b _ hG => ⟨hG.1.1, nv' b hG.2 hG.1.2⟩
  ·have hi' : i = ks.length := by rw [List.length_append] at h1; simp at h1; omega
   subst hi'
   rw [List.getElem_append_right (Nat.le_refl _), List.getElem_append_right (by rw [h.len]; omega)]
   simp only [Nat.sub_self, h.len, List.getElem_cons_zero]
   have a2 := hn.below hb2 (Nat.le_refl _)
   have a0 : NodeAt (fun b => W.heap.size ≤ b ∧ b < W2.heap.size) d W2 n (part l j) := a2.mono fun b hb hG => ⟨hG, hb⟩
   have hvb : ∀ b, W.heap.size ≤ b → v.ownBlock ≠ some b := fun b hb e => by have := (hv b e).2; omega
   exact (a0.same hg.size fun b hG hb => keep b hb (hvb b hG.1)).mono fun b _ hG => ⟨by omega, nv' b hG.2 (hvb b hG.1)⟩
 ·exact hg.os.trans (hb2.os.trans hb1.os)
 ·exact hg.tape.trans (hb2.tape.trans hb1.tape)
 ·exact hg.output.trans (hb2.output.trans hb1.output)
 ·exact Nat.le_trans hs1 (Nat.le_trans hs2 hg.size)
 ·exact (keep b (by omega) (fun e => by have := (hv b e).1; omega)).trans ((hb2.block b (by omega)).trans (hb1.block b (by omega)))
set_option maxRecDepth 100000 in
theorem ixs (vs : Nat → Value) (j : Nat) (hj : j < 4) (w : World) : (Instr.index 95 (.agg #[vs 0, vs 1, vs 2, vs 3]) (.int .i64 (j : Int))).run Try.prog w = .ok (vs j) w := by
 obtain rfl | rfl | rfl | rfl : j = 0 ∨ j = 1 ∨ j = 2 ∨ j = 3 := by omega
 all_goals kernel_rfl
set_option maxRecDepth 100000 in
theorem one_node {w : World} {g : Nat} {n : Nv} {t : TypeId} {fr : Nat × Nat} (h : w.heap[g]? = some (.cells #[.int .u32 (n.X : Int), .int .u32 (n.Y : Int), .int .i64 (n.L : Int), .slice n.ro n.rn n.rc, .slice n.ko n.kn n.kc] t fr)) : Sl 5 w (some ⟨g, 0, none⟩) 1 1 (nc n) := by
 refine ⟨Nat.le_refl _, by decide, (fun e => by cases e), rfl, fun _ => ⟨g, 0, rfl, (Array.getElem?_eq_some_iff.1 h).1, fun j u hu => ?_⟩⟩
 rw [Nat.zero_add, cell_of_row _ _ _ _ _ _ h]
 have : j < 5 := (List.getElem?_eq_some_iff.1 hu).1
 obtain rfl | rfl | rfl | rfl | rfl : j = 0 ∨ j = 1 ∨ j = 2 ∨ j = 3 ∨ j = 4 := by omega
 all_goals simpa [nc] using hu
theorem nc_one' (n : Nv) : ∀ u ∈ nc n, u.oneCell' = true := by
 have := nc_one [n]
 simpa using this
set_option maxRecDepth 100000 in
set_option maxHeartbeats 4000000 in
theorem tree_inner (d : Nat) (ih : ∀ (l : List Rw) (o : Option Addr) (cap : Nat) (w : World), RowsAt w o cap l → On l → l.length ≤ 1000 → lev l < d →
   Calls Try.prog 33 #[.slice o l.length cap] w fun e w' => ∃ n : Nv, e = .returned (nv n) ∧ NodeAt (fun b => w.heap.size ≤ b) d w' n l ∧ Below w.heap.size w w')
  (l : List Rw) (o : Option Addr) (cap : Nat) (w : World) (hr : RowsAt w o cap l) (hon : On l) (hmax : l.length ≤ 1000) (hlf : leaf l = false) (hd : lev l < d + 1) :
  Calls Try.prog 33 #[.slice o l.length cap] w fun e w' => ∃ n : Nv, e = .returned (nv n) ∧ NodeAt (fun b => w.heap.size ≤ b) (d + 1) w' n l ∧ Below w.heap.size w w' := by
  obtain ⟨h4, m, hm⟩ := leaf_no hlf
  have hne : 0 < l.length := by omega
  have HLf : Hid (leaf l = false) := hlf
  have IH : Hid _ := ih
  have HSh : Hid (∀ W, RowsAt W o cap l → _) := fun W h => shares_any m l o cap W h hon hmax hm

  have HHR : RowsAt (w.alloc (.cells #[.int .u32 0, .int .u32 0, .int .i64 0, .slice none 0 0, .slice none 0 0] 45)) o cap l := hr.below (below_new w _) (Nat.le_refl _)
  have HC : Hid _ := qleast_any l o cap (w.alloc (.cells #[.int .u32 0, .int .u32 0, .int .i64 0, .slice none 0 0, .slice none 0 0] 45)) HHR hne hon hmax
  have HG2n : Hid ((w.alloc (.cells #[.int .u32 0, .int .u32 0, .int .i64 0, .slice none 0 0, .slice none 0 0] 45)).heap[w.heap.size]? = some (.cells #[.int .u32 0, .int .u32 0, .int .i64 0, .slice none 0 0, .slice none 0 0] 45 (0, 0))) := heap_alloc_new w _
  have HBn : Hid (Below w.heap.size w (w.alloc (.cells #[.int .u32 0, .int .u32 0, .int .i64 0, .slice none 0 0, .slice none 0 0] 45))) := below_new w _
  have HR : Hid (RowsAt w o cap l) := hr
  obtain ⟨X, hX⟩ : ∃ X, cx l = X := ⟨_, rfl⟩
  obtain ⟨Y, hY⟩ : ∃ Y, cy l = Y := ⟨_, rfl⟩
  obtain ⟨L, hL⟩ : ∃ L : Int, (lev l : Int) = L := ⟨_, rfl⟩
  have HX : Hid (cx l = X) := hX
  have HY : Hid (cy l = Y) := hY
  have HL : Hid ((lev l : Int) = L) := hL
  rw [hX, hY, hL] at HC
  have q0 : ((l.length : Int) == 0) = false := by rw [beq_eq_false_iff_ne]; omega
  have n0 : ¬ l.length = 0 := by omega

  rw [hX, hY, hL] at HSh
  have q1 : decide ((l.length : Int) ≤ 4) = false := decide_eq_false (by omega)
  have q2 : (L == 0) = false := by rw [beq_eq_false_iff_ne, ← hL]; omega
  have HM : Hid (lev l = m + 1) := hm
  have HD : Hid (lev l < d + 1) := hd
  have Hon : Hid (On l) := hon
  clear hlf h4 hm hd hon ih

  clear hr HHR hX hY hL
  go_enter Try.func33, Try.ntmps33
  go_wp2_with fail
  refine Calls.mono HC.out ?_
  rintro e W1 ⟨rfl, b1⟩
  have HG2a := (b1.block _ (by simp)).trans HG2n.out
  have hs1 : w.heap.size < W1.heap.size := by have := b1.size; simp at this; omega
  have HB2 : Hid (Below w.heap.size w (W1.alloc (.cells #[.int .u32 (X : Int), .int .u32 (Y : Int), .int .i64 L] 42))) := (HBn.out.trans (b1.mono (by simp))).trans ((below_new W1 _).mono (by omega))
  have HG2 : Hid ((W1.alloc (.cells #[.int .u32 (X : Int), .int .u32 (Y : Int), .int .i64 L] 42)).heap[w.heap.size]? = some (.cells #[.int .u32 0, .int .u32 0, .int .i64 0, .slice none 0 0, .slice none 0 0] 45 (0, 0))) := ((below_new W1 _).block _ hs1).trans HG2a
  have HG3 : Hid ((W1.alloc (.cells #[.int .u32 (X : Int), .int .u32 (Y : Int), .int .i64 L] 42)).heap[W1.heap.size]? = some (.cells #[.int .u32 (X : Int), .int .u32 (Y : Int), .int .i64 L] 42 (0, 0))) := heap_alloc_new W1 _
  clear b1 HG2a
  go_wp2_with fail
  have HG2s : Hid (w.heap.size < (W1.alloc (.cells #[.int .u32 (X : Int), .int .u32 (Y : Int), .int .i64 L] 42)).heap.size) := (Array.getElem?_eq_some_iff.1 HG2.out).1
  have HG3s : Hid (W1.heap.size < (W1.alloc (.cells #[.int .u32 (X : Int), .int .u32 (Y : Int), .int .i64 L] 42)).heap.size) := (Array.getElem?_eq_some_iff.1 HG3.out).1
  have HG32 : Hid (W1.heap.size ≠ w.heap.size) := Nat.ne_of_gt hs1
  obtain ⟨g3, hg3⟩ : ∃ g3, W1.heap.size = g3 := ⟨_, rfl⟩
  obtain ⟨W2, hW2⟩ : ∃ W2, W1.alloc (.cells #[.int .u32 (X : Int), .int .u32 (Y : Int), .int .i64 L] 42) = W2 := ⟨_, rfl⟩
  rw [hW2] at HB2 HG2 HG3 HG2s HG3s ⊢
  rw [hg3] at HG3 HG3s HG32 ⊢
  clear hW2 hg3 hs1 HC HG2n HBn
  obtain ⟨t0, t1, t2⟩ := Cel.cells HG3.out
  go_wp2_with fail
  refine Calls.mono (HSh.out W2 (HR.out.below HB2.out (Nat.le_refl _))) ?_
  rintro e W3 ⟨vs, rfl, hvs, b3⟩
  have HV : Hid (∀ q, q < 4 → W3.ownsRow W2.heap.size 54 4 (vs q) (part l q).length ((part l q).flatMap rc)) := hvs
  have HB3 : Hid (Below W2.heap.size W2 W3) := b3
  clear hvs b3 t0 t1 t2
  go_wp2_with fail
  go_loopw [4, 28] (fun kv i wr => ∃ j : Nat, j ≤ 4 ∧ i = .int .i64 (j : Int) ∧ ∃ ks, KJ d l W3 j ks kv wr) (fun _ i _ => 4 - natOf i)
  case atStart => exact ⟨0, by omega, rfl, [], rfl, World.ownsRow_nil _ _ _ _, fun i h1 _ => absurd h1 (by simp), Below.refl _ _⟩
  case round =>
   obtain ⟨j, hj, rfl, ks, hJ⟩ := hrel
   have HJ : Hid (KJ d l W3 j ks u4 wr) := hJ
   clear hJ
   by_cases hlt : j < 4
   ·have q3 : (j : Int) < 4 := by omega
    have hix := ixs vs j hlt
    obtain ⟨oj, cj, ej, sj⟩ := sl_of_own (HV.out j hlt)
    rw [ej] at hix
    have HS : Hid (RowsAt wr oj cj (part l j)) := Sl.below sj (HJ.out.bel) (Nat.le_refl _)
    have HP : Hid _ := part_sub l j
    clear sj ej
    obtain ⟨pl, hpl⟩ : ∃ pl, (part l j).length = pl := ⟨_, rfl⟩
    have HPL : Hid ((part l j).length = pl) := hpl
    rw [hpl] at hix
    clear hpl
    have k1 : (j : Int) + 1 ≤ 9223372036854775807 := by omega
    by_cases hp : pl = 0
    ·have q4 : decide (0 < pl) = false := decide_eq_false (by omega)
     have HN : Hid (KJ d l W3 (j + 1) ks u4 wr) := HJ.out.skip (List.eq_nil_of_length_eq_zero (by rw [HPL.out]; exact hp))
     clear hp
     go_wp2_with fail
     go_roundw
     case rel => exact ⟨j + 1, by omega, by go_num, ks, HN.out⟩
     case measure => simp [natOf]; omega
    ·have q4 : decide (0 < pl) = true := decide_eq_true (by omega)
     have HNP : Hid (part l j ≠ []) := fun e => by have := HPL.out; rw [e] at this; exact hp this.symm
     clear hp
     go_wp2_with fail
     have hcall := IH.out (part l j) oj cj wr HS.out (Hon.out.part j) (Nat.le_trans HP.out hmax) (by have := lev_part Hon.out HM.out j; have := HM.out; have := HD.out; omega)
     rw [HPL.out] at hcall
     refine hcall.mono ?_
     rintro e W4 ⟨nn, rfl, n4, b4⟩
     clear hcall
     obtain ⟨nX, nY, nL, nro, nrn, nrc, nko, nkn, nkc⟩ := nn
     have hb5 := below_new W4 (.cells #[.int .u32 (nX : Int), .int .u32 (nY : Int), .int .i64 (nL : Int), .slice nro nrn nrc, .slice nko nkn nkc] 45)
     have hkl := kl_len l j
     obtain ⟨v', W', hrun, a1, a2, a3⟩ := append_sl 43 45 Try.underlying43 infoNode rfl (by decide) (by decide) (W4.alloc (.cells #[.int .u32 (nX : Int), .int .u32 (nY : Int), .int .i64 (nL : Int), .slice nro nrn nrc, .slice nko nkn nkc] 45)) W3.heap.size ks.length 1 u4 (some ⟨W4.heap.size, 0, none⟩) 1
      (ks.flatMap nc) (nc ⟨nX, nY, nL, nro, nrn, nrc, nko, nkn, nkc⟩) (own_same HJ.out.own fun b _ hb => (hb5.block b (by have := b4.size; omega)).trans (b4.block b hb)) (by have := HJ.out.bel.size; have := b4.size; simp; omega) (one_node (heap_alloc_new W4 _)) (nc_one' _) (by have := HJ.out.len; omega)
     have HN : Hid (KJ d l W3 (j + 1) (ks ++ [⟨nX, nY, nL, nro, nrn, nrc, nko, nkn, nkc⟩]) v' W') := HJ.out.step HNP.out b4 n4 hb5 a1 a2 a3
     clear n4 b4 hb5 a1 a2 a3 hkl
     go_wp2_with (refine list_append rfl 43 43 (.tmp 34) (.tmp 37) rfl rfl rfl hrun ?_)
     go_roundw
     case rel => exact ⟨j + 1, by omega, by go_num, _, HN.out⟩
     case measure => simp [natOf]; omega
   ·obtain rfl : j = 4 := by omega
    have q3 : ¬ ((4 : Nat) : Int) < 4 := by omega
    obtain ⟨ko, kc, rfl, sk⟩ := sl_of_own HJ.out.own
    obtain ⟨kn, hkn⟩ : ∃ kn, ks.length = kn := ⟨_, rfl⟩
    have HKN : Hid (ks.length = kn) := hkn
    have hg2 : wr.heap[w.heap.size]? = some (.cells #[.int .u32 0, .int .u32 0, .int .i64 0, .slice none 0 0, .slice none 0 0] 45 (0, 0)) := (HJ.out.bel.block _ (by have := HB3.out.size; have := HG2s.out; omega)).trans ((HB3.out.block _ HG2s.out).trans HG2.out)
    have hg3 : wr.heap[g3]? = some (.cells #[.int .u32 (X : Int), .int .u32 (Y : Int), .int .i64 L] 42 (0, 0)) := (HJ.out.bel.block _ (by have := HB3.out.size; have := HG3s.out; omega)).trans ((HB3.out.block _ HG3s.out).trans HG3.out)
    obtain ⟨z0, z1, z2, z3, z4, f0, f1, f2, f3, f4⟩ := node_facts hg2
    obtain ⟨t0, t1, t2⟩ := Cel.cells hg3
    obtain ⟨p1, p2, p3⟩ := put_node hg2 (.int .u32 (X : Int)) (.int .u32 (Y : Int)) (.int .i64 L) (.slice none 0 0) (.slice ko kn kc)
    have HP1 : Hid _ := p1
    have HP3 : Hid (Below w.heap.size w _) := HB2.out.trans (((HB3.out.trans (HJ.out.bel.mono HB3.out.size)).mono (Nat.le_of_lt HG2s.out)).trans p3)
    have HN : Hid (NodeAt (fun b => w.heap.size ≤ b) (d + 1) (((((wr.setCell ⟨w.heap.size, 0, none⟩ (.int .u32 (X : Int))).setCell ⟨w.heap.size, 1, none⟩ (.int .u32 (Y : Int))).setCell ⟨w.heap.size, 2, none⟩ (.int .i64 L)).setCell ⟨w.heap.size, 3, none⟩ (.slice none 0 0)).setCell ⟨w.heap.size, 4, none⟩ (.slice ko kn kc)) ⟨X, Y, lev l, none, 0, 0, ko, kn, kc⟩ l) := by
     refine (?_ : NodeAt (fun b => w.heap.size ≤ b) (d + 1) _ _ l)
     have hlt3 : w.heap.size < W3.heap.size := by have := HB3.out.size; have := HG2s.out; omega
     have hkl := kl_four l
     refine ⟨HX.out.symm, HY.out.symm, rfl, (fun h => by rw [HLf.out] at h; cases h), fun _ => ⟨rfl, Sl.nil 4 _, ks, hkn.symm, ?_, ?_, fun _ b off e => ?_, fun i h1 h2 => ?_⟩⟩
     ·rw [← hkl]; exact HJ.out.len
     ·refine Sl.same sk (by simp [World.setCell]) fun b off e _ => p2 b ?_
      have e' : ko = some ⟨b, off, none⟩ := e
      have hh : W3.heap.size ≤ b := (own_base HJ.out.own (by rw [e']; rfl)).1
      omega
     ·have e' : ko = some ⟨b, off, none⟩ := e
      have hh : W3.heap.size ≤ b := (own_base HJ.out.own (by rw [e']; rfl)).1
      show w.heap.size ≤ b
      omega
     ·have a := HJ.out.nodes i h1 h2
      exact (a.same (by simp [World.setCell]) fun b hG _ => p2 b (by have := hG.1; omega)).mono fun b _ hG => by have := hG.1; show w.heap.size ≤ b; omega
    rw [hkn]
    clear p1 p2 p3 hg2 hg3 sk hkn
    go_wp2_with fail
    refine bodyPost_ret (results_node rfl _ _ _ _ _ _ _ _ rfl HP1.out) rfl ⟨⟨X, Y, lev l, none, 0, 0, ko, kn, kc⟩, ?_, HN.out, HP3.out⟩
    rw [← HL.out]
set_option maxRecDepth 100000 in
theorem tree_any : ∀ (d : Nat) (l : List Rw) (o : Option Addr) (cap : Nat) (w : World), RowsAt w o cap l → On l → l.length ≤ 1000 → lev l < d →
  Calls Try.prog 33 #[.slice o l.length cap] w fun e w' => ∃ n : Nv, e = .returned (nv n) ∧ NodeAt (fun b => w.heap.size ≤ b) d w' n l ∧ Below w.heap.size w w'
 | 0, _, _, _, _, _, _, _, h => absurd h (by omega)
 | d + 1, l, o, cap, w, hr, hon, hmax, hd => by
  by_cases hne : l.length = 0
  ·have : l = [] := List.eq_nil_of_length_eq_zero hne
   subst this
   exact tree_nil d o cap w
  ·cases hlf : leaf l
   ·exact tree_inner d (tree_any d) l o cap w hr hon hmax hlf hd
   ·exact tree_leaf d l o cap w hr hon hmax (by omega) hlf
set_option maxRecDepth 100000 in
theorem results_nodeE {fn : Func} {p u : Tmp} (h : fn.results = #[.cell p 45, .tmp u]) (tmps : Array Value) (w : World) (g : Nat) (a b c d e x : Value) {t : TypeId}
  (hp : tmps.getD p undef = .pointer (some ⟨g, 0, none⟩)) (hu : tmps.getD u undef = x) (hg : w.heap[g]? = some (.cells #[a, b, c, d, e] t (0, 0))) : (results fn tmps).run Try.prog w = .ok (.tuple #[.agg #[a, b, c, d, e], x]) w := by
 have hp' : tmps[p]?.getD undef = .pointer (some ⟨g, 0, none⟩) := by simpa using hp
 have hu' : tmps[u]?.getD undef = x := by simpa using hu
 have c0 : w.cell? ⟨g, 0, none⟩ = some a := by rw [cell_of_row _ _ _ _ _ _ hg]; rfl
 have c1 : w.cell? ⟨g, 1, none⟩ = some b := by rw [cell_of_row _ _ _ _ _ _ hg]; rfl
 have c2 : w.cell? ⟨g, 2, none⟩ = some c := by rw [cell_of_row _ _ _ _ _ _ hg]; rfl
 have c3 : w.cell? ⟨g, 3, none⟩ = some d := by rw [cell_of_row _ _ _ _ _ _ hg]; rfl
 have c4 : w.cell? ⟨g, 4, none⟩ = some e := by rw [cell_of_row _ _ _ _ _ _ hg]; rfl
 simp [results, h, hp', hu', asAddr, go_sem, c0, c1, c2, c3, c4]
set_option maxRecDepth 100000 in
set_option maxHeartbeats 1000000 in
theorem build_no (l : List Rw) (o : Option Addr) (cap : Nat) (w : World) (hr : RowsAt w o cap l) (h : rightL l = false) :
  Calls Try.prog 19 #[.slice o l.length cap] w fun e w' => e = .returned (.tuple #[nv ⟨0, 0, 0, none, 0, 0, none, 0, 0⟩, .int .i64 80]) ∧ Below w.heap.size w w' := by
 have hbn := below_new w (.cells #[.int .u32 0, .int .u32 0, .int .i64 0, .slice none 0 0, .slice none 0 0] 45)
 have HC : Hid _ := qright_any l o cap _ (hr.below hbn (Nat.le_refl _))
 rw [h] at HC
 have HBn : Hid _ := hbn
 have HG : Hid _ := heap_alloc_new w (.cells #[.int .u32 0, .int .u32 0, .int .i64 0, .slice none 0 0, .slice none 0 0] 45)
 clear hr h hbn
 go_enter Try.func19, Try.ntmps19
 go_wp2_with fail
 refine Calls.mono HC.out ?_
 rintro e W1 ⟨rfl, b1⟩
 have hg : W1.heap[w.heap.size]? = some (.cells #[.int .u32 0, .int .u32 0, .int .i64 0, .slice none 0 0, .slice none 0 0] 45 (0, 0)) := (b1.block _ (by simp)).trans HG.out
 have HB1 : Hid (Below w.heap.size w W1) := HBn.out.trans (b1.mono (by simp))
 obtain ⟨z0, z1, z2, z3, z4, f0, f1, f2, f3, f4⟩ := node_facts hg
 obtain ⟨p1, _, p3⟩ := put_node hg (.int .u32 0) (.int .u32 0) (.int .i64 0) (.slice none 0 0) (.slice none 0 0)
 have HP1 : Hid _ := p1
 have HP3 : Hid _ := HB1.out.trans p3
 clear p1 p3 b1 HC hg
 go_wp2_with fail
 refine bodyPost_ret (results_nodeE rfl _ _ _ _ _ _ _ _ _ rfl rfl HP1.out) rfl ⟨rfl, HP3.out⟩
set_option maxRecDepth 100000 in
set_option maxHeartbeats 1000000 in
theorem build_ok (l : List Rw) (o : Option Addr) (cap : Nat) (w : World) (hr : RowsAt w o cap l) (h : rightL l = true) :
  Calls Try.prog 19 #[.slice o l.length cap] w fun e w' => ∃ n : Nv, e = .returned (.tuple #[nv n, .int .i64 0]) ∧ NodeAt (fun b => w.heap.size ≤ b) 32 w' n l ∧ Below w.heap.size w w' := by
 have hbn := below_new w (.cells #[.int .u32 0, .int .u32 0, .int .i64 0, .slice none 0 0, .slice none 0 0] 45)
 have HC : Hid _ := qright_any l o cap _ (hr.below hbn (Nat.le_refl _))
 have HT : Hid (∀ W, RowsAt W o cap l → _) := fun W hW => tree_any 32 l o cap W hW (right_on h) ((rightL_iff l).1 h).1 (by have := lev_le (right_on h); omega)
 rw [h] at HC
 have HBn : Hid _ := hbn
 have HR : Hid _ := hr
 have HG : Hid _ := heap_alloc_new w (.cells #[.int .u32 0, .int .u32 0, .int .i64 0, .slice none 0 0, .slice none 0 0] 45)
 clear hr h hbn
 go_enter Try.func19, Try.ntmps19
 go_wp2_with fail
 refine Calls.mono HC.out ?_
 rintro e W1 ⟨rfl, b1⟩
 have HB1 : Hid (Below w.heap.size w W1) := HBn.out.trans (b1.mono (by simp))
 have HG1 : Hid (W1.heap[w.heap.size]? = some (.cells #[.int .u32 0, .int .u32 0, .int .i64 0, .slice none 0 0, .slice none 0 0] 45 (0, 0))) := (b1.block _ (by simp)).trans HG.out
 have HS1 : Hid (w.heap.size < W1.heap.size) := (Array.getElem?_eq_some_iff.1 HG1.out).1
 clear b1 HC
 go_wp2_with fail
 refine Calls.mono (HT.out W1 (HR.out.below HB1.out (Nat.le_refl _))) ?_
 rintro e W2 ⟨⟨nX, nY, nL, nro, nrn, nrc, nko, nkn, nkc⟩, rfl, n1, b2⟩
 have hg : W2.heap[w.heap.size]? = some (.cells #[.int .u32 0, .int .u32 0, .int .i64 0, .slice none 0 0, .slice none 0 0] 45 (0, 0)) := (b2.block _ HS1.out).trans HG1.out
 obtain ⟨z0, z1, z2, z3, z4, f0, f1, f2, f3, f4⟩ := node_facts hg
 obtain ⟨p1, p2, p3⟩ := put_node hg (.int .u32 (nX : Int)) (.int .u32 (nY : Int)) (.int .i64 (nL : Int)) (.slice nro nrn nrc) (.slice nko nkn nkc)
 have HP1 : Hid _ := p1
 have HP3 : Hid (Below w.heap.size w _) := (HB1.out.trans (b2.mono (Nat.le_of_lt HS1.out))).trans p3
 have HN : Hid _ := (n1.same (by simp [World.setCell]) (fun b hG _ => p2 b (by have := HS1.out; omega))).mono fun b _ hG => (by have := HS1.out; omega : w.heap.size ≤ b)
 clear p1 p2 p3 b2 hg n1
 go_wp2_with fail
 refine bodyPost_ret (results_nodeE rfl _ _ _ _ _ _ _ _ _ rfl rfl HP1.out) rfl ⟨⟨nX, nY, nL, nro, nrn, nrc, nko, nkn, nkc⟩, rfl, HN.out, HP3.out⟩
set_option maxRecDepth 100000 in
theorem list_min {P : Program} {ops : Array Oper} {rest : List Oper} {o : Oper} {a : Act} {w : World} {Q : Exit → Act → World → Prop} (hgd : o.guard = none) (t u : TypeId) (x y : Operand) (ho : o.op = .call { callee := .builtin .min, args := #[x, y], argTypes := #[t, u] })
  {p q r : Int} (hx : a.eval x = .int .i64 p) (hy : a.eval y = .int .i64 q) (hr : (if q < p then q else p) = r) (h : wpList P ops Q rest (a.put o.dst (.int .i64 r)) w) : wpList P ops Q (o :: rest) a w :=
 wpList_plain hgd fun _ hK => by
  have hrun : (Builtin.min_ #[t, u] o.type #[.int .i64 p, .int .i64 q]).run P w = .ok (.int .i64 r) w := by subst hr; rfl
  unfold Oper.wp execOp
  simp only [ho, resolve, invoke, builtin, Sem.run_bind, Sem.run_pure, Result.andThen_ok, List.map_toArray, List.map_cons, List.map_nil, hx, hy, hrun]
  exact hK _ _ h
set_option maxRecDepth 100000 in
theorem run_head (o : Option Addr) (n cap r : Nat) (w : World) (hr : r ≤ cap) (ho : o = none → cap = 0) : (Instr.sliceAt 32 (.slice o n cap) none (some (.int .i64 (r : Int))) none).run Try.prog w = .ok (.slice o r cap) w := by
 have h1 : (r : Int) ≤ (cap : Int) := by omega
 cases o with
 | none =>
  have := ho rfl
  subst this
  obtain rfl : r = 0 := by omega
  simp [Instr.sliceAt, Instr.slice, run_underlying Try.underlying32, go_sem]
 | some a =>
  simp [Instr.sliceAt, Instr.slice, run_underlying Try.underlying32, go_sem]
  intro h
  omega
set_option maxRecDepth 100000 in
theorem RowsAt.head {w : World} {o : Option Addr} {cap : Nat} {l : List Rw} (h : RowsAt w o cap l) (n : Nat) : RowsAt w o cap (l.take n) := by
 have hle : (l.take n).length ≤ l.length := by rw [List.length_take]; omega
 refine ⟨Nat.le_trans hle h.1, h.2.1, h.2.2.1, flat_len rc 4 (fun _ => rfl) _, fun hn => ?_⟩
 obtain ⟨b, off, e, hlt, hc⟩ := h.2.2.2.2 (by omega)
 refine ⟨b, off, e, hlt, fun j u hu => hc j u ?_⟩
 have : l.flatMap rc = (l.take n).flatMap rc ++ (l.drop n).flatMap rc := by rw [← List.flatMap_append, List.take_append_drop]
 rw [this, List.getElem?_append_left (List.getElem?_eq_some_iff.1 hu).1]
 exact hu
theorem flr_div (a : Nat) {k n : Nat} (h : k ≤ n) : flr a k / 2 ^ n = a / 2 ^ n := by
 obtain ⟨m, rfl⟩ := Nat.le.dest h
 unfold flr
 rw [Nat.pow_add, ← Nat.div_div_eq_div_mul, Nat.mul_div_cancel _ (Nat.two_pow_pos k), Nat.div_div_eq_div_mul]
theorem flr_flr (a : Nat) {k n : Nat} (h : k ≤ n) : flr (flr a k) n = flr a n := by
 unfold flr
 have := flr_div a h
 unfold flr at this
 rw [this]
def qs (l : List Rw) : List Nat := [0, 1, 2, 3].filter fun q => !(part l q).isEmpty
theorem kids_qs (l : List Rw) : kidsL l = (qs l).map (part l) := by
 unfold kidsL qs
 rw [List.filter_map]
 rfl
theorem qs_lt {l : List Rw} {q : Nat} (h : q ∈ qs l) : q < 4 ∧ part l q ≠ [] := by
 unfold qs at h
 rw [List.mem_filter] at h
 refine ⟨?_, fun e => by rw [e] at h; simp at h⟩
 have := h.1
 simp at this
 omega
theorem qs_rise (l : List Rw) : (qs l).Pairwise (· < ·) := List.Pairwise.filter _ (by decide)
theorem qs_len (l : List Rw) : (qs l).length = (kidsL l).length := by rw [kids_qs]; simp
def qat (l : List Rw) (i : Nat) : Nat := (qs l).getD i 0
theorem kid_part {l : List Rw} {i : Nat} (h : i < (kidsL l).length) : (kidsL l)[i] = part l (qat l i) ∧ qat l i < 4 ∧ part l (qat l i) ≠ [] := by
 have hq : i < (qs l).length := by rw [qs_len]; exact h
 have e : qat l i = (qs l)[i] := by unfold qat; rw [List.getD_eq_getElem?_getD, List.getElem?_eq_getElem hq]; rfl
 have m : qat l i ∈ qs l := by rw [e]; exact List.getElem_mem hq
 refine ⟨?_, (qs_lt m).1, (qs_lt m).2⟩
 have : (kidsL l)[i] = ((qs l).map (part l))[i]'(by simpa using hq) := by congr 1; exact kids_qs l
 rw [this, List.getElem_map, e]
theorem qat_rise {l : List Rw} {i j : Nat} (hij : i < j) (h : j < (kidsL l).length) : qat l i < qat l j := by
 have hq : j < (qs l).length := by rw [qs_len]; exact h
 have ei : qat l i = (qs l)[i] := by unfold qat; rw [List.getD_eq_getElem?_getD, List.getElem?_eq_getElem (by omega)]; rfl
 have ej : qat l j = (qs l)[j] := by unfold qat; rw [List.getD_eq_getElem?_getD, List.getElem?_eq_getElem hq]; rfl
 rw [ei, ej]
 exact (List.pairwise_iff_getElem.1 (qs_rise l)) i j (by omega) hq hij
theorem kid_has {l : List Rw} (h : On l) {n : Nat} (hn : lev l = n + 1) {q : Nat} (hp : part l q ≠ []) :
  hasS (cx l) (cy l) (lev l : Int) (cx (part l q)) (cy (part l q)) = true ∧ wq n (cx (part l q)) (cy (part l q)) = q := by
 obtain ⟨r, hr, e1, e2⟩ := x0_mem hp
 have hk := lev_part h hn q
 have hm := mem_part.1 hr
 have hh := lev_has h hm.1
 have f1 : cx (part l q) = flr r.x (lev (part l q)) := by unfold cx; rw [e1]
 have f2 : cy (part l q) = flr r.y (lev (part l q)) := by unfold cy; rw [e2]
 constructor
 ·unfold hasS at hh ⊢
  rw [decide_eq_true_iff, Int.toNat_natCast] at hh
  rw [decide_eq_true_iff, Int.toNat_natCast, f1, f2, flr_flr _ (by omega), flr_flr _ (by omega)]
  exact hh
 ·have := hm.2
  rw [hn, Nat.add_sub_cancel] at this
  unfold wq at this ⊢
  rw [f1, f2, flr_div _ hk, flr_div _ hk]
  exact this
theorem kid_wher {l : List Rw} (h : On l) {n : Nat} (hn : lev l = n + 1) {q : Nat} (hp : part l q ≠ []) : wher (cx l) (cy l) (lev l : Int) (cx (part l q)) (cy (part l q)) = (q, 0) := by
 obtain ⟨a, b⟩ := kid_has h hn hp
 unfold wher
 rw [if_pos ⟨a, by omega⟩, hn, show (((n + 1 : Nat) : Int) - 1).toNat = n by omega, b]
def F5 (g : Nat) (a b c d e : Value) (w : World) : Prop := w.cell? ⟨g, 0, none⟩ = some a ∧ w.cell? ⟨g, 1, none⟩ = some b ∧ w.cell? ⟨g, 2, none⟩ = some c ∧ w.cell? ⟨g, 3, none⟩ = some d ∧ w.cell? ⟨g, 4, none⟩ = some e
theorem F5.of {g : Nat} {a b c d e : Value} {w : World} {t : TypeId} (h : w.heap[g]? = some (.cells #[a, b, c, d, e] t (0, 0))) : F5 g a b c d e w := (node_facts h).2.2.2.2.2
theorem F5.same {g : Nat} {a b c d e : Value} {w w' : World} (h : F5 g a b c d e w) (f : w'.heap[g]? = w.heap[g]?) : F5 g a b c d e w' :=
 ⟨(World.cell?_of_block (a := ⟨g, 0, none⟩) f).trans h.1, (World.cell?_of_block (a := ⟨g, 1, none⟩) f).trans h.2.1, (World.cell?_of_block (a := ⟨g, 2, none⟩) f).trans h.2.2.1, (World.cell?_of_block (a := ⟨g, 3, none⟩) f).trans h.2.2.2.1, (World.cell?_of_block (a := ⟨g, 4, none⟩) f).trans h.2.2.2.2⟩
set_option maxRecDepth 100000 in
theorem eql_self (a b c : Int) (s : ByteArray) (w : World) : (binOp .eql 54 (.agg #[.int .u64 a, .int .u32 b, .int .u32 c, .string s]) (.agg #[.int .u64 a, .int .u32 b, .int .u32 c, .string s])).run Try.prog w = .ok (.bool true) w := by
 have hS : Try.prog.underlying 54 = some (.struct (Try.prog.fieldsOf 54)) := by kernel_rfl
 have hp : Try.prog.stoodInHeld 54 = false := by kernel_rfl
 have u1 := Try.underlying25
 have u2 := Try.underlying22
 have u9 := Try.underlying9
 rw [run_eql_struct, show (10000 : Nat) = 9999 + 1 from rfl, run_equalIn_agg w 9999 54 _ _ hS hp]
 simp only [Program.fieldsOf, Try.underlying54]
 go_simp
set_option maxRecDepth 100000 in
theorem neq_self (a b c : Int) (s : ByteArray) (w : World) : (binOp .neq 54 (.agg #[.int .u64 a, .int .u32 b, .int .u32 c, .string s]) (.agg #[.int .u64 a, .int .u32 b, .int .u32 c, .string s])).run Try.prog w = .ok (.bool false) w := by
 have h := eql_self a b c s w
 rw [run_eql_struct] at h
 rw [run_neq_struct]
 cases e : (Op.equalIn 10000 54 (.agg #[.int .u64 a, .int .u32 b, .int .u32 c, .string s]) (.agg #[.int .u64 a, .int .u32 b, .int .u32 c, .string s])).run Try.prog w with
 | ok b w' => rw [e] at h; simp [Result.andThen] at h ⊢; simp [h]
 | _ => rw [e] at h; simp [Result.andThen] at h
def F8 (b x p y : Nat) (r : Rw) (w : World) : Prop := Fr w b x r ∧ Fr w p y r
set_option maxRecDepth 100000 in
set_option maxHeartbeats 2000000 in
theorem same_any (l : List Rw) (o : Option Addr) (cap : Nat) (o2 : Option Addr) (cap2 : Nat) (w : World) (hr : RowsAt w o cap l) (hr2 : RowsAt w o2 cap2 l) :
  Calls Try.prog 16 #[.slice o l.length cap, .slice o2 l.length cap2] w fun e w' => e = .returned (.bool true) ∧ Below w.heap.size w w' := by
 have q0 : ¬ (l.length : Int) ≠ (l.length : Int) := by omega
 have hmx : l.length ≤ maxLen := Nat.le_trans hr.1 hr.2.1
 go_enter Try.func16, Try.ntmps16
 go_wp2_with fail
 go_loopw [5] (fun i wr => ∃ k : Nat, k ≤ l.length ∧ i = .int .i64 (k : Int) ∧ Below w.heap.size w wr) (fun i _ => l.length - natOf i)
 case atStart => exact ⟨0, by omega, rfl, Below.refl _ _⟩
 case round =>
  obtain ⟨k, hk, rfl, hb⟩ := hrel
  by_cases hlt : k < l.length
  ·obtain ⟨b, off, rfl, hbl, hc⟩ := (hr.below hb (Nat.le_refl _)).row hlt
   obtain ⟨b2, off2, rfl, hbl2, hc2⟩ := (hr2.below hb (Nat.le_refl _)).row hlt
   have q1 : (k : Int) < (l.length : Int) := by omega
   have k0 : (0 : Int) ≤ (k : Int) := by omega
   have k1 : (k : Int) + 1 ≤ 9223372036854775807 := by simp only [maxLen] at hmx; omega
   have HSW : Hid (F8 b (off + k * 4) b2 (off2 + k * 4) (rat l k) wr.drew) := ⟨hc k hlt, hc2 k hlt⟩
   generalize rat l k = r at *
   obtain ⟨id, x, y, v⟩ := r
   have hnq := neq_self (id : Int) (x : Int) (y : Int) v
   have HB : Hid (Below w.heap.size w wr.drew) := hb.drew
   clear hc hc2 hb
   go_wp2_with fail
   refine wp_region_held (S := F8 b (off + k * 4) b2 (off2 + k * 4) ⟨id, x, y, v⟩) (by kernel_rfl) ?_
   change wpAnyH _ _ _ _ _ _ _ _ (World.drew _)
   refine wpAnyH_take (i := 0) (v := ?_) rfl (by kernel_rfl) (by kernel_rfl) (by kernel_rfl) (fun _ _ _ h => h) (Or.inl ⟨by kernel_rfl, ?_⟩) HSW.out ?_
   rotate_left
   ·rintro w ⟨⟨e1,e2,e3,e4⟩,e5,e6,e7,e8⟩; go_simp; try with_reducible rfl
   conv in (Act.put _ _ _) => simp only [List.getElem_toArray, List.getElem_cons_succ, List.getElem_cons_zero, Act.put, List.setIfInBounds_toArray, List.set_cons_succ, List.set_cons_zero]
   refine wpAnyH_take (i := 1) (v := ?_) rfl (by kernel_rfl) (by kernel_rfl) (by kernel_rfl) (fun _ _ _ h => h) (Or.inl ⟨by kernel_rfl, ?_⟩) HSW.out ?_
   rotate_left
   ·rintro w ⟨⟨e1,e2,e3,e4⟩,e5,e6,e7,e8⟩; go_simp; try with_reducible rfl
   conv in (Act.put _ _ _) => simp only [List.getElem_toArray, List.getElem_cons_succ, List.getElem_cons_zero, Act.put, List.setIfInBounds_toArray, List.set_cons_succ, List.set_cons_zero]
   refine wpAnyH_take (i := 2) (v := ?_) rfl (by kernel_rfl) (by kernel_rfl) (by kernel_rfl) (fun _ _ _ h => h) (Or.inl ⟨by kernel_rfl, ?_⟩) HSW.out ?_
   rotate_left
   ·rintro w ⟨⟨e1,e2,e3,e4⟩,e5,e6,e7,e8⟩; go_simp; try with_reducible rfl
   conv in (Act.put _ _ _) => simp only [List.getElem_toArray, List.getElem_cons_succ, List.getElem_cons_zero, Act.put, List.setIfInBounds_toArray, List.set_cons_succ, List.set_cons_zero]
   refine wpAnyH_take (i := 3) (v := ?_) rfl (by kernel_rfl) (by kernel_rfl) (by kernel_rfl) (fun _ _ _ h => h) (Or.inl ⟨by kernel_rfl, ?_⟩) HSW.out ?_
   rotate_left
   ·rintro w ⟨⟨e1,e2,e3,e4⟩,e5,e6,e7,e8⟩; go_simp; try with_reducible rfl
   conv in (Act.put _ _ _) => simp only [List.getElem_toArray, List.getElem_cons_succ, List.getElem_cons_zero, Act.put, List.setIfInBounds_toArray, List.set_cons_succ, List.set_cons_zero]
   refine wpAnyH_take (i := 4) (v := ?_) rfl (by kernel_rfl) (by kernel_rfl) (by kernel_rfl) (fun _ _ _ h => h) (Or.inl ⟨by kernel_rfl, ?_⟩) HSW.out ?_
   rotate_left
   ·rintro w ⟨⟨e1,e2,e3,e4⟩,e5,e6,e7,e8⟩; go_simp; try with_reducible rfl
   conv in (Act.put _ _ _) => simp only [List.getElem_toArray, List.getElem_cons_succ, List.getElem_cons_zero, Act.put, List.setIfInBounds_toArray, List.set_cons_succ, List.set_cons_zero]
   refine wpAnyH_take (i := 5) (v := ?_) rfl (by kernel_rfl) (by kernel_rfl) (by kernel_rfl) (fun _ _ _ h => h) (Or.inl ⟨by kernel_rfl, ?_⟩) HSW.out ?_
   rotate_left
   ·rintro w ⟨⟨e1,e2,e3,e4⟩,e5,e6,e7,e8⟩; go_simp; try with_reducible rfl
   conv in (Act.put _ _ _) => simp only [List.getElem_toArray, List.getElem_cons_succ, List.getElem_cons_zero, Act.put, List.setIfInBounds_toArray, List.set_cons_succ, List.set_cons_zero]
   refine wpAnyH_take (i := 6) (v := ?_) rfl (by kernel_rfl) (by kernel_rfl) (by kernel_rfl) (fun _ _ _ h => h) (Or.inl ⟨by kernel_rfl, ?_⟩) HSW.out ?_
   rotate_left
   ·rintro w ⟨⟨e1,e2,e3,e4⟩,e5,e6,e7,e8⟩; go_simp; try with_reducible rfl
   conv in (Act.put _ _ _) => simp only [List.getElem_toArray, List.getElem_cons_succ, List.getElem_cons_zero, Act.put, List.setIfInBounds_toArray, List.set_cons_succ, List.set_cons_zero]
   refine wpAnyH_take (i := 7) (v := ?_) rfl (by kernel_rfl) (by kernel_rfl) (by kernel_rfl) (fun _ _ _ h => h) (Or.inl ⟨by kernel_rfl, ?_⟩) HSW.out ?_
   rotate_left
   ·rintro w ⟨⟨e1,e2,e3,e4⟩,e5,e6,e7,e8⟩; go_simp; try with_reducible rfl
   conv in (Act.put _ _ _) => simp only [List.getElem_toArray, List.getElem_cons_succ, List.getElem_cons_zero, Act.put, List.setIfInBounds_toArray, List.set_cons_succ, List.set_cons_zero]
   refine wpAnyH_take (i := 8) (v := ?_) rfl (by kernel_rfl) (by kernel_rfl) (by kernel_rfl) (fun _ _ _ h => h) (Or.inl ⟨by kernel_rfl, ?_⟩) HSW.out ?_
   rotate_left
   ·rintro w ⟨⟨e1,e2,e3,e4⟩,e5,e6,e7,e8⟩; go_simp; try with_reducible rfl
   conv in (Act.put _ _ _) => simp only [List.getElem_toArray, List.getElem_cons_succ, List.getElem_cons_zero, Act.put, List.setIfInBounds_toArray, List.set_cons_succ, List.set_cons_zero]
   refine wpAnyH_done (by kernel_rfl) ?_ _
   go_wp2_with fail
   go_roundw
   case rel => exact ⟨k + 1, by omega, by go_num, HB.out⟩
   case measure => simp [natOf]; omega
  ·obtain rfl : k = l.length := by omega
   have q1 : ¬ (l.length : Int) < (l.length : Int) := by omega
   have HB : Hid (Below w.heap.size w wr) := hb
   clear hb
   go_wp2_with fail
   go_ret
   exact ⟨rfl, HB.out⟩
open Go.RowKit
structure But (S : Nat → Prop) (w w' : World) : Prop where
 os : w'.os = w.os
 tape : w'.tape = w.tape
 output : w'.output = w.output
 size : w.heap.size ≤ w'.heap.size
 block : ∀ k, k < w.heap.size → ¬ S k → w'.heap[k]? = w.heap[k]?
theorem But.refl (S : Nat → Prop) (w : World) : But S w w := ⟨rfl, rfl, rfl, Nat.le_refl _, fun _ _ _ => rfl⟩
theorem But.trans {S : Nat → Prop} {a b c : World} (h : But S a b) (k : But S b c) : But S a c :=
 ⟨k.os.trans h.os, k.tape.trans h.tape, k.output.trans h.output, Nat.le_trans h.size k.size, fun i hi hs => (k.block i (Nat.lt_of_lt_of_le hi h.size) hs).trans (h.block i hi hs)⟩
theorem But.of_below {S : Nat → Prop} {w w' : World} (h : Below w.heap.size w w') : But S w w' := ⟨h.os, h.tape, h.output, h.size, fun k hk _ => h.block k hk⟩
theorem But.more {S S' : Nat → Prop} {w w' : World} (h : But S w w') (hs : ∀ k, k < w.heap.size → S k → S' k) : But S' w w' := ⟨h.os, h.tape, h.output, h.size, fun k hk hn => h.block k hk fun e => hn (hs k hk e)⟩
theorem But.below {S : Nat → Prop} {w w' : World} {B : Nat} (h : But S w w') (hs : ∀ k, S k → B ≤ k) (hB : B ≤ w.heap.size) : Below B w w' :=
 ⟨h.os, h.tape, h.output, h.size, fun k hk => h.block k (by omega) fun e => by have := hs k e; omega⟩
theorem But.put {S : Nat → Prop} (w : World) (l : Nat) (o : Obj) (hl : S l) : But S w (w.putObj l o) :=
 ⟨rfl, rfl, rfl, by simp [World.putObj], fun k _ hn => World.putObj_heap_other fun e => hn (by rw [e]; exact hl)⟩
structure Kw (B : Nat) (own : Nat → Prop) (w w' : World) : Prop where
 os : w'.os = w.os
 tape : w'.tape = w.tape
 output : w'.output = w.output
 size : w.heap.size ≤ w'.heap.size
 block : ∀ k, k < w.heap.size → (k < B ∨ own k) → w'.heap[k]? = w.heap[k]?
theorem Kw.of_below {B : Nat} {own : Nat → Prop} {w w' : World} (h : Below w.heap.size w w') : Kw B own w w' := ⟨h.os, h.tape, h.output, h.size, fun k hk _ => h.block k hk⟩
theorem Kw.trans {B : Nat} {own : Nat → Prop} {a b c : World} (h : Kw B own a b) (k : Kw B own b c) : Kw B own a c :=
 ⟨k.os.trans h.os, k.tape.trans h.tape, k.output.trans h.output, Nat.le_trans h.size k.size, fun i hi hs => (k.block i (Nat.lt_of_lt_of_le hi h.size) hs).trans (h.block i hi hs)⟩
theorem Kw.put {B : Nat} {own : Nat → Prop} (w : World) (l : Nat) (o : Obj) (h1 : B ≤ l) (h2 : ¬ own l) : Kw B own w (w.putObj l o) :=
 ⟨rfl, rfl, rfl, by simp [World.putObj], fun k _ hn => World.putObj_heap_other fun e => by
  rcases hn with hn | hn
  ·omega
  ·exact h2 (by rw [← e]; exact hn)⟩
theorem Kw.less {B B' : Nat} {own own' : Nat → Prop} {w w' : World} (h : Kw B own w w') (hB : B' ≤ B) (ho : ∀ k, own' k → own k ∨ k < B) : Kw B' own' w w' :=
 ⟨h.os, h.tape, h.output, h.size, fun k hk hn => h.block k hk (by
  rcases hn with hn | hn
  ·exact .inl (by omega)
  ·rcases ho k hn with a | a
   ·exact .inr a
   ·exact .inl a)⟩
theorem yield_wide {P : Program} {n m l : Nat} {args : Array Value} {W : World} {R : Ending → World → Prop} (h : YieldAt Fence.wide n P l args W R) : YieldAt Fence.wide m P l args W R := by
 obtain ⟨fn, tmps, assign, body, h1, h2⟩ := h
 exact ⟨fn, tmps, assign, body, h1, h2.1, fun c cs _ => h2.2 c cs (room_wide _)⟩
def YPost {ι : Type} (R : (Nat → Prop) → ι → World → Prop) (Rx : (Nat → Prop) → World → Prop) (own : Nat → Prop) (i : ι) (W : World) (e : Ending) (W' : World) : Prop :=
 ∃ own', (∀ j, own' j → own j ∨ (W.heap.size ≤ j ∧ j < W'.heap.size)) ∧ But own W W' ∧ ((e = .returned (.bool true) ∧ R own' i W') ∨ (e = .returned (.bool false) ∧ Rx own' W'))
def lPost9 (J : (Nat → Prop) → World → Prop) (Jx : (Nat → Prop) → World → Prop) (jump : Code) (own : Nat → Prop) (W : World) : Exit → Act → World → Prop
 | .normal, _, W' => ∃ own', (∀ j, own' j → own j ∨ (W.heap.size ≤ j ∧ j < W'.heap.size)) ∧ But own W W' ∧ J own' W'
 | .exit i, _, W' => jump = .exit i ∧ ∃ own', (∀ j, own' j → own j ∨ (W.heap.size ≤ j ∧ j < W'.heap.size)) ∧ But own W W' ∧ Jx own' W'
 | .ret, _, W' => jump = .ret ∧ ∃ own', (∀ j, own' j → own j ∨ (W.heap.size ≤ j ∧ j < W'.heap.size)) ∧ But own W W' ∧ Jx own' W'
 | _, _, _ => False
set_option maxHeartbeats 1000000 in
theorem range_law9 {n : Nat} {P : Program} {g : Operand} {ps : Array Tmp} {assign body : Code} {Q : Exit → Act → World → Prop} {a : Act} {w : World}
  (h1 : 1 ≤ n) {gf : Nat} {lb : Array Value} (hg : a.eval g = .func (.func gf) #[] lb) (eg : ∀ args w, (callFunc gf args).run P w = .ok (.enter gf args) w)
  {α : Type} (N : Nat) (encs : α → Array Value) (hps : ∀ k, (encs k).size = ps.size) (ok : Nat → α → Prop)
  (J : (Nat → Prop) → Nat → World → Prop) (Jx : (Nat → Prop) → World → Prop) (jump : Code)
  (hJ : ∀ own k W W', J own k W → Kw w.heap.size own W W' → J own k W') (hJx : ∀ own W W', Jx own W → Kw w.heap.size own W W' → Jx own W')
  (own0 : Nat → Prop) (hown0 : ∀ j, own0 j → j < w.heap.size) (h0 : J own0 0 w)
  (A : α → Act → World → Prop) (hA : ∀ x a' W l o', A x a' W → w.heap.size ≤ l → l < w.heap.size + 2 → A x a' (W.putObj l o'))
  (hassign : ∀ (l : Nat) (own : Nat → Prop) (k : Nat) (x : α) (W : World) (K : Act → World → Prop), k < N → ok k x → J own k W → w.heap.size + 2 ≤ W.heap.size → (∀ a' W', Below W.heap.size W W' → A x a' W' → K a' W') →
   assign.wpIn (Fence.wide.inRound l) (n - 1 - 1) P (Exit.then K (fun _ _ _ => False)) { tmps := (ps.zip (encs x)).foldl (fun t (p, v) => t.setIfInBounds p v) a.tmps, defers := [] } W)
  (hbody : ∀ (l : Nat) (own : Nat → Prop) (k : Nat) (x : α) (a' : Act) (W : World), k < N → ok k x → J own k W → A x a' W → w.heap.size + 2 ≤ W.heap.size → (∀ j, own j → j < W.heap.size) → body.wpIn (Fence.wide.inRound l) (n - 1 - 1) P (lPost9 (fun own' W' => J own' (k + 1) W') Jx jump own W) a' W)
  (hiter : ∀ (l : Nat) (W1 : World), l = w.heap.size + 1 → Below w.heap.size w W1 → W1.heap.size = w.heap.size + 2 → ∀ (R : (Nat → Prop) → Nat → World → Prop) (Rx : (Nat → Prop) → World → Prop) (own : Nat → Prop), (∀ j, own j ↔ own0 j ∨ j = l) →
   (∀ own k W W', R own k W → Kw W1.heap.size own W W' → R own k W') → (∀ own W W', Rx own W → Kw W1.heap.size own W W' → Rx own W') →
   (∀ own k x W, k < N → ok k x → R own k W → (∀ j, own j → j < W.heap.size) → YieldAt Fence.wide 0 P l (encs x) W (YPost R Rx own (k + 1) W)) → R own 0 W1 →
   Calls P gf (#[.func (.yield l) #[] #[]] ++ lb) W1 fun e W' => (∃ v, e = .returned v) ∧ ∃ own', (R own' N W' ∨ Rx own' W'))
  (hdone : ∀ (D : Nat) (own : Nat → Prop) (W : World), D = w.heap.size → ¬ own D → J own N W → W.heap[D]? = some (.deferred (some [])) → Q .normal { a with defers := { target := .collected D, args := #[] } :: a.defers } W)
  (hstop : ∀ (D : Nat) (own : Nat → Prop) (W : World), D = w.heap.size → ¬ own D → Jx own W → W.heap[D]? = some (.deferred (some [])) → jump.wpIn Fence.wide n P Q { a with defers := { target := .collected D, args := #[] } :: a.defers } W) :
  (Code.rangeFunc g ps assign body).wpIn Fence.wide n P Q a w := by
 refine wpIn_rangeFunc fun fn hfn => ?_
 rw [show Fence.wide.round = none from rfl]
 obtain ⟨rc', hrc⟩ : ∃ rc' : LoopState → Option Code → Loop, rc' = fun st pe => { state := st, pending := pe, fn, tmps := a.tmps, params := ps, assign, body, defers := w.heap.size } := ⟨_, rfl⟩
 obtain ⟨W1, hW1⟩ : ∃ W1, (w.alloc (.deferred (some []))).alloc (.loop (rc' .ready none)) = W1 := ⟨_, rfl⟩
 have hn2 := two_new w (.deferred (some [])) (.loop (rc' .ready none))
 have hs : W1.heap.size = w.heap.size + 2 := by rw [← hW1]; simp
 rw [hW1] at hn2
 obtain ⟨hD1, hL1, hB1⟩ := hn2
 refine ⟨w.heap.size + 1, [{ target := .collected w.heap.size, args := #[] }], W1, { target := .fn (.func gf) lb, args := #[.func (.yield (w.heap.size + 1)) #[] #[]] }, W1, gf,
  #[.func (.yield (w.heap.size + 1)) #[] #[]] ++ lb, W1, ?_, ?_, ?_, ?_, fun _ => h1, ?_⟩
 ·rw [← hW1, hrc]; exact run_enterLoop_outer _ _ _ _ _
 ·simp only [resolve, hg]
  simp [go_sem]
 ·intro f' hf'
  trivial
 ·simp [invoke, go_sem, eg]
 ·have out : ∀ own : Nat → Prop, (∀ j, own j → j < w.heap.size ∨ w.heap.size + 2 ≤ j) → ¬ own w.heap.size ∧ ¬ own (w.heap.size + 1) := fun own h => ⟨fun e => by have := h _ e; omega, fun e => by have := h _ e; omega⟩
  refine callsIn_wide.2 ((hiter (w.heap.size + 1) W1 rfl hB1 hs
   (fun oy k W => ∃ own, (∀ j, oy j ↔ own j ∨ j = w.heap.size + 1) ∧ (∀ j, own j → j < w.heap.size ∨ w.heap.size + 2 ≤ j) ∧ J own k W ∧ W.heap[w.heap.size + 1]? = some (.loop (rc' .ready none)) ∧ W.heap[w.heap.size]? = some (.deferred (some [])))
   (fun oy W => ∃ own, (∀ j, oy j ↔ own j ∨ j = w.heap.size + 1) ∧ (∀ j, own j → j < w.heap.size ∨ w.heap.size + 2 ≤ j) ∧ Jx own W ∧ W.heap[w.heap.size + 1]? = some (.loop (rc' .done (some jump))) ∧ W.heap[w.heap.size]? = some (.deferred (some [])))
   (fun j => own0 j ∨ j = w.heap.size + 1) (fun j => Iff.rfl)
   (fun oy k W W' h hb => ?_) (fun oy W W' h hb => ?_) ?_ ⟨own0, fun j => Iff.rfl, fun j hj => .inl (hown0 j hj), hJ own0 0 w W1 h0 (Kw.of_below hB1), hL1, hD1⟩).mono ?_)
  ·obtain ⟨own, h1, h2, h3, h4, h5⟩ := h
   have l4 := (Array.getElem?_eq_some_iff.1 h4).1
   exact ⟨own, h1, h2, hJ own k W W' h3 (hb.less (by omega) fun j hj => .inl ((h1 j).2 (.inl hj))), (hb.block _ l4 (.inl (by omega))).trans h4, (hb.block _ (by omega) (.inl (by omega))).trans h5⟩
  ·obtain ⟨own, h1, h2, h3, h4, h5⟩ := h
   have l4 := (Array.getElem?_eq_some_iff.1 h4).1
   exact ⟨own, h1, h2, hJx own W W' h3 (hb.less (by omega) fun j hj => .inl ((h1 j).2 (.inl hj))), (hb.block _ l4 (.inl (by omega))).trans h4, (hb.block _ (by omega) (.inl (by omega))).trans h5⟩
  ·rintro oy k x Wb hkN hok ⟨own, g1, g2, hj, hl, hd⟩ hsz
   have hyr := run_yield (P := P) (args := encs x) hl (by rw [hrc]; exact hps x)
   rw [hrc] at hyr
   refine yield_wide (n := n - 1 - 1) ⟨fn, _, assign, body, hyr, roundIn_of_wpIn hfn (hassign _ own k x Wb _ hkN hok hj (by have := (Array.getElem?_eq_some_iff.1 hl).1; omega) ?_)⟩
   intro a' W hBa hAx
   have hltb := (Array.getElem?_eq_some_iff.1 hl).1
   have hO := out own g2
   replace hj := hJ own k _ _ hj (Kw.of_below hBa)
   replace hl := (hBa.block _ (by omega)).trans hl
   replace hd := (hBa.block _ (by omega)).trans hd
   have hlt : w.heap.size + 1 < W.heap.size := (Array.getElem?_eq_some_iff.1 hl).1
   have hszW := hBa.size
   refine ⟨_, run_beginRound hl (by rw [hrc]), ?_⟩
   obtain ⟨Wp, hWp⟩ : ∃ Wp, W.putObj (w.heap.size + 1) (.loop { rc' .ready none with state := .busy }) = Wp := ⟨_, rfl⟩
   have hl2 : Wp.heap[w.heap.size + 1]? = some (.loop { rc' .ready none with state := .busy }) := by rw [← hWp]; exact World.putObj_heap_same hlt
   have hd2 : Wp.heap[w.heap.size]? = some (.deferred (some [])) := by rw [← hWp]; exact (World.putObj_heap_other (by omega)).trans hd
   have hsp : Wp.heap.size = W.heap.size := by rw [← hWp]; simp [World.putObj]
   have hjp : J own k Wp := by rw [← hWp]; exact hJ own k _ _ hj (Kw.put W _ _ (by omega) hO.2)
   have hAp : A x a' Wp := by rw [← hWp]; exact hA x a' W _ _ hAx (by omega) (by omega)
   have hbp : But (fun j => own j ∨ j = w.heap.size + 1) Wb Wp := by rw [← hWp]; exact (But.of_below hBa).trans (But.put W _ _ (.inr rfl))
   rw [hWp]
   have hownlt : ∀ j, own j → j < Wp.heap.size := fun j hj' => by have := hsz j ((g1 j).2 (.inl hj')); omega
   refine wpIn_mono (hbody _ own k x a' Wp hkN hok hjp hAp (by omega) hownlt) ?_
   have fin : ∀ (W3 : World) (own' : Nat → Prop) (stt : LoopState) (pe : Option Code), (∀ j, own' j → own j ∨ (Wp.heap.size ≤ j ∧ j < W3.heap.size)) → But own Wp W3 →
     W3.heap[w.heap.size + 1]? = some (.loop { rc' .ready none with state := .busy }) ∧ W3.heap[w.heap.size]? = some (.deferred (some [])) ∧ (∀ j, own' j → j < w.heap.size ∨ w.heap.size + 2 ≤ j) ∧
     (∀ j, (own' j ∨ j = w.heap.size + 1) → oy j ∨ (Wb.heap.size ≤ j ∧ j < (W3.putObj (w.heap.size + 1) (.loop (rc' stt pe))).heap.size)) ∧ But oy Wb (W3.putObj (w.heap.size + 1) (.loop (rc' stt pe))) := fun W3 own' stt pe ho hb => by
    have hs3 := hb.size
    refine ⟨(hb.block _ (by omega) hO.2).trans hl2, (hb.block _ (by omega) hO.1).trans hd2, fun j hj' => ?_, fun j hj' => ?_, ?_⟩
    ·rcases ho j hj' with a | a
     ·exact g2 j a
     ·omega
    ·rcases hj' with hj' | rfl
     ·rcases ho j hj' with a | a
      ·exact .inl ((g1 j).2 (.inl a))
      ·exact .inr ⟨by omega, by simp [World.putObj]; omega⟩
     ·exact .inl ((g1 _).2 (.inr rfl))
    ·have e : But (fun j => own j ∨ j = w.heap.size + 1) Wb (W3.putObj (w.heap.size + 1) (.loop (rc' stt pe))) := hbp.trans ((hb.more fun j _ hj' => .inl hj').trans (But.put W3 _ _ (.inr rfl)))
     exact e.more fun j _ hj' => (g1 j).2 hj'
   have stop3 : ∀ (W3 : World), (∃ own', (∀ j, own' j → own j ∨ (Wp.heap.size ≤ j ∧ j < W3.heap.size)) ∧ But own Wp W3 ∧ Jx own' W3) →
     (Instr.endRound (w.heap.size + 1) (some jump)).run P W3 = .ok (.bool false) (W3.putObj (w.heap.size + 1) (.loop (rc' .done (some jump)))) ∧
     YPost (fun oy k W => ∃ own, (∀ j, oy j ↔ own j ∨ j = w.heap.size + 1) ∧ (∀ j, own j → j < w.heap.size ∨ w.heap.size + 2 ≤ j) ∧ J own k W ∧ W.heap[w.heap.size + 1]? = some (.loop (rc' .ready none)) ∧ W.heap[w.heap.size]? = some (.deferred (some [])))
      (fun oy W => ∃ own, (∀ j, oy j ↔ own j ∨ j = w.heap.size + 1) ∧ (∀ j, own j → j < w.heap.size ∨ w.heap.size + 2 ≤ j) ∧ Jx own W ∧ W.heap[w.heap.size + 1]? = some (.loop (rc' .done (some jump))) ∧ W.heap[w.heap.size]? = some (.deferred (some []))) oy (k + 1) Wb (.returned (.bool false)) (W3.putObj (w.heap.size + 1) (.loop (rc' .done (some jump)))) := fun W3 ⟨own', ho, hb3, hj3⟩ => by
    obtain ⟨f1, f2, f3, f4, f5⟩ := fin W3 own' .done (some jump) ho hb3
    have hr := run_endRound (P := P) (some jump) f1
    rw [hrc] at hr f4 f5 ⊢
    refine ⟨hr, fun j => own' j ∨ j = w.heap.size + 1, f4, f5, .inr ⟨rfl, own', fun _ => Iff.rfl, f3, hJx own' _ _ hj3 (Kw.put W3 _ _ (by omega) (out own' f3).2), World.putObj_heap_same (Array.getElem?_eq_some_iff.1 f1).1, (World.putObj_heap_other (by omega)).trans f2⟩⟩
   rintro e a3 W3 hp
   cases e with
   | normal =>
    obtain ⟨own', ho, hb3, hj3⟩ := hp
    obtain ⟨f1, f2, f3, f4, f5⟩ := fin W3 own' .ready none ho hb3
    have hr := run_endRound (P := P) none f1
    rw [hrc] at hr f4 f5 ⊢
    refine ⟨_, _, hr, fun j => own' j ∨ j = w.heap.size + 1, f4, f5, .inl ⟨rfl, own', fun _ => Iff.rfl, f3, hJ own' _ _ _ hj3 (Kw.put W3 _ _ (by omega) (out own' f3).2), World.putObj_heap_same (Array.getElem?_eq_some_iff.1 f1).1, (World.putObj_heap_other (by omega)).trans f2⟩⟩
   | exit i =>
    obtain ⟨rfl, hp⟩ := hp
    obtain ⟨hr, hy⟩ := stop3 W3 hp
    exact ⟨_, _, hr, hy⟩
   | ret =>
    obtain ⟨rfl, hp⟩ := hp
    obtain ⟨hr, hy⟩ := stop3 W3 hp
    exact ⟨_, _, hr, hy⟩
   | goto t => exact hp.elim
   | panic ch => exact hp.elim
   | outgrown => exact hp.elim
  ·rintro e W2 ⟨⟨v, rfl⟩, oy, ⟨own, g1, g2, hx, hl, hd⟩ | ⟨own, g1, g2, hx, hl, hd⟩⟩
   ·refine ⟨none, _, by have := run_endLoop (P := P) hl (by rw [hrc]; simp); rw [hrc] at this; exact this, ?_⟩
    exact hdone _ own _ rfl (out own g2).1 (hJ _ _ _ _ hx (Kw.put W2 _ _ (by omega) (out own g2).2)) ((World.putObj_heap_other (by omega)).trans hd)
   ·refine ⟨some jump, _, by have := run_endLoop (P := P) hl (by rw [hrc]; simp); rw [hrc] at this; exact this, ?_⟩
    exact hstop _ own _ rfl (out own g2).1 (hJx _ _ _ hx (Kw.put W2 _ _ (by omega) (out own g2).2)) ((World.putObj_heap_other (by omega)).trans hd)
theorem leaves_marks {F : Fence} {n : Nat} {P : Program} {fn : Func} {tmps : Array Value} {R : Ending → World → Prop} {v : Value} (hres : ∀ W, (results fn tmps).run P W = .ok v W) :
  ∀ (Ds : List Nat) (W : World), Ds.Nodup → (∀ D ∈ Ds, W.heap[D]? = some (.deferred (some []))) → (∀ W', But (fun j => j ∈ Ds) W W' → R (.returned v) W') →
   LeavesInM F n P fn tmps R (Ds.map fun D => { target := .collected D, args := #[] }) .returning W
 | [], W, _, _, h => ⟨v, hres W, h W (But.refl _ _)⟩
 | D :: Ds, W, hn, hd, h => by
  have hD := hd D (by simp)
  refine ⟨by simp, .inl ⟨D, _, rfl, run_takeDeferred hD, ?_⟩⟩
  obtain ⟨h1, h2⟩ := List.nodup_cons.1 hn
  refine leaves_marks hres Ds _ h2 (fun E hE => ?_) fun W' hb => h W' ?_
  ·exact (World.putObj_heap_other (fun e => h1 (by rw [← e]; exact hE))).trans (hd E (by simp [hE]))
  ·exact (But.put W D _ (by simp)).trans (hb.more fun j _ hj => by simp [hj])
end Go.Proofs.Ytimdlohdmddnjaa.Rq
