/- The tree of rows: kids. -/
import Derived.Test.YtaiiclkfnahghaaPGF
namespace Go.Proofs.Ytaiiclkfnahghaa.Rq
open Go.RowKit Go.Lib Go.Shelf
open Go.Proofs.Ytaiiclkfnahghaa.Rc
/-- The kids' rows, of the first quarters. -/
def kl (l : List Rw) (j : Nat) : List (List Rw) := ((List.range j).map (part l)).filter fun m => !m.isEmpty
set_option maxRecDepth 100000 in
theorem kl_four (l : List Rw) : kl l 4 = kidsL l := rfl
set_option maxRecDepth 100000 in
theorem kl_no {l : List Rw} {j : Nat} (h : part l j = []) : kl l (j + 1) = kl l j := by
  unfold kl; rw [List.range_succ, List.map_append, List.filter_append]; simp [h]
set_option maxRecDepth 100000 in
theorem kl_yes {l : List Rw} {j : Nat} (h : part l j ≠ []) : kl l (j + 1) = kl l j ++ [part l j] := by
  unfold kl; rw [List.range_succ, List.map_append, List.filter_append]; simp [h]
set_option maxRecDepth 100000 in
theorem kl_len (l : List Rw) (j : Nat) : (kl l j).length ≤ j := by
  unfold kl
  exact Nat.le_trans (List.length_filter_le _ _) (by simp)
structure KJ (d : Nat) (l : List Rw) (w3 : World) (j : Nat) (ks : List Nv) (v : Value) (W : World) : Prop where
  len : ks.length = (kl l j).length
  own : W.ownsRow w3.heap.size 33 5 v ks.length (ks.flatMap nc)
  nodes : ∀ i (h1 : i < ks.length) (h2 : i < (kl l j).length), NodeAt (fun b => w3.heap.size ≤ b ∧ v.ownBlock ≠ some b) d W ks[i] (kl l j)[i]
  bel : Below w3.heap.size w3 W
set_option maxRecDepth 100000 in
theorem KJ.skip {d : Nat} {l : List Rw} {w3 : World} {j : Nat} {ks : List Nv} {v : Value} {W : World} (h : KJ d l w3 j ks v W) (hp : part l j = []) : KJ d l w3 (j + 1) ks v W := by
  obtain ⟨h1, h2, h3, h4⟩ := h
  refine ⟨by rw [kl_no hp]; exact h1, h2, ?_, h4⟩
  rw [kl_no hp]; exact h3
set_option maxRecDepth 100000 in
theorem KJ.step {d : Nat} {l : List Rw} {w3 : World} {j : Nat} {ks : List Nv} {v : Value} {W W1 W2 W' : World} (h : KJ d l w3 j ks v W) (hp : part l j ≠ []) {n : Nv} {v' : Value}
    (hb1 : Below W.heap.size W W1) (hn : NodeAt (fun b => W.heap.size ≤ b) d W1 n (part l j)) (hb2 : Below W1.heap.size W1 W2) (ho : W'.ownsRow w3.heap.size 33 5 v' (ks.length + 1) (ks.flatMap nc ++ nc n)) (hg : W2.grownBy W' v.ownBlock) (hf : v'.ownBlock = v.ownBlock ∨ v'.ownBlock = some W2.heap.size) :
    KJ d l w3 (j + 1) (ks ++ [n]) v' W' := by
  have hs1 := hb1.size
  have hs2 := hb2.size
  have hw3 := h.bel.size
  have hv : ∀ b, v.ownBlock = some b → w3.heap.size ≤ b ∧ b < W.heap.size := fun b hb => own_base h.own hb
  have keep : ∀ b, b < W2.heap.size → v.ownBlock ≠ some b → W'.heap[b]? = W2.heap[b]? := fun b hb hne => hg.block b hb fun e => hne e.symm
  have nv' : ∀ b, b < W2.heap.size → v.ownBlock ≠ some b → v'.ownBlock ≠ some b := fun b hb hne e => by
    rcases hf with hf | hf
    · rw [hf] at e; exact hne e
    · rw [hf] at e; cases e; omega
  refine ⟨by rw [kl_yes hp, List.length_append, List.length_append, h.len]; rfl, ?_, fun i h1 h2 => ?_, h.bel.trans ⟨?_, ?_, ?_, ?_, fun b hb => ?_⟩⟩
  · rw [List.length_append, List.flatMap_append]; simpa using ho
  · have e : (kl l (j + 1))[i] = (kl l j ++ [part l j])[i]'(by rw [← kl_yes hp]; exact h2) := by congr 1; exact kl_yes hp
    rw [e]
    by_cases hi : i < ks.length
    · rw [List.getElem_append_left hi, List.getElem_append_left (by rw [← h.len]; exact hi)]
      have a := h.nodes i hi (by rw [← h.len]; exact hi)
      have a2 := (a.below hb1 (Nat.le_refl _)).below hb2 (Nat.le_refl _)
      have a0 : NodeAt (fun b => (w3.heap.size ≤ b ∧ v.ownBlock ≠ some b) ∧ b < W2.heap.size) d W2 ks[i] ((kl l j)[i]'(by rw [← h.len]; exact hi)) := a2.mono fun b hb hG => ⟨hG, hb⟩
      exact (a0.same hg.size fun b hG hb => keep b hb hG.1.2).mono fun b _ hG => ⟨hG.1.1, nv' b hG.2 hG.1.2⟩
    · have hi' : i = ks.length := by rw [List.length_append] at h1; simp at h1; omega
      subst hi'
      rw [List.getElem_append_right (Nat.le_refl _), List.getElem_append_right (by rw [h.len]; omega)]
      simp only [Nat.sub_self, h.len, List.getElem_cons_zero]
      have a2 := hn.below hb2 (Nat.le_refl _)
      have a0 : NodeAt (fun b => W.heap.size ≤ b ∧ b < W2.heap.size) d W2 n (part l j) := a2.mono fun b hb hG => ⟨hG, hb⟩
      have hvb : ∀ b, W.heap.size ≤ b → v.ownBlock ≠ some b := fun b hb e => by have := (hv b e).2; omega
      exact (a0.same hg.size fun b hG hb => keep b hb (hvb b hG.1)).mono fun b _ hG => ⟨by omega, nv' b hG.2 (hvb b hG.1)⟩
  · exact hg.os.trans (hb2.os.trans hb1.os)
  · exact hg.tape.trans (hb2.tape.trans hb1.tape)
  · exact hg.output.trans (hb2.output.trans hb1.output)
  · exact Nat.le_trans hs1 (Nat.le_trans hs2 hg.size)
  · exact (keep b (by omega) (fun e => by have := (hv b e).1; omega)).trans ((hb2.block b (by omega)).trans (hb1.block b (by omega)))
set_option maxRecDepth 100000 in
theorem ixs (vs : Nat → Value) (j : Nat) (hj : j < 4) (w : World) : (Instr.index 90 (.agg #[vs 0, vs 1, vs 2, vs 3]) (.int .i64 (j : Int))).run Try.prog w = .ok (vs j) w := by
  obtain rfl | rfl | rfl | rfl : j = 0 ∨ j = 1 ∨ j = 2 ∨ j = 3 := by omega
  all_goals kernel_rfl
set_option maxRecDepth 100000 in
theorem one_node {w : World} {g : Nat} {n : Nv} {t : TypeId} {fr : Nat × Nat} (h : w.heap[g]? = some (.cells #[.int .u32 (n.X : Int), .int .u32 (n.Y : Int), .int .i64 (n.L : Int), .slice n.ro n.rn n.rc, .slice n.ko n.kn n.kc] t fr)) : Sl 5 w (some ⟨g, 0, none⟩) 1 1 (nc n) := by
  refine ⟨Nat.le_refl _, by decide, (fun e => by cases e), rfl, fun _ => ⟨g, 0, rfl, (Array.getElem?_eq_some_iff.1 h).1, fun j u hu => ?_⟩⟩
  rw [Nat.zero_add, cell_of_row _ _ _ _ _ _ h]
  have : j < 5 := (List.getElem?_eq_some_iff.1 hu).1
  obtain rfl | rfl | rfl | rfl | rfl : j = 0 ∨ j = 1 ∨ j = 2 ∨ j = 3 ∨ j = 4 := by omega
  all_goals simpa [nc] using hu
set_option maxRecDepth 100000 in
theorem nc_one' (n : Nv) : ∀ u ∈ nc n, u.oneCell' = true := by
  have := nc_one [n]
  simpa using this
set_option maxRecDepth 100000 in
set_option maxHeartbeats 4000000 in
theorem tree_inner (d : Nat) (ih : ∀ (l : List Rw) (o : Option Addr) (cap : Nat) (w : World), RowsAt w o cap l → On l → l.length ≤ 1000 → lev l < d →
      Calls Try.prog 33 #[.slice o l.length cap] w fun e w' => ∃ n : Nv, e = .returned (nv n) ∧ NodeAt (fun b => w.heap.size ≤ b) d w' n l ∧ Below w.heap.size w w')
    (l : List Rw) (o : Option Addr) (cap : Nat) (w : World) (hr : RowsAt w o cap l) (hon : On l) (hmax : l.length ≤ 1000) (hlf : leaf l = false) (hd : lev l < d + 1) :
    Calls Try.prog 33 #[.slice o l.length cap] w fun e w' => ∃ n : Nv, e = .returned (nv n) ∧ NodeAt (fun b => w.heap.size ≤ b) (d + 1) w' n l ∧ Below w.heap.size w w' := by
    obtain ⟨h4, m, hm⟩ := leaf_no hlf
    have hne : 0 < l.length := by omega
    have HLf : Hid (leaf l = false) := hlf
    have IH : Hid _ := ih
    have HSh : Hid (∀ W, RowsAt W o cap l → _) := fun W h => shares_any m l o cap W h hon hmax hm

    have HHR : RowsAt (w.alloc (.cells #[.int .u32 0, .int .u32 0, .int .i64 0, .slice none 0 0, .slice none 0 0] 33)) o cap l := hr.below (below_new w _) (Nat.le_refl _)
    have HC : Hid _ := qleast_any l o cap (w.alloc (.cells #[.int .u32 0, .int .u32 0, .int .i64 0, .slice none 0 0, .slice none 0 0] 33)) HHR hne hon hmax
    have HG2n : Hid ((w.alloc (.cells #[.int .u32 0, .int .u32 0, .int .i64 0, .slice none 0 0, .slice none 0 0] 33)).heap[w.heap.size]? = some (.cells #[.int .u32 0, .int .u32 0, .int .i64 0, .slice none 0 0, .slice none 0 0] 33 (0, 0))) := heap_alloc_new w _
    have HBn : Hid (Below w.heap.size w (w.alloc (.cells #[.int .u32 0, .int .u32 0, .int .i64 0, .slice none 0 0, .slice none 0 0] 33))) := below_new w _
    have HR : Hid (RowsAt w o cap l) := hr
    obtain ⟨X, hX⟩ : ∃ X, cx l = X := ⟨_, rfl⟩
    obtain ⟨Y, hY⟩ : ∃ Y, cy l = Y := ⟨_, rfl⟩
    obtain ⟨L, hL⟩ : ∃ L : Int, (lev l : Int) = L := ⟨_, rfl⟩
    have HX : Hid (cx l = X) := hX
    have HY : Hid (cy l = Y) := hY
    have HL : Hid ((lev l : Int) = L) := hL
    rw [hX, hY, hL] at HC
    have q0 : ((l.length : Int) == 0) = false := by rw [beq_eq_false_iff_ne]; omega
    have n0 : ¬ l.length = 0 := by omega

    rw [hX, hY, hL] at HSh
    have q1 : decide ((l.length : Int) ≤ 4) = false := decide_eq_false (by omega)
    have q2 : (L == 0) = false := by rw [beq_eq_false_iff_ne, ← hL]; omega
    have HM : Hid (lev l = m + 1) := hm
    have HD : Hid (lev l < d + 1) := hd
    have Hon : Hid (On l) := hon
    clear hlf h4 hm hd hon ih

    clear hr HHR hX hY hL
    go_enter Try.func33, Try.ntmps33
    go_wp2_with fail
    refine Calls.mono HC.out ?_
    rintro e W1 ⟨rfl, b1⟩
    have HG2a := (b1.block _ (by simp)).trans HG2n.out
    have hs1 : w.heap.size < W1.heap.size := by have := b1.size; simp at this; omega
    have HB2 : Hid (Below w.heap.size w (W1.alloc (.cells #[.int .u32 (X : Int), .int .u32 (Y : Int), .int .i64 L] 30))) := (HBn.out.trans (b1.mono (by simp))).trans ((below_new W1 _).mono (by omega))
    have HG2 : Hid ((W1.alloc (.cells #[.int .u32 (X : Int), .int .u32 (Y : Int), .int .i64 L] 30)).heap[w.heap.size]? = some (.cells #[.int .u32 0, .int .u32 0, .int .i64 0, .slice none 0 0, .slice none 0 0] 33 (0, 0))) := ((below_new W1 _).block _ hs1).trans HG2a
    have HG3 : Hid ((W1.alloc (.cells #[.int .u32 (X : Int), .int .u32 (Y : Int), .int .i64 L] 30)).heap[W1.heap.size]? = some (.cells #[.int .u32 (X : Int), .int .u32 (Y : Int), .int .i64 L] 30 (0, 0))) := heap_alloc_new W1 _
    clear b1 HG2a
    go_wp2_with fail
    have HG2s : Hid (w.heap.size < (W1.alloc (.cells #[.int .u32 (X : Int), .int .u32 (Y : Int), .int .i64 L] 30)).heap.size) := (Array.getElem?_eq_some_iff.1 HG2.out).1
    have HG3s : Hid (W1.heap.size < (W1.alloc (.cells #[.int .u32 (X : Int), .int .u32 (Y : Int), .int .i64 L] 30)).heap.size) := (Array.getElem?_eq_some_iff.1 HG3.out).1
    have HG32 : Hid (W1.heap.size ≠ w.heap.size) := Nat.ne_of_gt hs1
    obtain ⟨g3, hg3⟩ : ∃ g3, W1.heap.size = g3 := ⟨_, rfl⟩
    obtain ⟨W2, hW2⟩ : ∃ W2, W1.alloc (.cells #[.int .u32 (X : Int), .int .u32 (Y : Int), .int .i64 L] 30) = W2 := ⟨_, rfl⟩
    rw [hW2] at HB2 HG2 HG3 HG2s HG3s ⊢
    rw [hg3] at HG3 HG3s HG32 ⊢
    clear hW2 hg3 hs1 HC HG2n HBn
    obtain ⟨t0, t1, t2⟩ := Cel.cells HG3.out
    go_wp2_with fail
    refine Calls.mono (HSh.out W2 (HR.out.below HB2.out (Nat.le_refl _))) ?_
    rintro e W3 ⟨vs, rfl, hvs, b3⟩
    have HV : Hid (∀ q, q < 4 → W3.ownsRow W2.heap.size 26 4 (vs q) (part l q).length ((part l q).flatMap rc)) := hvs
    have HB3 : Hid (Below W2.heap.size W2 W3) := b3
    clear hvs b3 t0 t1 t2
    go_wp2_with fail
    go_loopw [4, 28] (fun kv i wr => ∃ j : Nat, j ≤ 4 ∧ i = .int .i64 (j : Int) ∧ ∃ ks, KJ d l W3 j ks kv wr) (fun _ i _ => 4 - natOf i)
    case atStart => exact ⟨0, by omega, rfl, [], rfl, World.ownsRow_nil _ _ _ _, fun i h1 _ => absurd h1 (by simp), Below.refl _ _⟩
    case round =>
      obtain ⟨j, hj, rfl, ks, hJ⟩ := hrel
      have HJ : Hid (KJ d l W3 j ks u4 wr) := hJ
      clear hJ
      by_cases hlt : j < 4
      · have q3 : (j : Int) < 4 := by omega
        have hix := ixs vs j hlt
        obtain ⟨oj, cj, ej, sj⟩ := sl_of_own (HV.out j hlt)
        rw [ej] at hix
        have HS : Hid (RowsAt wr oj cj (part l j)) := Sl.below sj (HJ.out.bel) (Nat.le_refl _)
        have HP : Hid _ := part_sub l j
        clear sj ej
        obtain ⟨pl, hpl⟩ : ∃ pl, (part l j).length = pl := ⟨_, rfl⟩
        have HPL : Hid ((part l j).length = pl) := hpl
        rw [hpl] at hix
        clear hpl
        have k1 : (j : Int) + 1 ≤ 9223372036854775807 := by omega
        by_cases hp : pl = 0
        · have q4 : decide (0 < pl) = false := decide_eq_false (by omega)
          have HN : Hid (KJ d l W3 (j + 1) ks u4 wr) := HJ.out.skip (List.eq_nil_of_length_eq_zero (by rw [HPL.out]; exact hp))
          clear hp
          go_wp2_with fail
          go_roundw
          case rel => exact ⟨j + 1, by omega, by go_num, ks, HN.out⟩
          case measure => simp [natOf]; omega
        · have q4 : decide (0 < pl) = true := decide_eq_true (by omega)
          have HNP : Hid (part l j ≠ []) := fun e => by have := HPL.out; rw [e] at this; exact hp this.symm
          clear hp
          go_wp2_with fail
          have hcall := IH.out (part l j) oj cj wr HS.out (Hon.out.part j) (Nat.le_trans HP.out hmax) (by have := lev_part Hon.out HM.out j; have := HM.out; have := HD.out; omega)
          rw [HPL.out] at hcall
          refine hcall.mono ?_
          rintro e W4 ⟨nn, rfl, n4, b4⟩
          clear hcall
          obtain ⟨nX, nY, nL, nro, nrn, nrc, nko, nkn, nkc⟩ := nn
          have hb5 := below_new W4 (.cells #[.int .u32 (nX : Int), .int .u32 (nY : Int), .int .i64 (nL : Int), .slice nro nrn nrc, .slice nko nkn nkc] 33)
          have hkl := kl_len l j
          obtain ⟨v', W', hrun, a1, a2, a3⟩ := append_sl 31 33 Try.underlying31 infoNode rfl (by decide) (by decide) (W4.alloc (.cells #[.int .u32 (nX : Int), .int .u32 (nY : Int), .int .i64 (nL : Int), .slice nro nrn nrc, .slice nko nkn nkc] 33)) W3.heap.size ks.length 1 u4 (some ⟨W4.heap.size, 0, none⟩) 1
            (ks.flatMap nc) (nc ⟨nX, nY, nL, nro, nrn, nrc, nko, nkn, nkc⟩) (own_same HJ.out.own fun b _ hb => (hb5.block b (by have := b4.size; omega)).trans (b4.block b hb)) (by have := HJ.out.bel.size; have := b4.size; simp; omega) (one_node (heap_alloc_new W4 _)) (nc_one' _) (by have := HJ.out.len; omega)
          have HN : Hid (KJ d l W3 (j + 1) (ks ++ [⟨nX, nY, nL, nro, nrn, nrc, nko, nkn, nkc⟩]) v' W') := HJ.out.step HNP.out b4 n4 hb5 a1 a2 a3
          clear n4 b4 hb5 a1 a2 a3 hkl
          go_wp2_with (refine list_append rfl 31 31 (.tmp 34) (.tmp 37) rfl rfl rfl hrun ?_)
          go_roundw
          case rel => exact ⟨j + 1, by omega, by go_num, _, HN.out⟩
          case measure => simp [natOf]; omega
      · obtain rfl : j = 4 := by omega
        have q3 : ¬ ((4 : Nat) : Int) < 4 := by omega
        obtain ⟨ko, kc, rfl, sk⟩ := sl_of_own HJ.out.own
        obtain ⟨kn, hkn⟩ : ∃ kn, ks.length = kn := ⟨_, rfl⟩
        have HKN : Hid (ks.length = kn) := hkn
        have hg2 : wr.heap[w.heap.size]? = some (.cells #[.int .u32 0, .int .u32 0, .int .i64 0, .slice none 0 0, .slice none 0 0] 33 (0, 0)) := (HJ.out.bel.block _ (by have := HB3.out.size; have := HG2s.out; omega)).trans ((HB3.out.block _ HG2s.out).trans HG2.out)
        have hg3 : wr.heap[g3]? = some (.cells #[.int .u32 (X : Int), .int .u32 (Y : Int), .int .i64 L] 30 (0, 0)) := (HJ.out.bel.block _ (by have := HB3.out.size; have := HG3s.out; omega)).trans ((HB3.out.block _ HG3s.out).trans HG3.out)
        obtain ⟨z0, z1, z2, z3, z4, f0, f1, f2, f3, f4⟩ := node_facts hg2
        obtain ⟨t0, t1, t2⟩ := Cel.cells hg3
        obtain ⟨p1, p2, p3⟩ := put_node hg2 (.int .u32 (X : Int)) (.int .u32 (Y : Int)) (.int .i64 L) (.slice none 0 0) (.slice ko kn kc)
        have HP1 : Hid _ := p1
        have HP3 : Hid (Below w.heap.size w _) := HB2.out.trans (((HB3.out.trans (HJ.out.bel.mono HB3.out.size)).mono (Nat.le_of_lt HG2s.out)).trans p3)
        have HN : Hid (NodeAt (fun b => w.heap.size ≤ b) (d + 1) (((((wr.setCell ⟨w.heap.size, 0, none⟩ (.int .u32 (X : Int))).setCell ⟨w.heap.size, 1, none⟩ (.int .u32 (Y : Int))).setCell ⟨w.heap.size, 2, none⟩ (.int .i64 L)).setCell ⟨w.heap.size, 3, none⟩ (.slice none 0 0)).setCell ⟨w.heap.size, 4, none⟩ (.slice ko kn kc)) ⟨X, Y, lev l, none, 0, 0, ko, kn, kc⟩ l) := by
          refine (?_ : NodeAt (fun b => w.heap.size ≤ b) (d + 1) _ _ l)
          have hlt3 : w.heap.size < W3.heap.size := by have := HB3.out.size; have := HG2s.out; omega
          have hkl := kl_four l
          refine ⟨HX.out.symm, HY.out.symm, rfl, (fun h => by rw [HLf.out] at h; cases h), fun _ => ⟨rfl, Sl.nil 4 _, ks, hkn.symm, ?_, ?_, fun _ b off e => ?_, fun i h1 h2 => ?_⟩⟩
          · rw [← hkl]; exact HJ.out.len
          · refine Sl.same sk (by simp [World.setCell]) fun b off e _ => p2 b ?_
            have e' : ko = some ⟨b, off, none⟩ := e
            have hh : W3.heap.size ≤ b := (own_base HJ.out.own (by rw [e']; rfl)).1
            omega
          · have e' : ko = some ⟨b, off, none⟩ := e
            have hh : W3.heap.size ≤ b := (own_base HJ.out.own (by rw [e']; rfl)).1
            show w.heap.size ≤ b
            omega
          · have a := HJ.out.nodes i h1 h2
            exact (a.same (by simp [World.setCell]) fun b hG _ => p2 b (by have := hG.1; omega)).mono fun b _ hG => by have := hG.1; show w.heap.size ≤ b; omega
        rw [hkn]
        clear p1 p2 p3 hg2 hg3 sk hkn
        go_wp2_with fail
        refine bodyPost_ret (results_node rfl _ _ _ _ _ _ _ _ rfl HP1.out) rfl ⟨⟨X, Y, lev l, none, 0, 0, ko, kn, kc⟩, ?_, HN.out, HP3.out⟩
        rw [← HL.out]
set_option maxRecDepth 100000 in
theorem tree_any : ∀ (d : Nat) (l : List Rw) (o : Option Addr) (cap : Nat) (w : World), RowsAt w o cap l → On l → l.length ≤ 1000 → lev l < d →
    Calls Try.prog 33 #[.slice o l.length cap] w fun e w' => ∃ n : Nv, e = .returned (nv n) ∧ NodeAt (fun b => w.heap.size ≤ b) d w' n l ∧ Below w.heap.size w w'
  | 0, _, _, _, _, _, _, _, h => absurd h (by omega)
  | d + 1, l, o, cap, w, hr, hon, hmax, hd => by
    by_cases hne : l.length = 0
    · have : l = [] := List.eq_nil_of_length_eq_zero hne
      subst this
      exact tree_nil d o cap w
    · cases hlf : leaf l
      · exact tree_inner d (tree_any d) l o cap w hr hon hmax hlf hd
      · exact tree_leaf d l o cap w hr hon hmax (by omega) hlf
end Go.Proofs.Ytaiiclkfnahghaa.Rq
/- Build. -/
namespace Go.Proofs.Ytaiiclkfnahghaa.Rq
open Go.RowKit Go.Lib Go.Shelf
open Go.Proofs.Ytaiiclkfnahghaa.Rc
set_option maxRecDepth 100000 in
theorem results_nodeE {fn : Func} {p u : Tmp} (h : fn.results = #[.cell p 33, .tmp u]) (tmps : Array Value) (w : World) (g : Nat) (a b c d e x : Value) {t : TypeId}
    (hp : tmps.getD p undef = .pointer (some ⟨g, 0, none⟩)) (hu : tmps.getD u undef = x) (hg : w.heap[g]? = some (.cells #[a, b, c, d, e] t (0, 0))) : (results fn tmps).run Try.prog w = .ok (.tuple #[.agg #[a, b, c, d, e], x]) w := by
  have hp' : tmps[p]?.getD undef = .pointer (some ⟨g, 0, none⟩) := by simpa using hp
  have hu' : tmps[u]?.getD undef = x := by simpa using hu
  have c0 : w.cell? ⟨g, 0, none⟩ = some a := by rw [cell_of_row _ _ _ _ _ _ hg]; rfl
  have c1 : w.cell? ⟨g, 1, none⟩ = some b := by rw [cell_of_row _ _ _ _ _ _ hg]; rfl
  have c2 : w.cell? ⟨g, 2, none⟩ = some c := by rw [cell_of_row _ _ _ _ _ _ hg]; rfl
  have c3 : w.cell? ⟨g, 3, none⟩ = some d := by rw [cell_of_row _ _ _ _ _ _ hg]; rfl
  have c4 : w.cell? ⟨g, 4, none⟩ = some e := by rw [cell_of_row _ _ _ _ _ _ hg]; rfl
  simp [results, h, hp', hu', asAddr, go_sem, c0, c1, c2, c3, c4]
set_option maxRecDepth 100000 in
set_option maxHeartbeats 1000000 in
theorem build_no (l : List Rw) (o : Option Addr) (cap : Nat) (w : World) (hr : RowsAt w o cap l) (h : rightL l = false) :
    Calls Try.prog 13 #[.slice o l.length cap] w fun e w' => e = .returned (.tuple #[nv ⟨0, 0, 0, none, 0, 0, none, 0, 0⟩, .int .i64 80]) ∧ Below w.heap.size w w' := by
  have hbn := below_new w (.cells #[.int .u32 0, .int .u32 0, .int .i64 0, .slice none 0 0, .slice none 0 0] 33)
  have HC : Hid _ := qright_any l o cap _ (hr.below hbn (Nat.le_refl _))
  rw [h] at HC
  have HBn : Hid _ := hbn
  have HG : Hid _ := heap_alloc_new w (.cells #[.int .u32 0, .int .u32 0, .int .i64 0, .slice none 0 0, .slice none 0 0] 33)
  clear hr h hbn
  go_enter Try.func13, Try.ntmps13
  go_wp2_with fail
  refine Calls.mono HC.out ?_
  rintro e W1 ⟨rfl, b1⟩
  have hg : W1.heap[w.heap.size]? = some (.cells #[.int .u32 0, .int .u32 0, .int .i64 0, .slice none 0 0, .slice none 0 0] 33 (0, 0)) := (b1.block _ (by simp)).trans HG.out
  have HB1 : Hid (Below w.heap.size w W1) := HBn.out.trans (b1.mono (by simp))
  obtain ⟨z0, z1, z2, z3, z4, f0, f1, f2, f3, f4⟩ := node_facts hg
  obtain ⟨p1, _, p3⟩ := put_node hg (.int .u32 0) (.int .u32 0) (.int .i64 0) (.slice none 0 0) (.slice none 0 0)
  have HP1 : Hid _ := p1
  have HP3 : Hid _ := HB1.out.trans p3
  clear p1 p3 b1 HC hg
  go_wp2_with fail
  refine bodyPost_ret (results_nodeE rfl _ _ _ _ _ _ _ _ _ rfl rfl HP1.out) rfl ⟨rfl, HP3.out⟩
set_option maxRecDepth 100000 in
set_option maxHeartbeats 1000000 in
theorem build_ok (l : List Rw) (o : Option Addr) (cap : Nat) (w : World) (hr : RowsAt w o cap l) (h : rightL l = true) :
    Calls Try.prog 13 #[.slice o l.length cap] w fun e w' => ∃ n : Nv, e = .returned (.tuple #[nv n, .int .i64 0]) ∧ NodeAt (fun b => w.heap.size ≤ b) 32 w' n l ∧ Below w.heap.size w w' := by
  have hbn := below_new w (.cells #[.int .u32 0, .int .u32 0, .int .i64 0, .slice none 0 0, .slice none 0 0] 33)
  have HC : Hid _ := qright_any l o cap _ (hr.below hbn (Nat.le_refl _))
  have HT : Hid (∀ W, RowsAt W o cap l → _) := fun W hW => tree_any 32 l o cap W hW (right_on h) ((rightL_iff l).1 h).1 (by have := lev_le (right_on h); omega)
  rw [h] at HC
  have HBn : Hid _ := hbn
  have HR : Hid _ := hr
  have HG : Hid _ := heap_alloc_new w (.cells #[.int .u32 0, .int .u32 0, .int .i64 0, .slice none 0 0, .slice none 0 0] 33)
  clear hr h hbn
  go_enter Try.func13, Try.ntmps13
  go_wp2_with fail
  refine Calls.mono HC.out ?_
  rintro e W1 ⟨rfl, b1⟩
  have HB1 : Hid (Below w.heap.size w W1) := HBn.out.trans (b1.mono (by simp))
  have HG1 : Hid (W1.heap[w.heap.size]? = some (.cells #[.int .u32 0, .int .u32 0, .int .i64 0, .slice none 0 0, .slice none 0 0] 33 (0, 0))) := (b1.block _ (by simp)).trans HG.out
  have HS1 : Hid (w.heap.size < W1.heap.size) := (Array.getElem?_eq_some_iff.1 HG1.out).1
  clear b1 HC
  go_wp2_with fail
  refine Calls.mono (HT.out W1 (HR.out.below HB1.out (Nat.le_refl _))) ?_
  rintro e W2 ⟨⟨nX, nY, nL, nro, nrn, nrc, nko, nkn, nkc⟩, rfl, n1, b2⟩
  have hg : W2.heap[w.heap.size]? = some (.cells #[.int .u32 0, .int .u32 0, .int .i64 0, .slice none 0 0, .slice none 0 0] 33 (0, 0)) := (b2.block _ HS1.out).trans HG1.out
  obtain ⟨z0, z1, z2, z3, z4, f0, f1, f2, f3, f4⟩ := node_facts hg
  obtain ⟨p1, p2, p3⟩ := put_node hg (.int .u32 (nX : Int)) (.int .u32 (nY : Int)) (.int .i64 (nL : Int)) (.slice nro nrn nrc) (.slice nko nkn nkc)
  have HP1 : Hid _ := p1
  have HP3 : Hid (Below w.heap.size w _) := (HB1.out.trans (b2.mono (Nat.le_of_lt HS1.out))).trans p3
  have HN : Hid _ := (n1.same (by simp [World.setCell]) (fun b hG _ => p2 b (by have := HS1.out; omega))).mono fun b _ hG => (by have := HS1.out; omega : w.heap.size ≤ b)
  clear p1 p2 p3 b2 hg n1
  go_wp2_with fail
  refine bodyPost_ret (results_nodeE rfl _ _ _ _ _ _ _ _ _ rfl rfl HP1.out) rfl ⟨⟨nX, nY, nL, nro, nrn, nrc, nko, nkn, nkc⟩, rfl, HN.out, HP3.out⟩
end Go.Proofs.Ytaiiclkfnahghaa.Rq
