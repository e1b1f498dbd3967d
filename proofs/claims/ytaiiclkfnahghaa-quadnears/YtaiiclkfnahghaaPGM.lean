/- How many nodes a tree has: kids. -/
import Derived.Test.YtaiiclkfnahghaaPGK
namespace Go.Proofs.Ytaiiclkfnahghaa.Rq
open Go.RowKit Go.Lib Go.Shelf
open Go.Proofs.Ytaiiclkfnahghaa.Rc
set_option maxRecDepth 100000 in
set_option maxHeartbeats 4000000 in
theorem whole_inner (d : Nat) (ih : ∀ (l : List Rw) (n : Nv) (w : World) (G : Nat → Prop), NodeAt G d w n l → On l → l.length ≤ 1000 → l ≠ [] → Calls Try.prog 30 #[nv n, .bool false] w fun e w' => e = .returned (.int .i64 (cnt d l : Int)) ∧ Below w.heap.size w w')
    (G : Nat → Prop) (l : List Rw) (X Y : Nat) (L : Int) (ro : Option Addr) (rcap : Nat) (ko : Option Addr) (kn kc : Nat) (top : Bool) (w : World) (ks : List Nv) (hkn : kn = ks.length) (hks : ks.length = (kidsL l).length) (hna : NodesAt w ko kc ks)
    (hnd : ∀ i (h1 : i < ks.length) (h2 : i < (kidsL l).length), NodeAt G d w ks[i] (kidsL l)[i]) (hon : On l) (hlen : l.length ≤ 1000) (hlf : leaf l = false)
    (hX : cx l = X) (hY : cy l = Y) (hL : (lev l : Int) = L) :
    Calls Try.prog 30 #[.agg #[.int .u32 (X : Int), .int .u32 (Y : Int), .int .i64 L, .slice ro 0 rcap, .slice ko kn kc], .bool top] w fun e w' => e = .returned (.int .i64 (cnt (d + 1) l : Int)) ∧ Below w.heap.size w w' := by
  obtain ⟨h4, m, hm⟩ := leaf_no hlf
  have hk2 := kids_two hon hm
  have hk4 := kids_len l
  have k2 : ¬ kn < 2 := by omega
  have k4 : ¬ 4 < kn := by omega
  have k00 : ¬ kn = 0 := by omega
  have q2 : decide (kn < 2) = false := decide_eq_false k2
  have q4 : decide (4 < kn) = false := decide_eq_false k4
  have bX : X < 4294967296 := by rw [← hX]; have := (lev_cl hon).x31; omega
  have bY : Y < 4294967296 := by rw [← hY]; have := (lev_cl hon).y31; omega
  have HCnt : Hid (cnt (d + 1) l = 1 + cntTo d l kn) := by
    refine (?_ : cnt (d + 1) l = 1 + cntTo d l kn)
    rw [cnt, if_neg (by rw [hlf]; simp)]
    unfold cntTo
    rw [List.take_of_length_le (by omega)]
  have HNA : Hid (NodesAt w ko kc ks) := hna
  have HND : Hid (∀ i (h1 : i < ks.length) (h2 : i < (kidsL l).length), NodeAt G d w ks[i] (kidsL l)[i]) := hnd
  have HON : Hid (On l) := hon
  have HM : Hid (lev l = m + 1) := hm
  have HKN : Hid (kn = ks.length) := hkn
  have HKS : Hid (ks.length = (kidsL l).length) := hks
  have HX : Hid (cx l = X) := hX
  have HY : Hid (cy l = Y) := hY
  have HL : Hid ((lev l : Int) = L) := hL
  have HLen : Hid (l.length ≤ 1000) := hlen
  have IH : Hid _ := ih
  have HBn : Hid (Below w.heap.size w (w.alloc (.cells #[.int .u32 (X : Int), .int .u32 (Y : Int), .int .i64 L, .slice ro 0 rcap, .slice ko kn kc] 33))) := below_new w _
  have HG : Hid ((w.alloc (.cells #[.int .u32 (X : Int), .int .u32 (Y : Int), .int .i64 L, .slice ro 0 rcap, .slice ko kn kc] 33)).heap[w.heap.size]? = some (.cells #[.int .u32 (X : Int), .int .u32 (Y : Int), .int .i64 L, .slice ro 0 rcap, .slice ko kn kc] 33 (0, 0))) := heap_alloc_new w _
  clear hna hnd hX hY hL hlf hon hlen hkn hks h4 hm hk2 hk4 ih
  go_enter Try.func30, Try.ntmps30
  go_wp2_with fail
  go_loopw [6, 7, 8] (fun o z j wr => ∃ i o' : Nat, ∃ zl : Int, i ≤ kn ∧ o = .int .i64 (o' : Int) ∧ z = .int .i64 zl ∧ j = .int .i64 (i : Int) ∧ o' = 1 + cntTo d l i ∧ (∀ p, i ≤ p → p < kn → zl < (qat l p : Int)) ∧ wr.heap[w.heap.size]? = some (.cells #[.int .u32 (X : Int), .int .u32 (Y : Int), .int .i64 L, .slice ro 0 rcap, .slice ko kn kc] 33 (0, 0)) ∧ Below w.heap.size w wr) (fun _ _ i _ => kn - natOf i)
  case atStart => exact ⟨0, 1, -1, by omega, rfl, rfl, rfl, rfl, fun p _ _ => by omega, HG.out, HBn.out⟩
  case round =>
    obtain ⟨i, o', zl, hi, rfl, rfl, rfl, ho, hz, hg, hb⟩ := hrel
    have HO : Hid (o' = 1 + cntTo d l i) := ho
    have HZ : Hid (∀ p, i ≤ p → p < kn → zl < (qat l p : Int)) := hz
    have HGr : Hid _ := hg
    have HBr : Hid (Below w.heap.size w wr) := hb
    have hgs : w.heap.size < wr.heap.size := (Array.getElem?_eq_some_iff.1 hg).1
    obtain ⟨z0, z1, z2, z3, z4, f0, f1, f2, f3, f4⟩ := node_facts hg
    clear z0 z1 z2 z3 z4 ho hz
    by_cases hlt : i < kn
    · have hik : i < ks.length := by have := HKN.out; omega
      have hik2 : i < (kidsL l).length := by have := HKS.out; omega
      obtain ⟨b, off, rfl, hbl0, hc⟩ := HNA.out.node (by omega)
      have hbl : b < wr.heap.size := Nat.lt_of_lt_of_le hbl0 hb.size
      have hcell := (hc i hik).same (hb.block b hbl0)
      have hnode := HND.out i hik hik2
      obtain ⟨kp, kq, kne⟩ := kid_part hik2
      rw [kp] at hnode
      have HNode : Hid (NodeAt G d wr ks[i] (part l (qat l i))) := hnode.same hb.size fun b _ hlt => hb.block b hlt
      have hcl : ks[i].X = cx (part l (qat l i)) ∧ ks[i].Y = cy (part l (qat l i)) ∧ ks[i].L = lev (part l (qat l i)) := by
        cases d with
        | zero => exact hnode.elim
        | succ d => exact ⟨hnode.1, hnode.2.1, hnode.2.2.1⟩
      have hwh := kid_wher HON.out HM.out kne
      rw [HX.out, HY.out, HL.out] at hwh
      have hlv := lev_part HON.out HM.out (qat l i)
      have hll := HL.out
      rw [HM.out] at hll
      have onp := lev_cl (HON.out.part (qat l i))
      have HC : Hid _ := where_any X Y L (cx (part l (qat l i))) (cy (part l (qat l i))) bX bY (by have := onp.x31; omega) (by have := onp.y31; omega)
      rw [hwh] at HC
      have HCall : Hid _ := fun (W : World) (hW : NodeAt G d W ks[i] (part l (qat l i))) => IH.out (part l (qat l i)) ks[i] W G hW (HON.out.part _) (Nat.le_trans (part_sub l _) HLen.out) kne
      have HNx := cntTo_next d l i hik2
      rw [kp] at HNx
      have HLe := cntTo_le d l HON.out (i + 1)
      have hLn := HLen.out
      rw [HNx] at HLe
      have hzi := HZ.out i (Nat.le_refl _) hlt
      have HRise : Hid (∀ p, i + 1 ≤ p → p < kn → (qat l i : Int) < (qat l p : Int)) := fun p hp hpn => by
        have := qat_rise (l := l) (i := i) (j := p) (by omega) (by have := HKN.out; have := HKS.out; omega)
        omega
      obtain ⟨hc1, hc2, hc3⟩ := hcl
      generalize hkid : ks[i] = kid at *
      obtain ⟨kX, kY, kL, kro, krn, krc, kko, kkn, kkc⟩ := kid
      simp only at hc1 hc2 hc3
      subst hc1 hc2
      obtain ⟨c0, c1, c2, c3, c4⟩ := hcell
      simp only at c0 c1 c2 c3 c4
      have HCells : Hid _ := And.intro c0 (And.intro c1 (And.intro c2 (And.intro c3 c4)))
      have hkL : (kL : Int) < L := by omega
      generalize hcntE : cnt d (part l (qat l i)) = cn at *
      generalize hqi : (qat l i : Int) = zq at *
      generalize cx (part l (qat l i)) = kX at *
      generalize cy (part l (qat l i)) = kY at *
      simp only [wv, hqi] at HC
      have q1 : (i : Int) < (kn : Int) := by omega
      have i0 : (0 : Int) ≤ (i : Int) := by omega
      have i1 : (i : Int) + 1 ≤ 9223372036854775807 := by omega
      have HO1 : Hid (o' + cn = 1 + cntTo d l (i + 1)) := by
        refine (?_ : o' + cn = 1 + cntTo d l (i + 1))
        rw [HO.out, HNx]; omega
      have hsum : (o' : Int) + (cn : Int) = ((o' + cn : Nat) : Int) := by omega
      have HSum : Hid ((o' : Int) + (cn : Int) = ((o' + cn : Nat) : Int)) := hsum
      have hob : (o' : Int) + (cn : Int) ≤ 9223372036854775807 := by have := HO.out; omega
      have q5 : decide (zq ≤ zl) = false := decide_eq_false (by omega)
      obtain ⟨zkL, hzkL⟩ : ∃ zkL : Int, (kL : Int) = zkL := ⟨_, rfl⟩
      have q6 : decide (L ≤ zkL) = false := decide_eq_false (by omega)
      have HZK : Hid ((kL : Int) = zkL) := hzkL
      rw [hzkL] at c2
      have HSW : Hid (N3 w.heap.size (.int .u32 (X : Int)) (.int .u32 (Y : Int)) (.int .i64 L) (.slice ro 0 rcap) (.slice (some ⟨b, off, none⟩) kn kc) b (off + i * 5) (.int .u32 (kX : Int)) (.int .u32 (kY : Int)) (.int .i64 zkL) wr.drew) := ⟨F5.of hg, c0, c1, c2⟩
      clear hwh hlv hll onp HNx HLe hLn hzi hnode hkid hc hcntE hqi hc3 hkL hzkL hsum c0 c1 c2 c3 c4 hb hg bX bY kp kq kne q2 q4 k2 k4 k00 hik hik2 hbl0 hi
      go_wp2_with fail
      refine wp_region_held (S := N3 w.heap.size (.int .u32 (X : Int)) (.int .u32 (Y : Int)) (.int .i64 L) (.slice ro 0 rcap) (.slice (some ⟨b, off, none⟩) kn kc) b (off + i * 5) (.int .u32 (kX : Int)) (.int .u32 (kY : Int)) (.int .i64 zkL)) (by kernel_rfl) ?_
      change wpAnyH _ _ _ _ _ _ _ _ (World.drew _)
      clear f0 f1 f2 f3 f4
      refine wpAnyH_take (i := 0) (v := ?_) rfl (by kernel_rfl) (by kernel_rfl) (by kernel_rfl) (fun _ _ _ h => h) (Or.inl ⟨by kernel_rfl, ?_⟩) HSW.out ?_
      rotate_left
      · intro w hS
        obtain ⟨⟨e1, e2, e3, e4, e5⟩, e6, e7, e8⟩ := hS
        go_simp
        try with_reducible rfl
      conv in (Act.put _ _ _) => simp only [List.getElem_toArray, List.getElem_cons_succ, List.getElem_cons_zero, Act.put, List.setIfInBounds_toArray, List.set_cons_succ, List.set_cons_zero]
      refine wpAnyH_take (i := 1) (v := ?_) rfl (by kernel_rfl) (by kernel_rfl) (by kernel_rfl) (fun _ _ _ h => h) (Or.inl ⟨by kernel_rfl, ?_⟩) HSW.out ?_
      rotate_left
      · intro w hS
        obtain ⟨⟨e1, e2, e3, e4, e5⟩, e6, e7, e8⟩ := hS
        go_simp
        try with_reducible rfl
      conv in (Act.put _ _ _) => simp only [List.getElem_toArray, List.getElem_cons_succ, List.getElem_cons_zero, Act.put, List.setIfInBounds_toArray, List.set_cons_succ, List.set_cons_zero]
      refine wpAnyH_take (i := 2) (v := ?_) rfl (by kernel_rfl) (by kernel_rfl) (by kernel_rfl) (fun _ _ _ h => h) (Or.inl ⟨by kernel_rfl, ?_⟩) HSW.out ?_
      rotate_left
      · intro w hS
        obtain ⟨⟨e1, e2, e3, e4, e5⟩, e6, e7, e8⟩ := hS
        go_simp
        try with_reducible rfl
      conv in (Act.put _ _ _) => simp only [List.getElem_toArray, List.getElem_cons_succ, List.getElem_cons_zero, Act.put, List.setIfInBounds_toArray, List.set_cons_succ, List.set_cons_zero]
      refine wpAnyH_take (i := 3) (v := ?_) rfl (by kernel_rfl) (by kernel_rfl) (by kernel_rfl) (fun _ _ _ h => h) (Or.inl ⟨by kernel_rfl, ?_⟩) HSW.out ?_
      rotate_left
      · intro w hS
        obtain ⟨⟨e1, e2, e3, e4, e5⟩, e6, e7, e8⟩ := hS
        go_simp
        try with_reducible rfl
      conv in (Act.put _ _ _) => simp only [List.getElem_toArray, List.getElem_cons_succ, List.getElem_cons_zero, Act.put, List.setIfInBounds_toArray, List.set_cons_succ, List.set_cons_zero]
      refine wpAnyH_take (i := 4) (v := ?_) rfl (by kernel_rfl) (by kernel_rfl) (by kernel_rfl) (fun _ _ _ h => h) (Or.inl ⟨by kernel_rfl, ?_⟩) HSW.out ?_
      rotate_left
      · intro w hS
        obtain ⟨⟨e1, e2, e3, e4, e5⟩, e6, e7, e8⟩ := hS
        go_simp
        try with_reducible rfl
      conv in (Act.put _ _ _) => simp only [List.getElem_toArray, List.getElem_cons_succ, List.getElem_cons_zero, Act.put, List.setIfInBounds_toArray, List.set_cons_succ, List.set_cons_zero]
      refine wpAnyH_take (i := 5) (v := ?_) rfl (by kernel_rfl) (by kernel_rfl) (by kernel_rfl) (fun _ _ _ h => h) (Or.inl ⟨by kernel_rfl, ?_⟩) HSW.out ?_
      rotate_left
      · intro w hS
        obtain ⟨⟨e1, e2, e3, e4, e5⟩, e6, e7, e8⟩ := hS
        go_simp
        try with_reducible rfl
      conv in (Act.put _ _ _) => simp only [List.getElem_toArray, List.getElem_cons_succ, List.getElem_cons_zero, Act.put, List.setIfInBounds_toArray, List.set_cons_succ, List.set_cons_zero]
      refine wpAnyH_take (i := 6) (v := ?_) rfl (by kernel_rfl) (by kernel_rfl) (by kernel_rfl) (fun _ _ _ h => h) (Or.inl ⟨by kernel_rfl, ?_⟩) HSW.out ?_
      rotate_left
      · intro w hS
        obtain ⟨⟨e1, e2, e3, e4, e5⟩, e6, e7, e8⟩ := hS
        go_simp
        try with_reducible rfl
      conv in (Act.put _ _ _) => simp only [List.getElem_toArray, List.getElem_cons_succ, List.getElem_cons_zero, Act.put, List.setIfInBounds_toArray, List.set_cons_succ, List.set_cons_zero]
      refine wpAnyH_take (i := 7) (v := ?_) rfl (by kernel_rfl) (by kernel_rfl) (by kernel_rfl) (fun _ _ _ h => h) (Or.inl ⟨by kernel_rfl, ?_⟩) HSW.out ?_
      rotate_left
      · intro w hS
        obtain ⟨⟨e1, e2, e3, e4, e5⟩, e6, e7, e8⟩ := hS
        go_simp
        try with_reducible rfl
      conv in (Act.put _ _ _) => simp only [List.getElem_toArray, List.getElem_cons_succ, List.getElem_cons_zero, Act.put, List.setIfInBounds_toArray, List.set_cons_succ, List.set_cons_zero]
      refine wpAnyH_take (i := 8) (v := ?_) rfl (by kernel_rfl) (by kernel_rfl) (by kernel_rfl) (fun _ _ _ h => h) (Or.inl ⟨by kernel_rfl, ?_⟩) HSW.out ?_
      rotate_left
      · intro w hS
        obtain ⟨⟨e1, e2, e3, e4, e5⟩, e6, e7, e8⟩ := hS
        go_simp
        try with_reducible rfl
      conv in (Act.put _ _ _) => simp only [List.getElem_toArray, List.getElem_cons_succ, List.getElem_cons_zero, Act.put, List.setIfInBounds_toArray, List.set_cons_succ, List.set_cons_zero]
      refine wpAnyH_take (i := 9) (v := ?_) rfl (by kernel_rfl) (by kernel_rfl) (by kernel_rfl) (fun _ _ _ h => h) (Or.inl ⟨by kernel_rfl, ?_⟩) HSW.out ?_
      rotate_left
      · intro w hS
        obtain ⟨⟨e1, e2, e3, e4, e5⟩, e6, e7, e8⟩ := hS
        go_simp
        try with_reducible rfl
      conv in (Act.put _ _ _) => simp only [List.getElem_toArray, List.getElem_cons_succ, List.getElem_cons_zero, Act.put, List.setIfInBounds_toArray, List.set_cons_succ, List.set_cons_zero]
      refine wpAnyH_take (i := 10) (v := ?_) rfl (by kernel_rfl) (by kernel_rfl) (by kernel_rfl) (fun _ _ _ h => h) (Or.inl ⟨by kernel_rfl, ?_⟩) HSW.out ?_
      rotate_left
      · intro w hS
        obtain ⟨⟨e1, e2, e3, e4, e5⟩, e6, e7, e8⟩ := hS
        go_simp
        try with_reducible rfl
      conv in (Act.put _ _ _) => simp only [List.getElem_toArray, List.getElem_cons_succ, List.getElem_cons_zero, Act.put, List.setIfInBounds_toArray, List.set_cons_succ, List.set_cons_zero]
      refine wpAnyH_take (i := 11) (v := ?_) rfl (by kernel_rfl) (by kernel_rfl) (by kernel_rfl) (fun _ _ _ h => h) (Or.inl ⟨by kernel_rfl, ?_⟩) HSW.out ?_
      rotate_left
      · intro w hS
        obtain ⟨⟨e1, e2, e3, e4, e5⟩, e6, e7, e8⟩ := hS
        go_simp
        try with_reducible rfl
      conv in (Act.put _ _ _) => simp only [List.getElem_toArray, List.getElem_cons_succ, List.getElem_cons_zero, Act.put, List.setIfInBounds_toArray, List.set_cons_succ, List.set_cons_zero]
      refine wpAnyH_take (i := 12) (v := ?_) rfl (by kernel_rfl) (by kernel_rfl) (by kernel_rfl) (fun _ _ _ h => h) (Or.inl ⟨by kernel_rfl, ?_⟩) HSW.out ?_
      rotate_left
      · intro w hS
        obtain ⟨⟨e1, e2, e3, e4, e5⟩, e6, e7, e8⟩ := hS
        go_simp
        try with_reducible rfl
      conv in (Act.put _ _ _) => simp only [List.getElem_toArray, List.getElem_cons_succ, List.getElem_cons_zero, Act.put, List.setIfInBounds_toArray, List.set_cons_succ, List.set_cons_zero]
      refine wpAnyH_take (i := 13) (v := ?_) rfl (by kernel_rfl) (by kernel_rfl) (by kernel_rfl) (fun _ _ _ h => h) (Or.inl ⟨by kernel_rfl, ?_⟩) HSW.out ?_
      rotate_left
      · intro w hS
        obtain ⟨⟨e1, e2, e3, e4, e5⟩, e6, e7, e8⟩ := hS
        go_simp
        try with_reducible rfl
      conv in (Act.put _ _ _) => simp only [List.getElem_toArray, List.getElem_cons_succ, List.getElem_cons_zero, Act.put, List.setIfInBounds_toArray, List.set_cons_succ, List.set_cons_zero]
      refine wpAnyH_take (i := 14) (v := ?_) rfl (by kernel_rfl) (by kernel_rfl) (by kernel_rfl) (fun _ _ _ h => h) (Or.inl ⟨by kernel_rfl, ?_⟩) HSW.out ?_
      rotate_left
      · intro w hS
        obtain ⟨⟨e1, e2, e3, e4, e5⟩, e6, e7, e8⟩ := hS
        go_simp
        try with_reducible rfl
      conv in (Act.put _ _ _) => simp only [List.getElem_toArray, List.getElem_cons_succ, List.getElem_cons_zero, Act.put, List.setIfInBounds_toArray, List.set_cons_succ, List.set_cons_zero]
      refine wpAnyH_take (i := 15) (v := ?_) rfl (by kernel_rfl) (by kernel_rfl) (by kernel_rfl) (fun _ _ _ h => h) (Or.inl ⟨by kernel_rfl, ?_⟩) HSW.out ?_
      rotate_left
      · intro w hS
        obtain ⟨⟨e1, e2, e3, e4, e5⟩, e6, e7, e8⟩ := hS
        go_simp
        try with_reducible rfl
      conv in (Act.put _ _ _) => simp only [List.getElem_toArray, List.getElem_cons_succ, List.getElem_cons_zero, Act.put, List.setIfInBounds_toArray, List.set_cons_succ, List.set_cons_zero]
      refine readyH 16 _ (by kernel_rfl) rfl (by kernel_rfl) (fun K hK => ?_)
      go_simp
      refine (HC.out _).mono ?_
      rintro e w1 ⟨rfl, b1⟩
      replace b1 : Below wr.heap.size wr w1 := (Below.refl _ wr).drew.trans b1
      have HG1 : Hid _ := (b1.block _ hgs).trans HGr.out
      have HBw : Hid (Below wr.heap.size wr w1) := b1
      have HB1 : Hid (Below w.heap.size w w1) := HBr.out.trans (b1.mono (Nat.le_of_lt hgs))
      replace HSW : Hid (N3 w.heap.size (.int .u32 (X : Int)) (.int .u32 (Y : Int)) (.int .i64 L) (.slice ro 0 rcap) (.slice (some ⟨b, off, none⟩) kn kc) b (off + i * 5) (.int .u32 (kX : Int)) (.int .u32 (kY : Int)) (.int .i64 zkL) w1) := HSW.out.same (b1.block _ hgs) (b1.block _ hbl)
      refine hK _ _ HSW.out ?_
      clear hK K b1
      refine wpAnyH_take (i := 17) (v := ?_) rfl (by kernel_rfl) (by kernel_rfl) (by kernel_rfl) (fun _ _ _ h => h) (Or.inl ⟨by kernel_rfl, ?_⟩) HSW.out ?_
      rotate_left
      · intro w hS
        obtain ⟨⟨e1, e2, e3, e4, e5⟩, e6, e7, e8⟩ := hS
        go_simp
        try with_reducible rfl
      conv in (Act.put _ _ _) => simp only [List.getElem_toArray, List.getElem_cons_succ, List.getElem_cons_zero, Act.put, List.setIfInBounds_toArray, List.set_cons_succ, List.set_cons_zero]
      refine wpAnyH_take (i := 18) (v := ?_) rfl (by kernel_rfl) (by kernel_rfl) (by kernel_rfl) (fun _ _ _ h => h) (Or.inl ⟨by kernel_rfl, ?_⟩) HSW.out ?_
      rotate_left
      · intro w hS
        obtain ⟨⟨e1, e2, e3, e4, e5⟩, e6, e7, e8⟩ := hS
        go_simp
        try with_reducible rfl
      conv in (Act.put _ _ _) => simp only [List.getElem_toArray, List.getElem_cons_succ, List.getElem_cons_zero, Act.put, List.setIfInBounds_toArray, List.set_cons_succ, List.set_cons_zero]
      refine wpAnyH_take (i := 19) (v := ?_) rfl (by kernel_rfl) (by kernel_rfl) (by kernel_rfl) (fun _ _ _ h => h) (Or.inl ⟨by kernel_rfl, ?_⟩) HSW.out ?_
      rotate_left
      · intro w hS
        obtain ⟨⟨e1, e2, e3, e4, e5⟩, e6, e7, e8⟩ := hS
        go_simp
        try with_reducible rfl
      conv in (Act.put _ _ _) => simp only [List.getElem_toArray, List.getElem_cons_succ, List.getElem_cons_zero, Act.put, List.setIfInBounds_toArray, List.set_cons_succ, List.set_cons_zero]
      refine wpAnyH_take (i := 20) (v := ?_) rfl (by kernel_rfl) (by kernel_rfl) (by kernel_rfl) (fun _ _ _ h => h) (Or.inl ⟨by kernel_rfl, ?_⟩) HSW.out ?_
      rotate_left
      · intro w hS
        obtain ⟨⟨e1, e2, e3, e4, e5⟩, e6, e7, e8⟩ := hS
        go_simp
        try with_reducible rfl
      conv in (Act.put _ _ _) => simp only [List.getElem_toArray, List.getElem_cons_succ, List.getElem_cons_zero, Act.put, List.setIfInBounds_toArray, List.set_cons_succ, List.set_cons_zero]
      refine wpAnyH_take (i := 21) (v := ?_) rfl (by kernel_rfl) (by kernel_rfl) (by kernel_rfl) (fun _ _ _ h => h) (Or.inl ⟨by kernel_rfl, ?_⟩) HSW.out ?_
      rotate_left
      · intro w hS
        obtain ⟨⟨e1, e2, e3, e4, e5⟩, e6, e7, e8⟩ := hS
        go_simp
        try with_reducible rfl
      conv in (Act.put _ _ _) => simp only [List.getElem_toArray, List.getElem_cons_succ, List.getElem_cons_zero, Act.put, List.setIfInBounds_toArray, List.set_cons_succ, List.set_cons_zero]
      refine wpAnyH_done (by kernel_rfl) ?_ _
      replace HSW : Hid (N3 w.heap.size (.int .u32 (X : Int)) (.int .u32 (Y : Int)) (.int .i64 L) (.slice ro 0 rcap) (.slice (some ⟨b, off, none⟩) kn kc) b (off + i * 5) (.int .u32 (kX : Int)) (.int .u32 (kY : Int)) (.int .i64 zkL) w1.drew) := HSW.out
      go_wp2_with fail
      refine wp_region_held (S := N3 w.heap.size (.int .u32 (X : Int)) (.int .u32 (Y : Int)) (.int .i64 L) (.slice ro 0 rcap) (.slice (some ⟨b, off, none⟩) kn kc) b (off + i * 5) (.int .u32 (kX : Int)) (.int .u32 (kY : Int)) (.int .i64 zkL)) (by kernel_rfl) ?_
      change wpAnyH _ _ _ _ _ _ _ _ (World.drew _)
      refine wpAnyH_take (i := 0) (v := ?_) rfl (by kernel_rfl) (by kernel_rfl) (by kernel_rfl) (fun _ _ _ h => h) (Or.inl ⟨by kernel_rfl, ?_⟩) HSW.out ?_
      rotate_left
      · intro w hS
        obtain ⟨⟨e1, e2, e3, e4, e5⟩, e6, e7, e8⟩ := hS
        go_simp
        try with_reducible rfl
      conv in (Act.put _ _ _) => simp only [List.getElem_toArray, List.getElem_cons_succ, List.getElem_cons_zero, Act.put, List.setIfInBounds_toArray, List.set_cons_succ, List.set_cons_zero]
      refine wpAnyH_take (i := 1) (v := ?_) rfl (by kernel_rfl) (by kernel_rfl) (by kernel_rfl) (fun _ _ _ h => h) (Or.inl ⟨by kernel_rfl, ?_⟩) HSW.out ?_
      rotate_left
      · intro w hS
        obtain ⟨⟨e1, e2, e3, e4, e5⟩, e6, e7, e8⟩ := hS
        go_simp
        try with_reducible rfl
      conv in (Act.put _ _ _) => simp only [List.getElem_toArray, List.getElem_cons_succ, List.getElem_cons_zero, Act.put, List.setIfInBounds_toArray, List.set_cons_succ, List.set_cons_zero]
      refine wpAnyH_take (i := 2) (v := ?_) rfl (by kernel_rfl) (by kernel_rfl) (by kernel_rfl) (fun _ _ _ h => h) (Or.inl ⟨by kernel_rfl, ?_⟩) HSW.out ?_
      rotate_left
      · intro w hS
        obtain ⟨⟨e1, e2, e3, e4, e5⟩, e6, e7, e8⟩ := hS
        go_simp
        try with_reducible rfl
      conv in (Act.put _ _ _) => simp only [List.getElem_toArray, List.getElem_cons_succ, List.getElem_cons_zero, Act.put, List.setIfInBounds_toArray, List.set_cons_succ, List.set_cons_zero]
      refine wpAnyH_take (i := 3) (v := ?_) rfl (by kernel_rfl) (by kernel_rfl) (by kernel_rfl) (fun _ _ _ h => h) (Or.inl ⟨by kernel_rfl, ?_⟩) HSW.out ?_
      rotate_left
      · intro w hS
        obtain ⟨⟨e1, e2, e3, e4, e5⟩, e6, e7, e8⟩ := hS
        go_simp
        try with_reducible rfl
      conv in (Act.put _ _ _) => simp only [List.getElem_toArray, List.getElem_cons_succ, List.getElem_cons_zero, Act.put, List.setIfInBounds_toArray, List.set_cons_succ, List.set_cons_zero]
      refine wpAnyH_take (i := 4) (v := ?_) rfl (by kernel_rfl) (by kernel_rfl) (by kernel_rfl) (fun _ _ _ h => h) (Or.inl ⟨by kernel_rfl, ?_⟩) HSW.out ?_
      rotate_left
      · intro w hS
        obtain ⟨⟨e1, e2, e3, e4, e5⟩, e6, e7, e8⟩ := hS
        go_simp
        try with_reducible rfl
      conv in (Act.put _ _ _) => simp only [List.getElem_toArray, List.getElem_cons_succ, List.getElem_cons_zero, Act.put, List.setIfInBounds_toArray, List.set_cons_succ, List.set_cons_zero]
      refine wpAnyH_take (i := 5) (v := ?_) rfl (by kernel_rfl) (by kernel_rfl) (by kernel_rfl) (fun _ _ _ h => h) (Or.inl ⟨by kernel_rfl, ?_⟩) HSW.out ?_
      rotate_left
      · intro w hS
        obtain ⟨⟨e1, e2, e3, e4, e5⟩, e6, e7, e8⟩ := hS
        go_simp
        try with_reducible rfl
      conv in (Act.put _ _ _) => simp only [List.getElem_toArray, List.getElem_cons_succ, List.getElem_cons_zero, Act.put, List.setIfInBounds_toArray, List.set_cons_succ, List.set_cons_zero]
      refine wpAnyH_take (i := 6) (v := ?_) rfl (by kernel_rfl) (by kernel_rfl) (by kernel_rfl) (fun _ _ _ h => h) (Or.inl ⟨by kernel_rfl, ?_⟩) HSW.out ?_
      rotate_left
      · intro w hS
        obtain ⟨⟨e1, e2, e3, e4, e5⟩, e6, e7, e8⟩ := hS
        go_simp
        try with_reducible rfl
      conv in (Act.put _ _ _) => simp only [List.getElem_toArray, List.getElem_cons_succ, List.getElem_cons_zero, Act.put, List.setIfInBounds_toArray, List.set_cons_succ, List.set_cons_zero]
      refine wpAnyH_take (i := 7) (v := ?_) rfl (by kernel_rfl) (by kernel_rfl) (by kernel_rfl) (fun _ _ _ h => h) (Or.inl ⟨by kernel_rfl, ?_⟩) HSW.out ?_
      rotate_left
      · intro w hS
        obtain ⟨⟨e1, e2, e3, e4, e5⟩, e6, e7, e8⟩ := hS
        go_simp
        try with_reducible rfl
      conv in (Act.put _ _ _) => simp only [List.getElem_toArray, List.getElem_cons_succ, List.getElem_cons_zero, Act.put, List.setIfInBounds_toArray, List.set_cons_succ, List.set_cons_zero]
      refine wpAnyH_take (i := 8) (v := ?_) rfl (by kernel_rfl) (by kernel_rfl) (by kernel_rfl) (fun _ _ _ h => h) (Or.inl ⟨by kernel_rfl, ?_⟩) HSW.out ?_
      rotate_left
      · intro w hS
        obtain ⟨⟨e1, e2, e3, e4, e5⟩, e6, e7, e8⟩ := hS
        go_simp
        try with_reducible rfl
      conv in (Act.put _ _ _) => simp only [List.getElem_toArray, List.getElem_cons_succ, List.getElem_cons_zero, Act.put, List.setIfInBounds_toArray, List.set_cons_succ, List.set_cons_zero]
      refine wpAnyH_take (i := 9) (v := ?_) rfl (by kernel_rfl) (by kernel_rfl) (by kernel_rfl) (fun _ _ _ h => h) (Or.inl ⟨by kernel_rfl, ?_⟩) HSW.out ?_
      rotate_left
      · intro w hS
        obtain ⟨⟨e1, e2, e3, e4, e5⟩, e6, e7, e8⟩ := hS
        go_simp
        try with_reducible rfl
      conv in (Act.put _ _ _) => simp only [List.getElem_toArray, List.getElem_cons_succ, List.getElem_cons_zero, Act.put, List.setIfInBounds_toArray, List.set_cons_succ, List.set_cons_zero]
      refine wpAnyH_take (i := 10) (v := ?_) rfl (by kernel_rfl) (by kernel_rfl) (by kernel_rfl) (fun _ _ _ h => h) (Or.inl ⟨by kernel_rfl, ?_⟩) HSW.out ?_
      rotate_left
      · intro w hS
        obtain ⟨⟨e1, e2, e3, e4, e5⟩, e6, e7, e8⟩ := hS
        go_simp
        try with_reducible rfl
      conv in (Act.put _ _ _) => simp only [List.getElem_toArray, List.getElem_cons_succ, List.getElem_cons_zero, Act.put, List.setIfInBounds_toArray, List.set_cons_succ, List.set_cons_zero]
      refine wpAnyH_take (i := 11) (v := ?_) rfl (by kernel_rfl) (by kernel_rfl) (by kernel_rfl) (fun _ _ _ h => h) (Or.inl ⟨by kernel_rfl, ?_⟩) HSW.out ?_
      rotate_left
      · intro w hS
        obtain ⟨⟨e1, e2, e3, e4, e5⟩, e6, e7, e8⟩ := hS
        go_simp
        try with_reducible rfl
      conv in (Act.put _ _ _) => simp only [List.getElem_toArray, List.getElem_cons_succ, List.getElem_cons_zero, Act.put, List.setIfInBounds_toArray, List.set_cons_succ, List.set_cons_zero]
      refine wpAnyH_take (i := 12) (v := ?_) rfl (by kernel_rfl) (by kernel_rfl) (by kernel_rfl) (fun _ _ _ h => h) (Or.inl ⟨by kernel_rfl, ?_⟩) HSW.out ?_
      rotate_left
      · intro w hS
        obtain ⟨⟨e1, e2, e3, e4, e5⟩, e6, e7, e8⟩ := hS
        go_simp
        try with_reducible rfl
      conv in (Act.put _ _ _) => simp only [List.getElem_toArray, List.getElem_cons_succ, List.getElem_cons_zero, Act.put, List.setIfInBounds_toArray, List.set_cons_succ, List.set_cons_zero]
      refine wpAnyH_take (i := 13) (v := ?_) rfl (by kernel_rfl) (by kernel_rfl) (by kernel_rfl) (fun _ _ _ h => h) (Or.inl ⟨by kernel_rfl, ?_⟩) HSW.out ?_
      rotate_left
      · intro w hS
        obtain ⟨⟨e1, e2, e3, e4, e5⟩, e6, e7, e8⟩ := hS
        go_simp
        try with_reducible rfl
      conv in (Act.put _ _ _) => simp only [List.getElem_toArray, List.getElem_cons_succ, List.getElem_cons_zero, Act.put, List.setIfInBounds_toArray, List.set_cons_succ, List.set_cons_zero]
      refine wpAnyH_take (i := 14) (v := ?_) rfl (by kernel_rfl) (by kernel_rfl) (by kernel_rfl) (fun _ _ _ h => h) (Or.inl ⟨by kernel_rfl, ?_⟩) HSW.out ?_
      rotate_left
      · intro w hS
        obtain ⟨⟨e1, e2, e3, e4, e5⟩, e6, e7, e8⟩ := hS
        go_simp
        try with_reducible rfl
      conv in (Act.put _ _ _) => simp only [List.getElem_toArray, List.getElem_cons_succ, List.getElem_cons_zero, Act.put, List.setIfInBounds_toArray, List.set_cons_succ, List.set_cons_zero]
      refine wpAnyH_take (i := 15) (v := ?_) rfl (by kernel_rfl) (by kernel_rfl) (by kernel_rfl) (fun _ _ _ h => h) (Or.inl ⟨by kernel_rfl, ?_⟩) HSW.out ?_
      rotate_left
      · intro w hS
        obtain ⟨⟨e1, e2, e3, e4, e5⟩, e6, e7, e8⟩ := hS
        go_simp
        try with_reducible rfl
      conv in (Act.put _ _ _) => simp only [List.getElem_toArray, List.getElem_cons_succ, List.getElem_cons_zero, Act.put, List.setIfInBounds_toArray, List.set_cons_succ, List.set_cons_zero]
      refine wpAnyH_take (i := 16) (v := ?_) rfl (by kernel_rfl) (by kernel_rfl) (by kernel_rfl) (fun _ _ _ h => h) (Or.inl ⟨by kernel_rfl, ?_⟩) HSW.out ?_
      rotate_left
      · intro w hS
        obtain ⟨⟨e1, e2, e3, e4, e5⟩, e6, e7, e8⟩ := hS
        go_simp
        try with_reducible rfl
      conv in (Act.put _ _ _) => simp only [List.getElem_toArray, List.getElem_cons_succ, List.getElem_cons_zero, Act.put, List.setIfInBounds_toArray, List.set_cons_succ, List.set_cons_zero]
      refine wpAnyH_take (i := 17) (v := ?_) rfl (by kernel_rfl) (by kernel_rfl) (by kernel_rfl) (fun _ _ _ h => h) (Or.inl ⟨by kernel_rfl, ?_⟩) HSW.out ?_
      rotate_left
      · intro w hS
        obtain ⟨⟨e1, e2, e3, e4, e5⟩, e6, e7, e8⟩ := hS
        go_simp
        try with_reducible rfl
      conv in (Act.put _ _ _) => simp only [List.getElem_toArray, List.getElem_cons_succ, List.getElem_cons_zero, Act.put, List.setIfInBounds_toArray, List.set_cons_succ, List.set_cons_zero]
      refine wpAnyH_take (i := 18) (v := ?_) rfl (by kernel_rfl) (by kernel_rfl) (by kernel_rfl) (fun _ _ _ h => h) (Or.inl ⟨by kernel_rfl, ?_⟩) HSW.out ?_
      rotate_left
      · intro w hS
        obtain ⟨⟨e1, e2, e3, e4, e5⟩, e6, e7, e8⟩ := hS
        go_simp
        try with_reducible rfl
      conv in (Act.put _ _ _) => simp only [List.getElem_toArray, List.getElem_cons_succ, List.getElem_cons_zero, Act.put, List.setIfInBounds_toArray, List.set_cons_succ, List.set_cons_zero]
      refine wpAnyH_take (i := 19) (v := ?_) rfl (by kernel_rfl) (by kernel_rfl) (by kernel_rfl) (fun _ _ _ h => h) (Or.inl ⟨by kernel_rfl, ?_⟩) HSW.out ?_
      rotate_left
      · intro w hS
        obtain ⟨⟨e1, e2, e3, e4, e5⟩, e6, e7, e8⟩ := hS
        go_simp
        try with_reducible rfl
      conv in (Act.put _ _ _) => simp only [List.getElem_toArray, List.getElem_cons_succ, List.getElem_cons_zero, Act.put, List.setIfInBounds_toArray, List.set_cons_succ, List.set_cons_zero]
      refine wpAnyH_done (by kernel_rfl) ?_ _
      obtain ⟨y0, y1, y2, y3, y4⟩ := HCells.out
      have Y0 := (World.cell?_of_block (a := ⟨b, off + i * 5, none⟩) (HBw.out.block b hbl)).trans y0
      have Y1 := (World.cell?_of_block (a := ⟨b, off + i * 5 + 1, none⟩) (HBw.out.block b hbl)).trans y1
      have Y2 := (World.cell?_of_block (a := ⟨b, off + i * 5 + 2, none⟩) (HBw.out.block b hbl)).trans y2
      have Y3 := (World.cell?_of_block (a := ⟨b, off + i * 5 + 3, none⟩) (HBw.out.block b hbl)).trans y3
      have Y4 := (World.cell?_of_block (a := ⟨b, off + i * 5 + 4, none⟩) (HBw.out.block b hbl)).trans y4
      obtain ⟨z0, z1, z2, z3, z4, f0, f1, f2, f3, f4⟩ := node_facts HG1.out
      clear y0 y1 y2 y3 y4 z0 z1 z2 z3 z4 HSW q5 q6
      have HCall1 : Hid _ := HCall.out w1.drew (HNode.out.same (Nat.le_trans HBw.out.size (by simp)) fun b _ hlt => HBw.out.block b hlt)
      clear HCall HNode HC HCells
      go_wp2_with fail
      refine Calls.mono HCall1.out ?_
      rintro e w2 ⟨rfl, b2⟩
      replace b2 : Below w1.heap.size w1 w2 := (Below.refl _ w1).drew.trans b2
      have HS1 := HBw.out.size
      have HG2 : Hid _ := (b2.block _ (by omega)).trans HG1.out
      have HB2 : Hid (Below w.heap.size w w2) := HB1.out.trans (b2.mono (by omega))
      clear b2 HCall1 Y0 Y1 Y2 Y3 Y4 f0 f1 f2 f3 f4
      go_wp2_with fail
      go_roundw
      case rel => exact ⟨i + 1, o' + cn, zq, by omega, by rw [HSum.out], rfl, by go_num, HO1.out, HRise.out, HG2.out, HB2.out⟩
      case measure => simp [natOf]; omega
    · obtain rfl : i = kn := by omega
      have q1 : ¬ (i : Int) < (i : Int) := by omega
      clear hb hg
      go_wp2_with fail
      go_ret
      refine ⟨?_, HBr.out⟩
      rw [HCnt.out, ← HO.out]
      rfl
set_option maxRecDepth 100000 in
theorem whole_any : ∀ (d : Nat) (l : List Rw) (n : Nv) (w : World) (G : Nat → Prop) (top : Bool), NodeAt G d w n l → On l → l.length ≤ 1000 → (l.length = 0 → top = true) →
    Calls Try.prog 30 #[nv n, .bool top] w fun e w' => e = .returned (.int .i64 (cnt d l : Int)) ∧ Below w.heap.size w w'
  | 0, _, _, _, _, _, h, _, _, _ => h.elim
  | d + 1, l, n, w, G, top, h, hon, hlen, hne => by
    obtain ⟨h1, h2, h3, h4, h5⟩ := h
    obtain ⟨X, Y, L, ro, rn, rc', ko, kn, kc⟩ := n
    simp only at h1 h2 h3 h4 h5
    cases hlf : leaf l
    · obtain ⟨a, b, ks, c, e, f, f', g⟩ := h5 hlf
      subst a
      exact whole_inner d (fun l n w G hn ho hl hne => whole_any d l n w G false hn ho hl (fun e => absurd (List.eq_nil_of_length_eq_zero e) hne)) G l X Y (L : Int) ro rc' ko kn kc top w ks c e f g hon hlen hlf h1.symm h2.symm (by rw [h3])
    · obtain ⟨a, b, b', c, e⟩ := h4 hlf
      subst a c
      rw [cnt, if_pos hlf]
      exact whole_leaf l X Y (L : Int) ro rc' ko kc top w b hon hlen hne hlf h1.symm h2.symm (by rw [h3])
end Go.Proofs.Ytaiiclkfnahghaa.Rq
