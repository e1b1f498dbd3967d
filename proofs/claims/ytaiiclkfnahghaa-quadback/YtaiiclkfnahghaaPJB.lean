/- The kids of a node, and the function that goes through nodes. -/
import Derived.Test.YtaiiclkfnahghaaPJA
import Derived.Test.YtaiiclkfnahghaaPGM
namespace Go.Proofs.Ytaiiclkfnahghaa.Rq
open Go.RowKit Go.Lib Go.Shelf
open Go.Proofs.Ytaiiclkfnahghaa.Rc
set_option maxRecDepth 100000 in
set_option maxHeartbeats 4000000 in
theorem kids_any (X Y L : Nat) (ro : Option Addr) (rn rcc : Nat) (ko : Option Addr) (kn kc : Nat) (ks : List Nv) (q : Nat → Nat) (w : World) (hkn : kn = ks.length) (hna : NodesAt w ko kc ks) (h4 : ks.length ≤ 4) (bX : X < 4294967296) (bY : Y < 4294967296)
    (hw : ∀ i (h : i < ks.length), wher X Y (L : Int) ks[i].X ks[i].Y = (q i, 0) ∧ ks[i].X < 4294967296 ∧ ks[i].Y < 4294967296 ∧ rightS ks[i].X ks[i].Y (ks[i].L : Int) = true ∧ ks[i].L < L) (hq : ∀ i j, i < j → j < ks.length → q i < q j) :
    Calls Try.prog 88 #[.agg #[.int .u32 (X : Int), .int .u32 (Y : Int), .int .i64 (L : Int), .slice ro rn rcc, .slice ko kn kc]] w fun e w' => ∃ v, e = .returned v ∧ w'.ownsRow w.heap.size 33 5 v ks.length (ks.flatMap nc) ∧ Below w.heap.size w w' := by
  have HBn : Hid (Below w.heap.size w (w.alloc (.cells #[.int .u32 (X : Int), .int .u32 (Y : Int), .int .i64 (L : Int), .slice ro rn rcc, .slice ko kn kc] 33))) := below_new w _
  have HGn : Hid ((w.alloc (.cells #[.int .u32 (X : Int), .int .u32 (Y : Int), .int .i64 (L : Int), .slice ro rn rcc, .slice ko kn kc] 33)).heap[w.heap.size]? = some (.cells #[.int .u32 (X : Int), .int .u32 (Y : Int), .int .i64 (L : Int), .slice ro rn rcc, .slice ko kn kc] 33 (0, 0))) := heap_alloc_new w _
  have HNA : Hid (NodesAt w ko kc ks) := hna
  have HW : Hid _ := hw
  have HQ : Hid (∀ i j, i < j → j < ks.length → q i < q j) := hq
  have HKN : Hid (kn = ks.length ∧ ks.length ≤ 4) := ⟨hkn, h4⟩
  have hk4 : kn ≤ 4 := by omega
  obtain ⟨zL, hzL⟩ : ∃ zL : Int, (L : Int) = zL := ⟨_, rfl⟩
  have HZL : Hid ((L : Int) = zL) := hzL
  rw [hzL] at HBn HGn HW ⊢
  clear hna hw hq hkn h4 hzL
  go_enter Try.func88, Try.ntmps88
  go_wp2_with fail
  go_loopw [3, 4, 12] (fun v z j wr => ∃ i : Nat, ∃ zl : Int, i ≤ kn ∧ z = .int .i64 zl ∧ j = .int .i64 (i : Int) ∧ (∀ p, i ≤ p → p < kn → zl < (q p : Int)) ∧ wr.ownsRow (w.heap.size + 1) 33 5 v i ((ks.take i).flatMap nc) ∧ wr.heap[w.heap.size]? = some (.cells #[.int .u32 (X : Int), .int .u32 (Y : Int), .int .i64 zL, .slice ro rn rcc, .slice ko kn kc] 33 (0, 0)) ∧ Below w.heap.size w wr) (fun _ _ j _ => kn - natOf j)
  case atStart => exact ⟨0, -1, by omega, rfl, rfl, fun p _ _ => by omega, World.ownsRow_nil _ _ _ _, HGn.out, HBn.out⟩
  case round =>
    obtain ⟨i, zl, hi, rfl, rfl, hz, ho, hg, hb⟩ := hrel
    have HO : Hid (wr.ownsRow (w.heap.size + 1) 33 5 u3 i ((ks.take i).flatMap nc)) := ho
    have HGr : Hid _ := hg
    have HBr : Hid (Below w.heap.size w wr) := hb
    have hgs : w.heap.size < wr.heap.size := (Array.getElem?_eq_some_iff.1 hg).1
    obtain ⟨z0, z1, z2, z3, z4, f0, f1, f2, f3, f4⟩ := node_facts hg
    clear z0 z1 z2 z3 z4
    by_cases hlt : i < kn
    · have hik : i < ks.length := by have := HKN.out; omega
      obtain ⟨b, off, rfl, hbl0, hc⟩ := HNA.out.node (by omega)
      have hbl : b < wr.heap.size := Nat.lt_of_lt_of_le hbl0 hb.size
      obtain ⟨c0, c1, c2, c3, c4⟩ := (hc i hik).same (hb.block b hbl0)
      obtain ⟨x1, x2, x3, x4, x5⟩ := HW.out i hik
      have HC : Hid _ := where_any X Y zL ks[i].X ks[i].Y bX bY x2 x3
      rw [x1] at HC
      have HR : Hid _ := right_any ks[i].X ks[i].Y (ks[i].L : Int) x2 x3
      rw [x4] at HR
      have htk : ks.take (i + 1) = ks.take i ++ [ks[i]] := by rw [List.take_add_one, List.getElem?_eq_getElem hik]; rfl
      have HTK : Hid (ks.take (i + 1) = ks.take i ++ [ks[i]]) := htk
      have hzi := hz i (Nat.le_refl _) hlt
      have HQ1 : Hid (∀ p, i + 1 ≤ p → p < kn → (q i : Int) < (q p : Int)) := fun p hp hpn => by
        have := HQ.out i p (by omega) (by have := HKN.out; omega)
        omega
      generalize ks[i] = kid at *
      obtain ⟨kX, kY, kL, kro, krn, krc, kko, kkn, kkc⟩ := kid
      simp only at c0 c1 c2 c3 c4 HC HR x5
      obtain ⟨zk, hzk⟩ : ∃ zk : Int, (kL : Int) = zk := ⟨_, rfl⟩
      have q6 : decide (zk < zL) = true := decide_eq_true (by have := HZL.out; omega)
      have HZK : Hid ((kL : Int) = zk) := hzk
      rw [hzk] at c2 HR
      simp only [wv] at HC
      generalize hqi : (q i : Int) = zq at *
      have q5 : decide (zl < zq) = true := decide_eq_true (by omega)
      have q1 : (i : Int) < (kn : Int) := by omega
      have i0 : (0 : Int) ≤ (i : Int) := by omega
      have i1 : (i : Int) + 1 ≤ 9223372036854775807 := by omega
      clear x1 x2 x3 x4 x5 hc htk hz hzi hqi hzk ho hg hb hbl0 hik bX bY
      go_wp2_with fail
      refine (HC.out _).mono ?_
      rintro e w1 ⟨rfl, b1⟩
      have hb0 := below_new wr (.cells #[.int .u32 (kX : Int), .int .u32 (kY : Int), .int .i64 zk, .slice kro krn krc, .slice kko kkn kkc] 33)
      have HB1 : Hid (Below wr.heap.size wr w1) := hb0.trans (b1.mono (by simp))
      have HG1 : Hid (w1.heap[w.heap.size]? = some (.cells #[.int .u32 (X : Int), .int .u32 (Y : Int), .int .i64 zL, .slice ro rn rcc, .slice (some ⟨b, off, none⟩) kn kc] 33 (0, 0))) := (HB1.out.block _ hgs).trans HGr.out
      have HK1 : Hid (w1.heap[wr.heap.size]? = some (.cells #[.int .u32 (kX : Int), .int .u32 (kY : Int), .int .i64 zk, .slice kro krn krc, .slice kko kkn kkc] 33 (0, 0))) := (b1.block _ (by simp)).trans (heap_alloc_new wr _)
      have hs1 : wr.heap.size < w1.heap.size := (Array.getElem?_eq_some_iff.1 HK1.out).1
      clear b1 hb0 c0 c1 c2 c3 c4 f0 f1 f2 f3 f4
      obtain ⟨z0, z1, z2, z3, z4, f0, f1, f2, f3, f4⟩ := node_facts HG1.out
      obtain ⟨y0, y1, y2, y3, y4, k0, k1, k2, k3, k4⟩ := node_facts HK1.out
      clear z0 z1 z2 z3 z4 y0 y1 y2 y3 y4
      go_wp2_with fail
      refine (HR.out _).mono ?_
      rintro e w2 ⟨rfl, b2⟩
      have hs2 := b2.size
      have HB2 : Hid (Below wr.heap.size wr w2) := HB1.out.trans (b2.mono HB1.out.size)
      have HG2 : Hid (w2.heap[w.heap.size]? = some (.cells #[.int .u32 (X : Int), .int .u32 (Y : Int), .int .i64 zL, .slice ro rn rcc, .slice (some ⟨b, off, none⟩) kn kc] 33 (0, 0))) := (HB2.out.block _ hgs).trans HGr.out
      have HK2 : Hid (w2.heap[wr.heap.size]? = some (.cells #[.int .u32 (kX : Int), .int .u32 (kY : Int), .int .i64 zk, .slice kro krn krc, .slice kko kkn kkc] 33 (0, 0))) := (b2.block _ hs1).trans HK1.out
      clear b2 f0 f1 f2 f3 f4 k0 k1 k2 k3 k4 HC HR
      obtain ⟨z0, z1, z2, z3, z4, f0, f1, f2, f3, f4⟩ := node_facts HG2.out
      obtain ⟨y0, y1, y2, y3, y4, k0, k1, k2, k3, k4⟩ := node_facts HK2.out
      clear z0 z1 z2 z3 z4 y0 y1 y2 y3 y4
      have hb3 := below_new w2 (.cells #[.int .u32 (kX : Int), .int .u32 (kY : Int), .int .i64 zk, .slice kro krn krc, .slice kko kkn kkc] 33)
      obtain ⟨v', W', hrun, a1, a2, a3⟩ := append_sl 31 33 Try.underlying31 infoNode rfl (by decide) (by decide) (w2.alloc (.cells #[.int .u32 (kX : Int), .int .u32 (kY : Int), .int .i64 zk, .slice kro krn krc, .slice kko kkn kkc] 33)) (w.heap.size + 1) i 1 u3 (some ⟨w2.heap.size, 0, none⟩) 1
        ((ks.take i).flatMap nc) (nc ⟨kX, kY, kL, kro, krn, krc, kko, kkn, kkc⟩) (own_same HO.out fun b _ hb => (hb3.block b (Nat.lt_of_lt_of_le hb HB2.out.size)).trans (HB2.out.block b hb)) (by have := HB2.out.size; simp; omega) (by have := one_node (n := ⟨kX, kY, kL, kro, krn, krc, kko, kkn, kkc⟩) (w := w2.alloc (.cells #[.int .u32 (kX : Int), .int .u32 (kY : Int), .int .i64 (kL : Int), .slice kro krn krc, .slice kko kkn kkc] 33)) (heap_alloc_new w2 _); rw [HZK.out] at this; exact this) (nc_one' _) (by omega)
      have hob : ∀ b, u3.ownBlock = some b → w.heap.size + 1 ≤ b := fun b hb => (own_base HO.out hb).1
      have HN1 : Hid (W'.ownsRow (w.heap.size + 1) 33 5 v' (i + 1) ((ks.take (i + 1)).flatMap nc)) := by
        refine (?_ : W'.ownsRow (w.heap.size + 1) 33 5 v' (i + 1) ((ks.take (i + 1)).flatMap nc))
        rw [HTK.out, List.flatMap_append]
        simpa using a1
      have HG3 : Hid (W'.heap[w.heap.size]? = some (.cells #[.int .u32 (X : Int), .int .u32 (Y : Int), .int .i64 zL, .slice ro rn rcc, .slice (some ⟨b, off, none⟩) kn kc] 33 (0, 0))) := (a2.block _ (by simp; omega) (by intro e; have := hob _ e.symm; omega)).trans ((hb3.block _ (by omega)).trans HG2.out)
      have HB3 : Hid (Below w.heap.size w W') := (HBr.out.trans ((HB2.out.trans (hb3.mono HB2.out.size)).mono HBr.out.size)).grown a2 (by simp; omega) fun b eb => by have := hob b eb; omega
      clear a1 a2 a3 hb3 hob
      go_wp2_with (at_builtin; refine list_append rfl 31 31 (.tmp 49) (.tmp 51) rfl (vs := u3) (vx := .slice (some ⟨w2.heap.size, 0, none⟩) 1 1) rfl rfl hrun ?_)
      go_roundw
      case rel => exact ⟨i + 1, zq, by omega, rfl, by go_num, HQ1.out, HN1.out, HG3.out, HB3.out⟩
      case measure => simp [natOf]; omega
    · obtain rfl : i = kn := by omega
      have q1 : ¬ (i : Int) < (i : Int) := by omega
      have HF : Hid (wr.ownsRow w.heap.size 33 5 u3 ks.length (ks.flatMap nc)) := by
        have := HO.out
        rw [HKN.out.1, List.take_length] at this
        exact own_lower this (by omega)
      clear hb hg ho
      go_wp2_with fail
      go_ret
      exact ⟨u3, rfl, HF.out, HBr.out⟩
set_option maxRecDepth 100000 in
set_option maxHeartbeats 1000000 in
theorem nodes_any (ef : Nat) (eb : Array Value) (lo : Option Addr) (ln lc : Nat) (w : World) :
    Calls Try.prog 76 #[.func (.func ef) #[] eb, .slice lo ln lc] w fun e w' => e = .returned (.func (.func 87) #[] #[.pointer (some ⟨w.heap.size + 1, 0, none⟩), .pointer (some ⟨w.heap.size, 0, none⟩)]) ∧ w' = (w.alloc (.cells #[.func (.func ef) #[] eb] 70)).alloc (.cells #[.slice lo ln lc] 31) := by
  go_enter Try.func76, Try.ntmps76
  go_wp2_with fail
  go_ret
  exact ⟨rfl, rfl⟩
end Go.Proofs.Ytaiiclkfnahghaa.Rq
