/- The kids of a node, and the function that goes through nodes. -/
import Derived.Test.YtimdlohdmddnjaaQGG
namespace Go.Proofs.Ytimdlohdmddnjaa.Rq
open Go.RowKit Go.Lib Go.Shelf
open Go.Proofs.Ytimdlohdmddnjaa.Rc
set_option maxRecDepth 100000 in
set_option maxHeartbeats 4000000 in
theorem kids_any (X Y L : Nat) (ro : Option Addr) (rn rcc : Nat) (ko : Option Addr) (kn kc : Nat) (ks : List Nv) (q : Nat → Nat) (w : World) (hkn : kn = ks.length) (hna : NodesAt w ko kc ks) (h4 : ks.length ≤ 4) (bX : X < 4294967296) (bY : Y < 4294967296)
  (hw : ∀ i (h : i < ks.length), wher X Y (L : Int) ks[i].X ks[i].Y = (q i, 0) ∧ ks[i].X < 4294967296 ∧ ks[i].Y < 4294967296 ∧ rightS ks[i].X ks[i].Y (ks[i].L : Int) = true ∧ ks[i].L < L) (hq : ∀ i j, i < j → j < ks.length → q i < q j) :
  Calls Try.prog 88 #[.agg #[.int .u32 (X : Int), .int .u32 (Y : Int), .int .i64 (L : Int), .slice ro rn rcc, .slice ko kn kc]] w fun e w' => ∃ v, e = .returned v ∧ w'.ownsRow w.heap.size 45 5 v ks.length (ks.flatMap nc) ∧ Below w.heap.size w w' := by
 have HBn : Hid (Below w.heap.size w (w.alloc (.cells #[.int .u32 (X : Int), .int .u32 (Y : Int), .int .i64 (L : Int), .slice ro rn rcc, .slice ko kn kc] 45))) := below_new w _
 have HGn : Hid ((w.alloc (.cells #[.int .u32 (X : Int), .int .u32 (Y : Int), .int .i64 (L : Int), .slice ro rn rcc, .slice ko kn kc] 45)).heap[w.heap.size]? = some (.cells #[.int .u32 (X : Int), .int .u32 (Y : Int), .int .i64 (L : Int), .slice ro rn rcc, .slice ko kn kc] 45 (0, 0))) := heap_alloc_new w _
 have HNA : Hid (NodesAt w ko kc ks) := hna
 have HW : Hid _ := hw
 have HQ : Hid (∀ i j, i < j → j < ks.length → q i < q j) := hq
 have HKN : Hid (kn = ks.length ∧ ks.length ≤ 4) := ⟨hkn, h4⟩
 have hk4 : kn ≤ 4 := by omega
 obtain ⟨zL, hzL⟩ : ∃ zL : Int, (L : Int) = zL := ⟨_, rfl⟩
 have HZL : Hid ((L : Int) = zL) := hzL
 rw [hzL] at HBn HGn HW ⊢
 clear hna hw hq hkn h4 hzL
 go_enter Try.func88, Try.ntmps88
 go_wp2_with fail
 go_loopw [3, 4, 12] (fun v z j wr => ∃ i : Nat, ∃ zl : Int, i ≤ kn ∧ z = .int .i64 zl ∧ j = .int .i64 (i : Int) ∧ (∀ p, i ≤ p → p < kn → zl < (q p : Int)) ∧ wr.ownsRow (w.heap.size + 1) 45 5 v i ((ks.take i).flatMap nc) ∧ wr.heap[w.heap.size]? = some (.cells #[.int .u32 (X : Int), .int .u32 (Y : Int), .int .i64 zL, .slice ro rn rcc, .slice ko kn kc] 45 (0, 0)) ∧ Below w.heap.size w wr) (fun _ _ j _ => kn - natOf j)
 case atStart => exact ⟨0, -1, by omega, rfl, rfl, fun p _ _ => by omega, World.ownsRow_nil _ _ _ _, HGn.out, HBn.out⟩
 case round =>
  obtain ⟨i, zl, hi, rfl, rfl, hz, ho, hg, hb⟩ := hrel
  have HO : Hid (wr.ownsRow (w.heap.size + 1) 45 5 u3 i ((ks.take i).flatMap nc)) := ho
  have HGr : Hid _ := hg
  have HBr : Hid (Below w.heap.size w wr) := hb
  have hgs : w.heap.size < wr.heap.size := (Array.getElem?_eq_some_iff.1 hg).1
  obtain ⟨z0, z1, z2, z3, z4, f0, f1, f2, f3, f4⟩ := node_facts hg
  clear z0 z1 z2 z3 z4
  by_cases hlt : i < kn
  ·have hik : i < ks.length := by have := HKN.out; omega
   obtain ⟨b, off, rfl, hbl0, hc⟩ := HNA.out.node (by omega)
   have hbl : b < wr.heap.size := Nat.lt_of_lt_of_le hbl0 hb.size
   obtain ⟨c0, c1, c2, c3, c4⟩ := (hc i hik).same (hb.block b hbl0)
   obtain ⟨x1, x2, x3, x4, x5⟩ := HW.out i hik
   have HC : Hid _ := where_any X Y zL ks[i].X ks[i].Y bX bY x2 x3
   rw [x1] at HC
   have HR : Hid _ := right_any ks[i].X ks[i].Y (ks[i].L : Int) x2 x3
   rw [x4] at HR
   have htk : ks.take (i + 1) = ks.take i ++ [ks[i]] := by rw [List.take_add_one, List.getElem?_eq_getElem hik]; rfl
   have HTK : Hid (ks.take (i + 1) = ks.take i ++ [ks[i]]) := htk
   have hzi := hz i (Nat.le_refl _) hlt
   have HQ1 : Hid (∀ p, i + 1 ≤ p → p < kn → (q i : Int) < (q p : Int)) := fun p hp hpn => by
    have := HQ.out i p (by omega) (by have := HKN.out; omega)
    omega
   generalize ks[i] = kid at *
   obtain ⟨kX, kY, kL, kro, krn, krc, kko, kkn, kkc⟩ := kid
   simp only at c0 c1 c2 c3 c4 HC HR x5
   obtain ⟨zk, hzk⟩ : ∃ zk : Int, (kL : Int) = zk := ⟨_, rfl⟩
   have q6 : decide (zk < zL) = true := decide_eq_true (by have := HZL.out; omega)
   have HZK : Hid ((kL : Int) = zk) := hzk
   rw [hzk] at c2 HR
   simp only [wv] at HC
   generalize hqi : (q i : Int) = zq at *
   have q5 : decide (zl < zq) = true := decide_eq_true (by omega)
   have q1 : (i : Int) < (kn : Int) := by omega
   have i0 : (0 : Int) ≤ (i : Int) := by omega
   have i1 : (i : Int) + 1 ≤ 9223372036854775807 := by omega
   clear x1 x2 x3 x4 x5 hc htk hz hzi hqi hzk ho hg hb hbl0 hik bX bY
   go_wp2_with fail
   refine (HC.out _).mono ?_
   rintro e w1 ⟨rfl, b1⟩
   have hb0 := below_new wr (.cells #[.int .u32 (kX : Int), .int .u32 (kY : Int), .int .i64 zk, .slice kro krn krc, .slice kko kkn kkc] 45)
   have HB1 : Hid (Below wr.heap.size wr w1) := hb0.trans (b1.mono (by simp))
   have HG1 : Hid (w1.heap[w.heap.size]? = some (.cells #[.int .u32 (X : Int), .int .u32 (Y : Int), .int .i64 zL, .slice ro rn rcc, .slice (some ⟨b, off, none⟩) kn kc] 45 (0, 0))) := (HB1.out.block _ hgs).trans HGr.out
   have HK1 : Hid (w1.heap[wr.heap.size]? = some (.cells #[.int .u32 (kX : Int), .int .u32 (kY : Int), .int .i64 zk, .slice kro krn krc, .slice kko kkn kkc] 45 (0, 0))) := (b1.block _ (by simp)).trans (heap_alloc_new wr _)
   have hs1 : wr.heap.size < w1.heap.size := (Array.getElem?_eq_some_iff.1 HK1.out).1
   clear b1 hb0 c0 c1 c2 c3 c4 f0 f1 f2 f3 f4
   obtain ⟨z0, z1, z2, z3, z4, f0, f1, f2, f3, f4⟩ := node_facts HG1.out
   obtain ⟨y0, y1, y2, y3, y4, k0, k1, k2, k3, k4⟩ := node_facts HK1.out
   clear z0 z1 z2 z3 z4 y0 y1 y2 y3 y4
   go_wp2_with fail
   refine (HR.out _).mono ?_
   rintro e w2 ⟨rfl, b2⟩
   have hs2 := b2.size
   have HB2 : Hid (Below wr.heap.size wr w2) := HB1.out.trans (b2.mono HB1.out.size)
   have HG2 : Hid (w2.heap[w.heap.size]? = some (.cells #[.int .u32 (X : Int), .int .u32 (Y : Int), .int .i64 zL, .slice ro rn rcc, .slice (some ⟨b, off, none⟩) kn kc] 45 (0, 0))) := (HB2.out.block _ hgs).trans HGr.out
   have HK2 : Hid (w2.heap[wr.heap.size]? = some (.cells #[.int .u32 (kX : Int), .int .u32 (kY : Int), .int .i64 zk, .slice kro krn krc, .slice kko kkn kkc] 45 (0, 0))) := (b2.block _ hs1).trans HK1.out
   clear b2 f0 f1 f2 f3 f4 k0 k1 k2 k3 k4 HC HR
   obtain ⟨z0, z1, z2, z3, z4, f0, f1, f2, f3, f4⟩ := node_facts HG2.out
   obtain ⟨y0, y1, y2, y3, y4, k0, k1, k2, k3, k4⟩ := node_facts HK2.out
   clear z0 z1 z2 z3 z4 y0 y1 y2 y3 y4
   have hb3 := below_new w2 (.cells #[.int .u32 (kX : Int), .int .u32 (kY : Int), .int .i64 zk, .slice kro krn krc, .slice kko kkn kkc] 45)
   obtain ⟨v', W', hrun, a1, a2, a3⟩ := append_sl 43 45 Try.underlying43 infoNode rfl (by decide) (by decide) (w2.alloc (.cells #[.int .u32 (kX : Int), .int .u32 (kY : Int), .int .i64 zk, .slice kro krn krc, .slice kko kkn kkc] 45)) (w.heap.size + 1) i 1 u3 (some ⟨w2.heap.size, 0, none⟩) 1
    ((ks.take i).flatMap nc) (nc ⟨kX, kY, kL, kro, krn, krc, kko, kkn, kkc⟩) (own_same HO.out fun b _ hb => (hb3.block b (Nat.lt_of_lt_of_le hb HB2.out.size)).trans (HB2.out.block b hb)) (by have := HB2.out.size; simp; omega) (by have := one_node (n := ⟨kX, kY, kL, kro, krn, krc, kko, kkn, kkc⟩) (w := w2.alloc (.cells #[.int .u32 (kX : Int), .int .u32 (kY : Int), .int .i64 (kL : Int), .slice kro krn krc, .slice kko kkn kkc] 45)) (heap_alloc_new w2 _); rw [HZK.out] at this; exact this) (nc_one' _) (by omega)
   have hob : ∀ b, u3.ownBlock = some b → w.heap.size + 1 ≤ b := fun b hb => (own_base HO.out hb).1
   have HN1 : Hid (W'.ownsRow (w.heap.size + 1) 45 5 v' (i + 1) ((ks.take (i + 1)).flatMap nc)) := by
    refine (?_ : W'.ownsRow (w.heap.size + 1) 45 5 v' (i + 1) ((ks.take (i + 1)).flatMap nc))
    rw [HTK.out, List.flatMap_append]
    simpa using a1
   have HG3 : Hid (W'.heap[w.heap.size]? = some (.cells #[.int .u32 (X : Int), .int .u32 (Y : Int), .int .i64 zL, .slice ro rn rcc, .slice (some ⟨b, off, none⟩) kn kc] 45 (0, 0))) := (a2.block _ (by simp; omega) (by intro e; have := hob _ e.symm; omega)).trans ((hb3.block _ (by omega)).trans HG2.out)
   have HB3 : Hid (Below w.heap.size w W') := (HBr.out.trans ((HB2.out.trans (hb3.mono HB2.out.size)).mono HBr.out.size)).grown a2 (by simp; omega) fun b eb => by have := hob b eb; omega
   clear a1 a2 a3 hb3 hob
   go_wp2_with (at_builtin; refine list_append rfl 43 43 (.tmp 49) (.tmp 51) rfl (vs := u3) (vx := .slice (some ⟨w2.heap.size, 0, none⟩) 1 1) rfl rfl hrun ?_)
   go_roundw
   case rel => exact ⟨i + 1, zq, by omega, rfl, by go_num, HQ1.out, HN1.out, HG3.out, HB3.out⟩
   case measure => simp [natOf]; omega
  ·obtain rfl : i = kn := by omega
   have q1 : ¬ (i : Int) < (i : Int) := by omega
   have HF : Hid (wr.ownsRow w.heap.size 45 5 u3 ks.length (ks.flatMap nc)) := by
    have := HO.out
    rw [HKN.out.1, List.take_length] at this
    exact own_lower this (by omega)
   clear hb hg ho
   go_wp2_with fail
   go_ret
   exact ⟨u3, rfl, HF.out, HBr.out⟩
set_option maxRecDepth 100000 in
set_option maxHeartbeats 1000000 in
theorem nodes_any (ef : Nat) (eb : Array Value) (lo : Option Addr) (ln lc : Nat) (w : World) :
  Calls Try.prog 68 #[.func (.func ef) #[] eb, .slice lo ln lc] w fun e w' => e = .returned (.func (.func 87) #[] #[.pointer (some ⟨w.heap.size + 1, 0, none⟩), .pointer (some ⟨w.heap.size, 0, none⟩)]) ∧ w' = (w.alloc (.cells #[.func (.func ef) #[] eb] 74)).alloc (.cells #[.slice lo ln lc] 43) := by
 go_enter Try.func68, Try.ntmps68
 go_wp2_with fail
 go_ret
 exact ⟨rfl, rfl⟩
attribute [local go_sem] Oper.semAt_some
def sub (l : List Rw) : List (List Rw) := if leaf l = true then [] else kidsL l
def vis (p : Nat → Nat → Nat → Bool) : Nat → List Rw → List (List Rw)
 | 0, _ => []
 | d + 1, l => if p (cx l) (cy l) (lev l) = true then l :: (sub l).flatMap (vis p d) else []
def visL (p : Nat → Nat → Nat → Bool) (d : Nat) (ls : List (List Rw)) : List (List Rw) := ls.flatMap (vis p d)
def vat (ys : List (List Rw)) (k : Nat) : List Rw := (ys[k]?).getD []
def pos (p : Nat → Nat → Nat → Bool) (d : Nat) (ls : List (List Rw)) (i : Nat) : Nat := (visL p d (ls.take i)).length
theorem pos_zero (p : Nat → Nat → Nat → Bool) (d : Nat) (ls : List (List Rw)) : pos p d ls 0 = 0 := by simp [pos, visL]
theorem visL_take (p : Nat → Nat → Nat → Bool) (d : Nat) (ls : List (List Rw)) (i : Nat) (h : i < ls.length) : visL p d (ls.take (i + 1)) = visL p d (ls.take i) ++ vis p d ls[i] := by
 unfold visL
 rw [List.take_add_one, List.getElem?_eq_getElem h, List.flatMap_append]
 simp
theorem pos_next (p : Nat → Nat → Nat → Bool) (d : Nat) (ls : List (List Rw)) (i : Nat) (h : i < ls.length) : pos p d ls (i + 1) = pos p d ls i + (vis p d ls[i]).length := by
 unfold pos; rw [visL_take p d ls i h, List.length_append]
theorem pos_all (p : Nat → Nat → Nat → Bool) (d : Nat) (ls : List (List Rw)) (i : Nat) (h : ls.length ≤ i) : pos p d ls i = (visL p d ls).length := by unfold pos; rw [List.take_of_length_le h]
theorem visL_split (p : Nat → Nat → Nat → Bool) (d : Nat) (ls : List (List Rw)) (i : Nat) (h : i < ls.length) : visL p d ls = visL p d (ls.take i) ++ (vis p d ls[i] ++ visL p d (ls.drop (i + 1))) := by
 have e : ls = ls.take (i + 1) ++ ls.drop (i + 1) := (List.take_append_drop _ _).symm
 conv => lhs; rw [e]
 unfold visL
 rw [List.flatMap_append]
 have := visL_take p d ls i h
 unfold visL at this
 rw [this, List.append_assoc]
theorem vat_pos (p : Nat → Nat → Nat → Bool) (d : Nat) (ls : List (List Rw)) (i t : Nat) (h : i < ls.length) (ht : t < (vis p d ls[i]).length) : vat (visL p d ls) (pos p d ls i + t) = vat (vis p d ls[i]) t ∧ pos p d ls i + t < (visL p d ls).length := by
 have e := visL_split p d ls i h
 unfold vat pos
 rw [e]
 constructor
 ·rw [List.getElem?_append_right (by omega), Nat.add_sub_cancel_left, List.getElem?_append_left ht]
 ·rw [List.length_append, List.length_append]; omega
structure Ent (w0 : World) (p : Nat → Nat → Nat → Bool) (ef : Nat) (eb : Array Value) : Prop where
 eg : ∀ args w, (callFunc ef args).run Try.prog w = .ok (.enter ef args) w
 calls : ∀ W, Below w0.heap.size w0 W → ∀ X Y L : Nat, X < 4294967296 → Y < 4294967296 → Calls Try.prog ef (#[cv X Y (L : Int)] ++ eb) W fun e W' => e = .returned (.bool (p X Y L)) ∧ Below W.heap.size W W'
def NodesIter (w0 : World) (p : Nat → Nat → Nat → Bool) (ef : Nat) (eb : Array Value) (d : Nat) : Prop :=
 ∀ (ns : List Nv) (ls : List (List Rw)), ns.length = ls.length → (∀ i (h1 : i < ns.length) (h2 : i < ls.length), NodeAt (fun _ => True) d w0 ns[i] ls[i]) → (∀ m ∈ ls, On m) → ns.length ≤ 4 →
 ∀ (W1 : World) (bL bE : Nat) (lo : Option Addr) (lc : Nat), Below w0.heap.size w0 W1 → W1.heap[bL]? = some (.cells #[.slice lo ns.length lc] 43 (0, 0)) → W1.heap[bE]? = some (.cells #[.func (.func ef) #[] eb] 74 (0, 0)) → NodesAt W1 lo lc ns →
 ∀ (l : Nat) (R : (Nat → Prop) → Nat → World → Prop) (Rx : (Nat → Prop) → World → Prop) (own : Nat → Prop),
  (∀ j, own j → w0.heap.size ≤ j ∧ j < W1.heap.size ∧ j ≠ bL ∧ j ≠ bE ∧ (0 < ns.length → ∀ off, lo ≠ some ⟨j, off, none⟩)) →
  (∀ own k W W', R own k W → Kw W1.heap.size own W W' → R own k W') → (∀ own W W', Rx own W → Kw W1.heap.size own W W' → Rx own W') →
  (∀ own k n W, k < (visL p d ls).length → (∃ d', NodeAt (fun _ => True) d' w0 n (vat (visL p d ls) k)) → R own k W → (∀ j, own j → w0.heap.size ≤ j ∧ j < W.heap.size) → Below w0.heap.size w0 W → YieldAt Fence.wide 0 Try.prog l #[nv n] W (YPost R Rx own (k + 1) W)) →
  R own 0 W1 → Calls Try.prog 87 (#[.func (.yield l) #[] #[]] ++ #[.pointer (some ⟨bL, 0, none⟩), .pointer (some ⟨bE, 0, none⟩)]) W1 fun e W' => (∃ v, e = .returned v) ∧ ∃ own', (R own' (visL p d ls).length W' ∨ Rx own' W')
structure NJ (w0 W1 : World) (bE b3 : Nat) (lo : Option Addr) (lc : Nat) (ns : List Nv) (ef : Nat) (eb : Array Value) (l : Nat) (own : Nat → Prop) (Ds : List Nat) (W : World) : Prop where
 ent : W.heap[bE]? = some (.cells #[.func (.func ef) #[] eb] 74 (0, 0))
 yld : W.heap[b3]? = some (.cells #[.func (.yield l) #[] #[]] 117 (0, 0))
 list : NodesAt W lo lc ns
 bel : Below w0.heap.size w0 W
 out : ∀ j, own j → w0.heap.size ≤ j ∧ j < W.heap.size ∧ j ≠ bE ∧ j ≠ b3 ∧ j ∉ Ds ∧ (0 < ns.length → ∀ off, lo ≠ some ⟨j, off, none⟩)
 nd : Ds.Nodup
 marks : ∀ D ∈ Ds, W.heap[D]? = some (.deferred (some [])) ∧ W1.heap.size ≤ D
 b3s : b3 = W1.heap.size
set_option maxRecDepth 100000 in
theorem NJ.next {w0 W1 : World} {bE b3 : Nat} {lo : Option Addr} {lc : Nat} {ns : List Nv} {ef : Nat} {eb : Array Value} {l : Nat} {own own' : Nat → Prop} {Ds : List Nat} {W W' : World} (h : NJ w0 W1 bE b3 lo lc ns ef eb l own Ds W)
  (hb : But own W W') (ho : ∀ j, own' j → own j ∨ (W.heap.size ≤ j ∧ j < W'.heap.size)) : NJ w0 W1 bE b3 lo lc ns ef eb l own' Ds W' := by
 have lE := (Array.getElem?_eq_some_iff.1 h.ent).1
 have l3 := (Array.getElem?_eq_some_iff.1 h.yld).1
 have hbs := h.bel.size
 have k : ∀ b, b < W.heap.size → (own b → False) → W'.heap[b]? = W.heap[b]? := fun b hb' hn => hb.block b hb' hn
 refine ⟨(k bE lE fun e => (h.out _ e).2.2.1 rfl).trans h.ent, (k b3 l3 fun e => (h.out _ e).2.2.2.1 rfl).trans h.yld, ?_, h.bel.trans (hb.below (fun j hj => (h.out j hj).1) hbs), fun j hj => ?_, h.nd, fun D hD => ⟨(k D (Array.getElem?_eq_some_iff.1 (h.marks D hD).1).1 fun e => (h.out _ e).2.2.2.2.1 hD).trans (h.marks D hD).1, (h.marks D hD).2⟩, h.b3s⟩
 ·refine ⟨h.list.1, h.list.2.1, h.list.2.2.1, h.list.2.2.2.1, fun hn => ?_⟩
  obtain ⟨b, off, e, hlt, hc⟩ := h.list.2.2.2.2 hn
  exact ⟨b, off, e, Nat.lt_of_lt_of_le hlt hb.size, fun j u hu => (World.cell?_of_block (a := ⟨b, off + j, none⟩) (k b hlt fun eo => (h.out _ eo).2.2.2.2.2 hn off e)).trans (hc j u hu)⟩
 ·rcases ho j hj with a | a
  ·obtain ⟨x1, x2, x3, x4, x5, x6⟩ := h.out j a
   exact ⟨x1, Nat.lt_of_lt_of_le x2 hb.size, x3, x4, x5, x6⟩
  ·refine ⟨by omega, a.2, by omega, by omega, fun hD => ?_, fun hz off e => ?_⟩
   ·have := (Array.getElem?_eq_some_iff.1 (h.marks j hD).1).1
    omega
   ·obtain ⟨b, off', e', hlt, _⟩ := h.list.2.2.2.2 hz
    rw [e] at e'; cases e'
    omega
set_option maxRecDepth 100000 in
theorem NJ.grow {w0 W1 : World} {bE b3 : Nat} {lo : Option Addr} {lc : Nat} {ns : List Nv} {ef : Nat} {eb : Array Value} {l : Nat} {own : Nat → Prop} {Ds : List Nat} {W W' : World} (h : NJ w0 W1 bE b3 lo lc ns ef eb l own Ds W) (hb : Below W.heap.size W W') : NJ w0 W1 bE b3 lo lc ns ef eb l own Ds W' :=
 h.next (But.of_below hb) fun _ hj => .inl hj
set_option maxRecDepth 100000 in
theorem NJ.kw {w0 W1 : World} {bE b3 : Nat} {lo : Option Addr} {lc : Nat} {ns : List Nv} {ef : Nat} {eb : Array Value} {l : Nat} {own : Nat → Prop} {Ds : List Nat} {W W' : World} {B : Nat} (h : NJ w0 W1 bE b3 lo lc ns ef eb l own Ds W) (hk : Kw B own W W')
  (hE : bE < B) (h3 : b3 < B) (hL : ∀ b off, lo = some ⟨b, off, none⟩ → 0 < ns.length → b < B) (hD : ∀ D ∈ Ds, D < B) (h0 : w0.heap.size ≤ B) : NJ w0 W1 bE b3 lo lc ns ef eb l own Ds W' := by
 have lE := (Array.getElem?_eq_some_iff.1 h.ent).1
 have l3 := (Array.getElem?_eq_some_iff.1 h.yld).1
 have hbs := h.bel.size
 refine ⟨(hk.block bE lE (.inl hE)).trans h.ent, (hk.block b3 l3 (.inl h3)).trans h.yld, ⟨h.list.1, h.list.2.1, h.list.2.2.1, h.list.2.2.2.1, fun hn => ?_⟩, h.bel.trans ⟨hk.os, hk.tape, hk.output, hk.size, fun j hj => hk.block j (by omega) (.inl (by omega))⟩, fun j hj => ?_, h.nd, fun D hD' => ⟨(hk.block D (Array.getElem?_eq_some_iff.1 (h.marks D hD').1).1 (.inl (hD D hD'))).trans (h.marks D hD').1, (h.marks D hD').2⟩, h.b3s⟩
 ·obtain ⟨b, off, e, hlt, hc⟩ := h.list.2.2.2.2 hn
  exact ⟨b, off, e, Nat.lt_of_lt_of_le hlt hk.size, fun j u hu => (World.cell?_of_block (a := ⟨b, off + j, none⟩) (hk.block b hlt (.inl (hL b off e hn)))).trans (hc j u hu)⟩
 ·obtain ⟨x1, x2, x3, x4, x5, x6⟩ := h.out j hj
  exact ⟨x1, Nat.lt_of_lt_of_le x2 hk.size, x3, x4, x5, x6⟩
set_option maxRecDepth 100000 in
theorem NJ.mark {w0 W1 : World} {bE b3 : Nat} {lo : Option Addr} {lc : Nat} {ns : List Nv} {ef : Nat} {eb : Array Value} {l : Nat} {own : Nat → Prop} {Ds : List Nat} {W : World} {D : Nat} (h : NJ w0 W1 bE b3 lo lc ns ef eb l own Ds W) (hno : ¬ own D) (hdf : W.heap[D]? = some (.deferred (some []))) (h1 : W1.heap.size ≤ D) (hD : D ∉ Ds) : NJ w0 W1 bE b3 lo lc ns ef eb l own (D :: Ds) W := by
 refine ⟨h.ent, h.yld, h.list, h.bel, fun j hj => ?_, List.nodup_cons.2 ⟨hD, h.nd⟩, fun E hE => ?_, h.b3s⟩
 ·obtain ⟨x1, x2, x3, x4, x5, x6⟩ := h.out j hj
  refine ⟨x1, x2, x3, x4, fun hm => ?_, x6⟩
  rcases List.mem_cons.1 hm with rfl | hm
  ·exact hno hj
  ·exact x5 hm
 ·rcases List.mem_cons.1 hE with rfl | hE
  ·exact ⟨hdf, h1⟩
  ·exact h.marks E hE
set_option maxRecDepth 100000 in
theorem NJ.left {w0 W1 : World} {bE b3 : Nat} {lo : Option Addr} {lc : Nat} {ns : List Nv} {ef : Nat} {eb : Array Value} {l : Nat} {own : Nat → Prop} {Ds : List Nat} {W W' : World} (h : NJ w0 W1 bE b3 lo lc ns ef eb l own Ds W) (hb : But (fun j => j ∈ Ds) W W') : Kw W1.heap.size own W W' :=
 ⟨hb.os, hb.tape, hb.output, hb.size, fun j hj hn => hb.block j hj fun hD => by
  rcases hn with hn | hn
  ·have := (h.marks j hD).2; omega
  ·exact (h.out j hn).2.2.2.2.1 hD⟩
def QE (bE ef : Nat) (eb : Array Value) (g nX nY : Nat) (zL : Int) (nro : Option Addr) (nrn nrc : Nat) (nko : Option Addr) (nkn nkc : Nat) (w : World) : Prop := w.cell? ⟨bE, 0, none⟩ = some (.func (.func ef) #[] eb) ∧ F5 g (.int .u32 (nX : Int)) (.int .u32 (nY : Int)) (.int .i64 zL) (.slice nro nrn nrc) (.slice nko nkn nkc) w
set_option maxRecDepth 100000 in
set_option maxHeartbeats 4000000 in
theorem nodes1_step (w0 : World) (p : Nat → Nat → Nat → Bool) (ef : Nat) (eb : Array Value) (hE : Ent w0 p ef eb) (d : Nat) (ih : ∀ d', d = d' + 1 → NodesIter w0 p ef eb d') : NodesIter w0 p ef eb d := by
 intro ns ls hlen hN hO h4 W1 bL bE lo lc hb1 hbL hbE hna l R Rx own hown hR hRx hY h0
 have IH : Hid _ := ih
 have HE : Hid (Ent w0 p ef eb) := hE
 have HN : Hid _ := hN
 have HO : Hid (∀ m ∈ ls, On m) := hO
 have HLen : Hid (ns.length = ls.length ∧ ns.length ≤ 4) := ⟨hlen, h4⟩
 have HRs : Hid _ := hR
 have HRxs : Hid _ := hRx
 have HY : Hid _ := hY
 have hbn := below_new W1 (.cells #[.func (.yield l) #[] #[]] 117)
 have HJ0 : Hid (NJ w0 W1 bE W1.heap.size lo lc ns ef eb l own [] (W1.alloc (.cells #[.func (.yield l) #[] #[]] 117))) := by
  refine ⟨(hbn.block _ (Array.getElem?_eq_some_iff.1 hbE).1).trans hbE, heap_alloc_new W1 _, Sl.below hna hbn (Nat.le_refl _), hb1.trans (hbn.mono hb1.size), fun j hj => ?_, List.nodup_nil, fun D hD => by simp at hD, rfl⟩
  obtain ⟨x1, x2, x3, x4, x5⟩ := hown j hj
  exact ⟨x1, by simp; omega, x4, by omega, by simp, x5⟩
 have HR0 : Hid (R own 0 (W1.alloc (.cells #[.func (.yield l) #[] #[]] 117))) := hR own 0 _ _ h0 (Kw.of_below hbn)
 have c1 : W1.cell? ⟨bL, 0, none⟩ = some (.slice lo ns.length lc) := by rw [cell_of_row _ _ _ _ _ _ hbL]; rfl
 have hbL' := (Array.getElem?_eq_some_iff.1 hbL).1
 clear hbL hbE hna hown hR hRx hY h0 hbn hN hO hlen h4 ih hE hb1
 refine (callsIn_wide (n := 5)).1 ?_
 refine callsIn_of_wp_marks Try.func87 rfl trivial ?_ rfl
 simp only [Try.ntmps87, List.size_toArray, List.length_cons, List.length_nil, Nat.reduceAdd, Nat.reduceSub, Array.replicate_succ, Array.replicate_zero, List.push_toArray, List.append_toArray, List.nil_append, List.cons_append]
 gi_wp2
 obtain ⟨b3, hb3⟩ : ∃ b3, W1.heap.size = b3 := ⟨_, rfl⟩
 obtain ⟨ln, hln⟩ : ∃ ln, ns.length = ln := ⟨_, rfl⟩
 have HLN : Hid (ns.length = ln) := hln
 rw [hb3] at HJ0 ⊢
 rw [hln]
 have HB3 : Hid (W1.heap.size = b3) := hb3
 clear c1 hbL' hb3 hln
 refine wpIn_loop (fun a W => ∃ (i : Nat) (Ds : List Nat) (own : Nat → Prop) (u4 u5 u6 u10 u11 u12 u13 u14 u15 u16 u17 u18 u19 u20 u21 u22 u23 u24 u25 u26 u27 u28 u29 u30 u31 : Value), i ≤ ln ∧ a = { tmps := #[.func (.yield l) #[] #[], .pointer (some ⟨bL, 0, none⟩), .pointer (some ⟨bE, 0, none⟩), .pointer (some ⟨b3, 0, none⟩), u4, u5, u6, .slice lo ln lc, .int .i64 (ln : Int), .int .i64 (i : Int), u10, u11, u12, u13, u14, u15, u16, u17, u18, u19, u20, u21, u22, u23, u24, u25, u26, u27, u28, u29, u30, u31], defers := Ds.map fun D => { target := .collected D, args := #[] } } ∧ NJ w0 W1 bE b3 lo lc ns ef eb l own Ds W ∧ R own (pos p d ls i) W) (fun a _ => ln - natOf (a.tmps.getD 9 undef)) ?_ ?_
 ·refine ⟨0, [], own, undef, undef, undef, undef, undef, undef, undef, undef, undef, undef, undef, undef, undef, undef, undef, undef, undef, undef, undef, undef, undef, undef, undef, undef, undef, Nat.zero_le _, rfl, HJ0.out, ?_⟩
  rw [pos_zero]; exact HR0.out
 rintro a W ⟨i, Ds, own, u4, u5, u6, u10, u11, u12, u13, u14, u15, u16, u17, u18, u19, u20, u21, u22, u23, u24, u25, u26, u27, u28, u29, u30, u31, hi, rfl, hJ, hRi⟩
 have HJ : Hid (NJ w0 W1 bE b3 lo lc ns ef eb l own Ds W) := hJ
 have HRi : Hid (R own (pos p d ls i) W) := hRi
 obtain ⟨ds, hds⟩ : ∃ ds : List Deferred, (Ds.map fun D => ({ target := .collected D, args := #[] } : Deferred)) = ds := ⟨_, rfl⟩
 have HDS : Hid _ := hds
 rw [hds]
 clear HJ0 HR0 hds hRi
 by_cases hlt : i < ln
 ·have hin : i < ns.length := by have := HLN.out; omega
  have hil : i < ls.length := by have := HLen.out; omega
  obtain ⟨b, off, rfl, hbl, hc⟩ := hJ.list.node (by omega)
  obtain ⟨c0, c1, c2, c3, c4⟩ := hc i hin
  have cE : W.cell? ⟨bE, 0, none⟩ = some (.func (.func ef) #[] eb) := by rw [cell_of_row _ _ _ _ _ _ hJ.ent]; rfl
  have hbE := (Array.getElem?_eq_some_iff.1 hJ.ent).1
  have hnode := HN.out i hin hil
  obtain ⟨d', hd⟩ : ∃ d', d = d' + 1 := by
   cases d with
   | zero => exact hnode.elim
   | succ d' => exact ⟨d', rfl⟩
  have hon := HO.out _ (List.getElem_mem hil)
  have hpn := pos_next p d ls i hil
  have hvat := fun t => vat_pos p d ls i t hil
  generalize hli : ls[i] = li at *
  generalize hni : ns[i] = ni at *
  subst hd
  have hcl := lev_cl hon
  have hnode' := hnode
  obtain ⟨n1, n2, n3, n4, n5⟩ := hnode'
  obtain ⟨nX, nY, nL, nro, nrn, nrc, nko, nkn, nkc⟩ := ni
  simp only at n1 n2 n3 c0 c1 c2 c3 c4
  have HCall : Hid _ := fun W hW => HE.out.calls W hW nX nY nL (by rw [n1]; have := hcl.x31; omega) (by rw [n2]; have := hcl.y31; omega)
  have heg := HE.out.eg
  have q1 : (i : Int) < (ln : Int) := by omega
  have k0 : (0 : Int) ≤ (i : Int) := by omega
  have HNode : Hid _ := hnode
  have HPn : Hid _ := hpn
  have HVat : Hid _ := hvat
  have HN4 : Hid _ := n4
  have HN5 : Hid _ := n5
  have HNx : Hid (nX = cx li ∧ nY = cy li ∧ nL = lev li) := ⟨n1, n2, n3⟩
  have HOn : Hid (On li) := hon
  clear hc hnode n1 n2 n3 n4 n5 hpn hvat hcl hli hni hJ hon hin hil hi
  obtain ⟨zL, hzL⟩ : ∃ zL : Int, (nL : Int) = zL := ⟨_, rfl⟩
  have HZL : Hid ((nL : Int) = zL) := hzL
  rw [hzL] at c2 HCall
  clear hzL
  gi_wp2
  have hb5 := below_new W (.cells #[.int .u32 (nX : Int), .int .u32 (nY : Int), .int .i64 zL, .slice nro nrn nrc, .slice nko nkn nkc] 45)
  have HJa : Hid (NJ w0 W1 bE b3 (some ⟨b, off, none⟩) lc ns ef eb l own Ds (W.alloc (.cells #[.int .u32 (nX : Int), .int .u32 (nY : Int), .int .i64 zL, .slice nro nrn nrc, .slice nko nkn nkc] 45))) := HJ.out.grow hb5
  refine ⟨trivial, callsIn_wide.2 ((HCall.out _ HJa.out.bel).mono ?_)⟩
  rintro e W2 ⟨rfl, b2⟩
  have HJ2 : Hid (NJ w0 W1 bE b3 (some ⟨b, off, none⟩) lc ns ef eb l own Ds W2) := HJa.out.grow b2
  have HR2 : Hid (R own (pos p (d' + 1) ls i) W2) := HRs.out _ _ _ _ (HRs.out _ _ _ _ HRi.out (Kw.of_below hb5)) (Kw.of_below b2)
  have HG5 : Hid (W2.heap[W.heap.size]? = some (.cells #[.int .u32 (nX : Int), .int .u32 (nY : Int), .int .i64 zL, .slice nro nrn nrc, .slice nko nkn nkc] 45 (0, 0))) := (b2.block _ (by simp)).trans (heap_alloc_new W _)
  have HO5 : Hid (∀ j, own j → j < W.heap.size) := fun j hj => (HJ.out.out j hj).2.1
  have HS5 : Hid (W1.heap.size ≤ W.heap.size) := by
   refine (?_ : W1.heap.size ≤ W.heap.size)
   have h1 := (Array.getElem?_eq_some_iff.1 HJ.out.yld).1
   have h2 := HJ.out.b3s
   omega
  clear b2 hb5 HCall HJa c0 c1 c2 c3 c4 cE
  cases hp : p nX nY nL
  ·have HPN : Hid (pos p (d' + 1) ls (i + 1) = pos p (d' + 1) ls i) := by
    have h := HPn.out
    rw [vis, ← HNx.out.1, ← HNx.out.2.1, ← HNx.out.2.2, if_neg (by rw [hp]; simp)] at h
    exact h
   clear hp
   have i1 : (i : Int) + 1 ≤ 9223372036854775807 := by have := HLen.out; have := HLN.out; omega
   gi_wp2
   rw [show (i : Int) + 1 = ((i + 1 : Nat) : Int) by omega, ← HDS.out]
   refine ⟨⟨i + 1, Ds, own, _, _, _, _, _, _, _, _, _, _, _, _, _, _, _, _, _, _, _, _, _, _, _, _, _, by omega, rfl, HJ2.out, by rw [HPN.out]; exact HR2.out⟩, ?_⟩
   simp [natOf]
   omega
  ·have hv : vis p (d' + 1) li = li :: (sub li).flatMap (vis p d') := by
    rw [vis, ← HNx.out.1, ← HNx.out.2.1, ← HNx.out.2.2, if_pos hp]
   have HV : Hid _ := hv
   have v0 := HVat.out 0 (by rw [hv]; simp)
   simp only [Nat.add_zero] at v0
   rw [hv] at v0
   have hy0 := yield_wide (m := 4) <| HY.out own (pos p (d' + 1) ls i) ⟨nX, nY, nL, nro, nrn, nrc, nko, nkn, nkc⟩ W2 v0.2 ⟨d' + 1, by rw [v0.1]; exact HNode.out⟩ HR2.out (fun j hj => ⟨(HJ2.out.out j hj).1, (HJ2.out.out j hj).2.1⟩) HJ2.out.bel
   obtain ⟨fn, tmps, assign, body, hy, hRd⟩ := hy0
   simp only [nv, HZL.out] at hy
   have c3 : W2.cell? ⟨b3, 0, none⟩ = some (.func (.yield l) #[] #[]) := by rw [cell_of_row _ _ _ _ _ _ HJ2.out.yld]; rfl
   obtain ⟨z0, z1, z2, z3, z4, t0, t1, t2, t3, t4⟩ := node_facts HG5.out
   clear hp hv v0 z0 z1 z2 z3 z4
   gi_wp2
   refine hRd.mono ?_
   clear hRd hy
   rintro e W3 ⟨own3, ho3, hb3, (⟨rfl, hR3⟩ | ⟨rfl, hx3⟩)⟩
   ·have HJ3 : Hid (NJ w0 W1 bE b3 (some ⟨b, off, none⟩) lc ns ef eb l own3 Ds W3) := HJ2.out.next hb3 ho3
    have HR3 : Hid (R own3 (pos p (d' + 1) ls i + 1) W3) := hR3
    have hl5 := (Array.getElem?_eq_some_iff.1 HG5.out).1
    have HG6 : Hid (W3.heap[W.heap.size]? = some (.cells #[.int .u32 (nX : Int), .int .u32 (nY : Int), .int .i64 zL, .slice nro nrn nrc, .slice nko nkn nkc] 45 (0, 0))) := (hb3.block _ hl5 (fun e => by have := HO5.out _ e; omega)).trans HG5.out
    have HO6 : Hid (¬ own3 W.heap.size) := fun e => by
     rcases ho3 _ e with a | a
     ·have := HO5.out _ a; omega
     ·omega
    clear ho3 hb3 hR3 c3 t0 t1 t2 t3 t4 HJ2 HR2
    gi_wp2
    rename_i Kr hKr
    obtain ⟨ks, k1, k2, k3, k4⟩ : ∃ ks : List Nv, nkn = ks.length ∧ ks.length = (sub li).length ∧ NodesAt w0 nko nkc ks ∧ ∀ i (h1 : i < ks.length) (h2 : i < (sub li).length), NodeAt (fun _ => True) d' w0 ks[i] (sub li)[i] := by
     unfold sub
     cases hlf : leaf li
     ·obtain ⟨_, _, ks, c, e, f, _, g⟩ := HN5.out hlf
      exact ⟨ks, c, e, f, g⟩
     ·obtain ⟨_, _, _, c, e⟩ := HN4.out hlf
      exact ⟨[], c, rfl, e, fun i h => absurd h (by simp)⟩
    have HKS : Hid (nkn = ks.length ∧ ks.length = (sub li).length) := ⟨k1, k2⟩
    have HK3 : Hid (NodesAt w0 nko nkc ks) := k3
    have HK4 : Hid _ := k4
    have hs4 : (sub li).length ≤ 4 := by unfold sub; split; simp; exact kids_len li
    have HSO : Hid (∀ m ∈ sub li, On m) := fun m hm => by
     unfold sub at hm
     split at hm
     ·simp at hm
     ·exact HOn.out.kid hm
    have HKc : Hid (∀ Wq, Below w0.heap.size w0 Wq → Calls Try.prog 88 #[.agg #[.int .u32 (nX : Int), .int .u32 (nY : Int), .int .i64 zL, .slice nro nrn nrc, .slice nko nkn nkc]] Wq fun e W' => ∃ v, e = .returned v ∧ W'.ownsRow Wq.heap.size 45 5 v ks.length (ks.flatMap nc) ∧ Below Wq.heap.size Wq W') := fun Wq hWq => by
     have hcl := lev_cl HOn.out
     have h := kids_any nX nY nL nro nrn nrc nko nkn nkc ks (fun i => qat li i) Wq k1 (Sl.below k3 hWq (Nat.le_refl _)) (by omega) (by rw [HNx.out.1]; have := hcl.x31; omega) (by rw [HNx.out.2.1]; have := hcl.y31; omega) (fun i hi => ?_) (fun i j hij hj => ?_)
     ·rw [HZL.out] at h; exact h
     ·have hsub : sub li = kidsL li := by
       unfold sub; split
       ·rename_i hl; have : (sub li).length = 0 := by unfold sub; rw [if_pos hl]; rfl
        omega
       ·rfl
      have hi2 : i < (kidsL li).length := by rw [← hsub]; omega
      have hlf : leaf li = false := by
       cases h : leaf li
       ·rfl
       ·have : (sub li).length = 0 := by unfold sub; rw [if_pos h]; rfl
        omega
      obtain ⟨_, m, hm⟩ := leaf_no hlf
      obtain ⟨e1, e2, e3⟩ := kid_part hi2
      have hn := k4 i hi (by omega)
      have hgn : (sub li)[i]'(by omega) = part li (qat li i) := by
       have : (sub li)[i]'(by omega) = (kidsL li)[i] := by congr 1
       rw [this, e1]
      rw [hgn] at hn
      have hcl2 := lev_cl (HOn.out.part (qat li i))
      have hf : ks[i].X = cx (part li (qat li i)) ∧ ks[i].Y = cy (part li (qat li i)) ∧ ks[i].L = lev (part li (qat li i)) := by
       cases d' with
       | zero => exact hn.elim
       | succ d'' => exact ⟨hn.1, hn.2.1, hn.2.2.1⟩
      rw [hf.1, hf.2.1, hf.2.2, HNx.out.1, HNx.out.2.1, HNx.out.2.2]
      exact ⟨kid_wher HOn.out hm e3, by have := hcl2.x31; omega, by have := hcl2.y31; omega, (rightS_nat _ _ _).2 hcl2, by have := lev_part HOn.out hm (qat li i); omega⟩
     ·have hsub : sub li = kidsL li := by
       unfold sub; split
       ·rename_i hl; have : (sub li).length = 0 := by unfold sub; rw [if_pos hl]; rfl
        omega
       ·rfl
      exact qat_rise hij (by rw [← hsub]; omega)
    clear k1 k2 k3 k4
    have fin : ∀ (Wk : World) (ko' : Option Addr) (kc' : Nat), Below W3.heap.size W3 Wk → Wk.ownsRow W3.heap.size 45 5 (.slice ko' ks.length kc') ks.length (ks.flatMap nc) →
      Kr { tmps := #[.func (.yield l) #[] #[], .pointer (some ⟨bL, 0, none⟩), .pointer (some ⟨bE, 0, none⟩), .pointer (some ⟨b3, 0, none⟩), u4, .pointer (some ⟨W.heap.size, 0, none⟩), u6, .slice (some ⟨b, off, none⟩) ln lc, .int .i64 (ln : Int), .int .i64 (i : Int), .bool true, .pointer (some ⟨b, off + i * 5, none⟩), .agg #[.int .u32 (nX : Int), .int .u32 (nY : Int), .int .i64 zL, .slice nro nrn nrc, .slice nko nkn nkc], .func (.func ef) #[] eb, .pointer (some ⟨W.heap.size, 0, none⟩), .agg #[.int .u32 (nX : Int), .int .u32 (nY : Int), .int .i64 zL], .bool true, .bool false, .func (.yield l) #[] #[], .agg #[.int .u32 (nX : Int), .int .u32 (nY : Int), .int .i64 zL, .slice nro nrn nrc, .slice nko nkn nkc], .bool true, .bool false, .func (.func ef) #[] eb, .agg #[.int .u32 (nX : Int), .int .u32 (nY : Int), .int .i64 zL, .slice nro nrn nrc, .slice nko nkn nkc], (.slice ko' ks.length kc'), (.func (.func 87) #[] #[.pointer (some ⟨Wk.heap.size + 1, 0, none⟩), .pointer (some ⟨Wk.heap.size, 0, none⟩)]), u26, u27, u28, u29, u30, u31], defers := ds } ((Wk.alloc (.cells #[.func (.func ef) #[] eb] 74)).alloc (.cells #[.slice ko' ks.length kc'] 43)) := by
     intro Wk ko' kc' hbk hok
     have hs3 := hbk.size
     have hw4 : Below Wk.heap.size Wk ((Wk.alloc (.cells #[.func (.func ef) #[] eb] 74)).alloc (.cells #[.slice ko' ks.length kc'] 43)) := (below_new Wk _).trans ((below_new _ _).mono (by simp))
     obtain ⟨y1, y2, _⟩ := two_new Wk (.cells #[.func (.func ef) #[] eb] 74) (.cells #[.slice ko' ks.length kc'] 43)
     have hsz4 : ((Wk.alloc (.cells #[.func (.func ef) #[] eb] 74)).alloc (.cells #[.slice ko' ks.length kc'] 43)).heap.size = Wk.heap.size + 2 := by simp
     have HB34 : Hid (Below W3.heap.size W3 ((Wk.alloc (.cells #[.func (.func ef) #[] eb] 74)).alloc (.cells #[.slice ko' ks.length kc'] 43))) := hbk.trans (hw4.mono hs3)
     have HJ4 : Hid (NJ w0 W1 bE b3 (some ⟨b, off, none⟩) lc ns ef eb l own3 Ds ((Wk.alloc (.cells #[.func (.func ef) #[] eb] 74)).alloc (.cells #[.slice ko' ks.length kc'] 43))) := HJ3.out.grow HB34.out
     have HR4 : Hid (R own3 (pos p (d' + 1) ls i + 1) ((Wk.alloc (.cells #[.func (.func ef) #[] eb] 74)).alloc (.cells #[.slice ko' ks.length kc'] 43))) := HRs.out _ _ _ _ HR3.out (Kw.of_below HB34.out)
     have HNk : Hid (NodesAt Wk ko' kc' ks) := by
      obtain ⟨o1, c1, e1, s1⟩ := sl_of_own hok
      cases e1
      exact s1
     have HNk4 : Hid (NodesAt ((Wk.alloc (.cells #[.func (.func ef) #[] eb] 74)).alloc (.cells #[.slice ko' ks.length kc'] 43)) ko' kc' ks) := Sl.below HNk.out hw4 (Nat.le_refl _)
     have HY1 : Hid _ := y1
     have HY2 : Hid _ := y2
     have HO3 : Hid (∀ j, own3 j → w0.heap.size ≤ j ∧ j < W3.heap.size) := fun j hj => ⟨(HJ3.out.out j hj).1, (HJ3.out.out j hj).2.1⟩
     have HLk : Hid (∀ b off, ko' = some ⟨b, off, none⟩ → W3.heap.size ≤ b ∧ b < Wk.heap.size) := fun b off e => own_base hok (by rw [e]; rfl)
     have HBE : Hid (bE < W3.heap.size ∧ b3 < W3.heap.size ∧ b < W3.heap.size ∧ (∀ D ∈ Ds, D < W3.heap.size)) := ⟨(Array.getElem?_eq_some_iff.1 HJ3.out.ent).1, (Array.getElem?_eq_some_iff.1 HJ3.out.yld).1, by
      obtain ⟨b', off', e, hlt, _⟩ := HJ3.out.list.2.2.2.2 (by have := HLN.out; omega)
      cases e; exact hlt, fun D hD => (Array.getElem?_eq_some_iff.1 (HJ3.out.marks D hD).1).1⟩
     obtain ⟨gE, hgE⟩ : ∃ gE, Wk.heap.size = gE := ⟨_, rfl⟩
     obtain ⟨gL, hgL⟩ : ∃ gL, gE + 1 = gL := ⟨_, rfl⟩
     obtain ⟨Wf, hWf⟩ : ∃ Wf, (Wk.alloc (.cells #[.func (.func ef) #[] eb] 74)).alloc (.cells #[.slice ko' ks.length kc'] 43) = Wf := ⟨_, rfl⟩
     obtain ⟨kn', hkn'⟩ : ∃ kn', ks.length = kn' := ⟨_, rfl⟩
     have HKN' : Hid (ks.length = kn') := hkn'
     have HGs : Hid (W3.heap.size ≤ gE ∧ gL = gE + 1 ∧ Wf.heap.size = gE + 2) := ⟨by omega, hgL.symm, by rw [← hWf, ← hgE]; exact hsz4⟩
     rw [hWf] at HB34 HJ4 HR4 HNk4 HY1 HY2 ⊢
     rw [hgE] at HY1 HY2 HLk ⊢
     rw [hgL] at HY2 ⊢
     rw [hkn'] at HY2 ⊢
     clear y1 y2 hw4 hsz4 hok hbk HNk hgE hgL hWf hkn' hs3
     refine hKr _ _ ?_
     clear hKr
     gi_wp2
     refine range_law9 (by omega) (gf := 87) (lb := #[.pointer (some ⟨gL, 0, none⟩), .pointer (some ⟨gE, 0, none⟩)]) rfl (enters_of Try.func87 (by kernel_rfl) rfl) (α := Nv) (visL p d' (sub li)).length (fun n => #[nv n]) (fun _ => rfl) (fun k n => ∃ d'', NodeAt (fun _ => True) d'' w0 n (vat (visL p d' (sub li)) k))
      (fun own k W => NJ w0 W1 bE b3 (some ⟨b, off, none⟩) lc ns ef eb l own Ds W ∧ R own (pos p (d' + 1) ls i + 1 + k) W) (fun own W => NJ w0 W1 bE b3 (some ⟨b, off, none⟩) lc ns ef eb l own Ds W ∧ Rx own W) .ret ?hJ ?hJx own3 ?hown0 ?h0
      (fun n a' Wx => ∃ q, Wf.heap.size + 2 ≤ q ∧ Wx.heap[q]? = some (.cells #[.int .u32 (n.X : Int), .int .u32 (n.Y : Int), .int .i64 (n.L : Int), .slice n.ro n.rn n.rc, .slice n.ko n.kn n.kc] 45 (0, 0)) ∧ a' = { tmps := #[.func (.yield l) #[] #[], .pointer (some ⟨bL, 0, none⟩), .pointer (some ⟨bE, 0, none⟩), .pointer (some ⟨b3, 0, none⟩), u4, .pointer (some ⟨W.heap.size, 0, none⟩), .pointer (some ⟨q, 0, none⟩), .slice (some ⟨b, off, none⟩) ln lc, .int .i64 (ln : Int), .int .i64 (i : Int), .bool true, .pointer (some ⟨b, off + i * 5, none⟩), .agg #[.int .u32 (nX : Int), .int .u32 (nY : Int), .int .i64 zL, .slice nro nrn nrc, .slice nko nkn nkc], .func (.func ef) #[] eb, .pointer (some ⟨W.heap.size, 0, none⟩), .agg #[.int .u32 (nX : Int), .int .u32 (nY : Int), .int .i64 zL], .bool true, .bool false, .func (.yield l) #[] #[], .agg #[.int .u32 (nX : Int), .int .u32 (nY : Int), .int .i64 zL, .slice nro nrn nrc, .slice nko nkn nkc], .bool true, .bool false, .func (.func ef) #[] eb, .agg #[.int .u32 (nX : Int), .int .u32 (nY : Int), .int .i64 zL, .slice nro nrn nrc, .slice nko nkn nkc], (.slice ko' kn' kc'), (.func (.func 87) #[] #[.pointer (some ⟨gL, 0, none⟩), .pointer (some ⟨gE, 0, none⟩)]), nv n, u27, u28, u29, u30, u31], defers := [] }) ?hA ?assign ?body ?iter ?done ?stop
     case hJ =>
      rintro own k A B ⟨h1, h2⟩ hk
      have hg := HGs.out
      have he := HBE.out
      have h3 := HB34.out.size
      exact ⟨h1.kw hk (by omega) (by omega) (fun b' off' e _ => by cases e; omega) (fun D hD => by have := he.2.2.2 D hD; omega) (Nat.le_trans HJ3.out.bel.size h3), HRs.out _ _ _ _ h2 (hk.less (by have := HS5.out; have := HJ3.out.b3s; omega) fun j hj => .inl hj)⟩
     case hJx =>
      rintro own A B ⟨h1, h2⟩ hk
      have hg := HGs.out
      have he := HBE.out
      have h3 := HB34.out.size
      exact ⟨h1.kw hk (by omega) (by omega) (fun b' off' e _ => by cases e; omega) (fun D hD => by have := he.2.2.2 D hD; omega) (Nat.le_trans HJ3.out.bel.size h3), HRxs.out _ _ _ h2 (hk.less (by have := HS5.out; have := HJ3.out.b3s; omega) fun j hj => .inl hj)⟩
     case hown0 =>
      intro j hj
      have := (HO3.out j hj).2
      have := HB34.out.size
      omega
     case h0 => exact ⟨HJ4.out, HR4.out⟩
     case hA =>
      rintro n a' W l' o' ⟨q, hq1, hq2, rfl⟩ h1 h2
      exact ⟨q, hq1, (World.putObj_heap_other (by omega)).trans hq2, rfl⟩
     case assign =>
      intro l' own k n W' K hk hok hJk hsz hK
      obtain ⟨mX, mY, mL, mro, mrn, mrc, mko, mkn, mkc⟩ := n
      clear hok hJk
      gi_wp2
      exact hK _ _ (below_new W' _) ⟨W'.heap.size, by omega, heap_alloc_new W' _, rfl⟩
     case body =>
      rintro l' own k n a' W' hk hok ⟨hJk, hRk⟩ ⟨q, hq1, hq2, rfl⟩ hsz hol
      obtain ⟨mX, mY, mL, mro, mrn, mrc, mko, mkn, mkc⟩ := n
      have hvt := HVat.out (1 + k) (by rw [HV.out, List.length_cons]; unfold visL at hk; omega)
      have hvt2 : vat (vis p (d' + 1) li) (1 + k) = vat (visL p d' (sub li)) k := by
       rw [HV.out]; unfold vat visL; rw [Nat.add_comm 1 k, List.getElem?_cons_succ]
      rw [hvt2, show pos p (d' + 1) ls i + (1 + k) = pos p (d' + 1) ls i + 1 + k by omega] at hvt
      obtain ⟨dd, hdd⟩ := hok
      have hy0 := yield_wide (m := 2) <| HY.out own (pos p (d' + 1) ls i + 1 + k) ⟨mX, mY, mL, mro, mrn, mrc, mko, mkn, mkc⟩ W' hvt.2 ⟨dd, by rw [hvt.1]; exact hdd⟩ hRk (fun j hj => ⟨(hJk.out j hj).1, (hJk.out j hj).2.1⟩) hJk.bel
      obtain ⟨fn, tmps, assign, body, hy, hRd⟩ := hy0
      simp only [nv] at hy
      have c3 : W'.cell? ⟨b3, 0, none⟩ = some (.func (.yield l) #[] #[]) := by rw [cell_of_row _ _ _ _ _ _ hJk.yld]; rfl
      obtain ⟨z0, z1, z2, z3, z4, t0, t1, t2, t3, t4⟩ := node_facts hq2
      have HJk : Hid (NJ w0 W1 bE b3 (some ⟨b, off, none⟩) lc ns ef eb l own Ds W') := hJk
      clear z0 z1 z2 z3 z4 hvt hvt2 hdd hJk hRk hq2
      gi_wp2
      refine RoundIn.mono (R := YPost R Rx own (pos p (d' + 1) ls i + 1 + k + 1) W') hRd ?_
      rintro e W6 ⟨own6, ho6, hb6, (⟨rfl, hR6⟩ | ⟨rfl, hx6⟩)⟩
      ·have HJ6 := HJk.out.next hb6 ho6
       clear t0 t1 t2 t3 t4 c3 hy hRd
       gi_wp2
       exact ⟨own6, ho6, hb6, HJ6, hR6⟩
      ·have HJ6 := HJk.out.next hb6 ho6
       clear t0 t1 t2 t3 t4 c3 hy hRd
       gi_wp2
       exact ⟨rfl, own6, ho6, hb6, HJ6, hx6⟩
     case iter =>
      intro l' W5 hl' hB5 hs5 R' Rx' ow how hR' hRx' hY' h0'
      have hg := HGs.out
      refine IH.out d' rfl ks (sub li) HKS.out.2 HK4.out HSO.out (by have := HKS.out; omega) W5 gL gE ko' kc' (HJ4.out.bel.trans (hB5.mono HJ4.out.bel.size)) ?_ ?_ (Sl.below HNk4.out hB5 (Nat.le_refl _)) l' R' Rx' ow (fun j hj => ?_) hR' hRx' (fun own k n W hk hok hRk hsz _ => hY' own k n W hk hok hRk fun j hj => (hsz j hj).2) h0'
      ·rw [HKN'.out]; exact (hB5.block _ (by omega)).trans HY2.out
      ·exact (hB5.block _ (by omega)).trans HY1.out
      ·have h3 := HB34.out.size
       have hw0 := HJ3.out.bel.size
       rcases (how j).1 hj with a | rfl
       ·have := HO3.out j a
        exact ⟨this.1, by omega, by omega, by omega, fun _ off' e => by have := (HLk.out j off' e).1; omega⟩
       ·exact ⟨by omega, by omega, by omega, by omega, fun _ off' e => by have := (HLk.out _ off' e).2; omega⟩
     case done =>
      rintro D own W' hDe hno ⟨hJk, hRk⟩ hdf
      have HJD : Hid (NJ w0 W1 bE b3 (some ⟨b, off, none⟩) lc ns ef eb l own (D :: Ds) W') := hJk.mark hno hdf (by have := HB34.out.size; have := HS5.out; have := HJ3.out.bel.size; have := HBE.out.2.1; have := HJ3.out.b3s; omega) (fun hD => by have := HBE.out.2.2.2 D hD; have := HB34.out.size; omega)
      have HRD : Hid (R own (pos p (d' + 1) ls (i + 1)) W') := by
       refine (?_ : R own (pos p (d' + 1) ls (i + 1)) W')
       have h := HPn.out
       rw [HV.out, List.length_cons] at h
       rw [h]
       have e : pos p (d' + 1) ls i + 1 + (visL p d' (sub li)).length = pos p (d' + 1) ls i + ((List.flatMap (vis p d') (sub li)).length + 1) := by unfold visL; omega
       rw [← e]; exact hRk
      have i1 : (i : Int) + 1 ≤ 9223372036854775807 := by have := HLen.out; have := HLN.out; omega
      clear hJk hRk hdf
      gi_wp2
      rw [show (i : Int) + 1 = ((i + 1 : Nat) : Int) by omega, ← HDS.out]
      refine ⟨⟨i + 1, D :: Ds, own, _, _, _, _, _, _, _, _, _, _, _, _, _, _, _, _, _, _, _, _, _, _, _, _, _, by omega, rfl, HJD.out, HRD.out⟩, ?_⟩
      simp [natOf]
      omega
     case stop =>
      rintro D own W' hDe hno ⟨hJk, hRk⟩ hdf
      have HJD : Hid (NJ w0 W1 bE b3 (some ⟨b, off, none⟩) lc ns ef eb l own (D :: Ds) W') := hJk.mark hno hdf (by have := HB34.out.size; have := HS5.out; have := HJ3.out.bel.size; have := HBE.out.2.1; have := HJ3.out.b3s; omega) (fun hD => by have := HBE.out.2.2.2 D hD; have := HB34.out.size; omega)
      have HXD : Hid (Rx own W') := hRk
      clear hJk hRk hdf
      gi_wp2
      rw [← HDS.out]
      exact leaves_marks (fun W => results_none rfl _ _ _) (D :: Ds) W' HJD.out.nd (fun D hD => (HJD.out.marks D hD).1) fun W' hb => ⟨⟨_, rfl⟩, own, .inr (HRxs.out _ _ _ HXD.out (HJD.out.left hb))⟩
    have cE3 : W3.cell? ⟨bE, 0, none⟩ = some (.func (.func ef) #[] eb) := by rw [cell_of_row _ _ _ _ _ _ HJ3.out.ent]; rfl
    have HSW : Hid (QE bE ef eb W.heap.size nX nY zL nro nrn nrc nko nkn nkc W3.drew) := ⟨cE3, F5.of HG6.out⟩
    have hbE3 := (Array.getElem?_eq_some_iff.1 HJ3.out.ent).1
    have hl6 := (Array.getElem?_eq_some_iff.1 HG6.out).1
    obtain ⟨z0, z1, z2, z3, z4, t0, t1, t2, t3, t4⟩ := node_facts HG6.out
    clear z0 z1 z2 z3 z4
    refine (wpIn_wide (n := 5)).2 (wp_region_held (S := QE bE ef eb W.heap.size nX nY zL nro nrn nrc nko nkn nkc) (by kernel_rfl) ?_)
    change wpAnyH _ _ _ _ _ _ _ _ (World.drew _)
    refine readyH2 0 1 _ _ (by kernel_rfl) rfl rfl (by kernel_rfl) (by kernel_rfl) (fun K hK => ?_) (fun K hK => ?_)
    ·go_simp
     refine hK _ _ HSW.out ?_
     clear hK K
     refine readyH 1 _ (by kernel_rfl) rfl (by kernel_rfl) (fun K hK => ?_)
     go_simp
     refine hK _ _ HSW.out ?_
     clear hK K
     refine readyH 2 _ (by kernel_rfl) rfl (by kernel_rfl) (fun K hK => ?_)
     go_simp
     refine Calls.mono (HKc.out W3.drew HJ3.out.bel.drew) ?_
     rintro e Wk ⟨v, rfl, hok, bk⟩
     replace bk : Below W3.heap.size W3 Wk := (Below.refl _ W3).drew.trans bk
     obtain ⟨ko', kc', rfl, _⟩ := sl_of_own hok
     replace HSW : Hid (QE bE ef eb W.heap.size nX nY zL nro nrn nrc nko nkn nkc Wk) := ⟨(World.cell?_of_block (a := ⟨bE, 0, none⟩) (bk.block _ hbE3)).trans HSW.out.1, HSW.out.2.same (bk.block _ hl6)⟩
     refine hK _ _ HSW.out ?_
     clear hK K
     refine readyH 3 _ (by kernel_rfl) rfl (by kernel_rfl) (fun K hK => ?_)
     go_simp
     refine (nodes_any ef eb ko' ks.length kc' Wk).mono ?_
     rintro e Wn ⟨rfl, hWn⟩
     subst hWn
     have hb4 : Below Wk.heap.size Wk ((Wk.alloc (.cells #[.func (.func ef) #[] eb] 74)).alloc (.cells #[.slice ko' ks.length kc'] 43)) := (below_new Wk _).trans ((below_new _ _).mono (by simp))
     have hbk2 := bk.size
     refine hK _ _ (⟨(World.cell?_of_block (a := ⟨bE, 0, none⟩) (hb4.block bE (Nat.lt_of_lt_of_le hbE3 hbk2))).trans HSW.out.1, HSW.out.2.same (hb4.block W.heap.size (Nat.lt_of_lt_of_le hl6 hbk2))⟩ : QE bE ef eb W.heap.size nX nY zL nro nrn nrc nko nkn nkc _) ?_
     clear hK K
     refine wpAnyH_done (by kernel_rfl) ?_ _
     exact fin Wk ko' kc' bk hok
    ·go_simp
     refine hK _ _ HSW.out ?_
     clear hK K
     refine readyH2 0 2 _ _ (by kernel_rfl) rfl rfl (by kernel_rfl) (by kernel_rfl) (fun K hK => ?_) (fun K hK => ?_)
     ·go_simp
      refine hK _ _ HSW.out ?_
      clear hK K
      refine readyH 2 _ (by kernel_rfl) rfl (by kernel_rfl) (fun K hK => ?_)
      go_simp
      refine Calls.mono (HKc.out W3.drew HJ3.out.bel.drew) ?_
      rintro e Wk ⟨v, rfl, hok, bk⟩
      replace bk : Below W3.heap.size W3 Wk := (Below.refl _ W3).drew.trans bk
      obtain ⟨ko', kc', rfl, _⟩ := sl_of_own hok
      replace HSW : Hid (QE bE ef eb W.heap.size nX nY zL nro nrn nrc nko nkn nkc Wk) := ⟨(World.cell?_of_block (a := ⟨bE, 0, none⟩) (bk.block _ hbE3)).trans HSW.out.1, HSW.out.2.same (bk.block _ hl6)⟩
      refine hK _ _ HSW.out ?_
      clear hK K
      refine readyH 3 _ (by kernel_rfl) rfl (by kernel_rfl) (fun K hK => ?_)
      go_simp
      refine (nodes_any ef eb ko' ks.length kc' Wk).mono ?_
      rintro e Wn ⟨rfl, hWn⟩
      subst hWn
      have hb4 : Below Wk.heap.size Wk ((Wk.alloc (.cells #[.func (.func ef) #[] eb] 74)).alloc (.cells #[.slice ko' ks.length kc'] 43)) := (below_new Wk _).trans ((below_new _ _).mono (by simp))
      have hbk2 := bk.size
      refine hK _ _ (⟨(World.cell?_of_block (a := ⟨bE, 0, none⟩) (hb4.block bE (Nat.lt_of_lt_of_le hbE3 hbk2))).trans HSW.out.1, HSW.out.2.same (hb4.block W.heap.size (Nat.lt_of_lt_of_le hl6 hbk2))⟩ : QE bE ef eb W.heap.size nX nY zL nro nrn nrc nko nkn nkc _) ?_
      clear hK K
      refine wpAnyH_done (by kernel_rfl) ?_ _
      exact fin Wk ko' kc' bk hok
     ·go_simp
      refine Calls.mono (HKc.out W3.drew HJ3.out.bel.drew) ?_
      rintro e Wk ⟨v, rfl, hok, bk⟩
      replace bk : Below W3.heap.size W3 Wk := (Below.refl _ W3).drew.trans bk
      obtain ⟨ko', kc', rfl, _⟩ := sl_of_own hok
      replace HSW : Hid (QE bE ef eb W.heap.size nX nY zL nro nrn nrc nko nkn nkc Wk) := ⟨(World.cell?_of_block (a := ⟨bE, 0, none⟩) (bk.block _ hbE3)).trans HSW.out.1, HSW.out.2.same (bk.block _ hl6)⟩
      refine hK _ _ HSW.out ?_
      clear hK K
      have cE4 := HSW.out.1
      refine readyH 0 _ (by kernel_rfl) rfl (by kernel_rfl) (fun K hK => ?_)
      go_simp
      refine hK _ _ HSW.out ?_
      clear hK K
      clear cE4
      refine readyH 3 _ (by kernel_rfl) rfl (by kernel_rfl) (fun K hK => ?_)
      go_simp
      refine (nodes_any ef eb ko' ks.length kc' Wk).mono ?_
      rintro e Wn ⟨rfl, hWn⟩
      subst hWn
      have hb4 : Below Wk.heap.size Wk ((Wk.alloc (.cells #[.func (.func ef) #[] eb] 74)).alloc (.cells #[.slice ko' ks.length kc'] 43)) := (below_new Wk _).trans ((below_new _ _).mono (by simp))
      have hbk2 := bk.size
      refine hK _ _ (⟨(World.cell?_of_block (a := ⟨bE, 0, none⟩) (hb4.block bE (Nat.lt_of_lt_of_le hbE3 hbk2))).trans HSW.out.1, HSW.out.2.same (hb4.block W.heap.size (Nat.lt_of_lt_of_le hl6 hbk2))⟩ : QE bE ef eb W.heap.size nX nY zL nro nrn nrc nko nkn nkc _) ?_
      clear hK K
      refine wpAnyH_done (by kernel_rfl) ?_ _
      exact fin Wk ko' kc' bk hok
   ·have HJ3 : Hid (NJ w0 W1 bE b3 (some ⟨b, off, none⟩) lc ns ef eb l own3 Ds W3) := HJ2.out.next hb3 ho3
    have HX3 : Hid (Rx own3 W3) := hx3
    clear ho3 hb3 hx3 c3 t0 t1 t2 t3 t4
    gi_wp2
    rw [← HDS.out]
    refine leaves_marks (fun W => results_none rfl _ _ _) Ds W3 HJ3.out.nd (fun D hD => (HJ3.out.marks D hD).1) fun W' hb => ⟨⟨_, rfl⟩, own3, .inr (HRxs.out _ _ _ HX3.out (HJ3.out.left hb))⟩
 ·obtain rfl : i = ln := by omega
  have q1 : ¬ (i : Int) < (i : Int) := by omega
  have HRe : Hid (R own (visL p d ls).length W) := by
   have := HRi.out
   rw [pos_all p d ls i (by have := HLen.out; have := HLN.out; omega)] at this
   exact this
  clear hJ
  gi_wp2
  rw [← HDS.out]
  exact leaves_marks (fun W => results_none rfl _ _ _) Ds W HJ.out.nd (fun D hD => (HJ.out.marks D hD).1) fun W' hb => ⟨⟨_, rfl⟩, own, .inl (HRs.out _ _ _ _ HRe.out (HJ.out.left hb))⟩
set_option maxRecDepth 100000 in
theorem nodes1_any (w0 : World) (p : Nat → Nat → Nat → Bool) (ef : Nat) (eb : Array Value) (hE : Ent w0 p ef eb) : ∀ d, NodesIter w0 p ef eb d
 | 0 => nodes1_step w0 p ef eb hE 0 fun d' h => by cases h
 | d + 1 => nodes1_step w0 p ef eb hE (d + 1) fun d' h => by cases h; exact nodes1_any w0 p ef eb hE d
end Go.Proofs.Ytimdlohdmddnjaa.Rq
