/- The rows of a tree that are near enough; what the reference says where nothing is asked. -/
import Derived.Test.YtimdlohdmddnjaaQBK
namespace Go.Proofs.Ytimdlohdmddnjaa.Rq
open Go.RowKit Go.Lib Go.Shelf
open Go.Proofs.Ytimdlohdmddnjaa.Rc
set_option maxRecDepth 100000 in
set_option maxHeartbeats 1000000 in
theorem rWin_no (sv : Value) (a b c d : Nat) (hb : boxS a b c d = false) (w : World) :
  Calls Try.prog 58 #[sv, bv a b c d] w fun e w' => e = .returned (.tuple #[.slice none 0 0, .int .i64 81]) ∧ Below w.heap.size w w' := by
 have HCB : Hid _ := eRightBox_any a b c d
 rw [hb] at HCB
 have HBN : Hid _ := below_new w (.cells #[.int .u32 (a : Int), .int .u32 (b : Int), .int .u32 (c : Int), .int .u32 (d : Int)] 24)
 simp only [bv] at HCB ⊢
 go_enter Try.func58, Try.ntmps58
 go_wp2_with fail
 refine (HCB.out _).mono ?_
 rintro e W0 ⟨rfl, b0⟩
 have HB0 : Hid (Below w.heap.size w W0) := HBN.out.trans (b0.mono (by simp))
 clear b0 HBN HCB
 go_wp2_with fail
 go_ret2
 exact ⟨rfl, HB0.out⟩
set_option maxRecDepth 100000 in
theorem rWindow_any (l : List Rw) (o : Option Addr) (cap a b c d : Nat) (w : World) (hr : RowsAt w o cap l) (hm : l.length ≤ 1000) :
  Calls Try.prog 58 #[.slice o l.length cap, bv a b c d] w fun e w' => ∃ v, e = .returned (.tuple #[v, .int .i64 (boxE a b c d)]) ∧ w'.ownsRow w.heap.size 54 4 v (winV l a b c d).length ((winV l a b c d).flatMap rc) ∧ Below w.heap.size w w' := by
 unfold winV boxE
 cases hb : boxS a b c d
 ·refine (rWin_no _ a b c d hb w).mono ?_
  rintro e w' ⟨h1, h2⟩
  exact ⟨_, by simpa using h1, ⟨rfl, .inl ⟨rfl, rfl⟩⟩, h2⟩
 ·simpa using rWin_ok l o cap a b c d hb w hr hm
def rndV (l : List Rw) (x y s : Nat) : List Rw := if onS x y = true then (l.filter fun r => decide (Rq.dist r.x r.y x y ≤ s)) else []
def rndE (x y : Nat) : Int := if onS x y = true then 0 else 2
set_option maxRecDepth 100000 in
set_option maxHeartbeats 1000000 in
theorem rRnd_no (sv : Value) (x y s : Nat) (hb : onS x y = false) (w : World) :
  Calls Try.prog 59 #[sv, .int .u32 (x : Int), .int .u32 (y : Int), .int .u64 (s : Int)] w fun e w' => e = .returned (.tuple #[.slice none 0 0, .int .i64 2]) ∧ Below w.heap.size w w' := by
 have hc : (2147483648 : Int) ≤ (x : Int) ∨ (¬ (2147483648 : Int) ≤ (x : Int) ∧ (2147483648 : Int) ≤ (y : Int)) := by
  unfold onS at hb
  simp at hb
  omega
 rcases hc with h1 | ⟨h1, h2⟩
 all_goals
  go_enter Try.func59, Try.ntmps59
  go_wp2_with fail
  go_ret2
  exact ⟨rfl, Below.refl _ _⟩
theorem onS_iff (x y : Nat) : onS x y = true ↔ x < 2147483648 ∧ y < 2147483648 := by unfold onS; simp
set_option maxRecDepth 100000 in
theorem rRound_any (l : List Rw) (o : Option Addr) (cap x y s : Nat) (w : World) (hr : RowsAt w o cap l) (hon : On l) (hm : l.length ≤ 1000) :
  Calls Try.prog 59 #[.slice o l.length cap, .int .u32 (x : Int), .int .u32 (y : Int), .int .u64 (s : Int)] w fun e w' => ∃ v, e = .returned (.tuple #[v, .int .i64 (rndE x y)]) ∧ w'.ownsRow w.heap.size 54 4 v (rndV l x y s).length ((rndV l x y s).flatMap rc) ∧ Below w.heap.size w w' := by
 unfold rndV rndE
 cases hb : onS x y
 ·refine (rRnd_no _ x y s hb w).mono ?_
  rintro e w' ⟨h1, h2⟩
  exact ⟨_, by simpa using h1, ⟨rfl, .inl ⟨rfl, rfl⟩⟩, h2⟩
 ·have h := (onS_iff x y).1 hb
  simpa using rRnd_ok l o cap x y s h.1 h.2 w hr hon hm
set_option maxRecDepth 100000 in
theorem four_new (w : World) (a b c d : Obj) : ((((w.alloc a).alloc b).alloc c).alloc d).heap[w.heap.size]? = some a ∧ ((((w.alloc a).alloc b).alloc c).alloc d).heap[w.heap.size + 1]? = some b ∧ ((((w.alloc a).alloc b).alloc c).alloc d).heap[w.heap.size + 2]? = some c ∧ ((((w.alloc a).alloc b).alloc c).alloc d).heap[w.heap.size + 3]? = some d ∧ Below w.heap.size w ((((w.alloc a).alloc b).alloc c).alloc d) := by
 obtain ⟨x1, x2, x3⟩ := two_new w a b
 obtain ⟨y1, y2, y3⟩ := two_new ((w.alloc a).alloc b) c d
 have hs : ((w.alloc a).alloc b).heap.size = w.heap.size + 2 := by simp
 rw [hs] at y1 y2 y3
 exact ⟨(y3.block _ (by omega)).trans x1, (y3.block _ (by omega)).trans x2, y1, y2, x3.trans (y3.mono (by omega))⟩
set_option maxRecDepth 100000 in
set_option maxHeartbeats 2000000 in
theorem qRnd_no (n : Nv) (x y s : Nat) (hb : onS x y = false) (w : World) :
  Calls Try.prog 22 #[nv n, .int .u32 (x : Int), .int .u32 (y : Int), .int .u64 (s : Int)] w fun e w' => e = .returned (.tuple #[.slice none 0 0, .int .i64 2]) ∧ Below w.heap.size w w' := by
 obtain ⟨nX, nY, nL, nro, nrn, nrc, nko, nkn, nkc⟩ := n
 obtain ⟨-, -, -, -, z5⟩ := four_new w (.cells #[.int .u32 (nX : Int), .int .u32 (nY : Int), .int .i64 (nL : Int), .slice nro nrn nrc, .slice nko nkn nkc] 45) (.cells #[.int .u32 (x : Int)] 22) (.cells #[.int .u32 (y : Int)] 22) (.cells #[.int .u64 (s : Int)] 25)
 have HZ : Hid _ := z5
 have HP : Hid _ := qonPlane_any x y
 rw [hb] at HP
 clear hb z5
 simp only [nv] at ⊢
 go_enter Try.func22, Try.ntmps22
 go_wp2_with fail
 refine (HP.out _).mono ?_
 rintro e w1 ⟨rfl, rfl⟩
 go_wp2_with fail
 go_ret2
 exact ⟨rfl, HZ.out⟩
set_option maxRecDepth 100000 in
set_option maxHeartbeats 2000000 in
theorem qRnd_ok (n : Nv) (l : List Rw) (dd : Nat) (x y s : Nat) (hb : onS x y = true) (w : World) (hN : NodeAt (fun _ => True) dd w n l) (hon : On l) (hmax : l.length ≤ 1000) (hri : Rise l) :
  Calls Try.prog 22 #[nv n, .int .u32 (x : Int), .int .u32 (y : Int), .int .u64 (s : Int)] w fun e w' => ∃ v, e = .returned (.tuple #[v, .int .i64 0]) ∧ w'.ownsRow w.heap.size 54 4 v (l.filter fun r => decide (Rq.dist r.x r.y x y ≤ s)).length ((l.filter fun r => decide (Rq.dist r.x r.y x y ≤ s)).flatMap rc) ∧ Below w.heap.size w w' := by
 have hxy := (onS_iff x y).1 hb
 have HP0 : Hid _ := seqs_perm (fun X Y L => decide ((fars X Y (L : Int) x y).2 = 0 ∧ (fars X Y (L : Int) x y).1 ≤ s)) (fun r => decide (Rq.dist r.x r.y x y ≤ s)) (round_all x y s hb) dd l hN.fits hon
 have HRI : Hid (Rise (l.filter fun r => decide (Rq.dist r.x r.y x y ≤ s))) := rise_filter hri _
 have HP : Hid _ := qonPlane_any x y
 rw [hb] at HP
 have HXY : Hid (x < 2147483648 ∧ y < 2147483648) := hxy
 have HON : Hid (On l) := hon
 have HM : Hid (l.length ≤ 1000) := hmax
 have HRA : Hid _ := rows_any n
 obtain ⟨z1, z2, z3, z4, z5⟩ := four_new w (.cells #[.int .u32 (n.X : Int), .int .u32 (n.Y : Int), .int .i64 (n.L : Int), .slice n.ro n.rn n.rc, .slice n.ko n.kn n.kc] 45) (.cells #[.int .u32 (x : Int)] 22) (.cells #[.int .u32 (y : Int)] 22) (.cells #[.int .u64 (s : Int)] 25)
 obtain ⟨W0, hW0⟩ : ∃ W0, (((w.alloc (.cells #[.int .u32 (n.X : Int), .int .u32 (n.Y : Int), .int .i64 (n.L : Int), .slice n.ro n.rn n.rc, .slice n.ko n.kn n.kc] 45)).alloc (.cells #[.int .u32 (x : Int)] 22)).alloc (.cells #[.int .u32 (y : Int)] 22)).alloc (.cells #[.int .u64 (s : Int)] 25) = W0 := ⟨_, rfl⟩
 rw [hW0] at z1 z2 z3 z4 z5
 have HW0 : Hid _ := hW0
 have HNA : Hid (NodeAt (fun _ => True) dd W0 n l) := NodeAt.below hN z5 (Nat.le_refl _)
 have HG1 : Hid (W0.heap[w.heap.size]? = some (.cells #[.int .u32 (n.X : Int), .int .u32 (n.Y : Int), .int .i64 (n.L : Int), .slice n.ro n.rn n.rc, .slice n.ko n.kn n.kc] 45 (0, 0))) := z1
 have HRN : Hid (Rnd W0 (w.heap.size + 1) (w.heap.size + 2) (w.heap.size + 3) x y s) := ⟨z2, z3, z4⟩
 have HB0 : Hid (Below w.heap.size w W0) := z5
 clear hN hon hmax hri hxy z1 z2 z3 z4 z5 hW0 hb
 obtain ⟨nX, nY, nL, nro, nrn, nrc, nko, nkn, nkc⟩ := n
 simp only [nv] at HRA ⊢
 simp only at HNA HG1 HW0
 go_enter Try.func22, Try.ntmps22
 go_wp2_with fail
 refine (HP.out _).mono ?_
 rintro e w1 ⟨rfl, rfl⟩
 clear HP
 rw [HW0.out]
 obtain ⟨t0, t1, t2, t3, t4, f0, f1, f2, f3, f4⟩ := node_facts HG1.out
 have ln : w.heap.size < W0.heap.size := (Array.getElem?_eq_some_iff.1 HG1.out).1
 clear t0 t1 t2 t3 t4 HW0
 go_wp2_with fail
 refine (HRA.out _ _ _ _ _).mono ?_
 rintro e w2 ⟨rfl, hw2⟩
 have hb12 : Below W0.heap.size W0 w2 := by rw [hw2]; exact ((below_new W0 _).alloc (by simp) _).alloc (by simp; omega) _
 have hrn := HRN.out.grow hb12 (Nat.le_refl _)
 obtain ⟨hb2, hit⟩ := rows_iter _ _ _ _ _ _ _ dd _ l HNA.out HON.out HM.out w2 hw2 (ent_round w2 _ _ _ x y s hrn) (kep_round w2 _ _ _ x y s hrn HXY.out.1 HXY.out.2)
 have hc := byId_any w2 _ _ _ hit rows1_eg (by rw [HP0.out.length_eq]; exact Nat.le_trans (List.length_filter_le _ _) HM.out) w2 (Below.refl _ _)
 obtain ⟨ll, hll⟩ : ∃ ll, (l.filter fun r => decide (Rq.dist r.x r.y x y ≤ s)) = ll := ⟨_, rfl⟩
 have HLL : Hid ((l.filter fun r => decide (Rq.dist r.x r.y x y ≤ s)) = ll) := hll
 have hp2 := HP0.out
 have hri2 := HRI.out
 rw [hll] at hp2 hri2
 clear hll
 have HCC : Hid (∀ _ : True, Calls Try.prog 34 #[.func (.func 67) #[] #[.pointer (some ⟨W0.heap.size + 1, 0, none⟩), .pointer (some ⟨W0.heap.size, 0, none⟩), .pointer (some ⟨W0.heap.size + 2, 0, none⟩)]] w2 fun e w' => ∃ v, e = .returned v ∧ w'.ownsRow w2.heap.size 54 4 v ll.length (ll.flatMap rc) ∧ Below w2.heap.size w2 w') := fun _ => hc.mono fun e w' ⟨v, h1, h2⟩ => ⟨v, h1, sorts_is h2 hp2 hri2⟩
 have HB2 : Hid (Below w.heap.size w w2) := HB0.out.trans (hb12.mono HB0.out.size)
 clear hw2 hit hb2 hb12 hrn hc hp2 hri2
 go_wp2_with fail
 refine Calls.mono (HCC.out trivial) ?_
 rintro e w3 ⟨v, rfl, ho3, hb3⟩
 have HO3 : Hid (w3.ownsRow w.heap.size 54 4 v ll.length (ll.flatMap rc)) := own_down ho3 HB2.out.size
 have HB3 : Hid (Below w.heap.size w w3) := HB2.out.trans (hb3.mono HB2.out.size)
 clear hb3 ho3
 go_wp2_with fail
 go_ret2
 rw [HLL.out]
 exact ⟨_, rfl, HO3.out, HB3.out⟩
set_option maxRecDepth 100000 in
theorem qRound_any (n : Nv) (l : List Rw) (dd : Nat) (x y s : Nat) (w : World) (hN : NodeAt (fun _ => True) dd w n l) (hon : On l) (hmax : l.length ≤ 1000) (hri : Rise l) :
  Calls Try.prog 22 #[nv n, .int .u32 (x : Int), .int .u32 (y : Int), .int .u64 (s : Int)] w fun e w' => ∃ v, e = .returned (.tuple #[v, .int .i64 (rndE x y)]) ∧ w'.ownsRow w.heap.size 54 4 v (rndV l x y s).length ((rndV l x y s).flatMap rc) ∧ Below w.heap.size w w' := by
 unfold rndV rndE
 cases hb : onS x y
 ·refine (qRnd_no n x y s hb w).mono ?_
  rintro e w' ⟨h1, h2⟩
  exact ⟨_, by simpa using h1, ⟨rfl, .inl ⟨rfl, rfl⟩⟩, h2⟩
 ·simpa using qRnd_ok n l dd x y s hb w hN hon hmax hri
end Go.Proofs.Ytimdlohdmddnjaa.Rq
/- Pieces in a block of their own; their insertion sort. -/
namespace Go.Proofs.Ytimdlohdmddnjaa.Rq.Pz
open Go.RowKit Go.Lib Go.Shelf
open Go.Proofs.Ytimdlohdmddnjaa.Rc Go.Proofs.Ytimdlohdmddnjaa.Rq
structure Pc where
 aw : Nat
 ro : Option Addr
 rn : Nat
 rc : Nat
instance : Inhabited Pc := ⟨⟨0, none, 0, 0⟩⟩
def pcs (r : Pc) : List Value := [.int .u64 (r.aw : Int), .slice r.ro r.rn r.rc]
def pv (r : Pc) : Value := .agg #[.int .u64 (r.aw : Int), .slice r.ro r.rn r.rc]
def Ur (w : World) (g z : Nat) (d : Array Pc) : Prop := ∃ cs, w.heap[g]? = some (.cells cs 87 (0, 0)) ∧ (cs.size = z ∧ d.size * 2 ≤ z) ∧ ∀ i, i < d.size → ∀ j, j < 2 → cs[i * 2 + j]? = (pcs d[i]!)[j]?
set_option maxRecDepth 100000 in
theorem Ur.lt {w : World} {g z : Nat} {d : Array Pc} (h : Ur w g z d) : g < w.heap.size := by
 obtain ⟨cs, h1, h2⟩ := h
 exact (Array.getElem?_eq_some_iff.1 h1).1
set_option maxRecDepth 100000 in
theorem Ur.same {w w' : World} {g z : Nat} {d : Array Pc} (h : Ur w g z d) (e : w'.heap[g]? = w.heap[g]?) : Ur w' g z d := by
 obtain ⟨cs, h1, h2⟩ := h
 exact ⟨cs, e.trans h1, h2⟩
set_option maxRecDepth 100000 in
theorem Ur.cell {w : World} {g z : Nat} {d : Array Pc} (h : Ur w g z d) (i : Nat) (hi : i < d.size) :
  (w.cell? ⟨g, i * 2, none⟩ = some (.int .u64 (d[i]!.aw : Int)) ∧ w.cell? ⟨g, i * 2 + 1, none⟩ = some (.slice d[i]!.ro d[i]!.rn d[i]!.rc)) ∧ ∀ k, w.frozen? ⟨g, k, none⟩ = false := by
 obtain ⟨cs, h1, h2, h3⟩ := h
 refine ⟨⟨?_, ?_⟩, fun k => frozen_of_row w _ _ _ _ h1⟩
 ·rw [cell_of_row _ _ _ _ _ _ h1]; exact h3 i hi 0 (by omega)
 ·rw [cell_of_row _ _ _ _ _ _ h1]; exact h3 i hi 1 (by omega)
def set2 (w : World) (g i : Nat) (r : Pc) : World := (w.setCell ⟨g, i * 2, none⟩ (.int .u64 (r.aw : Int))).setCell ⟨g, i * 2 + 1, none⟩ (.slice r.ro r.rn r.rc)
set_option maxRecDepth 100000 in
theorem Ur.set {w : World} {g z : Nat} {d : Array Pc} (h : Ur w g z d) (i : Nat) (hi : i < d.size) (r : Pc) : Ur (set2 w g i r) g z (d.setIfInBounds i r) := by
 obtain ⟨cs, h1, h2, h3⟩ := h
 have X1 := heap_setCell_same w g (i * 2) _ _ (.int .u64 (r.aw : Int)) h1
 have X2 := heap_setCell_same _ g (i * 2 + 1) _ _ (.slice r.ro r.rn r.rc) X1
 refine ⟨_, X2, ⟨by simpa using h2.1, by simpa using h2.2⟩, fun k hk j hj => ?_⟩
 simp only [Array.size_setIfInBounds] at hk
 simp only [Array.getElem?_setIfInBounds, Array.size_setIfInBounds]
 by_cases e : i = k
 ·subst e
  have hs : i * 2 + 1 < cs.size := by have := h2.1; have := h2.2; omega
  have er : (d.setIfInBounds i r)[i]! = r := by simp [getElem!_pos, hk]
  rw [er]
  obtain rfl | rfl : j = 0 ∨ j = 1 := by omega
  ·rw [if_neg (by omega), if_pos (by omega), if_pos (by omega)]; rfl
  ·rw [if_pos (by omega), if_pos (by omega)]; rfl
 ·have er : (d.setIfInBounds i r)[k]! = d[k]! := by simp [getElem!_pos, hk, e]
  rw [er, if_neg (by omega), if_neg (by omega)]
  exact h3 k hk j hj
set_option maxRecDepth 100000 in
theorem bg_set2 (w : World) (g i : Nat) (r : Pc) : Bg g w (set2 w g i r) :=
 (but_set w g _ _ (fun k => k = g) rfl).trans (but_set _ g _ _ (fun k => k = g) rfl)
set_option maxRecDepth 100000 in
theorem Ur.swp {w : World} {g z : Nat} {d : Array Pc} (h : Ur w g z d) (i j : Nat) (hi : i < d.size) (hj : j < d.size) :
  Ur (set2 (set2 w g i d[j]!) g j d[i]!) g z (Sort.swp d i j) ∧ Bg g w (set2 (set2 w g i d[j]!) g j d[i]!) :=
 ⟨(h.set i hi _).set j (by simpa using hj) _, (bg_set2 w g i _).trans (bg_set2 _ g j _)⟩
set_option maxRecDepth 100000 in
theorem ur_of_own {w : World} {base : Nat} {v : Value} {l : List Pc} (h : w.ownsRow base 87 2 v l.length (l.flatMap pcs)) (hl : l ≠ []) : ∃ g cap, v = .slice (some ⟨g, 0, none⟩) l.length cap ∧ base ≤ g ∧ Ur w g (cap * 2) l.toArray := by
 rcases h.2 with ⟨-, h0⟩ | ⟨g, cap, cur, rfl, h2, h3, h4, -, h6, h7⟩
 ·exact absurd (List.eq_nil_of_length_eq_zero h0) hl
 ·refine ⟨g, cap, rfl, h2, cur, h3, ⟨h6, by have := Nat.mul_le_mul_right 2 h4; simp; omega⟩, fun i hi j hj => ?_⟩
  have hi' : i < l.length := by simpa using hi
  have e : l.toArray[i]! = l[i] := by simp [getElem!_pos, hi']
  rw [e, ← flat_get pcs 2 (fun _ => rfl) l i _ (List.getElem?_eq_getElem hi') j hj, ← h7, List.getElem?_take_of_lt (by omega), Array.getElem?_toList]
set_option maxRecDepth 100000 in
theorem own_of_ur {w w' : World} {base g cap : Nat} {l m : List Pc} (h : w.ownsRow base 87 2 (.slice (some ⟨g, 0, none⟩) l.length cap) l.length (l.flatMap pcs)) (hu : Ur w' g (cap * 2) m.toArray) (hm : m.length = l.length) : w'.ownsRow base 87 2 (.slice (some ⟨g, 0, none⟩) m.length cap) m.length (m.flatMap pcs) := by
 obtain ⟨cs', k1, k2, k3⟩ := hu
 rcases h.2 with ⟨h0, -⟩ | ⟨g', cap', cur, he, h2, h3, h4, h5, h6, h7⟩
 ·cases h0
 ·cases he
  have hz := k2.1
  refine ⟨flat_len pcs 2 (fun _ => rfl) m, .inr ⟨g, cap, cs', rfl, h2, k1, by omega, h5, by omega, ?_⟩⟩
  refine List.ext_getElem? fun q => ?_
  by_cases hq : q < m.length * 2
  ·have hi : q / 2 < m.length := by omega
   rw [List.getElem?_take_of_lt hq, Array.getElem?_toList, show q = q / 2 * 2 + q % 2 by omega, k3 (q / 2) (by simpa using hi) (q % 2) (by omega), flat_get pcs 2 (fun _ => rfl) m (q / 2) _ (List.getElem?_eq_getElem hi) (q % 2) (by omega)]
   have e : m.toArray[q / 2]! = m[q / 2] := by simp [getElem!_pos, hi]
   rw [e]
  ·rw [List.getElem?_eq_none (by simp; omega), List.getElem?_eq_none (by rw [flat_len pcs 2 (fun _ => rfl) m]; omega)]
structure Cmp (w0 : World) (ok : Pc → Prop) (lt : Pc → Pc → Bool) (cf : Nat) (cb : Array Value) : Prop where
 eg : ∀ args w, (callFunc cf args).run Try.prog w = .ok (.enter cf args) w
 calls : ∀ W, Below w0.heap.size w0 W → ∀ a b : Pc, ok a → ok b → Calls Try.prog cf (#[pv a, pv b] ++ cb) W fun e W' => ∃ c : Int, e = .returned (.int .i64 c) ∧ decide (c < 0) = lt a b ∧ Below W.heap.size W W'
section
variable (lt : Pc → Pc → Bool)
theorem insOuter_in (a b i : Nat) (d : Array Pc) (h : i < b) : Sort.insOuter lt a b i d = Sort.insOuter lt a b (i + 1) (Sort.insInner lt a i d) := by
 rw [Sort.insOuter, if_pos h]
theorem insOuter_out (a b i : Nat) (d : Array Pc) (h : ¬ i < b) : Sort.insOuter lt a b i d = d := by rw [Sort.insOuter, if_neg h]
theorem insInner_in (a j : Nat) (d : Array Pc) (h : a < j + 1) (hl : lt d[j + 1]! d[j]! = true) : Sort.insInner lt a (j + 1) d = Sort.insInner lt a j (Sort.swp d (j + 1) j) := by
 rw [Sort.insInner]; simp only [hl, Bool.and_true]; rw [if_pos (by simpa using h)]
theorem insInner_le (a j : Nat) (d : Array Pc) (h : j ≤ a) : Sort.insInner lt a j d = d := by
 cases j with
 | zero => rfl
 | succ j => rw [Sort.insInner, if_neg]; simp; omega
theorem insInner_no (a j : Nat) (d : Array Pc) (hl : lt d[j + 1]! d[j]! = false) : Sort.insInner lt a (j + 1) d = d := by
 rw [Sort.insInner]; simp [hl]
end
set_option maxRecDepth 100000 in
theorem ur_drew {w : World} {g z : Nat} {d : Array Pc} (h : Ur w g z d) : Ur w.drew g z d := h.same rfl
theorem ok_swp {ok : Pc → Prop} {d : Array Pc} {i j : Nat} (hi : i < d.size) (hj : j < d.size) (h : ∀ k, k < d.size → ok d[k]!) : ∀ k, k < (Sort.swp d i j).size → ok (Sort.swp d i j)[k]! := by
 intro k hk
 simp only [Sort.swp, Array.size_setIfInBounds] at hk ⊢
 by_cases e1 : j = k
 ·subst e1
  have : ((d.setIfInBounds i d[j]!).setIfInBounds j d[i]!)[j]! = d[i]! := by simp [getElem!_pos, hj]
  rw [this]; exact h i hi
 ·by_cases e2 : i = k
  ·subst e2
   have : ((d.setIfInBounds i d[j]!).setIfInBounds j d[i]!)[i]! = d[j]! := by simp [getElem!_pos, hi, e1]
   rw [this]; exact h j hj
  ·have : ((d.setIfInBounds i d[j]!).setIfInBounds j d[i]!)[k]! = d[k]! := by simp [getElem!_pos, hk, e1, e2]
   rw [this]; exact h k hk
def TwoR (g i : Nat) (r s : Pc) (w : World) : Prop := (w.cell? ⟨g, i * 2, none⟩ = some (.int .u64 (r.aw : Int)) ∧ w.cell? ⟨g, i * 2 + 1, none⟩ = some (.slice r.ro r.rn r.rc)) ∧ (w.cell? ⟨g, (i + 1) * 2, none⟩ = some (.int .u64 (s.aw : Int)) ∧ w.cell? ⟨g, (i + 1) * 2 + 1, none⟩ = some (.slice s.ro s.rn s.rc))
set_option maxRecDepth 100000 in
set_option maxHeartbeats 2000000 in
theorem insR_any (w0 : World) (ok : Pc → Prop) (lt : Pc → Pc → Bool) (cf : Nat) (cb : Array Value) (hC : Cmp w0 ok lt cf cb) (g z cap a b : Nat) (d : Array Pc) (hok : ∀ i, i < d.size → ok d[i]!) (ha : a ≤ b) (hb : b ≤ d.size) (hd : d.size ≤ 1000000) (w : World) (h : Ur w g z d) (hg : w0.heap.size ≤ g) (hW : Below w0.heap.size w0 w) :
  Calls Try.prog 97 #[.slice (some ⟨g, 0, none⟩) d.size cap, .int .i64 (a : Int), .int .i64 (b : Int), .func (.func cf) #[] cb] w fun e w' => e = .returned (.tuple #[]) ∧ Ur w' g z (Sort.insertionSort lt d a b) ∧ Bg g w w' := by
 have HU : Hid (Ur w g z d) := h
 have HCm : Hid (Cmp w0 ok lt cf cb) := hC
 have HOK : Hid (∀ i, i < d.size → ok d[i]!) := hok
 have HW0 : Hid (w0.heap.size ≤ g ∧ Below w0.heap.size w0 w) := ⟨hg, hW⟩
 have heg := hC.eg
 clear h hC hok hg hW
 obtain ⟨n, hn⟩ : ∃ n, d.size = n := ⟨_, rfl⟩
 rw [hn] at hb hd ⊢
 go_enter Try.func97, Try.ntmps97
 go_wp2_with fail
 go_loopw [8] (fun iv wr => ∃ (i : Nat) (d1 : Array Pc), iv = .int .i64 (i : Int) ∧ i ≤ max (a + 1) b ∧ a < i ∧ Ur wr g z d1 ∧ (d1.size = n ∧ ∀ i, i < d1.size → ok d1[i]!) ∧ Sort.insOuter lt a b i d1 = Sort.insertionSort lt d a b ∧ Bg g w wr) (fun iv _ => b - natOf iv)
 case atStart => exact ⟨a + 1, d, by go_num, by omega, by omega, HU.out, ⟨hn, HOK.out⟩, rfl, But.refl _ _⟩
 case round =>
  obtain ⟨i, d1, rfl, hib, hai, hu, ⟨hs1, hok1⟩, he, hbg⟩ := hrel
  have U1 : Hid (Ur wr g z d1) := hu
  have O1 : Hid (∀ i, i < d1.size → ok d1[i]!) := hok1
  have E1 : Hid _ := he
  have B1 : Hid _ := hbg
  clear hu he hbg hok1
  by_cases hlt : i < b
  ·have q1 : (i : Int) < (b : Int) := by omega
   go_wp2_with fail
   rw [insOuter_in lt a b i d1 hlt] at E1
   go_loopw [9] (fun jv wr2 => ∃ (j : Nat) (d2 : Array Pc), jv = .int .i64 (j : Int) ∧ j ≤ i ∧ Ur wr2 g z d2 ∧ (d2.size = n ∧ ∀ i, i < d2.size → ok d2[i]!) ∧ Sort.insInner lt a j d2 = Sort.insInner lt a i d1 ∧ Bg g w wr2) (fun jv _ => natOf jv)
   case atStart => exact ⟨i, d1, rfl, by omega, U1.out, ⟨hs1, O1.out⟩, rfl, B1.out⟩
   case round =>
    obtain ⟨j, d2, rfl, hji, hu, ⟨hs2, hok2⟩, he, hbg⟩ := hrel
    have E2 : Hid _ := he
    have B2 : Hid (Bg g w wr) := hbg
    have U2 : Hid (Ur wr g z d2) := hu
    have O2 : Hid (∀ i, i < d2.size → ok d2[i]!) := hok2
    clear he hbg hok2
    by_cases hja : a < j
    ·obtain ⟨j', rfl⟩ : ∃ j', j = j' + 1 := ⟨j - 1, by omega⟩
     obtain ⟨⟨x0, x1⟩, fz⟩ := hu.cell (j' + 1) (by omega)
     obtain ⟨⟨y0, y1⟩, -⟩ := hu.cell j' (by omega)
     have hct := HCm.out.calls wr.drew
     have o1 := O2.out (j' + 1) (by omega)
     have o2 := O2.out j' (by omega)
     have hbw : Below w0.heap.size w0 wr := HW0.out.2.trans ⟨B2.out.os, B2.out.tape, B2.out.output, B2.out.size, fun k hk => B2.out.block k (Nat.lt_of_lt_of_le hk HW0.out.2.size) (fun e => by have := HW0.out.1; omega)⟩
     have HCA : Hid (∀ _ : True, Calls Try.prog cf (#[pv d2[j' + 1]!, pv d2[j']!] ++ cb) wr.drew fun e W' => ∃ c : Int, e = .returned (.int .i64 c) ∧ decide (c < 0) = lt d2[j' + 1]! d2[j']! ∧ Below wr.heap.size wr W') := fun _ => (hct (hbw.trans ⟨rfl, rfl, rfl, Nat.le_refl _, fun _ _ => rfl⟩) _ _ o1 o2).mono fun e W' ⟨c, h1, h2, h3⟩ => ⟨c, h1, h2, ⟨h3.os, h3.tape, h3.output, h3.size, h3.block⟩⟩
     have HSW : Hid (TwoR g j' d2[j']! d2[j' + 1]! wr.drew) := ⟨⟨y0, y1⟩, ⟨x0, x1⟩⟩
     clear hct o1 o2 hbw x0 x1 y0 y1 fz hu
     obtain ⟨rx, hx⟩ : ∃ rx, d2[j' + 1]! = rx := ⟨_, rfl⟩
     obtain ⟨ry, hy⟩ : ∃ ry, d2[j']! = ry := ⟨_, rfl⟩
     have HX : Hid (d2[j' + 1]! = rx) := hx
     have HY : Hid (d2[j']! = ry) := hy
     rw [hx, hy] at HCA HSW
     clear hx hy
     obtain ⟨xi, xo, xn, xc⟩ := rx
     obtain ⟨yi, yo, yn, yc⟩ := ry
     have q2 : (a : Int) < (j' : Int) + 1 := by omega
     have q3 : (j' : Int) + 1 < (n : Int) := by omega
     have q4 : (j' : Int) < (n : Int) := by omega
     have q5 : (0 : Int) ≤ (j' : Int) := by omega
     have q6 : (0 : Int) ≤ (j' : Int) + 1 := by omega
     have q7 : IntKind.i64.wrap (j' : Int) = (j' : Int) := wrap_i64 (by omega) (by omega)
     have hc : ((j' + 1 : Nat) : Int) = (j' : Int) + 1 := by omega
     rw [hc]
     clear hc
     simp only [pv] at HCA
     go_wp2_with fail
     refine wp_region_held (S := TwoR g j' ⟨yi, yo, yn, yc⟩ ⟨xi, xo, xn, xc⟩) (by kernel_rfl) ?_
     change wpAnyH _ _ _ _ _ _ _ _ (World.drew _)
     refine wpAnyH_take (i := 0) (v := ?_) rfl (by kernel_rfl) (by kernel_rfl) (by kernel_rfl) (fun _ _ _ h => h) (Or.inl ⟨by kernel_rfl, ?_⟩) HSW.out ?_
     rotate_left
     ·rintro w ⟨⟨e0,e1⟩,f0,f1⟩; go_simp; try with_reducible rfl
     conv in (Act.put _ _ _) => simp only [List.getElem_toArray, List.getElem_cons_succ, List.getElem_cons_zero, Act.put, List.setIfInBounds_toArray, List.set_cons_succ, List.set_cons_zero]
     refine wpAnyH_take (i := 1) (v := ?_) rfl (by kernel_rfl) (by kernel_rfl) (by kernel_rfl) (fun _ _ _ h => h) (Or.inl ⟨by kernel_rfl, ?_⟩) HSW.out ?_
     rotate_left
     ·rintro w ⟨⟨e0,e1⟩,f0,f1⟩; go_simp; try with_reducible rfl
     conv in (Act.put _ _ _) => simp only [List.getElem_toArray, List.getElem_cons_succ, List.getElem_cons_zero, Act.put, List.setIfInBounds_toArray, List.set_cons_succ, List.set_cons_zero]
     refine wpAnyH_take (i := 2) (v := ?_) rfl (by kernel_rfl) (by kernel_rfl) (by kernel_rfl) (fun _ _ _ h => h) (Or.inl ⟨by kernel_rfl, ?_⟩) HSW.out ?_
     rotate_left
     ·rintro w ⟨⟨e0,e1⟩,f0,f1⟩; go_simp; try with_reducible rfl
     conv in (Act.put _ _ _) => simp only [List.getElem_toArray, List.getElem_cons_succ, List.getElem_cons_zero, Act.put, List.setIfInBounds_toArray, List.set_cons_succ, List.set_cons_zero]
     refine wpAnyH_take (i := 3) (v := ?_) rfl (by kernel_rfl) (by kernel_rfl) (by kernel_rfl) (fun _ _ _ h => h) (Or.inl ⟨by kernel_rfl, ?_⟩) HSW.out ?_
     rotate_left
     ·rintro w ⟨⟨e0,e1⟩,f0,f1⟩; go_simp; try with_reducible rfl
     conv in (Act.put _ _ _) => simp only [List.getElem_toArray, List.getElem_cons_succ, List.getElem_cons_zero, Act.put, List.setIfInBounds_toArray, List.set_cons_succ, List.set_cons_zero]
     refine wpAnyH_take (i := 4) (v := ?_) rfl (by kernel_rfl) (by kernel_rfl) (by kernel_rfl) (fun _ _ _ h => h) (Or.inl ⟨by kernel_rfl, ?_⟩) HSW.out ?_
     rotate_left
     ·rintro w ⟨⟨e0,e1⟩,f0,f1⟩; go_simp; try with_reducible rfl
     conv in (Act.put _ _ _) => simp only [List.getElem_toArray, List.getElem_cons_succ, List.getElem_cons_zero, Act.put, List.setIfInBounds_toArray, List.set_cons_succ, List.set_cons_zero]
     refine wpAnyH_take (i := 5) (v := ?_) rfl (by kernel_rfl) (by kernel_rfl) (by kernel_rfl) (fun _ _ _ h => h) (Or.inl ⟨by kernel_rfl, ?_⟩) HSW.out ?_
     rotate_left
     ·rintro w ⟨⟨e0,e1⟩,f0,f1⟩; go_simp; try with_reducible rfl
     conv in (Act.put _ _ _) => simp only [List.getElem_toArray, List.getElem_cons_succ, List.getElem_cons_zero, Act.put, List.setIfInBounds_toArray, List.set_cons_succ, List.set_cons_zero]
     refine wpAnyH_take (i := 6) (v := ?_) rfl (by kernel_rfl) (by kernel_rfl) (by kernel_rfl) (fun _ _ _ h => h) (Or.inl ⟨by kernel_rfl, ?_⟩) HSW.out ?_
     rotate_left
     ·rintro w ⟨⟨e0,e1⟩,f0,f1⟩; go_simp; try with_reducible rfl
     conv in (Act.put _ _ _) => simp only [List.getElem_toArray, List.getElem_cons_succ, List.getElem_cons_zero, Act.put, List.setIfInBounds_toArray, List.set_cons_succ, List.set_cons_zero]
     refine wpAnyH_take (i := 7) (v := ?_) rfl (by kernel_rfl) (by kernel_rfl) (by kernel_rfl) (fun _ _ _ h => h) (Or.inl ⟨by kernel_rfl, ?_⟩) HSW.out ?_
     rotate_left
     ·rintro w ⟨⟨e0,e1⟩,f0,f1⟩; go_simp; try with_reducible rfl
     conv in (Act.put _ _ _) => simp only [List.getElem_toArray, List.getElem_cons_succ, List.getElem_cons_zero, Act.put, List.setIfInBounds_toArray, List.set_cons_succ, List.set_cons_zero]
     refine wpAnyH_take (i := 8) (v := ?_) rfl (by kernel_rfl) (by kernel_rfl) (by kernel_rfl) (fun _ _ _ h => h) (Or.inl ⟨by kernel_rfl, ?_⟩) HSW.out ?_
     rotate_left
     ·rintro w ⟨⟨e0,e1⟩,f0,f1⟩; go_simp; try with_reducible rfl
     conv in (Act.put _ _ _) => simp only [List.getElem_toArray, List.getElem_cons_succ, List.getElem_cons_zero, Act.put, List.setIfInBounds_toArray, List.set_cons_succ, List.set_cons_zero]
     refine wpAnyH_take (i := 9) (v := ?_) rfl (by kernel_rfl) (by kernel_rfl) (by kernel_rfl) (fun _ _ _ h => h) (Or.inl ⟨by kernel_rfl, ?_⟩) HSW.out ?_
     rotate_left
     ·rintro w ⟨⟨e0,e1⟩,f0,f1⟩; go_simp; try with_reducible rfl
     conv in (Act.put _ _ _) => simp only [List.getElem_toArray, List.getElem_cons_succ, List.getElem_cons_zero, Act.put, List.setIfInBounds_toArray, List.set_cons_succ, List.set_cons_zero]
     refine wpAnyH_take (i := 10) (v := ?_) rfl (by kernel_rfl) (by kernel_rfl) (by kernel_rfl) (fun _ _ _ h => h) (Or.inl ⟨by kernel_rfl, ?_⟩) HSW.out ?_
     rotate_left
     ·rintro w ⟨⟨e0,e1⟩,f0,f1⟩; go_simp; try with_reducible rfl
     conv in (Act.put _ _ _) => simp only [List.getElem_toArray, List.getElem_cons_succ, List.getElem_cons_zero, Act.put, List.setIfInBounds_toArray, List.set_cons_succ, List.set_cons_zero]
     refine wpAnyH_take (i := 11) (v := .int .i64 (j' : Int)) rfl (by kernel_rfl) (by kernel_rfl) (by kernel_rfl) (fun _ _ _ h => h) (Or.inl ⟨by kernel_rfl, ?_⟩) HSW.out ?_
     ·intro w hS
      go_simp
      try rw [q7]
     conv in (Act.put _ _ _) => simp only [List.getElem_toArray, List.getElem_cons_succ, List.getElem_cons_zero, Act.put, List.setIfInBounds_toArray, List.set_cons_succ, List.set_cons_zero]
     refine wpAnyH_take (i := 12) (v := ?_) rfl (by kernel_rfl) (by kernel_rfl) (by kernel_rfl) (fun _ _ _ h => h) (Or.inl ⟨by kernel_rfl, ?_⟩) HSW.out ?_
     rotate_left
     ·rintro w ⟨⟨e0,e1⟩,f0,f1⟩; go_simp; try with_reducible rfl
     conv in (Act.put _ _ _) => simp only [List.getElem_toArray, List.getElem_cons_succ, List.getElem_cons_zero, Act.put, List.setIfInBounds_toArray, List.set_cons_succ, List.set_cons_zero]
     refine wpAnyH_take (i := 13) (v := ?_) rfl (by kernel_rfl) (by kernel_rfl) (by kernel_rfl) (fun _ _ _ h => h) (Or.inl ⟨by kernel_rfl, ?_⟩) HSW.out ?_
     rotate_left
     ·rintro w ⟨⟨e0,e1⟩,f0,f1⟩; go_simp; try with_reducible rfl
     conv in (Act.put _ _ _) => simp only [List.getElem_toArray, List.getElem_cons_succ, List.getElem_cons_zero, Act.put, List.setIfInBounds_toArray, List.set_cons_succ, List.set_cons_zero]
     refine readyH 14 _ (by kernel_rfl) rfl (by kernel_rfl) (fun K hK => ?_)
     go_simp
     refine Calls.mono (HCA.out trivial) ?_
     rintro e w1 ⟨c, rfl, hcl, b1⟩
     have B3 : Bg g w w1 := B2.out.trans (But.of_below b1)
     have U3 : Ur w1 g z d2 := Ur.same U2.out (b1.block _ U2.out.lt)
     obtain ⟨⟨x0, x1⟩, fz⟩ := U3.cell (j' + 1) (by omega)
     obtain ⟨⟨y0, y1⟩, -⟩ := U3.cell j' (by omega)
     rw [HX.out] at x0 x1
     rw [HY.out] at y0 y1
     simp only at x0 x1 y0 y1
     replace HSW : Hid (TwoR g j' ⟨yi, yo, yn, yc⟩ ⟨xi, xo, xn, xc⟩ w1) := ⟨⟨y0, y1⟩, ⟨x0, x1⟩⟩
     have HB3 : Hid (Bg g w w1) := B3
     have HU3 : Hid (Ur w1 g z d2) := U3
     clear x0 x1 y0 y1 B3 U3 b1
     refine hK _ _ HSW.out ?_
     clear hK K
     cases hl : lt ⟨xi, xo, xn, xc⟩ ⟨yi, yo, yn, yc⟩
     ·have HE : Hid (Sort.insInner lt a i d1 = d2) := by
       refine (?_ : Sort.insInner lt a i d1 = d2)
       rw [← E2.out, insInner_no lt a j' d2 (by rw [HX.out, HY.out]; exact hl)]
      have q8 : ¬ c < 0 := of_decide_eq_false (hcl.trans hl)
      clear hl hcl
      refine wpAnyH_take (i := 15) (v := ?_) rfl (by kernel_rfl) (by kernel_rfl) (by kernel_rfl) (fun _ _ _ h => h) (Or.inl ⟨by kernel_rfl, ?_⟩) HSW.out ?_
      rotate_left
      ·rintro w ⟨⟨e0,e1⟩,f0,f1⟩; go_simp; try with_reducible rfl
      conv in (Act.put _ _ _) => simp only [List.getElem_toArray, List.getElem_cons_succ, List.getElem_cons_zero, Act.put, List.setIfInBounds_toArray, List.set_cons_succ, List.set_cons_zero]
      refine wpAnyH_take (i := 16) (v := ?_) rfl (by kernel_rfl) (by kernel_rfl) (by kernel_rfl) (fun _ _ _ h => h) (Or.inl ⟨by kernel_rfl, ?_⟩) HSW.out ?_
      rotate_left
      ·rintro w ⟨⟨e0,e1⟩,f0,f1⟩; go_simp; try with_reducible rfl
      conv in (Act.put _ _ _) => simp only [List.getElem_toArray, List.getElem_cons_succ, List.getElem_cons_zero, Act.put, List.setIfInBounds_toArray, List.set_cons_succ, List.set_cons_zero]
      refine wpAnyH_done (by kernel_rfl) ?_ _
      go_wp2_with fail
      go_roundw
      case rel => exact ⟨i + 1, d2, by go_num, by omega, by omega, HU3.out, ⟨hs2, O2.out⟩, by rw [← E1.out, HE.out], HB3.out⟩
      case measure => simp [natOf]; omega
     ·have HE : Hid (Sort.insInner lt a (j' + 1) d2 = Sort.insInner lt a j' (Sort.swp d2 (j' + 1) j')) := insInner_in lt a j' d2 hja (by rw [HX.out, HY.out]; exact hl)
      have q8 : c < 0 := of_decide_eq_true (hcl.trans hl)
      have HW := Ur.swp HU3.out (j' + 1) j' (by omega) (by omega)
      rw [HX.out, HY.out] at HW
      simp only [set2] at HW
      have HW1 : Hid _ := HW.1
      have HW2 : Hid _ := HW.2
      have O3 : Hid (∀ k, k < (Sort.swp d2 (j' + 1) j').size → ok (Sort.swp d2 (j' + 1) j')[k]!) := ok_swp (by omega) (by omega) O2.out
      have S3 : Hid ((Sort.swp d2 (j' + 1) j').size = n) := by refine (?_ : (Sort.swp d2 (j' + 1) j').size = n); simp [Sort.swp, hs2]
      clear hl hcl HW
      refine wpAnyH_take (i := 15) (v := ?_) rfl (by kernel_rfl) (by kernel_rfl) (by kernel_rfl) (fun _ _ _ h => h) (Or.inl ⟨by kernel_rfl, ?_⟩) HSW.out ?_
      rotate_left
      ·rintro w ⟨⟨e0,e1⟩,f0,f1⟩; go_simp; try with_reducible rfl
      conv in (Act.put _ _ _) => simp only [List.getElem_toArray, List.getElem_cons_succ, List.getElem_cons_zero, Act.put, List.setIfInBounds_toArray, List.set_cons_succ, List.set_cons_zero]
      refine wpAnyH_take (i := 16) (v := ?_) rfl (by kernel_rfl) (by kernel_rfl) (by kernel_rfl) (fun _ _ _ h => h) (Or.inl ⟨by kernel_rfl, ?_⟩) HSW.out ?_
      rotate_left
      ·rintro w ⟨⟨e0,e1⟩,f0,f1⟩; go_simp; try with_reducible rfl
      conv in (Act.put _ _ _) => simp only [List.getElem_toArray, List.getElem_cons_succ, List.getElem_cons_zero, Act.put, List.setIfInBounds_toArray, List.set_cons_succ, List.set_cons_zero]
      refine wpAnyH_done (by kernel_rfl) ?_ _
      obtain ⟨⟨y0, y1⟩, x0, x1⟩ := HSW.out
      simp only at x0 x1 y0 y1
      have lg : g < w1.heap.size := HU3.out.lt
      go_wp2_with fail
      go_region
      go_wp2_with fail
      go_roundw
      case rel =>
       refine ⟨j', Sort.swp d2 (j' + 1) j', by go_num, by omega, ?_, ⟨S3.out, O3.out⟩, by rw [← HE.out]; exact E2.out, ?_⟩
       ·exact ur_drew HW1.out
       ·exact (HB3.out.trans HW2.out).trans (Bg.drew _)
      case measure => simp [natOf]
    ·have q2 : ¬ (a : Int) < (j : Int) := by omega
     have HE : Hid (Sort.insInner lt a i d1 = d2) := by
      refine (?_ : Sort.insInner lt a i d1 = d2)
      rw [← E2.out, insInner_le lt a j d2 (by omega)]
     clear hu
     go_wp2_with fail
     go_quiet (fail)
     rename_i hK
     refine hK _ _ ?_
     have U3 : Hid (Ur (wr.drewN nq) g z d2) := Ur.same U2.out rfl
     have B3 : Hid (Bg g w (wr.drewN nq)) := B2.out.trans ⟨rfl, rfl, rfl, Nat.le_refl _, fun _ _ _ => rfl⟩
     go_wp2_with fail
     go_roundw
     case rel => exact ⟨i + 1, d2, by go_num, by omega, by omega, U3.out, ⟨hs2, O2.out⟩, by rw [← E1.out, HE.out], B3.out⟩
     case measure => simp [natOf]; omega
  ·have q1 : ¬ (i : Int) < (b : Int) := by omega
   go_wp2_with fail
   refine bodyPost_end (results_none rfl _ _ _) rfl ?_
   refine ⟨rfl, ?_, B1.out⟩
   have := E1.out
   rw [insOuter_out lt a b i d1 hlt] at this
   rw [← this]
   exact U1.out
end Go.Proofs.Ytimdlohdmddnjaa.Rq.Pz
/- Two stretches of pieces change places; a stretch is turned about. -/
namespace Go.Proofs.Ytimdlohdmddnjaa.Rq.Pz
open Go.RowKit Go.Lib Go.Shelf
open Go.Proofs.Ytimdlohdmddnjaa.Rc Go.Proofs.Ytimdlohdmddnjaa.Rq
set_option maxRecDepth 100000 in
set_option maxHeartbeats 2000000 in
theorem swapR_any (cf : Nat) (cb : Array Value) (g z cap a b n : Nat) (d : Array Pc) (hab : a + n ≤ b) (hb : b + n ≤ d.size) (hd : d.size ≤ 1000000) (w : World) (h : Ur w g z d) :
  Calls Try.prog 104 #[.slice (some ⟨g, 0, none⟩) d.size cap, .int .i64 (a : Int), .int .i64 (b : Int), .int .i64 (n : Int), .func (.func cf) #[] cb] w fun e w' => e = .returned (.tuple #[]) ∧ ∃ d', Ur w' g z d' ∧ SwR d d' a b n ∧ Sort.PermIn a (b + n) d d' ∧ Bg g w w' := by
 have HU : Hid (Ur w g z d) := h
 clear h
 obtain ⟨sz, hsz⟩ : ∃ sz, d.size = sz := ⟨_, rfl⟩
 rw [hsz] at hb hd ⊢
 go_enter Try.func104, Try.ntmps104
 go_wp2_with fail
 go_loopw [10] (fun iv wr => ∃ (i : Nat) (d1 : Array Pc), iv = .int .i64 (i : Int) ∧ i ≤ n ∧ Ur wr g z d1 ∧ SwR d d1 a b i ∧ Sort.PermIn a (b + n) d d1 ∧ Bg g w wr) (fun iv _ => n - natOf iv)
 case atStart => exact ⟨0, d, by go_num, by omega, HU.out, SwR.zero _ _ _, Sort.permIn_refl _ _ _, But.refl _ _⟩
 case round =>
  obtain ⟨i, d1, rfl, hin, hu, hsw, hpm, hbg⟩ := hrel
  by_cases hlt : i < n
  ·have S1 : d1.size = sz := hsw.1.trans hsz
   have HU1 : Hid (Ur wr g z d1) := hu
   have HSW : Hid (SwR d (Sort.swp d1 (a + i) (b + i)) a b (i + 1)) := hsw.step (by omega) (by omega)
   have HPM : Hid (Sort.PermIn a (b + n) d (Sort.swp d1 (a + i) (b + i))) := Sort.permIn_trans _ _ _ _ _ hpm (Sort.swp_permIn _ _ _ _ _ (by omega) (by omega) (by omega) (by omega) (by omega))
   have HBG : Hid (Bg g w wr) := hbg
   clear hsw hpm hbg
   obtain ⟨p, hp⟩ : ∃ p, a + i = p := ⟨_, rfl⟩
   obtain ⟨q, hq⟩ : ∃ q, b + i = q := ⟨_, rfl⟩
   rw [hp, hq] at HSW HPM
   have HW := Ur.swp HU1.out p q (by omega) (by omega)
   obtain ⟨⟨x0, x1⟩, fz⟩ := hu.cell p (by omega)
   obtain ⟨⟨y0, y1⟩, -⟩ := hu.cell q (by omega)
   obtain ⟨rx, hx⟩ : ∃ rx, d1[p]! = rx := ⟨_, rfl⟩
   obtain ⟨ry, hy⟩ : ∃ ry, d1[q]! = ry := ⟨_, rfl⟩
   rw [hx] at x0 x1
   rw [hy] at y0 y1
   rw [hx, hy] at HW
   obtain ⟨xi, xo, xn, xc⟩ := rx
   obtain ⟨yi, yo, yn, yc⟩ := ry
   simp only [set2] at HW
   have HW1 : Hid _ := HW.1
   have HW2 : Hid _ := HW.2
   have lg : g < wr.heap.size := hu.lt
   simp only at x0 x1 y0 y1
   clear HW hx hy hu
   have q1 : (i : Int) < (n : Int) := by omega
   have q2 : (a : Int) + (i : Int) = (p : Int) := by omega
   have q3 : (b : Int) + (i : Int) = (q : Int) := by omega
   have q4 : (p : Int) < (sz : Int) := by omega
   have q5 : (q : Int) < (sz : Int) := by omega
   have q6 : IntKind.i64.wrap (p : Int) = (p : Int) := wrap_i64 (by omega) (by omega)
   have q7 : IntKind.i64.wrap (q : Int) = (q : Int) := wrap_i64 (by omega) (by omega)
   go_wp2_with fail
   go_region
   go_wp2_with fail
   go_roundw
   case rel =>
    exact ⟨i + 1, _, by go_num, by omega, ur_drew HW1.out, HSW.out, HPM.out, (HBG.out.trans HW2.out).trans (Bg.drew _)⟩
   case measure => simp [natOf]; omega
  ·have q1 : ¬ (i : Int) < (n : Int) := by omega
   obtain rfl : i = n := by omega
   have HU1 : Hid (Ur wr g z d1) := hu
   have HSW : Hid (SwR d d1 a b i) := hsw
   have HPM : Hid (Sort.PermIn a (b + i) d d1) := hpm
   have HBG : Hid (Bg g w wr) := hbg
   clear hu hsw hpm hbg
   go_wp2_with fail
   refine bodyPost_end (results_none rfl _ _ _) rfl ?_
   exact ⟨rfl, d1, HU1.out, HSW.out, HPM.out, HBG.out⟩
set_option maxRecDepth 100000 in
set_option maxHeartbeats 2000000 in
theorem rotateR_any (cf : Nat) (cb : Array Value) (g z cap a m b : Nat) (d : Array Pc) (ham : a < m) (hmb : m < b) (hb : b ≤ d.size) (hd : d.size ≤ 1000000) (w : World) (h : Ur w g z d) :
  Calls Try.prog 102 #[.slice (some ⟨g, 0, none⟩) d.size cap, .int .i64 (a : Int), .int .i64 (m : Int), .int .i64 (b : Int), .func (.func cf) #[] cb] w fun e w' => e = .returned (.tuple #[]) ∧ ∃ d', Ur w' g z d' ∧ Rot d d' a m b ∧ Sort.PermIn a b d d' ∧ Bg g w w' := by
 have HU : Hid (Ur w g z d) := h
 have HC : Hid _ := swapR_any cf cb g z cap
 clear h
 obtain ⟨sz, hsz⟩ : ∃ sz, d.size = sz := ⟨_, rfl⟩
 rw [hsz] at hb hd ⊢
 have q1 : IntKind.i64.wrap ((m : Int) - (a : Int)) = ((m - a : Nat) : Int) := by rw [wrap_i64 (by omega) (by omega)]; omega
 have q2 : IntKind.i64.wrap ((b : Int) - (m : Int)) = ((b - m : Nat) : Int) := by rw [wrap_i64 (by omega) (by omega)]; omega
 go_enter Try.func102, Try.ntmps102
 go_wp2_with fail
 go_loopw [10, 11] (fun iv jv wr => ∃ (i j : Nat) (d1 : Array Pc), iv = .int .i64 (i : Int) ∧ jv = .int .i64 (j : Int) ∧ (0 < i ∧ i ≤ m - a ∧ 0 < j ∧ j ≤ b - m) ∧ Ur wr g z d1 ∧ (∀ d', Rot d1 d' (m - i) m (m + j) → Rot d d' a m b) ∧ Sort.PermIn a b d d1 ∧ Bg g w wr) (fun iv jv _ => natOf iv + natOf jv)
 case atStart =>
  refine ⟨m - a, b - m, d, by go_num, by go_num, by omega, HU.out, fun d' hr => ?_, Sort.permIn_refl _ _ _, But.refl _ _⟩
  rwa [show m - (m - a) = a by omega, show m + (b - m) = b by omega] at hr
 case round =>
  obtain ⟨i, j, d1, rfl, rfl, ⟨i0, i1, j0, j1⟩, hu, hrt, hpm, hbg⟩ := hrel
  have S1 : d1.size = sz := hpm.1.trans hsz
  have HU1 : Hid (Ur wr g z d1) := hu
  have HRT : Hid (∀ d', Rot d1 d' (m - i) m (m + j) → Rot d d' a m b) := hrt
  have HPM : Hid (Sort.PermIn a b d d1) := hpm
  have HBG : Hid (Bg g w wr) := hbg
  clear hu hrt hpm hbg q1 q2
  obtain ⟨p, hp⟩ : ∃ p, m - i = p := ⟨_, rfl⟩
  have q2 : IntKind.i64.wrap ((m : Int) - (i : Int)) = (p : Int) := by rw [wrap_i64 (by omega) (by omega)]; omega
  by_cases hij : i = j
  ·subst hij
   have HC1 : Hid (∀ _ : True, _) := fun _ => HC.out p m i d1 (by omega) (by omega) (by omega) wr HU1.out
   rw [S1] at HC1
   clear HC
   go_wp2_with fail
   refine (HC1.out trivial).mono ?_
   rintro e w1 ⟨rfl, d2, u2, s2, p2, b2⟩
   have HE : Hid (Ur w1 g z d2 ∧ Rot d d2 a m b ∧ Sort.PermIn a b d d2 ∧ Bg g w w1) := ⟨u2, HRT.out d2 (by rw [hp]; rw [← hp] at s2 ⊢; exact rot_even (by omega) s2), Sort.permIn_trans _ _ _ _ _ HPM.out (Sort.permIn_mono _ _ _ _ _ _ (by omega) (by omega) (by omega) p2), HBG.out.trans b2⟩
   clear u2 s2 p2 b2 HC1
   go_wp2_with fail
   refine bodyPost_end (results_none rfl _ _ _) rfl ?_
   exact ⟨rfl, d2, HE.out⟩
  ·have q3 : ¬ (i : Int) = (j : Int) := by omega
   by_cases hgt : j < i
   ·have q4 : (j : Int) < (i : Int) := by omega
    have q5 : IntKind.i64.wrap ((i : Int) - (j : Int)) = ((i - j : Nat) : Int) := by rw [wrap_i64 (by omega) (by omega)]; omega
    have HC1 : Hid (∀ _ : True, _) := fun _ => HC.out p m j d1 (by omega) (by omega) (by omega) wr HU1.out
    rw [S1] at HC1
    clear HC
    go_wp2_with fail
    refine (HC1.out trivial).mono ?_
    rintro e w1 ⟨rfl, d2, u2, s2, p2, b2⟩
    have HE : Hid (Ur w1 g z d2 ∧ (∀ d', Rot d2 d' (m - (i - j)) m (m + j) → Rot d d' a m b) ∧ Sort.PermIn a b d d2 ∧ Bg g w w1) := ⟨u2, fun d' hr => HRT.out d' (rot_more hgt (by omega) (by omega) (by rw [hp]; exact s2) hr), Sort.permIn_trans _ _ _ _ _ HPM.out (Sort.permIn_mono _ _ _ _ _ _ (by omega) (by omega) (by omega) p2), HBG.out.trans b2⟩
    clear u2 s2 p2 b2 HC1
    go_wp2_with fail
    go_roundw
    case rel => exact ⟨i - j, j, d2, by go_num, rfl, by omega, HE.out⟩
    case measure => simp [natOf]; omega
   ·have q4 : ¬ (j : Int) < (i : Int) := by omega
    have q5 : IntKind.i64.wrap ((j : Int) - (i : Int)) = ((j - i : Nat) : Int) := by rw [wrap_i64 (by omega) (by omega)]; omega
    obtain ⟨q, hq⟩ : ∃ q, m + j - i = q := ⟨_, rfl⟩
    obtain ⟨M, hM⟩ : ∃ M, m + j = M := ⟨_, rfl⟩
    have q6 : IntKind.i64.wrap ((m : Int) + (j : Int)) = (M : Int) := by rw [wrap_i64 (by omega) (by omega)]; omega
    have q7 : IntKind.i64.wrap ((M : Int) - (i : Int)) = (q : Int) := by rw [wrap_i64 (by omega) (by omega)]; omega
    have HC1 : Hid (∀ _ : True, _) := fun _ => HC.out p q i d1 (by omega) (by omega) (by omega) wr HU1.out
    rw [S1] at HC1
    clear HC
    go_wp2_with fail
    refine (HC1.out trivial).mono ?_
    rintro e w1 ⟨rfl, d2, u2, s2, p2, b2⟩
    have HE : Hid (Ur w1 g z d2 ∧ (∀ d', Rot d2 d' (m - i) m (m + (j - i)) → Rot d d' a m b) ∧ Sort.PermIn a b d d2 ∧ Bg g w w1) := ⟨u2, fun d' hr => HRT.out d' (rot_less (by omega) (by omega) (by omega) (by rw [hp, hq]; exact s2) hr), Sort.permIn_trans _ _ _ _ _ HPM.out (Sort.permIn_mono _ _ _ _ _ _ (by omega) (by omega) (by omega) p2), HBG.out.trans b2⟩
    clear u2 s2 p2 b2 HC1
    go_wp2_with fail
    go_roundw
    case rel => exact ⟨i, j - i, d2, rfl, by go_num, by omega, HE.out⟩
    case measure => simp [natOf]; omega
end Go.Proofs.Ytimdlohdmddnjaa.Rq.Pz
