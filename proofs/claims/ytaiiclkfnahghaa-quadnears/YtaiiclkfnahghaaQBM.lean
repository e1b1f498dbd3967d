/- The rows of a tree that are near enough; what the reference says where nothing is asked. -/
import Derived.Test.YtaiiclkfnahghaaPBN
namespace Go.Proofs.Ytaiiclkfnahghaa.Rq
open Go.RowKit Go.Lib Go.Shelf
open Go.Proofs.Ytaiiclkfnahghaa.Rc
set_option maxRecDepth 100000 in
set_option maxHeartbeats 1000000 in
theorem rWin_no (sv : Value) (a b c d : Nat) (hb : boxS a b c d = false) (w : World) :
    Calls Try.prog 21 #[sv, bv a b c d] w fun e w' => e = .returned (.tuple #[.slice none 0 0, .int .i64 81]) ∧ Below w.heap.size w w' := by
  have HCB : Hid _ := eRightBox_any a b c d
  rw [hb] at HCB
  have HBN : Hid _ := below_new w (.cells #[.int .u32 (a : Int), .int .u32 (b : Int), .int .u32 (c : Int), .int .u32 (d : Int)] 42)
  simp only [bv] at HCB ⊢
  go_enter Try.func21, Try.ntmps21
  go_wp2_with fail
  refine (HCB.out _).mono ?_
  rintro e W0 ⟨rfl, b0⟩
  have HB0 : Hid (Below w.heap.size w W0) := HBN.out.trans (b0.mono (by simp))
  clear b0 HBN HCB
  go_wp2_with fail
  go_ret2
  exact ⟨rfl, HB0.out⟩
set_option maxRecDepth 100000 in
theorem rWindow_any (l : List Rw) (o : Option Addr) (cap a b c d : Nat) (w : World) (hr : RowsAt w o cap l) (hm : l.length ≤ 1000) :
    Calls Try.prog 21 #[.slice o l.length cap, bv a b c d] w fun e w' => ∃ v, e = .returned (.tuple #[v, .int .i64 (boxE a b c d)]) ∧ w'.ownsRow w.heap.size 26 4 v (winV l a b c d).length ((winV l a b c d).flatMap rc) ∧ Below w.heap.size w w' := by
  unfold winV boxE
  cases hb : boxS a b c d
  · refine (rWin_no _ a b c d hb w).mono ?_
    rintro e w' ⟨h1, h2⟩
    exact ⟨_, by simpa using h1, ⟨rfl, .inl ⟨rfl, rfl⟩⟩, h2⟩
  · simpa using rWin_ok l o cap a b c d hb w hr hm
/-- The rows that are near enough to a point, and what is said of it. -/
def rndV (l : List Rw) (x y s : Nat) : List Rw := if onS x y = true then (l.filter fun r => decide (Rq.dist r.x r.y x y ≤ s)) else []
def rndE (x y : Nat) : Int := if onS x y = true then 0 else 2
set_option maxRecDepth 100000 in
set_option maxHeartbeats 1000000 in
theorem rRnd_no (sv : Value) (x y s : Nat) (hb : onS x y = false) (w : World) :
    Calls Try.prog 25 #[sv, .int .u32 (x : Int), .int .u32 (y : Int), .int .u64 (s : Int)] w fun e w' => e = .returned (.tuple #[.slice none 0 0, .int .i64 2]) ∧ Below w.heap.size w w' := by
  have hc : (2147483648 : Int) ≤ (x : Int) ∨ (¬ (2147483648 : Int) ≤ (x : Int) ∧ (2147483648 : Int) ≤ (y : Int)) := by
    unfold onS at hb
    simp at hb
    omega
  rcases hc with h1 | ⟨h1, h2⟩
  all_goals
    go_enter Try.func25, Try.ntmps25
    go_wp2_with fail
    go_ret2
    exact ⟨rfl, Below.refl _ _⟩
set_option maxRecDepth 100000 in
theorem onS_iff (x y : Nat) : onS x y = true ↔ x < 2147483648 ∧ y < 2147483648 := by unfold onS; simp
set_option maxRecDepth 100000 in
theorem rRound_any (l : List Rw) (o : Option Addr) (cap x y s : Nat) (w : World) (hr : RowsAt w o cap l) (hon : On l) (hm : l.length ≤ 1000) :
    Calls Try.prog 25 #[.slice o l.length cap, .int .u32 (x : Int), .int .u32 (y : Int), .int .u64 (s : Int)] w fun e w' => ∃ v, e = .returned (.tuple #[v, .int .i64 (rndE x y)]) ∧ w'.ownsRow w.heap.size 26 4 v (rndV l x y s).length ((rndV l x y s).flatMap rc) ∧ Below w.heap.size w w' := by
  unfold rndV rndE
  cases hb : onS x y
  · refine (rRnd_no _ x y s hb w).mono ?_
    rintro e w' ⟨h1, h2⟩
    exact ⟨_, by simpa using h1, ⟨rfl, .inl ⟨rfl, rfl⟩⟩, h2⟩
  · have h := (onS_iff x y).1 hb
    simpa using rRnd_ok l o cap x y s h.1 h.2 w hr hon hm
set_option maxRecDepth 100000 in
/-- Four blocks, made one behind the other. -/
theorem four_new (w : World) (a b c d : Obj) : ((((w.alloc a).alloc b).alloc c).alloc d).heap[w.heap.size]? = some a ∧ ((((w.alloc a).alloc b).alloc c).alloc d).heap[w.heap.size + 1]? = some b ∧ ((((w.alloc a).alloc b).alloc c).alloc d).heap[w.heap.size + 2]? = some c ∧ ((((w.alloc a).alloc b).alloc c).alloc d).heap[w.heap.size + 3]? = some d ∧ Below w.heap.size w ((((w.alloc a).alloc b).alloc c).alloc d) := by
  obtain ⟨x1, x2, x3⟩ := two_new w a b
  obtain ⟨y1, y2, y3⟩ := two_new ((w.alloc a).alloc b) c d
  have hs : ((w.alloc a).alloc b).heap.size = w.heap.size + 2 := by simp
  rw [hs] at y1 y2 y3
  exact ⟨(y3.block _ (by omega)).trans x1, (y3.block _ (by omega)).trans x2, y1, y2, x3.trans (y3.mono (by omega))⟩
set_option maxRecDepth 100000 in
set_option maxHeartbeats 2000000 in
theorem qRnd_no (n : Nv) (x y s : Nat) (hb : onS x y = false) (w : World) :
    Calls Try.prog 24 #[nv n, .int .u32 (x : Int), .int .u32 (y : Int), .int .u64 (s : Int)] w fun e w' => e = .returned (.tuple #[.slice none 0 0, .int .i64 2]) ∧ Below w.heap.size w w' := by
  obtain ⟨nX, nY, nL, nro, nrn, nrc, nko, nkn, nkc⟩ := n
  obtain ⟨-, -, -, -, z5⟩ := four_new w (.cells #[.int .u32 (nX : Int), .int .u32 (nY : Int), .int .i64 (nL : Int), .slice nro nrn nrc, .slice nko nkn nkc] 33) (.cells #[.int .u32 (x : Int)] 24) (.cells #[.int .u32 (y : Int)] 24) (.cells #[.int .u64 (s : Int)] 23)
  have HZ : Hid _ := z5
  have HP : Hid _ := qonPlane_any x y
  rw [hb] at HP
  clear hb z5
  simp only [nv] at ⊢
  go_enter Try.func24, Try.ntmps24
  go_wp2_with fail
  refine (HP.out _).mono ?_
  rintro e w1 ⟨rfl, rfl⟩
  go_wp2_with fail
  go_ret2
  exact ⟨rfl, HZ.out⟩
set_option maxRecDepth 100000 in
set_option maxHeartbeats 2000000 in
theorem qRnd_ok (n : Nv) (l : List Rw) (dd : Nat) (x y s : Nat) (hb : onS x y = true) (w : World) (hN : NodeAt (fun _ => True) dd w n l) (hon : On l) (hmax : l.length ≤ 1000) (hri : Rise l) :
    Calls Try.prog 24 #[nv n, .int .u32 (x : Int), .int .u32 (y : Int), .int .u64 (s : Int)] w fun e w' => ∃ v, e = .returned (.tuple #[v, .int .i64 0]) ∧ w'.ownsRow w.heap.size 26 4 v (l.filter fun r => decide (Rq.dist r.x r.y x y ≤ s)).length ((l.filter fun r => decide (Rq.dist r.x r.y x y ≤ s)).flatMap rc) ∧ Below w.heap.size w w' := by
  have hxy := (onS_iff x y).1 hb
  have HP0 : Hid _ := seqs_perm (fun X Y L => decide ((fars X Y (L : Int) x y).2 = 0 ∧ (fars X Y (L : Int) x y).1 ≤ s)) (fun r => decide (Rq.dist r.x r.y x y ≤ s)) (round_all x y s hb) dd l hN.fits hon
  have HRI : Hid (Rise (l.filter fun r => decide (Rq.dist r.x r.y x y ≤ s))) := rise_filter hri _
  have HP : Hid _ := qonPlane_any x y
  rw [hb] at HP
  have HXY : Hid (x < 2147483648 ∧ y < 2147483648) := hxy
  have HON : Hid (On l) := hon
  have HM : Hid (l.length ≤ 1000) := hmax
  have HRA : Hid _ := rows_any n
  obtain ⟨z1, z2, z3, z4, z5⟩ := four_new w (.cells #[.int .u32 (n.X : Int), .int .u32 (n.Y : Int), .int .i64 (n.L : Int), .slice n.ro n.rn n.rc, .slice n.ko n.kn n.kc] 33) (.cells #[.int .u32 (x : Int)] 24) (.cells #[.int .u32 (y : Int)] 24) (.cells #[.int .u64 (s : Int)] 23)
  obtain ⟨W0, hW0⟩ : ∃ W0, (((w.alloc (.cells #[.int .u32 (n.X : Int), .int .u32 (n.Y : Int), .int .i64 (n.L : Int), .slice n.ro n.rn n.rc, .slice n.ko n.kn n.kc] 33)).alloc (.cells #[.int .u32 (x : Int)] 24)).alloc (.cells #[.int .u32 (y : Int)] 24)).alloc (.cells #[.int .u64 (s : Int)] 23) = W0 := ⟨_, rfl⟩
  rw [hW0] at z1 z2 z3 z4 z5
  have HW0 : Hid _ := hW0
  have HNA : Hid (NodeAt (fun _ => True) dd W0 n l) := NodeAt.below hN z5 (Nat.le_refl _)
  have HG1 : Hid (W0.heap[w.heap.size]? = some (.cells #[.int .u32 (n.X : Int), .int .u32 (n.Y : Int), .int .i64 (n.L : Int), .slice n.ro n.rn n.rc, .slice n.ko n.kn n.kc] 33 (0, 0))) := z1
  have HRN : Hid (Rnd W0 (w.heap.size + 1) (w.heap.size + 2) (w.heap.size + 3) x y s) := ⟨z2, z3, z4⟩
  have HB0 : Hid (Below w.heap.size w W0) := z5
  clear hN hon hmax hri hxy z1 z2 z3 z4 z5 hW0 hb
  obtain ⟨nX, nY, nL, nro, nrn, nrc, nko, nkn, nkc⟩ := n
  simp only [nv] at HRA ⊢
  simp only at HNA HG1 HW0
  go_enter Try.func24, Try.ntmps24
  go_wp2_with fail
  refine (HP.out _).mono ?_
  rintro e w1 ⟨rfl, rfl⟩
  clear HP
  rw [HW0.out]
  obtain ⟨t0, t1, t2, t3, t4, f0, f1, f2, f3, f4⟩ := node_facts HG1.out
  have ln : w.heap.size < W0.heap.size := (Array.getElem?_eq_some_iff.1 HG1.out).1
  clear t0 t1 t2 t3 t4 HW0
  go_wp2_with fail
  refine (HRA.out _ _ _ _ _).mono ?_
  rintro e w2 ⟨rfl, hw2⟩
  have hb12 : Below W0.heap.size W0 w2 := by rw [hw2]; exact ((below_new W0 _).alloc (by simp) _).alloc (by simp; omega) _
  have hrn := HRN.out.grow hb12 (Nat.le_refl _)
  obtain ⟨hb2, hit⟩ := rows_iter _ _ _ _ _ _ _ dd _ l HNA.out HON.out HM.out w2 hw2 (ent_round w2 _ _ _ x y s hrn) (kep_round w2 _ _ _ x y s hrn HXY.out.1 HXY.out.2)
  have hc := byId_any w2 _ _ _ hit rows1_eg (by rw [HP0.out.length_eq]; exact Nat.le_trans (List.length_filter_le _ _) HM.out) w2 (Below.refl _ _)
  obtain ⟨ll, hll⟩ : ∃ ll, (l.filter fun r => decide (Rq.dist r.x r.y x y ≤ s)) = ll := ⟨_, rfl⟩
  have HLL : Hid ((l.filter fun r => decide (Rq.dist r.x r.y x y ≤ s)) = ll) := hll
  have hp2 := HP0.out
  have hri2 := HRI.out
  rw [hll] at hp2 hri2
  clear hll
  have HCC : Hid (∀ _ : True, Calls Try.prog 37 #[.func (.func 75) #[] #[.pointer (some ⟨W0.heap.size + 1, 0, none⟩), .pointer (some ⟨W0.heap.size, 0, none⟩), .pointer (some ⟨W0.heap.size + 2, 0, none⟩)]] w2 fun e w' => ∃ v, e = .returned v ∧ w'.ownsRow w2.heap.size 26 4 v ll.length (ll.flatMap rc) ∧ Below w2.heap.size w2 w') := fun _ => hc.mono fun e w' ⟨v, h1, h2⟩ => ⟨v, h1, sorts_is h2 hp2 hri2⟩
  have HB2 : Hid (Below w.heap.size w w2) := HB0.out.trans (hb12.mono HB0.out.size)
  clear hw2 hit hb2 hb12 hrn hc hp2 hri2
  go_wp2_with fail
  refine Calls.mono (HCC.out trivial) ?_
  rintro e w3 ⟨v, rfl, ho3, hb3⟩
  have HO3 : Hid (w3.ownsRow w.heap.size 26 4 v ll.length (ll.flatMap rc)) := own_down ho3 HB2.out.size
  have HB3 : Hid (Below w.heap.size w w3) := HB2.out.trans (hb3.mono HB2.out.size)
  clear hb3 ho3
  go_wp2_with fail
  go_ret2
  rw [HLL.out]
  exact ⟨_, rfl, HO3.out, HB3.out⟩
set_option maxRecDepth 100000 in
theorem qRound_any (n : Nv) (l : List Rw) (dd : Nat) (x y s : Nat) (w : World) (hN : NodeAt (fun _ => True) dd w n l) (hon : On l) (hmax : l.length ≤ 1000) (hri : Rise l) :
    Calls Try.prog 24 #[nv n, .int .u32 (x : Int), .int .u32 (y : Int), .int .u64 (s : Int)] w fun e w' => ∃ v, e = .returned (.tuple #[v, .int .i64 (rndE x y)]) ∧ w'.ownsRow w.heap.size 26 4 v (rndV l x y s).length ((rndV l x y s).flatMap rc) ∧ Below w.heap.size w w' := by
  unfold rndV rndE
  cases hb : onS x y
  · refine (qRnd_no n x y s hb w).mono ?_
    rintro e w' ⟨h1, h2⟩
    exact ⟨_, by simpa using h1, ⟨rfl, .inl ⟨rfl, rfl⟩⟩, h2⟩
  · simpa using qRnd_ok n l dd x y s hb w hN hon hmax hri
end Go.Proofs.Ytaiiclkfnahghaa.Rq
/- QuadWindows: which rows are in a box, and how many. -/
namespace Go.Proofs.Ytaiiclkfnahghaa.Rq
open Go.RowKit Go.Lib Go.Shelf
open Go.Proofs.Ytaiiclkfnahghaa.Rc
/-- A box's block, and a node's. -/
structure BxNd (w : World) (g a b c d g2 X Y L : Nat) (ro : Option Addr) (rn rc' : Nat) (ko : Option Addr) (kn kc : Nat) : Prop where
  bx : w.heap[g]? = some (.cells #[.int .u32 (a : Int), .int .u32 (b : Int), .int .u32 (c : Int), .int .u32 (d : Int)] 42 (0, 0))
  nd : w.heap[g2]? = some (.cells #[.int .u32 (X : Int), .int .u32 (Y : Int), .int .i64 (L : Int), .slice ro rn rc', .slice ko kn kc] 33 (0, 0))
set_option maxRecDepth 100000 in
theorem BxNd.grow {w W : World} {B g a b c d g2 X Y L : Nat} {ro : Option Addr} {rn rc' : Nat} {ko : Option Addr} {kn kc : Nat} (h : BxNd w g a b c d g2 X Y L ro rn rc' ko kn kc) (hW : Below B w W) (hB : w.heap.size ≤ B) : BxNd W g a b c d g2 X Y L ro rn rc' ko kn kc :=
  ⟨(hW.block _ (Nat.lt_of_lt_of_le (Array.getElem?_eq_some_iff.1 h.bx).1 hB)).trans h.bx, (hW.block _ (Nat.lt_of_lt_of_le (Array.getElem?_eq_some_iff.1 h.nd).1 hB)).trans h.nd⟩
set_option maxRecDepth 100000 in
theorem BxNd.facts {w : World} {g a b c d g2 X Y L : Nat} {ro : Option Addr} {rn rc' : Nat} {ko : Option Addr} {kn kc : Nat} (h : BxNd w g a b c d g2 X Y L ro rn rc' ko kn kc) :
    w.cell? ⟨g, 0, none⟩ = some (.int .u32 (a : Int)) ∧ w.cell? ⟨g, 1, none⟩ = some (.int .u32 (b : Int)) ∧ w.cell? ⟨g, 2, none⟩ = some (.int .u32 (c : Int)) ∧ w.cell? ⟨g, 3, none⟩ = some (.int .u32 (d : Int)) ∧
    w.cell? ⟨g2, 0, none⟩ = some (.int .u32 (X : Int)) ∧ w.cell? ⟨g2, 1, none⟩ = some (.int .u32 (Y : Int)) ∧ w.cell? ⟨g2, 2, none⟩ = some (.int .i64 (L : Int)) ∧ w.cell? ⟨g2, 3, none⟩ = some (.slice ro rn rc') ∧ w.cell? ⟨g2, 4, none⟩ = some (.slice ko kn kc) ∧ g < w.heap.size ∧ g2 < w.heap.size := by
  obtain ⟨x0, x1, x2, x3⟩ := box_cells h.bx
  obtain ⟨-, -, -, -, -, f0, f1, f2, f3, f4⟩ := node_facts h.nd
  exact ⟨x0, x1, x2, x3, f0, f1, f2, f3, f4, (Array.getElem?_eq_some_iff.1 h.bx).1, (Array.getElem?_eq_some_iff.1 h.nd).1⟩
set_option maxRecDepth 100000 in
set_option maxHeartbeats 2000000 in
theorem quadWindows_walk (l : List Rw) (a b c d : Nat) (o : Option Addr) (cap : Nat) (w : World) (hr : RowsAt w o cap l) :
    Calls Try.prog 4 #[.slice o l.length cap, bv a b c d] w fun e w' => e = .returned (.bool true) ∧ Below w.heap.size w w' := by
  have HF : Hid _ := few_any l o cap
  have HR0 : Hid (RowsAt w o cap l) := hr
  have HR : Hid (RowsAt w o cap (l.take 60)) := hr.head 60
  have h60 : (l.take 60).length ≤ 60 := by rw [List.length_take]; omega
  have hbn0 := below_new w (.cells #[.int .u32 (a : Int), .int .u32 (b : Int), .int .u32 (c : Int), .int .u32 (d : Int)] 42)
  have hg0 := heap_alloc_new w (.cells #[.int .u32 (a : Int), .int .u32 (b : Int), .int .u32 (c : Int), .int .u32 (d : Int)] 42)
  have HBN : Hid _ := hbn0
  have HGN : Hid _ := hg0
  clear hbn0 hg0
  simp only [bv]
  go_enter Try.func4, Try.ntmps4
  go_wp2_with fail
  refine (shown_any _).mono ?_
  rintro e w1 ⟨rfl, b1⟩
  have HB1 : Hid (Below w.heap.size w w1) := HBN.out.trans (b1.mono (by simp))
  have HG1 : Hid (w1.heap[w.heap.size]? = some (.cells #[.int .u32 (a : Int), .int .u32 (b : Int), .int .u32 (c : Int), .int .u32 (d : Int)] 42 (0, 0))) := (b1.block _ (by simp)).trans HGN.out
  clear b1 hr HBN HGN
  go_wp2_with fail
  refine (HF.out w1 (HR0.out.below HB1.out (Nat.le_refl _))).mono ?_
  rintro e w2 ⟨rfl, h⟩
  have h' := h.symm; clear h; subst h'
  clear HF HR0
  generalize l.take 60 = l at *
  go_wp2_with fail
  have hR1 := HR.out.below HB1.out (Nat.le_refl _)
  cases hrl : rightL l
  · refine (build_no l o cap _ hR1 hrl).mono ?_
    rintro e w2 ⟨rfl, b2⟩
    have HB2 : Hid (Below w.heap.size w w2) := HB1.out.trans (b2.mono HB1.out.size)
    clear b2 hR1
    go_wp2_with fail
    go_ret
    exact ⟨rfl, HB2.out.trans ((below_new w2 _).mono HB2.out.size)⟩
  · have hon := right_on hrl
    have hri := right_rise hrl
    refine (build_ok l o cap _ hR1 hrl).mono ?_
    rintro e w2 ⟨n, rfl, n2, b2⟩
    have HB2 : Hid (Below w.heap.size w w2) := HB1.out.trans (b2.mono HB1.out.size)
    have hg2 := (b2.block _ (Array.getElem?_eq_some_iff.1 HG1.out).1).trans HG1.out
    have hnb := (n2.mono (G' := fun _ => True) fun _ _ _ => trivial).below (below_new w2 (.cells #[.int .u32 (n.X : Int), .int .u32 (n.Y : Int), .int .i64 (n.L : Int), .slice n.ro n.rn n.rc, .slice n.ko n.kn n.kc] 33)) (Nat.le_refl _)
    obtain ⟨X, Y, L, ro, rn, rc', ko, kn, kc⟩ := n
    have hb3 := below_new w2 (.cells #[.int .u32 (X : Int), .int .u32 (Y : Int), .int .i64 (L : Int), .slice ro rn rc', .slice ko kn kc] 33)
    obtain ⟨W3, hW3⟩ : ∃ W3, w2.alloc (.cells #[.int .u32 (X : Int), .int .u32 (Y : Int), .int .i64 (L : Int), .slice ro rn rc', .slice ko kn kc] 33) = W3 := ⟨_, rfl⟩
    have hg3 := heap_alloc_new w2 (.cells #[.int .u32 (X : Int), .int .u32 (Y : Int), .int .i64 (L : Int), .slice ro rn rc', .slice ko kn kc] 33)
    simp only at hnb
    rw [hW3] at hb3 hg3 hnb
    have HW3 : Hid _ := hW3
    have HST : Hid (BxNd W3 w.heap.size a b c d w2.heap.size X Y L ro rn rc' ko kn kc ∧ NodeAt (fun _ => True) 32 W3 ⟨X, Y, L, ro, rn, rc', ko, kn, kc⟩ l ∧ Below w.heap.size w W3) := ⟨⟨(hb3.block _ (Array.getElem?_eq_some_iff.1 hg2).1).trans hg2, hg3⟩, hnb, HB2.out.trans (hb3.mono HB2.out.size)⟩
    have HLW : Hid (∀ W : World, NodeAt (fun _ => True) 32 W ⟨X, Y, L, ro, rn, rc', ko, kn, kc⟩ l → _) := fun W hW => window_any _ l 32 a b c d W hW hon (by omega) hri
    have HLC : Hid (∀ W : World, NodeAt (fun _ => True) 32 W ⟨X, Y, L, ro, rn, rc', ko, kn, kc⟩ l → _) := fun W hW => count_box _ l 32 a b c d W hW hon (by omega)
    have HLR : Hid (∀ W : World, RowsAt W o cap l → _) := fun W hW => rWindow_any l o cap a b c d W hW (by omega)
    obtain ⟨k0, k1, k2, k3⟩ := box_cells hg2
    have lb : w.heap.size < w2.heap.size := (Array.getElem?_eq_some_iff.1 hg2).1
    clear b2 hR1 n2 hb3 hg3 hW3 hnb hon hri hg2 HB2 HB1 HG1
    simp only [nv, bv] at HLW HLC HLR ⊢
    have hcw : (countV l a b c d : Int) = ((winV l a b c d).length : Int) := by
      unfold countV winV
      split <;> simp
    rw [hcw] at HLC
    obtain ⟨be, hbe⟩ : ∃ be, boxE a b c d = be := ⟨_, rfl⟩
    obtain ⟨wl, hwl⟩ : ∃ wl, winV l a b c d = wl := ⟨_, rfl⟩
    have hwn : wl.length ≤ 60 := by
      rw [← hwl]
      unfold winV
      split
      · exact Nat.le_trans (List.length_filter_le _ _) h60
      · simp
    rw [hbe] at HLW HLC HLR
    rw [hwl] at HLW HLC HLR
    clear hcw hbe hwl
    go_wp2_with fail
    rw [HW3.out]
    clear HW3
    refine (HLW.out _ HST.out.2.1).mono ?_
    rintro e w4 ⟨v, rfl, o4, b4⟩
    obtain ⟨o5, cap5, rfl, s4⟩ := sl_of_own o4
    have HS4 : Hid (RowsAt w4 o5 cap5 wl) := s4
    have HST4 : Hid (BxNd w4 w.heap.size a b c d w2.heap.size X Y L ro rn rc' ko kn kc ∧ NodeAt (fun _ => True) 32 w4 ⟨X, Y, L, ro, rn, rc', ko, kn, kc⟩ l ∧ Below w.heap.size w w4) := ⟨HST.out.1.grow b4 (Nat.le_refl _), NodeAt.below HST.out.2.1 b4 (Nat.le_refl _), HST.out.2.2.trans (b4.mono HST.out.2.2.size)⟩
    clear o4 b4 s4 HST HLW k0 k1 k2 k3 lb
    obtain ⟨k0, k1, k2, k3, f0, f1, f2, f3, f4, lb, ln⟩ := HST4.out.1.facts
    go_wp2_with fail
    refine (HLR.out _ (HR.out.below HST4.out.2.2 (Nat.le_refl _))).mono ?_
    rintro e w5 ⟨v, rfl, o5', b5⟩
    obtain ⟨o6, cap6, rfl, s5⟩ := sl_of_own o5'
    have HS5 : Hid (RowsAt w5 o6 cap6 wl) := s5
    have HS4' : Hid (RowsAt w5 o5 cap5 wl) := RowsAt.below HS4.out b5 (Nat.le_refl _)
    have HST5 : Hid (BxNd w5 w.heap.size a b c d w2.heap.size X Y L ro rn rc' ko kn kc ∧ NodeAt (fun _ => True) 32 w5 ⟨X, Y, L, ro, rn, rc', ko, kn, kc⟩ l ∧ Below w.heap.size w w5) := ⟨HST4.out.1.grow b5 (Nat.le_refl _), NodeAt.below HST4.out.2.1 b5 (Nat.le_refl _), HST4.out.2.2.trans (b5.mono HST4.out.2.2.size)⟩
    clear o5' b5 s5 HST4 HLR HS4 k0 k1 k2 k3 f0 f1 f2 f3 f4 lb ln
    obtain ⟨k0, k1, k2, k3, f0, f1, f2, f3, f4, lb, ln⟩ := HST5.out.1.facts
    go_wp2_with fail
    refine (HLC.out _ HST5.out.2.1).mono ?_
    rintro e w6 ⟨rfl, b6⟩
    have HSM : Hid (∀ _ : True, _) := fun _ => same_any wl o5 cap5 o6 cap6 w6 (RowsAt.below HS4'.out b6 (Nat.le_refl _)) (RowsAt.below HS5.out b6 (Nat.le_refl _))
    have HB6 : Hid (Below w.heap.size w w6) := HST5.out.2.2.trans (b6.mono HST5.out.2.2.size)
    clear b6 HST5 HLC HS4' HS5 k0 k1 k2 k3 f0 f1 f2 f3 f4 lb ln
    have q1 : (wl.length : Int) ≤ 60 := by omega
    go_wp2_with fail
    refine Calls.mono (HSM.out trivial) ?_
    rintro e w7 ⟨rfl, b7⟩
    have HB7 : Hid (Below w.heap.size w w7) := HB6.out.trans (b7.mono HB6.out.size)
    clear b7 HSM HB6
    go_wp2_with fail
    go_ret
    exact ⟨rfl, HB7.out⟩
end Go.Proofs.Ytaiiclkfnahghaa.Rq
/- QuadRounds: which rows are near enough. -/
namespace Go.Proofs.Ytaiiclkfnahghaa.Rq
open Go.RowKit Go.Lib Go.Shelf
open Go.Proofs.Ytaiiclkfnahghaa.Rc
/-- A node's block. -/
def NdAt (w : World) (g2 X Y L : Nat) (ro : Option Addr) (rn rc' : Nat) (ko : Option Addr) (kn kc : Nat) : Prop := w.heap[g2]? = some (.cells #[.int .u32 (X : Int), .int .u32 (Y : Int), .int .i64 (L : Int), .slice ro rn rc', .slice ko kn kc] 33 (0, 0))
set_option maxRecDepth 100000 in
set_option maxHeartbeats 2000000 in
theorem quadRounds_walk (l : List Rw) (x y s : Nat) (_ : x < 4294967296) (_ : y < 4294967296) (_ : s < 18446744073709551616) (o : Option Addr) (cap : Nat) (w : World) (hr : RowsAt w o cap l) :
    Calls Try.prog 5 #[.slice o l.length cap, .int .u32 (x : Int), .int .u32 (y : Int), .int .u64 (s : Int)] w fun e w' => e = .returned (.bool true) ∧ Below w.heap.size w w' := by
  have HF : Hid _ := few_any l o cap
  have HR0 : Hid (RowsAt w o cap l) := hr
  have HR : Hid (RowsAt w o cap (l.take 60)) := hr.head 60
  have h60 : (l.take 60).length ≤ 60 := by rw [List.length_take]; omega
  go_enter Try.func5, Try.ntmps5
  go_wp2_with fail
  refine (shown_any _).mono ?_
  rintro e w1 ⟨rfl, b1⟩
  have HB1 : Hid (Below w.heap.size w w1) := b1
  clear b1 hr
  go_wp2_with fail
  refine (HF.out w1 (HR0.out.below HB1.out (Nat.le_refl _))).mono ?_
  rintro e w2 ⟨rfl, h⟩
  have h' := h.symm; clear h; subst h'
  clear HF HR0
  generalize l.take 60 = l at *
  go_wp2_with fail
  have hR1 := HR.out.below HB1.out (Nat.le_refl _)
  cases hrl : rightL l
  · refine (build_no l o cap _ hR1 hrl).mono ?_
    rintro e w2 ⟨rfl, b2⟩
    have HB2 : Hid (Below w.heap.size w w2) := HB1.out.trans (b2.mono HB1.out.size)
    clear b2 hR1
    go_wp2_with fail
    go_ret
    exact ⟨rfl, HB2.out.trans ((below_new w2 _).mono HB2.out.size)⟩
  · have hon := right_on hrl
    have hri := right_rise hrl
    refine (build_ok l o cap _ hR1 hrl).mono ?_
    rintro e w2 ⟨n, rfl, n2, b2⟩
    have HB2 : Hid (Below w.heap.size w w2) := HB1.out.trans (b2.mono HB1.out.size)
    have hnb := (n2.mono (G' := fun _ => True) fun _ _ _ => trivial).below (below_new w2 (.cells #[.int .u32 (n.X : Int), .int .u32 (n.Y : Int), .int .i64 (n.L : Int), .slice n.ro n.rn n.rc, .slice n.ko n.kn n.kc] 33)) (Nat.le_refl _)
    obtain ⟨X, Y, L, ro, rn, rc', ko, kn, kc⟩ := n
    have hb3 := below_new w2 (.cells #[.int .u32 (X : Int), .int .u32 (Y : Int), .int .i64 (L : Int), .slice ro rn rc', .slice ko kn kc] 33)
    obtain ⟨W3, hW3⟩ : ∃ W3, w2.alloc (.cells #[.int .u32 (X : Int), .int .u32 (Y : Int), .int .i64 (L : Int), .slice ro rn rc', .slice ko kn kc] 33) = W3 := ⟨_, rfl⟩
    have hg3 := heap_alloc_new w2 (.cells #[.int .u32 (X : Int), .int .u32 (Y : Int), .int .i64 (L : Int), .slice ro rn rc', .slice ko kn kc] 33)
    simp only at hnb
    rw [hW3] at hb3 hg3 hnb
    have HW3 : Hid _ := hW3
    have HST : Hid (NdAt W3 w2.heap.size X Y L ro rn rc' ko kn kc ∧ NodeAt (fun _ => True) 32 W3 ⟨X, Y, L, ro, rn, rc', ko, kn, kc⟩ l ∧ Below w.heap.size w W3) := ⟨hg3, hnb, HB2.out.trans (hb3.mono HB2.out.size)⟩
    have HLW : Hid (∀ W : World, NodeAt (fun _ => True) 32 W ⟨X, Y, L, ro, rn, rc', ko, kn, kc⟩ l → _) := fun W hW => qRound_any _ l 32 x y s W hW hon (by omega) hri
    have HLR : Hid (∀ W : World, RowsAt W o cap l → _) := fun W hW => rRound_any l o cap x y s W hW hon (by omega)
    clear b2 hR1 n2 hb3 hg3 hW3 hnb hon hri HB2 HB1
    simp only [nv] at HLW ⊢
    obtain ⟨be, hbe⟩ : ∃ be, rndE x y = be := ⟨_, rfl⟩
    obtain ⟨wl, hwl⟩ : ∃ wl, rndV l x y s = wl := ⟨_, rfl⟩
    have hwn : wl.length ≤ 60 := by
      rw [← hwl]
      unfold rndV
      split
      · exact Nat.le_trans (List.length_filter_le _ _) h60
      · simp
    rw [hbe] at HLW HLR
    rw [hwl] at HLW HLR
    clear hbe hwl
    go_wp2_with fail
    rw [HW3.out]
    clear HW3
    refine (HLW.out _ HST.out.2.1).mono ?_
    rintro e w4 ⟨v, rfl, o4, b4⟩
    obtain ⟨o5, cap5, rfl, s4⟩ := sl_of_own o4
    have HS4 : Hid (RowsAt w4 o5 cap5 wl) := s4
    have HB4 : Hid (Below w.heap.size w w4) := HST.out.2.2.trans (b4.mono HST.out.2.2.size)
    clear o4 b4 s4 HST HLW
    go_wp2_with fail
    refine (HLR.out _ (HR.out.below HB4.out (Nat.le_refl _))).mono ?_
    rintro e w5 ⟨v, rfl, o5', b5⟩
    obtain ⟨o6, cap6, rfl, s5⟩ := sl_of_own o5'
    have HSM : Hid (∀ _ : True, _) := fun _ => same_any wl o5 cap5 o6 cap6 w5 (RowsAt.below HS4.out b5 (Nat.le_refl _)) s5
    have HB6 : Hid (Below w.heap.size w w5) := HB4.out.trans (b5.mono HB4.out.size)
    clear b5 HS4 HB4 s5 o5' HLR
    have q1 : (wl.length : Int) ≤ 60 := by omega
    go_wp2_with fail
    refine Calls.mono (HSM.out trivial) ?_
    rintro e w7 ⟨rfl, b7⟩
    have HB7 : Hid (Below w.heap.size w w7) := HB6.out.trans (b7.mono HB6.out.size)
    clear b7 HSM HB6
    go_wp2_with fail
    go_ret
    exact ⟨rfl, HB7.out⟩
end Go.Proofs.Ytaiiclkfnahghaa.Rq
