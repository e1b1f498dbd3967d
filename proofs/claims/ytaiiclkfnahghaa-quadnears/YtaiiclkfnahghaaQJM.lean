/- How many rows of a tree lie in a box. -/
import Derived.Test.YtaiiclkfnahghaaQJH
namespace Go.Proofs.Ytaiiclkfnahghaa.Rq
open Go.RowKit Go.Lib Go.Shelf
open Go.Proofs.Ytaiiclkfnahghaa.Rc
set_option maxRecDepth 100000 in
set_option maxHeartbeats 1000000 in
theorem inBoxN_no (n : Nv) (a b c d : Nat) (fv : Value) (hb : boxS a b c d = false) (w : World) :
    Calls Try.prog 40 #[nv n, bv a b c d, fv] w fun e w' => e = .returned (.tuple #[.int .i64 0, .int .i64 81]) ∧ Below w.heap.size w w' := by
  have HC : Hid _ := rightBox_any a b c d
  rw [hb] at HC
  have HB0 : Hid (Below w.heap.size w ((w.alloc (.cells #[.int .u32 (n.X : Int), .int .u32 (n.Y : Int), .int .i64 (n.L : Int), .slice n.ro n.rn n.rc, .slice n.ko n.kn n.kc] 33)).alloc (.cells #[.int .u32 (a : Int), .int .u32 (b : Int), .int .u32 (c : Int), .int .u32 (d : Int)] 42))) := (below_new w _).alloc (by simp) _
  obtain ⟨nX, nY, nL, nro, nrn, nrc, nko, nkn, nkc⟩ := n
  simp only [nv, bv] at HC ⊢
  simp only at HB0
  clear hb
  go_enter Try.func40, Try.ntmps40
  go_wp2_with fail
  refine (HC.out _).mono ?_
  rintro e w1 ⟨rfl, b1⟩
  have HB1 : Hid (Below w.heap.size w w1) := HB0.out.trans (b1.mono (by simp; omega))
  clear b1
  go_wp2_with fail
  go_ret2
  exact ⟨rfl, HB1.out⟩
set_option maxRecDepth 100000 in
set_option maxHeartbeats 1000000 in
theorem inBoxN_ok (n : Nv) (l : List Rw) (dd : Nat) (a b c d : Nat) (hb : boxS a b c d = true) (w : World) (hN : NodeAt (fun _ => True) dd w n l) (hon : On l) (hmax : l.length ≤ 1000) :
    Calls Try.prog 40 #[nv n, bv a b c d, .func (.func 41) #[] #[]] w fun e w' => e = .returned (.tuple #[.int .i64 ((l.filter fun r => inS a b c d r.x r.y).length : Int), .int .i64 0]) ∧ Below w.heap.size w w' := by
  have hp := seqs_perm (fun X Y L => touchS X Y (L : Int) a b c d) (fun r => inS a b c d r.x r.y) (box_all a b c d) dd l hN.fits hon
  have HP : Hid _ := hp
  have HC : Hid _ := rightBox_any a b c d
  rw [hb] at HC
  obtain ⟨W0, hW0⟩ : ∃ W0, (w.alloc (.cells #[.int .u32 (n.X : Int), .int .u32 (n.Y : Int), .int .i64 (n.L : Int), .slice n.ro n.rn n.rc, .slice n.ko n.kn n.kc] 33)).alloc (.cells #[.int .u32 (a : Int), .int .u32 (b : Int), .int .u32 (c : Int), .int .u32 (d : Int)] 42) = W0 := ⟨_, rfl⟩
  obtain ⟨y1, y2, y3⟩ := two_new w (.cells #[.int .u32 (n.X : Int), .int .u32 (n.Y : Int), .int .i64 (n.L : Int), .slice n.ro n.rn n.rc, .slice n.ko n.kn n.kc] 33) (.cells #[.int .u32 (a : Int), .int .u32 (b : Int), .int .u32 (c : Int), .int .u32 (d : Int)] 42)
  rw [hW0] at y1 y2 y3
  have HY1 : Hid (W0.heap[w.heap.size]? = some (.cells #[.int .u32 (n.X : Int), .int .u32 (n.Y : Int), .int .i64 (n.L : Int), .slice n.ro n.rn n.rc, .slice n.ko n.kn n.kc] 33 (0, 0))) := y1
  have HY2 : Hid (W0.heap[w.heap.size + 1]? = some (.cells #[.int .u32 (a : Int), .int .u32 (b : Int), .int .u32 (c : Int), .int .u32 (d : Int)] 42 (0, 0))) := y2
  have HB0 : Hid (Below w.heap.size w W0) := y3
  have HW0 : Hid _ := hW0
  have HNA : Hid (NodeAt (fun _ => True) dd W0 n l) := hN.below y3 (Nat.le_refl _)
  have HON : Hid (On l) := hon
  have HM : Hid (l.length ≤ 1000) := hmax
  have HRA : Hid _ := rows_any n
  clear hN hon hmax hp y1 y2 y3 hb hW0
  obtain ⟨nX, nY, nL, nro, nrn, nrc, nko, nkn, nkc⟩ := n
  simp only [nv, bv] at HRA HC ⊢
  simp only at HNA HY1 HW0
  go_enter Try.func40, Try.ntmps40
  go_wp2_with fail
  refine (HC.out _).mono ?_
  rw [HW0.out]
  rintro e w1 ⟨rfl, b1⟩
  have l2 := (Array.getElem?_eq_some_iff.1 HY2.out).1
  have l1 := (Array.getElem?_eq_some_iff.1 HY1.out).1
  have HG1 : Hid (w1.heap[w.heap.size + 1]? = some (.cells #[.int .u32 (a : Int), .int .u32 (b : Int), .int .u32 (c : Int), .int .u32 (d : Int)] 42 (0, 0))) := (b1.block _ l2).trans HY2.out
  have hn1 := (b1.block _ l1).trans HY1.out
  obtain ⟨z0, z1, z2, z3, z4, f0, f1, f2, f3, f4⟩ := node_facts hn1
  have ln : w.heap.size < w1.heap.size := (Array.getElem?_eq_some_iff.1 hn1).1
  have HNB : Hid (NodeAt (fun _ => True) dd w1 ⟨nX, nY, nL, nro, nrn, nrc, nko, nkn, nkc⟩ l) := HNA.out.below b1 (Nat.le_refl _)
  have HB1 : Hid (Below w.heap.size w w1) := HB0.out.trans (b1.mono HB0.out.size)
  clear b1 z0 z1 z2 z3 z4 l1 l2 hn1 HW0 HY1 HY2 HNA
  go_wp2_with fail
  refine (HRA.out _ _ _ _ _).mono ?_
  rintro e w2 ⟨rfl, hw2⟩
  have hb12 : Below w1.heap.size w1 w2 := by rw [hw2]; exact ((below_new w1 _).alloc (by simp) _).alloc (by simp; omega) _
  have hg2 := (hb12.block _ (Array.getElem?_eq_some_iff.1 HG1.out).1).trans HG1.out
  obtain ⟨hb2, hit⟩ := rows_iter _ _ _ _ _ _ _ dd _ l HNB.out HON.out HM.out w2 hw2 (ent_boxN w2 _ a b c d hg2) (kep_boxN w2 _ a b c d hg2)
  have hc := count_any w2 _ _ _ hit rows1_eg (by rw [HP.out.length_eq]; exact Nat.le_trans (List.length_filter_le _ _) HM.out) w2 (Below.refl _ _)
  rw [HP.out.length_eq] at hc
  obtain ⟨m, hm⟩ : ∃ m, (l.filter fun r => inS a b c d r.x r.y).length = m := ⟨_, rfl⟩
  have HMM : Hid ((l.filter fun r => inS a b c d r.x r.y).length = m) := hm
  rw [hm] at hc
  clear hm
  have HCC : Hid (∀ _ : True, Calls Try.prog 41 #[.func (.func 75) #[] #[.pointer (some ⟨w1.heap.size + 1, 0, none⟩), .pointer (some ⟨w1.heap.size, 0, none⟩), .pointer (some ⟨w1.heap.size + 2, 0, none⟩)]] w2 fun e w' => e = .returned (.int .i64 (m : Int)) ∧ Below w2.heap.size w2 w') := fun _ => hc
  have HB2 : Hid (Below w.heap.size w w2) := HB1.out.trans (hb12.mono HB1.out.size)
  clear hw2 hit hb2 hb12 hg2 hc
  go_wp2_with fail
  refine Calls.mono (HCC.out trivial) ?_
  rintro e w3 ⟨rfl, hb3⟩
  have HB3 : Hid (Below w.heap.size w w3) := HB2.out.trans (hb3.mono HB2.out.size)
  clear hb3
  go_wp2_with fail
  go_ret2
  rw [HMM.out]
  exact ⟨rfl, HB3.out⟩
/-- How many rows of a tree lie in a box, and what is said of it. -/
def countV (l : List Rw) (a b c d : Nat) : Nat := if boxS a b c d = true then (l.filter fun r => inS a b c d r.x r.y).length else 0
def boxE (a b c d : Nat) : Int := if boxS a b c d = true then 0 else 81
set_option maxRecDepth 100000 in
theorem inBoxN_any (n : Nv) (l : List Rw) (dd : Nat) (a b c d : Nat) (w : World) (hN : NodeAt (fun _ => True) dd w n l) (hon : On l) (hmax : l.length ≤ 1000) :
    Calls Try.prog 40 #[nv n, bv a b c d, .func (.func 41) #[] #[]] w fun e w' => e = .returned (.tuple #[.int .i64 (countV l a b c d : Int), .int .i64 (boxE a b c d)]) ∧ Below w.heap.size w w' := by
  unfold countV boxE
  cases hb : boxS a b c d
  · simpa using inBoxN_no n a b c d _ hb w
  · simpa using inBoxN_ok n l dd a b c d hb w hN hon hmax
set_option maxRecDepth 100000 in
set_option maxHeartbeats 1000000 in
theorem count_box (n : Nv) (l : List Rw) (dd : Nat) (a b c d : Nat) (w : World) (hN : NodeAt (fun _ => True) dd w n l) (hon : On l) (hmax : l.length ≤ 1000) :
    Calls Try.prog 22 #[nv n, bv a b c d] w fun e w' => e = .returned (.tuple #[.int .i64 (countV l a b c d : Int), .int .i64 (boxE a b c d)]) ∧ Below w.heap.size w w' := by
  have hb0 : Below w.heap.size w ((w.alloc (.cells #[.int .u32 (n.X : Int), .int .u32 (n.Y : Int), .int .i64 (n.L : Int), .slice n.ro n.rn n.rc, .slice n.ko n.kn n.kc] 33)).alloc (.cells #[.int .u32 (a : Int), .int .u32 (b : Int), .int .u32 (c : Int), .int .u32 (d : Int)] 42)) := (below_new w _).alloc (by simp) _
  have HB0 : Hid _ := hb0
  have HC : Hid (∀ _ : True, _) := fun _ => inBoxN_any n l dd a b c d _ (hN.below hb0 (Nat.le_refl _)) hon hmax
  clear hb0 hN hon hmax
  obtain ⟨nX, nY, nL, nro, nrn, nrc, nko, nkn, nkc⟩ := n
  simp only [nv, bv] at HC HB0 ⊢
  generalize countV l a b c d = cv' at *
  generalize boxE a b c d = be at *
  go_enter Try.func22, Try.ntmps22
  go_wp2_with fail
  refine Calls.mono (HC.out trivial) ?_
  rintro e w1 ⟨rfl, b1⟩
  have HB1 : Hid (Below w.heap.size w w1) := HB0.out.trans (b1.mono (by simp; omega))
  clear b1 HC HB0
  go_wp2_with fail
  go_ret2
  exact ⟨rfl, HB1.out⟩
end Go.Proofs.Ytaiiclkfnahghaa.Rq
/- Lists that rise. -/
namespace Go.Proofs.Ytaiiclkfnahghaa.Rq
open Go.RowKit Go.Lib Go.Shelf
open Go.Proofs.Ytaiiclkfnahghaa.Rc
set_option maxRecDepth 100000 in
theorem rise_perm_eq {l m : List Rw} (hl : Rise l) (hm : Rise m) (h : l.Perm m) : l = m := by
  refine h.eq_of_pairwise (le := fun (a b : Rw) => a.id < b.id) (fun a b _ _ h1 h2 => ?_) hl hm
  omega
set_option maxRecDepth 100000 in
theorem rise_filter {l : List Rw} (h : Rise l) (kp : Rw → Bool) : Rise (l.filter kp) := h.sublist List.filter_sublist
set_option maxRecDepth 100000 in
/-- A list by ids that do not fall, a permutation of one that rises, is that one. -/
theorem sorted_is {s l : List Rw} (hs : s.Pairwise fun a b => ¬ b.id < a.id) (hp : s.Perm l) (hl : Rise l) : s = l := by
  refine rise_perm_eq ?_ hl hp
  have hn : l.Pairwise fun a b => a.id ≠ b.id := hl.imp fun h => by omega
  have hn2 : s.Pairwise fun a b => a.id ≠ b.id := (hp.pairwise_iff (fun h => fun e => h e.symm)).2 hn
  exact (hs.and hn2).imp fun h => by omega
/-- The first of two that is not 0. -/
def orS (x y : Int) : Int := if x ≠ 0 then x else y
set_option maxRecDepth 100000 in
set_option maxHeartbeats 1000000 in
theorem or_any (x y : Int) (g : Nat) (w : World) (h0 : w.cell? ⟨g, 0, none⟩ = some (.int .i64 x)) (h1 : w.cell? ⟨g, 1, none⟩ = some (.int .i64 y)) :
    Calls Try.prog 48 #[.slice (some ⟨g, 0, none⟩) 2 2] w fun e w' => e = .returned (.int .i64 (orS x y)) ∧ w' = w := by
  obtain ⟨r, hr⟩ : ∃ r, orS x y = r := ⟨_, rfl⟩
  rw [hr]
  have hc : (x ≠ 0 ∧ r = x) ∨ (x = 0 ∧ y ≠ 0 ∧ r = y) ∨ (x = 0 ∧ y = 0 ∧ r = 0) := by
    unfold orS at hr
    split at hr <;> omega
  clear hr
  go_enter Try.func48, Try.ntmps48
  go_wp2_with fail
  refine wp_loop_rounds 3 ?_
  rcases hc with ⟨a1, rfl⟩ | ⟨rfl, a2, rfl⟩ | ⟨rfl, rfl, rfl⟩
  · rw [rounds_succ]
    go_wp2_with fail
    go_ret
    exact ⟨rfl, rfl⟩
  · rw [rounds_succ]
    go_wp2_with fail
    rw [rounds_succ]
    go_wp2_with fail
    go_ret
    exact ⟨rfl, rfl⟩
  · rw [rounds_succ]
    go_wp2_with fail
    rw [rounds_succ]
    go_wp2_with fail
    rw [rounds_succ]
    go_wp2_with fail
    go_ret
    exact ⟨rfl, rfl⟩
end Go.Proofs.Ytaiiclkfnahghaa.Rq
