/- The function that goes through rows: every tree. -/
import Derived.Test.YtimdlohdmddnjaaQJB
import Derived.BigQuiet
namespace Go.Proofs.Ytimdlohdmddnjaa.Rq
open Go.RowKit Go.Lib Go.Shelf
open Go.Proofs.Ytimdlohdmddnjaa.Rc
attribute [local go_sem] Oper.semAt_some
def rowsOf (m : List Rw) : List Rw := if leaf m = true then m else []
def seqs (kp : Rw → Bool) (vs : List (List Rw)) : List Rw := vs.flatMap fun m => (rowsOf m).filter kp
def rpos (kp : Rw → Bool) (vs : List (List Rw)) (t : Nat) : Nat := (seqs kp (vs.take t)).length
theorem vat_get {vs : List (List Rw)} {t : Nat} (h : t < vs.length) : vat vs t = vs[t] := by unfold vat; rw [List.getElem?_eq_getElem h]; rfl
theorem seqs_take (kp : Rw → Bool) (vs : List (List Rw)) (t : Nat) (h : t < vs.length) : seqs kp (vs.take (t + 1)) = seqs kp (vs.take t) ++ (rowsOf (vat vs t)).filter kp := by
 unfold seqs
 rw [List.take_add_one, List.getElem?_eq_getElem h, List.flatMap_append, vat_get h]
 simp
theorem rpos_next (kp : Rw → Bool) (vs : List (List Rw)) (t : Nat) (h : t < vs.length) : rpos kp vs (t + 1) = rpos kp vs t + ((rowsOf (vat vs t)).filter kp).length := by
 unfold rpos; rw [seqs_take kp vs t h, List.length_append]
theorem rpos_all (kp : Rw → Bool) (vs : List (List Rw)) (t : Nat) (h : vs.length ≤ t) : rpos kp vs t = (seqs kp vs).length := by unfold rpos; rw [List.take_of_length_le h]
theorem seqs_split (kp : Rw → Bool) (vs : List (List Rw)) (t : Nat) (h : t < vs.length) : seqs kp vs = seqs kp (vs.take t) ++ ((rowsOf (vat vs t)).filter kp ++ seqs kp (vs.drop (t + 1))) := by
 have e : vs = vs.take (t + 1) ++ vs.drop (t + 1) := (List.take_append_drop _ _).symm
 conv => lhs; rw [e]
 have h2 := seqs_take kp vs t h
 unfold seqs at h2 ⊢
 rw [List.flatMap_append, h2, List.append_assoc]
theorem rat_rpos (kp : Rw → Bool) (vs : List (List Rw)) (t u : Nat) (h : t < vs.length) (hu : u < ((rowsOf (vat vs t)).filter kp).length) : rat (seqs kp vs) (rpos kp vs t + u) = rat ((rowsOf (vat vs t)).filter kp) u ∧ rpos kp vs t + u < (seqs kp vs).length := by
 have e := seqs_split kp vs t h
 unfold rat rpos
 rw [e]
 constructor
 ·rw [List.getElem?_append_right (by omega), Nat.add_sub_cancel_left, List.getElem?_append_left hu]
 ·rw [List.length_append, List.length_append]; omega
set_option maxRecDepth 100000 in
theorem filter_at (kp : Rw → Bool) (lr : List Rw) (r : Nat) (h : r < lr.length) : ((lr.take (r + 1)).filter kp).length = ((lr.take r).filter kp).length + (if kp (rat lr r) = true then 1 else 0) ∧ (kp (rat lr r) = true → rat (lr.filter kp) ((lr.take r).filter kp).length = rat lr r ∧ ((lr.take r).filter kp).length < (lr.filter kp).length) := by
 have e : lr = lr.take (r + 1) ++ lr.drop (r + 1) := (List.take_append_drop _ _).symm
 have e2 : lr.take (r + 1) = lr.take r ++ [rat lr r] := take_rat lr r h
 constructor
 ·rw [e2, List.filter_append, List.length_append]
  congr 1
  cases hk : kp (rat lr r) <;> simp [hk]
 ·intro hk
  have e3 : lr.filter kp = (lr.take r).filter kp ++ (rat lr r :: (lr.drop (r + 1)).filter kp) := by
   conv => lhs; rw [e, e2, List.filter_append, List.filter_append]
   simp [hk]
  constructor
  ·generalize rat lr r = x at *
   unfold rat
   rw [e3, List.getElem?_append_right (Nat.le_refl _), Nat.sub_self]
   rfl
  ·rw [e3, List.length_append, List.length_cons]; omega
structure Kep (w0 : World) (kp : Rw → Bool) (kf : Nat) (kb : Array Value) : Prop where
 eg : ∀ args w, (callFunc kf args).run Try.prog w = .ok (.enter kf args) w
 calls : ∀ W, Below w0.heap.size w0 W → ∀ r : Rw, r.x < 2147483648 → r.y < 2147483648 → Calls Try.prog kf (#[rv r] ++ kb) W fun e W' => e = .returned (.bool (kp r)) ∧ Below W.heap.size W W'
theorem wstep {r : Nat} {zr : Int} (h : (r : Int) = zr) (i : (r : Int) + 1 ≤ 9223372036854775807) : wrap64 (zr + 1) = ((r + 1 : Nat) : Int) := by
 subst h
 exact (IntWalk.wrap64_in _ ⟨by omega, by omega⟩).trans (by omega)
structure QJ2 (w0 W1 : World) (b4 l : Nat) (own : Nat → Prop) (W : World) : Prop where
 yld : W.heap[b4]? = some (.cells #[.func (.yield l) #[] #[]] 75 (0, 0))
 bel : Below w0.heap.size w0 W
 out : ∀ j, own j → w0.heap.size ≤ j ∧ j < W.heap.size ∧ j ≠ b4
set_option maxRecDepth 100000 in
theorem QJ2.next {w0 W1 : World} {b4 l : Nat} {own own' : Nat → Prop} {W W' : World} (h : QJ2 w0 W1 b4 l own W) (hb : But own W W') (ho : ∀ j, own' j → own j ∨ (W.heap.size ≤ j ∧ j < W'.heap.size)) : QJ2 w0 W1 b4 l own' W' := by
 have l4 := (Array.getElem?_eq_some_iff.1 h.yld).1
 have hbs := h.bel.size
 refine ⟨(hb.block b4 l4 fun e => (h.out _ e).2.2 rfl).trans h.yld, h.bel.trans (hb.below (fun j hj => (h.out j hj).1) hbs), fun j hj => ?_⟩
 rcases ho j hj with a | a
 ·obtain ⟨x1, x2, x3⟩ := h.out j a
  exact ⟨x1, Nat.lt_of_lt_of_le x2 hb.size, x3⟩
 ·exact ⟨by omega, a.2, by omega⟩
set_option maxRecDepth 100000 in
theorem QJ2.grow {w0 W1 : World} {b4 l : Nat} {own : Nat → Prop} {W W' : World} (h : QJ2 w0 W1 b4 l own W) (hb : Below W.heap.size W W') : QJ2 w0 W1 b4 l own W' := h.next (But.of_below hb) fun _ hj => .inl hj
set_option maxRecDepth 100000 in
theorem QJ2.kw {w0 W1 : World} {b4 l B : Nat} {own : Nat → Prop} {W W' : World} (h : QJ2 w0 W1 b4 l own W) (hk : Kw B own W W') (h4 : b4 < B) (h0 : w0.heap.size ≤ B) : QJ2 w0 W1 b4 l own W' := by
 have l4 := (Array.getElem?_eq_some_iff.1 h.yld).1
 have hbs := h.bel.size
 refine ⟨(hk.block b4 l4 (.inl h4)).trans h.yld, h.bel.trans ⟨hk.os, hk.tape, hk.output, hk.size, fun j hj => hk.block j (by omega) (.inl (by omega))⟩, fun j hj => ?_⟩
 obtain ⟨x1, x2, x3⟩ := h.out j hj
 exact ⟨x1, Nat.lt_of_lt_of_le x2 hk.size, x3⟩
theorem own_step {own own2 own6 : Nat → Prop} {A B C : Nat} (h : ∀ j, own2 j → own j ∨ (A ≤ j ∧ j < B)) (h6 : ∀ j, own6 j → own2 j ∨ (B ≤ j ∧ j < C)) (hBC : B ≤ C) (hAB : A ≤ B) : ∀ j, own6 j → own j ∨ (A ≤ j ∧ j < C) := fun j hj => by
 rcases h6 j hj with a | a
 ·rcases h j a with b | b
  ·exact .inl b
  ·exact .inr ⟨b.1, by omega⟩
 ·exact .inr ⟨by omega, a.2⟩
set_option maxRecDepth 100000 in
theorem but_step {own own2 : Nat → Prop} {W W2 W6 : World} {C : Nat} (h : But own W W2) (h6 : But own2 W2 W6) (ho : ∀ j, own2 j → own j ∨ (W.heap.size ≤ j ∧ j < C)) : But own W W6 :=
 ⟨h6.os.trans h.os, h6.tape.trans h.tape, h6.output.trans h.output, Nat.le_trans h.size h6.size, fun j hj hn => (h6.block j (Nat.lt_of_lt_of_le hj h.size) fun e => by
  rcases ho j e with a | a
  ·exact hn a
  ·omega).trans (h.block j hj hn)⟩
set_option maxRecDepth 100000 in
theorem left_one {B D : Nat} {own : Nat → Prop} {W W' : World} (hb : But (fun j => j ∈ [D]) W W') (h1 : B ≤ D) (h2 : ¬ own D) : Kw B own W W' :=
 ⟨hb.os, hb.tape, hb.output, hb.size, fun j hj hn => hb.block j hj fun hD => by
  have e : j = D := by simpa using hD
  subst e
  rcases hn with hn | hn
  ·omega
  ·exact h2 hn⟩
set_option maxRecDepth 100000 in
set_option maxHeartbeats 4000000 in
theorem rows1_any (w0 : World) (p : Nat → Nat → Nat → Bool) (ef : Nat) (eb : Array Value) (hE : Ent w0 p ef eb) (kp : Rw → Bool) (kf : Nat) (kb : Array Value) (hK : Kep w0 kp kf kb) (d : Nat) (n0 : Nv) (l0 : List Rw) (hN : NodeAt (fun _ => True) d w0 n0 l0) (hon : On l0) (hmax : l0.length ≤ 1000)
  (bE bN bK : Nat) (hbE : w0.heap[bE]? = some (.cells #[.func (.func ef) #[] eb] 74 (0, 0))) (hbK : w0.heap[bK]? = some (.cells #[.func (.func kf) #[] kb] 75 (0, 0)))
  (hbN : w0.heap[bN]? = some (.cells #[.int .u32 (n0.X : Int), .int .u32 (n0.Y : Int), .int .i64 (n0.L : Int), .slice n0.ro n0.rn n0.rc, .slice n0.ko n0.kn n0.kc] 45 (0, 0)))
  (hvis : ∀ m ∈ visL p d [l0], On m ∧ m.length ≤ 1000)
  (W1 : World) (hb1 : Below w0.heap.size w0 W1) (l : Nat) (R : (Nat → Prop) → Nat → World → Prop) (Rx : (Nat → Prop) → World → Prop) (own : Nat → Prop) (hown : ∀ j, own j → w0.heap.size ≤ j ∧ j < W1.heap.size)
  (hR : ∀ own k W W', R own k W → Kw W1.heap.size own W W' → R own k W') (hRx : ∀ own W W', Rx own W → Kw W1.heap.size own W W' → Rx own W')
  (hY : ∀ own k W, k < (seqs kp (visL p d [l0])).length → R own k W → (∀ j, own j → w0.heap.size ≤ j ∧ j < W.heap.size) → Below w0.heap.size w0 W → YieldAt Fence.wide 0 Try.prog l #[rv (rat (seqs kp (visL p d [l0])) k)] W (YPost R Rx own (k + 1) W))
  (h0 : R own 0 W1) :
  Calls Try.prog 67 (#[.func (.yield l) #[] #[]] ++ #[.pointer (some ⟨bE, 0, none⟩), .pointer (some ⟨bN, 0, none⟩), .pointer (some ⟨bK, 0, none⟩)]) W1 fun e W' => (∃ v, e = .returned v) ∧ ∃ own', (R own' (seqs kp (visL p d [l0])).length W' ∨ Rx own' W') := by
 have HEn : Hid (Ent w0 p ef eb) := hE
 have HKp : Hid (Kep w0 kp kf kb) := hK
 have HN : Hid (NodeAt (fun _ => True) d w0 n0 l0) := hN
 have HOn : Hid (On l0) := hon
 have HVs : Hid (∀ m ∈ visL p d [l0], On m ∧ m.length ≤ 1000) := hvis
 have HRs : Hid _ := hR
 have HRxs : Hid _ := hRx
 have HY : Hid _ := hY
 have lE := (Array.getElem?_eq_some_iff.1 hbE).1
 have lN := (Array.getElem?_eq_some_iff.1 hbN).1
 have lK := (Array.getElem?_eq_some_iff.1 hbK).1
 have HBK : Hid (w0.heap[bK]? = some (.cells #[.func (.func kf) #[] kb] 75 (0, 0)) ∧ bK < w0.heap.size) := ⟨hbK, lK⟩
 have hbn := below_new W1 (.cells #[.func (.yield l) #[] #[]] 75)
 have HJ0 : Hid (QJ2 w0 W1 W1.heap.size l own (W1.alloc (.cells #[.func (.yield l) #[] #[]] 75))) := ⟨heap_alloc_new W1 _, hb1.trans (hbn.mono hb1.size), fun j hj => ⟨(hown j hj).1, by have := (hown j hj).2; simp; omega, by have := (hown j hj).2; omega⟩⟩
 have HR0 : Hid (R own 0 (W1.alloc (.cells #[.func (.yield l) #[] #[]] 75))) := hR own 0 _ _ h0 (Kw.of_below hbn)
 have HW1 : Hid (Below w0.heap.size w0 W1) := hb1
 have HOw : Hid (∀ j, own j → w0.heap.size ≤ j ∧ j < W1.heap.size) := hown
 have h1s := hb1.size
 have cE : W1.cell? ⟨bE, 0, none⟩ = some (.func (.func ef) #[] eb) := by rw [cell_of_row _ _ _ _ _ _ ((hb1.block _ lE).trans hbE)]; rfl
 obtain ⟨z0, z1, z2, z3, z4, t0, t1, t2, t3, t4⟩ := node_facts ((hb1.block _ lN).trans hbN)
 have lE1 : bE < W1.heap.size := by omega
 have lN1 : bN < W1.heap.size := by omega
 clear z0 z1 z2 z3 z4 hE hK hN hon hvis hR hRx hY h0 hbn hb1 hbE hbN hbK hown
 obtain ⟨nX, nY, nL, nro, nrn, nrc, nko, nkn, nkc⟩ := n0
 simp only at t0 t1 t2 t3 t4
 obtain ⟨vs, hvs⟩ : ∃ vs, visL p d [l0] = vs := ⟨_, rfl⟩
 have HVS : Hid (visL p d [l0] = vs) := hvs
 rw [hvs] at HY HVs ⊢
 clear hvs
 refine (callsIn_wide (n := 5)).1 ?_
 refine callsIn_of_wp_marks Try.func67 rfl trivial ?_ rfl
 simp only [Try.ntmps67, List.size_toArray, List.length_cons, List.length_nil, Nat.reduceAdd, Nat.reduceSub, Array.replicate_succ, Array.replicate_zero, List.push_toArray, List.append_toArray, List.nil_append, List.cons_append]
 gi_wp2
 refine ⟨trivial, callsIn_wide.2 ((nodes_any ef eb _ 1 1 _).mono ?_)⟩
 rintro e Wn ⟨rfl, hWn⟩
 have hsS : ((W1.alloc (.cells #[.func (.yield l) #[] #[]] 75)).alloc (.cells #[.int .u32 (nX : Int), .int .u32 (nY : Int), .int .i64 (nL : Int), .slice nro nrn nrc, .slice nko nkn nkc] 45)).heap.size = W1.heap.size + 2 := by simp
 rw [hsS]
 subst hWn
 clear t0 t1 t2 t3 t4 cE
 have hb01 := below_new W1 (.cells #[.func (.yield l) #[] #[]] 75)
 have hb12 : Below (W1.heap.size + 1) (W1.alloc (.cells #[.func (.yield l) #[] #[]] 75)) ((W1.alloc (.cells #[.func (.yield l) #[] #[]] 75)).alloc (.cells #[.int .u32 (nX : Int), .int .u32 (nY : Int), .int .i64 (nL : Int), .slice nro nrn nrc, .slice nko nkn nkc] 45)) := by have := below_new (W1.alloc (.cells #[.func (.yield l) #[] #[]] 75)) (.cells #[.int .u32 (nX : Int), .int .u32 (nY : Int), .int .i64 (nL : Int), .slice nro nrn nrc, .slice nko nkn nkc] 45); simpa using this
 obtain ⟨y1, y2, y3⟩ := two_new ((W1.alloc (.cells #[.func (.yield l) #[] #[]] 75)).alloc (.cells #[.int .u32 (nX : Int), .int .u32 (nY : Int), .int .i64 (nL : Int), .slice nro nrn nrc, .slice nko nkn nkc] 45)) (.cells #[.func (.func ef) #[] eb] 74) (.cells #[.slice (some ⟨W1.heap.size + 1, 0, none⟩) 1 1] 43)
 rw [hsS] at y1 y2 y3
 have gS0 : ((W1.alloc (.cells #[.func (.yield l) #[] #[]] 75)).alloc (.cells #[.int .u32 (nX : Int), .int .u32 (nY : Int), .int .i64 (nL : Int), .slice nro nrn nrc, .slice nko nkn nkc] 45)).heap[W1.heap.size + 1]? = some (.cells #[.int .u32 (nX : Int), .int .u32 (nY : Int), .int .i64 (nL : Int), .slice nro nrn nrc, .slice nko nkn nkc] 45 (0, 0)) := by have := heap_alloc_new (W1.alloc (.cells #[.func (.yield l) #[] #[]] 75)) (.cells #[.int .u32 (nX : Int), .int .u32 (nY : Int), .int .i64 (nL : Int), .slice nro nrn nrc, .slice nko nkn nkc] 45); simpa using this
 have HB1f : Hid (Below W1.heap.size W1 ((((W1.alloc (.cells #[.func (.yield l) #[] #[]] 75)).alloc (.cells #[.int .u32 (nX : Int), .int .u32 (nY : Int), .int .i64 (nL : Int), .slice nro nrn nrc, .slice nko nkn nkc] 45)).alloc (.cells #[.func (.func ef) #[] eb] 74)).alloc (.cells #[.slice (some ⟨W1.heap.size + 1, 0, none⟩) 1 1] 43))) := hb01.trans ((hb12.mono (by omega)).trans (y3.mono (by omega)))
 have HJf : Hid (QJ2 w0 W1 W1.heap.size l own ((((W1.alloc (.cells #[.func (.yield l) #[] #[]] 75)).alloc (.cells #[.int .u32 (nX : Int), .int .u32 (nY : Int), .int .i64 (nL : Int), .slice nro nrn nrc, .slice nko nkn nkc] 45)).alloc (.cells #[.func (.func ef) #[] eb] 74)).alloc (.cells #[.slice (some ⟨W1.heap.size + 1, 0, none⟩) 1 1] 43))) := (HJ0.out.grow (by simpa using hb12)).grow (by rw [hsS]; exact y3)
 have HRf : Hid (R own 0 ((((W1.alloc (.cells #[.func (.yield l) #[] #[]] 75)).alloc (.cells #[.int .u32 (nX : Int), .int .u32 (nY : Int), .int .i64 (nL : Int), .slice nro nrn nrc, .slice nko nkn nkc] 45)).alloc (.cells #[.func (.func ef) #[] eb] 74)).alloc (.cells #[.slice (some ⟨W1.heap.size + 1, 0, none⟩) 1 1] 43))) := HRs.out _ _ _ _ HR0.out (Kw.of_below (by have := (hb12.trans (y3.mono (by omega))); simpa using this))
 have HSf : Hid (((((W1.alloc (.cells #[.func (.yield l) #[] #[]] 75)).alloc (.cells #[.int .u32 (nX : Int), .int .u32 (nY : Int), .int .i64 (nL : Int), .slice nro nrn nrc, .slice nko nkn nkc] 45)).alloc (.cells #[.func (.func ef) #[] eb] 74)).alloc (.cells #[.slice (some ⟨W1.heap.size + 1, 0, none⟩) 1 1] 43)).heap.size = W1.heap.size + 4) := by refine (?_ : ((((W1.alloc (.cells #[.func (.yield l) #[] #[]] 75)).alloc (.cells #[.int .u32 (nX : Int), .int .u32 (nY : Int), .int .i64 (nL : Int), .slice nro nrn nrc, .slice nko nkn nkc] 45)).alloc (.cells #[.func (.func ef) #[] eb] 74)).alloc (.cells #[.slice (some ⟨W1.heap.size + 1, 0, none⟩) 1 1] 43)).heap.size = W1.heap.size + 4); simp
 have HNf : Hid (NodesAt ((((W1.alloc (.cells #[.func (.yield l) #[] #[]] 75)).alloc (.cells #[.int .u32 (nX : Int), .int .u32 (nY : Int), .int .i64 (nL : Int), .slice nro nrn nrc, .slice nko nkn nkc] 45)).alloc (.cells #[.func (.func ef) #[] eb] 74)).alloc (.cells #[.slice (some ⟨W1.heap.size + 1, 0, none⟩) 1 1] 43)) (some ⟨W1.heap.size + 1, 0, none⟩) 1 [⟨nX, nY, nL, nro, nrn, nrc, nko, nkn, nkc⟩]) := by
  have h := one_node (n := ⟨nX, nY, nL, nro, nrn, nrc, nko, nkn, nkc⟩) ((y3.block _ (by omega)).trans gS0)
  have e : [(⟨nX, nY, nL, nro, nrn, nrc, nko, nkn, nkc⟩ : Nv)].flatMap nc = nc ⟨nX, nY, nL, nro, nrn, nrc, nko, nkn, nkc⟩ := by simp
  unfold NodesAt
  rw [e]; exact h
 have HY1 : Hid _ := y1
 have HY2 : Hid _ := y2
 clear y1 y2 y3 gS0 hb01 hb12 hsS HJ0 HR0
 obtain ⟨b4, hb4⟩ : ∃ b4, W1.heap.size = b4 := ⟨_, rfl⟩
 obtain ⟨gS, hgS⟩ : ∃ gS, b4 + 1 = gS := ⟨_, rfl⟩
 obtain ⟨gE, hgE⟩ : ∃ gE, b4 + 2 = gE := ⟨_, rfl⟩
 obtain ⟨gL, hgL⟩ : ∃ gL, gE + 1 = gL := ⟨_, rfl⟩
 obtain ⟨Wf, hWf⟩ : ∃ Wf, ((((W1.alloc (.cells #[.func (.yield l) #[] #[]] 75)).alloc (.cells #[.int .u32 (nX : Int), .int .u32 (nY : Int), .int .i64 (nL : Int), .slice nro nrn nrc, .slice nko nkn nkc] 45)).alloc (.cells #[.func (.func ef) #[] eb] 74)).alloc (.cells #[.slice (some ⟨W1.heap.size + 1, 0, none⟩) 1 1] 43)) = Wf := ⟨_, rfl⟩
 have HGs : Hid (W1.heap.size = b4 ∧ gS = b4 + 1 ∧ gE = b4 + 2 ∧ gL = b4 + 3 ∧ Wf.heap.size = b4 + 4) := ⟨hb4, hgS.symm, hgE.symm, by omega, by rw [← hWf, ← hb4]; exact HSf.out⟩
 rw [hWf] at HB1f HJf HRf HNf HY1 HY2 ⊢
 rw [hb4] at HJf HNf HY1 HY2 ⊢
 rw [hgS] at HNf HY2 ⊢
 rw [hgE] at HY1 HY2 ⊢
 rw [hgL] at HY2 ⊢
 clear hb4 hgS hgE hgL hWf HSf
 gi_wp2
 refine range_law9 (by omega) (gf := 87) (lb := #[.pointer (some ⟨gL, 0, none⟩), .pointer (some ⟨gE, 0, none⟩)]) rfl (enters_of Try.func87 (by kernel_rfl) rfl) (α := Nv) vs.length (fun n => #[nv n]) (fun _ => rfl) (fun k n => ∃ d'', NodeAt (fun _ => True) d'' w0 n (vat vs k))
  (fun own t W => QJ2 w0 W1 b4 l own W ∧ R own (rpos kp vs t) W) (fun own W => QJ2 w0 W1 b4 l own W ∧ Rx own W) .ret ?hJ ?hJx own ?hown0 ?h0
  (fun n a' Wx => ∃ q, Wf.heap.size + 2 ≤ q ∧ Wx.heap[q]? = some (.cells #[.int .u32 (n.X : Int), .int .u32 (n.Y : Int), .int .i64 (n.L : Int), .slice n.ro n.rn n.rc, .slice n.ko n.kn n.kc] 45 (0, 0)) ∧ a' = { tmps := #[.func (.yield l) #[] #[], .pointer (some ⟨bE, 0, none⟩), .pointer (some ⟨bN, 0, none⟩), .pointer (some ⟨bK, 0, none⟩), .pointer (some ⟨b4, 0, none⟩), .pointer (some ⟨q, 0, none⟩), undef, undef, .func (.func ef) #[] eb, nv ⟨nX, nY, nL, nro, nrn, nrc, nko, nkn, nkc⟩, .slice (some ⟨gS, 0, none⟩) 1 1, .func (.func 87) #[] #[.pointer (some ⟨gL, 0, none⟩), .pointer (some ⟨gE, 0, none⟩)], nv n, undef, undef, undef, undef, undef, undef, undef, undef, undef, undef, undef, undef, undef, undef, undef, undef, undef], defers := [] }) ?hA ?assign ?body ?iter ?done ?stop
 case hJ =>
  rintro own k A B ⟨h1, h2⟩ hk
  have hg := HGs.out
  have h3 := HB1f.out.size
  exact ⟨h1.kw hk (by omega) (by omega), HRs.out _ _ _ _ h2 (hk.less (by omega) fun j hj => .inl hj)⟩
 case hJx =>
  rintro own A B ⟨h1, h2⟩ hk
  have hg := HGs.out
  have h3 := HB1f.out.size
  exact ⟨h1.kw hk (by omega) (by omega), HRxs.out _ _ _ h2 (hk.less (by omega) fun j hj => .inl hj)⟩
 case hown0 =>
  intro j hj
  have := (HOw.out j hj).2
  have := HB1f.out.size
  omega
 case h0 =>
  refine ⟨HJf.out, ?_⟩
  have : rpos kp vs 0 = 0 := by simp [rpos, seqs]
  rw [this]; exact HRf.out
 case hA =>
  rintro n a' W l' o' ⟨q, hq1, hq2, rfl⟩ h1 h2
  exact ⟨q, hq1, (World.putObj_heap_other (by omega)).trans hq2, rfl⟩
 case assign =>
  intro l' own k n W' K hk hok hJk hsz hK
  obtain ⟨mX, mY, mL, mro, mrn, mrc, mko, mkn, mkc⟩ := n
  clear hok hJk
  gi_wp2
  exact hK _ _ (below_new W' _) ⟨W'.heap.size, by omega, heap_alloc_new W' _, rfl⟩
 case iter =>
  intro l' W5 hl' hB5 hs5 R' Rx' ow how hR' hRx' hY' h0'
  have hg := HGs.out
  have h := nodes1_any w0 p ef eb HEn.out d [⟨nX, nY, nL, nro, nrn, nrc, nko, nkn, nkc⟩] [l0] rfl (fun i h1 h2 => ?_) (fun m hm => ?_) (by simp) W5 gL gE (some ⟨gS, 0, none⟩) 1 (HJf.out.bel.trans (hB5.mono HJf.out.bel.size)) ?_ ?_ (Sl.below HNf.out hB5 (Nat.le_refl _)) l' R' Rx' ow (fun j hj => ?_) hR' hRx'
  ·rw [HVS.out] at h
   exact h (fun own k n W hk hok hRk hsz _ => hY' own k n W hk hok hRk fun j hj => (hsz j hj).2) h0'
  ·have : i = 0 := by simpa using h1
   subst this
   exact HN.out
  ·have : m = l0 := by simpa using hm
   subst this
   exact HOn.out
  ·exact (hB5.block _ (by omega)).trans HY2.out
  ·exact (hB5.block _ (by omega)).trans HY1.out
  ·have h3 := HB1f.out.size
   rcases (how j).1 hj with a | rfl
   ·have := HOw.out j a
    exact ⟨this.1, by omega, by omega, by omega, fun _ off' e => by cases e; omega⟩
   ·exact ⟨by omega, by omega, by omega, by omega, fun _ off' e => by cases e; omega⟩
 case done =>
  rintro D own W' hDe hno ⟨hJk, hRk⟩ hdf
  have HRe : Hid (R own (seqs kp vs).length W') := by rw [← rpos_all kp vs vs.length (Nat.le_refl _)]; exact hRk
  have HJe : Hid _ := hJk
  have HDf : Hid _ := hdf
  have hg := HGs.out
  have HDs : Hid (W1.heap.size ≤ D ∧ ¬ own D) := ⟨by omega, hno⟩
  clear hJk hRk hdf hg
  gi_wp2
  exact leaves_marks (fun W => results_none rfl _ _ _) [D] W' (by simp) (fun E hE => by simp at hE; subst hE; exact HDf.out) fun W'' hb => ⟨⟨_, rfl⟩, own, .inl (HRs.out _ _ _ _ HRe.out (left_one hb HDs.out.1 HDs.out.2))⟩
 case stop =>
  rintro D own W' hDe hno ⟨hJk, hRk⟩ hdf
  have HRe : Hid (Rx own W') := hRk
  have HDf : Hid _ := hdf
  have hg := HGs.out
  have HDs : Hid (W1.heap.size ≤ D ∧ ¬ own D) := ⟨by omega, hno⟩
  clear hJk hRk hdf hg
  gi_wp2
  exact leaves_marks (fun W => results_none rfl _ _ _) [D] W' (by simp) (fun E hE => by simp at hE; subst hE; exact HDf.out) fun W'' hb => ⟨⟨_, rfl⟩, own, .inr (HRxs.out _ _ _ HRe.out (left_one hb HDs.out.1 HDs.out.2))⟩
 case body =>
  rintro l' own k n a' W' hk hok ⟨hJk, hRk⟩ ⟨q, hq1, hq2, rfl⟩ hsz hol
  obtain ⟨mX, mY, mL, mro, mrn, mrc, mko, mkn, mkc⟩ := n
  obtain ⟨d2, hd2⟩ := hok
  obtain ⟨lr, e1, e2, e3⟩ : ∃ lr : List Rw, lr = rowsOf (vat vs k) ∧ mrn = lr.length ∧ RowsAt w0 mro mrc lr := by
   cases d2 with
   | zero => exact hd2.elim
   | succ d2 =>
    obtain ⟨_, _, _, h4, h5⟩ := hd2
    refine ⟨_, rfl, ?_⟩
    unfold rowsOf
    cases hlf : leaf (vat vs k)
    ·obtain ⟨a, b, _⟩ := h5 hlf
     exact ⟨a, b⟩
    ·obtain ⟨a, b, _⟩ := h4 hlf
     exact ⟨a, b⟩
  have hmem : vat vs k ∈ vs := by rw [vat_get hk]; exact List.getElem_mem hk
  have hlr : ∀ r ∈ lr, r.x < 2147483648 ∧ r.y < 2147483648 := fun r hr => by
   rw [e1] at hr
   unfold rowsOf at hr
   split at hr
   ·exact (HVs.out _ hmem).1 r hr
   ·simp at hr
  have hl1000 : lr.length ≤ 1000 := by
   rw [e1]; unfold rowsOf; split
   ·exact (HVs.out _ hmem).2
   ·simp
  have HLr : Hid (lr = rowsOf (vat vs k)) := e1
  have HLO : Hid (∀ r ∈ lr, r.x < 2147483648 ∧ r.y < 2147483648) := hlr
  have HRA : Hid (RowsAt w0 mro mrc lr) := e3
  have HK : Hid (k < vs.length) := hk
  have HQ2 : Hid (W'.heap[q]? = some (.cells #[.int .u32 (mX : Int), .int .u32 (mY : Int), .int .i64 (mL : Int), .slice mro mrn mrc, .slice mko mkn mkc] 45 (0, 0))) := hq2
  have HJk : Hid (QJ2 w0 W1 b4 l own W') := hJk
  have HRk : Hid (R own (rpos kp vs k) W') := hRk
  have HOl : Hid (∀ j, own j → j < W'.heap.size) := hol
  subst e2
  obtain ⟨z0, z1, z2, z3, z4, t0, t1, t2, t3, t4⟩ := node_facts hq2
  clear z0 z1 z2 z3 z4 e1 e3 hd2 hmem hlr hk hJk hRk hq2 hol
  gi_wp2
  refine wpIn_loop (fun a W2 => ∃ (r : Nat) (own2 : Nat → Prop) (u6 u7 u17 u18 u19 u20 u21 u22 u23 u24 u25 u26 u27 u28 u29 : Value), r ≤ lr.length ∧ a = { tmps := #[.func (.yield l) #[] #[], .pointer (some ⟨bE, 0, none⟩), .pointer (some ⟨bN, 0, none⟩), .pointer (some ⟨bK, 0, none⟩), .pointer (some ⟨b4, 0, none⟩), .pointer (some ⟨q, 0, none⟩), u6, u7, .func (.func ef) #[] eb, nv ⟨nX, nY, nL, nro, nrn, nrc, nko, nkn, nkc⟩, .slice (some ⟨gS, 0, none⟩) 1 1, .func (.func 87) #[] #[.pointer (some ⟨gL, 0, none⟩), .pointer (some ⟨gE, 0, none⟩)], nv ⟨mX, mY, mL, mro, lr.length, mrc, mko, mkn, mkc⟩, .pointer (some ⟨q, 3, none⟩), .slice mro lr.length mrc, .int .i64 (lr.length : Int), .int .i64 (r : Int), u17, u18, u19, u20, u21, u22, u23, u24, u25, u26, u27, u28, u29], defers := [] } ∧ QJ2 w0 W1 b4 l own2 W2 ∧ R own2 (rpos kp vs k + ((lr.take r).filter kp).length) W2 ∧ (∀ j, own2 j → own j ∨ (W'.heap.size ≤ j ∧ j < W2.heap.size)) ∧ But own W' W2) (fun a _ => lr.length - natOf (a.tmps.getD 16 undef)) ?_ ?_
  ·exact ⟨0, own, undef, undef, undef, undef, undef, undef, undef, undef, undef, undef, undef, undef, undef, undef, undef, Nat.zero_le _, rfl, HJk.out, by simpa using HRk.out, fun j hj => .inl hj, But.refl _ _⟩
  rintro a W2 ⟨r, own2, u6, u7, u17, u18, u19, u20, u21, u22, u23, u24, u25, u26, u27, u28, u29, hr, rfl, hJ2, hR2, ho2, hb2⟩
  have HJ2 : Hid (QJ2 w0 W1 b4 l own2 W2) := hJ2
  have HR2 : Hid (R own2 (rpos kp vs k + ((lr.take r).filter kp).length) W2) := hR2
  have HO2 : Hid (∀ j, own2 j → own j ∨ (W'.heap.size ≤ j ∧ j < W2.heap.size)) := ho2
  have HB2 : Hid (But own W' W2) := hb2
  clear t0 t1 t2 t3 t4
  by_cases hlt : r < lr.length
  ·obtain ⟨b, off, rfl, hbl, hc⟩ := (HRA.out.below hJ2.bel (Nat.le_refl _)).row hlt
   obtain ⟨c0, c1, c2, c3⟩ := hc r hlt
   have onr := HLO.out _ (rat_mem hlt)
   have HFA : Hid _ := filter_at kp lr r hlt
   have HCall : Hid _ := fun W hW => HKp.out.calls W hW (rat lr r) onr.1 onr.2
   have heg := HKp.out.eg
   have cK : W2.cell? ⟨bK, 0, none⟩ = some (.func (.func kf) #[] kb) := by rw [cell_of_row _ _ _ _ _ _ ((hJ2.bel.block _ HBK.out.2).trans HBK.out.1)]; rfl
   have hbK2 : bK < W2.heap.size := Nat.lt_of_lt_of_le HBK.out.2 hJ2.bel.size
   have hrr := rat_rpos kp vs k ((lr.take r).filter kp).length HK.out
   rw [← HLr.out] at hrr
   have HRR : Hid _ := hrr
   generalize hrl : rat lr r = rr at *
   obtain ⟨id, x, y, v⟩ := rr
   simp only at c0 c1 c2 c3
   have q1 : (r : Int) < (lr.length : Int) := by omega
   have k0 : (0 : Int) ≤ (r : Int) := by omega
   clear hc onr hJ2 hR2 ho2 hb2 hrr hrl
   gi_wp2
   have hb7 := below_new W2 (.cells #[.int .u64 (id : Int), .int .u32 (x : Int), .int .u32 (y : Int), .string v] 54)
   have HJa : Hid (QJ2 w0 W1 b4 l own2 (W2.alloc (.cells #[.int .u64 (id : Int), .int .u32 (x : Int), .int .u32 (y : Int), .string v] 54))) := HJ2.out.grow hb7
   refine ⟨trivial, callsIn_wide.2 ((HCall.out _ HJa.out.bel).mono ?_)⟩
   rintro e W3 ⟨rfl, b3⟩
   have HJ3 : Hid (QJ2 w0 W1 b4 l own2 W3) := HJa.out.grow b3
   have HR3 : Hid (R own2 (rpos kp vs k + ((lr.take r).filter kp).length) W3) := HRs.out _ _ _ _ (HRs.out _ _ _ _ HR2.out (Kw.of_below hb7)) (Kw.of_below b3)
   have hs3 : W2.heap.size ≤ W3.heap.size := Nat.le_trans hb7.size b3.size
   have HO3 : Hid (∀ j, own2 j → own j ∨ (W'.heap.size ≤ j ∧ j < W3.heap.size)) := fun j hj => by
    rcases HO2.out j hj with a | a
    ·exact .inl a
    ·exact .inr ⟨a.1, by omega⟩
   have HB3 : Hid (But own W' W3) := HB2.out.trans ((But.of_below hb7).trans (But.of_below b3))
   have HG7 : Hid (W3.heap[W2.heap.size]? = some (.cells #[.int .u64 (id : Int), .int .u32 (x : Int), .int .u32 (y : Int), .string v] 54 (0, 0))) := (b3.block _ (by simp)).trans (heap_alloc_new W2 _)
   clear b3 hb7 HCall HJa c0 c1 c2 c3 cK
   have I1 : Hid ((r : Int) + 1 ≤ 9223372036854775807) := by refine (?_ : (r : Int) + 1 ≤ 9223372036854775807); omega
   have HLT : Hid (r < lr.length) := hlt
   clear q1 k0
   cases hkp : kp ⟨id, x, y, v⟩
   ·have HN3 : Hid (((lr.take (r + 1)).filter kp).length = ((lr.take r).filter kp).length) := by
     have := HFA.out.1
     rw [if_neg (by rw [hkp]; simp)] at this
     exact this
    clear hkp
    obtain ⟨zr, hzr⟩ : ∃ zr : Int, (r : Int) = zr := ⟨_, rfl⟩
    have HZR : Hid ((r : Int) = zr) := hzr
    rw [hzr]
    clear hzr hlt hr hq1 hsz hs3 hl1000 hmax hbl hbK2 lE lN lK lE1 lN1 h1s
    simp only []
    iterate 6 (first | go_values | gi_guarded | gi_step | gi_upon)
    refine ⟨fun _ _ => trivial, ?_⟩
    gi_wp2
    rw [wstep HZR.out I1.out]
    refine ⟨⟨r + 1, own2, _, _, _, _, _, _, _, _, _, _, _, _, _, _, _, HLT.out, rfl, HJ3.out, by rw [HN3.out]; exact HR3.out, HO3.out, HB3.out⟩, ?_⟩
    have hlt := HLT.out
    simp [natOf]
    omega
   ·obtain ⟨f1, f2⟩ := HFA.out
    rw [if_pos hkp] at f1
    obtain ⟨f3, f4⟩ := f2 hkp
    have HN3 : Hid (((lr.take (r + 1)).filter kp).length = ((lr.take r).filter kp).length + 1) := f1
    obtain ⟨g1, g2⟩ := HRR.out f4
    rw [f3] at g1
    have hy0 := yield_wide (m := 2) <| HY.out own2 (rpos kp vs k + ((lr.take r).filter kp).length) W3 g2 HR3.out (fun j hj => ⟨(HJ3.out.out j hj).1, (HJ3.out.out j hj).2.1⟩) HJ3.out.bel
    rw [g1] at hy0
    obtain ⟨fn, tmps, assign, body, hy, hRd⟩ := hy0
    simp only [rv] at hy
    have c4 : W3.cell? ⟨b4, 0, none⟩ = some (.func (.yield l) #[] #[]) := by rw [cell_of_row _ _ _ _ _ _ HJ3.out.yld]; rfl
    obtain ⟨s0, s1, s2, s3⟩ := four_facts HG7.out
    have hbw : W2.heap.size < W3.heap.size := (Array.getElem?_eq_some_iff.1 HG7.out).1
    clear hkp f1 f2 f3 f4 g1 g2 hq1 hsz hs3 hbw
    gi_wp2
    refine RoundIn.mono (R := YPost R Rx own2 (rpos kp vs k + ((lr.take r).filter kp).length + 1) W3) hRd ?_
    rintro e W6 ⟨own6, ho6, hb6, (⟨rfl, hR6⟩ | ⟨rfl, hx6⟩)⟩
    ·have HJ6 : Hid _ := HJ3.out.next hb6 ho6
     have HO6 : Hid (∀ j, own6 j → own j ∨ (W'.heap.size ≤ j ∧ j < W6.heap.size)) := own_step HO3.out ho6 hb6.size HB3.out.size
     have HB6 : Hid (But own W' W6) := but_step HB3.out hb6 HO3.out
     have HR6 : Hid _ := hR6
     clear s0 s1 s2 s3 c4 hy hRd ho6 hb6 hR6
     obtain ⟨zr, hzr⟩ : ∃ zr : Int, (r : Int) = zr := ⟨_, rfl⟩
     have HZR : Hid ((r : Int) = zr) := hzr
     rw [hzr]
     clear hzr hlt hr
     gi_wp2
     rw [wstep HZR.out I1.out]
     refine ⟨⟨r + 1, own6, _, _, _, _, _, _, _, _, _, _, _, _, _, _, _, HLT.out, rfl, HJ6.out, by rw [HN3.out]; exact HR6.out, HO6.out, HB6.out⟩, ?_⟩
     have hlt := HLT.out
     simp [natOf]
     omega
    ·have HJ6 : Hid _ := HJ3.out.next hb6 ho6
     have HO6 : Hid (∀ j, own6 j → own j ∨ (W'.heap.size ≤ j ∧ j < W6.heap.size)) := own_step HO3.out ho6 hb6.size HB3.out.size
     have HB6 : Hid (But own W' W6) := but_step HB3.out hb6 HO3.out
     clear s0 s1 s2 s3 c4 hy hRd ho6 hb6
     gi_wp2
     exact ⟨rfl, own6, HO6.out, HB6.out, HJ6.out, hx6⟩
  ·obtain rfl : r = lr.length := by omega
   have q1 : ¬ (lr.length : Int) < (lr.length : Int) := by omega
   have HRe : Hid (R own2 (rpos kp vs (k + 1)) W2) := by
    have h := HR2.out
    rw [List.take_length, HLr.out, ← rpos_next kp vs k HK.out] at h
    exact h
   clear hJ2 hR2 ho2 hb2
   gi_wp2
   exact ⟨own2, HO2.out, HB2.out, HJ2.out, HRe.out⟩
end Go.Proofs.Ytimdlohdmddnjaa.Rq
/- The rows of a tree under two tests: the closure; the tests. -/
namespace Go.Proofs.Ytimdlohdmddnjaa.Rq
open Go.RowKit Go.Lib Go.Shelf
open Go.Proofs.Ytimdlohdmddnjaa.Rc
set_option maxRecDepth 100000 in
theorem rows_any (n : Nv) (ef : Nat) (eb : Array Value) (kf : Nat) (kb : Array Value) (w : World) :
  Calls Try.prog 35 #[nv n, .func (.func ef) #[] eb, .func (.func kf) #[] kb] w fun e w' => e = .returned (.func (.func 67) #[] #[.pointer (some ⟨w.heap.size + 1, 0, none⟩), .pointer (some ⟨w.heap.size, 0, none⟩), .pointer (some ⟨w.heap.size + 2, 0, none⟩)]) ∧ w' = ((w.alloc (.cells #[.int .u32 (n.X : Int), .int .u32 (n.Y : Int), .int .i64 (n.L : Int), .slice n.ro n.rn n.rc, .slice n.ko n.kn n.kc] 45)).alloc (.cells #[.func (.func ef) #[] eb] 74)).alloc (.cells #[.func (.func kf) #[] kb] 75) := by
 obtain ⟨nX, nY, nL, nro, nrn, nrc, nko, nkn, nkc⟩ := n
 simp only [nv]
 go_enter Try.func35, Try.ntmps35
 go_wp2_with fail
 go_ret
 exact ⟨rfl, rfl⟩
set_option maxRecDepth 100000 in
theorem ent_all (w0 : World) : Ent w0 (fun _ _ _ => true) 36 #[] := by
 refine ⟨fun _ _ => rfl, fun W _ X Y L hX hY => ?_⟩
 simp only [cv, Array.append_empty]
 go_enter Try.func36, Try.ntmps36
 go_wp2_with fail
 go_ret
 exact ⟨rfl, below_new W _⟩
set_option maxRecDepth 100000 in
theorem kep_all (w0 : World) : Kep w0 (fun _ => true) 37 #[] := by
 refine ⟨fun _ _ => rfl, fun W _ r hx hy => ?_⟩
 obtain ⟨id, x, y, v⟩ := r
 simp only [rv, Array.append_empty]
 go_enter Try.func37, Try.ntmps37
 go_wp2_with fail
 go_ret
 exact ⟨rfl, below_new W _⟩
set_option maxRecDepth 100000 in
theorem ent_right (w0 : World) : Ent w0 (fun X Y L => rightS X Y (L : Int)) 74 #[] := by
 refine ⟨fun _ _ => rfl, fun W _ X Y L hX hY => ?_⟩
 exact right_any X Y (L : Int) hX hY W
set_option maxRecDepth 100000 in
theorem box_cells {w : World} {g a b c d : Nat} {t : TypeId} {fr : Nat × Nat} (h : w.heap[g]? = some (.cells #[.int .u32 (a : Int), .int .u32 (b : Int), .int .u32 (c : Int), .int .u32 (d : Int)] t fr)) : w.cell? ⟨g, 0, none⟩ = some (.int .u32 (a : Int)) ∧ w.cell? ⟨g, 1, none⟩ = some (.int .u32 (b : Int)) ∧ w.cell? ⟨g, 2, none⟩ = some (.int .u32 (c : Int)) ∧ w.cell? ⟨g, 3, none⟩ = some (.int .u32 (d : Int)) :=
 ⟨by rw [cell_of_row _ _ _ _ _ _ h]; rfl, by rw [cell_of_row _ _ _ _ _ _ h]; rfl, by rw [cell_of_row _ _ _ _ _ _ h]; rfl, by rw [cell_of_row _ _ _ _ _ _ h]; rfl⟩
set_option maxRecDepth 100000 in
theorem ent_boxW (w0 : World) (g a b c d : Nat) (hg : w0.heap[g]? = some (.cells #[.int .u32 (a : Int), .int .u32 (b : Int), .int .u32 (c : Int), .int .u32 (d : Int)] 24 (0, 0))) : Ent w0 (fun X Y L => touchS X Y (L : Int) a b c d) 70 #[.pointer (some ⟨g, 0, none⟩)] := by
 refine ⟨fun _ _ => rfl, fun W hW X Y L hX hY => ?_⟩
 have HC : Hid _ := touches_any X Y (L : Int) a b c d hX hY
 have lg := (Array.getElem?_eq_some_iff.1 hg).1
 have lgW : g < W.heap.size := Nat.lt_of_lt_of_le lg hW.size
 obtain ⟨c0, c1, c2, c3⟩ := box_cells ((hW.block g lg).trans hg)
 clear hW hg lg hX hY
 simp only [cv, bv, List.append_toArray, List.cons_append, List.nil_append] at HC ⊢
 go_enter Try.func70, Try.ntmps70
 go_wp2_with fail
 refine (HC.out _).mono ?_
 rintro e w1 ⟨rfl, b1⟩
 have HB : Hid (Below W.heap.size W w1) := (below_new W _).trans (b1.mono (by simp))
 clear b1
 go_wp2_with fail
 go_ret
 exact ⟨rfl, HB.out⟩
set_option maxRecDepth 100000 in
theorem kep_boxW (w0 : World) (g a b c d : Nat) (hg : w0.heap[g]? = some (.cells #[.int .u32 (a : Int), .int .u32 (b : Int), .int .u32 (c : Int), .int .u32 (d : Int)] 24 (0, 0))) : Kep w0 (fun r => inS a b c d r.x r.y) 72 #[.pointer (some ⟨g, 0, none⟩)] := by
 refine ⟨fun _ _ => rfl, fun W hW r hx hy => ?_⟩
 obtain ⟨id, x, y, v⟩ := r
 have HC : Hid _ := in_any a b c d x y
 have lg := (Array.getElem?_eq_some_iff.1 hg).1
 have lgW : g < W.heap.size := Nat.lt_of_lt_of_le lg hW.size
 obtain ⟨c0, c1, c2, c3⟩ := box_cells ((hW.block g lg).trans hg)
 clear hW hg lg hx hy
 simp only [rv, bv, List.append_toArray, List.cons_append, List.nil_append] at HC ⊢
 go_enter Try.func72, Try.ntmps72
 go_wp2_with fail
 refine (HC.out _).mono ?_
 rintro e w1 ⟨rfl, b1⟩
 have HB : Hid (Below W.heap.size W w1) := (below_new W _).trans (b1.mono (by simp))
 clear b1
 go_wp2_with fail
 go_ret
 exact ⟨rfl, HB.out⟩
set_option maxRecDepth 100000 in
theorem below_drewN {B : Nat} {a w : World} (h : Below B a w) (n : Nat) : Below B a (w.drewN n) := h.trans ⟨rfl, rfl, rfl, Nat.le_refl _, fun _ _ => rfl⟩
def dist (a b x y : Nat) : Nat := ((a : Int) - (x : Int)).natAbs * ((a : Int) - (x : Int)).natAbs + ((b : Int) - (y : Int)).natAbs * ((b : Int) - (y : Int)).natAbs
set_option maxRecDepth 100000 in
theorem sq_lt (a x : Nat) (ha : a < 2147483648) (hx : x < 2147483648) : ((a : Int) - (x : Int)).natAbs * ((a : Int) - (x : Int)).natAbs < 4611686018427387904 := by
 have h : ((a : Int) - (x : Int)).natAbs ≤ 2147483647 := by omega
 calc _ ≤ 2147483647 * 2147483647 := Nat.mul_le_mul h h
  _ < _ := by decide
theorem sq_int (d : Int) : ((d.natAbs * d.natAbs : Nat) : Int) = d * d := by
 rw [Int.natCast_mul]; exact Int.natAbs_mul_self' d
theorem far_wraps (a b x y : Nat) (ha : a < 2147483648) (hb : b < 2147483648) (hx : x < 2147483648) (hy : y < 2147483648) : IntKind.u64.wrap (wrap64 (wrap64 (((a : Int) - (x : Int)) * ((a : Int) - (x : Int))) + wrap64 (((b : Int) - (y : Int)) * ((b : Int) - (y : Int))))) = ((dist a b x y : Nat) : Int) := by
 have h1 := sq_lt a x ha hx
 have h2 := sq_lt b y hb hy
 rw [← sq_int, ← sq_int]
 unfold dist
 generalize ((a : Int) - (x : Int)).natAbs * ((a : Int) - (x : Int)).natAbs = s at *
 generalize ((b : Int) - (y : Int)).natAbs * ((b : Int) - (y : Int)).natAbs = t at *
 rw [IntWalk.wrap64_in (s : Int) ⟨by omega, by omega⟩, IntWalk.wrap64_in (t : Int) ⟨by omega, by omega⟩, IntWalk.wrap64_in _ ⟨by omega, by omega⟩, IntWalk.u64_in _ ⟨by omega, by omega⟩]
 omega
set_option maxRecDepth 100000 in
set_option maxHeartbeats 1000000 in
theorem qfar_any (id a b : Nat) (v : ByteArray) (x y : Nat) (ha : a < 2147483648) (hb : b < 2147483648) (hx : x < 2147483648) (hy : y < 2147483648) (w : World) :
  Calls Try.prog 43 #[rv ⟨id, a, b, v⟩, .int .u32 (x : Int), .int .u32 (y : Int)] w fun e w' => e = .returned (.int .u64 ((dist a b x y : Nat) : Int)) ∧ Below w.heap.size w w' := by
 simp only [rv]
 go_enter Try.func43, Try.ntmps43
 go_wp2_with fail
 go_quiet (fail)
 go_wp2_with fail
 go_ret
 refine ⟨?_, below_drewN (below_new w _) _⟩
 rw [← far_wraps a b x y ha hb hx hy]
 rfl
structure Rnd (w : World) (g1 g2 g3 x y s : Nat) : Prop where
 x : w.heap[g1]? = some (.cells #[.int .u32 (x : Int)] 22 (0, 0))
 y : w.heap[g2]? = some (.cells #[.int .u32 (y : Int)] 22 (0, 0))
 s : w.heap[g3]? = some (.cells #[.int .u64 (s : Int)] 25 (0, 0))
set_option maxRecDepth 100000 in
theorem Rnd.grow {w W : World} {B g1 g2 g3 x y s : Nat} (h : Rnd w g1 g2 g3 x y s) (hW : Below B w W) (hB : w.heap.size ≤ B) : Rnd W g1 g2 g3 x y s :=
 ⟨(hW.block _ (Nat.lt_of_lt_of_le (Array.getElem?_eq_some_iff.1 h.x).1 hB)).trans h.x, (hW.block _ (Nat.lt_of_lt_of_le (Array.getElem?_eq_some_iff.1 h.y).1 hB)).trans h.y, (hW.block _ (Nat.lt_of_lt_of_le (Array.getElem?_eq_some_iff.1 h.s).1 hB)).trans h.s⟩
set_option maxRecDepth 100000 in
theorem Rnd.facts {w : World} {g1 g2 g3 x y s : Nat} (h : Rnd w g1 g2 g3 x y s) : (w.cell? ⟨g1, 0, none⟩ = some (.int .u32 (x : Int)) ∧ w.cell? ⟨g2, 0, none⟩ = some (.int .u32 (y : Int)) ∧ w.cell? ⟨g3, 0, none⟩ = some (.int .u64 (s : Int))) ∧ g1 < w.heap.size ∧ g2 < w.heap.size ∧ g3 < w.heap.size :=
 ⟨⟨by rw [cell_of_row _ _ _ _ _ _ h.x]; rfl, by rw [cell_of_row _ _ _ _ _ _ h.y]; rfl, by rw [cell_of_row _ _ _ _ _ _ h.s]; rfl⟩, (Array.getElem?_eq_some_iff.1 h.x).1, (Array.getElem?_eq_some_iff.1 h.y).1, (Array.getElem?_eq_some_iff.1 h.s).1⟩
set_option maxRecDepth 100000 in
set_option maxHeartbeats 1000000 in
theorem ent_round (w0 : World) (g1 g2 g3 x y s : Nat) (hg : Rnd w0 g1 g2 g3 x y s) : Ent w0 (fun X Y L => decide ((fars X Y (L : Int) x y).2 = 0 ∧ (fars X Y (L : Int) x y).1 ≤ s)) 40 #[.pointer (some ⟨g1, 0, none⟩), .pointer (some ⟨g2, 0, none⟩), .pointer (some ⟨g3, 0, none⟩)] := by
 refine ⟨fun _ _ => rfl, fun W hW X Y L hX hY => ?_⟩
 have HC : Hid _ := far_any X Y (L : Int) x y hX hY
 have hgW := hg.grow hW (Nat.le_refl _)
 have HG : Hid (Rnd W g1 g2 g3 x y s) := hgW
 obtain ⟨⟨c0, c1, c2⟩, l1, l2, l3⟩ := hgW.facts
 have he : (fars X Y (L : Int) x y).2 = 0 ∨ (fars X Y (L : Int) x y).2 = 2 := by unfold fars; split <;> simp
 clear hgW hg hW hX hY
 simp only [fv] at HC
 generalize fars X Y (L : Int) x y = fr at *
 obtain ⟨fa, fe⟩ := fr
 simp only at HC he ⊢
 simp only [cv, List.append_toArray, List.cons_append, List.nil_append] at HC ⊢
 go_enter Try.func40, Try.ntmps40
 go_wp2_with fail
 refine (HC.out _).mono ?_
 rintro e w1 ⟨rfl, b1⟩
 have hbn := below_new W (.cells #[.int .u32 (X : Int), .int .u32 (Y : Int), .int .i64 (L : Int)] 42)
 have hb : Below W.heap.size W w1 := hbn.trans (b1.mono (by simp))
 have HB : Hid (Below W.heap.size W w1) := hb
 obtain ⟨⟨d0, d1, d2⟩, m1, m2, m3⟩ := (HG.out.grow hb (Nat.le_refl _)).facts
 clear b1 hb hbn c0 c1 c2 l1 l2 l3
 rcases he with rfl | rfl
 ·go_wp2_with fail
  go_ret
  refine ⟨?_, HB.out⟩
  first | rfl | simp
 ·go_wp2_with fail
  go_ret
  refine ⟨?_, HB.out⟩
  simp
def KS (g g1 g2 g3 : Nat) (r : Rw) (x y s : Nat) (w : World) : Prop := F4 g r w ∧ w.cell? ⟨g1, 0, none⟩ = some (.int .u32 (x : Int)) ∧ w.cell? ⟨g2, 0, none⟩ = some (.int .u32 (y : Int)) ∧ w.cell? ⟨g3, 0, none⟩ = some (.int .u64 (s : Int)) ∧ g < w.heap.size ∧ g1 < w.heap.size ∧ g2 < w.heap.size ∧ g3 < w.heap.size
set_option maxRecDepth 100000 in
theorem KS.of {g g1 g2 g3 : Nat} {r : Rw} {x y s : Nat} {w : World} {t : TypeId} {fr : Nat × Nat} (h : w.heap[g]? = some (.cells #[.int .u64 (r.id : Int), .int .u32 (r.x : Int), .int .u32 (r.y : Int), .string r.v] t fr)) (hr : Rnd w g1 g2 g3 x y s) : KS g g1 g2 g3 r x y s w :=
 ⟨F4.of h, hr.facts.1.1, hr.facts.1.2.1, hr.facts.1.2.2, (Array.getElem?_eq_some_iff.1 h).1, hr.facts.2.1, hr.facts.2.2.1, hr.facts.2.2.2⟩
set_option maxRecDepth 100000 in
set_option maxHeartbeats 1000000 in
theorem kep_round (w0 : World) (g1 g2 g3 x y s : Nat) (hg : Rnd w0 g1 g2 g3 x y s) (hx : x < 2147483648) (hy : y < 2147483648) : Kep w0 (fun r => decide (dist r.x r.y x y ≤ s)) 42 #[.pointer (some ⟨g1, 0, none⟩), .pointer (some ⟨g2, 0, none⟩), .pointer (some ⟨g3, 0, none⟩)] := by
 refine ⟨fun _ _ => rfl, fun W hW r hrx hry => ?_⟩
 obtain ⟨id, a, b, v⟩ := r
 simp only at hrx hry
 have HC : Hid _ := qfar_any id a b v x y hrx hry hx hy
 have hgW := hg.grow hW (Nat.le_refl _)
 have HG : Hid (Rnd W g1 g2 g3 x y s) := hgW
 have HB0 : Hid (Below W.heap.size W (W.alloc (.cells #[.int .u64 (id : Int), .int .u32 (a : Int), .int .u32 (b : Int), .string v] 54)).drew) := (below_new W _).drew
 have HG0 : Hid ((W.alloc (.cells #[.int .u64 (id : Int), .int .u32 (a : Int), .int .u32 (b : Int), .string v] 54)).drew.heap[W.heap.size]? = some (.cells #[.int .u64 (id : Int), .int .u32 (a : Int), .int .u32 (b : Int), .string v] 54 (0, 0))) := heap_alloc_new W _
 have HL : Hid (W.heap.size < (W.alloc (.cells #[.int .u64 (id : Int), .int .u32 (a : Int), .int .u32 (b : Int), .string v] 54)).drew.heap.size) := (Array.getElem?_eq_some_iff.1 HG0.out).1
 have HSW : Hid (KS W.heap.size g1 g2 g3 ⟨id, a, b, v⟩ x y s (W.alloc (.cells #[.int .u64 (id : Int), .int .u32 (a : Int), .int .u32 (b : Int), .string v] 54)).drew) := KS.of (r := ⟨id, a, b, v⟩) HG0.out (HG.out.grow HB0.out (Nat.le_refl _))
 clear hgW hg hW hx hy hrx hry
 generalize dist a b x y = ds at *
 simp only [rv, List.append_toArray, List.cons_append, List.nil_append] at HC ⊢
 go_enter Try.func42, Try.ntmps42
 go_wp2_with fail
 refine wp_region_held (S := KS W.heap.size g1 g2 g3 ⟨id, a, b, v⟩ x y s) (by kernel_rfl) ?_
 change wpAnyH _ _ _ _ _ _ _ _ (World.drew _)
 refine wpAnyH_take (i := 0) (v := ?_) rfl (by kernel_rfl) (by kernel_rfl) (by kernel_rfl) (fun _ _ _ h => h) (Or.inl ⟨by kernel_rfl, ?_⟩) HSW.out ?_
 rotate_left
 ·rintro w ⟨⟨e0,e1,e2,e3⟩,e4,e5,e6,n0,n1,n2,n3⟩; go_simp; try with_reducible rfl
 conv in (Act.put _ _ _) => simp only [List.getElem_toArray, List.getElem_cons_succ, List.getElem_cons_zero, Act.put, List.setIfInBounds_toArray, List.set_cons_succ, List.set_cons_zero]
 refine wpAnyH_take (i := 1) (v := ?_) rfl (by kernel_rfl) (by kernel_rfl) (by kernel_rfl) (fun _ _ _ h => h) (Or.inl ⟨by kernel_rfl, ?_⟩) HSW.out ?_
 rotate_left
 ·rintro w ⟨⟨e0,e1,e2,e3⟩,e4,e5,e6,n0,n1,n2,n3⟩; go_simp; try with_reducible rfl
 conv in (Act.put _ _ _) => simp only [List.getElem_toArray, List.getElem_cons_succ, List.getElem_cons_zero, Act.put, List.setIfInBounds_toArray, List.set_cons_succ, List.set_cons_zero]
 refine wpAnyH_take (i := 2) (v := ?_) rfl (by kernel_rfl) (by kernel_rfl) (by kernel_rfl) (fun _ _ _ h => h) (Or.inl ⟨by kernel_rfl, ?_⟩) HSW.out ?_
 rotate_left
 ·rintro w ⟨⟨e0,e1,e2,e3⟩,e4,e5,e6,n0,n1,n2,n3⟩; go_simp; try with_reducible rfl
 conv in (Act.put _ _ _) => simp only [List.getElem_toArray, List.getElem_cons_succ, List.getElem_cons_zero, Act.put, List.setIfInBounds_toArray, List.set_cons_succ, List.set_cons_zero]
 refine wpAnyH_take (i := 4) (v := ?_) rfl (by kernel_rfl) (by kernel_rfl) (by kernel_rfl) (fun _ _ _ h => h) (Or.inl ⟨by kernel_rfl, ?_⟩) HSW.out ?_
 rotate_left
 ·rintro w ⟨⟨e0,e1,e2,e3⟩,e4,e5,e6,n0,n1,n2,n3⟩; go_simp; try with_reducible rfl
 conv in (Act.put _ _ _) => simp only [List.getElem_toArray, List.getElem_cons_succ, List.getElem_cons_zero, Act.put, List.setIfInBounds_toArray, List.set_cons_succ, List.set_cons_zero]
 refine readyH 3 _ (by kernel_rfl) rfl (by kernel_rfl) (fun K hK => ?_)
 go_simp
 refine (HC.out _).mono ?_
 rintro e w1 ⟨rfl, b1⟩
 have HB1 : Hid (Below W.heap.size W w1) := HB0.out.trans (b1.mono (Nat.le_of_lt HL.out))
 replace HSW : Hid (KS W.heap.size g1 g2 g3 ⟨id, a, b, v⟩ x y s w1) := KS.of (r := ⟨id, a, b, v⟩) ((b1.block _ HL.out).trans HG0.out) (HG.out.grow HB1.out (Nat.le_refl _))
 refine hK _ _ HSW.out ?_
 clear hK K b1
 refine wpAnyH_take (i := 5) (v := ?_) rfl (by kernel_rfl) (by kernel_rfl) (by kernel_rfl) (fun _ _ _ h => h) (Or.inl ⟨by kernel_rfl, ?_⟩) HSW.out ?_
 rotate_left
 ·rintro w ⟨⟨e0,e1,e2,e3⟩,e4,e5,e6,n0,n1,n2,n3⟩; go_simp; try with_reducible rfl
 conv in (Act.put _ _ _) => simp only [List.getElem_toArray, List.getElem_cons_succ, List.getElem_cons_zero, Act.put, List.setIfInBounds_toArray, List.set_cons_succ, List.set_cons_zero]
 refine wpAnyH_take (i := 6) (v := ?_) rfl (by kernel_rfl) (by kernel_rfl) (by kernel_rfl) (fun _ _ _ h => h) (Or.inl ⟨by kernel_rfl, ?_⟩) HSW.out ?_
 rotate_left
 ·rintro w ⟨⟨e0,e1,e2,e3⟩,e4,e5,e6,n0,n1,n2,n3⟩; go_simp; try with_reducible rfl
 conv in (Act.put _ _ _) => simp only [List.getElem_toArray, List.getElem_cons_succ, List.getElem_cons_zero, Act.put, List.setIfInBounds_toArray, List.set_cons_succ, List.set_cons_zero]
 refine wpAnyH_done (by kernel_rfl) ?_ _
 go_wp2_with fail
 go_ret
 refine ⟨?_, HB1.out⟩
 first | rfl | simp
attribute [local go_sem] Oper.semAt_some
def RowsIter (w0 : World) (rs : List Rw) (gf : Nat) (lb : Array Value) : Prop :=
 ∀ (W1 : World) (_ : Below w0.heap.size w0 W1) (l : Nat) (R : (Nat → Prop) → Nat → World → Prop) (Rx : (Nat → Prop) → World → Prop) (own : Nat → Prop) (_ : ∀ j, own j → w0.heap.size ≤ j ∧ j < W1.heap.size)
  (_ : ∀ own k W W', R own k W → Kw W1.heap.size own W W' → R own k W') (_ : ∀ own W W', Rx own W → Kw W1.heap.size own W W' → Rx own W')
  (_ : ∀ own k W, k < rs.length → R own k W → (∀ j, own j → w0.heap.size ≤ j ∧ j < W.heap.size) → Below w0.heap.size w0 W → YieldAt Fence.wide 0 Try.prog l #[rv (rat rs k)] W (YPost R Rx own (k + 1) W))
  (_ : R own 0 W1), Calls Try.prog gf (#[.func (.yield l) #[] #[]] ++ lb) W1 fun e W' => (∃ v, e = .returned v) ∧ ∃ own', (R own' rs.length W' ∨ Rx own' W')
set_option maxRecDepth 100000 in
theorem rows1_eg : ∀ args w, (callFunc 67 args).run Try.prog w = .ok (.enter 67 args) w := enters_of Try.func67 (by kernel_rfl) rfl
set_option maxRecDepth 100000 in
theorem box1_set {W : World} {g : Nat} {v v' : Value} {t : TypeId} (h : W.heap[g]? = some (.cells #[v] t (0, 0))) : (W.setCell ⟨g, 0, none⟩ v').heap[g]? = some (.cells #[v'] t (0, 0)) := by
 have := heap_setCell_same W g 0 _ _ v' h
 simpa using this
set_option maxRecDepth 100000 in
theorem but_set (W : World) (g k : Nat) (v : Value) (own : Nat → Prop) (h : own g) : But own W (W.setCell ⟨g, k, none⟩ v) :=
 ⟨rfl, rfl, rfl, by simp [World.setCell], fun j _ hn => Below.heap_setCell _ _ _ _ (fun e => hn (by have e' : j = g := e; rw [e']; exact h))⟩
end Go.Proofs.Ytimdlohdmddnjaa.Rq
/- Which rows are come to, of lists. -/
namespace Go.Proofs.Ytimdlohdmddnjaa.Rq
open Go.RowKit Go.Lib Go.Shelf
open Go.Proofs.Ytimdlohdmddnjaa.Rc
def Fits : Nat → List Rw → Prop
 | 0, _ => False
 | d + 1, l => leaf l = true ∨ ∀ m ∈ kidsL l, Fits d m
theorem NodeAt.fits {G : Nat → Prop} : ∀ {d : Nat} {w : World} {n : Nv} {l : List Rw}, NodeAt G d w n l → Fits d l
 | 0, _, _, _, h => h
 | d + 1, w, n, l, h => by
  cases hl : leaf l
  ·obtain ⟨-, -, -, -, h5⟩ := h
   obtain ⟨-, -, ks, -, hk, -, -, hi⟩ := h5 hl
   refine .inr fun m hm => ?_
   obtain ⟨i, hi2, rfl⟩ := List.getElem_of_mem hm
   exact NodeAt.fits (hi i (by omega) hi2)
  ·exact .inl hl
theorem vis_on (p : Nat → Nat → Nat → Bool) : ∀ (d : Nat) (l : List Rw) (b : Nat), On l → l.length ≤ b → ∀ m ∈ vis p d l, On m ∧ m.length ≤ b
 | 0, _, _, _, _, m, hm => by simp [vis] at hm
 | d + 1, l, b, ho, hb, m, hm => by
  unfold vis at hm
  split at hm
  ·rcases List.mem_cons.1 hm with rfl | hm
   ·exact ⟨ho, hb⟩
   ·obtain ⟨k, hk, hm⟩ := List.mem_flatMap.1 hm
    unfold sub at hk
    split at hk
    ·simp at hk
    ·obtain ⟨-, q, -, rfl⟩ := mem_kids hk
     exact vis_on p d _ b (ho.part q) (Nat.le_trans (part_sub l q) hb) m hm
  ·simp at hm
theorem visL_one (p : Nat → Nat → Nat → Bool) (d : Nat) (l : List Rw) : visL p d [l] = vis p d l := by simp [visL]
theorem seqs_cons (kp : Rw → Bool) (m : List Rw) (vs : List (List Rw)) : seqs kp (m :: vs) = (rowsOf m).filter kp ++ seqs kp vs := by simp [seqs]
theorem seqs_flat (kp : Rw → Bool) (f : List Rw → List (List Rw)) (ls : List (List Rw)) : seqs kp (ls.flatMap f) = ls.flatMap fun m => seqs kp (f m) := by
 unfold seqs; rw [List.flatMap_assoc]
theorem flat_perm {f g : List Rw → List Rw} : ∀ (ls : List (List Rw)), (∀ m ∈ ls, (f m).Perm (g m)) → (ls.flatMap f).Perm (ls.flatMap g)
 | [], _ => List.Perm.refl _
 | m :: ls, h => by
  rw [List.flatMap_cons, List.flatMap_cons]
  exact (h m (by simp)).append (flat_perm ls fun k hk => h k (by simp [hk]))
theorem kids_perm (l : List Rw) : ((kidsL l).flatMap fun m => m).Perm l := by
 rw [kids_flat (fun m => m) rfl l]; exact parts_perm l
theorem seqs_perm (p : Nat → Nat → Nat → Bool) (kp : Rw → Bool) (hp : ∀ m : List Rw, m ≠ [] → On m → p (cx m) (cy m) (lev m) = false → m.filter kp = []) : ∀ (d : Nat) (l : List Rw), Fits d l → On l → (seqs kp (vis p d l)).Perm (l.filter kp)
 | 0, _, h, _ => h.elim
 | d + 1, l, h, ho => by
  cases hq : p (cx l) (cy l) (lev l)
  ·rw [show vis p (d + 1) l = [] by unfold vis; rw [if_neg (by rw [hq]; simp)]]
   by_cases hl : l = []
   ·subst hl; exact List.Perm.refl _
   ·rw [hp l hl ho hq]; exact List.Perm.refl _
  ·rw [show vis p (d + 1) l = l :: (sub l).flatMap (vis p d) by unfold vis; rw [if_pos hq], seqs_cons]
   cases hf : leaf l
   ·rw [show rowsOf l = [] by unfold rowsOf; rw [if_neg (by rw [hf]; simp)], show sub l = kidsL l by unfold sub; rw [if_neg (by rw [hf]; simp)], List.filter_nil, List.nil_append, seqs_flat]
    have hk : ∀ m ∈ kidsL l, (seqs kp (vis p d m)).Perm (m.filter kp) := fun m hm => by
     obtain ⟨-, q, -, e⟩ := mem_kids hm
     rcases h with h | h
     ·rw [hf] at h; simp at h
     ·exact seqs_perm p kp hp d m (h m hm) (by rw [e]; exact ho.part q)
    refine (flat_perm _ hk).trans ?_
    rw [← List.filter_flatMap]
    exact (kids_perm l).filter kp
   ·rw [show rowsOf l = l by unfold rowsOf; rw [if_pos hf], show sub l = [] by unfold sub; rw [if_pos hf]]
    simp [seqs]
theorem box_all (a b c d : Nat) (m : List Rw) (_ : m ≠ []) (ho : On m) (h : touchS (cx m) (cy m) (lev m : Int) a b c d = false) : (m.filter fun r => inS a b c d r.x r.y) = [] := by
 refine List.filter_eq_nil_iff.2 fun r hr e => ?_
 have := touch_of e (lev_has ho hr)
 rw [h] at this
 simp at this
theorem dist_two (a b x y : Nat) : Rq.dist a b x y = Rc.dist x a * Rc.dist x a + Rc.dist y b * Rc.dist y b := by
 have h : ∀ u z : Nat, ((u : Int) - (z : Int)).natAbs = Rc.dist z u := fun u z => by unfold Rc.dist; omega
 unfold Rq.dist
 rw [h, h]
theorem round_all (x y s : Nat) (hxy : onS x y = true) (m : List Rw) (_ : m ≠ []) (ho : On m) (h : decide ((fars (cx m) (cy m) (lev m : Int) x y).2 = 0 ∧ (fars (cx m) (cy m) (lev m : Int) x y).1 ≤ s) = false) : (m.filter fun r => decide (Rq.dist r.x r.y x y ≤ s)) = [] := by
 refine List.filter_eq_nil_iff.2 fun r hr e => ?_
 have hh := lev_has ho hr
 have hc := hasS_right hh
 have c := (rightS_nat _ _ _).1 hc
 have hf : fars (cx m) (cy m) (lev m : Int) x y = (farS (cx m) (cy m) (lev m) x y, 0) := by unfold fars; rw [if_pos ⟨hc, hxy⟩, Int.toNat_natCast]
 have h1 := far_le x y c hh
 rw [← dist_two] at h1
 rw [hf] at h
 have h2 := of_decide_eq_true e
 simp at h
 omega
theorem rows_iter (w : World) (p : Nat → Nat → Nat → Bool) (ef : Nat) (eb : Array Value) (kp : Rw → Bool) (kf : Nat) (kb : Array Value) (d : Nat) (n : Nv) (l : List Rw) (hN : NodeAt (fun _ => True) d w n l) (hon : On l) (hmax : l.length ≤ 1000) (w' : World)
  (hw' : w' = ((w.alloc (.cells #[.int .u32 (n.X : Int), .int .u32 (n.Y : Int), .int .i64 (n.L : Int), .slice n.ro n.rn n.rc, .slice n.ko n.kn n.kc] 45)).alloc (.cells #[.func (.func ef) #[] eb] 74)).alloc (.cells #[.func (.func kf) #[] kb] 75)) (hE : Ent w' p ef eb) (hK : Kep w' kp kf kb) :
  Below w.heap.size w w' ∧ RowsIter w' (seqs kp (vis p d l)) 67 #[.pointer (some ⟨w.heap.size + 1, 0, none⟩), .pointer (some ⟨w.heap.size, 0, none⟩), .pointer (some ⟨w.heap.size + 2, 0, none⟩)] := by
 have hb1 := below_new w (.cells #[.int .u32 (n.X : Int), .int .u32 (n.Y : Int), .int .i64 (n.L : Int), .slice n.ro n.rn n.rc, .slice n.ko n.kn n.kc] 45)
 have hg1 := heap_alloc_new w (.cells #[.int .u32 (n.X : Int), .int .u32 (n.Y : Int), .int .i64 (n.L : Int), .slice n.ro n.rn n.rc, .slice n.ko n.kn n.kc] 45)
 have hs1 : (w.alloc (.cells #[.int .u32 (n.X : Int), .int .u32 (n.Y : Int), .int .i64 (n.L : Int), .slice n.ro n.rn n.rc, .slice n.ko n.kn n.kc] 45)).heap.size = w.heap.size + 1 := by simp
 obtain ⟨y1, y2, y3⟩ := two_new (w.alloc (.cells #[.int .u32 (n.X : Int), .int .u32 (n.Y : Int), .int .i64 (n.L : Int), .slice n.ro n.rn n.rc, .slice n.ko n.kn n.kc] 45)) (.cells #[.func (.func ef) #[] eb] 74) (.cells #[.func (.func kf) #[] kb] 75)
 rw [← hw'] at y1 y2 y3
 rw [hs1] at y1 y2 y3
 have hB : Below w.heap.size w w' := hb1.trans (y3.mono (by omega))
 refine ⟨hB, fun W1 hW1 li R Rx own hown hR hRx hY h0 => ?_⟩
 have := rows1_any w' p ef eb hE kp kf kb hK d n l (hN.below hB (Nat.le_refl _)) hon hmax (w.heap.size + 1) w.heap.size (w.heap.size + 2) y1 y2 ((y3.block _ (by omega)).trans hg1) (fun m hm => vis_on p d l 1000 hon hmax m (by rw [visL_one] at hm; exact hm)) W1 hW1 li R Rx own hown hR hRx (by rw [visL_one]; exact hY) h0
 rw [visL_one] at this
 exact this
end Go.Proofs.Ytimdlohdmddnjaa.Rq
