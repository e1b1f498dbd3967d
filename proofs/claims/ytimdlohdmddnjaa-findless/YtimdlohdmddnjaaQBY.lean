/- The nearest rows, in plain terms. -/
import Derived.Test.YtimdlohdmddnjaaQBU
import Derived.Test.YtimdlohdmddnjaaQBM
namespace Go.Proofs.Ytimdlohdmddnjaa.Rq
open Go.RowKit Go.Lib Go.Shelf
open Go.Proofs.Ytimdlohdmddnjaa.Rc
def nsort (x y M : Nat) (l : List Rw) : List Rw := l.mergeSort fun a b => decide (nkey x y M a ≤ nkey x y M b)
theorem nsort_perm (x y M : Nat) (l : List Rw) : (nsort x y M l).Perm l := List.mergeSort_perm _ _
theorem nsort_sorted (x y M : Nat) (l : List Rw) : (nsort x y M l).Pairwise fun a b => nkey x y M a ≤ nkey x y M b := by
 have h := List.pairwise_mergeSort (le := fun a b => decide (nkey x y M a ≤ nkey x y M b)) (fun a b c h1 h2 => by simp only [decide_eq_true_eq] at h1 h2 ⊢; omega) (fun a b => by simp only [Bool.or_eq_true, decide_eq_true_eq]; omega) l
 exact h.imp fun h => by simpa using h
theorem rise_inj {l : List Rw} (h : Rise l) {a b : Rw} (ha : a ∈ l) (hb : b ∈ l) (e : a.id = b.id) : a = b := by
 obtain ⟨i, hi, rfl⟩ := List.getElem_of_mem ha
 obtain ⟨j, hj, rfl⟩ := List.getElem_of_mem hb
 have hp := List.pairwise_iff_getElem.1 h
 rcases Nat.lt_trichotomy i j with hij | hij | hij
 ·have := hp i j hi hj hij
  omega
 ·subst hij; rfl
 ·have := hp j i hj hi hij
  omega
theorem nkey_inj {l : List Rw} (h : Rise l) {x y M : Nat} (hM : ∀ r ∈ l, r.id < M) {a b : Rw} (ha : a ∈ l) (hb : b ∈ l) (h1 : nkey x y M a ≤ nkey x y M b) (h2 : nkey x y M b ≤ nkey x y M a) : a = b := by
 refine rise_inj h ha hb ?_
 unfold nkey at h1 h2
 have k1 := @key_lt (Rq.dist a.x a.y x y) (Rq.dist b.x b.y x y) a.id b.id M (hM a ha) (hM b hb)
 have k2 := @key_lt (Rq.dist b.x b.y x y) (Rq.dist a.x a.y x y) b.id a.id M (hM b hb) (hM a ha)
 have n1 : ¬ (Rq.dist a.x a.y x y * M + a.id < Rq.dist b.x b.y x y * M + b.id) := by omega
 have n2 : ¬ (Rq.dist b.x b.y x y * M + b.id < Rq.dist a.x a.y x y * M + a.id) := by omega
 have m1 := fun h => n1 (k1.2 h)
 have m2 := fun h => n2 (k2.2 h)
 have e : Rq.dist a.x a.y x y = Rq.dist b.x b.y x y := by
  rcases Nat.lt_trichotomy (Rq.dist a.x a.y x y) (Rq.dist b.x b.y x y) with c | c | c
  ·exact (m1 (.inl c)).elim
  ·exact c
  ·exact (m2 (.inl c)).elim
 rcases Nat.lt_trichotomy a.id b.id with c | c | c
 ·exact (m1 (.inr ⟨e, c⟩)).elim
 ·exact c
 ·exact (m2 (.inr ⟨e.symm, c⟩)).elim
theorem nsort_uniq {l s : List Rw} (h : Rise l) {x y M : Nat} (hM : ∀ r ∈ l, r.id < M) (hp : s.Perm l) (hs : s.Pairwise fun a b => nkey x y M a ≤ nkey x y M b) : s = nsort x y M l :=
 (hp.trans (nsort_perm x y M l).symm).eq_of_pairwise (le := fun (a b : Rw) => nkey x y M a ≤ nkey x y M b) (fun _ _ ha hb h1 h2 => nkey_inj h hM (hp.mem_iff.1 ha) ((nsort_perm x y M l).mem_iff.1 hb) h1 h2) hs (nsort_sorted x y M l)
theorem count_first {s : List Rw} {K : Rw → Nat} (hs : s.Pairwise fun a b => K a ≤ K b) {j : Nat} (hj : j < s.length) (c : Nat) (h : c ≤ K s[j]) : (s.countP fun r => decide (K r < c)) ≤ j := by
 have e : s = s.take j ++ s.drop j := (List.take_append_drop _ _).symm
 have hd : (s.drop j).countP (fun r => decide (K r < c)) = 0 := by
  rw [List.countP_eq_zero]
  intro r hr
  obtain ⟨i, hi, rfl⟩ := List.getElem_of_mem hr
  have hp := List.pairwise_iff_getElem.1 hs
  have hi' : i < s.length - j := by simpa using hi
  rw [List.getElem_drop]
  simp only [decide_eq_true_eq]
  by_cases c0 : i = 0
  ·subst c0; simp; omega
  ·have := hp j (j + i) hj (by omega) (by omega)
   omega
 rw [e, List.countP_append, hd, Nat.add_zero]
 exact Nat.le_trans List.countP_le_length (by rw [List.length_take]; omega)
theorem near_take {l F E SF : List Rw} (h : Rise l) {x y M k : Nat} (hM : ∀ r ∈ l, r.id < M) (hFE : (F ++ E).Perm l) (hp : SF.Perm F) (hs : SF.Pairwise fun a b => nkey x y M a ≤ nkey x y M b)
  (hk : E = [] ∨ (k ≤ F.length ∧ ∀ e ∈ E, ∀ r ∈ F.take k, nkey x y M r < nkey x y M e)) : SF.take k = (nsort x y M l).take k := by
 rcases hk with rfl | ⟨hk, hE⟩
 ·rw [List.append_nil] at hFE
  rw [nsort_uniq h hM (hp.trans hFE) hs]
 ·have hlen : SF.length = F.length := hp.length_eq
  have hT : ∀ t ∈ SF.take k, ∀ e ∈ E, nkey x y M t < nkey x y M e := fun t ht e he => by
   obtain ⟨j, hj, rfl⟩ := List.getElem_of_mem ht
   have hj2 : j < k ∧ j < SF.length := by rw [List.length_take] at hj; omega
   rw [List.getElem_take]
   refine Nat.lt_of_not_le fun hle => ?_
   have c1 := count_first hs hj2.2 (nkey x y M e) hle
   rw [hp.countP_eq] at c1
   have c2 : (F.take k).countP (fun r => decide (nkey x y M r < nkey x y M e)) = (F.take k).length := List.countP_eq_length.2 fun r hr => by simpa using hE e he r hr
   have c3 : F.countP (fun r => decide (nkey x y M r < nkey x y M e)) = (F.take k).countP (fun r => decide (nkey x y M r < nkey x y M e)) + (F.drop k).countP (fun r => decide (nkey x y M r < nkey x y M e)) := by
    rw [← List.countP_append, List.take_append_drop]
   rw [List.length_take] at c2
   omega
  have hpw := hs
  rw [← List.take_append_drop k SF, List.pairwise_append] at hpw
  have key : SF.take k ++ nsort x y M (SF.drop k ++ E) = nsort x y M l := by
   refine nsort_uniq h hM ?_ (List.pairwise_append.2 ⟨hpw.1, nsort_sorted _ _ _ _, fun a ha b hb => ?_⟩)
   ·refine ((List.Perm.refl _).append (nsort_perm x y M _)).trans ?_
    rw [← List.append_assoc, List.take_append_drop]
    exact (hp.append_right E).trans hFE
   ·rcases List.mem_append.1 ((nsort_perm x y M _).mem_iff.1 hb) with hb | hb
    ·exact hpw.2.2 a ha b hb
    ·exact Nat.le_of_lt (hT a ha b hb)
  rw [← key, List.take_append_of_le_length (by rw [List.length_take]; omega)]
  rw [List.take_take, Nat.min_self]
open Pz (Pc pcs pv)
set_option maxRecDepth 100000 in
theorem run_clip (o : Option Addr) (n cap : Nat) (w : World) (hr : n ≤ cap) (ho : o = none → cap = 0) : (Instr.sliceAt 32 (.slice o n cap) none (some (.int .i64 (n : Int))) (some (.int .i64 (n : Int)))).run Try.prog w = .ok (.slice o n n) w := by
 have h1 : (n : Int) ≤ (cap : Int) := by omega
 cases o with
 | none =>
  have := ho rfl
  subst this
  obtain rfl : n = 0 := by omega
  simp [Instr.sliceAt, Instr.slice, run_underlying Try.underlying32, go_sem]
 | some a =>
  simp [Instr.sliceAt, Instr.slice, run_underlying Try.underlying32, go_sem]
  intro h
  omega
set_option maxRecDepth 100000 in
theorem clip_any (o : Option Addr) (n cap : Nat) (w : World) (hr : n ≤ cap) (ho : o = none → cap = 0) (hn : n ≤ 1000000) :
  Calls Try.prog 49 #[.slice o n cap] w fun e w' => e = .returned (.slice o n n) ∧ w' = w := by
 have hrun := fun w => run_clip o n cap w hr ho
 have q1 : (n : Int) ≤ 1000000 := by omega
 clear hr ho hn
 go_enter Try.func49, Try.ntmps49
 go_wp2_with fail
 go_ret
 exact ⟨rfl, rfl⟩
def pat (L : List (Pc × List Rw)) (i : Nat) : Pc × List Rw := (L[i]?).getD (default, [])
theorem pat_get {L : List (Pc × List Rw)} {i : Nat} (h : i < L.length) : pat L i = L[i] := by unfold pat; rw [List.getElem?_eq_getElem h]; rfl
theorem pat_mem {L : List (Pc × List Rw)} {i : Nat} (h : i < L.length) : pat L i ∈ L := by rw [pat_get h]; exact List.getElem_mem h
set_option maxRecDepth 100000 in
theorem piece_at {w : World} {o : Option Addr} {cap : Nat} {L : List (Pc × List Rw)} (h : Sl 2 w o (L.map Prod.fst).length cap ((L.map Prod.fst).flatMap pcs)) {i : Nat} (hi : i < L.length) : ∃ b off, o = some ⟨b, off, none⟩ ∧ b < w.heap.size ∧ w.cell? ⟨b, off + i * 2, none⟩ = some (.int .u64 ((pat L i).1.aw : Int)) ∧ w.cell? ⟨b, off + i * 2 + 1, none⟩ = some (.slice (pat L i).1.ro (pat L i).1.rn (pat L i).1.rc) := by
 obtain ⟨b, off, e, hb, hc⟩ := h.2.2.2.2 (by rw [List.length_map]; omega)
 have hg : (L.map Prod.fst)[i]? = some (pat L i).1 := by rw [List.getElem?_map, List.getElem?_eq_getElem hi, pat_get hi]; rfl
 refine ⟨b, off, e, hb, ?_, ?_⟩
 ·exact hc _ _ (flat_get pcs 2 (fun _ => rfl) _ i _ hg 0 (by omega))
 ·have := hc _ _ (flat_get pcs 2 (fun _ => rfl) _ i _ hg 1 (by omega))
  rwa [← Nat.add_assoc] at this
def Dn (L : List (Pc × List Rw)) (i : Nat) : List Rw := (L.take i).flatMap Prod.snd
theorem Dn_zero (L : List (Pc × List Rw)) : Dn L 0 = [] := by simp [Dn]
theorem Dn_next {L : List (Pc × List Rw)} {i : Nat} (h : i < L.length) : Dn L (i + 1) = Dn L i ++ (pat L i).2 := by
 unfold Dn
 rw [List.take_add_one, List.getElem?_eq_getElem h, List.flatMap_append, pat_get h]
 simp
theorem Dn_rest (L : List (Pc × List Rw)) (i : Nat) : Dn L i ++ (L.drop i).flatMap Prod.snd = L.flatMap Prod.snd := by
 unfold Dn
 rw [← List.flatMap_append, List.take_append_drop]
theorem Dn_len {L : List (Pc × List Rw)} {l : List Rw} (h : (L.flatMap Prod.snd).Perm l) (i : Nat) : (Dn L i).length ≤ l.length := by
 have := congrArg List.length (Dn_rest L i)
 rw [List.length_append, h.length_eq] at this
 omega
set_option maxRecDepth 100000 in
theorem near_stop {L : List (Pc × List Rw)} {l SF : List Rw} (hl : Rise l) {w : World} {x y M kn i ρ : Nat} (hM : ∀ r ∈ l, r.id < M) (hL : ∀ a ∈ L, PA w x y a) (hs : (L.map Prod.fst).Pairwise fun a b => a.aw ≤ b.aw) (hp : (L.flatMap Prod.snd).Perm l)
  (hρ : ∀ r ∈ (Dn L i).take kn, Rq.dist r.x r.y x y ≤ ρ) (hi : L.length ≤ i ∨ (i < L.length ∧ kn ≤ (Dn L i).length ∧ ρ < (pat L i).1.aw)) (hSF : SF.Perm (Dn L i)) (hS : SF.Pairwise fun a b => nkey x y M a ≤ nkey x y M b) : SF.take kn = (nsort x y M l).take kn := by
 have hFE : (Dn L i ++ (L.drop i).flatMap Prod.snd).Perm l := by rw [Dn_rest]; exact hp
 refine near_take hl hM hFE hSF hS ?_
 rcases hi with hi | ⟨hi, h1, h2⟩
 ·exact .inl (by rw [List.drop_of_length_le hi]; rfl)
 ·refine .inr ⟨h1, fun e he r hr => ?_⟩
  obtain ⟨a, ha, hea⟩ := List.mem_flatMap.1 he
  obtain ⟨j, hj, rfl⟩ := List.getElem_of_mem ha
  have hj' : i + j < L.length := by rw [List.length_drop] at hj; omega
  rw [List.getElem_drop] at hea
  have f1 := (hL _ (List.getElem_mem hj')).far e hea
  have f2 : (pat L i).1.aw ≤ (L[i + j]).1.aw := by
   rw [pat_get hi]
   by_cases c : j = 0
   ·subst c; simp
   ·have := List.pairwise_iff_getElem.1 hs i (i + j) (by simpa using hi) (by simpa using hj') (by omega)
    simpa using this
  have f3 := hρ r hr
  have me : e ∈ l := hFE.mem_iff.1 (List.mem_append.2 (.inr he))
  have mr : r ∈ l := hFE.mem_iff.1 (List.mem_append.2 (.inl (List.mem_of_mem_take hr)))
  exact (key_lt (hM r mr) (hM e me)).2 (.inl (by omega))
theorem take_more {F : List Rw} {r : Rw} {kn : Nat} {P : Rw → Prop} (h : ∀ s ∈ F.take kn, P s) (hr : F.length < kn → P r) : ∀ s ∈ (F ++ [r]).take kn, P s := by
 intro s hs
 by_cases c : F.length < kn
 ·rw [List.take_of_length_le (by simp; omega)] at hs
  rcases List.mem_append.1 hs with a | a
  ·exact h s (by rw [List.take_of_length_le (by omega)]; exact a)
  ·have : s = r := by simpa using a
   rw [this]; exact hr c
 ·rw [List.take_append_of_le_length (by omega)] at hs
  exact h s hs
set_option maxRecDepth 100000 in
set_option maxHeartbeats 8000000 in
theorem near_ok (n : Nv) (l : List Rw) (dd x y M kn : Nat) (hxy : onS x y = true) (hk : kn < 9223372036854775808) (w : World) (hN : NodeAt (fun _ => True) dd w n l) (hon : On l) (hmax : l.length ≤ 1000) (hri : Rise l) (hM : ∀ r ∈ l, r.id < M) :
  Calls Try.prog 23 #[nv n, .int .u32 (x : Int), .int .u32 (y : Int), .int .i64 (kn : Int)] w fun e w' => ∃ o cap, e = .returned (.tuple #[.slice o ((nsort x y M l).take kn).length cap, .int .i64 0]) ∧ RowsAt w' o cap ((nsort x y M l).take kn) ∧ Below w.heap.size w w' := by
 have hxy2 := (onS_iff x y).1 hxy
 have HPL : Hid _ := qonPlane_any x y
 rw [hxy] at HPL
 obtain ⟨t1, t2, t3, t4, t5⟩ := trio_new w (.cells #[.int .u32 (n.X : Int), .int .u32 (n.Y : Int), .int .i64 (n.L : Int), .slice n.ro n.rn n.rc, .slice n.ko n.kn n.kc] 45) (.cells #[.int .u32 (x : Int)] 22) (.cells #[.int .u32 (y : Int)] 22)
 obtain ⟨W0, hW0⟩ : ∃ W0, ((w.alloc (.cells #[.int .u32 (n.X : Int), .int .u32 (n.Y : Int), .int .i64 (n.L : Int), .slice n.ro n.rn n.rc, .slice n.ko n.kn n.kc] 45)).alloc (.cells #[.int .u32 (x : Int)] 22)).alloc (.cells #[.int .u32 (y : Int)] 22) = W0 := ⟨_, rfl⟩
 rw [hW0] at t1 t2 t3 t4 t5
 have HPI : Hid (∀ _ : True, _) := fun _ => pieces_any n l dd x y hxy W0 (NodeAt.below hN t4 (Nat.le_refl _)) hon hmax
 have HW0 : Hid _ := hW0
 have HP2 : Hid (Pt2 W0 (w.heap.size + 1) (w.heap.size + 2) x y) := ⟨t2, t3⟩
 have HB0 : Hid (Below w.heap.size w W0) := t4
 have HG0 : Hid (W0.heap[w.heap.size]? = some (.cells #[.int .u32 (n.X : Int), .int .u32 (n.Y : Int), .int .i64 (n.L : Int), .slice n.ro n.rn n.rc, .slice n.ko n.kn n.kc] 45 (0, 0))) := t1
 have HFa : Hid (∀ r : Rw, r.x < 2147483648 → r.y < 2147483648 → ∀ W : World, Calls Try.prog 43 #[rv r, .int .u32 (x : Int), .int .u32 (y : Int)] W fun e w' => e = .returned (.int .u64 ((Rq.dist r.x r.y x y : Nat) : Int)) ∧ Below W.heap.size W w') := fun r h1 h2 W => qfar_any r.id r.x r.y r.v x y h1 h2 hxy2.1 hxy2.2 W
 have HXY : Hid (x < 2147483648 ∧ y < 2147483648) := hxy2
 have HON : Hid (On l) := hon
 have HMX : Hid (l.length ≤ 1000) := hmax
 have HRI : Hid (Rise l) := hri
 have HID : Hid (∀ r ∈ l, r.id < M) := hM
 clear hN hon hmax hri hM hxy hxy2 t1 t2 t3 t4 t5 hW0
 obtain ⟨nX, nY, nL, nro, nrn, nrc, nko, nkn, nkc⟩ := n
 simp only [nv] at HPI ⊢
 simp only at HG0 HW0
 have k0 : decide ((kn : Int) < 0) = false := decide_eq_false (by omega)
 go_enter Try.func23, Try.ntmps23
 go_wp2_with fail
 refine wp_scope_straight ?_
 go_wp2_with fail
 rw [HW0.out]
 clear HW0
 refine (HPL.out _).mono ?_
 rintro e w1 ⟨rfl, h⟩
 have h' := h.symm; clear h; subst h'
 obtain ⟨gx, hgx⟩ : ∃ gx, w.heap.size + 1 = gx := ⟨_, rfl⟩
 obtain ⟨gy, hgy⟩ : ∃ gy, w.heap.size + 2 = gy := ⟨_, rfl⟩
 rw [hgx, hgy] at HP2
 obtain ⟨z0, z1, z2, z3, z4, f0, f1, f2, f3, f4⟩ := node_facts HG0.out
 have ln : w.heap.size < W0.heap.size := (Array.getElem?_eq_some_iff.1 HG0.out).1
 have cx0 : W0.cell? ⟨gx, 0, none⟩ = some (.int .u32 (x : Int)) := by rw [cell_of_row _ _ _ _ _ _ HP2.out.x]; rfl
 have cy0 : W0.cell? ⟨gy, 0, none⟩ = some (.int .u32 (y : Int)) := by rw [cell_of_row _ _ _ _ _ _ HP2.out.y]; rfl
 have lx : gx < W0.heap.size := (Array.getElem?_eq_some_iff.1 HP2.out.x).1
 have ly : gy < W0.heap.size := (Array.getElem?_eq_some_iff.1 HP2.out.y).1
 rw [show w.heap.size + 1 + 1 = gy by omega, hgx]
 have hgx' : gx ≤ w.heap.size + 1 := by omega
 clear z0 z1 z2 z3 z4 HPL hgx hgy hgx'
 go_wp2_with fail
 refine wp_label ?_
 go_wp2_with fail
 refine Calls.mono (HPI.out trivial) ?_
 rintro e w1 ⟨pv', ps, rfl, hpo, hps, ⟨L, hL1, hL2, hL3⟩, b1⟩
 subst hL1
 obtain ⟨po, pc, rfl, hsl⟩ := sl_of_own hpo
 have HSL : Hid (Sl 2 w1 po (L.map Prod.fst).length pc ((L.map Prod.fst).flatMap pcs)) := hsl
 have HPS : Hid ((L.map Prod.fst).Pairwise fun a b => a.aw ≤ b.aw) := hps
 have HL2 : Hid (∀ a ∈ L, PA w1 x y a) := hL2
 have HL3 : Hid ((L.flatMap Prod.snd).Perm l) := hL3
 have HB1 : Hid (Below w.heap.size w w1) := HB0.out.trans (b1.mono HB0.out.size)
 have HP21 : Hid (Pt2 w1 gx gy x y) := HP2.out.grow b1 (Nat.le_refl _)
 have hpn : L.length ≤ 1000 := Nat.le_trans (len_le fun a ha => (hL2 a ha).pos) (by rw [hL3.length_eq]; exact HMX.out)
 rw [List.length_map] at HSL ⊢
 obtain ⟨pn, hpn'⟩ : ∃ pn, L.length = pn := ⟨_, rfl⟩
 rw [hpn'] at HSL hpn ⊢
 have HPN : Hid (L.length = pn) := hpn'
 clear hpo hps hL2 hL3 b1 hsl hpn' HPI HB0 HP2 HG0 f0 f1 f2 f3 f4 cx0 cy0 lx ly ln
 have q0 : (pn : Int) ≤ 1000 := by omega
 go_wp2_with fail
 go_loopw [11, 12, 31] (fun fv' ρv iv wr => ∃ (i ρ : Nat), iv = .int .i64 (i : Int) ∧ ρv = .int .u64 (ρ : Int) ∧ i ≤ pn ∧ wr.ownsRow w1.heap.size 54 4 fv' (Dn L i).length ((Dn L i).flatMap rc) ∧ (∀ r ∈ (Dn L i).take kn, Rq.dist r.x r.y x y ≤ ρ) ∧ Below w1.heap.size w1 wr) (fun _ _ iv _ => pn - natOf iv)
 case atStart => exact ⟨0, 0, rfl, rfl, Nat.zero_le _, by rw [Dn_zero]; exact World.ownsRow_nil _ _ _ _, by rw [Dn_zero]; simp, Below.refl _ _⟩
 case round =>
  obtain ⟨i, ρ, rfl, rfl, hi, ho, hρ, hb⟩ := hrel
  have HO : Hid _ := ho
  have HRO : Hid (∀ r ∈ (Dn L i).take kn, Rq.dist r.x r.y x y ≤ ρ) := hρ
  have HB : Hid (Below w1.heap.size w1 wr) := hb
  obtain ⟨fo, fc, rfl, sf⟩ := sl_of_own ho
  obtain ⟨fn, hfn⟩ : ∃ fn, (Dn L i).length = fn := ⟨_, rfl⟩
  have HFN : Hid ((Dn L i).length = fn) := hfn
  rw [hfn] at ho HO ⊢
  have hf1000 : fn ≤ 1000 := by rw [← hfn]; exact Nat.le_trans (Dn_len HL3.out i) HMX.out
  clear hfn sf hρ
  by_cases hlt : i < pn
  ·have hiL : i < L.length := by have := HPN.out; omega
   obtain ⟨pb, off, rfl, hbl, c0, c1⟩ := piece_at (L := L) (by have := HPN.out; rw [List.length_map, this]; exact Sl.below HSL.out hb (Nat.le_refl _)) hiL
   have hPA := HL2.out _ (pat_mem hiL)
   have hnx := Dn_next hiL
   have HNX : Hid (Dn L (i + 1) = Dn L i ++ (pat L i).2) := hnx
   obtain ⟨⟨⟨aw, ro, rn, rc'⟩, mm⟩, hpt⟩ : ∃ p, pat L i = p := ⟨_, rfl⟩
   have HPT : Hid (pat L i = (⟨aw, ro, rn, rc'⟩, mm)) := hpt
   rw [hpt] at hPA c0 c1 HNX
   obtain ⟨pl, pp, pr, pf⟩ := hPA
   simp only at pl pp pr pf c0 c1 HNX
   subst pl
   have HRA : Hid (RowsAt w1 ro rc' mm) := pr
   have HME : Hid (∀ r ∈ mm, r ∈ l) := fun r hr => HL3.out.mem_iff.1 (List.mem_flatMap.2 ⟨pat L i, pat_mem hiL, by rw [HPT.out]; exact hr⟩)
   have hmm : mm.length ≤ 1000 := by
    have h1 := Dn_len HL3.out (i + 1)
    rw [HNX.out, List.length_append] at h1
    have := HMX.out
    omega
   have hsum : fn + mm.length ≤ 1000 := by
    have h1 := Dn_len HL3.out (i + 1)
    rw [HNX.out, List.length_append, HFN.out] at h1
    have := HMX.out
    omega
   have q1 : (i : Int) < (pn : Int) := by omega
   have i0 : (0 : Int) ≤ (i : Int) := by omega
   clear hnx hpt pr pf hiL hb ho
   by_cases hbr : kn ≤ fn ∧ ρ < aw
   ·have q2 : (kn : Int) ≤ (fn : Int) := by omega
    have q3 : (ρ : Int) < (aw : Int) := by omega
    have hbx := below_new wr (.cells #[.int .u64 (aw : Int), .slice ro mm.length rc'] 87)
    have hfo : (wr.alloc (.cells #[.int .u64 (aw : Int), .slice ro mm.length rc'] 87)).ownsRow w1.heap.size 54 4 (.slice fo fn fc) (Dn L i).length ((Dn L i).flatMap rc) := by rw [HFN.out]; exact own_same HO.out fun b _ hb => hbx.block b hb
    have hbw : Below w1.heap.size w1 (wr.alloc (.cells #[.int .u64 (aw : Int), .slice ro mm.length rc'] 87)) := HB.out.trans (hbx.mono HB.out.size)
    clear hbx
    have hfl := Dn_len HL3.out i
    have hmx := HMX.out
    have HCM : Hid (∀ _ : True, _) := fun _ => sortR_any w1 _ _ _ _ (cmp_near w1 gx gy x y M HXY.out.1 HXY.out.2 HP21.out) w1.heap.size (Nat.le_refl _) (Dn L i) (by omega) (fun r hr => by
     have mr : r ∈ l := HL3.out.mem_iff.1 (by rw [← Dn_rest L i]; exact List.mem_append.2 (.inl hr))
     exact ⟨HID.out r mr, HON.out r mr⟩) (.slice fo fn fc) (wr.alloc (.cells #[.int .u64 (aw : Int), .slice ro mm.length rc'] 87)) hfo hbw hbw.size
    have HST : Hid (∀ SF : List Rw, SF.Perm (Dn L i) → (SF.Pairwise fun a b => nkey x y M a ≤ nkey x y M b) → SF.take kn = (nsort x y M l).take kn) := fun SF => near_stop HRI.out HID.out HL2.out HPS.out HL3.out HRO.out (.inr ⟨by have := HPN.out; omega, by rw [HFN.out]; exact hbr.1, by rw [HPT.out]; exact hbr.2⟩)
    have HBW : Hid (Below w1.heap.size w1 (wr.alloc (.cells #[.int .u64 (aw : Int), .slice ro mm.length rc'] 87))) := hbw
    clear hfo hbw hfl hmx
    go_wp2_with fail
    refine Calls.mono (HCM.out trivial) ?_
    rintro ee w2 ⟨rfl, m, hp, hs, ho2, hb2⟩
    have hml : m.length = fn := hp.length_eq.trans HFN.out
    have hres := HST.out m hp hs
    rw [hml] at ho2
    obtain ⟨fo', fc', hfe, hs2⟩ := sl_of_own ho2
    cases hfe
    obtain ⟨r, hr⟩ : ∃ r, min kn fn = r := ⟨_, rfl⟩
    have hrl : ((nsort x y M l).take kn).length = r := by rw [← hres, List.length_take, hml, hr]
    have hrw : RowsAt w2 fo fc m := by unfold RowsAt; rw [hml]; exact hs2
    have hhd := hrw.head kn
    rw [hres] at hhd
    have hfc := hs2.1
    have hfo0 := hs2.2.2.1
    have hfx := hs2.2.1
    have HFIN : Hid (RowsAt w2 fo r ((nsort x y M l).take kn) ∧ Below w.heap.size w w2) := ⟨⟨by rw [hrl]; exact Nat.le_refl _, by omega, fun e => by have := hfo0 e; omega, hhd.2.2.2.1, hhd.2.2.2.2⟩, HB1.out.trans ((HBW.out.trans hb2).mono HB1.out.size)⟩
    have hmin : (if (fn : Int) < (kn : Int) then (fn : Int) else (kn : Int)) = (r : Int) := by split <;> omega
    have hrun := fun w => run_head fo fn fc r w (by omega) hfo0
    have HCL : Hid (∀ W : World, _) := fun W => clip_any fo r fc W (by omega) hfo0 (by omega)
    have HRL : Hid (((nsort x y M l).take kn).length = r) := hrl
    have q9 : (fn : Int) ≤ 1000 := by omega
    clear hp hs ho2 hb2 hml hres hs2 hr hrl hrw hhd hfc hfo0 hfx HCM HST
    go_wp2_with (refine list_min rfl 3 3 (.tmp 72) (.tmp 74) rfl rfl rfl hmin ?_)
    refine (HCL.out _).mono ?_
    rintro ee w3 ⟨rfl, h⟩
    have h' := h.symm; clear h; subst h'
    clear hrun hmin HCL
    go_wp2_with fail
    simp only [Exit.noGoto]
    go_ret2
    rw [HRL.out]
    exact ⟨_, _, rfl, HFIN.out⟩
   ·by_cases hbr1 : kn ≤ fn
    ·have q2 : (kn : Int) ≤ (fn : Int) := by omega
     have q3 : ¬ (ρ : Int) < (aw : Int) := by omega
     have hbx := below_new wr (.cells #[.int .u64 (aw : Int), .slice ro mm.length rc'] 87)
     have HOx : Hid ((wr.alloc (.cells #[.int .u64 (aw : Int), .slice ro mm.length rc'] 87)).ownsRow w1.heap.size 54 4 (.slice fo fn fc) fn ((Dn L i).flatMap rc)) := own_same HO.out fun b _ hb => hbx.block b hb
     have HBx : Hid (Below w1.heap.size w1 (wr.alloc (.cells #[.int .u64 (aw : Int), .slice ro mm.length rc'] 87))) := HB.out.trans (hbx.mono HB.out.size)
     clear hbx
     have i1 : (i : Int) + 1 ≤ 9223372036854775807 := by omega
     have m1 : (mm.length : Int) ≤ 1000 := by omega
     go_wp2_with fail
     clear c0 c1 hbl
     generalize wr.alloc (.cells #[.int .u64 (aw : Int), .slice ro mm.length rc'] 87) = Wx at *
     go_loopw [11, 12, 48] (fun fv' ρv jv wr2 => ∃ (j ρ2 : Nat), jv = .int .i64 (j : Int) ∧ ρv = .int .u64 (ρ2 : Int) ∧ j ≤ mm.length ∧ wr2.ownsRow w1.heap.size 54 4 fv' (Dn L i ++ mm.take j).length ((Dn L i ++ mm.take j).flatMap rc) ∧ (∀ r ∈ (Dn L i ++ mm.take j).take kn, Rq.dist r.x r.y x y ≤ ρ2) ∧ Below w1.heap.size w1 wr2) (fun _ _ jv _ => mm.length - natOf jv)
     case atStart =>
      refine ⟨0, ρ, rfl, rfl, Nat.zero_le _, ?_, ?_, HBx.out⟩
      ·rw [List.take_zero, List.append_nil, HFN.out]; exact HOx.out
      ·rw [List.take_zero, List.append_nil]; exact HRO.out
     case round =>
      obtain ⟨j, ρ2, rfl, rfl, hj, hoj, hρj, hbj⟩ := hrel
      have HOj : Hid _ := hoj
      have HRj : Hid (∀ r ∈ (Dn L i ++ mm.take j).take kn, Rq.dist r.x r.y x y ≤ ρ2) := hρj
      have HBj : Hid (Below w1.heap.size w1 wr) := hbj
      obtain ⟨go, gc, rfl, sg⟩ := sl_of_own hoj
      obtain ⟨fl, hfl⟩ : ∃ fl, (Dn L i ++ mm.take j).length = fl := ⟨_, rfl⟩
      have HFL : Hid ((Dn L i ++ mm.take j).length = fl) := hfl
      rw [hfl] at hoj HOj ⊢
      have hfl2 : fl = fn + j := by rw [← hfl, List.length_append, HFN.out, List.length_take]; omega
      have hfl3 : fl ≤ 1000 := by omega
      clear hfl hfl2 sg hρj hoj
      by_cases hjl : j < mm.length
      ·obtain ⟨pb2, off2, rfl, hbl2, hc2⟩ := (HRA.out.below hbj (Nat.le_refl _)).row hjl
       obtain ⟨d0, d1, d2, d3⟩ := hc2 j hjl
       have hmr := HME.out _ (rat_mem hjl)
       have onr := HON.out _ hmr
       have HTJ : Hid (Dn L i ++ mm.take (j + 1) = (Dn L i ++ mm.take j) ++ [rat mm j]) := by
        refine (?_ : Dn L i ++ mm.take (j + 1) = _)
        rw [take_rat mm j hjl, List.append_assoc]
       have HFr : Hid _ := HFa.out (rat mm j) onr.1 onr.2
       generalize rat mm j = rr at *
       obtain ⟨id, rx, ry, rs⟩ := rr
       simp only at d0 d1 d2 d3
       simp only [rv] at HFr
       have cx1 : wr.cell? ⟨gx, 0, none⟩ = some (.int .u32 (x : Int)) := by rw [cell_of_row _ _ _ _ _ _ (HP21.out.grow hbj (Nat.le_refl _)).x]; rfl
       have cy1 : wr.cell? ⟨gy, 0, none⟩ = some (.int .u32 (y : Int)) := by rw [cell_of_row _ _ _ _ _ _ (HP21.out.grow hbj (Nat.le_refl _)).y]; rfl
       have lx1 : gx < wr.heap.size := (Array.getElem?_eq_some_iff.1 (HP21.out.grow hbj (Nat.le_refl _)).x).1
       have ly1 : gy < wr.heap.size := (Array.getElem?_eq_some_iff.1 (HP21.out.grow hbj (Nat.le_refl _)).y).1
       have q5 : (j : Int) < (mm.length : Int) := by omega
       have j0 : (0 : Int) ≤ (j : Int) := by omega
       have j2 : (j : Int) + 1 ≤ 9223372036854775807 := by omega
       have hbr2 := below_new wr (.cells #[.int .u64 (id : Int), .int .u32 (rx : Int), .int .u32 (ry : Int), .string rs] 54)
       have hgr2 := heap_alloc_new wr (.cells #[.int .u64 (id : Int), .int .u32 (rx : Int), .int .u32 (ry : Int), .string rs] 54)
       clear hc2 hmr onr hbj
       by_cases hfk : fl < kn
       ·have q6 : (fl : Int) < (kn : Int) := by omega
        have HBR : Hid _ := hbr2
        have HGR : Hid _ := hgr2
        clear hbr2 hgr2
        go_wp2_with fail
        refine (HFr.out _).mono ?_
        rintro ee w3 ⟨rfl, b3⟩
        have bW : Below wr.heap.size wr w3 := HBR.out.trans (b3.mono (by simp))
        have hg3 := (b3.block wr.heap.size (by simp)).trans HGR.out
        obtain ⟨s0, s1, s2, s3⟩ := four_facts hg3
        have lg3 : wr.heap.size < w3.heap.size := (Array.getElem?_eq_some_iff.1 hg3).1
        obtain ⟨dst, hdst⟩ : ∃ dst, Rq.dist rx ry x y = dst := ⟨_, rfl⟩
        have HRn : Hid (∀ r ∈ (Dn L i ++ mm.take (j + 1)).take kn, Rq.dist r.x r.y x y ≤ max ρ2 dst) := by
         refine (?_ : ∀ r ∈ (Dn L i ++ mm.take (j + 1)).take kn, Rq.dist r.x r.y x y ≤ max ρ2 dst)
         rw [HTJ.out]
         exact take_more (P := fun r => Rq.dist r.x r.y x y ≤ max ρ2 dst) (fun r hr => Nat.le_trans (HRj.out r hr) (Nat.le_max_left _ _)) (fun _ => by show Rq.dist rx ry x y ≤ _; rw [hdst]; exact Nat.le_max_right _ _)
        simp only [hdst]
        have hbn := below_new (w3) (.cells #[.int .u64 (id : Int), .int .u32 (rx : Int), .int .u32 (ry : Int), .string rs] 54)
        obtain ⟨v', W', hrun, a1, a2, a3⟩ := append_sl 32 54 Try.underlying32 infoRow rfl (by decide) (by decide) ((w3).alloc (.cells #[.int .u64 (id : Int), .int .u32 (rx : Int), .int .u32 (ry : Int), .string rs] 54)) w1.heap.size fl 1 (.slice go fl gc) (some ⟨(w3).heap.size, 0, none⟩) 1
         ((Dn L i ++ mm.take j).flatMap rc) (rc ⟨id, rx, ry, rs⟩) (own_same HOj.out fun b _ hb' => (hbn.block b (Nat.lt_of_lt_of_le hb' bW.size)).trans (bW.block b hb')) (by have := HBj.out.size; have := bW.size; simp at this ⊢; omega) (one_row (r := ⟨id, rx, ry, rs⟩) (heap_alloc_new (w3) _)) (rc_one' _) (by omega)
        have HO1 : Hid (W'.ownsRow w1.heap.size 54 4 v' (Dn L i ++ mm.take (j + 1)).length ((Dn L i ++ mm.take (j + 1)).flatMap rc)) := by
         refine (?_ : W'.ownsRow w1.heap.size 54 4 v' (Dn L i ++ mm.take (j + 1)).length ((Dn L i ++ mm.take (j + 1)).flatMap rc))
         rw [HTJ.out, List.flatMap_append, List.length_append, HFL.out]
         simpa using a1
        have HBn : Hid (Below w1.heap.size w1 W') := (HBj.out.trans ((bW.mono HBj.out.size).trans (hbn.mono (Nat.le_trans HBj.out.size bW.size)))).grown a2 (by have := HBj.out.size; have := bW.size; simp at this ⊢; omega) fun b eb => (own_base HOj.out eb).1
        have q7 : max (ρ2 : Int) (dst : Int) = ((max ρ2 dst : Nat) : Int) := by omega
        obtain ⟨ρ3, hρ3⟩ : ∃ ρ3, max ρ2 dst = ρ3 := ⟨_, rfl⟩
        rw [hρ3] at HRn q7
        clear b3 bW hg3 hbn a1 a2 a3 HFr HBR HGR hdst hρ3 d0 d1 d2 d3 cx1 cy1
        go_wp2_with (at_builtin; refine list_append rfl 32 32 (.tmp 62) (.tmp 64) rfl (vs := .slice go fl gc) (vx := .slice (some ⟨w3.heap.size, 0, none⟩) 1 1) rfl rfl hrun ?_)
        go_roundw
        case rel => exact ⟨j + 1, ρ3, by go_num, by simp, by omega, HO1.out, HRn.out, HBn.out⟩
        case measure => simp [natOf]; omega
       ·have q6 : ¬ (fl : Int) < (kn : Int) := by omega
        have bW := hbr2
        have HRn : Hid (∀ r ∈ (Dn L i ++ mm.take (j + 1)).take kn, Rq.dist r.x r.y x y ≤ ρ2) := by
         refine (?_ : ∀ r ∈ (Dn L i ++ mm.take (j + 1)).take kn, Rq.dist r.x r.y x y ≤ ρ2)
         rw [HTJ.out]
         exact take_more (P := fun r => Rq.dist r.x r.y x y ≤ ρ2) HRj.out (fun h => by rw [HFL.out] at h; omega)
        obtain ⟨s0, s1, s2, s3⟩ := four_facts hgr2
        have hbn := below_new (wr.alloc (.cells #[.int .u64 (id : Int), .int .u32 (rx : Int), .int .u32 (ry : Int), .string rs] 54)) (.cells #[.int .u64 (id : Int), .int .u32 (rx : Int), .int .u32 (ry : Int), .string rs] 54)
        obtain ⟨v', W', hrun, a1, a2, a3⟩ := append_sl 32 54 Try.underlying32 infoRow rfl (by decide) (by decide) ((wr.alloc (.cells #[.int .u64 (id : Int), .int .u32 (rx : Int), .int .u32 (ry : Int), .string rs] 54)).alloc (.cells #[.int .u64 (id : Int), .int .u32 (rx : Int), .int .u32 (ry : Int), .string rs] 54)) w1.heap.size fl 1 (.slice go fl gc) (some ⟨(wr.alloc (.cells #[.int .u64 (id : Int), .int .u32 (rx : Int), .int .u32 (ry : Int), .string rs] 54)).heap.size, 0, none⟩) 1
         ((Dn L i ++ mm.take j).flatMap rc) (rc ⟨id, rx, ry, rs⟩) (own_same HOj.out fun b _ hb' => (hbn.block b (Nat.lt_of_lt_of_le hb' bW.size)).trans (bW.block b hb')) (by have := HBj.out.size; have := bW.size; simp at this ⊢; omega) (one_row (r := ⟨id, rx, ry, rs⟩) (heap_alloc_new (wr.alloc (.cells #[.int .u64 (id : Int), .int .u32 (rx : Int), .int .u32 (ry : Int), .string rs] 54)) _)) (rc_one' _) (by omega)
        have HO1 : Hid (W'.ownsRow w1.heap.size 54 4 v' (Dn L i ++ mm.take (j + 1)).length ((Dn L i ++ mm.take (j + 1)).flatMap rc)) := by
         refine (?_ : W'.ownsRow w1.heap.size 54 4 v' (Dn L i ++ mm.take (j + 1)).length ((Dn L i ++ mm.take (j + 1)).flatMap rc))
         rw [HTJ.out, List.flatMap_append, List.length_append, HFL.out]
         simpa using a1
        have HBn : Hid (Below w1.heap.size w1 W') := (HBj.out.trans ((bW.mono HBj.out.size).trans (hbn.mono (Nat.le_trans HBj.out.size bW.size)))).grown a2 (by have := HBj.out.size; have := bW.size; simp at this ⊢; omega) fun b eb => (own_base HOj.out eb).1
        have hsz : (wr.alloc (.cells #[.int .u64 (id : Int), .int .u32 (rx : Int), .int .u32 (ry : Int), .string rs] 54)).heap.size = wr.heap.size + 1 := by simp
        rw [hsz] at hrun
        clear bW hbr2 hgr2 hbn a1 a2 a3 HFr hsz s0 s1 s2 s3
        go_wp2_with (at_builtin; refine list_append rfl 32 32 (.tmp 62) (.tmp 64) rfl (vs := .slice go fl gc) (vx := .slice (some ⟨wr.heap.size + 1, 0, none⟩) 1 1) rfl rfl hrun ?_)
        go_roundw
        case rel => exact ⟨j + 1, ρ2, by go_num, rfl, by omega, HO1.out, HRn.out, HBn.out⟩
        case measure => simp [natOf]; omega
      ·obtain rfl : j = mm.length := by omega
       have q5 : ¬ (mm.length : Int) < (mm.length : Int) := by omega
       have HE : Hid (Dn L i ++ mm.take mm.length = Dn L (i + 1)) := by
        refine (?_ : Dn L i ++ mm.take mm.length = Dn L (i + 1))
        rw [HNX.out, List.take_length]
       rw [HE.out] at HRj HFL
       have HO2 : Hid (wr.ownsRow w1.heap.size 54 4 (.slice go fl gc) (Dn L (i + 1)).length ((Dn L (i + 1)).flatMap rc)) := by
        refine (?_ : wr.ownsRow w1.heap.size 54 4 (.slice go fl gc) (Dn L (i + 1)).length ((Dn L (i + 1)).flatMap rc))
        rw [HFL.out, ← HE.out]; exact HOj.out
       clear hbj
       go_wp2_with fail
       go_roundw
       case rel => exact ⟨i + 1, ρ2, by go_num, rfl, by omega, HO2.out, HRj.out, HBj.out⟩
       case measure => simp [natOf]; omega
    ·have q2 : ¬ (kn : Int) ≤ (fn : Int) := by omega
     have hbx := below_new wr (.cells #[.int .u64 (aw : Int), .slice ro mm.length rc'] 87)
     have HOx : Hid ((wr.alloc (.cells #[.int .u64 (aw : Int), .slice ro mm.length rc'] 87)).ownsRow w1.heap.size 54 4 (.slice fo fn fc) fn ((Dn L i).flatMap rc)) := own_same HO.out fun b _ hb => hbx.block b hb
     have HBx : Hid (Below w1.heap.size w1 (wr.alloc (.cells #[.int .u64 (aw : Int), .slice ro mm.length rc'] 87))) := HB.out.trans (hbx.mono HB.out.size)
     clear hbx
     have i1 : (i : Int) + 1 ≤ 9223372036854775807 := by omega
     have m1 : (mm.length : Int) ≤ 1000 := by omega
     go_wp2_with fail
     clear c0 c1 hbl
     generalize wr.alloc (.cells #[.int .u64 (aw : Int), .slice ro mm.length rc'] 87) = Wx at *
     go_loopw [11, 12, 48] (fun fv' ρv jv wr2 => ∃ (j ρ2 : Nat), jv = .int .i64 (j : Int) ∧ ρv = .int .u64 (ρ2 : Int) ∧ j ≤ mm.length ∧ wr2.ownsRow w1.heap.size 54 4 fv' (Dn L i ++ mm.take j).length ((Dn L i ++ mm.take j).flatMap rc) ∧ (∀ r ∈ (Dn L i ++ mm.take j).take kn, Rq.dist r.x r.y x y ≤ ρ2) ∧ Below w1.heap.size w1 wr2) (fun _ _ jv _ => mm.length - natOf jv)
     case atStart =>
      refine ⟨0, ρ, rfl, rfl, Nat.zero_le _, ?_, ?_, HBx.out⟩
      ·rw [List.take_zero, List.append_nil, HFN.out]; exact HOx.out
      ·rw [List.take_zero, List.append_nil]; exact HRO.out
     case round =>
      obtain ⟨j, ρ2, rfl, rfl, hj, hoj, hρj, hbj⟩ := hrel
      have HOj : Hid _ := hoj
      have HRj : Hid (∀ r ∈ (Dn L i ++ mm.take j).take kn, Rq.dist r.x r.y x y ≤ ρ2) := hρj
      have HBj : Hid (Below w1.heap.size w1 wr) := hbj
      obtain ⟨go, gc, rfl, sg⟩ := sl_of_own hoj
      obtain ⟨fl, hfl⟩ : ∃ fl, (Dn L i ++ mm.take j).length = fl := ⟨_, rfl⟩
      have HFL : Hid ((Dn L i ++ mm.take j).length = fl) := hfl
      rw [hfl] at hoj HOj ⊢
      have hfl2 : fl = fn + j := by rw [← hfl, List.length_append, HFN.out, List.length_take]; omega
      have hfl3 : fl ≤ 1000 := by omega
      clear hfl hfl2 sg hρj hoj
      by_cases hjl : j < mm.length
      ·obtain ⟨pb2, off2, rfl, hbl2, hc2⟩ := (HRA.out.below hbj (Nat.le_refl _)).row hjl
       obtain ⟨d0, d1, d2, d3⟩ := hc2 j hjl
       have hmr := HME.out _ (rat_mem hjl)
       have onr := HON.out _ hmr
       have HTJ : Hid (Dn L i ++ mm.take (j + 1) = (Dn L i ++ mm.take j) ++ [rat mm j]) := by
        refine (?_ : Dn L i ++ mm.take (j + 1) = _)
        rw [take_rat mm j hjl, List.append_assoc]
       have HFr : Hid _ := HFa.out (rat mm j) onr.1 onr.2
       generalize rat mm j = rr at *
       obtain ⟨id, rx, ry, rs⟩ := rr
       simp only at d0 d1 d2 d3
       simp only [rv] at HFr
       have cx1 : wr.cell? ⟨gx, 0, none⟩ = some (.int .u32 (x : Int)) := by rw [cell_of_row _ _ _ _ _ _ (HP21.out.grow hbj (Nat.le_refl _)).x]; rfl
       have cy1 : wr.cell? ⟨gy, 0, none⟩ = some (.int .u32 (y : Int)) := by rw [cell_of_row _ _ _ _ _ _ (HP21.out.grow hbj (Nat.le_refl _)).y]; rfl
       have lx1 : gx < wr.heap.size := (Array.getElem?_eq_some_iff.1 (HP21.out.grow hbj (Nat.le_refl _)).x).1
       have ly1 : gy < wr.heap.size := (Array.getElem?_eq_some_iff.1 (HP21.out.grow hbj (Nat.le_refl _)).y).1
       have q5 : (j : Int) < (mm.length : Int) := by omega
       have j0 : (0 : Int) ≤ (j : Int) := by omega
       have j2 : (j : Int) + 1 ≤ 9223372036854775807 := by omega
       have hbr2 := below_new wr (.cells #[.int .u64 (id : Int), .int .u32 (rx : Int), .int .u32 (ry : Int), .string rs] 54)
       have hgr2 := heap_alloc_new wr (.cells #[.int .u64 (id : Int), .int .u32 (rx : Int), .int .u32 (ry : Int), .string rs] 54)
       clear hc2 hmr onr hbj
       by_cases hfk : fl < kn
       ·have q6 : (fl : Int) < (kn : Int) := by omega
        have HBR : Hid _ := hbr2
        have HGR : Hid _ := hgr2
        clear hbr2 hgr2
        go_wp2_with fail
        refine (HFr.out _).mono ?_
        rintro ee w3 ⟨rfl, b3⟩
        have bW : Below wr.heap.size wr w3 := HBR.out.trans (b3.mono (by simp))
        have hg3 := (b3.block wr.heap.size (by simp)).trans HGR.out
        obtain ⟨s0, s1, s2, s3⟩ := four_facts hg3
        have lg3 : wr.heap.size < w3.heap.size := (Array.getElem?_eq_some_iff.1 hg3).1
        obtain ⟨dst, hdst⟩ : ∃ dst, Rq.dist rx ry x y = dst := ⟨_, rfl⟩
        have HRn : Hid (∀ r ∈ (Dn L i ++ mm.take (j + 1)).take kn, Rq.dist r.x r.y x y ≤ max ρ2 dst) := by
         refine (?_ : ∀ r ∈ (Dn L i ++ mm.take (j + 1)).take kn, Rq.dist r.x r.y x y ≤ max ρ2 dst)
         rw [HTJ.out]
         exact take_more (P := fun r => Rq.dist r.x r.y x y ≤ max ρ2 dst) (fun r hr => Nat.le_trans (HRj.out r hr) (Nat.le_max_left _ _)) (fun _ => by show Rq.dist rx ry x y ≤ _; rw [hdst]; exact Nat.le_max_right _ _)
        simp only [hdst]
        have hbn := below_new (w3) (.cells #[.int .u64 (id : Int), .int .u32 (rx : Int), .int .u32 (ry : Int), .string rs] 54)
        obtain ⟨v', W', hrun, a1, a2, a3⟩ := append_sl 32 54 Try.underlying32 infoRow rfl (by decide) (by decide) ((w3).alloc (.cells #[.int .u64 (id : Int), .int .u32 (rx : Int), .int .u32 (ry : Int), .string rs] 54)) w1.heap.size fl 1 (.slice go fl gc) (some ⟨(w3).heap.size, 0, none⟩) 1
         ((Dn L i ++ mm.take j).flatMap rc) (rc ⟨id, rx, ry, rs⟩) (own_same HOj.out fun b _ hb' => (hbn.block b (Nat.lt_of_lt_of_le hb' bW.size)).trans (bW.block b hb')) (by have := HBj.out.size; have := bW.size; simp at this ⊢; omega) (one_row (r := ⟨id, rx, ry, rs⟩) (heap_alloc_new (w3) _)) (rc_one' _) (by omega)
        have HO1 : Hid (W'.ownsRow w1.heap.size 54 4 v' (Dn L i ++ mm.take (j + 1)).length ((Dn L i ++ mm.take (j + 1)).flatMap rc)) := by
         refine (?_ : W'.ownsRow w1.heap.size 54 4 v' (Dn L i ++ mm.take (j + 1)).length ((Dn L i ++ mm.take (j + 1)).flatMap rc))
         rw [HTJ.out, List.flatMap_append, List.length_append, HFL.out]
         simpa using a1
        have HBn : Hid (Below w1.heap.size w1 W') := (HBj.out.trans ((bW.mono HBj.out.size).trans (hbn.mono (Nat.le_trans HBj.out.size bW.size)))).grown a2 (by have := HBj.out.size; have := bW.size; simp at this ⊢; omega) fun b eb => (own_base HOj.out eb).1
        have q7 : max (ρ2 : Int) (dst : Int) = ((max ρ2 dst : Nat) : Int) := by omega
        obtain ⟨ρ3, hρ3⟩ : ∃ ρ3, max ρ2 dst = ρ3 := ⟨_, rfl⟩
        rw [hρ3] at HRn q7
        clear b3 bW hg3 hbn a1 a2 a3 HFr HBR HGR hdst hρ3 d0 d1 d2 d3 cx1 cy1
        go_wp2_with (at_builtin; refine list_append rfl 32 32 (.tmp 62) (.tmp 64) rfl (vs := .slice go fl gc) (vx := .slice (some ⟨w3.heap.size, 0, none⟩) 1 1) rfl rfl hrun ?_)
        go_roundw
        case rel => exact ⟨j + 1, ρ3, by go_num, by simp, by omega, HO1.out, HRn.out, HBn.out⟩
        case measure => simp [natOf]; omega
       ·have q6 : ¬ (fl : Int) < (kn : Int) := by omega
        have bW := hbr2
        have HRn : Hid (∀ r ∈ (Dn L i ++ mm.take (j + 1)).take kn, Rq.dist r.x r.y x y ≤ ρ2) := by
         refine (?_ : ∀ r ∈ (Dn L i ++ mm.take (j + 1)).take kn, Rq.dist r.x r.y x y ≤ ρ2)
         rw [HTJ.out]
         exact take_more (P := fun r => Rq.dist r.x r.y x y ≤ ρ2) HRj.out (fun h => by rw [HFL.out] at h; omega)
        obtain ⟨s0, s1, s2, s3⟩ := four_facts hgr2
        have hbn := below_new (wr.alloc (.cells #[.int .u64 (id : Int), .int .u32 (rx : Int), .int .u32 (ry : Int), .string rs] 54)) (.cells #[.int .u64 (id : Int), .int .u32 (rx : Int), .int .u32 (ry : Int), .string rs] 54)
        obtain ⟨v', W', hrun, a1, a2, a3⟩ := append_sl 32 54 Try.underlying32 infoRow rfl (by decide) (by decide) ((wr.alloc (.cells #[.int .u64 (id : Int), .int .u32 (rx : Int), .int .u32 (ry : Int), .string rs] 54)).alloc (.cells #[.int .u64 (id : Int), .int .u32 (rx : Int), .int .u32 (ry : Int), .string rs] 54)) w1.heap.size fl 1 (.slice go fl gc) (some ⟨(wr.alloc (.cells #[.int .u64 (id : Int), .int .u32 (rx : Int), .int .u32 (ry : Int), .string rs] 54)).heap.size, 0, none⟩) 1
         ((Dn L i ++ mm.take j).flatMap rc) (rc ⟨id, rx, ry, rs⟩) (own_same HOj.out fun b _ hb' => (hbn.block b (Nat.lt_of_lt_of_le hb' bW.size)).trans (bW.block b hb')) (by have := HBj.out.size; have := bW.size; simp at this ⊢; omega) (one_row (r := ⟨id, rx, ry, rs⟩) (heap_alloc_new (wr.alloc (.cells #[.int .u64 (id : Int), .int .u32 (rx : Int), .int .u32 (ry : Int), .string rs] 54)) _)) (rc_one' _) (by omega)
        have HO1 : Hid (W'.ownsRow w1.heap.size 54 4 v' (Dn L i ++ mm.take (j + 1)).length ((Dn L i ++ mm.take (j + 1)).flatMap rc)) := by
         refine (?_ : W'.ownsRow w1.heap.size 54 4 v' (Dn L i ++ mm.take (j + 1)).length ((Dn L i ++ mm.take (j + 1)).flatMap rc))
         rw [HTJ.out, List.flatMap_append, List.length_append, HFL.out]
         simpa using a1
        have HBn : Hid (Below w1.heap.size w1 W') := (HBj.out.trans ((bW.mono HBj.out.size).trans (hbn.mono (Nat.le_trans HBj.out.size bW.size)))).grown a2 (by have := HBj.out.size; have := bW.size; simp at this ⊢; omega) fun b eb => (own_base HOj.out eb).1
        have hsz : (wr.alloc (.cells #[.int .u64 (id : Int), .int .u32 (rx : Int), .int .u32 (ry : Int), .string rs] 54)).heap.size = wr.heap.size + 1 := by simp
        rw [hsz] at hrun
        clear bW hbr2 hgr2 hbn a1 a2 a3 HFr hsz s0 s1 s2 s3
        go_wp2_with (at_builtin; refine list_append rfl 32 32 (.tmp 62) (.tmp 64) rfl (vs := .slice go fl gc) (vx := .slice (some ⟨wr.heap.size + 1, 0, none⟩) 1 1) rfl rfl hrun ?_)
        go_roundw
        case rel => exact ⟨j + 1, ρ2, by go_num, rfl, by omega, HO1.out, HRn.out, HBn.out⟩
        case measure => simp [natOf]; omega
      ·obtain rfl : j = mm.length := by omega
       have q5 : ¬ (mm.length : Int) < (mm.length : Int) := by omega
       have HE : Hid (Dn L i ++ mm.take mm.length = Dn L (i + 1)) := by
        refine (?_ : Dn L i ++ mm.take mm.length = Dn L (i + 1))
        rw [HNX.out, List.take_length]
       rw [HE.out] at HRj HFL
       have HO2 : Hid (wr.ownsRow w1.heap.size 54 4 (.slice go fl gc) (Dn L (i + 1)).length ((Dn L (i + 1)).flatMap rc)) := by
        refine (?_ : wr.ownsRow w1.heap.size 54 4 (.slice go fl gc) (Dn L (i + 1)).length ((Dn L (i + 1)).flatMap rc))
        rw [HFL.out, ← HE.out]; exact HOj.out
       clear hbj
       go_wp2_with fail
       go_roundw
       case rel => exact ⟨i + 1, ρ2, by go_num, rfl, by omega, HO2.out, HRj.out, HBj.out⟩
       case measure => simp [natOf]; omega
  ·obtain rfl : i = pn := by omega
   have q1 : ¬ (i : Int) < (i : Int) := by omega
   have hfo : wr.ownsRow w1.heap.size 54 4 (.slice fo fn fc) (Dn L i).length ((Dn L i).flatMap rc) := by rw [HFN.out]; exact HO.out
   have hbw : Below w1.heap.size w1 wr := HB.out
   have hfl := Dn_len HL3.out i
   have hmx := HMX.out
   have HCM : Hid (∀ _ : True, _) := fun _ => sortR_any w1 _ _ _ _ (cmp_near w1 gx gy x y M HXY.out.1 HXY.out.2 HP21.out) w1.heap.size (Nat.le_refl _) (Dn L i) (by omega) (fun r hr => by
    have mr : r ∈ l := HL3.out.mem_iff.1 (by rw [← Dn_rest L i]; exact List.mem_append.2 (.inl hr))
    exact ⟨HID.out r mr, HON.out r mr⟩) (.slice fo fn fc) (wr) hfo hbw hbw.size
   have HST : Hid (∀ SF : List Rw, SF.Perm (Dn L i) → (SF.Pairwise fun a b => nkey x y M a ≤ nkey x y M b) → SF.take kn = (nsort x y M l).take kn) := fun SF => near_stop HRI.out HID.out HL2.out HPS.out HL3.out HRO.out (.inl (by have := HPN.out; omega))
   have HBW : Hid (Below w1.heap.size w1 (wr)) := hbw
   clear hfo hbw hfl hmx
   go_wp2_with fail
   refine Calls.mono (HCM.out trivial) ?_
   rintro ee w2 ⟨rfl, m, hp, hs, ho2, hb2⟩
   have hml : m.length = fn := hp.length_eq.trans HFN.out
   have hres := HST.out m hp hs
   rw [hml] at ho2
   obtain ⟨fo', fc', hfe, hs2⟩ := sl_of_own ho2
   cases hfe
   obtain ⟨r, hr⟩ : ∃ r, min kn fn = r := ⟨_, rfl⟩
   have hrl : ((nsort x y M l).take kn).length = r := by rw [← hres, List.length_take, hml, hr]
   have hrw : RowsAt w2 fo fc m := by unfold RowsAt; rw [hml]; exact hs2
   have hhd := hrw.head kn
   rw [hres] at hhd
   have hfc := hs2.1
   have hfo0 := hs2.2.2.1
   have hfx := hs2.2.1
   have HFIN : Hid (RowsAt w2 fo r ((nsort x y M l).take kn) ∧ Below w.heap.size w w2) := ⟨⟨by rw [hrl]; exact Nat.le_refl _, by omega, fun e => by have := hfo0 e; omega, hhd.2.2.2.1, hhd.2.2.2.2⟩, HB1.out.trans ((HBW.out.trans hb2).mono HB1.out.size)⟩
   have hmin : (if (fn : Int) < (kn : Int) then (fn : Int) else (kn : Int)) = (r : Int) := by split <;> omega
   have hrun := fun w => run_head fo fn fc r w (by omega) hfo0
   have HCL : Hid (∀ W : World, _) := fun W => clip_any fo r fc W (by omega) hfo0 (by omega)
   have HRL : Hid (((nsort x y M l).take kn).length = r) := hrl
   have q9 : (fn : Int) ≤ 1000 := by omega
   clear hp hs ho2 hb2 hml hres hs2 hr hrl hrw hhd hfc hfo0 hfx HCM HST
   go_wp2_with (refine list_min rfl 3 3 (.tmp 72) (.tmp 74) rfl rfl rfl hmin ?_)
   refine (HCL.out _).mono ?_
   rintro ee w3 ⟨rfl, h⟩
   have h' := h.symm; clear h; subst h'
   clear hrun hmin HCL
   go_wp2_with fail
   simp only [Exit.noGoto]
   go_ret2
   rw [HRL.out]
   exact ⟨_, _, rfl, HFIN.out⟩
theorem bound_ids (l : List Rw) : ∃ M, ∀ r ∈ l, r.id < M := by
 induction l with
 | nil => exact ⟨0, by simp⟩
 | cons a l ih =>
  obtain ⟨M, h⟩ := ih
  refine ⟨max M (a.id + 1), fun r hr => ?_⟩
  rcases List.mem_cons.1 hr with rfl | hr
  ·omega
  ·have := h r hr
   omega
theorem rise_nodup {l : List Rw} (h : Rise l) : l.Nodup := h.imp fun h e => by rw [e] at h; exact Nat.lt_irrefl _ h
def Tkn (l S : List Rw) (t : Nat) (tk : Nat → Bool) : Prop := ∀ i, i < l.length → (tk i = true ↔ rat l i ∈ S.take t)
theorem tkn_zero (l S : List Rw) : Tkn l S 0 fun _ => false := fun i _ => by simp
theorem tkn_some {l S : List Rw} {t : Nat} {tk : Nat → Bool} (hp : S.Perm l) (hl : Rise l) (h : Tkn l S t tk) (ht : t < l.length) : ∃ j, j < l.length ∧ tk j = false ∧ rat l j = S[t]'(by rw [hp.length_eq]; exact ht) := by
 have htS : t < S.length := by rw [hp.length_eq]; exact ht
 obtain ⟨j, hj, e⟩ := List.getElem_of_mem (hp.mem_iff.1 (List.getElem_mem htS))
 refine ⟨j, hj, ?_, by rw [rat_get hj, e]⟩
 cases c : tk j
 ·rfl
 ·have hm := (h j hj).1 c
  rw [rat_get hj, e] at hm
  have hnd : S.Nodup := hp.nodup_iff.2 (rise_nodup hl)
  rw [← List.take_append_drop t S, List.nodup_append] at hnd
  exact (hnd.2.2 _ hm _ (List.mem_drop_iff_getElem.2 ⟨0, by omega, by simp⟩) rfl).elim
set_option maxRecDepth 100000 in
theorem next_best {l : List Rw} {x y M t b : Nat} {tk : Nat → Bool} (hl : Rise l) (hM : ∀ r ∈ l, r.id < M) (h : Tkn l (nsort x y M l) t tk) (ht : t < l.length) (hb : b < l.length) (hbt : tk b = false)
  (hmin : ∀ j, j < l.length → tk j = false → nkey x y M (rat l b) ≤ nkey x y M (rat l j)) : (nsort x y M l).take (t + 1) = (nsort x y M l).take t ++ [rat l b] ∧ Tkn l (nsort x y M l) (t + 1) (fun i => if i = b then true else tk i) := by
 have hp := nsort_perm x y M l
 have hs := nsort_sorted x y M l
 obtain ⟨S, hS⟩ : ∃ S, nsort x y M l = S := ⟨_, rfl⟩
 rw [hS] at hp hs h ⊢
 have htS : t < S.length := by rw [hp.length_eq]; exact ht
 obtain ⟨j, hj, hjt, hje⟩ := tkn_some hp hl h ht
 have e : rat l b = S[t] := by
  refine nkey_inj hl hM (rat_mem hb) (hp.mem_iff.1 (List.getElem_mem htS)) (x := x) (y := y) (by rw [← hje]; exact hmin j hj hjt) ?_
  obtain ⟨i, hi, hie⟩ := List.getElem_of_mem (hp.mem_iff.2 (rat_mem hb))
  have hit : ¬ i < t := fun c => by
   have : rat l b ∈ S.take t := by rw [← hie]; exact List.mem_take_iff_getElem.2 ⟨i, by omega, rfl⟩
   rw [(h b hb).2 this] at hbt
   cases hbt
  by_cases c : i = t
  ·subst c; rw [hie]; exact Nat.le_refl _
  ·have := List.pairwise_iff_getElem.1 hs t i htS hi (by omega)
   rw [← hie]; exact this
 have e2 : S.take (t + 1) = S.take t ++ [rat l b] := by rw [List.take_add_one, List.getElem?_eq_getElem htS, e]; rfl
 refine ⟨e2, fun i hi => ?_⟩
 rw [e2, List.mem_append]
 by_cases c : i = b
 ·subst c; simp
 ·simp only [c, if_false]
  rw [h i hi]
  constructor
  ·exact fun h => .inl h
  ·rintro (h | h)
   ·exact h
   ·have hh : rat l i = rat l b := by simpa using h
    rw [rat_get hi, rat_get hb] at hh
    have hp2 := List.pairwise_iff_getElem.1 hl
    rcases Nat.lt_trichotomy i b with c1 | c1 | c1
    ·have := hp2 i b hi hb c1
     rw [hh] at this
     omega
    ·exact absurd c1 c
    ·have := hp2 b i hb hi c1
     rw [hh] at this
     omega
def Best (l : List Rw) (x y M : Nat) (tk : Nat → Bool) (i : Nat) (z : Int) : Prop :=
 (z = -1 ∧ ∀ j, j < i → tk j = true) ∨ ∃ b : Nat, z = (b : Int) ∧ b < i ∧ tk b = false ∧ ∀ j, j < i → tk j = false → nkey x y M (rat l b) ≤ nkey x y M (rat l j)
theorem best_skip {l : List Rw} {x y M : Nat} {tk : Nat → Bool} {i : Nat} {z : Int} (h : Best l x y M tk i z) (hi : tk i = true) : Best l x y M tk (i + 1) z := by
 rcases h with ⟨h1, h2⟩ | ⟨b, h1, h2, h3, h4⟩
 ·refine .inl ⟨h1, fun j hj => ?_⟩
  by_cases c : j = i
  ·rw [c]; exact hi
  ·exact h2 j (by omega)
 ·refine .inr ⟨b, h1, by omega, h3, fun j hj hjt => ?_⟩
  by_cases c : j = i
  ·rw [c, hi] at hjt; cases hjt
  ·exact h4 j (by omega) hjt
theorem best_first {l : List Rw} {x y M : Nat} {tk : Nat → Bool} {i : Nat} {z : Int} (h : Best l x y M tk i z) (hz : z < 0) (hi : tk i = false) : Best l x y M tk (i + 1) (i : Int) := by
 rcases h with ⟨h1, h2⟩ | ⟨b, h1, h2, h3, h4⟩
 ·refine .inr ⟨i, rfl, by omega, hi, fun j hj hjt => ?_⟩
  by_cases c : j = i
  ·rw [c]; exact Nat.le_refl _
  ·rw [h2 j (by omega)] at hjt; cases hjt
 ·omega
theorem best_less {l : List Rw} {M : Nat} (hM : ∀ r ∈ l, r.id < M) {x y : Nat} {tk : Nat → Bool} {i b : Nat} (hil : i < l.length) (h : Best l x y M tk i (b : Int)) (hi : tk i = false) (hd : Rq.dist (rat l i).x (rat l i).y x y < Rq.dist (rat l b).x (rat l b).y x y) : Best l x y M tk (i + 1) (i : Int) := by
 rcases h with ⟨h1, h2⟩ | ⟨b', h1, h2, h3, h4⟩
 ·omega
 ·obtain rfl : b = b' := by omega
  have hk : nkey x y M (rat l i) < nkey x y M (rat l b) := (key_lt (hM _ (rat_mem hil)) (hM _ (rat_mem (by omega)))).2 (.inl hd)
  refine .inr ⟨i, rfl, by omega, hi, fun j hj hjt => ?_⟩
  by_cases c : j = i
  ·rw [c]; exact Nat.le_refl _
  ·have := h4 j (by omega) hjt
   omega
set_option maxRecDepth 100000 in
theorem best_keep {l : List Rw} {M : Nat} (hl : Rise l) (hM : ∀ r ∈ l, r.id < M) {x y : Nat} {tk : Nat → Bool} {i b : Nat} (hil : i < l.length) (h : Best l x y M tk i (b : Int)) (hd : ¬ Rq.dist (rat l i).x (rat l i).y x y < Rq.dist (rat l b).x (rat l b).y x y) : Best l x y M tk (i + 1) (b : Int) := by
 rcases h with ⟨h1, h2⟩ | ⟨b', h1, h2, h3, h4⟩
 ·omega
 ·obtain rfl : b = b' := by omega
  have hid : (rat l b).id < (rat l i).id := by
   rw [rat_get hil, rat_get (show b < l.length by omega)]
   exact List.pairwise_iff_getElem.1 hl b i (by omega) hil h2
  have hk : nkey x y M (rat l b) < nkey x y M (rat l i) := (key_lt (hM _ (rat_mem (by omega))) (hM _ (rat_mem hil))).2 (by
   by_cases c : Rq.dist (rat l b).x (rat l b).y x y < Rq.dist (rat l i).x (rat l i).y x y
   ·exact .inl c
   ·exact .inr ⟨by omega, hid⟩)
  refine .inr ⟨b, rfl, by omega, h3, fun j hj hjt => ?_⟩
  by_cases c : j = i
  ·rw [c]; exact Nat.le_of_lt hk
  ·exact h4 j (by omega) hjt
def Tk (w : World) (g n : Nat) (tk : Nat → Bool) : Prop := ∃ cs, w.heap[g]? = some (.cells cs 4 (0, 0)) ∧ cs.size = n ∧ ∀ i, i < n → cs[i]? = some (.bool (tk i))
set_option maxRecDepth 100000 in
theorem Tk.same {w w' : World} {g n : Nat} {tk : Nat → Bool} (h : Tk w g n tk) (e : w'.heap[g]? = w.heap[g]?) : Tk w' g n tk := by
 obtain ⟨cs, h1, h2⟩ := h
 exact ⟨cs, e.trans h1, h2⟩
set_option maxRecDepth 100000 in
theorem Tk.lt {w : World} {g n : Nat} {tk : Nat → Bool} (h : Tk w g n tk) : g < w.heap.size := by
 obtain ⟨cs, h1, h2⟩ := h
 exact (Array.getElem?_eq_some_iff.1 h1).1
set_option maxRecDepth 100000 in
theorem Tk.cell {w : World} {g n : Nat} {tk : Nat → Bool} (h : Tk w g n tk) {i : Nat} (hi : i < n) : w.cell? ⟨g, i, none⟩ = some (.bool (tk i)) ∧ w.frozen? ⟨g, i, none⟩ = false := by
 obtain ⟨cs, h1, h2, h3⟩ := h
 exact ⟨by rw [cell_of_row _ _ _ _ _ _ h1]; exact h3 i hi, frozen_of_row w _ _ _ _ h1⟩
set_option maxRecDepth 100000 in
theorem Tk.put {w : World} {g n : Nat} {tk : Nat → Bool} (h : Tk w g n tk) {b : Nat} (hb : b < n) : Tk (w.setCell ⟨g, b, none⟩ (.bool true)) g n (fun i => if i = b then true else tk i) := by
 obtain ⟨cs, h1, h2, h3⟩ := h
 refine ⟨_, heap_setCell_same w g b _ _ (.bool true) h1, by simpa using h2, fun i hi => ?_⟩
 rw [Array.getElem?_setIfInBounds]
 by_cases c : b = i
 ·subst c; simp [h2, hb]
 ·rw [if_neg c, h3 i hi]
  simp only [if_neg (show ¬ i = b from fun e => c e.symm)]
set_option maxRecDepth 100000 in
theorem infoBool : (Try.prog.info? 4).map (fun i => (i.zero, i.size, i.bytes)) = some (some (.bool false), 1, 1) := by kernel_rfl
set_option maxRecDepth 100000 in
theorem make_bools (n : Nat) (hn : n ≤ 1000) (w : World) : (Instr.makeSlice 111 (.int .i64 (n : Int)) (.int .i64 (n : Int))).run Try.prog w = .ok (.slice (some ⟨w.heap.size, 0, none⟩) n n) (w.alloc (.cells (madeCells #[.bool false] n) 4)) := by
 obtain ⟨i, hi, hz, hs, hb⟩ := info_parts infoBool
 have hr := run_make (P := Try.prog) w 111 4 i _ Try.underlying111 hi hz .i64 .i64 n n (by omega) (Int.le_refl _) (by rw [hb]; omega) (by omega)
 simp only [Int.toNat_natCast, hs, Nat.mul_one] at hr
 exact hr
set_option maxRecDepth 100000 in
theorem tk_made (w : World) (n : Nat) : Tk (w.alloc (.cells (madeCells #[.bool false] n) 4)) w.heap.size n fun _ => false :=
 ⟨_, heap_alloc_new w _, by simp [madeCells], fun i hi => by simp [madeCells, hi, Nat.mod_one]⟩
end Go.Proofs.Ytimdlohdmddnjaa.Rq
