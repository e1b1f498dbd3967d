/- Rows of their own are sorted; the rows of a way through them, by rising ids. -/
import Derived.Test.YtimdlohdmddnjaaQBJ
import Derived.Test.YtimdlohdmddnjaaQGG
import Derived.Test.YtimdlohdmddnjaaQEA
namespace Go.Proofs.Ytimdlohdmddnjaa.Rq
open Go.RowKit Go.Lib Go.Shelf
open Go.Proofs.Ytimdlohdmddnjaa.Rc
theorem perm_list {l : List Rw} {d' : Array Rw} (h : Sort.PermIn 0 l.length l.toArray d') : d'.toList.Perm l := by
 obtain ⟨h1, -, h3⟩ := h
 have e1 : d'.extract 0 l.length = d' := by
  have : l.length = d'.size := by rw [h1]; simp
  rw [this]; simp
 rw [e1] at h3
 simpa using h3
theorem srt_list {K : Rw → Nat} {n : Nat} {d' : Array Rw} (hn : d'.size = n) (h : Srt K 0 n d') : d'.toList.Pairwise fun a b => K a ≤ K b := by
 rw [List.pairwise_iff_getElem]
 intro i j hi hj hij
 have hi' : i < d'.size := by simpa using hi
 have hj' : j < d'.size := by simpa using hj
 have := h i j (by omega) hij (by omega)
 rw [getElem!_pos d' i hi', getElem!_pos d' j hj'] at this
 simpa using this
set_option maxRecDepth 100000 in
set_option maxHeartbeats 1000000 in
theorem stable_nil (sv : Value) (cf : Nat) (cb : Array Value) (w : World) :
  Calls Try.prog 81 #[sv, .int .i64 0, .func (.func cf) #[] cb] w fun e w' => e = .returned (.tuple #[]) ∧ Below w.heap.size w w' := by
 have HI : Hid (∀ w : World, Calls Try.prog 91 #[sv, .int .i64 0, .int .i64 0, .func (.func cf) #[] cb] w fun e w' => e = .returned (.tuple #[]) ∧ w' = w) := by
  refine (?_ : ∀ w : World, _)
  intro w
  go_enter Try.func91, Try.ntmps91
  go_wp2_with fail
  refine wp_loop_rounds 1 ?_
  rw [rounds_succ]
  go_wp2_with fail
  refine bodyPost_end (results_none rfl _ _ _) rfl ?_
  exact ⟨rfl, rfl⟩
 go_enter Try.func81, Try.ntmps81
 go_wp2_with fail
 refine wp_loop_rounds 1 ?_
 rw [rounds_succ]
 go_wp2_with fail
 refine (HI.out _).mono ?_
 rintro e w1 ⟨rfl, rfl⟩
 go_wp2_with fail
 refine wp_loop_rounds 1 ?_
 rw [rounds_succ]
 go_wp2_with fail
 refine bodyPost_end (results_none rfl _ _ _) rfl ?_
 exact ⟨rfl, Below.refl _ _⟩
def Sorts (K : Rw → Nat) (base : Nat) (v : Value) (l : List Rw) (w w' : World) : Prop :=
 ∃ m : List Rw, m.Perm l ∧ (m.Pairwise fun a b => K a ≤ K b) ∧ w'.ownsRow base 54 4 v m.length (m.flatMap rc) ∧ Below base w w'
set_option maxRecDepth 100000 in
theorem stable_own (w0 : World) (ok : Rw → Prop) (K : Rw → Nat) (cf : Nat) (cb : Array Value) (hC : Cmp w0 ok (ltK K) cf cb) (base : Nat) (hg : w0.heap.size ≤ base) (l : List Rw) (hl : l.length ≤ 1000000) (hok : ∀ r, r ∈ l → ok r) (v : Value) (w : World) (h : w.ownsRow base 54 4 v l.length (l.flatMap rc)) (hw : Below w0.heap.size w0 w) (hbase : base ≤ w.heap.size) :
  Calls Try.prog 81 #[v, .int .i64 (l.length : Int), .func (.func cf) #[] cb] w fun e w' => e = .returned (.tuple #[]) ∧ Sorts K base v l w w' := by
 by_cases hnil : l = []
 ·subst hnil
  refine (stable_nil v cf cb w).mono ?_
  rintro e w' ⟨rfl, b⟩
  refine ⟨rfl, [], List.Perm.refl _, List.Pairwise.nil, ?_, b.mono hbase⟩
  rcases h.2 with ⟨rfl, -⟩ | ⟨g, cap, cur, rfl, h2, h3, h4⟩
  ·exact ⟨rfl, .inl ⟨rfl, rfl⟩⟩
  ·exact ⟨rfl, .inr ⟨g, cap, cur, rfl, h2, (b.block g (Array.getElem?_eq_some_iff.1 h3).1).trans h3, h4⟩⟩
 ·obtain ⟨g, cap, rfl, hgb, hu⟩ := ur_of_own h hnil
  have hs : l.toArray.size = l.length := by simp
  have hX := stableR_any w0 ok K cf cb hC g (cap * 4) cap (by omega) l.toArray (by omega) (fun i hi => hok _ (by rw [getElem!_pos l.toArray i hi]; simp)) w hu hw
  rw [hs] at hX
  refine hX.mono ?_
  rintro e w' ⟨rfl, d', u', s', p', b'⟩
  have hd' : d'.size = l.length := by rw [p'.1, hs]
  have hm : d'.toList.length = l.length := by simpa using hd'
  refine ⟨rfl, d'.toList, perm_list p', srt_list hd' s', ?_, ?_⟩
  ·have := own_of_ur h (m := d'.toList) (by simpa using u') hm
   rwa [hm] at this ⊢
  ·exact b'.below (fun k hk => by omega) hbase
set_option maxRecDepth 100000 in
theorem own_slice {w : World} {base n : Nat} {v : Value} {xs : List Value} (h : w.ownsRow base 54 4 v n xs) : ∃ po cap, v = .slice po n cap := by
 rcases h.2 with ⟨rfl, rfl⟩ | ⟨g, cap, cur, rfl, -⟩
 ·exact ⟨_, _, rfl⟩
 ·exact ⟨_, _, rfl⟩
set_option maxRecDepth 100000 in
set_option maxHeartbeats 1000000 in
theorem sortR_any (w0 : World) (ok : Rw → Prop) (K : Rw → Nat) (cf : Nat) (cb : Array Value) (hC : Cmp w0 ok (ltK K) cf cb) (base : Nat) (hg : w0.heap.size ≤ base) (l : List Rw) (hl : l.length ≤ 1000000) (hok : ∀ r, r ∈ l → ok r) (v : Value) (w : World) (h : w.ownsRow base 54 4 v l.length (l.flatMap rc)) (hw : Below w0.heap.size w0 w) (hbase : base ≤ w.heap.size) :
  Calls Try.prog 48 #[v, .func (.func cf) #[] cb] w fun e w' => e = .returned (.tuple #[]) ∧ Sorts K base v l w w' := by
 have HC : Hid (∀ _ : True, _) := fun _ => stable_own w0 ok K cf cb hC base hg l hl hok v w h hw hbase
 obtain ⟨po, cap, rfl⟩ := own_slice h
 clear hC hg hok h hw hbase
 obtain ⟨n, hn⟩ : ∃ n, l.length = n := ⟨_, rfl⟩
 rw [hn] at HC ⊢
 have q1 : (n : Int) ≤ 1000000 := by omega
 clear hn hl
 go_enter Try.func48, Try.ntmps48
 go_wp2_with fail
 refine Calls.mono (HC.out trivial) ?_
 rintro e w1 ⟨rfl, h1⟩
 have HS : Hid _ := h1
 clear h1 HC
 go_wp2_with fail
 refine bodyPost_end (results_none rfl _ _ _) rfl ?_
 exact ⟨rfl, HS.out⟩
set_option maxRecDepth 100000 in
set_option maxHeartbeats 1000000 in
theorem sortedR_any (w0 : World) (rs : List Rw) (gf : Nat) (lb : Array Value) (hit : RowsIter w0 rs gf lb) (heg : ∀ args w, (callFunc gf args).run Try.prog w = .ok (.enter gf args) w) (hmax : rs.length ≤ 1000) (ok : Rw → Prop) (K : Rw → Nat) (cf : Nat) (cb : Array Value) (hC : Cmp w0 ok (ltK K) cf cb) (hok : ∀ r, r ∈ rs → ok r) (w : World) (hw : Below w0.heap.size w0 w) :
  Calls Try.prog 65 #[.func (.func gf) #[] lb, .func (.func cf) #[] cb] w fun e w' => ∃ v, e = .returned v ∧ Sorts K w.heap.size v rs w w' := by
 have HC : Hid _ := collect_any w0 rs gf lb hit heg hmax
 have HR : Hid _ := sortR_any w0 ok K cf cb hC w.heap.size hw.size rs (by omega) hok
 have HW : Hid (Below w0.heap.size w0 w) := hw
 clear hit heg hC hok hmax hw
 go_enter Try.func65, Try.ntmps65
 go_wp2_with fail
 refine (HC.out w HW.out).mono ?_
 rintro e w1 ⟨v, rfl, h1, h2⟩
 have HR1 : Hid (∀ _ : True, _) := fun _ => HR.out v w1 h1 (HW.out.trans (h2.mono HW.out.size)) h2.size
 have HB1 : Hid _ := h2
 clear h1 h2 HR HC
 go_wp2_with fail
 refine Calls.mono (HR1.out trivial) ?_
 rintro e w2 ⟨rfl, m, hp, hs, ho, hb⟩
 have HE : Hid (Sorts K w.heap.size v rs w w2) := ⟨m, hp, hs, ho, HB1.out.trans hb⟩
 clear hp hs ho hb HR1 HB1
 go_wp2_with fail
 go_ret
 exact ⟨_, rfl, HE.out⟩
set_option maxRecDepth 100000 in
theorem cmp_byId (w0 : World) : Cmp w0 (fun _ => True) (ltK Rw.id) 66 #[] :=
 ⟨fun _ _ => rfl, fun W _ a b _ _ => (byId1_any a b W).mono fun e W' ⟨h1, h2⟩ => ⟨_, h1, by unfold cmpS ltK; by_cases c : a.id < b.id <;> by_cases c2 : b.id < a.id <;> simp [c, c2], h2⟩⟩
set_option maxRecDepth 100000 in
set_option maxHeartbeats 1000000 in
theorem byId_any (w0 : World) (rs : List Rw) (gf : Nat) (lb : Array Value) (hit : RowsIter w0 rs gf lb) (heg : ∀ args w, (callFunc gf args).run Try.prog w = .ok (.enter gf args) w) (hmax : rs.length ≤ 1000) (w : World) (hw : Below w0.heap.size w0 w) :
  Calls Try.prog 34 #[.func (.func gf) #[] lb] w fun e w' => ∃ v, e = .returned v ∧ Sorts Rw.id w.heap.size v rs w w' := by
 have HC : Hid (∀ _ : True, _) := fun _ => sortedR_any w0 rs gf lb hit heg hmax _ _ _ _ (cmp_byId w0) (fun _ _ => trivial) w hw
 clear hit heg hmax hw
 go_enter Try.func34, Try.ntmps34
 go_wp2_with fail
 refine Calls.mono (HC.out trivial) ?_
 rintro e w1 ⟨v, rfl, h1⟩
 have HE : Hid _ := h1
 clear h1 HC
 go_wp2_with fail
 go_ret
 exact ⟨_, rfl, HE.out⟩
set_option maxRecDepth 100000 in
theorem own_down {w : World} {B B' n : Nat} {v : Value} {xs : List Value} (h : w.ownsRow B 54 4 v n xs) (hB : B' ≤ B) : w.ownsRow B' 54 4 v n xs := by
 refine ⟨h.1, ?_⟩
 rcases h.2 with h2 | ⟨g, cap, cur, h1, h2, h3⟩
 ·exact .inl h2
 ·exact .inr ⟨g, cap, cur, h1, Nat.le_trans hB h2, h3⟩
set_option maxRecDepth 100000 in
theorem sorts_is {base : Nat} {v : Value} {rs t : List Rw} {w w' : World} (h : Sorts Rw.id base v rs w w') (hp : rs.Perm t) (ht : Rise t) : w'.ownsRow base 54 4 v t.length (t.flatMap rc) ∧ Below base w w' := by
 obtain ⟨m, h1, h2, h3, h4⟩ := h
 obtain rfl : m = t := sorted_is (h2.imp fun h => by omega) (h1.trans hp) ht
 exact ⟨h3, h4⟩
set_option maxRecDepth 100000 in
set_option maxHeartbeats 1000000 in
theorem rowsQ_any (n : Nv) (l : List Rw) (d : Nat) (w : World) (hN : NodeAt (fun _ => True) d w n l) (hon : On l) (hmax : l.length ≤ 1000) (hri : Rise l) :
  Calls Try.prog 20 #[nv n] w fun e w' => ∃ v, e = .returned v ∧ w'.ownsRow w.heap.size 54 4 v l.length (l.flatMap rc) ∧ Below w.heap.size w w' := by
 have hp := seqs_perm (fun _ _ _ => true) (fun _ => true) (fun m _ _ h => by simp at h) d l hN.fits hon
 rw [filter_all] at hp
 have HP : Hid _ := hp
 have hb0 := below_new w (.cells #[.int .u32 (n.X : Int), .int .u32 (n.Y : Int), .int .i64 (n.L : Int), .slice n.ro n.rn n.rc, .slice n.ko n.kn n.kc] 45)
 have HB0 : Hid (Below w.heap.size w (w.alloc (.cells #[.int .u32 (n.X : Int), .int .u32 (n.Y : Int), .int .i64 (n.L : Int), .slice n.ro n.rn n.rc, .slice n.ko n.kn n.kc] 45))) := hb0
 have HNA : Hid (NodeAt (fun _ => True) d (w.alloc (.cells #[.int .u32 (n.X : Int), .int .u32 (n.Y : Int), .int .i64 (n.L : Int), .slice n.ro n.rn n.rc, .slice n.ko n.kn n.kc] 45)) n l) := hN.below hb0 (Nat.le_refl _)
 have HON : Hid (On l) := hon
 have HM : Hid (l.length ≤ 1000) := hmax
 have HRI : Hid (Rise l) := hri
 have HRA : Hid _ := rows_any n
 clear hN hon hmax hp hb0 hri
 obtain ⟨nX, nY, nL, nro, nrn, nrc, nko, nkn, nkc⟩ := n
 simp only [nv] at HRA ⊢
 simp only at HB0 HNA
 go_enter Try.func20, Try.ntmps20
 go_wp2_with fail
 refine (HRA.out _ _ _ _ _).mono ?_
 rintro e w1 ⟨rfl, hw1⟩
 obtain ⟨hb1, hit⟩ := rows_iter _ _ _ _ _ _ _ d _ l HNA.out HON.out HM.out w1 hw1 (ent_all w1) (kep_all w1)
 have hc := byId_any w1 _ _ _ hit rows1_eg (by rw [HP.out.length_eq]; exact HM.out) w1 (Below.refl _ _)
 have hsz : (w.alloc (.cells #[.int .u32 (nX : Int), .int .u32 (nY : Int), .int .i64 (nL : Int), .slice nro nrn nrc, .slice nko nkn nkc] 45)).heap.size = w.heap.size + 1 := by simp
 rw [hsz] at hc
 have HC : Hid (∀ _ : True, Calls Try.prog 34 #[.func (.func 67) #[] #[.pointer (some ⟨w.heap.size + 1 + 1, 0, none⟩), .pointer (some ⟨w.heap.size + 1, 0, none⟩), .pointer (some ⟨w.heap.size + 1 + 2, 0, none⟩)]] w1 fun e w' => ∃ v, e = .returned v ∧ w'.ownsRow w1.heap.size 54 4 v l.length (l.flatMap rc) ∧ Below w1.heap.size w1 w') := fun _ => hc.mono fun e w' ⟨v, h1, h2⟩ => ⟨v, h1, sorts_is h2 HP.out HRI.out⟩
 clear hc hsz
 have HB1 : Hid (Below w.heap.size w w1) := HB0.out.trans (hb1.mono (by simp))
 clear hw1 hit hb1
 go_wp2_with fail
 refine Calls.mono (HC.out trivial) ?_
 rintro e w2 ⟨v, rfl, ho2, hb2⟩
 have HO2 : Hid (w2.ownsRow w.heap.size 54 4 v l.length (l.flatMap rc)) := own_down ho2 HB1.out.size
 have HB2 : Hid (Below w.heap.size w w2) := HB1.out.trans (hb2.mono HB1.out.size)
 clear hb2 ho2
 go_wp2_with fail
 go_ret
 exact ⟨_, rfl, HO2.out, HB2.out⟩
set_option maxRecDepth 100000 in
set_option maxHeartbeats 1000000 in
theorem inBoxW_no (n : Nv) (a b c d : Nat) (fv : Value) (hb : boxS a b c d = false) (w : World) :
  Calls Try.prog 38 #[nv n, bv a b c d, fv] w fun e w' => e = .returned (.tuple #[.slice none 0 0, .int .i64 81]) ∧ Below w.heap.size w w' := by
 have HC : Hid _ := rightBox_any a b c d
 rw [hb] at HC
 have HB0 : Hid (Below w.heap.size w ((w.alloc (.cells #[.int .u32 (n.X : Int), .int .u32 (n.Y : Int), .int .i64 (n.L : Int), .slice n.ro n.rn n.rc, .slice n.ko n.kn n.kc] 45)).alloc (.cells #[.int .u32 (a : Int), .int .u32 (b : Int), .int .u32 (c : Int), .int .u32 (d : Int)] 24))) := (below_new w _).alloc (by simp) _
 obtain ⟨nX, nY, nL, nro, nrn, nrc, nko, nkn, nkc⟩ := n
 simp only [nv, bv] at HC ⊢
 simp only at HB0
 clear hb
 go_enter Try.func38, Try.ntmps38
 go_wp2_with fail
 refine (HC.out _).mono ?_
 rintro e w1 ⟨rfl, b1⟩
 have HB1 : Hid (Below w.heap.size w w1) := HB0.out.trans (b1.mono (by simp; omega))
 clear b1
 go_wp2_with fail
 go_ret2
 exact ⟨rfl, HB1.out⟩
set_option maxRecDepth 100000 in
set_option maxHeartbeats 1000000 in
theorem inBoxW_ok (n : Nv) (l : List Rw) (dd : Nat) (a b c d : Nat) (hb : boxS a b c d = true) (w : World) (hN : NodeAt (fun _ => True) dd w n l) (hon : On l) (hmax : l.length ≤ 1000) (hri : Rise l) :
  Calls Try.prog 38 #[nv n, bv a b c d, .func (.func 34) #[] #[]] w fun e w' => ∃ v, e = .returned (.tuple #[v, .int .i64 0]) ∧ w'.ownsRow w.heap.size 54 4 v (l.filter fun r => inS a b c d r.x r.y).length ((l.filter fun r => inS a b c d r.x r.y).flatMap rc) ∧ Below w.heap.size w w' := by
 have hp := seqs_perm (fun X Y L => touchS X Y (L : Int) a b c d) (fun r => inS a b c d r.x r.y) (box_all a b c d) dd l hN.fits hon
 have HP : Hid _ := hp
 have HC : Hid _ := rightBox_any a b c d
 rw [hb] at HC
 obtain ⟨W0, hW0⟩ : ∃ W0, (w.alloc (.cells #[.int .u32 (n.X : Int), .int .u32 (n.Y : Int), .int .i64 (n.L : Int), .slice n.ro n.rn n.rc, .slice n.ko n.kn n.kc] 45)).alloc (.cells #[.int .u32 (a : Int), .int .u32 (b : Int), .int .u32 (c : Int), .int .u32 (d : Int)] 24) = W0 := ⟨_, rfl⟩
 obtain ⟨y1, y2, y3⟩ := two_new w (.cells #[.int .u32 (n.X : Int), .int .u32 (n.Y : Int), .int .i64 (n.L : Int), .slice n.ro n.rn n.rc, .slice n.ko n.kn n.kc] 45) (.cells #[.int .u32 (a : Int), .int .u32 (b : Int), .int .u32 (c : Int), .int .u32 (d : Int)] 24)
 rw [hW0] at y1 y2 y3
 have HY1 : Hid (W0.heap[w.heap.size]? = some (.cells #[.int .u32 (n.X : Int), .int .u32 (n.Y : Int), .int .i64 (n.L : Int), .slice n.ro n.rn n.rc, .slice n.ko n.kn n.kc] 45 (0, 0))) := y1
 have HY2 : Hid (W0.heap[w.heap.size + 1]? = some (.cells #[.int .u32 (a : Int), .int .u32 (b : Int), .int .u32 (c : Int), .int .u32 (d : Int)] 24 (0, 0))) := y2
 have HB0 : Hid (Below w.heap.size w W0) := y3
 have HW0 : Hid _ := hW0
 have HNA : Hid (NodeAt (fun _ => True) dd W0 n l) := hN.below y3 (Nat.le_refl _)
 have HON : Hid (On l) := hon
 have HM : Hid (l.length ≤ 1000) := hmax
 have HRI : Hid (Rise (l.filter fun r => inS a b c d r.x r.y)) := rise_filter hri _
 have HRA : Hid _ := rows_any n
 clear hN hon hmax hp y1 y2 y3 hb hW0 hri
 obtain ⟨nX, nY, nL, nro, nrn, nrc, nko, nkn, nkc⟩ := n
 simp only [nv, bv] at HRA HC ⊢
 simp only at HNA HY1 HW0
 go_enter Try.func38, Try.ntmps38
 go_wp2_with fail
 refine (HC.out _).mono ?_
 rw [HW0.out]
 rintro e w1 ⟨rfl, b1⟩
 have l2 := (Array.getElem?_eq_some_iff.1 HY2.out).1
 have l1 := (Array.getElem?_eq_some_iff.1 HY1.out).1
 have HG1 : Hid (w1.heap[w.heap.size + 1]? = some (.cells #[.int .u32 (a : Int), .int .u32 (b : Int), .int .u32 (c : Int), .int .u32 (d : Int)] 24 (0, 0))) := (b1.block _ l2).trans HY2.out
 have hn1 := (b1.block _ l1).trans HY1.out
 obtain ⟨z0, z1, z2, z3, z4, f0, f1, f2, f3, f4⟩ := node_facts hn1
 have ln : w.heap.size < w1.heap.size := (Array.getElem?_eq_some_iff.1 hn1).1
 have HNB : Hid (NodeAt (fun _ => True) dd w1 ⟨nX, nY, nL, nro, nrn, nrc, nko, nkn, nkc⟩ l) := HNA.out.below b1 (Nat.le_refl _)
 have HB1 : Hid (Below w.heap.size w w1) := HB0.out.trans (b1.mono HB0.out.size)
 clear b1 z0 z1 z2 z3 z4 l1 l2 hn1 HW0 HY1 HY2 HNA
 go_wp2_with fail
 refine (HRA.out _ _ _ _ _).mono ?_
 rintro e w2 ⟨rfl, hw2⟩
 have hb12 : Below w1.heap.size w1 w2 := by rw [hw2]; exact ((below_new w1 _).alloc (by simp) _).alloc (by simp; omega) _
 have hg2 := (hb12.block _ (Array.getElem?_eq_some_iff.1 HG1.out).1).trans HG1.out
 obtain ⟨hb2, hit⟩ := rows_iter _ _ _ _ _ _ _ dd _ l HNB.out HON.out HM.out w2 hw2 (ent_boxW w2 _ a b c d hg2) (kep_boxW w2 _ a b c d hg2)
 have hc := byId_any w2 _ _ _ hit rows1_eg (by rw [HP.out.length_eq]; exact Nat.le_trans (List.length_filter_le _ _) HM.out) w2 (Below.refl _ _)
 obtain ⟨ll, hll⟩ : ∃ ll, (l.filter fun r => inS a b c d r.x r.y) = ll := ⟨_, rfl⟩
 have HLL : Hid ((l.filter fun r => inS a b c d r.x r.y) = ll) := hll
 have hp2 := HP.out
 have hri2 := HRI.out
 rw [hll] at hp2 hri2
 clear hll
 have HCC : Hid (∀ _ : True, Calls Try.prog 34 #[.func (.func 67) #[] #[.pointer (some ⟨w1.heap.size + 1, 0, none⟩), .pointer (some ⟨w1.heap.size, 0, none⟩), .pointer (some ⟨w1.heap.size + 2, 0, none⟩)]] w2 fun e w' => ∃ v, e = .returned v ∧ w'.ownsRow w2.heap.size 54 4 v ll.length (ll.flatMap rc) ∧ Below w2.heap.size w2 w') := fun _ => hc.mono fun e w' ⟨v, h1, h2⟩ => ⟨v, h1, sorts_is h2 hp2 hri2⟩
 have HB2 : Hid (Below w.heap.size w w2) := HB1.out.trans (hb12.mono HB1.out.size)
 clear hw2 hit hb2 hb12 hg2 hc hp2 hri2
 go_wp2_with fail
 refine Calls.mono (HCC.out trivial) ?_
 rintro e w3 ⟨v, rfl, ho3, hb3⟩
 have HO3 : Hid (w3.ownsRow w.heap.size 54 4 v ll.length (ll.flatMap rc)) := own_down ho3 HB2.out.size
 have HB3 : Hid (Below w.heap.size w w3) := HB2.out.trans (hb3.mono HB2.out.size)
 clear hb3 ho3
 go_wp2_with fail
 go_ret2
 rw [HLL.out]
 exact ⟨_, rfl, HO3.out, HB3.out⟩
def winV (l : List Rw) (a b c d : Nat) : List Rw := if boxS a b c d = true then (l.filter fun r => inS a b c d r.x r.y) else []
set_option maxRecDepth 100000 in
theorem inBoxW_any (n : Nv) (l : List Rw) (dd : Nat) (a b c d : Nat) (w : World) (hN : NodeAt (fun _ => True) dd w n l) (hon : On l) (hmax : l.length ≤ 1000) (hri : Rise l) :
  Calls Try.prog 38 #[nv n, bv a b c d, .func (.func 34) #[] #[]] w fun e w' => ∃ v, e = .returned (.tuple #[v, .int .i64 (boxE a b c d)]) ∧ w'.ownsRow w.heap.size 54 4 v (winV l a b c d).length ((winV l a b c d).flatMap rc) ∧ Below w.heap.size w w' := by
 unfold winV boxE
 cases hb : boxS a b c d
 ·refine (inBoxW_no n a b c d _ hb w).mono ?_
  rintro e w' ⟨h1, h2⟩
  exact ⟨_, by simpa using h1, ⟨rfl, .inl ⟨rfl, rfl⟩⟩, h2⟩
 ·simpa using inBoxW_ok n l dd a b c d hb w hN hon hmax hri
set_option maxRecDepth 100000 in
set_option maxHeartbeats 1000000 in
theorem window_any (n : Nv) (l : List Rw) (dd : Nat) (a b c d : Nat) (w : World) (hN : NodeAt (fun _ => True) dd w n l) (hon : On l) (hmax : l.length ≤ 1000) (hri : Rise l) :
  Calls Try.prog 21 #[nv n, bv a b c d] w fun e w' => ∃ v, e = .returned (.tuple #[v, .int .i64 (boxE a b c d)]) ∧ w'.ownsRow w.heap.size 54 4 v (winV l a b c d).length ((winV l a b c d).flatMap rc) ∧ Below w.heap.size w w' := by
 have hb0 : Below w.heap.size w ((w.alloc (.cells #[.int .u32 (n.X : Int), .int .u32 (n.Y : Int), .int .i64 (n.L : Int), .slice n.ro n.rn n.rc, .slice n.ko n.kn n.kc] 45)).alloc (.cells #[.int .u32 (a : Int), .int .u32 (b : Int), .int .u32 (c : Int), .int .u32 (d : Int)] 24)) := (below_new w _).alloc (by simp) _
 have HB0 : Hid _ := hb0
 have HC : Hid (∀ _ : True, _) := fun _ => inBoxW_any n l dd a b c d _ (hN.below hb0 (Nat.le_refl _)) hon hmax hri
 clear hb0 hN hon hmax hri
 obtain ⟨nX, nY, nL, nro, nrn, nrc, nko, nkn, nkc⟩ := n
 simp only [nv, bv] at HC HB0 ⊢
 generalize winV l a b c d = cv' at *
 generalize boxE a b c d = be at *
 go_enter Try.func21, Try.ntmps21
 go_wp2_with fail
 refine Calls.mono (HC.out trivial) ?_
 rintro e w1 ⟨v, rfl, o1, b1⟩
 have HB1 : Hid (Below w.heap.size w w1) := HB0.out.trans (b1.mono (by simp; omega))
 have HO1 : Hid (w1.ownsRow w.heap.size 54 4 v cv'.length (cv'.flatMap rc)) := own_down o1 (by simp; omega)
 clear b1 o1 HC HB0
 go_wp2_with fail
 go_ret2
 exact ⟨_, rfl, HO1.out, HB1.out⟩
def fk (f : Rw → Bool) (l : List Rw) (k : Nat) : List Rw := (l.take k).filter f
theorem fk_len (f : Rw → Bool) (l : List Rw) (k : Nat) : (fk f l k).length ≤ k := Nat.le_trans (List.length_filter_le _ _) (by rw [List.length_take]; omega)
theorem fk_next (f : Rw → Bool) (l : List Rw) (k : Nat) (h : k < l.length) : fk f l (k + 1) = fk f l k ++ (if f (rat l k) = true then [rat l k] else []) := by
 unfold fk
 rw [List.take_add_one, rat_some h, List.filter_append]
 cases c : f (rat l k) <;> simp [c]
theorem fk_zero (f : Rw → Bool) (l : List Rw) : fk f l 0 = [] := by simp [fk]
theorem fk_all (f : Rw → Bool) (l : List Rw) : fk f l l.length = l.filter f := by unfold fk; rw [List.take_length]
def QW (g a b c d p x u v : Nat) (w : World) : Prop := (w.cell? ⟨g, 0, none⟩ = some (.int .u32 (a : Int)) ∧ w.cell? ⟨g, 1, none⟩ = some (.int .u32 (b : Int)) ∧ w.cell? ⟨g, 2, none⟩ = some (.int .u32 (c : Int)) ∧ w.cell? ⟨g, 3, none⟩ = some (.int .u32 (d : Int))) ∧ w.cell? ⟨p, x + 1, none⟩ = some (.int .u32 (u : Int)) ∧ w.cell? ⟨p, x + 2, none⟩ = some (.int .u32 (v : Int))
def QP (p x u v : Nat) (w : World) : Prop := w.cell? ⟨p, x + 1, none⟩ = some (.int .u32 (u : Int)) ∧ w.cell? ⟨p, x + 2, none⟩ = some (.int .u32 (v : Int))
set_option maxRecDepth 100000 in
set_option maxHeartbeats 2000000 in
theorem rWin_ok (l : List Rw) (o : Option Addr) (cap a b c d : Nat) (hb : boxS a b c d = true) (w : World) (hr : RowsAt w o cap l) (hm : l.length ≤ 1000) :
  Calls Try.prog 58 #[.slice o l.length cap, bv a b c d] w fun e w' => ∃ v, e = .returned (.tuple #[v, .int .i64 0]) ∧ w'.ownsRow w.heap.size 54 4 v (l.filter fun r => inS a b c d r.x r.y).length ((l.filter fun r => inS a b c d r.x r.y).flatMap rc) ∧ Below w.heap.size w w' := by
 obtain ⟨f, hfd⟩ : ∃ f : Rw → Bool, (fun r : Rw => inS a b c d r.x r.y) = f := ⟨_, rfl⟩
 have HFD : Hid (∀ r : Rw, f r = inS a b c d r.x r.y) := fun r => by rw [← hfd]
 rw [hfd]
 clear hfd
 have HCB : Hid _ := eRightBox_any a b c d
 have HCI : Hid _ := eIn_any a b c d
 rw [hb] at HCB
 have hbn0 := below_new w (.cells #[.int .u32 (a : Int), .int .u32 (b : Int), .int .u32 (c : Int), .int .u32 (d : Int)] 24)
 have hg0 := heap_alloc_new w (.cells #[.int .u32 (a : Int), .int .u32 (b : Int), .int .u32 (c : Int), .int .u32 (d : Int)] 24)
 have HBN : Hid _ := hbn0
 have HGN : Hid _ := hg0
 have HR0 : Hid (RowsAt w o cap l) := hr
 clear hr hb hbn0 hg0
 simp only [bv] at HCB HCI ⊢
 go_enter Try.func58, Try.ntmps58
 go_wp2_with fail
 refine (HCB.out _).mono ?_
 rintro e W0 ⟨rfl, b0⟩
 have HB0 : Hid (Below w.heap.size w W0) := HBN.out.trans (b0.mono (by simp))
 have HG0 : Hid (W0.heap[w.heap.size]? = some (.cells #[.int .u32 (a : Int), .int .u32 (b : Int), .int .u32 (c : Int), .int .u32 (d : Int)] 24 (0, 0))) := (b0.block _ (by simp)).trans HGN.out
 have HR : Hid (RowsAt W0 o cap l) := HR0.out.below HB0.out (Nat.le_refl _)
 clear b0 HBN HGN HCB HR0
 go_wp2_with fail
 go_loopw [7, 8] (fun pv i wr => ∃ k : Nat, k ≤ l.length ∧ i = .int .i64 (k : Int) ∧ wr.ownsRow W0.heap.size 54 4 pv (fk f l k).length ((fk f l k).flatMap rc) ∧ Below W0.heap.size W0 wr) (fun _ i _ => l.length - natOf i)
 case atStart =>
  refine ⟨0, by omega, rfl, ?_, Below.refl _ _⟩
  rw [fk_zero]
  exact World.ownsRow_nil _ _ _ _
 case round =>
  obtain ⟨k, hk, rfl, ho, hb⟩ := hrel
  have HO : Hid _ := ho
  have HBk : Hid (Below W0.heap.size W0 wr) := hb
  obtain ⟨po, pc, rfl, sp⟩ := sl_of_own ho
  obtain ⟨pn, hpn⟩ : ∃ pn, (fk f l k).length = pn := ⟨_, rfl⟩
  have HPN : Hid ((fk f l k).length = pn) := hpn
  have hpl := fk_len f l k
  rw [hpn] at ho HO sp hpl ⊢
  by_cases hkl : k < l.length
  ·obtain ⟨p, off, rfl, hbl, hc⟩ := (HR.out.below hb (Nat.le_refl _)).row hkl
   obtain ⟨c0, c1, c2, c3⟩ := hc k hkl
   have hnx := fk_next f l k hkl
   have q5 : (k : Int) < (l.length : Int) := by omega
   have k0 : (0 : Int) ≤ (k : Int) := by omega
   have k2 : (k : Int) + 1 ≤ 9223372036854775807 := by omega
   have gk : wr.heap[w.heap.size]? = some (.cells #[.int .u32 (a : Int), .int .u32 (b : Int), .int .u32 (c : Int), .int .u32 (d : Int)] 24 (0, 0)) := (hb.block _ (Array.getElem?_eq_some_iff.1 HG0.out).1).trans HG0.out
   have hgk : w.heap.size < wr.heap.size := (Array.getElem?_eq_some_iff.1 gk).1
   have HGK : Hid (wr.heap[w.heap.size]? = some (.cells #[.int .u32 (a : Int), .int .u32 (b : Int), .int .u32 (c : Int), .int .u32 (d : Int)] 24 (0, 0))) := gk
   generalize rat l k = r at *
   obtain ⟨id, x, y, v⟩ := r
   simp only at c0 c1 c2 c3 hnx
   have HSW : Hid (QW w.heap.size a b c d p (off + k * 4) x y wr.drew) := ⟨box_cells gk, c1, c2⟩
   clear gk
   have HCR : Hid (Fr wr p (off + k * 4) ⟨id, x, y, v⟩) := ⟨c0, c1, c2, c3⟩
   clear hc c0 c1 c2 c3
   cases hf : f ⟨id, x, y, v⟩
   ·rw [hf] at hnx
    have HC : Hid _ := HCI.out x y
    rw [← HFD.out ⟨id, x, y, v⟩, hf] at HC
    clear HCI
    have HNX : Hid (fk f l (k + 1) = fk f l k) := by
     refine (?_ : fk f l (k + 1) = _)
     rw [hnx]; simp
    clear hnx
    go_wp2_with fail
    refine wp_region_held (S := QW w.heap.size a b c d p (off + k * 4) x y) (by kernel_rfl) ?_
    change wpAnyH _ _ _ _ _ _ _ _ (World.drew _)
    refine wpAnyH_take (i := 0) (v := ?_) rfl (by kernel_rfl) (by kernel_rfl) (by kernel_rfl) (fun _ _ _ h => h) (Or.inl ⟨by kernel_rfl, ?_⟩) HSW.out ?_
    rotate_left
    ·rintro w ⟨⟨e0,e1,e2,e3⟩,f1,f2⟩; go_simp; try with_reducible rfl
    conv in (Act.put _ _ _) => simp only [List.getElem_toArray, List.getElem_cons_succ, List.getElem_cons_zero, Act.put, List.setIfInBounds_toArray, List.set_cons_succ, List.set_cons_zero]
    refine wpAnyH_take (i := 1) (v := ?_) rfl (by kernel_rfl) (by kernel_rfl) (by kernel_rfl) (fun _ _ _ h => h) (Or.inl ⟨by kernel_rfl, ?_⟩) HSW.out ?_
    rotate_left
    ·rintro w ⟨⟨e0,e1,e2,e3⟩,f1,f2⟩; go_simp; try with_reducible rfl
    conv in (Act.put _ _ _) => simp only [List.getElem_toArray, List.getElem_cons_succ, List.getElem_cons_zero, Act.put, List.setIfInBounds_toArray, List.set_cons_succ, List.set_cons_zero]
    refine wpAnyH_take (i := 2) (v := ?_) rfl (by kernel_rfl) (by kernel_rfl) (by kernel_rfl) (fun _ _ _ h => h) (Or.inl ⟨by kernel_rfl, ?_⟩) HSW.out ?_
    rotate_left
    ·rintro w ⟨⟨e0,e1,e2,e3⟩,f1,f2⟩; go_simp; try with_reducible rfl
    conv in (Act.put _ _ _) => simp only [List.getElem_toArray, List.getElem_cons_succ, List.getElem_cons_zero, Act.put, List.setIfInBounds_toArray, List.set_cons_succ, List.set_cons_zero]
    refine wpAnyH_take (i := 3) (v := ?_) rfl (by kernel_rfl) (by kernel_rfl) (by kernel_rfl) (fun _ _ _ h => h) (Or.inl ⟨by kernel_rfl, ?_⟩) HSW.out ?_
    rotate_left
    ·rintro w ⟨⟨e0,e1,e2,e3⟩,f1,f2⟩; go_simp; try with_reducible rfl
    conv in (Act.put _ _ _) => simp only [List.getElem_toArray, List.getElem_cons_succ, List.getElem_cons_zero, Act.put, List.setIfInBounds_toArray, List.set_cons_succ, List.set_cons_zero]
    refine wpAnyH_take (i := 4) (v := ?_) rfl (by kernel_rfl) (by kernel_rfl) (by kernel_rfl) (fun _ _ _ h => h) (Or.inl ⟨by kernel_rfl, ?_⟩) HSW.out ?_
    rotate_left
    ·rintro w ⟨⟨e0,e1,e2,e3⟩,f1,f2⟩; go_simp; try with_reducible rfl
    conv in (Act.put _ _ _) => simp only [List.getElem_toArray, List.getElem_cons_succ, List.getElem_cons_zero, Act.put, List.setIfInBounds_toArray, List.set_cons_succ, List.set_cons_zero]
    refine wpAnyH_take (i := 5) (v := ?_) rfl (by kernel_rfl) (by kernel_rfl) (by kernel_rfl) (fun _ _ _ h => h) (Or.inl ⟨by kernel_rfl, ?_⟩) HSW.out ?_
    rotate_left
    ·rintro w ⟨⟨e0,e1,e2,e3⟩,f1,f2⟩; go_simp; try with_reducible rfl
    conv in (Act.put _ _ _) => simp only [List.getElem_toArray, List.getElem_cons_succ, List.getElem_cons_zero, Act.put, List.setIfInBounds_toArray, List.set_cons_succ, List.set_cons_zero]
    refine wpAnyH_take (i := 6) (v := ?_) rfl (by kernel_rfl) (by kernel_rfl) (by kernel_rfl) (fun _ _ _ h => h) (Or.inl ⟨by kernel_rfl, ?_⟩) HSW.out ?_
    rotate_left
    ·rintro w ⟨⟨e0,e1,e2,e3⟩,f1,f2⟩; go_simp; try with_reducible rfl
    conv in (Act.put _ _ _) => simp only [List.getElem_toArray, List.getElem_cons_succ, List.getElem_cons_zero, Act.put, List.setIfInBounds_toArray, List.set_cons_succ, List.set_cons_zero]
    refine wpAnyH_take (i := 7) (v := ?_) rfl (by kernel_rfl) (by kernel_rfl) (by kernel_rfl) (fun _ _ _ h => h) (Or.inl ⟨by kernel_rfl, ?_⟩) HSW.out ?_
    rotate_left
    ·rintro w ⟨⟨e0,e1,e2,e3⟩,f1,f2⟩; go_simp; try with_reducible rfl
    conv in (Act.put _ _ _) => simp only [List.getElem_toArray, List.getElem_cons_succ, List.getElem_cons_zero, Act.put, List.setIfInBounds_toArray, List.set_cons_succ, List.set_cons_zero]
    refine wpAnyH_take (i := 8) (v := ?_) rfl (by kernel_rfl) (by kernel_rfl) (by kernel_rfl) (fun _ _ _ h => h) (Or.inl ⟨by kernel_rfl, ?_⟩) HSW.out ?_
    rotate_left
    ·rintro w ⟨⟨e0,e1,e2,e3⟩,f1,f2⟩; go_simp; try with_reducible rfl
    conv in (Act.put _ _ _) => simp only [List.getElem_toArray, List.getElem_cons_succ, List.getElem_cons_zero, Act.put, List.setIfInBounds_toArray, List.set_cons_succ, List.set_cons_zero]
    refine wpAnyH_take (i := 9) (v := ?_) rfl (by kernel_rfl) (by kernel_rfl) (by kernel_rfl) (fun _ _ _ h => h) (Or.inl ⟨by kernel_rfl, ?_⟩) HSW.out ?_
    rotate_left
    ·rintro w ⟨⟨e0,e1,e2,e3⟩,f1,f2⟩; go_simp; try with_reducible rfl
    conv in (Act.put _ _ _) => simp only [List.getElem_toArray, List.getElem_cons_succ, List.getElem_cons_zero, Act.put, List.setIfInBounds_toArray, List.set_cons_succ, List.set_cons_zero]
    refine wpAnyH_take (i := 10) (v := ?_) rfl (by kernel_rfl) (by kernel_rfl) (by kernel_rfl) (fun _ _ _ h => h) (Or.inl ⟨by kernel_rfl, ?_⟩) HSW.out ?_
    rotate_left
    ·rintro w ⟨⟨e0,e1,e2,e3⟩,f1,f2⟩; go_simp; try with_reducible rfl
    conv in (Act.put _ _ _) => simp only [List.getElem_toArray, List.getElem_cons_succ, List.getElem_cons_zero, Act.put, List.setIfInBounds_toArray, List.set_cons_succ, List.set_cons_zero]
    refine readyH 11 _ (by kernel_rfl) rfl (by kernel_rfl) (fun K hK => ?_)
    go_simp
    refine (HC.out _).mono ?_
    rintro e w1 ⟨rfl, b1⟩
    replace b1 : Below wr.heap.size wr w1 := (Below.refl _ wr).drew.trans b1
    replace HSW : Hid (QW w.heap.size a b c d p (off + k * 4) x y w1) := ⟨box_cells ((b1.block _ hgk).trans HGK.out), (HCR.out.same (b1.block p hbl)).2.1, (HCR.out.same (b1.block p hbl)).2.2.1⟩
    refine hK _ _ HSW.out ?_
    clear hK K
    refine wpAnyH_take (i := 12) (v := ?_) rfl (by kernel_rfl) (by kernel_rfl) (by kernel_rfl) (fun _ _ _ h => h) (Or.inl ⟨by kernel_rfl, ?_⟩) HSW.out ?_
    rotate_left
    ·rintro w ⟨⟨e0,e1,e2,e3⟩,f1,f2⟩; go_simp; try with_reducible rfl
    conv in (Act.put _ _ _) => simp only [List.getElem_toArray, List.getElem_cons_succ, List.getElem_cons_zero, Act.put, List.setIfInBounds_toArray, List.set_cons_succ, List.set_cons_zero]
    refine wpAnyH_done (by kernel_rfl) ?_ _
    have HO1 : Hid (w1.ownsRow W0.heap.size 54 4 (.slice po pn pc) (fk f l (k + 1)).length ((fk f l (k + 1)).flatMap rc)) := by
     refine (?_ : w1.ownsRow W0.heap.size 54 4 (.slice po pn pc) (fk f l (k + 1)).length ((fk f l (k + 1)).flatMap rc))
     rw [HNX.out, HPN.out]
     exact own_same HO.out fun b _ hb' => b1.block b hb'
    have HB1 : Hid (Below W0.heap.size W0 w1) := HBk.out.trans (b1.mono HBk.out.size)
    clear b1 HSW HC hb ho sp
    go_wp2_with fail
    go_roundw
    case rel => exact ⟨k + 1, by omega, by go_num, HO1.out, HB1.out⟩
    case measure => simp [natOf]; omega
   ·rw [hf] at hnx
    have HC : Hid _ := HCI.out x y
    rw [← HFD.out ⟨id, x, y, v⟩, hf] at HC
    clear HCI
    have HNX : Hid (fk f l (k + 1) = fk f l k ++ [⟨id, x, y, v⟩]) := by
     refine (?_ : fk f l (k + 1) = _)
     rw [hnx]; simp
    clear hnx
    go_wp2_with fail
    refine wp_region_held (S := QW w.heap.size a b c d p (off + k * 4) x y) (by kernel_rfl) ?_
    change wpAnyH _ _ _ _ _ _ _ _ (World.drew _)
    refine wpAnyH_take (i := 0) (v := ?_) rfl (by kernel_rfl) (by kernel_rfl) (by kernel_rfl) (fun _ _ _ h => h) (Or.inl ⟨by kernel_rfl, ?_⟩) HSW.out ?_
    rotate_left
    ·rintro w ⟨⟨e0,e1,e2,e3⟩,f1,f2⟩; go_simp; try with_reducible rfl
    conv in (Act.put _ _ _) => simp only [List.getElem_toArray, List.getElem_cons_succ, List.getElem_cons_zero, Act.put, List.setIfInBounds_toArray, List.set_cons_succ, List.set_cons_zero]
    refine wpAnyH_take (i := 1) (v := ?_) rfl (by kernel_rfl) (by kernel_rfl) (by kernel_rfl) (fun _ _ _ h => h) (Or.inl ⟨by kernel_rfl, ?_⟩) HSW.out ?_
    rotate_left
    ·rintro w ⟨⟨e0,e1,e2,e3⟩,f1,f2⟩; go_simp; try with_reducible rfl
    conv in (Act.put _ _ _) => simp only [List.getElem_toArray, List.getElem_cons_succ, List.getElem_cons_zero, Act.put, List.setIfInBounds_toArray, List.set_cons_succ, List.set_cons_zero]
    refine wpAnyH_take (i := 2) (v := ?_) rfl (by kernel_rfl) (by kernel_rfl) (by kernel_rfl) (fun _ _ _ h => h) (Or.inl ⟨by kernel_rfl, ?_⟩) HSW.out ?_
    rotate_left
    ·rintro w ⟨⟨e0,e1,e2,e3⟩,f1,f2⟩; go_simp; try with_reducible rfl
    conv in (Act.put _ _ _) => simp only [List.getElem_toArray, List.getElem_cons_succ, List.getElem_cons_zero, Act.put, List.setIfInBounds_toArray, List.set_cons_succ, List.set_cons_zero]
    refine wpAnyH_take (i := 3) (v := ?_) rfl (by kernel_rfl) (by kernel_rfl) (by kernel_rfl) (fun _ _ _ h => h) (Or.inl ⟨by kernel_rfl, ?_⟩) HSW.out ?_
    rotate_left
    ·rintro w ⟨⟨e0,e1,e2,e3⟩,f1,f2⟩; go_simp; try with_reducible rfl
    conv in (Act.put _ _ _) => simp only [List.getElem_toArray, List.getElem_cons_succ, List.getElem_cons_zero, Act.put, List.setIfInBounds_toArray, List.set_cons_succ, List.set_cons_zero]
    refine wpAnyH_take (i := 4) (v := ?_) rfl (by kernel_rfl) (by kernel_rfl) (by kernel_rfl) (fun _ _ _ h => h) (Or.inl ⟨by kernel_rfl, ?_⟩) HSW.out ?_
    rotate_left
    ·rintro w ⟨⟨e0,e1,e2,e3⟩,f1,f2⟩; go_simp; try with_reducible rfl
    conv in (Act.put _ _ _) => simp only [List.getElem_toArray, List.getElem_cons_succ, List.getElem_cons_zero, Act.put, List.setIfInBounds_toArray, List.set_cons_succ, List.set_cons_zero]
    refine wpAnyH_take (i := 5) (v := ?_) rfl (by kernel_rfl) (by kernel_rfl) (by kernel_rfl) (fun _ _ _ h => h) (Or.inl ⟨by kernel_rfl, ?_⟩) HSW.out ?_
    rotate_left
    ·rintro w ⟨⟨e0,e1,e2,e3⟩,f1,f2⟩; go_simp; try with_reducible rfl
    conv in (Act.put _ _ _) => simp only [List.getElem_toArray, List.getElem_cons_succ, List.getElem_cons_zero, Act.put, List.setIfInBounds_toArray, List.set_cons_succ, List.set_cons_zero]
    refine wpAnyH_take (i := 6) (v := ?_) rfl (by kernel_rfl) (by kernel_rfl) (by kernel_rfl) (fun _ _ _ h => h) (Or.inl ⟨by kernel_rfl, ?_⟩) HSW.out ?_
    rotate_left
    ·rintro w ⟨⟨e0,e1,e2,e3⟩,f1,f2⟩; go_simp; try with_reducible rfl
    conv in (Act.put _ _ _) => simp only [List.getElem_toArray, List.getElem_cons_succ, List.getElem_cons_zero, Act.put, List.setIfInBounds_toArray, List.set_cons_succ, List.set_cons_zero]
    refine wpAnyH_take (i := 7) (v := ?_) rfl (by kernel_rfl) (by kernel_rfl) (by kernel_rfl) (fun _ _ _ h => h) (Or.inl ⟨by kernel_rfl, ?_⟩) HSW.out ?_
    rotate_left
    ·rintro w ⟨⟨e0,e1,e2,e3⟩,f1,f2⟩; go_simp; try with_reducible rfl
    conv in (Act.put _ _ _) => simp only [List.getElem_toArray, List.getElem_cons_succ, List.getElem_cons_zero, Act.put, List.setIfInBounds_toArray, List.set_cons_succ, List.set_cons_zero]
    refine wpAnyH_take (i := 8) (v := ?_) rfl (by kernel_rfl) (by kernel_rfl) (by kernel_rfl) (fun _ _ _ h => h) (Or.inl ⟨by kernel_rfl, ?_⟩) HSW.out ?_
    rotate_left
    ·rintro w ⟨⟨e0,e1,e2,e3⟩,f1,f2⟩; go_simp; try with_reducible rfl
    conv in (Act.put _ _ _) => simp only [List.getElem_toArray, List.getElem_cons_succ, List.getElem_cons_zero, Act.put, List.setIfInBounds_toArray, List.set_cons_succ, List.set_cons_zero]
    refine wpAnyH_take (i := 9) (v := ?_) rfl (by kernel_rfl) (by kernel_rfl) (by kernel_rfl) (fun _ _ _ h => h) (Or.inl ⟨by kernel_rfl, ?_⟩) HSW.out ?_
    rotate_left
    ·rintro w ⟨⟨e0,e1,e2,e3⟩,f1,f2⟩; go_simp; try with_reducible rfl
    conv in (Act.put _ _ _) => simp only [List.getElem_toArray, List.getElem_cons_succ, List.getElem_cons_zero, Act.put, List.setIfInBounds_toArray, List.set_cons_succ, List.set_cons_zero]
    refine wpAnyH_take (i := 10) (v := ?_) rfl (by kernel_rfl) (by kernel_rfl) (by kernel_rfl) (fun _ _ _ h => h) (Or.inl ⟨by kernel_rfl, ?_⟩) HSW.out ?_
    rotate_left
    ·rintro w ⟨⟨e0,e1,e2,e3⟩,f1,f2⟩; go_simp; try with_reducible rfl
    conv in (Act.put _ _ _) => simp only [List.getElem_toArray, List.getElem_cons_succ, List.getElem_cons_zero, Act.put, List.setIfInBounds_toArray, List.set_cons_succ, List.set_cons_zero]
    refine readyH 11 _ (by kernel_rfl) rfl (by kernel_rfl) (fun K hK => ?_)
    go_simp
    refine (HC.out _).mono ?_
    rintro e w1 ⟨rfl, b1⟩
    replace b1 : Below wr.heap.size wr w1 := (Below.refl _ wr).drew.trans b1
    replace HSW : Hid (QW w.heap.size a b c d p (off + k * 4) x y w1) := ⟨box_cells ((b1.block _ hgk).trans HGK.out), (HCR.out.same (b1.block p hbl)).2.1, (HCR.out.same (b1.block p hbl)).2.2.1⟩
    refine hK _ _ HSW.out ?_
    clear hK K
    refine wpAnyH_take (i := 12) (v := ?_) rfl (by kernel_rfl) (by kernel_rfl) (by kernel_rfl) (fun _ _ _ h => h) (Or.inl ⟨by kernel_rfl, ?_⟩) HSW.out ?_
    rotate_left
    ·rintro w ⟨⟨e0,e1,e2,e3⟩,f1,f2⟩; go_simp; try with_reducible rfl
    conv in (Act.put _ _ _) => simp only [List.getElem_toArray, List.getElem_cons_succ, List.getElem_cons_zero, Act.put, List.setIfInBounds_toArray, List.set_cons_succ, List.set_cons_zero]
    refine wpAnyH_done (by kernel_rfl) ?_ _
    obtain ⟨c0, c1, c2, c3⟩ := HCR.out.same (b1.block p hbl)
    simp only at c0 c1 c2 c3
    have hbn := below_new w1 (.cells #[.int .u64 (id : Int), .int .u32 (x : Int), .int .u32 (y : Int), .string v] 54)
    obtain ⟨v', W', hrun, a1, a2, a3⟩ := append_sl 32 54 Try.underlying32 infoRow rfl (by decide) (by decide) (w1.alloc (.cells #[.int .u64 (id : Int), .int .u32 (x : Int), .int .u32 (y : Int), .string v] 54)) W0.heap.size pn 1 (.slice po pn pc) (some ⟨w1.heap.size, 0, none⟩) 1
     ((fk f l k).flatMap rc) (rc ⟨id, x, y, v⟩) (own_same HO.out fun b _ hb' => (hbn.block b (Nat.lt_of_lt_of_le hb' b1.size)).trans (b1.block b hb')) (by have := HBk.out.size; have := b1.size; simp; omega) (one_row (r := ⟨id, x, y, v⟩) (heap_alloc_new w1 _)) (rc_one' _) (by omega)
    have HO1 : Hid (W'.ownsRow W0.heap.size 54 4 v' (fk f l (k + 1)).length ((fk f l (k + 1)).flatMap rc)) := by
     refine (?_ : W'.ownsRow W0.heap.size 54 4 v' (fk f l (k + 1)).length ((fk f l (k + 1)).flatMap rc))
     rw [HNX.out, List.flatMap_append, List.length_append, HPN.out]
     simpa using a1
    have HB1 : Hid (Below W0.heap.size W0 W') := (HBk.out.trans ((b1.mono HBk.out.size).trans (hbn.mono (Nat.le_trans HBk.out.size b1.size)))).grown a2 (by have := HBk.out.size; have := b1.size; simp; omega) fun b eb => (own_base HO.out eb).1
    clear b1 hbn a1 a2 a3 HSW HC hb ho sp
    go_wp2_with (at_builtin; refine list_append rfl 32 32 (.tmp 33) (.tmp 38) rfl (vs := .slice po pn pc) (vx := .slice (some ⟨w1.heap.size, 0, none⟩) 1 1) rfl rfl hrun ?_)
    go_roundw
    case rel => exact ⟨k + 1, by omega, by go_num, HO1.out, HB1.out⟩
    case measure => simp [natOf]; omega
  ·obtain rfl : k = l.length := by omega
   have q5 : ¬ (l.length : Int) < (l.length : Int) := by omega
   rw [fk_all] at HO HPN
   have HE : Hid (wr.ownsRow w.heap.size 54 4 (.slice po pn pc) (l.filter f).length ((l.filter f).flatMap rc) ∧ Below w.heap.size w wr) := ⟨by rw [HPN.out]; exact own_lower HO.out HB0.out.size, HB0.out.trans (HBk.out.mono HB0.out.size)⟩
   clear hb ho sp
   go_wp2_with fail
   go_ret2
   exact ⟨_, rfl, HE.out⟩
theorem sq_dist (x y u v : Nat) : ((Rc.dist x u * Rc.dist x u + Rc.dist y v * Rc.dist y v : Nat) : Int) = (Rq.dist u v x y : Int) := by
 rw [dist_two]
set_option maxRecDepth 100000 in
set_option maxHeartbeats 2000000 in
theorem rRnd_ok (l : List Rw) (o : Option Addr) (cap x0 y0 s0 : Nat) (hx0 : x0 < 2147483648) (hy0 : y0 < 2147483648) (w : World) (hr : RowsAt w o cap l) (hon : On l) (hm : l.length ≤ 1000) :
  Calls Try.prog 59 #[.slice o l.length cap, .int .u32 (x0 : Int), .int .u32 (y0 : Int), .int .u64 (s0 : Int)] w fun e w' => ∃ v, e = .returned (.tuple #[v, .int .i64 0]) ∧ w'.ownsRow w.heap.size 54 4 v (l.filter fun r => decide (Rq.dist r.x r.y x0 y0 ≤ s0)).length ((l.filter fun r => decide (Rq.dist r.x r.y x0 y0 ≤ s0)).flatMap rc) ∧ Below w.heap.size w w' := by
 obtain ⟨f, hfd⟩ : ∃ f : Rw → Bool, (fun r : Rw => decide (Rq.dist r.x r.y x0 y0 ≤ s0)) = f := ⟨_, rfl⟩
 have HFD : Hid (∀ r : Rw, f r = decide (Rq.dist r.x r.y x0 y0 ≤ s0)) := fun r => by rw [← hfd]
 rw [hfd]
 clear hfd
 have HCI : Hid (∀ u v : Nat, u < 2147483648 → v < 2147483648 → ∀ W : World, Calls Try.prog 82 #[.int .u32 (x0 : Int), .int .u32 (y0 : Int), .int .u32 (u : Int), .int .u32 (v : Int)] W fun e w' => e = .returned (.int .u64 (Rq.dist u v x0 y0 : Int)) ∧ Below W.heap.size W w') := fun u v hu hv W => (eSquare_any x0 y0 u v hx0 hy0 hu hv W).mono fun e w' ⟨h1, h2⟩ => ⟨by rw [h1, sq_dist], by rw [h2]; exact Below.refl _ _⟩
 have HB0 : Hid (Below w.heap.size w w) := Below.refl _ _
 have HR : Hid (RowsAt w o cap l) := hr
 have HON : Hid (On l) := hon
 have qx : ¬ (2147483648 : Int) ≤ (x0 : Int) := by omega
 have qy : ¬ (2147483648 : Int) ≤ (y0 : Int) := by omega
 clear hr hon hx0 hy0
 go_enter Try.func59, Try.ntmps59
 go_wp2_with fail
 go_loopw [10, 11] (fun pv i wr => ∃ k : Nat, k ≤ l.length ∧ i = .int .i64 (k : Int) ∧ wr.ownsRow w.heap.size 54 4 pv (fk f l k).length ((fk f l k).flatMap rc) ∧ Below w.heap.size w wr) (fun _ i _ => l.length - natOf i)
 case atStart =>
  refine ⟨0, by omega, rfl, ?_, Below.refl _ _⟩
  rw [fk_zero]
  exact World.ownsRow_nil _ _ _ _
 case round =>
  obtain ⟨k, hk, rfl, ho, hb⟩ := hrel
  have HO : Hid _ := ho
  have HBk : Hid (Below w.heap.size w wr) := hb
  obtain ⟨po, pc, rfl, sp⟩ := sl_of_own ho
  obtain ⟨pn, hpn⟩ : ∃ pn, (fk f l k).length = pn := ⟨_, rfl⟩
  have HPN : Hid ((fk f l k).length = pn) := hpn
  have hpl := fk_len f l k
  rw [hpn] at ho HO sp hpl ⊢
  by_cases hkl : k < l.length
  ·obtain ⟨p, off, rfl, hbl, hc⟩ := (HR.out.below hb (Nat.le_refl _)).row hkl
   obtain ⟨c0, c1, c2, c3⟩ := hc k hkl
   have hnx := fk_next f l k hkl
   have q5 : (k : Int) < (l.length : Int) := by omega
   have k0 : (0 : Int) ≤ (k : Int) := by omega
   have k2 : (k : Int) + 1 ≤ 9223372036854775807 := by omega
   have onr := HON.out _ (rat_mem hkl)
   generalize rat l k = r at *
   obtain ⟨id, x, y, v⟩ := r
   simp only at c0 c1 c2 c3 hnx onr
   have HSW : Hid (QP p (off + k * 4) x y wr.drew) := ⟨c1, c2⟩
   have HCR : Hid (Fr wr p (off + k * 4) ⟨id, x, y, v⟩) := ⟨c0, c1, c2, c3⟩
   clear hc c0 c1 c2 c3
   cases hf : f ⟨id, x, y, v⟩
   ·rw [hf] at hnx
    have HC : Hid _ := HCI.out x y onr.1 onr.2
    have hds : decide (Rq.dist x y x0 y0 ≤ s0) = f ⟨id, x, y, v⟩ := (HFD.out ⟨id, x, y, v⟩).symm
    rw [hf] at hds
    obtain ⟨ds, hdd⟩ : ∃ ds, Rq.dist x y x0 y0 = ds := ⟨_, rfl⟩
    rw [hdd] at HC hds
    clear HCI onr hdd
    have HNX : Hid (fk f l (k + 1) = fk f l k) := by
     refine (?_ : fk f l (k + 1) = _)
     rw [hnx]; simp
    clear hnx
    go_wp2_with fail
    refine wp_region_held (S := QP p (off + k * 4) x y) (by kernel_rfl) ?_
    change wpAnyH _ _ _ _ _ _ _ _ (World.drew _)
    refine wpAnyH_take (i := 0) (v := ?_) rfl (by kernel_rfl) (by kernel_rfl) (by kernel_rfl) (fun _ _ _ h => h) (Or.inl ⟨by kernel_rfl, ?_⟩) HSW.out ?_
    rotate_left
    ·rintro w ⟨e1,e2⟩; go_simp; try with_reducible rfl
    conv in (Act.put _ _ _) => simp only [List.getElem_toArray, List.getElem_cons_succ, List.getElem_cons_zero, Act.put, List.setIfInBounds_toArray, List.set_cons_succ, List.set_cons_zero]
    refine wpAnyH_take (i := 1) (v := ?_) rfl (by kernel_rfl) (by kernel_rfl) (by kernel_rfl) (fun _ _ _ h => h) (Or.inl ⟨by kernel_rfl, ?_⟩) HSW.out ?_
    rotate_left
    ·rintro w ⟨e1,e2⟩; go_simp; try with_reducible rfl
    conv in (Act.put _ _ _) => simp only [List.getElem_toArray, List.getElem_cons_succ, List.getElem_cons_zero, Act.put, List.setIfInBounds_toArray, List.set_cons_succ, List.set_cons_zero]
    refine wpAnyH_take (i := 2) (v := ?_) rfl (by kernel_rfl) (by kernel_rfl) (by kernel_rfl) (fun _ _ _ h => h) (Or.inl ⟨by kernel_rfl, ?_⟩) HSW.out ?_
    rotate_left
    ·rintro w ⟨e1,e2⟩; go_simp; try with_reducible rfl
    conv in (Act.put _ _ _) => simp only [List.getElem_toArray, List.getElem_cons_succ, List.getElem_cons_zero, Act.put, List.setIfInBounds_toArray, List.set_cons_succ, List.set_cons_zero]
    refine wpAnyH_take (i := 3) (v := ?_) rfl (by kernel_rfl) (by kernel_rfl) (by kernel_rfl) (fun _ _ _ h => h) (Or.inl ⟨by kernel_rfl, ?_⟩) HSW.out ?_
    rotate_left
    ·rintro w ⟨e1,e2⟩; go_simp; try with_reducible rfl
    conv in (Act.put _ _ _) => simp only [List.getElem_toArray, List.getElem_cons_succ, List.getElem_cons_zero, Act.put, List.setIfInBounds_toArray, List.set_cons_succ, List.set_cons_zero]
    refine wpAnyH_take (i := 4) (v := ?_) rfl (by kernel_rfl) (by kernel_rfl) (by kernel_rfl) (fun _ _ _ h => h) (Or.inl ⟨by kernel_rfl, ?_⟩) HSW.out ?_
    rotate_left
    ·rintro w ⟨e1,e2⟩; go_simp; try with_reducible rfl
    conv in (Act.put _ _ _) => simp only [List.getElem_toArray, List.getElem_cons_succ, List.getElem_cons_zero, Act.put, List.setIfInBounds_toArray, List.set_cons_succ, List.set_cons_zero]
    refine wpAnyH_take (i := 5) (v := ?_) rfl (by kernel_rfl) (by kernel_rfl) (by kernel_rfl) (fun _ _ _ h => h) (Or.inl ⟨by kernel_rfl, ?_⟩) HSW.out ?_
    rotate_left
    ·rintro w ⟨e1,e2⟩; go_simp; try with_reducible rfl
    conv in (Act.put _ _ _) => simp only [List.getElem_toArray, List.getElem_cons_succ, List.getElem_cons_zero, Act.put, List.setIfInBounds_toArray, List.set_cons_succ, List.set_cons_zero]
    refine wpAnyH_take (i := 6) (v := ?_) rfl (by kernel_rfl) (by kernel_rfl) (by kernel_rfl) (fun _ _ _ h => h) (Or.inl ⟨by kernel_rfl, ?_⟩) HSW.out ?_
    rotate_left
    ·rintro w ⟨e1,e2⟩; go_simp; try with_reducible rfl
    conv in (Act.put _ _ _) => simp only [List.getElem_toArray, List.getElem_cons_succ, List.getElem_cons_zero, Act.put, List.setIfInBounds_toArray, List.set_cons_succ, List.set_cons_zero]
    refine wpAnyH_take (i := 7) (v := ?_) rfl (by kernel_rfl) (by kernel_rfl) (by kernel_rfl) (fun _ _ _ h => h) (Or.inl ⟨by kernel_rfl, ?_⟩) HSW.out ?_
    rotate_left
    ·rintro w ⟨e1,e2⟩; go_simp; try with_reducible rfl
    conv in (Act.put _ _ _) => simp only [List.getElem_toArray, List.getElem_cons_succ, List.getElem_cons_zero, Act.put, List.setIfInBounds_toArray, List.set_cons_succ, List.set_cons_zero]
    refine wpAnyH_take (i := 8) (v := ?_) rfl (by kernel_rfl) (by kernel_rfl) (by kernel_rfl) (fun _ _ _ h => h) (Or.inl ⟨by kernel_rfl, ?_⟩) HSW.out ?_
    rotate_left
    ·rintro w ⟨e1,e2⟩; go_simp; try with_reducible rfl
    conv in (Act.put _ _ _) => simp only [List.getElem_toArray, List.getElem_cons_succ, List.getElem_cons_zero, Act.put, List.setIfInBounds_toArray, List.set_cons_succ, List.set_cons_zero]
    refine wpAnyH_take (i := 9) (v := ?_) rfl (by kernel_rfl) (by kernel_rfl) (by kernel_rfl) (fun _ _ _ h => h) (Or.inl ⟨by kernel_rfl, ?_⟩) HSW.out ?_
    rotate_left
    ·rintro w ⟨e1,e2⟩; go_simp; try with_reducible rfl
    conv in (Act.put _ _ _) => simp only [List.getElem_toArray, List.getElem_cons_succ, List.getElem_cons_zero, Act.put, List.setIfInBounds_toArray, List.set_cons_succ, List.set_cons_zero]
    refine wpAnyH_take (i := 10) (v := ?_) rfl (by kernel_rfl) (by kernel_rfl) (by kernel_rfl) (fun _ _ _ h => h) (Or.inl ⟨by kernel_rfl, ?_⟩) HSW.out ?_
    rotate_left
    ·rintro w ⟨e1,e2⟩; go_simp; try with_reducible rfl
    conv in (Act.put _ _ _) => simp only [List.getElem_toArray, List.getElem_cons_succ, List.getElem_cons_zero, Act.put, List.setIfInBounds_toArray, List.set_cons_succ, List.set_cons_zero]
    refine wpAnyH_take (i := 11) (v := ?_) rfl (by kernel_rfl) (by kernel_rfl) (by kernel_rfl) (fun _ _ _ h => h) (Or.inl ⟨by kernel_rfl, ?_⟩) HSW.out ?_
    rotate_left
    ·rintro w ⟨e1,e2⟩; go_simp; try with_reducible rfl
    conv in (Act.put _ _ _) => simp only [List.getElem_toArray, List.getElem_cons_succ, List.getElem_cons_zero, Act.put, List.setIfInBounds_toArray, List.set_cons_succ, List.set_cons_zero]
    refine wpAnyH_take (i := 13) (v := ?_) rfl (by kernel_rfl) (by kernel_rfl) (by kernel_rfl) (fun _ _ _ h => h) (Or.inl ⟨by kernel_rfl, ?_⟩) HSW.out ?_
    rotate_left
    ·rintro w ⟨e1,e2⟩; go_simp; try with_reducible rfl
    conv in (Act.put _ _ _) => simp only [List.getElem_toArray, List.getElem_cons_succ, List.getElem_cons_zero, Act.put, List.setIfInBounds_toArray, List.set_cons_succ, List.set_cons_zero]
    refine readyH 12 _ (by kernel_rfl) rfl (by kernel_rfl) (fun K hK => ?_)
    go_simp
    refine (HC.out _).mono ?_
    rintro e w1 ⟨rfl, b1⟩
    replace b1 : Below wr.heap.size wr w1 := (Below.refl _ wr).drew.trans b1
    replace HSW : Hid (QP p (off + k * 4) x y w1) := ⟨(HCR.out.same (b1.block p hbl)).2.1, (HCR.out.same (b1.block p hbl)).2.2.1⟩
    refine hK _ _ HSW.out ?_
    clear hK K
    refine wpAnyH_take (i := 14) (v := ?_) rfl (by kernel_rfl) (by kernel_rfl) (by kernel_rfl) (fun _ _ _ h => h) (Or.inl ⟨by kernel_rfl, ?_⟩) HSW.out ?_
    rotate_left
    ·rintro w ⟨e1,e2⟩; go_simp; try with_reducible rfl
    conv in (Act.put _ _ _) => simp only [List.getElem_toArray, List.getElem_cons_succ, List.getElem_cons_zero, Act.put, List.setIfInBounds_toArray, List.set_cons_succ, List.set_cons_zero]
    refine wpAnyH_done (by kernel_rfl) ?_ _
    have HO1 : Hid (w1.ownsRow w.heap.size 54 4 (.slice po pn pc) (fk f l (k + 1)).length ((fk f l (k + 1)).flatMap rc)) := by
     refine (?_ : w1.ownsRow w.heap.size 54 4 (.slice po pn pc) (fk f l (k + 1)).length ((fk f l (k + 1)).flatMap rc))
     rw [HNX.out, HPN.out]
     exact own_same HO.out fun b _ hb' => b1.block b hb'
    have HB1 : Hid (Below w.heap.size w w1) := HBk.out.trans (b1.mono HBk.out.size)
    clear b1 HSW HC hb ho sp
    go_wp2_with fail
    go_roundw
    case rel => exact ⟨k + 1, by omega, by go_num, HO1.out, HB1.out⟩
    case measure => simp [natOf]; omega
   ·rw [hf] at hnx
    have HC : Hid _ := HCI.out x y onr.1 onr.2
    have hds : decide (Rq.dist x y x0 y0 ≤ s0) = f ⟨id, x, y, v⟩ := (HFD.out ⟨id, x, y, v⟩).symm
    rw [hf] at hds
    obtain ⟨ds, hdd⟩ : ∃ ds, Rq.dist x y x0 y0 = ds := ⟨_, rfl⟩
    rw [hdd] at HC hds
    clear HCI onr hdd
    have HNX : Hid (fk f l (k + 1) = fk f l k ++ [⟨id, x, y, v⟩]) := by
     refine (?_ : fk f l (k + 1) = _)
     rw [hnx]; simp
    clear hnx
    go_wp2_with fail
    refine wp_region_held (S := QP p (off + k * 4) x y) (by kernel_rfl) ?_
    change wpAnyH _ _ _ _ _ _ _ _ (World.drew _)
    refine wpAnyH_take (i := 0) (v := ?_) rfl (by kernel_rfl) (by kernel_rfl) (by kernel_rfl) (fun _ _ _ h => h) (Or.inl ⟨by kernel_rfl, ?_⟩) HSW.out ?_
    rotate_left
    ·rintro w ⟨e1,e2⟩; go_simp; try with_reducible rfl
    conv in (Act.put _ _ _) => simp only [List.getElem_toArray, List.getElem_cons_succ, List.getElem_cons_zero, Act.put, List.setIfInBounds_toArray, List.set_cons_succ, List.set_cons_zero]
    refine wpAnyH_take (i := 1) (v := ?_) rfl (by kernel_rfl) (by kernel_rfl) (by kernel_rfl) (fun _ _ _ h => h) (Or.inl ⟨by kernel_rfl, ?_⟩) HSW.out ?_
    rotate_left
    ·rintro w ⟨e1,e2⟩; go_simp; try with_reducible rfl
    conv in (Act.put _ _ _) => simp only [List.getElem_toArray, List.getElem_cons_succ, List.getElem_cons_zero, Act.put, List.setIfInBounds_toArray, List.set_cons_succ, List.set_cons_zero]
    refine wpAnyH_take (i := 2) (v := ?_) rfl (by kernel_rfl) (by kernel_rfl) (by kernel_rfl) (fun _ _ _ h => h) (Or.inl ⟨by kernel_rfl, ?_⟩) HSW.out ?_
    rotate_left
    ·rintro w ⟨e1,e2⟩; go_simp; try with_reducible rfl
    conv in (Act.put _ _ _) => simp only [List.getElem_toArray, List.getElem_cons_succ, List.getElem_cons_zero, Act.put, List.setIfInBounds_toArray, List.set_cons_succ, List.set_cons_zero]
    refine wpAnyH_take (i := 3) (v := ?_) rfl (by kernel_rfl) (by kernel_rfl) (by kernel_rfl) (fun _ _ _ h => h) (Or.inl ⟨by kernel_rfl, ?_⟩) HSW.out ?_
    rotate_left
    ·rintro w ⟨e1,e2⟩; go_simp; try with_reducible rfl
    conv in (Act.put _ _ _) => simp only [List.getElem_toArray, List.getElem_cons_succ, List.getElem_cons_zero, Act.put, List.setIfInBounds_toArray, List.set_cons_succ, List.set_cons_zero]
    refine wpAnyH_take (i := 4) (v := ?_) rfl (by kernel_rfl) (by kernel_rfl) (by kernel_rfl) (fun _ _ _ h => h) (Or.inl ⟨by kernel_rfl, ?_⟩) HSW.out ?_
    rotate_left
    ·rintro w ⟨e1,e2⟩; go_simp; try with_reducible rfl
    conv in (Act.put _ _ _) => simp only [List.getElem_toArray, List.getElem_cons_succ, List.getElem_cons_zero, Act.put, List.setIfInBounds_toArray, List.set_cons_succ, List.set_cons_zero]
    refine wpAnyH_take (i := 5) (v := ?_) rfl (by kernel_rfl) (by kernel_rfl) (by kernel_rfl) (fun _ _ _ h => h) (Or.inl ⟨by kernel_rfl, ?_⟩) HSW.out ?_
    rotate_left
    ·rintro w ⟨e1,e2⟩; go_simp; try with_reducible rfl
    conv in (Act.put _ _ _) => simp only [List.getElem_toArray, List.getElem_cons_succ, List.getElem_cons_zero, Act.put, List.setIfInBounds_toArray, List.set_cons_succ, List.set_cons_zero]
    refine wpAnyH_take (i := 6) (v := ?_) rfl (by kernel_rfl) (by kernel_rfl) (by kernel_rfl) (fun _ _ _ h => h) (Or.inl ⟨by kernel_rfl, ?_⟩) HSW.out ?_
    rotate_left
    ·rintro w ⟨e1,e2⟩; go_simp; try with_reducible rfl
    conv in (Act.put _ _ _) => simp only [List.getElem_toArray, List.getElem_cons_succ, List.getElem_cons_zero, Act.put, List.setIfInBounds_toArray, List.set_cons_succ, List.set_cons_zero]
    refine wpAnyH_take (i := 7) (v := ?_) rfl (by kernel_rfl) (by kernel_rfl) (by kernel_rfl) (fun _ _ _ h => h) (Or.inl ⟨by kernel_rfl, ?_⟩) HSW.out ?_
    rotate_left
    ·rintro w ⟨e1,e2⟩; go_simp; try with_reducible rfl
    conv in (Act.put _ _ _) => simp only [List.getElem_toArray, List.getElem_cons_succ, List.getElem_cons_zero, Act.put, List.setIfInBounds_toArray, List.set_cons_succ, List.set_cons_zero]
    refine wpAnyH_take (i := 8) (v := ?_) rfl (by kernel_rfl) (by kernel_rfl) (by kernel_rfl) (fun _ _ _ h => h) (Or.inl ⟨by kernel_rfl, ?_⟩) HSW.out ?_
    rotate_left
    ·rintro w ⟨e1,e2⟩; go_simp; try with_reducible rfl
    conv in (Act.put _ _ _) => simp only [List.getElem_toArray, List.getElem_cons_succ, List.getElem_cons_zero, Act.put, List.setIfInBounds_toArray, List.set_cons_succ, List.set_cons_zero]
    refine wpAnyH_take (i := 9) (v := ?_) rfl (by kernel_rfl) (by kernel_rfl) (by kernel_rfl) (fun _ _ _ h => h) (Or.inl ⟨by kernel_rfl, ?_⟩) HSW.out ?_
    rotate_left
    ·rintro w ⟨e1,e2⟩; go_simp; try with_reducible rfl
    conv in (Act.put _ _ _) => simp only [List.getElem_toArray, List.getElem_cons_succ, List.getElem_cons_zero, Act.put, List.setIfInBounds_toArray, List.set_cons_succ, List.set_cons_zero]
    refine wpAnyH_take (i := 10) (v := ?_) rfl (by kernel_rfl) (by kernel_rfl) (by kernel_rfl) (fun _ _ _ h => h) (Or.inl ⟨by kernel_rfl, ?_⟩) HSW.out ?_
    rotate_left
    ·rintro w ⟨e1,e2⟩; go_simp; try with_reducible rfl
    conv in (Act.put _ _ _) => simp only [List.getElem_toArray, List.getElem_cons_succ, List.getElem_cons_zero, Act.put, List.setIfInBounds_toArray, List.set_cons_succ, List.set_cons_zero]
    refine wpAnyH_take (i := 11) (v := ?_) rfl (by kernel_rfl) (by kernel_rfl) (by kernel_rfl) (fun _ _ _ h => h) (Or.inl ⟨by kernel_rfl, ?_⟩) HSW.out ?_
    rotate_left
    ·rintro w ⟨e1,e2⟩; go_simp; try with_reducible rfl
    conv in (Act.put _ _ _) => simp only [List.getElem_toArray, List.getElem_cons_succ, List.getElem_cons_zero, Act.put, List.setIfInBounds_toArray, List.set_cons_succ, List.set_cons_zero]
    refine wpAnyH_take (i := 13) (v := ?_) rfl (by kernel_rfl) (by kernel_rfl) (by kernel_rfl) (fun _ _ _ h => h) (Or.inl ⟨by kernel_rfl, ?_⟩) HSW.out ?_
    rotate_left
    ·rintro w ⟨e1,e2⟩; go_simp; try with_reducible rfl
    conv in (Act.put _ _ _) => simp only [List.getElem_toArray, List.getElem_cons_succ, List.getElem_cons_zero, Act.put, List.setIfInBounds_toArray, List.set_cons_succ, List.set_cons_zero]
    refine readyH 12 _ (by kernel_rfl) rfl (by kernel_rfl) (fun K hK => ?_)
    go_simp
    refine (HC.out _).mono ?_
    rintro e w1 ⟨rfl, b1⟩
    replace b1 : Below wr.heap.size wr w1 := (Below.refl _ wr).drew.trans b1
    replace HSW : Hid (QP p (off + k * 4) x y w1) := ⟨(HCR.out.same (b1.block p hbl)).2.1, (HCR.out.same (b1.block p hbl)).2.2.1⟩
    refine hK _ _ HSW.out ?_
    clear hK K
    refine wpAnyH_take (i := 14) (v := ?_) rfl (by kernel_rfl) (by kernel_rfl) (by kernel_rfl) (fun _ _ _ h => h) (Or.inl ⟨by kernel_rfl, ?_⟩) HSW.out ?_
    rotate_left
    ·rintro w ⟨e1,e2⟩; go_simp; try with_reducible rfl
    conv in (Act.put _ _ _) => simp only [List.getElem_toArray, List.getElem_cons_succ, List.getElem_cons_zero, Act.put, List.setIfInBounds_toArray, List.set_cons_succ, List.set_cons_zero]
    refine wpAnyH_done (by kernel_rfl) ?_ _
    obtain ⟨c0, c1, c2, c3⟩ := HCR.out.same (b1.block p hbl)
    simp only at c0 c1 c2 c3
    have hbn := below_new w1 (.cells #[.int .u64 (id : Int), .int .u32 (x : Int), .int .u32 (y : Int), .string v] 54)
    obtain ⟨v', W', hrun, a1, a2, a3⟩ := append_sl 32 54 Try.underlying32 infoRow rfl (by decide) (by decide) (w1.alloc (.cells #[.int .u64 (id : Int), .int .u32 (x : Int), .int .u32 (y : Int), .string v] 54)) w.heap.size pn 1 (.slice po pn pc) (some ⟨w1.heap.size, 0, none⟩) 1
     ((fk f l k).flatMap rc) (rc ⟨id, x, y, v⟩) (own_same HO.out fun b _ hb' => (hbn.block b (Nat.lt_of_lt_of_le hb' b1.size)).trans (b1.block b hb')) (by have := HBk.out.size; have := b1.size; simp; omega) (one_row (r := ⟨id, x, y, v⟩) (heap_alloc_new w1 _)) (rc_one' _) (by omega)
    have HO1 : Hid (W'.ownsRow w.heap.size 54 4 v' (fk f l (k + 1)).length ((fk f l (k + 1)).flatMap rc)) := by
     refine (?_ : W'.ownsRow w.heap.size 54 4 v' (fk f l (k + 1)).length ((fk f l (k + 1)).flatMap rc))
     rw [HNX.out, List.flatMap_append, List.length_append, HPN.out]
     simpa using a1
    have HB1 : Hid (Below w.heap.size w W') := (HBk.out.trans ((b1.mono HBk.out.size).trans (hbn.mono (Nat.le_trans HBk.out.size b1.size)))).grown a2 (by have := HBk.out.size; have := b1.size; simp; omega) fun b eb => (own_base HO.out eb).1
    clear b1 hbn a1 a2 a3 HSW HC hb ho sp
    go_wp2_with (at_builtin; refine list_append rfl 32 32 (.tmp 39) (.tmp 44) rfl (vs := .slice po pn pc) (vx := .slice (some ⟨w1.heap.size, 0, none⟩) 1 1) rfl rfl hrun ?_)
    go_roundw
    case rel => exact ⟨k + 1, by omega, by go_num, HO1.out, HB1.out⟩
    case measure => simp [natOf]; omega
  ·obtain rfl : k = l.length := by omega
   have q5 : ¬ (l.length : Int) < (l.length : Int) := by omega
   rw [fk_all] at HO HPN
   have HE : Hid (wr.ownsRow w.heap.size 54 4 (.slice po pn pc) (l.filter f).length ((l.filter f).flatMap rc) ∧ Below w.heap.size w wr) := ⟨by rw [HPN.out]; exact own_lower HO.out HB0.out.size, HB0.out.trans (HBk.out.mono HB0.out.size)⟩
   clear hb ho sp
   go_wp2_with fail
   go_ret2
   exact ⟨_, rfl, HE.out⟩
end Go.Proofs.Ytimdlohdmddnjaa.Rq
