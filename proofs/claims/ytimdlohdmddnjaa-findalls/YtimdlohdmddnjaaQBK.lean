/- Rows of their own are sorted; the rows of a way through them, by rising ids. -/
import Derived.Test.YtimdlohdmddnjaaQBJ
namespace Go.Proofs.Ytimdlohdmddnjaa.Rq
open Go.RowKit Go.Lib Go.Shelf
open Go.Proofs.Ytimdlohdmddnjaa.Rc
set_option maxRecDepth 100000 in
theorem perm_list {l : List Rw} {d' : Array Rw} (h : Sort.PermIn 0 l.length l.toArray d') : d'.toList.Perm l := by
  obtain ⟨h1, -, h3⟩ := h
  have e1 : d'.extract 0 l.length = d' := by
    have : l.length = d'.size := by rw [h1]; simp
    rw [this]; simp
  rw [e1] at h3
  simpa using h3
set_option maxRecDepth 100000 in
theorem srt_list {K : Rw → Nat} {n : Nat} {d' : Array Rw} (hn : d'.size = n) (h : Srt K 0 n d') : d'.toList.Pairwise fun a b => K a ≤ K b := by
  rw [List.pairwise_iff_getElem]
  intro i j hi hj hij
  have hi' : i < d'.size := by simpa using hi
  have hj' : j < d'.size := by simpa using hj
  have := h i j (by omega) hij (by omega)
  rw [getElem!_pos d' i hi', getElem!_pos d' j hj'] at this
  simpa using this
set_option maxRecDepth 100000 in
set_option maxHeartbeats 1000000 in
theorem stable_nil (sv : Value) (cf : Nat) (cb : Array Value) (w : World) :
    Calls Try.prog 81 #[sv, .int .i64 0, .func (.func cf) #[] cb] w fun e w' => e = .returned (.tuple #[]) ∧ Below w.heap.size w w' := by
  have HI : Hid (∀ w : World, Calls Try.prog 91 #[sv, .int .i64 0, .int .i64 0, .func (.func cf) #[] cb] w fun e w' => e = .returned (.tuple #[]) ∧ w' = w) := by
    refine (?_ : ∀ w : World, _)
    intro w
    go_enter Try.func91, Try.ntmps91
    go_wp2_with fail
    refine wp_loop_rounds 1 ?_
    rw [rounds_succ]
    go_wp2_with fail
    refine bodyPost_end (results_none rfl _ _ _) rfl ?_
    exact ⟨rfl, rfl⟩
  go_enter Try.func81, Try.ntmps81
  go_wp2_with fail
  refine wp_loop_rounds 1 ?_
  rw [rounds_succ]
  go_wp2_with fail
  refine (HI.out _).mono ?_
  rintro e w1 ⟨rfl, rfl⟩
  go_wp2_with fail
  refine wp_loop_rounds 1 ?_
  rw [rounds_succ]
  go_wp2_with fail
  refine bodyPost_end (results_none rfl _ _ _) rfl ?_
  exact ⟨rfl, Below.refl _ _⟩
/-- What a sort makes of rows of their own. -/
def Sorts (K : Rw → Nat) (base : Nat) (v : Value) (l : List Rw) (w w' : World) : Prop :=
  ∃ m : List Rw, m.Perm l ∧ (m.Pairwise fun a b => K a ≤ K b) ∧ w'.ownsRow base 54 4 v m.length (m.flatMap rc) ∧ Below base w w'
set_option maxRecDepth 100000 in
theorem stable_own (w0 : World) (ok : Rw → Prop) (K : Rw → Nat) (cf : Nat) (cb : Array Value) (hC : Cmp w0 ok (ltK K) cf cb) (base : Nat) (hg : w0.heap.size ≤ base) (l : List Rw) (hl : l.length ≤ 1000000) (hok : ∀ r, r ∈ l → ok r) (v : Value) (w : World) (h : w.ownsRow base 54 4 v l.length (l.flatMap rc)) (hw : Below w0.heap.size w0 w) (hbase : base ≤ w.heap.size) :
    Calls Try.prog 81 #[v, .int .i64 (l.length : Int), .func (.func cf) #[] cb] w fun e w' => e = .returned (.tuple #[]) ∧ Sorts K base v l w w' := by
  by_cases hnil : l = []
  · subst hnil
    refine (stable_nil v cf cb w).mono ?_
    rintro e w' ⟨rfl, b⟩
    refine ⟨rfl, [], List.Perm.refl _, List.Pairwise.nil, ?_, b.mono hbase⟩
    rcases h.2 with ⟨rfl, -⟩ | ⟨g, cap, cur, rfl, h2, h3, h4⟩
    · exact ⟨rfl, .inl ⟨rfl, rfl⟩⟩
    · exact ⟨rfl, .inr ⟨g, cap, cur, rfl, h2, (b.block g (Array.getElem?_eq_some_iff.1 h3).1).trans h3, h4⟩⟩
  · obtain ⟨g, cap, rfl, hgb, hu⟩ := ur_of_own h hnil
    have hs : l.toArray.size = l.length := by simp
    have hX := stableR_any w0 ok K cf cb hC g (cap * 4) cap (by omega) l.toArray (by omega) (fun i hi => hok _ (by rw [getElem!_pos l.toArray i hi]; simp)) w hu hw
    rw [hs] at hX
    refine hX.mono ?_
    rintro e w' ⟨rfl, d', u', s', p', b'⟩
    have hd' : d'.size = l.length := by rw [p'.1, hs]
    have hm : d'.toList.length = l.length := by simpa using hd'
    refine ⟨rfl, d'.toList, perm_list p', srt_list hd' s', ?_, ?_⟩
    · have := own_of_ur h (m := d'.toList) (by simpa using u') hm
      rwa [hm] at this ⊢
    · exact b'.below (fun k hk => by omega) hbase
set_option maxRecDepth 100000 in
theorem own_slice {w : World} {base n : Nat} {v : Value} {xs : List Value} (h : w.ownsRow base 54 4 v n xs) : ∃ po cap, v = .slice po n cap := by
  rcases h.2 with ⟨rfl, rfl⟩ | ⟨g, cap, cur, rfl, -⟩
  · exact ⟨_, _, rfl⟩
  · exact ⟨_, _, rfl⟩
set_option maxRecDepth 100000 in
set_option maxHeartbeats 1000000 in
theorem sortR_any (w0 : World) (ok : Rw → Prop) (K : Rw → Nat) (cf : Nat) (cb : Array Value) (hC : Cmp w0 ok (ltK K) cf cb) (base : Nat) (hg : w0.heap.size ≤ base) (l : List Rw) (hl : l.length ≤ 1000000) (hok : ∀ r, r ∈ l → ok r) (v : Value) (w : World) (h : w.ownsRow base 54 4 v l.length (l.flatMap rc)) (hw : Below w0.heap.size w0 w) (hbase : base ≤ w.heap.size) :
    Calls Try.prog 48 #[v, .func (.func cf) #[] cb] w fun e w' => e = .returned (.tuple #[]) ∧ Sorts K base v l w w' := by
  have HC : Hid (∀ _ : True, _) := fun _ => stable_own w0 ok K cf cb hC base hg l hl hok v w h hw hbase
  obtain ⟨po, cap, rfl⟩ := own_slice h
  clear hC hg hok h hw hbase
  obtain ⟨n, hn⟩ : ∃ n, l.length = n := ⟨_, rfl⟩
  rw [hn] at HC ⊢
  have q1 : (n : Int) ≤ 1000000 := by omega
  clear hn hl
  go_enter Try.func48, Try.ntmps48
  go_wp2_with fail
  refine Calls.mono (HC.out trivial) ?_
  rintro e w1 ⟨rfl, h1⟩
  have HS : Hid _ := h1
  clear h1 HC
  go_wp2_with fail
  refine bodyPost_end (results_none rfl _ _ _) rfl ?_
  exact ⟨rfl, HS.out⟩
set_option maxRecDepth 100000 in
set_option maxHeartbeats 1000000 in
theorem sortedR_any (w0 : World) (rs : List Rw) (gf : Nat) (lb : Array Value) (hit : RowsIter w0 rs gf lb) (heg : ∀ args w, (callFunc gf args).run Try.prog w = .ok (.enter gf args) w) (hmax : rs.length ≤ 1000) (ok : Rw → Prop) (K : Rw → Nat) (cf : Nat) (cb : Array Value) (hC : Cmp w0 ok (ltK K) cf cb) (hok : ∀ r, r ∈ rs → ok r) (w : World) (hw : Below w0.heap.size w0 w) :
    Calls Try.prog 65 #[.func (.func gf) #[] lb, .func (.func cf) #[] cb] w fun e w' => ∃ v, e = .returned v ∧ Sorts K w.heap.size v rs w w' := by
  have HC : Hid _ := collect_any w0 rs gf lb hit heg hmax
  have HR : Hid _ := sortR_any w0 ok K cf cb hC w.heap.size hw.size rs (by omega) hok
  have HW : Hid (Below w0.heap.size w0 w) := hw
  clear hit heg hC hok hmax hw
  go_enter Try.func65, Try.ntmps65
  go_wp2_with fail
  refine (HC.out w HW.out).mono ?_
  rintro e w1 ⟨v, rfl, h1, h2⟩
  have HR1 : Hid (∀ _ : True, _) := fun _ => HR.out v w1 h1 (HW.out.trans (h2.mono HW.out.size)) h2.size
  have HB1 : Hid _ := h2
  clear h1 h2 HR HC
  go_wp2_with fail
  refine Calls.mono (HR1.out trivial) ?_
  rintro e w2 ⟨rfl, m, hp, hs, ho, hb⟩
  have HE : Hid (Sorts K w.heap.size v rs w w2) := ⟨m, hp, hs, ho, HB1.out.trans hb⟩
  clear hp hs ho hb HR1 HB1
  go_wp2_with fail
  go_ret
  exact ⟨_, rfl, HE.out⟩
set_option maxRecDepth 100000 in
theorem cmp_byId (w0 : World) : Cmp w0 (fun _ => True) (ltK Rw.id) 66 #[] :=
  ⟨fun _ _ => rfl, fun W _ a b _ _ => (byId1_any a b W).mono fun e W' ⟨h1, h2⟩ => ⟨_, h1, by unfold cmpS ltK; by_cases c : a.id < b.id <;> by_cases c2 : b.id < a.id <;> simp [c, c2], h2⟩⟩
set_option maxRecDepth 100000 in
set_option maxHeartbeats 1000000 in
theorem byId_any (w0 : World) (rs : List Rw) (gf : Nat) (lb : Array Value) (hit : RowsIter w0 rs gf lb) (heg : ∀ args w, (callFunc gf args).run Try.prog w = .ok (.enter gf args) w) (hmax : rs.length ≤ 1000) (w : World) (hw : Below w0.heap.size w0 w) :
    Calls Try.prog 34 #[.func (.func gf) #[] lb] w fun e w' => ∃ v, e = .returned v ∧ Sorts Rw.id w.heap.size v rs w w' := by
  have HC : Hid (∀ _ : True, _) := fun _ => sortedR_any w0 rs gf lb hit heg hmax _ _ _ _ (cmp_byId w0) (fun _ _ => trivial) w hw
  clear hit heg hmax hw
  go_enter Try.func34, Try.ntmps34
  go_wp2_with fail
  refine Calls.mono (HC.out trivial) ?_
  rintro e w1 ⟨v, rfl, h1⟩
  have HE : Hid _ := h1
  clear h1 HC
  go_wp2_with fail
  go_ret
  exact ⟨_, rfl, HE.out⟩
end Go.Proofs.Ytimdlohdmddnjaa.Rq
/- The rows of a tree, those in a box, those near enough, by rising ids. -/
namespace Go.Proofs.Ytimdlohdmddnjaa.Rq
open Go.RowKit Go.Lib Go.Shelf
open Go.Proofs.Ytimdlohdmddnjaa.Rc
set_option maxRecDepth 100000 in
theorem own_down {w : World} {B B' n : Nat} {v : Value} {xs : List Value} (h : w.ownsRow B 54 4 v n xs) (hB : B' ≤ B) : w.ownsRow B' 54 4 v n xs := by
  refine ⟨h.1, ?_⟩
  rcases h.2 with h2 | ⟨g, cap, cur, h1, h2, h3⟩
  · exact .inl h2
  · exact .inr ⟨g, cap, cur, h1, Nat.le_trans hB h2, h3⟩
set_option maxRecDepth 100000 in
theorem sorts_is {base : Nat} {v : Value} {rs t : List Rw} {w w' : World} (h : Sorts Rw.id base v rs w w') (hp : rs.Perm t) (ht : Rise t) : w'.ownsRow base 54 4 v t.length (t.flatMap rc) ∧ Below base w w' := by
  obtain ⟨m, h1, h2, h3, h4⟩ := h
  obtain rfl : m = t := sorted_is (h2.imp fun h => by omega) (h1.trans hp) ht
  exact ⟨h3, h4⟩
set_option maxRecDepth 100000 in
set_option maxHeartbeats 1000000 in
theorem rowsQ_any (n : Nv) (l : List Rw) (d : Nat) (w : World) (hN : NodeAt (fun _ => True) d w n l) (hon : On l) (hmax : l.length ≤ 1000) (hri : Rise l) :
    Calls Try.prog 20 #[nv n] w fun e w' => ∃ v, e = .returned v ∧ w'.ownsRow w.heap.size 54 4 v l.length (l.flatMap rc) ∧ Below w.heap.size w w' := by
  have hp := seqs_perm (fun _ _ _ => true) (fun _ => true) (fun m _ _ h => by simp at h) d l hN.fits hon
  rw [filter_all] at hp
  have HP : Hid _ := hp
  have hb0 := below_new w (.cells #[.int .u32 (n.X : Int), .int .u32 (n.Y : Int), .int .i64 (n.L : Int), .slice n.ro n.rn n.rc, .slice n.ko n.kn n.kc] 45)
  have HB0 : Hid (Below w.heap.size w (w.alloc (.cells #[.int .u32 (n.X : Int), .int .u32 (n.Y : Int), .int .i64 (n.L : Int), .slice n.ro n.rn n.rc, .slice n.ko n.kn n.kc] 45))) := hb0
  have HNA : Hid (NodeAt (fun _ => True) d (w.alloc (.cells #[.int .u32 (n.X : Int), .int .u32 (n.Y : Int), .int .i64 (n.L : Int), .slice n.ro n.rn n.rc, .slice n.ko n.kn n.kc] 45)) n l) := hN.below hb0 (Nat.le_refl _)
  have HON : Hid (On l) := hon
  have HM : Hid (l.length ≤ 1000) := hmax
  have HRI : Hid (Rise l) := hri
  have HRA : Hid _ := rows_any n
  clear hN hon hmax hp hb0 hri
  obtain ⟨nX, nY, nL, nro, nrn, nrc, nko, nkn, nkc⟩ := n
  simp only [nv] at HRA ⊢
  simp only at HB0 HNA
  go_enter Try.func20, Try.ntmps20
  go_wp2_with fail
  refine (HRA.out _ _ _ _ _).mono ?_
  rintro e w1 ⟨rfl, hw1⟩
  obtain ⟨hb1, hit⟩ := rows_iter _ _ _ _ _ _ _ d _ l HNA.out HON.out HM.out w1 hw1 (ent_all w1) (kep_all w1)
  have hc := byId_any w1 _ _ _ hit rows1_eg (by rw [HP.out.length_eq]; exact HM.out) w1 (Below.refl _ _)
  have hsz : (w.alloc (.cells #[.int .u32 (nX : Int), .int .u32 (nY : Int), .int .i64 (nL : Int), .slice nro nrn nrc, .slice nko nkn nkc] 45)).heap.size = w.heap.size + 1 := by simp
  rw [hsz] at hc
  have HC : Hid (∀ _ : True, Calls Try.prog 34 #[.func (.func 67) #[] #[.pointer (some ⟨w.heap.size + 1 + 1, 0, none⟩), .pointer (some ⟨w.heap.size + 1, 0, none⟩), .pointer (some ⟨w.heap.size + 1 + 2, 0, none⟩)]] w1 fun e w' => ∃ v, e = .returned v ∧ w'.ownsRow w1.heap.size 54 4 v l.length (l.flatMap rc) ∧ Below w1.heap.size w1 w') := fun _ => hc.mono fun e w' ⟨v, h1, h2⟩ => ⟨v, h1, sorts_is h2 HP.out HRI.out⟩
  clear hc hsz
  have HB1 : Hid (Below w.heap.size w w1) := HB0.out.trans (hb1.mono (by simp))
  clear hw1 hit hb1
  go_wp2_with fail
  refine Calls.mono (HC.out trivial) ?_
  rintro e w2 ⟨v, rfl, ho2, hb2⟩
  have HO2 : Hid (w2.ownsRow w.heap.size 54 4 v l.length (l.flatMap rc)) := own_down ho2 HB1.out.size
  have HB2 : Hid (Below w.heap.size w w2) := HB1.out.trans (hb2.mono HB1.out.size)
  clear hb2 ho2
  go_wp2_with fail
  go_ret
  exact ⟨_, rfl, HO2.out, HB2.out⟩
set_option maxRecDepth 100000 in
set_option maxHeartbeats 1000000 in
theorem inBoxW_no (n : Nv) (a b c d : Nat) (fv : Value) (hb : boxS a b c d = false) (w : World) :
    Calls Try.prog 38 #[nv n, bv a b c d, fv] w fun e w' => e = .returned (.tuple #[.slice none 0 0, .int .i64 81]) ∧ Below w.heap.size w w' := by
  have HC : Hid _ := rightBox_any a b c d
  rw [hb] at HC
  have HB0 : Hid (Below w.heap.size w ((w.alloc (.cells #[.int .u32 (n.X : Int), .int .u32 (n.Y : Int), .int .i64 (n.L : Int), .slice n.ro n.rn n.rc, .slice n.ko n.kn n.kc] 45)).alloc (.cells #[.int .u32 (a : Int), .int .u32 (b : Int), .int .u32 (c : Int), .int .u32 (d : Int)] 24))) := (below_new w _).alloc (by simp) _
  obtain ⟨nX, nY, nL, nro, nrn, nrc, nko, nkn, nkc⟩ := n
  simp only [nv, bv] at HC ⊢
  simp only at HB0
  clear hb
  go_enter Try.func38, Try.ntmps38
  go_wp2_with fail
  refine (HC.out _).mono ?_
  rintro e w1 ⟨rfl, b1⟩
  have HB1 : Hid (Below w.heap.size w w1) := HB0.out.trans (b1.mono (by simp; omega))
  clear b1
  go_wp2_with fail
  go_ret2
  exact ⟨rfl, HB1.out⟩
set_option maxRecDepth 100000 in
set_option maxHeartbeats 1000000 in
theorem inBoxW_ok (n : Nv) (l : List Rw) (dd : Nat) (a b c d : Nat) (hb : boxS a b c d = true) (w : World) (hN : NodeAt (fun _ => True) dd w n l) (hon : On l) (hmax : l.length ≤ 1000) (hri : Rise l) :
    Calls Try.prog 38 #[nv n, bv a b c d, .func (.func 34) #[] #[]] w fun e w' => ∃ v, e = .returned (.tuple #[v, .int .i64 0]) ∧ w'.ownsRow w.heap.size 54 4 v (l.filter fun r => inS a b c d r.x r.y).length ((l.filter fun r => inS a b c d r.x r.y).flatMap rc) ∧ Below w.heap.size w w' := by
  have hp := seqs_perm (fun X Y L => touchS X Y (L : Int) a b c d) (fun r => inS a b c d r.x r.y) (box_all a b c d) dd l hN.fits hon
  have HP : Hid _ := hp
  have HC : Hid _ := rightBox_any a b c d
  rw [hb] at HC
  obtain ⟨W0, hW0⟩ : ∃ W0, (w.alloc (.cells #[.int .u32 (n.X : Int), .int .u32 (n.Y : Int), .int .i64 (n.L : Int), .slice n.ro n.rn n.rc, .slice n.ko n.kn n.kc] 45)).alloc (.cells #[.int .u32 (a : Int), .int .u32 (b : Int), .int .u32 (c : Int), .int .u32 (d : Int)] 24) = W0 := ⟨_, rfl⟩
  obtain ⟨y1, y2, y3⟩ := two_new w (.cells #[.int .u32 (n.X : Int), .int .u32 (n.Y : Int), .int .i64 (n.L : Int), .slice n.ro n.rn n.rc, .slice n.ko n.kn n.kc] 45) (.cells #[.int .u32 (a : Int), .int .u32 (b : Int), .int .u32 (c : Int), .int .u32 (d : Int)] 24)
  rw [hW0] at y1 y2 y3
  have HY1 : Hid (W0.heap[w.heap.size]? = some (.cells #[.int .u32 (n.X : Int), .int .u32 (n.Y : Int), .int .i64 (n.L : Int), .slice n.ro n.rn n.rc, .slice n.ko n.kn n.kc] 45 (0, 0))) := y1
  have HY2 : Hid (W0.heap[w.heap.size + 1]? = some (.cells #[.int .u32 (a : Int), .int .u32 (b : Int), .int .u32 (c : Int), .int .u32 (d : Int)] 24 (0, 0))) := y2
  have HB0 : Hid (Below w.heap.size w W0) := y3
  have HW0 : Hid _ := hW0
  have HNA : Hid (NodeAt (fun _ => True) dd W0 n l) := hN.below y3 (Nat.le_refl _)
  have HON : Hid (On l) := hon
  have HM : Hid (l.length ≤ 1000) := hmax
  have HRI : Hid (Rise (l.filter fun r => inS a b c d r.x r.y)) := rise_filter hri _
  have HRA : Hid _ := rows_any n
  clear hN hon hmax hp y1 y2 y3 hb hW0 hri
  obtain ⟨nX, nY, nL, nro, nrn, nrc, nko, nkn, nkc⟩ := n
  simp only [nv, bv] at HRA HC ⊢
  simp only at HNA HY1 HW0
  go_enter Try.func38, Try.ntmps38
  go_wp2_with fail
  refine (HC.out _).mono ?_
  rw [HW0.out]
  rintro e w1 ⟨rfl, b1⟩
  have l2 := (Array.getElem?_eq_some_iff.1 HY2.out).1
  have l1 := (Array.getElem?_eq_some_iff.1 HY1.out).1
  have HG1 : Hid (w1.heap[w.heap.size + 1]? = some (.cells #[.int .u32 (a : Int), .int .u32 (b : Int), .int .u32 (c : Int), .int .u32 (d : Int)] 24 (0, 0))) := (b1.block _ l2).trans HY2.out
  have hn1 := (b1.block _ l1).trans HY1.out
  obtain ⟨z0, z1, z2, z3, z4, f0, f1, f2, f3, f4⟩ := node_facts hn1
  have ln : w.heap.size < w1.heap.size := (Array.getElem?_eq_some_iff.1 hn1).1
  have HNB : Hid (NodeAt (fun _ => True) dd w1 ⟨nX, nY, nL, nro, nrn, nrc, nko, nkn, nkc⟩ l) := HNA.out.below b1 (Nat.le_refl _)
  have HB1 : Hid (Below w.heap.size w w1) := HB0.out.trans (b1.mono HB0.out.size)
  clear b1 z0 z1 z2 z3 z4 l1 l2 hn1 HW0 HY1 HY2 HNA
  go_wp2_with fail
  refine (HRA.out _ _ _ _ _).mono ?_
  rintro e w2 ⟨rfl, hw2⟩
  have hb12 : Below w1.heap.size w1 w2 := by rw [hw2]; exact ((below_new w1 _).alloc (by simp) _).alloc (by simp; omega) _
  have hg2 := (hb12.block _ (Array.getElem?_eq_some_iff.1 HG1.out).1).trans HG1.out
  obtain ⟨hb2, hit⟩ := rows_iter _ _ _ _ _ _ _ dd _ l HNB.out HON.out HM.out w2 hw2 (ent_boxW w2 _ a b c d hg2) (kep_boxW w2 _ a b c d hg2)
  have hc := byId_any w2 _ _ _ hit rows1_eg (by rw [HP.out.length_eq]; exact Nat.le_trans (List.length_filter_le _ _) HM.out) w2 (Below.refl _ _)
  obtain ⟨ll, hll⟩ : ∃ ll, (l.filter fun r => inS a b c d r.x r.y) = ll := ⟨_, rfl⟩
  have HLL : Hid ((l.filter fun r => inS a b c d r.x r.y) = ll) := hll
  have hp2 := HP.out
  have hri2 := HRI.out
  rw [hll] at hp2 hri2
  clear hll
  have HCC : Hid (∀ _ : True, Calls Try.prog 34 #[.func (.func 67) #[] #[.pointer (some ⟨w1.heap.size + 1, 0, none⟩), .pointer (some ⟨w1.heap.size, 0, none⟩), .pointer (some ⟨w1.heap.size + 2, 0, none⟩)]] w2 fun e w' => ∃ v, e = .returned v ∧ w'.ownsRow w2.heap.size 54 4 v ll.length (ll.flatMap rc) ∧ Below w2.heap.size w2 w') := fun _ => hc.mono fun e w' ⟨v, h1, h2⟩ => ⟨v, h1, sorts_is h2 hp2 hri2⟩
  have HB2 : Hid (Below w.heap.size w w2) := HB1.out.trans (hb12.mono HB1.out.size)
  clear hw2 hit hb2 hb12 hg2 hc hp2 hri2
  go_wp2_with fail
  refine Calls.mono (HCC.out trivial) ?_
  rintro e w3 ⟨v, rfl, ho3, hb3⟩
  have HO3 : Hid (w3.ownsRow w.heap.size 54 4 v ll.length (ll.flatMap rc)) := own_down ho3 HB2.out.size
  have HB3 : Hid (Below w.heap.size w w3) := HB2.out.trans (hb3.mono HB2.out.size)
  clear hb3 ho3
  go_wp2_with fail
  go_ret2
  rw [HLL.out]
  exact ⟨_, rfl, HO3.out, HB3.out⟩
/-- The rows of a tree in a box, and what is said of it. -/
def winV (l : List Rw) (a b c d : Nat) : List Rw := if boxS a b c d = true then (l.filter fun r => inS a b c d r.x r.y) else []
set_option maxRecDepth 100000 in
theorem inBoxW_any (n : Nv) (l : List Rw) (dd : Nat) (a b c d : Nat) (w : World) (hN : NodeAt (fun _ => True) dd w n l) (hon : On l) (hmax : l.length ≤ 1000) (hri : Rise l) :
    Calls Try.prog 38 #[nv n, bv a b c d, .func (.func 34) #[] #[]] w fun e w' => ∃ v, e = .returned (.tuple #[v, .int .i64 (boxE a b c d)]) ∧ w'.ownsRow w.heap.size 54 4 v (winV l a b c d).length ((winV l a b c d).flatMap rc) ∧ Below w.heap.size w w' := by
  unfold winV boxE
  cases hb : boxS a b c d
  · refine (inBoxW_no n a b c d _ hb w).mono ?_
    rintro e w' ⟨h1, h2⟩
    exact ⟨_, by simpa using h1, ⟨rfl, .inl ⟨rfl, rfl⟩⟩, h2⟩
  · simpa using inBoxW_ok n l dd a b c d hb w hN hon hmax hri
set_option maxRecDepth 100000 in
set_option maxHeartbeats 1000000 in
theorem window_any (n : Nv) (l : List Rw) (dd : Nat) (a b c d : Nat) (w : World) (hN : NodeAt (fun _ => True) dd w n l) (hon : On l) (hmax : l.length ≤ 1000) (hri : Rise l) :
    Calls Try.prog 21 #[nv n, bv a b c d] w fun e w' => ∃ v, e = .returned (.tuple #[v, .int .i64 (boxE a b c d)]) ∧ w'.ownsRow w.heap.size 54 4 v (winV l a b c d).length ((winV l a b c d).flatMap rc) ∧ Below w.heap.size w w' := by
  have hb0 : Below w.heap.size w ((w.alloc (.cells #[.int .u32 (n.X : Int), .int .u32 (n.Y : Int), .int .i64 (n.L : Int), .slice n.ro n.rn n.rc, .slice n.ko n.kn n.kc] 45)).alloc (.cells #[.int .u32 (a : Int), .int .u32 (b : Int), .int .u32 (c : Int), .int .u32 (d : Int)] 24)) := (below_new w _).alloc (by simp) _
  have HB0 : Hid _ := hb0
  have HC : Hid (∀ _ : True, _) := fun _ => inBoxW_any n l dd a b c d _ (hN.below hb0 (Nat.le_refl _)) hon hmax hri
  clear hb0 hN hon hmax hri
  obtain ⟨nX, nY, nL, nro, nrn, nrc, nko, nkn, nkc⟩ := n
  simp only [nv, bv] at HC HB0 ⊢
  generalize winV l a b c d = cv' at *
  generalize boxE a b c d = be at *
  go_enter Try.func21, Try.ntmps21
  go_wp2_with fail
  refine Calls.mono (HC.out trivial) ?_
  rintro e w1 ⟨v, rfl, o1, b1⟩
  have HB1 : Hid (Below w.heap.size w w1) := HB0.out.trans (b1.mono (by simp; omega))
  have HO1 : Hid (w1.ownsRow w.heap.size 54 4 v cv'.length (cv'.flatMap rc)) := own_down o1 (by simp; omega)
  clear b1 o1 HC HB0
  go_wp2_with fail
  go_ret2
  exact ⟨_, rfl, HO1.out, HB1.out⟩
end Go.Proofs.Ytimdlohdmddnjaa.Rq
