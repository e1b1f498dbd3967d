/- Rows of their own are sorted; the rows of a way through them, by rising ids. -/
import Derived.Test.YtimdlohdmddnjaaQBJ
import Derived.Test.YtimdlohdmddnjaaQGG
import Derived.Test.YtimdlohdmddnjaaQCD
namespace Go.Proofs.Ytimdlohdmddnjaa.Rq
open Go.RowKit Go.Lib Go.Shelf
open Go.Proofs.Ytimdlohdmddnjaa.Rc
set_option maxRecDepth 100000 in
theorem perm_list {l : List Rw} {d' : Array Rw} (h : Sort.PermIn 0 l.length l.toArray d') : d'.toList.Perm l := by
  obtain ⟨h1, -, h3⟩ := h
  have e1 : d'.extract 0 l.length = d' := by
    have : l.length = d'.size := by rw [h1]; simp
    rw [this]; simp
  rw [e1] at h3
  simpa using h3
set_option maxRecDepth 100000 in
theorem srt_list {K : Rw → Nat} {n : Nat} {d' : Array Rw} (hn : d'.size = n) (h : Srt K 0 n d') : d'.toList.Pairwise fun a b => K a ≤ K b := by
  rw [List.pairwise_iff_getElem]
  intro i j hi hj hij
  have hi' : i < d'.size := by simpa using hi
  have hj' : j < d'.size := by simpa using hj
  have := h i j (by omega) hij (by omega)
  rw [getElem!_pos d' i hi', getElem!_pos d' j hj'] at this
  simpa using this
set_option maxRecDepth 100000 in
set_option maxHeartbeats 1000000 in
theorem stable_nil (sv : Value) (cf : Nat) (cb : Array Value) (w : World) :
    Calls Try.prog 81 #[sv, .int .i64 0, .func (.func cf) #[] cb] w fun e w' => e = .returned (.tuple #[]) ∧ Below w.heap.size w w' := by
  have HI : Hid (∀ w : World, Calls Try.prog 91 #[sv, .int .i64 0, .int .i64 0, .func (.func cf) #[] cb] w fun e w' => e = .returned (.tuple #[]) ∧ w' = w) := by
    refine (?_ : ∀ w : World, _)
    intro w
    go_enter Try.func91, Try.ntmps91
    go_wp2_with fail
    refine wp_loop_rounds 1 ?_
    rw [rounds_succ]
    go_wp2_with fail
    refine bodyPost_end (results_none rfl _ _ _) rfl ?_
    exact ⟨rfl, rfl⟩
  go_enter Try.func81, Try.ntmps81
  go_wp2_with fail
  refine wp_loop_rounds 1 ?_
  rw [rounds_succ]
  go_wp2_with fail
  refine (HI.out _).mono ?_
  rintro e w1 ⟨rfl, rfl⟩
  go_wp2_with fail
  refine wp_loop_rounds 1 ?_
  rw [rounds_succ]
  go_wp2_with fail
  refine bodyPost_end (results_none rfl _ _ _) rfl ?_
  exact ⟨rfl, Below.refl _ _⟩
/-- What a sort makes of rows of their own. -/
def Sorts (K : Rw → Nat) (base : Nat) (v : Value) (l : List Rw) (w w' : World) : Prop :=
  ∃ m : List Rw, m.Perm l ∧ (m.Pairwise fun a b => K a ≤ K b) ∧ w'.ownsRow base 54 4 v m.length (m.flatMap rc) ∧ Below base w w'
set_option maxRecDepth 100000 in
theorem stable_own (w0 : World) (ok : Rw → Prop) (K : Rw → Nat) (cf : Nat) (cb : Array Value) (hC : Cmp w0 ok (ltK K) cf cb) (base : Nat) (hg : w0.heap.size ≤ base) (l : List Rw) (hl : l.length ≤ 1000000) (hok : ∀ r, r ∈ l → ok r) (v : Value) (w : World) (h : w.ownsRow base 54 4 v l.length (l.flatMap rc)) (hw : Below w0.heap.size w0 w) (hbase : base ≤ w.heap.size) :
    Calls Try.prog 81 #[v, .int .i64 (l.length : Int), .func (.func cf) #[] cb] w fun e w' => e = .returned (.tuple #[]) ∧ Sorts K base v l w w' := by
  by_cases hnil : l = []
  · subst hnil
    refine (stable_nil v cf cb w).mono ?_
    rintro e w' ⟨rfl, b⟩
    refine ⟨rfl, [], List.Perm.refl _, List.Pairwise.nil, ?_, b.mono hbase⟩
    rcases h.2 with ⟨rfl, -⟩ | ⟨g, cap, cur, rfl, h2, h3, h4⟩
    · exact ⟨rfl, .inl ⟨rfl, rfl⟩⟩
    · exact ⟨rfl, .inr ⟨g, cap, cur, rfl, h2, (b.block g (Array.getElem?_eq_some_iff.1 h3).1).trans h3, h4⟩⟩
  · obtain ⟨g, cap, rfl, hgb, hu⟩ := ur_of_own h hnil
    have hs : l.toArray.size = l.length := by simp
    have hX := stableR_any w0 ok K cf cb hC g (cap * 4) cap (by omega) l.toArray (by omega) (fun i hi => hok _ (by rw [getElem!_pos l.toArray i hi]; simp)) w hu hw
    rw [hs] at hX
    refine hX.mono ?_
    rintro e w' ⟨rfl, d', u', s', p', b'⟩
    have hd' : d'.size = l.length := by rw [p'.1, hs]
    have hm : d'.toList.length = l.length := by simpa using hd'
    refine ⟨rfl, d'.toList, perm_list p', srt_list hd' s', ?_, ?_⟩
    · have := own_of_ur h (m := d'.toList) (by simpa using u') hm
      rwa [hm] at this ⊢
    · exact b'.below (fun k hk => by omega) hbase
set_option maxRecDepth 100000 in
theorem own_slice {w : World} {base n : Nat} {v : Value} {xs : List Value} (h : w.ownsRow base 54 4 v n xs) : ∃ po cap, v = .slice po n cap := by
  rcases h.2 with ⟨rfl, rfl⟩ | ⟨g, cap, cur, rfl, -⟩
  · exact ⟨_, _, rfl⟩
  · exact ⟨_, _, rfl⟩
set_option maxRecDepth 100000 in
set_option maxHeartbeats 1000000 in
theorem sortR_any (w0 : World) (ok : Rw → Prop) (K : Rw → Nat) (cf : Nat) (cb : Array Value) (hC : Cmp w0 ok (ltK K) cf cb) (base : Nat) (hg : w0.heap.size ≤ base) (l : List Rw) (hl : l.length ≤ 1000000) (hok : ∀ r, r ∈ l → ok r) (v : Value) (w : World) (h : w.ownsRow base 54 4 v l.length (l.flatMap rc)) (hw : Below w0.heap.size w0 w) (hbase : base ≤ w.heap.size) :
    Calls Try.prog 48 #[v, .func (.func cf) #[] cb] w fun e w' => e = .returned (.tuple #[]) ∧ Sorts K base v l w w' := by
  have HC : Hid (∀ _ : True, _) := fun _ => stable_own w0 ok K cf cb hC base hg l hl hok v w h hw hbase
  obtain ⟨po, cap, rfl⟩ := own_slice h
  clear hC hg hok h hw hbase
  obtain ⟨n, hn⟩ : ∃ n, l.length = n := ⟨_, rfl⟩
  rw [hn] at HC ⊢
  have q1 : (n : Int) ≤ 1000000 := by omega
  clear hn hl
  go_enter Try.func48, Try.ntmps48
  go_wp2_with fail
  refine Calls.mono (HC.out trivial) ?_
  rintro e w1 ⟨rfl, h1⟩
  have HS : Hid _ := h1
  clear h1 HC
  go_wp2_with fail
  refine bodyPost_end (results_none rfl _ _ _) rfl ?_
  exact ⟨rfl, HS.out⟩
set_option maxRecDepth 100000 in
set_option maxHeartbeats 1000000 in
theorem sortedR_any (w0 : World) (rs : List Rw) (gf : Nat) (lb : Array Value) (hit : RowsIter w0 rs gf lb) (heg : ∀ args w, (callFunc gf args).run Try.prog w = .ok (.enter gf args) w) (hmax : rs.length ≤ 1000) (ok : Rw → Prop) (K : Rw → Nat) (cf : Nat) (cb : Array Value) (hC : Cmp w0 ok (ltK K) cf cb) (hok : ∀ r, r ∈ rs → ok r) (w : World) (hw : Below w0.heap.size w0 w) :
    Calls Try.prog 65 #[.func (.func gf) #[] lb, .func (.func cf) #[] cb] w fun e w' => ∃ v, e = .returned v ∧ Sorts K w.heap.size v rs w w' := by
  have HC : Hid _ := collect_any w0 rs gf lb hit heg hmax
  have HR : Hid _ := sortR_any w0 ok K cf cb hC w.heap.size hw.size rs (by omega) hok
  have HW : Hid (Below w0.heap.size w0 w) := hw
  clear hit heg hC hok hmax hw
  go_enter Try.func65, Try.ntmps65
  go_wp2_with fail
  refine (HC.out w HW.out).mono ?_
  rintro e w1 ⟨v, rfl, h1, h2⟩
  have HR1 : Hid (∀ _ : True, _) := fun _ => HR.out v w1 h1 (HW.out.trans (h2.mono HW.out.size)) h2.size
  have HB1 : Hid _ := h2
  clear h1 h2 HR HC
  go_wp2_with fail
  refine Calls.mono (HR1.out trivial) ?_
  rintro e w2 ⟨rfl, m, hp, hs, ho, hb⟩
  have HE : Hid (Sorts K w.heap.size v rs w w2) := ⟨m, hp, hs, ho, HB1.out.trans hb⟩
  clear hp hs ho hb HR1 HB1
  go_wp2_with fail
  go_ret
  exact ⟨_, rfl, HE.out⟩
set_option maxRecDepth 100000 in
theorem cmp_byId (w0 : World) : Cmp w0 (fun _ => True) (ltK Rw.id) 66 #[] :=
  ⟨fun _ _ => rfl, fun W _ a b _ _ => (byId1_any a b W).mono fun e W' ⟨h1, h2⟩ => ⟨_, h1, by unfold cmpS ltK; by_cases c : a.id < b.id <;> by_cases c2 : b.id < a.id <;> simp [c, c2], h2⟩⟩
set_option maxRecDepth 100000 in
set_option maxHeartbeats 1000000 in
theorem byId_any (w0 : World) (rs : List Rw) (gf : Nat) (lb : Array Value) (hit : RowsIter w0 rs gf lb) (heg : ∀ args w, (callFunc gf args).run Try.prog w = .ok (.enter gf args) w) (hmax : rs.length ≤ 1000) (w : World) (hw : Below w0.heap.size w0 w) :
    Calls Try.prog 34 #[.func (.func gf) #[] lb] w fun e w' => ∃ v, e = .returned v ∧ Sorts Rw.id w.heap.size v rs w w' := by
  have HC : Hid (∀ _ : True, _) := fun _ => sortedR_any w0 rs gf lb hit heg hmax _ _ _ _ (cmp_byId w0) (fun _ _ => trivial) w hw
  clear hit heg hmax hw
  go_enter Try.func34, Try.ntmps34
  go_wp2_with fail
  refine Calls.mono (HC.out trivial) ?_
  rintro e w1 ⟨v, rfl, h1⟩
  have HE : Hid _ := h1
  clear h1 HC
  go_wp2_with fail
  go_ret
  exact ⟨_, rfl, HE.out⟩
end Go.Proofs.Ytimdlohdmddnjaa.Rq
/- The rows of a tree, those in a box, those near enough, by rising ids. -/
namespace Go.Proofs.Ytimdlohdmddnjaa.Rq
open Go.RowKit Go.Lib Go.Shelf
open Go.Proofs.Ytimdlohdmddnjaa.Rc
set_option maxRecDepth 100000 in
theorem own_down {w : World} {B B' n : Nat} {v : Value} {xs : List Value} (h : w.ownsRow B 54 4 v n xs) (hB : B' ≤ B) : w.ownsRow B' 54 4 v n xs := by
  refine ⟨h.1, ?_⟩
  rcases h.2 with h2 | ⟨g, cap, cur, h1, h2, h3⟩
  · exact .inl h2
  · exact .inr ⟨g, cap, cur, h1, Nat.le_trans hB h2, h3⟩
set_option maxRecDepth 100000 in
theorem sorts_is {base : Nat} {v : Value} {rs t : List Rw} {w w' : World} (h : Sorts Rw.id base v rs w w') (hp : rs.Perm t) (ht : Rise t) : w'.ownsRow base 54 4 v t.length (t.flatMap rc) ∧ Below base w w' := by
  obtain ⟨m, h1, h2, h3, h4⟩ := h
  obtain rfl : m = t := sorted_is (h2.imp fun h => by omega) (h1.trans hp) ht
  exact ⟨h3, h4⟩
set_option maxRecDepth 100000 in
set_option maxHeartbeats 1000000 in
theorem rowsQ_any (n : Nv) (l : List Rw) (d : Nat) (w : World) (hN : NodeAt (fun _ => True) d w n l) (hon : On l) (hmax : l.length ≤ 1000) (hri : Rise l) :
    Calls Try.prog 20 #[nv n] w fun e w' => ∃ v, e = .returned v ∧ w'.ownsRow w.heap.size 54 4 v l.length (l.flatMap rc) ∧ Below w.heap.size w w' := by
  have hp := seqs_perm (fun _ _ _ => true) (fun _ => true) (fun m _ _ h => by simp at h) d l hN.fits hon
  rw [filter_all] at hp
  have HP : Hid _ := hp
  have hb0 := below_new w (.cells #[.int .u32 (n.X : Int), .int .u32 (n.Y : Int), .int .i64 (n.L : Int), .slice n.ro n.rn n.rc, .slice n.ko n.kn n.kc] 45)
  have HB0 : Hid (Below w.heap.size w (w.alloc (.cells #[.int .u32 (n.X : Int), .int .u32 (n.Y : Int), .int .i64 (n.L : Int), .slice n.ro n.rn n.rc, .slice n.ko n.kn n.kc] 45))) := hb0
  have HNA : Hid (NodeAt (fun _ => True) d (w.alloc (.cells #[.int .u32 (n.X : Int), .int .u32 (n.Y : Int), .int .i64 (n.L : Int), .slice n.ro n.rn n.rc, .slice n.ko n.kn n.kc] 45)) n l) := hN.below hb0 (Nat.le_refl _)
  have HON : Hid (On l) := hon
  have HM : Hid (l.length ≤ 1000) := hmax
  have HRI : Hid (Rise l) := hri
  have HRA : Hid _ := rows_any n
  clear hN hon hmax hp hb0 hri
  obtain ⟨nX, nY, nL, nro, nrn, nrc, nko, nkn, nkc⟩ := n
  simp only [nv] at HRA ⊢
  simp only at HB0 HNA
  go_enter Try.func20, Try.ntmps20
  go_wp2_with fail
  refine (HRA.out _ _ _ _ _).mono ?_
  rintro e w1 ⟨rfl, hw1⟩
  obtain ⟨hb1, hit⟩ := rows_iter _ _ _ _ _ _ _ d _ l HNA.out HON.out HM.out w1 hw1 (ent_all w1) (kep_all w1)
  have hc := byId_any w1 _ _ _ hit rows1_eg (by rw [HP.out.length_eq]; exact HM.out) w1 (Below.refl _ _)
  have hsz : (w.alloc (.cells #[.int .u32 (nX : Int), .int .u32 (nY : Int), .int .i64 (nL : Int), .slice nro nrn nrc, .slice nko nkn nkc] 45)).heap.size = w.heap.size + 1 := by simp
  rw [hsz] at hc
  have HC : Hid (∀ _ : True, Calls Try.prog 34 #[.func (.func 67) #[] #[.pointer (some ⟨w.heap.size + 1 + 1, 0, none⟩), .pointer (some ⟨w.heap.size + 1, 0, none⟩), .pointer (some ⟨w.heap.size + 1 + 2, 0, none⟩)]] w1 fun e w' => ∃ v, e = .returned v ∧ w'.ownsRow w1.heap.size 54 4 v l.length (l.flatMap rc) ∧ Below w1.heap.size w1 w') := fun _ => hc.mono fun e w' ⟨v, h1, h2⟩ => ⟨v, h1, sorts_is h2 HP.out HRI.out⟩
  clear hc hsz
  have HB1 : Hid (Below w.heap.size w w1) := HB0.out.trans (hb1.mono (by simp))
  clear hw1 hit hb1
  go_wp2_with fail
  refine Calls.mono (HC.out trivial) ?_
  rintro e w2 ⟨v, rfl, ho2, hb2⟩
  have HO2 : Hid (w2.ownsRow w.heap.size 54 4 v l.length (l.flatMap rc)) := own_down ho2 HB1.out.size
  have HB2 : Hid (Below w.heap.size w w2) := HB1.out.trans (hb2.mono HB1.out.size)
  clear hb2 ho2
  go_wp2_with fail
  go_ret
  exact ⟨_, rfl, HO2.out, HB2.out⟩
set_option maxRecDepth 100000 in
set_option maxHeartbeats 1000000 in
theorem inBoxW_no (n : Nv) (a b c d : Nat) (fv : Value) (hb : boxS a b c d = false) (w : World) :
    Calls Try.prog 38 #[nv n, bv a b c d, fv] w fun e w' => e = .returned (.tuple #[.slice none 0 0, .int .i64 81]) ∧ Below w.heap.size w w' := by
  have HC : Hid _ := rightBox_any a b c d
  rw [hb] at HC
  have HB0 : Hid (Below w.heap.size w ((w.alloc (.cells #[.int .u32 (n.X : Int), .int .u32 (n.Y : Int), .int .i64 (n.L : Int), .slice n.ro n.rn n.rc, .slice n.ko n.kn n.kc] 45)).alloc (.cells #[.int .u32 (a : Int), .int .u32 (b : Int), .int .u32 (c : Int), .int .u32 (d : Int)] 24))) := (below_new w _).alloc (by simp) _
  obtain ⟨nX, nY, nL, nro, nrn, nrc, nko, nkn, nkc⟩ := n
  simp only [nv, bv] at HC ⊢
  simp only at HB0
  clear hb
  go_enter Try.func38, Try.ntmps38
  go_wp2_with fail
  refine (HC.out _).mono ?_
  rintro e w1 ⟨rfl, b1⟩
  have HB1 : Hid (Below w.heap.size w w1) := HB0.out.trans (b1.mono (by simp; omega))
  clear b1
  go_wp2_with fail
  go_ret2
  exact ⟨rfl, HB1.out⟩
set_option maxRecDepth 100000 in
set_option maxHeartbeats 1000000 in
theorem inBoxW_ok (n : Nv) (l : List Rw) (dd : Nat) (a b c d : Nat) (hb : boxS a b c d = true) (w : World) (hN : NodeAt (fun _ => True) dd w n l) (hon : On l) (hmax : l.length ≤ 1000) (hri : Rise l) :
    Calls Try.prog 38 #[nv n, bv a b c d, .func (.func 34) #[] #[]] w fun e w' => ∃ v, e = .returned (.tuple #[v, .int .i64 0]) ∧ w'.ownsRow w.heap.size 54 4 v (l.filter fun r => inS a b c d r.x r.y).length ((l.filter fun r => inS a b c d r.x r.y).flatMap rc) ∧ Below w.heap.size w w' := by
  have hp := seqs_perm (fun X Y L => touchS X Y (L : Int) a b c d) (fun r => inS a b c d r.x r.y) (box_all a b c d) dd l hN.fits hon
  have HP : Hid _ := hp
  have HC : Hid _ := rightBox_any a b c d
  rw [hb] at HC
  obtain ⟨W0, hW0⟩ : ∃ W0, (w.alloc (.cells #[.int .u32 (n.X : Int), .int .u32 (n.Y : Int), .int .i64 (n.L : Int), .slice n.ro n.rn n.rc, .slice n.ko n.kn n.kc] 45)).alloc (.cells #[.int .u32 (a : Int), .int .u32 (b : Int), .int .u32 (c : Int), .int .u32 (d : Int)] 24) = W0 := ⟨_, rfl⟩
  obtain ⟨y1, y2, y3⟩ := two_new w (.cells #[.int .u32 (n.X : Int), .int .u32 (n.Y : Int), .int .i64 (n.L : Int), .slice n.ro n.rn n.rc, .slice n.ko n.kn n.kc] 45) (.cells #[.int .u32 (a : Int), .int .u32 (b : Int), .int .u32 (c : Int), .int .u32 (d : Int)] 24)
  rw [hW0] at y1 y2 y3
  have HY1 : Hid (W0.heap[w.heap.size]? = some (.cells #[.int .u32 (n.X : Int), .int .u32 (n.Y : Int), .int .i64 (n.L : Int), .slice n.ro n.rn n.rc, .slice n.ko n.kn n.kc] 45 (0, 0))) := y1
  have HY2 : Hid (W0.heap[w.heap.size + 1]? = some (.cells #[.int .u32 (a : Int), .int .u32 (b : Int), .int .u32 (c : Int), .int .u32 (d : Int)] 24 (0, 0))) := y2
  have HB0 : Hid (Below w.heap.size w W0) := y3
  have HW0 : Hid _ := hW0
  have HNA : Hid (NodeAt (fun _ => True) dd W0 n l) := hN.below y3 (Nat.le_refl _)
  have HON : Hid (On l) := hon
  have HM : Hid (l.length ≤ 1000) := hmax
  have HRI : Hid (Rise (l.filter fun r => inS a b c d r.x r.y)) := rise_filter hri _
  have HRA : Hid _ := rows_any n
  clear hN hon hmax hp y1 y2 y3 hb hW0 hri
  obtain ⟨nX, nY, nL, nro, nrn, nrc, nko, nkn, nkc⟩ := n
  simp only [nv, bv] at HRA HC ⊢
  simp only at HNA HY1 HW0
  go_enter Try.func38, Try.ntmps38
  go_wp2_with fail
  refine (HC.out _).mono ?_
  rw [HW0.out]
  rintro e w1 ⟨rfl, b1⟩
  have l2 := (Array.getElem?_eq_some_iff.1 HY2.out).1
  have l1 := (Array.getElem?_eq_some_iff.1 HY1.out).1
  have HG1 : Hid (w1.heap[w.heap.size + 1]? = some (.cells #[.int .u32 (a : Int), .int .u32 (b : Int), .int .u32 (c : Int), .int .u32 (d : Int)] 24 (0, 0))) := (b1.block _ l2).trans HY2.out
  have hn1 := (b1.block _ l1).trans HY1.out
  obtain ⟨z0, z1, z2, z3, z4, f0, f1, f2, f3, f4⟩ := node_facts hn1
  have ln : w.heap.size < w1.heap.size := (Array.getElem?_eq_some_iff.1 hn1).1
  have HNB : Hid (NodeAt (fun _ => True) dd w1 ⟨nX, nY, nL, nro, nrn, nrc, nko, nkn, nkc⟩ l) := HNA.out.below b1 (Nat.le_refl _)
  have HB1 : Hid (Below w.heap.size w w1) := HB0.out.trans (b1.mono HB0.out.size)
  clear b1 z0 z1 z2 z3 z4 l1 l2 hn1 HW0 HY1 HY2 HNA
  go_wp2_with fail
  refine (HRA.out _ _ _ _ _).mono ?_
  rintro e w2 ⟨rfl, hw2⟩
  have hb12 : Below w1.heap.size w1 w2 := by rw [hw2]; exact ((below_new w1 _).alloc (by simp) _).alloc (by simp; omega) _
  have hg2 := (hb12.block _ (Array.getElem?_eq_some_iff.1 HG1.out).1).trans HG1.out
  obtain ⟨hb2, hit⟩ := rows_iter _ _ _ _ _ _ _ dd _ l HNB.out HON.out HM.out w2 hw2 (ent_boxW w2 _ a b c d hg2) (kep_boxW w2 _ a b c d hg2)
  have hc := byId_any w2 _ _ _ hit rows1_eg (by rw [HP.out.length_eq]; exact Nat.le_trans (List.length_filter_le _ _) HM.out) w2 (Below.refl _ _)
  obtain ⟨ll, hll⟩ : ∃ ll, (l.filter fun r => inS a b c d r.x r.y) = ll := ⟨_, rfl⟩
  have HLL : Hid ((l.filter fun r => inS a b c d r.x r.y) = ll) := hll
  have hp2 := HP.out
  have hri2 := HRI.out
  rw [hll] at hp2 hri2
  clear hll
  have HCC : Hid (∀ _ : True, Calls Try.prog 34 #[.func (.func 67) #[] #[.pointer (some ⟨w1.heap.size + 1, 0, none⟩), .pointer (some ⟨w1.heap.size, 0, none⟩), .pointer (some ⟨w1.heap.size + 2, 0, none⟩)]] w2 fun e w' => ∃ v, e = .returned v ∧ w'.ownsRow w2.heap.size 54 4 v ll.length (ll.flatMap rc) ∧ Below w2.heap.size w2 w') := fun _ => hc.mono fun e w' ⟨v, h1, h2⟩ => ⟨v, h1, sorts_is h2 hp2 hri2⟩
  have HB2 : Hid (Below w.heap.size w w2) := HB1.out.trans (hb12.mono HB1.out.size)
  clear hw2 hit hb2 hb12 hg2 hc hp2 hri2
  go_wp2_with fail
  refine Calls.mono (HCC.out trivial) ?_
  rintro e w3 ⟨v, rfl, ho3, hb3⟩
  have HO3 : Hid (w3.ownsRow w.heap.size 54 4 v ll.length (ll.flatMap rc)) := own_down ho3 HB2.out.size
  have HB3 : Hid (Below w.heap.size w w3) := HB2.out.trans (hb3.mono HB2.out.size)
  clear hb3 ho3
  go_wp2_with fail
  go_ret2
  rw [HLL.out]
  exact ⟨_, rfl, HO3.out, HB3.out⟩
/-- The rows of a tree in a box, and what is said of it. -/
def winV (l : List Rw) (a b c d : Nat) : List Rw := if boxS a b c d = true then (l.filter fun r => inS a b c d r.x r.y) else []
set_option maxRecDepth 100000 in
theorem inBoxW_any (n : Nv) (l : List Rw) (dd : Nat) (a b c d : Nat) (w : World) (hN : NodeAt (fun _ => True) dd w n l) (hon : On l) (hmax : l.length ≤ 1000) (hri : Rise l) :
    Calls Try.prog 38 #[nv n, bv a b c d, .func (.func 34) #[] #[]] w fun e w' => ∃ v, e = .returned (.tuple #[v, .int .i64 (boxE a b c d)]) ∧ w'.ownsRow w.heap.size 54 4 v (winV l a b c d).length ((winV l a b c d).flatMap rc) ∧ Below w.heap.size w w' := by
  unfold winV boxE
  cases hb : boxS a b c d
  · refine (inBoxW_no n a b c d _ hb w).mono ?_
    rintro e w' ⟨h1, h2⟩
    exact ⟨_, by simpa using h1, ⟨rfl, .inl ⟨rfl, rfl⟩⟩, h2⟩
  · simpa using inBoxW_ok n l dd a b c d hb w hN hon hmax hri
set_option maxRecDepth 100000 in
set_option maxHeartbeats 1000000 in
theorem window_any (n : Nv) (l : List Rw) (dd : Nat) (a b c d : Nat) (w : World) (hN : NodeAt (fun _ => True) dd w n l) (hon : On l) (hmax : l.length ≤ 1000) (hri : Rise l) :
    Calls Try.prog 21 #[nv n, bv a b c d] w fun e w' => ∃ v, e = .returned (.tuple #[v, .int .i64 (boxE a b c d)]) ∧ w'.ownsRow w.heap.size 54 4 v (winV l a b c d).length ((winV l a b c d).flatMap rc) ∧ Below w.heap.size w w' := by
  have hb0 : Below w.heap.size w ((w.alloc (.cells #[.int .u32 (n.X : Int), .int .u32 (n.Y : Int), .int .i64 (n.L : Int), .slice n.ro n.rn n.rc, .slice n.ko n.kn n.kc] 45)).alloc (.cells #[.int .u32 (a : Int), .int .u32 (b : Int), .int .u32 (c : Int), .int .u32 (d : Int)] 24)) := (below_new w _).alloc (by simp) _
  have HB0 : Hid _ := hb0
  have HC : Hid (∀ _ : True, _) := fun _ => inBoxW_any n l dd a b c d _ (hN.below hb0 (Nat.le_refl _)) hon hmax hri
  clear hb0 hN hon hmax hri
  obtain ⟨nX, nY, nL, nro, nrn, nrc, nko, nkn, nkc⟩ := n
  simp only [nv, bv] at HC HB0 ⊢
  generalize winV l a b c d = cv' at *
  generalize boxE a b c d = be at *
  go_enter Try.func21, Try.ntmps21
  go_wp2_with fail
  refine Calls.mono (HC.out trivial) ?_
  rintro e w1 ⟨v, rfl, o1, b1⟩
  have HB1 : Hid (Below w.heap.size w w1) := HB0.out.trans (b1.mono (by simp; omega))
  have HO1 : Hid (w1.ownsRow w.heap.size 54 4 v cv'.length (cv'.flatMap rc)) := own_down o1 (by simp; omega)
  clear b1 o1 HC HB0
  go_wp2_with fail
  go_ret2
  exact ⟨_, rfl, HO1.out, HB1.out⟩
end Go.Proofs.Ytimdlohdmddnjaa.Rq
/- The rows of a tree that are near enough; what the reference says where nothing is asked. -/
namespace Go.Proofs.Ytimdlohdmddnjaa.Rq
open Go.RowKit Go.Lib Go.Shelf
open Go.Proofs.Ytimdlohdmddnjaa.Rc
/-- The rows that are near enough to a point, and what is said of it. -/
def rndV (l : List Rw) (x y s : Nat) : List Rw := if onS x y = true then (l.filter fun r => decide (Rq.dist r.x r.y x y ≤ s)) else []
def rndE (x y : Nat) : Int := if onS x y = true then 0 else 2
set_option maxRecDepth 100000 in
theorem onS_iff (x y : Nat) : onS x y = true ↔ x < 2147483648 ∧ y < 2147483648 := by unfold onS; simp
set_option maxRecDepth 100000 in
/-- Four blocks, made one behind the other. -/
theorem four_new (w : World) (a b c d : Obj) : ((((w.alloc a).alloc b).alloc c).alloc d).heap[w.heap.size]? = some a ∧ ((((w.alloc a).alloc b).alloc c).alloc d).heap[w.heap.size + 1]? = some b ∧ ((((w.alloc a).alloc b).alloc c).alloc d).heap[w.heap.size + 2]? = some c ∧ ((((w.alloc a).alloc b).alloc c).alloc d).heap[w.heap.size + 3]? = some d ∧ Below w.heap.size w ((((w.alloc a).alloc b).alloc c).alloc d) := by
  obtain ⟨x1, x2, x3⟩ := two_new w a b
  obtain ⟨y1, y2, y3⟩ := two_new ((w.alloc a).alloc b) c d
  have hs : ((w.alloc a).alloc b).heap.size = w.heap.size + 2 := by simp
  rw [hs] at y1 y2 y3
  exact ⟨(y3.block _ (by omega)).trans x1, (y3.block _ (by omega)).trans x2, y1, y2, x3.trans (y3.mono (by omega))⟩
set_option maxRecDepth 100000 in
set_option maxHeartbeats 2000000 in
theorem qRnd_no (n : Nv) (x y s : Nat) (hb : onS x y = false) (w : World) :
    Calls Try.prog 22 #[nv n, .int .u32 (x : Int), .int .u32 (y : Int), .int .u64 (s : Int)] w fun e w' => e = .returned (.tuple #[.slice none 0 0, .int .i64 2]) ∧ Below w.heap.size w w' := by
  obtain ⟨nX, nY, nL, nro, nrn, nrc, nko, nkn, nkc⟩ := n
  obtain ⟨-, -, -, -, z5⟩ := four_new w (.cells #[.int .u32 (nX : Int), .int .u32 (nY : Int), .int .i64 (nL : Int), .slice nro nrn nrc, .slice nko nkn nkc] 45) (.cells #[.int .u32 (x : Int)] 22) (.cells #[.int .u32 (y : Int)] 22) (.cells #[.int .u64 (s : Int)] 25)
  have HZ : Hid _ := z5
  have HP : Hid _ := qonPlane_any x y
  rw [hb] at HP
  clear hb z5
  simp only [nv] at ⊢
  go_enter Try.func22, Try.ntmps22
  go_wp2_with fail
  refine (HP.out _).mono ?_
  rintro e w1 ⟨rfl, rfl⟩
  go_wp2_with fail
  go_ret2
  exact ⟨rfl, HZ.out⟩
set_option maxRecDepth 100000 in
set_option maxHeartbeats 2000000 in
theorem qRnd_ok (n : Nv) (l : List Rw) (dd : Nat) (x y s : Nat) (hb : onS x y = true) (w : World) (hN : NodeAt (fun _ => True) dd w n l) (hon : On l) (hmax : l.length ≤ 1000) (hri : Rise l) :
    Calls Try.prog 22 #[nv n, .int .u32 (x : Int), .int .u32 (y : Int), .int .u64 (s : Int)] w fun e w' => ∃ v, e = .returned (.tuple #[v, .int .i64 0]) ∧ w'.ownsRow w.heap.size 54 4 v (l.filter fun r => decide (Rq.dist r.x r.y x y ≤ s)).length ((l.filter fun r => decide (Rq.dist r.x r.y x y ≤ s)).flatMap rc) ∧ Below w.heap.size w w' := by
  have hxy := (onS_iff x y).1 hb
  have HP0 : Hid _ := seqs_perm (fun X Y L => decide ((fars X Y (L : Int) x y).2 = 0 ∧ (fars X Y (L : Int) x y).1 ≤ s)) (fun r => decide (Rq.dist r.x r.y x y ≤ s)) (round_all x y s hb) dd l hN.fits hon
  have HRI : Hid (Rise (l.filter fun r => decide (Rq.dist r.x r.y x y ≤ s))) := rise_filter hri _
  have HP : Hid _ := qonPlane_any x y
  rw [hb] at HP
  have HXY : Hid (x < 2147483648 ∧ y < 2147483648) := hxy
  have HON : Hid (On l) := hon
  have HM : Hid (l.length ≤ 1000) := hmax
  have HRA : Hid _ := rows_any n
  obtain ⟨z1, z2, z3, z4, z5⟩ := four_new w (.cells #[.int .u32 (n.X : Int), .int .u32 (n.Y : Int), .int .i64 (n.L : Int), .slice n.ro n.rn n.rc, .slice n.ko n.kn n.kc] 45) (.cells #[.int .u32 (x : Int)] 22) (.cells #[.int .u32 (y : Int)] 22) (.cells #[.int .u64 (s : Int)] 25)
  obtain ⟨W0, hW0⟩ : ∃ W0, (((w.alloc (.cells #[.int .u32 (n.X : Int), .int .u32 (n.Y : Int), .int .i64 (n.L : Int), .slice n.ro n.rn n.rc, .slice n.ko n.kn n.kc] 45)).alloc (.cells #[.int .u32 (x : Int)] 22)).alloc (.cells #[.int .u32 (y : Int)] 22)).alloc (.cells #[.int .u64 (s : Int)] 25) = W0 := ⟨_, rfl⟩
  rw [hW0] at z1 z2 z3 z4 z5
  have HW0 : Hid _ := hW0
  have HNA : Hid (NodeAt (fun _ => True) dd W0 n l) := NodeAt.below hN z5 (Nat.le_refl _)
  have HG1 : Hid (W0.heap[w.heap.size]? = some (.cells #[.int .u32 (n.X : Int), .int .u32 (n.Y : Int), .int .i64 (n.L : Int), .slice n.ro n.rn n.rc, .slice n.ko n.kn n.kc] 45 (0, 0))) := z1
  have HRN : Hid (Rnd W0 (w.heap.size + 1) (w.heap.size + 2) (w.heap.size + 3) x y s) := ⟨z2, z3, z4⟩
  have HB0 : Hid (Below w.heap.size w W0) := z5
  clear hN hon hmax hri hxy z1 z2 z3 z4 z5 hW0 hb
  obtain ⟨nX, nY, nL, nro, nrn, nrc, nko, nkn, nkc⟩ := n
  simp only [nv] at HRA ⊢
  simp only at HNA HG1 HW0
  go_enter Try.func22, Try.ntmps22
  go_wp2_with fail
  refine (HP.out _).mono ?_
  rintro e w1 ⟨rfl, rfl⟩
  clear HP
  rw [HW0.out]
  obtain ⟨t0, t1, t2, t3, t4, f0, f1, f2, f3, f4⟩ := node_facts HG1.out
  have ln : w.heap.size < W0.heap.size := (Array.getElem?_eq_some_iff.1 HG1.out).1
  clear t0 t1 t2 t3 t4 HW0
  go_wp2_with fail
  refine (HRA.out _ _ _ _ _).mono ?_
  rintro e w2 ⟨rfl, hw2⟩
  have hb12 : Below W0.heap.size W0 w2 := by rw [hw2]; exact ((below_new W0 _).alloc (by simp) _).alloc (by simp; omega) _
  have hrn := HRN.out.grow hb12 (Nat.le_refl _)
  obtain ⟨hb2, hit⟩ := rows_iter _ _ _ _ _ _ _ dd _ l HNA.out HON.out HM.out w2 hw2 (ent_round w2 _ _ _ x y s hrn) (kep_round w2 _ _ _ x y s hrn HXY.out.1 HXY.out.2)
  have hc := byId_any w2 _ _ _ hit rows1_eg (by rw [HP0.out.length_eq]; exact Nat.le_trans (List.length_filter_le _ _) HM.out) w2 (Below.refl _ _)
  obtain ⟨ll, hll⟩ : ∃ ll, (l.filter fun r => decide (Rq.dist r.x r.y x y ≤ s)) = ll := ⟨_, rfl⟩
  have HLL : Hid ((l.filter fun r => decide (Rq.dist r.x r.y x y ≤ s)) = ll) := hll
  have hp2 := HP0.out
  have hri2 := HRI.out
  rw [hll] at hp2 hri2
  clear hll
  have HCC : Hid (∀ _ : True, Calls Try.prog 34 #[.func (.func 67) #[] #[.pointer (some ⟨W0.heap.size + 1, 0, none⟩), .pointer (some ⟨W0.heap.size, 0, none⟩), .pointer (some ⟨W0.heap.size + 2, 0, none⟩)]] w2 fun e w' => ∃ v, e = .returned v ∧ w'.ownsRow w2.heap.size 54 4 v ll.length (ll.flatMap rc) ∧ Below w2.heap.size w2 w') := fun _ => hc.mono fun e w' ⟨v, h1, h2⟩ => ⟨v, h1, sorts_is h2 hp2 hri2⟩
  have HB2 : Hid (Below w.heap.size w w2) := HB0.out.trans (hb12.mono HB0.out.size)
  clear hw2 hit hb2 hb12 hrn hc hp2 hri2
  go_wp2_with fail
  refine Calls.mono (HCC.out trivial) ?_
  rintro e w3 ⟨v, rfl, ho3, hb3⟩
  have HO3 : Hid (w3.ownsRow w.heap.size 54 4 v ll.length (ll.flatMap rc)) := own_down ho3 HB2.out.size
  have HB3 : Hid (Below w.heap.size w w3) := HB2.out.trans (hb3.mono HB2.out.size)
  clear hb3 ho3
  go_wp2_with fail
  go_ret2
  rw [HLL.out]
  exact ⟨_, rfl, HO3.out, HB3.out⟩
set_option maxRecDepth 100000 in
theorem qRound_any (n : Nv) (l : List Rw) (dd : Nat) (x y s : Nat) (w : World) (hN : NodeAt (fun _ => True) dd w n l) (hon : On l) (hmax : l.length ≤ 1000) (hri : Rise l) :
    Calls Try.prog 22 #[nv n, .int .u32 (x : Int), .int .u32 (y : Int), .int .u64 (s : Int)] w fun e w' => ∃ v, e = .returned (.tuple #[v, .int .i64 (rndE x y)]) ∧ w'.ownsRow w.heap.size 54 4 v (rndV l x y s).length ((rndV l x y s).flatMap rc) ∧ Below w.heap.size w w' := by
  unfold rndV rndE
  cases hb : onS x y
  · refine (qRnd_no n x y s hb w).mono ?_
    rintro e w' ⟨h1, h2⟩
    exact ⟨_, by simpa using h1, ⟨rfl, .inl ⟨rfl, rfl⟩⟩, h2⟩
  · simpa using qRnd_ok n l dd x y s hb w hN hon hmax hri
end Go.Proofs.Ytimdlohdmddnjaa.Rq
/- Pieces in a block of their own; their insertion sort. -/
namespace Go.Proofs.Ytimdlohdmddnjaa.Rq.Pz
open Go.RowKit Go.Lib Go.Shelf
open Go.Proofs.Ytimdlohdmddnjaa.Rc Go.Proofs.Ytimdlohdmddnjaa.Rq
/-- A piece: how far a node is, and its rows. -/
structure Pc where
  aw : Nat
  ro : Option Addr
  rn : Nat
  rc : Nat
instance : Inhabited Pc := ⟨⟨0, none, 0, 0⟩⟩
def pcs (r : Pc) : List Value := [.int .u64 (r.aw : Int), .slice r.ro r.rn r.rc]
def pv (r : Pc) : Value := .agg #[.int .u64 (r.aw : Int), .slice r.ro r.rn r.rc]
/-- Pieces in a block of their own. -/
def Ur (w : World) (g z : Nat) (d : Array Pc) : Prop := ∃ cs, w.heap[g]? = some (.cells cs 87 (0, 0)) ∧ (cs.size = z ∧ d.size * 2 ≤ z) ∧ ∀ i, i < d.size → ∀ j, j < 2 → cs[i * 2 + j]? = (pcs d[i]!)[j]?
set_option maxRecDepth 100000 in
theorem Ur.lt {w : World} {g z : Nat} {d : Array Pc} (h : Ur w g z d) : g < w.heap.size := by
  obtain ⟨cs, h1, h2⟩ := h
  exact (Array.getElem?_eq_some_iff.1 h1).1
set_option maxRecDepth 100000 in
theorem Ur.same {w w' : World} {g z : Nat} {d : Array Pc} (h : Ur w g z d) (e : w'.heap[g]? = w.heap[g]?) : Ur w' g z d := by
  obtain ⟨cs, h1, h2⟩ := h
  exact ⟨cs, e.trans h1, h2⟩
set_option maxRecDepth 100000 in
theorem Ur.cell {w : World} {g z : Nat} {d : Array Pc} (h : Ur w g z d) (i : Nat) (hi : i < d.size) :
    (w.cell? ⟨g, i * 2, none⟩ = some (.int .u64 (d[i]!.aw : Int)) ∧ w.cell? ⟨g, i * 2 + 1, none⟩ = some (.slice d[i]!.ro d[i]!.rn d[i]!.rc)) ∧ ∀ k, w.frozen? ⟨g, k, none⟩ = false := by
  obtain ⟨cs, h1, h2, h3⟩ := h
  refine ⟨⟨?_, ?_⟩, fun k => frozen_of_row w _ _ _ _ h1⟩
  · rw [cell_of_row _ _ _ _ _ _ h1]; exact h3 i hi 0 (by omega)
  · rw [cell_of_row _ _ _ _ _ _ h1]; exact h3 i hi 1 (by omega)
/-- A piece laid over another. -/
def set2 (w : World) (g i : Nat) (r : Pc) : World := (w.setCell ⟨g, i * 2, none⟩ (.int .u64 (r.aw : Int))).setCell ⟨g, i * 2 + 1, none⟩ (.slice r.ro r.rn r.rc)
set_option maxRecDepth 100000 in
theorem Ur.set {w : World} {g z : Nat} {d : Array Pc} (h : Ur w g z d) (i : Nat) (hi : i < d.size) (r : Pc) : Ur (set2 w g i r) g z (d.setIfInBounds i r) := by
  obtain ⟨cs, h1, h2, h3⟩ := h
  have X1 := heap_setCell_same w g (i * 2) _ _ (.int .u64 (r.aw : Int)) h1
  have X2 := heap_setCell_same _ g (i * 2 + 1) _ _ (.slice r.ro r.rn r.rc) X1
  refine ⟨_, X2, ⟨by simpa using h2.1, by simpa using h2.2⟩, fun k hk j hj => ?_⟩
  simp only [Array.size_setIfInBounds] at hk
  simp only [Array.getElem?_setIfInBounds, Array.size_setIfInBounds]
  by_cases e : i = k
  · subst e
    have hs : i * 2 + 1 < cs.size := by have := h2.1; have := h2.2; omega
    have er : (d.setIfInBounds i r)[i]! = r := by simp [getElem!_pos, hk]
    rw [er]
    obtain rfl | rfl : j = 0 ∨ j = 1 := by omega
    · rw [if_neg (by omega), if_pos (by omega), if_pos (by omega)]; rfl
    · rw [if_pos (by omega), if_pos (by omega)]; rfl
  · have er : (d.setIfInBounds i r)[k]! = d[k]! := by simp [getElem!_pos, hk, e]
    rw [er, if_neg (by omega), if_neg (by omega)]
    exact h3 k hk j hj
set_option maxRecDepth 100000 in
theorem bg_set2 (w : World) (g i : Nat) (r : Pc) : Bg g w (set2 w g i r) :=
  (but_set w g _ _ (fun k => k = g) rfl).trans (but_set _ g _ _ (fun k => k = g) rfl)
set_option maxRecDepth 100000 in
theorem Ur.swp {w : World} {g z : Nat} {d : Array Pc} (h : Ur w g z d) (i j : Nat) (hi : i < d.size) (hj : j < d.size) :
    Ur (set2 (set2 w g i d[j]!) g j d[i]!) g z (Sort.swp d i j) ∧ Bg g w (set2 (set2 w g i d[j]!) g j d[i]!) :=
  ⟨(h.set i hi _).set j (by simpa using hj) _, (bg_set2 w g i _).trans (bg_set2 _ g j _)⟩
set_option maxRecDepth 100000 in
/-- Pieces of their own, as such a block. -/
theorem ur_of_own {w : World} {base : Nat} {v : Value} {l : List Pc} (h : w.ownsRow base 87 2 v l.length (l.flatMap pcs)) (hl : l ≠ []) : ∃ g cap, v = .slice (some ⟨g, 0, none⟩) l.length cap ∧ base ≤ g ∧ Ur w g (cap * 2) l.toArray := by
  rcases h.2 with ⟨-, h0⟩ | ⟨g, cap, cur, rfl, h2, h3, h4, -, h6, h7⟩
  · exact absurd (List.eq_nil_of_length_eq_zero h0) hl
  · refine ⟨g, cap, rfl, h2, cur, h3, ⟨h6, by have := Nat.mul_le_mul_right 2 h4; simp; omega⟩, fun i hi j hj => ?_⟩
    have hi' : i < l.length := by simpa using hi
    have e : l.toArray[i]! = l[i] := by simp [getElem!_pos, hi']
    rw [e, ← flat_get pcs 2 (fun _ => rfl) l i _ (List.getElem?_eq_getElem hi') j hj, ← h7, List.getElem?_take_of_lt (by omega), Array.getElem?_toList]
set_option maxRecDepth 100000 in
/-- And back: a block that holds a list, with room behind it as it was. -/
theorem own_of_ur {w w' : World} {base g cap : Nat} {l m : List Pc} (h : w.ownsRow base 87 2 (.slice (some ⟨g, 0, none⟩) l.length cap) l.length (l.flatMap pcs)) (hu : Ur w' g (cap * 2) m.toArray) (hm : m.length = l.length) : w'.ownsRow base 87 2 (.slice (some ⟨g, 0, none⟩) m.length cap) m.length (m.flatMap pcs) := by
  obtain ⟨cs', k1, k2, k3⟩ := hu
  rcases h.2 with ⟨h0, -⟩ | ⟨g', cap', cur, he, h2, h3, h4, h5, h6, h7⟩
  · cases h0
  · cases he
    have hz := k2.1
    refine ⟨flat_len pcs 2 (fun _ => rfl) m, .inr ⟨g, cap, cs', rfl, h2, k1, by omega, h5, by omega, ?_⟩⟩
    refine List.ext_getElem? fun q => ?_
    by_cases hq : q < m.length * 2
    · have hi : q / 2 < m.length := by omega
      rw [List.getElem?_take_of_lt hq, Array.getElem?_toList, show q = q / 2 * 2 + q % 2 by omega, k3 (q / 2) (by simpa using hi) (q % 2) (by omega), flat_get pcs 2 (fun _ => rfl) m (q / 2) _ (List.getElem?_eq_getElem hi) (q % 2) (by omega)]
      have e : m.toArray[q / 2]! = m[q / 2] := by simp [getElem!_pos, hi]
      rw [e]
    · rw [List.getElem?_eq_none (by simp; omega), List.getElem?_eq_none (by rw [flat_len pcs 2 (fun _ => rfl) m]; omega)]
/-- What rows are compared by, at a function value. -/
structure Cmp (w0 : World) (ok : Pc → Prop) (lt : Pc → Pc → Bool) (cf : Nat) (cb : Array Value) : Prop where
  eg : ∀ args w, (callFunc cf args).run Try.prog w = .ok (.enter cf args) w
  calls : ∀ W, Below w0.heap.size w0 W → ∀ a b : Pc, ok a → ok b → Calls Try.prog cf (#[pv a, pv b] ++ cb) W fun e W' => ∃ c : Int, e = .returned (.int .i64 c) ∧ decide (c < 0) = lt a b ∧ Below W.heap.size W W'
section
variable (lt : Pc → Pc → Bool)
set_option maxRecDepth 100000 in
theorem insOuter_in (a b i : Nat) (d : Array Pc) (h : i < b) : Sort.insOuter lt a b i d = Sort.insOuter lt a b (i + 1) (Sort.insInner lt a i d) := by
  rw [Sort.insOuter, if_pos h]
set_option maxRecDepth 100000 in
theorem insOuter_out (a b i : Nat) (d : Array Pc) (h : ¬ i < b) : Sort.insOuter lt a b i d = d := by rw [Sort.insOuter, if_neg h]
set_option maxRecDepth 100000 in
theorem insInner_in (a j : Nat) (d : Array Pc) (h : a < j + 1) (hl : lt d[j + 1]! d[j]! = true) : Sort.insInner lt a (j + 1) d = Sort.insInner lt a j (Sort.swp d (j + 1) j) := by
  rw [Sort.insInner]; simp only [hl, Bool.and_true]; rw [if_pos (by simpa using h)]
set_option maxRecDepth 100000 in
theorem insInner_le (a j : Nat) (d : Array Pc) (h : j ≤ a) : Sort.insInner lt a j d = d := by
  cases j with
  | zero => rfl
  | succ j => rw [Sort.insInner, if_neg]; simp; omega
set_option maxRecDepth 100000 in
theorem insInner_no (a j : Nat) (d : Array Pc) (hl : lt d[j + 1]! d[j]! = false) : Sort.insInner lt a (j + 1) d = d := by
  rw [Sort.insInner]; simp [hl]
end
set_option maxRecDepth 100000 in
theorem ur_drew {w : World} {g z : Nat} {d : Array Pc} (h : Ur w g z d) : Ur w.drew g z d := h.same rfl
set_option maxRecDepth 100000 in
theorem ok_swp {ok : Pc → Prop} {d : Array Pc} {i j : Nat} (hi : i < d.size) (hj : j < d.size) (h : ∀ k, k < d.size → ok d[k]!) : ∀ k, k < (Sort.swp d i j).size → ok (Sort.swp d i j)[k]! := by
  intro k hk
  simp only [Sort.swp, Array.size_setIfInBounds] at hk ⊢
  by_cases e1 : j = k
  · subst e1
    have : ((d.setIfInBounds i d[j]!).setIfInBounds j d[i]!)[j]! = d[i]! := by simp [getElem!_pos, hj]
    rw [this]; exact h i hi
  · by_cases e2 : i = k
    · subst e2
      have : ((d.setIfInBounds i d[j]!).setIfInBounds j d[i]!)[i]! = d[j]! := by simp [getElem!_pos, hi, e1]
      rw [this]; exact h j hj
    · have : ((d.setIfInBounds i d[j]!).setIfInBounds j d[i]!)[k]! = d[k]! := by simp [getElem!_pos, hk, e1, e2]
      rw [this]; exact h k hk
/-- Two rows of a block, one behind the other. -/
def TwoR (g i : Nat) (r s : Pc) (w : World) : Prop := (w.cell? ⟨g, i * 2, none⟩ = some (.int .u64 (r.aw : Int)) ∧ w.cell? ⟨g, i * 2 + 1, none⟩ = some (.slice r.ro r.rn r.rc)) ∧ (w.cell? ⟨g, (i + 1) * 2, none⟩ = some (.int .u64 (s.aw : Int)) ∧ w.cell? ⟨g, (i + 1) * 2 + 1, none⟩ = some (.slice s.ro s.rn s.rc))
set_option maxRecDepth 100000 in
set_option maxHeartbeats 2000000 in
theorem insR_any (w0 : World) (ok : Pc → Prop) (lt : Pc → Pc → Bool) (cf : Nat) (cb : Array Value) (hC : Cmp w0 ok lt cf cb) (g z cap a b : Nat) (d : Array Pc) (hok : ∀ i, i < d.size → ok d[i]!) (ha : a ≤ b) (hb : b ≤ d.size) (hd : d.size ≤ 1000000) (w : World) (h : Ur w g z d) (hg : w0.heap.size ≤ g) (hW : Below w0.heap.size w0 w) :
    Calls Try.prog 97 #[.slice (some ⟨g, 0, none⟩) d.size cap, .int .i64 (a : Int), .int .i64 (b : Int), .func (.func cf) #[] cb] w fun e w' => e = .returned (.tuple #[]) ∧ Ur w' g z (Sort.insertionSort lt d a b) ∧ Bg g w w' := by
  have HU : Hid (Ur w g z d) := h
  have HCm : Hid (Cmp w0 ok lt cf cb) := hC
  have HOK : Hid (∀ i, i < d.size → ok d[i]!) := hok
  have HW0 : Hid (w0.heap.size ≤ g ∧ Below w0.heap.size w0 w) := ⟨hg, hW⟩
  have heg := hC.eg
  clear h hC hok hg hW
  obtain ⟨n, hn⟩ : ∃ n, d.size = n := ⟨_, rfl⟩
  rw [hn] at hb hd ⊢
  go_enter Try.func97, Try.ntmps97
  go_wp2_with fail
  go_loopw [8] (fun iv wr => ∃ (i : Nat) (d1 : Array Pc), iv = .int .i64 (i : Int) ∧ i ≤ max (a + 1) b ∧ a < i ∧ Ur wr g z d1 ∧ (d1.size = n ∧ ∀ i, i < d1.size → ok d1[i]!) ∧ Sort.insOuter lt a b i d1 = Sort.insertionSort lt d a b ∧ Bg g w wr) (fun iv _ => b - natOf iv)
  case atStart => exact ⟨a + 1, d, by go_num, by omega, by omega, HU.out, ⟨hn, HOK.out⟩, rfl, But.refl _ _⟩
  case round =>
    obtain ⟨i, d1, rfl, hib, hai, hu, ⟨hs1, hok1⟩, he, hbg⟩ := hrel
    have U1 : Hid (Ur wr g z d1) := hu
    have O1 : Hid (∀ i, i < d1.size → ok d1[i]!) := hok1
    have E1 : Hid _ := he
    have B1 : Hid _ := hbg
    clear hu he hbg hok1
    by_cases hlt : i < b
    · have q1 : (i : Int) < (b : Int) := by omega
      go_wp2_with fail
      rw [insOuter_in lt a b i d1 hlt] at E1
      go_loopw [9] (fun jv wr2 => ∃ (j : Nat) (d2 : Array Pc), jv = .int .i64 (j : Int) ∧ j ≤ i ∧ Ur wr2 g z d2 ∧ (d2.size = n ∧ ∀ i, i < d2.size → ok d2[i]!) ∧ Sort.insInner lt a j d2 = Sort.insInner lt a i d1 ∧ Bg g w wr2) (fun jv _ => natOf jv)
      case atStart => exact ⟨i, d1, rfl, by omega, U1.out, ⟨hs1, O1.out⟩, rfl, B1.out⟩
      case round =>
        obtain ⟨j, d2, rfl, hji, hu, ⟨hs2, hok2⟩, he, hbg⟩ := hrel
        have E2 : Hid _ := he
        have B2 : Hid (Bg g w wr) := hbg
        have U2 : Hid (Ur wr g z d2) := hu
        have O2 : Hid (∀ i, i < d2.size → ok d2[i]!) := hok2
        clear he hbg hok2
        by_cases hja : a < j
        · obtain ⟨j', rfl⟩ : ∃ j', j = j' + 1 := ⟨j - 1, by omega⟩
          obtain ⟨⟨x0, x1⟩, fz⟩ := hu.cell (j' + 1) (by omega)
          obtain ⟨⟨y0, y1⟩, -⟩ := hu.cell j' (by omega)
          have hct := HCm.out.calls wr.drew
          have o1 := O2.out (j' + 1) (by omega)
          have o2 := O2.out j' (by omega)
          have hbw : Below w0.heap.size w0 wr := HW0.out.2.trans ⟨B2.out.os, B2.out.tape, B2.out.output, B2.out.size, fun k hk => B2.out.block k (Nat.lt_of_lt_of_le hk HW0.out.2.size) (fun e => by have := HW0.out.1; omega)⟩
          have HCA : Hid (∀ _ : True, Calls Try.prog cf (#[pv d2[j' + 1]!, pv d2[j']!] ++ cb) wr.drew fun e W' => ∃ c : Int, e = .returned (.int .i64 c) ∧ decide (c < 0) = lt d2[j' + 1]! d2[j']! ∧ Below wr.heap.size wr W') := fun _ => (hct (hbw.trans ⟨rfl, rfl, rfl, Nat.le_refl _, fun _ _ => rfl⟩) _ _ o1 o2).mono fun e W' ⟨c, h1, h2, h3⟩ => ⟨c, h1, h2, ⟨h3.os, h3.tape, h3.output, h3.size, h3.block⟩⟩
          have HSW : Hid (TwoR g j' d2[j']! d2[j' + 1]! wr.drew) := ⟨⟨y0, y1⟩, ⟨x0, x1⟩⟩
          clear hct o1 o2 hbw x0 x1 y0 y1 fz hu
          obtain ⟨rx, hx⟩ : ∃ rx, d2[j' + 1]! = rx := ⟨_, rfl⟩
          obtain ⟨ry, hy⟩ : ∃ ry, d2[j']! = ry := ⟨_, rfl⟩
          have HX : Hid (d2[j' + 1]! = rx) := hx
          have HY : Hid (d2[j']! = ry) := hy
          rw [hx, hy] at HCA HSW
          clear hx hy
          obtain ⟨xi, xo, xn, xc⟩ := rx
          obtain ⟨yi, yo, yn, yc⟩ := ry
          have q2 : (a : Int) < (j' : Int) + 1 := by omega
          have q3 : (j' : Int) + 1 < (n : Int) := by omega
          have q4 : (j' : Int) < (n : Int) := by omega
          have q5 : (0 : Int) ≤ (j' : Int) := by omega
          have q6 : (0 : Int) ≤ (j' : Int) + 1 := by omega
          have q7 : IntKind.i64.wrap (j' : Int) = (j' : Int) := wrap_i64 (by omega) (by omega)
          have hc : ((j' + 1 : Nat) : Int) = (j' : Int) + 1 := by omega
          rw [hc]
          clear hc
          simp only [pv] at HCA
          go_wp2_with fail
          refine wp_region_held (S := TwoR g j' ⟨yi, yo, yn, yc⟩ ⟨xi, xo, xn, xc⟩) (by kernel_rfl) ?_
          change wpAnyH _ _ _ _ _ _ _ _ (World.drew _)
          refine wpAnyH_take (i := 0) (v := ?_) rfl (by kernel_rfl) (by kernel_rfl) (by kernel_rfl) (fun _ _ _ h => h) (Or.inl ⟨by kernel_rfl, ?_⟩) HSW.out ?_
          rotate_left
          · intro w hS
            obtain ⟨⟨e0, e1⟩, f0, f1⟩ := hS
            go_simp
            try with_reducible rfl
          conv in (Act.put _ _ _) => simp only [List.getElem_toArray, List.getElem_cons_succ, List.getElem_cons_zero, Act.put, List.setIfInBounds_toArray, List.set_cons_succ, List.set_cons_zero]
          refine wpAnyH_take (i := 1) (v := ?_) rfl (by kernel_rfl) (by kernel_rfl) (by kernel_rfl) (fun _ _ _ h => h) (Or.inl ⟨by kernel_rfl, ?_⟩) HSW.out ?_
          rotate_left
          · intro w hS
            obtain ⟨⟨e0, e1⟩, f0, f1⟩ := hS
            go_simp
            try with_reducible rfl
          conv in (Act.put _ _ _) => simp only [List.getElem_toArray, List.getElem_cons_succ, List.getElem_cons_zero, Act.put, List.setIfInBounds_toArray, List.set_cons_succ, List.set_cons_zero]
          refine wpAnyH_take (i := 2) (v := ?_) rfl (by kernel_rfl) (by kernel_rfl) (by kernel_rfl) (fun _ _ _ h => h) (Or.inl ⟨by kernel_rfl, ?_⟩) HSW.out ?_
          rotate_left
          · intro w hS
            obtain ⟨⟨e0, e1⟩, f0, f1⟩ := hS
            go_simp
            try with_reducible rfl
          conv in (Act.put _ _ _) => simp only [List.getElem_toArray, List.getElem_cons_succ, List.getElem_cons_zero, Act.put, List.setIfInBounds_toArray, List.set_cons_succ, List.set_cons_zero]
          refine wpAnyH_take (i := 3) (v := ?_) rfl (by kernel_rfl) (by kernel_rfl) (by kernel_rfl) (fun _ _ _ h => h) (Or.inl ⟨by kernel_rfl, ?_⟩) HSW.out ?_
          rotate_left
          · intro w hS
            obtain ⟨⟨e0, e1⟩, f0, f1⟩ := hS
            go_simp
            try with_reducible rfl
          conv in (Act.put _ _ _) => simp only [List.getElem_toArray, List.getElem_cons_succ, List.getElem_cons_zero, Act.put, List.setIfInBounds_toArray, List.set_cons_succ, List.set_cons_zero]
          refine wpAnyH_take (i := 4) (v := ?_) rfl (by kernel_rfl) (by kernel_rfl) (by kernel_rfl) (fun _ _ _ h => h) (Or.inl ⟨by kernel_rfl, ?_⟩) HSW.out ?_
          rotate_left
          · intro w hS
            obtain ⟨⟨e0, e1⟩, f0, f1⟩ := hS
            go_simp
            try with_reducible rfl
          conv in (Act.put _ _ _) => simp only [List.getElem_toArray, List.getElem_cons_succ, List.getElem_cons_zero, Act.put, List.setIfInBounds_toArray, List.set_cons_succ, List.set_cons_zero]
          refine wpAnyH_take (i := 5) (v := ?_) rfl (by kernel_rfl) (by kernel_rfl) (by kernel_rfl) (fun _ _ _ h => h) (Or.inl ⟨by kernel_rfl, ?_⟩) HSW.out ?_
          rotate_left
          · intro w hS
            obtain ⟨⟨e0, e1⟩, f0, f1⟩ := hS
            go_simp
            try with_reducible rfl
          conv in (Act.put _ _ _) => simp only [List.getElem_toArray, List.getElem_cons_succ, List.getElem_cons_zero, Act.put, List.setIfInBounds_toArray, List.set_cons_succ, List.set_cons_zero]
          refine wpAnyH_take (i := 6) (v := ?_) rfl (by kernel_rfl) (by kernel_rfl) (by kernel_rfl) (fun _ _ _ h => h) (Or.inl ⟨by kernel_rfl, ?_⟩) HSW.out ?_
          rotate_left
          · intro w hS
            obtain ⟨⟨e0, e1⟩, f0, f1⟩ := hS
            go_simp
            try with_reducible rfl
          conv in (Act.put _ _ _) => simp only [List.getElem_toArray, List.getElem_cons_succ, List.getElem_cons_zero, Act.put, List.setIfInBounds_toArray, List.set_cons_succ, List.set_cons_zero]
          refine wpAnyH_take (i := 7) (v := ?_) rfl (by kernel_rfl) (by kernel_rfl) (by kernel_rfl) (fun _ _ _ h => h) (Or.inl ⟨by kernel_rfl, ?_⟩) HSW.out ?_
          rotate_left
          · intro w hS
            obtain ⟨⟨e0, e1⟩, f0, f1⟩ := hS
            go_simp
            try with_reducible rfl
          conv in (Act.put _ _ _) => simp only [List.getElem_toArray, List.getElem_cons_succ, List.getElem_cons_zero, Act.put, List.setIfInBounds_toArray, List.set_cons_succ, List.set_cons_zero]
          refine wpAnyH_take (i := 8) (v := ?_) rfl (by kernel_rfl) (by kernel_rfl) (by kernel_rfl) (fun _ _ _ h => h) (Or.inl ⟨by kernel_rfl, ?_⟩) HSW.out ?_
          rotate_left
          · intro w hS
            obtain ⟨⟨e0, e1⟩, f0, f1⟩ := hS
            go_simp
            try with_reducible rfl
          conv in (Act.put _ _ _) => simp only [List.getElem_toArray, List.getElem_cons_succ, List.getElem_cons_zero, Act.put, List.setIfInBounds_toArray, List.set_cons_succ, List.set_cons_zero]
          refine wpAnyH_take (i := 9) (v := ?_) rfl (by kernel_rfl) (by kernel_rfl) (by kernel_rfl) (fun _ _ _ h => h) (Or.inl ⟨by kernel_rfl, ?_⟩) HSW.out ?_
          rotate_left
          · intro w hS
            obtain ⟨⟨e0, e1⟩, f0, f1⟩ := hS
            go_simp
            try with_reducible rfl
          conv in (Act.put _ _ _) => simp only [List.getElem_toArray, List.getElem_cons_succ, List.getElem_cons_zero, Act.put, List.setIfInBounds_toArray, List.set_cons_succ, List.set_cons_zero]
          refine wpAnyH_take (i := 10) (v := ?_) rfl (by kernel_rfl) (by kernel_rfl) (by kernel_rfl) (fun _ _ _ h => h) (Or.inl ⟨by kernel_rfl, ?_⟩) HSW.out ?_
          rotate_left
          · intro w hS
            obtain ⟨⟨e0, e1⟩, f0, f1⟩ := hS
            go_simp
            try with_reducible rfl
          conv in (Act.put _ _ _) => simp only [List.getElem_toArray, List.getElem_cons_succ, List.getElem_cons_zero, Act.put, List.setIfInBounds_toArray, List.set_cons_succ, List.set_cons_zero]
          refine wpAnyH_take (i := 11) (v := .int .i64 (j' : Int)) rfl (by kernel_rfl) (by kernel_rfl) (by kernel_rfl) (fun _ _ _ h => h) (Or.inl ⟨by kernel_rfl, ?_⟩) HSW.out ?_
          · intro w hS
            go_simp
            try rw [q7]
          conv in (Act.put _ _ _) => simp only [List.getElem_toArray, List.getElem_cons_succ, List.getElem_cons_zero, Act.put, List.setIfInBounds_toArray, List.set_cons_succ, List.set_cons_zero]
          refine wpAnyH_take (i := 12) (v := ?_) rfl (by kernel_rfl) (by kernel_rfl) (by kernel_rfl) (fun _ _ _ h => h) (Or.inl ⟨by kernel_rfl, ?_⟩) HSW.out ?_
          rotate_left
          · intro w hS
            obtain ⟨⟨e0, e1⟩, f0, f1⟩ := hS
            go_simp
            try with_reducible rfl
          conv in (Act.put _ _ _) => simp only [List.getElem_toArray, List.getElem_cons_succ, List.getElem_cons_zero, Act.put, List.setIfInBounds_toArray, List.set_cons_succ, List.set_cons_zero]
          refine wpAnyH_take (i := 13) (v := ?_) rfl (by kernel_rfl) (by kernel_rfl) (by kernel_rfl) (fun _ _ _ h => h) (Or.inl ⟨by kernel_rfl, ?_⟩) HSW.out ?_
          rotate_left
          · intro w hS
            obtain ⟨⟨e0, e1⟩, f0, f1⟩ := hS
            go_simp
            try with_reducible rfl
          conv in (Act.put _ _ _) => simp only [List.getElem_toArray, List.getElem_cons_succ, List.getElem_cons_zero, Act.put, List.setIfInBounds_toArray, List.set_cons_succ, List.set_cons_zero]
          refine readyH 14 _ (by kernel_rfl) rfl (by kernel_rfl) (fun K hK => ?_)
          go_simp
          refine Calls.mono (HCA.out trivial) ?_
          rintro e w1 ⟨c, rfl, hcl, b1⟩
          have B3 : Bg g w w1 := B2.out.trans (But.of_below b1)
          have U3 : Ur w1 g z d2 := Ur.same U2.out (b1.block _ U2.out.lt)
          obtain ⟨⟨x0, x1⟩, fz⟩ := U3.cell (j' + 1) (by omega)
          obtain ⟨⟨y0, y1⟩, -⟩ := U3.cell j' (by omega)
          rw [HX.out] at x0 x1
          rw [HY.out] at y0 y1
          simp only at x0 x1 y0 y1
          replace HSW : Hid (TwoR g j' ⟨yi, yo, yn, yc⟩ ⟨xi, xo, xn, xc⟩ w1) := ⟨⟨y0, y1⟩, ⟨x0, x1⟩⟩
          have HB3 : Hid (Bg g w w1) := B3
          have HU3 : Hid (Ur w1 g z d2) := U3
          clear x0 x1 y0 y1 B3 U3 b1
          refine hK _ _ HSW.out ?_
          clear hK K
          cases hl : lt ⟨xi, xo, xn, xc⟩ ⟨yi, yo, yn, yc⟩
          · have HE : Hid (Sort.insInner lt a i d1 = d2) := by
              refine (?_ : Sort.insInner lt a i d1 = d2)
              rw [← E2.out, insInner_no lt a j' d2 (by rw [HX.out, HY.out]; exact hl)]
            have q8 : ¬ c < 0 := of_decide_eq_false (hcl.trans hl)
            clear hl hcl
            refine wpAnyH_take (i := 15) (v := ?_) rfl (by kernel_rfl) (by kernel_rfl) (by kernel_rfl) (fun _ _ _ h => h) (Or.inl ⟨by kernel_rfl, ?_⟩) HSW.out ?_
            rotate_left
            · intro w hS
              obtain ⟨⟨e0, e1⟩, f0, f1⟩ := hS
              go_simp
              try with_reducible rfl
            conv in (Act.put _ _ _) => simp only [List.getElem_toArray, List.getElem_cons_succ, List.getElem_cons_zero, Act.put, List.setIfInBounds_toArray, List.set_cons_succ, List.set_cons_zero]
            refine wpAnyH_take (i := 16) (v := ?_) rfl (by kernel_rfl) (by kernel_rfl) (by kernel_rfl) (fun _ _ _ h => h) (Or.inl ⟨by kernel_rfl, ?_⟩) HSW.out ?_
            rotate_left
            · intro w hS
              obtain ⟨⟨e0, e1⟩, f0, f1⟩ := hS
              go_simp
              try with_reducible rfl
            conv in (Act.put _ _ _) => simp only [List.getElem_toArray, List.getElem_cons_succ, List.getElem_cons_zero, Act.put, List.setIfInBounds_toArray, List.set_cons_succ, List.set_cons_zero]
            refine wpAnyH_done (by kernel_rfl) ?_ _
            go_wp2_with fail
            go_roundw
            case rel => exact ⟨i + 1, d2, by go_num, by omega, by omega, HU3.out, ⟨hs2, O2.out⟩, by rw [← E1.out, HE.out], HB3.out⟩
            case measure => simp [natOf]; omega
          · have HE : Hid (Sort.insInner lt a (j' + 1) d2 = Sort.insInner lt a j' (Sort.swp d2 (j' + 1) j')) := insInner_in lt a j' d2 hja (by rw [HX.out, HY.out]; exact hl)
            have q8 : c < 0 := of_decide_eq_true (hcl.trans hl)
            have HW := Ur.swp HU3.out (j' + 1) j' (by omega) (by omega)
            rw [HX.out, HY.out] at HW
            simp only [set2] at HW
            have HW1 : Hid _ := HW.1
            have HW2 : Hid _ := HW.2
            have O3 : Hid (∀ k, k < (Sort.swp d2 (j' + 1) j').size → ok (Sort.swp d2 (j' + 1) j')[k]!) := ok_swp (by omega) (by omega) O2.out
            have S3 : Hid ((Sort.swp d2 (j' + 1) j').size = n) := by refine (?_ : (Sort.swp d2 (j' + 1) j').size = n); simp [Sort.swp, hs2]
            clear hl hcl HW
            refine wpAnyH_take (i := 15) (v := ?_) rfl (by kernel_rfl) (by kernel_rfl) (by kernel_rfl) (fun _ _ _ h => h) (Or.inl ⟨by kernel_rfl, ?_⟩) HSW.out ?_
            rotate_left
            · intro w hS
              obtain ⟨⟨e0, e1⟩, f0, f1⟩ := hS
              go_simp
              try with_reducible rfl
            conv in (Act.put _ _ _) => simp only [List.getElem_toArray, List.getElem_cons_succ, List.getElem_cons_zero, Act.put, List.setIfInBounds_toArray, List.set_cons_succ, List.set_cons_zero]
            refine wpAnyH_take (i := 16) (v := ?_) rfl (by kernel_rfl) (by kernel_rfl) (by kernel_rfl) (fun _ _ _ h => h) (Or.inl ⟨by kernel_rfl, ?_⟩) HSW.out ?_
            rotate_left
            · intro w hS
              obtain ⟨⟨e0, e1⟩, f0, f1⟩ := hS
              go_simp
              try with_reducible rfl
            conv in (Act.put _ _ _) => simp only [List.getElem_toArray, List.getElem_cons_succ, List.getElem_cons_zero, Act.put, List.setIfInBounds_toArray, List.set_cons_succ, List.set_cons_zero]
            refine wpAnyH_done (by kernel_rfl) ?_ _
            obtain ⟨⟨y0, y1⟩, x0, x1⟩ := HSW.out
            simp only at x0 x1 y0 y1
            have lg : g < w1.heap.size := HU3.out.lt
            go_wp2_with fail
            go_region
            go_wp2_with fail
            go_roundw
            case rel =>
              refine ⟨j', Sort.swp d2 (j' + 1) j', by go_num, by omega, ?_, ⟨S3.out, O3.out⟩, by rw [← HE.out]; exact E2.out, ?_⟩
              · exact ur_drew HW1.out
              · exact (HB3.out.trans HW2.out).trans (Bg.drew _)
            case measure => simp [natOf]
        · have q2 : ¬ (a : Int) < (j : Int) := by omega
          have HE : Hid (Sort.insInner lt a i d1 = d2) := by
            refine (?_ : Sort.insInner lt a i d1 = d2)
            rw [← E2.out, insInner_le lt a j d2 (by omega)]
          clear hu
          go_wp2_with fail
          go_quiet (fail)
          rename_i hK
          refine hK _ _ ?_
          have U3 : Hid (Ur (wr.drewN nq) g z d2) := Ur.same U2.out rfl
          have B3 : Hid (Bg g w (wr.drewN nq)) := B2.out.trans ⟨rfl, rfl, rfl, Nat.le_refl _, fun _ _ _ => rfl⟩
          go_wp2_with fail
          go_roundw
          case rel => exact ⟨i + 1, d2, by go_num, by omega, by omega, U3.out, ⟨hs2, O2.out⟩, by rw [← E1.out, HE.out], B3.out⟩
          case measure => simp [natOf]; omega
    · have q1 : ¬ (i : Int) < (b : Int) := by omega
      go_wp2_with fail
      refine bodyPost_end (results_none rfl _ _ _) rfl ?_
      refine ⟨rfl, ?_, B1.out⟩
      have := E1.out
      rw [insOuter_out lt a b i d1 hlt] at this
      rw [← this]
      exact U1.out
end Go.Proofs.Ytimdlohdmddnjaa.Rq.Pz
