/- Rows of their own are sorted; the rows of a way through them, by rising ids. -/
import Derived.Test.YtaiiclkfnahghaaPBI
namespace Go.Proofs.Ytaiiclkfnahghaa.Rq
open Go.RowKit Go.Lib Go.Shelf
open Go.Proofs.Ytaiiclkfnahghaa.Rc
set_option maxRecDepth 100000 in
theorem perm_list {l : List Rw} {d' : Array Rw} (h : Sort.PermIn 0 l.length l.toArray d') : d'.toList.Perm l := by
  obtain ⟨h1, -, h3⟩ := h
  have e1 : d'.extract 0 l.length = d' := by
    have : l.length = d'.size := by rw [h1]; simp
    rw [this]; simp
  rw [e1] at h3
  simpa using h3
set_option maxRecDepth 100000 in
theorem srt_list {K : Rw → Nat} {n : Nat} {d' : Array Rw} (hn : d'.size = n) (h : Srt K 0 n d') : d'.toList.Pairwise fun a b => K a ≤ K b := by
  rw [List.pairwise_iff_getElem]
  intro i j hi hj hij
  have hi' : i < d'.size := by simpa using hi
  have hj' : j < d'.size := by simpa using hj
  have := h i j (by omega) hij (by omega)
  rw [getElem!_pos d' i hi', getElem!_pos d' j hj'] at this
  simpa using this
set_option maxRecDepth 100000 in
set_option maxHeartbeats 1000000 in
theorem stable_nil (sv : Value) (cf : Nat) (cb : Array Value) (w : World) :
    Calls Try.prog 80 #[sv, .int .i64 0, .func (.func cf) #[] cb] w fun e w' => e = .returned (.tuple #[]) ∧ Below w.heap.size w w' := by
  have HI : Hid (∀ w : World, Calls Try.prog 90 #[sv, .int .i64 0, .int .i64 0, .func (.func cf) #[] cb] w fun e w' => e = .returned (.tuple #[]) ∧ w' = w) := by
    refine (?_ : ∀ w : World, _)
    intro w
    go_enter Try.func90, Try.ntmps90
    go_wp2_with fail
    refine wp_loop_rounds 1 ?_
    rw [rounds_succ]
    go_wp2_with fail
    refine bodyPost_end (results_none rfl _ _ _) rfl ?_
    exact ⟨rfl, rfl⟩
  go_enter Try.func80, Try.ntmps80
  go_wp2_with fail
  refine wp_loop_rounds 1 ?_
  rw [rounds_succ]
  go_wp2_with fail
  refine (HI.out _).mono ?_
  rintro e w1 ⟨rfl, rfl⟩
  go_wp2_with fail
  refine wp_loop_rounds 1 ?_
  rw [rounds_succ]
  go_wp2_with fail
  refine bodyPost_end (results_none rfl _ _ _) rfl ?_
  exact ⟨rfl, Below.refl _ _⟩
/-- What a sort makes of rows of their own. -/
def Sorts (K : Rw → Nat) (base : Nat) (v : Value) (l : List Rw) (w w' : World) : Prop :=
  ∃ m : List Rw, m.Perm l ∧ (m.Pairwise fun a b => K a ≤ K b) ∧ w'.ownsRow base 26 4 v m.length (m.flatMap rc) ∧ Below base w w'
set_option maxRecDepth 100000 in
theorem stable_own (w0 : World) (ok : Rw → Prop) (K : Rw → Nat) (cf : Nat) (cb : Array Value) (hC : Cmp w0 ok (ltK K) cf cb) (base : Nat) (hg : w0.heap.size ≤ base) (l : List Rw) (hl : l.length ≤ 1000000) (hok : ∀ r, r ∈ l → ok r) (v : Value) (w : World) (h : w.ownsRow base 26 4 v l.length (l.flatMap rc)) (hw : Below w0.heap.size w0 w) (hbase : base ≤ w.heap.size) :
    Calls Try.prog 80 #[v, .int .i64 (l.length : Int), .func (.func cf) #[] cb] w fun e w' => e = .returned (.tuple #[]) ∧ Sorts K base v l w w' := by
  by_cases hnil : l = []
  · subst hnil
    refine (stable_nil v cf cb w).mono ?_
    rintro e w' ⟨rfl, b⟩
    refine ⟨rfl, [], List.Perm.refl _, List.Pairwise.nil, ?_, b.mono hbase⟩
    rcases h.2 with ⟨rfl, -⟩ | ⟨g, cap, cur, rfl, h2, h3, h4⟩
    · exact ⟨rfl, .inl ⟨rfl, rfl⟩⟩
    · exact ⟨rfl, .inr ⟨g, cap, cur, rfl, h2, (b.block g (Array.getElem?_eq_some_iff.1 h3).1).trans h3, h4⟩⟩
  · obtain ⟨g, cap, rfl, hgb, hu⟩ := ur_of_own h hnil
    have hs : l.toArray.size = l.length := by simp
    have hX := stableR_any w0 ok K cf cb hC g (cap * 4) cap (by omega) l.toArray (by omega) (fun i hi => hok _ (by rw [getElem!_pos l.toArray i hi]; simp)) w hu hw
    rw [hs] at hX
    refine hX.mono ?_
    rintro e w' ⟨rfl, d', u', s', p', b'⟩
    have hd' : d'.size = l.length := by rw [p'.1, hs]
    have hm : d'.toList.length = l.length := by simpa using hd'
    refine ⟨rfl, d'.toList, perm_list p', srt_list hd' s', ?_, ?_⟩
    · have := own_of_ur h (m := d'.toList) (by simpa using u') hm
      rwa [hm] at this ⊢
    · exact b'.below (fun k hk => by omega) hbase
set_option maxRecDepth 100000 in
theorem own_slice {w : World} {base n : Nat} {v : Value} {xs : List Value} (h : w.ownsRow base 26 4 v n xs) : ∃ po cap, v = .slice po n cap := by
  rcases h.2 with ⟨rfl, rfl⟩ | ⟨g, cap, cur, rfl, -⟩
  · exact ⟨_, _, rfl⟩
  · exact ⟨_, _, rfl⟩
set_option maxRecDepth 100000 in
set_option maxHeartbeats 1000000 in
theorem sortR_any (w0 : World) (ok : Rw → Prop) (K : Rw → Nat) (cf : Nat) (cb : Array Value) (hC : Cmp w0 ok (ltK K) cf cb) (base : Nat) (hg : w0.heap.size ≤ base) (l : List Rw) (hl : l.length ≤ 1000000) (hok : ∀ r, r ∈ l → ok r) (v : Value) (w : World) (h : w.ownsRow base 26 4 v l.length (l.flatMap rc)) (hw : Below w0.heap.size w0 w) (hbase : base ≤ w.heap.size) :
    Calls Try.prog 51 #[v, .func (.func cf) #[] cb] w fun e w' => e = .returned (.tuple #[]) ∧ Sorts K base v l w w' := by
  have HC : Hid (∀ _ : True, _) := fun _ => stable_own w0 ok K cf cb hC base hg l hl hok v w h hw hbase
  obtain ⟨po, cap, rfl⟩ := own_slice h
  clear hC hg hok h hw hbase
  obtain ⟨n, hn⟩ : ∃ n, l.length = n := ⟨_, rfl⟩
  rw [hn] at HC ⊢
  have q1 : (n : Int) ≤ 1000000 := by omega
  clear hn hl
  go_enter Try.func51, Try.ntmps51
  go_wp2_with fail
  refine Calls.mono (HC.out trivial) ?_
  rintro e w1 ⟨rfl, h1⟩
  have HS : Hid _ := h1
  clear h1 HC
  go_wp2_with fail
  refine bodyPost_end (results_none rfl _ _ _) rfl ?_
  exact ⟨rfl, HS.out⟩
set_option maxRecDepth 100000 in
set_option maxHeartbeats 1000000 in
theorem sortedR_any (w0 : World) (rs : List Rw) (gf : Nat) (lb : Array Value) (hit : RowsIter w0 rs gf lb) (heg : ∀ args w, (callFunc gf args).run Try.prog w = .ok (.enter gf args) w) (hmax : rs.length ≤ 1000) (ok : Rw → Prop) (K : Rw → Nat) (cf : Nat) (cb : Array Value) (hC : Cmp w0 ok (ltK K) cf cb) (hok : ∀ r, r ∈ rs → ok r) (w : World) (hw : Below w0.heap.size w0 w) :
    Calls Try.prog 71 #[.func (.func gf) #[] lb, .func (.func cf) #[] cb] w fun e w' => ∃ v, e = .returned v ∧ Sorts K w.heap.size v rs w w' := by
  have HC : Hid _ := collect_any w0 rs gf lb hit heg hmax
  have HR : Hid _ := sortR_any w0 ok K cf cb hC w.heap.size hw.size rs (by omega) hok
  have HW : Hid (Below w0.heap.size w0 w) := hw
  clear hit heg hC hok hmax hw
  go_enter Try.func71, Try.ntmps71
  go_wp2_with fail
  refine (HC.out w HW.out).mono ?_
  rintro e w1 ⟨v, rfl, h1, h2⟩
  have HR1 : Hid (∀ _ : True, _) := fun _ => HR.out v w1 h1 (HW.out.trans (h2.mono HW.out.size)) h2.size
  have HB1 : Hid _ := h2
  clear h1 h2 HR HC
  go_wp2_with fail
  refine Calls.mono (HR1.out trivial) ?_
  rintro e w2 ⟨rfl, m, hp, hs, ho, hb⟩
  have HE : Hid (Sorts K w.heap.size v rs w w2) := ⟨m, hp, hs, ho, HB1.out.trans hb⟩
  clear hp hs ho hb HR1 HB1
  go_wp2_with fail
  go_ret
  exact ⟨_, rfl, HE.out⟩
set_option maxRecDepth 100000 in
theorem cmp_byId (w0 : World) : Cmp w0 (fun _ => True) (ltK Rw.id) 72 #[] :=
  ⟨fun _ _ => rfl, fun W _ a b _ _ => (byId1_any a b W).mono fun e W' ⟨h1, h2⟩ => ⟨_, h1, by unfold cmpS ltK; by_cases c : a.id < b.id <;> by_cases c2 : b.id < a.id <;> simp [c, c2], h2⟩⟩
set_option maxRecDepth 100000 in
set_option maxHeartbeats 1000000 in
theorem byId_any (w0 : World) (rs : List Rw) (gf : Nat) (lb : Array Value) (hit : RowsIter w0 rs gf lb) (heg : ∀ args w, (callFunc gf args).run Try.prog w = .ok (.enter gf args) w) (hmax : rs.length ≤ 1000) (w : World) (hw : Below w0.heap.size w0 w) :
    Calls Try.prog 37 #[.func (.func gf) #[] lb] w fun e w' => ∃ v, e = .returned v ∧ Sorts Rw.id w.heap.size v rs w w' := by
  have HC : Hid (∀ _ : True, _) := fun _ => sortedR_any w0 rs gf lb hit heg hmax _ _ _ _ (cmp_byId w0) (fun _ _ => trivial) w hw
  clear hit heg hmax hw
  go_enter Try.func37, Try.ntmps37
  go_wp2_with fail
  refine Calls.mono (HC.out trivial) ?_
  rintro e w1 ⟨v, rfl, h1⟩
  have HE : Hid _ := h1
  clear h1 HC
  go_wp2_with fail
  go_ret
  exact ⟨_, rfl, HE.out⟩
end Go.Proofs.Ytaiiclkfnahghaa.Rq
