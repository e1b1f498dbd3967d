/- QuadBuilds: the tree of rows, and which rows may be. -/
import Derived.Test.YtaiiclkfnahghaaPHV
namespace Go.Proofs.Ytaiiclkfnahghaa.Rq
open Go.RowKit Go.Lib Go.Shelf
open Go.Proofs.Ytaiiclkfnahghaa.Rc
set_option maxRecDepth 100000 in
set_option maxHeartbeats 1000000 in
theorem ebuild_no (l : List Rw) (o : Option Addr) (cap : Nat) (w : World) (hr : RowsAt w o cap l) (h : rightL l = false) :
    Calls Try.prog 14 #[.slice o l.length cap] w fun e w' => e = .returned (.tuple #[nv ⟨0, 0, 0, none, 0, 0, none, 0, 0⟩, .int .i64 80]) ∧ Below w.heap.size w w' := by
  have hbn := below_new w (.cells #[.int .u32 0, .int .u32 0, .int .i64 0, .slice none 0 0, .slice none 0 0] 33)
  have HC : Hid _ := eright_any l o cap _ (hr.below hbn (Nat.le_refl _))
  rw [h] at HC
  have HBn : Hid _ := hbn
  have HG : Hid _ := heap_alloc_new w (.cells #[.int .u32 0, .int .u32 0, .int .i64 0, .slice none 0 0, .slice none 0 0] 33)
  clear hr h hbn
  go_enter Try.func14, Try.ntmps14
  go_wp2_with fail
  refine Calls.mono HC.out ?_
  rintro e W1 ⟨rfl, b1⟩
  have hg : W1.heap[w.heap.size]? = some (.cells #[.int .u32 0, .int .u32 0, .int .i64 0, .slice none 0 0, .slice none 0 0] 33 (0, 0)) := (b1.block _ (by simp)).trans HG.out
  have HB1 : Hid (Below w.heap.size w W1) := HBn.out.trans (b1.mono (by simp))
  obtain ⟨z0, z1, z2, z3, z4, f0, f1, f2, f3, f4⟩ := node_facts hg
  obtain ⟨p1, _, p3⟩ := put_node hg (.int .u32 0) (.int .u32 0) (.int .i64 0) (.slice none 0 0) (.slice none 0 0)
  have HP1 : Hid _ := p1
  have HP3 : Hid _ := HB1.out.trans p3
  clear p1 p3 b1 HC hg
  go_wp2_with fail
  refine bodyPost_ret (results_nodeE rfl _ _ _ _ _ _ _ _ _ rfl rfl HP1.out) rfl ⟨rfl, HP3.out⟩
set_option maxRecDepth 100000 in
set_option maxHeartbeats 1000000 in
theorem ebuild_ok (l : List Rw) (o : Option Addr) (cap : Nat) (w : World) (hr : RowsAt w o cap l) (h : rightL l = true) :
    Calls Try.prog 14 #[.slice o l.length cap] w fun e w' => ∃ n : Nv, e = .returned (.tuple #[nv n, .int .i64 0]) ∧ NodeAt (fun b => w.heap.size ≤ b) 32 w' n l ∧ Below w.heap.size w w' := by
  have hbn := below_new w (.cells #[.int .u32 0, .int .u32 0, .int .i64 0, .slice none 0 0, .slice none 0 0] 33)
  have HC : Hid _ := eright_any l o cap _ (hr.below hbn (Nat.le_refl _))
  have HT : Hid (∀ W, RowsAt W o cap l → _) := fun W hW => etree_any 32 l o cap W hW (right_on h) ((rightL_iff l).1 h).1 (by have := lev_le (right_on h); omega)
  rw [h] at HC
  have HBn : Hid _ := hbn
  have HR : Hid _ := hr
  have HG : Hid _ := heap_alloc_new w (.cells #[.int .u32 0, .int .u32 0, .int .i64 0, .slice none 0 0, .slice none 0 0] 33)
  clear hr h hbn
  go_enter Try.func14, Try.ntmps14
  go_wp2_with fail
  refine Calls.mono HC.out ?_
  rintro e W1 ⟨rfl, b1⟩
  have HB1 : Hid (Below w.heap.size w W1) := HBn.out.trans (b1.mono (by simp))
  have HG1 : Hid (W1.heap[w.heap.size]? = some (.cells #[.int .u32 0, .int .u32 0, .int .i64 0, .slice none 0 0, .slice none 0 0] 33 (0, 0))) := (b1.block _ (by simp)).trans HG.out
  have HS1 : Hid (w.heap.size < W1.heap.size) := (Array.getElem?_eq_some_iff.1 HG1.out).1
  clear b1 HC
  go_wp2_with fail
  refine Calls.mono (HT.out W1 (HR.out.below HB1.out (Nat.le_refl _))) ?_
  rintro e W2 ⟨⟨nX, nY, nL, nro, nrn, nrc, nko, nkn, nkc⟩, rfl, n1, b2⟩
  have hg : W2.heap[w.heap.size]? = some (.cells #[.int .u32 0, .int .u32 0, .int .i64 0, .slice none 0 0, .slice none 0 0] 33 (0, 0)) := (b2.block _ HS1.out).trans HG1.out
  obtain ⟨z0, z1, z2, z3, z4, f0, f1, f2, f3, f4⟩ := node_facts hg
  obtain ⟨p1, p2, p3⟩ := put_node hg (.int .u32 (nX : Int)) (.int .u32 (nY : Int)) (.int .i64 (nL : Int)) (.slice nro nrn nrc) (.slice nko nkn nkc)
  have HP1 : Hid _ := p1
  have HP3 : Hid (Below w.heap.size w _) := (HB1.out.trans (b2.mono (Nat.le_of_lt HS1.out))).trans p3
  have HN : Hid _ := (n1.same (by simp [World.setCell]) (fun b hG _ => p2 b (by have := HS1.out; omega))).mono fun b _ hG => (by have := HS1.out; omega : w.heap.size ≤ b)
  clear p1 p2 p3 b2 hg n1
  go_wp2_with fail
  refine bodyPost_ret (results_nodeE rfl _ _ _ _ _ _ _ _ _ rfl rfl HP1.out) rfl ⟨⟨nX, nY, nL, nro, nrn, nrc, nko, nkn, nkc⟩, rfl, HN.out, HP3.out⟩
set_option maxRecDepth 100000 in
/-- Both build the same. -/
theorem builds_both (l : List Rw) : ∃ (ze : Int) (d : Nat) (l' : List Rw),
    (∀ o cap W, RowsAt W o cap l → Calls Try.prog 13 #[.slice o l.length cap] W fun e W' => ∃ n : Nv, e = .returned (.tuple #[nv n, .int .i64 ze]) ∧ NodeAt (fun _ => True) d W' n l' ∧ Below W.heap.size W W') ∧
    (∀ o cap W, RowsAt W o cap l → Calls Try.prog 14 #[.slice o l.length cap] W fun e W' => ∃ n : Nv, e = .returned (.tuple #[nv n, .int .i64 ze]) ∧ NodeAt (fun _ => True) d W' n l' ∧ Below W.heap.size W W') := by
  cases h : rightL l
  · refine ⟨80, 1, [], fun o cap W hr => (build_no l o cap W hr h).mono ?_, fun o cap W hr => (ebuild_no l o cap W hr h).mono ?_⟩
    all_goals
      rintro e W' ⟨rfl, b⟩
      exact ⟨_, rfl, node_nil _ 0 _, b⟩
  · refine ⟨0, 32, l, fun o cap W hr => (build_ok l o cap W hr h).mono ?_, fun o cap W hr => (ebuild_ok l o cap W hr h).mono ?_⟩
    all_goals
      rintro e W' ⟨n, rfl, hn, b⟩
      exact ⟨n, rfl, hn.mono fun _ _ _ => trivial, b⟩
/-- A row's block, two nodes' blocks. -/
def QB (g : Nat) (r : Rw) (g6 : Nat) (a b c d e : Value) (g8 : Nat) (a' b' c' d' e' : Value) (w : World) : Prop := F4 g r w ∧ F5 g6 a b c d e w ∧ F5 g8 a' b' c' d' e' w
set_option maxRecDepth 100000 in
theorem QB.same {g : Nat} {r : Rw} {g6 : Nat} {a b c d e : Value} {g8 : Nat} {a' b' c' d' e' : Value} {w w' : World} (h : QB g r g6 a b c d e g8 a' b' c' d' e' w) (x : w'.heap[g]? = w.heap[g]?) (y : w'.heap[g6]? = w.heap[g6]?) (z : w'.heap[g8]? = w.heap[g8]?) : QB g r g6 a b c d e g8 a' b' c' d' e' w' :=
  ⟨h.1.same x, h.2.1.same y, h.2.2.same z⟩
set_option maxRecDepth 100000 in
set_option maxHeartbeats 4000000 in
theorem quadBuilds_walk (l : List Rw) (r : Rw) (o : Option Addr) (cap : Nat) (w : World) (hr : RowsAt w o cap l) :
    Calls Try.prog 3 #[.slice o l.length cap, rv r] w fun e w' => e = .returned (.bool true) ∧ Below w.heap.size w w' := by
  obtain ⟨id, x, y, v⟩ := r
  have HF : Hid _ := few_any l o cap
  have HR0 : Hid (RowsAt w o cap l) := hr
  have HR : Hid (RowsAt w o cap (l.take 60)) := hr.head 60
  have H1 : Hid _ := rightRow_any ⟨id, x, y, v⟩
  have H2 : Hid _ := erightRow_any ⟨id, x, y, v⟩
  generalize rightRow ⟨id, x, y, v⟩ = br at *
  have HBn : Hid (Below w.heap.size w (w.alloc (.cells #[.int .u64 (id : Int), .int .u32 (x : Int), .int .u32 (y : Int), .string v] 26))) := below_new w _
  have HGn : Hid _ := heap_alloc_new w (.cells #[.int .u64 (id : Int), .int .u32 (x : Int), .int .u32 (y : Int), .string v] 26)
  clear hr
  go_enter Try.func3, Try.ntmps3
  go_wp2_with fail
  refine (shown_any _).mono ?_
  rintro e w1 ⟨rfl, b1⟩
  have HB1 : Hid (Below w.heap.size w w1) := HBn.out.trans (b1.mono (by simp))
  have HG1 : Hid (w1.heap[w.heap.size]? = some (.cells #[.int .u64 (id : Int), .int .u32 (x : Int), .int .u32 (y : Int), .string v] 26 (0, 0))) := (b1.block _ (by simp)).trans HGn.out
  clear b1 HBn HGn
  go_wp2_with fail
  refine (HF.out w1 (HR0.out.below HB1.out (Nat.le_refl _))).mono ?_
  rintro e w2 ⟨rfl, h⟩
  have h' := h.symm; clear h; subst h'
  clear HF HR0
  generalize l.take 60 = l at *
  obtain ⟨ze, d, l', hA, hB⟩ := builds_both l
  have HA : Hid _ := hA
  have HB : Hid _ := hB
  have H3 : Hid (∀ W, RowsAt W o cap l → _) := fun W h => qright_any l o cap W h
  have H4 : Hid (∀ W, RowsAt W o cap l → _) := fun W h => eright_any l o cap W h
  generalize rightL l = bl at *
  have HSN : Hid _ := sameNode_any d l'
  clear hA hB
  go_wp2_with fail
  refine (HA.out o cap w1 (HR.out.below HB1.out (Nat.le_refl _))).mono ?_
  rintro e w2 ⟨na, rfl, n2, b2⟩
  obtain ⟨aX, aY, aL, aro, arn, arc, ako, akn, akc⟩ := na
  have HB2 : Hid (Below w.heap.size w (w2.alloc (.cells #[.int .u32 (aX : Int), .int .u32 (aY : Int), .int .i64 (aL : Int), .slice aro arn arc, .slice ako akn akc] 33))) := HB1.out.trans ((b2.mono HB1.out.size).trans ((below_new w2 _).mono (Nat.le_trans HB1.out.size b2.size)))
  have hs2 := b2.size
  have HG2 : Hid ((w2.alloc (.cells #[.int .u32 (aX : Int), .int .u32 (aY : Int), .int .i64 (aL : Int), .slice aro arn arc, .slice ako akn akc] 33)).heap[w.heap.size]? = some (.cells #[.int .u64 (id : Int), .int .u32 (x : Int), .int .u32 (y : Int), .string v] 26 (0, 0))) := ((below_new w2 _).block _ (Nat.lt_of_lt_of_le (Array.getElem?_eq_some_iff.1 HG1.out).1 hs2)).trans ((b2.block _ (Array.getElem?_eq_some_iff.1 HG1.out).1).trans HG1.out)
  have HA2 : Hid ((w2.alloc (.cells #[.int .u32 (aX : Int), .int .u32 (aY : Int), .int .i64 (aL : Int), .slice aro arn arc, .slice ako akn akc] 33)).heap[w2.heap.size]? = some (.cells #[.int .u32 (aX : Int), .int .u32 (aY : Int), .int .i64 (aL : Int), .slice aro arn arc, .slice ako akn akc] 33 (0, 0))) := heap_alloc_new w2 _
  have HN2 : Hid (NodeAt (fun _ => True) d (w2.alloc (.cells #[.int .u32 (aX : Int), .int .u32 (aY : Int), .int .i64 (aL : Int), .slice aro arn arc, .slice ako akn akc] 33)) ⟨aX, aY, aL, aro, arn, arc, ako, akn, akc⟩ l') := n2.below (below_new w2 _) (Nat.le_refl _)
  clear b2 n2 HA hs2 HG1
  go_wp2_with fail
  obtain ⟨g6, hg6⟩ : ∃ g6, w2.heap.size = g6 := ⟨_, rfl⟩
  obtain ⟨W2, hW2⟩ : ∃ W2, w2.alloc (.cells #[.int .u32 (aX : Int), .int .u32 (aY : Int), .int .i64 (aL : Int), .slice aro arn arc, .slice ako akn akc] 33) = W2 := ⟨_, rfl⟩
  rw [hW2] at HB2 HG2 HA2 HN2 ⊢
  rw [hg6] at HA2 ⊢
  clear hW2 hg6 HB1
  refine (HB.out o cap W2 (HR.out.below HB2.out (Nat.le_refl _))).mono ?_
  rintro e w3 ⟨nb, rfl, n3, b3⟩
  obtain ⟨bX, bY, bL, bro, brn, brc, bko, bkn, bkc⟩ := nb
  have hs3 := b3.size
  have hb4 := below_new w3 (.cells #[.int .u32 (bX : Int), .int .u32 (bY : Int), .int .i64 (bL : Int), .slice bro brn brc, .slice bko bkn bkc] 33)
  have HB4 : Hid (Below W2.heap.size W2 (w3.alloc (.cells #[.int .u32 (bX : Int), .int .u32 (bY : Int), .int .i64 (bL : Int), .slice bro brn brc, .slice bko bkn bkc] 33))) := b3.trans (hb4.mono hs3)
  have HNb : Hid (NodeAt (fun _ => True) d (w3.alloc (.cells #[.int .u32 (bX : Int), .int .u32 (bY : Int), .int .i64 (bL : Int), .slice bro brn brc, .slice bko bkn bkc] 33)) ⟨bX, bY, bL, bro, brn, brc, bko, bkn, bkc⟩ l') := n3.below hb4 (Nat.le_refl _)
  have HGb : Hid ((w3.alloc (.cells #[.int .u32 (bX : Int), .int .u32 (bY : Int), .int .i64 (bL : Int), .slice bro brn brc, .slice bko bkn bkc] 33)).heap[w3.heap.size]? = some (.cells #[.int .u32 (bX : Int), .int .u32 (bY : Int), .int .i64 (bL : Int), .slice bro brn brc, .slice bko bkn bkc] 33 (0, 0))) := heap_alloc_new w3 _
  clear b3 n3 HB hs3 hb4
  go_wp2_with fail
  obtain ⟨g8, hg8⟩ : ∃ g8, w3.heap.size = g8 := ⟨_, rfl⟩
  obtain ⟨W4, hW4⟩ : ∃ W4, w3.alloc (.cells #[.int .u32 (bX : Int), .int .u32 (bY : Int), .int .i64 (bL : Int), .slice bro brn brc, .slice bko bkn bkc] 33) = W4 := ⟨_, rfl⟩
  rw [hW4] at HB4 HNb HGb ⊢
  rw [hg8] at HGb ⊢
  clear hW4 hg8
  have l0 : w.heap.size < W4.heap.size := Nat.lt_of_lt_of_le (Array.getElem?_eq_some_iff.1 HG2.out).1 HB4.out.size
  have l6 : g6 < W4.heap.size := Nat.lt_of_lt_of_le (Array.getElem?_eq_some_iff.1 HA2.out).1 HB4.out.size
  have l8 : g8 < W4.heap.size := (Array.getElem?_eq_some_iff.1 HGb.out).1
  have HW : Hid (Below w.heap.size w W4.drew) := HB2.out.trans ((HB4.out.mono HB2.out.size).drew)
  have HNa : Hid (NodeAt (fun _ => True) d W4 ⟨aX, aY, aL, aro, arn, arc, ako, akn, akc⟩ l') := HN2.out.below HB4.out (Nat.le_refl _)
  have HSW : Hid (QB w.heap.size ⟨id, x, y, v⟩ g6 (.int .u32 (aX : Int)) (.int .u32 (aY : Int)) (.int .i64 (aL : Int)) (.slice aro arn arc) (.slice ako akn akc) g8 (.int .u32 (bX : Int)) (.int .u32 (bY : Int)) (.int .i64 (bL : Int)) (.slice bro brn brc) (.slice bko bkn bkc) W4.drew) := ⟨F4.of ((HB4.out.block _ (Array.getElem?_eq_some_iff.1 HG2.out).1).trans HG2.out), F5.of ((HB4.out.block _ (Array.getElem?_eq_some_iff.1 HA2.out).1).trans HA2.out), F5.of HGb.out⟩
  clear HG2 HA2 HN2 HB2 HB4 HGb
  refine wp_region_held (S := QB w.heap.size ⟨id, x, y, v⟩ g6 (.int .u32 (aX : Int)) (.int .u32 (aY : Int)) (.int .i64 (aL : Int)) (.slice aro arn arc) (.slice ako akn akc) g8 (.int .u32 (bX : Int)) (.int .u32 (bY : Int)) (.int .i64 (bL : Int)) (.slice bro brn brc) (.slice bko bkn bkc)) (by kernel_rfl) ?_
  change wpAnyH _ _ _ _ _ _ _ _ (World.drew _)
  refine wpAnyH_take (i := 0) (v := ?_) rfl (by kernel_rfl) (by kernel_rfl) (by kernel_rfl) (fun _ _ _ h => h) (Or.inl ⟨by kernel_rfl, ?_⟩) HSW.out ?_
  rotate_left
  · intro w hS
    obtain ⟨⟨e1, e2, e3, e4⟩, ⟨f1, f2, f3, f4, f5⟩, h1, h2, h3, h4, h5⟩ := hS
    go_simp
    try with_reducible rfl
  conv in (Act.put _ _ _) => simp only [List.getElem_toArray, List.getElem_cons_succ, List.getElem_cons_zero, Act.put, List.setIfInBounds_toArray, List.set_cons_succ, List.set_cons_zero]
  refine wpAnyH_take (i := 1) (v := ?_) rfl (by kernel_rfl) (by kernel_rfl) (by kernel_rfl) (fun _ _ _ h => h) (Or.inl ⟨by kernel_rfl, ?_⟩) HSW.out ?_
  rotate_left
  · intro w hS
    obtain ⟨⟨e1, e2, e3, e4⟩, ⟨f1, f2, f3, f4, f5⟩, h1, h2, h3, h4, h5⟩ := hS
    go_simp
    try with_reducible rfl
  conv in (Act.put _ _ _) => simp only [List.getElem_toArray, List.getElem_cons_succ, List.getElem_cons_zero, Act.put, List.setIfInBounds_toArray, List.set_cons_succ, List.set_cons_zero]
  refine wpAnyH_take (i := 2) (v := ?_) rfl (by kernel_rfl) (by kernel_rfl) (by kernel_rfl) (fun _ _ _ h => h) (Or.inl ⟨by kernel_rfl, ?_⟩) HSW.out ?_
  rotate_left
  · intro w hS
    obtain ⟨⟨e1, e2, e3, e4⟩, ⟨f1, f2, f3, f4, f5⟩, h1, h2, h3, h4, h5⟩ := hS
    go_simp
    try with_reducible rfl
  conv in (Act.put _ _ _) => simp only [List.getElem_toArray, List.getElem_cons_succ, List.getElem_cons_zero, Act.put, List.setIfInBounds_toArray, List.set_cons_succ, List.set_cons_zero]
  refine wpAnyH_take (i := 4) (v := ?_) rfl (by kernel_rfl) (by kernel_rfl) (by kernel_rfl) (fun _ _ _ h => h) (Or.inl ⟨by kernel_rfl, ?_⟩) HSW.out ?_
  rotate_left
  · intro w hS
    obtain ⟨⟨e1, e2, e3, e4⟩, ⟨f1, f2, f3, f4, f5⟩, h1, h2, h3, h4, h5⟩ := hS
    go_simp
    try with_reducible rfl
  conv in (Act.put _ _ _) => simp only [List.getElem_toArray, List.getElem_cons_succ, List.getElem_cons_zero, Act.put, List.setIfInBounds_toArray, List.set_cons_succ, List.set_cons_zero]
  refine readyH 3 _ (by kernel_rfl) rfl (by kernel_rfl) (fun K hK => ?_)
  go_simp
  refine (H1.out _).mono ?_
  rintro e w5 ⟨rfl, b5⟩
  replace b5 : Below W4.heap.size W4 w5 := (Below.refl _ W4).drew.trans b5
  have HB5 : Hid (Below W4.heap.size W4 w5) := b5
  replace HSW : Hid (QB w.heap.size ⟨id, x, y, v⟩ g6 (.int .u32 (aX : Int)) (.int .u32 (aY : Int)) (.int .i64 (aL : Int)) (.slice aro arn arc) (.slice ako akn akc) g8 (.int .u32 (bX : Int)) (.int .u32 (bY : Int)) (.int .i64 (bL : Int)) (.slice bro brn brc) (.slice bko bkn bkc) w5) := HSW.out.same (b5.block _ l0) (b5.block _ l6) (b5.block _ l8)
  refine hK _ _ HSW.out ?_
  clear hK K b5
  refine readyH 5 _ (by kernel_rfl) rfl (by kernel_rfl) (fun K hK => ?_)
  go_simp
  refine (H2.out _).mono ?_
  rintro e w6 ⟨rfl, b6⟩
  have HB6 : Hid (Below W4.heap.size W4 w6) := HB5.out.trans (b6.mono HB5.out.size)
  replace HSW : Hid (QB w.heap.size ⟨id, x, y, v⟩ g6 (.int .u32 (aX : Int)) (.int .u32 (aY : Int)) (.int .i64 (aL : Int)) (.slice aro arn arc) (.slice ako akn akc) g8 (.int .u32 (bX : Int)) (.int .u32 (bY : Int)) (.int .i64 (bL : Int)) (.slice bro brn brc) (.slice bko bkn bkc) w6) := HSW.out.same (b6.block _ (Nat.lt_of_lt_of_le l0 HB5.out.size)) (b6.block _ (Nat.lt_of_lt_of_le l6 HB5.out.size)) (b6.block _ (Nat.lt_of_lt_of_le l8 HB5.out.size))
  refine hK _ _ HSW.out ?_
  clear hK K b6 HB5
  refine wpAnyH_take (i := 6) (v := ?_) rfl (by kernel_rfl) (by kernel_rfl) (by kernel_rfl) (fun _ _ _ h => h) (Or.inl ⟨by kernel_rfl, ?_⟩) HSW.out ?_
  rotate_left
  · intro w hS
    obtain ⟨⟨e1, e2, e3, e4⟩, ⟨f1, f2, f3, f4, f5⟩, h1, h2, h3, h4, h5⟩ := hS
    go_simp
    try with_reducible rfl
  conv in (Act.put _ _ _) => simp only [List.getElem_toArray, List.getElem_cons_succ, List.getElem_cons_zero, Act.put, List.setIfInBounds_toArray, List.set_cons_succ, List.set_cons_zero]
  refine wpAnyH_take (i := 7) (v := ?_) rfl (by kernel_rfl) (by kernel_rfl) (by kernel_rfl) (fun _ _ _ h => h) (Or.inl ⟨by kernel_rfl, ?_⟩) HSW.out ?_
  rotate_left
  · intro w hS
    obtain ⟨⟨e1, e2, e3, e4⟩, ⟨f1, f2, f3, f4, f5⟩, h1, h2, h3, h4, h5⟩ := hS
    go_simp
    try with_reducible rfl
  conv in (Act.put _ _ _) => simp only [List.getElem_toArray, List.getElem_cons_succ, List.getElem_cons_zero, Act.put, List.setIfInBounds_toArray, List.set_cons_succ, List.set_cons_zero]
  refine wpAnyH_take (i := 8) (v := ?_) rfl (by kernel_rfl) (by kernel_rfl) (by kernel_rfl) (fun _ _ _ h => h) (Or.inl ⟨by kernel_rfl, ?_⟩) HSW.out ?_
  rotate_left
  · intro w hS
    obtain ⟨⟨e1, e2, e3, e4⟩, ⟨f1, f2, f3, f4, f5⟩, h1, h2, h3, h4, h5⟩ := hS
    go_simp
    try with_reducible rfl
  conv in (Act.put _ _ _) => simp only [List.getElem_toArray, List.getElem_cons_succ, List.getElem_cons_zero, Act.put, List.setIfInBounds_toArray, List.set_cons_succ, List.set_cons_zero]
  have HWr : Hid (∀ W, Below W4.heap.size W4 W → RowsAt W o cap l) := fun W hW => RowsAt.below (RowsAt.below HR.out HW.out (Nat.le_refl _)) (⟨hW.os, hW.tape, hW.output, hW.size, hW.block⟩ : Below W4.heap.size W4.drew W) (Nat.le_refl _)
  refine wpAnyH_take (i := 9) (v := ?_) rfl (by kernel_rfl) (by kernel_rfl) (by kernel_rfl) (fun _ _ _ h => h) (Or.inl ⟨by kernel_rfl, ?_⟩) HSW.out ?_
  rotate_left
  · intro w hS
    obtain ⟨⟨e1, e2, e3, e4⟩, ⟨f1, f2, f3, f4, f5⟩, h1, h2, h3, h4, h5⟩ := hS
    go_simp
    try with_reducible rfl
  conv in (Act.put _ _ _) => simp only [List.getElem_toArray, List.getElem_cons_succ, List.getElem_cons_zero, Act.put, List.setIfInBounds_toArray, List.set_cons_succ, List.set_cons_zero]
  refine wpAnyH_take (i := 11) (v := ?_) rfl (by kernel_rfl) (by kernel_rfl) (by kernel_rfl) (fun _ _ _ h => h) (Or.inl ⟨by kernel_rfl, ?_⟩) HSW.out ?_
  rotate_left
  · intro w hS
    obtain ⟨⟨e1, e2, e3, e4⟩, ⟨f1, f2, f3, f4, f5⟩, h1, h2, h3, h4, h5⟩ := hS
    go_simp
    try with_reducible rfl
  conv in (Act.put _ _ _) => simp only [List.getElem_toArray, List.getElem_cons_succ, List.getElem_cons_zero, Act.put, List.setIfInBounds_toArray, List.set_cons_succ, List.set_cons_zero]
  refine readyH 10 _ (by kernel_rfl) rfl (by kernel_rfl) (fun K hK => ?_)
  go_simp
  refine (H3.out w6 (HWr.out w6 HB6.out)).mono ?_
  rintro e w7 ⟨rfl, b⟩
  have HB7 : Hid (Below W4.heap.size W4 w7) := HB6.out.trans (b.mono HB6.out.size)
  replace HSW : Hid (QB w.heap.size ⟨id, x, y, v⟩ g6 (.int .u32 (aX : Int)) (.int .u32 (aY : Int)) (.int .i64 (aL : Int)) (.slice aro arn arc) (.slice ako akn akc) g8 (.int .u32 (bX : Int)) (.int .u32 (bY : Int)) (.int .i64 (bL : Int)) (.slice bro brn brc) (.slice bko bkn bkc) w7) := HSW.out.same (b.block _ (Nat.lt_of_lt_of_le l0 HB6.out.size)) (b.block _ (Nat.lt_of_lt_of_le l6 HB6.out.size)) (b.block _ (Nat.lt_of_lt_of_le l8 HB6.out.size))
  refine hK _ _ HSW.out ?_
  clear hK K b HB6
  refine readyH 12 _ (by kernel_rfl) rfl (by kernel_rfl) (fun K hK => ?_)
  go_simp
  refine (H4.out w7 (HWr.out w7 HB7.out)).mono ?_
  rintro e w8 ⟨rfl, b⟩
  have HB8 : Hid (Below W4.heap.size W4 w8) := HB7.out.trans (b.mono HB7.out.size)
  replace HSW : Hid (QB w.heap.size ⟨id, x, y, v⟩ g6 (.int .u32 (aX : Int)) (.int .u32 (aY : Int)) (.int .i64 (aL : Int)) (.slice aro arn arc) (.slice ako akn akc) g8 (.int .u32 (bX : Int)) (.int .u32 (bY : Int)) (.int .i64 (bL : Int)) (.slice bro brn brc) (.slice bko bkn bkc) w8) := HSW.out.same (b.block _ (Nat.lt_of_lt_of_le l0 HB7.out.size)) (b.block _ (Nat.lt_of_lt_of_le l6 HB7.out.size)) (b.block _ (Nat.lt_of_lt_of_le l8 HB7.out.size))
  refine hK _ _ HSW.out ?_
  clear hK K b HB7
  refine wpAnyH_take (i := 13) (v := ?_) rfl (by kernel_rfl) (by kernel_rfl) (by kernel_rfl) (fun _ _ _ h => h) (Or.inl ⟨by kernel_rfl, ?_⟩) HSW.out ?_
  rotate_left
  · intro w hS
    obtain ⟨⟨e1, e2, e3, e4⟩, ⟨f1, f2, f3, f4, f5⟩, h1, h2, h3, h4, h5⟩ := hS
    go_simp
    try with_reducible rfl
  conv in (Act.put _ _ _) => simp only [List.getElem_toArray, List.getElem_cons_succ, List.getElem_cons_zero, Act.put, List.setIfInBounds_toArray, List.set_cons_succ, List.set_cons_zero]
  refine wpAnyH_take (i := 14) (v := ?_) rfl (by kernel_rfl) (by kernel_rfl) (by kernel_rfl) (fun _ _ _ h => h) (Or.inl ⟨by kernel_rfl, ?_⟩) HSW.out ?_
  rotate_left
  · intro w hS
    obtain ⟨⟨e1, e2, e3, e4⟩, ⟨f1, f2, f3, f4, f5⟩, h1, h2, h3, h4, h5⟩ := hS
    go_simp
    try with_reducible rfl
  conv in (Act.put _ _ _) => simp only [List.getElem_toArray, List.getElem_cons_succ, List.getElem_cons_zero, Act.put, List.setIfInBounds_toArray, List.set_cons_succ, List.set_cons_zero]
  refine wpAnyH_take (i := 15) (v := ?_) rfl (by kernel_rfl) (by kernel_rfl) (by kernel_rfl) (fun _ _ _ h => h) (Or.inl ⟨by kernel_rfl, ?_⟩) HSW.out ?_
  rotate_left
  · intro w hS
    obtain ⟨⟨e1, e2, e3, e4⟩, ⟨f1, f2, f3, f4, f5⟩, h1, h2, h3, h4, h5⟩ := hS
    go_simp
    try with_reducible rfl
  conv in (Act.put _ _ _) => simp only [List.getElem_toArray, List.getElem_cons_succ, List.getElem_cons_zero, Act.put, List.setIfInBounds_toArray, List.set_cons_succ, List.set_cons_zero]
  refine wpAnyH_take (i := 16) (v := ?_) rfl (by kernel_rfl) (by kernel_rfl) (by kernel_rfl) (fun _ _ _ h => h) (Or.inl ⟨by kernel_rfl, ?_⟩) HSW.out ?_
  rotate_left
  · intro w hS
    obtain ⟨⟨e1, e2, e3, e4⟩, ⟨f1, f2, f3, f4, f5⟩, h1, h2, h3, h4, h5⟩ := hS
    go_simp
    try with_reducible rfl
  conv in (Act.put _ _ _) => simp only [List.getElem_toArray, List.getElem_cons_succ, List.getElem_cons_zero, Act.put, List.setIfInBounds_toArray, List.set_cons_succ, List.set_cons_zero]
  refine wpAnyH_take (i := 17) (v := ?_) rfl (by kernel_rfl) (by kernel_rfl) (by kernel_rfl) (fun _ _ _ h => h) (Or.inl ⟨by kernel_rfl, ?_⟩) HSW.out ?_
  rotate_left
  · intro w hS
    obtain ⟨⟨e1, e2, e3, e4⟩, ⟨f1, f2, f3, f4, f5⟩, h1, h2, h3, h4, h5⟩ := hS
    go_simp
    try with_reducible rfl
  conv in (Act.put _ _ _) => simp only [List.getElem_toArray, List.getElem_cons_succ, List.getElem_cons_zero, Act.put, List.setIfInBounds_toArray, List.set_cons_succ, List.set_cons_zero]
  refine readyH 18 _ (by kernel_rfl) rfl (by kernel_rfl) (fun K hK => ?_)
  go_simp
  refine Calls.mono (HSN.out ⟨aX, aY, aL, aro, arn, arc, ako, akn, akc⟩ ⟨bX, bY, bL, bro, brn, brc, bko, bkn, bkc⟩ w8 (fun _ => True) (fun _ => True) (HNa.out.below HB8.out (Nat.le_refl _)) (HNb.out.below HB8.out (Nat.le_refl _))) ?_
  rintro e w9 ⟨rfl, b⟩
  have HB9 : Hid (Below W4.heap.size W4 w9) := HB8.out.trans (b.mono HB8.out.size)
  replace HSW : Hid (QB w.heap.size ⟨id, x, y, v⟩ g6 (.int .u32 (aX : Int)) (.int .u32 (aY : Int)) (.int .i64 (aL : Int)) (.slice aro arn arc) (.slice ako akn akc) g8 (.int .u32 (bX : Int)) (.int .u32 (bY : Int)) (.int .i64 (bL : Int)) (.slice bro brn brc) (.slice bko bkn bkc) w9) := HSW.out.same (b.block _ (Nat.lt_of_lt_of_le l0 HB8.out.size)) (b.block _ (Nat.lt_of_lt_of_le l6 HB8.out.size)) (b.block _ (Nat.lt_of_lt_of_le l8 HB8.out.size))
  refine hK _ _ HSW.out ?_
  clear hK K b HB8
  refine wpAnyH_take (i := 19) (v := ?_) rfl (by kernel_rfl) (by kernel_rfl) (by kernel_rfl) (fun _ _ _ h => h) (Or.inl ⟨by kernel_rfl, ?_⟩) HSW.out ?_
  rotate_left
  · intro w hS
    obtain ⟨⟨e1, e2, e3, e4⟩, ⟨f1, f2, f3, f4, f5⟩, h1, h2, h3, h4, h5⟩ := hS
    go_simp
    try with_reducible rfl
  conv in (Act.put _ _ _) => simp only [List.getElem_toArray, List.getElem_cons_succ, List.getElem_cons_zero, Act.put, List.setIfInBounds_toArray, List.set_cons_succ, List.set_cons_zero]
  refine wpAnyH_take (i := 20) (v := ?_) rfl (by kernel_rfl) (by kernel_rfl) (by kernel_rfl) (fun _ _ _ h => h) (Or.inl ⟨by kernel_rfl, ?_⟩) HSW.out ?_
  rotate_left
  · intro w hS
    obtain ⟨⟨e1, e2, e3, e4⟩, ⟨f1, f2, f3, f4, f5⟩, h1, h2, h3, h4, h5⟩ := hS
    go_simp
    try with_reducible rfl
  conv in (Act.put _ _ _) => simp only [List.getElem_toArray, List.getElem_cons_succ, List.getElem_cons_zero, Act.put, List.setIfInBounds_toArray, List.set_cons_succ, List.set_cons_zero]
  refine wpAnyH_take (i := 21) (v := ?_) rfl (by kernel_rfl) (by kernel_rfl) (by kernel_rfl) (fun _ _ _ h => h) (Or.inl ⟨by kernel_rfl, ?_⟩) HSW.out ?_
  rotate_left
  · intro w hS
    obtain ⟨⟨e1, e2, e3, e4⟩, ⟨f1, f2, f3, f4, f5⟩, h1, h2, h3, h4, h5⟩ := hS
    go_simp
    try with_reducible rfl
  conv in (Act.put _ _ _) => simp only [List.getElem_toArray, List.getElem_cons_succ, List.getElem_cons_zero, Act.put, List.setIfInBounds_toArray, List.set_cons_succ, List.set_cons_zero]
  refine wpAnyH_take (i := 22) (v := ?_) rfl (by kernel_rfl) (by kernel_rfl) (by kernel_rfl) (fun _ _ _ h => h) (Or.inl ⟨by kernel_rfl, ?_⟩) HSW.out ?_
  rotate_left
  · intro w hS
    obtain ⟨⟨e1, e2, e3, e4⟩, ⟨f1, f2, f3, f4, f5⟩, h1, h2, h3, h4, h5⟩ := hS
    go_simp
    try with_reducible rfl
  conv in (Act.put _ _ _) => simp only [List.getElem_toArray, List.getElem_cons_succ, List.getElem_cons_zero, Act.put, List.setIfInBounds_toArray, List.set_cons_succ, List.set_cons_zero]
  refine wpAnyH_take (i := 23) (v := ?_) rfl (by kernel_rfl) (by kernel_rfl) (by kernel_rfl) (fun _ _ _ h => h) (Or.inl ⟨by kernel_rfl, ?_⟩) HSW.out ?_
  rotate_left
  · intro w hS
    obtain ⟨⟨e1, e2, e3, e4⟩, ⟨f1, f2, f3, f4, f5⟩, h1, h2, h3, h4, h5⟩ := hS
    go_simp
    try with_reducible rfl
  conv in (Act.put _ _ _) => simp only [List.getElem_toArray, List.getElem_cons_succ, List.getElem_cons_zero, Act.put, List.setIfInBounds_toArray, List.set_cons_succ, List.set_cons_zero]
  refine wpAnyH_take (i := 24) (v := ?_) rfl (by kernel_rfl) (by kernel_rfl) (by kernel_rfl) (fun _ _ _ h => h) (Or.inl ⟨by kernel_rfl, ?_⟩) HSW.out ?_
  rotate_left
  · intro w hS
    obtain ⟨⟨e1, e2, e3, e4⟩, ⟨f1, f2, f3, f4, f5⟩, h1, h2, h3, h4, h5⟩ := hS
    go_simp
    try with_reducible rfl
  conv in (Act.put _ _ _) => simp only [List.getElem_toArray, List.getElem_cons_succ, List.getElem_cons_zero, Act.put, List.setIfInBounds_toArray, List.set_cons_succ, List.set_cons_zero]
  refine wpAnyH_take (i := 25) (v := ?_) rfl (by kernel_rfl) (by kernel_rfl) (by kernel_rfl) (fun _ _ _ h => h) (Or.inl ⟨by kernel_rfl, ?_⟩) HSW.out ?_
  rotate_left
  · intro w hS
    obtain ⟨⟨e1, e2, e3, e4⟩, ⟨f1, f2, f3, f4, f5⟩, h1, h2, h3, h4, h5⟩ := hS
    go_simp
    try with_reducible rfl
  conv in (Act.put _ _ _) => simp only [List.getElem_toArray, List.getElem_cons_succ, List.getElem_cons_zero, Act.put, List.setIfInBounds_toArray, List.set_cons_succ, List.set_cons_zero]
  refine wpAnyH_done (by kernel_rfl) ?_ _
  go_wp2_with fail
  go_ret
  have hb9 := HB9.out
  exact ⟨rfl, HW.out.trans ((⟨hb9.os, hb9.tape, hb9.output, hb9.size, hb9.block⟩ : Below W4.heap.size W4.drew w9).mono HW.out.size)⟩
end Go.Proofs.Ytaiiclkfnahghaa.Rq
