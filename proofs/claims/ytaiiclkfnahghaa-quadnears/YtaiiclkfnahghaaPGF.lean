/- The tree of rows. -/
import Derived.Test.YtaiiclkfnahghaaPGE
namespace Go.Proofs.Ytaiiclkfnahghaa.Rq
open Go.RowKit Go.Lib Go.Shelf
open Go.Proofs.Ytaiiclkfnahghaa.Rc
set_option maxRecDepth 100000 in
theorem list_append {P : Program} {ops : Array Oper} {rest : List Oper} {o : Oper} {a : Act} {w : World} {Q : Exit → Act → World → Prop} (hgd : o.guard = none) (t u : TypeId) (s x : Operand) (ho : o.op = .call { callee := .builtin .append, args := #[s, x], argTypes := #[t, u] })
    {vs vx v' : Value} {w' : World} (hs : a.eval s = vs) (hx : a.eval x = vx) (hrun : (Builtin.append_ #[t, u] o.type #[vs, vx]).run P w = .ok v' w') (h : wpList P ops Q rest (a.put o.dst v') w') : wpList P ops Q (o :: rest) a w :=
  wpList_plain hgd fun _ hK => by
    unfold Oper.wp execOp
    simp only [ho, resolve, invoke, builtin, Sem.run_bind, Sem.run_pure, Result.andThen_ok, List.map_toArray, List.map_cons, List.map_nil, hs, hx, hrun]
    exact hK _ _ h
set_option maxRecDepth 100000 in
theorem not_nil (a : Addr) (n c : Nat) (w : World) : (binOp .eql 22 (.slice (some a) n c) (.slice none 0 0)).run Try.prog w = .ok (.bool false) w := by kernel_rfl
set_option maxRecDepth 100000 in
set_option maxHeartbeats 1000000 in
theorem clone_any (l : List Rw) (o : Option Addr) (cap : Nat) (w : World) (hr : RowsAt w o cap l) (hne : 0 < l.length) (hmax : l.length ≤ 1000) :
    Calls Try.prog 62 #[.slice o l.length cap] w fun e w' => ∃ v, e = .returned v ∧ w'.ownsRow w.heap.size 26 4 v l.length (l.flatMap rc) ∧ Below w.heap.size w w' := by
  obtain ⟨b, off, rfl, hb, _⟩ := hr.row hne
  have h0 : w.alloc (.cells #[] 26) = w.alloc (.cells #[] 26) := rfl
  have hb0 := below_new w (.cells #[] 26)
  have hown : (w.alloc (.cells #[] 26)).ownsRow w.heap.size 26 4 (.slice (some ⟨w.heap.size, 0, none⟩) 0 0) 0 [] :=
    ⟨by simp, .inr ⟨w.heap.size, 0, #[], rfl, Nat.le_refl _, heap_alloc_new w _, Nat.le_refl _, by decide, rfl, rfl⟩⟩
  obtain ⟨v', W', hrun, a1, a2, a3⟩ := append_sl 22 26 Try.underlying22 infoRow rfl (by decide) (by decide) (w.alloc (.cells #[] 26)) w.heap.size 0 l.length (.slice (some ⟨w.heap.size, 0, none⟩) 0 0) (some ⟨b, off, none⟩) cap
        [] (l.flatMap rc) hown (by simp) (Sl.below hr hb0 (Nat.le_refl _)) (rc_one l) (by omega)
  have HB : Hid (Below w.heap.size w W') := hb0.grown a2 (by simp) fun k ek => by simp [Value.ownBlock] at ek; omega
  have HO : Hid (W'.ownsRow w.heap.size 26 4 v' l.length (l.flatMap rc)) := by
    have := a1
    rw [Nat.zero_add, List.nil_append] at this
    exact this
  clear a1 a2 a3 hown hb0 h0 hr
  have hn := fun w => not_nil ⟨b, off, none⟩ l.length cap w
  go_enter Try.func62, Try.ntmps62
  go_wp2_with (refine list_append rfl 22 22 (.tmp 5) (.tmp 6) rfl rfl rfl hrun ?_)
  go_ret
  exact ⟨v', rfl, HO.out, HB.out⟩
set_option maxRecDepth 100000 in
/-- The zero node, and one of rows, one of kids. -/
theorem leaf_nil : leaf [] = true := rfl
set_option maxRecDepth 100000 in
theorem node_nil (G : Nat → Prop) (d : Nat) (w : World) : NodeAt G (d + 1) w ⟨0, 0, 0, none, 0, 0, none, 0, 0⟩ [] :=
  ⟨rfl, rfl, rfl, fun _ => ⟨rfl, Sl.nil 4 w, fun h => absurd h (by decide), rfl, Sl.nil 5 w⟩, fun h => by rw [leaf_nil] at h; cases h⟩
set_option maxRecDepth 100000 in
theorem results_node {fn : Func} {p : Tmp} (h : fn.results = #[.cell p 33]) (tmps : Array Value) (w : World) (g : Nat) (a b c d e : Value) {t : TypeId}
    (hp : tmps.getD p undef = .pointer (some ⟨g, 0, none⟩)) (hg : w.heap[g]? = some (.cells #[a, b, c, d, e] t (0, 0))) : (results fn tmps).run Try.prog w = .ok (.agg #[a, b, c, d, e]) w := by
  have hp' : tmps[p]?.getD undef = .pointer (some ⟨g, 0, none⟩) := by simpa using hp
  have c0 : w.cell? ⟨g, 0, none⟩ = some a := by rw [cell_of_row _ _ _ _ _ _ hg]; rfl
  have c1 : w.cell? ⟨g, 1, none⟩ = some b := by rw [cell_of_row _ _ _ _ _ _ hg]; rfl
  have c2 : w.cell? ⟨g, 2, none⟩ = some c := by rw [cell_of_row _ _ _ _ _ _ hg]; rfl
  have c3 : w.cell? ⟨g, 3, none⟩ = some d := by rw [cell_of_row _ _ _ _ _ _ hg]; rfl
  have c4 : w.cell? ⟨g, 4, none⟩ = some e := by rw [cell_of_row _ _ _ _ _ _ hg]; rfl
  simp [results, h, hp', asAddr, go_sem, c0, c1, c2, c3, c4]
set_option maxRecDepth 100000 in
theorem node_facts {w : World} {g : Nat} {a b c d e : Value} {t : TypeId} (hg : w.heap[g]? = some (.cells #[a, b, c, d, e] t (0, 0))) :
    w.frozen? ⟨g, 0, none⟩ = false ∧ w.frozen? ⟨g, 1, none⟩ = false ∧ w.frozen? ⟨g, 2, none⟩ = false ∧ w.frozen? ⟨g, 3, none⟩ = false ∧ w.frozen? ⟨g, 4, none⟩ = false ∧
    w.cell? ⟨g, 0, none⟩ = some a ∧ w.cell? ⟨g, 1, none⟩ = some b ∧ w.cell? ⟨g, 2, none⟩ = some c ∧ w.cell? ⟨g, 3, none⟩ = some d ∧ w.cell? ⟨g, 4, none⟩ = some e :=
  ⟨frozen_of_row w g 0 _ _ hg, frozen_of_row w g 1 _ _ hg, frozen_of_row w g 2 _ _ hg, frozen_of_row w g 3 _ _ hg, frozen_of_row w g 4 _ _ hg, by rw [cell_of_row _ _ _ _ _ _ hg]; rfl, by rw [cell_of_row _ _ _ _ _ _ hg]; rfl, by rw [cell_of_row _ _ _ _ _ _ hg]; rfl, by rw [cell_of_row _ _ _ _ _ _ hg]; rfl, by rw [cell_of_row _ _ _ _ _ _ hg]; rfl⟩
set_option maxRecDepth 100000 in
theorem setc (w : World) (g k : Nat) (v : Value) {j : Nat} (hj : j ≠ g) : (w.setCell ⟨g, k, none⟩ v).heap[j]? = w.heap[j]? := Below.heap_setCell _ _ _ _ hj
set_option maxRecDepth 100000 in
set_option maxHeartbeats 2000000 in
theorem put_node {w : World} {g : Nat} {x0 x1 x2 x3 x4 : Value} {t : TypeId} (h : w.heap[g]? = some (.cells #[x0, x1, x2, x3, x4] t (0, 0))) (a b c d e : Value) :
    (((((w.setCell ⟨g, 0, none⟩ a).setCell ⟨g, 1, none⟩ b).setCell ⟨g, 2, none⟩ c).setCell ⟨g, 3, none⟩ d).setCell ⟨g, 4, none⟩ e).heap[g]? = some (.cells #[a, b, c, d, e] t (0, 0)) ∧
    (∀ j, j ≠ g → (((((w.setCell ⟨g, 0, none⟩ a).setCell ⟨g, 1, none⟩ b).setCell ⟨g, 2, none⟩ c).setCell ⟨g, 3, none⟩ d).setCell ⟨g, 4, none⟩ e).heap[j]? = w.heap[j]?) ∧
    Below g w (((((w.setCell ⟨g, 0, none⟩ a).setCell ⟨g, 1, none⟩ b).setCell ⟨g, 2, none⟩ c).setCell ⟨g, 3, none⟩ d).setCell ⟨g, 4, none⟩ e) := by
  have X1 := heap_setCell_same w g 0 _ _ a h
  have X2 := heap_setCell_same _ g 1 _ _ b X1
  have X3 := heap_setCell_same _ g 2 _ _ c X2
  have X4 := heap_setCell_same _ g 3 _ _ d X3
  have X5 := heap_setCell_same _ g 4 _ _ e X4
  have o : ∀ j, j ≠ g → (((((w.setCell ⟨g, 0, none⟩ a).setCell ⟨g, 1, none⟩ b).setCell ⟨g, 2, none⟩ c).setCell ⟨g, 3, none⟩ d).setCell ⟨g, 4, none⟩ e).heap[j]? = w.heap[j]? := fun j hj => by
    rw [setc _ _ _ _ hj, setc _ _ _ _ hj, setc _ _ _ _ hj, setc _ _ _ _ hj, setc _ _ _ _ hj]
  have b0 : ∀ (w : World) (k : Nat) (v : Value), Below g w (w.setCell ⟨g, k, none⟩ v) := fun w k v => ⟨rfl, rfl, rfl, by simp [World.setCell], fun j hj => setc w g k v (by omega)⟩
  exact ⟨X5, o, (b0 w 0 a).trans ((b0 _ 1 b).trans ((b0 _ 2 c).trans ((b0 _ 3 d).trans (b0 _ 4 e))))⟩
set_option maxRecDepth 100000 in
theorem cels_same {g X Y : Nat} {L : Int} {w w' : World} (h : CelS g X Y L w) (e : w'.heap[g]? = w.heap[g]?) : CelS g X Y L w' :=
  ⟨(World.cell?_of_block (a := ⟨g, 0, none⟩) e).trans h.1, (World.cell?_of_block (a := ⟨g, 1, none⟩) e).trans h.2.1, (World.cell?_of_block (a := ⟨g, 2, none⟩) e).trans h.2.2⟩
set_option maxRecDepth 100000 in
set_option maxHeartbeats 4000000 in
theorem tree_nil (d : Nat) (o : Option Addr) (cap : Nat) (w : World) :
    Calls Try.prog 33 #[.slice o 0 cap] w fun e w' => ∃ n : Nv, e = .returned (nv n) ∧ NodeAt (fun b => w.heap.size ≤ b) (d + 1) w' n [] ∧ Below w.heap.size w w' := by
  have HB : Hid (Below w.heap.size w (w.alloc (.cells #[.int .u32 0, .int .u32 0, .int .i64 0, .slice none 0 0, .slice none 0 0] 33))) := below_new w _
  have HG : Hid ((w.alloc (.cells #[.int .u32 0, .int .u32 0, .int .i64 0, .slice none 0 0, .slice none 0 0] 33)).heap[w.heap.size]? = some (.cells #[.int .u32 0, .int .u32 0, .int .i64 0, .slice none 0 0, .slice none 0 0] 33 (0, 0))) := heap_alloc_new w _
  go_enter Try.func33, Try.ntmps33
  go_wp2_with fail
  refine bodyPost_ret (results_node rfl _ _ _ _ _ _ _ _ rfl HG.out) rfl ⟨⟨0, 0, 0, none, 0, 0, none, 0, 0⟩, rfl, node_nil _ d _, HB.out⟩
set_option maxRecDepth 100000 in
set_option maxHeartbeats 4000000 in
theorem tree_leaf (d : Nat) (l : List Rw) (o : Option Addr) (cap : Nat) (w : World) (hr : RowsAt w o cap l) (hon : On l) (hmax : l.length ≤ 1000) (hne : 0 < l.length) (hlf : leaf l = true) :
    Calls Try.prog 33 #[.slice o l.length cap] w fun e w' => ∃ n : Nv, e = .returned (nv n) ∧ NodeAt (fun b => w.heap.size ≤ b) (d + 1) w' n l ∧ Below w.heap.size w w' := by
    have HLf : Hid (leaf l = true) := hlf
    have HCl : Hid (∀ W, RowsAt W o cap l → _) := fun W h => clone_any l o cap W h hne hmax

    have HHR : RowsAt (w.alloc (.cells #[.int .u32 0, .int .u32 0, .int .i64 0, .slice none 0 0, .slice none 0 0] 33)) o cap l := hr.below (below_new w _) (Nat.le_refl _)
    have HC : Hid _ := qleast_any l o cap (w.alloc (.cells #[.int .u32 0, .int .u32 0, .int .i64 0, .slice none 0 0, .slice none 0 0] 33)) HHR hne hon hmax
    have HG2n : Hid ((w.alloc (.cells #[.int .u32 0, .int .u32 0, .int .i64 0, .slice none 0 0, .slice none 0 0] 33)).heap[w.heap.size]? = some (.cells #[.int .u32 0, .int .u32 0, .int .i64 0, .slice none 0 0, .slice none 0 0] 33 (0, 0))) := heap_alloc_new w _
    have HBn : Hid (Below w.heap.size w (w.alloc (.cells #[.int .u32 0, .int .u32 0, .int .i64 0, .slice none 0 0, .slice none 0 0] 33))) := below_new w _
    have HR : Hid (RowsAt w o cap l) := hr
    obtain ⟨X, hX⟩ : ∃ X, cx l = X := ⟨_, rfl⟩
    obtain ⟨Y, hY⟩ : ∃ Y, cy l = Y := ⟨_, rfl⟩
    obtain ⟨L, hL⟩ : ∃ L : Int, (lev l : Int) = L := ⟨_, rfl⟩
    have HX : Hid (cx l = X) := hX
    have HY : Hid (cy l = Y) := hY
    have HL : Hid ((lev l : Int) = L) := hL
    rw [hX, hY, hL] at HC
    have q0 : ((l.length : Int) == 0) = false := by rw [beq_eq_false_iff_ne]; omega
    have n0 : ¬ l.length = 0 := by omega

    by_cases h4 : l.length ≤ 4
    · have q1 : decide ((l.length : Int) ≤ 4) = true := decide_eq_true (by omega)
      clear hlf h4

      clear hr HHR hX hY hL
      go_enter Try.func33, Try.ntmps33
      go_wp2_with fail
      refine Calls.mono HC.out ?_
      rintro e W1 ⟨rfl, b1⟩
      have HG2a := (b1.block _ (by simp)).trans HG2n.out
      have hs1 : w.heap.size < W1.heap.size := by have := b1.size; simp at this; omega
      have HB2 : Hid (Below w.heap.size w (W1.alloc (.cells #[.int .u32 (X : Int), .int .u32 (Y : Int), .int .i64 L] 30))) := (HBn.out.trans (b1.mono (by simp))).trans ((below_new W1 _).mono (by omega))
      have HG2 : Hid ((W1.alloc (.cells #[.int .u32 (X : Int), .int .u32 (Y : Int), .int .i64 L] 30)).heap[w.heap.size]? = some (.cells #[.int .u32 0, .int .u32 0, .int .i64 0, .slice none 0 0, .slice none 0 0] 33 (0, 0))) := ((below_new W1 _).block _ hs1).trans HG2a
      have HG3 : Hid ((W1.alloc (.cells #[.int .u32 (X : Int), .int .u32 (Y : Int), .int .i64 L] 30)).heap[W1.heap.size]? = some (.cells #[.int .u32 (X : Int), .int .u32 (Y : Int), .int .i64 L] 30 (0, 0))) := heap_alloc_new W1 _
      clear b1 HG2a
      go_wp2_with fail
      have HG2s : Hid (w.heap.size < (W1.alloc (.cells #[.int .u32 (X : Int), .int .u32 (Y : Int), .int .i64 L] 30)).heap.size) := (Array.getElem?_eq_some_iff.1 HG2.out).1
      have HG3s : Hid (W1.heap.size < (W1.alloc (.cells #[.int .u32 (X : Int), .int .u32 (Y : Int), .int .i64 L] 30)).heap.size) := (Array.getElem?_eq_some_iff.1 HG3.out).1
      have HG32 : Hid (W1.heap.size ≠ w.heap.size) := Nat.ne_of_gt hs1
      obtain ⟨g3, hg3⟩ : ∃ g3, W1.heap.size = g3 := ⟨_, rfl⟩
      obtain ⟨W2, hW2⟩ : ∃ W2, W1.alloc (.cells #[.int .u32 (X : Int), .int .u32 (Y : Int), .int .i64 L] 30) = W2 := ⟨_, rfl⟩
      rw [hW2] at HB2 HG2 HG3 HG2s HG3s ⊢
      rw [hg3] at HG3 HG3s HG32 ⊢
      clear hW2 hg3 hs1 HC HG2n HBn
      obtain ⟨t0, t1, t2⟩ := Cel.cells HG3.out
      go_wp2_with fail

      have HSW : Hid (CelS g3 X Y L W2.drew) := Cel.cells HG3.out
      have HRW : Hid (RowsAt W2 o cap l) := HR.out.below HB2.out (Nat.le_refl _)
      clear t0 t1 t2
      refine wp_region_held (S := CelS g3 X Y L) (by kernel_rfl) ?_
      change wpAnyH _ _ _ _ _ _ _ _ (World.drew _)
      refine wpAnyH_take (i := 0) (v := ?_) rfl (by kernel_rfl) (by kernel_rfl) (by kernel_rfl) (fun _ _ _ h => h) (Or.inl ⟨by kernel_rfl, ?_⟩) HSW.out ?_
      rotate_left
      · intro w hS
        obtain ⟨e1, e2, e3⟩ := hS
        go_simp
        try with_reducible rfl
      conv in (Act.put _ _ _) => simp only [List.getElem_toArray, List.getElem_cons_succ, List.getElem_cons_zero, Act.put, List.setIfInBounds_toArray, List.set_cons_succ, List.set_cons_zero]
      refine wpAnyH_take (i := 1) (v := ?_) rfl (by kernel_rfl) (by kernel_rfl) (by kernel_rfl) (fun _ _ _ h => h) (Or.inl ⟨by kernel_rfl, ?_⟩) HSW.out ?_
      rotate_left
      · intro w hS
        obtain ⟨e1, e2, e3⟩ := hS
        go_simp
        try with_reducible rfl
      conv in (Act.put _ _ _) => simp only [List.getElem_toArray, List.getElem_cons_succ, List.getElem_cons_zero, Act.put, List.setIfInBounds_toArray, List.set_cons_succ, List.set_cons_zero]
      refine readyH 2 _ (by kernel_rfl) rfl (by kernel_rfl) (fun K hK => ?_)
      go_simp
      refine (HCl.out W2.drew (Sl.below HRW.out ((Below.refl _ W2).drew) (Nat.le_refl _))).mono ?_
      rintro e W3 ⟨v, rfl, o1, b1⟩
      replace b1 : Below W2.heap.size W2 W3 := (Below.refl _ W2).drew.trans b1
      replace HSW : Hid (CelS g3 X Y L W3) := CelS.below (Cel.cells HG3.out) b1 HG3s.out
      have HG2' : Hid (W3.heap[w.heap.size]? = some (.cells #[.int .u32 0, .int .u32 0, .int .i64 0, .slice none 0 0, .slice none 0 0] 33 (0, 0))) := (b1.block _ HG2s.out).trans HG2.out
      refine hK _ _ HSW.out ?_
      clear hK K
      obtain ⟨ro, rcap, rfl, sl⟩ := sl_of_own o1
      obtain ⟨n, hn⟩ : ∃ n, l.length = n := ⟨_, rfl⟩
      rw [hn]
      refine wpAnyH_take (i := 3) (v := ?_) rfl (by kernel_rfl) (by kernel_rfl) (by kernel_rfl) (fun _ _ _ h => h) (Or.inl ⟨by kernel_rfl, ?_⟩) HSW.out ?_
      rotate_left
      · intro w hS
        obtain ⟨e1, e2, e3⟩ := hS
        go_simp
        try with_reducible rfl
      conv in (Act.put _ _ _) => simp only [List.getElem_toArray, List.getElem_cons_succ, List.getElem_cons_zero, Act.put, List.setIfInBounds_toArray, List.set_cons_succ, List.set_cons_zero]
      obtain ⟨z0, z1, z2, z3, z4, f0, f1, f2, f3, f4⟩ := node_facts HG2'.out
      obtain ⟨p1, p2, p3⟩ := put_node HG2'.out (.int .u32 (X : Int)) (.int .u32 (Y : Int)) (.int .i64 L) (.slice ro n rcap) (.slice none 0 0)
      have HP1 : Hid _ := p1
      have HP3 : Hid (Below w.heap.size w _) := HB2.out.trans ((b1.mono (Nat.le_of_lt HG2s.out)).trans p3)
      have HN : Hid (NodeAt (fun b => w.heap.size ≤ b) (d + 1) (((((W3.setCell ⟨w.heap.size, 0, none⟩ (.int .u32 (X : Int))).setCell ⟨w.heap.size, 1, none⟩ (.int .u32 (Y : Int))).setCell ⟨w.heap.size, 2, none⟩ (.int .i64 L)).setCell ⟨w.heap.size, 3, none⟩ (.slice ro n rcap)).setCell ⟨w.heap.size, 4, none⟩ (.slice none 0 0)) ⟨X, Y, lev l, ro, n, rcap, none, 0, 0⟩ l) := by
        refine (?_ : NodeAt (fun b => w.heap.size ≤ b) (d + 1) _ _ l)
        refine ⟨HX.out.symm, HY.out.symm, rfl, fun _ => ⟨hn.symm, ?_, fun _ b off e => ?_, rfl, Sl.nil 5 _⟩, fun h => by rw [HLf.out] at h; cases h⟩
        · refine Sl.same sl (by simp [World.setCell]) fun b off e _ => p2 b ?_
          have hbb : W2.heap.size ≤ b := (own_base o1 (by have e' : ro = some ⟨b, off, none⟩ := e; rw [e']; rfl)).1
          have := HG2s.out; omega
        · have hbb : W2.heap.size ≤ b := (own_base o1 (by have e' : ro = some ⟨b, off, none⟩ := e; rw [e']; rfl)).1
          have := HG2s.out; omega
      replace HSW : Hid (CelS g3 X Y L (((((W3.setCell ⟨w.heap.size, 0, none⟩ (.int .u32 (X : Int))).setCell ⟨w.heap.size, 1, none⟩ (.int .u32 (Y : Int))).setCell ⟨w.heap.size, 2, none⟩ (.int .i64 L)).setCell ⟨w.heap.size, 3, none⟩ (.slice ro n rcap)).setCell ⟨w.heap.size, 4, none⟩ (.slice none 0 0))) := cels_same HSW.out (p2 g3 HG32.out)
      clear p1 p2 p3 b1 o1 sl
      refine readyH 4 _ (by kernel_rfl) rfl (by kernel_rfl) (fun K hK => ?_)
      go_simp
      refine hK _ _ HSW.out ?_
      clear hK K
      refine wpAnyH_done (by kernel_rfl) ?_ _
      go_wp2_with fail
      refine bodyPost_ret (results_node rfl _ _ _ _ _ _ _ _ rfl HP1.out) rfl ⟨⟨X, Y, lev l, ro, n, rcap, none, 0, 0⟩, ?_, HN.out, HP3.out⟩
      rw [← HL.out]

    · have q1 : decide ((l.length : Int) ≤ 4) = false := decide_eq_false (by omega)
      have q2 : (L == 0) = true := by
        rw [beq_iff_eq, ← hL]
        unfold leaf at hlf
        rw [decide_eq_true_iff] at hlf
        omega
      clear hlf h4

      clear hr HHR hX hY hL
      go_enter Try.func33, Try.ntmps33
      go_wp2_with fail
      refine Calls.mono HC.out ?_
      rintro e W1 ⟨rfl, b1⟩
      have HG2a := (b1.block _ (by simp)).trans HG2n.out
      have hs1 : w.heap.size < W1.heap.size := by have := b1.size; simp at this; omega
      have HB2 : Hid (Below w.heap.size w (W1.alloc (.cells #[.int .u32 (X : Int), .int .u32 (Y : Int), .int .i64 L] 30))) := (HBn.out.trans (b1.mono (by simp))).trans ((below_new W1 _).mono (by omega))
      have HG2 : Hid ((W1.alloc (.cells #[.int .u32 (X : Int), .int .u32 (Y : Int), .int .i64 L] 30)).heap[w.heap.size]? = some (.cells #[.int .u32 0, .int .u32 0, .int .i64 0, .slice none 0 0, .slice none 0 0] 33 (0, 0))) := ((below_new W1 _).block _ hs1).trans HG2a
      have HG3 : Hid ((W1.alloc (.cells #[.int .u32 (X : Int), .int .u32 (Y : Int), .int .i64 L] 30)).heap[W1.heap.size]? = some (.cells #[.int .u32 (X : Int), .int .u32 (Y : Int), .int .i64 L] 30 (0, 0))) := heap_alloc_new W1 _
      clear b1 HG2a
      go_wp2_with fail
      have HG2s : Hid (w.heap.size < (W1.alloc (.cells #[.int .u32 (X : Int), .int .u32 (Y : Int), .int .i64 L] 30)).heap.size) := (Array.getElem?_eq_some_iff.1 HG2.out).1
      have HG3s : Hid (W1.heap.size < (W1.alloc (.cells #[.int .u32 (X : Int), .int .u32 (Y : Int), .int .i64 L] 30)).heap.size) := (Array.getElem?_eq_some_iff.1 HG3.out).1
      have HG32 : Hid (W1.heap.size ≠ w.heap.size) := Nat.ne_of_gt hs1
      obtain ⟨g3, hg3⟩ : ∃ g3, W1.heap.size = g3 := ⟨_, rfl⟩
      obtain ⟨W2, hW2⟩ : ∃ W2, W1.alloc (.cells #[.int .u32 (X : Int), .int .u32 (Y : Int), .int .i64 L] 30) = W2 := ⟨_, rfl⟩
      rw [hW2] at HB2 HG2 HG3 HG2s HG3s ⊢
      rw [hg3] at HG3 HG3s HG32 ⊢
      clear hW2 hg3 hs1 HC HG2n HBn
      obtain ⟨t0, t1, t2⟩ := Cel.cells HG3.out
      go_wp2_with fail

      have HSW : Hid (CelS g3 X Y L W2.drew) := Cel.cells HG3.out
      have HRW : Hid (RowsAt W2 o cap l) := HR.out.below HB2.out (Nat.le_refl _)
      clear t0 t1 t2
      refine wp_region_held (S := CelS g3 X Y L) (by kernel_rfl) ?_
      change wpAnyH _ _ _ _ _ _ _ _ (World.drew _)
      refine wpAnyH_take (i := 0) (v := ?_) rfl (by kernel_rfl) (by kernel_rfl) (by kernel_rfl) (fun _ _ _ h => h) (Or.inl ⟨by kernel_rfl, ?_⟩) HSW.out ?_
      rotate_left
      · intro w hS
        obtain ⟨e1, e2, e3⟩ := hS
        go_simp
        try with_reducible rfl
      conv in (Act.put _ _ _) => simp only [List.getElem_toArray, List.getElem_cons_succ, List.getElem_cons_zero, Act.put, List.setIfInBounds_toArray, List.set_cons_succ, List.set_cons_zero]
      refine wpAnyH_take (i := 1) (v := ?_) rfl (by kernel_rfl) (by kernel_rfl) (by kernel_rfl) (fun _ _ _ h => h) (Or.inl ⟨by kernel_rfl, ?_⟩) HSW.out ?_
      rotate_left
      · intro w hS
        obtain ⟨e1, e2, e3⟩ := hS
        go_simp
        try with_reducible rfl
      conv in (Act.put _ _ _) => simp only [List.getElem_toArray, List.getElem_cons_succ, List.getElem_cons_zero, Act.put, List.setIfInBounds_toArray, List.set_cons_succ, List.set_cons_zero]
      refine readyH 2 _ (by kernel_rfl) rfl (by kernel_rfl) (fun K hK => ?_)
      go_simp
      refine (HCl.out W2.drew (Sl.below HRW.out ((Below.refl _ W2).drew) (Nat.le_refl _))).mono ?_
      rintro e W3 ⟨v, rfl, o1, b1⟩
      replace b1 : Below W2.heap.size W2 W3 := (Below.refl _ W2).drew.trans b1
      replace HSW : Hid (CelS g3 X Y L W3) := CelS.below (Cel.cells HG3.out) b1 HG3s.out
      have HG2' : Hid (W3.heap[w.heap.size]? = some (.cells #[.int .u32 0, .int .u32 0, .int .i64 0, .slice none 0 0, .slice none 0 0] 33 (0, 0))) := (b1.block _ HG2s.out).trans HG2.out
      refine hK _ _ HSW.out ?_
      clear hK K
      obtain ⟨ro, rcap, rfl, sl⟩ := sl_of_own o1
      obtain ⟨n, hn⟩ : ∃ n, l.length = n := ⟨_, rfl⟩
      rw [hn]
      refine wpAnyH_take (i := 3) (v := ?_) rfl (by kernel_rfl) (by kernel_rfl) (by kernel_rfl) (fun _ _ _ h => h) (Or.inl ⟨by kernel_rfl, ?_⟩) HSW.out ?_
      rotate_left
      · intro w hS
        obtain ⟨e1, e2, e3⟩ := hS
        go_simp
        try with_reducible rfl
      conv in (Act.put _ _ _) => simp only [List.getElem_toArray, List.getElem_cons_succ, List.getElem_cons_zero, Act.put, List.setIfInBounds_toArray, List.set_cons_succ, List.set_cons_zero]
      obtain ⟨z0, z1, z2, z3, z4, f0, f1, f2, f3, f4⟩ := node_facts HG2'.out
      obtain ⟨p1, p2, p3⟩ := put_node HG2'.out (.int .u32 (X : Int)) (.int .u32 (Y : Int)) (.int .i64 L) (.slice ro n rcap) (.slice none 0 0)
      have HP1 : Hid _ := p1
      have HP3 : Hid (Below w.heap.size w _) := HB2.out.trans ((b1.mono (Nat.le_of_lt HG2s.out)).trans p3)
      have HN : Hid (NodeAt (fun b => w.heap.size ≤ b) (d + 1) (((((W3.setCell ⟨w.heap.size, 0, none⟩ (.int .u32 (X : Int))).setCell ⟨w.heap.size, 1, none⟩ (.int .u32 (Y : Int))).setCell ⟨w.heap.size, 2, none⟩ (.int .i64 L)).setCell ⟨w.heap.size, 3, none⟩ (.slice ro n rcap)).setCell ⟨w.heap.size, 4, none⟩ (.slice none 0 0)) ⟨X, Y, lev l, ro, n, rcap, none, 0, 0⟩ l) := by
        refine (?_ : NodeAt (fun b => w.heap.size ≤ b) (d + 1) _ _ l)
        refine ⟨HX.out.symm, HY.out.symm, rfl, fun _ => ⟨hn.symm, ?_, fun _ b off e => ?_, rfl, Sl.nil 5 _⟩, fun h => by rw [HLf.out] at h; cases h⟩
        · refine Sl.same sl (by simp [World.setCell]) fun b off e _ => p2 b ?_
          have hbb : W2.heap.size ≤ b := (own_base o1 (by have e' : ro = some ⟨b, off, none⟩ := e; rw [e']; rfl)).1
          have := HG2s.out; omega
        · have hbb : W2.heap.size ≤ b := (own_base o1 (by have e' : ro = some ⟨b, off, none⟩ := e; rw [e']; rfl)).1
          have := HG2s.out; omega
      replace HSW : Hid (CelS g3 X Y L (((((W3.setCell ⟨w.heap.size, 0, none⟩ (.int .u32 (X : Int))).setCell ⟨w.heap.size, 1, none⟩ (.int .u32 (Y : Int))).setCell ⟨w.heap.size, 2, none⟩ (.int .i64 L)).setCell ⟨w.heap.size, 3, none⟩ (.slice ro n rcap)).setCell ⟨w.heap.size, 4, none⟩ (.slice none 0 0))) := cels_same HSW.out (p2 g3 HG32.out)
      clear p1 p2 p3 b1 o1 sl
      refine readyH 4 _ (by kernel_rfl) rfl (by kernel_rfl) (fun K hK => ?_)
      go_simp
      refine hK _ _ HSW.out ?_
      clear hK K
      refine wpAnyH_done (by kernel_rfl) ?_ _
      go_wp2_with fail
      refine bodyPost_ret (results_node rfl _ _ _ _ _ _ _ _ rfl HP1.out) rfl ⟨⟨X, Y, lev l, ro, n, rcap, none, 0, 0⟩, ?_, HN.out, HP3.out⟩
      rw [← HL.out]

end Go.Proofs.Ytaiiclkfnahghaa.Rq
