/- The first sixty rows; a tree that is known. -/
import Derived.Test.YtaiiclkfnahghaaQGG
namespace Go.Proofs.Ytaiiclkfnahghaa.Rq
open Go.RowKit Go.Lib Go.Shelf
open Go.Proofs.Ytaiiclkfnahghaa.Rc
set_option maxRecDepth 100000 in
theorem list_min {P : Program} {ops : Array Oper} {rest : List Oper} {o : Oper} {a : Act} {w : World} {Q : Exit → Act → World → Prop} (hgd : o.guard = none) (t u : TypeId) (x y : Operand) (ho : o.op = .call { callee := .builtin .min, args := #[x, y], argTypes := #[t, u] })
    {p q r : Int} (hx : a.eval x = .int .i64 p) (hy : a.eval y = .int .i64 q) (hr : (if q < p then q else p) = r) (h : wpList P ops Q rest (a.put o.dst (.int .i64 r)) w) : wpList P ops Q (o :: rest) a w :=
  wpList_plain hgd fun _ hK => by
    have hrun : (Builtin.min_ #[t, u] o.type #[.int .i64 p, .int .i64 q]).run P w = .ok (.int .i64 r) w := by subst hr; rfl
    unfold Oper.wp execOp
    simp only [ho, resolve, invoke, builtin, Sem.run_bind, Sem.run_pure, Result.andThen_ok, List.map_toArray, List.map_cons, List.map_nil, hx, hy, hrun]
    exact hK _ _ h
set_option maxRecDepth 100000 in
/-- A slice of rows cut at its end, by its run. -/
theorem run_head (o : Option Addr) (n cap r : Nat) (w : World) (hr : r ≤ cap) (ho : o = none → cap = 0) : (Instr.sliceAt 22 (.slice o n cap) none (some (.int .i64 (r : Int))) none).run Try.prog w = .ok (.slice o r cap) w := by
  have h1 : (r : Int) ≤ (cap : Int) := by omega
  cases o with
  | none =>
    have := ho rfl
    subst this
    obtain rfl : r = 0 := by omega
    simp [Instr.sliceAt, Instr.slice, run_underlying Try.underlying22, go_sem]
  | some a =>
    simp [Instr.sliceAt, Instr.slice, run_underlying Try.underlying22, go_sem]
    intro h
    omega
set_option maxRecDepth 100000 in
theorem RowsAt.head {w : World} {o : Option Addr} {cap : Nat} {l : List Rw} (h : RowsAt w o cap l) (n : Nat) : RowsAt w o cap (l.take n) := by
  have hle : (l.take n).length ≤ l.length := by rw [List.length_take]; omega
  refine ⟨Nat.le_trans hle h.1, h.2.1, h.2.2.1, flat_len rc 4 (fun _ => rfl) _, fun hn => ?_⟩
  obtain ⟨b, off, e, hlt, hc⟩ := h.2.2.2.2 (by omega)
  refine ⟨b, off, e, hlt, fun j u hu => hc j u ?_⟩
  have : l.flatMap rc = (l.take n).flatMap rc ++ (l.drop n).flatMap rc := by rw [← List.flatMap_append, List.take_append_drop]
  rw [this, List.getElem?_append_left (List.getElem?_eq_some_iff.1 hu).1]
  exact hu
set_option maxRecDepth 100000 in
set_option maxHeartbeats 1000000 in
theorem few_any (l : List Rw) (o : Option Addr) (cap : Nat) (w : World) (hr : RowsAt w o cap l) :
    Calls Try.prog 12 #[.slice o l.length cap] w fun e w' => e = .returned (.slice o (l.take 60).length cap) ∧ w' = w := by
  obtain ⟨m, hm⟩ : ∃ m, (l.take 60).length = m := ⟨_, rfl⟩
  have hm2 : m = min 60 l.length := by rw [← hm, List.length_take]
  rw [hm]
  have hc := hr.1
  have hmin : (if (60 : Int) < (l.length : Int) then (60 : Int) else (l.length : Int)) = (m : Int) := by split <;> omega
  have hrun := fun w => run_head o l.length cap m w (by omega) hr.2.2.1
  clear hr hm hm2 hc
  go_enter Try.func12, Try.ntmps12
  go_wp2_with (refine list_min rfl 3 3 (.tmp 5) (.const (.int .i64 60)) rfl rfl rfl hmin ?_)
  go_ret
  exact ⟨rfl, rfl⟩
/-- Five rows at one point, and one elsewhere. -/
def exr (k : Nat) : List Rw := (List.range k).map fun i => ⟨i, 0, 0, ⟨#[]⟩⟩
def exl : List Rw := exr 5 ++ [⟨9, 8, 0, ⟨#[]⟩⟩]
set_option maxRecDepth 100000 in
theorem exr_succ (k : Nat) : exr (k + 1) = exr k ++ [⟨k, 0, 0, ⟨#[]⟩⟩] := by unfold exr; rw [List.range_succ, List.map_append]; rfl
set_option maxRecDepth 100000 in
theorem ex_right : rightL exl = true := by decide
set_option maxRecDepth 100000 in
theorem ex_leaf : leaf exl = false := by decide
set_option maxRecDepth 100000 in
theorem ex_kids : kidsL exl = [exr 5, [⟨9, 8, 0, ⟨#[]⟩⟩]] := by rfl
set_option maxRecDepth 100000 in
theorem ex_cell : cx exl = 0 ∧ cy exl = 0 ∧ lev exl = 4 := by decide
set_option maxRecDepth 100000 in
theorem ex_leaf1 : leaf (exr 5) = true := by decide
set_option maxRecDepth 100000 in
theorem ex_leaf2 : leaf [⟨9, 8, 0, ⟨#[]⟩⟩] = true := by decide
set_option maxRecDepth 100000 in
/-- What is known of the tree. -/
theorem ex_node {G : Nat → Prop} {w : World} {n : Nv} (h : NodeAt G 32 w n exl) : n.X = 0 ∧ n.Y = 0 ∧ n.L = 4 ∧ n.rn = 0 ∧ n.kn = 2 ∧ ∃ b off r0 c0 r1 c1, n.ko = some ⟨b, off, none⟩ ∧ b < w.heap.size ∧ w.cell? ⟨b, off + 3, none⟩ = some (.slice r0 5 c0) ∧ w.cell? ⟨b, off + 5 + 3, none⟩ = some (.slice r1 1 c1) := by
  obtain ⟨h1, h2, h3, _, h5⟩ := h
  obtain ⟨a, b, ks, c, e, f, f', g⟩ := h5 ex_leaf
  rw [ex_cell.1] at h1; rw [ex_cell.2.1] at h2; rw [ex_cell.2.2] at h3
  have ek := ex_kids
  have e2 : ks.length = 2 := by rw [e, ek]; rfl
  refine ⟨h1, h2, h3, a, c.trans e2, ?_⟩
  obtain ⟨b', off, eo, hlt, hc⟩ := f.node (by omega)
  have g0 := g 0 (by omega) (by rw [ek]; decide)
  have g1 := g 1 (by omega) (by rw [ek]; decide)
  have x0 := hc 0 (by omega)
  have x1 := hc 1 (by omega)
  have k0 : (kidsL exl)[0]'(by rw [ek]; decide) = exr 5 := by simp only [ek]; rfl
  have k1 : (kidsL exl)[1]'(by rw [ek]; decide) = [⟨9, 8, 0, ⟨#[]⟩⟩] := by simp only [ek]; rfl
  rw [k0] at g0; rw [k1] at g1
  have y0 := (g0.2.2.2.1 ex_leaf1).1
  have y1 := (g1.2.2.2.1 ex_leaf2).1
  refine ⟨b', off, ks[0].ro, ks[0].rc, ks[1].ro, ks[1].rc, eo, hlt, ?_, ?_⟩
  · have := x0.2.2.2.1
    rw [y0] at this
    rw [show off + 0 * 5 + 3 = off + 3 by omega] at this
    exact this
  · have := x1.2.2.2.1
    rw [y1] at this
    rw [show off + 1 * 5 + 3 = off + 5 + 3 by omega] at this
    exact this
set_option maxRecDepth 100000 in
set_option maxHeartbeats 4000000 in
theorem shown_any (w : World) : Calls Try.prog 11 #[] w fun e w' => e = .returned (.bool true) ∧ Below w.heap.size w w' := by
  go_enter Try.func11, Try.ntmps11
  go_wp2_with fail
  go_loopw [1, 2] (fun v i wr => ∃ k : Nat, k ≤ 5 ∧ i = .int .i64 (k : Int) ∧ wr.ownsRow w.heap.size 26 4 v k ((exr k).flatMap rc) ∧ Below w.heap.size w wr) (fun _ i _ => 5 - natOf i)
  case atStart => exact ⟨0, by omega, rfl, World.ownsRow_nil _ _ _ _, Below.refl _ _⟩
  case round =>
    obtain ⟨k, hk, rfl, ho, hb⟩ := hrel
    by_cases hlt : k < 5
    · have q1 : (k : Int) < 5 := by omega
      have k0 : (0 : Int) ≤ (k : Int) := by omega
      have k1 : (k : Int) + 1 ≤ 9223372036854775807 := by omega
      have hcv : IntKind.u64.wrap (k : Int) = (k : Int) := u64_in _ (by omega)
      have hbn := below_new wr (.cells #[.int .u64 (k : Int), .int .u32 0, .int .u32 0, .string ⟨#[]⟩] 26)
      obtain ⟨v', W', hrun, a1, a2, a3⟩ := append_sl 22 26 Try.underlying22 infoRow rfl (by decide) (by decide) (wr.alloc (.cells #[.int .u64 (k : Int), .int .u32 0, .int .u32 0, .string ⟨#[]⟩] 26)) w.heap.size k 1 u1 (some ⟨wr.heap.size, 0, none⟩) 1
        ((exr k).flatMap rc) (rc ⟨k, 0, 0, ⟨#[]⟩⟩) (own_same ho fun b _ hb' => hbn.block b hb') (by have := hb.size; simp; omega) (one_row (r := ⟨k, 0, 0, ⟨#[]⟩⟩) (heap_alloc_new wr _)) (rc_one' _) (by omega)
      have HO : Hid (W'.ownsRow w.heap.size 26 4 v' (k + 1) ((exr (k + 1)).flatMap rc)) := by
        refine (?_ : W'.ownsRow w.heap.size 26 4 v' (k + 1) ((exr (k + 1)).flatMap rc))
        rw [exr_succ, List.flatMap_append]
        simpa using a1
      have HB : Hid (Below w.heap.size w W') := (hb.trans (hbn.mono hb.size)).grown a2 (by have := hb.size; simp; omega) fun b eb => (own_base ho eb).1
      clear a1 a2 a3 hbn ho hb
      go_wp2_with (at_builtin; refine list_append rfl 22 22 (.tmp 9) (.tmp 13) rfl (vs := u1) (vx := .slice (some ⟨wr.heap.size, 0, none⟩) 1 1) rfl rfl hrun ?_)
      go_roundw
      case rel => exact ⟨k + 1, by omega, by go_num, HO.out, HB.out⟩
      case measure => simp [natOf]; omega
    · obtain rfl : k = 5 := by omega
      have q1 : ¬ ((5 : Nat) : Int) < 5 := by omega
      have hbn := below_new wr (.cells #[.int .u64 9, .int .u32 8, .int .u32 0, .string ⟨#[]⟩] 26)
      obtain ⟨v', W', hrun, a1, a2, a3⟩ := append_sl 22 26 Try.underlying22 infoRow rfl (by decide) (by decide) (wr.alloc (.cells #[.int .u64 9, .int .u32 8, .int .u32 0, .string ⟨#[]⟩] 26)) w.heap.size 5 1 u1 (some ⟨wr.heap.size, 0, none⟩) 1
        ((exr 5).flatMap rc) (rc ⟨9, 8, 0, ⟨#[]⟩⟩) (own_same ho fun b _ hb' => hbn.block b hb') (by have := hb.size; simp; omega) (one_row (r := ⟨9, 8, 0, ⟨#[]⟩⟩) (heap_alloc_new wr _)) (rc_one' _) (by omega)
      have HB : Hid (Below w.heap.size w W') := (hb.trans (hbn.mono hb.size)).grown a2 (by have := hb.size; simp; omega) fun b eb => (own_base ho eb).1
      obtain ⟨ov, cv', rfl, sl⟩ := sl_of_own a1
      have hR : RowsAt W' ov cv' exl := by
        have : exl.flatMap rc = (exr 5).flatMap rc ++ rc ⟨9, 8, 0, ⟨#[]⟩⟩ := by unfold exl; rw [List.flatMap_append]; simp
        unfold RowsAt
        rw [this]
        exact sl
      have HC := build_ok exl ov cv' W' hR ex_right
      rw [show exl.length = 6 from rfl] at HC
      replace HC : Hid _ := HC
      rw [show 5 + 1 = 6 from rfl] at hrun
      clear a1 a2 a3 hbn ho hb sl hR
      go_wp2_with (at_builtin; refine list_append rfl 22 22 (.tmp 16) (.tmp 18) rfl (vs := u1) (vx := .slice (some ⟨wr.heap.size, 0, none⟩) 1 1) rfl rfl hrun ?_)
      refine Calls.mono HC.out ?_
      rintro e W2 ⟨n, rfl, hn, b2⟩
      have HN : Hid _ := ex_node hn
      clear hn
      obtain ⟨e1, e2, e3, e4, e5, b, off, r0, c0, r1, c1, e6, hb', x0, x1⟩ := HN.out
      obtain ⟨nX, nY, nL, nro, nrn, nrc, nko, nkn, nkc⟩ := n
      simp only at e1 e2 e3 e4 e5 e6
      subst e1 e2 e3 e4 e5 e6
      have HB2 : Hid (Below w.heap.size w W2) := HB.out.trans (b2.mono HB.out.size)
      clear b2 HC HN
      go_wp2_with fail
      go_ret
      exact ⟨rfl, HB2.out.trans ((below_new W2 _).mono HB2.out.size)⟩
end Go.Proofs.Ytaiiclkfnahghaa.Rq
/- Kids and their quarters, in plain terms. -/
namespace Go.Proofs.Ytaiiclkfnahghaa.Rq
open Go.Proofs.Ytaiiclkfnahghaa.Rc
theorem flr_div (a : Nat) {k n : Nat} (h : k ≤ n) : flr a k / 2 ^ n = a / 2 ^ n := by
  obtain ⟨m, rfl⟩ := Nat.le.dest h
  unfold flr
  rw [Nat.pow_add, ← Nat.div_div_eq_div_mul, Nat.mul_div_cancel _ (Nat.two_pow_pos k), Nat.div_div_eq_div_mul]
theorem flr_flr (a : Nat) {k n : Nat} (h : k ≤ n) : flr (flr a k) n = flr a n := by
  unfold flr
  have := flr_div a h
  unfold flr at this
  rw [this]
/-- The quarters that have rows. -/
def qs (l : List Rw) : List Nat := [0, 1, 2, 3].filter fun q => !(part l q).isEmpty
theorem kids_qs (l : List Rw) : kidsL l = (qs l).map (part l) := by
  unfold kidsL qs
  rw [List.filter_map]
  rfl
theorem qs_lt {l : List Rw} {q : Nat} (h : q ∈ qs l) : q < 4 ∧ part l q ≠ [] := by
  unfold qs at h
  rw [List.mem_filter] at h
  refine ⟨?_, fun e => by rw [e] at h; simp at h⟩
  have := h.1
  simp at this
  omega
theorem qs_rise (l : List Rw) : (qs l).Pairwise (· < ·) := List.Pairwise.filter _ (by decide)
theorem qs_len (l : List Rw) : (qs l).length = (kidsL l).length := by rw [kids_qs]; simp
/-- The quarter of a kid. -/
def qat (l : List Rw) (i : Nat) : Nat := (qs l).getD i 0
theorem kid_part {l : List Rw} {i : Nat} (h : i < (kidsL l).length) : (kidsL l)[i] = part l (qat l i) ∧ qat l i < 4 ∧ part l (qat l i) ≠ [] := by
  have hq : i < (qs l).length := by rw [qs_len]; exact h
  have e : qat l i = (qs l)[i] := by unfold qat; rw [List.getD_eq_getElem?_getD, List.getElem?_eq_getElem hq]; rfl
  have m : qat l i ∈ qs l := by rw [e]; exact List.getElem_mem hq
  refine ⟨?_, (qs_lt m).1, (qs_lt m).2⟩
  have : (kidsL l)[i] = ((qs l).map (part l))[i]'(by simpa using hq) := by congr 1; exact kids_qs l
  rw [this, List.getElem_map, e]
theorem qat_rise {l : List Rw} {i j : Nat} (hij : i < j) (h : j < (kidsL l).length) : qat l i < qat l j := by
  have hq : j < (qs l).length := by rw [qs_len]; exact h
  have ei : qat l i = (qs l)[i] := by unfold qat; rw [List.getD_eq_getElem?_getD, List.getElem?_eq_getElem (by omega)]; rfl
  have ej : qat l j = (qs l)[j] := by unfold qat; rw [List.getD_eq_getElem?_getD, List.getElem?_eq_getElem hq]; rfl
  rw [ei, ej]
  exact (List.pairwise_iff_getElem.1 (qs_rise l)) i j (by omega) hq hij
theorem kid_has {l : List Rw} (h : On l) {n : Nat} (hn : lev l = n + 1) {q : Nat} (hp : part l q ≠ []) :
    hasS (cx l) (cy l) (lev l : Int) (cx (part l q)) (cy (part l q)) = true ∧ wq n (cx (part l q)) (cy (part l q)) = q := by
  obtain ⟨r, hr, e1, e2⟩ := x0_mem hp
  have hk := lev_part h hn q
  have hm := mem_part.1 hr
  have hh := lev_has h hm.1
  have f1 : cx (part l q) = flr r.x (lev (part l q)) := by unfold cx; rw [e1]
  have f2 : cy (part l q) = flr r.y (lev (part l q)) := by unfold cy; rw [e2]
  constructor
  · unfold hasS at hh ⊢
    rw [decide_eq_true_iff, Int.toNat_natCast] at hh
    rw [decide_eq_true_iff, Int.toNat_natCast, f1, f2, flr_flr _ (by omega), flr_flr _ (by omega)]
    exact hh
  · have := hm.2
    rw [hn, Nat.add_sub_cancel] at this
    unfold wq at this ⊢
    rw [f1, f2, flr_div _ hk, flr_div _ hk]
    exact this
theorem kid_wher {l : List Rw} (h : On l) {n : Nat} (hn : lev l = n + 1) {q : Nat} (hp : part l q ≠ []) : wher (cx l) (cy l) (lev l : Int) (cx (part l q)) (cy (part l q)) = (q, 0) := by
  obtain ⟨a, b⟩ := kid_has h hn hp
  unfold wher
  rw [if_pos ⟨a, by omega⟩, hn, show (((n + 1 : Nat) : Int) - 1).toNat = n by omega, b]
theorem cnt_len : ∀ (d : Nat) (l : List Rw), On l → cnt d l ≤ 2 * l.length + 1 := fun d l h => by
  cases l with
  | nil =>
    cases d with
    | zero => decide
    | succ d => rw [cnt, if_pos leaf_nil]; omega
  | cons r t => have := cnt_le d (r :: t) h (by simp); omega
/-- How many nodes the first kids have. -/
def cntTo (d : Nat) (l : List Rw) (i : Nat) : Nat := (((kidsL l).take i).map (cnt d)).sum
theorem cntTo_next (d : Nat) (l : List Rw) (i : Nat) (h : i < (kidsL l).length) : cntTo d l (i + 1) = cntTo d l i + cnt d (kidsL l)[i] := by
  unfold cntTo
  rw [List.take_add_one, List.getElem?_eq_getElem h, List.map_append, List.sum_append]
  simp
theorem cntTo_le (d : Nat) (l : List Rw) (h : On l) (i : Nat) : cntTo d l i ≤ 2 * l.length := by
  have key : ∀ (ks : List (List Rw)), (∀ m ∈ ks, cnt d m + 1 ≤ 2 * m.length) → (ks.map (cnt d)).sum + ks.length ≤ 2 * (ks.map List.length).sum := by
    intro ks
    induction ks with
    | nil => intro _; simp
    | cons m t ih =>
      intro hm
      have a := hm m (by simp); have b := ih fun k hk => hm k (by simp [hk])
      simp only [List.map_cons, List.sum_cons, List.length_cons]
      omega
  have h1 := key ((kidsL l).take i) fun m hm => by
    have hm' := List.mem_of_mem_take hm
    exact cnt_le d m (h.kid hm') (mem_kids hm').1
  have h2 := kids_sum l
  have h3 : (((kidsL l).take i).map List.length).sum ≤ ((kidsL l).map List.length).sum := by
    have e : (kidsL l).map List.length = ((kidsL l).take i).map List.length ++ ((kidsL l).drop i).map List.length := by rw [← List.map_append, List.take_append_drop]
    rw [e, List.sum_append]
    omega
  unfold cntTo
  omega
end Go.Proofs.Ytaiiclkfnahghaa.Rq
