/- Which rows are come to, of lists. -/
import Derived.Test.YtaiiclkfnahghaaQJE
namespace Go.Proofs.Ytaiiclkfnahghaa.Rq
open Go.RowKit Go.Lib Go.Shelf
open Go.Proofs.Ytaiiclkfnahghaa.Rc
/-- Deep enough. -/
def Fits : Nat → List Rw → Prop
  | 0, _ => False
  | d + 1, l => leaf l = true ∨ ∀ m ∈ kidsL l, Fits d m
theorem NodeAt.fits {G : Nat → Prop} : ∀ {d : Nat} {w : World} {n : Nv} {l : List Rw}, NodeAt G d w n l → Fits d l
  | 0, _, _, _, h => h
  | d + 1, w, n, l, h => by
    cases hl : leaf l
    · obtain ⟨-, -, -, -, h5⟩ := h
      obtain ⟨-, -, ks, -, hk, -, -, hi⟩ := h5 hl
      refine .inr fun m hm => ?_
      obtain ⟨i, hi2, rfl⟩ := List.getElem_of_mem hm
      exact NodeAt.fits (hi i (by omega) hi2)
    · exact .inl hl
theorem vis_on (p : Nat → Nat → Nat → Bool) : ∀ (d : Nat) (l : List Rw) (b : Nat), On l → l.length ≤ b → ∀ m ∈ vis p d l, On m ∧ m.length ≤ b
  | 0, _, _, _, _, m, hm => by simp [vis] at hm
  | d + 1, l, b, ho, hb, m, hm => by
    unfold vis at hm
    split at hm
    · rcases List.mem_cons.1 hm with rfl | hm
      · exact ⟨ho, hb⟩
      · obtain ⟨k, hk, hm⟩ := List.mem_flatMap.1 hm
        unfold sub at hk
        split at hk
        · simp at hk
        · obtain ⟨-, q, -, rfl⟩ := mem_kids hk
          exact vis_on p d _ b (ho.part q) (Nat.le_trans (part_sub l q) hb) m hm
    · simp at hm
theorem visL_one (p : Nat → Nat → Nat → Bool) (d : Nat) (l : List Rw) : visL p d [l] = vis p d l := by simp [visL]
theorem seqs_cons (kp : Rw → Bool) (m : List Rw) (vs : List (List Rw)) : seqs kp (m :: vs) = (rowsOf m).filter kp ++ seqs kp vs := by simp [seqs]
theorem seqs_flat (kp : Rw → Bool) (f : List Rw → List (List Rw)) (ls : List (List Rw)) : seqs kp (ls.flatMap f) = ls.flatMap fun m => seqs kp (f m) := by
  unfold seqs; rw [List.flatMap_assoc]
theorem flat_perm {f g : List Rw → List Rw} : ∀ (ls : List (List Rw)), (∀ m ∈ ls, (f m).Perm (g m)) → (ls.flatMap f).Perm (ls.flatMap g)
  | [], _ => List.Perm.refl _
  | m :: ls, h => by
    rw [List.flatMap_cons, List.flatMap_cons]
    exact (h m (by simp)).append (flat_perm ls fun k hk => h k (by simp [hk]))
theorem kids_perm (l : List Rw) : ((kidsL l).flatMap fun m => m).Perm l := by
  rw [kids_flat (fun m => m) rfl l]; exact parts_perm l
theorem seqs_perm (p : Nat → Nat → Nat → Bool) (kp : Rw → Bool) (hp : ∀ m : List Rw, m ≠ [] → On m → p (cx m) (cy m) (lev m) = false → m.filter kp = []) : ∀ (d : Nat) (l : List Rw), Fits d l → On l → (seqs kp (vis p d l)).Perm (l.filter kp)
  | 0, _, h, _ => h.elim
  | d + 1, l, h, ho => by
    cases hq : p (cx l) (cy l) (lev l)
    · rw [show vis p (d + 1) l = [] by unfold vis; rw [if_neg (by rw [hq]; simp)]]
      by_cases hl : l = []
      · subst hl; exact List.Perm.refl _
      · rw [hp l hl ho hq]; exact List.Perm.refl _
    · rw [show vis p (d + 1) l = l :: (sub l).flatMap (vis p d) by unfold vis; rw [if_pos hq], seqs_cons]
      cases hf : leaf l
      · rw [show rowsOf l = [] by unfold rowsOf; rw [if_neg (by rw [hf]; simp)], show sub l = kidsL l by unfold sub; rw [if_neg (by rw [hf]; simp)], List.filter_nil, List.nil_append, seqs_flat]
        have hk : ∀ m ∈ kidsL l, (seqs kp (vis p d m)).Perm (m.filter kp) := fun m hm => by
          obtain ⟨-, q, -, e⟩ := mem_kids hm
          rcases h with h | h
          · rw [hf] at h; simp at h
          · exact seqs_perm p kp hp d m (h m hm) (by rw [e]; exact ho.part q)
        refine (flat_perm _ hk).trans ?_
        rw [← List.filter_flatMap]
        exact (kids_perm l).filter kp
      · rw [show rowsOf l = l by unfold rowsOf; rw [if_pos hf], show sub l = [] by unfold sub; rw [if_pos hf]]
        simp [seqs]
end Go.Proofs.Ytaiiclkfnahghaa.Rq
/- What the tests leave out; the rows of a tree as one promise. -/
namespace Go.Proofs.Ytaiiclkfnahghaa.Rq
open Go.RowKit Go.Lib Go.Shelf
open Go.Proofs.Ytaiiclkfnahghaa.Rc
theorem box_all (a b c d : Nat) (m : List Rw) (_ : m ≠ []) (ho : On m) (h : touchS (cx m) (cy m) (lev m : Int) a b c d = false) : (m.filter fun r => inS a b c d r.x r.y) = [] := by
  refine List.filter_eq_nil_iff.2 fun r hr e => ?_
  have := touch_of e (lev_has ho hr)
  rw [h] at this
  simp at this
theorem dist_two (a b x y : Nat) : Rq.dist a b x y = Rc.dist x a * Rc.dist x a + Rc.dist y b * Rc.dist y b := by
  have h : ∀ u z : Nat, ((u : Int) - (z : Int)).natAbs = Rc.dist z u := fun u z => by unfold Rc.dist; omega
  unfold Rq.dist
  rw [h, h]
theorem round_all (x y s : Nat) (hxy : onS x y = true) (m : List Rw) (_ : m ≠ []) (ho : On m) (h : decide ((fars (cx m) (cy m) (lev m : Int) x y).2 = 0 ∧ (fars (cx m) (cy m) (lev m : Int) x y).1 ≤ s) = false) : (m.filter fun r => decide (Rq.dist r.x r.y x y ≤ s)) = [] := by
  refine List.filter_eq_nil_iff.2 fun r hr e => ?_
  have hh := lev_has ho hr
  have hc := hasS_right hh
  have c := (rightS_nat _ _ _).1 hc
  have hf : fars (cx m) (cy m) (lev m : Int) x y = (farS (cx m) (cy m) (lev m) x y, 0) := by unfold fars; rw [if_pos ⟨hc, hxy⟩, Int.toNat_natCast]
  have h1 := far_le x y c hh
  rw [← dist_two] at h1
  rw [hf] at h
  have h2 := of_decide_eq_true e
  simp at h
  omega
theorem rows_iter (w : World) (p : Nat → Nat → Nat → Bool) (ef : Nat) (eb : Array Value) (kp : Rw → Bool) (kf : Nat) (kb : Array Value) (d : Nat) (n : Nv) (l : List Rw) (hN : NodeAt (fun _ => True) d w n l) (hon : On l) (hmax : l.length ≤ 1000) (w' : World)
    (hw' : w' = ((w.alloc (.cells #[.int .u32 (n.X : Int), .int .u32 (n.Y : Int), .int .i64 (n.L : Int), .slice n.ro n.rn n.rc, .slice n.ko n.kn n.kc] 33)).alloc (.cells #[.func (.func ef) #[] eb] 70)).alloc (.cells #[.func (.func kf) #[] kb] 37)) (hE : Ent w' p ef eb) (hK : Kep w' kp kf kb) :
    Below w.heap.size w w' ∧ RowsIter w' (seqs kp (vis p d l)) 75 #[.pointer (some ⟨w.heap.size + 1, 0, none⟩), .pointer (some ⟨w.heap.size, 0, none⟩), .pointer (some ⟨w.heap.size + 2, 0, none⟩)] := by
  have hb1 := below_new w (.cells #[.int .u32 (n.X : Int), .int .u32 (n.Y : Int), .int .i64 (n.L : Int), .slice n.ro n.rn n.rc, .slice n.ko n.kn n.kc] 33)
  have hg1 := heap_alloc_new w (.cells #[.int .u32 (n.X : Int), .int .u32 (n.Y : Int), .int .i64 (n.L : Int), .slice n.ro n.rn n.rc, .slice n.ko n.kn n.kc] 33)
  have hs1 : (w.alloc (.cells #[.int .u32 (n.X : Int), .int .u32 (n.Y : Int), .int .i64 (n.L : Int), .slice n.ro n.rn n.rc, .slice n.ko n.kn n.kc] 33)).heap.size = w.heap.size + 1 := by simp
  obtain ⟨y1, y2, y3⟩ := two_new (w.alloc (.cells #[.int .u32 (n.X : Int), .int .u32 (n.Y : Int), .int .i64 (n.L : Int), .slice n.ro n.rn n.rc, .slice n.ko n.kn n.kc] 33)) (.cells #[.func (.func ef) #[] eb] 70) (.cells #[.func (.func kf) #[] kb] 37)
  rw [← hw'] at y1 y2 y3
  rw [hs1] at y1 y2 y3
  have hB : Below w.heap.size w w' := hb1.trans (y3.mono (by omega))
  refine ⟨hB, fun W1 hW1 li R Rx own hown hR hRx hY h0 => ?_⟩
  have := rows1_any w' p ef eb hE kp kf kb hK d n l (hN.below hB (Nat.le_refl _)) hon hmax (w.heap.size + 1) w.heap.size (w.heap.size + 2) y1 y2 ((y3.block _ (by omega)).trans hg1) (fun m hm => vis_on p d l 1000 hon hmax m (by rw [visL_one] at hm; exact hm)) W1 hW1 li R Rx own hown hR hRx (by rw [visL_one]; exact hY) h0
  rw [visL_one] at this
  exact this
end Go.Proofs.Ytaiiclkfnahghaa.Rq
/- The rows of a way through them, as one list. -/
namespace Go.Proofs.Ytaiiclkfnahghaa.Rq
open Go.RowKit Go.Lib Go.Shelf
open Go.Proofs.Ytaiiclkfnahghaa.Rc
attribute [local go_sem] Oper.semAt_some
set_option maxRecDepth 100000 in
/-- The built-in append, by its run, inside a fence. -/
theorem opIn_append {F : Fence} {n : Nat} {P : Program} {o : Oper} {a : Act} {w : World} {K : Act → World → Prop} {Q : Exit → Act → World → Prop} (t u : TypeId) (s x : Operand) (ho : o.op = .call { callee := .builtin .append, args := #[s, x], argTypes := #[t, u] })
    {vs vx v' : Value} {w' : World} (hs : a.eval s = vs) (hx : a.eval x = vx) (hrun : (Builtin.append_ #[t, u] o.type #[vs, vx]).run P w = .ok v' w') (hK : K (a.put o.dst v') w') : o.wpIn F n P a w K Q := by
  unfold Oper.wpIn
  refine ⟨?_, ?_⟩
  · simp [Oper.about, ho, resolve, Target.leads]
  · rw [Oper.semAt_plain F _ _ (by rw [ho]; intro c hc; cases hc)]
    simp [execOp, ho, hs, hx, hrun, Result.andThen, resolve, invoke, builtin]
    exact hK
set_option maxRecDepth 100000 in
theorem listIn_append {F : Fence} {n : Nat} {P : Program} {ops : Array Oper} {rest : List Oper} {o : Oper} {a : Act} {w : World} {Q : Exit → Act → World → Prop} (hgd : o.guard = none) (t u : TypeId) (s x : Operand) (ho : o.op = .call { callee := .builtin .append, args := #[s, x], argTypes := #[t, u] })
    {vs vx v' : Value} {w' : World} (hs : a.eval s = vs) (hx : a.eval x = vx) (hrun : (Builtin.append_ #[t, u] o.type #[vs, vx]).run P w = .ok v' w') (h : wpListIn F n P ops Q rest (a.put o.dst v') w') : wpListIn F n P ops Q (o :: rest) a w :=
  wpListIn_plain hgd fun _ hK => opIn_append t u s x ho hs hx hrun (hK _ _ h)
/-- What lies there within the walk. -/
structure AJ (w : World) (rs : List Rw) (own : Nat → Prop) (t : Nat) (W : World) : Prop where
  rows : ∃ v, W.heap[w.heap.size]? = some (.cells #[v] 22 (0, 0)) ∧ W.ownsRow (w.heap.size + 1) 26 4 v t ((rs.take t).flatMap rc) ∧ ∀ b, v.ownBlock = some b → own b
  bel : Below w.heap.size w W
  mine : own w.heap.size
  least : ∀ j, own j → w.heap.size ≤ j
set_option maxRecDepth 100000 in
theorem AJ.kw {w : World} {rs : List Rw} {own : Nat → Prop} {t B : Nat} {W W' : World} (h : AJ w rs own t W) (hk : Kw B own W W') (hB : w.heap.size ≤ B) : AJ w rs own t W' := by
  obtain ⟨v, h1, h2, h3⟩ := h.rows
  exact ⟨⟨v, (hk.block _ (Array.getElem?_eq_some_iff.1 h1).1 (.inr h.mine)).trans h1, own_same h2 fun b hb hlt => hk.block b hlt (.inr (h3 b hb)), h3⟩, h.bel.trans ⟨hk.os, hk.tape, hk.output, hk.size, fun j hj => hk.block j (Nat.lt_of_lt_of_le hj h.bel.size) (.inl (by omega))⟩, h.mine, h.least⟩
set_option maxRecDepth 100000 in
set_option maxHeartbeats 2000000 in
theorem appSeq_any (w0 : World) (rs : List Rw) (gf : Nat) (lb : Array Value) (hit : RowsIter w0 rs gf lb) (heg : ∀ args w, (callFunc gf args).run Try.prog w = .ok (.enter gf args) w) (hmax : rs.length ≤ 1000) (w : World) (hw : Below w0.heap.size w0 w) :
    Calls Try.prog 95 #[.slice none 0 0, .func (.func gf) #[] lb] w fun e w' => ∃ v, e = .returned v ∧ w'.ownsRow w.heap.size 26 4 v rs.length (rs.flatMap rc) ∧ Below w.heap.size w w' := by
  have HIT : Hid (RowsIter w0 rs gf lb) := hit
  have HW : Hid (Below w0.heap.size w0 w) := hw
  have HM : Hid (rs.length ≤ 1000) := hmax
  clear hit hw hmax
  refine (callsIn_wide (n := 5)).1 ?_
  refine callsIn_of_wp_marks Try.func95 rfl trivial ?_ rfl
  simp only [Try.ntmps95, List.size_toArray, List.length_cons, List.length_nil, Nat.reduceAdd, Nat.reduceSub, Array.replicate_succ, Array.replicate_zero, List.push_toArray, List.append_toArray, List.nil_append, List.cons_append]
  gi_wp2
  have HB0 : Hid (Below w.heap.size w (w.alloc (.cells #[.slice none 0 0] 22))) := below_new w _
  have HG0 : Hid ((w.alloc (.cells #[.slice none 0 0] 22)).heap[w.heap.size]? = some (.cells #[.slice none 0 0] 22 (0, 0))) := heap_alloc_new w _
  have hs0 : (w.alloc (.cells #[.slice none 0 0] 22)).heap.size = w.heap.size + 1 := by simp
  have HS0 : Hid _ := hs0
  clear hs0
  generalize w.alloc (.cells #[.slice none 0 0] 22) = Wf at *
  refine range_law9 (by omega) (gf := gf) (lb := lb) rfl heg (α := Rw) rs.length (fun r => #[rv r]) (fun _ => rfl) (fun k r => r = rat rs k)
    (fun own t W => AJ w rs own t W) (fun _ _ => False) .ret ?hJ ?hJx (fun j => j = w.heap.size) ?hown0 ?h0
    (fun r a' Wx => ∃ q, w.heap.size + 3 ≤ q ∧ Wx.heap[q]? = some (.cells #[.int .u64 (r.id : Int), .int .u32 (r.x : Int), .int .u32 (r.y : Int), .string r.v] 26 (0, 0)) ∧ a' = { tmps := #[.slice none 0 0, .func (.func gf) #[] lb, .pointer (some ⟨w.heap.size, 0, none⟩), undef, .slice none 0 0, .pointer (some ⟨q, 0, none⟩), .func (.func gf) #[] lb, rv r, undef, undef, undef, undef, undef], defers := [] }) ?hA ?assign ?body ?iter ?done ?stop
  case hJ =>
    intro own k A B h hk
    exact h.kw hk (by have := HS0.out; omega)
  case hJx => intro own A B h _; exact h
  case hown0 => intro j hj; have := HS0.out; omega
  case h0 => exact ⟨⟨_, HG0.out, World.ownsRow_nil _ _ _ _, fun b hb => by simp [Value.ownBlock] at hb⟩, HB0.out, rfl, fun j hj => by omega⟩
  case hA =>
    rintro x a' W l o' ⟨q, hq1, hq2, rfl⟩ h1 h2
    have := HS0.out
    exact ⟨q, hq1, (World.putObj_heap_other (by omega)).trans hq2, rfl⟩
  case assign =>
    intro l' own k r W' K hk hok hJk hsz hK
    obtain ⟨id, x, y, v⟩ := r
    have HZ : Hid (w.heap.size + 3 ≤ W'.heap.size) := by refine (?_ : w.heap.size + 3 ≤ W'.heap.size); have := HS0.out; omega
    clear hok hJk hsz hk
    gi_wp2
    exact hK _ _ (below_new W' _) ⟨W'.heap.size, HZ.out, heap_alloc_new W' _, rfl⟩
  case iter =>
    intro l' W5 hl' hB5 hs5 R' Rx' ow how hR' hRx' hY' h0'
    have hs := HS0.out
    have hws := HW.out.size
    refine HIT.out W5 (HW.out.trans ((HB0.out.trans (hB5.mono (by omega))).mono hws)) l' R' Rx' ow (fun j hj => ?_) hR' hRx' (fun own k W hk hRk hsz _ => hY' own k _ W hk rfl hRk fun j hj => (hsz j hj).2) h0'
    rcases (how j).1 hj with rfl | rfl
    · exact ⟨hws, by omega⟩
    · exact ⟨by omega, by omega⟩
  case stop => intro D own W' _ _ h _; exact h.elim
  case done =>
    intro D own W' hDe hno hJ hdf
    have HDf : Hid _ := hdf
    obtain ⟨v, h1, h2, h3⟩ := hJ.rows
    rw [List.take_length] at h2
    have HO : Hid (W'.ownsRow (w.heap.size + 1) 26 4 v rs.length (rs.flatMap rc)) := h2
    have HBl : Hid (Below w.heap.size w W') := hJ.bel
    have HDs : Hid (D = Wf.heap.size ∧ ∀ b, v.ownBlock = some b → b ≠ D) := ⟨hDe, fun b hb e => hno (e ▸ h3 b hb)⟩
    have c0 : W'.cell? ⟨w.heap.size, 0, none⟩ = some v := by rw [cell_of_row _ _ _ _ _ _ h1]; rfl
    have l0 : w.heap.size < W'.heap.size := (Array.getElem?_eq_some_iff.1 h1).1
    obtain ⟨o, cap, rfl, -⟩ := sl_of_own h2
    clear hJ hdf hDe hno h1 h2 h3
    gi_wp2
    refine leaves_marks (fun W => results_tmp rfl _ _ _) [D] W' (by simp) (fun E hE => by simp at hE; subst hE; exact HDf.out) fun W'' hb => ⟨_, rfl, own_lower (own_same HO.out fun b hb' hlt => hb.block b hlt fun e => ?_) (by omega), HBl.out.trans ⟨hb.os, hb.tape, hb.output, hb.size, fun j hj => hb.block j (Nat.lt_of_lt_of_le hj HBl.out.size) fun e => ?_⟩⟩
    · exact HDs.out.2 b hb' (by simpa using e)
    · have e' : j = D := by simpa using e
      have := HDs.out.1
      have := HS0.out
      omega
  case body =>
    rintro l' own k r a' W' hk hok hJ ⟨q, hq1, hq2, rfl⟩ hsz hol
    obtain ⟨id, x, y, v⟩ := r
    simp only at hq2
    have HJe : Hid (AJ w rs own k W') := hJ
    obtain ⟨u, h1, h2, h3⟩ := hJ.rows
    have hbn := below_new W' (.cells #[.int .u64 (id : Int), .int .u32 (x : Int), .int .u32 (y : Int), .string v] 26)
    have c0 : W'.cell? ⟨w.heap.size, 0, none⟩ = some u := by rw [cell_of_row _ _ _ _ _ _ h1]; rfl
    have l0 : w.heap.size < W'.heap.size := (Array.getElem?_eq_some_iff.1 h1).1
    have lq : q < W'.heap.size := (Array.getElem?_eq_some_iff.1 hq2).1
    obtain ⟨s0, s1, s2, s3⟩ := four_facts hq2
    obtain ⟨v', W2, hrun, a1, a2, a3⟩ := append_sl 22 26 Try.underlying22 infoRow rfl (by decide) (by decide) (W'.alloc (.cells #[.int .u64 (id : Int), .int .u32 (x : Int), .int .u32 (y : Int), .string v] 26)) (w.heap.size + 1) k 1 u (some ⟨W'.heap.size, 0, none⟩) 1
      ((rs.take k).flatMap rc) (rc ⟨id, x, y, v⟩) (own_same h2 fun b _ hb => hbn.block b hb) (by simp; omega) (one_row (heap_alloc_new W' _)) (rc_one' _) (by have := HM.out; omega)
    have HRU : Hid _ := hrun
    have nb : ∀ b, b ≤ w.heap.size → u.ownBlock ≠ some b := fun b hb e => by have := (own_base h2 e).1; omega
    have hB2 : W2.heap[w.heap.size]? = some (.cells #[u] 22 (0, 0)) := (a2.block _ (by simp; omega) (fun e => nb _ (Nat.le_refl _) e.symm)).trans ((hbn.block _ l0).trans h1)
    have z0 : W2.frozen? ⟨w.heap.size, 0, none⟩ = false := frozen_of_row W2 _ 0 _ _ hB2
    have l2 : w.heap.size < W2.heap.size := (Array.getElem?_eq_some_iff.1 hB2).1
    have d0 : W2.cell? ⟨w.heap.size, 0, none⟩ = some u := by rw [cell_of_row _ _ _ _ _ _ hB2]; rfl
    have HFIN : Hid (∃ own', (∀ j, own' j → own j ∨ (W'.heap.size ≤ j ∧ j < (W2.setCell ⟨w.heap.size, 0, none⟩ v').heap.size)) ∧ But own W' (W2.setCell ⟨w.heap.size, 0, none⟩ v') ∧ AJ w rs own' (k + 1) (W2.setCell ⟨w.heap.size, 0, none⟩ v')) := by
      have hs2 := a2.size
      have hsa : (W'.alloc (.cells #[.int .u64 (id : Int), .int .u32 (x : Int), .int .u32 (y : Int), .string v] 26)).heap.size = W'.heap.size + 1 := by simp
      have hss : (W2.setCell ⟨w.heap.size, 0, none⟩ v').heap.size = W2.heap.size := by simp [World.setCell]
      have hob : ∀ {b : Nat}, v'.ownBlock = some b → w.heap.size + 1 ≤ b ∧ b < W2.heap.size := fun hb => own_base a1 hb
      have hst : ∀ j, j ≠ w.heap.size → (W2.setCell ⟨w.heap.size, 0, none⟩ v').heap[j]? = W2.heap[j]? := fun j hj => Below.heap_setCell _ _ _ _ (fun e => hj e)
      have hbk : ∀ j, j < W'.heap.size → j ≠ w.heap.size → u.ownBlock ≠ some j → (W2.setCell ⟨w.heap.size, 0, none⟩ v').heap[j]? = W'.heap[j]? := fun j hj h1' h2' => (hst j h1').trans ((a2.block j (by omega) (fun e => h2' e.symm)).trans (hbn.block j hj))
      refine ⟨fun j => own j ∨ v'.ownBlock = some j, fun j hj => ?_, ⟨a2.os.trans hbn.os, a2.tape.trans hbn.tape, a2.output.trans hbn.output, by omega, fun j hj hn => hbk j hj (fun e => hn (e ▸ HJe.out.mine)) fun e => hn (h3 j e)⟩, ⟨⟨v', box1_set hB2, ?_, fun b hb => .inr hb⟩, ?_, .inl HJe.out.mine, fun j hj => ?_⟩⟩
      · rcases hj with hj | hj
        · exact .inl hj
        · rcases a3 with a3 | a3
          · exact .inl (h3 j (by rw [← a3]; exact hj))
          · rw [a3] at hj
            have := hob a3
            cases hj
            exact .inr ⟨by omega, by omega⟩
      · have e1 : (rs.take (k + 1)).flatMap rc = (rs.take k).flatMap rc ++ rc ⟨id, x, y, v⟩ := by
          rw [List.take_add_one, List.getElem?_eq_getElem hk, List.flatMap_append, hok, rat_get hk]
          simp
        rw [e1]
        exact own_same a1 fun b hb _ => hst b (fun e => by have := (hob hb).1; omega)
      · exact HJe.out.bel.trans ⟨a2.os.trans hbn.os, a2.tape.trans hbn.tape, a2.output.trans hbn.output, by omega, fun j hj => hbk j (by omega) (by omega) (nb j (by omega))⟩
      · rcases hj with hj | hj
        · exact HJe.out.least j hj
        · have := (hob hj).1
          omega
    obtain ⟨o, cap, rfl, -⟩ := sl_of_own h2
    obtain ⟨o', cap', rfl, -⟩ := sl_of_own a1
    clear hJ hok hsz hol hbn h1 h2 h3 nb hB2 a1 a2 a3 hk hq2 hrun hq1
    gi_wp2_with (gi_at_builtin; refine listIn_append rfl 22 22 (.tmp 8) (.tmp 10) rfl (vs := .slice o k cap) (vx := .slice (some ⟨W'.heap.size, 0, none⟩) 1 1) rfl rfl HRU.out ?_)
    exact HFIN.out
end Go.Proofs.Ytaiiclkfnahghaa.Rq
/- Collect; how two numbers, two rows compare. -/
namespace Go.Proofs.Ytaiiclkfnahghaa.Rq
open Go.RowKit Go.Lib Go.Shelf
open Go.Proofs.Ytaiiclkfnahghaa.Rc
set_option maxRecDepth 100000 in
theorem collect_any (w0 : World) (rs : List Rw) (gf : Nat) (lb : Array Value) (hit : RowsIter w0 rs gf lb) (heg : ∀ args w, (callFunc gf args).run Try.prog w = .ok (.enter gf args) w) (hmax : rs.length ≤ 1000) (w : World) (hw : Below w0.heap.size w0 w) :
    Calls Try.prog 86 #[.func (.func gf) #[] lb] w fun e w' => ∃ v, e = .returned v ∧ w'.ownsRow w.heap.size 26 4 v rs.length (rs.flatMap rc) ∧ Below w.heap.size w w' := by
  have HC : Hid _ := appSeq_any w0 rs gf lb hit heg hmax
  have HW : Hid (Below w0.heap.size w0 w) := hw
  clear hit heg hmax hw
  go_enter Try.func86, Try.ntmps86
  go_wp2_with fail
  refine (HC.out w HW.out).mono ?_
  rintro e w1 ⟨v, rfl, h1, h2⟩
  have HO : Hid _ := h1
  have HB : Hid _ := h2
  clear h1 h2 HC
  go_wp2_with fail
  go_ret
  exact ⟨_, rfl, HO.out, HB.out⟩
set_option maxRecDepth 100000 in
theorem isNaN_any (x : Nat) (w : World) : Calls Try.prog 77 #[.int .u64 (x : Int)] w fun e w' => e = .returned (.bool false) ∧ w' = w := by
  go_enter Try.func77, Try.ntmps77
  go_wp2_with fail
  go_ret
  exact ⟨by simp, rfl⟩
/-- How two numbers compare. -/
def cmpS (x y : Nat) : Int := if x < y then -1 else if y < x then 1 else 0
set_option maxRecDepth 100000 in
theorem compare_any (x y : Nat) (w : World) : Calls Try.prog 49 #[.int .u64 (x : Int), .int .u64 (y : Int)] w fun e w' => e = .returned (.int .i64 (cmpS x y)) ∧ w' = w := by
  have HX : Hid _ := isNaN_any x
  have HY : Hid _ := isNaN_any y
  obtain ⟨zx, hzx⟩ : ∃ zx : Int, (x : Int) = zx := ⟨_, rfl⟩
  obtain ⟨zy, hzy⟩ : ∃ zy : Int, (y : Int) = zy := ⟨_, rfl⟩
  have hc : (zx < zy ∧ cmpS x y = -1) ∨ (¬ zx < zy ∧ zy < zx ∧ cmpS x y = 1) ∨ (¬ zx < zy ∧ ¬ zy < zx ∧ cmpS x y = 0) := by
    unfold cmpS
    split
    · omega
    · split <;> omega
  rw [hzx] at HX ⊢
  rw [hzy] at HY ⊢
  generalize cmpS x y = c at *
  clear hzx hzy
  go_enter Try.func49, Try.ntmps49
  go_wp2_with fail
  refine (HX.out _).mono ?_
  rintro e w1 ⟨rfl, rfl⟩
  go_wp2_with fail
  refine (HY.out _).mono ?_
  rintro e w1 ⟨rfl, rfl⟩
  rcases hc with ⟨h1, rfl⟩ | ⟨h1, h2, rfl⟩ | ⟨h1, h2, rfl⟩
  all_goals
    go_wp2_with fail
    go_ret
    exact ⟨rfl, rfl⟩
set_option maxRecDepth 100000 in
theorem byId1_any (a b : Rw) (w : World) : Calls Try.prog 72 #[rv a, rv b] w fun e w' => e = .returned (.int .i64 (cmpS a.id b.id)) ∧ Below w.heap.size w w' := by
  obtain ⟨i, x, y, v⟩ := a
  obtain ⟨j, s, t, u⟩ := b
  have HC : Hid _ := compare_any i j
  simp only [rv]
  generalize cmpS i j = c at *
  go_enter Try.func72, Try.ntmps72
  go_wp2_with fail
  refine (HC.out _).mono ?_
  rintro e w1 ⟨rfl, rfl⟩
  go_wp2_with fail
  go_ret
  exact ⟨rfl, (below_new w _).alloc (by simp) _⟩
end Go.Proofs.Ytaiiclkfnahghaa.Rq
/- How many rows a tree has; how many of them lie in a box. -/
namespace Go.Proofs.Ytaiiclkfnahghaa.Rq
open Go.RowKit Go.Lib Go.Shelf
open Go.Proofs.Ytaiiclkfnahghaa.Rc
set_option maxRecDepth 100000 in
theorem filter_all (l : List Rw) : (l.filter fun _ => true) = l := List.filter_eq_self.2 fun _ _ => rfl
set_option maxRecDepth 100000 in
set_option maxHeartbeats 1000000 in
theorem size_any (n : Nv) (l : List Rw) (d : Nat) (w : World) (hN : NodeAt (fun _ => True) d w n l) (hon : On l) (hmax : l.length ≤ 1000) :
    Calls Try.prog 29 #[nv n] w fun e w' => e = .returned (.int .i64 (l.length : Int)) ∧ Below w.heap.size w w' := by
  have hp := seqs_perm (fun _ _ _ => true) (fun _ => true) (fun m _ _ h => by simp at h) d l hN.fits hon
  rw [filter_all] at hp
  have HP : Hid _ := hp
  have hb0 := below_new w (.cells #[.int .u32 (n.X : Int), .int .u32 (n.Y : Int), .int .i64 (n.L : Int), .slice n.ro n.rn n.rc, .slice n.ko n.kn n.kc] 33)
  have HB0 : Hid (Below w.heap.size w (w.alloc (.cells #[.int .u32 (n.X : Int), .int .u32 (n.Y : Int), .int .i64 (n.L : Int), .slice n.ro n.rn n.rc, .slice n.ko n.kn n.kc] 33))) := hb0
  have HNA : Hid (NodeAt (fun _ => True) d (w.alloc (.cells #[.int .u32 (n.X : Int), .int .u32 (n.Y : Int), .int .i64 (n.L : Int), .slice n.ro n.rn n.rc, .slice n.ko n.kn n.kc] 33)) n l) := hN.below hb0 (Nat.le_refl _)
  have HON : Hid (On l) := hon
  have HM : Hid (l.length ≤ 1000) := hmax
  have HRA : Hid _ := rows_any n
  clear hN hon hmax hp hb0
  obtain ⟨nX, nY, nL, nro, nrn, nrc, nko, nkn, nkc⟩ := n
  simp only [nv] at HRA ⊢
  simp only at HB0 HNA
  go_enter Try.func29, Try.ntmps29
  go_wp2_with fail
  refine (HRA.out _ _ _ _ _).mono ?_
  rintro e w1 ⟨rfl, hw1⟩
  obtain ⟨hb1, hit⟩ := rows_iter _ _ _ _ _ _ _ d _ l HNA.out HON.out HM.out w1 hw1 (ent_all w1) (kep_all w1)
  have hc := count_any w1 _ _ _ hit rows1_eg (by rw [HP.out.length_eq]; exact HM.out) w1 (Below.refl _ _)
  rw [HP.out.length_eq] at hc
  have hsz : (w.alloc (.cells #[.int .u32 (nX : Int), .int .u32 (nY : Int), .int .i64 (nL : Int), .slice nro nrn nrc, .slice nko nkn nkc] 33)).heap.size = w.heap.size + 1 := by simp
  rw [hsz] at hc
  have HC : Hid (∀ _ : True, Calls Try.prog 41 #[.func (.func 75) #[] #[.pointer (some ⟨w.heap.size + 1 + 1, 0, none⟩), .pointer (some ⟨w.heap.size + 1, 0, none⟩), .pointer (some ⟨w.heap.size + 1 + 2, 0, none⟩)]] w1 fun e w' => e = .returned (.int .i64 (l.length : Int)) ∧ Below w1.heap.size w1 w') := fun _ => hc
  clear hc hsz
  have HB1 : Hid (Below w.heap.size w w1) := HB0.out.trans (hb1.mono (by simp))
  clear hw1 hit hb1
  go_wp2_with fail
  refine Calls.mono (HC.out trivial) ?_
  rintro e w2 ⟨rfl, hb2⟩
  have HB2 : Hid (Below w.heap.size w w2) := HB1.out.trans (hb2.mono HB1.out.size)
  clear hb2
  go_wp2_with fail
  go_ret
  exact ⟨rfl, HB2.out⟩
end Go.Proofs.Ytaiiclkfnahghaa.Rq
