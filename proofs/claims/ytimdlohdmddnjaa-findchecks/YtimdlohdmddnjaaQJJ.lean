/- The rows of a way through them, as one list. -/
import Derived.Test.YtimdlohdmddnjaaQJD
namespace Go.Proofs.Ytimdlohdmddnjaa.Rq
open Go.RowKit Go.Lib Go.Shelf
open Go.Proofs.Ytimdlohdmddnjaa.Rc
attribute [local go_sem] Oper.semAt_some
set_option maxRecDepth 100000 in
theorem opIn_append {F : Fence} {n : Nat} {P : Program} {o : Oper} {a : Act} {w : World} {K : Act → World → Prop} {Q : Exit → Act → World → Prop} (t u : TypeId) (s x : Operand) (ho : o.op = .call { callee := .builtin .append, args := #[s, x], argTypes := #[t, u] })
  {vs vx v' : Value} {w' : World} (hs : a.eval s = vs) (hx : a.eval x = vx) (hrun : (Builtin.append_ #[t, u] o.type #[vs, vx]).run P w = .ok v' w') (hK : K (a.put o.dst v') w') : o.wpIn F n P a w K Q := by
 unfold Oper.wpIn
 refine ⟨?_, ?_⟩
 ·simp [Oper.about, ho, resolve, Target.leads]
 ·rw [Oper.semAt_plain F _ _ (by rw [ho]; intro c hc; cases hc)]
  simp [execOp, ho, hs, hx, hrun, Result.andThen, resolve, invoke, builtin]
  exact hK
set_option maxRecDepth 100000 in
theorem listIn_append {F : Fence} {n : Nat} {P : Program} {ops : Array Oper} {rest : List Oper} {o : Oper} {a : Act} {w : World} {Q : Exit → Act → World → Prop} (hgd : o.guard = none) (t u : TypeId) (s x : Operand) (ho : o.op = .call { callee := .builtin .append, args := #[s, x], argTypes := #[t, u] })
  {vs vx v' : Value} {w' : World} (hs : a.eval s = vs) (hx : a.eval x = vx) (hrun : (Builtin.append_ #[t, u] o.type #[vs, vx]).run P w = .ok v' w') (h : wpListIn F n P ops Q rest (a.put o.dst v') w') : wpListIn F n P ops Q (o :: rest) a w :=
 wpListIn_plain hgd fun _ hK => opIn_append t u s x ho hs hx hrun (hK _ _ h)
structure AJ (w : World) (rs : List Rw) (own : Nat → Prop) (t : Nat) (W : World) : Prop where
 rows : ∃ v, W.heap[w.heap.size]? = some (.cells #[v] 32 (0, 0)) ∧ W.ownsRow (w.heap.size + 1) 54 4 v t ((rs.take t).flatMap rc) ∧ ∀ b, v.ownBlock = some b → own b
 bel : Below w.heap.size w W
 mine : own w.heap.size
 least : ∀ j, own j → w.heap.size ≤ j
set_option maxRecDepth 100000 in
theorem AJ.kw {w : World} {rs : List Rw} {own : Nat → Prop} {t B : Nat} {W W' : World} (h : AJ w rs own t W) (hk : Kw B own W W') (hB : w.heap.size ≤ B) : AJ w rs own t W' := by
 obtain ⟨v, h1, h2, h3⟩ := h.rows
 exact ⟨⟨v, (hk.block _ (Array.getElem?_eq_some_iff.1 h1).1 (.inr h.mine)).trans h1, own_same h2 fun b hb hlt => hk.block b hlt (.inr (h3 b hb)), h3⟩, h.bel.trans ⟨hk.os, hk.tape, hk.output, hk.size, fun j hj => hk.block j (Nat.lt_of_lt_of_le hj h.bel.size) (.inl (by omega))⟩, h.mine, h.least⟩
set_option maxRecDepth 100000 in
set_option maxHeartbeats 2000000 in
theorem appSeq_any (w0 : World) (rs : List Rw) (gf : Nat) (lb : Array Value) (hit : RowsIter w0 rs gf lb) (heg : ∀ args w, (callFunc gf args).run Try.prog w = .ok (.enter gf args) w) (hmax : rs.length ≤ 1000) (w : World) (hw : Below w0.heap.size w0 w) :
  Calls Try.prog 96 #[.slice none 0 0, .func (.func gf) #[] lb] w fun e w' => ∃ v, e = .returned v ∧ w'.ownsRow w.heap.size 54 4 v rs.length (rs.flatMap rc) ∧ Below w.heap.size w w' := by
 have HIT : Hid (RowsIter w0 rs gf lb) := hit
 have HW : Hid (Below w0.heap.size w0 w) := hw
 have HM : Hid (rs.length ≤ 1000) := hmax
 clear hit hw hmax
 refine (callsIn_wide (n := 5)).1 ?_
 refine callsIn_of_wp_marks Try.func96 rfl trivial ?_ rfl
 simp only [Try.ntmps96, List.size_toArray, List.length_cons, List.length_nil, Nat.reduceAdd, Nat.reduceSub, Array.replicate_succ, Array.replicate_zero, List.push_toArray, List.append_toArray, List.nil_append, List.cons_append]
 gi_wp2
 have HB0 : Hid (Below w.heap.size w (w.alloc (.cells #[.slice none 0 0] 32))) := below_new w _
 have HG0 : Hid ((w.alloc (.cells #[.slice none 0 0] 32)).heap[w.heap.size]? = some (.cells #[.slice none 0 0] 32 (0, 0))) := heap_alloc_new w _
 have hs0 : (w.alloc (.cells #[.slice none 0 0] 32)).heap.size = w.heap.size + 1 := by simp
 have HS0 : Hid _ := hs0
 clear hs0
 generalize w.alloc (.cells #[.slice none 0 0] 32) = Wf at *
 refine range_law9 (by omega) (gf := gf) (lb := lb) rfl heg (α := Rw) rs.length (fun r => #[rv r]) (fun _ => rfl) (fun k r => r = rat rs k)
  (fun own t W => AJ w rs own t W) (fun _ _ => False) .ret ?hJ ?hJx (fun j => j = w.heap.size) ?hown0 ?h0
  (fun r a' Wx => ∃ q, w.heap.size + 3 ≤ q ∧ Wx.heap[q]? = some (.cells #[.int .u64 (r.id : Int), .int .u32 (r.x : Int), .int .u32 (r.y : Int), .string r.v] 54 (0, 0)) ∧ a' = { tmps := #[.slice none 0 0, .func (.func gf) #[] lb, .pointer (some ⟨w.heap.size, 0, none⟩), undef, .slice none 0 0, .pointer (some ⟨q, 0, none⟩), .func (.func gf) #[] lb, rv r, undef, undef, undef, undef, undef], defers := [] }) ?hA ?assign ?body ?iter ?done ?stop
 case hJ =>
  intro own k A B h hk
  exact h.kw hk (by have := HS0.out; omega)
 case hJx => intro own A B h _; exact h
 case hown0 => intro j hj; have := HS0.out; omega
 case h0 => exact ⟨⟨_, HG0.out, World.ownsRow_nil _ _ _ _, fun b hb => by simp [Value.ownBlock] at hb⟩, HB0.out, rfl, fun j hj => by omega⟩
 case hA =>
  rintro x a' W l o' ⟨q, hq1, hq2, rfl⟩ h1 h2
  have := HS0.out
  exact ⟨q, hq1, (World.putObj_heap_other (by omega)).trans hq2, rfl⟩
 case assign =>
  intro l' own k r W' K hk hok hJk hsz hK
  obtain ⟨id, x, y, v⟩ := r
  have HZ : Hid (w.heap.size + 3 ≤ W'.heap.size) := by refine (?_ : w.heap.size + 3 ≤ W'.heap.size); have := HS0.out; omega
  clear hok hJk hsz hk
  gi_wp2
  exact hK _ _ (below_new W' _) ⟨W'.heap.size, HZ.out, heap_alloc_new W' _, rfl⟩
 case iter =>
  intro l' W5 hl' hB5 hs5 R' Rx' ow how hR' hRx' hY' h0'
  have hs := HS0.out
  have hws := HW.out.size
  refine HIT.out W5 (HW.out.trans ((HB0.out.trans (hB5.mono (by omega))).mono hws)) l' R' Rx' ow (fun j hj => ?_) hR' hRx' (fun own k W hk hRk hsz _ => hY' own k _ W hk rfl hRk fun j hj => (hsz j hj).2) h0'
  rcases (how j).1 hj with rfl | rfl
  ·exact ⟨hws, by omega⟩
  ·exact ⟨by omega, by omega⟩
 case stop => intro D own W' _ _ h _; exact h.elim
 case done =>
  intro D own W' hDe hno hJ hdf
  have HDf : Hid _ := hdf
  obtain ⟨v, h1, h2, h3⟩ := hJ.rows
  rw [List.take_length] at h2
  have HO : Hid (W'.ownsRow (w.heap.size + 1) 54 4 v rs.length (rs.flatMap rc)) := h2
  have HBl : Hid (Below w.heap.size w W') := hJ.bel
  have HDs : Hid (D = Wf.heap.size ∧ ∀ b, v.ownBlock = some b → b ≠ D) := ⟨hDe, fun b hb e => hno (e ▸ h3 b hb)⟩
  have c0 : W'.cell? ⟨w.heap.size, 0, none⟩ = some v := by rw [cell_of_row _ _ _ _ _ _ h1]; rfl
  have l0 : w.heap.size < W'.heap.size := (Array.getElem?_eq_some_iff.1 h1).1
  obtain ⟨o, cap, rfl, -⟩ := sl_of_own h2
  clear hJ hdf hDe hno h1 h2 h3
  gi_wp2
  refine leaves_marks (fun W => results_tmp rfl _ _ _) [D] W' (by simp) (fun E hE => by simp at hE; subst hE; exact HDf.out) fun W'' hb => ⟨_, rfl, own_lower (own_same HO.out fun b hb' hlt => hb.block b hlt fun e => ?_) (by omega), HBl.out.trans ⟨hb.os, hb.tape, hb.output, hb.size, fun j hj => hb.block j (Nat.lt_of_lt_of_le hj HBl.out.size) fun e => ?_⟩⟩
  ·exact HDs.out.2 b hb' (by simpa using e)
  ·have e' : j = D := by simpa using e
   have := HDs.out.1
   have := HS0.out
   omega
 case body =>
  rintro l' own k r a' W' hk hok hJ ⟨q, hq1, hq2, rfl⟩ hsz hol
  obtain ⟨id, x, y, v⟩ := r
  simp only at hq2
  have HJe : Hid (AJ w rs own k W') := hJ
  obtain ⟨u, h1, h2, h3⟩ := hJ.rows
  have hbn := below_new W' (.cells #[.int .u64 (id : Int), .int .u32 (x : Int), .int .u32 (y : Int), .string v] 54)
  have c0 : W'.cell? ⟨w.heap.size, 0, none⟩ = some u := by rw [cell_of_row _ _ _ _ _ _ h1]; rfl
  have l0 : w.heap.size < W'.heap.size := (Array.getElem?_eq_some_iff.1 h1).1
  have lq : q < W'.heap.size := (Array.getElem?_eq_some_iff.1 hq2).1
  obtain ⟨s0, s1, s2, s3⟩ := four_facts hq2
  obtain ⟨v', W2, hrun, a1, a2, a3⟩ := append_sl 32 54 Try.underlying32 infoRow rfl (by decide) (by decide) (W'.alloc (.cells #[.int .u64 (id : Int), .int .u32 (x : Int), .int .u32 (y : Int), .string v] 54)) (w.heap.size + 1) k 1 u (some ⟨W'.heap.size, 0, none⟩) 1
   ((rs.take k).flatMap rc) (rc ⟨id, x, y, v⟩) (own_same h2 fun b _ hb => hbn.block b hb) (by simp; omega) (one_row (heap_alloc_new W' _)) (rc_one' _) (by have := HM.out; omega)
  have HRU : Hid _ := hrun
  have nb : ∀ b, b ≤ w.heap.size → u.ownBlock ≠ some b := fun b hb e => by have := (own_base h2 e).1; omega
  have hB2 : W2.heap[w.heap.size]? = some (.cells #[u] 32 (0, 0)) := (a2.block _ (by simp; omega) (fun e => nb _ (Nat.le_refl _) e.symm)).trans ((hbn.block _ l0).trans h1)
  have z0 : W2.frozen? ⟨w.heap.size, 0, none⟩ = false := frozen_of_row W2 _ 0 _ _ hB2
  have l2 : w.heap.size < W2.heap.size := (Array.getElem?_eq_some_iff.1 hB2).1
  have d0 : W2.cell? ⟨w.heap.size, 0, none⟩ = some u := by rw [cell_of_row _ _ _ _ _ _ hB2]; rfl
  have HFIN : Hid (∃ own', (∀ j, own' j → own j ∨ (W'.heap.size ≤ j ∧ j < (W2.setCell ⟨w.heap.size, 0, none⟩ v').heap.size)) ∧ But own W' (W2.setCell ⟨w.heap.size, 0, none⟩ v') ∧ AJ w rs own' (k + 1) (W2.setCell ⟨w.heap.size, 0, none⟩ v')) := by
   have hs2 := a2.size
   have hsa : (W'.alloc (.cells #[.int .u64 (id : Int), .int .u32 (x : Int), .int .u32 (y : Int), .string v] 54)).heap.size = W'.heap.size + 1 := by simp
   have hss : (W2.setCell ⟨w.heap.size, 0, none⟩ v').heap.size = W2.heap.size := by simp [World.setCell]
   have hob : ∀ {b : Nat}, v'.ownBlock = some b → w.heap.size + 1 ≤ b ∧ b < W2.heap.size := fun hb => own_base a1 hb
   have hst : ∀ j, j ≠ w.heap.size → (W2.setCell ⟨w.heap.size, 0, none⟩ v').heap[j]? = W2.heap[j]? := fun j hj => Below.heap_setCell _ _ _ _ (fun e => hj e)
   have hbk : ∀ j, j < W'.heap.size → j ≠ w.heap.size → u.ownBlock ≠ some j → (W2.setCell ⟨w.heap.size, 0, none⟩ v').heap[j]? = W'.heap[j]? := fun j hj h1' h2' => (hst j h1').trans ((a2.block j (by omega) (fun e => h2' e.symm)).trans (hbn.block j hj))
   refine ⟨fun j => own j ∨ v'.ownBlock = some j, fun j hj => ?_, ⟨a2.os.trans hbn.os, a2.tape.trans hbn.tape, a2.output.trans hbn.output, by omega, fun j hj hn => hbk j hj (fun e => hn (e ▸ HJe.out.mine)) fun e => hn (h3 j e)⟩, ⟨⟨v', box1_set hB2, ?_, fun b hb => .inr hb⟩, ?_, .inl HJe.out.mine, fun j hj => ?_⟩⟩
   ·rcases hj with hj | hj
    ·exact .inl hj
    ·rcases a3 with a3 | a3
     ·exact .inl (h3 j (by rw [← a3]; exact hj))
     ·rw [a3] at hj
      have := hob a3
      cases hj
      exact .inr ⟨by omega, by omega⟩
   ·have e1 : (rs.take (k + 1)).flatMap rc = (rs.take k).flatMap rc ++ rc ⟨id, x, y, v⟩ := by
     rw [List.take_add_one, List.getElem?_eq_getElem hk, List.flatMap_append, hok, rat_get hk]
     simp
    rw [e1]
    exact own_same a1 fun b hb _ => hst b (fun e => by have := (hob hb).1; omega)
   ·exact HJe.out.bel.trans ⟨a2.os.trans hbn.os, a2.tape.trans hbn.tape, a2.output.trans hbn.output, by omega, fun j hj => hbk j (by omega) (by omega) (nb j (by omega))⟩
   ·rcases hj with hj | hj
    ·exact HJe.out.least j hj
    ·have := (hob hj).1
     omega
  obtain ⟨o, cap, rfl, -⟩ := sl_of_own h2
  obtain ⟨o', cap', rfl, -⟩ := sl_of_own a1
  clear hJ hok hsz hol hbn h1 h2 h3 nb hB2 a1 a2 a3 hk hq2 hrun hq1
  gi_wp2_with (gi_at_builtin; refine listIn_append rfl 32 32 (.tmp 8) (.tmp 10) rfl (vs := .slice o k cap) (vx := .slice (some ⟨W'.heap.size, 0, none⟩) 1 1) rfl rfl HRU.out ?_)
  exact HFIN.out
end Go.Proofs.Ytimdlohdmddnjaa.Rq
/- Collect; how two numbers, two rows compare. -/
namespace Go.Proofs.Ytimdlohdmddnjaa.Rq
open Go.RowKit Go.Lib Go.Shelf
open Go.Proofs.Ytimdlohdmddnjaa.Rc
set_option maxRecDepth 100000 in
theorem collect_any (w0 : World) (rs : List Rw) (gf : Nat) (lb : Array Value) (hit : RowsIter w0 rs gf lb) (heg : ∀ args w, (callFunc gf args).run Try.prog w = .ok (.enter gf args) w) (hmax : rs.length ≤ 1000) (w : World) (hw : Below w0.heap.size w0 w) :
  Calls Try.prog 86 #[.func (.func gf) #[] lb] w fun e w' => ∃ v, e = .returned v ∧ w'.ownsRow w.heap.size 54 4 v rs.length (rs.flatMap rc) ∧ Below w.heap.size w w' := by
 have HC : Hid _ := appSeq_any w0 rs gf lb hit heg hmax
 have HW : Hid (Below w0.heap.size w0 w) := hw
 clear hit heg hmax hw
 go_enter Try.func86, Try.ntmps86
 go_wp2_with fail
 refine (HC.out w HW.out).mono ?_
 rintro e w1 ⟨v, rfl, h1, h2⟩
 have HO : Hid _ := h1
 have HB : Hid _ := h2
 clear h1 h2 HC
 go_wp2_with fail
 go_ret
 exact ⟨_, rfl, HO.out, HB.out⟩
set_option maxRecDepth 100000 in
theorem isNaN_any (x : Nat) (w : World) : Calls Try.prog 78 #[.int .u64 (x : Int)] w fun e w' => e = .returned (.bool false) ∧ w' = w := by
 go_enter Try.func78, Try.ntmps78
 go_wp2_with fail
 go_ret
 exact ⟨by simp, rfl⟩
def cmpS (x y : Nat) : Int := if x < y then -1 else if y < x then 1 else 0
set_option maxRecDepth 100000 in
theorem compare_any (x y : Nat) (w : World) : Calls Try.prog 46 #[.int .u64 (x : Int), .int .u64 (y : Int)] w fun e w' => e = .returned (.int .i64 (cmpS x y)) ∧ w' = w := by
 have HX : Hid _ := isNaN_any x
 have HY : Hid _ := isNaN_any y
 obtain ⟨zx, hzx⟩ : ∃ zx : Int, (x : Int) = zx := ⟨_, rfl⟩
 obtain ⟨zy, hzy⟩ : ∃ zy : Int, (y : Int) = zy := ⟨_, rfl⟩
 have hc : (zx < zy ∧ cmpS x y = -1) ∨ (¬ zx < zy ∧ zy < zx ∧ cmpS x y = 1) ∨ (¬ zx < zy ∧ ¬ zy < zx ∧ cmpS x y = 0) := by
  unfold cmpS
  split
  ·omega
  ·split <;> omega
 rw [hzx] at HX ⊢
 rw [hzy] at HY ⊢
 generalize cmpS x y = c at *
 clear hzx hzy
 go_enter Try.func46, Try.ntmps46
 go_wp2_with fail
 refine (HX.out _).mono ?_
 rintro e w1 ⟨rfl, rfl⟩
 go_wp2_with fail
 refine (HY.out _).mono ?_
 rintro e w1 ⟨rfl, rfl⟩
 rcases hc with ⟨h1, rfl⟩ | ⟨h1, h2, rfl⟩ | ⟨h1, h2, rfl⟩
 all_goals
  go_wp2_with fail
  go_ret
  exact ⟨rfl, rfl⟩
set_option maxRecDepth 100000 in
theorem byId1_any (a b : Rw) (w : World) : Calls Try.prog 66 #[rv a, rv b] w fun e w' => e = .returned (.int .i64 (cmpS a.id b.id)) ∧ Below w.heap.size w w' := by
 obtain ⟨i, x, y, v⟩ := a
 obtain ⟨j, s, t, u⟩ := b
 have HC : Hid _ := compare_any i j
 simp only [rv]
 generalize cmpS i j = c at *
 go_enter Try.func66, Try.ntmps66
 go_wp2_with fail
 refine (HC.out _).mono ?_
 rintro e w1 ⟨rfl, rfl⟩
 go_wp2_with fail
 go_ret
 exact ⟨rfl, (below_new w _).alloc (by simp) _⟩
theorem filter_all (l : List Rw) : (l.filter fun _ => true) = l := List.filter_eq_self.2 fun _ _ => rfl
def boxE (a b c d : Nat) : Int := if boxS a b c d = true then 0 else 81
theorem rise_perm_eq {l m : List Rw} (hl : Rise l) (hm : Rise m) (h : l.Perm m) : l = m := by
 refine h.eq_of_pairwise (le := fun (a b : Rw) => a.id < b.id) (fun a b _ _ h1 h2 => ?_) hl hm
 omega
theorem rise_filter {l : List Rw} (h : Rise l) (kp : Rw → Bool) : Rise (l.filter kp) := h.sublist List.filter_sublist
theorem sorted_is {s l : List Rw} (hs : s.Pairwise fun a b => ¬ b.id < a.id) (hp : s.Perm l) (hl : Rise l) : s = l := by
 refine rise_perm_eq ?_ hl hp
 have hn : l.Pairwise fun a b => a.id ≠ b.id := hl.imp fun h => by omega
 have hn2 : s.Pairwise fun a b => a.id ≠ b.id := (hp.pairwise_iff (fun h => fun e => h e.symm)).2 hn
 exact (hs.and hn2).imp fun h => by omega
def orS (x y : Int) : Int := if x ≠ 0 then x else y
set_option maxRecDepth 100000 in
set_option maxHeartbeats 1000000 in
theorem or_any (x y : Int) (g : Nat) (w : World) (h0 : w.cell? ⟨g, 0, none⟩ = some (.int .i64 x)) (h1 : w.cell? ⟨g, 1, none⟩ = some (.int .i64 y)) :
  Calls Try.prog 45 #[.slice (some ⟨g, 0, none⟩) 2 2] w fun e w' => e = .returned (.int .i64 (orS x y)) ∧ w' = w := by
 obtain ⟨r, hr⟩ : ∃ r, orS x y = r := ⟨_, rfl⟩
 rw [hr]
 have hc : (x ≠ 0 ∧ r = x) ∨ (x = 0 ∧ y ≠ 0 ∧ r = y) ∨ (x = 0 ∧ y = 0 ∧ r = 0) := by
  unfold orS at hr
  split at hr <;> omega
 clear hr
 go_enter Try.func45, Try.ntmps45
 go_wp2_with fail
 refine wp_loop_rounds 3 ?_
 rcases hc with ⟨a1, rfl⟩ | ⟨rfl, a2, rfl⟩ | ⟨rfl, rfl, rfl⟩
 ·rw [rounds_succ]
  go_wp2_with fail
  go_ret
  exact ⟨rfl, rfl⟩
 ·rw [rounds_succ]
  go_wp2_with fail
  rw [rounds_succ]
  go_wp2_with fail
  go_ret
  exact ⟨rfl, rfl⟩
 ·rw [rounds_succ]
  go_wp2_with fail
  rw [rounds_succ]
  go_wp2_with fail
  rw [rounds_succ]
  go_wp2_with fail
  go_ret
  exact ⟨rfl, rfl⟩
end Go.Proofs.Ytimdlohdmddnjaa.Rq
