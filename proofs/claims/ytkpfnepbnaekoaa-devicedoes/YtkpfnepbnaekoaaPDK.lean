/- All keys of a map, in a row. -/
import Derived.Test.YtkpfnepbnaekoaaPDJ
namespace Go.Proofs.Ytkpfnepbnaekoaa.Rd
open Go.RowKit Go.Shelf Go.Lib
attribute [local go_sem] Oper.semAt_some
set_option maxRecDepth 100000 in
theorem len_le : ∀ (N : Nat) (l : List Nat), l.Nodup → (∀ x ∈ l, x < N) → l.length ≤ N
  | 0, l, _, h => by
    cases l with
    | nil => simp
    | cons a t => exact absurd (h a (by simp)) (by omega)
  | N + 1, l, hn, h => by
    by_cases hm : N ∈ l
    · have := len_le N (l.erase N) (hn.erase N) (fun x hx => by
        have h1 := h x (List.mem_of_mem_erase hx)
        have h2 : x ≠ N := fun e => by subst e; exact hn.not_mem_erase hx
        omega)
      rw [List.length_erase_of_mem hm] at this
      omega
    · have := len_le N l hn (fun x hx => by
        have h1 := h x hx
        have h2 : x ≠ N := fun e => by subst e; exact hm hx
        omega)
      omega
/-- A number as a value. -/
abbrev u32v (x : Nat) : Value := .int .u32 (x : Int)
set_option maxRecDepth 100000 in
theorem info32 : (Try.prog.info? 32).map (fun i => (i.zero, i.size, i.bytes)) = some (some (.int .u32 0), 1, 4) := by kernel_rfl
set_option maxRecDepth 100000 in
theorem gb_set (w : World) (g k : Nat) (v : Value) : w.grownBy (w.setCell ⟨g, k, none⟩ v) (some g) :=
  ⟨rfl, rfl, rfl, by simp [World.setCell], fun j _ hne => Below.heap_setCell _ _ _ _ (fun e => hne (by rw [e]))⟩
set_option maxRecDepth 100000 in
/-- The built-in append, by its run, inside a fence. -/
theorem opIn_append {F : Fence} {n : Nat} {P : Program} {o : Oper} {a : Act} {w : World} {K : Act → World → Prop} {Q : Exit → Act → World → Prop} (t u : TypeId) (s x : Operand) (ho : o.op = .call { callee := .builtin .append, args := #[s, x], argTypes := #[t, u] })
    {vs vx v' : Value} {w' : World} (hs : a.eval s = vs) (hx : a.eval x = vx) (hrun : (Builtin.append_ #[t, u] o.type #[vs, vx]).run P w = .ok v' w') (hK : K (a.put o.dst v') w') : o.wpIn F n P a w K Q := by
  unfold Oper.wpIn
  refine ⟨?_, ?_⟩
  · simp [Oper.about, ho, resolve, Target.leads]
  · rw [Oper.semAt_plain F _ _ (by rw [ho]; intro c hc; cases hc)]
    simp [execOp, ho, hs, hx, hrun, Result.andThen, resolve, invoke, builtin]
    exact hK
set_option maxRecDepth 100000 in
theorem listIn_append {F : Fence} {n : Nat} {P : Program} {ops : Array Oper} {rest : List Oper} {o : Oper} {a : Act} {w : World} {Q : Exit → Act → World → Prop} (hgd : o.guard = none) (t u : TypeId) (s x : Operand) (ho : o.op = .call { callee := .builtin .append, args := #[s, x], argTypes := #[t, u] })
    {vs vx v' : Value} {w' : World} (hs : a.eval s = vs) (hx : a.eval x = vx) (hrun : (Builtin.append_ #[t, u] o.type #[vs, vx]).run P w = .ok v' w') (h : wpListIn F n P ops Q rest (a.put o.dst v') w') : wpListIn F n P ops Q (o :: rest) a w :=
  wpListIn_plain hgd fun _ hK => opIn_append t u s x ho hs hx hrun (hK _ _ h)
/-- The row of what has come so far. -/
def AJ (f : Nat → Option ByteArray) (bx : Nat) (w : World) (l : List Nat) (W : World) : Prop :=
  l.Nodup ∧ (∀ p ∈ l, (f p).isSome = true) ∧ (∃ v, W.heap[bx]? = some (.cells #[v] 105 (0, 0)) ∧ W.ownsRow (bx + 1) 32 1 v l.length (l.map u32v)) ∧ Below bx w W
set_option maxRecDepth 100000 in
theorem ownsRow_kz {b base : Nat} {A B : World} {e : TypeId} {v : Value} {k : Nat} {xs : List Value} (h : A.ownsRow base e 1 v k xs) (hk : Kz b A B) : B.ownsRow base e 1 v k xs := by
  refine ⟨h.1, ?_⟩
  rcases h.2 with h | ⟨g, cap, cur, e1, e2, e3, e4⟩
  · exact .inl h
  · exact .inr ⟨g, cap, cur, e1, e2, hk.2 g _ e3 rfl, e4⟩
set_option maxRecDepth 100000 in
theorem AJ.kz {f : Nat → Option ByteArray} {bx b : Nat} {w : World} {l : List Nat} {A B : World} (h : AJ f bx w l A) (hk : Kz b A B) (hb : bx ≤ b) : AJ f bx w l B := by
  obtain ⟨h1, h2, ⟨v, h3, h4⟩, h5⟩ := h
  exact ⟨h1, h2, ⟨v, hk.2 bx _ h3 rfl, ownsRow_kz h4 hk⟩, h5.trans (hk.1.mono hb)⟩
set_option maxRecDepth 100000 in
set_option maxHeartbeats 2000000 in
theorem appseq_in (f : Nat → Option ByteArray) (hf : ∀ p t, f p = some t → p < 4096) (m mb : Nat) (w : World) (hm : Pm w m f) (hmb : w.heap[mb]? = some (.cells #[.map (some m)] 71 (0, 0))) :
    CallsIn Fence.wide 5 Try.prog 73 #[.slice none 0 0, .func (.func 70) #[] #[.pointer (some ⟨mb, 0, none⟩)]] w
      fun e w' => ∃ l v, e = .returned v ∧ AllKeys f l ∧ w'.ownsRow (w.heap.size + 1) 32 1 v l.length (l.map u32v) ∧ Below w.heap.size w w' := by
  obtain ⟨es, cl, hm1, hE⟩ := hm.ent
  have HM : Hid _ := hm1
  have HMB : Hid _ := hmb
  have HE : Hid _ := hE
  have HF : Hid (∀ p t, f p = some t → p < 4096) := hf
  have hml : m < w.heap.size := (Array.getElem?_eq_some_iff.1 hm1).1
  have hmbl : mb < w.heap.size := (Array.getElem?_eq_some_iff.1 hmb).1
  clear hm hm1 hmb hE hf
  refine callsIn_of_wp_marks Try.func73 rfl trivial ?_ rfl
  simp only [Try.ntmps73, List.size_toArray, List.length_cons, List.length_nil, Nat.reduceAdd, Nat.reduceSub, Array.replicate_succ, Array.replicate_zero, List.push_toArray, List.append_toArray, List.nil_append, List.cons_append]
  gi_wp2
  have S3 : (w.alloc (.cells #[.slice none 0 0] 105)).heap.size = w.heap.size + 1 := by simp
  have X3 : (w.alloc (.cells #[.slice none 0 0] 105)).heap[w.heap.size]? = some (.cells #[.slice none 0 0] 105 (0, 0)) := heap_alloc_new w _
  have B3 : Below w.heap.size w (w.alloc (.cells #[.slice none 0 0] 105)) := below_new w _
  obtain ⟨w3, hw3⟩ : ∃ w3, w.alloc (.cells #[.slice none 0 0] 105) = w3 := ⟨_, rfl⟩
  rw [hw3] at S3 X3 B3 ⊢
  clear hw3
  have HX3 : Hid _ := X3
  clear X3
  refine range_law7 rfl (by omega) (gf := 70) (lb := #[.pointer (some ⟨mb, 0, none⟩)]) rfl trivial (enters_of Try.func70 (by kernel_rfl) rfl)
    (ι := List Nat) (α := Nat) (fun x => #[u32v x]) (fun _ => rfl) (fun l x => l ++ [x]) (fun l x => (f x).isSome = true ∧ x ∉ l) (AllKeys f) [] (fun j => j = m) (by omega)
    (fun l W => AJ f w.heap.size w l W) (fun _ => False) .ret (fun l A B h hk => h.kz hk (by omega)) (fun _ _ h _ => h) ?h0
    (fun x a' _ => a' = { tmps := #[Value.slice none 0 0, Value.func (Fn.func 70) #[] #[Value.pointer (some ⟨mb, 0, none⟩)], Value.pointer (some ⟨w.heap.size, 0, none⟩), undef, Value.slice none 0 0, u32v x,
          Value.func (Fn.func 70) #[] #[Value.pointer (some ⟨mb, 0, none⟩)], u32v x, undef, undef, undef, undef, undef], defers := [] }) (fun _ _ _ _ _ h _ _ => h) ?assign ?body ?iter ?done ?stop
  case h0 => exact ⟨List.nodup_nil, by simp, ⟨_, HX3.out, World.ownsRow_nil _ _ _ _⟩, B3⟩
  case assign =>
    intro p l x W K hk hJ hsz hK
    clear hJ
    gi_wp2
    exact hK _ _ (Below.refl _ _) rfl
  case iter =>
    intro p W1 hp hB1 hs1 R Rx hR hRx hRJ hY h0
    exact keys1_in es cl f HE.out m mb p W1 (fun j => j = m) rfl w3.heap.size (by omega) (by omega) ((hB1.block mb (by omega)).trans ((B3.block mb hmbl).trans HMB.out)) ((hB1.block m (by omega)).trans ((B3.block m hml).trans HM.out)) R Rx hR (fun l x W hok hr => hY l x W hok hr) h0
  case body =>
    rintro p l x a' W hok ⟨j1, j2, ⟨v, j3, j4⟩, j5⟩ rfl hsz
    have hlen : l.length ≤ 4096 := len_le 4096 l j1 fun p hp => by
      obtain ⟨t, ht⟩ := Option.isSome_iff_exists.1 (j2 p hp)
      exact HF.out p t ht
    obtain ⟨i, hi, hzz⟩ := Option.map_eq_some_iff.1 info32
    simp only [Prod.mk.injEq] at hzz
    obtain ⟨hz, hs, hb⟩ := hzz
    obtain ⟨v', W', hrun, r1, r2, r3⟩ := run_append_own (P := Try.prog) (W.alloc (.cells #[u32v x] 32)) (w.heap.size + 1) 105 105 32 i _ 1 4 Try.underlying105 hi hz hs hb rfl (by decide)
      v l.length (l.map u32v) (j4.alloc _) ⟨W.heap.size, 0, none⟩ 1 1 [u32v x] rfl (cell_one_new _ _ _) (by simp [Value.oneCell']) (by simp only [maxLen]; omega) (by omega) (by simp; omega)
    have c1 : W.cell? ⟨w.heap.size, 0, none⟩ = some v := by rw [cell_of_row _ _ _ _ _ _ j3]; rfl
    have hbw : w.heap.size < W.heap.size := by omega
    have nb : v.ownBlock ≠ some w.heap.size := by
      rcases j4.2 with ⟨rfl, _⟩ | ⟨g, cap, cur, rfl, hg, _⟩
      · simp [Value.ownBlock]
      · simp [Value.ownBlock]; omega
    have k3 : W'.heap[w.heap.size]? = some (.cells #[v] 105 (0, 0)) := (r2.block _ (by simp; omega) (fun e => nb e.symm)).trans ((Below.heap_alloc _ _ _ hbw).trans j3)
    have c2 : W'.cell? ⟨w.heap.size, 0, none⟩ = some v := by rw [cell_of_row _ _ _ _ _ _ k3]; rfl
    have z2 := frozen_of_row W' w.heap.size 0 _ _ k3
    obtain ⟨g', cap', rfl⟩ := ownsRow_succ r1
    have hkf : KeepsFrom w3.heap.size W (W'.setCell ⟨w.heap.size, 0, none⟩ (.slice (some ⟨g', 0, none⟩) (l.length + 1) cap')) := by
      refine (((KeepsOthers.alloc W _).trans (KeepsOthers.of_grownBy r2 fun j o ej hj => ?_)).trans (KeepsOthers.setCell _ _ _)).from _
      rcases (j4.alloc (.cells #[u32v x] 32)).2 with ⟨rfl, _⟩ | ⟨g, cap, cur, rfl, _, hgb, _⟩
      · simp [Value.ownBlock] at ej
      · simp only [Value.ownBlock, Option.some.injEq] at ej
        rw [← ej, hgb] at hj
        cases hj
        rfl
    have hbl : Below w.heap.size W (W'.setCell ⟨w.heap.size, 0, none⟩ (.slice (some ⟨g', 0, none⟩) (l.length + 1) cap')) := by
      refine (((Below.refl w.heap.size W).alloc (by omega) (.cells #[u32v x] 32)).grown r2 (by simp; omega) fun k ek => ?_).setCell (p := ⟨w.heap.size, 0, none⟩) (Nat.le_refl _) _
      rcases j4.2 with ⟨rfl, _⟩ | ⟨g, cap, cur, rfl, hg, _⟩
      · simp [Value.ownBlock] at ek
      · simp [Value.ownBlock] at ek; omega
    have hrw : (W'.setCell ⟨w.heap.size, 0, none⟩ (.slice (some ⟨g', 0, none⟩) (l.length + 1) cap')).ownsRow (w.heap.size + 1) 32 1 (.slice (some ⟨g', 0, none⟩) (l.length + 1) cap') (l.length + 1) (l.map u32v ++ [u32v x]) := by
      refine r1.kept (gb_set W' w.heap.size 0 _) (.inr ?_)
      rcases r1.2 with ⟨h, _⟩ | ⟨g, cap, cur, h, hg, _⟩
      · cases h
      · simp only [Value.slice.injEq, Option.some.injEq, Addr.mk.injEq] at h
        simp [Value.ownBlock]
        omega
    have hbx := set_at W' w.heap.size 0 _ _ _ (.slice (some ⟨g', 0, none⟩) (l.length + 1) cap') k3
    have HKF : Hid _ := hkf
    have HBL : Hid _ := hbl
    have HRW : Hid _ := hrw
    have HBX : Hid _ := hbx
    have J1 : Hid _ := j1
    have J2 : Hid _ := j2
    have J5 : Hid _ := j5
    have HOK : Hid _ := hok
    have hnl : v = .slice none 0 0 ∧ l.length = 0 ∨ ∃ g cap, v = .slice (some ⟨g, 0, none⟩) l.length cap := by
      rcases j4.2 with h | ⟨g, cap, cur, h, _⟩
      · exact .inl h
      · exact .inr ⟨g, cap, h⟩
    have fin : ∀ a', lPost7 w3.heap.size (fun j => j = m) (fun W => AJ f w.heap.size w (l ++ [x]) W) (fun _ => False) Code.ret W Exit.normal a' (W'.setCell ⟨w.heap.size, 0, none⟩ (.slice (some ⟨g', 0, none⟩) (l.length + 1) cap')) := fun a' => by
      refine ⟨HKF.out, ⟨HBL.out.size, fun j hj _ => HBL.out.block j (by omega)⟩, ?_, ?_, ⟨_, HBX.out, ?_⟩, J5.out.trans HBL.out⟩
      · rw [List.nodup_append]
        exact ⟨J1.out, by simp, fun a ha b hb => by simp at hb; subst hb; intro e; subst e; exact HOK.out.2 ha⟩
      · intro q hq
        rcases List.mem_append.1 hq with hq | hq
        · exact J2.out q hq
        · simp at hq; subst hq; exact HOK.out.1
      · have := HRW.out
        rw [List.map_append, List.length_append]
        exact this
    have FIN : Hid _ := fin
    clear hkf hbl hrw hbx fin j1 j2 j5 hok r1 r2 r3 j3 j4 k3 nb
    rcases hnl with ⟨rfl, hl0⟩ | ⟨g, cap, rfl⟩
    · clear hl0
      gi_wp2_with (gi_at_builtin; refine listIn_append rfl 105 105 (.tmp 8) (.tmp 10) rfl (vs := .slice none 0 0) (vx := .slice (some ⟨W.heap.size, 0, none⟩) 1 1) rfl rfl hrun ?_)
      exact FIN.out _
    · gi_wp2_with (gi_at_builtin; refine listIn_append rfl 105 105 (.tmp 8) (.tmp 10) rfl (vs := .slice (some ⟨g, 0, none⟩) l.length cap) (vx := .slice (some ⟨W.heap.size, 0, none⟩) 1 1) rfl rfl hrun ?_)
      exact FIN.out _
  case done =>
    rintro D l W hD hfin ⟨_, _, ⟨v, j3, j4⟩, j5⟩ hK
    have c1 : W.cell? ⟨w.heap.size, 0, none⟩ = some v := by rw [cell_of_row _ _ _ _ _ _ j3]; rfl
    have J4 : Hid _ := j4
    have J5 : Hid _ := j5
    have HK : Hid _ := hK
    clear j3 j4 j5 hK
    gi_wp2
    refine ⟨by simp, .inl ⟨_, _, rfl, run_takeDeferred HK.out, ?_⟩⟩
    refine ⟨_, results_tmp rfl _ _ _, l, v, rfl, hfin, ?_, J5.out.trans (below_put _ _ (by omega))⟩
    exact ownsRow_putObj J4.out _ HK.out rfl
  case stop => exact fun _ _ _ h _ => h.elim
set_option maxRecDepth 100000 in
set_option maxHeartbeats 1000000 in
theorem collect_any (f : Nat → Option ByteArray) (hf : ∀ p t, f p = some t → p < 4096) (m mb : Nat) (w : World) (hm : Pm w m f) (hmb : w.heap[mb]? = some (.cells #[.map (some m)] 71 (0, 0))) :
    Calls Try.prog 68 #[.func (.func 70) #[] #[.pointer (some ⟨mb, 0, none⟩)]] w
      fun e w' => ∃ l v, e = .returned v ∧ AllKeys f l ∧ w'.ownsRow (w.heap.size + 1) 32 1 v l.length (l.map u32v) ∧ Below w.heap.size w w' := by
  have HA : Hid _ := callsIn_wide.1 (appseq_in f hf m mb w hm hmb)
  clear hm hmb hf
  go_enter Try.func68, Try.ntmps68
  go_wp2_with fail
  refine Calls.mono HA.out ?_
  rintro e w1 ⟨l, v, rfl, h1, h2, h3⟩
  have H1 : Hid _ := h1
  have H2 : Hid _ := h2
  have H3 : Hid _ := h3
  clear h1 h2 h3
  go_wp2_with fail
  go_ret
  exact ⟨l, v, rfl, H1.out, H2.out, H3.out⟩
end Go.Proofs.Ytkpfnepbnaekoaa.Rd
