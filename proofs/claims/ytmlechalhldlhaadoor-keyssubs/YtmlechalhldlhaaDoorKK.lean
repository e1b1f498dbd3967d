/- keys.Add: a ring with one more key. -/
import Derived.Test.YtmlechalhldlhaaDoorKJ
import Derived.OrdersHeld
namespace Go.Proofs.YtmlechalhldlhaaDoor.Rk
open Go.RowKit
/-- The next operation, where only one may come up; behind it the condition is shown anew. -/
theorem readyH {P : Program} {md : Region.Mode} {ops : Array Oper} {Q : Exit → Act → World → Prop} {S : World → Prop} {fuel : Nat} {listed : Array Bool} {a : Act} {w : World} (k : Nat) (o : Oper) (hr : Region.ready md ops listed = [k]) (ho : ops[k]? = some o)
    (hw : Region.wanted o (yielded ops a.tmps) = true)
    (h : ∀ K : Act → World → Prop, (∀ a w, S w → wpAnyH P md ops Q S fuel (listed.setIfInBounds k true) a w → K a w) → Oper.wp P o a w K Q) : wpAnyH P md ops Q S (fuel + 1) listed a w := by
  refine wpAnyH_all hr (by simp) fun j hj => ?_
  obtain rfl : j = k := by simpa using hj
  unfold wpOp
  simp only [ho, hw, if_true]
  exact .inl (h _ fun a w h1 h2 => ⟨h1, h2⟩)
/-- The built-in append, by its run, as one operation. -/
theorem op_append {P : Program} {o : Oper} {a : Act} {w : World} {K : Act → World → Prop} {Q : Exit → Act → World → Prop} (t u : TypeId) (s x : Operand) (ho : o.op = .call { callee := .builtin .append, args := #[s, x], argTypes := #[t, u] })
    {vs vx v' : Value} {w' : World} (hs : a.eval s = vs) (hx : a.eval x = vx) (hrun : (Builtin.append_ #[t, u] o.type #[vs, vx]).run P w = .ok v' w') (hK : K (a.put o.dst v') w') : o.wp P a w K Q := by
  unfold Oper.wp execOp
  simp only [ho, resolve, invoke, builtin, Sem.run_bind, Sem.run_pure, Result.andThen_ok, List.map_toArray, List.map_cons, List.map_nil, hs, hx, hrun]
  exact hK
/-- What Add tells: the ring, the error. -/
def alS (l : List Ky) (k : Ky) : List Ky := if rightS l = true ∧ rightS (withS l k) = true then withS l k else []
def aeS (l : List Ky) (k : Ky) : Int := if rightS l = true ∧ rightS (withS l k) = true then 0 else 40
theorem withS_length (l : List Ky) (k : Ky) : (withS l k).length = l.length + 1 := by
  have := placeS_le l k.1
  simp [withS]; omega
set_option maxRecDepth 100000 in
set_option maxHeartbeats 2000000 in
theorem add_any (l : List Ky) (k : Ky) (o : Option Addr) (cap : Nat) (w : World) (hr : Ring w o cap l) :
    Calls Tryd.prog 8 #[.slice o l.length cap, kv k] w fun e w' => ∃ o' cap', e = .returned (.tuple #[.slice o' (alS l k).length cap', .int .i64 (aeS l k)]) ∧ Ring w' o' cap' (alS l k) ∧ Below w.heap.size w w' := by
  have HG : Hid (Ring w o cap l) := hr
  clear hr
  obtain ⟨g, s⟩ := k
  unfold kv
  go_enter Tryd.func8, Tryd.ntmps8
  go_wp2_with fail
  refine (right_any l o cap _ (HG.out.below (below_new w _) (Nat.le_refl _))).mono ?_
  rintro e w1 ⟨rfl, b1⟩
  have B1 : Hid (Below w.heap.size w w1) := (below_new w _).trans (b1.mono (by simp))
  have H1 : Hid (w1.heap[w.heap.size]? = some (.cells #[.int .u32 g, .string s] 24 (0, 0))) := (b1.block _ (by simp)).trans (heap_alloc_new w _)
  clear b1
  cases hR : rightS l
  · have HV : Hid (alS l (g, s) = [] ∧ aeS l (g, s) = 40) := by refine (?_ : alS l (g, s) = [] ∧ aeS l (g, s) = 40); simp [alS, aeS, hR]
    clear hR
    go_wp2_with fail
    refine bodyPost_ret (results_tmp2 rfl _ _ _) rfl ?_
    exact ⟨none, 0, by rw [HV.out.1, HV.out.2]; rfl, by rw [HV.out.1]; exact nil_ring _, B1.out⟩
  · have HR : Hid (rightS l = true) := hR
    have hlen : l.length ≤ 16 := ((right_iff l).1 hR).1
    have c0 : w1.cell? ⟨w.heap.size, 0, none⟩ = some (.int .u32 g) := by rw [cell_of_row _ _ _ _ _ _ H1.out]; rfl
    clear hR
    go_wp2_with fail
    refine (place_any l g o cap _ (HG.out.below B1.out (Nat.le_refl _))).mono ?_
    rintro e w2 ⟨rfl, b2⟩
    have hl1 : w.heap.size < w1.heap.size := (Array.getElem?_eq_some_iff.1 H1.out).1
    have B2 : Hid (Below w.heap.size w w2) := B1.out.trans (b2.mono (by omega))
    have H2 : Hid (w2.heap[w.heap.size]? = some (.cells #[.int .u32 g, .string s] 24 (0, 0))) := (b2.block _ hl1).trans H1.out
    clear b2 hl1 H1 B1 c0
    have hple := placeS_le l g
    have HWS : Hid (withS l (g, s) = l.take (placeS l g) ++ (g, s) :: l.drop (placeS l g)) := rfl
    have HC : Hid (l.length ≤ cap) := HG.out.1
    obtain ⟨p, hp⟩ : ∃ p, placeS l g = p := ⟨_, rfl⟩
    rw [hp] at hple HWS ⊢
    clear hp
    have hs3 := run_head3 o l.length cap p (hk := Nat.le_trans hple HC.out)
    have hst := run_tail o l.length cap p (hk := hple)
    go_wp2_with fail
    have h2 : w2.cell? ⟨w.heap.size, 0, none⟩ = some (.int .u32 g) ∧ w2.cell? ⟨w.heap.size, 1, none⟩ = some (.string s) := ⟨by rw [cell_of_row _ _ _ _ _ _ H2.out]; rfl, by rw [cell_of_row _ _ _ _ _ _ H2.out]; rfl⟩
    refine wp_region_held (S := fun w' => w'.cell? ⟨w.heap.size, 0, none⟩ = some (.int .u32 g) ∧ w'.cell? ⟨w.heap.size, 1, none⟩ = some (.string s)) (by kernel_rfl) ?_
    change wpAnyH _ _ _ _ _ _ _ _ (World.drew _)
    have HSW : Hid (w2.drew.cell? ⟨w.heap.size, 0, none⟩ = some (.int .u32 g) ∧ w2.drew.cell? ⟨w.heap.size, 1, none⟩ = some (.string s)) := h2
    refine wpAnyH_take (i := 0) (v := ?_) rfl (by kernel_rfl) (by kernel_rfl) (by kernel_rfl) (fun _ _ _ h => h) (Or.inl ⟨by kernel_rfl, ?_⟩) HSW.out ?_
    rotate_left
    · intro w hS
      obtain ⟨e1, e2⟩ := hS
      go_simp
      try with_reducible rfl
    conv in (Act.put _ _ _) => simp only [List.getElem_toArray, List.getElem_cons_succ, List.getElem_cons_zero, Act.put, List.setIfInBounds_toArray, List.set_cons_succ, List.set_cons_zero]
    refine wpAnyH_take (i := 1) (v := ?_) rfl (by kernel_rfl) (by kernel_rfl) (by kernel_rfl) (fun _ _ _ h => h) (Or.inl ⟨by kernel_rfl, ?_⟩) HSW.out ?_
    rotate_left
    · intro w hS
      obtain ⟨e1, e2⟩ := hS
      go_simp
      try with_reducible rfl
    conv in (Act.put _ _ _) => simp only [List.getElem_toArray, List.getElem_cons_succ, List.getElem_cons_zero, Act.put, List.setIfInBounds_toArray, List.set_cons_succ, List.set_cons_zero]
    refine wpAnyH_take (i := 4) (v := ?_) rfl (by kernel_rfl) (by kernel_rfl) (by kernel_rfl) (fun _ _ _ h => h) (Or.inl ⟨by kernel_rfl, ?_⟩) HSW.out ?_
    rotate_left
    · intro w hS
      obtain ⟨e1, e2⟩ := hS
      go_simp
      try with_reducible rfl
    conv in (Act.put _ _ _) => simp only [List.getElem_toArray, List.getElem_cons_succ, List.getElem_cons_zero, Act.put, List.setIfInBounds_toArray, List.set_cons_succ, List.set_cons_zero]
    refine wpAnyH_take (i := 5) (v := ?_) rfl (by kernel_rfl) (by kernel_rfl) (by kernel_rfl) (fun _ _ _ h => h) (Or.inl ⟨by kernel_rfl, ?_⟩) HSW.out ?_
    rotate_left
    · intro w hS
      obtain ⟨e1, e2⟩ := hS
      go_simp
      try with_reducible rfl
    conv in (Act.put _ _ _) => simp only [List.getElem_toArray, List.getElem_cons_succ, List.getElem_cons_zero, Act.put, List.setIfInBounds_toArray, List.set_cons_succ, List.set_cons_zero]
    refine wpAnyH_take (i := 6) (v := ?_) rfl (by kernel_rfl) (by kernel_rfl) (by kernel_rfl) (fun _ _ _ h => h) (Or.inl ⟨by kernel_rfl, ?_⟩) HSW.out ?_
    rotate_left
    · intro w hS
      obtain ⟨e1, e2⟩ := hS
      go_simp
      try with_reducible rfl
    conv in (Act.put _ _ _) => simp only [List.getElem_toArray, List.getElem_cons_succ, List.getElem_cons_zero, Act.put, List.setIfInBounds_toArray, List.set_cons_succ, List.set_cons_zero]
    refine readyH 2 _ (by kernel_rfl) rfl (by kernel_rfl) (fun K hK => ?_)
    go_simp
    obtain ⟨W3, hW3⟩ : ∃ W3, (w2.alloc (.cells #[.int .u32 g, .string s] 24)).drew = W3 := ⟨_, rfl⟩
    have hl2 : w.heap.size < w2.heap.size := (Array.getElem?_eq_some_iff.1 H2.out).1
    have b3 : Below w2.heap.size w2 W3 := by rw [← hW3]; exact (below_new w2 _).drew
    have H3 : W3.heap[w2.heap.size]? = some (.cells #[.int .u32 g, .string s] 24 (0, 0)) := by rw [← hW3]; exact heap_alloc_new w2 _
    have X3 : W3.heap[w.heap.size]? = some (.cells #[.int .u32 g, .string s] 24 (0, 0)) := (b3.block _ hl2).trans H2.out
    have s3 : W3.cell? ⟨w.heap.size, 0, none⟩ = some (.int .u32 g) ∧ W3.cell? ⟨w.heap.size, 1, none⟩ = some (.string s) := ⟨by rw [cell_of_row _ _ _ _ _ _ X3]; rfl, by rw [cell_of_row _ _ _ _ _ _ X3]; rfl⟩
    have B3 : Hid (Below w.heap.size w W3) := B2.out.trans (b3.mono (by omega))
    rw [hW3]
    clear hW3
    have RG3 := HG.out.below B3.out (Nat.le_refl _)
    have Rh := RG3.head p p hple (Nat.le_refl _) (Nat.le_trans hple HC.out)
    have hpl : (l.take p).length = p := by rw [List.length_take]; omega
    obtain ⟨v4, W4, hr4, o4, g4⟩ := append_new W3 o (some ⟨w2.heap.size, 0, none⟩) 1 (l.take p) [(g, s)] (by rw [hpl]; exact Rh) (one_ring H3) (by simp) (by rw [hpl]; simp; omega)
    rw [hpl] at hr4
    have b4 : Below W3.heap.size W3 W4 := (Below.refl _ W3).grown g4 (Nat.le_refl _) (fun j e => by cases e)
    have hl3 : w.heap.size < W3.heap.size := (Array.getElem?_eq_some_iff.1 X3).1
    have X4 : W4.heap[w.heap.size]? = some (.cells #[.int .u32 g, .string s] 24 (0, 0)) := (b4.block _ hl3).trans X3
    have s4 : W4.cell? ⟨w.heap.size, 0, none⟩ = some (.int .u32 g) ∧ W4.cell? ⟨w.heap.size, 1, none⟩ = some (.string s) := ⟨by rw [cell_of_row _ _ _ _ _ _ X4]; rfl, by rw [cell_of_row _ _ _ _ _ _ X4]; rfl⟩
    have B4 : Hid (Below w.heap.size w W4) := B3.out.trans (b4.mono (by omega))
    have hsz4 := b4.size
    obtain ⟨v5, W5, hr5, o5, g5⟩ := append_own W4 W3.heap.size _ v4 _ _ _ (l.drop p) o4 b4.size ((HG.out.below B4.out (Nat.le_refl _)).tail p hple) (by simp; omega)
    rw [List.length_drop] at hr5
    have hne : ∀ j, v4.ownBlock = some j → W3.heap.size ≤ j := fun j e => (o4.lt j e).1
    have X5 : W5.heap[w.heap.size]? = some (.cells #[.int .u32 g, .string s] 24 (0, 0)) := (g5.block _ (by omega) (by intro e; have := hne _ e.symm; omega)).trans X4
    have s5 : W5.cell? ⟨w.heap.size, 0, none⟩ = some (.int .u32 g) ∧ W5.cell? ⟨w.heap.size, 1, none⟩ = some (.string s) := ⟨by rw [cell_of_row _ _ _ _ _ _ X5]; rfl, by rw [cell_of_row _ _ _ _ _ _ X5]; rfl⟩
    have B5 : Hid (Below w.heap.size w W5) := B4.out.grown g5 (by omega) (fun j e => by have := hne j e; omega)
    have e5 : l.take p ++ [(g, s)] ++ l.drop p = withS l (g, s) := by rw [HWS.out]; simp
    rw [e5] at o5
    obtain ⟨_, o6, cap6, rfl, R6⟩ := ring_of_own o5
    have HR6 : Hid (Ring W5 o6 cap6 (withS l (g, s))) := R6
    clear o5 g5 o4 g4 hne X5 X4 X3 b4 b3 H3 Rh RG3 R6 e5 hst hs3 h2
    refine hK _ _ s3 ?_
    clear hK K
    refine readyH 3 _ (by kernel_rfl) rfl (by kernel_rfl) (fun K hK => ?_)
    refine op_append 30 30 (.tmp 20) (.tmp 22) rfl rfl rfl hr4 ?_
    refine hK _ _ s4 ?_
    clear hK K
    conv in (Act.put _ _ _) => simp only [List.getElem_toArray, List.getElem_cons_succ, List.getElem_cons_zero, Act.put, List.setIfInBounds_toArray, List.set_cons_succ, List.set_cons_zero]
    refine readyH 7 _ (by kernel_rfl) rfl (by kernel_rfl) (fun K hK => ?_)
    refine op_append 30 30 (.tmp 23) (.tmp 26) rfl rfl rfl hr5 ?_
    refine hK _ _ s5 ?_
    clear hK K
    conv in (Act.put _ _ _) => simp only [List.getElem_toArray, List.getElem_cons_succ, List.getElem_cons_zero, Act.put, List.setIfInBounds_toArray, List.set_cons_succ, List.set_cons_zero]
    refine readyH 8 _ (by kernel_rfl) rfl (by kernel_rfl) (fun K hK => ?_)
    go_simp
    refine hK _ _ s5 ?_
    clear hK K
    refine wpAnyH_done (by kernel_rfl) ?_ _
    clear hr4 hr5 s3 s4 s5
    generalize (if cap = p then o else Option.map (fun x => x.add (p * 2)) o) = ot
    go_wp2_with fail
    refine (right_any (withS l (g, s)) o6 cap6 W5 HR6.out).mono ?_
    rintro e w7 ⟨rfl, b7⟩
    have B7 : Hid (Below w.heap.size w w7) := B5.out.trans (b7.mono B5.out.size)
    have R7 : Hid (Ring w7 o6 cap6 (withS l (g, s))) := HR6.out.below b7 (Nat.le_refl _)
    clear b7
    cases hR7 : rightS (withS l (g, s))
    · have HV : Hid (alS l (g, s) = [] ∧ aeS l (g, s) = 40) := by refine (?_ : alS l (g, s) = [] ∧ aeS l (g, s) = 40); simp [alS, aeS, hR7]
      clear hR7
      go_wp2_with fail
      refine bodyPost_ret (results_tmp2 rfl _ _ _) rfl ?_
      exact ⟨none, 0, by rw [HV.out.1, HV.out.2]; rfl, by rw [HV.out.1]; exact nil_ring _, B7.out⟩
    · have HV : Hid (alS l (g, s) = withS l (g, s) ∧ aeS l (g, s) = 0) := by refine (?_ : alS l (g, s) = withS l (g, s) ∧ aeS l (g, s) = 0); simp [alS, aeS, hR7, HR.out]
      clear hR7
      go_wp2_with fail
      refine bodyPost_ret (results_tmp2 rfl _ _ _) rfl ?_
      exact ⟨o6, cap6, by rw [HV.out.1, HV.out.2]; rfl, by rw [HV.out.1]; exact R7.out, B7.out⟩
end Go.Proofs.YtmlechalhldlhaaDoor.Rk
