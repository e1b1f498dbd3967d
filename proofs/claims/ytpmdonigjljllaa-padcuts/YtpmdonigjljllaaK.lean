/- The function that yields a text's parts. -/
import Derived.Test.YtpmdonigjljllaaJ
import Derived.Test.YtpmdonigjljllaaAb
namespace Go.Proofs.Ytpmdonigjljllaa
open Go.RowKit Go.Shelf Go.Lib
attribute [local go_sem] Oper.semAt_some
/-- The built-in append, by its run, inside a fence. -/
theorem opIn_append {F : Fence} {n : Nat} {P : Program} {o : Oper} {a : Act} {w : World} {K : Act → World → Prop} {Q : Exit → Act → World → Prop} (t u : TypeId) (s x : Operand) (ho : o.op = .call { callee := .builtin .append, args := #[s, x], argTypes := #[t, u] })
    {vs vx v' : Value} {w' : World} (hs : a.eval s = vs) (hx : a.eval x = vx) (hrun : (Builtin.append_ #[t, u] o.type #[vs, vx]).run P w = .ok v' w') (hK : K (a.put o.dst v') w') : o.wpIn F n P a w K Q := by
  unfold Oper.wpIn
  refine ⟨?_, ?_⟩
  · simp [Oper.about, ho, resolve, Target.leads]
  · rw [Oper.semAt_plain F _ _ (by rw [ho]; intro c hc; cases hc)]
    simp [execOp, ho, hs, hx, hrun, Result.andThen, resolve, invoke, builtin]
    exact hK
theorem listIn_append {F : Fence} {n : Nat} {P : Program} {ops : Array Oper} {rest : List Oper} {o : Oper} {a : Act} {w : World} {Q : Exit → Act → World → Prop} (hgd : o.guard = none) (t u : TypeId) (s x : Operand) (ho : o.op = .call { callee := .builtin .append, args := #[s, x], argTypes := #[t, u] })
    {vs vx v' : Value} {w' : World} (hs : a.eval s = vs) (hx : a.eval x = vx) (hrun : (Builtin.append_ #[t, u] o.type #[vs, vx]).run P w = .ok v' w') (h : wpListIn F n P ops Q rest (a.put o.dst v') w') : wpListIn F n P ops Q (o :: rest) a w :=
  wpListIn_plain hgd fun _ hK => opIn_append t u s x ho hs hx hrun (hK _ _ h)
/-- The built-in min, by its run, inside a fence. -/
theorem opIn_min {F : Fence} {n : Nat} {P : Program} {o : Oper} {a : Act} {w : World} {K : Act → World → Prop} {Q : Exit → Act → World → Prop} (t u : TypeId) (s x : Operand) (ho : o.op = .call { callee := .builtin .min, args := #[s, x], argTypes := #[t, u] })
    {p q r : Int} (hs : a.eval s = .int .i64 p) (hx : a.eval x = .int .i64 q) (hr : (if q < p then q else p) = r) (hK : K (a.put o.dst (.int .i64 r)) w) : o.wpIn F n P a w K Q := by
  have hrun : (Builtin.min_ #[t, u] o.type #[.int .i64 p, .int .i64 q]).run P w = .ok (.int .i64 r) w := by subst hr; rfl
  unfold Oper.wpIn
  refine ⟨?_, ?_⟩
  · simp [Oper.about, ho, resolve, Target.leads]
  · rw [Oper.semAt_plain F _ _ (by rw [ho]; intro c hc; cases hc)]
    simp [execOp, ho, hs, hx, hrun, Result.andThen, resolve, invoke, builtin]
    exact hK
theorem listIn_min {F : Fence} {n : Nat} {P : Program} {ops : Array Oper} {rest : List Oper} {o : Oper} {a : Act} {w : World} {Q : Exit → Act → World → Prop} (hgd : o.guard = none) (t u : TypeId) (s x : Operand) (ho : o.op = .call { callee := .builtin .min, args := #[s, x], argTypes := #[t, u] })
    {p q r : Int} (hs : a.eval s = .int .i64 p) (hx : a.eval x = .int .i64 q) (hr : (if q < p then q else p) = r) (h : wpListIn F n P ops Q rest (a.put o.dst (.int .i64 r)) w) : wpListIn F n P ops Q (o :: rest) a w :=
  wpListIn_plain hgd fun _ hK => opIn_min t u s x ho hs hx hr (hK _ _ h)
theorem parts_any (s : ByteArray) (w : World) :
    Calls Try.prog 18 #[.string s] w fun e w' => e = .returned (.func (.func 19) #[] #[.pointer (some ⟨w.heap.size, 0, none⟩)]) ∧ w' = w.alloc (.cells #[.string s] 9) := by
  go_enter Try.func18, Try.ntmps18
  go_wp2_with fail
  go_ret
  exact ⟨rfl, rfl⟩
/-- What is left of a text behind k parts. -/
def restS (s : ByteArray) (k : Nat) : ByteArray := s.extract (198 * k) s.size
theorem rest_size (s : ByteArray) (k : Nat) : (restS s k).size = s.size - 198 * k := by unfold restS; rw [ext_size]; omega
theorem rest_zero (s : ByteArray) : restS s 0 = s := by unfold restS; rw [Nat.mul_zero]; exact ByteArray.extract_zero_size
theorem rest_head (s : ByteArray) (k : Nat) : (restS s k).extract 0 (min (restS s k).size 198) = part s k := by
  have z := rest_size s k
  refine bt_same _ _ (by rw [ext_size]; unfold part; rw [ext_size]; omega) fun j hj => ?_
  rw [ext_size] at hj
  rw [bt_ext _ _ _ _ (by omega)]
  unfold restS part
  rw [bt_ext _ _ _ _ (by omega), bt_ext _ _ _ _ (by omega), Nat.zero_add]
theorem rest_tail (s : ByteArray) (k : Nat) : (restS s k).extract (min (restS s k).size 198) (restS s k).size = restS s (k + 1) := by
  have z := rest_size s k
  have z2 := rest_size s (k + 1)
  refine bt_same _ _ (by rw [ext_size, z2]; omega) fun j hj => ?_
  rw [ext_size] at hj
  have e : min (restS s k).size 198 = 198 := by omega
  rw [bt_ext _ _ _ _ (by omega), e]
  unfold restS
  rw [bt_ext _ _ _ _ (by omega), bt_ext _ _ _ _ (by omega), show 198 * k + (198 + j) = 198 * (k + 1) + j by omega]
theorem part_end (s : ByteArray) : part s (nParts s) = ⟨#[]⟩ := by
  have h := nParts_lt s (nParts s)
  refine bt_same _ _ (by unfold part; rw [ext_size]; show _ = 0; omega) fun j hj => ?_
  unfold part at hj
  rw [ext_size] at hj
  omega
set_option maxRecDepth 100000 in
set_option maxHeartbeats 1000000 in
theorem parts1_in (s : ByteArray) (hs : s.size ≤ 5000) (b1 p : Nat) (W1 : World) (h1 : W1.heap[b1]? = some (.cells #[.string s] 9 (0, 0))) (R : Nat → World → Prop) (Rx : World → Prop)
    (hY : ∀ k W, k < nParts s + 1 → R k W → YieldAt Fence.wide 3 Try.prog p #[.string (part s k)] W fun e W' => (e = .returned (.bool true) ∧ R (k + 1) W') ∨ (e = .returned (.bool false) ∧ Rx W'))
    (hN : ∀ W, ¬ R (nParts s + 1) W) (h0 : R 0 W1) :
    CallsIn Fence.wide 4 Try.prog 19 (#[.func (.yield p) #[] #[]] ++ #[.pointer (some ⟨b1, 0, none⟩)]) W1 fun e W' => (∃ v, e = .returned v) ∧ (R (nParts s + 1) W' ∨ Rx W') := by
  have HY : Hid _ := hY
  have HN : Hid _ := hN
  have H0 : Hid (R 0 W1) := h0
  have c1 : W1.cell? ⟨b1, 0, none⟩ = some (.string s) := by rw [cell_of_row _ _ _ _ _ _ h1]; rfl
  clear hY hN h0 h1
  refine callsIn_of_wp Try.func19 rfl trivial ?_ rfl
  simp only [Try.ntmps19, List.size_toArray, List.length_cons, List.length_nil, Nat.reduceAdd, Nat.reduceSub, Array.replicate_succ, Array.replicate_zero, List.push_toArray, List.append_toArray, List.nil_append, List.cons_append]
  gi_wp2
  clear c1
  gi_loopw [3] (fun v wr => ∃ k : Nat, k ≤ nParts s ∧ v = .string (restS s k) ∧ R k wr) (fun v _ => sizeOfV v)
  case atStart => exact ⟨0, by omega, by rw [rest_zero], H0.out⟩
  case round =>
    clear H0
    obtain ⟨k, hk, rfl, hRk⟩ := hrel
    have z := rest_size s k
    have rh := rest_head s k
    have rt := rest_tail s k
    have hmn : (if (198 : Int) < ((restS s k).size : Int) then (198 : Int) else ((restS s k).size : Int)) = ((min (restS s k).size 198 : Nat) : Int) := by split <;> omega
    have s1 := run_head (restS s k) (min (restS s k).size 198) (by omega)
    have s2 := run_tail (restS s k) (min (restS s k).size 198) (by omega)
    rw [rh] at s1
    rw [rt] at s2
    have HZ : Hid (k < nParts s → (restS s (k + 1)).size < (restS s k).size) := fun h => by
      have := (nParts_lt s k).1 h
      have := rest_size s (k + 1)
      omega
    obtain ⟨m, hm⟩ : ∃ m, min (restS s k).size 198 = m := ⟨_, rfl⟩
    rw [hm] at hmn s1 s2
    have m0 : (0 : Int) ≤ (m : Int) := by omega
    have m1 : (m : Int) ≤ 198 := by omega
    have HE : Hid (∃ y, restS s (k + 1) = y) := ⟨_, rfl⟩
    obtain ⟨fn, tmps, assign, body, hy, hRd⟩ := HY.out k wr (by omega) hRk
    obtain ⟨y, hyy⟩ : ∃ y, restS s (k + 1) = y := ⟨_, rfl⟩
    have HYY : Hid (restS s (k + 1) = y) := hyy
    rw [hyy] at s2 HZ
    generalize restS s k = x at *
    generalize part s k = u at *
    have hz5 : (x.size : Int) ≤ 5000 := by omega
    clear hRk rh rt hm z hyy HE
    gi_wp2_with (gi_at_builtin; refine listIn_min rfl 3 3 (.tmp 7) (.const (.int .i64 198)) rfl (p := (x.size : Int)) (q := 198) rfl rfl hmn ?_)
    refine hRd.mono ?_
    rintro e W6 (⟨rfl, hR6⟩ | ⟨rfl, hx6⟩)
    · by_cases hkn : k = nParts s
      · rw [hkn] at hR6
        exact (HN.out _ hR6).elim
      · gi_wp2
        go_roundw
        case rel => exact ⟨k + 1, by omega, by rw [HYY.out], hR6⟩
        case measure => exact HZ.out (by omega)
    · gi_wp2
      refine bodyPost_ret (results_none rfl _ _ _) rfl ?_
      exact ⟨⟨_, rfl⟩, .inr hx6⟩
end Go.Proofs.Ytpmdonigjljllaa
