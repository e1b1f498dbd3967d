/- The parts of a text; lists of texts in memory. -/
import Derived.Test.YtpmdonigjljllaaH
namespace Go.Proofs.Ytpmdonigjljllaa
open Go.RowKit
/-- How many parts a text has. -/
def nParts (s : ByteArray) : Nat := (s.size + 197) / 198
/-- A part of a text. -/
def part (s : ByteArray) (k : Nat) : ByteArray := s.extract (198 * k) (min (198 * k + 198) s.size)
/-- The first k parts. -/
def partsS (s : ByteArray) (k : Nat) : List ByteArray := (List.range k).map (part s)
def cutS (s : ByteArray) : List ByteArray := partsS s (nParts s)
theorem nParts_lt (s : ByteArray) (k : Nat) : k < nParts s ↔ 198 * k < s.size := by unfold nParts; omega
theorem part_size (s : ByteArray) (k : Nat) (h : k < nParts s) : 1 ≤ (part s k).size ∧ (part s k).size ≤ 198 ∧ (k + 1 < nParts s → (part s k).size = 198) := by
  have h1 := (nParts_lt s k).1 h
  have h2 := nParts_lt s (k + 1)
  unfold part
  rw [ext_size]
  omega
theorem partsS_length (s : ByteArray) (k : Nat) : (partsS s k).length = k := by simp [partsS]
theorem partsS_succ (s : ByteArray) (k : Nat) : partsS s (k + 1) = partsS s k ++ [part s k] := by simp [partsS, List.range_succ]
/-- The text at an index. -/
def sat (l : List ByteArray) (i : Nat) : ByteArray := (l[i]?).getD ⟨#[]⟩
theorem sat_parts (s : ByteArray) (k i : Nat) (h : i < k) : sat (partsS s k) i = part s i := by simp [sat, partsS, h]
/-- The texts that lie where a slice begins. -/
def Strs (w : World) (o : Option Addr) (l : List ByteArray) : Prop := l ≠ [] → ∃ g, o = some ⟨g, 0, none⟩ ∧ g < w.heap.size ∧ ∀ i, i < l.length → w.cell? ⟨g, i, none⟩ = some (.string (sat l i))
theorem Strs.below {w w' : World} {o : Option Addr} {B : Nat} {l : List ByteArray} (h : Strs w o l) (hb : Below B w w') (hB : w.heap.size ≤ B) : Strs w' o l := fun hl => by
  obtain ⟨g, e, hlt, hc⟩ := h hl
  exact ⟨g, e, Nat.lt_of_lt_of_le hlt hb.size, fun i hi => (World.cell?_of_block (a := ⟨g, i, none⟩) (hb.block g (by omega))).trans (hc i hi)⟩
theorem strs_of_own {w : World} {base : Nat} {v : Value} {l : List ByteArray} (ho : w.ownsRow base 9 1 v l.length (l.map Value.string)) : ∃ o cap, v = .slice o l.length cap ∧ Strs w o l := by
  rcases ho.2 with ⟨rfl, h⟩ | ⟨g, cap, cur, rfl, hb, hh, h1, h2, h3, h4⟩
  · exact ⟨none, 0, by rw [h], fun hl => absurd (List.length_eq_zero_iff.1 h) hl⟩
  · refine ⟨_, _, rfl, fun _ => ⟨g, rfl, (Array.getElem?_eq_some_iff.1 hh).1, fun i hi => ?_⟩⟩
    rw [cell_of_row _ _ _ _ _ _ hh]
    have e : (l.map Value.string)[i]? = some (.string (sat l i)) := by simp [sat, hi]
    rw [← h4, Nat.mul_one, List.getElem?_take_of_lt hi] at e
    simpa using e
theorem info9 : (Try.prog.info? 9).map (fun i => (i.zero, i.size, i.bytes)) = some (some (.string ⟨#[]⟩), 1, 16) := by kernel_rfl
theorem info_parts {t : TypeId} {z : Value} {s b : Nat} (h : (Try.prog.info? t).map (fun i => (i.zero, i.size, i.bytes)) = some (some z, s, b)) : ∃ i, Try.prog.info? t = some i ∧ i.zero = some z ∧ i.size = s ∧ i.bytes = b := by
  obtain ⟨i, hi, h'⟩ := Option.map_eq_some_iff.1 h
  simp at h'
  exact ⟨i, hi, h'.1, h'.2.1, h'.2.2⟩
/-- The built-in append, by its run. -/
theorem list_append {P : Program} {ops : Array Oper} {rest : List Oper} {o : Oper} {a : Act} {w : World} {Q : Exit → Act → World → Prop} (hgd : o.guard = none) (t u : TypeId) (s x : Operand) (ho : o.op = .call { callee := .builtin .append, args := #[s, x], argTypes := #[t, u] })
    {vs vx v' : Value} {w' : World} (hs : a.eval s = vs) (hx : a.eval x = vx) (hrun : (Builtin.append_ #[t, u] o.type #[vs, vx]).run P w = .ok v' w') (h : wpList P ops Q rest (a.put o.dst v') w') : wpList P ops Q (o :: rest) a w :=
  wpList_plain hgd fun _ hK => by
    unfold Oper.wp execOp
    simp only [ho, resolve, invoke, builtin, Sem.run_bind, Sem.run_pure, Result.andThen_ok, List.map_toArray, List.map_cons, List.map_nil, hs, hx, hrun]
    exact hK _ _ h
theorem cell_one (w : World) (v : Value) (t : TypeId) : ∀ j u, [v][j]? = some u → (w.alloc (.cells #[v] t)).cell? ((⟨w.heap.size, 0, none⟩ : Addr).add j) = some u := fun j u hj => by
  match j, hj with
  | 0, hj => rw [Addr.add_lit, cell_of_row _ _ _ _ _ _ (heap_alloc_new w _)]; simpa using hj
  | j + 1, hj => simp at hj
/-- The built-in min of two numbers, by its run. -/
theorem list_min {P : Program} {ops : Array Oper} {rest : List Oper} {o : Oper} {a : Act} {w : World} {Q : Exit → Act → World → Prop} (hgd : o.guard = none) (t u : TypeId) (x y : Operand) (ho : o.op = .call { callee := .builtin .min, args := #[x, y], argTypes := #[t, u] })
    {p q r : Int} (hx : a.eval x = .int .i64 p) (hy : a.eval y = .int .i64 q) (hr : (if q < p then q else p) = r) (h : wpList P ops Q rest (a.put o.dst (.int .i64 r)) w) : wpList P ops Q (o :: rest) a w :=
  wpList_plain hgd fun _ hK => by
    have hrun : (Builtin.min_ #[t, u] o.type #[.int .i64 p, .int .i64 q]).run P w = .ok (.int .i64 r) w := by subst hr; rfl
    unfold Oper.wp execOp
    simp only [ho, resolve, invoke, builtin, Sem.run_bind, Sem.run_pure, Result.andThen_ok, List.map_toArray, List.map_cons, List.map_nil, hx, hy, hrun]
    exact hK _ _ h
theorem run_mid (b : ByteArray) (p q : Nat) (h : p ≤ q) (hq : q ≤ b.size) (w : World) : (Instr.sliceAt 9 (.string b) (some (.int .i64 (p : Int))) (some (.int .i64 (q : Int))) none).run Try.prog w = .ok (.string (b.extract p q)) w := by
  have h1 : (q : Int) ≤ (b.size : Int) := by omega
  have h2 : (p : Int) ≤ (q : Int) := by omega
  simp [Instr.sliceAt, Instr.slice, run_underlying Try.underlying9, go_sem]
  rw [if_pos hq, if_pos h]
/-- One more text behind a row of texts. -/
theorem app_strs (W : World) (base : Nat) (v : Value) (l : List ByteArray) (x : ByteArray) (ho : W.ownsRow base 9 1 v l.length (l.map Value.string)) (hl : l.length ≤ 100000) (hb : base ≤ W.heap.size) :
    ∃ v' W', (Builtin.append_ #[28, 28] 28 #[v, .slice (some ⟨W.heap.size, 0, none⟩) 1 1]).run Try.prog (W.alloc (.cells #[.string x] 9)) = .ok v' W' ∧ W'.ownsRow base 9 1 v' (l ++ [x]).length ((l ++ [x]).map Value.string) ∧ (W.alloc (.cells #[.string x] 9)).grownBy W' v.ownBlock := by
  obtain ⟨i0, hi, hz0, hz1, hz2⟩ := info_parts info9
  obtain ⟨v', w', hr5, hown5, hgrow5, hn5, hat5⟩ := run_append_own_at (P := Try.prog) (W.alloc (.cells #[.string x] 9)) base 28 28 9 i0 (.string ⟨#[]⟩) 1 16 Try.underlying28 hi hz0 hz1 hz2 rfl (by decide) v l.length _ (ho.alloc _) ⟨W.heap.size, 0, none⟩ 1 1 [.string x] rfl (cell_one _ _ _) (fun u hu => by simp at hu; subst hu; rfl) (by simp only [maxLen]; omega) (by omega) (by simp; omega)
  refine ⟨v', w', hr5, ?_, hgrow5⟩
  rw [List.length_append, List.map_append]
  exact hown5
end Go.Proofs.Ytpmdonigjljllaa
