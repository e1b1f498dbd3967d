/- Queries in plain terms; which may be, by the reference. -/
import Derived.Test.YtimdlohdmddnjaaQEA
namespace Go.Proofs.Ytimdlohdmddnjaa.Rf
open Go.RowKit Go.Lib
open Go.Proofs.Ytimdlohdmddnjaa.Rc
structure Qr where
 k : Int
 a : Nat
 b : Nat
 c : Nat
 d : Nat
 x : Nat
 y : Nat
 sq : Nat
 K : Int
 af : Nat
 fr : Bool
abbrev qv (q : Qr) : Value := .agg #[.int .i64 q.k, .int .u32 (q.a : Int), .int .u32 (q.b : Int), .int .u32 (q.c : Int), .int .u32 (q.d : Int), .int .u32 (q.x : Int), .int .u32 (q.y : Int), .int .u64 (q.sq : Int), .int .i64 q.K, .int .u64 (q.af : Int), .bool q.fr]
abbrev qcs (q : Qr) : Obj := .cells #[.int .i64 q.k, .int .u32 (q.a : Int), .int .u32 (q.b : Int), .int .u32 (q.c : Int), .int .u32 (q.d : Int), .int .u32 (q.x : Int), .int .u32 (q.y : Int), .int .u64 (q.sq : Int), .int .i64 q.K, .int .u64 (q.af : Int), .bool q.fr] 27
def QC (g : Nat) (q : Qr) (w : World) : Prop := w.cell? ⟨g, 0, none⟩ = some (.int .i64 q.k) ∧ w.cell? ⟨g, 1, none⟩ = some (.int .u32 (q.a : Int)) ∧ w.cell? ⟨g, 2, none⟩ = some (.int .u32 (q.b : Int)) ∧ w.cell? ⟨g, 3, none⟩ = some (.int .u32 (q.c : Int)) ∧ w.cell? ⟨g, 4, none⟩ = some (.int .u32 (q.d : Int)) ∧ w.cell? ⟨g, 5, none⟩ = some (.int .u32 (q.x : Int)) ∧ w.cell? ⟨g, 6, none⟩ = some (.int .u32 (q.y : Int)) ∧ w.cell? ⟨g, 7, none⟩ = some (.int .u64 (q.sq : Int)) ∧ w.cell? ⟨g, 8, none⟩ = some (.int .i64 q.K) ∧ w.cell? ⟨g, 9, none⟩ = some (.int .u64 (q.af : Int)) ∧ w.cell? ⟨g, 10, none⟩ = some (.bool q.fr)
set_option maxRecDepth 100000 in
theorem qc_of {g : Nat} {q : Qr} {w : World} (h : w.heap[g]? = some (qcs q)) : QC g q w := by
 refine ⟨?_, ?_, ?_, ?_, ?_, ?_, ?_, ?_, ?_, ?_, ?_⟩
 all_goals rw [cell_of_row _ _ _ _ _ _ h]; rfl
def chk (q : Qr) : Int :=
 if q.k < 1 ∨ 4 < q.k then 2
 else if 64 < q.K ∨ q.K < 0 ∨ (q.K = 0 ∧ q.k ≠ 3) then 82
 else if q.k = 1 ∧ boxS q.a q.b q.c q.d = false then 81
 else if (q.k = 2 ∨ q.k = 3) ∧ (2147483648 ≤ q.x ∨ 2147483648 ≤ q.y) then 2
 else 0
set_option maxRecDepth 100000 in
theorem fewest_any (k : Int) (w : World) : Calls Try.prog 25 #[.int .i64 k] w fun e w' => e = .returned (.int .i64 (if k = 3 then 0 else 1)) ∧ w' = w := by
 by_cases h : k = 3
 ·subst h
  go_enter Try.func25, Try.ntmps25
  go_wp2_with fail
  go_ret
  exact ⟨by simp, rfl⟩
 ·have h1 : (k == 3) = false := by simpa using h
  go_enter Try.func25, Try.ntmps25
  go_wp2_with fail
  go_ret
  exact ⟨by simp, rfl⟩
end Go.Proofs.Ytimdlohdmddnjaa.Rf
