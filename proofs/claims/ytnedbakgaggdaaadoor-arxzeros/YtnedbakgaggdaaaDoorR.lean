import Derived.Test.YtnedbakgaggdaaaDoorA
import Derived.Test.YtnedbakgaggdaaaDoorQ
import Derived.Deep.RegionHeld3
namespace Go.Proofs.YtnedbakgaggdaaaDoor
open Go.RowKit
theorem q_exact (w : World) (n : Nat) (z0 z1 z2 z3 x0 x1 x2 x3 : Value) : (((((w.alloc (.cells #[z0, z1, z2, z3] 24)).drewN n).setCell ⟨w.heap.size, 0, none⟩ x0).setCell ⟨w.heap.size, 1, none⟩ x1).setCell ⟨w.heap.size, 2, none⟩ x2).setCell ⟨w.heap.size, 3, none⟩ x3 = (w.alloc (.cells #[x0, x1, x2, x3] 24)).drewN n := by
  show (((((w.alloc (.cells #[z0, z1, z2, z3] 24)).setCell ⟨w.heap.size, 0, none⟩ x0).setCell ⟨w.heap.size, 1, none⟩ x1).setCell ⟨w.heap.size, 2, none⟩ x2).setCell ⟨w.heap.size, 3, none⟩ x3).drewN n = _
  simp [go_sem]
set_option maxHeartbeats 400000 in
theorem rquarter_ex (a b c d : Int) (w : World) :
    Calls Tryd.prog 11 #[.int .u32 a, .int .u32 b, .int .u32 c, .int .u32 d] w fun e w' => e = .returned (.agg #[.int .u32 (qa a b c d), .int .u32 (qb a b c d), .int .u32 (qc a b c d), .int .u32 (qd a b c d)]) ∧
      ∃ n, w' = (w.alloc (.cells #[.int .u32 (qa a b c d), .int .u32 (qb a b c d), .int .u32 (qc a b c d), .int .u32 (qd a b c d)] 24)).drewN n := by
  go_enter Tryd.func11, Tryd.ntmps11
  go_wp2_with fail
  refine (turned16_any _ _).mono ?_; rintro e w' ⟨rfl, n1, rfl⟩
  go_wp2_with fail
  refine (turned12_any _ _).mono ?_; rintro e w' ⟨rfl, n2, rfl⟩
  go_wp2_with fail
  refine (turned8_any _ _).mono ?_; rintro e w' ⟨rfl, n3, rfl⟩
  go_wp2_with fail
  refine (turned7_any _ _).mono ?_; rintro e w' ⟨rfl, n4, rfl⟩
  go_wp2_with fail
  refine bodyPost_ret (v := .agg #[.int .u32 (qa a b c d), .int .u32 (qb a b c d), .int .u32 (qc a b c d), .int .u32 (qd a b c d)]) (by simp [results, Tryd.results11, go_sem, qa, qb, qc, qd, qd1, qb1]) (by rfl) ⟨rfl, n1 + n2 + n3 + n4, ?_⟩
  exact q_exact w (n1 + n2 + n3 + n4) _ _ _ _ _ _ _ _
theorem cell_al {W : World} {a : Addr} {v : Value} (o : Obj) (h : W.cell? a = some v) : (W.alloc o).cell? a = some v :=
  (World.cell?_of_block (w := W) (Below.heap_alloc W o a.block (block_lt_of_cell h))).trans h
theorem RowS.al {w : World} {g cap : Nat} {f : Nat → Int} (h : RowS w g cap f) (o : Obj) : RowS (w.alloc o) g cap f := h.same (Below.heap_alloc _ _ _ h.lt)
theorem RowS.dr {w : World} {g cap : Nat} {f : Nat → Int} (h : RowS w g cap f) : RowS w.drew g cap f := h.same rfl
theorem RowS.drN {w : World} {g cap : Nat} {f : Nat → Int} (h : RowS w g cap f) (n : Nat) : RowS (w.drewN n) g cap f := h.same rfl
theorem RowS.far {w : World} {g cap : Nat} {f : Nat → Int} (h : RowS w g cap f) (b i : Nat) (v : Value) (hb : g ≠ b) : RowS (w.setCell ⟨b, i, none⟩ v) g cap f := h.same (Below.heap_setCell _ _ _ _ hb)
theorem gb_new {w W : World} {r : Option Nat} (h : w.grownBy W r) (i : Nat) (v : Value) : w.grownBy (W.setCell ⟨w.heap.size, i, none⟩ v) r :=
  ⟨h.os, h.tape, h.output, by have := h.size; simp [World.setCell]; omega, fun k hk hne => (Below.heap_setCell _ _ _ _ (by simp; omega)).trans (h.block k hk hne)⟩
theorem gb_refl (w : World) (r : Option Nat) : w.grownBy w r := ⟨rfl, rfl, rfl, Nat.le_refl _, fun _ _ _ => rfl⟩
theorem gb_al {w W : World} {r : Option Nat} (h : w.grownBy W r) (o : Obj) : w.grownBy (W.alloc o) r :=
  ⟨h.os, h.tape, h.output, by have := h.size; simp; omega, fun k hk hne => (Below.heap_alloc _ _ _ (Nat.lt_of_lt_of_le hk h.size)).trans (h.block k hk hne)⟩
theorem gb_dr {w W : World} {r : Option Nat} (h : w.grownBy W r) : w.grownBy W.drew r := ⟨h.os, h.tape, h.output, h.size, h.block⟩
theorem gb_drN {w W : World} {r : Option Nat} (h : w.grownBy W r) (n : Nat) : w.grownBy (W.drewN n) r := ⟨h.os, h.tape, h.output, h.size, h.block⟩
theorem gb_set {w W : World} {g : Nat} (h : w.grownBy W (some g)) (i : Nat) (v : Value) : w.grownBy (W.setCell ⟨g, i, none⟩ v) (some g) :=
  ⟨h.os, h.tape, h.output, by have := h.size; simp [World.setCell]; omega, fun k hk hne => (Below.heap_setCell _ _ _ _ (fun e => hne (by rw [e]))).trans (h.block k hk hne)⟩
set_option maxHeartbeats 1000000 in
theorem refat_any (g cap : Nat) (f : Nat → Int) (a b c d : Nat) (ha : a < 16) (hb : b < 16) (hc : c < 16) (hd : d < 16) (nab : a ≠ b) (nac : a ≠ c) (nad : a ≠ d) (nbc : b ≠ c) (nbd : b ≠ d) (ncd : c ≠ d) (w : World) (h : RowS w g cap f) :
    Calls Tryd.prog 25 #[.slice (some ⟨g, 0, none⟩) 16 cap, .int .i64 (a : Int), .int .i64 (b : Int), .int .i64 (c : Int), .int .i64 (d : Int)] w fun e w' => e = .returned (.tuple #[]) ∧ RowS w' g cap (qt f a b c d) ∧ w.grownBy w' (some g) := by
  obtain ⟨ca, za⟩ := h.cell a ha
  obtain ⟨cb, zb⟩ := h.cell b hb
  obtain ⟨cc, zc⟩ := h.cell c hc
  obtain ⟨cd, zd⟩ := h.cell d hd
  have l0 : g < w.heap.size := h.lt
  have l1 : g < w.heap.size + 1 := Nat.lt_succ_of_lt l0
  have ga : (0 : Int) ≤ (a : Int) := by omega
  have gb : (0 : Int) ≤ (b : Int) := by omega
  have gc : (0 : Int) ≤ (c : Int) := by omega
  have gd : (0 : Int) ≤ (d : Int) := by omega
  have ea : (a : Int) < 16 := by omega
  have eb : (b : Int) < 16 := by omega
  have ec : (c : Int) < 16 := by omega
  have ed : (d : Int) < 16 := by omega
  have HR : Hid (RowS w g cap f) := h
  clear h
  go_enter Tryd.func25, Tryd.ntmps25
  go_wp2
  go_region_held3 (fun w' => w'.cell? ⟨g, a, none⟩ = some (.int .u32 (f a)) ∧ w'.cell? ⟨g, b, none⟩ = some (.int .u32 (f b)) ∧ w'.cell? ⟨g, c, none⟩ = some (.int .u32 (f c)) ∧ w'.cell? ⟨g, d, none⟩ = some (.int .u32 (f d))) (simp [*, go_sem]) ((go_at_call 11; refine (rquarter_ex _ _ _ _ _).mono ?_; rintro e w1 ⟨rfl, nn, rfl⟩))
  all_goals go_wp2
  all_goals go_end0
  all_goals
    refine ⟨rfl, ?_, ?_⟩
    · unfold qt
      repeat (first | (with_reducible exact HR.out) | (with_reducible refine RowS.al ?_ _) | (with_reducible refine RowS.drN ?_ _) | (with_reducible refine RowS.dr ?_) | (with_reducible refine RowS.set ?_ _ _ (by assumption)) | (with_reducible refine RowS.far ?_ _ _ _ (by omega)))
    · repeat (first | (with_reducible exact gb_refl _ _) | (with_reducible refine gb_al ?_ _) | (with_reducible refine gb_drN ?_ _) | (with_reducible refine gb_dr ?_) | (with_reducible refine gb_set ?_ _ _) | (with_reducible refine gb_new ?_ _ _))
end Go.Proofs.YtnedbakgaggdaaaDoor
