/- Which rows are right. -/
import Derived.Test.YtimdlohdmddnjaaPGB
import Derived.Test.YtimdlohdmddnjaaPOA
import Derived.Test.YtimdlohdmddnjaaQCD
namespace Go.Proofs.Ytimdlohdmddnjaa.Rq
open Go.RowKit Go.Lib Go.Shelf
open Go.Proofs.Ytimdlohdmddnjaa.Rc
set_option maxRecDepth 100000 in
set_option maxHeartbeats 1000000 in
theorem qonPlane_any (x y : Nat) (w : World) :
  Calls Try.prog 39 #[.int .u32 (x : Int), .int .u32 (y : Int)] w fun e w' => e = .returned (.bool (onS x y)) ∧ w' = w := by
 by_cases h1 : x < 2147483648
 ·by_cases h2 : y < 2147483648
  ·rw [onS_true h1 h2]
   have q1 : (x : Int) < 2147483648 := by omega
   have q2 : (y : Int) < 2147483648 := by omega
   clear h1 h2
   go_enter Try.func39, Try.ntmps39
   go_wp2_with fail
   go_ret
   exact ⟨rfl, rfl⟩
  ·rw [onS_false (fun h => h2 h.2)]
   have q1 : (x : Int) < 2147483648 := by omega
   have q2 : ¬ (y : Int) < 2147483648 := by omega
   clear h1 h2
   go_enter Try.func39, Try.ntmps39
   go_wp2_with fail
   go_ret
   exact ⟨rfl, rfl⟩
 ·rw [onS_false (fun h => h1 h.1)]
  have q1 : ¬ (x : Int) < 2147483648 := by omega
  clear h1
  go_enter Try.func39, Try.ntmps39
  go_wp2_with fail
  go_ret
  exact ⟨rfl, rfl⟩
set_option maxRecDepth 100000 in
theorem rr_is (r : Rw) : rightRow r = (onS r.x r.y && decide (r.v.size ≤ 16)) := by
 unfold rightRow onS
 by_cases h1 : r.x < 2147483648
 ·by_cases h2 : r.y < 2147483648
  ·simp [h1, h2]
  ·simp [h1, h2]
 ·simp [h1]
set_option maxRecDepth 100000 in
set_option maxHeartbeats 1000000 in
theorem rightRow_any (r : Rw) (w : World) :
  Calls Try.prog 61 #[rv r] w fun e w' => e = .returned (.bool (rightRow r)) ∧ Below w.heap.size w w' := by
 rw [rr_is]
 obtain ⟨id, x, y, v⟩ := r
 simp only
 have HC : Hid _ := qonPlane_any x y
 have HB : Hid (Below w.heap.size w (w.alloc (.cells #[.int .u64 (id : Int), .int .u32 (x : Int), .int .u32 (y : Int), .string v] 54))) := below_new w _
 cases ho : onS x y
 ·rw [ho] at HC
  go_enter Try.func61, Try.ntmps61
  go_wp2_with fail
  refine (HC.out _).mono ?_
  rintro e w1 ⟨rfl, h⟩
  have h' := h.symm; clear h; subst h'
  go_wp2_with fail
  go_ret
  exact ⟨rfl, HB.out⟩
 ·rw [ho] at HC
  by_cases hv : v.size ≤ 16
  ·rw [decide_eq_true hv]
   have q1 : decide ((v.size : Int) ≤ 16) = true := decide_eq_true (by omega)
   clear hv
   go_enter Try.func61, Try.ntmps61
   go_wp2_with fail
   refine (HC.out _).mono ?_
   rintro e w1 ⟨rfl, h⟩
   have h' := h.symm; clear h; subst h'
   go_wp2_with fail
   go_ret
   exact ⟨rfl, HB.out⟩
  ·rw [decide_eq_false hv]
   have q1 : decide ((v.size : Int) ≤ 16) = false := decide_eq_false (by omega)
   clear hv
   go_enter Try.func61, Try.ntmps61
   go_wp2_with fail
   refine (HC.out _).mono ?_
   rintro e w1 ⟨rfl, h⟩
   have h' := h.symm; clear h; subst h'
   go_wp2_with fail
   go_ret
   exact ⟨rfl, HB.out⟩
set_option maxRecDepth 100000 in
set_option maxHeartbeats 1000000 in
theorem erightRow_any (r : Rw) (w : World) :
  Calls Try.prog 56 #[rv r] w fun e w' => e = .returned (.bool (rightRow r)) ∧ Below w.heap.size w w' := by
 rw [rr_is]
 obtain ⟨id, x, y, v⟩ := r
 simp only
 have HB : Hid (Below w.heap.size w (w.alloc (.cells #[.int .u64 (id : Int), .int .u32 (x : Int), .int .u32 (y : Int), .string v] 54))) := below_new w _
 unfold onS
 by_cases h1 : x < 2147483648
 ·have q1 : (x : Int) < 2147483648 := by omega
  by_cases h2 : y < 2147483648
  ·have q2 : (y : Int) < 2147483648 := by omega
   rw [decide_eq_true ⟨h1, h2⟩, Bool.true_and]
   clear h1 h2
   by_cases hv : v.size ≤ 16
   ·rw [decide_eq_true hv]
    have q3 : decide ((v.size : Int) ≤ 16) = true := decide_eq_true (by omega)
    clear hv
    simp only [rv]
    generalize (x : Int) = zx at *
    generalize (y : Int) = zy at *
    go_enter Try.func56, Try.ntmps56
    go_wp2_with fail
    go_ret
    exact ⟨rfl, HB.out⟩
   ·rw [decide_eq_false hv]
    have q3 : decide ((v.size : Int) ≤ 16) = false := decide_eq_false (by omega)
    clear hv
    simp only [rv]
    generalize (x : Int) = zx at *
    generalize (y : Int) = zy at *
    go_enter Try.func56, Try.ntmps56
    go_wp2_with fail
    go_ret
    exact ⟨rfl, HB.out⟩
  ·have q2 : ¬ (y : Int) < 2147483648 := by omega
   rw [decide_eq_false (fun h => h2 h.2), Bool.false_and]
   clear h1 h2
   simp only [rv]
   generalize (x : Int) = zx at *
   generalize (y : Int) = zy at *
   go_enter Try.func56, Try.ntmps56
   go_wp2_with fail
   go_ret
   exact ⟨rfl, HB.out⟩
 ·have q1 : ¬ (x : Int) < 2147483648 := by omega
  rw [decide_eq_false (fun h => h1 h.1), Bool.false_and]
  clear h1
  simp only [rv]
  generalize (x : Int) = zx at *
  generalize (y : Int) = zy at *
  go_enter Try.func56, Try.ntmps56
  go_wp2_with fail
  go_ret
  exact ⟨rfl, HB.out⟩
theorem wrap_i64 {m : Int} (h0 : -9223372036854775808 ≤ m) (h1 : m ≤ 9223372036854775807) : IntKind.i64.wrap m = m := IntWalk.i64_in _ ⟨h0, h1⟩
def F4 (g : Nat) (r : Rw) (w : World) : Prop := w.cell? ⟨g, 0, none⟩ = some (.int .u64 (r.id : Int)) ∧ w.cell? ⟨g, 1, none⟩ = some (.int .u32 (r.x : Int)) ∧ w.cell? ⟨g, 2, none⟩ = some (.int .u32 (r.y : Int)) ∧ w.cell? ⟨g, 3, none⟩ = some (.string r.v)
set_option maxRecDepth 100000 in
theorem F4.of {g : Nat} {r : Rw} {w : World} {t : TypeId} {fr : Nat × Nat} (h : w.heap[g]? = some (.cells #[.int .u64 (r.id : Int), .int .u32 (r.x : Int), .int .u32 (r.y : Int), .string r.v] t fr)) : F4 g r w :=
 ⟨by rw [cell_of_row _ _ _ _ _ _ h]; rfl, by rw [cell_of_row _ _ _ _ _ _ h]; rfl, by rw [cell_of_row _ _ _ _ _ _ h]; rfl, by rw [cell_of_row _ _ _ _ _ _ h]; rfl⟩
set_option maxRecDepth 100000 in
theorem F4.same {g : Nat} {r : Rw} {w w' : World} (h : F4 g r w) (e : w'.heap[g]? = w.heap[g]?) : F4 g r w' :=
 ⟨(World.cell?_of_block (a := ⟨g, 0, none⟩) e).trans h.1, (World.cell?_of_block (a := ⟨g, 1, none⟩) e).trans h.2.1, (World.cell?_of_block (a := ⟨g, 2, none⟩) e).trans h.2.2.1, (World.cell?_of_block (a := ⟨g, 3, none⟩) e).trans h.2.2.2⟩
def F4p (g : Nat) (r : Rw) (b x : Nat) (p : Nat) (w : World) : Prop := F4 g r w ∧ w.cell? ⟨b, x, none⟩ = some (.int .u64 (p : Int))
set_option maxRecDepth 100000 in
set_option maxHeartbeats 4000000 in
theorem qright_any (l : List Rw) (o : Option Addr) (cap : Nat) (w : World) (hr : RowsAt w o cap l) :
  Calls Try.prog 32 #[.slice o l.length cap] w fun e w' => e = .returned (.bool (rightL l)) ∧ Below w.heap.size w w' := by
 by_cases h : 1000 < l.length
 ·have q0 : (1000 : Int) < (l.length : Int) := by omega
  go_enter Try.func32, Try.ntmps32
  go_wp2_with fail
  go_ret
  refine ⟨?_, Below.refl _ _⟩
  rw [show rightL l = false by unfold rightL; rw [decide_eq_false]; omega]
  rfl
 ·have q0 : ¬ (1000 : Int) < (l.length : Int) := by omega
  go_enter Try.func32, Try.ntmps32
  go_wp2_with fail
  go_loopw [10] (fun i wr => ∃ k : Nat, k ≤ l.length ∧ i = .int .i64 (k : Int) ∧ (∀ j, j < k → rightAt l j = true) ∧ Below w.heap.size w wr) (fun i _ => l.length - natOf i)
  case atStart => exact ⟨0, by omega, rfl, fun j hj => absurd hj (by omega), Below.refl _ _⟩
  case round =>
   obtain ⟨k, hk, rfl, hj, hb⟩ := hrel
   by_cases hlt : k < l.length
   ·obtain ⟨b, off, rfl, hbl, hc⟩ := (hr.below hb (Nat.le_refl _)).row hlt
    obtain ⟨c0, c1, c2, c3⟩ := hc k hlt
    have q1 : (k : Int) < (l.length : Int) := by omega
    have k0 : (0 : Int) ≤ (k : Int) := by omega
    have k1 : (k : Int) + 1 ≤ 9223372036854775807 := by omega
    have HC : Hid _ := rightRow_any (rat l k)
    have HFr : Hid _ := hc
    have HJ : Hid _ := hj
    clear hc hj
    generalize hr0 : rat l k = r at *
    obtain ⟨id, x, y, v⟩ := r
    simp only at c0 c1 c2 c3
    have HB : Hid (Below w.heap.size w wr) := hb
    clear hb
    have HBn : Hid (Below wr.heap.size wr (wr.alloc (.cells #[.int .u64 (id : Int), .int .u32 (x : Int), .int .u32 (y : Int), .string v] 54)).drew) := (below_new wr _).drew
    have HSW : Hid (F4 wr.heap.size ⟨id, x, y, v⟩ (wr.alloc (.cells #[.int .u64 (id : Int), .int .u32 (x : Int), .int .u32 (y : Int), .string v] 54)).drew) := F4.of (heap_alloc_new wr _)
    have hlt2 : wr.heap.size < (wr.alloc (.cells #[.int .u64 (id : Int), .int .u32 (x : Int), .int .u32 (y : Int), .string v] 54)).drew.heap.size := by simp
    have hws := HB.out.size
    have HR : Hid (rat l k = ⟨id, x, y, v⟩) := hr0
    clear hr0
    cases hrr : rightRow ⟨id, x, y, v⟩
    ·rw [hrr] at HC
     have HE : Hid (rightL l = false) := by
      refine (?_ : rightL l = false)
      cases e : rightL l
      ·rfl
      ·have := ((rightAt_iff l k).1 (((rightL_iff l).1 e).2 k hlt)).1
       rw [HR.out, hrr] at this; cases this
     go_wp2_with fail
     refine wp_region_held (S := F4 wr.heap.size ⟨id, x, y, v⟩) (by kernel_rfl) ?_
     change wpAnyH _ _ _ _ _ _ _ _ (World.drew _)
     refine wpAnyH_take (i := 0) (v := ?_) rfl (by kernel_rfl) (by kernel_rfl) (by kernel_rfl) (fun _ _ _ h => h) (Or.inl ⟨by kernel_rfl, ?_⟩) HSW.out ?_
     rotate_left
     ·rintro w ⟨e1,e2,e3,e4⟩; go_simp; try with_reducible rfl
     conv in (Act.put _ _ _) => simp only [List.getElem_toArray, List.getElem_cons_succ, List.getElem_cons_zero, Act.put, List.setIfInBounds_toArray, List.set_cons_succ, List.set_cons_zero]
     refine readyH 1 _ (by kernel_rfl) rfl (by kernel_rfl) (fun K hK => ?_)
     go_simp
     refine (HC.out _).mono ?_
     rintro e w1 ⟨rfl, b1⟩
     have HB1 : Hid (Below w.heap.size w w1) := HB.out.trans ((HBn.out.mono hws).trans (b1.mono (by omega)))
     replace HSW : Hid (F4 wr.heap.size ⟨id, x, y, v⟩ w1) := HSW.out.same (b1.block _ hlt2)
     refine hK _ _ HSW.out ?_
     clear hK K b1
     refine wpAnyH_take (i := 2) (v := ?_) rfl (by kernel_rfl) (by kernel_rfl) (by kernel_rfl) (fun _ _ _ h => h) (Or.inl ⟨by kernel_rfl, ?_⟩) HSW.out ?_
     rotate_left
     ·rintro w ⟨e1,e2,e3,e4⟩; go_simp; try with_reducible rfl
     conv in (Act.put _ _ _) => simp only [List.getElem_toArray, List.getElem_cons_succ, List.getElem_cons_zero, Act.put, List.setIfInBounds_toArray, List.set_cons_succ, List.set_cons_zero]
     refine wpAnyH_take (i := 3) (v := ?_) rfl (by kernel_rfl) (by kernel_rfl) (by kernel_rfl) (fun _ _ _ h => h) (Or.inl ⟨by kernel_rfl, ?_⟩) HSW.out ?_
     rotate_left
     ·rintro w ⟨e1,e2,e3,e4⟩; go_simp; try with_reducible rfl
     conv in (Act.put _ _ _) => simp only [List.getElem_toArray, List.getElem_cons_succ, List.getElem_cons_zero, Act.put, List.setIfInBounds_toArray, List.set_cons_succ, List.set_cons_zero]
     refine wpAnyH_take (i := 4) (v := undef) rfl (by kernel_rfl) (by kernel_rfl) (by kernel_rfl) (fun _ _ _ h => h) (Or.inr ⟨by kernel_rfl, rfl⟩) HSW.out ?_
     conv in (Act.put _ _ _) => simp only [List.getElem_toArray, List.getElem_cons_succ, List.getElem_cons_zero, Act.put, List.setIfInBounds_toArray, List.set_cons_succ, List.set_cons_zero]
     refine wpAnyH_take (i := 5) (v := undef) rfl (by kernel_rfl) (by kernel_rfl) (by kernel_rfl) (fun _ _ _ h => h) (Or.inr ⟨by kernel_rfl, rfl⟩) HSW.out ?_
     conv in (Act.put _ _ _) => simp only [List.getElem_toArray, List.getElem_cons_succ, List.getElem_cons_zero, Act.put, List.setIfInBounds_toArray, List.set_cons_succ, List.set_cons_zero]
     refine wpAnyH_take (i := 6) (v := undef) rfl (by kernel_rfl) (by kernel_rfl) (by kernel_rfl) (fun _ _ _ h => h) (Or.inr ⟨by kernel_rfl, rfl⟩) HSW.out ?_
     conv in (Act.put _ _ _) => simp only [List.getElem_toArray, List.getElem_cons_succ, List.getElem_cons_zero, Act.put, List.setIfInBounds_toArray, List.set_cons_succ, List.set_cons_zero]
     refine wpAnyH_take (i := 7) (v := undef) rfl (by kernel_rfl) (by kernel_rfl) (by kernel_rfl) (fun _ _ _ h => h) (Or.inr ⟨by kernel_rfl, rfl⟩) HSW.out ?_
     conv in (Act.put _ _ _) => simp only [List.getElem_toArray, List.getElem_cons_succ, List.getElem_cons_zero, Act.put, List.setIfInBounds_toArray, List.set_cons_succ, List.set_cons_zero]
     refine wpAnyH_take (i := 8) (v := undef) rfl (by kernel_rfl) (by kernel_rfl) (by kernel_rfl) (fun _ _ _ h => h) (Or.inr ⟨by kernel_rfl, rfl⟩) HSW.out ?_
     conv in (Act.put _ _ _) => simp only [List.getElem_toArray, List.getElem_cons_succ, List.getElem_cons_zero, Act.put, List.setIfInBounds_toArray, List.set_cons_succ, List.set_cons_zero]
     refine wpAnyH_take (i := 9) (v := undef) rfl (by kernel_rfl) (by kernel_rfl) (by kernel_rfl) (fun _ _ _ h => h) (Or.inr ⟨by kernel_rfl, rfl⟩) HSW.out ?_
     conv in (Act.put _ _ _) => simp only [List.getElem_toArray, List.getElem_cons_succ, List.getElem_cons_zero, Act.put, List.setIfInBounds_toArray, List.set_cons_succ, List.set_cons_zero]
     refine wpAnyH_take (i := 10) (v := undef) rfl (by kernel_rfl) (by kernel_rfl) (by kernel_rfl) (fun _ _ _ h => h) (Or.inr ⟨by kernel_rfl, rfl⟩) HSW.out ?_
     conv in (Act.put _ _ _) => simp only [List.getElem_toArray, List.getElem_cons_succ, List.getElem_cons_zero, Act.put, List.setIfInBounds_toArray, List.set_cons_succ, List.set_cons_zero]
     refine wpAnyH_take (i := 11) (v := undef) rfl (by kernel_rfl) (by kernel_rfl) (by kernel_rfl) (fun _ _ _ h => h) (Or.inr ⟨by kernel_rfl, rfl⟩) HSW.out ?_
     conv in (Act.put _ _ _) => simp only [List.getElem_toArray, List.getElem_cons_succ, List.getElem_cons_zero, Act.put, List.setIfInBounds_toArray, List.set_cons_succ, List.set_cons_zero]
     refine wpAnyH_take (i := 12) (v := undef) rfl (by kernel_rfl) (by kernel_rfl) (by kernel_rfl) (fun _ _ _ h => h) (Or.inr ⟨by kernel_rfl, rfl⟩) HSW.out ?_
     conv in (Act.put _ _ _) => simp only [List.getElem_toArray, List.getElem_cons_succ, List.getElem_cons_zero, Act.put, List.setIfInBounds_toArray, List.set_cons_succ, List.set_cons_zero]
     refine wpAnyH_take (i := 13) (v := undef) rfl (by kernel_rfl) (by kernel_rfl) (by kernel_rfl) (fun _ _ _ h => h) (Or.inr ⟨by kernel_rfl, rfl⟩) HSW.out ?_
     conv in (Act.put _ _ _) => simp only [List.getElem_toArray, List.getElem_cons_succ, List.getElem_cons_zero, Act.put, List.setIfInBounds_toArray, List.set_cons_succ, List.set_cons_zero]
     refine wpAnyH_take (i := 14) (v := undef) rfl (by kernel_rfl) (by kernel_rfl) (by kernel_rfl) (fun _ _ _ h => h) (Or.inr ⟨by kernel_rfl, rfl⟩) HSW.out ?_
     conv in (Act.put _ _ _) => simp only [List.getElem_toArray, List.getElem_cons_succ, List.getElem_cons_zero, Act.put, List.setIfInBounds_toArray, List.set_cons_succ, List.set_cons_zero]
     refine wpAnyH_take (i := 15) (v := undef) rfl (by kernel_rfl) (by kernel_rfl) (by kernel_rfl) (fun _ _ _ h => h) (Or.inr ⟨by kernel_rfl, rfl⟩) HSW.out ?_
     conv in (Act.put _ _ _) => simp only [List.getElem_toArray, List.getElem_cons_succ, List.getElem_cons_zero, Act.put, List.setIfInBounds_toArray, List.set_cons_succ, List.set_cons_zero]
     refine wpAnyH_take (i := 16) (v := undef) rfl (by kernel_rfl) (by kernel_rfl) (by kernel_rfl) (fun _ _ _ h => h) (Or.inr ⟨by kernel_rfl, rfl⟩) HSW.out ?_
     conv in (Act.put _ _ _) => simp only [List.getElem_toArray, List.getElem_cons_succ, List.getElem_cons_zero, Act.put, List.setIfInBounds_toArray, List.set_cons_succ, List.set_cons_zero]
     refine wpAnyH_take (i := 17) (v := ?_) rfl (by kernel_rfl) (by kernel_rfl) (by kernel_rfl) (fun _ _ _ h => h) (Or.inl ⟨by kernel_rfl, ?_⟩) HSW.out ?_
     rotate_left
     ·rintro w ⟨e1,e2,e3,e4⟩; go_simp; try with_reducible rfl
     conv in (Act.put _ _ _) => simp only [List.getElem_toArray, List.getElem_cons_succ, List.getElem_cons_zero, Act.put, List.setIfInBounds_toArray, List.set_cons_succ, List.set_cons_zero]
     refine wpAnyH_done (by kernel_rfl) ?_ _
     go_wp2_with fail
     go_ret
     exact ⟨by rw [HE.out]; rfl, HB1.out⟩
    ·rw [hrr] at HC
     by_cases hk0 : k = 0
     ·have HJ1 : Hid (∀ j, j < k + 1 → rightAt l j = true) := by
       refine fun j hj => ?_
       obtain rfl : j = k := by omega
       rw [rightAt_iff, HR.out]
       exact ⟨hrr, fun h => absurd h (by omega)⟩
      have q2 : decide (0 < k) = false := decide_eq_false (by omega)
      have HK0 : Hid (k = 0) := hk0
      clear hk0
      go_wp2_with fail
      refine wp_region_held (S := F4 wr.heap.size ⟨id, x, y, v⟩) (by kernel_rfl) ?_
      change wpAnyH _ _ _ _ _ _ _ _ (World.drew _)
      refine wpAnyH_take (i := 0) (v := ?_) rfl (by kernel_rfl) (by kernel_rfl) (by kernel_rfl) (fun _ _ _ h => h) (Or.inl ⟨by kernel_rfl, ?_⟩) HSW.out ?_
      rotate_left
      ·rintro w ⟨e1,e2,e3,e4⟩; go_simp; try with_reducible rfl
      conv in (Act.put _ _ _) => simp only [List.getElem_toArray, List.getElem_cons_succ, List.getElem_cons_zero, Act.put, List.setIfInBounds_toArray, List.set_cons_succ, List.set_cons_zero]
      refine readyH 1 _ (by kernel_rfl) rfl (by kernel_rfl) (fun K hK => ?_)
      go_simp
      refine (HC.out _).mono ?_
      rintro e w1 ⟨rfl, b1⟩
      have HB1 : Hid (Below w.heap.size w w1) := HB.out.trans ((HBn.out.mono hws).trans (b1.mono (by omega)))
      replace HSW : Hid (F4 wr.heap.size ⟨id, x, y, v⟩ w1) := HSW.out.same (b1.block _ hlt2)
      refine hK _ _ HSW.out ?_
      clear hK K b1
      refine wpAnyH_take (i := 2) (v := ?_) rfl (by kernel_rfl) (by kernel_rfl) (by kernel_rfl) (fun _ _ _ h => h) (Or.inl ⟨by kernel_rfl, ?_⟩) HSW.out ?_
      rotate_left
      ·rintro w ⟨e1,e2,e3,e4⟩; go_simp; try with_reducible rfl
      conv in (Act.put _ _ _) => simp only [List.getElem_toArray, List.getElem_cons_succ, List.getElem_cons_zero, Act.put, List.setIfInBounds_toArray, List.set_cons_succ, List.set_cons_zero]
      refine wpAnyH_take (i := 3) (v := ?_) rfl (by kernel_rfl) (by kernel_rfl) (by kernel_rfl) (fun _ _ _ h => h) (Or.inl ⟨by kernel_rfl, ?_⟩) HSW.out ?_
      rotate_left
      ·rintro w ⟨e1,e2,e3,e4⟩; go_simp; try with_reducible rfl
      conv in (Act.put _ _ _) => simp only [List.getElem_toArray, List.getElem_cons_succ, List.getElem_cons_zero, Act.put, List.setIfInBounds_toArray, List.set_cons_succ, List.set_cons_zero]
      refine wpAnyH_take (i := 4) (v := ?_) rfl (by kernel_rfl) (by kernel_rfl) (by kernel_rfl) (fun _ _ _ h => h) (Or.inl ⟨by kernel_rfl, ?_⟩) HSW.out ?_
      rotate_left
      ·rintro w ⟨e1,e2,e3,e4⟩; go_simp; try with_reducible rfl
      conv in (Act.put _ _ _) => simp only [List.getElem_toArray, List.getElem_cons_succ, List.getElem_cons_zero, Act.put, List.setIfInBounds_toArray, List.set_cons_succ, List.set_cons_zero]
      refine wpAnyH_take (i := 5) (v := ?_) rfl (by kernel_rfl) (by kernel_rfl) (by kernel_rfl) (fun _ _ _ h => h) (Or.inl ⟨by kernel_rfl, ?_⟩) HSW.out ?_
      rotate_left
      ·rintro w ⟨e1,e2,e3,e4⟩; go_simp; try with_reducible rfl
      conv in (Act.put _ _ _) => simp only [List.getElem_toArray, List.getElem_cons_succ, List.getElem_cons_zero, Act.put, List.setIfInBounds_toArray, List.set_cons_succ, List.set_cons_zero]
      refine wpAnyH_take (i := 6) (v := ?_) rfl (by kernel_rfl) (by kernel_rfl) (by kernel_rfl) (fun _ _ _ h => h) (Or.inl ⟨by kernel_rfl, ?_⟩) HSW.out ?_
      rotate_left
      ·rintro w ⟨e1,e2,e3,e4⟩; go_simp; try with_reducible rfl
      conv in (Act.put _ _ _) => simp only [List.getElem_toArray, List.getElem_cons_succ, List.getElem_cons_zero, Act.put, List.setIfInBounds_toArray, List.set_cons_succ, List.set_cons_zero]
      refine wpAnyH_take (i := 7) (v := undef) rfl (by kernel_rfl) (by kernel_rfl) (by kernel_rfl) (fun _ _ _ h => h) (Or.inr ⟨by kernel_rfl, rfl⟩) HSW.out ?_
      conv in (Act.put _ _ _) => simp only [List.getElem_toArray, List.getElem_cons_succ, List.getElem_cons_zero, Act.put, List.setIfInBounds_toArray, List.set_cons_succ, List.set_cons_zero]
      refine wpAnyH_take (i := 8) (v := undef) rfl (by kernel_rfl) (by kernel_rfl) (by kernel_rfl) (fun _ _ _ h => h) (Or.inr ⟨by kernel_rfl, rfl⟩) HSW.out ?_
      conv in (Act.put _ _ _) => simp only [List.getElem_toArray, List.getElem_cons_succ, List.getElem_cons_zero, Act.put, List.setIfInBounds_toArray, List.set_cons_succ, List.set_cons_zero]
      refine wpAnyH_take (i := 9) (v := undef) rfl (by kernel_rfl) (by kernel_rfl) (by kernel_rfl) (fun _ _ _ h => h) (Or.inr ⟨by kernel_rfl, rfl⟩) HSW.out ?_
      conv in (Act.put _ _ _) => simp only [List.getElem_toArray, List.getElem_cons_succ, List.getElem_cons_zero, Act.put, List.setIfInBounds_toArray, List.set_cons_succ, List.set_cons_zero]
      refine wpAnyH_take (i := 10) (v := undef) rfl (by kernel_rfl) (by kernel_rfl) (by kernel_rfl) (fun _ _ _ h => h) (Or.inr ⟨by kernel_rfl, rfl⟩) HSW.out ?_
      conv in (Act.put _ _ _) => simp only [List.getElem_toArray, List.getElem_cons_succ, List.getElem_cons_zero, Act.put, List.setIfInBounds_toArray, List.set_cons_succ, List.set_cons_zero]
      refine wpAnyH_take (i := 11) (v := undef) rfl (by kernel_rfl) (by kernel_rfl) (by kernel_rfl) (fun _ _ _ h => h) (Or.inr ⟨by kernel_rfl, rfl⟩) HSW.out ?_
      conv in (Act.put _ _ _) => simp only [List.getElem_toArray, List.getElem_cons_succ, List.getElem_cons_zero, Act.put, List.setIfInBounds_toArray, List.set_cons_succ, List.set_cons_zero]
      refine wpAnyH_take (i := 12) (v := undef) rfl (by kernel_rfl) (by kernel_rfl) (by kernel_rfl) (fun _ _ _ h => h) (Or.inr ⟨by kernel_rfl, rfl⟩) HSW.out ?_
      conv in (Act.put _ _ _) => simp only [List.getElem_toArray, List.getElem_cons_succ, List.getElem_cons_zero, Act.put, List.setIfInBounds_toArray, List.set_cons_succ, List.set_cons_zero]
      refine wpAnyH_take (i := 13) (v := undef) rfl (by kernel_rfl) (by kernel_rfl) (by kernel_rfl) (fun _ _ _ h => h) (Or.inr ⟨by kernel_rfl, rfl⟩) HSW.out ?_
      conv in (Act.put _ _ _) => simp only [List.getElem_toArray, List.getElem_cons_succ, List.getElem_cons_zero, Act.put, List.setIfInBounds_toArray, List.set_cons_succ, List.set_cons_zero]
      refine wpAnyH_take (i := 14) (v := undef) rfl (by kernel_rfl) (by kernel_rfl) (by kernel_rfl) (fun _ _ _ h => h) (Or.inr ⟨by kernel_rfl, rfl⟩) HSW.out ?_
      conv in (Act.put _ _ _) => simp only [List.getElem_toArray, List.getElem_cons_succ, List.getElem_cons_zero, Act.put, List.setIfInBounds_toArray, List.set_cons_succ, List.set_cons_zero]
      refine wpAnyH_take (i := 15) (v := undef) rfl (by kernel_rfl) (by kernel_rfl) (by kernel_rfl) (fun _ _ _ h => h) (Or.inr ⟨by kernel_rfl, rfl⟩) HSW.out ?_
      conv in (Act.put _ _ _) => simp only [List.getElem_toArray, List.getElem_cons_succ, List.getElem_cons_zero, Act.put, List.setIfInBounds_toArray, List.set_cons_succ, List.set_cons_zero]
      refine wpAnyH_take (i := 16) (v := ?_) rfl (by kernel_rfl) (by kernel_rfl) (by kernel_rfl) (fun _ _ _ h => h) (Or.inl ⟨by kernel_rfl, ?_⟩) HSW.out ?_
      rotate_left
      ·rintro w ⟨e1,e2,e3,e4⟩; go_simp; try with_reducible rfl
      conv in (Act.put _ _ _) => simp only [List.getElem_toArray, List.getElem_cons_succ, List.getElem_cons_zero, Act.put, List.setIfInBounds_toArray, List.set_cons_succ, List.set_cons_zero]
      refine wpAnyH_take (i := 17) (v := ?_) rfl (by kernel_rfl) (by kernel_rfl) (by kernel_rfl) (fun _ _ _ h => h) (Or.inl ⟨by kernel_rfl, ?_⟩) HSW.out ?_
      rotate_left
      ·rintro w ⟨e1,e2,e3,e4⟩; go_simp; try with_reducible rfl
      conv in (Act.put _ _ _) => simp only [List.getElem_toArray, List.getElem_cons_succ, List.getElem_cons_zero, Act.put, List.setIfInBounds_toArray, List.set_cons_succ, List.set_cons_zero]
      refine wpAnyH_done (by kernel_rfl) ?_ _
      go_wp2_with fail
      go_roundw
      case rel => exact ⟨k + 1, by omega, by go_num, HJ1.out, HB1.out⟩
      case measure => simp [natOf]; omega
     ·obtain ⟨m, hm⟩ : ∃ m, k = m + 1 := ⟨k - 1, by omega⟩
      have HP := HFr.out m (by omega)
      obtain ⟨c4, _, _, _⟩ := HP
      have HAt := rightAt_iff l k
      rw [HR.out, show k - 1 = m by omega] at HAt
      generalize (rat l m).id = pid at *
      have l1 : (k : Int) - 1 = (m : Int) := by omega
      have l3 : (m : Int) < (l.length : Int) := by omega
      have l2 : IntKind.i64.wrap (m : Int) = (m : Int) := wrap_i64 (by omega) (by omega)
      have q2 : decide (0 < k) = true := decide_eq_true (by omega)
      have HSP : Hid (wr.cell? ⟨b, off + m * 4, none⟩ = some (.int .u64 (pid : Int))) := c4
      have HBL : Hid (b < wr.heap.size) := hbl
      have HJ2 : Hid (∀ j, j < k → rightAt l j = true) := HJ.out
      have HM : Hid (k = m + 1) := hm
      clear c4 hm hk0
      replace HSW : Hid (F4p wr.heap.size ⟨id, x, y, v⟩ b (off + m * 4) pid (wr.alloc (.cells #[.int .u64 (id : Int), .int .u32 (x : Int), .int .u32 (y : Int), .string v] 54)).drew) := ⟨HSW.out, (World.cell?_of_block (a := ⟨b, off + m * 4, none⟩) (HBn.out.block b hbl)).trans HSP.out⟩
      by_cases hid : pid < id
      ·have q3 : decide (id ≤ pid) = false := decide_eq_false (by omega)
       have HJ1 : Hid (∀ j, j < k + 1 → rightAt l j = true) := by
        refine fun j hj => ?_
        by_cases e : j = k
        ·subst e; exact HAt.2 ⟨hrr, fun _ => hid⟩
        ·exact HJ2.out j (by omega)
       clear HAt hid
       go_wp2_with fail
       refine wp_region_held (S := F4p wr.heap.size ⟨id, x, y, v⟩ b (off + m * 4) pid) (by kernel_rfl) ?_
       change wpAnyH _ _ _ _ _ _ _ _ (World.drew _)
       refine wpAnyH_take (i := 0) (v := ?_) rfl (by kernel_rfl) (by kernel_rfl) (by kernel_rfl) (fun _ _ _ h => h) (Or.inl ⟨by kernel_rfl, ?_⟩) HSW.out ?_
       rotate_left
       ·rintro w ⟨⟨e1,e2,e3,e4⟩,e5⟩; go_simp; try with_reducible rfl
       conv in (Act.put _ _ _) => simp only [List.getElem_toArray, List.getElem_cons_succ, List.getElem_cons_zero, Act.put, List.setIfInBounds_toArray, List.set_cons_succ, List.set_cons_zero]
       refine readyH 1 _ (by kernel_rfl) rfl (by kernel_rfl) (fun K hK => ?_)
       go_simp
       refine (HC.out _).mono ?_
       rintro e w1 ⟨rfl, b1⟩
       have HB1 : Hid (Below w.heap.size w w1) := HB.out.trans ((HBn.out.mono hws).trans (b1.mono (by omega)))
       replace HSW : Hid (F4p wr.heap.size ⟨id, x, y, v⟩ b (off + m * 4) pid w1) := ⟨HSW.out.1.same (b1.block _ hlt2), (World.cell?_of_block (a := ⟨b, off + m * 4, none⟩) (b1.block b (by have := HBL.out; omega))).trans HSW.out.2⟩
       refine hK _ _ HSW.out ?_
       clear hK K b1
       refine wpAnyH_take (i := 2) (v := ?_) rfl (by kernel_rfl) (by kernel_rfl) (by kernel_rfl) (fun _ _ _ h => h) (Or.inl ⟨by kernel_rfl, ?_⟩) HSW.out ?_
       rotate_left
       ·rintro w ⟨⟨e1,e2,e3,e4⟩,e5⟩; go_simp; try with_reducible rfl
       conv in (Act.put _ _ _) => simp only [List.getElem_toArray, List.getElem_cons_succ, List.getElem_cons_zero, Act.put, List.setIfInBounds_toArray, List.set_cons_succ, List.set_cons_zero]
       refine wpAnyH_take (i := 3) (v := ?_) rfl (by kernel_rfl) (by kernel_rfl) (by kernel_rfl) (fun _ _ _ h => h) (Or.inl ⟨by kernel_rfl, ?_⟩) HSW.out ?_
       rotate_left
       ·rintro w ⟨⟨e1,e2,e3,e4⟩,e5⟩; go_simp; try with_reducible rfl
       conv in (Act.put _ _ _) => simp only [List.getElem_toArray, List.getElem_cons_succ, List.getElem_cons_zero, Act.put, List.setIfInBounds_toArray, List.set_cons_succ, List.set_cons_zero]
       refine wpAnyH_take (i := 4) (v := ?_) rfl (by kernel_rfl) (by kernel_rfl) (by kernel_rfl) (fun _ _ _ h => h) (Or.inl ⟨by kernel_rfl, ?_⟩) HSW.out ?_
       rotate_left
       ·rintro w ⟨⟨e1,e2,e3,e4⟩,e5⟩; go_simp; try with_reducible rfl
       conv in (Act.put _ _ _) => simp only [List.getElem_toArray, List.getElem_cons_succ, List.getElem_cons_zero, Act.put, List.setIfInBounds_toArray, List.set_cons_succ, List.set_cons_zero]
       refine wpAnyH_take (i := 5) (v := ?_) rfl (by kernel_rfl) (by kernel_rfl) (by kernel_rfl) (fun _ _ _ h => h) (Or.inl ⟨by kernel_rfl, ?_⟩) HSW.out ?_
       rotate_left
       ·rintro w ⟨⟨e1,e2,e3,e4⟩,e5⟩; go_simp; try with_reducible rfl
       conv in (Act.put _ _ _) => simp only [List.getElem_toArray, List.getElem_cons_succ, List.getElem_cons_zero, Act.put, List.setIfInBounds_toArray, List.set_cons_succ, List.set_cons_zero]
       refine wpAnyH_take (i := 6) (v := ?_) rfl (by kernel_rfl) (by kernel_rfl) (by kernel_rfl) (fun _ _ _ h => h) (Or.inl ⟨by kernel_rfl, ?_⟩) HSW.out ?_
       rotate_left
       ·rintro w ⟨⟨e1,e2,e3,e4⟩,e5⟩; go_simp; try with_reducible rfl
       conv in (Act.put _ _ _) => simp only [List.getElem_toArray, List.getElem_cons_succ, List.getElem_cons_zero, Act.put, List.setIfInBounds_toArray, List.set_cons_succ, List.set_cons_zero]
       refine wpAnyH_take (i := 7) (v := ?_) rfl (by kernel_rfl) (by kernel_rfl) (by kernel_rfl) (fun _ _ _ h => h) (Or.inl ⟨by kernel_rfl, ?_⟩) HSW.out ?_
       rotate_left
       ·rintro w ⟨⟨e1,e2,e3,e4⟩,e5⟩; go_simp; try with_reducible rfl
       conv in (Act.put _ _ _) => simp only [List.getElem_toArray, List.getElem_cons_succ, List.getElem_cons_zero, Act.put, List.setIfInBounds_toArray, List.set_cons_succ, List.set_cons_zero]
       refine wpAnyH_take (i := 8) (v := ?_) rfl (by kernel_rfl) (by kernel_rfl) (by kernel_rfl) (fun _ _ _ h => h) (Or.inl ⟨by kernel_rfl, ?_⟩) HSW.out ?_
       rotate_left
       ·rintro w ⟨⟨e1,e2,e3,e4⟩,e5⟩; go_simp; try with_reducible rfl
       conv in (Act.put _ _ _) => simp only [List.getElem_toArray, List.getElem_cons_succ, List.getElem_cons_zero, Act.put, List.setIfInBounds_toArray, List.set_cons_succ, List.set_cons_zero]
       refine wpAnyH_take (i := 9) (v := ?_) rfl (by kernel_rfl) (by kernel_rfl) (by kernel_rfl) (fun _ _ _ h => h) (Or.inl ⟨by kernel_rfl, ?_⟩) HSW.out ?_
       rotate_left
       ·rintro w ⟨⟨e1,e2,e3,e4⟩,e5⟩; go_simp; try with_reducible rfl
       conv in (Act.put _ _ _) => simp only [List.getElem_toArray, List.getElem_cons_succ, List.getElem_cons_zero, Act.put, List.setIfInBounds_toArray, List.set_cons_succ, List.set_cons_zero]
       refine wpAnyH_take (i := 10) (v := ?_) rfl (by kernel_rfl) (by kernel_rfl) (by kernel_rfl) (fun _ _ _ h => h) (Or.inl ⟨by kernel_rfl, ?_⟩) HSW.out ?_
       rotate_left
       ·rintro w ⟨⟨e1,e2,e3,e4⟩,e5⟩; go_simp; try with_reducible rfl
       conv in (Act.put _ _ _) => simp only [List.getElem_toArray, List.getElem_cons_succ, List.getElem_cons_zero, Act.put, List.setIfInBounds_toArray, List.set_cons_succ, List.set_cons_zero]
       refine wpAnyH_take (i := 11) (v := ?_) rfl (by kernel_rfl) (by kernel_rfl) (by kernel_rfl) (fun _ _ _ h => h) (Or.inl ⟨by kernel_rfl, ?_⟩) HSW.out ?_
       rotate_left
       ·rintro w ⟨⟨e1,e2,e3,e4⟩,e5⟩; go_simp; try with_reducible rfl
       conv in (Act.put _ _ _) => simp only [List.getElem_toArray, List.getElem_cons_succ, List.getElem_cons_zero, Act.put, List.setIfInBounds_toArray, List.set_cons_succ, List.set_cons_zero]
       refine wpAnyH_take (i := 12) (v := ?_) rfl (by kernel_rfl) (by kernel_rfl) (by kernel_rfl) (fun _ _ _ h => h) (Or.inl ⟨by kernel_rfl, ?_⟩) HSW.out ?_
       rotate_left
       ·rintro w ⟨⟨e1,e2,e3,e4⟩,e5⟩; go_simp; try with_reducible rfl
       conv in (Act.put _ _ _) => simp only [List.getElem_toArray, List.getElem_cons_succ, List.getElem_cons_zero, Act.put, List.setIfInBounds_toArray, List.set_cons_succ, List.set_cons_zero]
       refine wpAnyH_take (i := 13) (v := ?_) rfl (by kernel_rfl) (by kernel_rfl) (by kernel_rfl) (fun _ _ _ h => h) (Or.inl ⟨by kernel_rfl, ?_⟩) HSW.out ?_
       rotate_left
       ·rintro w ⟨⟨e1,e2,e3,e4⟩,e5⟩; go_simp; try with_reducible rfl
       conv in (Act.put _ _ _) => simp only [List.getElem_toArray, List.getElem_cons_succ, List.getElem_cons_zero, Act.put, List.setIfInBounds_toArray, List.set_cons_succ, List.set_cons_zero]
       refine wpAnyH_take (i := 14) (v := ?_) rfl (by kernel_rfl) (by kernel_rfl) (by kernel_rfl) (fun _ _ _ h => h) (Or.inl ⟨by kernel_rfl, ?_⟩) HSW.out ?_
       rotate_left
       ·rintro w ⟨⟨e1,e2,e3,e4⟩,e5⟩; go_simp; try with_reducible rfl
       conv in (Act.put _ _ _) => simp only [List.getElem_toArray, List.getElem_cons_succ, List.getElem_cons_zero, Act.put, List.setIfInBounds_toArray, List.set_cons_succ, List.set_cons_zero]
       refine wpAnyH_take (i := 15) (v := ?_) rfl (by kernel_rfl) (by kernel_rfl) (by kernel_rfl) (fun _ _ _ h => h) (Or.inl ⟨by kernel_rfl, ?_⟩) HSW.out ?_
       rotate_left
       ·rintro w ⟨⟨e1,e2,e3,e4⟩,e5⟩; go_simp; try with_reducible rfl
       conv in (Act.put _ _ _) => simp only [List.getElem_toArray, List.getElem_cons_succ, List.getElem_cons_zero, Act.put, List.setIfInBounds_toArray, List.set_cons_succ, List.set_cons_zero]
       refine wpAnyH_take (i := 16) (v := ?_) rfl (by kernel_rfl) (by kernel_rfl) (by kernel_rfl) (fun _ _ _ h => h) (Or.inl ⟨by kernel_rfl, ?_⟩) HSW.out ?_
       rotate_left
       ·rintro w ⟨⟨e1,e2,e3,e4⟩,e5⟩; go_simp; try with_reducible rfl
       conv in (Act.put _ _ _) => simp only [List.getElem_toArray, List.getElem_cons_succ, List.getElem_cons_zero, Act.put, List.setIfInBounds_toArray, List.set_cons_succ, List.set_cons_zero]
       refine wpAnyH_take (i := 17) (v := ?_) rfl (by kernel_rfl) (by kernel_rfl) (by kernel_rfl) (fun _ _ _ h => h) (Or.inl ⟨by kernel_rfl, ?_⟩) HSW.out ?_
       rotate_left
       ·rintro w ⟨⟨e1,e2,e3,e4⟩,e5⟩; go_simp; try with_reducible rfl
       conv in (Act.put _ _ _) => simp only [List.getElem_toArray, List.getElem_cons_succ, List.getElem_cons_zero, Act.put, List.setIfInBounds_toArray, List.set_cons_succ, List.set_cons_zero]
       refine wpAnyH_done (by kernel_rfl) ?_ _
       go_wp2_with fail
       go_roundw
       case rel => exact ⟨k + 1, by omega, by go_num, HJ1.out, HB1.out⟩
       case measure => simp [natOf]; omega
      ·have q3 : decide (id ≤ pid) = true := decide_eq_true (by omega)
       have HE : Hid (rightL l = false) := by
        refine (?_ : rightL l = false)
        cases e : rightL l
        ·rfl
        ·exact absurd ((HAt.1 (((rightL_iff l).1 e).2 k hlt)).2 (by have := HM.out; omega)) hid
       clear HAt hid
       go_wp2_with fail
       refine wp_region_held (S := F4p wr.heap.size ⟨id, x, y, v⟩ b (off + m * 4) pid) (by kernel_rfl) ?_
       change wpAnyH _ _ _ _ _ _ _ _ (World.drew _)
       refine wpAnyH_take (i := 0) (v := ?_) rfl (by kernel_rfl) (by kernel_rfl) (by kernel_rfl) (fun _ _ _ h => h) (Or.inl ⟨by kernel_rfl, ?_⟩) HSW.out ?_
       rotate_left
       ·rintro w ⟨⟨e1,e2,e3,e4⟩,e5⟩; go_simp; try with_reducible rfl
       conv in (Act.put _ _ _) => simp only [List.getElem_toArray, List.getElem_cons_succ, List.getElem_cons_zero, Act.put, List.setIfInBounds_toArray, List.set_cons_succ, List.set_cons_zero]
       refine readyH 1 _ (by kernel_rfl) rfl (by kernel_rfl) (fun K hK => ?_)
       go_simp
       refine (HC.out _).mono ?_
       rintro e w1 ⟨rfl, b1⟩
       have HB1 : Hid (Below w.heap.size w w1) := HB.out.trans ((HBn.out.mono hws).trans (b1.mono (by omega)))
       replace HSW : Hid (F4p wr.heap.size ⟨id, x, y, v⟩ b (off + m * 4) pid w1) := ⟨HSW.out.1.same (b1.block _ hlt2), (World.cell?_of_block (a := ⟨b, off + m * 4, none⟩) (b1.block b (by have := HBL.out; omega))).trans HSW.out.2⟩
       refine hK _ _ HSW.out ?_
       clear hK K b1
       refine wpAnyH_take (i := 2) (v := ?_) rfl (by kernel_rfl) (by kernel_rfl) (by kernel_rfl) (fun _ _ _ h => h) (Or.inl ⟨by kernel_rfl, ?_⟩) HSW.out ?_
       rotate_left
       ·rintro w ⟨⟨e1,e2,e3,e4⟩,e5⟩; go_simp; try with_reducible rfl
       conv in (Act.put _ _ _) => simp only [List.getElem_toArray, List.getElem_cons_succ, List.getElem_cons_zero, Act.put, List.setIfInBounds_toArray, List.set_cons_succ, List.set_cons_zero]
       refine wpAnyH_take (i := 3) (v := ?_) rfl (by kernel_rfl) (by kernel_rfl) (by kernel_rfl) (fun _ _ _ h => h) (Or.inl ⟨by kernel_rfl, ?_⟩) HSW.out ?_
       rotate_left
       ·rintro w ⟨⟨e1,e2,e3,e4⟩,e5⟩; go_simp; try with_reducible rfl
       conv in (Act.put _ _ _) => simp only [List.getElem_toArray, List.getElem_cons_succ, List.getElem_cons_zero, Act.put, List.setIfInBounds_toArray, List.set_cons_succ, List.set_cons_zero]
       refine wpAnyH_take (i := 4) (v := ?_) rfl (by kernel_rfl) (by kernel_rfl) (by kernel_rfl) (fun _ _ _ h => h) (Or.inl ⟨by kernel_rfl, ?_⟩) HSW.out ?_
       rotate_left
       ·rintro w ⟨⟨e1,e2,e3,e4⟩,e5⟩; go_simp; try with_reducible rfl
       conv in (Act.put _ _ _) => simp only [List.getElem_toArray, List.getElem_cons_succ, List.getElem_cons_zero, Act.put, List.setIfInBounds_toArray, List.set_cons_succ, List.set_cons_zero]
       refine wpAnyH_take (i := 5) (v := ?_) rfl (by kernel_rfl) (by kernel_rfl) (by kernel_rfl) (fun _ _ _ h => h) (Or.inl ⟨by kernel_rfl, ?_⟩) HSW.out ?_
       rotate_left
       ·rintro w ⟨⟨e1,e2,e3,e4⟩,e5⟩; go_simp; try with_reducible rfl
       conv in (Act.put _ _ _) => simp only [List.getElem_toArray, List.getElem_cons_succ, List.getElem_cons_zero, Act.put, List.setIfInBounds_toArray, List.set_cons_succ, List.set_cons_zero]
       refine wpAnyH_take (i := 6) (v := ?_) rfl (by kernel_rfl) (by kernel_rfl) (by kernel_rfl) (fun _ _ _ h => h) (Or.inl ⟨by kernel_rfl, ?_⟩) HSW.out ?_
       rotate_left
       ·rintro w ⟨⟨e1,e2,e3,e4⟩,e5⟩; go_simp; try with_reducible rfl
       conv in (Act.put _ _ _) => simp only [List.getElem_toArray, List.getElem_cons_succ, List.getElem_cons_zero, Act.put, List.setIfInBounds_toArray, List.set_cons_succ, List.set_cons_zero]
       refine wpAnyH_take (i := 7) (v := ?_) rfl (by kernel_rfl) (by kernel_rfl) (by kernel_rfl) (fun _ _ _ h => h) (Or.inl ⟨by kernel_rfl, ?_⟩) HSW.out ?_
       rotate_left
       ·rintro w ⟨⟨e1,e2,e3,e4⟩,e5⟩; go_simp; try with_reducible rfl
       conv in (Act.put _ _ _) => simp only [List.getElem_toArray, List.getElem_cons_succ, List.getElem_cons_zero, Act.put, List.setIfInBounds_toArray, List.set_cons_succ, List.set_cons_zero]
       refine wpAnyH_take (i := 8) (v := ?_) rfl (by kernel_rfl) (by kernel_rfl) (by kernel_rfl) (fun _ _ _ h => h) (Or.inl ⟨by kernel_rfl, ?_⟩) HSW.out ?_
       rotate_left
       ·rintro w ⟨⟨e1,e2,e3,e4⟩,e5⟩; go_simp; try with_reducible rfl
       conv in (Act.put _ _ _) => simp only [List.getElem_toArray, List.getElem_cons_succ, List.getElem_cons_zero, Act.put, List.setIfInBounds_toArray, List.set_cons_succ, List.set_cons_zero]
       refine wpAnyH_take (i := 9) (v := ?_) rfl (by kernel_rfl) (by kernel_rfl) (by kernel_rfl) (fun _ _ _ h => h) (Or.inl ⟨by kernel_rfl, ?_⟩) HSW.out ?_
       rotate_left
       ·rintro w ⟨⟨e1,e2,e3,e4⟩,e5⟩; go_simp; try with_reducible rfl
       conv in (Act.put _ _ _) => simp only [List.getElem_toArray, List.getElem_cons_succ, List.getElem_cons_zero, Act.put, List.setIfInBounds_toArray, List.set_cons_succ, List.set_cons_zero]
       refine wpAnyH_take (i := 10) (v := ?_) rfl (by kernel_rfl) (by kernel_rfl) (by kernel_rfl) (fun _ _ _ h => h) (Or.inl ⟨by kernel_rfl, ?_⟩) HSW.out ?_
       rotate_left
       ·rintro w ⟨⟨e1,e2,e3,e4⟩,e5⟩; go_simp; try with_reducible rfl
       conv in (Act.put _ _ _) => simp only [List.getElem_toArray, List.getElem_cons_succ, List.getElem_cons_zero, Act.put, List.setIfInBounds_toArray, List.set_cons_succ, List.set_cons_zero]
       refine wpAnyH_take (i := 11) (v := ?_) rfl (by kernel_rfl) (by kernel_rfl) (by kernel_rfl) (fun _ _ _ h => h) (Or.inl ⟨by kernel_rfl, ?_⟩) HSW.out ?_
       rotate_left
       ·rintro w ⟨⟨e1,e2,e3,e4⟩,e5⟩; go_simp; try with_reducible rfl
       conv in (Act.put _ _ _) => simp only [List.getElem_toArray, List.getElem_cons_succ, List.getElem_cons_zero, Act.put, List.setIfInBounds_toArray, List.set_cons_succ, List.set_cons_zero]
       refine wpAnyH_take (i := 12) (v := ?_) rfl (by kernel_rfl) (by kernel_rfl) (by kernel_rfl) (fun _ _ _ h => h) (Or.inl ⟨by kernel_rfl, ?_⟩) HSW.out ?_
       rotate_left
       ·rintro w ⟨⟨e1,e2,e3,e4⟩,e5⟩; go_simp; try with_reducible rfl
       conv in (Act.put _ _ _) => simp only [List.getElem_toArray, List.getElem_cons_succ, List.getElem_cons_zero, Act.put, List.setIfInBounds_toArray, List.set_cons_succ, List.set_cons_zero]
       refine wpAnyH_take (i := 13) (v := ?_) rfl (by kernel_rfl) (by kernel_rfl) (by kernel_rfl) (fun _ _ _ h => h) (Or.inl ⟨by kernel_rfl, ?_⟩) HSW.out ?_
       rotate_left
       ·rintro w ⟨⟨e1,e2,e3,e4⟩,e5⟩; go_simp; try with_reducible rfl
       conv in (Act.put _ _ _) => simp only [List.getElem_toArray, List.getElem_cons_succ, List.getElem_cons_zero, Act.put, List.setIfInBounds_toArray, List.set_cons_succ, List.set_cons_zero]
       refine wpAnyH_take (i := 14) (v := ?_) rfl (by kernel_rfl) (by kernel_rfl) (by kernel_rfl) (fun _ _ _ h => h) (Or.inl ⟨by kernel_rfl, ?_⟩) HSW.out ?_
       rotate_left
       ·rintro w ⟨⟨e1,e2,e3,e4⟩,e5⟩; go_simp; try with_reducible rfl
       conv in (Act.put _ _ _) => simp only [List.getElem_toArray, List.getElem_cons_succ, List.getElem_cons_zero, Act.put, List.setIfInBounds_toArray, List.set_cons_succ, List.set_cons_zero]
       refine wpAnyH_take (i := 15) (v := ?_) rfl (by kernel_rfl) (by kernel_rfl) (by kernel_rfl) (fun _ _ _ h => h) (Or.inl ⟨by kernel_rfl, ?_⟩) HSW.out ?_
       rotate_left
       ·rintro w ⟨⟨e1,e2,e3,e4⟩,e5⟩; go_simp; try with_reducible rfl
       conv in (Act.put _ _ _) => simp only [List.getElem_toArray, List.getElem_cons_succ, List.getElem_cons_zero, Act.put, List.setIfInBounds_toArray, List.set_cons_succ, List.set_cons_zero]
       refine wpAnyH_take (i := 16) (v := ?_) rfl (by kernel_rfl) (by kernel_rfl) (by kernel_rfl) (fun _ _ _ h => h) (Or.inl ⟨by kernel_rfl, ?_⟩) HSW.out ?_
       rotate_left
       ·rintro w ⟨⟨e1,e2,e3,e4⟩,e5⟩; go_simp; try with_reducible rfl
       conv in (Act.put _ _ _) => simp only [List.getElem_toArray, List.getElem_cons_succ, List.getElem_cons_zero, Act.put, List.setIfInBounds_toArray, List.set_cons_succ, List.set_cons_zero]
       refine wpAnyH_take (i := 17) (v := ?_) rfl (by kernel_rfl) (by kernel_rfl) (by kernel_rfl) (fun _ _ _ h => h) (Or.inl ⟨by kernel_rfl, ?_⟩) HSW.out ?_
       rotate_left
       ·rintro w ⟨⟨e1,e2,e3,e4⟩,e5⟩; go_simp; try with_reducible rfl
       conv in (Act.put _ _ _) => simp only [List.getElem_toArray, List.getElem_cons_succ, List.getElem_cons_zero, Act.put, List.setIfInBounds_toArray, List.set_cons_succ, List.set_cons_zero]
       refine wpAnyH_done (by kernel_rfl) ?_ _
       go_wp2_with fail
       go_ret
       exact ⟨by rw [HE.out]; rfl, HB1.out⟩
   ·obtain rfl : k = l.length := by omega
    have q1 : ¬ (l.length : Int) < (l.length : Int) := by omega
    have HB : Hid (Below w.heap.size w wr) := hb
    have HE : Hid (rightL l = true) := (rightL_iff l).2 ⟨by omega, hj⟩
    clear hb hj
    go_wp2_with fail
    go_ret
    exact ⟨by rw [HE.out]; rfl, HB.out⟩
end Go.Proofs.Ytimdlohdmddnjaa.Rq
/- The first row behind an id, found by halves. -/
namespace Go.Proofs.Ytimdlohdmddnjaa.Rf
open Go.RowKit Go.Lib
open Go.Proofs.Ytimdlohdmddnjaa.Rc Go.Proofs.Ytimdlohdmddnjaa.Rq
def G1 (g h : Nat) (o : Option Addr) (n cap : Nat) (af b x id : Nat) (w : World) : Prop := w.cell? ⟨g, 0, none⟩ = some (.slice o n cap) ∧ w.cell? ⟨h, 9, none⟩ = some (.int .u64 (af : Int)) ∧ w.cell? ⟨b, x, none⟩ = some (.int .u64 (id : Int))
set_option maxRecDepth 100000 in
set_option maxHeartbeats 2000000 in
theorem give1_any (g h i : Nat) (o : Option Addr) (cap : Nat) (l : List Rw) (af : Nat) (w : World) (hi : i < l.length) (hr : RowsAt w o cap l) (hg : w.cell? ⟨g, 0, none⟩ = some (.slice o l.length cap)) (hh : w.cell? ⟨h, 9, none⟩ = some (.int .u64 (af : Int))) :
  Calls Try.prog 55 #[.int .i64 (i : Int), .pointer (some ⟨g, 0, none⟩), .pointer (some ⟨h, 0, none⟩)] w fun e w' => e = .returned (.bool (decide (af < (rat l i).id))) ∧ Below w.heap.size w w' := by
 obtain ⟨b, off, rfl, hbl, hc⟩ := hr.row hi
 have c0 := (hc i hi).1
 have q1 : (i : Int) < (l.length : Int) := by omega
 have q0 : (0 : Int) ≤ (i : Int) := by omega
 obtain ⟨id, hid⟩ : ∃ id, (rat l i).id = id := ⟨_, rfl⟩
 rw [hid] at c0 ⊢
 have HB : Hid (Below w.heap.size w w.drew) := (Below.refl _ w).drew
 have HSW : Hid (G1 g h (some ⟨b, off, none⟩) l.length cap af b (off + i * 4) id w.drew) := ⟨hg, hh, c0⟩
 clear hc hg hh c0 hid
 go_enter Try.func55, Try.ntmps55
 go_wp2_with fail
 refine wp_region_held (S := G1 g h (some ⟨b, off, none⟩) l.length cap af b (off + i * 4) id) (by kernel_rfl) ?_
 change wpAnyH _ _ _ _ _ _ _ _ (World.drew _)
 refine wpAnyH_take (i := 0) (v := ?_) rfl (by kernel_rfl) (by kernel_rfl) (by kernel_rfl) (fun _ _ _ h => h) (Or.inl ⟨by kernel_rfl, ?_⟩) HSW.out ?_
 rotate_left
 ·rintro w ⟨e0,e1,e2⟩; go_simp; try with_reducible rfl
 conv in (Act.put _ _ _) => simp only [List.getElem_toArray, List.getElem_cons_succ, List.getElem_cons_zero, Act.put, List.setIfInBounds_toArray, List.set_cons_succ, List.set_cons_zero]
 refine wpAnyH_take (i := 1) (v := ?_) rfl (by kernel_rfl) (by kernel_rfl) (by kernel_rfl) (fun _ _ _ h => h) (Or.inl ⟨by kernel_rfl, ?_⟩) HSW.out ?_
 rotate_left
 ·rintro w ⟨e0,e1,e2⟩; go_simp; try with_reducible rfl
 conv in (Act.put _ _ _) => simp only [List.getElem_toArray, List.getElem_cons_succ, List.getElem_cons_zero, Act.put, List.setIfInBounds_toArray, List.set_cons_succ, List.set_cons_zero]
 refine wpAnyH_take (i := 2) (v := ?_) rfl (by kernel_rfl) (by kernel_rfl) (by kernel_rfl) (fun _ _ _ h => h) (Or.inl ⟨by kernel_rfl, ?_⟩) HSW.out ?_
 rotate_left
 ·rintro w ⟨e0,e1,e2⟩; go_simp; try with_reducible rfl
 conv in (Act.put _ _ _) => simp only [List.getElem_toArray, List.getElem_cons_succ, List.getElem_cons_zero, Act.put, List.setIfInBounds_toArray, List.set_cons_succ, List.set_cons_zero]
 refine wpAnyH_take (i := 3) (v := ?_) rfl (by kernel_rfl) (by kernel_rfl) (by kernel_rfl) (fun _ _ _ h => h) (Or.inl ⟨by kernel_rfl, ?_⟩) HSW.out ?_
 rotate_left
 ·rintro w ⟨e0,e1,e2⟩; go_simp; try with_reducible rfl
 conv in (Act.put _ _ _) => simp only [List.getElem_toArray, List.getElem_cons_succ, List.getElem_cons_zero, Act.put, List.setIfInBounds_toArray, List.set_cons_succ, List.set_cons_zero]
 refine wpAnyH_take (i := 4) (v := ?_) rfl (by kernel_rfl) (by kernel_rfl) (by kernel_rfl) (fun _ _ _ h => h) (Or.inl ⟨by kernel_rfl, ?_⟩) HSW.out ?_
 rotate_left
 ·rintro w ⟨e0,e1,e2⟩; go_simp; try with_reducible rfl
 conv in (Act.put _ _ _) => simp only [List.getElem_toArray, List.getElem_cons_succ, List.getElem_cons_zero, Act.put, List.setIfInBounds_toArray, List.set_cons_succ, List.set_cons_zero]
 refine wpAnyH_take (i := 5) (v := ?_) rfl (by kernel_rfl) (by kernel_rfl) (by kernel_rfl) (fun _ _ _ h => h) (Or.inl ⟨by kernel_rfl, ?_⟩) HSW.out ?_
 rotate_left
 ·rintro w ⟨e0,e1,e2⟩; go_simp; try with_reducible rfl
 conv in (Act.put _ _ _) => simp only [List.getElem_toArray, List.getElem_cons_succ, List.getElem_cons_zero, Act.put, List.setIfInBounds_toArray, List.set_cons_succ, List.set_cons_zero]
 refine wpAnyH_take (i := 6) (v := ?_) rfl (by kernel_rfl) (by kernel_rfl) (by kernel_rfl) (fun _ _ _ h => h) (Or.inl ⟨by kernel_rfl, ?_⟩) HSW.out ?_
 rotate_left
 ·rintro w ⟨e0,e1,e2⟩; go_simp; try with_reducible rfl
 conv in (Act.put _ _ _) => simp only [List.getElem_toArray, List.getElem_cons_succ, List.getElem_cons_zero, Act.put, List.setIfInBounds_toArray, List.set_cons_succ, List.set_cons_zero]
 refine wpAnyH_take (i := 7) (v := ?_) rfl (by kernel_rfl) (by kernel_rfl) (by kernel_rfl) (fun _ _ _ h => h) (Or.inl ⟨by kernel_rfl, ?_⟩) HSW.out ?_
 rotate_left
 ·rintro w ⟨e0,e1,e2⟩; go_simp; try with_reducible rfl
 conv in (Act.put _ _ _) => simp only [List.getElem_toArray, List.getElem_cons_succ, List.getElem_cons_zero, Act.put, List.setIfInBounds_toArray, List.set_cons_succ, List.set_cons_zero]
 refine wpAnyH_take (i := 8) (v := ?_) rfl (by kernel_rfl) (by kernel_rfl) (by kernel_rfl) (fun _ _ _ h => h) (Or.inl ⟨by kernel_rfl, ?_⟩) HSW.out ?_
 rotate_left
 ·rintro w ⟨e0,e1,e2⟩; go_simp; try with_reducible rfl
 conv in (Act.put _ _ _) => simp only [List.getElem_toArray, List.getElem_cons_succ, List.getElem_cons_zero, Act.put, List.setIfInBounds_toArray, List.set_cons_succ, List.set_cons_zero]
 refine wpAnyH_done (by kernel_rfl) ?_ _
 go_wp2_with fail
 go_ret
 exact ⟨rfl, HB.out⟩
def upTo (l : List Rw) (af : Nat) : Nat := l.findIdx fun r => decide (af < r.id)
theorem upTo_is {l : List Rw} {af n : Nat} (hn : n ≤ l.length) (h1 : ∀ j, j < n → (rat l j).id ≤ af) (h2 : ∀ j, n ≤ j → j < l.length → af < (rat l j).id) : upTo l af = n := by
 unfold upTo
 by_cases h : n < l.length
 ·rw [List.findIdx_eq h]
  refine ⟨?_, fun j hj => ?_⟩
  ·have := h2 n (Nat.le_refl _) h
   rw [rat_get h] at this
   simpa using this
  ·have := h1 j hj
   rw [rat_get (by omega)] at this
   simpa using this
 ·obtain rfl : n = l.length := by omega
  rw [List.findIdx_eq_length]
  intro r hr
  obtain ⟨j, hj, rfl⟩ := List.getElem_of_mem hr
  have := h1 j hj
  rw [rat_get hj] at this
  simpa using this
theorem rise_lt {l : List Rw} (h : Rise l) {i j : Nat} (hij : i < j) (hj : j < l.length) : (rat l i).id < (rat l j).id := by
 rw [rat_get (by omega), rat_get hj]
 exact List.pairwise_iff_getElem.1 h i j (by omega) hj hij
set_option maxRecDepth 100000 in
set_option maxHeartbeats 2000000 in
theorem search_any (g h : Nat) (o : Option Addr) (cap : Nat) (l : List Rw) (af : Nat) (w : World) (hmax : l.length ≤ 1000) (hri : Rise l) (hr : RowsAt w o cap l) (bg : g < w.heap.size) (bh : h < w.heap.size) (hg : w.cell? ⟨g, 0, none⟩ = some (.slice o l.length cap)) (hh : w.cell? ⟨h, 9, none⟩ = some (.int .u64 (af : Int))) :
  Calls Try.prog 54 #[.int .i64 (l.length : Int), .func (.func 55) #[] #[.pointer (some ⟨g, 0, none⟩), .pointer (some ⟨h, 0, none⟩)]] w fun e w' => e = .returned (.int .i64 (upTo l af : Int)) ∧ Below w.heap.size w w' := by
 have HC : Hid (∀ W i, Below w.heap.size w W → i < l.length → _) := fun W i hW hi => give1_any g h i o cap l af W hi (hr.below hW (Nat.le_refl _)) ((World.cell?_of_block (a := ⟨g, 0, none⟩) (hW.block g bg)).trans hg) ((World.cell?_of_block (a := ⟨h, 9, none⟩) (hW.block h bh)).trans hh)
 have HRI : Hid (Rise l) := hri
 have n0 : (l.length : Int) ≤ 1000 := by omega
 clear hr hg hh hri
 go_enter Try.func54, Try.ntmps54
 go_wp2_with fail
 go_loopw [5, 6] (fun iv jv wr => ∃ i j : Nat, i ≤ j ∧ j ≤ l.length ∧ iv = .int .i64 (i : Int) ∧ jv = .int .i64 (j : Int) ∧ (∀ k, k < i → (rat l k).id ≤ af) ∧ (∀ k, j ≤ k → k < l.length → af < (rat l k).id) ∧ Below w.heap.size w wr) (fun iv jv _ => natOf jv - natOf iv)
 case atStart => exact ⟨0, l.length, Nat.zero_le _, Nat.le_refl _, rfl, rfl, fun k hk => by omega, fun k h1 h2 => by omega, Below.refl _ _⟩
 case round =>
  obtain ⟨i, j, hij, hj, rfl, rfl, a1, a2, hb⟩ := hrel
  have HA : Hid ((∀ k, k < i → (rat l k).id ≤ af) ∧ (∀ k, j ≤ k → k < l.length → af < (rat l k).id)) := ⟨a1, a2⟩
  have HB : Hid (Below w.heap.size w wr) := hb
  clear a1 a2 hb
  by_cases hlt : i < j
  ·obtain ⟨m, hm⟩ : ∃ m, (i + j) / 2 = m := ⟨_, rfl⟩
   have HM : Hid (i ≤ m ∧ m < j) := by refine (?_ : i ≤ m ∧ m < j); omega
   have q1 : (i : Int) < (j : Int) := by omega
   have i0 : (0 : Int) ≤ (i : Int) := by omega
   have j1 : (j : Int) ≤ 1000 := by omega
   have hsh : ((i : Int) + (j : Int)) / 2 ^ min (1 : Int).toNat 64 = (m : Int) := by
    rw [show min (1 : Int).toNat 64 = 1 from rfl]
    omega
   have hsh2 : ((i : Int) + (j : Int)) / 2 = (m : Int) := by omega
   have HCM : Hid _ := fun W hW => HC.out W m hW (by have := HM.out; omega)
   clear hm
   go_wp2_with fail
   refine (HCM.out wr HB.out).mono ?_
   rintro e w2 ⟨rfl, b2⟩
   have HB2 : Hid (Below w.heap.size w w2) := HB.out.trans (b2.mono HB.out.size)
   clear b2 q1 hsh hsh2
   by_cases hd : af < (rat l m).id
   ·rw [decide_eq_true hd]
    have HN : Hid (∀ k, m ≤ k → k < l.length → af < (rat l k).id) := fun k h1 h2 => by
     rcases Nat.eq_or_lt_of_le h1 with rfl | h3
     ·exact hd
     ·have := rise_lt HRI.out h3 h2; omega
    clear hd
    go_wp2_with fail
    go_roundw
    case rel => exact ⟨i, m, HM.out.1, by have := HM.out; omega, rfl, rfl, HA.out.1, HN.out, HB2.out⟩
    case measure => have := HM.out; simp [natOf]; omega
   ·rw [decide_eq_false hd]
    have HN : Hid (∀ k, k < m + 1 → (rat l k).id ≤ af) := fun k h1 => by
     have hm := HM.out
     rcases Nat.eq_or_lt_of_le (Nat.le_of_lt_succ h1) with rfl | h3
     ·omega
     ·have := rise_lt HRI.out h3 (by omega); omega
    have m1 : (m : Int) ≤ 1000 := by have := HM.out; omega
    have m0 : (0 : Int) ≤ (m : Int) := by omega
    clear hd
    go_wp2_with fail
    go_roundw
    case rel => exact ⟨m + 1, j, by have := HM.out; omega, by omega, by go_num, rfl, HN.out, HA.out.2, HB2.out⟩
    case measure => have := HM.out; simp [natOf]; omega
  ·obtain rfl : i = j := by omega
   have q1 : ¬ (i : Int) < (i : Int) := by omega
   have HU : Hid (upTo l af = i) := upTo_is hj HA.out.1 HA.out.2
   go_wp2_with fail
   go_ret
   exact ⟨by rw [HU.out]; rfl, HB.out⟩
set_option maxRecDepth 100000 in
theorem fclip_any (o : Option Addr) (n cap : Nat) (h : n ≤ cap) (w : World) :
  Calls Try.prog 49 #[.slice o n cap] w fun e w' => e = .returned (.slice o n n) ∧ w' = w := by
 have h1 : (n : Int) ≤ (cap : Int) := by omega
 have h0 : (0 : Int) ≤ (n : Int) := by omega
 go_enter Try.func49, Try.ntmps49
 go_wp2_with fail
 go_ret
 exact ⟨rfl, rfl⟩
set_option maxRecDepth 100000 in
theorem run_tailR (o : Option Addr) (n cap k : Nat) (w : World) (hk : k ≤ n) : (Instr.sliceAt 32 (.slice o n cap) (some (.int .i64 (k : Int))) none none).run Try.prog w = .ok (.slice (if cap = k then o else o.map (·.add (k * 4))) (n - k) (cap - k)) w := by
 have h1 : (k : Int) ≤ (n : Int) := by omega
 simp [Instr.sliceAt, Instr.slice, run_underlying Try.underlying32, go_sem]
 intro h
 omega
set_option maxRecDepth 100000 in
theorem rows_drop {w : World} {o : Option Addr} {cap : Nat} {l : List Rw} (h : RowsAt w o cap l) {k : Nat} (hk : k ≤ l.length) : RowsAt w (if cap = k then o else o.map (·.add (k * 4))) (cap - k) (l.drop k) := by
 have hl : (l.drop k).length = l.length - k := List.length_drop
 have h1 := h.1
 have h2 := h.2.1
 refine ⟨by omega, by omega, fun e => ?_, flat_len rc 4 (fun _ => rfl) _, fun hn => ?_⟩
 ·by_cases hc : cap = k
  ·omega
  ·rw [if_neg hc] at e
   have : o = none := by cases o with | none => rfl | some a => simp at e
   have := h.2.2.1 this
   omega
 ·obtain ⟨b, off, e, hlt, hc⟩ := h.2.2.2.2 (by omega)
  have hck : ¬ cap = k := by omega
  rw [if_neg hck, e]
  refine ⟨b, off + k * 4, ?_, hlt, fun j u hu => ?_⟩
  ·simp [Addr.add]
  ·have e2 : l.flatMap rc = (l.take k).flatMap rc ++ (l.drop k).flatMap rc := by rw [← List.flatMap_append, List.take_append_drop]
   have e3 : ((l.take k).flatMap rc).length = k * 4 := by rw [flat_len rc 4 (fun _ => rfl), List.length_take]; congr 1; omega
   have := hc (k * 4 + j) u (by rw [e2, List.getElem?_append_right (by omega), e3, Nat.add_sub_cancel_left]; exact hu)
   rwa [← Nat.add_assoc] at this
set_option maxRecDepth 100000 in
theorem rows_take {w : World} {o : Option Addr} {cap : Nat} {l : List Rw} (h : RowsAt w o cap l) (n : Nat) : RowsAt w o (l.take n).length (l.take n) := by
 have hle : (l.take n).length ≤ l.length := by rw [List.length_take]; omega
 have h1 := h.1
 have h2 := h.2.1
 refine ⟨Nat.le_refl _, by omega, fun e => ?_, flat_len rc 4 (fun _ => rfl) _, fun hn => ?_⟩
 ·have := h.2.2.1 e
  omega
 ·obtain ⟨b, off, e, hlt, hc⟩ := h.2.2.2.2 (by omega)
  refine ⟨b, off, e, hlt, fun j u hu => hc j u ?_⟩
  have : l.flatMap rc = (l.take n).flatMap rc ++ (l.drop n).flatMap rc := by rw [← List.flatMap_append, List.take_append_drop]
  rw [this, List.getElem?_append_left (List.getElem?_eq_some_iff.1 hu).1]
  exact hu
end Go.Proofs.Ytimdlohdmddnjaa.Rf
