/- keys.Right: which rings are right. -/
import Derived.Test.YtheheaflebkipaaGreatDoorQKA
import Derived.Laws.StructEq
namespace Go.Proofs.YtheheaflebkipaaGreatDoor.Rk
open Go.RowKit Go.Shelf Go.Lib
attribute [local go_sem] Oper.semAt_some
/-- The last generation of a list, or a given one. -/
def lastG (a : Int) (l : List Ky) : Int := l.foldl (fun _ k => k.1) a
set_option maxRecDepth 100000 in
theorem rises_snoc (a : Int) (l : List Ky) (x : Ky) : rises a (l ++ [x]) = (rises a l && (decide (lastG a l < x.1) && decide (x.2.size = 32))) := by
  induction l generalizing a with
  | nil => simp [rises, lastG]; rfl
  | cons k t ih => simp [rises, ih, lastG, Bool.and_assoc]; rfl
set_option maxRecDepth 100000 in
theorem rises_take (a : Int) (l : List Ky) (j : Nat) (h : rises a (l.take j) = false) : rises a l = false := by
  induction l generalizing a j with
  | nil => simp at h; exact h
  | cons k t ih =>
    cases j with
    | zero => simp [rises] at h
    | succ j =>
      simp only [List.take_succ_cons, rises] at h ⊢
      cases h1 : decide (a < k.1) <;> cases h2 : decide (k.2.size = 32) <;> simp [h1, h2] at h ⊢
      exact ih _ j h
set_option maxRecDepth 100000 in
theorem take_kat (l : List Ky) (k : Nat) (h : k < l.length) : l.take (k + 1) = l.take k ++ [kat l k] := by
  rw [List.take_add_one, kat_some h]; rfl
set_option maxRecDepth 100000 in
theorem lastG_take (l : List Ky) (k : Nat) (h : k < l.length) : lastG 0 (l.take (k + 1)) = (kat l k).1 := by
  rw [take_kat l k h, lastG, List.foldl_append]; rfl
/-- What the walk has found, k keys on. -/
def RJ (l : List Ky) (w : World) (k : Nat) (W : World) : Prop :=
  rises 0 (l.take k) = true ∧ W.heap[w.heap.size]? = some (.cells #[.bool false] 4 (0, 0)) ∧ W.heap[w.heap.size + 1]? = some (.cells #[.int .u32 (lastG 0 (l.take k))] 32 (0, 0)) ∧ Below w.heap.size w W
def RX (l : List Ky) (w : World) (W : World) : Prop :=
  rises 0 l = false ∧ W.heap[w.heap.size]? = some (.cells #[.bool false] 4 (0, 0)) ∧ Below w.heap.size w W
set_option maxRecDepth 100000 in
theorem results_bool {fn : Func} {p : Tmp} (h : fn.results = #[.cell p 4]) (tmps : Array Value) (w : World) (g : Nat) (b : Bool) {t : TypeId} {fr : Nat × Nat}
    (hp : tmps.getD p undef = .pointer (some ⟨g, 0, none⟩)) (hg : w.heap[g]? = some (.cells #[.bool b] t fr)) : (results fn tmps).run Tryz.prog w = .ok (.bool b) w := by
  have hp' : tmps[p]?.getD undef = .pointer (some ⟨g, 0, none⟩) := by simpa using hp
  have hc : w.cell? ⟨g, 0, none⟩ = some (.bool b) := by rw [cell_of_row _ _ _ _ _ _ hg]; rfl
  simp [results, h, hp', asAddr, go_sem, hc]
set_option maxRecDepth 100000 in
theorem three_new (w : World) (a b c : Obj) : (((w.alloc a).alloc b).alloc c).heap[w.heap.size]? = some a ∧ (((w.alloc a).alloc b).alloc c).heap[w.heap.size + 1]? = some b ∧ (((w.alloc a).alloc b).alloc c).heap[w.heap.size + 2]? = some c ∧ Below w.heap.size w (((w.alloc a).alloc b).alloc c) ∧ (((w.alloc a).alloc b).alloc c).heap.size = w.heap.size + 3 := by
  obtain ⟨h1, h2, h3⟩ := two_new w a b
  refine ⟨(Below.heap_alloc _ _ _ (by simp; omega)).trans h1, (Below.heap_alloc _ _ _ (by simp)).trans h2, ?_, h3.alloc (by simp; omega) _, by simp⟩
  have := heap_alloc_new ((w.alloc a).alloc b) c
  simpa using this
set_option maxRecDepth 100000 in
set_option maxHeartbeats 2000000 in
theorem right_in (l : List Ky) (o : Option Addr) (cap : Nat) (w : World) (hr : Ring w o cap l) :
    CallsIn Fence.wide 5 Tryz.prog 83 #[.slice o l.length cap] w fun e w' => e = .returned (.bool (rightS l)) ∧ Below w.heap.size w w' := by
  refine callsIn_of_wp_marks Tryz.func83 rfl trivial ?_ rfl
  simp only [Tryz.ntmps83, List.size_toArray, List.length_cons, List.length_nil, Nat.reduceAdd, Nat.reduceSub, Array.replicate_succ, Array.replicate_zero, List.push_toArray, List.append_toArray, List.nil_append, List.cons_append]
  have n0 : (0 : Int) ≤ (l.length : Int) := by omega
  have HG : Hid (Ring w o cap l) := hr
  clear hr
  by_cases h16 : 16 < l.length
  · have q16 : (16 : Int) < (l.length : Int) := by omega
    have HE : Hid (rightS l = false) := by refine (?_ : rightS l = false); unfold rightS; rw [decide_eq_false (by omega)]; rfl
    gi_wp2
    refine ⟨_, results_bool rfl _ _ w.heap.size false rfl (heap_alloc_new w _), ?_, below_new w _⟩
    rw [HE.out]
  · have q16 : ¬ (16 : Int) < (l.length : Int) := by omega
    have HE : Hid (rightS l = rises 0 l) := by refine (?_ : rightS l = rises 0 l); unfold rightS; rw [decide_eq_true (by omega)]; rfl
    gi_wp2
    refine ⟨trivial, callsIn_wide.2 ((values_any _ _ _ _).mono ?_)⟩
    rintro e w2 ⟨rfl, rfl⟩
    have h3 := three_new w (.cells #[.bool false] 4) (.cells #[.int .u32 0] 32) (.cells #[.slice o l.length cap] 39)
    have e2 : ((w.alloc (.cells #[.bool false] 4)).alloc (.cells #[.int .u32 0] 32)).heap.size = w.heap.size + 2 := by simp
    rw [e2]
    obtain ⟨w3, hw3⟩ : ∃ w3, ((w.alloc (.cells #[.bool false] 4)).alloc (.cells #[.int .u32 0] 32)).alloc (.cells #[.slice o l.length cap] 39) = w3 := ⟨_, rfl⟩
    rw [hw3] at h3 ⊢
    clear hw3 e2
    obtain ⟨X0, X1, X2, B3, S3⟩ := h3
    have KW : Kq w.heap.size (w.heap.size + 2) w w3 := ⟨B3.size, fun j ob hj ho _ => (B3.block j (by have := (Array.getElem?_eq_some_iff.1 ho).1; omega)).trans ho⟩
    have HX0 : Hid _ := X0
    have HX1 : Hid _ := X1
    have HX2 : Hid _ := X2
    clear X0 X1 X2
    gi_wp2
    refine range_law3 rfl (by omega) (gf := 133) (lb := #[.pointer (some ⟨w.heap.size + 2, 0, none⟩)]) rfl trivial (enters_of Tryz.func133 (by kernel_rfl) rfl)
      l.length (fun k => #[kv (kat l k)]) (fun _ => rfl) (Kq w.heap.size (w.heap.size + 2)) Kq.trans (fun W l o o' h hc => Kq.put _ _ W l o o' h hc)
      (fun k W => RJ l w k W) (fun W => RX l w W) .ret (fun k W W' h hb => ?hJ) (fun W W' h hb => ?hJx) ?h0
      (fun k a' W => ∃ q, w3.heap.size + 2 ≤ q ∧ W.heap[q]? = some (.cells #[.int .u32 (kat l k).1, .string (kat l k).2] 99 (0, 0)) ∧
        a' = { tmps := #[Value.slice o l.length cap, undef, Value.pointer (some ⟨w.heap.size, 0, none⟩), Value.pointer (some ⟨w.heap.size + 1, 0, none⟩), .pointer (some ⟨q, 0, none⟩), Value.slice o l.length cap, Value.int IntKind.i64 ↑l.length, Value.bool false, Value.slice o l.length cap, .func (.func 133) #[] #[.pointer (some ⟨w.heap.size + 2, 0, none⟩)], kv (kat l k), undef, undef, undef, undef, undef, undef, undef, undef, undef, undef, undef, undef], defers := [] }) ?hA ?assign ?body ?iter ?done ?stop
    case hJ => exact ⟨h.1, (hb.block _ (by omega)).trans h.2.1, (hb.block _ (by omega)).trans h.2.2.1, h.2.2.2.trans (hb.mono (by omega))⟩
    case hJx => exact ⟨h.1, (hb.block _ (by omega)).trans h.2.1, h.2.2.trans (hb.mono (by omega))⟩
    case h0 => exact ⟨rfl, HX0.out, HX1.out, B3⟩
    case hA =>
      rintro k a' W j o' ⟨q, hq1, hq2, rfl⟩ h1 h2
      exact ⟨q, hq1, (World.putObj_heap_other (by omega)).trans hq2, rfl⟩
    case assign =>
      intro p k W K hk hJ hsz hK
      clear hJ
      generalize kat l k = gs at *
      obtain ⟨g, s⟩ := gs
      simp only [kv] at *
      gi_wp2
      exact hK _ _ (below_new W _) (Kq.below (below_new W _) (by omega) (by omega)) ⟨W.heap.size, by omega, heap_alloc_new W _, rfl⟩
    case iter =>
      intro p W1 hB1 hs1 R Rx hR hRx hY h0
      exact values1_in l o cap (w.heap.size + 2) w w3 HG.out KW (by omega) HX2.out p W1 (Kq.below hB1 (by omega) (by omega)) R Rx hR hRx hY h0
    case body =>
      rintro p k a' W hk hJ ⟨q, hq1, hq2, rfl⟩
      have HJ : Hid (RJ l w k W) := hJ
      have HQ : Hid _ := hq2
      have ht := take_kat l k hk
      have hlt := lastG_take l k hk
      have hsn : rises 0 (l.take (k + 1)) = (true && (decide (lastG 0 (l.take k) < (kat l k).1) && decide ((kat l k).2.size = 32))) := by rw [ht, rises_snoc, hJ.1]
      have c1 : W.cell? ⟨w.heap.size + 1, 0, none⟩ = some (.int .u32 (lastG 0 (l.take k))) := by rw [cell_of_row _ _ _ _ _ _ hJ.2.2.1]; rfl
      have c2 : W.cell? ⟨q, 0, none⟩ = some (.int .u32 (kat l k).1) := by rw [cell_of_row _ _ _ _ _ _ hq2]; rfl
      have c3 : W.cell? ⟨q, 1, none⟩ = some (.string (kat l k).2) := by rw [cell_of_row _ _ _ _ _ _ hq2]; rfl
      have z1 := frozen_of_row W _ 0 _ _ hJ.2.2.1
      have z0 := frozen_of_row W _ 0 _ _ hJ.2.1
      have c0 : W.cell? ⟨w.heap.size, 0, none⟩ = some (.bool false) := by rw [cell_of_row _ _ _ _ _ _ hJ.2.1]; rfl
      generalize kat l k = gs at *
      obtain ⟨g, s⟩ := gs
      obtain ⟨a, ha⟩ : ∃ a, lastG 0 (l.take k) = a := ⟨_, rfl⟩
      rw [ha] at c1 hsn
      have HA : Hid (lastG 0 (l.take k) = a) := ha
      have HL : Hid (lastG 0 (l.take (k + 1)) = g) := hlt
      have HS : Hid (rises 0 (l.take (k + 1)) = (true && (decide (a < g) && decide (s.size = 32)))) := hsn
      simp only [kv] at *
      clear hJ hq2 ht hlt hsn ha
      by_cases hg : a < g
      · by_cases hs32 : s.size = 32
        · have q1 : ¬ g ≤ a := by omega
          have q2 : (s.size : Int) = 32 := by omega
          gi_wp2
          have g6 := gb_set W (w.heap.size + 1) 0 (.int .u32 g)
          have X6 := heap_setCell_same W (w.heap.size + 1) 0 _ _ (.int .u32 g) HJ.out.2.2.1
          refine ⟨KeepsFrom.of_grownBy g6 (fun j e => by cases e; omega), Kq.set _ _ _ _ (by omega) (by omega), ?_, (Below.heap_setCell _ _ _ _ (by simp)).trans HJ.out.2.1, ?_, HJ.out.2.2.2.trans (grown_below g6 (by omega) HJ.out.2.2.2.size)⟩
          · rw [HS.out]; simp [hg, hs32]
          · rw [X6, HL.out]; rfl
        · have q1 : ¬ g ≤ a := by omega
          have q2 : ¬ (s.size : Int) = 32 := by omega
          gi_wp2
          have g6 := gb_set W w.heap.size 0 (.bool false)
          have X6 := heap_setCell_same W w.heap.size 0 _ _ (.bool false) HJ.out.2.1
          refine ⟨rfl, KeepsFrom.of_grownBy g6 (fun j e => by cases e; omega), rises_take 0 l (k + 1) ?_, ?_, HJ.out.2.2.2.trans (grown_below g6 (by omega) HJ.out.2.2.2.size)⟩
          · rw [HS.out]; simp [hs32]
          · rw [X6]; rfl
      · have q1 : g ≤ a := by omega
        gi_wp2
        have g6 := gb_set W w.heap.size 0 (.bool false)
        have X6 := heap_setCell_same W w.heap.size 0 _ _ (.bool false) HJ.out.2.1
        refine ⟨rfl, KeepsFrom.of_grownBy g6 (fun j e => by cases e; omega), rises_take 0 l (k + 1) ?_, ?_, HJ.out.2.2.2.trans (grown_below g6 (by omega) HJ.out.2.2.2.size)⟩
        · rw [HS.out, decide_eq_false (by omega : ¬ a < g)]; rfl
        · rw [X6]; rfl
    case done =>
      rintro D W hD ⟨h1, h2, h3, h4⟩ hdf
      rw [List.take_length] at h1
      have HD : Hid _ := hdf
      have H2 : Hid _ := h2
      have c0 : W.cell? ⟨w.heap.size, 0, none⟩ = some (.bool false) := by rw [cell_of_row _ _ _ _ _ _ h2]; rfl
      have z0 := frozen_of_row W _ 0 _ _ h2
      clear h2 h3 hdf
      gi_wp2
      have hd2 : (W.setCell ⟨w.heap.size, 0, none⟩ (.bool true)).heap[D]? = some (.deferred (some [])) := (Below.heap_setCell _ _ _ _ (by simp only; omega)).trans HD.out
      refine ⟨by simp, .inl ⟨_, _, rfl, run_takeDeferred hd2, ?_⟩⟩
      have X6 := heap_setCell_same W w.heap.size 0 _ _ (.bool true) H2.out
      refine ⟨_, results_bool rfl _ _ w.heap.size true rfl ((World.putObj_heap_other (by omega)).trans X6), ?_, (h4.trans (grown_below (gb_set W w.heap.size 0 (.bool true)) (by omega) h4.size)).trans (below_put _ _ (by omega))⟩
      rw [HE.out, h1]
    case stop =>
      rintro D W hD ⟨h1, h2, h4⟩ hdf
      have HD : Hid _ := hdf
      have H2 : Hid _ := h2
      clear h2 hdf
      gi_wp2
      refine ⟨by simp, .inl ⟨_, _, rfl, run_takeDeferred HD.out, ?_⟩⟩
      refine ⟨_, results_bool rfl _ _ w.heap.size false rfl ((World.putObj_heap_other (by omega)).trans H2.out), ?_, h4.trans (below_put _ _ (by omega))⟩
      rw [HE.out, h1]
set_option maxRecDepth 100000 in
theorem right_any (l : List Ky) (o : Option Addr) (cap : Nat) (w : World) (hr : Ring w o cap l) :
    Calls Tryz.prog 83 #[.slice o l.length cap] w fun e w' => e = .returned (.bool (rightS l)) ∧ Below w.heap.size w w' := callsIn_wide.1 (right_in l o cap w hr)
end Go.Proofs.YtheheaflebkipaaGreatDoor.Rk
/- keys.place: how many keys are older. -/
namespace Go.Proofs.YtheheaflebkipaaGreatDoor.Rk
open Go.RowKit Go.Shelf Go.Lib
attribute [local go_sem] Oper.semAt_some
/-- The walk is k keys on: all are older. -/
def PJ (l : List Ky) (g : Int) (w : World) (k : Nat) (W : World) : Prop :=
  (∀ i m, i < k → l[i]? = some m → m.1 < g) ∧ W.heap[w.heap.size]? = some (.cells #[.int .u32 g] 32 (0, 0)) ∧ W.heap[w.heap.size + 1]? = some (.cells #[.int .i64 (k : Int)] 3 (0, 0)) ∧ Below w.heap.size w W
def PX (l : List Ky) (g : Int) (w : World) (W : World) : Prop :=
  W.heap[w.heap.size + 1]? = some (.cells #[.int .i64 (placeS l g : Int)] 3 (0, 0)) ∧ Below w.heap.size w W
set_option maxRecDepth 100000 in
set_option maxHeartbeats 2000000 in
theorem place_in (l : List Ky) (g : Int) (o : Option Addr) (cap : Nat) (w : World) (hr : Ring w o cap l) :
    CallsIn Fence.wide 5 Tryz.prog 110 #[.slice o l.length cap, .int .u32 g] w fun e w' => e = .returned (.int .i64 (placeS l g : Int)) ∧ Below w.heap.size w w' := by
  refine callsIn_of_wp_marks Tryz.func110 rfl trivial ?_ rfl
  simp only [Tryz.ntmps110, List.size_toArray, List.length_cons, List.length_nil, Nat.reduceAdd, Nat.reduceSub, Array.replicate_succ, Array.replicate_zero, List.push_toArray, List.append_toArray, List.nil_append, List.cons_append]
  have n0 : (0 : Int) ≤ (l.length : Int) := by omega
  have n1 : (l.length : Int) ≤ 9223372036854775807 := by have := hr.1; have := hr.2.1; simp only [maxLen] at this; omega
  have HG : Hid (Ring w o cap l) := hr
  clear hr
  gi_wp2
  refine (wpIn_wide (n := 5)).2 (wp_scope_straight ((wpIn_wide (n := 5)).1 ?_))
  gi_wp2
  refine wpIn_label ?_
  gi_wp2
  refine ⟨trivial, callsIn_wide.2 ((values_any _ _ _ _).mono ?_)⟩
  rintro e w2 ⟨rfl, rfl⟩
  have h3 := three_new w (.cells #[.int .u32 g] 32) (.cells #[.int .i64 0] 3) (.cells #[.slice o l.length cap] 39)
  have e2 : ((w.alloc (.cells #[.int .u32 g] 32)).alloc (.cells #[.int .i64 0] 3)).heap.size = w.heap.size + 2 := by simp
  rw [e2]
  obtain ⟨w3, hw3⟩ : ∃ w3, ((w.alloc (.cells #[.int .u32 g] 32)).alloc (.cells #[.int .i64 0] 3)).alloc (.cells #[.slice o l.length cap] 39) = w3 := ⟨_, rfl⟩
  rw [hw3] at h3 ⊢
  clear hw3 e2
  obtain ⟨X0, X1, X2, B3, S3⟩ := h3
  have KW : Kq w.heap.size (w.heap.size + 2) w w3 := ⟨B3.size, fun j ob hj ho _ => (B3.block j (by have := (Array.getElem?_eq_some_iff.1 ho).1; omega)).trans ho⟩
  have HX0 : Hid _ := X0
  have HX1 : Hid _ := X1
  have HX2 : Hid _ := X2
  clear X0 X1 X2
  gi_wp2
  refine range_law3 rfl (by omega) (gf := 133) (lb := #[.pointer (some ⟨w.heap.size + 2, 0, none⟩)]) rfl trivial (enters_of Tryz.func133 (by kernel_rfl) rfl)
      l.length (fun k => #[kv (kat l k)]) (fun _ => rfl) (Kq w.heap.size (w.heap.size + 2)) Kq.trans (fun W l o o' h hc => Kq.put _ _ W l o o' h hc)
      (fun k W => PJ l g w k W) (fun W => PX l g w W) (.exit 0) (fun k W W' h hb => ?hJ) (fun W W' h hb => ?hJx) ?h0
      (fun k a' W => ∃ q, w3.heap.size + 2 ≤ q ∧ W.heap[q]? = some (.cells #[.int .u32 (kat l k).1, .string (kat l k).2] 99 (0, 0)) ∧
        a' = { tmps := #[Value.slice o l.length cap, .int .u32 g, undef, Value.pointer (some ⟨w.heap.size, 0, none⟩), .int .i64 0, Value.pointer (some ⟨w.heap.size + 1, 0, none⟩), .pointer (some ⟨q, 0, none⟩), Value.slice o l.length cap, .func (.func 133) #[] #[.pointer (some ⟨w.heap.size + 2, 0, none⟩)], kv (kat l k), undef, undef, undef, undef, undef, undef, undef], defers := [] }) ?hA ?assign ?body ?iter ?done ?stop
  case hJ => exact ⟨h.1, (hb.block _ (by omega)).trans h.2.1, (hb.block _ (by omega)).trans h.2.2.1, h.2.2.2.trans (hb.mono (by omega))⟩
  case hJx => exact ⟨(hb.block _ (by omega)).trans h.1, h.2.trans (hb.mono (by omega))⟩
  case h0 => exact ⟨fun i m h => by omega, HX0.out, HX1.out, B3⟩
  case hA =>
    rintro k a' W j o' ⟨q, hq1, hq2, rfl⟩ h1 h2
    exact ⟨q, hq1, (World.putObj_heap_other (by omega)).trans hq2, rfl⟩
  case assign =>
    intro p k W K hk hJ hsz hK
    clear hJ
    generalize kat l k = gs at *
    obtain ⟨g, s⟩ := gs
    simp only [kv] at *
    gi_wp2
    exact hK _ _ (below_new W _) (Kq.below (below_new W _) (by omega) (by omega)) ⟨W.heap.size, by omega, heap_alloc_new W _, rfl⟩
  case iter =>
    intro p W1 hB1 hs1 R Rx hR hRx hY h0
    exact values1_in l o cap (w.heap.size + 2) w w3 HG.out KW (by omega) HX2.out p W1 (Kq.below hB1 (by omega) (by omega)) R Rx hR hRx hY h0
  case body =>
    rintro p k a' W hk hJ ⟨q, hq1, hq2, rfl⟩
    have HJ : Hid (PJ l g w k W) := hJ
    have HK : Hid _ := kat_some hk
    have c1 : W.cell? ⟨w.heap.size + 1, 0, none⟩ = some (.int .i64 (k : Int)) := by rw [cell_of_row _ _ _ _ _ _ hJ.2.2.1]; rfl
    have c2 : W.cell? ⟨q, 0, none⟩ = some (.int .u32 (kat l k).1) := by rw [cell_of_row _ _ _ _ _ _ hq2]; rfl
    have c3 : W.cell? ⟨w.heap.size, 0, none⟩ = some (.int .u32 g) := by rw [cell_of_row _ _ _ _ _ _ hJ.2.1]; rfl
    have z1 := frozen_of_row W _ 0 _ _ hJ.2.2.1
    have k0 : (0 : Int) ≤ (k : Int) := by omega
    have k1 : (k : Int) + 1 ≤ 9223372036854775807 := by omega
    generalize kat l k = gs at *
    obtain ⟨x, s⟩ := gs
    simp only [kv] at *
    clear hJ hq2
    by_cases hg : x < g
    · have q1 : ¬ g ≤ x := by omega
      gi_wp2
      have g6 := gb_set W (w.heap.size + 1) 0 (.int .i64 ((k : Int) + 1))
      have X6 := heap_setCell_same W (w.heap.size + 1) 0 _ _ (.int .i64 ((k : Int) + 1)) HJ.out.2.2.1
      refine ⟨KeepsFrom.of_grownBy g6 (fun j e => by cases e; omega), Kq.set _ _ _ _ (by omega) (by omega), ?_, (Below.heap_setCell _ _ _ _ (by simp)).trans HJ.out.2.1, ?_, HJ.out.2.2.2.trans (grown_below g6 (by omega) HJ.out.2.2.2.size)⟩
      · intro i m hi e
        rcases Nat.lt_succ_iff_lt_or_eq.1 hi with h | rfl
        · exact HJ.out.1 i m h e
        · rw [HK.out] at e; cases e; exact hg
      · rw [X6]; simp
    · have q1 : g ≤ x := by omega
      gi_wp2
      have HP : placeS l g = k := placeS_is l g k (by omega) HJ.out.1 (fun m e => by rw [HK.out] at e; cases e; exact q1)
      refine ⟨rfl, KeepsFrom.refl _ _, ?_, HJ.out.2.2.2⟩
      rw [HP]; exact HJ.out.2.2.1
  case done =>
    rintro D W hD ⟨h1, h2, h3, h4⟩ hdf
    have HP : Hid (placeS l g = l.length) := placeS_is l g l.length (Nat.le_refl _) h1 (fun k e => by simp at e)
    have HD : Hid _ := hdf
    have c0 : W.cell? ⟨w.heap.size + 1, 0, none⟩ = some (.int .i64 (l.length : Int)) := by rw [cell_of_row _ _ _ _ _ _ h3]; rfl
    clear h2 h3 hdf
    gi_wp2
    rw [Exit.noGoto_ret]
    refine ⟨by simp, .inl ⟨_, _, rfl, run_takeDeferred HD.out, ?_⟩⟩
    refine ⟨_, results_tmp rfl _ _ _, ?_, h4.trans (below_put W _ (by omega))⟩
    rw [HP.out]; rfl
  case stop =>
    rintro D W hD ⟨h2, h4⟩ hdf
    have c0 : W.cell? ⟨w.heap.size + 1, 0, none⟩ = some (.int .i64 (placeS l g : Int)) := by rw [cell_of_row _ _ _ _ _ _ h2]; rfl
    have HD : Hid _ := hdf
    clear h2 hdf
    gi_wp2
    rw [Exit.noGoto_ret]
    refine ⟨by simp, .inl ⟨_, _, rfl, run_takeDeferred HD.out, ?_⟩⟩
    refine ⟨_, results_tmp rfl _ _ _, rfl, h4.trans (below_put W _ (by omega))⟩
set_option maxRecDepth 100000 in
theorem place_any (l : List Ky) (g : Int) (o : Option Addr) (cap : Nat) (w : World) (hr : Ring w o cap l) :
    Calls Tryz.prog 110 #[.slice o l.length cap, .int .u32 g] w fun e w' => e = .returned (.int .i64 (placeS l g : Int)) ∧ Below w.heap.size w w' := callsIn_wide.1 (place_in l g o cap w hr)
end Go.Proofs.YtheheaflebkipaaGreatDoor.Rk
/- The reference's Right; the newest generation, told twice. -/
namespace Go.Proofs.YtheheaflebkipaaGreatDoor.Rk
open Go.RowKit
set_option maxRecDepth 100000 in
set_option maxHeartbeats 1000000 in
theorem refRight_any (l : List Ky) (o : Option Addr) (cap : Nat) (w : World) (hr : Ring w o cap l) :
    Calls Tryz.prog 85 #[.slice o l.length cap] w fun e w' => e = .returned (.bool (rightS l)) ∧ w' = w := by
  have n0 : (0 : Int) ≤ (l.length : Int) := by omega
  have n1 : (l.length : Int) ≤ 9223372036854775807 := by have := hr.1; have := hr.2.1; simp only [maxLen] at this; omega
  have HG : Hid (Ring w o cap l) := hr
  clear hr
  by_cases h16 : 16 < l.length
  · have q16 : (16 : Int) < (l.length : Int) := by omega
    have HE : Hid (rightS l = false) := by refine (?_ : rightS l = false); unfold rightS; rw [decide_eq_false (by omega)]; rfl
    go_enter Tryz.func85, Tryz.ntmps85
    go_wp2_with fail
    go_ret
    exact ⟨by rw [HE.out]; rfl, rfl⟩
  · have q16 : ¬ (16 : Int) < (l.length : Int) := by omega
    have HE : Hid (rightS l = rises 0 l) := by refine (?_ : rightS l = rises 0 l); unfold rightS; rw [decide_eq_true (by omega)]; rfl
    go_enter Tryz.func85, Tryz.ntmps85
    go_wp2_with fail
    go_loopw [3, 4] (fun v i wr => ∃ k : Nat, k ≤ l.length ∧ v = .int .u32 (lastG 0 (l.take k)) ∧ i = .int .i64 (k : Int) ∧ rises 0 (l.take k) = true ∧ wr = w) (fun _ i _ => l.length - natOf i)
    case atStart => exact ⟨0, by omega, rfl, rfl, rfl, rfl⟩
    case round =>
      obtain ⟨k, hk, rfl, rfl, hs, rfl⟩ := hrel
      have HS : Hid _ := hs
      by_cases hlt : k < l.length
      · have g0 : (k : Int) < (l.length : Int) := by omega
        have g1 : (0 : Int) ≤ (k : Int) := by omega
        have g2 : (k : Int) + 1 ≤ 9223372036854775807 := by omega
        obtain ⟨b, off, rfl, hbl, hc⟩ := HG.out.2.2.2 (by intro e; rw [e] at hlt; simp at hlt)
        obtain ⟨c1, c2⟩ := hc k hlt
        have ht := take_kat l k hlt
        have hla := lastG_take l k hlt
        have hsn : rises 0 (l.take (k + 1)) = (true && (decide (lastG 0 (l.take k) < (kat l k).1) && decide ((kat l k).2.size = 32))) := by rw [ht, rises_snoc, hs]
        generalize kat l k = gs at *
        obtain ⟨g, s⟩ := gs
        obtain ⟨a, ha⟩ : ∃ a, lastG 0 (l.take k) = a := ⟨_, rfl⟩
        rw [ha] at hsn ⊢
        have HL : Hid (lastG 0 (l.take (k + 1)) = g) := hla
        have HN : Hid (rises 0 (l.take (k + 1)) = (true && (decide (a < g) && decide (s.size = 32)))) := hsn
        clear ht hla hsn hc hs ha
        simp only at c1 c2
        by_cases hg : a < g
        · by_cases hs32 : s.size = 32
          · have q1 : ¬ g ≤ a := by omega
            have q2 : (s.size : Int) = 32 := by omega
            go_wp2_with fail
            go_roundw
            case rel => exact ⟨k + 1, by omega, by rw [HL.out], by go_num, by rw [HN.out]; simp [hg, hs32], by first | rfl | trivial⟩
            case measure => simp [natOf]; omega
          · have q1 : ¬ g ≤ a := by omega
            have q2 : ((s.size : Int) != 32) = true := by simp; omega
            have HS32 : Hid (¬ s.size = 32) := hs32
            clear hs32
            go_wp2_with fail
            go_ret
            exact ⟨by rw [HE.out, rises_take 0 l (k + 1) (by rw [HN.out]; simp [HS32.out])]; rfl, rfl⟩
        · have q1 : g ≤ a := by omega
          go_wp2_with fail
          go_ret
          exact ⟨by rw [HE.out, rises_take 0 l (k + 1) (by rw [HN.out, decide_eq_false (by omega : ¬ a < g)]; rfl)]; rfl, rfl⟩
      · have hke : k = l.length := by omega
        have g0 : ¬ (k : Int) < (l.length : Int) := by omega
        have HR : Hid (rises 0 l = true) := by have := HS.out; rw [hke, List.take_length] at this; exact this
        clear hke
        go_wp2_with fail
        go_ret
        exact ⟨by rw [HE.out, HR.out]; rfl, rfl⟩
end Go.Proofs.YtheheaflebkipaaGreatDoor.Rk
/- The reference's newest generation; a key of one byte; the first thirty keys. -/
namespace Go.Proofs.YtheheaflebkipaaGreatDoor.Rk
open Go.RowKit
set_option maxRecDepth 100000 in
theorem info5 : (Tryz.prog.info? 5).map (fun i => (i.zero, i.size, i.bytes)) = some (some (.int .u8 0), 1, 1) := by kernel_rfl
set_option maxRecDepth 100000 in
theorem infoKey : (Tryz.prog.info? 99).map (fun i => (i.zero, i.size, i.bytes)) = some (some (.agg #[.int .u32 0, .string ⟨#[]⟩]), 2, 24) := by kernel_rfl
set_option maxRecDepth 100000 in
theorem info_parts {t : TypeId} {z : Value} {s b : Nat} (h : (Tryz.prog.info? t).map (fun i => (i.zero, i.size, i.bytes)) = some (some z, s, b)) : ∃ i, Tryz.prog.info? t = some i ∧ i.zero = some z ∧ i.size = s ∧ i.bytes = b := by
  obtain ⟨i, hi, h'⟩ := Option.map_eq_some_iff.1 h
  simp at h'
  exact ⟨i, hi, h'.1, h'.2.1, h'.2.2⟩
set_option maxRecDepth 100000 in
theorem cell_one (w : World) (v : Value) (t : TypeId) : ∀ j u, [v][j]? = some u → (w.alloc (.cells #[v] t)).cell? ((⟨w.heap.size, 0, none⟩ : Addr).add j) = some u := fun j u hj => by
  match j, hj with
  | 0, hj => rw [Addr.add_lit, cell_of_row _ _ _ _ _ _ (heap_alloc_new w _)]; simpa using hj
  | j + 1, hj => simp at hj
set_option maxRecDepth 100000 in
theorem list_min {P : Program} {ops : Array Oper} {rest : List Oper} {o : Oper} {a : Act} {w : World} {Q : Exit → Act → World → Prop} (hgd : o.guard = none) (t u : TypeId) (x y : Operand) (ho : o.op = .call { callee := .builtin .min, args := #[x, y], argTypes := #[t, u] })
    {p q r : Int} (hx : a.eval x = .int .i64 p) (hy : a.eval y = .int .i64 q) (hr : (if q < p then q else p) = r) (h : wpList P ops Q rest (a.put o.dst (.int .i64 r)) w) : wpList P ops Q (o :: rest) a w :=
  wpList_plain hgd fun _ hK => by
    have hrun : (Builtin.min_ #[t, u] o.type #[.int .i64 p, .int .i64 q]).run P w = .ok (.int .i64 r) w := by subst hr; rfl
    unfold Oper.wp execOp
    simp only [ho, resolve, invoke, builtin, Sem.run_bind, Sem.run_pure, Result.andThen_ok, List.map_toArray, List.map_cons, List.map_nil, hx, hy, hrun]
    exact hK _ _ h
end Go.Proofs.YtheheaflebkipaaGreatDoor.Rk
/- A key of one byte; two lists held against each other; the index of a key. -/
namespace Go.Proofs.YtheheaflebkipaaGreatDoor.Rk
open Go.RowKit
set_option maxRecDepth 100000 in
theorem toList_dec (a b : ByteArray) : (a.toList == b.toList) = decide (a = b) := by
  rw [ByteArray.toList_eq, ByteArray.toList_eq]
  by_cases e : a = b
  · subst e; simp
  · rw [decide_eq_false e]
    have h : ¬ a.data.toList = b.data.toList := fun h => e (ByteArray.ext (Array.toList_inj.1 h))
    simpa using h
set_option maxRecDepth 100000 in
theorem toList_iff (a b : ByteArray) : a.toList = b.toList ↔ a = b := by
  by_cases e : a = b
  · simp [e]
  · have := toList_dec a b
    rw [decide_eq_false e] at this
    simp at this
    simp [this, e]
set_option maxRecDepth 100000 in
theorem rep_get {α : Type} (f : Int → α) (c : Int) (n i : Nat) (h : i < n) : ((List.replicate n c).map f)[i]? = some (f ((List.replicate n c).getD i 0)) := by
  simp [List.getD, h]
set_option maxRecDepth 100000 in
theorem eql_keys (x y : Ky) (w : World) : (binOp .eql 99 (.agg #[.int .u32 x.1, .string x.2]) (.agg #[.int .u32 y.1, .string y.2])).run Tryz.prog w = .ok (.bool (decide (x = y))) w := by
  have hS : Tryz.prog.underlying 99 = some (.struct (Tryz.prog.fieldsOf 99)) := by kernel_rfl
  have hp : Tryz.prog.stoodInHeld 99 = false := by kernel_rfl
  have u25 := Tryz.underlying32
  have u9 := Tryz.underlying9
  obtain ⟨g, s⟩ := x
  obtain ⟨h, t⟩ := y
  rw [run_eql_struct, show (10000 : Nat) = 9999 + 1 from rfl, run_equalIn_agg w 9999 99 _ _ hS hp]
  simp only [Program.fieldsOf, Tryz.underlying99]
  go_simp
  simp only [toList_iff]
  by_cases h1 : g = h <;> by_cases h2 : s = t <;> simp [h1, h2]
/-- A secret of one byte. -/
def rep (c : Int) : ByteArray := strOfNums (List.replicate 32 c)
set_option maxRecDepth 100000 in
theorem own_cellK {A : World} {base : Nat} {e : TypeId} {p cap n sz : Nat} {xs : List Value} (ho : A.ownsRow base e sz (.slice (some ⟨p, 0, none⟩) n cap) n xs) {j : Nat} {v : Value} (h : xs[j]? = some v) : A.cell? ⟨p, j, none⟩ = some v := by
  have := ho.cells (g := p) rfl j v h
  rwa [Addr.add_lit, Nat.zero_add] at this
end Go.Proofs.YtheheaflebkipaaGreatDoor.Rk
/- The key of a generation. -/
namespace Go.Proofs.YtheheaflebkipaaGreatDoor.Rk
open Go.RowKit
/-- The zero key. -/
def zk : Ky := (0, ⟨#[]⟩)
/-- The key at the place of a generation, if it is of that generation. -/
def heldS (l : List Ky) (g : Int) : Ky := if placeS l g < l.length ∧ (kat l (placeS l g)).1 = g then kat l (placeS l g) else zk
def fkS (l : List Ky) (g : Int) : Ky := if rightS l = true then (findS l g).getD zk else zk
def feS (l : List Ky) (g : Int) : Int := if rightS l = true then if (findS l g).isSome then 0 else 41 else 40
set_option maxRecDepth 100000 in
theorem find_at (l : List Ky) (g : Int) (n : Nat) (h1 : ∀ i k, i < n → l[i]? = some k → k.1 ≠ g) (k : Ky) (h2 : l[n]? = some k) (h3 : k.1 = g) : findS l g = some k := by
  unfold findS
  induction l generalizing n with
  | nil => simp at h2
  | cons a t ih =>
    cases n with
    | zero => simp at h2; subst h2; simp [h3]
    | succ n =>
      have := h1 0 a (by omega) (by simp)
      simp only [List.find?_cons, this, decide_false]
      exact ih n (fun i k hi e => h1 (i + 1) k (by omega) (by simpa using e)) (by simpa using h2)
set_option maxRecDepth 100000 in
theorem find_no (l : List Ky) (g : Int) (h : ∀ (i : Nat) (k : Ky), l[i]? = some k → k.1 ≠ g) : findS l g = none := by
  unfold findS
  rw [List.find?_eq_none]
  intro k hk
  obtain ⟨i, hi⟩ := List.mem_iff_getElem?.1 hk
  simpa using h i k hi
set_option maxRecDepth 100000 in
theorem held_find (l : List Ky) (g : Int) (hr : rightS l = true) : heldS l g = (findS l g).getD zk ∧ (findS l g ≠ none ↔ placeS l g < l.length ∧ (kat l (placeS l g)).1 = g) := by
  obtain ⟨h16, hri⟩ := (right_iff l).1 hr
  obtain ⟨ha, hb⟩ := (rises_iff 0 l).1 hri
  unfold heldS
  split
  · rename_i h
    have := find_at l g (placeS l g) (fun i k hi e he => by have := placeS_lt l g i k hi e; omega) _ (kat_some h.1) h.2
    rw [this]; exact ⟨rfl, by simp [h]⟩
  · rename_i h
    have : findS l g = none := find_no l g fun i k e he => by
      apply h
      have hil : i < l.length := (List.getElem?_eq_some_iff.1 e).1
      have hp : placeS l g = i := placeS_is l g i (by omega) (fun j m hj ej => by have := hb j i m k hj ej e; omega) (fun m em => by rw [e] at em; cases em; omega)
      rw [hp]
      exact ⟨hil, by rw [kat_of e]; exact he⟩
    rw [this]
    exact ⟨rfl, by simp [h]⟩
set_option maxRecDepth 100000 in
theorem held_zero (l : List Ky) (g : Int) (hr : rightS l = true) : decide (heldS l g = zk) = !(findS l g).isSome := by
  obtain ⟨h16, hri⟩ := (right_iff l).1 hr
  obtain ⟨ha, hb⟩ := (rises_iff 0 l).1 hri
  rw [(held_find l g hr).1]
  cases e : findS l g with
  | none => simp
  | some k =>
    obtain ⟨i, hi⟩ := List.mem_iff_getElem?.1 (List.mem_of_find?_eq_some e)
    have := (ha i k hi).1
    refine (decide_eq_false fun h => ?_).trans rfl
    simp at h
    subst h
    exact absurd this (by decide)
set_option maxRecDepth 100000 in
/-- A key laid in a block of two cells. -/
theorem put_two {w : World} {g : Nat} {x y : Value} (h : w.heap[g]? = some (.cells #[x, y] 99 (0, 0))) (a b : Value) :
    ((w.setCell ⟨g, 0, none⟩ a).setCell ⟨g, 1, none⟩ b).heap[g]? = some (.cells #[a, b] 99 (0, 0)) ∧ Below g w ((w.setCell ⟨g, 0, none⟩ a).setCell ⟨g, 1, none⟩ b) := by
  have hl := (Array.getElem?_eq_some_iff.1 h).1
  have X1 := heap_setCell_same w g 0 _ _ a h
  have X2 := heap_setCell_same _ g 1 _ _ b X1
  exact ⟨X2, (grown_below (gb_set w g 0 _) (Nat.le_refl _) (by omega)).trans (grown_below (gb_set _ g 1 _) (Nat.le_refl _) (by simp [World.setCell]; omega))⟩
set_option maxRecDepth 100000 in
theorem results_key {fn : Func} {p u : Tmp} (h : fn.results = #[.cell p 99, .tmp u]) (tmps : Array Value) (w : World) (g : Nat) (k : Ky) {t : TypeId} {fr : Nat × Nat}
    (hp : tmps.getD p undef = .pointer (some ⟨g, 0, none⟩)) (hg : w.heap[g]? = some (.cells #[.int .u32 k.1, .string k.2] t fr)) : (results fn tmps).run Tryz.prog w = .ok (.tuple #[kv k, tmps.getD u undef]) w := by
  rw [results_cell_tmp h, hp]
  simp [asAddr, run_loadVar_row w g t 99 _ fr _ hg Tryz.underlying99 rfl (by kernel_rfl), kv]
set_option maxRecDepth 100000 in
set_option maxHeartbeats 1000000 in
theorem held_any (l : List Ky) (g : Int) (o : Option Addr) (cap : Nat) (w : World) (hr : Ring w o cap l) :
    Calls Tryz.prog 84 #[.slice o l.length cap, .int .u32 g] w fun e w' => e = .returned (kv (heldS l g)) ∧ Below w.heap.size w w' := by
  have n0 : (0 : Int) ≤ (l.length : Int) := by omega
  have n1 : (l.length : Int) ≤ 9223372036854775807 := by have := hr.1; have := hr.2.1; simp only [maxLen] at this; omega
  have HG : Hid (Ring w o cap l) := hr
  clear hr
  go_enter Tryz.func84, Tryz.ntmps84
  go_wp2_with fail
  refine (place_any l g o cap _ (HG.out.below (below_new w _) (Nat.le_refl _))).mono ?_
  rintro e w1 ⟨rfl, b1⟩
  have B1 : Hid (Below w.heap.size w w1) := (below_new w _).trans (b1.mono (by simp))
  have H0 : Hid (w1.heap[w.heap.size]? = some (.cells #[.int .u32 0, .string ⟨#[]⟩] 99 (0, 0))) := (b1.block _ (by simp)).trans (heap_alloc_new w _)
  have hle := placeS_le l g
  have HH : Hid (heldS l g = if placeS l g < l.length ∧ (kat l (placeS l g)).1 = g then kat l (placeS l g) else zk) := rfl
  have z0 := frozen_of_row w1 w.heap.size 0 _ _ H0.out
  have z1 := frozen_of_row w1 w.heap.size 1 _ _ H0.out
  have c0 : w1.cell? ⟨w.heap.size, 0, none⟩ = some (.int .u32 0) := by rw [cell_of_row _ _ _ _ _ _ H0.out]; rfl
  have c1 : w1.cell? ⟨w.heap.size, 1, none⟩ = some (.string ⟨#[]⟩) := by rw [cell_of_row _ _ _ _ _ _ H0.out]; rfl
  clear b1
  obtain ⟨p, hp⟩ : ∃ p, placeS l g = p := ⟨_, rfl⟩
  rw [hp] at hle HH ⊢
  clear hp
  by_cases hpe : p = l.length
  · have q1 : ((p : Int) == (l.length : Int)) = true := by simp [hpe]
    have HZ : Hid (heldS l g = zk) := by refine (?_ : heldS l g = zk); rw [HH.out, if_neg (by omega)]
    clear hpe hle HH
    go_wp2_with fail
    obtain ⟨X, bX⟩ := put_two H0.out (.int .u32 0) (.string ⟨#[]⟩)
    exact bodyPost_ret (results_cell_row rfl _ _ w.heap.size 99 _ (0, 0) _ rfl X Tryz.underlying99 rfl (by kernel_rfl)) rfl ⟨by rw [HZ.out]; rfl, B1.out.trans bX⟩
  · have hlt : p < l.length := by omega
    have q1 : ((p : Int) == (l.length : Int)) = false := by simp; omega
    have q2 : (p : Int) < (l.length : Int) := by omega
    have q3 : (0 : Int) ≤ (p : Int) := by omega
    obtain ⟨b, off, rfl, hbl, hc⟩ := (HG.out.below B1.out (Nat.le_refl _)).2.2.2 (by intro e; rw [e] at hlt; simp at hlt)
    obtain ⟨d1, d2⟩ := hc p hlt
    obtain ⟨k, hk⟩ : ∃ k, kat l p = k := ⟨_, rfl⟩
    rw [hk] at d1 d2 HH
    clear hc hk hpe
    obtain ⟨x, s⟩ := k
    simp only at d1 d2
    by_cases hx : x = g
    · have HZ : Hid (heldS l g = (x, s)) := by refine (?_ : heldS l g = (x, s)); rw [HH.out, if_pos ⟨hlt, hx⟩]
      have q4 : (x == g) = true := by simp [hx]
      clear hx HH
      go_wp2_with fail
      obtain ⟨X, bX⟩ := put_two H0.out (.int .u32 x) (.string s)
      exact bodyPost_ret (results_cell_row rfl _ _ w.heap.size 99 _ (0, 0) _ rfl X Tryz.underlying99 rfl (by kernel_rfl)) rfl ⟨by rw [HZ.out]; rfl, B1.out.trans bX⟩
    · have HZ : Hid (heldS l g = zk) := by refine (?_ : heldS l g = zk); rw [HH.out, if_neg (fun h => hx h.2)]
      have q4 : (x == g) = false := by simp [hx]
      clear hx HH
      go_wp2_with fail
      obtain ⟨X, bX⟩ := put_two H0.out (.int .u32 0) (.string ⟨#[]⟩)
      exact bodyPost_ret (results_cell_row rfl _ _ w.heap.size 99 _ (0, 0) _ rfl X Tryz.underlying99 rfl (by kernel_rfl)) rfl ⟨by rw [HZ.out]; rfl, B1.out.trans bX⟩
set_option maxRecDepth 100000 in
set_option maxHeartbeats 1000000 in
theorem find_any (l : List Ky) (g : Int) (o : Option Addr) (cap : Nat) (w : World) (hr : Ring w o cap l) :
    Calls Tryz.prog 57 #[.slice o l.length cap, .int .u32 g] w fun e w' => e = .returned (.tuple #[kv (fkS l g), .int .i64 (feS l g)]) ∧ Below w.heap.size w w' := by
  have HG : Hid (Ring w o cap l) := hr
  clear hr
  go_enter Tryz.func57, Tryz.ntmps57
  go_wp2_with fail
  refine (right_any l o cap _ (HG.out.below (below_new w _) (Nat.le_refl _))).mono ?_
  rintro e w1 ⟨rfl, b1⟩
  have B1 : Hid (Below w.heap.size w w1) := (below_new w _).trans (b1.mono (by simp))
  have H0 : Hid (w1.heap[w.heap.size]? = some (.cells #[.int .u32 0, .string ⟨#[]⟩] 99 (0, 0))) := (b1.block _ (by simp)).trans (heap_alloc_new w _)
  clear b1
  cases hR : rightS l
  · have HV : Hid (fkS l g = zk ∧ feS l g = 40) := by refine (?_ : fkS l g = zk ∧ feS l g = 40); simp [fkS, feS, hR]
    have z0 := frozen_of_row w1 w.heap.size 0 _ _ H0.out
    have z1 := frozen_of_row w1 w.heap.size 1 _ _ H0.out
    have c0 : w1.cell? ⟨w.heap.size, 0, none⟩ = some (.int .u32 0) := by rw [cell_of_row _ _ _ _ _ _ H0.out]; rfl
    have c1 : w1.cell? ⟨w.heap.size, 1, none⟩ = some (.string ⟨#[]⟩) := by rw [cell_of_row _ _ _ _ _ _ H0.out]; rfl
    clear hR
    go_wp2_with fail
    obtain ⟨X, bX⟩ := put_two H0.out (.int .u32 0) (.string ⟨#[]⟩)
    exact bodyPost_ret (results_key rfl _ _ w.heap.size zk rfl X) rfl ⟨by rw [HV.out.1, HV.out.2]; rfl, B1.out.trans bX⟩
  · have hZ := held_zero l g hR
    have hF := (held_find l g hR).1
    have HV : Hid (fkS l g = heldS l g ∧ feS l g = if (findS l g).isSome then 0 else 41) := by refine (?_ : fkS l g = heldS l g ∧ feS l g = if (findS l g).isSome then 0 else 41); rw [hF]; simp [fkS, feS, hR]
    have HW : Hid ((findS l g).isSome = false → fkS l g = zk) := fun h => by
      have : findS l g = none := by simpa using h
      simp [fkS, hR, this]
    clear hR hF
    go_wp2_with fail
    refine (held_any l g o cap _ (HG.out.below B1.out (Nat.le_refl _))).mono ?_
    rintro e w2 ⟨rfl, b2⟩
    have B2 : Hid (Below w.heap.size w w2) := B1.out.trans (b2.mono B1.out.size)
    have hlt : w.heap.size < w1.heap.size := (Array.getElem?_eq_some_iff.1 H0.out).1
    have H1 : Hid (w2.heap[w.heap.size]? = some (.cells #[.int .u32 0, .string ⟨#[]⟩] 99 (0, 0))) := (b2.block _ hlt).trans H0.out
    have hq := eql_keys (heldS l g) zk
    rw [hZ] at hq
    clear b2 hlt H0 B1 HG hZ
    generalize heldS l g = k at *
    generalize (findS l g).isSome = f at *
    obtain ⟨x, s⟩ := k
    simp only [kv, zk] at *
    have z0 := frozen_of_row w2 w.heap.size 0 _ _ H1.out
    have z1 := frozen_of_row w2 w.heap.size 1 _ _ H1.out
    have c0 : w2.cell? ⟨w.heap.size, 0, none⟩ = some (.int .u32 0) := by rw [cell_of_row _ _ _ _ _ _ H1.out]; rfl
    have c1 : w2.cell? ⟨w.heap.size, 1, none⟩ = some (.string ⟨#[]⟩) := by rw [cell_of_row _ _ _ _ _ _ H1.out]; rfl
    have hl2 : w.heap.size < w2.heap.size := (Array.getElem?_eq_some_iff.1 H1.out).1
    cases f <;> simp only [Bool.not_false, Bool.not_true] at hq
    · have HV2 : Hid (fkS l g = zk ∧ feS l g = 41) := ⟨HW.out rfl, HV.out.2⟩
      clear HV HW
      go_wp2_with fail
      obtain ⟨X, bX⟩ := put_two H1.out (.int .u32 0) (.string ⟨#[]⟩)
      exact bodyPost_ret (results_key rfl _ _ w.heap.size zk rfl ((Below.heap_alloc _ _ _ (Nat.lt_of_lt_of_le hl2 bX.size)).trans X)) rfl ⟨by rw [HV2.out.1, HV2.out.2]; rfl, (B2.out.trans bX).alloc (Nat.le_of_lt (Nat.lt_of_lt_of_le hl2 bX.size)) _⟩
    · have HV2 : Hid (fkS l g = (x, s) ∧ feS l g = 0) := HV.out
      clear HV HW
      go_wp2_with fail
      obtain ⟨X, bX⟩ := put_two H1.out (.int .u32 x) (.string s)
      exact bodyPost_ret (results_key rfl _ _ w.heap.size (x, s) rfl ((Below.heap_alloc _ _ _ (Nat.lt_of_lt_of_le hl2 bX.size)).trans X)) rfl ⟨by rw [HV2.out.1, HV2.out.2]; rfl, (B2.out.trans bX).alloc (Nat.le_of_lt (Nat.lt_of_lt_of_le hl2 bX.size)) _⟩
end Go.Proofs.YtheheaflebkipaaGreatDoor.Rk
/- The reference's Find; the index of a key. -/
namespace Go.Proofs.YtheheaflebkipaaGreatDoor.Rk
open Go.RowKit
set_option maxRecDepth 100000 in
set_option maxHeartbeats 1000000 in
theorem refFind_any (l : List Ky) (g : Int) (o : Option Addr) (cap : Nat) (w : World) (hr : Ring w o cap l) :
    Calls Tryz.prog 62 #[.slice o l.length cap, .int .u32 g] w fun e w' => e = .returned (.tuple #[kv (fkS l g), .int .i64 (feS l g)]) ∧ Below w.heap.size w w' := by
  have n0 : (0 : Int) ≤ (l.length : Int) := by omega
  have n1 : (l.length : Int) ≤ 9223372036854775807 := by have := hr.1; have := hr.2.1; simp only [maxLen] at this; omega
  have HG : Hid (Ring w o cap l) := hr
  clear hr
  go_enter Tryz.func62, Tryz.ntmps62
  go_wp2_with fail
  refine (refRight_any l o cap _ (HG.out.below (below_new w _) (Nat.le_refl _))).mono ?_
  rintro e w1 ⟨rfl, e1⟩
  have B1 : Hid (Below w.heap.size w w1) := by rw [e1]; exact below_new w _
  have H1 : Hid (w1.heap[w.heap.size]? = some (.cells #[.int .u32 0, .string ⟨#[]⟩] 99 (0, 0))) := by rw [e1]; exact heap_alloc_new w _
  clear e1
  have z0 := frozen_of_row w1 w.heap.size 0 _ _ H1.out
  have z1 := frozen_of_row w1 w.heap.size 1 _ _ H1.out
  have c0 : w1.cell? ⟨w.heap.size, 0, none⟩ = some (.int .u32 0) := by rw [cell_of_row _ _ _ _ _ _ H1.out]; rfl
  have c1 : w1.cell? ⟨w.heap.size, 1, none⟩ = some (.string ⟨#[]⟩) := by rw [cell_of_row _ _ _ _ _ _ H1.out]; rfl
  cases hR : rightS l
  · have HV : Hid (fkS l g = zk ∧ feS l g = 40) := by refine (?_ : fkS l g = zk ∧ feS l g = 40); simp [fkS, feS, hR]
    clear hR
    go_wp2_with fail
    obtain ⟨X, bX⟩ := put_two H1.out (.int .u32 0) (.string ⟨#[]⟩)
    exact bodyPost_ret (results_key rfl _ _ w.heap.size zk rfl X) rfl ⟨by rw [HV.out.1, HV.out.2]; rfl, B1.out.trans bX⟩
  · have HV : Hid (fkS l g = (findS l g).getD zk ∧ feS l g = if (findS l g).isSome then 0 else 41) := by refine (?_ : fkS l g = (findS l g).getD zk ∧ feS l g = if (findS l g).isSome then 0 else 41); simp [fkS, feS, hR]
    clear hR
    go_wp2_with fail
    go_loopw [7] (fun i wr => ∃ k : Nat, k ≤ l.length ∧ i = .int .i64 (k : Int) ∧ (∀ (j : Nat) (m : Ky), j < k → l[j]? = some m → m.1 ≠ g) ∧ wr = w1) (fun i _ => l.length - natOf i)
    case atStart => exact ⟨0, by omega, rfl, fun j m h => by omega, rfl⟩
    case round =>
      obtain ⟨k, hk, rfl, hs, rfl⟩ := hrel
      have HS : Hid _ := hs
      clear hs
      by_cases hlt : k < l.length
      · have g0 : (k : Int) < (l.length : Int) := by omega
        have g1 : (0 : Int) ≤ (k : Int) := by omega
        have g2 : (k : Int) + 1 ≤ 9223372036854775807 := by omega
        obtain ⟨b, off, rfl, hbl, hc⟩ := (HG.out.below B1.out (Nat.le_refl _)).2.2.2 (by intro e; rw [e] at hlt; simp at hlt)
        obtain ⟨d1, d2⟩ := hc k hlt
        have HK : Hid (l[k]? = some (kat l k)) := kat_some hlt
        obtain ⟨x, hx⟩ : ∃ x, kat l k = x := ⟨_, rfl⟩
        rw [hx] at d1 d2 HK
        clear hc hx
        obtain ⟨x, s⟩ := x
        simp only at d1 d2
        by_cases hxg : x = g
        · have q4 : (x == g) = true := by simp [hxg]
          have HV2 : Hid (fkS l g = (x, s) ∧ feS l g = 0) := by
            refine (?_ : fkS l g = (x, s) ∧ feS l g = 0)
            have := find_at l g k HS.out _ HK.out hxg
            rw [HV.out.1, HV.out.2, this]; exact ⟨rfl, rfl⟩
          clear hxg HV
          go_wp2_with fail
          obtain ⟨X, bX⟩ := put_two H1.out (.int .u32 x) (.string s)
          exact bodyPost_ret (results_key rfl _ _ w.heap.size (x, s) rfl X) rfl ⟨by rw [HV2.out.1, HV2.out.2]; rfl, B1.out.trans bX⟩
        · have q4 : (x == g) = false := by simp [hxg]
          have HX : Hid (x ≠ g) := hxg
          clear hxg
          go_wp2_with fail
          go_roundw
          case rel =>
            refine ⟨k + 1, by omega, by go_num, fun j m hj e => ?_, by first | rfl | trivial⟩
            rcases Nat.lt_succ_iff_lt_or_eq.1 hj with h | rfl
            · exact HS.out j m h e
            · rw [HK.out] at e; cases e; exact HX.out
          case measure => simp [natOf]; omega
      · have hke : k = l.length := by omega
        have g0 : ¬ (k : Int) < (l.length : Int) := by omega
        have HV2 : Hid (fkS l g = zk ∧ feS l g = 41) := by
          refine (?_ : fkS l g = zk ∧ feS l g = 41)
          have := find_no l g (fun i m e => HS.out i m (by have := (List.getElem?_eq_some_iff.1 e).1; omega) e)
          rw [HV.out.1, HV.out.2, this]; exact ⟨rfl, rfl⟩
        clear hke HV
        go_wp2_with fail
        obtain ⟨X, bX⟩ := put_two H1.out (.int .u32 0) (.string ⟨#[]⟩)
        exact bodyPost_ret (results_key rfl _ _ w.heap.size zk rfl X) rfl ⟨by rw [HV2.out.1, HV2.out.2]; rfl, B1.out.trans bX⟩
end Go.Proofs.YtheheaflebkipaaGreatDoor.Rk
/- Rings that are cut, and rings that grow. -/
namespace Go.Proofs.YtheheaflebkipaaGreatDoor.Rk
open Go.RowKit
/-- The cells of a list of keys. -/
def cellsOf : List Ky → List Value
  | [] => []
  | k :: t => .int .u32 k.1 :: .string k.2 :: cellsOf t
set_option maxRecDepth 100000 in
theorem cellsOf_length (l : List Ky) : (cellsOf l).length = l.length * 2 := by
  induction l with
  | nil => rfl
  | cons k t ih => simp only [cellsOf, List.length_cons, ih]; omega
set_option maxRecDepth 100000 in
theorem cellsOf_append (l m : List Ky) : cellsOf (l ++ m) = cellsOf l ++ cellsOf m := by
  induction l with
  | nil => rfl
  | cons k t ih => simp [cellsOf, ih]
set_option maxRecDepth 100000 in
theorem cellsOf_get (l : List Ky) (i : Nat) (h : i < l.length) : (cellsOf l)[i * 2]? = some (.int .u32 (kat l i).1) ∧ (cellsOf l)[i * 2 + 1]? = some (.string (kat l i).2) := by
  induction l generalizing i with
  | nil => simp at h
  | cons k t ih =>
    cases i with
    | zero => simp [cellsOf, kat]
    | succ i =>
      have := ih i (by simpa using h)
      rw [show (i + 1) * 2 = i * 2 + 2 by omega]
      simpa [cellsOf, kat] using this
set_option maxRecDepth 100000 in
theorem cellsOf_one (l : List Ky) : ∀ u ∈ cellsOf l, u.oneCell' = true := by
  induction l with
  | nil => intro u hu; simp [cellsOf] at hu
  | cons k t ih =>
    intro u hu
    simp only [cellsOf, List.mem_cons] at hu
    rcases hu with rfl | rfl | h
    · rfl
    · rfl
    · exact ih u h
set_option maxRecDepth 100000 in
/-- A ring's cells, one by one. -/
theorem Ring.cells {w : World} {o : Option Addr} {cap : Nat} {l : List Ky} (h : Ring w o cap l) (a : Addr) (ho : o = some a) : ∀ j u, (cellsOf l)[j]? = some u → w.cell? (a.add j) = some u := by
  intro j u hu
  have hj : j < l.length * 2 := by have := (List.getElem?_eq_some_iff.1 hu).1; rwa [cellsOf_length] at this
  obtain ⟨b, off, e, hlt, hc⟩ := h.2.2.2 (by intro e; rw [e] at hj; simp at hj)
  obtain rfl : a = ⟨b, off, none⟩ := by rw [ho] at e; cases e; rfl
  have h2 := hc (j / 2) (by omega)
  have g2 := cellsOf_get l (j / 2) (by omega)
  rw [Addr.add_lit]
  rcases Nat.mod_two_eq_zero_or_one j with hm | hm
  · have e : j = j / 2 * 2 := by omega
    rw [e] at hu ⊢
    rw [g2.1] at hu; cases hu
    exact h2.1
  · have e : j = j / 2 * 2 + 1 := by omega
    rw [e] at hu ⊢
    rw [g2.2] at hu; cases hu
    exact h2.2
set_option maxRecDepth 100000 in
theorem Ring.tail {w : World} {o : Option Addr} {cap : Nat} {l : List Ky} (h : Ring w o cap l) (n : Nat) (hn : n ≤ l.length) : Ring w (if cap = n then o else o.map (·.add (n * 2))) (cap - n) (l.drop n) := by
  refine ⟨by rw [List.length_drop]; have := h.1; omega, by have := h.2.1; omega, fun e => ?_, fun hl => ?_⟩
  · split at e
    · rw [h.2.2.1 e]; omega
    · cases o with
      | none => rw [h.2.2.1 rfl]; omega
      | some a => cases e
  · have hlt : n < l.length := by
      rcases Nat.lt_or_ge n l.length with h | h
      · exact h
      · exact absurd (List.drop_eq_nil_iff.2 h) hl
    obtain ⟨b, off, rfl, hb, hc⟩ := h.2.2.2 (by intro e; rw [e] at hlt; simp at hlt)
    rw [if_neg (by have := h.1; omega)]
    refine ⟨b, off + n * 2, by simp [Addr.add_lit], hb, fun i hi => ?_⟩
    rw [List.length_drop] at hi
    have := hc (n + i) (by omega)
    rw [show off + n * 2 + i * 2 = off + (n + i) * 2 by omega]
    have e : kat (l.drop n) i = kat l (n + i) := by unfold kat; rw [List.getElem?_drop]
    rw [e]; exact this
set_option maxRecDepth 100000 in
theorem run_tail (o : Option Addr) (n cap k : Nat) (w : World) (hk : k ≤ n) : (Instr.sliceAt 39 (.slice o n cap) (some (.int .i64 (k : Int))) none none).run Tryz.prog w = .ok (.slice (if cap = k then o else o.map (·.add (k * 2))) (n - k) (cap - k)) w := by
  have h1 : (k : Int) ≤ (n : Int) := by omega
  simp [Instr.sliceAt, Instr.slice, run_underlying Tryz.underlying39, go_sem]
  intro h
  omega
set_option maxRecDepth 100000 in
theorem ring_of_own {w : World} {base : Nat} {v : Value} {l : List Ky} {n : Nat} (h : w.ownsRow base 99 2 v n (cellsOf l)) : n = l.length ∧ ∃ o cap, v = .slice o l.length cap ∧ Ring w o cap l := by
  have hn : n = l.length := by have := h.1; rw [cellsOf_length] at this; omega
  subst hn
  refine ⟨rfl, ?_⟩
  rcases h.2 with ⟨rfl, hz⟩ | ⟨g, cap, cur, rfl, hb, hg, hnc, hcm, hcs, ht⟩
  · have : l = [] := List.eq_nil_of_length_eq_zero hz
    subst this
    exact ⟨none, 0, rfl, Nat.le_refl _, by decide, fun _ => rfl, fun h => absurd rfl h⟩
  · refine ⟨some ⟨g, 0, none⟩, cap, rfl, hnc, hcm, (fun e => by cases e), fun _ => ⟨g, 0, rfl, (Array.getElem?_eq_some_iff.1 hg).1, fun i hi => ?_⟩⟩
    obtain ⟨g1, g2⟩ := cellsOf_get l i hi
    rw [Nat.zero_add]
    exact ⟨own_cellK h g1, own_cellK h g2⟩
set_option maxRecDepth 100000 in
theorem nil_ring (w : World) : Ring w none 0 [] := ⟨Nat.le_refl _, by decide, fun _ => rfl, fun h => absurd rfl h⟩
set_option maxRecDepth 100000 in
/-- A key in two new cells is a ring of its own. -/
theorem one_ring {w : World} {g : Nat} {k : Ky} {t : TypeId} {fr : Nat × Nat} (h : w.heap[g]? = some (.cells #[.int .u32 k.1, .string k.2] t fr)) : Ring w (some ⟨g, 0, none⟩) 1 [k] := by
  refine ⟨Nat.le_refl _, by decide, (fun e => by cases e), fun _ => ⟨g, 0, rfl, (Array.getElem?_eq_some_iff.1 h).1, fun i hi => ?_⟩⟩
  obtain rfl : i = 0 := by simpa using hi
  exact ⟨by rw [cell_of_row _ _ _ _ _ _ h]; rfl, by rw [cell_of_row _ _ _ _ _ _ h]; rfl⟩
set_option maxRecDepth 100000 in
/-- A row of its own, and a ring behind it. -/
theorem append_own (w : World) (base n : Nat) (v : Value) (p : Option Addr) (c : Nat) (l m : List Ky) (ho : w.ownsRow base 99 2 v n (cellsOf l)) (hb : base ≤ w.heap.size) (hm : Ring w p c m) (hs : l.length + m.length ≤ 1000) :
    ∃ v' w', (Builtin.append_ #[39, 39] 39 #[v, .slice p m.length c]).run Tryz.prog w = .ok v' w' ∧ w'.ownsRow base 99 2 v' (n + m.length) (cellsOf (l ++ m)) ∧ w.grownBy w' v.ownBlock := by
  obtain ⟨i0, hi, hz0, hz1, hz2⟩ := info_parts infoKey
  have hn := (ring_of_own ho).1
  rw [cellsOf_append]
  cases p with
  | none =>
    have h0 := hm.2.2.1 rfl
    have h1 := hm.1
    have : m = [] := List.eq_nil_of_length_eq_zero (by omega)
    subst this h0
    refine ⟨v, w, ?_, by simpa [cellsOf] using ho, ⟨rfl, rfl, rfl, Nat.le_refl _, fun _ _ _ => rfl⟩⟩
    exact run_append_owned_none (P := Tryz.prog) w base 39 39 99 i0 2 Tryz.underlying39 hi v n _ ho
  | some a =>
    obtain ⟨v', w', hr, ho', hg, _, _⟩ := run_append_own_at (P := Tryz.prog) w base 39 39 99 i0 _ 2 24 Tryz.underlying39 hi hz0 hz1 hz2 rfl (by decide) v n (cellsOf l) ho a m.length c (cellsOf m) (cellsOf_length m) (hm.cells a rfl) (cellsOf_one m) (by simp only [maxLen]; omega) (by omega) hb
    exact ⟨v', w', hr, ho', hg⟩
end Go.Proofs.YtheheaflebkipaaGreatDoor.Rk
