/- keys.Right: which rings are right. -/
import Derived.Test.YtmlechalhldlhaaDoorKB
namespace Go.Proofs.YtmlechalhldlhaaDoor.Rk
open Go.RowKit Go.Shelf Go.Lib
attribute [local go_sem] Oper.semAt_some
/-- The last generation of a list, or a given one. -/
def lastG (a : Int) (l : List Ky) : Int := l.foldl (fun _ k => k.1) a
theorem rises_snoc (a : Int) (l : List Ky) (x : Ky) : rises a (l ++ [x]) = (rises a l && (decide (lastG a l < x.1) && decide (x.2.size = 32))) := by
  induction l generalizing a with
  | nil => simp [rises, lastG]; rfl
  | cons k t ih => simp [rises, ih, lastG, Bool.and_assoc]; rfl
theorem rises_take (a : Int) (l : List Ky) (j : Nat) (h : rises a (l.take j) = false) : rises a l = false := by
  induction l generalizing a j with
  | nil => simp at h; exact h
  | cons k t ih =>
    cases j with
    | zero => simp [rises] at h
    | succ j =>
      simp only [List.take_succ_cons, rises] at h ⊢
      cases h1 : decide (a < k.1) <;> cases h2 : decide (k.2.size = 32) <;> simp [h1, h2] at h ⊢
      exact ih _ j h
theorem take_kat (l : List Ky) (k : Nat) (h : k < l.length) : l.take (k + 1) = l.take k ++ [kat l k] := by
  rw [List.take_add_one, kat_some h]; rfl
theorem lastG_take (l : List Ky) (k : Nat) (h : k < l.length) : lastG 0 (l.take (k + 1)) = (kat l k).1 := by
  rw [take_kat l k h, lastG, List.foldl_append]; rfl
/-- What the walk has found, k keys on. -/
def RJ (l : List Ky) (w : World) (k : Nat) (W : World) : Prop :=
  rises 0 (l.take k) = true ∧ W.heap[w.heap.size]? = some (.cells #[.bool false] 4 (0, 0)) ∧ W.heap[w.heap.size + 1]? = some (.cells #[.int .u32 (lastG 0 (l.take k))] 22 (0, 0)) ∧ Below w.heap.size w W
def RX (l : List Ky) (w : World) (W : World) : Prop :=
  rises 0 l = false ∧ W.heap[w.heap.size]? = some (.cells #[.bool false] 4 (0, 0)) ∧ Below w.heap.size w W
theorem results_bool {fn : Func} {p : Tmp} (h : fn.results = #[.cell p 4]) (tmps : Array Value) (w : World) (g : Nat) (b : Bool) {t : TypeId} {fr : Nat × Nat}
    (hp : tmps.getD p undef = .pointer (some ⟨g, 0, none⟩)) (hg : w.heap[g]? = some (.cells #[.bool b] t fr)) : (results fn tmps).run Tryd.prog w = .ok (.bool b) w := by
  have hp' : tmps[p]?.getD undef = .pointer (some ⟨g, 0, none⟩) := by simpa using hp
  have hc : w.cell? ⟨g, 0, none⟩ = some (.bool b) := by rw [cell_of_row _ _ _ _ _ _ hg]; rfl
  simp [results, h, hp', asAddr, go_sem, hc]
theorem three_new (w : World) (a b c : Obj) : (((w.alloc a).alloc b).alloc c).heap[w.heap.size]? = some a ∧ (((w.alloc a).alloc b).alloc c).heap[w.heap.size + 1]? = some b ∧ (((w.alloc a).alloc b).alloc c).heap[w.heap.size + 2]? = some c ∧ Below w.heap.size w (((w.alloc a).alloc b).alloc c) ∧ (((w.alloc a).alloc b).alloc c).heap.size = w.heap.size + 3 := by
  obtain ⟨h1, h2, h3⟩ := two_new w a b
  refine ⟨(Below.heap_alloc _ _ _ (by simp; omega)).trans h1, (Below.heap_alloc _ _ _ (by simp)).trans h2, ?_, h3.alloc (by simp; omega) _, by simp⟩
  have := heap_alloc_new ((w.alloc a).alloc b) c
  simpa using this
set_option maxRecDepth 100000 in
set_option maxHeartbeats 2000000 in
theorem right_in (l : List Ky) (o : Option Addr) (cap : Nat) (w : World) (hr : Ring w o cap l) :
    CallsIn Fence.wide 5 Tryd.prog 10 #[.slice o l.length cap] w fun e w' => e = .returned (.bool (rightS l)) ∧ Below w.heap.size w w' := by
  refine callsIn_of_wp_marks Tryd.func10 rfl trivial ?_ rfl
  simp only [Tryd.ntmps10, List.size_toArray, List.length_cons, List.length_nil, Nat.reduceAdd, Nat.reduceSub, Array.replicate_succ, Array.replicate_zero, List.push_toArray, List.append_toArray, List.nil_append, List.cons_append]
  have n0 : (0 : Int) ≤ (l.length : Int) := by omega
  have HG : Hid (Ring w o cap l) := hr
  clear hr
  by_cases h16 : 16 < l.length
  · have q16 : (16 : Int) < (l.length : Int) := by omega
    have HE : Hid (rightS l = false) := by refine (?_ : rightS l = false); unfold rightS; rw [decide_eq_false (by omega)]; rfl
    gi_wp2
    refine ⟨_, results_bool rfl _ _ w.heap.size false rfl (heap_alloc_new w _), ?_, below_new w _⟩
    rw [HE.out]
  · have q16 : ¬ (16 : Int) < (l.length : Int) := by omega
    have HE : Hid (rightS l = rises 0 l) := by refine (?_ : rightS l = rises 0 l); unfold rightS; rw [decide_eq_true (by omega)]; rfl
    gi_wp2
    refine ⟨trivial, callsIn_wide.2 ((values_any _ _ _ _).mono ?_)⟩
    rintro e w2 ⟨rfl, rfl⟩
    have h3 := three_new w (.cells #[.bool false] 4) (.cells #[.int .u32 0] 22) (.cells #[.slice o l.length cap] 30)
    have e2 : ((w.alloc (.cells #[.bool false] 4)).alloc (.cells #[.int .u32 0] 22)).heap.size = w.heap.size + 2 := by simp
    rw [e2]
    obtain ⟨w3, hw3⟩ : ∃ w3, ((w.alloc (.cells #[.bool false] 4)).alloc (.cells #[.int .u32 0] 22)).alloc (.cells #[.slice o l.length cap] 30) = w3 := ⟨_, rfl⟩
    rw [hw3] at h3 ⊢
    clear hw3 e2
    obtain ⟨X0, X1, X2, B3, S3⟩ := h3
    have KW : Kq w.heap.size (w.heap.size + 2) w w3 := ⟨B3.size, fun j ob hj ho _ => (B3.block j (by have := (Array.getElem?_eq_some_iff.1 ho).1; omega)).trans ho⟩
    have HX0 : Hid _ := X0
    have HX1 : Hid _ := X1
    have HX2 : Hid _ := X2
    clear X0 X1 X2
    gi_wp2
    refine range_law3 rfl (by omega) (gf := 23) (lb := #[.pointer (some ⟨w.heap.size + 2, 0, none⟩)]) rfl trivial (enters_of Tryd.func23 (by kernel_rfl) rfl)
      l.length (fun k => #[kv (kat l k)]) (fun _ => rfl) (Kq w.heap.size (w.heap.size + 2)) Kq.trans (fun W l o o' h hc => Kq.put _ _ W l o o' h hc)
      (fun k W => RJ l w k W) (fun W => RX l w W) .ret (fun k W W' h hb => ?hJ) (fun W W' h hb => ?hJx) ?h0
      (fun k a' W => ∃ q, w3.heap.size + 2 ≤ q ∧ W.heap[q]? = some (.cells #[.int .u32 (kat l k).1, .string (kat l k).2] 24 (0, 0)) ∧
        a' = { tmps := #[Value.slice o l.length cap, undef, Value.pointer (some ⟨w.heap.size, 0, none⟩), Value.pointer (some ⟨w.heap.size + 1, 0, none⟩), .pointer (some ⟨q, 0, none⟩), Value.slice o l.length cap, Value.int IntKind.i64 ↑l.length, Value.bool false, Value.slice o l.length cap, .func (.func 23) #[] #[.pointer (some ⟨w.heap.size + 2, 0, none⟩)], kv (kat l k), undef, undef, undef, undef, undef, undef, undef, undef, undef, undef, undef, undef], defers := [] }) ?hA ?assign ?body ?iter ?done ?stop
    case hJ => exact ⟨h.1, (hb.block _ (by omega)).trans h.2.1, (hb.block _ (by omega)).trans h.2.2.1, h.2.2.2.trans (hb.mono (by omega))⟩
    case hJx => exact ⟨h.1, (hb.block _ (by omega)).trans h.2.1, h.2.2.trans (hb.mono (by omega))⟩
    case h0 => exact ⟨rfl, HX0.out, HX1.out, B3⟩
    case hA =>
      rintro k a' W j o' ⟨q, hq1, hq2, rfl⟩ h1 h2
      exact ⟨q, hq1, (World.putObj_heap_other (by omega)).trans hq2, rfl⟩
    case assign =>
      intro p k W K hk hJ hsz hK
      clear hJ
      generalize kat l k = gs at *
      obtain ⟨g, s⟩ := gs
      simp only [kv] at *
      gi_wp2
      exact hK _ _ (below_new W _) (Kq.below (below_new W _) (by omega) (by omega)) ⟨W.heap.size, by omega, heap_alloc_new W _, rfl⟩
    case iter =>
      intro p W1 hB1 hs1 R Rx hR hRx hY h0
      exact values1_in l o cap (w.heap.size + 2) w w3 HG.out KW (by omega) HX2.out p W1 (Kq.below hB1 (by omega) (by omega)) R Rx hR hRx hY h0
    case body =>
      rintro p k a' W hk hJ ⟨q, hq1, hq2, rfl⟩
      have HJ : Hid (RJ l w k W) := hJ
      have HQ : Hid _ := hq2
      have ht := take_kat l k hk
      have hlt := lastG_take l k hk
      have hsn : rises 0 (l.take (k + 1)) = (true && (decide (lastG 0 (l.take k) < (kat l k).1) && decide ((kat l k).2.size = 32))) := by rw [ht, rises_snoc, hJ.1]
      have c1 : W.cell? ⟨w.heap.size + 1, 0, none⟩ = some (.int .u32 (lastG 0 (l.take k))) := by rw [cell_of_row _ _ _ _ _ _ hJ.2.2.1]; rfl
      have c2 : W.cell? ⟨q, 0, none⟩ = some (.int .u32 (kat l k).1) := by rw [cell_of_row _ _ _ _ _ _ hq2]; rfl
      have c3 : W.cell? ⟨q, 1, none⟩ = some (.string (kat l k).2) := by rw [cell_of_row _ _ _ _ _ _ hq2]; rfl
      have z1 := frozen_of_row W _ 0 _ _ hJ.2.2.1
      have z0 := frozen_of_row W _ 0 _ _ hJ.2.1
      have c0 : W.cell? ⟨w.heap.size, 0, none⟩ = some (.bool false) := by rw [cell_of_row _ _ _ _ _ _ hJ.2.1]; rfl
      generalize kat l k = gs at *
      obtain ⟨g, s⟩ := gs
      obtain ⟨a, ha⟩ : ∃ a, lastG 0 (l.take k) = a := ⟨_, rfl⟩
      rw [ha] at c1 hsn
      have HA : Hid (lastG 0 (l.take k) = a) := ha
      have HL : Hid (lastG 0 (l.take (k + 1)) = g) := hlt
      have HS : Hid (rises 0 (l.take (k + 1)) = (true && (decide (a < g) && decide (s.size = 32)))) := hsn
      simp only [kv] at *
      clear hJ hq2 ht hlt hsn ha
      by_cases hg : a < g
      · by_cases hs32 : s.size = 32
        · have q1 : ¬ g ≤ a := by omega
          have q2 : (s.size : Int) = 32 := by omega
          gi_wp2
          have g6 := gb_set W (w.heap.size + 1) 0 (.int .u32 g)
          have X6 := heap_setCell_same W (w.heap.size + 1) 0 _ _ (.int .u32 g) HJ.out.2.2.1
          refine ⟨KeepsFrom.of_grownBy g6 (fun j e => by cases e; omega), Kq.set _ _ _ _ (by omega) (by omega), ?_, (Below.heap_setCell _ _ _ _ (by simp)).trans HJ.out.2.1, ?_, HJ.out.2.2.2.trans (grown_below g6 (by omega) HJ.out.2.2.2.size)⟩
          · rw [HS.out]; simp [hg, hs32]
          · rw [X6, HL.out]; rfl
        · have q1 : ¬ g ≤ a := by omega
          have q2 : ¬ (s.size : Int) = 32 := by omega
          gi_wp2
          have g6 := gb_set W w.heap.size 0 (.bool false)
          have X6 := heap_setCell_same W w.heap.size 0 _ _ (.bool false) HJ.out.2.1
          refine ⟨rfl, KeepsFrom.of_grownBy g6 (fun j e => by cases e; omega), rises_take 0 l (k + 1) ?_, ?_, HJ.out.2.2.2.trans (grown_below g6 (by omega) HJ.out.2.2.2.size)⟩
          · rw [HS.out]; simp [hs32]
          · rw [X6]; rfl
      · have q1 : g ≤ a := by omega
        gi_wp2
        have g6 := gb_set W w.heap.size 0 (.bool false)
        have X6 := heap_setCell_same W w.heap.size 0 _ _ (.bool false) HJ.out.2.1
        refine ⟨rfl, KeepsFrom.of_grownBy g6 (fun j e => by cases e; omega), rises_take 0 l (k + 1) ?_, ?_, HJ.out.2.2.2.trans (grown_below g6 (by omega) HJ.out.2.2.2.size)⟩
        · rw [HS.out, decide_eq_false (by omega : ¬ a < g)]; rfl
        · rw [X6]; rfl
    case done =>
      rintro D W hD ⟨h1, h2, h3, h4⟩ hdf
      rw [List.take_length] at h1
      have HD : Hid _ := hdf
      have H2 : Hid _ := h2
      have c0 : W.cell? ⟨w.heap.size, 0, none⟩ = some (.bool false) := by rw [cell_of_row _ _ _ _ _ _ h2]; rfl
      have z0 := frozen_of_row W _ 0 _ _ h2
      clear h2 h3 hdf
      gi_wp2
      have hd2 : (W.setCell ⟨w.heap.size, 0, none⟩ (.bool true)).heap[D]? = some (.deferred (some [])) := (Below.heap_setCell _ _ _ _ (by simp only; omega)).trans HD.out
      refine ⟨by simp, .inl ⟨_, _, rfl, run_takeDeferred hd2, ?_⟩⟩
      have X6 := heap_setCell_same W w.heap.size 0 _ _ (.bool true) H2.out
      refine ⟨_, results_bool rfl _ _ w.heap.size true rfl ((World.putObj_heap_other (by omega)).trans X6), ?_, (h4.trans (grown_below (gb_set W w.heap.size 0 (.bool true)) (by omega) h4.size)).trans (below_put _ _ (by omega))⟩
      rw [HE.out, h1]
    case stop =>
      rintro D W hD ⟨h1, h2, h4⟩ hdf
      have HD : Hid _ := hdf
      have H2 : Hid _ := h2
      clear h2 hdf
      gi_wp2
      refine ⟨by simp, .inl ⟨_, _, rfl, run_takeDeferred HD.out, ?_⟩⟩
      refine ⟨_, results_bool rfl _ _ w.heap.size false rfl ((World.putObj_heap_other (by omega)).trans H2.out), ?_, h4.trans (below_put _ _ (by omega))⟩
      rw [HE.out, h1]
theorem right_any (l : List Ky) (o : Option Addr) (cap : Nat) (w : World) (hr : Ring w o cap l) :
    Calls Tryd.prog 10 #[.slice o l.length cap] w fun e w' => e = .returned (.bool (rightS l)) ∧ Below w.heap.size w w' := callsIn_wide.1 (right_in l o cap w hr)
end Go.Proofs.YtmlechalhldlhaaDoor.Rk
