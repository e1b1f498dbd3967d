/- keys.place: how many keys are older. -/
import Derived.Test.YtmlechalhldlhaaDoorKC
namespace Go.Proofs.YtmlechalhldlhaaDoor.Rk
open Go.RowKit Go.Shelf Go.Lib
attribute [local go_sem] Oper.semAt_some
/-- The walk is k keys on: all are older. -/
def PJ (l : List Ky) (g : Int) (w : World) (k : Nat) (W : World) : Prop :=
  (∀ i m, i < k → l[i]? = some m → m.1 < g) ∧ W.heap[w.heap.size]? = some (.cells #[.int .u32 g] 22 (0, 0)) ∧ W.heap[w.heap.size + 1]? = some (.cells #[.int .i64 (k : Int)] 3 (0, 0)) ∧ Below w.heap.size w W
def PX (l : List Ky) (g : Int) (w : World) (W : World) : Prop :=
  W.heap[w.heap.size + 1]? = some (.cells #[.int .i64 (placeS l g : Int)] 3 (0, 0)) ∧ Below w.heap.size w W
set_option maxRecDepth 100000 in
set_option maxHeartbeats 2000000 in
theorem place_in (l : List Ky) (g : Int) (o : Option Addr) (cap : Nat) (w : World) (hr : Ring w o cap l) :
    CallsIn Fence.wide 5 Tryd.prog 17 #[.slice o l.length cap, .int .u32 g] w fun e w' => e = .returned (.int .i64 (placeS l g : Int)) ∧ Below w.heap.size w w' := by
  refine callsIn_of_wp_marks Tryd.func17 rfl trivial ?_ rfl
  simp only [Tryd.ntmps17, List.size_toArray, List.length_cons, List.length_nil, Nat.reduceAdd, Nat.reduceSub, Array.replicate_succ, Array.replicate_zero, List.push_toArray, List.append_toArray, List.nil_append, List.cons_append]
  have n0 : (0 : Int) ≤ (l.length : Int) := by omega
  have n1 : (l.length : Int) ≤ 9223372036854775807 := by have := hr.1; have := hr.2.1; simp only [maxLen] at this; omega
  have HG : Hid (Ring w o cap l) := hr
  clear hr
  gi_wp2
  refine (wpIn_wide (n := 5)).2 (wp_scope_straight ((wpIn_wide (n := 5)).1 ?_))
  gi_wp2
  refine wpIn_label ?_
  gi_wp2
  refine ⟨trivial, callsIn_wide.2 ((values_any _ _ _ _).mono ?_)⟩
  rintro e w2 ⟨rfl, rfl⟩
  have h3 := three_new w (.cells #[.int .u32 g] 22) (.cells #[.int .i64 0] 3) (.cells #[.slice o l.length cap] 30)
  have e2 : ((w.alloc (.cells #[.int .u32 g] 22)).alloc (.cells #[.int .i64 0] 3)).heap.size = w.heap.size + 2 := by simp
  rw [e2]
  obtain ⟨w3, hw3⟩ : ∃ w3, ((w.alloc (.cells #[.int .u32 g] 22)).alloc (.cells #[.int .i64 0] 3)).alloc (.cells #[.slice o l.length cap] 30) = w3 := ⟨_, rfl⟩
  rw [hw3] at h3 ⊢
  clear hw3 e2
  obtain ⟨X0, X1, X2, B3, S3⟩ := h3
  have KW : Kq w.heap.size (w.heap.size + 2) w w3 := ⟨B3.size, fun j ob hj ho _ => (B3.block j (by have := (Array.getElem?_eq_some_iff.1 ho).1; omega)).trans ho⟩
  have HX0 : Hid _ := X0
  have HX1 : Hid _ := X1
  have HX2 : Hid _ := X2
  clear X0 X1 X2
  gi_wp2
  refine range_law3 rfl (by omega) (gf := 23) (lb := #[.pointer (some ⟨w.heap.size + 2, 0, none⟩)]) rfl trivial (enters_of Tryd.func23 (by kernel_rfl) rfl)
      l.length (fun k => #[kv (kat l k)]) (fun _ => rfl) (Kq w.heap.size (w.heap.size + 2)) Kq.trans (fun W l o o' h hc => Kq.put _ _ W l o o' h hc)
      (fun k W => PJ l g w k W) (fun W => PX l g w W) (.exit 0) (fun k W W' h hb => ?hJ) (fun W W' h hb => ?hJx) ?h0
      (fun k a' W => ∃ q, w3.heap.size + 2 ≤ q ∧ W.heap[q]? = some (.cells #[.int .u32 (kat l k).1, .string (kat l k).2] 24 (0, 0)) ∧
        a' = { tmps := #[Value.slice o l.length cap, .int .u32 g, undef, Value.pointer (some ⟨w.heap.size, 0, none⟩), .int .i64 0, Value.pointer (some ⟨w.heap.size + 1, 0, none⟩), .pointer (some ⟨q, 0, none⟩), Value.slice o l.length cap, .func (.func 23) #[] #[.pointer (some ⟨w.heap.size + 2, 0, none⟩)], kv (kat l k), undef, undef, undef, undef, undef, undef, undef], defers := [] }) ?hA ?assign ?body ?iter ?done ?stop
  case hJ => exact ⟨h.1, (hb.block _ (by omega)).trans h.2.1, (hb.block _ (by omega)).trans h.2.2.1, h.2.2.2.trans (hb.mono (by omega))⟩
  case hJx => exact ⟨(hb.block _ (by omega)).trans h.1, h.2.trans (hb.mono (by omega))⟩
  case h0 => exact ⟨fun i m h => by omega, HX0.out, HX1.out, B3⟩
  case hA =>
    rintro k a' W j o' ⟨q, hq1, hq2, rfl⟩ h1 h2
    exact ⟨q, hq1, (World.putObj_heap_other (by omega)).trans hq2, rfl⟩
  case assign =>
    intro p k W K hk hJ hsz hK
    clear hJ
    generalize kat l k = gs at *
    obtain ⟨g, s⟩ := gs
    simp only [kv] at *
    gi_wp2
    exact hK _ _ (below_new W _) (Kq.below (below_new W _) (by omega) (by omega)) ⟨W.heap.size, by omega, heap_alloc_new W _, rfl⟩
  case iter =>
    intro p W1 hB1 hs1 R Rx hR hRx hY h0
    exact values1_in l o cap (w.heap.size + 2) w w3 HG.out KW (by omega) HX2.out p W1 (Kq.below hB1 (by omega) (by omega)) R Rx hR hRx hY h0
  case body =>
    rintro p k a' W hk hJ ⟨q, hq1, hq2, rfl⟩
    have HJ : Hid (PJ l g w k W) := hJ
    have HK : Hid _ := kat_some hk
    have c1 : W.cell? ⟨w.heap.size + 1, 0, none⟩ = some (.int .i64 (k : Int)) := by rw [cell_of_row _ _ _ _ _ _ hJ.2.2.1]; rfl
    have c2 : W.cell? ⟨q, 0, none⟩ = some (.int .u32 (kat l k).1) := by rw [cell_of_row _ _ _ _ _ _ hq2]; rfl
    have c3 : W.cell? ⟨w.heap.size, 0, none⟩ = some (.int .u32 g) := by rw [cell_of_row _ _ _ _ _ _ hJ.2.1]; rfl
    have z1 := frozen_of_row W _ 0 _ _ hJ.2.2.1
    have k0 : (0 : Int) ≤ (k : Int) := by omega
    have k1 : (k : Int) + 1 ≤ 9223372036854775807 := by omega
    generalize kat l k = gs at *
    obtain ⟨x, s⟩ := gs
    simp only [kv] at *
    clear hJ hq2
    by_cases hg : x < g
    · have q1 : ¬ g ≤ x := by omega
      gi_wp2
      have g6 := gb_set W (w.heap.size + 1) 0 (.int .i64 ((k : Int) + 1))
      have X6 := heap_setCell_same W (w.heap.size + 1) 0 _ _ (.int .i64 ((k : Int) + 1)) HJ.out.2.2.1
      refine ⟨KeepsFrom.of_grownBy g6 (fun j e => by cases e; omega), Kq.set _ _ _ _ (by omega) (by omega), ?_, (Below.heap_setCell _ _ _ _ (by simp)).trans HJ.out.2.1, ?_, HJ.out.2.2.2.trans (grown_below g6 (by omega) HJ.out.2.2.2.size)⟩
      · intro i m hi e
        rcases Nat.lt_succ_iff_lt_or_eq.1 hi with h | rfl
        · exact HJ.out.1 i m h e
        · rw [HK.out] at e; cases e; exact hg
      · rw [X6]; simp
    · have q1 : g ≤ x := by omega
      gi_wp2
      have HP : placeS l g = k := placeS_is l g k (by omega) HJ.out.1 (fun m e => by rw [HK.out] at e; cases e; exact q1)
      refine ⟨rfl, KeepsFrom.refl _ _, ?_, HJ.out.2.2.2⟩
      rw [HP]; exact HJ.out.2.2.1
  case done =>
    rintro D W hD ⟨h1, h2, h3, h4⟩ hdf
    have HP : Hid (placeS l g = l.length) := placeS_is l g l.length (Nat.le_refl _) h1 (fun k e => by simp at e)
    have HD : Hid _ := hdf
    have c0 : W.cell? ⟨w.heap.size + 1, 0, none⟩ = some (.int .i64 (l.length : Int)) := by rw [cell_of_row _ _ _ _ _ _ h3]; rfl
    clear h2 h3 hdf
    gi_wp2
    rw [Exit.noGoto_ret]
    refine ⟨by simp, .inl ⟨_, _, rfl, run_takeDeferred HD.out, ?_⟩⟩
    refine ⟨_, results_tmp rfl _ _ _, ?_, h4.trans (below_put W _ (by omega))⟩
    rw [HP.out]; rfl
  case stop =>
    rintro D W hD ⟨h2, h4⟩ hdf
    have c0 : W.cell? ⟨w.heap.size + 1, 0, none⟩ = some (.int .i64 (placeS l g : Int)) := by rw [cell_of_row _ _ _ _ _ _ h2]; rfl
    have HD : Hid _ := hdf
    clear h2 hdf
    gi_wp2
    rw [Exit.noGoto_ret]
    refine ⟨by simp, .inl ⟨_, _, rfl, run_takeDeferred HD.out, ?_⟩⟩
    refine ⟨_, results_tmp rfl _ _ _, rfl, h4.trans (below_put W _ (by omega))⟩
theorem place_any (l : List Ky) (g : Int) (o : Option Addr) (cap : Nat) (w : World) (hr : Ring w o cap l) :
    Calls Tryd.prog 17 #[.slice o l.length cap, .int .u32 g] w fun e w' => e = .returned (.int .i64 (placeS l g : Int)) ∧ Below w.heap.size w w' := callsIn_wide.1 (place_in l g o cap w hr)
end Go.Proofs.YtmlechalhldlhaaDoor.Rk
