/- The function that yields a cell's quarters. -/
import Derived.Test.YtaiiclkfnahghaaPCK
import Derived.Test.YtaiiclkfnahghaaPCJ
namespace Go.Proofs.Ytaiiclkfnahghaa.Rc
open Go.RowKit Go.Shelf Go.Lib
attribute [local go_sem] Oper.semAt_some ix0 ix1 ix2 ix3
/-- The corner of a quarter. -/
def qx (X xr : Nat) : Nat → Nat | 0 => X | 1 => xr | 2 => X | _ => xr
def qy (Y yr : Nat) : Nat → Nat | 0 => Y | 1 => Y | 2 => yr | _ => yr
/-- What a function says that yields quarters. -/
def YieldsQ (gf : Nat) (lb : Array Value) (e : Nat → Array Value) (B c : Nat) (w0 : World) : Prop :=
  ∀ (p : Nat) (W1 : World), Kq B c w0 W1 → ∀ (R : Nat → World → Prop) (Rx : World → Prop), (∀ k W W', R k W → Below W1.heap.size W W' → R k W') → (∀ W W', Rx W → Below W1.heap.size W W' → Rx W') →
    (∀ k W, k < 4 → R k W → YieldAt Fence.wide 3 Try.prog p (e k) W fun e W' => (e = .returned (.bool true) ∧ R (k + 1) W' ∧ Kq B c W W') ∨ (e = .returned (.bool false) ∧ Rx W')) → R 0 W1 →
    CallsIn Fence.wide 4 Try.prog gf (#[.func (.yield p) #[] #[]] ++ lb) W1 fun e W' => (∃ v, e = .returned v) ∧ (R 4 W' ∨ Rx W')
set_option maxRecDepth 100000 in
theorem quarters_any (X Y : Nat) (L : Int) (w : World) :
    Calls Try.prog 82 #[cv X Y L] w fun e w' => e = .returned (.func (.func 92) #[] #[.pointer (some ⟨w.heap.size, 0, none⟩)]) ∧ w' = w.alloc (.cells #[.int .u32 (X : Int), .int .u32 (Y : Int), .int .i64 L] 30) := by
  go_enter Try.func82, Try.ntmps82
  go_wp2_with fail
  go_ret
  exact ⟨rfl, rfl⟩
set_option maxRecDepth 100000 in
set_option maxHeartbeats 1000000 in
theorem quarters1_in (X Y m b1 : Nat) (L : Int) (w w0 : World) (hL : L = (m : Int) + 1) (hm : m ≤ 30) (hX : X + 2 ^ m < 4294967296) (hY : Y + 2 ^ m < 4294967296) (hw : Kq w.heap.size b1 w w0) (hb1 : b1 < w0.heap.size)
    (h1 : w0.heap[b1]? = some (.cells #[.int .u32 (X : Int), .int .u32 (Y : Int), .int .i64 L] 30 (0, 0))) :
    YieldsQ 92 #[.pointer (some ⟨b1, 0, none⟩)] (fun k => #[.int .i64 (k : Int), cv (qx X (X + 2 ^ m) k) (qy Y (Y + 2 ^ m) k) (m : Int)]) w.heap.size b1 w0 := by
  intro p W hKq R Rx hR hRx hY' h0
  have HY : Hid _ := hY'
  have HR : Hid _ := hR
  have HRx : Hid _ := hRx
  have H0 : Hid (R 0 W) := h0
  have HKq : Hid (Kq w.heap.size b1 w W) := hw.trans hKq
  have hb1W : b1 < W.heap.size := Nat.lt_of_lt_of_le hb1 hKq.1
  have HB : Hid (W.heap[b1]? = some (.cells #[.int .u32 (X : Int), .int .u32 (Y : Int), .int .i64 L] 30 (0, 0))) := hKq.2 b1 _ (.inr rfl) h1 rfl
  have HC : Hid _ := corners_any X Y (2 ^ m) L hX hY
  obtain ⟨e0, e1, e2⟩ := Cel.cells HB.out
  have l1 : L - 1 = (m : Int) := by omega
  have l2 : -9223372036854775808 ≤ L - 1 ∧ L - 1 ≤ 9223372036854775807 := by omega
  have l3 : IntKind.u32.wrap ((2 : Int) ^ m) = ((2 ^ m : Nat) : Int) := by
    have := Nat.two_pow_pos m
    have : ((2 : Int) ^ m) = ((2 ^ m : Nat) : Int) := by simp
    rw [this, IntKind.wrap_u32']; omega
  obtain ⟨s, hs⟩ : ∃ s, 2 ^ m = s := ⟨_, rfl⟩
  rw [hs] at HC HY l3 hX hY
  obtain ⟨xr, hxr⟩ : ∃ xr, X + s = xr := ⟨_, rfl⟩
  obtain ⟨yr, hyr⟩ : ∃ yr, Y + s = yr := ⟨_, rfl⟩
  rw [hxr, hyr] at HC HY
  clear hY' hR hRx h0 h1 hKq hw hL hX hY hs hxr hyr
  refine callsIn_of_wp Try.func92 rfl trivial ?_ rfl
  simp only [Try.ntmps92, List.size_toArray, List.length_cons, List.length_nil, Nat.reduceAdd, Nat.reduceSub, Array.replicate_succ, Array.replicate_zero, List.push_toArray, List.append_toArray, List.nil_append, List.cons_append]
  gi_wp2
  have HSW : Hid (CelS b1 X Y L W.drew) := Cel.cells HB.out
  clear e0 e1 e2
  refine (wpIn_wide (n := 4)).2 (wp_region_held (S := CelS b1 X Y L) (by kernel_rfl) ?_)
  change wpAnyH _ _ _ _ _ _ _ _ (World.drew _)
  refine wpAnyH_take (i := 0) (v := ?_) rfl (by kernel_rfl) (by kernel_rfl) (by kernel_rfl) (fun _ _ _ h => h) (Or.inl ⟨by kernel_rfl, ?_⟩) HSW.out ?_
  rotate_left
  · intro w hS
    obtain ⟨e1, e2, e3⟩ := hS
    go_simp
    try with_reducible rfl
  conv in (Act.put _ _ _) => simp only [List.getElem_toArray, List.getElem_cons_succ, List.getElem_cons_zero, Act.put, List.setIfInBounds_toArray, List.set_cons_succ, List.set_cons_zero]
  refine wpAnyH_take (i := 1) (v := ?_) rfl (by kernel_rfl) (by kernel_rfl) (by kernel_rfl) (fun _ _ _ h => h) (Or.inl ⟨by kernel_rfl, ?_⟩) HSW.out ?_
  rotate_left
  · intro w hS
    obtain ⟨e1, e2, e3⟩ := hS
    go_simp
    try with_reducible rfl
  conv in (Act.put _ _ _) => simp only [List.getElem_toArray, List.getElem_cons_succ, List.getElem_cons_zero, Act.put, List.setIfInBounds_toArray, List.set_cons_succ, List.set_cons_zero]
  refine wpAnyH_take (i := 2) (v := ?_) rfl (by kernel_rfl) (by kernel_rfl) (by kernel_rfl) (fun _ _ _ h => h) (Or.inl ⟨by kernel_rfl, ?_⟩) HSW.out ?_
  rotate_left
  · intro w hS
    obtain ⟨e1, e2, e3⟩ := hS
    go_simp
    try with_reducible rfl
  conv in (Act.put _ _ _) => simp only [List.getElem_toArray, List.getElem_cons_succ, List.getElem_cons_zero, Act.put, List.setIfInBounds_toArray, List.set_cons_succ, List.set_cons_zero]
  refine wpAnyH_take (i := 4) (v := ?_) rfl (by kernel_rfl) (by kernel_rfl) (by kernel_rfl) (fun _ _ _ h => h) (Or.inl ⟨by kernel_rfl, ?_⟩) HSW.out ?_
  rotate_left
  · intro w hS
    obtain ⟨e1, e2, e3⟩ := hS
    go_simp
    try with_reducible rfl
  conv in (Act.put _ _ _) => simp only [List.getElem_toArray, List.getElem_cons_succ, List.getElem_cons_zero, Act.put, List.setIfInBounds_toArray, List.set_cons_succ, List.set_cons_zero]
  refine readyH 3 _ (by kernel_rfl) rfl (by kernel_rfl) (fun K hK => ?_)
  go_simp
  refine (HC.out _).mono ?_
  rintro e w1 ⟨rfl, b1'⟩
  have HSZ : Hid (W.heap.size ≤ w1.heap.size) := b1'.size
  have HKW : Hid (Kq w.heap.size b1 W w1) := ⟨b1'.size, fun j o hj ho _ => (b1'.block j (Array.getElem?_eq_some_iff.1 ho).1).trans ho⟩
  have HR0 : Hid (R 0 w1) := HR.out 0 W w1 H0.out ((Below.refl _ W).drew.trans b1')
  refine hK _ _ (HSW.out.below b1' hb1W) ?_
  clear hK K b1' l1 l2 l3
  refine wpAnyH_done (by kernel_rfl) ?_ _
  clear HSW
  gi_wp2
  gi_loopw [13] (fun i wr => ∃ k : Nat, k ≤ 4 ∧ i = .int .i64 (k : Int) ∧ R k wr ∧ W.heap.size ≤ wr.heap.size ∧ Kq w.heap.size b1 W wr) (fun i _ => 4 - natOf i)
  case atStart => exact ⟨0, by omega, rfl, HR0.out, HSZ.out, HKW.out⟩
  case round =>
    obtain ⟨k, hk, rfl, hRk, hsz, hq⟩ := hrel
    have HRk : Hid (R k wr) := hRk
    have HS : Hid (W.heap.size ≤ wr.heap.size) := hsz
    have HQ : Hid (Kq w.heap.size b1 W wr) := hq
    clear hRk hsz hq
    obtain rfl | rfl | rfl | rfl | rfl : k = 0 ∨ k = 1 ∨ k = 2 ∨ k = 3 ∨ k = 4 := by omega
    · have hy0 := HY.out 0 (wr.alloc (.cells #[.int .u32 (X : Int), .int .u32 (Y : Int)] 118)) (by omega) (HR.out _ _ _ HRk.out ((below_new wr _).mono HS.out))
      obtain ⟨fn, tmps, assign, body, hy, hRd⟩ := hy0
      simp only [qx, qy] at hy
      rw [show ((0 : Nat) : Int) = 0 from rfl] at hy
      gi_wp2
      refine hRd.mono ?_
      rintro e W6 (⟨rfl, hR6, hk6⟩ | ⟨rfl, hx6⟩)
      · gi_wp2
        go_roundw
        case rel => exact ⟨1, by omega, by go_num, hR6, Nat.le_trans HS.out (Nat.le_trans (by simp) hk6.1), HQ.out.trans ((Kq.below (below_new wr _) (by have := HKq.out.1; have := HS.out; omega) (by have := HS.out; omega)).trans hk6)⟩
        case measure => simp [natOf]
      · gi_wp2
        refine bodyPost_ret (results_none rfl _ _ _) rfl ?_
        exact ⟨⟨_, rfl⟩, .inr hx6⟩
    · have hy0 := HY.out 1 (wr.alloc (.cells #[.int .u32 (xr : Int), .int .u32 (Y : Int)] 118)) (by omega) (HR.out _ _ _ HRk.out ((below_new wr _).mono HS.out))
      obtain ⟨fn, tmps, assign, body, hy, hRd⟩ := hy0
      simp only [qx, qy] at hy
      rw [show ((1 : Nat) : Int) = 1 from rfl] at hy
      gi_wp2
      refine hRd.mono ?_
      rintro e W6 (⟨rfl, hR6, hk6⟩ | ⟨rfl, hx6⟩)
      · gi_wp2
        go_roundw
        case rel => exact ⟨2, by omega, by go_num, hR6, Nat.le_trans HS.out (Nat.le_trans (by simp) hk6.1), HQ.out.trans ((Kq.below (below_new wr _) (by have := HKq.out.1; have := HS.out; omega) (by have := HS.out; omega)).trans hk6)⟩
        case measure => simp [natOf]
      · gi_wp2
        refine bodyPost_ret (results_none rfl _ _ _) rfl ?_
        exact ⟨⟨_, rfl⟩, .inr hx6⟩
    · have hy0 := HY.out 2 (wr.alloc (.cells #[.int .u32 (X : Int), .int .u32 (yr : Int)] 118)) (by omega) (HR.out _ _ _ HRk.out ((below_new wr _).mono HS.out))
      obtain ⟨fn, tmps, assign, body, hy, hRd⟩ := hy0
      simp only [qx, qy] at hy
      rw [show ((2 : Nat) : Int) = 2 from rfl] at hy
      gi_wp2
      refine hRd.mono ?_
      rintro e W6 (⟨rfl, hR6, hk6⟩ | ⟨rfl, hx6⟩)
      · gi_wp2
        go_roundw
        case rel => exact ⟨3, by omega, by go_num, hR6, Nat.le_trans HS.out (Nat.le_trans (by simp) hk6.1), HQ.out.trans ((Kq.below (below_new wr _) (by have := HKq.out.1; have := HS.out; omega) (by have := HS.out; omega)).trans hk6)⟩
        case measure => simp [natOf]
      · gi_wp2
        refine bodyPost_ret (results_none rfl _ _ _) rfl ?_
        exact ⟨⟨_, rfl⟩, .inr hx6⟩
    · have hy0 := HY.out 3 (wr.alloc (.cells #[.int .u32 (xr : Int), .int .u32 (yr : Int)] 118)) (by omega) (HR.out _ _ _ HRk.out ((below_new wr _).mono HS.out))
      obtain ⟨fn, tmps, assign, body, hy, hRd⟩ := hy0
      simp only [qx, qy] at hy
      rw [show ((3 : Nat) : Int) = 3 from rfl] at hy
      gi_wp2
      refine hRd.mono ?_
      rintro e W6 (⟨rfl, hR6, hk6⟩ | ⟨rfl, hx6⟩)
      · gi_wp2
        go_roundw
        case rel => exact ⟨4, by omega, by go_num, hR6, Nat.le_trans HS.out (Nat.le_trans (by simp) hk6.1), HQ.out.trans ((Kq.below (below_new wr _) (by have := HKq.out.1; have := HS.out; omega) (by have := HS.out; omega)).trans hk6)⟩
        case measure => simp [natOf]
      · gi_wp2
        refine bodyPost_ret (results_none rfl _ _ _) rfl ?_
        exact ⟨⟨_, rfl⟩, .inr hx6⟩
    · gi_wp2
      refine bodyPost_end (results_none rfl _ _ _) rfl ?_
      exact ⟨⟨_, rfl⟩, .inl HRk.out⟩
end Go.Proofs.Ytaiiclkfnahghaa.Rc
