/- Which rows are right. -/
import Derived.Test.YthneciodobeehaaPGB
namespace Go.Proofs.Ythneciodobeehaa.Rq
open Go.RowKit Go.Lib Go.Shelf
open Go.Proofs.Ythneciodobeehaa.Rc
set_option maxRecDepth 100000 in
set_option maxHeartbeats 1000000 in
theorem qonPlane_any (x y : Nat) (w : World) :
    Calls Try.prog 31 #[.int .u32 (x : Int), .int .u32 (y : Int)] w fun e w' => e = .returned (.bool (onS x y)) ∧ w' = w := by
  by_cases h1 : x < 2147483648
  · by_cases h2 : y < 2147483648
    · rw [onS_true h1 h2]
      have q1 : (x : Int) < 2147483648 := by omega
      have q2 : (y : Int) < 2147483648 := by omega
      clear h1 h2
      go_enter Try.func31, Try.ntmps31
      go_wp2_with fail
      go_ret
      exact ⟨rfl, rfl⟩
    · rw [onS_false (fun h => h2 h.2)]
      have q1 : (x : Int) < 2147483648 := by omega
      have q2 : ¬ (y : Int) < 2147483648 := by omega
      clear h1 h2
      go_enter Try.func31, Try.ntmps31
      go_wp2_with fail
      go_ret
      exact ⟨rfl, rfl⟩
  · rw [onS_false (fun h => h1 h.1)]
    have q1 : ¬ (x : Int) < 2147483648 := by omega
    clear h1
    go_enter Try.func31, Try.ntmps31
    go_wp2_with fail
    go_ret
    exact ⟨rfl, rfl⟩
set_option maxRecDepth 100000 in
theorem rr_is (r : Rw) : rightRow r = (onS r.x r.y && decide (r.v.size ≤ 16)) := by
  unfold rightRow onS
  by_cases h1 : r.x < 2147483648
  · by_cases h2 : r.y < 2147483648
    · simp [h1, h2]
    · simp [h1, h2]
  · simp [h1]
set_option maxRecDepth 100000 in
set_option maxHeartbeats 1000000 in
theorem rightRow_any (r : Rw) (w : World) :
    Calls Try.prog 21 #[rv r] w fun e w' => e = .returned (.bool (rightRow r)) ∧ Below w.heap.size w w' := by
  rw [rr_is]
  obtain ⟨id, x, y, v⟩ := r
  simp only
  have HC : Hid _ := qonPlane_any x y
  have HB : Hid (Below w.heap.size w (w.alloc (.cells #[.int .u64 (id : Int), .int .u32 (x : Int), .int .u32 (y : Int), .string v] 27))) := below_new w _
  cases ho : onS x y
  · rw [ho] at HC
    go_enter Try.func21, Try.ntmps21
    go_wp2_with fail
    refine (HC.out _).mono ?_
    rintro e w1 ⟨rfl, h⟩
    have h' := h.symm; clear h; subst h'
    go_wp2_with fail
    go_ret
    exact ⟨rfl, HB.out⟩
  · rw [ho] at HC
    by_cases hv : v.size ≤ 16
    · rw [decide_eq_true hv]
      have q1 : decide ((v.size : Int) ≤ 16) = true := decide_eq_true (by omega)
      clear hv
      go_enter Try.func21, Try.ntmps21
      go_wp2_with fail
      refine (HC.out _).mono ?_
      rintro e w1 ⟨rfl, h⟩
      have h' := h.symm; clear h; subst h'
      go_wp2_with fail
      go_ret
      exact ⟨rfl, HB.out⟩
    · rw [decide_eq_false hv]
      have q1 : decide ((v.size : Int) ≤ 16) = false := decide_eq_false (by omega)
      clear hv
      go_enter Try.func21, Try.ntmps21
      go_wp2_with fail
      refine (HC.out _).mono ?_
      rintro e w1 ⟨rfl, h⟩
      have h' := h.symm; clear h; subst h'
      go_wp2_with fail
      go_ret
      exact ⟨rfl, HB.out⟩
set_option maxRecDepth 100000 in
theorem wrap_i64 {m : Int} (h0 : -9223372036854775808 ≤ m) (h1 : m ≤ 9223372036854775807) : IntKind.i64.wrap m = m := IntWalk.i64_in _ ⟨h0, h1⟩
/-- Four cells of a block of its own hold a row. -/
def F4 (g : Nat) (r : Rw) (w : World) : Prop := w.cell? ⟨g, 0, none⟩ = some (.int .u64 (r.id : Int)) ∧ w.cell? ⟨g, 1, none⟩ = some (.int .u32 (r.x : Int)) ∧ w.cell? ⟨g, 2, none⟩ = some (.int .u32 (r.y : Int)) ∧ w.cell? ⟨g, 3, none⟩ = some (.string r.v)
set_option maxRecDepth 100000 in
theorem F4.of {g : Nat} {r : Rw} {w : World} {t : TypeId} {fr : Nat × Nat} (h : w.heap[g]? = some (.cells #[.int .u64 (r.id : Int), .int .u32 (r.x : Int), .int .u32 (r.y : Int), .string r.v] t fr)) : F4 g r w :=
  ⟨by rw [cell_of_row _ _ _ _ _ _ h]; rfl, by rw [cell_of_row _ _ _ _ _ _ h]; rfl, by rw [cell_of_row _ _ _ _ _ _ h]; rfl, by rw [cell_of_row _ _ _ _ _ _ h]; rfl⟩
set_option maxRecDepth 100000 in
theorem F4.same {g : Nat} {r : Rw} {w w' : World} (h : F4 g r w) (e : w'.heap[g]? = w.heap[g]?) : F4 g r w' :=
  ⟨(World.cell?_of_block (a := ⟨g, 0, none⟩) e).trans h.1, (World.cell?_of_block (a := ⟨g, 1, none⟩) e).trans h.2.1, (World.cell?_of_block (a := ⟨g, 2, none⟩) e).trans h.2.2.1, (World.cell?_of_block (a := ⟨g, 3, none⟩) e).trans h.2.2.2⟩
def F4p (g : Nat) (r : Rw) (b x : Nat) (p : Nat) (w : World) : Prop := F4 g r w ∧ w.cell? ⟨b, x, none⟩ = some (.int .u64 (p : Int))
set_option maxRecDepth 100000 in
set_option maxHeartbeats 4000000 in
theorem qright_any (l : List Rw) (o : Option Addr) (cap : Nat) (w : World) (hr : RowsAt w o cap l) :
    Calls Try.prog 20 #[.slice o l.length cap] w fun e w' => e = .returned (.bool (rightL l)) ∧ Below w.heap.size w w' := by
  by_cases h : 1000 < l.length
  · have q0 : (1000 : Int) < (l.length : Int) := by omega
    go_enter Try.func20, Try.ntmps20
    go_wp2_with fail
    go_ret
    refine ⟨?_, Below.refl _ _⟩
    rw [show rightL l = false by unfold rightL; rw [decide_eq_false]; omega]
    rfl
  · have q0 : ¬ (1000 : Int) < (l.length : Int) := by omega
    go_enter Try.func20, Try.ntmps20
    go_wp2_with fail
    go_loopw [10] (fun i wr => ∃ k : Nat, k ≤ l.length ∧ i = .int .i64 (k : Int) ∧ (∀ j, j < k → rightAt l j = true) ∧ Below w.heap.size w wr) (fun i _ => l.length - natOf i)
    case atStart => exact ⟨0, by omega, rfl, fun j hj => absurd hj (by omega), Below.refl _ _⟩
    case round =>
      obtain ⟨k, hk, rfl, hj, hb⟩ := hrel
      by_cases hlt : k < l.length
      · obtain ⟨b, off, rfl, hbl, hc⟩ := (hr.below hb (Nat.le_refl _)).row hlt
        obtain ⟨c0, c1, c2, c3⟩ := hc k hlt
        have q1 : (k : Int) < (l.length : Int) := by omega
        have k0 : (0 : Int) ≤ (k : Int) := by omega
        have k1 : (k : Int) + 1 ≤ 9223372036854775807 := by omega
        have HC : Hid _ := rightRow_any (rat l k)
        have HFr : Hid _ := hc
        have HJ : Hid _ := hj
        clear hc hj
        generalize hr0 : rat l k = r at *
        obtain ⟨id, x, y, v⟩ := r
        simp only at c0 c1 c2 c3
        have HB : Hid (Below w.heap.size w wr) := hb
        clear hb
        have HBn : Hid (Below wr.heap.size wr (wr.alloc (.cells #[.int .u64 (id : Int), .int .u32 (x : Int), .int .u32 (y : Int), .string v] 27)).drew) := (below_new wr _).drew
        have HSW : Hid (F4 wr.heap.size ⟨id, x, y, v⟩ (wr.alloc (.cells #[.int .u64 (id : Int), .int .u32 (x : Int), .int .u32 (y : Int), .string v] 27)).drew) := F4.of (heap_alloc_new wr _)
        have hlt2 : wr.heap.size < (wr.alloc (.cells #[.int .u64 (id : Int), .int .u32 (x : Int), .int .u32 (y : Int), .string v] 27)).drew.heap.size := by simp
        have hws := HB.out.size
        have HR : Hid (rat l k = ⟨id, x, y, v⟩) := hr0
        clear hr0
        cases hrr : rightRow ⟨id, x, y, v⟩
        · rw [hrr] at HC
          have HE : Hid (rightL l = false) := by
            refine (?_ : rightL l = false)
            cases e : rightL l
            · rfl
            · have := ((rightAt_iff l k).1 (((rightL_iff l).1 e).2 k hlt)).1
              rw [HR.out, hrr] at this; cases this
          go_wp2_with fail
          refine wp_region_held (S := F4 wr.heap.size ⟨id, x, y, v⟩) (by kernel_rfl) ?_
          change wpAnyH _ _ _ _ _ _ _ _ (World.drew _)
          refine wpAnyH_take (i := 0) (v := ?_) rfl (by kernel_rfl) (by kernel_rfl) (by kernel_rfl) (fun _ _ _ h => h) (Or.inl ⟨by kernel_rfl, ?_⟩) HSW.out ?_
          rotate_left
          · intro w hS
            obtain ⟨e1, e2, e3, e4⟩ := hS
            go_simp
            try with_reducible rfl
          conv in (Act.put _ _ _) => simp only [List.getElem_toArray, List.getElem_cons_succ, List.getElem_cons_zero, Act.put, List.setIfInBounds_toArray, List.set_cons_succ, List.set_cons_zero]
          refine readyH 1 _ (by kernel_rfl) rfl (by kernel_rfl) (fun K hK => ?_)
          go_simp
          refine (HC.out _).mono ?_
          rintro e w1 ⟨rfl, b1⟩
          have HB1 : Hid (Below w.heap.size w w1) := HB.out.trans ((HBn.out.mono hws).trans (b1.mono (by omega)))
          replace HSW : Hid (F4 wr.heap.size ⟨id, x, y, v⟩ w1) := HSW.out.same (b1.block _ hlt2)
          refine hK _ _ HSW.out ?_
          clear hK K b1
          refine wpAnyH_take (i := 2) (v := ?_) rfl (by kernel_rfl) (by kernel_rfl) (by kernel_rfl) (fun _ _ _ h => h) (Or.inl ⟨by kernel_rfl, ?_⟩) HSW.out ?_
          rotate_left
          · intro w hS
            obtain ⟨e1, e2, e3, e4⟩ := hS
            go_simp
            try with_reducible rfl
          conv in (Act.put _ _ _) => simp only [List.getElem_toArray, List.getElem_cons_succ, List.getElem_cons_zero, Act.put, List.setIfInBounds_toArray, List.set_cons_succ, List.set_cons_zero]
          refine wpAnyH_take (i := 3) (v := ?_) rfl (by kernel_rfl) (by kernel_rfl) (by kernel_rfl) (fun _ _ _ h => h) (Or.inl ⟨by kernel_rfl, ?_⟩) HSW.out ?_
          rotate_left
          · intro w hS
            obtain ⟨e1, e2, e3, e4⟩ := hS
            go_simp
            try with_reducible rfl
          conv in (Act.put _ _ _) => simp only [List.getElem_toArray, List.getElem_cons_succ, List.getElem_cons_zero, Act.put, List.setIfInBounds_toArray, List.set_cons_succ, List.set_cons_zero]
          refine wpAnyH_take (i := 4) (v := undef) rfl (by kernel_rfl) (by kernel_rfl) (by kernel_rfl) (fun _ _ _ h => h) (Or.inr ⟨by kernel_rfl, rfl⟩) HSW.out ?_
          conv in (Act.put _ _ _) => simp only [List.getElem_toArray, List.getElem_cons_succ, List.getElem_cons_zero, Act.put, List.setIfInBounds_toArray, List.set_cons_succ, List.set_cons_zero]
          refine wpAnyH_take (i := 5) (v := undef) rfl (by kernel_rfl) (by kernel_rfl) (by kernel_rfl) (fun _ _ _ h => h) (Or.inr ⟨by kernel_rfl, rfl⟩) HSW.out ?_
          conv in (Act.put _ _ _) => simp only [List.getElem_toArray, List.getElem_cons_succ, List.getElem_cons_zero, Act.put, List.setIfInBounds_toArray, List.set_cons_succ, List.set_cons_zero]
          refine wpAnyH_take (i := 6) (v := undef) rfl (by kernel_rfl) (by kernel_rfl) (by kernel_rfl) (fun _ _ _ h => h) (Or.inr ⟨by kernel_rfl, rfl⟩) HSW.out ?_
          conv in (Act.put _ _ _) => simp only [List.getElem_toArray, List.getElem_cons_succ, List.getElem_cons_zero, Act.put, List.setIfInBounds_toArray, List.set_cons_succ, List.set_cons_zero]
          refine wpAnyH_take (i := 7) (v := undef) rfl (by kernel_rfl) (by kernel_rfl) (by kernel_rfl) (fun _ _ _ h => h) (Or.inr ⟨by kernel_rfl, rfl⟩) HSW.out ?_
          conv in (Act.put _ _ _) => simp only [List.getElem_toArray, List.getElem_cons_succ, List.getElem_cons_zero, Act.put, List.setIfInBounds_toArray, List.set_cons_succ, List.set_cons_zero]
          refine wpAnyH_take (i := 8) (v := undef) rfl (by kernel_rfl) (by kernel_rfl) (by kernel_rfl) (fun _ _ _ h => h) (Or.inr ⟨by kernel_rfl, rfl⟩) HSW.out ?_
          conv in (Act.put _ _ _) => simp only [List.getElem_toArray, List.getElem_cons_succ, List.getElem_cons_zero, Act.put, List.setIfInBounds_toArray, List.set_cons_succ, List.set_cons_zero]
          refine wpAnyH_take (i := 9) (v := undef) rfl (by kernel_rfl) (by kernel_rfl) (by kernel_rfl) (fun _ _ _ h => h) (Or.inr ⟨by kernel_rfl, rfl⟩) HSW.out ?_
          conv in (Act.put _ _ _) => simp only [List.getElem_toArray, List.getElem_cons_succ, List.getElem_cons_zero, Act.put, List.setIfInBounds_toArray, List.set_cons_succ, List.set_cons_zero]
          refine wpAnyH_take (i := 10) (v := undef) rfl (by kernel_rfl) (by kernel_rfl) (by kernel_rfl) (fun _ _ _ h => h) (Or.inr ⟨by kernel_rfl, rfl⟩) HSW.out ?_
          conv in (Act.put _ _ _) => simp only [List.getElem_toArray, List.getElem_cons_succ, List.getElem_cons_zero, Act.put, List.setIfInBounds_toArray, List.set_cons_succ, List.set_cons_zero]
          refine wpAnyH_take (i := 11) (v := undef) rfl (by kernel_rfl) (by kernel_rfl) (by kernel_rfl) (fun _ _ _ h => h) (Or.inr ⟨by kernel_rfl, rfl⟩) HSW.out ?_
          conv in (Act.put _ _ _) => simp only [List.getElem_toArray, List.getElem_cons_succ, List.getElem_cons_zero, Act.put, List.setIfInBounds_toArray, List.set_cons_succ, List.set_cons_zero]
          refine wpAnyH_take (i := 12) (v := undef) rfl (by kernel_rfl) (by kernel_rfl) (by kernel_rfl) (fun _ _ _ h => h) (Or.inr ⟨by kernel_rfl, rfl⟩) HSW.out ?_
          conv in (Act.put _ _ _) => simp only [List.getElem_toArray, List.getElem_cons_succ, List.getElem_cons_zero, Act.put, List.setIfInBounds_toArray, List.set_cons_succ, List.set_cons_zero]
          refine wpAnyH_take (i := 13) (v := undef) rfl (by kernel_rfl) (by kernel_rfl) (by kernel_rfl) (fun _ _ _ h => h) (Or.inr ⟨by kernel_rfl, rfl⟩) HSW.out ?_
          conv in (Act.put _ _ _) => simp only [List.getElem_toArray, List.getElem_cons_succ, List.getElem_cons_zero, Act.put, List.setIfInBounds_toArray, List.set_cons_succ, List.set_cons_zero]
          refine wpAnyH_take (i := 14) (v := undef) rfl (by kernel_rfl) (by kernel_rfl) (by kernel_rfl) (fun _ _ _ h => h) (Or.inr ⟨by kernel_rfl, rfl⟩) HSW.out ?_
          conv in (Act.put _ _ _) => simp only [List.getElem_toArray, List.getElem_cons_succ, List.getElem_cons_zero, Act.put, List.setIfInBounds_toArray, List.set_cons_succ, List.set_cons_zero]
          refine wpAnyH_take (i := 15) (v := undef) rfl (by kernel_rfl) (by kernel_rfl) (by kernel_rfl) (fun _ _ _ h => h) (Or.inr ⟨by kernel_rfl, rfl⟩) HSW.out ?_
          conv in (Act.put _ _ _) => simp only [List.getElem_toArray, List.getElem_cons_succ, List.getElem_cons_zero, Act.put, List.setIfInBounds_toArray, List.set_cons_succ, List.set_cons_zero]
          refine wpAnyH_take (i := 16) (v := undef) rfl (by kernel_rfl) (by kernel_rfl) (by kernel_rfl) (fun _ _ _ h => h) (Or.inr ⟨by kernel_rfl, rfl⟩) HSW.out ?_
          conv in (Act.put _ _ _) => simp only [List.getElem_toArray, List.getElem_cons_succ, List.getElem_cons_zero, Act.put, List.setIfInBounds_toArray, List.set_cons_succ, List.set_cons_zero]
          refine wpAnyH_take (i := 17) (v := ?_) rfl (by kernel_rfl) (by kernel_rfl) (by kernel_rfl) (fun _ _ _ h => h) (Or.inl ⟨by kernel_rfl, ?_⟩) HSW.out ?_
          rotate_left
          · intro w hS
            obtain ⟨e1, e2, e3, e4⟩ := hS
            go_simp
            try with_reducible rfl
          conv in (Act.put _ _ _) => simp only [List.getElem_toArray, List.getElem_cons_succ, List.getElem_cons_zero, Act.put, List.setIfInBounds_toArray, List.set_cons_succ, List.set_cons_zero]
          refine wpAnyH_done (by kernel_rfl) ?_ _
          go_wp2_with fail
          go_ret
          exact ⟨by rw [HE.out]; rfl, HB1.out⟩
        · rw [hrr] at HC
          by_cases hk0 : k = 0
          · have HJ1 : Hid (∀ j, j < k + 1 → rightAt l j = true) := by
              refine fun j hj => ?_
              obtain rfl : j = k := by omega
              rw [rightAt_iff, HR.out]
              exact ⟨hrr, fun h => absurd h (by omega)⟩
            have q2 : decide (0 < k) = false := decide_eq_false (by omega)
            have HK0 : Hid (k = 0) := hk0
            clear hk0
            go_wp2_with fail
            refine wp_region_held (S := F4 wr.heap.size ⟨id, x, y, v⟩) (by kernel_rfl) ?_
            change wpAnyH _ _ _ _ _ _ _ _ (World.drew _)
            refine wpAnyH_take (i := 0) (v := ?_) rfl (by kernel_rfl) (by kernel_rfl) (by kernel_rfl) (fun _ _ _ h => h) (Or.inl ⟨by kernel_rfl, ?_⟩) HSW.out ?_
            rotate_left
            · intro w hS
              obtain ⟨e1, e2, e3, e4⟩ := hS
              go_simp
              try with_reducible rfl
            conv in (Act.put _ _ _) => simp only [List.getElem_toArray, List.getElem_cons_succ, List.getElem_cons_zero, Act.put, List.setIfInBounds_toArray, List.set_cons_succ, List.set_cons_zero]
            refine readyH 1 _ (by kernel_rfl) rfl (by kernel_rfl) (fun K hK => ?_)
            go_simp
            refine (HC.out _).mono ?_
            rintro e w1 ⟨rfl, b1⟩
            have HB1 : Hid (Below w.heap.size w w1) := HB.out.trans ((HBn.out.mono hws).trans (b1.mono (by omega)))
            replace HSW : Hid (F4 wr.heap.size ⟨id, x, y, v⟩ w1) := HSW.out.same (b1.block _ hlt2)
            refine hK _ _ HSW.out ?_
            clear hK K b1
            refine wpAnyH_take (i := 2) (v := ?_) rfl (by kernel_rfl) (by kernel_rfl) (by kernel_rfl) (fun _ _ _ h => h) (Or.inl ⟨by kernel_rfl, ?_⟩) HSW.out ?_
            rotate_left
            · intro w hS
              obtain ⟨e1, e2, e3, e4⟩ := hS
              go_simp
              try with_reducible rfl
            conv in (Act.put _ _ _) => simp only [List.getElem_toArray, List.getElem_cons_succ, List.getElem_cons_zero, Act.put, List.setIfInBounds_toArray, List.set_cons_succ, List.set_cons_zero]
            refine wpAnyH_take (i := 3) (v := ?_) rfl (by kernel_rfl) (by kernel_rfl) (by kernel_rfl) (fun _ _ _ h => h) (Or.inl ⟨by kernel_rfl, ?_⟩) HSW.out ?_
            rotate_left
            · intro w hS
              obtain ⟨e1, e2, e3, e4⟩ := hS
              go_simp
              try with_reducible rfl
            conv in (Act.put _ _ _) => simp only [List.getElem_toArray, List.getElem_cons_succ, List.getElem_cons_zero, Act.put, List.setIfInBounds_toArray, List.set_cons_succ, List.set_cons_zero]
            refine wpAnyH_take (i := 4) (v := ?_) rfl (by kernel_rfl) (by kernel_rfl) (by kernel_rfl) (fun _ _ _ h => h) (Or.inl ⟨by kernel_rfl, ?_⟩) HSW.out ?_
            rotate_left
            · intro w hS
              obtain ⟨e1, e2, e3, e4⟩ := hS
              go_simp
              try with_reducible rfl
            conv in (Act.put _ _ _) => simp only [List.getElem_toArray, List.getElem_cons_succ, List.getElem_cons_zero, Act.put, List.setIfInBounds_toArray, List.set_cons_succ, List.set_cons_zero]
            refine wpAnyH_take (i := 5) (v := ?_) rfl (by kernel_rfl) (by kernel_rfl) (by kernel_rfl) (fun _ _ _ h => h) (Or.inl ⟨by kernel_rfl, ?_⟩) HSW.out ?_
            rotate_left
            · intro w hS
              obtain ⟨e1, e2, e3, e4⟩ := hS
              go_simp
              try with_reducible rfl
            conv in (Act.put _ _ _) => simp only [List.getElem_toArray, List.getElem_cons_succ, List.getElem_cons_zero, Act.put, List.setIfInBounds_toArray, List.set_cons_succ, List.set_cons_zero]
            refine wpAnyH_take (i := 6) (v := ?_) rfl (by kernel_rfl) (by kernel_rfl) (by kernel_rfl) (fun _ _ _ h => h) (Or.inl ⟨by kernel_rfl, ?_⟩) HSW.out ?_
            rotate_left
            · intro w hS
              obtain ⟨e1, e2, e3, e4⟩ := hS
              go_simp
              try with_reducible rfl
            conv in (Act.put _ _ _) => simp only [List.getElem_toArray, List.getElem_cons_succ, List.getElem_cons_zero, Act.put, List.setIfInBounds_toArray, List.set_cons_succ, List.set_cons_zero]
            refine wpAnyH_take (i := 7) (v := undef) rfl (by kernel_rfl) (by kernel_rfl) (by kernel_rfl) (fun _ _ _ h => h) (Or.inr ⟨by kernel_rfl, rfl⟩) HSW.out ?_
            conv in (Act.put _ _ _) => simp only [List.getElem_toArray, List.getElem_cons_succ, List.getElem_cons_zero, Act.put, List.setIfInBounds_toArray, List.set_cons_succ, List.set_cons_zero]
            refine wpAnyH_take (i := 8) (v := undef) rfl (by kernel_rfl) (by kernel_rfl) (by kernel_rfl) (fun _ _ _ h => h) (Or.inr ⟨by kernel_rfl, rfl⟩) HSW.out ?_
            conv in (Act.put _ _ _) => simp only [List.getElem_toArray, List.getElem_cons_succ, List.getElem_cons_zero, Act.put, List.setIfInBounds_toArray, List.set_cons_succ, List.set_cons_zero]
            refine wpAnyH_take (i := 9) (v := undef) rfl (by kernel_rfl) (by kernel_rfl) (by kernel_rfl) (fun _ _ _ h => h) (Or.inr ⟨by kernel_rfl, rfl⟩) HSW.out ?_
            conv in (Act.put _ _ _) => simp only [List.getElem_toArray, List.getElem_cons_succ, List.getElem_cons_zero, Act.put, List.setIfInBounds_toArray, List.set_cons_succ, List.set_cons_zero]
            refine wpAnyH_take (i := 10) (v := undef) rfl (by kernel_rfl) (by kernel_rfl) (by kernel_rfl) (fun _ _ _ h => h) (Or.inr ⟨by kernel_rfl, rfl⟩) HSW.out ?_
            conv in (Act.put _ _ _) => simp only [List.getElem_toArray, List.getElem_cons_succ, List.getElem_cons_zero, Act.put, List.setIfInBounds_toArray, List.set_cons_succ, List.set_cons_zero]
            refine wpAnyH_take (i := 11) (v := undef) rfl (by kernel_rfl) (by kernel_rfl) (by kernel_rfl) (fun _ _ _ h => h) (Or.inr ⟨by kernel_rfl, rfl⟩) HSW.out ?_
            conv in (Act.put _ _ _) => simp only [List.getElem_toArray, List.getElem_cons_succ, List.getElem_cons_zero, Act.put, List.setIfInBounds_toArray, List.set_cons_succ, List.set_cons_zero]
            refine wpAnyH_take (i := 12) (v := undef) rfl (by kernel_rfl) (by kernel_rfl) (by kernel_rfl) (fun _ _ _ h => h) (Or.inr ⟨by kernel_rfl, rfl⟩) HSW.out ?_
            conv in (Act.put _ _ _) => simp only [List.getElem_toArray, List.getElem_cons_succ, List.getElem_cons_zero, Act.put, List.setIfInBounds_toArray, List.set_cons_succ, List.set_cons_zero]
            refine wpAnyH_take (i := 13) (v := undef) rfl (by kernel_rfl) (by kernel_rfl) (by kernel_rfl) (fun _ _ _ h => h) (Or.inr ⟨by kernel_rfl, rfl⟩) HSW.out ?_
            conv in (Act.put _ _ _) => simp only [List.getElem_toArray, List.getElem_cons_succ, List.getElem_cons_zero, Act.put, List.setIfInBounds_toArray, List.set_cons_succ, List.set_cons_zero]
            refine wpAnyH_take (i := 14) (v := undef) rfl (by kernel_rfl) (by kernel_rfl) (by kernel_rfl) (fun _ _ _ h => h) (Or.inr ⟨by kernel_rfl, rfl⟩) HSW.out ?_
            conv in (Act.put _ _ _) => simp only [List.getElem_toArray, List.getElem_cons_succ, List.getElem_cons_zero, Act.put, List.setIfInBounds_toArray, List.set_cons_succ, List.set_cons_zero]
            refine wpAnyH_take (i := 15) (v := undef) rfl (by kernel_rfl) (by kernel_rfl) (by kernel_rfl) (fun _ _ _ h => h) (Or.inr ⟨by kernel_rfl, rfl⟩) HSW.out ?_
            conv in (Act.put _ _ _) => simp only [List.getElem_toArray, List.getElem_cons_succ, List.getElem_cons_zero, Act.put, List.setIfInBounds_toArray, List.set_cons_succ, List.set_cons_zero]
            refine wpAnyH_take (i := 16) (v := ?_) rfl (by kernel_rfl) (by kernel_rfl) (by kernel_rfl) (fun _ _ _ h => h) (Or.inl ⟨by kernel_rfl, ?_⟩) HSW.out ?_
            rotate_left
            · intro w hS
              obtain ⟨e1, e2, e3, e4⟩ := hS
              go_simp
              try with_reducible rfl
            conv in (Act.put _ _ _) => simp only [List.getElem_toArray, List.getElem_cons_succ, List.getElem_cons_zero, Act.put, List.setIfInBounds_toArray, List.set_cons_succ, List.set_cons_zero]
            refine wpAnyH_take (i := 17) (v := ?_) rfl (by kernel_rfl) (by kernel_rfl) (by kernel_rfl) (fun _ _ _ h => h) (Or.inl ⟨by kernel_rfl, ?_⟩) HSW.out ?_
            rotate_left
            · intro w hS
              obtain ⟨e1, e2, e3, e4⟩ := hS
              go_simp
              try with_reducible rfl
            conv in (Act.put _ _ _) => simp only [List.getElem_toArray, List.getElem_cons_succ, List.getElem_cons_zero, Act.put, List.setIfInBounds_toArray, List.set_cons_succ, List.set_cons_zero]
            refine wpAnyH_done (by kernel_rfl) ?_ _
            go_wp2_with fail
            go_roundw
            case rel => exact ⟨k + 1, by omega, by go_num, HJ1.out, HB1.out⟩
            case measure => simp [natOf]; omega
          · obtain ⟨m, hm⟩ : ∃ m, k = m + 1 := ⟨k - 1, by omega⟩
            have HP := HFr.out m (by omega)
            obtain ⟨c4, _, _, _⟩ := HP
            have HAt := rightAt_iff l k
            rw [HR.out, show k - 1 = m by omega] at HAt
            generalize (rat l m).id = pid at *
            have l1 : (k : Int) - 1 = (m : Int) := by omega
            have l3 : (m : Int) < (l.length : Int) := by omega
            have l2 : IntKind.i64.wrap (m : Int) = (m : Int) := wrap_i64 (by omega) (by omega)
            have q2 : decide (0 < k) = true := decide_eq_true (by omega)
            have HSP : Hid (wr.cell? ⟨b, off + m * 4, none⟩ = some (.int .u64 (pid : Int))) := c4
            have HBL : Hid (b < wr.heap.size) := hbl
            have HJ2 : Hid (∀ j, j < k → rightAt l j = true) := HJ.out
            have HM : Hid (k = m + 1) := hm
            clear c4 hm hk0
            replace HSW : Hid (F4p wr.heap.size ⟨id, x, y, v⟩ b (off + m * 4) pid (wr.alloc (.cells #[.int .u64 (id : Int), .int .u32 (x : Int), .int .u32 (y : Int), .string v] 27)).drew) := ⟨HSW.out, (World.cell?_of_block (a := ⟨b, off + m * 4, none⟩) (HBn.out.block b hbl)).trans HSP.out⟩
            by_cases hid : pid < id
            · have q3 : decide (id ≤ pid) = false := decide_eq_false (by omega)
              have HJ1 : Hid (∀ j, j < k + 1 → rightAt l j = true) := by
                refine fun j hj => ?_
                by_cases e : j = k
                · subst e; exact HAt.2 ⟨hrr, fun _ => hid⟩
                · exact HJ2.out j (by omega)
              clear HAt hid
              go_wp2_with fail
              refine wp_region_held (S := F4p wr.heap.size ⟨id, x, y, v⟩ b (off + m * 4) pid) (by kernel_rfl) ?_
              change wpAnyH _ _ _ _ _ _ _ _ (World.drew _)
              refine wpAnyH_take (i := 0) (v := ?_) rfl (by kernel_rfl) (by kernel_rfl) (by kernel_rfl) (fun _ _ _ h => h) (Or.inl ⟨by kernel_rfl, ?_⟩) HSW.out ?_
              rotate_left
              · intro w hS
                obtain ⟨⟨e1, e2, e3, e4⟩, e5⟩ := hS
                go_simp
                try with_reducible rfl
              conv in (Act.put _ _ _) => simp only [List.getElem_toArray, List.getElem_cons_succ, List.getElem_cons_zero, Act.put, List.setIfInBounds_toArray, List.set_cons_succ, List.set_cons_zero]
              refine readyH 1 _ (by kernel_rfl) rfl (by kernel_rfl) (fun K hK => ?_)
              go_simp
              refine (HC.out _).mono ?_
              rintro e w1 ⟨rfl, b1⟩
              have HB1 : Hid (Below w.heap.size w w1) := HB.out.trans ((HBn.out.mono hws).trans (b1.mono (by omega)))
              replace HSW : Hid (F4p wr.heap.size ⟨id, x, y, v⟩ b (off + m * 4) pid w1) := ⟨HSW.out.1.same (b1.block _ hlt2), (World.cell?_of_block (a := ⟨b, off + m * 4, none⟩) (b1.block b (by have := HBL.out; omega))).trans HSW.out.2⟩
              refine hK _ _ HSW.out ?_
              clear hK K b1
              refine wpAnyH_take (i := 2) (v := ?_) rfl (by kernel_rfl) (by kernel_rfl) (by kernel_rfl) (fun _ _ _ h => h) (Or.inl ⟨by kernel_rfl, ?_⟩) HSW.out ?_
              rotate_left
              · intro w hS
                obtain ⟨⟨e1, e2, e3, e4⟩, e5⟩ := hS
                go_simp
                try with_reducible rfl
              conv in (Act.put _ _ _) => simp only [List.getElem_toArray, List.getElem_cons_succ, List.getElem_cons_zero, Act.put, List.setIfInBounds_toArray, List.set_cons_succ, List.set_cons_zero]
              refine wpAnyH_take (i := 3) (v := ?_) rfl (by kernel_rfl) (by kernel_rfl) (by kernel_rfl) (fun _ _ _ h => h) (Or.inl ⟨by kernel_rfl, ?_⟩) HSW.out ?_
              rotate_left
              · intro w hS
                obtain ⟨⟨e1, e2, e3, e4⟩, e5⟩ := hS
                go_simp
                try with_reducible rfl
              conv in (Act.put _ _ _) => simp only [List.getElem_toArray, List.getElem_cons_succ, List.getElem_cons_zero, Act.put, List.setIfInBounds_toArray, List.set_cons_succ, List.set_cons_zero]
              refine wpAnyH_take (i := 4) (v := ?_) rfl (by kernel_rfl) (by kernel_rfl) (by kernel_rfl) (fun _ _ _ h => h) (Or.inl ⟨by kernel_rfl, ?_⟩) HSW.out ?_
              rotate_left
              · intro w hS
                obtain ⟨⟨e1, e2, e3, e4⟩, e5⟩ := hS
                go_simp
                try with_reducible rfl
              conv in (Act.put _ _ _) => simp only [List.getElem_toArray, List.getElem_cons_succ, List.getElem_cons_zero, Act.put, List.setIfInBounds_toArray, List.set_cons_succ, List.set_cons_zero]
              refine wpAnyH_take (i := 5) (v := ?_) rfl (by kernel_rfl) (by kernel_rfl) (by kernel_rfl) (fun _ _ _ h => h) (Or.inl ⟨by kernel_rfl, ?_⟩) HSW.out ?_
              rotate_left
              · intro w hS
                obtain ⟨⟨e1, e2, e3, e4⟩, e5⟩ := hS
                go_simp
                try with_reducible rfl
              conv in (Act.put _ _ _) => simp only [List.getElem_toArray, List.getElem_cons_succ, List.getElem_cons_zero, Act.put, List.setIfInBounds_toArray, List.set_cons_succ, List.set_cons_zero]
              refine wpAnyH_take (i := 6) (v := ?_) rfl (by kernel_rfl) (by kernel_rfl) (by kernel_rfl) (fun _ _ _ h => h) (Or.inl ⟨by kernel_rfl, ?_⟩) HSW.out ?_
              rotate_left
              · intro w hS
                obtain ⟨⟨e1, e2, e3, e4⟩, e5⟩ := hS
                go_simp
                try with_reducible rfl
              conv in (Act.put _ _ _) => simp only [List.getElem_toArray, List.getElem_cons_succ, List.getElem_cons_zero, Act.put, List.setIfInBounds_toArray, List.set_cons_succ, List.set_cons_zero]
              refine wpAnyH_take (i := 7) (v := ?_) rfl (by kernel_rfl) (by kernel_rfl) (by kernel_rfl) (fun _ _ _ h => h) (Or.inl ⟨by kernel_rfl, ?_⟩) HSW.out ?_
              rotate_left
              · intro w hS
                obtain ⟨⟨e1, e2, e3, e4⟩, e5⟩ := hS
                go_simp
                try with_reducible rfl
              conv in (Act.put _ _ _) => simp only [List.getElem_toArray, List.getElem_cons_succ, List.getElem_cons_zero, Act.put, List.setIfInBounds_toArray, List.set_cons_succ, List.set_cons_zero]
              refine wpAnyH_take (i := 8) (v := ?_) rfl (by kernel_rfl) (by kernel_rfl) (by kernel_rfl) (fun _ _ _ h => h) (Or.inl ⟨by kernel_rfl, ?_⟩) HSW.out ?_
              rotate_left
              · intro w hS
                obtain ⟨⟨e1, e2, e3, e4⟩, e5⟩ := hS
                go_simp
                try with_reducible rfl
              conv in (Act.put _ _ _) => simp only [List.getElem_toArray, List.getElem_cons_succ, List.getElem_cons_zero, Act.put, List.setIfInBounds_toArray, List.set_cons_succ, List.set_cons_zero]
              refine wpAnyH_take (i := 9) (v := ?_) rfl (by kernel_rfl) (by kernel_rfl) (by kernel_rfl) (fun _ _ _ h => h) (Or.inl ⟨by kernel_rfl, ?_⟩) HSW.out ?_
              rotate_left
              · intro w hS
                obtain ⟨⟨e1, e2, e3, e4⟩, e5⟩ := hS
                go_simp
                try with_reducible rfl
              conv in (Act.put _ _ _) => simp only [List.getElem_toArray, List.getElem_cons_succ, List.getElem_cons_zero, Act.put, List.setIfInBounds_toArray, List.set_cons_succ, List.set_cons_zero]
              refine wpAnyH_take (i := 10) (v := ?_) rfl (by kernel_rfl) (by kernel_rfl) (by kernel_rfl) (fun _ _ _ h => h) (Or.inl ⟨by kernel_rfl, ?_⟩) HSW.out ?_
              rotate_left
              · intro w hS
                obtain ⟨⟨e1, e2, e3, e4⟩, e5⟩ := hS
                go_simp
                try with_reducible rfl
              conv in (Act.put _ _ _) => simp only [List.getElem_toArray, List.getElem_cons_succ, List.getElem_cons_zero, Act.put, List.setIfInBounds_toArray, List.set_cons_succ, List.set_cons_zero]
              refine wpAnyH_take (i := 11) (v := ?_) rfl (by kernel_rfl) (by kernel_rfl) (by kernel_rfl) (fun _ _ _ h => h) (Or.inl ⟨by kernel_rfl, ?_⟩) HSW.out ?_
              rotate_left
              · intro w hS
                obtain ⟨⟨e1, e2, e3, e4⟩, e5⟩ := hS
                go_simp
                try with_reducible rfl
              conv in (Act.put _ _ _) => simp only [List.getElem_toArray, List.getElem_cons_succ, List.getElem_cons_zero, Act.put, List.setIfInBounds_toArray, List.set_cons_succ, List.set_cons_zero]
              refine wpAnyH_take (i := 12) (v := ?_) rfl (by kernel_rfl) (by kernel_rfl) (by kernel_rfl) (fun _ _ _ h => h) (Or.inl ⟨by kernel_rfl, ?_⟩) HSW.out ?_
              rotate_left
              · intro w hS
                obtain ⟨⟨e1, e2, e3, e4⟩, e5⟩ := hS
                go_simp
                try with_reducible rfl
              conv in (Act.put _ _ _) => simp only [List.getElem_toArray, List.getElem_cons_succ, List.getElem_cons_zero, Act.put, List.setIfInBounds_toArray, List.set_cons_succ, List.set_cons_zero]
              refine wpAnyH_take (i := 13) (v := ?_) rfl (by kernel_rfl) (by kernel_rfl) (by kernel_rfl) (fun _ _ _ h => h) (Or.inl ⟨by kernel_rfl, ?_⟩) HSW.out ?_
              rotate_left
              · intro w hS
                obtain ⟨⟨e1, e2, e3, e4⟩, e5⟩ := hS
                go_simp
                try with_reducible rfl
              conv in (Act.put _ _ _) => simp only [List.getElem_toArray, List.getElem_cons_succ, List.getElem_cons_zero, Act.put, List.setIfInBounds_toArray, List.set_cons_succ, List.set_cons_zero]
              refine wpAnyH_take (i := 14) (v := ?_) rfl (by kernel_rfl) (by kernel_rfl) (by kernel_rfl) (fun _ _ _ h => h) (Or.inl ⟨by kernel_rfl, ?_⟩) HSW.out ?_
              rotate_left
              · intro w hS
                obtain ⟨⟨e1, e2, e3, e4⟩, e5⟩ := hS
                go_simp
                try with_reducible rfl
              conv in (Act.put _ _ _) => simp only [List.getElem_toArray, List.getElem_cons_succ, List.getElem_cons_zero, Act.put, List.setIfInBounds_toArray, List.set_cons_succ, List.set_cons_zero]
              refine wpAnyH_take (i := 15) (v := ?_) rfl (by kernel_rfl) (by kernel_rfl) (by kernel_rfl) (fun _ _ _ h => h) (Or.inl ⟨by kernel_rfl, ?_⟩) HSW.out ?_
              rotate_left
              · intro w hS
                obtain ⟨⟨e1, e2, e3, e4⟩, e5⟩ := hS
                go_simp
                try with_reducible rfl
              conv in (Act.put _ _ _) => simp only [List.getElem_toArray, List.getElem_cons_succ, List.getElem_cons_zero, Act.put, List.setIfInBounds_toArray, List.set_cons_succ, List.set_cons_zero]
              refine wpAnyH_take (i := 16) (v := ?_) rfl (by kernel_rfl) (by kernel_rfl) (by kernel_rfl) (fun _ _ _ h => h) (Or.inl ⟨by kernel_rfl, ?_⟩) HSW.out ?_
              rotate_left
              · intro w hS
                obtain ⟨⟨e1, e2, e3, e4⟩, e5⟩ := hS
                go_simp
                try with_reducible rfl
              conv in (Act.put _ _ _) => simp only [List.getElem_toArray, List.getElem_cons_succ, List.getElem_cons_zero, Act.put, List.setIfInBounds_toArray, List.set_cons_succ, List.set_cons_zero]
              refine wpAnyH_take (i := 17) (v := ?_) rfl (by kernel_rfl) (by kernel_rfl) (by kernel_rfl) (fun _ _ _ h => h) (Or.inl ⟨by kernel_rfl, ?_⟩) HSW.out ?_
              rotate_left
              · intro w hS
                obtain ⟨⟨e1, e2, e3, e4⟩, e5⟩ := hS
                go_simp
                try with_reducible rfl
              conv in (Act.put _ _ _) => simp only [List.getElem_toArray, List.getElem_cons_succ, List.getElem_cons_zero, Act.put, List.setIfInBounds_toArray, List.set_cons_succ, List.set_cons_zero]
              refine wpAnyH_done (by kernel_rfl) ?_ _
              go_wp2_with fail
              go_roundw
              case rel => exact ⟨k + 1, by omega, by go_num, HJ1.out, HB1.out⟩
              case measure => simp [natOf]; omega
            · have q3 : decide (id ≤ pid) = true := decide_eq_true (by omega)
              have HE : Hid (rightL l = false) := by
                refine (?_ : rightL l = false)
                cases e : rightL l
                · rfl
                · exact absurd ((HAt.1 (((rightL_iff l).1 e).2 k hlt)).2 (by have := HM.out; omega)) hid
              clear HAt hid
              go_wp2_with fail
              refine wp_region_held (S := F4p wr.heap.size ⟨id, x, y, v⟩ b (off + m * 4) pid) (by kernel_rfl) ?_
              change wpAnyH _ _ _ _ _ _ _ _ (World.drew _)
              refine wpAnyH_take (i := 0) (v := ?_) rfl (by kernel_rfl) (by kernel_rfl) (by kernel_rfl) (fun _ _ _ h => h) (Or.inl ⟨by kernel_rfl, ?_⟩) HSW.out ?_
              rotate_left
              · intro w hS
                obtain ⟨⟨e1, e2, e3, e4⟩, e5⟩ := hS
                go_simp
                try with_reducible rfl
              conv in (Act.put _ _ _) => simp only [List.getElem_toArray, List.getElem_cons_succ, List.getElem_cons_zero, Act.put, List.setIfInBounds_toArray, List.set_cons_succ, List.set_cons_zero]
              refine readyH 1 _ (by kernel_rfl) rfl (by kernel_rfl) (fun K hK => ?_)
              go_simp
              refine (HC.out _).mono ?_
              rintro e w1 ⟨rfl, b1⟩
              have HB1 : Hid (Below w.heap.size w w1) := HB.out.trans ((HBn.out.mono hws).trans (b1.mono (by omega)))
              replace HSW : Hid (F4p wr.heap.size ⟨id, x, y, v⟩ b (off + m * 4) pid w1) := ⟨HSW.out.1.same (b1.block _ hlt2), (World.cell?_of_block (a := ⟨b, off + m * 4, none⟩) (b1.block b (by have := HBL.out; omega))).trans HSW.out.2⟩
              refine hK _ _ HSW.out ?_
              clear hK K b1
              refine wpAnyH_take (i := 2) (v := ?_) rfl (by kernel_rfl) (by kernel_rfl) (by kernel_rfl) (fun _ _ _ h => h) (Or.inl ⟨by kernel_rfl, ?_⟩) HSW.out ?_
              rotate_left
              · intro w hS
                obtain ⟨⟨e1, e2, e3, e4⟩, e5⟩ := hS
                go_simp
                try with_reducible rfl
              conv in (Act.put _ _ _) => simp only [List.getElem_toArray, List.getElem_cons_succ, List.getElem_cons_zero, Act.put, List.setIfInBounds_toArray, List.set_cons_succ, List.set_cons_zero]
              refine wpAnyH_take (i := 3) (v := ?_) rfl (by kernel_rfl) (by kernel_rfl) (by kernel_rfl) (fun _ _ _ h => h) (Or.inl ⟨by kernel_rfl, ?_⟩) HSW.out ?_
              rotate_left
              · intro w hS
                obtain ⟨⟨e1, e2, e3, e4⟩, e5⟩ := hS
                go_simp
                try with_reducible rfl
              conv in (Act.put _ _ _) => simp only [List.getElem_toArray, List.getElem_cons_succ, List.getElem_cons_zero, Act.put, List.setIfInBounds_toArray, List.set_cons_succ, List.set_cons_zero]
              refine wpAnyH_take (i := 4) (v := ?_) rfl (by kernel_rfl) (by kernel_rfl) (by kernel_rfl) (fun _ _ _ h => h) (Or.inl ⟨by kernel_rfl, ?_⟩) HSW.out ?_
              rotate_left
              · intro w hS
                obtain ⟨⟨e1, e2, e3, e4⟩, e5⟩ := hS
                go_simp
                try with_reducible rfl
              conv in (Act.put _ _ _) => simp only [List.getElem_toArray, List.getElem_cons_succ, List.getElem_cons_zero, Act.put, List.setIfInBounds_toArray, List.set_cons_succ, List.set_cons_zero]
              refine wpAnyH_take (i := 5) (v := ?_) rfl (by kernel_rfl) (by kernel_rfl) (by kernel_rfl) (fun _ _ _ h => h) (Or.inl ⟨by kernel_rfl, ?_⟩) HSW.out ?_
              rotate_left
              · intro w hS
                obtain ⟨⟨e1, e2, e3, e4⟩, e5⟩ := hS
                go_simp
                try with_reducible rfl
              conv in (Act.put _ _ _) => simp only [List.getElem_toArray, List.getElem_cons_succ, List.getElem_cons_zero, Act.put, List.setIfInBounds_toArray, List.set_cons_succ, List.set_cons_zero]
              refine wpAnyH_take (i := 6) (v := ?_) rfl (by kernel_rfl) (by kernel_rfl) (by kernel_rfl) (fun _ _ _ h => h) (Or.inl ⟨by kernel_rfl, ?_⟩) HSW.out ?_
              rotate_left
              · intro w hS
                obtain ⟨⟨e1, e2, e3, e4⟩, e5⟩ := hS
                go_simp
                try with_reducible rfl
              conv in (Act.put _ _ _) => simp only [List.getElem_toArray, List.getElem_cons_succ, List.getElem_cons_zero, Act.put, List.setIfInBounds_toArray, List.set_cons_succ, List.set_cons_zero]
              refine wpAnyH_take (i := 7) (v := ?_) rfl (by kernel_rfl) (by kernel_rfl) (by kernel_rfl) (fun _ _ _ h => h) (Or.inl ⟨by kernel_rfl, ?_⟩) HSW.out ?_
              rotate_left
              · intro w hS
                obtain ⟨⟨e1, e2, e3, e4⟩, e5⟩ := hS
                go_simp
                try with_reducible rfl
              conv in (Act.put _ _ _) => simp only [List.getElem_toArray, List.getElem_cons_succ, List.getElem_cons_zero, Act.put, List.setIfInBounds_toArray, List.set_cons_succ, List.set_cons_zero]
              refine wpAnyH_take (i := 8) (v := ?_) rfl (by kernel_rfl) (by kernel_rfl) (by kernel_rfl) (fun _ _ _ h => h) (Or.inl ⟨by kernel_rfl, ?_⟩) HSW.out ?_
              rotate_left
              · intro w hS
                obtain ⟨⟨e1, e2, e3, e4⟩, e5⟩ := hS
                go_simp
                try with_reducible rfl
              conv in (Act.put _ _ _) => simp only [List.getElem_toArray, List.getElem_cons_succ, List.getElem_cons_zero, Act.put, List.setIfInBounds_toArray, List.set_cons_succ, List.set_cons_zero]
              refine wpAnyH_take (i := 9) (v := ?_) rfl (by kernel_rfl) (by kernel_rfl) (by kernel_rfl) (fun _ _ _ h => h) (Or.inl ⟨by kernel_rfl, ?_⟩) HSW.out ?_
              rotate_left
              · intro w hS
                obtain ⟨⟨e1, e2, e3, e4⟩, e5⟩ := hS
                go_simp
                try with_reducible rfl
              conv in (Act.put _ _ _) => simp only [List.getElem_toArray, List.getElem_cons_succ, List.getElem_cons_zero, Act.put, List.setIfInBounds_toArray, List.set_cons_succ, List.set_cons_zero]
              refine wpAnyH_take (i := 10) (v := ?_) rfl (by kernel_rfl) (by kernel_rfl) (by kernel_rfl) (fun _ _ _ h => h) (Or.inl ⟨by kernel_rfl, ?_⟩) HSW.out ?_
              rotate_left
              · intro w hS
                obtain ⟨⟨e1, e2, e3, e4⟩, e5⟩ := hS
                go_simp
                try with_reducible rfl
              conv in (Act.put _ _ _) => simp only [List.getElem_toArray, List.getElem_cons_succ, List.getElem_cons_zero, Act.put, List.setIfInBounds_toArray, List.set_cons_succ, List.set_cons_zero]
              refine wpAnyH_take (i := 11) (v := ?_) rfl (by kernel_rfl) (by kernel_rfl) (by kernel_rfl) (fun _ _ _ h => h) (Or.inl ⟨by kernel_rfl, ?_⟩) HSW.out ?_
              rotate_left
              · intro w hS
                obtain ⟨⟨e1, e2, e3, e4⟩, e5⟩ := hS
                go_simp
                try with_reducible rfl
              conv in (Act.put _ _ _) => simp only [List.getElem_toArray, List.getElem_cons_succ, List.getElem_cons_zero, Act.put, List.setIfInBounds_toArray, List.set_cons_succ, List.set_cons_zero]
              refine wpAnyH_take (i := 12) (v := ?_) rfl (by kernel_rfl) (by kernel_rfl) (by kernel_rfl) (fun _ _ _ h => h) (Or.inl ⟨by kernel_rfl, ?_⟩) HSW.out ?_
              rotate_left
              · intro w hS
                obtain ⟨⟨e1, e2, e3, e4⟩, e5⟩ := hS
                go_simp
                try with_reducible rfl
              conv in (Act.put _ _ _) => simp only [List.getElem_toArray, List.getElem_cons_succ, List.getElem_cons_zero, Act.put, List.setIfInBounds_toArray, List.set_cons_succ, List.set_cons_zero]
              refine wpAnyH_take (i := 13) (v := ?_) rfl (by kernel_rfl) (by kernel_rfl) (by kernel_rfl) (fun _ _ _ h => h) (Or.inl ⟨by kernel_rfl, ?_⟩) HSW.out ?_
              rotate_left
              · intro w hS
                obtain ⟨⟨e1, e2, e3, e4⟩, e5⟩ := hS
                go_simp
                try with_reducible rfl
              conv in (Act.put _ _ _) => simp only [List.getElem_toArray, List.getElem_cons_succ, List.getElem_cons_zero, Act.put, List.setIfInBounds_toArray, List.set_cons_succ, List.set_cons_zero]
              refine wpAnyH_take (i := 14) (v := ?_) rfl (by kernel_rfl) (by kernel_rfl) (by kernel_rfl) (fun _ _ _ h => h) (Or.inl ⟨by kernel_rfl, ?_⟩) HSW.out ?_
              rotate_left
              · intro w hS
                obtain ⟨⟨e1, e2, e3, e4⟩, e5⟩ := hS
                go_simp
                try with_reducible rfl
              conv in (Act.put _ _ _) => simp only [List.getElem_toArray, List.getElem_cons_succ, List.getElem_cons_zero, Act.put, List.setIfInBounds_toArray, List.set_cons_succ, List.set_cons_zero]
              refine wpAnyH_take (i := 15) (v := ?_) rfl (by kernel_rfl) (by kernel_rfl) (by kernel_rfl) (fun _ _ _ h => h) (Or.inl ⟨by kernel_rfl, ?_⟩) HSW.out ?_
              rotate_left
              · intro w hS
                obtain ⟨⟨e1, e2, e3, e4⟩, e5⟩ := hS
                go_simp
                try with_reducible rfl
              conv in (Act.put _ _ _) => simp only [List.getElem_toArray, List.getElem_cons_succ, List.getElem_cons_zero, Act.put, List.setIfInBounds_toArray, List.set_cons_succ, List.set_cons_zero]
              refine wpAnyH_take (i := 16) (v := ?_) rfl (by kernel_rfl) (by kernel_rfl) (by kernel_rfl) (fun _ _ _ h => h) (Or.inl ⟨by kernel_rfl, ?_⟩) HSW.out ?_
              rotate_left
              · intro w hS
                obtain ⟨⟨e1, e2, e3, e4⟩, e5⟩ := hS
                go_simp
                try with_reducible rfl
              conv in (Act.put _ _ _) => simp only [List.getElem_toArray, List.getElem_cons_succ, List.getElem_cons_zero, Act.put, List.setIfInBounds_toArray, List.set_cons_succ, List.set_cons_zero]
              refine wpAnyH_take (i := 17) (v := ?_) rfl (by kernel_rfl) (by kernel_rfl) (by kernel_rfl) (fun _ _ _ h => h) (Or.inl ⟨by kernel_rfl, ?_⟩) HSW.out ?_
              rotate_left
              · intro w hS
                obtain ⟨⟨e1, e2, e3, e4⟩, e5⟩ := hS
                go_simp
                try with_reducible rfl
              conv in (Act.put _ _ _) => simp only [List.getElem_toArray, List.getElem_cons_succ, List.getElem_cons_zero, Act.put, List.setIfInBounds_toArray, List.set_cons_succ, List.set_cons_zero]
              refine wpAnyH_done (by kernel_rfl) ?_ _
              go_wp2_with fail
              go_ret
              exact ⟨by rw [HE.out]; rfl, HB1.out⟩
      · obtain rfl : k = l.length := by omega
        have q1 : ¬ (l.length : Int) < (l.length : Int) := by omega
        have HB : Hid (Below w.heap.size w wr) := hb
        have HE : Hid (rightL l = true) := (rightL_iff l).2 ⟨by omega, hj⟩
        clear hb hj
        go_wp2_with fail
        go_ret
        exact ⟨by rw [HE.out]; rfl, HB.out⟩
end Go.Proofs.Ythneciodobeehaa.Rq
