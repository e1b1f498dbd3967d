/- The reference: which rows are right. -/
import Derived.Test.YthneciodobeehaaPGC
namespace Go.Proofs.Ythneciodobeehaa.Rq
open Go.RowKit Go.Lib Go.Shelf
open Go.Proofs.Ythneciodobeehaa.Rc
/-- The ids of two rows that follow each other. -/
def I2 (b x y : Nat) (p q : Nat) (w : World) : Prop := w.cell? ⟨b, x, none⟩ = some (.int .u64 (p : Int)) ∧ w.cell? ⟨b, y, none⟩ = some (.int .u64 (q : Int))
set_option maxRecDepth 100000 in
theorem I2.same {b x y p q : Nat} {w w' : World} (h : I2 b x y p q w) (e : w'.heap[b]? = w.heap[b]?) : I2 b x y p q w' :=
  ⟨(World.cell?_of_block (a := ⟨b, x, none⟩) e).trans h.1, (World.cell?_of_block (a := ⟨b, y, none⟩) e).trans h.2⟩
set_option maxRecDepth 100000 in
set_option maxHeartbeats 4000000 in
theorem eright_any (l : List Rw) (o : Option Addr) (cap : Nat) (w : World) (hr : RowsAt w o cap l) :
    Calls Try.prog 23 #[.slice o l.length cap] w fun e w' => e = .returned (.bool (rightL l)) ∧ Below w.heap.size w w' := by
  by_cases h : 1000 < l.length
  · have q0 : (1000 : Int) < (l.length : Int) := by omega
    go_enter Try.func23, Try.ntmps23
    go_wp2_with fail
    go_ret
    refine ⟨?_, Below.refl _ _⟩
    rw [show rightL l = false by unfold rightL; rw [decide_eq_false]; omega]
    rfl
  · have q0 : ¬ (1000 : Int) < (l.length : Int) := by omega
    go_enter Try.func23, Try.ntmps23
    go_wp2_with fail
    go_loopw [3] (fun i wr => ∃ k : Nat, k ≤ l.length ∧ i = .int .i64 (k : Int) ∧ (∀ j, j < k → rightAt l j = true) ∧ Below w.heap.size w wr) (fun i _ => l.length - natOf i)
    case atStart => exact ⟨0, by omega, rfl, fun j hj => absurd hj (by omega), Below.refl _ _⟩
    case round =>
      obtain ⟨k, hk, rfl, hj, hb⟩ := hrel
      by_cases hlt : k < l.length
      · obtain ⟨b, off, rfl, hbl, hc⟩ := (hr.below hb (Nat.le_refl _)).row hlt
        obtain ⟨c0, c1, c2, c3⟩ := hc k hlt
        have q1 : (k : Int) < (l.length : Int) := by omega
        have k0 : (0 : Int) ≤ (k : Int) := by omega
        have k1 : (k : Int) + 1 ≤ 9223372036854775807 := by omega
        have HC : Hid _ := erightRow_any (rat l k)
        have HFr : Hid _ := hc
        have HJ : Hid _ := hj
        clear hc hj
        generalize hr0 : rat l k = r at *
        obtain ⟨id, x, y, v⟩ := r
        simp only at c0 c1 c2 c3
        have HB : Hid (Below w.heap.size w wr) := hb
        have HC0 : Hid (wr.cell? ⟨b, off + k * 4, none⟩ = some (.int .u64 (id : Int))) := c0
        have hws := hb.size
        clear hb
        have HR : Hid (rat l k = ⟨id, x, y, v⟩) := hr0
        clear hr0
        cases hrr : rightRow ⟨id, x, y, v⟩
        · rw [hrr] at HC
          have HE : Hid (rightL l = false) := by
            refine (?_ : rightL l = false)
            cases e : rightL l
            · rfl
            · have := ((rightAt_iff l k).1 (((rightL_iff l).1 e).2 k hlt)).1
              rw [HR.out, hrr] at this; cases this
          go_wp2_with fail
          refine (HC.out _).mono ?_
          rintro e w1 ⟨rfl, b1⟩
          have HB1 : Hid (Below w.heap.size w w1) := HB.out.trans (b1.mono (by omega))
          have HSW : Hid (True ∧ True) := ⟨trivial, trivial⟩
          clear b1
          go_wp2_with fail
          refine wp_region_held (S := fun _ => True ∧ True) (by kernel_rfl) ?_
          change wpAnyH _ _ _ _ _ _ _ _ (World.drew _)
          refine wpAnyH_take (i := 0) (v := ?_) rfl (by kernel_rfl) (by kernel_rfl) (by kernel_rfl) (fun _ _ _ h => h) (Or.inl ⟨by kernel_rfl, ?_⟩) HSW.out ?_
          rotate_left
          · intro w hS
            obtain ⟨e1, e2⟩ := hS
            go_simp
            try with_reducible rfl
          conv in (Act.put _ _ _) => simp only [List.getElem_toArray, List.getElem_cons_succ, List.getElem_cons_zero, Act.put, List.setIfInBounds_toArray, List.set_cons_succ, List.set_cons_zero]
          refine wpAnyH_take (i := 1) (v := ?_) rfl (by kernel_rfl) (by kernel_rfl) (by kernel_rfl) (fun _ _ _ h => h) (Or.inl ⟨by kernel_rfl, ?_⟩) HSW.out ?_
          rotate_left
          · intro w hS
            obtain ⟨e1, e2⟩ := hS
            go_simp
            try with_reducible rfl
          conv in (Act.put _ _ _) => simp only [List.getElem_toArray, List.getElem_cons_succ, List.getElem_cons_zero, Act.put, List.setIfInBounds_toArray, List.set_cons_succ, List.set_cons_zero]
          refine wpAnyH_take (i := 2) (v := ?_) rfl (by kernel_rfl) (by kernel_rfl) (by kernel_rfl) (fun _ _ _ h => h) (Or.inl ⟨by kernel_rfl, ?_⟩) HSW.out ?_
          rotate_left
          · intro w hS
            obtain ⟨e1, e2⟩ := hS
            go_simp
            try with_reducible rfl
          conv in (Act.put _ _ _) => simp only [List.getElem_toArray, List.getElem_cons_succ, List.getElem_cons_zero, Act.put, List.setIfInBounds_toArray, List.set_cons_succ, List.set_cons_zero]
          refine wpAnyH_take (i := 3) (v := undef) rfl (by kernel_rfl) (by kernel_rfl) (by kernel_rfl) (fun _ _ _ h => h) (Or.inr ⟨by kernel_rfl, rfl⟩) HSW.out ?_
          conv in (Act.put _ _ _) => simp only [List.getElem_toArray, List.getElem_cons_succ, List.getElem_cons_zero, Act.put, List.setIfInBounds_toArray, List.set_cons_succ, List.set_cons_zero]
          refine wpAnyH_take (i := 4) (v := undef) rfl (by kernel_rfl) (by kernel_rfl) (by kernel_rfl) (fun _ _ _ h => h) (Or.inr ⟨by kernel_rfl, rfl⟩) HSW.out ?_
          conv in (Act.put _ _ _) => simp only [List.getElem_toArray, List.getElem_cons_succ, List.getElem_cons_zero, Act.put, List.setIfInBounds_toArray, List.set_cons_succ, List.set_cons_zero]
          refine wpAnyH_take (i := 5) (v := undef) rfl (by kernel_rfl) (by kernel_rfl) (by kernel_rfl) (fun _ _ _ h => h) (Or.inr ⟨by kernel_rfl, rfl⟩) HSW.out ?_
          conv in (Act.put _ _ _) => simp only [List.getElem_toArray, List.getElem_cons_succ, List.getElem_cons_zero, Act.put, List.setIfInBounds_toArray, List.set_cons_succ, List.set_cons_zero]
          refine wpAnyH_take (i := 6) (v := undef) rfl (by kernel_rfl) (by kernel_rfl) (by kernel_rfl) (fun _ _ _ h => h) (Or.inr ⟨by kernel_rfl, rfl⟩) HSW.out ?_
          conv in (Act.put _ _ _) => simp only [List.getElem_toArray, List.getElem_cons_succ, List.getElem_cons_zero, Act.put, List.setIfInBounds_toArray, List.set_cons_succ, List.set_cons_zero]
          refine wpAnyH_take (i := 7) (v := undef) rfl (by kernel_rfl) (by kernel_rfl) (by kernel_rfl) (fun _ _ _ h => h) (Or.inr ⟨by kernel_rfl, rfl⟩) HSW.out ?_
          conv in (Act.put _ _ _) => simp only [List.getElem_toArray, List.getElem_cons_succ, List.getElem_cons_zero, Act.put, List.setIfInBounds_toArray, List.set_cons_succ, List.set_cons_zero]
          refine wpAnyH_take (i := 8) (v := undef) rfl (by kernel_rfl) (by kernel_rfl) (by kernel_rfl) (fun _ _ _ h => h) (Or.inr ⟨by kernel_rfl, rfl⟩) HSW.out ?_
          conv in (Act.put _ _ _) => simp only [List.getElem_toArray, List.getElem_cons_succ, List.getElem_cons_zero, Act.put, List.setIfInBounds_toArray, List.set_cons_succ, List.set_cons_zero]
          refine wpAnyH_take (i := 9) (v := undef) rfl (by kernel_rfl) (by kernel_rfl) (by kernel_rfl) (fun _ _ _ h => h) (Or.inr ⟨by kernel_rfl, rfl⟩) HSW.out ?_
          conv in (Act.put _ _ _) => simp only [List.getElem_toArray, List.getElem_cons_succ, List.getElem_cons_zero, Act.put, List.setIfInBounds_toArray, List.set_cons_succ, List.set_cons_zero]
          refine wpAnyH_take (i := 10) (v := undef) rfl (by kernel_rfl) (by kernel_rfl) (by kernel_rfl) (fun _ _ _ h => h) (Or.inr ⟨by kernel_rfl, rfl⟩) HSW.out ?_
          conv in (Act.put _ _ _) => simp only [List.getElem_toArray, List.getElem_cons_succ, List.getElem_cons_zero, Act.put, List.setIfInBounds_toArray, List.set_cons_succ, List.set_cons_zero]
          refine wpAnyH_take (i := 11) (v := undef) rfl (by kernel_rfl) (by kernel_rfl) (by kernel_rfl) (fun _ _ _ h => h) (Or.inr ⟨by kernel_rfl, rfl⟩) HSW.out ?_
          conv in (Act.put _ _ _) => simp only [List.getElem_toArray, List.getElem_cons_succ, List.getElem_cons_zero, Act.put, List.setIfInBounds_toArray, List.set_cons_succ, List.set_cons_zero]
          refine wpAnyH_take (i := 12) (v := undef) rfl (by kernel_rfl) (by kernel_rfl) (by kernel_rfl) (fun _ _ _ h => h) (Or.inr ⟨by kernel_rfl, rfl⟩) HSW.out ?_
          conv in (Act.put _ _ _) => simp only [List.getElem_toArray, List.getElem_cons_succ, List.getElem_cons_zero, Act.put, List.setIfInBounds_toArray, List.set_cons_succ, List.set_cons_zero]
          refine wpAnyH_take (i := 13) (v := undef) rfl (by kernel_rfl) (by kernel_rfl) (by kernel_rfl) (fun _ _ _ h => h) (Or.inr ⟨by kernel_rfl, rfl⟩) HSW.out ?_
          conv in (Act.put _ _ _) => simp only [List.getElem_toArray, List.getElem_cons_succ, List.getElem_cons_zero, Act.put, List.setIfInBounds_toArray, List.set_cons_succ, List.set_cons_zero]
          refine wpAnyH_take (i := 14) (v := undef) rfl (by kernel_rfl) (by kernel_rfl) (by kernel_rfl) (fun _ _ _ h => h) (Or.inr ⟨by kernel_rfl, rfl⟩) HSW.out ?_
          conv in (Act.put _ _ _) => simp only [List.getElem_toArray, List.getElem_cons_succ, List.getElem_cons_zero, Act.put, List.setIfInBounds_toArray, List.set_cons_succ, List.set_cons_zero]
          refine wpAnyH_take (i := 15) (v := undef) rfl (by kernel_rfl) (by kernel_rfl) (by kernel_rfl) (fun _ _ _ h => h) (Or.inr ⟨by kernel_rfl, rfl⟩) HSW.out ?_
          conv in (Act.put _ _ _) => simp only [List.getElem_toArray, List.getElem_cons_succ, List.getElem_cons_zero, Act.put, List.setIfInBounds_toArray, List.set_cons_succ, List.set_cons_zero]
          refine wpAnyH_take (i := 16) (v := undef) rfl (by kernel_rfl) (by kernel_rfl) (by kernel_rfl) (fun _ _ _ h => h) (Or.inr ⟨by kernel_rfl, rfl⟩) HSW.out ?_
          conv in (Act.put _ _ _) => simp only [List.getElem_toArray, List.getElem_cons_succ, List.getElem_cons_zero, Act.put, List.setIfInBounds_toArray, List.set_cons_succ, List.set_cons_zero]
          refine wpAnyH_take (i := 17) (v := undef) rfl (by kernel_rfl) (by kernel_rfl) (by kernel_rfl) (fun _ _ _ h => h) (Or.inr ⟨by kernel_rfl, rfl⟩) HSW.out ?_
          conv in (Act.put _ _ _) => simp only [List.getElem_toArray, List.getElem_cons_succ, List.getElem_cons_zero, Act.put, List.setIfInBounds_toArray, List.set_cons_succ, List.set_cons_zero]
          refine wpAnyH_take (i := 18) (v := undef) rfl (by kernel_rfl) (by kernel_rfl) (by kernel_rfl) (fun _ _ _ h => h) (Or.inr ⟨by kernel_rfl, rfl⟩) HSW.out ?_
          conv in (Act.put _ _ _) => simp only [List.getElem_toArray, List.getElem_cons_succ, List.getElem_cons_zero, Act.put, List.setIfInBounds_toArray, List.set_cons_succ, List.set_cons_zero]
          refine wpAnyH_take (i := 19) (v := ?_) rfl (by kernel_rfl) (by kernel_rfl) (by kernel_rfl) (fun _ _ _ h => h) (Or.inl ⟨by kernel_rfl, ?_⟩) HSW.out ?_
          rotate_left
          · intro w hS
            obtain ⟨e1, e2⟩ := hS
            go_simp
            try with_reducible rfl
          conv in (Act.put _ _ _) => simp only [List.getElem_toArray, List.getElem_cons_succ, List.getElem_cons_zero, Act.put, List.setIfInBounds_toArray, List.set_cons_succ, List.set_cons_zero]
          refine wpAnyH_done (by kernel_rfl) ?_ _
          go_wp2_with fail
          go_ret
          exact ⟨by rw [HE.out]; rfl, HB1.out.drew⟩
        · rw [hrr] at HC
          by_cases hk0 : k = 0
          · have HJ1 : Hid (∀ j, j < k + 1 → rightAt l j = true) := by
              refine fun j hj => ?_
              obtain rfl : j = k := by omega
              rw [rightAt_iff, HR.out]
              exact ⟨hrr, fun h => absurd h (by omega)⟩
            have q2 : decide (0 < k) = false := decide_eq_false (by omega)
            have HK0 : Hid (k = 0) := hk0
            clear hk0
            go_wp2_with fail
            refine (HC.out _).mono ?_
            rintro e w1 ⟨rfl, b1⟩
            have HB1 : Hid (Below w.heap.size w w1) := HB.out.trans (b1.mono (by omega))
            have HSW : Hid (True ∧ True) := ⟨trivial, trivial⟩
            clear b1
            go_wp2_with fail
            refine wp_region_held (S := fun _ => True ∧ True) (by kernel_rfl) ?_
            change wpAnyH _ _ _ _ _ _ _ _ (World.drew _)
            refine wpAnyH_take (i := 0) (v := ?_) rfl (by kernel_rfl) (by kernel_rfl) (by kernel_rfl) (fun _ _ _ h => h) (Or.inl ⟨by kernel_rfl, ?_⟩) HSW.out ?_
            rotate_left
            · intro w hS
              obtain ⟨e1, e2⟩ := hS
              go_simp
              try with_reducible rfl
            conv in (Act.put _ _ _) => simp only [List.getElem_toArray, List.getElem_cons_succ, List.getElem_cons_zero, Act.put, List.setIfInBounds_toArray, List.set_cons_succ, List.set_cons_zero]
            refine wpAnyH_take (i := 1) (v := ?_) rfl (by kernel_rfl) (by kernel_rfl) (by kernel_rfl) (fun _ _ _ h => h) (Or.inl ⟨by kernel_rfl, ?_⟩) HSW.out ?_
            rotate_left
            · intro w hS
              obtain ⟨e1, e2⟩ := hS
              go_simp
              try with_reducible rfl
            conv in (Act.put _ _ _) => simp only [List.getElem_toArray, List.getElem_cons_succ, List.getElem_cons_zero, Act.put, List.setIfInBounds_toArray, List.set_cons_succ, List.set_cons_zero]
            refine wpAnyH_take (i := 2) (v := ?_) rfl (by kernel_rfl) (by kernel_rfl) (by kernel_rfl) (fun _ _ _ h => h) (Or.inl ⟨by kernel_rfl, ?_⟩) HSW.out ?_
            rotate_left
            · intro w hS
              obtain ⟨e1, e2⟩ := hS
              go_simp
              try with_reducible rfl
            conv in (Act.put _ _ _) => simp only [List.getElem_toArray, List.getElem_cons_succ, List.getElem_cons_zero, Act.put, List.setIfInBounds_toArray, List.set_cons_succ, List.set_cons_zero]
            refine wpAnyH_take (i := 3) (v := ?_) rfl (by kernel_rfl) (by kernel_rfl) (by kernel_rfl) (fun _ _ _ h => h) (Or.inl ⟨by kernel_rfl, ?_⟩) HSW.out ?_
            rotate_left
            · intro w hS
              obtain ⟨e1, e2⟩ := hS
              go_simp
              try with_reducible rfl
            conv in (Act.put _ _ _) => simp only [List.getElem_toArray, List.getElem_cons_succ, List.getElem_cons_zero, Act.put, List.setIfInBounds_toArray, List.set_cons_succ, List.set_cons_zero]
            refine wpAnyH_take (i := 4) (v := ?_) rfl (by kernel_rfl) (by kernel_rfl) (by kernel_rfl) (fun _ _ _ h => h) (Or.inl ⟨by kernel_rfl, ?_⟩) HSW.out ?_
            rotate_left
            · intro w hS
              obtain ⟨e1, e2⟩ := hS
              go_simp
              try with_reducible rfl
            conv in (Act.put _ _ _) => simp only [List.getElem_toArray, List.getElem_cons_succ, List.getElem_cons_zero, Act.put, List.setIfInBounds_toArray, List.set_cons_succ, List.set_cons_zero]
            refine wpAnyH_take (i := 5) (v := ?_) rfl (by kernel_rfl) (by kernel_rfl) (by kernel_rfl) (fun _ _ _ h => h) (Or.inl ⟨by kernel_rfl, ?_⟩) HSW.out ?_
            rotate_left
            · intro w hS
              obtain ⟨e1, e2⟩ := hS
              go_simp
              try with_reducible rfl
            conv in (Act.put _ _ _) => simp only [List.getElem_toArray, List.getElem_cons_succ, List.getElem_cons_zero, Act.put, List.setIfInBounds_toArray, List.set_cons_succ, List.set_cons_zero]
            refine wpAnyH_take (i := 6) (v := undef) rfl (by kernel_rfl) (by kernel_rfl) (by kernel_rfl) (fun _ _ _ h => h) (Or.inr ⟨by kernel_rfl, rfl⟩) HSW.out ?_
            conv in (Act.put _ _ _) => simp only [List.getElem_toArray, List.getElem_cons_succ, List.getElem_cons_zero, Act.put, List.setIfInBounds_toArray, List.set_cons_succ, List.set_cons_zero]
            refine wpAnyH_take (i := 7) (v := undef) rfl (by kernel_rfl) (by kernel_rfl) (by kernel_rfl) (fun _ _ _ h => h) (Or.inr ⟨by kernel_rfl, rfl⟩) HSW.out ?_
            conv in (Act.put _ _ _) => simp only [List.getElem_toArray, List.getElem_cons_succ, List.getElem_cons_zero, Act.put, List.setIfInBounds_toArray, List.set_cons_succ, List.set_cons_zero]
            refine wpAnyH_take (i := 8) (v := undef) rfl (by kernel_rfl) (by kernel_rfl) (by kernel_rfl) (fun _ _ _ h => h) (Or.inr ⟨by kernel_rfl, rfl⟩) HSW.out ?_
            conv in (Act.put _ _ _) => simp only [List.getElem_toArray, List.getElem_cons_succ, List.getElem_cons_zero, Act.put, List.setIfInBounds_toArray, List.set_cons_succ, List.set_cons_zero]
            refine wpAnyH_take (i := 9) (v := undef) rfl (by kernel_rfl) (by kernel_rfl) (by kernel_rfl) (fun _ _ _ h => h) (Or.inr ⟨by kernel_rfl, rfl⟩) HSW.out ?_
            conv in (Act.put _ _ _) => simp only [List.getElem_toArray, List.getElem_cons_succ, List.getElem_cons_zero, Act.put, List.setIfInBounds_toArray, List.set_cons_succ, List.set_cons_zero]
            refine wpAnyH_take (i := 10) (v := undef) rfl (by kernel_rfl) (by kernel_rfl) (by kernel_rfl) (fun _ _ _ h => h) (Or.inr ⟨by kernel_rfl, rfl⟩) HSW.out ?_
            conv in (Act.put _ _ _) => simp only [List.getElem_toArray, List.getElem_cons_succ, List.getElem_cons_zero, Act.put, List.setIfInBounds_toArray, List.set_cons_succ, List.set_cons_zero]
            refine wpAnyH_take (i := 11) (v := undef) rfl (by kernel_rfl) (by kernel_rfl) (by kernel_rfl) (fun _ _ _ h => h) (Or.inr ⟨by kernel_rfl, rfl⟩) HSW.out ?_
            conv in (Act.put _ _ _) => simp only [List.getElem_toArray, List.getElem_cons_succ, List.getElem_cons_zero, Act.put, List.setIfInBounds_toArray, List.set_cons_succ, List.set_cons_zero]
            refine wpAnyH_take (i := 12) (v := undef) rfl (by kernel_rfl) (by kernel_rfl) (by kernel_rfl) (fun _ _ _ h => h) (Or.inr ⟨by kernel_rfl, rfl⟩) HSW.out ?_
            conv in (Act.put _ _ _) => simp only [List.getElem_toArray, List.getElem_cons_succ, List.getElem_cons_zero, Act.put, List.setIfInBounds_toArray, List.set_cons_succ, List.set_cons_zero]
            refine wpAnyH_take (i := 13) (v := undef) rfl (by kernel_rfl) (by kernel_rfl) (by kernel_rfl) (fun _ _ _ h => h) (Or.inr ⟨by kernel_rfl, rfl⟩) HSW.out ?_
            conv in (Act.put _ _ _) => simp only [List.getElem_toArray, List.getElem_cons_succ, List.getElem_cons_zero, Act.put, List.setIfInBounds_toArray, List.set_cons_succ, List.set_cons_zero]
            refine wpAnyH_take (i := 14) (v := undef) rfl (by kernel_rfl) (by kernel_rfl) (by kernel_rfl) (fun _ _ _ h => h) (Or.inr ⟨by kernel_rfl, rfl⟩) HSW.out ?_
            conv in (Act.put _ _ _) => simp only [List.getElem_toArray, List.getElem_cons_succ, List.getElem_cons_zero, Act.put, List.setIfInBounds_toArray, List.set_cons_succ, List.set_cons_zero]
            refine wpAnyH_take (i := 15) (v := undef) rfl (by kernel_rfl) (by kernel_rfl) (by kernel_rfl) (fun _ _ _ h => h) (Or.inr ⟨by kernel_rfl, rfl⟩) HSW.out ?_
            conv in (Act.put _ _ _) => simp only [List.getElem_toArray, List.getElem_cons_succ, List.getElem_cons_zero, Act.put, List.setIfInBounds_toArray, List.set_cons_succ, List.set_cons_zero]
            refine wpAnyH_take (i := 16) (v := undef) rfl (by kernel_rfl) (by kernel_rfl) (by kernel_rfl) (fun _ _ _ h => h) (Or.inr ⟨by kernel_rfl, rfl⟩) HSW.out ?_
            conv in (Act.put _ _ _) => simp only [List.getElem_toArray, List.getElem_cons_succ, List.getElem_cons_zero, Act.put, List.setIfInBounds_toArray, List.set_cons_succ, List.set_cons_zero]
            refine wpAnyH_take (i := 17) (v := undef) rfl (by kernel_rfl) (by kernel_rfl) (by kernel_rfl) (fun _ _ _ h => h) (Or.inr ⟨by kernel_rfl, rfl⟩) HSW.out ?_
            conv in (Act.put _ _ _) => simp only [List.getElem_toArray, List.getElem_cons_succ, List.getElem_cons_zero, Act.put, List.setIfInBounds_toArray, List.set_cons_succ, List.set_cons_zero]
            refine wpAnyH_take (i := 18) (v := ?_) rfl (by kernel_rfl) (by kernel_rfl) (by kernel_rfl) (fun _ _ _ h => h) (Or.inl ⟨by kernel_rfl, ?_⟩) HSW.out ?_
            rotate_left
            · intro w hS
              obtain ⟨e1, e2⟩ := hS
              go_simp
              try with_reducible rfl
            conv in (Act.put _ _ _) => simp only [List.getElem_toArray, List.getElem_cons_succ, List.getElem_cons_zero, Act.put, List.setIfInBounds_toArray, List.set_cons_succ, List.set_cons_zero]
            refine wpAnyH_take (i := 19) (v := ?_) rfl (by kernel_rfl) (by kernel_rfl) (by kernel_rfl) (fun _ _ _ h => h) (Or.inl ⟨by kernel_rfl, ?_⟩) HSW.out ?_
            rotate_left
            · intro w hS
              obtain ⟨e1, e2⟩ := hS
              go_simp
              try with_reducible rfl
            conv in (Act.put _ _ _) => simp only [List.getElem_toArray, List.getElem_cons_succ, List.getElem_cons_zero, Act.put, List.setIfInBounds_toArray, List.set_cons_succ, List.set_cons_zero]
            refine wpAnyH_done (by kernel_rfl) ?_ _
            go_wp2_with fail
            go_roundw
            case rel => exact ⟨k + 1, by omega, by go_num, HJ1.out, HB1.out.drew⟩
            case measure => simp [natOf]; omega
          · obtain ⟨m, hm⟩ : ∃ m, k = m + 1 := ⟨k - 1, by omega⟩
            have HP := HFr.out m (by omega)
            obtain ⟨c4, _, _, _⟩ := HP
            have HAt := rightAt_iff l k
            rw [HR.out, show k - 1 = m by omega] at HAt
            generalize (rat l m).id = pid at *
            have l1 : (k : Int) - 1 = (m : Int) := by omega
            have l3 : (m : Int) < (l.length : Int) := by omega
            have l2 : IntKind.i64.wrap (m : Int) = (m : Int) := wrap_i64 (by omega) (by omega)
            have q2 : decide (0 < k) = true := decide_eq_true (by omega)
            have HI : Hid (I2 b (off + m * 4) (off + k * 4) pid id wr) := ⟨c4, HC0.out⟩
            have HBL : Hid (b < wr.heap.size) := hbl
            have HJ2 : Hid (∀ j, j < k → rightAt l j = true) := HJ.out
            have HM : Hid (k = m + 1) := hm
            clear c4 hm hk0
            by_cases hid : pid < id
            · have q3 : decide (id ≤ pid) = false := decide_eq_false (by omega)
              have HJ1 : Hid (∀ j, j < k + 1 → rightAt l j = true) := by
                refine fun j hj => ?_
                by_cases e : j = k
                · subst e; exact HAt.2 ⟨hrr, fun _ => hid⟩
                · exact HJ2.out j (by omega)
              clear HAt hid
              go_wp2_with fail
              refine (HC.out _).mono ?_
              rintro e w1 ⟨rfl, b1⟩
              have HB1 : Hid (Below w.heap.size w w1) := HB.out.trans (b1.mono (by omega))
              have HSW : Hid (I2 b (off + m * 4) (off + k * 4) pid id w1.drew) := HI.out.same (b1.block b HBL.out)
              clear b1 c0 c1 c2 c3
              go_wp2_with fail
              refine wp_region_held (S := I2 b (off + m * 4) (off + k * 4) pid id) (by kernel_rfl) ?_
              change wpAnyH _ _ _ _ _ _ _ _ (World.drew _)
              refine wpAnyH_take (i := 0) (v := ?_) rfl (by kernel_rfl) (by kernel_rfl) (by kernel_rfl) (fun _ _ _ h => h) (Or.inl ⟨by kernel_rfl, ?_⟩) HSW.out ?_
              rotate_left
              · intro w hS
                obtain ⟨e1, e2⟩ := hS
                go_simp
                try with_reducible rfl
              conv in (Act.put _ _ _) => simp only [List.getElem_toArray, List.getElem_cons_succ, List.getElem_cons_zero, Act.put, List.setIfInBounds_toArray, List.set_cons_succ, List.set_cons_zero]
              refine wpAnyH_take (i := 1) (v := ?_) rfl (by kernel_rfl) (by kernel_rfl) (by kernel_rfl) (fun _ _ _ h => h) (Or.inl ⟨by kernel_rfl, ?_⟩) HSW.out ?_
              rotate_left
              · intro w hS
                obtain ⟨e1, e2⟩ := hS
                go_simp
                try with_reducible rfl
              conv in (Act.put _ _ _) => simp only [List.getElem_toArray, List.getElem_cons_succ, List.getElem_cons_zero, Act.put, List.setIfInBounds_toArray, List.set_cons_succ, List.set_cons_zero]
              refine wpAnyH_take (i := 2) (v := ?_) rfl (by kernel_rfl) (by kernel_rfl) (by kernel_rfl) (fun _ _ _ h => h) (Or.inl ⟨by kernel_rfl, ?_⟩) HSW.out ?_
              rotate_left
              · intro w hS
                obtain ⟨e1, e2⟩ := hS
                go_simp
                try with_reducible rfl
              conv in (Act.put _ _ _) => simp only [List.getElem_toArray, List.getElem_cons_succ, List.getElem_cons_zero, Act.put, List.setIfInBounds_toArray, List.set_cons_succ, List.set_cons_zero]
              refine wpAnyH_take (i := 3) (v := ?_) rfl (by kernel_rfl) (by kernel_rfl) (by kernel_rfl) (fun _ _ _ h => h) (Or.inl ⟨by kernel_rfl, ?_⟩) HSW.out ?_
              rotate_left
              · intro w hS
                obtain ⟨e1, e2⟩ := hS
                go_simp
                try with_reducible rfl
              conv in (Act.put _ _ _) => simp only [List.getElem_toArray, List.getElem_cons_succ, List.getElem_cons_zero, Act.put, List.setIfInBounds_toArray, List.set_cons_succ, List.set_cons_zero]
              refine wpAnyH_take (i := 4) (v := ?_) rfl (by kernel_rfl) (by kernel_rfl) (by kernel_rfl) (fun _ _ _ h => h) (Or.inl ⟨by kernel_rfl, ?_⟩) HSW.out ?_
              rotate_left
              · intro w hS
                obtain ⟨e1, e2⟩ := hS
                go_simp
                try with_reducible rfl
              conv in (Act.put _ _ _) => simp only [List.getElem_toArray, List.getElem_cons_succ, List.getElem_cons_zero, Act.put, List.setIfInBounds_toArray, List.set_cons_succ, List.set_cons_zero]
              refine wpAnyH_take (i := 5) (v := ?_) rfl (by kernel_rfl) (by kernel_rfl) (by kernel_rfl) (fun _ _ _ h => h) (Or.inl ⟨by kernel_rfl, ?_⟩) HSW.out ?_
              rotate_left
              · intro w hS
                obtain ⟨e1, e2⟩ := hS
                go_simp
                try with_reducible rfl
              conv in (Act.put _ _ _) => simp only [List.getElem_toArray, List.getElem_cons_succ, List.getElem_cons_zero, Act.put, List.setIfInBounds_toArray, List.set_cons_succ, List.set_cons_zero]
              refine wpAnyH_take (i := 6) (v := ?_) rfl (by kernel_rfl) (by kernel_rfl) (by kernel_rfl) (fun _ _ _ h => h) (Or.inl ⟨by kernel_rfl, ?_⟩) HSW.out ?_
              rotate_left
              · intro w hS
                obtain ⟨e1, e2⟩ := hS
                go_simp
                try with_reducible rfl
              conv in (Act.put _ _ _) => simp only [List.getElem_toArray, List.getElem_cons_succ, List.getElem_cons_zero, Act.put, List.setIfInBounds_toArray, List.set_cons_succ, List.set_cons_zero]
              refine wpAnyH_take (i := 7) (v := ?_) rfl (by kernel_rfl) (by kernel_rfl) (by kernel_rfl) (fun _ _ _ h => h) (Or.inl ⟨by kernel_rfl, ?_⟩) HSW.out ?_
              rotate_left
              · intro w hS
                obtain ⟨e1, e2⟩ := hS
                go_simp
                try with_reducible rfl
              conv in (Act.put _ _ _) => simp only [List.getElem_toArray, List.getElem_cons_succ, List.getElem_cons_zero, Act.put, List.setIfInBounds_toArray, List.set_cons_succ, List.set_cons_zero]
              refine wpAnyH_take (i := 8) (v := ?_) rfl (by kernel_rfl) (by kernel_rfl) (by kernel_rfl) (fun _ _ _ h => h) (Or.inl ⟨by kernel_rfl, ?_⟩) HSW.out ?_
              rotate_left
              · intro w hS
                obtain ⟨e1, e2⟩ := hS
                go_simp
                try with_reducible rfl
              conv in (Act.put _ _ _) => simp only [List.getElem_toArray, List.getElem_cons_succ, List.getElem_cons_zero, Act.put, List.setIfInBounds_toArray, List.set_cons_succ, List.set_cons_zero]
              refine wpAnyH_take (i := 9) (v := ?_) rfl (by kernel_rfl) (by kernel_rfl) (by kernel_rfl) (fun _ _ _ h => h) (Or.inl ⟨by kernel_rfl, ?_⟩) HSW.out ?_
              rotate_left
              · intro w hS
                obtain ⟨e1, e2⟩ := hS
                go_simp
                try with_reducible rfl
              conv in (Act.put _ _ _) => simp only [List.getElem_toArray, List.getElem_cons_succ, List.getElem_cons_zero, Act.put, List.setIfInBounds_toArray, List.set_cons_succ, List.set_cons_zero]
              refine wpAnyH_take (i := 10) (v := ?_) rfl (by kernel_rfl) (by kernel_rfl) (by kernel_rfl) (fun _ _ _ h => h) (Or.inl ⟨by kernel_rfl, ?_⟩) HSW.out ?_
              rotate_left
              · intro w hS
                obtain ⟨e1, e2⟩ := hS
                go_simp
                try with_reducible rfl
              conv in (Act.put _ _ _) => simp only [List.getElem_toArray, List.getElem_cons_succ, List.getElem_cons_zero, Act.put, List.setIfInBounds_toArray, List.set_cons_succ, List.set_cons_zero]
              refine wpAnyH_take (i := 11) (v := ?_) rfl (by kernel_rfl) (by kernel_rfl) (by kernel_rfl) (fun _ _ _ h => h) (Or.inl ⟨by kernel_rfl, ?_⟩) HSW.out ?_
              rotate_left
              · intro w hS
                obtain ⟨e1, e2⟩ := hS
                go_simp
                try with_reducible rfl
              conv in (Act.put _ _ _) => simp only [List.getElem_toArray, List.getElem_cons_succ, List.getElem_cons_zero, Act.put, List.setIfInBounds_toArray, List.set_cons_succ, List.set_cons_zero]
              refine wpAnyH_take (i := 12) (v := ?_) rfl (by kernel_rfl) (by kernel_rfl) (by kernel_rfl) (fun _ _ _ h => h) (Or.inl ⟨by kernel_rfl, ?_⟩) HSW.out ?_
              rotate_left
              · intro w hS
                obtain ⟨e1, e2⟩ := hS
                go_simp
                try with_reducible rfl
              conv in (Act.put _ _ _) => simp only [List.getElem_toArray, List.getElem_cons_succ, List.getElem_cons_zero, Act.put, List.setIfInBounds_toArray, List.set_cons_succ, List.set_cons_zero]
              refine wpAnyH_take (i := 13) (v := ?_) rfl (by kernel_rfl) (by kernel_rfl) (by kernel_rfl) (fun _ _ _ h => h) (Or.inl ⟨by kernel_rfl, ?_⟩) HSW.out ?_
              rotate_left
              · intro w hS
                obtain ⟨e1, e2⟩ := hS
                go_simp
                try with_reducible rfl
              conv in (Act.put _ _ _) => simp only [List.getElem_toArray, List.getElem_cons_succ, List.getElem_cons_zero, Act.put, List.setIfInBounds_toArray, List.set_cons_succ, List.set_cons_zero]
              refine wpAnyH_take (i := 14) (v := ?_) rfl (by kernel_rfl) (by kernel_rfl) (by kernel_rfl) (fun _ _ _ h => h) (Or.inl ⟨by kernel_rfl, ?_⟩) HSW.out ?_
              rotate_left
              · intro w hS
                obtain ⟨e1, e2⟩ := hS
                go_simp
                try with_reducible rfl
              conv in (Act.put _ _ _) => simp only [List.getElem_toArray, List.getElem_cons_succ, List.getElem_cons_zero, Act.put, List.setIfInBounds_toArray, List.set_cons_succ, List.set_cons_zero]
              refine wpAnyH_take (i := 15) (v := ?_) rfl (by kernel_rfl) (by kernel_rfl) (by kernel_rfl) (fun _ _ _ h => h) (Or.inl ⟨by kernel_rfl, ?_⟩) HSW.out ?_
              rotate_left
              · intro w hS
                obtain ⟨e1, e2⟩ := hS
                go_simp
                try with_reducible rfl
              conv in (Act.put _ _ _) => simp only [List.getElem_toArray, List.getElem_cons_succ, List.getElem_cons_zero, Act.put, List.setIfInBounds_toArray, List.set_cons_succ, List.set_cons_zero]
              refine wpAnyH_take (i := 16) (v := ?_) rfl (by kernel_rfl) (by kernel_rfl) (by kernel_rfl) (fun _ _ _ h => h) (Or.inl ⟨by kernel_rfl, ?_⟩) HSW.out ?_
              rotate_left
              · intro w hS
                obtain ⟨e1, e2⟩ := hS
                go_simp
                try with_reducible rfl
              conv in (Act.put _ _ _) => simp only [List.getElem_toArray, List.getElem_cons_succ, List.getElem_cons_zero, Act.put, List.setIfInBounds_toArray, List.set_cons_succ, List.set_cons_zero]
              refine wpAnyH_take (i := 17) (v := ?_) rfl (by kernel_rfl) (by kernel_rfl) (by kernel_rfl) (fun _ _ _ h => h) (Or.inl ⟨by kernel_rfl, ?_⟩) HSW.out ?_
              rotate_left
              · intro w hS
                obtain ⟨e1, e2⟩ := hS
                go_simp
                try with_reducible rfl
              conv in (Act.put _ _ _) => simp only [List.getElem_toArray, List.getElem_cons_succ, List.getElem_cons_zero, Act.put, List.setIfInBounds_toArray, List.set_cons_succ, List.set_cons_zero]
              refine wpAnyH_take (i := 18) (v := ?_) rfl (by kernel_rfl) (by kernel_rfl) (by kernel_rfl) (fun _ _ _ h => h) (Or.inl ⟨by kernel_rfl, ?_⟩) HSW.out ?_
              rotate_left
              · intro w hS
                obtain ⟨e1, e2⟩ := hS
                go_simp
                try with_reducible rfl
              conv in (Act.put _ _ _) => simp only [List.getElem_toArray, List.getElem_cons_succ, List.getElem_cons_zero, Act.put, List.setIfInBounds_toArray, List.set_cons_succ, List.set_cons_zero]
              refine wpAnyH_take (i := 19) (v := ?_) rfl (by kernel_rfl) (by kernel_rfl) (by kernel_rfl) (fun _ _ _ h => h) (Or.inl ⟨by kernel_rfl, ?_⟩) HSW.out ?_
              rotate_left
              · intro w hS
                obtain ⟨e1, e2⟩ := hS
                go_simp
                try with_reducible rfl
              conv in (Act.put _ _ _) => simp only [List.getElem_toArray, List.getElem_cons_succ, List.getElem_cons_zero, Act.put, List.setIfInBounds_toArray, List.set_cons_succ, List.set_cons_zero]
              refine wpAnyH_done (by kernel_rfl) ?_ _
              go_wp2_with fail
              go_roundw
              case rel => exact ⟨k + 1, by omega, by go_num, HJ1.out, HB1.out.drew⟩
              case measure => simp [natOf]; omega
            · have q3 : decide (id ≤ pid) = true := decide_eq_true (by omega)
              have HE : Hid (rightL l = false) := by
                refine (?_ : rightL l = false)
                cases e : rightL l
                · rfl
                · exact absurd ((HAt.1 (((rightL_iff l).1 e).2 k hlt)).2 (by have := HM.out; omega)) hid
              clear HAt hid
              go_wp2_with fail
              refine (HC.out _).mono ?_
              rintro e w1 ⟨rfl, b1⟩
              have HB1 : Hid (Below w.heap.size w w1) := HB.out.trans (b1.mono (by omega))
              have HSW : Hid (I2 b (off + m * 4) (off + k * 4) pid id w1.drew) := HI.out.same (b1.block b HBL.out)
              clear b1 c0 c1 c2 c3
              go_wp2_with fail
              refine wp_region_held (S := I2 b (off + m * 4) (off + k * 4) pid id) (by kernel_rfl) ?_
              change wpAnyH _ _ _ _ _ _ _ _ (World.drew _)
              refine wpAnyH_take (i := 0) (v := ?_) rfl (by kernel_rfl) (by kernel_rfl) (by kernel_rfl) (fun _ _ _ h => h) (Or.inl ⟨by kernel_rfl, ?_⟩) HSW.out ?_
              rotate_left
              · intro w hS
                obtain ⟨e1, e2⟩ := hS
                go_simp
                try with_reducible rfl
              conv in (Act.put _ _ _) => simp only [List.getElem_toArray, List.getElem_cons_succ, List.getElem_cons_zero, Act.put, List.setIfInBounds_toArray, List.set_cons_succ, List.set_cons_zero]
              refine wpAnyH_take (i := 1) (v := ?_) rfl (by kernel_rfl) (by kernel_rfl) (by kernel_rfl) (fun _ _ _ h => h) (Or.inl ⟨by kernel_rfl, ?_⟩) HSW.out ?_
              rotate_left
              · intro w hS
                obtain ⟨e1, e2⟩ := hS
                go_simp
                try with_reducible rfl
              conv in (Act.put _ _ _) => simp only [List.getElem_toArray, List.getElem_cons_succ, List.getElem_cons_zero, Act.put, List.setIfInBounds_toArray, List.set_cons_succ, List.set_cons_zero]
              refine wpAnyH_take (i := 2) (v := ?_) rfl (by kernel_rfl) (by kernel_rfl) (by kernel_rfl) (fun _ _ _ h => h) (Or.inl ⟨by kernel_rfl, ?_⟩) HSW.out ?_
              rotate_left
              · intro w hS
                obtain ⟨e1, e2⟩ := hS
                go_simp
                try with_reducible rfl
              conv in (Act.put _ _ _) => simp only [List.getElem_toArray, List.getElem_cons_succ, List.getElem_cons_zero, Act.put, List.setIfInBounds_toArray, List.set_cons_succ, List.set_cons_zero]
              refine wpAnyH_take (i := 3) (v := ?_) rfl (by kernel_rfl) (by kernel_rfl) (by kernel_rfl) (fun _ _ _ h => h) (Or.inl ⟨by kernel_rfl, ?_⟩) HSW.out ?_
              rotate_left
              · intro w hS
                obtain ⟨e1, e2⟩ := hS
                go_simp
                try with_reducible rfl
              conv in (Act.put _ _ _) => simp only [List.getElem_toArray, List.getElem_cons_succ, List.getElem_cons_zero, Act.put, List.setIfInBounds_toArray, List.set_cons_succ, List.set_cons_zero]
              refine wpAnyH_take (i := 4) (v := ?_) rfl (by kernel_rfl) (by kernel_rfl) (by kernel_rfl) (fun _ _ _ h => h) (Or.inl ⟨by kernel_rfl, ?_⟩) HSW.out ?_
              rotate_left
              · intro w hS
                obtain ⟨e1, e2⟩ := hS
                go_simp
                try with_reducible rfl
              conv in (Act.put _ _ _) => simp only [List.getElem_toArray, List.getElem_cons_succ, List.getElem_cons_zero, Act.put, List.setIfInBounds_toArray, List.set_cons_succ, List.set_cons_zero]
              refine wpAnyH_take (i := 5) (v := ?_) rfl (by kernel_rfl) (by kernel_rfl) (by kernel_rfl) (fun _ _ _ h => h) (Or.inl ⟨by kernel_rfl, ?_⟩) HSW.out ?_
              rotate_left
              · intro w hS
                obtain ⟨e1, e2⟩ := hS
                go_simp
                try with_reducible rfl
              conv in (Act.put _ _ _) => simp only [List.getElem_toArray, List.getElem_cons_succ, List.getElem_cons_zero, Act.put, List.setIfInBounds_toArray, List.set_cons_succ, List.set_cons_zero]
              refine wpAnyH_take (i := 6) (v := ?_) rfl (by kernel_rfl) (by kernel_rfl) (by kernel_rfl) (fun _ _ _ h => h) (Or.inl ⟨by kernel_rfl, ?_⟩) HSW.out ?_
              rotate_left
              · intro w hS
                obtain ⟨e1, e2⟩ := hS
                go_simp
                try with_reducible rfl
              conv in (Act.put _ _ _) => simp only [List.getElem_toArray, List.getElem_cons_succ, List.getElem_cons_zero, Act.put, List.setIfInBounds_toArray, List.set_cons_succ, List.set_cons_zero]
              refine wpAnyH_take (i := 7) (v := ?_) rfl (by kernel_rfl) (by kernel_rfl) (by kernel_rfl) (fun _ _ _ h => h) (Or.inl ⟨by kernel_rfl, ?_⟩) HSW.out ?_
              rotate_left
              · intro w hS
                obtain ⟨e1, e2⟩ := hS
                go_simp
                try with_reducible rfl
              conv in (Act.put _ _ _) => simp only [List.getElem_toArray, List.getElem_cons_succ, List.getElem_cons_zero, Act.put, List.setIfInBounds_toArray, List.set_cons_succ, List.set_cons_zero]
              refine wpAnyH_take (i := 8) (v := ?_) rfl (by kernel_rfl) (by kernel_rfl) (by kernel_rfl) (fun _ _ _ h => h) (Or.inl ⟨by kernel_rfl, ?_⟩) HSW.out ?_
              rotate_left
              · intro w hS
                obtain ⟨e1, e2⟩ := hS
                go_simp
                try with_reducible rfl
              conv in (Act.put _ _ _) => simp only [List.getElem_toArray, List.getElem_cons_succ, List.getElem_cons_zero, Act.put, List.setIfInBounds_toArray, List.set_cons_succ, List.set_cons_zero]
              refine wpAnyH_take (i := 9) (v := ?_) rfl (by kernel_rfl) (by kernel_rfl) (by kernel_rfl) (fun _ _ _ h => h) (Or.inl ⟨by kernel_rfl, ?_⟩) HSW.out ?_
              rotate_left
              · intro w hS
                obtain ⟨e1, e2⟩ := hS
                go_simp
                try with_reducible rfl
              conv in (Act.put _ _ _) => simp only [List.getElem_toArray, List.getElem_cons_succ, List.getElem_cons_zero, Act.put, List.setIfInBounds_toArray, List.set_cons_succ, List.set_cons_zero]
              refine wpAnyH_take (i := 10) (v := ?_) rfl (by kernel_rfl) (by kernel_rfl) (by kernel_rfl) (fun _ _ _ h => h) (Or.inl ⟨by kernel_rfl, ?_⟩) HSW.out ?_
              rotate_left
              · intro w hS
                obtain ⟨e1, e2⟩ := hS
                go_simp
                try with_reducible rfl
              conv in (Act.put _ _ _) => simp only [List.getElem_toArray, List.getElem_cons_succ, List.getElem_cons_zero, Act.put, List.setIfInBounds_toArray, List.set_cons_succ, List.set_cons_zero]
              refine wpAnyH_take (i := 11) (v := ?_) rfl (by kernel_rfl) (by kernel_rfl) (by kernel_rfl) (fun _ _ _ h => h) (Or.inl ⟨by kernel_rfl, ?_⟩) HSW.out ?_
              rotate_left
              · intro w hS
                obtain ⟨e1, e2⟩ := hS
                go_simp
                try with_reducible rfl
              conv in (Act.put _ _ _) => simp only [List.getElem_toArray, List.getElem_cons_succ, List.getElem_cons_zero, Act.put, List.setIfInBounds_toArray, List.set_cons_succ, List.set_cons_zero]
              refine wpAnyH_take (i := 12) (v := ?_) rfl (by kernel_rfl) (by kernel_rfl) (by kernel_rfl) (fun _ _ _ h => h) (Or.inl ⟨by kernel_rfl, ?_⟩) HSW.out ?_
              rotate_left
              · intro w hS
                obtain ⟨e1, e2⟩ := hS
                go_simp
                try with_reducible rfl
              conv in (Act.put _ _ _) => simp only [List.getElem_toArray, List.getElem_cons_succ, List.getElem_cons_zero, Act.put, List.setIfInBounds_toArray, List.set_cons_succ, List.set_cons_zero]
              refine wpAnyH_take (i := 13) (v := ?_) rfl (by kernel_rfl) (by kernel_rfl) (by kernel_rfl) (fun _ _ _ h => h) (Or.inl ⟨by kernel_rfl, ?_⟩) HSW.out ?_
              rotate_left
              · intro w hS
                obtain ⟨e1, e2⟩ := hS
                go_simp
                try with_reducible rfl
              conv in (Act.put _ _ _) => simp only [List.getElem_toArray, List.getElem_cons_succ, List.getElem_cons_zero, Act.put, List.setIfInBounds_toArray, List.set_cons_succ, List.set_cons_zero]
              refine wpAnyH_take (i := 14) (v := ?_) rfl (by kernel_rfl) (by kernel_rfl) (by kernel_rfl) (fun _ _ _ h => h) (Or.inl ⟨by kernel_rfl, ?_⟩) HSW.out ?_
              rotate_left
              · intro w hS
                obtain ⟨e1, e2⟩ := hS
                go_simp
                try with_reducible rfl
              conv in (Act.put _ _ _) => simp only [List.getElem_toArray, List.getElem_cons_succ, List.getElem_cons_zero, Act.put, List.setIfInBounds_toArray, List.set_cons_succ, List.set_cons_zero]
              refine wpAnyH_take (i := 15) (v := ?_) rfl (by kernel_rfl) (by kernel_rfl) (by kernel_rfl) (fun _ _ _ h => h) (Or.inl ⟨by kernel_rfl, ?_⟩) HSW.out ?_
              rotate_left
              · intro w hS
                obtain ⟨e1, e2⟩ := hS
                go_simp
                try with_reducible rfl
              conv in (Act.put _ _ _) => simp only [List.getElem_toArray, List.getElem_cons_succ, List.getElem_cons_zero, Act.put, List.setIfInBounds_toArray, List.set_cons_succ, List.set_cons_zero]
              refine wpAnyH_take (i := 16) (v := ?_) rfl (by kernel_rfl) (by kernel_rfl) (by kernel_rfl) (fun _ _ _ h => h) (Or.inl ⟨by kernel_rfl, ?_⟩) HSW.out ?_
              rotate_left
              · intro w hS
                obtain ⟨e1, e2⟩ := hS
                go_simp
                try with_reducible rfl
              conv in (Act.put _ _ _) => simp only [List.getElem_toArray, List.getElem_cons_succ, List.getElem_cons_zero, Act.put, List.setIfInBounds_toArray, List.set_cons_succ, List.set_cons_zero]
              refine wpAnyH_take (i := 17) (v := ?_) rfl (by kernel_rfl) (by kernel_rfl) (by kernel_rfl) (fun _ _ _ h => h) (Or.inl ⟨by kernel_rfl, ?_⟩) HSW.out ?_
              rotate_left
              · intro w hS
                obtain ⟨e1, e2⟩ := hS
                go_simp
                try with_reducible rfl
              conv in (Act.put _ _ _) => simp only [List.getElem_toArray, List.getElem_cons_succ, List.getElem_cons_zero, Act.put, List.setIfInBounds_toArray, List.set_cons_succ, List.set_cons_zero]
              refine wpAnyH_take (i := 18) (v := ?_) rfl (by kernel_rfl) (by kernel_rfl) (by kernel_rfl) (fun _ _ _ h => h) (Or.inl ⟨by kernel_rfl, ?_⟩) HSW.out ?_
              rotate_left
              · intro w hS
                obtain ⟨e1, e2⟩ := hS
                go_simp
                try with_reducible rfl
              conv in (Act.put _ _ _) => simp only [List.getElem_toArray, List.getElem_cons_succ, List.getElem_cons_zero, Act.put, List.setIfInBounds_toArray, List.set_cons_succ, List.set_cons_zero]
              refine wpAnyH_take (i := 19) (v := ?_) rfl (by kernel_rfl) (by kernel_rfl) (by kernel_rfl) (fun _ _ _ h => h) (Or.inl ⟨by kernel_rfl, ?_⟩) HSW.out ?_
              rotate_left
              · intro w hS
                obtain ⟨e1, e2⟩ := hS
                go_simp
                try with_reducible rfl
              conv in (Act.put _ _ _) => simp only [List.getElem_toArray, List.getElem_cons_succ, List.getElem_cons_zero, Act.put, List.setIfInBounds_toArray, List.set_cons_succ, List.set_cons_zero]
              refine wpAnyH_done (by kernel_rfl) ?_ _
              go_wp2_with fail
              go_ret
              exact ⟨by rw [HE.out]; rfl, HB1.out.drew⟩
      · obtain rfl : k = l.length := by omega
        have q1 : ¬ (l.length : Int) < (l.length : Int) := by omega
        have HB : Hid (Below w.heap.size w wr) := hb
        have HE : Hid (rightL l = true) := (rightL_iff l).2 ⟨by omega, hj⟩
        clear hb hj
        go_wp2_with fail
        go_ret
        exact ⟨by rw [HE.out]; rfl, HB.out⟩
end Go.Proofs.Ythneciodobeehaa.Rq
