/- The reference: lists of rows that are the same, trees that are the same. -/
import Derived.Test.YtljponlfjombaaaPGC
namespace Go.Proofs.Ytljponlfjombaaa.Rq
open Go.RowKit Go.Lib Go.Shelf
open Go.Proofs.Ytljponlfjombaaa.Rc
set_option maxRecDepth 100000 in
theorem eql_self (a b c : Int) (s : ByteArray) (w : World) : (binOp .eql 47 (.agg #[.int .u64 a, .int .u32 b, .int .u32 c, .string s]) (.agg #[.int .u64 a, .int .u32 b, .int .u32 c, .string s])).run Try.prog w = .ok (.bool true) w := by
  have hS : Try.prog.underlying 47 = some (.struct (Try.prog.fieldsOf 47)) := by kernel_rfl
  have hp : Try.prog.stoodInHeld 47 = false := by kernel_rfl
  have u1 := Try.underlying45
  have u2 := Try.underlying22
  have u9 := Try.underlying9
  rw [run_eql_struct, show (10000 : Nat) = 9999 + 1 from rfl, run_equalIn_agg w 9999 47 _ _ hS hp]
  simp only [Program.fieldsOf, Try.underlying47]
  go_simp
set_option maxRecDepth 100000 in
theorem neq_self (a b c : Int) (s : ByteArray) (w : World) : (binOp .neq 47 (.agg #[.int .u64 a, .int .u32 b, .int .u32 c, .string s]) (.agg #[.int .u64 a, .int .u32 b, .int .u32 c, .string s])).run Try.prog w = .ok (.bool false) w := by
  have h := eql_self a b c s w
  rw [run_eql_struct] at h
  rw [run_neq_struct]
  cases e : (Op.equalIn 10000 47 (.agg #[.int .u64 a, .int .u32 b, .int .u32 c, .string s]) (.agg #[.int .u64 a, .int .u32 b, .int .u32 c, .string s])).run Try.prog w with
  | ok b w' => rw [e] at h; simp [Result.andThen] at h ⊢; simp [h]
  | _ => rw [e] at h; simp [Result.andThen] at h
set_option maxRecDepth 100000 in
theorem eql_cell (a b c : Int) (w : World) : (binOp .eql 24 (.agg #[.int .u32 a, .int .u32 b, .int .i64 c]) (.agg #[.int .u32 a, .int .u32 b, .int .i64 c])).run Try.prog w = .ok (.bool true) w := by
  have hS : Try.prog.underlying 24 = some (.struct (Try.prog.fieldsOf 24)) := by kernel_rfl
  have hp : Try.prog.stoodInHeld 24 = false := by kernel_rfl
  have u2 := Try.underlying22
  have u3 := Try.underlying3
  rw [run_eql_struct, show (10000 : Nat) = 9999 + 1 from rfl, run_equalIn_agg w 9999 24 _ _ hS hp]
  simp only [Program.fieldsOf, Try.underlying24]
  go_simp
set_option maxRecDepth 100000 in
theorem neq_cell (a b c : Int) (w : World) : (binOp .neq 24 (.agg #[.int .u32 a, .int .u32 b, .int .i64 c]) (.agg #[.int .u32 a, .int .u32 b, .int .i64 c])).run Try.prog w = .ok (.bool false) w := by
  have h := eql_cell a b c w
  rw [run_eql_struct] at h
  rw [run_neq_struct]
  cases e : (Op.equalIn 10000 24 (.agg #[.int .u32 a, .int .u32 b, .int .i64 c]) (.agg #[.int .u32 a, .int .u32 b, .int .i64 c])).run Try.prog w with
  | ok b w' => rw [e] at h; simp [Result.andThen] at h ⊢; simp [h]
  | _ => rw [e] at h; simp [Result.andThen] at h
def F8 (b x p y : Nat) (r : Rw) (w : World) : Prop := Fr w b x r ∧ Fr w p y r
set_option maxRecDepth 100000 in
set_option maxHeartbeats 2000000 in
theorem same_any (l : List Rw) (o : Option Addr) (cap : Nat) (o2 : Option Addr) (cap2 : Nat) (w : World) (hr : RowsAt w o cap l) (hr2 : RowsAt w o2 cap2 l) :
    Calls Try.prog 33 #[.slice o l.length cap, .slice o2 l.length cap2] w fun e w' => e = .returned (.bool true) ∧ Below w.heap.size w w' := by
  have q0 : ¬ (l.length : Int) ≠ (l.length : Int) := by omega
  have hmx : l.length ≤ maxLen := Nat.le_trans hr.1 hr.2.1
  go_enter Try.func33, Try.ntmps33
  go_wp2_with fail
  go_loopw [5] (fun i wr => ∃ k : Nat, k ≤ l.length ∧ i = .int .i64 (k : Int) ∧ Below w.heap.size w wr) (fun i _ => l.length - natOf i)
  case atStart => exact ⟨0, by omega, rfl, Below.refl _ _⟩
  case round =>
    obtain ⟨k, hk, rfl, hb⟩ := hrel
    by_cases hlt : k < l.length
    · obtain ⟨b, off, rfl, hbl, hc⟩ := (hr.below hb (Nat.le_refl _)).row hlt
      obtain ⟨b2, off2, rfl, hbl2, hc2⟩ := (hr2.below hb (Nat.le_refl _)).row hlt
      have q1 : (k : Int) < (l.length : Int) := by omega
      have k0 : (0 : Int) ≤ (k : Int) := by omega
      have k1 : (k : Int) + 1 ≤ 9223372036854775807 := by simp only [maxLen] at hmx; omega
      have HSW : Hid (F8 b (off + k * 4) b2 (off2 + k * 4) (rat l k) wr.drew) := ⟨hc k hlt, hc2 k hlt⟩
      generalize rat l k = r at *
      obtain ⟨id, x, y, v⟩ := r
      have hnq := neq_self (id : Int) (x : Int) (y : Int) v
      have HB : Hid (Below w.heap.size w wr.drew) := hb.drew
      clear hc hc2 hb
      go_wp2_with fail
      refine wp_region_held (S := F8 b (off + k * 4) b2 (off2 + k * 4) ⟨id, x, y, v⟩) (by kernel_rfl) ?_
      change wpAnyH _ _ _ _ _ _ _ _ (World.drew _)
      refine wpAnyH_take (i := 0) (v := ?_) rfl (by kernel_rfl) (by kernel_rfl) (by kernel_rfl) (fun _ _ _ h => h) (Or.inl ⟨by kernel_rfl, ?_⟩) HSW.out ?_
      rotate_left
      · intro w hS
        obtain ⟨⟨e1, e2, e3, e4⟩, e5, e6, e7, e8⟩ := hS
        go_simp
        try with_reducible rfl
      conv in (Act.put _ _ _) => simp only [List.getElem_toArray, List.getElem_cons_succ, List.getElem_cons_zero, Act.put, List.setIfInBounds_toArray, List.set_cons_succ, List.set_cons_zero]
      refine wpAnyH_take (i := 1) (v := ?_) rfl (by kernel_rfl) (by kernel_rfl) (by kernel_rfl) (fun _ _ _ h => h) (Or.inl ⟨by kernel_rfl, ?_⟩) HSW.out ?_
      rotate_left
      · intro w hS
        obtain ⟨⟨e1, e2, e3, e4⟩, e5, e6, e7, e8⟩ := hS
        go_simp
        try with_reducible rfl
      conv in (Act.put _ _ _) => simp only [List.getElem_toArray, List.getElem_cons_succ, List.getElem_cons_zero, Act.put, List.setIfInBounds_toArray, List.set_cons_succ, List.set_cons_zero]
      refine wpAnyH_take (i := 2) (v := ?_) rfl (by kernel_rfl) (by kernel_rfl) (by kernel_rfl) (fun _ _ _ h => h) (Or.inl ⟨by kernel_rfl, ?_⟩) HSW.out ?_
      rotate_left
      · intro w hS
        obtain ⟨⟨e1, e2, e3, e4⟩, e5, e6, e7, e8⟩ := hS
        go_simp
        try with_reducible rfl
      conv in (Act.put _ _ _) => simp only [List.getElem_toArray, List.getElem_cons_succ, List.getElem_cons_zero, Act.put, List.setIfInBounds_toArray, List.set_cons_succ, List.set_cons_zero]
      refine wpAnyH_take (i := 3) (v := ?_) rfl (by kernel_rfl) (by kernel_rfl) (by kernel_rfl) (fun _ _ _ h => h) (Or.inl ⟨by kernel_rfl, ?_⟩) HSW.out ?_
      rotate_left
      · intro w hS
        obtain ⟨⟨e1, e2, e3, e4⟩, e5, e6, e7, e8⟩ := hS
        go_simp
        try with_reducible rfl
      conv in (Act.put _ _ _) => simp only [List.getElem_toArray, List.getElem_cons_succ, List.getElem_cons_zero, Act.put, List.setIfInBounds_toArray, List.set_cons_succ, List.set_cons_zero]
      refine wpAnyH_take (i := 4) (v := ?_) rfl (by kernel_rfl) (by kernel_rfl) (by kernel_rfl) (fun _ _ _ h => h) (Or.inl ⟨by kernel_rfl, ?_⟩) HSW.out ?_
      rotate_left
      · intro w hS
        obtain ⟨⟨e1, e2, e3, e4⟩, e5, e6, e7, e8⟩ := hS
        go_simp
        try with_reducible rfl
      conv in (Act.put _ _ _) => simp only [List.getElem_toArray, List.getElem_cons_succ, List.getElem_cons_zero, Act.put, List.setIfInBounds_toArray, List.set_cons_succ, List.set_cons_zero]
      refine wpAnyH_take (i := 5) (v := ?_) rfl (by kernel_rfl) (by kernel_rfl) (by kernel_rfl) (fun _ _ _ h => h) (Or.inl ⟨by kernel_rfl, ?_⟩) HSW.out ?_
      rotate_left
      · intro w hS
        obtain ⟨⟨e1, e2, e3, e4⟩, e5, e6, e7, e8⟩ := hS
        go_simp
        try with_reducible rfl
      conv in (Act.put _ _ _) => simp only [List.getElem_toArray, List.getElem_cons_succ, List.getElem_cons_zero, Act.put, List.setIfInBounds_toArray, List.set_cons_succ, List.set_cons_zero]
      refine wpAnyH_take (i := 6) (v := ?_) rfl (by kernel_rfl) (by kernel_rfl) (by kernel_rfl) (fun _ _ _ h => h) (Or.inl ⟨by kernel_rfl, ?_⟩) HSW.out ?_
      rotate_left
      · intro w hS
        obtain ⟨⟨e1, e2, e3, e4⟩, e5, e6, e7, e8⟩ := hS
        go_simp
        try with_reducible rfl
      conv in (Act.put _ _ _) => simp only [List.getElem_toArray, List.getElem_cons_succ, List.getElem_cons_zero, Act.put, List.setIfInBounds_toArray, List.set_cons_succ, List.set_cons_zero]
      refine wpAnyH_take (i := 7) (v := ?_) rfl (by kernel_rfl) (by kernel_rfl) (by kernel_rfl) (fun _ _ _ h => h) (Or.inl ⟨by kernel_rfl, ?_⟩) HSW.out ?_
      rotate_left
      · intro w hS
        obtain ⟨⟨e1, e2, e3, e4⟩, e5, e6, e7, e8⟩ := hS
        go_simp
        try with_reducible rfl
      conv in (Act.put _ _ _) => simp only [List.getElem_toArray, List.getElem_cons_succ, List.getElem_cons_zero, Act.put, List.setIfInBounds_toArray, List.set_cons_succ, List.set_cons_zero]
      refine wpAnyH_take (i := 8) (v := ?_) rfl (by kernel_rfl) (by kernel_rfl) (by kernel_rfl) (fun _ _ _ h => h) (Or.inl ⟨by kernel_rfl, ?_⟩) HSW.out ?_
      rotate_left
      · intro w hS
        obtain ⟨⟨e1, e2, e3, e4⟩, e5, e6, e7, e8⟩ := hS
        go_simp
        try with_reducible rfl
      conv in (Act.put _ _ _) => simp only [List.getElem_toArray, List.getElem_cons_succ, List.getElem_cons_zero, Act.put, List.setIfInBounds_toArray, List.set_cons_succ, List.set_cons_zero]
      refine wpAnyH_done (by kernel_rfl) ?_ _
      go_wp2_with fail
      go_roundw
      case rel => exact ⟨k + 1, by omega, by go_num, HB.out⟩
      case measure => simp [natOf]; omega
    · obtain rfl : k = l.length := by omega
      have q1 : ¬ (l.length : Int) < (l.length : Int) := by omega
      have HB : Hid (Below w.heap.size w wr) := hb
      clear hb
      go_wp2_with fail
      go_ret
      exact ⟨rfl, HB.out⟩
end Go.Proofs.Ytljponlfjombaaa.Rq
