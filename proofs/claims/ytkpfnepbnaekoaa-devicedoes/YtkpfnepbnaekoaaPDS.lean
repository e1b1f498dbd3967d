/- The example. -/
import Derived.Test.YtkpfnepbnaekoaaPDR
namespace Go.Proofs.Ytkpfnepbnaekoaa.Rd
open Go.RowKit
set_option maxRecDepth 100000 in
set_option maxHeartbeats 2000000 in
theorem shown_any (w : World) : Calls Try.prog 10 #[] w fun e w' => e = .returned (.bool true) ∧ Below w.heap.size w w' := by
  obtain ⟨f1, f2, f3, f4, f5, f6, f7⟩ := shown_facts
  have F1 : Hid _ := f1
  have F2 : Hid _ := f2
  have F3 : Hid _ := f3
  have F4 : Hid _ := f4
  have F5 : Hid _ := f5
  have F6 : Hid _ := f6
  have F7 : Hid _ := f7
  clear f1 f2 f3 f4 f5 f6 f7
  go_enter Try.func10, Try.ntmps10
  go_wp2_with fail
  refine (new_any 4 (by omega) (by omega) w).mono ?_
  rintro e w1 ⟨d, b, m, rfl, d1, hd, hb, hm, b1⟩
  have D1 : Hid _ := d1
  have B1 : Hid _ := b1
  have HV : Hid (∀ k, Dv d b m k → w.heap.size ≤ k) := fun k h => h.of_lt hd hb hm
  clear d1 b1 hd hb hm
  go_wp2_with fail
  refine (filled_any ab w1).mono ?_
  rintro e w2 ⟨rfl, b2⟩
  have D2 : Hid _ := Dev.below D1.out b2 (Nat.le_refl _)
  have B2 : Hid (Below w.heap.size w w2) := B1.out.trans (b2.mono B1.out.size)
  clear b2 D1 B1
  go_wp2_with fail
  refine (write_any d b m (newS 4) 1 (by omega) (fillS ab) w2 D2.out (newS_ok 4 (by omega) (by omega))).mono ?_
  rintro e w3 ⟨rfl, d3, b3⟩
  rw [F1.out]
  have D3 : Hid (Dev w3 d b m s1) := d3
  have B3 : Hid (Below w.heap.size w w3) := B2.out.trans (b3.below HV.out B2.out.size)
  clear d3 b3 D2 B2
  go_wp2_with fail
  refine (cut_any d b m s1 0 w3 D3.out).mono ?_
  rintro e w4 ⟨rfl, d4, b4⟩
  have D4 : Hid (Dev w4 d b m (cutS s1 0)) := d4
  have B4 : Hid (Below w.heap.size w w4) := B3.out.trans (b4.below HV.out B3.out.size)
  clear d4 b4 D3 B3
  go_wp2_with fail
  refine (flush_any d b m (cutS s1 0) w4 D4.out s2_ok).mono ?_
  rintro e w5 ⟨rfl, d5, b5⟩
  rw [F2.out]
  have D5 : Hid (Dev w5 d b m s3) := d5
  have B5 : Hid (Below w.heap.size w w5) := B4.out.trans (b5.below HV.out B4.out.size)
  clear d5 b5 D4 B4
  go_wp2_with fail
  refine (read_any d b m s3 1 (by omega) w5 D5.out s3_ok).mono ?_
  rintro e w6 ⟨rfl, b6⟩
  rw [F3.out, F4.out]
  have D6 : Hid (Dev w6 d b m s3) := Dev.below D5.out b6 (Nat.le_refl _)
  have B6 : Hid (Below w.heap.size w w6) := B5.out.trans (b6.mono B5.out.size)
  clear b6 D5 B5
  go_wp2_with fail
  have hl6 := D6.out.lt
  refine (wake_any 12 (by omega) sorts_small d b m s3 [2] (some ⟨w6.heap.size, 0, none⟩) 1 (w6.alloc (.cells #[.int .i64 2] 3)) (Dev.below D6.out (below_new w6 _) (Nat.le_refl _)) s3_ok
    (fun l hl => Nat.le_trans (keys_few s3_ok l hl) (by rw [s3_is, s1_is]; decide)) (fun _ => ⟨w6.heap.size, 0, rfl, by simp, fun i f hi => ?cell⟩) (fun a ea h => by cases ea; rcases h with h | h | h <;> simp only at h <;> omega)).mono ?_
  case cell =>
    match i, hi with
    | 0, hi => cases hi; rw [cell_of_row _ _ _ _ _ _ (heap_alloc_new w6 _)]; rfl
  rintro e w7 ⟨rfl, d7, b7⟩
  have D7 : Hid (Dev w7 d b m s4) := d7
  have hb6 := B6.out.size
  have B7 : Hid (Below w.heap.size w w7) := (B6.out.alloc hb6 _).trans (b7.below HV.out (by simp; omega))
  clear d7 b7 D6 B6
  go_wp2_with fail
  refine (read_any d b m s4 1 (by omega) w7 D7.out s4_ok).mono ?_
  rintro e w8 ⟨rfl, b8⟩
  rw [F5.out]
  have B8 : Hid (Below w.heap.size w w8) := B7.out.trans (b8.mono B7.out.size)
  have f6 := F6.out
  have f7 := F7.out
  clear b8 D7 B7
  generalize readV s4 1 = v at *
  unfold ab at f7
  go_wp2_with fail
  go_ret
  exact ⟨rfl, B8.out⟩
end Go.Proofs.Ytkpfnepbnaekoaa.Rd
