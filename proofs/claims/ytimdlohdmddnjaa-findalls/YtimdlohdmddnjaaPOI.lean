/- Check: what is wrong with a query. -/
import Derived.Test.YtimdlohdmddnjaaQJP
namespace Go.Proofs.Ytimdlohdmddnjaa.Rf
open Go.RowKit Go.Lib
open Go.Proofs.Ytimdlohdmddnjaa.Rc Go.Proofs.Ytimdlohdmddnjaa.Rq
theorem kmap_keys (g : Nat) : ∀ e ∈ (kmap g).toList, MapKept.IsKey (.int .i64) e.key := by
 intro e he
 simp only [kmap, List.mem_cons, List.not_mem_nil, or_false] at he
 rcases he with rfl | rfl | rfl | rfl <;> rfl
set_option maxRecDepth 100000 in
theorem look_no {w : World} {m g : Nat} (h : w.heap[m]? = some (.map (kmap g) 4)) {k : Int} (hk : k < 1 ∨ 4 < k) : (Instr.lookup 57 (.map (some m)) (.int .i64 k) true).run Try.prog w = .ok (.tuple #[.nilFunc, .bool false]) w := by
 rcases map_look h (kmap_keys g) k with ⟨e, he, hk2, hr⟩ | ⟨-, hr⟩
 ·exfalso
  simp only [kmap, List.mem_cons, List.not_mem_nil, or_false] at he
  rcases he with rfl | rfl | rfl | rfl <;> (simp at hk2; omega)
 ·exact hr
set_option maxRecDepth 100000 in
theorem look_1 {w : World} {m g : Nat} (h : w.heap[m]? = some (.map (kmap g) 4)) : (Instr.lookup 57 (.map (some m)) (.int .i64 1) true).run Try.prog w = .ok (.tuple #[.func (.func 50) #[] #[.pointer (some ⟨g, 0, none⟩)], .bool true]) w := by
 rcases map_look h (kmap_keys g) 1 with ⟨e, he, hk2, hr⟩ | ⟨hn, -⟩
 ·simp only [kmap, List.mem_cons, List.not_mem_nil, or_false] at he
  rcases he with rfl | rfl | rfl | rfl
  all_goals first | exact hr | (simp at hk2)
 ·exact absurd rfl (hn ⟨.int .i64 1, .func (.func 50) #[] #[.pointer (some ⟨g, 0, none⟩)], 0⟩ (by simp [kmap]))
set_option maxRecDepth 100000 in
theorem look_2 {w : World} {m g : Nat} (h : w.heap[m]? = some (.map (kmap g) 4)) : (Instr.lookup 57 (.map (some m)) (.int .i64 2) true).run Try.prog w = .ok (.tuple #[.func (.func 51) #[] #[.pointer (some ⟨g, 0, none⟩)], .bool true]) w := by
 rcases map_look h (kmap_keys g) 2 with ⟨e, he, hk2, hr⟩ | ⟨hn, -⟩
 ·simp only [kmap, List.mem_cons, List.not_mem_nil, or_false] at he
  rcases he with rfl | rfl | rfl | rfl
  all_goals first | exact hr | (simp at hk2)
 ·exact absurd rfl (hn ⟨.int .i64 2, .func (.func 51) #[] #[.pointer (some ⟨g, 0, none⟩)], 1⟩ (by simp [kmap]))
set_option maxRecDepth 100000 in
theorem look_3 {w : World} {m g : Nat} (h : w.heap[m]? = some (.map (kmap g) 4)) : (Instr.lookup 57 (.map (some m)) (.int .i64 3) true).run Try.prog w = .ok (.tuple #[.func (.func 52) #[] #[.pointer (some ⟨g, 0, none⟩)], .bool true]) w := by
 rcases map_look h (kmap_keys g) 3 with ⟨e, he, hk2, hr⟩ | ⟨hn, -⟩
 ·simp only [kmap, List.mem_cons, List.not_mem_nil, or_false] at he
  rcases he with rfl | rfl | rfl | rfl
  all_goals first | exact hr | (simp at hk2)
 ·exact absurd rfl (hn ⟨.int .i64 3, .func (.func 52) #[] #[.pointer (some ⟨g, 0, none⟩)], 2⟩ (by simp [kmap]))
set_option maxRecDepth 100000 in
theorem look_4 {w : World} {m g : Nat} (h : w.heap[m]? = some (.map (kmap g) 4)) : (Instr.lookup 57 (.map (some m)) (.int .i64 4) true).run Try.prog w = .ok (.tuple #[.func (.func 53) #[] #[], .bool true]) w := by
 rcases map_look h (kmap_keys g) 4 with ⟨e, he, hk2, hr⟩ | ⟨hn, -⟩
 ·simp only [kmap, List.mem_cons, List.not_mem_nil, or_false] at he
  rcases he with rfl | rfl | rfl | rfl
  all_goals first | exact hr | (simp at hk2)
 ·exact absurd rfl (hn ⟨.int .i64 4, .func (.func 53) #[] #[], 3⟩ (by simp [kmap]))
theorem chk_in {q : Qr} (h : ¬ (q.k < 1 ∨ 4 < q.k)) : chk q = if q.K < (if q.k = 3 then 0 else 1) ∨ 64 < q.K then 82 else fndE q := by
 unfold chk fndE boxE rndE
 rw [if_neg h]
 have e : (64 < q.K ∨ q.K < 0 ∨ (q.K = 0 ∧ q.k ≠ 3)) ↔ (q.K < (if q.k = 3 then 0 else 1) ∨ 64 < q.K) := by split <;> omega
 simp only [e]
 by_cases c : q.K < (if q.k = 3 then 0 else 1) ∨ 64 < q.K
 ·rw [if_pos c, if_pos c]
 rw [if_neg c, if_neg c]
 have hk : q.k = 1 ∨ q.k = 2 ∨ q.k = 3 ∨ q.k = 4 := by omega
 rcases hk with hk | hk | hk | hk
 ·simp only [hk]
  cases boxS q.a q.b q.c q.d <;> simp
 all_goals
  simp only [hk]
  by_cases h1 : 2147483648 ≤ q.x ∨ 2147483648 ≤ q.y
  ·have : onS q.x q.y = false := by unfold onS; simp; omega
   simp [this, h1]
  ·have : onS q.x q.y = true := (onS_iff _ _).2 (by omega)
   simp [this, h1]
set_option maxRecDepth 100000 in
set_option maxHeartbeats 2000000 in
theorem check_no (k : Int) (a b c d x y sq : Nat) (kk : Int) (af : Nat) (fr : Bool) (hk : k < 1 ∨ 4 < k) (w : World) : Calls Try.prog 11 #[qv ⟨k, a, b, c, d, x, y, sq, kk, af, fr⟩] w fun e w' => e = .returned (.int .i64 2) ∧ Below w.heap.size w w' := by
 have hb := below_new w (qcs ⟨k, a, b, c, d, x, y, sq, kk, af, fr⟩)
 have hg := heap_alloc_new w (qcs ⟨k, a, b, c, d, x, y, sq, kk, af, fr⟩)
 obtain ⟨W0, hW0⟩ : ∃ W0, w.alloc (qcs ⟨k, a, b, c, d, x, y, sq, kk, af, fr⟩) = W0 := ⟨_, rfl⟩
 rw [hW0] at hb hg
 have HW0 : Hid _ := hW0
 have HG0 : Hid (W0.heap[w.heap.size]? = some (qcs ⟨k, a, b, c, d, x, y, sq, kk, af, fr⟩)) := hg
 have HB0 : Hid (Below w.heap.size w W0) := hb
 have HKD : Hid _ := kinds_any ⟨k, a, b, c, d, x, y, sq, kk, af, fr⟩
 have HSW : Hid (QC w.heap.size ⟨k, a, b, c, d, x, y, sq, kk, af, fr⟩ W0.drew) := qc_of hg
 clear hb hg hW0
 simp only [qv] at HKD ⊢
 have HLK : Hid (∀ (W : World) (m g : Nat), W.heap[m]? = some (.map (kmap g) 4) → _) := fun W m g h => look_no h hk
 clear hk
 go_enter Try.func11, Try.ntmps11
 go_wp2_with (first | (rw [HW0.out]; clear HW0))
 refine wp_region_held (S := QC w.heap.size ⟨k, a, b, c, d, x, y, sq, kk, af, fr⟩) (by kernel_rfl) ?_
 change wpAnyH _ _ _ _ _ _ _ _ (World.drew _)
 refine wpAnyH_take (i := 0) (v := ?_) rfl (by kernel_rfl) (by kernel_rfl) (by kernel_rfl) (fun _ _ _ h => h) (Or.inl ⟨by kernel_rfl, ?_⟩) HSW.out ?_
 rotate_left
 ·rintro w ⟨e0,e1,e2,e3,e4,e5,e6,e7,e8,e9,e10⟩; go_simp; try with_reducible rfl
 conv in (Act.put _ _ _) => simp only [List.getElem_toArray, List.getElem_cons_succ, List.getElem_cons_zero, Act.put, List.setIfInBounds_toArray, List.set_cons_succ, List.set_cons_zero]
 refine wpAnyH_take (i := 2) (v := ?_) rfl (by kernel_rfl) (by kernel_rfl) (by kernel_rfl) (fun _ _ _ h => h) (Or.inl ⟨by kernel_rfl, ?_⟩) HSW.out ?_
 rotate_left
 ·rintro w ⟨e0,e1,e2,e3,e4,e5,e6,e7,e8,e9,e10⟩; go_simp; try with_reducible rfl
 conv in (Act.put _ _ _) => simp only [List.getElem_toArray, List.getElem_cons_succ, List.getElem_cons_zero, Act.put, List.setIfInBounds_toArray, List.set_cons_succ, List.set_cons_zero]
 refine wpAnyH_take (i := 3) (v := ?_) rfl (by kernel_rfl) (by kernel_rfl) (by kernel_rfl) (fun _ _ _ h => h) (Or.inl ⟨by kernel_rfl, ?_⟩) HSW.out ?_
 rotate_left
 ·rintro w ⟨e0,e1,e2,e3,e4,e5,e6,e7,e8,e9,e10⟩; go_simp; try with_reducible rfl
 conv in (Act.put _ _ _) => simp only [List.getElem_toArray, List.getElem_cons_succ, List.getElem_cons_zero, Act.put, List.setIfInBounds_toArray, List.set_cons_succ, List.set_cons_zero]
 refine readyH 1 _ (by kernel_rfl) rfl (by kernel_rfl) (fun K hK => ?_)
 go_simp
 refine (HKD.out _).mono ?_
 rintro e w1 ⟨m, rfl, hm, hmap, hq2, b1⟩
 replace b1 : Below W0.heap.size W0 w1 := (Below.refl _ W0).drew.trans b1
 have hg1 := (b1.block _ (Array.getElem?_eq_some_iff.1 HG0.out).1).trans HG0.out
 have HG1 : Hid (w1.heap[w.heap.size]? = some (qcs ⟨k, a, b, c, d, x, y, sq, kk, af, fr⟩)) := hg1
 have HQ2 : Hid _ := hq2
 have HB1 : Hid (Below w.heap.size w w1) := HB0.out.trans (b1.mono HB0.out.size)
 have hlk := HLK.out w1 m _ hmap
 clear HSW
 have HSW : Hid (QC w.heap.size ⟨k, a, b, c, d, x, y, sq, kk, af, fr⟩ w1) := qc_of hg1
 clear hg1 b1 hmap hm HLK HKD hq2
 refine hK _ _ HSW.out ?_
 clear hK K
 refine readyH 4 _ (by kernel_rfl) rfl (by kernel_rfl) (fun K hK => ?_)
 go_simp
 refine hK _ _ HSW.out ?_
 clear hK K
 refine wpAnyH_take (i := 5) (v := ?_) rfl (by kernel_rfl) (by kernel_rfl) (by kernel_rfl) (fun _ _ _ h => h) (Or.inl ⟨by kernel_rfl, ?_⟩) HSW.out ?_
 rotate_left
 ·rintro w ⟨e0,e1,e2,e3,e4,e5,e6,e7,e8,e9,e10⟩; go_simp; try with_reducible rfl
 conv in (Act.put _ _ _) => simp only [List.getElem_toArray, List.getElem_cons_succ, List.getElem_cons_zero, Act.put, List.setIfInBounds_toArray, List.set_cons_succ, List.set_cons_zero]
 refine wpAnyH_take (i := 6) (v := ?_) rfl (by kernel_rfl) (by kernel_rfl) (by kernel_rfl) (fun _ _ _ h => h) (Or.inl ⟨by kernel_rfl, ?_⟩) HSW.out ?_
 rotate_left
 ·rintro w ⟨e0,e1,e2,e3,e4,e5,e6,e7,e8,e9,e10⟩; go_simp; try with_reducible rfl
 conv in (Act.put _ _ _) => simp only [List.getElem_toArray, List.getElem_cons_succ, List.getElem_cons_zero, Act.put, List.setIfInBounds_toArray, List.set_cons_succ, List.set_cons_zero]
 refine wpAnyH_take (i := 7) (v := ?_) rfl (by kernel_rfl) (by kernel_rfl) (by kernel_rfl) (fun _ _ _ h => h) (Or.inl ⟨by kernel_rfl, ?_⟩) HSW.out ?_
 rotate_left
 ·rintro w ⟨e0,e1,e2,e3,e4,e5,e6,e7,e8,e9,e10⟩; go_simp; try with_reducible rfl
 conv in (Act.put _ _ _) => simp only [List.getElem_toArray, List.getElem_cons_succ, List.getElem_cons_zero, Act.put, List.setIfInBounds_toArray, List.set_cons_succ, List.set_cons_zero]
 refine wpAnyH_take (i := 8) (v := ?_) rfl (by kernel_rfl) (by kernel_rfl) (by kernel_rfl) (fun _ _ _ h => h) (Or.inl ⟨by kernel_rfl, ?_⟩) HSW.out ?_
 rotate_left
 ·rintro w ⟨e0,e1,e2,e3,e4,e5,e6,e7,e8,e9,e10⟩; go_simp; try with_reducible rfl
 conv in (Act.put _ _ _) => simp only [List.getElem_toArray, List.getElem_cons_succ, List.getElem_cons_zero, Act.put, List.setIfInBounds_toArray, List.set_cons_succ, List.set_cons_zero]
 refine wpAnyH_take (i := 9) (v := ?_) rfl (by kernel_rfl) (by kernel_rfl) (by kernel_rfl) (fun _ _ _ h => h) (Or.inl ⟨by kernel_rfl, ?_⟩) HSW.out ?_
 rotate_left
 ·rintro w ⟨e0,e1,e2,e3,e4,e5,e6,e7,e8,e9,e10⟩; go_simp; try with_reducible rfl
 conv in (Act.put _ _ _) => simp only [List.getElem_toArray, List.getElem_cons_succ, List.getElem_cons_zero, Act.put, List.setIfInBounds_toArray, List.set_cons_succ, List.set_cons_zero]
 refine wpAnyH_done (by kernel_rfl) ?_ _
 go_wp2_with fail
 go_ret
 exact ⟨rfl, HB1.out⟩
set_option maxRecDepth 100000 in
theorem look_in {w : World} {m g : Nat} (h : w.heap[m]? = some (.map (kmap g) 4)) {k : Int} (hk : ¬ (k < 1 ∨ 4 < k)) : ∃ v, (Instr.lookup 57 (.map (some m)) (.int .i64 k) true).run Try.prog w = .ok (.tuple #[v, .bool true]) w := by
 rcases map_look h (kmap_keys g) k with ⟨e, -, -, hr⟩ | ⟨hn, -⟩
 ·exact ⟨_, hr⟩
 ·exfalso
  obtain rfl | rfl | rfl | rfl : k = 1 ∨ k = 2 ∨ k = 3 ∨ k = 4 := by omega
  ·exact hn ⟨.int .i64 1, .func (.func 50) #[] #[.pointer (some ⟨g, 0, none⟩)], 0⟩ (by simp [kmap]) rfl
  ·exact hn ⟨.int .i64 2, .func (.func 51) #[] #[.pointer (some ⟨g, 0, none⟩)], 1⟩ (by simp [kmap]) rfl
  ·exact hn ⟨.int .i64 3, .func (.func 52) #[] #[.pointer (some ⟨g, 0, none⟩)], 2⟩ (by simp [kmap]) rfl
  ·exact hn ⟨.int .i64 4, .func (.func 53) #[] #[], 3⟩ (by simp [kmap]) rfl
set_option maxRecDepth 100000 in
set_option maxHeartbeats 4000000 in
theorem check_many (k : Int) (a b c d x y sq : Nat) (kk : Int) (af : Nat) (fr : Bool) (f : Int) (hf : (if k = 3 then (0 : Int) else 1) = f) (hk : ¬ (k < 1 ∨ 4 < k)) (hK : kk < f ∨ 64 < kk) (w : World) : Calls Try.prog 11 #[qv ⟨k, a, b, c, d, x, y, sq, kk, af, fr⟩] w fun e w' => e = .returned (.int .i64 82) ∧ Below w.heap.size w w' := by
 have HLK : Hid (∀ (W : World) (m g : Nat), W.heap[m]? = some (.map (kmap g) 4) → _) := fun W m g h => look_in h hk
 have HF : Hid (∀ W : World, Calls Try.prog 25 #[.int .i64 k] W fun e w' => e = .returned (.int .i64 f) ∧ w' = W) := fun W => hf ▸ fewest_any k W
 have hb := below_new w (qcs ⟨k, a, b, c, d, x, y, sq, kk, af, fr⟩)
 have hg := heap_alloc_new w (qcs ⟨k, a, b, c, d, x, y, sq, kk, af, fr⟩)
 obtain ⟨W0, hW0⟩ : ∃ W0, w.alloc (qcs ⟨k, a, b, c, d, x, y, sq, kk, af, fr⟩) = W0 := ⟨_, rfl⟩
 rw [hW0] at hb hg
 have HW0 : Hid _ := hW0
 have HG0 : Hid (W0.heap[w.heap.size]? = some (qcs ⟨k, a, b, c, d, x, y, sq, kk, af, fr⟩)) := hg
 have HB0 : Hid (Below w.heap.size w W0) := hb
 have HKD : Hid _ := kinds_any ⟨k, a, b, c, d, x, y, sq, kk, af, fr⟩
 have HSW : Hid (QC w.heap.size ⟨k, a, b, c, d, x, y, sq, kk, af, fr⟩ W0.drew) := qc_of hg
 clear hb hg hW0
 simp only [qv] at HKD ⊢
 clear hf hk
 rcases (by omega : kk < f ∨ (¬ kk < f ∧ 64 < kk)) with h1 | ⟨h1, h2⟩
 ·have g1 : decide (kk < f) = true := decide_eq_true h1
  clear h1 hK
  go_enter Try.func11, Try.ntmps11
  go_wp2_with (first | (rw [HW0.out]; clear HW0))
  refine wp_region_held (S := QC w.heap.size ⟨k, a, b, c, d, x, y, sq, kk, af, fr⟩) (by kernel_rfl) ?_
  change wpAnyH _ _ _ _ _ _ _ _ (World.drew _)
  refine wpAnyH_take (i := 0) (v := ?_) rfl (by kernel_rfl) (by kernel_rfl) (by kernel_rfl) (fun _ _ _ h => h) (Or.inl ⟨by kernel_rfl, ?_⟩) HSW.out ?_
  rotate_left
  ·rintro w ⟨e0,e1,e2,e3,e4,e5,e6,e7,e8,e9,e10⟩; go_simp; try with_reducible rfl
  conv in (Act.put _ _ _) => simp only [List.getElem_toArray, List.getElem_cons_succ, List.getElem_cons_zero, Act.put, List.setIfInBounds_toArray, List.set_cons_succ, List.set_cons_zero]
  refine wpAnyH_take (i := 2) (v := ?_) rfl (by kernel_rfl) (by kernel_rfl) (by kernel_rfl) (fun _ _ _ h => h) (Or.inl ⟨by kernel_rfl, ?_⟩) HSW.out ?_
  rotate_left
  ·rintro w ⟨e0,e1,e2,e3,e4,e5,e6,e7,e8,e9,e10⟩; go_simp; try with_reducible rfl
  conv in (Act.put _ _ _) => simp only [List.getElem_toArray, List.getElem_cons_succ, List.getElem_cons_zero, Act.put, List.setIfInBounds_toArray, List.set_cons_succ, List.set_cons_zero]
  refine wpAnyH_take (i := 3) (v := ?_) rfl (by kernel_rfl) (by kernel_rfl) (by kernel_rfl) (fun _ _ _ h => h) (Or.inl ⟨by kernel_rfl, ?_⟩) HSW.out ?_
  rotate_left
  ·rintro w ⟨e0,e1,e2,e3,e4,e5,e6,e7,e8,e9,e10⟩; go_simp; try with_reducible rfl
  conv in (Act.put _ _ _) => simp only [List.getElem_toArray, List.getElem_cons_succ, List.getElem_cons_zero, Act.put, List.setIfInBounds_toArray, List.set_cons_succ, List.set_cons_zero]
  refine readyH 1 _ (by kernel_rfl) rfl (by kernel_rfl) (fun K hK => ?_)
  go_simp
  refine (HKD.out _).mono ?_
  rintro e w1 ⟨m, rfl, hm, hmap, hq2, b1⟩
  replace b1 : Below W0.heap.size W0 w1 := (Below.refl _ W0).drew.trans b1
  have hg1 := (b1.block _ (Array.getElem?_eq_some_iff.1 HG0.out).1).trans HG0.out
  have HG1 : Hid (w1.heap[w.heap.size]? = some (qcs ⟨k, a, b, c, d, x, y, sq, kk, af, fr⟩)) := hg1
  have HQ2 : Hid _ := hq2
  have HB1 : Hid (Below w.heap.size w w1) := HB0.out.trans (b1.mono HB0.out.size)
  obtain ⟨fv, hlk⟩ := HLK.out w1 m _ hmap
  clear HSW
  have HSW : Hid (QC w.heap.size ⟨k, a, b, c, d, x, y, sq, kk, af, fr⟩ w1) := qc_of hg1
  clear hg1 b1 hmap hm HLK HKD hq2
  refine hK _ _ HSW.out ?_
  clear hK K
  refine readyH 4 _ (by kernel_rfl) rfl (by kernel_rfl) (fun K hK => ?_)
  go_simp
  refine hK _ _ HSW.out ?_
  clear hK K
  refine wpAnyH_take (i := 5) (v := ?_) rfl (by kernel_rfl) (by kernel_rfl) (by kernel_rfl) (fun _ _ _ h => h) (Or.inl ⟨by kernel_rfl, ?_⟩) HSW.out ?_
  rotate_left
  ·rintro w ⟨e0,e1,e2,e3,e4,e5,e6,e7,e8,e9,e10⟩; go_simp; try with_reducible rfl
  conv in (Act.put _ _ _) => simp only [List.getElem_toArray, List.getElem_cons_succ, List.getElem_cons_zero, Act.put, List.setIfInBounds_toArray, List.set_cons_succ, List.set_cons_zero]
  refine wpAnyH_take (i := 6) (v := ?_) rfl (by kernel_rfl) (by kernel_rfl) (by kernel_rfl) (fun _ _ _ h => h) (Or.inl ⟨by kernel_rfl, ?_⟩) HSW.out ?_
  rotate_left
  ·rintro w ⟨e0,e1,e2,e3,e4,e5,e6,e7,e8,e9,e10⟩; go_simp; try with_reducible rfl
  conv in (Act.put _ _ _) => simp only [List.getElem_toArray, List.getElem_cons_succ, List.getElem_cons_zero, Act.put, List.setIfInBounds_toArray, List.set_cons_succ, List.set_cons_zero]
  refine wpAnyH_take (i := 7) (v := ?_) rfl (by kernel_rfl) (by kernel_rfl) (by kernel_rfl) (fun _ _ _ h => h) (Or.inl ⟨by kernel_rfl, ?_⟩) HSW.out ?_
  rotate_left
  ·rintro w ⟨e0,e1,e2,e3,e4,e5,e6,e7,e8,e9,e10⟩; go_simp; try with_reducible rfl
  conv in (Act.put _ _ _) => simp only [List.getElem_toArray, List.getElem_cons_succ, List.getElem_cons_zero, Act.put, List.setIfInBounds_toArray, List.set_cons_succ, List.set_cons_zero]
  refine wpAnyH_take (i := 8) (v := ?_) rfl (by kernel_rfl) (by kernel_rfl) (by kernel_rfl) (fun _ _ _ h => h) (Or.inl ⟨by kernel_rfl, ?_⟩) HSW.out ?_
  rotate_left
  ·rintro w ⟨e0,e1,e2,e3,e4,e5,e6,e7,e8,e9,e10⟩; go_simp; try with_reducible rfl
  conv in (Act.put _ _ _) => simp only [List.getElem_toArray, List.getElem_cons_succ, List.getElem_cons_zero, Act.put, List.setIfInBounds_toArray, List.set_cons_succ, List.set_cons_zero]
  refine wpAnyH_take (i := 9) (v := ?_) rfl (by kernel_rfl) (by kernel_rfl) (by kernel_rfl) (fun _ _ _ h => h) (Or.inl ⟨by kernel_rfl, ?_⟩) HSW.out ?_
  rotate_left
  ·rintro w ⟨e0,e1,e2,e3,e4,e5,e6,e7,e8,e9,e10⟩; go_simp; try with_reducible rfl
  conv in (Act.put _ _ _) => simp only [List.getElem_toArray, List.getElem_cons_succ, List.getElem_cons_zero, Act.put, List.setIfInBounds_toArray, List.set_cons_succ, List.set_cons_zero]
  refine wpAnyH_done (by kernel_rfl) ?_ _
  go_wp2_with fail
  refine wp_region_held (S := QC w.heap.size ⟨k, a, b, c, d, x, y, sq, kk, af, fr⟩) (by kernel_rfl) ?_
  change wpAnyH _ _ _ _ _ _ _ _ (World.drew _)
  replace HSW : Hid (QC w.heap.size ⟨k, a, b, c, d, x, y, sq, kk, af, fr⟩ w1.drew) := qc_of HG1.out
  refine wpAnyH_take (i := 0) (v := ?_) rfl (by kernel_rfl) (by kernel_rfl) (by kernel_rfl) (fun _ _ _ h => h) (Or.inl ⟨by kernel_rfl, ?_⟩) HSW.out ?_
  rotate_left
  ·rintro w ⟨e0,e1,e2,e3,e4,e5,e6,e7,e8,e9,e10⟩; go_simp; try with_reducible rfl
  conv in (Act.put _ _ _) => simp only [List.getElem_toArray, List.getElem_cons_succ, List.getElem_cons_zero, Act.put, List.setIfInBounds_toArray, List.set_cons_succ, List.set_cons_zero]
  refine wpAnyH_take (i := 1) (v := ?_) rfl (by kernel_rfl) (by kernel_rfl) (by kernel_rfl) (fun _ _ _ h => h) (Or.inl ⟨by kernel_rfl, ?_⟩) HSW.out ?_
  rotate_left
  ·rintro w ⟨e0,e1,e2,e3,e4,e5,e6,e7,e8,e9,e10⟩; go_simp; try with_reducible rfl
  conv in (Act.put _ _ _) => simp only [List.getElem_toArray, List.getElem_cons_succ, List.getElem_cons_zero, Act.put, List.setIfInBounds_toArray, List.set_cons_succ, List.set_cons_zero]
  refine wpAnyH_take (i := 2) (v := ?_) rfl (by kernel_rfl) (by kernel_rfl) (by kernel_rfl) (fun _ _ _ h => h) (Or.inl ⟨by kernel_rfl, ?_⟩) HSW.out ?_
  rotate_left
  ·rintro w ⟨e0,e1,e2,e3,e4,e5,e6,e7,e8,e9,e10⟩; go_simp; try with_reducible rfl
  conv in (Act.put _ _ _) => simp only [List.getElem_toArray, List.getElem_cons_succ, List.getElem_cons_zero, Act.put, List.setIfInBounds_toArray, List.set_cons_succ, List.set_cons_zero]
  refine wpAnyH_take (i := 3) (v := ?_) rfl (by kernel_rfl) (by kernel_rfl) (by kernel_rfl) (fun _ _ _ h => h) (Or.inl ⟨by kernel_rfl, ?_⟩) HSW.out ?_
  rotate_left
  ·rintro w ⟨e0,e1,e2,e3,e4,e5,e6,e7,e8,e9,e10⟩; go_simp; try with_reducible rfl
  conv in (Act.put _ _ _) => simp only [List.getElem_toArray, List.getElem_cons_succ, List.getElem_cons_zero, Act.put, List.setIfInBounds_toArray, List.set_cons_succ, List.set_cons_zero]
  refine readyH 4 _ (by kernel_rfl) rfl (by kernel_rfl) (fun K hK => ?_)
  go_simp
  refine (HF.out _).mono ?_
  rintro e w3 ⟨rfl, hw3⟩
  have hw3' := hw3.symm
  clear hw3
  subst hw3'
  refine hK _ _ HSW.out ?_
  clear hK K
  refine wpAnyH_take (i := 5) (v := ?_) rfl (by kernel_rfl) (by kernel_rfl) (by kernel_rfl) (fun _ _ _ h => h) (Or.inl ⟨by kernel_rfl, ?_⟩) HSW.out ?_
  rotate_left
  ·rintro w ⟨e0,e1,e2,e3,e4,e5,e6,e7,e8,e9,e10⟩; go_simp; try with_reducible rfl
  conv in (Act.put _ _ _) => simp only [List.getElem_toArray, List.getElem_cons_succ, List.getElem_cons_zero, Act.put, List.setIfInBounds_toArray, List.set_cons_succ, List.set_cons_zero]
  refine wpAnyH_take (i := 6) (v := ?_) rfl (by kernel_rfl) (by kernel_rfl) (by kernel_rfl) (fun _ _ _ h => h) (Or.inl ⟨by kernel_rfl, ?_⟩) HSW.out ?_
  rotate_left
  ·rintro w ⟨e0,e1,e2,e3,e4,e5,e6,e7,e8,e9,e10⟩; go_simp; try with_reducible rfl
  conv in (Act.put _ _ _) => simp only [List.getElem_toArray, List.getElem_cons_succ, List.getElem_cons_zero, Act.put, List.setIfInBounds_toArray, List.set_cons_succ, List.set_cons_zero]
  refine wpAnyH_take (i := 7) (v := undef) rfl (by kernel_rfl) (by kernel_rfl) (by kernel_rfl) (fun _ _ _ h => h) (Or.inr ⟨by kernel_rfl, rfl⟩) HSW.out ?_
  conv in (Act.put _ _ _) => simp only [List.getElem_toArray, List.getElem_cons_succ, List.getElem_cons_zero, Act.put, List.setIfInBounds_toArray, List.set_cons_succ, List.set_cons_zero]
  refine wpAnyH_take (i := 8) (v := undef) rfl (by kernel_rfl) (by kernel_rfl) (by kernel_rfl) (fun _ _ _ h => h) (Or.inr ⟨by kernel_rfl, rfl⟩) HSW.out ?_
  conv in (Act.put _ _ _) => simp only [List.getElem_toArray, List.getElem_cons_succ, List.getElem_cons_zero, Act.put, List.setIfInBounds_toArray, List.set_cons_succ, List.set_cons_zero]
  refine wpAnyH_take (i := 9) (v := undef) rfl (by kernel_rfl) (by kernel_rfl) (by kernel_rfl) (fun _ _ _ h => h) (Or.inr ⟨by kernel_rfl, rfl⟩) HSW.out ?_
  conv in (Act.put _ _ _) => simp only [List.getElem_toArray, List.getElem_cons_succ, List.getElem_cons_zero, Act.put, List.setIfInBounds_toArray, List.set_cons_succ, List.set_cons_zero]
  refine wpAnyH_take (i := 10) (v := ?_) rfl (by kernel_rfl) (by kernel_rfl) (by kernel_rfl) (fun _ _ _ h => h) (Or.inl ⟨by kernel_rfl, ?_⟩) HSW.out ?_
  rotate_left
  ·rintro w ⟨e0,e1,e2,e3,e4,e5,e6,e7,e8,e9,e10⟩; go_simp; try with_reducible rfl
  conv in (Act.put _ _ _) => simp only [List.getElem_toArray, List.getElem_cons_succ, List.getElem_cons_zero, Act.put, List.setIfInBounds_toArray, List.set_cons_succ, List.set_cons_zero]
  refine wpAnyH_done (by kernel_rfl) ?_ _
  have HB2 : Hid (Below w.heap.size w w1.drew) := HB1.out.drew
  go_wp2_with fail
  go_ret
  exact ⟨rfl, HB2.out⟩
 ·have g1 : decide (kk < f) = false := decide_eq_false h1
  have g2 : decide (64 < kk) = true := decide_eq_true h2
  clear h1 h2 hK
  go_enter Try.func11, Try.ntmps11
  go_wp2_with (first | (rw [HW0.out]; clear HW0))
  refine wp_region_held (S := QC w.heap.size ⟨k, a, b, c, d, x, y, sq, kk, af, fr⟩) (by kernel_rfl) ?_
  change wpAnyH _ _ _ _ _ _ _ _ (World.drew _)
  refine wpAnyH_take (i := 0) (v := ?_) rfl (by kernel_rfl) (by kernel_rfl) (by kernel_rfl) (fun _ _ _ h => h) (Or.inl ⟨by kernel_rfl, ?_⟩) HSW.out ?_
  rotate_left
  ·rintro w ⟨e0,e1,e2,e3,e4,e5,e6,e7,e8,e9,e10⟩; go_simp; try with_reducible rfl
  conv in (Act.put _ _ _) => simp only [List.getElem_toArray, List.getElem_cons_succ, List.getElem_cons_zero, Act.put, List.setIfInBounds_toArray, List.set_cons_succ, List.set_cons_zero]
  refine wpAnyH_take (i := 2) (v := ?_) rfl (by kernel_rfl) (by kernel_rfl) (by kernel_rfl) (fun _ _ _ h => h) (Or.inl ⟨by kernel_rfl, ?_⟩) HSW.out ?_
  rotate_left
  ·rintro w ⟨e0,e1,e2,e3,e4,e5,e6,e7,e8,e9,e10⟩; go_simp; try with_reducible rfl
  conv in (Act.put _ _ _) => simp only [List.getElem_toArray, List.getElem_cons_succ, List.getElem_cons_zero, Act.put, List.setIfInBounds_toArray, List.set_cons_succ, List.set_cons_zero]
  refine wpAnyH_take (i := 3) (v := ?_) rfl (by kernel_rfl) (by kernel_rfl) (by kernel_rfl) (fun _ _ _ h => h) (Or.inl ⟨by kernel_rfl, ?_⟩) HSW.out ?_
  rotate_left
  ·rintro w ⟨e0,e1,e2,e3,e4,e5,e6,e7,e8,e9,e10⟩; go_simp; try with_reducible rfl
  conv in (Act.put _ _ _) => simp only [List.getElem_toArray, List.getElem_cons_succ, List.getElem_cons_zero, Act.put, List.setIfInBounds_toArray, List.set_cons_succ, List.set_cons_zero]
  refine readyH 1 _ (by kernel_rfl) rfl (by kernel_rfl) (fun K hK => ?_)
  go_simp
  refine (HKD.out _).mono ?_
  rintro e w1 ⟨m, rfl, hm, hmap, hq2, b1⟩
  replace b1 : Below W0.heap.size W0 w1 := (Below.refl _ W0).drew.trans b1
  have hg1 := (b1.block _ (Array.getElem?_eq_some_iff.1 HG0.out).1).trans HG0.out
  have HG1 : Hid (w1.heap[w.heap.size]? = some (qcs ⟨k, a, b, c, d, x, y, sq, kk, af, fr⟩)) := hg1
  have HQ2 : Hid _ := hq2
  have HB1 : Hid (Below w.heap.size w w1) := HB0.out.trans (b1.mono HB0.out.size)
  obtain ⟨fv, hlk⟩ := HLK.out w1 m _ hmap
  clear HSW
  have HSW : Hid (QC w.heap.size ⟨k, a, b, c, d, x, y, sq, kk, af, fr⟩ w1) := qc_of hg1
  clear hg1 b1 hmap hm HLK HKD hq2
  refine hK _ _ HSW.out ?_
  clear hK K
  refine readyH 4 _ (by kernel_rfl) rfl (by kernel_rfl) (fun K hK => ?_)
  go_simp
  refine hK _ _ HSW.out ?_
  clear hK K
  refine wpAnyH_take (i := 5) (v := ?_) rfl (by kernel_rfl) (by kernel_rfl) (by kernel_rfl) (fun _ _ _ h => h) (Or.inl ⟨by kernel_rfl, ?_⟩) HSW.out ?_
  rotate_left
  ·rintro w ⟨e0,e1,e2,e3,e4,e5,e6,e7,e8,e9,e10⟩; go_simp; try with_reducible rfl
  conv in (Act.put _ _ _) => simp only [List.getElem_toArray, List.getElem_cons_succ, List.getElem_cons_zero, Act.put, List.setIfInBounds_toArray, List.set_cons_succ, List.set_cons_zero]
  refine wpAnyH_take (i := 6) (v := ?_) rfl (by kernel_rfl) (by kernel_rfl) (by kernel_rfl) (fun _ _ _ h => h) (Or.inl ⟨by kernel_rfl, ?_⟩) HSW.out ?_
  rotate_left
  ·rintro w ⟨e0,e1,e2,e3,e4,e5,e6,e7,e8,e9,e10⟩; go_simp; try with_reducible rfl
  conv in (Act.put _ _ _) => simp only [List.getElem_toArray, List.getElem_cons_succ, List.getElem_cons_zero, Act.put, List.setIfInBounds_toArray, List.set_cons_succ, List.set_cons_zero]
  refine wpAnyH_take (i := 7) (v := ?_) rfl (by kernel_rfl) (by kernel_rfl) (by kernel_rfl) (fun _ _ _ h => h) (Or.inl ⟨by kernel_rfl, ?_⟩) HSW.out ?_
  rotate_left
  ·rintro w ⟨e0,e1,e2,e3,e4,e5,e6,e7,e8,e9,e10⟩; go_simp; try with_reducible rfl
  conv in (Act.put _ _ _) => simp only [List.getElem_toArray, List.getElem_cons_succ, List.getElem_cons_zero, Act.put, List.setIfInBounds_toArray, List.set_cons_succ, List.set_cons_zero]
  refine wpAnyH_take (i := 8) (v := ?_) rfl (by kernel_rfl) (by kernel_rfl) (by kernel_rfl) (fun _ _ _ h => h) (Or.inl ⟨by kernel_rfl, ?_⟩) HSW.out ?_
  rotate_left
  ·rintro w ⟨e0,e1,e2,e3,e4,e5,e6,e7,e8,e9,e10⟩; go_simp; try with_reducible rfl
  conv in (Act.put _ _ _) => simp only [List.getElem_toArray, List.getElem_cons_succ, List.getElem_cons_zero, Act.put, List.setIfInBounds_toArray, List.set_cons_succ, List.set_cons_zero]
  refine wpAnyH_take (i := 9) (v := ?_) rfl (by kernel_rfl) (by kernel_rfl) (by kernel_rfl) (fun _ _ _ h => h) (Or.inl ⟨by kernel_rfl, ?_⟩) HSW.out ?_
  rotate_left
  ·rintro w ⟨e0,e1,e2,e3,e4,e5,e6,e7,e8,e9,e10⟩; go_simp; try with_reducible rfl
  conv in (Act.put _ _ _) => simp only [List.getElem_toArray, List.getElem_cons_succ, List.getElem_cons_zero, Act.put, List.setIfInBounds_toArray, List.set_cons_succ, List.set_cons_zero]
  refine wpAnyH_done (by kernel_rfl) ?_ _
  go_wp2_with fail
  refine wp_region_held (S := QC w.heap.size ⟨k, a, b, c, d, x, y, sq, kk, af, fr⟩) (by kernel_rfl) ?_
  change wpAnyH _ _ _ _ _ _ _ _ (World.drew _)
  replace HSW : Hid (QC w.heap.size ⟨k, a, b, c, d, x, y, sq, kk, af, fr⟩ w1.drew) := qc_of HG1.out
  refine wpAnyH_take (i := 0) (v := ?_) rfl (by kernel_rfl) (by kernel_rfl) (by kernel_rfl) (fun _ _ _ h => h) (Or.inl ⟨by kernel_rfl, ?_⟩) HSW.out ?_
  rotate_left
  ·rintro w ⟨e0,e1,e2,e3,e4,e5,e6,e7,e8,e9,e10⟩; go_simp; try with_reducible rfl
  conv in (Act.put _ _ _) => simp only [List.getElem_toArray, List.getElem_cons_succ, List.getElem_cons_zero, Act.put, List.setIfInBounds_toArray, List.set_cons_succ, List.set_cons_zero]
  refine wpAnyH_take (i := 1) (v := ?_) rfl (by kernel_rfl) (by kernel_rfl) (by kernel_rfl) (fun _ _ _ h => h) (Or.inl ⟨by kernel_rfl, ?_⟩) HSW.out ?_
  rotate_left
  ·rintro w ⟨e0,e1,e2,e3,e4,e5,e6,e7,e8,e9,e10⟩; go_simp; try with_reducible rfl
  conv in (Act.put _ _ _) => simp only [List.getElem_toArray, List.getElem_cons_succ, List.getElem_cons_zero, Act.put, List.setIfInBounds_toArray, List.set_cons_succ, List.set_cons_zero]
  refine wpAnyH_take (i := 2) (v := ?_) rfl (by kernel_rfl) (by kernel_rfl) (by kernel_rfl) (fun _ _ _ h => h) (Or.inl ⟨by kernel_rfl, ?_⟩) HSW.out ?_
  rotate_left
  ·rintro w ⟨e0,e1,e2,e3,e4,e5,e6,e7,e8,e9,e10⟩; go_simp; try with_reducible rfl
  conv in (Act.put _ _ _) => simp only [List.getElem_toArray, List.getElem_cons_succ, List.getElem_cons_zero, Act.put, List.setIfInBounds_toArray, List.set_cons_succ, List.set_cons_zero]
  refine wpAnyH_take (i := 3) (v := ?_) rfl (by kernel_rfl) (by kernel_rfl) (by kernel_rfl) (fun _ _ _ h => h) (Or.inl ⟨by kernel_rfl, ?_⟩) HSW.out ?_
  rotate_left
  ·rintro w ⟨e0,e1,e2,e3,e4,e5,e6,e7,e8,e9,e10⟩; go_simp; try with_reducible rfl
  conv in (Act.put _ _ _) => simp only [List.getElem_toArray, List.getElem_cons_succ, List.getElem_cons_zero, Act.put, List.setIfInBounds_toArray, List.set_cons_succ, List.set_cons_zero]
  refine readyH 4 _ (by kernel_rfl) rfl (by kernel_rfl) (fun K hK => ?_)
  go_simp
  refine (HF.out _).mono ?_
  rintro e w3 ⟨rfl, hw3⟩
  have hw3' := hw3.symm
  clear hw3
  subst hw3'
  refine hK _ _ HSW.out ?_
  clear hK K
  refine wpAnyH_take (i := 5) (v := ?_) rfl (by kernel_rfl) (by kernel_rfl) (by kernel_rfl) (fun _ _ _ h => h) (Or.inl ⟨by kernel_rfl, ?_⟩) HSW.out ?_
  rotate_left
  ·rintro w ⟨e0,e1,e2,e3,e4,e5,e6,e7,e8,e9,e10⟩; go_simp; try with_reducible rfl
  conv in (Act.put _ _ _) => simp only [List.getElem_toArray, List.getElem_cons_succ, List.getElem_cons_zero, Act.put, List.setIfInBounds_toArray, List.set_cons_succ, List.set_cons_zero]
  refine wpAnyH_take (i := 6) (v := ?_) rfl (by kernel_rfl) (by kernel_rfl) (by kernel_rfl) (fun _ _ _ h => h) (Or.inl ⟨by kernel_rfl, ?_⟩) HSW.out ?_
  rotate_left
  ·rintro w ⟨e0,e1,e2,e3,e4,e5,e6,e7,e8,e9,e10⟩; go_simp; try with_reducible rfl
  conv in (Act.put _ _ _) => simp only [List.getElem_toArray, List.getElem_cons_succ, List.getElem_cons_zero, Act.put, List.setIfInBounds_toArray, List.set_cons_succ, List.set_cons_zero]
  refine wpAnyH_take (i := 7) (v := ?_) rfl (by kernel_rfl) (by kernel_rfl) (by kernel_rfl) (fun _ _ _ h => h) (Or.inl ⟨by kernel_rfl, ?_⟩) HSW.out ?_
  rotate_left
  ·rintro w ⟨e0,e1,e2,e3,e4,e5,e6,e7,e8,e9,e10⟩; go_simp; try with_reducible rfl
  conv in (Act.put _ _ _) => simp only [List.getElem_toArray, List.getElem_cons_succ, List.getElem_cons_zero, Act.put, List.setIfInBounds_toArray, List.set_cons_succ, List.set_cons_zero]
  refine wpAnyH_take (i := 8) (v := ?_) rfl (by kernel_rfl) (by kernel_rfl) (by kernel_rfl) (fun _ _ _ h => h) (Or.inl ⟨by kernel_rfl, ?_⟩) HSW.out ?_
  rotate_left
  ·rintro w ⟨e0,e1,e2,e3,e4,e5,e6,e7,e8,e9,e10⟩; go_simp; try with_reducible rfl
  conv in (Act.put _ _ _) => simp only [List.getElem_toArray, List.getElem_cons_succ, List.getElem_cons_zero, Act.put, List.setIfInBounds_toArray, List.set_cons_succ, List.set_cons_zero]
  refine wpAnyH_take (i := 9) (v := ?_) rfl (by kernel_rfl) (by kernel_rfl) (by kernel_rfl) (fun _ _ _ h => h) (Or.inl ⟨by kernel_rfl, ?_⟩) HSW.out ?_
  rotate_left
  ·rintro w ⟨e0,e1,e2,e3,e4,e5,e6,e7,e8,e9,e10⟩; go_simp; try with_reducible rfl
  conv in (Act.put _ _ _) => simp only [List.getElem_toArray, List.getElem_cons_succ, List.getElem_cons_zero, Act.put, List.setIfInBounds_toArray, List.set_cons_succ, List.set_cons_zero]
  refine wpAnyH_take (i := 10) (v := ?_) rfl (by kernel_rfl) (by kernel_rfl) (by kernel_rfl) (fun _ _ _ h => h) (Or.inl ⟨by kernel_rfl, ?_⟩) HSW.out ?_
  rotate_left
  ·rintro w ⟨e0,e1,e2,e3,e4,e5,e6,e7,e8,e9,e10⟩; go_simp; try with_reducible rfl
  conv in (Act.put _ _ _) => simp only [List.getElem_toArray, List.getElem_cons_succ, List.getElem_cons_zero, Act.put, List.setIfInBounds_toArray, List.set_cons_succ, List.set_cons_zero]
  refine wpAnyH_done (by kernel_rfl) ?_ _
  have HB2 : Hid (Below w.heap.size w w1.drew) := HB1.out.drew
  go_wp2_with fail
  go_ret
  exact ⟨rfl, HB2.out⟩
set_option maxRecDepth 100000 in
set_option maxHeartbeats 4000000 in
theorem check_1 (a b c d x y sq : Nat) (kk : Int) (af : Nat) (fr : Bool) (hK : ¬ (kk < 1 ∨ 64 < kk)) (w : World) : Calls Try.prog 11 #[qv ⟨1, a, b, c, d, x, y, sq, kk, af, fr⟩] w fun e w' => e = .returned (.int .i64 (chk ⟨1, a, b, c, d, x, y, sq, kk, af, fr⟩)) ∧ Below w.heap.size w w' := by
 have hv : chk ⟨1, a, b, c, d, x, y, sq, kk, af, fr⟩ = if kk < 1 ∨ 64 < kk then 82 else boxE a b c d := by
  rw [chk_in (by simp)]
  simp [fndE]
 have HLK : Hid (∀ (W : World) (m g : Nat), W.heap[m]? = some (.map (kmap g) 4) → _) := fun W m g h => look_1 h
 have HF : Hid (∀ W : World, Calls Try.prog 25 #[.int .i64 1] W fun e w' => e = .returned (.int .i64 1) ∧ w' = W) := fun W => fewest_any 1 W
 have hb := below_new w (qcs ⟨1, a, b, c, d, x, y, sq, kk, af, fr⟩)
 have hg := heap_alloc_new w (qcs ⟨1, a, b, c, d, x, y, sq, kk, af, fr⟩)
 obtain ⟨W0, hW0⟩ : ∃ W0, w.alloc (qcs ⟨1, a, b, c, d, x, y, sq, kk, af, fr⟩) = W0 := ⟨_, rfl⟩
 rw [hW0] at hb hg
 have HW0 : Hid _ := hW0
 have HG0 : Hid (W0.heap[w.heap.size]? = some (qcs ⟨1, a, b, c, d, x, y, sq, kk, af, fr⟩)) := hg
 have HB0 : Hid (Below w.heap.size w W0) := hb
 have HKD : Hid _ := kinds_any ⟨1, a, b, c, d, x, y, sq, kk, af, fr⟩
 have HSW : Hid (QC w.heap.size ⟨1, a, b, c, d, x, y, sq, kk, af, fr⟩ W0.drew) := qc_of hg
 clear hb hg hW0
 simp only [qv] at HKD ⊢
 have HK : Hid (∀ (W : World) (g : Nat), W.heap[g]? = some (qcs ⟨1, a, b, c, d, x, y, sq, kk, af, fr⟩) → _) := fun W g h => kind1_any g ⟨1, a, b, c, d, x, y, sq, kk, af, fr⟩ ⟨0, 0, 0, none, 0, 0, none, 0, 0⟩ [] 32 W h (node_nil _ 31 W) (fun r hr => by simp at hr) (by simp) .nil
 simp only [nv] at HK
 have HV : Hid (chk ⟨1, a, b, c, d, x, y, sq, kk, af, fr⟩ = boxE a b c d) := hv.trans (if_neg hK)
 clear hv
 have g1 : decide (kk < 1) = false := decide_eq_false (fun h => hK (.inl h))
 have g2 : decide (64 < kk) = false := decide_eq_false (fun h => hK (.inr h))
 clear hK
 go_enter Try.func11, Try.ntmps11
 go_wp2_with (first | (rw [HW0.out]; clear HW0))
 refine wp_region_held (S := QC w.heap.size ⟨1, a, b, c, d, x, y, sq, kk, af, fr⟩) (by kernel_rfl) ?_
 change wpAnyH _ _ _ _ _ _ _ _ (World.drew _)
 refine wpAnyH_take (i := 0) (v := ?_) rfl (by kernel_rfl) (by kernel_rfl) (by kernel_rfl) (fun _ _ _ h => h) (Or.inl ⟨by kernel_rfl, ?_⟩) HSW.out ?_
 rotate_left
 ·rintro w ⟨e0,e1,e2,e3,e4,e5,e6,e7,e8,e9,e10⟩; go_simp; try with_reducible rfl
 conv in (Act.put _ _ _) => simp only [List.getElem_toArray, List.getElem_cons_succ, List.getElem_cons_zero, Act.put, List.setIfInBounds_toArray, List.set_cons_succ, List.set_cons_zero]
 refine wpAnyH_take (i := 2) (v := ?_) rfl (by kernel_rfl) (by kernel_rfl) (by kernel_rfl) (fun _ _ _ h => h) (Or.inl ⟨by kernel_rfl, ?_⟩) HSW.out ?_
 rotate_left
 ·rintro w ⟨e0,e1,e2,e3,e4,e5,e6,e7,e8,e9,e10⟩; go_simp; try with_reducible rfl
 conv in (Act.put _ _ _) => simp only [List.getElem_toArray, List.getElem_cons_succ, List.getElem_cons_zero, Act.put, List.setIfInBounds_toArray, List.set_cons_succ, List.set_cons_zero]
 refine wpAnyH_take (i := 3) (v := ?_) rfl (by kernel_rfl) (by kernel_rfl) (by kernel_rfl) (fun _ _ _ h => h) (Or.inl ⟨by kernel_rfl, ?_⟩) HSW.out ?_
 rotate_left
 ·rintro w ⟨e0,e1,e2,e3,e4,e5,e6,e7,e8,e9,e10⟩; go_simp; try with_reducible rfl
 conv in (Act.put _ _ _) => simp only [List.getElem_toArray, List.getElem_cons_succ, List.getElem_cons_zero, Act.put, List.setIfInBounds_toArray, List.set_cons_succ, List.set_cons_zero]
 refine readyH 1 _ (by kernel_rfl) rfl (by kernel_rfl) (fun K hK => ?_)
 go_simp
 refine (HKD.out _).mono ?_
 rintro e w1 ⟨m, rfl, hm, hmap, hq2, b1⟩
 replace b1 : Below W0.heap.size W0 w1 := (Below.refl _ W0).drew.trans b1
 have hg1 := (b1.block _ (Array.getElem?_eq_some_iff.1 HG0.out).1).trans HG0.out
 have HG1 : Hid (w1.heap[w.heap.size]? = some (qcs ⟨1, a, b, c, d, x, y, sq, kk, af, fr⟩)) := hg1
 have HQ2 : Hid _ := hq2
 have HB1 : Hid (Below w.heap.size w w1) := HB0.out.trans (b1.mono HB0.out.size)
 have hlk := HLK.out w1 m _ hmap
 clear HSW
 have HSW : Hid (QC w.heap.size ⟨1, a, b, c, d, x, y, sq, kk, af, fr⟩ w1) := qc_of hg1
 clear hg1 b1 hmap hm HLK HKD hq2
 refine hK _ _ HSW.out ?_
 clear hK K
 refine readyH 4 _ (by kernel_rfl) rfl (by kernel_rfl) (fun K hK => ?_)
 go_simp
 refine hK _ _ HSW.out ?_
 clear hK K
 refine wpAnyH_take (i := 5) (v := ?_) rfl (by kernel_rfl) (by kernel_rfl) (by kernel_rfl) (fun _ _ _ h => h) (Or.inl ⟨by kernel_rfl, ?_⟩) HSW.out ?_
 rotate_left
 ·rintro w ⟨e0,e1,e2,e3,e4,e5,e6,e7,e8,e9,e10⟩; go_simp; try with_reducible rfl
 conv in (Act.put _ _ _) => simp only [List.getElem_toArray, List.getElem_cons_succ, List.getElem_cons_zero, Act.put, List.setIfInBounds_toArray, List.set_cons_succ, List.set_cons_zero]
 refine wpAnyH_take (i := 6) (v := ?_) rfl (by kernel_rfl) (by kernel_rfl) (by kernel_rfl) (fun _ _ _ h => h) (Or.inl ⟨by kernel_rfl, ?_⟩) HSW.out ?_
 rotate_left
 ·rintro w ⟨e0,e1,e2,e3,e4,e5,e6,e7,e8,e9,e10⟩; go_simp; try with_reducible rfl
 conv in (Act.put _ _ _) => simp only [List.getElem_toArray, List.getElem_cons_succ, List.getElem_cons_zero, Act.put, List.setIfInBounds_toArray, List.set_cons_succ, List.set_cons_zero]
 refine wpAnyH_take (i := 7) (v := ?_) rfl (by kernel_rfl) (by kernel_rfl) (by kernel_rfl) (fun _ _ _ h => h) (Or.inl ⟨by kernel_rfl, ?_⟩) HSW.out ?_
 rotate_left
 ·rintro w ⟨e0,e1,e2,e3,e4,e5,e6,e7,e8,e9,e10⟩; go_simp; try with_reducible rfl
 conv in (Act.put _ _ _) => simp only [List.getElem_toArray, List.getElem_cons_succ, List.getElem_cons_zero, Act.put, List.setIfInBounds_toArray, List.set_cons_succ, List.set_cons_zero]
 refine wpAnyH_take (i := 8) (v := ?_) rfl (by kernel_rfl) (by kernel_rfl) (by kernel_rfl) (fun _ _ _ h => h) (Or.inl ⟨by kernel_rfl, ?_⟩) HSW.out ?_
 rotate_left
 ·rintro w ⟨e0,e1,e2,e3,e4,e5,e6,e7,e8,e9,e10⟩; go_simp; try with_reducible rfl
 conv in (Act.put _ _ _) => simp only [List.getElem_toArray, List.getElem_cons_succ, List.getElem_cons_zero, Act.put, List.setIfInBounds_toArray, List.set_cons_succ, List.set_cons_zero]
 refine wpAnyH_take (i := 9) (v := ?_) rfl (by kernel_rfl) (by kernel_rfl) (by kernel_rfl) (fun _ _ _ h => h) (Or.inl ⟨by kernel_rfl, ?_⟩) HSW.out ?_
 rotate_left
 ·rintro w ⟨e0,e1,e2,e3,e4,e5,e6,e7,e8,e9,e10⟩; go_simp; try with_reducible rfl
 conv in (Act.put _ _ _) => simp only [List.getElem_toArray, List.getElem_cons_succ, List.getElem_cons_zero, Act.put, List.setIfInBounds_toArray, List.set_cons_succ, List.set_cons_zero]
 refine wpAnyH_done (by kernel_rfl) ?_ _
 go_wp2_with fail
 refine wp_region_held (S := QC w.heap.size ⟨1, a, b, c, d, x, y, sq, kk, af, fr⟩) (by kernel_rfl) ?_
 change wpAnyH _ _ _ _ _ _ _ _ (World.drew _)
 replace HSW : Hid (QC w.heap.size ⟨1, a, b, c, d, x, y, sq, kk, af, fr⟩ w1.drew) := qc_of HG1.out
 refine wpAnyH_take (i := 0) (v := ?_) rfl (by kernel_rfl) (by kernel_rfl) (by kernel_rfl) (fun _ _ _ h => h) (Or.inl ⟨by kernel_rfl, ?_⟩) HSW.out ?_
 rotate_left
 ·rintro w ⟨e0,e1,e2,e3,e4,e5,e6,e7,e8,e9,e10⟩; go_simp; try with_reducible rfl
 conv in (Act.put _ _ _) => simp only [List.getElem_toArray, List.getElem_cons_succ, List.getElem_cons_zero, Act.put, List.setIfInBounds_toArray, List.set_cons_succ, List.set_cons_zero]
 refine wpAnyH_take (i := 1) (v := ?_) rfl (by kernel_rfl) (by kernel_rfl) (by kernel_rfl) (fun _ _ _ h => h) (Or.inl ⟨by kernel_rfl, ?_⟩) HSW.out ?_
 rotate_left
 ·rintro w ⟨e0,e1,e2,e3,e4,e5,e6,e7,e8,e9,e10⟩; go_simp; try with_reducible rfl
 conv in (Act.put _ _ _) => simp only [List.getElem_toArray, List.getElem_cons_succ, List.getElem_cons_zero, Act.put, List.setIfInBounds_toArray, List.set_cons_succ, List.set_cons_zero]
 refine wpAnyH_take (i := 2) (v := ?_) rfl (by kernel_rfl) (by kernel_rfl) (by kernel_rfl) (fun _ _ _ h => h) (Or.inl ⟨by kernel_rfl, ?_⟩) HSW.out ?_
 rotate_left
 ·rintro w ⟨e0,e1,e2,e3,e4,e5,e6,e7,e8,e9,e10⟩; go_simp; try with_reducible rfl
 conv in (Act.put _ _ _) => simp only [List.getElem_toArray, List.getElem_cons_succ, List.getElem_cons_zero, Act.put, List.setIfInBounds_toArray, List.set_cons_succ, List.set_cons_zero]
 refine wpAnyH_take (i := 3) (v := ?_) rfl (by kernel_rfl) (by kernel_rfl) (by kernel_rfl) (fun _ _ _ h => h) (Or.inl ⟨by kernel_rfl, ?_⟩) HSW.out ?_
 rotate_left
 ·rintro w ⟨e0,e1,e2,e3,e4,e5,e6,e7,e8,e9,e10⟩; go_simp; try with_reducible rfl
 conv in (Act.put _ _ _) => simp only [List.getElem_toArray, List.getElem_cons_succ, List.getElem_cons_zero, Act.put, List.setIfInBounds_toArray, List.set_cons_succ, List.set_cons_zero]
 refine readyH 4 _ (by kernel_rfl) rfl (by kernel_rfl) (fun K hK => ?_)
 go_simp
 refine (HF.out _).mono ?_
 rintro e w3 ⟨rfl, hw3⟩
 have hw3' := hw3.symm
 clear hw3
 subst hw3'
 refine hK _ _ HSW.out ?_
 clear hK K
 refine wpAnyH_take (i := 5) (v := ?_) rfl (by kernel_rfl) (by kernel_rfl) (by kernel_rfl) (fun _ _ _ h => h) (Or.inl ⟨by kernel_rfl, ?_⟩) HSW.out ?_
 rotate_left
 ·rintro w ⟨e0,e1,e2,e3,e4,e5,e6,e7,e8,e9,e10⟩; go_simp; try with_reducible rfl
 conv in (Act.put _ _ _) => simp only [List.getElem_toArray, List.getElem_cons_succ, List.getElem_cons_zero, Act.put, List.setIfInBounds_toArray, List.set_cons_succ, List.set_cons_zero]
 refine wpAnyH_take (i := 6) (v := ?_) rfl (by kernel_rfl) (by kernel_rfl) (by kernel_rfl) (fun _ _ _ h => h) (Or.inl ⟨by kernel_rfl, ?_⟩) HSW.out ?_
 rotate_left
 ·rintro w ⟨e0,e1,e2,e3,e4,e5,e6,e7,e8,e9,e10⟩; go_simp; try with_reducible rfl
 conv in (Act.put _ _ _) => simp only [List.getElem_toArray, List.getElem_cons_succ, List.getElem_cons_zero, Act.put, List.setIfInBounds_toArray, List.set_cons_succ, List.set_cons_zero]
 refine wpAnyH_take (i := 7) (v := ?_) rfl (by kernel_rfl) (by kernel_rfl) (by kernel_rfl) (fun _ _ _ h => h) (Or.inl ⟨by kernel_rfl, ?_⟩) HSW.out ?_
 rotate_left
 ·rintro w ⟨e0,e1,e2,e3,e4,e5,e6,e7,e8,e9,e10⟩; go_simp; try with_reducible rfl
 conv in (Act.put _ _ _) => simp only [List.getElem_toArray, List.getElem_cons_succ, List.getElem_cons_zero, Act.put, List.setIfInBounds_toArray, List.set_cons_succ, List.set_cons_zero]
 refine wpAnyH_take (i := 8) (v := ?_) rfl (by kernel_rfl) (by kernel_rfl) (by kernel_rfl) (fun _ _ _ h => h) (Or.inl ⟨by kernel_rfl, ?_⟩) HSW.out ?_
 rotate_left
 ·rintro w ⟨e0,e1,e2,e3,e4,e5,e6,e7,e8,e9,e10⟩; go_simp; try with_reducible rfl
 conv in (Act.put _ _ _) => simp only [List.getElem_toArray, List.getElem_cons_succ, List.getElem_cons_zero, Act.put, List.setIfInBounds_toArray, List.set_cons_succ, List.set_cons_zero]
 refine wpAnyH_take (i := 9) (v := ?_) rfl (by kernel_rfl) (by kernel_rfl) (by kernel_rfl) (fun _ _ _ h => h) (Or.inl ⟨by kernel_rfl, ?_⟩) HSW.out ?_
 rotate_left
 ·rintro w ⟨e0,e1,e2,e3,e4,e5,e6,e7,e8,e9,e10⟩; go_simp; try with_reducible rfl
 conv in (Act.put _ _ _) => simp only [List.getElem_toArray, List.getElem_cons_succ, List.getElem_cons_zero, Act.put, List.setIfInBounds_toArray, List.set_cons_succ, List.set_cons_zero]
 refine wpAnyH_take (i := 10) (v := ?_) rfl (by kernel_rfl) (by kernel_rfl) (by kernel_rfl) (fun _ _ _ h => h) (Or.inl ⟨by kernel_rfl, ?_⟩) HSW.out ?_
 rotate_left
 ·rintro w ⟨e0,e1,e2,e3,e4,e5,e6,e7,e8,e9,e10⟩; go_simp; try with_reducible rfl
 conv in (Act.put _ _ _) => simp only [List.getElem_toArray, List.getElem_cons_succ, List.getElem_cons_zero, Act.put, List.setIfInBounds_toArray, List.set_cons_succ, List.set_cons_zero]
 refine wpAnyH_done (by kernel_rfl) ?_ _
 have HB2 : Hid (Below w.heap.size w w1.drew) := HB1.out.drew
 go_wp2_with fail
 refine Calls.mono (HK.out _ _ (show w1.drew.heap[W0.heap.size]? = _ from HQ2.out)) ?_
 rintro e w4 ⟨o, cap, rfl, hs, b4⟩
 have HB3 : Hid (Below w.heap.size w w4) := HB2.out.trans (b4.mono HB2.out.size)
 clear hs b4
 go_wp2_with fail
 go_ret
 exact ⟨by rw [HV.out]; rfl, HB3.out⟩
set_option maxRecDepth 100000 in
set_option maxHeartbeats 4000000 in
theorem check_2 (a b c d x y sq : Nat) (kk : Int) (af : Nat) (fr : Bool) (hK : ¬ (kk < 1 ∨ 64 < kk)) (w : World) : Calls Try.prog 11 #[qv ⟨2, a, b, c, d, x, y, sq, kk, af, fr⟩] w fun e w' => e = .returned (.int .i64 (chk ⟨2, a, b, c, d, x, y, sq, kk, af, fr⟩)) ∧ Below w.heap.size w w' := by
 have hv : chk ⟨2, a, b, c, d, x, y, sq, kk, af, fr⟩ = if kk < 1 ∨ 64 < kk then 82 else rndE x y := by
  rw [chk_in (by simp)]
  simp [fndE]
 have HLK : Hid (∀ (W : World) (m g : Nat), W.heap[m]? = some (.map (kmap g) 4) → _) := fun W m g h => look_2 h
 have HF : Hid (∀ W : World, Calls Try.prog 25 #[.int .i64 2] W fun e w' => e = .returned (.int .i64 1) ∧ w' = W) := fun W => fewest_any 2 W
 have hb := below_new w (qcs ⟨2, a, b, c, d, x, y, sq, kk, af, fr⟩)
 have hg := heap_alloc_new w (qcs ⟨2, a, b, c, d, x, y, sq, kk, af, fr⟩)
 obtain ⟨W0, hW0⟩ : ∃ W0, w.alloc (qcs ⟨2, a, b, c, d, x, y, sq, kk, af, fr⟩) = W0 := ⟨_, rfl⟩
 rw [hW0] at hb hg
 have HW0 : Hid _ := hW0
 have HG0 : Hid (W0.heap[w.heap.size]? = some (qcs ⟨2, a, b, c, d, x, y, sq, kk, af, fr⟩)) := hg
 have HB0 : Hid (Below w.heap.size w W0) := hb
 have HKD : Hid _ := kinds_any ⟨2, a, b, c, d, x, y, sq, kk, af, fr⟩
 have HSW : Hid (QC w.heap.size ⟨2, a, b, c, d, x, y, sq, kk, af, fr⟩ W0.drew) := qc_of hg
 clear hb hg hW0
 simp only [qv] at HKD ⊢
 have HK : Hid (∀ (W : World) (g : Nat), W.heap[g]? = some (qcs ⟨2, a, b, c, d, x, y, sq, kk, af, fr⟩) → _) := fun W g h => kind2_any g ⟨2, a, b, c, d, x, y, sq, kk, af, fr⟩ ⟨0, 0, 0, none, 0, 0, none, 0, 0⟩ [] 32 W h (node_nil _ 31 W) (fun r hr => by simp at hr) (by simp) .nil
 simp only [nv] at HK
 have HV : Hid (chk ⟨2, a, b, c, d, x, y, sq, kk, af, fr⟩ = rndE x y) := hv.trans (if_neg hK)
 clear hv
 have g1 : decide (kk < 1) = false := decide_eq_false (fun h => hK (.inl h))
 have g2 : decide (64 < kk) = false := decide_eq_false (fun h => hK (.inr h))
 clear hK
 go_enter Try.func11, Try.ntmps11
 go_wp2_with (first | (rw [HW0.out]; clear HW0))
 refine wp_region_held (S := QC w.heap.size ⟨2, a, b, c, d, x, y, sq, kk, af, fr⟩) (by kernel_rfl) ?_
 change wpAnyH _ _ _ _ _ _ _ _ (World.drew _)
 refine wpAnyH_take (i := 0) (v := ?_) rfl (by kernel_rfl) (by kernel_rfl) (by kernel_rfl) (fun _ _ _ h => h) (Or.inl ⟨by kernel_rfl, ?_⟩) HSW.out ?_
 rotate_left
 ·rintro w ⟨e0,e1,e2,e3,e4,e5,e6,e7,e8,e9,e10⟩; go_simp; try with_reducible rfl
 conv in (Act.put _ _ _) => simp only [List.getElem_toArray, List.getElem_cons_succ, List.getElem_cons_zero, Act.put, List.setIfInBounds_toArray, List.set_cons_succ, List.set_cons_zero]
 refine wpAnyH_take (i := 2) (v := ?_) rfl (by kernel_rfl) (by kernel_rfl) (by kernel_rfl) (fun _ _ _ h => h) (Or.inl ⟨by kernel_rfl, ?_⟩) HSW.out ?_
 rotate_left
 ·rintro w ⟨e0,e1,e2,e3,e4,e5,e6,e7,e8,e9,e10⟩; go_simp; try with_reducible rfl
 conv in (Act.put _ _ _) => simp only [List.getElem_toArray, List.getElem_cons_succ, List.getElem_cons_zero, Act.put, List.setIfInBounds_toArray, List.set_cons_succ, List.set_cons_zero]
 refine wpAnyH_take (i := 3) (v := ?_) rfl (by kernel_rfl) (by kernel_rfl) (by kernel_rfl) (fun _ _ _ h => h) (Or.inl ⟨by kernel_rfl, ?_⟩) HSW.out ?_
 rotate_left
 ·rintro w ⟨e0,e1,e2,e3,e4,e5,e6,e7,e8,e9,e10⟩; go_simp; try with_reducible rfl
 conv in (Act.put _ _ _) => simp only [List.getElem_toArray, List.getElem_cons_succ, List.getElem_cons_zero, Act.put, List.setIfInBounds_toArray, List.set_cons_succ, List.set_cons_zero]
 refine readyH 1 _ (by kernel_rfl) rfl (by kernel_rfl) (fun K hK => ?_)
 go_simp
 refine (HKD.out _).mono ?_
 rintro e w1 ⟨m, rfl, hm, hmap, hq2, b1⟩
 replace b1 : Below W0.heap.size W0 w1 := (Below.refl _ W0).drew.trans b1
 have hg1 := (b1.block _ (Array.getElem?_eq_some_iff.1 HG0.out).1).trans HG0.out
 have HG1 : Hid (w1.heap[w.heap.size]? = some (qcs ⟨2, a, b, c, d, x, y, sq, kk, af, fr⟩)) := hg1
 have HQ2 : Hid _ := hq2
 have HB1 : Hid (Below w.heap.size w w1) := HB0.out.trans (b1.mono HB0.out.size)
 have hlk := HLK.out w1 m _ hmap
 clear HSW
 have HSW : Hid (QC w.heap.size ⟨2, a, b, c, d, x, y, sq, kk, af, fr⟩ w1) := qc_of hg1
 clear hg1 b1 hmap hm HLK HKD hq2
 refine hK _ _ HSW.out ?_
 clear hK K
 refine readyH 4 _ (by kernel_rfl) rfl (by kernel_rfl) (fun K hK => ?_)
 go_simp
 refine hK _ _ HSW.out ?_
 clear hK K
 refine wpAnyH_take (i := 5) (v := ?_) rfl (by kernel_rfl) (by kernel_rfl) (by kernel_rfl) (fun _ _ _ h => h) (Or.inl ⟨by kernel_rfl, ?_⟩) HSW.out ?_
 rotate_left
 ·rintro w ⟨e0,e1,e2,e3,e4,e5,e6,e7,e8,e9,e10⟩; go_simp; try with_reducible rfl
 conv in (Act.put _ _ _) => simp only [List.getElem_toArray, List.getElem_cons_succ, List.getElem_cons_zero, Act.put, List.setIfInBounds_toArray, List.set_cons_succ, List.set_cons_zero]
 refine wpAnyH_take (i := 6) (v := ?_) rfl (by kernel_rfl) (by kernel_rfl) (by kernel_rfl) (fun _ _ _ h => h) (Or.inl ⟨by kernel_rfl, ?_⟩) HSW.out ?_
 rotate_left
 ·rintro w ⟨e0,e1,e2,e3,e4,e5,e6,e7,e8,e9,e10⟩; go_simp; try with_reducible rfl
 conv in (Act.put _ _ _) => simp only [List.getElem_toArray, List.getElem_cons_succ, List.getElem_cons_zero, Act.put, List.setIfInBounds_toArray, List.set_cons_succ, List.set_cons_zero]
 refine wpAnyH_take (i := 7) (v := ?_) rfl (by kernel_rfl) (by kernel_rfl) (by kernel_rfl) (fun _ _ _ h => h) (Or.inl ⟨by kernel_rfl, ?_⟩) HSW.out ?_
 rotate_left
 ·rintro w ⟨e0,e1,e2,e3,e4,e5,e6,e7,e8,e9,e10⟩; go_simp; try with_reducible rfl
 conv in (Act.put _ _ _) => simp only [List.getElem_toArray, List.getElem_cons_succ, List.getElem_cons_zero, Act.put, List.setIfInBounds_toArray, List.set_cons_succ, List.set_cons_zero]
 refine wpAnyH_take (i := 8) (v := ?_) rfl (by kernel_rfl) (by kernel_rfl) (by kernel_rfl) (fun _ _ _ h => h) (Or.inl ⟨by kernel_rfl, ?_⟩) HSW.out ?_
 rotate_left
 ·rintro w ⟨e0,e1,e2,e3,e4,e5,e6,e7,e8,e9,e10⟩; go_simp; try with_reducible rfl
 conv in (Act.put _ _ _) => simp only [List.getElem_toArray, List.getElem_cons_succ, List.getElem_cons_zero, Act.put, List.setIfInBounds_toArray, List.set_cons_succ, List.set_cons_zero]
 refine wpAnyH_take (i := 9) (v := ?_) rfl (by kernel_rfl) (by kernel_rfl) (by kernel_rfl) (fun _ _ _ h => h) (Or.inl ⟨by kernel_rfl, ?_⟩) HSW.out ?_
 rotate_left
 ·rintro w ⟨e0,e1,e2,e3,e4,e5,e6,e7,e8,e9,e10⟩; go_simp; try with_reducible rfl
 conv in (Act.put _ _ _) => simp only [List.getElem_toArray, List.getElem_cons_succ, List.getElem_cons_zero, Act.put, List.setIfInBounds_toArray, List.set_cons_succ, List.set_cons_zero]
 refine wpAnyH_done (by kernel_rfl) ?_ _
 go_wp2_with fail
 refine wp_region_held (S := QC w.heap.size ⟨2, a, b, c, d, x, y, sq, kk, af, fr⟩) (by kernel_rfl) ?_
 change wpAnyH _ _ _ _ _ _ _ _ (World.drew _)
 replace HSW : Hid (QC w.heap.size ⟨2, a, b, c, d, x, y, sq, kk, af, fr⟩ w1.drew) := qc_of HG1.out
 refine wpAnyH_take (i := 0) (v := ?_) rfl (by kernel_rfl) (by kernel_rfl) (by kernel_rfl) (fun _ _ _ h => h) (Or.inl ⟨by kernel_rfl, ?_⟩) HSW.out ?_
 rotate_left
 ·rintro w ⟨e0,e1,e2,e3,e4,e5,e6,e7,e8,e9,e10⟩; go_simp; try with_reducible rfl
 conv in (Act.put _ _ _) => simp only [List.getElem_toArray, List.getElem_cons_succ, List.getElem_cons_zero, Act.put, List.setIfInBounds_toArray, List.set_cons_succ, List.set_cons_zero]
 refine wpAnyH_take (i := 1) (v := ?_) rfl (by kernel_rfl) (by kernel_rfl) (by kernel_rfl) (fun _ _ _ h => h) (Or.inl ⟨by kernel_rfl, ?_⟩) HSW.out ?_
 rotate_left
 ·rintro w ⟨e0,e1,e2,e3,e4,e5,e6,e7,e8,e9,e10⟩; go_simp; try with_reducible rfl
 conv in (Act.put _ _ _) => simp only [List.getElem_toArray, List.getElem_cons_succ, List.getElem_cons_zero, Act.put, List.setIfInBounds_toArray, List.set_cons_succ, List.set_cons_zero]
 refine wpAnyH_take (i := 2) (v := ?_) rfl (by kernel_rfl) (by kernel_rfl) (by kernel_rfl) (fun _ _ _ h => h) (Or.inl ⟨by kernel_rfl, ?_⟩) HSW.out ?_
 rotate_left
 ·rintro w ⟨e0,e1,e2,e3,e4,e5,e6,e7,e8,e9,e10⟩; go_simp; try with_reducible rfl
 conv in (Act.put _ _ _) => simp only [List.getElem_toArray, List.getElem_cons_succ, List.getElem_cons_zero, Act.put, List.setIfInBounds_toArray, List.set_cons_succ, List.set_cons_zero]
 refine wpAnyH_take (i := 3) (v := ?_) rfl (by kernel_rfl) (by kernel_rfl) (by kernel_rfl) (fun _ _ _ h => h) (Or.inl ⟨by kernel_rfl, ?_⟩) HSW.out ?_
 rotate_left
 ·rintro w ⟨e0,e1,e2,e3,e4,e5,e6,e7,e8,e9,e10⟩; go_simp; try with_reducible rfl
 conv in (Act.put _ _ _) => simp only [List.getElem_toArray, List.getElem_cons_succ, List.getElem_cons_zero, Act.put, List.setIfInBounds_toArray, List.set_cons_succ, List.set_cons_zero]
 refine readyH 4 _ (by kernel_rfl) rfl (by kernel_rfl) (fun K hK => ?_)
 go_simp
 refine (HF.out _).mono ?_
 rintro e w3 ⟨rfl, hw3⟩
 have hw3' := hw3.symm
 clear hw3
 subst hw3'
 refine hK _ _ HSW.out ?_
 clear hK K
 refine wpAnyH_take (i := 5) (v := ?_) rfl (by kernel_rfl) (by kernel_rfl) (by kernel_rfl) (fun _ _ _ h => h) (Or.inl ⟨by kernel_rfl, ?_⟩) HSW.out ?_
 rotate_left
 ·rintro w ⟨e0,e1,e2,e3,e4,e5,e6,e7,e8,e9,e10⟩; go_simp; try with_reducible rfl
 conv in (Act.put _ _ _) => simp only [List.getElem_toArray, List.getElem_cons_succ, List.getElem_cons_zero, Act.put, List.setIfInBounds_toArray, List.set_cons_succ, List.set_cons_zero]
 refine wpAnyH_take (i := 6) (v := ?_) rfl (by kernel_rfl) (by kernel_rfl) (by kernel_rfl) (fun _ _ _ h => h) (Or.inl ⟨by kernel_rfl, ?_⟩) HSW.out ?_
 rotate_left
 ·rintro w ⟨e0,e1,e2,e3,e4,e5,e6,e7,e8,e9,e10⟩; go_simp; try with_reducible rfl
 conv in (Act.put _ _ _) => simp only [List.getElem_toArray, List.getElem_cons_succ, List.getElem_cons_zero, Act.put, List.setIfInBounds_toArray, List.set_cons_succ, List.set_cons_zero]
 refine wpAnyH_take (i := 7) (v := ?_) rfl (by kernel_rfl) (by kernel_rfl) (by kernel_rfl) (fun _ _ _ h => h) (Or.inl ⟨by kernel_rfl, ?_⟩) HSW.out ?_
 rotate_left
 ·rintro w ⟨e0,e1,e2,e3,e4,e5,e6,e7,e8,e9,e10⟩; go_simp; try with_reducible rfl
 conv in (Act.put _ _ _) => simp only [List.getElem_toArray, List.getElem_cons_succ, List.getElem_cons_zero, Act.put, List.setIfInBounds_toArray, List.set_cons_succ, List.set_cons_zero]
 refine wpAnyH_take (i := 8) (v := ?_) rfl (by kernel_rfl) (by kernel_rfl) (by kernel_rfl) (fun _ _ _ h => h) (Or.inl ⟨by kernel_rfl, ?_⟩) HSW.out ?_
 rotate_left
 ·rintro w ⟨e0,e1,e2,e3,e4,e5,e6,e7,e8,e9,e10⟩; go_simp; try with_reducible rfl
 conv in (Act.put _ _ _) => simp only [List.getElem_toArray, List.getElem_cons_succ, List.getElem_cons_zero, Act.put, List.setIfInBounds_toArray, List.set_cons_succ, List.set_cons_zero]
 refine wpAnyH_take (i := 9) (v := ?_) rfl (by kernel_rfl) (by kernel_rfl) (by kernel_rfl) (fun _ _ _ h => h) (Or.inl ⟨by kernel_rfl, ?_⟩) HSW.out ?_
 rotate_left
 ·rintro w ⟨e0,e1,e2,e3,e4,e5,e6,e7,e8,e9,e10⟩; go_simp; try with_reducible rfl
 conv in (Act.put _ _ _) => simp only [List.getElem_toArray, List.getElem_cons_succ, List.getElem_cons_zero, Act.put, List.setIfInBounds_toArray, List.set_cons_succ, List.set_cons_zero]
 refine wpAnyH_take (i := 10) (v := ?_) rfl (by kernel_rfl) (by kernel_rfl) (by kernel_rfl) (fun _ _ _ h => h) (Or.inl ⟨by kernel_rfl, ?_⟩) HSW.out ?_
 rotate_left
 ·rintro w ⟨e0,e1,e2,e3,e4,e5,e6,e7,e8,e9,e10⟩; go_simp; try with_reducible rfl
 conv in (Act.put _ _ _) => simp only [List.getElem_toArray, List.getElem_cons_succ, List.getElem_cons_zero, Act.put, List.setIfInBounds_toArray, List.set_cons_succ, List.set_cons_zero]
 refine wpAnyH_done (by kernel_rfl) ?_ _
 have HB2 : Hid (Below w.heap.size w w1.drew) := HB1.out.drew
 go_wp2_with fail
 refine Calls.mono (HK.out _ _ (show w1.drew.heap[W0.heap.size]? = _ from HQ2.out)) ?_
 rintro e w4 ⟨o, cap, rfl, hs, b4⟩
 have HB3 : Hid (Below w.heap.size w w4) := HB2.out.trans (b4.mono HB2.out.size)
 clear hs b4
 go_wp2_with fail
 go_ret
 exact ⟨by rw [HV.out]; rfl, HB3.out⟩
set_option maxRecDepth 100000 in
set_option maxHeartbeats 4000000 in
theorem check_3 (a b c d x y sq : Nat) (kk : Int) (af : Nat) (fr : Bool) (hK : ¬ (kk < 0 ∨ 64 < kk)) (w : World) : Calls Try.prog 11 #[qv ⟨3, a, b, c, d, x, y, sq, kk, af, fr⟩] w fun e w' => e = .returned (.int .i64 (chk ⟨3, a, b, c, d, x, y, sq, kk, af, fr⟩)) ∧ Below w.heap.size w w' := by
 have hv : chk ⟨3, a, b, c, d, x, y, sq, kk, af, fr⟩ = if kk < 0 ∨ 64 < kk then 82 else rndE x y := by
  rw [chk_in (by simp)]
  simp [fndE]
 have HLK : Hid (∀ (W : World) (m g : Nat), W.heap[m]? = some (.map (kmap g) 4) → _) := fun W m g h => look_3 h
 have HF : Hid (∀ W : World, Calls Try.prog 25 #[.int .i64 3] W fun e w' => e = .returned (.int .i64 0) ∧ w' = W) := fun W => fewest_any 3 W
 have hb := below_new w (qcs ⟨3, a, b, c, d, x, y, sq, kk, af, fr⟩)
 have hg := heap_alloc_new w (qcs ⟨3, a, b, c, d, x, y, sq, kk, af, fr⟩)
 obtain ⟨W0, hW0⟩ : ∃ W0, w.alloc (qcs ⟨3, a, b, c, d, x, y, sq, kk, af, fr⟩) = W0 := ⟨_, rfl⟩
 rw [hW0] at hb hg
 have HW0 : Hid _ := hW0
 have HG0 : Hid (W0.heap[w.heap.size]? = some (qcs ⟨3, a, b, c, d, x, y, sq, kk, af, fr⟩)) := hg
 have HB0 : Hid (Below w.heap.size w W0) := hb
 have HKD : Hid _ := kinds_any ⟨3, a, b, c, d, x, y, sq, kk, af, fr⟩
 have HSW : Hid (QC w.heap.size ⟨3, a, b, c, d, x, y, sq, kk, af, fr⟩ W0.drew) := qc_of hg
 clear hb hg hW0
 simp only [qv] at HKD ⊢
 have HK : Hid (∀ (W : World) (g : Nat), W.heap[g]? = some (qcs ⟨3, a, b, c, d, x, y, sq, kk, af, fr⟩) → _) := fun W g h => kind3_any g ⟨3, a, b, c, d, x, y, sq, kk, af, fr⟩ ⟨0, 0, 0, none, 0, 0, none, 0, 0⟩ [] 32 0 W h (node_nil _ 31 W) (fun r hr => by simp at hr) (by simp) .nil (fun r hr => by simp at hr)
 simp only [nv] at HK
 have HV : Hid (chk ⟨3, a, b, c, d, x, y, sq, kk, af, fr⟩ = rndE x y) := hv.trans (if_neg hK)
 clear hv
 have g1 : decide (kk < 0) = false := decide_eq_false (fun h => hK (.inl h))
 have g2 : decide (64 < kk) = false := decide_eq_false (fun h => hK (.inr h))
 clear hK
 go_enter Try.func11, Try.ntmps11
 go_wp2_with (first | (rw [HW0.out]; clear HW0))
 refine wp_region_held (S := QC w.heap.size ⟨3, a, b, c, d, x, y, sq, kk, af, fr⟩) (by kernel_rfl) ?_
 change wpAnyH _ _ _ _ _ _ _ _ (World.drew _)
 refine wpAnyH_take (i := 0) (v := ?_) rfl (by kernel_rfl) (by kernel_rfl) (by kernel_rfl) (fun _ _ _ h => h) (Or.inl ⟨by kernel_rfl, ?_⟩) HSW.out ?_
 rotate_left
 ·rintro w ⟨e0,e1,e2,e3,e4,e5,e6,e7,e8,e9,e10⟩; go_simp; try with_reducible rfl
 conv in (Act.put _ _ _) => simp only [List.getElem_toArray, List.getElem_cons_succ, List.getElem_cons_zero, Act.put, List.setIfInBounds_toArray, List.set_cons_succ, List.set_cons_zero]
 refine wpAnyH_take (i := 2) (v := ?_) rfl (by kernel_rfl) (by kernel_rfl) (by kernel_rfl) (fun _ _ _ h => h) (Or.inl ⟨by kernel_rfl, ?_⟩) HSW.out ?_
 rotate_left
 ·rintro w ⟨e0,e1,e2,e3,e4,e5,e6,e7,e8,e9,e10⟩; go_simp; try with_reducible rfl
 conv in (Act.put _ _ _) => simp only [List.getElem_toArray, List.getElem_cons_succ, List.getElem_cons_zero, Act.put, List.setIfInBounds_toArray, List.set_cons_succ, List.set_cons_zero]
 refine wpAnyH_take (i := 3) (v := ?_) rfl (by kernel_rfl) (by kernel_rfl) (by kernel_rfl) (fun _ _ _ h => h) (Or.inl ⟨by kernel_rfl, ?_⟩) HSW.out ?_
 rotate_left
 ·rintro w ⟨e0,e1,e2,e3,e4,e5,e6,e7,e8,e9,e10⟩; go_simp; try with_reducible rfl
 conv in (Act.put _ _ _) => simp only [List.getElem_toArray, List.getElem_cons_succ, List.getElem_cons_zero, Act.put, List.setIfInBounds_toArray, List.set_cons_succ, List.set_cons_zero]
 refine readyH 1 _ (by kernel_rfl) rfl (by kernel_rfl) (fun K hK => ?_)
 go_simp
 refine (HKD.out _).mono ?_
 rintro e w1 ⟨m, rfl, hm, hmap, hq2, b1⟩
 replace b1 : Below W0.heap.size W0 w1 := (Below.refl _ W0).drew.trans b1
 have hg1 := (b1.block _ (Array.getElem?_eq_some_iff.1 HG0.out).1).trans HG0.out
 have HG1 : Hid (w1.heap[w.heap.size]? = some (qcs ⟨3, a, b, c, d, x, y, sq, kk, af, fr⟩)) := hg1
 have HQ2 : Hid _ := hq2
 have HB1 : Hid (Below w.heap.size w w1) := HB0.out.trans (b1.mono HB0.out.size)
 have hlk := HLK.out w1 m _ hmap
 clear HSW
 have HSW : Hid (QC w.heap.size ⟨3, a, b, c, d, x, y, sq, kk, af, fr⟩ w1) := qc_of hg1
 clear hg1 b1 hmap hm HLK HKD hq2
 refine hK _ _ HSW.out ?_
 clear hK K
 refine readyH 4 _ (by kernel_rfl) rfl (by kernel_rfl) (fun K hK => ?_)
 go_simp
 refine hK _ _ HSW.out ?_
 clear hK K
 refine wpAnyH_take (i := 5) (v := ?_) rfl (by kernel_rfl) (by kernel_rfl) (by kernel_rfl) (fun _ _ _ h => h) (Or.inl ⟨by kernel_rfl, ?_⟩) HSW.out ?_
 rotate_left
 ·rintro w ⟨e0,e1,e2,e3,e4,e5,e6,e7,e8,e9,e10⟩; go_simp; try with_reducible rfl
 conv in (Act.put _ _ _) => simp only [List.getElem_toArray, List.getElem_cons_succ, List.getElem_cons_zero, Act.put, List.setIfInBounds_toArray, List.set_cons_succ, List.set_cons_zero]
 refine wpAnyH_take (i := 6) (v := ?_) rfl (by kernel_rfl) (by kernel_rfl) (by kernel_rfl) (fun _ _ _ h => h) (Or.inl ⟨by kernel_rfl, ?_⟩) HSW.out ?_
 rotate_left
 ·rintro w ⟨e0,e1,e2,e3,e4,e5,e6,e7,e8,e9,e10⟩; go_simp; try with_reducible rfl
 conv in (Act.put _ _ _) => simp only [List.getElem_toArray, List.getElem_cons_succ, List.getElem_cons_zero, Act.put, List.setIfInBounds_toArray, List.set_cons_succ, List.set_cons_zero]
 refine wpAnyH_take (i := 7) (v := ?_) rfl (by kernel_rfl) (by kernel_rfl) (by kernel_rfl) (fun _ _ _ h => h) (Or.inl ⟨by kernel_rfl, ?_⟩) HSW.out ?_
 rotate_left
 ·rintro w ⟨e0,e1,e2,e3,e4,e5,e6,e7,e8,e9,e10⟩; go_simp; try with_reducible rfl
 conv in (Act.put _ _ _) => simp only [List.getElem_toArray, List.getElem_cons_succ, List.getElem_cons_zero, Act.put, List.setIfInBounds_toArray, List.set_cons_succ, List.set_cons_zero]
 refine wpAnyH_take (i := 8) (v := ?_) rfl (by kernel_rfl) (by kernel_rfl) (by kernel_rfl) (fun _ _ _ h => h) (Or.inl ⟨by kernel_rfl, ?_⟩) HSW.out ?_
 rotate_left
 ·rintro w ⟨e0,e1,e2,e3,e4,e5,e6,e7,e8,e9,e10⟩; go_simp; try with_reducible rfl
 conv in (Act.put _ _ _) => simp only [List.getElem_toArray, List.getElem_cons_succ, List.getElem_cons_zero, Act.put, List.setIfInBounds_toArray, List.set_cons_succ, List.set_cons_zero]
 refine wpAnyH_take (i := 9) (v := ?_) rfl (by kernel_rfl) (by kernel_rfl) (by kernel_rfl) (fun _ _ _ h => h) (Or.inl ⟨by kernel_rfl, ?_⟩) HSW.out ?_
 rotate_left
 ·rintro w ⟨e0,e1,e2,e3,e4,e5,e6,e7,e8,e9,e10⟩; go_simp; try with_reducible rfl
 conv in (Act.put _ _ _) => simp only [List.getElem_toArray, List.getElem_cons_succ, List.getElem_cons_zero, Act.put, List.setIfInBounds_toArray, List.set_cons_succ, List.set_cons_zero]
 refine wpAnyH_done (by kernel_rfl) ?_ _
 go_wp2_with fail
 refine wp_region_held (S := QC w.heap.size ⟨3, a, b, c, d, x, y, sq, kk, af, fr⟩) (by kernel_rfl) ?_
 change wpAnyH _ _ _ _ _ _ _ _ (World.drew _)
 replace HSW : Hid (QC w.heap.size ⟨3, a, b, c, d, x, y, sq, kk, af, fr⟩ w1.drew) := qc_of HG1.out
 refine wpAnyH_take (i := 0) (v := ?_) rfl (by kernel_rfl) (by kernel_rfl) (by kernel_rfl) (fun _ _ _ h => h) (Or.inl ⟨by kernel_rfl, ?_⟩) HSW.out ?_
 rotate_left
 ·rintro w ⟨e0,e1,e2,e3,e4,e5,e6,e7,e8,e9,e10⟩; go_simp; try with_reducible rfl
 conv in (Act.put _ _ _) => simp only [List.getElem_toArray, List.getElem_cons_succ, List.getElem_cons_zero, Act.put, List.setIfInBounds_toArray, List.set_cons_succ, List.set_cons_zero]
 refine wpAnyH_take (i := 1) (v := ?_) rfl (by kernel_rfl) (by kernel_rfl) (by kernel_rfl) (fun _ _ _ h => h) (Or.inl ⟨by kernel_rfl, ?_⟩) HSW.out ?_
 rotate_left
 ·rintro w ⟨e0,e1,e2,e3,e4,e5,e6,e7,e8,e9,e10⟩; go_simp; try with_reducible rfl
 conv in (Act.put _ _ _) => simp only [List.getElem_toArray, List.getElem_cons_succ, List.getElem_cons_zero, Act.put, List.setIfInBounds_toArray, List.set_cons_succ, List.set_cons_zero]
 refine wpAnyH_take (i := 2) (v := ?_) rfl (by kernel_rfl) (by kernel_rfl) (by kernel_rfl) (fun _ _ _ h => h) (Or.inl ⟨by kernel_rfl, ?_⟩) HSW.out ?_
 rotate_left
 ·rintro w ⟨e0,e1,e2,e3,e4,e5,e6,e7,e8,e9,e10⟩; go_simp; try with_reducible rfl
 conv in (Act.put _ _ _) => simp only [List.getElem_toArray, List.getElem_cons_succ, List.getElem_cons_zero, Act.put, List.setIfInBounds_toArray, List.set_cons_succ, List.set_cons_zero]
 refine wpAnyH_take (i := 3) (v := ?_) rfl (by kernel_rfl) (by kernel_rfl) (by kernel_rfl) (fun _ _ _ h => h) (Or.inl ⟨by kernel_rfl, ?_⟩) HSW.out ?_
 rotate_left
 ·rintro w ⟨e0,e1,e2,e3,e4,e5,e6,e7,e8,e9,e10⟩; go_simp; try with_reducible rfl
 conv in (Act.put _ _ _) => simp only [List.getElem_toArray, List.getElem_cons_succ, List.getElem_cons_zero, Act.put, List.setIfInBounds_toArray, List.set_cons_succ, List.set_cons_zero]
 refine readyH 4 _ (by kernel_rfl) rfl (by kernel_rfl) (fun K hK => ?_)
 go_simp
 refine (HF.out _).mono ?_
 rintro e w3 ⟨rfl, hw3⟩
 have hw3' := hw3.symm
 clear hw3
 subst hw3'
 refine hK _ _ HSW.out ?_
 clear hK K
 refine wpAnyH_take (i := 5) (v := ?_) rfl (by kernel_rfl) (by kernel_rfl) (by kernel_rfl) (fun _ _ _ h => h) (Or.inl ⟨by kernel_rfl, ?_⟩) HSW.out ?_
 rotate_left
 ·rintro w ⟨e0,e1,e2,e3,e4,e5,e6,e7,e8,e9,e10⟩; go_simp; try with_reducible rfl
 conv in (Act.put _ _ _) => simp only [List.getElem_toArray, List.getElem_cons_succ, List.getElem_cons_zero, Act.put, List.setIfInBounds_toArray, List.set_cons_succ, List.set_cons_zero]
 refine wpAnyH_take (i := 6) (v := ?_) rfl (by kernel_rfl) (by kernel_rfl) (by kernel_rfl) (fun _ _ _ h => h) (Or.inl ⟨by kernel_rfl, ?_⟩) HSW.out ?_
 rotate_left
 ·rintro w ⟨e0,e1,e2,e3,e4,e5,e6,e7,e8,e9,e10⟩; go_simp; try with_reducible rfl
 conv in (Act.put _ _ _) => simp only [List.getElem_toArray, List.getElem_cons_succ, List.getElem_cons_zero, Act.put, List.setIfInBounds_toArray, List.set_cons_succ, List.set_cons_zero]
 refine wpAnyH_take (i := 7) (v := ?_) rfl (by kernel_rfl) (by kernel_rfl) (by kernel_rfl) (fun _ _ _ h => h) (Or.inl ⟨by kernel_rfl, ?_⟩) HSW.out ?_
 rotate_left
 ·rintro w ⟨e0,e1,e2,e3,e4,e5,e6,e7,e8,e9,e10⟩; go_simp; try with_reducible rfl
 conv in (Act.put _ _ _) => simp only [List.getElem_toArray, List.getElem_cons_succ, List.getElem_cons_zero, Act.put, List.setIfInBounds_toArray, List.set_cons_succ, List.set_cons_zero]
 refine wpAnyH_take (i := 8) (v := ?_) rfl (by kernel_rfl) (by kernel_rfl) (by kernel_rfl) (fun _ _ _ h => h) (Or.inl ⟨by kernel_rfl, ?_⟩) HSW.out ?_
 rotate_left
 ·rintro w ⟨e0,e1,e2,e3,e4,e5,e6,e7,e8,e9,e10⟩; go_simp; try with_reducible rfl
 conv in (Act.put _ _ _) => simp only [List.getElem_toArray, List.getElem_cons_succ, List.getElem_cons_zero, Act.put, List.setIfInBounds_toArray, List.set_cons_succ, List.set_cons_zero]
 refine wpAnyH_take (i := 9) (v := ?_) rfl (by kernel_rfl) (by kernel_rfl) (by kernel_rfl) (fun _ _ _ h => h) (Or.inl ⟨by kernel_rfl, ?_⟩) HSW.out ?_
 rotate_left
 ·rintro w ⟨e0,e1,e2,e3,e4,e5,e6,e7,e8,e9,e10⟩; go_simp; try with_reducible rfl
 conv in (Act.put _ _ _) => simp only [List.getElem_toArray, List.getElem_cons_succ, List.getElem_cons_zero, Act.put, List.setIfInBounds_toArray, List.set_cons_succ, List.set_cons_zero]
 refine wpAnyH_take (i := 10) (v := ?_) rfl (by kernel_rfl) (by kernel_rfl) (by kernel_rfl) (fun _ _ _ h => h) (Or.inl ⟨by kernel_rfl, ?_⟩) HSW.out ?_
 rotate_left
 ·rintro w ⟨e0,e1,e2,e3,e4,e5,e6,e7,e8,e9,e10⟩; go_simp; try with_reducible rfl
 conv in (Act.put _ _ _) => simp only [List.getElem_toArray, List.getElem_cons_succ, List.getElem_cons_zero, Act.put, List.setIfInBounds_toArray, List.set_cons_succ, List.set_cons_zero]
 refine wpAnyH_done (by kernel_rfl) ?_ _
 have HB2 : Hid (Below w.heap.size w w1.drew) := HB1.out.drew
 go_wp2_with fail
 refine Calls.mono (HK.out _ _ (show w1.drew.heap[W0.heap.size]? = _ from HQ2.out)) ?_
 rintro e w4 ⟨o, cap, rfl, hs, b4⟩
 have HB3 : Hid (Below w.heap.size w w4) := HB2.out.trans (b4.mono HB2.out.size)
 clear hs b4
 go_wp2_with fail
 go_ret
 exact ⟨by rw [HV.out]; rfl, HB3.out⟩
set_option maxRecDepth 100000 in
set_option maxHeartbeats 4000000 in
theorem check_4 (a b c d x y sq : Nat) (kk : Int) (af : Nat) (fr : Bool) (hK : ¬ (kk < 1 ∨ 64 < kk)) (w : World) : Calls Try.prog 11 #[qv ⟨4, a, b, c, d, x, y, sq, kk, af, fr⟩] w fun e w' => e = .returned (.int .i64 (chk ⟨4, a, b, c, d, x, y, sq, kk, af, fr⟩)) ∧ Below w.heap.size w w' := by
 have hv : chk ⟨4, a, b, c, d, x, y, sq, kk, af, fr⟩ = if kk < 1 ∨ 64 < kk then 82 else 0 := by
  rw [chk_in (by simp)]
  simp [fndE]
 have HLK : Hid (∀ (W : World) (m g : Nat), W.heap[m]? = some (.map (kmap g) 4) → _) := fun W m g h => look_4 h
 have HF : Hid (∀ W : World, Calls Try.prog 25 #[.int .i64 4] W fun e w' => e = .returned (.int .i64 1) ∧ w' = W) := fun W => fewest_any 4 W
 have hb := below_new w (qcs ⟨4, a, b, c, d, x, y, sq, kk, af, fr⟩)
 have hg := heap_alloc_new w (qcs ⟨4, a, b, c, d, x, y, sq, kk, af, fr⟩)
 obtain ⟨W0, hW0⟩ : ∃ W0, w.alloc (qcs ⟨4, a, b, c, d, x, y, sq, kk, af, fr⟩) = W0 := ⟨_, rfl⟩
 rw [hW0] at hb hg
 have HW0 : Hid _ := hW0
 have HG0 : Hid (W0.heap[w.heap.size]? = some (qcs ⟨4, a, b, c, d, x, y, sq, kk, af, fr⟩)) := hg
 have HB0 : Hid (Below w.heap.size w W0) := hb
 have HKD : Hid _ := kinds_any ⟨4, a, b, c, d, x, y, sq, kk, af, fr⟩
 have HSW : Hid (QC w.heap.size ⟨4, a, b, c, d, x, y, sq, kk, af, fr⟩ W0.drew) := qc_of hg
 clear hb hg hW0
 simp only [qv] at HKD ⊢
 have HK : Hid (∀ (W : World) (g : Nat), W.heap[g]? = some (qcs ⟨4, a, b, c, d, x, y, sq, kk, af, fr⟩) → _) := fun W g h => kind4_any ⟨0, 0, 0, none, 0, 0, none, 0, 0⟩ [] 32 W (node_nil _ 31 W) (fun r hr => by simp at hr) (by simp) .nil
 simp only [nv] at HK
 have HV : Hid (chk ⟨4, a, b, c, d, x, y, sq, kk, af, fr⟩ = 0) := hv.trans (if_neg hK)
 clear hv
 have g1 : decide (kk < 1) = false := decide_eq_false (fun h => hK (.inl h))
 have g2 : decide (64 < kk) = false := decide_eq_false (fun h => hK (.inr h))
 clear hK
 go_enter Try.func11, Try.ntmps11
 go_wp2_with (first | (rw [HW0.out]; clear HW0))
 refine wp_region_held (S := QC w.heap.size ⟨4, a, b, c, d, x, y, sq, kk, af, fr⟩) (by kernel_rfl) ?_
 change wpAnyH _ _ _ _ _ _ _ _ (World.drew _)
 refine wpAnyH_take (i := 0) (v := ?_) rfl (by kernel_rfl) (by kernel_rfl) (by kernel_rfl) (fun _ _ _ h => h) (Or.inl ⟨by kernel_rfl, ?_⟩) HSW.out ?_
 rotate_left
 ·rintro w ⟨e0,e1,e2,e3,e4,e5,e6,e7,e8,e9,e10⟩; go_simp; try with_reducible rfl
 conv in (Act.put _ _ _) => simp only [List.getElem_toArray, List.getElem_cons_succ, List.getElem_cons_zero, Act.put, List.setIfInBounds_toArray, List.set_cons_succ, List.set_cons_zero]
 refine wpAnyH_take (i := 2) (v := ?_) rfl (by kernel_rfl) (by kernel_rfl) (by kernel_rfl) (fun _ _ _ h => h) (Or.inl ⟨by kernel_rfl, ?_⟩) HSW.out ?_
 rotate_left
 ·rintro w ⟨e0,e1,e2,e3,e4,e5,e6,e7,e8,e9,e10⟩; go_simp; try with_reducible rfl
 conv in (Act.put _ _ _) => simp only [List.getElem_toArray, List.getElem_cons_succ, List.getElem_cons_zero, Act.put, List.setIfInBounds_toArray, List.set_cons_succ, List.set_cons_zero]
 refine wpAnyH_take (i := 3) (v := ?_) rfl (by kernel_rfl) (by kernel_rfl) (by kernel_rfl) (fun _ _ _ h => h) (Or.inl ⟨by kernel_rfl, ?_⟩) HSW.out ?_
 rotate_left
 ·rintro w ⟨e0,e1,e2,e3,e4,e5,e6,e7,e8,e9,e10⟩; go_simp; try with_reducible rfl
 conv in (Act.put _ _ _) => simp only [List.getElem_toArray, List.getElem_cons_succ, List.getElem_cons_zero, Act.put, List.setIfInBounds_toArray, List.set_cons_succ, List.set_cons_zero]
 refine readyH 1 _ (by kernel_rfl) rfl (by kernel_rfl) (fun K hK => ?_)
 go_simp
 refine (HKD.out _).mono ?_
 rintro e w1 ⟨m, rfl, hm, hmap, hq2, b1⟩
 replace b1 : Below W0.heap.size W0 w1 := (Below.refl _ W0).drew.trans b1
 have hg1 := (b1.block _ (Array.getElem?_eq_some_iff.1 HG0.out).1).trans HG0.out
 have HG1 : Hid (w1.heap[w.heap.size]? = some (qcs ⟨4, a, b, c, d, x, y, sq, kk, af, fr⟩)) := hg1
 have HQ2 : Hid _ := hq2
 have HB1 : Hid (Below w.heap.size w w1) := HB0.out.trans (b1.mono HB0.out.size)
 have hlk := HLK.out w1 m _ hmap
 clear HSW
 have HSW : Hid (QC w.heap.size ⟨4, a, b, c, d, x, y, sq, kk, af, fr⟩ w1) := qc_of hg1
 clear hg1 b1 hmap hm HLK HKD hq2
 refine hK _ _ HSW.out ?_
 clear hK K
 refine readyH 4 _ (by kernel_rfl) rfl (by kernel_rfl) (fun K hK => ?_)
 go_simp
 refine hK _ _ HSW.out ?_
 clear hK K
 refine wpAnyH_take (i := 5) (v := ?_) rfl (by kernel_rfl) (by kernel_rfl) (by kernel_rfl) (fun _ _ _ h => h) (Or.inl ⟨by kernel_rfl, ?_⟩) HSW.out ?_
 rotate_left
 ·rintro w ⟨e0,e1,e2,e3,e4,e5,e6,e7,e8,e9,e10⟩; go_simp; try with_reducible rfl
 conv in (Act.put _ _ _) => simp only [List.getElem_toArray, List.getElem_cons_succ, List.getElem_cons_zero, Act.put, List.setIfInBounds_toArray, List.set_cons_succ, List.set_cons_zero]
 refine wpAnyH_take (i := 6) (v := ?_) rfl (by kernel_rfl) (by kernel_rfl) (by kernel_rfl) (fun _ _ _ h => h) (Or.inl ⟨by kernel_rfl, ?_⟩) HSW.out ?_
 rotate_left
 ·rintro w ⟨e0,e1,e2,e3,e4,e5,e6,e7,e8,e9,e10⟩; go_simp; try with_reducible rfl
 conv in (Act.put _ _ _) => simp only [List.getElem_toArray, List.getElem_cons_succ, List.getElem_cons_zero, Act.put, List.setIfInBounds_toArray, List.set_cons_succ, List.set_cons_zero]
 refine wpAnyH_take (i := 7) (v := ?_) rfl (by kernel_rfl) (by kernel_rfl) (by kernel_rfl) (fun _ _ _ h => h) (Or.inl ⟨by kernel_rfl, ?_⟩) HSW.out ?_
 rotate_left
 ·rintro w ⟨e0,e1,e2,e3,e4,e5,e6,e7,e8,e9,e10⟩; go_simp; try with_reducible rfl
 conv in (Act.put _ _ _) => simp only [List.getElem_toArray, List.getElem_cons_succ, List.getElem_cons_zero, Act.put, List.setIfInBounds_toArray, List.set_cons_succ, List.set_cons_zero]
 refine wpAnyH_take (i := 8) (v := ?_) rfl (by kernel_rfl) (by kernel_rfl) (by kernel_rfl) (fun _ _ _ h => h) (Or.inl ⟨by kernel_rfl, ?_⟩) HSW.out ?_
 rotate_left
 ·rintro w ⟨e0,e1,e2,e3,e4,e5,e6,e7,e8,e9,e10⟩; go_simp; try with_reducible rfl
 conv in (Act.put _ _ _) => simp only [List.getElem_toArray, List.getElem_cons_succ, List.getElem_cons_zero, Act.put, List.setIfInBounds_toArray, List.set_cons_succ, List.set_cons_zero]
 refine wpAnyH_take (i := 9) (v := ?_) rfl (by kernel_rfl) (by kernel_rfl) (by kernel_rfl) (fun _ _ _ h => h) (Or.inl ⟨by kernel_rfl, ?_⟩) HSW.out ?_
 rotate_left
 ·rintro w ⟨e0,e1,e2,e3,e4,e5,e6,e7,e8,e9,e10⟩; go_simp; try with_reducible rfl
 conv in (Act.put _ _ _) => simp only [List.getElem_toArray, List.getElem_cons_succ, List.getElem_cons_zero, Act.put, List.setIfInBounds_toArray, List.set_cons_succ, List.set_cons_zero]
 refine wpAnyH_done (by kernel_rfl) ?_ _
 go_wp2_with fail
 refine wp_region_held (S := QC w.heap.size ⟨4, a, b, c, d, x, y, sq, kk, af, fr⟩) (by kernel_rfl) ?_
 change wpAnyH _ _ _ _ _ _ _ _ (World.drew _)
 replace HSW : Hid (QC w.heap.size ⟨4, a, b, c, d, x, y, sq, kk, af, fr⟩ w1.drew) := qc_of HG1.out
 refine wpAnyH_take (i := 0) (v := ?_) rfl (by kernel_rfl) (by kernel_rfl) (by kernel_rfl) (fun _ _ _ h => h) (Or.inl ⟨by kernel_rfl, ?_⟩) HSW.out ?_
 rotate_left
 ·rintro w ⟨e0,e1,e2,e3,e4,e5,e6,e7,e8,e9,e10⟩; go_simp; try with_reducible rfl
 conv in (Act.put _ _ _) => simp only [List.getElem_toArray, List.getElem_cons_succ, List.getElem_cons_zero, Act.put, List.setIfInBounds_toArray, List.set_cons_succ, List.set_cons_zero]
 refine wpAnyH_take (i := 1) (v := ?_) rfl (by kernel_rfl) (by kernel_rfl) (by kernel_rfl) (fun _ _ _ h => h) (Or.inl ⟨by kernel_rfl, ?_⟩) HSW.out ?_
 rotate_left
 ·rintro w ⟨e0,e1,e2,e3,e4,e5,e6,e7,e8,e9,e10⟩; go_simp; try with_reducible rfl
 conv in (Act.put _ _ _) => simp only [List.getElem_toArray, List.getElem_cons_succ, List.getElem_cons_zero, Act.put, List.setIfInBounds_toArray, List.set_cons_succ, List.set_cons_zero]
 refine wpAnyH_take (i := 2) (v := ?_) rfl (by kernel_rfl) (by kernel_rfl) (by kernel_rfl) (fun _ _ _ h => h) (Or.inl ⟨by kernel_rfl, ?_⟩) HSW.out ?_
 rotate_left
 ·rintro w ⟨e0,e1,e2,e3,e4,e5,e6,e7,e8,e9,e10⟩; go_simp; try with_reducible rfl
 conv in (Act.put _ _ _) => simp only [List.getElem_toArray, List.getElem_cons_succ, List.getElem_cons_zero, Act.put, List.setIfInBounds_toArray, List.set_cons_succ, List.set_cons_zero]
 refine wpAnyH_take (i := 3) (v := ?_) rfl (by kernel_rfl) (by kernel_rfl) (by kernel_rfl) (fun _ _ _ h => h) (Or.inl ⟨by kernel_rfl, ?_⟩) HSW.out ?_
 rotate_left
 ·rintro w ⟨e0,e1,e2,e3,e4,e5,e6,e7,e8,e9,e10⟩; go_simp; try with_reducible rfl
 conv in (Act.put _ _ _) => simp only [List.getElem_toArray, List.getElem_cons_succ, List.getElem_cons_zero, Act.put, List.setIfInBounds_toArray, List.set_cons_succ, List.set_cons_zero]
 refine readyH 4 _ (by kernel_rfl) rfl (by kernel_rfl) (fun K hK => ?_)
 go_simp
 refine (HF.out _).mono ?_
 rintro e w3 ⟨rfl, hw3⟩
 have hw3' := hw3.symm
 clear hw3
 subst hw3'
 refine hK _ _ HSW.out ?_
 clear hK K
 refine wpAnyH_take (i := 5) (v := ?_) rfl (by kernel_rfl) (by kernel_rfl) (by kernel_rfl) (fun _ _ _ h => h) (Or.inl ⟨by kernel_rfl, ?_⟩) HSW.out ?_
 rotate_left
 ·rintro w ⟨e0,e1,e2,e3,e4,e5,e6,e7,e8,e9,e10⟩; go_simp; try with_reducible rfl
 conv in (Act.put _ _ _) => simp only [List.getElem_toArray, List.getElem_cons_succ, List.getElem_cons_zero, Act.put, List.setIfInBounds_toArray, List.set_cons_succ, List.set_cons_zero]
 refine wpAnyH_take (i := 6) (v := ?_) rfl (by kernel_rfl) (by kernel_rfl) (by kernel_rfl) (fun _ _ _ h => h) (Or.inl ⟨by kernel_rfl, ?_⟩) HSW.out ?_
 rotate_left
 ·rintro w ⟨e0,e1,e2,e3,e4,e5,e6,e7,e8,e9,e10⟩; go_simp; try with_reducible rfl
 conv in (Act.put _ _ _) => simp only [List.getElem_toArray, List.getElem_cons_succ, List.getElem_cons_zero, Act.put, List.setIfInBounds_toArray, List.set_cons_succ, List.set_cons_zero]
 refine wpAnyH_take (i := 7) (v := ?_) rfl (by kernel_rfl) (by kernel_rfl) (by kernel_rfl) (fun _ _ _ h => h) (Or.inl ⟨by kernel_rfl, ?_⟩) HSW.out ?_
 rotate_left
 ·rintro w ⟨e0,e1,e2,e3,e4,e5,e6,e7,e8,e9,e10⟩; go_simp; try with_reducible rfl
 conv in (Act.put _ _ _) => simp only [List.getElem_toArray, List.getElem_cons_succ, List.getElem_cons_zero, Act.put, List.setIfInBounds_toArray, List.set_cons_succ, List.set_cons_zero]
 refine wpAnyH_take (i := 8) (v := ?_) rfl (by kernel_rfl) (by kernel_rfl) (by kernel_rfl) (fun _ _ _ h => h) (Or.inl ⟨by kernel_rfl, ?_⟩) HSW.out ?_
 rotate_left
 ·rintro w ⟨e0,e1,e2,e3,e4,e5,e6,e7,e8,e9,e10⟩; go_simp; try with_reducible rfl
 conv in (Act.put _ _ _) => simp only [List.getElem_toArray, List.getElem_cons_succ, List.getElem_cons_zero, Act.put, List.setIfInBounds_toArray, List.set_cons_succ, List.set_cons_zero]
 refine wpAnyH_take (i := 9) (v := ?_) rfl (by kernel_rfl) (by kernel_rfl) (by kernel_rfl) (fun _ _ _ h => h) (Or.inl ⟨by kernel_rfl, ?_⟩) HSW.out ?_
 rotate_left
 ·rintro w ⟨e0,e1,e2,e3,e4,e5,e6,e7,e8,e9,e10⟩; go_simp; try with_reducible rfl
 conv in (Act.put _ _ _) => simp only [List.getElem_toArray, List.getElem_cons_succ, List.getElem_cons_zero, Act.put, List.setIfInBounds_toArray, List.set_cons_succ, List.set_cons_zero]
 refine wpAnyH_take (i := 10) (v := ?_) rfl (by kernel_rfl) (by kernel_rfl) (by kernel_rfl) (fun _ _ _ h => h) (Or.inl ⟨by kernel_rfl, ?_⟩) HSW.out ?_
 rotate_left
 ·rintro w ⟨e0,e1,e2,e3,e4,e5,e6,e7,e8,e9,e10⟩; go_simp; try with_reducible rfl
 conv in (Act.put _ _ _) => simp only [List.getElem_toArray, List.getElem_cons_succ, List.getElem_cons_zero, Act.put, List.setIfInBounds_toArray, List.set_cons_succ, List.set_cons_zero]
 refine wpAnyH_done (by kernel_rfl) ?_ _
 have HB2 : Hid (Below w.heap.size w w1.drew) := HB1.out.drew
 go_wp2_with fail
 refine Calls.mono (HK.out _ _ (show w1.drew.heap[W0.heap.size]? = _ from HQ2.out)) ?_
 rintro e w4 ⟨o, cap, rfl, hs, b4⟩
 have HB3 : Hid (Below w.heap.size w w4) := HB2.out.trans (b4.mono HB2.out.size)
 clear hs b4
 go_wp2_with fail
 go_ret
 exact ⟨by rw [HV.out]; rfl, HB3.out⟩
set_option maxRecDepth 100000 in
theorem check_any (q : Qr) (w : World) : Calls Try.prog 11 #[qv q] w fun e w' => e = .returned (.int .i64 (chk q)) ∧ Below w.heap.size w w' := by
 obtain ⟨k, a, b, c, d, x, y, sq, kk, af, fr⟩ := q
 by_cases h : k < 1 ∨ 4 < k
 ·rw [show chk ⟨k, a, b, c, d, x, y, sq, kk, af, fr⟩ = 2 from if_pos h]
  exact check_no k a b c d x y sq kk af fr h w
 ·by_cases hK : kk < (if k = 3 then 0 else 1) ∨ 64 < kk
  ·rw [show chk ⟨k, a, b, c, d, x, y, sq, kk, af, fr⟩ = 82 from (chk_in h).trans (if_pos hK)]
   exact check_many k a b c d x y sq kk af fr _ rfl h hK w
  ·obtain rfl | rfl | rfl | rfl : k = 1 ∨ k = 2 ∨ k = 3 ∨ k = 4 := by omega
   ·exact check_1 a b c d x y sq kk af fr hK w
   ·exact check_2 a b c d x y sq kk af fr hK w
   ·exact check_3 a b c d x y sq kk af fr hK w
   ·exact check_4 a b c d x y sq kk af fr hK w
end Go.Proofs.Ytimdlohdmddnjaa.Rf
