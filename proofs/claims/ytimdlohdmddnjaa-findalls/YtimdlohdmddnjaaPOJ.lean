/- What is found for a query. -/
import Derived.Test.YtimdlohdmddnjaaPOI
namespace Go.Proofs.Ytimdlohdmddnjaa.Rf
open Go.RowKit Go.Lib
open Go.Proofs.Ytimdlohdmddnjaa.Rc Go.Proofs.Ytimdlohdmddnjaa.Rq
set_option maxRecDepth 100000 in
theorem map_look1 {w : World} {m : Nat} {es : Array MapEntry} {cl : Nat} (h : w.heap[m]? = some (.map es cl)) (hks : ∀ e ∈ es.toList, MapKept.IsKey (.int .i64) e.key) (p : Int) (hin : ∃ e ∈ es.toList, e.key = .int .i64 p) :
  ∃ e ∈ es.toList, e.key = .int .i64 p ∧ (Instr.lookup 57 (.map (some m)) (.int .i64 p) false).run Try.prog w = .ok e.val w := by
 have hk : MapKept.IsKey (.int .i64) (.int .i64 p) := rfl
 rcases MapKept.findNow_spec hk es.toList 0 hks with ⟨k1, k2⟩ | ⟨j, e0, k1, k2, k3⟩
 ·obtain ⟨e, he, h2⟩ := hin
  exact absurd h2 (k2 e he)
 ·have fk := MapKept.run_findKey (w := w) Try.underlying3 k1
  refine ⟨e0, List.mem_of_getElem? k2, k3, ?_⟩
  simp only [Instr.lookup, Sem.run_bind, run_underlying Try.underlying57, MapKept.run_getObj_map h, MapKept.run_checkKey Try.underlying3 hk _ 9999, fk, Result.andThen, Sem.run_pure]
  rfl
set_option maxRecDepth 100000 in
theorem lookf_1 {w : World} {m g : Nat} (h : w.heap[m]? = some (.map (kmap g) 4)) : (Instr.lookup 57 (.map (some m)) (.int .i64 1) false).run Try.prog w = .ok (.func (.func 50) #[] #[.pointer (some ⟨g, 0, none⟩)]) w := by
 obtain ⟨e, he, hk2, hr⟩ := map_look1 h (kmap_keys g) 1 ⟨⟨.int .i64 1, .func (.func 50) #[] #[.pointer (some ⟨g, 0, none⟩)], 0⟩, by simp [kmap], rfl⟩
 simp only [kmap, List.mem_cons, List.not_mem_nil, or_false] at he
 rcases he with rfl | rfl | rfl | rfl
 all_goals first | exact hr | (simp at hk2)
set_option maxRecDepth 100000 in
theorem lookf_2 {w : World} {m g : Nat} (h : w.heap[m]? = some (.map (kmap g) 4)) : (Instr.lookup 57 (.map (some m)) (.int .i64 2) false).run Try.prog w = .ok (.func (.func 51) #[] #[.pointer (some ⟨g, 0, none⟩)]) w := by
 obtain ⟨e, he, hk2, hr⟩ := map_look1 h (kmap_keys g) 2 ⟨⟨.int .i64 2, .func (.func 51) #[] #[.pointer (some ⟨g, 0, none⟩)], 1⟩, by simp [kmap], rfl⟩
 simp only [kmap, List.mem_cons, List.not_mem_nil, or_false] at he
 rcases he with rfl | rfl | rfl | rfl
 all_goals first | exact hr | (simp at hk2)
set_option maxRecDepth 100000 in
theorem lookf_3 {w : World} {m g : Nat} (h : w.heap[m]? = some (.map (kmap g) 4)) : (Instr.lookup 57 (.map (some m)) (.int .i64 3) false).run Try.prog w = .ok (.func (.func 52) #[] #[.pointer (some ⟨g, 0, none⟩)]) w := by
 obtain ⟨e, he, hk2, hr⟩ := map_look1 h (kmap_keys g) 3 ⟨⟨.int .i64 3, .func (.func 52) #[] #[.pointer (some ⟨g, 0, none⟩)], 2⟩, by simp [kmap], rfl⟩
 simp only [kmap, List.mem_cons, List.not_mem_nil, or_false] at he
 rcases he with rfl | rfl | rfl | rfl
 all_goals first | exact hr | (simp at hk2)
set_option maxRecDepth 100000 in
theorem lookf_4 {w : World} {m g : Nat} (h : w.heap[m]? = some (.map (kmap g) 4)) : (Instr.lookup 57 (.map (some m)) (.int .i64 4) false).run Try.prog w = .ok (.func (.func 53) #[] #[]) w := by
 obtain ⟨e, he, hk2, hr⟩ := map_look1 h (kmap_keys g) 4 ⟨⟨.int .i64 4, .func (.func 53) #[] #[], 3⟩, by simp [kmap], rfl⟩
 simp only [kmap, List.mem_cons, List.not_mem_nil, or_false] at he
 rcases he with rfl | rfl | rfl | rfl
 all_goals first | exact hr | (simp at hk2)
def QN (g : Nat) (q : Qr) (g2 : Nat) (n : Nv) (w : World) : Prop := QC g q w ∧ Fn5 w g2 0 n
set_option maxRecDepth 100000 in
theorem fn5_of {w : World} {g : Nat} {n : Nv} {t : TypeId} (hg : w.heap[g]? = some (.cells #[.int .u32 (n.X : Int), .int .u32 (n.Y : Int), .int .i64 (n.L : Int), .slice n.ro n.rn n.rc, .slice n.ko n.kn n.kc] t (0, 0))) : Fn5 w g 0 n := by
 obtain ⟨-, -, -, -, -, f0, f1, f2, f3, f4⟩ := node_facts hg
 exact ⟨f0, f1, f2, f3, f4⟩
set_option maxRecDepth 100000 in
set_option maxHeartbeats 2000000 in
theorem found_no (o : Option Addr) (cap : Nat) (l : List Rw) (q : Qr) (w : World) (hr : RowsAt w o cap l) (h : rightL l = false) :
  Calls Try.prog 27 #[.slice o l.length cap, qv q] w fun e w' => e = .returned (.tuple #[.slice none 0 0, .int .i64 80]) ∧ Below w.heap.size w w' := by
 have hb := below_new w (qcs q)
 have hg := heap_alloc_new w (qcs q)
 obtain ⟨W0, hW0⟩ : ∃ W0, w.alloc (qcs q) = W0 := ⟨_, rfl⟩
 rw [hW0] at hb hg
 have HW0 : Hid _ := hW0
 have HG0 : Hid (W0.heap[w.heap.size]? = some (qcs q)) := hg
 have HB0 : Hid (Below w.heap.size w W0) := hb
 have HC : Hid (∀ _ : True, _) := fun _ => build_no l o cap W0 (hr.below hb (Nat.le_refl _)) h
 obtain ⟨k, a, b, c, d, x, y, sq, kk, af, fr⟩ := q
 simp only [nv, qv] at HC ⊢
 clear hb hg hW0 hr h
 go_enter Try.func27, Try.ntmps27
 go_wp2_with (first | (rw [HW0.out]; clear HW0))
 refine Calls.mono (HC.out trivial) ?_
 rintro e W1 ⟨rfl, b1⟩
 have hb1 := HB0.out.trans (b1.mono HB0.out.size)
 have HB2 : Hid _ := hb1.trans ((below_new W1 (.cells #[.int .u32 0, .int .u32 0, .int .i64 0, .slice none 0 0, .slice none 0 0] 45)).mono hb1.size)
 clear hb1 b1 HC
 go_wp2_with fail
 go_ret2
 exact ⟨rfl, HB2.out⟩
set_option maxRecDepth 100000 in
set_option maxHeartbeats 2000000 in
theorem found_bad (o : Option Addr) (cap : Nat) (l : List Rw) (q : Qr) (w : World) (hr : RowsAt w o cap l) (h : rightL l = true) (hc : chk q ≠ 0) :
  Calls Try.prog 27 #[.slice o l.length cap, qv q] w fun e w' => e = .returned (.tuple #[.slice none 0 0, .int .i64 (chk q)]) ∧ Below w.heap.size w w' := by
 have hb := below_new w (qcs q)
 have hg := heap_alloc_new w (qcs q)
 obtain ⟨W0, hW0⟩ : ∃ W0, w.alloc (qcs q) = W0 := ⟨_, rfl⟩
 rw [hW0] at hb hg
 have HW0 : Hid _ := hW0
 have HG0 : Hid (W0.heap[w.heap.size]? = some (qcs q)) := hg
 have HB0 : Hid (Below w.heap.size w W0) := hb
 have HC : Hid (∀ _ : True, _) := fun _ => build_ok l o cap W0 (hr.below hb (Nat.le_refl _)) h
 have HCK : Hid _ := check_any q
 obtain ⟨k, a, b, c, d, x, y, sq, kk, af, fr⟩ := q
 generalize chk ⟨k, a, b, c, d, x, y, sq, kk, af, fr⟩ = E at *
 have q0 : (E == 0) = false := by simpa using hc
 simp only [nv, qv] at HC HCK ⊢
 clear hb hg hW0 hr h hc
 go_enter Try.func27, Try.ntmps27
 go_wp2_with (first | (rw [HW0.out]; clear HW0))
 refine Calls.mono (HC.out trivial) ?_
 rintro e W1 ⟨n, rfl, n1, b1⟩
 obtain ⟨X, Y, L, ro, rn, rc', ko, kn, kc⟩ := n
 have hb1 := HB0.out.trans (b1.mono HB0.out.size)
 have hb3 := below_new W1 (.cells #[.int .u32 (X : Int), .int .u32 (Y : Int), .int .i64 (L : Int), .slice ro rn rc', .slice ko kn kc] 45)
 have p1 := heap_alloc_new W1 (.cells #[.int .u32 (X : Int), .int .u32 (Y : Int), .int .i64 (L : Int), .slice ro rn rc', .slice ko kn kc] 45)
 have hn3 := (n1.mono (G' := fun _ => True) fun _ _ _ => trivial).below hb3 (Nat.le_refl _)
 obtain ⟨W2, hW2⟩ : ∃ W2, W1.alloc (.cells #[.int .u32 (X : Int), .int .u32 (Y : Int), .int .i64 (L : Int), .slice ro rn rc', .slice ko kn kc] 45) = W2 := ⟨_, rfl⟩
 rw [hW2] at p1 hb3 hn3
 have HW2 : Hid _ := hW2
 have HB2 : Hid (Below w.heap.size w W2) := hb1.trans (hb3.mono hb1.size)
 have HN2 : Hid (W2.heap[W1.heap.size]? = some (.cells #[.int .u32 (X : Int), .int .u32 (Y : Int), .int .i64 (L : Int), .slice ro rn rc', .slice ko kn kc] 45 (0, 0))) := p1
 have HT2 : Hid (NodeAt (fun _ => True) 32 W2 ⟨X, Y, L, ro, rn, rc', ko, kn, kc⟩ l) := hn3
 have hq2 : W2.heap[w.heap.size]? = some (qcs ⟨k, a, b, c, d, x, y, sq, kk, af, fr⟩) := (hb3.block _ (by have := (Array.getElem?_eq_some_iff.1 HG0.out).1; have := b1.size; omega)).trans ((b1.block _ (Array.getElem?_eq_some_iff.1 HG0.out).1).trans HG0.out)
 have HQ2 : Hid (W2.heap[w.heap.size]? = some (qcs ⟨k, a, b, c, d, x, y, sq, kk, af, fr⟩)) := hq2
 have lq2 : w.heap.size < W2.heap.size := (Array.getElem?_eq_some_iff.1 hq2).1
 obtain ⟨c0, c1, c2, c3, c4, c5, c6, c7, c8, c9, c10⟩ := qc_of hq2
 simp only at c0 c1 c2 c3 c4 c5 c6 c7 c8 c9 c10
 clear p1 hb1 hb3 hn3 hq2 hW2 n1 b1 HC
 go_wp2_with (first | (rw [HW2.out]; clear HW2))
 refine (HCK.out W2).mono ?_
 rintro e W3 ⟨rfl, b3⟩
 have HB3 : Hid (Below w.heap.size w W3) := HB2.out.trans (b3.mono HB2.out.size)
 clear b3
 go_wp2_with fail
 go_ret2
 exact ⟨rfl, HB3.out⟩
set_option maxRecDepth 100000 in
set_option maxHeartbeats 4000000 in
theorem found_1 (o : Option Addr) (cap : Nat) (l : List Rw) (a b c d x y sq : Nat) (kk : Int) (af : Nat) (fr : Bool) (w : World) (hr : RowsAt w o cap l) (h : rightL l = true) (hc : chk ⟨1, a, b, c, d, x, y, sq, kk, af, fr⟩ = 0) :
  Calls Try.prog 27 #[.slice o l.length cap, qv ⟨1, a, b, c, d, x, y, sq, kk, af, fr⟩] w (KR (winV l a b c d) (boxE a b c d) w) := by
 have hb := below_new w (qcs ⟨1, a, b, c, d, x, y, sq, kk, af, fr⟩)
 have hg := heap_alloc_new w (qcs ⟨1, a, b, c, d, x, y, sq, kk, af, fr⟩)
 obtain ⟨W0, hW0⟩ : ∃ W0, w.alloc (qcs ⟨1, a, b, c, d, x, y, sq, kk, af, fr⟩) = W0 := ⟨_, rfl⟩
 rw [hW0] at hb hg
 have HW0 : Hid _ := hW0
 have HG0 : Hid (W0.heap[w.heap.size]? = some (qcs ⟨1, a, b, c, d, x, y, sq, kk, af, fr⟩)) := hg
 have HB0 : Hid (Below w.heap.size w W0) := hb
 have HC : Hid (∀ _ : True, _) := fun _ => build_ok l o cap W0 (hr.below hb (Nat.le_refl _)) h
 have HCK : Hid _ := check_any ⟨1, a, b, c, d, x, y, sq, kk, af, fr⟩
 have hon := right_on h
 have hri := right_rise h
 have hmax := ((rightL_iff l).1 h).1
 have HK : Hid (∀ (W : World) (g : Nat) (n : Nv), W.heap[g]? = some (qcs ⟨1, a, b, c, d, x, y, sq, kk, af, fr⟩) → NodeAt (fun _ => True) 32 W n l → _) := fun W g n h hN => kind1_any g ⟨1, a, b, c, d, x, y, sq, kk, af, fr⟩ n l 32 W h hN hon hmax hri
 have HLK : Hid (∀ (W : World) (m g : Nat), W.heap[m]? = some (.map (kmap g) 4) → _) := fun W m g h => lookf_1 h
 have HKD : Hid _ := kinds_any ⟨1, a, b, c, d, x, y, sq, kk, af, fr⟩
 rw [hc] at HCK
 simp only [nv, qv] at HC HCK HK HKD ⊢
 clear hb hg hW0 hr h hc hon hri
 go_enter Try.func27, Try.ntmps27
 go_wp2_with (first | (rw [HW0.out]; clear HW0))
 refine Calls.mono (HC.out trivial) ?_
 rintro e W1 ⟨n, rfl, n1, b1⟩
 obtain ⟨X, Y, L, ro, rn, rc', ko, kn, kc⟩ := n
 have hb1 := HB0.out.trans (b1.mono HB0.out.size)
 have hb3 := below_new W1 (.cells #[.int .u32 (X : Int), .int .u32 (Y : Int), .int .i64 (L : Int), .slice ro rn rc', .slice ko kn kc] 45)
 have p1 := heap_alloc_new W1 (.cells #[.int .u32 (X : Int), .int .u32 (Y : Int), .int .i64 (L : Int), .slice ro rn rc', .slice ko kn kc] 45)
 have hn3 := (n1.mono (G' := fun _ => True) fun _ _ _ => trivial).below hb3 (Nat.le_refl _)
 obtain ⟨W2, hW2⟩ : ∃ W2, W1.alloc (.cells #[.int .u32 (X : Int), .int .u32 (Y : Int), .int .i64 (L : Int), .slice ro rn rc', .slice ko kn kc] 45) = W2 := ⟨_, rfl⟩
 rw [hW2] at p1 hb3 hn3
 have HW2 : Hid _ := hW2
 have HB2 : Hid (Below w.heap.size w W2) := hb1.trans (hb3.mono hb1.size)
 have HN2 : Hid (W2.heap[W1.heap.size]? = some (.cells #[.int .u32 (X : Int), .int .u32 (Y : Int), .int .i64 (L : Int), .slice ro rn rc', .slice ko kn kc] 45 (0, 0))) := p1
 have HT2 : Hid (NodeAt (fun _ => True) 32 W2 ⟨X, Y, L, ro, rn, rc', ko, kn, kc⟩ l) := hn3
 have hq2 : W2.heap[w.heap.size]? = some (qcs ⟨1, a, b, c, d, x, y, sq, kk, af, fr⟩) := (hb3.block _ (by have := (Array.getElem?_eq_some_iff.1 HG0.out).1; have := b1.size; omega)).trans ((b1.block _ (Array.getElem?_eq_some_iff.1 HG0.out).1).trans HG0.out)
 have HQ2 : Hid (W2.heap[w.heap.size]? = some (qcs ⟨1, a, b, c, d, x, y, sq, kk, af, fr⟩)) := hq2
 have lq2 : w.heap.size < W2.heap.size := (Array.getElem?_eq_some_iff.1 hq2).1
 obtain ⟨c0, c1, c2, c3, c4, c5, c6, c7, c8, c9, c10⟩ := qc_of hq2
 simp only at c0 c1 c2 c3 c4 c5 c6 c7 c8 c9 c10
 clear p1 hb1 hb3 hn3 hq2 hW2 n1 b1 HC
 go_wp2_with (first | (rw [HW2.out]; clear HW2))
 refine (HCK.out W2).mono ?_
 rintro e W3 ⟨rfl, b3⟩
 have HB3 : Hid (Below w.heap.size w W3) := HB2.out.trans (b3.mono HB2.out.size)
 have hg3 := (b3.block _ lq2).trans HQ2.out
 have ln2 : W1.heap.size < W2.heap.size := (Array.getElem?_eq_some_iff.1 HN2.out).1
 have hn3 := (b3.block _ ln2).trans HN2.out
 have HG3 : Hid (W3.heap[w.heap.size]? = some (qcs ⟨1, a, b, c, d, x, y, sq, kk, af, fr⟩)) := hg3
 have HN3 : Hid (W3.heap[W1.heap.size]? = some (.cells #[.int .u32 (X : Int), .int .u32 (Y : Int), .int .i64 (L : Int), .slice ro rn rc', .slice ko kn kc] 45 (0, 0))) := hn3
 have HT3 : Hid (NodeAt (fun _ => True) 32 W3 ⟨X, Y, L, ro, rn, rc', ko, kn, kc⟩ l) := NodeAt.below HT2.out b3 (Nat.le_refl _)
 have HSW : Hid (QN w.heap.size ⟨1, a, b, c, d, x, y, sq, kk, af, fr⟩ W1.heap.size ⟨X, Y, L, ro, rn, rc', ko, kn, kc⟩ W3.drew) := ⟨qc_of hg3, fn5_of (n := ⟨X, Y, L, ro, rn, rc', ko, kn, kc⟩) hn3⟩
 clear b3 hg3 hn3 HN2 HT2 HQ2 HB2 c0 c1 c2 c3 c4 c5 c6 c7 c8 c9 c10 lq2 ln2 HCK
 go_wp2_with fail
 refine wp_region_held (S := QN w.heap.size ⟨1, a, b, c, d, x, y, sq, kk, af, fr⟩ W1.heap.size ⟨X, Y, L, ro, rn, rc', ko, kn, kc⟩) (by kernel_rfl) ?_
 change wpAnyH _ _ _ _ _ _ _ _ (World.drew _)
 refine wpAnyH_take (i := 0) (v := ?_) rfl (by kernel_rfl) (by kernel_rfl) (by kernel_rfl) (fun _ _ _ h => h) (Or.inl ⟨by kernel_rfl, ?_⟩) HSW.out ?_
 rotate_left
 ·rintro w ⟨⟨e0,e1,e2,e3,e4,e5,e6,e7,e8,e9,e10⟩,i0,i1,i2,i3,i4⟩; go_simp; try with_reducible rfl
 conv in (Act.put _ _ _) => simp only [List.getElem_toArray, List.getElem_cons_succ, List.getElem_cons_zero, Act.put, List.setIfInBounds_toArray, List.set_cons_succ, List.set_cons_zero]
 refine wpAnyH_take (i := 2) (v := ?_) rfl (by kernel_rfl) (by kernel_rfl) (by kernel_rfl) (fun _ _ _ h => h) (Or.inl ⟨by kernel_rfl, ?_⟩) HSW.out ?_
 rotate_left
 ·rintro w ⟨⟨e0,e1,e2,e3,e4,e5,e6,e7,e8,e9,e10⟩,i0,i1,i2,i3,i4⟩; go_simp; try with_reducible rfl
 conv in (Act.put _ _ _) => simp only [List.getElem_toArray, List.getElem_cons_succ, List.getElem_cons_zero, Act.put, List.setIfInBounds_toArray, List.set_cons_succ, List.set_cons_zero]
 refine wpAnyH_take (i := 3) (v := ?_) rfl (by kernel_rfl) (by kernel_rfl) (by kernel_rfl) (fun _ _ _ h => h) (Or.inl ⟨by kernel_rfl, ?_⟩) HSW.out ?_
 rotate_left
 ·rintro w ⟨⟨e0,e1,e2,e3,e4,e5,e6,e7,e8,e9,e10⟩,i0,i1,i2,i3,i4⟩; go_simp; try with_reducible rfl
 conv in (Act.put _ _ _) => simp only [List.getElem_toArray, List.getElem_cons_succ, List.getElem_cons_zero, Act.put, List.setIfInBounds_toArray, List.set_cons_succ, List.set_cons_zero]
 refine wpAnyH_take (i := 5) (v := ?_) rfl (by kernel_rfl) (by kernel_rfl) (by kernel_rfl) (fun _ _ _ h => h) (Or.inl ⟨by kernel_rfl, ?_⟩) HSW.out ?_
 rotate_left
 ·rintro w ⟨⟨e0,e1,e2,e3,e4,e5,e6,e7,e8,e9,e10⟩,i0,i1,i2,i3,i4⟩; go_simp; try with_reducible rfl
 conv in (Act.put _ _ _) => simp only [List.getElem_toArray, List.getElem_cons_succ, List.getElem_cons_zero, Act.put, List.setIfInBounds_toArray, List.set_cons_succ, List.set_cons_zero]
 refine readyH 1 _ (by kernel_rfl) rfl (by kernel_rfl) (fun K hK => ?_)
 go_simp
 refine (HKD.out _).mono ?_
 rintro e w1 ⟨m, rfl, hm, hmap, hq2, b1⟩
 replace b1 : Below W3.heap.size W3 w1 := (Below.refl _ W3).drew.trans b1
 have hg1 := (b1.block _ (Array.getElem?_eq_some_iff.1 HG3.out).1).trans HG3.out
 have hn1 := (b1.block _ (Array.getElem?_eq_some_iff.1 HN3.out).1).trans HN3.out
 have HT1 : Hid (NodeAt (fun _ => True) 32 w1 ⟨X, Y, L, ro, rn, rc', ko, kn, kc⟩ l) := NodeAt.below HT3.out b1 (Nat.le_refl _)
 have HQ1 : Hid _ := hq2
 have HG1 : Hid (w1.heap[w.heap.size]? = some (qcs ⟨1, a, b, c, d, x, y, sq, kk, af, fr⟩)) := hg1
 have HN1 : Hid (w1.heap[W1.heap.size]? = some (.cells #[.int .u32 (X : Int), .int .u32 (Y : Int), .int .i64 (L : Int), .slice ro rn rc', .slice ko kn kc] 45 (0, 0))) := hn1
 have HB1 : Hid (Below w.heap.size w w1) := HB3.out.trans (b1.mono HB3.out.size)
 have hlk := HLK.out w1 m _ hmap
 clear HSW
 have HSW : Hid (QN w.heap.size ⟨1, a, b, c, d, x, y, sq, kk, af, fr⟩ W1.heap.size ⟨X, Y, L, ro, rn, rc', ko, kn, kc⟩ w1) := ⟨qc_of hg1, fn5_of (n := ⟨X, Y, L, ro, rn, rc', ko, kn, kc⟩) hn1⟩
 clear hg1 hn1 b1 hmap hm HLK HKD hq2
 refine hK _ _ HSW.out ?_
 clear hK K
 refine readyH 4 _ (by kernel_rfl) rfl (by kernel_rfl) (fun K hK => ?_)
 go_simp
 refine hK _ _ HSW.out ?_
 clear hK K
 refine readyH 6 _ (by kernel_rfl) rfl (by kernel_rfl) (fun K hK => ?_)
 go_simp
 refine Calls.mono (HK.out w1 _ ⟨X, Y, L, ro, rn, rc', ko, kn, kc⟩ HQ1.out HT1.out) ?_
 rintro e w4 ⟨o4, cap4, rfl, hs4, b4⟩
 have HE : Hid (RowsAt w4 o4 cap4 (winV l a b c d) ∧ Below w.heap.size w w4) := ⟨hs4, HB1.out.trans (b4.mono HB1.out.size)⟩
 have hg4 := (b4.block _ (Array.getElem?_eq_some_iff.1 HG1.out).1).trans HG1.out
 have hn4 := (b4.block _ (Array.getElem?_eq_some_iff.1 HN1.out).1).trans HN1.out
 clear HSW
 have HSW : Hid (QN w.heap.size ⟨1, a, b, c, d, x, y, sq, kk, af, fr⟩ W1.heap.size ⟨X, Y, L, ro, rn, rc', ko, kn, kc⟩ w4) := ⟨qc_of hg4, fn5_of (n := ⟨X, Y, L, ro, rn, rc', ko, kn, kc⟩) hn4⟩
 clear hs4 b4 hg4 hn4 hlk HK
 refine hK _ _ HSW.out ?_
 clear hK K
 refine wpAnyH_take (i := 7) (v := ?_) rfl (by kernel_rfl) (by kernel_rfl) (by kernel_rfl) (fun _ _ _ h => h) (Or.inl ⟨by kernel_rfl, ?_⟩) HSW.out ?_
 rotate_left
 ·rintro w ⟨⟨e0,e1,e2,e3,e4,e5,e6,e7,e8,e9,e10⟩,i0,i1,i2,i3,i4⟩; go_simp; try with_reducible rfl
 conv in (Act.put _ _ _) => simp only [List.getElem_toArray, List.getElem_cons_succ, List.getElem_cons_zero, Act.put, List.setIfInBounds_toArray, List.set_cons_succ, List.set_cons_zero]
 refine wpAnyH_take (i := 8) (v := ?_) rfl (by kernel_rfl) (by kernel_rfl) (by kernel_rfl) (fun _ _ _ h => h) (Or.inl ⟨by kernel_rfl, ?_⟩) HSW.out ?_
 rotate_left
 ·rintro w ⟨⟨e0,e1,e2,e3,e4,e5,e6,e7,e8,e9,e10⟩,i0,i1,i2,i3,i4⟩; go_simp; try with_reducible rfl
 conv in (Act.put _ _ _) => simp only [List.getElem_toArray, List.getElem_cons_succ, List.getElem_cons_zero, Act.put, List.setIfInBounds_toArray, List.set_cons_succ, List.set_cons_zero]
 refine wpAnyH_take (i := 9) (v := ?_) rfl (by kernel_rfl) (by kernel_rfl) (by kernel_rfl) (fun _ _ _ h => h) (Or.inl ⟨by kernel_rfl, ?_⟩) HSW.out ?_
 rotate_left
 ·rintro w ⟨⟨e0,e1,e2,e3,e4,e5,e6,e7,e8,e9,e10⟩,i0,i1,i2,i3,i4⟩; go_simp; try with_reducible rfl
 conv in (Act.put _ _ _) => simp only [List.getElem_toArray, List.getElem_cons_succ, List.getElem_cons_zero, Act.put, List.setIfInBounds_toArray, List.set_cons_succ, List.set_cons_zero]
 refine wpAnyH_take (i := 10) (v := ?_) rfl (by kernel_rfl) (by kernel_rfl) (by kernel_rfl) (fun _ _ _ h => h) (Or.inl ⟨by kernel_rfl, ?_⟩) HSW.out ?_
 rotate_left
 ·rintro w ⟨⟨e0,e1,e2,e3,e4,e5,e6,e7,e8,e9,e10⟩,i0,i1,i2,i3,i4⟩; go_simp; try with_reducible rfl
 conv in (Act.put _ _ _) => simp only [List.getElem_toArray, List.getElem_cons_succ, List.getElem_cons_zero, Act.put, List.setIfInBounds_toArray, List.set_cons_succ, List.set_cons_zero]
 refine wpAnyH_done (by kernel_rfl) ?_ _
 go_wp2_with fail
 go_ret2
 exact ⟨o4, cap4, rfl, HE.out.1, HE.out.2⟩
set_option maxRecDepth 100000 in
set_option maxHeartbeats 4000000 in
theorem found_2 (o : Option Addr) (cap : Nat) (l : List Rw) (a b c d x y sq : Nat) (kk : Int) (af : Nat) (fr : Bool) (w : World) (hr : RowsAt w o cap l) (h : rightL l = true) (hc : chk ⟨2, a, b, c, d, x, y, sq, kk, af, fr⟩ = 0) :
  Calls Try.prog 27 #[.slice o l.length cap, qv ⟨2, a, b, c, d, x, y, sq, kk, af, fr⟩] w (KR (rndV l x y sq) (rndE x y) w) := by
 have hb := below_new w (qcs ⟨2, a, b, c, d, x, y, sq, kk, af, fr⟩)
 have hg := heap_alloc_new w (qcs ⟨2, a, b, c, d, x, y, sq, kk, af, fr⟩)
 obtain ⟨W0, hW0⟩ : ∃ W0, w.alloc (qcs ⟨2, a, b, c, d, x, y, sq, kk, af, fr⟩) = W0 := ⟨_, rfl⟩
 rw [hW0] at hb hg
 have HW0 : Hid _ := hW0
 have HG0 : Hid (W0.heap[w.heap.size]? = some (qcs ⟨2, a, b, c, d, x, y, sq, kk, af, fr⟩)) := hg
 have HB0 : Hid (Below w.heap.size w W0) := hb
 have HC : Hid (∀ _ : True, _) := fun _ => build_ok l o cap W0 (hr.below hb (Nat.le_refl _)) h
 have HCK : Hid _ := check_any ⟨2, a, b, c, d, x, y, sq, kk, af, fr⟩
 have hon := right_on h
 have hri := right_rise h
 have hmax := ((rightL_iff l).1 h).1
 have HK : Hid (∀ (W : World) (g : Nat) (n : Nv), W.heap[g]? = some (qcs ⟨2, a, b, c, d, x, y, sq, kk, af, fr⟩) → NodeAt (fun _ => True) 32 W n l → _) := fun W g n h hN => kind2_any g ⟨2, a, b, c, d, x, y, sq, kk, af, fr⟩ n l 32 W h hN hon hmax hri
 have HLK : Hid (∀ (W : World) (m g : Nat), W.heap[m]? = some (.map (kmap g) 4) → _) := fun W m g h => lookf_2 h
 have HKD : Hid _ := kinds_any ⟨2, a, b, c, d, x, y, sq, kk, af, fr⟩
 rw [hc] at HCK
 simp only [nv, qv] at HC HCK HK HKD ⊢
 clear hb hg hW0 hr h hc hon hri
 go_enter Try.func27, Try.ntmps27
 go_wp2_with (first | (rw [HW0.out]; clear HW0))
 refine Calls.mono (HC.out trivial) ?_
 rintro e W1 ⟨n, rfl, n1, b1⟩
 obtain ⟨X, Y, L, ro, rn, rc', ko, kn, kc⟩ := n
 have hb1 := HB0.out.trans (b1.mono HB0.out.size)
 have hb3 := below_new W1 (.cells #[.int .u32 (X : Int), .int .u32 (Y : Int), .int .i64 (L : Int), .slice ro rn rc', .slice ko kn kc] 45)
 have p1 := heap_alloc_new W1 (.cells #[.int .u32 (X : Int), .int .u32 (Y : Int), .int .i64 (L : Int), .slice ro rn rc', .slice ko kn kc] 45)
 have hn3 := (n1.mono (G' := fun _ => True) fun _ _ _ => trivial).below hb3 (Nat.le_refl _)
 obtain ⟨W2, hW2⟩ : ∃ W2, W1.alloc (.cells #[.int .u32 (X : Int), .int .u32 (Y : Int), .int .i64 (L : Int), .slice ro rn rc', .slice ko kn kc] 45) = W2 := ⟨_, rfl⟩
 rw [hW2] at p1 hb3 hn3
 have HW2 : Hid _ := hW2
 have HB2 : Hid (Below w.heap.size w W2) := hb1.trans (hb3.mono hb1.size)
 have HN2 : Hid (W2.heap[W1.heap.size]? = some (.cells #[.int .u32 (X : Int), .int .u32 (Y : Int), .int .i64 (L : Int), .slice ro rn rc', .slice ko kn kc] 45 (0, 0))) := p1
 have HT2 : Hid (NodeAt (fun _ => True) 32 W2 ⟨X, Y, L, ro, rn, rc', ko, kn, kc⟩ l) := hn3
 have hq2 : W2.heap[w.heap.size]? = some (qcs ⟨2, a, b, c, d, x, y, sq, kk, af, fr⟩) := (hb3.block _ (by have := (Array.getElem?_eq_some_iff.1 HG0.out).1; have := b1.size; omega)).trans ((b1.block _ (Array.getElem?_eq_some_iff.1 HG0.out).1).trans HG0.out)
 have HQ2 : Hid (W2.heap[w.heap.size]? = some (qcs ⟨2, a, b, c, d, x, y, sq, kk, af, fr⟩)) := hq2
 have lq2 : w.heap.size < W2.heap.size := (Array.getElem?_eq_some_iff.1 hq2).1
 obtain ⟨c0, c1, c2, c3, c4, c5, c6, c7, c8, c9, c10⟩ := qc_of hq2
 simp only at c0 c1 c2 c3 c4 c5 c6 c7 c8 c9 c10
 clear p1 hb1 hb3 hn3 hq2 hW2 n1 b1 HC
 go_wp2_with (first | (rw [HW2.out]; clear HW2))
 refine (HCK.out W2).mono ?_
 rintro e W3 ⟨rfl, b3⟩
 have HB3 : Hid (Below w.heap.size w W3) := HB2.out.trans (b3.mono HB2.out.size)
 have hg3 := (b3.block _ lq2).trans HQ2.out
 have ln2 : W1.heap.size < W2.heap.size := (Array.getElem?_eq_some_iff.1 HN2.out).1
 have hn3 := (b3.block _ ln2).trans HN2.out
 have HG3 : Hid (W3.heap[w.heap.size]? = some (qcs ⟨2, a, b, c, d, x, y, sq, kk, af, fr⟩)) := hg3
 have HN3 : Hid (W3.heap[W1.heap.size]? = some (.cells #[.int .u32 (X : Int), .int .u32 (Y : Int), .int .i64 (L : Int), .slice ro rn rc', .slice ko kn kc] 45 (0, 0))) := hn3
 have HT3 : Hid (NodeAt (fun _ => True) 32 W3 ⟨X, Y, L, ro, rn, rc', ko, kn, kc⟩ l) := NodeAt.below HT2.out b3 (Nat.le_refl _)
 have HSW : Hid (QN w.heap.size ⟨2, a, b, c, d, x, y, sq, kk, af, fr⟩ W1.heap.size ⟨X, Y, L, ro, rn, rc', ko, kn, kc⟩ W3.drew) := ⟨qc_of hg3, fn5_of (n := ⟨X, Y, L, ro, rn, rc', ko, kn, kc⟩) hn3⟩
 clear b3 hg3 hn3 HN2 HT2 HQ2 HB2 c0 c1 c2 c3 c4 c5 c6 c7 c8 c9 c10 lq2 ln2 HCK
 go_wp2_with fail
 refine wp_region_held (S := QN w.heap.size ⟨2, a, b, c, d, x, y, sq, kk, af, fr⟩ W1.heap.size ⟨X, Y, L, ro, rn, rc', ko, kn, kc⟩) (by kernel_rfl) ?_
 change wpAnyH _ _ _ _ _ _ _ _ (World.drew _)
 refine wpAnyH_take (i := 0) (v := ?_) rfl (by kernel_rfl) (by kernel_rfl) (by kernel_rfl) (fun _ _ _ h => h) (Or.inl ⟨by kernel_rfl, ?_⟩) HSW.out ?_
 rotate_left
 ·rintro w ⟨⟨e0,e1,e2,e3,e4,e5,e6,e7,e8,e9,e10⟩,i0,i1,i2,i3,i4⟩; go_simp; try with_reducible rfl
 conv in (Act.put _ _ _) => simp only [List.getElem_toArray, List.getElem_cons_succ, List.getElem_cons_zero, Act.put, List.setIfInBounds_toArray, List.set_cons_succ, List.set_cons_zero]
 refine wpAnyH_take (i := 2) (v := ?_) rfl (by kernel_rfl) (by kernel_rfl) (by kernel_rfl) (fun _ _ _ h => h) (Or.inl ⟨by kernel_rfl, ?_⟩) HSW.out ?_
 rotate_left
 ·rintro w ⟨⟨e0,e1,e2,e3,e4,e5,e6,e7,e8,e9,e10⟩,i0,i1,i2,i3,i4⟩; go_simp; try with_reducible rfl
 conv in (Act.put _ _ _) => simp only [List.getElem_toArray, List.getElem_cons_succ, List.getElem_cons_zero, Act.put, List.setIfInBounds_toArray, List.set_cons_succ, List.set_cons_zero]
 refine wpAnyH_take (i := 3) (v := ?_) rfl (by kernel_rfl) (by kernel_rfl) (by kernel_rfl) (fun _ _ _ h => h) (Or.inl ⟨by kernel_rfl, ?_⟩) HSW.out ?_
 rotate_left
 ·rintro w ⟨⟨e0,e1,e2,e3,e4,e5,e6,e7,e8,e9,e10⟩,i0,i1,i2,i3,i4⟩; go_simp; try with_reducible rfl
 conv in (Act.put _ _ _) => simp only [List.getElem_toArray, List.getElem_cons_succ, List.getElem_cons_zero, Act.put, List.setIfInBounds_toArray, List.set_cons_succ, List.set_cons_zero]
 refine wpAnyH_take (i := 5) (v := ?_) rfl (by kernel_rfl) (by kernel_rfl) (by kernel_rfl) (fun _ _ _ h => h) (Or.inl ⟨by kernel_rfl, ?_⟩) HSW.out ?_
 rotate_left
 ·rintro w ⟨⟨e0,e1,e2,e3,e4,e5,e6,e7,e8,e9,e10⟩,i0,i1,i2,i3,i4⟩; go_simp; try with_reducible rfl
 conv in (Act.put _ _ _) => simp only [List.getElem_toArray, List.getElem_cons_succ, List.getElem_cons_zero, Act.put, List.setIfInBounds_toArray, List.set_cons_succ, List.set_cons_zero]
 refine readyH 1 _ (by kernel_rfl) rfl (by kernel_rfl) (fun K hK => ?_)
 go_simp
 refine (HKD.out _).mono ?_
 rintro e w1 ⟨m, rfl, hm, hmap, hq2, b1⟩
 replace b1 : Below W3.heap.size W3 w1 := (Below.refl _ W3).drew.trans b1
 have hg1 := (b1.block _ (Array.getElem?_eq_some_iff.1 HG3.out).1).trans HG3.out
 have hn1 := (b1.block _ (Array.getElem?_eq_some_iff.1 HN3.out).1).trans HN3.out
 have HT1 : Hid (NodeAt (fun _ => True) 32 w1 ⟨X, Y, L, ro, rn, rc', ko, kn, kc⟩ l) := NodeAt.below HT3.out b1 (Nat.le_refl _)
 have HQ1 : Hid _ := hq2
 have HG1 : Hid (w1.heap[w.heap.size]? = some (qcs ⟨2, a, b, c, d, x, y, sq, kk, af, fr⟩)) := hg1
 have HN1 : Hid (w1.heap[W1.heap.size]? = some (.cells #[.int .u32 (X : Int), .int .u32 (Y : Int), .int .i64 (L : Int), .slice ro rn rc', .slice ko kn kc] 45 (0, 0))) := hn1
 have HB1 : Hid (Below w.heap.size w w1) := HB3.out.trans (b1.mono HB3.out.size)
 have hlk := HLK.out w1 m _ hmap
 clear HSW
 have HSW : Hid (QN w.heap.size ⟨2, a, b, c, d, x, y, sq, kk, af, fr⟩ W1.heap.size ⟨X, Y, L, ro, rn, rc', ko, kn, kc⟩ w1) := ⟨qc_of hg1, fn5_of (n := ⟨X, Y, L, ro, rn, rc', ko, kn, kc⟩) hn1⟩
 clear hg1 hn1 b1 hmap hm HLK HKD hq2
 refine hK _ _ HSW.out ?_
 clear hK K
 refine readyH 4 _ (by kernel_rfl) rfl (by kernel_rfl) (fun K hK => ?_)
 go_simp
 refine hK _ _ HSW.out ?_
 clear hK K
 refine readyH 6 _ (by kernel_rfl) rfl (by kernel_rfl) (fun K hK => ?_)
 go_simp
 refine Calls.mono (HK.out w1 _ ⟨X, Y, L, ro, rn, rc', ko, kn, kc⟩ HQ1.out HT1.out) ?_
 rintro e w4 ⟨o4, cap4, rfl, hs4, b4⟩
 have HE : Hid (RowsAt w4 o4 cap4 (rndV l x y sq) ∧ Below w.heap.size w w4) := ⟨hs4, HB1.out.trans (b4.mono HB1.out.size)⟩
 have hg4 := (b4.block _ (Array.getElem?_eq_some_iff.1 HG1.out).1).trans HG1.out
 have hn4 := (b4.block _ (Array.getElem?_eq_some_iff.1 HN1.out).1).trans HN1.out
 clear HSW
 have HSW : Hid (QN w.heap.size ⟨2, a, b, c, d, x, y, sq, kk, af, fr⟩ W1.heap.size ⟨X, Y, L, ro, rn, rc', ko, kn, kc⟩ w4) := ⟨qc_of hg4, fn5_of (n := ⟨X, Y, L, ro, rn, rc', ko, kn, kc⟩) hn4⟩
 clear hs4 b4 hg4 hn4 hlk HK
 refine hK _ _ HSW.out ?_
 clear hK K
 refine wpAnyH_take (i := 7) (v := ?_) rfl (by kernel_rfl) (by kernel_rfl) (by kernel_rfl) (fun _ _ _ h => h) (Or.inl ⟨by kernel_rfl, ?_⟩) HSW.out ?_
 rotate_left
 ·rintro w ⟨⟨e0,e1,e2,e3,e4,e5,e6,e7,e8,e9,e10⟩,i0,i1,i2,i3,i4⟩; go_simp; try with_reducible rfl
 conv in (Act.put _ _ _) => simp only [List.getElem_toArray, List.getElem_cons_succ, List.getElem_cons_zero, Act.put, List.setIfInBounds_toArray, List.set_cons_succ, List.set_cons_zero]
 refine wpAnyH_take (i := 8) (v := ?_) rfl (by kernel_rfl) (by kernel_rfl) (by kernel_rfl) (fun _ _ _ h => h) (Or.inl ⟨by kernel_rfl, ?_⟩) HSW.out ?_
 rotate_left
 ·rintro w ⟨⟨e0,e1,e2,e3,e4,e5,e6,e7,e8,e9,e10⟩,i0,i1,i2,i3,i4⟩; go_simp; try with_reducible rfl
 conv in (Act.put _ _ _) => simp only [List.getElem_toArray, List.getElem_cons_succ, List.getElem_cons_zero, Act.put, List.setIfInBounds_toArray, List.set_cons_succ, List.set_cons_zero]
 refine wpAnyH_take (i := 9) (v := ?_) rfl (by kernel_rfl) (by kernel_rfl) (by kernel_rfl) (fun _ _ _ h => h) (Or.inl ⟨by kernel_rfl, ?_⟩) HSW.out ?_
 rotate_left
 ·rintro w ⟨⟨e0,e1,e2,e3,e4,e5,e6,e7,e8,e9,e10⟩,i0,i1,i2,i3,i4⟩; go_simp; try with_reducible rfl
 conv in (Act.put _ _ _) => simp only [List.getElem_toArray, List.getElem_cons_succ, List.getElem_cons_zero, Act.put, List.setIfInBounds_toArray, List.set_cons_succ, List.set_cons_zero]
 refine wpAnyH_take (i := 10) (v := ?_) rfl (by kernel_rfl) (by kernel_rfl) (by kernel_rfl) (fun _ _ _ h => h) (Or.inl ⟨by kernel_rfl, ?_⟩) HSW.out ?_
 rotate_left
 ·rintro w ⟨⟨e0,e1,e2,e3,e4,e5,e6,e7,e8,e9,e10⟩,i0,i1,i2,i3,i4⟩; go_simp; try with_reducible rfl
 conv in (Act.put _ _ _) => simp only [List.getElem_toArray, List.getElem_cons_succ, List.getElem_cons_zero, Act.put, List.setIfInBounds_toArray, List.set_cons_succ, List.set_cons_zero]
 refine wpAnyH_done (by kernel_rfl) ?_ _
 go_wp2_with fail
 go_ret2
 exact ⟨o4, cap4, rfl, HE.out.1, HE.out.2⟩
set_option maxRecDepth 100000 in
set_option maxHeartbeats 4000000 in
theorem found_3 (o : Option Addr) (cap : Nat) (l : List Rw) (a b c d x y sq : Nat) (kk : Int) (af : Nat) (fr : Bool) (M : Nat) (hM : ∀ r ∈ l, r.id < M) (w : World) (hr : RowsAt w o cap l) (h : rightL l = true) (hc : chk ⟨3, a, b, c, d, x, y, sq, kk, af, fr⟩ = 0) :
  Calls Try.prog 27 #[.slice o l.length cap, qv ⟨3, a, b, c, d, x, y, sq, kk, af, fr⟩] w (KR (nrV l x y M) (rndE x y) w) := by
 have hb := below_new w (qcs ⟨3, a, b, c, d, x, y, sq, kk, af, fr⟩)
 have hg := heap_alloc_new w (qcs ⟨3, a, b, c, d, x, y, sq, kk, af, fr⟩)
 obtain ⟨W0, hW0⟩ : ∃ W0, w.alloc (qcs ⟨3, a, b, c, d, x, y, sq, kk, af, fr⟩) = W0 := ⟨_, rfl⟩
 rw [hW0] at hb hg
 have HW0 : Hid _ := hW0
 have HG0 : Hid (W0.heap[w.heap.size]? = some (qcs ⟨3, a, b, c, d, x, y, sq, kk, af, fr⟩)) := hg
 have HB0 : Hid (Below w.heap.size w W0) := hb
 have HC : Hid (∀ _ : True, _) := fun _ => build_ok l o cap W0 (hr.below hb (Nat.le_refl _)) h
 have HCK : Hid _ := check_any ⟨3, a, b, c, d, x, y, sq, kk, af, fr⟩
 have hon := right_on h
 have hri := right_rise h
 have hmax := ((rightL_iff l).1 h).1
 have HK : Hid (∀ (W : World) (g : Nat) (n : Nv), W.heap[g]? = some (qcs ⟨3, a, b, c, d, x, y, sq, kk, af, fr⟩) → NodeAt (fun _ => True) 32 W n l → _) := fun W g n h hN => kind3_any g ⟨3, a, b, c, d, x, y, sq, kk, af, fr⟩ n l 32 M W h hN hon hmax hri hM
 have HLK : Hid (∀ (W : World) (m g : Nat), W.heap[m]? = some (.map (kmap g) 4) → _) := fun W m g h => lookf_3 h
 have HKD : Hid _ := kinds_any ⟨3, a, b, c, d, x, y, sq, kk, af, fr⟩
 rw [hc] at HCK
 simp only [nv, qv] at HC HCK HK HKD ⊢
 clear hb hg hW0 hr h hc hon hri hM
 go_enter Try.func27, Try.ntmps27
 go_wp2_with (first | (rw [HW0.out]; clear HW0))
 refine Calls.mono (HC.out trivial) ?_
 rintro e W1 ⟨n, rfl, n1, b1⟩
 obtain ⟨X, Y, L, ro, rn, rc', ko, kn, kc⟩ := n
 have hb1 := HB0.out.trans (b1.mono HB0.out.size)
 have hb3 := below_new W1 (.cells #[.int .u32 (X : Int), .int .u32 (Y : Int), .int .i64 (L : Int), .slice ro rn rc', .slice ko kn kc] 45)
 have p1 := heap_alloc_new W1 (.cells #[.int .u32 (X : Int), .int .u32 (Y : Int), .int .i64 (L : Int), .slice ro rn rc', .slice ko kn kc] 45)
 have hn3 := (n1.mono (G' := fun _ => True) fun _ _ _ => trivial).below hb3 (Nat.le_refl _)
 obtain ⟨W2, hW2⟩ : ∃ W2, W1.alloc (.cells #[.int .u32 (X : Int), .int .u32 (Y : Int), .int .i64 (L : Int), .slice ro rn rc', .slice ko kn kc] 45) = W2 := ⟨_, rfl⟩
 rw [hW2] at p1 hb3 hn3
 have HW2 : Hid _ := hW2
 have HB2 : Hid (Below w.heap.size w W2) := hb1.trans (hb3.mono hb1.size)
 have HN2 : Hid (W2.heap[W1.heap.size]? = some (.cells #[.int .u32 (X : Int), .int .u32 (Y : Int), .int .i64 (L : Int), .slice ro rn rc', .slice ko kn kc] 45 (0, 0))) := p1
 have HT2 : Hid (NodeAt (fun _ => True) 32 W2 ⟨X, Y, L, ro, rn, rc', ko, kn, kc⟩ l) := hn3
 have hq2 : W2.heap[w.heap.size]? = some (qcs ⟨3, a, b, c, d, x, y, sq, kk, af, fr⟩) := (hb3.block _ (by have := (Array.getElem?_eq_some_iff.1 HG0.out).1; have := b1.size; omega)).trans ((b1.block _ (Array.getElem?_eq_some_iff.1 HG0.out).1).trans HG0.out)
 have HQ2 : Hid (W2.heap[w.heap.size]? = some (qcs ⟨3, a, b, c, d, x, y, sq, kk, af, fr⟩)) := hq2
 have lq2 : w.heap.size < W2.heap.size := (Array.getElem?_eq_some_iff.1 hq2).1
 obtain ⟨c0, c1, c2, c3, c4, c5, c6, c7, c8, c9, c10⟩ := qc_of hq2
 simp only at c0 c1 c2 c3 c4 c5 c6 c7 c8 c9 c10
 clear p1 hb1 hb3 hn3 hq2 hW2 n1 b1 HC
 go_wp2_with (first | (rw [HW2.out]; clear HW2))
 refine (HCK.out W2).mono ?_
 rintro e W3 ⟨rfl, b3⟩
 have HB3 : Hid (Below w.heap.size w W3) := HB2.out.trans (b3.mono HB2.out.size)
 have hg3 := (b3.block _ lq2).trans HQ2.out
 have ln2 : W1.heap.size < W2.heap.size := (Array.getElem?_eq_some_iff.1 HN2.out).1
 have hn3 := (b3.block _ ln2).trans HN2.out
 have HG3 : Hid (W3.heap[w.heap.size]? = some (qcs ⟨3, a, b, c, d, x, y, sq, kk, af, fr⟩)) := hg3
 have HN3 : Hid (W3.heap[W1.heap.size]? = some (.cells #[.int .u32 (X : Int), .int .u32 (Y : Int), .int .i64 (L : Int), .slice ro rn rc', .slice ko kn kc] 45 (0, 0))) := hn3
 have HT3 : Hid (NodeAt (fun _ => True) 32 W3 ⟨X, Y, L, ro, rn, rc', ko, kn, kc⟩ l) := NodeAt.below HT2.out b3 (Nat.le_refl _)
 have HSW : Hid (QN w.heap.size ⟨3, a, b, c, d, x, y, sq, kk, af, fr⟩ W1.heap.size ⟨X, Y, L, ro, rn, rc', ko, kn, kc⟩ W3.drew) := ⟨qc_of hg3, fn5_of (n := ⟨X, Y, L, ro, rn, rc', ko, kn, kc⟩) hn3⟩
 clear b3 hg3 hn3 HN2 HT2 HQ2 HB2 c0 c1 c2 c3 c4 c5 c6 c7 c8 c9 c10 lq2 ln2 HCK
 go_wp2_with fail
 refine wp_region_held (S := QN w.heap.size ⟨3, a, b, c, d, x, y, sq, kk, af, fr⟩ W1.heap.size ⟨X, Y, L, ro, rn, rc', ko, kn, kc⟩) (by kernel_rfl) ?_
 change wpAnyH _ _ _ _ _ _ _ _ (World.drew _)
 refine wpAnyH_take (i := 0) (v := ?_) rfl (by kernel_rfl) (by kernel_rfl) (by kernel_rfl) (fun _ _ _ h => h) (Or.inl ⟨by kernel_rfl, ?_⟩) HSW.out ?_
 rotate_left
 ·rintro w ⟨⟨e0,e1,e2,e3,e4,e5,e6,e7,e8,e9,e10⟩,i0,i1,i2,i3,i4⟩; go_simp; try with_reducible rfl
 conv in (Act.put _ _ _) => simp only [List.getElem_toArray, List.getElem_cons_succ, List.getElem_cons_zero, Act.put, List.setIfInBounds_toArray, List.set_cons_succ, List.set_cons_zero]
 refine wpAnyH_take (i := 2) (v := ?_) rfl (by kernel_rfl) (by kernel_rfl) (by kernel_rfl) (fun _ _ _ h => h) (Or.inl ⟨by kernel_rfl, ?_⟩) HSW.out ?_
 rotate_left
 ·rintro w ⟨⟨e0,e1,e2,e3,e4,e5,e6,e7,e8,e9,e10⟩,i0,i1,i2,i3,i4⟩; go_simp; try with_reducible rfl
 conv in (Act.put _ _ _) => simp only [List.getElem_toArray, List.getElem_cons_succ, List.getElem_cons_zero, Act.put, List.setIfInBounds_toArray, List.set_cons_succ, List.set_cons_zero]
 refine wpAnyH_take (i := 3) (v := ?_) rfl (by kernel_rfl) (by kernel_rfl) (by kernel_rfl) (fun _ _ _ h => h) (Or.inl ⟨by kernel_rfl, ?_⟩) HSW.out ?_
 rotate_left
 ·rintro w ⟨⟨e0,e1,e2,e3,e4,e5,e6,e7,e8,e9,e10⟩,i0,i1,i2,i3,i4⟩; go_simp; try with_reducible rfl
 conv in (Act.put _ _ _) => simp only [List.getElem_toArray, List.getElem_cons_succ, List.getElem_cons_zero, Act.put, List.setIfInBounds_toArray, List.set_cons_succ, List.set_cons_zero]
 refine wpAnyH_take (i := 5) (v := ?_) rfl (by kernel_rfl) (by kernel_rfl) (by kernel_rfl) (fun _ _ _ h => h) (Or.inl ⟨by kernel_rfl, ?_⟩) HSW.out ?_
 rotate_left
 ·rintro w ⟨⟨e0,e1,e2,e3,e4,e5,e6,e7,e8,e9,e10⟩,i0,i1,i2,i3,i4⟩; go_simp; try with_reducible rfl
 conv in (Act.put _ _ _) => simp only [List.getElem_toArray, List.getElem_cons_succ, List.getElem_cons_zero, Act.put, List.setIfInBounds_toArray, List.set_cons_succ, List.set_cons_zero]
 refine readyH 1 _ (by kernel_rfl) rfl (by kernel_rfl) (fun K hK => ?_)
 go_simp
 refine (HKD.out _).mono ?_
 rintro e w1 ⟨m, rfl, hm, hmap, hq2, b1⟩
 replace b1 : Below W3.heap.size W3 w1 := (Below.refl _ W3).drew.trans b1
 have hg1 := (b1.block _ (Array.getElem?_eq_some_iff.1 HG3.out).1).trans HG3.out
 have hn1 := (b1.block _ (Array.getElem?_eq_some_iff.1 HN3.out).1).trans HN3.out
 have HT1 : Hid (NodeAt (fun _ => True) 32 w1 ⟨X, Y, L, ro, rn, rc', ko, kn, kc⟩ l) := NodeAt.below HT3.out b1 (Nat.le_refl _)
 have HQ1 : Hid _ := hq2
 have HG1 : Hid (w1.heap[w.heap.size]? = some (qcs ⟨3, a, b, c, d, x, y, sq, kk, af, fr⟩)) := hg1
 have HN1 : Hid (w1.heap[W1.heap.size]? = some (.cells #[.int .u32 (X : Int), .int .u32 (Y : Int), .int .i64 (L : Int), .slice ro rn rc', .slice ko kn kc] 45 (0, 0))) := hn1
 have HB1 : Hid (Below w.heap.size w w1) := HB3.out.trans (b1.mono HB3.out.size)
 have hlk := HLK.out w1 m _ hmap
 clear HSW
 have HSW : Hid (QN w.heap.size ⟨3, a, b, c, d, x, y, sq, kk, af, fr⟩ W1.heap.size ⟨X, Y, L, ro, rn, rc', ko, kn, kc⟩ w1) := ⟨qc_of hg1, fn5_of (n := ⟨X, Y, L, ro, rn, rc', ko, kn, kc⟩) hn1⟩
 clear hg1 hn1 b1 hmap hm HLK HKD hq2
 refine hK _ _ HSW.out ?_
 clear hK K
 refine readyH 4 _ (by kernel_rfl) rfl (by kernel_rfl) (fun K hK => ?_)
 go_simp
 refine hK _ _ HSW.out ?_
 clear hK K
 refine readyH 6 _ (by kernel_rfl) rfl (by kernel_rfl) (fun K hK => ?_)
 go_simp
 refine Calls.mono (HK.out w1 _ ⟨X, Y, L, ro, rn, rc', ko, kn, kc⟩ HQ1.out HT1.out) ?_
 rintro e w4 ⟨o4, cap4, rfl, hs4, b4⟩
 have HE : Hid (RowsAt w4 o4 cap4 (nrV l x y M) ∧ Below w.heap.size w w4) := ⟨hs4, HB1.out.trans (b4.mono HB1.out.size)⟩
 have hg4 := (b4.block _ (Array.getElem?_eq_some_iff.1 HG1.out).1).trans HG1.out
 have hn4 := (b4.block _ (Array.getElem?_eq_some_iff.1 HN1.out).1).trans HN1.out
 clear HSW
 have HSW : Hid (QN w.heap.size ⟨3, a, b, c, d, x, y, sq, kk, af, fr⟩ W1.heap.size ⟨X, Y, L, ro, rn, rc', ko, kn, kc⟩ w4) := ⟨qc_of hg4, fn5_of (n := ⟨X, Y, L, ro, rn, rc', ko, kn, kc⟩) hn4⟩
 clear hs4 b4 hg4 hn4 hlk HK
 refine hK _ _ HSW.out ?_
 clear hK K
 refine wpAnyH_take (i := 7) (v := ?_) rfl (by kernel_rfl) (by kernel_rfl) (by kernel_rfl) (fun _ _ _ h => h) (Or.inl ⟨by kernel_rfl, ?_⟩) HSW.out ?_
 rotate_left
 ·rintro w ⟨⟨e0,e1,e2,e3,e4,e5,e6,e7,e8,e9,e10⟩,i0,i1,i2,i3,i4⟩; go_simp; try with_reducible rfl
 conv in (Act.put _ _ _) => simp only [List.getElem_toArray, List.getElem_cons_succ, List.getElem_cons_zero, Act.put, List.setIfInBounds_toArray, List.set_cons_succ, List.set_cons_zero]
 refine wpAnyH_take (i := 8) (v := ?_) rfl (by kernel_rfl) (by kernel_rfl) (by kernel_rfl) (fun _ _ _ h => h) (Or.inl ⟨by kernel_rfl, ?_⟩) HSW.out ?_
 rotate_left
 ·rintro w ⟨⟨e0,e1,e2,e3,e4,e5,e6,e7,e8,e9,e10⟩,i0,i1,i2,i3,i4⟩; go_simp; try with_reducible rfl
 conv in (Act.put _ _ _) => simp only [List.getElem_toArray, List.getElem_cons_succ, List.getElem_cons_zero, Act.put, List.setIfInBounds_toArray, List.set_cons_succ, List.set_cons_zero]
 refine wpAnyH_take (i := 9) (v := ?_) rfl (by kernel_rfl) (by kernel_rfl) (by kernel_rfl) (fun _ _ _ h => h) (Or.inl ⟨by kernel_rfl, ?_⟩) HSW.out ?_
 rotate_left
 ·rintro w ⟨⟨e0,e1,e2,e3,e4,e5,e6,e7,e8,e9,e10⟩,i0,i1,i2,i3,i4⟩; go_simp; try with_reducible rfl
 conv in (Act.put _ _ _) => simp only [List.getElem_toArray, List.getElem_cons_succ, List.getElem_cons_zero, Act.put, List.setIfInBounds_toArray, List.set_cons_succ, List.set_cons_zero]
 refine wpAnyH_take (i := 10) (v := ?_) rfl (by kernel_rfl) (by kernel_rfl) (by kernel_rfl) (fun _ _ _ h => h) (Or.inl ⟨by kernel_rfl, ?_⟩) HSW.out ?_
 rotate_left
 ·rintro w ⟨⟨e0,e1,e2,e3,e4,e5,e6,e7,e8,e9,e10⟩,i0,i1,i2,i3,i4⟩; go_simp; try with_reducible rfl
 conv in (Act.put _ _ _) => simp only [List.getElem_toArray, List.getElem_cons_succ, List.getElem_cons_zero, Act.put, List.setIfInBounds_toArray, List.set_cons_succ, List.set_cons_zero]
 refine wpAnyH_done (by kernel_rfl) ?_ _
 go_wp2_with fail
 go_ret2
 exact ⟨o4, cap4, rfl, HE.out.1, HE.out.2⟩
set_option maxRecDepth 100000 in
set_option maxHeartbeats 4000000 in
theorem found_4 (o : Option Addr) (cap : Nat) (l : List Rw) (a b c d x y sq : Nat) (kk : Int) (af : Nat) (fr : Bool) (w : World) (hr : RowsAt w o cap l) (h : rightL l = true) (hc : chk ⟨4, a, b, c, d, x, y, sq, kk, af, fr⟩ = 0) :
  Calls Try.prog 27 #[.slice o l.length cap, qv ⟨4, a, b, c, d, x, y, sq, kk, af, fr⟩] w (KR (l) (0) w) := by
 have hb := below_new w (qcs ⟨4, a, b, c, d, x, y, sq, kk, af, fr⟩)
 have hg := heap_alloc_new w (qcs ⟨4, a, b, c, d, x, y, sq, kk, af, fr⟩)
 obtain ⟨W0, hW0⟩ : ∃ W0, w.alloc (qcs ⟨4, a, b, c, d, x, y, sq, kk, af, fr⟩) = W0 := ⟨_, rfl⟩
 rw [hW0] at hb hg
 have HW0 : Hid _ := hW0
 have HG0 : Hid (W0.heap[w.heap.size]? = some (qcs ⟨4, a, b, c, d, x, y, sq, kk, af, fr⟩)) := hg
 have HB0 : Hid (Below w.heap.size w W0) := hb
 have HC : Hid (∀ _ : True, _) := fun _ => build_ok l o cap W0 (hr.below hb (Nat.le_refl _)) h
 have HCK : Hid _ := check_any ⟨4, a, b, c, d, x, y, sq, kk, af, fr⟩
 have hon := right_on h
 have hri := right_rise h
 have hmax := ((rightL_iff l).1 h).1
 have HK : Hid (∀ (W : World) (g : Nat) (n : Nv), W.heap[g]? = some (qcs ⟨4, a, b, c, d, x, y, sq, kk, af, fr⟩) → NodeAt (fun _ => True) 32 W n l → _) := fun W g n h hN => kind4_any n l 32 W hN hon hmax hri
 have HLK : Hid (∀ (W : World) (m g : Nat), W.heap[m]? = some (.map (kmap g) 4) → _) := fun W m g h => lookf_4 h
 have HKD : Hid _ := kinds_any ⟨4, a, b, c, d, x, y, sq, kk, af, fr⟩
 rw [hc] at HCK
 simp only [nv, qv] at HC HCK HK HKD ⊢
 clear hb hg hW0 hr h hc hon hri
 go_enter Try.func27, Try.ntmps27
 go_wp2_with (first | (rw [HW0.out]; clear HW0))
 refine Calls.mono (HC.out trivial) ?_
 rintro e W1 ⟨n, rfl, n1, b1⟩
 obtain ⟨X, Y, L, ro, rn, rc', ko, kn, kc⟩ := n
 have hb1 := HB0.out.trans (b1.mono HB0.out.size)
 have hb3 := below_new W1 (.cells #[.int .u32 (X : Int), .int .u32 (Y : Int), .int .i64 (L : Int), .slice ro rn rc', .slice ko kn kc] 45)
 have p1 := heap_alloc_new W1 (.cells #[.int .u32 (X : Int), .int .u32 (Y : Int), .int .i64 (L : Int), .slice ro rn rc', .slice ko kn kc] 45)
 have hn3 := (n1.mono (G' := fun _ => True) fun _ _ _ => trivial).below hb3 (Nat.le_refl _)
 obtain ⟨W2, hW2⟩ : ∃ W2, W1.alloc (.cells #[.int .u32 (X : Int), .int .u32 (Y : Int), .int .i64 (L : Int), .slice ro rn rc', .slice ko kn kc] 45) = W2 := ⟨_, rfl⟩
 rw [hW2] at p1 hb3 hn3
 have HW2 : Hid _ := hW2
 have HB2 : Hid (Below w.heap.size w W2) := hb1.trans (hb3.mono hb1.size)
 have HN2 : Hid (W2.heap[W1.heap.size]? = some (.cells #[.int .u32 (X : Int), .int .u32 (Y : Int), .int .i64 (L : Int), .slice ro rn rc', .slice ko kn kc] 45 (0, 0))) := p1
 have HT2 : Hid (NodeAt (fun _ => True) 32 W2 ⟨X, Y, L, ro, rn, rc', ko, kn, kc⟩ l) := hn3
 have hq2 : W2.heap[w.heap.size]? = some (qcs ⟨4, a, b, c, d, x, y, sq, kk, af, fr⟩) := (hb3.block _ (by have := (Array.getElem?_eq_some_iff.1 HG0.out).1; have := b1.size; omega)).trans ((b1.block _ (Array.getElem?_eq_some_iff.1 HG0.out).1).trans HG0.out)
 have HQ2 : Hid (W2.heap[w.heap.size]? = some (qcs ⟨4, a, b, c, d, x, y, sq, kk, af, fr⟩)) := hq2
 have lq2 : w.heap.size < W2.heap.size := (Array.getElem?_eq_some_iff.1 hq2).1
 obtain ⟨c0, c1, c2, c3, c4, c5, c6, c7, c8, c9, c10⟩ := qc_of hq2
 simp only at c0 c1 c2 c3 c4 c5 c6 c7 c8 c9 c10
 clear p1 hb1 hb3 hn3 hq2 hW2 n1 b1 HC
 go_wp2_with (first | (rw [HW2.out]; clear HW2))
 refine (HCK.out W2).mono ?_
 rintro e W3 ⟨rfl, b3⟩
 have HB3 : Hid (Below w.heap.size w W3) := HB2.out.trans (b3.mono HB2.out.size)
 have hg3 := (b3.block _ lq2).trans HQ2.out
 have ln2 : W1.heap.size < W2.heap.size := (Array.getElem?_eq_some_iff.1 HN2.out).1
 have hn3 := (b3.block _ ln2).trans HN2.out
 have HG3 : Hid (W3.heap[w.heap.size]? = some (qcs ⟨4, a, b, c, d, x, y, sq, kk, af, fr⟩)) := hg3
 have HN3 : Hid (W3.heap[W1.heap.size]? = some (.cells #[.int .u32 (X : Int), .int .u32 (Y : Int), .int .i64 (L : Int), .slice ro rn rc', .slice ko kn kc] 45 (0, 0))) := hn3
 have HT3 : Hid (NodeAt (fun _ => True) 32 W3 ⟨X, Y, L, ro, rn, rc', ko, kn, kc⟩ l) := NodeAt.below HT2.out b3 (Nat.le_refl _)
 have HSW : Hid (QN w.heap.size ⟨4, a, b, c, d, x, y, sq, kk, af, fr⟩ W1.heap.size ⟨X, Y, L, ro, rn, rc', ko, kn, kc⟩ W3.drew) := ⟨qc_of hg3, fn5_of (n := ⟨X, Y, L, ro, rn, rc', ko, kn, kc⟩) hn3⟩
 clear b3 hg3 hn3 HN2 HT2 HQ2 HB2 c0 c1 c2 c3 c4 c5 c6 c7 c8 c9 c10 lq2 ln2 HCK
 go_wp2_with fail
 refine wp_region_held (S := QN w.heap.size ⟨4, a, b, c, d, x, y, sq, kk, af, fr⟩ W1.heap.size ⟨X, Y, L, ro, rn, rc', ko, kn, kc⟩) (by kernel_rfl) ?_
 change wpAnyH _ _ _ _ _ _ _ _ (World.drew _)
 refine wpAnyH_take (i := 0) (v := ?_) rfl (by kernel_rfl) (by kernel_rfl) (by kernel_rfl) (fun _ _ _ h => h) (Or.inl ⟨by kernel_rfl, ?_⟩) HSW.out ?_
 rotate_left
 ·rintro w ⟨⟨e0,e1,e2,e3,e4,e5,e6,e7,e8,e9,e10⟩,i0,i1,i2,i3,i4⟩; go_simp; try with_reducible rfl
 conv in (Act.put _ _ _) => simp only [List.getElem_toArray, List.getElem_cons_succ, List.getElem_cons_zero, Act.put, List.setIfInBounds_toArray, List.set_cons_succ, List.set_cons_zero]
 refine wpAnyH_take (i := 2) (v := ?_) rfl (by kernel_rfl) (by kernel_rfl) (by kernel_rfl) (fun _ _ _ h => h) (Or.inl ⟨by kernel_rfl, ?_⟩) HSW.out ?_
 rotate_left
 ·rintro w ⟨⟨e0,e1,e2,e3,e4,e5,e6,e7,e8,e9,e10⟩,i0,i1,i2,i3,i4⟩; go_simp; try with_reducible rfl
 conv in (Act.put _ _ _) => simp only [List.getElem_toArray, List.getElem_cons_succ, List.getElem_cons_zero, Act.put, List.setIfInBounds_toArray, List.set_cons_succ, List.set_cons_zero]
 refine wpAnyH_take (i := 3) (v := ?_) rfl (by kernel_rfl) (by kernel_rfl) (by kernel_rfl) (fun _ _ _ h => h) (Or.inl ⟨by kernel_rfl, ?_⟩) HSW.out ?_
 rotate_left
 ·rintro w ⟨⟨e0,e1,e2,e3,e4,e5,e6,e7,e8,e9,e10⟩,i0,i1,i2,i3,i4⟩; go_simp; try with_reducible rfl
 conv in (Act.put _ _ _) => simp only [List.getElem_toArray, List.getElem_cons_succ, List.getElem_cons_zero, Act.put, List.setIfInBounds_toArray, List.set_cons_succ, List.set_cons_zero]
 refine wpAnyH_take (i := 5) (v := ?_) rfl (by kernel_rfl) (by kernel_rfl) (by kernel_rfl) (fun _ _ _ h => h) (Or.inl ⟨by kernel_rfl, ?_⟩) HSW.out ?_
 rotate_left
 ·rintro w ⟨⟨e0,e1,e2,e3,e4,e5,e6,e7,e8,e9,e10⟩,i0,i1,i2,i3,i4⟩; go_simp; try with_reducible rfl
 conv in (Act.put _ _ _) => simp only [List.getElem_toArray, List.getElem_cons_succ, List.getElem_cons_zero, Act.put, List.setIfInBounds_toArray, List.set_cons_succ, List.set_cons_zero]
 refine readyH 1 _ (by kernel_rfl) rfl (by kernel_rfl) (fun K hK => ?_)
 go_simp
 refine (HKD.out _).mono ?_
 rintro e w1 ⟨m, rfl, hm, hmap, hq2, b1⟩
 replace b1 : Below W3.heap.size W3 w1 := (Below.refl _ W3).drew.trans b1
 have hg1 := (b1.block _ (Array.getElem?_eq_some_iff.1 HG3.out).1).trans HG3.out
 have hn1 := (b1.block _ (Array.getElem?_eq_some_iff.1 HN3.out).1).trans HN3.out
 have HT1 : Hid (NodeAt (fun _ => True) 32 w1 ⟨X, Y, L, ro, rn, rc', ko, kn, kc⟩ l) := NodeAt.below HT3.out b1 (Nat.le_refl _)
 have HQ1 : Hid _ := hq2
 have HG1 : Hid (w1.heap[w.heap.size]? = some (qcs ⟨4, a, b, c, d, x, y, sq, kk, af, fr⟩)) := hg1
 have HN1 : Hid (w1.heap[W1.heap.size]? = some (.cells #[.int .u32 (X : Int), .int .u32 (Y : Int), .int .i64 (L : Int), .slice ro rn rc', .slice ko kn kc] 45 (0, 0))) := hn1
 have HB1 : Hid (Below w.heap.size w w1) := HB3.out.trans (b1.mono HB3.out.size)
 have hlk := HLK.out w1 m _ hmap
 clear HSW
 have HSW : Hid (QN w.heap.size ⟨4, a, b, c, d, x, y, sq, kk, af, fr⟩ W1.heap.size ⟨X, Y, L, ro, rn, rc', ko, kn, kc⟩ w1) := ⟨qc_of hg1, fn5_of (n := ⟨X, Y, L, ro, rn, rc', ko, kn, kc⟩) hn1⟩
 clear hg1 hn1 b1 hmap hm HLK HKD hq2
 refine hK _ _ HSW.out ?_
 clear hK K
 refine readyH 4 _ (by kernel_rfl) rfl (by kernel_rfl) (fun K hK => ?_)
 go_simp
 refine hK _ _ HSW.out ?_
 clear hK K
 refine readyH 6 _ (by kernel_rfl) rfl (by kernel_rfl) (fun K hK => ?_)
 go_simp
 refine Calls.mono (HK.out w1 _ ⟨X, Y, L, ro, rn, rc', ko, kn, kc⟩ HQ1.out HT1.out) ?_
 rintro e w4 ⟨o4, cap4, rfl, hs4, b4⟩
 have HE : Hid (RowsAt w4 o4 cap4 (l) ∧ Below w.heap.size w w4) := ⟨hs4, HB1.out.trans (b4.mono HB1.out.size)⟩
 have hg4 := (b4.block _ (Array.getElem?_eq_some_iff.1 HG1.out).1).trans HG1.out
 have hn4 := (b4.block _ (Array.getElem?_eq_some_iff.1 HN1.out).1).trans HN1.out
 clear HSW
 have HSW : Hid (QN w.heap.size ⟨4, a, b, c, d, x, y, sq, kk, af, fr⟩ W1.heap.size ⟨X, Y, L, ro, rn, rc', ko, kn, kc⟩ w4) := ⟨qc_of hg4, fn5_of (n := ⟨X, Y, L, ro, rn, rc', ko, kn, kc⟩) hn4⟩
 clear hs4 b4 hg4 hn4 hlk HK
 refine hK _ _ HSW.out ?_
 clear hK K
 refine wpAnyH_take (i := 7) (v := ?_) rfl (by kernel_rfl) (by kernel_rfl) (by kernel_rfl) (fun _ _ _ h => h) (Or.inl ⟨by kernel_rfl, ?_⟩) HSW.out ?_
 rotate_left
 ·rintro w ⟨⟨e0,e1,e2,e3,e4,e5,e6,e7,e8,e9,e10⟩,i0,i1,i2,i3,i4⟩; go_simp; try with_reducible rfl
 conv in (Act.put _ _ _) => simp only [List.getElem_toArray, List.getElem_cons_succ, List.getElem_cons_zero, Act.put, List.setIfInBounds_toArray, List.set_cons_succ, List.set_cons_zero]
 refine wpAnyH_take (i := 8) (v := ?_) rfl (by kernel_rfl) (by kernel_rfl) (by kernel_rfl) (fun _ _ _ h => h) (Or.inl ⟨by kernel_rfl, ?_⟩) HSW.out ?_
 rotate_left
 ·rintro w ⟨⟨e0,e1,e2,e3,e4,e5,e6,e7,e8,e9,e10⟩,i0,i1,i2,i3,i4⟩; go_simp; try with_reducible rfl
 conv in (Act.put _ _ _) => simp only [List.getElem_toArray, List.getElem_cons_succ, List.getElem_cons_zero, Act.put, List.setIfInBounds_toArray, List.set_cons_succ, List.set_cons_zero]
 refine wpAnyH_take (i := 9) (v := ?_) rfl (by kernel_rfl) (by kernel_rfl) (by kernel_rfl) (fun _ _ _ h => h) (Or.inl ⟨by kernel_rfl, ?_⟩) HSW.out ?_
 rotate_left
 ·rintro w ⟨⟨e0,e1,e2,e3,e4,e5,e6,e7,e8,e9,e10⟩,i0,i1,i2,i3,i4⟩; go_simp; try with_reducible rfl
 conv in (Act.put _ _ _) => simp only [List.getElem_toArray, List.getElem_cons_succ, List.getElem_cons_zero, Act.put, List.setIfInBounds_toArray, List.set_cons_succ, List.set_cons_zero]
 refine wpAnyH_take (i := 10) (v := ?_) rfl (by kernel_rfl) (by kernel_rfl) (by kernel_rfl) (fun _ _ _ h => h) (Or.inl ⟨by kernel_rfl, ?_⟩) HSW.out ?_
 rotate_left
 ·rintro w ⟨⟨e0,e1,e2,e3,e4,e5,e6,e7,e8,e9,e10⟩,i0,i1,i2,i3,i4⟩; go_simp; try with_reducible rfl
 conv in (Act.put _ _ _) => simp only [List.getElem_toArray, List.getElem_cons_succ, List.getElem_cons_zero, Act.put, List.setIfInBounds_toArray, List.set_cons_succ, List.set_cons_zero]
 refine wpAnyH_done (by kernel_rfl) ?_ _
 go_wp2_with fail
 go_ret2
 exact ⟨o4, cap4, rfl, HE.out.1, HE.out.2⟩
set_option maxRecDepth 100000 in
theorem chk_ok {q : Qr} (h : chk q = 0) : (1 ≤ q.k ∧ q.k ≤ 4) ∧ 0 ≤ q.K ∧ q.K ≤ 64 ∧ (q.k ≠ 3 → 1 ≤ q.K) := by
 have h1 : ¬ (q.k < 1 ∨ 4 < q.k) := fun hk => by simp [chk, hk] at h
 have h2 : ¬ (64 < q.K ∨ q.K < 0 ∨ (q.K = 0 ∧ q.k ≠ 3)) := fun hk => by
  unfold chk at h
  rw [if_neg h1, if_pos hk] at h
  exact absurd h (by decide)
 omega
theorem fnd_len (q : Qr) (M : Nat) (l : List Rw) : (fnd q M l).length ≤ l.length := by
 unfold fnd winV rndV nrV
 split
 ·split
  ·exact List.length_filter_le _ _
  ·simp
 split
 ·split
  ·exact List.length_filter_le _ _
  ·simp
 split
 ·split
  ·rw [(nsort_perm _ _ _ _).length_eq]; exact Nat.le_refl _
  ·simp
 exact Nat.le_refl _
theorem fnd_rise {q : Qr} {M : Nat} {l : List Rw} (hk : q.k ≠ 3) (h : Rise l) : Rise (fnd q M l) := by
 unfold fnd
 by_cases h1 : q.k = 1
 ·rw [if_pos h1]
  unfold winV
  split
  ·exact rise_filter h _
  ·exact .nil
 rw [if_neg h1]
 by_cases h2 : q.k = 2
 ·rw [if_pos h2]
  unfold rndV
  split
  ·exact rise_filter h _
  ·exact .nil
 rw [if_neg h2, if_neg hk]
 exact h
def fdE (q : Qr) (l : List Rw) : Int := if rightL l = true then chk q else 80
def fdV (q : Qr) (M : Nat) (l : List Rw) : List Rw := if rightL l = true ∧ chk q = 0 then fnd q M l else []
set_option maxRecDepth 100000 in
theorem found_any (o : Option Addr) (cap : Nat) (l : List Rw) (q : Qr) (M : Nat) (hM : ∀ r ∈ l, r.id < M) (w : World) (hr : RowsAt w o cap l) :
  Calls Try.prog 27 #[.slice o l.length cap, qv q] w (KR (fdV q M l) (fdE q l) w) := by
 cases h : rightL l
 ·refine (found_no o cap l q w hr h).mono ?_
  rintro e w' ⟨rfl, hb⟩
  exact ⟨none, 0, by simp [fdV, fdE, h], by simp [fdV, h]; exact Sl.nil 4 w', hb⟩
 by_cases hc : chk q = 0
 ·obtain ⟨k, a, b, c, d, x, y, sq, kk, af, fr⟩ := q
  have hk : ¬ (k < 1 ∨ 4 < k) := fun hk => by simp [chk, hk] at hc
  have h2 := chk_in (q := ⟨k, a, b, c, d, x, y, sq, kk, af, fr⟩) hk
  rw [hc] at h2
  have hf : fndE ⟨k, a, b, c, d, x, y, sq, kk, af, fr⟩ = 0 := by
   by_cases cc : kk < (if k = 3 then 0 else 1) ∨ 64 < kk
   ·rw [if_pos cc] at h2
    exact absurd h2 (by decide)
   ·rw [if_neg cc] at h2
    exact h2.symm
  have e1 : fdV ⟨k, a, b, c, d, x, y, sq, kk, af, fr⟩ M l = fnd ⟨k, a, b, c, d, x, y, sq, kk, af, fr⟩ M l := if_pos ⟨h, hc⟩
  have e2 : fdE ⟨k, a, b, c, d, x, y, sq, kk, af, fr⟩ l = fndE ⟨k, a, b, c, d, x, y, sq, kk, af, fr⟩ := by unfold fdE; rw [if_pos h, hc, hf]
  rw [e1, e2]
  obtain rfl | rfl | rfl | rfl : k = 1 ∨ k = 2 ∨ k = 3 ∨ k = 4 := by omega
  ·exact found_1 o cap l a b c d x y sq kk af fr w hr h hc
  ·exact found_2 o cap l a b c d x y sq kk af fr w hr h hc
  ·exact found_3 o cap l a b c d x y sq kk af fr M hM w hr h hc
  ·exact found_4 o cap l a b c d x y sq kk af fr w hr h hc
 ·refine (found_bad o cap l q w hr h hc).mono ?_
  rintro e w' ⟨rfl, hb⟩
  exact ⟨none, 0, by simp [fdV, fdE, h, hc], by simp [fdV, hc]; exact Sl.nil 4 w', hb⟩
end Go.Proofs.Ytimdlohdmddnjaa.Rf
