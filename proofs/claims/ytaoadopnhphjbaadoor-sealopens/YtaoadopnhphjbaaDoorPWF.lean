/- The head of bytes: Get; a head's nonce; a block's tag. -/
import Derived.Test.YtaoadopnhphjbaaDoorPWE
import Derived.Laws.CopyOwn
namespace Go.Proofs.YtaoadopnhphjbaaDoor.Rs
open Go.RowKit Go.Lib
set_option maxRecDepth 100000 in
theorem ext24 (s : ByteArray) (h : s.size = 24) (a b : Nat) (hab : a ≤ b) (hb : b ≤ 24) (w : World) : (Instr.sliceAt 9 (.string s) (some (.int .i64 (a : Int))) (some (.int .i64 (b : Int))) none).run Tryd.prog w = .ok (.string (s.extract a b)) w := by
  simp [Instr.sliceAt, Instr.slice, run_underlying Tryd.underlying9, go_sem, h]
  rw [if_pos (by omega), if_pos (by omega)]
set_option maxRecDepth 100000 in
theorem results_head {fn : Func} {p u : Tmp} (h : fn.results = #[.cell p 25, .tmp u]) (tmps : Array Value) (w : World) (g : Nat) (k : Hd) {t : TypeId} {fr : Nat × Nat}
    (hp : tmps.getD p undef = .pointer (some ⟨g, 0, none⟩)) (hg : w.heap[g]? = some (.cells #[.int .u32 k.1, .int .u32 k.2.1, .int .u32 k.2.2.1, .int .u64 k.2.2.2] t fr)) : (results fn tmps).run Tryd.prog w = .ok (.tuple #[hv k, tmps.getD u undef]) w := by
  rw [results_cell_tmp h, hp]
  simp [asAddr, run_loadVar_row w g t 25 _ fr _ hg Tryd.underlying25 rfl (by kernel_rfl), hv]
set_option maxRecDepth 100000 in
theorem put_four {w : World} {g : Nat} {x y z u : Value} {T : TypeId} (h : w.heap[g]? = some (.cells #[x, y, z, u] T (0, 0))) (a b c d : Value) :
    ((((w.setCell ⟨g, 0, none⟩ a).setCell ⟨g, 1, none⟩ b).setCell ⟨g, 2, none⟩ c).setCell ⟨g, 3, none⟩ d).heap[g]? = some (.cells #[a, b, c, d] T (0, 0)) ∧ Below g w ((((w.setCell ⟨g, 0, none⟩ a).setCell ⟨g, 1, none⟩ b).setCell ⟨g, 2, none⟩ c).setCell ⟨g, 3, none⟩ d) := by
  have h1 := Rp.set_at w g 0 _ _ _ a h
  have h2 := Rp.set_at _ g 1 _ _ _ b h1
  have h3 := Rp.set_at _ g 2 _ _ _ c h2
  have h4 := Rp.set_at _ g 3 _ _ _ d h3
  exact ⟨h4, ((((Below.refl g w).setCell (p := ⟨g, 0, none⟩) (Nat.le_refl _) a).setCell (p := ⟨g, 1, none⟩) (Nat.le_refl _) b).setCell (p := ⟨g, 2, none⟩) (Nat.le_refl _) c).setCell (p := ⟨g, 3, none⟩) (Nat.le_refl _) d⟩
set_option maxRecDepth 100000 in
theorem below_dN {B : Nat} {a w : World} (h : Below B a w) (n : Nat) : Below B a (w.drewN n) := ⟨h.os, h.tape, h.output, h.size, h.block⟩
/-- Behind the numbers are read: the answer's head, and the one that is read. -/
def GW (w : World) (a b c d : Int) (W : World) : Prop :=
  W.heap[w.heap.size]? = some (.cells #[.int .u32 0, .int .u32 0, .int .u32 0, .int .u64 0] 25 (0, 0)) ∧ W.heap[w.heap.size + 1]? = some (.cells #[.int .u32 a, .int .u32 b, .int .u32 c, .int .u64 d] 25 (0, 0)) ∧ Below w.heap.size w W
set_option maxRecDepth 100000 in
theorem gw_new (w : World) (a b c d : Int) (k : Nat) : GW w a b c d (((w.alloc (.cells #[.int .u32 0, .int .u32 0, .int .u32 0, .int .u64 0] 25)).drewN k).alloc (.cells #[.int .u32 a, .int .u32 b, .int .u32 c, .int .u64 d] 25)) := by
  have h := Rp.two_new w (.cells #[.int .u32 0, .int .u32 0, .int .u32 0, .int .u64 0] 25) (.cells #[.int .u32 a, .int .u32 b, .int .u32 c, .int .u64 d] 25)
  exact ⟨h.1, h.2.1, (below_dN ((Below.refl _ w).alloc (Nat.le_refl _) _) k).alloc (by show _ ≤ (w.alloc _).heap.size; simp) _⟩
set_option maxRecDepth 100000 in
theorem gw_new0 (w : World) : GW w 0 0 0 0 ((w.alloc (.cells #[.int .u32 0, .int .u32 0, .int .u32 0, .int .u64 0] 25)).alloc (.cells #[.int .u32 0, .int .u32 0, .int .u32 0, .int .u64 0] 25)) := Rp.two_new w _ _
set_option maxRecDepth 100000 in
theorem gw_set {w W : World} (h : GW w 0 0 0 0 W) (a b c d : Int) : GW w a b c d ((((W.setCell ⟨w.heap.size + 1, 0, none⟩ (.int .u32 a)).setCell ⟨w.heap.size + 1, 1, none⟩ (.int .u32 b)).setCell ⟨w.heap.size + 1, 2, none⟩ (.int .u32 c)).setCell ⟨w.heap.size + 1, 3, none⟩ (.int .u64 d)) := by
  obtain ⟨h1, h2⟩ := put_four h.2.1 (.int .u32 a) (.int .u32 b) (.int .u32 c) (.int .u64 d)
  exact ⟨(h2.block _ (by omega)).trans h.1, h1, h.2.2.trans (h2.mono (by omega))⟩
set_option maxRecDepth 100000 in
theorem gw_dr {w W : World} {a b c d : Int} (h : GW w a b c d W) (n : Nat) : GW w a b c d (W.drewN n) := ⟨h.1, h.2.1, below_dN h.2.2 n⟩
set_option maxRecDepth 100000 in
set_option maxHeartbeats 4000000 in
theorem get_any (s : ByteArray) (w : World) :
    Calls Tryd.prog 11 #[.string s] w fun e w' => e = .returned (.tuple #[hv (gv s), .bool (gk s)]) ∧ Below w.heap.size w w' := by
  by_cases hs : s.size = 24
  · have q : (s.size : Int) = 24 := by omega
    have HS : Hid (s.size = 24) := hs
    have x0 : ∀ w, (Instr.sliceAt 9 (.string s) (some (.int .i64 0)) (some (.int .i64 4)) none).run Tryd.prog w = .ok (.string (s.extract 0 4)) w := ext24 s hs 0 4 (by omega) (by omega)
    have x1 : ∀ w, (Instr.sliceAt 9 (.string s) (some (.int .i64 4)) (some (.int .i64 8)) none).run Tryd.prog w = .ok (.string (s.extract 4 8)) w := ext24 s hs 4 8 (by omega) (by omega)
    have x2 : ∀ w, (Instr.sliceAt 9 (.string s) (some (.int .i64 8)) (some (.int .i64 12)) none).run Tryd.prog w = .ok (.string (s.extract 8 12)) w := ext24 s hs 8 12 (by omega) (by omega)
    have x3 : ∀ w, (Instr.sliceAt 9 (.string s) (some (.int .i64 12)) (some (.int .i64 20)) none).run Tryd.prog w = .ok (.string (s.extract 12 20)) w := ext24 s hs 12 20 (by omega) (by omega)
    have HR : Hid (∀ t : ByteArray, ∀ a b : Nat, t = s.extract a b → a ≤ b → b ≤ 24 → b ≤ a + 8 → ∀ V, Calls Tryd.prog 22 #[.string t] V fun e w' => e = .returned (.int .u64 (rd t (b - a))) ∧ ∃ n, w' = V.drewN n) := fun t a b ht h1 h2 h3 V => by
      have hz : t.size = b - a := by rw [ht, Rp.ext_size]; omega
      have := read_any t (by omega) V
      rw [hz] at this
      exact this
    obtain ⟨t0, ht0⟩ : ∃ t, s.extract 0 4 = t := ⟨_, rfl⟩
    obtain ⟨t1, ht1⟩ : ∃ t, s.extract 4 8 = t := ⟨_, rfl⟩
    obtain ⟨t2, ht2⟩ : ∃ t, s.extract 8 12 = t := ⟨_, rfl⟩
    obtain ⟨t3, ht3⟩ : ∃ t, s.extract 12 20 = t := ⟨_, rfl⟩
    have R0 : Hid (∀ V, Calls Tryd.prog 22 #[.string t0] V fun e w' => e = .returned (.int .u64 (rd t0 4)) ∧ ∃ n, w' = V.drewN n) := HR.out t0 0 4 ht0.symm (by omega) (by omega) (by omega)
    have R1 : Hid (∀ V, Calls Tryd.prog 22 #[.string t1] V fun e w' => e = .returned (.int .u64 (rd t1 4)) ∧ ∃ n, w' = V.drewN n) := HR.out t1 4 8 ht1.symm (by omega) (by omega) (by omega)
    have R2 : Hid (∀ V, Calls Tryd.prog 22 #[.string t2] V fun e w' => e = .returned (.int .u64 (rd t2 4)) ∧ ∃ n, w' = V.drewN n) := HR.out t2 8 12 ht2.symm (by omega) (by omega) (by omega)
    have R3 : Hid (∀ V, Calls Tryd.prog 22 #[.string t3] V fun e w' => e = .returned (.int .u64 (rd t3 8)) ∧ ∃ n, w' = V.drewN n) := HR.out t3 12 20 ht3.symm (by omega) (by omega) (by omega)
    have HH : Hid (hdOf s = (rd t0 4, rd t1 4, rd t2 4, rd t3 8)) := by refine (?_ : hdOf s = (rd t0 4, rd t1 4, rd t2 4, rd t3 8)); unfold hdOf; rw [ht0, ht1, ht2, ht3]
    obtain ⟨a, ha⟩ : ∃ x, rd t0 4 = x := ⟨_, rfl⟩
    obtain ⟨b, hb⟩ : ∃ x, rd t1 4 = x := ⟨_, rfl⟩
    obtain ⟨c, hc⟩ : ∃ x, rd t2 4 = x := ⟨_, rfl⟩
    obtain ⟨d, hd⟩ : ∃ x, rd t3 8 = x := ⟨_, rfl⟩
    have a2 : 0 ≤ a ∧ a < 4294967296 := by rw [← ha]; exact rd_range t0 4
    have b2 : 0 ≤ b ∧ b < 4294967296 := by rw [← hb]; exact rd_range t1 4
    have c2 : 0 ≤ c ∧ c < 4294967296 := by rw [← hc]; exact rd_range t2 4
    have d2 : 0 ≤ d ∧ d < 18446744073709551616 := by rw [← hd]; exact rd_range t3 8
    rw [ha] at R0
    rw [hb] at R1
    rw [hc] at R2
    rw [hd] at R3
    rw [ha, hb, hc, hd] at HH
    rw [ht0] at x0
    rw [ht1] at x1
    rw [ht2] at x2
    rw [ht3] at x3
    obtain ⟨a0, a1⟩ := a2
    obtain ⟨b0, b1⟩ := b2
    obtain ⟨c0, c1⟩ := c2
    obtain ⟨d0, d1⟩ := d2
    have wa : IntKind.u32.wrap a = a := by rw [IntKind.wrap_u32] <;> omega
    have wb : IntKind.u32.wrap b = b := by rw [IntKind.wrap_u32] <;> omega
    have wc : IntKind.u32.wrap c = c := by rw [IntKind.wrap_u32] <;> omega
    have FT : Hid (fits (a, b, c, d)) := ⟨⟨a0, a1⟩, ⟨b0, b1⟩, ⟨c0, c1⟩, d0, d1⟩
    have HP : Hid (putS (a, b, c, d) = putS (hdOf s)) := by refine (?_ : putS (a, b, c, d) = putS (hdOf s)); rw [HH.out]
    clear ht0 ht1 ht2 ht3 ha hb hc hd HR a0 a1 b0 b1 c0 c1 d0 d1
    clear hs
    go_enter Tryd.func11, Tryd.ntmps11
    go_wp2_with fail
    rename_i Q0 K0 hK0
    have TAIL : Hid (∀ W : World, GW w a b c d W → Exit.then K0 Q0 .normal { defers := [], tmps := #[Value.string s, undef, Value.pointer (some ⟨w.heap.size, 0, none⟩), Value.bool false,
          Value.pointer (some ⟨w.heap.size + 1, 0, none⟩), Value.string s, Value.int IntKind.i64 24,
          Value.bool false, undef, Value.string s, Value.string t0, Value.int IntKind.u64 a, Value.int IntKind.u32 a,
          Value.string s, Value.string t1, Value.int IntKind.u64 b, Value.int IntKind.u32 b, Value.string s,
          Value.string t2, Value.int IntKind.u64 c, Value.int IntKind.u32 c, Value.string s, Value.string t3,
          Value.int IntKind.u64 d, Value.agg #[Value.int IntKind.u32 a, Value.int IntKind.u32 b, Value.int IntKind.u32 c, Value.int IntKind.u64 d],
          undef, undef, undef, undef, undef, undef] } W) := by
      refine (?_ : ∀ W : World, GW w a b c d W → Exit.then K0 Q0 .normal _ W)
      rintro W ⟨hz, hx, hb⟩
      have HZ : Hid (W.heap[w.heap.size]? = some (.cells #[.int .u32 0, .int .u32 0, .int .u32 0, .int .u64 0] 25 (0, 0))) := hz
      have HX : Hid (W.heap[w.heap.size + 1]? = some (.cells #[.int .u32 a, .int .u32 b, .int .u32 c, .int .u64 d] 25 (0, 0))) := hx
      have HB : Hid (Below w.heap.size w W) := hb
      clear hz hx hb x0 x1 x2 x3 R0 R1 R2 R3
      go_wp2_with (refine wpList_load_row rfl 25 _ rfl (w.heap.size + 1) rfl 25 _ (0, 0) _ HX.out Tryd.underlying25 rfl (by kernel_rfl) ?_)
      refine (put_any (a, b, c, d) FT.out W).mono ?_
      rintro e W2 ⟨rfl, b2⟩
      have HZ2 : Hid _ := (b2.block _ (Array.getElem?_eq_some_iff.1 HZ.out).1).trans HZ.out
      have HX2 : Hid _ := (b2.block _ (Array.getElem?_eq_some_iff.1 HX.out).1).trans HX.out
      have HB2 : Hid (Below w.heap.size w W2) := HB.out.trans (b2.mono HB.out.size)
      clear b2 HZ HX HB
      rw [HP.out]
      have HG : Hid (gk s = decide (putS (hdOf s) = s)) := by refine (?_ : gk s = decide (putS (hdOf s) = s)); unfold gk; rw [HS.out]; simp
      by_cases hp : putS (hdOf s) = s
      · have HV : Hid (gk s = true ∧ gv s = (a, b, c, d)) := by
          refine (?_ : gk s = true ∧ gv s = (a, b, c, d))
          have e : gk s = true := by rw [HG.out]; simp [hp]
          exact ⟨e, by unfold gv; rw [if_pos e, HH.out]⟩
        rw [hp]
        clear hp HG HP
        go_wp2_with (first | (refine wpList_load_row rfl 25 _ rfl (w.heap.size + 1) rfl 25 _ (0, 0) _ HX2.out Tryd.underlying25 rfl (by kernel_rfl) ?_) | (refine wpList_store_row rfl 25 _ _ rfl w.heap.size _ rfl rfl 25 _ HZ2.out (by kernel_rfl) rfl (by simp [Value.oneCell']) ?_))
        refine bodyPost_ret (results_head rfl _ _ w.heap.size (a, b, c, d) rfl (setRow_heap _ _ _ _ _ _ HZ2.out)) rfl ?_
        exact ⟨by rw [HV.out.1, HV.out.2]; rfl, below_setRow HB2.out (Nat.le_refl _) _⟩
      · have HV : Hid (gk s = false ∧ gv s = zh) := by
          refine (?_ : gk s = false ∧ gv s = zh)
          have e : gk s = false := by rw [HG.out]; simp [hp]
          exact ⟨e, by unfold gv; rw [if_neg (by rw [e]; decide)]⟩
        have q3 : ((putS (hdOf s)).toList == s.toList) = false := by rw [Rp.toList_dec]; exact decide_eq_false hp
        obtain ⟨y, hy⟩ : ∃ y, putS (hdOf s) = y := ⟨_, rfl⟩
        rw [hy] at hp q3 ⊢
        clear hy HG HP
        go_wp2_with (refine wpList_store_row rfl 25 _ _ rfl w.heap.size _ rfl rfl 25 _ HZ2.out (by kernel_rfl) rfl (by simp [Value.oneCell']) ?_)
        refine bodyPost_ret (results_head rfl _ _ w.heap.size zh rfl (setRow_heap _ _ _ _ _ _ HZ2.out)) rfl ?_
        exact ⟨by rw [HV.out.1, HV.out.2]; rfl, below_setRow HB2.out (Nat.le_refl _) _⟩
    refine wp_region_any (by kernel_rfl) ?_
    change wpAny _ _ _ _ _ _ _ (World.drew _)
    refine wpAny_take (i := 0) (v := ?_) rfl (by kernel_rfl) (by kernel_rfl) (by kernel_rfl) (fun _ _ _ h => h) (Or.inl ⟨by kernel_rfl, ?_⟩) ?_
    rotate_left
    · intro w
      go_simp
      try with_reducible rfl
    conv in (Act.put _ _ _) => simp only [List.getElem_toArray, List.getElem_cons_succ, List.getElem_cons_zero, Act.put, List.setIfInBounds_toArray, List.set_cons_succ, List.set_cons_zero]
    refine wpAny_take (i := 1) (v := ?_) rfl (by kernel_rfl) (by kernel_rfl) (by kernel_rfl) (fun _ _ _ h => h) (Or.inl ⟨by kernel_rfl, ?_⟩) ?_
    rotate_left
    · intro w
      go_simp
      try with_reducible rfl
    conv in (Act.put _ _ _) => simp only [List.getElem_toArray, List.getElem_cons_succ, List.getElem_cons_zero, Act.put, List.setIfInBounds_toArray, List.set_cons_succ, List.set_cons_zero]
    refine wpAny_take (i := 4) (v := ?_) rfl (by kernel_rfl) (by kernel_rfl) (by kernel_rfl) (fun _ _ _ h => h) (Or.inl ⟨by kernel_rfl, ?_⟩) ?_
    rotate_left
    · intro w
      go_simp
      try with_reducible rfl
    conv in (Act.put _ _ _) => simp only [List.getElem_toArray, List.getElem_cons_succ, List.getElem_cons_zero, Act.put, List.setIfInBounds_toArray, List.set_cons_succ, List.set_cons_zero]
    refine wpAny_take (i := 5) (v := ?_) rfl (by kernel_rfl) (by kernel_rfl) (by kernel_rfl) (fun _ _ _ h => h) (Or.inl ⟨by kernel_rfl, ?_⟩) ?_
    rotate_left
    · intro w
      go_simp
      try with_reducible rfl
    conv in (Act.put _ _ _) => simp only [List.getElem_toArray, List.getElem_cons_succ, List.getElem_cons_zero, Act.put, List.setIfInBounds_toArray, List.set_cons_succ, List.set_cons_zero]
    refine wpAny_take (i := 8) (v := ?_) rfl (by kernel_rfl) (by kernel_rfl) (by kernel_rfl) (fun _ _ _ h => h) (Or.inl ⟨by kernel_rfl, ?_⟩) ?_
    rotate_left
    · intro w
      go_simp
      try with_reducible rfl
    conv in (Act.put _ _ _) => simp only [List.getElem_toArray, List.getElem_cons_succ, List.getElem_cons_zero, Act.put, List.setIfInBounds_toArray, List.set_cons_succ, List.set_cons_zero]
    refine wpAny_take (i := 9) (v := ?_) rfl (by kernel_rfl) (by kernel_rfl) (by kernel_rfl) (fun _ _ _ h => h) (Or.inl ⟨by kernel_rfl, ?_⟩) ?_
    rotate_left
    · intro w
      go_simp
      try with_reducible rfl
    conv in (Act.put _ _ _) => simp only [List.getElem_toArray, List.getElem_cons_succ, List.getElem_cons_zero, Act.put, List.setIfInBounds_toArray, List.set_cons_succ, List.set_cons_zero]
    refine wpAny_take (i := 12) (v := ?_) rfl (by kernel_rfl) (by kernel_rfl) (by kernel_rfl) (fun _ _ _ h => h) (Or.inl ⟨by kernel_rfl, ?_⟩) ?_
    rotate_left
    · intro w
      go_simp
      try with_reducible rfl
    conv in (Act.put _ _ _) => simp only [List.getElem_toArray, List.getElem_cons_succ, List.getElem_cons_zero, Act.put, List.setIfInBounds_toArray, List.set_cons_succ, List.set_cons_zero]
    refine wpAny_take (i := 13) (v := ?_) rfl (by kernel_rfl) (by kernel_rfl) (by kernel_rfl) (fun _ _ _ h => h) (Or.inl ⟨by kernel_rfl, ?_⟩) ?_
    rotate_left
    · intro w
      go_simp
      try with_reducible rfl
    conv in (Act.put _ _ _) => simp only [List.getElem_toArray, List.getElem_cons_succ, List.getElem_cons_zero, Act.put, List.setIfInBounds_toArray, List.set_cons_succ, List.set_cons_zero]
    refine wpAny_ready (rs := [2, 16]) (by kernel_rfl) (by simp) ?_
    refine (AllReady.cons rfl (fun K hK => ?_) (AllReady.cons rfl (fun K hK => ?_) AllReady.nil))
    · go_simp
      refine (R0.out _).mono ?_
      rintro e _ ⟨rfl, n2, rfl⟩
      refine hK _ _ ?_
      clear hK K
      refine wpAny_take (i := 3) (v := ?_) rfl (by kernel_rfl) (by kernel_rfl) (by kernel_rfl) (fun _ _ _ h => h) (Or.inl ⟨by kernel_rfl, ?_⟩) ?_
      rotate_left
      · intro w
        go_simp
        try with_reducible rfl
      conv in (Act.put _ _ _) => simp only [List.getElem_toArray, List.getElem_cons_succ, List.getElem_cons_zero, Act.put, List.setIfInBounds_toArray, List.set_cons_succ, List.set_cons_zero]
      refine wpAny_ready (rs := [6, 16]) (by kernel_rfl) (by simp) ?_
      refine (AllReady.cons rfl (fun K hK => ?_) (AllReady.cons rfl (fun K hK => ?_) AllReady.nil))
      · go_simp
        refine (R1.out _).mono ?_
        rintro e _ ⟨rfl, n6, rfl⟩
        refine hK _ _ ?_
        clear hK K
        refine wpAny_take (i := 7) (v := ?_) rfl (by kernel_rfl) (by kernel_rfl) (by kernel_rfl) (fun _ _ _ h => h) (Or.inl ⟨by kernel_rfl, ?_⟩) ?_
        rotate_left
        · intro w
          go_simp
          try with_reducible rfl
        conv in (Act.put _ _ _) => simp only [List.getElem_toArray, List.getElem_cons_succ, List.getElem_cons_zero, Act.put, List.setIfInBounds_toArray, List.set_cons_succ, List.set_cons_zero]
        refine wpAny_ready (rs := [10, 16]) (by kernel_rfl) (by simp) ?_
        refine (AllReady.cons rfl (fun K hK => ?_) (AllReady.cons rfl (fun K hK => ?_) AllReady.nil))
        · go_simp
          refine (R2.out _).mono ?_
          rintro e _ ⟨rfl, n10, rfl⟩
          refine hK _ _ ?_
          clear hK K
          refine wpAny_take (i := 11) (v := ?_) rfl (by kernel_rfl) (by kernel_rfl) (by kernel_rfl) (fun _ _ _ h => h) (Or.inl ⟨by kernel_rfl, ?_⟩) ?_
          rotate_left
          · intro w
            go_simp
            try with_reducible rfl
          conv in (Act.put _ _ _) => simp only [List.getElem_toArray, List.getElem_cons_succ, List.getElem_cons_zero, Act.put, List.setIfInBounds_toArray, List.set_cons_succ, List.set_cons_zero]
          refine wpAny_ready (rs := [14, 16]) (by kernel_rfl) (by simp) ?_
          refine (AllReady.cons rfl (fun K hK => ?_) (AllReady.cons rfl (fun K hK => ?_) AllReady.nil))
          · go_simp
            refine (R3.out _).mono ?_
            rintro e _ ⟨rfl, n14, rfl⟩
            refine hK _ _ ?_
            clear hK K
            refine wpAny_take (i := 15) (v := ?_) rfl (by kernel_rfl) (by kernel_rfl) (by kernel_rfl) (fun _ _ _ h => h) (Or.inl ⟨by kernel_rfl, ?_⟩) ?_
            rotate_left
            · intro w
              go_simp
              try with_reducible rfl
            conv in (Act.put _ _ _) => simp only [List.getElem_toArray, List.getElem_cons_succ, List.getElem_cons_zero, Act.put, List.setIfInBounds_toArray, List.set_cons_succ, List.set_cons_zero]
            refine wpAny_ready (rs := [16]) (by kernel_rfl) (by simp) ?_
            refine (AllReady.cons rfl (fun K hK => ?_) AllReady.nil)
            go_simp
            refine hK _ _ ?_
            clear hK K
            refine wpAny_ready (rs := [17]) (by kernel_rfl) (by simp) ?_
            refine (AllReady.cons rfl (fun K hK => ?_) AllReady.nil)
            go_simp
            refine hK _ _ ?_
            clear hK K
            refine wpAny_done (by kernel_rfl) ?_ _
            exact TAIL.out _ (gw_new w a b c d _)
          · go_simp
            refine hK _ _ ?_
            clear hK K
            refine wpAny_ready (rs := [14]) (by kernel_rfl) (by simp) ?_
            refine (AllReady.cons rfl (fun K hK => ?_) AllReady.nil)
            go_simp
            refine (R3.out _).mono ?_
            rintro e _ ⟨rfl, n14, rfl⟩
            refine hK _ _ ?_
            clear hK K
            refine wpAny_take (i := 15) (v := ?_) rfl (by kernel_rfl) (by kernel_rfl) (by kernel_rfl) (fun _ _ _ h => h) (Or.inl ⟨by kernel_rfl, ?_⟩) ?_
            rotate_left
            · intro w
              go_simp
              try with_reducible rfl
            conv in (Act.put _ _ _) => simp only [List.getElem_toArray, List.getElem_cons_succ, List.getElem_cons_zero, Act.put, List.setIfInBounds_toArray, List.set_cons_succ, List.set_cons_zero]
            refine wpAny_ready (rs := [17]) (by kernel_rfl) (by simp) ?_
            refine (AllReady.cons rfl (fun K hK => ?_) AllReady.nil)
            go_simp
            refine hK _ _ ?_
            clear hK K
            refine wpAny_done (by kernel_rfl) ?_ _
            exact TAIL.out _ (gw_set (gw_dr (gw_new w 0 0 0 0 _) _) a b c d)
        · go_simp
          refine hK _ _ ?_
          clear hK K
          refine wpAny_ready (rs := [10]) (by kernel_rfl) (by simp) ?_
          refine (AllReady.cons rfl (fun K hK => ?_) AllReady.nil)
          go_simp
          refine (R2.out _).mono ?_
          rintro e _ ⟨rfl, n10, rfl⟩
          refine hK _ _ ?_
          clear hK K
          refine wpAny_take (i := 11) (v := ?_) rfl (by kernel_rfl) (by kernel_rfl) (by kernel_rfl) (fun _ _ _ h => h) (Or.inl ⟨by kernel_rfl, ?_⟩) ?_
          rotate_left
          · intro w
            go_simp
            try with_reducible rfl
          conv in (Act.put _ _ _) => simp only [List.getElem_toArray, List.getElem_cons_succ, List.getElem_cons_zero, Act.put, List.setIfInBounds_toArray, List.set_cons_succ, List.set_cons_zero]
          refine wpAny_ready (rs := [14]) (by kernel_rfl) (by simp) ?_
          refine (AllReady.cons rfl (fun K hK => ?_) AllReady.nil)
          go_simp
          refine (R3.out _).mono ?_
          rintro e _ ⟨rfl, n14, rfl⟩
          refine hK _ _ ?_
          clear hK K
          refine wpAny_take (i := 15) (v := ?_) rfl (by kernel_rfl) (by kernel_rfl) (by kernel_rfl) (fun _ _ _ h => h) (Or.inl ⟨by kernel_rfl, ?_⟩) ?_
          rotate_left
          · intro w
            go_simp
            try with_reducible rfl
          conv in (Act.put _ _ _) => simp only [List.getElem_toArray, List.getElem_cons_succ, List.getElem_cons_zero, Act.put, List.setIfInBounds_toArray, List.set_cons_succ, List.set_cons_zero]
          refine wpAny_ready (rs := [17]) (by kernel_rfl) (by simp) ?_
          refine (AllReady.cons rfl (fun K hK => ?_) AllReady.nil)
          go_simp
          refine hK _ _ ?_
          clear hK K
          refine wpAny_done (by kernel_rfl) ?_ _
          exact TAIL.out _ (gw_set (gw_dr (gw_new w 0 0 0 0 _) _) a b c d)
      · go_simp
        refine hK _ _ ?_
        clear hK K
        refine wpAny_ready (rs := [6]) (by kernel_rfl) (by simp) ?_
        refine (AllReady.cons rfl (fun K hK => ?_) AllReady.nil)
        go_simp
        refine (R1.out _).mono ?_
        rintro e _ ⟨rfl, n6, rfl⟩
        refine hK _ _ ?_
        clear hK K
        refine wpAny_take (i := 7) (v := ?_) rfl (by kernel_rfl) (by kernel_rfl) (by kernel_rfl) (fun _ _ _ h => h) (Or.inl ⟨by kernel_rfl, ?_⟩) ?_
        rotate_left
        · intro w
          go_simp
          try with_reducible rfl
        conv in (Act.put _ _ _) => simp only [List.getElem_toArray, List.getElem_cons_succ, List.getElem_cons_zero, Act.put, List.setIfInBounds_toArray, List.set_cons_succ, List.set_cons_zero]
        refine wpAny_ready (rs := [10]) (by kernel_rfl) (by simp) ?_
        refine (AllReady.cons rfl (fun K hK => ?_) AllReady.nil)
        go_simp
        refine (R2.out _).mono ?_
        rintro e _ ⟨rfl, n10, rfl⟩
        refine hK _ _ ?_
        clear hK K
        refine wpAny_take (i := 11) (v := ?_) rfl (by kernel_rfl) (by kernel_rfl) (by kernel_rfl) (fun _ _ _ h => h) (Or.inl ⟨by kernel_rfl, ?_⟩) ?_
        rotate_left
        · intro w
          go_simp
          try with_reducible rfl
        conv in (Act.put _ _ _) => simp only [List.getElem_toArray, List.getElem_cons_succ, List.getElem_cons_zero, Act.put, List.setIfInBounds_toArray, List.set_cons_succ, List.set_cons_zero]
        refine wpAny_ready (rs := [14]) (by kernel_rfl) (by simp) ?_
        refine (AllReady.cons rfl (fun K hK => ?_) AllReady.nil)
        go_simp
        refine (R3.out _).mono ?_
        rintro e _ ⟨rfl, n14, rfl⟩
        refine hK _ _ ?_
        clear hK K
        refine wpAny_take (i := 15) (v := ?_) rfl (by kernel_rfl) (by kernel_rfl) (by kernel_rfl) (fun _ _ _ h => h) (Or.inl ⟨by kernel_rfl, ?_⟩) ?_
        rotate_left
        · intro w
          go_simp
          try with_reducible rfl
        conv in (Act.put _ _ _) => simp only [List.getElem_toArray, List.getElem_cons_succ, List.getElem_cons_zero, Act.put, List.setIfInBounds_toArray, List.set_cons_succ, List.set_cons_zero]
        refine wpAny_ready (rs := [17]) (by kernel_rfl) (by simp) ?_
        refine (AllReady.cons rfl (fun K hK => ?_) AllReady.nil)
        go_simp
        refine hK _ _ ?_
        clear hK K
        refine wpAny_done (by kernel_rfl) ?_ _
        exact TAIL.out _ (gw_set (gw_dr (gw_new w 0 0 0 0 _) _) a b c d)
    · go_simp
      refine hK _ _ ?_
      clear hK K
      refine wpAny_ready (rs := [2]) (by kernel_rfl) (by simp) ?_
      refine (AllReady.cons rfl (fun K hK => ?_) AllReady.nil)
      go_simp
      refine (R0.out _).mono ?_
      rintro e _ ⟨rfl, n2, rfl⟩
      refine hK _ _ ?_
      clear hK K
      refine wpAny_take (i := 3) (v := ?_) rfl (by kernel_rfl) (by kernel_rfl) (by kernel_rfl) (fun _ _ _ h => h) (Or.inl ⟨by kernel_rfl, ?_⟩) ?_
      rotate_left
      · intro w
        go_simp
        try with_reducible rfl
      conv in (Act.put _ _ _) => simp only [List.getElem_toArray, List.getElem_cons_succ, List.getElem_cons_zero, Act.put, List.setIfInBounds_toArray, List.set_cons_succ, List.set_cons_zero]
      refine wpAny_ready (rs := [6]) (by kernel_rfl) (by simp) ?_
      refine (AllReady.cons rfl (fun K hK => ?_) AllReady.nil)
      go_simp
      refine (R1.out _).mono ?_
      rintro e _ ⟨rfl, n6, rfl⟩
      refine hK _ _ ?_
      clear hK K
      refine wpAny_take (i := 7) (v := ?_) rfl (by kernel_rfl) (by kernel_rfl) (by kernel_rfl) (fun _ _ _ h => h) (Or.inl ⟨by kernel_rfl, ?_⟩) ?_
      rotate_left
      · intro w
        go_simp
        try with_reducible rfl
      conv in (Act.put _ _ _) => simp only [List.getElem_toArray, List.getElem_cons_succ, List.getElem_cons_zero, Act.put, List.setIfInBounds_toArray, List.set_cons_succ, List.set_cons_zero]
      refine wpAny_ready (rs := [10]) (by kernel_rfl) (by simp) ?_
      refine (AllReady.cons rfl (fun K hK => ?_) AllReady.nil)
      go_simp
      refine (R2.out _).mono ?_
      rintro e _ ⟨rfl, n10, rfl⟩
      refine hK _ _ ?_
      clear hK K
      refine wpAny_take (i := 11) (v := ?_) rfl (by kernel_rfl) (by kernel_rfl) (by kernel_rfl) (fun _ _ _ h => h) (Or.inl ⟨by kernel_rfl, ?_⟩) ?_
      rotate_left
      · intro w
        go_simp
        try with_reducible rfl
      conv in (Act.put _ _ _) => simp only [List.getElem_toArray, List.getElem_cons_succ, List.getElem_cons_zero, Act.put, List.setIfInBounds_toArray, List.set_cons_succ, List.set_cons_zero]
      refine wpAny_ready (rs := [14]) (by kernel_rfl) (by simp) ?_
      refine (AllReady.cons rfl (fun K hK => ?_) AllReady.nil)
      go_simp
      refine (R3.out _).mono ?_
      rintro e _ ⟨rfl, n14, rfl⟩
      refine hK _ _ ?_
      clear hK K
      refine wpAny_take (i := 15) (v := ?_) rfl (by kernel_rfl) (by kernel_rfl) (by kernel_rfl) (fun _ _ _ h => h) (Or.inl ⟨by kernel_rfl, ?_⟩) ?_
      rotate_left
      · intro w
        go_simp
        try with_reducible rfl
      conv in (Act.put _ _ _) => simp only [List.getElem_toArray, List.getElem_cons_succ, List.getElem_cons_zero, Act.put, List.setIfInBounds_toArray, List.set_cons_succ, List.set_cons_zero]
      refine wpAny_ready (rs := [17]) (by kernel_rfl) (by simp) ?_
      refine (AllReady.cons rfl (fun K hK => ?_) AllReady.nil)
      go_simp
      refine hK _ _ ?_
      clear hK K
      refine wpAny_done (by kernel_rfl) ?_ _
      exact TAIL.out _ (gw_set (gw_dr (gw_new0 w) _) a b c d)
  · have q : ((s.size : Int) != 24) = true := by simp; omega
    have HV : Hid (gv s = zh ∧ gk s = false) := by
      refine (?_ : gv s = zh ∧ gk s = false)
      simp [gv, gk, hs]
    clear hs
    go_enter Tryd.func11, Tryd.ntmps11
    go_wp2_with fail
    refine bodyPost_ret (results_head rfl _ _ w.heap.size zh rfl (heap_alloc_new w _)) rfl ?_
    exact ⟨by rw [HV.out.1, HV.out.2]; rfl, (Below.refl _ w).alloc (Nat.le_refl _) _⟩
end Go.Proofs.YtaoadopnhphjbaaDoor.Rs
