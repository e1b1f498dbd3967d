/- The reference's Decode of bytes of the right size, with the mark. -/
import Derived.Test.YtofealdlgpmheaaQRte
namespace Go.Proofs.Ytofealdlgpmheaa.Ro
open Go.RowKit Go.Lib Go.Shelf
open Go.Proofs.Ytofealdlgpmheaa.Rc Go.Proofs.Ytofealdlgpmheaa.Rq
set_option maxRecDepth 100000 in
theorem valg (s : ByteArray) (h : 16 ≤ s.size) : valB (s.extract 12 16) (s.extract 12 16).size = acc (fs s) 1 20 := by
  have h1 := val4 s 12 h
  rw [acc1]
  simp only [fs, Nat.reduceAdd] at h1 ⊢
  exact h1
set_option maxRecDepth 100000 in
theorem valn (s : ByteArray) (h : 20 ≤ s.size) : valB (s.extract 16 20) (s.extract 16 20).size = acc (fs s) 2 20 := by
  have h1 := val4 s 16 h
  rw [acc2]
  simp only [fs, Nat.reduceAdd] at h1 ⊢
  exact h1
set_option maxRecDepth 100000 in
theorem valp (s : ByteArray) (h : 24 ≤ s.size) : valB (s.extract 20 24) (s.extract 20 24).size = acc (fs s) 3 20 := by
  have h1 := val4 s 20 h
  rw [acc3]
  simp only [fs, Nat.reduceAdd] at h1 ⊢
  exact h1
set_option maxRecDepth 100000 in
theorem ro_c (s : ByteArray) : acc (fs s) 0 20 = (rootOf s).c := by unfold rootOf; rfl
set_option maxRecDepth 100000 in
theorem ro_g (s : ByteArray) : acc (fs s) 1 20 = (rootOf s).g := by unfold rootOf; rfl
set_option maxRecDepth 100000 in
theorem ro_n (s : ByteArray) : acc (fs s) 2 20 = (rootOf s).n := by unfold rootOf; rfl
set_option maxRecDepth 100000 in
theorem ro_p (s : ByteArray) : acc (fs s) 3 20 = (rootOf s).p := by unfold rootOf; rfl
set_option maxRecDepth 100000 in
set_option maxHeartbeats 16000000 in
theorem sdecode_in (s : ByteArray) (w : World) (hs : s.size = 56) (hM : hasM s = true) : Calls Try.prog 17 #[.string s] w (DP s w) := by
  have hok : okD s = rrt (rootOf s) := by unfold okD; rw [hM]; exact Bool.true_and _
  unfold DP rdR
  rw [hok]
  clear hok
  have ho := rootOf_ok s
  have k0 : ∀ W : World, Calls Try.prog 27 #[.string (s.extract 4 12)] W fun e w' => e = .returned (.int .u64 ((rootOf s).c : Int)) ∧ Below W.heap.size W w' := fun W => by
    have h := sget_any (s.extract 4 12) (by rw [ByteArray.size_extract]; omega) W
    rw [val8 s (by omega), ro_c] at h
    exact h
  have k1 : ∀ W : World, Calls Try.prog 27 #[.string (s.extract 12 16)] W fun e w' => e = .returned (.int .u64 ((rootOf s).g : Int)) ∧ Below W.heap.size W w' := fun W => by
    have h := sget_any (s.extract 12 16) (by rw [ByteArray.size_extract]; omega) W
    rw [valg s (by omega), ro_g] at h
    exact h
  have k2 : ∀ W : World, Calls Try.prog 27 #[.string (s.extract 16 20)] W fun e w' => e = .returned (.int .u64 ((rootOf s).n : Int)) ∧ Below W.heap.size W w' := fun W => by
    have h := sget_any (s.extract 16 20) (by rw [ByteArray.size_extract]; omega) W
    rw [valn s (by omega), ro_n] at h
    exact h
  have k3 : ∀ W : World, Calls Try.prog 27 #[.string (s.extract 20 24)] W fun e w' => e = .returned (.int .u64 ((rootOf s).p : Int)) ∧ Below W.heap.size W w' := fun W => by
    have h := sget_any (s.extract 20 24) (by rw [ByteArray.size_extract]; omega) W
    rw [valp s (by omega), ro_p] at h
    exact h
  have HR := fun W => sright_any (rootOf s) W
  have ht : (rootOf s).t = s.extract 24 s.size := rfl
  obtain ⟨r, hr⟩ : ∃ r, rootOf s = r := ⟨_, rfl⟩
  rw [hr] at ho k0 k1 k2 k3 HR ht ⊢
  obtain ⟨c, g, n, p, t⟩ := r
  obtain ⟨o0, o1, o2, o3⟩ := ho
  simp only at o0 o1 o2 o3 k0 k1 k2 k3 ht
  have HT : Hid (s.extract 24 s.size = t) := ht.symm
  obtain ⟨b, hb⟩ : ∃ b, rrt ⟨c, g, n, p, t⟩ = b := ⟨_, rfl⟩
  rw [hb] at HR ⊢
  have HRt : Hid (∀ W : World, Calls Try.prog 14 #[.agg #[.int .u64 (c : Int), .int .u32 (g : Int), .int .u32 (n : Int), .int .u32 (p : Int), .string t]] W fun e w' => e = .returned (.bool b) ∧ Below W.heap.size W w') := HR
  have K0 : Hid _ := k0
  have K1 : Hid _ := k1
  have K2 : Hid _ := k2
  have K3 : Hid _ := k3
  have e1 : IntKind.u32.wrap (g : Int) = (g : Int) := by rw [IntKind.wrap_u32]; omega
  have e2 : IntKind.u32.wrap (n : Int) = (n : Int) := by rw [IntKind.wrap_u32]; omega
  have e3 : IntKind.u32.wrap (p : Int) = (p : Int) := by rw [IntKind.wrap_u32]; omega
  have q1 : ((s.size : Int) != 56) = false := by simp; omega
  have q2 : ((s.extract 0 4).toList == [115, 112, 104, 114]) = true := hM
  have q3 : (4 : Int) ≤ (s.size : Int) := by omega
  have q4 : (12 : Int) ≤ (s.size : Int) := by omega
  have q5 : (16 : Int) ≤ (s.size : Int) := by omega
  have q6 : (20 : Int) ≤ (s.size : Int) := by omega
  have q7 : (24 : Int) ≤ (s.size : Int) := by omega
  have hmx : Try.prog.follows .mixedOrders = true := by kernel_rfl
  have h0 := heap_alloc_new w (.cells #[.int .u64 0, .int .u32 0, .int .u32 0, .int .u32 0, .string ⟨#[]⟩] 27)
  have h1 := below_new w (.cells #[.int .u64 0, .int .u32 0, .int .u32 0, .int .u32 0, .string ⟨#[]⟩] 27)
  obtain ⟨W1, hW1⟩ : ∃ W1, w.alloc (.cells #[.int .u64 0, .int .u32 0, .int .u32 0, .int .u32 0, .string ⟨#[]⟩] 27) = W1 := ⟨_, rfl⟩
  rw [hW1] at h0 h1
  have HW1 : Hid _ := hW1
  have HG0 : Hid (W1.drew.heap[w.heap.size]? = some (.cells #[.int .u64 0, .int .u32 0, .int .u32 0, .int .u32 0, .string ⟨#[]⟩] 27 (0, 0))) := h0
  have HB0 : Hid (Below w.heap.size w W1.drew) := h1.drew
  clear h0 h1 hW1 hs hM o0 o1 o2 o3 k0 k1 k2 k3 ht HR hb hr
  go_enter Try.func17, Try.ntmps17
  go_wp2_with fail
  rw [HW1.out]
  clear HW1 q1 q2
  rename_i KK hKK0
  have HTAIL : Hid (∀ (ga : Nat) (Y : World), Y.heap[ga]? = some (.cells #[.int .u64 (c : Int), .int .u32 (g : Int), .int .u32 (n : Int), .int .u32 (p : Int), .string t] 27 (0, 0)) → Y.heap[w.heap.size]? = some (.cells #[.int .u64 0, .int .u32 0, .int .u32 0, .int .u32 0, .string ⟨#[]⟩] 27 (0, 0)) → Below w.heap.size w Y → KK { tmps := #[.string s, undef, .pointer (some ⟨w.heap.size, 0, none⟩), .int .i64 0, .pointer (some ⟨ga, 0, none⟩), undef, .string s, .int .i64 (s.size : Int), .bool false, .bool false, .string s, .string (s.extract 0 4), .bool false, .bool false, undef, .string s, .string (s.extract 4 12), .int .u64 (c : Int), .string s, .string (s.extract 12 16), .int .u64 (g : Int), .int .u32 (g : Int), .string s, .string (s.extract 16 20), .int .u64 (n : Int), .int .u32 (n : Int), .string s, .string (s.extract 20 24), .int .u64 (p : Int), .int .u32 (p : Int), .string s, .string t, .agg #[.int .u32 (p : Int), .string t], .agg #[.int .u64 (c : Int), .int .u32 (g : Int), .int .u32 (n : Int), .int .u32 (p : Int), .string t], undef, undef, undef, undef, undef, undef], defers := [] } Y) := by
    as_aux_lemma =>
      refine fun ga Y hX hGY hBY => hKK0 _ _ ?_
      have HX : Hid _ := hX
      have HGY : Hid _ := hGY
      have HBY : Hid _ := hBY
      obtain ⟨⟨c0, c1, c2, c3, c4⟩, -⟩ := root_facts hX
      clear hX hGY hBY
      go_wp2_with fail
      refine (HRt.out Y).mono ?_
      rintro e Y2 ⟨rfl, bY⟩
      have hg2 := (bY.block _ (Array.getElem?_eq_some_iff.1 HGY.out).1).trans HGY.out
      have hx2 := (bY.block _ (Array.getElem?_eq_some_iff.1 HX.out).1).trans HX.out
      have HB2 : Hid (Below w.heap.size w Y2) := HBY.out.trans (bY.mono HBY.out.size)
      have HG2 : Hid (Y2.heap[w.heap.size]? = some (.cells #[.int .u64 0, .int .u32 0, .int .u32 0, .int .u32 0, .string ⟨#[]⟩] 27 (0, 0))) := hg2
      clear c0 c1 c2 c3 c4 bY
      obtain ⟨⟨c0, c1, c2, c3, c4⟩, -⟩ := root_facts hx2
      obtain ⟨⟨d0, d1, d2, d3, d4⟩, z0, z1, z2, z3, z4⟩ := root_facts hg2
      clear hx2 hg2
      cases b
      · go_wp2_with fail
        obtain ⟨X, B⟩ := put_root HG2.out (.int .u64 0) (.int .u32 0) (.int .u32 0) (.int .u32 0) (.string ⟨#[]⟩)
        exact bodyPost_ret (results_root2 rfl _ _ w.heap.size _ _ _ _ _ rfl rfl X) rfl ⟨rfl, HB2.out.trans B⟩
      · go_wp2_with fail
        obtain ⟨X, B⟩ := put_root HG2.out (.int .u64 (c : Int)) (.int .u32 (g : Int)) (.int .u32 (n : Int)) (.int .u32 (p : Int)) (.string t)
        exact bodyPost_ret (results_root2 rfl _ _ w.heap.size _ _ _ _ _ rfl rfl X) rfl ⟨rfl, HB2.out.trans B⟩
  refine wp_region_any hmx ?_
  change wpAny _ _ _ _ _ _ _ (World.drew _)
  obtain ⟨Wd, hWd⟩ : ∃ Wd, W1.drew = Wd := ⟨_, rfl⟩
  rw [hWd] at HG0 HB0 ⊢
  clear hWd
  refine wpAny_take (i := 0) (v := ?_) rfl (by kernel_rfl) (by kernel_rfl) (by kernel_rfl) (fun _ _ _ h => h) (Or.inl ⟨by kernel_rfl, ?_⟩) ?_
  rotate_left
  · intro w
    go_simp
    try with_reducible rfl
  conv in (Act.put _ _ _) => simp only [List.getElem_toArray, List.getElem_cons_succ, List.getElem_cons_zero, Act.put, List.setIfInBounds_toArray, List.set_cons_succ, List.set_cons_zero]
  refine wpAny_take (i := 1) (v := ?_) rfl (by kernel_rfl) (by kernel_rfl) (by kernel_rfl) (fun _ _ _ h => h) (Or.inl ⟨by kernel_rfl, ?_⟩) ?_
  rotate_left
  · intro w
    go_simp
    try with_reducible rfl
  conv in (Act.put _ _ _) => simp only [List.getElem_toArray, List.getElem_cons_succ, List.getElem_cons_zero, Act.put, List.setIfInBounds_toArray, List.set_cons_succ, List.set_cons_zero]
  refine wpAny_take (i := 3) (v := ?_) rfl (by kernel_rfl) (by kernel_rfl) (by kernel_rfl) (fun _ _ _ h => h) (Or.inl ⟨by kernel_rfl, ?_⟩) ?_
  rotate_left
  · intro w
    go_simp
    try with_reducible rfl
  conv in (Act.put _ _ _) => simp only [List.getElem_toArray, List.getElem_cons_succ, List.getElem_cons_zero, Act.put, List.setIfInBounds_toArray, List.set_cons_succ, List.set_cons_zero]
  refine wpAny_take (i := 4) (v := ?_) rfl (by kernel_rfl) (by kernel_rfl) (by kernel_rfl) (fun _ _ _ h => h) (Or.inl ⟨by kernel_rfl, ?_⟩) ?_
  rotate_left
  · intro w
    go_simp
    try with_reducible rfl
  conv in (Act.put _ _ _) => simp only [List.getElem_toArray, List.getElem_cons_succ, List.getElem_cons_zero, Act.put, List.setIfInBounds_toArray, List.set_cons_succ, List.set_cons_zero]
  refine wpAny_take (i := 7) (v := ?_) rfl (by kernel_rfl) (by kernel_rfl) (by kernel_rfl) (fun _ _ _ h => h) (Or.inl ⟨by kernel_rfl, ?_⟩) ?_
  rotate_left
  · intro w
    go_simp
    try with_reducible rfl
  conv in (Act.put _ _ _) => simp only [List.getElem_toArray, List.getElem_cons_succ, List.getElem_cons_zero, Act.put, List.setIfInBounds_toArray, List.set_cons_succ, List.set_cons_zero]
  refine wpAny_take (i := 8) (v := ?_) rfl (by kernel_rfl) (by kernel_rfl) (by kernel_rfl) (fun _ _ _ h => h) (Or.inl ⟨by kernel_rfl, ?_⟩) ?_
  rotate_left
  · intro w
    go_simp
    try with_reducible rfl
  conv in (Act.put _ _ _) => simp only [List.getElem_toArray, List.getElem_cons_succ, List.getElem_cons_zero, Act.put, List.setIfInBounds_toArray, List.set_cons_succ, List.set_cons_zero]
  refine wpAny_take (i := 11) (v := ?_) rfl (by kernel_rfl) (by kernel_rfl) (by kernel_rfl) (fun _ _ _ h => h) (Or.inl ⟨by kernel_rfl, ?_⟩) ?_
  rotate_left
  · intro w
    go_simp
    try with_reducible rfl
  conv in (Act.put _ _ _) => simp only [List.getElem_toArray, List.getElem_cons_succ, List.getElem_cons_zero, Act.put, List.setIfInBounds_toArray, List.set_cons_succ, List.set_cons_zero]
  refine wpAny_take (i := 12) (v := ?_) rfl (by kernel_rfl) (by kernel_rfl) (by kernel_rfl) (fun _ _ _ h => h) (Or.inl ⟨by kernel_rfl, ?_⟩) ?_
  rotate_left
  · intro w
    go_simp
    try with_reducible rfl
  conv in (Act.put _ _ _) => simp only [List.getElem_toArray, List.getElem_cons_succ, List.getElem_cons_zero, Act.put, List.setIfInBounds_toArray, List.set_cons_succ, List.set_cons_zero]
  refine wpAny_take (i := 15) (v := ?_) rfl (by kernel_rfl) (by kernel_rfl) (by kernel_rfl) (fun _ _ _ h => h) (Or.inl ⟨by kernel_rfl, ?_⟩) ?_
  rotate_left
  · intro w
    go_simp
    try with_reducible rfl
  conv in (Act.put _ _ _) => simp only [List.getElem_toArray, List.getElem_cons_succ, List.getElem_cons_zero, Act.put, List.setIfInBounds_toArray, List.set_cons_succ, List.set_cons_zero]
  refine wpAny_take (i := 16) (v := .string t) rfl (by kernel_rfl) (by kernel_rfl) (by kernel_rfl) (fun _ _ _ h => h) (Or.inl ⟨by kernel_rfl, ?_⟩) ?_
  · intro w
    go_simp
    exact HT.out
  conv in (Act.put _ _ _) => simp only [List.getElem_toArray, List.getElem_cons_succ, List.getElem_cons_zero, Act.put, List.setIfInBounds_toArray, List.set_cons_succ, List.set_cons_zero]
  refine wpAny_ready (rs := [2, 19]) (by kernel_rfl) (by simp) ?_
  refine (AllReady.cons rfl (fun K hK => ?_) (AllReady.cons rfl (fun K hK => ?_) AllReady.nil))
  · as_aux_lemma =>
    go_simp
    refine (K0.out _).mono ?_
    rintro e y1 ⟨rfl, b1⟩
    have HB1 : Hid (Below w.heap.size w y1) := HB0.out.trans (b1.mono HB0.out.size)
    have HG1 : Hid (y1.heap[w.heap.size]? = some (.cells #[.int .u64 0, .int .u32 0, .int .u32 0, .int .u32 0, .string ⟨#[]⟩] 27 (0, 0))) := (b1.block _ (Array.getElem?_eq_some_iff.1 HG0.out).1).trans HG0.out
    clear b1
    refine hK _ _ ?_
    clear hK K
    refine wpAny_ready (rs := [5, 19]) (by kernel_rfl) (by simp) ?_
    refine (AllReady.cons rfl (fun K hK => ?_) (AllReady.cons rfl (fun K hK => ?_) AllReady.nil))
    · as_aux_lemma =>
      go_simp
      refine (K1.out _).mono ?_
      rintro e y2 ⟨rfl, b2⟩
      have HB2 : Hid (Below w.heap.size w y2) := HB1.out.trans (b2.mono HB1.out.size)
      have HG2 : Hid (y2.heap[w.heap.size]? = some (.cells #[.int .u64 0, .int .u32 0, .int .u32 0, .int .u32 0, .string ⟨#[]⟩] 27 (0, 0))) := (b2.block _ (Array.getElem?_eq_some_iff.1 HG1.out).1).trans HG1.out
      clear b2
      refine hK _ _ ?_
      clear hK K
      refine wpAny_take (i := 6) (v := ?_) rfl (by kernel_rfl) (by kernel_rfl) (by kernel_rfl) (fun _ _ _ h => h) (Or.inl ⟨by kernel_rfl, ?_⟩) ?_
      rotate_left
      · intro w
        go_simp
        try with_reducible rfl
      conv in (Act.put _ _ _) => simp only [List.getElem_toArray, List.getElem_cons_succ, List.getElem_cons_zero, Act.put, List.setIfInBounds_toArray, List.set_cons_succ, List.set_cons_zero]
      refine wpAny_ready (rs := [9, 19]) (by kernel_rfl) (by simp) ?_
      refine (AllReady.cons rfl (fun K hK => ?_) (AllReady.cons rfl (fun K hK => ?_) AllReady.nil))
      · as_aux_lemma =>
        go_simp
        refine (K2.out _).mono ?_
        rintro e y3 ⟨rfl, b3⟩
        have HB3 : Hid (Below w.heap.size w y3) := HB2.out.trans (b3.mono HB2.out.size)
        have HG3 : Hid (y3.heap[w.heap.size]? = some (.cells #[.int .u64 0, .int .u32 0, .int .u32 0, .int .u32 0, .string ⟨#[]⟩] 27 (0, 0))) := (b3.block _ (Array.getElem?_eq_some_iff.1 HG2.out).1).trans HG2.out
        clear b3
        refine hK _ _ ?_
        clear hK K
        refine wpAny_take (i := 10) (v := ?_) rfl (by kernel_rfl) (by kernel_rfl) (by kernel_rfl) (fun _ _ _ h => h) (Or.inl ⟨by kernel_rfl, ?_⟩) ?_
        rotate_left
        · intro w
          go_simp
          try with_reducible rfl
        conv in (Act.put _ _ _) => simp only [List.getElem_toArray, List.getElem_cons_succ, List.getElem_cons_zero, Act.put, List.setIfInBounds_toArray, List.set_cons_succ, List.set_cons_zero]
        refine wpAny_ready (rs := [13, 19]) (by kernel_rfl) (by simp) ?_
        refine (AllReady.cons rfl (fun K hK => ?_) (AllReady.cons rfl (fun K hK => ?_) AllReady.nil))
        · as_aux_lemma =>
          go_simp
          refine (K3.out _).mono ?_
          rintro e y4 ⟨rfl, b4⟩
          have HB4 : Hid (Below w.heap.size w y4) := HB3.out.trans (b4.mono HB3.out.size)
          have HG4 : Hid (y4.heap[w.heap.size]? = some (.cells #[.int .u64 0, .int .u32 0, .int .u32 0, .int .u32 0, .string ⟨#[]⟩] 27 (0, 0))) := (b4.block _ (Array.getElem?_eq_some_iff.1 HG3.out).1).trans HG3.out
          clear b4
          refine hK _ _ ?_
          clear hK K
          refine wpAny_take (i := 14) (v := ?_) rfl (by kernel_rfl) (by kernel_rfl) (by kernel_rfl) (fun _ _ _ h => h) (Or.inl ⟨by kernel_rfl, ?_⟩) ?_
          rotate_left
          · intro w
            go_simp
            try with_reducible rfl
          conv in (Act.put _ _ _) => simp only [List.getElem_toArray, List.getElem_cons_succ, List.getElem_cons_zero, Act.put, List.setIfInBounds_toArray, List.set_cons_succ, List.set_cons_zero]
          refine wpAny_take (i := 17) (v := ?_) rfl (by kernel_rfl) (by kernel_rfl) (by kernel_rfl) (fun _ _ _ h => h) (Or.inl ⟨by kernel_rfl, ?_⟩) ?_
          rotate_left
          · intro w
            go_simp
            try with_reducible rfl
          conv in (Act.put _ _ _) => simp only [List.getElem_toArray, List.getElem_cons_succ, List.getElem_cons_zero, Act.put, List.setIfInBounds_toArray, List.set_cons_succ, List.set_cons_zero]
          refine wpAny_take (i := 18) (v := ?_) rfl (by kernel_rfl) (by kernel_rfl) (by kernel_rfl) (fun _ _ _ h => h) (Or.inl ⟨by kernel_rfl, ?_⟩) ?_
          rotate_left
          · intro w
            go_simp
            try with_reducible rfl
          conv in (Act.put _ _ _) => simp only [List.getElem_toArray, List.getElem_cons_succ, List.getElem_cons_zero, Act.put, List.setIfInBounds_toArray, List.set_cons_succ, List.set_cons_zero]
          refine wpAny_ready (rs := [19]) (by kernel_rfl) (by simp) ?_
          refine (AllReady.cons rfl (fun K hK => ?_) AllReady.nil)
          go_simp
          have hb5 := below_new y4 (.cells #[.int .u64 0, .int .u32 0, .int .u32 0, .int .u32 0, .string ⟨#[]⟩] 27)
          have ha5 := heap_alloc_new y4 (.cells #[.int .u64 0, .int .u32 0, .int .u32 0, .int .u32 0, .string ⟨#[]⟩] 27)
          obtain ⟨y5, hy5⟩ : ∃ y, y4.alloc (.cells #[.int .u64 0, .int .u32 0, .int .u32 0, .int .u32 0, .string ⟨#[]⟩] 27) = y := ⟨_, rfl⟩
          rw [hy5] at hb5 ha5 ⊢
          have HB5 : Hid (Below w.heap.size w y5) := HB4.out.trans (hb5.mono HB4.out.size)
          have HG5 : Hid (y5.heap[w.heap.size]? = some (.cells #[.int .u64 0, .int .u32 0, .int .u32 0, .int .u32 0, .string ⟨#[]⟩] 27 (0, 0))) := (hb5.block _ (Array.getElem?_eq_some_iff.1 HG4.out).1).trans HG4.out
          have HA5 : Hid (y5.heap[y4.heap.size]? = some (.cells #[.int .u64 0, .int .u32 0, .int .u32 0, .int .u32 0, .string ⟨#[]⟩] 27 (0, 0))) := ha5
          have HN5 : Hid (w.heap.size < y4.heap.size) := (Array.getElem?_eq_some_iff.1 HG4.out).1
          clear hb5 ha5 hy5
          refine hK _ _ ?_
          clear hK K
          obtain ⟨⟨c0, c1, c2, c3, c4⟩, z0, z1, z2, z3, z4⟩ := root_facts HA5.out
          obtain ⟨X, B⟩ := put_root HA5.out (.int .u64 (c : Int)) (.int .u32 (g : Int)) (.int .u32 (n : Int)) (.int .u32 (p : Int)) (.string t)
          refine wpAny_ready (rs := [20]) (by kernel_rfl) (by simp) ?_
          refine (AllReady.cons rfl (fun K hK => ?_) AllReady.nil)
          go_simp
          obtain ⟨Y, hY⟩ : ∃ Y, (((((y5.setCell ⟨y4.heap.size, 0, none⟩ (.int .u64 (c : Int))).setCell ⟨y4.heap.size, 1, none⟩ (.int .u32 (g : Int))).setCell ⟨y4.heap.size, 2, none⟩ (.int .u32 (n : Int))).setCell ⟨y4.heap.size, 3, none⟩ (.int .u32 (p : Int))).setCell ⟨y4.heap.size, 4, none⟩ (.string t)) = Y := ⟨_, rfl⟩
          rw [hY] at X B ⊢
          have hlt : w.heap.size < y4.heap.size := HN5.out
          have HX : Y.heap[y4.heap.size]? = some (.cells #[.int .u64 (c : Int), .int .u32 (g : Int), .int .u32 (n : Int), .int .u32 (p : Int), .string t] 27 (0, 0)) := X
          have HGY : Y.heap[w.heap.size]? = some (.cells #[.int .u64 0, .int .u32 0, .int .u32 0, .int .u32 0, .string ⟨#[]⟩] 27 (0, 0)) := (B.block _ hlt).trans HG5.out
          have HBY : Below w.heap.size w Y := HB5.out.trans (B.mono (Nat.le_of_lt hlt))
          refine hK _ _ ?_
          clear hK K
          refine wpAny_done (by kernel_rfl) ?_ _
          exact HTAIL.out _ _ HX HGY HBY
        · as_aux_lemma =>
          go_simp
          have hb6 := below_new y3 (.cells #[.int .u64 0, .int .u32 0, .int .u32 0, .int .u32 0, .string ⟨#[]⟩] 27)
          have ha6 := heap_alloc_new y3 (.cells #[.int .u64 0, .int .u32 0, .int .u32 0, .int .u32 0, .string ⟨#[]⟩] 27)
          obtain ⟨y6, hy6⟩ : ∃ y, y3.alloc (.cells #[.int .u64 0, .int .u32 0, .int .u32 0, .int .u32 0, .string ⟨#[]⟩] 27) = y := ⟨_, rfl⟩
          rw [hy6] at hb6 ha6 ⊢
          have HB6 : Hid (Below w.heap.size w y6) := HB3.out.trans (hb6.mono HB3.out.size)
          have HG6 : Hid (y6.heap[w.heap.size]? = some (.cells #[.int .u64 0, .int .u32 0, .int .u32 0, .int .u32 0, .string ⟨#[]⟩] 27 (0, 0))) := (hb6.block _ (Array.getElem?_eq_some_iff.1 HG3.out).1).trans HG3.out
          have HA6 : Hid (y6.heap[y3.heap.size]? = some (.cells #[.int .u64 0, .int .u32 0, .int .u32 0, .int .u32 0, .string ⟨#[]⟩] 27 (0, 0))) := ha6
          have HN6 : Hid (w.heap.size < y3.heap.size) := (Array.getElem?_eq_some_iff.1 HG3.out).1
          clear hb6 ha6 hy6
          refine hK _ _ ?_
          clear hK K
          refine wpAny_ready (rs := [13]) (by kernel_rfl) (by simp) ?_
          refine (AllReady.cons rfl (fun K hK => ?_) AllReady.nil)
          go_simp
          refine (K3.out _).mono ?_
          rintro e y7 ⟨rfl, b7⟩
          have HB7 : Hid (Below w.heap.size w y7) := HB6.out.trans (b7.mono HB6.out.size)
          have HG7 : Hid (y7.heap[w.heap.size]? = some (.cells #[.int .u64 0, .int .u32 0, .int .u32 0, .int .u32 0, .string ⟨#[]⟩] 27 (0, 0))) := (b7.block _ (Array.getElem?_eq_some_iff.1 HG6.out).1).trans HG6.out
          have HA7 : Hid (y7.heap[y3.heap.size]? = some (.cells #[.int .u64 0, .int .u32 0, .int .u32 0, .int .u32 0, .string ⟨#[]⟩] 27 (0, 0))) := (b7.block _ (Array.getElem?_eq_some_iff.1 HA6.out).1).trans HA6.out
          clear b7
          refine hK _ _ ?_
          clear hK K
          refine wpAny_take (i := 14) (v := ?_) rfl (by kernel_rfl) (by kernel_rfl) (by kernel_rfl) (fun _ _ _ h => h) (Or.inl ⟨by kernel_rfl, ?_⟩) ?_
          rotate_left
          · intro w
            go_simp
            try with_reducible rfl
          conv in (Act.put _ _ _) => simp only [List.getElem_toArray, List.getElem_cons_succ, List.getElem_cons_zero, Act.put, List.setIfInBounds_toArray, List.set_cons_succ, List.set_cons_zero]
          refine wpAny_take (i := 17) (v := ?_) rfl (by kernel_rfl) (by kernel_rfl) (by kernel_rfl) (fun _ _ _ h => h) (Or.inl ⟨by kernel_rfl, ?_⟩) ?_
          rotate_left
          · intro w
            go_simp
            try with_reducible rfl
          conv in (Act.put _ _ _) => simp only [List.getElem_toArray, List.getElem_cons_succ, List.getElem_cons_zero, Act.put, List.setIfInBounds_toArray, List.set_cons_succ, List.set_cons_zero]
          refine wpAny_take (i := 18) (v := ?_) rfl (by kernel_rfl) (by kernel_rfl) (by kernel_rfl) (fun _ _ _ h => h) (Or.inl ⟨by kernel_rfl, ?_⟩) ?_
          rotate_left
          · intro w
            go_simp
            try with_reducible rfl
          conv in (Act.put _ _ _) => simp only [List.getElem_toArray, List.getElem_cons_succ, List.getElem_cons_zero, Act.put, List.setIfInBounds_toArray, List.set_cons_succ, List.set_cons_zero]
          obtain ⟨⟨c0, c1, c2, c3, c4⟩, z0, z1, z2, z3, z4⟩ := root_facts HA7.out
          obtain ⟨X, B⟩ := put_root HA7.out (.int .u64 (c : Int)) (.int .u32 (g : Int)) (.int .u32 (n : Int)) (.int .u32 (p : Int)) (.string t)
          refine wpAny_ready (rs := [20]) (by kernel_rfl) (by simp) ?_
          refine (AllReady.cons rfl (fun K hK => ?_) AllReady.nil)
          go_simp
          obtain ⟨Y, hY⟩ : ∃ Y, (((((y7.setCell ⟨y3.heap.size, 0, none⟩ (.int .u64 (c : Int))).setCell ⟨y3.heap.size, 1, none⟩ (.int .u32 (g : Int))).setCell ⟨y3.heap.size, 2, none⟩ (.int .u32 (n : Int))).setCell ⟨y3.heap.size, 3, none⟩ (.int .u32 (p : Int))).setCell ⟨y3.heap.size, 4, none⟩ (.string t)) = Y := ⟨_, rfl⟩
          rw [hY] at X B ⊢
          have hlt : w.heap.size < y3.heap.size := HN6.out
          have HX : Y.heap[y3.heap.size]? = some (.cells #[.int .u64 (c : Int), .int .u32 (g : Int), .int .u32 (n : Int), .int .u32 (p : Int), .string t] 27 (0, 0)) := X
          have HGY : Y.heap[w.heap.size]? = some (.cells #[.int .u64 0, .int .u32 0, .int .u32 0, .int .u32 0, .string ⟨#[]⟩] 27 (0, 0)) := (B.block _ hlt).trans HG7.out
          have HBY : Below w.heap.size w Y := HB7.out.trans (B.mono (Nat.le_of_lt hlt))
          refine hK _ _ ?_
          clear hK K
          refine wpAny_done (by kernel_rfl) ?_ _
          exact HTAIL.out _ _ HX HGY HBY
      · as_aux_lemma =>
        go_simp
        have hb8 := below_new y2 (.cells #[.int .u64 0, .int .u32 0, .int .u32 0, .int .u32 0, .string ⟨#[]⟩] 27)
        have ha8 := heap_alloc_new y2 (.cells #[.int .u64 0, .int .u32 0, .int .u32 0, .int .u32 0, .string ⟨#[]⟩] 27)
        obtain ⟨y8, hy8⟩ : ∃ y, y2.alloc (.cells #[.int .u64 0, .int .u32 0, .int .u32 0, .int .u32 0, .string ⟨#[]⟩] 27) = y := ⟨_, rfl⟩
        rw [hy8] at hb8 ha8 ⊢
        have HB8 : Hid (Below w.heap.size w y8) := HB2.out.trans (hb8.mono HB2.out.size)
        have HG8 : Hid (y8.heap[w.heap.size]? = some (.cells #[.int .u64 0, .int .u32 0, .int .u32 0, .int .u32 0, .string ⟨#[]⟩] 27 (0, 0))) := (hb8.block _ (Array.getElem?_eq_some_iff.1 HG2.out).1).trans HG2.out
        have HA8 : Hid (y8.heap[y2.heap.size]? = some (.cells #[.int .u64 0, .int .u32 0, .int .u32 0, .int .u32 0, .string ⟨#[]⟩] 27 (0, 0))) := ha8
        have HN8 : Hid (w.heap.size < y2.heap.size) := (Array.getElem?_eq_some_iff.1 HG2.out).1
        clear hb8 ha8 hy8
        refine hK _ _ ?_
        clear hK K
        refine wpAny_ready (rs := [9]) (by kernel_rfl) (by simp) ?_
        refine (AllReady.cons rfl (fun K hK => ?_) AllReady.nil)
        go_simp
        refine (K2.out _).mono ?_
        rintro e y9 ⟨rfl, b9⟩
        have HB9 : Hid (Below w.heap.size w y9) := HB8.out.trans (b9.mono HB8.out.size)
        have HG9 : Hid (y9.heap[w.heap.size]? = some (.cells #[.int .u64 0, .int .u32 0, .int .u32 0, .int .u32 0, .string ⟨#[]⟩] 27 (0, 0))) := (b9.block _ (Array.getElem?_eq_some_iff.1 HG8.out).1).trans HG8.out
        have HA9 : Hid (y9.heap[y2.heap.size]? = some (.cells #[.int .u64 0, .int .u32 0, .int .u32 0, .int .u32 0, .string ⟨#[]⟩] 27 (0, 0))) := (b9.block _ (Array.getElem?_eq_some_iff.1 HA8.out).1).trans HA8.out
        clear b9
        refine hK _ _ ?_
        clear hK K
        refine wpAny_take (i := 10) (v := ?_) rfl (by kernel_rfl) (by kernel_rfl) (by kernel_rfl) (fun _ _ _ h => h) (Or.inl ⟨by kernel_rfl, ?_⟩) ?_
        rotate_left
        · intro w
          go_simp
          try with_reducible rfl
        conv in (Act.put _ _ _) => simp only [List.getElem_toArray, List.getElem_cons_succ, List.getElem_cons_zero, Act.put, List.setIfInBounds_toArray, List.set_cons_succ, List.set_cons_zero]
        refine wpAny_ready (rs := [13]) (by kernel_rfl) (by simp) ?_
        refine (AllReady.cons rfl (fun K hK => ?_) AllReady.nil)
        go_simp
        refine (K3.out _).mono ?_
        rintro e y10 ⟨rfl, b10⟩
        have HB10 : Hid (Below w.heap.size w y10) := HB9.out.trans (b10.mono HB9.out.size)
        have HG10 : Hid (y10.heap[w.heap.size]? = some (.cells #[.int .u64 0, .int .u32 0, .int .u32 0, .int .u32 0, .string ⟨#[]⟩] 27 (0, 0))) := (b10.block _ (Array.getElem?_eq_some_iff.1 HG9.out).1).trans HG9.out
        have HA10 : Hid (y10.heap[y2.heap.size]? = some (.cells #[.int .u64 0, .int .u32 0, .int .u32 0, .int .u32 0, .string ⟨#[]⟩] 27 (0, 0))) := (b10.block _ (Array.getElem?_eq_some_iff.1 HA9.out).1).trans HA9.out
        clear b10
        refine hK _ _ ?_
        clear hK K
        refine wpAny_take (i := 14) (v := ?_) rfl (by kernel_rfl) (by kernel_rfl) (by kernel_rfl) (fun _ _ _ h => h) (Or.inl ⟨by kernel_rfl, ?_⟩) ?_
        rotate_left
        · intro w
          go_simp
          try with_reducible rfl
        conv in (Act.put _ _ _) => simp only [List.getElem_toArray, List.getElem_cons_succ, List.getElem_cons_zero, Act.put, List.setIfInBounds_toArray, List.set_cons_succ, List.set_cons_zero]
        refine wpAny_take (i := 17) (v := ?_) rfl (by kernel_rfl) (by kernel_rfl) (by kernel_rfl) (fun _ _ _ h => h) (Or.inl ⟨by kernel_rfl, ?_⟩) ?_
        rotate_left
        · intro w
          go_simp
          try with_reducible rfl
        conv in (Act.put _ _ _) => simp only [List.getElem_toArray, List.getElem_cons_succ, List.getElem_cons_zero, Act.put, List.setIfInBounds_toArray, List.set_cons_succ, List.set_cons_zero]
        refine wpAny_take (i := 18) (v := ?_) rfl (by kernel_rfl) (by kernel_rfl) (by kernel_rfl) (fun _ _ _ h => h) (Or.inl ⟨by kernel_rfl, ?_⟩) ?_
        rotate_left
        · intro w
          go_simp
          try with_reducible rfl
        conv in (Act.put _ _ _) => simp only [List.getElem_toArray, List.getElem_cons_succ, List.getElem_cons_zero, Act.put, List.setIfInBounds_toArray, List.set_cons_succ, List.set_cons_zero]
        obtain ⟨⟨c0, c1, c2, c3, c4⟩, z0, z1, z2, z3, z4⟩ := root_facts HA10.out
        obtain ⟨X, B⟩ := put_root HA10.out (.int .u64 (c : Int)) (.int .u32 (g : Int)) (.int .u32 (n : Int)) (.int .u32 (p : Int)) (.string t)
        refine wpAny_ready (rs := [20]) (by kernel_rfl) (by simp) ?_
        refine (AllReady.cons rfl (fun K hK => ?_) AllReady.nil)
        go_simp
        obtain ⟨Y, hY⟩ : ∃ Y, (((((y10.setCell ⟨y2.heap.size, 0, none⟩ (.int .u64 (c : Int))).setCell ⟨y2.heap.size, 1, none⟩ (.int .u32 (g : Int))).setCell ⟨y2.heap.size, 2, none⟩ (.int .u32 (n : Int))).setCell ⟨y2.heap.size, 3, none⟩ (.int .u32 (p : Int))).setCell ⟨y2.heap.size, 4, none⟩ (.string t)) = Y := ⟨_, rfl⟩
        rw [hY] at X B ⊢
        have hlt : w.heap.size < y2.heap.size := HN8.out
        have HX : Y.heap[y2.heap.size]? = some (.cells #[.int .u64 (c : Int), .int .u32 (g : Int), .int .u32 (n : Int), .int .u32 (p : Int), .string t] 27 (0, 0)) := X
        have HGY : Y.heap[w.heap.size]? = some (.cells #[.int .u64 0, .int .u32 0, .int .u32 0, .int .u32 0, .string ⟨#[]⟩] 27 (0, 0)) := (B.block _ hlt).trans HG10.out
        have HBY : Below w.heap.size w Y := HB10.out.trans (B.mono (Nat.le_of_lt hlt))
        refine hK _ _ ?_
        clear hK K
        refine wpAny_done (by kernel_rfl) ?_ _
        exact HTAIL.out _ _ HX HGY HBY
    · as_aux_lemma =>
      go_simp
      have hb11 := below_new y1 (.cells #[.int .u64 0, .int .u32 0, .int .u32 0, .int .u32 0, .string ⟨#[]⟩] 27)
      have ha11 := heap_alloc_new y1 (.cells #[.int .u64 0, .int .u32 0, .int .u32 0, .int .u32 0, .string ⟨#[]⟩] 27)
      obtain ⟨y11, hy11⟩ : ∃ y, y1.alloc (.cells #[.int .u64 0, .int .u32 0, .int .u32 0, .int .u32 0, .string ⟨#[]⟩] 27) = y := ⟨_, rfl⟩
      rw [hy11] at hb11 ha11 ⊢
      have HB11 : Hid (Below w.heap.size w y11) := HB1.out.trans (hb11.mono HB1.out.size)
      have HG11 : Hid (y11.heap[w.heap.size]? = some (.cells #[.int .u64 0, .int .u32 0, .int .u32 0, .int .u32 0, .string ⟨#[]⟩] 27 (0, 0))) := (hb11.block _ (Array.getElem?_eq_some_iff.1 HG1.out).1).trans HG1.out
      have HA11 : Hid (y11.heap[y1.heap.size]? = some (.cells #[.int .u64 0, .int .u32 0, .int .u32 0, .int .u32 0, .string ⟨#[]⟩] 27 (0, 0))) := ha11
      have HN11 : Hid (w.heap.size < y1.heap.size) := (Array.getElem?_eq_some_iff.1 HG1.out).1
      clear hb11 ha11 hy11
      refine hK _ _ ?_
      clear hK K
      refine wpAny_ready (rs := [5]) (by kernel_rfl) (by simp) ?_
      refine (AllReady.cons rfl (fun K hK => ?_) AllReady.nil)
      go_simp
      refine (K1.out _).mono ?_
      rintro e y12 ⟨rfl, b12⟩
      have HB12 : Hid (Below w.heap.size w y12) := HB11.out.trans (b12.mono HB11.out.size)
      have HG12 : Hid (y12.heap[w.heap.size]? = some (.cells #[.int .u64 0, .int .u32 0, .int .u32 0, .int .u32 0, .string ⟨#[]⟩] 27 (0, 0))) := (b12.block _ (Array.getElem?_eq_some_iff.1 HG11.out).1).trans HG11.out
      have HA12 : Hid (y12.heap[y1.heap.size]? = some (.cells #[.int .u64 0, .int .u32 0, .int .u32 0, .int .u32 0, .string ⟨#[]⟩] 27 (0, 0))) := (b12.block _ (Array.getElem?_eq_some_iff.1 HA11.out).1).trans HA11.out
      clear b12
      refine hK _ _ ?_
      clear hK K
      refine wpAny_take (i := 6) (v := ?_) rfl (by kernel_rfl) (by kernel_rfl) (by kernel_rfl) (fun _ _ _ h => h) (Or.inl ⟨by kernel_rfl, ?_⟩) ?_
      rotate_left
      · intro w
        go_simp
        try with_reducible rfl
      conv in (Act.put _ _ _) => simp only [List.getElem_toArray, List.getElem_cons_succ, List.getElem_cons_zero, Act.put, List.setIfInBounds_toArray, List.set_cons_succ, List.set_cons_zero]
      refine wpAny_ready (rs := [9]) (by kernel_rfl) (by simp) ?_
      refine (AllReady.cons rfl (fun K hK => ?_) AllReady.nil)
      go_simp
      refine (K2.out _).mono ?_
      rintro e y13 ⟨rfl, b13⟩
      have HB13 : Hid (Below w.heap.size w y13) := HB12.out.trans (b13.mono HB12.out.size)
      have HG13 : Hid (y13.heap[w.heap.size]? = some (.cells #[.int .u64 0, .int .u32 0, .int .u32 0, .int .u32 0, .string ⟨#[]⟩] 27 (0, 0))) := (b13.block _ (Array.getElem?_eq_some_iff.1 HG12.out).1).trans HG12.out
      have HA13 : Hid (y13.heap[y1.heap.size]? = some (.cells #[.int .u64 0, .int .u32 0, .int .u32 0, .int .u32 0, .string ⟨#[]⟩] 27 (0, 0))) := (b13.block _ (Array.getElem?_eq_some_iff.1 HA12.out).1).trans HA12.out
      clear b13
      refine hK _ _ ?_
      clear hK K
      refine wpAny_take (i := 10) (v := ?_) rfl (by kernel_rfl) (by kernel_rfl) (by kernel_rfl) (fun _ _ _ h => h) (Or.inl ⟨by kernel_rfl, ?_⟩) ?_
      rotate_left
      · intro w
        go_simp
        try with_reducible rfl
      conv in (Act.put _ _ _) => simp only [List.getElem_toArray, List.getElem_cons_succ, List.getElem_cons_zero, Act.put, List.setIfInBounds_toArray, List.set_cons_succ, List.set_cons_zero]
      refine wpAny_ready (rs := [13]) (by kernel_rfl) (by simp) ?_
      refine (AllReady.cons rfl (fun K hK => ?_) AllReady.nil)
      go_simp
      refine (K3.out _).mono ?_
      rintro e y14 ⟨rfl, b14⟩
      have HB14 : Hid (Below w.heap.size w y14) := HB13.out.trans (b14.mono HB13.out.size)
      have HG14 : Hid (y14.heap[w.heap.size]? = some (.cells #[.int .u64 0, .int .u32 0, .int .u32 0, .int .u32 0, .string ⟨#[]⟩] 27 (0, 0))) := (b14.block _ (Array.getElem?_eq_some_iff.1 HG13.out).1).trans HG13.out
      have HA14 : Hid (y14.heap[y1.heap.size]? = some (.cells #[.int .u64 0, .int .u32 0, .int .u32 0, .int .u32 0, .string ⟨#[]⟩] 27 (0, 0))) := (b14.block _ (Array.getElem?_eq_some_iff.1 HA13.out).1).trans HA13.out
      clear b14
      refine hK _ _ ?_
      clear hK K
      refine wpAny_take (i := 14) (v := ?_) rfl (by kernel_rfl) (by kernel_rfl) (by kernel_rfl) (fun _ _ _ h => h) (Or.inl ⟨by kernel_rfl, ?_⟩) ?_
      rotate_left
      · intro w
        go_simp
        try with_reducible rfl
      conv in (Act.put _ _ _) => simp only [List.getElem_toArray, List.getElem_cons_succ, List.getElem_cons_zero, Act.put, List.setIfInBounds_toArray, List.set_cons_succ, List.set_cons_zero]
      refine wpAny_take (i := 17) (v := ?_) rfl (by kernel_rfl) (by kernel_rfl) (by kernel_rfl) (fun _ _ _ h => h) (Or.inl ⟨by kernel_rfl, ?_⟩) ?_
      rotate_left
      · intro w
        go_simp
        try with_reducible rfl
      conv in (Act.put _ _ _) => simp only [List.getElem_toArray, List.getElem_cons_succ, List.getElem_cons_zero, Act.put, List.setIfInBounds_toArray, List.set_cons_succ, List.set_cons_zero]
      refine wpAny_take (i := 18) (v := ?_) rfl (by kernel_rfl) (by kernel_rfl) (by kernel_rfl) (fun _ _ _ h => h) (Or.inl ⟨by kernel_rfl, ?_⟩) ?_
      rotate_left
      · intro w
        go_simp
        try with_reducible rfl
      conv in (Act.put _ _ _) => simp only [List.getElem_toArray, List.getElem_cons_succ, List.getElem_cons_zero, Act.put, List.setIfInBounds_toArray, List.set_cons_succ, List.set_cons_zero]
      obtain ⟨⟨c0, c1, c2, c3, c4⟩, z0, z1, z2, z3, z4⟩ := root_facts HA14.out
      obtain ⟨X, B⟩ := put_root HA14.out (.int .u64 (c : Int)) (.int .u32 (g : Int)) (.int .u32 (n : Int)) (.int .u32 (p : Int)) (.string t)
      refine wpAny_ready (rs := [20]) (by kernel_rfl) (by simp) ?_
      refine (AllReady.cons rfl (fun K hK => ?_) AllReady.nil)
      go_simp
      obtain ⟨Y, hY⟩ : ∃ Y, (((((y14.setCell ⟨y1.heap.size, 0, none⟩ (.int .u64 (c : Int))).setCell ⟨y1.heap.size, 1, none⟩ (.int .u32 (g : Int))).setCell ⟨y1.heap.size, 2, none⟩ (.int .u32 (n : Int))).setCell ⟨y1.heap.size, 3, none⟩ (.int .u32 (p : Int))).setCell ⟨y1.heap.size, 4, none⟩ (.string t)) = Y := ⟨_, rfl⟩
      rw [hY] at X B ⊢
      have hlt : w.heap.size < y1.heap.size := HN11.out
      have HX : Y.heap[y1.heap.size]? = some (.cells #[.int .u64 (c : Int), .int .u32 (g : Int), .int .u32 (n : Int), .int .u32 (p : Int), .string t] 27 (0, 0)) := X
      have HGY : Y.heap[w.heap.size]? = some (.cells #[.int .u64 0, .int .u32 0, .int .u32 0, .int .u32 0, .string ⟨#[]⟩] 27 (0, 0)) := (B.block _ hlt).trans HG14.out
      have HBY : Below w.heap.size w Y := HB14.out.trans (B.mono (Nat.le_of_lt hlt))
      refine hK _ _ ?_
      clear hK K
      refine wpAny_done (by kernel_rfl) ?_ _
      exact HTAIL.out _ _ HX HGY HBY
  · as_aux_lemma =>
    go_simp
    have hb15 := below_new Wd (.cells #[.int .u64 0, .int .u32 0, .int .u32 0, .int .u32 0, .string ⟨#[]⟩] 27)
    have ha15 := heap_alloc_new Wd (.cells #[.int .u64 0, .int .u32 0, .int .u32 0, .int .u32 0, .string ⟨#[]⟩] 27)
    obtain ⟨y15, hy15⟩ : ∃ y, Wd.alloc (.cells #[.int .u64 0, .int .u32 0, .int .u32 0, .int .u32 0, .string ⟨#[]⟩] 27) = y := ⟨_, rfl⟩
    rw [hy15] at hb15 ha15 ⊢
    have HB15 : Hid (Below w.heap.size w y15) := HB0.out.trans (hb15.mono HB0.out.size)
    have HG15 : Hid (y15.heap[w.heap.size]? = some (.cells #[.int .u64 0, .int .u32 0, .int .u32 0, .int .u32 0, .string ⟨#[]⟩] 27 (0, 0))) := (hb15.block _ (Array.getElem?_eq_some_iff.1 HG0.out).1).trans HG0.out
    have HA15 : Hid (y15.heap[Wd.heap.size]? = some (.cells #[.int .u64 0, .int .u32 0, .int .u32 0, .int .u32 0, .string ⟨#[]⟩] 27 (0, 0))) := ha15
    have HN15 : Hid (w.heap.size < Wd.heap.size) := (Array.getElem?_eq_some_iff.1 HG0.out).1
    clear hb15 ha15 hy15
    refine hK _ _ ?_
    clear hK K
    refine wpAny_ready (rs := [2]) (by kernel_rfl) (by simp) ?_
    refine (AllReady.cons rfl (fun K hK => ?_) AllReady.nil)
    go_simp
    refine (K0.out _).mono ?_
    rintro e y16 ⟨rfl, b16⟩
    have HB16 : Hid (Below w.heap.size w y16) := HB15.out.trans (b16.mono HB15.out.size)
    have HG16 : Hid (y16.heap[w.heap.size]? = some (.cells #[.int .u64 0, .int .u32 0, .int .u32 0, .int .u32 0, .string ⟨#[]⟩] 27 (0, 0))) := (b16.block _ (Array.getElem?_eq_some_iff.1 HG15.out).1).trans HG15.out
    have HA16 : Hid (y16.heap[Wd.heap.size]? = some (.cells #[.int .u64 0, .int .u32 0, .int .u32 0, .int .u32 0, .string ⟨#[]⟩] 27 (0, 0))) := (b16.block _ (Array.getElem?_eq_some_iff.1 HA15.out).1).trans HA15.out
    clear b16
    refine hK _ _ ?_
    clear hK K
    refine wpAny_ready (rs := [5]) (by kernel_rfl) (by simp) ?_
    refine (AllReady.cons rfl (fun K hK => ?_) AllReady.nil)
    go_simp
    refine (K1.out _).mono ?_
    rintro e y17 ⟨rfl, b17⟩
    have HB17 : Hid (Below w.heap.size w y17) := HB16.out.trans (b17.mono HB16.out.size)
    have HG17 : Hid (y17.heap[w.heap.size]? = some (.cells #[.int .u64 0, .int .u32 0, .int .u32 0, .int .u32 0, .string ⟨#[]⟩] 27 (0, 0))) := (b17.block _ (Array.getElem?_eq_some_iff.1 HG16.out).1).trans HG16.out
    have HA17 : Hid (y17.heap[Wd.heap.size]? = some (.cells #[.int .u64 0, .int .u32 0, .int .u32 0, .int .u32 0, .string ⟨#[]⟩] 27 (0, 0))) := (b17.block _ (Array.getElem?_eq_some_iff.1 HA16.out).1).trans HA16.out
    clear b17
    refine hK _ _ ?_
    clear hK K
    refine wpAny_take (i := 6) (v := ?_) rfl (by kernel_rfl) (by kernel_rfl) (by kernel_rfl) (fun _ _ _ h => h) (Or.inl ⟨by kernel_rfl, ?_⟩) ?_
    rotate_left
    · intro w
      go_simp
      try with_reducible rfl
    conv in (Act.put _ _ _) => simp only [List.getElem_toArray, List.getElem_cons_succ, List.getElem_cons_zero, Act.put, List.setIfInBounds_toArray, List.set_cons_succ, List.set_cons_zero]
    refine wpAny_ready (rs := [9]) (by kernel_rfl) (by simp) ?_
    refine (AllReady.cons rfl (fun K hK => ?_) AllReady.nil)
    go_simp
    refine (K2.out _).mono ?_
    rintro e y18 ⟨rfl, b18⟩
    have HB18 : Hid (Below w.heap.size w y18) := HB17.out.trans (b18.mono HB17.out.size)
    have HG18 : Hid (y18.heap[w.heap.size]? = some (.cells #[.int .u64 0, .int .u32 0, .int .u32 0, .int .u32 0, .string ⟨#[]⟩] 27 (0, 0))) := (b18.block _ (Array.getElem?_eq_some_iff.1 HG17.out).1).trans HG17.out
    have HA18 : Hid (y18.heap[Wd.heap.size]? = some (.cells #[.int .u64 0, .int .u32 0, .int .u32 0, .int .u32 0, .string ⟨#[]⟩] 27 (0, 0))) := (b18.block _ (Array.getElem?_eq_some_iff.1 HA17.out).1).trans HA17.out
    clear b18
    refine hK _ _ ?_
    clear hK K
    refine wpAny_take (i := 10) (v := ?_) rfl (by kernel_rfl) (by kernel_rfl) (by kernel_rfl) (fun _ _ _ h => h) (Or.inl ⟨by kernel_rfl, ?_⟩) ?_
    rotate_left
    · intro w
      go_simp
      try with_reducible rfl
    conv in (Act.put _ _ _) => simp only [List.getElem_toArray, List.getElem_cons_succ, List.getElem_cons_zero, Act.put, List.setIfInBounds_toArray, List.set_cons_succ, List.set_cons_zero]
    refine wpAny_ready (rs := [13]) (by kernel_rfl) (by simp) ?_
    refine (AllReady.cons rfl (fun K hK => ?_) AllReady.nil)
    go_simp
    refine (K3.out _).mono ?_
    rintro e y19 ⟨rfl, b19⟩
    have HB19 : Hid (Below w.heap.size w y19) := HB18.out.trans (b19.mono HB18.out.size)
    have HG19 : Hid (y19.heap[w.heap.size]? = some (.cells #[.int .u64 0, .int .u32 0, .int .u32 0, .int .u32 0, .string ⟨#[]⟩] 27 (0, 0))) := (b19.block _ (Array.getElem?_eq_some_iff.1 HG18.out).1).trans HG18.out
    have HA19 : Hid (y19.heap[Wd.heap.size]? = some (.cells #[.int .u64 0, .int .u32 0, .int .u32 0, .int .u32 0, .string ⟨#[]⟩] 27 (0, 0))) := (b19.block _ (Array.getElem?_eq_some_iff.1 HA18.out).1).trans HA18.out
    clear b19
    refine hK _ _ ?_
    clear hK K
    refine wpAny_take (i := 14) (v := ?_) rfl (by kernel_rfl) (by kernel_rfl) (by kernel_rfl) (fun _ _ _ h => h) (Or.inl ⟨by kernel_rfl, ?_⟩) ?_
    rotate_left
    · intro w
      go_simp
      try with_reducible rfl
    conv in (Act.put _ _ _) => simp only [List.getElem_toArray, List.getElem_cons_succ, List.getElem_cons_zero, Act.put, List.setIfInBounds_toArray, List.set_cons_succ, List.set_cons_zero]
    refine wpAny_take (i := 17) (v := ?_) rfl (by kernel_rfl) (by kernel_rfl) (by kernel_rfl) (fun _ _ _ h => h) (Or.inl ⟨by kernel_rfl, ?_⟩) ?_
    rotate_left
    · intro w
      go_simp
      try with_reducible rfl
    conv in (Act.put _ _ _) => simp only [List.getElem_toArray, List.getElem_cons_succ, List.getElem_cons_zero, Act.put, List.setIfInBounds_toArray, List.set_cons_succ, List.set_cons_zero]
    refine wpAny_take (i := 18) (v := ?_) rfl (by kernel_rfl) (by kernel_rfl) (by kernel_rfl) (fun _ _ _ h => h) (Or.inl ⟨by kernel_rfl, ?_⟩) ?_
    rotate_left
    · intro w
      go_simp
      try with_reducible rfl
    conv in (Act.put _ _ _) => simp only [List.getElem_toArray, List.getElem_cons_succ, List.getElem_cons_zero, Act.put, List.setIfInBounds_toArray, List.set_cons_succ, List.set_cons_zero]
    obtain ⟨⟨c0, c1, c2, c3, c4⟩, z0, z1, z2, z3, z4⟩ := root_facts HA19.out
    obtain ⟨X, B⟩ := put_root HA19.out (.int .u64 (c : Int)) (.int .u32 (g : Int)) (.int .u32 (n : Int)) (.int .u32 (p : Int)) (.string t)
    refine wpAny_ready (rs := [20]) (by kernel_rfl) (by simp) ?_
    refine (AllReady.cons rfl (fun K hK => ?_) AllReady.nil)
    go_simp
    obtain ⟨Y, hY⟩ : ∃ Y, (((((y19.setCell ⟨Wd.heap.size, 0, none⟩ (.int .u64 (c : Int))).setCell ⟨Wd.heap.size, 1, none⟩ (.int .u32 (g : Int))).setCell ⟨Wd.heap.size, 2, none⟩ (.int .u32 (n : Int))).setCell ⟨Wd.heap.size, 3, none⟩ (.int .u32 (p : Int))).setCell ⟨Wd.heap.size, 4, none⟩ (.string t)) = Y := ⟨_, rfl⟩
    rw [hY] at X B ⊢
    have hlt : w.heap.size < Wd.heap.size := HN15.out
    have HX : Y.heap[Wd.heap.size]? = some (.cells #[.int .u64 (c : Int), .int .u32 (g : Int), .int .u32 (n : Int), .int .u32 (p : Int), .string t] 27 (0, 0)) := X
    have HGY : Y.heap[w.heap.size]? = some (.cells #[.int .u64 0, .int .u32 0, .int .u32 0, .int .u32 0, .string ⟨#[]⟩] 27 (0, 0)) := (B.block _ hlt).trans HG19.out
    have HBY : Below w.heap.size w Y := HB19.out.trans (B.mono (Nat.le_of_lt hlt))
    refine hK _ _ ?_
    clear hK K
    refine wpAny_done (by kernel_rfl) ?_ _
    exact HTAIL.out _ _ HX HGY HBY
set_option maxRecDepth 100000 in
theorem sdecode_any (s : ByteArray) (w : World) : Calls Try.prog 17 #[.string s] w (DP s w) := by
  by_cases h1 : s.size = 56
  · cases h2 : hasM s
    · exact sdecode_mark s w h1 h2
    · exact sdecode_in s w h1 h2
  · exact sdecode_size s w h1
end Go.Proofs.Ytofealdlgpmheaa.Ro
