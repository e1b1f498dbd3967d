/- The text of a block under a key; Seal and Open. -/
import Derived.Test.YtaoadopnhphjbaaDoorPWG
namespace Go.Proofs.YtaoadopnhphjbaaDoor.Rs
open Go.RowKit Go.Lib
/-- A block's body, as it was ahead of the stream. -/
def bodyOf (Kt : Nat → Int) (k : Rk.Ky) (h : Hd) (b : ByteArray) : ByteArray := Ra.xorS (Rk.sealS Kt k) (nonceS h) (b.extract 24 224)
/-- Is it a block under the key? -/
def tagOk (Kt : Nat → Int) (k : Rk.Ky) (b : ByteArray) : Bool := decide (tagS b = macS Kt (Rk.bindS Kt k) (b.extract 0 224))
def tk (Kt : Nat → Int) (k : Rk.Ky) (h : Hd) (b : ByteArray) : Bool := tagOk Kt k b && Rp.isBody (bodyOf Kt k h b)
def tv (Kt : Nat → Int) (k : Rk.Ky) (h : Hd) (b : ByteArray) : ByteArray := if tk Kt k h b = true then Rp.textOf (bodyOf Kt k h b) else ⟨#[]⟩
set_option maxRecDepth 100000 in
theorem ext256 (s : ByteArray) (h : s.size = 256) (a b : Nat) (hab : a ≤ b) (hb : b ≤ 256) (w : World) : (Instr.sliceAt 9 (.string s) (some (.int .i64 (a : Int))) (some (.int .i64 (b : Int))) none).run Tryd.prog w = .ok (.string (s.extract a b)) w := by
  simp [Instr.sliceAt, Instr.slice, run_underlying Tryd.underlying9, go_sem, h]
  rw [if_pos (by omega), if_pos (by omega)]
set_option maxRecDepth 100000 in
theorem ext256n (s : ByteArray) (h : s.size = 256) (b : Nat) (hb : b ≤ 256) (w : World) : (Instr.sliceAt 9 (.string s) none (some (.int .i64 (b : Int))) none).run Tryd.prog w = .ok (.string (s.extract 0 b)) w := by
  simp [Instr.sliceAt, Instr.slice, run_underlying Tryd.underlying9, go_sem, h]
  intro hlt
  omega
set_option maxRecDepth 100000 in
set_option maxHeartbeats 2000000 in
theorem text_any (Kt : Nat → Int) (k : Rk.Ky) (hk : Rk.rightS [k] = true) (h : Hd) (hf : fits h) (b : ByteArray) (hb : b.size = 256) (w : World) (hT : Tb Kt w) :
    Calls Tryd.prog 36 #[Rk.kv k, hv h, .string b] w fun e w' => e = .returned (.tuple #[.string (tv Kt k h b), .bool (tk Kt k h b)]) ∧ Below w.heap.size w w' := by
  have z1 : (b.extract 0 224).size = 224 := by rw [Rp.ext_size, hb]; rfl
  have z2 : (b.extract 24 224).size = 200 := by rw [Rp.ext_size, hb]; rfl
  have e1 : ∀ w, (Instr.sliceAt 9 (.string b) none (some (.int .i64 224)) none).run Tryd.prog w = .ok (.string (b.extract 0 224)) w := ext256n b hb 224 (by omega)
  have e2 : ∀ w, (Instr.sliceAt 9 (.string b) (some (.int .i64 24)) (some (.int .i64 224)) none).run Tryd.prog w = .ok (.string (b.extract 24 224)) w := ext256 b hb 24 224 (by omega) (by omega)
  have HS : Hid (∀ W, Tb Kt W → Calls Tryd.prog 46 #[Rk.kv k] W fun e w' => e = .returned (.tuple #[.string (Rk.sealS Kt k), .string (Rk.bindS Kt k), .int .i64 (Rk.subE k)]) ∧ Below W.heap.size W w') := fun W ⟨⟨_, _, h1⟩, _⟩ => Rk.subs_any Kt k W h1
  have HX : Hid (∀ W, Tb Kt W → Calls Tryd.prog 47 #[.string (Rk.sealS Kt k), .string (nonceS h), .string (b.extract 24 224)] W fun e w' => e = .returned (.tuple #[.string (bodyOf Kt k h b), .int .i64 0]) ∧ Below W.heap.size W w') := fun W ⟨_, _, _, h2⟩ => Ra.Xor_yes _ _ _ W (seal_size Kt k hk) (nonce_size h) (by omega) h2
  have HN : Hid (∀ W, Calls Tryd.prog 48 #[hv h] W fun e w' => e = .returned (.string (nonceS h)) ∧ Below W.heap.size W w') := nonce_any h hf
  have HG : Hid (∀ W, Calls Tryd.prog 15 #[.string b] W fun e w' => e = .returned (.string (tagS b)) ∧ w' = W) := tag_any b (by unfold maxLen; omega)
  have HM : Hid (∀ W T, Tb Kt W → Calls Tryd.prog 49 #[.string (Rk.bindS Kt k), .slice (some ⟨W.heap.size, 0, none⟩) 1 1] (W.alloc (.cells #[.string (b.extract 0 224)] T)) fun e w' => e = .returned (.string (macS Kt (Rk.bindS Kt k) (b.extract 0 224))) ∧ Below W.heap.size W w') := fun W T ⟨⟨_, _, h1⟩, _⟩ =>
    mac_new Kt _ (by rw [bind_size Kt k hk]; omega) 1 (by omega) #[.string (b.extract 0 224)] T (fun _ => b.extract 0 224) _ (by apply ByteArray.ext; simp [catS]) (by omega) (fun i hi => by match i, hi with | 0, _ => rfl) W h1
  have HE : Hid (∀ W, Calls Tryd.prog 54 #[.string (tagS b), .string (macS Kt (Rk.bindS Kt k) (b.extract 0 224))] W fun e w' => e = .returned (.bool (tagOk Kt k b)) ∧ Below W.heap.size W w') := fun W => equal_any _ _ (by unfold maxLen tagS; rw [Rp.ext_size]; omega) W
  have HU : Hid (∀ W, Calls Tryd.prog 55 #[.string (bodyOf Kt k h b)] W fun e w' => e = .returned (.tuple #[.string (Rp.unV (bodyOf Kt k h b)), .int .i64 (Rp.unE (bodyOf Kt k h b))]) ∧ Below W.heap.size W w') := Rp.unpad_any _
  have HV : Hid ((tagOk Kt k b = false ∧ tk Kt k h b = false ∧ tv Kt k h b = ⟨#[]⟩) ∨ (tagOk Kt k b = true ∧ tv Kt k h b = Rp.unV (bodyOf Kt k h b) ∧ ((tk Kt k h b = true ∧ Rp.unE (bodyOf Kt k h b) = 0) ∨ (tk Kt k h b = false ∧ Rp.unE (bodyOf Kt k h b) = 50)))) := by
    refine (?_ : (tagOk Kt k b = false ∧ tk Kt k h b = false ∧ tv Kt k h b = ⟨#[]⟩) ∨ (tagOk Kt k b = true ∧ tv Kt k h b = Rp.unV (bodyOf Kt k h b) ∧ ((tk Kt k h b = true ∧ Rp.unE (bodyOf Kt k h b) = 0) ∨ (tk Kt k h b = false ∧ Rp.unE (bodyOf Kt k h b) = 50))))
    unfold tv tk Rp.unV Rp.unE
    cases tagOk Kt k b <;> cases Rp.isBody (bodyOf Kt k h b) <;> simp
  have HT : Hid (Tb Kt w) := hT
  clear hT hf hk hb
  generalize bodyOf Kt k h b = bo at *
  generalize macS Kt (Rk.bindS Kt k) (b.extract 0 224) = ma at *
  generalize Rk.sealS Kt k = se at *
  generalize Rk.bindS Kt k = bi at *
  generalize Rk.subE k = su at *
  generalize nonceS h = no at *
  generalize tagOk Kt k b = ok at *
  generalize tk Kt k h b = tkk at *
  generalize tv Kt k h b = tvv at *
  generalize tagS b = ta at *
  generalize Rp.unV bo = uv at *
  generalize Rp.unE bo = ue at *
  generalize b.extract 0 224 = x1 at *
  generalize b.extract 24 224 = x2 at *
  obtain ⟨g, sec⟩ := k
  obtain ⟨a, b', c, d⟩ := h
  unfold hv Rk.kv at *
  simp only at HS HN ⊢
  go_enter Tryd.func36, Tryd.ntmps36
  go_wp2_with fail
  obtain ⟨w1, hw1⟩ : ∃ w1, (w.alloc (.cells #[.int .u32 g, .string sec] 44)).alloc (.cells #[.int .u32 a, .int .u32 b', .int .u32 c, .int .u64 d] 25) = w1 := ⟨_, rfl⟩
  have hn2 := Rp.two_new w (.cells #[.int .u32 g, .string sec] 44) (.cells #[.int .u32 a, .int .u32 b', .int .u32 c, .int .u64 d] 25)
  rw [hw1] at hn2
  have B1 : Hid (Below w.heap.size w w1) := hn2.2.2
  have X1 : Hid (w1.heap[w.heap.size + 1]? = some (.cells #[.int .u32 a, .int .u32 b', .int .u32 c, .int .u64 d] 25 (0, 0))) := hn2.2.1
  have l1 : w.heap.size + 1 < w1.heap.size := (Array.getElem?_eq_some_iff.1 hn2.2.1).1
  rw [hw1]
  clear hw1 hn2
  have HC : Hid (∀ W, Below w1.heap.size w1 W → W.cell? ⟨w.heap.size + 1, 0, none⟩ = some (.int .u32 a) ∧ W.cell? ⟨w.heap.size + 1, 1, none⟩ = some (.int .u32 b') ∧ W.cell? ⟨w.heap.size + 1, 2, none⟩ = some (.int .u32 c) ∧ W.cell? ⟨w.heap.size + 1, 3, none⟩ = some (.int .u64 d)) := fun W hB => by
    have hV := (hB.block _ l1).trans X1.out
    exact ⟨by rw [cell_of_row _ _ _ _ _ _ hV]; rfl, by rw [cell_of_row _ _ _ _ _ _ hV]; rfl, by rw [cell_of_row _ _ _ _ _ _ hV]; rfl, by rw [cell_of_row _ _ _ _ _ _ hV]; rfl⟩
  refine (HS.out w1 (HT.out.below B1.out (Nat.le_refl _))).mono ?_
  rintro e w2 ⟨rfl, b2⟩
  have D2 : Hid (Below w1.heap.size w1 w2) := b2
  clear b2 HS
  go_wp2_with fail
  refine wp_region_any (by kernel_rfl) ?_
  change wpAny _ _ _ _ _ _ _ (World.drew _)
  obtain ⟨w3, hw3⟩ : ∃ w3, w2.drew = w3 := ⟨_, rfl⟩
  have D3 : Hid (Below w1.heap.size w1 w3) := by rw [← hw3]; exact D2.out.drew
  rw [hw3]
  clear hw3 D2
  refine wpAny_take (i := 0) (v := ?_) rfl (by kernel_rfl) (by kernel_rfl) (by kernel_rfl) (fun _ _ _ h => h) (Or.inl ⟨by kernel_rfl, ?_⟩) ?_
  rotate_left
  · intro w
    go_simp
    try with_reducible rfl
  conv in (Act.put _ _ _) => simp only [List.getElem_toArray, List.getElem_cons_succ, List.getElem_cons_zero, Act.put, List.setIfInBounds_toArray, List.set_cons_succ, List.set_cons_zero]
  refine wpAny_take (i := 2) (v := ?_) rfl (by kernel_rfl) (by kernel_rfl) (by kernel_rfl) (fun _ _ _ h => h) (Or.inl ⟨by kernel_rfl, ?_⟩) ?_
  rotate_left
  · intro w
    go_simp
    try with_reducible rfl
  conv in (Act.put _ _ _) => simp only [List.getElem_toArray, List.getElem_cons_succ, List.getElem_cons_zero, Act.put, List.setIfInBounds_toArray, List.set_cons_succ, List.set_cons_zero]
  refine wpAny_take (i := 3) (v := ?_) rfl (by kernel_rfl) (by kernel_rfl) (by kernel_rfl) (fun _ _ _ h => h) (Or.inl ⟨by kernel_rfl, ?_⟩) ?_
  rotate_left
  · intro w
    go_simp
    try with_reducible rfl
  conv in (Act.put _ _ _) => simp only [List.getElem_toArray, List.getElem_cons_succ, List.getElem_cons_zero, Act.put, List.setIfInBounds_toArray, List.set_cons_succ, List.set_cons_zero]
  refine wpAny_take (i := 4) (v := ?_) rfl (by kernel_rfl) (by kernel_rfl) (by kernel_rfl) (fun _ _ _ h => h) (Or.inl ⟨by kernel_rfl, ?_⟩) ?_
  rotate_left
  · intro w
    go_simp
    try with_reducible rfl
  conv in (Act.put _ _ _) => simp only [List.getElem_toArray, List.getElem_cons_succ, List.getElem_cons_zero, Act.put, List.setIfInBounds_toArray, List.set_cons_succ, List.set_cons_zero]
  refine wpAny_ready (rs := [1, 5]) (by kernel_rfl) (by simp) ?_
  refine (AllReady.cons rfl (fun K hK => ?_) (AllReady.cons rfl (fun K hK => ?_) AllReady.nil))
  · go_simp
    refine (HG.out w3).mono ?_
    rintro e w4 ⟨rfl, hw4⟩
    subst hw4
    refine hK _ _ ?_
    clear hK K
    refine wpAny_ready (rs := [5]) (by kernel_rfl) (by simp) ?_
    refine (AllReady.cons rfl (fun K hK => ?_) AllReady.nil)
    go_simp
    refine hK _ _ ?_
    clear hK K
    refine wpAny_ready (rs := [6]) (by kernel_rfl) (by simp) ?_
    refine (AllReady.cons rfl (fun K hK => ?_) AllReady.nil)
    go_simp
    refine (HM.out w4 9 (HT.out.below (B1.out.trans (D3.out.mono B1.out.size)) (Nat.le_refl _))).mono ?_
    rintro e w5 ⟨rfl, b5⟩
    have D5 : Hid (Below w1.heap.size w1 w5) := D3.out.trans (b5.mono D3.out.size)
    clear b5 D3 HM
    refine hK _ _ ?_
    clear hK K
    refine wpAny_ready (rs := [7]) (by kernel_rfl) (by simp) ?_
    refine (AllReady.cons rfl (fun K hK => ?_) AllReady.nil)
    go_simp
    refine (HE.out w5).mono ?_
    rintro e w6 ⟨rfl, b6⟩
    have D6 : Hid (Below w1.heap.size w1 w6) := D5.out.trans (b6.mono D5.out.size)
    clear b6 D5 HE
    refine hK _ _ ?_
    clear hK K
    refine wpAny_take (i := 8) (v := ?_) rfl (by kernel_rfl) (by kernel_rfl) (by kernel_rfl) (fun _ _ _ h => h) (Or.inl ⟨by kernel_rfl, ?_⟩) ?_
    rotate_left
    · intro w
      go_simp
      try with_reducible rfl
    conv in (Act.put _ _ _) => simp only [List.getElem_toArray, List.getElem_cons_succ, List.getElem_cons_zero, Act.put, List.setIfInBounds_toArray, List.set_cons_succ, List.set_cons_zero]
    refine wpAny_done (by kernel_rfl) ?_ _
    rcases HV.out with ⟨rfl, rfl, rfl⟩ | ⟨rfl, rfl, HV2⟩
    · go_wp2_with fail
      refine bodyPost_ret (results_tmp2 rfl _ _ _) rfl ?_
      exact ⟨rfl, B1.out.trans (D6.out.mono B1.out.size)⟩
    · have HVV : Hid _ := HV2
      clear HV2 HV
      go_wp2_with fail
      refine wp_region_any (by kernel_rfl) ?_
      change wpAny _ _ _ _ _ _ _ (World.drew _)
      obtain ⟨v6, hv6⟩ : ∃ v6, w6.drew = v6 := ⟨_, rfl⟩
      have E6 : Hid (Below w1.heap.size w1 v6) := by rw [← hv6]; exact D6.out.drew
      rw [hv6]
      clear hv6 D6
      obtain ⟨ca, cb, cc, cd⟩ := HC.out v6 E6.out
      refine wpAny_take (i := 0) (v := ?_) rfl (by kernel_rfl) (by kernel_rfl) (by kernel_rfl) (fun _ _ _ h => h) (Or.inl ⟨by kernel_rfl, ?_⟩) ?_
      rotate_left
      · intro w
        go_simp
        try with_reducible rfl
      conv in (Act.put _ _ _) => simp only [List.getElem_toArray, List.getElem_cons_succ, List.getElem_cons_zero, Act.put, List.setIfInBounds_toArray, List.set_cons_succ, List.set_cons_zero]
      refine wpAny_take (i := 3) (v := ?_) rfl (by kernel_rfl) (by kernel_rfl) (by kernel_rfl) (fun _ _ _ h => h) (Or.inl ⟨by kernel_rfl, ?_⟩) ?_
      rotate_left
      · intro w
        go_simp
        try with_reducible rfl
      conv in (Act.put _ _ _) => simp only [List.getElem_toArray, List.getElem_cons_succ, List.getElem_cons_zero, Act.put, List.setIfInBounds_toArray, List.set_cons_succ, List.set_cons_zero]
      refine wpAny_take (i := 4) (v := ?_) rfl (by kernel_rfl) (by kernel_rfl) (by kernel_rfl) (fun _ _ _ h => h) (Or.inl ⟨by kernel_rfl, ?_⟩) ?_
      rotate_left
      · intro w
        go_simp
        try with_reducible rfl
      conv in (Act.put _ _ _) => simp only [List.getElem_toArray, List.getElem_cons_succ, List.getElem_cons_zero, Act.put, List.setIfInBounds_toArray, List.set_cons_succ, List.set_cons_zero]
      refine wpAny_ready (rs := [1]) (by kernel_rfl) (by simp) ?_
      refine (AllReady.cons rfl (fun K hK => ?_) AllReady.nil)
      go_simp
      refine hK _ _ ?_
      clear hK K
      clear ca cb cc cd
      refine wpAny_ready (rs := [2]) (by kernel_rfl) (by simp) ?_
      refine (AllReady.cons rfl (fun K hK => ?_) AllReady.nil)
      go_simp
      refine (HN.out v6).mono ?_
      rintro e w7 ⟨rfl, b7⟩
      have D7 : Hid (Below w1.heap.size w1 w7) := E6.out.trans (b7.mono E6.out.size)
      clear b7 E6 HN
      refine hK _ _ ?_
      clear hK K
      refine wpAny_ready (rs := [5]) (by kernel_rfl) (by simp) ?_
      refine (AllReady.cons rfl (fun K hK => ?_) AllReady.nil)
      go_simp
      refine (HX.out w7 (HT.out.below (B1.out.trans (D7.out.mono B1.out.size)) (Nat.le_refl _))).mono ?_
      rintro e w8 ⟨rfl, b8⟩
      have D8 : Hid (Below w1.heap.size w1 w8) := D7.out.trans (b8.mono D7.out.size)
      clear b8 D7 HX
      refine hK _ _ ?_
      clear hK K
      refine wpAny_take (i := 6) (v := ?_) rfl (by kernel_rfl) (by kernel_rfl) (by kernel_rfl) (fun _ _ _ h => h) (Or.inl ⟨by kernel_rfl, ?_⟩) ?_
      rotate_left
      · intro w
        go_simp
        try with_reducible rfl
      conv in (Act.put _ _ _) => simp only [List.getElem_toArray, List.getElem_cons_succ, List.getElem_cons_zero, Act.put, List.setIfInBounds_toArray, List.set_cons_succ, List.set_cons_zero]
      refine wpAny_take (i := 7) (v := ?_) rfl (by kernel_rfl) (by kernel_rfl) (by kernel_rfl) (fun _ _ _ h => h) (Or.inl ⟨by kernel_rfl, ?_⟩) ?_
      rotate_left
      · intro w
        go_simp
        try with_reducible rfl
      conv in (Act.put _ _ _) => simp only [List.getElem_toArray, List.getElem_cons_succ, List.getElem_cons_zero, Act.put, List.setIfInBounds_toArray, List.set_cons_succ, List.set_cons_zero]
      refine wpAny_take (i := 8) (v := ?_) rfl (by kernel_rfl) (by kernel_rfl) (by kernel_rfl) (fun _ _ _ h => h) (Or.inl ⟨by kernel_rfl, ?_⟩) ?_
      rotate_left
      · intro w
        go_simp
        try with_reducible rfl
      conv in (Act.put _ _ _) => simp only [List.getElem_toArray, List.getElem_cons_succ, List.getElem_cons_zero, Act.put, List.setIfInBounds_toArray, List.set_cons_succ, List.set_cons_zero]
      refine wpAny_ready (rs := [9]) (by kernel_rfl) (by simp) ?_
      refine (AllReady.cons rfl (fun K hK => ?_) AllReady.nil)
      go_simp
      refine hK _ _ ?_
      clear hK K
      refine wpAny_ready (rs := [10]) (by kernel_rfl) (by simp) ?_
      refine (AllReady.cons rfl (fun K hK => ?_) AllReady.nil)
      go_simp
      refine hK _ _ ?_
      clear hK K
      refine wpAny_done (by kernel_rfl) ?_ _
      go_wp2_with fail
      refine (HU.out w8).mono ?_
      rintro e w9 ⟨rfl, b9⟩
      have B9 : Hid (Below w.heap.size w w9) := B1.out.trans ((D8.out.trans (b9.mono D8.out.size)).mono B1.out.size)
      clear b9 D8 HU
      rcases HVV.out with ⟨rfl, rfl⟩ | ⟨rfl, rfl⟩
      · go_wp2_with fail
        refine bodyPost_ret (results_tmp2 rfl _ _ _) rfl ?_
        exact ⟨rfl, B9.out⟩
      · go_wp2_with fail
        refine bodyPost_ret (results_tmp2 rfl _ _ _) rfl ?_
        exact ⟨rfl, B9.out⟩
  · go_simp
    refine hK _ _ ?_
    clear hK K
    refine wpAny_ready (rs := [1]) (by kernel_rfl) (by simp) ?_
    refine (AllReady.cons rfl (fun K hK => ?_) AllReady.nil)
    go_simp
    refine (HG.out _).mono ?_
    rintro e w4 ⟨rfl, hw4⟩
    subst hw4
    refine hK _ _ ?_
    clear hK K
    refine wpAny_ready (rs := [6]) (by kernel_rfl) (by simp) ?_
    refine (AllReady.cons rfl (fun K hK => ?_) AllReady.nil)
    go_simp
    refine (HM.out w3 9 (HT.out.below (B1.out.trans (D3.out.mono B1.out.size)) (Nat.le_refl _))).mono ?_
    rintro e w5 ⟨rfl, b5⟩
    have D5 : Hid (Below w1.heap.size w1 w5) := D3.out.trans (b5.mono D3.out.size)
    clear b5 D3 HM
    refine hK _ _ ?_
    clear hK K
    refine wpAny_ready (rs := [7]) (by kernel_rfl) (by simp) ?_
    refine (AllReady.cons rfl (fun K hK => ?_) AllReady.nil)
    go_simp
    refine (HE.out w5).mono ?_
    rintro e w6 ⟨rfl, b6⟩
    have D6 : Hid (Below w1.heap.size w1 w6) := D5.out.trans (b6.mono D5.out.size)
    clear b6 D5 HE
    refine hK _ _ ?_
    clear hK K
    refine wpAny_take (i := 8) (v := ?_) rfl (by kernel_rfl) (by kernel_rfl) (by kernel_rfl) (fun _ _ _ h => h) (Or.inl ⟨by kernel_rfl, ?_⟩) ?_
    rotate_left
    · intro w
      go_simp
      try with_reducible rfl
    conv in (Act.put _ _ _) => simp only [List.getElem_toArray, List.getElem_cons_succ, List.getElem_cons_zero, Act.put, List.setIfInBounds_toArray, List.set_cons_succ, List.set_cons_zero]
    refine wpAny_done (by kernel_rfl) ?_ _
    rcases HV.out with ⟨rfl, rfl, rfl⟩ | ⟨rfl, rfl, HV2⟩
    · go_wp2_with fail
      refine bodyPost_ret (results_tmp2 rfl _ _ _) rfl ?_
      exact ⟨rfl, B1.out.trans (D6.out.mono B1.out.size)⟩
    · have HVV : Hid _ := HV2
      clear HV2 HV
      go_wp2_with fail
      refine wp_region_any (by kernel_rfl) ?_
      change wpAny _ _ _ _ _ _ _ (World.drew _)
      obtain ⟨v6, hv6⟩ : ∃ v6, w6.drew = v6 := ⟨_, rfl⟩
      have E6 : Hid (Below w1.heap.size w1 v6) := by rw [← hv6]; exact D6.out.drew
      rw [hv6]
      clear hv6 D6
      obtain ⟨ca, cb, cc, cd⟩ := HC.out v6 E6.out
      refine wpAny_take (i := 0) (v := ?_) rfl (by kernel_rfl) (by kernel_rfl) (by kernel_rfl) (fun _ _ _ h => h) (Or.inl ⟨by kernel_rfl, ?_⟩) ?_
      rotate_left
      · intro w
        go_simp
        try with_reducible rfl
      conv in (Act.put _ _ _) => simp only [List.getElem_toArray, List.getElem_cons_succ, List.getElem_cons_zero, Act.put, List.setIfInBounds_toArray, List.set_cons_succ, List.set_cons_zero]
      refine wpAny_take (i := 3) (v := ?_) rfl (by kernel_rfl) (by kernel_rfl) (by kernel_rfl) (fun _ _ _ h => h) (Or.inl ⟨by kernel_rfl, ?_⟩) ?_
      rotate_left
      · intro w
        go_simp
        try with_reducible rfl
      conv in (Act.put _ _ _) => simp only [List.getElem_toArray, List.getElem_cons_succ, List.getElem_cons_zero, Act.put, List.setIfInBounds_toArray, List.set_cons_succ, List.set_cons_zero]
      refine wpAny_take (i := 4) (v := ?_) rfl (by kernel_rfl) (by kernel_rfl) (by kernel_rfl) (fun _ _ _ h => h) (Or.inl ⟨by kernel_rfl, ?_⟩) ?_
      rotate_left
      · intro w
        go_simp
        try with_reducible rfl
      conv in (Act.put _ _ _) => simp only [List.getElem_toArray, List.getElem_cons_succ, List.getElem_cons_zero, Act.put, List.setIfInBounds_toArray, List.set_cons_succ, List.set_cons_zero]
      refine wpAny_ready (rs := [1]) (by kernel_rfl) (by simp) ?_
      refine (AllReady.cons rfl (fun K hK => ?_) AllReady.nil)
      go_simp
      refine hK _ _ ?_
      clear hK K
      clear ca cb cc cd
      refine wpAny_ready (rs := [2]) (by kernel_rfl) (by simp) ?_
      refine (AllReady.cons rfl (fun K hK => ?_) AllReady.nil)
      go_simp
      refine (HN.out v6).mono ?_
      rintro e w7 ⟨rfl, b7⟩
      have D7 : Hid (Below w1.heap.size w1 w7) := E6.out.trans (b7.mono E6.out.size)
      clear b7 E6 HN
      refine hK _ _ ?_
      clear hK K
      refine wpAny_ready (rs := [5]) (by kernel_rfl) (by simp) ?_
      refine (AllReady.cons rfl (fun K hK => ?_) AllReady.nil)
      go_simp
      refine (HX.out w7 (HT.out.below (B1.out.trans (D7.out.mono B1.out.size)) (Nat.le_refl _))).mono ?_
      rintro e w8 ⟨rfl, b8⟩
      have D8 : Hid (Below w1.heap.size w1 w8) := D7.out.trans (b8.mono D7.out.size)
      clear b8 D7 HX
      refine hK _ _ ?_
      clear hK K
      refine wpAny_take (i := 6) (v := ?_) rfl (by kernel_rfl) (by kernel_rfl) (by kernel_rfl) (fun _ _ _ h => h) (Or.inl ⟨by kernel_rfl, ?_⟩) ?_
      rotate_left
      · intro w
        go_simp
        try with_reducible rfl
      conv in (Act.put _ _ _) => simp only [List.getElem_toArray, List.getElem_cons_succ, List.getElem_cons_zero, Act.put, List.setIfInBounds_toArray, List.set_cons_succ, List.set_cons_zero]
      refine wpAny_take (i := 7) (v := ?_) rfl (by kernel_rfl) (by kernel_rfl) (by kernel_rfl) (fun _ _ _ h => h) (Or.inl ⟨by kernel_rfl, ?_⟩) ?_
      rotate_left
      · intro w
        go_simp
        try with_reducible rfl
      conv in (Act.put _ _ _) => simp only [List.getElem_toArray, List.getElem_cons_succ, List.getElem_cons_zero, Act.put, List.setIfInBounds_toArray, List.set_cons_succ, List.set_cons_zero]
      refine wpAny_take (i := 8) (v := ?_) rfl (by kernel_rfl) (by kernel_rfl) (by kernel_rfl) (fun _ _ _ h => h) (Or.inl ⟨by kernel_rfl, ?_⟩) ?_
      rotate_left
      · intro w
        go_simp
        try with_reducible rfl
      conv in (Act.put _ _ _) => simp only [List.getElem_toArray, List.getElem_cons_succ, List.getElem_cons_zero, Act.put, List.setIfInBounds_toArray, List.set_cons_succ, List.set_cons_zero]
      refine wpAny_ready (rs := [9]) (by kernel_rfl) (by simp) ?_
      refine (AllReady.cons rfl (fun K hK => ?_) AllReady.nil)
      go_simp
      refine hK _ _ ?_
      clear hK K
      refine wpAny_ready (rs := [10]) (by kernel_rfl) (by simp) ?_
      refine (AllReady.cons rfl (fun K hK => ?_) AllReady.nil)
      go_simp
      refine hK _ _ ?_
      clear hK K
      refine wpAny_done (by kernel_rfl) ?_ _
      go_wp2_with fail
      refine (HU.out w8).mono ?_
      rintro e w9 ⟨rfl, b9⟩
      have B9 : Hid (Below w.heap.size w w9) := B1.out.trans ((D8.out.trans (b9.mono D8.out.size)).mono B1.out.size)
      clear b9 D8 HU
      rcases HVV.out with ⟨rfl, rfl⟩ | ⟨rfl, rfl⟩
      · go_wp2_with fail
        refine bodyPost_ret (results_tmp2 rfl _ _ _) rfl ?_
        exact ⟨rfl, B9.out⟩
      · go_wp2_with fail
        refine bodyPost_ret (results_tmp2 rfl _ _ _) rfl ?_
        exact ⟨rfl, B9.out⟩
end Go.Proofs.YtaoadopnhphjbaaDoor.Rs
