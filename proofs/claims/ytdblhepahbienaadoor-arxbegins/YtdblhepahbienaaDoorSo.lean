import Derived.Test.YtdblhepahbienaaDoorSi
import Derived.Test.YtdblhepahbienaaDoorSn
import Derived.RegionTactic
import Derived.Deep.QuietTactic
namespace Go.Proofs.YtdblhepahbienaaDoor
open Go.RowKit
/-- One byte at a block, as a text. -/
theorem one_conv (w : World) (c : Int) :
    (convert 35 9 (.slice (some ⟨w.heap.size, 0, none⟩) 1 1)).run Tryd.prog (w.alloc (.cells #[.int .u8 c] 5)) = .ok (.string (strOfNums [c])) (w.alloc (.cells #[.int .u8 c] 5)) := by
  refine run_convert_bytes_arg _ 35 5 Tryd.underlying35 Tryd.underlying5 w.heap.size 0 1 1 [c] (by simp) (fun i hi => ?_) 9 Tryd.underlying9
  obtain rfl : i = 0 := by omega
  rw [cell_of_row _ _ _ _ _ _ (heap_alloc_new w _)]
  simp
theorem str_one (c : Int) (h0 : 0 ≤ c) (h1 : c < 256) : ∃ u : UInt8, strOfNums [c] = ⟨#[u]⟩ ∧ (u.toNat : Int) = c := by
  refine ⟨UInt8.ofNat c.toNat, rfl, ?_⟩
  rw [UInt8.toNat_ofNat']
  omega
set_option maxHeartbeats 4000000 in
theorem begins_walk (key nonce s : ByteArray) (at' c : Int) (hs : s.size ≤ maxLen) (hc0 : 0 ≤ c) (hc1 : c < 256) (w : World) {tt : TypeId} {fr : Nat × Nat} (hg : w.heap[0]? = some (.cells tab tt fr)) :
    Calls Tryd.prog 8 #[.string key, .string nonce, .string s, .int .i64 at', .int .u8 c] w fun e w' => e = .returned (.bool true) ∧ Below w.heap.size w w' := by
  have hw0 : 0 < w.heap.size := (Array.getElem?_eq_some_iff.1 hg).1
  have HG : Hid _ := hg
  have HS : Hid _ := hs
  have HC : Hid ((cutS s).size ≤ 3000) := cutS_size s
  have HC0 : Hid (0 ≤ c ∧ c < 256) := ⟨hc0, hc1⟩
  clear hg hs hc0 hc1
  by_cases h : key.size = 32 ∧ nonce.size = 12
  · have H1 : Hid (key.size = 32) := h.1
    have H2 : Hid (nonce.size = 12) := h.2
    clear h
    go_enter Tryd.func8, Tryd.ntmps8
    go_wp2_with (go_at_call 9; refine (shown_any _ HG.out).mono ?_; rintro e w1 ⟨rfl, hb1⟩)
    refine (cut_det s HS.out _).mono ?_
    rintro e w1' ⟨rfl, rfl⟩
    generalize cutS s = t at *
    clear HS
    go_wp2_with fail
    refine (Xor_yes key nonce t _ H1.out H2.out (by have := HC.out; omega) ((hb1.block 0 hw0).trans HG.out)).mono ?_
    rintro e w2 ⟨rfl, hb2⟩
    have h2 := hb1.trans (hb2.mono hb1.size)
    clear hb1 hb2
    by_cases hat : 0 ≤ at' ∧ at' < (t.size : Int)
    · obtain ⟨k, rfl⟩ : ∃ k : Nat, at' = (k : Int) := ⟨at'.toNat, by omega⟩
      have hk : k < t.size := by omega
      have q1 : decide ((k : Int) < 0) = false := by simp
      have q2 : decide ((t.size : Int) ≤ (k : Int)) = false := by simp; omega
      obtain ⟨u, hu, hcu⟩ := str_one c HC0.out.1 HC0.out.2
      have HF : Hid _ := begins_facts key nonce t H1.out H2.out k u hk
      have HZ : Hid _ := xorS_size key nonce t
      have HK : Hid _ := hk
      have hkm : k ≤ t.size := by omega
      have hkn : k + 1 ≤ t.size := by omega
      have hkw : IntKind.i64.wrap ((k : Int) + 1) = ((k + 1 : Nat) : Int) := by rw [IntKind.wrap_i64]; have := HC.out; omega
      have g5 : (0 : Int) ≤ (k : Int) + 1 := by omega
      have g6 : (k : Int) + 1 ≤ (t.size : Int) := by omega
      obtain ⟨U, hU⟩ : ∃ U, strOfNums [c] = U := ⟨_, rfl⟩
      have hUs : U.size = 1 := by rw [← hU, strOfNums_size]; rfl
      have g7 : ¬ 9223372036854775807 < k + 1 := by have := HC.out; omega
      have g8 : ¬ 9223372036854775807 < t.size := by have := HC.out; omega
      have HU : Hid _ := hu
      have HCU : Hid _ := hcu
      clear hat hu hcu
      generalize hA : xorS key nonce t = A at *
      go_wp2_with fail
      refine (Xor_yes key nonce (t.extract 0 k) _ H1.out H2.out (by have := HC.out; simp <;> omega) ((h2.block 0 hw0).trans HG.out)).mono ?_
      rintro e w3 ⟨rfl, hb3⟩
      have h3 := h2.trans (hb3.mono h2.size)
      clear h2 hb3
      generalize hB : xorS key nonce (t.extract 0 k) = B at *
      go_wp2_with fail
      refine wp_region_any (by kernel_rfl) ?_
      change wpAny _ _ _ _ _ _ _ (World.drew _)
      refine wpAny_take (i := 0) (v := ?_) rfl (by kernel_rfl) (by kernel_rfl) (by kernel_rfl) (fun _ _ _ h => h) (Or.inl ⟨by rfl, ?_⟩) ?_
      rotate_left
      · intro w
        go_simp
        try with_reducible rfl
      refine wpAny_take (i := 1) (v := ?_) rfl (by kernel_rfl) (by kernel_rfl) (by kernel_rfl) (fun _ _ _ h => h) (Or.inl ⟨by rfl, ?_⟩) ?_
      rotate_left
      · intro w
        go_simp
        try with_reducible rfl
      refine wpAny_take (i := 2) (v := ?_) rfl (by kernel_rfl) (by kernel_rfl) (by kernel_rfl) (fun _ _ _ h => h) (Or.inl ⟨by rfl, ?_⟩) ?_
      rotate_left
      · intro w
        go_simp
        try with_reducible rfl
      refine wpAny_take (i := 3) (v := ?_) rfl (by kernel_rfl) (by kernel_rfl) (by kernel_rfl) (fun _ _ _ h => h) (Or.inl ⟨by rfl, ?_⟩) ?_
      rotate_left
      · intro w
        go_simp
        try with_reducible rfl
      refine wpAny_take (i := 4) (v := ?_) rfl (by kernel_rfl) (by kernel_rfl) (by kernel_rfl) (fun _ _ _ h => h) (Or.inl ⟨by rfl, ?_⟩) ?_
      rotate_left
      · intro w
        go_simp
        try with_reducible rfl
      refine wpAny_take (i := 5) (v := ?_) rfl (by kernel_rfl) (by kernel_rfl) (by kernel_rfl) (fun _ _ _ h => h) (Or.inl ⟨by rfl, ?_⟩) ?_
      rotate_left
      · intro w
        go_simp
        try with_reducible rfl
      refine wpAny_take (i := 9) (v := ?_) rfl (by kernel_rfl) (by kernel_rfl) (by kernel_rfl) (fun _ _ _ h => h) (Or.inl ⟨by rfl, ?_⟩) ?_
      rotate_left
      · intro w
        go_simp
        try with_reducible rfl
      refine wpAny_take (i := 10) (v := ?_) rfl (by kernel_rfl) (by kernel_rfl) (by kernel_rfl) (fun _ _ _ h => h) (Or.inl ⟨by rfl, ?_⟩) ?_
      rotate_left
      · intro w
        go_simp
        try with_reducible rfl
      refine wpAny_take (i := 11) (v := ?_) rfl (by kernel_rfl) (by kernel_rfl) (by kernel_rfl) (fun _ _ _ h => h) (Or.inl ⟨by rfl, ?_⟩) ?_
      rotate_left
      · intro w
        go_simp
        try with_reducible rfl
      refine wpAny_take (i := 12) (v := ?_) rfl (by kernel_rfl) (by kernel_rfl) (by kernel_rfl) (fun _ _ _ h => h) (Or.inl ⟨by rfl, ?_⟩) ?_
      rotate_left
      · intro w
        go_simp
        try with_reducible rfl
      refine wpAny_ready (rs := [6]) (by kernel_rfl) (by simp) ?_
      refine (AllReady.cons rfl (fun K hK => ?_) AllReady.nil)
      go_simp
      refine hK _ _ ?_
      clear hK K
      have hcv : (convert 35 9 (.slice (some ⟨w3.heap.size, 0, none⟩) 1 1)).run Tryd.prog (w3.alloc (.cells #[.int .u8 c] 5)).drew = .ok (.string U) (w3.alloc (.cells #[.int .u8 c] 5)).drew := hU ▸ one_conv w3.drew c
      refine wpAny_ready (rs := [7]) (by kernel_rfl) (by simp) ?_
      refine (AllReady.cons rfl (fun K hK => ?_) AllReady.nil)
      go_simp
      refine hK _ _ ?_
      clear hK K
      refine wpAny_take (i := 8) (v := ?_) rfl (by kernel_rfl) (by kernel_rfl) (by kernel_rfl) (fun _ _ _ h => h) (Or.inl ⟨by rfl, ?_⟩) ?_
      rotate_left
      · intro w
        go_simp
        try with_reducible rfl
      refine wpAny_take (i := 13) (v := ?_) rfl (by kernel_rfl) (by kernel_rfl) (by kernel_rfl) (fun _ _ _ h => h) (Or.inl ⟨by rfl, ?_⟩) ?_
      rotate_left
      · intro w
        go_simp
        try with_reducible rfl
      refine wpAny_ready (rs := [14]) (by kernel_rfl) (by simp) ?_
      refine (AllReady.cons rfl (fun K hK => ?_) AllReady.nil)
      go_simp
      have hch : t.extract 0 k ++ U ++ t.extract (k + 1) t.size = chg t k u := by rw [← hU, HU.out]; rfl
      rw [hch]
      have h4 : Below w.heap.size w (w3.alloc (.cells #[.int .u8 c] 5)).drew := (h3.alloc h3.size _).drew
      refine (Xor_yes key nonce (chg t k u) _ H1.out H2.out (by rw [chg_size t k u HK.out]; have := HC.out; omega) ((h4.block 0 hw0).trans HG.out)).mono ?_
      rintro e w4 ⟨rfl, hb4⟩
      refine hK _ _ ?_
      clear hK K hcv hch
      have h5 := h4.trans (hb4.mono h4.size)
      clear h4 hb4 h3
      have HT : Hid ((xorS key nonce (chg t k u)).size = t.size) := (xorS_size _ _ _).trans (chg_size t k u HK.out)
      generalize hT : xorS key nonce (chg t k u) = T at *
      refine wpAny_take (i := 15) (v := ?_) rfl (by kernel_rfl) (by kernel_rfl) (by kernel_rfl) (fun _ _ _ h => h) (Or.inl ⟨by rfl, ?_⟩) ?_
      rotate_left
      · intro w
        go_simp
        try with_reducible rfl
      refine wpAny_take (i := 16) (v := ?_) rfl (by kernel_rfl) (by kernel_rfl) (by kernel_rfl) (fun _ _ _ h => h) (Or.inl ⟨by rfl, ?_⟩) ?_
      rotate_left
      · intro w
        go_simp
        try with_reducible rfl
      refine wpAny_take (i := 17) (v := ?_) rfl (by kernel_rfl) (by kernel_rfl) (by kernel_rfl) (fun _ _ _ h => h) (Or.inl ⟨by rfl, ?_⟩) ?_
      rotate_left
      · intro w
        go_simp
        try with_reducible rfl
      refine wpAny_take (i := 18) (v := ?_) rfl (by kernel_rfl) (by kernel_rfl) (by kernel_rfl) (fun _ _ _ h => h) (Or.inl ⟨by rfl, ?_⟩) ?_
      rotate_left
      · intro w
        go_simp
        try with_reducible rfl
      refine wpAny_take (i := 19) (v := ?_) rfl (by kernel_rfl) (by kernel_rfl) (by kernel_rfl) (fun _ _ _ h => h) (Or.inl ⟨by rfl, ?_⟩) ?_
      rotate_left
      · intro w
        go_simp
        try with_reducible rfl
      refine wpAny_done (by kernel_rfl) ?_ _
      have a1 : A.extract 0 k = B := HF.out.1
      have a2 : T.extract 0 k = B := HF.out.2.1
      have hAs : A.size = t.size := HZ.out
      have hTs : T.size = t.size := HT.out
      have a3 : T.extract (k + 1) t.size = A.extract (k + 1) t.size := HF.out.2.2.1
      have kA : k < A.size := by have := HK.out; omega
      have kT : k < T.size := by have := HK.out; omega
      have a4 : bits BinOp.xor IntKind.u8 (A[k].toNat : Int) (t[k].toNat : Int) = bits BinOp.xor IntKind.u8 (T[k].toNat : Int) c := by
        have := HF.out.2.2.2
        rw [← bt_get _ k kA, ← bt_get _ k hk, ← bt_get _ k kT] at *
        rw [this, HCU.out]
      have iA : ∀ w', (Instr.index 9 (.string A) (.int .i64 (k : Int))).run Tryd.prog w' = .ok (.int .u8 (A[k].toNat : Int)) w' := fun w' => by simp [go_sem, kA]
      have iT : ∀ w', (Instr.index 9 (.string T) (.int .i64 (k : Int))).run Tryd.prog w' = .ok (.int .u8 (T[k].toNat : Int)) w' := fun w' => by simp [go_sem, kT]
      have it : ∀ w', (Instr.index 9 (.string t) (.int .i64 (k : Int))).run Tryd.prog w' = .ok (.int .u8 (t[k].toNat : Int)) w' := fun w' => by simp [go_sem, hk]
      clear HF HZ HT hT hB hA HU hU hUs g7 g8 q1 q2 HC0 HCU
      go_wp2_with fail
      go_quiet (fail)
      go_wp2
      go_ret
      exact ⟨rfl, below_drewN h5 _⟩
    · have g1 : decide (at' < 0) = true ∨ (decide (at' < 0) = false ∧ decide ((t.size : Int) ≤ at') = true) := by simp; omega
      clear hat
      generalize xorS key nonce t = A at *
      rcases g1 with g1 | ⟨g1, g2⟩
      · go_wp2
        go_ret
        exact ⟨rfl, h2⟩
      · go_wp2
        go_ret
        exact ⟨rfl, h2⟩
  · have HN : Hid (¬ (key.size = 32 ∧ nonce.size = 12)) := h
    clear h
    go_enter Tryd.func8, Tryd.ntmps8
    go_wp2_with (go_at_call 9; refine (shown_any _ HG.out).mono ?_; rintro e w1 ⟨rfl, hb1⟩)
    refine (cut_det s HS.out _).mono ?_
    rintro e w1' ⟨rfl, rfl⟩
    go_wp2_with fail
    refine (Xor_no key nonce (cutS s) _ HN.out).mono ?_
    rintro e w2 ⟨rfl, hb2⟩
    have h2 := hb1.trans (hb2.mono hb1.size)
    clear hb1 hb2
    go_wp2
    go_ret
    exact ⟨rfl, h2⟩
end Go.Proofs.YtdblhepahbienaaDoor
