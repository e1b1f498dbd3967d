/- The reference's Open. -/
import Derived.Test.YtaoadopnhphjbaaDoorPXL
namespace Go.Proofs.YtaoadopnhphjbaaDoor.Rs
open Go.RowKit Go.Lib
set_option maxRecDepth 100000 in
set_option maxHeartbeats 2000000 in
theorem rOpen_any (Kt : Nat → Int) (l : List Rk.Ky) (o : Option Addr) (cap : Nat) (b : ByteArray) (w : World) (hr : Rk.Ring w o cap l) (hT : Tr Kt w) :
    Calls Tryd.prog 20 #[.slice o l.length cap, .string b] w fun e w' => e = .returned (.tuple #[hv (oH Kt l b), .string (oS Kt l b), .int .i64 (oE Kt l b)]) ∧ Below w.heap.size w w' := by
  have HRi : Hid (∀ W, Rk.Ring W o cap l → Calls Tryd.prog 37 #[.slice o l.length cap] W fun e w' => e = .returned (.bool (Rk.rightS l)) ∧ w' = W) := fun W hW => Rk.refRight_any l o cap W hW
  have HG : Hid (∀ W, Calls Tryd.prog 12 #[.string (b.extract 0 24)] W fun e w' => e = .returned (.tuple #[hv (hB b), .bool (gk (b.extract 0 24))]) ∧ Below W.heap.size W w') := rGet_any (b.extract 0 24)
  have HF : Hid (∀ W, Rk.Ring W o cap l → Calls Tryd.prog 30 #[.slice o l.length cap, .int .u32 (hB b).2.1] W fun e w' => e = .returned (.tuple #[Rk.kv (Rk.fkS l (hB b).2.1), .int .i64 (Rk.feS l (hB b).2.1)]) ∧ Below W.heap.size W w') := fun W hW => Rk.refFind_any l (hB b).2.1 o cap W hW
  have HU : Hid (∀ W, Tr Kt W → Calls Tryd.prog 33 #[Rk.kv (Rk.fkS l (hB b).2.1)] W fun e w' => e = .returned (.tuple #[.string (Rk.sealS Kt (Rk.fkS l (hB b).2.1)), .string (Rk.bindS Kt (Rk.fkS l (hB b).2.1)), .int .i64 (Rk.subE (Rk.fkS l (hB b).2.1))]) ∧ Below W.heap.size W w') := fun W ⟨_, _, h1⟩ => Rk.refSubs_any Kt _ W h1
  have HM : Hid (Rk.feS l (hB b).2.1 = 0 → b.size = 256 → ∀ W, Tr Kt W → Calls Tryd.prog 34 #[.string (Rk.bindS Kt (Rk.fkS l (hB b).2.1)), .string (b.extract 0 224)] W fun e w' => e = .returned (.string (macS Kt (Rk.bindS Kt (Rk.fkS l (hB b).2.1)) (b.extract 0 224))) ∧ Below W.heap.size W w') := fun h0 hs W ⟨_, _, h1⟩ =>
    refMac_any Kt _ _ (by rw [bind_size Kt _ (fe_zero l _ h0).2.2.2]; omega) (by rw [Rp.ext_size]; omega) W h1
  have HN : Hid (∀ W, Calls Tryd.prog 39 #[hv (hB b)] W fun e w' => e = .returned (.string (nonceS (hB b))) ∧ Below W.heap.size W w') := rNonce_any (hB b) (gv_fits _)
  have HXO : Hid (Rk.feS l (hB b).2.1 = 0 → ∀ W, Calls Tryd.prog 38 #[.string (Rk.sealS Kt (Rk.fkS l (hB b).2.1)), .string (nonceS (hB b)), .string (b.extract 24 224)] W fun e w' => e = .returned (.tuple #[.string (bodyOf Kt (Rk.fkS l (hB b).2.1) (hB b) b), .int .i64 0]) ∧ Below W.heap.size W w') := fun h0 W =>
    rXor_is _ _ _ (seal_size Kt _ (fe_zero l _ h0).2.2.2) (nonce_size _) (by rw [Rp.ext_size]; omega) W
  have HUP : Hid (∀ W, Calls Tryd.prog 40 #[.string (bodyOf Kt (Rk.fkS l (hB b).2.1) (hB b) b)] W fun e w' => e = .returned (.tuple #[.string (Rp.unV (bodyOf Kt (Rk.fkS l (hB b).2.1) (hB b) b)), .int .i64 (Rp.unE (bodyOf Kt (Rk.fkS l (hB b).2.1) (hB b) b))]) ∧ Below W.heap.size W w') := Rp.refUnpad_any _
  have HE1 : Hid (b.size = 256 → ∀ w, (Instr.sliceAt 9 (.string b) none (some (.int .i64 224)) none).run Tryd.prog w = .ok (.string (b.extract 0 224)) w) := fun h => ext256n b h 224 (by omega)
  have HE2 : Hid (b.size = 256 → ∀ w, (Instr.sliceAt 9 (.string b) (some (.int .i64 24)) (some (.int .i64 224)) none).run Tryd.prog w = .ok (.string (b.extract 24 224)) w) := fun h => ext256 b h 24 224 (by omega) (by omega)
  have HE3 : Hid (b.size = 256 → ∀ w, (Instr.sliceAt 9 (.string b) (some (.int .i64 224)) none none).run Tryd.prog w = .ok (.string (tagS b)) w) := fun h w => by
    have : tagS b = b.extract 224 256 := by unfold tagS; rw [h]
    rw [this]
    simp [Instr.sliceAt, Instr.slice, run_underlying Tryd.underlying9, go_sem, h]
  have HTK : Hid ((tagS b = macS Kt (Rk.bindS Kt (Rk.fkS l (hB b).2.1)) (b.extract 0 224) ∧ ((tk Kt (Rk.fkS l (hB b).2.1) (hB b) b = true ∧ Rp.unE (bodyOf Kt (Rk.fkS l (hB b).2.1) (hB b) b) = 0 ∧ tv Kt (Rk.fkS l (hB b).2.1) (hB b) b = Rp.unV (bodyOf Kt (Rk.fkS l (hB b).2.1) (hB b) b)) ∨ (tk Kt (Rk.fkS l (hB b).2.1) (hB b) b = false ∧ Rp.unE (bodyOf Kt (Rk.fkS l (hB b).2.1) (hB b) b) = 50)))
    ∨ (((macS Kt (Rk.bindS Kt (Rk.fkS l (hB b).2.1)) (b.extract 0 224)).toList == (tagS b).toList) = false ∧ tk Kt (Rk.fkS l (hB b).2.1) (hB b) b = false)) := by
    refine (?_ : _ ∨ _)
    rw [Rp.toList_dec]
    unfold tv tk Rp.unV Rp.unE tagOk
    by_cases ht : tagS b = macS Kt (Rk.bindS Kt (Rk.fkS l (hB b).2.1)) (b.extract 0 224)
    · left
      refine ⟨ht, ?_⟩
      rw [decide_eq_true ht]
      cases Rp.isBody (bodyOf Kt (Rk.fkS l (hB b).2.1) (hB b) b) <;> simp
    · right
      rw [decide_eq_false ht]
      exact ⟨decide_eq_false fun e => ht e.symm, rfl⟩
  have HQ : Hid (Rk.feS l (hB b).2.1 = 0 ∨ Rk.feS l (hB b).2.1 = 40 ∨ Rk.feS l (hB b).2.1 = 41) := fe_cases l _
  have HEX : Hid (b.size = 256 → ∀ w, (Instr.sliceAt 9 (.string b) none (some (.int .i64 24)) none).run Tryd.prog w = .ok (.string (b.extract 0 24)) w) := fun h => ext256n b h 24 (by omega)
  have HR : Hid (Rk.Ring w o cap l) := hr
  have HT : Hid (Tr Kt w) := hT
  have HV : Hid ((Rk.rightS l = false ∧ oE Kt l b = 40 ∧ oH Kt l b = zh ∧ oS Kt l b = ⟨#[]⟩) ∨ (Rk.rightS l = true ∧ b.size ≠ 256 ∧ oE Kt l b = 61 ∧ oH Kt l b = zh ∧ oS Kt l b = ⟨#[]⟩) ∨ (Rk.rightS l = true ∧ b.size = 256 ∧ gk (b.extract 0 24) = false ∧ oE Kt l b = 61 ∧ oH Kt l b = zh ∧ oS Kt l b = ⟨#[]⟩)
    ∨ (Rk.rightS l = true ∧ b.size = 256 ∧ gk (b.extract 0 24) = true ∧ Rk.feS l (hB b).2.1 ≠ 0 ∧ oE Kt l b = Rk.feS l (hB b).2.1 ∧ oH Kt l b = zh ∧ oS Kt l b = ⟨#[]⟩)
    ∨ (Rk.rightS l = true ∧ b.size = 256 ∧ gk (b.extract 0 24) = true ∧ Rk.feS l (hB b).2.1 = 0 ∧ tk Kt (Rk.fkS l (hB b).2.1) (hB b) b = false ∧ oE Kt l b = 61 ∧ oH Kt l b = zh ∧ oS Kt l b = ⟨#[]⟩)
    ∨ (Rk.rightS l = true ∧ b.size = 256 ∧ gk (b.extract 0 24) = true ∧ Rk.feS l (hB b).2.1 = 0 ∧ tk Kt (Rk.fkS l (hB b).2.1) (hB b) b = true ∧ oE Kt l b = 0 ∧ oH Kt l b = hB b ∧ oS Kt l b = tv Kt (Rk.fkS l (hB b).2.1) (hB b) b)) := by
    refine (?_ : (_ ∧ _) ∨ _)
    unfold oH oS oE
    cases hR : Rk.rightS l
    · left; simp
    · right
      by_cases hz : b.size = 256
      · right
        cases hg : gk (b.extract 0 24)
        · left; simp [hz]
        · right
          by_cases hf : Rk.feS l (hB b).2.1 = 0
          · right
            cases ht : tk Kt (Rk.fkS l (hB b).2.1) (hB b) b
            · left; simp [hz, hf]
            · right; simp [hz, hf]
          · left; simp [hz, hf]
      · left; simp [hz]
  clear hr hT
  generalize bodyOf Kt (Rk.fkS l (hB b).2.1) (hB b) b = bo at *
  generalize macS Kt (Rk.bindS Kt (Rk.fkS l (hB b).2.1)) (b.extract 0 224) = ma at *
  generalize Rk.sealS Kt (Rk.fkS l (hB b).2.1) = sl at *
  generalize Rk.bindS Kt (Rk.fkS l (hB b).2.1) = bi at *
  generalize Rk.subE (Rk.fkS l (hB b).2.1) = su at *
  generalize nonceS (hB b) = no at *
  generalize tagS b = ta at *
  generalize Rp.unV bo = uv at *
  generalize Rp.unE bo = ue at *
  generalize b.extract 0 224 = y1 at *
  generalize b.extract 24 224 = y2 at *
  generalize tv Kt (Rk.fkS l (hB b).2.1) (hB b) b = tvv at *
  generalize tk Kt (Rk.fkS l (hB b).2.1) (hB b) b = tkk at *
  generalize hk : Rk.fkS l (hB b).2.1 = k at *
  generalize Rk.feS l (hB b).2.1 = fe at *
  clear hk
  generalize oE Kt l b = oe at *
  generalize oS Kt l b = os at *
  generalize oH Kt l b = oh at *
  generalize hB b = hb at *
  generalize gk (b.extract 0 24) = gkk at *
  generalize b.extract 0 24 = x at *
  generalize Rk.rightS l = ri at *
  obtain ⟨kg, ks⟩ := k
  obtain ⟨a, b', c, d⟩ := hb
  rcases HV.out with ⟨rfl, rfl, rfl, rfl⟩ | ⟨rfl, hz, rfl, rfl, rfl⟩ | ⟨rfl, hz, rfl, rfl, rfl, rfl⟩ | ⟨rfl, hz, rfl, h0, rfl, rfl, rfl⟩ | ⟨rfl, hz, rfl, rfl, rfl, rfl, rfl, rfl⟩ | ⟨rfl, hz, rfl, rfl, rfl, rfl, rfl, rfl⟩
  · clear HV
    unfold hv Rk.kv at *
    simp only at HG HF HU HN ⊢
    go_enter Tryd.func20, Tryd.ntmps20
    go_wp2_with fail
    obtain ⟨w1, hw1⟩ : ∃ w1, w.alloc (.cells #[.int .u32 0, .int .u32 0, .int .u32 0, .int .u64 0] 25) = w1 := ⟨_, rfl⟩
    have D1 : Hid (Below w.heap.size w w1) := by rw [← hw1]; exact (Below.refl _ w).alloc (Nat.le_refl _) _
    have Z1 : Hid (w1.heap[w.heap.size]? = some (.cells #[.int .u32 0, .int .u32 0, .int .u32 0, .int .u64 0] 25 (0, 0))) := by rw [← hw1]; exact heap_alloc_new w _
    rw [hw1]
    clear hw1
    refine (HRi.out w1 (HR.out.below D1.out (Nat.le_refl _))).mono ?_
    rintro e w2 ⟨rfl, hw2⟩
    have b2 : Below w1.heap.size w1 w2 := by rw [hw2]; exact Below.refl _ _
    clear hw2
    have D2 : Hid (Below w.heap.size w w2) := D1.out.trans (b2.mono D1.out.size)
    have Z2 : Hid (w2.heap[w.heap.size]? = some (.cells #[.int .u32 0, .int .u32 0, .int .u32 0, .int .u64 0] 25 (0, 0))) := (b2.block _ (Array.getElem?_eq_some_iff.1 Z1.out).1).trans Z1.out
    clear b2 D1 Z1 HRi
    go_wp2_with (refine wpList_store_row rfl 25 _ _ rfl w.heap.size _ rfl rfl 25 _ Z2.out (by kernel_rfl) rfl (by simp [Value.oneCell']) ?_)
    refine bodyPost_ret (results_open rfl _ _ w.heap.size zh rfl (setRow_heap _ _ _ _ _ _ Z2.out)) rfl ?_
    exact ⟨rfl, below_setRow D2.out (Nat.le_refl _) _⟩
  · clear HV
    unfold hv Rk.kv at *
    simp only at HG HF HU HN ⊢
    go_enter Tryd.func20, Tryd.ntmps20
    go_wp2_with fail
    obtain ⟨w1, hw1⟩ : ∃ w1, w.alloc (.cells #[.int .u32 0, .int .u32 0, .int .u32 0, .int .u64 0] 25) = w1 := ⟨_, rfl⟩
    have D1 : Hid (Below w.heap.size w w1) := by rw [← hw1]; exact (Below.refl _ w).alloc (Nat.le_refl _) _
    have Z1 : Hid (w1.heap[w.heap.size]? = some (.cells #[.int .u32 0, .int .u32 0, .int .u32 0, .int .u64 0] 25 (0, 0))) := by rw [← hw1]; exact heap_alloc_new w _
    rw [hw1]
    clear hw1
    refine (HRi.out w1 (HR.out.below D1.out (Nat.le_refl _))).mono ?_
    rintro e w2 ⟨rfl, hw2⟩
    have b2 : Below w1.heap.size w1 w2 := by rw [hw2]; exact Below.refl _ _
    clear hw2
    have D2 : Hid (Below w.heap.size w w2) := D1.out.trans (b2.mono D1.out.size)
    have Z2 : Hid (w2.heap[w.heap.size]? = some (.cells #[.int .u32 0, .int .u32 0, .int .u32 0, .int .u64 0] 25 (0, 0))) := (b2.block _ (Array.getElem?_eq_some_iff.1 Z1.out).1).trans Z1.out
    clear b2 D1 Z1 HRi
    have q2 : ((b.size : Int) != 256) = true := by simp; omega
    go_wp2_with (refine wpList_store_row rfl 25 _ _ rfl w.heap.size _ rfl rfl 25 _ Z2.out (by kernel_rfl) rfl (by simp [Value.oneCell']) ?_)
    refine bodyPost_ret (results_open rfl _ _ w.heap.size zh rfl (setRow_heap _ _ _ _ _ _ Z2.out)) rfl ?_
    exact ⟨rfl, below_setRow D2.out (Nat.le_refl _) _⟩
  · clear HV
    unfold hv Rk.kv at *
    simp only at HG HF HU HN ⊢
    go_enter Tryd.func20, Tryd.ntmps20
    go_wp2_with fail
    obtain ⟨w1, hw1⟩ : ∃ w1, w.alloc (.cells #[.int .u32 0, .int .u32 0, .int .u32 0, .int .u64 0] 25) = w1 := ⟨_, rfl⟩
    have D1 : Hid (Below w.heap.size w w1) := by rw [← hw1]; exact (Below.refl _ w).alloc (Nat.le_refl _) _
    have Z1 : Hid (w1.heap[w.heap.size]? = some (.cells #[.int .u32 0, .int .u32 0, .int .u32 0, .int .u64 0] 25 (0, 0))) := by rw [← hw1]; exact heap_alloc_new w _
    rw [hw1]
    clear hw1
    refine (HRi.out w1 (HR.out.below D1.out (Nat.le_refl _))).mono ?_
    rintro e w2 ⟨rfl, hw2⟩
    have b2 : Below w1.heap.size w1 w2 := by rw [hw2]; exact Below.refl _ _
    clear hw2
    have D2 : Hid (Below w.heap.size w w2) := D1.out.trans (b2.mono D1.out.size)
    have Z2 : Hid (w2.heap[w.heap.size]? = some (.cells #[.int .u32 0, .int .u32 0, .int .u32 0, .int .u64 0] 25 (0, 0))) := (b2.block _ (Array.getElem?_eq_some_iff.1 Z1.out).1).trans Z1.out
    clear b2 D1 Z1 HRi
    have q2 : (b.size : Int) = 256 := by omega
    have ex := HEX.out hz
    go_wp2_with fail
    refine (HG.out w2).mono ?_
    rintro e w3 ⟨rfl, b3⟩
    have D3 : Hid (Below w.heap.size w w3) := D2.out.trans (b3.mono D2.out.size)
    have Z3 : Hid (w3.heap[w.heap.size]? = some (.cells #[.int .u32 0, .int .u32 0, .int .u32 0, .int .u64 0] 25 (0, 0))) := (b3.block _ (Array.getElem?_eq_some_iff.1 Z2.out).1).trans Z2.out
    clear b3 D2 Z2 HG ex
    have Z3a : Hid ((w3.alloc (.cells #[.int .u32 a, .int .u32 b', .int .u32 c, .int .u64 d] 25)).heap[w.heap.size]? = some (.cells #[.int .u32 0, .int .u32 0, .int .u32 0, .int .u64 0] 25 (0, 0))) := (Below.heap_alloc _ _ _ (Array.getElem?_eq_some_iff.1 Z3.out).1).trans Z3.out
    have D3a : Hid (Below w.heap.size w (w3.alloc (.cells #[.int .u32 a, .int .u32 b', .int .u32 c, .int .u64 d] 25))) := D3.out.alloc D3.out.size _
    go_wp2_with (refine wpList_store_row rfl 25 _ _ rfl w.heap.size _ rfl rfl 25 _ Z3a.out (by kernel_rfl) rfl (by simp [Value.oneCell']) ?_)
    refine bodyPost_ret (results_open rfl _ _ w.heap.size zh rfl (setRow_heap _ _ _ _ _ _ Z3a.out)) rfl ?_
    exact ⟨rfl, below_setRow D3a.out (Nat.le_refl _) _⟩
  · clear HV
    unfold hv Rk.kv at *
    simp only at HG HF HU HN ⊢
    go_enter Tryd.func20, Tryd.ntmps20
    go_wp2_with fail
    obtain ⟨w1, hw1⟩ : ∃ w1, w.alloc (.cells #[.int .u32 0, .int .u32 0, .int .u32 0, .int .u64 0] 25) = w1 := ⟨_, rfl⟩
    have D1 : Hid (Below w.heap.size w w1) := by rw [← hw1]; exact (Below.refl _ w).alloc (Nat.le_refl _) _
    have Z1 : Hid (w1.heap[w.heap.size]? = some (.cells #[.int .u32 0, .int .u32 0, .int .u32 0, .int .u64 0] 25 (0, 0))) := by rw [← hw1]; exact heap_alloc_new w _
    rw [hw1]
    clear hw1
    refine (HRi.out w1 (HR.out.below D1.out (Nat.le_refl _))).mono ?_
    rintro e w2 ⟨rfl, hw2⟩
    have b2 : Below w1.heap.size w1 w2 := by rw [hw2]; exact Below.refl _ _
    clear hw2
    have D2 : Hid (Below w.heap.size w w2) := D1.out.trans (b2.mono D1.out.size)
    have Z2 : Hid (w2.heap[w.heap.size]? = some (.cells #[.int .u32 0, .int .u32 0, .int .u32 0, .int .u64 0] 25 (0, 0))) := (b2.block _ (Array.getElem?_eq_some_iff.1 Z1.out).1).trans Z1.out
    clear b2 D1 Z1 HRi
    have q2 : (b.size : Int) = 256 := by omega
    have ex := HEX.out hz
    go_wp2_with fail
    refine (HG.out w2).mono ?_
    rintro e w3 ⟨rfl, b3⟩
    have D3 : Hid (Below w.heap.size w w3) := D2.out.trans (b3.mono D2.out.size)
    have Z3 : Hid (w3.heap[w.heap.size]? = some (.cells #[.int .u32 0, .int .u32 0, .int .u32 0, .int .u64 0] 25 (0, 0))) := (b3.block _ (Array.getElem?_eq_some_iff.1 Z2.out).1).trans Z2.out
    clear b3 D2 Z2 HG ex
    have Z3a : Hid ((w3.alloc (.cells #[.int .u32 a, .int .u32 b', .int .u32 c, .int .u64 d] 25)).heap[w.heap.size]? = some (.cells #[.int .u32 0, .int .u32 0, .int .u32 0, .int .u64 0] 25 (0, 0))) := (Below.heap_alloc _ _ _ (Array.getElem?_eq_some_iff.1 Z3.out).1).trans Z3.out
    have D3a : Hid (Below w.heap.size w (w3.alloc (.cells #[.int .u32 a, .int .u32 b', .int .u32 c, .int .u64 d] 25))) := D3.out.alloc D3.out.size _
    go_wp2_with fail
    obtain ⟨v3, hv3⟩ : ∃ v3, w3.alloc (.cells #[.int .u32 a, .int .u32 b', .int .u32 c, .int .u64 d] 25) = v3 := ⟨_, rfl⟩
    have X3 : Hid (v3.heap[w3.heap.size]? = some (.cells #[.int .u32 a, .int .u32 b', .int .u32 c, .int .u64 d] 25 (0, 0))) := by rw [← hv3]; exact heap_alloc_new w3 _
    rw [hv3] at Z3a D3a
    rw [hv3]
    clear hv3 D3 Z3
    refine (HF.out v3 (HR.out.below D3a.out (Nat.le_refl _))).mono ?_
    rintro e w4 ⟨rfl, b4⟩
    have D4 : Hid (Below w.heap.size w w4) := D3a.out.trans (b4.mono D3a.out.size)
    have Z4 : Hid (w4.heap[w.heap.size]? = some (.cells #[.int .u32 0, .int .u32 0, .int .u32 0, .int .u64 0] 25 (0, 0))) := (b4.block _ (Array.getElem?_eq_some_iff.1 Z3a.out).1).trans Z3a.out
    have X4 : Hid (w4.heap[w3.heap.size]? = some (.cells #[.int .u32 a, .int .u32 b', .int .u32 c, .int .u64 d] 25 (0, 0))) := (b4.block _ (Array.getElem?_eq_some_iff.1 X3.out).1).trans X3.out
    clear b4 D3a Z3a X3 HF
    have Z4a : Hid ((w4.alloc (.cells #[.int .u32 kg, .string ks] 44)).heap[w.heap.size]? = some (.cells #[.int .u32 0, .int .u32 0, .int .u32 0, .int .u64 0] 25 (0, 0))) := (Below.heap_alloc _ _ _ (Array.getElem?_eq_some_iff.1 Z4.out).1).trans Z4.out
    have D4a : Hid (Below w.heap.size w (w4.alloc (.cells #[.int .u32 kg, .string ks] 44))) := D4.out.alloc D4.out.size _
    have q0 : (oe != 0) = true := by simpa using h0
    go_wp2_with (refine wpList_store_row rfl 25 _ _ rfl w.heap.size _ rfl rfl 25 _ Z4a.out (by kernel_rfl) rfl (by simp [Value.oneCell']) ?_)
    refine bodyPost_ret (results_open rfl _ _ w.heap.size zh rfl (setRow_heap _ _ _ _ _ _ Z4a.out)) rfl ?_
    exact ⟨rfl, below_setRow D4a.out (Nat.le_refl _) _⟩
  · clear HV
    unfold hv Rk.kv at *
    simp only at HG HF HU HN ⊢
    go_enter Tryd.func20, Tryd.ntmps20
    go_wp2_with fail
    obtain ⟨w1, hw1⟩ : ∃ w1, w.alloc (.cells #[.int .u32 0, .int .u32 0, .int .u32 0, .int .u64 0] 25) = w1 := ⟨_, rfl⟩
    have D1 : Hid (Below w.heap.size w w1) := by rw [← hw1]; exact (Below.refl _ w).alloc (Nat.le_refl _) _
    have Z1 : Hid (w1.heap[w.heap.size]? = some (.cells #[.int .u32 0, .int .u32 0, .int .u32 0, .int .u64 0] 25 (0, 0))) := by rw [← hw1]; exact heap_alloc_new w _
    rw [hw1]
    clear hw1
    refine (HRi.out w1 (HR.out.below D1.out (Nat.le_refl _))).mono ?_
    rintro e w2 ⟨rfl, hw2⟩
    have b2 : Below w1.heap.size w1 w2 := by rw [hw2]; exact Below.refl _ _
    clear hw2
    have D2 : Hid (Below w.heap.size w w2) := D1.out.trans (b2.mono D1.out.size)
    have Z2 : Hid (w2.heap[w.heap.size]? = some (.cells #[.int .u32 0, .int .u32 0, .int .u32 0, .int .u64 0] 25 (0, 0))) := (b2.block _ (Array.getElem?_eq_some_iff.1 Z1.out).1).trans Z1.out
    clear b2 D1 Z1 HRi
    have q2 : (b.size : Int) = 256 := by omega
    have ex := HEX.out hz
    go_wp2_with fail
    refine (HG.out w2).mono ?_
    rintro e w3 ⟨rfl, b3⟩
    have D3 : Hid (Below w.heap.size w w3) := D2.out.trans (b3.mono D2.out.size)
    have Z3 : Hid (w3.heap[w.heap.size]? = some (.cells #[.int .u32 0, .int .u32 0, .int .u32 0, .int .u64 0] 25 (0, 0))) := (b3.block _ (Array.getElem?_eq_some_iff.1 Z2.out).1).trans Z2.out
    clear b3 D2 Z2 HG ex
    have Z3a : Hid ((w3.alloc (.cells #[.int .u32 a, .int .u32 b', .int .u32 c, .int .u64 d] 25)).heap[w.heap.size]? = some (.cells #[.int .u32 0, .int .u32 0, .int .u32 0, .int .u64 0] 25 (0, 0))) := (Below.heap_alloc _ _ _ (Array.getElem?_eq_some_iff.1 Z3.out).1).trans Z3.out
    have D3a : Hid (Below w.heap.size w (w3.alloc (.cells #[.int .u32 a, .int .u32 b', .int .u32 c, .int .u64 d] 25))) := D3.out.alloc D3.out.size _
    go_wp2_with fail
    obtain ⟨v3, hv3⟩ : ∃ v3, w3.alloc (.cells #[.int .u32 a, .int .u32 b', .int .u32 c, .int .u64 d] 25) = v3 := ⟨_, rfl⟩
    have X3 : Hid (v3.heap[w3.heap.size]? = some (.cells #[.int .u32 a, .int .u32 b', .int .u32 c, .int .u64 d] 25 (0, 0))) := by rw [← hv3]; exact heap_alloc_new w3 _
    rw [hv3] at Z3a D3a
    rw [hv3]
    clear hv3 D3 Z3
    refine (HF.out v3 (HR.out.below D3a.out (Nat.le_refl _))).mono ?_
    rintro e w4 ⟨rfl, b4⟩
    have D4 : Hid (Below w.heap.size w w4) := D3a.out.trans (b4.mono D3a.out.size)
    have Z4 : Hid (w4.heap[w.heap.size]? = some (.cells #[.int .u32 0, .int .u32 0, .int .u32 0, .int .u64 0] 25 (0, 0))) := (b4.block _ (Array.getElem?_eq_some_iff.1 Z3a.out).1).trans Z3a.out
    have X4 : Hid (w4.heap[w3.heap.size]? = some (.cells #[.int .u32 a, .int .u32 b', .int .u32 c, .int .u64 d] 25 (0, 0))) := (b4.block _ (Array.getElem?_eq_some_iff.1 X3.out).1).trans X3.out
    clear b4 D3a Z3a X3 HF
    have Z4a : Hid ((w4.alloc (.cells #[.int .u32 kg, .string ks] 44)).heap[w.heap.size]? = some (.cells #[.int .u32 0, .int .u32 0, .int .u32 0, .int .u64 0] 25 (0, 0))) := (Below.heap_alloc _ _ _ (Array.getElem?_eq_some_iff.1 Z4.out).1).trans Z4.out
    have D4a : Hid (Below w.heap.size w (w4.alloc (.cells #[.int .u32 kg, .string ks] 44))) := D4.out.alloc D4.out.size _
    have HM2 : Hid _ := HM.out trivial hz
    have HXO2 : Hid _ := HXO.out trivial
    clear HM HXO
    have Y4 : Hid ((w4.alloc (.cells #[.int .u32 kg, .string ks] 44)).heap[w3.heap.size]? = some (.cells #[.int .u32 a, .int .u32 b', .int .u32 c, .int .u64 d] 25 (0, 0))) := (Below.heap_alloc _ _ _ (Array.getElem?_eq_some_iff.1 X4.out).1).trans X4.out
    go_wp2_with fail
    obtain ⟨v4, hv4⟩ : ∃ v4, w4.alloc (.cells #[.int .u32 kg, .string ks] 44) = v4 := ⟨_, rfl⟩
    rw [hv4] at Z4a D4a Y4
    rw [hv4]
    clear hv4 D4 Z4 X4
    refine (HU.out v4 (HT.out.below D4a.out (Nat.le_refl _))).mono ?_
    rintro e w5 ⟨rfl, b5⟩
    have D5 : Hid (Below w.heap.size w w5) := D4a.out.trans (b5.mono D4a.out.size)
    have Z5 : Hid (w5.heap[w.heap.size]? = some (.cells #[.int .u32 0, .int .u32 0, .int .u32 0, .int .u64 0] 25 (0, 0))) := (b5.block _ (Array.getElem?_eq_some_iff.1 Z4a.out).1).trans Z4a.out
    have X5 : Hid (w5.heap[w3.heap.size]? = some (.cells #[.int .u32 a, .int .u32 b', .int .u32 c, .int .u64 d] 25 (0, 0))) := (b5.block _ (Array.getElem?_eq_some_iff.1 Y4.out).1).trans Y4.out
    clear b5 D4a Z4a Y4 HU
    have sl1 := HE1.out hz
    have sl2 := HE2.out hz
    have sl3 := HE3.out hz
    rcases HTK.out with ⟨rfl, ⟨ht, _⟩ | ⟨_, rfl⟩⟩ | ⟨ht, _⟩
    · cases ht
    · clear HTK
      go_wp2_with fail
      refine wp_region_any (by kernel_rfl) ?_
      change wpAny _ _ _ _ _ _ _ (World.drew _)
      obtain ⟨v5, hv5⟩ : ∃ v5, w5.drew = v5 := ⟨_, rfl⟩
      have G5 : Hid (Below w5.heap.size w5 v5) := by rw [← hv5]; exact (Below.refl _ _).drew
      rw [hv5]
      clear hv5
      refine wpAny_take (i := 0) (v := ?_) rfl (by kernel_rfl) (by kernel_rfl) (by kernel_rfl) (fun _ _ _ h => h) (Or.inl ⟨by kernel_rfl, ?_⟩) ?_
      rotate_left
      · intro w
        go_simp
        try with_reducible rfl
      conv in (Act.put _ _ _) => simp only [List.getElem_toArray, List.getElem_cons_succ, List.getElem_cons_zero, Act.put, List.setIfInBounds_toArray, List.set_cons_succ, List.set_cons_zero]
      refine wpAny_take (i := 1) (v := ?_) rfl (by kernel_rfl) (by kernel_rfl) (by kernel_rfl) (fun _ _ _ h => h) (Or.inl ⟨by kernel_rfl, ?_⟩) ?_
      rotate_left
      · intro w
        go_simp
        try with_reducible rfl
      conv in (Act.put _ _ _) => simp only [List.getElem_toArray, List.getElem_cons_succ, List.getElem_cons_zero, Act.put, List.setIfInBounds_toArray, List.set_cons_succ, List.set_cons_zero]
      refine wpAny_take (i := 2) (v := ?_) rfl (by kernel_rfl) (by kernel_rfl) (by kernel_rfl) (fun _ _ _ h => h) (Or.inl ⟨by kernel_rfl, ?_⟩) ?_
      rotate_left
      · intro w
        go_simp
        try with_reducible rfl
      conv in (Act.put _ _ _) => simp only [List.getElem_toArray, List.getElem_cons_succ, List.getElem_cons_zero, Act.put, List.setIfInBounds_toArray, List.set_cons_succ, List.set_cons_zero]
      refine wpAny_take (i := 4) (v := ?_) rfl (by kernel_rfl) (by kernel_rfl) (by kernel_rfl) (fun _ _ _ h => h) (Or.inl ⟨by kernel_rfl, ?_⟩) ?_
      rotate_left
      · intro w
        go_simp
        try with_reducible rfl
      conv in (Act.put _ _ _) => simp only [List.getElem_toArray, List.getElem_cons_succ, List.getElem_cons_zero, Act.put, List.setIfInBounds_toArray, List.set_cons_succ, List.set_cons_zero]
      refine wpAny_take (i := 5) (v := ?_) rfl (by kernel_rfl) (by kernel_rfl) (by kernel_rfl) (fun _ _ _ h => h) (Or.inl ⟨by kernel_rfl, ?_⟩) ?_
      rotate_left
      · intro w
        go_simp
        try with_reducible rfl
      conv in (Act.put _ _ _) => simp only [List.getElem_toArray, List.getElem_cons_succ, List.getElem_cons_zero, Act.put, List.setIfInBounds_toArray, List.set_cons_succ, List.set_cons_zero]
      refine wpAny_ready (rs := [3]) (by kernel_rfl) (by simp) ?_
      refine (AllReady.cons rfl (fun K hK => ?_) AllReady.nil)
      go_simp
      refine (HM2.out v5 (HT.out.below (D5.out.trans (G5.out.mono D5.out.size)) (Nat.le_refl _))).mono ?_
      rintro e w6 ⟨rfl, b6⟩
      have G6 : Hid (Below w5.heap.size w5 w6) := G5.out.trans (b6.mono G5.out.size)
      have D6 : Hid (Below w.heap.size w w6) := D5.out.trans (G6.out.mono D5.out.size)
      have Z6 : Hid (w6.heap[w.heap.size]? = some (.cells #[.int .u32 0, .int .u32 0, .int .u32 0, .int .u64 0] 25 (0, 0))) := (G6.out.block _ (Array.getElem?_eq_some_iff.1 Z5.out).1).trans Z5.out
      have X6 : Hid (w6.heap[w3.heap.size]? = some (.cells #[.int .u32 a, .int .u32 b', .int .u32 c, .int .u64 d] 25 (0, 0))) := (G6.out.block _ (Array.getElem?_eq_some_iff.1 X5.out).1).trans X5.out
      clear b6 G5 HM2 D5 Z5 X5 G6
      refine hK _ _ ?_
      clear hK K
      refine wpAny_take (i := 6) (v := ?_) rfl (by kernel_rfl) (by kernel_rfl) (by kernel_rfl) (fun _ _ _ h => h) (Or.inl ⟨by kernel_rfl, ?_⟩) ?_
      rotate_left
      · intro w
        go_simp
        try with_reducible rfl
      conv in (Act.put _ _ _) => simp only [List.getElem_toArray, List.getElem_cons_succ, List.getElem_cons_zero, Act.put, List.setIfInBounds_toArray, List.set_cons_succ, List.set_cons_zero]
      refine wpAny_done (by kernel_rfl) ?_ _
      go_wp2_with fail
      refine wp_region_any (by kernel_rfl) ?_
      change wpAny _ _ _ _ _ _ _ (World.drew _)
      obtain ⟨v6, hv6⟩ : ∃ v6, w6.drew = v6 := ⟨_, rfl⟩
      have G6 : Hid (Below w6.heap.size w6 v6) := by rw [← hv6]; exact (Below.refl _ _).drew
      rw [hv6]
      clear hv6
      obtain ⟨ca, cb, cc, cd, _, _, _, _⟩ := four_cells ((G6.out.block _ (Array.getElem?_eq_some_iff.1 X6.out).1).trans X6.out)
      refine wpAny_take (i := 0) (v := ?_) rfl (by kernel_rfl) (by kernel_rfl) (by kernel_rfl) (fun _ _ _ h => h) (Or.inl ⟨by kernel_rfl, ?_⟩) ?_
      rotate_left
      · intro w
        go_simp
        try with_reducible rfl
      conv in (Act.put _ _ _) => simp only [List.getElem_toArray, List.getElem_cons_succ, List.getElem_cons_zero, Act.put, List.setIfInBounds_toArray, List.set_cons_succ, List.set_cons_zero]
      refine wpAny_take (i := 3) (v := ?_) rfl (by kernel_rfl) (by kernel_rfl) (by kernel_rfl) (fun _ _ _ h => h) (Or.inl ⟨by kernel_rfl, ?_⟩) ?_
      rotate_left
      · intro w
        go_simp
        try with_reducible rfl
      conv in (Act.put _ _ _) => simp only [List.getElem_toArray, List.getElem_cons_succ, List.getElem_cons_zero, Act.put, List.setIfInBounds_toArray, List.set_cons_succ, List.set_cons_zero]
      refine wpAny_take (i := 4) (v := ?_) rfl (by kernel_rfl) (by kernel_rfl) (by kernel_rfl) (fun _ _ _ h => h) (Or.inl ⟨by kernel_rfl, ?_⟩) ?_
      rotate_left
      · intro w
        go_simp
        try with_reducible rfl
      conv in (Act.put _ _ _) => simp only [List.getElem_toArray, List.getElem_cons_succ, List.getElem_cons_zero, Act.put, List.setIfInBounds_toArray, List.set_cons_succ, List.set_cons_zero]
      refine wpAny_ready (rs := [1]) (by kernel_rfl) (by simp) ?_
      refine (AllReady.cons rfl (fun K hK => ?_) AllReady.nil)
      go_simp
      refine hK _ _ ?_
      clear hK K
      clear ca cb cc cd
      refine wpAny_ready (rs := [2]) (by kernel_rfl) (by simp) ?_
      refine (AllReady.cons rfl (fun K hK => ?_) AllReady.nil)
      go_simp
      refine (HN.out v6).mono ?_
      rintro e w7 ⟨rfl, b7⟩
      have G7 : Hid (Below w6.heap.size w6 w7) := G6.out.trans (b7.mono G6.out.size)
      clear b7 G6 HN
      refine hK _ _ ?_
      clear hK K
      refine wpAny_ready (rs := [5]) (by kernel_rfl) (by simp) ?_
      refine (AllReady.cons rfl (fun K hK => ?_) AllReady.nil)
      go_simp
      refine (HXO2.out w7).mono ?_
      rintro e w8 ⟨rfl, b8⟩
      have G8 : Hid (Below w6.heap.size w6 w8) := G7.out.trans (b8.mono G7.out.size)
      clear b8 G7 HXO2
      refine hK _ _ ?_
      clear hK K
      refine wpAny_take (i := 6) (v := ?_) rfl (by kernel_rfl) (by kernel_rfl) (by kernel_rfl) (fun _ _ _ h => h) (Or.inl ⟨by kernel_rfl, ?_⟩) ?_
      rotate_left
      · intro w
        go_simp
        try with_reducible rfl
      conv in (Act.put _ _ _) => simp only [List.getElem_toArray, List.getElem_cons_succ, List.getElem_cons_zero, Act.put, List.setIfInBounds_toArray, List.set_cons_succ, List.set_cons_zero]
      refine wpAny_take (i := 7) (v := ?_) rfl (by kernel_rfl) (by kernel_rfl) (by kernel_rfl) (fun _ _ _ h => h) (Or.inl ⟨by kernel_rfl, ?_⟩) ?_
      rotate_left
      · intro w
        go_simp
        try with_reducible rfl
      conv in (Act.put _ _ _) => simp only [List.getElem_toArray, List.getElem_cons_succ, List.getElem_cons_zero, Act.put, List.setIfInBounds_toArray, List.set_cons_succ, List.set_cons_zero]
      refine wpAny_take (i := 8) (v := ?_) rfl (by kernel_rfl) (by kernel_rfl) (by kernel_rfl) (fun _ _ _ h => h) (Or.inl ⟨by kernel_rfl, ?_⟩) ?_
      rotate_left
      · intro w
        go_simp
        try with_reducible rfl
      conv in (Act.put _ _ _) => simp only [List.getElem_toArray, List.getElem_cons_succ, List.getElem_cons_zero, Act.put, List.setIfInBounds_toArray, List.set_cons_succ, List.set_cons_zero]
      refine wpAny_ready (rs := [9]) (by kernel_rfl) (by simp) ?_
      refine (AllReady.cons rfl (fun K hK => ?_) AllReady.nil)
      go_simp
      refine hK _ _ ?_
      clear hK K
      refine wpAny_ready (rs := [10]) (by kernel_rfl) (by simp) ?_
      refine (AllReady.cons rfl (fun K hK => ?_) AllReady.nil)
      go_simp
      refine hK _ _ ?_
      clear hK K
      refine wpAny_done (by kernel_rfl) ?_ _
      go_wp2_with fail
      refine (HUP.out w8).mono ?_
      rintro e w9 ⟨rfl, b9⟩
      have G9 : Hid (Below w6.heap.size w6 w9) := G8.out.trans (b9.mono G8.out.size)
      have D9 : Hid (Below w.heap.size w w9) := D6.out.trans (G9.out.mono D6.out.size)
      have Z9 : Hid (w9.heap[w.heap.size]? = some (.cells #[.int .u32 0, .int .u32 0, .int .u32 0, .int .u64 0] 25 (0, 0))) := (G9.out.block _ (Array.getElem?_eq_some_iff.1 Z6.out).1).trans Z6.out
      have X9 : Hid (w9.heap[w3.heap.size]? = some (.cells #[.int .u32 a, .int .u32 b', .int .u32 c, .int .u64 d] 25 (0, 0))) := (G9.out.block _ (Array.getElem?_eq_some_iff.1 X6.out).1).trans X6.out
      clear b9 G8 G9 HUP D6 Z6 X6
      go_wp2_with (refine wpList_store_row rfl 25 _ _ rfl w.heap.size _ rfl rfl 25 _ Z9.out (by kernel_rfl) rfl (by simp [Value.oneCell']) ?_)
      refine bodyPost_ret (results_open rfl _ _ w.heap.size zh rfl (setRow_heap _ _ _ _ _ _ Z9.out)) rfl ?_
      exact ⟨rfl, below_setRow D9.out (Nat.le_refl _) _⟩
    · clear HTK
      go_wp2_with fail
      refine wp_region_any (by kernel_rfl) ?_
      change wpAny _ _ _ _ _ _ _ (World.drew _)
      obtain ⟨v5, hv5⟩ : ∃ v5, w5.drew = v5 := ⟨_, rfl⟩
      have G5 : Hid (Below w5.heap.size w5 v5) := by rw [← hv5]; exact (Below.refl _ _).drew
      rw [hv5]
      clear hv5
      refine wpAny_take (i := 0) (v := ?_) rfl (by kernel_rfl) (by kernel_rfl) (by kernel_rfl) (fun _ _ _ h => h) (Or.inl ⟨by kernel_rfl, ?_⟩) ?_
      rotate_left
      · intro w
        go_simp
        try with_reducible rfl
      conv in (Act.put _ _ _) => simp only [List.getElem_toArray, List.getElem_cons_succ, List.getElem_cons_zero, Act.put, List.setIfInBounds_toArray, List.set_cons_succ, List.set_cons_zero]
      refine wpAny_take (i := 1) (v := ?_) rfl (by kernel_rfl) (by kernel_rfl) (by kernel_rfl) (fun _ _ _ h => h) (Or.inl ⟨by kernel_rfl, ?_⟩) ?_
      rotate_left
      · intro w
        go_simp
        try with_reducible rfl
      conv in (Act.put _ _ _) => simp only [List.getElem_toArray, List.getElem_cons_succ, List.getElem_cons_zero, Act.put, List.setIfInBounds_toArray, List.set_cons_succ, List.set_cons_zero]
      refine wpAny_take (i := 2) (v := ?_) rfl (by kernel_rfl) (by kernel_rfl) (by kernel_rfl) (fun _ _ _ h => h) (Or.inl ⟨by kernel_rfl, ?_⟩) ?_
      rotate_left
      · intro w
        go_simp
        try with_reducible rfl
      conv in (Act.put _ _ _) => simp only [List.getElem_toArray, List.getElem_cons_succ, List.getElem_cons_zero, Act.put, List.setIfInBounds_toArray, List.set_cons_succ, List.set_cons_zero]
      refine wpAny_take (i := 4) (v := ?_) rfl (by kernel_rfl) (by kernel_rfl) (by kernel_rfl) (fun _ _ _ h => h) (Or.inl ⟨by kernel_rfl, ?_⟩) ?_
      rotate_left
      · intro w
        go_simp
        try with_reducible rfl
      conv in (Act.put _ _ _) => simp only [List.getElem_toArray, List.getElem_cons_succ, List.getElem_cons_zero, Act.put, List.setIfInBounds_toArray, List.set_cons_succ, List.set_cons_zero]
      refine wpAny_take (i := 5) (v := ?_) rfl (by kernel_rfl) (by kernel_rfl) (by kernel_rfl) (fun _ _ _ h => h) (Or.inl ⟨by kernel_rfl, ?_⟩) ?_
      rotate_left
      · intro w
        go_simp
        try with_reducible rfl
      conv in (Act.put _ _ _) => simp only [List.getElem_toArray, List.getElem_cons_succ, List.getElem_cons_zero, Act.put, List.setIfInBounds_toArray, List.set_cons_succ, List.set_cons_zero]
      refine wpAny_ready (rs := [3]) (by kernel_rfl) (by simp) ?_
      refine (AllReady.cons rfl (fun K hK => ?_) AllReady.nil)
      go_simp
      refine (HM2.out v5 (HT.out.below (D5.out.trans (G5.out.mono D5.out.size)) (Nat.le_refl _))).mono ?_
      rintro e w6 ⟨rfl, b6⟩
      have G6 : Hid (Below w5.heap.size w5 w6) := G5.out.trans (b6.mono G5.out.size)
      have D6 : Hid (Below w.heap.size w w6) := D5.out.trans (G6.out.mono D5.out.size)
      have Z6 : Hid (w6.heap[w.heap.size]? = some (.cells #[.int .u32 0, .int .u32 0, .int .u32 0, .int .u64 0] 25 (0, 0))) := (G6.out.block _ (Array.getElem?_eq_some_iff.1 Z5.out).1).trans Z5.out
      have X6 : Hid (w6.heap[w3.heap.size]? = some (.cells #[.int .u32 a, .int .u32 b', .int .u32 c, .int .u64 d] 25 (0, 0))) := (G6.out.block _ (Array.getElem?_eq_some_iff.1 X5.out).1).trans X5.out
      clear b6 G5 HM2 D5 Z5 X5 G6
      refine hK _ _ ?_
      clear hK K
      refine wpAny_take (i := 6) (v := ?_) rfl (by kernel_rfl) (by kernel_rfl) (by kernel_rfl) (fun _ _ _ h => h) (Or.inl ⟨by kernel_rfl, ?_⟩) ?_
      rotate_left
      · intro w
        go_simp
        try with_reducible rfl
      conv in (Act.put _ _ _) => simp only [List.getElem_toArray, List.getElem_cons_succ, List.getElem_cons_zero, Act.put, List.setIfInBounds_toArray, List.set_cons_succ, List.set_cons_zero]
      refine wpAny_done (by kernel_rfl) ?_ _
      go_wp2_with (refine wpList_store_row rfl 25 _ _ rfl w.heap.size _ rfl rfl 25 _ Z6.out (by kernel_rfl) rfl (by simp [Value.oneCell']) ?_)
      refine bodyPost_ret (results_open rfl _ _ w.heap.size zh rfl (setRow_heap _ _ _ _ _ _ Z6.out)) rfl ?_
      exact ⟨rfl, below_setRow D6.out (Nat.le_refl _) _⟩
  · clear HV
    unfold hv Rk.kv at *
    simp only at HG HF HU HN ⊢
    go_enter Tryd.func20, Tryd.ntmps20
    go_wp2_with fail
    obtain ⟨w1, hw1⟩ : ∃ w1, w.alloc (.cells #[.int .u32 0, .int .u32 0, .int .u32 0, .int .u64 0] 25) = w1 := ⟨_, rfl⟩
    have D1 : Hid (Below w.heap.size w w1) := by rw [← hw1]; exact (Below.refl _ w).alloc (Nat.le_refl _) _
    have Z1 : Hid (w1.heap[w.heap.size]? = some (.cells #[.int .u32 0, .int .u32 0, .int .u32 0, .int .u64 0] 25 (0, 0))) := by rw [← hw1]; exact heap_alloc_new w _
    rw [hw1]
    clear hw1
    refine (HRi.out w1 (HR.out.below D1.out (Nat.le_refl _))).mono ?_
    rintro e w2 ⟨rfl, hw2⟩
    have b2 : Below w1.heap.size w1 w2 := by rw [hw2]; exact Below.refl _ _
    clear hw2
    have D2 : Hid (Below w.heap.size w w2) := D1.out.trans (b2.mono D1.out.size)
    have Z2 : Hid (w2.heap[w.heap.size]? = some (.cells #[.int .u32 0, .int .u32 0, .int .u32 0, .int .u64 0] 25 (0, 0))) := (b2.block _ (Array.getElem?_eq_some_iff.1 Z1.out).1).trans Z1.out
    clear b2 D1 Z1 HRi
    have q2 : (b.size : Int) = 256 := by omega
    have ex := HEX.out hz
    go_wp2_with fail
    refine (HG.out w2).mono ?_
    rintro e w3 ⟨rfl, b3⟩
    have D3 : Hid (Below w.heap.size w w3) := D2.out.trans (b3.mono D2.out.size)
    have Z3 : Hid (w3.heap[w.heap.size]? = some (.cells #[.int .u32 0, .int .u32 0, .int .u32 0, .int .u64 0] 25 (0, 0))) := (b3.block _ (Array.getElem?_eq_some_iff.1 Z2.out).1).trans Z2.out
    clear b3 D2 Z2 HG ex
    have Z3a : Hid ((w3.alloc (.cells #[.int .u32 a, .int .u32 b', .int .u32 c, .int .u64 d] 25)).heap[w.heap.size]? = some (.cells #[.int .u32 0, .int .u32 0, .int .u32 0, .int .u64 0] 25 (0, 0))) := (Below.heap_alloc _ _ _ (Array.getElem?_eq_some_iff.1 Z3.out).1).trans Z3.out
    have D3a : Hid (Below w.heap.size w (w3.alloc (.cells #[.int .u32 a, .int .u32 b', .int .u32 c, .int .u64 d] 25))) := D3.out.alloc D3.out.size _
    go_wp2_with fail
    obtain ⟨v3, hv3⟩ : ∃ v3, w3.alloc (.cells #[.int .u32 a, .int .u32 b', .int .u32 c, .int .u64 d] 25) = v3 := ⟨_, rfl⟩
    have X3 : Hid (v3.heap[w3.heap.size]? = some (.cells #[.int .u32 a, .int .u32 b', .int .u32 c, .int .u64 d] 25 (0, 0))) := by rw [← hv3]; exact heap_alloc_new w3 _
    rw [hv3] at Z3a D3a
    rw [hv3]
    clear hv3 D3 Z3
    refine (HF.out v3 (HR.out.below D3a.out (Nat.le_refl _))).mono ?_
    rintro e w4 ⟨rfl, b4⟩
    have D4 : Hid (Below w.heap.size w w4) := D3a.out.trans (b4.mono D3a.out.size)
    have Z4 : Hid (w4.heap[w.heap.size]? = some (.cells #[.int .u32 0, .int .u32 0, .int .u32 0, .int .u64 0] 25 (0, 0))) := (b4.block _ (Array.getElem?_eq_some_iff.1 Z3a.out).1).trans Z3a.out
    have X4 : Hid (w4.heap[w3.heap.size]? = some (.cells #[.int .u32 a, .int .u32 b', .int .u32 c, .int .u64 d] 25 (0, 0))) := (b4.block _ (Array.getElem?_eq_some_iff.1 X3.out).1).trans X3.out
    clear b4 D3a Z3a X3 HF
    have Z4a : Hid ((w4.alloc (.cells #[.int .u32 kg, .string ks] 44)).heap[w.heap.size]? = some (.cells #[.int .u32 0, .int .u32 0, .int .u32 0, .int .u64 0] 25 (0, 0))) := (Below.heap_alloc _ _ _ (Array.getElem?_eq_some_iff.1 Z4.out).1).trans Z4.out
    have D4a : Hid (Below w.heap.size w (w4.alloc (.cells #[.int .u32 kg, .string ks] 44))) := D4.out.alloc D4.out.size _
    have HM2 : Hid _ := HM.out trivial hz
    have HXO2 : Hid _ := HXO.out trivial
    clear HM HXO
    have Y4 : Hid ((w4.alloc (.cells #[.int .u32 kg, .string ks] 44)).heap[w3.heap.size]? = some (.cells #[.int .u32 a, .int .u32 b', .int .u32 c, .int .u64 d] 25 (0, 0))) := (Below.heap_alloc _ _ _ (Array.getElem?_eq_some_iff.1 X4.out).1).trans X4.out
    go_wp2_with fail
    obtain ⟨v4, hv4⟩ : ∃ v4, w4.alloc (.cells #[.int .u32 kg, .string ks] 44) = v4 := ⟨_, rfl⟩
    rw [hv4] at Z4a D4a Y4
    rw [hv4]
    clear hv4 D4 Z4 X4
    refine (HU.out v4 (HT.out.below D4a.out (Nat.le_refl _))).mono ?_
    rintro e w5 ⟨rfl, b5⟩
    have D5 : Hid (Below w.heap.size w w5) := D4a.out.trans (b5.mono D4a.out.size)
    have Z5 : Hid (w5.heap[w.heap.size]? = some (.cells #[.int .u32 0, .int .u32 0, .int .u32 0, .int .u64 0] 25 (0, 0))) := (b5.block _ (Array.getElem?_eq_some_iff.1 Z4a.out).1).trans Z4a.out
    have X5 : Hid (w5.heap[w3.heap.size]? = some (.cells #[.int .u32 a, .int .u32 b', .int .u32 c, .int .u64 d] 25 (0, 0))) := (b5.block _ (Array.getElem?_eq_some_iff.1 Y4.out).1).trans Y4.out
    clear b5 D4a Z4a Y4 HU
    have sl1 := HE1.out hz
    have sl2 := HE2.out hz
    have sl3 := HE3.out hz
    rcases HTK.out with ⟨rfl, ⟨_, rfl, rfl⟩ | ⟨ht, _⟩⟩ | ⟨_, ht⟩
    · clear HTK
      go_wp2_with fail
      refine wp_region_any (by kernel_rfl) ?_
      change wpAny _ _ _ _ _ _ _ (World.drew _)
      obtain ⟨v5, hv5⟩ : ∃ v5, w5.drew = v5 := ⟨_, rfl⟩
      have G5 : Hid (Below w5.heap.size w5 v5) := by rw [← hv5]; exact (Below.refl _ _).drew
      rw [hv5]
      clear hv5
      refine wpAny_take (i := 0) (v := ?_) rfl (by kernel_rfl) (by kernel_rfl) (by kernel_rfl) (fun _ _ _ h => h) (Or.inl ⟨by kernel_rfl, ?_⟩) ?_
      rotate_left
      · intro w
        go_simp
        try with_reducible rfl
      conv in (Act.put _ _ _) => simp only [List.getElem_toArray, List.getElem_cons_succ, List.getElem_cons_zero, Act.put, List.setIfInBounds_toArray, List.set_cons_succ, List.set_cons_zero]
      refine wpAny_take (i := 1) (v := ?_) rfl (by kernel_rfl) (by kernel_rfl) (by kernel_rfl) (fun _ _ _ h => h) (Or.inl ⟨by kernel_rfl, ?_⟩) ?_
      rotate_left
      · intro w
        go_simp
        try with_reducible rfl
      conv in (Act.put _ _ _) => simp only [List.getElem_toArray, List.getElem_cons_succ, List.getElem_cons_zero, Act.put, List.setIfInBounds_toArray, List.set_cons_succ, List.set_cons_zero]
      refine wpAny_take (i := 2) (v := ?_) rfl (by kernel_rfl) (by kernel_rfl) (by kernel_rfl) (fun _ _ _ h => h) (Or.inl ⟨by kernel_rfl, ?_⟩) ?_
      rotate_left
      · intro w
        go_simp
        try with_reducible rfl
      conv in (Act.put _ _ _) => simp only [List.getElem_toArray, List.getElem_cons_succ, List.getElem_cons_zero, Act.put, List.setIfInBounds_toArray, List.set_cons_succ, List.set_cons_zero]
      refine wpAny_take (i := 4) (v := ?_) rfl (by kernel_rfl) (by kernel_rfl) (by kernel_rfl) (fun _ _ _ h => h) (Or.inl ⟨by kernel_rfl, ?_⟩) ?_
      rotate_left
      · intro w
        go_simp
        try with_reducible rfl
      conv in (Act.put _ _ _) => simp only [List.getElem_toArray, List.getElem_cons_succ, List.getElem_cons_zero, Act.put, List.setIfInBounds_toArray, List.set_cons_succ, List.set_cons_zero]
      refine wpAny_take (i := 5) (v := ?_) rfl (by kernel_rfl) (by kernel_rfl) (by kernel_rfl) (fun _ _ _ h => h) (Or.inl ⟨by kernel_rfl, ?_⟩) ?_
      rotate_left
      · intro w
        go_simp
        try with_reducible rfl
      conv in (Act.put _ _ _) => simp only [List.getElem_toArray, List.getElem_cons_succ, List.getElem_cons_zero, Act.put, List.setIfInBounds_toArray, List.set_cons_succ, List.set_cons_zero]
      refine wpAny_ready (rs := [3]) (by kernel_rfl) (by simp) ?_
      refine (AllReady.cons rfl (fun K hK => ?_) AllReady.nil)
      go_simp
      refine (HM2.out v5 (HT.out.below (D5.out.trans (G5.out.mono D5.out.size)) (Nat.le_refl _))).mono ?_
      rintro e w6 ⟨rfl, b6⟩
      have G6 : Hid (Below w5.heap.size w5 w6) := G5.out.trans (b6.mono G5.out.size)
      have D6 : Hid (Below w.heap.size w w6) := D5.out.trans (G6.out.mono D5.out.size)
      have Z6 : Hid (w6.heap[w.heap.size]? = some (.cells #[.int .u32 0, .int .u32 0, .int .u32 0, .int .u64 0] 25 (0, 0))) := (G6.out.block _ (Array.getElem?_eq_some_iff.1 Z5.out).1).trans Z5.out
      have X6 : Hid (w6.heap[w3.heap.size]? = some (.cells #[.int .u32 a, .int .u32 b', .int .u32 c, .int .u64 d] 25 (0, 0))) := (G6.out.block _ (Array.getElem?_eq_some_iff.1 X5.out).1).trans X5.out
      clear b6 G5 HM2 D5 Z5 X5 G6
      refine hK _ _ ?_
      clear hK K
      refine wpAny_take (i := 6) (v := ?_) rfl (by kernel_rfl) (by kernel_rfl) (by kernel_rfl) (fun _ _ _ h => h) (Or.inl ⟨by kernel_rfl, ?_⟩) ?_
      rotate_left
      · intro w
        go_simp
        try with_reducible rfl
      conv in (Act.put _ _ _) => simp only [List.getElem_toArray, List.getElem_cons_succ, List.getElem_cons_zero, Act.put, List.setIfInBounds_toArray, List.set_cons_succ, List.set_cons_zero]
      refine wpAny_done (by kernel_rfl) ?_ _
      go_wp2_with fail
      refine wp_region_any (by kernel_rfl) ?_
      change wpAny _ _ _ _ _ _ _ (World.drew _)
      obtain ⟨v6, hv6⟩ : ∃ v6, w6.drew = v6 := ⟨_, rfl⟩
      have G6 : Hid (Below w6.heap.size w6 v6) := by rw [← hv6]; exact (Below.refl _ _).drew
      rw [hv6]
      clear hv6
      obtain ⟨ca, cb, cc, cd, _, _, _, _⟩ := four_cells ((G6.out.block _ (Array.getElem?_eq_some_iff.1 X6.out).1).trans X6.out)
      refine wpAny_take (i := 0) (v := ?_) rfl (by kernel_rfl) (by kernel_rfl) (by kernel_rfl) (fun _ _ _ h => h) (Or.inl ⟨by kernel_rfl, ?_⟩) ?_
      rotate_left
      · intro w
        go_simp
        try with_reducible rfl
      conv in (Act.put _ _ _) => simp only [List.getElem_toArray, List.getElem_cons_succ, List.getElem_cons_zero, Act.put, List.setIfInBounds_toArray, List.set_cons_succ, List.set_cons_zero]
      refine wpAny_take (i := 3) (v := ?_) rfl (by kernel_rfl) (by kernel_rfl) (by kernel_rfl) (fun _ _ _ h => h) (Or.inl ⟨by kernel_rfl, ?_⟩) ?_
      rotate_left
      · intro w
        go_simp
        try with_reducible rfl
      conv in (Act.put _ _ _) => simp only [List.getElem_toArray, List.getElem_cons_succ, List.getElem_cons_zero, Act.put, List.setIfInBounds_toArray, List.set_cons_succ, List.set_cons_zero]
      refine wpAny_take (i := 4) (v := ?_) rfl (by kernel_rfl) (by kernel_rfl) (by kernel_rfl) (fun _ _ _ h => h) (Or.inl ⟨by kernel_rfl, ?_⟩) ?_
      rotate_left
      · intro w
        go_simp
        try with_reducible rfl
      conv in (Act.put _ _ _) => simp only [List.getElem_toArray, List.getElem_cons_succ, List.getElem_cons_zero, Act.put, List.setIfInBounds_toArray, List.set_cons_succ, List.set_cons_zero]
      refine wpAny_ready (rs := [1]) (by kernel_rfl) (by simp) ?_
      refine (AllReady.cons rfl (fun K hK => ?_) AllReady.nil)
      go_simp
      refine hK _ _ ?_
      clear hK K
      clear ca cb cc cd
      refine wpAny_ready (rs := [2]) (by kernel_rfl) (by simp) ?_
      refine (AllReady.cons rfl (fun K hK => ?_) AllReady.nil)
      go_simp
      refine (HN.out v6).mono ?_
      rintro e w7 ⟨rfl, b7⟩
      have G7 : Hid (Below w6.heap.size w6 w7) := G6.out.trans (b7.mono G6.out.size)
      clear b7 G6 HN
      refine hK _ _ ?_
      clear hK K
      refine wpAny_ready (rs := [5]) (by kernel_rfl) (by simp) ?_
      refine (AllReady.cons rfl (fun K hK => ?_) AllReady.nil)
      go_simp
      refine (HXO2.out w7).mono ?_
      rintro e w8 ⟨rfl, b8⟩
      have G8 : Hid (Below w6.heap.size w6 w8) := G7.out.trans (b8.mono G7.out.size)
      clear b8 G7 HXO2
      refine hK _ _ ?_
      clear hK K
      refine wpAny_take (i := 6) (v := ?_) rfl (by kernel_rfl) (by kernel_rfl) (by kernel_rfl) (fun _ _ _ h => h) (Or.inl ⟨by kernel_rfl, ?_⟩) ?_
      rotate_left
      · intro w
        go_simp
        try with_reducible rfl
      conv in (Act.put _ _ _) => simp only [List.getElem_toArray, List.getElem_cons_succ, List.getElem_cons_zero, Act.put, List.setIfInBounds_toArray, List.set_cons_succ, List.set_cons_zero]
      refine wpAny_take (i := 7) (v := ?_) rfl (by kernel_rfl) (by kernel_rfl) (by kernel_rfl) (fun _ _ _ h => h) (Or.inl ⟨by kernel_rfl, ?_⟩) ?_
      rotate_left
      · intro w
        go_simp
        try with_reducible rfl
      conv in (Act.put _ _ _) => simp only [List.getElem_toArray, List.getElem_cons_succ, List.getElem_cons_zero, Act.put, List.setIfInBounds_toArray, List.set_cons_succ, List.set_cons_zero]
      refine wpAny_take (i := 8) (v := ?_) rfl (by kernel_rfl) (by kernel_rfl) (by kernel_rfl) (fun _ _ _ h => h) (Or.inl ⟨by kernel_rfl, ?_⟩) ?_
      rotate_left
      · intro w
        go_simp
        try with_reducible rfl
      conv in (Act.put _ _ _) => simp only [List.getElem_toArray, List.getElem_cons_succ, List.getElem_cons_zero, Act.put, List.setIfInBounds_toArray, List.set_cons_succ, List.set_cons_zero]
      refine wpAny_ready (rs := [9]) (by kernel_rfl) (by simp) ?_
      refine (AllReady.cons rfl (fun K hK => ?_) AllReady.nil)
      go_simp
      refine hK _ _ ?_
      clear hK K
      refine wpAny_ready (rs := [10]) (by kernel_rfl) (by simp) ?_
      refine (AllReady.cons rfl (fun K hK => ?_) AllReady.nil)
      go_simp
      refine hK _ _ ?_
      clear hK K
      refine wpAny_done (by kernel_rfl) ?_ _
      go_wp2_with fail
      refine (HUP.out w8).mono ?_
      rintro e w9 ⟨rfl, b9⟩
      have G9 : Hid (Below w6.heap.size w6 w9) := G8.out.trans (b9.mono G8.out.size)
      have D9 : Hid (Below w.heap.size w w9) := D6.out.trans (G9.out.mono D6.out.size)
      have Z9 : Hid (w9.heap[w.heap.size]? = some (.cells #[.int .u32 0, .int .u32 0, .int .u32 0, .int .u64 0] 25 (0, 0))) := (G9.out.block _ (Array.getElem?_eq_some_iff.1 Z6.out).1).trans Z6.out
      have X9 : Hid (w9.heap[w3.heap.size]? = some (.cells #[.int .u32 a, .int .u32 b', .int .u32 c, .int .u64 d] 25 (0, 0))) := (G9.out.block _ (Array.getElem?_eq_some_iff.1 X6.out).1).trans X6.out
      clear b9 G8 G9 HUP D6 Z6 X6
      go_wp2_with (first | (refine wpList_load_row rfl 25 _ rfl w3.heap.size rfl 25 _ (0, 0) _ X9.out Tryd.underlying25 rfl (by kernel_rfl) ?_) | (refine wpList_store_row rfl 25 _ _ rfl w.heap.size _ rfl rfl 25 _ Z9.out (by kernel_rfl) rfl (by simp [Value.oneCell']) ?_))
      refine bodyPost_ret (results_open rfl _ _ w.heap.size (a, b', c, d) rfl (setRow_heap _ _ _ _ _ _ Z9.out)) rfl ?_
      exact ⟨rfl, below_setRow D9.out (Nat.le_refl _) _⟩
    · cases ht
    · cases ht
end Go.Proofs.YtaoadopnhphjbaaDoor.Rs
