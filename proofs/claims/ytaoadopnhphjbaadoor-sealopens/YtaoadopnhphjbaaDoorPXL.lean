/- The reference's Seal. -/
import Derived.Test.YtaoadopnhphjbaaDoorPXK
namespace Go.Proofs.YtaoadopnhphjbaaDoor.Rs
open Go.RowKit Go.Lib
set_option maxRecDepth 100000 in
set_option maxHeartbeats 2000000 in
theorem rSeal_any (Kt : Nat → Int) (l : List Rk.Ky) (o : Option Addr) (cap : Nat) (h : Hd) (hf : fits h) (s : ByteArray) (w : World) (hr : Rk.Ring w o cap l) (hT : Tr Kt w) :
    Calls Tryd.prog 18 #[.slice o l.length cap, hv h, .string s] w fun e w' => e = .returned (.tuple #[.string (sV Kt l h s), .int .i64 (sE l h s)]) ∧ Below w.heap.size w w' := by
  have HF : Hid (∀ W, Rk.Ring W o cap l → Calls Tryd.prog 30 #[.slice o l.length cap, .int .u32 h.2.1] W fun e w' => e = .returned (.tuple #[Rk.kv (Rk.fkS l h.2.1), .int .i64 (Rk.feS l h.2.1)]) ∧ Below W.heap.size W w') := fun W hW => Rk.refFind_any l h.2.1 o cap W hW
  have HB : Hid (Rk.feS l h.2.1 = 0 → ∀ W, Tr Kt W → Calls Tryd.prog 32 #[Rk.kv (Rk.fkS l h.2.1), hv h, .string (Rp.bodyS s)] W fun e w' => e = .returned (.string (putS h ++ Ra.xorS (Rk.sealS Kt (Rk.fkS l h.2.1)) (nonceS h) (Rp.bodyS s))) ∧ Below W.heap.size W w') := fun h0 W hW =>
    rBound_any Kt _ (fe_zero l _ h0).2.2.2 h hf _ (Rp.body_size s) W hW
  have HU : Hid (∀ W, Tr Kt W → Calls Tryd.prog 33 #[Rk.kv (Rk.fkS l h.2.1)] W fun e w' => e = .returned (.tuple #[.string (Rk.sealS Kt (Rk.fkS l h.2.1)), .string (Rk.bindS Kt (Rk.fkS l h.2.1)), .int .i64 (Rk.subE (Rk.fkS l h.2.1))]) ∧ Below W.heap.size W w') := fun W ⟨_, _, h1⟩ => Rk.refSubs_any Kt _ W h1
  have zbo : (putS h ++ Ra.xorS (Rk.sealS Kt (Rk.fkS l h.2.1)) (nonceS h) (Rp.bodyS s)).size = 224 := by rw [ByteArray.size_append, put_size, Ra.xorS_size, Rp.body_size]
  have HM : Hid (Rk.feS l h.2.1 = 0 → ∀ W, Tr Kt W → Calls Tryd.prog 34 #[.string (Rk.bindS Kt (Rk.fkS l h.2.1)), .string (putS h ++ Ra.xorS (Rk.sealS Kt (Rk.fkS l h.2.1)) (nonceS h) (Rp.bodyS s))] W fun e w' => e = .returned (.string (macS Kt (Rk.bindS Kt (Rk.fkS l h.2.1)) (putS h ++ Ra.xorS (Rk.sealS Kt (Rk.fkS l h.2.1)) (nonceS h) (Rp.bodyS s)))) ∧ Below W.heap.size W w') := fun h0 W ⟨_, _, h1⟩ =>
    refMac_any Kt _ _ (by rw [bind_size Kt _ (fe_zero l _ h0).2.2.2]; omega) (by omega) W h1
  have zma : (macS Kt (Rk.bindS Kt (Rk.fkS l h.2.1)) (putS h ++ Ra.xorS (Rk.sealS Kt (Rk.fkS l h.2.1)) (nonceS h) (Rp.bodyS s))).size = 32 := macS_size _ _ _
  have HBK : Hid (blockS Kt (Rk.fkS l h.2.1) h (Rp.bodyS s) = putS h ++ Ra.xorS (Rk.sealS Kt (Rk.fkS l h.2.1)) (nonceS h) (Rp.bodyS s) ++ macS Kt (Rk.bindS Kt (Rk.fkS l h.2.1)) (putS h ++ Ra.xorS (Rk.sealS Kt (Rk.fkS l h.2.1)) (nonceS h) (Rp.bodyS s))) := rfl
  have HV : Hid ((Rk.feS l h.2.1 ≠ 0 ∧ sE l h s = Rk.feS l h.2.1 ∧ sV Kt l h s = ⟨#[]⟩) ∨ (Rk.feS l h.2.1 = 0 ∧ ¬ s.size ≤ 198 ∧ sE l h s = 50 ∧ sV Kt l h s = ⟨#[]⟩) ∨ (Rk.feS l h.2.1 = 0 ∧ s.size ≤ 198 ∧ sE l h s = 0 ∧ sV Kt l h s = blockS Kt (Rk.fkS l h.2.1) h (Rp.bodyS s))) := by
    refine (?_ : (Rk.feS l h.2.1 ≠ 0 ∧ sE l h s = Rk.feS l h.2.1 ∧ sV Kt l h s = ⟨#[]⟩) ∨ (Rk.feS l h.2.1 = 0 ∧ ¬ s.size ≤ 198 ∧ sE l h s = 50 ∧ sV Kt l h s = ⟨#[]⟩) ∨ (Rk.feS l h.2.1 = 0 ∧ s.size ≤ 198 ∧ sE l h s = 0 ∧ sV Kt l h s = blockS Kt (Rk.fkS l h.2.1) h (Rp.bodyS s)))
    unfold sE sV Rp.padE
    by_cases h0 : Rk.feS l h.2.1 = 0 <;> by_cases h1 : s.size ≤ 198 <;> simp [h0, h1]
  have HP : Hid (∀ W, Calls Tryd.prog 31 #[.string s] W fun e w' => e = .returned (.tuple #[.string (Rp.padV s), .int .i64 (Rp.padE s)]) ∧ Below W.heap.size W w') := Rp.refPad_any s
  have HR : Hid (Rk.Ring w o cap l) := hr
  have HT : Hid (Tr Kt w) := hT
  have HQ : Hid (Rk.feS l h.2.1 = 0 ∨ Rk.feS l h.2.1 = 40 ∨ Rk.feS l h.2.1 = 41) := fe_cases l h.2.1
  clear hr hT hf
  generalize macS Kt (Rk.bindS Kt (Rk.fkS l h.2.1)) (putS h ++ Ra.xorS (Rk.sealS Kt (Rk.fkS l h.2.1)) (nonceS h) (Rp.bodyS s)) = ma at *
  generalize putS h ++ Ra.xorS (Rk.sealS Kt (Rk.fkS l h.2.1)) (nonceS h) (Rp.bodyS s) = bo at *
  generalize Rk.sealS Kt (Rk.fkS l h.2.1) = sl at *
  generalize Rk.bindS Kt (Rk.fkS l h.2.1) = bi at *
  generalize Rk.subE (Rk.fkS l h.2.1) = su at *
  generalize blockS Kt (Rk.fkS l h.2.1) h (Rp.bodyS s) = bk at *
  generalize sV Kt l h s = sv at *
  generalize sE l h s = se at *
  generalize hk : Rk.fkS l h.2.1 = k at *
  generalize Rk.feS l h.2.1 = fe at *
  clear hk
  obtain ⟨kg, ks⟩ := k
  obtain ⟨a, b, c, d⟩ := h
  unfold hv Rk.kv at *
  simp only at HF HB HU ⊢
  go_enter Tryd.func18, Tryd.ntmps18
  go_wp2_with fail
  obtain ⟨w1, hw1⟩ : ∃ w1, w.alloc (.cells #[.int .u32 a, .int .u32 b, .int .u32 c, .int .u64 d] 25) = w1 := ⟨_, rfl⟩
  have B1 : Hid (Below w.heap.size w w1) := by rw [← hw1]; exact (Below.refl _ w).alloc (Nat.le_refl _) _
  have X1 : Hid (w1.heap[w.heap.size]? = some (.cells #[.int .u32 a, .int .u32 b, .int .u32 c, .int .u64 d] 25 (0, 0))) := by rw [← hw1]; exact heap_alloc_new w _
  have l1 : w.heap.size < w1.heap.size := (Array.getElem?_eq_some_iff.1 X1.out).1
  rw [hw1]
  clear hw1
  have HC : Hid (∀ W, Below w1.heap.size w1 W → W.cell? ⟨w.heap.size, 0, none⟩ = some (.int .u32 a) ∧ W.cell? ⟨w.heap.size, 1, none⟩ = some (.int .u32 b) ∧ W.cell? ⟨w.heap.size, 2, none⟩ = some (.int .u32 c) ∧ W.cell? ⟨w.heap.size, 3, none⟩ = some (.int .u64 d)) := fun W hB => by
    have hV := (hB.block _ l1).trans X1.out
    exact ⟨by rw [cell_of_row _ _ _ _ _ _ hV]; rfl, by rw [cell_of_row _ _ _ _ _ _ hV]; rfl, by rw [cell_of_row _ _ _ _ _ _ hV]; rfl, by rw [cell_of_row _ _ _ _ _ _ hV]; rfl⟩
  refine (HF.out w1 (HR.out.below B1.out (Nat.le_refl _))).mono ?_
  rintro e w2 ⟨rfl, b2⟩
  have D2 : Hid (Below w1.heap.size w1 w2) := b2
  clear b2 HF
  rcases HV.out with ⟨h0, rfl, rfl⟩ | ⟨rfl, h1, rfl, rfl⟩ | ⟨rfl, h1, rfl, rfl⟩
  · have q0 : (se != 0) = true := by simpa using h0
    clear HV HB
    go_wp2_with fail
    refine bodyPost_ret (results_tmp2 rfl _ _ _) rfl ?_
    exact ⟨rfl, B1.out.trans ((D2.out.trans ((Below.refl _ w2).alloc (Nat.le_refl _) _ |>.mono D2.out.size)).mono B1.out.size)⟩
  · clear HV HB HQ
    go_wp2_with fail
    obtain ⟨w3, hw3⟩ : ∃ w3, w2.alloc (.cells #[.int .u32 kg, .string ks] 44) = w3 := ⟨_, rfl⟩
    have b3 : Below w2.heap.size w2 w3 := by rw [← hw3]; exact (Below.refl _ w2).alloc (Nat.le_refl _) _
    have D3 : Hid (Below w1.heap.size w1 w3) := D2.out.trans (b3.mono D2.out.size)
    rw [hw3]
    clear hw3 b3 D2
    refine (HP.out w3).mono ?_
    rw [(Rp.pad_long s h1).1, (Rp.pad_long s h1).2]
    rintro e w4 ⟨rfl, b4⟩
    have D4 : Hid (Below w1.heap.size w1 w4) := D3.out.trans (b4.mono D3.out.size)
    clear b4 D3 HP h1
    go_wp2_with fail
    refine bodyPost_ret (results_tmp2 rfl _ _ _) rfl ?_
    exact ⟨rfl, B1.out.trans (D4.out.mono B1.out.size)⟩
  · have HB2 : Hid _ := HB.out rfl
    have HM2 : Hid _ := HM.out rfl
    clear HV HQ HB HM
    go_wp2_with fail
    obtain ⟨w3, hw3⟩ : ∃ w3, w2.alloc (.cells #[.int .u32 kg, .string ks] 44) = w3 := ⟨_, rfl⟩
    have b3 : Below w2.heap.size w2 w3 := by rw [← hw3]; exact (Below.refl _ w2).alloc (Nat.le_refl _) _
    have D3 : Hid (Below w1.heap.size w1 w3) := D2.out.trans (b3.mono D2.out.size)
    have K3 : Hid (w3.heap[w2.heap.size]? = some (.cells #[.int .u32 kg, .string ks] 44 (0, 0))) := by rw [← hw3]; exact heap_alloc_new w2 _
    rw [hw3]
    clear hw3 b3 D2
    refine (HP.out w3).mono ?_
    rw [(Rp.pad_short s h1).1, (Rp.pad_short s h1).2]
    rintro e w4 ⟨rfl, b4⟩
    have D4 : Hid (Below w1.heap.size w1 w4) := D3.out.trans (b4.mono D3.out.size)
    have K4 := (b4.block _ (Array.getElem?_eq_some_iff.1 K3.out).1).trans K3.out
    have k0 : w4.cell? ⟨w2.heap.size, 0, none⟩ = some (.int .u32 kg) := by rw [cell_of_row _ _ _ _ _ _ K4]; rfl
    have k1 : w4.cell? ⟨w2.heap.size, 1, none⟩ = some (.string ks) := by rw [cell_of_row _ _ _ _ _ _ K4]; rfl
    have l3 := (Array.getElem?_eq_some_iff.1 K3.out).1
    have KC : Hid (∀ W, Below w4.heap.size w4 W → W.cell? ⟨w2.heap.size, 0, none⟩ = some (.int .u32 kg) ∧ W.cell? ⟨w2.heap.size, 1, none⟩ = some (.string ks)) := fun W hB => by
      have hV := (hB.block _ (Array.getElem?_eq_some_iff.1 K4).1).trans K4
      exact ⟨by rw [cell_of_row _ _ _ _ _ _ hV]; rfl, by rw [cell_of_row _ _ _ _ _ _ hV]; rfl⟩
    clear b4 D3 HP h1 K4 K3
    obtain ⟨ca, cb, cc, cd⟩ := HC.out w4 D4.out
    have qt : ¬ 9223372036854775807 < bo.size + ma.size := by omega
    go_wp2_with fail
    clear ca cb cc cd k0 k1
    refine (HB2.out w4 (HT.out.below (B1.out.trans (D4.out.mono B1.out.size)) (Nat.le_refl _))).mono ?_
    rintro e w5 ⟨rfl, b5⟩
    have D5 : Hid (Below w1.heap.size w1 w5) := D4.out.trans (b5.mono D4.out.size)
    obtain ⟨k0, k1⟩ := KC.out w5 b5
    clear b5 D4 HB2
    go_wp2_with fail
    clear k0 k1
    refine (HU.out w5 (HT.out.below (B1.out.trans (D5.out.mono B1.out.size)) (Nat.le_refl _))).mono ?_
    rintro e w6 ⟨rfl, b6⟩
    have D6 : Hid (Below w1.heap.size w1 w6) := D5.out.trans (b6.mono D5.out.size)
    clear b6 D5 HU
    go_wp2_with fail
    refine (HM2.out w6 (HT.out.below (B1.out.trans (D6.out.mono B1.out.size)) (Nat.le_refl _))).mono ?_
    rintro e w7 ⟨rfl, b7⟩
    have D7 : Hid (Below w1.heap.size w1 w7) := D6.out.trans (b7.mono D6.out.size)
    clear b7 D6 HM2
    go_wp2_with fail
    refine bodyPost_ret (results_tmp2 rfl _ _ _) rfl ?_
    exact ⟨by rw [HBK.out]; rfl, B1.out.trans (D7.out.mono B1.out.size)⟩
end Go.Proofs.YtaoadopnhphjbaaDoor.Rs
