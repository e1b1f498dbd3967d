/- Seal and Open. -/
import Derived.Test.YtaoadopnhphjbaaDoorPWH
namespace Go.Proofs.YtaoadopnhphjbaaDoor.Rs
open Go.RowKit Go.Lib
set_option maxRecDepth 100000 in
theorem fe_zero (l : List Rk.Ky) (g : Int) (h : Rk.feS l g = 0) : Rk.rightS l = true ∧ Rk.findS l g = some (Rk.fkS l g) ∧ (Rk.fkS l g).1 = g ∧ Rk.rightS [Rk.fkS l g] = true := by
  unfold Rk.feS at h
  by_cases hr : Rk.rightS l = true
  · rw [if_pos hr] at h
    cases hf : Rk.findS l g with
    | none => rw [hf] at h; simp at h
    | some k =>
      have e : Rk.fkS l g = k := by unfold Rk.fkS; rw [if_pos hr, hf]; rfl
      have hm : k ∈ l := by unfold Rk.findS at hf; exact List.mem_of_find?_eq_some hf
      have hg : k.1 = g := by unfold Rk.findS at hf; simpa using List.find?_some hf
      obtain ⟨i, hi⟩ := List.mem_iff_getElem?.1 hm
      have := ((Rk.rises_iff 0 l).1 ((Rk.right_iff l).1 hr).2).1 i k hi
      refine ⟨hr, by rw [e], by rw [e]; exact hg, ?_⟩
      rw [e, Rk.right_iff]
      exact ⟨by simp, (Rk.rises_cons _ _ _).2 ⟨this.2, this.1, rfl⟩⟩
  · rw [if_neg hr] at h; cases h
set_option maxRecDepth 100000 in
theorem fe_cases (l : List Rk.Ky) (g : Int) : Rk.feS l g = 0 ∨ Rk.feS l g = 40 ∨ Rk.feS l g = 41 := by
  unfold Rk.feS
  split
  · split
    · exact .inl rfl
    · exact .inr (.inr rfl)
  · exact .inr (.inl rfl)
/-- What Seal tells. -/
def sE (l : List Rk.Ky) (h : Hd) (s : ByteArray) : Int := if Rk.feS l h.2.1 = 0 then Rp.padE s else Rk.feS l h.2.1
def sV (Kt : Nat → Int) (l : List Rk.Ky) (h : Hd) (s : ByteArray) : ByteArray := if Rk.feS l h.2.1 = 0 ∧ s.size ≤ 198 then blockS Kt (Rk.fkS l h.2.1) h (Rp.bodyS s) else ⟨#[]⟩
set_option maxRecDepth 100000 in
set_option maxHeartbeats 2000000 in
theorem seal_any (Kt : Nat → Int) (l : List Rk.Ky) (o : Option Addr) (cap : Nat) (h : Hd) (hf : fits h) (s : ByteArray) (w : World) (hr : Rk.Ring w o cap l) (hT : Tb Kt w) :
    Calls Tryd.prog 16 #[.slice o l.length cap, hv h, .string s] w fun e w' => e = .returned (.tuple #[.string (sV Kt l h s), .int .i64 (sE l h s)]) ∧ Below w.heap.size w w' := by
  have HF : Hid (∀ W, Rk.Ring W o cap l → Calls Tryd.prog 27 #[.slice o l.length cap, .int .u32 h.2.1] W fun e w' => e = .returned (.tuple #[Rk.kv (Rk.fkS l h.2.1), .int .i64 (Rk.feS l h.2.1)]) ∧ Below W.heap.size W w') := fun W hW => Rk.find_any l h.2.1 o cap W hW
  have HB : Hid (Rk.feS l h.2.1 = 0 → s.size ≤ 198 → ∀ W, Tb Kt W → Calls Tryd.prog 29 #[Rk.kv (Rk.fkS l h.2.1), hv h, .string (Rp.bodyS s)] W fun e w' => e = .returned (.string (blockS Kt (Rk.fkS l h.2.1) h (Rp.bodyS s))) ∧ Below W.heap.size W w') := fun h0 hs W hW =>
    block_any Kt _ (fe_zero l _ h0).2.2.2 h hf _ (Rp.body_size s) W hW
  have HV : Hid ((Rk.feS l h.2.1 ≠ 0 ∧ sE l h s = Rk.feS l h.2.1 ∧ sV Kt l h s = ⟨#[]⟩) ∨ (Rk.feS l h.2.1 = 0 ∧ ¬ s.size ≤ 198 ∧ sE l h s = 50 ∧ sV Kt l h s = ⟨#[]⟩) ∨ (Rk.feS l h.2.1 = 0 ∧ s.size ≤ 198 ∧ sE l h s = 0 ∧ sV Kt l h s = blockS Kt (Rk.fkS l h.2.1) h (Rp.bodyS s))) := by
    refine (?_ : (Rk.feS l h.2.1 ≠ 0 ∧ sE l h s = Rk.feS l h.2.1 ∧ sV Kt l h s = ⟨#[]⟩) ∨ (Rk.feS l h.2.1 = 0 ∧ ¬ s.size ≤ 198 ∧ sE l h s = 50 ∧ sV Kt l h s = ⟨#[]⟩) ∨ (Rk.feS l h.2.1 = 0 ∧ s.size ≤ 198 ∧ sE l h s = 0 ∧ sV Kt l h s = blockS Kt (Rk.fkS l h.2.1) h (Rp.bodyS s)))
    unfold sE sV Rp.padE
    by_cases h0 : Rk.feS l h.2.1 = 0 <;> by_cases h1 : s.size ≤ 198 <;> simp [h0, h1]
  have HP : Hid (∀ W, Calls Tryd.prog 28 #[.string s] W fun e w' => e = .returned (.tuple #[.string (Rp.padV s), .int .i64 (Rp.padE s)]) ∧ Below W.heap.size W w') := Rp.pad_any s
  have HR : Hid (Rk.Ring w o cap l) := hr
  have HT : Hid (Tb Kt w) := hT
  have HQ : Hid (Rk.feS l h.2.1 = 0 ∨ Rk.feS l h.2.1 = 40 ∨ Rk.feS l h.2.1 = 41) := fe_cases l h.2.1
  clear hr hT hf
  generalize blockS Kt (Rk.fkS l h.2.1) h (Rp.bodyS s) = bk at *
  generalize sV Kt l h s = sv at *
  generalize sE l h s = se at *
  generalize hk : Rk.fkS l h.2.1 = k at *
  generalize Rk.feS l h.2.1 = fe at *
  clear hk
  obtain ⟨kg, ks⟩ := k
  obtain ⟨a, b, c, d⟩ := h
  unfold hv Rk.kv at *
  simp only at HF HB ⊢
  go_enter Tryd.func16, Tryd.ntmps16
  go_wp2_with fail
  obtain ⟨w1, hw1⟩ : ∃ w1, w.alloc (.cells #[.int .u32 a, .int .u32 b, .int .u32 c, .int .u64 d] 25) = w1 := ⟨_, rfl⟩
  have B1 : Hid (Below w.heap.size w w1) := by rw [← hw1]; exact (Below.refl _ w).alloc (Nat.le_refl _) _
  have X1 : Hid (w1.heap[w.heap.size]? = some (.cells #[.int .u32 a, .int .u32 b, .int .u32 c, .int .u64 d] 25 (0, 0))) := by rw [← hw1]; exact heap_alloc_new w _
  have l1 : w.heap.size < w1.heap.size := (Array.getElem?_eq_some_iff.1 X1.out).1
  rw [hw1]
  clear hw1
  have HC : Hid (∀ W, Below w1.heap.size w1 W → W.cell? ⟨w.heap.size, 0, none⟩ = some (.int .u32 a) ∧ W.cell? ⟨w.heap.size, 1, none⟩ = some (.int .u32 b) ∧ W.cell? ⟨w.heap.size, 2, none⟩ = some (.int .u32 c) ∧ W.cell? ⟨w.heap.size, 3, none⟩ = some (.int .u64 d)) := fun W hB => by
    have hV := (hB.block _ l1).trans X1.out
    exact ⟨by rw [cell_of_row _ _ _ _ _ _ hV]; rfl, by rw [cell_of_row _ _ _ _ _ _ hV]; rfl, by rw [cell_of_row _ _ _ _ _ _ hV]; rfl, by rw [cell_of_row _ _ _ _ _ _ hV]; rfl⟩
  refine (HF.out w1 (HR.out.below B1.out (Nat.le_refl _))).mono ?_
  rintro e w2 ⟨rfl, b2⟩
  have D2 : Hid (Below w1.heap.size w1 w2) := b2
  clear b2 HF
  rcases HV.out with ⟨h0, rfl, rfl⟩ | ⟨rfl, h1, rfl, rfl⟩ | ⟨rfl, h1, rfl, rfl⟩
  · have q0 : (se != 0) = true := by simpa using h0
    clear HV HB
    go_wp2_with fail
    refine bodyPost_ret (results_tmp2 rfl _ _ _) rfl ?_
    exact ⟨rfl, B1.out.trans ((D2.out.trans ((Below.refl _ w2).alloc (Nat.le_refl _) _ |>.mono D2.out.size)).mono B1.out.size)⟩
  · clear HV HB HQ
    go_wp2_with fail
    obtain ⟨w3, hw3⟩ : ∃ w3, w2.alloc (.cells #[.int .u32 kg, .string ks] 44) = w3 := ⟨_, rfl⟩
    have b3 : Below w2.heap.size w2 w3 := by rw [← hw3]; exact (Below.refl _ w2).alloc (Nat.le_refl _) _
    have D3 : Hid (Below w1.heap.size w1 w3) := D2.out.trans (b3.mono D2.out.size)
    rw [hw3]
    clear hw3 b3 D2
    refine (HP.out w3).mono ?_
    rw [(Rp.pad_long s h1).1, (Rp.pad_long s h1).2]
    rintro e w4 ⟨rfl, b4⟩
    have D4 : Hid (Below w1.heap.size w1 w4) := D3.out.trans (b4.mono D3.out.size)
    clear b4 D3 HP h1
    go_wp2_with fail
    refine bodyPost_ret (results_tmp2 rfl _ _ _) rfl ?_
    exact ⟨rfl, B1.out.trans (D4.out.mono B1.out.size)⟩
  · have HB2 : Hid _ := HB.out rfl h1
    clear HV HQ HB
    go_wp2_with fail
    obtain ⟨w3, hw3⟩ : ∃ w3, w2.alloc (.cells #[.int .u32 kg, .string ks] 44) = w3 := ⟨_, rfl⟩
    have b3 : Below w2.heap.size w2 w3 := by rw [← hw3]; exact (Below.refl _ w2).alloc (Nat.le_refl _) _
    have D3 : Hid (Below w1.heap.size w1 w3) := D2.out.trans (b3.mono D2.out.size)
    have K3 : Hid (w3.heap[w2.heap.size]? = some (.cells #[.int .u32 kg, .string ks] 44 (0, 0))) := by rw [← hw3]; exact heap_alloc_new w2 _
    rw [hw3]
    clear hw3 b3 D2
    refine (HP.out w3).mono ?_
    rw [(Rp.pad_short s h1).1, (Rp.pad_short s h1).2]
    rintro e w4 ⟨rfl, b4⟩
    have D4 : Hid (Below w1.heap.size w1 w4) := D3.out.trans (b4.mono D3.out.size)
    have K4 := (b4.block _ (Array.getElem?_eq_some_iff.1 K3.out).1).trans K3.out
    have k0 : w4.cell? ⟨w2.heap.size, 0, none⟩ = some (.int .u32 kg) := by rw [cell_of_row _ _ _ _ _ _ K4]; rfl
    have k1 : w4.cell? ⟨w2.heap.size, 1, none⟩ = some (.string ks) := by rw [cell_of_row _ _ _ _ _ _ K4]; rfl
    clear b4 D3 HP h1 K4 K3
    obtain ⟨ca, cb, cc, cd⟩ := HC.out w4 D4.out
    go_wp2_with fail
    clear ca cb cc cd k0 k1
    refine (HB2.out w4 (HT.out.below (B1.out.trans (D4.out.mono B1.out.size)) (Nat.le_refl _))).mono ?_
    rintro e w5 ⟨rfl, b5⟩
    have D5 : Hid (Below w1.heap.size w1 w5) := D4.out.trans (b5.mono D4.out.size)
    clear b5 D4 HB2
    go_wp2_with fail
    refine bodyPost_ret (results_tmp2 rfl _ _ _) rfl ?_
    exact ⟨rfl, B1.out.trans (D5.out.mono B1.out.size)⟩
end Go.Proofs.YtaoadopnhphjbaaDoor.Rs
