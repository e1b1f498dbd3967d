/- What follows of sealed blocks, in plain terms. -/
import Derived.Test.YtaoadopnhphjbaaDoorPWJ
namespace Go.Proofs.YtaoadopnhphjbaaDoor.Rs
theorem se_zero (l : List Rk.Ky) (h : Hd) (s : ByteArray) : sE l h s = 0 ↔ Rk.feS l h.2.1 = 0 ∧ s.size ≤ 198 := by
  unfold sE Rp.padE
  by_cases h0 : Rk.feS l h.2.1 = 0
  · rw [if_pos h0]
    by_cases h1 : s.size ≤ 198
    · simp [h0, h1]
    · simp [h0, h1]
  · rw [if_neg h0]
    simp [h0]
theorem sv_block (Kt : Nat → Int) (l : List Rk.Ky) (h : Hd) (s : ByteArray) (h0 : sE l h s = 0) : sV Kt l h s = blockS Kt (Rk.fkS l h.2.1) h (Rp.bodyS s) := by
  unfold sV
  rw [if_pos ((se_zero l h s).1 h0)]
theorem sv_none (Kt : Nat → Int) (l : List Rk.Ky) (h : Hd) (s : ByteArray) (h0 : sE l h s ≠ 0) : sV Kt l h s = ⟨#[]⟩ := by
  unfold sV
  rw [if_neg (fun e => h0 ((se_zero l h s).2 e))]
theorem block_is (Kt : Nat → Int) (k : Rk.Ky) (h : Hd) (s : ByteArray) : BlockIs (Ra.xorS (Rk.sealS Kt k) (nonceS h)) (macS Kt (Rk.bindS Kt k)) (putS h) (Rp.bodyS s) (blockS Kt k h (Rp.bodyS s)) :=
  bl_is _ _ _ _ (put_size h) (by rw [Ra.xorS_size, Rp.body_size]) (fun _ => macS_size _ _ _)
theorem open_block (Kt : Nat → Int) (l : List Rk.Ky) (h : Hd) (hf : fits h) (s b : ByteArray) (h0 : sE l h s = 0) (ha : b.extract 0 224 = (sV Kt l h s).extract 0 224) :
    hB b = h ∧ gk (b.extract 0 24) = true ∧ Rk.feS l h.2.1 = 0 ∧ Rk.rightS l = true ∧ bodyOf Kt (Rk.fkS l h.2.1) h b = Rp.bodyS s ∧ tagOk Kt (Rk.fkS l h.2.1) b = decide (tagS b = tagS (sV Kt l h s)) := by
  have hI := block_is Kt (Rk.fkS l h.2.1) h s
  rw [← sv_block Kt l h s h0] at hI
  obtain ⟨hfe, hsz⟩ := (se_zero l h s).1 h0
  have e1 : b.extract 0 24 = putS h := by
    have := ext_ext b 0 224 0 24 (by omega)
    rw [ha, ext_ext _ 0 224 0 24 (by omega)] at this
    exact this.symm.trans hI.head
  have e2 : b.extract 24 224 = Ra.xorS (Rk.sealS Kt (Rk.fkS l h.2.1)) (nonceS h) (Rp.bodyS s) := by
    have := ext_ext b 0 224 24 224 (by omega)
    rw [ha, ext_ext _ 0 224 24 224 (by omega)] at this
    exact this.symm.trans hI.rest
  refine ⟨by unfold hB; rw [e1]; exact gv_put h hf, by rw [e1]; exact gk_put h hf, hfe, (fe_zero l _ hfe).1, ?_, ?_⟩
  · unfold bodyOf
    rw [e2, Ra.xorS_twice]
  · unfold tagOk
    rw [ha, ← hI.tag]
theorem open_seal (Kt : Nat → Int) (l : List Rk.Ky) (h : Hd) (hf : fits h) (s : ByteArray) (h0 : sE l h s = 0) :
    (sV Kt l h s).size = 256 ∧ (sV Kt l h s).extract 0 24 = putS h ∧ oE Kt l (sV Kt l h s) = 0 ∧ oH Kt l (sV Kt l h s) = h ∧ oS Kt l (sV Kt l h s) = s := by
  have hI := block_is Kt (Rk.fkS l h.2.1) h s
  rw [← sv_block Kt l h s h0] at hI
  obtain ⟨hfe, hsz⟩ := (se_zero l h s).1 h0
  obtain ⟨k1, k2, k3, k4, k5, k6⟩ := open_block Kt l h hf s (sV Kt l h s) h0 rfl
  have kt : tk Kt (Rk.fkS l h.2.1) h (sV Kt l h s) = true := by
    unfold tk
    rw [k6, k5, Rp.isBody_body s hsz]
    simp
  have ke : oE Kt l (sV Kt l h s) = 0 := by
    unfold oE
    rw [if_pos k4, if_pos hI.size, if_pos k2, k1, if_pos k3, if_pos kt]
  refine ⟨hI.size, hI.head, ke, by unfold oH; rw [if_pos ke, k1], ?_⟩
  unfold oS tv
  rw [if_pos ke, k1, if_pos kt, k5, Rp.textOf_body s hsz]
theorem open_turn (Kt : Nat → Int) (l : List Rk.Ky) (h : Hd) (hf : fits h) (s b : ByteArray) (h0 : sE l h s = 0) (hs : b.size = 256) (ha : b.extract 0 224 = (sV Kt l h s).extract 0 224) (ht : tagS b ≠ tagS (sV Kt l h s)) :
    oE Kt l b = 61 ∧ oH Kt l b = zh ∧ oS Kt l b = ⟨#[]⟩ := by
  obtain ⟨k1, k2, k3, k4, k5, k6⟩ := open_block Kt l h hf s b h0 ha
  have kt : tk Kt (Rk.fkS l h.2.1) h b = false := by
    unfold tk
    rw [k6, decide_eq_false ht]
    rfl
  have ke : oE Kt l b = 61 := by
    unfold oE
    rw [if_pos k4, if_pos hs, if_pos k2, k1, if_pos k3, kt]
    rfl
  exact ⟨ke, by unfold oH; rw [ke]; rfl, by unfold oS; rw [ke]; rfl⟩
theorem oe_zero (Kt : Nat → Int) (l : List Rk.Ky) (b : ByteArray) (h : oE Kt l b = 0) : b.size = 256 ∧ gk (b.extract 0 24) = true ∧ Rk.feS l (hB b).2.1 = 0 ∧ tk Kt (Rk.fkS l (hB b).2.1) (hB b) b = true := by
  unfold oE at h
  split at h
  · split at h
    · split at h
      · split at h
        · split at h
          · rename_i h1 h2 h3 h4 h5
            exact ⟨h2, h3, h4, h5⟩
          · cases h
        · rename_i h4
          exact absurd h h4
      · cases h
    · cases h
  · cases h
theorem seal_open (Kt : Nat → Int) (l : List Rk.Ky) (b : ByteArray) (h : oE Kt l b = 0) : sE l (oH Kt l b) (oS Kt l b) = 0 ∧ sV Kt l (oH Kt l b) (oS Kt l b) = b ∧ fits (oH Kt l b) := by
  obtain ⟨hs, hg, hf, ht⟩ := oe_zero Kt l b h
  have eh : oH Kt l b = hB b := by unfold oH; rw [if_pos h]
  have es : oS Kt l b = Rp.textOf (bodyOf Kt (Rk.fkS l (hB b).2.1) (hB b) b) := by unfold oS tv; rw [if_pos h, if_pos ht]
  rw [eh, es]
  have ht2 := ht
  unfold tk at ht2
  rw [Bool.and_eq_true] at ht2
  obtain ⟨t1, t2⟩ := ht2
  have t1' : tagS b = macS Kt (Rk.bindS Kt (Rk.fkS l (hB b).2.1)) (b.extract 0 224) := by unfold tagOk at t1; simpa using t1
  obtain ⟨z1, z2, z3⟩ := Rp.isBody_size _ t2
  have z4 : (Rp.textOf (bodyOf Kt (Rk.fkS l (hB b).2.1) (hB b) b)).size ≤ 198 := by rw [Rp.textOf_size _ z1 z2]; exact z2
  have e0 : sE l (hB b) (Rp.textOf (bodyOf Kt (Rk.fkS l (hB b).2.1) (hB b) b)) = 0 := (se_zero _ _ _).2 ⟨hf, z4⟩
  refine ⟨e0, ?_, gv_fits _⟩
  rw [sv_block _ _ _ _ e0, z3]
  unfold blockS
  have hp : putS (hB b) = b.extract 0 24 := put_gv _ hg
  rw [hp]
  exact bl_back _ _ b _ hs (by unfold bodyOf; rw [Ra.xorS_twice]) t1'
theorem oe_none (Kt : Nat → Int) (l : List Rk.Ky) (b : ByteArray) (h : oE Kt l b ≠ 0) : oH Kt l b = zh ∧ oS Kt l b = ⟨#[]⟩ := by
  unfold oH oS
  rw [if_neg h, if_neg h]
  exact ⟨rfl, rfl⟩
/-- A block, one byte of whose tag is another one. -/
def turn (b : ByteArray) (at' : Nat) (c : Int) : ByteArray := b.extract 0 at' ++ strOfNums [c] ++ b.extract (at' + 1) b.size
theorem turn_facts (b : ByteArray) (hb : b.size = 256) (i : Nat) (h1 : 224 ≤ i) (h2 : i < 256) (c : Int) (c0 : 0 ≤ c) (c1 : c < 256) (hc : Rp.bt b i ≠ c) :
    (turn b i c).size = 256 ∧ (turn b i c).extract 0 224 = b.extract 0 224 ∧ tagS (turn b i c) ≠ tagS b := by
  have za : (b.extract 0 i).size = i := by rw [Rp.ext_size, hb]; omega
  have zc : (strOfNums [c]).size = 1 := by rw [strOfNums_size]; rfl
  have zb : (b.extract 0 i ++ strOfNums [c]).size = i + 1 := by rw [ByteArray.size_append, za, zc]
  have zz : (turn b i c).size = 256 := by unfold turn; rw [ByteArray.size_append, zb, Rp.ext_size, hb]; omega
  have low : ∀ j, j < i → Rp.bt (turn b i c) j = Rp.bt b j := fun j hj => by
    unfold turn
    rw [Rp.bt_app, if_pos (by omega), Rp.bt_app, if_pos (by omega), Rp.bt_ext _ _ _ _ (by omega), Nat.zero_add]
  have here : Rp.bt (turn b i c) i = c := by
    unfold turn
    rw [Rp.bt_app, if_pos (by omega), Rp.bt_app, if_neg (by omega), za, Nat.sub_self]
    unfold Rp.bt strOfNums
    simp
    omega
  refine ⟨zz, ?_, ?_⟩
  · refine Rp.bt_same _ _ (by rw [Rp.ext_size, Rp.ext_size, zz, hb]) fun j hj => ?_
    rw [Rp.ext_size, zz] at hj
    rw [Rp.bt_ext _ _ _ _ (by omega), Rp.bt_ext _ _ _ _ (by omega), Nat.zero_add, low j (by omega)]
  · intro e
    have e2 : Rp.bt (tagS (turn b i c)) (i - 224) = Rp.bt (tagS b) (i - 224) := by rw [e]
    unfold tagS at e2
    rw [zz, hb, Rp.bt_ext _ _ _ _ (by omega), Rp.bt_ext _ _ _ _ (by omega), show 256 - 32 + (i - 224) = i by omega, here] at e2
    exact hc e2.symm
end Go.Proofs.YtaoadopnhphjbaaDoor.Rs
