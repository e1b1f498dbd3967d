/- Pages and bytes are one to one, in plain terms. -/
import Derived.Test.YtljponlfjombaaaQIW
namespace Go.Proofs.Ytljponlfjombaaa.Rw
open Go.RowKit Go.Lib Go.Shelf
open Go.Proofs.Ytljponlfjombaaa.Rc Go.Proofs.Ytljponlfjombaaa.Rq
/-- A page's bytes. -/
def pB (P : Pp) : List UInt8 := if P.k = 1 then leafB P.l P.np P.nt else innerB P.X P.Y P.L.toNat P.ks
/-- What the fields' types allow. -/
structure okP (P : Pp) : Prop where
  X : P.X < 4294967296
  Y : P.Y < 4294967296
  np : P.np < 4294967296
  rows : ∀ r ∈ P.l, okRow r
  kids : ∀ r ∈ P.ks, r.p < 4294967296
theorem Pp.eq {a b : Pp} (h1 : a.k = b.k) (h2 : a.X = b.X) (h3 : a.Y = b.Y) (h4 : a.L = b.L) (h5 : a.l = b.l) (h6 : a.ks = b.ks) (h7 : a.np = b.np) (h8 : a.nt = b.nt) : a = b := by
  cases a; cases b; simp only at h1 h2 h3 h4 h5 h6 h7 h8; subst h1 h2 h3 h4 h5 h6 h7 h8; rfl
theorem rpp_leaf {P : Pp} (h1 : P.k = 1) (h : rpp P = true) : (noRef P.np P.nt = true ∨ rref P.np P.nt = true) ∧ P.l.length ≤ 4 ∧ rightL P.l = true ∧ (∀ r ∈ P.l, r.v.size ≤ 16) ∧ P.X = 0 ∧ P.Y = 0 ∧ P.L = 0 ∧ P.ks = [] := by
  unfold rpp rpage at h
  rw [if_pos h1] at h
  have hf := (leaf_facts h).2.2.1
  unfold rleaf noCell at h
  simp only [Bool.and_eq_true, Bool.or_eq_true, decide_eq_true_eq] at h
  obtain ⟨a, b, c, ⟨d1, d2, d3⟩, e⟩ := h
  exact ⟨a, b, c, fun r hr => (hf r hr).1, d1, d2, d3, List.length_eq_zero_iff.1 e⟩
theorem rpp_inner {P : Pp} (h1 : P.k = 2) (h : rpp P = true) : 2 ≤ P.ks.length ∧ P.ks.length ≤ 4 ∧ (∀ r ∈ P.ks, rref r.p r.t = true) ∧ rightS P.X P.Y P.L = true ∧ 0 < P.L ∧ P.L ≤ 31 ∧ P.l = [] ∧ P.np = 0 ∧ P.nt = ⟨#[]⟩ := by
  unfold rpp rpage at h
  rw [if_neg (by simp only; omega), if_pos h1] at h
  unfold rinner at h
  simp only [Bool.and_eq_true, decide_eq_true_eq, List.all_eq_true] at h
  obtain ⟨⟨a, b⟩, c, d, e, f, g⟩ := h
  obtain ⟨g1, g2⟩ := noRef_some g
  have hr : P.L ≤ 31 := by
    have d' := d
    unfold rightS at d'
    simp only [decide_eq_true_eq] at d'
    omega
  exact ⟨a, b, c, d, e, hr, List.length_eq_zero_iff.1 f, g1, g2⟩
theorem rpp_kind {P : Pp} (h : rpp P = true) : P.k = 1 ∨ P.k = 2 := by
  unfold rpp rpage at h
  simp only at h
  by_cases h1 : P.k = 1
  · exact .inl h1
  · rw [if_neg h1] at h
    by_cases h2 : P.k = 2
    · exact .inr h2
    · rw [if_neg h2] at h; cases h
theorem page_back {P : Pp} (hR : rpp P = true) (ho : okP P) (t : List UInt8) : rdP (sT (pB P ++ t)) = P ∧ pgE (sT (pB P ++ t)) = sT t := by
  rcases rpp_kind hR with hk | hk
  · obtain ⟨h1, h2, h3, h4, h5, h6, h7, h8⟩ := rpp_leaf hk hR
    have e : pB P ++ t = lef 1 1 ++ (lef P.l.length 1 ++ (refB P.np P.nt ++ (P.l.flatMap rowB ++ t))) := by
      unfold pB leafB; rw [if_pos hk]; simp only [List.append_assoc]
    rw [e]
    obtain ⟨a1, a2⟩ := num_back (v := 1) (n := 1) (by decide) (lef P.l.length 1 ++ (refB P.np P.nt ++ (P.l.flatMap rowB ++ t)))
    obtain ⟨b1, b2⟩ := num_back (v := P.l.length) (n := 1) (by simp; omega) (refB P.np P.nt ++ (P.l.flatMap rowB ++ t))
    obtain ⟨c1, c2⟩ := ref_back (r := ⟨P.np, P.nt⟩) ⟨ho.np, h1⟩ (P.l.flatMap rowB ++ t)
    simp only at c1 c2
    have d := lst_back rowS r5S rowB t P.l fun r hr => row_back (ho.rows r hr) (by have := h4 r hr; omega)
    unfold rdP pgE lfL lfN
    rw [a1, a2, if_pos rfl, if_pos rfl, b1, b2, c1, c2, d]
    exact ⟨Pp.eq hk.symm h5.symm h6.symm h7.symm rfl h8.symm rfl rfl, rfl⟩
  · obtain ⟨h1, h2, h3, h4, h5, h6, h7, h8, h9⟩ := rpp_inner hk hR
    have e : pB P ++ t = lef 2 1 ++ (lef P.ks.length 1 ++ (lef P.L.toNat 1 ++ (lef P.X 4 ++ (lef P.Y 4 ++ ((P.ks.flatMap fun r => refB r.p r.t) ++ t))))) := by
      unfold pB innerB; rw [if_neg (by omega)]; simp only [List.append_assoc]
    rw [e]
    obtain ⟨a1, a2⟩ := num_back (v := 2) (n := 1) (by decide) (lef P.ks.length 1 ++ (lef P.L.toNat 1 ++ (lef P.X 4 ++ (lef P.Y 4 ++ ((P.ks.flatMap fun r => refB r.p r.t) ++ t)))))
    obtain ⟨b1, b2⟩ := num_back (v := P.ks.length) (n := 1) (by simp; omega) (lef P.L.toNat 1 ++ (lef P.X 4 ++ (lef P.Y 4 ++ ((P.ks.flatMap fun r => refB r.p r.t) ++ t))))
    obtain ⟨c1, c2⟩ := num_back (v := P.L.toNat) (n := 1) (by simp; omega) (lef P.X 4 ++ (lef P.Y 4 ++ ((P.ks.flatMap fun r => refB r.p r.t) ++ t)))
    obtain ⟨d1, d2⟩ := num_back (v := P.X) (n := 4) (by simpa using ho.X) (lef P.Y 4 ++ ((P.ks.flatMap fun r => refB r.p r.t) ++ t))
    obtain ⟨f1, f2⟩ := num_back (v := P.Y) (n := 4) (by simpa using ho.Y) ((P.ks.flatMap fun r => refB r.p r.t) ++ t)
    have g := lst_back refS f2S (fun r => refB r.p r.t) t P.ks fun r hr => ref_back ⟨ho.kids r hr, .inr (h3 r hr)⟩
    unfold rdP pgE inL inX inY inC
    rw [a1, a2, if_neg (show ¬ (2 : Nat) = 1 by decide), if_neg (show ¬ (2 : Nat) = 1 by decide), if_pos rfl, if_pos rfl, b1, b2, c1, c2, d1, d2, f1, f2, g]
    exact ⟨Pp.eq hk.symm rfl rfl (by simp only; omega) h7.symm rfl h8.symm h9.symm, rfl⟩
theorem f2_short {st : RS} (h : (f2S st).s = false) : st.s = false := (aft_short (aft_short h).1).1
theorem r5_short {st : RS} (h : (r5S st).s = false) : st.s = false := (aft_short (aft_short (aft_short (aft_short (aft_short h).1).1).1).1).1
theorem page_fore {c : List UInt8} (hs : (pgE (sT c)).s = false) (hR : rpp (rdP (sT c)) = true) : ∃ t, c = pB (rdP (sT c)) ++ t ∧ pgE (sT c) = sT t ∧ okP (rdP (sT c)) := by
  by_cases h1 : numS (sT c) 1 = 1
  · have hd : rdP (sT c) = ⟨1, 0, 0, 0, (lfL (aftS (sT c) 1)).1, [], (lfN (aftS (sT c) 1)).p, (lfN (aftS (sT c) 1)).t⟩ := by unfold rdP; rw [if_pos h1]
    have he : pgE (sT c) = (lfL (aftS (sT c) 1)).2 := by unfold pgE; rw [if_pos h1]
    rw [he] at hs ⊢
    rw [hd]
    clear hd he hR
    have k2 : (f2S (aftS (aftS (sT c) 1) 1)).s = false := lst_short _ _ (fun st h => r5_short h) _ _ hs
    have k1 := f2_short k2
    have k0 := (aft_short k1).1
    obtain ⟨t1, e1, a1⟩ := num_fore k0
    rw [a1] at k1 k2 hs ⊢
    obtain ⟨t2, e2, a2⟩ := num_fore k1
    rw [a2] at k2
    obtain ⟨t3, e3, a3, o3⟩ := ref_fore k2
    have hL : lfL (sT t1) = lstS rowS r5S (numS (sT t1) 1) (sT t3) := by unfold lfL; rw [a2, a3]
    have hN : lfN (sT t1) = refS (sT t2) := by unfold lfN; rw [a2]
    rw [hL] at hs ⊢
    rw [hN]
    obtain ⟨t4, e4, a4, l4, o4⟩ := lst_fore rowS r5S rowB okRow (fun st h => r5_short h) (fun c h => row_fore h) _ _ hs
    refine ⟨t4, ?_, a4, ⟨Nat.zero_lt_succ _, Nat.zero_lt_succ _, o3, o4, fun r hr => by simp at hr⟩⟩
    unfold pB leafB
    rw [if_pos rfl]
    simp only [List.append_assoc]
    rw [l4, ← e4, ← e3, ← e2]
    rw [h1] at e1
    exact e1
  · by_cases h2 : numS (sT c) 1 = 2
    · have hd : rdP (sT c) = ⟨2, inX (aftS (sT c) 1), inY (aftS (sT c) 1), (inC (aftS (sT c) 1) : Int), [], (inL (aftS (sT c) 1)).1, 0, ⟨#[]⟩⟩ := by unfold rdP; rw [if_neg h1, if_pos h2]
      have he : pgE (sT c) = (inL (aftS (sT c) 1)).2 := by unfold pgE; rw [if_neg h1, if_pos h2]
      rw [he] at hs ⊢
      rw [hd]
      clear hd he hR
      have k4 : (aftS (aftS (aftS (aftS (aftS (sT c) 1) 1) 1) 4) 4).s = false := lst_short _ _ (fun st h => f2_short h) _ _ hs
      have k3 := (aft_short k4).1
      have k2 := (aft_short k3).1
      have k1 := (aft_short k2).1
      have k0 := (aft_short k1).1
      obtain ⟨t1, e1, a1⟩ := num_fore k0
      rw [a1] at k1 k2 k3 k4 hs ⊢
      obtain ⟨t2, e2, a2⟩ := num_fore k1
      rw [a2] at k2 k3 k4
      obtain ⟨t3, e3, a3⟩ := num_fore k2
      rw [a3] at k3 k4
      obtain ⟨t4, e4, a4⟩ := num_fore k3
      rw [a4] at k4
      obtain ⟨t5, e5, a5⟩ := num_fore k4
      have hL : inL (sT t1) = lstS refS f2S (numS (sT t1) 1) (sT t5) := by unfold inL; rw [a2, a3, a4, a5]
      have hC : inC (sT t1) = numS (sT t2) 1 := by unfold inC; rw [a2]
      have hX : inX (sT t1) = numS (sT t3) 4 := by unfold inX; rw [a2, a3]
      have hY : inY (sT t1) = numS (sT t4) 4 := by unfold inY; rw [a2, a3, a4]
      have bx := numS_lt (sT t3) 4
      have by' := numS_lt (sT t4) 4
      simp only [Nat.reduceMul, Nat.reducePow] at bx by'
      rw [hL] at hs ⊢
      rw [hC, hX, hY]
      obtain ⟨t6, e6, a6, l6, o6⟩ := lst_fore refS f2S (fun r => refB r.p r.t) (fun r => r.p < 4294967296) (fun st h => f2_short h) (fun c h => ref_fore h) _ _ hs
      refine ⟨t6, ?_, a6, ⟨bx, by', Nat.zero_lt_succ _, fun r hr => by simp at hr, o6⟩⟩
      unfold pB innerB
      rw [if_neg (show ¬ (2 : Int) = 1 by decide)]
      simp only [List.append_assoc, Int.toNat_natCast]
      rw [l6, ← e6, ← e5, ← e4, ← e3, ← e2]
      rw [h2] at e1
      exact e1
    · have : rdP (sT c) = pz := by unfold rdP; rw [if_neg h1, if_neg h2]
      rw [this] at hR
      cases hR
theorem sT_of (s : ByteArray) : (⟨s, false⟩ : RS) = sT s.data.toList := rfl
theorem dec_enc {P : Pp} (hR : rpp P = true) (ho : okP P) : decOK ⟨(pB P).toArray⟩ = true ∧ decP ⟨(pB P).toArray⟩ = P := by
  have h := page_back hR ho []
  rw [List.append_nil] at h
  have e : decOK ⟨(pB P).toArray⟩ = true := by
    unfold decOK
    change (!(pgE (sT (pB P))).s && (decide ((pgE (sT (pB P))).r = ⟨#[]⟩) && rpp (rdP (sT (pB P))))) = true
    rw [h.1, h.2, hR]
    rfl
  refine ⟨e, ?_⟩
  unfold decP
  rw [if_pos e]
  exact h.1
theorem dec_parts {s : ByteArray} (h : decOK s = true) : (pgE ⟨s, false⟩).s = false ∧ (pgE ⟨s, false⟩).r = ⟨#[]⟩ ∧ rpp (rdP ⟨s, false⟩) = true ∧ decP s = rdP ⟨s, false⟩ := by
  have e : decP s = rdP ⟨s, false⟩ := by unfold decP; rw [if_pos h]
  unfold decOK at h
  simp only [Bool.and_eq_true, Bool.not_eq_true', decide_eq_true_eq] at h
  exact ⟨h.1, h.2.1, h.2.2, e⟩
theorem enc_dec {s : ByteArray} (h : decOK s = true) : pB (decP s) = s.data.toList ∧ rpp (decP s) = true ∧ okP (decP s) := by
  obtain ⟨h1, h2, h3, h4⟩ := dec_parts h
  rw [h4]
  rw [sT_of] at h1 h2 h3 ⊢
  obtain ⟨t, e1, e2, e3⟩ := page_fore h1 h3
  rw [e2] at h2
  have ht : t = [] := by
    rw [sT_r] at h2
    have := congrArg (fun b : ByteArray => b.data.toList) h2
    simpa using this
  rw [ht, List.append_nil] at e1
  exact ⟨e1.symm, h3, e3⟩
/-- What follows a page's bytes is left; so a beginning is no page's. -/
theorem dec_more {P : Pp} (hR : rpp P = true) (ho : okP P) (t : List UInt8) (ht : t ≠ []) : decOK ⟨(pB P ++ t).toArray⟩ = false := by
  cases h : decOK ⟨(pB P ++ t).toArray⟩
  · rfl
  · obtain ⟨-, h2, -, -⟩ := dec_parts h
    have e := (page_back hR ho t).2
    change (pgE (sT (pB P ++ t))).r = ⟨#[]⟩ at h2
    rw [e, sT_r] at h2
    exact absurd (by have := congrArg (fun b : ByteArray => b.data.toList) h2; simpa using this) ht
theorem dec_less {P : Pp} (hR : rpp P = true) (ho : okP P) (c t : List UInt8) (he : pB P = c ++ t) (ht : t ≠ []) : decOK ⟨c.toArray⟩ = false := by
  cases h : decOK ⟨c.toArray⟩
  · rfl
  · obtain ⟨e1, e2, e3⟩ := enc_dec h
    have := dec_more e2 e3 t ht
    have e1' : pB (decP ⟨c.toArray⟩) = c := by rw [e1]
    rw [e1', ← he, (dec_enc hR ho).1] at this
    cases this
theorem pB_inj {P Q : Pp} (hP : rpp P = true) (oP : okP P) (hQ : rpp Q = true) (oQ : okP Q) (h : pB P = pB Q) : P = Q := by
  rw [← (dec_enc hP oP).2, ← (dec_enc hQ oQ).2, h]
theorem refB_36 {p : Nat} {t : ByteArray} (h : noRef p t = true ∨ rref p t = true) : (refB p t).length = 36 := by
  rcases h with h | h
  · rw [refB_no h, List.length_append, lef_len]; rfl
  · obtain ⟨-, e⟩ := rref_some h
    rw [refB_yes (no_size e), List.length_append, lef_len, Array.length_toList]
    have : t.data.size = 32 := e
    omega
theorem rowB_len (r : Rw) : (rowB r).length = 17 + r.v.size := by
  unfold rowB
  simp only [List.length_append, lef_len, Array.length_toList]
  have : r.v.data.size = r.v.size := rfl
  omega
theorem flat_le {α : Type} (f : α → List UInt8) (m : Nat) : ∀ (l : List α), (∀ a ∈ l, (f a).length ≤ m) → (l.flatMap f).length ≤ l.length * m
  | [], _ => by simp
  | a :: l, h => by
    have h1 := h a (by simp)
    have ih := flat_le f m l fun b hb => h b (by simp [hb])
    rw [List.flatMap_cons, List.length_append, List.length_cons, Nat.succ_mul]
    omega
theorem pB_len {P : Pp} (hR : rpp P = true) : 0 < (pB P).length ∧ (pB P).length ≤ 198 := by
  rcases rpp_kind hR with hk | hk
  · obtain ⟨h1, h2, h3, h4, -⟩ := rpp_leaf hk hR
    unfold pB leafB
    rw [if_pos hk]
    simp only [List.length_append, lef_len, refB_36 h1]
    have := flat_le rowB 33 P.l fun r hr => by rw [rowB_len]; have := h4 r hr; omega
    omega
  · obtain ⟨h1, h2, h3, -⟩ := rpp_inner hk hR
    unfold pB innerB
    rw [if_neg (by omega)]
    simp only [List.length_append, lef_len]
    have := flat_le (fun r : Rf => refB r.p r.t) 36 P.ks fun r hr => by rw [refB_36 (.inr (h3 r hr))]; exact Nat.le_refl _
    omega
end Go.Proofs.Ytljponlfjombaaa.Rw
