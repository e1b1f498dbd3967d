/- The sort beyond twelve: a round, in plain terms. -/
import Derived.Test.YtkpfnepbnaekoaaPSH
import Derived.Test.YtkpfnepbnaekoaaPSI
namespace Go.Proofs.Ytkpfnepbnaekoaa.Rd
open Go.RowKit
/-- Whoever sorts the rest has sorted the whole. -/
def Rest (a b : Nat) (d : Array Nat) (a' b' : Nat) (d' : Array Nat) : Prop := ∀ R, Sort.PermIn a' b' d' R → Sort.SortedIn ltN a' b' R → Sort.PermIn a b d R ∧ Sort.SortedIn ltN a b R
theorem Rest.refl (a b : Nat) (d : Array Nat) : Rest a b d a b d := fun _ h1 h2 => ⟨h1, h2⟩
theorem Rest.trans {a b a' b' a'' b'' : Nat} {d d' d'' : Array Nat} (h : Rest a b d a' b' d') (k : Rest a' b' d' a'' b'' d'') : Rest a b d a'' b'' d'' := fun R h1 h2 => let ⟨k1, k2⟩ := k R h1 h2; h R k1 k2
theorem Rest.perm {a b : Nat} {d d' : Array Nat} (h : Sort.PermIn a b d d') : Rest a b d a b d' := fun _ h1 h2 => ⟨Sort.permIn_trans _ _ _ _ _ h h1, h2⟩
theorem rest_eq {a b pv mid : Nat} {d d' : Array Nat} (ha0 : 0 < a) (_hp2 : pv < b) (hp1 : a ≤ pv) (hb : b ≤ d.size) (hB : Sort.Below ltN a b d) (hnl : ltN d[a - 1]! d[pv]! = false) (hpm : Sort.PermIn a b d d') (h : Pt (fun x => !ltN d[pv]! x) a b mid (mid - 1) d[pv]! d') :
    a < mid ∧ mid ≤ b ∧ d'.size = d.size ∧ Sort.Below ltN mid b d' ∧ Rest a b d mid b d' := by
  have hge : ∀ i, a ≤ i → i < b → ltN d[i]! d[pv]! = false := fun i hi hi' => by
    rcases hB with h0 | hB
    · omega
    · exact swoN.ntrans _ _ _ (hB i hi hi') hnl
  have hge4 := Sort.permIn_all d d' a b (fun x => ltN x d[pv]! = false) hb hpm hge
  have h1 := h.ai
  have h2 := h.jb
  have hb4 : b ≤ d'.size := by rw [hpm.1]; exact hb
  have hle : ∀ i, a ≤ i → i < mid → ltN d[pv]! d'[i]! = false := fun i hi hi' => by
    by_cases e : i = a
    · subst e; rw [h.pv]; exact swoN.irrefl _
    · have := h.lo i (by omega) hi'
      simpa using this
  have hgt : ∀ i, mid ≤ i → i < b → ltN d[pv]! d'[i]! = true := fun i hi hi' => by
    have := h.hi i (by omega) hi'
    simpa using this
  refine ⟨h1, by omega, hpm.1, Or.inr fun i hi hi' => ?_, fun R hR hs => ⟨Sort.permIn_trans _ _ _ a b hpm (Sort.permIn_mono _ _ mid b a b (by omega) (Nat.le_refl _) hb4 hR), ?_⟩⟩
  · cases hc : ltN d'[i]! d'[mid - 1]! with
    | false => rfl
    | true => have := swoN.trans _ _ _ (hgt i hi hi') hc; rw [hle (mid - 1) (by omega) (by omega)] at this; cases this
  · refine Sort.sorted_glue_eq swoN d[pv]! hs (fun i hi hi' => ?_) (fun i hi hi' => ?_) (Sort.permIn_all d' R mid b (fun x => ltN d[pv]! x = true) hb4 hR hgt)
    · rw [hR.2.1 i (Or.inl hi')]; exact hle i hi hi'
    · rw [hR.2.1 i (Or.inl hi')]; exact hge4 i hi (by omega)
theorem rest_part {a b mid : Nat} {d d' : Array Nat} (hb : b ≤ d.size) (hB : Sort.Below ltN a b d) (h : PartOk a b mid d d') :
    d'.size = d.size ∧ Sort.Below ltN a mid d' ∧ Sort.Below ltN (mid + 1) b d' ∧
    (∀ L, Sort.PermIn a mid d' L → Sort.SortedIn ltN a mid L → Sort.Below ltN (mid + 1) b L ∧ Rest a b d (mid + 1) b L) ∧
    (∀ L, Sort.PermIn (mid + 1) b d' L → Sort.SortedIn ltN (mid + 1) b L → Sort.Below ltN a mid L ∧ Rest a b d a mid L) := by
  obtain ⟨hpm, h1, h2, hlo, hhi⟩ := h
  have hb4 : b ≤ d'.size := by rw [hpm.1]; exact hb
  have hBa : Sort.Below ltN a mid d' := (hB.perm hb hpm).mono (by omega)
  have hBm : ∀ L : Array Nat, L[mid]! = d'[mid]! → (∀ i, mid < i → i < b → ltN L[i]! d'[mid]! = false) → Sort.Below ltN (mid + 1) b L := fun L e k => Or.inr fun i hi hi' => by
    rw [show mid + 1 - 1 = mid by omega, e]; exact k i (by omega) hi'
  refine ⟨hpm.1, hBa, hBm d' rfl hhi, fun L hL hs => ?_, fun L hL hs => ?_⟩
  · have eL : ∀ i, mid ≤ i → L[i]! = d'[i]! := fun i hi => hL.2.1 i (Or.inr hi)
    have loL := Sort.permIn_all d' L a mid (fun x => ltN x d'[mid]! = true) (by omega) hL hlo
    refine ⟨hBm L (eL mid (Nat.le_refl _)) fun i hi hi' => by rw [eL i (by omega)]; exact hhi i hi hi', fun R hR hsR => ?_⟩
    have hbL : b ≤ L.size := by rw [hL.1]; exact hb4
    have eR : ∀ i, i < mid + 1 → R[i]! = L[i]! := fun i hi => hR.2.1 i (Or.inl hi)
    have hiR := Sort.permIn_all L R (mid + 1) b (fun x => ltN x d'[mid]! = false) hbL hR fun i hi hi' => by rw [eL i (by omega)]; exact hhi i (by omega) hi'
    refine ⟨Sort.permIn_trans _ _ _ a b hpm (Sort.permIn_trans _ _ _ a b (Sort.permIn_mono _ _ a mid a b (Nat.le_refl _) (by omega) hb4 hL) (Sort.permIn_mono _ _ (mid + 1) b a b (by omega) (Nat.le_refl _) hbL hR)), ?_⟩
    refine Sort.sorted_glue swoN (hs.congr fun i hi hi' => eR i (by omega)) hsR (fun i hi hi' => ?_) (fun i hi hi' => ?_)
    · rw [eR i (by omega), eR mid (by omega), eL mid (Nat.le_refl _)]; exact loL i hi hi'
    · rw [eR mid (by omega), eL mid (Nat.le_refl _)]; exact hiR i (by omega) hi'
  · have eL : ∀ i, i < mid + 1 → L[i]! = d'[i]! := fun i hi => hL.2.1 i (Or.inl hi)
    have hiL := Sort.permIn_all d' L (mid + 1) b (fun x => ltN x d'[mid]! = false) hb4 hL fun i hi hi' => hhi i (by omega) hi'
    have hbL : b ≤ L.size := by rw [hL.1]; exact hb4
    have hBL : Sort.Below ltN a mid L := by
      rcases hBa with h0 | hBa
      · exact Or.inl h0
      · by_cases ha : a = 0
        · exact Or.inl ha
        · exact Or.inr fun i hi hi' => by rw [eL i (by omega), eL (a - 1) (by omega)]; exact hBa i hi hi'
    refine ⟨hBL, fun R hR hsR => ?_⟩
    have eR : ∀ i, mid ≤ i → R[i]! = L[i]! := fun i hi => hR.2.1 i (Or.inr hi)
    have loR := Sort.permIn_all L R a mid (fun x => ltN x d'[mid]! = true) (by omega) hR fun i hi hi' => by rw [eL i (by omega)]; exact hlo i hi hi'
    refine ⟨Sort.permIn_trans _ _ _ a b hpm (Sort.permIn_trans _ _ _ a b (Sort.permIn_mono _ _ (mid + 1) b a b (by omega) (Nat.le_refl _) hb4 hL) (Sort.permIn_mono _ _ a mid a b (Nat.le_refl _) (by omega) hbL hR)), ?_⟩
    refine Sort.sorted_glue swoN hsR (hs.congr fun i hi hi' => eR i (by omega)) (fun i hi hi' => ?_) (fun i hi hi' => ?_)
    · rw [eR mid (Nat.le_refl _), eL mid (by omega)]; exact loR i hi hi'
    · rw [eR i (by omega), eR mid (Nat.le_refl _), eL mid (by omega)]; exact hiL i (by omega) hi'
end Go.Proofs.Ytkpfnepbnaekoaa.Rd
