/- Rings without a generation, in plain terms. -/
import Derived.Test.YtaoadopnhphjbaaDoorPWK
namespace Go.Proofs.YtaoadopnhphjbaaDoor.Rs
theorem rises_less (a b : Int) (h : b ≤ a) (l : List Rk.Ky) (hr : Rk.rises a l = true) : Rk.rises b l = true := by
  cases l with
  | nil => rfl
  | cons k t =>
    rw [Rk.rises_cons] at hr ⊢
    exact ⟨by omega, hr.2⟩
theorem rises_filter (p : Rk.Ky → Bool) (l : List Rk.Ky) : ∀ a, Rk.rises a l = true → Rk.rises a (l.filter p) = true := by
  induction l with
  | nil => intro a _; rfl
  | cons k t ih =>
    intro a hr
    rw [Rk.rises_cons] at hr
    rw [List.filter_cons]
    split
    · rw [Rk.rises_cons]
      exact ⟨hr.1, hr.2.1, ih _ hr.2.2⟩
    · exact rises_less k.1 a (by omega) _ (ih _ hr.2.2)
theorem right_filter (p : Rk.Ky → Bool) (l : List Rk.Ky) (h : Rk.rightS l = true) : Rk.rightS (l.filter p) = true := by
  rw [Rk.right_iff] at h ⊢
  exact ⟨Nat.le_trans (List.length_filter_le _ _) h.1, rises_filter p l 0 h.2⟩
/-- The ring without a generation. -/
def lessS (l : List Rk.Ky) (g : Int) : List Rk.Ky := l.filter fun k => !decide (k.1 = g)
theorem find_less (l : List Rk.Ky) (g x : Int) (h : x ≠ g) : Rk.findS (lessS l g) x = Rk.findS l x := by
  unfold Rk.findS lessS
  induction l with
  | nil => rfl
  | cons k t ih =>
    rw [List.filter_cons]
    by_cases hk : k.1 = g
    · rw [if_neg (by simp [hk]), ih, List.find?_cons_of_neg (by simp; omega)]
    · rw [if_pos (by simp [hk])]
      by_cases hx : k.1 = x
      · rw [List.find?_cons_of_pos (by simp [hx]), List.find?_cons_of_pos (by simp [hx])]
      · rw [List.find?_cons_of_neg (by simp [hx]), List.find?_cons_of_neg (by simp [hx]), ih]
theorem less_seal (Kt : Nat → Int) (l : List Rk.Ky) (g : Int) (h : Hd) (hg : h.2.1 ≠ g) (s : ByteArray) (h0 : sE l h s = 0) : sE (lessS l g) h s = 0 ∧ sV Kt (lessS l g) h s = sV Kt l h s := by
  obtain ⟨hf, hs⟩ := (se_zero l h s).1 h0
  obtain ⟨hr, hfd, _, _⟩ := fe_zero l _ hf
  have hr2 : Rk.rightS (lessS l g) = true := right_filter _ l hr
  have e1 : Rk.feS (lessS l g) h.2.1 = Rk.feS l h.2.1 := by unfold Rk.feS; rw [if_pos hr, if_pos hr2, find_less l g _ hg]
  have e2 : Rk.fkS (lessS l g) h.2.1 = Rk.fkS l h.2.1 := by unfold Rk.fkS; rw [if_pos hr, if_pos hr2, find_less l g _ hg]
  have e3 : sE (lessS l g) h s = 0 := (se_zero _ _ _).2 ⟨by rw [e1]; exact hf, hs⟩
  exact ⟨e3, by rw [sv_block _ _ _ _ e3, sv_block _ _ _ _ h0, e2]⟩
end Go.Proofs.YtaoadopnhphjbaaDoor.Rs
