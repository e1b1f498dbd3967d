/- Which rows are come to, of lists. -/
import Derived.Test.YtaiiclkfnahghaaPJG
namespace Go.Proofs.Ytaiiclkfnahghaa.Rq
open Go.RowKit Go.Lib Go.Shelf
open Go.Proofs.Ytaiiclkfnahghaa.Rc
/-- Deep enough. -/
def Fits : Nat → List Rw → Prop
  | 0, _ => False
  | d + 1, l => leaf l = true ∨ ∀ m ∈ kidsL l, Fits d m
theorem NodeAt.fits {G : Nat → Prop} : ∀ {d : Nat} {w : World} {n : Nv} {l : List Rw}, NodeAt G d w n l → Fits d l
  | 0, _, _, _, h => h
  | d + 1, w, n, l, h => by
    cases hl : leaf l
    · obtain ⟨-, -, -, -, h5⟩ := h
      obtain ⟨-, -, ks, -, hk, -, -, hi⟩ := h5 hl
      refine .inr fun m hm => ?_
      obtain ⟨i, hi2, rfl⟩ := List.getElem_of_mem hm
      exact NodeAt.fits (hi i (by omega) hi2)
    · exact .inl hl
theorem vis_on (p : Nat → Nat → Nat → Bool) : ∀ (d : Nat) (l : List Rw) (b : Nat), On l → l.length ≤ b → ∀ m ∈ vis p d l, On m ∧ m.length ≤ b
  | 0, _, _, _, _, m, hm => by simp [vis] at hm
  | d + 1, l, b, ho, hb, m, hm => by
    unfold vis at hm
    split at hm
    · rcases List.mem_cons.1 hm with rfl | hm
      · exact ⟨ho, hb⟩
      · obtain ⟨k, hk, hm⟩ := List.mem_flatMap.1 hm
        unfold sub at hk
        split at hk
        · simp at hk
        · obtain ⟨-, q, -, rfl⟩ := mem_kids hk
          exact vis_on p d _ b (ho.part q) (Nat.le_trans (part_sub l q) hb) m hm
    · simp at hm
theorem visL_one (p : Nat → Nat → Nat → Bool) (d : Nat) (l : List Rw) : visL p d [l] = vis p d l := by simp [visL]
theorem seqs_cons (kp : Rw → Bool) (m : List Rw) (vs : List (List Rw)) : seqs kp (m :: vs) = (rowsOf m).filter kp ++ seqs kp vs := by simp [seqs]
theorem seqs_flat (kp : Rw → Bool) (f : List Rw → List (List Rw)) (ls : List (List Rw)) : seqs kp (ls.flatMap f) = ls.flatMap fun m => seqs kp (f m) := by
  unfold seqs; rw [List.flatMap_assoc]
theorem flat_perm {f g : List Rw → List Rw} : ∀ (ls : List (List Rw)), (∀ m ∈ ls, (f m).Perm (g m)) → (ls.flatMap f).Perm (ls.flatMap g)
  | [], _ => List.Perm.refl _
  | m :: ls, h => by
    rw [List.flatMap_cons, List.flatMap_cons]
    exact (h m (by simp)).append (flat_perm ls fun k hk => h k (by simp [hk]))
theorem kids_perm (l : List Rw) : ((kidsL l).flatMap fun m => m).Perm l := by
  rw [kids_flat (fun m => m) rfl l]; exact parts_perm l
theorem seqs_perm (p : Nat → Nat → Nat → Bool) (kp : Rw → Bool) (hp : ∀ m : List Rw, m ≠ [] → On m → p (cx m) (cy m) (lev m) = false → m.filter kp = []) : ∀ (d : Nat) (l : List Rw), Fits d l → On l → (seqs kp (vis p d l)).Perm (l.filter kp)
  | 0, _, h, _ => h.elim
  | d + 1, l, h, ho => by
    cases hq : p (cx l) (cy l) (lev l)
    · rw [show vis p (d + 1) l = [] by unfold vis; rw [if_neg (by rw [hq]; simp)]]
      by_cases hl : l = []
      · subst hl; exact List.Perm.refl _
      · rw [hp l hl ho hq]; exact List.Perm.refl _
    · rw [show vis p (d + 1) l = l :: (sub l).flatMap (vis p d) by unfold vis; rw [if_pos hq], seqs_cons]
      cases hf : leaf l
      · rw [show rowsOf l = [] by unfold rowsOf; rw [if_neg (by rw [hf]; simp)], show sub l = kidsL l by unfold sub; rw [if_neg (by rw [hf]; simp)], List.filter_nil, List.nil_append, seqs_flat]
        have hk : ∀ m ∈ kidsL l, (seqs kp (vis p d m)).Perm (m.filter kp) := fun m hm => by
          obtain ⟨-, q, -, e⟩ := mem_kids hm
          rcases h with h | h
          · rw [hf] at h; simp at h
          · exact seqs_perm p kp hp d m (h m hm) (by rw [e]; exact ho.part q)
        refine (flat_perm _ hk).trans ?_
        rw [← List.filter_flatMap]
        exact (kids_perm l).filter kp
      · rw [show rowsOf l = l by unfold rowsOf; rw [if_pos hf], show sub l = [] by unfold sub; rw [if_pos hf]]
        simp [seqs]
end Go.Proofs.Ytaiiclkfnahghaa.Rq
