/- Pieces of what was found, in plain terms. -/
import Derived.Test.YtimdlohdmddnjaaQOG
import Derived.Test.YtimdlohdmddnjaaQJJ
namespace Go.Proofs.Ytimdlohdmddnjaa.Rf
open Go.RowKit Go.Lib
open Go.Proofs.Ytimdlohdmddnjaa.Rc Go.Proofs.Ytimdlohdmddnjaa.Rq
theorem drop_upTo : ∀ {l : List Rw} (_ : Rise l) (af : Nat), l.drop (upTo l af) = l.filter fun r => decide (af < r.id)
 | [], _, af => by simp [upTo]
 | a :: t, h, af => by
  have ht := List.pairwise_cons.1 h
  unfold upTo
  rw [List.findIdx_cons]
  by_cases c : af < a.id
  ·simp only [c, decide_true, cond_true, List.drop_zero]
   rw [List.filter_eq_self.2]
   intro r hr
   rcases List.mem_cons.1 hr with rfl | hr
   ·simpa using c
   ·have := ht.1 r hr
    simp
    omega
  ·simp only [c, decide_false, cond_false, List.drop_succ_cons]
   rw [List.filter_cons_of_neg (by simpa using c)]
   exact drop_upTo ht.2 af
theorem rest_is {q : Qr} {l : List Rw} (h : q.k ≠ 3 → Rise l) : rest q l = if q.k = 3 then l else l.filter fun r => !q.fr || decide (q.af < r.id) := by
 unfold rest
 by_cases hk : q.k = 3
 ·simp [hk]
 ·rw [if_neg hk]
  cases hf : q.fr
  ·simp [List.filter_eq_self.2]
  ·simp only [hk, ne_eq, not_false_eq_true, and_self, if_true, Bool.not_true, Bool.false_or]
   exact drop_upTo (h hk) q.af
theorem rest_drop (q : Qr) (l : List Rw) : ∃ s, s ≤ l.length ∧ rest q l = l.drop s := by
 unfold rest
 split
 ·exact ⟨_, upTo_le l _, rfl⟩
 ·exact ⟨0, Nat.zero_le _, rfl⟩
theorem rest_len (q : Qr) (l : List Rw) : (rest q l).length ≤ l.length := by
 obtain ⟨s, _, e⟩ := rest_drop q l
 rw [e, List.length_drop]
 omega
def nxt (q : Qr) (id : Nat) : Qr := ⟨q.k, q.a, q.b, q.c, q.d, q.x, q.y, q.sq, q.K, id, true⟩
theorem rest_next {q : Qr} {F : List Rw} (hF : Rise F) (hk : q.k ≠ 3) {K : Nat} (h0 : 0 < K) (hlt : K < (rest q F).length) : rest (nxt q (rat ((rest q F).take K) (K - 1)).id) F = (rest q F).drop K := by
 obtain ⟨s, hs, e⟩ := rest_drop q F
 rw [e] at hlt ⊢
 have hl : s + K < F.length := by rw [List.length_drop] at hlt; omega
 have er : rat ((F.drop s).take K) (K - 1) = rat F (s + (K - 1)) := by
  unfold rat
  rw [List.getElem?_take_of_lt (by omega), List.getElem?_drop]
 rw [er]
 have eu : upTo F (rat F (s + (K - 1))).id = s + K := by
  refine upTo_is (by omega) (fun j hj => ?_) (fun j h1 h2 => ?_)
  ·rcases Nat.lt_or_ge j (s + (K - 1)) with h | h
   ·exact Nat.le_of_lt (rise_lt hF h (by omega))
   ·obtain rfl : j = s + (K - 1) := by omega
    exact Nat.le_refl _
  ·exact rise_lt hF (by omega) h2
 unfold rest nxt
 simp only [hk, ne_eq, not_false_eq_true, and_self, if_true]
 rw [eu, List.drop_drop]
def pce (R : List Rw) (K i : Nat) : List Rw := (R.drop (i * K)).take K
theorem pce_next (R : List Rw) (K i : Nat) : R.take ((i + 1) * K) = R.take (i * K) ++ pce R K i := by
 unfold pce
 rw [Nat.add_mul, Nat.one_mul, List.take_add]
theorem drop_next (R : List Rw) (K i : Nat) : (R.drop (i * K)).drop K = R.drop ((i + 1) * K) := by rw [List.drop_drop, Nat.add_mul, Nat.one_mul]
end Go.Proofs.Ytimdlohdmddnjaa.Rf
