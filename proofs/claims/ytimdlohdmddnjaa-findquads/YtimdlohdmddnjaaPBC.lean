/- Rows of a block moved about, in plain terms: two stretches change places, a stretch is turned about, two sorted ones are merged. -/
import Derived.Sort.AssemblyPlain
namespace Go.Proofs.Ytimdlohdmddnjaa.Rq
open Go.Sort
section
variable {α : Type} [Inhabited α]
def SwR (d d' : Array α) (a b n : Nat) : Prop := d'.size = d.size ∧ ∀ k, d'[k]! = if a ≤ k ∧ k < a + n then d[b + (k - a)]! else if b ≤ k ∧ k < b + n then d[a + (k - b)]! else d[k]!
theorem SwR.zero (d : Array α) (a b : Nat) : SwR d d a b 0 := ⟨rfl, fun k => by rw [if_neg (by omega), if_neg (by omega)]⟩
theorem SwR.step {d d1 : Array α} {a b i : Nat} (h : SwR d d1 a b i) (hab : a + i < b) (hb : b + i < d.size) : SwR d (swp d1 (a + i) (b + i)) a b (i + 1) := by
 refine ⟨by rw [size_swp, h.1], fun k => ?_⟩
 have e1 : d1[a + i]! = d[a + i]! := by rw [h.2, if_neg (by omega), if_neg (by omega)]
 have e2 : d1[b + i]! = d[b + i]! := by rw [h.2, if_neg (by omega), if_neg (by omega)]
 by_cases h1 : k = a + i
 ·subst h1
  rw [swp_left _ _ _ (by rw [h.1]; omega) (by omega), e2, if_pos (by omega)]
  congr 1; omega
 ·by_cases h2 : k = b + i
  ·subst h2
   rw [swp_right _ _ _ (by rw [h.1]; omega), e1, if_neg (by omega), if_pos (by omega)]
   congr 1; omega
  ·rw [swp_other _ _ _ _ h1 h2, h.2]
   by_cases h3 : a ≤ k ∧ k < a + i
   ·rw [if_pos h3, if_pos (by omega)]
   ·rw [if_neg h3, if_neg (c := a ≤ k ∧ k < a + (i + 1)) (by omega)]
    by_cases h4 : b ≤ k ∧ k < b + i
    ·rw [if_pos h4, if_pos (by omega)]
    ·rw [if_neg h4, if_neg (by omega)]
def Rot (d d' : Array α) (a m b : Nat) : Prop := d'.size = d.size ∧ ∀ k, d'[k]! = if a ≤ k ∧ k < a + (b - m) then d[m + (k - a)]! else if a + (b - m) ≤ k ∧ k < b then d[a + (k - (a + (b - m)))]! else d[k]!
theorem Rot.left (d : Array α) (m b : Nat) : Rot d d m m b := ⟨rfl, fun k => by
 by_cases h : m ≤ k ∧ k < m + (b - m)
 ·rw [if_pos h]; congr 1; omega
 ·rw [if_neg h, if_neg (by omega)]⟩
theorem Rot.right (d : Array α) (a m : Nat) : Rot d d a m m := ⟨rfl, fun k => by
 rw [if_neg (by omega)]
 by_cases h : a + (m - m) ≤ k ∧ k < m
 ·rw [if_pos h]; congr 1; omega
 ·rw [if_neg h]⟩
theorem Rot.up {d d1 : Array α} {a k : Nat} (h : Rot d d1 a (a + 1) (k + 1)) (hk : a ≤ k) (hs : k + 1 < d.size) : Rot d (swp d1 k (k + 1)) a (a + 1) (k + 2) := by
 refine ⟨by rw [size_swp, h.1], fun q => ?_⟩
 by_cases h1 : q = k
 ·subst h1
  rw [swp_left _ _ _ (by rw [h.1]; omega) (by omega), h.2, if_neg (by omega), if_neg (by omega), if_pos (by omega)]
  congr 1; omega
 ·by_cases h2 : q = k + 1
  ·subst h2
   rw [swp_right _ _ _ (by rw [h.1]; omega), h.2, if_neg (by omega), if_pos (by omega), if_neg (by omega), if_pos (by omega)]
   congr 1; omega
  ·rw [swp_other _ _ _ _ h1 h2, h.2]
   by_cases h3 : a ≤ q ∧ q < k
   ·rw [if_pos (by omega), if_pos (by omega)]
   ·rw [if_neg (by omega), if_neg (by omega), if_neg (by omega), if_neg (by omega)]
theorem Rot.down {d d1 : Array α} {k m : Nat} (h : Rot d d1 (k + 1) m (m + 1)) (hk : k < m) (hs : m < d.size) : Rot d (swp d1 (k + 1) k) k m (m + 1) := by
 refine ⟨by rw [size_swp, h.1], fun q => ?_⟩
 by_cases h1 : q = k + 1
 ·subst h1
  rw [swp_left _ _ _ (by rw [h.1]; omega) (by omega), h.2, if_neg (by omega), if_neg (by omega), if_neg (by omega), if_pos (by omega)]
  congr 1; omega
 ·by_cases h2 : q = k
  ·subst h2
   rw [swp_right _ _ _ (by rw [h.1]; omega), h.2, if_pos (by omega), if_pos (by omega)]
   congr 1; omega
  ·rw [swp_other _ _ _ _ h1 h2, h.2]
   by_cases h3 : k + 1 < q ∧ q < m + 1
   ·rw [if_neg (by omega), if_pos (by omega), if_neg (by omega), if_pos (by omega)]
    congr 1; omega
   ·rw [if_neg (by omega), if_neg (by omega), if_neg (by omega), if_neg (by omega)]
theorem rot_more {d1 d2 d' : Array α} {i j m : Nat} (hij : j < i) (hm : i ≤ m) (_ : m + j ≤ d1.size) (h : SwR d1 d2 (m - i) m j) (h' : Rot d2 d' (m - (i - j)) m (m + j)) : Rot d1 d' (m - i) m (m + j) := by
 refine ⟨by rw [h'.1, h.1], fun k => ?_⟩
 rw [h'.2]
 by_cases c1 : m - i ≤ k ∧ k < m - i + j
 ·rw [if_neg (by omega), if_neg (by omega), if_pos (by omega), h.2, if_pos (by omega)]
 ·by_cases c2 : m - i + j ≤ k ∧ k < m - i + j + j
  ·rw [if_pos (by omega), if_neg (by omega), if_pos (by omega), h.2, if_neg (by omega), if_pos (by omega)]
   congr 1; omega
  ·by_cases c3 : m - i + j + j ≤ k ∧ k < m + j
   ·rw [if_neg (by omega), if_pos (by omega), if_neg (by omega), if_pos (by omega), h.2, if_neg (by omega), if_neg (by omega)]
    congr 1; omega
   ·rw [if_neg (by omega), if_neg (by omega), if_neg (by omega), if_neg (by omega), h.2, if_neg (by omega), if_neg (by omega)]
theorem rot_less {d1 d2 d' : Array α} {i j m : Nat} (hij : i < j) (hm : i ≤ m) (_ : m + j ≤ d1.size) (h : SwR d1 d2 (m - i) (m + j - i) i) (h' : Rot d2 d' (m - i) m (m + (j - i))) : Rot d1 d' (m - i) m (m + j) := by
 refine ⟨by rw [h'.1, h.1], fun k => ?_⟩
 rw [h'.2]
 by_cases c1 : m - i ≤ k ∧ k < m - i + (j - i)
 ·rw [if_pos (by omega), if_pos (by omega), h.2, if_neg (by omega), if_neg (by omega)]
 ·by_cases c2 : m - i + (j - i) ≤ k ∧ k < m - i + j
  ·rw [if_neg (by omega), if_pos (by omega), if_pos (by omega), h.2, if_pos (by omega)]
   congr 1; omega
  ·by_cases c3 : m - i + j ≤ k ∧ k < m + j
   ·rw [if_neg (by omega), if_neg (by omega), if_neg (by omega), if_pos (by omega), h.2, if_neg (by omega), if_pos (by omega)]
    congr 1; omega
   ·rw [if_neg (by omega), if_neg (by omega), if_neg (by omega), if_neg (by omega), h.2, if_neg (by omega), if_neg (by omega)]
theorem rot_even {d1 d2 : Array α} {i m : Nat} (hm : i ≤ m) (h : SwR d1 d2 (m - i) m i) : Rot d1 d2 (m - i) m (m + i) := by
 refine ⟨h.1, fun k => ?_⟩
 rw [h.2]
 by_cases c1 : m - i ≤ k ∧ k < m - i + i
 ·rw [if_pos c1, if_pos (by omega)]
 ·rw [if_neg c1, if_neg (c := m - i ≤ k ∧ k < m - i + (m + i - m)) (by omega)]
  by_cases c2 : m ≤ k ∧ k < m + i
  ·rw [if_pos c2, if_pos (by omega)]
   congr 1; omega
  ·rw [if_neg c2, if_neg (by omega)]
def Srt (K : α → Nat) (a b : Nat) (d : Array α) : Prop := ∀ i j, a ≤ i → i < j → j < b → K d[i]! ≤ K d[j]!
theorem Srt.le {K : α → Nat} {a b : Nat} {d : Array α} (h : Srt K a b d) {i j : Nat} (hi : a ≤ i) (hij : i ≤ j) (hj : j < b) : K d[i]! ≤ K d[j]! := by
 by_cases e : i = j
 ·rw [e]; exact Nat.le_refl _
 ·exact h i j hi (by omega) hj
theorem Srt.congr {K : α → Nat} {a b : Nat} {d d' : Array α} (h : Srt K a b d) (e : ∀ k, a ≤ k → k < b → d'[k]! = d[k]!) : Srt K a b d' := fun i j hi hij hj => by
 rw [e i hi (by omega), e j (by omega) hj]; exact h i j hi hij hj
theorem Srt.sub {K : α → Nat} {a b a' b' : Nat} {d : Array α} (h : Srt K a b d) (ha : a ≤ a') (hb : b' ≤ b) : Srt K a' b' d := fun i j hi hij hj => h i j (by omega) hij (by omega)
theorem Srt.none {K : α → Nat} {a b : Nat} {d : Array α} (h : b ≤ a + 1) : Srt K a b d := fun i j hi hij hj => by omega
omit [Inhabited α] in
theorem swo_key (K : α → Nat) : SWO (fun x y : α => decide (K x < K y)) :=
 ⟨fun x => by simp, fun x y z h1 h2 => by simp only [decide_eq_true_eq] at h1 h2 ⊢; omega, fun x y z h1 h2 => by simp only [decide_eq_false_iff_not] at h1 h2 ⊢; omega⟩
theorem ins_key (K : α → Nat) (d : Array α) (a b : Nat) (hab : a ≤ b) (hb : b ≤ d.size) : PermIn a b d (insertionSort (fun x y : α => decide (K x < K y)) d a b) ∧ Srt K a b (insertionSort (fun x y : α => decide (K x < K y)) d a b) := by
 obtain ⟨h1, h2⟩ := insertionSort_holds (lt := fun x y : α => decide (K x < K y)) (swo_key K) d a b hab hb
 exact ⟨h1, fun i j hi hij hj => by have := h2 i j hi hij hj; simp only [decide_eq_false_iff_not] at this; omega⟩
theorem ok_perm {ok : α → Prop} {d d' : Array α} {a b : Nat} (hb : b ≤ d.size) (hp : PermIn a b d d') (h : ∀ k, k < d.size → ok d[k]!) : ∀ k, k < d'.size → ok d'[k]! := by
 intro k hk
 rw [hp.1] at hk
 by_cases c : a ≤ k ∧ k < b
 ·exact permIn_all d d' a b ok hb hp (fun i _ hi => h i (by omega)) k c.1 c.2
 ·rw [hp.2.1 k (by omega)]; exact h k hk
theorem sym_one {K : α → Nat} {d d' : Array α} {a b i : Nat} (hs : Srt K (a + 1) b d) (hi : a + 1 ≤ i) (hb : i ≤ b) (h1 : ∀ k, a + 1 ≤ k → k < i → K d[k]! < K d[a]!) (h2 : ∀ k, i ≤ k → k < b → K d[a]! ≤ K d[k]!) (hr : Rot d d' a (a + 1) i) : Srt K a b d' := by
 intro p q hp hpq hq
 rw [hr.2 p, hr.2 q]
 by_cases c1 : q < i - 1
 ·rw [if_pos (by omega), if_pos (by omega)]
  exact hs.le (by omega) (by omega) (by omega)
 ·by_cases c2 : q = i - 1
  ·rw [if_pos (by omega), if_neg (by omega), if_pos (by omega), show a + (q - (a + (i - (a + 1)))) = a by omega]
   exact Nat.le_of_lt (h1 _ (by omega) (by omega))
  ·rw [if_neg (c := a ≤ q ∧ q < a + (i - (a + 1))) (by omega), if_neg (c := a + (i - (a + 1)) ≤ q ∧ q < i) (by omega)]
   by_cases c3 : p < i - 1
   ·rw [if_pos (by omega)]
    exact hs.le (by omega) (by omega) (by omega)
   ·by_cases c4 : p = i - 1
    ·rw [if_neg (by omega), if_pos (by omega), show a + (p - (a + (i - (a + 1)))) = a by omega]
     exact h2 _ (by omega) (by omega)
    ·rw [if_neg (by omega), if_neg (by omega)]
     exact hs.le (by omega) (by omega) (by omega)
theorem sym_last {K : α → Nat} {d d' : Array α} {a m i : Nat} (hs : Srt K a m d) (hi : a ≤ i) (hb : i ≤ m) (h1 : ∀ k, a ≤ k → k < i → K d[k]! ≤ K d[m]!) (h2 : ∀ k, i ≤ k → k < m → K d[m]! < K d[k]!) (hr : Rot d d' i m (m + 1)) : Srt K a (m + 1) d' := by
 intro p q hp hpq hq
 rw [hr.2 p, hr.2 q]
 by_cases c1 : q < i
 ·rw [if_neg (by omega), if_neg (by omega), if_neg (by omega), if_neg (by omega)]
  exact hs.le (by omega) (by omega) (by omega)
 ·by_cases c2 : q = i
  ·rw [if_neg (by omega), if_neg (by omega), if_pos (by omega), show m + (q - i) = m by omega]
   exact h1 _ (by omega) (by omega)
  ·rw [if_neg (c := i ≤ q ∧ q < i + (m + 1 - m)) (by omega), if_pos (c := i + (m + 1 - m) ≤ q ∧ q < m + 1) (by omega)]
   by_cases c3 : p < i
   ·rw [if_neg (by omega), if_neg (by omega)]
    exact hs.le (by omega) (by omega) (by omega)
   ·by_cases c4 : p = i
    ·rw [if_pos (by omega), show m + (p - i) = m by omega]
     exact Nat.le_of_lt (h2 _ (by omega) (by omega))
    ·rw [if_neg (by omega), if_pos (by omega)]
     exact hs.le (by omega) (by omega) (by omega)
theorem sym_cut {K : α → Nat} {d d1 : Array α} {a m b mid s e : Nat} (hl : Srt K a m d) (hr : Srt K m b d) (_ : a < m) (_ : m < b) (_ : a < mid ∧ mid < b) (hse : s + e = mid + m) (has : a ≤ s) (hsm : s ≤ m) (hme : m ≤ e) (heb : e ≤ b)
  (h1 : a < s → e < b → K d[s - 1]! ≤ K d[e]!) (h2 : s < m → m < e → K d[e - 1]! < K d[s]!) (hR : Rot d d1 s m e) :
  Srt K a s d1 ∧ Srt K s mid d1 ∧ Srt K mid e d1 ∧ Srt K e b d1 ∧ ∀ i j, a ≤ i → i < mid → mid ≤ j → j < b → K d1[i]! ≤ K d1[j]! := by
 have f1 : ∀ k, k < s → d1[k]! = d[k]! := fun k hk => by rw [hR.2, if_neg (by omega), if_neg (by omega)]
 have f2 : ∀ k, s ≤ k → k < mid → d1[k]! = d[m + (k - s)]! := fun k h h' => by rw [hR.2, if_pos (by omega)]
 have f3 : ∀ k, mid ≤ k → k < e → d1[k]! = d[s + (k - mid)]! := fun k h h' => by rw [hR.2, if_neg (by omega), if_pos (by omega)]; congr 2; omega
 have f4 : ∀ k, e ≤ k → d1[k]! = d[k]! := fun k hk => by rw [hR.2, if_neg (by omega), if_neg (by omega)]
 refine ⟨?_, ?_, ?_, ?_, ?_⟩
 ·exact (hl.sub (Nat.le_refl _) hsm).congr fun k _ h => f1 k h
 ·intro i j hi hij hj
  rw [f2 i hi (by omega), f2 j (by omega) hj]
  exact hr.le (by omega) (by omega) (by omega)
 ·intro i j hi hij hj
  rw [f3 i hi (by omega), f3 j (by omega) hj]
  exact hl.le (by omega) (by omega) (by omega)
 ·exact (hr.sub hme (Nat.le_refl _)).congr fun k h _ => f4 k h
 ·intro i j hi hi' hj hj'
  by_cases c1 : i < s
  ·rw [f1 i c1]
   by_cases c2 : j < e
   ·rw [f3 j hj c2]
    exact hl.le hi (by omega) (by omega)
   ·rw [f4 j (by omega)]
    have g1 : K d[i]! ≤ K d[s - 1]! := hl.le hi (by omega) (by omega)
    have g2 : K d[e]! ≤ K d[j]! := hr.le hme (by omega) hj'
    have := h1 (by omega) (by omega)
    omega
  ·rw [f2 i (by omega) hi']
   by_cases c2 : j < e
   ·rw [f3 j hj c2]
    have g1 : K d[m + (i - s)]! ≤ K d[e - 1]! := hr.le (by omega) (by omega) (by omega)
    have g2 : K d[s]! ≤ K d[s + (j - mid)]! := hl.le has (by omega) (by omega)
    have := h2 (by omega) (by omega)
    omega
   ·rw [f4 j (by omega)]
    exact hr.le (by omega) (by omega) hj'
theorem sym_join {K : α → Nat} {d1 d2 d3 : Array α} {a mid b : Nat} (hb : b ≤ d1.size) (_ : a ≤ mid) (hm : mid ≤ b) (hx : ∀ i j, a ≤ i → i < mid → mid ≤ j → j < b → K d1[i]! ≤ K d1[j]!) (p2 : PermIn a mid d1 d2) (s2 : Srt K a mid d2) (p3 : PermIn mid b d2 d3) (s3 : Srt K mid b d3) : Srt K a b d3 := by
 intro i j hi hij hj
 by_cases c1 : j < mid
 ·rw [p3.2.1 i (by omega), p3.2.1 j (by omega)]
  exact s2 i j hi hij c1
 ·by_cases c2 : mid ≤ i
  ·exact s3 i j c2 hij hj
  ·rw [p3.2.1 i (by omega)]
   have g1 : ∀ q, mid ≤ q → q < b → K d2[i]! ≤ K d1[q]! := permIn_all d1 d2 a mid (fun x => ∀ q, mid ≤ q → q < b → K x ≤ K d1[q]!) (by omega) p2 (fun p hp hp' q hq hq' => hx p q hp hp' hq hq') i hi (by omega)
   exact permIn_all d2 d3 mid b (fun x => K d2[i]! ≤ K x) (by rw [p2.1]; exact hb) p3 (fun q hq hq' => by rw [p2.2.1 q (by omega)]; exact g1 q hq hq') j (by omega) hj
def Suf (K : α → Nat) (s c n : Nat) (d : Array α) : Prop := ∀ t, Srt K (c + t * s) (min (c + (t + 1) * s) n) d
theorem Suf.head {K : α → Nat} {s c n : Nat} {d : Array α} (h : Suf K s c n d) : Srt K c (min (c + s) n) d := by
 have := h 0
 rwa [Nat.zero_mul, Nat.zero_add, Nat.one_mul] at this
theorem Suf.tail {K : α → Nat} {s c n : Nat} {d : Array α} (h : Suf K s c n d) : Suf K s (c + s) n d := fun t => by
 have := h (t + 1)
 have e1 : c + (t + 1) * s = c + s + t * s := by rw [Nat.succ_mul]; omega
 have e2 : c + (t + 1 + 1) * s = c + s + (t + 1) * s := by rw [Nat.succ_mul (t + 1)]; omega
 rwa [e1, e2] at this
theorem Suf.congr {K : α → Nat} {s c n : Nat} {d d' : Array α} (h : Suf K s c n d) (e : ∀ k, c ≤ k → d'[k]! = d[k]!) : Suf K s c n d' := fun t => (h t).congr fun k hk _ => e k (by omega)
def Pre (K : α → Nat) (s q : Nat) (d : Array α) : Prop := ∀ t, t < q → Srt K (t * s) ((t + 1) * s) d
theorem Pre.zero (K : α → Nat) (s : Nat) (d : Array α) : Pre K s 0 d := fun _ h => absurd h (Nat.not_lt_zero _)
theorem Pre.snoc {K : α → Nat} {s q a : Nat} {d d' : Array α} (h : Pre K s q d) (ha : a = q * s) (e : ∀ k, k < a → d'[k]! = d[k]!) (h2 : Srt K a (a + s) d') : Pre K s (q + 1) d' := by
 intro t ht
 by_cases c : t < q
 ·have : (t + 1) * s ≤ q * s := Nat.mul_le_mul_right s c
  exact (h t c).congr fun k _ hk => e k (by omega)
 ·have : t = q := by omega
  subst this
  rw [Nat.succ_mul, ← ha]
  exact h2
theorem Pre.suf {K : α → Nat} {s q a n : Nat} {d d' : Array α} (h : Pre K s q d) (ha : a = q * s) (hn : n ≤ a + s) (e : ∀ k, k < a → d'[k]! = d[k]!) (h2 : Srt K a n d') : Suf K s 0 n d' := by
 intro t
 rw [Nat.zero_add, Nat.zero_add]
 by_cases c : t < q
 ·have : (t + 1) * s ≤ q * s := Nat.mul_le_mul_right s c
  exact ((h t c).congr fun k _ hk => e k (by omega)).sub (Nat.le_refl _) (Nat.min_le_left _ _)
 ·by_cases c2 : t = q
  ·subst c2
   rw [← ha]
   exact h2.sub (Nat.le_refl _) (Nat.min_le_right _ _)
  ·have : (q + 1) * s ≤ t * s := Nat.mul_le_mul_right s (by omega)
   rw [Nat.succ_mul] at this
   exact Srt.none (by omega)
end
end Go.Proofs.Ytimdlohdmddnjaa.Rq
