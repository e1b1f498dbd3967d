/- Bytes read at a place, in plain terms. -/
import Derived.Test.YtljponlfjombaaaPIZ
import Derived.Test.YtljponlfjombaaaPHR
namespace Go.Proofs.Ytljponlfjombaaa.Rw
open Go.RowKit Go.Lib Go.Shelf
open Go.Proofs.Ytljponlfjombaaa.Rc Go.Proofs.Ytljponlfjombaaa.Rq
/-- What is left behind so many bytes. -/
def sA (s : ByteArray) (a : Nat) : RS := sT (s.data.toList.drop a)
theorem sA_0 (s : ByteArray) : (⟨s, false⟩ : RS) = sA s 0 := rfl
theorem s_len (s : ByteArray) : s.data.toList.length = s.size := by rw [Array.length_toList]; rfl
theorem sx (s : ByteArray) (a b : Nat) : s.extract a b = ⟨((s.data.toList.drop a).take (b - a)).toArray⟩ := by
  have := ByteArray.extract_mk s.data.toList a b
  rw [← this]
theorem sx_size (s : ByteArray) (a b : Nat) (hb : b ≤ s.size) : (s.extract a b).size = b - a := by rw [ByteArray.size_extract]; omega
theorem sA_len (s : ByteArray) (a : Nat) : (s.data.toList.drop a).length = s.size - a := by rw [List.length_drop, s_len]
theorem num_sA {s : ByteArray} {a n : Nat} (h : a + n ≤ s.size) : numS (sA s a) n = valB (s.extract a (a + n)) n := by
  unfold sA
  rw [num_sT (by rw [sA_len]; omega), sx, Nat.add_sub_cancel_left]
theorem txt_sA {s : ByteArray} {a n : Nat} (h : a + n ≤ s.size) : txtS (sA s a) n = s.extract a (a + n) := by
  unfold sA
  rw [txt_sT (by rw [sA_len]; omega), sx, Nat.add_sub_cancel_left]
theorem aft_sA {s : ByteArray} {a n : Nat} (h : a + n ≤ s.size) : aftS (sA s a) n = sA s (a + n) := by
  unfold sA
  rw [aft_sT (by rw [sA_len]; omega), List.drop_drop]
theorem short_sA {s : ByteArray} {a n : Nat} (h : s.size < a + n) (hn : 0 < n) : (aftS (sA s a) n).s = true := by
  cases e : (aftS (sA s a) n).s
  · have := aft_sT_len e
    rw [sA_len] at this
    omega
  · rfl
theorem s_sA (s : ByteArray) (a : Nat) : (sA s a).s = false := rfl
theorem end_sA (s : ByteArray) (a : Nat) : ((sA s a).r = ⟨#[]⟩) ↔ s.size ≤ a := by
  unfold sA
  rw [sT_r]
  constructor
  · intro e
    have := congrArg (fun b : ByteArray => b.data.toList.length) e
    simp only [List.length_drop] at this
    rw [show (⟨#[]⟩ : ByteArray).data.toList.length = 0 from rfl] at this
    rw [s_len] at this
    omega
  · intro h
    rw [List.drop_of_length_le (by rw [s_len]; exact h)]
theorem bt_sA {s : ByteArray} {a : Nat} (h : a < s.size) : numS (sA s a) 1 = bt s a := by
  rw [num_sA (by omega), valB, valB, Nat.zero_add, Nat.mul_zero, Nat.pow_zero, Nat.mul_one, sx, bt_of]
  unfold bt
  have : s.data.toList[a]? = s.data[a]? := by simp
  rw [← this]
  rw [List.getElem?_take_of_lt (by omega), List.getElem?_drop, Nat.add_zero]
/-- Lists read in order. -/
theorem lst_snoc {α : Type} (f : RS → α) (nx : RS → RS) : ∀ (n : Nat) (st : RS), (lstS f nx n st).1.length = n → (nx (lstS f nx n st).2).s = false → lstS f nx (n + 1) st = ((lstS f nx n st).1 ++ [f (lstS f nx n st).2], nx (lstS f nx n st).2)
  | 0, st, _, h => by
    have h' : (nx st).s = false := h
    rw [lst_go h']; rfl
  | n + 1, st, hl, h => by
    cases hx : (nx st).s
    · rw [lst_go hx] at hl h ⊢
      simp only [List.length_cons, Nat.add_right_cancel_iff] at hl h ⊢
      rw [lst_go hx, lst_snoc f nx n (nx st) hl h]
      rfl
    · rw [lst_stop hx] at hl
      cases hl
theorem lst_halt {α : Type} (f : RS → α) (nx : RS → RS) : ∀ (n : Nat) (st : RS), (lstS f nx n st).1.length = n → (nx (lstS f nx n st).2).s = true → ∀ m, n < m → (lstS f nx m st).2.s = true
  | 0, st, _, h, m, hm => by
    have h' : (nx st).s = true := h
    obtain ⟨k, rfl⟩ : ∃ k, m = k + 1 := ⟨m - 1, by omega⟩
    rw [lst_stop h']; exact h'
  | n + 1, st, hl, h, m, hm => by
    obtain ⟨k, rfl⟩ : ∃ k, m = k + 1 := ⟨m - 1, by omega⟩
    cases hx : (nx st).s
    · rw [lst_go hx] at hl h ⊢
      simp only [List.length_cons, Nat.add_right_cancel_iff] at hl h ⊢
      exact lst_halt f nx n (nx st) hl h k (by omega)
    · rw [lst_stop hx] at hl
      cases hl
/-- Refs at a place. -/
def kidA (s : ByteArray) (a : Nat) : Rf := ⟨valB (s.extract a (a + 4)) 4, s.extract (a + 4) (a + 36)⟩
theorem f2_sA {s : ByteArray} {a : Nat} (h : a + 36 ≤ s.size) : f2S (sA s a) = sA s (a + 36) := by
  unfold f2S
  rw [aft_sA (by omega), aft_sA (by omega)]
theorem ref_sA {s : ByteArray} {a : Nat} (h : a + 36 ≤ s.size) : refS (sA s a) = if isNo (kidA s a).p (kidA s a).t = true then ⟨0, ⟨#[]⟩⟩ else kidA s a := by
  unfold refS
  rw [num_sA (by omega), aft_sA (by omega), txt_sA (by omega)]
  rfl
theorem f2_short_sA {s : ByteArray} {a : Nat} (h : s.size < a + 36) : (f2S (sA s a)).s = true := by
  unfold f2S
  by_cases h4 : a + 4 ≤ s.size
  · rw [aft_sA h4]; exact short_sA (by omega) (by omega)
  · exact aft_no _ (short_sA (by omega) (by omega))
/-- Rows at a place. -/
def rowA (s : ByteArray) (a n : Nat) : Rw := ⟨valB (s.extract a (a + 8)) 8, valB (s.extract (a + 8) (a + 12)) 4, valB (s.extract (a + 12) (a + 16)) 4, s.extract (a + 17) (a + 17 + n)⟩
theorem row_sA {s : ByteArray} {a : Nat} (h : a + 17 + bt s (a + 16) ≤ s.size) : rowS (sA s a) = rowA s a (bt s (a + 16)) ∧ r5S (sA s a) = sA s (a + 17 + bt s (a + 16)) := by
  have e1 : r1S (sA s a) = sA s (a + 8) := aft_sA (by omega)
  have e2 : r2S (sA s a) = sA s (a + 12) := by unfold r2S; rw [e1]; exact aft_sA (by omega)
  have e3 : r3S (sA s a) = sA s (a + 16) := by unfold r3S; rw [e2]; exact aft_sA (by omega)
  have e4 : r4S (sA s a) = sA s (a + 17) := by unfold r4S; rw [e3]; exact aft_sA (by omega)
  have e5 : numS (sA s (a + 16)) 1 = bt s (a + 16) := bt_sA (by omega)
  unfold rowS r5S
  rw [e1, e2, e3, e4, e5, num_sA (by omega), num_sA (by omega), num_sA (by omega), txt_sA h]
  exact ⟨rfl, aft_sA h⟩
theorem row_short1 {s : ByteArray} {a : Nat} (h : s.size < a + 17) : (r5S (sA s a)).s = true := by
  cases e : (r5S (sA s a)).s
  · have k4 : (r4S (sA s a)).s = false := (aft_short e).1
    have k3 : (r3S (sA s a)).s = false := (aft_short k4).1
    have k2 : (r2S (sA s a)).s = false := (aft_short k3).1
    have k1 : (r1S (sA s a)).s = false := (aft_short k2).1
    have g1 : a + 8 ≤ s.size := by by_cases h : a + 8 ≤ s.size; exact h; have : (r1S (sA s a)).s = true := short_sA (by omega) (by omega); rw [this] at k1; cases k1
    have e1 : r1S (sA s a) = sA s (a + 8) := aft_sA (by omega)
    unfold r2S at k2; rw [e1] at k2
    have g2 : a + 12 ≤ s.size := by by_cases h : a + 12 ≤ s.size; exact h; have : (aftS (sA s (a + 8)) 4).s = true := short_sA (by omega) (by omega); rw [this] at k2; cases k2
    have e2 : r2S (sA s a) = sA s (a + 12) := by unfold r2S; rw [e1]; exact aft_sA (by omega)
    unfold r3S at k3; rw [e2] at k3
    have g3 : a + 16 ≤ s.size := by by_cases h : a + 16 ≤ s.size; exact h; have : (aftS (sA s (a + 12)) 4).s = true := short_sA (by omega) (by omega); rw [this] at k3; cases k3
    have e3 : r3S (sA s a) = sA s (a + 16) := by unfold r3S; rw [e2]; exact aft_sA (by omega)
    unfold r4S at k4; rw [e3] at k4
    have : (aftS (sA s (a + 16)) 1).s = true := short_sA (by omega) (by omega)
    rw [this] at k4; cases k4
  · rfl
theorem row_short2 {s : ByteArray} {a : Nat} (h0 : a + 17 ≤ s.size) (h : s.size < a + 17 + bt s (a + 16)) : (r5S (sA s a)).s = true := by
  have e1 : r1S (sA s a) = sA s (a + 8) := aft_sA (by omega)
  have e2 : r2S (sA s a) = sA s (a + 12) := by unfold r2S; rw [e1]; exact aft_sA (by omega)
  have e3 : r3S (sA s a) = sA s (a + 16) := by unfold r3S; rw [e2]; exact aft_sA (by omega)
  have e4 : r4S (sA s a) = sA s (a + 17) := by unfold r4S; rw [e3]; exact aft_sA (by omega)
  have e5 : numS (sA s (a + 16)) 1 = bt s (a + 16) := bt_sA (by omega)
  unfold r5S
  rw [e3, e4, e5]
  exact short_sA h (by omega)
/-- What a reading comes to: is it a page, and which? -/
def Res (s : ByteArray) (ok : Bool) (P : Pp) : Prop := decOK s = (ok && rpp P) ∧ (decOK s = true → P = rdP ⟨s, false⟩)
theorem res_no {s : ByteArray} {P : Pp} (h : decOK s = false) : Res s false P := ⟨by rw [h]; rfl, fun e => by rw [h] at e; cases e⟩
theorem no_short {s : ByteArray} (h : (pgE ⟨s, false⟩).s = true) : decOK s = false := by unfold decOK; rw [h]; rfl
theorem no_rest {s : ByteArray} (h : (pgE ⟨s, false⟩).r ≠ ⟨#[]⟩) : decOK s = false := by
  unfold decOK
  rw [decide_eq_false h]
  cases (pgE ⟨s, false⟩).s <;> rfl
end Go.Proofs.Ytljponlfjombaaa.Rw
/- A leaf's bytes, in plain terms. -/
namespace Go.Proofs.Ytljponlfjombaaa.Rw
open Go.RowKit Go.Lib Go.Shelf
open Go.Proofs.Ytljponlfjombaaa.Rc Go.Proofs.Ytljponlfjombaaa.Rq
/-- The rows read so far, and where reading goes on. -/
def rowsA (s : ByteArray) : Nat → List Rw × Nat
  | 0 => ([], 38)
  | i + 1 => ((rowsA s i).1 ++ [rowA s (rowsA s i).2 (bt s ((rowsA s i).2 + 16))], (rowsA s i).2 + 17 + bt s ((rowsA s i).2 + 16))
theorem rowsA_len (s : ByteArray) : ∀ i, (rowsA s i).1.length = i
  | 0 => rfl
  | i + 1 => by simp [rowsA, rowsA_len s i]
theorem rowsA_ge (s : ByteArray) : ∀ i, 38 ≤ (rowsA s i).2
  | 0 => Nat.le_refl _
  | i + 1 => by have := rowsA_ge s i; simp only [rowsA]; omega
theorem rowsA_mono (s : ByteArray) (i : Nat) : (rowsA s i).2 + 17 ≤ (rowsA s (i + 1)).2 := by simp only [rowsA]; omega
theorem rowsA_le (s : ByteArray) : ∀ i, (rowsA s (i + 1)).2 ≤ s.size → (rowsA s i).2 ≤ s.size := fun i h => by have := rowsA_mono s i; omega
theorem rows_sA {s : ByteArray} : ∀ i, (rowsA s i).2 ≤ s.size → lstS rowS r5S i (sA s 38) = ((rowsA s i).1, sA s (rowsA s i).2)
  | 0, _ => rfl
  | i + 1, h => by
    have ih := rows_sA (s := s) i (rowsA_le s i h)
    have hb : (rowsA s i).2 + 17 + bt s ((rowsA s i).2 + 16) ≤ s.size := h
    have hr := row_sA hb
    rw [lst_snoc rowS r5S i (sA s 38) (by rw [ih]; exact rowsA_len s i) (by rw [ih]; simp only; rw [hr.2]; rfl), ih]
    simp only
    rw [hr.1, hr.2]
    rfl
theorem rows_halt {s : ByteArray} {i n : Nat} (hi : (rowsA s i).2 ≤ s.size) (h : (r5S (sA s (rowsA s i).2)).s = true) (hn : i < n) : (lstS rowS r5S n (sA s 38)).2.s = true := by
  have e := rows_sA i hi
  exact lst_halt rowS r5S i (sA s 38) (by rw [e]; exact rowsA_len s i) (by rw [e]; exact h) n hn
theorem leaf_state {s : ByteArray} (h0 : 0 < s.size) (hb : bt s 0 = 1) : rdP ⟨s, false⟩ = ⟨1, 0, 0, 0, (lfL (sA s 1)).1, [], (lfN (sA s 1)).p, (lfN (sA s 1)).t⟩ ∧ pgE ⟨s, false⟩ = (lfL (sA s 1)).2 := by
  have e1 : numS (⟨s, false⟩ : RS) 1 = 1 := by rw [sA_0, bt_sA h0, hb]
  have e2 : aftS (⟨s, false⟩ : RS) 1 = sA s 1 := by rw [sA_0, aft_sA (by omega)]
  unfold rdP pgE
  rw [e1, e2, if_pos rfl, if_pos rfl]
  exact ⟨rfl, rfl⟩
theorem leaf_small {s : ByteArray} (h0 : 0 < s.size) (hb : bt s 0 = 1) (h : s.size < 38) : decOK s = false := by
  refine no_short ?_
  rw [(leaf_state h0 hb).2]
  unfold lfL
  cases e : (lstS rowS r5S (numS (sA s 1) 1) (f2S (aftS (sA s 1) 1))).2.s
  · have k4 := lst_short _ _ (fun st h => r5_short h) _ _ e
    have k1 := f2_short k4
    have g1 : 2 ≤ s.size := by by_cases h : 2 ≤ s.size; exact h; rw [short_sA (by omega) (by omega)] at k1; cases k1
    rw [aft_sA (by omega), f2_short_sA (by omega)] at k4
    cases k4
  · rfl
/-- The leaf's next ref, as it is read. -/
def nxA (s : ByteArray) : Rf := if isNo (kidA s 2).p (kidA s 2).t = true then ⟨0, ⟨#[]⟩⟩ else kidA s 2
theorem leaf_big {s : ByteArray} (h : 38 ≤ s.size) : lfN (sA s 1) = nxA s ∧ lfL (sA s 1) = lstS rowS r5S (bt s 1) (sA s 38) := by
  have e1 : aftS (sA s 1) 1 = sA s 2 := aft_sA (by omega)
  unfold lfN lfL
  rw [e1, bt_sA (by omega), ref_sA (by omega), f2_sA (by omega)]
  exact ⟨rfl, rfl⟩
theorem leaf_halt {s : ByteArray} (h0 : 0 < s.size) (hb : bt s 0 = 1) (h : 38 ≤ s.size) {i : Nat} (hi : (rowsA s i).2 ≤ s.size) (hs : (r5S (sA s (rowsA s i).2)).s = true) (hn : i < bt s 1) : decOK s = false := by
  refine no_short ?_
  rw [(leaf_state h0 hb).2, (leaf_big h).2]
  exact rows_halt hi hs hn
/-- The leaf that the bytes may be. -/
def lfP (s : ByteArray) (i : Nat) : Pp := ⟨1, 0, 0, 0, (rowsA s i).1, [], (nxA s).p, (nxA s).t⟩
theorem leaf_res {s : ByteArray} (h0 : 0 < s.size) (hb : bt s 0 = 1) (h : 38 ≤ s.size) (he : (rowsA s (bt s 1)).2 ≤ s.size) : Res s (decide ((rowsA s (bt s 1)).2 = s.size)) (lfP s (bt s 1)) := by
  obtain ⟨x1, x2⟩ := leaf_big h
  obtain ⟨y1, y2⟩ := leaf_state h0 hb
  rw [x2, rows_sA _ he] at y1 y2
  rw [x1] at y1
  simp only at y1 y2
  by_cases hz : (rowsA s (bt s 1)).2 = s.size
  · rw [decide_eq_true hz]
    have e : decOK s = rpp (rdP ⟨s, false⟩) := by
      unfold decOK
      rw [y2, decide_eq_true ((end_sA s _).2 (by omega))]
      rfl
    unfold Res
    rw [e, y1, Bool.true_and]
    exact ⟨rfl, fun _ => rfl⟩
  · rw [decide_eq_false hz]
    refine res_no (no_rest ?_)
    rw [y2, ne_eq, end_sA]
    omega
end Go.Proofs.Ytljponlfjombaaa.Rw
/- An inner page's bytes, in plain terms. -/
namespace Go.Proofs.Ytljponlfjombaaa.Rw
open Go.RowKit Go.Lib Go.Shelf
open Go.Proofs.Ytljponlfjombaaa.Rc Go.Proofs.Ytljponlfjombaaa.Rq
theorem refs_sA {s : ByteArray} {a : Nat} : ∀ n, a + 36 * n ≤ s.size → lstS refS f2S n (sA s a) = ((List.range n).map (fun i => refS (sA s (a + 36 * i))), sA s (a + 36 * n))
  | 0, _ => rfl
  | n + 1, h => by
    have ih := refs_sA (s := s) (a := a) n (by omega)
    have hl : (lstS refS f2S n (sA s a)).1.length = n := by rw [ih]; simp
    have hx : (f2S (lstS refS f2S n (sA s a)).2).s = false := by rw [ih]; simp only; rw [f2_sA (by omega)]; rfl
    rw [lst_snoc refS f2S n (sA s a) hl hx, ih]
    simp only
    rw [f2_sA (by omega), List.range_succ, List.map_append, show a + 36 * n + 36 = a + 36 * (n + 1) by omega]
    rfl
theorem refs_short {s : ByteArray} {a : Nat} (ha : a ≤ s.size) (n : Nat) (h : s.size < a + 36 * n) : (lstS refS f2S n (sA s a)).2.s = true := by
  obtain ⟨m, hm1, hm2⟩ : ∃ m, a + 36 * m ≤ s.size ∧ s.size < a + 36 * (m + 1) := ⟨(s.size - a) / 36, by omega, by omega⟩
  have e := refs_sA (s := s) (a := a) m hm1
  refine lst_halt refS f2S m (sA s a) (by rw [e]; simp) ?_ n (by omega)
  rw [e]
  exact f2_short_sA (by omega)
/-- The inner page that the bytes may be. -/
def inP (s : ByteArray) (n : Nat) : Pp := ⟨2, valB (s.extract 3 7) 4, valB (s.extract 7 11) 4, (bt s 2 : Int), [], (List.range n).map (fun i => kidA s (11 + 36 * i)), 0, ⟨#[]⟩⟩
theorem maps_alike (f g : Nat → Rf) (h : ∀ i, f i = g i ∨ (rref (f i).p (f i).t = false ∧ rref (g i).p (g i).t = false)) : ∀ l : List Nat, l.map f = l.map g ∨ ((l.map f).all (fun r => rref r.p r.t) = false ∧ (l.map g).all (fun r => rref r.p r.t) = false)
  | [] => .inl rfl
  | i :: l => by
    rcases h i with h1 | ⟨h1, h2⟩
    · rcases maps_alike f g h l with h3 | ⟨h3, h4⟩
      · exact .inl (by rw [List.map_cons, List.map_cons, h1, h3])
      · exact .inr ⟨by rw [List.map_cons, List.all_cons, h3, Bool.and_false], by rw [List.map_cons, List.all_cons, h4, Bool.and_false]⟩
    · exact .inr ⟨by rw [List.map_cons, List.all_cons, h1, Bool.false_and], by rw [List.map_cons, List.all_cons, h2, Bool.false_and]⟩
theorem rpp_kids {P : Pp} (hk : P.k = 2) (h : P.ks.all (fun r => rref r.p r.t) = false) : rpp P = false := by
  cases e : rpp P
  · rfl
  · have := (rpp_inner hk e).2.2.1
    rw [← List.all_eq_true, h] at this
    cases this
theorem inner_state {s : ByteArray} (h0 : 0 < s.size) (hb : bt s 0 = 2) : rdP ⟨s, false⟩ = ⟨2, inX (sA s 1), inY (sA s 1), (inC (sA s 1) : Int), [], (inL (sA s 1)).1, 0, ⟨#[]⟩⟩ ∧ pgE ⟨s, false⟩ = (inL (sA s 1)).2 := by
  have e1 : numS (⟨s, false⟩ : RS) 1 = 2 := by rw [sA_0, bt_sA h0, hb]
  have e2 : aftS (⟨s, false⟩ : RS) 1 = sA s 1 := by rw [sA_0, aft_sA (by omega)]
  unfold rdP pgE
  rw [e1, e2, if_neg (show ¬ (2 : Nat) = 1 by decide), if_neg (show ¬ (2 : Nat) = 1 by decide), if_pos rfl, if_pos rfl]
  exact ⟨rfl, rfl⟩
theorem inner_small {s : ByteArray} (h0 : 0 < s.size) (hb : bt s 0 = 2) (h : s.size < 11) : decOK s = false := by
  refine no_short ?_
  rw [(inner_state h0 hb).2]
  unfold inL
  cases e : (lstS refS f2S (numS (sA s 1) 1) (aftS (aftS (aftS (aftS (sA s 1) 1) 1) 4) 4)).2.s
  · have k4 := lst_short _ _ (fun st h => f2_short h) _ _ e
    have k3 := (aft_short k4).1
    have k2 := (aft_short k3).1
    have k1 := (aft_short k2).1
    have g1 : 2 ≤ s.size := by by_cases h : 2 ≤ s.size; exact h; rw [short_sA (by omega) (by omega)] at k1; cases k1
    rw [aft_sA (by omega)] at k2 k3 k4
    have g2 : 3 ≤ s.size := by by_cases h : 3 ≤ s.size; exact h; rw [short_sA (by omega) (by omega)] at k2; cases k2
    rw [aft_sA (by omega)] at k3 k4
    have g3 : 7 ≤ s.size := by by_cases h : 7 ≤ s.size; exact h; rw [short_sA (by omega) (by omega)] at k3; cases k3
    rw [aft_sA (by omega)] at k4
    rw [short_sA (by omega) (by omega)] at k4; cases k4
  · rfl
theorem inner_big {s : ByteArray} (h : 11 ≤ s.size) : inX (sA s 1) = valB (s.extract 3 7) 4 ∧ inY (sA s 1) = valB (s.extract 7 11) 4 ∧ inC (sA s 1) = bt s 2 ∧ inL (sA s 1) = lstS refS f2S (bt s 1) (sA s 11) := by
  have e1 : aftS (sA s 1) 1 = sA s 2 := aft_sA (by omega)
  have e2 : aftS (sA s 2) 1 = sA s 3 := aft_sA (by omega)
  have e3 : aftS (sA s 3) 4 = sA s 7 := aft_sA (by omega)
  have e4 : aftS (sA s 7) 4 = sA s 11 := aft_sA (by omega)
  unfold inX inY inC inL
  rw [e1, e2, e3, e4, num_sA (by omega), num_sA (by omega), bt_sA (by omega), bt_sA (by omega)]
  exact ⟨rfl, rfl, rfl, rfl⟩
theorem inner_unlike {s : ByteArray} (h0 : 0 < s.size) (hb : bt s 0 = 2) (h : 11 ≤ s.size) (hne : s.size ≠ 11 + 36 * bt s 1) : decOK s = false := by
  obtain ⟨-, -, -, e⟩ := inner_big h
  by_cases hlt : s.size < 11 + 36 * bt s 1
  · refine no_short ?_
    rw [(inner_state h0 hb).2, e]
    exact refs_short h _ hlt
  · refine no_rest ?_
    rw [(inner_state h0 hb).2, e, refs_sA _ (by omega)]
    simp only
    rw [ne_eq, end_sA]
    omega
theorem inner_res {s : ByteArray} (h0 : 0 < s.size) (hb : bt s 0 = 2) (h : 11 ≤ s.size) (he : s.size = 11 + 36 * bt s 1) : Res s true (inP s (bt s 1)) := by
  obtain ⟨x1, x2, x3, x4⟩ := inner_big h
  obtain ⟨y1, y2⟩ := inner_state h0 hb
  rw [x4, refs_sA _ (by omega)] at y1 y2
  simp only at y1 y2
  have e : decOK s = rpp (rdP ⟨s, false⟩) := by
    unfold decOK
    rw [y2, decide_eq_true ((end_sA s _).2 (by omega))]
    rfl
  unfold Res
  rw [e, y1, x1, x2, x3, Bool.true_and]
  have al := maps_alike (fun i => kidA s (11 + 36 * i)) (fun i => if i < bt s 1 then refS (sA s (11 + 36 * i)) else kidA s (11 + 36 * i)) (fun i => by
    by_cases hi : i < bt s 1
    · rw [if_pos hi, ref_sA (by omega)]
      by_cases hn : isNo (kidA s (11 + 36 * i)).p (kidA s (11 + 36 * i)).t = true
      · refine .inr ⟨?_, ?_⟩
        · unfold isNo at hn
          simp only [Bool.and_eq_true, decide_eq_true_eq] at hn
          unfold rref
          rw [hn.1]; rfl
        · rw [if_pos hn]; rfl
      · exact .inl (by rw [if_neg hn])
    · exact .inl (by rw [if_neg hi])) (List.range (bt s 1))
  have em : (List.range (bt s 1)).map (fun i => if i < bt s 1 then refS (sA s (11 + 36 * i)) else kidA s (11 + 36 * i)) = (List.range (bt s 1)).map (fun i => refS (sA s (11 + 36 * i))) := by
    refine List.map_congr_left fun i hi => ?_
    rw [if_pos (by simpa using hi)]
  rw [em] at al
  unfold inP
  generalize (List.range (bt s 1)).map (fun i => kidA s (11 + 36 * i)) = ka at *
  generalize (List.range (bt s 1)).map (fun i => refS (sA s (11 + 36 * i))) = kb at *
  generalize valB (s.extract 3 7) 4 = X at *
  generalize valB (s.extract 7 11) 4 = Y at *
  generalize (bt s 2 : Int) = Z at *
  clear em e y1 y2 x1 x2 x3 x4
  rcases al with al | ⟨al, bl⟩
  · rw [al]
    exact ⟨rfl, fun _ => rfl⟩
  · have r1 : rpp ⟨2, X, Y, Z, [], ka, 0, ⟨#[]⟩⟩ = false := rpp_kids rfl al
    have r2 : rpp ⟨2, X, Y, Z, [], kb, 0, ⟨#[]⟩⟩ = false := rpp_kids rfl bl
    rw [r1, r2]
    exact ⟨rfl, fun e => by cases e⟩
end Go.Proofs.Ytljponlfjombaaa.Rw
/- The reference: right refs, no ref. -/
namespace Go.Proofs.Ytljponlfjombaaa.Rw
open Go.RowKit Go.Lib Go.Shelf
open Go.Proofs.Ytljponlfjombaaa.Rc Go.Proofs.Ytljponlfjombaaa.Rq
set_option maxRecDepth 100000 in
theorem sRightRef_any (p : Nat) (t : ByteArray) (w : World) : Calls Try.prog 12 #[.agg #[.int .u32 (p : Int), .string t]] w fun e w' => e = .returned (.bool (rref p t)) ∧ Below w.heap.size w w' := by
  have HB : Hid _ := below_new w (.cells #[.int .u32 (p : Int), .string t] 28)
  unfold rref
  by_cases h1 : 2 ≤ p
  · have q1 : (2 : Int) ≤ (p : Int) := by omega
    by_cases h2 : t.size = 32
    · have q2 : (t.size : Int) = 32 := by omega
      go_enter Try.func12, Try.ntmps12
      go_wp2_with fail
      go_ret
      exact ⟨by simp [h1, h2], HB.out⟩
    · have q2 : ((t.size : Int) == 32) = false := by simp; omega
      go_enter Try.func12, Try.ntmps12
      go_wp2_with fail
      go_ret
      exact ⟨by simp [h1, h2], HB.out⟩
  · have q1 : ¬ (2 : Int) ≤ (p : Int) := by omega
    go_enter Try.func12, Try.ntmps12
    go_wp2_with fail
    go_ret
    exact ⟨by simp, HB.out⟩
set_option maxRecDepth 100000 in
theorem snone_any (p : Nat) (t : ByteArray) (w : World) : Calls Try.prog 24 #[.agg #[.int .u32 (p : Int), .string t]] w fun e w' => e = .returned (.bool (noRef p t)) ∧ Below w.heap.size w w' := by
  have HB : Hid _ := below_new w (.cells #[.int .u32 (p : Int), .string t] 28)
  unfold noRef
  by_cases h1 : p = 0
  · subst h1
    by_cases h2 : t = ⟨#[]⟩
    · subst h2
      go_enter Try.func24, Try.ntmps24
      go_wp2_with fail
      go_ret
      exact ⟨by simp, HB.out⟩
    · have q2 := empty_not h2
      go_enter Try.func24, Try.ntmps24
      go_wp2_with fail
      go_ret
      exact ⟨by simp [h2], HB.out⟩
  · have q1 : ((p : Int) == 0) = false := by simp; omega
    go_enter Try.func24, Try.ntmps24
    go_wp2_with fail
    go_ret
    exact ⟨by simp [h1], HB.out⟩
/-- A page's bytes by the program. -/
def encS (P : Pp) : ByteArray := if rpp P = true then ⟨(pB P).toArray⟩ else ⟨#[]⟩
def encE (P : Pp) : Int := if rpp P = true then 0 else 90
set_option maxRecDepth 100000 in
theorem encode_p (q : Pg) (P : Pp) (w : World) (h : PAt w q P) (ho : okP P) :
    Calls Try.prog 16 #[gv q] w fun e w' => e = .returned (.tuple #[.string (encS P), .int .i64 (encE P)]) ∧ Below w.heap.size w w' := by
  unfold encS encE
  have hr := h.rpp
  cases hR : rpp P
  · rw [hR] at hr
    exact encode_no q P.l P.ks w h.at' hr
  · rw [hR] at hr
    have e : pageB q P.l P.ks = pB P := by unfold pageB pB; rw [h.k, h.np, h.nt, h.X, h.Y, h.L]
    have := encode_ok q P.l P.ks w h.at' (by rw [h.np]; exact ho.np) ho.kids hr
    rw [e] at this
    simpa using this
end Go.Proofs.Ytljponlfjombaaa.Rw
/- The reference: right pages. -/
namespace Go.Proofs.Ytljponlfjombaaa.Rw
open Go.RowKit Go.Lib Go.Shelf
open Go.Proofs.Ytljponlfjombaaa.Rc Go.Proofs.Ytljponlfjombaaa.Rq
set_option maxRecDepth 100000 in
set_option maxHeartbeats 4000000 in
theorem sright_leaf (q : Pg) (l : List Rw) (ks : List Rf) (w : World) (h : PgAt w q l ks) (hk : q.k = 1) :
    Calls Try.prog 15 #[gv q] w fun e w' => e = .returned (.bool (rleaf q l)) ∧ Below w.heap.size w w' := by
  have hmx : l.length ≤ maxLen := Nat.le_trans h.rows.1 h.rows.2.1
  have HRW : Hid (∀ W : World, Below w.heap.size w W → RowsAt W q.ro q.rc l) := fun W hW => RowsAt.below h.rows hW (Nat.le_refl _)
  have HG1 : Hid ((w.alloc (gcs q)).heap[w.heap.size]? = some (gcs q)) := heap_alloc_new w (gcs q)
  have HB1 : Hid (Below w.heap.size w (w.alloc (gcs q))) := below_new w (gcs q)
  have hrn := h.rn
  clear h
  unfold rleaf
  obtain ⟨qk, qX, qY, qL, qro, qrn, qrc, qko, qkn, qkc, qnp, qnt⟩ := q
  simp only at hrn HRW hk ⊢
  subst hrn hk
  have hcq := eql_cell0 qX qY qL
  have HRF : Hid _ := sRightRef_any qnp qnt
  have HNO : Hid _ := snone_any qnp qnt
  have HQR : Hid (∀ W : World, Below w.heap.size w W → _) := fun W hW => eright_any l qro qrc W (HRW.out W hW)
  have q0 : (l.length : Int) ≤ 9223372036854775807 := by simp only [maxLen] at hmx; omega
  clear hmx HRW
  obtain ⟨nr, hnr⟩ : ∃ nr, noRef qnp qnt = nr := ⟨_, rfl⟩
  obtain ⟨rr, hrr⟩ : ∃ rr, rref qnp qnt = rr := ⟨_, rfl⟩
  obtain ⟨rl, hrl⟩ : ∃ rl, rightL l = rl := ⟨_, rfl⟩
  obtain ⟨nc, hnc⟩ : ∃ nc, noCell qX qY qL = nc := ⟨_, rfl⟩
  rw [hnr] at HNO ⊢
  rw [hrr] at HRF ⊢
  rw [hrl] at HQR ⊢
  rw [hnc] at hcq ⊢
  clear hnr hrr hrl hnc
  obtain ⟨W1, hW1⟩ : ∃ W1, w.alloc (gcs ⟨1, qX, qY, qL, qro, l.length, qrc, qko, qkn, qkc, qnp, qnt⟩) = W1 := ⟨_, rfl⟩
  rw [hW1] at HG1 HB1
  have HW1 : Hid (w.alloc (.cells #[.int .i64 1, .int .u32 (qX : Int), .int .u32 (qY : Int), .int .i64 qL, .slice qro l.length qrc, .slice qko qkn qkc, .int .u32 (qnp : Int), .string qnt] 30) = W1) := hW1
  clear hW1
  simp only [gv]
  go_enter Try.func15, Try.ntmps15
  go_wp2_with fail
  rw [HW1.out]
  clear HW1
  refine (HQR.out _ HB1.out).mono ?_
  rintro e w2 ⟨rfl, b2⟩
  have HB2 : Hid (Below w.heap.size w w2) := HB1.out.trans (b2.mono HB1.out.size)
  have HG2 : Hid (w2.heap[w.heap.size]? = some (gcs ⟨1, qX, qY, qL, qro, l.length, qrc, qko, qkn, qkc, qnp, qnt⟩)) := (b2.block _ (Array.getElem?_eq_some_iff.1 HG1.out).1).trans HG1.out
  obtain ⟨⟨c0, c1, c2, c3, c4, c5, c6, c7⟩, lB⟩ := pg_cells HG2.out
  simp only at c0 c1 c2 c3 c4 c5 c6 c7
  clear b2
  go_wp2_with fail
  refine (HRF.out _).mono ?_
  rintro e w3 ⟨rfl, b3⟩
  have HB3 : Hid (Below w.heap.size w w3) := HB2.out.trans (b3.mono HB2.out.size)
  have HG3 : Hid (w3.heap[w.heap.size]? = some (gcs ⟨1, qX, qY, qL, qro, l.length, qrc, qko, qkn, qkc, qnp, qnt⟩)) := (b3.block _ (Array.getElem?_eq_some_iff.1 HG2.out).1).trans HG2.out
  obtain ⟨⟨c0, c1, c2, c3, c4, c5, c6, c7⟩, lB⟩ := pg_cells HG3.out
  simp only at c0 c1 c2 c3 c4 c5 c6 c7
  clear b3
  have o4 : (l.length : Int) ≤ 4 ∨ ¬ (l.length : Int) ≤ 4 := by omega
  rcases o4 with q4 | q4
  · have l4 : l.length ≤ 4 := by omega
    cases rl
    · go_wp2_with fail
      go_ret
      exact ⟨by simp [*], HB3.out⟩
    · cases rr
      · go_wp2_with fail
        refine (HNO.out _).mono ?_
        rintro e w4 ⟨rfl, b4⟩
        have HB4 : Hid (Below w.heap.size w w4) := HB3.out.trans (b4.mono HB3.out.size)
        have HG4 : Hid (w4.heap[w.heap.size]? = some (gcs ⟨1, qX, qY, qL, qro, l.length, qrc, qko, qkn, qkc, qnp, qnt⟩)) := (b4.block _ (Array.getElem?_eq_some_iff.1 HG3.out).1).trans HG3.out
        obtain ⟨⟨c0, c1, c2, c3, c4, c5, c6, c7⟩, lB⟩ := pg_cells HG4.out
        simp only at c0 c1 c2 c3 c4 c5 c6 c7
        clear b4
        cases nr
        · go_wp2_with fail
          go_ret
          exact ⟨by simp [*], HB4.out⟩
        · by_cases h0 : qkn = 0
          · subst h0
            go_wp2_with fail
            go_ret
            exact ⟨by simp [*], HB4.out⟩
          · have q5 : ((qkn : Int) == 0) = false := by simp; omega
            go_wp2_with fail
            go_ret
            exact ⟨by simp [*], HB4.out⟩
      · by_cases h0 : qkn = 0
        · subst h0
          go_wp2_with fail
          go_ret
          exact ⟨by simp [*], HB3.out⟩
        · have q5 : ((qkn : Int) == 0) = false := by simp; omega
          go_wp2_with fail
          go_ret
          exact ⟨by simp [*], HB3.out⟩
  · have l4 : ¬ l.length ≤ 4 := by omega
    go_wp2_with fail
    go_ret
    exact ⟨by simp [*], HB3.out⟩
end Go.Proofs.Ytljponlfjombaaa.Rw
