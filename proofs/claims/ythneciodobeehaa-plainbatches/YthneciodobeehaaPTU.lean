/- The reference's Apply, whatever it is given. -/
import Derived.Test.YthneciodobeehaaPTT
namespace Go.Proofs.Ythneciodobeehaa.Rp
open Go.RowKit Go.Lib
open Go.Proofs.Ythneciodobeehaa.Rc Go.Proofs.Ythneciodobeehaa.Rq
set_option maxRecDepth 100000 in
theorem its_id {l : List Rw} {id : Nat} {s : Rw} (h : its l id = some s) : s.id = id := by
  have := List.find?_some h
  simpa using this
set_option maxRecDepth 100000 in
theorem happly_any (o : Option Addr) (cap : Nat) (l : List Rw) (c : Ch) (w : World) (hr : RowsAt w o cap l) :
    Calls Try.prog 16 #[.slice o l.length cap, ov c] w (KP (apL l c) (apE l c) w) := by
  obtain ⟨k, id, x, y, v⟩ := c
  have bad : ∀ (E : Int), E ≠ 0 → apE l ⟨k, ⟨id, x, y, v⟩⟩ = E → ∀ (e : Ending) (w' : World), e = .returned (.tuple #[.slice none 0 0, .int .i64 E]) ∧ Below w.heap.size w w' → KP (apL l ⟨k, ⟨id, x, y, v⟩⟩) (apE l ⟨k, ⟨id, x, y, v⟩⟩) w e w' := fun E hE hA e w' h => by
    have hl : apL l ⟨k, ⟨id, x, y, v⟩⟩ = [] := by unfold apL; rw [hA, if_neg hE]
    rw [hl, hA]
    exact ⟨none, 0, h.1, Sl.nil 4 _, h.2, fun b off e => by cases e⟩
  cases hL : rightL l with
  | false => exact (happly_no o cap l k id x y v w hr hL).mono (bad 80 (by decide) (by unfold apE; rw [hL]; rfl))
  | true =>
    have hri := right_rise hL
    have hmx := ((rightL_iff l).1 hL).1
    have hrl := rem_len l id
    have hA : apE l ⟨k, ⟨id, x, y, v⟩⟩ = if chkO ⟨k, ⟨id, x, y, v⟩⟩ = 0 then (if k ≠ 1 ∧ (its l id).isSome = false then 100 else if k ≠ 3 ∧ (remR l id).length = 1000 then 82 else 0) else chkO ⟨k, ⟨id, x, y, v⟩⟩ := by unfold apE; rw [hL]; rfl
    have hgE : getE l id = if (its l id).isSome = true then 0 else 100 := by unfold getE; rw [hL]; rfl
    have hgV : getV l id = (its l id).getD zr := by unfold getV; rw [hL]; rfl
    by_cases k1 : k < 1
    · refine (happly_lo o cap l k id x y v w hr hL k1).mono (bad 2 (by decide) ?_)
      have : chkO ⟨k, ⟨id, x, y, v⟩⟩ = 2 := by unfold chkO; simp only; rw [if_neg (by omega), if_neg (by omega), if_neg (by omega)]
      rw [hA, this]; rfl
    by_cases k3 : 3 < k
    · refine (happly_hi o cap l k id x y v w hr hL k3).mono (bad 2 (by decide) ?_)
      have : chkO ⟨k, ⟨id, x, y, v⟩⟩ = 2 := by unfold chkO; simp only; rw [if_neg (by omega), if_neg (by omega), if_neg (by omega)]
      rw [hA, this]; rfl
    have hk : k = 1 ∨ k = 2 ∨ k = 3 := by omega
    obtain ⟨sid, sx, sy, sv⟩ : Rw := (its l id).getD zr
    rcases hk with rfl | rfl | rfl
    · cases hR : rightRow ⟨id, x, y, v⟩ with
      | false =>
        refine (happly_row o cap l id x y v w hr hL hR).mono (bad 80 (by decide) ?_)
        have : chkO ⟨1, ⟨id, x, y, v⟩⟩ = 80 := by simp [chkO, hR]
        rw [hA, this]; rfl
      | true =>
        have hc : chkO ⟨1, ⟨id, x, y, v⟩⟩ = 0 := by simp [chkO, hR]
        have hA2 : apE l ⟨1, ⟨id, x, y, v⟩⟩ = if (remR l id).length = 1000 then 82 else 0 := by rw [hA, hc]; simp
        rcases hgv : getV l id with ⟨a, b, c, d⟩
        have hM := out_put hri ⟨id, x, y, v⟩
        have hlen := ins_len (remR l id) ⟨id, x, y, v⟩
        by_cases hm : (remR l id).length = 1000
        · exact (happly_put82 o cap l id x y v w hr hL hR a b c d hgv _ rfl hmx _ hM (by rw [hlen]; omega)).mono (bad 82 (by decide) (by rw [hA2, if_pos hm]))
        · have hE0 : apE l ⟨1, ⟨id, x, y, v⟩⟩ = 0 := by rw [hA2, if_neg hm]
          have hl0 : apL l ⟨1, ⟨id, x, y, v⟩⟩ = insR (remR l id) ⟨id, x, y, v⟩ := by unfold apL; rw [hE0]; simp [newR]
          rw [hE0, hl0]
          exact happly_put o cap l id x y v w hr hL hR a b c d hgv _ rfl hmx _ hM (by rw [hlen]; omega)
    · by_cases hx : 2147483648 ≤ x
      · refine (happly_offx o cap l id x y v w hr hL hx).mono (bad 80 (by decide) ?_)
        have : chkO ⟨2, ⟨id, x, y, v⟩⟩ = 80 := by simp [chkO, onS]; omega
        rw [hA, this]; rfl
      by_cases hy : 2147483648 ≤ y
      · refine (happly_offy o cap l id x y v w hr hL hx hy).mono (bad 80 (by decide) ?_)
        have : chkO ⟨2, ⟨id, x, y, v⟩⟩ = 80 := by simp [chkO, onS]; omega
        rw [hA, this]; rfl
      have hc : chkO ⟨2, ⟨id, x, y, v⟩⟩ = 0 := by simp [chkO, onS]; omega
      cases hi : its l id with
      | none =>
        rw [hi] at hgE hgV hA
        exact (happly_none2 o cap l id x y v w hr hL hx hy 0 0 0 ⟨#[]⟩ hgV hgE).mono (bad 100 (by decide) (by rw [hA, hc]; simp))
      | some s =>
        have hsid := its_id hi
        obtain ⟨a, b, c, d⟩ := s
        simp only at hsid
        subst hsid
        rw [hi] at hgE hgV hA
        have hA2 : apE l ⟨2, ⟨a, x, y, v⟩⟩ = if (remR l a).length = 1000 then 82 else 0 := by rw [hA, hc]; simp
        have hM := out_put hri ⟨a, x, y, d⟩
        have hlen := ins_len (remR l a) ⟨a, x, y, d⟩
        by_cases hm : (remR l a).length = 1000
        · exact (happly_move82 o cap l a x y v w hr hL hx hy a b c d hgV hgE hmx _ hM (by rw [hlen]; omega)).mono (bad 82 (by decide) (by rw [hA2, if_pos hm]))
        · have hE0 : apE l ⟨2, ⟨a, x, y, v⟩⟩ = 0 := by rw [hA2, if_neg hm]
          have hl0 : apL l ⟨2, ⟨a, x, y, v⟩⟩ = insR (remR l a) ⟨a, x, y, d⟩ := by unfold apL; rw [hE0]; simp [newR, hi]
          rw [hE0, hl0]
          exact happly_move o cap l a x y v w hr hL hx hy a b c d hgV hgE hmx _ hM (by rw [hlen]; omega)
    · have hc : chkO ⟨3, ⟨id, x, y, v⟩⟩ = 0 := by simp [chkO]
      cases hi : its l id with
      | none =>
        rw [hi] at hgE hgV hA
        exact (happly_none3 o cap l id x y v w hr hL 0 0 0 ⟨#[]⟩ hgV hgE).mono (bad 100 (by decide) (by rw [hA, hc]; simp))
      | some s =>
        obtain ⟨a, b, c, d⟩ := s
        rw [hi] at hgE hgV hA
        have hM := out_del hri id ⟨id, x, y, v⟩
        have hE0 : apE l ⟨3, ⟨id, x, y, v⟩⟩ = 0 := by rw [hA, hc]; simp
        have hl0 : apL l ⟨3, ⟨id, x, y, v⟩⟩ = remR l id := by unfold apL; rw [hE0]; simp
        rw [hE0, hl0]
        exact happly_del o cap l id x y v w hr hL a b c d hgV hgE hmx _ hM (by omega)
#print axioms happly_any
end Go.Proofs.Ythneciodobeehaa.Rp
