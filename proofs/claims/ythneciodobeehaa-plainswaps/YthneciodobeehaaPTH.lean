/- Rows but one: what is behind it is moved up. -/
import Derived.Test.YthneciodobeehaaPTG
namespace Go.Proofs.Ythneciodobeehaa.Rp
open Go.RowKit Go.Lib
open Go.Proofs.Ythneciodobeehaa.Rc Go.Proofs.Ythneciodobeehaa.Rq
set_option maxRecDepth 100000 in
theorem rows_of_ur {w : World} {g cap : Nat} {d : Array Rw} {m : List Rw} (h : Ur w g (cap * 4) d) (hm : m.length ≤ d.size) (hd : ∀ k, k < m.length → d[k]! = rat m k) (hc : m.length ≤ cap) (hx : cap ≤ maxLen) : RowsAt w (some ⟨g, 0, none⟩) cap m := by
  obtain ⟨cs, h1, h2, h3⟩ := h
  refine ⟨hc, hx, (fun e => by cases e), flat_len rc 4 (fun _ => rfl) m, fun _ => ⟨g, 0, rfl, (Array.getElem?_eq_some_iff.1 h1).1, fun j u hu => ?_⟩⟩
  have hj := (List.getElem?_eq_some_iff.1 hu).1
  rw [flat_len rc 4 (fun _ => rfl)] at hj
  have hi : j / 4 < m.length := by omega
  rw [Nat.zero_add, cell_of_row _ _ _ _ _ _ h1, show j = j / 4 * 4 + j % 4 by omega, h3 (j / 4) (by omega) (j % 4) (by omega), hd _ hi]
  rw [← flat_get rc 4 (fun _ => rfl) m (j / 4) _ (rat_some hi) (j % 4) (by omega), show j / 4 * 4 + j % 4 = j by omega]
  exact hu
/-- Rows of which those behind a place are moved up, up to another place. -/
def Sh (l : List Rw) (p i : Nat) (d : Array Rw) : Prop := d.size = l.length ∧ ∀ k, k < l.length → d[k]! = if p ≤ k ∧ k < i then rat l (k + 1) else rat l k
set_option maxRecDepth 100000 in
theorem sh_next {l : List Rw} {p i : Nat} {d : Array Rw} (h : Sh l p i d) (hp : p ≤ i) : Sh l p (i + 1) (d.setIfInBounds i (rat l (i + 1))) := by
  refine ⟨by rw [Array.size_setIfInBounds]; exact h.1, fun k hk => ?_⟩
  by_cases e : i = k
  · subst e
    have : (d.setIfInBounds i (rat l (i + 1)))[i]! = rat l (i + 1) := by simp [getElem!_pos, h.1, hk]
    rw [this, if_pos (by omega)]
  · have : (d.setIfInBounds i (rat l (i + 1)))[k]! = d[k]! := by simp [getElem!_pos, h.1, hk, e]
    rw [this, h.2 k hk]
    by_cases c : p ≤ k ∧ k < i
    · rw [if_pos c, if_pos (by omega)]
    · rw [if_neg c, if_neg (by omega)]
set_option maxRecDepth 100000 in
theorem rat_erase {l : List Rw} {p k : Nat} : rat (l.eraseIdx p) k = if p ≤ k then rat l (k + 1) else rat l k := by
  unfold rat
  rw [List.getElem?_eraseIdx]
  by_cases c : k < p
  · rw [if_pos c, if_neg (by omega)]
  · rw [if_neg c, if_pos (by omega)]
set_option maxRecDepth 100000 in
set_option maxHeartbeats 4000000 in
theorem deleteF_any (l : List Rw) (g cap : Nat) (s : Rw) (gb p : Nat) (w : World) (hu : Ur w g (cap * 4) l.toArray) (hcap : l.length ≤ cap) (hcm : cap ≤ maxLen) (hmax : l.length ≤ 1000) (hne : gb ≠ g) (hgb : w.heap[gb]? = some (.cells #[.int .u64 (s.id : Int), .int .u32 (s.x : Int), .int .u32 (s.y : Int), .string s.v] 27 (0, 0))) (hp : p < l.length) (h1 : ∀ j, j < l.length → j ≠ p → eqR (rat l j) s = false) (h2 : eqR (rat l p) s = true) :
    Calls Try.prog 34 #[.slice (some ⟨g, 0, none⟩) l.length cap, .func (.func 36) #[] #[.pointer (some ⟨gb, 0, none⟩)]] w fun e w' => e = .returned (.slice (some ⟨g, 0, none⟩) (l.length - 1) cap) ∧ RowsAt w' (some ⟨g, 0, none⟩) cap (l.eraseIdx p) ∧ Bg g w w' := by
  have hsh0 : Sh l p p l.toArray := ⟨by simp, fun k hk => by
    rw [if_neg (by omega)]
    have : l.toArray[k]! = l[k] := by simp [getElem!_pos, hk]
    rw [this, rat_get hk]⟩
  have hr0 : RowsAt w (some ⟨g, 0, none⟩) cap l := rows_of_ur hu (by simp) (fun k hk => by
    have : l.toArray[k]! = l[k] := by simp [getElem!_pos, hk]
    rw [this, rat_get hk]) hcap hcm
  have HI : Hid (∀ _ : True, _) := fun _ => indexF_any l (some ⟨g, 0, none⟩) cap s gb p w hr0 hmax hgb hp (fun j hj => h1 j (by omega) (by omega)) h2
  have lgb := (Array.getElem?_eq_some_iff.1 hgb).1
  have HC : Hid (∀ (W : World) (r : Rw), Bg g w W → _) := fun W r hW => without1_any r s gb W ((hW.block _ lgb hne).trans hgb)
  have HU : Hid (Ur w g (cap * 4) l.toArray) := hu
  have HS0 : Hid (Sh l p p l.toArray) := hsh0
  have H1 : Hid (∀ j, j < l.length → j ≠ p → eqR (rat l j) s = false) := h1
  have HX : Hid (l.length ≤ cap ∧ cap ≤ maxLen) := ⟨hcap, hcm⟩
  obtain ⟨n, hn⟩ : ∃ n, l.length = n := ⟨_, rfl⟩
  have n0 : (n : Int) ≤ 1000 := by omega
  have HN : Hid (l.length = n) := hn
  simp only [rv] at HC
  rw [hn] at HI ⊢
  have q0 : ((p : Int) == -1) = false := by simp
  have p0 : (p : Int) < (n : Int) := by omega
  have p1 : (0 : Int) ≤ (p : Int) := by omega
  clear hu hsh0 hr0 hgb h1 h2 lgb hcap hcm hmax
  go_enter Try.func34, Try.ntmps34
  go_wp2_with fail
  refine Calls.mono (HI.out trivial) ?_
  rintro e w1 ⟨rfl, b1⟩
  have HB1 : Hid (Bg g w w1) := But.of_below b1
  have HU1 : Hid (Ur w1 g (cap * 4) l.toArray) := HU.out.same (b1.block _ HU.out.lt)
  clear b1 HI HU
  go_wp2_with fail
  go_loopw [5, 6] (fun iv jv wr => ∃ (i : Nat) (d : Array Rw), p ≤ i ∧ i < n ∧ iv = .int .i64 (i : Int) ∧ jv = .int .i64 ((i : Int) + 1) ∧ Ur wr g (cap * 4) d ∧ Sh l p i d ∧ Bg g w wr) (fun iv _ _ => n - natOf iv)
  case atStart => exact ⟨p, l.toArray, Nat.le_refl _, by omega, rfl, by go_num, HU1.out, HS0.out, HB1.out⟩
  case round =>
    obtain ⟨i, d, hpi, hin, rfl, rfl, hu, hs, hb⟩ := hrel
    have HU2 : Hid (Ur wr g (cap * 4) d) := hu
    have HS2 : Hid (Sh l p i d) := hs
    have HB2 : Hid (Bg g w wr) := hb
    have i0 : (0 : Int) ≤ (i : Int) := by omega
    have i1 : (i : Int) < (n : Int) := by omega
    by_cases hlt : i + 1 < n
    · have q1 : (i : Int) + 1 < (n : Int) := by omega
      have hdi : d[i + 1]! = rat l (i + 1) := by rw [hs.2 _ (by rw [HN.out]; exact hlt), if_neg (by omega)]
      obtain ⟨⟨c0, c1, c2, c3⟩, -⟩ := hu.cell (i + 1) (by rw [hs.1, HN.out]; exact hlt)
      rw [hdi] at c0 c1 c2 c3
      have hE := H1.out (i + 1) (by rw [HN.out]; exact hlt) (by omega)
      have HSN : Hid (Sh l p (i + 1) (d.setIfInBounds i (rat l (i + 1)))) := sh_next hs hpi
      have lg := hu.lt
      generalize rat l (i + 1) = r at *
      obtain ⟨id, x, y, v⟩ := r
      simp only at c0 c1 c2 c3
      have hbx := below_new wr (.cells #[.int .u64 (id : Int), .int .u32 (x : Int), .int .u32 (y : Int), .string v] 27)
      have hgx := heap_alloc_new wr (.cells #[.int .u64 (id : Int), .int .u32 (x : Int), .int .u32 (y : Int), .string v] 27)
      have HCi : Hid (∀ _ : True, _) := fun _ => HC.out (wr.alloc (.cells #[.int .u64 (id : Int), .int .u32 (x : Int), .int .u32 (y : Int), .string v] 27)) ⟨id, x, y, v⟩ (hb.trans (But.of_below hbx))
      simp only at HCi
      rw [hE] at HCi
      have HBX : Hid (Below wr.heap.size wr (wr.alloc (.cells #[.int .u64 (id : Int), .int .u32 (x : Int), .int .u32 (y : Int), .string v] 27))) := hbx
      have HGX : Hid ((wr.alloc (.cells #[.int .u64 (id : Int), .int .u32 (x : Int), .int .u32 (y : Int), .string v] 27)).heap[wr.heap.size]? = some (.cells #[.int .u64 (id : Int), .int .u32 (x : Int), .int .u32 (y : Int), .string v] 27 (0, 0))) := hgx
      clear hu hs hb hbx hgx hE hdi
      go_wp2_with fail
      refine Calls.mono (HCi.out trivial) ?_
      rintro e w2 ⟨rfl, b2⟩
      have hB2 : Below wr.heap.size wr w2 := HBX.out.trans (b2.mono HBX.out.size)
      have hg2 := (b2.block _ (by simp)).trans HGX.out
      have hu2 := HU2.out.same (hB2.block _ lg)
      obtain ⟨⟨k0, k1, k2, k3⟩, fz⟩ := hu2.cell i (by rw [HS2.out.1, HN.out]; exact hin)
      have z0 := fz (i * 4)
      have z1 := fz (i * 4 + 1)
      have z2 := fz (i * 4 + 2)
      have z3 := fz (i * 4 + 3)
      obtain ⟨-, -, -, -, g0, g1, g2, g3⟩ := row_facts hg2
      have lb2 : wr.heap.size < w2.heap.size := (Array.getElem?_eq_some_iff.1 hg2).1
      have lg2 : g < w2.heap.size := hu2.lt
      have HU3 : Hid (Ur (set4 w2 g i ⟨id, x, y, v⟩) g (cap * 4) (d.setIfInBounds i ⟨id, x, y, v⟩)) := hu2.set i (by rw [HS2.out.1, HN.out]; exact hin) _
      have HB3 : Hid (Bg g w (set4 w2 g i ⟨id, x, y, v⟩)) := (HB2.out.trans (But.of_below hB2)).trans (bg_set4 w2 g i _)
      simp only [set4] at HU3 HB3
      have i2 : (i : Int) + 1 ≤ 1000 := by omega
      clear c0 c1 c2 c3 b2 hB2 hg2 hu2 fz HCi HBX HGX HU2 HB2 hlt
      go_wp2_with fail
      go_roundw
      case rel => exact ⟨i + 1, _, by omega, by omega, by go_num, by go_num, HU3.out, HSN.out, HB3.out⟩
      case measure => simp [natOf]; omega
    · have q1 : ¬ (i : Int) + 1 < (n : Int) := by omega
      have hiN : i = n - 1 := by omega
      have hclr := fun ty => run_clear_row hu (i := i) (by rw [hs.1, HN.out]; exact hin) ty (cap - i)
      have hx := HX.out
      rw [HN.out] at hx
      have hrun1 := fun W => run_tail (some ⟨g, 0, none⟩) n cap i W (by omega)
      rw [if_neg (by omega)] at hrun1
      have ead : (Option.map (fun x : Addr => x.add (i * 4)) (some ⟨g, 0, none⟩)) = some ⟨g, i * 4, none⟩ := by
        simp [Addr.add]
        intro h
        omega
      rw [ead, show n - i = 1 by omega] at hrun1
      have hrun2 := fun W => run_head (some ⟨g, 0, none⟩) n cap i W (by omega) (fun e => by cases e)
      have hu3 := hu.set i (by rw [hs.1, HN.out]; exact hin) ⟨0, 0, 0, ⟨#[]⟩⟩
      have hle : (l.eraseIdx p).length = i := by rw [List.length_eraseIdx, if_pos (by rw [HN.out]; omega), HN.out]; omega
      have HE : Hid (RowsAt (set4 wr g i ⟨0, 0, 0, ⟨#[]⟩⟩) (some ⟨g, 0, none⟩) cap (l.eraseIdx p) ∧ Bg g w (set4 wr g i ⟨0, 0, 0, ⟨#[]⟩⟩)) := by
        refine ⟨rows_of_ur hu3 (by rw [Array.size_setIfInBounds, hs.1, hle, HN.out]; omega) (fun k hk => ?_) (by omega) hx.2, hb.trans (bg_set4 wr g i _)⟩
        have hk2 : k < i := by omega
        have : (d.setIfInBounds i (⟨0, 0, 0, ⟨#[]⟩⟩ : Rw))[k]! = d[k]! := by simp [getElem!_pos, hs.1, HN.out, show k < n by omega, show ¬ i = k by omega]
        rw [this, hs.2 k (by rw [HN.out]; omega), rat_erase]
        by_cases c : p ≤ k
        · rw [if_pos ⟨c, hk2⟩, if_pos c]
        · rw [if_neg (fun h => c h.1), if_neg c]
      have HIN : Hid (i = n - 1) := hiN
      clear hu hs hb hu3 hle hx ead hiN hlt
      obtain ⟨W9, hW9⟩ : ∃ W9, set4 wr g i ⟨0, 0, 0, ⟨#[]⟩⟩ = W9 := ⟨_, rfl⟩
      rw [hW9] at HE hclr
      clear hW9
      go_wp2_with fail
      go_ret
      refine ⟨?_, HE.out.1, HE.out.2⟩
      rw [← HIN.out]
      rfl
end Go.Proofs.Ythneciodobeehaa.Rp
