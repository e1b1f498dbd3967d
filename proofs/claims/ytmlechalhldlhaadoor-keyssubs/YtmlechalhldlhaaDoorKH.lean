/- The key of a generation. -/
import Derived.Test.YtmlechalhldlhaaDoorKG
namespace Go.Proofs.YtmlechalhldlhaaDoor.Rk
open Go.RowKit
/-- The zero key. -/
def zk : Ky := (0, ⟨#[]⟩)
/-- The key at the place of a generation, if it is of that generation. -/
def heldS (l : List Ky) (g : Int) : Ky := if placeS l g < l.length ∧ (kat l (placeS l g)).1 = g then kat l (placeS l g) else zk
def fkS (l : List Ky) (g : Int) : Ky := if rightS l = true then (findS l g).getD zk else zk
def feS (l : List Ky) (g : Int) : Int := if rightS l = true then if (findS l g).isSome then 0 else 41 else 40
theorem find_at (l : List Ky) (g : Int) (n : Nat) (h1 : ∀ i k, i < n → l[i]? = some k → k.1 ≠ g) (k : Ky) (h2 : l[n]? = some k) (h3 : k.1 = g) : findS l g = some k := by
  unfold findS
  induction l generalizing n with
  | nil => simp at h2
  | cons a t ih =>
    cases n with
    | zero => simp at h2; subst h2; simp [h3]
    | succ n =>
      have := h1 0 a (by omega) (by simp)
      simp only [List.find?_cons, this, decide_false]
      exact ih n (fun i k hi e => h1 (i + 1) k (by omega) (by simpa using e)) (by simpa using h2)
theorem find_no (l : List Ky) (g : Int) (h : ∀ (i : Nat) (k : Ky), l[i]? = some k → k.1 ≠ g) : findS l g = none := by
  unfold findS
  rw [List.find?_eq_none]
  intro k hk
  obtain ⟨i, hi⟩ := List.mem_iff_getElem?.1 hk
  simpa using h i k hi
theorem held_find (l : List Ky) (g : Int) (hr : rightS l = true) : heldS l g = (findS l g).getD zk ∧ (findS l g ≠ none ↔ placeS l g < l.length ∧ (kat l (placeS l g)).1 = g) := by
  obtain ⟨h16, hri⟩ := (right_iff l).1 hr
  obtain ⟨ha, hb⟩ := (rises_iff 0 l).1 hri
  unfold heldS
  split
  · rename_i h
    have := find_at l g (placeS l g) (fun i k hi e he => by have := placeS_lt l g i k hi e; omega) _ (kat_some h.1) h.2
    rw [this]; exact ⟨rfl, by simp [h]⟩
  · rename_i h
    have : findS l g = none := find_no l g fun i k e he => by
      apply h
      have hil : i < l.length := (List.getElem?_eq_some_iff.1 e).1
      have hp : placeS l g = i := placeS_is l g i (by omega) (fun j m hj ej => by have := hb j i m k hj ej e; omega) (fun m em => by rw [e] at em; cases em; omega)
      rw [hp]
      exact ⟨hil, by rw [kat_of e]; exact he⟩
    rw [this]
    exact ⟨rfl, by simp [h]⟩
theorem held_zero (l : List Ky) (g : Int) (hr : rightS l = true) : decide (heldS l g = zk) = !(findS l g).isSome := by
  obtain ⟨h16, hri⟩ := (right_iff l).1 hr
  obtain ⟨ha, hb⟩ := (rises_iff 0 l).1 hri
  rw [(held_find l g hr).1]
  cases e : findS l g with
  | none => simp
  | some k =>
    obtain ⟨i, hi⟩ := List.mem_iff_getElem?.1 (List.mem_of_find?_eq_some e)
    have := (ha i k hi).1
    refine (decide_eq_false fun h => ?_).trans rfl
    simp at h
    subst h
    exact absurd this (by decide)
/-- A key laid in a block of two cells. -/
theorem put_two {w : World} {g : Nat} {x y : Value} (h : w.heap[g]? = some (.cells #[x, y] 24 (0, 0))) (a b : Value) :
    ((w.setCell ⟨g, 0, none⟩ a).setCell ⟨g, 1, none⟩ b).heap[g]? = some (.cells #[a, b] 24 (0, 0)) ∧ Below g w ((w.setCell ⟨g, 0, none⟩ a).setCell ⟨g, 1, none⟩ b) := by
  have hl := (Array.getElem?_eq_some_iff.1 h).1
  have X1 := heap_setCell_same w g 0 _ _ a h
  have X2 := heap_setCell_same _ g 1 _ _ b X1
  exact ⟨X2, (grown_below (gb_set w g 0 _) (Nat.le_refl _) (by omega)).trans (grown_below (gb_set _ g 1 _) (Nat.le_refl _) (by simp [World.setCell]; omega))⟩
theorem results_key {fn : Func} {p u : Tmp} (h : fn.results = #[.cell p 24, .tmp u]) (tmps : Array Value) (w : World) (g : Nat) (k : Ky) {t : TypeId} {fr : Nat × Nat}
    (hp : tmps.getD p undef = .pointer (some ⟨g, 0, none⟩)) (hg : w.heap[g]? = some (.cells #[.int .u32 k.1, .string k.2] t fr)) : (results fn tmps).run Tryd.prog w = .ok (.tuple #[kv k, tmps.getD u undef]) w := by
  rw [results_cell_tmp h, hp]
  simp [asAddr, run_loadVar_row w g t 24 _ fr _ hg Tryd.underlying24 rfl (by kernel_rfl), kv]
set_option maxRecDepth 100000 in
set_option maxHeartbeats 1000000 in
theorem held_any (l : List Ky) (g : Int) (o : Option Addr) (cap : Nat) (w : World) (hr : Ring w o cap l) :
    Calls Tryd.prog 19 #[.slice o l.length cap, .int .u32 g] w fun e w' => e = .returned (kv (heldS l g)) ∧ Below w.heap.size w w' := by
  have n0 : (0 : Int) ≤ (l.length : Int) := by omega
  have n1 : (l.length : Int) ≤ 9223372036854775807 := by have := hr.1; have := hr.2.1; simp only [maxLen] at this; omega
  have HG : Hid (Ring w o cap l) := hr
  clear hr
  go_enter Tryd.func19, Tryd.ntmps19
  go_wp2_with fail
  refine (place_any l g o cap _ (HG.out.below (below_new w _) (Nat.le_refl _))).mono ?_
  rintro e w1 ⟨rfl, b1⟩
  have B1 : Hid (Below w.heap.size w w1) := (below_new w _).trans (b1.mono (by simp))
  have H0 : Hid (w1.heap[w.heap.size]? = some (.cells #[.int .u32 0, .string ⟨#[]⟩] 24 (0, 0))) := (b1.block _ (by simp)).trans (heap_alloc_new w _)
  have hle := placeS_le l g
  have HH : Hid (heldS l g = if placeS l g < l.length ∧ (kat l (placeS l g)).1 = g then kat l (placeS l g) else zk) := rfl
  have z0 := frozen_of_row w1 w.heap.size 0 _ _ H0.out
  have z1 := frozen_of_row w1 w.heap.size 1 _ _ H0.out
  have c0 : w1.cell? ⟨w.heap.size, 0, none⟩ = some (.int .u32 0) := by rw [cell_of_row _ _ _ _ _ _ H0.out]; rfl
  have c1 : w1.cell? ⟨w.heap.size, 1, none⟩ = some (.string ⟨#[]⟩) := by rw [cell_of_row _ _ _ _ _ _ H0.out]; rfl
  clear b1
  obtain ⟨p, hp⟩ : ∃ p, placeS l g = p := ⟨_, rfl⟩
  rw [hp] at hle HH ⊢
  clear hp
  by_cases hpe : p = l.length
  · have q1 : ((p : Int) == (l.length : Int)) = true := by simp [hpe]
    have HZ : Hid (heldS l g = zk) := by refine (?_ : heldS l g = zk); rw [HH.out, if_neg (by omega)]
    clear hpe hle HH
    go_wp2_with fail
    obtain ⟨X, bX⟩ := put_two H0.out (.int .u32 0) (.string ⟨#[]⟩)
    exact bodyPost_ret (results_cell_row rfl _ _ w.heap.size 24 _ (0, 0) _ rfl X Tryd.underlying24 rfl (by kernel_rfl)) rfl ⟨by rw [HZ.out]; rfl, B1.out.trans bX⟩
  · have hlt : p < l.length := by omega
    have q1 : ((p : Int) == (l.length : Int)) = false := by simp; omega
    have q2 : (p : Int) < (l.length : Int) := by omega
    have q3 : (0 : Int) ≤ (p : Int) := by omega
    obtain ⟨b, off, rfl, hbl, hc⟩ := (HG.out.below B1.out (Nat.le_refl _)).2.2.2 (by intro e; rw [e] at hlt; simp at hlt)
    obtain ⟨d1, d2⟩ := hc p hlt
    obtain ⟨k, hk⟩ : ∃ k, kat l p = k := ⟨_, rfl⟩
    rw [hk] at d1 d2 HH
    clear hc hk hpe
    obtain ⟨x, s⟩ := k
    simp only at d1 d2
    by_cases hx : x = g
    · have HZ : Hid (heldS l g = (x, s)) := by refine (?_ : heldS l g = (x, s)); rw [HH.out, if_pos ⟨hlt, hx⟩]
      have q4 : (x == g) = true := by simp [hx]
      clear hx HH
      go_wp2_with fail
      obtain ⟨X, bX⟩ := put_two H0.out (.int .u32 x) (.string s)
      exact bodyPost_ret (results_cell_row rfl _ _ w.heap.size 24 _ (0, 0) _ rfl X Tryd.underlying24 rfl (by kernel_rfl)) rfl ⟨by rw [HZ.out]; rfl, B1.out.trans bX⟩
    · have HZ : Hid (heldS l g = zk) := by refine (?_ : heldS l g = zk); rw [HH.out, if_neg (fun h => hx h.2)]
      have q4 : (x == g) = false := by simp [hx]
      clear hx HH
      go_wp2_with fail
      obtain ⟨X, bX⟩ := put_two H0.out (.int .u32 0) (.string ⟨#[]⟩)
      exact bodyPost_ret (results_cell_row rfl _ _ w.heap.size 24 _ (0, 0) _ rfl X Tryd.underlying24 rfl (by kernel_rfl)) rfl ⟨by rw [HZ.out]; rfl, B1.out.trans bX⟩
set_option maxRecDepth 100000 in
set_option maxHeartbeats 1000000 in
theorem find_any (l : List Ky) (g : Int) (o : Option Addr) (cap : Nat) (w : World) (hr : Ring w o cap l) :
    Calls Tryd.prog 12 #[.slice o l.length cap, .int .u32 g] w fun e w' => e = .returned (.tuple #[kv (fkS l g), .int .i64 (feS l g)]) ∧ Below w.heap.size w w' := by
  have HG : Hid (Ring w o cap l) := hr
  clear hr
  go_enter Tryd.func12, Tryd.ntmps12
  go_wp2_with fail
  refine (right_any l o cap _ (HG.out.below (below_new w _) (Nat.le_refl _))).mono ?_
  rintro e w1 ⟨rfl, b1⟩
  have B1 : Hid (Below w.heap.size w w1) := (below_new w _).trans (b1.mono (by simp))
  have H0 : Hid (w1.heap[w.heap.size]? = some (.cells #[.int .u32 0, .string ⟨#[]⟩] 24 (0, 0))) := (b1.block _ (by simp)).trans (heap_alloc_new w _)
  clear b1
  cases hR : rightS l
  · have HV : Hid (fkS l g = zk ∧ feS l g = 40) := by refine (?_ : fkS l g = zk ∧ feS l g = 40); simp [fkS, feS, hR]
    have z0 := frozen_of_row w1 w.heap.size 0 _ _ H0.out
    have z1 := frozen_of_row w1 w.heap.size 1 _ _ H0.out
    have c0 : w1.cell? ⟨w.heap.size, 0, none⟩ = some (.int .u32 0) := by rw [cell_of_row _ _ _ _ _ _ H0.out]; rfl
    have c1 : w1.cell? ⟨w.heap.size, 1, none⟩ = some (.string ⟨#[]⟩) := by rw [cell_of_row _ _ _ _ _ _ H0.out]; rfl
    clear hR
    go_wp2_with fail
    obtain ⟨X, bX⟩ := put_two H0.out (.int .u32 0) (.string ⟨#[]⟩)
    exact bodyPost_ret (results_key rfl _ _ w.heap.size zk rfl X) rfl ⟨by rw [HV.out.1, HV.out.2]; rfl, B1.out.trans bX⟩
  · have hZ := held_zero l g hR
    have hF := (held_find l g hR).1
    have HV : Hid (fkS l g = heldS l g ∧ feS l g = if (findS l g).isSome then 0 else 41) := by refine (?_ : fkS l g = heldS l g ∧ feS l g = if (findS l g).isSome then 0 else 41); rw [hF]; simp [fkS, feS, hR]
    have HW : Hid ((findS l g).isSome = false → fkS l g = zk) := fun h => by
      have : findS l g = none := by simpa using h
      simp [fkS, hR, this]
    clear hR hF
    go_wp2_with fail
    refine (held_any l g o cap _ (HG.out.below B1.out (Nat.le_refl _))).mono ?_
    rintro e w2 ⟨rfl, b2⟩
    have B2 : Hid (Below w.heap.size w w2) := B1.out.trans (b2.mono B1.out.size)
    have hlt : w.heap.size < w1.heap.size := (Array.getElem?_eq_some_iff.1 H0.out).1
    have H1 : Hid (w2.heap[w.heap.size]? = some (.cells #[.int .u32 0, .string ⟨#[]⟩] 24 (0, 0))) := (b2.block _ hlt).trans H0.out
    have hq := eql_keys (heldS l g) zk
    rw [hZ] at hq
    clear b2 hlt H0 B1 HG hZ
    generalize heldS l g = k at *
    generalize (findS l g).isSome = f at *
    obtain ⟨x, s⟩ := k
    simp only [kv, zk] at *
    have z0 := frozen_of_row w2 w.heap.size 0 _ _ H1.out
    have z1 := frozen_of_row w2 w.heap.size 1 _ _ H1.out
    have c0 : w2.cell? ⟨w.heap.size, 0, none⟩ = some (.int .u32 0) := by rw [cell_of_row _ _ _ _ _ _ H1.out]; rfl
    have c1 : w2.cell? ⟨w.heap.size, 1, none⟩ = some (.string ⟨#[]⟩) := by rw [cell_of_row _ _ _ _ _ _ H1.out]; rfl
    have hl2 : w.heap.size < w2.heap.size := (Array.getElem?_eq_some_iff.1 H1.out).1
    cases f <;> simp only [Bool.not_false, Bool.not_true] at hq
    · have HV2 : Hid (fkS l g = zk ∧ feS l g = 41) := ⟨HW.out rfl, HV.out.2⟩
      clear HV HW
      go_wp2_with fail
      obtain ⟨X, bX⟩ := put_two H1.out (.int .u32 0) (.string ⟨#[]⟩)
      exact bodyPost_ret (results_key rfl _ _ w.heap.size zk rfl ((Below.heap_alloc _ _ _ (Nat.lt_of_lt_of_le hl2 bX.size)).trans X)) rfl ⟨by rw [HV2.out.1, HV2.out.2]; rfl, (B2.out.trans bX).alloc (Nat.le_of_lt (Nat.lt_of_lt_of_le hl2 bX.size)) _⟩
    · have HV2 : Hid (fkS l g = (x, s) ∧ feS l g = 0) := HV.out
      clear HV HW
      go_wp2_with fail
      obtain ⟨X, bX⟩ := put_two H1.out (.int .u32 x) (.string s)
      exact bodyPost_ret (results_key rfl _ _ w.heap.size (x, s) rfl ((Below.heap_alloc _ _ _ (Nat.lt_of_lt_of_le hl2 bX.size)).trans X)) rfl ⟨by rw [HV2.out.1, HV2.out.2]; rfl, (B2.out.trans bX).alloc (Nat.le_of_lt (Nat.lt_of_lt_of_le hl2 bX.size)) _⟩
end Go.Proofs.YtmlechalhldlhaaDoor.Rk
