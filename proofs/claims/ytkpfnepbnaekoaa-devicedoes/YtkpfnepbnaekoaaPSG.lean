/- The sort beyond twelve: a row parted, in plain terms; partialInsertionSort. -/
import Derived.Test.YtkpfnepbnaekoaaPSF
namespace Go.Proofs.Ytkpfnepbnaekoaa.Rd
open Go.RowKit
/-- A row that is being parted. -/
structure Pt (p : Nat → Bool) (a b i j P : Nat) (d : Array Nat) : Prop where
  ai : a < i
  ij : i ≤ j + 1
  jb : j < b
  pv : d[a]! = P
  lo : ∀ t, a < t → t < i → p d[t]! = true
  hi : ∀ t, j < t → t < b → p d[t]! = false
set_option maxRecDepth 100000 in
theorem Pt.up {p : Nat → Bool} {a b i j P : Nat} {d : Array Nat} (h : Pt p a b i j P d) (hij : i ≤ j) (hp : p d[i]! = true) : Pt p a b (i + 1) j P d :=
  ⟨by have := h.ai; omega, by omega, h.jb, h.pv, fun t h1 h2 => by
    by_cases e : t = i
    · subst e; exact hp
    · exact h.lo t h1 (by omega), h.hi⟩
set_option maxRecDepth 100000 in
theorem Pt.down {p : Nat → Bool} {a b i j P : Nat} {d : Array Nat} (h : Pt p a b i (j + 1) P d) (hij : i ≤ j + 1) (hp : p d[j + 1]! = false) : Pt p a b i j P d :=
  ⟨h.ai, hij, by have := h.jb; omega, h.pv, h.lo, fun t h1 h2 => by
    by_cases e : t = j + 1
    · subst e; exact hp
    · exact h.hi t (by omega) h2⟩
set_option maxRecDepth 100000 in
theorem Pt.swap {p : Nat → Bool} {a b i j P : Nat} {d : Array Nat} (h : Pt p a b i (j + 1) P d) (hij : i ≤ j + 1) (h1 : p d[i]! = false) (h2 : p d[j + 1]! = true) (hb : b ≤ d.size) : i ≤ j ∧ Pt p a b (i + 1) j P (Sort.swp d i (j + 1)) := by
  have hne : i ≠ j + 1 := fun e => by rw [e, h2] at h1; cases h1
  have ha := h.ai
  have hj := h.jb
  refine ⟨by omega, ⟨by omega, by omega, by omega, ?_, fun t t1 t2 => ?_, fun t t1 t2 => ?_⟩⟩
  · rw [Sort.swp_other d i (j + 1) a (by omega) (by omega)]; exact h.pv
  · by_cases e : t = i
    · subst e; rw [Sort.swp_left d t (j + 1) (by omega) hne]; exact h2
    · rw [Sort.swp_other d i (j + 1) t e (by omega)]; exact h.lo t t1 (by omega)
  · by_cases e : t = j + 1
    · subst e; rw [Sort.swp_right d i (j + 1) (by omega)]; exact h1
    · rw [Sort.swp_other d i (j + 1) t (by omega) e]; exact h.hi t (by omega) t2
set_option maxRecDepth 100000 in
theorem Pt.start (p : Nat → Bool) (a b pv : Nat) (d : Array Nat) (h1 : a ≤ pv) (h2 : pv < b) (hb : b ≤ d.size) : Pt p a b (a + 1) (b - 1) d[pv]! (Sort.swp d a pv) := by
  refine ⟨by omega, by omega, by omega, ?_, fun t t1 t2 => by omega, fun t t1 t2 => by omega⟩
  by_cases e : a = pv
  · subst e; rw [Sort.swp_right d a a (by omega)]
  · exact Sort.swp_left d a pv (by omega) e
set_option maxRecDepth 100000 in
theorem scan_sorted {a i : Nat} {d : Array Nat} (h : Sort.SortedIn ltN a i d) (_hi : a < i) (hl : ltN d[i]! d[i - 1]! = false) : Sort.SortedIn ltN a (i + 1) d := Sort.SortedIn.snoc swoN h hl
set_option maxRecDepth 100000 in
set_option maxHeartbeats 2000000 in
theorem partial_any (g cap a b : Nat) (d : Array Nat) (ha : a + 12 < b) (hb : b ≤ d.size) (hd : d.size ≤ 30) (w : World) (h : Us w g d) :
    Calls Try.prog 81 #[.slice (some ⟨g, 0, none⟩) d.size cap, .int .i64 (a : Int), .int .i64 (b : Int)] w fun e w' => (∃ r, e = .returned (.bool r) ∧ (r = true → Sort.SortedIn ltN a b d)) ∧ Us w' g d ∧ Bg g w w' := by
  have HU : Hid (Us w g d) := h
  clear h
  obtain ⟨n, hn⟩ : ∃ n, d.size = n := ⟨_, rfl⟩
  rw [hn] at hb hd ⊢
  obtain ⟨l, hl⟩ : ∃ l : Nat, (b : Int) - (a : Int) = (l : Int) := ⟨b - a, by omega⟩
  have l50 : (l : Int) < 50 := by omega
  go_enter Try.func81, Try.ntmps81
  go_wp2_with fail
  refine wp_loop_rounds 1 ?_
  rw [rounds_succ]
  go_wp2_with fail
  go_loopw [7] (fun iv wr => ∃ (i : Nat), iv = .int .i64 (i : Int) ∧ a < i ∧ i ≤ b ∧ Us wr g d ∧ Sort.SortedIn ltN a i d ∧ Bg g w wr) (fun iv _ => b - natOf iv)
  case atStart => exact ⟨a + 1, by go_num, by omega, by omega, HU.out, fun i j h1 h2 h3 => by omega, But.refl _ _⟩
  case round =>
    obtain ⟨i, rfl, hai, hib, hu, hso, hbg⟩ := hrel
    have U1 : Hid (Us wr g d) := hu
    have S1 : Hid (Sort.SortedIn ltN a i d) := hso
    have B1 : Hid (Bg g w wr) := hbg
    clear hso hbg
    by_cases hlt : i < b
    · have q1 : (i : Int) < (b : Int) := by omega
      obtain ⟨i', hi', hi2⟩ : ∃ i' : Nat, (i : Int) - 1 = (i' : Int) ∧ i' = i - 1 := ⟨i - 1, by omega, rfl⟩
      obtain ⟨x1, y1⟩ := hu.cell i (by omega)
      obtain ⟨x2, y2⟩ := hu.cell i' (by omega)
      have p1 : (i : Int) < (n : Int) := by omega
      have p2 : (i' : Int) < (n : Int) := by omega
      have p3 : (0 : Int) ≤ (i : Int) := by omega
      have p4 : (0 : Int) ≤ (i' : Int) := by omega
      generalize hx : d[i]! = xv at *
      generalize hy : d[i']! = yv at *
      have HX : Hid (d[i]! = xv) := hx
      have HY : Hid (d[i']! = yv) := hy
      have HI : Hid (i' = i - 1) := hi2
      clear hx hy hu hi2
      go_wp2_with fail
      go_quiet (first | (go_at_call 82; refine Calls.quiet_of_same (less_any _ _ _)))
      rename_i hK
      refine hK _ _ ?_
      have U5 : Hid (Us (wr.drewN nq) g d) := Us.same U1.out rfl
      have B5 : Hid (Bg g w (wr.drewN nq)) := B1.out.trans (Bg.drewN wr nq)
      obtain ⟨wz, hwz⟩ : ∃ wz, wr.drewN nq = wz := ⟨_, rfl⟩
      rw [hwz] at U5 B5 ⊢
      clear hwz hK x1 x2 y1 y2
      cases hll : ltN xv yv
      · have S5 : Hid (Sort.SortedIn ltN a (i + 1) d) := scan_sorted S1.out hai (by rw [← HI.out, HX.out, HY.out]; exact hll)
        clear hll
        go_wp2_with fail
        go_roundw
        case rel => exact ⟨i + 1, by go_num, by omega, by omega, U5.out, S5.out, B5.out⟩
        case measure => simp [natOf]; omega
      · have q2 : ((i : Int) == (b : Int)) = false := by simp; omega
        clear hll
        go_wp2_with fail
        go_ret
        exact ⟨⟨_, rfl, fun h => by cases h⟩, U5.out, B5.out⟩
    · have hib2 : i = b := by omega
      subst hib2
      clear hu
      go_wp2_with fail
      go_quiet (fail)
      rename_i hK
      refine hK _ _ ?_
      have U5 : Hid (Us (wr.drewN nq) g d) := Us.same U1.out rfl
      have B5 : Hid (Bg g w (wr.drewN nq)) := B1.out.trans (Bg.drewN wr nq)
      go_wp2_with fail
      go_ret
      exact ⟨⟨_, rfl, fun _ => S1.out⟩, U5.out, B5.out⟩
end Go.Proofs.Ytkpfnepbnaekoaa.Rd
