/- A key of one byte; two lists held against each other; the index of a key. -/
import Derived.Test.YtmlechalhldlhaaDoorKF
import Derived.Laws.StructEq
namespace Go.Proofs.YtmlechalhldlhaaDoor.Rk
open Go.RowKit
theorem toList_dec (a b : ByteArray) : (a.toList == b.toList) = decide (a = b) := by
  rw [ByteArray.toList_eq, ByteArray.toList_eq]
  by_cases e : a = b
  · subst e; simp
  · rw [decide_eq_false e]
    have h : ¬ a.data.toList = b.data.toList := fun h => e (ByteArray.ext (Array.toList_inj.1 h))
    simpa using h
theorem toList_iff (a b : ByteArray) : a.toList = b.toList ↔ a = b := by
  by_cases e : a = b
  · simp [e]
  · have := toList_dec a b
    rw [decide_eq_false e] at this
    simp at this
    simp [this, e]
theorem rep_get {α : Type} (f : Int → α) (c : Int) (n i : Nat) (h : i < n) : ((List.replicate n c).map f)[i]? = some (f ((List.replicate n c).getD i 0)) := by
  simp [List.getD, h]
theorem eql_keys (x y : Ky) (w : World) : (binOp .eql 24 (.agg #[.int .u32 x.1, .string x.2]) (.agg #[.int .u32 y.1, .string y.2])).run Tryd.prog w = .ok (.bool (decide (x = y))) w := by
  have hS : Tryd.prog.underlying 24 = some (.struct (Tryd.prog.fieldsOf 24)) := by kernel_rfl
  have hp : Tryd.prog.stoodInHeld 24 = false := by kernel_rfl
  have u25 := Tryd.underlying22
  have u9 := Tryd.underlying9
  obtain ⟨g, s⟩ := x
  obtain ⟨h, t⟩ := y
  rw [run_eql_struct, show (10000 : Nat) = 9999 + 1 from rfl, run_equalIn_agg w 9999 24 _ _ hS hp]
  simp only [Program.fieldsOf, Tryd.underlying24]
  go_simp
  simp only [toList_iff]
  by_cases h1 : g = h <;> by_cases h2 : s = t <;> simp [h1, h2]
theorem neq_keys (x y : Ky) (w : World) : (binOp .neq 24 (.agg #[.int .u32 x.1, .string x.2]) (.agg #[.int .u32 y.1, .string y.2])).run Tryd.prog w = .ok (.bool (!decide (x = y))) w := by
  have h := eql_keys x y w
  rw [run_eql_struct] at h
  rw [run_neq_struct]
  cases e : (Op.equalIn 10000 24 (.agg #[.int .u32 x.1, .string x.2]) (.agg #[.int .u32 y.1, .string y.2])).run Tryd.prog w with
  | ok b w' => rw [e] at h; simp [Result.andThen] at h ⊢; simp [h]
  | _ => rw [e] at h; simp [Result.andThen] at h
/-- A secret of one byte. -/
def rep (c : Int) : ByteArray := strOfNums (List.replicate 32 c)
theorem rep_size (c : Int) : (rep c).size = 32 := by unfold rep; rw [strOfNums_size]; simp
theorem own_cellK {A : World} {base : Nat} {e : TypeId} {p cap n sz : Nat} {xs : List Value} (ho : A.ownsRow base e sz (.slice (some ⟨p, 0, none⟩) n cap) n xs) {j : Nat} {v : Value} (h : xs[j]? = some v) : A.cell? ⟨p, j, none⟩ = some v := by
  have := ho.cells (g := p) rfl j v h
  rwa [Addr.add_lit, Nat.zero_add] at this
theorem below_grown {B : Nat} {w W W' : World} {v : Value} (h : Below B w W) (hg : W.grownBy W' v.ownBlock) (hB : B ≤ W.heap.size) (hv : ∀ k, v.ownBlock = some k → B ≤ k) : Below B w W' := h.grown hg hB hv
set_option maxRecDepth 100000 in
set_option maxHeartbeats 1000000 in
theorem key_any (g c : Int) (w : World) :
    Calls Tryd.prog 11 #[.int .u32 g, .int .u8 c] w fun e w' => e = .returned (kv (g, rep c)) ∧ Below w.heap.size w w' := by
  obtain ⟨i0, hi, hz0, hz1, hz2⟩ := info_parts info5
  go_enter Tryd.func11, Tryd.ntmps11
  go_wp2_with fail
  go_loopw [5, 6] (fun v i wr => ∃ k : Nat, k ≤ 32 ∧ i = .int .i64 (k : Int) ∧ wr.ownsRow (w.heap.size + 1) 5 1 v k ((List.replicate k c).map (Value.int .u8)) ∧ wr.heap[w.heap.size]? = some (.cells #[.int .u32 0, .string ⟨#[]⟩] 24 (0, 0)) ∧ Below w.heap.size w wr) (fun _ i _ => 32 - natOf i)
  case atStart => exact ⟨0, by omega, rfl, World.ownsRow_nil _ _ _ _, heap_alloc_new w _, below_new w _⟩
  case round =>
    obtain ⟨k, hk, rfl, ho, h0, hb⟩ := hrel
    have HO : Hid (wr.ownsRow (w.heap.size + 1) 5 1 u5 k ((List.replicate k c).map (Value.int .u8))) := ho
    have H0 : Hid (wr.heap[w.heap.size]? = some (.cells #[.int .u32 0, .string ⟨#[]⟩] 24 (0, 0))) := h0
    have HB : Hid (Below w.heap.size w wr) := hb
    have hsz : w.heap.size < wr.heap.size := (Array.getElem?_eq_some_iff.1 h0).1
    by_cases hlt : k < 32
    · have g0 : (k : Int) < 32 := by omega
      have g1 : (0 : Int) ≤ (k : Int) := by omega
      obtain ⟨v', w', hr5, hown5, hgrow5, hn5, hat5⟩ := run_append_own_at (P := Tryd.prog) (wr.alloc (.cells #[.int .u8 c] 5)) (w.heap.size + 1) 42 42 5 i0 (.int .u8 0) 1 1 Tryd.underlying42 hi hz0 hz1 hz2 rfl (by decide) u5 k _ (ho.alloc _) ⟨wr.heap.size, 0, none⟩ 1 1 [.int .u8 c] rfl (cell_one _ _ _) (fun u hu => by simp at hu; subst hu; rfl) (by simp only [maxLen]; omega) (by omega) (by simp; omega)
      have hne : ∀ j, u5.ownBlock = some j → w.heap.size + 1 ≤ j := fun j e => (ho.lt j e).1
      have HO5 : Hid (w'.ownsRow (w.heap.size + 1) 5 1 v' (k + 1) ((List.replicate (k + 1) c).map (Value.int .u8))) := by
        refine (?_ : w'.ownsRow _ _ _ _ _ _)
        rw [List.replicate_succ', List.map_append]; exact hown5
      have X5 : Hid (w'.heap[w.heap.size]? = some (.cells #[.int .u32 0, .string ⟨#[]⟩] 24 (0, 0))) := (hgrow5.block _ (by simp; omega) (by intro e; have := hne _ e.symm; omega)).trans ((Below.heap_alloc _ _ _ hsz).trans h0)
      have B5 : Hid (Below w.heap.size w w') := (hb.trans ((below_new wr _).mono (by omega))).grown hgrow5 (by simp; omega) (fun j e => by have := hne j e; omega)
      clear ho h0 hb hown5 hgrow5 hn5 hat5 hne
      go_wp2_with (at_builtin; refine list_append rfl 42 42 (.tmp 11) (.tmp 13) rfl (vs := u5) (vx := .slice (some ⟨wr.heap.size, 0, none⟩) 1 1) rfl rfl hr5 ?_)
      go_roundw
      case rel => exact ⟨k + 1, by omega, by go_num, HO5.out, X5.out, B5.out⟩
      case measure => simp [natOf]; omega
    · have g0 : ¬ (k : Int) < 32 := by omega
      obtain rfl : k = 32 := by omega
      obtain ⟨p, cap, rfl⟩ : ∃ p cap, u5 = .slice (some ⟨p, 0, none⟩) 32 cap := by
        rcases ho.2 with ⟨_, h⟩ | ⟨p, cap, _, rfl, _⟩
        · omega
        · exact ⟨p, cap, rfl⟩
      have hcv : (convert 42 9 (.slice (some ⟨p, 0, none⟩) 32 cap)).run Tryd.prog wr = .ok (.string (rep c)) wr := by
        refine run_convert_bytes_arg wr 42 5 Tryd.underlying42 Tryd.underlying5 p 0 32 cap (List.replicate 32 c) (by simp) (fun i hi => ?_) 9 Tryd.underlying9
        rw [Nat.zero_add]
        refine own_cellK ho ?_
        exact rep_get _ c 32 i hi
      clear ho h0 hb
      have z0 := frozen_of_row wr w.heap.size 0 _ _ H0.out
      have z1 := frozen_of_row wr w.heap.size 1 _ _ H0.out
      have c0 : wr.cell? ⟨w.heap.size, 0, none⟩ = some (.int .u32 0) := by rw [cell_of_row _ _ _ _ _ _ H0.out]; rfl
      have c1 : wr.cell? ⟨w.heap.size, 1, none⟩ = some (.string ⟨#[]⟩) := by rw [cell_of_row _ _ _ _ _ _ H0.out]; rfl
      go_wp2_with fail
      have X1 := heap_setCell_same wr w.heap.size 0 _ _ (.int .u32 g) H0.out
      have X2 := heap_setCell_same _ w.heap.size 1 _ _ (.string (rep c)) X1
      have b2 : Below w.heap.size wr ((wr.setCell ⟨w.heap.size, 0, none⟩ (.int .u32 g)).setCell ⟨w.heap.size, 1, none⟩ (.string (rep c))) := (grown_below (gb_set wr _ 0 _) (Nat.le_refl _) (by omega)).trans (grown_below (gb_set _ _ 1 _) (Nat.le_refl _) (by simp [World.setCell]; omega))
      refine bodyPost_ret (results_cell_row rfl _ _ w.heap.size 24 _ (0, 0) _ rfl X2 Tryd.underlying24 rfl (by kernel_rfl)) rfl ⟨rfl, HB.out.trans b2⟩
theorem below_drewN (w : World) (n B : Nat) : Below B w (w.drewN n) := by
  induction n with
  | zero => exact Below.refl _ _
  | succ n ih => exact ih.drew
set_option maxRecDepth 100000 in
set_option maxHeartbeats 1000000 in
theorem same_any (l m : List Ky) (o p : Option Addr) (cap dap : Nat) (w : World) (hr : Ring w o cap l) (hs : Ring w p dap m) :
    Calls Tryd.prog 13 #[.slice o l.length cap, .slice p m.length dap] w fun e w' => e = .returned (.bool (decide (l = m))) ∧ Below w.heap.size w w' := by
  have n0 : (0 : Int) ≤ (l.length : Int) := by omega
  have n1 : (l.length : Int) ≤ 9223372036854775807 := by have := hr.1; have := hr.2.1; simp only [maxLen] at this; omega
  have HG : Hid (Ring w o cap l) := hr
  have HM : Hid (Ring w p dap m) := hs
  clear hr hs
  by_cases hlm : l.length = m.length
  · have q0 : ((l.length : Int) != (m.length : Int)) = false := by simp [hlm]
    have HL : Hid (l.length = m.length) := hlm
    clear hlm
    go_enter Tryd.func13, Tryd.ntmps13
    go_wp2_with fail
    go_loopw [5] (fun i wr => ∃ k : Nat, k ≤ l.length ∧ i = .int .i64 (k : Int) ∧ (∀ j, j < k → kat l j = kat m j) ∧ Below w.heap.size w wr) (fun i _ => l.length - natOf i)
    case atStart => exact ⟨0, by omega, rfl, fun j h => by omega, Below.refl _ _⟩
    case round =>
      obtain ⟨k, hk, rfl, hs, hb⟩ := hrel
      have HS : Hid _ := hs
      have HB : Hid (Below w.heap.size w wr) := hb
      clear hs
      by_cases hlt : k < l.length
      · have g0 : (k : Int) < (l.length : Int) := by omega
        have g1 : (0 : Int) ≤ (k : Int) := by omega
        have g2 : (k : Int) + 1 ≤ 9223372036854775807 := by omega
        have hltm : k < m.length := by have := HL.out; omega
        have g3 : (k : Int) < (m.length : Int) := by omega
        obtain ⟨b, off, rfl, hbl, hc⟩ := (HG.out.below hb (Nat.le_refl _)).2.2.2 (by intro e; rw [e] at hlt; simp at hlt)
        obtain ⟨b', off', rfl, hbl', hc'⟩ := (HM.out.below hb (Nat.le_refl _)).2.2.2 (by intro e; rw [e] at hltm; simp at hltm)
        obtain ⟨c1, c2⟩ := hc k hlt
        obtain ⟨d1, d2⟩ := hc' k hltm
        have HK : Hid (∀ x y, kat l k = x → kat m k = y → x ≠ y → l ≠ m) := fun x y hx hy hn e => hn (by rw [← hx, ← hy, e])
        have HX : Hid (∃ x y, kat l k = x ∧ kat m k = y) := ⟨_, _, rfl, rfl⟩
        obtain ⟨x, hx⟩ : ∃ x, kat l k = x := ⟨_, rfl⟩
        obtain ⟨y, hy⟩ : ∃ y, kat m k = y := ⟨_, rfl⟩
        have hq := neq_keys x y
        rw [hx] at c1 c2
        rw [hy] at d1 d2
        have HXY : Hid (kat l k = x ∧ kat m k = y) := ⟨hx, hy⟩
        obtain ⟨e, he⟩ : ∃ e, decide (x = y) = e := ⟨_, rfl⟩
        rw [he] at hq
        have HE : Hid (decide (x = y) = e) := he
        clear hc hc' hb hx hy he HX
        obtain ⟨g, s⟩ := x
        obtain ⟨h, t⟩ := y
        simp only at c1 c2 d1 d2 hq
        go_wp2_with fail
        go_quiet (fail)
        have BQ : Hid (Below w.heap.size w (wr.drewN nq)) := HB.out.trans (below_drewN _ _ _)
        rename_i K1 h1 K2 h2 K3 h3
        refine h3 _ _ ?_
        clear hq c1 c2 d1 d2
        generalize wr.drewN nq = wq at *
        cases e <;> simp only [Bool.not_false, Bool.not_true]
        · have HN : Hid (decide (l = m) = false) := by
            refine (?_ : decide (l = m) = false)
            exact decide_eq_false (HK.out _ _ HXY.out.1 HXY.out.2 (of_decide_eq_false HE.out))
          go_wp2_with fail
          go_ret
          exact ⟨by rw [HN.out]; rfl, BQ.out⟩
        · go_wp2_with fail
          go_roundw
          case rel =>
            refine ⟨k + 1, by omega, by go_num, fun j hj => ?_, BQ.out⟩
            rcases Nat.lt_succ_iff_lt_or_eq.1 hj with h | rfl
            · exact HS.out j h
            · rw [HXY.out.1, HXY.out.2]; exact of_decide_eq_true HE.out
          case measure => simp [natOf]; omega
      · have hke : k = l.length := by omega
        have g0 : ¬ (k : Int) < (l.length : Int) := by omega
        have HR : Hid (decide (l = m) = true) := by
          refine (?_ : decide (l = m) = true)
          refine decide_eq_true (List.ext_getElem? fun i => ?_)
          by_cases hi : i < l.length
          · rw [kat_some hi, kat_some (by have := HL.out; omega), HS.out i (by omega)]
          · rw [List.getElem?_eq_none (by omega), List.getElem?_eq_none (by have := HL.out; omega)]
        clear hke hb
        go_wp2_with fail
        go_ret
        exact ⟨by rw [HR.out]; rfl, HB.out⟩
  · have q0 : ((l.length : Int) != (m.length : Int)) = true := by simp; omega
    have HR : Hid (decide (l = m) = false) := by refine (?_ : decide (l = m) = false); exact decide_eq_false fun e => hlm (by rw [e])
    clear hlm
    go_enter Tryd.func13, Tryd.ntmps13
    go_wp2_with fail
    go_ret
    exact ⟨by rw [HR.out]; rfl, Below.refl _ _⟩
end Go.Proofs.YtmlechalhldlhaaDoor.Rk
