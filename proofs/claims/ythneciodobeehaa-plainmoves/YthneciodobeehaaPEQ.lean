/- Rows held against each other; the reference: are rows the same? -/
import Derived.Test.YthneciodobeehaaPGC
import Derived.Test.YthneciodobeehaaPCK
namespace Go.Proofs.Ythneciodobeehaa.Rq
open Go.RowKit Go.Lib Go.Shelf
open Go.Proofs.Ythneciodobeehaa.Rc
set_option maxRecDepth 100000 in
theorem ba_ne {s t : ByteArray} (h : s ≠ t) (e : s.toList = t.toList) : False := by
  rw [ByteArray.toList_eq, ByteArray.toList_eq] at e
  apply h
  obtain ⟨⟨a⟩⟩ := s
  obtain ⟨⟨b⟩⟩ := t
  have e' : a = b := e
  rw [e']
def eqR (r s : Rw) : Bool := decide (r.id = s.id) && (decide (r.x = s.x) && (decide (r.y = s.y) && decide (r.v = s.v)))
set_option maxRecDepth 100000 in
theorem eqR_iff (r s : Rw) : eqR r s = true ↔ r = s := by
  unfold eqR
  simp only [Bool.and_eq_true, decide_eq_true_eq]
  exact ⟨fun h => by obtain ⟨a, b, c, d⟩ := r; obtain ⟨a2, b2, c2, d2⟩ := s; simp only at h; obtain ⟨h1, h2, h3, h4⟩ := h; rw [h1, h2, h3, h4], fun h => by rw [h]; exact ⟨rfl, rfl, rfl, rfl⟩⟩
set_option maxRecDepth 100000 in
theorem eql_row (a b c a' b' c' : Nat) (s t : ByteArray) (w : World) : (binOp .eql 27 (.agg #[.int .u64 (a : Int), .int .u32 (b : Int), .int .u32 (c : Int), .string s]) (.agg #[.int .u64 (a' : Int), .int .u32 (b' : Int), .int .u32 (c' : Int), .string t])).run Try.prog w = .ok (.bool (eqR ⟨a, b, c, s⟩ ⟨a', b', c', t⟩)) w := by
  have hS : Try.prog.underlying 27 = some (.struct (Try.prog.fieldsOf 27)) := by kernel_rfl
  have hp : Try.prog.stoodInHeld 27 = false := by kernel_rfl
  have u2 := Try.underlying25
  have u4 := Try.underlying23
  have u9 := Try.underlying9
  rw [run_eql_struct, show (10000 : Nat) = 9999 + 1 from rfl, run_equalIn_agg w 9999 27 _ _ hS hp]
  simp only [Program.fieldsOf, Try.underlying27]
  unfold eqR
  simp only
  by_cases h1 : a = a'
  · subst h1
    by_cases h2 : b = b'
    · subst h2
      by_cases h3 : c = c'
      · subst h3
        by_cases h4 : s = t
        · subst h4
          go_simp
        · go_simp
          exact fun e => ba_ne h4 e
      · go_simp
        exact fun e => absurd (Int.ofNat_inj.1 e) h3
    · go_simp
      exact fun e => absurd (Int.ofNat_inj.1 e) h2
  · go_simp
    exact fun e => absurd (Int.ofNat_inj.1 e) h1
set_option maxRecDepth 100000 in
theorem neq_row (a b c a' b' c' : Nat) (s t : ByteArray) (w : World) : (binOp .neq 27 (.agg #[.int .u64 (a : Int), .int .u32 (b : Int), .int .u32 (c : Int), .string s]) (.agg #[.int .u64 (a' : Int), .int .u32 (b' : Int), .int .u32 (c' : Int), .string t])).run Try.prog w = .ok (.bool (!eqR ⟨a, b, c, s⟩ ⟨a', b', c', t⟩)) w := by
  have h := eql_row a b c a' b' c' s t w
  rw [run_eql_struct] at h
  rw [run_neq_struct]
  cases e : (Op.equalIn 10000 27 (.agg #[.int .u64 (a : Int), .int .u32 (b : Int), .int .u32 (c : Int), .string s]) (.agg #[.int .u64 (a' : Int), .int .u32 (b' : Int), .int .u32 (c' : Int), .string t])).run Try.prog w with
  | ok b w' => rw [e] at h; simp [Result.andThen] at h ⊢; simp [h]
  | _ => rw [e] at h; simp [Result.andThen] at h
/-- Lists that are the same so far. -/
def eqL {α : Type} (f : α → α → Bool) (l m : List α) : Bool := decide (l.length = m.length) && ((l.zip m).all fun p => f p.1 p.2)
set_option maxRecDepth 100000 in
theorem eqL_iff {α : Type} (f : α → α → Bool) (hf : ∀ a b, f a b = true ↔ a = b) : ∀ (l m : List α), eqL f l m = true ↔ l = m
  | [], [] => by simp [eqL]
  | [], b :: m => by simp [eqL]
  | a :: l, [] => by simp [eqL]
  | a :: l, b :: m => by
    have ih := eqL_iff f hf l m
    unfold eqL at ih ⊢
    simp only [Bool.and_eq_true, decide_eq_true_eq, List.length_cons, List.zip_cons_cons, List.all_cons, Nat.add_right_cancel_iff] at ih ⊢
    rw [hf]
    constructor
    · rintro ⟨h1, h2, h3⟩; rw [h2, ih.1 ⟨h1, h3⟩]
    · intro h; cases h; exact ⟨rfl, rfl, (ih.2 rfl).2⟩
set_option maxRecDepth 100000 in
theorem zip_take {α : Type} (f : α → α → Bool) {l m : List α} {i : Nat} {a b : α} (h : l[i]? = some a) (h' : m[i]? = some b) : ((l.zip m).take (i + 1)).all (fun p => f p.1 p.2) = (((l.zip m).take i).all (fun p => f p.1 p.2) && f a b) := by
  have : (l.zip m)[i]? = some (a, b) := by rw [List.getElem?_zip_eq_some]; exact ⟨h, h'⟩
  rw [List.take_add_one, this, List.all_append]
  simp
set_option maxRecDepth 100000 in
theorem zip_false {α : Type} (f : α → α → Bool) {l m : List α} {i : Nat} {a b : α} (h : l[i]? = some a) (h' : m[i]? = some b) (hf : f a b = false) : (l.zip m).all (fun p => f p.1 p.2) = false := by
  have : (l.zip m)[i]? = some (a, b) := by rw [List.getElem?_zip_eq_some]; exact ⟨h, h'⟩
  cases e : (l.zip m).all (fun p => f p.1 p.2)
  · rfl
  · rw [List.all_eq_true] at e
    have := e _ (List.mem_of_getElem? this)
    simp only at this
    rw [hf] at this; cases this
/-- Two rows in memory. -/
def F8b (b x p y : Nat) (r s : Rw) (w : World) : Prop := Fr w b x r ∧ Fr w p y s
set_option maxRecDepth 100000 in
set_option maxHeartbeats 2000000 in
theorem rsame_any (l m : List Rw) (o : Option Addr) (cap : Nat) (o2 : Option Addr) (cap2 : Nat) (w : World) (hr : RowsAt w o cap l) (hr2 : RowsAt w o2 cap2 m) :
    Calls Try.prog 17 #[.slice o l.length cap, .slice o2 m.length cap2] w fun e w' => e = .returned (.bool (eqL eqR l m)) ∧ Below w.heap.size w w' := by
  have hmx : l.length ≤ maxLen := Nat.le_trans hr.1 hr.2.1
  by_cases hlm : l.length = m.length
  · have q0 : (l.length : Int) = (m.length : Int) := by omega
    have HE0 : Hid (eqL eqR l m = ((l.zip m).all fun p => eqR p.1 p.2)) := by
      refine (?_ : eqL eqR l m = ((l.zip m).all fun p => eqR p.1 p.2))
      unfold eqL; simp [hlm]
    generalize eqL eqR l m = res at *
    have HL : Hid (l.length = m.length) := hlm
    rw [← hlm]
    clear hlm q0
    go_enter Try.func17, Try.ntmps17
    go_wp2_with fail
    go_loopw [5] (fun i wr => ∃ k : Nat, k ≤ l.length ∧ i = .int .i64 (k : Int) ∧ ((l.zip m).take k).all (fun p => eqR p.1 p.2) = true ∧ Below w.heap.size w wr) (fun i _ => l.length - natOf i)
    case atStart => exact ⟨0, by omega, rfl, by simp, Below.refl _ _⟩
    case round =>
      obtain ⟨k, hk, rfl, hal, hb⟩ := hrel
      have HA : Hid _ := hal
      clear hal
      by_cases hlt : k < l.length
      · have hlt2 : k < m.length := by have := HL.out; omega
        obtain ⟨b, off, rfl, hbl, hc⟩ := (hr.below hb (Nat.le_refl _)).row hlt
        obtain ⟨b2, off2, rfl, hbl2, hc2⟩ := (hr2.below hb (Nat.le_refl _)).row hlt2
        have q1 : (k : Int) < (l.length : Int) := by omega
        have k0 : (0 : Int) ≤ (k : Int) := by omega
        have k1 : (k : Int) + 1 ≤ 9223372036854775807 := by simp only [maxLen] at hmx; omega
        have HSW : Hid (F8b b (off + k * 4) b2 (off2 + k * 4) (rat l k) (rat m k) wr.drew) := ⟨hc k hlt, hc2 k hlt2⟩
        have HZT : Hid _ := zip_take eqR (rat_some hlt) (rat_some hlt2)
        have HZF : Hid _ := zip_false eqR (rat_some hlt) (rat_some hlt2)
        generalize rat l k = r at *
        generalize rat m k = r2 at *
        obtain ⟨id, x, y, v⟩ := r
        obtain ⟨id2, x2, y2, v2⟩ := r2
        have hnq := neq_row id x y id2 x2 y2 v v2
        have HB : Hid (Below w.heap.size w wr.drew) := hb.drew
        obtain ⟨eb, heb⟩ : ∃ eb, eqR ⟨id, x, y, v⟩ ⟨id2, x2, y2, v2⟩ = eb := ⟨_, rfl⟩
        have HEB : Hid (eqR ⟨id, x, y, v⟩ ⟨id2, x2, y2, v2⟩ = eb) := heb
        rw [heb] at hnq
        clear hc hc2 hb heb
        clear hlt2 hbl hbl2
        go_wp2_with fail
        refine wp_region_held (S := F8b b (off + k * 4) b2 (off2 + k * 4) ⟨id, x, y, v⟩ ⟨id2, x2, y2, v2⟩) (by kernel_rfl) ?_
        change wpAnyH _ _ _ _ _ _ _ _ (World.drew _)
        refine wpAnyH_take (i := 0) (v := ?_) rfl (by kernel_rfl) (by kernel_rfl) (by kernel_rfl) (fun _ _ _ h => h) (Or.inl ⟨by kernel_rfl, ?_⟩) HSW.out ?_
        rotate_left
        · intro w hS
          obtain ⟨⟨e1, e2, e3, e4⟩, e5, e6, e7, e8⟩ := hS
          go_simp
          try with_reducible rfl
        conv in (Act.put _ _ _) => simp only [List.getElem_toArray, List.getElem_cons_succ, List.getElem_cons_zero, Act.put, List.setIfInBounds_toArray, List.set_cons_succ, List.set_cons_zero]
        refine wpAnyH_take (i := 1) (v := ?_) rfl (by kernel_rfl) (by kernel_rfl) (by kernel_rfl) (fun _ _ _ h => h) (Or.inl ⟨by kernel_rfl, ?_⟩) HSW.out ?_
        rotate_left
        · intro w hS
          obtain ⟨⟨e1, e2, e3, e4⟩, e5, e6, e7, e8⟩ := hS
          go_simp
          try with_reducible rfl
        conv in (Act.put _ _ _) => simp only [List.getElem_toArray, List.getElem_cons_succ, List.getElem_cons_zero, Act.put, List.setIfInBounds_toArray, List.set_cons_succ, List.set_cons_zero]
        refine wpAnyH_take (i := 2) (v := ?_) rfl (by kernel_rfl) (by kernel_rfl) (by kernel_rfl) (fun _ _ _ h => h) (Or.inl ⟨by kernel_rfl, ?_⟩) HSW.out ?_
        rotate_left
        · intro w hS
          obtain ⟨⟨e1, e2, e3, e4⟩, e5, e6, e7, e8⟩ := hS
          go_simp
          try with_reducible rfl
        conv in (Act.put _ _ _) => simp only [List.getElem_toArray, List.getElem_cons_succ, List.getElem_cons_zero, Act.put, List.setIfInBounds_toArray, List.set_cons_succ, List.set_cons_zero]
        refine wpAnyH_take (i := 3) (v := ?_) rfl (by kernel_rfl) (by kernel_rfl) (by kernel_rfl) (fun _ _ _ h => h) (Or.inl ⟨by kernel_rfl, ?_⟩) HSW.out ?_
        rotate_left
        · intro w hS
          obtain ⟨⟨e1, e2, e3, e4⟩, e5, e6, e7, e8⟩ := hS
          go_simp
          try with_reducible rfl
        conv in (Act.put _ _ _) => simp only [List.getElem_toArray, List.getElem_cons_succ, List.getElem_cons_zero, Act.put, List.setIfInBounds_toArray, List.set_cons_succ, List.set_cons_zero]
        refine wpAnyH_take (i := 4) (v := ?_) rfl (by kernel_rfl) (by kernel_rfl) (by kernel_rfl) (fun _ _ _ h => h) (Or.inl ⟨by kernel_rfl, ?_⟩) HSW.out ?_
        rotate_left
        · intro w hS
          obtain ⟨⟨e1, e2, e3, e4⟩, e5, e6, e7, e8⟩ := hS
          go_simp
          try with_reducible rfl
        conv in (Act.put _ _ _) => simp only [List.getElem_toArray, List.getElem_cons_succ, List.getElem_cons_zero, Act.put, List.setIfInBounds_toArray, List.set_cons_succ, List.set_cons_zero]
        refine wpAnyH_take (i := 5) (v := ?_) rfl (by kernel_rfl) (by kernel_rfl) (by kernel_rfl) (fun _ _ _ h => h) (Or.inl ⟨by kernel_rfl, ?_⟩) HSW.out ?_
        rotate_left
        · intro w hS
          obtain ⟨⟨e1, e2, e3, e4⟩, e5, e6, e7, e8⟩ := hS
          go_simp
          try with_reducible rfl
        conv in (Act.put _ _ _) => simp only [List.getElem_toArray, List.getElem_cons_succ, List.getElem_cons_zero, Act.put, List.setIfInBounds_toArray, List.set_cons_succ, List.set_cons_zero]
        refine wpAnyH_take (i := 6) (v := ?_) rfl (by kernel_rfl) (by kernel_rfl) (by kernel_rfl) (fun _ _ _ h => h) (Or.inl ⟨by kernel_rfl, ?_⟩) HSW.out ?_
        rotate_left
        · intro w hS
          obtain ⟨⟨e1, e2, e3, e4⟩, e5, e6, e7, e8⟩ := hS
          go_simp
          try with_reducible rfl
        conv in (Act.put _ _ _) => simp only [List.getElem_toArray, List.getElem_cons_succ, List.getElem_cons_zero, Act.put, List.setIfInBounds_toArray, List.set_cons_succ, List.set_cons_zero]
        refine wpAnyH_take (i := 7) (v := ?_) rfl (by kernel_rfl) (by kernel_rfl) (by kernel_rfl) (fun _ _ _ h => h) (Or.inl ⟨by kernel_rfl, ?_⟩) HSW.out ?_
        rotate_left
        · intro w hS
          obtain ⟨⟨e1, e2, e3, e4⟩, e5, e6, e7, e8⟩ := hS
          go_simp
          try with_reducible rfl
        conv in (Act.put _ _ _) => simp only [List.getElem_toArray, List.getElem_cons_succ, List.getElem_cons_zero, Act.put, List.setIfInBounds_toArray, List.set_cons_succ, List.set_cons_zero]
        refine wpAnyH_take (i := 8) (v := ?_) rfl (by kernel_rfl) (by kernel_rfl) (by kernel_rfl) (fun _ _ _ h => h) (Or.inl ⟨by kernel_rfl, ?_⟩) HSW.out ?_
        rotate_left
        · intro w hS
          obtain ⟨⟨e1, e2, e3, e4⟩, e5, e6, e7, e8⟩ := hS
          go_simp
          try with_reducible rfl
        conv in (Act.put _ _ _) => simp only [List.getElem_toArray, List.getElem_cons_succ, List.getElem_cons_zero, Act.put, List.setIfInBounds_toArray, List.set_cons_succ, List.set_cons_zero]
        refine wpAnyH_done (by kernel_rfl) ?_ _
        cases eb
        · simp only [Bool.not_false]
          clear hnq k1
          go_wp2_with fail
          go_ret
          refine ⟨?_, HB.out⟩
          rw [HE0.out, HZF.out HEB.out]
          rfl
        · simp only [Bool.not_true]
          clear hnq
          go_wp2_with fail
          go_roundw
          case rel => exact ⟨k + 1, by omega, by go_num, by rw [HZT.out, HA.out, HEB.out]; rfl, HB.out⟩
          case measure => simp [natOf]; omega
      · obtain rfl : k = l.length := by omega
        have q1 : ¬ (l.length : Int) < (l.length : Int) := by omega
        have HB : Hid (Below w.heap.size w wr) := hb
        clear hb
        go_wp2_with fail
        go_ret
        refine ⟨?_, HB.out⟩
        rw [HE0.out]
        have := HA.out
        rw [List.take_of_length_le (by rw [List.length_zip]; omega)] at this
        rw [this]
        rfl
  · have q0 : ((l.length : Int) == (m.length : Int)) = false := by simp; omega
    have HE0 : Hid (eqL eqR l m = false) := by
      refine (?_ : eqL eqR l m = false)
      unfold eqL; simp [hlm]
    go_enter Try.func17, Try.ntmps17
    go_wp2_with fail
    go_ret
    rw [HE0.out]
    exact ⟨by simp, Below.refl _ _⟩
end Go.Proofs.Ythneciodobeehaa.Rq
