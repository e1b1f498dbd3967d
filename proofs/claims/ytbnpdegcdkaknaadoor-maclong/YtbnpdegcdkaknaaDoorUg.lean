/- The document's example; equal texts. -/
import Derived.Test.YtbnpdegcdkaknaaDoorUf
import Derived.RegionTactic
namespace Go.Proofs.YtbnpdegcdkaknaaDoor
open Go.RowKit Go.Lib
/-- The mac of texts in a new block. -/
theorem mac_new (Kt : Nat → Int) (key : ByteArray) (hk : key.size ≤ 1000000) (n : Nat) (hn : n ≤ 1000) (cs : Array Value) (T : TypeId) (ts : Nat → ByteArray) (C : ByteArray) (hC : catS ts n = C) (hL : C.size ≤ 1000000000) (hc : ∀ i, i < n → cs[i]? = some (.string (ts i))) (w : World) {tt : TypeId} {fr : Nat × Nat} (hK : w.heap[1]? = some (.cells (w64 Kt) tt fr)) :
    Calls Tryd.prog 10 #[.string key, .slice (some ⟨w.heap.size, 0, none⟩) n n] (w.alloc (.cells cs T)) fun e w' => e = .returned (.string (macS Kt key C)) ∧ Below w.heap.size w w' := by
  have h1l : 1 < w.heap.size := (Array.getElem?_eq_some_iff.1 hK).1
  refine (mac_any Kt key hk n n (some ⟨w.heap.size, 0, none⟩) (fun h => by cases h) ts C hC (w.alloc (.cells cs T)) (((below_new w _).block 1 h1l).trans hK) hL (by omega) fun i hi => ⟨w.heap.size, 0, rfl, by simp, ?_⟩).mono fun e w' ⟨h1, h2⟩ => ⟨h1, (below_new w _).trans (h2.mono (by simp))⟩
  rw [Nat.zero_add, cell_of_row _ _ _ _ _ _ (heap_alloc_new w _)]
  exact hc i hi
theorem cut_any (s t : ByteArray) (r : Nat) (h1 : (if ((500 : Nat) : Int) < (s.size : Int) then ((500 : Nat) : Int) else (s.size : Int)) = (r : Int)) (h2 : r ≤ s.size) (h3 : s.extract 0 r = t) (w : World) :
    Calls Tryd.prog 11 #[.string s] w fun e w' => e = .returned (.string t) ∧ w' = w := by
  have HR : Hid ((if ((500 : Nat) : Int) < (s.size : Int) then ((500 : Nat) : Int) else (s.size : Int)) = (r : Int)) := h1
  have HRS : Hid (r ≤ s.size) := h2
  have HRT : Hid (s.extract 0 r = t) := h3
  clear h1 h2 h3
  go_enter Tryd.func11, Tryd.ntmps11
  go_wp2_with (first
    | (refine list_min rfl 3 3 (.tmp 5) (.const (.int .i64 500)) rfl (p := (s.size : Int)) (q := 500) rfl rfl HR.out ?_)
    | (refine list_head rfl (.tmp 3) (.tmp 6) rfl (s := s) (t := t) (n := r) rfl rfl HRS.out HRT.out ?_))
  go_ret
  exact ⟨rfl, rfl⟩
def wantA : ByteArray := ⟨#[119, 104, 97, 116, 32, 100, 111, 32, 121, 97, 32, 119, 97, 110, 116, 32]⟩
def wantB : ByteArray := ⟨#[102, 111, 114, 32, 110, 111, 116, 104, 105, 110, 103, 63]⟩
theorem shown_any (w : World) {tt : TypeId} {fr : Nat × Nat} (hK : w.heap[1]? = some (.cells (w64 (lf KL)) tt fr)) :
    Calls Tryd.prog 9 #[] w fun e w' => e = .returned (.bool true) ∧ Below w.heap.size w w' := by
  have SA : ∀ T, Hid (Calls Tryd.prog 10 #[.string ⟨#[74, 101, 102, 101]⟩, .slice (some ⟨w.heap.size, 0, none⟩) 2 2] (w.alloc (.cells #[.string ⟨#[119, 104, 97, 116, 32, 100, 111, 32, 121, 97, 32, 119, 97, 110, 116, 32]⟩, .string ⟨#[102, 111, 114, 32, 110, 111, 116, 104, 105, 110, 103, 63]⟩] T)) fun e w' => e = .returned (.string macJ) ∧ Below w.heap.size w w') := fun T => by
    have h := mac_new (lf KL) jefe (by decide) 2 (by decide) #[.string wantA, .string wantB] T (fun i => if i = 0 then wantA else wantB) want (by decide +kernel) (by decide) (fun i hi => by
      match i, hi with
      | 0, _ => rfl
      | 1, _ => rfl) w hK
    rw [mac_known] at h
    exact h
  clear hK
  go_enter Tryd.func9, Tryd.ntmps9
  go_wp2_with fail
  refine (SA _).out.mono ?_
  rintro e w1 ⟨rfl, b1⟩
  have B1 : Hid _ := b1
  clear b1 SA
  have hsz : macJ.size = 32 := rfl
  have hex : macJ.extract 0 8 = ⟨#[91, 220, 193, 70, 191, 96, 117, 78]⟩ := by decide +kernel
  generalize macJ = A at *
  go_wp2_with fail
  go_ret
  exact ⟨rfl, B1.out⟩
theorem or_zero (x y : Int) (x0 : 0 ≤ x) (x1 : x < 256) (y0 : 0 ≤ y) (y1 : y < 256) : (bits .or .u8 x y = 0 ↔ x = 0 ∧ y = 0) ∧ 0 ≤ bits .or .u8 x y ∧ bits .or .u8 x y < 256 := by
  obtain ⟨a, rfl⟩ := Int.eq_ofNat_of_zero_le x0
  obtain ⟨b, rfl⟩ := Int.eq_ofNat_of_zero_le y0
  rw [u8_or_nat a b (by omega) (by omega)]
  have h1 : a ||| b < 2 ^ 8 := Nat.or_lt_two_pow (by omega) (by omega)
  refine ⟨?_, by omega, by omega⟩
  have h2 : a ||| b = 0 ↔ a = 0 ∧ b = 0 := Nat.or_eq_zero_iff
  omega
theorem xor_zero (x y : Int) (x0 : 0 ≤ x) (x1 : x < 256) (y0 : 0 ≤ y) (y1 : y < 256) : (bits .xor .u8 x y = 0 ↔ x = y) ∧ 0 ≤ bits .xor .u8 x y ∧ bits .xor .u8 x y < 256 := by
  obtain ⟨a, rfl⟩ := Int.eq_ofNat_of_zero_le x0
  obtain ⟨b, rfl⟩ := Int.eq_ofNat_of_zero_le y0
  rw [u8_xor_nat a b (by omega) (by omega)]
  have h1 : a ^^^ b < 2 ^ 8 := Nat.xor_lt_two_pow (by omega) (by omega)
  refine ⟨?_, by omega, by omega⟩
  have h2 : a ^^^ b = 0 ↔ a = b := by
    constructor
    · intro h
      have e : (a ^^^ b) ^^^ b = a := by rw [Nat.xor_assoc, Nat.xor_self, Nat.xor_zero]
      rw [h, Nat.zero_xor] at e
      exact e.symm
    · rintro rfl
      exact Nat.xor_self _
  omega
theorem bt_same (a b : ByteArray) (hs : a.size = b.size) (h : ∀ j, j < a.size → bt a j = bt b j) : a = b := by
  apply ByteArray.ext
  apply Array.ext
  · exact hs
  · intro i h1 h2
    have := h i h1
    unfold bt at this
    rw [Array.getElem?_eq_getElem h1, Array.getElem?_eq_getElem h2] at this
    simp only [Option.getD_some] at this
    exact UInt8.toNat_inj.1 (by omega)
set_option maxHeartbeats 1000000 in
theorem equal_any (a b : ByteArray) (ha : a.size ≤ maxLen) (w : World) :
    Calls Tryd.prog 13 #[.string a, .string b] w fun e w' => e = .returned (.bool (decide (a = b))) ∧ Below w.heap.size w w' := by
  unfold maxLen at ha
  by_cases hs : a.size = b.size
  · have q0 : ((a.size : Int) != (b.size : Int)) = false := by simp [hs]
    have HS : Hid (a.size = b.size) := hs
    have hsz : (a.size : Int) ≤ 9223372036854775807 := by omega
    clear hs
    go_enter Tryd.func13, Tryd.ntmps13
    go_wp2_with fail
    go_loopw [5, 14] (fun v i wr => ∃ (k : Nat) (x : Int), k ≤ a.size ∧ v = .int .u8 x ∧ i = .int .i64 (k : Int) ∧ (x = 0 ↔ ∀ j, j < k → bt a j = bt b j) ∧ 0 ≤ x ∧ x < 256 ∧ Below w.heap.size w wr) (fun _ i _ => a.size - (intOf i).toNat)
    case atStart => exact ⟨0, 0, by omega, rfl, rfl, by simp, by decide, by decide, Below.refl _ _⟩
    case round =>
      obtain ⟨k, x, hk, rfl, rfl, hx, x0, x1, hbe⟩ := hrel
      have HX : Hid (x = 0 ↔ ∀ j, j < k → bt a j = bt b j) := hx
      have BX : Hid (Below w.heap.size w wr) := hbe
      clear hx hbe
      by_cases hlt : k < a.size
      · have g0 : (k : Int) < (a.size : Int) := by omega
        have g1 : (0 : Int) ≤ (k : Int) := by omega
        have i1 := idx_s a k hlt
        have i2 := idx_s b k (by have := HS.out; omega)
        have ra := bt_range a k
        have rb := bt_range b k
        have HV : Hid (∀ j, j < k → True) := fun _ _ => trivial
        obtain ⟨p, hp⟩ : ∃ p, bt a k = p := ⟨_, rfl⟩
        obtain ⟨q, hq⟩ : ∃ q, bt b k = q := ⟨_, rfl⟩
        rw [hp] at i1 ra
        rw [hq] at i2 rb
        have HPQ : Hid (bt a k = p ∧ bt b k = q) := ⟨hp, hq⟩
        have hxo := xor_zero p q ra.1 ra.2 rb.1 rb.2
        have hoo := or_zero x (bits .xor .u8 p q) x0 x1 hxo.2.1 hxo.2.2
        have HOO : Hid (((bits .or .u8 x (bits .xor .u8 p q) = 0 ↔ x = 0 ∧ bits .xor .u8 p q = 0) ∧ 0 ≤ bits .or .u8 x (bits .xor .u8 p q) ∧ bits .or .u8 x (bits .xor .u8 p q) < 256) ∧ (bits .xor .u8 p q = 0 ↔ p = q)) := ⟨hoo, hxo.1⟩
        clear hp hq hxo hoo HV
        go_wp2_with fail
        refine wp_region_any (by kernel_rfl) ?_
        change wpAny _ _ _ _ _ _ _ (World.drew _)
        refine wpAny_take (i := 0) (v := ?_) rfl (by kernel_rfl) (by kernel_rfl) (by kernel_rfl) (fun _ _ _ h => h) (Or.inl ⟨by kernel_rfl, ?_⟩) ?_
        rotate_left
        · intro w
          go_simp
          try with_reducible rfl
        conv in (Act.put _ _ _) => simp only [List.getElem_toArray, List.getElem_cons_succ, List.getElem_cons_zero, Act.put, List.setIfInBounds_toArray, List.set_cons_succ, List.set_cons_zero]
        refine wpAny_take (i := 1) (v := ?_) rfl (by kernel_rfl) (by kernel_rfl) (by kernel_rfl) (fun _ _ _ h => h) (Or.inl ⟨by kernel_rfl, ?_⟩) ?_
        rotate_left
        · intro w
          go_simp
          try with_reducible rfl
        conv in (Act.put _ _ _) => simp only [List.getElem_toArray, List.getElem_cons_succ, List.getElem_cons_zero, Act.put, List.setIfInBounds_toArray, List.set_cons_succ, List.set_cons_zero]
        refine wpAny_take (i := 2) (v := ?_) rfl (by kernel_rfl) (by kernel_rfl) (by kernel_rfl) (fun _ _ _ h => h) (Or.inl ⟨by kernel_rfl, ?_⟩) ?_
        rotate_left
        · intro w
          go_simp
          try with_reducible rfl
        conv in (Act.put _ _ _) => simp only [List.getElem_toArray, List.getElem_cons_succ, List.getElem_cons_zero, Act.put, List.setIfInBounds_toArray, List.set_cons_succ, List.set_cons_zero]
        refine wpAny_take (i := 3) (v := ?_) rfl (by kernel_rfl) (by kernel_rfl) (by kernel_rfl) (fun _ _ _ h => h) (Or.inl ⟨by kernel_rfl, ?_⟩) ?_
        rotate_left
        · intro w
          go_simp
          try with_reducible rfl
        conv in (Act.put _ _ _) => simp only [List.getElem_toArray, List.getElem_cons_succ, List.getElem_cons_zero, Act.put, List.setIfInBounds_toArray, List.set_cons_succ, List.set_cons_zero]
        refine wpAny_take (i := 4) (v := ?_) rfl (by kernel_rfl) (by kernel_rfl) (by kernel_rfl) (fun _ _ _ h => h) (Or.inl ⟨by kernel_rfl, ?_⟩) ?_
        rotate_left
        · intro w
          go_simp
          try with_reducible rfl
        conv in (Act.put _ _ _) => simp only [List.getElem_toArray, List.getElem_cons_succ, List.getElem_cons_zero, Act.put, List.setIfInBounds_toArray, List.set_cons_succ, List.set_cons_zero]
        refine wpAny_take (i := 5) (v := ?_) rfl (by kernel_rfl) (by kernel_rfl) (by kernel_rfl) (fun _ _ _ h => h) (Or.inl ⟨by kernel_rfl, ?_⟩) ?_
        rotate_left
        · intro w
          go_simp
          try with_reducible rfl
        conv in (Act.put _ _ _) => simp only [List.getElem_toArray, List.getElem_cons_succ, List.getElem_cons_zero, Act.put, List.setIfInBounds_toArray, List.set_cons_succ, List.set_cons_zero]
        refine wpAny_take (i := 6) (v := ?_) rfl (by kernel_rfl) (by kernel_rfl) (by kernel_rfl) (fun _ _ _ h => h) (Or.inl ⟨by kernel_rfl, ?_⟩) ?_
        rotate_left
        · intro w
          go_simp
          try with_reducible rfl
        conv in (Act.put _ _ _) => simp only [List.getElem_toArray, List.getElem_cons_succ, List.getElem_cons_zero, Act.put, List.setIfInBounds_toArray, List.set_cons_succ, List.set_cons_zero]
        refine wpAny_take (i := 7) (v := ?_) rfl (by kernel_rfl) (by kernel_rfl) (by kernel_rfl) (fun _ _ _ h => h) (Or.inl ⟨by kernel_rfl, ?_⟩) ?_
        rotate_left
        · intro w
          go_simp
          try with_reducible rfl
        conv in (Act.put _ _ _) => simp only [List.getElem_toArray, List.getElem_cons_succ, List.getElem_cons_zero, Act.put, List.setIfInBounds_toArray, List.set_cons_succ, List.set_cons_zero]
        refine wpAny_take (i := 8) (v := ?_) rfl (by kernel_rfl) (by kernel_rfl) (by kernel_rfl) (fun _ _ _ h => h) (Or.inl ⟨by kernel_rfl, ?_⟩) ?_
        rotate_left
        · intro w
          go_simp
          try with_reducible rfl
        conv in (Act.put _ _ _) => simp only [List.getElem_toArray, List.getElem_cons_succ, List.getElem_cons_zero, Act.put, List.setIfInBounds_toArray, List.set_cons_succ, List.set_cons_zero]
        refine wpAny_ready (rs := [9]) (by kernel_rfl) (by simp) ?_
        refine (AllReady.cons rfl (fun K hK => ?_) AllReady.nil)
        go_simp
        refine hK _ _ ?_
        clear hK K
        refine wpAny_done (by kernel_rfl) ?_ _
        go_wp2_with fail
        go_roundw
        case rel =>
          refine ⟨k + 1, _, hlt, rfl, by go_num, ?_, HOO.out.1.2.1, HOO.out.1.2.2, BX.out.drew⟩
          rw [HOO.out.1.1, HOO.out.2, HX.out]
          obtain ⟨hp, hq⟩ := HPQ.out
          constructor
          · rintro ⟨h1, h2⟩ j hj
            by_cases e : j = k
            · subst e; rw [hp, hq, h2]
            · exact h1 j (by omega)
          · intro h
            exact ⟨fun j hj => h j (by omega), by rw [← hp, ← hq]; exact h k (by omega)⟩
        case measure => simp [intOf]; omega
      · obtain rfl : k = a.size := by omega
        have a0 : ¬ (a.size : Int) < (a.size : Int) := by omega
        have hfin : (x == 0) = decide (a = b) := by
          by_cases e : a = b
          · subst e
            have : x = 0 := HX.out.2 (fun j _ => rfl)
            simp [this]
          · have : ¬ x = 0 := fun h0 => e (bt_same a b HS.out (HX.out.1 h0))
            simp [this, e]
        have HF : Hid ((x == 0) = decide (a = b)) := hfin
        clear hfin
        go_wp2_with fail
        go_ret
        exact ⟨by rw [← HF.out]; rfl, BX.out⟩
  · have q0 : ((a.size : Int) != (b.size : Int)) = true := by simp; omega
    have hd : decide (a = b) = false := by simp; intro e; exact hs (by rw [e])
    rw [hd]
    clear hd
    go_enter Tryd.func13, Tryd.ntmps13
    go_wp2_with fail
    go_ret
    exact ⟨rfl, Below.refl _ _⟩
theorem toList_dec (a b : ByteArray) : (a.toList == b.toList) = decide (a = b) := by
  rw [ByteArray.toList_eq, ByteArray.toList_eq]
  by_cases e : a = b
  · subst e; simp
  · rw [decide_eq_false e]
    have h : ¬ a.data.toList = b.data.toList := fun h => e (ByteArray.ext (Array.toList_inj.1 h))
    simpa using h
set_option maxHeartbeats 1000000 in
theorem macEqual_walk (a b : ByteArray) (ha : a.size ≤ maxLen) (w : World) {tt : TypeId} {fr : Nat × Nat} (hK : w.heap[1]? = some (.cells (w64 (lf KL)) tt fr)) :
    Calls Tryd.prog 5 #[.string a, .string b] w fun e w' => e = .returned (.bool true) ∧ Below w.heap.size w w' := by
  have HK : Hid (w.heap[1]? = some (.cells (w64 (lf KL)) tt fr)) := hK
  obtain ⟨d, hd⟩ : ∃ d, decide (a = b) = d := ⟨_, rfl⟩
  have E1 : Hid (∀ w : World, Calls Tryd.prog 13 #[.string a, .string b] w fun e w' => e = .returned (.bool d) ∧ Below w.heap.size w w') := fun w => by rw [← hd]; exact equal_any a b ha w
  have E2 : Hid (∀ w : World, Calls Tryd.prog 13 #[.string a, .string a] w fun e w' => e = .returned (.bool true) ∧ Below w.heap.size w w') := fun w => by
    have h := equal_any a a ha w
    rw [show decide (a = a) = true by simp] at h
    exact h
  have hl : (a.toList == b.toList) = d := by rw [toList_dec]; exact hd
  clear hK ha hd
  go_enter Tryd.func5, Tryd.ntmps5
  go_wp2_with fail
  refine (shown_any w HK.out).mono ?_
  rintro e w1 ⟨rfl, b1⟩
  have B1 : Hid (Below w.heap.size w w1) := b1
  clear b1
  go_wp2_with fail
  refine (E1.out w1).mono ?_
  rintro e w2 ⟨rfl, b2⟩
  have B2 : Hid (Below w.heap.size w w2) := B1.out.trans (b2.mono B1.out.size)
  clear b2 B1
  go_wp2_with fail
  refine (E2.out w2).mono ?_
  rintro e w3 ⟨rfl, b3⟩
  have B3 : Hid (Below w.heap.size w w3) := B2.out.trans (b3.mono B2.out.size)
  clear b3 B2
  go_wp2_with fail
  go_ret
  exact ⟨rfl, B3.out⟩
end Go.Proofs.YtbnpdegcdkaknaaDoor
