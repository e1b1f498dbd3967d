/- SealTurns: the walk. -/
import Derived.Test.YtaoadopnhphjbaaDoorPXA
namespace Go.Proofs.YtaoadopnhphjbaaDoor.Rs
open Go.RowKit Go.Lib
set_option maxRecDepth 100000 in
theorem ext256t (s : ByteArray) (h : s.size = 256) (i : Nat) (hi : i < 256) (w : World) : (Instr.sliceAt 9 (.string s) (some (.int .i64 ((i : Int) + 1))) none none).run Tryd.prog w = .ok (.string (s.extract (i + 1) s.size)) w := by
  have e : ((i : Int) + 1).toNat = i + 1 := by omega
  simp [Instr.sliceAt, Instr.slice, run_underlying Tryd.underlying9, go_sem, h]
  intro hh
  have := hh (by omega)
  omega
set_option maxRecDepth 100000 in
theorem one_str (W : World) (q : Nat) (x : Int) (h : W.heap[q]? = some (.cells #[.int .u8 x] 5 (0, 0))) : (convert 41 9 (.slice (some ⟨q, 0, none⟩) 1 1)).run Tryd.prog W = .ok (.string (strOfNums [x])) W := by
  refine run_convert_bytes_arg W 41 5 Tryd.underlying41 Tryd.underlying5 q 0 1 1 [x] rfl (fun i hi => ?_) 9 Tryd.underlying9
  rw [Nat.zero_add, cell_of_row _ _ _ _ _ _ h]
  match i, hi with
  | 0, _ => rfl
set_option maxRecDepth 100000 in
theorem four_cells {W : World} {p : Nat} {x y z u : Value} {T : TypeId} (h : W.heap[p]? = some (.cells #[x, y, z, u] T (0, 0))) :
    W.cell? ⟨p, 0, none⟩ = some x ∧ W.cell? ⟨p, 1, none⟩ = some y ∧ W.cell? ⟨p, 2, none⟩ = some z ∧ W.cell? ⟨p, 3, none⟩ = some u ∧ W.frozen? ⟨p, 0, none⟩ = false ∧ W.frozen? ⟨p, 1, none⟩ = false ∧ W.frozen? ⟨p, 2, none⟩ = false ∧ W.frozen? ⟨p, 3, none⟩ = false :=
  ⟨by rw [cell_of_row _ _ _ _ _ _ h]; rfl, by rw [cell_of_row _ _ _ _ _ _ h]; rfl, by rw [cell_of_row _ _ _ _ _ _ h]; rfl, by rw [cell_of_row _ _ _ _ _ _ h]; rfl, frozen_of_heap h 0, frozen_of_heap h 1, frozen_of_heap h 2, frozen_of_heap h 3⟩
set_option maxRecDepth 100000 in
set_option maxHeartbeats 8000000 in
theorem sealTurns_walk (Kt : Nat → Int) (l : List Rk.Ky) (o : Option Addr) (cap : Nat) (h : Hd) (hf : fits h) (s : ByteArray) (n : Int) (x : Int) (x0 : 0 ≤ x) (x1 : x < 256) (w : World) (hr : Rk.Ring w o cap l) (hT : Tb Kt w) :
    Calls Tryd.prog 8 #[.slice o l.length cap, hv h, .string s, .int .i64 n, .int .u8 x] w fun e w' => e = .returned (.bool true) ∧ Below w.heap.size w w' := by
  obtain ⟨m, hm30, CT⟩ := cut_named l o cap
  have HG : Hid (Rk.Ring w o cap l) := hr
  have HT : Hid (Tb Kt w) := hT
  have HS : Hid (∀ W, Rk.Ring W o cap m → Tb Kt W → Calls Tryd.prog 16 #[.slice o m.length cap, hv h, .string s] W fun e w' => e = .returned (.tuple #[.string (sV Kt m h s), .int .i64 (sE m h s)]) ∧ Below W.heap.size W w') := fun W h1 h2 => seal_any Kt m o cap h hf s W h1 h2
  have HO : Hid (sE m h s = 0 → ∀ i : Nat, 224 ≤ i → i < 256 → Rp.bt (sV Kt m h s) i ≠ x → ∀ W, Rk.Ring W o cap m → Tb Kt W → Calls Tryd.prog 19 #[.slice o m.length cap, .string (turn (sV Kt m h s) i x)] W fun e w' => e = .returned (.tuple #[hv zh, .string ⟨#[]⟩, .int .i64 61]) ∧ Below W.heap.size W w') := fun h0 i i1 i2 hx W h1 h2 => by
    obtain ⟨z1, _⟩ := open_seal Kt m h hf s h0
    obtain ⟨t1, t2, t3⟩ := turn_facts (sV Kt m h s) z1 i i1 i2 x x0 x1 hx
    obtain ⟨e1, e2, e3⟩ := open_turn Kt m h hf s _ h0 t1 t2 t3
    have := open_any Kt m o cap (turn (sV Kt m h s) i x) W h1 h2
    rw [e1, e2, e3] at this
    exact this
  have HV : Hid ((sE m h s ≠ 0) ∨ (sE m h s = 0 ∧ (sV Kt m h s).size = 256)) := by
    refine (?_ : _ ∨ _)
    by_cases h0 : sE m h s = 0
    · exact .inr ⟨h0, (open_seal Kt m h hf s h0).1⟩
    · exact .inl h0
  have HEQ : Hid (∀ w, (binOp .eql 25 (.agg #[.int .u32 0, .int .u32 0, .int .u32 0, .int .u64 0]) (.agg #[.int .u32 0, .int .u32 0, .int .u32 0, .int .u64 0])).run Tryd.prog w = .ok (.bool true) w) := fun w => eql_heads zh zh w
  clear hr hT hf
  generalize sV Kt m h s = b at *
  generalize sE m h s = se at *
  have HTB : Hid (∀ W, Below w.heap.size w W → Tb Kt W) := fun W hB => HT.out.below hB (Nat.le_refl _)
  have HGB : Hid (∀ W, Below w.heap.size w W → Rk.Ring W o cap l) := fun W hB => HG.out.below hB (Nat.le_refl _)
  clear HT HG
  obtain ⟨a, b', c, d⟩ := h
  unfold hv zh at *
  simp only at HS HO ⊢
  go_enter Tryd.func8, Tryd.ntmps8
  go_wp2_with fail
  obtain ⟨w1, hw1⟩ : ∃ w1, w.alloc (.cells #[.int .u32 a, .int .u32 b', .int .u32 c, .int .u64 d] 25) = w1 := ⟨_, rfl⟩
  have D1 : Hid (Below w.heap.size w w1) := by rw [← hw1]; exact (Below.refl _ w).alloc (Nat.le_refl _) _
  have X1 : Hid (w1.heap[w.heap.size]? = some (.cells #[.int .u32 a, .int .u32 b', .int .u32 c, .int .u64 d] 25 (0, 0))) := by rw [← hw1]; exact heap_alloc_new w _
  have l1 : w.heap.size < w1.heap.size := (Array.getElem?_eq_some_iff.1 X1.out).1
  rw [hw1]
  clear hw1
  refine (shown_any Kt w1 (HTB.out w1 D1.out)).mono ?_
  rintro e w2 ⟨rfl, b2⟩
  have D2 : Hid (Below w.heap.size w w2) := D1.out.trans (b2.mono D1.out.size)
  have l2 : w.heap.size < w2.heap.size := Nat.lt_of_lt_of_le l1 b2.size
  have X2 : Hid (w2.heap[w.heap.size]? = some (.cells #[.int .u32 a, .int .u32 b', .int .u32 c, .int .u64 d] 25 (0, 0))) := (b2.block _ l1).trans X1.out
  clear b2 D1 X1 l1
  have HC : Hid (∀ w', Below w2.heap.size w2 w' → w'.cell? ⟨w.heap.size, 0, none⟩ = some (.int .u32 a) ∧ w'.cell? ⟨w.heap.size, 1, none⟩ = some (.int .u32 b') ∧ w'.cell? ⟨w.heap.size, 2, none⟩ = some (.int .u32 c) ∧ w'.cell? ⟨w.heap.size, 3, none⟩ = some (.int .u64 d)) := fun W hB => by
    have hV := (hB.block _ l2).trans X2.out
    exact ⟨by rw [cell_of_row _ _ _ _ _ _ hV]; rfl, by rw [cell_of_row _ _ _ _ _ _ hV]; rfl, by rw [cell_of_row _ _ _ _ _ _ hV]; rfl, by rw [cell_of_row _ _ _ _ _ _ hV]; rfl⟩
  go_wp2_with fail
  have Dw2 : Hid (Below w.heap.size w w2) := D2.out
  have Ew2 : Hid (Below w2.heap.size w2 w2) := Below.refl _ _
  clear D2
  refine wp_region_held (S := fun w' => w'.cell? ⟨w.heap.size, 0, none⟩ = some (.int .u32 a) ∧ w'.cell? ⟨w.heap.size, 1, none⟩ = some (.int .u32 b') ∧ w'.cell? ⟨w.heap.size, 2, none⟩ = some (.int .u32 c) ∧ w'.cell? ⟨w.heap.size, 3, none⟩ = some (.int .u64 d)) (by kernel_rfl) ?_
  change wpAnyH _ _ _ _ _ _ _ _ (World.drew _)
  obtain ⟨vr, hvr⟩ : ∃ vr, w2.drew = vr := ⟨_, rfl⟩
  have E2 : Hid (Below w2.heap.size w2 vr) := by rw [← hvr]; exact Ew2.out.drew
  rw [hvr]
  clear hvr
  have HSW : Hid _ := HC.out vr E2.out
  refine wpAnyH_take (i := 0) (v := ?_) rfl (by kernel_rfl) (by kernel_rfl) (by kernel_rfl) (fun _ _ _ h => h) (Or.inl ⟨by kernel_rfl, ?_⟩) HSW.out ?_
  rotate_left
  · intro w hS
    obtain ⟨e1, e2, e3, e4⟩ := hS
    go_simp
    try with_reducible rfl
  conv in (Act.put _ _ _) => simp only [List.getElem_toArray, List.getElem_cons_succ, List.getElem_cons_zero, Act.put, List.setIfInBounds_toArray, List.set_cons_succ, List.set_cons_zero]
  refine wpAnyH_take (i := 2) (v := ?_) rfl (by kernel_rfl) (by kernel_rfl) (by kernel_rfl) (fun _ _ _ h => h) (Or.inl ⟨by kernel_rfl, ?_⟩) HSW.out ?_
  rotate_left
  · intro w hS
    obtain ⟨e1, e2, e3, e4⟩ := hS
    go_simp
    try with_reducible rfl
  conv in (Act.put _ _ _) => simp only [List.getElem_toArray, List.getElem_cons_succ, List.getElem_cons_zero, Act.put, List.setIfInBounds_toArray, List.set_cons_succ, List.set_cons_zero]
  refine wpAnyH_take (i := 3) (v := ?_) rfl (by kernel_rfl) (by kernel_rfl) (by kernel_rfl) (fun _ _ _ h => h) (Or.inl ⟨by kernel_rfl, ?_⟩) HSW.out ?_
  rotate_left
  · intro w hS
    obtain ⟨e1, e2, e3, e4⟩ := hS
    go_simp
    try with_reducible rfl
  conv in (Act.put _ _ _) => simp only [List.getElem_toArray, List.getElem_cons_succ, List.getElem_cons_zero, Act.put, List.setIfInBounds_toArray, List.set_cons_succ, List.set_cons_zero]
  refine readyH 1 _ (by kernel_rfl) rfl (by kernel_rfl) (fun K hK => ?_)
  go_simp
  refine (CT.out vr (HGB.out vr (Dw2.out.trans (E2.out.mono Dw2.out.size)))).1.mono ?_
  rintro e vc ⟨rfl, hvc⟩
  subst hvc
  refine hK _ _ HSW.out ?_
  clear hK K
  refine readyH 4 _ (by kernel_rfl) rfl (by kernel_rfl) (fun K hK => ?_)
  go_simp
  refine (HS.out _ (CT.out _ (HGB.out _ (Dw2.out.trans (E2.out.mono Dw2.out.size)))).2 (HTB.out _ (Dw2.out.trans (E2.out.mono Dw2.out.size)))).mono ?_
  rintro e w3 ⟨rfl, b3⟩
  have Ew3 : Hid (Below w2.heap.size w2 w3) := E2.out.trans (b3.mono E2.out.size)
  clear b3 E2 HSW
  refine hK _ _ (HC.out w3 Ew3.out) ?_
  clear hK K
  have HSW : Hid _ := HC.out w3 Ew3.out
  refine wpAnyH_take (i := 5) (v := ?_) rfl (by kernel_rfl) (by kernel_rfl) (by kernel_rfl) (fun _ _ _ h => h) (Or.inl ⟨by kernel_rfl, ?_⟩) HSW.out ?_
  rotate_left
  · intro w hS
    obtain ⟨e1, e2, e3, e4⟩ := hS
    go_simp
    try with_reducible rfl
  conv in (Act.put _ _ _) => simp only [List.getElem_toArray, List.getElem_cons_succ, List.getElem_cons_zero, Act.put, List.setIfInBounds_toArray, List.set_cons_succ, List.set_cons_zero]
  refine wpAnyH_take (i := 6) (v := ?_) rfl (by kernel_rfl) (by kernel_rfl) (by kernel_rfl) (fun _ _ _ h => h) (Or.inl ⟨by kernel_rfl, ?_⟩) HSW.out ?_
  rotate_left
  · intro w hS
    obtain ⟨e1, e2, e3, e4⟩ := hS
    go_simp
    try with_reducible rfl
  conv in (Act.put _ _ _) => simp only [List.getElem_toArray, List.getElem_cons_succ, List.getElem_cons_zero, Act.put, List.setIfInBounds_toArray, List.set_cons_succ, List.set_cons_zero]
  refine wpAnyH_take (i := 7) (v := ?_) rfl (by kernel_rfl) (by kernel_rfl) (by kernel_rfl) (fun _ _ _ h => h) (Or.inl ⟨by kernel_rfl, ?_⟩) HSW.out ?_
  rotate_left
  · intro w hS
    obtain ⟨e1, e2, e3, e4⟩ := hS
    go_simp
    try with_reducible rfl
  conv in (Act.put _ _ _) => simp only [List.getElem_toArray, List.getElem_cons_succ, List.getElem_cons_zero, Act.put, List.setIfInBounds_toArray, List.set_cons_succ, List.set_cons_zero]
  refine readyH 8 _ (by kernel_rfl) rfl (by kernel_rfl) (fun K hK => ?_)
  go_simp
  refine hK _ _ HSW.out ?_
  clear hK K
  refine readyH 9 _ (by kernel_rfl) rfl (by kernel_rfl) (fun K hK => ?_)
  go_simp
  refine hK _ _ HSW.out ?_
  clear hK K
  refine wpAnyH_done (by kernel_rfl) ?_ _
  clear HSW

  have D3 : Hid (Below w.heap.size w w3) := Dw2.out.trans (Ew3.out.mono Dw2.out.size)
  clear HS
  rcases HV.out with h0 | ⟨rfl, hz⟩
  · have q0 : (se != 0) = true := by simpa using h0
    clear HV HO
    go_wp2_with fail
    go_ret
    exact ⟨rfl, D3.out⟩
  · have hz2 : (b.size : Int) = 256 := by omega
    have HO2 : Hid _ := HO.out rfl
    clear HV HO
    by_cases hn1 : n < 224
    · go_wp2_with fail
      go_ret
      exact ⟨rfl, D3.out⟩
    · by_cases hn2 : 256 ≤ n
      · go_wp2_with fail
        go_ret
        exact ⟨rfl, D3.out⟩
      · obtain ⟨i, rfl⟩ : ∃ i : Nat, n = (i : Int) := ⟨n.toNat, by omega⟩
        have hlt : i < b.size := by omega
        have hix : ∀ w, (Instr.index 9 (.string b) (.int .i64 (i : Int))).run Tryd.prog w = .ok (.int .u8 (Rp.bt b i)) w := fun w => Rp.idx_s b i hlt w
        by_cases hx : Rp.bt b i = x
        · rw [hx] at hix
          go_wp2_with fail
          go_ret
          exact ⟨rfl, D3.out⟩
        · have hx2 : (Rp.bt b i == x) = false := by simpa using hx
          have HO3 : Hid _ := HO2.out i (by omega) (by omega) hx
          clear HO2
          obtain ⟨y, hy⟩ : ∃ y, Rp.bt b i = y := ⟨_, rfl⟩
          rw [hy] at hix hx2
          clear hy hx
          have i0 : (0 : Int) ≤ (i : Int) := by omega
          have i1 : (i : Int) < 256 := by omega
          have sl1 : ∀ w, (Instr.sliceAt 9 (.string b) none (some (.int .i64 (i : Int))) none).run Tryd.prog w = .ok (.string (b.extract 0 i)) w := ext256n b hz i (by omega)
          have sl2 : ∀ w, (Instr.sliceAt 9 (.string b) (some (.int .i64 ((i : Int) + 1))) none none).run Tryd.prog w = .ok (.string (b.extract (i + 1) b.size)) w := ext256t b hz i (by omega)
          have wr : IntKind.i64.wrap ((i : Int) + 1) = (i : Int) + 1 := by rw [IntKind.wrap_i64] <;> omega
          have za : (b.extract 0 i).size = i := by rw [Rp.ext_size, hz]; omega
          have zb : (b.extract (i + 1) b.size).size = 255 - i := by rw [Rp.ext_size, hz]; omega
          have zs : (strOfNums [x]).size = 1 := by rw [strOfNums_size]; rfl
          have HTN : Hid (b.extract 0 i ++ strOfNums [x] ++ b.extract (i + 1) b.size = turn b i x) := rfl
          generalize turn b i x = tn at *
          generalize b.extract 0 i = ba at *
          generalize b.extract (i + 1) b.size = bb at *
          obtain ⟨bc, hbc⟩ : ∃ bc, strOfNums [x] = bc := ⟨_, rfl⟩
          have HBC : Hid (strOfNums [x] = bc) := hbc
          rw [hbc] at HTN zs
          clear hbc
          have hq1 : ¬ 9223372036854775807 < ba.size + bc.size := by omega
          have hq2 : ¬ 9223372036854775807 < (ba ++ bc).size + bb.size := by rw [ByteArray.size_append]; omega
          have hq3 : ¬ 9223372036854775807 < ba.size + bc.size + bb.size := by omega
          clear za zb zs
          go_wp2_with fail
          refine wp_region_any (by kernel_rfl) ?_
          change wpAny _ _ _ _ _ _ _ (World.drew _)
          obtain ⟨v0, hv0⟩ : ∃ v0, w3.drew = v0 := ⟨_, rfl⟩
          have Ev0 : Hid (Below w.heap.size w v0) := by rw [← hv0]; exact D3.out.drew
          rw [hv0]
          clear hv0
          refine wpAny_take (i := 0) (v := ?_) rfl (by kernel_rfl) (by kernel_rfl) (by kernel_rfl) (fun _ _ _ h => h) (Or.inl ⟨by kernel_rfl, ?_⟩) ?_
          rotate_left
          · intro w
            go_simp
            try with_reducible rfl
          conv in (Act.put _ _ _) => simp only [List.getElem_toArray, List.getElem_cons_succ, List.getElem_cons_zero, Act.put, List.setIfInBounds_toArray, List.set_cons_succ, List.set_cons_zero]
          refine wpAny_take (i := 2) (v := ?_) rfl (by kernel_rfl) (by kernel_rfl) (by kernel_rfl) (fun _ _ _ h => h) (Or.inl ⟨by kernel_rfl, ?_⟩) ?_
          rotate_left
          · intro w
            go_simp
            try with_reducible rfl
          conv in (Act.put _ _ _) => simp only [List.getElem_toArray, List.getElem_cons_succ, List.getElem_cons_zero, Act.put, List.setIfInBounds_toArray, List.set_cons_succ, List.set_cons_zero]
          refine wpAny_take (i := 3) (v := ?_) rfl (by kernel_rfl) (by kernel_rfl) (by kernel_rfl) (fun _ _ _ h => h) (Or.inl ⟨by kernel_rfl, ?_⟩) ?_
          rotate_left
          · intro w
            go_simp
            try with_reducible rfl
          conv in (Act.put _ _ _) => simp only [List.getElem_toArray, List.getElem_cons_succ, List.getElem_cons_zero, Act.put, List.setIfInBounds_toArray, List.set_cons_succ, List.set_cons_zero]
          refine wpAny_take (i := 4) (v := ?_) rfl (by kernel_rfl) (by kernel_rfl) (by kernel_rfl) (fun _ _ _ h => h) (Or.inl ⟨by kernel_rfl, ?_⟩) ?_
          rotate_left
          · intro w
            go_simp
            try with_reducible rfl
          conv in (Act.put _ _ _) => simp only [List.getElem_toArray, List.getElem_cons_succ, List.getElem_cons_zero, Act.put, List.setIfInBounds_toArray, List.set_cons_succ, List.set_cons_zero]
          refine wpAny_take (i := 5) (v := ?_) rfl (by kernel_rfl) (by kernel_rfl) (by kernel_rfl) (fun _ _ _ h => h) (Or.inl ⟨by kernel_rfl, ?_⟩) ?_
          rotate_left
          · intro w
            go_simp
            try with_reducible rfl
          conv in (Act.put _ _ _) => simp only [List.getElem_toArray, List.getElem_cons_succ, List.getElem_cons_zero, Act.put, List.setIfInBounds_toArray, List.set_cons_succ, List.set_cons_zero]
          refine wpAny_take (i := 9) (v := ?_) rfl (by kernel_rfl) (by kernel_rfl) (by kernel_rfl) (fun _ _ _ h => h) (Or.inl ⟨by kernel_rfl, ?_⟩) ?_
          rotate_left
          · intro w
            go_simp
            try with_reducible rfl
          conv in (Act.put _ _ _) => simp only [List.getElem_toArray, List.getElem_cons_succ, List.getElem_cons_zero, Act.put, List.setIfInBounds_toArray, List.set_cons_succ, List.set_cons_zero]
          refine wpAny_take (i := 10) (v := ?_) rfl (by kernel_rfl) (by kernel_rfl) (by kernel_rfl) (fun _ _ _ h => h) (Or.inl ⟨by kernel_rfl, ?_⟩) ?_
          rotate_left
          · intro w
            go_simp
            try with_reducible rfl
          conv in (Act.put _ _ _) => simp only [List.getElem_toArray, List.getElem_cons_succ, List.getElem_cons_zero, Act.put, List.setIfInBounds_toArray, List.set_cons_succ, List.set_cons_zero]
          refine wpAny_take (i := 11) (v := ?_) rfl (by kernel_rfl) (by kernel_rfl) (by kernel_rfl) (fun _ _ _ h => h) (Or.inl ⟨by kernel_rfl, ?_⟩) ?_
          rotate_left
          · intro w
            go_simp
            try with_reducible rfl
          conv in (Act.put _ _ _) => simp only [List.getElem_toArray, List.getElem_cons_succ, List.getElem_cons_zero, Act.put, List.setIfInBounds_toArray, List.set_cons_succ, List.set_cons_zero]
          refine wpAny_take (i := 12) (v := ?_) rfl (by kernel_rfl) (by kernel_rfl) (by kernel_rfl) (fun _ _ _ h => h) (Or.inl ⟨by kernel_rfl, ?_⟩) ?_
          rotate_left
          · intro w
            go_simp
            try with_reducible rfl
          conv in (Act.put _ _ _) => simp only [List.getElem_toArray, List.getElem_cons_succ, List.getElem_cons_zero, Act.put, List.setIfInBounds_toArray, List.set_cons_succ, List.set_cons_zero]
          refine wpAny_ready (rs := [1, 6, 19]) (by kernel_rfl) (by simp) ?_
          refine (AllReady.cons rfl (fun K hK => ?_) (AllReady.cons rfl (fun K hK => ?_) (AllReady.cons rfl (fun K hK => ?_) AllReady.nil)))
          · go_simp
            refine (CT.out v0 (HGB.out v0 Ev0.out)).1.mono ?_
            rintro e vc ⟨rfl, hvc⟩
            have hvc' := hvc.symm
            clear hvc
            subst hvc'
            refine hK _ _ ?_
            clear hK K
            refine wpAny_ready (rs := [6, 19]) (by kernel_rfl) (by simp) ?_
            refine (AllReady.cons rfl (fun K hK => ?_) (AllReady.cons rfl (fun K hK => ?_) AllReady.nil))
            · go_simp
              obtain ⟨v1, hv1⟩ : ∃ v1, v0.alloc (.cells #[.int .u8 x] 5) = v1 := ⟨_, rfl⟩
              have bv1 : Below v0.heap.size v0 v1 := by rw [← hv1]; exact (Below.refl _ v0).alloc (Nat.le_refl _) _
              have Ev1 : Hid (Below w.heap.size w v1) := Ev0.out.trans (bv1.mono Ev0.out.size)
              have Xv1 : Hid (v1.heap[v0.heap.size]? = some (.cells #[.int .u8 x] 5 (0, 0))) := by rw [← hv1]; exact heap_alloc_new v0 _
              rw [hv1]
              clear hv1
              refine hK _ _ ?_
              clear hK K
              refine wpAny_ready (rs := [7, 19]) (by kernel_rfl) (by simp) ?_
              refine (AllReady.cons rfl (fun K hK => ?_) (AllReady.cons rfl (fun K hK => ?_) AllReady.nil))
              · have cv := one_str v1 v0.heap.size x Xv1.out
                rw [HBC.out] at cv
                go_simp
                refine hK _ _ ?_
                clear hK K
                clear cv
                refine wpAny_take (i := 8) (v := ?_) rfl (by kernel_rfl) (by kernel_rfl) (by kernel_rfl) (fun _ _ _ h => h) (Or.inl ⟨by kernel_rfl, ?_⟩) ?_
                rotate_left
                · intro w
                  go_simp
                  try with_reducible rfl
                conv in (Act.put _ _ _) => simp only [List.getElem_toArray, List.getElem_cons_succ, List.getElem_cons_zero, Act.put, List.setIfInBounds_toArray, List.set_cons_succ, List.set_cons_zero]
                refine wpAny_take (i := 13) (v := ?_) rfl (by kernel_rfl) (by kernel_rfl) (by kernel_rfl) (fun _ _ _ h => h) (Or.inl ⟨by kernel_rfl, ?_⟩) ?_
                rotate_left
                · intro w
                  go_simp
                  try with_reducible rfl
                conv in (Act.put _ _ _) => simp only [List.getElem_toArray, List.getElem_cons_succ, List.getElem_cons_zero, Act.put, List.setIfInBounds_toArray, List.set_cons_succ, List.set_cons_zero]
                refine wpAny_ready (rs := [14, 19]) (by kernel_rfl) (by simp) ?_
                refine (AllReady.cons rfl (fun K hK => ?_) (AllReady.cons rfl (fun K hK => ?_) AllReady.nil))
                · go_simp
                  rw [HTN.out]
                  refine (HO3.out v1 (CT.out v1 (HGB.out v1 Ev1.out)).2 (HTB.out v1 Ev1.out)).mono ?_
                  rintro e v2 ⟨rfl, bv2⟩
                  have Ev2 : Hid (Below w.heap.size w v2) := Ev1.out.trans (bv2.mono Ev1.out.size)
                  clear bv2
                  refine hK _ _ ?_
                  clear hK K
                  refine wpAny_take (i := 15) (v := ?_) rfl (by kernel_rfl) (by kernel_rfl) (by kernel_rfl) (fun _ _ _ h => h) (Or.inl ⟨by kernel_rfl, ?_⟩) ?_
                  rotate_left
                  · intro w
                    go_simp
                    try with_reducible rfl
                  conv in (Act.put _ _ _) => simp only [List.getElem_toArray, List.getElem_cons_succ, List.getElem_cons_zero, Act.put, List.setIfInBounds_toArray, List.set_cons_succ, List.set_cons_zero]
                  refine wpAny_take (i := 16) (v := ?_) rfl (by kernel_rfl) (by kernel_rfl) (by kernel_rfl) (fun _ _ _ h => h) (Or.inl ⟨by kernel_rfl, ?_⟩) ?_
                  rotate_left
                  · intro w
                    go_simp
                    try with_reducible rfl
                  conv in (Act.put _ _ _) => simp only [List.getElem_toArray, List.getElem_cons_succ, List.getElem_cons_zero, Act.put, List.setIfInBounds_toArray, List.set_cons_succ, List.set_cons_zero]
                  refine wpAny_take (i := 17) (v := ?_) rfl (by kernel_rfl) (by kernel_rfl) (by kernel_rfl) (fun _ _ _ h => h) (Or.inl ⟨by kernel_rfl, ?_⟩) ?_
                  rotate_left
                  · intro w
                    go_simp
                    try with_reducible rfl
                  conv in (Act.put _ _ _) => simp only [List.getElem_toArray, List.getElem_cons_succ, List.getElem_cons_zero, Act.put, List.setIfInBounds_toArray, List.set_cons_succ, List.set_cons_zero]
                  refine wpAny_take (i := 18) (v := ?_) rfl (by kernel_rfl) (by kernel_rfl) (by kernel_rfl) (fun _ _ _ h => h) (Or.inl ⟨by kernel_rfl, ?_⟩) ?_
                  rotate_left
                  · intro w
                    go_simp
                    try with_reducible rfl
                  conv in (Act.put _ _ _) => simp only [List.getElem_toArray, List.getElem_cons_succ, List.getElem_cons_zero, Act.put, List.setIfInBounds_toArray, List.set_cons_succ, List.set_cons_zero]
                  refine wpAny_ready (rs := [19]) (by kernel_rfl) (by simp) ?_
                  refine (AllReady.cons rfl (fun K hK => ?_) AllReady.nil)
                  go_simp
                  obtain ⟨v3, hv3⟩ : ∃ v3, v2.alloc (.cells #[.int .u32 0, .int .u32 0, .int .u32 0, .int .u64 0] 25) = v3 := ⟨_, rfl⟩
                  have bv3 : Below v2.heap.size v2 v3 := by rw [← hv3]; exact (Below.refl _ v2).alloc (Nat.le_refl _) _
                  have Ev3 : Hid (Below w.heap.size w v3) := Ev2.out.trans (bv3.mono Ev2.out.size)
                  have Zv3 : Hid (v3.heap[v2.heap.size]? = some (.cells #[.int .u32 0, .int .u32 0, .int .u32 0, .int .u64 0] 25 (0, 0))) := by rw [← hv3]; exact heap_alloc_new v2 _
                  rw [hv3]
                  clear hv3
                  refine hK _ _ ?_
                  clear hK K
                  have zc := four_cells Zv3.out
                  obtain ⟨zc0, zc1, zc2, zc3, zf0, zf1, zf2, zf3⟩ := zc
                  refine wpAny_ready (rs := [20]) (by kernel_rfl) (by simp) ?_
                  refine (AllReady.cons rfl (fun K hK => ?_) AllReady.nil)
                  go_simp
                  refine hK _ _ ?_
                  clear hK K
                  clear zc0 zc1 zc2 zc3 zf0 zf1 zf2 zf3
                  refine wpAny_ready (rs := [21]) (by kernel_rfl) (by simp) ?_
                  refine (AllReady.cons rfl (fun K hK => ?_) AllReady.nil)
                  go_simp
                  refine hK _ _ ?_
                  clear hK K
                  refine wpAny_ready (rs := [22]) (by kernel_rfl) (by simp) ?_
                  refine (AllReady.cons rfl (fun K hK => ?_) AllReady.nil)
                  go_simp
                  refine hK _ _ ?_
                  clear hK K
                  refine wpAny_done (by kernel_rfl) ?_ _
                  have Y := put_four Zv3.out (.int .u32 0) (.int .u32 0) (.int .u32 0) (.int .u64 0)
                  obtain ⟨vf, hvf⟩ : ∃ vf, (((v3.setCell ⟨v2.heap.size, 0, none⟩ (.int .u32 0)).setCell ⟨v2.heap.size, 1, none⟩ (.int .u32 0)).setCell ⟨v2.heap.size, 2, none⟩ (.int .u32 0)).setCell ⟨v2.heap.size, 3, none⟩ (.int .u64 0) = vf := ⟨_, rfl⟩
                  rw [hvf] at Y
                  rw [hvf]
                  clear hvf
                  have BF : Hid (Below w.heap.size w vf) := Ev3.out.trans (Y.2.mono Ev2.out.size)
                  obtain ⟨yc0, yc1, yc2, yc3, _, _, _, _⟩ := four_cells Y.1
                  have heq := HEQ.out
                  clear Y
                  go_wp2_with fail
                  go_ret
                  exact ⟨rfl, BF.out⟩
                · go_simp
                  obtain ⟨v4, hv4⟩ : ∃ v4, v1.alloc (.cells #[.int .u32 0, .int .u32 0, .int .u32 0, .int .u64 0] 25) = v4 := ⟨_, rfl⟩
                  have bv4 : Below v1.heap.size v1 v4 := by rw [← hv4]; exact (Below.refl _ v1).alloc (Nat.le_refl _) _
                  have Ev4 : Hid (Below w.heap.size w v4) := Ev1.out.trans (bv4.mono Ev1.out.size)
                  have Zv4 : Hid (v4.heap[v1.heap.size]? = some (.cells #[.int .u32 0, .int .u32 0, .int .u32 0, .int .u64 0] 25 (0, 0))) := by rw [← hv4]; exact heap_alloc_new v1 _
                  rw [hv4]
                  clear hv4
                  refine hK _ _ ?_
                  clear hK K
                  refine wpAny_ready (rs := [14]) (by kernel_rfl) (by simp) ?_
                  refine (AllReady.cons rfl (fun K hK => ?_) AllReady.nil)
                  go_simp
                  rw [HTN.out]
                  refine (HO3.out v4 (CT.out v4 (HGB.out v4 Ev4.out)).2 (HTB.out v4 Ev4.out)).mono ?_
                  rintro e v5 ⟨rfl, bv5⟩
                  have Ev5 : Hid (Below w.heap.size w v5) := Ev4.out.trans (bv5.mono Ev4.out.size)
                  have Zv5 : Hid (v5.heap[v1.heap.size]? = some (.cells #[.int .u32 0, .int .u32 0, .int .u32 0, .int .u64 0] 25 (0, 0))) := (bv5.block _ (Array.getElem?_eq_some_iff.1 Zv4.out).1).trans Zv4.out
                  clear bv5
                  refine hK _ _ ?_
                  clear hK K
                  refine wpAny_take (i := 15) (v := ?_) rfl (by kernel_rfl) (by kernel_rfl) (by kernel_rfl) (fun _ _ _ h => h) (Or.inl ⟨by kernel_rfl, ?_⟩) ?_
                  rotate_left
                  · intro w
                    go_simp
                    try with_reducible rfl
                  conv in (Act.put _ _ _) => simp only [List.getElem_toArray, List.getElem_cons_succ, List.getElem_cons_zero, Act.put, List.setIfInBounds_toArray, List.set_cons_succ, List.set_cons_zero]
                  refine wpAny_take (i := 16) (v := ?_) rfl (by kernel_rfl) (by kernel_rfl) (by kernel_rfl) (fun _ _ _ h => h) (Or.inl ⟨by kernel_rfl, ?_⟩) ?_
                  rotate_left
                  · intro w
                    go_simp
                    try with_reducible rfl
                  conv in (Act.put _ _ _) => simp only [List.getElem_toArray, List.getElem_cons_succ, List.getElem_cons_zero, Act.put, List.setIfInBounds_toArray, List.set_cons_succ, List.set_cons_zero]
                  refine wpAny_take (i := 17) (v := ?_) rfl (by kernel_rfl) (by kernel_rfl) (by kernel_rfl) (fun _ _ _ h => h) (Or.inl ⟨by kernel_rfl, ?_⟩) ?_
                  rotate_left
                  · intro w
                    go_simp
                    try with_reducible rfl
                  conv in (Act.put _ _ _) => simp only [List.getElem_toArray, List.getElem_cons_succ, List.getElem_cons_zero, Act.put, List.setIfInBounds_toArray, List.set_cons_succ, List.set_cons_zero]
                  refine wpAny_take (i := 18) (v := ?_) rfl (by kernel_rfl) (by kernel_rfl) (by kernel_rfl) (fun _ _ _ h => h) (Or.inl ⟨by kernel_rfl, ?_⟩) ?_
                  rotate_left
                  · intro w
                    go_simp
                    try with_reducible rfl
                  conv in (Act.put _ _ _) => simp only [List.getElem_toArray, List.getElem_cons_succ, List.getElem_cons_zero, Act.put, List.setIfInBounds_toArray, List.set_cons_succ, List.set_cons_zero]
                  have zc := four_cells Zv5.out
                  obtain ⟨zc0, zc1, zc2, zc3, zf0, zf1, zf2, zf3⟩ := zc
                  refine wpAny_ready (rs := [20]) (by kernel_rfl) (by simp) ?_
                  refine (AllReady.cons rfl (fun K hK => ?_) AllReady.nil)
                  go_simp
                  refine hK _ _ ?_
                  clear hK K
                  clear zc0 zc1 zc2 zc3 zf0 zf1 zf2 zf3
                  refine wpAny_ready (rs := [21]) (by kernel_rfl) (by simp) ?_
                  refine (AllReady.cons rfl (fun K hK => ?_) AllReady.nil)
                  go_simp
                  refine hK _ _ ?_
                  clear hK K
                  refine wpAny_ready (rs := [22]) (by kernel_rfl) (by simp) ?_
                  refine (AllReady.cons rfl (fun K hK => ?_) AllReady.nil)
                  go_simp
                  refine hK _ _ ?_
                  clear hK K
                  refine wpAny_done (by kernel_rfl) ?_ _
                  have Y := put_four Zv5.out (.int .u32 0) (.int .u32 0) (.int .u32 0) (.int .u64 0)
                  obtain ⟨vf, hvf⟩ : ∃ vf, (((v5.setCell ⟨v1.heap.size, 0, none⟩ (.int .u32 0)).setCell ⟨v1.heap.size, 1, none⟩ (.int .u32 0)).setCell ⟨v1.heap.size, 2, none⟩ (.int .u32 0)).setCell ⟨v1.heap.size, 3, none⟩ (.int .u64 0) = vf := ⟨_, rfl⟩
                  rw [hvf] at Y
                  rw [hvf]
                  clear hvf
                  have BF : Hid (Below w.heap.size w vf) := Ev5.out.trans (Y.2.mono Ev1.out.size)
                  obtain ⟨yc0, yc1, yc2, yc3, _, _, _, _⟩ := four_cells Y.1
                  have heq := HEQ.out
                  clear Y
                  go_wp2_with fail
                  go_ret
                  exact ⟨rfl, BF.out⟩
              · go_simp
                obtain ⟨v6, hv6⟩ : ∃ v6, v1.alloc (.cells #[.int .u32 0, .int .u32 0, .int .u32 0, .int .u64 0] 25) = v6 := ⟨_, rfl⟩
                have bv6 : Below v1.heap.size v1 v6 := by rw [← hv6]; exact (Below.refl _ v1).alloc (Nat.le_refl _) _
                have Ev6 : Hid (Below w.heap.size w v6) := Ev1.out.trans (bv6.mono Ev1.out.size)
                have Xv6 : Hid (v6.heap[v0.heap.size]? = some (.cells #[.int .u8 x] 5 (0, 0))) := (bv6.block _ (Array.getElem?_eq_some_iff.1 Xv1.out).1).trans Xv1.out
                have Zv6 : Hid (v6.heap[v1.heap.size]? = some (.cells #[.int .u32 0, .int .u32 0, .int .u32 0, .int .u64 0] 25 (0, 0))) := by rw [← hv6]; exact heap_alloc_new v1 _
                rw [hv6]
                clear hv6
                refine hK _ _ ?_
                clear hK K
                refine wpAny_ready (rs := [7]) (by kernel_rfl) (by simp) ?_
                refine (AllReady.cons rfl (fun K hK => ?_) AllReady.nil)
                have cv := one_str v6 v0.heap.size x Xv6.out
                rw [HBC.out] at cv
                go_simp
                refine hK _ _ ?_
                clear hK K
                clear cv
                refine wpAny_take (i := 8) (v := ?_) rfl (by kernel_rfl) (by kernel_rfl) (by kernel_rfl) (fun _ _ _ h => h) (Or.inl ⟨by kernel_rfl, ?_⟩) ?_
                rotate_left
                · intro w
                  go_simp
                  try with_reducible rfl
                conv in (Act.put _ _ _) => simp only [List.getElem_toArray, List.getElem_cons_succ, List.getElem_cons_zero, Act.put, List.setIfInBounds_toArray, List.set_cons_succ, List.set_cons_zero]
                refine wpAny_take (i := 13) (v := ?_) rfl (by kernel_rfl) (by kernel_rfl) (by kernel_rfl) (fun _ _ _ h => h) (Or.inl ⟨by kernel_rfl, ?_⟩) ?_
                rotate_left
                · intro w
                  go_simp
                  try with_reducible rfl
                conv in (Act.put _ _ _) => simp only [List.getElem_toArray, List.getElem_cons_succ, List.getElem_cons_zero, Act.put, List.setIfInBounds_toArray, List.set_cons_succ, List.set_cons_zero]
                refine wpAny_ready (rs := [14]) (by kernel_rfl) (by simp) ?_
                refine (AllReady.cons rfl (fun K hK => ?_) AllReady.nil)
                go_simp
                rw [HTN.out]
                refine (HO3.out v6 (CT.out v6 (HGB.out v6 Ev6.out)).2 (HTB.out v6 Ev6.out)).mono ?_
                rintro e v7 ⟨rfl, bv7⟩
                have Ev7 : Hid (Below w.heap.size w v7) := Ev6.out.trans (bv7.mono Ev6.out.size)
                have Zv7 : Hid (v7.heap[v1.heap.size]? = some (.cells #[.int .u32 0, .int .u32 0, .int .u32 0, .int .u64 0] 25 (0, 0))) := (bv7.block _ (Array.getElem?_eq_some_iff.1 Zv6.out).1).trans Zv6.out
                clear bv7
                refine hK _ _ ?_
                clear hK K
                refine wpAny_take (i := 15) (v := ?_) rfl (by kernel_rfl) (by kernel_rfl) (by kernel_rfl) (fun _ _ _ h => h) (Or.inl ⟨by kernel_rfl, ?_⟩) ?_
                rotate_left
                · intro w
                  go_simp
                  try with_reducible rfl
                conv in (Act.put _ _ _) => simp only [List.getElem_toArray, List.getElem_cons_succ, List.getElem_cons_zero, Act.put, List.setIfInBounds_toArray, List.set_cons_succ, List.set_cons_zero]
                refine wpAny_take (i := 16) (v := ?_) rfl (by kernel_rfl) (by kernel_rfl) (by kernel_rfl) (fun _ _ _ h => h) (Or.inl ⟨by kernel_rfl, ?_⟩) ?_
                rotate_left
                · intro w
                  go_simp
                  try with_reducible rfl
                conv in (Act.put _ _ _) => simp only [List.getElem_toArray, List.getElem_cons_succ, List.getElem_cons_zero, Act.put, List.setIfInBounds_toArray, List.set_cons_succ, List.set_cons_zero]
                refine wpAny_take (i := 17) (v := ?_) rfl (by kernel_rfl) (by kernel_rfl) (by kernel_rfl) (fun _ _ _ h => h) (Or.inl ⟨by kernel_rfl, ?_⟩) ?_
                rotate_left
                · intro w
                  go_simp
                  try with_reducible rfl
                conv in (Act.put _ _ _) => simp only [List.getElem_toArray, List.getElem_cons_succ, List.getElem_cons_zero, Act.put, List.setIfInBounds_toArray, List.set_cons_succ, List.set_cons_zero]
                refine wpAny_take (i := 18) (v := ?_) rfl (by kernel_rfl) (by kernel_rfl) (by kernel_rfl) (fun _ _ _ h => h) (Or.inl ⟨by kernel_rfl, ?_⟩) ?_
                rotate_left
                · intro w
                  go_simp
                  try with_reducible rfl
                conv in (Act.put _ _ _) => simp only [List.getElem_toArray, List.getElem_cons_succ, List.getElem_cons_zero, Act.put, List.setIfInBounds_toArray, List.set_cons_succ, List.set_cons_zero]
                have zc := four_cells Zv7.out
                obtain ⟨zc0, zc1, zc2, zc3, zf0, zf1, zf2, zf3⟩ := zc
                refine wpAny_ready (rs := [20]) (by kernel_rfl) (by simp) ?_
                refine (AllReady.cons rfl (fun K hK => ?_) AllReady.nil)
                go_simp
                refine hK _ _ ?_
                clear hK K
                clear zc0 zc1 zc2 zc3 zf0 zf1 zf2 zf3
                refine wpAny_ready (rs := [21]) (by kernel_rfl) (by simp) ?_
                refine (AllReady.cons rfl (fun K hK => ?_) AllReady.nil)
                go_simp
                refine hK _ _ ?_
                clear hK K
                refine wpAny_ready (rs := [22]) (by kernel_rfl) (by simp) ?_
                refine (AllReady.cons rfl (fun K hK => ?_) AllReady.nil)
                go_simp
                refine hK _ _ ?_
                clear hK K
                refine wpAny_done (by kernel_rfl) ?_ _
                have Y := put_four Zv7.out (.int .u32 0) (.int .u32 0) (.int .u32 0) (.int .u64 0)
                obtain ⟨vf, hvf⟩ : ∃ vf, (((v7.setCell ⟨v1.heap.size, 0, none⟩ (.int .u32 0)).setCell ⟨v1.heap.size, 1, none⟩ (.int .u32 0)).setCell ⟨v1.heap.size, 2, none⟩ (.int .u32 0)).setCell ⟨v1.heap.size, 3, none⟩ (.int .u64 0) = vf := ⟨_, rfl⟩
                rw [hvf] at Y
                rw [hvf]
                clear hvf
                have BF : Hid (Below w.heap.size w vf) := Ev7.out.trans (Y.2.mono Ev1.out.size)
                obtain ⟨yc0, yc1, yc2, yc3, _, _, _, _⟩ := four_cells Y.1
                have heq := HEQ.out
                clear Y
                go_wp2_with fail
                go_ret
                exact ⟨rfl, BF.out⟩
            · go_simp
              obtain ⟨v8, hv8⟩ : ∃ v8, v0.alloc (.cells #[.int .u32 0, .int .u32 0, .int .u32 0, .int .u64 0] 25) = v8 := ⟨_, rfl⟩
              have bv8 : Below v0.heap.size v0 v8 := by rw [← hv8]; exact (Below.refl _ v0).alloc (Nat.le_refl _) _
              have Ev8 : Hid (Below w.heap.size w v8) := Ev0.out.trans (bv8.mono Ev0.out.size)
              have Zv8 : Hid (v8.heap[v0.heap.size]? = some (.cells #[.int .u32 0, .int .u32 0, .int .u32 0, .int .u64 0] 25 (0, 0))) := by rw [← hv8]; exact heap_alloc_new v0 _
              rw [hv8]
              clear hv8
              refine hK _ _ ?_
              clear hK K
              refine wpAny_ready (rs := [6]) (by kernel_rfl) (by simp) ?_
              refine (AllReady.cons rfl (fun K hK => ?_) AllReady.nil)
              go_simp
              obtain ⟨v9, hv9⟩ : ∃ v9, v8.alloc (.cells #[.int .u8 x] 5) = v9 := ⟨_, rfl⟩
              have bv9 : Below v8.heap.size v8 v9 := by rw [← hv9]; exact (Below.refl _ v8).alloc (Nat.le_refl _) _
              have Ev9 : Hid (Below w.heap.size w v9) := Ev8.out.trans (bv9.mono Ev8.out.size)
              have Zv9 : Hid (v9.heap[v0.heap.size]? = some (.cells #[.int .u32 0, .int .u32 0, .int .u32 0, .int .u64 0] 25 (0, 0))) := (bv9.block _ (Array.getElem?_eq_some_iff.1 Zv8.out).1).trans Zv8.out
              have Xv9 : Hid (v9.heap[v8.heap.size]? = some (.cells #[.int .u8 x] 5 (0, 0))) := by rw [← hv9]; exact heap_alloc_new v8 _
              rw [hv9]
              clear hv9
              refine hK _ _ ?_
              clear hK K
              refine wpAny_ready (rs := [7]) (by kernel_rfl) (by simp) ?_
              refine (AllReady.cons rfl (fun K hK => ?_) AllReady.nil)
              have cv := one_str v9 v8.heap.size x Xv9.out
              rw [HBC.out] at cv
              go_simp
              refine hK _ _ ?_
              clear hK K
              clear cv
              refine wpAny_take (i := 8) (v := ?_) rfl (by kernel_rfl) (by kernel_rfl) (by kernel_rfl) (fun _ _ _ h => h) (Or.inl ⟨by kernel_rfl, ?_⟩) ?_
              rotate_left
              · intro w
                go_simp
                try with_reducible rfl
              conv in (Act.put _ _ _) => simp only [List.getElem_toArray, List.getElem_cons_succ, List.getElem_cons_zero, Act.put, List.setIfInBounds_toArray, List.set_cons_succ, List.set_cons_zero]
              refine wpAny_take (i := 13) (v := ?_) rfl (by kernel_rfl) (by kernel_rfl) (by kernel_rfl) (fun _ _ _ h => h) (Or.inl ⟨by kernel_rfl, ?_⟩) ?_
              rotate_left
              · intro w
                go_simp
                try with_reducible rfl
              conv in (Act.put _ _ _) => simp only [List.getElem_toArray, List.getElem_cons_succ, List.getElem_cons_zero, Act.put, List.setIfInBounds_toArray, List.set_cons_succ, List.set_cons_zero]
              refine wpAny_ready (rs := [14]) (by kernel_rfl) (by simp) ?_
              refine (AllReady.cons rfl (fun K hK => ?_) AllReady.nil)
              go_simp
              rw [HTN.out]
              refine (HO3.out v9 (CT.out v9 (HGB.out v9 Ev9.out)).2 (HTB.out v9 Ev9.out)).mono ?_
              rintro e v10 ⟨rfl, bv10⟩
              have Ev10 : Hid (Below w.heap.size w v10) := Ev9.out.trans (bv10.mono Ev9.out.size)
              have Zv10 : Hid (v10.heap[v0.heap.size]? = some (.cells #[.int .u32 0, .int .u32 0, .int .u32 0, .int .u64 0] 25 (0, 0))) := (bv10.block _ (Array.getElem?_eq_some_iff.1 Zv9.out).1).trans Zv9.out
              clear bv10
              refine hK _ _ ?_
              clear hK K
              refine wpAny_take (i := 15) (v := ?_) rfl (by kernel_rfl) (by kernel_rfl) (by kernel_rfl) (fun _ _ _ h => h) (Or.inl ⟨by kernel_rfl, ?_⟩) ?_
              rotate_left
              · intro w
                go_simp
                try with_reducible rfl
              conv in (Act.put _ _ _) => simp only [List.getElem_toArray, List.getElem_cons_succ, List.getElem_cons_zero, Act.put, List.setIfInBounds_toArray, List.set_cons_succ, List.set_cons_zero]
              refine wpAny_take (i := 16) (v := ?_) rfl (by kernel_rfl) (by kernel_rfl) (by kernel_rfl) (fun _ _ _ h => h) (Or.inl ⟨by kernel_rfl, ?_⟩) ?_
              rotate_left
              · intro w
                go_simp
                try with_reducible rfl
              conv in (Act.put _ _ _) => simp only [List.getElem_toArray, List.getElem_cons_succ, List.getElem_cons_zero, Act.put, List.setIfInBounds_toArray, List.set_cons_succ, List.set_cons_zero]
              refine wpAny_take (i := 17) (v := ?_) rfl (by kernel_rfl) (by kernel_rfl) (by kernel_rfl) (fun _ _ _ h => h) (Or.inl ⟨by kernel_rfl, ?_⟩) ?_
              rotate_left
              · intro w
                go_simp
                try with_reducible rfl
              conv in (Act.put _ _ _) => simp only [List.getElem_toArray, List.getElem_cons_succ, List.getElem_cons_zero, Act.put, List.setIfInBounds_toArray, List.set_cons_succ, List.set_cons_zero]
              refine wpAny_take (i := 18) (v := ?_) rfl (by kernel_rfl) (by kernel_rfl) (by kernel_rfl) (fun _ _ _ h => h) (Or.inl ⟨by kernel_rfl, ?_⟩) ?_
              rotate_left
              · intro w
                go_simp
                try with_reducible rfl
              conv in (Act.put _ _ _) => simp only [List.getElem_toArray, List.getElem_cons_succ, List.getElem_cons_zero, Act.put, List.setIfInBounds_toArray, List.set_cons_succ, List.set_cons_zero]
              have zc := four_cells Zv10.out
              obtain ⟨zc0, zc1, zc2, zc3, zf0, zf1, zf2, zf3⟩ := zc
              refine wpAny_ready (rs := [20]) (by kernel_rfl) (by simp) ?_
              refine (AllReady.cons rfl (fun K hK => ?_) AllReady.nil)
              go_simp
              refine hK _ _ ?_
              clear hK K
              clear zc0 zc1 zc2 zc3 zf0 zf1 zf2 zf3
              refine wpAny_ready (rs := [21]) (by kernel_rfl) (by simp) ?_
              refine (AllReady.cons rfl (fun K hK => ?_) AllReady.nil)
              go_simp
              refine hK _ _ ?_
              clear hK K
              refine wpAny_ready (rs := [22]) (by kernel_rfl) (by simp) ?_
              refine (AllReady.cons rfl (fun K hK => ?_) AllReady.nil)
              go_simp
              refine hK _ _ ?_
              clear hK K
              refine wpAny_done (by kernel_rfl) ?_ _
              have Y := put_four Zv10.out (.int .u32 0) (.int .u32 0) (.int .u32 0) (.int .u64 0)
              obtain ⟨vf, hvf⟩ : ∃ vf, (((v10.setCell ⟨v0.heap.size, 0, none⟩ (.int .u32 0)).setCell ⟨v0.heap.size, 1, none⟩ (.int .u32 0)).setCell ⟨v0.heap.size, 2, none⟩ (.int .u32 0)).setCell ⟨v0.heap.size, 3, none⟩ (.int .u64 0) = vf := ⟨_, rfl⟩
              rw [hvf] at Y
              rw [hvf]
              clear hvf
              have BF : Hid (Below w.heap.size w vf) := Ev10.out.trans (Y.2.mono Ev0.out.size)
              obtain ⟨yc0, yc1, yc2, yc3, _, _, _, _⟩ := four_cells Y.1
              have heq := HEQ.out
              clear Y
              go_wp2_with fail
              go_ret
              exact ⟨rfl, BF.out⟩
          · go_simp
            obtain ⟨v11, hv11⟩ : ∃ v11, v0.alloc (.cells #[.int .u8 x] 5) = v11 := ⟨_, rfl⟩
            have bv11 : Below v0.heap.size v0 v11 := by rw [← hv11]; exact (Below.refl _ v0).alloc (Nat.le_refl _) _
            have Ev11 : Hid (Below w.heap.size w v11) := Ev0.out.trans (bv11.mono Ev0.out.size)
            have Xv11 : Hid (v11.heap[v0.heap.size]? = some (.cells #[.int .u8 x] 5 (0, 0))) := by rw [← hv11]; exact heap_alloc_new v0 _
            rw [hv11]
            clear hv11
            refine hK _ _ ?_
            clear hK K
            refine wpAny_ready (rs := [1, 7, 19]) (by kernel_rfl) (by simp) ?_
            refine (AllReady.cons rfl (fun K hK => ?_) (AllReady.cons rfl (fun K hK => ?_) (AllReady.cons rfl (fun K hK => ?_) AllReady.nil)))
            · go_simp
              refine (CT.out v11 (HGB.out v11 Ev11.out)).1.mono ?_
              rintro e vc ⟨rfl, hvc⟩
              have hvc' := hvc.symm
              clear hvc
              subst hvc'
              refine hK _ _ ?_
              clear hK K
              refine wpAny_ready (rs := [7, 19]) (by kernel_rfl) (by simp) ?_
              refine (AllReady.cons rfl (fun K hK => ?_) (AllReady.cons rfl (fun K hK => ?_) AllReady.nil))
              · have cv := one_str v11 v0.heap.size x Xv11.out
                rw [HBC.out] at cv
                go_simp
                refine hK _ _ ?_
                clear hK K
                clear cv
                refine wpAny_take (i := 8) (v := ?_) rfl (by kernel_rfl) (by kernel_rfl) (by kernel_rfl) (fun _ _ _ h => h) (Or.inl ⟨by kernel_rfl, ?_⟩) ?_
                rotate_left
                · intro w
                  go_simp
                  try with_reducible rfl
                conv in (Act.put _ _ _) => simp only [List.getElem_toArray, List.getElem_cons_succ, List.getElem_cons_zero, Act.put, List.setIfInBounds_toArray, List.set_cons_succ, List.set_cons_zero]
                refine wpAny_take (i := 13) (v := ?_) rfl (by kernel_rfl) (by kernel_rfl) (by kernel_rfl) (fun _ _ _ h => h) (Or.inl ⟨by kernel_rfl, ?_⟩) ?_
                rotate_left
                · intro w
                  go_simp
                  try with_reducible rfl
                conv in (Act.put _ _ _) => simp only [List.getElem_toArray, List.getElem_cons_succ, List.getElem_cons_zero, Act.put, List.setIfInBounds_toArray, List.set_cons_succ, List.set_cons_zero]
                refine wpAny_ready (rs := [14, 19]) (by kernel_rfl) (by simp) ?_
                refine (AllReady.cons rfl (fun K hK => ?_) (AllReady.cons rfl (fun K hK => ?_) AllReady.nil))
                · go_simp
                  rw [HTN.out]
                  refine (HO3.out v11 (CT.out v11 (HGB.out v11 Ev11.out)).2 (HTB.out v11 Ev11.out)).mono ?_
                  rintro e v12 ⟨rfl, bv12⟩
                  have Ev12 : Hid (Below w.heap.size w v12) := Ev11.out.trans (bv12.mono Ev11.out.size)
                  clear bv12
                  refine hK _ _ ?_
                  clear hK K
                  refine wpAny_take (i := 15) (v := ?_) rfl (by kernel_rfl) (by kernel_rfl) (by kernel_rfl) (fun _ _ _ h => h) (Or.inl ⟨by kernel_rfl, ?_⟩) ?_
                  rotate_left
                  · intro w
                    go_simp
                    try with_reducible rfl
                  conv in (Act.put _ _ _) => simp only [List.getElem_toArray, List.getElem_cons_succ, List.getElem_cons_zero, Act.put, List.setIfInBounds_toArray, List.set_cons_succ, List.set_cons_zero]
                  refine wpAny_take (i := 16) (v := ?_) rfl (by kernel_rfl) (by kernel_rfl) (by kernel_rfl) (fun _ _ _ h => h) (Or.inl ⟨by kernel_rfl, ?_⟩) ?_
                  rotate_left
                  · intro w
                    go_simp
                    try with_reducible rfl
                  conv in (Act.put _ _ _) => simp only [List.getElem_toArray, List.getElem_cons_succ, List.getElem_cons_zero, Act.put, List.setIfInBounds_toArray, List.set_cons_succ, List.set_cons_zero]
                  refine wpAny_take (i := 17) (v := ?_) rfl (by kernel_rfl) (by kernel_rfl) (by kernel_rfl) (fun _ _ _ h => h) (Or.inl ⟨by kernel_rfl, ?_⟩) ?_
                  rotate_left
                  · intro w
                    go_simp
                    try with_reducible rfl
                  conv in (Act.put _ _ _) => simp only [List.getElem_toArray, List.getElem_cons_succ, List.getElem_cons_zero, Act.put, List.setIfInBounds_toArray, List.set_cons_succ, List.set_cons_zero]
                  refine wpAny_take (i := 18) (v := ?_) rfl (by kernel_rfl) (by kernel_rfl) (by kernel_rfl) (fun _ _ _ h => h) (Or.inl ⟨by kernel_rfl, ?_⟩) ?_
                  rotate_left
                  · intro w
                    go_simp
                    try with_reducible rfl
                  conv in (Act.put _ _ _) => simp only [List.getElem_toArray, List.getElem_cons_succ, List.getElem_cons_zero, Act.put, List.setIfInBounds_toArray, List.set_cons_succ, List.set_cons_zero]
                  refine wpAny_ready (rs := [19]) (by kernel_rfl) (by simp) ?_
                  refine (AllReady.cons rfl (fun K hK => ?_) AllReady.nil)
                  go_simp
                  obtain ⟨v13, hv13⟩ : ∃ v13, v12.alloc (.cells #[.int .u32 0, .int .u32 0, .int .u32 0, .int .u64 0] 25) = v13 := ⟨_, rfl⟩
                  have bv13 : Below v12.heap.size v12 v13 := by rw [← hv13]; exact (Below.refl _ v12).alloc (Nat.le_refl _) _
                  have Ev13 : Hid (Below w.heap.size w v13) := Ev12.out.trans (bv13.mono Ev12.out.size)
                  have Zv13 : Hid (v13.heap[v12.heap.size]? = some (.cells #[.int .u32 0, .int .u32 0, .int .u32 0, .int .u64 0] 25 (0, 0))) := by rw [← hv13]; exact heap_alloc_new v12 _
                  rw [hv13]
                  clear hv13
                  refine hK _ _ ?_
                  clear hK K
                  have zc := four_cells Zv13.out
                  obtain ⟨zc0, zc1, zc2, zc3, zf0, zf1, zf2, zf3⟩ := zc
                  refine wpAny_ready (rs := [20]) (by kernel_rfl) (by simp) ?_
                  refine (AllReady.cons rfl (fun K hK => ?_) AllReady.nil)
                  go_simp
                  refine hK _ _ ?_
                  clear hK K
                  clear zc0 zc1 zc2 zc3 zf0 zf1 zf2 zf3
                  refine wpAny_ready (rs := [21]) (by kernel_rfl) (by simp) ?_
                  refine (AllReady.cons rfl (fun K hK => ?_) AllReady.nil)
                  go_simp
                  refine hK _ _ ?_
                  clear hK K
                  refine wpAny_ready (rs := [22]) (by kernel_rfl) (by simp) ?_
                  refine (AllReady.cons rfl (fun K hK => ?_) AllReady.nil)
                  go_simp
                  refine hK _ _ ?_
                  clear hK K
                  refine wpAny_done (by kernel_rfl) ?_ _
                  have Y := put_four Zv13.out (.int .u32 0) (.int .u32 0) (.int .u32 0) (.int .u64 0)
                  obtain ⟨vf, hvf⟩ : ∃ vf, (((v13.setCell ⟨v12.heap.size, 0, none⟩ (.int .u32 0)).setCell ⟨v12.heap.size, 1, none⟩ (.int .u32 0)).setCell ⟨v12.heap.size, 2, none⟩ (.int .u32 0)).setCell ⟨v12.heap.size, 3, none⟩ (.int .u64 0) = vf := ⟨_, rfl⟩
                  rw [hvf] at Y
                  rw [hvf]
                  clear hvf
                  have BF : Hid (Below w.heap.size w vf) := Ev13.out.trans (Y.2.mono Ev12.out.size)
                  obtain ⟨yc0, yc1, yc2, yc3, _, _, _, _⟩ := four_cells Y.1
                  have heq := HEQ.out
                  clear Y
                  go_wp2_with fail
                  go_ret
                  exact ⟨rfl, BF.out⟩
                · go_simp
                  obtain ⟨v14, hv14⟩ : ∃ v14, v11.alloc (.cells #[.int .u32 0, .int .u32 0, .int .u32 0, .int .u64 0] 25) = v14 := ⟨_, rfl⟩
                  have bv14 : Below v11.heap.size v11 v14 := by rw [← hv14]; exact (Below.refl _ v11).alloc (Nat.le_refl _) _
                  have Ev14 : Hid (Below w.heap.size w v14) := Ev11.out.trans (bv14.mono Ev11.out.size)
                  have Zv14 : Hid (v14.heap[v11.heap.size]? = some (.cells #[.int .u32 0, .int .u32 0, .int .u32 0, .int .u64 0] 25 (0, 0))) := by rw [← hv14]; exact heap_alloc_new v11 _
                  rw [hv14]
                  clear hv14
                  refine hK _ _ ?_
                  clear hK K
                  refine wpAny_ready (rs := [14]) (by kernel_rfl) (by simp) ?_
                  refine (AllReady.cons rfl (fun K hK => ?_) AllReady.nil)
                  go_simp
                  rw [HTN.out]
                  refine (HO3.out v14 (CT.out v14 (HGB.out v14 Ev14.out)).2 (HTB.out v14 Ev14.out)).mono ?_
                  rintro e v15 ⟨rfl, bv15⟩
                  have Ev15 : Hid (Below w.heap.size w v15) := Ev14.out.trans (bv15.mono Ev14.out.size)
                  have Zv15 : Hid (v15.heap[v11.heap.size]? = some (.cells #[.int .u32 0, .int .u32 0, .int .u32 0, .int .u64 0] 25 (0, 0))) := (bv15.block _ (Array.getElem?_eq_some_iff.1 Zv14.out).1).trans Zv14.out
                  clear bv15
                  refine hK _ _ ?_
                  clear hK K
                  refine wpAny_take (i := 15) (v := ?_) rfl (by kernel_rfl) (by kernel_rfl) (by kernel_rfl) (fun _ _ _ h => h) (Or.inl ⟨by kernel_rfl, ?_⟩) ?_
                  rotate_left
                  · intro w
                    go_simp
                    try with_reducible rfl
                  conv in (Act.put _ _ _) => simp only [List.getElem_toArray, List.getElem_cons_succ, List.getElem_cons_zero, Act.put, List.setIfInBounds_toArray, List.set_cons_succ, List.set_cons_zero]
                  refine wpAny_take (i := 16) (v := ?_) rfl (by kernel_rfl) (by kernel_rfl) (by kernel_rfl) (fun _ _ _ h => h) (Or.inl ⟨by kernel_rfl, ?_⟩) ?_
                  rotate_left
                  · intro w
                    go_simp
                    try with_reducible rfl
                  conv in (Act.put _ _ _) => simp only [List.getElem_toArray, List.getElem_cons_succ, List.getElem_cons_zero, Act.put, List.setIfInBounds_toArray, List.set_cons_succ, List.set_cons_zero]
                  refine wpAny_take (i := 17) (v := ?_) rfl (by kernel_rfl) (by kernel_rfl) (by kernel_rfl) (fun _ _ _ h => h) (Or.inl ⟨by kernel_rfl, ?_⟩) ?_
                  rotate_left
                  · intro w
                    go_simp
                    try with_reducible rfl
                  conv in (Act.put _ _ _) => simp only [List.getElem_toArray, List.getElem_cons_succ, List.getElem_cons_zero, Act.put, List.setIfInBounds_toArray, List.set_cons_succ, List.set_cons_zero]
                  refine wpAny_take (i := 18) (v := ?_) rfl (by kernel_rfl) (by kernel_rfl) (by kernel_rfl) (fun _ _ _ h => h) (Or.inl ⟨by kernel_rfl, ?_⟩) ?_
                  rotate_left
                  · intro w
                    go_simp
                    try with_reducible rfl
                  conv in (Act.put _ _ _) => simp only [List.getElem_toArray, List.getElem_cons_succ, List.getElem_cons_zero, Act.put, List.setIfInBounds_toArray, List.set_cons_succ, List.set_cons_zero]
                  have zc := four_cells Zv15.out
                  obtain ⟨zc0, zc1, zc2, zc3, zf0, zf1, zf2, zf3⟩ := zc
                  refine wpAny_ready (rs := [20]) (by kernel_rfl) (by simp) ?_
                  refine (AllReady.cons rfl (fun K hK => ?_) AllReady.nil)
                  go_simp
                  refine hK _ _ ?_
                  clear hK K
                  clear zc0 zc1 zc2 zc3 zf0 zf1 zf2 zf3
                  refine wpAny_ready (rs := [21]) (by kernel_rfl) (by simp) ?_
                  refine (AllReady.cons rfl (fun K hK => ?_) AllReady.nil)
                  go_simp
                  refine hK _ _ ?_
                  clear hK K
                  refine wpAny_ready (rs := [22]) (by kernel_rfl) (by simp) ?_
                  refine (AllReady.cons rfl (fun K hK => ?_) AllReady.nil)
                  go_simp
                  refine hK _ _ ?_
                  clear hK K
                  refine wpAny_done (by kernel_rfl) ?_ _
                  have Y := put_four Zv15.out (.int .u32 0) (.int .u32 0) (.int .u32 0) (.int .u64 0)
                  obtain ⟨vf, hvf⟩ : ∃ vf, (((v15.setCell ⟨v11.heap.size, 0, none⟩ (.int .u32 0)).setCell ⟨v11.heap.size, 1, none⟩ (.int .u32 0)).setCell ⟨v11.heap.size, 2, none⟩ (.int .u32 0)).setCell ⟨v11.heap.size, 3, none⟩ (.int .u64 0) = vf := ⟨_, rfl⟩
                  rw [hvf] at Y
                  rw [hvf]
                  clear hvf
                  have BF : Hid (Below w.heap.size w vf) := Ev15.out.trans (Y.2.mono Ev11.out.size)
                  obtain ⟨yc0, yc1, yc2, yc3, _, _, _, _⟩ := four_cells Y.1
                  have heq := HEQ.out
                  clear Y
                  go_wp2_with fail
                  go_ret
                  exact ⟨rfl, BF.out⟩
              · go_simp
                obtain ⟨v16, hv16⟩ : ∃ v16, v11.alloc (.cells #[.int .u32 0, .int .u32 0, .int .u32 0, .int .u64 0] 25) = v16 := ⟨_, rfl⟩
                have bv16 : Below v11.heap.size v11 v16 := by rw [← hv16]; exact (Below.refl _ v11).alloc (Nat.le_refl _) _
                have Ev16 : Hid (Below w.heap.size w v16) := Ev11.out.trans (bv16.mono Ev11.out.size)
                have Xv16 : Hid (v16.heap[v0.heap.size]? = some (.cells #[.int .u8 x] 5 (0, 0))) := (bv16.block _ (Array.getElem?_eq_some_iff.1 Xv11.out).1).trans Xv11.out
                have Zv16 : Hid (v16.heap[v11.heap.size]? = some (.cells #[.int .u32 0, .int .u32 0, .int .u32 0, .int .u64 0] 25 (0, 0))) := by rw [← hv16]; exact heap_alloc_new v11 _
                rw [hv16]
                clear hv16
                refine hK _ _ ?_
                clear hK K
                refine wpAny_ready (rs := [7]) (by kernel_rfl) (by simp) ?_
                refine (AllReady.cons rfl (fun K hK => ?_) AllReady.nil)
                have cv := one_str v16 v0.heap.size x Xv16.out
                rw [HBC.out] at cv
                go_simp
                refine hK _ _ ?_
                clear hK K
                clear cv
                refine wpAny_take (i := 8) (v := ?_) rfl (by kernel_rfl) (by kernel_rfl) (by kernel_rfl) (fun _ _ _ h => h) (Or.inl ⟨by kernel_rfl, ?_⟩) ?_
                rotate_left
                · intro w
                  go_simp
                  try with_reducible rfl
                conv in (Act.put _ _ _) => simp only [List.getElem_toArray, List.getElem_cons_succ, List.getElem_cons_zero, Act.put, List.setIfInBounds_toArray, List.set_cons_succ, List.set_cons_zero]
                refine wpAny_take (i := 13) (v := ?_) rfl (by kernel_rfl) (by kernel_rfl) (by kernel_rfl) (fun _ _ _ h => h) (Or.inl ⟨by kernel_rfl, ?_⟩) ?_
                rotate_left
                · intro w
                  go_simp
                  try with_reducible rfl
                conv in (Act.put _ _ _) => simp only [List.getElem_toArray, List.getElem_cons_succ, List.getElem_cons_zero, Act.put, List.setIfInBounds_toArray, List.set_cons_succ, List.set_cons_zero]
                refine wpAny_ready (rs := [14]) (by kernel_rfl) (by simp) ?_
                refine (AllReady.cons rfl (fun K hK => ?_) AllReady.nil)
                go_simp
                rw [HTN.out]
                refine (HO3.out v16 (CT.out v16 (HGB.out v16 Ev16.out)).2 (HTB.out v16 Ev16.out)).mono ?_
                rintro e v17 ⟨rfl, bv17⟩
                have Ev17 : Hid (Below w.heap.size w v17) := Ev16.out.trans (bv17.mono Ev16.out.size)
                have Zv17 : Hid (v17.heap[v11.heap.size]? = some (.cells #[.int .u32 0, .int .u32 0, .int .u32 0, .int .u64 0] 25 (0, 0))) := (bv17.block _ (Array.getElem?_eq_some_iff.1 Zv16.out).1).trans Zv16.out
                clear bv17
                refine hK _ _ ?_
                clear hK K
                refine wpAny_take (i := 15) (v := ?_) rfl (by kernel_rfl) (by kernel_rfl) (by kernel_rfl) (fun _ _ _ h => h) (Or.inl ⟨by kernel_rfl, ?_⟩) ?_
                rotate_left
                · intro w
                  go_simp
                  try with_reducible rfl
                conv in (Act.put _ _ _) => simp only [List.getElem_toArray, List.getElem_cons_succ, List.getElem_cons_zero, Act.put, List.setIfInBounds_toArray, List.set_cons_succ, List.set_cons_zero]
                refine wpAny_take (i := 16) (v := ?_) rfl (by kernel_rfl) (by kernel_rfl) (by kernel_rfl) (fun _ _ _ h => h) (Or.inl ⟨by kernel_rfl, ?_⟩) ?_
                rotate_left
                · intro w
                  go_simp
                  try with_reducible rfl
                conv in (Act.put _ _ _) => simp only [List.getElem_toArray, List.getElem_cons_succ, List.getElem_cons_zero, Act.put, List.setIfInBounds_toArray, List.set_cons_succ, List.set_cons_zero]
                refine wpAny_take (i := 17) (v := ?_) rfl (by kernel_rfl) (by kernel_rfl) (by kernel_rfl) (fun _ _ _ h => h) (Or.inl ⟨by kernel_rfl, ?_⟩) ?_
                rotate_left
                · intro w
                  go_simp
                  try with_reducible rfl
                conv in (Act.put _ _ _) => simp only [List.getElem_toArray, List.getElem_cons_succ, List.getElem_cons_zero, Act.put, List.setIfInBounds_toArray, List.set_cons_succ, List.set_cons_zero]
                refine wpAny_take (i := 18) (v := ?_) rfl (by kernel_rfl) (by kernel_rfl) (by kernel_rfl) (fun _ _ _ h => h) (Or.inl ⟨by kernel_rfl, ?_⟩) ?_
                rotate_left
                · intro w
                  go_simp
                  try with_reducible rfl
                conv in (Act.put _ _ _) => simp only [List.getElem_toArray, List.getElem_cons_succ, List.getElem_cons_zero, Act.put, List.setIfInBounds_toArray, List.set_cons_succ, List.set_cons_zero]
                have zc := four_cells Zv17.out
                obtain ⟨zc0, zc1, zc2, zc3, zf0, zf1, zf2, zf3⟩ := zc
                refine wpAny_ready (rs := [20]) (by kernel_rfl) (by simp) ?_
                refine (AllReady.cons rfl (fun K hK => ?_) AllReady.nil)
                go_simp
                refine hK _ _ ?_
                clear hK K
                clear zc0 zc1 zc2 zc3 zf0 zf1 zf2 zf3
                refine wpAny_ready (rs := [21]) (by kernel_rfl) (by simp) ?_
                refine (AllReady.cons rfl (fun K hK => ?_) AllReady.nil)
                go_simp
                refine hK _ _ ?_
                clear hK K
                refine wpAny_ready (rs := [22]) (by kernel_rfl) (by simp) ?_
                refine (AllReady.cons rfl (fun K hK => ?_) AllReady.nil)
                go_simp
                refine hK _ _ ?_
                clear hK K
                refine wpAny_done (by kernel_rfl) ?_ _
                have Y := put_four Zv17.out (.int .u32 0) (.int .u32 0) (.int .u32 0) (.int .u64 0)
                obtain ⟨vf, hvf⟩ : ∃ vf, (((v17.setCell ⟨v11.heap.size, 0, none⟩ (.int .u32 0)).setCell ⟨v11.heap.size, 1, none⟩ (.int .u32 0)).setCell ⟨v11.heap.size, 2, none⟩ (.int .u32 0)).setCell ⟨v11.heap.size, 3, none⟩ (.int .u64 0) = vf := ⟨_, rfl⟩
                rw [hvf] at Y
                rw [hvf]
                clear hvf
                have BF : Hid (Below w.heap.size w vf) := Ev17.out.trans (Y.2.mono Ev11.out.size)
                obtain ⟨yc0, yc1, yc2, yc3, _, _, _, _⟩ := four_cells Y.1
                have heq := HEQ.out
                clear Y
                go_wp2_with fail
                go_ret
                exact ⟨rfl, BF.out⟩
            · have cv := one_str v11 v0.heap.size x Xv11.out
              rw [HBC.out] at cv
              go_simp
              refine hK _ _ ?_
              clear hK K
              clear cv
              refine wpAny_take (i := 8) (v := ?_) rfl (by kernel_rfl) (by kernel_rfl) (by kernel_rfl) (fun _ _ _ h => h) (Or.inl ⟨by kernel_rfl, ?_⟩) ?_
              rotate_left
              · intro w
                go_simp
                try with_reducible rfl
              conv in (Act.put _ _ _) => simp only [List.getElem_toArray, List.getElem_cons_succ, List.getElem_cons_zero, Act.put, List.setIfInBounds_toArray, List.set_cons_succ, List.set_cons_zero]
              refine wpAny_take (i := 13) (v := ?_) rfl (by kernel_rfl) (by kernel_rfl) (by kernel_rfl) (fun _ _ _ h => h) (Or.inl ⟨by kernel_rfl, ?_⟩) ?_
              rotate_left
              · intro w
                go_simp
                try with_reducible rfl
              conv in (Act.put _ _ _) => simp only [List.getElem_toArray, List.getElem_cons_succ, List.getElem_cons_zero, Act.put, List.setIfInBounds_toArray, List.set_cons_succ, List.set_cons_zero]
              refine wpAny_ready (rs := [1, 19]) (by kernel_rfl) (by simp) ?_
              refine (AllReady.cons rfl (fun K hK => ?_) (AllReady.cons rfl (fun K hK => ?_) AllReady.nil))
              · go_simp
                refine (CT.out v11 (HGB.out v11 Ev11.out)).1.mono ?_
                rintro e vc ⟨rfl, hvc⟩
                have hvc' := hvc.symm
                clear hvc
                subst hvc'
                refine hK _ _ ?_
                clear hK K
                refine wpAny_ready (rs := [14, 19]) (by kernel_rfl) (by simp) ?_
                refine (AllReady.cons rfl (fun K hK => ?_) (AllReady.cons rfl (fun K hK => ?_) AllReady.nil))
                · go_simp
                  rw [HTN.out]
                  refine (HO3.out v11 (CT.out v11 (HGB.out v11 Ev11.out)).2 (HTB.out v11 Ev11.out)).mono ?_
                  rintro e v18 ⟨rfl, bv18⟩
                  have Ev18 : Hid (Below w.heap.size w v18) := Ev11.out.trans (bv18.mono Ev11.out.size)
                  clear bv18
                  refine hK _ _ ?_
                  clear hK K
                  refine wpAny_take (i := 15) (v := ?_) rfl (by kernel_rfl) (by kernel_rfl) (by kernel_rfl) (fun _ _ _ h => h) (Or.inl ⟨by kernel_rfl, ?_⟩) ?_
                  rotate_left
                  · intro w
                    go_simp
                    try with_reducible rfl
                  conv in (Act.put _ _ _) => simp only [List.getElem_toArray, List.getElem_cons_succ, List.getElem_cons_zero, Act.put, List.setIfInBounds_toArray, List.set_cons_succ, List.set_cons_zero]
                  refine wpAny_take (i := 16) (v := ?_) rfl (by kernel_rfl) (by kernel_rfl) (by kernel_rfl) (fun _ _ _ h => h) (Or.inl ⟨by kernel_rfl, ?_⟩) ?_
                  rotate_left
                  · intro w
                    go_simp
                    try with_reducible rfl
                  conv in (Act.put _ _ _) => simp only [List.getElem_toArray, List.getElem_cons_succ, List.getElem_cons_zero, Act.put, List.setIfInBounds_toArray, List.set_cons_succ, List.set_cons_zero]
                  refine wpAny_take (i := 17) (v := ?_) rfl (by kernel_rfl) (by kernel_rfl) (by kernel_rfl) (fun _ _ _ h => h) (Or.inl ⟨by kernel_rfl, ?_⟩) ?_
                  rotate_left
                  · intro w
                    go_simp
                    try with_reducible rfl
                  conv in (Act.put _ _ _) => simp only [List.getElem_toArray, List.getElem_cons_succ, List.getElem_cons_zero, Act.put, List.setIfInBounds_toArray, List.set_cons_succ, List.set_cons_zero]
                  refine wpAny_take (i := 18) (v := ?_) rfl (by kernel_rfl) (by kernel_rfl) (by kernel_rfl) (fun _ _ _ h => h) (Or.inl ⟨by kernel_rfl, ?_⟩) ?_
                  rotate_left
                  · intro w
                    go_simp
                    try with_reducible rfl
                  conv in (Act.put _ _ _) => simp only [List.getElem_toArray, List.getElem_cons_succ, List.getElem_cons_zero, Act.put, List.setIfInBounds_toArray, List.set_cons_succ, List.set_cons_zero]
                  refine wpAny_ready (rs := [19]) (by kernel_rfl) (by simp) ?_
                  refine (AllReady.cons rfl (fun K hK => ?_) AllReady.nil)
                  go_simp
                  obtain ⟨v19, hv19⟩ : ∃ v19, v18.alloc (.cells #[.int .u32 0, .int .u32 0, .int .u32 0, .int .u64 0] 25) = v19 := ⟨_, rfl⟩
                  have bv19 : Below v18.heap.size v18 v19 := by rw [← hv19]; exact (Below.refl _ v18).alloc (Nat.le_refl _) _
                  have Ev19 : Hid (Below w.heap.size w v19) := Ev18.out.trans (bv19.mono Ev18.out.size)
                  have Zv19 : Hid (v19.heap[v18.heap.size]? = some (.cells #[.int .u32 0, .int .u32 0, .int .u32 0, .int .u64 0] 25 (0, 0))) := by rw [← hv19]; exact heap_alloc_new v18 _
                  rw [hv19]
                  clear hv19
                  refine hK _ _ ?_
                  clear hK K
                  have zc := four_cells Zv19.out
                  obtain ⟨zc0, zc1, zc2, zc3, zf0, zf1, zf2, zf3⟩ := zc
                  refine wpAny_ready (rs := [20]) (by kernel_rfl) (by simp) ?_
                  refine (AllReady.cons rfl (fun K hK => ?_) AllReady.nil)
                  go_simp
                  refine hK _ _ ?_
                  clear hK K
                  clear zc0 zc1 zc2 zc3 zf0 zf1 zf2 zf3
                  refine wpAny_ready (rs := [21]) (by kernel_rfl) (by simp) ?_
                  refine (AllReady.cons rfl (fun K hK => ?_) AllReady.nil)
                  go_simp
                  refine hK _ _ ?_
                  clear hK K
                  refine wpAny_ready (rs := [22]) (by kernel_rfl) (by simp) ?_
                  refine (AllReady.cons rfl (fun K hK => ?_) AllReady.nil)
                  go_simp
                  refine hK _ _ ?_
                  clear hK K
                  refine wpAny_done (by kernel_rfl) ?_ _
                  have Y := put_four Zv19.out (.int .u32 0) (.int .u32 0) (.int .u32 0) (.int .u64 0)
                  obtain ⟨vf, hvf⟩ : ∃ vf, (((v19.setCell ⟨v18.heap.size, 0, none⟩ (.int .u32 0)).setCell ⟨v18.heap.size, 1, none⟩ (.int .u32 0)).setCell ⟨v18.heap.size, 2, none⟩ (.int .u32 0)).setCell ⟨v18.heap.size, 3, none⟩ (.int .u64 0) = vf := ⟨_, rfl⟩
                  rw [hvf] at Y
                  rw [hvf]
                  clear hvf
                  have BF : Hid (Below w.heap.size w vf) := Ev19.out.trans (Y.2.mono Ev18.out.size)
                  obtain ⟨yc0, yc1, yc2, yc3, _, _, _, _⟩ := four_cells Y.1
                  have heq := HEQ.out
                  clear Y
                  go_wp2_with fail
                  go_ret
                  exact ⟨rfl, BF.out⟩
                · go_simp
                  obtain ⟨v20, hv20⟩ : ∃ v20, v11.alloc (.cells #[.int .u32 0, .int .u32 0, .int .u32 0, .int .u64 0] 25) = v20 := ⟨_, rfl⟩
                  have bv20 : Below v11.heap.size v11 v20 := by rw [← hv20]; exact (Below.refl _ v11).alloc (Nat.le_refl _) _
                  have Ev20 : Hid (Below w.heap.size w v20) := Ev11.out.trans (bv20.mono Ev11.out.size)
                  have Zv20 : Hid (v20.heap[v11.heap.size]? = some (.cells #[.int .u32 0, .int .u32 0, .int .u32 0, .int .u64 0] 25 (0, 0))) := by rw [← hv20]; exact heap_alloc_new v11 _
                  rw [hv20]
                  clear hv20
                  refine hK _ _ ?_
                  clear hK K
                  refine wpAny_ready (rs := [14]) (by kernel_rfl) (by simp) ?_
                  refine (AllReady.cons rfl (fun K hK => ?_) AllReady.nil)
                  go_simp
                  rw [HTN.out]
                  refine (HO3.out v20 (CT.out v20 (HGB.out v20 Ev20.out)).2 (HTB.out v20 Ev20.out)).mono ?_
                  rintro e v21 ⟨rfl, bv21⟩
                  have Ev21 : Hid (Below w.heap.size w v21) := Ev20.out.trans (bv21.mono Ev20.out.size)
                  have Zv21 : Hid (v21.heap[v11.heap.size]? = some (.cells #[.int .u32 0, .int .u32 0, .int .u32 0, .int .u64 0] 25 (0, 0))) := (bv21.block _ (Array.getElem?_eq_some_iff.1 Zv20.out).1).trans Zv20.out
                  clear bv21
                  refine hK _ _ ?_
                  clear hK K
                  refine wpAny_take (i := 15) (v := ?_) rfl (by kernel_rfl) (by kernel_rfl) (by kernel_rfl) (fun _ _ _ h => h) (Or.inl ⟨by kernel_rfl, ?_⟩) ?_
                  rotate_left
                  · intro w
                    go_simp
                    try with_reducible rfl
                  conv in (Act.put _ _ _) => simp only [List.getElem_toArray, List.getElem_cons_succ, List.getElem_cons_zero, Act.put, List.setIfInBounds_toArray, List.set_cons_succ, List.set_cons_zero]
                  refine wpAny_take (i := 16) (v := ?_) rfl (by kernel_rfl) (by kernel_rfl) (by kernel_rfl) (fun _ _ _ h => h) (Or.inl ⟨by kernel_rfl, ?_⟩) ?_
                  rotate_left
                  · intro w
                    go_simp
                    try with_reducible rfl
                  conv in (Act.put _ _ _) => simp only [List.getElem_toArray, List.getElem_cons_succ, List.getElem_cons_zero, Act.put, List.setIfInBounds_toArray, List.set_cons_succ, List.set_cons_zero]
                  refine wpAny_take (i := 17) (v := ?_) rfl (by kernel_rfl) (by kernel_rfl) (by kernel_rfl) (fun _ _ _ h => h) (Or.inl ⟨by kernel_rfl, ?_⟩) ?_
                  rotate_left
                  · intro w
                    go_simp
                    try with_reducible rfl
                  conv in (Act.put _ _ _) => simp only [List.getElem_toArray, List.getElem_cons_succ, List.getElem_cons_zero, Act.put, List.setIfInBounds_toArray, List.set_cons_succ, List.set_cons_zero]
                  refine wpAny_take (i := 18) (v := ?_) rfl (by kernel_rfl) (by kernel_rfl) (by kernel_rfl) (fun _ _ _ h => h) (Or.inl ⟨by kernel_rfl, ?_⟩) ?_
                  rotate_left
                  · intro w
                    go_simp
                    try with_reducible rfl
                  conv in (Act.put _ _ _) => simp only [List.getElem_toArray, List.getElem_cons_succ, List.getElem_cons_zero, Act.put, List.setIfInBounds_toArray, List.set_cons_succ, List.set_cons_zero]
                  have zc := four_cells Zv21.out
                  obtain ⟨zc0, zc1, zc2, zc3, zf0, zf1, zf2, zf3⟩ := zc
                  refine wpAny_ready (rs := [20]) (by kernel_rfl) (by simp) ?_
                  refine (AllReady.cons rfl (fun K hK => ?_) AllReady.nil)
                  go_simp
                  refine hK _ _ ?_
                  clear hK K
                  clear zc0 zc1 zc2 zc3 zf0 zf1 zf2 zf3
                  refine wpAny_ready (rs := [21]) (by kernel_rfl) (by simp) ?_
                  refine (AllReady.cons rfl (fun K hK => ?_) AllReady.nil)
                  go_simp
                  refine hK _ _ ?_
                  clear hK K
                  refine wpAny_ready (rs := [22]) (by kernel_rfl) (by simp) ?_
                  refine (AllReady.cons rfl (fun K hK => ?_) AllReady.nil)
                  go_simp
                  refine hK _ _ ?_
                  clear hK K
                  refine wpAny_done (by kernel_rfl) ?_ _
                  have Y := put_four Zv21.out (.int .u32 0) (.int .u32 0) (.int .u32 0) (.int .u64 0)
                  obtain ⟨vf, hvf⟩ : ∃ vf, (((v21.setCell ⟨v11.heap.size, 0, none⟩ (.int .u32 0)).setCell ⟨v11.heap.size, 1, none⟩ (.int .u32 0)).setCell ⟨v11.heap.size, 2, none⟩ (.int .u32 0)).setCell ⟨v11.heap.size, 3, none⟩ (.int .u64 0) = vf := ⟨_, rfl⟩
                  rw [hvf] at Y
                  rw [hvf]
                  clear hvf
                  have BF : Hid (Below w.heap.size w vf) := Ev21.out.trans (Y.2.mono Ev11.out.size)
                  obtain ⟨yc0, yc1, yc2, yc3, _, _, _, _⟩ := four_cells Y.1
                  have heq := HEQ.out
                  clear Y
                  go_wp2_with fail
                  go_ret
                  exact ⟨rfl, BF.out⟩
              · go_simp
                obtain ⟨v22, hv22⟩ : ∃ v22, v11.alloc (.cells #[.int .u32 0, .int .u32 0, .int .u32 0, .int .u64 0] 25) = v22 := ⟨_, rfl⟩
                have bv22 : Below v11.heap.size v11 v22 := by rw [← hv22]; exact (Below.refl _ v11).alloc (Nat.le_refl _) _
                have Ev22 : Hid (Below w.heap.size w v22) := Ev11.out.trans (bv22.mono Ev11.out.size)
                have Zv22 : Hid (v22.heap[v11.heap.size]? = some (.cells #[.int .u32 0, .int .u32 0, .int .u32 0, .int .u64 0] 25 (0, 0))) := by rw [← hv22]; exact heap_alloc_new v11 _
                rw [hv22]
                clear hv22
                refine hK _ _ ?_
                clear hK K
                refine wpAny_ready (rs := [1]) (by kernel_rfl) (by simp) ?_
                refine (AllReady.cons rfl (fun K hK => ?_) AllReady.nil)
                go_simp
                refine (CT.out v22 (HGB.out v22 Ev22.out)).1.mono ?_
                rintro e vc ⟨rfl, hvc⟩
                have hvc' := hvc.symm
                clear hvc
                subst hvc'
                refine hK _ _ ?_
                clear hK K
                refine wpAny_ready (rs := [14]) (by kernel_rfl) (by simp) ?_
                refine (AllReady.cons rfl (fun K hK => ?_) AllReady.nil)
                go_simp
                rw [HTN.out]
                refine (HO3.out v22 (CT.out v22 (HGB.out v22 Ev22.out)).2 (HTB.out v22 Ev22.out)).mono ?_
                rintro e v23 ⟨rfl, bv23⟩
                have Ev23 : Hid (Below w.heap.size w v23) := Ev22.out.trans (bv23.mono Ev22.out.size)
                have Zv23 : Hid (v23.heap[v11.heap.size]? = some (.cells #[.int .u32 0, .int .u32 0, .int .u32 0, .int .u64 0] 25 (0, 0))) := (bv23.block _ (Array.getElem?_eq_some_iff.1 Zv22.out).1).trans Zv22.out
                clear bv23
                refine hK _ _ ?_
                clear hK K
                refine wpAny_take (i := 15) (v := ?_) rfl (by kernel_rfl) (by kernel_rfl) (by kernel_rfl) (fun _ _ _ h => h) (Or.inl ⟨by kernel_rfl, ?_⟩) ?_
                rotate_left
                · intro w
                  go_simp
                  try with_reducible rfl
                conv in (Act.put _ _ _) => simp only [List.getElem_toArray, List.getElem_cons_succ, List.getElem_cons_zero, Act.put, List.setIfInBounds_toArray, List.set_cons_succ, List.set_cons_zero]
                refine wpAny_take (i := 16) (v := ?_) rfl (by kernel_rfl) (by kernel_rfl) (by kernel_rfl) (fun _ _ _ h => h) (Or.inl ⟨by kernel_rfl, ?_⟩) ?_
                rotate_left
                · intro w
                  go_simp
                  try with_reducible rfl
                conv in (Act.put _ _ _) => simp only [List.getElem_toArray, List.getElem_cons_succ, List.getElem_cons_zero, Act.put, List.setIfInBounds_toArray, List.set_cons_succ, List.set_cons_zero]
                refine wpAny_take (i := 17) (v := ?_) rfl (by kernel_rfl) (by kernel_rfl) (by kernel_rfl) (fun _ _ _ h => h) (Or.inl ⟨by kernel_rfl, ?_⟩) ?_
                rotate_left
                · intro w
                  go_simp
                  try with_reducible rfl
                conv in (Act.put _ _ _) => simp only [List.getElem_toArray, List.getElem_cons_succ, List.getElem_cons_zero, Act.put, List.setIfInBounds_toArray, List.set_cons_succ, List.set_cons_zero]
                refine wpAny_take (i := 18) (v := ?_) rfl (by kernel_rfl) (by kernel_rfl) (by kernel_rfl) (fun _ _ _ h => h) (Or.inl ⟨by kernel_rfl, ?_⟩) ?_
                rotate_left
                · intro w
                  go_simp
                  try with_reducible rfl
                conv in (Act.put _ _ _) => simp only [List.getElem_toArray, List.getElem_cons_succ, List.getElem_cons_zero, Act.put, List.setIfInBounds_toArray, List.set_cons_succ, List.set_cons_zero]
                have zc := four_cells Zv23.out
                obtain ⟨zc0, zc1, zc2, zc3, zf0, zf1, zf2, zf3⟩ := zc
                refine wpAny_ready (rs := [20]) (by kernel_rfl) (by simp) ?_
                refine (AllReady.cons rfl (fun K hK => ?_) AllReady.nil)
                go_simp
                refine hK _ _ ?_
                clear hK K
                clear zc0 zc1 zc2 zc3 zf0 zf1 zf2 zf3
                refine wpAny_ready (rs := [21]) (by kernel_rfl) (by simp) ?_
                refine (AllReady.cons rfl (fun K hK => ?_) AllReady.nil)
                go_simp
                refine hK _ _ ?_
                clear hK K
                refine wpAny_ready (rs := [22]) (by kernel_rfl) (by simp) ?_
                refine (AllReady.cons rfl (fun K hK => ?_) AllReady.nil)
                go_simp
                refine hK _ _ ?_
                clear hK K
                refine wpAny_done (by kernel_rfl) ?_ _
                have Y := put_four Zv23.out (.int .u32 0) (.int .u32 0) (.int .u32 0) (.int .u64 0)
                obtain ⟨vf, hvf⟩ : ∃ vf, (((v23.setCell ⟨v11.heap.size, 0, none⟩ (.int .u32 0)).setCell ⟨v11.heap.size, 1, none⟩ (.int .u32 0)).setCell ⟨v11.heap.size, 2, none⟩ (.int .u32 0)).setCell ⟨v11.heap.size, 3, none⟩ (.int .u64 0) = vf := ⟨_, rfl⟩
                rw [hvf] at Y
                rw [hvf]
                clear hvf
                have BF : Hid (Below w.heap.size w vf) := Ev23.out.trans (Y.2.mono Ev11.out.size)
                obtain ⟨yc0, yc1, yc2, yc3, _, _, _, _⟩ := four_cells Y.1
                have heq := HEQ.out
                clear Y
                go_wp2_with fail
                go_ret
                exact ⟨rfl, BF.out⟩
            · go_simp
              obtain ⟨v24, hv24⟩ : ∃ v24, v11.alloc (.cells #[.int .u32 0, .int .u32 0, .int .u32 0, .int .u64 0] 25) = v24 := ⟨_, rfl⟩
              have bv24 : Below v11.heap.size v11 v24 := by rw [← hv24]; exact (Below.refl _ v11).alloc (Nat.le_refl _) _
              have Ev24 : Hid (Below w.heap.size w v24) := Ev11.out.trans (bv24.mono Ev11.out.size)
              have Xv24 : Hid (v24.heap[v0.heap.size]? = some (.cells #[.int .u8 x] 5 (0, 0))) := (bv24.block _ (Array.getElem?_eq_some_iff.1 Xv11.out).1).trans Xv11.out
              have Zv24 : Hid (v24.heap[v11.heap.size]? = some (.cells #[.int .u32 0, .int .u32 0, .int .u32 0, .int .u64 0] 25 (0, 0))) := by rw [← hv24]; exact heap_alloc_new v11 _
              rw [hv24]
              clear hv24
              refine hK _ _ ?_
              clear hK K
              refine wpAny_ready (rs := [1, 7]) (by kernel_rfl) (by simp) ?_
              refine (AllReady.cons rfl (fun K hK => ?_) (AllReady.cons rfl (fun K hK => ?_) AllReady.nil))
              · go_simp
                refine (CT.out v24 (HGB.out v24 Ev24.out)).1.mono ?_
                rintro e vc ⟨rfl, hvc⟩
                have hvc' := hvc.symm
                clear hvc
                subst hvc'
                refine hK _ _ ?_
                clear hK K
                refine wpAny_ready (rs := [7]) (by kernel_rfl) (by simp) ?_
                refine (AllReady.cons rfl (fun K hK => ?_) AllReady.nil)
                have cv := one_str v24 v0.heap.size x Xv24.out
                rw [HBC.out] at cv
                go_simp
                refine hK _ _ ?_
                clear hK K
                clear cv
                refine wpAny_take (i := 8) (v := ?_) rfl (by kernel_rfl) (by kernel_rfl) (by kernel_rfl) (fun _ _ _ h => h) (Or.inl ⟨by kernel_rfl, ?_⟩) ?_
                rotate_left
                · intro w
                  go_simp
                  try with_reducible rfl
                conv in (Act.put _ _ _) => simp only [List.getElem_toArray, List.getElem_cons_succ, List.getElem_cons_zero, Act.put, List.setIfInBounds_toArray, List.set_cons_succ, List.set_cons_zero]
                refine wpAny_take (i := 13) (v := ?_) rfl (by kernel_rfl) (by kernel_rfl) (by kernel_rfl) (fun _ _ _ h => h) (Or.inl ⟨by kernel_rfl, ?_⟩) ?_
                rotate_left
                · intro w
                  go_simp
                  try with_reducible rfl
                conv in (Act.put _ _ _) => simp only [List.getElem_toArray, List.getElem_cons_succ, List.getElem_cons_zero, Act.put, List.setIfInBounds_toArray, List.set_cons_succ, List.set_cons_zero]
                refine wpAny_ready (rs := [14]) (by kernel_rfl) (by simp) ?_
                refine (AllReady.cons rfl (fun K hK => ?_) AllReady.nil)
                go_simp
                rw [HTN.out]
                refine (HO3.out v24 (CT.out v24 (HGB.out v24 Ev24.out)).2 (HTB.out v24 Ev24.out)).mono ?_
                rintro e v25 ⟨rfl, bv25⟩
                have Ev25 : Hid (Below w.heap.size w v25) := Ev24.out.trans (bv25.mono Ev24.out.size)
                have Zv25 : Hid (v25.heap[v11.heap.size]? = some (.cells #[.int .u32 0, .int .u32 0, .int .u32 0, .int .u64 0] 25 (0, 0))) := (bv25.block _ (Array.getElem?_eq_some_iff.1 Zv24.out).1).trans Zv24.out
                clear bv25
                refine hK _ _ ?_
                clear hK K
                refine wpAny_take (i := 15) (v := ?_) rfl (by kernel_rfl) (by kernel_rfl) (by kernel_rfl) (fun _ _ _ h => h) (Or.inl ⟨by kernel_rfl, ?_⟩) ?_
                rotate_left
                · intro w
                  go_simp
                  try with_reducible rfl
                conv in (Act.put _ _ _) => simp only [List.getElem_toArray, List.getElem_cons_succ, List.getElem_cons_zero, Act.put, List.setIfInBounds_toArray, List.set_cons_succ, List.set_cons_zero]
                refine wpAny_take (i := 16) (v := ?_) rfl (by kernel_rfl) (by kernel_rfl) (by kernel_rfl) (fun _ _ _ h => h) (Or.inl ⟨by kernel_rfl, ?_⟩) ?_
                rotate_left
                · intro w
                  go_simp
                  try with_reducible rfl
                conv in (Act.put _ _ _) => simp only [List.getElem_toArray, List.getElem_cons_succ, List.getElem_cons_zero, Act.put, List.setIfInBounds_toArray, List.set_cons_succ, List.set_cons_zero]
                refine wpAny_take (i := 17) (v := ?_) rfl (by kernel_rfl) (by kernel_rfl) (by kernel_rfl) (fun _ _ _ h => h) (Or.inl ⟨by kernel_rfl, ?_⟩) ?_
                rotate_left
                · intro w
                  go_simp
                  try with_reducible rfl
                conv in (Act.put _ _ _) => simp only [List.getElem_toArray, List.getElem_cons_succ, List.getElem_cons_zero, Act.put, List.setIfInBounds_toArray, List.set_cons_succ, List.set_cons_zero]
                refine wpAny_take (i := 18) (v := ?_) rfl (by kernel_rfl) (by kernel_rfl) (by kernel_rfl) (fun _ _ _ h => h) (Or.inl ⟨by kernel_rfl, ?_⟩) ?_
                rotate_left
                · intro w
                  go_simp
                  try with_reducible rfl
                conv in (Act.put _ _ _) => simp only [List.getElem_toArray, List.getElem_cons_succ, List.getElem_cons_zero, Act.put, List.setIfInBounds_toArray, List.set_cons_succ, List.set_cons_zero]
                have zc := four_cells Zv25.out
                obtain ⟨zc0, zc1, zc2, zc3, zf0, zf1, zf2, zf3⟩ := zc
                refine wpAny_ready (rs := [20]) (by kernel_rfl) (by simp) ?_
                refine (AllReady.cons rfl (fun K hK => ?_) AllReady.nil)
                go_simp
                refine hK _ _ ?_
                clear hK K
                clear zc0 zc1 zc2 zc3 zf0 zf1 zf2 zf3
                refine wpAny_ready (rs := [21]) (by kernel_rfl) (by simp) ?_
                refine (AllReady.cons rfl (fun K hK => ?_) AllReady.nil)
                go_simp
                refine hK _ _ ?_
                clear hK K
                refine wpAny_ready (rs := [22]) (by kernel_rfl) (by simp) ?_
                refine (AllReady.cons rfl (fun K hK => ?_) AllReady.nil)
                go_simp
                refine hK _ _ ?_
                clear hK K
                refine wpAny_done (by kernel_rfl) ?_ _
                have Y := put_four Zv25.out (.int .u32 0) (.int .u32 0) (.int .u32 0) (.int .u64 0)
                obtain ⟨vf, hvf⟩ : ∃ vf, (((v25.setCell ⟨v11.heap.size, 0, none⟩ (.int .u32 0)).setCell ⟨v11.heap.size, 1, none⟩ (.int .u32 0)).setCell ⟨v11.heap.size, 2, none⟩ (.int .u32 0)).setCell ⟨v11.heap.size, 3, none⟩ (.int .u64 0) = vf := ⟨_, rfl⟩
                rw [hvf] at Y
                rw [hvf]
                clear hvf
                have BF : Hid (Below w.heap.size w vf) := Ev25.out.trans (Y.2.mono Ev11.out.size)
                obtain ⟨yc0, yc1, yc2, yc3, _, _, _, _⟩ := four_cells Y.1
                have heq := HEQ.out
                clear Y
                go_wp2_with fail
                go_ret
                exact ⟨rfl, BF.out⟩
              · have cv := one_str v24 v0.heap.size x Xv24.out
                rw [HBC.out] at cv
                go_simp
                refine hK _ _ ?_
                clear hK K
                clear cv
                refine wpAny_take (i := 8) (v := ?_) rfl (by kernel_rfl) (by kernel_rfl) (by kernel_rfl) (fun _ _ _ h => h) (Or.inl ⟨by kernel_rfl, ?_⟩) ?_
                rotate_left
                · intro w
                  go_simp
                  try with_reducible rfl
                conv in (Act.put _ _ _) => simp only [List.getElem_toArray, List.getElem_cons_succ, List.getElem_cons_zero, Act.put, List.setIfInBounds_toArray, List.set_cons_succ, List.set_cons_zero]
                refine wpAny_take (i := 13) (v := ?_) rfl (by kernel_rfl) (by kernel_rfl) (by kernel_rfl) (fun _ _ _ h => h) (Or.inl ⟨by kernel_rfl, ?_⟩) ?_
                rotate_left
                · intro w
                  go_simp
                  try with_reducible rfl
                conv in (Act.put _ _ _) => simp only [List.getElem_toArray, List.getElem_cons_succ, List.getElem_cons_zero, Act.put, List.setIfInBounds_toArray, List.set_cons_succ, List.set_cons_zero]
                refine wpAny_ready (rs := [1]) (by kernel_rfl) (by simp) ?_
                refine (AllReady.cons rfl (fun K hK => ?_) AllReady.nil)
                go_simp
                refine (CT.out v24 (HGB.out v24 Ev24.out)).1.mono ?_
                rintro e vc ⟨rfl, hvc⟩
                have hvc' := hvc.symm
                clear hvc
                subst hvc'
                refine hK _ _ ?_
                clear hK K
                refine wpAny_ready (rs := [14]) (by kernel_rfl) (by simp) ?_
                refine (AllReady.cons rfl (fun K hK => ?_) AllReady.nil)
                go_simp
                rw [HTN.out]
                refine (HO3.out v24 (CT.out v24 (HGB.out v24 Ev24.out)).2 (HTB.out v24 Ev24.out)).mono ?_
                rintro e v26 ⟨rfl, bv26⟩
                have Ev26 : Hid (Below w.heap.size w v26) := Ev24.out.trans (bv26.mono Ev24.out.size)
                have Zv26 : Hid (v26.heap[v11.heap.size]? = some (.cells #[.int .u32 0, .int .u32 0, .int .u32 0, .int .u64 0] 25 (0, 0))) := (bv26.block _ (Array.getElem?_eq_some_iff.1 Zv24.out).1).trans Zv24.out
                clear bv26
                refine hK _ _ ?_
                clear hK K
                refine wpAny_take (i := 15) (v := ?_) rfl (by kernel_rfl) (by kernel_rfl) (by kernel_rfl) (fun _ _ _ h => h) (Or.inl ⟨by kernel_rfl, ?_⟩) ?_
                rotate_left
                · intro w
                  go_simp
                  try with_reducible rfl
                conv in (Act.put _ _ _) => simp only [List.getElem_toArray, List.getElem_cons_succ, List.getElem_cons_zero, Act.put, List.setIfInBounds_toArray, List.set_cons_succ, List.set_cons_zero]
                refine wpAny_take (i := 16) (v := ?_) rfl (by kernel_rfl) (by kernel_rfl) (by kernel_rfl) (fun _ _ _ h => h) (Or.inl ⟨by kernel_rfl, ?_⟩) ?_
                rotate_left
                · intro w
                  go_simp
                  try with_reducible rfl
                conv in (Act.put _ _ _) => simp only [List.getElem_toArray, List.getElem_cons_succ, List.getElem_cons_zero, Act.put, List.setIfInBounds_toArray, List.set_cons_succ, List.set_cons_zero]
                refine wpAny_take (i := 17) (v := ?_) rfl (by kernel_rfl) (by kernel_rfl) (by kernel_rfl) (fun _ _ _ h => h) (Or.inl ⟨by kernel_rfl, ?_⟩) ?_
                rotate_left
                · intro w
                  go_simp
                  try with_reducible rfl
                conv in (Act.put _ _ _) => simp only [List.getElem_toArray, List.getElem_cons_succ, List.getElem_cons_zero, Act.put, List.setIfInBounds_toArray, List.set_cons_succ, List.set_cons_zero]
                refine wpAny_take (i := 18) (v := ?_) rfl (by kernel_rfl) (by kernel_rfl) (by kernel_rfl) (fun _ _ _ h => h) (Or.inl ⟨by kernel_rfl, ?_⟩) ?_
                rotate_left
                · intro w
                  go_simp
                  try with_reducible rfl
                conv in (Act.put _ _ _) => simp only [List.getElem_toArray, List.getElem_cons_succ, List.getElem_cons_zero, Act.put, List.setIfInBounds_toArray, List.set_cons_succ, List.set_cons_zero]
                have zc := four_cells Zv26.out
                obtain ⟨zc0, zc1, zc2, zc3, zf0, zf1, zf2, zf3⟩ := zc
                refine wpAny_ready (rs := [20]) (by kernel_rfl) (by simp) ?_
                refine (AllReady.cons rfl (fun K hK => ?_) AllReady.nil)
                go_simp
                refine hK _ _ ?_
                clear hK K
                clear zc0 zc1 zc2 zc3 zf0 zf1 zf2 zf3
                refine wpAny_ready (rs := [21]) (by kernel_rfl) (by simp) ?_
                refine (AllReady.cons rfl (fun K hK => ?_) AllReady.nil)
                go_simp
                refine hK _ _ ?_
                clear hK K
                refine wpAny_ready (rs := [22]) (by kernel_rfl) (by simp) ?_
                refine (AllReady.cons rfl (fun K hK => ?_) AllReady.nil)
                go_simp
                refine hK _ _ ?_
                clear hK K
                refine wpAny_done (by kernel_rfl) ?_ _
                have Y := put_four Zv26.out (.int .u32 0) (.int .u32 0) (.int .u32 0) (.int .u64 0)
                obtain ⟨vf, hvf⟩ : ∃ vf, (((v26.setCell ⟨v11.heap.size, 0, none⟩ (.int .u32 0)).setCell ⟨v11.heap.size, 1, none⟩ (.int .u32 0)).setCell ⟨v11.heap.size, 2, none⟩ (.int .u32 0)).setCell ⟨v11.heap.size, 3, none⟩ (.int .u64 0) = vf := ⟨_, rfl⟩
                rw [hvf] at Y
                rw [hvf]
                clear hvf
                have BF : Hid (Below w.heap.size w vf) := Ev26.out.trans (Y.2.mono Ev11.out.size)
                obtain ⟨yc0, yc1, yc2, yc3, _, _, _, _⟩ := four_cells Y.1
                have heq := HEQ.out
                clear Y
                go_wp2_with fail
                go_ret
                exact ⟨rfl, BF.out⟩
          · go_simp
            obtain ⟨v27, hv27⟩ : ∃ v27, v0.alloc (.cells #[.int .u32 0, .int .u32 0, .int .u32 0, .int .u64 0] 25) = v27 := ⟨_, rfl⟩
            have bv27 : Below v0.heap.size v0 v27 := by rw [← hv27]; exact (Below.refl _ v0).alloc (Nat.le_refl _) _
            have Ev27 : Hid (Below w.heap.size w v27) := Ev0.out.trans (bv27.mono Ev0.out.size)
            have Zv27 : Hid (v27.heap[v0.heap.size]? = some (.cells #[.int .u32 0, .int .u32 0, .int .u32 0, .int .u64 0] 25 (0, 0))) := by rw [← hv27]; exact heap_alloc_new v0 _
            rw [hv27]
            clear hv27
            refine hK _ _ ?_
            clear hK K
            refine wpAny_ready (rs := [1, 6]) (by kernel_rfl) (by simp) ?_
            refine (AllReady.cons rfl (fun K hK => ?_) (AllReady.cons rfl (fun K hK => ?_) AllReady.nil))
            · go_simp
              refine (CT.out v27 (HGB.out v27 Ev27.out)).1.mono ?_
              rintro e vc ⟨rfl, hvc⟩
              have hvc' := hvc.symm
              clear hvc
              subst hvc'
              refine hK _ _ ?_
              clear hK K
              refine wpAny_ready (rs := [6]) (by kernel_rfl) (by simp) ?_
              refine (AllReady.cons rfl (fun K hK => ?_) AllReady.nil)
              go_simp
              obtain ⟨v28, hv28⟩ : ∃ v28, v27.alloc (.cells #[.int .u8 x] 5) = v28 := ⟨_, rfl⟩
              have bv28 : Below v27.heap.size v27 v28 := by rw [← hv28]; exact (Below.refl _ v27).alloc (Nat.le_refl _) _
              have Ev28 : Hid (Below w.heap.size w v28) := Ev27.out.trans (bv28.mono Ev27.out.size)
              have Zv28 : Hid (v28.heap[v0.heap.size]? = some (.cells #[.int .u32 0, .int .u32 0, .int .u32 0, .int .u64 0] 25 (0, 0))) := (bv28.block _ (Array.getElem?_eq_some_iff.1 Zv27.out).1).trans Zv27.out
              have Xv28 : Hid (v28.heap[v27.heap.size]? = some (.cells #[.int .u8 x] 5 (0, 0))) := by rw [← hv28]; exact heap_alloc_new v27 _
              rw [hv28]
              clear hv28
              refine hK _ _ ?_
              clear hK K
              refine wpAny_ready (rs := [7]) (by kernel_rfl) (by simp) ?_
              refine (AllReady.cons rfl (fun K hK => ?_) AllReady.nil)
              have cv := one_str v28 v27.heap.size x Xv28.out
              rw [HBC.out] at cv
              go_simp
              refine hK _ _ ?_
              clear hK K
              clear cv
              refine wpAny_take (i := 8) (v := ?_) rfl (by kernel_rfl) (by kernel_rfl) (by kernel_rfl) (fun _ _ _ h => h) (Or.inl ⟨by kernel_rfl, ?_⟩) ?_
              rotate_left
              · intro w
                go_simp
                try with_reducible rfl
              conv in (Act.put _ _ _) => simp only [List.getElem_toArray, List.getElem_cons_succ, List.getElem_cons_zero, Act.put, List.setIfInBounds_toArray, List.set_cons_succ, List.set_cons_zero]
              refine wpAny_take (i := 13) (v := ?_) rfl (by kernel_rfl) (by kernel_rfl) (by kernel_rfl) (fun _ _ _ h => h) (Or.inl ⟨by kernel_rfl, ?_⟩) ?_
              rotate_left
              · intro w
                go_simp
                try with_reducible rfl
              conv in (Act.put _ _ _) => simp only [List.getElem_toArray, List.getElem_cons_succ, List.getElem_cons_zero, Act.put, List.setIfInBounds_toArray, List.set_cons_succ, List.set_cons_zero]
              refine wpAny_ready (rs := [14]) (by kernel_rfl) (by simp) ?_
              refine (AllReady.cons rfl (fun K hK => ?_) AllReady.nil)
              go_simp
              rw [HTN.out]
              refine (HO3.out v28 (CT.out v28 (HGB.out v28 Ev28.out)).2 (HTB.out v28 Ev28.out)).mono ?_
              rintro e v29 ⟨rfl, bv29⟩
              have Ev29 : Hid (Below w.heap.size w v29) := Ev28.out.trans (bv29.mono Ev28.out.size)
              have Zv29 : Hid (v29.heap[v0.heap.size]? = some (.cells #[.int .u32 0, .int .u32 0, .int .u32 0, .int .u64 0] 25 (0, 0))) := (bv29.block _ (Array.getElem?_eq_some_iff.1 Zv28.out).1).trans Zv28.out
              clear bv29
              refine hK _ _ ?_
              clear hK K
              refine wpAny_take (i := 15) (v := ?_) rfl (by kernel_rfl) (by kernel_rfl) (by kernel_rfl) (fun _ _ _ h => h) (Or.inl ⟨by kernel_rfl, ?_⟩) ?_
              rotate_left
              · intro w
                go_simp
                try with_reducible rfl
              conv in (Act.put _ _ _) => simp only [List.getElem_toArray, List.getElem_cons_succ, List.getElem_cons_zero, Act.put, List.setIfInBounds_toArray, List.set_cons_succ, List.set_cons_zero]
              refine wpAny_take (i := 16) (v := ?_) rfl (by kernel_rfl) (by kernel_rfl) (by kernel_rfl) (fun _ _ _ h => h) (Or.inl ⟨by kernel_rfl, ?_⟩) ?_
              rotate_left
              · intro w
                go_simp
                try with_reducible rfl
              conv in (Act.put _ _ _) => simp only [List.getElem_toArray, List.getElem_cons_succ, List.getElem_cons_zero, Act.put, List.setIfInBounds_toArray, List.set_cons_succ, List.set_cons_zero]
              refine wpAny_take (i := 17) (v := ?_) rfl (by kernel_rfl) (by kernel_rfl) (by kernel_rfl) (fun _ _ _ h => h) (Or.inl ⟨by kernel_rfl, ?_⟩) ?_
              rotate_left
              · intro w
                go_simp
                try with_reducible rfl
              conv in (Act.put _ _ _) => simp only [List.getElem_toArray, List.getElem_cons_succ, List.getElem_cons_zero, Act.put, List.setIfInBounds_toArray, List.set_cons_succ, List.set_cons_zero]
              refine wpAny_take (i := 18) (v := ?_) rfl (by kernel_rfl) (by kernel_rfl) (by kernel_rfl) (fun _ _ _ h => h) (Or.inl ⟨by kernel_rfl, ?_⟩) ?_
              rotate_left
              · intro w
                go_simp
                try with_reducible rfl
              conv in (Act.put _ _ _) => simp only [List.getElem_toArray, List.getElem_cons_succ, List.getElem_cons_zero, Act.put, List.setIfInBounds_toArray, List.set_cons_succ, List.set_cons_zero]
              have zc := four_cells Zv29.out
              obtain ⟨zc0, zc1, zc2, zc3, zf0, zf1, zf2, zf3⟩ := zc
              refine wpAny_ready (rs := [20]) (by kernel_rfl) (by simp) ?_
              refine (AllReady.cons rfl (fun K hK => ?_) AllReady.nil)
              go_simp
              refine hK _ _ ?_
              clear hK K
              clear zc0 zc1 zc2 zc3 zf0 zf1 zf2 zf3
              refine wpAny_ready (rs := [21]) (by kernel_rfl) (by simp) ?_
              refine (AllReady.cons rfl (fun K hK => ?_) AllReady.nil)
              go_simp
              refine hK _ _ ?_
              clear hK K
              refine wpAny_ready (rs := [22]) (by kernel_rfl) (by simp) ?_
              refine (AllReady.cons rfl (fun K hK => ?_) AllReady.nil)
              go_simp
              refine hK _ _ ?_
              clear hK K
              refine wpAny_done (by kernel_rfl) ?_ _
              have Y := put_four Zv29.out (.int .u32 0) (.int .u32 0) (.int .u32 0) (.int .u64 0)
              obtain ⟨vf, hvf⟩ : ∃ vf, (((v29.setCell ⟨v0.heap.size, 0, none⟩ (.int .u32 0)).setCell ⟨v0.heap.size, 1, none⟩ (.int .u32 0)).setCell ⟨v0.heap.size, 2, none⟩ (.int .u32 0)).setCell ⟨v0.heap.size, 3, none⟩ (.int .u64 0) = vf := ⟨_, rfl⟩
              rw [hvf] at Y
              rw [hvf]
              clear hvf
              have BF : Hid (Below w.heap.size w vf) := Ev29.out.trans (Y.2.mono Ev0.out.size)
              obtain ⟨yc0, yc1, yc2, yc3, _, _, _, _⟩ := four_cells Y.1
              have heq := HEQ.out
              clear Y
              go_wp2_with fail
              go_ret
              exact ⟨rfl, BF.out⟩
            · go_simp
              obtain ⟨v30, hv30⟩ : ∃ v30, v27.alloc (.cells #[.int .u8 x] 5) = v30 := ⟨_, rfl⟩
              have bv30 : Below v27.heap.size v27 v30 := by rw [← hv30]; exact (Below.refl _ v27).alloc (Nat.le_refl _) _
              have Ev30 : Hid (Below w.heap.size w v30) := Ev27.out.trans (bv30.mono Ev27.out.size)
              have Zv30 : Hid (v30.heap[v0.heap.size]? = some (.cells #[.int .u32 0, .int .u32 0, .int .u32 0, .int .u64 0] 25 (0, 0))) := (bv30.block _ (Array.getElem?_eq_some_iff.1 Zv27.out).1).trans Zv27.out
              have Xv30 : Hid (v30.heap[v27.heap.size]? = some (.cells #[.int .u8 x] 5 (0, 0))) := by rw [← hv30]; exact heap_alloc_new v27 _
              rw [hv30]
              clear hv30
              refine hK _ _ ?_
              clear hK K
              refine wpAny_ready (rs := [1, 7]) (by kernel_rfl) (by simp) ?_
              refine (AllReady.cons rfl (fun K hK => ?_) (AllReady.cons rfl (fun K hK => ?_) AllReady.nil))
              · go_simp
                refine (CT.out v30 (HGB.out v30 Ev30.out)).1.mono ?_
                rintro e vc ⟨rfl, hvc⟩
                have hvc' := hvc.symm
                clear hvc
                subst hvc'
                refine hK _ _ ?_
                clear hK K
                refine wpAny_ready (rs := [7]) (by kernel_rfl) (by simp) ?_
                refine (AllReady.cons rfl (fun K hK => ?_) AllReady.nil)
                have cv := one_str v30 v27.heap.size x Xv30.out
                rw [HBC.out] at cv
                go_simp
                refine hK _ _ ?_
                clear hK K
                clear cv
                refine wpAny_take (i := 8) (v := ?_) rfl (by kernel_rfl) (by kernel_rfl) (by kernel_rfl) (fun _ _ _ h => h) (Or.inl ⟨by kernel_rfl, ?_⟩) ?_
                rotate_left
                · intro w
                  go_simp
                  try with_reducible rfl
                conv in (Act.put _ _ _) => simp only [List.getElem_toArray, List.getElem_cons_succ, List.getElem_cons_zero, Act.put, List.setIfInBounds_toArray, List.set_cons_succ, List.set_cons_zero]
                refine wpAny_take (i := 13) (v := ?_) rfl (by kernel_rfl) (by kernel_rfl) (by kernel_rfl) (fun _ _ _ h => h) (Or.inl ⟨by kernel_rfl, ?_⟩) ?_
                rotate_left
                · intro w
                  go_simp
                  try with_reducible rfl
                conv in (Act.put _ _ _) => simp only [List.getElem_toArray, List.getElem_cons_succ, List.getElem_cons_zero, Act.put, List.setIfInBounds_toArray, List.set_cons_succ, List.set_cons_zero]
                refine wpAny_ready (rs := [14]) (by kernel_rfl) (by simp) ?_
                refine (AllReady.cons rfl (fun K hK => ?_) AllReady.nil)
                go_simp
                rw [HTN.out]
                refine (HO3.out v30 (CT.out v30 (HGB.out v30 Ev30.out)).2 (HTB.out v30 Ev30.out)).mono ?_
                rintro e v31 ⟨rfl, bv31⟩
                have Ev31 : Hid (Below w.heap.size w v31) := Ev30.out.trans (bv31.mono Ev30.out.size)
                have Zv31 : Hid (v31.heap[v0.heap.size]? = some (.cells #[.int .u32 0, .int .u32 0, .int .u32 0, .int .u64 0] 25 (0, 0))) := (bv31.block _ (Array.getElem?_eq_some_iff.1 Zv30.out).1).trans Zv30.out
                clear bv31
                refine hK _ _ ?_
                clear hK K
                refine wpAny_take (i := 15) (v := ?_) rfl (by kernel_rfl) (by kernel_rfl) (by kernel_rfl) (fun _ _ _ h => h) (Or.inl ⟨by kernel_rfl, ?_⟩) ?_
                rotate_left
                · intro w
                  go_simp
                  try with_reducible rfl
                conv in (Act.put _ _ _) => simp only [List.getElem_toArray, List.getElem_cons_succ, List.getElem_cons_zero, Act.put, List.setIfInBounds_toArray, List.set_cons_succ, List.set_cons_zero]
                refine wpAny_take (i := 16) (v := ?_) rfl (by kernel_rfl) (by kernel_rfl) (by kernel_rfl) (fun _ _ _ h => h) (Or.inl ⟨by kernel_rfl, ?_⟩) ?_
                rotate_left
                · intro w
                  go_simp
                  try with_reducible rfl
                conv in (Act.put _ _ _) => simp only [List.getElem_toArray, List.getElem_cons_succ, List.getElem_cons_zero, Act.put, List.setIfInBounds_toArray, List.set_cons_succ, List.set_cons_zero]
                refine wpAny_take (i := 17) (v := ?_) rfl (by kernel_rfl) (by kernel_rfl) (by kernel_rfl) (fun _ _ _ h => h) (Or.inl ⟨by kernel_rfl, ?_⟩) ?_
                rotate_left
                · intro w
                  go_simp
                  try with_reducible rfl
                conv in (Act.put _ _ _) => simp only [List.getElem_toArray, List.getElem_cons_succ, List.getElem_cons_zero, Act.put, List.setIfInBounds_toArray, List.set_cons_succ, List.set_cons_zero]
                refine wpAny_take (i := 18) (v := ?_) rfl (by kernel_rfl) (by kernel_rfl) (by kernel_rfl) (fun _ _ _ h => h) (Or.inl ⟨by kernel_rfl, ?_⟩) ?_
                rotate_left
                · intro w
                  go_simp
                  try with_reducible rfl
                conv in (Act.put _ _ _) => simp only [List.getElem_toArray, List.getElem_cons_succ, List.getElem_cons_zero, Act.put, List.setIfInBounds_toArray, List.set_cons_succ, List.set_cons_zero]
                have zc := four_cells Zv31.out
                obtain ⟨zc0, zc1, zc2, zc3, zf0, zf1, zf2, zf3⟩ := zc
                refine wpAny_ready (rs := [20]) (by kernel_rfl) (by simp) ?_
                refine (AllReady.cons rfl (fun K hK => ?_) AllReady.nil)
                go_simp
                refine hK _ _ ?_
                clear hK K
                clear zc0 zc1 zc2 zc3 zf0 zf1 zf2 zf3
                refine wpAny_ready (rs := [21]) (by kernel_rfl) (by simp) ?_
                refine (AllReady.cons rfl (fun K hK => ?_) AllReady.nil)
                go_simp
                refine hK _ _ ?_
                clear hK K
                refine wpAny_ready (rs := [22]) (by kernel_rfl) (by simp) ?_
                refine (AllReady.cons rfl (fun K hK => ?_) AllReady.nil)
                go_simp
                refine hK _ _ ?_
                clear hK K
                refine wpAny_done (by kernel_rfl) ?_ _
                have Y := put_four Zv31.out (.int .u32 0) (.int .u32 0) (.int .u32 0) (.int .u64 0)
                obtain ⟨vf, hvf⟩ : ∃ vf, (((v31.setCell ⟨v0.heap.size, 0, none⟩ (.int .u32 0)).setCell ⟨v0.heap.size, 1, none⟩ (.int .u32 0)).setCell ⟨v0.heap.size, 2, none⟩ (.int .u32 0)).setCell ⟨v0.heap.size, 3, none⟩ (.int .u64 0) = vf := ⟨_, rfl⟩
                rw [hvf] at Y
                rw [hvf]
                clear hvf
                have BF : Hid (Below w.heap.size w vf) := Ev31.out.trans (Y.2.mono Ev0.out.size)
                obtain ⟨yc0, yc1, yc2, yc3, _, _, _, _⟩ := four_cells Y.1
                have heq := HEQ.out
                clear Y
                go_wp2_with fail
                go_ret
                exact ⟨rfl, BF.out⟩
              · have cv := one_str v30 v27.heap.size x Xv30.out
                rw [HBC.out] at cv
                go_simp
                refine hK _ _ ?_
                clear hK K
                clear cv
                refine wpAny_take (i := 8) (v := ?_) rfl (by kernel_rfl) (by kernel_rfl) (by kernel_rfl) (fun _ _ _ h => h) (Or.inl ⟨by kernel_rfl, ?_⟩) ?_
                rotate_left
                · intro w
                  go_simp
                  try with_reducible rfl
                conv in (Act.put _ _ _) => simp only [List.getElem_toArray, List.getElem_cons_succ, List.getElem_cons_zero, Act.put, List.setIfInBounds_toArray, List.set_cons_succ, List.set_cons_zero]
                refine wpAny_take (i := 13) (v := ?_) rfl (by kernel_rfl) (by kernel_rfl) (by kernel_rfl) (fun _ _ _ h => h) (Or.inl ⟨by kernel_rfl, ?_⟩) ?_
                rotate_left
                · intro w
                  go_simp
                  try with_reducible rfl
                conv in (Act.put _ _ _) => simp only [List.getElem_toArray, List.getElem_cons_succ, List.getElem_cons_zero, Act.put, List.setIfInBounds_toArray, List.set_cons_succ, List.set_cons_zero]
                refine wpAny_ready (rs := [1]) (by kernel_rfl) (by simp) ?_
                refine (AllReady.cons rfl (fun K hK => ?_) AllReady.nil)
                go_simp
                refine (CT.out v30 (HGB.out v30 Ev30.out)).1.mono ?_
                rintro e vc ⟨rfl, hvc⟩
                have hvc' := hvc.symm
                clear hvc
                subst hvc'
                refine hK _ _ ?_
                clear hK K
                refine wpAny_ready (rs := [14]) (by kernel_rfl) (by simp) ?_
                refine (AllReady.cons rfl (fun K hK => ?_) AllReady.nil)
                go_simp
                rw [HTN.out]
                refine (HO3.out v30 (CT.out v30 (HGB.out v30 Ev30.out)).2 (HTB.out v30 Ev30.out)).mono ?_
                rintro e v32 ⟨rfl, bv32⟩
                have Ev32 : Hid (Below w.heap.size w v32) := Ev30.out.trans (bv32.mono Ev30.out.size)
                have Zv32 : Hid (v32.heap[v0.heap.size]? = some (.cells #[.int .u32 0, .int .u32 0, .int .u32 0, .int .u64 0] 25 (0, 0))) := (bv32.block _ (Array.getElem?_eq_some_iff.1 Zv30.out).1).trans Zv30.out
                clear bv32
                refine hK _ _ ?_
                clear hK K
                refine wpAny_take (i := 15) (v := ?_) rfl (by kernel_rfl) (by kernel_rfl) (by kernel_rfl) (fun _ _ _ h => h) (Or.inl ⟨by kernel_rfl, ?_⟩) ?_
                rotate_left
                · intro w
                  go_simp
                  try with_reducible rfl
                conv in (Act.put _ _ _) => simp only [List.getElem_toArray, List.getElem_cons_succ, List.getElem_cons_zero, Act.put, List.setIfInBounds_toArray, List.set_cons_succ, List.set_cons_zero]
                refine wpAny_take (i := 16) (v := ?_) rfl (by kernel_rfl) (by kernel_rfl) (by kernel_rfl) (fun _ _ _ h => h) (Or.inl ⟨by kernel_rfl, ?_⟩) ?_
                rotate_left
                · intro w
                  go_simp
                  try with_reducible rfl
                conv in (Act.put _ _ _) => simp only [List.getElem_toArray, List.getElem_cons_succ, List.getElem_cons_zero, Act.put, List.setIfInBounds_toArray, List.set_cons_succ, List.set_cons_zero]
                refine wpAny_take (i := 17) (v := ?_) rfl (by kernel_rfl) (by kernel_rfl) (by kernel_rfl) (fun _ _ _ h => h) (Or.inl ⟨by kernel_rfl, ?_⟩) ?_
                rotate_left
                · intro w
                  go_simp
                  try with_reducible rfl
                conv in (Act.put _ _ _) => simp only [List.getElem_toArray, List.getElem_cons_succ, List.getElem_cons_zero, Act.put, List.setIfInBounds_toArray, List.set_cons_succ, List.set_cons_zero]
                refine wpAny_take (i := 18) (v := ?_) rfl (by kernel_rfl) (by kernel_rfl) (by kernel_rfl) (fun _ _ _ h => h) (Or.inl ⟨by kernel_rfl, ?_⟩) ?_
                rotate_left
                · intro w
                  go_simp
                  try with_reducible rfl
                conv in (Act.put _ _ _) => simp only [List.getElem_toArray, List.getElem_cons_succ, List.getElem_cons_zero, Act.put, List.setIfInBounds_toArray, List.set_cons_succ, List.set_cons_zero]
                have zc := four_cells Zv32.out
                obtain ⟨zc0, zc1, zc2, zc3, zf0, zf1, zf2, zf3⟩ := zc
                refine wpAny_ready (rs := [20]) (by kernel_rfl) (by simp) ?_
                refine (AllReady.cons rfl (fun K hK => ?_) AllReady.nil)
                go_simp
                refine hK _ _ ?_
                clear hK K
                clear zc0 zc1 zc2 zc3 zf0 zf1 zf2 zf3
                refine wpAny_ready (rs := [21]) (by kernel_rfl) (by simp) ?_
                refine (AllReady.cons rfl (fun K hK => ?_) AllReady.nil)
                go_simp
                refine hK _ _ ?_
                clear hK K
                refine wpAny_ready (rs := [22]) (by kernel_rfl) (by simp) ?_
                refine (AllReady.cons rfl (fun K hK => ?_) AllReady.nil)
                go_simp
                refine hK _ _ ?_
                clear hK K
                refine wpAny_done (by kernel_rfl) ?_ _
                have Y := put_four Zv32.out (.int .u32 0) (.int .u32 0) (.int .u32 0) (.int .u64 0)
                obtain ⟨vf, hvf⟩ : ∃ vf, (((v32.setCell ⟨v0.heap.size, 0, none⟩ (.int .u32 0)).setCell ⟨v0.heap.size, 1, none⟩ (.int .u32 0)).setCell ⟨v0.heap.size, 2, none⟩ (.int .u32 0)).setCell ⟨v0.heap.size, 3, none⟩ (.int .u64 0) = vf := ⟨_, rfl⟩
                rw [hvf] at Y
                rw [hvf]
                clear hvf
                have BF : Hid (Below w.heap.size w vf) := Ev32.out.trans (Y.2.mono Ev0.out.size)
                obtain ⟨yc0, yc1, yc2, yc3, _, _, _, _⟩ := four_cells Y.1
                have heq := HEQ.out
                clear Y
                go_wp2_with fail
                go_ret
                exact ⟨rfl, BF.out⟩
end Go.Proofs.YtaoadopnhphjbaaDoor.Rs
