/- A head's bytes: Put. -/
import Derived.Test.YtaoadopnhphjbaaDoorPWC
import Derived.Test.YtaoadopnhphjbaaDoorQs
import Derived.OrdersHeld
namespace Go.Proofs.YtaoadopnhphjbaaDoor.Rs
open Go.RowKit Go.Lib
set_option maxRecDepth 100000 in
theorem cells5 : Tryd.prog.cellsOf 5 = 1 := by kernel_rfl
set_option maxRecDepth 100000 in
set_option maxHeartbeats 1000000 in
theorem string_any (B b : Nat) (xs : List Int) (w : World) (h : Wr B b (xs.map (Value.int .u8)) w) (hx : ∀ x ∈ xs, 0 ≤ x ∧ x < 256) (h0 : xs ≠ []) (hl : xs.length ≤ 1000) :
    Calls Tryd.prog 25 #[.pointer (some ⟨b, 0, none⟩)] w fun e w' => e = .returned (.string (strOfNums xs)) ∧ Below B w w' := by
  obtain ⟨p, hB, v, hbk, hown, hne⟩ : ∃ p, BuilderAt 52 5 B b p (xs.map (Value.int .u8)) w := h.elim (fun h => ⟨_, h⟩) (fun h => ⟨_, h⟩)
  have hn0 : xs.length ≠ 0 := by simpa using h0
  rw [List.length_map] at hown
  obtain ⟨g, cap, cur, rfl, hbg, hg, hnc, hcm, hcs, htk⟩ : ∃ g cap cur, v = .slice (some ⟨g, 0, none⟩) xs.length cap ∧ B ≤ g ∧ w.heap[g]? = some (.cells cur 5 (0, 0)) ∧ xs.length ≤ cap ∧ cap ≤ maxLen ∧ cur.size = cap * 1 ∧ cur.toList.take (xs.length * 1) = xs.map (Value.int .u8) := by
    rcases hown.2 with ⟨_, hz⟩ | ⟨g, cap, cur, hv, r⟩
    · exact absurd hz hn0
    · exact ⟨g, cap, cur, hv, r⟩
  have hgl : g < w.heap.size := (Array.getElem?_eq_some_iff.1 hg).1
  obtain ⟨l, hl8⟩ : ∃ l : List UInt8, l = xs.map fun x => UInt8.ofNat x.toNat := ⟨_, rfl⟩
  have hll : l.length = xs.length := by rw [hl8, List.length_map]
  have hstr : strOfNums xs = ⟨l.toArray⟩ := by rw [hl8]; rfl
  have HUS : Hid (∀ V : World, V.heap = w.heap → (Builtin.unsafeString_ #[75, 3] 9 #[.pointer (some ⟨g, 0, none⟩), .int .i64 (xs.length : Int)]).run Tryd.prog V = .ok (.string (strOfNums xs)) (V.freeze ⟨g, 0, none⟩ xs.length)) := fun V hV => by
    have hg' : V.heap[g]? = some (.cells cur 5 (0, 0)) := by rw [hV]; exact hg
    rw [hstr, ← hll]
    refine run_unsafeString_row V _ _ _ 5 Tryd.underlying75 cells5 g cur.size (by simp [World.shape?, hg']) l (by intro e; rw [e] at hll; exact hn0 hll.symm) (by omega) (by omega) ?_
    intro j x hj
    have hj' : j < xs.length := by have := (List.getElem?_eq_some_iff.1 hj).1; omega
    have e1 : x = UInt8.ofNat (xs[j].toNat) := by rw [hl8, List.getElem?_map, List.getElem?_eq_getElem hj'] at hj; simpa using hj.symm
    have e2 : ((x.toNat : Nat) : Int) = xs[j] := by
      have := hx _ (List.getElem_mem hj')
      rw [e1, UInt8.toNat_ofNat']
      omega
    rw [e2, Addr.add_lit, Nat.zero_add, cell_of_heap hg']
    have e3 : (cur.toList.take (xs.length * 1))[j]? = some (.int .u8 xs[j]) := by rw [htk, List.getElem?_map, List.getElem?_eq_getElem hj']; rfl
    rw [List.getElem?_take, if_pos (by omega)] at e3
    simpa using e3
  have c1 : w.cell? ⟨b, 1, none⟩ = some (.slice (some ⟨g, 0, none⟩) xs.length cap) := by rw [cell_of_heap hbk]; rfl
  have HSD : Hid (∀ V : World, (Builtin.unsafeSliceData_ #[41] 75 #[.slice (some ⟨g, 0, none⟩) xs.length cap]).run Tryd.prog V = .ok (.pointer (some ⟨g, 0, none⟩)) V) := fun V =>
    run_unsafeSliceData_row V _ _ _ _ _ (by omega)
  go_enter Tryd.func25, Tryd.ntmps25
  go_wp2_with fail
  refine wp_region_held (S := fun w' => w'.cell? ⟨b, 1, none⟩ = some (.slice (some ⟨g, 0, none⟩) xs.length cap) ∧ ∀ V : World, (Builtin.unsafeSliceData_ #[41] 75 #[.slice (some ⟨g, 0, none⟩) xs.length cap]).run Tryd.prog V = .ok (.pointer (some ⟨g, 0, none⟩)) V) (by kernel_rfl) ?_
  change wpAnyH _ _ _ _ _ _ _ _ (World.drew _)
  have HSW : Hid (w.drew.cell? ⟨b, 1, none⟩ = some (.slice (some ⟨g, 0, none⟩) xs.length cap) ∧ ∀ V : World, (Builtin.unsafeSliceData_ #[41] 75 #[.slice (some ⟨g, 0, none⟩) xs.length cap]).run Tryd.prog V = .ok (.pointer (some ⟨g, 0, none⟩)) V) := ⟨c1, HSD.out⟩
  refine wpAnyH_take (i := 0) (v := ?_) rfl (by kernel_rfl) (by kernel_rfl) (by kernel_rfl) (fun _ _ _ h => h) (Or.inl ⟨by kernel_rfl, ?_⟩) HSW.out ?_
  rotate_left
  · intro w hS
    obtain ⟨e1, e2⟩ := hS
    go_simp
    try with_reducible rfl
  conv in (Act.put _ _ _) => simp only [List.getElem_toArray, List.getElem_cons_succ, List.getElem_cons_zero, Act.put, List.setIfInBounds_toArray, List.set_cons_succ, List.set_cons_zero]
  refine wpAnyH_take (i := 1) (v := ?_) rfl (by kernel_rfl) (by kernel_rfl) (by kernel_rfl) (fun _ _ _ h => h) (Or.inl ⟨by kernel_rfl, ?_⟩) HSW.out ?_
  rotate_left
  · intro w hS
    obtain ⟨e1, e2⟩ := hS
    go_simp
    try with_reducible rfl
  conv in (Act.put _ _ _) => simp only [List.getElem_toArray, List.getElem_cons_succ, List.getElem_cons_zero, Act.put, List.setIfInBounds_toArray, List.set_cons_succ, List.set_cons_zero]
  refine wpAnyH_take (i := 2) (v := ?_) rfl (by kernel_rfl) (by kernel_rfl) (by kernel_rfl) (fun _ _ _ h => h) (Or.inl ⟨by kernel_rfl, ?_⟩) HSW.out ?_
  rotate_left
  · intro w hS
    obtain ⟨e1, e2⟩ := hS
    go_simp
    try with_reducible rfl
  conv in (Act.put _ _ _) => simp only [List.getElem_toArray, List.getElem_cons_succ, List.getElem_cons_zero, Act.put, List.setIfInBounds_toArray, List.set_cons_succ, List.set_cons_zero]
  refine wpAnyH_take (i := 3) (v := ?_) rfl (by kernel_rfl) (by kernel_rfl) (by kernel_rfl) (fun _ _ _ h => h) (Or.inl ⟨by kernel_rfl, ?_⟩) HSW.out ?_
  rotate_left
  · intro w hS
    obtain ⟨e1, e2⟩ := hS
    go_simp
    try with_reducible rfl
  conv in (Act.put _ _ _) => simp only [List.getElem_toArray, List.getElem_cons_succ, List.getElem_cons_zero, Act.put, List.setIfInBounds_toArray, List.set_cons_succ, List.set_cons_zero]
  refine wpAnyH_take (i := 4) (v := ?_) rfl (by kernel_rfl) (by kernel_rfl) (by kernel_rfl) (fun _ _ _ h => h) (Or.inl ⟨by kernel_rfl, ?_⟩) HSW.out ?_
  rotate_left
  · intro w hS
    obtain ⟨e1, e2⟩ := hS
    go_simp
    try with_reducible rfl
  conv in (Act.put _ _ _) => simp only [List.getElem_toArray, List.getElem_cons_succ, List.getElem_cons_zero, Act.put, List.setIfInBounds_toArray, List.set_cons_succ, List.set_cons_zero]
  refine wpAnyH_take (i := 5) (v := ?_) rfl (by kernel_rfl) (by kernel_rfl) (by kernel_rfl) (fun _ _ _ h => h) (Or.inl ⟨by kernel_rfl, ?_⟩) HSW.out ?_
  rotate_left
  · intro w hS
    obtain ⟨e1, e2⟩ := hS
    go_simp
    try with_reducible rfl
  conv in (Act.put _ _ _) => simp only [List.getElem_toArray, List.getElem_cons_succ, List.getElem_cons_zero, Act.put, List.setIfInBounds_toArray, List.set_cons_succ, List.set_cons_zero]
  refine wpAnyH_take (i := 6) (v := ?_) rfl (by kernel_rfl) (by kernel_rfl) (by kernel_rfl) (fun _ _ _ h => h) (Or.inl ⟨by kernel_rfl, ?_⟩) HSW.out ?_
  rotate_left
  · intro w hS
    obtain ⟨e1, e2⟩ := hS
    go_simp
    try with_reducible rfl
  conv in (Act.put _ _ _) => simp only [List.getElem_toArray, List.getElem_cons_succ, List.getElem_cons_zero, Act.put, List.setIfInBounds_toArray, List.set_cons_succ, List.set_cons_zero]
  refine wpAnyH_take (i := 7) (v := ?_) rfl (by kernel_rfl) (by kernel_rfl) (by kernel_rfl) (fun _ _ _ h => h) (Or.inl ⟨by kernel_rfl, ?_⟩) HSW.out ?_
  rotate_left
  · intro w hS
    obtain ⟨e1, e2⟩ := hS
    go_simp
    try with_reducible rfl
  conv in (Act.put _ _ _) => simp only [List.getElem_toArray, List.getElem_cons_succ, List.getElem_cons_zero, Act.put, List.setIfInBounds_toArray, List.set_cons_succ, List.set_cons_zero]
  refine wpAnyH_take (i := 8) (v := ?_) rfl (by kernel_rfl) (by kernel_rfl) (by kernel_rfl) (fun _ _ _ h => h) (Or.inl ⟨by kernel_rfl, ?_⟩) HSW.out ?_
  rotate_left
  · intro w hS
    obtain ⟨e1, e2⟩ := hS
    go_simp
    try with_reducible rfl
  conv in (Act.put _ _ _) => simp only [List.getElem_toArray, List.getElem_cons_succ, List.getElem_cons_zero, Act.put, List.setIfInBounds_toArray, List.set_cons_succ, List.set_cons_zero]
  refine wpAnyH_take (i := 9) (v := ?_) rfl (by kernel_rfl) (by kernel_rfl) (by kernel_rfl) (fun _ _ _ h => h) (Or.inl ⟨by kernel_rfl, ?_⟩) HSW.out ?_
  rotate_left
  · intro w hS
    obtain ⟨e1, e2⟩ := hS
    go_simp
    try with_reducible rfl
  conv in (Act.put _ _ _) => simp only [List.getElem_toArray, List.getElem_cons_succ, List.getElem_cons_zero, Act.put, List.setIfInBounds_toArray, List.set_cons_succ, List.set_cons_zero]
  have hus := HUS.out w.drew rfl
  have hfz := ((OthersKept.refl 5 none w.drew).freeze ⟨g, 0, none⟩ xs.length ⟨_, _, hg⟩) b _ hbk (by simp) (fun c fz e => by cases e)
  have FZ : Hid ((w.drew.freeze ⟨g, 0, none⟩ xs.length).cell? ⟨b, 1, none⟩ = some (.slice (some ⟨g, 0, none⟩) xs.length cap)) := by rw [cell_of_heap hfz]; rfl
  clear hfz
  refine readyH 10 _ (by kernel_rfl) rfl (by kernel_rfl) (fun K hK => ?_)
  go_simp
  refine hK _ _ ⟨FZ.out, HSD.out⟩ ?_
  clear hK K hus HSW
  refine readyH 11 _ (by kernel_rfl) rfl (by kernel_rfl) (fun K hK => ?_)
  go_simp
  refine hK _ _ ⟨FZ.out, HSD.out⟩ ?_
  clear hK K
  refine wpAnyH_done (by kernel_rfl) ?_ _
  go_wp2_with fail
  go_ret
  exact ⟨rfl, below_freeze (Below.refl B w).drew (p := ⟨g, 0, none⟩) hbg _⟩
set_option maxRecDepth 100000 in
/-- The bytes of a number, more of them. -/
theorem number_any (B b : Nat) (xs : List Int) (n : Int) (n0 : 0 ≤ n) (size : Nat) (hsz : size ≤ 100) (w : World) (h : Wr B b (xs.map (Value.int .u8)) w) (hlen : xs.length ≤ 100) (hBw : B ≤ w.heap.size) :
    Calls Tryd.prog 24 #[.pointer (some ⟨b, 0, none⟩), .int .u64 n, .int .i64 (size : Int)] w fun e w' => e = .returned (.tuple #[]) ∧ Wr B b ((xs ++ Rp.upto (le n) size).map (Value.int .u8)) w' ∧ Below B w w' := by
  refine (callsIn_wide.1 (number_in B b _ n n0 size hsz w h (by simpa using hlen) hBw)).mono ?_
  rintro e w' ⟨rfl, h1, h2, _⟩
  exact ⟨rfl, by rw [List.map_append]; exact h1, h2⟩
set_option maxRecDepth 100000 in
theorem put_list (h : Hd) : Rp.upto (le h.1) 4 ++ Rp.upto (le h.2.1) 4 ++ Rp.upto (le h.2.2.1) 4 ++ Rp.upto (le h.2.2.2) 8 ++ Rp.upto (le 0) 4 = Rp.upto (putN h) 24 := by
  have z : ∀ i, le 0 i = 0 := fun i => by unfold le; simp
  simp [Rp.upto, List.range_succ, putN, z]
set_option maxRecDepth 100000 in
theorem upto_range (f : Nat → Int) (n : Nat) (h : ∀ i, 0 ≤ f i ∧ f i < 256) : ∀ x ∈ Rp.upto f n, 0 ≤ x ∧ x < 256 := by
  intro x hx
  unfold Rp.upto at hx
  obtain ⟨i, _, rfl⟩ := List.mem_map.1 hx
  exact h i
set_option maxRecDepth 100000 in
set_option maxHeartbeats 2000000 in
theorem put_any (h : Hd) (hf : fits h) (w : World) :
    Calls Tryd.prog 13 #[hv h] w fun e w' => e = .returned (.string (putS h)) ∧ Below w.heap.size w w' := by
  have HL : Hid (Rp.upto (le h.1) 4 ++ Rp.upto (le h.2.1) 4 ++ Rp.upto (le h.2.2.1) 4 ++ Rp.upto (le h.2.2.2) 8 ++ Rp.upto (le 0) 4 = Rp.upto (putN h) 24) := put_list h
  have HP : Hid (putS h = strOfNums (Rp.upto (putN h) 24)) := rfl
  have HR : Hid (∀ x ∈ Rp.upto (putN h) 24, 0 ≤ x ∧ x < 256) := upto_range _ _ (putN_range h)
  obtain ⟨l24, hl24⟩ : ∃ l, Rp.upto (putN h) 24 = l := ⟨_, rfl⟩
  have HN : Hid (l24.length = 24) := by refine (?_ : l24.length = 24); rw [← hl24, Rp.upto_length]
  rw [hl24] at HL HP HR
  clear hl24
  obtain ⟨r, hr⟩ : ∃ r, putS h = r := ⟨_, rfl⟩
  rw [hr] at HP ⊢
  clear hr
  obtain ⟨a, b, c, d⟩ := h
  obtain ⟨⟨a0, a1⟩, ⟨b0, b1⟩, ⟨c0, c1⟩, d0, d1⟩ := hf
  unfold hv
  simp only at a0 a1 b0 b1 c0 c1 d0 d1 HL ⊢
  have ga : a < 18446744073709551616 := by omega
  have gb : b < 18446744073709551616 := by omega
  have gc : c < 18446744073709551616 := by omega

  go_enter Tryd.func13, Tryd.ntmps13
  go_wp2_with fail
  obtain ⟨w1, hw1⟩ : ∃ w1, (w.alloc (.cells #[.int .u32 a, .int .u32 b, .int .u32 c, .int .u64 d] 25)).alloc (.cells #[.pointer none, .slice none 0 0] 52) = w1 := ⟨_, rfl⟩
  have hn2 := Rp.two_new w (.cells #[.int .u32 a, .int .u32 b, .int .u32 c, .int .u64 d] 25) (.cells #[.pointer none, .slice none 0 0] 52)
  have s1 : w1.heap.size = w.heap.size + 2 := by rw [← hw1]; simp
  rw [hw1] at hn2
  obtain ⟨X1, Y1, B1⟩ := hn2
  have W1 : Hid (Wr (w.heap.size + 1) (w.heap.size + 1) (([] : List Int).map (Value.int .u8)) w1) := .inl ⟨Nat.le_refl _, _, Y1, ⟨rfl, .inl ⟨rfl, rfl⟩⟩, by simp [Value.ownBlock]⟩
  have HB1 : Hid (Below w.heap.size w w1) := B1
  have HX1 : Hid (w1.heap[w.heap.size]? = some (.cells #[.int .u32 a, .int .u32 b, .int .u32 c, .int .u64 d] 25 (0, 0))) := X1
  rw [hw1]
  clear hw1 X1 Y1 B1
  have CE : Hid (∀ V : World, V.heap[w.heap.size]? = some (.cells #[.int .u32 a, .int .u32 b, .int .u32 c, .int .u64 d] 25 (0, 0)) → V.cell? ⟨w.heap.size, 0, none⟩ = some (.int .u32 a) ∧ V.cell? ⟨w.heap.size, 1, none⟩ = some (.int .u32 b) ∧ V.cell? ⟨w.heap.size, 2, none⟩ = some (.int .u32 c) ∧ V.cell? ⟨w.heap.size, 3, none⟩ = some (.int .u64 d)) := fun V hV =>
    ⟨by rw [cell_of_row _ _ _ _ _ _ hV]; rfl, by rw [cell_of_row _ _ _ _ _ _ hV]; rfl, by rw [cell_of_row _ _ _ _ _ _ hV]; rfl, by rw [cell_of_row _ _ _ _ _ _ hV]; rfl⟩
  refine (number_any _ _ [] a a0 4 (by omega) w1 W1.out (by simp) (by omega)).mono ?_
  rintro e w2 ⟨rfl, hw2, hb2⟩
  have W2 : Hid (Wr (w.heap.size + 1) (w.heap.size + 1) (([] ++ Rp.upto (le a) 4).map (Value.int .u8)) w2) := hw2
  have s2 := hb2.size
  have HX2 : Hid _ := (hb2.block w.heap.size (by omega)).trans HX1.out
  have HB2 : Hid (Below w.heap.size w w2) := HB1.out.trans (hb2.mono (by omega))
  obtain ⟨_, cb, _, _⟩ := CE.out w2 HX2.out
  clear hw2 hb2 W1 HX1 HB1
  go_wp2_with fail
  clear cb
  refine (number_any _ _ _ b b0 4 (by omega) w2 W2.out (by simp [Rp.upto_length]) (by omega)).mono ?_
  rintro e w3 ⟨rfl, hw3, hb3⟩
  have W3 : Hid (Wr (w.heap.size + 1) (w.heap.size + 1) (([] ++ Rp.upto (le a) 4 ++ Rp.upto (le b) 4).map (Value.int .u8)) w3) := hw3
  have s3 := hb3.size
  have HX3 : Hid _ := (hb3.block w.heap.size (by omega)).trans HX2.out
  have HB3 : Hid (Below w.heap.size w w3) := HB2.out.trans (hb3.mono (by omega))
  obtain ⟨_, _, cc, _⟩ := CE.out w3 HX3.out
  clear hw3 hb3 W2 HX2 HB2
  go_wp2_with fail
  clear cc
  refine (number_any _ _ _ c c0 4 (by omega) w3 W3.out (by simp [Rp.upto_length]) (by omega)).mono ?_
  rintro e w4 ⟨rfl, hw4, hb4⟩
  have W4 : Hid (Wr (w.heap.size + 1) (w.heap.size + 1) (([] ++ Rp.upto (le a) 4 ++ Rp.upto (le b) 4 ++ Rp.upto (le c) 4).map (Value.int .u8)) w4) := hw4
  have s4 := hb4.size
  have HX4 : Hid _ := (hb4.block w.heap.size (by omega)).trans HX3.out
  have HB4 : Hid (Below w.heap.size w w4) := HB3.out.trans (hb4.mono (by omega))
  obtain ⟨_, _, _, cd⟩ := CE.out w4 HX4.out
  clear hw4 hb4 W3 HX3 HB3
  go_wp2_with fail
  clear cd
  refine (number_any _ _ _ d d0 8 (by omega) w4 W4.out (by simp [Rp.upto_length]) (by omega)).mono ?_
  rintro e w5 ⟨rfl, hw5, hb5⟩
  have W5 : Hid (Wr (w.heap.size + 1) (w.heap.size + 1) (([] ++ Rp.upto (le a) 4 ++ Rp.upto (le b) 4 ++ Rp.upto (le c) 4 ++ Rp.upto (le d) 8).map (Value.int .u8)) w5) := hw5
  have s5 := hb5.size
  have HB5 : Hid (Below w.heap.size w w5) := HB4.out.trans (hb5.mono (by omega))
  clear hw5 hb5 W4 HX4 HB4
  go_wp2_with fail
  refine (number_any _ _ _ 0 (by omega) 4 (by omega) w5 W5.out (by simp [Rp.upto_length]) (by omega)).mono ?_
  rintro e w6 ⟨rfl, hw6, hb6⟩
  have W6 : Hid (Wr (w.heap.size + 1) (w.heap.size + 1) (l24.map (Value.int .u8)) w6) := by
    refine (?_ : Wr (w.heap.size + 1) (w.heap.size + 1) (l24.map (Value.int .u8)) w6)
    rw [← HL.out]
    simpa using hw6
  have s6 := hb6.size
  have HB6 : Hid (Below w.heap.size w w6) := HB5.out.trans (hb6.mono (by omega))
  clear hw6 hb6 W5 HB5
  go_wp2_with fail
  refine (string_any _ _ l24 w6 W6.out HR.out (by intro e; have := HN.out; rw [e] at this; cases this) (by rw [HN.out]; omega)).mono ?_
  rintro e w7 ⟨rfl, hb7⟩
  have HB7 : Hid (Below w.heap.size w w7) := HB6.out.trans (hb7.mono (by omega))
  clear hb7
  go_wp2_with fail
  go_ret
  exact ⟨by rw [HP.out]; rfl, HB7.out⟩
end Go.Proofs.YtaoadopnhphjbaaDoor.Rs
