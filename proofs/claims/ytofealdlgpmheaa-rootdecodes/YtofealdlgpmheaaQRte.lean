/- A root's bytes: what Encode tells. -/
import Derived.Test.YtofealdlgpmheaaQGL
import Derived.Test.YtofealdlgpmheaaPAj
import Derived.Test.YtofealdlgpmheaaQRtj
namespace Go.Proofs.Ytofealdlgpmheaa.Ro
open Go.RowKit Go.Lib Go.Shelf
open Go.Proofs.Ytofealdlgpmheaa.Rc Go.Proofs.Ytofealdlgpmheaa.Rq
/-- A root's bytes. -/
def encL (r : Rt) : List UInt8 := [115, 112, 104, 114] ++ (sd r.c r.g r.n r.p 20 ++ r.t.data.toList)
/-- A root whose numbers fit. -/
def okR (r : Rt) : Prop := r.c < 18446744073709551616 ∧ r.g < 4294967296 ∧ r.n < 4294967296 ∧ r.p < 4294967296
set_option maxRecDepth 100000 in
theorem wrap64 (n : Nat) (h : n < 18446744073709551616) : IntKind.u64.wrap (n : Int) = (n : Int) := by rw [IntKind.wrap_u64]; omega
set_option maxRecDepth 100000 in
theorem join3 (x y z : List UInt8) : Lib.join [x, y, z] [] = x ++ (y ++ z) := by rw [Lib.join_cons]; simp [Lib.joinTail]
set_option maxRecDepth 100000 in
theorem join_any (bk : Nat) (x y z : ByteArray) (w : World) (h : w.heap[bk]? = some (.cells #[.string x, .string y, .string z] 9 (0, 0))) (hlen : x.size + (y.size + z.size) ≤ 1000) :
    Calls Try.prog 21 #[.slice (some ⟨bk, 0, none⟩) 3 3] w fun e w' => e = .returned (.string ⟨(x.data.toList ++ (y.data.toList ++ z.data.toList)).toArray⟩) ∧ Below w.heap.size w w' := by
  have hl : (Lib.join ([x, y, z].map (·.data.toList)) []).length ≤ 140737488355328 := by
    show (Lib.join [x.data.toList, y.data.toList, z.data.toList] []).length ≤ _
    rw [join3, List.length_append, List.length_append]
    have e1 : x.data.toList.length = x.size := rfl
    have e2 : y.data.toList.length = y.size := rfl
    have e3 : z.data.toList.length = z.size := rfl
    omega
  have HC := Try.strings_Join bk 0 3 [x, y, z] ⟨#[]⟩ w (fun j u hu => by
    rw [Nat.zero_add, cell_of_row _ _ _ _ _ _ h]
    have hj : j < 3 := (List.getElem?_eq_some_iff.1 hu).1
    obtain rfl | rfl | rfl : j = 0 ∨ j = 1 ∨ j = 2 := by omega
    all_goals (simp at hu; subst hu; rfl)) (Array.getElem?_eq_some_iff.1 h).1 (by simp) (by simp) hl
  rw [show Lib.join ([x, y, z].map (·.data.toList)) (⟨#[]⟩ : ByteArray).data.toList = x.data.toList ++ (y.data.toList ++ z.data.toList) from join3 _ _ _] at HC
  obtain ⟨v, hv⟩ : ∃ v : ByteArray, ⟨(x.data.toList ++ (y.data.toList ++ z.data.toList)).toArray⟩ = v := ⟨_, rfl⟩
  rw [hv] at HC ⊢
  have HC2 : Hid (∀ _ : True, Calls Try.prog 29 #[.slice (some ⟨bk, 0, none⟩) 3 3, .string ⟨#[]⟩] w fun e w' => e = .returned (.string v) ∧ Below w.heap.size w w') := fun _ => HC
  clear HC hl hlen h hv
  go_enter Try.func21, Try.ntmps21
  go_wp2_with fail
  refine (HC2.out trivial).mono ?_
  rintro e w2 ⟨rfl, b2⟩
  have HB : Hid _ := b2
  clear b2
  go_wp2_with fail
  go_ret
  exact ⟨rfl, HB.out⟩
set_option maxRecDepth 100000 in
set_option maxHeartbeats 1000000 in
theorem encode_no (r : Rt) (w : World) (h : rrt r = false) : Calls Try.prog 11 #[rtv r] w fun e w' => e = .returned (.tuple #[.string ⟨#[]⟩, .int .i64 120]) ∧ Below w.heap.size w w' := by
  have HR : Hid (∀ W : World, _) := right_any r
  rw [h] at HR
  have hbn := below_new w (.cells (rtc r.c r.g r.n r.p r.t) 27)
  have hgn := heap_alloc_new w (.cells (rtc r.c r.g r.n r.p r.t) 27)
  obtain ⟨c, g, n, p, t⟩ := r
  have HB : Hid _ := hbn
  clear hbn hgn h
  go_enter Try.func11, Try.ntmps11
  go_wp2_with fail
  refine (HR.out _).mono ?_
  rintro e w2 ⟨rfl, b2⟩
  have HB2 : Hid (Below w.heap.size w w2) := HB.out.trans (b2.mono HB.out.size)
  clear b2
  go_wp2_with fail
  go_ret2
  exact ⟨rfl, HB2.out⟩
set_option maxRecDepth 100000 in
theorem nm_new (w : World) (a b c d : Nat) : (w.alloc (.cells (nmc a b c d) 46)).cell? ⟨w.heap.size, 0, none⟩ = some (.int .u64 (a : Int)) ∧ (w.alloc (.cells (nmc a b c d) 46)).cell? ⟨w.heap.size, 1, none⟩ = some (.int .u64 (b : Int)) ∧ (w.alloc (.cells (nmc a b c d) 46)).cell? ⟨w.heap.size, 2, none⟩ = some (.int .u64 (c : Int)) ∧ (w.alloc (.cells (nmc a b c d) 46)).cell? ⟨w.heap.size, 3, none⟩ = some (.int .u64 (d : Int)) := by
  have h := heap_alloc_new w (.cells (nmc a b c d) 46)
  refine ⟨?_, ?_, ?_, ?_⟩ <;> (rw [cell_of_row _ _ _ _ _ _ h]; rfl)
set_option maxRecDepth 100000 in
set_option maxHeartbeats 4000000 in
theorem encode_ok (r : Rt) (w : World) (h : rrt r = true) (ho : okR r) : Calls Try.prog 11 #[rtv r] w fun e w' => e = .returned (.tuple #[.string ⟨(encL r).toArray⟩, .int .i64 0]) ∧ Below w.heap.size w w' := by
  have HR : Hid (∀ W : World, _) := right_any r
  rw [h] at HR
  have htz : r.t.size = 32 := by
    unfold rrt rref at h
    simp only [Bool.and_eq_true, decide_eq_true_eq] at h
    exact h.2.2.2.2
  have hbn := below_new w (.cells (rtc r.c r.g r.n r.p r.t) 27)
  have hgn := heap_alloc_new w (.cells (rtc r.c r.g r.n r.p r.t) 27)
  unfold encL
  obtain ⟨c, g, n, p, t⟩ := r
  obtain ⟨h1, h2, h3, h4⟩ := ho
  simp only at h1 h2 h3 h4 htz hbn hgn ⊢
  have hs : (sd c g n p 20).length = 20 := sd_len _ _ _ _ _
  have HS : Hid (∀ W : World, _) := said_any c g n p
  obtain ⟨ss, hss⟩ : ∃ ss, sd c g n p 20 = ss := ⟨_, rfl⟩
  rw [hss] at HS hs ⊢
  have HB : Hid (Below w.heap.size w (w.alloc (.cells (rtc c g n p t) 27))) := hbn
  have HG : Hid ((w.alloc (.cells (rtc c g n p t) 27)).heap[w.heap.size]? = some (.cells (rtc c g n p t) 27 (0, 0))) := hgn
  have HL : Hid ((4 + (ss.length + t.size)) ≤ 1000) := by refine (?_ : (4 + (ss.length + t.size)) ≤ 1000); omega
  have e2 := wrap64 g (by omega)
  have e3 := wrap64 n (by omega)
  have e4 := wrap64 p (by omega)
  clear hbn hgn h hss hs htz h1 h2 h3 h4
  go_enter Try.func11, Try.ntmps11
  go_wp2_with fail
  refine (HR.out _).mono ?_
  rintro e w2 ⟨rfl, b2⟩
  have HB2 : Hid (Below w.heap.size w w2) := HB.out.trans (b2.mono HB.out.size)
  have hg2 := (b2.block _ (Array.getElem?_eq_some_iff.1 HG.out).1).trans HG.out
  have c0 : w2.cell? ⟨w.heap.size, 0, none⟩ = some (.int .u64 (c : Int)) := by rw [cell_of_row _ _ _ _ _ _ hg2]; rfl
  have c1 : w2.cell? ⟨w.heap.size, 1, none⟩ = some (.int .u32 (g : Int)) := by rw [cell_of_row _ _ _ _ _ _ hg2]; rfl
  have c2 : w2.cell? ⟨w.heap.size, 2, none⟩ = some (.int .u32 (n : Int)) := by rw [cell_of_row _ _ _ _ _ _ hg2]; rfl
  have c3 : w2.cell? ⟨w.heap.size, 3, none⟩ = some (.int .u32 (p : Int)) := by rw [cell_of_row _ _ _ _ _ _ hg2]; rfl
  have HG2 : Hid (w2.heap[w.heap.size]? = some (.cells (rtc c g n p t) 27 (0, 0))) := hg2
  clear b2 hg2
  go_wp2_with fail
  clear c0 c1 c2 c3
  have hbn := below_new w2 (.cells (nmc c g n p) 46)
  obtain ⟨d0, d1, d2, d3⟩ := nm_new w2 c g n p
  obtain ⟨W3, hW3⟩ : ∃ W3, w2.alloc (.cells (nmc c g n p) 46) = W3 := ⟨_, rfl⟩
  rw [hW3] at hbn d0 d1 d2 d3
  have hg3 := (hbn.block _ (Array.getElem?_eq_some_iff.1 HG2.out).1).trans HG2.out
  have d4 : W3.cell? ⟨w.heap.size, 4, none⟩ = some (.string t) := by rw [cell_of_row _ _ _ _ _ _ hg3]; rfl
  have HB3 : Hid (Below w.heap.size w W3.drew) := (HB2.out.trans (hbn.mono HB2.out.size)).drew
  have HSW : Hid (W3.drew.cell? ⟨w2.heap.size, 0, none⟩ = some (.int .u64 (c : Int)) ∧ W3.drew.cell? ⟨w2.heap.size, 1, none⟩ = some (.int .u64 (g : Int)) ∧ W3.drew.cell? ⟨w2.heap.size, 2, none⟩ = some (.int .u64 (n : Int)) ∧ W3.drew.cell? ⟨w2.heap.size, 3, none⟩ = some (.int .u64 (p : Int)) ∧ W3.drew.cell? ⟨w.heap.size, 4, none⟩ = some (.string t)) := ⟨d0, d1, d2, d3, d4⟩
  have HL3 : Hid (w2.heap.size < W3.drew.heap.size) := by rw [← hW3]; refine (?_ : w2.heap.size < _); show w2.heap.size < (w2.alloc _).heap.size; simp
  have HLw : Hid (w.heap.size < w2.heap.size) := (Array.getElem?_eq_some_iff.1 HG2.out).1
  rw [hW3]
  clear hbn hg3 d0 d1 d2 d3 d4 hW3
  have step : ∀ A B : World, Below A.heap.size A B → w2.heap.size < A.heap.size → (A.cell? ⟨w2.heap.size, 0, none⟩ = some (.int .u64 (c : Int)) ∧ A.cell? ⟨w2.heap.size, 1, none⟩ = some (.int .u64 (g : Int)) ∧ A.cell? ⟨w2.heap.size, 2, none⟩ = some (.int .u64 (n : Int)) ∧ A.cell? ⟨w2.heap.size, 3, none⟩ = some (.int .u64 (p : Int)) ∧ A.cell? ⟨w.heap.size, 4, none⟩ = some (.string t)) → (B.cell? ⟨w2.heap.size, 0, none⟩ = some (.int .u64 (c : Int)) ∧ B.cell? ⟨w2.heap.size, 1, none⟩ = some (.int .u64 (g : Int)) ∧ B.cell? ⟨w2.heap.size, 2, none⟩ = some (.int .u64 (n : Int)) ∧ B.cell? ⟨w2.heap.size, 3, none⟩ = some (.int .u64 (p : Int)) ∧ B.cell? ⟨w.heap.size, 4, none⟩ = some (.string t)) := by
    intro A B hb hl ⟨a0, a1, a2, a3, a4⟩
    have hw := HLw.out
    have e1 := hb.block w2.heap.size hl
    have e2 := hb.block w.heap.size (by omega)
    exact ⟨(World.cell?_of_block (a := ⟨w2.heap.size, 0, none⟩) e1).trans a0, (World.cell?_of_block (a := ⟨w2.heap.size, 1, none⟩) e1).trans a1, (World.cell?_of_block (a := ⟨w2.heap.size, 2, none⟩) e1).trans a2, (World.cell?_of_block (a := ⟨w2.heap.size, 3, none⟩) e1).trans a3, (World.cell?_of_block (a := ⟨w.heap.size, 4, none⟩) e2).trans a4⟩
  have HST : Hid _ := step
  clear step
  refine wp_region_held (S := fun u => u.cell? ⟨w2.heap.size, 0, none⟩ = some (.int .u64 (c : Int)) ∧ u.cell? ⟨w2.heap.size, 1, none⟩ = some (.int .u64 (g : Int)) ∧ u.cell? ⟨w2.heap.size, 2, none⟩ = some (.int .u64 (n : Int)) ∧ u.cell? ⟨w2.heap.size, 3, none⟩ = some (.int .u64 (p : Int)) ∧ u.cell? ⟨w.heap.size, 4, none⟩ = some (.string t)) (by kernel_rfl) ?_
  change wpAnyH _ _ _ _ _ _ _ _ (World.drew _)
  refine wpAnyH_take (i := 0) (v := ?_) rfl (by kernel_rfl) (by kernel_rfl) (by kernel_rfl) (fun _ _ _ h => h) (Or.inl ⟨by kernel_rfl, ?_⟩) HSW.out ?_
  rotate_left
  · intro w hS
    obtain ⟨s0, s1, s2, s3, s4⟩ := hS
    go_simp
    try with_reducible rfl
  conv in (Act.put _ _ _) => simp only [List.getElem_toArray, List.getElem_cons_succ, List.getElem_cons_zero, Act.put, List.setIfInBounds_toArray, List.set_cons_succ, List.set_cons_zero]
  refine wpAnyH_take (i := 2) (v := ?_) rfl (by kernel_rfl) (by kernel_rfl) (by kernel_rfl) (fun _ _ _ h => h) (Or.inl ⟨by kernel_rfl, ?_⟩) HSW.out ?_
  rotate_left
  · intro w hS
    obtain ⟨s0, s1, s2, s3, s4⟩ := hS
    go_simp
    try with_reducible rfl
  conv in (Act.put _ _ _) => simp only [List.getElem_toArray, List.getElem_cons_succ, List.getElem_cons_zero, Act.put, List.setIfInBounds_toArray, List.set_cons_succ, List.set_cons_zero]
  refine wpAnyH_take (i := 3) (v := ?_) rfl (by kernel_rfl) (by kernel_rfl) (by kernel_rfl) (fun _ _ _ h => h) (Or.inl ⟨by kernel_rfl, ?_⟩) HSW.out ?_
  rotate_left
  · intro w hS
    obtain ⟨s0, s1, s2, s3, s4⟩ := hS
    go_simp
    try with_reducible rfl
  conv in (Act.put _ _ _) => simp only [List.getElem_toArray, List.getElem_cons_succ, List.getElem_cons_zero, Act.put, List.setIfInBounds_toArray, List.set_cons_succ, List.set_cons_zero]
  refine wpAnyH_take (i := 4) (v := ?_) rfl (by kernel_rfl) (by kernel_rfl) (by kernel_rfl) (fun _ _ _ h => h) (Or.inl ⟨by kernel_rfl, ?_⟩) HSW.out ?_
  rotate_left
  · intro w hS
    obtain ⟨s0, s1, s2, s3, s4⟩ := hS
    go_simp
    try with_reducible rfl
  conv in (Act.put _ _ _) => simp only [List.getElem_toArray, List.getElem_cons_succ, List.getElem_cons_zero, Act.put, List.setIfInBounds_toArray, List.set_cons_succ, List.set_cons_zero]
  refine readyH 1 _ (by kernel_rfl) rfl (by kernel_rfl) (fun K hK => ?_)
  go_simp
  refine (HS.out _).mono ?_
  rintro e w4 ⟨rfl, b4⟩
  have HB4 : Hid (Below w.heap.size w w4) := HB3.out.trans (b4.mono HB3.out.size)
  have HL4 : Hid (w2.heap.size < w4.heap.size) := Nat.lt_of_lt_of_le HL3.out b4.size
  replace HSW : Hid _ := HST.out _ _ b4 HL3.out HSW.out
  clear b4
  refine hK _ _ HSW.out ?_
  clear hK K
  refine readyH 5 _ (by kernel_rfl) rfl (by kernel_rfl) (fun K hK => ?_)
  go_simp
  obtain ⟨W5, hW5⟩ : ∃ W5, w4.alloc (.cells #[.string ⟨#[115, 112, 104, 114]⟩, .string ⟨ss.toArray⟩, .string t] 9) = W5 := ⟨_, rfl⟩
  have hb5 := below_new w4 (.cells #[.string ⟨#[115, 112, 104, 114]⟩, .string ⟨ss.toArray⟩, .string t] 9)
  have hg5 := heap_alloc_new w4 (.cells #[.string ⟨#[115, 112, 104, 114]⟩, .string ⟨ss.toArray⟩, .string t] 9)
  rw [hW5] at hb5 hg5 ⊢
  have HB5 : Hid (Below w.heap.size w W5) := HB4.out.trans (hb5.mono HB4.out.size)
  have HL5 : Hid (w2.heap.size < W5.heap.size) := Nat.lt_of_lt_of_le HL4.out hb5.size
  replace HSW : Hid _ := HST.out _ _ hb5 HL4.out HSW.out
  have HJ : Hid (∀ _ : True, _) := fun _ => join_any w4.heap.size ⟨#[115, 112, 104, 114]⟩ ⟨ss.toArray⟩ t W5 hg5 HL.out
  clear hb5 hg5 hW5
  refine hK _ _ HSW.out ?_
  clear hK K
  refine readyH 6 _ (by kernel_rfl) rfl (by kernel_rfl) (fun K hK => ?_)
  go_simp
  refine (HJ.out trivial).mono ?_
  rintro e w6 ⟨rfl, b6⟩
  have HB6 : Hid (Below w.heap.size w w6) := HB5.out.trans (b6.mono HB5.out.size)
  replace HSW : Hid _ := HST.out _ _ b6 HL5.out HSW.out
  clear b6
  refine hK _ _ HSW.out ?_
  clear hK K
  refine wpAnyH_take (i := 7) (v := ?_) rfl (by kernel_rfl) (by kernel_rfl) (by kernel_rfl) (fun _ _ _ h => h) (Or.inl ⟨by kernel_rfl, ?_⟩) HSW.out ?_
  rotate_left
  · intro w hS
    obtain ⟨s0, s1, s2, s3, s4⟩ := hS
    go_simp
    try with_reducible rfl
  conv in (Act.put _ _ _) => simp only [List.getElem_toArray, List.getElem_cons_succ, List.getElem_cons_zero, Act.put, List.setIfInBounds_toArray, List.set_cons_succ, List.set_cons_zero]
  refine wpAnyH_take (i := 8) (v := ?_) rfl (by kernel_rfl) (by kernel_rfl) (by kernel_rfl) (fun _ _ _ h => h) (Or.inl ⟨by kernel_rfl, ?_⟩) HSW.out ?_
  rotate_left
  · intro w hS
    obtain ⟨s0, s1, s2, s3, s4⟩ := hS
    go_simp
    try with_reducible rfl
  conv in (Act.put _ _ _) => simp only [List.getElem_toArray, List.getElem_cons_succ, List.getElem_cons_zero, Act.put, List.setIfInBounds_toArray, List.set_cons_succ, List.set_cons_zero]
  refine wpAnyH_done (by kernel_rfl) ?_ _
  rename_i hKK
  refine hKK _ _ ?_
  clear hKK
  go_wp2_with fail
  go_ret2
  exact ⟨rfl, HB6.out⟩
end Go.Proofs.Ytofealdlgpmheaa.Ro
/- The reference's Encode and Decode. -/
namespace Go.Proofs.Ytofealdlgpmheaa.Ro
open Go.RowKit Go.Lib Go.Shelf
open Go.Proofs.Ytofealdlgpmheaa.Rc Go.Proofs.Ytofealdlgpmheaa.Rq
set_option maxRecDepth 100000 in
theorem sencode_no (r : Rt) (w : World) (h : rrt r = false) : Calls Try.prog 12 #[rtv r] w fun e w' => e = .returned (.tuple #[.string ⟨#[]⟩, .int .i64 120]) ∧ Below w.heap.size w w' := by
  have HR : Hid (∀ W : World, _) := sright_any r
  rw [h] at HR
  have hbn := below_new w (.cells (rtc r.c r.g r.n r.p r.t) 27)
  have hgn := heap_alloc_new w (.cells (rtc r.c r.g r.n r.p r.t) 27)
  obtain ⟨c, g, n, p, t⟩ := r
  have HB : Hid _ := hbn
  clear hbn hgn h
  go_enter Try.func12, Try.ntmps12
  go_wp2_with fail
  refine (HR.out _).mono ?_
  rintro e w2 ⟨rfl, b2⟩
  have HB2 : Hid (Below w.heap.size w w2) := HB.out.trans (b2.mono HB.out.size)
  clear b2
  go_wp2_with fail
  go_ret2
  exact ⟨rfl, HB2.out⟩
set_option maxRecDepth 100000 in
set_option maxHeartbeats 4000000 in
theorem sencode_ok (r : Rt) (w : World) (h : rrt r = true) (ho : okR r) : Calls Try.prog 12 #[rtv r] w fun e w' => e = .returned (.tuple #[.string ⟨(encL r).toArray⟩, .int .i64 0]) ∧ Below w.heap.size w w' := by
  have HR : Hid (∀ W : World, _) := sright_any r
  rw [h] at HR
  have htz : r.t.size = 32 := by
    unfold rrt rref at h
    simp only [Bool.and_eq_true, decide_eq_true_eq] at h
    exact h.2.2.2.2
  have hbn := below_new w (.cells (rtc r.c r.g r.n r.p r.t) 27)
  have hgn := heap_alloc_new w (.cells (rtc r.c r.g r.n r.p r.t) 27)
  obtain ⟨c, g, n, p, t⟩ := r
  obtain ⟨h1, h2, h3, h4⟩ := ho
  simp only at h1 h2 h3 h4 htz hbn hgn ⊢
  have HP0 : Hid (∀ W : World, _) := sput_any c h1 8 (by decide)
  have HP1 : Hid (∀ W : World, _) := sput_any g (by omega) 4 (by decide)
  have HP2 : Hid (∀ W : World, _) := sput_any n (by omega) 4 (by decide)
  have HP3 : Hid (∀ W : World, _) := sput_any p (by omega) 4 (by decide)
  have el : ∀ v k, (⟨(lef v k).toArray⟩ : ByteArray).size = k := fun v k => by simp [ByteArray.size, lef_len]
  have z0 := el c 8
  have z1 := el g 4
  have z2 := el n 4
  have z3 := el p 4
  have HE : Hid ((⟨(encL ⟨c, g, n, p, t⟩).toArray⟩ : ByteArray) = ((((⟨#[115, 112, 104, 114]⟩ ++ ⟨(lef c 8).toArray⟩) ++ ⟨(lef g 4).toArray⟩) ++ ⟨(lef n 4).toArray⟩) ++ ⟨(lef p 4).toArray⟩) ++ t) := by
    refine (?_ : (⟨(encL ⟨c, g, n, p, t⟩).toArray⟩ : ByteArray) = _)
    apply ByteArray.ext
    unfold encL
    rw [sd_lef]
    simp [ByteArray.data_append]
  obtain ⟨S0, hS0⟩ : ∃ s : ByteArray, ⟨(lef c 8).toArray⟩ = s := ⟨_, rfl⟩
  obtain ⟨S1, hS1⟩ : ∃ s : ByteArray, ⟨(lef g 4).toArray⟩ = s := ⟨_, rfl⟩
  obtain ⟨S2, hS2⟩ : ∃ s : ByteArray, ⟨(lef n 4).toArray⟩ = s := ⟨_, rfl⟩
  obtain ⟨S3, hS3⟩ : ∃ s : ByteArray, ⟨(lef p 4).toArray⟩ = s := ⟨_, rfl⟩
  rw [hS0] at HP0 z0 HE
  rw [hS1] at HP1 z1 HE
  rw [hS2] at HP2 z2 HE
  rw [hS3] at HP3 z3 HE
  rw [HE.out]
  clear HE hS0 hS1 hS2 hS3 el
  have HZ : Hid (S0.size = 8 ∧ S1.size = 4 ∧ S2.size = 4 ∧ S3.size = 4 ∧ t.size = 32) := ⟨z0, z1, z2, z3, htz⟩
  have HB : Hid (Below w.heap.size w (w.alloc (.cells (rtc c g n p t) 27))) := hbn
  have HG : Hid ((w.alloc (.cells (rtc c g n p t) 27)).heap[w.heap.size]? = some (.cells (rtc c g n p t) 27 (0, 0))) := hgn
  have e2 := wrap64 g (by omega)
  have e3 := wrap64 n (by omega)
  have e4 := wrap64 p (by omega)
  clear hbn hgn h htz h1 h2 h3 h4 z0 z1 z2 z3
  go_enter Try.func12, Try.ntmps12
  go_wp2_with fail
  refine (HR.out _).mono ?_
  rintro e w2 ⟨rfl, b2⟩
  have HB2 : Hid (Below w.heap.size w w2) := HB.out.trans (b2.mono HB.out.size)
  have hg2 := (b2.block _ (Array.getElem?_eq_some_iff.1 HG.out).1).trans HG.out
  have HG2 : Hid (w2.heap[w.heap.size]? = some (.cells (rtc c g n p t) 27 (0, 0))) := hg2
  have HST : Hid (∀ A : World, A.heap[w.heap.size]? = some (.cells (rtc c g n p t) 27 (0, 0)) → A.cell? ⟨w.heap.size, 0, none⟩ = some (.int .u64 (c : Int)) ∧ A.cell? ⟨w.heap.size, 1, none⟩ = some (.int .u32 (g : Int)) ∧ A.cell? ⟨w.heap.size, 2, none⟩ = some (.int .u32 (n : Int)) ∧ A.cell? ⟨w.heap.size, 3, none⟩ = some (.int .u32 (p : Int)) ∧ A.cell? ⟨w.heap.size, 4, none⟩ = some (.string t)) := fun A h => (root_facts h).1
  clear b2 hg2
  go_wp2_with fail
  replace HG2 : Hid (w2.drew.heap[w.heap.size]? = some (.cells (rtc c g n p t) 27 (0, 0))) := HG2.out
  replace HB2 : Hid (Below w.heap.size w w2.drew) := HB2.out.drew
  have HSW : Hid _ := HST.out _ HG2.out
  refine wp_region_held (S := fun A => A.cell? ⟨w.heap.size, 0, none⟩ = some (.int .u64 (c : Int)) ∧ A.cell? ⟨w.heap.size, 1, none⟩ = some (.int .u32 (g : Int)) ∧ A.cell? ⟨w.heap.size, 2, none⟩ = some (.int .u32 (n : Int)) ∧ A.cell? ⟨w.heap.size, 3, none⟩ = some (.int .u32 (p : Int)) ∧ A.cell? ⟨w.heap.size, 4, none⟩ = some (.string t)) (by kernel_rfl) ?_
  change wpAnyH _ _ _ _ _ _ _ _ (World.drew _)
  refine wpAnyH_take (i := 0) (v := ?_) rfl (by kernel_rfl) (by kernel_rfl) (by kernel_rfl) (fun _ _ _ h => h) (Or.inl ⟨by kernel_rfl, ?_⟩) HSW.out ?_
  rotate_left
  · intro w hS
    obtain ⟨s0, s1, s2, s3, s4⟩ := hS
    go_simp
    try with_reducible rfl
  conv in (Act.put _ _ _) => simp only [List.getElem_toArray, List.getElem_cons_succ, List.getElem_cons_zero, Act.put, List.setIfInBounds_toArray, List.set_cons_succ, List.set_cons_zero]
  refine wpAnyH_take (i := 1) (v := ?_) rfl (by kernel_rfl) (by kernel_rfl) (by kernel_rfl) (fun _ _ _ h => h) (Or.inl ⟨by kernel_rfl, ?_⟩) HSW.out ?_
  rotate_left
  · intro w hS
    obtain ⟨s0, s1, s2, s3, s4⟩ := hS
    go_simp
    try with_reducible rfl
  conv in (Act.put _ _ _) => simp only [List.getElem_toArray, List.getElem_cons_succ, List.getElem_cons_zero, Act.put, List.setIfInBounds_toArray, List.set_cons_succ, List.set_cons_zero]
  refine wpAnyH_take (i := 4) (v := ?_) rfl (by kernel_rfl) (by kernel_rfl) (by kernel_rfl) (fun _ _ _ h => h) (Or.inl ⟨by kernel_rfl, ?_⟩) HSW.out ?_
  rotate_left
  · intro w hS
    obtain ⟨s0, s1, s2, s3, s4⟩ := hS
    go_simp
    try with_reducible rfl
  conv in (Act.put _ _ _) => simp only [List.getElem_toArray, List.getElem_cons_succ, List.getElem_cons_zero, Act.put, List.setIfInBounds_toArray, List.set_cons_succ, List.set_cons_zero]
  refine wpAnyH_take (i := 5) (v := ?_) rfl (by kernel_rfl) (by kernel_rfl) (by kernel_rfl) (fun _ _ _ h => h) (Or.inl ⟨by kernel_rfl, ?_⟩) HSW.out ?_
  rotate_left
  · intro w hS
    obtain ⟨s0, s1, s2, s3, s4⟩ := hS
    go_simp
    try with_reducible rfl
  conv in (Act.put _ _ _) => simp only [List.getElem_toArray, List.getElem_cons_succ, List.getElem_cons_zero, Act.put, List.setIfInBounds_toArray, List.set_cons_succ, List.set_cons_zero]
  refine wpAnyH_take (i := 6) (v := ?_) rfl (by kernel_rfl) (by kernel_rfl) (by kernel_rfl) (fun _ _ _ h => h) (Or.inl ⟨by kernel_rfl, ?_⟩) HSW.out ?_
  rotate_left
  · intro w hS
    obtain ⟨s0, s1, s2, s3, s4⟩ := hS
    go_simp
    try with_reducible rfl
  conv in (Act.put _ _ _) => simp only [List.getElem_toArray, List.getElem_cons_succ, List.getElem_cons_zero, Act.put, List.setIfInBounds_toArray, List.set_cons_succ, List.set_cons_zero]
  refine wpAnyH_take (i := 9) (v := ?_) rfl (by kernel_rfl) (by kernel_rfl) (by kernel_rfl) (fun _ _ _ h => h) (Or.inl ⟨by kernel_rfl, ?_⟩) HSW.out ?_
  rotate_left
  · intro w hS
    obtain ⟨s0, s1, s2, s3, s4⟩ := hS
    go_simp
    try with_reducible rfl
  conv in (Act.put _ _ _) => simp only [List.getElem_toArray, List.getElem_cons_succ, List.getElem_cons_zero, Act.put, List.setIfInBounds_toArray, List.set_cons_succ, List.set_cons_zero]
  refine wpAnyH_take (i := 10) (v := ?_) rfl (by kernel_rfl) (by kernel_rfl) (by kernel_rfl) (fun _ _ _ h => h) (Or.inl ⟨by kernel_rfl, ?_⟩) HSW.out ?_
  rotate_left
  · intro w hS
    obtain ⟨s0, s1, s2, s3, s4⟩ := hS
    go_simp
    try with_reducible rfl
  conv in (Act.put _ _ _) => simp only [List.getElem_toArray, List.getElem_cons_succ, List.getElem_cons_zero, Act.put, List.setIfInBounds_toArray, List.set_cons_succ, List.set_cons_zero]
  refine wpAnyH_take (i := 11) (v := ?_) rfl (by kernel_rfl) (by kernel_rfl) (by kernel_rfl) (fun _ _ _ h => h) (Or.inl ⟨by kernel_rfl, ?_⟩) HSW.out ?_
  rotate_left
  · intro w hS
    obtain ⟨s0, s1, s2, s3, s4⟩ := hS
    go_simp
    try with_reducible rfl
  conv in (Act.put _ _ _) => simp only [List.getElem_toArray, List.getElem_cons_succ, List.getElem_cons_zero, Act.put, List.setIfInBounds_toArray, List.set_cons_succ, List.set_cons_zero]
  refine wpAnyH_take (i := 14) (v := ?_) rfl (by kernel_rfl) (by kernel_rfl) (by kernel_rfl) (fun _ _ _ h => h) (Or.inl ⟨by kernel_rfl, ?_⟩) HSW.out ?_
  rotate_left
  · intro w hS
    obtain ⟨s0, s1, s2, s3, s4⟩ := hS
    go_simp
    try with_reducible rfl
  conv in (Act.put _ _ _) => simp only [List.getElem_toArray, List.getElem_cons_succ, List.getElem_cons_zero, Act.put, List.setIfInBounds_toArray, List.set_cons_succ, List.set_cons_zero]
  refine wpAnyH_take (i := 15) (v := ?_) rfl (by kernel_rfl) (by kernel_rfl) (by kernel_rfl) (fun _ _ _ h => h) (Or.inl ⟨by kernel_rfl, ?_⟩) HSW.out ?_
  rotate_left
  · intro w hS
    obtain ⟨s0, s1, s2, s3, s4⟩ := hS
    go_simp
    try with_reducible rfl
  conv in (Act.put _ _ _) => simp only [List.getElem_toArray, List.getElem_cons_succ, List.getElem_cons_zero, Act.put, List.setIfInBounds_toArray, List.set_cons_succ, List.set_cons_zero]
  refine wpAnyH_take (i := 16) (v := ?_) rfl (by kernel_rfl) (by kernel_rfl) (by kernel_rfl) (fun _ _ _ h => h) (Or.inl ⟨by kernel_rfl, ?_⟩) HSW.out ?_
  rotate_left
  · intro w hS
    obtain ⟨s0, s1, s2, s3, s4⟩ := hS
    go_simp
    try with_reducible rfl
  conv in (Act.put _ _ _) => simp only [List.getElem_toArray, List.getElem_cons_succ, List.getElem_cons_zero, Act.put, List.setIfInBounds_toArray, List.set_cons_succ, List.set_cons_zero]
  refine wpAnyH_take (i := 17) (v := ?_) rfl (by kernel_rfl) (by kernel_rfl) (by kernel_rfl) (fun _ _ _ h => h) (Or.inl ⟨by kernel_rfl, ?_⟩) HSW.out ?_
  rotate_left
  · intro w hS
    obtain ⟨s0, s1, s2, s3, s4⟩ := hS
    go_simp
    try with_reducible rfl
  conv in (Act.put _ _ _) => simp only [List.getElem_toArray, List.getElem_cons_succ, List.getElem_cons_zero, Act.put, List.setIfInBounds_toArray, List.set_cons_succ, List.set_cons_zero]
  refine wpAnyH_take (i := 20) (v := ?_) rfl (by kernel_rfl) (by kernel_rfl) (by kernel_rfl) (fun _ _ _ h => h) (Or.inl ⟨by kernel_rfl, ?_⟩) HSW.out ?_
  rotate_left
  · intro w hS
    obtain ⟨s0, s1, s2, s3, s4⟩ := hS
    go_simp
    try with_reducible rfl
  conv in (Act.put _ _ _) => simp only [List.getElem_toArray, List.getElem_cons_succ, List.getElem_cons_zero, Act.put, List.setIfInBounds_toArray, List.set_cons_succ, List.set_cons_zero]
  refine wpAnyH_take (i := 21) (v := ?_) rfl (by kernel_rfl) (by kernel_rfl) (by kernel_rfl) (fun _ _ _ h => h) (Or.inl ⟨by kernel_rfl, ?_⟩) HSW.out ?_
  rotate_left
  · intro w hS
    obtain ⟨s0, s1, s2, s3, s4⟩ := hS
    go_simp
    try with_reducible rfl
  conv in (Act.put _ _ _) => simp only [List.getElem_toArray, List.getElem_cons_succ, List.getElem_cons_zero, Act.put, List.setIfInBounds_toArray, List.set_cons_succ, List.set_cons_zero]
  refine wpAnyH_take (i := 22) (v := ?_) rfl (by kernel_rfl) (by kernel_rfl) (by kernel_rfl) (fun _ _ _ h => h) (Or.inl ⟨by kernel_rfl, ?_⟩) HSW.out ?_
  rotate_left
  · intro w hS
    obtain ⟨s0, s1, s2, s3, s4⟩ := hS
    go_simp
    try with_reducible rfl
  conv in (Act.put _ _ _) => simp only [List.getElem_toArray, List.getElem_cons_succ, List.getElem_cons_zero, Act.put, List.setIfInBounds_toArray, List.set_cons_succ, List.set_cons_zero]
  refine readyH 2 _ (by kernel_rfl) rfl (by kernel_rfl) (fun K hK => ?_)
  go_simp
  refine (HP0.out _).mono ?_
  rintro e x0 ⟨rfl, b0⟩
  have HB3 : Hid (Below w.heap.size w x0) := HB2.out.trans (b0.mono HB2.out.size)
  have HG3 : Hid (x0.heap[w.heap.size]? = some (.cells (rtc c g n p t) 27 (0, 0))) := (b0.block _ (Array.getElem?_eq_some_iff.1 HG2.out).1).trans HG2.out
  replace HSW : Hid _ := HST.out _ HG3.out
  clear b0
  refine hK _ _ HSW.out ?_
  clear hK K
  have hq : ¬ 9223372036854775807 < 4 + S0.size := by have := HZ.out; omega
  refine wpAnyH_take (i := 3) (v := ?_) rfl (by kernel_rfl) (by kernel_rfl) (by kernel_rfl) (fun _ _ _ h => h) (Or.inl ⟨by kernel_rfl, ?_⟩) HSW.out ?_
  rotate_left
  · intro w hS
    obtain ⟨s0, s1, s2, s3, s4⟩ := hS
    go_simp
    try with_reducible rfl
  conv in (Act.put _ _ _) => simp only [List.getElem_toArray, List.getElem_cons_succ, List.getElem_cons_zero, Act.put, List.setIfInBounds_toArray, List.set_cons_succ, List.set_cons_zero]
  clear hq
  have hT : ((⟨#[115, 112, 104, 114]⟩ : ByteArray) ++ S0).size = 12 := by have := HZ.out; rw [ByteArray.size_append]; show 4 + S0.size = 12; omega
  obtain ⟨T0, hT0⟩ : ∃ T, (⟨#[115, 112, 104, 114]⟩ : ByteArray) ++ S0 = T := ⟨_, rfl⟩
  rw [hT0] at hT ⊢
  have HT0 : Hid (T0.size = 12) := hT
  have HQ0 : Hid ((⟨#[115, 112, 104, 114]⟩ : ByteArray) ++ S0 = T0) := hT0
  clear hT hT0
  refine readyH 7 _ (by kernel_rfl) rfl (by kernel_rfl) (fun K hK => ?_)
  go_simp
  refine (HP1.out _).mono ?_
  rintro e x1 ⟨rfl, b1⟩
  have HB4 : Hid (Below w.heap.size w x1) := HB3.out.trans (b1.mono HB3.out.size)
  have HG4 : Hid (x1.heap[w.heap.size]? = some (.cells (rtc c g n p t) 27 (0, 0))) := (b1.block _ (Array.getElem?_eq_some_iff.1 HG3.out).1).trans HG3.out
  replace HSW : Hid _ := HST.out _ HG4.out
  clear b1
  refine hK _ _ HSW.out ?_
  clear hK K
  have hq : ¬ 9223372036854775807 < T0.size + S1.size := by have := HZ.out; have := HT0.out; omega
  refine wpAnyH_take (i := 8) (v := ?_) rfl (by kernel_rfl) (by kernel_rfl) (by kernel_rfl) (fun _ _ _ h => h) (Or.inl ⟨by kernel_rfl, ?_⟩) HSW.out ?_
  rotate_left
  · intro w hS
    obtain ⟨s0, s1, s2, s3, s4⟩ := hS
    go_simp
    try with_reducible rfl
  conv in (Act.put _ _ _) => simp only [List.getElem_toArray, List.getElem_cons_succ, List.getElem_cons_zero, Act.put, List.setIfInBounds_toArray, List.set_cons_succ, List.set_cons_zero]
  clear hq
  have hT : (T0 ++ S1).size = 16 := by have := HZ.out; have := HT0.out; rw [ByteArray.size_append]; omega
  obtain ⟨T1, hT1⟩ : ∃ T, T0 ++ S1 = T := ⟨_, rfl⟩
  rw [hT1] at hT ⊢
  have HT1 : Hid (T1.size = 16) := hT
  have HQ1 : Hid (T0 ++ S1 = T1) := hT1
  clear hT hT1
  refine readyH 12 _ (by kernel_rfl) rfl (by kernel_rfl) (fun K hK => ?_)
  go_simp
  refine (HP2.out _).mono ?_
  rintro e x2 ⟨rfl, b2⟩
  have HB5 : Hid (Below w.heap.size w x2) := HB4.out.trans (b2.mono HB4.out.size)
  have HG5 : Hid (x2.heap[w.heap.size]? = some (.cells (rtc c g n p t) 27 (0, 0))) := (b2.block _ (Array.getElem?_eq_some_iff.1 HG4.out).1).trans HG4.out
  replace HSW : Hid _ := HST.out _ HG5.out
  clear b2
  refine hK _ _ HSW.out ?_
  clear hK K
  have hq : ¬ 9223372036854775807 < T1.size + S2.size := by have := HZ.out; have := HT1.out; omega
  refine wpAnyH_take (i := 13) (v := ?_) rfl (by kernel_rfl) (by kernel_rfl) (by kernel_rfl) (fun _ _ _ h => h) (Or.inl ⟨by kernel_rfl, ?_⟩) HSW.out ?_
  rotate_left
  · intro w hS
    obtain ⟨s0, s1, s2, s3, s4⟩ := hS
    go_simp
    try with_reducible rfl
  conv in (Act.put _ _ _) => simp only [List.getElem_toArray, List.getElem_cons_succ, List.getElem_cons_zero, Act.put, List.setIfInBounds_toArray, List.set_cons_succ, List.set_cons_zero]
  clear hq
  have hT : (T1 ++ S2).size = 20 := by have := HZ.out; have := HT1.out; rw [ByteArray.size_append]; omega
  obtain ⟨T2, hT2⟩ : ∃ T, T1 ++ S2 = T := ⟨_, rfl⟩
  rw [hT2] at hT ⊢
  have HT2 : Hid (T2.size = 20) := hT
  have HQ2 : Hid (T1 ++ S2 = T2) := hT2
  clear hT hT2
  refine readyH 18 _ (by kernel_rfl) rfl (by kernel_rfl) (fun K hK => ?_)
  go_simp
  refine (HP3.out _).mono ?_
  rintro e x3 ⟨rfl, b3⟩
  have HB6 : Hid (Below w.heap.size w x3) := HB5.out.trans (b3.mono HB5.out.size)
  have HG6 : Hid (x3.heap[w.heap.size]? = some (.cells (rtc c g n p t) 27 (0, 0))) := (b3.block _ (Array.getElem?_eq_some_iff.1 HG5.out).1).trans HG5.out
  replace HSW : Hid _ := HST.out _ HG6.out
  clear b3
  refine hK _ _ HSW.out ?_
  clear hK K
  have hq : ¬ 9223372036854775807 < T2.size + S3.size := by have := HZ.out; have := HT2.out; omega
  refine wpAnyH_take (i := 19) (v := ?_) rfl (by kernel_rfl) (by kernel_rfl) (by kernel_rfl) (fun _ _ _ h => h) (Or.inl ⟨by kernel_rfl, ?_⟩) HSW.out ?_
  rotate_left
  · intro w hS
    obtain ⟨s0, s1, s2, s3, s4⟩ := hS
    go_simp
    try with_reducible rfl
  conv in (Act.put _ _ _) => simp only [List.getElem_toArray, List.getElem_cons_succ, List.getElem_cons_zero, Act.put, List.setIfInBounds_toArray, List.set_cons_succ, List.set_cons_zero]
  clear hq
  have hT : (T2 ++ S3).size = 24 := by have := HZ.out; have := HT2.out; rw [ByteArray.size_append]; omega
  obtain ⟨T3, hT3⟩ : ∃ T, T2 ++ S3 = T := ⟨_, rfl⟩
  rw [hT3] at hT ⊢
  have HT3 : Hid (T3.size = 24) := hT
  have HQ3 : Hid (T2 ++ S3 = T3) := hT3
  clear hT hT3
  have hq : ¬ 9223372036854775807 < T3.size + t.size := by have := HZ.out; have := HT3.out; omega
  refine wpAnyH_take (i := 23) (v := ?_) rfl (by kernel_rfl) (by kernel_rfl) (by kernel_rfl) (fun _ _ _ h => h) (Or.inl ⟨by kernel_rfl, ?_⟩) HSW.out ?_
  rotate_left
  · intro w hS
    obtain ⟨s0, s1, s2, s3, s4⟩ := hS
    go_simp
    try with_reducible rfl
  conv in (Act.put _ _ _) => simp only [List.getElem_toArray, List.getElem_cons_succ, List.getElem_cons_zero, Act.put, List.setIfInBounds_toArray, List.set_cons_succ, List.set_cons_zero]
  refine wpAnyH_take (i := 24) (v := ?_) rfl (by kernel_rfl) (by kernel_rfl) (by kernel_rfl) (fun _ _ _ h => h) (Or.inl ⟨by kernel_rfl, ?_⟩) HSW.out ?_
  rotate_left
  · intro w hS
    obtain ⟨s0, s1, s2, s3, s4⟩ := hS
    go_simp
    try with_reducible rfl
  conv in (Act.put _ _ _) => simp only [List.getElem_toArray, List.getElem_cons_succ, List.getElem_cons_zero, Act.put, List.setIfInBounds_toArray, List.set_cons_succ, List.set_cons_zero]
  refine wpAnyH_take (i := 25) (v := ?_) rfl (by kernel_rfl) (by kernel_rfl) (by kernel_rfl) (fun _ _ _ h => h) (Or.inl ⟨by kernel_rfl, ?_⟩) HSW.out ?_
  rotate_left
  · intro w hS
    obtain ⟨s0, s1, s2, s3, s4⟩ := hS
    go_simp
    try with_reducible rfl
  conv in (Act.put _ _ _) => simp only [List.getElem_toArray, List.getElem_cons_succ, List.getElem_cons_zero, Act.put, List.setIfInBounds_toArray, List.set_cons_succ, List.set_cons_zero]
  refine wpAnyH_done (by kernel_rfl) ?_ _
  rename_i hKK
  refine hKK _ _ ?_
  clear hKK
  go_wp2_with fail
  go_ret2
  have h0 := HQ0.out
  have h1 := HQ1.out
  have h2 := HQ2.out
  have h3 := HQ3.out
  refine ⟨?_, HB6.out⟩
  subst h0 h1 h2 h3
  rfl
set_option maxRecDepth 100000 in
theorem bt_ext (s : ByteArray) (a b k : Nat) (h1 : a + k < b) (h2 : b ≤ s.size) : bt (s.extract a b) k = bt s (a + k) := by
  unfold bt
  have e : (s.extract a b).data = s.data.extract a b := ByteArray.data_extract
  have hz : s.data.size = s.size := rfl
  rw [e, Array.getElem?_extract, if_pos (by omega)]
set_option maxRecDepth 100000 in
theorem val8 (s : ByteArray) (h : 12 ≤ s.size) : valB (s.extract 4 12) (s.extract 4 12).size = acc (fs s) 0 20 := by
  have e : (s.extract 4 12).size = 8 := by rw [ByteArray.size_extract]; omega
  rw [e, acc0]
  simp only [valB, fs]
  rw [bt_ext s 4 12 0 (by omega) h, bt_ext s 4 12 1 (by omega) h, bt_ext s 4 12 2 (by omega) h, bt_ext s 4 12 3 (by omega) h, bt_ext s 4 12 4 (by omega) h, bt_ext s 4 12 5 (by omega) h, bt_ext s 4 12 6 (by omega) h, bt_ext s 4 12 7 (by omega) h]
  simp
set_option maxRecDepth 100000 in
theorem val4 (s : ByteArray) (a : Nat) (h : a + 4 ≤ s.size) : valB (s.extract a (a + 4)) (s.extract a (a + 4)).size = bt s a + bt s (a + 1) * 256 + bt s (a + 2) * 65536 + bt s (a + 3) * 16777216 := by
  have e : (s.extract a (a + 4)).size = 4 := by rw [ByteArray.size_extract]; omega
  rw [e]
  simp only [valB]
  rw [bt_ext s a (a + 4) 0 (by omega) h, bt_ext s a (a + 4) 1 (by omega) h, bt_ext s a (a + 4) 2 (by omega) h, bt_ext s a (a + 4) 3 (by omega) h]
  simp
set_option maxRecDepth 100000 in
theorem okD_size {s : ByteArray} (h : okD s = true) : s.size = 56 := by
  unfold okD rrt rref at h
  simp only [Bool.and_eq_true, decide_eq_true_eq] at h
  have h4 := hasM_size h.1
  have h5 : (s.extract 24 s.size).size = 32 := h.2.2.2.2.2
  rw [ByteArray.size_extract] at h5
  omega
/-- What is told of bytes. -/
def DP (s : ByteArray) (w : World) (e : Ending) (w' : World) : Prop := e = .returned (.tuple #[rtv (rdR s), .int .i64 (if okD s then 0 else 120)]) ∧ Below w.heap.size w w'
set_option maxRecDepth 100000 in
theorem decode_any (s : ByteArray) (w : World) : Calls Try.prog 16 #[.string s] w (DP s w) := by
  unfold DP rdR
  cases h : okD s
  · exact decode_no s w h
  · exact decode_ok s w h
set_option maxRecDepth 100000 in
set_option maxHeartbeats 2000000 in
theorem sdecode_size (s : ByteArray) (w : World) (hs : s.size ≠ 56) : Calls Try.prog 17 #[.string s] w (DP s w) := by
  have hok : okD s = false := by
    cases h : okD s
    · rfl
    · exact absurd (okD_size h) hs
  have q1 : ((s.size : Int) != 56) = true := by simp; omega
  unfold DP rdR
  rw [hok]
  simp only [Bool.false_eq_true, if_false]
  have h0 := heap_alloc_new w (.cells #[.int .u64 0, .int .u32 0, .int .u32 0, .int .u32 0, .string ⟨#[]⟩] 27)
  have h1 := below_new w (.cells #[.int .u64 0, .int .u32 0, .int .u32 0, .int .u32 0, .string ⟨#[]⟩] 27)
  have HG : Hid ((w.alloc (.cells #[.int .u64 0, .int .u32 0, .int .u32 0, .int .u32 0, .string ⟨#[]⟩] 27)).heap[w.heap.size]? = some (.cells #[.int .u64 0, .int .u32 0, .int .u32 0, .int .u32 0, .string ⟨#[]⟩] 27 (0, 0))) := h0
  have HB : Hid (Below w.heap.size w (w.alloc (.cells #[.int .u64 0, .int .u32 0, .int .u32 0, .int .u32 0, .string ⟨#[]⟩] 27))) := h1
  have hl : w.heap.size < (w.alloc (.cells #[.int .u64 0, .int .u32 0, .int .u32 0, .int .u32 0, .string ⟨#[]⟩] 27)).heap.size := (Array.getElem?_eq_some_iff.1 h0).1
  clear h0 h1 hok hs
  go_enter Try.func17, Try.ntmps17
  go_wp2_with fail
  exact bodyPost_ret (results_root2 rfl _ _ w.heap.size _ _ _ _ _ rfl rfl HG.out) rfl ⟨rfl, HB.out⟩
set_option maxRecDepth 100000 in
set_option maxHeartbeats 2000000 in
theorem sdecode_mark (s : ByteArray) (w : World) (hs : s.size = 56) (hM : hasM s = false) : Calls Try.prog 17 #[.string s] w (DP s w) := by
  have hok : okD s = false := by unfold okD; rw [hM]; rfl
  have q1 : ((s.size : Int) != 56) = false := by simp; omega
  have q2 : ((s.extract 0 4).toList == [115, 112, 104, 114]) = false := hM
  have q3 : (4 : Int) ≤ (s.size : Int) := by omega
  unfold DP rdR
  rw [hok]
  simp only [Bool.false_eq_true, if_false]
  have h0 := heap_alloc_new w (.cells #[.int .u64 0, .int .u32 0, .int .u32 0, .int .u32 0, .string ⟨#[]⟩] 27)
  have h1 := below_new w (.cells #[.int .u64 0, .int .u32 0, .int .u32 0, .int .u32 0, .string ⟨#[]⟩] 27)
  have HG : Hid ((w.alloc (.cells #[.int .u64 0, .int .u32 0, .int .u32 0, .int .u32 0, .string ⟨#[]⟩] 27)).heap[w.heap.size]? = some (.cells #[.int .u64 0, .int .u32 0, .int .u32 0, .int .u32 0, .string ⟨#[]⟩] 27 (0, 0))) := h0
  have HB : Hid (Below w.heap.size w (w.alloc (.cells #[.int .u64 0, .int .u32 0, .int .u32 0, .int .u32 0, .string ⟨#[]⟩] 27))) := h1
  have hl : w.heap.size < (w.alloc (.cells #[.int .u64 0, .int .u32 0, .int .u32 0, .int .u32 0, .string ⟨#[]⟩] 27)).heap.size := (Array.getElem?_eq_some_iff.1 h0).1
  clear h0 h1 hok
  go_enter Try.func17, Try.ntmps17
  go_wp2_with fail
  exact bodyPost_ret (results_root2 rfl _ _ w.heap.size _ _ _ _ _ rfl rfl HG.out) rfl ⟨rfl, HB.out⟩
end Go.Proofs.Ytofealdlgpmheaa.Ro
/- Roots and bytes are one to one, in plain terms. -/
namespace Go.Proofs.Ytofealdlgpmheaa.Ro
open Go.RowKit Go.Lib Go.Shelf
open Go.Proofs.Ytofealdlgpmheaa.Rc Go.Proofs.Ytofealdlgpmheaa.Rq
/-- A root's bytes as a text. -/
def bR (r : Rt) : ByteArray := ⟨(encL r).toArray⟩
theorem encL_split (r : Rt) : encL r = ([115, 112, 104, 114] ++ sd r.c r.g r.n r.p 20) ++ r.t.data.toList := by unfold encL; rw [List.append_assoc]
theorem bR_size (r : Rt) : (bR r).size = 24 + r.t.size := by
  have h : (encL r).length = 24 + r.t.size := by
    rw [encL_split, List.length_append, List.length_append, sd_len]
    rfl
  show (encL r).toArray.size = _
  rw [List.size_toArray]
  exact h
theorem bR_bt (r : Rt) (k : Nat) (hk : k < 20) : fs (bR r) k = nm r.c r.g r.n r.p (ix k) / 2 ^ sh k % 256 := by
  have hl : (encL r)[4 + k]? = some (sb r.c r.g r.n r.p k) := by
    unfold encL
    rw [List.getElem?_append_right (by simp), List.getElem?_append_left (by rw [sd_len]; simp; omega)]
    unfold sd
    rw [List.getElem?_map, List.getElem?_range (by simp; omega)]
    simp
  unfold fs bt bR
  simp only [List.getElem?_toArray, hl, Option.getD_some]
  unfold sb
  rw [UInt8.toNat_ofNat', Nat.mod_eq_of_lt (Nat.mod_lt _ (by decide))]
theorem bR_mark (r : Rt) : hasM (bR r) = true := by
  unfold hasM
  rw [beq_iff_eq, ByteArray.toList_eq, ByteArray.data_extract]
  simp [bR, encL]
theorem bR_tail (r : Rt) : (bR r).extract 24 (bR r).size = r.t := by
  apply ByteArray.ext
  rw [ByteArray.data_extract]
  apply Array.toList_inj.1
  have hl : ([115, 112, 104, 114] ++ sd r.c r.g r.n r.p 20 : List UInt8).length = 24 := by rw [List.length_append, sd_len]; rfl
  have he : (bR r).data.toList = ([115, 112, 104, 114] ++ sd r.c r.g r.n r.p 20) ++ r.t.data.toList := encL_split r
  rw [Array.toList_extract, he, bR_size]
  unfold List.extract
  rw [List.drop_append_of_le_length (by omega), List.drop_of_length_le (by omega), List.nil_append]
  exact List.take_of_length_le (by have e : r.t.data.toList.length = r.t.size := rfl; omega)
theorem bR_root (r : Rt) (ho : okR r) : rootOf (bR r) = r := by
  obtain ⟨c, g, n, p, t⟩ := r
  obtain ⟨h1, h2, h3, h4⟩ := ho
  simp only at h1 h2 h3 h4
  have hf := bR_bt ⟨c, g, n, p, t⟩
  have ht := bR_tail ⟨c, g, n, p, t⟩
  unfold rootOf
  rw [ht, acc0, acc1, acc2, acc3]
  rw [hf 0 (by decide)]
  rw [hf 1 (by decide)]
  rw [hf 2 (by decide)]
  rw [hf 3 (by decide)]
  rw [hf 4 (by decide)]
  rw [hf 5 (by decide)]
  rw [hf 6 (by decide)]
  rw [hf 7 (by decide)]
  rw [hf 8 (by decide)]
  rw [hf 9 (by decide)]
  rw [hf 10 (by decide)]
  rw [hf 11 (by decide)]
  rw [hf 12 (by decide)]
  rw [hf 13 (by decide)]
  rw [hf 14 (by decide)]
  rw [hf 15 (by decide)]
  rw [hf 16 (by decide)]
  rw [hf 17 (by decide)]
  rw [hf 18 (by decide)]
  rw [hf 19 (by decide)]
  simp only [ix, sh, nm]
  simp
  refine ⟨?_, ?_, ?_, ?_⟩ <;> omega
theorem dec_enc (r : Rt) (ho : okR r) (h : rrt r = true) : okD (bR r) = true ∧ rootOf (bR r) = r := by
  have e := bR_root r ho
  refine ⟨?_, e⟩
  unfold okD
  rw [bR_mark, e, h]
  rfl
theorem nm_acc (f : Nat → Nat) (hf : ∀ i, f i < 256) (k : Nat) (hk : k < 20) : nm (acc f 0 20) (acc f 1 20) (acc f 2 20) (acc f 3 20) (ix k) / 2 ^ sh k % 256 = f k := by
  have f0 := hf 0; have f1 := hf 1; have f2 := hf 2; have f3 := hf 3; have f4 := hf 4; have f5 := hf 5; have f6 := hf 6; have f7 := hf 7; have f8 := hf 8; have f9 := hf 9
  have f10 := hf 10; have f11 := hf 11; have f12 := hf 12; have f13 := hf 13; have f14 := hf 14; have f15 := hf 15; have f16 := hf 16; have f17 := hf 17; have f18 := hf 18; have f19 := hf 19
  have hc : k = 0 ∨ k = 1 ∨ k = 2 ∨ k = 3 ∨ k = 4 ∨ k = 5 ∨ k = 6 ∨ k = 7 ∨ k = 8 ∨ k = 9 ∨ k = 10 ∨ k = 11 ∨ k = 12 ∨ k = 13 ∨ k = 14 ∨ k = 15 ∨ k = 16 ∨ k = 17 ∨ k = 18 ∨ k = 19 := by omega
  clear hf hk
  rw [acc0, acc1, acc2, acc3]
  rcases hc with rfl | rfl | rfl | rfl | rfl | rfl | rfl | rfl | rfl | rfl | rfl | rfl | rfl | rfl | rfl | rfl | rfl | rfl | rfl | rfl
  all_goals (simp [nm, ix, sh]; omega)
theorem enc_dec (s : ByteArray) (h : okD s = true) : bR (rootOf s) = s := by
  have hz := okD_size h
  have hM : hasM s = true := by unfold okD at h; simp only [Bool.and_eq_true] at h; exact h.1
  apply ByteArray.ext
  apply Array.toList_inj.1
  have hsl : s.data.toList.length = 56 := hz
  have htl : (rootOf s).t.data.toList = s.data.toList.drop 24 := by
    show (s.extract 24 s.size).data.toList = _
    rw [ByteArray.data_extract, Array.toList_extract]
    unfold List.extract
    exact List.take_of_length_le (by rw [List.length_drop]; omega)
  have h4 : s.data.toList.take 4 = [115, 112, 104, 114] := by
    unfold hasM at hM
    rw [beq_iff_eq, ByteArray.toList_eq, ByteArray.data_extract, Array.toList_extract] at hM
    simpa [List.extract] using hM
  have hd : sd (rootOf s).c (rootOf s).g (rootOf s).n (rootOf s).p 20 = (s.data.toList.drop 4).take 20 := by
    apply List.ext_getElem
    · rw [sd_len, List.length_take, List.length_drop]; omega
    · intro i h1 h2
      rw [sd_len] at h1
      have e := nm_acc (fs s) (fs_lt s) i h1
      rw [List.getElem_take, List.getElem_drop]
      apply UInt8.toNat_inj.1
      have e2 : (sd (rootOf s).c (rootOf s).g (rootOf s).n (rootOf s).p 20)[i]'(by rw [sd_len]; exact h1) = sb (rootOf s).c (rootOf s).g (rootOf s).n (rootOf s).p i := by
        unfold sd
        rw [List.getElem_map, List.getElem_range]
      rw [e2]
      unfold sb
      rw [UInt8.toNat_ofNat', Nat.mod_eq_of_lt (Nat.mod_lt _ (by decide))]
      refine e.trans ?_
      unfold fs bt
      rw [Array.getElem?_eq_getElem (by show 4 + i < s.size; omega)]
      simp
  show encL (rootOf s) = _
  unfold encL
  rw [htl, hd, ← h4, ← List.append_assoc]
  have e : s.data.toList.take 4 ++ (s.data.toList.drop 4).take 20 = s.data.toList.take 24 := by
    rw [show 24 = 4 + 20 from rfl, List.take_add]
  rw [e, List.take_append_drop]
end Go.Proofs.Ytofealdlgpmheaa.Ro
