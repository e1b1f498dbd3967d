/- The document's example. -/
import Derived.Test.YtaoadopnhphjbaaDoorPWK
namespace Go.Proofs.YtaoadopnhphjbaaDoor.Rs
open Go.RowKit Go.Lib
def k0 : Rk.Ky := (1, Rk.rep 9)
def h0 : Hd := (3, 1, 2, 5)
def ab : ByteArray := ⟨#[97, 98]⟩
set_option maxRecDepth 100000 in
theorem k0_right : Rk.rightS [k0] = true := by
  rw [Rk.right_iff]
  exact ⟨by simp, (Rk.rises_cons _ _ _).2 ⟨by decide, Rk.rep_size 9, rfl⟩⟩
set_option maxRecDepth 100000 in
theorem k0_find : Rk.feS [k0] 1 = 0 := by
  unfold Rk.feS
  rw [if_pos k0_right]
  rfl
set_option maxRecDepth 100000 in
theorem h0_fits : fits h0 := by unfold fits h0; decide
set_option maxRecDepth 100000 in
theorem ab_seal : sE [k0] h0 ab = 0 := (se_zero _ _ _).2 ⟨k0_find, by decide⟩
set_option maxRecDepth 100000 in
theorem open_nil (Kt : Nat → Int) (b : ByteArray) (hs : b.size = 256) (hp : b.extract 0 24 = putS h0) : oE Kt [] b = 41 ∧ oH Kt [] b = zh ∧ oS Kt [] b = ⟨#[]⟩ := by
  have e : oE Kt [] b = 41 := by
    unfold oE
    rw [if_pos (by rfl), if_pos hs, hp, if_pos (gk_put _ h0_fits)]
    rfl
  exact ⟨e, oe_none Kt [] b (by rw [e]; decide)⟩
set_option maxRecDepth 100000 in
theorem eql_heads (x y : Hd) (w : World) : (binOp .eql 25 (.agg #[.int .u32 x.1, .int .u32 x.2.1, .int .u32 x.2.2.1, .int .u64 x.2.2.2]) (.agg #[.int .u32 y.1, .int .u32 y.2.1, .int .u32 y.2.2.1, .int .u64 y.2.2.2])).run Tryd.prog w = .ok (.bool (decide (x = y))) w := by
  have hS : Tryd.prog.underlying 25 = some (.struct (Tryd.prog.fieldsOf 25)) := by kernel_rfl
  have hp : Tryd.prog.stoodInHeld 25 = false := by kernel_rfl
  have u32 := Tryd.underlying22
  have u64 := Tryd.underlying23
  obtain ⟨a, b, c, d⟩ := x
  obtain ⟨a', b', c', d'⟩ := y
  rw [run_eql_struct, show (10000 : Nat) = 9999 + 1 from rfl, run_equalIn_agg w 9999 25 _ _ hS hp]
  simp only [Program.fieldsOf, Tryd.underlying25]
  go_simp
  by_cases h1 : a = a' <;> by_cases h2 : b = b' <;> by_cases h3 : c = c' <;> by_cases h4 : d = d' <;> simp [h1, h2, h3, h4]
set_option maxRecDepth 100000 in
set_option maxHeartbeats 2000000 in
theorem shown_any (Kt : Nat → Int) (w : World) (hT : Tb Kt w) :
    Calls Tryd.prog 10 #[] w fun e w' => e = .returned (.bool true) ∧ Below w.heap.size w w' := by
  obtain ⟨z1, z2, z3, z4, z5⟩ := open_seal Kt [k0] h0 h0_fits ab ab_seal
  obtain ⟨n1, n2, n3⟩ := open_nil Kt _ z1 z2
  have HS : Hid (∀ W o cap, Rk.Ring W o cap [k0] → Tb Kt W → Calls Tryd.prog 16 #[.slice o 1 cap, hv h0, .string ab] W fun e w' => e = .returned (.tuple #[.string (sV Kt [k0] h0 ab), .int .i64 0]) ∧ Below W.heap.size W w') := fun W o cap hr hW => by
    have := seal_any Kt [k0] o cap h0 h0_fits ab W hr hW
    rw [ab_seal] at this
    exact this
  have HO : Hid (∀ W o cap, Rk.Ring W o cap [k0] → Tb Kt W → Calls Tryd.prog 19 #[.slice o 1 cap, .string (sV Kt [k0] h0 ab)] W fun e w' => e = .returned (.tuple #[hv h0, .string ab, .int .i64 0]) ∧ Below W.heap.size W w') := fun W o cap hr hW => by
    have := open_any Kt [k0] o cap (sV Kt [k0] h0 ab) W hr hW
    rw [z3, z4, z5] at this
    exact this
  have HN : Hid (∀ W, Tb Kt W → Calls Tryd.prog 19 #[.slice none 0 0, .string (sV Kt [k0] h0 ab)] W fun e w' => e = .returned (.tuple #[hv zh, .string ⟨#[]⟩, .int .i64 41]) ∧ Below W.heap.size W w') := fun W hW => by
    have := open_any Kt [] none 0 (sV Kt [k0] h0 ab) W (Rk.nil_ring W) hW
    rw [n1, n2, n3] at this
    exact this
  have HG : Hid (∀ W, Calls Tryd.prog 15 #[.string (sV Kt [k0] h0 ab)] W fun e w' => e = .returned (.string (tagS (sV Kt [k0] h0 ab))) ∧ w' = W) := tag_any _ (by unfold maxLen; omega)
  have HK : Hid (∀ W, Calls Tryd.prog 21 #[.int .u32 1, .int .u8 9] W fun e w' => e = .returned (Rk.kv k0) ∧ Below W.heap.size W w') := Rk.key_any 1 9
  have zt : (tagS (sV Kt [k0] h0 ab)).size = 32 := by unfold tagS; rw [Rp.ext_size, z1]; rfl
  have HT : Hid (Tb Kt w) := hT
  clear z2 z3 z4 z5 n1 n2 n3 hT
  generalize tagS (sV Kt [k0] h0 ab) = ta at *
  generalize sV Kt [k0] h0 ab = b at *
  unfold hv Rk.kv h0 zh at *
  unfold ab at *
  have zb : (b.size : Int) = 256 := by omega
  have zt2 : (ta.size : Int) = 32 := by omega
  obtain ⟨s0, hs0⟩ : ∃ s0, k0.2 = s0 := ⟨_, rfl⟩
  have hk1 : k0.1 = 1 := rfl
  rw [hs0, hk1] at HK
  have HRG : Hid (∀ W g, W.heap[g]? = some (.cells #[.int .u32 1, .string s0] 44 (0, 0)) → Rk.Ring W (some ⟨g, 0, none⟩) 1 [k0]) := fun W g hg => Rk.one_ring (k := k0) (by rw [hs0, hk1]; exact hg)
  clear hs0 hk1 z1 zt
  simp only at HS HO HN
  go_enter Tryd.func10, Tryd.ntmps10
  go_wp2_with fail
  obtain ⟨w1, hw1⟩ : ∃ w1, w.alloc (.cells #[.int .u32 3, .int .u32 1, .int .u32 2, .int .u64 5] 25) = w1 := ⟨_, rfl⟩
  have B1 : Hid (Below w.heap.size w w1) := by rw [← hw1]; exact (Below.refl _ w).alloc (Nat.le_refl _) _
  have X1 : Hid (w1.heap[w.heap.size]? = some (.cells #[.int .u32 3, .int .u32 1, .int .u32 2, .int .u64 5] 25 (0, 0))) := by rw [← hw1]; exact heap_alloc_new w _
  have l1 : w.heap.size < w1.heap.size := (Array.getElem?_eq_some_iff.1 X1.out).1
  rw [hw1]
  clear hw1
  have HC : Hid (∀ w', Below w1.heap.size w1 w' → w'.cell? ⟨w.heap.size, 0, none⟩ = some (.int .u32 3) ∧ w'.cell? ⟨w.heap.size, 1, none⟩ = some (.int .u32 1) ∧ w'.cell? ⟨w.heap.size, 2, none⟩ = some (.int .u32 2) ∧ w'.cell? ⟨w.heap.size, 3, none⟩ = some (.int .u64 5)) := fun W hB => by
    have hV := (hB.block _ l1).trans X1.out
    exact ⟨by rw [cell_of_row _ _ _ _ _ _ hV]; rfl, by rw [cell_of_row _ _ _ _ _ _ hV]; rfl, by rw [cell_of_row _ _ _ _ _ _ hV]; rfl, by rw [cell_of_row _ _ _ _ _ _ hV]; rfl⟩
  have HTB : Hid (∀ W, Below w1.heap.size w1 W → Tb Kt W) := fun W hB => HT.out.below (B1.out.trans (hB.mono B1.out.size)) (Nat.le_refl _)
  refine wp_region_held (S := fun w' => w'.cell? ⟨w.heap.size, 0, none⟩ = some (.int .u32 3) ∧ w'.cell? ⟨w.heap.size, 1, none⟩ = some (.int .u32 1) ∧ w'.cell? ⟨w.heap.size, 2, none⟩ = some (.int .u32 2) ∧ w'.cell? ⟨w.heap.size, 3, none⟩ = some (.int .u64 5)) (by kernel_rfl) ?_
  change wpAnyH _ _ _ _ _ _ _ _ (World.drew _)
  obtain ⟨w2, hw2⟩ : ∃ w2, w1.drew = w2 := ⟨_, rfl⟩
  have D2 : Hid (Below w1.heap.size w1 w2) := by rw [← hw2]; exact (Below.refl _ _).drew
  rw [hw2]
  clear hw2
  have HSW : Hid _ := HC.out w2 D2.out
  refine wpAnyH_take (i := 2) (v := ?_) rfl (by kernel_rfl) (by kernel_rfl) (by kernel_rfl) (fun _ _ _ h => h) (Or.inl ⟨by kernel_rfl, ?_⟩) HSW.out ?_
  rotate_left
  · intro w hS
    obtain ⟨e1, e2, e3, e4⟩ := hS
    go_simp
    try with_reducible rfl
  conv in (Act.put _ _ _) => simp only [List.getElem_toArray, List.getElem_cons_succ, List.getElem_cons_zero, Act.put, List.setIfInBounds_toArray, List.set_cons_succ, List.set_cons_zero]
  refine readyH 0 _ (by kernel_rfl) rfl (by kernel_rfl) (fun K hK => ?_)
  go_simp
  refine (HK.out w2).mono ?_
  rintro e w3 ⟨rfl, b3⟩
  have D3 : Hid (Below w1.heap.size w1 w3) := D2.out.trans (b3.mono D2.out.size)
  clear b3 D2 HSW
  refine hK _ _ (HC.out w3 D3.out) ?_
  clear hK K
  refine readyH 1 _ (by kernel_rfl) rfl (by kernel_rfl) (fun K hK => ?_)
  go_simp
  obtain ⟨w4, hw4⟩ : ∃ w4, w3.alloc (.cells #[.int .u32 1, .string s0] 44) = w4 := ⟨_, rfl⟩
  have b4 : Below w3.heap.size w3 w4 := by rw [← hw4]; exact (Below.refl _ w3).alloc (Nat.le_refl _) _
  have D4 : Hid (Below w1.heap.size w1 w4) := D3.out.trans (b4.mono D3.out.size)
  have R4 : Hid (Rk.Ring w4 (some ⟨w3.heap.size, 0, none⟩) 1 [k0]) := HRG.out w4 w3.heap.size (by rw [← hw4]; exact heap_alloc_new w3 _)
  rw [hw4]
  clear hw4 b4 D3
  refine hK _ _ (HC.out w4 D4.out) ?_
  clear hK K
  refine readyH 3 _ (by kernel_rfl) rfl (by kernel_rfl) (fun K hK => ?_)
  go_simp
  refine (HS.out w4 _ 1 R4.out (HTB.out w4 D4.out)).mono ?_
  rintro e w5 ⟨rfl, b5⟩
  have D5 : Hid (Below w1.heap.size w1 w5) := D4.out.trans (b5.mono D4.out.size)
  clear b5 D4 R4 HS
  refine hK _ _ (HC.out w5 D5.out) ?_
  clear hK K
  have HSW : Hid _ := HC.out w5 D5.out
  refine wpAnyH_take (i := 4) (v := ?_) rfl (by kernel_rfl) (by kernel_rfl) (by kernel_rfl) (fun _ _ _ h => h) (Or.inl ⟨by kernel_rfl, ?_⟩) HSW.out ?_
  rotate_left
  · intro w hS
    obtain ⟨e1, e2, e3, e4⟩ := hS
    go_simp
    try with_reducible rfl
  conv in (Act.put _ _ _) => simp only [List.getElem_toArray, List.getElem_cons_succ, List.getElem_cons_zero, Act.put, List.setIfInBounds_toArray, List.set_cons_succ, List.set_cons_zero]
  refine wpAnyH_take (i := 5) (v := ?_) rfl (by kernel_rfl) (by kernel_rfl) (by kernel_rfl) (fun _ _ _ h => h) (Or.inl ⟨by kernel_rfl, ?_⟩) HSW.out ?_
  rotate_left
  · intro w hS
    obtain ⟨e1, e2, e3, e4⟩ := hS
    go_simp
    try with_reducible rfl
  conv in (Act.put _ _ _) => simp only [List.getElem_toArray, List.getElem_cons_succ, List.getElem_cons_zero, Act.put, List.setIfInBounds_toArray, List.set_cons_succ, List.set_cons_zero]
  refine wpAnyH_take (i := 6) (v := ?_) rfl (by kernel_rfl) (by kernel_rfl) (by kernel_rfl) (fun _ _ _ h => h) (Or.inl ⟨by kernel_rfl, ?_⟩) HSW.out ?_
  rotate_left
  · intro w hS
    obtain ⟨e1, e2, e3, e4⟩ := hS
    go_simp
    try with_reducible rfl
  conv in (Act.put _ _ _) => simp only [List.getElem_toArray, List.getElem_cons_succ, List.getElem_cons_zero, Act.put, List.setIfInBounds_toArray, List.set_cons_succ, List.set_cons_zero]
  refine readyH 7 _ (by kernel_rfl) rfl (by kernel_rfl) (fun K hK => ?_)
  go_simp
  refine hK _ _ HSW.out ?_
  clear hK K
  refine readyH 8 _ (by kernel_rfl) rfl (by kernel_rfl) (fun K hK => ?_)
  go_simp
  refine hK _ _ HSW.out ?_
  clear hK K
  refine wpAnyH_done (by kernel_rfl) ?_ _
  clear HSW
  go_wp2_with fail
  refine (HK.out w5).mono ?_
  rintro e w6 ⟨rfl, b6⟩
  have D6 : Hid (Below w1.heap.size w1 w6) := D5.out.trans (b6.mono D5.out.size)
  clear b6 D5 HK
  go_wp2_with fail
  obtain ⟨w7, hw7⟩ : ∃ w7, w6.alloc (.cells #[.int .u32 1, .string s0] 44) = w7 := ⟨_, rfl⟩
  have b7 : Below w6.heap.size w6 w7 := by rw [← hw7]; exact (Below.refl _ w6).alloc (Nat.le_refl _) _
  have D7 : Hid (Below w1.heap.size w1 w7) := D6.out.trans (b7.mono D6.out.size)
  have R7 : Hid (Rk.Ring w7 (some ⟨w6.heap.size, 0, none⟩) 1 [k0]) := HRG.out w7 w6.heap.size (by rw [← hw7]; exact heap_alloc_new w6 _)
  rw [hw7]
  clear hw7 b7 D6
  refine (HO.out w7 _ 1 R7.out (HTB.out w7 D7.out)).mono ?_
  rintro e w8 ⟨rfl, b8⟩
  have D8 : Hid (Below w1.heap.size w1 w8) := D7.out.trans (b8.mono D7.out.size)
  clear b8 D7 R7 HO
  go_wp2_with fail
  obtain ⟨w9, hw9⟩ : ∃ w9, w8.alloc (.cells #[.int .u32 3, .int .u32 1, .int .u32 2, .int .u64 5] 25) = w9 := ⟨_, rfl⟩
  have b9 : Below w8.heap.size w8 w9 := by rw [← hw9]; exact (Below.refl _ w8).alloc (Nat.le_refl _) _
  have D9 : Hid (Below w1.heap.size w1 w9) := D8.out.trans (b9.mono D8.out.size)
  have G9 : Hid (w9.heap[w8.heap.size]? = some (.cells #[.int .u32 3, .int .u32 1, .int .u32 2, .int .u64 5] 25 (0, 0))) := by rw [← hw9]; exact heap_alloc_new w8 _
  rw [hw9]
  clear hw9 b9 D8
  refine (HN.out w9 (HTB.out w9 D9.out)).mono ?_
  rintro e wA ⟨rfl, bA⟩
  have DA : Hid (Below w1.heap.size w1 wA) := D9.out.trans (bA.mono D9.out.size)
  have GA : Hid (wA.heap[w8.heap.size]? = some (.cells #[.int .u32 3, .int .u32 1, .int .u32 2, .int .u64 5] 25 (0, 0))) := (bA.block _ (Array.getElem?_eq_some_iff.1 G9.out).1).trans G9.out
  clear bA D9 G9 HN
  have heq : ∀ w, (binOp .eql 25 (.agg #[.int .u32 3, .int .u32 1, .int .u32 2, .int .u64 5]) (.agg #[.int .u32 3, .int .u32 1, .int .u32 2, .int .u64 5])).run Tryd.prog w = .ok (.bool true) w := fun w => eql_heads h0 h0 w
  obtain ⟨ga, gb, gc, gd⟩ := HC.out wA DA.out
  have gw : w.heap.size < wA.heap.size := Nat.lt_of_lt_of_le l1 DA.out.size
  have g8 : w8.heap.size < wA.heap.size := (Array.getElem?_eq_some_iff.1 GA.out).1
  have ha : wA.cell? ⟨w8.heap.size, 0, none⟩ = some (.int .u32 3) := by rw [cell_of_row _ _ _ _ _ _ GA.out]; rfl
  have hb : wA.cell? ⟨w8.heap.size, 1, none⟩ = some (.int .u32 1) := by rw [cell_of_row _ _ _ _ _ _ GA.out]; rfl
  have hc : wA.cell? ⟨w8.heap.size, 2, none⟩ = some (.int .u32 2) := by rw [cell_of_row _ _ _ _ _ _ GA.out]; rfl
  have hd : wA.cell? ⟨w8.heap.size, 3, none⟩ = some (.int .u64 5) := by rw [cell_of_row _ _ _ _ _ _ GA.out]; rfl
  go_wp2_with fail
  clear ga gb gc gd ha hb hc hd
  refine (HG.out _).mono ?_
  rintro e wB ⟨rfl, rfl⟩
  go_wp2_with fail
  go_ret
  exact ⟨rfl, B1.out.trans ((DA.out.alloc DA.out.size _).mono B1.out.size)⟩
end Go.Proofs.YtaoadopnhphjbaaDoor.Rs
