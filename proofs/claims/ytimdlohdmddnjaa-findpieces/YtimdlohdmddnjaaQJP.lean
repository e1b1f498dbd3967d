/- The reference: the nearest rows, one by one. -/
import Derived.Test.YtimdlohdmddnjaaQBY
import Derived.Test.YtimdlohdmddnjaaQOC
import Derived.Test.YtimdlohdmddnjaaQOG
namespace Go.Proofs.Ytimdlohdmddnjaa.Rq
open Go.RowKit Go.Lib Go.Shelf
open Go.Proofs.Ytimdlohdmddnjaa.Rc
def QD (p x u v q z a b : Nat) (w : World) : Prop := (w.cell? ⟨p, x + 1, none⟩ = some (.int .u32 (u : Int)) ∧ w.cell? ⟨p, x + 2, none⟩ = some (.int .u32 (v : Int))) ∧ w.cell? ⟨q, z + 1, none⟩ = some (.int .u32 (a : Int)) ∧ w.cell? ⟨q, z + 2, none⟩ = some (.int .u32 (b : Int))
set_option maxRecDepth 100000 in
theorem QD.same {p x u v q z a b : Nat} {w w' : World} (h : QD p x u v q z a b w) (e : w'.heap[p]? = w.heap[p]?) (f : w'.heap[q]? = w.heap[q]?) : QD p x u v q z a b w' :=
 ⟨⟨(World.cell?_of_block (a := ⟨p, x + 1, none⟩) e).trans h.1.1, (World.cell?_of_block (a := ⟨p, x + 2, none⟩) e).trans h.1.2⟩, (World.cell?_of_block (a := ⟨q, z + 1, none⟩) f).trans h.2.1, (World.cell?_of_block (a := ⟨q, z + 2, none⟩) f).trans h.2.2⟩
set_option maxRecDepth 100000 in
set_option maxHeartbeats 8000000 in
theorem rNear_ok (l : List Rw) (o : Option Addr) (cap x y kn M : Nat) (hx : x < 2147483648) (hy : y < 2147483648) (hk : kn < 9223372036854775808) (w : World) (hr : RowsAt w o cap l) (hon : On l) (hm : l.length ≤ 1000) (hri : Rise l) (hM : ∀ r ∈ l, r.id < M) :
  Calls Try.prog 57 #[.slice o l.length cap, .int .u32 (x : Int), .int .u32 (y : Int), .int .i64 (kn : Int)] w fun e w' => ∃ v, e = .returned (.tuple #[v, .int .i64 0]) ∧ w'.ownsRow w.heap.size 54 4 v ((nsort x y M l).take kn).length (((nsort x y M l).take kn).flatMap rc) ∧ Below w.heap.size w w' := by
 have qx : ¬ (2147483648 : Int) ≤ (x : Int) := by omega
 have qy : ¬ (2147483648 : Int) ≤ (y : Int) := by omega
 have qk : decide ((kn : Int) < 0) = false := decide_eq_false (by omega)
 have HSQ : Hid (∀ r : Rw, r ∈ l → ∀ W : World, Calls Try.prog 82 #[.int .u32 (x : Int), .int .u32 (y : Int), .int .u32 (r.x : Int), .int .u32 (r.y : Int)] W fun e w' => e = .returned (.int .u64 (Rq.dist r.x r.y x y : Int)) ∧ Below W.heap.size W w') := fun r hr W => (eSquare_any x y r.x r.y hx hy (hon r hr).1 (hon r hr).2 W).mono fun e w' ⟨h1, h2⟩ => ⟨by rw [h1, sq_dist], by rw [h2]; exact Below.refl _ _⟩
 have HR : Hid (RowsAt w o cap l) := hr
 have HRI : Hid (Rise l) := hri
 have HID : Hid (∀ r ∈ l, r.id < M) := hM
 obtain ⟨S, hS⟩ : ∃ S, nsort x y M l = S := ⟨_, rfl⟩
 have HS : Hid (nsort x y M l = S) := hS
 have hSl : S.length = l.length := by rw [← hS]; exact (nsort_perm x y M l).length_eq
 rw [hS]
 obtain ⟨n, hn⟩ : ∃ n, l.length = n := ⟨_, rfl⟩
 have HN : Hid (l.length = n) := hn
 rw [hn] at hm hSl ⊢
 have HSL : Hid (S.length = n) := hSl
 have qn : (n : Int) ≤ 1000 := by omega
 have hmk := make_bools n hm w
 have HT0 : Hid (Tk (w.alloc (.cells (madeCells #[.bool false] n) 4)) w.heap.size n fun _ => false) := tk_made w n
 have HB0 : Hid (Below w.heap.size w (w.alloc (.cells (madeCells #[.bool false] n) 4))) := below_new w _
 have hs0 : (w.alloc (.cells (madeCells #[.bool false] n) 4)).heap.size = w.heap.size + 1 := by simp
 have HS0 : Hid _ := hs0
 clear hr hon hri hM hS hn hSl hs0 hx hy
 go_enter Try.func57, Try.ntmps57
 go_wp2_with fail
 clear hmk
 generalize w.alloc (.cells (madeCells #[.bool false] n) 4) = W0 at *
 go_loopw [10, 12, 13] (fun ov _ _ wr => ∃ (t : Nat) (tk : Nat → Bool), (t ≤ n ∧ t ≤ kn) ∧ wr.ownsRow (w.heap.size + 1) 54 4 ov t ((S.take t).flatMap rc) ∧ Tk wr w.heap.size n tk ∧ Tkn l S t tk ∧ Below w.heap.size w wr) (fun ov _ _ _ => n - (match ov with | .slice _ k _ => k | _ => 0))
 case atStart => exact ⟨0, fun _ => false, by omega, by rw [List.take_zero]; exact World.ownsRow_nil _ _ _ _, HT0.out, tkn_zero _ _, HB0.out⟩
 case round =>
  obtain ⟨t, tk, ⟨htn, htk⟩, ho, hT, hTn, hb⟩ := hrel
  have HO : Hid _ := ho
  have HT : Hid (Tk wr w.heap.size n tk) := hT
  have HTN : Hid (Tkn l S t tk) := hTn
  have HB : Hid (Below w.heap.size w wr) := hb
  obtain ⟨fo, fc, rfl, -⟩ := sl_of_own ho
  have qt : (t : Int) ≤ 1000 := by omega
  clear ho hT hTn hb
  by_cases hend : t < kn ∧ t < n
  ·have q1 : (t : Int) < (kn : Int) := by omega
   have q2 : (t : Int) < (n : Int) := by omega
   go_wp2_with fail
   obtain ⟨W1, hW1⟩ : ∃ W1, W1 = wr := ⟨wr, rfl⟩
   subst hW1
   go_loopw [12, 13] (fun bz iv wr2 => ∃ (i : Nat) (z : Int), iv = .int .i64 (i : Int) ∧ bz = .int .i64 z ∧ i ≤ n ∧ Best l x y M tk i z ∧ Below W1.heap.size W1 wr2) (fun _ iv _ => n - natOf iv)
   case atStart => exact ⟨0, -1, rfl, rfl, Nat.zero_le _, .inl ⟨rfl, fun j hj => by omega⟩, Below.refl _ _⟩
   case round =>
    obtain ⟨i, z, rfl, rfl, hin, hbest, hbx⟩ := hrel
    have HBS : Hid (Best l x y M tk i z) := hbest
    have HBX : Hid (Below W1.heap.size W1 wr) := hbx
    have HBW : Hid (Below w.heap.size w wr) := HB.out.trans (hbx.mono HB.out.size)
    have HTW : Hid (Tk wr w.heap.size n tk) := HT.out.same (hbx.block _ HT.out.lt)
    clear hbest hbx
    by_cases hil : i < n
    ·have q3 : (i : Int) < (n : Int) := by omega
     have i0 : (0 : Int) ≤ (i : Int) := by omega
     have i2 : (i : Int) + 1 ≤ 9223372036854775807 := by omega
     obtain ⟨ct, -⟩ := HTW.out.cell hil
     have lt' : w.heap.size < wr.heap.size := HTW.out.lt
     cases htk2 : tk i
     ·rw [htk2] at ct
      have hilL : i < l.length := by rw [HN.out]; exact hil
      obtain ⟨pb, off, hoe, hbl, hc⟩ := (HR.out.below HBW.out (Nat.le_refl _)).row hilL
      by_cases hz : z < 0
      ·have HBn : Hid (Best l x y M tk (i + 1) (i : Int)) := best_first HBS.out hz htk2
       have HSW : Hid ((fun _ : World => True) wr.drew) := trivial
       clear hc hoe hbl
       go_wp2_with fail
       refine wp_region_held (S := fun _ => True) (by kernel_rfl) ?_
       change wpAnyH _ _ _ _ _ _ _ _ (World.drew _)
       refine wpAnyH_take (i := 0) (v := ?_) rfl (by kernel_rfl) (by kernel_rfl) (by kernel_rfl) (fun _ _ _ h => h) (Or.inl ⟨by kernel_rfl, ?_⟩) HSW.out ?_
       rotate_left
       ·rintro w ⟨_e1⟩; go_simp; try with_reducible rfl
       conv in (Act.put _ _ _) => simp only [List.getElem_toArray, List.getElem_cons_succ, List.getElem_cons_zero, Act.put, List.setIfInBounds_toArray, List.set_cons_succ, List.set_cons_zero]
       refine wpAnyH_take (i := 1) (v := ?_) rfl (by kernel_rfl) (by kernel_rfl) (by kernel_rfl) (fun _ _ _ h => h) (Or.inl ⟨by kernel_rfl, ?_⟩) HSW.out ?_
       rotate_left
       ·rintro w ⟨_e1⟩; go_simp; try with_reducible rfl
       conv in (Act.put _ _ _) => simp only [List.getElem_toArray, List.getElem_cons_succ, List.getElem_cons_zero, Act.put, List.setIfInBounds_toArray, List.set_cons_succ, List.set_cons_zero]
       refine wpAnyH_take (i := 2) (v := ?_) rfl (by kernel_rfl) (by kernel_rfl) (by kernel_rfl) (fun _ _ _ h => h) (Or.inl ⟨by kernel_rfl, ?_⟩) HSW.out ?_
       rotate_left
       ·rintro w ⟨_e1⟩; go_simp; try with_reducible rfl
       conv in (Act.put _ _ _) => simp only [List.getElem_toArray, List.getElem_cons_succ, List.getElem_cons_zero, Act.put, List.setIfInBounds_toArray, List.set_cons_succ, List.set_cons_zero]
       refine wpAnyH_take (i := 3) (v := undef) rfl (by kernel_rfl) (by kernel_rfl) (by kernel_rfl) (fun _ _ _ h => h) (Or.inr ⟨by kernel_rfl, rfl⟩) HSW.out ?_
       conv in (Act.put _ _ _) => simp only [List.getElem_toArray, List.getElem_cons_succ, List.getElem_cons_zero, Act.put, List.setIfInBounds_toArray, List.set_cons_succ, List.set_cons_zero]
       refine wpAnyH_take (i := 4) (v := undef) rfl (by kernel_rfl) (by kernel_rfl) (by kernel_rfl) (fun _ _ _ h => h) (Or.inr ⟨by kernel_rfl, rfl⟩) HSW.out ?_
       conv in (Act.put _ _ _) => simp only [List.getElem_toArray, List.getElem_cons_succ, List.getElem_cons_zero, Act.put, List.setIfInBounds_toArray, List.set_cons_succ, List.set_cons_zero]
       refine wpAnyH_take (i := 5) (v := undef) rfl (by kernel_rfl) (by kernel_rfl) (by kernel_rfl) (fun _ _ _ h => h) (Or.inr ⟨by kernel_rfl, rfl⟩) HSW.out ?_
       conv in (Act.put _ _ _) => simp only [List.getElem_toArray, List.getElem_cons_succ, List.getElem_cons_zero, Act.put, List.setIfInBounds_toArray, List.set_cons_succ, List.set_cons_zero]
       refine wpAnyH_take (i := 6) (v := undef) rfl (by kernel_rfl) (by kernel_rfl) (by kernel_rfl) (fun _ _ _ h => h) (Or.inr ⟨by kernel_rfl, rfl⟩) HSW.out ?_
       conv in (Act.put _ _ _) => simp only [List.getElem_toArray, List.getElem_cons_succ, List.getElem_cons_zero, Act.put, List.setIfInBounds_toArray, List.set_cons_succ, List.set_cons_zero]
       refine wpAnyH_take (i := 7) (v := undef) rfl (by kernel_rfl) (by kernel_rfl) (by kernel_rfl) (fun _ _ _ h => h) (Or.inr ⟨by kernel_rfl, rfl⟩) HSW.out ?_
       conv in (Act.put _ _ _) => simp only [List.getElem_toArray, List.getElem_cons_succ, List.getElem_cons_zero, Act.put, List.setIfInBounds_toArray, List.set_cons_succ, List.set_cons_zero]
       refine wpAnyH_take (i := 8) (v := undef) rfl (by kernel_rfl) (by kernel_rfl) (by kernel_rfl) (fun _ _ _ h => h) (Or.inr ⟨by kernel_rfl, rfl⟩) HSW.out ?_
       conv in (Act.put _ _ _) => simp only [List.getElem_toArray, List.getElem_cons_succ, List.getElem_cons_zero, Act.put, List.setIfInBounds_toArray, List.set_cons_succ, List.set_cons_zero]
       refine wpAnyH_take (i := 9) (v := undef) rfl (by kernel_rfl) (by kernel_rfl) (by kernel_rfl) (fun _ _ _ h => h) (Or.inr ⟨by kernel_rfl, rfl⟩) HSW.out ?_
       conv in (Act.put _ _ _) => simp only [List.getElem_toArray, List.getElem_cons_succ, List.getElem_cons_zero, Act.put, List.setIfInBounds_toArray, List.set_cons_succ, List.set_cons_zero]
       refine wpAnyH_take (i := 10) (v := undef) rfl (by kernel_rfl) (by kernel_rfl) (by kernel_rfl) (fun _ _ _ h => h) (Or.inr ⟨by kernel_rfl, rfl⟩) HSW.out ?_
       conv in (Act.put _ _ _) => simp only [List.getElem_toArray, List.getElem_cons_succ, List.getElem_cons_zero, Act.put, List.setIfInBounds_toArray, List.set_cons_succ, List.set_cons_zero]
       refine wpAnyH_take (i := 11) (v := undef) rfl (by kernel_rfl) (by kernel_rfl) (by kernel_rfl) (fun _ _ _ h => h) (Or.inr ⟨by kernel_rfl, rfl⟩) HSW.out ?_
       conv in (Act.put _ _ _) => simp only [List.getElem_toArray, List.getElem_cons_succ, List.getElem_cons_zero, Act.put, List.setIfInBounds_toArray, List.set_cons_succ, List.set_cons_zero]
       refine wpAnyH_take (i := 12) (v := undef) rfl (by kernel_rfl) (by kernel_rfl) (by kernel_rfl) (fun _ _ _ h => h) (Or.inr ⟨by kernel_rfl, rfl⟩) HSW.out ?_
       conv in (Act.put _ _ _) => simp only [List.getElem_toArray, List.getElem_cons_succ, List.getElem_cons_zero, Act.put, List.setIfInBounds_toArray, List.set_cons_succ, List.set_cons_zero]
       refine wpAnyH_take (i := 13) (v := undef) rfl (by kernel_rfl) (by kernel_rfl) (by kernel_rfl) (fun _ _ _ h => h) (Or.inr ⟨by kernel_rfl, rfl⟩) HSW.out ?_
       conv in (Act.put _ _ _) => simp only [List.getElem_toArray, List.getElem_cons_succ, List.getElem_cons_zero, Act.put, List.setIfInBounds_toArray, List.set_cons_succ, List.set_cons_zero]
       refine wpAnyH_take (i := 14) (v := undef) rfl (by kernel_rfl) (by kernel_rfl) (by kernel_rfl) (fun _ _ _ h => h) (Or.inr ⟨by kernel_rfl, rfl⟩) HSW.out ?_
       conv in (Act.put _ _ _) => simp only [List.getElem_toArray, List.getElem_cons_succ, List.getElem_cons_zero, Act.put, List.setIfInBounds_toArray, List.set_cons_succ, List.set_cons_zero]
       refine wpAnyH_take (i := 15) (v := undef) rfl (by kernel_rfl) (by kernel_rfl) (by kernel_rfl) (fun _ _ _ h => h) (Or.inr ⟨by kernel_rfl, rfl⟩) HSW.out ?_
       conv in (Act.put _ _ _) => simp only [List.getElem_toArray, List.getElem_cons_succ, List.getElem_cons_zero, Act.put, List.setIfInBounds_toArray, List.set_cons_succ, List.set_cons_zero]
       refine wpAnyH_take (i := 16) (v := undef) rfl (by kernel_rfl) (by kernel_rfl) (by kernel_rfl) (fun _ _ _ h => h) (Or.inr ⟨by kernel_rfl, rfl⟩) HSW.out ?_
       conv in (Act.put _ _ _) => simp only [List.getElem_toArray, List.getElem_cons_succ, List.getElem_cons_zero, Act.put, List.setIfInBounds_toArray, List.set_cons_succ, List.set_cons_zero]
       refine wpAnyH_take (i := 17) (v := undef) rfl (by kernel_rfl) (by kernel_rfl) (by kernel_rfl) (fun _ _ _ h => h) (Or.inr ⟨by kernel_rfl, rfl⟩) HSW.out ?_
       conv in (Act.put _ _ _) => simp only [List.getElem_toArray, List.getElem_cons_succ, List.getElem_cons_zero, Act.put, List.setIfInBounds_toArray, List.set_cons_succ, List.set_cons_zero]
       refine wpAnyH_take (i := 18) (v := undef) rfl (by kernel_rfl) (by kernel_rfl) (by kernel_rfl) (fun _ _ _ h => h) (Or.inr ⟨by kernel_rfl, rfl⟩) HSW.out ?_
       conv in (Act.put _ _ _) => simp only [List.getElem_toArray, List.getElem_cons_succ, List.getElem_cons_zero, Act.put, List.setIfInBounds_toArray, List.set_cons_succ, List.set_cons_zero]
       refine wpAnyH_take (i := 19) (v := undef) rfl (by kernel_rfl) (by kernel_rfl) (by kernel_rfl) (fun _ _ _ h => h) (Or.inr ⟨by kernel_rfl, rfl⟩) HSW.out ?_
       conv in (Act.put _ _ _) => simp only [List.getElem_toArray, List.getElem_cons_succ, List.getElem_cons_zero, Act.put, List.setIfInBounds_toArray, List.set_cons_succ, List.set_cons_zero]
       refine wpAnyH_take (i := 20) (v := undef) rfl (by kernel_rfl) (by kernel_rfl) (by kernel_rfl) (fun _ _ _ h => h) (Or.inr ⟨by kernel_rfl, rfl⟩) HSW.out ?_
       conv in (Act.put _ _ _) => simp only [List.getElem_toArray, List.getElem_cons_succ, List.getElem_cons_zero, Act.put, List.setIfInBounds_toArray, List.set_cons_succ, List.set_cons_zero]
       refine wpAnyH_take (i := 21) (v := undef) rfl (by kernel_rfl) (by kernel_rfl) (by kernel_rfl) (fun _ _ _ h => h) (Or.inr ⟨by kernel_rfl, rfl⟩) HSW.out ?_
       conv in (Act.put _ _ _) => simp only [List.getElem_toArray, List.getElem_cons_succ, List.getElem_cons_zero, Act.put, List.setIfInBounds_toArray, List.set_cons_succ, List.set_cons_zero]
       refine wpAnyH_take (i := 22) (v := undef) rfl (by kernel_rfl) (by kernel_rfl) (by kernel_rfl) (fun _ _ _ h => h) (Or.inr ⟨by kernel_rfl, rfl⟩) HSW.out ?_
       conv in (Act.put _ _ _) => simp only [List.getElem_toArray, List.getElem_cons_succ, List.getElem_cons_zero, Act.put, List.setIfInBounds_toArray, List.set_cons_succ, List.set_cons_zero]
       refine wpAnyH_take (i := 23) (v := undef) rfl (by kernel_rfl) (by kernel_rfl) (by kernel_rfl) (fun _ _ _ h => h) (Or.inr ⟨by kernel_rfl, rfl⟩) HSW.out ?_
       conv in (Act.put _ _ _) => simp only [List.getElem_toArray, List.getElem_cons_succ, List.getElem_cons_zero, Act.put, List.setIfInBounds_toArray, List.set_cons_succ, List.set_cons_zero]
       refine wpAnyH_take (i := 24) (v := undef) rfl (by kernel_rfl) (by kernel_rfl) (by kernel_rfl) (fun _ _ _ h => h) (Or.inr ⟨by kernel_rfl, rfl⟩) HSW.out ?_
       conv in (Act.put _ _ _) => simp only [List.getElem_toArray, List.getElem_cons_succ, List.getElem_cons_zero, Act.put, List.setIfInBounds_toArray, List.set_cons_succ, List.set_cons_zero]
       refine wpAnyH_take (i := 25) (v := undef) rfl (by kernel_rfl) (by kernel_rfl) (by kernel_rfl) (fun _ _ _ h => h) (Or.inr ⟨by kernel_rfl, rfl⟩) HSW.out ?_
       conv in (Act.put _ _ _) => simp only [List.getElem_toArray, List.getElem_cons_succ, List.getElem_cons_zero, Act.put, List.setIfInBounds_toArray, List.set_cons_succ, List.set_cons_zero]
       refine wpAnyH_take (i := 26) (v := undef) rfl (by kernel_rfl) (by kernel_rfl) (by kernel_rfl) (fun _ _ _ h => h) (Or.inr ⟨by kernel_rfl, rfl⟩) HSW.out ?_
       conv in (Act.put _ _ _) => simp only [List.getElem_toArray, List.getElem_cons_succ, List.getElem_cons_zero, Act.put, List.setIfInBounds_toArray, List.set_cons_succ, List.set_cons_zero]
       refine wpAnyH_take (i := 27) (v := undef) rfl (by kernel_rfl) (by kernel_rfl) (by kernel_rfl) (fun _ _ _ h => h) (Or.inr ⟨by kernel_rfl, rfl⟩) HSW.out ?_
       conv in (Act.put _ _ _) => simp only [List.getElem_toArray, List.getElem_cons_succ, List.getElem_cons_zero, Act.put, List.setIfInBounds_toArray, List.set_cons_succ, List.set_cons_zero]
       refine wpAnyH_take (i := 28) (v := undef) rfl (by kernel_rfl) (by kernel_rfl) (by kernel_rfl) (fun _ _ _ h => h) (Or.inr ⟨by kernel_rfl, rfl⟩) HSW.out ?_
       conv in (Act.put _ _ _) => simp only [List.getElem_toArray, List.getElem_cons_succ, List.getElem_cons_zero, Act.put, List.setIfInBounds_toArray, List.set_cons_succ, List.set_cons_zero]
       refine wpAnyH_take (i := 29) (v := undef) rfl (by kernel_rfl) (by kernel_rfl) (by kernel_rfl) (fun _ _ _ h => h) (Or.inr ⟨by kernel_rfl, rfl⟩) HSW.out ?_
       conv in (Act.put _ _ _) => simp only [List.getElem_toArray, List.getElem_cons_succ, List.getElem_cons_zero, Act.put, List.setIfInBounds_toArray, List.set_cons_succ, List.set_cons_zero]
       refine wpAnyH_take (i := 30) (v := ?_) rfl (by kernel_rfl) (by kernel_rfl) (by kernel_rfl) (fun _ _ _ h => h) (Or.inl ⟨by kernel_rfl, ?_⟩) HSW.out ?_
       rotate_left
       ·rintro w ⟨_e1⟩; go_simp; try with_reducible rfl
       conv in (Act.put _ _ _) => simp only [List.getElem_toArray, List.getElem_cons_succ, List.getElem_cons_zero, Act.put, List.setIfInBounds_toArray, List.set_cons_succ, List.set_cons_zero]
       refine wpAnyH_done (by kernel_rfl) ?_ _
       have HBd : Hid (Below W1.heap.size W1 wr.drew) := HBX.out.trans ⟨rfl, rfl, rfl, Nat.le_refl _, fun _ _ => rfl⟩
       go_wp2_with fail
       go_roundw
       case rel => exact ⟨i + 1, (i : Int), by go_num, rfl, by omega, HBn.out, HBd.out⟩
       case measure => simp [natOf]; omega
      ·obtain ⟨b, rfl⟩ : ∃ b : Nat, z = (b : Int) := ⟨z.toNat, by omega⟩
       have hbi : b < i := by
        rcases HBS.out with ⟨h1, _⟩ | ⟨b', h1, h2, _⟩
        ·omega
        ·omega
       have hblL : b < l.length := by omega
       obtain ⟨-, c1, c2, -⟩ := hc i hilL
       obtain ⟨-, d1, d2, -⟩ := hc b hblL
       have HC1 : Hid _ := HSQ.out _ (rat_mem hilL)
       have HC2 : Hid _ := HSQ.out _ (rat_mem hblL)
       have HBL : Hid (Rq.dist (rat l i).x (rat l i).y x y < Rq.dist (rat l b).x (rat l b).y x y → Best l x y M tk (i + 1) (i : Int)) := fun h => best_less HID.out hilL HBS.out htk2 h
       have HBK : Hid (¬ Rq.dist (rat l i).x (rat l i).y x y < Rq.dist (rat l b).x (rat l b).y x y → Best l x y M tk (i + 1) (b : Int)) := fun h => best_keep HRI.out HID.out hilL HBS.out h
       obtain ⟨D1, hD1⟩ : ∃ D1, Rq.dist (rat l i).x (rat l i).y x y = D1 := ⟨_, rfl⟩
       obtain ⟨D2, hD2⟩ : ∃ D2, Rq.dist (rat l b).x (rat l b).y x y = D2 := ⟨_, rfl⟩
       rw [hD1] at HC1 HBL HBK
       rw [hD2] at HC2 HBL HBK
       obtain ⟨u1, hu1⟩ : ∃ u1, (rat l i).x = u1 := ⟨_, rfl⟩
       obtain ⟨v1, hv1⟩ : ∃ v1, (rat l i).y = v1 := ⟨_, rfl⟩
       obtain ⟨u2, hu2⟩ : ∃ u2, (rat l b).x = u2 := ⟨_, rfl⟩
       obtain ⟨v2, hv2⟩ : ∃ v2, (rat l b).y = v2 := ⟨_, rfl⟩
       rw [hu1] at HC1 c1
       rw [hv1] at HC1 c2
       rw [hu2] at HC2 d1
       rw [hv2] at HC2 d2
       have q4 : decide ((b : Int) < 0) = false := decide_eq_false (by omega)
       have q5 : (b : Int) < (n : Int) := by omega
       have q6 : (0 : Int) ≤ (b : Int) := by omega
       have HQD : Hid (QD pb (off + i * 4) u1 v1 pb (off + b * 4) u2 v2 wr) := ⟨⟨c1, c2⟩, d1, d2⟩
       have HSW : Hid (QD pb (off + i * 4) u1 v1 pb (off + b * 4) u2 v2 wr.drew) := ⟨⟨c1, c2⟩, d1, d2⟩
       subst hoe
       clear hc c1 c2 d1 d2 hD1 hD2 hu1 hv1 hu2 hv2 hz
       go_wp2_with fail
       refine wp_region_held (S := QD pb (off + i * 4) u1 v1 pb (off + b * 4) u2 v2) (by kernel_rfl) ?_
       change wpAnyH _ _ _ _ _ _ _ _ (World.drew _)
       refine wpAnyH_take (i := 0) (v := ?_) rfl (by kernel_rfl) (by kernel_rfl) (by kernel_rfl) (fun _ _ _ h => h) (Or.inl ⟨by kernel_rfl, ?_⟩) HSW.out ?_
       rotate_left
       ·rintro w ⟨⟨e1,e2⟩,e3,e4⟩; go_simp; try with_reducible rfl
       conv in (Act.put _ _ _) => simp only [List.getElem_toArray, List.getElem_cons_succ, List.getElem_cons_zero, Act.put, List.setIfInBounds_toArray, List.set_cons_succ, List.set_cons_zero]
       refine wpAnyH_take (i := 1) (v := ?_) rfl (by kernel_rfl) (by kernel_rfl) (by kernel_rfl) (fun _ _ _ h => h) (Or.inl ⟨by kernel_rfl, ?_⟩) HSW.out ?_
       rotate_left
       ·rintro w ⟨⟨e1,e2⟩,e3,e4⟩; go_simp; try with_reducible rfl
       conv in (Act.put _ _ _) => simp only [List.getElem_toArray, List.getElem_cons_succ, List.getElem_cons_zero, Act.put, List.setIfInBounds_toArray, List.set_cons_succ, List.set_cons_zero]
       refine wpAnyH_take (i := 2) (v := ?_) rfl (by kernel_rfl) (by kernel_rfl) (by kernel_rfl) (fun _ _ _ h => h) (Or.inl ⟨by kernel_rfl, ?_⟩) HSW.out ?_
       rotate_left
       ·rintro w ⟨⟨e1,e2⟩,e3,e4⟩; go_simp; try with_reducible rfl
       conv in (Act.put _ _ _) => simp only [List.getElem_toArray, List.getElem_cons_succ, List.getElem_cons_zero, Act.put, List.setIfInBounds_toArray, List.set_cons_succ, List.set_cons_zero]
       refine wpAnyH_take (i := 3) (v := ?_) rfl (by kernel_rfl) (by kernel_rfl) (by kernel_rfl) (fun _ _ _ h => h) (Or.inl ⟨by kernel_rfl, ?_⟩) HSW.out ?_
       rotate_left
       ·rintro w ⟨⟨e1,e2⟩,e3,e4⟩; go_simp; try with_reducible rfl
       conv in (Act.put _ _ _) => simp only [List.getElem_toArray, List.getElem_cons_succ, List.getElem_cons_zero, Act.put, List.setIfInBounds_toArray, List.set_cons_succ, List.set_cons_zero]
       refine wpAnyH_take (i := 4) (v := ?_) rfl (by kernel_rfl) (by kernel_rfl) (by kernel_rfl) (fun _ _ _ h => h) (Or.inl ⟨by kernel_rfl, ?_⟩) HSW.out ?_
       rotate_left
       ·rintro w ⟨⟨e1,e2⟩,e3,e4⟩; go_simp; try with_reducible rfl
       conv in (Act.put _ _ _) => simp only [List.getElem_toArray, List.getElem_cons_succ, List.getElem_cons_zero, Act.put, List.setIfInBounds_toArray, List.set_cons_succ, List.set_cons_zero]
       refine wpAnyH_take (i := 5) (v := ?_) rfl (by kernel_rfl) (by kernel_rfl) (by kernel_rfl) (fun _ _ _ h => h) (Or.inl ⟨by kernel_rfl, ?_⟩) HSW.out ?_
       rotate_left
       ·rintro w ⟨⟨e1,e2⟩,e3,e4⟩; go_simp; try with_reducible rfl
       conv in (Act.put _ _ _) => simp only [List.getElem_toArray, List.getElem_cons_succ, List.getElem_cons_zero, Act.put, List.setIfInBounds_toArray, List.set_cons_succ, List.set_cons_zero]
       refine wpAnyH_take (i := 6) (v := ?_) rfl (by kernel_rfl) (by kernel_rfl) (by kernel_rfl) (fun _ _ _ h => h) (Or.inl ⟨by kernel_rfl, ?_⟩) HSW.out ?_
       rotate_left
       ·rintro w ⟨⟨e1,e2⟩,e3,e4⟩; go_simp; try with_reducible rfl
       conv in (Act.put _ _ _) => simp only [List.getElem_toArray, List.getElem_cons_succ, List.getElem_cons_zero, Act.put, List.setIfInBounds_toArray, List.set_cons_succ, List.set_cons_zero]
       refine wpAnyH_take (i := 7) (v := ?_) rfl (by kernel_rfl) (by kernel_rfl) (by kernel_rfl) (fun _ _ _ h => h) (Or.inl ⟨by kernel_rfl, ?_⟩) HSW.out ?_
       rotate_left
       ·rintro w ⟨⟨e1,e2⟩,e3,e4⟩; go_simp; try with_reducible rfl
       conv in (Act.put _ _ _) => simp only [List.getElem_toArray, List.getElem_cons_succ, List.getElem_cons_zero, Act.put, List.setIfInBounds_toArray, List.set_cons_succ, List.set_cons_zero]
       refine wpAnyH_take (i := 8) (v := ?_) rfl (by kernel_rfl) (by kernel_rfl) (by kernel_rfl) (fun _ _ _ h => h) (Or.inl ⟨by kernel_rfl, ?_⟩) HSW.out ?_
       rotate_left
       ·rintro w ⟨⟨e1,e2⟩,e3,e4⟩; go_simp; try with_reducible rfl
       conv in (Act.put _ _ _) => simp only [List.getElem_toArray, List.getElem_cons_succ, List.getElem_cons_zero, Act.put, List.setIfInBounds_toArray, List.set_cons_succ, List.set_cons_zero]
       refine wpAnyH_take (i := 9) (v := ?_) rfl (by kernel_rfl) (by kernel_rfl) (by kernel_rfl) (fun _ _ _ h => h) (Or.inl ⟨by kernel_rfl, ?_⟩) HSW.out ?_
       rotate_left
       ·rintro w ⟨⟨e1,e2⟩,e3,e4⟩; go_simp; try with_reducible rfl
       conv in (Act.put _ _ _) => simp only [List.getElem_toArray, List.getElem_cons_succ, List.getElem_cons_zero, Act.put, List.setIfInBounds_toArray, List.set_cons_succ, List.set_cons_zero]
       refine wpAnyH_take (i := 10) (v := ?_) rfl (by kernel_rfl) (by kernel_rfl) (by kernel_rfl) (fun _ _ _ h => h) (Or.inl ⟨by kernel_rfl, ?_⟩) HSW.out ?_
       rotate_left
       ·rintro w ⟨⟨e1,e2⟩,e3,e4⟩; go_simp; try with_reducible rfl
       conv in (Act.put _ _ _) => simp only [List.getElem_toArray, List.getElem_cons_succ, List.getElem_cons_zero, Act.put, List.setIfInBounds_toArray, List.set_cons_succ, List.set_cons_zero]
       refine wpAnyH_take (i := 11) (v := ?_) rfl (by kernel_rfl) (by kernel_rfl) (by kernel_rfl) (fun _ _ _ h => h) (Or.inl ⟨by kernel_rfl, ?_⟩) HSW.out ?_
       rotate_left
       ·rintro w ⟨⟨e1,e2⟩,e3,e4⟩; go_simp; try with_reducible rfl
       conv in (Act.put _ _ _) => simp only [List.getElem_toArray, List.getElem_cons_succ, List.getElem_cons_zero, Act.put, List.setIfInBounds_toArray, List.set_cons_succ, List.set_cons_zero]
       refine wpAnyH_take (i := 12) (v := ?_) rfl (by kernel_rfl) (by kernel_rfl) (by kernel_rfl) (fun _ _ _ h => h) (Or.inl ⟨by kernel_rfl, ?_⟩) HSW.out ?_
       rotate_left
       ·rintro w ⟨⟨e1,e2⟩,e3,e4⟩; go_simp; try with_reducible rfl
       conv in (Act.put _ _ _) => simp only [List.getElem_toArray, List.getElem_cons_succ, List.getElem_cons_zero, Act.put, List.setIfInBounds_toArray, List.set_cons_succ, List.set_cons_zero]
       refine wpAnyH_take (i := 13) (v := ?_) rfl (by kernel_rfl) (by kernel_rfl) (by kernel_rfl) (fun _ _ _ h => h) (Or.inl ⟨by kernel_rfl, ?_⟩) HSW.out ?_
       rotate_left
       ·rintro w ⟨⟨e1,e2⟩,e3,e4⟩; go_simp; try with_reducible rfl
       conv in (Act.put _ _ _) => simp only [List.getElem_toArray, List.getElem_cons_succ, List.getElem_cons_zero, Act.put, List.setIfInBounds_toArray, List.set_cons_succ, List.set_cons_zero]
       refine wpAnyH_take (i := 14) (v := ?_) rfl (by kernel_rfl) (by kernel_rfl) (by kernel_rfl) (fun _ _ _ h => h) (Or.inl ⟨by kernel_rfl, ?_⟩) HSW.out ?_
       rotate_left
       ·rintro w ⟨⟨e1,e2⟩,e3,e4⟩; go_simp; try with_reducible rfl
       conv in (Act.put _ _ _) => simp only [List.getElem_toArray, List.getElem_cons_succ, List.getElem_cons_zero, Act.put, List.setIfInBounds_toArray, List.set_cons_succ, List.set_cons_zero]
       refine wpAnyH_take (i := 16) (v := ?_) rfl (by kernel_rfl) (by kernel_rfl) (by kernel_rfl) (fun _ _ _ h => h) (Or.inl ⟨by kernel_rfl, ?_⟩) HSW.out ?_
       rotate_left
       ·rintro w ⟨⟨e1,e2⟩,e3,e4⟩; go_simp; try with_reducible rfl
       conv in (Act.put _ _ _) => simp only [List.getElem_toArray, List.getElem_cons_succ, List.getElem_cons_zero, Act.put, List.setIfInBounds_toArray, List.set_cons_succ, List.set_cons_zero]
       refine wpAnyH_take (i := 17) (v := ?_) rfl (by kernel_rfl) (by kernel_rfl) (by kernel_rfl) (fun _ _ _ h => h) (Or.inl ⟨by kernel_rfl, ?_⟩) HSW.out ?_
       rotate_left
       ·rintro w ⟨⟨e1,e2⟩,e3,e4⟩; go_simp; try with_reducible rfl
       conv in (Act.put _ _ _) => simp only [List.getElem_toArray, List.getElem_cons_succ, List.getElem_cons_zero, Act.put, List.setIfInBounds_toArray, List.set_cons_succ, List.set_cons_zero]
       refine wpAnyH_take (i := 18) (v := ?_) rfl (by kernel_rfl) (by kernel_rfl) (by kernel_rfl) (fun _ _ _ h => h) (Or.inl ⟨by kernel_rfl, ?_⟩) HSW.out ?_
       rotate_left
       ·rintro w ⟨⟨e1,e2⟩,e3,e4⟩; go_simp; try with_reducible rfl
       conv in (Act.put _ _ _) => simp only [List.getElem_toArray, List.getElem_cons_succ, List.getElem_cons_zero, Act.put, List.setIfInBounds_toArray, List.set_cons_succ, List.set_cons_zero]
       refine wpAnyH_take (i := 19) (v := ?_) rfl (by kernel_rfl) (by kernel_rfl) (by kernel_rfl) (fun _ _ _ h => h) (Or.inl ⟨by kernel_rfl, ?_⟩) HSW.out ?_
       rotate_left
       ·rintro w ⟨⟨e1,e2⟩,e3,e4⟩; go_simp; try with_reducible rfl
       conv in (Act.put _ _ _) => simp only [List.getElem_toArray, List.getElem_cons_succ, List.getElem_cons_zero, Act.put, List.setIfInBounds_toArray, List.set_cons_succ, List.set_cons_zero]
       refine wpAnyH_take (i := 20) (v := ?_) rfl (by kernel_rfl) (by kernel_rfl) (by kernel_rfl) (fun _ _ _ h => h) (Or.inl ⟨by kernel_rfl, ?_⟩) HSW.out ?_
       rotate_left
       ·rintro w ⟨⟨e1,e2⟩,e3,e4⟩; go_simp; try with_reducible rfl
       conv in (Act.put _ _ _) => simp only [List.getElem_toArray, List.getElem_cons_succ, List.getElem_cons_zero, Act.put, List.setIfInBounds_toArray, List.set_cons_succ, List.set_cons_zero]
       refine wpAnyH_take (i := 21) (v := ?_) rfl (by kernel_rfl) (by kernel_rfl) (by kernel_rfl) (fun _ _ _ h => h) (Or.inl ⟨by kernel_rfl, ?_⟩) HSW.out ?_
       rotate_left
       ·rintro w ⟨⟨e1,e2⟩,e3,e4⟩; go_simp; try with_reducible rfl
       conv in (Act.put _ _ _) => simp only [List.getElem_toArray, List.getElem_cons_succ, List.getElem_cons_zero, Act.put, List.setIfInBounds_toArray, List.set_cons_succ, List.set_cons_zero]
       refine wpAnyH_take (i := 22) (v := ?_) rfl (by kernel_rfl) (by kernel_rfl) (by kernel_rfl) (fun _ _ _ h => h) (Or.inl ⟨by kernel_rfl, ?_⟩) HSW.out ?_
       rotate_left
       ·rintro w ⟨⟨e1,e2⟩,e3,e4⟩; go_simp; try with_reducible rfl
       conv in (Act.put _ _ _) => simp only [List.getElem_toArray, List.getElem_cons_succ, List.getElem_cons_zero, Act.put, List.setIfInBounds_toArray, List.set_cons_succ, List.set_cons_zero]
       refine wpAnyH_take (i := 23) (v := ?_) rfl (by kernel_rfl) (by kernel_rfl) (by kernel_rfl) (fun _ _ _ h => h) (Or.inl ⟨by kernel_rfl, ?_⟩) HSW.out ?_
       rotate_left
       ·rintro w ⟨⟨e1,e2⟩,e3,e4⟩; go_simp; try with_reducible rfl
       conv in (Act.put _ _ _) => simp only [List.getElem_toArray, List.getElem_cons_succ, List.getElem_cons_zero, Act.put, List.setIfInBounds_toArray, List.set_cons_succ, List.set_cons_zero]
       refine wpAnyH_take (i := 24) (v := ?_) rfl (by kernel_rfl) (by kernel_rfl) (by kernel_rfl) (fun _ _ _ h => h) (Or.inl ⟨by kernel_rfl, ?_⟩) HSW.out ?_
       rotate_left
       ·rintro w ⟨⟨e1,e2⟩,e3,e4⟩; go_simp; try with_reducible rfl
       conv in (Act.put _ _ _) => simp only [List.getElem_toArray, List.getElem_cons_succ, List.getElem_cons_zero, Act.put, List.setIfInBounds_toArray, List.set_cons_succ, List.set_cons_zero]
       refine wpAnyH_take (i := 25) (v := ?_) rfl (by kernel_rfl) (by kernel_rfl) (by kernel_rfl) (fun _ _ _ h => h) (Or.inl ⟨by kernel_rfl, ?_⟩) HSW.out ?_
       rotate_left
       ·rintro w ⟨⟨e1,e2⟩,e3,e4⟩; go_simp; try with_reducible rfl
       conv in (Act.put _ _ _) => simp only [List.getElem_toArray, List.getElem_cons_succ, List.getElem_cons_zero, Act.put, List.setIfInBounds_toArray, List.set_cons_succ, List.set_cons_zero]
       refine wpAnyH_take (i := 26) (v := ?_) rfl (by kernel_rfl) (by kernel_rfl) (by kernel_rfl) (fun _ _ _ h => h) (Or.inl ⟨by kernel_rfl, ?_⟩) HSW.out ?_
       rotate_left
       ·rintro w ⟨⟨e1,e2⟩,e3,e4⟩; go_simp; try with_reducible rfl
       conv in (Act.put _ _ _) => simp only [List.getElem_toArray, List.getElem_cons_succ, List.getElem_cons_zero, Act.put, List.setIfInBounds_toArray, List.set_cons_succ, List.set_cons_zero]
       refine wpAnyH_take (i := 27) (v := ?_) rfl (by kernel_rfl) (by kernel_rfl) (by kernel_rfl) (fun _ _ _ h => h) (Or.inl ⟨by kernel_rfl, ?_⟩) HSW.out ?_
       rotate_left
       ·rintro w ⟨⟨e1,e2⟩,e3,e4⟩; go_simp; try with_reducible rfl
       conv in (Act.put _ _ _) => simp only [List.getElem_toArray, List.getElem_cons_succ, List.getElem_cons_zero, Act.put, List.setIfInBounds_toArray, List.set_cons_succ, List.set_cons_zero]
       refine readyH 15 _ (by kernel_rfl) rfl (by kernel_rfl) (fun K hK => ?_)
       go_simp
       refine (HC1.out _).mono ?_
       rintro e w6 ⟨rfl, b6⟩
       replace b6 : Below wr.heap.size wr w6 := (Below.refl _ wr).drew.trans b6
       replace HSW : Hid (QD pb (off + i * 4) u1 v1 pb (off + b * 4) u2 v2 w6) := HQD.out.same (b6.block _ hbl) (b6.block _ hbl)
       refine hK _ _ HSW.out ?_
       clear hK K
       refine readyH 28 _ (by kernel_rfl) rfl (by kernel_rfl) (fun K hK => ?_)
       go_simp
       refine (HC2.out _).mono ?_
       rintro e w7 ⟨rfl, b7⟩
       have b67 : Below wr.heap.size wr w7 := b6.trans (b7.mono b6.size)
       replace HSW : Hid (QD pb (off + i * 4) u1 v1 pb (off + b * 4) u2 v2 w7) := HQD.out.same (b67.block _ hbl) (b67.block _ hbl)
       have HBd : Hid (Below W1.heap.size W1 w7) := HBX.out.trans (b67.mono HBX.out.size)
       refine hK _ _ HSW.out ?_
       clear hK K b6 b7 b67
       by_cases hd : D1 < D2
       ·have q8 : decide (D1 < D2) = true := decide_eq_true hd
        have HBn : Hid (Best l x y M tk (i + 1) (i : Int)) := HBL.out hd
        clear HBL HBK
        refine wpAnyH_take (i := 29) (v := ?_) rfl (by kernel_rfl) (by kernel_rfl) (by kernel_rfl) (fun _ _ _ h => h) (Or.inl ⟨by kernel_rfl, ?_⟩) HSW.out ?_
        rotate_left
        ·rintro w ⟨⟨e1,e2⟩,e3,e4⟩; go_simp; try with_reducible rfl
        conv in (Act.put _ _ _) => simp only [List.getElem_toArray, List.getElem_cons_succ, List.getElem_cons_zero, Act.put, List.setIfInBounds_toArray, List.set_cons_succ, List.set_cons_zero]
        refine wpAnyH_take (i := 30) (v := ?_) rfl (by kernel_rfl) (by kernel_rfl) (by kernel_rfl) (fun _ _ _ h => h) (Or.inl ⟨by kernel_rfl, ?_⟩) HSW.out ?_
        rotate_left
        ·rintro w ⟨⟨e1,e2⟩,e3,e4⟩; go_simp; try with_reducible rfl
        conv in (Act.put _ _ _) => simp only [List.getElem_toArray, List.getElem_cons_succ, List.getElem_cons_zero, Act.put, List.setIfInBounds_toArray, List.set_cons_succ, List.set_cons_zero]
        refine wpAnyH_done (by kernel_rfl) ?_ _
        go_wp2_with fail
        go_roundw
        case rel => exact ⟨i + 1, (i : Int), by go_num, rfl, by omega, HBn.out, HBd.out⟩
        case measure => simp [natOf]; omega
       ·have q8 : decide (D1 < D2) = false := decide_eq_false hd
        have HBn : Hid (Best l x y M tk (i + 1) (b : Int)) := HBK.out hd
        have q9 : ¬ (D1 : Int) < (D2 : Int) := by omega
        clear HBL HBK
        refine wpAnyH_take (i := 29) (v := ?_) rfl (by kernel_rfl) (by kernel_rfl) (by kernel_rfl) (fun _ _ _ h => h) (Or.inl ⟨by kernel_rfl, ?_⟩) HSW.out ?_
        rotate_left
        ·rintro w ⟨⟨e1,e2⟩,e3,e4⟩; go_simp; try with_reducible rfl
        conv in (Act.put _ _ _) => simp only [List.getElem_toArray, List.getElem_cons_succ, List.getElem_cons_zero, Act.put, List.setIfInBounds_toArray, List.set_cons_succ, List.set_cons_zero]
        refine wpAnyH_take (i := 30) (v := ?_) rfl (by kernel_rfl) (by kernel_rfl) (by kernel_rfl) (fun _ _ _ h => h) (Or.inl ⟨by kernel_rfl, ?_⟩) HSW.out ?_
        rotate_left
        ·rintro w ⟨⟨e1,e2⟩,e3,e4⟩; go_simp; try with_reducible rfl
        conv in (Act.put _ _ _) => simp only [List.getElem_toArray, List.getElem_cons_succ, List.getElem_cons_zero, Act.put, List.setIfInBounds_toArray, List.set_cons_succ, List.set_cons_zero]
        refine wpAnyH_done (by kernel_rfl) ?_ _
        go_wp2_with fail
        go_roundw
        case rel => exact ⟨i + 1, (b : Int), by go_num, rfl, by omega, HBn.out, HBd.out⟩
        case measure => simp [natOf]; omega
     ·rw [htk2] at ct
      have HBn : Hid (Best l x y M tk (i + 1) z) := best_skip HBS.out htk2
      go_wp2_with fail
      go_roundw
      case rel => exact ⟨i + 1, z, by go_num, rfl, by omega, HBn.out, HBX.out⟩
      case measure => simp [natOf]; omega
    ·obtain rfl : i = n := by omega
     have q3 : ¬ (i : Int) < (i : Int) := by omega
     have hbst := HBS.out
     obtain ⟨jj, hj1, hj2, -⟩ := tkn_some (S := nsort x y M l) (nsort_perm x y M l) HRI.out (by rw [HS.out]; exact HTN.out) (by rw [HN.out]; omega)
     obtain ⟨b, rfl, hb1, hb2, hb3⟩ : ∃ b : Nat, z = (b : Int) ∧ b < i ∧ tk b = false ∧ ∀ j, j < i → tk j = false → nkey x y M (rat l b) ≤ nkey x y M (rat l j) := by
      rcases hbst with ⟨_, h2⟩ | h
      ·rw [HN.out] at hj1
       rw [h2 jj hj1] at hj2
       cases hj2
      ·exact h
     have hbL : b < l.length := by rw [HN.out]; exact hb1
     have hnb := next_best (l := l) (x := x) (y := y) (M := M) (t := t) (b := b) (tk := tk) HRI.out HID.out (by rw [HS.out]; exact HTN.out) (by rw [HN.out]; omega) hbL hb2 (fun j hj => hb3 j (by rw [HN.out] at hj; exact hj))
     rw [HS.out] at hnb
     obtain ⟨pb, off, rfl, hbl, hc⟩ := (HR.out.below HBW.out (Nat.le_refl _)).row hbL
     obtain ⟨c0, c1, c2, c3⟩ := hc b hbL
     generalize rat l b = rr at *
     obtain ⟨id, rx, ry, rs⟩ := rr
     simp only at c0 c1 c2 c3
     have HNB : Hid _ := hnb
     have q5 : (b : Int) < (i : Int) := by omega
     have q6 : (0 : Int) ≤ (b : Int) := by omega
     obtain ⟨ct, fz⟩ := HTW.out.cell hb1
     have lt' : w.heap.size < wr.heap.size := HTW.out.lt
     have hpbl : pb ≠ w.heap.size := by
      obtain ⟨b', off', e', h1', -⟩ := HR.out.row hbL
      cases e'
      omega
     have HTP : Hid (Tk (wr.setCell ⟨w.heap.size, b, none⟩ (.bool true)) w.heap.size i (fun j => if j = b then true else tk j)) := HTW.out.put hb1
     have hcell : ∀ k : Nat, (wr.setCell ⟨w.heap.size, b, none⟩ (.bool true)).cell? ⟨pb, k, none⟩ = wr.cell? ⟨pb, k, none⟩ := fun k => World.cell?_of_block (a := ⟨pb, k, none⟩) (Below.heap_setCell _ _ _ _ (fun e => hpbl e))
     have c0' := (hcell _).trans c0
     have c1' := (hcell _).trans c1
     have c2' := (hcell _).trans c2
     have c3' := (hcell _).trans c3
     have hsW : (wr.setCell ⟨w.heap.size, b, none⟩ (.bool true)).heap.size = wr.heap.size := by simp [World.setCell]
     have hoW : (wr.setCell ⟨w.heap.size, b, none⟩ (.bool true)).ownsRow (w.heap.size + 1) 54 4 (.slice fo t fc) t ((S.take t).flatMap rc) := own_same HO.out fun q hq hlt => by
      have := (own_base HO.out hq).1
      exact (Below.heap_setCell _ _ _ _ (fun e => by have e' : q = w.heap.size := e; omega)).trans (HBX.out.block q hlt)
     have hbW : Below w.heap.size w (wr.setCell ⟨w.heap.size, b, none⟩ (.bool true)) := HBW.out.trans ⟨rfl, rfl, rfl, by omega, fun q hq => Below.heap_setCell _ _ _ _ (fun e => by have e' : q = w.heap.size := e; omega)⟩
     have hTW := HTP.out
     have lpb : pb < (wr.setCell ⟨w.heap.size, b, none⟩ (.bool true)).heap.size := by rw [hsW]; exact hbl
     have HSS : Hid ((wr.setCell ⟨w.heap.size, b, none⟩ (.bool true)).heap.size = wr.heap.size) := hsW
     obtain ⟨W2, hW2⟩ : ∃ W2, wr.setCell ⟨w.heap.size, b, none⟩ (.bool true) = W2 := ⟨_, rfl⟩
     rw [hW2] at hoW hbW hTW
     have hbn := below_new W2 (.cells #[.int .u64 (id : Int), .int .u32 (rx : Int), .int .u32 (ry : Int), .string rs] 54)
     obtain ⟨v', W', hrun, a1, a2, a3⟩ := append_sl 32 54 Try.underlying32 infoRow rfl (by decide) (by decide) (W2.alloc (.cells #[.int .u64 (id : Int), .int .u32 (rx : Int), .int .u32 (ry : Int), .string rs] 54)) (w.heap.size + 1) t 1 (.slice fo t fc) (some ⟨W2.heap.size, 0, none⟩) 1
      ((S.take t).flatMap rc) (rc ⟨id, rx, ry, rs⟩) (own_same hoW fun b _ hb' => hbn.block b hb') (by have := hTW.lt; simp; omega) (one_row (r := ⟨id, rx, ry, rs⟩) (heap_alloc_new W2 _)) (rc_one' _) (by omega)
     have hgw : ∀ q, q < W2.heap.size → q ≤ w.heap.size → W'.heap[q]? = W2.heap[q]? := fun q h1 h2 => (a2.block q (by simp; omega) (fun e => by have := (own_base hoW e.symm).1; omega)).trans (hbn.block q h1)
     have HFIN : Hid (W'.ownsRow (w.heap.size + 1) 54 4 v' (t + 1) ((S.take (t + 1)).flatMap rc) ∧ Tk W' w.heap.size i (fun j => if j = b then true else tk j) ∧ Tkn l S (t + 1) (fun j => if j = b then true else tk j) ∧ Below w.heap.size w W') := by
      refine ⟨?_, hTW.same (hgw _ hTW.lt (Nat.le_refl _)), HNB.out.2, ?_⟩
      ·rw [HNB.out.1, List.flatMap_append]
       simpa using a1
      ·refine hbW.trans ⟨a2.os.trans hbn.os, a2.tape.trans hbn.tape, a2.output.trans hbn.output, Nat.le_trans hbn.size a2.size, fun q hq => hgw q (by have := hTW.lt; omega) (by omega)⟩
     obtain ⟨go', gc', rfl, -⟩ := sl_of_own a1
     rw [← hW2, HSS.out] at hrun
     clear hcell c0 c1 c2 c3 hc hbst hj1 hj2 hb2 hb3 hnb hsW HTP hW2 hoW hbW hTW hbn a1 a2 a3 hgw
     go_wp2_with (at_builtin; refine list_append rfl 32 32 (.tmp 83) (.tmp 88) rfl (vs := .slice fo t fc) (vx := .slice (some ⟨wr.heap.size, 0, none⟩) 1 1) rfl rfl hrun ?_)
     go_roundw
     case rel => exact ⟨t + 1, _, by omega, HFIN.out⟩
     case measure => simp; omega
  ·have HE : Hid (S.take t = S.take kn) := by
    refine (?_ : S.take t = S.take kn)
    by_cases c : t = kn
    ·rw [c]
    ·have := HSL.out
     rw [List.take_of_length_le (by omega), List.take_of_length_le (by omega)]
   have HF : Hid (wr.ownsRow w.heap.size 54 4 (.slice fo t fc) (S.take kn).length ((S.take kn).flatMap rc) ∧ Below w.heap.size w wr) := ⟨by
    have := HSL.out
    rw [← HE.out, List.length_take, show min t S.length = t by omega]
    exact own_lower HO.out (by omega), HB.out⟩
   by_cases c1 : t < kn
   ·have q1 : (t : Int) < (kn : Int) := by omega
    have q2 : ¬ (t : Int) < (n : Int) := by omega
    go_wp2_with fail
    go_ret2
    exact ⟨.slice fo t fc, rfl, by simpa only [List.length_take] using HF.out⟩
   ·have q1 : ¬ (t : Int) < (kn : Int) := by omega
    go_wp2_with fail
    go_ret2
    exact ⟨.slice fo t fc, rfl, by simpa only [List.length_take] using HF.out⟩
set_option maxRecDepth 100000 in
set_option maxHeartbeats 2000000 in
theorem qNear_no (n : Nv) (x y : Nat) (k : Int) (hb : onS x y = false ∨ (onS x y = true ∧ k < 0)) (w : World) :
  Calls Try.prog 23 #[nv n, .int .u32 (x : Int), .int .u32 (y : Int), .int .i64 k] w fun e w' => e = .returned (.tuple #[.slice none 0 0, .int .i64 2]) ∧ Below w.heap.size w w' := by
 obtain ⟨nX, nY, nL, nro, nrn, nrc, nko, nkn, nkc⟩ := n
 obtain ⟨-, -, -, t4, -⟩ := trio_new w (.cells #[.int .u32 (nX : Int), .int .u32 (nY : Int), .int .i64 (nL : Int), .slice nro nrn nrc, .slice nko nkn nkc] 45) (.cells #[.int .u32 (x : Int)] 22) (.cells #[.int .u32 (y : Int)] 22)
 have HZ : Hid _ := t4
 have HP : Hid _ := qonPlane_any x y
 clear t4
 simp only [nv] at ⊢
 rcases hb with hb | ⟨hb, hk⟩
 all_goals
  rw [hb] at HP
  clear hb
  go_enter Try.func23, Try.ntmps23
  go_wp2_with fail
  refine wp_scope_straight ?_
  go_wp2_with fail
  refine (HP.out _).mono ?_
  rintro e w1 ⟨rfl, rfl⟩
  go_wp2_with fail
  simp only [Exit.noGoto]
  go_ret2
  exact ⟨rfl, HZ.out⟩
end Go.Proofs.Ytimdlohdmddnjaa.Rq
/- What the kinds of queries find. -/
namespace Go.Proofs.Ytimdlohdmddnjaa.Rf
open Go.RowKit Go.Lib
open Go.Proofs.Ytimdlohdmddnjaa.Rc Go.Proofs.Ytimdlohdmddnjaa.Rq
def nrV (l : List Rw) (x y M : Nat) : List Rw := if onS x y = true then nsort x y M l else []
def fnd (q : Qr) (M : Nat) (l : List Rw) : List Rw := if q.k = 1 then winV l q.a q.b q.c q.d else if q.k = 2 then rndV l q.x q.y q.sq else if q.k = 3 then nrV l q.x q.y M else l
def fndE (q : Qr) : Int := if q.k = 1 then boxE q.a q.b q.c q.d else if q.k = 2 then rndE q.x q.y else if q.k = 3 then rndE q.x q.y else 0
def KR (m : List Rw) (E : Int) (w : World) (e : Ending) (w' : World) : Prop := ∃ o cap, e = .returned (.tuple #[.slice o m.length cap, .int .i64 E]) ∧ RowsAt w' o cap m ∧ Below w.heap.size w w'
set_option maxRecDepth 100000 in
theorem qnear_any (n : Nv) (l : List Rw) (dd x y M : Nat) (w : World) (hN : NodeAt (fun _ => True) dd w n l) (hon : On l) (hmax : l.length ≤ 1000) (hri : Rise l) (hM : ∀ r ∈ l, r.id < M) :
  Calls Try.prog 23 #[nv n, .int .u32 (x : Int), .int .u32 (y : Int), .int .i64 1000] w (KR (nrV l x y M) (rndE x y) w) := by
 unfold nrV rndE KR
 cases h : onS x y
 ·refine (qNear_no n x y 1000 (.inl h) w).mono ?_
  rintro e w' ⟨rfl, h2⟩
  exact ⟨none, 0, rfl, Sl.nil 4 w', h2⟩
 ·refine (near_ok n l dd x y M 1000 h (by decide) w hN hon hmax hri hM).mono ?_
  rintro e w' ⟨o, cap, h1, h2, h3⟩
  rw [List.take_of_length_le (by rw [(nsort_perm x y M l).length_eq]; exact hmax)] at h1 h2
  exact ⟨o, cap, h1, h2, h3⟩
set_option maxRecDepth 100000 in
set_option maxHeartbeats 2000000 in
theorem kind1_any (g : Nat) (q : Qr) (n : Nv) (l : List Rw) (dd : Nat) (w : World) (hq : w.heap[g]? = some (qcs q)) (hN : NodeAt (fun _ => True) dd w n l) (hon : On l) (hmax : l.length ≤ 1000) (hri : Rise l) :
  Calls Try.prog 50 #[nv n, .pointer (some ⟨g, 0, none⟩)] w (KR (winV l q.a q.b q.c q.d) (boxE q.a q.b q.c q.d) w) := by
 have hb := below_new w (.cells #[.int .u32 (n.X : Int), .int .u32 (n.Y : Int), .int .i64 (n.L : Int), .slice n.ro n.rn n.rc, .slice n.ko n.kn n.kc] 45)
 have hg := heap_alloc_new w (.cells #[.int .u32 (n.X : Int), .int .u32 (n.Y : Int), .int .i64 (n.L : Int), .slice n.ro n.rn n.rc, .slice n.ko n.kn n.kc] 45)
 have hN2 := hN.below hb (Nat.le_refl _)
 obtain ⟨W0, hW0⟩ : ∃ W0, w.alloc (.cells #[.int .u32 (n.X : Int), .int .u32 (n.Y : Int), .int .i64 (n.L : Int), .slice n.ro n.rn n.rc, .slice n.ko n.kn n.kc] 45) = W0 := ⟨_, rfl⟩
 rw [hW0] at hb hg hN2
 have lq := (Array.getElem?_eq_some_iff.1 hq).1
 have hq2 := (hb.block _ lq).trans hq
 have lq2 : g < W0.heap.size := (Array.getElem?_eq_some_iff.1 hq2).1
 have HB : Hid (Below w.heap.size w W0) := hb
 have HC : Hid (∀ _ : True, _) := fun _ => window_any n l dd q.a q.b q.c q.d W0 hN2 hon hmax hri
 obtain ⟨k, a, b, c, d, x, y, sq, K, af, fr⟩ := q
 obtain ⟨c0, c1, c2, c3, c4, c5, c6, c7, -, -, -⟩ := qc_of hq2
 obtain ⟨-, -, -, -, -, f0, f1, f2, f3, f4⟩ := node_facts hg
 obtain ⟨nX, nY, nL, nro, nrn, nrc, nko, nkn, nkc⟩ := n
 simp only at c0 c1 c2 c3 c4 c5 c6 c7 f0 f1 f2 f3 f4 hW0
 have HW0 : Hid _ := hW0
 simp only [nv, bv] at HC ⊢
 clear hb hg hN2 hq hq2 hN hon hri hW0
 go_enter Try.func50, Try.ntmps50
 go_wp2_with (first | (rw [HW0.out]; clear HW0))
 refine Calls.mono (HC.out trivial) ?_
 rintro e w2 ⟨v, rfl, ho, b2⟩
 obtain ⟨o, cap, rfl, hs⟩ := sl_of_own ho
 have HE : Hid (RowsAt w2 o cap (winV l a b c d) ∧ Below w.heap.size w w2) := ⟨hs, HB.out.trans (b2.mono HB.out.size)⟩
 clear ho hs b2
 go_wp2_with fail
 go_ret2
 exact ⟨o, cap, rfl, HE.out.1, HE.out.2⟩
set_option maxRecDepth 100000 in
set_option maxHeartbeats 2000000 in
theorem kind2_any (g : Nat) (q : Qr) (n : Nv) (l : List Rw) (dd : Nat) (w : World) (hq : w.heap[g]? = some (qcs q)) (hN : NodeAt (fun _ => True) dd w n l) (hon : On l) (hmax : l.length ≤ 1000) (hri : Rise l) :
  Calls Try.prog 51 #[nv n, .pointer (some ⟨g, 0, none⟩)] w (KR (rndV l q.x q.y q.sq) (rndE q.x q.y) w) := by
 have hb := below_new w (.cells #[.int .u32 (n.X : Int), .int .u32 (n.Y : Int), .int .i64 (n.L : Int), .slice n.ro n.rn n.rc, .slice n.ko n.kn n.kc] 45)
 have hg := heap_alloc_new w (.cells #[.int .u32 (n.X : Int), .int .u32 (n.Y : Int), .int .i64 (n.L : Int), .slice n.ro n.rn n.rc, .slice n.ko n.kn n.kc] 45)
 have hN2 := hN.below hb (Nat.le_refl _)
 obtain ⟨W0, hW0⟩ : ∃ W0, w.alloc (.cells #[.int .u32 (n.X : Int), .int .u32 (n.Y : Int), .int .i64 (n.L : Int), .slice n.ro n.rn n.rc, .slice n.ko n.kn n.kc] 45) = W0 := ⟨_, rfl⟩
 rw [hW0] at hb hg hN2
 have lq := (Array.getElem?_eq_some_iff.1 hq).1
 have hq2 := (hb.block _ lq).trans hq
 have lq2 : g < W0.heap.size := (Array.getElem?_eq_some_iff.1 hq2).1
 have HB : Hid (Below w.heap.size w W0) := hb
 have HC : Hid (∀ _ : True, _) := fun _ => qRound_any n l dd q.x q.y q.sq W0 hN2 hon hmax hri
 obtain ⟨k, a, b, c, d, x, y, sq, K, af, fr⟩ := q
 obtain ⟨c0, c1, c2, c3, c4, c5, c6, c7, -, -, -⟩ := qc_of hq2
 obtain ⟨-, -, -, -, -, f0, f1, f2, f3, f4⟩ := node_facts hg
 obtain ⟨nX, nY, nL, nro, nrn, nrc, nko, nkn, nkc⟩ := n
 simp only at c0 c1 c2 c3 c4 c5 c6 c7 f0 f1 f2 f3 f4 hW0
 have HW0 : Hid _ := hW0
 simp only [nv] at HC ⊢
 clear hb hg hN2 hq hq2 hN hon hri hW0
 go_enter Try.func51, Try.ntmps51
 go_wp2_with (first | (rw [HW0.out]; clear HW0))
 refine Calls.mono (HC.out trivial) ?_
 rintro e w2 ⟨v, rfl, ho, b2⟩
 obtain ⟨o, cap, rfl, hs⟩ := sl_of_own ho
 have HE : Hid (RowsAt w2 o cap (rndV l x y sq) ∧ Below w.heap.size w w2) := ⟨hs, HB.out.trans (b2.mono HB.out.size)⟩
 clear ho hs b2
 go_wp2_with fail
 go_ret2
 exact ⟨o, cap, rfl, HE.out.1, HE.out.2⟩
set_option maxRecDepth 100000 in
set_option maxHeartbeats 2000000 in
theorem kind3_any (g : Nat) (q : Qr) (n : Nv) (l : List Rw) (dd M : Nat) (w : World) (hq : w.heap[g]? = some (qcs q)) (hN : NodeAt (fun _ => True) dd w n l) (hon : On l) (hmax : l.length ≤ 1000) (hri : Rise l) (hM : ∀ r ∈ l, r.id < M) :
  Calls Try.prog 52 #[nv n, .pointer (some ⟨g, 0, none⟩)] w (KR (nrV l q.x q.y M) (rndE q.x q.y) w) := by
 have hb := below_new w (.cells #[.int .u32 (n.X : Int), .int .u32 (n.Y : Int), .int .i64 (n.L : Int), .slice n.ro n.rn n.rc, .slice n.ko n.kn n.kc] 45)
 have hg := heap_alloc_new w (.cells #[.int .u32 (n.X : Int), .int .u32 (n.Y : Int), .int .i64 (n.L : Int), .slice n.ro n.rn n.rc, .slice n.ko n.kn n.kc] 45)
 have hN2 := hN.below hb (Nat.le_refl _)
 obtain ⟨W0, hW0⟩ : ∃ W0, w.alloc (.cells #[.int .u32 (n.X : Int), .int .u32 (n.Y : Int), .int .i64 (n.L : Int), .slice n.ro n.rn n.rc, .slice n.ko n.kn n.kc] 45) = W0 := ⟨_, rfl⟩
 rw [hW0] at hb hg hN2
 have lq := (Array.getElem?_eq_some_iff.1 hq).1
 have hq2 := (hb.block _ lq).trans hq
 have lq2 : g < W0.heap.size := (Array.getElem?_eq_some_iff.1 hq2).1
 have HB : Hid (Below w.heap.size w W0) := hb
 have HC : Hid (∀ _ : True, _) := fun _ => qnear_any n l dd q.x q.y M W0 hN2 hon hmax hri hM
 obtain ⟨k, a, b, c, d, x, y, sq, K, af, fr⟩ := q
 obtain ⟨c0, c1, c2, c3, c4, c5, c6, c7, -, -, -⟩ := qc_of hq2
 obtain ⟨-, -, -, -, -, f0, f1, f2, f3, f4⟩ := node_facts hg
 obtain ⟨nX, nY, nL, nro, nrn, nrc, nko, nkn, nkc⟩ := n
 simp only at c0 c1 c2 c3 c4 c5 c6 c7 f0 f1 f2 f3 f4 hW0
 have HW0 : Hid _ := hW0
 simp only [nv] at HC ⊢
 clear hb hg hN2 hq hq2 hN hon hri hW0
 go_enter Try.func52, Try.ntmps52
 go_wp2_with (first | (rw [HW0.out]; clear HW0))
 refine Calls.mono (HC.out trivial) ?_
 rintro e w2 ⟨o, cap, rfl, hs, b2⟩
 have HE : Hid (RowsAt w2 o cap (nrV l x y M) ∧ Below w.heap.size w w2) := ⟨hs, HB.out.trans (b2.mono HB.out.size)⟩
 clear hs b2
 go_wp2_with fail
 go_ret2
 exact ⟨o, cap, rfl, HE.out.1, HE.out.2⟩
set_option maxRecDepth 100000 in
set_option maxHeartbeats 2000000 in
theorem kind4_any (n : Nv) (l : List Rw) (dd : Nat) (w : World) (hN : NodeAt (fun _ => True) dd w n l) (hon : On l) (hmax : l.length ≤ 1000) (hri : Rise l) :
  Calls Try.prog 53 #[nv n] w (KR l 0 w) := by
 have hb := below_new w (.cells #[.int .u32 (n.X : Int), .int .u32 (n.Y : Int), .int .i64 (n.L : Int), .slice n.ro n.rn n.rc, .slice n.ko n.kn n.kc] 45)
 have hg := heap_alloc_new w (.cells #[.int .u32 (n.X : Int), .int .u32 (n.Y : Int), .int .i64 (n.L : Int), .slice n.ro n.rn n.rc, .slice n.ko n.kn n.kc] 45)
 have hN2 := hN.below hb (Nat.le_refl _)
 obtain ⟨W0, hW0⟩ : ∃ W0, w.alloc (.cells #[.int .u32 (n.X : Int), .int .u32 (n.Y : Int), .int .i64 (n.L : Int), .slice n.ro n.rn n.rc, .slice n.ko n.kn n.kc] 45) = W0 := ⟨_, rfl⟩
 rw [hW0] at hb hg hN2
 have HB : Hid (Below w.heap.size w W0) := hb
 have HC : Hid (∀ _ : True, _) := fun _ => rowsQ_any n l dd W0 hN2 hon hmax hri
 obtain ⟨-, -, -, -, -, f0, f1, f2, f3, f4⟩ := node_facts hg
 obtain ⟨nX, nY, nL, nro, nrn, nrc, nko, nkn, nkc⟩ := n
 simp only at f0 f1 f2 f3 f4 hW0
 have HW0 : Hid _ := hW0
 simp only [nv] at HC ⊢
 clear hb hg hN2 hN hon hri hW0
 go_enter Try.func53, Try.ntmps53
 go_wp2_with (first | (rw [HW0.out]; clear HW0))
 refine Calls.mono (HC.out trivial) ?_
 rintro e w2 ⟨v, rfl, ho, b2⟩
 obtain ⟨o, cap, rfl, hs⟩ := sl_of_own ho
 have HE : Hid (RowsAt w2 o cap (l) ∧ Below w.heap.size w w2) := ⟨hs, HB.out.trans (b2.mono HB.out.size)⟩
 clear ho hs b2
 go_wp2_with fail
 go_ret2
 exact ⟨o, cap, rfl, HE.out.1, HE.out.2⟩
end Go.Proofs.Ytimdlohdmddnjaa.Rf
