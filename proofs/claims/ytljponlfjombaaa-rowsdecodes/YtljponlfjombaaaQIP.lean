/- A reader: rows, refs. -/
import Derived.Test.YtljponlfjombaaaQIM
namespace Go.Proofs.Ytljponlfjombaaa.Rw
open Go.RowKit Go.Lib Go.Shelf
open Go.Proofs.Ytljponlfjombaaa.Rc Go.Proofs.Ytljponlfjombaaa.Rq
set_option maxRecDepth 100000 in
theorem results_row {fn : Func} {p : Tmp} (h : fn.results = #[.cell p 47]) (tmps : Array Value) (w : World) (g : Nat) (a b c d : Value) {t : TypeId} {fr : Nat × Nat}
    (hp : tmps.getD p undef = .pointer (some ⟨g, 0, none⟩)) (hg : w.heap[g]? = some (.cells #[a, b, c, d] t fr)) : (results fn tmps).run Try.prog w = .ok (.agg #[a, b, c, d]) w := by
  have hp' : tmps[p]?.getD undef = .pointer (some ⟨g, 0, none⟩) := by simpa using hp
  have c0 : w.cell? ⟨g, 0, none⟩ = some a := by rw [cell_of_row _ _ _ _ _ _ hg]; rfl
  have c1 : w.cell? ⟨g, 1, none⟩ = some b := by rw [cell_of_row _ _ _ _ _ _ hg]; rfl
  have c2 : w.cell? ⟨g, 2, none⟩ = some c := by rw [cell_of_row _ _ _ _ _ _ hg]; rfl
  have c3 : w.cell? ⟨g, 3, none⟩ = some d := by rw [cell_of_row _ _ _ _ _ _ hg]; rfl
  simp [results, h, hp', asAddr, go_sem, c0, c1, c2, c3]
set_option maxRecDepth 100000 in
theorem results_ref {fn : Func} {p : Tmp} (h : fn.results = #[.cell p 28]) (tmps : Array Value) (w : World) (g : Nat) (a b : Value) {t : TypeId} {fr : Nat × Nat}
    (hp : tmps.getD p undef = .pointer (some ⟨g, 0, none⟩)) (hg : w.heap[g]? = some (.cells #[a, b] t fr)) : (results fn tmps).run Try.prog w = .ok (.agg #[a, b]) w := by
  have hp' : tmps[p]?.getD undef = .pointer (some ⟨g, 0, none⟩) := by simpa using hp
  have c0 : w.cell? ⟨g, 0, none⟩ = some a := by rw [cell_of_row _ _ _ _ _ _ hg]; rfl
  have c1 : w.cell? ⟨g, 1, none⟩ = some b := by rw [cell_of_row _ _ _ _ _ _ hg]; rfl
  simp [results, h, hp', asAddr, go_sem, c0, c1]
/-- The row that is read, and what is left. -/
def r1S (st : RS) : RS := aftS st 8
def r2S (st : RS) : RS := aftS (r1S st) 4
def r3S (st : RS) : RS := aftS (r2S st) 4
def r4S (st : RS) : RS := aftS (r3S st) 1
def rowS (st : RS) : Rw := ⟨numS st 8, numS (r1S st) 4, numS (r2S st) 4, txtS (r4S st) (numS (r3S st) 1)⟩
def r5S (st : RS) : RS := aftS (r4S st) (numS (r3S st) 1)
set_option maxRecDepth 100000 in
set_option maxHeartbeats 2000000 in
theorem row_any (g : Nat) (st : RS) (w : World) (h : RdS g st w) :
    Calls Try.prog 52 #[.pointer (some ⟨g, 0, none⟩)] w fun e w' => e = .returned (rv (rowS st)) ∧ RdS g (r5S st) w' ∧ Bo g w w' := by
  have lg : g < w.heap.size := (Array.getElem?_eq_some_iff.1 h).1
  have hbn := below_new w (.cells #[.int .u64 0, .int .u32 0, .int .u32 0, .string ⟨#[]⟩] 47)
  have HG0 : Hid ((w.alloc (.cells #[.int .u64 0, .int .u32 0, .int .u32 0, .string ⟨#[]⟩] 47)).heap[w.heap.size]? = some (.cells #[.int .u64 0, .int .u32 0, .int .u32 0, .string ⟨#[]⟩] 47 (0, 0))) := heap_alloc_new w _
  have HR0 : Hid (RdS g st (w.alloc (.cells #[.int .u64 0, .int .u32 0, .int .u32 0, .string ⟨#[]⟩] 47))) := (hbn.block _ lg).trans h
  have HB0 : Hid (Bo g w (w.alloc (.cells #[.int .u64 0, .int .u32 0, .int .u32 0, .string ⟨#[]⟩] 47))) := But.of_below hbn
  have HNM : Hid _ := fun st n h1 w h => number_any g st n h1 w h
  have HTX : Hid _ := fun st n w h => text_any g st n w h
  have n1 := numS_lt (r1S st) 4
  have n2 := numS_lt (r2S st) 4
  have n3 := numS_lt (r3S st) 1
  simp only [Nat.reduceMul, Nat.reducePow] at n1 n2 n3
  unfold rowS
  simp only [rv]
  obtain ⟨i0, hi0⟩ : ∃ i0, numS st 8 = i0 := ⟨_, rfl⟩
  obtain ⟨x0, hx0⟩ : ∃ x0, numS (r1S st) 4 = x0 := ⟨_, rfl⟩
  obtain ⟨y0, hy0⟩ : ∃ y0, numS (r2S st) 4 = y0 := ⟨_, rfl⟩
  obtain ⟨z0, hz0⟩ : ∃ z0, numS (r3S st) 1 = z0 := ⟨_, rfl⟩
  obtain ⟨v0, hv0⟩ : ∃ v0, txtS (r4S st) z0 = v0 := ⟨_, rfl⟩
  unfold r5S
  rw [hx0] at n1
  rw [hy0] at n2
  rw [hz0] at n3
  rw [hi0, hx0, hy0, hz0, hv0]
  have HQ : Hid (numS st 8 = i0 ∧ numS (r1S st) 4 = x0 ∧ numS (r2S st) 4 = y0 ∧ numS (r3S st) 1 = z0 ∧ txtS (r4S st) z0 = v0) := ⟨hi0, hx0, hy0, hz0, hv0⟩
  have q1 : IntKind.u32.wrap (x0 : Int) = (x0 : Int) := IntWalk.u32_in _ ⟨by omega, by omega⟩
  have q2 : IntKind.u32.wrap (y0 : Int) = (y0 : Int) := IntWalk.u32_in _ ⟨by omega, by omega⟩
  have q3 : IntKind.i64.wrap (z0 : Int) = (z0 : Int) := wrap_i64 (by omega) (by omega)
  have q4 : (z0 : Int) < 256 := by omega
  clear h hbn hi0 hx0 hy0 hz0 hv0
  obtain ⟨W0, hW0⟩ : ∃ W0, w.alloc (.cells #[.int .u64 0, .int .u32 0, .int .u32 0, .string ⟨#[]⟩] 47) = W0 := ⟨_, rfl⟩
  have HW0 : Hid _ := hW0
  rw [hW0] at HG0 HR0 HB0
  clear hW0
  have hng : w.heap.size ≠ g := by omega
  go_enter Try.func52, Try.ntmps52
  go_wp2_with fail
  rw [HW0.out]
  clear HW0
  refine (HNM.out st 8 (by omega) W0 HR0.out).mono ?_
  rintro e w1 ⟨rfl, r1, b1⟩
  have HR1 : Hid (RdS g (r1S st) w1) := r1
  have HB1 : Hid (Bo g w w1) := HB0.out.trans b1
  have HG1 : Hid (w1.heap[w.heap.size]? = some (.cells #[.int .u64 0, .int .u32 0, .int .u32 0, .string ⟨#[]⟩] 47 (0, 0))) := (b1.block _ (Array.getElem?_eq_some_iff.1 HG0.out).1 hng).trans HG0.out
  clear r1 b1 HR0 HB0 HG0
  rw [HQ.out.1]
  go_wp2_with fail
  refine (HNM.out (r1S st) 4 (by omega) w1 HR1.out).mono ?_
  rintro e w2 ⟨rfl, r2, b2⟩
  have HR2 : Hid (RdS g (r2S st) w2) := r2
  have HB2 : Hid (Bo g w w2) := HB1.out.trans b2
  have HG2 : Hid (w2.heap[w.heap.size]? = some (.cells #[.int .u64 0, .int .u32 0, .int .u32 0, .string ⟨#[]⟩] 47 (0, 0))) := (b2.block _ (Array.getElem?_eq_some_iff.1 HG1.out).1 hng).trans HG1.out
  clear r2 b2 HR1 HB1 HG1
  rw [HQ.out.2.1]
  go_wp2_with fail
  refine (HNM.out (r2S st) 4 (by omega) w2 HR2.out).mono ?_
  rintro e w3 ⟨rfl, r3, b3⟩
  have HR3 : Hid (RdS g (r3S st) w3) := r3
  have HB3 : Hid (Bo g w w3) := HB2.out.trans b3
  have HG3 : Hid (w3.heap[w.heap.size]? = some (.cells #[.int .u64 0, .int .u32 0, .int .u32 0, .string ⟨#[]⟩] 47 (0, 0))) := (b3.block _ (Array.getElem?_eq_some_iff.1 HG2.out).1 hng).trans HG2.out
  clear r3 b3 HR2 HB2 HG2
  rw [HQ.out.2.2.1]
  go_wp2_with fail
  refine (HNM.out (r3S st) 1 (by omega) w3 HR3.out).mono ?_
  rintro e w4 ⟨rfl, r4, b4⟩
  have HR4 : Hid (RdS g (r4S st) w4) := r4
  have HB4 : Hid (Bo g w w4) := HB3.out.trans b4
  have HG4 : Hid (w4.heap[w.heap.size]? = some (.cells #[.int .u64 0, .int .u32 0, .int .u32 0, .string ⟨#[]⟩] 47 (0, 0))) := (b4.block _ (Array.getElem?_eq_some_iff.1 HG3.out).1 hng).trans HG3.out
  clear r4 b4 HR3 HB3 HG3
  rw [HQ.out.2.2.2.1]
  go_wp2_with fail
  refine (HTX.out (r4S st) z0 w4 HR4.out).mono ?_
  rintro e w5 ⟨rfl, r5, b5⟩
  rw [HQ.out.2.2.2.2]
  have hg5 := (b5.block _ (Array.getElem?_eq_some_iff.1 HG4.out).1 hng).trans HG4.out
  have l5 : w.heap.size < w5.heap.size := (Array.getElem?_eq_some_iff.1 hg5).1
  obtain ⟨⟨c0, c1, c2, c3⟩, -⟩ := row_cells (id := 0) (x := 0) (y := 0) (by simpa using hg5)
  have fz : ∀ k, w5.frozen? ⟨w.heap.size, k, none⟩ = false := fun k => frozen_of_row w5 _ k _ _ hg5
  have f0 := fz 0
  have f1 := fz 1
  have f2 := fz 2
  have f3 := fz 3
  have HG5 : Hid _ := hg5
  have HE : Hid (RdS g (aftS (r4S st) z0) w5 ∧ Bo g w w5) := ⟨r5, HB4.out.trans b5⟩
  clear r5 b5 hg5 fz HR4 HB4 HG4
  have X1 := heap_setCell_same w5 w.heap.size 0 _ _ (.int .u64 (i0 : Int)) HG5.out
  have X2 := heap_setCell_same _ w.heap.size 1 _ _ (.int .u32 (x0 : Int)) X1
  have X3 := heap_setCell_same _ w.heap.size 2 _ _ (.int .u32 (y0 : Int)) X2
  have X4 := heap_setCell_same _ w.heap.size 3 _ _ (.string v0) X3
  simp only [List.setIfInBounds_toArray, List.set_cons_zero, List.set_cons_succ] at X4
  have HX : Hid _ := X4
  have hoth : ∀ j, j ≠ w.heap.size → ((((w5.setCell ⟨w.heap.size, 0, none⟩ (.int .u64 (i0 : Int))).setCell ⟨w.heap.size, 1, none⟩ (.int .u32 (x0 : Int))).setCell ⟨w.heap.size, 2, none⟩ (.int .u32 (y0 : Int))).setCell ⟨w.heap.size, 3, none⟩ (.string v0)).heap[j]? = w5.heap[j]? := fun j hj => by
    rw [Below.heap_setCell _ _ _ _ (fun e => hj e), Below.heap_setCell _ _ _ _ (fun e => hj e), Below.heap_setCell _ _ _ _ (fun e => hj e), Below.heap_setCell _ _ _ _ (fun e => hj e)]
  have HO : Hid _ := hoth
  clear X1 X2 X3 X4 hoth
  go_wp2_with fail
  refine bodyPost_ret (results_row rfl _ _ w.heap.size _ _ _ _ rfl HX.out) rfl ⟨rfl, (HO.out g (by omega)).trans HE.out.1, ?_⟩
  have hb := HE.out.2
  exact ⟨hb.os, hb.tape, hb.output, by have := hb.size; simp [World.setCell]; exact this, fun j hj hn => (HO.out j (by omega)).trans (hb.block j hj hn)⟩
end Go.Proofs.Ytljponlfjombaaa.Rw
/- A reader: refs. -/
namespace Go.Proofs.Ytljponlfjombaaa.Rw
open Go.RowKit Go.Lib Go.Shelf
open Go.Proofs.Ytljponlfjombaaa.Rc Go.Proofs.Ytljponlfjombaaa.Rq
/-- Do bytes stand for no ref? -/
def isNo (p : Nat) (t : ByteArray) : Bool := decide (p = 0) && decide (t = noTag)
set_option maxRecDepth 100000 in
theorem eql_no (p : Nat) (t : ByteArray) (w : World) : (binOp .eql 28 (.agg #[.int .u32 (p : Int), .string t]) (.agg #[.int .u32 0, .string noTag])).run Try.prog w = .ok (.bool (isNo p t)) w := by
  have hS : Try.prog.underlying 28 = some (.struct (Try.prog.fieldsOf 28)) := by kernel_rfl
  have hp : Try.prog.stoodInHeld 28 = false := by kernel_rfl
  have u2 := Try.underlying22
  have u9 := Try.underlying9
  rw [run_eql_struct, show (10000 : Nat) = 9999 + 1 from rfl, run_equalIn_agg w 9999 28 _ _ hS hp]
  simp only [Program.fieldsOf, Try.underlying28]
  unfold isNo
  obtain ⟨nt, hnt⟩ : ∃ nt, noTag = nt := ⟨_, rfl⟩
  rw [hnt]
  by_cases h1 : p = 0
  · subst h1
    by_cases h2 : t = nt
    · subst h2
      go_simp
    · go_simp
      intro e
      rw [ByteArray.toList_eq, ByteArray.toList_eq] at e
      apply h2
      obtain ⟨⟨a⟩⟩ := t
      obtain ⟨⟨b⟩⟩ := nt
      have e' : a = b := e
      rw [e']
  · go_simp
/-- The ref that is read, and what is left. -/
def refS (st : RS) : Rf := if isNo (numS st 4) (txtS (aftS st 4) 32) = true then ⟨0, ⟨#[]⟩⟩ else ⟨numS st 4, txtS (aftS st 4) 32⟩
def f2S (st : RS) : RS := aftS (aftS st 4) 32
set_option maxRecDepth 100000 in
set_option maxHeartbeats 2000000 in
theorem ref_any (g : Nat) (st : RS) (w : World) (h : RdS g st w) :
    Calls Try.prog 50 #[.pointer (some ⟨g, 0, none⟩)] w fun e w' => e = .returned (fcv (refS st)) ∧ RdS g (f2S st) w' ∧ Bo g w w' := by
  have lg : g < w.heap.size := (Array.getElem?_eq_some_iff.1 h).1
  have hbn := below_new w (.cells #[.int .u32 0, .string ⟨#[]⟩] 28)
  have HG0 : Hid ((w.alloc (.cells #[.int .u32 0, .string ⟨#[]⟩] 28)).heap[w.heap.size]? = some (.cells #[.int .u32 0, .string ⟨#[]⟩] 28 (0, 0))) := heap_alloc_new w _
  have HR0 : Hid (RdS g st (w.alloc (.cells #[.int .u32 0, .string ⟨#[]⟩] 28))) := (hbn.block _ lg).trans h
  have HB0 : Hid (Bo g w (w.alloc (.cells #[.int .u32 0, .string ⟨#[]⟩] 28))) := But.of_below hbn
  have HNM : Hid _ := number_any g st 4 (by omega)
  have HTX : Hid _ := text_any g (aftS st 4) 32
  have n1 := numS_lt st 4
  simp only [Nat.reduceMul, Nat.reducePow] at n1
  unfold refS f2S
  obtain ⟨p, hp⟩ : ∃ p, numS st 4 = p := ⟨_, rfl⟩
  obtain ⟨t, ht⟩ : ∃ t, txtS (aftS st 4) 32 = t := ⟨_, rfl⟩
  rw [hp] at n1 HNM ⊢
  rw [ht] at HTX ⊢
  have heq := eql_no p t
  have q1 : IntKind.u32.wrap (p : Int) = (p : Int) := IntWalk.u32_in _ ⟨by omega, by omega⟩
  clear h hbn hp ht
  obtain ⟨W0, hW0⟩ : ∃ W0, w.alloc (.cells #[.int .u32 0, .string ⟨#[]⟩] 28) = W0 := ⟨_, rfl⟩
  have HW0 : Hid _ := hW0
  rw [hW0] at HG0 HR0 HB0
  clear hW0
  have hng : w.heap.size ≠ g := by omega
  obtain ⟨nb, hnb⟩ : ∃ nb, isNo p t = nb := ⟨_, rfl⟩
  rw [hnb] at heq ⊢
  clear hnb
  simp only [noTag] at heq
  go_enter Try.func50, Try.ntmps50
  go_wp2_with fail
  rw [HW0.out]
  clear HW0
  refine (HNM.out W0 HR0.out).mono ?_
  rintro e w1 ⟨rfl, r1, b1⟩
  have HR1 : Hid (RdS g (aftS st 4) w1) := r1
  have HB1 : Hid (Bo g w w1) := HB0.out.trans b1
  have HG1 : Hid (w1.heap[w.heap.size]? = some (.cells #[.int .u32 0, .string ⟨#[]⟩] 28 (0, 0))) := (b1.block _ (Array.getElem?_eq_some_iff.1 HG0.out).1 hng).trans HG0.out
  clear r1 b1 HR0 HB0 HG0
  go_wp2_with fail
  refine (HTX.out w1 HR1.out).mono ?_
  rintro e w2 ⟨rfl, r2, b2⟩
  have hg2 := (b2.block _ (Array.getElem?_eq_some_iff.1 HG1.out).1 hng).trans HG1.out
  have l2 : w.heap.size < w2.heap.size := (Array.getElem?_eq_some_iff.1 hg2).1
  have l2g : g < w2.heap.size := (Array.getElem?_eq_some_iff.1 r2).1
  have HR2 : Hid (RdS g (aftS (aftS st 4) 32) w2) := r2
  have HB2 : Hid (Bo g w w2) := HB1.out.trans b2
  have HG2 : Hid (w2.heap[w.heap.size]? = some (.cells #[.int .u32 0, .string ⟨#[]⟩] 28 (0, 0))) := hg2
  have f0 : w2.frozen? ⟨w.heap.size, 0, none⟩ = false := frozen_of_row w2 _ 0 _ _ hg2
  have f1 : w2.frozen? ⟨w.heap.size, 1, none⟩ = false := frozen_of_row w2 _ 1 _ _ hg2
  have d0 : w2.cell? ⟨w.heap.size, 0, none⟩ = some (.int .u32 0) := by rw [cell_of_row _ _ _ _ _ _ hg2]; rfl
  have d1 : w2.cell? ⟨w.heap.size, 1, none⟩ = some (.string ⟨#[]⟩) := by rw [cell_of_row _ _ _ _ _ _ hg2]; rfl
  clear r2 b2 hg2 HR1 HB1 HG1
  cases nb
  · simp only
    have X1 := heap_setCell_same w2 w.heap.size 0 _ _ (.int .u32 (p : Int)) HG2.out
    have X2 := heap_setCell_same _ w.heap.size 1 _ _ (.string t) X1
    simp only [List.setIfInBounds_toArray, List.set_cons_zero, List.set_cons_succ] at X2
    obtain ⟨W4, hW4⟩ : ∃ W4, ((w2.setCell ⟨w.heap.size, 0, none⟩ (.int .u32 (p : Int))).setCell ⟨w.heap.size, 1, none⟩ (.string t)) = W4 := ⟨_, rfl⟩
    have hs4 : W4.heap.size = w2.heap.size := by rw [← hW4]; simp [World.setCell]
    have hoth : ∀ j, j ≠ w.heap.size → W4.heap[j]? = w2.heap[j]? := fun j hj => by
      rw [← hW4, Below.heap_setCell _ _ _ _ (fun e => hj e), Below.heap_setCell _ _ _ _ (fun e => hj e)]
    rw [hW4] at X2
    have hbx := below_new W4 (.cells #[.int .u32 (p : Int), .string t] 28)
    have HX : Hid _ := (hbx.block _ (by omega)).trans X2
    have HRf : Hid (RdS g (aftS (aftS st 4) 32) (W4.alloc (.cells #[.int .u32 (p : Int), .string t] 28))) := (hbx.block _ (by omega)).trans ((hoth g (by omega)).trans HR2.out)
    have HBf : Hid (Bo g w (W4.alloc (.cells #[.int .u32 (p : Int), .string t] 28))) := by
      have hb := HB2.out
      have ho : W4.os = w2.os ∧ W4.tape = w2.tape ∧ W4.output = w2.output := by rw [← hW4]; exact ⟨rfl, rfl, rfl⟩
      have hsz := hb.size
      exact ⟨hbx.os.trans (ho.1.trans hb.os), hbx.tape.trans (ho.2.1.trans hb.tape), hbx.output.trans (ho.2.2.trans hb.output), by have := hbx.size; omega, fun j hj hn => (hbx.block j (by omega)).trans ((hoth j (by omega)).trans (hb.block j hj hn))⟩
    have HW4 : Hid _ := hW4
    clear X1 X2 hoth hbx hs4 hW4
    go_wp2_with fail
    rw [HW4.out]
    exact bodyPost_ret (results_ref rfl _ _ w.heap.size _ _ rfl HX.out) rfl ⟨rfl, HRf.out, HBf.out⟩
  · simp only
    have X1 := heap_setCell_same w2 w.heap.size 0 _ _ (.int .u32 0) HG2.out
    have X2 := heap_setCell_same _ w.heap.size 1 _ _ (.string ⟨#[]⟩) X1
    simp only [List.setIfInBounds_toArray, List.set_cons_zero, List.set_cons_succ] at X2
    obtain ⟨W4, hW4⟩ : ∃ W4, ((w2.setCell ⟨w.heap.size, 0, none⟩ (.int .u32 0)).setCell ⟨w.heap.size, 1, none⟩ (.string ⟨#[]⟩)) = W4 := ⟨_, rfl⟩
    have hs4 : W4.heap.size = w2.heap.size := by rw [← hW4]; simp [World.setCell]
    have hoth : ∀ j, j ≠ w.heap.size → W4.heap[j]? = w2.heap[j]? := fun j hj => by
      rw [← hW4, Below.heap_setCell _ _ _ _ (fun e => hj e), Below.heap_setCell _ _ _ _ (fun e => hj e)]
    rw [hW4] at X2
    have hbx := below_new W4 (.cells #[.int .u32 (p : Int), .string t] 28)
    have HX : Hid _ := (hbx.block _ (by omega)).trans X2
    have HRf : Hid (RdS g (aftS (aftS st 4) 32) (W4.alloc (.cells #[.int .u32 (p : Int), .string t] 28))) := (hbx.block _ (by omega)).trans ((hoth g (by omega)).trans HR2.out)
    have HBf : Hid (Bo g w (W4.alloc (.cells #[.int .u32 (p : Int), .string t] 28))) := by
      have hb := HB2.out
      have ho : W4.os = w2.os ∧ W4.tape = w2.tape ∧ W4.output = w2.output := by rw [← hW4]; exact ⟨rfl, rfl, rfl⟩
      have hsz := hb.size
      exact ⟨hbx.os.trans (ho.1.trans hb.os), hbx.tape.trans (ho.2.1.trans hb.tape), hbx.output.trans (ho.2.2.trans hb.output), by have := hbx.size; omega, fun j hj hn => (hbx.block j (by omega)).trans ((hoth j (by omega)).trans (hb.block j hj hn))⟩
    have HW4 : Hid _ := hW4
    clear X1 X2 hoth hbx hs4 hW4
    go_wp2_with fail
    rw [HW4.out]
    exact bodyPost_ret (results_ref rfl _ _ w.heap.size _ _ rfl HX.out) rfl ⟨rfl, HRf.out, HBf.out⟩
end Go.Proofs.Ytljponlfjombaaa.Rw
/- A reader: lists of rows. -/
namespace Go.Proofs.Ytljponlfjombaaa.Rw
open Go.RowKit Go.Lib Go.Shelf
open Go.Proofs.Ytljponlfjombaaa.Rc Go.Proofs.Ytljponlfjombaaa.Rq
/-- So many parts are read, as long as each is whole: what they are, and what is left. -/
def lstS {α : Type} (f : RS → α) (nx : RS → RS) : Nat → RS → List α × RS
  | 0, st => ([], st)
  | n + 1, st => if (nx st).s = true then ([], nx st) else (f st :: (lstS f nx n (nx st)).1, (lstS f nx n (nx st)).2)
set_option maxRecDepth 100000 in
theorem lst_stop {α : Type} {f : RS → α} {nx : RS → RS} {n : Nat} {st : RS} (h : (nx st).s = true) : lstS f nx (n + 1) st = ([], nx st) := by rw [lstS, if_pos h]
set_option maxRecDepth 100000 in
theorem lst_go {α : Type} {f : RS → α} {nx : RS → RS} {n : Nat} {st : RS} (h : (nx st).s = false) : lstS f nx (n + 1) st = (f st :: (lstS f nx n (nx st)).1, (lstS f nx n (nx st)).2) := by rw [lstS, if_neg (by rw [h]; simp)]
set_option maxRecDepth 100000 in
theorem lst_len {α : Type} {f : RS → α} {nx : RS → RS} : ∀ (n : Nat) (st : RS), (lstS f nx n st).1.length ≤ n
  | 0, _ => by simp [lstS]
  | n + 1, st => by
    have := lst_len (f := f) (nx := nx) n (nx st)
    rw [lstS]
    split <;> simp
    omega
set_option maxRecDepth 100000 in
theorem own_sameR {W W' : World} {base : Nat} {v : Value} {n : Nat} {xs : List Value} (h : W.ownsRow base 47 4 v n xs) (hs : ∀ b, base ≤ b → b < W.heap.size → W'.heap[b]? = W.heap[b]?) : W'.ownsRow base 47 4 v n xs := by
  refine ⟨h.1, ?_⟩
  rcases h.2 with h2 | ⟨g, cap, cur, h1, h2, h3, h4⟩
  · exact .inl h2
  · exact .inr ⟨g, cap, cur, h1, h2, (hs g h2 (Array.getElem?_eq_some_iff.1 h3).1).trans h3, h4⟩
set_option maxRecDepth 100000 in
theorem own_baseR {W : World} {base : Nat} {v : Value} {n : Nat} {xs : List Value} (h : W.ownsRow base 47 4 v n xs) {b : Nat} (hb : v.ownBlock = some b) : base ≤ b := by
  rcases h.2 with ⟨rfl, -⟩ | ⟨g, cap, cur, rfl, h2, h3, -⟩
  · simp [Value.ownBlock] at hb
  · simp [Value.ownBlock] at hb
    omega
set_option maxRecDepth 100000 in
theorem one_rowR {w : World} {g : Nat} {r : Rw} {t : TypeId} {fr : Nat × Nat} (h : w.heap[g]? = some (.cells #[.int .u64 (r.id : Int), .int .u32 (r.x : Int), .int .u32 (r.y : Int), .string r.v] t fr)) : Sl 4 w (some ⟨g, 0, none⟩) 1 1 (rc r) := by
  refine ⟨Nat.le_refl _, by decide, (fun e => by cases e), rfl, fun _ => ⟨g, 0, rfl, (Array.getElem?_eq_some_iff.1 h).1, fun j u hu => ?_⟩⟩
  rw [Nat.zero_add, cell_of_row _ _ _ _ _ _ h]
  have : j < 4 := (List.getElem?_eq_some_iff.1 hu).1
  obtain rfl | rfl | rfl | rfl : j = 0 ∨ j = 1 ∨ j = 2 ∨ j = 3 := by omega
  all_goals exact hu
set_option maxRecDepth 100000 in
theorem rc_one1 (r : Rw) : ∀ u ∈ rc r, u.oneCell' = true := by
  intro u hu
  simp [rc] at hu
  rcases hu with rfl | rfl | rfl | rfl <;> rfl
abbrev rowF (g : Nat) : Value := .func (.func 52) #[.pointer (some ⟨g, 0, none⟩)] #[]
set_option maxRecDepth 100000 in
set_option maxHeartbeats 4000000 in
theorem listRow_any (g : Nat) (st : RS) (c : Nat) (hc : c ≤ 1000) (w : World) (h : RdS g st w) :
    Calls Try.prog 51 #[.pointer (some ⟨g, 0, none⟩), .int .u64 (c : Int), rowF g] w fun e w' => ∃ v, e = .returned v ∧ w'.ownsRow w.heap.size 47 4 v (lstS rowS r5S c st).1.length ((lstS rowS r5S c st).1.flatMap rc) ∧ RdS g (lstS rowS r5S c st).2 w' ∧ Bo g w w' := by
  have HR : Hid _ := row_any g
  have H0 : Hid (RdS g st w) := h
  have lg : g < w.heap.size := (Array.getElem?_eq_some_iff.1 h).1
  obtain ⟨L, hL⟩ : ∃ L, lstS rowS r5S c st = L := ⟨_, rfl⟩
  have HLL : Hid (lstS rowS r5S c st = L) := hL
  rw [hL]
  clear h hL
  go_enter Try.func51, Try.ntmps51
  go_wp2_with fail
  refine wp_scope_straight ?_
  go_wp2_with fail
  refine wp_label ?_
  go_wp2_with fail
  go_loopw [7, 10] (fun lv iv wr => ∃ (i : Nat) (xs : List Rw) (si : RS), i ≤ c ∧ iv = .int .u64 (i : Int) ∧ xs.length = i ∧ L = (xs ++ (lstS rowS r5S (c - i) si).1, (lstS rowS r5S (c - i) si).2) ∧ wr.ownsRow w.heap.size 47 4 lv i (xs.flatMap rc) ∧ RdS g si wr ∧ Bo g w wr) (fun _ iv _ => c - natOf iv)
  case atStart => exact ⟨0, [], st, Nat.zero_le _, rfl, rfl, by rw [← HLL.out]; simp, World.ownsRow_nil _ _ _ _, H0.out, But.refl _ _⟩
  case round =>
    obtain ⟨i, xs, si, hi, rfl, hxl, hLe, ho, hrd, hbo⟩ := hrel
    have HO : Hid _ := ho
    have HRD : Hid (RdS g si wr) := hrd
    have HBO : Hid (Bo g w wr) := hbo
    have HLE : Hid _ := hLe
    have HXL : Hid (xs.length = i) := hxl
    obtain ⟨lo, lc, rfl, -⟩ := sl_of_own ho
    clear ho hrd hbo hLe hxl
    by_cases hlt : i < c
    · have q1 : (i : Int) < (c : Int) := by omega
      obtain ⟨k, hk⟩ : ∃ k, c - i = k + 1 := ⟨c - i - 1, by omega⟩
      have hk2 : c - (i + 1) = k := by omega
      go_wp2_with fail
      refine (HR.out si wr HRD.out).mono ?_
      rintro e w1 ⟨rfl, r1, b1⟩
      have hle := HLE.out
      rw [hk] at hle
      obtain ⟨⟨id, x, y, v⟩, hrw⟩ : ∃ r, rowS si = r := ⟨_, rfl⟩
      rw [hrw]
      simp only [rv]
      have hbx := below_new w1 (.cells #[.int .u64 (id : Int), .int .u32 (x : Int), .int .u32 (y : Int), .string v] 47)
      obtain ⟨c0, c1, lg1, -, -⟩ := rd_cells r1
      obtain ⟨⟨s0, s1, s2, s3⟩, lB⟩ := row_cells (heap_alloc_new w1 (.cells #[.int .u64 (id : Int), .int .u32 (x : Int), .int .u32 (y : Int), .string v] 47))
      have HB1 : Hid (Bo g w w1) := HBO.out.trans b1
      have HB2 : Hid (Bo g w (w1.alloc (.cells #[.int .u64 (id : Int), .int .u32 (x : Int), .int .u32 (y : Int), .string v] 47))) := HB1.out.trans (But.of_below hbx)
      have HR2 : Hid (RdS g (r5S si) (w1.alloc (.cells #[.int .u64 (id : Int), .int .u32 (x : Int), .int .u32 (y : Int), .string v] 47))) := (hbx.block _ lg1).trans r1
      have HO1 : Hid ((w1.alloc (.cells #[.int .u64 (id : Int), .int .u32 (x : Int), .int .u32 (y : Int), .string v] 47)).ownsRow w.heap.size 47 4 (.slice lo i lc) i (xs.flatMap rc)) := own_sameR HO.out fun b hb hlt => (hbx.block b (Nat.lt_of_lt_of_le hlt b1.size)).trans (b1.block b hlt (by omega))
      cases hsh : (r5S si).s
      · rw [hsh] at c1
        rw [lst_go hsh, hrw] at hle
        have HLE2 : Hid (L = ((xs ++ [⟨id, x, y, v⟩]) ++ (lstS rowS r5S k (r5S si)).1, (lstS rowS r5S k (r5S si)).2)) := by
          refine (?_ : L = _)
          rw [hle]; simp
        obtain ⟨W2, hW2⟩ : ∃ W2, w1.alloc (.cells #[.int .u64 (id : Int), .int .u32 (x : Int), .int .u32 (y : Int), .string v] 47) = W2 := ⟨_, rfl⟩
        have hsW : W2.heap.size = w1.heap.size + 1 := by rw [← hW2]; simp
        rw [hW2] at HB2 HR2 HO1
        have hbn := below_new W2 (.cells #[.int .u64 (id : Int), .int .u32 (x : Int), .int .u32 (y : Int), .string v] 47)
        obtain ⟨v', W', hrun, a1, a2, a3⟩ := append_sl 25 47 Try.underlying25 infoRow rfl (by decide) (by decide) (W2.alloc (.cells #[.int .u64 (id : Int), .int .u32 (x : Int), .int .u32 (y : Int), .string v] 47)) w.heap.size i 1 (.slice lo i lc) (some ⟨W2.heap.size, 0, none⟩) 1
          (xs.flatMap rc) (rc ⟨id, x, y, v⟩) (own_sameR HO1.out fun b _ hlt => hbn.block b hlt) (by have := HB2.out.size; simp; omega) (one_rowR (r := ⟨id, x, y, v⟩) (heap_alloc_new W2 _)) (rc_one1 _) (by omega)
        have hgl : g < W2.heap.size := (Array.getElem?_eq_some_iff.1 HR2.out).1
        have hgw : ∀ j, j < w.heap.size → W'.heap[j]? = W2.heap[j]? := fun j hj => (a2.block j (by have := HB2.out.size; simp; omega) (fun e => by have := own_baseR HO1.out e.symm; omega)).trans (hbn.block j (by have := HB2.out.size; omega))
        have HFIN : Hid (W'.ownsRow w.heap.size 47 4 v' (i + 1) ((xs ++ [(⟨id, x, y, v⟩ : Rw)]).flatMap rc) ∧ RdS g (r5S si) W' ∧ Bo g w W') := by
          refine ⟨?_, (hgw g lg).trans HR2.out, ?_⟩
          · rw [List.flatMap_append]; simpa using a1
          · have hb := HB2.out
            exact ⟨a2.os.trans (hbn.os.trans hb.os), a2.tape.trans (hbn.tape.trans hb.tape), a2.output.trans (hbn.output.trans hb.output), Nat.le_trans hb.size (Nat.le_trans hbn.size a2.size), fun j hj hn => (hgw j hj).trans (hb.block j hj hn)⟩
        obtain ⟨lo', lc', rfl, -⟩ := sl_of_own a1
        rw [← hW2] at hrun
        have hs3 : (w1.alloc (.cells #[.int .u64 (id : Int), .int .u32 (x : Int), .int .u32 (y : Int), .string v] 47)).heap.size = w1.heap.size + 1 := by simp
        rw [hs3] at hrun
        have q2 : (i : Int) + 1 ≤ 18446744073709551615 := by omega
        clear r1 b1 hle hbx hbn a1 a2 a3 hgw hsW hs3 hW2 HB1 HB2 HR2 HO1
        go_wp2_with (at_builtin; refine list_append rfl 25 25 (.tmp 18) (.tmp 20) rfl (vs := .slice lo i lc) (vx := .slice (some ⟨w1.heap.size + 1, 0, none⟩) 1 1) rfl rfl hrun ?_)
        go_roundw
        case rel => exact ⟨i + 1, xs ++ [⟨id, x, y, v⟩], r5S si, by omega, by go_num, by rw [List.length_append, HXL.out]; rfl, by rw [hk2]; exact HLE2.out, HFIN.out⟩
        case measure => simp [natOf]; omega
      · rw [hsh] at c1
        rw [lst_stop hsh] at hle
        have HE : Hid (L = (xs, r5S si)) := by
          refine (?_ : L = (xs, r5S si))
          rw [hle]; simp
        clear r1 b1 hle hbx
        go_wp2_with fail
        first | go_ret | (simp only [Exit.noGoto]; go_ret)
        rw [HE.out]
        exact ⟨_, rfl, by rw [HXL.out]; exact HO1.out, HR2.out, HB2.out⟩
    · obtain rfl : i = c := by omega
      have q1 : ¬ (i : Int) < (i : Int) := by omega
      have HE : Hid (L = (xs, si)) := by
        refine (?_ : L = (xs, si))
        have := HLE.out
        rw [Nat.sub_self] at this
        simpa [lstS] using this
      go_wp2_with fail
      go_ret
      rw [HE.out]
      exact ⟨_, rfl, by rw [HXL.out]; exact HO.out, HRD.out, HBO.out⟩
end Go.Proofs.Ytljponlfjombaaa.Rw
