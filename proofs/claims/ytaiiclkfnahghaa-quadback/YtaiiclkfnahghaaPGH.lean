/- Build. -/
import Derived.Test.YtaiiclkfnahghaaPGG
namespace Go.Proofs.Ytaiiclkfnahghaa.Rq
open Go.RowKit Go.Lib Go.Shelf
open Go.Proofs.Ytaiiclkfnahghaa.Rc
set_option maxRecDepth 100000 in
theorem results_nodeE {fn : Func} {p u : Tmp} (h : fn.results = #[.cell p 33, .tmp u]) (tmps : Array Value) (w : World) (g : Nat) (a b c d e x : Value) {t : TypeId}
    (hp : tmps.getD p undef = .pointer (some ⟨g, 0, none⟩)) (hu : tmps.getD u undef = x) (hg : w.heap[g]? = some (.cells #[a, b, c, d, e] t (0, 0))) : (results fn tmps).run Try.prog w = .ok (.tuple #[.agg #[a, b, c, d, e], x]) w := by
  have hp' : tmps[p]?.getD undef = .pointer (some ⟨g, 0, none⟩) := by simpa using hp
  have hu' : tmps[u]?.getD undef = x := by simpa using hu
  have c0 : w.cell? ⟨g, 0, none⟩ = some a := by rw [cell_of_row _ _ _ _ _ _ hg]; rfl
  have c1 : w.cell? ⟨g, 1, none⟩ = some b := by rw [cell_of_row _ _ _ _ _ _ hg]; rfl
  have c2 : w.cell? ⟨g, 2, none⟩ = some c := by rw [cell_of_row _ _ _ _ _ _ hg]; rfl
  have c3 : w.cell? ⟨g, 3, none⟩ = some d := by rw [cell_of_row _ _ _ _ _ _ hg]; rfl
  have c4 : w.cell? ⟨g, 4, none⟩ = some e := by rw [cell_of_row _ _ _ _ _ _ hg]; rfl
  simp [results, h, hp', hu', asAddr, go_sem, c0, c1, c2, c3, c4]
set_option maxRecDepth 100000 in
set_option maxHeartbeats 1000000 in
theorem build_no (l : List Rw) (o : Option Addr) (cap : Nat) (w : World) (hr : RowsAt w o cap l) (h : rightL l = false) :
    Calls Try.prog 13 #[.slice o l.length cap] w fun e w' => e = .returned (.tuple #[nv ⟨0, 0, 0, none, 0, 0, none, 0, 0⟩, .int .i64 80]) ∧ Below w.heap.size w w' := by
  have hbn := below_new w (.cells #[.int .u32 0, .int .u32 0, .int .i64 0, .slice none 0 0, .slice none 0 0] 33)
  have HC : Hid _ := qright_any l o cap _ (hr.below hbn (Nat.le_refl _))
  rw [h] at HC
  have HBn : Hid _ := hbn
  have HG : Hid _ := heap_alloc_new w (.cells #[.int .u32 0, .int .u32 0, .int .i64 0, .slice none 0 0, .slice none 0 0] 33)
  clear hr h hbn
  go_enter Try.func13, Try.ntmps13
  go_wp2_with fail
  refine Calls.mono HC.out ?_
  rintro e W1 ⟨rfl, b1⟩
  have hg : W1.heap[w.heap.size]? = some (.cells #[.int .u32 0, .int .u32 0, .int .i64 0, .slice none 0 0, .slice none 0 0] 33 (0, 0)) := (b1.block _ (by simp)).trans HG.out
  have HB1 : Hid (Below w.heap.size w W1) := HBn.out.trans (b1.mono (by simp))
  obtain ⟨z0, z1, z2, z3, z4, f0, f1, f2, f3, f4⟩ := node_facts hg
  obtain ⟨p1, _, p3⟩ := put_node hg (.int .u32 0) (.int .u32 0) (.int .i64 0) (.slice none 0 0) (.slice none 0 0)
  have HP1 : Hid _ := p1
  have HP3 : Hid _ := HB1.out.trans p3
  clear p1 p3 b1 HC hg
  go_wp2_with fail
  refine bodyPost_ret (results_nodeE rfl _ _ _ _ _ _ _ _ _ rfl rfl HP1.out) rfl ⟨rfl, HP3.out⟩
set_option maxRecDepth 100000 in
set_option maxHeartbeats 1000000 in
theorem build_ok (l : List Rw) (o : Option Addr) (cap : Nat) (w : World) (hr : RowsAt w o cap l) (h : rightL l = true) :
    Calls Try.prog 13 #[.slice o l.length cap] w fun e w' => ∃ n : Nv, e = .returned (.tuple #[nv n, .int .i64 0]) ∧ NodeAt (fun b => w.heap.size ≤ b) 32 w' n l ∧ Below w.heap.size w w' := by
  have hbn := below_new w (.cells #[.int .u32 0, .int .u32 0, .int .i64 0, .slice none 0 0, .slice none 0 0] 33)
  have HC : Hid _ := qright_any l o cap _ (hr.below hbn (Nat.le_refl _))
  have HT : Hid (∀ W, RowsAt W o cap l → _) := fun W hW => tree_any 32 l o cap W hW (right_on h) ((rightL_iff l).1 h).1 (by have := lev_le (right_on h); omega)
  rw [h] at HC
  have HBn : Hid _ := hbn
  have HR : Hid _ := hr
  have HG : Hid _ := heap_alloc_new w (.cells #[.int .u32 0, .int .u32 0, .int .i64 0, .slice none 0 0, .slice none 0 0] 33)
  clear hr h hbn
  go_enter Try.func13, Try.ntmps13
  go_wp2_with fail
  refine Calls.mono HC.out ?_
  rintro e W1 ⟨rfl, b1⟩
  have HB1 : Hid (Below w.heap.size w W1) := HBn.out.trans (b1.mono (by simp))
  have HG1 : Hid (W1.heap[w.heap.size]? = some (.cells #[.int .u32 0, .int .u32 0, .int .i64 0, .slice none 0 0, .slice none 0 0] 33 (0, 0))) := (b1.block _ (by simp)).trans HG.out
  have HS1 : Hid (w.heap.size < W1.heap.size) := (Array.getElem?_eq_some_iff.1 HG1.out).1
  clear b1 HC
  go_wp2_with fail
  refine Calls.mono (HT.out W1 (HR.out.below HB1.out (Nat.le_refl _))) ?_
  rintro e W2 ⟨⟨nX, nY, nL, nro, nrn, nrc, nko, nkn, nkc⟩, rfl, n1, b2⟩
  have hg : W2.heap[w.heap.size]? = some (.cells #[.int .u32 0, .int .u32 0, .int .i64 0, .slice none 0 0, .slice none 0 0] 33 (0, 0)) := (b2.block _ HS1.out).trans HG1.out
  obtain ⟨z0, z1, z2, z3, z4, f0, f1, f2, f3, f4⟩ := node_facts hg
  obtain ⟨p1, p2, p3⟩ := put_node hg (.int .u32 (nX : Int)) (.int .u32 (nY : Int)) (.int .i64 (nL : Int)) (.slice nro nrn nrc) (.slice nko nkn nkc)
  have HP1 : Hid _ := p1
  have HP3 : Hid (Below w.heap.size w _) := (HB1.out.trans (b2.mono (Nat.le_of_lt HS1.out))).trans p3
  have HN : Hid _ := (n1.same (by simp [World.setCell]) (fun b hG _ => p2 b (by have := HS1.out; omega))).mono fun b _ hG => (by have := HS1.out; omega : w.heap.size ≤ b)
  clear p1 p2 p3 b2 hg n1
  go_wp2_with fail
  refine bodyPost_ret (results_nodeE rfl _ _ _ _ _ _ _ _ _ rfl rfl HP1.out) rfl ⟨⟨nX, nY, nL, nro, nrn, nrc, nko, nkn, nkc⟩, rfl, HN.out, HP3.out⟩
end Go.Proofs.Ytaiiclkfnahghaa.Rq
