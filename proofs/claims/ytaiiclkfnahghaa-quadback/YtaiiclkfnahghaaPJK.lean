/- Collect; how two numbers, two rows compare. -/
import Derived.Test.YtaiiclkfnahghaaPJJ
namespace Go.Proofs.Ytaiiclkfnahghaa.Rq
open Go.RowKit Go.Lib Go.Shelf
open Go.Proofs.Ytaiiclkfnahghaa.Rc
set_option maxRecDepth 100000 in
theorem collect_any (w0 : World) (rs : List Rw) (gf : Nat) (lb : Array Value) (hit : RowsIter w0 rs gf lb) (heg : ∀ args w, (callFunc gf args).run Try.prog w = .ok (.enter gf args) w) (hmax : rs.length ≤ 1000) (w : World) (hw : Below w0.heap.size w0 w) :
    Calls Try.prog 86 #[.func (.func gf) #[] lb] w fun e w' => ∃ v, e = .returned v ∧ w'.ownsRow w.heap.size 26 4 v rs.length (rs.flatMap rc) ∧ Below w.heap.size w w' := by
  have HC : Hid _ := appSeq_any w0 rs gf lb hit heg hmax
  have HW : Hid (Below w0.heap.size w0 w) := hw
  clear hit heg hmax hw
  go_enter Try.func86, Try.ntmps86
  go_wp2_with fail
  refine (HC.out w HW.out).mono ?_
  rintro e w1 ⟨v, rfl, h1, h2⟩
  have HO : Hid _ := h1
  have HB : Hid _ := h2
  clear h1 h2 HC
  go_wp2_with fail
  go_ret
  exact ⟨_, rfl, HO.out, HB.out⟩
set_option maxRecDepth 100000 in
theorem isNaN_any (x : Nat) (w : World) : Calls Try.prog 77 #[.int .u64 (x : Int)] w fun e w' => e = .returned (.bool false) ∧ w' = w := by
  go_enter Try.func77, Try.ntmps77
  go_wp2_with fail
  go_ret
  exact ⟨by simp, rfl⟩
/-- How two numbers compare. -/
def cmpS (x y : Nat) : Int := if x < y then -1 else if y < x then 1 else 0
set_option maxRecDepth 100000 in
theorem compare_any (x y : Nat) (w : World) : Calls Try.prog 49 #[.int .u64 (x : Int), .int .u64 (y : Int)] w fun e w' => e = .returned (.int .i64 (cmpS x y)) ∧ w' = w := by
  have HX : Hid _ := isNaN_any x
  have HY : Hid _ := isNaN_any y
  obtain ⟨zx, hzx⟩ : ∃ zx : Int, (x : Int) = zx := ⟨_, rfl⟩
  obtain ⟨zy, hzy⟩ : ∃ zy : Int, (y : Int) = zy := ⟨_, rfl⟩
  have hc : (zx < zy ∧ cmpS x y = -1) ∨ (¬ zx < zy ∧ zy < zx ∧ cmpS x y = 1) ∨ (¬ zx < zy ∧ ¬ zy < zx ∧ cmpS x y = 0) := by
    unfold cmpS
    split
    · omega
    · split <;> omega
  rw [hzx] at HX ⊢
  rw [hzy] at HY ⊢
  generalize cmpS x y = c at *
  clear hzx hzy
  go_enter Try.func49, Try.ntmps49
  go_wp2_with fail
  refine (HX.out _).mono ?_
  rintro e w1 ⟨rfl, rfl⟩
  go_wp2_with fail
  refine (HY.out _).mono ?_
  rintro e w1 ⟨rfl, rfl⟩
  rcases hc with ⟨h1, rfl⟩ | ⟨h1, h2, rfl⟩ | ⟨h1, h2, rfl⟩
  all_goals
    go_wp2_with fail
    go_ret
    exact ⟨rfl, rfl⟩
set_option maxRecDepth 100000 in
theorem byId1_any (a b : Rw) (w : World) : Calls Try.prog 72 #[rv a, rv b] w fun e w' => e = .returned (.int .i64 (cmpS a.id b.id)) ∧ Below w.heap.size w w' := by
  obtain ⟨i, x, y, v⟩ := a
  obtain ⟨j, s, t, u⟩ := b
  have HC : Hid _ := compare_any i j
  simp only [rv]
  generalize cmpS i j = c at *
  go_enter Try.func72, Try.ntmps72
  go_wp2_with fail
  refine (HC.out _).mono ?_
  rintro e w1 ⟨rfl, rfl⟩
  go_wp2_with fail
  go_ret
  exact ⟨rfl, (below_new w _).alloc (by simp) _⟩
end Go.Proofs.Ytaiiclkfnahghaa.Rq
