/- Lists that rise. -/
import Derived.Test.YtaiiclkfnahghaaPJM
namespace Go.Proofs.Ytaiiclkfnahghaa.Rq
open Go.RowKit Go.Lib Go.Shelf
open Go.Proofs.Ytaiiclkfnahghaa.Rc
set_option maxRecDepth 100000 in
theorem rise_perm_eq {l m : List Rw} (hl : Rise l) (hm : Rise m) (h : l.Perm m) : l = m := by
  refine h.eq_of_pairwise (le := fun (a b : Rw) => a.id < b.id) (fun a b _ _ h1 h2 => ?_) hl hm
  omega
set_option maxRecDepth 100000 in
theorem rise_filter {l : List Rw} (h : Rise l) (kp : Rw → Bool) : Rise (l.filter kp) := h.sublist List.filter_sublist
set_option maxRecDepth 100000 in
/-- A list by ids that do not fall, a permutation of one that rises, is that one. -/
theorem sorted_is {s l : List Rw} (hs : s.Pairwise fun a b => ¬ b.id < a.id) (hp : s.Perm l) (hl : Rise l) : s = l := by
  refine rise_perm_eq ?_ hl hp
  have hn : l.Pairwise fun a b => a.id ≠ b.id := hl.imp fun h => by omega
  have hn2 : s.Pairwise fun a b => a.id ≠ b.id := (hp.pairwise_iff (fun h => fun e => h e.symm)).2 hn
  exact (hs.and hn2).imp fun h => by omega
/-- The first of two that is not 0. -/
def orS (x y : Int) : Int := if x ≠ 0 then x else y
set_option maxRecDepth 100000 in
set_option maxHeartbeats 1000000 in
theorem or_any (x y : Int) (g : Nat) (w : World) (h0 : w.cell? ⟨g, 0, none⟩ = some (.int .i64 x)) (h1 : w.cell? ⟨g, 1, none⟩ = some (.int .i64 y)) :
    Calls Try.prog 48 #[.slice (some ⟨g, 0, none⟩) 2 2] w fun e w' => e = .returned (.int .i64 (orS x y)) ∧ w' = w := by
  obtain ⟨r, hr⟩ : ∃ r, orS x y = r := ⟨_, rfl⟩
  rw [hr]
  have hc : (x ≠ 0 ∧ r = x) ∨ (x = 0 ∧ y ≠ 0 ∧ r = y) ∨ (x = 0 ∧ y = 0 ∧ r = 0) := by
    unfold orS at hr
    split at hr <;> omega
  clear hr
  go_enter Try.func48, Try.ntmps48
  go_wp2_with fail
  refine wp_loop_rounds 3 ?_
  rcases hc with ⟨a1, rfl⟩ | ⟨rfl, a2, rfl⟩ | ⟨rfl, rfl, rfl⟩
  · rw [rounds_succ]
    go_wp2_with fail
    go_ret
    exact ⟨rfl, rfl⟩
  · rw [rounds_succ]
    go_wp2_with fail
    rw [rounds_succ]
    go_wp2_with fail
    go_ret
    exact ⟨rfl, rfl⟩
  · rw [rounds_succ]
    go_wp2_with fail
    rw [rounds_succ]
    go_wp2_with fail
    rw [rounds_succ]
    go_wp2_with fail
    go_ret
    exact ⟨rfl, rfl⟩
end Go.Proofs.Ytaiiclkfnahghaa.Rq
