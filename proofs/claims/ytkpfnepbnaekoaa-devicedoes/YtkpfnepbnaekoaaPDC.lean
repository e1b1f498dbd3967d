/- The power: an operation more, a cut, its coming back. -/
import Derived.Test.YtkpfnepbnaekoaaPDB
namespace Go.Proofs.Ytkpfnepbnaekoaa.Rd
open Go.RowKit
open Go.ChangeMaps (setBlock)
set_option maxRecDepth 100000 in
theorem Dev.cell {w : World} {d b m : Nat} {s : St} (h : Dev w d b m s) (i : Nat) (v : Value) (hv : (dcells b m s)[i]? = some v) : w.cell? ⟨d, i, none⟩ = some v ∧ w.frozen? ⟨d, i, none⟩ = false :=
  ⟨by rw [cell_of_row _ _ _ _ _ _ h.self, hv], frozen_of_row w _ _ _ _ h.self⟩
set_option maxRecDepth 100000 in
theorem Dev.c0 {w : World} {d b m : Nat} {s : St} (h : Dev w d b m s) : w.cell? ⟨d, 0, none⟩ = some (.bool s.ended) ∧ w.frozen? ⟨d, 0, none⟩ = false := h.cell 0 _ rfl
set_option maxRecDepth 100000 in
theorem Dev.c1 {w : World} {d b m : Nat} {s : St} (h : Dev w d b m s) : w.cell? ⟨d, 1, none⟩ = some (.bool s.cut) ∧ w.frozen? ⟨d, 1, none⟩ = false := h.cell 1 _ rfl
set_option maxRecDepth 100000 in
theorem Dev.c2 {w : World} {d b m : Nat} {s : St} (h : Dev w d b m s) : w.cell? ⟨d, 2, none⟩ = some (.int .i64 s.left) ∧ w.frozen? ⟨d, 2, none⟩ = false := h.cell 2 _ rfl
set_option maxRecDepth 100000 in
theorem Dev.c3 {w : World} {d b m : Nat} {s : St} (h : Dev w d b m s) : w.cell? ⟨d, 3, none⟩ = some (.int .u64 s.cnt) ∧ w.frozen? ⟨d, 3, none⟩ = false := h.cell 3 _ rfl
set_option maxRecDepth 100000 in
theorem Dev.c4 {w : World} {d b m : Nat} {s : St} (h : Dev w d b m s) : w.cell? ⟨d, 4, none⟩ = some (.string s.tag) ∧ w.frozen? ⟨d, 4, none⟩ = false := h.cell 4 _ rfl
set_option maxRecDepth 100000 in
theorem Dev.c5 {w : World} {d b m : Nat} {s : St} (h : Dev w d b m s) : w.cell? ⟨d, 5, none⟩ = some (.int .u32 s.boots) ∧ w.frozen? ⟨d, 5, none⟩ = false := h.cell 5 _ rfl
set_option maxRecDepth 100000 in
theorem Dev.c6 {w : World} {d b m : Nat} {s : St} (h : Dev w d b m s) : w.cell? ⟨d, 6, none⟩ = some (.slice (some ⟨b, 0, none⟩) s.n s.n) ∧ w.frozen? ⟨d, 6, none⟩ = false := h.cell 6 _ rfl
set_option maxRecDepth 100000 in
theorem Dev.c7 {w : World} {d b m : Nat} {s : St} (h : Dev w d b m s) : w.cell? ⟨d, 7, none⟩ = some (.map (some m)) ∧ w.frozen? ⟨d, 7, none⟩ = false := h.cell 7 _ rfl
set_option maxRecDepth 100000 in
theorem Dev.setSelf {w : World} {d b m : Nat} {s : St} (h : Dev w d b m s) (i : Nat) (v : Value) (s' : St) (e : (dcells b m s).setIfInBounds i v = dcells b m s')
    (hn : s'.n = s.n) (h1 : s'.tx = s.tx) (h2 : s'.bad = s.bad) (h3 : s'.pd = s.pd) : Dev (w.setCell ⟨d, i, none⟩ v) d b m s' ∧ But (Dv d b m) w (w.setCell ⟨d, i, none⟩ v) := by
  refine ⟨⟨?_, ?_, ?_, h.db, h.dm, h.bm⟩, But.set _ _ _ _ (.inl rfl)⟩
  · rw [← e]; exact set_at _ _ _ _ _ _ _ h.self
  · rw [hn, h1, h2]; exact h.row.same (Below.heap_setCell _ _ _ _ (by simpa using h.db.symm))
  · rw [h3]; exact h.map.same (Below.heap_setCell _ _ _ _ (by simpa using h.dm.symm))
/-- Is there power for an operation? -/
def opOk (s : St) : Bool := !(s.ended || (s.cut && decide (s.left = 0)))
/-- The state behind an operation's count. -/
def opS (s : St) : St := if opOk s = true then { s with left := if s.cut then s.left - 1 else s.left } else { s with ended := true }
set_option maxRecDepth 100000 in
theorem opS_ok {s : St} (h : Ok s) : Ok (opS s) := by
  unfold opS
  split
  · rename_i ho
    refine ⟨h.n0, h.n1, h.tx, h.pd, ?_, ?_, ?_, h.c0, h.c1, h.b0, h.b1⟩
    · have := h.l0; have := h.lc; simp only; split
      · rename_i hc; have := h.lc hc; omega
      · omega
    · have := h.l1; simp only; split <;> omega
    · intro hc
      have h0 := h.lc hc
      simp only at hc ⊢
      rw [if_pos hc]
      have : s.left ≠ 0 := by
        intro e
        simp [opOk, hc, e] at ho
      omega
  · exact ⟨h.n0, h.n1, h.tx, h.pd, h.l0, h.l1, h.lc, h.c0, h.c1, h.b0, h.b1⟩
set_option maxRecDepth 100000 in
theorem opS_tx (s : St) : (opS s).tx = s.tx ∧ (opS s).bad = s.bad ∧ (opS s).pd = s.pd ∧ (opS s).n = s.n ∧ (opS s).cnt = s.cnt ∧ (opS s).tag = s.tag ∧ (opS s).boots = s.boots := by
  unfold opS; split <;> exact ⟨rfl, rfl, rfl, rfl, rfl, rfl, rfl⟩
set_option maxRecDepth 100000 in
set_option maxHeartbeats 1000000 in
theorem operate_any (d b m : Nat) (s : St) (w : World) (h : Dev w d b m s) (hk : Ok s) :
    Calls Try.prog 44 #[.pointer (some ⟨d, 0, none⟩)] w fun e w' => e = .returned (.bool (opOk s)) ∧ Dev w' d b m (opS s) ∧ But (Dv d b m) w w' := by
  have c0 := h.c0
  have c1 := h.c1
  have c2 := h.c2
  obtain ⟨c0, z0⟩ := c0
  obtain ⟨c1, z1⟩ := c1
  obtain ⟨c2, z2⟩ := c2
  have HD : Hid (Dev w d b m s) := h
  have HK : Hid (Ok s) := hk
  have l0 := hk.l0
  have l1 := hk.l1
  clear h hk
  obtain ⟨n, tx, bad, pd, ended, cut, left, cnt, tag, boots⟩ := s
  simp only at c0 c1 c2 l0 l1
  go_enter Try.func44, Try.ntmps44
  cases cut
  · cases ended
    · go_wp2_with fail
      go_ret
      exact ⟨rfl, HD.out, But.refl _ _⟩
    · go_wp2_with fail
      go_ret
      exact ⟨rfl, HD.out, But.refl _ _⟩
  · by_cases hl : left = 0
    · subst hl
      go_wp2_with fail
      go_ret
      have := HD.out.setSelf 0 (.bool true) { n, tx, bad, pd, ended := true, cut := true, left := 0, cnt, tag, boots } rfl rfl rfl rfl rfl
      refine ⟨by cases ended <;> rfl, ?_, this.2⟩
      have e : opS { n, tx, bad, pd, ended, cut := true, left := 0, cnt, tag, boots } = { n, tx, bad, pd, ended := true, cut := true, left := 0, cnt, tag, boots } := by cases ended <;> rfl
      rw [e]
      exact this.1
    · have q1 : (left == 0) = false := by simpa using hl
      have hlp : 0 ≤ left := HK.out.lc rfl
      cases ended
      · go_wp2_with fail
        go_ret
        have := HD.out.setSelf 2 (.int .i64 (left - 1)) { n, tx, bad, pd, ended := false, cut := true, left := left - 1, cnt, tag, boots } rfl rfl rfl rfl rfl
        refine ⟨by simp [opOk, hl], ?_, this.2⟩
        have e : opS { n, tx, bad, pd, ended := false, cut := true, left, cnt, tag, boots } = { n, tx, bad, pd, ended := false, cut := true, left := left - 1, cnt, tag, boots } := by simp [opS, opOk, hl]
        rw [e]
        exact this.1
      · go_wp2_with fail
        go_ret
        exact ⟨rfl, HD.out, But.refl _ _⟩
/-- A cut is set. -/
def cutS (s : St) (n : Int) : St := { s with cut := decide (0 ≤ n), left := n }
set_option maxRecDepth 100000 in
theorem cutS_ok {s : St} (h : Ok s) (n : Int) (h0 : -9223372036854775808 ≤ n) (h1 : n ≤ 9223372036854775807) : Ok (cutS s n) :=
  ⟨h.n0, h.n1, h.tx, h.pd, h0, h1, fun hc => by simpa [cutS] using hc, h.c0, h.c1, h.b0, h.b1⟩
set_option maxRecDepth 100000 in
set_option maxHeartbeats 1000000 in
theorem end_any (d b m : Nat) (s : St) (n : Int) (w : World) (h : Dev w d b m s) :
    Calls Try.prog 45 #[.pointer (some ⟨d, 0, none⟩), .int .i64 n] w fun e w' => e = .returned (.tuple #[]) ∧ Dev w' d b m (cutS s n) ∧ But (Dv d b m) w w' := by
  obtain ⟨c1, z1⟩ := h.c1
  obtain ⟨c2, z2⟩ := h.c2
  have HD : Hid (Dev w d b m s) := h
  clear h
  obtain ⟨k, tx, bad, pd, ended, cut, left, cnt, tag, boots⟩ := s
  simp only at c1 c2
  go_enter Try.func45, Try.ntmps45
  go_wp2_with fail
  refine bodyPost_end (results_none rfl _ _ _) rfl ?_
  have h1 := HD.out.setSelf 1 (.bool (decide (0 ≤ n))) { n := k, tx, bad, pd, ended, cut := decide (0 ≤ n), left, cnt, tag, boots } rfl rfl rfl rfl rfl
  have h2 := h1.1.setSelf 2 (.int .i64 n) { n := k, tx, bad, pd, ended, cut := decide (0 ≤ n), left := n, cnt, tag, boots } rfl rfl rfl rfl rfl
  exact ⟨rfl, h2.1, h1.2.trans h2.2⟩
/-- Power without a cut. -/
def backS (s : St) : St := { s with ended := false, cut := false, left := 0 }
set_option maxRecDepth 100000 in
theorem backS_ok {s : St} (h : Ok s) : Ok (backS s) := ⟨h.n0, h.n1, h.tx, h.pd, by simp [backS], by simp [backS], by simp [backS], h.c0, h.c1, h.b0, h.b1⟩
set_option maxRecDepth 100000 in
set_option maxHeartbeats 1000000 in
theorem back_any (d b m : Nat) (s : St) (w : World) (h : Dev w d b m s) :
    Calls Try.prog 48 #[.pointer (some ⟨d, 0, none⟩)] w fun e w' => e = .returned (.tuple #[]) ∧ Dev w' d b m (backS s) ∧ But (Dv d b m) w w' := by
  obtain ⟨c0, z0⟩ := h.c0
  obtain ⟨c1, z1⟩ := h.c1
  obtain ⟨c2, z2⟩ := h.c2
  have HD : Hid (Dev w d b m s) := h
  clear h
  obtain ⟨k, tx, bad, pd, ended, cut, left, cnt, tag, boots⟩ := s
  simp only at c0 c1 c2
  go_enter Try.func48, Try.ntmps48
  go_wp2_with fail
  refine bodyPost_end (results_none rfl _ _ _) rfl ?_
  have h0 := HD.out.setSelf 0 (.bool false) { n := k, tx, bad, pd, ended := false, cut, left, cnt, tag, boots } rfl rfl rfl rfl rfl
  have h1 := h0.1.setSelf 1 (.bool false) { n := k, tx, bad, pd, ended := false, cut := false, left, cnt, tag, boots } rfl rfl rfl rfl rfl
  have h2 := h1.1.setSelf 2 (.int .i64 0) { n := k, tx, bad, pd, ended := false, cut := false, left := 0, cnt, tag, boots } rfl rfl rfl rfl rfl
  exact ⟨rfl, h2.1, h0.2.trans (h1.2.trans h2.2)⟩
end Go.Proofs.Ytkpfnepbnaekoaa.Rd
