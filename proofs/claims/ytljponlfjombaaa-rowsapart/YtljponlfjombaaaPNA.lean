/- The reference: right refs, no ref. -/
import Derived.Test.YtljponlfjombaaaPIZ
namespace Go.Proofs.Ytljponlfjombaaa.Rw
open Go.RowKit Go.Lib Go.Shelf
open Go.Proofs.Ytljponlfjombaaa.Rc Go.Proofs.Ytljponlfjombaaa.Rq
set_option maxRecDepth 100000 in
theorem sRightRef_any (p : Nat) (t : ByteArray) (w : World) : Calls Try.prog 12 #[.agg #[.int .u32 (p : Int), .string t]] w fun e w' => e = .returned (.bool (rref p t)) ∧ Below w.heap.size w w' := by
  have HB : Hid _ := below_new w (.cells #[.int .u32 (p : Int), .string t] 28)
  unfold rref
  by_cases h1 : 2 ≤ p
  · have q1 : (2 : Int) ≤ (p : Int) := by omega
    by_cases h2 : t.size = 32
    · have q2 : (t.size : Int) = 32 := by omega
      go_enter Try.func12, Try.ntmps12
      go_wp2_with fail
      go_ret
      exact ⟨by simp [h1, h2], HB.out⟩
    · have q2 : ((t.size : Int) == 32) = false := by simp; omega
      go_enter Try.func12, Try.ntmps12
      go_wp2_with fail
      go_ret
      exact ⟨by simp [h1, h2], HB.out⟩
  · have q1 : ¬ (2 : Int) ≤ (p : Int) := by omega
    go_enter Try.func12, Try.ntmps12
    go_wp2_with fail
    go_ret
    exact ⟨by simp, HB.out⟩
set_option maxRecDepth 100000 in
theorem snone_any (p : Nat) (t : ByteArray) (w : World) : Calls Try.prog 24 #[.agg #[.int .u32 (p : Int), .string t]] w fun e w' => e = .returned (.bool (noRef p t)) ∧ Below w.heap.size w w' := by
  have HB : Hid _ := below_new w (.cells #[.int .u32 (p : Int), .string t] 28)
  unfold noRef
  by_cases h1 : p = 0
  · subst h1
    by_cases h2 : t = ⟨#[]⟩
    · subst h2
      go_enter Try.func24, Try.ntmps24
      go_wp2_with fail
      go_ret
      exact ⟨by simp, HB.out⟩
    · have q2 := empty_not h2
      go_enter Try.func24, Try.ntmps24
      go_wp2_with fail
      go_ret
      exact ⟨by simp [h2], HB.out⟩
  · have q1 : ((p : Int) == 0) = false := by simp; omega
    go_enter Try.func24, Try.ntmps24
    go_wp2_with fail
    go_ret
    exact ⟨by simp [h1], HB.out⟩
/-- A page's bytes by the program. -/
def encS (P : Pp) : ByteArray := if rpp P = true then ⟨(pB P).toArray⟩ else ⟨#[]⟩
def encE (P : Pp) : Int := if rpp P = true then 0 else 90
set_option maxRecDepth 100000 in
theorem encode_p (q : Pg) (P : Pp) (w : World) (h : PAt w q P) (ho : okP P) :
    Calls Try.prog 16 #[gv q] w fun e w' => e = .returned (.tuple #[.string (encS P), .int .i64 (encE P)]) ∧ Below w.heap.size w w' := by
  unfold encS encE
  have hr := h.rpp
  cases hR : rpp P
  · rw [hR] at hr
    exact encode_no q P.l P.ks w h.at' hr
  · rw [hR] at hr
    have e : pageB q P.l P.ks = pB P := by unfold pageB pB; rw [h.k, h.np, h.nt, h.X, h.Y, h.L]
    have := encode_ok q P.l P.ks w h.at' (by rw [h.np]; exact ho.np) ho.kids hr
    rw [e] at this
    simpa using this
end Go.Proofs.Ytljponlfjombaaa.Rw
