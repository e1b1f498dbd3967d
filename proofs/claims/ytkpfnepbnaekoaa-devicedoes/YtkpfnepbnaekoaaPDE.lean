/- Start, Put, Bad. -/
import Derived.Test.YtkpfnepbnaekoaaPDD
namespace Go.Proofs.Ytkpfnepbnaekoaa.Rd
open Go.RowKit
open Go.ChangeMaps (setBlock)
/-- What Start tells, and leaves. -/
def startE (s : St) : Int := if s.boots = 4294967295 then 72 else if opOk s then 0 else 71
def startV (s : St) : Int := if s.boots = 4294967295 then 0 else if opOk s then s.boots + 1 else 0
def startS (s : St) : St := if s.boots = 4294967295 then s else if opOk s then { opS s with boots := s.boots + 1 } else opS s
set_option maxRecDepth 100000 in
theorem startS_ok {s : St} (h : Ok s) : Ok (startS s) := by
  unfold startS
  split
  · exact h
  · rename_i hc
    split
    · have k := opS_ok h
      exact ⟨k.n0, k.n1, k.tx, k.pd, k.l0, k.l1, k.lc, k.c0, k.c1, by have := h.b0; simp only; omega, by have := h.b1; simp only; omega⟩
    · exact opS_ok h
set_option maxRecDepth 100000 in
set_option maxHeartbeats 1000000 in
theorem start_any (d b m : Nat) (s : St) (w : World) (h : Dev w d b m s) (hk : Ok s) :
    Calls Try.prog 20 #[pt d] w fun e w' => e = .returned (.tuple #[.int .u32 (startV s), .int .i64 (startE s)]) ∧ Dev w' d b m (startS s) ∧ But (Dv d b m) w w' := by
  have HD : Hid (Dev w d b m s) := h
  have HK : Hid (Ok s) := hk
  obtain ⟨c5, z5⟩ := h.c5
  have k0 := hk.b0
  have k1 := hk.b1
  clear h hk
  go_enter Try.func20, Try.ntmps20
  by_cases hc : s.boots = 4294967295
  · have HE : Hid (startE s = 72 ∧ startV s = 0 ∧ startS s = s) := by refine (?_ : startE s = 72 ∧ startV s = 0 ∧ startS s = s); simp [startE, startV, startS, hc]
    rw [hc] at c5
    clear hc k0 k1
    go_wp2_with fail
    go_ret2
    exact ⟨by rw [HE.out.1, HE.out.2.1]; rfl, by rw [HE.out.2.2]; exact HD.out, But.refl _ _⟩
  · have q1 : (s.boots == 4294967295) = false := by simpa using hc
    have HC : Hid (s.boots ≠ 4294967295) := hc
    have HX : Hid (0 ≤ s.boots ∧ (s.boots + 1) ≤ 4294967295) := by refine (?_ : 0 ≤ s.boots ∧ (s.boots + 1) ≤ 4294967295); omega
    go_wp2_with fail
    refine (operate_any d b m s w HD.out HK.out).mono ?_
    rintro e w2 ⟨rfl, d2, b2⟩
    have D2 : Hid _ := d2
    have B2 : Hid _ := b2
    cases ho : opOk s
    · have HE : Hid (startE s = 71 ∧ startV s = 0 ∧ startS s = opS s) := by refine (?_ : startE s = 71 ∧ startV s = 0 ∧ startS s = opS s); simp [startE, startV, startS, ho, HC.out]
      clear d2 b2 ho
      go_wp2_with fail
      go_ret2
      exact ⟨by rw [HE.out.1, HE.out.2.1]; rfl, by rw [HE.out.2.2]; exact D2.out, B2.out⟩
    · have HE : Hid (startE s = 0 ∧ startV s = s.boots + 1 ∧ startS s = { opS s with boots := s.boots + 1 }) := by refine (?_ : startE s = 0 ∧ startV s = s.boots + 1 ∧ startS s = { opS s with boots := s.boots + 1 }); simp [startE, startV, startS, ho, HC.out]
      obtain ⟨x5, y5⟩ := d2.c5
      rw [(opS_tx s).2.2.2.2.2.2] at x5
      obtain ⟨hx0, hx⟩ := HX.out
      clear d2 b2 ho c5 z5
      generalize hcn : s.boots = cn at *
      have HCN : Hid (s.boots = cn) := hcn
      clear hcn
      have hwr : IntKind.u32.wrap (cn + 1) = cn + 1 := IntWalk.u32_in _ (by omega)
      go_wp2_with fail
      go_ret2
      have g1 := D2.out.setSelf 5 (.int .u32 (cn + 1)) { opS s with boots := cn + 1 } rfl rfl rfl rfl rfl
      exact ⟨by rw [HE.out.1, HE.out.2.1]; rfl, by rw [HE.out.2.2]; exact g1.1, B2.out.trans g1.2⟩
/-- What Put tells, and leaves. -/
def putE (s : St) (p : Nat) (t : ByteArray) : Int := if fitS s p t then 0 else 2
def putS (s : St) (p : Nat) (t : ByteArray) : St := if fitS s p t then { s with tx := at' s.tx p t, pd := put s.pd p none } else s
set_option maxRecDepth 100000 in
theorem putS_ok {s : St} (h : Ok s) (p : Nat) (t : ByteArray) : Ok (putS s p t) := by
  unfold putS
  split
  · rename_i hf
    simp [fitS] at hf
    refine ⟨h.n0, h.n1, fun q hq => ?_, fun q u hu => ?_, h.l0, h.l1, h.lc, h.c0, h.c1, h.b0, h.b1⟩
    · simp only [at']; split
      · exact hf.2
      · exact h.tx q hq
    · simp only [put] at hu
      split at hu
      · cases hu
      · exact h.pd q u hu
  · exact h
set_option maxRecDepth 100000 in
set_option maxHeartbeats 1000000 in
theorem put_any (d b m : Nat) (s : St) (p : Nat) (hp' : p ≤ 4294967295) (t : ByteArray) (w : World) (h : Dev w d b m s) (hk : Ok s) :
    Calls Try.prog 26 #[pt d, .int .u32 (p : Int), .string t] w fun e w' => e = .returned (.int .i64 (putE s p t)) ∧ Dev w' d b m (putS s p t) ∧ But (Dv d b m) w w' := by
  have HD : Hid (Dev w d b m s) := h
  have HK : Hid (Ok s) := hk
  clear h hk
  go_enter Try.func26, Try.ntmps26
  go_wp2_with fail
  refine (fits_any d b m s p hp' t w HD.out HK.out).mono ?_
  rintro e w1 ⟨rfl, rfl⟩
  cases hf : fitS s p t
  · have HE : Hid (putE s p t = 2 ∧ putS s p t = s) := by refine (?_ : putE s p t = 2 ∧ putS s p t = s); simp [putE, putS, hf]
    go_wp2_with fail
    go_ret
    exact ⟨by rw [HE.out.1]; rfl, by rw [HE.out.2]; exact HD.out, But.refl _ _⟩
  · have HE : Hid (putE s p t = 0 ∧ putS s p t = { s with tx := at' s.tx p t, pd := put s.pd p none }) := by refine (?_ : putE s p t = 0 ∧ putS s p t = { s with tx := at' s.tx p t, pd := put s.pd p none }); simp [putE, putS, hf]
    have hp : p < s.n := by simp [fitS] at hf; exact hf.1
    obtain ⟨c6, z6⟩ := HD.out.c6
    obtain ⟨c7, z7⟩ := HD.out.c7
    obtain ⟨e1, e2, y1, y2⟩ := HD.out.row.cells p hp
    have q1 : (p : Int) < (s.n : Int) := by omega
    have q0 : (0 : Int) ≤ (p : Int) := by omega
    have hne : d ≠ b := HD.out.db
    have R1 : Hid (Row (w1.setCell ⟨b, p * 2, none⟩ (.string t)) b s.n (at' s.tx p t) s.bad) := HD.out.row.setText p hp t
    have P1 := HD.out.map.same (w' := w1.setCell ⟨b, p * 2, none⟩ (.string t)) (Below.heap_setCell _ _ _ _ (by simpa using HD.out.bm.symm))
    have B1 : Hid (But (Dv d b m) w1 (w1.setCell ⟨b, p * 2, none⟩ (.string t))) := But.set _ _ _ _ (.inr (.inl rfl))
    have S1 : Hid ((w1.setCell ⟨b, p * 2, none⟩ (.string t)).heap[d]? = w1.heap[d]?) := Below.heap_setCell _ _ _ _ hne
    obtain ⟨w3, hu, pm, b3, sz⟩ := P1.drop p 0
    have HP : Hid _ := pm
    have B3 : Hid _ := b3
    clear hf pm b3 P1
    go_wp2_with fail
    go_ret
    have hx := HD.out
    have hb := B3.out
    have hz : (w1.setCell ⟨b, p * 2, none⟩ (.string t)).heap.size = w1.heap.size := by simp [World.setCell]
    refine ⟨by rw [HE.out.1]; rfl, ?_, B1.out.trans (hb.more fun k e => .inr (.inr e))⟩
    rw [HE.out.2]
    exact ⟨((hb.block d (by rw [hz]; exact hx.lt.1) hx.dm).trans S1.out).trans hx.self, Row.same R1.out (hb.block b (by rw [hz]; exact hx.lt.2.1) hx.bm), HP.out, hx.db, hx.dm, hx.bm⟩
/-- What Bad tells, and leaves. -/
def badE (s : St) (p : Nat) : Int := if p < s.n then 0 else 2
def badS (s : St) (p : Nat) (x : Bool) : St := if p < s.n then { s with bad := at' s.bad p x } else s
set_option maxRecDepth 100000 in
theorem badS_ok {s : St} (h : Ok s) (p : Nat) (x : Bool) : Ok (badS s p x) := by
  unfold badS
  split
  · exact ⟨h.n0, h.n1, h.tx, h.pd, h.l0, h.l1, h.lc, h.c0, h.c1, h.b0, h.b1⟩
  · exact h
set_option maxRecDepth 100000 in
set_option maxHeartbeats 1000000 in
theorem bad_any (d b m : Nat) (s : St) (p : Nat) (hp' : p ≤ 4294967295) (x : Bool) (w : World) (h : Dev w d b m s) (hk : Ok s) :
    Calls Try.prog 27 #[pt d, .int .u32 (p : Int), .bool x] w fun e w' => e = .returned (.int .i64 (badE s p)) ∧ Dev w' d b m (badS s p x) ∧ But (Dv d b m) w w' := by
  have HD : Hid (Dev w d b m s) := h
  have HK : Hid (Ok s) := hk
  clear h hk
  go_enter Try.func27, Try.ntmps27
  go_wp2_with fail
  refine (has_any d b m s p hp' w HD.out HK.out).mono ?_
  rintro e w1 ⟨rfl, rfl⟩
  by_cases hp : p < s.n
  · rw [decide_eq_true hp]
    have HE : Hid (badE s p = 0 ∧ badS s p x = { s with bad := at' s.bad p x }) := by refine (?_ : badE s p = 0 ∧ badS s p x = { s with bad := at' s.bad p x }); simp [badE, badS, hp]
    obtain ⟨c6, z6⟩ := HD.out.c6
    obtain ⟨e1, e2, y1, y2⟩ := HD.out.row.cells p hp
    have q1 : (p : Int) < (s.n : Int) := by omega
    have q0 : (0 : Int) ≤ (p : Int) := by omega
    have hne : d ≠ b := HD.out.db
    have R1 : Hid _ := HD.out.row.setBad p hp x
    have B1 : Hid (But (Dv d b m) w1 (w1.setCell ⟨b, p * 2 + 1, none⟩ (.bool x))) := But.set _ _ _ _ (.inr (.inl rfl))
    go_wp2_with fail
    go_ret
    refine ⟨by rw [HE.out.1]; rfl, ?_, B1.out⟩
    rw [HE.out.2]
    exact ⟨(Below.heap_setCell _ _ _ _ hne).trans HD.out.self, R1.out, HD.out.map.same (Below.heap_setCell _ _ _ _ (by simpa using HD.out.bm.symm)), hne, HD.out.dm, HD.out.bm⟩
  · rw [decide_eq_false hp]
    have HE : Hid (badE s p = 2 ∧ badS s p x = s) := by refine (?_ : badE s p = 2 ∧ badS s p x = s); simp [badE, badS, hp]
    go_wp2_with fail
    go_ret
    exact ⟨by rw [HE.out.1]; rfl, by rw [HE.out.2]; exact HD.out, But.refl _ _⟩
end Go.Proofs.Ytkpfnepbnaekoaa.Rd
