/- The calls of a device, but for Flush, Wake and Image. -/
import Derived.Test.YtkpfnepbnaekoaaPDC
namespace Go.Proofs.Ytkpfnepbnaekoaa.Rd
open Go.RowKit
open Go.ChangeMaps (setBlock)
/-- A device's address. -/
abbrev pt (d : Nat) : Value := .pointer (some ⟨d, 0, none⟩)
set_option maxRecDepth 100000 in
set_option maxHeartbeats 1000000 in
theorem has_any (d b m : Nat) (s : St) (p : Nat) (hp : p ≤ 4294967295) (w : World) (h : Dev w d b m s) (hk : Ok s) :
    Calls Try.prog 43 #[pt d, .int .u32 (p : Int)] w fun e w' => e = .returned (.bool (decide (p < s.n))) ∧ w' = w := by
  obtain ⟨c6, z6⟩ := h.c6
  have n1 := hk.n1
  have HD : Hid (Dev w d b m s) := h
  clear h hk
  obtain ⟨k, tx, bad, pd, ended, cut, left, cnt, tag, boots⟩ := s
  simp only at c6 n1
  have hw : IntKind.u64.wrap (p : Int) = (p : Int) := IntWalk.u64_in _ (by omega)
  go_enter Try.func43, Try.ntmps43
  go_wp2_with fail
  go_ret
  exact ⟨by simp, rfl⟩
/-- Can a text be a block's, at a place? -/
def fitS (s : St) (p : Nat) (t : ByteArray) : Bool := decide (p < s.n) && decide (t.size = 256)
set_option maxRecDepth 100000 in
set_option maxHeartbeats 1000000 in
theorem fits_any (d b m : Nat) (s : St) (p : Nat) (hp' : p ≤ 4294967295) (t : ByteArray) (w : World) (h : Dev w d b m s) (hk : Ok s) :
    Calls Try.prog 46 #[pt d, .int .u32 (p : Int), .string t] w fun e w' => e = .returned (.bool (fitS s p t)) ∧ w' = w := by
  have HD : Hid (Dev w d b m s) := h
  have HK : Hid (Ok s) := hk
  clear h hk
  go_enter Try.func46, Try.ntmps46
  go_wp2_with fail
  refine (has_any d b m s p hp' w HD.out HK.out).mono ?_
  rintro e w1 ⟨rfl, rfl⟩
  by_cases hp : p < s.n
  · rw [decide_eq_true hp]
    go_wp2_with fail
    go_ret
    refine ⟨?_, rfl⟩
    unfold fitS
    rw [decide_eq_true hp, Bool.true_and]
    congr 2
    by_cases ht : t.size = 256
    · simp [ht]
    · simp [ht]; omega
  · rw [decide_eq_false hp]
    go_wp2_with fail
    go_ret
    refine ⟨?_, rfl⟩
    unfold fitS
    rw [decide_eq_false hp, Bool.false_and]
    rfl
/-- What a block holds. -/
def holdS (s : St) (p : Nat) : ByteArray := (s.pd p).getD (s.tx p)
set_option maxRecDepth 100000 in
set_option maxHeartbeats 1000000 in
theorem holds_any (d b m : Nat) (s : St) (p : Nat) (hp : p < s.n) (w : World) (h : Dev w d b m s) (hk : Ok s) :
    Calls Try.prog 41 #[pt d, .int .u32 (p : Int)] w fun e w' => e = .returned (.string (holdS s p)) ∧ Below w.heap.size w w' := by
  obtain ⟨c6, z6⟩ := h.c6
  obtain ⟨c7, z7⟩ := h.c7
  obtain ⟨e1, e2, y1, y2⟩ := h.row.cells p hp
  have hl := h.map.look p true
  have n1 := hk.n1
  have HD : Hid (Dev w d b m s) := h
  have HS : Hid (holdS s p = (s.pd p).getD (s.tx p)) := rfl
  obtain ⟨hd, hb, hm⟩ := h.lt
  clear h hk
  obtain ⟨k, tx, bad, pd, ended, cut, left, cnt, tag, boots⟩ := s
  simp only at c6 c7 e1 e2 hl HS n1 hp
  have q1 : (p : Int) < (k : Int) := by omega
  have q0 : (0 : Int) ≤ (p : Int) := by omega
  generalize tx p = t at *
  generalize pd p = f at *
  go_enter Try.func41, Try.ntmps41
  cases f with
  | none =>
    simp only [Option.getD_none, Option.isSome_none, if_true] at hl
    go_wp2_with fail
    go_ret
    exact ⟨by rw [HS.out]; rfl, below_new w _⟩
  | some u =>
    simp only [Option.getD_some, Option.isSome_some, if_true] at hl
    go_wp2_with fail
    go_ret
    exact ⟨by rw [HS.out]; rfl, below_new w _⟩
set_option maxRecDepth 100000 in
set_option maxHeartbeats 1000000 in
theorem blocks_any (d b m : Nat) (s : St) (w : World) (h : Dev w d b m s) :
    Calls Try.prog 18 #[pt d] w fun e w' => e = .returned (.int .i64 (s.n : Int)) ∧ w' = w := by
  obtain ⟨c6, z6⟩ := h.c6
  clear h
  obtain ⟨k, tx, bad, pd, ended, cut, left, cnt, tag, boots⟩ := s
  simp only at c6
  go_enter Try.func18, Try.ntmps18
  go_wp2_with fail
  go_ret
  exact ⟨rfl, rfl⟩
/-- A register as a value. -/
def rv (c : Int) (t : ByteArray) (n : Int) : Value := .agg #[.int .u64 c, .string t, .int .u32 n]
set_option maxRecDepth 100000 in
set_option maxHeartbeats 1000000 in
theorem register_any (d b m : Nat) (s : St) (w : World) (h : Dev w d b m s) :
    Calls Try.prog 17 #[pt d] w fun e w' => e = .returned (rv s.cnt s.tag s.boots) ∧ Below w.heap.size w w' := by
  obtain ⟨c3, z3⟩ := h.c3
  obtain ⟨c4, z4⟩ := h.c4
  obtain ⟨c5, z5⟩ := h.c5
  obtain ⟨hd, hb, hm⟩ := h.lt
  clear h
  obtain ⟨k, tx, bad, pd, ended, cut, left, cnt, tag, boots⟩ := s
  simp only at c3 c4 c5
  go_enter Try.func17, Try.ntmps17
  go_wp2_with fail
  exact bodyPost_ret (results_cell_row rfl _ _ w.heap.size 41 _ (0, 0) _ rfl (heap_alloc_new w _) Try.underlying41 rfl (by kernel_rfl)) rfl ⟨rfl, below_new w _⟩
/-- What Read tells. -/
def readE (s : St) (p : Nat) : Int := if p < s.n then if s.ended then 71 else if s.bad p then 70 else 0 else 2
def readV (s : St) (p : Nat) : ByteArray := if readE s p = 0 then holdS s p else ⟨#[]⟩
set_option maxRecDepth 100000 in
set_option maxHeartbeats 1000000 in
theorem read_any (d b m : Nat) (s : St) (p : Nat) (hp' : p ≤ 4294967295) (w : World) (h : Dev w d b m s) (hk : Ok s) :
    Calls Try.prog 19 #[pt d, .int .u32 (p : Int)] w fun e w' => e = .returned (.tuple #[.string (readV s p), .int .i64 (readE s p)]) ∧ Below w.heap.size w w' := by
  have HD : Hid (Dev w d b m s) := h
  have HK : Hid (Ok s) := hk
  obtain ⟨c0, z0⟩ := h.c0
  obtain ⟨c6, z6⟩ := h.c6
  have hr := h.row
  clear h hk
  go_enter Try.func19, Try.ntmps19
  go_wp2_with fail
  refine (has_any d b m s p hp' w HD.out HK.out).mono ?_
  rintro e w1 ⟨rfl, rfl⟩
  by_cases hp : p < s.n
  · rw [decide_eq_true hp]
    obtain ⟨e1, e2, y1, y2⟩ := hr.cells p hp
    have q1 : (p : Int) < (s.n : Int) := by omega
    have q0 : (0 : Int) ≤ (p : Int) := by omega
    clear hr
    cases he : s.ended
    · cases hb : s.bad p
      · have HE : Hid (readE s p = 0) := by refine (?_ : readE s p = 0); simp [readE, hp, he, hb]
        rw [he] at c0; rw [hb] at e2
        clear he hb
        go_wp2_with fail
        refine (holds_any d b m s p hp w1 HD.out HK.out).mono ?_
        rintro e w2 ⟨rfl, b2⟩
        have B2 : Hid _ := b2
        clear b2
        go_wp2_with fail
        go_ret2
        exact ⟨by rw [HE.out, readV, if_pos HE.out]; rfl, B2.out⟩
      · have HE : Hid (readE s p = 70) := by refine (?_ : readE s p = 70); simp [readE, hp, he, hb]
        rw [he] at c0; rw [hb] at e2
        clear he hb
        go_wp2_with fail
        go_ret2
        exact ⟨by rw [readV, HE.out]; rfl, Below.refl _ _⟩
    · have HE : Hid (readE s p = 71) := by refine (?_ : readE s p = 71); simp [readE, hp, he]
      rw [he] at c0
      clear he
      go_wp2_with fail
      go_ret2
      exact ⟨by rw [readV, HE.out]; rfl, Below.refl _ _⟩
  · rw [decide_eq_false hp]
    have HE : Hid (readE s p = 2) := by refine (?_ : readE s p = 2); simp [readE, hp]
    go_wp2_with fail
    go_ret2
    exact ⟨by rw [readV, HE.out]; rfl, Below.refl _ _⟩
set_option maxRecDepth 100000 in
set_option maxHeartbeats 1000000 in
theorem cut_any (d b m : Nat) (s : St) (n : Int) (w : World) (h : Dev w d b m s) :
    Calls Try.prog 21 #[pt d, .int .i64 n] w fun e w' => e = .returned (.tuple #[]) ∧ Dev w' d b m (cutS s n) ∧ But (Dv d b m) w w' := by
  have HD : Hid (Dev w d b m s) := h
  clear h
  go_enter Try.func21, Try.ntmps21
  go_wp2_with fail
  refine (end_any d b m s n w HD.out).mono ?_
  rintro e w1 ⟨rfl, d1, b1⟩
  have D1 : Hid _ := d1
  have B1 : Hid _ := b1
  clear d1 b1
  go_wp2_with fail
  refine bodyPost_end (results_none rfl _ _ _) rfl ?_
  exact ⟨rfl, D1.out, B1.out⟩
/-- What Write tells, and leaves. -/
def writeE (s : St) (p : Nat) (t : ByteArray) : Int := if fitS s p t then if opOk s then 0 else 71 else 2
def writeS (s : St) (p : Nat) (t : ByteArray) : St := if fitS s p t then if opOk s then { opS s with pd := put s.pd p (some t) } else opS s else s
set_option maxRecDepth 100000 in
theorem put_ok {s : St} (h : Ok s) (p : Nat) (t : ByteArray) (hf : fitS s p t = true) : Ok { s with pd := put s.pd p (some t) } := by
  simp [fitS] at hf
  refine ⟨h.n0, h.n1, h.tx, fun q u hu => ?_, h.l0, h.l1, h.lc, h.c0, h.c1, h.b0, h.b1⟩
  simp only [put] at hu
  split at hu
  · rename_i e; cases hu; subst e; exact hf
  · exact h.pd q u hu
set_option maxRecDepth 100000 in
theorem writeS_ok {s : St} (h : Ok s) (p : Nat) (t : ByteArray) : Ok (writeS s p t) := by
  unfold writeS
  split
  · rename_i hf
    split
    · have h2 := put_ok (opS_ok h) p t (by simpa [fitS, (opS_tx s).2.2.2.1] using hf)
      rw [(opS_tx s).2.2.1] at h2
      exact h2
    · exact opS_ok h
  · exact h
set_option maxRecDepth 100000 in
set_option maxHeartbeats 1000000 in
theorem write_any (d b m : Nat) (s : St) (p : Nat) (hp' : p ≤ 4294967295) (t : ByteArray) (w : World) (h : Dev w d b m s) (hk : Ok s) :
    Calls Try.prog 22 #[pt d, .int .u32 (p : Int), .string t] w fun e w' => e = .returned (.int .i64 (writeE s p t)) ∧ Dev w' d b m (writeS s p t) ∧ But (Dv d b m) w w' := by
  have HD : Hid (Dev w d b m s) := h
  have HK : Hid (Ok s) := hk
  clear h hk
  go_enter Try.func22, Try.ntmps22
  go_wp2_with fail
  refine (fits_any d b m s p hp' t w HD.out HK.out).mono ?_
  rintro e w1 ⟨rfl, rfl⟩
  cases hf : fitS s p t
  · have HE : Hid (writeE s p t = 2 ∧ writeS s p t = s) := by refine (?_ : writeE s p t = 2 ∧ writeS s p t = s); simp [writeE, writeS, hf]
    go_wp2_with fail
    go_ret
    exact ⟨by rw [HE.out.1]; rfl, by rw [HE.out.2]; exact HD.out, But.refl _ _⟩
  · have HF : Hid (fitS s p t = true) := hf
    clear hf
    go_wp2_with fail
    refine (operate_any d b m s w1 HD.out HK.out).mono ?_
    rintro e w2 ⟨rfl, d2, b2⟩
    have D2 : Hid _ := d2
    have B2 : Hid _ := b2
    cases ho : opOk s
    · have HE : Hid (writeE s p t = 71 ∧ writeS s p t = opS s) := by refine (?_ : writeE s p t = 71 ∧ writeS s p t = opS s); simp [writeE, writeS, HF.out, ho]
      clear d2 b2 ho
      go_wp2_with fail
      go_ret
      exact ⟨by rw [HE.out.1]; rfl, by rw [HE.out.2]; exact D2.out, B2.out⟩
    · have HE : Hid (writeE s p t = 0 ∧ writeS s p t = { opS s with pd := put s.pd p (some t) }) := by refine (?_ : writeE s p t = 0 ∧ writeS s p t = { opS s with pd := put s.pd p (some t) }); simp [writeE, writeS, HF.out, ho]
      obtain ⟨c7, z7⟩ := d2.c7
      obtain ⟨w3, hu, pm, b3, sz⟩ := d2.map.update p t
      have HP : Hid _ := pm
      have B3 : Hid _ := b3
      clear d2 b2 ho pm b3
      go_wp2_with fail
      go_ret
      refine ⟨by rw [HE.out.1]; rfl, ?_, B2.out.trans (B3.out.more fun k e => .inr (.inr e))⟩
      rw [HE.out.2]
      have hb := B3.out
      have hx := D2.out
      refine ⟨(hb.block d hx.lt.1 hx.dm).trans hx.self, hx.row.same (hb.block b hx.lt.2.1 hx.bm), ?_, hx.db, hx.dm, hx.bm⟩
      rw [(opS_tx s).2.2.1] at HP
      exact HP.out
/-- What Advance tells, and leaves. -/
def advE (s : St) (t : ByteArray) : Int := if t.size = 32 then if s.cnt = 18446744073709551615 then 72 else if opOk s then 0 else 71 else 2
def advS (s : St) (t : ByteArray) : St := if t.size = 32 then if s.cnt = 18446744073709551615 then s else if opOk s then { opS s with cnt := s.cnt + 1, tag := t } else opS s else s
set_option maxRecDepth 100000 in
theorem advS_ok {s : St} (h : Ok s) (t : ByteArray) : Ok (advS s t) := by
  unfold advS
  split
  · split
    · exact h
    · rename_i hc
      split
      · have k := opS_ok h
        exact ⟨k.n0, k.n1, k.tx, k.pd, k.l0, k.l1, k.lc, by have := h.c0; simp only; omega, by have := h.c1; simp only; omega, k.b0, k.b1⟩
      · exact opS_ok h
  · exact h
set_option maxRecDepth 100000 in
set_option maxHeartbeats 1000000 in
theorem advance_any (d b m : Nat) (s : St) (t : ByteArray) (w : World) (h : Dev w d b m s) (hk : Ok s) :
    Calls Try.prog 24 #[pt d, .string t] w fun e w' => e = .returned (.int .i64 (advE s t)) ∧ Dev w' d b m (advS s t) ∧ But (Dv d b m) w w' := by
  have HD : Hid (Dev w d b m s) := h
  have HK : Hid (Ok s) := hk
  obtain ⟨c3, z3⟩ := h.c3
  have k0 := hk.c0
  have k1 := hk.c1
  clear h hk
  go_enter Try.func24, Try.ntmps24
  by_cases ht : t.size = 32
  · by_cases hc : s.cnt = 18446744073709551615
    · have HE : Hid (advE s t = 72 ∧ advS s t = s) := by refine (?_ : advE s t = 72 ∧ advS s t = s); simp [advE, advS, ht, hc]
      rw [hc] at c3
      clear hc k0 k1
      go_wp2_with fail
      go_ret
      exact ⟨by rw [HE.out.1]; rfl, by rw [HE.out.2]; exact HD.out, But.refl _ _⟩
    · have q1 : (s.cnt == 18446744073709551615) = false := by simpa using hc
      have HC : Hid (s.cnt ≠ 18446744073709551615) := hc
      have HT : Hid (t.size = 32) := ht
      have HX : Hid ((s.cnt + 1) ≤ 18446744073709551615) := by refine (?_ : (s.cnt + 1) ≤ 18446744073709551615); omega
      go_wp2_with fail
      refine (operate_any d b m s w HD.out HK.out).mono ?_
      rintro e w2 ⟨rfl, d2, b2⟩
      have D2 : Hid _ := d2
      have B2 : Hid _ := b2
      cases ho : opOk s
      · have HE : Hid (advE s t = 71 ∧ advS s t = opS s) := by refine (?_ : advE s t = 71 ∧ advS s t = opS s); simp [advE, advS, ho, HC.out, HT.out]
        clear d2 b2 ho
        go_wp2_with fail
        go_ret
        exact ⟨by rw [HE.out.1]; rfl, by rw [HE.out.2]; exact D2.out, B2.out⟩
      · have HE : Hid (advE s t = 0 ∧ advS s t = { opS s with cnt := s.cnt + 1, tag := t }) := by refine (?_ : advE s t = 0 ∧ advS s t = { opS s with cnt := s.cnt + 1, tag := t }); simp [advE, advS, ho, HC.out, HT.out]
        obtain ⟨x3, y3⟩ := d2.c3
        obtain ⟨x4, y4⟩ := d2.c4
        rw [(opS_tx s).2.2.2.2.1] at x3
        rw [(opS_tx s).2.2.2.2.2.1] at x4
        have hx := HX.out
        clear d2 b2 ho c3 z3
        generalize hcn : s.cnt = cn at *
        have HCN : Hid (s.cnt = cn) := hcn
        clear hcn
        have hwr : IntKind.u64.wrap (cn + 1) = cn + 1 := IntWalk.u64_in _ (by omega)
        go_wp2_with fail
        go_ret
        have g1 := D2.out.setSelf 3 (.int .u64 (cn + 1)) { opS s with cnt := cn + 1 } rfl rfl rfl rfl rfl
        have g2 := g1.1.setSelf 4 (.string t) { opS s with cnt := cn + 1, tag := t } rfl rfl rfl rfl rfl
        exact ⟨by rw [HE.out.1]; rfl, by rw [HE.out.2]; exact g2.1, B2.out.trans (g1.2.trans g2.2)⟩
  · have HE : Hid (advE s t = 2 ∧ advS s t = s) := by refine (?_ : advE s t = 2 ∧ advS s t = s); simp [advE, advS, ht]
    have q1 : ((t.size : Int) == 32) = false := by simp; omega
    go_wp2_with fail
    go_ret
    exact ⟨by rw [HE.out.1]; rfl, by rw [HE.out.2]; exact HD.out, But.refl _ _⟩
end Go.Proofs.Ytkpfnepbnaekoaa.Rd
