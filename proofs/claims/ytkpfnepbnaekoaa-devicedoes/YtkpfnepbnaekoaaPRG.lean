/- An operation, on both devices. -/
import Derived.Test.YtkpfnepbnaekoaaPRF
import Derived.Test.YtkpfnepbnaekoaaPLG
import Derived.Deep.RegionHeld3
namespace Go.Proofs.Ytkpfnepbnaekoaa.Rd
open Go.RowKit
/-- An operation as a value. -/
abbrev opv (o : Opr) : Value := .agg #[.int .i64 o.op, .int .u32 (o.p : Int), .int .i64 o.n, .string o.s, .slice o.fo o.fs.length o.fc]
/-- An operation in a block of its own. -/
def OB (w : World) (ob : Nat) (o : Opr) : Prop := w.heap[ob]? = some (.cells #[.int .i64 o.op, .int .u32 (o.p : Int), .int .i64 o.n, .string o.s, .slice o.fo o.fs.length o.fc] 35 (0, 0))
set_option maxRecDepth 100000 in
theorem OB.lt {w : World} {ob : Nat} {o : Opr} (h : OB w ob o) : ob < w.heap.size := (Array.getElem?_eq_some_iff.1 h).1
set_option maxRecDepth 100000 in
theorem OB.but {S : Nat → Prop} {w w' : World} {ob : Nat} {o : Opr} (h : OB w ob o) (hb : But S w w') (hs : ¬ S ob) : OB w' ob o := (hb.block ob h.lt hs).trans h
set_option maxRecDepth 100000 in
theorem OB.below {w w' : World} {ob B : Nat} {o : Opr} (h : OB w ob o) (hb : Below B w w') (hB : w.heap.size ≤ B) : OB w' ob o := (hb.block ob (Nat.lt_of_lt_of_le h.lt hB)).trans h
set_option maxRecDepth 100000 in
theorem OB.c0 {w : World} {ob : Nat} {o : Opr} (h : OB w ob o) : w.cell? ⟨ob, 0, none⟩ = some (.int .i64 o.op) := (cell_of_row _ _ _ _ _ _ h).trans rfl
set_option maxRecDepth 100000 in
theorem OB.c1 {w : World} {ob : Nat} {o : Opr} (h : OB w ob o) : w.cell? ⟨ob, 1, none⟩ = some (.int .u32 (o.p : Int)) := (cell_of_row _ _ _ _ _ _ h).trans rfl
set_option maxRecDepth 100000 in
theorem OB.c2 {w : World} {ob : Nat} {o : Opr} (h : OB w ob o) : w.cell? ⟨ob, 2, none⟩ = some (.int .i64 o.n) := (cell_of_row _ _ _ _ _ _ h).trans rfl
set_option maxRecDepth 100000 in
theorem OB.c3 {w : World} {ob : Nat} {o : Opr} (h : OB w ob o) : w.cell? ⟨ob, 3, none⟩ = some (.string o.s) := (cell_of_row _ _ _ _ _ _ h).trans rfl
set_option maxRecDepth 100000 in
theorem OB.c4 {w : World} {ob : Nat} {o : Opr} (h : OB w ob o) : w.cell? ⟨ob, 4, none⟩ = some (.slice o.fo o.fs.length o.fc) := (cell_of_row _ _ _ _ _ _ h).trans rfl
/-- Two devices in one state, and an operation. -/
structure Two (w : World) (d b m r : Nat) (x : Rp) (ob : Nat) (o : Opr) (s : St) : Prop where
  dev : Dev w d b m s
  ref : Rf w r x s
  ok : Ok s
  op : OB w ob o
  fs : Fs w o.fo o.fs
/-- What is apart. -/
structure Apart (d b m r : Nat) (x : Rp) (ob : Nat) (o : Opr) : Prop where
  a1 : ∀ k, Dv d b m k → ¬ Rv r x k
  a2 : ¬ Dv d b m ob
  a3 : ¬ Rv r x ob
  a4 : o.fs ≠ [] → ∀ a, o.fo = some a → ¬ Dv d b m a.block ∧ ¬ Rv r x a.block
set_option maxRecDepth 100000 in
/-- Behind the program's call. -/
theorem Two.first {w w' : World} {d b m r : Nat} {x : Rp} {ob : Nat} {o : Opr} {s : St} (h : Two w d b m r x ob o s) (ha : Apart d b m r x ob o) (hb : But (Dv d b m) w w') : Rf w' r x s ∧ OB w' ob o ∧ Fs w' o.fo o.fs :=
  ⟨h.ref.but hb (fun j hj hd => ha.a1 j hd hj), h.op.but hb ha.a2, fun hne => (h.fs.but hb fun a e => (ha.a4 hne a e).1) hne⟩
set_option maxRecDepth 100000 in
/-- Behind both. -/
theorem Two.both {w w' w'' : World} {d b m r : Nat} {x : Rp} {ob : Nat} {o : Opr} {s s' : St} (h : Two w d b m r x ob o s) (ha : Apart d b m r x ob o) (hd : Dev w' d b m s') (hb : But (Dv d b m) w w') (hr : Rf w'' r x s') (hb2 : But (Rv r x) w' w'') (hk : Ok s') :
    Two w'' d b m r x ob o s' ∧ But (fun k => Dv d b m k ∨ Rv r x k) w w'' := by
  obtain ⟨h1, h2, h3⟩ := h.first ha hb
  exact ⟨⟨hd.but hb2 (ha.a1 d (.inl rfl)) (ha.a1 b (.inr (.inl rfl))) (ha.a1 m (.inr (.inr rfl))), hr, hk, h2.but hb2 ha.a3, fun hne => (h3.but hb2 fun a e => (ha.a4 hne a e).2) hne⟩, (hb.more fun k e => .inl e).trans (hb2.more fun k e => .inr e)⟩
set_option maxRecDepth 100000 in
theorem Two.drew {w : World} {d b m r : Nat} {x : Rp} {ob : Nat} {o : Opr} {s : St} (h : Two w d b m r x ob o s) : Two w.drew d b m r x ob o s := ⟨h.dev.same rfl rfl rfl, h.ref.same fun _ _ => rfl, h.ok, h.op, h.fs⟩
set_option maxRecDepth 100000 in
theorem wake_n (s : St) (fs : List Int) : (wakeS s fs).n = s.n := rfl
set_option maxRecDepth 100000 in
theorem write_n (s : St) (p : Nat) (t : ByteArray) : (writeS s p t).n = s.n := by unfold writeS; (repeat' split) <;> first | rfl | exact (opS_tx s).2.2.2.1
set_option maxRecDepth 100000 in
theorem flush_n (s : St) : (flushS s).n = s.n := by unfold flushS; (repeat' split) <;> first | rfl | exact (opS_tx s).2.2.2.1
set_option maxRecDepth 100000 in
theorem adv_n (s : St) (t : ByteArray) : (advS s t).n = s.n := by unfold advS; (repeat' split) <;> first | rfl | exact (opS_tx s).2.2.2.1
set_option maxRecDepth 100000 in
theorem start_n (s : St) : (startS s).n = s.n := by unfold startS; (repeat' split) <;> first | rfl | exact (opS_tx s).2.2.2.1
set_option maxRecDepth 100000 in
theorem put_n (s : St) (p : Nat) (t : ByteArray) : (putS s p t).n = s.n := by unfold putS; (repeat' split) <;> first | rfl | exact (opS_tx s).2.2.2.1
set_option maxRecDepth 100000 in
theorem bad_n (s : St) (p : Nat) (t : Bool) : (badS s p t).n = s.n := by unfold badS; (repeat' split) <;> first | rfl | exact (opS_tx s).2.2.2.1
set_option maxRecDepth 100000 in
theorem cut_n (s : St) (n : Int) : (cutS s n).n = s.n := rfl
set_option maxRecDepth 100000 in
/-- Behind the document's call. -/
theorem Two.firstR {w w' : World} {d b m r : Nat} {x : Rp} {ob : Nat} {o : Opr} {s : St} (h : Two w d b m r x ob o s) (ha : Apart d b m r x ob o) (hb : But (Rv r x) w w') : Dev w' d b m s ∧ OB w' ob o ∧ Fs w' o.fo o.fs :=
  ⟨h.dev.but hb (ha.a1 d (.inl rfl)) (ha.a1 b (.inr (.inl rfl))) (ha.a1 m (.inr (.inr rfl))), h.op.but hb ha.a3, fun hne => (h.fs.but hb fun a e => (ha.a4 hne a e).2) hne⟩
set_option maxRecDepth 100000 in
theorem Two.bothR {w w' w'' : World} {d b m r : Nat} {x : Rp} {ob : Nat} {o : Opr} {s s' : St} (h : Two w d b m r x ob o s) (ha : Apart d b m r x ob o) (hr : Rf w' r x s') (hb : But (Rv r x) w w') (hd : Dev w'' d b m s') (hb2 : But (Dv d b m) w' w'') (hk : Ok s') :
    Two w'' d b m r x ob o s' ∧ But (fun k => Dv d b m k ∨ Rv r x k) w w'' := by
  obtain ⟨h1, h2, h3⟩ := h.firstR ha hb
  exact ⟨⟨hd, hr.but hb2 (fun j hj hd => ha.a1 j hd hj), hk, h2.but hb2 ha.a2, fun hne => (h3.but hb2 fun a e => (ha.a4 hne a e).1) hne⟩, (hb.more fun k e => .inr e).trans (hb2.more fun k e => .inl e)⟩
set_option maxRecDepth 100000 in
set_option maxHeartbeats 8000000 in
theorem did_any (N : Nat) (hN : N ≤ 4096) (hS : Sorts N) (d b m r : Nat) (x : Rp) (o : Opr) (s : St) (w : World) (h : Two (w.alloc (.cells #[.int .i64 o.op, .int .u32 (o.p : Int), .int .i64 o.n, .string o.s, .slice o.fo o.fs.length o.fc] 35)) d b m r x w.heap.size o s)
    (ha : Apart d b m r x w.heap.size o) (ho : OpOk w o) (hc : s.n ≤ N) :
    Calls Try.prog 13 #[pt d, pt r, opv o] w fun e w' => e = .returned (.bool true) ∧ ∃ s', Dev w' d b m s' ∧ Rf w' r x s' ∧ Ok s' ∧ s'.n = s.n ∧ But (fun k => Dv d b m k ∨ Rv r x k) w w' := by
  have HS : Hid (Sorts N) := hS
  have HO : Hid (OpOk w o) := ho
  have HA : Hid (Apart d b m r x w.heap.size o) := ha
  obtain ⟨W, hW⟩ : ∃ W, w.alloc (.cells #[.int .i64 o.op, .int .u32 (o.p : Int), .int .i64 o.n, .string o.s, .slice o.fo o.fs.length o.fc] 35) = W := ⟨_, rfl⟩
  have BW : Hid (Below w.heap.size w W) := by
    refine (?_ : Below w.heap.size w W)
    rw [← hW]; exact below_new w _
  rw [hW] at h
  have HT : Hid (Two W d b m r x w.heap.size o s) := h
  have c3 := h.op.c3
  clear h ho ha hS
  go_enter Try.func13, Try.ntmps13
  go_wp2_with fail
  refine (filled_any o.s W).mono ?_
  rintro e w1 ⟨rfl, b1⟩
  have T1 : Hid (Two w1 d b m r x w.heap.size o s) := ⟨HT.out.dev.below b1 (Nat.le_refl _), HT.out.ref.below b1 (Nat.le_refl _), HT.out.ok, HT.out.op.below b1 (Nat.le_refl _), HT.out.fs.below b1⟩
  have B1 : Hid (Below w.heap.size w w1) := BW.out.trans (b1.mono BW.out.size)
  have zu := fill_size o.s
  generalize fillS o.s = t at *
  clear hW BW HT b1 c3
  have c0 := T1.out.op.c0
  have c1 := T1.out.op.c1
  have c2 := T1.out.op.c2
  have c4 := T1.out.op.c4
  have c3 := T1.out.op.c3
  have BB : Hid (But (fun k => Dv d b m k ∨ Rv r x k) w w1) := But.of_below B1.out
  have TD : Hid (Two w1.drew d b m r x w.heap.size o s) := T1.out.drew
  have BD : Hid (But (fun k => Dv d b m k ∨ Rv r x k) w w1.drew) := BB.out.trans ⟨rfl, rfl, rfl, Nat.le_refl _, fun _ _ _ => rfl⟩
  generalize w.heap.size = ob at *
  go_wp2_with fail
  · go_region_held3 (fun w' => w'.cell? ⟨ob, 1, none⟩ = some (.int .u32 (o.p : Int))) (first | go_keep | assumption | (refine ⟨?_, ?_⟩ <;> assumption) | (refine ⟨?_, ?_, ?_⟩ <;> assumption)) (first
      | (go_at_call 22; refine (write_any d b m s o.p HO.out.p1 t _ ?_ T1.out.ok).mono ?_; exact TD.out.dev; rintro e w2 ⟨rfl, d2, b2⟩; have f2 := TD.out.first HA.out b2; have y21 := f2.2.1.c1)
      | (go_at_call 32; refine (rwrite_any r x s o.p HO.out.p1 t w2 ?_ T1.out.ok).mono ?_; exact f2.1; rintro e w3 ⟨rfl, r3, b3⟩; have o3 := f2.2.1.but b3 HA.out.a3; have y31 := o3.c1))
    have R3 : Hid _ := TD.out.both HA.out d2 b2 r3 b3 (writeS_ok T1.out.ok o.p t)
    clear d2 b2 r3 b3 f2 o3 y21 y31
    go_wp2_with fail
    go_ret
    exact ⟨rfl, _, R3.out.1.dev, R3.out.1.ref, R3.out.1.ok, write_n _ _ _, BD.out.trans R3.out.2⟩
  · refine (flush_any d b m s w1 T1.out.dev T1.out.ok).mono ?_
    rintro e w2 ⟨rfl, d2, b2⟩
    have F2 : Hid (Rf w2 r x s ∧ _) := T1.out.first HA.out b2
    have D2 : Hid (Dev w2 d b m _ ∧ But (Dv d b m) w1 w2) := ⟨d2, b2⟩
    clear d2 b2
    go_wp2_with fail
    refine (rflush_any r x s w2 F2.out.1 T1.out.ok).mono ?_
    rintro e w3 ⟨rfl, r3, b3⟩
    have R3 : Hid (Two w3 d b m r x ob o _ ∧ _) := T1.out.both HA.out D2.out.1 D2.out.2 r3 b3 (flushS_ok T1.out.ok)
    clear r3 b3
    go_wp2_with fail
    go_ret
    exact ⟨rfl, _, R3.out.1.dev, R3.out.1.ref, R3.out.1.ok, flush_n _, BB.out.trans R3.out.2⟩
  · obtain ⟨t32, ht32⟩ : ∃ t32, t.extract 0 32 = t32 := ⟨_, rfl⟩
    go_region_held3 (fun w' => w'.cell? ⟨ob, 3, none⟩ = some (.string o.s)) (first | go_keep | assumption | (refine ⟨?_, ?_⟩ <;> assumption) | (refine ⟨?_, ?_, ?_⟩ <;> assumption)) (first
      | (go_at_call 34; refine (radvance_any r x (advS s t32) o.s w4 ?_ t3.1.ok).mono ?_; exact f4.1; rintro e w5 ⟨rfl, r5, b5⟩; have t5 := t3.1.both HA.out d4 b4 r5 b5 (advS_ok t3.1.ok o.s); have y53 := t5.1.op.c3)
      | (go_at_call 24; refine (advance_any d b m (advS s t32) o.s w3 ?_ t3.1.ok).mono ?_; exact t3.1.dev; rintro e w4 ⟨rfl, d4, b4⟩; have f4 := t3.1.first HA.out b4; have y43 := f4.2.1.c3)
      | (go_at_call 34; refine (radvance_any r x s t32 w2 ?_ T1.out.ok).mono ?_; exact f2.1; rintro e w3 ⟨rfl, r3, b3⟩; have t3 := TD.out.both HA.out d2 b2 r3 b3 (advS_ok T1.out.ok t32); have y33 := t3.1.op.c3)
      | (go_at_call 24; refine (advance_any d b m s t32 _ ?_ T1.out.ok).mono ?_; exact TD.out.dev; rintro e w2 ⟨rfl, d2, b2⟩; have f2 := TD.out.first HA.out b2; have y23 := f2.2.1.c3))
    have R3 : Hid (Two w3 d b m r x ob o _ ∧ _) := t3
    have R5 : Hid (Two w5 d b m r x ob o _ ∧ _) := t5
    clear d2 b2 r3 b3 f2 t3 d4 b4 r5 b5 f4 t5 y23 y33 y43 y53
    go_wp2_with fail
    go_ret
    exact ⟨rfl, _, R5.out.1.dev, R5.out.1.ref, R5.out.1.ok, (adv_n _ _).trans (adv_n _ _), BD.out.trans (R3.out.2.trans R5.out.2)⟩
  · refine (start_any d b m s w1 T1.out.dev T1.out.ok).mono ?_
    rintro e w2 ⟨rfl, d2, b2⟩
    have F2 : Hid (Rf w2 r x s ∧ _) := T1.out.first HA.out b2
    have D2 : Hid (Dev w2 d b m _ ∧ But (Dv d b m) w1 w2) := ⟨d2, b2⟩
    clear d2 b2
    go_wp2_with fail
    refine (rstart_any r x s w2 F2.out.1 T1.out.ok).mono ?_
    rintro e w3 ⟨rfl, r3, b3⟩
    have R3 : Hid (Two w3 d b m r x ob o _ ∧ _) := T1.out.both HA.out D2.out.1 D2.out.2 r3 b3 (startS_ok T1.out.ok)
    clear r3 b3
    go_wp2_with fail
    go_ret
    exact ⟨rfl, _, R3.out.1.dev, R3.out.1.ref, R3.out.1.ok, start_n _, BB.out.trans R3.out.2⟩
  · refine (cut_any d b m s o.n w1 T1.out.dev).mono ?_
    rintro e w2 ⟨rfl, d2, b2⟩
    have F2 : Hid (Rf w2 r x s ∧ OB w2 ob o ∧ _) := T1.out.first HA.out b2
    have D2 : Hid (Dev w2 d b m _ ∧ But (Dv d b m) w1 w2) := ⟨d2, b2⟩
    have y22 := F2.out.2.1.c2
    clear d2 b2
    go_wp2_with fail
    refine (rcut_any r x s o.n HO.out.n0 HO.out.n1 w2 F2.out.1).mono ?_
    rintro e w3 ⟨rfl, r3, b3⟩
    have R3 : Hid (Two w3 d b m r x ob o _ ∧ _) := T1.out.both HA.out D2.out.1 D2.out.2 r3 b3 (cutS_ok T1.out.ok o.n HO.out.n0 HO.out.n1)
    clear r3 b3
    go_wp2_with fail
    go_ret
    exact ⟨rfl, _, R3.out.1.dev, R3.out.1.ref, R3.out.1.ok, cut_n _ _, BB.out.trans R3.out.2⟩
  · refine (rwake_any r x s o.fs o.fo o.fc w1 T1.out.ref T1.out.ok T1.out.fs (fun hne a e => (HA.out.a4 hne a e).2)).mono ?_
    rintro e w2 ⟨rfl, r2, b2⟩
    have F2 : Hid (Dev w2 d b m s ∧ OB w2 ob o ∧ Fs w2 o.fo o.fs) := T1.out.firstR HA.out b2
    have D2 : Hid (Rf w2 r x _ ∧ But (Rv r x) w1 w2) := ⟨r2, b2⟩
    have y24 := F2.out.2.1.c4
    clear r2 b2
    go_wp2_with fail
    refine (wake_fs N hN HS.out d b m s o.fs o.fo o.fc w2 F2.out.1 T1.out.ok (fun l hl => Nat.le_trans (keys_few T1.out.ok l hl) hc) F2.out.2.2 (fun hne a e => (HA.out.a4 hne a e).1)).mono ?_
    rintro e w3 ⟨rfl, d3, b3⟩
    have R3 : Hid (Two w3 d b m r x ob o _ ∧ _) := T1.out.bothR HA.out D2.out.1 D2.out.2 d3 b3 (wakeS_ok T1.out.ok o.fs)
    clear d3 b3
    go_wp2_with fail
    go_ret
    exact ⟨rfl, _, R3.out.1.dev, R3.out.1.ref, R3.out.1.ok, wake_n _ _, BB.out.trans R3.out.2⟩
  · go_region_held3 (fun w' => w'.cell? ⟨ob, 1, none⟩ = some (.int .u32 (o.p : Int)) ∧ w'.cell? ⟨ob, 3, none⟩ = some (.string o.s)) (first | go_keep | assumption | (refine ⟨?_, ?_⟩ <;> assumption) | (refine ⟨?_, ?_, ?_⟩ <;> assumption)) (first
      | (go_at_call 38; refine (rput_any r x (putS s o.p t) o.p HO.out.p1 o.s w4 ?_ t3.1.ok).mono ?_; exact f4.1; rintro e w5 ⟨rfl, r5, b5⟩; have t5 := t3.1.both HA.out d4 b4 r5 b5 (putS_ok t3.1.ok o.p o.s); have y51 := t5.1.op.c1; have y53 := t5.1.op.c3)
      | (go_at_call 26; refine (put_any d b m (putS s o.p t) o.p HO.out.p1 o.s w3 ?_ t3.1.ok).mono ?_; exact t3.1.dev; rintro e w4 ⟨rfl, d4, b4⟩; have f4 := t3.1.first HA.out b4; have y41 := f4.2.1.c1; have y43 := f4.2.1.c3)
      | (go_at_call 38; refine (rput_any r x s o.p HO.out.p1 t w2 ?_ T1.out.ok).mono ?_; exact f2.1; rintro e w3 ⟨rfl, r3, b3⟩; have t3 := TD.out.both HA.out d2 b2 r3 b3 (putS_ok T1.out.ok o.p t); have y31 := t3.1.op.c1; have y33 := t3.1.op.c3)
      | (go_at_call 26; refine (put_any d b m s o.p HO.out.p1 t _ ?_ T1.out.ok).mono ?_; exact TD.out.dev; rintro e w2 ⟨rfl, d2, b2⟩; have f2 := TD.out.first HA.out b2; have y21 := f2.2.1.c1; have y23 := f2.2.1.c3))
    have R3 : Hid (Two w3 d b m r x ob o _ ∧ _) := t3
    have R5 : Hid (Two w5 d b m r x ob o _ ∧ _) := t5
    clear d2 b2 r3 b3 f2 t3 d4 b4 r5 b5 f4 t5 y21 y31 y41 y51 y23 y33 y43 y53
    go_wp2_with fail
    go_ret
    exact ⟨rfl, _, R5.out.1.dev, R5.out.1.ref, R5.out.1.ok, (put_n _ _ _).trans (put_n _ _ _), BD.out.trans (R3.out.2.trans R5.out.2)⟩
  · go_region_held3 (fun w' => w'.cell? ⟨ob, 1, none⟩ = some (.int .u32 (o.p : Int)) ∧ w'.cell? ⟨ob, 2, none⟩ = some (.int .i64 o.n)) (first | go_keep | assumption | (refine ⟨?_, ?_⟩ <;> assumption) | (refine ⟨?_, ?_, ?_⟩ <;> assumption)) (first
      | (go_at_call 27; refine (bad_any d b m s o.p HO.out.p1 (decide (0 < o.n)) _ ?_ T1.out.ok).mono ?_; exact TD.out.dev; rintro e w2 ⟨rfl, d2, b2⟩; have f2 := TD.out.first HA.out b2; have y21 := f2.2.1.c1; have y22 := f2.2.1.c2)
      | (go_at_call 39; refine (rbad_any r x s o.p HO.out.p1 (decide (0 < o.n)) w2 ?_ T1.out.ok).mono ?_; exact f2.1; rintro e w3 ⟨rfl, r3, b3⟩; have o3 := f2.2.1.but b3 HA.out.a3; have y31 := o3.c1; have y32 := o3.c2))
    have R3 : Hid _ := TD.out.both HA.out d2 b2 r3 b3 (badS_ok T1.out.ok o.p _)
    clear d2 b2 r3 b3 f2 o3 y21 y31 y22 y32
    go_wp2_with fail
    go_ret
    exact ⟨rfl, _, R3.out.1.dev, R3.out.1.ref, R3.out.1.ok, bad_n _ _ _, BD.out.trans R3.out.2⟩
  · refine (read_any d b m s o.p HO.out.p1 w1 T1.out.dev T1.out.ok).mono ?_
    rintro e w2 ⟨rfl, b2⟩
    have R2 : Hid (Rf w2 r x s) := T1.out.ref.below b2 (Nat.le_refl _)
    have D2 : Hid (Dev w2 d b m s) := T1.out.dev.below b2 (Nat.le_refl _)
    have B2 : Hid (But (fun k => Dv d b m k ∨ Rv r x k) w w2) := BB.out.trans (But.of_below b2)
    have y21 := (T1.out.op.below b2 (Nat.le_refl _)).c1
    clear b2
    go_wp2_with fail
    refine (rread_any r x s o.p HO.out.p1 w2 R2.out T1.out.ok).mono ?_
    rintro e w3 ⟨rfl, rfl⟩
    go_wp2_with fail
    go_ret
    exact ⟨rfl, s, D2.out, R2.out, T1.out.ok, rfl, B2.out⟩
  · go_region_held3 (fun w' => w'.cell? ⟨ob, 1, none⟩ = some (.int .u32 (o.p : Int)) ∧ w'.cell? ⟨ob, 3, none⟩ = some (.string o.s)) (first | go_keep | assumption | (refine ⟨?_, ?_⟩ <;> assumption) | (refine ⟨?_, ?_, ?_⟩ <;> assumption)) (first
      | (go_at_call 22; refine (write_any d b m s o.p HO.out.p1 o.s _ ?_ T1.out.ok).mono ?_; exact TD.out.dev; rintro e w2 ⟨rfl, d2, b2⟩; have f2 := TD.out.first HA.out b2; have y21 := f2.2.1.c1; have y23 := f2.2.1.c3)
      | (go_at_call 32; refine (rwrite_any r x s o.p HO.out.p1 o.s w2 ?_ T1.out.ok).mono ?_; exact f2.1; rintro e w3 ⟨rfl, r3, b3⟩; have o3 := f2.2.1.but b3 HA.out.a3; have y31 := o3.c1; have y33 := o3.c3))
    have R3 : Hid _ := TD.out.both HA.out d2 b2 r3 b3 (writeS_ok T1.out.ok o.p o.s)
    clear d2 b2 r3 b3 f2 o3 y21 y31 y23 y33
    go_wp2_with fail
    go_ret
    exact ⟨rfl, _, R3.out.1.dev, R3.out.1.ref, R3.out.1.ok, write_n _ _ _, BD.out.trans R3.out.2⟩
end Go.Proofs.Ytkpfnepbnaekoaa.Rd
