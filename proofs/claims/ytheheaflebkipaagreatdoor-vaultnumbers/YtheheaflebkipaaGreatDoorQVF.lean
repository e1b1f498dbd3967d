/- Write. -/
import Derived.Test.YtheheaflebkipaaGreatDoorQVB
namespace Go.Proofs.YtheheaflebkipaaGreatDoor.Rv
open Go.RowKit Go.Lib
open Go.Proofs.YtheheaflebkipaaGreatDoor.Rd (But St Ok Dev Dv pt below_new natOf)
abbrev rf (p : Nat) (s : ByteArray) : Value := .agg #[.int .u32 (p : Int), .string s]
set_option maxRecDepth 100000 in
theorem results_refE {fn : Func} {p u : Tmp} (h : fn.results = #[.cell p 55, .tmp u]) (tmps : Array Value) (w : World) (g : Nat) (a b x : Value) {t : TypeId}
    (hp : tmps.getD p undef = .pointer (some ⟨g, 0, none⟩)) (hu : tmps.getD u undef = x) (hg : w.heap[g]? = some (.cells #[a, b] t (0, 0))) : (results fn tmps).run Tryz.prog w = .ok (.tuple #[.agg #[a, b], x]) w := by
  have hp' : tmps[p]?.getD undef = .pointer (some ⟨g, 0, none⟩) := by simpa using hp
  have hu' : tmps[u]?.getD undef = x := by simpa using hu
  have c0 : w.cell? ⟨g, 0, none⟩ = some a := by rw [cell_of_row _ _ _ _ _ _ hg]; rfl
  have c1 : w.cell? ⟨g, 1, none⟩ = some b := by rw [cell_of_row _ _ _ _ _ _ hg]; rfl
  simp [results, h, hp', hu', asAddr, go_sem, c0, c1]
/-- A ref in a block of its own. -/
def FB (g : Nat) (a : Int) (s : ByteArray) (W : World) : Prop := W.heap[g]? = some (.cells #[.int .u32 a, .string s] 55 (0, 0))
set_option maxRecDepth 100000 in
theorem FB.grow {g : Nat} {a : Int} {s : ByteArray} {W W' : World} (h : FB g a s W) (hb : Below W.heap.size W W') : FB g a s W' := (hb.block _ (hlt h)).trans h
set_option maxRecDepth 100000 in
theorem FB.but {S : Nat → Prop} {g : Nat} {a : Int} {s : ByteArray} {W W' : World} (h : FB g a s W) (hb : But S W W') (hn : ¬ S g) : FB g a s W' := (hb.block _ (hlt h) hn).trans h
set_option maxRecDepth 100000 in
theorem FB.facts {g : Nat} {a : Int} {s : ByteArray} {W : World} (h : FB g a s W) : W.frozen? ⟨g, 0, none⟩ = false ∧ W.frozen? ⟨g, 1, none⟩ = false ∧ W.cell? ⟨g, 0, none⟩ = some (.int .u32 a) ∧ W.cell? ⟨g, 1, none⟩ = some (.string s) :=
  ⟨frozen_of_row W _ _ _ _ h, frozen_of_row W _ _ _ _ h, by rw [cell_of_row _ _ _ _ _ _ h]; rfl, by rw [cell_of_row _ _ _ _ _ _ h]; rfl⟩
set_option maxRecDepth 100000 in
theorem FB.set {g : Nat} {a : Int} {s : ByteArray} {W : World} (h : FB g a s W) (a' : Int) (s' : ByteArray) : FB g a' s' ((W.setCell ⟨g, 0, none⟩ (.int .u32 a')).setCell ⟨g, 1, none⟩ (.string s')) ∧ ∀ B, B ≤ g → Below B W ((W.setCell ⟨g, 0, none⟩ (.int .u32 a')).setCell ⟨g, 1, none⟩ (.string s')) := by
  have X1 := heap_setCell_same W g 0 _ _ (.int .u32 a') h
  have X2 := heap_setCell_same _ g 1 _ _ (.string s') X1
  refine ⟨X2, fun B hB => ⟨rfl, rfl, rfl, by simp [World.setCell], fun j hj => ?_⟩⟩
  rw [Below.heap_setCell _ _ _ _ (by simp only; omega), Below.heap_setCell _ _ _ _ (by simp only; omega)]
set_option maxRecDepth 100000 in
theorem fb_new (W : World) : FB W.heap.size 0 ⟨#[]⟩ (W.alloc (.cells #[.int .u32 0, .string ⟨#[]⟩] 55)) := heap_alloc_new W _
set_option maxRecDepth 100000 in
theorem but_above {S : Nat → Prop} {w w1 w2 : World} (h : But S w w1) (h2 : Below w.heap.size w1 w2) : But S w w2 :=
  ⟨h2.os.trans h.os, h2.tape.trans h.tape, h2.output.trans h.output, Nat.le_trans h.size h2.size, fun k hk hn => (h2.block k hk).trans (h.block k hk hn)⟩
set_option maxRecDepth 100000 in
theorem but_below {S : Nat → Prop} {w w1 w2 : World} (h : Below w.heap.size w w1) (h2 : But S w1 w2) : But S w w2 := (But.of_below h).trans h2
/-- One more is taken. -/
def take (v : Vs) (p : Nat) : Vs := { v with tk := tput v.tk p (some ()), nt := if (v.tk p).isSome = true then v.nt else v.nt + 1 }
set_option maxRecDepth 100000 in
theorem Vlt.take_step {w w' : World} {A : Pl} {v : Vs} {t : St} (h : Vlt w A v t) {tk' : Nat → Option Unit} {n' : Nat} (hm : Tk w' A.tm tk' n') (hb : But (fun k => k = A.tm) w w') : Vlt w' A { v with tk := tk', nt := n' } t ∧ But A.has w w' := by
  obtain ⟨hs, hr⟩ := h.self
  have hl := h.lt
  have hb' : But A.has w w' := hb.more fun k hk => .inr (.inl hk)
  have hr' : Rg w' A v := hr.same hb.size fun k hk hn => hb'.block k hk hn
  exact ⟨⟨⟨(hb.block _ hl.1 h.gt).trans hs, hr'⟩, hm, h.dev.but hb (fun e => h.td (.inl e.symm)) (fun e => h.td (.inr (.inl e.symm))) (fun e => h.td (.inr (.inr e.symm))), h.gt, h.gd, h.td, h.no1, h.no2⟩, hb'⟩
set_option maxRecDepth 100000 in
set_option maxHeartbeats 4000000 in
theorem write_full (A : Pl) (v : Vs) (t : St) (s : ByteArray) (hs : s.size ≤ 198) (w : World) (hv : Vlt w A v t) (hk : Ok t) (hl : leastS v.tk t.n = none) :
    Calls Tryz.prog 22 #[pt A.g, .string s] w fun e w' => e = .returned (.tuple #[rf 0 ⟨#[]⟩, .int .i64 110]) ∧ Below w.heap.size w w' := by
  have hb := below_new w (.cells #[.int .u32 0, .string ⟨#[]⟩] 55)
  have hg := fb_new w
  obtain ⟨W0, hW0⟩ : ∃ W0, w.alloc (.cells #[.int .u32 0, .string ⟨#[]⟩] 55) = W0 := ⟨_, rfl⟩
  rw [hW0] at hb hg
  have HW0 : Hid _ := hW0
  have HB0 : Hid (Below w.heap.size w W0) := hb
  have HF0 : Hid (FB w.heap.size 0 ⟨#[]⟩ W0) := hg
  have hv0 := hv.below hb (Nat.le_refl _)
  have HV0 : Hid (Vlt W0 A v t) := hv0
  have HN : Hid (∀ _ : True, _) := fun _ => vnone_any A v t W0 hv0
  have HLs : Hid (∀ _ : True, _) := fun _ => least_any A v t W0 hv0 hk
  rw [hl] at HLs
  have q1 : ¬ (198 : Int) < (s.size : Int) := by omega
  clear hb hg hW0 hv hv0 hs
  go_enter Tryz.func22, Tryz.ntmps22
  go_wp2_with (first | (rw [HW0.out]; clear HW0))
  refine Calls.mono (HN.out trivial) ?_
  rintro e w1 ⟨rfl, hw1⟩
  have hw1' := hw1.symm
  clear hw1 HN
  subst hw1'
  go_wp2_with fail
  refine Calls.mono (HLs.out trivial) ?_
  rintro e w2 ⟨h2, b2⟩
  have he : e = .returned (.tuple #[.int .u32 0, .bool false]) := by
    rcases h2 with ⟨p, -, hp, -⟩ | ⟨-, h⟩
    · cases hp
    · exact h
  subst he
  have HB2 : Hid (Below w.heap.size w w2) := HB0.out.trans (b2.mono HB0.out.size)
  have HF2 : Hid (FB w.heap.size 0 ⟨#[]⟩ w2) := HF0.out.grow b2
  have hstW3 := HF2.out.set 0 ⟨#[]⟩
  obtain ⟨z0, z1, f0, f1⟩ := HF2.out.facts
  have z1' : (w2.setCell ⟨w.heap.size, 0, none⟩ (.int .u32 0)).frozen? ⟨w.heap.size, 1, none⟩ = false := frozen_of_row _ _ _ _ _ (heap_setCell_same w2 w.heap.size 0 _ _ (.int .u32 0) HF2.out)
  have m0 := hlt HF2.out
  obtain ⟨W3, hW3⟩ : ∃ W3, (w2.setCell ⟨w.heap.size, 0, none⟩ (.int .u32 0)).setCell ⟨w.heap.size, 1, none⟩ (.string ⟨#[]⟩) = W3 := ⟨_, rfl⟩
  rw [hW3] at hstW3
  have HW3 : Hid _ := hW3
  have HF3 : Hid (FB w.heap.size 0 ⟨#[]⟩ W3 ∧ Below w.heap.size w W3) := ⟨hstW3.1, HB2.out.trans (hstW3.2 _ (Nat.le_refl _))⟩
  clear hstW3 hW3 h2 b2 HLs
  go_wp2_with (first | (rw [HW3.out]; clear HW3))
  refine bodyPost_ret (results_refE rfl _ _ _ _ _ _ rfl rfl HF3.out.1) rfl ?_
  exact ⟨rfl, HF3.out.2⟩
set_option maxRecDepth 100000 in
set_option maxHeartbeats 4000000 in
theorem write_put (Kt : Nat → Int) (A : Pl) (v : Vs) (t : St) (s : ByteArray) (hs : s.size ≤ 198) (w : World) (hv : Vlt w A v t) (hk : Ok t) (hT : Rs.Tb Kt w) {p : Nat} (hf : Rs.fits (hd v p)) (hsl : v.seals + 1 < 18446744073709551616) (hl : leastS v.tk t.n = some p) (hp : p < t.n) :
    Calls Tryz.prog 22 #[pt A.g, .string s] w fun e w' => ((putE Kt v t p s = 0 ∧ e = .returned (.tuple #[rf p (putV Kt v t p s), .int .i64 0]) ∧ Vlt w' A (take (putN v p s) p) (putT Kt v t p s)) ∨ (putE Kt v t p s ≠ 0 ∧ e = .returned (.tuple #[rf 0 ⟨#[]⟩, .int .i64 (putE Kt v t p s)]) ∧ Vlt w' A (putN v p s) (putT Kt v t p s))) ∧ But A.has w w' := by
  have hb := below_new w (.cells #[.int .u32 0, .string ⟨#[]⟩] 55)
  have hg := fb_new w
  obtain ⟨W0, hW0⟩ : ∃ W0, w.alloc (.cells #[.int .u32 0, .string ⟨#[]⟩] 55) = W0 := ⟨_, rfl⟩
  rw [hW0] at hb hg
  have HW0 : Hid _ := hW0
  have HB0 : Hid (Below w.heap.size w W0) := hb
  have HF0 : Hid (FB w.heap.size 0 ⟨#[]⟩ W0) := hg
  have hv0 := hv.below hb (Nat.le_refl _)
  have HV0 : Hid (Vlt W0 A v t) := hv0
  have HN : Hid (∀ _ : True, _) := fun _ => vnone_any A v t W0 hv0
  have HLs : Hid (∀ _ : True, _) := fun _ => least_any A v t W0 hv0 hk
  rw [hl] at HLs
  have q1 : ¬ (198 : Int) < (s.size : Int) := by omega
  have HTB : Hid (Rs.Tb Kt w) := hT
  have hn1 := hk.n1
  have HU : Hid (∀ W, Vlt W A v t → Rs.Tb Kt W → Calls Tryz.prog 52 #[pt A.g, .int .u32 (p : Int), .string s] W fun e w' => e = .returned (.tuple #[.string (putV Kt v t p s), .int .i64 (putE Kt v t p s)]) ∧ Vlt w' A (putN v p s) (putT Kt v t p s) ∧ But A.has W w') := fun W h1 h2 => put_any Kt A v t p (by omega) s W h1 hk h2 hf hsl
  have HLT : Hid (∀ k, A.has k → k < w.heap.size) := fun k hk => hv.has_lt hk
  have HVw : Hid (Vlt w A v t) := hv
  have HRN : Hid ((putN v p s).ring = v.ring) := by unfold putN; split <;> exact rfl
  clear hb hg hW0 hv hv0 hs hT hf hsl
  generalize putV Kt v t p s = PV at *
  generalize putE Kt v t p s = PE at *
  generalize putN v p s = VN at *
  generalize putT Kt v t p s = TN at *
  obtain ⟨PST, hPST⟩ : ∃ PST : Ending → World → Prop, (fun e w' => ((PE = 0 ∧ e = .returned (.tuple #[rf p PV, .int .i64 0]) ∧ Vlt w' A (take VN p) TN) ∨ (PE ≠ 0 ∧ e = .returned (.tuple #[rf 0 ⟨#[]⟩, .int .i64 PE]) ∧ Vlt w' A VN TN)) ∧ But A.has w w') = PST := ⟨_, rfl⟩
  rw [hPST]
  have HPS : Hid (∀ e w', ((PE = 0 ∧ e = .returned (.tuple #[rf p PV, .int .i64 0]) ∧ Vlt w' A (take VN p) TN) ∨ (PE ≠ 0 ∧ e = .returned (.tuple #[rf 0 ⟨#[]⟩, .int .i64 PE]) ∧ Vlt w' A VN TN)) → But A.has w w' → PST e w') := fun e w' h1 h2 => by rw [← hPST]; exact ⟨h1, h2⟩
  clear hPST
  go_enter Tryz.func22, Tryz.ntmps22
  go_wp2_with (first | (rw [HW0.out]; clear HW0))
  refine Calls.mono (HN.out trivial) ?_
  rintro e w1 ⟨rfl, hw1⟩
  have hw1' := hw1.symm
  clear hw1 HN
  subst hw1'
  go_wp2_with fail
  refine Calls.mono (HLs.out trivial) ?_
  rintro e w2 ⟨h2, b2⟩
  have he : e = .returned (.tuple #[.int .u32 (p : Int), .bool true]) := by
    rcases h2 with ⟨p', -, hp', h⟩ | ⟨hp', -⟩
    · cases hp'; exact h
    · cases hp'
  subst he
  have HB2 : Hid (Below w.heap.size w w2) := HB0.out.trans (b2.mono HB0.out.size)
  have HF2 : Hid (FB w.heap.size 0 ⟨#[]⟩ w2) := HF0.out.grow b2
  have HV2 : Hid (Vlt w2 A v t) := HV0.out.below b2 (Nat.le_refl _)
  clear h2 b2 HLs HV0 HB0 HF0
  go_wp2_with fail
  refine Calls.mono (HU.out _ HV2.out (HTB.out.below HB2.out (Nat.le_refl _))) ?_
  rintro e w3 ⟨rfl, hv3, b3⟩
  have HB3 : Hid (But A.has w w3) := but_below HB2.out b3
  have HF3 : Hid (FB w.heap.size 0 ⟨#[]⟩ w3) := HF2.out.but b3 fun e => by have := HLT.out _ e; omega
  have HV3 : Hid (Vlt w3 A VN TN) := hv3
  clear hv3 b3 HU HV2 HF2
  by_cases h0 : PE = 0
  · subst h0
    obtain ⟨hs3, -⟩ := HV3.out.self
    obtain ⟨⟨-, -, -, -, -, c5⟩, -⟩ := c6_of hs3
    obtain ⟨W4, hrun, hm4, b4, hz4⟩ := HV3.out.map.update p ()
    have hst4 := HV3.out.take_step hm4 b4
    have HV4 : Hid (Vlt W4 A (take VN p) TN) := hst4.1
    have HB4 : Hid (But A.has w W4) := HB3.out.trans hst4.2
    have HF4 : Hid (FB w.heap.size 0 ⟨#[]⟩ W4) := HF3.out.but hst4.2 fun e => by have := HLT.out _ e; omega
    have hstW5 := HF4.out.set (p : Int) PV
    obtain ⟨z0, z1, f0, f1⟩ := HF4.out.facts
    have z1' : (W4.setCell ⟨w.heap.size, 0, none⟩ (.int .u32 (p : Int))).frozen? ⟨w.heap.size, 1, none⟩ = false := frozen_of_row _ _ _ _ _ (heap_setCell_same W4 w.heap.size 0 _ _ (.int .u32 (p : Int)) HF4.out)
    have m0 := hlt HF4.out
    obtain ⟨W5, hW5⟩ : ∃ W5, (W4.setCell ⟨w.heap.size, 0, none⟩ (.int .u32 (p : Int))).setCell ⟨w.heap.size, 1, none⟩ (.string PV) = W5 := ⟨_, rfl⟩
    rw [hW5] at hstW5
    have HW5 : Hid _ := hW5
    have HF5 : Hid (FB w.heap.size (p : Int) PV W5) := hstW5.1
    have b5 := hstW5.2 w.heap.size (Nat.le_refl _)
    have HB5 : Hid (But A.has w W5) := but_above HB4.out b5
    have HV5 : Hid (Vlt W5 A (take VN p) TN) := by
      refine (?_ : Vlt W5 A (take VN p) TN)
      exact HVw.out.above HV4.out HRN.out b5
    clear hstW5 hW5 hs3 hm4 b4 hst4 b5
    go_wp2_with (first | (rw [HW5.out]; clear HW5))
    refine bodyPost_ret (results_refE rfl _ _ _ _ _ _ rfl rfl HF5.out) rfl ?_
    exact HPS.out _ _ (.inl ⟨by first | rfl | trivial, rfl, HV5.out⟩) HB5.out
  · have hE1 : decide (PE = 0) = false := decide_eq_false h0
    have hE2 : (PE == 0) = false := by simpa using h0
    have hE3 : (PE != 0) = true := by simpa using h0
    have hstW5 := HF3.out.set 0 ⟨#[]⟩
    obtain ⟨z0, z1, f0, f1⟩ := HF3.out.facts
    have z1' : (w3.setCell ⟨w.heap.size, 0, none⟩ (.int .u32 0)).frozen? ⟨w.heap.size, 1, none⟩ = false := frozen_of_row _ _ _ _ _ (heap_setCell_same w3 w.heap.size 0 _ _ (.int .u32 0) HF3.out)
    have m0 := hlt HF3.out
    obtain ⟨W5, hW5⟩ : ∃ W5, (w3.setCell ⟨w.heap.size, 0, none⟩ (.int .u32 0)).setCell ⟨w.heap.size, 1, none⟩ (.string ⟨#[]⟩) = W5 := ⟨_, rfl⟩
    rw [hW5] at hstW5
    have HW5 : Hid _ := hW5
    have HF5 : Hid (FB w.heap.size 0 ⟨#[]⟩ W5) := hstW5.1
    have b5 := hstW5.2 w.heap.size (Nat.le_refl _)
    have HB5 : Hid (But A.has w W5) := but_above HB3.out b5
    have HV5 : Hid (Vlt W5 A VN TN) := HVw.out.above HV3.out HRN.out b5
    have HE : Hid (PE ≠ 0) := h0
    clear hstW5 hW5 b5 h0
    go_wp2_with (first | (rw [HW5.out]; clear HW5))
    refine bodyPost_ret (results_refE rfl _ _ _ _ _ _ rfl rfl HF5.out) rfl ?_
    exact HPS.out _ _ (.inr ⟨HE.out, rfl, HV5.out⟩) HB5.out
end Go.Proofs.YtheheaflebkipaaGreatDoor.Rv
/- RightRef, saysPlace. -/
namespace Go.Proofs.YtheheaflebkipaaGreatDoor.Rv
open Go.RowKit Go.Lib
open Go.Proofs.YtheheaflebkipaaGreatDoor.Rd (But St Ok Dev Dv pt below_new natOf)
def rref (p : Nat) (s : ByteArray) : Bool := decide (2 ≤ p) && decide (s.size = 32)
set_option maxRecDepth 100000 in
set_option maxHeartbeats 1000000 in
theorem rightRef_any (p : Nat) (s : ByteArray) (w : World) :
    Calls Tryz.prog 80 #[rf p s] w fun e w' => e = .returned (.bool (rref p s)) ∧ Below w.heap.size w w' := by
  have hb := below_new w (.cells #[.int .u32 (p : Int), .string s] 55)
  have hg : FB w.heap.size (p : Int) s (w.alloc (.cells #[.int .u32 (p : Int), .string s] 55)) := heap_alloc_new w _
  obtain ⟨W0, hW0⟩ : ∃ W0, w.alloc (.cells #[.int .u32 (p : Int), .string s] 55) = W0 := ⟨_, rfl⟩
  rw [hW0] at hb hg
  have HW0 : Hid _ := hW0
  have HB0 : Hid (Below w.heap.size w W0) := hb
  obtain ⟨-, -, f0, f1⟩ := hg.facts
  unfold rref
  clear hb hg hW0
  go_enter Tryz.func80, Tryz.ntmps80
  by_cases h2 : 2 ≤ p
  · have i2 : (2 : Int) ≤ (p : Int) := by omega
    have i3 : decide ((2 : Int) ≤ (p : Int)) = true := decide_eq_true i2
    have i4 : ((s.size : Int) == 32) = decide (s.size = 32) := by
      by_cases e : s.size = 32
      · rw [e]; rfl
      · rw [decide_eq_false e, beq_eq_false_iff_ne]; omega
    rw [decide_eq_true h2]
    generalize decide (s.size = 32) = b at *
    go_wp2_with (first | (rw [HW0.out]; clear HW0))
    go_ret
    exact ⟨by simp, HB0.out⟩
  · have i3 : decide ((2 : Int) ≤ (p : Int)) = false := decide_eq_false (by omega)
    have i2 : ¬ (2 : Int) ≤ (p : Int) := by omega
    rw [decide_eq_false h2]
    go_wp2_with (first | (rw [HW0.out]; clear HW0))
    go_ret
    exact ⟨rfl, HB0.out⟩
/-- What a place begins a block with. -/
def plc (p : Nat) : ByteArray := (Rs.putS ((p : Int), 0, 0, 0)).extract 0 4
def says (b : ByteArray) (p : Nat) : Bool := decide (b.extract 0 4 = plc p)
set_option maxRecDepth 100000 in
theorem ext24n (s : ByteArray) (h : s.size = 24) (b : Nat) (hb : b ≤ 24) (w : World) : (Instr.sliceAt 9 (.string s) none (some (.int .i64 (b : Int))) none).run Tryz.prog w = .ok (.string (s.extract 0 b)) w := by
  simp [Instr.sliceAt, Instr.slice, run_underlying Tryz.underlying9, go_sem, h]
  intro h9
  omega
set_option maxRecDepth 100000 in
set_option maxHeartbeats 1000000 in
theorem says_any (b : ByteArray) (hb : b.size = 256) (p : Nat) (hp : p ≤ 4294967295) (w : World) :
    Calls Tryz.prog 81 #[.string b, .int .u32 (p : Int)] w fun e w' => e = .returned (.bool (says b p)) ∧ Below w.heap.size w w' := by
  have h1 : ∀ w, (Instr.sliceAt 9 (.string b) none (some (.int .i64 4)) none).run Tryz.prog w = .ok (.string (b.extract 0 4)) w := Rs.ext256n b hb 4 (by omega)
  have h2 : ∀ w, (Instr.sliceAt 9 (.string (Rs.putS ((p : Int), 0, 0, 0))) none (some (.int .i64 4)) none).run Tryz.prog w = .ok (.string (plc p)) w := ext24n _ (Rs.put_size _) 4 (by omega)
  have HP : Hid (∀ W, Calls Tryz.prog 106 #[Rs.hv ((p : Int), 0, 0, 0)] W fun e w' => e = .returned (.string (Rs.putS ((p : Int), 0, 0, 0))) ∧ Below W.heap.size W w') := fun W => Rs.put_any ((p : Int), 0, 0, 0) (by unfold Rs.fits; simp only; omega) W
  simp only [Rs.hv] at HP
  have HS : Hid (says b p = decide (b.extract 0 4 = plc p)) := rfl
  generalize Rs.putS ((p : Int), 0, 0, 0) = PS at *
  generalize plc p = PL at *
  generalize b.extract 0 4 = BE at *
  generalize says b p = SB at *
  clear hb hp
  go_enter Tryz.func81, Tryz.ntmps81
  go_wp2_with fail
  refine wp_region_any (by kernel_rfl) ?_
  change wpAny _ _ _ _ _ _ _ (World.drew _)
  refine wpAny_take (i := 0) (v := ?_) rfl (by kernel_rfl) (by kernel_rfl) (by kernel_rfl) (fun _ _ _ h => h) (Or.inl ⟨by kernel_rfl, ?_⟩) ?_
  rotate_left
  · intro w
    go_simp
    try with_reducible rfl
  conv in (Act.put _ _ _) => simp only [List.getElem_toArray, List.getElem_cons_succ, List.getElem_cons_zero, Act.put, List.setIfInBounds_toArray, List.set_cons_succ, List.set_cons_zero]
  refine wpAny_take (i := 1) (v := ?_) rfl (by kernel_rfl) (by kernel_rfl) (by kernel_rfl) (fun _ _ _ h => h) (Or.inl ⟨by kernel_rfl, ?_⟩) ?_
  rotate_left
  · intro w
    go_simp
    try with_reducible rfl
  conv in (Act.put _ _ _) => simp only [List.getElem_toArray, List.getElem_cons_succ, List.getElem_cons_zero, Act.put, List.setIfInBounds_toArray, List.set_cons_succ, List.set_cons_zero]
  refine wpAny_take (i := 2) (v := ?_) rfl (by kernel_rfl) (by kernel_rfl) (by kernel_rfl) (fun _ _ _ h => h) (Or.inl ⟨by kernel_rfl, ?_⟩) ?_
  rotate_left
  · intro w
    go_simp
    try with_reducible rfl
  conv in (Act.put _ _ _) => simp only [List.getElem_toArray, List.getElem_cons_succ, List.getElem_cons_zero, Act.put, List.setIfInBounds_toArray, List.set_cons_succ, List.set_cons_zero]
  refine wpAny_take (i := 3) (v := ?_) rfl (by kernel_rfl) (by kernel_rfl) (by kernel_rfl) (fun _ _ _ h => h) (Or.inl ⟨by kernel_rfl, ?_⟩) ?_
  rotate_left
  · intro w
    go_simp
    try with_reducible rfl
  conv in (Act.put _ _ _) => simp only [List.getElem_toArray, List.getElem_cons_succ, List.getElem_cons_zero, Act.put, List.setIfInBounds_toArray, List.set_cons_succ, List.set_cons_zero]
  refine wpAny_ready (rs := [4]) (by kernel_rfl) (by simp) ?_
  refine (AllReady.cons rfl (fun K hK => ?_) AllReady.nil)
  go_simp
  refine Calls.mono (HP.out _) ?_
  rintro e w2 ⟨rfl, b2⟩
  replace b2 : Below w.heap.size w w2 := (Below.refl _ w).drew.trans b2
  refine hK _ _ ?_
  clear hK K
  refine wpAny_take (i := 5) (v := ?_) rfl (by kernel_rfl) (by kernel_rfl) (by kernel_rfl) (fun _ _ _ h => h) (Or.inl ⟨by kernel_rfl, ?_⟩) ?_
  rotate_left
  · intro w
    go_simp
    try with_reducible rfl
  conv in (Act.put _ _ _) => simp only [List.getElem_toArray, List.getElem_cons_succ, List.getElem_cons_zero, Act.put, List.setIfInBounds_toArray, List.set_cons_succ, List.set_cons_zero]
  refine wpAny_take (i := 6) (v := ?_) rfl (by kernel_rfl) (by kernel_rfl) (by kernel_rfl) (fun _ _ _ h => h) (Or.inl ⟨by kernel_rfl, ?_⟩) ?_
  rotate_left
  · intro w
    go_simp
    try with_reducible rfl
  conv in (Act.put _ _ _) => simp only [List.getElem_toArray, List.getElem_cons_succ, List.getElem_cons_zero, Act.put, List.setIfInBounds_toArray, List.set_cons_succ, List.set_cons_zero]
  refine wpAny_take (i := 7) (v := ?_) rfl (by kernel_rfl) (by kernel_rfl) (by kernel_rfl) (fun _ _ _ h => h) (Or.inl ⟨by kernel_rfl, ?_⟩) ?_
  rotate_left
  · intro w
    go_simp
    try with_reducible rfl
  conv in (Act.put _ _ _) => simp only [List.getElem_toArray, List.getElem_cons_succ, List.getElem_cons_zero, Act.put, List.setIfInBounds_toArray, List.set_cons_succ, List.set_cons_zero]
  refine wpAny_done (by kernel_rfl) ?_ _
  go_wp2_with fail
  go_ret
  exact ⟨by rw [HS.out, ← Rk.toList_dec]; simp, b2⟩
end Go.Proofs.YtheheaflebkipaaGreatDoor.Rv
/- open: what a block says. -/
namespace Go.Proofs.YtheheaflebkipaaGreatDoor.Rv
open Go.RowKit Go.Lib
open Go.Proofs.YtheheaflebkipaaGreatDoor.Rd (But St Ok Dev Dv pt below_new natOf)
set_option maxRecDepth 100000 in
theorem read_size {t : St} (hk : Ok t) {p : Nat} (h : Rd.readE t p = 0) : (Rd.readV t p).size = 256 := by
  unfold Rd.readV
  rw [if_pos h]
  unfold Rd.readE at h
  by_cases hp : p < t.n
  · unfold Rd.holdS
    cases hd : t.pd p with
    | none => exact hk.tx p hp
    | some x => exact (hk.pd p x hd).2
  · rw [if_neg hp] at h; cases h
/-- Whether a block is what was asked for. -/
def meant (t : St) (p : Nat) (tag : ByteArray) : Bool := decide (Rs.tagS (Rd.readV t p) = tag) && says (Rd.readV t p) p
def opE (Kt : Nat → Int) (v : Vs) (t : St) (p : Nat) (tag : ByteArray) : Int := if Rd.readE t p = 0 then (if meant t p tag = true then Rs.oE Kt v.ring (Rd.readV t p) else 61) else Rd.readE t p
def opH (Kt : Nat → Int) (v : Vs) (t : St) (p : Nat) (tag : ByteArray) : Rs.Hd := if Rd.readE t p = 0 ∧ meant t p tag = true then Rs.oH Kt v.ring (Rd.readV t p) else Rs.zh
def opS (Kt : Nat → Int) (v : Vs) (t : St) (p : Nat) (tag : ByteArray) : ByteArray := if Rd.readE t p = 0 ∧ meant t p tag = true then Rs.oS Kt v.ring (Rd.readV t p) else ⟨#[]⟩
/-- A head in a block of its own. -/
def HB (g : Nat) (h : Rs.Hd) (W : World) : Prop := W.heap[g]? = some (.cells #[.int .u32 h.1, .int .u32 h.2.1, .int .u32 h.2.2.1, .int .u64 h.2.2.2] 103 (0, 0))
set_option maxRecDepth 100000 in
theorem HB.grow {g : Nat} {h : Rs.Hd} {W W' : World} (x : HB g h W) (hb : Below W.heap.size W W') : HB g h W' := (hb.block _ (hlt x)).trans x
set_option maxRecDepth 100000 in
theorem hb_new (W : World) : HB W.heap.size Rs.zh (W.alloc (.cells #[.int .u32 0, .int .u32 0, .int .u32 0, .int .u64 0] 103)) := heap_alloc_new W _
set_option maxRecDepth 100000 in
set_option maxHeartbeats 4000000 in
theorem vopen_any (Kt : Nat → Int) (A : Pl) (v : Vs) (t : St) (p : Nat) (hp : p ≤ 4294967295) (tag : ByteArray) (w : World) (hv : Vlt w A v t) (hk : Ok t) (hT : Rs.Tb Kt w) :
    Calls Tryz.prog 54 #[pt A.g, .int .u32 (p : Int), .string tag] w fun e w' => e = .returned (.tuple #[Rs.hv (opH Kt v t p tag), .string (opS Kt v t p tag), .int .i64 (opE Kt v t p tag)]) ∧ Below w.heap.size w w' := by
  have hb := below_new w (.cells #[.int .u32 0, .int .u32 0, .int .u32 0, .int .u64 0] 103)
  have hg := hb_new w
  obtain ⟨W0, hW0⟩ : ∃ W0, w.alloc (.cells #[.int .u32 0, .int .u32 0, .int .u32 0, .int .u64 0] 103) = W0 := ⟨_, rfl⟩
  rw [hW0] at hb hg
  have HW0 : Hid _ := hW0
  have HB0 : Hid (Below w.heap.size w W0) := hb
  have HH0 : Hid (HB w.heap.size Rs.zh W0) := hg
  have hv0 := hv.below hb (Nat.le_refl _)
  have HN : Hid (∀ _ : True, _) := fun _ => vnone_any A v t W0 hv0
  have HRd : Hid (∀ _ : True, _) := fun _ => Rd.read_any A.d A.b A.m t p hp W0 hv0.dev hk
  obtain ⟨h1, h2⟩ := hv0.self
  obtain ⟨⟨c0, c1, -⟩, -⟩ := c6_of h1
  have HOp : Hid (∀ W, Below w.heap.size w W → Calls Tryz.prog 82 #[.slice A.o v.ring.length A.cap, .string (Rd.readV t p)] W fun e w' => e = .returned (.tuple #[Rs.hv (Rs.oH Kt v.ring (Rd.readV t p)), .string (Rs.oS Kt v.ring (Rd.readV t p)), .int .i64 (Rs.oE Kt v.ring (Rd.readV t p))]) ∧ Below W.heap.size W w') := fun W hW => Rs.open_any Kt v.ring A.o A.cap (Rd.readV t p) W (hv.self.2.1.below hW (Nat.le_refl _)) (hT.below hW (Nat.le_refl _))
  have HC1 : Hid (∀ W, Below w.heap.size w W → W.cell? ⟨A.g, 1, none⟩ = some (.slice A.o v.ring.length A.cap)) := fun W hW => (c6_of (hv.below hW (Nat.le_refl _)).self.1).1.2.1
  have HSy : Hid (Rd.readE t p = 0 → ∀ W, Calls Tryz.prog 81 #[.string (Rd.readV t p), .int .u32 (p : Int)] W fun e w' => e = .returned (.bool (says (Rd.readV t p) p)) ∧ Below W.heap.size W w') := fun h0 W => says_any _ (read_size hk h0) p hp W
  have HTg : Hid (Rd.readE t p = 0 → ∀ W, Calls Tryz.prog 79 #[.string (Rd.readV t p)] W fun e w' => e = .returned (.string (Rs.tagS (Rd.readV t p))) ∧ w' = W) := fun h0 W => Rs.tag_any _ (by rw [read_size hk h0]; decide) W
  have HE : Hid (opE Kt v t p tag = if Rd.readE t p = 0 then (if meant t p tag = true then Rs.oE Kt v.ring (Rd.readV t p) else 61) else Rd.readE t p) := rfl
  have HH : Hid (opH Kt v t p tag = if Rd.readE t p = 0 ∧ meant t p tag = true then Rs.oH Kt v.ring (Rd.readV t p) else Rs.zh) := rfl
  have HS : Hid (opS Kt v t p tag = if Rd.readE t p = 0 ∧ meant t p tag = true then Rs.oS Kt v.ring (Rd.readV t p) else ⟨#[]⟩) := rfl
  have HM : Hid (meant t p tag = (decide (Rs.tagS (Rd.readV t p) = tag) && says (Rd.readV t p) p)) := rfl
  have m0 := hlt hg
  have lg : A.g < W0.heap.size := hv0.lt.1
  have lgw : A.g < w.heap.size := hv.lt.1
  clear hb hg hW0 hv hv0 hk hT h1 h2 hp c1
  generalize opE Kt v t p tag = OE at *
  generalize opH Kt v t p tag = OH at *
  generalize opS Kt v t p tag = OS at *
  generalize meant t p tag = MM at *
  generalize Rd.readE t p = RE at *
  generalize Rs.oE Kt v.ring (Rd.readV t p) = XE at *
  generalize Rs.oH Kt v.ring (Rd.readV t p) = XH at *
  generalize Rs.oS Kt v.ring (Rd.readV t p) = XS at *
  generalize says (Rd.readV t p) p = SY at *
  generalize Rs.tagS (Rd.readV t p) = TG at *
  generalize Rd.readV t p = RV at *
  go_enter Tryz.func54, Tryz.ntmps54
  go_wp2_with (first | (rw [HW0.out]; clear HW0))
  refine Calls.mono (HN.out trivial) ?_
  rintro e w1 ⟨rfl, hw1⟩
  have hw1' := hw1.symm
  clear hw1 HN
  subst hw1'
  go_wp2_with fail
  refine Calls.mono (HRd.out trivial) ?_
  rintro e w2 ⟨rfl, b2⟩
  have HB2 : Hid (Below w.heap.size w w2) := HB0.out.trans (b2.mono HB0.out.size)
  have HH2 : Hid (HB w.heap.size Rs.zh w2) := HH0.out.grow b2
  clear b2 HRd HB0 HH0 c0
  by_cases hE : RE = 0
  · subst hE
    have HTg2 : Hid _ := HTg.out rfl
    have HSy2 : Hid _ := HSy.out rfl
    clear HTg HSy
    go_wp2_with fail
    refine Calls.mono (HTg2.out _) ?_
    rintro e w3 ⟨rfl, hw3⟩
    have hw3' := hw3.symm
    clear hw3 HTg2
    subst hw3'
    by_cases hg : TG = tag
    · subst hg
      have q1 : (TG.toList == TG.toList) = true := beq_self_eq_true _
      have q2 : (TG.toList != TG.toList) = false := by simp
      rw [decide_eq_true rfl, Bool.true_and] at HM
      go_wp2_with fail
      refine Calls.mono (HSy2.out _) ?_
      rintro e w4 ⟨rfl, b4⟩
      have HB4 : Hid (Below w.heap.size w w4) := HB2.out.trans (b4.mono HB2.out.size)
      have HH4 : Hid (HB w.heap.size Rs.zh w4) := HH2.out.grow b4
      clear b4 HSy2 HB2 HH2
      cases SY with
      | true =>
        have hm : MM = true := HM.out
        subst hm
        have HE2 : Hid (OE = XE) := (by have := HE.out; simpa using this : OE = XE)
        have HH5 : Hid (OH = XH) := (by have := HH.out; simpa using this : OH = XH)
        have HS5 : Hid (OS = XS) := (by have := HS.out; simpa using this : OS = XS)
        have c1 := HC1.out w4 HB4.out
        have lg4 : A.g < w4.heap.size := Nat.lt_of_lt_of_le lgw HB4.out.size
        obtain ⟨a, b', c, d⟩ := XH
        simp only [Rs.hv] at HOp
        clear HE HH HS HM
        go_wp2_with fail
        refine Calls.mono (HOp.out _ HB4.out) ?_
        rintro e w5 ⟨rfl, b5⟩
        have HB5 : Hid (Below w.heap.size w w5) := HB4.out.trans (b5.mono HB4.out.size)
        have HH6 : Hid (HB w.heap.size Rs.zh w5) := HH4.out.grow b5
        have Z5 : Hid (w5.heap[w.heap.size]? = some (.cells #[.int .u32 0, .int .u32 0, .int .u32 0, .int .u64 0] 103 (0, 0))) := HH6.out
        clear b5 HOp HB4 HH4 HH6 c1
        go_wp2_with (refine wpList_store_row rfl 103 _ _ rfl w.heap.size _ rfl rfl 103 _ Z5.out (by kernel_rfl) rfl (by simp [Value.oneCell']) ?_)
        refine bodyPost_ret (Rs.results_open rfl _ _ w.heap.size (a, b', c, d) rfl (setRow_heap _ _ _ _ _ _ Z5.out)) rfl ?_
        exact ⟨by rw [HE2.out, HH5.out, HS5.out]; rfl, below_setRow HB5.out (Nat.le_refl _) _⟩
      | false =>
        have hm : MM = false := HM.out
        subst hm
        have HE2 : Hid (OE = 61) := (by have := HE.out; simpa using this : OE = 61)
        have HH5 : Hid (OH = Rs.zh) := (by have := HH.out; simpa using this : OH = Rs.zh)
        have HS5 : Hid (OS = ⟨#[]⟩) := (by have := HS.out; simpa using this : OS = ⟨#[]⟩)
        have Z4 : Hid (w4.heap[w.heap.size]? = some (.cells #[.int .u32 0, .int .u32 0, .int .u32 0, .int .u64 0] 103 (0, 0))) := HH4.out
        clear HE HH HS HM HOp
        go_wp2_with (refine wpList_store_row rfl 103 _ _ rfl w.heap.size _ rfl rfl 103 _ Z4.out (by kernel_rfl) rfl (by simp [Value.oneCell']) ?_)
        refine bodyPost_ret (Rs.results_open rfl _ _ w.heap.size Rs.zh rfl (setRow_heap _ _ _ _ _ _ Z4.out)) rfl ?_
        exact ⟨by rw [HE2.out, HH5.out, HS5.out]; rfl, below_setRow HB4.out (Nat.le_refl _) _⟩
    · have q1 : (TG.toList == tag.toList) = false := by rw [Rk.toList_dec]; exact decide_eq_false hg
      have q2 : (TG.toList != tag.toList) = true := by rw [bne, q1]; rfl
      have hm : MM = false := by rw [HM.out, decide_eq_false hg]; rfl
      subst hm
      have HE2 : Hid (OE = 61) := (by have := HE.out; simpa using this : OE = 61)
      have HH5 : Hid (OH = Rs.zh) := (by have := HH.out; simpa using this : OH = Rs.zh)
      have HS5 : Hid (OS = ⟨#[]⟩) := (by have := HS.out; simpa using this : OS = ⟨#[]⟩)
      have Z2 : Hid (w2.heap[w.heap.size]? = some (.cells #[.int .u32 0, .int .u32 0, .int .u32 0, .int .u64 0] 103 (0, 0))) := HH2.out
      clear HE HH HS HM HOp HSy2 hg
      go_wp2_with (refine wpList_store_row rfl 103 _ _ rfl w.heap.size _ rfl rfl 103 _ Z2.out (by kernel_rfl) rfl (by simp [Value.oneCell']) ?_)
      refine bodyPost_ret (Rs.results_open rfl _ _ w.heap.size Rs.zh rfl (setRow_heap _ _ _ _ _ _ Z2.out)) rfl ?_
      exact ⟨by rw [HE2.out, HH5.out, HS5.out]; rfl, below_setRow HB2.out (Nat.le_refl _) _⟩
  · have hE1 : decide (RE = 0) = false := decide_eq_false hE
    have hE2 : (RE == 0) = false := by simpa using hE
    have hE3 : (RE != 0) = true := by simpa using hE
    have HE2 : Hid (OE = RE) := HE.out.trans (if_neg hE)
    have HH5 : Hid (OH = Rs.zh) := HH.out.trans (if_neg fun h => hE h.1)
    have HS5 : Hid (OS = ⟨#[]⟩) := HS.out.trans (if_neg fun h => hE h.1)
    have Z2 : Hid (w2.heap[w.heap.size]? = some (.cells #[.int .u32 0, .int .u32 0, .int .u32 0, .int .u64 0] 103 (0, 0))) := HH2.out
    clear HE HH HS HM HOp HSy HTg hE
    go_wp2_with (refine wpList_store_row rfl 103 _ _ rfl w.heap.size _ rfl rfl 103 _ Z2.out (by kernel_rfl) rfl (by simp [Value.oneCell']) ?_)
    refine bodyPost_ret (Rs.results_open rfl _ _ w.heap.size Rs.zh rfl (setRow_heap _ _ _ _ _ _ Z2.out)) rfl ?_
    exact ⟨by rw [HE2.out, HH5.out, HS5.out]; rfl, below_setRow HB2.out (Nat.le_refl _) _⟩
end Go.Proofs.YtheheaflebkipaaGreatDoor.Rv
/- page, Read, Gen, Give, Seals. -/
namespace Go.Proofs.YtheheaflebkipaaGreatDoor.Rv
open Go.RowKit Go.Lib
open Go.Proofs.YtheheaflebkipaaGreatDoor.Rd (But St Ok Dev Dv pt below_new natOf)
def pgE (Kt : Nat → Int) (v : Vs) (t : St) (p : Nat) (tag : ByteArray) : Int := if rref p tag = true then opE Kt v t p tag else 2
def pgH (Kt : Nat → Int) (v : Vs) (t : St) (p : Nat) (tag : ByteArray) : Rs.Hd := if rref p tag = true then opH Kt v t p tag else Rs.zh
def pgS (Kt : Nat → Int) (v : Vs) (t : St) (p : Nat) (tag : ByteArray) : ByteArray := if rref p tag = true then opS Kt v t p tag else ⟨#[]⟩
set_option maxRecDepth 100000 in
set_option maxHeartbeats 4000000 in
theorem vpage_any (Kt : Nat → Int) (A : Pl) (v : Vs) (t : St) (p : Nat) (hp : p ≤ 4294967295) (tag : ByteArray) (w : World) (hv : Vlt w A v t) (hk : Ok t) (hT : Rs.Tb Kt w) :
    Calls Tryz.prog 53 #[pt A.g, rf p tag] w fun e w' => e = .returned (.tuple #[Rs.hv (pgH Kt v t p tag), .string (pgS Kt v t p tag), .int .i64 (pgE Kt v t p tag)]) ∧ Below w.heap.size w w' := by
  obtain ⟨g1, g2, hb⟩ := Rk.two_new w (.cells #[.int .u32 (p : Int), .string tag] 55) (.cells #[.int .u32 0, .int .u32 0, .int .u32 0, .int .u64 0] 103)
  obtain ⟨W0, hW0⟩ : ∃ W0, (w.alloc (.cells #[.int .u32 (p : Int), .string tag] 55)).alloc (.cells #[.int .u32 0, .int .u32 0, .int .u32 0, .int .u64 0] 103) = W0 := ⟨_, rfl⟩
  rw [hW0] at hb g1 g2
  have HW0 : Hid _ := hW0
  have HB0 : Hid (Below w.heap.size w W0) := hb
  have HF0 : Hid (FB w.heap.size (p : Int) tag W0) := g1
  have HH0 : Hid (HB (w.heap.size + 1) Rs.zh W0) := g2
  have HN : Hid (∀ _ : True, _) := fun _ => vnone_any A v t W0 (hv.below hb (Nat.le_refl _))
  have HRr : Hid (∀ W, _) := fun W => rightRef_any p tag W
  have HOp : Hid (∀ W, Below w.heap.size w W → Calls Tryz.prog 54 #[pt A.g, .int .u32 (p : Int), .string tag] W fun e w' => e = .returned (.tuple #[Rs.hv (opH Kt v t p tag), .string (opS Kt v t p tag), .int .i64 (opE Kt v t p tag)]) ∧ Below W.heap.size W w') := fun W hW => vopen_any Kt A v t p hp tag W (hv.below hW (Nat.le_refl _)) hk (hT.below hW (Nat.le_refl _))
  have HE : Hid (pgE Kt v t p tag = if rref p tag = true then opE Kt v t p tag else 2) := rfl
  have HH : Hid (pgH Kt v t p tag = if rref p tag = true then opH Kt v t p tag else Rs.zh) := rfl
  have HS : Hid (pgS Kt v t p tag = if rref p tag = true then opS Kt v t p tag else ⟨#[]⟩) := rfl
  obtain ⟨-, -, f0, f1⟩ := HF0.out.facts
  have m0 : w.heap.size < W0.heap.size := hlt g1
  clear hb g1 g2 hW0 hv hk hT hp
  generalize pgE Kt v t p tag = OE at *
  generalize pgH Kt v t p tag = OH at *
  generalize pgS Kt v t p tag = OS at *
  generalize opE Kt v t p tag = XE at *
  generalize opH Kt v t p tag = XH at *
  generalize opS Kt v t p tag = XS at *
  obtain ⟨RR, hRR⟩ : ∃ RR, rref p tag = RR := ⟨_, rfl⟩
  rw [hRR] at HRr HE HH HS
  obtain ⟨a, b', c, d⟩ := XH
  simp only [Rs.hv] at HOp
  clear hRR
  go_enter Tryz.func53, Tryz.ntmps53
  go_wp2_with (first | (rw [HW0.out]; clear HW0))
  refine Calls.mono (HN.out trivial) ?_
  rintro e w1 ⟨rfl, hw1⟩
  have hw1' := hw1.symm
  clear hw1 HN
  subst hw1'
  go_wp2_with fail
  refine Calls.mono (HRr.out _) ?_
  rintro e w2 ⟨rfl, b2⟩
  have HB2 : Hid (Below w.heap.size w w2) := HB0.out.trans (b2.mono HB0.out.size)
  have HF2 : Hid (FB w.heap.size (p : Int) tag w2) := HF0.out.grow b2
  have HH2 : Hid (HB (w.heap.size + 1) Rs.zh w2) := HH0.out.grow b2
  clear b2 HRr HB0 HF0 HH0 f0 f1 m0
  cases RR with
  | true =>
    have HE2 : Hid (OE = XE) := (by have := HE.out; simpa using this : OE = XE)
    have HH5 : Hid (OH = (a, b', c, d)) := (by have := HH.out; simpa using this : OH = (a, b', c, d))
    have HS5 : Hid (OS = XS) := (by have := HS.out; simpa using this : OS = XS)
    obtain ⟨-, -, f0, f1⟩ := HF2.out.facts
    have m0 : w.heap.size < w2.heap.size := hlt HF2.out
    clear HE HH HS
    go_wp2_with fail
    refine Calls.mono (HOp.out _ HB2.out) ?_
    rintro e w3 ⟨rfl, b3⟩
    have HB3 : Hid (Below w.heap.size w w3) := HB2.out.trans (b3.mono HB2.out.size)
    have HH3 : Hid (HB (w.heap.size + 1) Rs.zh w3) := HH2.out.grow b3
    have Z3 : Hid (w3.heap[w.heap.size + 1]? = some (.cells #[.int .u32 0, .int .u32 0, .int .u32 0, .int .u64 0] 103 (0, 0))) := HH3.out
    clear b3 HOp HB2 HH2 HH3 HF2 f0 f1 m0
    go_wp2_with (refine wpList_store_row rfl 103 _ _ rfl (w.heap.size + 1) _ rfl rfl 103 _ Z3.out (by kernel_rfl) rfl (by simp [Value.oneCell']) ?_)
    refine bodyPost_ret (Rs.results_open rfl _ _ (w.heap.size + 1) (a, b', c, d) rfl (setRow_heap _ _ _ _ _ _ Z3.out)) rfl ?_
    exact ⟨by rw [HE2.out, HH5.out, HS5.out]; rfl, below_setRow HB3.out (Nat.le_succ _) _⟩
  | false =>
    have HE2 : Hid (OE = 2) := (by have := HE.out; simpa using this : OE = 2)
    have HH5 : Hid (OH = Rs.zh) := (by have := HH.out; simpa using this : OH = Rs.zh)
    have HS5 : Hid (OS = ⟨#[]⟩) := (by have := HS.out; simpa using this : OS = ⟨#[]⟩)
    have Z2 : Hid (w2.heap[w.heap.size + 1]? = some (.cells #[.int .u32 0, .int .u32 0, .int .u32 0, .int .u64 0] 103 (0, 0))) := HH2.out
    clear HE HH HS HOp HF2 HH2
    go_wp2_with (refine wpList_store_row rfl 103 _ _ rfl (w.heap.size + 1) _ rfl rfl 103 _ Z2.out (by kernel_rfl) rfl (by simp [Value.oneCell']) ?_)
    refine bodyPost_ret (Rs.results_open rfl _ _ (w.heap.size + 1) Rs.zh rfl (setRow_heap _ _ _ _ _ _ Z2.out)) rfl ?_
    exact ⟨by rw [HE2.out, HH5.out, HS5.out]; rfl, below_setRow HB2.out (Nat.le_succ _) _⟩
set_option maxRecDepth 100000 in
set_option maxHeartbeats 4000000 in
theorem read_any (Kt : Nat → Int) (A : Pl) (v : Vs) (t : St) (p : Nat) (hp : p ≤ 4294967295) (tag : ByteArray) (w : World) (hv : Vlt w A v t) (hk : Ok t) (hT : Rs.Tb Kt w) :
    Calls Tryz.prog 24 #[pt A.g, rf p tag] w fun e w' => e = .returned (.tuple #[.string (pgS Kt v t p tag), .int .i64 (pgE Kt v t p tag)]) ∧ Below w.heap.size w w' := by
  have hb := below_new w (.cells #[.int .u32 (p : Int), .string tag] 55)
  have hg : FB w.heap.size (p : Int) tag (w.alloc (.cells #[.int .u32 (p : Int), .string tag] 55)) := heap_alloc_new w _
  obtain ⟨W0, hW0⟩ : ∃ W0, w.alloc (.cells #[.int .u32 (p : Int), .string tag] 55) = W0 := ⟨_, rfl⟩
  rw [hW0] at hb hg
  have HW0 : Hid _ := hW0
  have HB0 : Hid (Below w.heap.size w W0) := hb
  have HPg : Hid (∀ _ : True, _) := fun _ => vpage_any Kt A v t p hp tag W0 (hv.below hb (Nat.le_refl _)) hk (hT.below hb (Nat.le_refl _))
  obtain ⟨-, -, f0, f1⟩ := hg.facts
  have m0 := hlt hg
  clear hb hg hW0 hv hk hT hp
  generalize pgE Kt v t p tag = OE at *
  generalize pgH Kt v t p tag = OH at *
  generalize pgS Kt v t p tag = OS at *
  obtain ⟨a, b', c, d⟩ := OH
  simp only [Rs.hv] at HPg
  go_enter Tryz.func24, Tryz.ntmps24
  go_wp2_with (first | (rw [HW0.out]; clear HW0))
  refine Calls.mono (HPg.out trivial) ?_
  rintro e w2 ⟨rfl, b2⟩
  have HB2 : Hid (Below w.heap.size w w2) := HB0.out.trans (b2.mono HB0.out.size)
  have b3 := below_new w2 (.cells #[.int .u32 a, .int .u32 b', .int .u32 c, .int .u64 d] 103)
  have HB3 : Hid (Below w.heap.size w (w2.alloc (.cells #[.int .u32 a, .int .u32 b', .int .u32 c, .int .u64 d] 103))) := HB2.out.trans (b3.mono HB2.out.size)
  clear b2 b3 HPg f0 f1 m0
  go_wp2_with fail
  go_ret2
  exact ⟨rfl, HB3.out⟩
set_option maxRecDepth 100000 in
set_option maxHeartbeats 4000000 in
theorem gen_any (Kt : Nat → Int) (A : Pl) (v : Vs) (t : St) (p : Nat) (hp : p ≤ 4294967295) (tag : ByteArray) (w : World) (hv : Vlt w A v t) (hk : Ok t) (hT : Rs.Tb Kt w) :
    Calls Tryz.prog 26 #[pt A.g, rf p tag] w fun e w' => e = .returned (.tuple #[.int .u32 (pgH Kt v t p tag).2.1, .int .i64 (pgE Kt v t p tag)]) ∧ Below w.heap.size w w' := by
  have hb := below_new w (.cells #[.int .u32 (p : Int), .string tag] 55)
  have hg : FB w.heap.size (p : Int) tag (w.alloc (.cells #[.int .u32 (p : Int), .string tag] 55)) := heap_alloc_new w _
  obtain ⟨W0, hW0⟩ : ∃ W0, w.alloc (.cells #[.int .u32 (p : Int), .string tag] 55) = W0 := ⟨_, rfl⟩
  rw [hW0] at hb hg
  have HW0 : Hid _ := hW0
  have HB0 : Hid (Below w.heap.size w W0) := hb
  have HPg : Hid (∀ _ : True, _) := fun _ => vpage_any Kt A v t p hp tag W0 (hv.below hb (Nat.le_refl _)) hk (hT.below hb (Nat.le_refl _))
  obtain ⟨-, -, f0, f1⟩ := hg.facts
  have m0 := hlt hg
  clear hb hg hW0 hv hk hT hp
  generalize pgE Kt v t p tag = OE at *
  generalize pgH Kt v t p tag = OH at *
  generalize pgS Kt v t p tag = OS at *
  obtain ⟨a, b', c, d⟩ := OH
  simp only [Rs.hv] at HPg
  go_enter Tryz.func26, Tryz.ntmps26
  go_wp2_with (first | (rw [HW0.out]; clear HW0))
  refine Calls.mono (HPg.out trivial) ?_
  rintro e w2 ⟨rfl, b2⟩
  have HB2 : Hid (Below w.heap.size w w2) := HB0.out.trans (b2.mono HB0.out.size)
  have b3 := below_new w2 (.cells #[.int .u32 a, .int .u32 b', .int .u32 c, .int .u64 d] 103)
  have HB3 : Hid (Below w.heap.size w (w2.alloc (.cells #[.int .u32 a, .int .u32 b', .int .u32 c, .int .u64 d] 103))) := HB2.out.trans (b3.mono HB2.out.size)
  clear b2 b3 HPg f0 f1 m0
  go_wp2_with fail
  go_ret2
  exact ⟨rfl, HB3.out⟩
/-- One is given again. -/
def give (v : Vs) (p : Nat) : Vs := { v with tk := tput v.tk p none, nt := if (v.tk p).isSome = true then v.nt - 1 else v.nt }
set_option maxRecDepth 100000 in
set_option maxHeartbeats 4000000 in
theorem give_ok (A : Pl) (v : Vs) (t : St) (p : Nat) (w : World) (hv : Vlt w A v t) (hk : Ok t) (h2 : 2 ≤ p) (hn : p < t.n) (ht : (v.tk p).isSome = true) :
    Calls Tryz.prog 28 #[pt A.g, .int .u32 (p : Int)] w fun e w' => e = .returned (.int .i64 0) ∧ Vlt w' A (give v p) t ∧ But A.has w w' := by
  have HV : Hid (Vlt w A v t) := hv
  have HN : Hid (∀ _ : True, _) := fun _ => vnone_any A v t w hv
  have n1 := hk.n1
  have HPl : Hid (∀ _ : True, _) := fun _ => visPlace_any A v t p (by omega) w hv hk
  rw [decide_eq_true h2, decide_eq_true hn, Bool.and_self] at HPl
  have HTk : Hid (∀ _ : True, _) := fun _ => visTaken_any A v t p w hv
  rw [ht] at HTk
  clear hv hk h2 hn ht n1
  go_enter Tryz.func28, Tryz.ntmps28
  go_wp2_with fail
  refine Calls.mono (HN.out trivial) ?_
  rintro e w1 ⟨rfl, hw1⟩
  have hw1' := hw1.symm
  clear hw1 HN
  subst hw1'
  go_wp2_with fail
  refine Calls.mono (HPl.out trivial) ?_
  rintro e w1 ⟨rfl, hw1⟩
  have hw1' := hw1.symm
  clear hw1 HPl
  subst hw1'
  go_wp2_with fail
  refine Calls.mono (HTk.out trivial) ?_
  rintro e w2 ⟨rfl, b2⟩
  have HV2 : Hid (Vlt w2 A v t) := HV.out.below b2 (Nat.le_refl _)
  have HB2 : Hid (But A.has w w2) := But.of_below b2
  clear b2 HTk HV
  obtain ⟨hs2, -⟩ := HV2.out.self
  obtain ⟨⟨-, -, -, -, -, c5⟩, -⟩ := c6_of hs2
  obtain ⟨W3, hrun, hm3, b3, hz3⟩ := HV2.out.map.drop p 0
  have hst3 := HV2.out.take_step hm3 b3
  have HV3 : Hid (Vlt W3 A (give v p) t) := hst3.1
  have HB3 : Hid (But A.has w W3) := HB2.out.trans hst3.2
  have lg := HV2.out.lt.1
  clear hs2 hm3 b3 hst3 HV2 HB2 hz3
  go_wp2_with fail
  go_ret
  exact ⟨rfl, HV3.out, HB3.out⟩
set_option maxRecDepth 100000 in
set_option maxHeartbeats 4000000 in
theorem seals_any (A : Pl) (v : Vs) (t : St) (w : World) (hv : Vlt w A v t) :
    Calls Tryz.prog 18 #[pt A.g] w fun e w' => e = .returned (.int .u64 (v.seals : Int)) ∧ w' = w := by
  have HN : Hid (∀ _ : True, _) := fun _ => vnone_any A v t w hv
  obtain ⟨hs2, -⟩ := hv.self
  obtain ⟨⟨-, -, -, -, c4, -⟩, -⟩ := c6_of hs2
  have lg := hv.lt.1
  clear hv hs2
  go_enter Tryz.func18, Tryz.ntmps18
  go_wp2_with fail
  refine Calls.mono (HN.out trivial) ?_
  rintro e w1 ⟨rfl, hw1⟩
  have hw1' := hw1.symm
  clear hw1 HN
  subst hw1'
  go_wp2_with fail
  go_ret
  exact ⟨rfl, rfl⟩
end Go.Proofs.YtheheaflebkipaaGreatDoor.Rv
/- Clone of keys, Turn. -/
namespace Go.Proofs.YtheheaflebkipaaGreatDoor.Rv
open Go.RowKit Go.Lib
open Go.Proofs.YtheheaflebkipaaGreatDoor.Rd (But St Ok Dev Dv pt below_new natOf)
set_option maxRecDepth 100000 in
theorem list_append {P : Program} {ops : Array Oper} {rest : List Oper} {o : Oper} {a : Act} {w : World} {Q : Exit → Act → World → Prop} (hgd : o.guard = none) (t u : TypeId) (s x : Operand) (ho : o.op = .call { callee := .builtin .append, args := #[s, x], argTypes := #[t, u] })
    {vs vx v' : Value} {w' : World} (hs : a.eval s = vs) (hx : a.eval x = vx) (hrun : (Builtin.append_ #[t, u] o.type #[vs, vx]).run P w = .ok v' w') (h : wpList P ops Q rest (a.put o.dst v') w') : wpList P ops Q (o :: rest) a w :=
  wpList_plain hgd fun _ hK => by
    unfold Oper.wp execOp
    simp only [ho, resolve, invoke, builtin, Sem.run_bind, Sem.run_pure, Result.andThen_ok, List.map_toArray, List.map_cons, List.map_nil, hs, hx, hrun]
    exact hK _ _ h
set_option maxRecDepth 100000 in
theorem not_nil (a : Addr) (n c : Nat) (w : World) : (binOp .eql 39 (.slice (some a) n c) (.slice none 0 0)).run Tryz.prog w = .ok (.bool false) w := by kernel_rfl
set_option maxRecDepth 100000 in
theorem own_fresh {w : World} {base n : Nat} {o : Option Addr} {m cap : Nat} {t : TypeId} {k : Nat} {cs : List Value} (h : w.ownsRow base t k (.slice o m cap) n cs) : ∀ b off, o = some ⟨b, off, none⟩ → base ≤ b := by
  intro b off e
  rcases h.2 with ⟨h1, -⟩ | ⟨g, cap', cur, h1, h2, -⟩
  · cases h1; cases e
  · cases h1; cases e; exact h2
set_option maxRecDepth 100000 in
set_option maxHeartbeats 1000000 in
theorem cloneK_any (l : List Rk.Ky) (o : Option Addr) (cap : Nat) (w : World) (hr : Rk.Ring w o cap l) (hne : l ≠ []) (hmax : l.length ≤ 500) :
    Calls Tryz.prog 58 #[.slice o l.length cap] w fun e w' => ∃ o' cap', e = .returned (.slice o' l.length cap') ∧ Rk.Ring w' o' cap' l ∧ (∀ b off, o' = some ⟨b, off, none⟩ → w.heap.size ≤ b) ∧ Below w.heap.size w w' := by
  obtain ⟨b, off, rfl, hb, _⟩ := hr.2.2.2 hne
  have hb0 := below_new w (.cells #[] 99)
  have hown : (w.alloc (.cells #[] 99)).ownsRow w.heap.size 99 2 (.slice (some ⟨w.heap.size, 0, none⟩) 0 0) 0 (Rk.cellsOf []) :=
    ⟨by simp [Rk.cellsOf], .inr ⟨w.heap.size, 0, #[], rfl, Nat.le_refl _, heap_alloc_new w _, Nat.le_refl _, by decide, rfl, rfl⟩⟩
  obtain ⟨v', W', hrun, a1, a2⟩ := Rk.append_own (w.alloc (.cells #[] 99)) w.heap.size 0 (.slice (some ⟨w.heap.size, 0, none⟩) 0 0) (some ⟨b, off, none⟩) cap [] l hown (by simp) (hr.below hb0 (Nat.le_refl _)) (by simp; omega)
  obtain ⟨hn, o', cap', rfl, hring⟩ := Rk.ring_of_own a1
  simp only [List.nil_append] at hring hrun
  have HB : Hid (Below w.heap.size w W') := hb0.grown a2 (by simp) fun k ek => by simp [Value.ownBlock] at ek; omega
  have HF : Hid (∀ b off, o' = some ⟨b, off, none⟩ → w.heap.size ≤ b) := own_fresh a1
  have HR : Hid (Rk.Ring W' o' cap' l) := hring
  have hnn := fun w => not_nil ⟨b, off, none⟩ l.length cap w
  clear a1 a2 hown hb0 hr hring hn
  go_enter Tryz.func58, Tryz.ntmps58
  go_wp2_with (refine list_append rfl 39 39 (.tmp 5) (.tmp 6) rfl rfl rfl hrun ?_)
  go_ret
  exact ⟨o', cap', rfl, HR.out, HF.out, HB.out⟩
set_option maxRecDepth 100000 in
theorem fe_ne {l : List Rk.Ky} {g : Int} (h : Rk.feS l g = 0) : l ≠ [] ∧ l.length ≤ 16 := by
  obtain ⟨h1, h2, -⟩ := Rs.fe_zero l g h
  refine ⟨fun e => ?_, ((Rk.right_iff l).1 h1).1⟩
  subst e
  cases h2
/-- A vault with another ring. -/
def turn (v : Vs) (l : List Rk.Ky) (g : Int) : Vs := { v with ring := l, gen := g }
def Pl.at' (A : Pl) (o : Option Addr) (cap : Nat) : Pl := { A with o := o, cap := cap }
set_option maxRecDepth 100000 in
theorem Vlt.turned {w : World} {A : Pl} {v : Vs} {t : St} (h : Vlt w A v t) (l : List Rk.Ky) (g : Int) (o : Option Addr) (cap : Nat) (hr : Rk.Ring w o cap l) (hn : ∀ b off, o = some ⟨b, off, none⟩ → l ≠ [] → ¬ A.has b) :
    Vlt ((w.setCell ⟨A.g, 1, none⟩ (.slice o l.length cap)).setCell ⟨A.g, 2, none⟩ (.int .u32 g)) (A.at' o cap) (turn v l g) t ∧ But (fun k => k = A.g) w ((w.setCell ⟨A.g, 1, none⟩ (.slice o l.length cap)).setCell ⟨A.g, 2, none⟩ (.int .u32 g)) := by
  have hb : But (fun k => k = A.g) w ((w.setCell ⟨A.g, 1, none⟩ (.slice o l.length cap)).setCell ⟨A.g, 2, none⟩ (.int .u32 g)) := (But.set (S := fun k => k = A.g) w A.g 1 (.slice o l.length cap) rfl).trans (But.set (S := fun k => k = A.g) _ A.g 2 (.int .u32 g) rfl)
  have ho : ∀ k, k ≠ A.g → ((w.setCell ⟨A.g, 1, none⟩ (.slice o l.length cap)).setCell ⟨A.g, 2, none⟩ (.int .u32 g)).heap[k]? = w.heap[k]? := fun k hk => by
    rw [Below.heap_setCell _ _ _ _ (by exact hk), Below.heap_setCell _ _ _ _ (by exact hk)]
  have hr' : Rg w (A.at' o cap) (turn v l g) := ⟨hr, hn⟩
  refine ⟨⟨⟨?_, hr'.same hb.size (fun k hk hn => hb.block k hk fun e => hn (.inl e))⟩, h.map.same (ho _ fun e => h.gt e.symm), h.dev.same (ho _ fun e => h.gd (.inl e.symm)) (ho _ fun e => h.gd (.inr (.inl e.symm))) (ho _ fun e => h.gd (.inr (.inr e.symm))), h.gt, h.gd, h.td, h.no1, h.no2⟩, hb⟩
  exact Rd.set_at _ A.g 2 _ _ _ _ (Rd.set_at w A.g 1 _ _ _ _ h.self.1)
set_option maxRecDepth 100000 in
set_option maxHeartbeats 4000000 in
theorem turn_ok (A : Pl) (v : Vs) (t : St) (l : List Rk.Ky) (g : Int) (o : Option Addr) (cap : Nat) (w : World) (hv : Vlt w A v t) (hr : Rk.Ring w o cap l) (h0 : Rk.feS l g = 0) :
    Calls Tryz.prog 29 #[pt A.g, .slice o l.length cap, .int .u32 g] w fun e w' => e = .returned (.int .i64 0) ∧ ∃ o' cap', Vlt w' (A.at' o' cap') (turn v l g) t ∧ But (fun k => k = A.g) w w' := by
  have HV : Hid (Vlt w A v t) := hv
  have HR : Hid (Rk.Ring w o cap l) := hr
  have HN : Hid (∀ _ : True, _) := fun _ => vnone_any A v t w hv
  have HF : Hid (∀ _ : True, _) := fun _ => Rk.find_any l g o cap w hr
  rw [h0] at HF
  have HC : Hid (∀ W, Rk.Ring W o cap l → _) := fun W hW => cloneK_any l o cap W hW (fe_ne h0).1 (by have := (fe_ne h0).2; omega)
  obtain ⟨⟨ka, kb⟩, hkk⟩ : ∃ k, Rk.fkS l g = k := ⟨_, rfl⟩
  rw [hkk] at HF
  simp only [Rk.kv] at HF
  have HLT : Hid (∀ k, A.has k → k < w.heap.size) := fun k hk => hv.has_lt hk
  clear hv hr h0 hkk
  go_enter Tryz.func29, Tryz.ntmps29
  go_wp2_with fail
  refine Calls.mono (HN.out trivial) ?_
  rintro e w1 ⟨rfl, hw1⟩
  have hw1' := hw1.symm
  clear hw1 HN
  subst hw1'
  go_wp2_with fail
  refine Calls.mono (HF.out trivial) ?_
  rintro e w2 ⟨rfl, b2⟩
  have b3 := below_new w2 (.cells #[.int .u32 ka, .string kb] 99)
  obtain ⟨W3, hW3⟩ : ∃ W3, w2.alloc (.cells #[.int .u32 ka, .string kb] 99) = W3 := ⟨_, rfl⟩
  rw [hW3] at b3
  have HW3 : Hid _ := hW3
  have HB3 : Hid (Below w.heap.size w W3) := b2.trans (b3.mono b2.size)
  clear b2 b3 HF hW3
  go_wp2_with (first | (rw [HW3.out]; clear HW3))
  refine Calls.mono (HC.out _ (HR.out.below HB3.out (Nat.le_refl _))) ?_
  rintro e w4 ⟨o4, cap4, rfl, hr4, hf4, b4⟩
  have HB4 : Hid (Below w.heap.size w w4) := HB3.out.trans (b4.mono HB3.out.size)
  have hv4 := HV.out.below HB4.out (Nat.le_refl _)
  have hst := hv4.turned l g o4 cap4 hr4 (fun b off e hl hh => by have h1 := hf4 b off e; have h2 := HLT.out b hh; have := HB3.out.size; omega)
  obtain ⟨c6, cf6⟩ := c6_of hv4.self.1
  have z1 := cf6 1
  have z2 : (w4.setCell ⟨A.g, 1, none⟩ (.slice o4 l.length cap4)).frozen? ⟨A.g, 2, none⟩ = false := frozen_of_row _ _ _ _ _ (Rd.set_at w4 A.g 1 _ _ _ (.slice o4 l.length cap4) hv4.self.1)
  have d2 : (w4.setCell ⟨A.g, 1, none⟩ (.slice o4 l.length cap4)).cell? ⟨A.g, 2, none⟩ = some (.int .u32 v.gen) := by rw [cell_of_row _ _ _ _ _ _ (Rd.set_at w4 A.g 1 _ _ _ (.slice o4 l.length cap4) hv4.self.1)]; rfl
  have d1 := c6.2.1
  have lg := hv4.lt.1
  obtain ⟨W5, hW5⟩ : ∃ W5, (w4.setCell ⟨A.g, 1, none⟩ (.slice o4 l.length cap4)).setCell ⟨A.g, 2, none⟩ (.int .u32 g) = W5 := ⟨_, rfl⟩
  rw [hW5] at hst
  have HW5 : Hid _ := hW5
  have HV5 : Hid (Vlt W5 (A.at' o4 cap4) (turn v l g) t ∧ But (fun k => k = A.g) w W5) := ⟨hst.1, but_below HB4.out hst.2⟩
  clear hW5 hst hv4 hr4 hf4 b4 c6 cf6 HC HB3 HV HR
  go_wp2_with (first | (rw [HW5.out]; clear HW5))
  go_ret
  exact ⟨rfl, o4, cap4, HV5.out.1, HV5.out.2⟩
set_option maxRecDepth 100000 in
set_option maxHeartbeats 4000000 in
theorem turn_no (A : Pl) (v : Vs) (t : St) (l : List Rk.Ky) (g : Int) (o : Option Addr) (cap : Nat) (w : World) (hv : Vlt w A v t) (hr : Rk.Ring w o cap l) (h0 : Rk.feS l g ≠ 0) :
    Calls Tryz.prog 29 #[pt A.g, .slice o l.length cap, .int .u32 g] w fun e w' => e = .returned (.int .i64 (Rk.feS l g)) ∧ Below w.heap.size w w' := by
  have HN : Hid (∀ _ : True, _) := fun _ => vnone_any A v t w hv
  have HF : Hid (∀ _ : True, _) := fun _ => Rk.find_any l g o cap w hr
  generalize Rk.feS l g = E at *
  obtain ⟨⟨ka, kb⟩, hkk⟩ : ∃ k, Rk.fkS l g = k := ⟨_, rfl⟩
  rw [hkk] at HF
  simp only [Rk.kv] at HF
  have hE1 : decide (E = 0) = false := decide_eq_false h0
  have hE2 : (E == 0) = false := by simpa using h0
  have hE3 : (E != 0) = true := by simpa using h0
  clear hv hr h0 hkk
  go_enter Tryz.func29, Tryz.ntmps29
  go_wp2_with fail
  refine Calls.mono (HN.out trivial) ?_
  rintro e w1 ⟨rfl, hw1⟩
  have hw1' := hw1.symm
  clear hw1 HN
  subst hw1'
  go_wp2_with fail
  refine Calls.mono (HF.out trivial) ?_
  rintro e w2 ⟨rfl, b2⟩
  have b3 := below_new w2 (.cells #[.int .u32 ka, .string kb] 99)
  have HB3 : Hid (Below w.heap.size w (w2.alloc (.cells #[.int .u32 ka, .string kb] 99))) := b2.trans (b3.mono b2.size)
  clear b2 b3 HF
  go_wp2_with fail
  go_ret
  exact ⟨rfl, HB3.out⟩
end Go.Proofs.YtheheaflebkipaaGreatDoor.Rv
/- New. -/
namespace Go.Proofs.YtheheaflebkipaaGreatDoor.Rv
open Go.RowKit Go.Lib
open Go.Proofs.YtheheaflebkipaaGreatDoor.Rd (But St Ok Dev Dv pt below_new natOf)
/-- The first blocks are taken. -/
def tkn (v : Vs) : Nat → Vs
  | 0 => v
  | k + 1 => take (tkn v k) k
def v00 (boot : Int) : Vs := ⟨[], 0, boot, 0, fun _ => none, 0⟩
def newV (l : List Rk.Ky) (g boot : Int) : Vs := tkn (turn (v00 boot) l g) 2
set_option maxRecDepth 100000 in
theorem newV_is (l : List Rk.Ky) (g boot : Int) : (newV l g boot).ring = l ∧ (newV l g boot).gen = g ∧ (newV l g boot).boot = boot ∧ (newV l g boot).seals = 0 ∧ (newV l g boot).nt = 2 ∧ (∀ p, ((newV l g boot).tk p).isSome = decide (p < 2)) := by
  refine ⟨rfl, rfl, rfl, rfl, rfl, fun p => ?_⟩
  simp only [newV, tkn, take, turn, v00, tput]
  by_cases h1 : p = 1
  · subst h1; rfl
  · by_cases h0 : p = 0
    · subst h0; rfl
    · rw [if_neg h1, if_neg h0, decide_eq_false (by omega)]; rfl
set_option maxRecDepth 100000 in
set_option maxHeartbeats 4000000 in
theorem vnew_ok (Kt : Nat → Int) (d b m : Nat) (t : St) (l : List Rk.Ky) (g boot : Int) (o : Option Addr) (cap : Nat) (w : World) (hd : Dev w d b m t) (hn1 : ¬ Dv d b m 3) (hn2 : ¬ Dv d b m 2) (hT : Rs.Tb Kt w) (hr : Rk.Ring w o cap l) (h0 : Rk.feS l g = 0) :
    Calls Tryz.prog 20 #[pt d, .slice o l.length cap, .int .u32 g, .int .u32 boot] w fun e w' => ∃ A : Pl, e = .returned (.tuple #[pt A.g, .int .i64 0]) ∧ Vlt w' A (newV l g boot) t ∧ (A.d = d ∧ A.b = b ∧ A.m = m) ∧ w.heap.size ≤ A.g ∧ w.heap.size ≤ A.tm ∧ Below w.heap.size w w' := by
  have ld := hd.lt
  have ht1 : 3 < w.heap.size := by obtain ⟨⟨_, _, h⟩, _⟩ := hT; exact hlt h
  have ht2 : 2 < w.heap.size := by obtain ⟨_, _, _, h⟩ := hT; exact hlt h
  have b1 := below_new w (.map #[] 0)
  have hm1 := Tk.made w
  have s1 : (w.alloc (.map #[] 0)).heap.size = w.heap.size + 1 := by simp
  have b2 := below_new (w.alloc (.map #[] 0)) (.cells #[pt d, .slice none 0 0, .int .u32 0, .int .u32 boot, .int .u64 0, .map (some w.heap.size)] 92)
  have g2 := heap_alloc_new (w.alloc (.map #[] 0)) (.cells #[pt d, .slice none 0 0, .int .u32 0, .int .u32 boot, .int .u64 0, .map (some w.heap.size)] 92)
  obtain ⟨W0, hW0⟩ : ∃ W0, (w.alloc (.map #[] 0)).alloc (.cells #[pt d, .slice none 0 0, .int .u32 0, .int .u32 boot, .int .u64 0, .map (some w.heap.size)] 92) = W0 := ⟨_, rfl⟩
  rw [hW0] at b2 g2
  rw [s1] at g2
  have HW0 : Hid _ := hW0
  have hb : Below w.heap.size w W0 := b1.trans (b2.mono b1.size)
  have HB0 : Hid (Below w.heap.size w W0) := hb
  have hv0 : Vlt W0 ⟨w.heap.size + 1, w.heap.size, d, b, m, none, 0⟩ (v00 boot) t := by
    refine ⟨⟨g2, Rk.nil_ring W0, fun b off e => by cases e⟩, hm1.same (b2.block _ (by omega)), hd.below hb (Nat.le_refl _), by simp, ?_, ?_, ?_, ?_⟩
    · rintro (e | e | e) <;> (simp only at e; omega)
    · rintro (e | e | e) <;> (simp only at e; omega)
    · rintro (e | e | e)
      · simp only at e; omega
      · simp only at e; omega
      · exact hn1 e
    · rintro (e | e | e)
      · simp only at e; omega
      · simp only at e; omega
      · exact hn2 e
  have HTn : Hid (∀ _ : True, _) := fun _ => turn_ok ⟨w.heap.size + 1, w.heap.size, d, b, m, none, 0⟩ (v00 boot) t l g o cap W0 hv0 (hr.below hb (Nat.le_refl _)) h0
  have HLg : Hid (∀ o' cap' W V, Vlt W (Pl.at' ⟨w.heap.size + 1, w.heap.size, d, b, m, none, 0⟩ o' cap') V t → V6 (w.heap.size + 1) (pt d) (.slice o' V.ring.length cap') (.int .u32 V.gen) (.int .u32 V.boot) (.int .u64 (V.seals : Int)) (.map (some w.heap.size)) W ∧ w.heap.size + 1 < W.heap.size) := fun o' cap' W V h => ⟨v6_of h.self.1, h.lt.1⟩
  obtain ⟨PST, hPST⟩ : ∃ PST : Ending → World → Prop, (fun e w' => ∃ A : Pl, e = .returned (.tuple #[pt A.g, .int .i64 0]) ∧ Vlt w' A (newV l g boot) t ∧ (A.d = d ∧ A.b = b ∧ A.m = m) ∧ w.heap.size ≤ A.g ∧ w.heap.size ≤ A.tm ∧ Below w.heap.size w w') = PST := ⟨_, rfl⟩
  rw [hPST]
  have HPS : Hid (∀ o' cap' w', Vlt w' (Pl.at' ⟨w.heap.size + 1, w.heap.size, d, b, m, none, 0⟩ o' cap') (tkn (turn (v00 boot) l g) 2) t → Below w.heap.size w w' → PST (.returned (.tuple #[pt (w.heap.size + 1), .int .i64 0])) w') := fun o' cap' w' h1 h2 => by rw [← hPST]; exact ⟨_, rfl, h1, ⟨rfl, rfl, rfl⟩, by simp [Pl.at'], by simp [Pl.at'], h2⟩
  clear hd hn1 hn2 hT hr h0 ht1 ht2 b1 hm1 s1 b2 g2 hW0 hb hv0 hPST ld
  have hmm : (Instr.makeMap 90 none).run Tryz.prog w = .ok (.map (some w.heap.size)) (w.alloc (.map #[] 0)) := rfl
  go_enter Tryz.func20, Tryz.ntmps20
  go_wp2_with (first | (rw [HW0.out]; clear HW0))
  refine Calls.mono (HTn.out trivial) ?_
  rintro e w1 ⟨rfl, o1, cap1, hv1, b1⟩
  have HB1 : Hid (Below w.heap.size w w1) := HB0.out.trans (b1.below (fun k hk => by have hk' : k = w.heap.size + 1 := hk; omega) HB0.out.size)
  have HV1 : Hid (Vlt w1 (Pl.at' ⟨w.heap.size + 1, w.heap.size, d, b, m, none, 0⟩ o1 cap1) (turn (v00 boot) l g) t) := hv1
  clear hv1 b1 HTn
  go_wp2_with fail
  go_loopw [27] (fun iv wr => ∃ k : Nat, k ≤ 2 ∧ iv = .int .u32 (k : Int) ∧ Vlt wr (Pl.at' ⟨w.heap.size + 1, w.heap.size, d, b, m, none, 0⟩ o1 cap1) (tkn (turn (v00 boot) l g) k) t ∧ Below w.heap.size w wr) (fun iv _ => 2 - natOf iv)
  case atStart => exact ⟨0, by omega, rfl, HV1.out, HB1.out⟩
  case round =>
    obtain ⟨k, hk, rfl, hvk, hbk⟩ := hrel
    have HVk : Hid (Vlt wr (Pl.at' ⟨w.heap.size + 1, w.heap.size, d, b, m, none, 0⟩ o1 cap1) (tkn (turn (v00 boot) l g) k) t) := hvk
    have HBk : Hid (Below w.heap.size w wr) := hbk
    by_cases hk2 : k < 2
    · have q1 : (k : Int) < 2 := by omega
      obtain ⟨W4, hrun0, hm4, b4, hz4⟩ := hvk.map.update k ()
      have hrun : (Instr.mapUpdate 90 (.map (some w.heap.size)) (.int .u32 (k : Int)) (.agg #[])).run Tryz.prog wr = .ok () W4 := hrun0
      have hst4 := hvk.take_step hm4 b4
      have HV4 : Hid (Vlt W4 (Pl.at' ⟨w.heap.size + 1, w.heap.size, d, b, m, none, 0⟩ o1 cap1) (tkn (turn (v00 boot) l g) (k + 1)) t) := hst4.1
      have HB4 : Hid (Below w.heap.size w W4) := hbk.trans (b4.below (fun j hj => by have hj' : j = w.heap.size := hj; omega) hbk.size)
      obtain ⟨⟨-, -, -, -, -, c5⟩, lg⟩ := HLg.out _ _ _ _ hvk
      clear hvk hbk hm4 b4 hst4 hz4 hrun0
      go_wp2_with fail
      go_roundw
      case rel => exact ⟨k + 1, by omega, by go_num, HV4.out, HB4.out⟩
      case measure => simp [natOf]; omega
    · obtain rfl : k = 2 := by omega
      have q1 : ¬ (((2 : Nat) : Int) < 2) := by omega
      clear hvk hbk
      go_wp2_with fail
      exact HPS.out _ _ _ HVk.out HBk.out
end Go.Proofs.YtheheaflebkipaaGreatDoor.Rv
