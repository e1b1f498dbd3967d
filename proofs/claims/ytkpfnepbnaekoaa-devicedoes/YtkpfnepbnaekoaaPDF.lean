/- A map gone through; Flush. -/
import Derived.Test.YtkpfnepbnaekoaaPDE
namespace Go.Proofs.Ytkpfnepbnaekoaa.Rd
open Go.RowKit
open Go.ChangeMaps (setBlock)
/-- What a map's rounds have handed out. -/
noncomputable def took (es : Array MapEntry) (seen : Array Nat) (f : Nat → Option ByteArray) : Nat → Option ByteArray := fun p =>
  open Classical in if ∃ e ∈ es.toList, e.key = .int .u32 (p : Int) ∧ seen.contains e.born = true then f p else none
/-- The entries of a map of texts. -/
structure Ent (es : Array MapEntry) (clock : Nat) (f : Nat → Option ByteArray) : Prop where
  st : MapKept.Stamped es clock
  is : ∀ e ∈ es.toList, ∃ (p : Nat) (t : ByteArray), e.key = .int .u32 (p : Int) ∧ e.val = .agg #[.string t] ∧ f p = some t
  all : ∀ p t, f p = some t → ∃ e ∈ es.toList, e.key = .int .u32 (p : Int) ∧ e.val = .agg #[.string t]
set_option maxRecDepth 100000 in
theorem Pm.ent {w : World} {m : Nat} {f : Nat → Option ByteArray} (h : Pm w m f) : ∃ es clock, w.heap[m]? = some (.map es clock) ∧ Ent es clock f := by
  obtain ⟨es, cl, h1, h2, h3, h4⟩ := h
  exact ⟨es, cl, h1, h2, h3, h4⟩
set_option maxRecDepth 100000 in
theorem took_none (es : Array MapEntry) (f : Nat → Option ByteArray) : took es #[] f = fun _ => none := by
  funext p
  unfold took
  rw [if_neg]
  rintro ⟨e, _, _, h⟩
  simp at h
set_option maxRecDepth 100000 in
theorem Ent.born {es : Array MapEntry} {cl : Nat} {f : Nat → Option ByteArray} (h : Ent es cl f) {e x : MapEntry} (he : e ∈ es.toList) (hx : x ∈ es.toList) (hb : x.born = e.born) : x = e := by
  have hn := h.st.2.1
  obtain ⟨i, hi, rfl⟩ := List.mem_iff_getElem.1 he
  obtain ⟨j, hj, rfl⟩ := List.mem_iff_getElem.1 hx
  have : (es.toList.map (·.born))[j]'(by simpa using hj) = (es.toList.map (·.born))[i]'(by simpa using hi) := by simpa using hb
  rcases Nat.lt_trichotomy j i with hlt | heq | hlt
  · rw [List.Nodup, List.pairwise_iff_getElem] at hn
    exact absurd this (hn j i (by simpa using hj) (by simpa using hi) hlt)
  · subst heq; rfl
  · rw [List.Nodup, List.pairwise_iff_getElem] at hn
    exact absurd this.symm (hn i j (by simpa using hi) (by simpa using hj) hlt)
set_option maxRecDepth 100000 in
theorem took_push {es : Array MapEntry} {cl : Nat} {f : Nat → Option ByteArray} (h : Ent es cl f) (seen : Array Nat) {e : MapEntry} (he : e ∈ es.toList) {p : Nat} {t : ByteArray} (hk : e.key = .int .u32 (p : Int)) (hf : f p = some t) :
    took es (seen.push e.born) f = put (took es seen f) p (some t) := by
  funext q
  unfold took put
  by_cases hq : q = p
  · subst hq
    rw [if_pos rfl, if_pos ⟨e, he, hk, by simp⟩, hf]
  · rw [if_neg hq]
    have : (∃ x ∈ es.toList, x.key = .int .u32 (q : Int) ∧ (seen.push e.born).contains x.born = true) ↔ (∃ x ∈ es.toList, x.key = .int .u32 (q : Int) ∧ seen.contains x.born = true) := by
      constructor
      · rintro ⟨x, hx, h1, h2⟩
        refine ⟨x, hx, h1, ?_⟩
        simp at h2 ⊢
        rcases h2 with h2 | h2
        · exact h2
        · have := h.born he hx h2
          subst this
          rw [hk] at h1
          exact absurd (u32_inj h1).symm hq
      · rintro ⟨x, hx, h1, h2⟩
        exact ⟨x, hx, h1, by simp at h2 ⊢; exact .inl h2⟩
    by_cases hc : ∃ x ∈ es.toList, x.key = .int .u32 (q : Int) ∧ seen.contains x.born = true
    · simp only [if_pos hc]; rw [if_pos (this.2 hc)]
    · simp only [if_neg hc]; rw [if_neg (fun k => hc (this.1 k))]
set_option maxRecDepth 100000 in
theorem took_all {es : Array MapEntry} {cl : Nat} {f : Nat → Option ByteArray} (h : Ent es cl f) (seen : Array Nat) (h0 : (leftOf es seen).size = 0) : took es seen f = f := by
  funext p
  unfold took
  by_cases hc : ∃ x ∈ es.toList, x.key = .int .u32 (p : Int) ∧ seen.contains x.born = true
  · rw [if_pos hc]
  · rw [if_neg hc]
    cases hf : f p with
    | none => rfl
    | some t =>
      obtain ⟨e, he, e1, _⟩ := h.all p t hf
      exact absurd ⟨e, he, e1, all_seen es seen h0 e he⟩ hc
set_option maxRecDepth 100000 in
theorem iterSeen_of {w : World} {r : Nat} {a : Option Nat} {b c : Nat} {s : Array Nat} (h : w.heap[r]? = some (.mapIter a b s c)) : w.iterSeen r = s := by
  unfold World.iterSeen; rw [h]
/-- What Flush tells, and leaves. -/
def flushE (s : St) : Int := if opOk s then 0 else 71
def flushS (s : St) : St := if opOk s then { opS s with tx := holdS s, pd := fun _ => none } else opS s
set_option maxRecDepth 100000 in
theorem flushS_ok {s : St} (h : Ok s) : Ok (flushS s) := by
  unfold flushS
  split
  · have k := opS_ok h
    refine ⟨k.n0, k.n1, fun p hp => ?_, fun p t ht => by simp at ht, k.l0, k.l1, k.lc, k.c0, k.c1, k.b0, k.b1⟩
    simp only [(opS_tx s).2.2.2.1] at hp
    simp only [holdS]
    cases hf : s.pd p with
    | none => exact h.tx p hp
    | some t => exact (h.pd p t hf).2
  · exact opS_ok h
/-- The state of the loop. -/
def FL (es : Array MapEntry) (cl d b m it : Nat) (s : St) (W wr : World) (seen : Array Nat) : Prop :=
  wr.heap[it]? = some (.mapIter (some m) cl seen cl) ∧ wr.heap[m]? = some (.map es cl) ∧ wr.heap[d]? = some (.cells (dcells b m s) 75 (0, 0)) ∧ Row wr b s.n (fun p => (took es seen s.pd p).getD (s.tx p)) s.bad ∧ But (fun k => k = b) W wr
set_option maxRecDepth 100000 in
set_option maxHeartbeats 2000000 in
theorem flush_any (d b m : Nat) (s : St) (w : World) (h : Dev w d b m s) (hk : Ok s) :
    Calls Try.prog 23 #[pt d] w fun e w' => e = .returned (.int .i64 (flushE s)) ∧ Dev w' d b m (flushS s) ∧ But (Dv d b m) w w' := by
  have HD : Hid (Dev w d b m s) := h
  have HK : Hid (Ok s) := hk
  clear h hk
  go_enter Try.func23, Try.ntmps23
  go_wp2_with fail
  refine (operate_any d b m s w HD.out HK.out).mono ?_
  rintro e w1 ⟨rfl, d1, b1⟩
  have D1 : Hid _ := d1
  have B1 : Hid _ := b1
  cases ho : opOk s
  · have HE : Hid (flushE s = 71 ∧ flushS s = opS s) := by refine (?_ : flushE s = 71 ∧ flushS s = opS s); simp [flushE, flushS, ho]
    clear d1 b1 ho
    go_wp2_with fail
    go_ret
    exact ⟨by rw [HE.out.1]; rfl, by rw [HE.out.2]; exact D1.out, B1.out⟩
  · have HE : Hid (flushE s = 0 ∧ flushS s = { opS s with tx := holdS s, pd := fun _ => none }) := by refine (?_ : flushE s = 0 ∧ flushS s = { opS s with tx := holdS s, pd := fun _ => none }); simp [flushE, flushS, ho]
    have HT := opS_tx s
    have HK1 : Hid _ := opS_ok HK.out
    obtain ⟨es, cl, hm, he⟩ := d1.map.ent
    obtain ⟨c7, z7⟩ := d1.c7
    have hrg := run_range_map (P := Try.prog) w1 71 32 81 m es cl Try.underlying71 hm
    have HM : Hid _ := hm
    have HEN : Hid (Ent es cl (opS s).pd) := he
    clear d1 b1 ho hm he HT
    obtain ⟨s1, hs1⟩ : ∃ s1, opS s = s1 := ⟨_, rfl⟩
    rw [hs1] at D1 HE HK1 HEN
    go_wp2_with fail
    go_loopw [] (fun wr => ∃ seen, FL es cl d b m w1.heap.size s1 w1 wr seen) (fun wr => (leftOf es (wr.iterSeen w1.heap.size)).size)
    case atStart =>
      refine ⟨#[], heap_alloc_new w1 _, (Below.heap_alloc _ _ _ D1.out.lt.2.2).trans HM.out, (Below.heap_alloc _ _ _ D1.out.lt.1).trans D1.out.self, ?_, But.of_below (below_new w1 _)⟩
      rw [took_none]
      exact D1.out.row.same (Below.heap_alloc _ _ _ D1.out.lt.2.1)
    case round =>
      obtain ⟨seen, h1, h2, h3, h4, h5⟩ := hrel
      have hdm := D1.out.dm
      have hbm := D1.out.bm
      have hdb := D1.out.db
      obtain ⟨hd1, hb1, hm1⟩ := D1.out.lt
      rcases run_next_at (P := Try.prog) wr 0 w1.heap.size m cl cl seen es cl h1 h2 HEN.out.st.1 (Nat.le_refl _) with ⟨h0, hrun⟩ | ⟨e, he, w2, hal, hrun⟩
      · have hnx : ∀ ty, (Instr.next (.pointer (some ⟨w1.heap.size, 0, none⟩)) false ty).run Try.prog wr = _ := fun _ => hrun
        have c7' : wr.cell? ⟨d, 7, none⟩ = some (.map (some m)) := by rw [cell_of_row _ _ _ _ _ _ h3]; rfl
        have pmr : Pm wr m s1.pd := ⟨es, cl, h2, HEN.out.st, HEN.out.is, HEN.out.all⟩
        obtain ⟨w3, hcl, pm3, b3, z3⟩ := pmr.clear 0
        rw [took_all HEN.out seen h0] at h4
        have H3 : Hid _ := h3
        have H4 : Hid (Row wr b s1.n (fun p => (s1.pd p).getD (s1.tx p)) s1.bad) := h4
        have H5 : Hid _ := h5
        have HP : Hid _ := pm3
        have B3 : Hid _ := b3
        have hdw : d < wr.heap.size := (Array.getElem?_eq_some_iff.1 h3).1
        have hbw : b < wr.heap.size := h4.lt
        clear h1 h2 h3 h4 h5 pm3 b3 pmr hrun
        go_wp2_with fail
        go_ret
        have hb := B3.out
        have hB : But (fun k => k = b ∨ k = m) w1 w3 := (H5.out.more fun k e => .inl e).trans (hb.more fun k e => .inr e)
        refine ⟨by rw [HE.out.1]; rfl, ?_, B1.out.trans (hB.more fun k e => .inr e)⟩
        rw [HE.out.2]
        have hs : holdS s = fun p => (s1.pd p).getD (s1.tx p) := by funext p; rw [← hs1, (opS_tx s).1, (opS_tx s).2.2.1]; rfl
        rw [hs]
        exact ⟨(hb.block d hdw hdm).trans H3.out, Row.same H4.out (hb.block b hbw hbm), HP.out, hdb, hdm, hbm⟩
      · obtain ⟨p, t, k1, k2, k3⟩ := HEN.out.is e (mem_left he).1
        have hpn : p < s1.n := (HK1.out.pd p t k3).1
        rw [k1, k2] at hrun
        have hnx : ∀ ty, (Instr.next (.pointer (some ⟨w1.heap.size, 0, none⟩)) false ty).run Try.prog wr = _ := fun _ => hrun
        obtain ⟨W2, hW2⟩ : ∃ W2, setBlock w2 w1.heap.size (.mapIter (some m) cl (seen.push e.born) cl) = W2 := ⟨_, rfl⟩
        rw [hW2] at hnx
        have hh : ∀ k, k ≠ w1.heap.size → W2.heap[k]? = wr.heap[k]? := fun k hk => by
          rw [← hW2, setBlock_other _ _ _ hk]; rcases hal with rfl | rfl <;> rfl
        have g1 : W2.heap[w1.heap.size]? = some (.mapIter (some m) cl (seen.push e.born) cl) := by
          rw [← hW2]; refine setBlock_same (o := .mapIter (some m) cl seen cl) ?_; rcases hal with rfl | rfl <;> exact h1
        have g2 := (hh m (by omega)).trans h2
        have g3 := (hh d (by omega)).trans h3
        have g4 := h4.same (hh b (by omega))
        have g5 : But (fun k => k = b) w1 W2 := by
          have e1 : But (fun k => k = b) w1 w2 := by
            rcases hal with rfl | rfl
            · exact h5
            · exact ⟨h5.os, h5.tape, h5.output, h5.size, h5.block⟩
          refine ⟨?_, ?_, ?_, ?_, fun k hk hb => (hh k (by omega)).trans (h5.block k hk hb)⟩
          · rw [← hW2]; exact e1.os
          · rw [← hW2]; exact e1.tape
          · rw [← hW2]; exact e1.output
          · rw [← hW2]; simpa [ChangeMaps.setBlock] using e1.size
        have hen := run_entry_at (P := Try.prog) W2 w1.heap.size m cl seen es cl e g1 g2 (mem_left he).1 HEN.out.st.2.1
        rw [k1, k2] at hen
        have HS : Hid (wr.iterSeen w1.heap.size = seen) := iterSeen_of h1
        have G1 : Hid _ := g1
        have G2 : Hid _ := g2
        have G3 : Hid _ := g3
        have G4 : Hid _ := g4
        have G5 : Hid _ := g5
        have HL : Hid _ := he
        have HT : Hid _ := took_push HEN.out seen (mem_left he).1 k1 k3
        have c6 : W2.cell? ⟨d, 6, none⟩ = some (.slice (some ⟨b, 0, none⟩) s1.n s1.n) := by rw [cell_of_row _ _ _ _ _ _ g3]; rfl
        obtain ⟨e1, e2, y1, y2⟩ := g4.cells p hpn
        have q1 : (p : Int) < (s1.n : Int) := by omega
        have q0 : (0 : Int) ≤ (p : Int) := by omega
        have hdw : d < W2.heap.size := (Array.getElem?_eq_some_iff.1 g3).1
        have hbw : b < W2.heap.size := g4.lt
        generalize (took es seen s1.pd p).getD (s1.tx p) = old at e1
        clear h1 h2 h3 h4 h5 hrun hW2 hh g1 g2 g3 g4 g5 he k3 k1 k2 hal c7 z7 hrg
        go_wp2_with fail
        have c6' : (W2.alloc (.cells #[.string t] 81)).cell? ⟨d, 6, none⟩ = some (.slice (some ⟨b, 0, none⟩) s1.n s1.n) := (World.cell?_of_block (a := ⟨d, 6, none⟩) (Below.heap_alloc _ _ _ hdw)).trans c6
        have e1' : (W2.alloc (.cells #[.string t] 81)).cell? ⟨b, p * 2, none⟩ = some (.string old) := (World.cell?_of_block (a := ⟨b, p * 2, none⟩) (Below.heap_alloc _ _ _ hbw)).trans e1
        have x1 : (W2.alloc (.cells #[.string t] 81)).cell? ⟨W2.heap.size, 0, none⟩ = some (.string t) := by rw [cell_of_row _ _ _ _ _ _ (heap_alloc_new W2 _)]; rfl
        have G4' : Hid _ := Row.setText (Row.same G4.out (Below.heap_alloc W2 (.cells #[.string t] 81) _ hbw)) p hpn t
        have y1' := ((Row.same G4.out (Below.heap_alloc W2 (.cells #[.string t] 81) _ hbw)).cells p hpn).2.2.1
        have K1 : Hid (Below W2.heap.size W2 (W2.alloc (.cells #[.string t] 81))) := below_new W2 _
        obtain ⟨W3, hW3⟩ : ∃ W3, W2.alloc (.cells #[.string t] 81) = W3 := ⟨_, rfl⟩
        rw [hW3] at c6' e1' x1 G4' y1' K1
        simp only [hW3]
        clear hW3 c6 e1 e2 y1 y2
        go_region
        go_wp2_with fail
        go_roundw
        case rel =>
          have hk := K1.out
          have hsz := hk.size
          have fr : ∀ k, k < W2.heap.size → k ≠ b → (W3.setCell ⟨b, p * 2, none⟩ (.string t)).drew.heap[k]? = W2.heap[k]? := fun k hk1 hk2 => (Below.heap_setCell W3 ⟨b, p * 2, none⟩ _ k hk2).trans (hk.block k hk1)
          have hs1' := G5.out.size
          have hi : w1.heap.size < W2.heap.size := (Array.getElem?_eq_some_iff.1 G1.out).1
          refine ⟨seen.push e.born, (fr _ hi (by omega)).trans G1.out, (fr m (by omega) (by omega)).trans G2.out, (fr d hdw hdb).trans G3.out, ?_, ?_⟩
          · rw [HT.out]
            have g : Row (W3.setCell ⟨b, p * 2, none⟩ (.string t)).drew b s1.n (at' (fun p => (took es seen s1.pd p).getD (s1.tx p)) p t) s1.bad := G4'.out
            have e2 : (fun q => (put (took es seen s1.pd) p (some t) q).getD (s1.tx q)) = at' (fun p => (took es seen s1.pd p).getD (s1.tx p)) p t := by
              funext q
              unfold put at'
              by_cases hq : q = p
              · simp [hq]
              · simp [hq]
            rw [e2]
            exact g
          · refine ⟨hk.os.trans G5.out.os, hk.tape.trans G5.out.tape, hk.output.trans G5.out.output, ?_, fun k hk1 hk2 => (fr k (by omega) hk2).trans (G5.out.block k hk1 hk2)⟩
            show _ ≤ (W3.setCell ⟨b, p * 2, none⟩ (.string t)).heap.size
            simp only [World.setCell, Array.size_modify]
            omega
        case measure =>
          have hk := K1.out
          have hi : w1.heap.size < W2.heap.size := (Array.getElem?_eq_some_iff.1 G1.out).1
          have h2 : (W3.setCell ⟨b, p * 2, none⟩ (.string t)).drew.heap[w1.heap.size]? = some (.mapIter (some m) cl (seen.push e.born) cl) := ((Below.heap_setCell W3 ⟨b, p * 2, none⟩ _ _ (by simp only; omega)).trans (hk.block _ hi)).trans G1.out
          rw [iterSeen_of h2, HS.out]
          exact left_shrinks es seen e HL.out
end Go.Proofs.Ytkpfnepbnaekoaa.Rd
