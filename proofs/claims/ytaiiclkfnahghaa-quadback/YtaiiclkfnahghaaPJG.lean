/- What goes through rows, as one promise; how many they are. -/
import Derived.Test.YtaiiclkfnahghaaPJF
namespace Go.Proofs.Ytaiiclkfnahghaa.Rq
open Go.RowKit Go.Lib Go.Shelf
open Go.Proofs.Ytaiiclkfnahghaa.Rc
attribute [local go_sem] Oper.semAt_some
/-- A function that goes through these rows, whatever is done with them. -/
def RowsIter (w0 : World) (rs : List Rw) (gf : Nat) (lb : Array Value) : Prop :=
  ∀ (W1 : World) (_ : Below w0.heap.size w0 W1) (l : Nat) (R : (Nat → Prop) → Nat → World → Prop) (Rx : (Nat → Prop) → World → Prop) (own : Nat → Prop) (_ : ∀ j, own j → w0.heap.size ≤ j ∧ j < W1.heap.size)
    (_ : ∀ own k W W', R own k W → Kw W1.heap.size own W W' → R own k W') (_ : ∀ own W W', Rx own W → Kw W1.heap.size own W W' → Rx own W')
    (_ : ∀ own k W, k < rs.length → R own k W → (∀ j, own j → w0.heap.size ≤ j ∧ j < W.heap.size) → Below w0.heap.size w0 W → YieldAt Fence.wide 0 Try.prog l #[rv (rat rs k)] W (YPost R Rx own (k + 1) W))
    (_ : R own 0 W1), Calls Try.prog gf (#[.func (.yield l) #[] #[]] ++ lb) W1 fun e W' => (∃ v, e = .returned v) ∧ ∃ own', (R own' rs.length W' ∨ Rx own' W')
set_option maxRecDepth 100000 in
theorem rows1_eg : ∀ args w, (callFunc 75 args).run Try.prog w = .ok (.enter 75 args) w := enters_of Try.func75 (by kernel_rfl) rfl
set_option maxRecDepth 100000 in
theorem box1_set {W : World} {g : Nat} {v v' : Value} {t : TypeId} (h : W.heap[g]? = some (.cells #[v] t (0, 0))) : (W.setCell ⟨g, 0, none⟩ v').heap[g]? = some (.cells #[v'] t (0, 0)) := by
  have := heap_setCell_same W g 0 _ _ v' h
  simpa using this
set_option maxRecDepth 100000 in
theorem but_set (W : World) (g k : Nat) (v : Value) (own : Nat → Prop) (h : own g) : But own W (W.setCell ⟨g, k, none⟩ v) :=
  ⟨rfl, rfl, rfl, by simp [World.setCell], fun j _ hn => Below.heap_setCell _ _ _ _ (fun e => hn (by have e' : j = g := e; rw [e']; exact h))⟩
/-- What lies there within the count. -/
structure CJ (w : World) (own : Nat → Prop) (t : Nat) (W : World) : Prop where
  box : W.heap[w.heap.size]? = some (.cells #[.int .i64 (t : Int)] 3 (0, 0))
  bel : Below w.heap.size w W
  mine : own w.heap.size
  least : ∀ j, own j → w.heap.size ≤ j
set_option maxRecDepth 100000 in
theorem CJ.kw {w : World} {own : Nat → Prop} {t B : Nat} {W W' : World} (h : CJ w own t W) (hk : Kw B own W W') (hB : w.heap.size ≤ B) : CJ w own t W' :=
  ⟨(hk.block _ (Array.getElem?_eq_some_iff.1 h.box).1 (.inr h.mine)).trans h.box, h.bel.trans ⟨hk.os, hk.tape, hk.output, hk.size, fun j hj => hk.block j (Nat.lt_of_lt_of_le hj h.bel.size) (.inl (by omega))⟩, h.mine, h.least⟩
set_option maxRecDepth 100000 in
theorem CJ.set {w : World} {own : Nat → Prop} {t : Nat} {W : World} (h : CJ w own t W) : CJ w own (t + 1) (W.setCell ⟨w.heap.size, 0, none⟩ (.int .i64 ((t + 1 : Nat) : Int))) :=
  ⟨box1_set h.box, h.bel.trans ⟨rfl, rfl, rfl, by simp [World.setCell], fun j hj => Below.heap_setCell _ _ _ _ (fun e => by have e' : j = w.heap.size := e; omega)⟩, h.mine, h.least⟩
set_option maxRecDepth 100000 in
set_option maxHeartbeats 2000000 in
theorem count_any (w0 : World) (rs : List Rw) (gf : Nat) (lb : Array Value) (hit : RowsIter w0 rs gf lb) (heg : ∀ args w, (callFunc gf args).run Try.prog w = .ok (.enter gf args) w) (hmax : rs.length ≤ 1000) (w : World) (hw : Below w0.heap.size w0 w) :
    Calls Try.prog 41 #[.func (.func gf) #[] lb] w fun e w' => e = .returned (.int .i64 (rs.length : Int)) ∧ Below w.heap.size w w' := by
  have HIT : Hid (RowsIter w0 rs gf lb) := hit
  have HW : Hid (Below w0.heap.size w0 w) := hw
  have HM : Hid (rs.length ≤ 1000) := hmax
  clear hit hw hmax
  refine (callsIn_wide (n := 5)).1 ?_
  refine callsIn_of_wp_marks Try.func41 rfl trivial ?_ rfl
  simp only [Try.ntmps41, List.size_toArray, List.length_cons, List.length_nil, Nat.reduceAdd, Nat.reduceSub, Array.replicate_succ, Array.replicate_zero, List.push_toArray, List.append_toArray, List.nil_append, List.cons_append]
  gi_wp2
  have HB0 : Hid (Below w.heap.size w (w.alloc (.cells #[.int .i64 0] 3))) := below_new w _
  have HG0 : Hid ((w.alloc (.cells #[.int .i64 0] 3)).heap[w.heap.size]? = some (.cells #[.int .i64 0] 3 (0, 0))) := heap_alloc_new w _
  have hs0 : (w.alloc (.cells #[.int .i64 0] 3)).heap.size = w.heap.size + 1 := by simp
  have HS0 : Hid _ := hs0
  clear hs0
  generalize w.alloc (.cells #[.int .i64 0] 3) = Wf at *
  refine range_law9 (by omega) (gf := gf) (lb := lb) rfl heg (α := Rw) rs.length (fun r => #[rv r]) (fun _ => rfl) (fun k r => r = rat rs k)
    (fun own t W => CJ w own t W) (fun _ _ => False) .ret ?hJ ?hJx (fun j => j = w.heap.size) ?hown0 ?h0
    (fun r a' _ => a' = { tmps := #[.func (.func gf) #[] lb, undef, .int .i64 0, .pointer (some ⟨w.heap.size, 0, none⟩), .func (.func gf) #[] lb, rv r, undef, undef, undef], defers := [] }) ?hA ?assign ?body ?iter ?done ?stop
  case hJ =>
    intro own k A B h hk
    exact h.kw hk (by have := HS0.out; omega)
  case hJx => intro own A B h _; exact h
  case hown0 => intro j hj; have := HS0.out; omega
  case h0 => exact ⟨HG0.out, HB0.out, rfl, fun j hj => by omega⟩
  case hA => intro x a' W l o' h _ _; exact h
  case assign =>
    intro l' own k r W' K hk hok hJk hsz hK
    clear hok hJk
    gi_wp2
    exact hK _ _ (Below.refl _ _) (by simp)
  case iter =>
    intro l' W5 hl' hB5 hs5 R' Rx' ow how hR' hRx' hY' h0'
    have hs := HS0.out
    have hws := HW.out.size
    refine HIT.out W5 (HW.out.trans ((HB0.out.trans (hB5.mono (by omega))).mono hws)) l' R' Rx' ow (fun j hj => ?_) hR' hRx' (fun own k W hk hRk hsz _ => hY' own k _ W hk rfl hRk fun j hj => (hsz j hj).2) h0'
    rcases (how j).1 hj with rfl | rfl
    · exact ⟨hws, by omega⟩
    · exact ⟨by omega, by omega⟩
  case stop => intro D own W' _ _ h _; exact h.elim
  case done =>
    intro D own W' hDe hno hJ hdf
    have HJe : Hid (CJ w own rs.length W') := hJ
    have HDf : Hid _ := hdf
    have HDs : Hid (D = Wf.heap.size ∧ ¬ own D) := ⟨hDe, hno⟩
    have c0 : W'.cell? ⟨w.heap.size, 0, none⟩ = some (.int .i64 (rs.length : Int)) := by rw [cell_of_row _ _ _ _ _ _ hJ.box]; rfl
    have l0 : w.heap.size < W'.heap.size := (Array.getElem?_eq_some_iff.1 hJ.box).1
    clear hJ hdf hDe hno
    gi_wp2
    refine leaves_marks (fun W => results_tmp rfl _ _ _) [D] W' (by simp) (fun E hE => by simp at hE; subst hE; exact HDf.out) fun W'' hb => ⟨rfl, HJe.out.bel.trans ⟨hb.os, hb.tape, hb.output, hb.size, fun j hj => hb.block j (Nat.lt_of_lt_of_le hj HJe.out.bel.size) fun e => ?_⟩⟩
    have e' : j = D := by simpa using e
    have := HDs.out.1
    have := HS0.out
    omega
  case body =>
    intro l' own k r a' W' hk hok hJ hA hsz hol
    subst hA
    have HJe : Hid (CJ w own k W') := hJ
    have c0 : W'.cell? ⟨w.heap.size, 0, none⟩ = some (.int .i64 (k : Int)) := by rw [cell_of_row _ _ _ _ _ _ hJ.box]; rfl
    have l0 : w.heap.size < W'.heap.size := (Array.getElem?_eq_some_iff.1 hJ.box).1
    have z0 : W'.frozen? ⟨w.heap.size, 0, none⟩ = false := frozen_of_row W' _ 0 _ _ hJ.box
    have I1 : Hid ((k : Int) + 1 ≤ 9223372036854775807) := by refine (?_ : (k : Int) + 1 ≤ 9223372036854775807); have := HM.out; omega
    obtain ⟨zr, hzr⟩ : ∃ zr : Int, (k : Int) = zr := ⟨_, rfl⟩
    have HZR : Hid ((k : Int) = zr) := hzr
    rw [hzr] at c0
    clear hJ hzr hk hok hsz hol
    gi_wp2
    rw [wstep HZR.out I1.out]
    exact ⟨own, fun j hj => .inl hj, but_set _ _ _ _ _ HJe.out.mine, HJe.out.set⟩
end Go.Proofs.Ytaiiclkfnahghaa.Rq
