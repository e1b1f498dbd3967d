/- A number's bytes are put, the least first. -/
import Derived.Test.YtljponlfjombaaaQIB
import Derived.Sort.LoopGhostIn
namespace Go.Proofs.Ytljponlfjombaaa.Rw
open Go.RowKit Go.Lib Go.Shelf
open Go.Proofs.Ytljponlfjombaaa.Rc Go.Proofs.Ytljponlfjombaaa.Rq
attribute [local go_sem] Oper.semAt_some
set_option maxRecDepth 100000 in
/-- An operation that defers nothing, in a round, is as outside. -/
theorem opIn_round {F : Fence} {n : Nat} {P : Program} {o : Oper} {a : Act} {w : World} {K : Act → World → Prop} {Q : Exit → Act → World → Prop} (l : Nat) (hd : ∀ c, o.op ≠ .defer c) (h : o.wpIn F n P a w K Q) : o.wpIn (F.inRound l) n P a w K Q := by
  unfold Oper.wpIn at h ⊢
  refine ⟨h.1, ?_⟩
  have h2 := h.2
  rw [Oper.semAt_plain F _ _ hd] at h2
  rw [Oper.semAt_plain (F.inRound l) _ _ hd]
  exact h2
set_option maxRecDepth 100000 in
theorem wpOpIn_round {F : Fence} {n : Nat} {P : Program} {ops : Array Oper} {Q : Exit → Act → World → Prop} {i : Nat} {K K' : Act → World → Prop} {a : Act} {w : World} (l : Nat) (hd : ∀ o ∈ ops, ∀ c, o.op ≠ .defer c)
    (hK : ∀ a w, K a w → K' a w) (h : wpOpIn F n P ops Q i K a w) : wpOpIn (F.inRound l) n P ops Q i K' a w := by
  have h' := wpOpIn_mono hK h
  unfold wpOpIn at h' ⊢
  cases ho : ops[i]? with
  | none => rw [ho] at h'; exact h'
  | some o =>
    rw [ho] at h'
    by_cases hw : Region.wanted o (yielded ops a.tmps) = true
    · simp only [hw, if_true] at h' ⊢
      exact opIn_round l (hd o (Array.mem_of_getElem? ho)) h'
    · simp only [hw] at h' ⊢
      exact h'
set_option maxRecDepth 100000 in
/-- A region that defers nothing, in a round, is as outside. -/
theorem anyIn_round {F : Fence} {n : Nat} {P : Program} {md : Region.Mode} {ops : Array Oper} {Q : Exit → Act → World → Prop} (l : Nat) (hd : ∀ o ∈ ops, ∀ c, o.op ≠ .defer c) :
    ∀ (fuel : Nat) (listed : Array Bool) (a : Act) (w : World), wpAnyIn F n P md ops Q fuel listed a w → wpAnyIn (F.inRound l) n P md ops Q fuel listed a w := by
  intro fuel
  induction fuel with
  | zero => intro listed a w h; exact h
  | succ fuel ih =>
    intro listed a w h
    exact ⟨h.1, fun i hi => wpOpIn_round l hd (fun a w hk => ih _ a w hk) (h.2 i hi)⟩
/-- The byte of a number at a place, the least first; the first of them. -/
def lb (v k : Nat) : UInt8 := UInt8.ofNat (v / 2 ^ (8 * k) % 256)
def lef (v k : Nat) : List UInt8 := (List.range k).map (lb v)
set_option maxRecDepth 100000 in
theorem lef_succ (v k : Nat) : lef v (k + 1) = lef v k ++ [lb v k] := by unfold lef; rw [List.range_succ, List.map_append]; rfl
set_option maxRecDepth 100000 in
theorem lef_len (v k : Nat) : (lef v k).length = k := by simp [lef]
set_option maxRecDepth 100000 in
theorem lb_nat (v k : Nat) : ((lb v k).toNat : Int) = (v : Int) / 2 ^ (8 * k) % 256 := by
  unfold lb
  rw [UInt8.toNat_ofNat', Nat.mod_eq_of_lt (Nat.mod_lt _ (by decide))]
  push_cast
  rfl
set_option maxRecDepth 100000 in
theorem trio (w : World) (a b c : Obj) : (((w.alloc a).alloc b).alloc c).heap[w.heap.size]? = some a ∧ (((w.alloc a).alloc b).alloc c).heap[w.heap.size + 1]? = some b ∧ (((w.alloc a).alloc b).alloc c).heap[w.heap.size + 2]? = some c ∧ Below w.heap.size w (((w.alloc a).alloc b).alloc c) ∧ (((w.alloc a).alloc b).alloc c).heap.size = w.heap.size + 3 := by
  obtain ⟨x1, x2, x3⟩ := two_new w a b
  have hs : ((w.alloc a).alloc b).heap.size = w.heap.size + 2 := by simp
  have y1 := heap_alloc_new ((w.alloc a).alloc b) c
  have y2 := below_new ((w.alloc a).alloc b) c
  rw [hs] at y1 y2
  exact ⟨(y2.block _ (by omega)).trans x1, (y2.block _ (by omega)).trans x2, y1, x3.trans (y2.mono (by omega)), by simp⟩
set_option maxRecDepth 100000 in
theorem wrap_u8 (z : Int) : IntKind.u8.wrap z = z % 256 := IntKind.wrap_u8 z
/-- What lies there within the walk. -/
structure PN (g : Nat) (own0 : Nat → Prop) (bs : List UInt8) (Wf : World) (own : Nat → Prop) (xs : List UInt8) (W : World) : Prop where
  wr : Wr g own (bs ++ xs) W
  new : ∀ j, own j → own0 j ∨ Wf.heap.size ≤ j
  but : But own0 Wf W
set_option maxRecDepth 100000 in
theorem PN.kw {g : Nat} {own0 : Nat → Prop} {bs : List UInt8} {Wf : World} {own : Nat → Prop} {xs : List UInt8} {W W' : World} (h : PN g own0 bs Wf own xs W) (hk : Kw Wf.heap.size own W W') : PN g own0 bs Wf own xs W' := by
  obtain ⟨v, h1, h2, h3⟩ := h.wr.cell
  refine ⟨⟨⟨v, (hk.block _ h.wr.lt (.inr h.wr.mine)).trans h1, own_same1 h2 fun b hb hlt => hk.block b hlt (.inr (h3 b hb)), h3⟩, h.wr.mine, fun j hj => ⟨(h.wr.out j hj).1, Nat.lt_of_lt_of_le (h.wr.out j hj).2 hk.size⟩⟩, h.new, ⟨hk.os.trans h.but.os, hk.tape.trans h.but.tape, hk.output.trans h.but.output, Nat.le_trans h.but.size hk.size, fun j hj hn => (hk.block j (Nat.lt_of_lt_of_le hj h.but.size) (.inl hj)).trans (h.but.block j hj hn)⟩⟩
set_option maxRecDepth 100000 in
set_option maxHeartbeats 2000000 in
theorem putNumber_any (g : Nat) (own : Nat → Prop) (bs : List UInt8) (v sz : Nat) (hsz : sz ≤ 8) (hl : bs.length ≤ 9000) (w : World) (h : Wr g own bs w) :
    Calls Try.prog 38 #[pvv g, .int .u64 (v : Int), .int .i64 (sz : Int)] w fun e w' => e = .returned (.tuple #[]) ∧ Wrote g own (bs ++ lef v sz) w w' := by
  have HW : Hid (Wr g own bs w) := h
  have HAD : Hid _ := add_any g
  clear h
  refine (callsIn_wide (n := 5)).1 ?_
  refine callsIn_of_wp_marks Try.func38 rfl trivial ?_ rfl
  simp only [Try.ntmps38, List.size_toArray, List.length_cons, List.length_nil, Nat.reduceAdd, Nat.reduceSub, Array.replicate_succ, Array.replicate_zero, List.push_toArray, List.append_toArray, List.nil_append, List.cons_append]
  gi_wp2
  refine ⟨trivial, callsIn_wide.2 ((shifts_any sz _).mono ?_)⟩
  rintro e Wf ⟨rfl, hWf⟩
  have hs2 : ((w.alloc (.cells #[pvv g] 52)).alloc (.cells #[.int .u64 (v : Int)] 45)).heap.size = w.heap.size + 2 := by simp
  obtain ⟨t1, t2, t3, t4, t5⟩ := trio w (.cells #[pvv g] 52) (.cells #[.int .u64 (v : Int)] 45) (.cells #[.int .i64 (sz : Int)] 3)
  rw [hs2]
  rw [← hWf] at t1 t2 t3 t4 t5
  have HT1 : Hid (Wf.heap[w.heap.size]? = some (.cells #[pvv g] 52 (0, 0))) := t1
  have HT2 : Hid (Wf.heap[w.heap.size + 1]? = some (.cells #[.int .u64 (v : Int)] 45 (0, 0))) := t2
  have HT3 : Hid (Wf.heap[w.heap.size + 2]? = some (.cells #[.int .i64 (sz : Int)] 3 (0, 0))) := t3
  have HBf : Hid (Below w.heap.size w Wf) := t4
  have HSf : Hid (Wf.heap.size = w.heap.size + 3) := t5
  have HWf : Hid (Wr g own bs Wf) := HW.out.next t4
  clear hs2 hWf t1 t2 t3 t4 t5
  gi_wp2
  refine range_law9 (by omega) (gf := 55) (lb := #[.pointer (some ⟨w.heap.size + 2, 0, none⟩)]) rfl (enters_of Try.func55 (by kernel_rfl) rfl) (α := Nat) sz (fun k => #[.int .i64 (8 * (k : Int))]) (fun _ => rfl) (fun k x => x = k)
    (fun own' t W => PN g own bs Wf own' (lef v t) W) (fun _ _ => False) .ret ?hJ ?hJx own ?hown0 ?h0
    (fun k a' _ => a' = { tmps := #[pvv g, .int .u64 (v : Int), .int .i64 (sz : Int), .pointer (some ⟨w.heap.size, 0, none⟩), .pointer (some ⟨w.heap.size + 1, 0, none⟩), undef, .int .i64 (8 * (k : Int)), .int .i64 (sz : Int), .func (.func 55) #[] #[.pointer (some ⟨w.heap.size + 2, 0, none⟩)], .int .i64 (8 * (k : Int)), undef, undef, undef, undef, undef, undef], defers := [] }) ?hA ?assign ?body ?iter ?done ?stop
  case hJ => intro own' k A B h hk; exact h.kw hk
  case hJx => intro own' A B h _; exact h
  case hown0 => intro j hj; exact (HWf.out.out j hj).2
  case h0 => exact ⟨by simpa [lef] using HWf.out, fun j hj => .inl hj, But.refl _ _⟩
  case hA => intro x a' W l o' h _ _; exact h
  case assign =>
    intro l' own' k x W' K hk hok hJk hsz' hK
    clear hok hJk
    gi_wp2
    exact hK _ _ (Below.refl _ _) rfl
  case iter =>
    intro l' W5 hl' hB5 hs5 R' Rx' ow how hR' hRx' hY' h0'
    have hS := HSf.out
    refine shifts1_any Wf sz (w.heap.size + 2) hsz HT3.out W5 hB5 l' R' Rx' ow (fun j hj => ?_) (fun own' k W hk hRk hsz' => hY' own' k k W hk rfl hRk hsz') h0'
    rcases (how j).1 hj with a | rfl
    · have := (HWf.out.out j a).2
      omega
    · omega
  case stop => intro D own' W' _ _ h _; exact h.elim
  case done =>
    intro D own' W' hDe hno hJ hdf
    have HDf : Hid _ := hdf
    have HJe : Hid (PN g own bs Wf own' (lef v sz) W') := hJ
    have HDs : Hid (D = Wf.heap.size ∧ ¬ own' D) := ⟨hDe, hno⟩
    clear hJ hdf hDe hno
    gi_wp2
    refine leaves_marks (fun W => results_none rfl _ _ _) [D] W' (by simp) (fun E hE => by simp at hE; subst hE; exact HDf.out) fun W'' hb => ⟨rfl, own', fun j hj => ?_, ?_, HJe.out.wr.but hb fun j hj e => ?_⟩
    · rcases HJe.out.new j hj with a | a
      · exact .inl a
      · exact .inr (by have := HSf.out; omega)
    · have h1 := HJe.out.but
      have h2 := HBf.out
      have hS := HSf.out
      have hD := HDs.out.1
      refine ⟨hb.os.trans (h1.os.trans h2.os), hb.tape.trans (h1.tape.trans h2.tape), hb.output.trans (h1.output.trans h2.output), Nat.le_trans h2.size (Nat.le_trans h1.size hb.size), fun j hj hn => ?_⟩
      have hjf : j < Wf.heap.size := by omega
      refine (hb.block j (Nat.lt_of_lt_of_le hjf h1.size) fun e => ?_).trans ((h1.block j hjf hn).trans (h2.block j hj))
      have e' : j = D := by simpa using e
      omega
    · have e' : j = D := by simpa using e
      exact HDs.out.2 (e' ▸ hj)
  case body =>
    rintro l' own' k x a' W' hk rfl hJ rfl hsz' hol
    have hS := HSf.out
    have no1 : ¬ own w.heap.size := fun e => by have := (HW.out.out _ e).2; omega
    have no2 : ¬ own (w.heap.size + 1) := fun e => by have := (HW.out.out _ e).2; omega
    have x1 := (hJ.but.block w.heap.size (by omega) no1).trans HT1.out
    have x2 := (hJ.but.block (w.heap.size + 1) (by omega) no2).trans HT2.out
    have c1 : W'.drew.cell? ⟨w.heap.size, 0, none⟩ = some (pvv g) := by
      rw [World.cell?_of_block (a := ⟨w.heap.size, 0, none⟩) (show W'.drew.heap[w.heap.size]? = W'.heap[w.heap.size]? from rfl), cell_of_row _ _ _ _ _ _ x1]; rfl
    have c2 : W'.drew.cell? ⟨w.heap.size + 1, 0, none⟩ = some (.int .u64 (v : Int)) := by
      rw [World.cell?_of_block (a := ⟨w.heap.size + 1, 0, none⟩) (show W'.drew.heap[w.heap.size + 1]? = W'.heap[w.heap.size + 1]? from rfl), cell_of_row _ _ _ _ _ _ x2]; rfl
    have HJd : Hid (PN g own bs Wf own' (lef v x) W'.drew) := hJ.kw ⟨rfl, rfl, rfl, Nat.le_refl _, fun _ _ _ => rfl⟩
    have HCA : Hid (∀ _ : True, _) := fun _ => add_any g own' (bs ++ lef v x) (lb v x) (by rw [List.length_append, lef_len]; omega) W'.drew HJd.out.wr
    rw [lb_nat] at HCA
    have hmx : Try.prog.follows .mixedOrders = true := by kernel_rfl
    have q1 : (0 : Int) ≤ (x : Int) := by omega
    have q2 : (x : Int) < 8 := by omega
    clear hJ x1 x2 no1 no2 hol hsz'
    gi_wp2
    refine wpIn_region_any hmx ?_
    change wpAnyIn _ _ _ _ _ _ _ _ _ (World.drew _)
    refine anyIn_round (F := Fence.wide) l' (by intro o ho c hc; simp at ho; rcases ho with rfl | rfl | rfl | rfl | rfl | rfl <;> cases hc) _ _ _ _ ?_
    refine wpAnyIn_take (i := 2) (v := ?_) rfl rfl (by kernel_rfl) (by kernel_rfl) (by kernel_rfl) (fun _ _ _ h => h) ⟨Or.inl ⟨by kernel_rfl, ?_⟩, fun _ => rfl⟩ ?_
    rotate_left
    · intro w
      go_simp
      try with_reducible rfl
    conv in (Act.put _ _ _) => simp only [List.getElem_toArray, List.getElem_cons_succ, List.getElem_cons_zero, Act.put, List.setIfInBounds_toArray, List.set_cons_succ, List.set_cons_zero]
    refine wpAnyIn_ready (rs := [0, 1]) (by kernel_rfl) (by simp) ?_
    refine (AllReadyIn.cons rfl (fun K hK => ?_) (AllReadyIn.cons rfl (fun K hK => ?_) AllReadyIn.nil))
    · go_simp
      refine hK _ _ ?_
      clear hK K
      refine wpAnyIn_ready (rs := [1]) (by kernel_rfl) (by simp) ?_
      refine (AllReadyIn.cons rfl (fun K hK => ?_) AllReadyIn.nil)
      go_simp
      refine hK _ _ ?_
      clear hK K
      refine wpAnyIn_take (i := 3) (v := .int .u64 ((v : Int) / 2 ^ (8 * x))) rfl rfl (by kernel_rfl) (by kernel_rfl) (by kernel_rfl) (fun _ _ _ h => h) ⟨Or.inl ⟨by kernel_rfl, ?_⟩, fun _ => rfl⟩ ?_
      · intro w
        go_simp
        rw [show (8 * (x : Int)).toNat = 8 * x by omega]
      conv in (Act.put _ _ _) => simp only [List.getElem_toArray, List.getElem_cons_succ, List.getElem_cons_zero, Act.put, List.setIfInBounds_toArray, List.set_cons_succ, List.set_cons_zero]
      refine wpAnyIn_take (i := 4) (v := .int .u8 ((v : Int) / 2 ^ (8 * x) % 256)) rfl rfl (by kernel_rfl) (by kernel_rfl) (by kernel_rfl) (fun _ _ _ h => h) ⟨Or.inl ⟨by kernel_rfl, ?_⟩, fun _ => rfl⟩ ?_
      · intro w
        go_simp
        exact wrap_u8 _
      conv in (Act.put _ _ _) => simp only [List.getElem_toArray, List.getElem_cons_succ, List.getElem_cons_zero, Act.put, List.setIfInBounds_toArray, List.set_cons_succ, List.set_cons_zero]
      refine wpAnyIn_ready (rs := [5]) (by kernel_rfl) (by simp) ?_
      refine (AllReadyIn.cons rfl (fun K hK => ?_) AllReadyIn.nil)
      go_simp
      refine ⟨trivial, callsIn_wide.2 (Calls.mono (HCA.out trivial) ?_)⟩
      rintro e W6 ⟨rfl, own6, k1, k2, k3⟩
      have HE : Hid (∃ own'', (∀ j, own'' j → own' j ∨ (W'.heap.size ≤ j ∧ j < W6.heap.size)) ∧ But own' W' W6 ∧ PN g own bs Wf own'' (lef v (x + 1)) W6) := by
        have hd := HJd.out
        refine ⟨own6, fun j hj => ?_, ⟨k2.os, k2.tape, k2.output, k2.size, k2.block⟩, ?_, fun j hj => ?_, ⟨k2.os.trans hd.but.os, k2.tape.trans hd.but.tape, k2.output.trans hd.but.output, Nat.le_trans hd.but.size k2.size, fun j hj hn => (k2.block j (Nat.lt_of_lt_of_le hj hd.but.size) fun e => ?_).trans (hd.but.block j hj hn)⟩⟩
        · rcases k1 j hj with a | a
          · exact .inl a
          · exact .inr ⟨a, (k3.out j hj).2⟩
        · rw [lef_succ, ← List.append_assoc]; exact k3
        · rcases k1 j hj with a | a
          · exact hd.new j a
          · exact .inr (Nat.le_trans hd.but.size a)
        · rcases hd.new j e with a | a
          · exact hn a
          · omega
      clear k1 k2 k3
      refine hK _ _ ?_
      clear hK K
      refine wpAnyIn_done (by kernel_rfl) ?_ _
      gi_wp2
      exact HE.out
    · go_simp
      refine hK _ _ ?_
      clear hK K
      refine wpAnyIn_take (i := 3) (v := .int .u64 ((v : Int) / 2 ^ (8 * x))) rfl rfl (by kernel_rfl) (by kernel_rfl) (by kernel_rfl) (fun _ _ _ h => h) ⟨Or.inl ⟨by kernel_rfl, ?_⟩, fun _ => rfl⟩ ?_
      · intro w
        go_simp
        rw [show (8 * (x : Int)).toNat = 8 * x by omega]
      conv in (Act.put _ _ _) => simp only [List.getElem_toArray, List.getElem_cons_succ, List.getElem_cons_zero, Act.put, List.setIfInBounds_toArray, List.set_cons_succ, List.set_cons_zero]
      refine wpAnyIn_take (i := 4) (v := .int .u8 ((v : Int) / 2 ^ (8 * x) % 256)) rfl rfl (by kernel_rfl) (by kernel_rfl) (by kernel_rfl) (fun _ _ _ h => h) ⟨Or.inl ⟨by kernel_rfl, ?_⟩, fun _ => rfl⟩ ?_
      · intro w
        go_simp
        exact wrap_u8 _
      conv in (Act.put _ _ _) => simp only [List.getElem_toArray, List.getElem_cons_succ, List.getElem_cons_zero, Act.put, List.setIfInBounds_toArray, List.set_cons_succ, List.set_cons_zero]
      refine wpAnyIn_ready (rs := [0]) (by kernel_rfl) (by simp) ?_
      refine (AllReadyIn.cons rfl (fun K hK => ?_) AllReadyIn.nil)
      go_simp
      refine hK _ _ ?_
      clear hK K
      refine wpAnyIn_ready (rs := [5]) (by kernel_rfl) (by simp) ?_
      refine (AllReadyIn.cons rfl (fun K hK => ?_) AllReadyIn.nil)
      go_simp
      refine ⟨trivial, callsIn_wide.2 (Calls.mono (HCA.out trivial) ?_)⟩
      rintro e W6 ⟨rfl, own6, k1, k2, k3⟩
      have HE : Hid (∃ own'', (∀ j, own'' j → own' j ∨ (W'.heap.size ≤ j ∧ j < W6.heap.size)) ∧ But own' W' W6 ∧ PN g own bs Wf own'' (lef v (x + 1)) W6) := by
        have hd := HJd.out
        refine ⟨own6, fun j hj => ?_, ⟨k2.os, k2.tape, k2.output, k2.size, k2.block⟩, ?_, fun j hj => ?_, ⟨k2.os.trans hd.but.os, k2.tape.trans hd.but.tape, k2.output.trans hd.but.output, Nat.le_trans hd.but.size k2.size, fun j hj hn => (k2.block j (Nat.lt_of_lt_of_le hj hd.but.size) fun e => ?_).trans (hd.but.block j hj hn)⟩⟩
        · rcases k1 j hj with a | a
          · exact .inl a
          · exact .inr ⟨a, (k3.out j hj).2⟩
        · rw [lef_succ, ← List.append_assoc]; exact k3
        · rcases k1 j hj with a | a
          · exact hd.new j a
          · exact .inr (Nat.le_trans hd.but.size a)
        · rcases hd.new j e with a | a
          · exact hn a
          · omega
      clear k1 k2 k3
      refine hK _ _ ?_
      clear hK K
      refine wpAnyIn_done (by kernel_rfl) ?_ _
      gi_wp2
      exact HE.out
end Go.Proofs.Ytljponlfjombaaa.Rw
/- A ref's bytes are put. -/
namespace Go.Proofs.Ytljponlfjombaaa.Rw
open Go.RowKit Go.Lib Go.Shelf
open Go.Proofs.Ytljponlfjombaaa.Rc Go.Proofs.Ytljponlfjombaaa.Rq
/-- No ref's tag, among bytes. -/
def noTag : ByteArray := ⟨#[0, 0, 0, 0, 0, 0, 0, 0, 0, 0, 0, 0, 0, 0, 0, 0, 0, 0, 0, 0, 0, 0, 0, 0, 0, 0, 0, 0, 0, 0, 0, 0]⟩
/-- Is a ref none? -/
def noRef (p : Nat) (t : ByteArray) : Bool := decide (p = 0) && decide (t = ⟨#[]⟩)
set_option maxRecDepth 100000 in
theorem eql_ref (p : Nat) (t : ByteArray) (w : World) : (binOp .eql 28 (.agg #[.int .u32 (p : Int), .string t]) (.agg #[.int .u32 0, .string ⟨#[]⟩])).run Try.prog w = .ok (.bool (noRef p t)) w := by
  have hS : Try.prog.underlying 28 = some (.struct (Try.prog.fieldsOf 28)) := by kernel_rfl
  have hp : Try.prog.stoodInHeld 28 = false := by kernel_rfl
  have u2 := Try.underlying22
  have u9 := Try.underlying9
  rw [run_eql_struct, show (10000 : Nat) = 9999 + 1 from rfl, run_equalIn_agg w 9999 28 _ _ hS hp]
  simp only [Program.fieldsOf, Try.underlying28]
  unfold noRef
  by_cases h1 : p = 0
  · subst h1
    by_cases h2 : t = ⟨#[]⟩
    · subst h2
      go_simp
    · go_simp
      intro e
      have h3 := decide_eq_emptyBytes t
      rw [e] at h3
      simp at h3
      exact h2 h3
  · go_simp
/-- A ref's bytes. -/
def refB (p : Nat) (t : ByteArray) : List UInt8 := lef p 4 ++ (if noRef p t = true then noTag else t).data.toList
set_option maxRecDepth 100000 in
set_option maxHeartbeats 1000000 in
theorem putRef_any (g : Nat) (own : Nat → Prop) (bs : List UInt8) (p : Nat) (t : ByteArray) (hp : p < 4294967296) (hl : bs.length ≤ 8000) (ht : t.size ≤ 100) (w : World) (h : Wr g own bs w) :
    Calls Try.prog 39 #[pvv g, .agg #[.int .u32 (p : Int), .string t]] w fun e w' => e = .returned (.tuple #[]) ∧ Wrote g own (bs ++ refB p t) w w' := by
  have HW : Hid (Wr g own bs w) := h
  have heq := eql_ref p t
  obtain ⟨t', ht'⟩ : ∃ t', (if noRef p t = true then noTag else t) = t' := ⟨_, rfl⟩
  have hts : t'.size ≤ 100 := by
    rw [← ht']
    split
    · decide
    · exact ht
  unfold refB
  rw [ht']
  have HN : Hid _ := fun own W => putNumber_any g own bs p 4 (by omega) (by omega) W
  have HT : Hid _ := fun own W => putText_any g own (bs ++ lef p 4) t' (by rw [List.length_append, lef_len]; omega) W
  clear h
  cases hn : noRef p t
  · rw [hn] at heq ht'
    simp at ht'
    subst ht'
    have q0 : IntKind.u64.wrap (p : Int) = (p : Int) := IntWalk.u64_in _ ⟨by omega, by omega⟩
    have hbn := below_new w (.cells #[.int .u32 (p : Int), .string t] 28)
    have hgn := heap_alloc_new w (.cells #[.int .u32 (p : Int), .string t] 28)
    obtain ⟨W1, hW1⟩ : ∃ W1, w.alloc (.cells #[.int .u32 (p : Int), .string t] 28) = W1 := ⟨_, rfl⟩
    rw [hW1] at hbn hgn
    have HW1 : Hid _ := hW1
    have HB : Hid (Below w.heap.size w W1) := hbn
    have HG : Hid (W1.heap[w.heap.size]? = some (.cells #[.int .u32 (p : Int), .string t] 28 (0, 0))) := hgn
    clear hbn hgn hW1
    go_enter Try.func39, Try.ntmps39
    go_wp2_with fail
    rw [HW1.out]
    clear HW1
    refine (HN.out own W1 (HW.out.next HB.out)).mono ?_
    rintro e w2 ⟨rfl, own2, k1, k2, k3⟩
    have hno : ¬ own w.heap.size := fun e => by have := (HW.out.out _ e).2; omega
    have hg2 := (k2.block w.heap.size (Array.getElem?_eq_some_iff.1 HG.out).1 hno).trans HG.out
    have c1 : w2.cell? ⟨w.heap.size, 1, none⟩ = some (.string t) := by rw [cell_of_row _ _ _ _ _ _ hg2]; rfl
    have lg : w.heap.size < w2.heap.size := (Array.getElem?_eq_some_iff.1 hg2).1
    have HK : Hid (∀ {xs : List UInt8} {W' : World}, Wrote g own2 xs w2 W' → Wrote g own xs w W') := fun {xs W'} hw => by
      refine Wrote.trans (own' := own2) (W' := w2) (fun j hj => ?_) ⟨k2.os.trans HB.out.os, k2.tape.trans HB.out.tape, k2.output.trans HB.out.output, Nat.le_trans HB.out.size k2.size, fun j hj hn => (k2.block j (Nat.lt_of_lt_of_le hj HB.out.size) hn).trans (HB.out.block j hj)⟩ hw
      rcases k1 j hj with a | a
      · exact .inl a
      · exact .inr (Nat.le_trans HB.out.size a)
    have K3 : Hid (Wr g own2 (bs ++ lef p 4) w2) := k3
    clear k1 k2 k3 hg2 hno HN
    go_wp2_with fail
    refine (HT.out own2 w2 K3.out).mono ?_
    rintro e w3 ⟨rfl, k⟩
    rw [List.append_assoc] at k
    have HE : Hid (Wrote g own (bs ++ (lef p 4 ++ (t).data.toList)) w w3) := HK.out k
    clear k HT HK K3
    go_wp2_with fail
    refine bodyPost_end (results_none rfl _ _ _) rfl ?_
    exact ⟨rfl, HE.out⟩
  · rw [hn] at heq ht'
    simp at ht'
    subst ht'
    have q0 : IntKind.u64.wrap (p : Int) = (p : Int) := IntWalk.u64_in _ ⟨by omega, by omega⟩
    have hbn := below_new w (.cells #[.int .u32 (p : Int), .string noTag] 28)
    have hgn := heap_alloc_new w (.cells #[.int .u32 (p : Int), .string noTag] 28)
    obtain ⟨W1, hW1⟩ : ∃ W1, w.alloc (.cells #[.int .u32 (p : Int), .string noTag] 28) = W1 := ⟨_, rfl⟩
    rw [hW1] at hbn hgn
    have HW1 : Hid _ := hW1
    have HB : Hid (Below w.heap.size w W1) := hbn
    have HG : Hid (W1.heap[w.heap.size]? = some (.cells #[.int .u32 (p : Int), .string noTag] 28 (0, 0))) := hgn
    clear hbn hgn hW1
    go_enter Try.func39, Try.ntmps39
    go_wp2_with fail
    have hx := HW1.out
    simp only [noTag] at hx
    rw [hx]
    clear HW1 hx
    refine (HN.out own W1 (HW.out.next HB.out)).mono ?_
    rintro e w2 ⟨rfl, own2, k1, k2, k3⟩
    have hno : ¬ own w.heap.size := fun e => by have := (HW.out.out _ e).2; omega
    have hg2 := (k2.block w.heap.size (Array.getElem?_eq_some_iff.1 HG.out).1 hno).trans HG.out
    have c1 : w2.cell? ⟨w.heap.size, 1, none⟩ = some (.string noTag) := by rw [cell_of_row _ _ _ _ _ _ hg2]; rfl
    have lg : w.heap.size < w2.heap.size := (Array.getElem?_eq_some_iff.1 hg2).1
    have HK : Hid (∀ {xs : List UInt8} {W' : World}, Wrote g own2 xs w2 W' → Wrote g own xs w W') := fun {xs W'} hw => by
      refine Wrote.trans (own' := own2) (W' := w2) (fun j hj => ?_) ⟨k2.os.trans HB.out.os, k2.tape.trans HB.out.tape, k2.output.trans HB.out.output, Nat.le_trans HB.out.size k2.size, fun j hj hn => (k2.block j (Nat.lt_of_lt_of_le hj HB.out.size) hn).trans (HB.out.block j hj)⟩ hw
      rcases k1 j hj with a | a
      · exact .inl a
      · exact .inr (Nat.le_trans HB.out.size a)
    have K3 : Hid (Wr g own2 (bs ++ lef p 4) w2) := k3
    clear k1 k2 k3 hg2 hno HN
    go_wp2_with fail
    refine (HT.out own2 w2 K3.out).mono ?_
    rintro e w3 ⟨rfl, k⟩
    rw [List.append_assoc] at k
    have HE : Hid (Wrote g own (bs ++ (lef p 4 ++ (noTag).data.toList)) w w3) := HK.out k
    clear k HT HK K3
    go_wp2_with fail
    refine bodyPost_end (results_none rfl _ _ _) rfl ?_
    exact ⟨rfl, HE.out⟩
end Go.Proofs.Ytljponlfjombaaa.Rw
/- Pages in plain terms, and in memory; a writer beside boxes. -/
namespace Go.Proofs.Ytljponlfjombaaa.Rw
open Go.RowKit Go.Lib Go.Shelf
open Go.Proofs.Ytljponlfjombaaa.Rc Go.Proofs.Ytljponlfjombaaa.Rq
/-- A ref. -/
structure Rf where
  p : Nat
  t : ByteArray
abbrev fcv (r : Rf) : Value := .agg #[.int .u32 (r.p : Int), .string r.t]
def fc (r : Rf) : List Value := [.int .u32 (r.p : Int), .string r.t]
def RefsAt (w : World) (o : Option Addr) (cap : Nat) (l : List Rf) : Prop := Sl 2 w o l.length cap (l.flatMap fc)
def fat (l : List Rf) (i : Nat) : Rf := (l[i]?).getD ⟨0, ⟨#[]⟩⟩
theorem fat_some {l : List Rf} {i : Nat} (h : i < l.length) : l[i]? = some (fat l i) := by unfold fat; rw [List.getElem?_eq_getElem h]; rfl
theorem RefsAt.below {w w' : World} {o : Option Addr} {cap B : Nat} {l : List Rf} (h : RefsAt w o cap l) (hb : Below B w w') (hB : w.heap.size ≤ B) : RefsAt w' o cap l := Sl.below h hb hB
theorem RefsAt.ref {w : World} {o : Option Addr} {cap : Nat} {l : List Rf} (h : RefsAt w o cap l) {i : Nat} (hi : i < l.length) : ∃ b off, o = some ⟨b, off, none⟩ ∧ b < w.heap.size ∧ ∀ i, i < l.length → w.cell? ⟨b, off + i * 2, none⟩ = some (.int .u32 ((fat l i).p : Int)) ∧ w.cell? ⟨b, off + i * 2 + 1, none⟩ = some (.string (fat l i).t) := by
  obtain ⟨b, off, e, hlt, hc⟩ := h.2.2.2.2 (by omega)
  refine ⟨b, off, e, hlt, fun i hi => ⟨hc _ _ (flat_get fc 2 (fun _ => rfl) l i _ (fat_some hi) 0 (by omega)), ?_⟩⟩
  have := hc _ _ (flat_get fc 2 (fun _ => rfl) l i _ (fat_some hi) 1 (by omega))
  rwa [← Nat.add_assoc] at this
/-- A page as a value; its lists by their slices. -/
structure Pg where
  k : Int
  X : Nat
  Y : Nat
  L : Int
  ro : Option Addr
  rn : Nat
  rc : Nat
  ko : Option Addr
  kn : Nat
  kc : Nat
  np : Nat
  nt : ByteArray
abbrev gv (q : Pg) : Value := .agg #[.int .i64 q.k, .int .u32 (q.X : Int), .int .u32 (q.Y : Int), .int .i64 q.L, .slice q.ro q.rn q.rc, .slice q.ko q.kn q.kc, .int .u32 (q.np : Int), .string q.nt]
abbrev gcs (q : Pg) : Obj := .cells #[.int .i64 q.k, .int .u32 (q.X : Int), .int .u32 (q.Y : Int), .int .i64 q.L, .slice q.ro q.rn q.rc, .slice q.ko q.kn q.kc, .int .u32 (q.np : Int), .string q.nt] 30
/-- The bytes of a row, of a leaf, of an inner page. -/
def rowB (r : Rw) : List UInt8 := lef r.id 8 ++ (lef r.x 4 ++ (lef r.y 4 ++ (lef r.v.size 1 ++ r.v.data.toList)))
def leafB (l : List Rw) (np : Nat) (nt : ByteArray) : List UInt8 := lef 1 1 ++ (lef l.length 1 ++ (refB np nt ++ l.flatMap rowB))
def innerB (X Y L : Nat) (ks : List Rf) : List UInt8 := lef 2 1 ++ (lef ks.length 1 ++ (lef L 1 ++ (lef X 4 ++ (lef Y 4 ++ ks.flatMap fun r => refB r.p r.t))))
/-- A writer on its way, beside boxes that it leaves as they are. -/
structure Ps (g : Nat) (own0 : Nat → Prop) (w : World) (bx : List (Nat × Obj)) (bs : List UInt8) (own : Nat → Prop) (W : World) : Prop where
  wr : Wr g own bs W
  new : ∀ j, own j → own0 j ∨ w.heap.size ≤ j
  but : But own0 w W
  box : ∀ p ∈ bx, W.heap[p.1]? = some p.2 ∧ ¬ own p.1
theorem Ps.step {g : Nat} {own0 : Nat → Prop} {w : World} {bx : List (Nat × Obj)} {bs xs : List UInt8} {own : Nat → Prop} {W W' : World} (h : Ps g own0 w bx bs own W) (k : Wrote g own xs W W') : ∃ own', Ps g own0 w bx xs own' W' := by
  obtain ⟨own', k1, k2, k3⟩ := k
  refine ⟨own', k3, fun j hj => ?_, ⟨k2.os.trans h.but.os, k2.tape.trans h.but.tape, k2.output.trans h.but.output, Nat.le_trans h.but.size k2.size, fun j hj hn => (k2.block j (Nat.lt_of_lt_of_le hj h.but.size) fun e => ?_).trans (h.but.block j hj hn)⟩, fun p hp => ?_⟩
  · rcases k1 j hj with a | a
    · exact h.new j a
    · exact .inr (Nat.le_trans h.but.size a)
  · rcases h.new j e with a | a
    · exact hn a
    · omega
  · obtain ⟨b1, b2⟩ := h.box p hp
    have hl := (Array.getElem?_eq_some_iff.1 b1).1
    refine ⟨(k2.block _ hl b2).trans b1, fun e => ?_⟩
    rcases k1 _ e with a | a
    · exact b2 a
    · omega
theorem Ps.next {g : Nat} {own0 : Nat → Prop} {w : World} {bx : List (Nat × Obj)} {bs : List UInt8} {own : Nat → Prop} {W W' : World} (h : Ps g own0 w bx bs own W) (hb : Below W.heap.size W W') : Ps g own0 w bx bs own W' :=
  ⟨h.wr.next hb, h.new, ⟨hb.os.trans h.but.os, hb.tape.trans h.but.tape, hb.output.trans h.but.output, Nat.le_trans h.but.size hb.size, fun j hj hn => (hb.block j (Nat.lt_of_lt_of_le hj h.but.size)).trans (h.but.block j hj hn)⟩, fun p hp => ⟨(hb.block _ (Array.getElem?_eq_some_iff.1 (h.box p hp).1).1).trans (h.box p hp).1, (h.box p hp).2⟩⟩
theorem Ps.with {g : Nat} {own0 : Nat → Prop} {w : World} {bx : List (Nat × Obj)} {bs : List UInt8} {own : Nat → Prop} {W : World} (h : Ps g own0 w bx bs own W) (o : Obj) (ho : (W.alloc o).heap[W.heap.size]? = some o) : Ps g own0 w ((W.heap.size, o) :: bx) bs own (W.alloc o) := by
  have h1 := h.next (below_new W o)
  refine ⟨h1.wr, h1.new, h1.but, fun p hp => ?_⟩
  rcases List.mem_cons.1 hp with rfl | hp
  · exact ⟨ho, fun e => by have := (h.wr.out _ e).2; simp at this⟩
  · exact h1.box p hp
theorem Ps.less {g : Nat} {own0 : Nat → Prop} {w : World} {bx bx' : List (Nat × Obj)} {bs : List UInt8} {own : Nat → Prop} {W : World} (h : Ps g own0 w bx bs own W) (hb : ∀ p ∈ bx', p ∈ bx) : Ps g own0 w bx' bs own W := ⟨h.wr, h.new, h.but, fun p hp => h.box p (hb p hp)⟩
theorem Ps.start {g : Nat} {own : Nat → Prop} {bs : List UInt8} {w : World} (h : Wr g own bs w) : Ps g own w [] bs own w := ⟨h, fun _ hj => .inl hj, But.refl _ _, fun p hp => by cases hp⟩
theorem Ps.wrote {g : Nat} {own0 : Nat → Prop} {w : World} {bx : List (Nat × Obj)} {bs : List UInt8} {own : Nat → Prop} {W : World} (h : Ps g own0 w bx bs own W) : Wrote g own0 bs w W := ⟨own, h.new, h.but, h.wr⟩
/-- What lies below the writer is as it was. -/
theorem Ps.sl {g : Nat} {own0 : Nat → Prop} {w : World} {bx : List (Nat × Obj)} {bs : List UInt8} {own : Nat → Prop} {W : World} (h : Ps g own0 w bx bs own W) {k : Nat} {o : Option Addr} {n cap : Nat} {cs : List Value} (hs : Sl k w o n cap cs) (hg : ∀ b off, o = some ⟨b, off, none⟩ → 0 < n → ¬ own0 b) : Sl k W o n cap cs := by
  refine ⟨hs.1, hs.2.1, hs.2.2.1, hs.2.2.2.1, fun hn => ?_⟩
  obtain ⟨b, off, e, hlt, hc⟩ := hs.2.2.2.2 hn
  exact ⟨b, off, e, Nat.lt_of_lt_of_le hlt h.but.size, fun j u hu => (World.cell?_of_block (a := ⟨b, off + j, none⟩) (h.but.block b hlt (hg b off e hn))).trans (hc j u hu)⟩
end Go.Proofs.Ytljponlfjombaaa.Rw
