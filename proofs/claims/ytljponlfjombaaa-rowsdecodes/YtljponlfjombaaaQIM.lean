/- A reader: texts. -/
import Derived.Test.YtljponlfjombaaaQII
import Derived.Laws.BitsAllLaws
namespace Go.Proofs.Ytljponlfjombaaa.Rw
open Go.RowKit Go.Lib Go.Shelf
open Go.Proofs.Ytljponlfjombaaa.Rc Go.Proofs.Ytljponlfjombaaa.Rq
/-- A reader in memory. -/
def Rd (g : Nat) (rest : ByteArray) (sh : Bool) (W : World) : Prop := W.heap[g]? = some (.cells #[.string rest, .bool sh] 56 (0, 0))
set_option maxRecDepth 100000 in
theorem rd_cells {g : Nat} {rest : ByteArray} {sh : Bool} {W : World} (h : Rd g rest sh W) : W.cell? ⟨g, 0, none⟩ = some (.string rest) ∧ W.cell? ⟨g, 1, none⟩ = some (.bool sh) ∧ g < W.heap.size ∧ W.frozen? ⟨g, 0, none⟩ = false ∧ W.frozen? ⟨g, 1, none⟩ = false :=
  ⟨by rw [cell_of_row _ _ _ _ _ _ h]; rfl, by rw [cell_of_row _ _ _ _ _ _ h]; rfl, (Array.getElem?_eq_some_iff.1 h).1, frozen_of_row W _ 0 _ _ h, frozen_of_row W _ 1 _ _ h⟩
/-- The one block that a reader writes. -/
abbrev Bo (g : Nat) (w w' : World) : Prop := But (fun k => k = g) w w'
set_option maxRecDepth 100000 in
theorem bo_set (W : World) (g k : Nat) (v : Value) : Bo g W (W.setCell ⟨g, k, none⟩ v) := ⟨rfl, rfl, rfl, by simp [World.setCell], fun j _ hn => Below.heap_setCell _ _ _ _ (fun e => hn e)⟩
set_option maxRecDepth 100000 in
theorem rd_set0 {g : Nat} {rest r : ByteArray} {sh : Bool} {W : World} (h : Rd g rest sh W) : Rd g r sh (W.setCell ⟨g, 0, none⟩ (.string r)) := by
  have := heap_setCell_same W g 0 _ _ (.string r) h
  simpa [Rd] using this
set_option maxRecDepth 100000 in
theorem rd_set1 {g : Nat} {rest : ByteArray} {sh b : Bool} {W : World} (h : Rd g rest sh W) : Rd g rest b (W.setCell ⟨g, 1, none⟩ (.bool b)) := by
  have := heap_setCell_same W g 1 _ _ (.bool b) h
  simpa [Rd] using this
set_option maxRecDepth 100000 in
set_option maxHeartbeats 1000000 in
theorem text_no (g : Nat) (rest : ByteArray) (sh : Bool) (n : Nat) (hno : sh = true ∨ rest.size < n) (w : World) (h : Rd g rest sh w) :
    Calls Try.prog 49 #[.pointer (some ⟨g, 0, none⟩), .int .i64 (n : Int)] w fun e w' => e = .returned (.string ⟨#[]⟩) ∧ Rd g rest true w' ∧ Bo g w w' := by
  obtain ⟨c0, c1, lg, f0, f1⟩ := rd_cells h
  have HF : Hid (Rd g rest true (w.setCell ⟨g, 1, none⟩ (.bool true)) ∧ Bo g w (w.setCell ⟨g, 1, none⟩ (.bool true))) := ⟨rd_set1 h, bo_set w g 1 _⟩
  clear h
  cases sh
  · have hlt : rest.size < n := by simpa using hno
    have q1 : (rest.size : Int) < (n : Int) := by omega
    go_enter Try.func49, Try.ntmps49
    go_wp2_with fail
    go_ret
    exact ⟨rfl, HF.out⟩
  · go_enter Try.func49, Try.ntmps49
    go_wp2_with fail
    go_ret
    exact ⟨rfl, HF.out⟩
set_option maxRecDepth 100000 in
set_option maxHeartbeats 1000000 in
theorem text_ok (g : Nat) (rest : ByteArray) (n : Nat) (hr : n ≤ rest.size) (w : World) (h : Rd g rest false w) :
    Calls Try.prog 49 #[.pointer (some ⟨g, 0, none⟩), .int .i64 (n : Int)] w fun e w' => e = .returned (.string (rest.extract 0 n)) ∧ Rd g (rest.extract n rest.size) false w' ∧ Bo g w w' := by
  obtain ⟨c0, c1, lg, f0, f1⟩ := rd_cells h
  have HF : Hid (Rd g (rest.extract n rest.size) false (w.setCell ⟨g, 0, none⟩ (.string (rest.extract n rest.size))) ∧ Bo g w (w.setCell ⟨g, 0, none⟩ (.string (rest.extract n rest.size)))) := ⟨rd_set0 h, bo_set w g 0 _⟩
  clear h
  have q1 : ¬ (rest.size : Int) < (n : Int) := by omega
  have q2 : (n : Int) ≤ (rest.size : Int) := by omega
  have q3 : (0 : Int) ≤ (n : Int) := by omega
  go_enter Try.func49, Try.ntmps49
  go_wp2_with fail
  go_ret
  exact ⟨rfl, HF.out⟩
end Go.Proofs.Ytljponlfjombaaa.Rw
/- A reader: numbers. -/
namespace Go.Proofs.Ytljponlfjombaaa.Rw
open Go.RowKit Go.Lib Go.Shelf
open Go.Proofs.Ytljponlfjombaaa.Rc Go.Proofs.Ytljponlfjombaaa.Rq
attribute [local go_sem] Oper.semAt_some
/-- The number of bytes, the least first. -/
def bt (s : ByteArray) (i : Nat) : Nat := (s.data[i]?.getD 0).toNat
def valB (s : ByteArray) : Nat → Nat
  | 0 => 0
  | k + 1 => valB s k + bt s k * 2 ^ (8 * k)
set_option maxRecDepth 100000 in
theorem bt_lt (s : ByteArray) (i : Nat) : bt s i < 256 := (s.data[i]?.getD 0).toNat_lt
set_option maxRecDepth 100000 in
theorem valB_lt (s : ByteArray) : ∀ k, valB s k < 2 ^ (8 * k)
  | 0 => by simp [valB]
  | k + 1 => by
    have h1 := valB_lt s k
    have h2 := bt_lt s k
    have e : 2 ^ (8 * (k + 1)) = 256 * 2 ^ (8 * k) := by rw [Nat.mul_add, Nat.pow_add, Nat.mul_comm]
    rw [e, valB]
    have h3 : (bt s k + 1) * 2 ^ (8 * k) ≤ 256 * 2 ^ (8 * k) := Nat.mul_le_mul_right _ h2
    rw [Nat.succ_mul] at h3
    omega
set_option maxRecDepth 100000 in
theorem valB_or (s : ByteArray) (k : Nat) : valB s k ||| (bt s k <<< (8 * k)) = valB s (k + 1) := by
  rw [Nat.or_comm, ← Nat.shiftLeft_add_eq_or_of_lt (valB_lt s k), Nat.shiftLeft_eq, valB, Nat.add_comm]
/-- What lies there within the walk. -/
structure NJ (g6 : Nat) (s : ByteArray) (Wf : World) (own : Nat → Prop) (t : Nat) (W : World) : Prop where
  box : W.heap[g6]? = some (.cells #[.int .u64 (valB s t : Int)] 45 (0, 0))
  own : ∀ j, own j ↔ j = g6
  but : But (fun j => j = g6) Wf W
set_option maxRecDepth 100000 in
theorem NJ.kw {g6 : Nat} {s : ByteArray} {Wf : World} {own : Nat → Prop} {t : Nat} {W W' : World} (h : NJ g6 s Wf own t W) (hk : Kw Wf.heap.size own W W') : NJ g6 s Wf own t W' :=
  ⟨(hk.block _ (Array.getElem?_eq_some_iff.1 h.box).1 (.inr ((h.own _).2 rfl))).trans h.box, h.own, ⟨hk.os.trans h.but.os, hk.tape.trans h.but.tape, hk.output.trans h.but.output, Nat.le_trans h.but.size hk.size, fun j hj hn => (hk.block j (Nat.lt_of_lt_of_le hj h.but.size) (.inl hj)).trans (h.but.block j hj hn)⟩⟩
set_option maxRecDepth 100000 in
set_option maxHeartbeats 1000000 in
theorem number_no (g : Nat) (rest : ByteArray) (sh : Bool) (sz : Nat) (hno : sh = true ∨ rest.size < sz) (w : World) (h : Rd g rest sh w) :
    Calls Try.prog 41 #[.pointer (some ⟨g, 0, none⟩), .int .i64 (sz : Int)] w fun e w' => e = .returned (.int .u64 0) ∧ Rd g rest true w' ∧ Bo g w w' := by
  have HT : Hid _ := text_no g rest sh sz hno w h
  clear h
  refine (callsIn_wide (n := 5)).1 ?_
  refine callsIn_of_wp_marks Try.func41 rfl trivial ?_ rfl
  simp only [Try.ntmps41, List.size_toArray, List.length_cons, List.length_nil, Nat.reduceAdd, Nat.reduceSub, Array.replicate_succ, Array.replicate_zero, List.push_toArray, List.append_toArray, List.nil_append, List.cons_append]
  gi_wp2
  refine ⟨trivial, callsIn_wide.2 (Calls.mono HT.out ?_)⟩
  rintro e w2 ⟨rfl, r2, b2⟩
  have hb := below_new w2 (.cells #[.string ⟨#[]⟩] 9)
  obtain ⟨c0, c1, lg, -, -⟩ := rd_cells r2
  have HF : Hid (Rd g rest true (w2.alloc (.cells #[.string ⟨#[]⟩] 9)) ∧ Bo g w (w2.alloc (.cells #[.string ⟨#[]⟩] 9))) := ⟨(hb.block _ lg).trans r2, b2.trans (But.of_below hb)⟩
  clear r2 b2 hb
  gi_wp2
  refine leaves_marks (fun W => results_tmp rfl _ _ _) [] _ (by simp) (fun E hE => by simp at hE) fun W'' hb => ⟨rfl, ?_, ?_⟩
  · exact (hb.block g (Array.getElem?_eq_some_iff.1 HF.out.1).1 (by simp)).trans HF.out.1
  · exact HF.out.2.trans (hb.more fun j _ hj => by simp at hj)
set_option maxRecDepth 100000 in
set_option maxHeartbeats 4000000 in
theorem number_ok (g : Nat) (rest : ByteArray) (sz : Nat) (hsz : sz ≤ 8) (hr : sz ≤ rest.size) (w : World) (h : Rd g rest false w) :
    Calls Try.prog 41 #[.pointer (some ⟨g, 0, none⟩), .int .i64 (sz : Int)] w fun e w' => e = .returned (.int .u64 (valB (rest.extract 0 sz) sz : Int)) ∧ Rd g (rest.extract sz rest.size) false w' ∧ Bo g w w' := by
  have HT : Hid _ := text_ok g rest sz hr w h
  have hss : (rest.extract 0 sz).size = sz := by rw [ByteArray.size_extract]; omega
  obtain ⟨s, hs⟩ : ∃ s, rest.extract 0 sz = s := ⟨_, rfl⟩
  obtain ⟨rs, hrs⟩ : ∃ rs, rest.extract sz rest.size = rs := ⟨_, rfl⟩
  rw [hs, hrs] at HT
  rw [hs] at hss ⊢
  rw [hrs]
  have HLT : Hid (g < w.heap.size) := (Array.getElem?_eq_some_iff.1 h).1
  clear h hs hrs
  refine (callsIn_wide (n := 5)).1 ?_
  refine callsIn_of_wp_marks Try.func41 rfl trivial ?_ rfl
  simp only [Try.ntmps41, List.size_toArray, List.length_cons, List.length_nil, Nat.reduceAdd, Nat.reduceSub, Array.replicate_succ, Array.replicate_zero, List.push_toArray, List.append_toArray, List.nil_append, List.cons_append]
  gi_wp2
  refine ⟨trivial, callsIn_wide.2 (Calls.mono HT.out ?_)⟩
  rintro e w2 ⟨rfl, r2, b2⟩
  obtain ⟨c0, c1, lg, -, -⟩ := rd_cells r2
  have HR2 : Hid (Rd g rs false w2 ∧ Bo g w w2) := ⟨r2, b2⟩
  clear r2 b2 HT
  gi_wp2
  refine ⟨trivial, callsIn_wide.2 ((shifts_any sz _).mono ?_)⟩
  rintro e Wf ⟨rfl, hWf⟩
  have hs2 : ((w2.alloc (.cells #[.string s] 9)).alloc (.cells #[.int .u64 0] 45)).heap.size = w2.heap.size + 2 := by simp
  obtain ⟨t1, t2, t3, t4, t5⟩ := trio w2 (.cells #[.string s] 9) (.cells #[.int .u64 0] 45) (.cells #[.int .i64 (sz : Int)] 3)
  rw [hs2]
  rw [← hWf] at t1 t2 t3 t4 t5
  have HT1 : Hid (Wf.heap[w2.heap.size]? = some (.cells #[.string s] 9 (0, 0))) := t1
  have HT2 : Hid (Wf.heap[w2.heap.size + 1]? = some (.cells #[.int .u64 0] 45 (0, 0))) := t2
  have HT3 : Hid (Wf.heap[w2.heap.size + 2]? = some (.cells #[.int .i64 (sz : Int)] 3 (0, 0))) := t3
  have HBf : Hid (Below w2.heap.size w2 Wf) := t4
  have HSf : Hid (Wf.heap.size = w2.heap.size + 3) := t5
  clear hs2 hWf t1 t2 t3 t4 t5 c0 c1
  gi_wp2
  refine range_law9 (by omega) (gf := 55) (lb := #[.pointer (some ⟨w2.heap.size + 2, 0, none⟩)]) rfl (enters_of Try.func55 (by kernel_rfl) rfl) (α := Nat) sz (fun k => #[.int .i64 (8 * (k : Int))]) (fun _ => rfl) (fun k x => x = k)
    (fun own' t W => NJ (w2.heap.size + 1) s Wf own' t W) (fun _ _ => False) .ret ?hJ ?hJx (fun j => j = w2.heap.size + 1) ?hown0 ?h0
    (fun k a' _ => a' = { tmps := #[.pointer (some ⟨g, 0, none⟩), .int .i64 (sz : Int), undef, undef, .int .u64 0, .pointer (some ⟨w2.heap.size, 0, none⟩), .pointer (some ⟨w2.heap.size + 1, 0, none⟩), .int .i64 (8 * (k : Int)), .pointer (some ⟨g, 0, none⟩), .int .i64 (sz : Int), .string s, .pointer (some ⟨g, 0, none⟩), .pointer (some ⟨g, 0, none⟩), .pointer (some ⟨g, 1, none⟩), .bool false, .int .i64 (sz : Int), .func (.func 55) #[] #[.pointer (some ⟨w2.heap.size + 2, 0, none⟩)], .int .i64 (8 * (k : Int)), undef, undef, undef, undef, undef, undef, undef, undef, undef, undef], defers := [] }) ?hA ?assign ?body ?iter ?done ?stop
  case hJ => intro own' k A B h hk; exact h.kw hk
  case hJx => intro own' A B h _; exact h
  case hown0 => intro j hj; have := HSf.out; omega
  case h0 => exact ⟨by simpa [valB] using HT2.out, fun j => Iff.rfl, But.refl _ _⟩
  case hA => intro x a' W l o' h _ _; exact h
  case assign =>
    intro l' own' k x W' K hk hok hJk hsz' hK
    clear hok hJk
    gi_wp2
    exact hK _ _ (Below.refl _ _) rfl
  case iter =>
    intro l' W5 hl' hB5 hs5 R' Rx' ow how hR' hRx' hY' h0'
    have hS := HSf.out
    refine shifts1_any Wf sz (w2.heap.size + 2) hsz HT3.out W5 hB5 l' R' Rx' ow (fun j hj => ?_) (fun own' k W hk hRk hsz' => hY' own' k k W hk rfl hRk hsz') h0'
    rcases (how j).1 hj with a | rfl
    · omega
    · omega
  case stop => intro D own' W' _ _ h _; exact h.elim
  case done =>
    intro D own' W' hDe hno hJ hdf
    have HDf : Hid _ := hdf
    have HJe : Hid (NJ (w2.heap.size + 1) s Wf own' sz W') := hJ
    have HDs : Hid (D = Wf.heap.size) := hDe
    have c6 : W'.cell? ⟨w2.heap.size + 1, 0, none⟩ = some (.int .u64 (valB s sz : Int)) := by rw [cell_of_row _ _ _ _ _ _ hJ.box]; rfl
    have l6 : w2.heap.size + 1 < W'.heap.size := (Array.getElem?_eq_some_iff.1 hJ.box).1
    clear hJ hdf hDe hno
    gi_wp2
    refine leaves_marks (fun W => results_tmp rfl _ _ _) [D] W' (by simp) (fun E hE => by simp at hE; subst hE; exact HDf.out) fun W'' hb => ?_
    have hS := HSf.out
    have hD := HDs.out
    have h1 := HJe.out.but
    have h2 := HBf.out
    have hbk : ∀ j, j < w2.heap.size → W''.heap[j]? = w2.heap[j]? := fun j hj => (hb.block j (Nat.lt_of_lt_of_le (by omega) h1.size) fun e => by
      have e' : j = D := by simpa using e
      omega).trans ((h1.block j (by omega) (by omega)).trans (h2.block j hj))
    refine ⟨rfl, (hbk g lg).trans HR2.out.1, HR2.out.2.trans ⟨hb.os.trans (h1.os.trans h2.os), hb.tape.trans (h1.tape.trans h2.tape), hb.output.trans (h1.output.trans h2.output), Nat.le_trans h2.size (Nat.le_trans h1.size hb.size), fun j hj _ => hbk j hj⟩⟩
  case body =>
    rintro l' own' k x a' W' hk rfl hJ rfl hsz' hol
    have hS := HSf.out
    have x1 := (hJ.but.block w2.heap.size (by omega) (by omega)).trans HT1.out
    have c5 : W'.drew.cell? ⟨w2.heap.size, 0, none⟩ = some (.string s) := by
      rw [World.cell?_of_block (a := ⟨w2.heap.size, 0, none⟩) (show W'.drew.heap[w2.heap.size]? = W'.heap[w2.heap.size]? from rfl), cell_of_row _ _ _ _ _ _ x1]; rfl
    have c6 : W'.drew.cell? ⟨w2.heap.size + 1, 0, none⟩ = some (.int .u64 (valB s x : Int)) := by
      rw [World.cell?_of_block (a := ⟨w2.heap.size + 1, 0, none⟩) (show W'.drew.heap[w2.heap.size + 1]? = W'.heap[w2.heap.size + 1]? from rfl), cell_of_row _ _ _ _ _ _ hJ.box]; rfl
    have f6 : W'.drew.frozen? ⟨w2.heap.size + 1, 0, none⟩ = false := frozen_of_row W'.drew _ 0 _ _ (show W'.drew.heap[w2.heap.size + 1]? = _ from hJ.box)
    have hxs : x < s.size := by omega
    have hbx : (s[x].toNat : Int) = (bt s x : Int) := by
      unfold bt
      have e : s.data[x]? = some s[x] := Array.getElem?_eq_getElem hxs
      rw [e]; rfl
    have HFIN : Hid (∃ own'', (∀ j, own'' j → own' j ∨ (W'.heap.size ≤ j ∧ j < (W'.drew.setCell ⟨w2.heap.size + 1, 0, none⟩ (.int .u64 (valB s (x + 1) : Int))).heap.size)) ∧ But own' W' (W'.drew.setCell ⟨w2.heap.size + 1, 0, none⟩ (.int .u64 (valB s (x + 1) : Int))) ∧ NJ (w2.heap.size + 1) s Wf own'' (x + 1) (W'.drew.setCell ⟨w2.heap.size + 1, 0, none⟩ (.int .u64 (valB s (x + 1) : Int)))) := by
      have hbs : Bo (w2.heap.size + 1) W' (W'.drew.setCell ⟨w2.heap.size + 1, 0, none⟩ (.int .u64 (valB s (x + 1) : Int))) := by
        have := bo_set W'.drew (w2.heap.size + 1) 0 (.int .u64 (valB s (x + 1) : Int))
        exact ⟨this.os, this.tape, this.output, this.size, this.block⟩
      refine ⟨own', fun j hj => .inl hj, hbs.more fun j _ hj => (hJ.own j).2 hj, ?_, hJ.own, hJ.but.trans hbs⟩
      have := heap_setCell_same W'.drew (w2.heap.size + 1) 0 _ _ (.int .u64 (valB s (x + 1) : Int)) (show W'.drew.heap[w2.heap.size + 1]? = _ from hJ.box)
      simpa using this
    have hmx : Try.prog.follows .mixedOrders = true := by kernel_rfl
    have hbl := bt_lt s x
    have hp64 : 2 ^ (8 * (x + 1)) ≤ 18446744073709551616 := Nat.le_trans (Nat.pow_le_pow_right (by decide) (show 8 * (x + 1) ≤ 64 by omega)) (by decide)
    have hv1 := valB_lt s (x + 1)
    have hv2 : valB s (x + 1) = valB s x + bt s x * 2 ^ (8 * x) := rfl
    have HM1 : Hid ((0 : Int) ≤ (bt s x : Int) * 2 ^ (8 * x) ∧ (bt s x : Int) * 2 ^ (8 * x) ≤ 18446744073709551615) := by
      have hb0 : bt s x * 2 ^ (8 * x) < 18446744073709551616 := by omega
      have e : ((bt s x * 2 ^ (8 * x) : Nat) : Int) = (bt s x : Int) * 2 ^ (8 * x) := by push_cast; rfl
      refine (?_ : _ ∧ _)
      rw [← e]
      omega
    have HOR : Hid (bits BinOp.or IntKind.u64 (valB s x : Int) ((bt s x : Int) * 2 ^ (8 * x)) = (valB s (x + 1) : Int)) := by
      refine (?_ : bits BinOp.or IntKind.u64 (valB s x : Int) ((bt s x : Int) * 2 ^ (8 * x)) = (valB s (x + 1) : Int))
      have e : ((bt s x * 2 ^ (8 * x) : Nat) : Int) = (bt s x : Int) * 2 ^ (8 * x) := by push_cast; rfl
      rw [← e, u64_or_nat _ _ (by omega) (by omega), ← valB_or, Nat.shiftLeft_eq]
    clear hp64 hv1 hv2
    have q1 : (0 : Int) ≤ (x : Int) := by omega
    have q2 : (x : Int) < (s.size : Int) := by omega
    have q3 : (8 * (x : Int)).tdiv 8 = (x : Int) := by rw [Int.mul_tdiv_cancel_left _ (by decide)]
    have q4 : IntKind.i64.wrap (x : Int) = (x : Int) := wrap_i64 (by omega) (by omega)
    have l6 : w2.heap.size + 1 < W'.drew.heap.size := (Array.getElem?_eq_some_iff.1 hJ.box).1
    clear hJ x1 hol hsz'
    gi_wp2
    refine wpIn_region_any hmx ?_
    change wpAnyIn _ _ _ _ _ _ _ _ _ (World.drew _)
    refine anyIn_round (F := Fence.wide) l' (by intro o ho c hc; simp at ho; rcases ho with rfl | rfl | rfl | rfl | rfl | rfl | rfl | rfl | rfl | rfl <;> cases hc) _ _ _ _ ?_
    refine wpAnyIn_take (i := 2) (v := ?_) rfl rfl (by kernel_rfl) (by kernel_rfl) (by kernel_rfl) (fun _ _ _ h => h) ⟨Or.inl ⟨by kernel_rfl, ?_⟩, fun _ => rfl⟩ ?_
    rotate_left
    · intro w
      go_simp
      try with_reducible rfl
    conv in (Act.put _ _ _) => simp only [List.getElem_toArray, List.getElem_cons_succ, List.getElem_cons_zero, Act.put, List.setIfInBounds_toArray, List.set_cons_succ, List.set_cons_zero]
    refine wpAnyIn_take (i := 6) (v := ?_) rfl rfl (by kernel_rfl) (by kernel_rfl) (by kernel_rfl) (fun _ _ _ h => h) ⟨Or.inl ⟨by kernel_rfl, ?_⟩, fun _ => rfl⟩ ?_
    rotate_left
    · intro w
      go_simp
      try with_reducible rfl
    conv in (Act.put _ _ _) => simp only [List.getElem_toArray, List.getElem_cons_succ, List.getElem_cons_zero, Act.put, List.setIfInBounds_toArray, List.set_cons_succ, List.set_cons_zero]
    refine wpAnyIn_take (i := 3) (v := .int .i64 (x : Int)) rfl rfl (by kernel_rfl) (by kernel_rfl) (by kernel_rfl) (fun _ _ _ h => h) ⟨Or.inl ⟨by kernel_rfl, ?_⟩, fun _ => rfl⟩ ?_
    · intro w
      go_simp
      all_goals (try rw [q3])
      all_goals (try rw [q4])
    conv in (Act.put _ _ _) => simp only [List.getElem_toArray, List.getElem_cons_succ, List.getElem_cons_zero, Act.put, List.setIfInBounds_toArray, List.set_cons_succ, List.set_cons_zero]
    refine wpAnyIn_ready (rs := [0, 1]) (by kernel_rfl) (by simp) ?_
    refine (AllReadyIn.cons rfl (fun K hK => ?_) (AllReadyIn.cons rfl (fun K hK => ?_) AllReadyIn.nil))
    · go_simp
      refine hK _ _ ?_
      clear hK K
      refine wpAnyIn_ready (rs := [1]) (by kernel_rfl) (by simp) ?_
      refine (AllReadyIn.cons rfl (fun K hK => ?_) AllReadyIn.nil)
      go_simp
      refine hK _ _ ?_
      clear hK K
      refine wpAnyIn_take (i := 4) (v := .int .u8 (bt s x : Int)) rfl rfl (by kernel_rfl) (by kernel_rfl) (by kernel_rfl) (fun _ _ _ h => h) ⟨Or.inl ⟨by kernel_rfl, ?_⟩, fun _ => rfl⟩ ?_
      · intro w
        go_simp
      conv in (Act.put _ _ _) => simp only [List.getElem_toArray, List.getElem_cons_succ, List.getElem_cons_zero, Act.put, List.setIfInBounds_toArray, List.set_cons_succ, List.set_cons_zero]
      refine wpAnyIn_take (i := 5) (v := .int .u64 (bt s x : Int)) rfl rfl (by kernel_rfl) (by kernel_rfl) (by kernel_rfl) (fun _ _ _ h => h) ⟨Or.inl ⟨by kernel_rfl, ?_⟩, fun _ => rfl⟩ ?_
      · intro w
        go_simp
        all_goals (try exact IntWalk.u64_in _ ⟨by omega, by omega⟩)
      conv in (Act.put _ _ _) => simp only [List.getElem_toArray, List.getElem_cons_succ, List.getElem_cons_zero, Act.put, List.setIfInBounds_toArray, List.set_cons_succ, List.set_cons_zero]
      refine wpAnyIn_take (i := 7) (v := .int .u64 ((bt s x * 2 ^ (8 * x) : Nat) : Int)) rfl rfl (by kernel_rfl) (by kernel_rfl) (by kernel_rfl) (fun _ _ _ h => h) ⟨Or.inl ⟨by kernel_rfl, ?_⟩, fun _ => rfl⟩ ?_
      · intro w
        go_simp
        rw [show (8 * (x : Int)).toNat = 8 * x by omega]
        exact IntWalk.u64_in _ HM1.out
      conv in (Act.put _ _ _) => simp only [List.getElem_toArray, List.getElem_cons_succ, List.getElem_cons_zero, Act.put, List.setIfInBounds_toArray, List.set_cons_succ, List.set_cons_zero]
      refine wpAnyIn_take (i := 8) (v := .int .u64 (valB s (x + 1) : Int)) rfl rfl (by kernel_rfl) (by kernel_rfl) (by kernel_rfl) (fun _ _ _ h => h) ⟨Or.inl ⟨by kernel_rfl, ?_⟩, fun _ => rfl⟩ ?_
      · intro w
        go_simp
        exact HOR.out
      conv in (Act.put _ _ _) => simp only [List.getElem_toArray, List.getElem_cons_succ, List.getElem_cons_zero, Act.put, List.setIfInBounds_toArray, List.set_cons_succ, List.set_cons_zero]
      refine wpAnyIn_ready (rs := [9]) (by kernel_rfl) (by simp) ?_
      refine (AllReadyIn.cons rfl (fun K hK => ?_) AllReadyIn.nil)
      go_simp
      refine hK _ _ ?_
      clear hK K
      refine wpAnyIn_done (by kernel_rfl) ?_ _
      gi_wp2
      exact HFIN.out
    · go_simp
      refine hK _ _ ?_
      clear hK K
      refine wpAnyIn_take (i := 4) (v := .int .u8 (bt s x : Int)) rfl rfl (by kernel_rfl) (by kernel_rfl) (by kernel_rfl) (fun _ _ _ h => h) ⟨Or.inl ⟨by kernel_rfl, ?_⟩, fun _ => rfl⟩ ?_
      · intro w
        go_simp
      conv in (Act.put _ _ _) => simp only [List.getElem_toArray, List.getElem_cons_succ, List.getElem_cons_zero, Act.put, List.setIfInBounds_toArray, List.set_cons_succ, List.set_cons_zero]
      refine wpAnyIn_take (i := 5) (v := .int .u64 (bt s x : Int)) rfl rfl (by kernel_rfl) (by kernel_rfl) (by kernel_rfl) (fun _ _ _ h => h) ⟨Or.inl ⟨by kernel_rfl, ?_⟩, fun _ => rfl⟩ ?_
      · intro w
        go_simp
        all_goals (try exact IntWalk.u64_in _ ⟨by omega, by omega⟩)
      conv in (Act.put _ _ _) => simp only [List.getElem_toArray, List.getElem_cons_succ, List.getElem_cons_zero, Act.put, List.setIfInBounds_toArray, List.set_cons_succ, List.set_cons_zero]
      refine wpAnyIn_take (i := 7) (v := .int .u64 ((bt s x * 2 ^ (8 * x) : Nat) : Int)) rfl rfl (by kernel_rfl) (by kernel_rfl) (by kernel_rfl) (fun _ _ _ h => h) ⟨Or.inl ⟨by kernel_rfl, ?_⟩, fun _ => rfl⟩ ?_
      · intro w
        go_simp
        rw [show (8 * (x : Int)).toNat = 8 * x by omega]
        exact IntWalk.u64_in _ HM1.out
      conv in (Act.put _ _ _) => simp only [List.getElem_toArray, List.getElem_cons_succ, List.getElem_cons_zero, Act.put, List.setIfInBounds_toArray, List.set_cons_succ, List.set_cons_zero]
      refine wpAnyIn_ready (rs := [0]) (by kernel_rfl) (by simp) ?_
      refine (AllReadyIn.cons rfl (fun K hK => ?_) AllReadyIn.nil)
      go_simp
      refine hK _ _ ?_
      clear hK K
      refine wpAnyIn_take (i := 8) (v := .int .u64 (valB s (x + 1) : Int)) rfl rfl (by kernel_rfl) (by kernel_rfl) (by kernel_rfl) (fun _ _ _ h => h) ⟨Or.inl ⟨by kernel_rfl, ?_⟩, fun _ => rfl⟩ ?_
      · intro w
        go_simp
        exact HOR.out
      conv in (Act.put _ _ _) => simp only [List.getElem_toArray, List.getElem_cons_succ, List.getElem_cons_zero, Act.put, List.setIfInBounds_toArray, List.set_cons_succ, List.set_cons_zero]
      refine wpAnyIn_ready (rs := [9]) (by kernel_rfl) (by simp) ?_
      refine (AllReadyIn.cons rfl (fun K hK => ?_) AllReadyIn.nil)
      go_simp
      refine hK _ _ ?_
      clear hK K
      refine wpAnyIn_done (by kernel_rfl) ?_ _
      gi_wp2
      exact HFIN.out
end Go.Proofs.Ytljponlfjombaaa.Rw
/- A reader: texts and numbers, whatever is left. -/
namespace Go.Proofs.Ytljponlfjombaaa.Rw
open Go.RowKit Go.Lib Go.Shelf
open Go.Proofs.Ytljponlfjombaaa.Rc Go.Proofs.Ytljponlfjombaaa.Rq
/-- What is left to be read, and whether there was too little. -/
structure RS where
  r : ByteArray
  s : Bool
def okN (st : RS) (n : Nat) : Bool := !st.s && decide (n ≤ st.r.size)
def txtS (st : RS) (n : Nat) : ByteArray := if okN st n = true then st.r.extract 0 n else ⟨#[]⟩
def numS (st : RS) (n : Nat) : Nat := if okN st n = true then valB (st.r.extract 0 n) n else 0
def aftS (st : RS) (n : Nat) : RS := if okN st n = true then ⟨st.r.extract n st.r.size, false⟩ else ⟨st.r, true⟩
abbrev RdS (g : Nat) (st : RS) (W : World) : Prop := Rd g st.r st.s W
set_option maxRecDepth 100000 in
theorem okN_no {st : RS} {n : Nat} (h : okN st n = false) : st.s = true ∨ st.r.size < n := by
  unfold okN at h
  cases hs : st.s
  · rw [hs] at h
    simp at h
    exact .inr h
  · exact .inl rfl
set_option maxRecDepth 100000 in
theorem okN_yes {st : RS} {n : Nat} (h : okN st n = true) : st.s = false ∧ n ≤ st.r.size := by
  unfold okN at h
  simpa using h
set_option maxRecDepth 100000 in
theorem text_any (g : Nat) (st : RS) (n : Nat) (w : World) (h : RdS g st w) :
    Calls Try.prog 49 #[.pointer (some ⟨g, 0, none⟩), .int .i64 (n : Int)] w fun e w' => e = .returned (.string (txtS st n)) ∧ RdS g (aftS st n) w' ∧ Bo g w w' := by
  unfold txtS aftS
  cases hk : okN st n
  · simpa using text_no g st.r st.s n (okN_no hk) w h
  · obtain ⟨h1, h2⟩ := okN_yes hk
    have h' : Rd g st.r false w := h1 ▸ h
    simpa using text_ok g st.r n h2 w h'
set_option maxRecDepth 100000 in
theorem number_any (g : Nat) (st : RS) (n : Nat) (hn : n ≤ 8) (w : World) (h : RdS g st w) :
    Calls Try.prog 41 #[.pointer (some ⟨g, 0, none⟩), .int .i64 (n : Int)] w fun e w' => e = .returned (.int .u64 (numS st n : Int)) ∧ RdS g (aftS st n) w' ∧ Bo g w w' := by
  unfold numS aftS
  cases hk : okN st n
  · simpa using number_no g st.r st.s n (okN_no hk) w h
  · obtain ⟨h1, h2⟩ := okN_yes hk
    have h' : Rd g st.r false w := h1 ▸ h
    simpa using number_ok g st.r n hn h2 w h'
set_option maxRecDepth 100000 in
theorem numS_lt (st : RS) (n : Nat) : numS st n < 2 ^ (8 * n) := by
  unfold numS
  split
  · exact valB_lt _ _
  · exact Nat.pow_pos (by decide)
end Go.Proofs.Ytljponlfjombaaa.Rw
