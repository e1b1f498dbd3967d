import Derived.Test.YtmlechalhldlhaaDoorD
import Derived.Room.AppendFits
import Derived.Shelf.Abstract
import Derived.Shelf.RegionOpen
import Derived.Laws.OwnMore
namespace Go.Proofs.YtmlechalhldlhaaDoor
open Go.RowKit Go.Shelf Go.Lib
attribute [local go_sem] Oper.semAt_some
def upto (f : Nat → Int) (k : Nat) : List Int := (List.range k).map f
theorem upto_length (f : Nat → Int) (k : Nat) : (upto f k).length = k := by simp [upto]
/-- A byte of a text. -/
def bt (s : ByteArray) (i : Nat) : Int := ((s.data[i]?.getD 0).toNat : Int)
theorem bt_range (s : ByteArray) (i : Nat) : 0 ≤ bt s i ∧ bt s i < 256 := by
  unfold bt
  have := (s.data[i]?.getD 0).toNat_lt
  omega
theorem bt_ext (s : ByteArray) (a b i : Nat) (h : i < min b s.size - a) : bt (s.extract a b) i = bt s (a + i) := by
  unfold bt
  rw [ByteArray.data_extract, Array.getElem?_extract, if_pos (show i < min b s.data.size - a from h)]
theorem strCells_get (s : ByteArray) (i : Nat) (h : i < s.size) : (strCells s)[i]? = some (.int .u8 (bt s i)) := by
  unfold strCells bt
  rw [List.getElem?_map, Array.getElem?_toList]
  have e : s.data[i]? = some s.data[i] := Array.getElem?_eq_getElem h
  rw [e]; rfl
/-- The byte cells of a message from a place on. -/
def mc (M : Nat → Int) (a c : Nat) : List Value := (upto (fun j => M (a + j)) c).map (Value.int .u8)
theorem mc_get (M : Nat → Int) (a c j : Nat) (h : j < c) : (mc M a c)[j]? = some (.int .u8 (M (a + j))) := by simp [mc, upto, h]
theorem mc_length (M : Nat → Int) (a c : Nat) : (mc M a c).length = c := by simp [mc, upto]
theorem mc_app (M : Nat → Int) (a c : Nat) (s : ByteArray) (h : ∀ j, j < s.size → bt s j = M (a + c + j)) : mc M a c ++ strCells s = mc M a (c + s.size) := by
  apply List.ext_getElem?
  intro j
  by_cases h1 : j < c
  · rw [List.getElem?_append_left (by rw [mc_length]; exact h1), mc_get _ _ _ _ h1, mc_get _ _ _ _ (by omega)]
  · rw [List.getElem?_append_right (by rw [mc_length]; omega), mc_length]
    by_cases h2 : j < c + s.size
    · rw [strCells_get _ _ (by omega), mc_get _ _ _ _ h2, h (j - c) (by omega), show a + c + (j - c) = a + j by omega]
    · rw [List.getElem?_eq_none (by rw [strCells_length]; omega), List.getElem?_eq_none (by rw [mc_length]; omega)]
/-- Where texts behind each other begin. -/
def offs (ts : Nat → ByteArray) : Nat → Nat
  | 0 => 0
  | i + 1 => offs ts i + (ts i).size
theorem offs_mono (ts : Nat → ByteArray) {i j : Nat} (h : i ≤ j) : offs ts i ≤ offs ts j := by
  induction j with
  | zero => obtain rfl : i = 0 := by omega
            exact Nat.le_refl _
  | succ j ih =>
    by_cases e : i = j + 1
    · subst e; exact Nat.le_refl _
    · have := ih (by omega)
      show offs ts i ≤ offs ts j + (ts j).size
      omega
/-- All cells but a block's are kept. -/
def Kc (g : Nat) (A B : World) : Prop := A.heap.size ≤ B.heap.size ∧ ∀ j o, j ≠ g → A.heap[j]? = some o → o.isCells = true → B.heap[j]? = some o
theorem Kc.refl (g : Nat) (A : World) : Kc g A A := ⟨Nat.le_refl _, fun _ _ _ h _ => h⟩
theorem Kc.trans {g : Nat} {A B C : World} (h : Kc g A B) (k : Kc g B C) : Kc g A C := ⟨Nat.le_trans h.1 k.1, fun j o hj ho hc => k.2 j o hj (h.2 j o hj ho hc) hc⟩
theorem Kc.put (g : Nat) (W : World) (l : Nat) (o o' : Obj) (h : W.heap[l]? = some o) (hc : o.isCells = false) : Kc g W (W.putObj l o') :=
  ⟨by simp [World.putObj], fun j p _ hp hpc => by
    by_cases e : j = l
    · subst e; rw [h] at hp; cases hp; rw [hc] at hpc; cases hpc
    · exact (World.putObj_heap_other e).trans hp⟩
theorem Kc.own {g : Nat} {A B : World} (h : Kc g A B) {base : Nat} {e : TypeId} {p cap n : Nat} {xs : List Value} (ho : A.ownsRow base e 1 (.slice (some ⟨p, 0, none⟩) n cap) n xs) (hp : p ≠ g) : B.ownsRow base e 1 (.slice (some ⟨p, 0, none⟩) n cap) n xs := by
  refine ⟨ho.1, ?_⟩
  rcases ho.2 with ⟨hv, _⟩ | ⟨g', cap', cur, hv, hb, hh, rest⟩
  · cases hv
  · cases hv
    exact .inr ⟨p, cap, cur, rfl, hb, h.2 _ _ hp hh rfl, rest⟩
theorem own_zero {A : World} {base : Nat} {e : TypeId} {p cap n : Nat} {xs : List Value} (ho : A.ownsRow base e 1 (.slice (some ⟨p, 0, none⟩) n cap) n xs) : A.ownsRow base e 1 (.slice (some ⟨p, 0, none⟩) 0 cap) 0 [] := by
  refine ⟨rfl, ?_⟩
  rcases ho.2 with ⟨hv, _⟩ | ⟨g', cap', cur, hv, hb, hh, h1, h2, h3, _⟩
  · cases hv
  · cases hv
    exact .inr ⟨p, cap, cur, rfl, hb, hh, Nat.zero_le _, h2, h3, by simp⟩
theorem own_cell {A : World} {base : Nat} {e : TypeId} {p cap n : Nat} {xs : List Value} (ho : A.ownsRow base e 1 (.slice (some ⟨p, 0, none⟩) n cap) n xs) {j : Nat} {v : Value} (h : xs[j]? = some v) : A.cell? ⟨p, j, none⟩ = some v := by
  rcases ho.2 with ⟨hv, _⟩ | ⟨g', cap', cur, hv, hb, hh, h1, h2, h3, h4⟩
  · cases hv
  · cases hv
    rw [cell_of_row _ _ _ _ _ _ hh]
    rw [← h4] at h
    have hj : j < n * 1 := by
      have := (List.getElem?_eq_some_iff.1 h).1
      simp at this; omega
    rw [List.getElem?_take_of_lt hj] at h
    simpa using h
theorem own_lt {A : World} {base : Nat} {e : TypeId} {p cap n : Nat} {xs : List Value} (ho : A.ownsRow base e 1 (.slice (some ⟨p, 0, none⟩) n cap) n xs) : p < A.heap.size := by
  rcases ho.2 with ⟨hv, _⟩ | ⟨g', cap', cur, hv, hb, hh, _⟩
  · cases hv
  · cases hv
    exact (Array.getElem?_eq_some_iff.1 hh).1
/-- The built-in append of a text, by its run, inside a fence. -/
theorem opIn_append_s {F : Fence} {n : Nat} {P : Program} {o : Oper} {a : Act} {w : World} {K : Act → World → Prop} {Q : Exit → Act → World → Prop} (t u : TypeId) (s x : Operand) (ho : o.op = .call { callee := .builtin .append, args := #[s, x], argTypes := #[t, u] })
    {vs vx v' : Value} {w' : World} (hs : a.eval s = vs) (hx : a.eval x = vx) (hrun : (Builtin.append_ #[t, u] o.type #[vs, vx]).run P w = .ok v' w') (hK : K (a.put o.dst v') w') : o.wpIn F n P a w K Q := by
  unfold Oper.wpIn
  refine ⟨?_, ?_⟩
  · simp [Oper.about, ho, resolve, Target.leads]
  · rw [Oper.semAt_plain F _ _ (by rw [ho]; intro c hc; cases hc)]
    simp [execOp, ho, hs, hx, hrun, Result.andThen, resolve, invoke, builtin]
    exact hK
theorem listIn_append_s {F : Fence} {n : Nat} {P : Program} {ops : Array Oper} {rest : List Oper} {o : Oper} {a : Act} {w : World} {Q : Exit → Act → World → Prop} (hgd : o.guard = none) (t u : TypeId) (s x : Operand) (ho : o.op = .call { callee := .builtin .append, args := #[s, x], argTypes := #[t, u] })
    {vs vx v' : Value} {w' : World} (hs : a.eval s = vs) (hx : a.eval x = vx) (hrun : (Builtin.append_ #[t, u] o.type #[vs, vx]).run P w = .ok v' w') (h : wpListIn F n P ops Q rest (a.put o.dst v') w') : wpListIn F n P ops Q (o :: rest) a w :=
  wpListIn_plain hgd fun _ hK => opIn_append_s t u s x ho hs hx hrun (hK _ _ h)
theorem info5 : (Tryd.prog.info? 5).map (fun i => (i.zero, i.size, i.bytes)) = some (some (.int .u8 0), 1, 1) := by kernel_rfl
theorem info_parts {t : TypeId} {z : Value} {s b : Nat} (h : (Tryd.prog.info? t).map (fun i => (i.zero, i.size, i.bytes)) = some (some z, s, b)) : ∃ i, Tryd.prog.info? t = some i ∧ i.zero = some z ∧ i.size = s ∧ i.bytes = b := by
  obtain ⟨i, hi, h'⟩ := Option.map_eq_some_iff.1 h
  simp at h'
  exact ⟨i, hi, h'.1, h'.2.1, h'.2.2⟩
theorem Kc.cell {g : Nat} {A B : World} (h : Kc g A B) {b x : Nat} {v : Value} (hb : b ≠ g) (hc : A.cell? ⟨b, x, none⟩ = some v) : B.cell? ⟨b, x, none⟩ = some v := by
  obtain ⟨o, ho, hoc⟩ := cells_of_cell hc
  have e : B.heap[b]? = A.heap[b]? := (h.2 b o hb ho hoc).trans ho.symm
  rw [← hc]
  unfold World.cell?
  simp only [e]
theorem Kc.below {g B : Nat} {X Y : World} (h : Below B X Y) (hB : X.heap.size ≤ B) : Kc g X Y := ⟨h.size, fun j _ _ ho _ => (h.block j (Nat.lt_of_lt_of_le (Array.getElem?_eq_some_iff.1 ho).1 hB)).trans ho⟩
theorem Kc.grown {g r : Nat} {X Y Z : World} (h : Kc g X Y) (hg : Y.grownBy Z (some r)) (hr : X.heap.size ≤ r) : Kc g X Z :=
  ⟨Nat.le_trans h.1 hg.size, fun j o hj ho hc => (hg.block j (Nat.lt_of_lt_of_le (Array.getElem?_eq_some_iff.1 ho).1 h.1) (by have := (Array.getElem?_eq_some_iff.1 ho).1; intro e; cases e; omega)).trans (h.2 j o hj ho hc)⟩
theorem grown_below {B r : Nat} {X Y : World} (hg : X.grownBy Y (some r)) (hr : B ≤ r) (hB : B ≤ X.heap.size) : Below B X Y := ⟨hg.os, hg.tape, hg.output, hg.size, fun k hk => hg.block k (by omega) (by intro e; cases e; omega)⟩
theorem ext_ext (s : ByteArray) (a n : Nat) : (s.extract a s.size).extract n (s.extract a s.size).size = s.extract (a + n) s.size := by
  apply ByteArray.ext
  simp [ByteArray.data_extract, Array.extract_extract]
  congr 1
  omega
/-- How long the text in a slot is. -/
def szOf : Value → Nat | .string u => u.size | _ => 0
/-- What the iterator says of a part that it yields. -/
def Yp (B0 T : Nat) (M : Nat → Int) (k : Nat) (x : Nat × Nat) (W : World) : Prop :=
  B0 ≤ x.1 ∧ x.1 < W.heap.size ∧ x.2 ≤ 64 ∧ 64 * k + x.2 ≤ T ∧ (x.2 < 64 → 64 * k + x.2 = T) ∧ ∀ j, j < x.2 → W.cell? ⟨x.1, j, none⟩ = some (.int .u8 (M (64 * k + j)))
set_option maxRecDepth 100000 in
set_option maxHeartbeats 1000000 in
theorem parts1_in (n : Nat) (hn : 1 ≤ n) (l b1 b2 g len cap : Nat) (o : Option Addr) (s0 : ByteArray) (ts : Nat → ByteArray) (M : Nat → Int) (T : Nat) (W : World)
    (hs0 : s0.size < 64) (hm0 : ∀ j, j < s0.size → bt s0 j = M j) (hm : ∀ i, i < len → ∀ j, j < (ts i).size → bt (ts i) j = M (s0.size + offs ts i + j)) (hT : T = s0.size + offs ts len) (hlen : len ≤ 1099511627776)
    (hts : ∀ i, i < len → (ts i).size ≤ 1099511627776 ∧ ∃ b off, o = some ⟨b, off, none⟩ ∧ b ≠ g ∧ b < W.heap.size ∧ W.cell? ⟨b, off + i, none⟩ = some (.string (ts i)))
    (h1 : W.heap[b1]? = some (.cells #[.string s0] 9 (0, 0))) (h2 : W.heap[b2]? = some (.cells #[.slice o len cap] 57 (0, 0))) (hgW : g < W.heap.size)
    (R : Nat → World → Prop) (Rx : World → Prop) (hR : ∀ k A B, R k A → Below W.heap.size A B → R k B) (hRx : ∀ A B, Rx A → Below W.heap.size A B → Rx B)
    (hY : ∀ k x A, R k A → Yp W.heap.size T M k x A → YieldAt Fence.wide (n - 1) Tryd.prog l #[.slice (some ⟨x.1, 0, none⟩) x.2 64] A fun e B => (e = .returned (.bool true) ∧ R (k + 1) B ∧ Kc g A B) ∨ (e = .returned (.bool false) ∧ Rx B))
    (h0 : R 0 W) :
    CallsIn Fence.wide n Tryd.prog 49 #[.func (.yield l) #[] #[], .pointer (some ⟨b1, 0, none⟩), .pointer (some ⟨b2, 0, none⟩)] W fun e W' => (∃ v, e = .returned v) ∧ (Rx W' ∨ ∃ k, R k W' ∧ T < 64 * k) := by
  have hmx : Tryd.prog.follows .mixedOrders = true := by kernel_rfl
  obtain ⟨i0, hi, hz0, hz1, hz2⟩ := info_parts info5
  have c1 : W.cell? ⟨b1, 0, none⟩ = some (.string s0) := by rw [cell_of_row _ _ _ _ _ _ h1]; rfl
  have HM0 : Hid _ := hm0
  have HM : Hid _ := hm
  have HTS : Hid _ := hts
  have HB1 : Hid _ := h1
  have HB2 : Hid _ := h2
  have HR : Hid _ := hR
  have HRx : Hid _ := hRx
  have HY : Hid _ := hY
  have H0 : Hid _ := h0
  have HT : Hid _ := hT
  have HL : Hid _ := hlen
  have l1 : b1 < W.heap.size := (Array.getElem?_eq_some_iff.1 h1).1
  have l2 : b2 < W.heap.size := (Array.getElem?_eq_some_iff.1 h2).1
  clear hm0 hm hts h1 h2 hR hRx hY h0 hT hlen
  refine callsIn_of_wp Tryd.func49 rfl trivial ?_ rfl
  simp only [Tryd.ntmps49, List.size_toArray, List.length_cons, List.length_nil, Nat.reduceAdd, Nat.reduceSub, Array.replicate_succ, Array.replicate_zero, List.push_toArray, List.append_toArray, List.nil_append, List.cons_append]
  gi_wp2
  obtain ⟨Wm, hmk0, hown, hgrow⟩ := run_make_own (P := Tryd.prog) W.drew W.heap.size 42 5 i0 (.int .u8 0) 1 Tryd.underlying42 hi hz0 hz1 .i64 .i64 64 (by rw [hz2]; decide) (by decide) (Nat.le_refl _)
  have hmk : (Instr.makeSlice 42 (.int .i64 0) (.int .i64 64)).run Tryd.prog W.drew = .ok (.slice (some ⟨W.heap.size, 0, none⟩) 0 64) Wm := hmk0
  obtain ⟨Wa, hrun0, hownA0, hgrowA⟩ := run_append_fits_string (P := Tryd.prog) Wm W.heap.size 42 9 42 5 i0 Tryd.underlying42 Tryd.underlying9 hi hz1 (some ⟨W.heap.size, 0, none⟩) 0 64 [] hown s0 (by decide) (by omega)
  have hrun : (Builtin.append_ #[42, 9] 42 #[.slice (some ⟨W.heap.size, 0, none⟩) 0 64, .string s0]).run Tryd.prog Wm = .ok (.slice (some ⟨W.heap.size, 0, none⟩) s0.size 64) Wa := by rw [hrun0, Nat.zero_add]
  have c1m : Wm.cell? ⟨b1, 0, none⟩ = some (.string s0) := by
    have e : Wm.heap[b1]? = some (.cells #[.string s0] 9 (0, 0)) := (hgrow.block b1 l1 (by simp)).trans HB1.out
    rw [cell_of_row _ _ _ _ _ _ e]; rfl
  have HA : Hid (Wa.ownsRow W.heap.size 5 1 (.slice (some ⟨W.heap.size, 0, none⟩) s0.size 64) s0.size (mc M (64 * 0) s0.size)) := by
    have e : mc M (64 * 0) 0 ++ strCells s0 = mc M (64 * 0) (0 + s0.size) := mc_app M _ _ s0 (fun j hj => by rw [HM0.out j hj]; congr 1; omega)
    rw [Nat.zero_add] at e hownA0
    rw [← e]
    exact hownA0
  have HWA : Hid (Below W.heap.size W Wa) := ⟨hgrowA.os.trans hgrow.os, hgrowA.tape.trans hgrow.tape, hgrowA.output.trans hgrow.output, Nat.le_trans hgrow.size hgrowA.size, fun k hk => (hgrowA.block k (Nat.lt_of_lt_of_le hk hgrow.size) (by simp [Value.ownBlock]; omega)).trans (hgrow.block k hk (by simp))⟩
  clear hmk0 hrun0 hownA0 hgrowA hown hgrow
  refine wpIn_region_any hmx ?_
  change wpAnyIn _ _ _ _ _ _ _ _ _ (World.drew _)
  refine wpAnyIn_ready (rs := [0, 1]) (by kernel_rfl) (by simp) ?_
  refine (AllReadyIn.cons rfl (fun K hK => ?_) (AllReadyIn.cons rfl (fun K hK => ?_) AllReadyIn.nil))
  · go_simp
    refine hK _ _ ?_
    clear hK K
    refine wpAnyIn_ready (rs := [1]) (by kernel_rfl) (by simp) ?_
    refine (AllReadyIn.cons rfl (fun K hK => ?_) AllReadyIn.nil)
    go_simp
    refine hK _ _ ?_
    clear hK K
    refine wpAnyIn_ready (rs := [2]) (by kernel_rfl) (by simp) ?_
    refine (AllReadyIn.cons rfl (fun K hK => ?_) AllReadyIn.nil)
    rw [if_pos (by rfl)]
    refine opIn_append_s 42 9 _ _ rfl rfl rfl hrun ?_
    refine hK _ _ ?_
    clear hK K
    refine wpAnyIn_ready (rs := [3]) (by kernel_rfl) (by simp) ?_
    refine (AllReadyIn.cons rfl (fun K hK => ?_) AllReadyIn.nil)
    go_simp
    refine hK _ _ ?_
    clear hK K
    refine wpAnyIn_done (by kernel_rfl) ?_ _
    clear hmk hrun c1m c1
    have c2 : Wa.cell? ⟨b2, 0, none⟩ = some (.slice o len cap) := by rw [cell_of_row _ _ _ _ _ _ ((HWA.out.block b2 l2).trans HB2.out)]; rfl
    gi_wp2
    clear c2
    gi_loopw [4, 13] (fun v i wr => ∃ c j k : Nat, v = .slice (some ⟨W.heap.size, 0, none⟩) c 64 ∧ i = .int .i64 (j : Int) ∧ j ≤ len ∧ c < 64 ∧ 64 * k + c = s0.size + offs ts j ∧ wr.ownsRow W.heap.size 5 1 (.slice (some ⟨W.heap.size, 0, none⟩) c 64) c (mc M (64 * k) c) ∧ R k wr ∧ Kc g W wr) (fun _ i _ => len - (intOf i).toNat)
    case atStart => exact ⟨s0.size, 0, 0, rfl, rfl, Nat.zero_le _, hs0, by simp [offs], HA.out, HR.out 0 W Wa H0.out HWA.out, Kc.below HWA.out (Nat.le_refl _)⟩
    case round =>
      obtain ⟨c, j, k, rfl, rfl, hj, hc, hpos, hown, hRk, hkc⟩ := hrel
      have HO : Hid _ := hown
      have HRk : Hid _ := hRk
      have HKC : Hid (Kc g W wr) := hkc
      have HP : Hid _ := hpos
      clear hown hRk hkc hpos HA HWA
      by_cases hlt : j < len
      · obtain ⟨hsz, b, off, ho, hbg, hbW, hcell⟩ := HTS.out j hlt
        subst ho
        have ct : wr.cell? ⟨b, off + j, none⟩ = some (.string (ts j)) := HKC.out.cell hbg hcell
        have HMj : Hid (∀ i, i < (ts j).size → bt (ts j) i = M (s0.size + offs ts j + i)) := HM.out j hlt
        have HOJ : Hid (offs ts (j + 1) = offs ts j + (ts j).size) := rfl
        have HSZ : Hid _ := hsz
        clear hcell hsz
        generalize ts j = tj at *
        have g0 : (0 : Int) ≤ (j : Int) := by omega
        have g1 : (j : Int) < (len : Int) := by omega
        have g2 : (j : Int) ≤ 1099511627776 := by have := HL.out; omega
        gi_wp2
        clear ct
        gi_loopw [4, 6] (fun v t' wr => ∃ c d k : Nat, v = .slice (some ⟨W.heap.size, 0, none⟩) c 64 ∧ t' = .string (tj.extract d tj.size) ∧ d ≤ tj.size ∧ c < 64 ∧ 64 * k + c = s0.size + offs ts j + d ∧ wr.ownsRow W.heap.size 5 1 (.slice (some ⟨W.heap.size, 0, none⟩) c 64) c (mc M (64 * k) c) ∧ R k wr ∧ Kc g W wr) (fun _ t' _ => szOf t')
        case atStart => exact ⟨c, 0, k, rfl, by simp, Nat.zero_le _, hc, HP.out, HO.out, HRk.out, HKC.out⟩
        case round =>
          clear HO HRk HKC HP hc
          obtain ⟨c, d, k, rfl, rfl, hd, hc, hpos, hown, hRk, hkc⟩ := hrel
          have HO : Hid (wr.ownsRow W.heap.size 5 1 (.slice (some ⟨W.heap.size, 0, none⟩) c 64) c (mc M (64 * k) c)) := hown
          have HRk : Hid (R k wr) := hRk
          have HKC : Hid (Kc g W wr) := hkc
          have HP : Hid (64 * k + c = s0.size + offs ts j + d) := hpos
          clear hown hRk hkc hpos
          obtain ⟨u, hu⟩ : ∃ u, tj.extract d tj.size = u := ⟨_, rfl⟩
          have hus : u.size = tj.size - d := by rw [← hu]; simp
          have HU : Hid (tj.extract d tj.size = u) := hu
          have HUM : Hid (∀ i, i < u.size → bt u i = M (64 * k + c + i)) := fun i hi => by
            rw [← HU.out, bt_ext _ _ _ _ (by omega), HMj.out (d + i) (by omega), HP.out]; congr 1; omega
          have hum : u.size ≤ 1099511627776 := by have := HSZ.out; omega
          have HUS : Hid _ := hus
          rw [hu]
          clear hu hus
          have c0 : (0 : Int) ≤ (c : Int) := by omega
          have c3 : (c : Int) < 64 := by omega
          have hum' : (u.size : Int) ≤ 1099511627776 := by omega
          by_cases h64 : 64 ≤ c + u.size
          · have q1 : (64 : Int) ≤ (c : Int) + (u.size : Int) := by omega
            obtain ⟨n1, hn1⟩ : ∃ n1, 64 - c = n1 := ⟨_, rfl⟩
            have q2 : (64 : Int) - (c : Int) = (n1 : Int) := by omega
            have q3 : n1 ≤ u.size := by omega
            have q4 : (n1 : Int) ≤ (u.size : Int) := by omega
            have HN1 : Hid (64 - c = n1 ∧ 1 ≤ n1) := ⟨hn1, by omega⟩
            have hxs : (u.extract 0 n1).size = n1 := by simp; omega
            obtain ⟨W5, hrun0, hown5, hgrow5⟩ := run_append_fits_string (P := Tryd.prog) wr W.heap.size 42 9 42 5 i0 Tryd.underlying42 Tryd.underlying9 hi hz1 (some ⟨W.heap.size, 0, none⟩) c 64 _ HO.out (u.extract 0 n1) (by decide) (by omega)
            rw [mc_app M (64 * k) c _ (fun i hi => by rw [bt_ext _ _ _ _ (by omega), Nat.zero_add]; exact HUM.out i (by omega)), hxs, show c + n1 = 64 by omega] at hown5
            have hrun : (Builtin.append_ #[42, 9] 42 #[.slice (some ⟨W.heap.size, 0, none⟩) c 64, .string (u.extract 0 n1)]).run Tryd.prog wr = .ok (.slice (some ⟨W.heap.size, 0, none⟩) 64 64) W5 := by rw [hrun0, hxs, show c + n1 = 64 by omega]
            have hR5 : R k W5 := HR.out k wr W5 HRk.out (grown_below hgrow5 (Nat.le_refl _) HKC.out.1)
            have hK5 : Kc g W W5 := HKC.out.grown hgrow5 (Nat.le_refl _)
            have hYp : Yp W.heap.size T M k (W.heap.size, 64) W5 := ⟨Nat.le_refl _, own_lt hown5, Nat.le_refl _, by
              have h1 := HP.out; have h2 := HUS.out; have h3 := offs_mono ts hlt; have h4 := HOJ.out; have h5 := HT.out
              have h6 := offs_mono ts (show j + 1 ≤ len from hlt)
              show 64 * k + 64 ≤ T
              omega, fun h => absurd h (Nat.lt_irrefl 64), fun i hi => own_cell hown5 (mc_get _ _ _ _ hi)⟩
            obtain ⟨fn, tmps, assign, body, hy, hRd⟩ := HY.out k (W.heap.size, 64) W5 hR5 hYp
            have HO5 : Hid (W5.ownsRow W.heap.size 5 1 (.slice (some ⟨W.heap.size, 0, none⟩) 64 64) 64 (mc M (64 * k) 64)) := hown5
            have HK5 : Hid (Kc g W W5) := hK5
            clear hrun0 hown5 hgrow5 hR5 hK5 hYp hxs hn1
            gi_wp2_with (gi_at_builtin; refine listIn_append_s rfl 42 9 (.tmp 27) (.tmp 30) rfl (vs := .slice (some ⟨W.heap.size, 0, none⟩) c 64) (vx := .string (u.extract 0 n1)) rfl rfl hrun ?_)
            refine hRd.mono ?_
            rintro e W6 (⟨rfl, hR6, hk6⟩ | ⟨rfl, hx6⟩)
            · clear hRd hy hrun
              have HR6 : Hid (R (k + 1) W6) := hR6
              have HK6 : Hid (Kc g W5 W6) := hk6
              clear hR6 hk6
              gi_wp2
              refine wpIn_region_any hmx ?_
              change wpAnyIn _ _ _ _ _ _ _ _ _ (World.drew _)
              refine wpAnyIn_take (i := 0) (v := ?_) rfl rfl (by kernel_rfl) (by kernel_rfl) (by kernel_rfl) (fun _ _ _ h => h) ⟨Or.inl ⟨by rfl, ?_⟩, fun _ => rfl⟩ ?_
              rotate_left
              · intro w
                go_simp
                try with_reducible rfl
              refine wpAnyIn_take (i := 1) (v := ?_) rfl rfl (by kernel_rfl) (by kernel_rfl) (by kernel_rfl) (fun _ _ _ h => h) ⟨Or.inl ⟨by rfl, ?_⟩, fun _ => rfl⟩ ?_
              rotate_left
              · intro w
                go_simp
                try with_reducible rfl
              refine wpAnyIn_take (i := 2) (v := ?_) rfl rfl (by kernel_rfl) (by kernel_rfl) (by kernel_rfl) (fun _ _ _ h => h) ⟨Or.inl ⟨by rfl, ?_⟩, fun _ => rfl⟩ ?_
              rotate_left
              · intro w
                go_simp
                try with_reducible rfl
              refine wpAnyIn_take (i := 3) (v := ?_) rfl rfl (by kernel_rfl) (by kernel_rfl) (by kernel_rfl) (fun _ _ _ h => h) ⟨Or.inl ⟨by rfl, ?_⟩, fun _ => rfl⟩ ?_
              rotate_left
              · intro w
                go_simp
                try with_reducible rfl
              refine wpAnyIn_take (i := 4) (v := ?_) rfl rfl (by kernel_rfl) (by kernel_rfl) (by kernel_rfl) (fun _ _ _ h => h) ⟨Or.inl ⟨by rfl, ?_⟩, fun _ => rfl⟩ ?_
              rotate_left
              · intro w
                go_simp
                try with_reducible rfl
              refine wpAnyIn_ready (rs := [5]) (by kernel_rfl) (by simp) ?_
              refine (AllReadyIn.cons rfl (fun K hK => ?_) AllReadyIn.nil)
              go_simp
              refine hK _ _ ?_
              clear hK K
              refine wpAnyIn_ready (rs := [6]) (by kernel_rfl) (by simp) ?_
              refine (AllReadyIn.cons rfl (fun K hK => ?_) AllReadyIn.nil)
              go_simp
              refine hK _ _ ?_
              clear hK K
              refine wpAnyIn_done (by kernel_rfl) ?_ _
              gi_wp2
              go_roundw
              case rel =>
                refine ⟨0, d + n1, k + 1, rfl, ?_, ?_, by decide, ?_, ?_, ?_, ?_⟩
                · rw [← HU.out, ext_ext]
                · have := HUS.out; omega
                · have := HP.out; have := HN1.out.1; omega
                · exact (own_zero (HK6.out.own HO5.out (by omega)) : W6.ownsRow _ _ _ _ _ _)
                · exact HR.out _ W6 _ HR6.out (Below.refl _ W6).drew
                · exact (HK5.out.trans HK6.out)
              case measure => simp [szOf]; have := HN1.out.2; omega
            · gi_wp2
              refine bodyPost_ret (results_none rfl _ _ _) rfl ?_
              exact ⟨⟨_, rfl⟩, .inl hx6⟩
          · have q1 : ¬ (64 : Int) ≤ (c : Int) + (u.size : Int) := by omega
            obtain ⟨W5, hrun, hown5, hgrow5⟩ := run_append_fits_string (P := Tryd.prog) wr W.heap.size 42 9 42 5 i0 Tryd.underlying42 Tryd.underlying9 hi hz1 (some ⟨W.heap.size, 0, none⟩) c 64 _ HO.out u (by decide) (by omega)
            rw [mc_app M (64 * k) c u HUM.out] at hown5
            have HO5 : Hid (W5.ownsRow W.heap.size 5 1 (.slice (some ⟨W.heap.size, 0, none⟩) (c + u.size) 64) (c + u.size) (mc M (64 * k) (c + u.size))) := hown5
            have HR5 : Hid (R k W5) := HR.out k wr W5 HRk.out (grown_below hgrow5 (Nat.le_refl _) HKC.out.1)
            have HK5 : Hid (Kc g W W5) := HKC.out.grown hgrow5 (Nat.le_refl _)
            clear hown5 hgrow5
            gi_wp2_with (gi_at_builtin; refine listIn_append_s rfl 42 9 (.tmp 39) (.tmp 40) rfl (vs := .slice (some ⟨W.heap.size, 0, none⟩) c 64) (vx := .string u) rfl rfl hrun ?_)
            go_roundw
            case rel => exact ⟨c + u.size, j + 1, k, rfl, by go_num, hlt, by omega, by rw [HOJ.out]; have := HP.out; have := HUS.out; omega, HO5.out, HR5.out, HK5.out⟩
            case measure => simp [intOf]; omega
      · obtain rfl : j = len := by omega
        have hYp : Yp W.heap.size T M k (W.heap.size, c) wr := ⟨Nat.le_refl _, own_lt HO.out, Nat.le_of_lt hc, by have := HP.out; have := HT.out; show 64 * k + c ≤ T; omega, fun _ => by have := HP.out; have := HT.out; show 64 * k + c = T; omega, fun i hi => own_cell HO.out (mc_get _ _ _ _ hi)⟩
        obtain ⟨fn, tmps, assign, body, hy, hRd⟩ := HY.out k (W.heap.size, c) wr HRk.out hYp
        have hTk : T < 64 * (k + 1) := by have := HP.out; have := HT.out; omega
        clear hYp
        gi_wp2
        refine hRd.mono ?_
        rintro e W6 (⟨rfl, hR6, hk6⟩ | ⟨rfl, hx6⟩)
        · gi_wp2
          go_end0
          exact ⟨⟨_, rfl⟩, .inr ⟨k + 1, hR6, hTk⟩⟩
        · gi_wp2
          go_end0
          exact ⟨⟨_, rfl⟩, .inl hx6⟩
  · go_simp
    refine hK _ _ ?_
    clear hK K
    refine wpAnyIn_ready (rs := [0]) (by kernel_rfl) (by simp) ?_
    refine (AllReadyIn.cons rfl (fun K hK => ?_) AllReadyIn.nil)
    go_simp
    refine hK _ _ ?_
    clear hK K
    refine wpAnyIn_ready (rs := [2]) (by kernel_rfl) (by simp) ?_
    refine (AllReadyIn.cons rfl (fun K hK => ?_) AllReadyIn.nil)
    rw [if_pos (by rfl)]
    refine opIn_append_s 42 9 _ _ rfl rfl rfl hrun ?_
    refine hK _ _ ?_
    clear hK K
    refine wpAnyIn_ready (rs := [3]) (by kernel_rfl) (by simp) ?_
    refine (AllReadyIn.cons rfl (fun K hK => ?_) AllReadyIn.nil)
    go_simp
    refine hK _ _ ?_
    clear hK K
    refine wpAnyIn_done (by kernel_rfl) ?_ _
    clear hmk hrun c1m c1
    have c2 : Wa.cell? ⟨b2, 0, none⟩ = some (.slice o len cap) := by rw [cell_of_row _ _ _ _ _ _ ((HWA.out.block b2 l2).trans HB2.out)]; rfl
    gi_wp2
    clear c2
    gi_loopw [4, 13] (fun v i wr => ∃ c j k : Nat, v = .slice (some ⟨W.heap.size, 0, none⟩) c 64 ∧ i = .int .i64 (j : Int) ∧ j ≤ len ∧ c < 64 ∧ 64 * k + c = s0.size + offs ts j ∧ wr.ownsRow W.heap.size 5 1 (.slice (some ⟨W.heap.size, 0, none⟩) c 64) c (mc M (64 * k) c) ∧ R k wr ∧ Kc g W wr) (fun _ i _ => len - (intOf i).toNat)
    case atStart => exact ⟨s0.size, 0, 0, rfl, rfl, Nat.zero_le _, hs0, by simp [offs], HA.out, HR.out 0 W Wa H0.out HWA.out, Kc.below HWA.out (Nat.le_refl _)⟩
    case round =>
      obtain ⟨c, j, k, rfl, rfl, hj, hc, hpos, hown, hRk, hkc⟩ := hrel
      have HO : Hid _ := hown
      have HRk : Hid _ := hRk
      have HKC : Hid (Kc g W wr) := hkc
      have HP : Hid _ := hpos
      clear hown hRk hkc hpos HA HWA
      by_cases hlt : j < len
      · obtain ⟨hsz, b, off, ho, hbg, hbW, hcell⟩ := HTS.out j hlt
        subst ho
        have ct : wr.cell? ⟨b, off + j, none⟩ = some (.string (ts j)) := HKC.out.cell hbg hcell
        have HMj : Hid (∀ i, i < (ts j).size → bt (ts j) i = M (s0.size + offs ts j + i)) := HM.out j hlt
        have HOJ : Hid (offs ts (j + 1) = offs ts j + (ts j).size) := rfl
        have HSZ : Hid _ := hsz
        clear hcell hsz
        generalize ts j = tj at *
        have g0 : (0 : Int) ≤ (j : Int) := by omega
        have g1 : (j : Int) < (len : Int) := by omega
        have g2 : (j : Int) ≤ 1099511627776 := by have := HL.out; omega
        gi_wp2
        clear ct
        gi_loopw [4, 6] (fun v t' wr => ∃ c d k : Nat, v = .slice (some ⟨W.heap.size, 0, none⟩) c 64 ∧ t' = .string (tj.extract d tj.size) ∧ d ≤ tj.size ∧ c < 64 ∧ 64 * k + c = s0.size + offs ts j + d ∧ wr.ownsRow W.heap.size 5 1 (.slice (some ⟨W.heap.size, 0, none⟩) c 64) c (mc M (64 * k) c) ∧ R k wr ∧ Kc g W wr) (fun _ t' _ => szOf t')
        case atStart => exact ⟨c, 0, k, rfl, by simp, Nat.zero_le _, hc, HP.out, HO.out, HRk.out, HKC.out⟩
        case round =>
          clear HO HRk HKC HP hc
          obtain ⟨c, d, k, rfl, rfl, hd, hc, hpos, hown, hRk, hkc⟩ := hrel
          have HO : Hid (wr.ownsRow W.heap.size 5 1 (.slice (some ⟨W.heap.size, 0, none⟩) c 64) c (mc M (64 * k) c)) := hown
          have HRk : Hid (R k wr) := hRk
          have HKC : Hid (Kc g W wr) := hkc
          have HP : Hid (64 * k + c = s0.size + offs ts j + d) := hpos
          clear hown hRk hkc hpos
          obtain ⟨u, hu⟩ : ∃ u, tj.extract d tj.size = u := ⟨_, rfl⟩
          have hus : u.size = tj.size - d := by rw [← hu]; simp
          have HU : Hid (tj.extract d tj.size = u) := hu
          have HUM : Hid (∀ i, i < u.size → bt u i = M (64 * k + c + i)) := fun i hi => by
            rw [← HU.out, bt_ext _ _ _ _ (by omega), HMj.out (d + i) (by omega), HP.out]; congr 1; omega
          have hum : u.size ≤ 1099511627776 := by have := HSZ.out; omega
          have HUS : Hid _ := hus
          rw [hu]
          clear hu hus
          have c0 : (0 : Int) ≤ (c : Int) := by omega
          have c3 : (c : Int) < 64 := by omega
          have hum' : (u.size : Int) ≤ 1099511627776 := by omega
          by_cases h64 : 64 ≤ c + u.size
          · have q1 : (64 : Int) ≤ (c : Int) + (u.size : Int) := by omega
            obtain ⟨n1, hn1⟩ : ∃ n1, 64 - c = n1 := ⟨_, rfl⟩
            have q2 : (64 : Int) - (c : Int) = (n1 : Int) := by omega
            have q3 : n1 ≤ u.size := by omega
            have q4 : (n1 : Int) ≤ (u.size : Int) := by omega
            have HN1 : Hid (64 - c = n1 ∧ 1 ≤ n1) := ⟨hn1, by omega⟩
            have hxs : (u.extract 0 n1).size = n1 := by simp; omega
            obtain ⟨W5, hrun0, hown5, hgrow5⟩ := run_append_fits_string (P := Tryd.prog) wr W.heap.size 42 9 42 5 i0 Tryd.underlying42 Tryd.underlying9 hi hz1 (some ⟨W.heap.size, 0, none⟩) c 64 _ HO.out (u.extract 0 n1) (by decide) (by omega)
            rw [mc_app M (64 * k) c _ (fun i hi => by rw [bt_ext _ _ _ _ (by omega), Nat.zero_add]; exact HUM.out i (by omega)), hxs, show c + n1 = 64 by omega] at hown5
            have hrun : (Builtin.append_ #[42, 9] 42 #[.slice (some ⟨W.heap.size, 0, none⟩) c 64, .string (u.extract 0 n1)]).run Tryd.prog wr = .ok (.slice (some ⟨W.heap.size, 0, none⟩) 64 64) W5 := by rw [hrun0, hxs, show c + n1 = 64 by omega]
            have hR5 : R k W5 := HR.out k wr W5 HRk.out (grown_below hgrow5 (Nat.le_refl _) HKC.out.1)
            have hK5 : Kc g W W5 := HKC.out.grown hgrow5 (Nat.le_refl _)
            have hYp : Yp W.heap.size T M k (W.heap.size, 64) W5 := ⟨Nat.le_refl _, own_lt hown5, Nat.le_refl _, by
              have h1 := HP.out; have h2 := HUS.out; have h3 := offs_mono ts hlt; have h4 := HOJ.out; have h5 := HT.out
              have h6 := offs_mono ts (show j + 1 ≤ len from hlt)
              show 64 * k + 64 ≤ T
              omega, fun h => absurd h (Nat.lt_irrefl 64), fun i hi => own_cell hown5 (mc_get _ _ _ _ hi)⟩
            obtain ⟨fn, tmps, assign, body, hy, hRd⟩ := HY.out k (W.heap.size, 64) W5 hR5 hYp
            have HO5 : Hid (W5.ownsRow W.heap.size 5 1 (.slice (some ⟨W.heap.size, 0, none⟩) 64 64) 64 (mc M (64 * k) 64)) := hown5
            have HK5 : Hid (Kc g W W5) := hK5
            clear hrun0 hown5 hgrow5 hR5 hK5 hYp hxs hn1
            gi_wp2_with (gi_at_builtin; refine listIn_append_s rfl 42 9 (.tmp 27) (.tmp 30) rfl (vs := .slice (some ⟨W.heap.size, 0, none⟩) c 64) (vx := .string (u.extract 0 n1)) rfl rfl hrun ?_)
            refine hRd.mono ?_
            rintro e W6 (⟨rfl, hR6, hk6⟩ | ⟨rfl, hx6⟩)
            · clear hRd hy hrun
              have HR6 : Hid (R (k + 1) W6) := hR6
              have HK6 : Hid (Kc g W5 W6) := hk6
              clear hR6 hk6
              gi_wp2
              refine wpIn_region_any hmx ?_
              change wpAnyIn _ _ _ _ _ _ _ _ _ (World.drew _)
              refine wpAnyIn_take (i := 0) (v := ?_) rfl rfl (by kernel_rfl) (by kernel_rfl) (by kernel_rfl) (fun _ _ _ h => h) ⟨Or.inl ⟨by rfl, ?_⟩, fun _ => rfl⟩ ?_
              rotate_left
              · intro w
                go_simp
                try with_reducible rfl
              refine wpAnyIn_take (i := 1) (v := ?_) rfl rfl (by kernel_rfl) (by kernel_rfl) (by kernel_rfl) (fun _ _ _ h => h) ⟨Or.inl ⟨by rfl, ?_⟩, fun _ => rfl⟩ ?_
              rotate_left
              · intro w
                go_simp
                try with_reducible rfl
              refine wpAnyIn_take (i := 2) (v := ?_) rfl rfl (by kernel_rfl) (by kernel_rfl) (by kernel_rfl) (fun _ _ _ h => h) ⟨Or.inl ⟨by rfl, ?_⟩, fun _ => rfl⟩ ?_
              rotate_left
              · intro w
                go_simp
                try with_reducible rfl
              refine wpAnyIn_take (i := 3) (v := ?_) rfl rfl (by kernel_rfl) (by kernel_rfl) (by kernel_rfl) (fun _ _ _ h => h) ⟨Or.inl ⟨by rfl, ?_⟩, fun _ => rfl⟩ ?_
              rotate_left
              · intro w
                go_simp
                try with_reducible rfl
              refine wpAnyIn_take (i := 4) (v := ?_) rfl rfl (by kernel_rfl) (by kernel_rfl) (by kernel_rfl) (fun _ _ _ h => h) ⟨Or.inl ⟨by rfl, ?_⟩, fun _ => rfl⟩ ?_
              rotate_left
              · intro w
                go_simp
                try with_reducible rfl
              refine wpAnyIn_ready (rs := [5]) (by kernel_rfl) (by simp) ?_
              refine (AllReadyIn.cons rfl (fun K hK => ?_) AllReadyIn.nil)
              go_simp
              refine hK _ _ ?_
              clear hK K
              refine wpAnyIn_ready (rs := [6]) (by kernel_rfl) (by simp) ?_
              refine (AllReadyIn.cons rfl (fun K hK => ?_) AllReadyIn.nil)
              go_simp
              refine hK _ _ ?_
              clear hK K
              refine wpAnyIn_done (by kernel_rfl) ?_ _
              gi_wp2
              go_roundw
              case rel =>
                refine ⟨0, d + n1, k + 1, rfl, ?_, ?_, by decide, ?_, ?_, ?_, ?_⟩
                · rw [← HU.out, ext_ext]
                · have := HUS.out; omega
                · have := HP.out; have := HN1.out.1; omega
                · exact (own_zero (HK6.out.own HO5.out (by omega)) : W6.ownsRow _ _ _ _ _ _)
                · exact HR.out _ W6 _ HR6.out (Below.refl _ W6).drew
                · exact (HK5.out.trans HK6.out)
              case measure => simp [szOf]; have := HN1.out.2; omega
            · gi_wp2
              refine bodyPost_ret (results_none rfl _ _ _) rfl ?_
              exact ⟨⟨_, rfl⟩, .inl hx6⟩
          · have q1 : ¬ (64 : Int) ≤ (c : Int) + (u.size : Int) := by omega
            obtain ⟨W5, hrun, hown5, hgrow5⟩ := run_append_fits_string (P := Tryd.prog) wr W.heap.size 42 9 42 5 i0 Tryd.underlying42 Tryd.underlying9 hi hz1 (some ⟨W.heap.size, 0, none⟩) c 64 _ HO.out u (by decide) (by omega)
            rw [mc_app M (64 * k) c u HUM.out] at hown5
            have HO5 : Hid (W5.ownsRow W.heap.size 5 1 (.slice (some ⟨W.heap.size, 0, none⟩) (c + u.size) 64) (c + u.size) (mc M (64 * k) (c + u.size))) := hown5
            have HR5 : Hid (R k W5) := HR.out k wr W5 HRk.out (grown_below hgrow5 (Nat.le_refl _) HKC.out.1)
            have HK5 : Hid (Kc g W W5) := HKC.out.grown hgrow5 (Nat.le_refl _)
            clear hown5 hgrow5
            gi_wp2_with (gi_at_builtin; refine listIn_append_s rfl 42 9 (.tmp 39) (.tmp 40) rfl (vs := .slice (some ⟨W.heap.size, 0, none⟩) c 64) (vx := .string u) rfl rfl hrun ?_)
            go_roundw
            case rel => exact ⟨c + u.size, j + 1, k, rfl, by go_num, hlt, by omega, by rw [HOJ.out]; have := HP.out; have := HUS.out; omega, HO5.out, HR5.out, HK5.out⟩
            case measure => simp [intOf]; omega
      · obtain rfl : j = len := by omega
        have hYp : Yp W.heap.size T M k (W.heap.size, c) wr := ⟨Nat.le_refl _, own_lt HO.out, Nat.le_of_lt hc, by have := HP.out; have := HT.out; show 64 * k + c ≤ T; omega, fun _ => by have := HP.out; have := HT.out; show 64 * k + c = T; omega, fun i hi => own_cell HO.out (mc_get _ _ _ _ hi)⟩
        obtain ⟨fn, tmps, assign, body, hy, hRd⟩ := HY.out k (W.heap.size, c) wr HRk.out hYp
        have hTk : T < 64 * (k + 1) := by have := HP.out; have := HT.out; omega
        clear hYp
        gi_wp2
        refine hRd.mono ?_
        rintro e W6 (⟨rfl, hR6, hk6⟩ | ⟨rfl, hx6⟩)
        · gi_wp2
          go_end0
          exact ⟨⟨_, rfl⟩, .inr ⟨k + 1, hR6, hTk⟩⟩
        · gi_wp2
          go_end0
          exact ⟨⟨_, rfl⟩, .inl hx6⟩
end Go.Proofs.YtmlechalhldlhaaDoor
