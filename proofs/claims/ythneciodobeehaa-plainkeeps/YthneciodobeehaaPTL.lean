/- Changes one behind the other: the function that goes through them. -/
import Derived.Test.YthneciodobeehaaPTJ
import Derived.Test.YthneciodobeehaaPTK
import Derived.Sort.LoopGhostIn
namespace Go.Proofs.Ythneciodobeehaa.Rp
open Go.RowKit Go.Lib Go.Shelf
open Go.Proofs.Ythneciodobeehaa.Rc Go.Proofs.Ythneciodobeehaa.Rq
attribute [local go_sem] Oper.semAt_some
def oc (c : Ch) : List Value := [.int .i64 c.k, .int .u64 (c.r.id : Int), .int .u32 (c.r.x : Int), .int .u32 (c.r.y : Int), .string c.r.v]
/-- Changes in memory. -/
def OpsAt (w : World) (o : Option Addr) (cap : Nat) (l : List Ch) : Prop := Sl 5 w o l.length cap (l.flatMap oc)
def cat (l : List Ch) (i : Nat) : Ch := (l[i]?).getD ⟨0, zr⟩
def Fo (w : World) (b x : Nat) (c : Ch) : Prop := w.cell? ⟨b, x, none⟩ = some (.int .i64 c.k) ∧ w.cell? ⟨b, x + 1, none⟩ = some (.int .u64 (c.r.id : Int)) ∧ w.cell? ⟨b, x + 2, none⟩ = some (.int .u32 (c.r.x : Int)) ∧ w.cell? ⟨b, x + 3, none⟩ = some (.int .u32 (c.r.y : Int)) ∧ w.cell? ⟨b, x + 4, none⟩ = some (.string c.r.v)
set_option maxRecDepth 100000 in
theorem OpsAt.op {w : World} {o : Option Addr} {cap : Nat} {l : List Ch} (h : OpsAt w o cap l) {i : Nat} (hi : i < l.length) : ∃ b off, o = some ⟨b, off, none⟩ ∧ b < w.heap.size ∧ Fo w b (off + i * 5) (cat l i) := by
  obtain ⟨b, off, e, hlt, hc⟩ := h.2.2.2.2 (by omega)
  have hs : l[i]? = some (cat l i) := by unfold cat; rw [List.getElem?_eq_getElem hi]; rfl
  have g := fun j hj => flat_get oc 5 (fun _ => rfl) l i _ hs j hj
  refine ⟨b, off, e, hlt, ?_, ?_, ?_, ?_, ?_⟩
  · have := hc (i * 5 + 0) _ (g 0 (by omega)); rwa [show off + (i * 5 + 0) = off + i * 5 by omega] at this
  · have := hc (i * 5 + 1) _ (g 1 (by omega)); rwa [show off + (i * 5 + 1) = off + i * 5 + 1 by omega] at this
  · have := hc (i * 5 + 2) _ (g 2 (by omega)); rwa [show off + (i * 5 + 2) = off + i * 5 + 2 by omega] at this
  · have := hc (i * 5 + 3) _ (g 3 (by omega)); rwa [show off + (i * 5 + 3) = off + i * 5 + 3 by omega] at this
  · have := hc (i * 5 + 4) _ (g 4 (by omega)); rwa [show off + (i * 5 + 4) = off + i * 5 + 4 by omega] at this
/-- The rows behind so many changes, and the error of each. -/
def stL (l : List Rw) (cs : List Ch) : Nat → List Rw
  | 0 => l
  | i + 1 => apL (stL l cs i) (cat cs i)
def stE (l : List Rw) (cs : List Ch) (i : Nat) : Int := apE (stL l cs i) (cat cs i)
set_option maxRecDepth 100000 in
theorem sl_keep {k : Nat} {W W' : World} {o : Option Addr} {n cap : Nat} {xs : List Value} (h : Sl k W o n cap xs) (hs : W.heap.size ≤ W'.heap.size) (hk : ∀ b off, o = some ⟨b, off, none⟩ → 0 < n → b < W.heap.size → W'.heap[b]? = W.heap[b]?) : Sl k W' o n cap xs := by
  refine ⟨h.1, h.2.1, h.2.2.1, h.2.2.2.1, fun hn => ?_⟩
  obtain ⟨b, off, e, hlt, hc⟩ := h.2.2.2.2 hn
  exact ⟨b, off, e, Nat.lt_of_lt_of_le hlt hs, fun j u hu => (World.cell?_of_block (a := ⟨b, off + j, none⟩) (hk b off e hn hlt)).trans (hc j u hu)⟩
set_option maxRecDepth 100000 in
theorem sl_lt {k : Nat} {W : World} {o : Option Addr} {n cap : Nat} {xs : List Value} (h : Sl k W o n cap xs) {b off : Nat} (e : o = some ⟨b, off, none⟩) (hn : 0 < n) : b < W.heap.size := by
  obtain ⟨b', off', e', hlt, -⟩ := h.2.2.2.2 hn
  rw [e] at e'
  cases e'
  exact hlt
set_option maxRecDepth 100000 in
theorem applied_any (o : Option Addr) (n cap : Nat) (oo : Option Addr) (m ccap : Nat) (w : World) :
    Calls Try.prog 30 #[.slice o n cap, .slice oo m ccap] w fun e w' => e = .returned (.func (.func 37) #[] #[.pointer (some ⟨w.heap.size, 0, none⟩), .pointer (some ⟨w.heap.size + 1, 0, none⟩)]) ∧ w' = (w.alloc (.cells #[.slice o n cap] 22)).alloc (.cells #[.slice oo m ccap] 39) := by
  go_enter Try.func30, Try.ntmps30
  go_wp2_with fail
  go_ret
  exact ⟨rfl, rfl⟩
/-- Some blocks are none of a slice's. -/
def Off (own : Nat → Prop) (o : Option Addr) (n : Nat) : Prop := ∀ j, own j → ∀ b off, o = some ⟨b, off, none⟩ → 0 < n → j ≠ b
set_option maxRecDepth 100000 in
set_option maxHeartbeats 4000000 in
theorem applied1_any (g1 g2 : Nat) (l : List Rw) (cs : List Ch) (o : Option Addr) (cap : Nat) (oo : Option Addr) (ccap : Nat) (hmax : cs.length ≤ 64) (W1 : World) (hr : RowsAt W1 o cap l) (hc : OpsAt W1 oo ccap cs)
    (hg1 : W1.heap[g1]? = some (.cells #[.slice o l.length cap] 22 (0, 0))) (hg2 : W1.heap[g2]? = some (.cells #[.slice oo cs.length ccap] 39 (0, 0)))
    (yl : Nat) (R : (Nat → Prop) → Nat → World → Prop) (Rx : (Nat → Prop) → World → Prop) (own : Nat → Prop) (hown : (∀ j, own j → j < W1.heap.size) ∧ Off own o l.length ∧ Off own oo cs.length)
    (hR : ∀ own k W W', R own k W → Below W.heap.size W W' → R own k W')
    (hY : ∀ own i o' cap' W, i < cs.length → R own i W → RowsAt W o' cap' (stL l cs (i + 1)) → (∀ j, own j → j < W.heap.size) → Off own o' (stL l cs (i + 1)).length → Fresh W1.heap.size o' → YieldAt Fence.wide 0 Try.prog yl #[.slice o' (stL l cs (i + 1)).length cap', .int .i64 (stE l cs i)] W (YPost R Rx own (i + 1) W))
    (h0 : R own 0 W1) :
    Calls Try.prog 37 (#[.func (.yield yl) #[] #[]] ++ #[.pointer (some ⟨g1, 0, none⟩), .pointer (some ⟨g2, 0, none⟩)]) W1 fun e W' => (∃ v, e = .returned v) ∧ ∃ own', (R own' cs.length W' ∨ Rx own' W') := by
  have HR : Hid _ := hR
  have HY : Hid _ := hY
  have H0 : Hid (R own 0 W1) := h0
  have HSt : Hid (RowsAt W1 o cap l ∧ OpsAt W1 oo ccap cs ∧ (∀ j, own j → j < W1.heap.size) ∧ Off own o l.length ∧ Off own oo cs.length) := ⟨hr, hc, hown⟩
  have c1 : W1.cell? ⟨g1, 0, none⟩ = some (.slice o l.length cap) := by rw [cell_of_row _ _ _ _ _ _ hg1]; rfl
  have c2 : W1.cell? ⟨g2, 0, none⟩ = some (.slice oo cs.length ccap) := by rw [cell_of_row _ _ _ _ _ _ hg2]; rfl
  have l1 := (Array.getElem?_eq_some_iff.1 hg1).1
  have l2 := (Array.getElem?_eq_some_iff.1 hg2).1
  obtain ⟨n, hn⟩ : ∃ n, cs.length = n := ⟨_, rfl⟩
  rw [hn] at HY HSt c2 ⊢
  have HN : Hid (cs.length = n) := hn
  have n64 : (n : Int) ≤ 64 := by omega
  clear hR hY h0 hr hc hown hg1 hg2 hn hmax
  refine (callsIn_wide (n := 4)).1 ?_
  refine callsIn_of_wp Try.func37 rfl trivial ?_ rfl
  simp only [Try.ntmps37, List.size_toArray, List.length_cons, List.length_nil, Nat.reduceAdd, Nat.reduceSub, Array.replicate_succ, Array.replicate_zero, List.push_toArray, List.append_toArray, List.nil_append, List.cons_append]
  gi_wp2
  clear c1 c2 l1 l2
  gi_loopw [4, 11] (fun nv iv wr => ∃ (i : Nat) (o2 : Option Addr) (cap2 : Nat) (own2 : Nat → Prop), i ≤ n ∧ nv = .slice o2 (stL l cs i).length cap2 ∧ iv = .int .i64 (i : Int) ∧ RowsAt wr o2 cap2 (stL l cs i) ∧ OpsAt wr oo ccap cs ∧ (∀ j, own2 j → j < wr.heap.size) ∧ Off own2 o2 (stL l cs i).length ∧ Off own2 oo n ∧ R own2 i wr ∧ W1.heap.size ≤ wr.heap.size) (fun _ iv _ => n - natOf iv)
  case atStart => exact ⟨0, o, cap, own, Nat.zero_le _, rfl, rfl, HSt.out.1, HSt.out.2.1, HSt.out.2.2.1, HSt.out.2.2.2.1, HSt.out.2.2.2.2, H0.out, Nat.le_refl _⟩
  case round =>
    obtain ⟨i, o2, cap2, own2, hi, rfl, rfl, hr2, hc2, hlt2, hof2, hoo2, hR2, hw1⟩ := hrel
    have HW1 : Hid (W1.heap.size ≤ wr.heap.size) := hw1
    clear hw1
    have HS2 : Hid (RowsAt wr o2 cap2 (stL l cs i) ∧ OpsAt wr oo ccap cs ∧ (∀ j, own2 j → j < wr.heap.size) ∧ Off own2 o2 (stL l cs i).length ∧ Off own2 oo n) := ⟨hr2, hc2, hlt2, hof2, hoo2⟩
    have HR2 : Hid (R own2 i wr) := hR2
    clear HSt H0 hR2 hlt2 hof2 hoo2
    by_cases hlt : i < n
    · have q1 : (i : Int) < (n : Int) := by omega
      have q0 : (0 : Int) ≤ (i : Int) := by omega
      obtain ⟨b, off, rfl, hbl, k0, k1, k2, k3, k4⟩ := hc2.op (i := i) (by rw [HN.out]; exact hlt)
      have HA : Hid (∀ W, RowsAt W o2 cap2 (stL l cs i) → _) := fun W hW => apply_any o2 cap2 (stL l cs i) (cat cs i) W hW
      have HYi : Hid _ := fun own o' cap' W => HY.out own i o' cap' W hlt
      rw [show apL (stL l cs i) (cat cs i) = stL l cs (i + 1) from rfl, show apE (stL l cs i) (cat cs i) = stE l cs i from rfl] at HA
      generalize stE l cs i = E at *
      obtain ⟨L2, hL2⟩ : ∃ L2, stL l cs (i + 1) = L2 := ⟨_, rfl⟩
      have HL2 : Hid (stL l cs (i + 1) = L2) := hL2
      rw [hL2] at HA HYi
      obtain ⟨L1, hL1⟩ : ∃ L1, stL l cs i = L1 := ⟨_, rfl⟩
      rw [hL1] at HA HS2 ⊢
      obtain ⟨⟨ck, cid, cx', cy', cv⟩, hcc⟩ : ∃ c : Ch, cat cs i = c := ⟨_, rfl⟩
      rw [hcc] at HA k0 k1 k2 k3 k4
      simp only at k0 k1 k2 k3 k4
      have hb3 := below_new wr (.cells #[.int .i64 ck, .int .u64 (cid : Int), .int .u32 (cx' : Int), .int .u32 (cy' : Int), .string cv] 34)
      have HA3 : Hid (∀ _ : True, _) := fun _ => HA.out _ (HS2.out.1.below hb3 (Nat.le_refl _))
      have HB3 : Hid (Below wr.heap.size wr (wr.alloc (.cells #[.int .i64 ck, .int .u64 (cid : Int), .int .u32 (cx' : Int), .int .u32 (cy' : Int), .string cv] 34))) := hb3
      simp only [ov] at HA3
      clear hr2 hc2 HA hcc hb3 hL1 hL2
      gi_wp2
      refine ⟨trivial, callsIn_wide.2 (Calls.mono (HA3.out trivial) ?_)⟩
      rintro e w4 ⟨o4, cap4, rfl, hr4, b4, f4⟩
      have hB4 : Below wr.heap.size wr w4 := HB3.out.trans (b4.mono HB3.out.size)
      have HR4 : Hid (R own2 i w4) := HR.out own2 i _ _ HR2.out hB4
      have hf4 : ∀ j, own2 j → j < w4.heap.size := fun j hj => Nat.lt_of_lt_of_le (HS2.out.2.2.1 j hj) hB4.size
      have ho4 : Off own2 o4 L2.length := fun j hj b off e _ he => by
        have h5 := f4 b off e
        have h6 := HS2.out.2.2.1 j hj
        have h7 := HB3.out.size
        omega
      have HW4 : Hid (W1.heap.size ≤ w4.heap.size) := Nat.le_trans HW1.out hB4.size
      have HC4 : Hid (OpsAt w4 (some ⟨b, off, none⟩) ccap cs) := Sl.below HS2.out.2.1 hB4 (Nat.le_refl _)
      have HR5 : Hid (RowsAt w4 o4 cap4 L2) := hr4
      have HO4 : Hid ((∀ j, own2 j → j < w4.heap.size) ∧ Off own2 o4 L2.length) := ⟨hf4, ho4⟩
      have hy0 := yield_wide (m := 3) <| HYi.out own2 o4 cap4 w4 HR4.out hr4 hf4 ho4 (f4.mono (Nat.le_trans HW1.out HB3.out.size))
      obtain ⟨fn, tmps, assign, body, hy, hRd⟩ := hy0
      clear b4 hr4 f4 hB4 hf4 ho4 HA3 HB3 HYi k0 k1 k2 k3 k4 HR2 hbl
      gi_wp2
      refine RoundIn.mono (R := YPost R Rx own2 (i + 1) w4) hRd ?_
      rintro e W6 ⟨own6, ho6, hb6, (⟨rfl, hR6⟩ | ⟨rfl, hx6⟩)⟩
      · have HS6 : Hid (RowsAt W6 o4 cap4 (stL l cs (i + 1)) ∧ OpsAt W6 (some ⟨b, off, none⟩) ccap cs ∧ (∀ j, own6 j → j < W6.heap.size) ∧ Off own6 o4 (stL l cs (i + 1)).length ∧ Off own6 (some ⟨b, off, none⟩) n) := by
          refine ⟨?_, sl_keep HC4.out hb6.size fun b' off' e hn hlt' => hb6.block b' hlt' fun hj => HS2.out.2.2.2.2 b' hj b' off' e (by rw [← HN.out]; exact hn) rfl, fun j hj => ?_, ?_, fun j hj b' off' e hn he => ?_⟩
          · rw [HL2.out]
            exact sl_keep HR5.out hb6.size fun b' off' e hn hlt' => hb6.block b' hlt' fun hj => HO4.out.2 b' hj b' off' e hn rfl
          · rcases ho6 j hj with a | a
            · exact Nat.lt_of_lt_of_le (HO4.out.1 j a) hb6.size
            · exact a.2
          · rw [HL2.out]
            intro j hj b' off' e hn he
            rcases ho6 j hj with a | a
            · exact HO4.out.2 j a b' off' e hn he
            · have := sl_lt HR5.out e hn
              omega
          · rcases ho6 j hj with a | a
            · exact HS2.out.2.2.2.2 j a b' off' e hn he
            · have := sl_lt HC4.out e (by rw [HN.out]; exact hn)
              omega
        have HR6 : Hid (R own6 (i + 1) W6) := hR6
        have HW6 : Hid (W1.heap.size ≤ W6.heap.size) := Nat.le_trans HW4.out hb6.size
        have HLn : Hid (L2.length = (stL l cs (i + 1)).length) := by refine (?_ : L2.length = (stL l cs (i + 1)).length); rw [HL2.out]
        clear hy hRd ho6 hb6 hR6
        gi_wp2
        go_roundw
        case rel => exact ⟨i + 1, o4, cap4, own6, by omega, by rw [← HLn.out], by go_num, HS6.out.1, HS6.out.2.1, HS6.out.2.2.1, HS6.out.2.2.2.1, HS6.out.2.2.2.2, HR6.out, HW6.out⟩
        case measure => simp [natOf]; omega
      · have HX : Hid (Rx own6 W6) := hx6
        clear hy hRd ho6 hb6 hx6
        gi_wp2
        refine bodyPost_ret (results_none rfl _ _ _) rfl ?_
        exact ⟨⟨_, rfl⟩, own6, .inr HX.out⟩
    · obtain rfl : i = n := by omega
      have q1 : ¬ (i : Int) < (i : Int) := by omega
      clear hr2 hc2
      gi_wp2
      refine bodyPost_end (results_none rfl _ _ _) rfl ?_
      exact ⟨⟨_, rfl⟩, own2, .inl HR2.out⟩
end Go.Proofs.Ythneciodobeehaa.Rp
