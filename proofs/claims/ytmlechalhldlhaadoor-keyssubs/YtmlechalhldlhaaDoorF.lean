import Derived.Test.YtmlechalhldlhaaDoorE
import Derived.Laws.CopyRow
import Derived.Sort.QuietIn
import Derived.WalkMore
namespace Go.Proofs.YtmlechalhldlhaaDoor
open Go.RowKit Go.Shelf Go.Lib
attribute [local go_sem] Oper.semAt_some
/-- The state behind so many parts of a message. -/
def hs (Kt iv m : Nat → Int) : Nat → Nat → Int
  | 0 => iv
  | k + 1 => chg Kt (hs Kt iv m k) (fun j => m (64 * k + j))
/-- The rest's bytes, the first c of them those of the message from a place on. -/
def rst (r : Nat → Int) (m : Nat → Int) (a c : Nat) : Nat → Int := fun j => if j < c then m (a + j) else r j
theorem sm_copy (f r : Nat → Int) (n : Int) (m : Nat → Int) (a c : Nat) (hc : c ≤ 64) :
    ((sm f r n).toList.take 8 ++ mc m a c ++ (sm f r n).toList.drop (8 + c)).toArray = sm f (rst r m a c) n := by
  have hl : (mc m a c).length = c := mc_length _ _ _
  have ht : ((sm f r n).toList.take 8).length = 8 := by simp [sm_size]
  apply Array.ext_getElem?
  intro i
  rw [List.getElem?_toArray, List.append_assoc]
  by_cases h1 : i < 8
  · rw [List.getElem?_append_left (by omega), List.getElem?_take_of_lt h1, Array.getElem?_toList, sm_f _ _ _ _ h1, sm_f _ _ _ _ h1]
  · obtain ⟨j, rfl⟩ : ∃ j, i = 8 + j := ⟨i - 8, by omega⟩
    rw [List.getElem?_append_right (by omega), ht, show 8 + j - 8 = j by omega]
    by_cases h2 : j < c
    · rw [List.getElem?_append_left (by omega), mc_get _ _ _ _ h2, sm_r _ _ _ _ (by omega)]
      simp [rst, h2]
    · rw [List.getElem?_append_right (by omega), hl, List.getElem?_drop, Array.getElem?_toList, show 8 + c + (j - c) = 8 + j by omega]
      by_cases h3 : j < 64
      · rw [sm_r _ _ _ _ h3, sm_r _ _ _ _ h3]
        simp [rst, h2]
      · by_cases h4 : j = 64
        · subst h4; rw [show 8 + 64 = 72 from rfl, sm_c, sm_c]
        · rw [Array.getElem?_eq_none (by rw [sm_size]; omega), Array.getElem?_eq_none (by rw [sm_size]; omega)]
/-- A Summer at block g that has been told a message's first L bytes. -/
def Told (Kt iv m : Nat → Int) (W : World) (g L : Nat) : Prop :=
  ∃ r, W.heap[g]? = some (.cells (sm (hs Kt iv m (L / 64)) r (L : Int)) 79 (0, 0)) ∧ ∀ j, j < L % 64 → r j = m (64 * (L / 64) + j)
theorem parts_in (n : Nat) (s0 : ByteArray) (o : Option Addr) (len cap : Nat) (w : World) :
    CallsIn Fence.wide n Tryd.prog 45 #[.string s0, .slice o len cap] w fun e w' => e = .returned (.func (.func 49) #[] #[.pointer (some ⟨w.heap.size, 0, none⟩), .pointer (some ⟨w.heap.size + 1, 0, none⟩)]) ∧ w' = (w.alloc (.cells #[.string s0] 9)).alloc (.cells #[.slice o len cap] 57) := by
  refine callsIn_of_wp Tryd.func45 rfl trivial ?_ rfl
  simp only [Tryd.ntmps45, List.size_toArray, List.length_cons, List.length_nil, Nat.reduceAdd, Nat.reduceSub, Array.replicate_succ, Array.replicate_zero, List.push_toArray, List.append_toArray, List.nil_append, List.cons_append]
  gi_wp2
  go_ret
  exact ⟨rfl, rfl⟩
theorem smset_c (w : World) (g : Nat) (f r : Nat → Int) (c x : Int) (hg : w.heap[g]? = some (.cells (sm f r c) 79 (0, 0))) :
    (w.setCell ⟨g, 72, none⟩ (.int .i64 x)).heap[g]? = some (.cells (sm f r x) 79 (0, 0)) := by
  rw [heap_setCell_same w g 72 _ _ _ hg, sm_set_c]
theorem cell_same {A B : World} {b : Nat} (h : B.heap[b]? = A.heap[b]?) (x : Nat) : B.cell? ⟨b, x, none⟩ = A.cell? ⟨b, x, none⟩ := by
  unfold World.cell?
  simp only [h]
theorem Yp_put {B0 T : Nat} {M : Nat → Int} {k : Nat} {x : Nat × Nat} {W : World} {l : Nat} (o : Obj) (h : Yp B0 T M k x W) (hl : l < B0) : Yp B0 T M k x (W.putObj l o) := by
  obtain ⟨h1, h2, h3, h4, h5, h6⟩ := h
  exact ⟨h1, by simpa [World.putObj] using h2, h3, h4, h5, fun j hj => (cell_same (World.putObj_heap_other (by omega)) j).trans (h6 j hj)⟩
theorem gb_below {B : Nat} {w W W' : World} {r : Option Nat} (h : w.grownBy W r) (hb : Below B W W') (hB : w.heap.size ≤ B) : w.grownBy W' r :=
  ⟨hb.os.trans h.os, hb.tape.trans h.tape, hb.output.trans h.output, Nat.le_trans h.size hb.size, fun k hk hne => (hb.block k (by omega)).trans (h.block k hk hne)⟩
theorem Kc.of_grown {g : Nat} {A B : World} (h : A.grownBy B (some g)) : Kc g A B := ⟨h.size, fun j _ hj ho _ => (h.block j (Array.getElem?_eq_some_iff.1 ho).1 (by intro e; cases e; exact hj rfl)).trans ho⟩
/-- The bytes of the rest, as a text. -/
def wait (m : Nat → Int) (L : Nat) : ByteArray := strOfNums (upto (fun j => m (64 * (L / 64) + j)) (L % 64))
theorem wait_size (m : Nat → Int) (L : Nat) : (wait m L).size = L % 64 := by unfold wait; rw [strOfNums_size, upto_length]
theorem bt_wait (m : Nat → Int) (hm : ∀ j, 0 ≤ m j ∧ m j < 256) (L j : Nat) (hj : j < L % 64) : bt (wait m L) j = m (64 * (L / 64) + j) := by
  have := hm (64 * (L / 64) + j)
  unfold wait bt strOfNums
  simp only [List.getElem?_toArray, List.getElem?_map, upto, List.getElem?_range hj, Option.map_some, Option.getD_some]
  rw [UInt8.toNat_ofNat']
  omega
theorem wait_conv {w : World} {g : Nat} {m : Nat → Int} {L : Nat} {r : Nat → Int} {n : Int} {f : Nat → Int} (h : w.heap[g]? = some (.cells (sm f r n) 79 (0, 0))) (hr : ∀ j, j < L % 64 → r j = m (64 * (L / 64) + j)) :
    (convert 42 9 (.slice (some ⟨g, 8, none⟩) (L % 64) 64)).run Tryd.prog w = .ok (.string (wait m L)) w := by
  refine run_convert_bytes_arg w 42 5 Tryd.underlying42 Tryd.underlying5 g 8 (L % 64) 64 (upto (fun j => m (64 * (L / 64) + j)) (L % 64)) (by rw [upto_length]) (fun i hi => ?_) 9 Tryd.underlying9
  rw [cell_of_row _ _ _ _ _ _ h, sm_r _ _ _ _ (by omega), hr i hi]
  simp [upto, List.getD, hi]
set_option maxRecDepth 100000 in
set_option maxHeartbeats 1000000 in
theorem lay_in (Kt iv m : Nat → Int) (hm : ∀ j, 0 ≤ m j ∧ m j < 256) (g L len cap : Nat) (o : Option Addr) (ts : Nat → ByteArray) (w : World) {tt : TypeId} {fr : Nat × Nat} (hK : w.heap[1]? = some (.cells (w64 Kt) tt fr)) (hg1 : g ≠ 1)
    (hL : L + offs ts len ≤ 1099511627776) (hlen : len ≤ 1099511627776) (ht : Told Kt iv m w g L)
    (hts : ∀ i, i < len → (∃ b off, o = some ⟨b, off, none⟩ ∧ b ≠ g ∧ b < w.heap.size ∧ w.cell? ⟨b, off + i, none⟩ = some (.string (ts i))) ∧ ∀ j, j < (ts i).size → bt (ts i) j = m (L + offs ts i + j)) :
    CallsIn Fence.wide 5 Tryd.prog 41 #[.pointer (some ⟨g, 0, none⟩), .slice o len cap] w fun e w' => e = .returned (.tuple #[]) ∧ Told Kt iv m w' g (L + offs ts len) ∧ w.grownBy w' (some g) := by
  obtain ⟨r, hg, hr⟩ := ht
  have hgl : g < w.heap.size := (Array.getElem?_eq_some_iff.1 hg).1
  have h1l : 1 < w.heap.size := (Array.getElem?_eq_some_iff.1 hK).1
  refine callsIn_of_wp_marks Tryd.func41 rfl trivial ?_ rfl
  simp only [Tryd.ntmps41, List.size_toArray, List.length_cons, List.length_nil, Nat.reduceAdd, Nat.reduceSub, Array.replicate_succ, Array.replicate_zero, List.push_toArray, List.append_toArray, List.nil_append, List.cons_append]
  have HG : Hid _ := hg
  have HK : Hid _ := hK
  have HTS : Hid _ := hts
  have HR : Hid _ := hr
  have HLL : Hid _ := hL
  have HM : Hid _ := hm
  have L1 : (L : Int) ≤ 1099511627776 := by omega
  have L0 : (0 : Int) ≤ (L : Int) := by omega
  clear hg hK hts hr hL hm
  gi_wp2
  obtain ⟨w0, hw0⟩ : ∃ w0, w.alloc (.cells #[.pointer (some ⟨g, 0, none⟩)] 70) = w0 := ⟨_, rfl⟩
  have hb0 : Below w.heap.size w w0 := by rw [← hw0]; exact (Below.refl _ w).alloc (Nat.le_refl _) _
  have G0 : Hid (w0.heap[g]? = some (.cells (sm (hs Kt iv m (L / 64)) r (L : Int)) 79 (0, 0))) := (hb0.block g hgl).trans HG.out
  have X0 : Hid (w0.heap[w.heap.size]? = some (.cells #[.pointer (some ⟨g, 0, none⟩)] 70 (0, 0))) := by rw [← hw0]; exact heap_alloc_new w _
  have cb : w0.cell? ⟨w.heap.size, 0, none⟩ = some (.pointer (some ⟨g, 0, none⟩)) := by rw [cell_of_row _ _ _ _ _ _ X0.out]; rfl
  have cc : w0.cell? ⟨g, 72, none⟩ = some (.int .i64 (L : Int)) := by rw [cell_of_row _ _ _ _ _ _ G0.out, sm_c]
  obtain ⟨a0, ha0⟩ : ∃ a0, L % 64 = a0 := ⟨_, rfl⟩
  have hcv : ∀ n, (convert 42 9 (.slice (some ⟨g, 8, none⟩) a0 64)).run Tryd.prog (w0.drewN n) = .ok (.string (wait m L)) (w0.drewN n) := fun n => by
    rw [← ha0]; exact wait_conv (w := w0.drewN n) G0.out HR.out
  have t0 : (L : Int).tmod 64 = (a0 : Int) := by rw [Int.tmod_eq_emod_of_nonneg L0]; omega
  have t1 : (L : Int) % 64 = (a0 : Int) := by omega
  have t2 : a0 ≤ 64 := by omega
  have t3 : (a0 : Int) ≤ 64 := by omega
  have HA0 : Hid (L % 64 = a0) := ha0
  clear ha0
  rw [hw0]
  refine (wpIn_wide (n := 5)).2 (wp_scope_straight ((wpIn_wide (n := 5)).1 ?_))
  gi_wp2
  gi_quiet (fail)
  obtain ⟨w1, hw1⟩ : ∃ w1, w0.drewN nq = w1 := ⟨_, rfl⟩
  have hb1 : Below w.heap.size w w1 := by rw [← hw1]; exact below_drewN hb0 _
  have G1 : Hid (w1.heap[g]? = some (.cells (sm (hs Kt iv m (L / 64)) r (L : Int)) 79 (0, 0))) := by rw [← hw1]; exact G0.out
  have X1 : Hid (w1.heap[w.heap.size]? = some (.cells #[.pointer (some ⟨g, 0, none⟩)] 70 (0, 0))) := by rw [← hw1]; exact X0.out
  have B1 : Hid _ := hb1
  rw [hw1]
  clear hw1 hw0 hb0 hb1 hcv cb cc t0 t1 t3 t2 G0 X0 HG
  gi_wp2
  gi_loopw [20] (fun i wr => ∃ j : Nat, j ≤ len ∧ i = .int .i64 (j : Int) ∧ wr.heap[g]? = some (.cells (sm (hs Kt iv m (L / 64)) r ((L + offs ts j : Nat) : Int)) 79 (0, 0)) ∧ wr.heap[w.heap.size]? = some (.cells #[.pointer (some ⟨g, 0, none⟩)] 70 (0, 0)) ∧ w.grownBy wr (some g)) (fun i _ => len - (intOf i).toNat)
  case atStart => exact ⟨0, Nat.zero_le _, rfl, G1.out, X1.out, ⟨B1.out.os, B1.out.tape, B1.out.output, B1.out.size, fun k hk _ => B1.out.block k hk⟩⟩
  case round =>
    clear G1 X1 B1
    obtain ⟨j, hj, rfl, hg, hx, hgr⟩ := hrel
    have G1 : Hid (wr.heap[g]? = some (.cells (sm (hs Kt iv m (L / 64)) r ((L + offs ts j : Nat) : Int)) 79 (0, 0))) := hg
    have X1 : Hid (wr.heap[w.heap.size]? = some (.cells #[.pointer (some ⟨g, 0, none⟩)] 70 (0, 0))) := hx
    have GR : Hid (w.grownBy wr (some g)) := hgr
    clear hg hx hgr
    have g0 : (0 : Int) ≤ (j : Int) := by omega
    have g2 : (j : Int) ≤ 1099511627776 := by omega
    by_cases hlt : j < len
    · obtain ⟨⟨b, off, ho, hbg, hbW, hcell⟩, _⟩ := HTS.out j hlt
      subst ho
      have ct : wr.cell? ⟨b, off + j, none⟩ = some (.string (ts j)) := (cell_same (GR.out.block b hbW (by intro e; cases e; exact hbg rfl)) _).trans hcell
      obtain ⟨q, hq⟩ : ∃ q, L + offs ts j = q := ⟨_, rfl⟩
      have HQ : Hid (L + offs ts j = q) := hq
      have hq1 : q + (ts j).size ≤ 1099511627776 := by
        have h1 := HLL.out; have h2 := offs_mono ts (show j + 1 ≤ len from hlt)
        have h3 : offs ts (j + 1) = offs ts j + (ts j).size := rfl
        omega
      have hq2 : (q : Int) + ((ts j).size : Int) ≤ 1099511627776 := by omega
      have cb : wr.cell? ⟨w.heap.size, 0, none⟩ = some (.pointer (some ⟨g, 0, none⟩)) := by rw [cell_of_row _ _ _ _ _ _ X1.out]; rfl
      have cc : wr.cell? ⟨g, 72, none⟩ = some (.int .i64 (q : Int)) := by rw [cell_of_row _ _ _ _ _ _ G1.out, sm_c, hq]
      have cz := frozen_of_row wr g 72 _ _ G1.out
      have g1 : (j : Int) < (len : Int) := by omega
      clear hcell hq
      obtain ⟨tj, htj⟩ : ∃ tj, ts j = tj := ⟨_, rfl⟩
      have HTJ : Hid (ts j = tj) := htj
      rw [htj] at ct hq1 hq2
      clear htj
      gi_wp2
      have hne : w.heap.size ≠ g := by omega
      exact ⟨⟨j + 1, hlt, by go_num, by rw [show L + offs ts (j + 1) = q + tj.size by rw [← HQ.out, ← HTJ.out]; show L + (offs ts j + (ts j).size) = _; omega]; exact smset_c _ _ _ _ _ _ G1.out, (Below.heap_setCell _ _ _ _ hne).trans X1.out, gb_trans GR.out (gb_set _ _ _ _)⟩, by simp [intOf]; omega⟩
    · have hjl : j = len := by omega
      rw [hjl] at G1
      rw [show (j : Int) = (len : Int) by omega]
      clear hlt g0 g2 hj hjl
      gi_wp2
      refine wpIn_label ?_
      gi_wp2_with (refine ⟨trivial, ?_⟩; gi_at_call 45; refine (parts_in _ _ _ _ _ _).mono ?_; rintro e w' ⟨rfl, rfl⟩)
      obtain ⟨W2, hW2⟩ : ∃ W2, (wr.alloc (.cells #[.string (wait m L)] 9)).alloc (.cells #[.slice o len cap] 57) = W2 := ⟨_, rfl⟩
      have hn2 := two_new wr (.cells #[.string (wait m L)] 9) (.cells #[.slice o len cap] 57)
      have hs2 : W2.heap.size = wr.heap.size + 2 := by rw [← hW2]; simp
      rw [hW2] at hn2 ⊢
      obtain ⟨e1, e2, hb2⟩ := hn2
      have hwr : w.heap.size < wr.heap.size := (Array.getElem?_eq_some_iff.1 X1.out).1
      have G2 := (hb2.block g (by omega)).trans G1.out
      have X2 := (hb2.block _ hwr).trans X1.out
      have GR2 : w.grownBy W2 (some g) := gb_below GR.out hb2 (by omega)
      have hgW2 : g < W2.heap.size := by omega
      obtain ⟨T, hT⟩ : ∃ T, a0 + offs ts len = T := ⟨_, rfl⟩
      have hA := HA0.out
      have hLL := HLL.out
      have hdiv : (L + offs ts len) / 64 = L / 64 + T / 64 := by omega
      have hmod : (L + offs ts len) % 64 = T % 64 := by omega
      have hws : (wait m L).size = a0 := by rw [wait_size, hA]
      have hcnt : ((L + offs ts len : Nat) : Int) ≤ 1099511627776 := by omega
      obtain ⟨cnt, hcn⟩ : ∃ cnt : Int, ((L + offs ts len : Nat) : Int) = cnt := ⟨_, rfl⟩
      rw [hcn] at G2
      refine range_law rfl (by omega) (gf := 49) (lb := #[.pointer (some ⟨wr.heap.size, 0, none⟩), .pointer (some ⟨wr.heap.size + 1, 0, none⟩)]) rfl trivial (enters_of Tryd.func49 (by kernel_rfl) rfl)
        (fun x : Nat × Nat => #[.slice (some ⟨x.1, 0, none⟩) x.2 64]) (fun _ => rfl) (Kc g) Kc.trans (fun W l o o' h hc => Kc.put g W l o o' h hc)
        (Yp (W2.heap.size + 2) T (fun j => m (64 * (L / 64) + j))) (fun k x W l o' hy _ hl => Yp_put o' hy hl)
        (fun k W => 64 * k ≤ T ∧ W.heap[g]? = some (.cells (sm (hs Kt iv m (L / 64 + k)) r cnt) 79 (0, 0)) ∧ W.heap[w.heap.size]? = some (.cells #[.pointer (some ⟨g, 0, none⟩)] 70 (0, 0)) ∧ w.grownBy W (some g))
        (fun W => Told Kt iv m W g (L + offs ts len) ∧ w.grownBy W (some g)) 2
        (fun k W W' h hb => ⟨h.1, (hb.block g (by omega)).trans h.2.1, (hb.block _ (by omega)).trans h.2.2.1, gb_below h.2.2.2 hb (by omega)⟩)
        (fun W W' h hb => ⟨by obtain ⟨r', h1, h2⟩ := h.1; exact ⟨r', (hb.block g (by omega)).trans h1, h2⟩, gb_below h.2 hb (by omega)⟩)
        ⟨by omega, G2, X2, GR2⟩ (fun k => T < 64 * k) (fun k W h hk => by have := h.1; omega)
        (fun x => { tmps := #[Value.pointer (some ⟨g, 0, none⟩), Value.slice o len cap,
          Value.pointer (some ⟨w.heap.size, 0, none⟩), undef, Value.string (wait m L), undef, u6, .slice (some ⟨x.1, 0, none⟩) x.2 64,
          Value.pointer (some ⟨g, 0, none⟩), Value.pointer (some ⟨g, 0, none⟩),
          Value.pointer (some ⟨g, 8, none⟩), Value.pointer (some ⟨g, 0, none⟩),
          Value.pointer (some ⟨g, 0, none⟩), Value.pointer (some ⟨g, 72, none⟩),
          Value.int IntKind.i64 (L : Int), Value.int IntKind.i64 (a0 : Int), Value.slice (some ⟨g, 8, none⟩) a0 64,
          Value.string (wait m L), Value.slice o len cap, Value.int IntKind.i64 (len : Int), Value.int IntKind.i64 (len : Int),
          Value.bool false, u22, u23, u24, u25, u26, u27, u28, u29, u30, u31, u32, u33, Value.string (wait m L),
          Value.slice o len cap,
          Value.func (Fn.func 49) #[] #[Value.pointer (some ⟨wr.heap.size, 0, none⟩), Value.pointer (some ⟨wr.heap.size + 1, 0, none⟩)],
          .slice (some ⟨x.1, 0, none⟩) x.2 64, undef, undef, undef, undef, undef, undef, undef, undef, undef, undef, undef, undef, undef, undef], defers := [] }) ?assign ?body ?iter ?stop
      case assign =>
        intro l x W K hK
        gi_wp2
        exact hK
      case iter =>
        intro l W1 hB1 hs1 R Rx hR hRx hY h0
        have hbW : Below wr.heap.size wr W1 := hb2.trans (hB1.mono (by omega))
        refine parts1_in 4 (by omega) l wr.heap.size (wr.heap.size + 1) g len cap o (wait m L) ts (fun j => m (64 * (L / 64) + j)) T W1 (by omega)
          (fun j hj => bt_wait m HM.out L j (by omega)) (fun i hi j hj => ?_) (by omega) hlen (fun i hi => ?_) ((hB1.block _ (by omega)).trans e1) ((hB1.block _ (by omega)).trans e2) (by omega) R Rx hR hRx (fun k x A hA' hy => hY k x A hA' (by rw [← hs1]; exact hy)) h0
        · rw [(HTS.out i hi).2 j hj, hws]
          congr 1
          omega
        · obtain ⟨⟨b, off, ho, hbg, hbw, hcell⟩, _⟩ := HTS.out i hi
          refine ⟨?_, b, off, ho, hbg, by have := hbW.size; omega, ?_⟩
          · have h2 := offs_mono ts (show i + 1 ≤ len from hi)
            have h3 : offs ts (i + 1) = offs ts i + (ts i).size := rfl
            omega
          · rw [← hcell]
            exact (cell_same (hbW.block b (by omega)) _).trans (cell_same (GR.out.block b hbw (by intro e; cases e; exact hbg rfl)) _)
      case body =>
        rintro l k ⟨p, c⟩ W ⟨hkT, hgW, hxW, hgrW⟩ ⟨y1, y2, y3, y4, y5, y6⟩
        have HGW : Hid _ := hgW
        have HGR : Hid (w.grownBy W (some g)) := hgrW
        have HXW : Hid _ := hxW
        have cb : W.cell? ⟨w.heap.size, 0, none⟩ = some (.pointer (some ⟨g, 0, none⟩)) := by rw [cell_of_row _ _ _ _ _ _ hxW]; rfl
        have hpg : p ≠ g := by simp at y1; omega
        have Y3 : c ≤ 64 := y3
        have Y4 : 64 * k + c ≤ T := y4
        have Y5 : c < 64 → 64 * k + c = T := y5
        have Y6 : ∀ j, j < c → W.cell? ⟨p, j, none⟩ = some (.int .u8 (m (64 * (L / 64) + (64 * k + j)))) := y6
        have Y2 : p < W.heap.size := y2
        by_cases hc : c < 64
        · have q1 : (c : Int) < 64 := by omega
          have hcr := run_copy_row (P := Tryd.prog) W 42 42 3 5 g 8 64 64 ⟨p, 0, none⟩ c 64 _ 79 (mc m (64 * (L / 64) + 64 * k) c) Tryd.underlying42 (by kernel_rfl) hgW
            (by rw [mc_length]; exact (Nat.min_eq_left Y3).symm) (fun j v hv => by
              have hj : j < c := by have := (List.getElem?_eq_some_iff.1 hv).1; rw [mc_length] at this; exact this
              rw [mc_get _ _ _ _ hj] at hv
              rw [Addr.add_lit, Nat.zero_add, Y6 j hj, ← hv, Nat.add_assoc]) (by rw [mc_length, sm_size]; omega) (fun v hv => by
              unfold mc at hv
              obtain ⟨z, _, rfl⟩ := List.mem_map.1 hv
              rfl)
          rw [mc_length, sm_copy _ _ _ _ _ _ Y3] at hcr
          have hcr' : (Builtin.copy_ #[42, 42] 3 #[.slice (some ⟨g, 8, none⟩) 64 64, .slice (some ⟨p, 0, none⟩) c 64]).run Tryd.prog W = .ok (.int .i64 (c : Int)) (W.setRow g (sm (hs Kt iv m (L / 64 + k)) (rst r m (64 * (L / 64) + 64 * k) c) cnt)) := hcr
          have HT5 := Y5 hc
          have hk1 : T / 64 = k := by omega
          have hk2 : T % 64 = c := by omega
          have FIN : Hid (Told Kt iv m (W.setRow g (sm (hs Kt iv m (L / 64 + k)) (rst r m (64 * (L / 64) + 64 * k) c) cnt)) g (L + offs ts len)) := by
            refine ⟨_, by rw [hdiv, hk1, hcn]; exact setRow_heap _ _ _ _ _ _ hgW, fun j hj => ?_⟩
            rw [hmod, hk2] at hj
            rw [hdiv, hk1]
            unfold rst
            rw [if_pos hj]
            congr 1
            omega
          have GRF : Hid (W.grownBy (W.setRow g (sm (hs Kt iv m (L / 64 + k)) (rst r m (64 * (L / 64) + 64 * k) c) cnt)) (some g)) := ⟨rfl, rfl, rfl, by rw [size_setRow]; exact Nat.le_refl _, fun j _ hne => setRow_other _ _ _ _ (by intro e; subst e; exact hne rfl)⟩
          clear hcr y1 y2 y3 y4 y5 y6 Y2 Y3 Y4 Y5 Y6 hk1 hk2 HT5 hgW hxW hgrW G2 X2 GR2 e1 e2 hb2 hs2 hdiv hmod hA hLL hT hws hcnt hcn hW2
          gi_wp2
          exact ⟨rfl, KeepsFrom.of_grownBy GRF.out (fun j e => by cases e; exact hgW2), FIN.out, gb_trans HGR.out GRF.out⟩
        · have hc64 : c = 64 := by omega
          subst hc64
          have q1 : ¬ ((64 : Nat) : Int) < 64 := by omega
          have hKW : W.heap[1]? = some (.cells (w64 Kt) tt fr) := (hgrW.block 1 h1l (by intro e; cases e; exact hg1 rfl)).trans HK.out
          have hchg := change_any Kt (fun j => m (64 * (L / 64 + k) + j)) (hs Kt iv m (L / 64 + k)) r cnt g p 64 W hKW Y2 (fun j hj => by rw [Y6 j hj]; congr 3; omega) (fun j => HM.out _) hgW
          have HCH : Hid _ := hchg
          clear y1 y2 y3 y4 y5 y6 Y2 Y3 Y5 Y6 hgW hxW hgrW G2 X2 GR2 e1 e2 hb2 hdiv hmod hA hLL hT hws hcnt hcn hW2 hKW hchg
          gi_wp2
          refine ⟨trivial, ?_⟩
          refine (CallsIn.inRound l (callsIn_wide.2 HCH.out)).mono ?_
          rintro e W3 ⟨rfl, hg3, hgr3⟩
          have G3 : Hid (W3.heap[g]? = some (.cells (sm (hs Kt iv m (L / 64 + (k + 1))) r cnt) 79 (0, 0))) := hg3
          have GR3 : Hid (W.grownBy W3 (some g)) := hgr3
          clear hg3 hgr3 HCH
          gi_wp2
          have hne : w.heap.size ≠ g := by omega
          exact ⟨KeepsFrom.of_grownBy GR3.out (fun j e => by cases e; exact hgW2), Kc.of_grown GR3.out, by omega, G3.out, (GR3.out.block _ (Array.getElem?_eq_some_iff.1 HXW.out).1 (by intro e; cases e; exact hne rfl)).trans HXW.out, gb_trans HGR.out GR3.out⟩
      case stop =>
        rintro D W hD ⟨hT', hgr'⟩ hdf
        gi_wp2
        rw [Exit.noGoto_normal]
        refine ⟨by simp, .inl ⟨_, _, rfl, run_takeDeferred hdf, ?_⟩⟩
        refine ⟨_, results_none rfl _ _ _, rfl, ?_, ?_⟩
        · obtain ⟨r', h1, h2⟩ := hT'
          exact ⟨r', (World.putObj_heap_other (by omega)).trans h1, h2⟩
        · exact gb_below hgr' (below_put W _ hD) (by omega)
end Go.Proofs.YtmlechalhldlhaaDoor
