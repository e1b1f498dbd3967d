import Derived.Test.YtheheaflebkipaaGreatDoorQZI
import Derived.Test.YtheheaflebkipaaGreatDoorPZR
import Derived.Deep.RegionHeld3
namespace Go.Proofs.YtheheaflebkipaaGreatDoor.Ra
open Go.RowKit Go.Shelf
attribute [local go_sem] Oper.semAt_some
set_option maxRecDepth 100000 in
theorem ownsRow_setCell_other {w : World} {base : Nat} {e : TypeId} {size : Nat} {g cap n : Nat} {xs : List Value} (h : w.ownsRow base e size (.slice (some ⟨g, 0, none⟩) n cap) n xs) {a : Addr} (ha : g ≠ a.block) (u : Value) : (w.setCell a u).ownsRow base e size (.slice (some ⟨g, 0, none⟩) n cap) n xs := by
  refine ⟨h.1, ?_⟩
  rcases h.2 with h2 | ⟨g', cap', cur, hv, hg, hh, r⟩
  · exact .inl h2
  · refine .inr ⟨g', cap', cur, hv, hg, ?_, r⟩
    cases hv
    rw [Below.heap_setCell _ _ _ _ ha]; exact hh
set_option maxRecDepth 100000 in
theorem own_cells {w : World} {base : Nat} {e : TypeId} {size : Nat} {g cap n : Nat} {xs : List Value} (h : w.ownsRow base e size (.slice (some ⟨g, 0, none⟩) n cap) n xs) (b : Nat) (o : Obj) (hb : some g = some b) (ho : w.heap[b]? = some o) : o.isCells = true := by
  cases hb
  rcases h.2 with ⟨hv, _⟩ | ⟨g', cap', cur, hv, _, hh, _⟩
  · cases hv
  · cases hv
    rw [hh] at ho; cases ho; rfl
set_option maxRecDepth 100000 in
/-- The built-in append, by its run. -/
theorem opIn_append {F : Fence} {n : Nat} {P : Program} {o : Oper} {a : Act} {w : World} {K : Act → World → Prop} {Q : Exit → Act → World → Prop} (t : TypeId) (s x : Operand) (ho : o.op = .call { callee := .builtin .append, args := #[s, x], argTypes := #[t, t] })
    {vs vx v' : Value} {w' : World} (hs : a.eval s = vs) (hx : a.eval x = vx) (hrun : (Builtin.append_ #[t, t] o.type #[vs, vx]).run P w = .ok v' w') (hK : K (a.put o.dst v') w') : o.wpIn F n P a w K Q := by
  unfold Oper.wpIn
  refine ⟨?_, ?_⟩
  · simp [Oper.about, ho, resolve, Target.leads]
  · rw [Oper.semAt_plain F _ _ (by rw [ho]; intro c hc; cases hc)]
    simp [execOp, ho, hs, hx, hrun, Result.andThen, resolve, invoke, builtin]
    exact hK
set_option maxRecDepth 100000 in
theorem strm_length (f : Nat → Int) (C : Nat) : (strm f C).length = 16 * C := by
  unfold strm
  induction C with
  | zero => rfl
  | succ C ih => rw [cat_succ, List.length_append, ih, upto_length]; omega
/-- What Xor's own cells hold when k bytes have come out: the text, the row of bytes, its header. -/
def OutI (s : ByteArray) (Bx Bo : Nat) (W : World) (k : Nat) (g : Nat → Int) : Prop :=
  W.heap[Bx]? = some (.cells #[.string s] 9 (0, 0)) ∧ W.heap[Bo]? = some (.cells #[.slice (some ⟨Bx + 1, 0, none⟩) k s.size] 70 (0, 0)) ∧
  W.ownsRow (Bx + 1) 5 1 (.slice (some ⟨Bx + 1, 0, none⟩) k s.size) k ((upto g k).map (Value.int .u8))
set_option maxRecDepth 100000 in
theorem own_kept {W W' : World} {row : Option Nat} {base : Nat} {e : TypeId} {size : Nat} {g cap n : Nat} {xs : List Value} (h : W.ownsRow base e size (.slice (some ⟨g, 0, none⟩) n cap) n xs) (hg : W.grownBy W' row)
    (hr : ∀ r, row = some r → ∃ o : Obj, W.heap[r]? = some o ∧ o.isCells = false) : W'.ownsRow base e size (.slice (some ⟨g, 0, none⟩) n cap) n xs := by
  refine h.kept hg (.inr fun e => ?_)
  obtain ⟨o, h1, h2⟩ := hr g (by rw [← e]; rfl)
  rcases h.2 with ⟨hv, _⟩ | ⟨g', cap', cur, hv, _, hh, _⟩
  · cases hv
  · cases hv
    rw [hh] at h1; cases h1; cases h2
set_option maxRecDepth 100000 in
theorem OutI.kept {s : ByteArray} {Bx Bo : Nat} {W W' : World} {k : Nat} {g : Nat → Int} {row : Option Nat} (h : OutI s Bx Bo W k g) (hg : W.grownBy W' row)
    (hr : ∀ r, row = some r → ∃ o : Obj, W.heap[r]? = some o ∧ o.isCells = false) : OutI s Bx Bo W' k g :=
  ⟨blk_kept h.1 rfl hg hr, blk_kept h.2.1 rfl hg hr, own_kept h.2.2 hg hr⟩
set_option maxRecDepth 100000 in
theorem OutI.congr {s : ByteArray} {Bx Bo : Nat} {W : World} {k : Nat} {g g' : Nat → Int} (h : OutI s Bx Bo W k g) (hc : upto g k = upto g' k) : OutI s Bx Bo W k g' :=
  ⟨h.1, h.2.1, by rw [← hc]; exact h.2.2⟩
set_option maxRecDepth 100000 in
set_option maxHeartbeats 1000000 in
theorem Xor_yes_in (key nonce s : ByteArray) (w : World) (h1 : key.size = 32) (h2 : nonce.size = 12) (h : s.size ≤ 1048576) {tt : TypeId} {fr : Nat × Nat} (hg : w.heap[2]? = some (.cells tab tt fr)) :
    CallsIn Fence.wide 5 Tryz.prog 126 #[.string key, .string nonce, .string s] w fun e w' =>
      e = .returned (.tuple #[.string (strOfNums (upto (xf s (strm (lf (cat (fun j => wds (tx key nonce j)) 4)) ((s.size + 63) / 64))) s.size)), .int .i64 0]) ∧ Below w.heap.size w w' := by
  have hw0 : 2 < w.heap.size := (Array.getElem?_eq_some_iff.1 hg).1
  have H1 : Hid _ := h1
  have H2 : Hid _ := h2
  have HG : Hid _ := hg
  have hl : ¬ (1048576 : Int) < (s.size : Int) := by omega
  have hl0 : (s.size : Int) ≤ 1048576 := by omega
  have hld : decide ((1048576 : Int) < (s.size : Int)) = false := by simp; omega
  clear h1 h2 hg
  obtain ⟨i0, hi, hz0, hz1, hz2⟩ := info_parts info5
  refine callsIn_of_wp_marks Tryz.func126 rfl trivial ?_ rfl
  simp only [Tryz.ntmps126, List.size_toArray, List.length_cons, List.length_nil, Nat.reduceAdd, Nat.reduceSub, Array.replicate_succ, Array.replicate_zero, List.push_toArray, List.append_toArray, List.nil_append, List.cons_append]
  gi_wp2
  refine (wpIn_wide (n := 5)).2 (wp_scope_straight ((wpIn_wide (n := 5)).1 ?_))
  gi_wp2_with (first
    | (refine ⟨trivial, ?_⟩; gi_at_call 146; refine (callsIn_wide.2 (fit_yes _ _ _ H1.out H2.out)).mono ?_; rintro e w1 ⟨rfl, hh⟩; have hh' := hh.symm; clear hh; subst hh')
    | (gi_at_make; refine wpListIn_make_own _ rfl _ _ 70 rfl (w.heap.size + 1) 5 i0 (.int .u8 0) 1 Tryz.underlying70 hi hz0 hz1 .i64 .i64 (s.size : Int) s.size rfl rfl rfl (by rw [hz2]; omega) (by unfold maxLen; omega) (by simp) ?_; intro w2 hown2 hgrow2))
  have hs0 : (w.alloc (.cells #[.string s] 9)).heap[w.heap.size]? = some (.cells #[.string s] 9 (0, 0)) := heap_alloc_new w _
  have hsz0 : (w.alloc (.cells #[.string s] 9)).heap.size = w.heap.size + 1 := by simp
  have hs2 := (hgrow2.block w.heap.size (by omega) (by simp)).trans hs0
  have hb02 : Below w.heap.size w w2 := ((Below.refl _ w).alloc (Nat.le_refl _) _).grown hgrow2 (by omega) (fun k e => by cases e)
  have hlt2 : w.heap.size + 1 < w2.heap.size := by have := (hown2.lt _ rfl).2; simp at this; omega
  simp only [World.size_alloc] at hown2
  obtain ⟨W3, hW3⟩ : ∃ W3, w2.alloc (.cells #[.slice (some ⟨w.heap.size + 1, 0, none⟩) 0 s.size] 70) = W3 := ⟨_, rfl⟩
  have ho3 : W3.ownsRow (w.heap.size + 1) 5 1 (.slice (some ⟨w.heap.size + 1, 0, none⟩) 0 s.size) 0 [] := by rw [← hW3]; exact hown2.alloc _
  have hbo3 : W3.heap[w2.heap.size]? = some (.cells #[.slice (some ⟨w.heap.size + 1, 0, none⟩) 0 s.size] 70 (0, 0)) := by rw [← hW3]; exact heap_alloc_new w2 _
  have hs3 : W3.heap[w.heap.size]? = some (.cells #[.string s] 9 (0, 0)) := by rw [← hW3]; exact (Below.heap_alloc _ _ _ (by omega)).trans hs2
  have hb03 : Below w.heap.size w W3 := by rw [← hW3]; exact hb02.alloc hb02.size _
  have hsz3 : W3.heap.size = w2.heap.size + 1 := by rw [← hW3]; simp
  rw [hW3]
  clear hW3 hs0 hsz0 hs2 hb02 hown2 hgrow2
  have cS : W3.cell? ⟨w.heap.size, 0, none⟩ = some (.string s) := by rw [cell_of_row _ _ _ _ _ _ hs3]; rfl
  have lS : w.heap.size < W3.heap.size := by omega
  have HO3 : Hid (W3.ownsRow (w.heap.size + 1) 5 1 (.slice (some ⟨w.heap.size + 1, 0, none⟩) 0 s.size) 0 []) := ho3
  have HBo : Hid _ := hbo3
  have HS3 : Hid _ := hs3
  have HB3 : Hid _ := hb03
  have HZ3 : Hid _ := hsz3
  clear ho3 hbo3 hs3 hb03 hsz3
  refine wpIn_label ?_
  gi_wp2
  refine (wpIn_wide (n := 5)).2 ?_
  go_region_held3 (fun w' => w'.cell? ⟨w.heap.size, 0, none⟩ = some (.string s)) (first | assumption | exact cS) ((first
    | (go_at_call 147; refine (begin_any key nonce H1.out H2.out _).mono ?_; rintro e w4 ⟨rfl, hb4⟩; have y4 : w4.cell? ⟨w.heap.size, 0, none⟩ = some (.string s) := (hb4.cell (p := ⟨w.heap.size, 0, none⟩) lS).trans cS; have HB4 : Hid (Below W3.heap.size W3 w4) := ⟨hb4.os, hb4.tape, hb4.output, hb4.size, hb4.block⟩; clear hb4)
    | (go_at_call 148; refine (stream_any _ _ _).mono ?_; rintro e w5 ⟨rfl, hw5⟩; have y5 : w5.cell? ⟨w.heap.size, 0, none⟩ = some (.string s) := (by rw [hw5]; exact cell_al _ (cell_al _ y4)); have HW5 : Hid _ := hw5; clear hw5)))
  have hw5 := HW5.out
  have hB45 : Below w4.heap.size w4 w5 := two_below hw5
  have f2 : w5.heap[w4.heap.size + 1]? = some (.cells #[.int .i64 (s.size : Int)] 3 (0, 0)) := by
    rw [hw5]; simpa using heap_alloc_new (w4.alloc _) _
  have f1 : w5.heap[w4.heap.size]? = some (.cells (stc (lf (cat (fun j => wds (tx key nonce j)) 4))) 185 (0, 0)) := by
    rw [hw5]; exact (Below.heap_alloc _ _ _ (by simp)).trans (heap_alloc_new w4 _)
  have hsz5 : w5.heap.size = w4.heap.size + 1 + 1 := by rw [hw5]; simp
  clear hw5 HW5 y4 y5 cS
  have hB35 : Below W3.heap.size W3 w5 := HB4.out.trans (hB45.mono HB4.out.size)
  have hB05 : Below w.heap.size w w5 := HB3.out.trans (hB35.mono HB3.out.size)
  have hz3 := HZ3.out
  have h34 := HB4.out.size
  have o5 : OutI s w.heap.size w2.heap.size w5 0 (xf s []) := ⟨(hB35.block _ lS).trans HS3.out, (hB35.block _ (by omega)).trans HBo.out, own_below HO3.out hB35⟩
  have t5 := (hB05.block 2 hw0).trans HG.out
  have c5 : w5.cell? ⟨w4.heap.size + 1, 0, none⟩ = some (.int .i64 (s.size : Int)) := by rw [cell_of_row _ _ _ _ _ _ f2]; rfl
  clear f2 hB45 hB35 HB4 HB3 HS3 HBo HO3 HZ3
  have HO5 : Hid (OutI s w.heap.size w2.heap.size w5 0 (xf s [])) := o5
  have HT5 : Hid _ := t5
  have HC5 : Hid _ := c5
  have HF1 : Hid _ := f1
  have HB5 : Hid _ := hB05
  clear o5 t5 c5 f1 hB05 HG
  generalize hf : lf (cat (fun j => wds (tx key nonce j)) 4) = f at *
  have HF : Hid _ := hf
  clear hf
  gi_wp2
  have hlt4 : w2.heap.size < w4.heap.size := by omega
  have hn48 : s.size ≤ 1048576 := h
  refine wpIn_rangeFunc_ownF rfl (by omega) (gf := 167) (lb := #[.pointer (some ⟨w4.heap.size + 1, 0, none⟩), .pointer (some ⟨w4.heap.size, 0, none⟩)]) rfl trivial (enters_of Tryz.func167 (by kernel_rfl) rfl)
    (stream_stops 4 (by omega) (w4.heap.size + 1) w4.heap.size f s.size h w5 (by omega) (by omega) HC5.out HF1.out HT5.out) Kst.trans (fun W l o o' hl ho _ _ => ⟨World.putObj_heap_other (by omega), World.putObj_heap_other (by omega)⟩) (Below.refl _ _) (fun _ => rfl)
    (fun pre W => ((4 * pre.length ≤ s.size ∧ w4.heap.size < W.heap.size) ∧ OutI s w.heap.size w2.heap.size W (4 * pre.length) (xf s pre)) ∧ Below w.heap.size w W)
    (fun c pre W => (c = .exit 0 ∧ s.size ≤ 4 * pre.length ∧ OutI s w.heap.size w2.heap.size W s.size (xf s pre)) ∧ Below w.heap.size w W)
    (OwnFrom.and (Own.from (fun p A B row hp hg hr => ⟨⟨hp.1.1, Nat.lt_of_lt_of_le hp.1.2 hg.size⟩, hp.2.kept hg hr⟩) _) (ownFrom_below (Nat.le_refl _) (by omega)))
    (fun c => OwnFrom.and (Own.from (fun p A B row hp hg hr => ⟨hp.1, hp.2.1, hp.2.2.kept hg hr⟩) _) (ownFrom_below (Nat.le_refl _) (by omega)))
    ⟨⟨⟨by simp, by omega⟩, HO5.out⟩, HB5.out⟩
    (fun x => { tmps := #[.string key, .string nonce, .string s, undef, undef, .pointer (some ⟨w.heap.size, 0, none⟩), .string ⟨#[]⟩, .int .i64 0, .pointer (some ⟨w2.heap.size, 0, none⟩), .int .u32 x, .string key, .string nonce, .bool true, .bool false, .bool false, .string s, .int .i64 (s.size : Int), .bool false, .bool false, .string s, .int .i64 (s.size : Int), .slice (some ⟨w.heap.size + 1, 0, none⟩) 0 s.size, .string key, .string nonce, .agg (stc f), .string s, .int .i64 (s.size : Int), .func (.func 167) #[] #[.pointer (some ⟨w4.heap.size + 1, 0, none⟩), .pointer (some ⟨w4.heap.size, 0, none⟩)], .int .u32 x, undef, undef, undef, undef, undef, undef, undef, undef, undef, undef, undef, undef, undef, undef, undef, undef, undef, undef, undef, undef, undef, undef], defers := [] }) ?assign ?body ?done ?stop
  case assign =>
    intro l x W K hK
    gi_wp2
    exact hK
  case body =>
    rintro l pre x W ⟨⟨⟨hle, hsW⟩, ho⟩, hB⟩ _
    have hmx : Tryz.prog.follows .mixedOrders = true := by kernel_rfl
    clear HO5 HT5 HC5 HF1 HB5 H1 H2
    gi_wp2
    gi_loopw [9, 29] (fun v i wr => ∃ j : Nat, j ≤ 4 ∧ i = .int .i64 j ∧ v = .int .u32 (shx x j) ∧ 4 * pre.length + j ≤ s.size ∧ OutI s w.heap.size w2.heap.size wr (4 * pre.length + j) (xf s (pre ++ [x])) ∧ KeepsOthers W wr ∧ Kst w4.heap.size W wr ∧ Below w.heap.size w wr) (fun _ i _ => 4 - (intOf i).toNat)
    case atStart => exact ⟨0, by omega, rfl, by rw [shx_zero], hle, ho.congr (xf_snoc s pre x).symm, KeepsOthers.refl _, Kst.refl _ _, hB⟩
    case round =>
      clear ho hB hle
      obtain ⟨j, hj, rfl, rfl, hle, ho, hko, hks, hB⟩ := hrel
      have XA : Hid (j < 4 → xf s (pre ++ [x]) (4 * pre.length + j) = bits BinOp.xor IntKind.u8 (bt s (4 * pre.length + j)) (shx x j % 256)) := fun h4 => xf_at s pre x j h4
      have SX : Hid (shx x (j + 1) = shx x j / 256) := shx_succ x j
      have HL : Hid ((pre ++ [x]).length = pre.length + 1) := (by show (pre ++ [x]).length = pre.length + 1; simp)
      generalize hk : 4 * pre.length + j = k at *
      have HK : Hid (4 * pre.length + j = k) := hk
      clear hk
      have cs : wr.cell? ⟨w.heap.size, 0, none⟩ = some (.string s) := by rw [cell_of_row _ _ _ _ _ _ ho.1]; rfl
      have co : wr.cell? ⟨w2.heap.size, 0, none⟩ = some (.slice (some ⟨w.heap.size + 1, 0, none⟩) k s.size) := by rw [cell_of_row _ _ _ _ _ _ ho.2.1]; rfl
      have zo := frozen_of_row wr _ 0 _ _ ho.2.1
      have HO : Hid (OutI s w.heap.size w2.heap.size wr k (xf s (pre ++ [x]))) := ho
      have HKO : Hid (KeepsOthers W wr) := hko
      have HKS : Hid (Kst w4.heap.size W wr) := hks
      have HB : Hid (Below w.heap.size w wr) := hB
      clear ho hko hks hB
      have j0 : (0 : Int) ≤ (j : Int) := by omega
      by_cases h4 : j < 4
      · have j4 : (j : Int) < 4 := by omega
        by_cases hN : k = s.size
        · have hq : ((k : Int) == (s.size : Int)) = true := by simp; omega
          have HN : Hid (k = s.size) := hN
          clear hN
          gi_wp2
          refine ⟨HKO.out, ⟨rfl, ?_, ?_⟩, HB.out⟩
          · have := HK.out; have := HN.out; rw [HL.out]; omega
          · rw [← HN.out]; exact HO.out
        · have hq : ((k : Int) == (s.size : Int)) = false := by simp; omega
          have hkl : (k : Int) < (s.size : Int) := by omega
          have k0 : (0 : Int) ≤ (k : Int) := by omega
          clear hN
          have kn : k < s.size := by omega
          obtain ⟨y, hy⟩ : ∃ y, bits BinOp.xor IntKind.u8 (s[k].toNat : Int) (IntKind.u8.wrap (shx x j)) = y := ⟨_, rfl⟩
          have HY : Hid (xf s (pre ++ [x]) k = y) := by
            rw [← hy, IntKind.wrap_u8', bt_get s k kn]; exact XA.out h4
          have hwlt : w2.heap.size < wr.heap.size := (Array.getElem?_eq_some_iff.1 HO.out.2.1).1
          have hx4 : w4.heap.size < wr.heap.size := Nat.lt_of_lt_of_le hsW HKO.out.size
          obtain ⟨w9, hrun, hown9, hgrow9⟩ := run_append_fits (P := Tryz.prog) (wr.alloc (.cells #[.int .u8 y] 5)).drew (w.heap.size + 1) 70 70 5 i0 1 Tryz.underlying70 hi hz1 (w.heap.size + 1) k s.size _ (show (wr.alloc (.cells #[.int .u8 y] 5)).drew.ownsRow (w.heap.size + 1) 5 1 (.slice (some ⟨w.heap.size + 1, 0, none⟩) k s.size) k ((upto (xf s (pre ++ [x])) k).map (Value.int .u8)) from HO.out.2.2.alloc _)
            ⟨wr.heap.size, 0, none⟩ 1 1 [.int .u8 y] rfl (cell_one_new _ _ _) (fun u hu => by simp at hu; subst hu; rfl) (by omega)
          have hg8 : wr.grownBy (wr.alloc (.cells #[.int .u8 y] 5)).drew none := gb_dr (gb_al (gb_refl _ _) _)
          have e8 : (wr.alloc (.cells #[.int .u8 y] 5)).drew.heap.size = wr.heap.size + 1 := by show (wr.alloc (.cells #[.int .u8 y] 5)).heap.size = _; simp
          have nine : ∀ b, b < wr.heap.size → b ≠ w.heap.size + 1 → w9.heap[b]? = wr.heap[b]? := fun b hb hne => (hgrow9.block b (by omega) (by simpa using hne)).trans (hg8.block b hb (by simp))
          have hbo9 : w9.heap[w2.heap.size]? = some (.cells #[.slice (some ⟨w.heap.size + 1, 0, none⟩) k s.size] 70 (0, 0)) := (nine _ hwlt (by omega)).trans HO.out.2.1
          have c9 : w9.cell? ⟨w2.heap.size, 0, none⟩ = some (.slice (some ⟨w.heap.size + 1, 0, none⟩) k s.size) := by rw [cell_of_row _ _ _ _ _ _ hbo9]; rfl
          have z9 := frozen_of_row w9 _ 0 _ _ hbo9
          have HOut : Hid (OutI s w.heap.size w2.heap.size (w9.setCell ⟨w2.heap.size, 0, none⟩ (.slice (some ⟨w.heap.size + 1, 0, none⟩) (k + 1) s.size)) (k + 1) (xf s (pre ++ [x]))) := by
            refine ⟨(Below.heap_setCell _ _ _ _ (by simp; omega)).trans ((nine _ (by omega) (by omega)).trans HO.out.1), ?_, ?_⟩
            · rw [heap_setCell_same _ _ _ _ _ _ hbo9]; rfl
            · have hh := ownsRow_setCell_other hown9 (a := ⟨w2.heap.size, 0, none⟩) (by simp; omega) (.slice (some ⟨w.heap.size + 1, 0, none⟩) (k + 1) s.size)
              rw [upto_succ, List.map_append, HY.out]
              exact hh
          have HKO2 : Hid (KeepsOthers W (w9.setCell ⟨w2.heap.size, 0, none⟩ (.slice (some ⟨w.heap.size + 1, 0, none⟩) (k + 1) s.size))) :=
            ((HKO.out.trans (KeepsOthers.alloc _ _)).trans (KeepsOthers.drew _)).trans ((KeepsOthers.of_grownBy hgrow9 (fun b o hb ho => own_cells (HO.out.2.2.alloc (.cells #[.int .u8 y] 5)) b o hb ho)).trans (KeepsOthers.setCell _ _ _))
          have HKS2 : Hid (Kst w4.heap.size W (w9.setCell ⟨w2.heap.size, 0, none⟩ (.slice (some ⟨w.heap.size + 1, 0, none⟩) (k + 1) s.size))) :=
            Kst.trans HKS.out ⟨(Below.heap_setCell _ _ _ _ (by simp; omega)).trans (nine _ hx4 (by omega)), (Below.heap_setCell _ _ _ _ (by simp; omega)).trans (nine _ (by omega) (by omega))⟩
          have HB2 : Hid (Below w.heap.size w (w9.setCell ⟨w2.heap.size, 0, none⟩ (.slice (some ⟨w.heap.size + 1, 0, none⟩) (k + 1) s.size))) :=
            (((HB.out.alloc HB.out.size (.cells #[.int .u8 y] 5)).drew).grown hgrow9 (by have := HB.out.size; omega) (fun b e => by cases e; omega)).setCell (by simp; omega) _
          clear hown9 hgrow9 hg8 e8 nine hbo9 HO HKO HKS HB XA HY
          have hi8 : ∀ w', (Instr.index 9 (.string s) (.int .i64 (k : Int))).run Tryz.prog w' = .ok (.int .u8 (s[k].toNat : Int)) w' := fun w' => by simp [go_sem, k0, hkl]
          gi_wp2
          refine wpIn_region_any hmx ?_
          change wpAnyIn _ _ _ _ _ _ _ _ _ (World.drew _)
          refine anyIn_round (F := Fence.wide) l (by intro o ho c hc; simp at ho; rcases ho with rfl | rfl | rfl | rfl | rfl | rfl | rfl | rfl | rfl | rfl | rfl <;> cases hc) _ _ _ _ ?_
          refine wpAnyIn_take (i := 5) (v := ?_) rfl rfl (by kernel_rfl) (by kernel_rfl) (by kernel_rfl) (fun _ _ _ h => h) ⟨Or.inl ⟨by rfl, ?_⟩, fun _ => rfl⟩ ?_
          rotate_left
          · intro w
            go_simp
            try with_reducible rfl
          refine wpAnyIn_take (i := 6) (v := ?_) rfl rfl (by kernel_rfl) (by kernel_rfl) (by kernel_rfl) (fun _ _ _ h => h) ⟨Or.inl ⟨by rfl, ?_⟩, fun _ => rfl⟩ ?_
          rotate_left
          · intro w
            go_simp
            try with_reducible rfl
          refine wpAnyIn_ready (rs := [0, 1, 2]) (by kernel_rfl) (by simp) ?_
          refine (AllReadyIn.cons rfl (fun K hK => ?_) (AllReadyIn.cons rfl (fun K hK => ?_) (AllReadyIn.cons rfl (fun K hK => ?_) AllReadyIn.nil)))
          all_goals (go_simp; refine hK _ _ ?_; clear hK K)
          · refine wpAnyIn_ready (rs := [1, 2]) (by kernel_rfl) (by simp) ?_
            refine (AllReadyIn.cons rfl (fun K hK => ?_) (AllReadyIn.cons rfl (fun K hK => ?_) AllReadyIn.nil))
            all_goals (go_simp; refine hK _ _ ?_; clear hK K)
            · refine wpAnyIn_ready (rs := [2]) (by kernel_rfl) (by simp) ?_
              refine (AllReadyIn.cons rfl (fun K hK => ?_) AllReadyIn.nil)
              all_goals (go_simp; refine hK _ _ ?_; clear hK K)
              refine wpAnyIn_take (i := 3) (v := ?_) rfl rfl (by kernel_rfl) (by kernel_rfl) (by kernel_rfl) (fun _ _ _ h => h) ⟨Or.inl ⟨by rfl, ?_⟩, fun _ => rfl⟩ ?_
              rotate_left
              · intro w
                go_simp
                try with_reducible rfl
              refine wpAnyIn_take (i := 4) (v := ?_) rfl rfl (by kernel_rfl) (by kernel_rfl) (by kernel_rfl) (fun _ _ _ h => h) ⟨Or.inl ⟨by rfl, ?_⟩, fun _ => rfl⟩ ?_
              rotate_left
              · intro w
                go_simp
                try with_reducible rfl
              refine wpAnyIn_take (i := 7) (v := ?_) rfl rfl (by kernel_rfl) (by kernel_rfl) (by kernel_rfl) (fun _ _ _ h => h) ⟨Or.inl ⟨by rfl, ?_⟩, fun _ => rfl⟩ ?_
              rotate_left
              · intro w
                go_simp
                try with_reducible rfl
              refine wpAnyIn_ready (rs := [8]) (by kernel_rfl) (by simp) ?_
              refine (AllReadyIn.cons rfl (fun K hK => ?_) AllReadyIn.nil)
              all_goals (go_simp; refine hK _ _ ?_; clear hK K)
              refine wpAnyIn_ready (rs := [9]) (by kernel_rfl) (by simp) ?_
              refine (AllReadyIn.cons rfl (fun K hK => ?_) AllReadyIn.nil)
              rw [if_pos (by rfl)]
              refine opIn_append 70 _ _ rfl rfl rfl hrun ?_
              refine hK _ _ ?_
              clear hK K
              refine wpAnyIn_ready (rs := [10]) (by kernel_rfl) (by simp) ?_
              refine (AllReadyIn.cons rfl (fun K hK => ?_) AllReadyIn.nil)
              all_goals (go_simp; refine hK _ _ ?_; clear hK K)
              refine wpAnyIn_done (by kernel_rfl) ?_ _
              gi_wp2
              go_roundw
              case rel => exact ⟨j + 1, by omega, by go_num, by rw [SX.out], by have := HK.out; omega, by rw [show 4 * pre.length + (j + 1) = k + 1 by have := HK.out; omega]; exact HOut.out, HKO2.out, HKS2.out, HB2.out⟩
              case measure => simp [intOf]; omega
            · refine wpAnyIn_take (i := 3) (v := ?_) rfl rfl (by kernel_rfl) (by kernel_rfl) (by kernel_rfl) (fun _ _ _ h => h) ⟨Or.inl ⟨by rfl, ?_⟩, fun _ => rfl⟩ ?_
              rotate_left
              · intro w
                go_simp
                try with_reducible rfl
              refine wpAnyIn_ready (rs := [1]) (by kernel_rfl) (by simp) ?_
              refine (AllReadyIn.cons rfl (fun K hK => ?_) AllReadyIn.nil)
              all_goals (go_simp; refine hK _ _ ?_; clear hK K)
              refine wpAnyIn_take (i := 4) (v := ?_) rfl rfl (by kernel_rfl) (by kernel_rfl) (by kernel_rfl) (fun _ _ _ h => h) ⟨Or.inl ⟨by rfl, ?_⟩, fun _ => rfl⟩ ?_
              rotate_left
              · intro w
                go_simp
                try with_reducible rfl
              refine wpAnyIn_take (i := 7) (v := ?_) rfl rfl (by kernel_rfl) (by kernel_rfl) (by kernel_rfl) (fun _ _ _ h => h) ⟨Or.inl ⟨by rfl, ?_⟩, fun _ => rfl⟩ ?_
              rotate_left
              · intro w
                go_simp
                try with_reducible rfl
              refine wpAnyIn_ready (rs := [8]) (by kernel_rfl) (by simp) ?_
              refine (AllReadyIn.cons rfl (fun K hK => ?_) AllReadyIn.nil)
              all_goals (go_simp; refine hK _ _ ?_; clear hK K)
              refine wpAnyIn_ready (rs := [9]) (by kernel_rfl) (by simp) ?_
              refine (AllReadyIn.cons rfl (fun K hK => ?_) AllReadyIn.nil)
              rw [if_pos (by rfl)]
              refine opIn_append 70 _ _ rfl rfl rfl hrun ?_
              refine hK _ _ ?_
              clear hK K
              refine wpAnyIn_ready (rs := [10]) (by kernel_rfl) (by simp) ?_
              refine (AllReadyIn.cons rfl (fun K hK => ?_) AllReadyIn.nil)
              all_goals (go_simp; refine hK _ _ ?_; clear hK K)
              refine wpAnyIn_done (by kernel_rfl) ?_ _
              gi_wp2
              go_roundw
              case rel => exact ⟨j + 1, by omega, by go_num, by rw [SX.out], by have := HK.out; omega, by rw [show 4 * pre.length + (j + 1) = k + 1 by have := HK.out; omega]; exact HOut.out, HKO2.out, HKS2.out, HB2.out⟩
              case measure => simp [intOf]; omega
          · refine wpAnyIn_ready (rs := [0, 2]) (by kernel_rfl) (by simp) ?_
            refine (AllReadyIn.cons rfl (fun K hK => ?_) (AllReadyIn.cons rfl (fun K hK => ?_) AllReadyIn.nil))
            all_goals (go_simp; refine hK _ _ ?_; clear hK K)
            · refine wpAnyIn_ready (rs := [2]) (by kernel_rfl) (by simp) ?_
              refine (AllReadyIn.cons rfl (fun K hK => ?_) AllReadyIn.nil)
              all_goals (go_simp; refine hK _ _ ?_; clear hK K)
              refine wpAnyIn_take (i := 3) (v := ?_) rfl rfl (by kernel_rfl) (by kernel_rfl) (by kernel_rfl) (fun _ _ _ h => h) ⟨Or.inl ⟨by rfl, ?_⟩, fun _ => rfl⟩ ?_
              rotate_left
              · intro w
                go_simp
                try with_reducible rfl
              refine wpAnyIn_take (i := 4) (v := ?_) rfl rfl (by kernel_rfl) (by kernel_rfl) (by kernel_rfl) (fun _ _ _ h => h) ⟨Or.inl ⟨by rfl, ?_⟩, fun _ => rfl⟩ ?_
              rotate_left
              · intro w
                go_simp
                try with_reducible rfl
              refine wpAnyIn_take (i := 7) (v := ?_) rfl rfl (by kernel_rfl) (by kernel_rfl) (by kernel_rfl) (fun _ _ _ h => h) ⟨Or.inl ⟨by rfl, ?_⟩, fun _ => rfl⟩ ?_
              rotate_left
              · intro w
                go_simp
                try with_reducible rfl
              refine wpAnyIn_ready (rs := [8]) (by kernel_rfl) (by simp) ?_
              refine (AllReadyIn.cons rfl (fun K hK => ?_) AllReadyIn.nil)
              all_goals (go_simp; refine hK _ _ ?_; clear hK K)
              refine wpAnyIn_ready (rs := [9]) (by kernel_rfl) (by simp) ?_
              refine (AllReadyIn.cons rfl (fun K hK => ?_) AllReadyIn.nil)
              rw [if_pos (by rfl)]
              refine opIn_append 70 _ _ rfl rfl rfl hrun ?_
              refine hK _ _ ?_
              clear hK K
              refine wpAnyIn_ready (rs := [10]) (by kernel_rfl) (by simp) ?_
              refine (AllReadyIn.cons rfl (fun K hK => ?_) AllReadyIn.nil)
              all_goals (go_simp; refine hK _ _ ?_; clear hK K)
              refine wpAnyIn_done (by kernel_rfl) ?_ _
              gi_wp2
              go_roundw
              case rel => exact ⟨j + 1, by omega, by go_num, by rw [SX.out], by have := HK.out; omega, by rw [show 4 * pre.length + (j + 1) = k + 1 by have := HK.out; omega]; exact HOut.out, HKO2.out, HKS2.out, HB2.out⟩
              case measure => simp [intOf]; omega
            · refine wpAnyIn_take (i := 3) (v := ?_) rfl rfl (by kernel_rfl) (by kernel_rfl) (by kernel_rfl) (fun _ _ _ h => h) ⟨Or.inl ⟨by rfl, ?_⟩, fun _ => rfl⟩ ?_
              rotate_left
              · intro w
                go_simp
                try with_reducible rfl
              refine wpAnyIn_take (i := 4) (v := ?_) rfl rfl (by kernel_rfl) (by kernel_rfl) (by kernel_rfl) (fun _ _ _ h => h) ⟨Or.inl ⟨by rfl, ?_⟩, fun _ => rfl⟩ ?_
              rotate_left
              · intro w
                go_simp
                try with_reducible rfl
              refine wpAnyIn_take (i := 7) (v := ?_) rfl rfl (by kernel_rfl) (by kernel_rfl) (by kernel_rfl) (fun _ _ _ h => h) ⟨Or.inl ⟨by rfl, ?_⟩, fun _ => rfl⟩ ?_
              rotate_left
              · intro w
                go_simp
                try with_reducible rfl
              refine wpAnyIn_ready (rs := [0, 8]) (by kernel_rfl) (by simp) ?_
              refine (AllReadyIn.cons rfl (fun K hK => ?_) (AllReadyIn.cons rfl (fun K hK => ?_) AllReadyIn.nil))
              all_goals (go_simp; refine hK _ _ ?_; clear hK K)
              · refine wpAnyIn_ready (rs := [8]) (by kernel_rfl) (by simp) ?_
                refine (AllReadyIn.cons rfl (fun K hK => ?_) AllReadyIn.nil)
                all_goals (go_simp; refine hK _ _ ?_; clear hK K)
                refine wpAnyIn_ready (rs := [9]) (by kernel_rfl) (by simp) ?_
                refine (AllReadyIn.cons rfl (fun K hK => ?_) AllReadyIn.nil)
                rw [if_pos (by rfl)]
                refine opIn_append 70 _ _ rfl rfl rfl hrun ?_
                refine hK _ _ ?_
                clear hK K
                refine wpAnyIn_ready (rs := [10]) (by kernel_rfl) (by simp) ?_
                refine (AllReadyIn.cons rfl (fun K hK => ?_) AllReadyIn.nil)
                all_goals (go_simp; refine hK _ _ ?_; clear hK K)
                refine wpAnyIn_done (by kernel_rfl) ?_ _
                gi_wp2
                go_roundw
                case rel => exact ⟨j + 1, by omega, by go_num, by rw [SX.out], by have := HK.out; omega, by rw [show 4 * pre.length + (j + 1) = k + 1 by have := HK.out; omega]; exact HOut.out, HKO2.out, HKS2.out, HB2.out⟩
                case measure => simp [intOf]; omega
              · refine wpAnyIn_ready (rs := [0]) (by kernel_rfl) (by simp) ?_
                refine (AllReadyIn.cons rfl (fun K hK => ?_) AllReadyIn.nil)
                all_goals (go_simp; refine hK _ _ ?_; clear hK K)
                refine wpAnyIn_ready (rs := [9]) (by kernel_rfl) (by simp) ?_
                refine (AllReadyIn.cons rfl (fun K hK => ?_) AllReadyIn.nil)
                rw [if_pos (by rfl)]
                refine opIn_append 70 _ _ rfl rfl rfl hrun ?_
                refine hK _ _ ?_
                clear hK K
                refine wpAnyIn_ready (rs := [10]) (by kernel_rfl) (by simp) ?_
                refine (AllReadyIn.cons rfl (fun K hK => ?_) AllReadyIn.nil)
                all_goals (go_simp; refine hK _ _ ?_; clear hK K)
                refine wpAnyIn_done (by kernel_rfl) ?_ _
                gi_wp2
                go_roundw
                case rel => exact ⟨j + 1, by omega, by go_num, by rw [SX.out], by have := HK.out; omega, by rw [show 4 * pre.length + (j + 1) = k + 1 by have := HK.out; omega]; exact HOut.out, HKO2.out, HKS2.out, HB2.out⟩
                case measure => simp [intOf]; omega
          · refine wpAnyIn_take (i := 3) (v := ?_) rfl rfl (by kernel_rfl) (by kernel_rfl) (by kernel_rfl) (fun _ _ _ h => h) ⟨Or.inl ⟨by rfl, ?_⟩, fun _ => rfl⟩ ?_
            rotate_left
            · intro w
              go_simp
              try with_reducible rfl
            refine wpAnyIn_ready (rs := [0, 1]) (by kernel_rfl) (by simp) ?_
            refine (AllReadyIn.cons rfl (fun K hK => ?_) (AllReadyIn.cons rfl (fun K hK => ?_) AllReadyIn.nil))
            all_goals (go_simp; refine hK _ _ ?_; clear hK K)
            · refine wpAnyIn_ready (rs := [1]) (by kernel_rfl) (by simp) ?_
              refine (AllReadyIn.cons rfl (fun K hK => ?_) AllReadyIn.nil)
              all_goals (go_simp; refine hK _ _ ?_; clear hK K)
              refine wpAnyIn_take (i := 4) (v := ?_) rfl rfl (by kernel_rfl) (by kernel_rfl) (by kernel_rfl) (fun _ _ _ h => h) ⟨Or.inl ⟨by rfl, ?_⟩, fun _ => rfl⟩ ?_
              rotate_left
              · intro w
                go_simp
                try with_reducible rfl
              refine wpAnyIn_take (i := 7) (v := ?_) rfl rfl (by kernel_rfl) (by kernel_rfl) (by kernel_rfl) (fun _ _ _ h => h) ⟨Or.inl ⟨by rfl, ?_⟩, fun _ => rfl⟩ ?_
              rotate_left
              · intro w
                go_simp
                try with_reducible rfl
              refine wpAnyIn_ready (rs := [8]) (by kernel_rfl) (by simp) ?_
              refine (AllReadyIn.cons rfl (fun K hK => ?_) AllReadyIn.nil)
              all_goals (go_simp; refine hK _ _ ?_; clear hK K)
              refine wpAnyIn_ready (rs := [9]) (by kernel_rfl) (by simp) ?_
              refine (AllReadyIn.cons rfl (fun K hK => ?_) AllReadyIn.nil)
              rw [if_pos (by rfl)]
              refine opIn_append 70 _ _ rfl rfl rfl hrun ?_
              refine hK _ _ ?_
              clear hK K
              refine wpAnyIn_ready (rs := [10]) (by kernel_rfl) (by simp) ?_
              refine (AllReadyIn.cons rfl (fun K hK => ?_) AllReadyIn.nil)
              all_goals (go_simp; refine hK _ _ ?_; clear hK K)
              refine wpAnyIn_done (by kernel_rfl) ?_ _
              gi_wp2
              go_roundw
              case rel => exact ⟨j + 1, by omega, by go_num, by rw [SX.out], by have := HK.out; omega, by rw [show 4 * pre.length + (j + 1) = k + 1 by have := HK.out; omega]; exact HOut.out, HKO2.out, HKS2.out, HB2.out⟩
              case measure => simp [intOf]; omega
            · refine wpAnyIn_take (i := 4) (v := ?_) rfl rfl (by kernel_rfl) (by kernel_rfl) (by kernel_rfl) (fun _ _ _ h => h) ⟨Or.inl ⟨by rfl, ?_⟩, fun _ => rfl⟩ ?_
              rotate_left
              · intro w
                go_simp
                try with_reducible rfl
              refine wpAnyIn_take (i := 7) (v := ?_) rfl rfl (by kernel_rfl) (by kernel_rfl) (by kernel_rfl) (fun _ _ _ h => h) ⟨Or.inl ⟨by rfl, ?_⟩, fun _ => rfl⟩ ?_
              rotate_left
              · intro w
                go_simp
                try with_reducible rfl
              refine wpAnyIn_ready (rs := [0, 8]) (by kernel_rfl) (by simp) ?_
              refine (AllReadyIn.cons rfl (fun K hK => ?_) (AllReadyIn.cons rfl (fun K hK => ?_) AllReadyIn.nil))
              all_goals (go_simp; refine hK _ _ ?_; clear hK K)
              · refine wpAnyIn_ready (rs := [8]) (by kernel_rfl) (by simp) ?_
                refine (AllReadyIn.cons rfl (fun K hK => ?_) AllReadyIn.nil)
                all_goals (go_simp; refine hK _ _ ?_; clear hK K)
                refine wpAnyIn_ready (rs := [9]) (by kernel_rfl) (by simp) ?_
                refine (AllReadyIn.cons rfl (fun K hK => ?_) AllReadyIn.nil)
                rw [if_pos (by rfl)]
                refine opIn_append 70 _ _ rfl rfl rfl hrun ?_
                refine hK _ _ ?_
                clear hK K
                refine wpAnyIn_ready (rs := [10]) (by kernel_rfl) (by simp) ?_
                refine (AllReadyIn.cons rfl (fun K hK => ?_) AllReadyIn.nil)
                all_goals (go_simp; refine hK _ _ ?_; clear hK K)
                refine wpAnyIn_done (by kernel_rfl) ?_ _
                gi_wp2
                go_roundw
                case rel => exact ⟨j + 1, by omega, by go_num, by rw [SX.out], by have := HK.out; omega, by rw [show 4 * pre.length + (j + 1) = k + 1 by have := HK.out; omega]; exact HOut.out, HKO2.out, HKS2.out, HB2.out⟩
                case measure => simp [intOf]; omega
              · refine wpAnyIn_ready (rs := [0]) (by kernel_rfl) (by simp) ?_
                refine (AllReadyIn.cons rfl (fun K hK => ?_) AllReadyIn.nil)
                all_goals (go_simp; refine hK _ _ ?_; clear hK K)
                refine wpAnyIn_ready (rs := [9]) (by kernel_rfl) (by simp) ?_
                refine (AllReadyIn.cons rfl (fun K hK => ?_) AllReadyIn.nil)
                rw [if_pos (by rfl)]
                refine opIn_append 70 _ _ rfl rfl rfl hrun ?_
                refine hK _ _ ?_
                clear hK K
                refine wpAnyIn_ready (rs := [10]) (by kernel_rfl) (by simp) ?_
                refine (AllReadyIn.cons rfl (fun K hK => ?_) AllReadyIn.nil)
                all_goals (go_simp; refine hK _ _ ?_; clear hK K)
                refine wpAnyIn_done (by kernel_rfl) ?_ _
                gi_wp2
                go_roundw
                case rel => exact ⟨j + 1, by omega, by go_num, by rw [SX.out], by have := HK.out; omega, by rw [show 4 * pre.length + (j + 1) = k + 1 by have := HK.out; omega]; exact HOut.out, HKO2.out, HKS2.out, HB2.out⟩
                case measure => simp [intOf]; omega
      · have ej : j = 4 := by omega
        have jn : ¬ (j : Int) < 4 := by omega
        have HEJ : Hid _ := ej
        clear ej h4
        gi_wp2
        have e4 : 4 * (pre ++ [x]).length = k := by have := HK.out; have := HEJ.out; rw [HL.out]; omega
        exact ⟨HKO.out, HKS.out, ⟨⟨by rw [e4]; exact hle, Nat.lt_of_lt_of_le hsW HKO.out.size⟩, by rw [e4]; exact HO.out⟩, HB.out⟩
  case done =>
    rintro D ys W hD rfl ⟨⟨⟨hle, _⟩, ho'⟩, hB⟩ hK
    have hlen : 4 * (strm f ((s.size + 63) / 64)).length = s.size := by
      have := strm_length f ((s.size + 63) / 64)
      omega
    rw [hlen] at ho'
    have ho := ho'
    clear ho' hle
    have hD' := hD
    have co : W.cell? ⟨w2.heap.size, 0, none⟩ = some (.slice (some ⟨w.heap.size + 1, 0, none⟩) s.size s.size) := by rw [cell_of_row _ _ _ _ _ _ ho.2.1]; rfl
    have hcv := own_string ho.2.2
    have HB : Hid (Below w.heap.size w W) := hB
    have HK : Hid (W.heap[D]? = some (.deferred (some []))) := hK
    clear ho hB hK hD HO5 HT5 HC5 HF1 HB5 hi hz0 hz1 hz2
    gi_wp2
    rw [Exit.noGoto_ret]
    refine ⟨by simp, .inl ⟨_, _, rfl, run_takeDeferred HK.out, ?_⟩⟩
    refine ⟨_, results_tmp2 rfl _ _ _, ?_, HB.out.trans (belowK_b (w := w) (Nat.le_refl _) W D _ _ (by omega) HK.out rfl rfl)⟩
    rw [HF.out]
    rfl
  case stop =>
    rintro D c pre W hD hpre ⟨⟨rfl, hge, ho'⟩, hB⟩ hK
    have ho := ho'.congr (g' := xf s (strm f ((s.size + 63) / 64))) (upto_congr fun i hi => (xf_prefix s hpre i (by omega)).symm)
    clear ho' hge hpre
    have hD' := hD
    have co : W.cell? ⟨w2.heap.size, 0, none⟩ = some (.slice (some ⟨w.heap.size + 1, 0, none⟩) s.size s.size) := by rw [cell_of_row _ _ _ _ _ _ ho.2.1]; rfl
    have hcv := own_string ho.2.2
    have HB : Hid (Below w.heap.size w W) := hB
    have HK : Hid (W.heap[D]? = some (.deferred (some []))) := hK
    clear ho hB hK hD HO5 HT5 HC5 HF1 HB5 hi hz0 hz1 hz2
    gi_wp2
    rw [Exit.noGoto_ret]
    refine ⟨by simp, .inl ⟨_, _, rfl, run_takeDeferred HK.out, ?_⟩⟩
    refine ⟨_, results_tmp2 rfl _ _ _, ?_, HB.out.trans (belowK_b (w := w) (Nat.le_refl _) W D _ _ (by omega) HK.out rfl rfl)⟩
    rw [HF.out]
    rfl
end Go.Proofs.YtheheaflebkipaaGreatDoor.Ra
/- Plain facts on texts under the stream: what was done twice is as it was. -/
namespace Go.Proofs.YtheheaflebkipaaGreatDoor.Ra
/-- A text under the stream of a key and a nonce. -/
def xorS (key nonce s : ByteArray) : ByteArray := strOfNums (upto (xf s (strm (lf (cat (fun j => wds (tx key nonce j)) 4)) ((s.size + 63) / 64))) s.size)
theorem xorS_size (key nonce s : ByteArray) : (xorS key nonce s).size = s.size := by
  unfold xorS; rw [strOfNums_size, upto_length]
theorem u8_bits (op : BinOp) (a b : Int) : 0 ≤ bits op IntKind.u8 a b ∧ bits op IntKind.u8 a b < 256 := by
  unfold bits
  rw [IntKind.wrap_u8']
  omega
theorem xor8 (a b : Int) : bits BinOp.xor IntKind.u8 a b = ((BitVec.ofInt 8 a ^^^ BitVec.ofInt 8 b).toNat : Int) := by
  show IntKind.u8.wrap ((BitVec.ofInt 8 a ^^^ BitVec.ofInt 8 b).toNat : Int) = _
  rw [IntKind.wrap_u8']
  have := (BitVec.ofInt 8 a ^^^ BitVec.ofInt 8 b).isLt
  omega
theorem xor_xor (a k : Int) (h0 : 0 ≤ a) (h1 : a < 256) : bits BinOp.xor IntKind.u8 (bits BinOp.xor IntKind.u8 a k) k = a := by
  rw [xor8, xor8, BitVec.ofInt_natCast, BitVec.ofNat_toNat, BitVec.setWidth_eq, BitVec.xor_assoc, BitVec.xor_self, BitVec.xor_zero]
  obtain ⟨n, rfl⟩ := Int.eq_ofNat_of_zero_le h0
  rw [BitVec.ofInt_natCast, BitVec.toNat_ofNat]
  omega
theorem bt_range (s : ByteArray) (i : Nat) : 0 ≤ bt s i ∧ bt s i < 256 := by
  unfold bt
  have := (s.data[i]?.getD 0).toNat_lt
  omega
theorem bt_str (l : List Int) (i : Nat) (hi : i < l.length) (h0 : 0 ≤ l[i]) (h1 : l[i] < 256) : bt (strOfNums l) i = l[i] := by
  unfold bt strOfNums
  simp only [List.getElem?_toArray, List.getElem?_map, List.getElem?_eq_getElem hi, Option.map_some, Option.getD_some]
  rw [UInt8.toNat_ofNat']
  omega
theorem bt_upto (g : Nat → Int) (n i : Nat) (hi : i < n) (h0 : 0 ≤ g i) (h1 : g i < 256) : bt (strOfNums (upto g n)) i = g i := by
  have e : (upto g n)[i]'(by rw [upto_length]; exact hi) = g i := by simp [upto]
  rw [bt_str _ i (by rw [upto_length]; exact hi) (by rw [e]; exact h0) (by rw [e]; exact h1), e]
theorem str_bt (s : ByteArray) : strOfNums (upto (bt s) s.size) = s := by
  apply ByteArray.ext
  apply Array.ext
  · show (strOfNums (upto (bt s) s.size)).size = s.size
    rw [strOfNums_size, upto_length]
  · intro i h1 h2
    have hi : i < s.size := h2
    simp only [strOfNums, upto, List.getElem_toArray, List.getElem_map, List.getElem_range]
    unfold bt
    rw [Array.getElem?_eq_getElem h2]
    simp
theorem xorS_twice (key nonce s : ByteArray) : xorS key nonce (xorS key nonce s) = s := by
  have e : xorS key nonce (xorS key nonce s) = strOfNums (upto (bt s) s.size) := by
    show strOfNums (upto (xf (xorS key nonce s) (strm _ (((xorS key nonce s).size + 63) / 64))) (xorS key nonce s).size) = _
    rw [xorS_size]
    congr 1
    refine upto_congr fun i hi => ?_
    unfold xf
    have hr := u8_bits BinOp.xor (bt s i) (lf (kb (strm (lf (cat (fun j => wds (tx key nonce j)) 4)) ((s.size + 63) / 64))) i)
    have hb : bt (xorS key nonce s) i = bits BinOp.xor IntKind.u8 (bt s i) (lf (kb (strm (lf (cat (fun j => wds (tx key nonce j)) 4)) ((s.size + 63) / 64))) i) := by
      unfold xorS
      exact bt_upto _ _ i hi hr.1 hr.2
    rw [hb]
    exact xor_xor _ _ (bt_range s i).1 (bt_range s i).2
  rw [e, str_bt]
end Go.Proofs.YtheheaflebkipaaGreatDoor.Ra
namespace Go.Proofs.YtheheaflebkipaaGreatDoor.Ra
open Go.RowKit
set_option maxRecDepth 100000 in
theorem Xor_yes (key nonce s : ByteArray) (w : World) (h1 : key.size = 32) (h2 : nonce.size = 12) (h : s.size ≤ 1048576) {tt : TypeId} {fr : Nat × Nat} (hg : w.heap[2]? = some (.cells tab tt fr)) :
    Calls Tryz.prog 126 #[.string key, .string nonce, .string s] w fun e w' => e = .returned (.tuple #[.string (xorS key nonce s), .int .i64 0]) ∧ Below w.heap.size w w' := callsIn_wide.1 (Xor_yes_in key nonce s w h1 h2 h hg)
end Go.Proofs.YtheheaflebkipaaGreatDoor.Ra
