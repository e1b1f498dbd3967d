/- A reader: lists of refs. -/
import Derived.Test.YtljponlfjombaaaQIP
namespace Go.Proofs.Ytljponlfjombaaa.Rw
open Go.RowKit Go.Lib Go.Shelf
open Go.Proofs.Ytljponlfjombaaa.Rc Go.Proofs.Ytljponlfjombaaa.Rq
set_option maxRecDepth 100000 in
theorem infoRef : (Try.prog.info? 28).map (fun i => (i.zero, i.size, i.bytes)) = some (some (.agg #[.int .u32 0, .string ⟨#[]⟩]), 2, 24) := by kernel_rfl
set_option maxRecDepth 100000 in
theorem own_sameF {W W' : World} {base : Nat} {v : Value} {n : Nat} {xs : List Value} (h : W.ownsRow base 28 2 v n xs) (hs : ∀ b, base ≤ b → b < W.heap.size → W'.heap[b]? = W.heap[b]?) : W'.ownsRow base 28 2 v n xs := by
  refine ⟨h.1, ?_⟩
  rcases h.2 with h2 | ⟨g, cap, cur, h1, h2, h3, h4⟩
  · exact .inl h2
  · exact .inr ⟨g, cap, cur, h1, h2, (hs g h2 (Array.getElem?_eq_some_iff.1 h3).1).trans h3, h4⟩
set_option maxRecDepth 100000 in
theorem own_baseF {W : World} {base : Nat} {v : Value} {n : Nat} {xs : List Value} (h : W.ownsRow base 28 2 v n xs) {b : Nat} (hb : v.ownBlock = some b) : base ≤ b := by
  rcases h.2 with ⟨rfl, -⟩ | ⟨g, cap, cur, rfl, h2, h3, -⟩
  · simp [Value.ownBlock] at hb
  · simp [Value.ownBlock] at hb
    omega
set_option maxRecDepth 100000 in
theorem one_refF {w : World} {g : Nat} {r : Rf} {ty : TypeId} {fr : Nat × Nat} (h : w.heap[g]? = some (.cells #[.int .u32 (r.p : Int), .string r.t] ty fr)) : Sl 2 w (some ⟨g, 0, none⟩) 1 1 (fc r) := by
  refine ⟨Nat.le_refl _, by decide, (fun e => by cases e), rfl, fun _ => ⟨g, 0, rfl, (Array.getElem?_eq_some_iff.1 h).1, fun j u hu => ?_⟩⟩
  rw [Nat.zero_add, cell_of_row _ _ _ _ _ _ h]
  have : j < 2 := (List.getElem?_eq_some_iff.1 hu).1
  obtain rfl | rfl : j = 0 ∨ j = 1 := by omega
  all_goals exact hu
set_option maxRecDepth 100000 in
theorem fc_one1 (r : Rf) : ∀ u ∈ fc r, u.oneCell' = true := by
  intro u hu
  simp [fc] at hu
  rcases hu with rfl | rfl <;> rfl
abbrev refF (g : Nat) : Value := .func (.func 50) #[.pointer (some ⟨g, 0, none⟩)] #[]
set_option maxRecDepth 100000 in
set_option maxHeartbeats 4000000 in
theorem listRef_any (g : Nat) (st : RS) (c : Nat) (hc : c ≤ 1000) (w : World) (h : RdS g st w) :
    Calls Try.prog 53 #[.pointer (some ⟨g, 0, none⟩), .int .u64 (c : Int), refF g] w fun e w' => ∃ v, e = .returned v ∧ w'.ownsRow w.heap.size 28 2 v (lstS refS f2S c st).1.length ((lstS refS f2S c st).1.flatMap fc) ∧ RdS g (lstS refS f2S c st).2 w' ∧ Bo g w w' := by
  have HR : Hid _ := ref_any g
  have H0 : Hid (RdS g st w) := h
  have lg : g < w.heap.size := (Array.getElem?_eq_some_iff.1 h).1
  obtain ⟨L, hL⟩ : ∃ L, lstS refS f2S c st = L := ⟨_, rfl⟩
  have HLL : Hid (lstS refS f2S c st = L) := hL
  rw [hL]
  clear h hL
  go_enter Try.func53, Try.ntmps53
  go_wp2_with fail
  refine wp_scope_straight ?_
  go_wp2_with fail
  refine wp_label ?_
  go_wp2_with fail
  go_loopw [7, 10] (fun lv iv wr => ∃ (i : Nat) (xs : List Rf) (si : RS), i ≤ c ∧ iv = .int .u64 (i : Int) ∧ xs.length = i ∧ L = (xs ++ (lstS refS f2S (c - i) si).1, (lstS refS f2S (c - i) si).2) ∧ wr.ownsRow w.heap.size 28 2 lv i (xs.flatMap fc) ∧ RdS g si wr ∧ Bo g w wr) (fun _ iv _ => c - natOf iv)
  case atStart => exact ⟨0, [], st, Nat.zero_le _, rfl, rfl, by rw [← HLL.out]; simp, World.ownsRow_nil _ _ _ _, H0.out, But.refl _ _⟩
  case round =>
    obtain ⟨i, xs, si, hi, rfl, hxl, hLe, ho, hrd, hbo⟩ := hrel
    have HO : Hid _ := ho
    have HRD : Hid (RdS g si wr) := hrd
    have HBO : Hid (Bo g w wr) := hbo
    have HLE : Hid _ := hLe
    have HXL : Hid (xs.length = i) := hxl
    obtain ⟨lo, lc, rfl, -⟩ := sl_of_own ho
    clear ho hrd hbo hLe hxl
    by_cases hlt : i < c
    · have q1 : (i : Int) < (c : Int) := by omega
      obtain ⟨k, hk⟩ : ∃ k, c - i = k + 1 := ⟨c - i - 1, by omega⟩
      have hk2 : c - (i + 1) = k := by omega
      go_wp2_with fail
      refine (HR.out si wr HRD.out).mono ?_
      rintro e w1 ⟨rfl, r1, b1⟩
      have hle := HLE.out
      rw [hk] at hle
      obtain ⟨⟨p, t⟩, hrw⟩ : ∃ r, refS si = r := ⟨_, rfl⟩
      rw [hrw]
      simp only [fcv]
      have hbx := below_new w1 (.cells #[.int .u32 (p : Int), .string t] 28)
      obtain ⟨c0, c1, lg1, -, -⟩ := rd_cells r1
      obtain ⟨⟨s0, s1⟩, lB⟩ := ref_cells (heap_alloc_new w1 (.cells #[.int .u32 (p : Int), .string t] 28))
      have HB1 : Hid (Bo g w w1) := HBO.out.trans b1
      have HB2 : Hid (Bo g w (w1.alloc (.cells #[.int .u32 (p : Int), .string t] 28))) := HB1.out.trans (But.of_below hbx)
      have HR2 : Hid (RdS g (f2S si) (w1.alloc (.cells #[.int .u32 (p : Int), .string t] 28))) := (hbx.block _ lg1).trans r1
      have HO1 : Hid ((w1.alloc (.cells #[.int .u32 (p : Int), .string t] 28)).ownsRow w.heap.size 28 2 (.slice lo i lc) i (xs.flatMap fc)) := own_sameF HO.out fun b hb hlt => (hbx.block b (Nat.lt_of_lt_of_le hlt b1.size)).trans (b1.block b hlt (by omega))
      cases hsh : (f2S si).s
      · rw [hsh] at c1
        rw [lst_go hsh, hrw] at hle
        have HLE2 : Hid (L = ((xs ++ [⟨p, t⟩]) ++ (lstS refS f2S k (f2S si)).1, (lstS refS f2S k (f2S si)).2)) := by
          refine (?_ : L = _)
          rw [hle]; simp
        obtain ⟨W2, hW2⟩ : ∃ W2, w1.alloc (.cells #[.int .u32 (p : Int), .string t] 28) = W2 := ⟨_, rfl⟩
        have hsW : W2.heap.size = w1.heap.size + 1 := by rw [← hW2]; simp
        rw [hW2] at HB2 HR2 HO1
        have hbn := below_new W2 (.cells #[.int .u32 (p : Int), .string t] 28)
        obtain ⟨v', W', hrun, a1, a2, a3⟩ := append_sl 26 28 Try.underlying26 infoRef rfl (by decide) (by decide) (W2.alloc (.cells #[.int .u32 (p : Int), .string t] 28)) w.heap.size i 1 (.slice lo i lc) (some ⟨W2.heap.size, 0, none⟩) 1
          (xs.flatMap fc) (fc ⟨p, t⟩) (own_sameF HO1.out fun b _ hlt => hbn.block b hlt) (by have := HB2.out.size; simp; omega) (one_refF (r := ⟨p, t⟩) (heap_alloc_new W2 _)) (fc_one1 _) (by omega)
        have hgl : g < W2.heap.size := (Array.getElem?_eq_some_iff.1 HR2.out).1
        have hgw : ∀ j, j < w.heap.size → W'.heap[j]? = W2.heap[j]? := fun j hj => (a2.block j (by have := HB2.out.size; simp; omega) (fun e => by have := own_baseF HO1.out e.symm; omega)).trans (hbn.block j (by have := HB2.out.size; omega))
        have HFIN : Hid (W'.ownsRow w.heap.size 28 2 v' (i + 1) ((xs ++ [(⟨p, t⟩ : Rf)]).flatMap fc) ∧ RdS g (f2S si) W' ∧ Bo g w W') := by
          refine ⟨?_, (hgw g lg).trans HR2.out, ?_⟩
          · rw [List.flatMap_append]; simpa using a1
          · have hb := HB2.out
            exact ⟨a2.os.trans (hbn.os.trans hb.os), a2.tape.trans (hbn.tape.trans hb.tape), a2.output.trans (hbn.output.trans hb.output), Nat.le_trans hb.size (Nat.le_trans hbn.size a2.size), fun j hj hn => (hgw j hj).trans (hb.block j hj hn)⟩
        obtain ⟨lo', lc', rfl, -⟩ := sl_of_own a1
        rw [← hW2] at hrun
        have hs3 : (w1.alloc (.cells #[.int .u32 (p : Int), .string t] 28)).heap.size = w1.heap.size + 1 := by simp
        rw [hs3] at hrun
        have q2 : (i : Int) + 1 ≤ 18446744073709551615 := by omega
        clear r1 b1 hle hbx hbn a1 a2 a3 hgw hsW hs3 hW2 HB1 HB2 HR2 HO1
        go_wp2_with (at_builtin; refine list_append rfl 26 26 (.tmp 18) (.tmp 20) rfl (vs := .slice lo i lc) (vx := .slice (some ⟨w1.heap.size + 1, 0, none⟩) 1 1) rfl rfl hrun ?_)
        go_roundw
        case rel => exact ⟨i + 1, xs ++ [⟨p, t⟩], f2S si, by omega, by go_num, by rw [List.length_append, HXL.out]; rfl, by rw [hk2]; exact HLE2.out, HFIN.out⟩
        case measure => simp [natOf]; omega
      · rw [hsh] at c1
        rw [lst_stop hsh] at hle
        have HE : Hid (L = (xs, f2S si)) := by
          refine (?_ : L = (xs, f2S si))
          rw [hle]; simp
        clear r1 b1 hle hbx
        go_wp2_with fail
        first | go_ret | (simp only [Exit.noGoto]; go_ret)
        rw [HE.out]
        exact ⟨_, rfl, by rw [HXL.out]; exact HO1.out, HR2.out, HB2.out⟩
    · obtain rfl : i = c := by omega
      have q1 : ¬ (i : Int) < (i : Int) := by omega
      have HE : Hid (L = (xs, si)) := by
        refine (?_ : L = (xs, si))
        have := HLE.out
        rw [Nat.sub_self] at this
        simpa [lstS] using this
      go_wp2_with fail
      go_ret
      rw [HE.out]
      exact ⟨_, rfl, by rw [HXL.out]; exact HO.out, HRD.out, HBO.out⟩
end Go.Proofs.Ytljponlfjombaaa.Rw
/- A reader: leaves. -/
namespace Go.Proofs.Ytljponlfjombaaa.Rw
open Go.RowKit Go.Lib Go.Shelf
open Go.Proofs.Ytljponlfjombaaa.Rc Go.Proofs.Ytljponlfjombaaa.Rq
set_option maxRecDepth 100000 in
theorem results_page {fn : Func} {p : Tmp} (h : fn.results = #[.cell p 30]) (tmps : Array Value) (w : World) (g : Nat) (a b c d e f i j : Value) {t : TypeId} {fr : Nat × Nat}
    (hp : tmps.getD p undef = .pointer (some ⟨g, 0, none⟩)) (hg : w.heap[g]? = some (.cells #[a, b, c, d, e, f, i, j] t fr)) : (results fn tmps).run Try.prog w = .ok (.agg #[a, b, c, d, e, f, i, j]) w := by
  have hp' : tmps[p]?.getD undef = .pointer (some ⟨g, 0, none⟩) := by simpa using hp
  have c0 : w.cell? ⟨g, 0, none⟩ = some a := by rw [cell_of_row _ _ _ _ _ _ hg]; rfl
  have c1 : w.cell? ⟨g, 1, none⟩ = some b := by rw [cell_of_row _ _ _ _ _ _ hg]; rfl
  have c2 : w.cell? ⟨g, 2, none⟩ = some c := by rw [cell_of_row _ _ _ _ _ _ hg]; rfl
  have c3 : w.cell? ⟨g, 3, none⟩ = some d := by rw [cell_of_row _ _ _ _ _ _ hg]; rfl
  have c4 : w.cell? ⟨g, 4, none⟩ = some e := by rw [cell_of_row _ _ _ _ _ _ hg]; rfl
  have c5 : w.cell? ⟨g, 5, none⟩ = some f := by rw [cell_of_row _ _ _ _ _ _ hg]; rfl
  have c6 : w.cell? ⟨g, 6, none⟩ = some i := by rw [cell_of_row _ _ _ _ _ _ hg]; rfl
  have c7 : w.cell? ⟨g, 7, none⟩ = some j := by rw [cell_of_row _ _ _ _ _ _ hg]; rfl
  simp [results, h, hp', asAddr, go_sem, c0, c1, c2, c3, c4, c5, c6, c7]
set_option maxRecDepth 100000 in
theorem st_os (w : World) (a : Addr) (v : Value) : (w.setCell a v).os = w.os := rfl
set_option maxRecDepth 100000 in
theorem st_tape (w : World) (a : Addr) (v : Value) : (w.setCell a v).tape = w.tape := rfl
set_option maxRecDepth 100000 in
theorem st_out (w : World) (a : Addr) (v : Value) : (w.setCell a v).output = w.output := rfl
set_option maxRecDepth 100000 in
theorem st_size (w : World) (a : Addr) (v : Value) : (w.setCell a v).heap.size = w.heap.size := by simp [World.setCell]
/-- Two cells of a ref. -/
def QT (g p : Nat) (t : ByteArray) (w : World) : Prop := w.cell? ⟨g, 0, none⟩ = some (.int .u32 (p : Int)) ∧ w.cell? ⟨g, 1, none⟩ = some (.string t)
set_option maxRecDepth 100000 in
theorem own_moreR {W W' : World} {B base : Nat} {v : Value} {n : Nat} {xs : List Value} (hB : B ≤ base) (h : W.ownsRow base 47 4 v n xs) (hs : ∀ b, base ≤ b → b < W.heap.size → W'.heap[b]? = W.heap[b]?) : W'.ownsRow B 47 4 v n xs := by
  refine ⟨h.1, ?_⟩
  rcases h.2 with h2 | ⟨g, cap, cur, h1, h2, h3, h4⟩
  · exact .inl h2
  · exact .inr ⟨g, cap, cur, h1, Nat.le_trans hB h2, (hs g h2 (Array.getElem?_eq_some_iff.1 h3).1).trans h3, h4⟩
/-- The leaf that is read: its ref, its rows, and what is left. -/
def lfN (st : RS) : Rf := refS (aftS st 1)
def lfL (st : RS) : List Rw × RS := lstS rowS r5S (numS st 1) (f2S (aftS st 1))
set_option maxRecDepth 100000 in
set_option maxHeartbeats 1000000 in
theorem leaf_any (g : Nat) (st : RS) (w : World) (h : RdS g st w) :
    Calls Try.prog 42 #[.pointer (some ⟨g, 0, none⟩)] w fun e w' => ∃ ro ca, e = .returned (gv ⟨1, 0, 0, 0, ro, (lfL st).1.length, ca, none, 0, 0, (lfN st).p, (lfN st).t⟩) ∧ w'.ownsRow w.heap.size 47 4 (.slice ro (lfL st).1.length ca) (lfL st).1.length ((lfL st).1.flatMap rc) ∧ RdS g (lfL st).2 w' ∧ Bo g w w' := by
  have HNM : Hid _ := number_any g st 1 (by omega)
  have HRF : Hid _ := ref_any g (aftS st 1)
  have n1 := numS_lt st 1
  simp only [Nat.reduceMul, Nat.reducePow] at n1
  have HLS : Hid _ := listRow_any g (f2S (aftS st 1)) (numS st 1) (by omega)
  have lg : g < w.heap.size := (Array.getElem?_eq_some_iff.1 h).1
  unfold lfL lfN
  obtain ⟨n, hn⟩ : ∃ n, numS st 1 = n := ⟨_, rfl⟩
  obtain ⟨⟨p, t⟩, hf⟩ : ∃ f, refS (aftS st 1) = f := ⟨_, rfl⟩
  obtain ⟨l, hl⟩ : ∃ l, lstS rowS r5S n (f2S (aftS st 1)) = l := ⟨_, rfl⟩
  rw [hn] at n1 HNM HLS ⊢
  rw [hf] at HRF ⊢
  rw [hl] at HLS ⊢
  have hbn := below_new w (.cells #[.int .i64 0, .int .u32 0, .int .u32 0, .int .i64 0, .slice none 0 0, .slice none 0 0, .int .u32 0, .string ⟨#[]⟩] 30)
  have HG0 : Hid ((w.alloc (.cells #[.int .i64 0, .int .u32 0, .int .u32 0, .int .i64 0, .slice none 0 0, .slice none 0 0, .int .u32 0, .string ⟨#[]⟩] 30)).heap[w.heap.size]? = some (.cells #[.int .i64 0, .int .u32 0, .int .u32 0, .int .i64 0, .slice none 0 0, .slice none 0 0, .int .u32 0, .string ⟨#[]⟩] 30 (0, 0))) := heap_alloc_new w _
  have HR0 : Hid (RdS g st (w.alloc (.cells #[.int .i64 0, .int .u32 0, .int .u32 0, .int .i64 0, .slice none 0 0, .slice none 0 0, .int .u32 0, .string ⟨#[]⟩] 30))) := (hbn.block _ lg).trans h
  have HB0 : Hid (Bo g w (w.alloc (.cells #[.int .i64 0, .int .u32 0, .int .u32 0, .int .i64 0, .slice none 0 0, .slice none 0 0, .int .u32 0, .string ⟨#[]⟩] 30))) := But.of_below hbn
  clear h hbn hn hf hl
  obtain ⟨W0, hW0⟩ : ∃ W0, w.alloc (.cells #[.int .i64 0, .int .u32 0, .int .u32 0, .int .i64 0, .slice none 0 0, .slice none 0 0, .int .u32 0, .string ⟨#[]⟩] 30) = W0 := ⟨_, rfl⟩
  have HW0 : Hid _ := hW0
  rw [hW0] at HG0 HR0 HB0
  clear hW0
  have hng : w.heap.size ≠ g := by omega
  go_enter Try.func42, Try.ntmps42
  go_wp2_with fail
  rw [HW0.out]
  clear HW0
  refine (HNM.out W0 HR0.out).mono ?_
  rintro e w1 ⟨rfl, r1, b1⟩
  have HR1 : Hid (RdS g (aftS st 1) w1) := r1
  have HB1 : Hid (Bo g w w1) := HB0.out.trans b1
  have HG1 : Hid (w1.heap[w.heap.size]? = some (.cells #[.int .i64 0, .int .u32 0, .int .u32 0, .int .i64 0, .slice none 0 0, .slice none 0 0, .int .u32 0, .string ⟨#[]⟩] 30 (0, 0))) := (b1.block _ (Array.getElem?_eq_some_iff.1 HG0.out).1 hng).trans HG0.out
  clear r1 b1 HR0 HB0 HG0
  go_wp2_with fail
  refine (HRF.out w1 HR1.out).mono ?_
  rintro e w2 ⟨rfl, r2, b2⟩
  simp only [fcv]
  have HR2 : Hid (RdS g (f2S (aftS st 1)) w2) := r2
  have HB2 : Hid (Bo g w w2) := HB1.out.trans b2
  have HG2 : Hid (w2.heap[w.heap.size]? = some (.cells #[.int .i64 0, .int .u32 0, .int .u32 0, .int .i64 0, .slice none 0 0, .slice none 0 0, .int .u32 0, .string ⟨#[]⟩] 30 (0, 0))) := (b2.block _ (Array.getElem?_eq_some_iff.1 HG1.out).1 hng).trans HG1.out
  have l2 : w.heap.size < w2.heap.size := (Array.getElem?_eq_some_iff.1 HG2.out).1
  clear r2 b2 HR1 HB1 HG1
  have hbx := below_new w2 (.cells #[.int .u32 (p : Int), .string t] 28)
  have HR3 : Hid (RdS g (f2S (aftS st 1)) (w2.alloc (.cells #[.int .u32 (p : Int), .string t] 28))) := (hbx.block _ (by omega)).trans HR2.out
  have HB3 : Hid (Bo g w (w2.alloc (.cells #[.int .u32 (p : Int), .string t] 28))) := HB2.out.trans (But.of_below hbx)
  have HG3 : Hid ((w2.alloc (.cells #[.int .u32 (p : Int), .string t] 28)).heap[w.heap.size]? = some (.cells #[.int .i64 0, .int .u32 0, .int .u32 0, .int .i64 0, .slice none 0 0, .slice none 0 0, .int .u32 0, .string ⟨#[]⟩] 30 (0, 0))) := (hbx.block _ (by omega)).trans HG2.out
  have hq3 := heap_alloc_new w2 (.cells #[.int .u32 (p : Int), .string t] 28)
  obtain ⟨⟨s0, s1⟩, -⟩ := ref_cells hq3
  have HQ3 : Hid _ := hq3
  clear HR2 HB2 HG2 hbx hq3
  go_wp2_with fail
  obtain ⟨W3, hW3⟩ : ∃ W3, w2.alloc (.cells #[.int .u32 (p : Int), .string t] 28) = W3 := ⟨_, rfl⟩
  have hs3 : W3.heap.size = w2.heap.size + 1 := by rw [← hW3]; simp
  rw [hW3] at HR3 HB3 HG3 HQ3 ⊢
  have HSW : Hid (QT w2.heap.size p t W3.drew) := (ref_cells HQ3.out).1
  refine wp_region_held (S := QT w2.heap.size p t) (by kernel_rfl) ?_
  change wpAnyH _ _ _ _ _ _ _ _ (World.drew _)
  refine wpAnyH_take (i := 0) (v := ?_) rfl (by kernel_rfl) (by kernel_rfl) (by kernel_rfl) (fun _ _ _ h => h) (Or.inl ⟨by kernel_rfl, ?_⟩) HSW.out ?_
  rotate_left
  · intro w hS
    obtain ⟨e0, e1⟩ := hS
    go_simp
    try with_reducible rfl
  conv in (Act.put _ _ _) => simp only [List.getElem_toArray, List.getElem_cons_succ, List.getElem_cons_zero, Act.put, List.setIfInBounds_toArray, List.set_cons_succ, List.set_cons_zero]
  refine wpAnyH_take (i := 1) (v := ?_) rfl (by kernel_rfl) (by kernel_rfl) (by kernel_rfl) (fun _ _ _ h => h) (Or.inl ⟨by kernel_rfl, ?_⟩) HSW.out ?_
  rotate_left
  · intro w hS
    obtain ⟨e0, e1⟩ := hS
    go_simp
    try with_reducible rfl
  conv in (Act.put _ _ _) => simp only [List.getElem_toArray, List.getElem_cons_succ, List.getElem_cons_zero, Act.put, List.setIfInBounds_toArray, List.set_cons_succ, List.set_cons_zero]
  refine wpAnyH_take (i := 2) (v := ?_) rfl (by kernel_rfl) (by kernel_rfl) (by kernel_rfl) (fun _ _ _ h => h) (Or.inl ⟨by kernel_rfl, ?_⟩) HSW.out ?_
  rotate_left
  · intro w hS
    obtain ⟨e0, e1⟩ := hS
    go_simp
    try with_reducible rfl
  conv in (Act.put _ _ _) => simp only [List.getElem_toArray, List.getElem_cons_succ, List.getElem_cons_zero, Act.put, List.setIfInBounds_toArray, List.set_cons_succ, List.set_cons_zero]
  refine wpAnyH_take (i := 3) (v := ?_) rfl (by kernel_rfl) (by kernel_rfl) (by kernel_rfl) (fun _ _ _ h => h) (Or.inl ⟨by kernel_rfl, ?_⟩) HSW.out ?_
  rotate_left
  · intro w hS
    obtain ⟨e0, e1⟩ := hS
    go_simp
    try with_reducible rfl
  conv in (Act.put _ _ _) => simp only [List.getElem_toArray, List.getElem_cons_succ, List.getElem_cons_zero, Act.put, List.setIfInBounds_toArray, List.set_cons_succ, List.set_cons_zero]
  refine wpAnyH_take (i := 4) (v := ?_) rfl (by kernel_rfl) (by kernel_rfl) (by kernel_rfl) (fun _ _ _ h => h) (Or.inl ⟨by kernel_rfl, ?_⟩) HSW.out ?_
  rotate_left
  · intro w hS
    obtain ⟨e0, e1⟩ := hS
    go_simp
    try with_reducible rfl
  conv in (Act.put _ _ _) => simp only [List.getElem_toArray, List.getElem_cons_succ, List.getElem_cons_zero, Act.put, List.setIfInBounds_toArray, List.set_cons_succ, List.set_cons_zero]
  refine readyH 5 _ (by kernel_rfl) rfl (by kernel_rfl) (fun K hK => ?_)
  go_simp
  refine (HLS.out W3.drew HR3.out).mono ?_
  rintro e w4 ⟨v, rfl, o4, r4, b4⟩
  obtain ⟨ro, ca, rfl, -⟩ := sl_of_own o4
  have hg4 := (b4.block _ (Array.getElem?_eq_some_iff.1 HG3.out).1 hng).trans HG3.out
  have hq4 := (b4.block _ (Array.getElem?_eq_some_iff.1 HQ3.out).1 (by omega)).trans HQ3.out
  obtain ⟨⟨u0, u1⟩, lq⟩ := ref_cells hq4
  have HE : Hid (w4.ownsRow W3.heap.size 47 4 (.slice ro l.1.length ca) l.1.length (l.1.flatMap rc) ∧ RdS g l.2 w4 ∧ Bo g w w4) := ⟨o4, r4, HB3.out.trans ((But.of_below (Below.refl _ W3).drew).trans b4)⟩
  have l4 : w.heap.size < w4.heap.size := (Array.getElem?_eq_some_iff.1 hg4).1
  have fz : ∀ k, w4.frozen? ⟨w.heap.size, k, none⟩ = false := fun k => frozen_of_row w4 _ k _ _ hg4
  have f0 := fz 0
  have f1 := fz 1
  have f2 := fz 2
  have f3 := fz 3
  have f4 := fz 4
  have f5 := fz 5
  have f6 := fz 6
  have f7 := fz 7
  have c0 : w4.cell? ⟨w.heap.size, 0, none⟩ = some (.int .i64 0) := by rw [cell_of_row _ _ _ _ _ _ hg4]; rfl
  have c1 : w4.cell? ⟨w.heap.size, 1, none⟩ = some (.int .u32 0) := by rw [cell_of_row _ _ _ _ _ _ hg4]; rfl
  have c2 : w4.cell? ⟨w.heap.size, 2, none⟩ = some (.int .u32 0) := by rw [cell_of_row _ _ _ _ _ _ hg4]; rfl
  have c3 : w4.cell? ⟨w.heap.size, 3, none⟩ = some (.int .i64 0) := by rw [cell_of_row _ _ _ _ _ _ hg4]; rfl
  have c4 : w4.cell? ⟨w.heap.size, 4, none⟩ = some (.slice none 0 0) := by rw [cell_of_row _ _ _ _ _ _ hg4]; rfl
  have c5 : w4.cell? ⟨w.heap.size, 5, none⟩ = some (.slice none 0 0) := by rw [cell_of_row _ _ _ _ _ _ hg4]; rfl
  have c6 : w4.cell? ⟨w.heap.size, 6, none⟩ = some (.int .u32 0) := by rw [cell_of_row _ _ _ _ _ _ hg4]; rfl
  have c7 : w4.cell? ⟨w.heap.size, 7, none⟩ = some (.string ⟨#[]⟩) := by rw [cell_of_row _ _ _ _ _ _ hg4]; rfl
  have HG4 : Hid _ := hg4
  have HQ4 : Hid _ := hq4
  replace HSW : Hid (QT w2.heap.size p t w4) := ⟨u0, u1⟩
  refine hK _ _ HSW.out ?_
  clear hK K
  refine wpAnyH_take (i := 6) (v := ?_) rfl (by kernel_rfl) (by kernel_rfl) (by kernel_rfl) (fun _ _ _ h => h) (Or.inl ⟨by kernel_rfl, ?_⟩) HSW.out ?_
  rotate_left
  · intro w hS
    obtain ⟨e0, e1⟩ := hS
    go_simp
    try with_reducible rfl
  conv in (Act.put _ _ _) => simp only [List.getElem_toArray, List.getElem_cons_succ, List.getElem_cons_zero, Act.put, List.setIfInBounds_toArray, List.set_cons_succ, List.set_cons_zero]
  refine readyH 7 _ (by kernel_rfl) rfl (by kernel_rfl) (fun K hK => ?_)
  clear r4 b4 o4 hg4 hq4 fz HR3 HB3 HG3 HQ3
  have X1 := heap_setCell_same w4 w.heap.size 0 _ _ (.int .i64 1) HG4.out
  have X2 := heap_setCell_same _ w.heap.size 1 _ _ (.int .u32 0) X1
  have X3 := heap_setCell_same _ w.heap.size 2 _ _ (.int .u32 0) X2
  have X4 := heap_setCell_same _ w.heap.size 3 _ _ (.int .i64 0) X3
  have X5 := heap_setCell_same _ w.heap.size 4 _ _ (.slice ro l.1.length ca) X4
  have X6 := heap_setCell_same _ w.heap.size 5 _ _ (.slice none 0 0) X5
  have X7 := heap_setCell_same _ w.heap.size 6 _ _ (.int .u32 (p : Int)) X6
  have X8 := heap_setCell_same _ w.heap.size 7 _ _ (.string t) X7
  simp only [List.setIfInBounds_toArray, List.set_cons_zero, List.set_cons_succ] at X8
  have HX : Hid _ := X8
  have hoth : ∀ j, j ≠ w.heap.size → (((((((((w4.setCell ⟨w.heap.size, 0, none⟩ (.int .i64 1)).setCell ⟨w.heap.size, 1, none⟩ (.int .u32 0)).setCell ⟨w.heap.size, 2, none⟩ (.int .u32 0)).setCell ⟨w.heap.size, 3, none⟩ (.int .i64 0)).setCell ⟨w.heap.size, 4, none⟩ (.slice ro l.1.length ca)).setCell ⟨w.heap.size, 5, none⟩ (.slice none 0 0)).setCell ⟨w.heap.size, 6, none⟩ (.int .u32 (p : Int))).setCell ⟨w.heap.size, 7, none⟩ (.string t))).heap[j]? = w4.heap[j]? := fun j hj => by
    rw [Below.heap_setCell _ _ _ _ (fun e => hj e), Below.heap_setCell _ _ _ _ (fun e => hj e), Below.heap_setCell _ _ _ _ (fun e => hj e), Below.heap_setCell _ _ _ _ (fun e => hj e), Below.heap_setCell _ _ _ _ (fun e => hj e), Below.heap_setCell _ _ _ _ (fun e => hj e), Below.heap_setCell _ _ _ _ (fun e => hj e), Below.heap_setCell _ _ _ _ (fun e => hj e)]
  have HO : Hid _ := hoth
  clear X1 X2 X3 X4 X5 X6 X7 X8 hoth
  go_simp
  refine hK _ _ (ref_cells ((HO.out w2.heap.size (by omega)).trans HQ4.out)).1 ?_
  refine wpAnyH_done (by kernel_rfl) ?_ _
  go_wp2_with fail
  refine bodyPost_ret (results_page rfl _ _ w.heap.size _ _ _ _ _ _ _ _ rfl HX.out) rfl ⟨ro, ca, rfl, ?_, (HO.out g (by omega)).trans HE.out.2.1, ?_⟩
  · exact own_moreR (by omega) HE.out.1 fun b h1 h2 => HO.out b (by omega)
  · have hb := HE.out.2.2
    exact ⟨by simp only [st_os]; exact hb.os, by simp only [st_tape]; exact hb.tape, by simp only [st_out]; exact hb.output, by simp only [st_size]; exact hb.size, fun j hj hn => (HO.out j (by omega)).trans (hb.block j hj hn)⟩
end Go.Proofs.Ytljponlfjombaaa.Rw
