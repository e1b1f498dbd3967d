/- The reference: the tree of rows. -/
import Derived.Test.YtaiiclkfnahghaaPHT
import Derived.Test.YtaiiclkfnahghaaPHS
namespace Go.Proofs.Ytaiiclkfnahghaa.Rq
open Go.RowKit Go.Lib Go.Shelf
open Go.Proofs.Ytaiiclkfnahghaa.Rc
set_option maxRecDepth 100000 in
theorem make_rows (n : Nat) (hn : n ≤ 1000) (w : World) : (Instr.makeSlice 22 (.int .i64 0) (.int .i64 (n : Int))).run Try.prog w = .ok (.slice (some ⟨w.heap.size, 0, none⟩) 0 n) (w.alloc (.cells (madeCells #[.int .u64 0, .int .u32 0, .int .u32 0, .string ⟨#[]⟩] (n * 4)) 26)) := by
  obtain ⟨i, hi, hz, hs, hb⟩ := info_parts infoRow
  have hr := run_make (P := Try.prog) w 22 26 i _ Try.underlying22 hi hz .i64 .i64 0 n (by omega) (by omega) (by rw [hb]; omega) (by omega)
  simp only [Int.toNat_natCast, hs] at hr
  exact hr
set_option maxRecDepth 100000 in
set_option maxHeartbeats 4000000 in
theorem etree_nil (d : Nat) (o : Option Addr) (cap : Nat) (w : World) :
    Calls Try.prog 34 #[.slice o 0 cap] w fun e w' => ∃ n : Nv, e = .returned (nv n) ∧ NodeAt (fun b => w.heap.size ≤ b) (d + 1) w' n [] ∧ Below w.heap.size w w' := by
  have HB : Hid (Below w.heap.size w (w.alloc (.cells #[.int .u32 0, .int .u32 0, .int .i64 0, .slice none 0 0, .slice none 0 0] 33))) := below_new w _
  have HG : Hid ((w.alloc (.cells #[.int .u32 0, .int .u32 0, .int .i64 0, .slice none 0 0, .slice none 0 0] 33)).heap[w.heap.size]? = some (.cells #[.int .u32 0, .int .u32 0, .int .i64 0, .slice none 0 0, .slice none 0 0] 33 (0, 0))) := heap_alloc_new w _
  go_enter Try.func34, Try.ntmps34
  go_wp2_with fail
  refine bodyPost_ret (results_node rfl _ _ _ _ _ _ _ _ rfl HG.out) rfl ⟨⟨0, 0, 0, none, 0, 0, none, 0, 0⟩, rfl, node_nil _ d _, HB.out⟩
set_option maxRecDepth 100000 in
set_option maxHeartbeats 4000000 in
theorem etree_leaf (d : Nat) (l : List Rw) (o : Option Addr) (cap : Nat) (w : World) (hr : RowsAt w o cap l) (hon : On l) (hmax : l.length ≤ 1000) (hne : 0 < l.length) (hlf : leaf l = true) :
    Calls Try.prog 34 #[.slice o l.length cap] w fun e w' => ∃ n : Nv, e = .returned (nv n) ∧ NodeAt (fun b => w.heap.size ≤ b) (d + 1) w' n l ∧ Below w.heap.size w w' := by
    have HLf : Hid (leaf l = true) := hlf

    have HHR : RowsAt (w.alloc (.cells #[.int .u32 0, .int .u32 0, .int .i64 0, .slice none 0 0, .slice none 0 0] 33)) o cap l := hr.below (below_new w _) (Nat.le_refl _)
    have HC : Hid _ := around_rows l o cap (w.alloc (.cells #[.int .u32 0, .int .u32 0, .int .i64 0, .slice none 0 0, .slice none 0 0] 33)) HHR hne hon hmax
    have HG2n : Hid ((w.alloc (.cells #[.int .u32 0, .int .u32 0, .int .i64 0, .slice none 0 0, .slice none 0 0] 33)).heap[w.heap.size]? = some (.cells #[.int .u32 0, .int .u32 0, .int .i64 0, .slice none 0 0, .slice none 0 0] 33 (0, 0))) := heap_alloc_new w _
    have HBn : Hid (Below w.heap.size w (w.alloc (.cells #[.int .u32 0, .int .u32 0, .int .i64 0, .slice none 0 0, .slice none 0 0] 33))) := below_new w _
    have HR : Hid (RowsAt w o cap l) := hr
    obtain ⟨X, hX⟩ : ∃ X, cx l = X := ⟨_, rfl⟩
    obtain ⟨Y, hY⟩ : ∃ Y, cy l = Y := ⟨_, rfl⟩
    obtain ⟨L, hL⟩ : ∃ L : Int, (lev l : Int) = L := ⟨_, rfl⟩
    have HX : Hid (cx l = X) := hX
    have HY : Hid (cy l = Y) := hY
    have HL : Hid ((lev l : Int) = L) := hL
    rw [hX, hY, hL] at HC
    have q0 : ((l.length : Int) == 0) = false := by rw [beq_eq_false_iff_ne]; omega
    have n0 : ¬ l.length = 0 := by omega

    by_cases h4 : l.length ≤ 4
    · have q1 : decide ((l.length : Int) ≤ 4) = true := decide_eq_true (by omega)
      clear hlf h4

      clear hr HHR hX hY hL
      go_enter Try.func34, Try.ntmps34
      go_wp2_with fail
      refine Calls.mono HC.out ?_
      rintro e W1 ⟨rfl, b1⟩
      have HG2a := (b1.block _ (by simp)).trans HG2n.out
      have hs1 : w.heap.size < W1.heap.size := by have := b1.size; simp at this; omega
      have HB2 : Hid (Below w.heap.size w (W1.alloc (.cells #[.int .u32 (X : Int), .int .u32 (Y : Int), .int .i64 L, .slice none 0 0, .slice none 0 0] 33))) := (HBn.out.trans (b1.mono (by simp))).trans ((below_new W1 _).mono (by omega))
      have HG2 : Hid ((W1.alloc (.cells #[.int .u32 (X : Int), .int .u32 (Y : Int), .int .i64 L, .slice none 0 0, .slice none 0 0] 33)).heap[w.heap.size]? = some (.cells #[.int .u32 0, .int .u32 0, .int .i64 0, .slice none 0 0, .slice none 0 0] 33 (0, 0))) := ((below_new W1 _).block _ hs1).trans HG2a
      have HG3 : Hid ((W1.alloc (.cells #[.int .u32 (X : Int), .int .u32 (Y : Int), .int .i64 L, .slice none 0 0, .slice none 0 0] 33)).heap[W1.heap.size]? = some (.cells #[.int .u32 (X : Int), .int .u32 (Y : Int), .int .i64 L, .slice none 0 0, .slice none 0 0] 33 (0, 0))) := heap_alloc_new W1 _
      clear b1 HG2a
      go_wp2_with fail
      have HG2s : Hid (w.heap.size < (W1.alloc (.cells #[.int .u32 (X : Int), .int .u32 (Y : Int), .int .i64 L, .slice none 0 0, .slice none 0 0] 33)).heap.size) := (Array.getElem?_eq_some_iff.1 HG2.out).1
      have HG3s : Hid ((W1.alloc (.cells #[.int .u32 (X : Int), .int .u32 (Y : Int), .int .i64 L, .slice none 0 0, .slice none 0 0] 33)).heap.size = W1.heap.size + 1) := by refine (?_ : (W1.alloc (.cells #[.int .u32 (X : Int), .int .u32 (Y : Int), .int .i64 L, .slice none 0 0, .slice none 0 0] 33)).heap.size = W1.heap.size + 1); simp
      have HG32 : Hid (w.heap.size < W1.heap.size) := hs1
      obtain ⟨g3, hg3⟩ : ∃ g3, W1.heap.size = g3 := ⟨_, rfl⟩
      obtain ⟨W2, hW2⟩ : ∃ W2, W1.alloc (.cells #[.int .u32 (X : Int), .int .u32 (Y : Int), .int .i64 L, .slice none 0 0, .slice none 0 0] 33) = W2 := ⟨_, rfl⟩
      rw [hW2] at HB2 HG2 HG3 HG2s HG3s ⊢
      rw [hg3] at HG3 HG3s HG32 ⊢
      clear hW2 hg3 hs1 HC HG2n HBn
      obtain ⟨z0, z1, z2, z3, z4, t0, t1, t2, t3, t4⟩ := node_facts HG3.out

      have hmk := make_rows l.length hmax W2
      have hb2 := below_new W2 (.cells (madeCells #[.int .u64 0, .int .u32 0, .int .u32 0, .string ⟨#[]⟩] (l.length * 4)) 26)
      have hown : (W2.alloc (.cells (madeCells #[.int .u64 0, .int .u32 0, .int .u32 0, .string ⟨#[]⟩] (l.length * 4)) 26)).ownsRow W2.heap.size 26 4 (.slice (some ⟨W2.heap.size, 0, none⟩) 0 l.length) 0 [] :=
        ⟨by simp, .inr ⟨W2.heap.size, l.length, _, rfl, Nat.le_refl _, heap_alloc_new W2 _, Nat.zero_le _, by simp only [maxLen]; omega, by rw [size_madeCells], by simp⟩⟩
      obtain ⟨v', W', hrun, a1, a2, a3⟩ := append_sl 22 26 Try.underlying22 infoRow rfl (by decide) (by decide) (W2.alloc (.cells (madeCells #[.int .u64 0, .int .u32 0, .int .u32 0, .string ⟨#[]⟩] (l.length * 4)) 26)) W2.heap.size 0 l.length (.slice (some ⟨W2.heap.size, 0, none⟩) 0 l.length) o cap
        [] (l.flatMap rc) hown (by simp) (Sl.below (HR.out.below HB2.out (Nat.le_refl _)) hb2 (Nat.le_refl _)) (rc_one l) (by omega)
      rw [Nat.zero_add, List.nil_append] at a1
      have hbW : Below W2.heap.size W2 W' := hb2.grown a2 (by simp) fun k ek => by simp [Value.ownBlock] at ek; omega
      obtain ⟨ro, rcap, rfl, sl⟩ := sl_of_own a1
      have hro : ∀ b off, ro = some ⟨b, off, none⟩ → W2.heap.size ≤ b := fun b off e => (own_base a1 (by rw [e]; rfl)).1
      have hg3' : W'.heap[g3]? = some (.cells #[.int .u32 (X : Int), .int .u32 (Y : Int), .int .i64 L, .slice none 0 0, .slice none 0 0] 33 (0, 0)) := (hbW.block _ (by have := HG3s.out; omega)).trans HG3.out
      have hg2' : W'.heap[w.heap.size]? = some (.cells #[.int .u32 0, .int .u32 0, .int .i64 0, .slice none 0 0, .slice none 0 0] 33 (0, 0)) := (hbW.block _ HG2s.out).trans HG2.out
      obtain ⟨ln, hln⟩ : ∃ ln, l.length = ln := ⟨_, rfl⟩
      have HLN : Hid (l.length = ln) := hln
      obtain ⟨y0, y1, y2, y3, y4, x0', x1, x2, x3, x4⟩ := node_facts hg3'
      have hst := heap_setCell_same W' g3 3 _ _ (.slice ro ln rcap) hg3'
      have hg32 : w.heap.size ≠ g3 := by have := HG32.out; omega
      have hst2 : (W'.setCell ⟨g3, 3, none⟩ (.slice ro ln rcap)).heap[w.heap.size]? = some (.cells #[.int .u32 0, .int .u32 0, .int .i64 0, .slice none 0 0, .slice none 0 0] 33 (0, 0)) := (setc _ _ _ _ hg32).trans hg2'
      obtain ⟨k0, k1, k2, k3, k4, j0, j1, j2, j3, j4⟩ := node_facts hst2
      obtain ⟨i0, i1, i2, i3, i4, m0, m1, m2, m3, m4⟩ := node_facts (a := .int .u32 (X : Int)) (b := .int .u32 (Y : Int)) (c := .int .i64 L) (d := .slice ro ln rcap) (e := .slice none 0 0) hst
      obtain ⟨p1, p2, p3⟩ := put_node hst2 (.int .u32 (X : Int)) (.int .u32 (Y : Int)) (.int .i64 L) (.slice ro ln rcap) (.slice none 0 0)
      have b4 : Below g3 W' (W'.setCell ⟨g3, 3, none⟩ (.slice ro ln rcap)) := ⟨rfl, rfl, rfl, by simp [World.setCell], fun j hj => setc _ _ _ _ (by omega)⟩
      have H3 := HG3s.out
      have H32 := HG32.out
      have hB5 : Below w.heap.size w (W'.setCell ⟨g3, 3, none⟩ (.slice ro ln rcap)) := HB2.out.trans ((hbW.mono (by omega)).trans (b4.mono (by omega)))
      have hsl : Sl 4 (W'.setCell ⟨g3, 3, none⟩ (.slice ro ln rcap)) ro l.length rcap (l.flatMap rc) := Sl.same sl (by simp [World.setCell]) fun b off e _ => setc _ _ _ _ (by have := hro b off e; omega)
      rw [hln] at hrun hmk ⊢
      clear hbW hg3' hg2' hst hst2 b4 hown hb2 a1 a2 a3 sl z0 z1 z2 z3 z4 t0 t1 t2 t3 t4
      obtain ⟨W5, hW5⟩ : ∃ W5, W'.setCell ⟨g3, 3, none⟩ (.slice ro ln rcap) = W5 := ⟨_, rfl⟩
      rw [hW5] at k0 k1 k2 k3 k4 j0 j1 j2 j3 j4 i0 i1 i2 i3 i4 m0 m1 m2 m3 m4 p1 p2 p3 hB5 hsl
      have HP1 : Hid _ := p1
      have HP3 : Hid (Below w.heap.size w _) := hB5.trans p3
      have HN : Hid (NodeAt (fun b => w.heap.size ≤ b) (d + 1) (((((W5.setCell ⟨w.heap.size, 0, none⟩ (.int .u32 (X : Int))).setCell ⟨w.heap.size, 1, none⟩ (.int .u32 (Y : Int))).setCell ⟨w.heap.size, 2, none⟩ (.int .i64 L)).setCell ⟨w.heap.size, 3, none⟩ (.slice ro ln rcap)).setCell ⟨w.heap.size, 4, none⟩ (.slice none 0 0)) ⟨X, Y, lev l, ro, ln, rcap, none, 0, 0⟩ l) := by
        refine (?_ : NodeAt (fun b => w.heap.size ≤ b) (d + 1) _ _ l)
        refine ⟨HX.out.symm, HY.out.symm, rfl, fun _ => ⟨hln.symm, ?_, fun _ b off e => ?_, rfl, Sl.nil 5 _⟩, fun h => by rw [HLf.out] at h; cases h⟩
        · exact Sl.same hsl (by simp [World.setCell]) fun b off e _ => p2 b (by have := hro b off e; omega)
        · have := hro b off e
          show w.heap.size ≤ b
          omega
      clear p1 p2 p3 hB5 hsl hro hln i0 i1 i2 i3 i4 y0 y1 y2 y4 x0' x1 x2 x4 hg32 H3 H32
      go_wp2_with fail
      rw [hmk]
      go_wp2_with (at_builtin; refine list_append rfl 22 22 (.tmp 28) (.tmp 29) rfl (vs := .slice (some ⟨W2.heap.size, 0, none⟩) 0 ln) (vx := .slice o ln cap) rfl rfl hrun ?_)
      refine bodyPost_ret (results_node rfl _ _ _ _ _ _ _ _ rfl HP1.out) rfl ⟨⟨X, Y, lev l, ro, ln, rcap, none, 0, 0⟩, ?_, HN.out, HP3.out⟩
      rw [← HL.out]

    · have q1 : decide ((l.length : Int) ≤ 4) = false := decide_eq_false (by omega)
      have q2 : (L == 0) = true := by
        rw [beq_iff_eq, ← hL]
        unfold leaf at hlf
        rw [decide_eq_true_iff] at hlf
        omega
      clear hlf h4

      clear hr HHR hX hY hL
      go_enter Try.func34, Try.ntmps34
      go_wp2_with fail
      refine Calls.mono HC.out ?_
      rintro e W1 ⟨rfl, b1⟩
      have HG2a := (b1.block _ (by simp)).trans HG2n.out
      have hs1 : w.heap.size < W1.heap.size := by have := b1.size; simp at this; omega
      have HB2 : Hid (Below w.heap.size w (W1.alloc (.cells #[.int .u32 (X : Int), .int .u32 (Y : Int), .int .i64 L, .slice none 0 0, .slice none 0 0] 33))) := (HBn.out.trans (b1.mono (by simp))).trans ((below_new W1 _).mono (by omega))
      have HG2 : Hid ((W1.alloc (.cells #[.int .u32 (X : Int), .int .u32 (Y : Int), .int .i64 L, .slice none 0 0, .slice none 0 0] 33)).heap[w.heap.size]? = some (.cells #[.int .u32 0, .int .u32 0, .int .i64 0, .slice none 0 0, .slice none 0 0] 33 (0, 0))) := ((below_new W1 _).block _ hs1).trans HG2a
      have HG3 : Hid ((W1.alloc (.cells #[.int .u32 (X : Int), .int .u32 (Y : Int), .int .i64 L, .slice none 0 0, .slice none 0 0] 33)).heap[W1.heap.size]? = some (.cells #[.int .u32 (X : Int), .int .u32 (Y : Int), .int .i64 L, .slice none 0 0, .slice none 0 0] 33 (0, 0))) := heap_alloc_new W1 _
      clear b1 HG2a
      go_wp2_with fail
      have HG2s : Hid (w.heap.size < (W1.alloc (.cells #[.int .u32 (X : Int), .int .u32 (Y : Int), .int .i64 L, .slice none 0 0, .slice none 0 0] 33)).heap.size) := (Array.getElem?_eq_some_iff.1 HG2.out).1
      have HG3s : Hid ((W1.alloc (.cells #[.int .u32 (X : Int), .int .u32 (Y : Int), .int .i64 L, .slice none 0 0, .slice none 0 0] 33)).heap.size = W1.heap.size + 1) := by refine (?_ : (W1.alloc (.cells #[.int .u32 (X : Int), .int .u32 (Y : Int), .int .i64 L, .slice none 0 0, .slice none 0 0] 33)).heap.size = W1.heap.size + 1); simp
      have HG32 : Hid (w.heap.size < W1.heap.size) := hs1
      obtain ⟨g3, hg3⟩ : ∃ g3, W1.heap.size = g3 := ⟨_, rfl⟩
      obtain ⟨W2, hW2⟩ : ∃ W2, W1.alloc (.cells #[.int .u32 (X : Int), .int .u32 (Y : Int), .int .i64 L, .slice none 0 0, .slice none 0 0] 33) = W2 := ⟨_, rfl⟩
      rw [hW2] at HB2 HG2 HG3 HG2s HG3s ⊢
      rw [hg3] at HG3 HG3s HG32 ⊢
      clear hW2 hg3 hs1 HC HG2n HBn
      obtain ⟨z0, z1, z2, z3, z4, t0, t1, t2, t3, t4⟩ := node_facts HG3.out

      have hmk := make_rows l.length hmax W2
      have hb2 := below_new W2 (.cells (madeCells #[.int .u64 0, .int .u32 0, .int .u32 0, .string ⟨#[]⟩] (l.length * 4)) 26)
      have hown : (W2.alloc (.cells (madeCells #[.int .u64 0, .int .u32 0, .int .u32 0, .string ⟨#[]⟩] (l.length * 4)) 26)).ownsRow W2.heap.size 26 4 (.slice (some ⟨W2.heap.size, 0, none⟩) 0 l.length) 0 [] :=
        ⟨by simp, .inr ⟨W2.heap.size, l.length, _, rfl, Nat.le_refl _, heap_alloc_new W2 _, Nat.zero_le _, by simp only [maxLen]; omega, by rw [size_madeCells], by simp⟩⟩
      obtain ⟨v', W', hrun, a1, a2, a3⟩ := append_sl 22 26 Try.underlying22 infoRow rfl (by decide) (by decide) (W2.alloc (.cells (madeCells #[.int .u64 0, .int .u32 0, .int .u32 0, .string ⟨#[]⟩] (l.length * 4)) 26)) W2.heap.size 0 l.length (.slice (some ⟨W2.heap.size, 0, none⟩) 0 l.length) o cap
        [] (l.flatMap rc) hown (by simp) (Sl.below (HR.out.below HB2.out (Nat.le_refl _)) hb2 (Nat.le_refl _)) (rc_one l) (by omega)
      rw [Nat.zero_add, List.nil_append] at a1
      have hbW : Below W2.heap.size W2 W' := hb2.grown a2 (by simp) fun k ek => by simp [Value.ownBlock] at ek; omega
      obtain ⟨ro, rcap, rfl, sl⟩ := sl_of_own a1
      have hro : ∀ b off, ro = some ⟨b, off, none⟩ → W2.heap.size ≤ b := fun b off e => (own_base a1 (by rw [e]; rfl)).1
      have hg3' : W'.heap[g3]? = some (.cells #[.int .u32 (X : Int), .int .u32 (Y : Int), .int .i64 L, .slice none 0 0, .slice none 0 0] 33 (0, 0)) := (hbW.block _ (by have := HG3s.out; omega)).trans HG3.out
      have hg2' : W'.heap[w.heap.size]? = some (.cells #[.int .u32 0, .int .u32 0, .int .i64 0, .slice none 0 0, .slice none 0 0] 33 (0, 0)) := (hbW.block _ HG2s.out).trans HG2.out
      obtain ⟨ln, hln⟩ : ∃ ln, l.length = ln := ⟨_, rfl⟩
      have HLN : Hid (l.length = ln) := hln
      obtain ⟨y0, y1, y2, y3, y4, x0', x1, x2, x3, x4⟩ := node_facts hg3'
      have hst := heap_setCell_same W' g3 3 _ _ (.slice ro ln rcap) hg3'
      have hg32 : w.heap.size ≠ g3 := by have := HG32.out; omega
      have hst2 : (W'.setCell ⟨g3, 3, none⟩ (.slice ro ln rcap)).heap[w.heap.size]? = some (.cells #[.int .u32 0, .int .u32 0, .int .i64 0, .slice none 0 0, .slice none 0 0] 33 (0, 0)) := (setc _ _ _ _ hg32).trans hg2'
      obtain ⟨k0, k1, k2, k3, k4, j0, j1, j2, j3, j4⟩ := node_facts hst2
      obtain ⟨i0, i1, i2, i3, i4, m0, m1, m2, m3, m4⟩ := node_facts (a := .int .u32 (X : Int)) (b := .int .u32 (Y : Int)) (c := .int .i64 L) (d := .slice ro ln rcap) (e := .slice none 0 0) hst
      obtain ⟨p1, p2, p3⟩ := put_node hst2 (.int .u32 (X : Int)) (.int .u32 (Y : Int)) (.int .i64 L) (.slice ro ln rcap) (.slice none 0 0)
      have b4 : Below g3 W' (W'.setCell ⟨g3, 3, none⟩ (.slice ro ln rcap)) := ⟨rfl, rfl, rfl, by simp [World.setCell], fun j hj => setc _ _ _ _ (by omega)⟩
      have H3 := HG3s.out
      have H32 := HG32.out
      have hB5 : Below w.heap.size w (W'.setCell ⟨g3, 3, none⟩ (.slice ro ln rcap)) := HB2.out.trans ((hbW.mono (by omega)).trans (b4.mono (by omega)))
      have hsl : Sl 4 (W'.setCell ⟨g3, 3, none⟩ (.slice ro ln rcap)) ro l.length rcap (l.flatMap rc) := Sl.same sl (by simp [World.setCell]) fun b off e _ => setc _ _ _ _ (by have := hro b off e; omega)
      rw [hln] at hrun hmk ⊢
      clear hbW hg3' hg2' hst hst2 b4 hown hb2 a1 a2 a3 sl z0 z1 z2 z3 z4 t0 t1 t2 t3 t4
      obtain ⟨W5, hW5⟩ : ∃ W5, W'.setCell ⟨g3, 3, none⟩ (.slice ro ln rcap) = W5 := ⟨_, rfl⟩
      rw [hW5] at k0 k1 k2 k3 k4 j0 j1 j2 j3 j4 i0 i1 i2 i3 i4 m0 m1 m2 m3 m4 p1 p2 p3 hB5 hsl
      have HP1 : Hid _ := p1
      have HP3 : Hid (Below w.heap.size w _) := hB5.trans p3
      have HN : Hid (NodeAt (fun b => w.heap.size ≤ b) (d + 1) (((((W5.setCell ⟨w.heap.size, 0, none⟩ (.int .u32 (X : Int))).setCell ⟨w.heap.size, 1, none⟩ (.int .u32 (Y : Int))).setCell ⟨w.heap.size, 2, none⟩ (.int .i64 L)).setCell ⟨w.heap.size, 3, none⟩ (.slice ro ln rcap)).setCell ⟨w.heap.size, 4, none⟩ (.slice none 0 0)) ⟨X, Y, lev l, ro, ln, rcap, none, 0, 0⟩ l) := by
        refine (?_ : NodeAt (fun b => w.heap.size ≤ b) (d + 1) _ _ l)
        refine ⟨HX.out.symm, HY.out.symm, rfl, fun _ => ⟨hln.symm, ?_, fun _ b off e => ?_, rfl, Sl.nil 5 _⟩, fun h => by rw [HLf.out] at h; cases h⟩
        · exact Sl.same hsl (by simp [World.setCell]) fun b off e _ => p2 b (by have := hro b off e; omega)
        · have := hro b off e
          show w.heap.size ≤ b
          omega
      clear p1 p2 p3 hB5 hsl hro hln i0 i1 i2 i3 i4 y0 y1 y2 y4 x0' x1 x2 x4 hg32 H3 H32
      go_wp2_with fail
      rw [hmk]
      go_wp2_with (at_builtin; refine list_append rfl 22 22 (.tmp 28) (.tmp 29) rfl (vs := .slice (some ⟨W2.heap.size, 0, none⟩) 0 ln) (vx := .slice o ln cap) rfl rfl hrun ?_)
      refine bodyPost_ret (results_node rfl _ _ _ _ _ _ _ _ rfl HP1.out) rfl ⟨⟨X, Y, lev l, ro, ln, rcap, none, 0, 0⟩, ?_, HN.out, HP3.out⟩
      rw [← HL.out]

end Go.Proofs.Ytaiiclkfnahghaa.Rq
