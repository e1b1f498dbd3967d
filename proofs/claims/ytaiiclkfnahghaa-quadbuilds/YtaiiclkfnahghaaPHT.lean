/- The reference: the least cell of rows, level by level. -/
import Derived.Test.YtaiiclkfnahghaaPHR
namespace Go.Proofs.Ytaiiclkfnahghaa.Rq
open Go.RowKit Go.Lib Go.Shelf
open Go.Proofs.Ytaiiclkfnahghaa.Rc
def X2 (b x : Nat) (p q : Nat) (w : World) : Prop := w.cell? ⟨b, x + 1, none⟩ = some (.int .u32 (p : Int)) ∧ w.cell? ⟨b, x + 2, none⟩ = some (.int .u32 (q : Int))
set_option maxRecDepth 100000 in
theorem X2.same {b x p q : Nat} {w w' : World} (h : X2 b x p q w) (e : w'.heap[b]? = w.heap[b]?) : X2 b x p q w' :=
  ⟨(World.cell?_of_block (a := ⟨b, x + 1, none⟩) e).trans h.1, (World.cell?_of_block (a := ⟨b, x + 2, none⟩) e).trans h.2⟩
/-- The cell at hand, at a level. -/
structure AJ (xx yy : Nat) (w : World) (m : Nat) (W : World) : Prop where
  res : W.heap[w.heap.size]? = some (.cells #[.int .u32 0, .int .u32 0, .int .i64 0] 30 (0, 0))
  cel : W.heap[w.heap.size + 1]? = some (.cells #[.int .u32 ((flr xx m : Nat) : Int), .int .u32 ((flr yy m : Nat) : Int), .int .i64 (m : Int)] 30 (0, 0))
  bel : Below w.heap.size w W
set_option maxRecDepth 100000 in
theorem AJ.size {xx yy : Nat} {w W : World} {m : Nat} (h : AJ xx yy w m W) : w.heap.size + 2 ≤ W.heap.size := (Array.getElem?_eq_some_iff.1 h.cel).1
set_option maxRecDepth 100000 in
theorem AJ.next {xx yy : Nat} {w W W' : World} {m B : Nat} (h : AJ xx yy w m W) (hb : Below B W W') (hB : w.heap.size + 2 ≤ B) : AJ xx yy w m W' :=
  ⟨(hb.block _ (by omega)).trans h.res, (hb.block _ (by omega)).trans h.cel, h.bel.trans (hb.mono (by omega))⟩
set_option maxRecDepth 100000 in
theorem shr_shl (X n : Nat) : X / 2 ^ n * 2 ^ n = flr X n := rfl
set_option maxRecDepth 100000 in
/-- A point is in a cell of the first point just from its level on. -/
theorem has_lvl {xx yy x y m : Nat} (hx : xx < 2147483648) (hy : yy < 2147483648) (h1 : x < 2147483648) (h2 : y < 2147483648) (hm : m ≤ 31) : hasS (flr xx m) (flr yy m) (m : Int) x y = decide (lvl xx yy x y ≤ m) := by
  unfold hasS
  apply decide_eq_decide.2
  rw [lvl_iff xx yy x y m (by omega) (by omega) (by omega) (by omega), rightS_nat, Int.toNat_natCast]
  constructor
  · rintro ⟨_, a, b⟩; exact ⟨a.symm, b.symm⟩
  · rintro ⟨a, b⟩
    exact ⟨⟨hm, Nat.lt_of_le_of_lt (flr_le _ _) hx, Nat.lt_of_le_of_lt (flr_le _ _) hy, flr_down _ (Nat.le_refl _), flr_down _ (Nat.le_refl _)⟩, a.symm, b.symm⟩
/-- The level of a cell in its block. -/
def levIn (w : World) (g : Nat) : Nat := match w.cell? ⟨g, 2, none⟩ with | some (.int _ n) => n.toNat | _ => 0
set_option maxRecDepth 100000 in
theorem levIn_of {xx yy : Nat} {w W : World} {m : Nat} (h : AJ xx yy w m W) : levIn W (w.heap.size + 1) = m := by
  unfold levIn
  rw [(Cel.cells h.cel).2.2]
  simp
set_option maxRecDepth 100000 in
theorem wrap_u64 {m : Int} (h0 : 0 ≤ m) (h1 : m < 18446744073709551616) : IntKind.u64.wrap m = m := by
  obtain ⟨n, rfl⟩ := Int.eq_ofNat_of_zero_le h0
  exact u64_in n (by omega)
set_option maxRecDepth 100000 in
/-- A number shifted down and up again. -/
theorem shifts (f n : Nat) (zf zn : Int) (hf : (f : Int) = zf) (hn : (n : Int) = zn) (h1 : f < 4294967296) (h2 : n ≤ 31) :
    IntKind.u64.wrap (zf / 2 ^ min zn.toNat 64 * 2 ^ min zn.toNat 64) % 4294967296 = ((flr f n : Nat) : Int) := by
  subst hf hn
  have hl := flr_le f n
  rw [Int.toNat_natCast, show min n 64 = n by omega]
  have e : ((f : Int) / 2 ^ n * 2 ^ n) = ((flr f n : Nat) : Int) := by unfold flr; push_cast; rfl
  rw [e, wrap_u64 (by omega) (by omega)]
  omega
set_option maxRecDepth 100000 in
set_option maxHeartbeats 4000000 in
theorem around_rows (l : List Rw) (o : Option Addr) (cap : Nat) (w : World) (hr : RowsAt w o cap l) (hne : 0 < l.length) (hon : On l) (hmax : l.length ≤ 1000) :
    Calls Try.prog 64 #[.slice o l.length cap] w fun e w' => e = .returned (cv (cx l) (cy l) (lev l)) ∧ Below w.heap.size w w' := by
  obtain ⟨b, off, rfl, hbl, hc⟩ := hr.row hne
  obtain ⟨_, d1, d2, _⟩ := hc 0 hne
  rw [Nat.zero_mul, Nat.add_zero, ← x0_rat] at d1
  rw [Nat.zero_mul, Nat.add_zero, ← y0_rat] at d2
  have on0' := on0 hon
  have q2 : (0 : Int) < (l.length : Int) := by omega
  have hbn := below_new w (.cells #[.int .u32 0, .int .u32 0, .int .i64 0] 30)
  have HSW : Hid (X2 b off (x0 l) (y0 l) (w.alloc (.cells #[.int .u32 0, .int .u32 0, .int .i64 0] 30)).drew) := X2.same ⟨d1, d2⟩ (hbn.block b hbl)
  have HX : Hid (x0 l < 2147483648 ∧ y0 l < 2147483648) := on0'
  have HR : Hid (RowsAt w (some ⟨b, off, none⟩) cap l) := hr
  have HN : Hid _ := heap_alloc_new w (.cells #[.int .u32 0, .int .u32 0, .int .i64 0] 30)
  have HBn : Hid _ := hbn
  have hbs : b < (w.alloc (.cells #[.int .u32 0, .int .u32 0, .int .i64 0] 30)).heap.size := by simp; omega
  clear d1 d2 hc on0' hbn hr
  go_enter Try.func64, Try.ntmps64
  go_wp2_with fail
  refine wp_region_held (S := X2 b off (x0 l) (y0 l)) (by kernel_rfl) ?_
  change wpAnyH _ _ _ _ _ _ _ _ (World.drew _)
  refine wpAnyH_take (i := 0) (v := ?_) rfl (by kernel_rfl) (by kernel_rfl) (by kernel_rfl) (fun _ _ _ h => h) (Or.inl ⟨by kernel_rfl, ?_⟩) HSW.out ?_
  rotate_left
  · intro w hS
    obtain ⟨e1, e2⟩ := hS
    go_simp
    try with_reducible rfl
  conv in (Act.put _ _ _) => simp only [List.getElem_toArray, List.getElem_cons_succ, List.getElem_cons_zero, Act.put, List.setIfInBounds_toArray, List.set_cons_succ, List.set_cons_zero]
  refine wpAnyH_take (i := 1) (v := ?_) rfl (by kernel_rfl) (by kernel_rfl) (by kernel_rfl) (fun _ _ _ h => h) (Or.inl ⟨by kernel_rfl, ?_⟩) HSW.out ?_
  rotate_left
  · intro w hS
    obtain ⟨e1, e2⟩ := hS
    go_simp
    try with_reducible rfl
  conv in (Act.put _ _ _) => simp only [List.getElem_toArray, List.getElem_cons_succ, List.getElem_cons_zero, Act.put, List.setIfInBounds_toArray, List.set_cons_succ, List.set_cons_zero]
  refine wpAnyH_take (i := 2) (v := ?_) rfl (by kernel_rfl) (by kernel_rfl) (by kernel_rfl) (fun _ _ _ h => h) (Or.inl ⟨by kernel_rfl, ?_⟩) HSW.out ?_
  rotate_left
  · intro w hS
    obtain ⟨e1, e2⟩ := hS
    go_simp
    try with_reducible rfl
  conv in (Act.put _ _ _) => simp only [List.getElem_toArray, List.getElem_cons_succ, List.getElem_cons_zero, Act.put, List.setIfInBounds_toArray, List.set_cons_succ, List.set_cons_zero]
  refine wpAnyH_take (i := 3) (v := ?_) rfl (by kernel_rfl) (by kernel_rfl) (by kernel_rfl) (fun _ _ _ h => h) (Or.inl ⟨by kernel_rfl, ?_⟩) HSW.out ?_
  rotate_left
  · intro w hS
    obtain ⟨e1, e2⟩ := hS
    go_simp
    try with_reducible rfl
  conv in (Act.put _ _ _) => simp only [List.getElem_toArray, List.getElem_cons_succ, List.getElem_cons_zero, Act.put, List.setIfInBounds_toArray, List.set_cons_succ, List.set_cons_zero]
  refine wpAnyH_take (i := 4) (v := ?_) rfl (by kernel_rfl) (by kernel_rfl) (by kernel_rfl) (fun _ _ _ h => h) (Or.inl ⟨by kernel_rfl, ?_⟩) HSW.out ?_
  rotate_left
  · intro w hS
    obtain ⟨e1, e2⟩ := hS
    go_simp
    try with_reducible rfl
  conv in (Act.put _ _ _) => simp only [List.getElem_toArray, List.getElem_cons_succ, List.getElem_cons_zero, Act.put, List.setIfInBounds_toArray, List.set_cons_succ, List.set_cons_zero]
  refine wpAnyH_take (i := 5) (v := ?_) rfl (by kernel_rfl) (by kernel_rfl) (by kernel_rfl) (fun _ _ _ h => h) (Or.inl ⟨by kernel_rfl, ?_⟩) HSW.out ?_
  rotate_left
  · intro w hS
    obtain ⟨e1, e2⟩ := hS
    go_simp
    try with_reducible rfl
  conv in (Act.put _ _ _) => simp only [List.getElem_toArray, List.getElem_cons_succ, List.getElem_cons_zero, Act.put, List.setIfInBounds_toArray, List.set_cons_succ, List.set_cons_zero]
  refine wpAnyH_take (i := 6) (v := ?_) rfl (by kernel_rfl) (by kernel_rfl) (by kernel_rfl) (fun _ _ _ h => h) (Or.inl ⟨by kernel_rfl, ?_⟩) HSW.out ?_
  rotate_left
  · intro w hS
    obtain ⟨e1, e2⟩ := hS
    go_simp
    try with_reducible rfl
  conv in (Act.put _ _ _) => simp only [List.getElem_toArray, List.getElem_cons_succ, List.getElem_cons_zero, Act.put, List.setIfInBounds_toArray, List.set_cons_succ, List.set_cons_zero]
  refine wpAnyH_take (i := 7) (v := ?_) rfl (by kernel_rfl) (by kernel_rfl) (by kernel_rfl) (fun _ _ _ h => h) (Or.inl ⟨by kernel_rfl, ?_⟩) HSW.out ?_
  rotate_left
  · intro w hS
    obtain ⟨e1, e2⟩ := hS
    go_simp
    try with_reducible rfl
  conv in (Act.put _ _ _) => simp only [List.getElem_toArray, List.getElem_cons_succ, List.getElem_cons_zero, Act.put, List.setIfInBounds_toArray, List.set_cons_succ, List.set_cons_zero]
  refine wpAnyH_take (i := 8) (v := ?_) rfl (by kernel_rfl) (by kernel_rfl) (by kernel_rfl) (fun _ _ _ h => h) (Or.inl ⟨by kernel_rfl, ?_⟩) HSW.out ?_
  rotate_left
  · intro w hS
    obtain ⟨e1, e2⟩ := hS
    go_simp
    try with_reducible rfl
  conv in (Act.put _ _ _) => simp only [List.getElem_toArray, List.getElem_cons_succ, List.getElem_cons_zero, Act.put, List.setIfInBounds_toArray, List.set_cons_succ, List.set_cons_zero]
  refine readyH 9 _ (by kernel_rfl) rfl (by kernel_rfl) (fun K hK => ?_)
  go_simp
  obtain ⟨n1, n2, n3⟩ := two_new w (.cells #[.int .u32 0, .int .u32 0, .int .i64 0] 30) (.cells #[.int .u32 0, .int .u32 0, .int .i64 0] 30)
  have hsz : ((w.alloc (.cells #[.int .u32 0, .int .u32 0, .int .i64 0] 30)).alloc (.cells #[.int .u32 0, .int .u32 0, .int .i64 0] 30)).drew.heap.size = w.heap.size + 2 := by simp
  have HN1 : ((w.alloc (.cells #[.int .u32 0, .int .u32 0, .int .i64 0] 30)).alloc (.cells #[.int .u32 0, .int .u32 0, .int .i64 0] 30)).drew.heap[w.heap.size]? = some (.cells #[.int .u32 0, .int .u32 0, .int .i64 0] 30 (0, 0)) := n1
  have HN2 : ((w.alloc (.cells #[.int .u32 0, .int .u32 0, .int .i64 0] 30)).alloc (.cells #[.int .u32 0, .int .u32 0, .int .i64 0] 30)).drew.heap[w.heap.size + 1]? = some (.cells #[.int .u32 0, .int .u32 0, .int .i64 0] 30 (0, 0)) := n2
  have HN3 : Below w.heap.size w ((w.alloc (.cells #[.int .u32 0, .int .u32 0, .int .i64 0] 30)).alloc (.cells #[.int .u32 0, .int .u32 0, .int .i64 0] 30)).drew := n3.drew
  replace HSW : Hid (X2 b off (x0 l) (y0 l) ((w.alloc (.cells #[.int .u32 0, .int .u32 0, .int .i64 0] 30)).alloc (.cells #[.int .u32 0, .int .u32 0, .int .i64 0] 30)).drew) := HSW.out.same ((below_new (w.alloc (.cells #[.int .u32 0, .int .u32 0, .int .i64 0] 30)) (.cells #[.int .u32 0, .int .u32 0, .int .i64 0] 30)).block b hbs)
  refine hK _ _ HSW.out ?_
  clear hK K n1 n2 n3 HN HBn hbs
  obtain ⟨W2, hW2⟩ : ∃ W2, ((w.alloc (.cells #[.int .u32 0, .int .u32 0, .int .i64 0] 30)).alloc (.cells #[.int .u32 0, .int .u32 0, .int .i64 0] 30)).drew = W2 := ⟨_, rfl⟩
  rw [hW2] at HN1 HN2 HN3 HSW hsz ⊢
  clear hW2
  obtain ⟨z0, z1, z2, f0, f1, f2⟩ := cell_facts HN2
  obtain ⟨h3, b3⟩ := put_cell HN2 (.int .u32 ((x0 l : Nat) : Int)) (.int .u32 ((y0 l : Nat) : Int)) (.int .i64 0)
  have HJ0 : Hid (AJ (x0 l) (y0 l) w 0 (((W2.setCell ⟨w.heap.size + 1, 0, none⟩ (.int .u32 ((x0 l : Nat) : Int))).setCell ⟨w.heap.size + 1, 1, none⟩ (.int .u32 ((y0 l : Nat) : Int))).setCell ⟨w.heap.size + 1, 2, none⟩ (.int .i64 0))) :=
    ⟨(b3.block _ (by omega)).trans HN1, by rw [flr_zero, flr_zero]; exact h3, HN3.trans (b3.mono (by omega))⟩
  replace HSW : Hid (X2 b off (x0 l) (y0 l) (((W2.setCell ⟨w.heap.size + 1, 0, none⟩ (.int .u32 ((x0 l : Nat) : Int))).setCell ⟨w.heap.size + 1, 1, none⟩ (.int .u32 ((y0 l : Nat) : Int))).setCell ⟨w.heap.size + 1, 2, none⟩ (.int .i64 0))) := HSW.out.same (b3.block b (by omega))
  clear h3 b3 HN1 HN2 HN3 hsz
  refine readyH 10 _ (by kernel_rfl) rfl (by kernel_rfl) (fun K hK => ?_)
  go_simp
  refine hK _ _ HSW.out ?_
  clear hK K f0 f1 f2 z0 z1 z2
  obtain ⟨W3, hW3⟩ : ∃ W3, ((W2.setCell ⟨w.heap.size + 1, 0, none⟩ (.int .u32 ((x0 l : Nat) : Int))).setCell ⟨w.heap.size + 1, 1, none⟩ (.int .u32 ((y0 l : Nat) : Int))).setCell ⟨w.heap.size + 1, 2, none⟩ (.int .i64 0) = W3 := ⟨_, rfl⟩
  rw [hW3] at HJ0 HSW ⊢
  clear hW3 HSW
  refine wpAnyH_done (by kernel_rfl) ?_ _
  obtain ⟨g3, hg3⟩ : ∃ g3, w.heap.size + 1 = g3 := ⟨_, rfl⟩
  have HG3 : Hid (w.heap.size + 1 = g3) := hg3
  rw [hg3]
  clear hg3
  go_wp2_with fail
  go_loopw [4] (fun i wr => ∃ k : Nat, 1 ≤ k ∧ k ≤ l.length ∧ i = .int .i64 (k : Int) ∧ AJ (x0 l) (y0 l) w (levs (x0 l) (y0 l) (l.take k)) wr) (fun i _ => l.length - natOf i)
  case atStart =>
    refine ⟨1, by omega, by omega, rfl, ?_⟩
    have : levs (x0 l) (y0 l) (l.take 1) = 0 := by
      cases l with
      | nil => simp at hne
      | cons r t => simp [levs, x0, y0, lvl]; rfl
    rw [this]; exact HJ0.out
  case round =>
    obtain ⟨k, hk1, hk, rfl, hj⟩ := hrel
    obtain ⟨W4, hW4⟩ : ∃ W4, wr = W4 := ⟨_, rfl⟩
    rw [hW4] at hj ⊢
    clear hW4
    have HJ : Hid _ := hj
    have HSZ : Hid (w.heap.size + 2 ≤ W4.heap.size) := hj.size
    have hsz1 : g3 < W4.heap.size := by have := HSZ.out; have := HG3.out; omega
    by_cases hlt : k < l.length
    · have hrow := (HR.out.below hj.bel (Nat.le_refl _)).row hlt
      obtain ⟨b', off', e, hbl4, hc⟩ := hrow
      cases e
      obtain ⟨c0, c1, c2, c3⟩ := hc k hlt
      have q1 : (k : Int) < (l.length : Int) := by omega
      have k0 : (0 : Int) ≤ (k : Int) := by omega
      have k1 : (k : Int) + 1 ≤ 9223372036854775807 := by omega
      have onr := hon _ (rat_mem hlt)
      have on0' := HX.out
      have hmle : levs (x0 l) (y0 l) (l.take k) ≤ 31 := by
        have h1 := lev_le hon
        have h2 := levs_append (x0 l) (y0 l) (l.take k) (l.drop k)
        rw [List.take_append_drop] at h2
        unfold lev at h1
        omega
      have hnx : levs (x0 l) (y0 l) (l.take (k + 1)) = max (levs (x0 l) (y0 l) (l.take k)) (lvl (x0 l) (y0 l) (rat l k).x (rat l k).y) := by
        rw [take_rat l k hlt, levs_append, levs_one]
      have hlv := lvl_le (x0 l) (y0 l) (rat l k).x (rat l k).y on0'.1 on0'.2 onr.1 onr.2
      have HH : Hid (∀ m, m ≤ 31 → ∀ W, _) := fun m (hm : m ≤ 31) (W : World) => eHas_any (flr (x0 l) m) (flr (y0 l) m) (m : Int) (rat l k).x (rat l k).y (by have := flr_le (x0 l) m; omega) (by have := flr_le (y0 l) m; omega) (by omega) (by omega) W
      have HE : Hid (∀ m, m ≤ 31 → hasS (flr (x0 l) m) (flr (y0 l) m) (m : Int) (rat l k).x (rat l k).y = decide (lvl (x0 l) (y0 l) (rat l k).x (rat l k).y ≤ m)) := fun m hm => has_lvl on0'.1 on0'.2 onr.1 onr.2 hm
      have HNX : Hid _ := hnx
      have HJc := HJ.out.cel
      generalize levs (x0 l) (y0 l) (l.take k) = m0 at *
      generalize lvl (x0 l) (y0 l) (rat l k).x (rat l k).y = lv at *
      generalize x0 l = xx at *
      generalize y0 l = yy at *
      generalize rat l k = r at *
      obtain ⟨id, x, y, v⟩ := r
      simp only at c0 c1 c2 c3 HH HE
      rw [HG3.out] at HJc
      obtain ⟨t0, t1, t2⟩ := Cel.cells HJc
      have HM0 := HH.out m0 hmle
      rw [HE.out m0 hmle] at HM0
      have HM : Hid _ := HM0
      clear hc onr hj hnx HM0 HJc
      obtain ⟨fx, hfx⟩ : ∃ fx, flr xx m0 = fx := ⟨_, rfl⟩
      obtain ⟨fy, hfy⟩ : ∃ fy, flr yy m0 = fy := ⟨_, rfl⟩
      obtain ⟨zm, hzm⟩ : ∃ zm : Int, (m0 : Int) = zm := ⟨_, rfl⟩
      rw [hfx] at t0; rw [hfy] at t1; rw [hzm] at t2
      rw [hfx, hfy, hzm] at HM
      clear hfx hfy hzm
      go_wp2_with fail
      refine (HM.out _).mono ?_
      rintro e W5 ⟨rfl, b5⟩
      have hb4 := below_new W4 (.cells #[.int .u64 (id : Int), .int .u32 (x : Int), .int .u32 (y : Int), .string v] 26)
      have HJ5 : Hid (AJ xx yy w m0 W5) := (HJ.out.next hb4 HSZ.out).next b5 (by have := HSZ.out; simp; omega)
      have HF5 : Hid (F4 W4.heap.size ⟨id, x, y, v⟩ W5) := F4.same (F4.of (heap_alloc_new W4 _)) (b5.block _ (by simp))
      have HS5 : Hid (W4.heap.size < W5.heap.size) := by have := b5.size; simp at this; exact this
      obtain ⟨g5, hg5⟩ : ∃ g5, W4.heap.size = g5 := ⟨_, rfl⟩
      have HG5 : Hid (w.heap.size + 2 ≤ g5) := by rw [← hg5]; exact HSZ.out
      rw [hg5] at HF5 HS5 ⊢
      clear b5 hb4 HM hg5 t0 t1 t2 c0 c1 c2 c3 HSZ hsz1 hbl4
      go_wp2_with fail
      go_loopw [6] (fun vb wr => ∃ m, m0 ≤ m ∧ m ≤ max m0 lv ∧ vb = .bool (decide (lv ≤ m)) ∧ AJ xx yy w m wr ∧ F4 g5 ⟨id, x, y, v⟩ wr ∧ g5 < wr.heap.size) (fun _ wr => 32 - levIn wr (w.heap.size + 1))
      case atStart => exact ⟨m0, by omega, by omega, rfl, HJ5.out, HF5.out, HS5.out⟩
      case round =>
        obtain ⟨m, hm0, hm1, rfl, hj, hf, hs⟩ := hrel
        by_cases hin : lv ≤ m
        · rw [decide_eq_true hin]
          have HL : Hid (AJ xx yy w (max m0 lv) wr) := by rw [show max m0 lv = m by omega]; exact hj
          clear hj hf
          go_wp2_with fail
          go_roundw
          case rel => exact ⟨k + 1, by omega, by omega, by go_num, by rw [HNX.out]; exact HL.out⟩
          case measure => simp [natOf]; omega
        · rw [decide_eq_false hin]
          have hm30 : m ≤ 30 := by omega
          have HJw : Hid (AJ xx yy w m wr) := hj
          have HFw : Hid (F4 g5 ⟨id, x, y, v⟩ wr) := hf
          have hjs := hj.size
          have hs1 : g3 < wr.heap.size := by have := HG3.out; omega
          have hcel := hj.cel
          rw [HG3.out] at hcel
          have HCEL : Hid _ := hcel
          obtain ⟨t0, t1, t2⟩ := Cel.cells hcel
          clear hcel
          have s1 : flr xx (m + 1) = flr (flr xx m) (m + 1) := (flr_flr xx (by omega)).symm
          have s2 : flr yy (m + 1) = flr (flr yy m) (m + 1) := (flr_flr yy (by omega)).symm
          have bx : flr xx m < 2147483648 := Nat.lt_of_le_of_lt (flr_le _ _) on0'.1
          have bY : flr yy m < 2147483648 := Nat.lt_of_le_of_lt (flr_le _ _) on0'.2
          obtain ⟨fx, hfx⟩ : ∃ fx, flr xx m = fx := ⟨_, rfl⟩
          obtain ⟨fy, hfy⟩ : ∃ fy, flr yy m = fy := ⟨_, rfl⟩
          rw [hfx] at t0 s1 bx
          rw [hfy] at t1 s2 bY
          have S1 : Hid _ := s1
          have S2 : Hid _ := s2
          clear hj hf s1 s2 hfx hfy hjs
          obtain ⟨zm, hzm⟩ : ∃ zm : Int, (m : Int) = zm := ⟨_, rfl⟩
          have HZ : Hid ((m : Int) = zm) := hzm
          rw [hzm] at t2
          have i1 : zm + 1 ≤ 9223372036854775807 := by omega
          have i0 : 0 ≤ zm := by omega
          obtain ⟨zx, hzx⟩ : ∃ zx : Int, (fx : Int) = zx := ⟨_, rfl⟩
          obtain ⟨zy, hzy⟩ : ∃ zy : Int, (fy : Int) = zy := ⟨_, rfl⟩
          rw [hzx] at t0
          rw [hzy] at t1
          have HZX : Hid ((fx : Int) = zx) := hzx
          have HZY : Hid ((fy : Int) = zy) := hzy
          have HSw : Hid (g5 < wr.heap.size) := hs
          have wx : IntKind.u64.wrap zx = zx := wrap_u64 (by omega) (by omega)
          have wy : IntKind.u64.wrap zy = zy := wrap_u64 (by omega) (by omega)
          have r1 := shifts fx (m + 1) zx (zm + 1) hzx (by omega) (by omega) (by omega)
          have u1 := shifts fy (m + 1) zy (zm + 1) hzy (by omega) (by omega) (by omega)
          have HM := HH.out (m + 1) (by omega)
          rw [HE.out (m + 1) (by omega), S1.out, S2.out, show ((m + 1 : Nat) : Int) = zm + 1 by omega] at HM
          replace HM : Hid _ := HM
          have HNM : Hid (m0 ≤ m + 1 ∧ m + 1 ≤ max m0 lv ∧ m ≤ 30) := ⟨by omega, by omega, by omega⟩
          have hjs := HJw.out.size
          obtain ⟨px, hpx⟩ : ∃ px, flr fx (m + 1) = px := ⟨_, rfl⟩
          obtain ⟨py, hpy⟩ : ∃ py, flr fy (m + 1) = py := ⟨_, rfl⟩
          have HPX : Hid (flr xx (m + 1) = px) := by rw [S1.out]; exact hpx
          have HPY : Hid (flr yy (m + 1) = py) := by rw [S2.out]; exact hpy
          rw [hpx] at r1 HM
          rw [hpy] at u1 HM
          obtain ⟨zn, hzn⟩ : ∃ zn : Int, zm + 1 = zn := ⟨_, rfl⟩
          have HZN : Hid (((m + 1 : Nat) : Int) = zn) := by refine (?_ : ((m + 1 : Nat) : Int) = zn); omega
          clear hzm hzx hzy hm0 hm1 hin hm30 bx bY hpx hpy S1 S2 HZ HZX HZY hjs
          rw [hzn] at i1 r1 u1 HM
          have i2 : 0 ≤ zn := by omega
          have hznw : IntKind.i64.wrap zn = zn := wrap_i64 (by omega) i1
          have hznu : IntKind.u64.wrap zn = zn := wrap_u64 (by omega) (by omega)
          obtain ⟨v1, v2, v3, v4⟩ := HFw.out
          have hg53 : g5 ≠ g3 := by have := HG5.out; have := HG3.out; omega
          obtain ⟨y0, y1, y2, y3, y4, y5⟩ := cell_facts HCEL.out
          clear y3 y4 y5 k0 k1 q1
          obtain ⟨p1, p2⟩ := put_cell HCEL.out (.int .u32 (px : Int)) (.int .u32 (py : Int)) (.int .i64 zn)
          have hss : (((wr.setCell ⟨g3, 0, none⟩ (.int .u32 (px : Int))).setCell ⟨g3, 1, none⟩ (.int .u32 (py : Int))).setCell ⟨g3, 2, none⟩ (.int .i64 zn)).heap.size = wr.heap.size := by simp [World.setCell]
          have hb6 := below_new (((wr.setCell ⟨g3, 0, none⟩ (.int .u32 (px : Int))).setCell ⟨g3, 1, none⟩ (.int .u32 (py : Int))).setCell ⟨g3, 2, none⟩ (.int .i64 zn)) (.cells #[.int .u32 (px : Int), .int .u32 (py : Int), .int .i64 zn] 30)
          have HJ6 : Hid (AJ xx yy w (m + 1) ((((wr.setCell ⟨g3, 0, none⟩ (.int .u32 (px : Int))).setCell ⟨g3, 1, none⟩ (.int .u32 (py : Int))).setCell ⟨g3, 2, none⟩ (.int .i64 zn)).alloc (.cells #[.int .u32 (px : Int), .int .u32 (py : Int), .int .i64 zn] 30))) := by
            refine (?_ : AJ xx yy w (m + 1) ((((wr.setCell ⟨g3, 0, none⟩ (.int .u32 (px : Int))).setCell ⟨g3, 1, none⟩ (.int .u32 (py : Int))).setCell ⟨g3, 2, none⟩ (.int .i64 zn)).alloc (.cells #[.int .u32 (px : Int), .int .u32 (py : Int), .int .i64 zn] 30)))
            have e3 := HG3.out
            refine ⟨(hb6.block _ (by omega)).trans ((p2.block _ (by omega)).trans HJw.out.res), ?_, HJw.out.bel.trans ((p2.mono (by omega)).trans (hb6.mono (by omega)))⟩
            rw [e3, HPX.out, HPY.out, HZN.out]
            exact (hb6.block _ (by omega)).trans p1
          have HF6 : Hid (F4 g5 ⟨id, x, y, v⟩ ((((wr.setCell ⟨g3, 0, none⟩ (.int .u32 (px : Int))).setCell ⟨g3, 1, none⟩ (.int .u32 (py : Int))).setCell ⟨g3, 2, none⟩ (.int .i64 zn)).alloc (.cells #[.int .u32 (px : Int), .int .u32 (py : Int), .int .i64 zn] 30))) := by
            refine (?_ : F4 g5 ⟨id, x, y, v⟩ ((((wr.setCell ⟨g3, 0, none⟩ (.int .u32 (px : Int))).setCell ⟨g3, 1, none⟩ (.int .u32 (py : Int))).setCell ⟨g3, 2, none⟩ (.int .i64 zn)).alloc (.cells #[.int .u32 (px : Int), .int .u32 (py : Int), .int .i64 zn] 30)))
            refine HFw.out.same ((hb6.block _ (by have := HSw.out; omega)).trans ?_)
            exact (setc _ _ _ _ hg53).trans ((setc _ _ _ _ hg53).trans (setc _ _ _ _ hg53))
          have HS6 : Hid (g5 < ((((wr.setCell ⟨g3, 0, none⟩ (.int .u32 (px : Int))).setCell ⟨g3, 1, none⟩ (.int .u32 (py : Int))).setCell ⟨g3, 2, none⟩ (.int .i64 zn)).alloc (.cells #[.int .u32 (px : Int), .int .u32 (py : Int), .int .i64 zn] 30)).heap.size) := by have h1 := HSw.out; have h2 := hb6.size; rw [hss] at h2; exact Nat.lt_of_lt_of_le h1 h2
          clear p1 p2 hss hb6
          go_wp2_with fail
          refine (HM.out _).mono ?_
          rintro e W7 ⟨rfl, b7⟩
          have HJ7 : Hid (AJ xx yy w (m + 1) W7) := HJ6.out.next b7 HJ6.out.size
          have HF7 : Hid (F4 g5 ⟨id, x, y, v⟩ W7) := HF6.out.same (b7.block _ HS6.out)
          have HS7 : Hid (g5 < W7.heap.size) := Nat.lt_of_lt_of_le HS6.out b7.size
          clear b7 HJ6 HF6 HS6
          go_wp2_with fail
          go_roundw
          case rel => exact ⟨m + 1, HNM.out.1, HNM.out.2.1, rfl, HJ7.out, HF7.out, HS7.out⟩
          case measure =>
            rw [levIn_of HJ7.out, levIn_of HJw.out]
            have := HNM.out.2.2
            omega
    · obtain rfl : k = l.length := by omega
      have q1 : ¬ (l.length : Int) < (l.length : Int) := by omega
      rw [List.take_length] at HJ
      have e3 := HG3.out
      have hc3 := HJ.out.cel
      rw [e3] at hc3
      obtain ⟨z0, z1, z2, f0, f1, f2⟩ := cell_facts HJ.out.res
      obtain ⟨j0, j1, j2, t0, t1, t2⟩ := cell_facts hc3
      obtain ⟨h3, b3⟩ := put_cell HJ.out.res (.int .u32 ((flr (x0 l) (levs (x0 l) (y0 l) l) : Nat) : Int)) (.int .u32 ((flr (y0 l) (levs (x0 l) (y0 l) l) : Nat) : Int)) (.int .i64 ((levs (x0 l) (y0 l) l : Nat) : Int))
      have H3 : Hid _ := h3
      have B3 : Hid (Below w.heap.size w _) := HJ.out.bel.trans b3
      clear hj h3 b3 hc3 j0 j1 j2 e3 hsz1
      go_wp2_with fail
      exact bodyPost_ret (results_c1 rfl _ _ _ _ _ _ rfl H3.out) rfl ⟨rfl, B3.out⟩
end Go.Proofs.Ytaiiclkfnahghaa.Rq
