/- The first so many bytes that a function yields. -/
import Derived.Test.YtmlechalhldlhaaDoorUa
import Derived.Test.YtmlechalhldlhaaDoorH
namespace Go.Proofs.YtmlechalhldlhaaDoor
open Go.RowKit Go.Shelf Go.Lib
attribute [local go_sem] Oper.semAt_some
/-- The cells of all blocks below a place are kept. -/
def Kq (b : Nat) (A B : World) : Prop := A.heap.size ≤ B.heap.size ∧ ∀ j o, j < b → A.heap[j]? = some o → o.isCells = true → B.heap[j]? = some o
theorem Kq.refl (b : Nat) (A : World) : Kq b A A := ⟨Nat.le_refl _, fun _ _ _ h _ => h⟩
theorem Kq.trans {b : Nat} {A B C : World} (h : Kq b A B) (k : Kq b B C) : Kq b A C := ⟨Nat.le_trans h.1 k.1, fun j o hj ho hc => k.2 j o hj (h.2 j o hj ho hc) hc⟩
theorem Kq.put (b : Nat) (W : World) (l : Nat) (o o' : Obj) (h : W.heap[l]? = some o) (hc : o.isCells = false) : Kq b W (W.putObj l o') :=
  ⟨by simp [World.putObj], fun j p _ hp hpc => by
    by_cases e : j = l
    · subst e; rw [h] at hp; cases hp; rw [hc] at hpc; cases hpc
    · exact (World.putObj_heap_other e).trans hp⟩
theorem Kq.below {b B : Nat} {X Y : World} (h : Below B X Y) (hB : b ≤ B) : Kq b X Y := ⟨h.size, fun j _ hj ho _ => (h.block j (by omega)).trans ho⟩
/-- What a function says that yields bytes: it yields m 0, m 1, .. for as long as the body goes on, and at most N of them. -/
def Yields8 (gf : Nat) (lb : Array Value) (m : Nat → Int) (N : Nat) (w0 : World) : Prop :=
  ∀ (l : Nat) (W1 : World), Kq w0.heap.size w0 W1 → ∀ (R : Nat → World → Prop) (Rx : World → Prop), (∀ k W W', R k W → Below W1.heap.size W W' → R k W') → (∀ W W', Rx W → Below W1.heap.size W W' → Rx W') →
    (∀ k W, R k W → YieldAt Fence.wide 3 Tryd.prog l #[.int .u8 (m k)] W fun e W' => (e = .returned (.bool true) ∧ R (k + 1) W' ∧ Kq w0.heap.size W W') ∨ (e = .returned (.bool false) ∧ Rx W')) →
    (∀ k W, R k W → k < N) → R 0 W1 →
    CallsIn Fence.wide 4 Tryd.prog gf (#[.func (.yield l) #[] #[]] ++ lb) W1 fun e W' => (∃ v, e = .returned v) ∧ Rx W'
/-- What the function has taken, of the first n bytes k. -/
def Fst (m : Nat → Int) (n : Nat) (w : World) (q k : Nat) (W : World) : Prop :=
  k ≤ n ∧ W.heap[w.heap.size]? = some (.cells #[.int .i64 (n : Int)] 3 (0, 0)) ∧ W.heap[q]? = some (.cells #[.slice (some ⟨w.heap.size + 1, 0, none⟩) k n] 42 (0, 0)) ∧ W.ownsRow (w.heap.size + 1) 5 1 (.slice (some ⟨w.heap.size + 1, 0, none⟩) k n) k ((upto m k).map (Value.int .u8)) ∧ Below w.heap.size w W
theorem own_blw {W W' : World} {base p n cap B : Nat} {xs : List Value} (ho : W.ownsRow base 5 1 (.slice (some ⟨p, 0, none⟩) n cap) n xs) (hb : Below B W W') (hp : p < B) : W'.ownsRow base 5 1 (.slice (some ⟨p, 0, none⟩) n cap) n xs := by
  refine ⟨ho.1, ?_⟩
  rcases ho.2 with ⟨hv, _⟩ | ⟨g', cap', cur, hv, hb', hh, rest⟩
  · cases hv
  · cases hv
    exact .inr ⟨p, cap, cur, rfl, hb', (hb.block p hp).trans hh, rest⟩
theorem Fst.below {m : Nat → Int} {n q k B : Nat} {w W W' : World} (h : Fst m n w q k W) (hb : Below B W W') (h1 : w.heap.size + 1 < B) (h2 : q < B) : Fst m n w q k W' :=
  ⟨h.1, (hb.block _ (by omega)).trans h.2.1, (hb.block _ h2).trans h.2.2.1, own_blw h.2.2.2.1 hb h1, h.2.2.2.2.trans (hb.mono (by omega))⟩
set_option maxRecDepth 100000 in
set_option maxHeartbeats 2000000 in
theorem first_in (gf : Nat) (lb : Array Value) (m : Nat → Int) (n : Nat) (hn : n ≤ 100000) (w : World) (eg : ∀ args w, (callFunc gf args).run Tryd.prog w = .ok (.enter gf args) w) (hI : Yields8 gf lb m (max n 1) w) :
    CallsIn Fence.wide 5 Tryd.prog 24 #[.int .i64 (n : Int), .func (.func gf) #[] lb] w fun e w' => e = .returned (.string (strOfNums (upto m n))) ∧ Below w.heap.size w w' := by
  obtain ⟨i0, hi, hz0, hz1, hz2⟩ := info_parts info5
  refine callsIn_of_wp_marks Tryd.func24 rfl trivial ?_ rfl
  simp only [Tryd.ntmps24, List.size_toArray, List.length_cons, List.length_nil, Nat.reduceAdd, Nat.reduceSub, Array.replicate_succ, Array.replicate_zero, List.push_toArray, List.append_toArray, List.nil_append, List.cons_append]
  have n0 : (0 : Int) ≤ (n : Int) := by omega
  have n1 : (n : Int) ≤ 100000 := by omega
  gi_wp2
  obtain ⟨w0, hw0⟩ : ∃ w0, w.alloc (.cells #[.int .i64 (n : Int)] 3) = w0 := ⟨_, rfl⟩
  have s0 : w0.heap.size = w.heap.size + 1 := by rw [← hw0]; simp
  have hb0 : Below w.heap.size w w0 := by rw [← hw0]; exact (Below.refl _ w).alloc (Nat.le_refl _) _
  have X0 : Hid (w0.heap[w.heap.size]? = some (.cells #[.int .i64 (n : Int)] 3 (0, 0))) := by rw [← hw0]; exact heap_alloc_new w _
  have c0 : w0.cell? ⟨w.heap.size, 0, none⟩ = some (.int .i64 (n : Int)) := by rw [cell_of_row _ _ _ _ _ _ X0.out]; rfl
  obtain ⟨w2, hmk0, hown, hgrow⟩ := run_make_own (P := Tryd.prog) w0 w0.heap.size 42 5 i0 (.int .u8 0) 1 Tryd.underlying42 hi hz0 hz1 .i64 .i64 n (by rw [hz2]; omega) (by unfold maxLen; omega) (Nat.le_refl _)
  have hmk : (Instr.makeSlice 42 (.int .i64 0) (.int .i64 (n : Int))).run Tryd.prog w0 = .ok (.slice (some ⟨w0.heap.size, 0, none⟩) 0 n) w2 := hmk0
  rw [hw0]
  clear hw0 hmk0
  refine (wpIn_wide (n := 5)).2 (wp_scope_straight ((wpIn_wide (n := 5)).1 ?_))
  gi_wp2
  obtain ⟨w3, hw3⟩ : ∃ w3, w2.alloc (.cells #[.slice (some ⟨w.heap.size + 1, 0, none⟩) 0 n] 42) = w3 := ⟨_, rfl⟩
  have b2 : Below w.heap.size w w2 := hb0.grown hgrow (by omega) (fun k e => by cases e)
  have b3 : Below w2.heap.size w2 w3 := by rw [← hw3]; exact (Below.refl _ w2).alloc (Nat.le_refl _) _
  have O3 : w3.ownsRow (w.heap.size + 1) 5 1 (.slice (some ⟨w.heap.size + 1, 0, none⟩) 0 n) 0 [] := by rw [s0] at hown; rw [← hw3]; exact hown.alloc _
  have l2 : w.heap.size + 1 < w2.heap.size := by rw [s0] at hown; exact own_lt hown
  have X3 : w3.heap[w.heap.size]? = some (.cells #[.int .i64 (n : Int)] 3 (0, 0)) := (b3.block _ (by omega)).trans ((hgrow.block _ (by omega) (by simp)).trans X0.out)
  have Q3 : w3.heap[w2.heap.size]? = some (.cells #[.slice (some ⟨w.heap.size + 1, 0, none⟩) 0 n] 42 (0, 0)) := by rw [← hw3]; exact heap_alloc_new w2 _
  have B3 : Below w.heap.size w w3 := b2.trans (b3.mono (by omega))
  have s3 : w3.heap.size = w2.heap.size + 1 := by rw [← hw3]; simp
  rw [hw3]
  clear hw3 hmk hown hgrow hb0 b2 b3 X0 c0
  generalize w2.heap.size = q at *
  clear s0
  refine wpIn_label ?_
  gi_wp2
  refine range_law2 rfl (by omega) (gf := gf) (lb := lb) rfl trivial eg (fun x : Int => #[.int .u8 x]) (fun _ => rfl) (Kq w.heap.size) Kq.trans (fun W l o o' h hc => Kq.put w.heap.size W l o o' h hc)
    (fun k x _ => x = m k) (fun k x W l o' hy _ _ => hy)
    (fun k W => k < max n 1 ∧ Fst m n w q k W) (fun W => Fst m n w q n W) 0
    (fun k W W' h hb => ⟨h.1, h.2.below hb (by omega) (by omega)⟩) (fun W W' h hb => h.below hb (by omega) (by omega))
    ⟨by omega, Nat.zero_le _, X3, Q3, O3, B3⟩ (fun k => ¬ k < max n 1) (fun k W h hk => hk h.1)
    (fun x => { tmps := #[Value.int IntKind.i64 (n : Int), Value.func (Fn.func gf) #[] lb,
          Value.pointer (some ⟨w.heap.size, 0, none⟩), undef, Value.string ⟨#[]⟩,
          Value.pointer (some ⟨q, 0, none⟩), Value.int IntKind.u8 x, Value.int IntKind.i64 (n : Int),
          Value.slice (some ⟨w.heap.size + 1, 0, none⟩) 0 n, Value.func (Fn.func gf) #[] lb, Value.int IntKind.u8 x, undef,
          undef, undef, undef, undef, undef, undef, undef, undef, undef, undef, undef, undef, undef], defers := [] }) ?assign ?body ?iter ?stop
  case assign =>
    intro l x W K hK
    gi_wp2
    exact hK
  case iter =>
    intro l W1 hB1 hs1 R Rx hR hRx hY hbd h0
    refine hI l W1 (Kq.trans (Kq.below B3 (Nat.le_refl _)) (Kq.below hB1 (by omega))) R Rx hR hRx (fun k W hk => hY k (m k) W hk rfl) (fun k W h => by have := hbd k W h; omega) h0
  case body =>
    rintro l k x W ⟨hk, hkn, hx, hq, ho, hbw⟩ rfl
    have HX : Hid (W.heap[w.heap.size]? = some (.cells #[.int .i64 (n : Int)] 3 (0, 0))) := hx
    have HQ : Hid (W.heap[q]? = some (.cells #[.slice (some ⟨w.heap.size + 1, 0, none⟩) k n] 42 (0, 0))) := hq
    have HO : Hid (W.ownsRow (w.heap.size + 1) 5 1 (.slice (some ⟨w.heap.size + 1, 0, none⟩) k n) k ((upto m k).map (Value.int .u8))) := ho
    have HB : Hid (Below w.heap.size w W) := hbw
    have c1 : W.cell? ⟨w.heap.size, 0, none⟩ = some (.int .i64 (n : Int)) := by rw [cell_of_row _ _ _ _ _ _ hx]; rfl
    have c2 : W.cell? ⟨q, 0, none⟩ = some (.slice (some ⟨w.heap.size + 1, 0, none⟩) k n) := by rw [cell_of_row _ _ _ _ _ _ hq]; rfl
    clear hx hq ho hbw
    by_cases hn0 : n = 0
    · subst hn0
      obtain rfl : k = 0 := by omega
      gi_wp2
      exact ⟨rfl, KeepsFrom.refl _ _, Nat.le_refl _, HX.out, HQ.out, HO.out, HB.out⟩
    · have hkl : k < n := by omega
      have k1 : (k : Int) < (n : Int) := by omega
      have k0 : (0 : Int) ≤ (k : Int) := by omega
      obtain ⟨x, hxm⟩ : ∃ x, m k = x := ⟨_, rfl⟩
      have HXM : Hid (m k = x) := hxm
      rw [hxm]
      clear hxm
      have hWl : q < W.heap.size := (Array.getElem?_eq_some_iff.1 HQ.out).1
      obtain ⟨W5, hrun5, hown5, hgrow5⟩ := run_append_fits (P := Tryd.prog) (W.alloc (.cells #[.int .u8 x] 5)) (w.heap.size + 1) 42 42 5 i0 1 Tryd.underlying42 hi hz1 (w.heap.size + 1) k n _ (HO.out.alloc _) ⟨W.heap.size, 0, none⟩ 1 1 [.int .u8 x] rfl (cell_one _ _ _) (fun u hu => by simp at hu; subst hu; rfl) (by omega)
      have g5 : (W.alloc (.cells #[.int .u8 x] 5)).grownBy W5 (some (w.heap.size + 1)) := hgrow5
      have ba : Below W.heap.size W (W.alloc (.cells #[.int .u8 x] 5)) := (Below.refl _ W).alloc (Nat.le_refl _) _
      have sa : (W.alloc (.cells #[.int .u8 x] 5)).heap.size = W.heap.size + 1 := by simp
      have Q5 : W5.heap[q]? = some (.cells #[.slice (some ⟨w.heap.size + 1, 0, none⟩) k n] 42 (0, 0)) := (g5.block q (by omega) (by intro e; cases e; omega)).trans ((ba.block q hWl).trans HQ.out)
      have X5 : Hid (W5.heap[w.heap.size]? = some (.cells #[.int .i64 (n : Int)] 3 (0, 0))) := (g5.block _ (by omega) (by simp)).trans ((ba.block _ (by omega)).trans HX.out)
      have c3 : W5.cell? ⟨q, 0, none⟩ = some (.slice (some ⟨w.heap.size + 1, 0, none⟩) k n) := by rw [cell_of_row _ _ _ _ _ _ Q5]; rfl
      have z3 := frozen_of_row W5 q 0 _ _ Q5
      have B5 : Hid (Below w.heap.size w W5) := (HB.out.trans (ba.mono HB.out.size)).grown g5 (by omega) (fun j e => by cases e; omega)
      have K5 : Hid (KeepsFrom w3.heap.size W W5) := (KeepsFrom.of_grownBy (row := none) ⟨ba.os, ba.tape, ba.output, ba.size, fun j hj _ => ba.block j hj⟩ (fun j e => by cases e)).trans (KeepsFrom.of_grownBy g5 (fun j e => by cases e; omega))
      have O5 : Hid (W5.ownsRow (w.heap.size + 1) 5 1 (.slice (some ⟨w.heap.size + 1, 0, none⟩) (k + 1) n) (k + 1) ((upto m (k + 1)).map (Value.int .u8))) := by
        rw [upto_succ, List.map_append, HXM.out]; exact hown5
      have Q6 : Hid ((W5.setCell ⟨q, 0, none⟩ (.slice (some ⟨w.heap.size + 1, 0, none⟩) (k + 1) n)).heap[q]? = some (.cells #[.slice (some ⟨w.heap.size + 1, 0, none⟩) (k + 1) n] 42 (0, 0))) := by
        rw [heap_setCell_same W5 q 0 _ _ _ Q5]; rfl
      have g6 := gb_set W5 q 0 (.slice (some ⟨w.heap.size + 1, 0, none⟩) (k + 1) n)
      have b6 : Below q W5 (W5.setCell ⟨q, 0, none⟩ (.slice (some ⟨w.heap.size + 1, 0, none⟩) (k + 1) n)) := grown_below g6 (Nat.le_refl _) (by have := (Array.getElem?_eq_some_iff.1 Q5).1; omega)
      have FF : Hid (Fst m n w q (k + 1) (W5.setCell ⟨q, 0, none⟩ (.slice (some ⟨w.heap.size + 1, 0, none⟩) (k + 1) n))) := ⟨by omega, (b6.block _ (by omega)).trans X5.out, Q6.out, own_blw O5.out b6 (by omega), B5.out.trans (b6.mono (by omega))⟩
      have KF : Hid (KeepsFrom w3.heap.size W (W5.setCell ⟨q, 0, none⟩ (.slice (some ⟨w.heap.size + 1, 0, none⟩) (k + 1) n))) := K5.out.trans (KeepsFrom.of_grownBy g6 (fun j e => by cases e; omega))
      have KK : Hid (Kq w.heap.size W (W5.setCell ⟨q, 0, none⟩ (.slice (some ⟨w.heap.size + 1, 0, none⟩) (k + 1) n))) := Kq.trans (Kq.below ba (by omega)) (Kq.trans (Kq.below (grown_below (B := w.heap.size) g5 (by omega) (by omega)) (Nat.le_refl _)) (Kq.below b6 (by omega)))
      have FJ : Hid (∀ j, j = k + 1 → Fst m n w q j (W5.setCell ⟨q, 0, none⟩ (.slice (some ⟨w.heap.size + 1, 0, none⟩) (k + 1) n))) := fun j hj => by rw [hj]; exact FF.out
      have d6 : (W5.setCell ⟨q, 0, none⟩ (.slice (some ⟨w.heap.size + 1, 0, none⟩) (k + 1) n)).cell? ⟨w.heap.size, 0, none⟩ = some (.int .i64 (n : Int)) := by rw [cell_of_row _ _ _ _ _ _ FF.out.2.1]; rfl
      clear hgrow5 hown5 g5 ba sa Q5 g6 b6 K5 B5 O5 X5 HB HQ HX HO Q6
      by_cases hend : k + 1 = n
      · have q1 : ((k : Int) + 1 == (n : Int)) = true := by simp; omega
        have HE : Hid (k + 1 = n) := hend
        clear hend
        gi_wp2_with (gi_at_builtin; refine listIn_append_s rfl 42 42 (.tmp 15) (.tmp 17) rfl (vs := .slice (some ⟨w.heap.size + 1, 0, none⟩) k n) (vx := .slice (some ⟨W.heap.size, 0, none⟩) 1 1) rfl rfl hrun5 ?_)
        exact ⟨rfl, KF.out, FJ.out n HE.out.symm⟩
      · have q1 : ((k : Int) + 1 == (n : Int)) = false := by simp; omega
        gi_wp2_with (gi_at_builtin; refine listIn_append_s rfl 42 42 (.tmp 15) (.tmp 17) rfl (vs := .slice (some ⟨w.heap.size + 1, 0, none⟩) k n) (vx := .slice (some ⟨W.heap.size, 0, none⟩) 1 1) rfl rfl hrun5 ?_)
        exact ⟨KF.out, KK.out, by omega, FF.out⟩
  case stop =>
    rintro D W hD ⟨_, hx, hq, ho, hbw⟩ hdf
    have c2 : W.cell? ⟨q, 0, none⟩ = some (.slice (some ⟨w.heap.size + 1, 0, none⟩) n n) := by rw [cell_of_row _ _ _ _ _ _ hq]; rfl
    have hcv : (convert 42 9 (.slice (some ⟨w.heap.size + 1, 0, none⟩) n n)).run Tryd.prog W = .ok (.string (strOfNums (upto m n))) W := by
      refine run_convert_bytes_arg W 42 5 Tryd.underlying42 Tryd.underlying5 (w.heap.size + 1) 0 n n (upto m n) (by rw [upto_length]) (fun i hi => ?_) 9 Tryd.underlying9
      rw [Nat.zero_add]
      refine own_cell ho ?_
      simp [upto, List.getD, hi]
    have HB : Hid (Below w.heap.size w W) := hbw
    clear hx hq ho hbw
    gi_wp2
    rw [Exit.noGoto_ret]
    refine ⟨by simp, .inl ⟨_, _, rfl, run_takeDeferred hdf, ?_⟩⟩
    refine ⟨_, results_tmp rfl _ _ _, rfl, HB.out.trans (below_put W _ (by omega))⟩
end Go.Proofs.YtmlechalhldlhaaDoor
