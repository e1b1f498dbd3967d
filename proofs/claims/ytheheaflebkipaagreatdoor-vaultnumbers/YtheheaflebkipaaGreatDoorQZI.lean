import Derived.Test.YtheheaflebkipaaGreatDoorQZE
import Derived.Test.YtheheaflebkipaaGreatDoorPZH
namespace Go.Proofs.YtheheaflebkipaaGreatDoor.Ra
open Go.RowKit
theorem gb_below {w w' : World} (h : Below w.heap.size w w') (r : Option Nat) : w.grownBy w' r := ⟨h.os, h.tape, h.output, h.size, fun k hk _ => h.block k hk⟩
theorem own_below {w w' : World} {base : Nat} {e : TypeId} {size : Nat} {v : Value} {n : Nat} {xs : List Value} (h : w.ownsRow base e size v n xs) (hb : Below w.heap.size w w') : w'.ownsRow base e size v n xs :=
  h.kept (gb_below hb none) (Classical.em _)
/-- A word's four bytes, the least first. -/
def b4 (x : Int) : List Int := [x % 256, x / 256 % 256, x / 65536 % 256, x / 16777216 % 256]
end Go.Proofs.YtheheaflebkipaaGreatDoor.Ra
namespace Go.Proofs.YtheheaflebkipaaGreatDoor.Ra
open Go.RowKit Go.Shelf
attribute [local go_sem] Oper.semAt_some
set_option maxRecDepth 100000 in
/-- stream: the state and the number are boxed; the function value captures the boxes. -/
theorem stream_any (f : Nat → Int) (N : Int) (w : World) :
    Calls Tryz.prog 148 #[.agg (stc f), .int .i64 N] w fun e w' => e = .returned (.func (.func 167) #[] #[.pointer (some ⟨w.heap.size + 1, 0, none⟩), .pointer (some ⟨w.heap.size, 0, none⟩)]) ∧ w' = (w.alloc (.cells (stc f) 185)).alloc (.cells #[.int .i64 N] 3) := by
  go_enter Tryz.func148, Tryz.ntmps148
  go_wp2
  go_ret
  exact ⟨rfl, rfl⟩
set_option maxRecDepth 100000 in
theorem two_below {w w' : World} {a b : Obj} (h : w' = (w.alloc a).alloc b) : Below w.heap.size w w' := by
  rw [h]; exact ((Below.refl _ w).alloc (Nat.le_refl _) _).alloc (by simp) _
/-- The words of the first C blocks. -/
def strm (f : Nat → Int) (C : Nat) : List Int := cat (fun c => upto (blk (upd f 12 (c : Int))) 16) C
set_option maxRecDepth 100000 in
theorem strm_lt (f : Nat → Int) (C c k : Nat) (hc : c < C) (hk : k < 16) :
    (strm f c ++ upto (blk (upd f 12 (c : Int))) k).length < (strm f C).length ∧
    strm f c ++ upto (blk (upd f 12 (c : Int))) k ++ [blk (upd f 12 (c : Int)) k] <+: strm f C := by
  have h2 : strm f c ++ upto (blk (upd f 12 (c : Int))) k ++ [blk (upd f 12 (c : Int)) k] <+: strm f C := by
    rw [List.append_assoc, ← upto_succ]
    refine List.IsPrefix.trans ?_ (cat_prefix _ (show c + 1 ≤ C from hc))
    rw [cat_succ]
    exact (List.prefix_append_right_inj _).2 (upto_prefix _ (by omega))
  exact ⟨by have := h2.length_le; simp at this ⊢; omega, h2⟩
/-- What the stream's iterator reads between two rounds is as it was: its state, and the table. -/
def Kst (Bs : Nat) (A B : World) : Prop := B.heap[Bs]? = A.heap[Bs]? ∧ B.heap[2]? = A.heap[2]?
set_option maxRecDepth 100000 in
theorem Kst.refl (Bs : Nat) (A : World) : Kst Bs A A := ⟨rfl, rfl⟩
set_option maxRecDepth 100000 in
theorem Kst.trans {Bs : Nat} {A B C : World} (h : Kst Bs A B) (k : Kst Bs B C) : Kst Bs A C := ⟨k.1.trans h.1, k.2.trans h.2⟩
set_option maxRecDepth 100000 in
theorem Kst.below {Bs : Nat} {A B : World} (h : Below A.heap.size A B) (h1 : Bs < A.heap.size) (h2 : 2 < A.heap.size) : Kst Bs A B := ⟨h.block _ h1, h.block _ h2⟩
set_option maxRecDepth 100000 in
set_option maxHeartbeats 1000000 in
theorem stream1_in (n : Nat) (hn : 1 ≤ n) (l Bn Bs : Nat) (f : Nat → Int) (N : Nat) (hN : N ≤ 1048576) {tt : TypeId} {fr : Nat × Nat} (J Jx : List Int → World → Prop)
    (hJ : ∀ pre W W', J pre W → Below W.heap.size W W' → J pre W')
    (hY : ∀ pre x W, J pre W → pre.length < (strm f ((N + 63) / 64)).length → YieldAt Fence.wide (n - 1) Tryz.prog l #[.int .u32 x] W fun e W' =>
      (e = .returned (.bool true) ∧ J (pre ++ [x]) W' ∧ Kst Bs W W') ∨ (e = .returned (.bool false) ∧ Jx (pre ++ [x]) W'))
    (W : World) (hcn : W.cell? ⟨Bn, 0, none⟩ = some (.int .i64 (N : Int))) (hs : W.heap[Bs]? = some (.cells (stc f) 185 (0, 0))) (ht : W.heap[2]? = some (.cells tab tt fr)) (h0 : J [] W) :
    CallsIn Fence.wide n Tryz.prog 167 #[.func (.yield l) #[] #[], .pointer (some ⟨Bn, 0, none⟩), .pointer (some ⟨Bs, 0, none⟩)] W fun e W' => (∃ v, e = .returned v) ∧
      ((∃ ys, ys = strm f ((N + 63) / 64) ∧ J ys W') ∨ (∃ pre, pre <+: strm f ((N + 63) / 64) ∧ Jx pre W')) := by
  have HY : Hid _ := hY
  have HJ : Hid _ := hJ
  have HS : Hid _ := hs
  have HT : Hid _ := ht
  clear hY hJ hs ht
  obtain ⟨C, hC⟩ : ∃ C, (N + 63) / 64 = C := ⟨_, rfl⟩
  rw [hC] at HY ⊢
  have g0 : (0 : Int) ≤ (N : Int) := by omega
  have g1 : (N : Int) ≤ 1048576 := by omega
  have HC : Hid _ := hC
  clear hC
  refine callsIn_of_wp Tryz.func167 rfl trivial ?_ rfl
  simp only [Tryz.ntmps167, List.size_toArray, List.length_cons, List.length_nil, Nat.reduceAdd, Nat.reduceSub, Array.replicate_succ, Array.replicate_zero, List.push_toArray, List.append_toArray, List.nil_append, List.cons_append]
  gi_wp2
  have hC := HC.out
  rw [show ((N : Int) + 64 - 1) / 64 = (C : Int) by omega]
  have hC2 : (C : Int) ≤ 16384 := by omega
  clear HC hC g0 g1 hN hcn
  gi_loopw [12] (fun i wr => ∃ c : Nat, c ≤ C ∧ i = .int .u32 c ∧ J (strm f c) wr ∧ Kst Bs W wr) (fun i _ => C - (intOf i).toNat)
  case atStart => exact ⟨0, Nat.zero_le _, rfl, h0, Kst.refl _ _⟩
  case round =>
    clear h0
    obtain ⟨c, hc, rfl, hJs, hnx⟩ := hrel
    have c0 : (0 : Int) ≤ (c : Int) := by omega
    have c1 : (c : Int) ≤ 16384 := by omega
    by_cases hlt : c < C
    · have HS1 : Hid (wr.heap[Bs]? = some (.cells (stc f) 185 (0, 0))) := hnx.1.trans HS.out
      have HT1 : Hid (wr.heap[2]? = some (.cells tab tt fr)) := hnx.2.trans HT.out
      have HP : Hid _ := fun k hk => strm_lt f C c k hlt hk
      have HSN : Hid (strm f (c + 1) = strm f c ++ upto (blk (upd f 12 (c : Int))) 16) := cat_succ _ _
      have HJs : Hid _ := hJs
      have HNX : Hid _ := hnx
      have hwz : 2 < wr.heap.size := (Array.getElem?_eq_some_iff.1 HT1.out).1
      clear hJs hnx
      gi_wp2_with (first
        | (refine wpListIn_load_row rfl 185 _ rfl Bs rfl 185 _ (0, 0) _ HS1.out Tryz.underlying185 rfl (by rw [stc_size]; kernel_rfl) ?_)
        | (refine ⟨trivial, ?_⟩; gi_at_call 168; refine (callsIn_wide.2 (at_any _ _ _)).mono ?_; rintro e w2 ⟨rfl, hw2⟩; have hb2 : Below wr.heap.size wr w2 := two_below hw2; clear hw2))
      refine ⟨trivial, ?_⟩
      refine (callsIn_wide.2 (block_any _ _ ((hb2.block 2 hwz).trans HT1.out))).mono ?_
      rintro e w3 ⟨rfl, hb3⟩
      have hb13 : Below wr.heap.size wr w3 := hb2.trans (hb3.mono hb2.size)
      have hJ3 := HJ.out _ _ _ HJs.out hb13
      have hn3 : Kst Bs W w3 := Kst.trans HNX.out (Kst.below hb13 (Array.getElem?_eq_some_iff.1 HS1.out).1 hwz)
      clear hb2 hb3 hb13 HJs HNX HS1 HT1 hwz
      generalize hG : blk (upd f 12 (c : Int)) = G at *
      clear hG
      generalize strm f c = P0 at *
      gi_wp2
      gi_loopw [19] (fun i wr => ∃ k : Nat, k ≤ 16 ∧ i = .int .i64 k ∧ J (P0 ++ upto G k) wr ∧ Kst Bs W wr) (fun i _ => 16 - (intOf i).toNat)
      case atStart => exact ⟨0, by omega, rfl, by simpa [upto] using hJ3, hn3⟩
      case round =>
        clear hJ3 hn3
        obtain ⟨k, hk, rfl, hJs, hnx⟩ := hrel
        have k0 : (0 : Int) ≤ (k : Int) := by omega
        by_cases hk16 : k < 16
        · have k1 : (k : Int) < 16 := by omega
          have hix := idx_k G k hk16
          obtain ⟨fn, tmps, assign, body, hy, hR⟩ := HY.out (P0 ++ upto G k) (G k) wr hJs (HP.out k hk16).1
          clear hJs
          have HN : Hid _ := hnx
          clear hnx
          gi_wp2
          refine hR.mono ?_
          rintro e W3 (⟨rfl, hJ3, hk3⟩ | ⟨rfl, hJx3⟩)
          · gi_wp2
            go_roundw
            case rel => exact ⟨k + 1, by omega, by go_num, by rw [upto_succ, ← List.append_assoc]; exact hJ3, Kst.trans HN.out hk3⟩
            case measure => simp [intOf]; omega
          · gi_wp2
            refine bodyPost_ret (results_none rfl _ _ _) rfl ?_
            exact ⟨⟨_, rfl⟩, .inr ⟨_, (HP.out k hk16).2, hJx3⟩⟩
        · obtain rfl : k = 16 := by omega
          gi_wp2
          go_roundw
          case rel => exact ⟨c + 1, by omega, by go_num, by rw [HSN.out]; exact hJs, hnx⟩
          case measure => simp [intOf]; omega
    · obtain rfl : c = C := by omega
      gi_wp2
      go_end0
      exact ⟨⟨_, rfl⟩, .inl ⟨_, rfl, hJs⟩⟩
end Go.Proofs.YtheheaflebkipaaGreatDoor.Ra
namespace Go.Proofs.YtheheaflebkipaaGreatDoor.Ra
open Go.RowKit Go.Shelf
attribute [local go_sem] Oper.semAt_some
set_option maxRecDepth 100000 in
theorem stream_stops (n : Nat) (hn : 1 ≤ n) (Bn Bs : Nat) (f : Nat → Int) (N : Nat) (hN : N ≤ 1048576) {tt : TypeId} {fr : Nat × Nat} (w : World) (hBn : Bn < w.heap.size) (hBs : Bs < w.heap.size)
    (hc : w.cell? ⟨Bn, 0, none⟩ = some (.int .i64 (N : Int))) (hs : w.heap[Bs]? = some (.cells (stc f) 185 (0, 0))) (ht : w.heap[2]? = some (.cells tab tt fr)) :
    SeqStopsK Fence.wide n Tryz.prog 167 #[.pointer (some ⟨Bn, 0, none⟩), .pointer (some ⟨Bs, 0, none⟩)] (fun x : Int => #[Value.int .u32 x]) (Kst Bs) (fun ys => ys = strm f ((N + 63) / 64)) (fun pre => pre <+: strm f ((N + 63) / 64)) (strm f ((N + 63) / 64)).length w :=
  fun l J Jx W hW hJ _ hY h0 => by
    have hz : 2 < w.heap.size := (Array.getElem?_eq_some_iff.1 ht).1
    exact stream1_in n hn l Bn Bs f N hN J Jx (fun pre A B h hb => hJ pre A B none h (gb_below hb none) (fun r e => by cases e)) hY W ((hW.cell (p := ⟨Bn, 0, none⟩) hBn).trans hc)
      ((hW.block Bs hBs).trans hs) ((hW.block 2 hz).trans ht) h0
set_option maxRecDepth 100000 in
/-- An operation that defers nothing, in a round, is as outside. -/
theorem opIn_round {F : Fence} {n : Nat} {P : Program} {o : Oper} {a : Act} {w : World} {K : Act → World → Prop} {Q : Exit → Act → World → Prop} (l : Nat) (hd : ∀ c, o.op ≠ .defer c) (h : o.wpIn F n P a w K Q) : o.wpIn (F.inRound l) n P a w K Q := by
  unfold Oper.wpIn at h ⊢
  refine ⟨h.1, ?_⟩
  have h2 := h.2
  rw [Oper.semAt_plain F _ _ hd] at h2
  rw [Oper.semAt_plain (F.inRound l) _ _ hd]
  exact h2
set_option maxRecDepth 100000 in
theorem wpOpIn_round {F : Fence} {n : Nat} {P : Program} {ops : Array Oper} {Q : Exit → Act → World → Prop} {i : Nat} {K K' : Act → World → Prop} {a : Act} {w : World} (l : Nat) (hd : ∀ o ∈ ops, ∀ c, o.op ≠ .defer c)
    (hK : ∀ a w, K a w → K' a w) (h : wpOpIn F n P ops Q i K a w) : wpOpIn (F.inRound l) n P ops Q i K' a w := by
  have h' := wpOpIn_mono hK h
  unfold wpOpIn at h' ⊢
  cases ho : ops[i]? with
  | none => rw [ho] at h'; exact h'
  | some o =>
    rw [ho] at h'
    by_cases hw : Region.wanted o (yielded ops a.tmps) = true
    · simp only [hw, if_true] at h' ⊢
      exact opIn_round l (hd o (Array.mem_of_getElem? ho)) h'
    · simp only [hw] at h' ⊢
      exact h'
set_option maxRecDepth 100000 in
/-- A region that defers nothing, in a round, is as outside. -/
theorem anyIn_round {F : Fence} {n : Nat} {P : Program} {md : Region.Mode} {ops : Array Oper} {Q : Exit → Act → World → Prop} (l : Nat) (hd : ∀ o ∈ ops, ∀ c, o.op ≠ .defer c) :
    ∀ (fuel : Nat) (listed : Array Bool) (a : Act) (w : World), wpAnyIn F n P md ops Q fuel listed a w → wpAnyIn (F.inRound l) n P md ops Q fuel listed a w := by
  intro fuel
  induction fuel with
  | zero => intro listed a w h; exact h
  | succ fuel ih =>
    intro listed a w h
    exact ⟨h.1, fun i hi => wpOpIn_round l hd (fun a w hk => ih _ a w hk) (h.2 i hi)⟩
end Go.Proofs.YtheheaflebkipaaGreatDoor.Ra
/- Plain facts on the stream's bytes and on texts under it. -/
namespace Go.Proofs.YtheheaflebkipaaGreatDoor.Ra
/-- A word, shifted by j bytes. -/
def shx (x : Int) (j : Nat) : Int := x / (256 : Int) ^ j
theorem shx_zero (x : Int) : shx x 0 = x := by simp [shx]
theorem shx_succ (x : Int) (j : Nat) : shx x (j + 1) = shx x j / 256 := by
  unfold shx
  rw [Int.pow_succ, Int.ediv_ediv_of_nonneg (Int.pow_nonneg (by decide))]
theorem b4_at (x : Int) (j : Nat) (h : j < 4) : (b4 x)[j]?.getD 0 = shx x j % 256 := by
  match j, h with
  | 0, _ => simp [b4, shx]
  | 1, _ => simp [b4, shx]
  | 2, _ => simp [b4, shx]
  | 3, _ => simp [b4, shx]
  | j + 4, h => exact absurd h (by omega)
/-- The bytes of words. -/
def kb (pre : List Int) : List Int := pre.flatMap b4
theorem kb_length (pre : List Int) : (kb pre).length = 4 * pre.length := by
  induction pre with
  | nil => rfl
  | cons x r ih => unfold kb at ih ⊢; rw [List.flatMap_cons, List.length_append, ih]; simp [b4]; omega
theorem kb_snoc (pre : List Int) (x : Int) : kb (pre ++ [x]) = kb pre ++ b4 x := by simp [kb]
/-- A text's byte under the bytes of words. -/
def xf (s : ByteArray) (pre : List Int) : Nat → Int := fun i => bits BinOp.xor IntKind.u8 (bt s i) (lf (kb pre) i)
theorem xf_prefix (s : ByteArray) {pre l : List Int} (h : pre <+: l) (i : Nat) (hi : i < 4 * pre.length) : xf s l i = xf s pre i := by
  obtain ⟨r, rfl⟩ := h
  unfold xf lf
  have e : kb (pre ++ r) = kb pre ++ kb r := by simp [kb]
  rw [e, List.getElem?_append_left (by rw [kb_length]; exact hi)]
theorem xf_at (s : ByteArray) (pre : List Int) (x : Int) (j : Nat) (h : j < 4) : xf s (pre ++ [x]) (4 * pre.length + j) = bits BinOp.xor IntKind.u8 (bt s (4 * pre.length + j)) (shx x j % 256) := by
  unfold xf lf
  rw [kb_snoc, List.getElem?_append_right (by rw [kb_length]; omega), kb_length, show 4 * pre.length + j - 4 * pre.length = j by omega, b4_at x j h]
theorem upto_congr {f g : Nat → Int} {k : Nat} (h : ∀ i, i < k → f i = g i) : upto f k = upto g k := by
  unfold upto
  exact List.map_congr_left fun i hi => h i (List.mem_range.1 hi)
theorem xf_snoc (s : ByteArray) (pre : List Int) (x : Int) : upto (xf s (pre ++ [x])) (4 * pre.length) = upto (xf s pre) (4 * pre.length) :=
  upto_congr fun i hi => xf_prefix s (List.prefix_append _ _) i hi
end Go.Proofs.YtheheaflebkipaaGreatDoor.Ra
