import Derived.Test.YtnedbakgaggdaaaDoorI
namespace Go.Proofs.YtnedbakgaggdaaaDoor
open Go.RowKit Go.Shelf
attribute [local go_sem] Oper.semAt_some
/-- stream: the state and the number are boxed; the function value captures the boxes. -/
theorem stream_any (f : Nat → Int) (N : Int) (w : World) :
    Calls Tryd.prog 26 #[.agg (stc f), .int .i64 N] w fun e w' => e = .returned (.func (.func 30) #[] #[.pointer (some ⟨w.heap.size + 1, 0, none⟩), .pointer (some ⟨w.heap.size, 0, none⟩)]) ∧ w' = (w.alloc (.cells (stc f) 41)).alloc (.cells #[.int .i64 N] 3) := by
  go_enter Tryd.func26, Tryd.ntmps26
  go_wp2
  go_ret
  exact ⟨rfl, rfl⟩
theorem two_below {w w' : World} {a b : Obj} (h : w' = (w.alloc a).alloc b) : Below w.heap.size w w' := by
  rw [h]; exact ((Below.refl _ w).alloc (Nat.le_refl _) _).alloc (by simp) _
/-- The words of the first C blocks. -/
def strm (f : Nat → Int) (C : Nat) : List Int := cat (fun c => upto (blk (upd f 12 (c : Int))) 16) C
theorem strm_lt (f : Nat → Int) (C c k : Nat) (hc : c < C) (hk : k < 16) :
    (strm f c ++ upto (blk (upd f 12 (c : Int))) k).length < (strm f C).length ∧
    strm f c ++ upto (blk (upd f 12 (c : Int))) k ++ [blk (upd f 12 (c : Int)) k] <+: strm f C := by
  have h2 : strm f c ++ upto (blk (upd f 12 (c : Int))) k ++ [blk (upd f 12 (c : Int)) k] <+: strm f C := by
    rw [List.append_assoc, ← upto_succ]
    refine List.IsPrefix.trans ?_ (cat_prefix _ (show c + 1 ≤ C from hc))
    rw [cat_succ]
    exact (List.prefix_append_right_inj _).2 (upto_prefix _ (by omega))
  exact ⟨by have := h2.length_le; simp at this ⊢; omega, h2⟩
/-- What the stream's iterator reads between two rounds is as it was: its state, and the table. -/
def Kst (Bs : Nat) (A B : World) : Prop := B.heap[Bs]? = A.heap[Bs]? ∧ B.heap[0]? = A.heap[0]?
theorem Kst.refl (Bs : Nat) (A : World) : Kst Bs A A := ⟨rfl, rfl⟩
theorem Kst.trans {Bs : Nat} {A B C : World} (h : Kst Bs A B) (k : Kst Bs B C) : Kst Bs A C := ⟨k.1.trans h.1, k.2.trans h.2⟩
theorem Kst.below {Bs : Nat} {A B : World} (h : Below A.heap.size A B) (h1 : Bs < A.heap.size) : Kst Bs A B := ⟨h.block _ h1, h.block _ (by omega)⟩
set_option maxRecDepth 100000 in
set_option maxHeartbeats 1000000 in
theorem stream1_in (n : Nat) (hn : 1 ≤ n) (l Bn Bs : Nat) (f : Nat → Int) (N : Nat) (hN : N ≤ 1048576) {tt : TypeId} {fr : Nat × Nat} (J Jx : List Int → World → Prop)
    (hJ : ∀ pre W W', J pre W → Below W.heap.size W W' → J pre W')
    (hY : ∀ pre x W, J pre W → pre.length < (strm f ((N + 63) / 64)).length → YieldAt Fence.wide (n - 1) Tryd.prog l #[.int .u32 x] W fun e W' =>
      (e = .returned (.bool true) ∧ J (pre ++ [x]) W' ∧ Kst Bs W W') ∨ (e = .returned (.bool false) ∧ Jx (pre ++ [x]) W'))
    (W : World) (hcn : W.cell? ⟨Bn, 0, none⟩ = some (.int .i64 (N : Int))) (hs : W.heap[Bs]? = some (.cells (stc f) 41 (0, 0))) (ht : W.heap[0]? = some (.cells tab tt fr)) (h0 : J [] W) :
    CallsIn Fence.wide n Tryd.prog 30 #[.func (.yield l) #[] #[], .pointer (some ⟨Bn, 0, none⟩), .pointer (some ⟨Bs, 0, none⟩)] W fun e W' => (∃ v, e = .returned v) ∧
      ((∃ ys, ys = strm f ((N + 63) / 64) ∧ J ys W') ∨ (∃ pre, pre <+: strm f ((N + 63) / 64) ∧ Jx pre W')) := by
  have HY : Hid _ := hY
  have HJ : Hid _ := hJ
  have HS : Hid _ := hs
  have HT : Hid _ := ht
  clear hY hJ hs ht
  obtain ⟨C, hC⟩ : ∃ C, (N + 63) / 64 = C := ⟨_, rfl⟩
  rw [hC] at HY ⊢
  have g0 : (0 : Int) ≤ (N : Int) := by omega
  have g1 : (N : Int) ≤ 1048576 := by omega
  have HC : Hid _ := hC
  clear hC
  refine callsIn_of_wp Tryd.func30 rfl trivial ?_ rfl
  simp only [Tryd.ntmps30, List.size_toArray, List.length_cons, List.length_nil, Nat.reduceAdd, Nat.reduceSub, Array.replicate_succ, Array.replicate_zero, List.push_toArray, List.append_toArray, List.nil_append, List.cons_append]
  gi_wp2
  have hC := HC.out
  rw [show ((N : Int) + 64 - 1) / 64 = (C : Int) by omega]
  have hC2 : (C : Int) ≤ 16384 := by omega
  clear HC hC g0 g1 hN hcn
  gi_loopw [12] (fun i wr => ∃ c : Nat, c ≤ C ∧ i = .int .u32 c ∧ J (strm f c) wr ∧ Kst Bs W wr) (fun i _ => C - (intOf i).toNat)
  case atStart => exact ⟨0, Nat.zero_le _, rfl, h0, Kst.refl _ _⟩
  case round =>
    clear h0
    obtain ⟨c, hc, rfl, hJs, hnx⟩ := hrel
    have c0 : (0 : Int) ≤ (c : Int) := by omega
    have c1 : (c : Int) ≤ 16384 := by omega
    by_cases hlt : c < C
    · have HS1 : Hid (wr.heap[Bs]? = some (.cells (stc f) 41 (0, 0))) := hnx.1.trans HS.out
      have HT1 : Hid (wr.heap[0]? = some (.cells tab tt fr)) := hnx.2.trans HT.out
      have HP : Hid _ := fun k hk => strm_lt f C c k hlt hk
      have HSN : Hid (strm f (c + 1) = strm f c ++ upto (blk (upd f 12 (c : Int))) 16) := cat_succ _ _
      have HJs : Hid _ := hJs
      have HNX : Hid _ := hnx
      have hwz : 0 < wr.heap.size := (Array.getElem?_eq_some_iff.1 HT1.out).1
      clear hJs hnx
      gi_wp2_with (first
        | (refine wpListIn_load_row rfl 41 _ rfl Bs rfl 41 _ (0, 0) _ HS1.out Tryd.underlying41 rfl (by rw [stc_size]; kernel_rfl) ?_)
        | (refine ⟨trivial, ?_⟩; gi_at_call 22; refine (callsIn_wide.2 (at_any _ _ _)).mono ?_; rintro e w2 ⟨rfl, hw2⟩; have hb2 : Below wr.heap.size wr w2 := two_below hw2; clear hw2))
      refine ⟨trivial, ?_⟩
      refine (callsIn_wide.2 (block_any _ _ ((hb2.block 0 hwz).trans HT1.out))).mono ?_
      rintro e w3 ⟨rfl, hb3⟩
      have hb13 : Below wr.heap.size wr w3 := hb2.trans (hb3.mono hb2.size)
      have hJ3 := HJ.out _ _ _ HJs.out hb13
      have hn3 : Kst Bs W w3 := Kst.trans HNX.out (Kst.below hb13 (Array.getElem?_eq_some_iff.1 HS1.out).1)
      clear hb2 hb3 hb13 HJs HNX HS1 HT1 hwz
      generalize hG : blk (upd f 12 (c : Int)) = G at *
      clear hG
      generalize strm f c = P0 at *
      gi_wp2
      gi_loopw [19] (fun i wr => ∃ k : Nat, k ≤ 16 ∧ i = .int .i64 k ∧ J (P0 ++ upto G k) wr ∧ Kst Bs W wr) (fun i _ => 16 - (intOf i).toNat)
      case atStart => exact ⟨0, by omega, rfl, by simpa [upto] using hJ3, hn3⟩
      case round =>
        clear hJ3 hn3
        obtain ⟨k, hk, rfl, hJs, hnx⟩ := hrel
        have k0 : (0 : Int) ≤ (k : Int) := by omega
        by_cases hk16 : k < 16
        · have k1 : (k : Int) < 16 := by omega
          have hix := idx_k G k hk16
          obtain ⟨fn, tmps, assign, body, hy, hR⟩ := HY.out (P0 ++ upto G k) (G k) wr hJs (HP.out k hk16).1
          clear hJs
          have HN : Hid _ := hnx
          clear hnx
          gi_wp2
          refine hR.mono ?_
          rintro e W3 (⟨rfl, hJ3, hk3⟩ | ⟨rfl, hJx3⟩)
          · gi_wp2
            go_roundw
            case rel => exact ⟨k + 1, by omega, by go_num, by rw [upto_succ, ← List.append_assoc]; exact hJ3, Kst.trans HN.out hk3⟩
            case measure => simp [intOf]; omega
          · gi_wp2
            refine bodyPost_ret (results_none rfl _ _ _) rfl ?_
            exact ⟨⟨_, rfl⟩, .inr ⟨_, (HP.out k hk16).2, hJx3⟩⟩
        · obtain rfl : k = 16 := by omega
          gi_wp2
          go_roundw
          case rel => exact ⟨c + 1, by omega, by go_num, by rw [HSN.out]; exact hJs, hnx⟩
          case measure => simp [intOf]; omega
    · obtain rfl : c = C := by omega
      gi_wp2
      go_end0
      exact ⟨⟨_, rfl⟩, .inl ⟨_, rfl, hJs⟩⟩
end Go.Proofs.YtnedbakgaggdaaaDoor
