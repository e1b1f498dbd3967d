/- The reference: the page of bytes. -/
import Derived.Test.YtljponlfjombaaaPNY
import Derived.Test.YtljponlfjombaaaQNC
namespace Go.Proofs.Ytljponlfjombaaa.Rw
open Go.RowKit Go.Lib Go.Shelf
open Go.Proofs.Ytljponlfjombaaa.Rc Go.Proofs.Ytljponlfjombaaa.Rq
set_option maxRecDepth 100000 in
theorem dec_other {s : ByteArray} (h : s.size = 0 ∨ (bt s 0 ≠ 1 ∧ bt s 0 ≠ 2)) : decOK s = false := by
  have hr : rpp (rdP ⟨s, false⟩) = false := by
    have : rdP ⟨s, false⟩ = pz := by
      have hn : numS (⟨s, false⟩ : RS) 1 ≠ 1 ∧ numS (⟨s, false⟩ : RS) 1 ≠ 2 := by
        rw [sA_0]
        rcases Nat.eq_zero_or_pos s.size with h0 | h0
        · have : numS (sA s 0) 1 = 0 := by
            unfold numS
            rw [if_neg]
            unfold okN
            rw [decide_eq_false (by unfold sA; rw [sT_size, sA_len]; omega)]
            simp
          rw [this]; decide
        · rw [bt_sA h0]
          rcases h with h | h
          · omega
          · exact h
      unfold rdP
      rw [if_neg hn.1, if_neg hn.2]
    rw [this]
    decide
  unfold decOK
  rw [hr, Bool.and_false, Bool.and_false]
set_option maxRecDepth 100000 in
theorem res_is {s : ByteArray} {ok : Bool} {P : Pp} (h : Res s ok P) : (((ok = false ∨ rpp P = false) ∧ decE s = 90 ∧ decP s = pz) ∨ (ok = true ∧ rpp P = true ∧ decE s = 0 ∧ decP s = P)) := by
  obtain ⟨h1, h2⟩ := h
  unfold decE decP
  cases ok
  · have e : decOK s = false := by rw [h1]; rfl
    rw [e]
    exact .inl ⟨.inl rfl, rfl, rfl⟩
  · cases hr : rpp P
    · have e : decOK s = false := by rw [h1, hr]; rfl
      rw [e]
      exact .inl ⟨.inr rfl, rfl, rfl⟩
    · have e : decOK s = true := by rw [h1, hr]; rfl
      rw [e]
      exact .inr ⟨rfl, rfl, rfl, (h2 e).symm⟩
set_option maxRecDepth 100000 in
theorem rpp_pz : rpp pz = false := by decide
/-- Two boxes of pages, the answer's and the other one. -/
structure DJ (w : World) (cs : Array Value) (W : World) : Prop where
  res : W.heap[w.heap.size]? = some (.cells #[.int .i64 0, .int .u32 0, .int .u32 0, .int .i64 0, .slice none 0 0, .slice none 0 0, .int .u32 0, .string ⟨#[]⟩] 30 (0, 0))
  pag : W.heap[w.heap.size + 1]? = some (.cells cs 30 (0, 0))
  bel : Below w.heap.size w W
set_option maxRecDepth 100000 in
theorem DJ.below {w W W' : World} {cs : Array Value} (h : DJ w cs W) (hb : Below W.heap.size W W') : DJ w cs W' :=
  ⟨(hb.block _ (Array.getElem?_eq_some_iff.1 h.res).1).trans h.res, (hb.block _ (Array.getElem?_eq_some_iff.1 h.pag).1).trans h.pag, h.bel.trans (hb.mono h.bel.size)⟩
set_option maxRecDepth 100000 in
theorem DJ.row {w W : World} {cs cs' : Array Value} (h : DJ w cs W) : DJ w cs' (W.setRow (w.heap.size + 1) cs') :=
  ⟨(setRow_other _ _ _ _ (by omega)).trans h.res, setRow_heap _ _ _ _ _ _ h.pag, below_row h.bel (by omega) _⟩
set_option maxRecDepth 100000 in
set_option maxHeartbeats 4000000 in
theorem sdec_any (s : ByteArray) (w : World) :
    Calls Try.prog 19 #[.string s] w fun e w' => ∃ q, e = .returned (.tuple #[gv q, .int .i64 (decE s)]) ∧ PAt w' q (decP s) ∧ Below w.heap.size w w' := by
  have h1 := below_new w (.cells #[.int .i64 0, .int .u32 0, .int .u32 0, .int .i64 0, .slice none 0 0, .slice none 0 0, .int .u32 0, .string ⟨#[]⟩] 30)
  have h2 := below_new (w.alloc (.cells #[.int .i64 0, .int .u32 0, .int .u32 0, .int .i64 0, .slice none 0 0, .slice none 0 0, .int .u32 0, .string ⟨#[]⟩] 30)) (.cells #[.int .i64 0, .int .u32 0, .int .u32 0, .int .i64 0, .slice none 0 0, .slice none 0 0, .int .u32 0, .string ⟨#[]⟩] 30)
  have HJ0 : Hid (DJ w #[.int .i64 0, .int .u32 0, .int .u32 0, .int .i64 0, .slice none 0 0, .slice none 0 0, .int .u32 0, .string ⟨#[]⟩] ((w.alloc (.cells #[.int .i64 0, .int .u32 0, .int .u32 0, .int .i64 0, .slice none 0 0, .slice none 0 0, .int .u32 0, .string ⟨#[]⟩] 30)).alloc (.cells #[.int .i64 0, .int .u32 0, .int .u32 0, .int .i64 0, .slice none 0 0, .slice none 0 0, .int .u32 0, .string ⟨#[]⟩] 30))) := by
    refine (?_ : DJ w #[.int .i64 0, .int .u32 0, .int .u32 0, .int .i64 0, .slice none 0 0, .slice none 0 0, .int .u32 0, .string ⟨#[]⟩] ((w.alloc (.cells #[.int .i64 0, .int .u32 0, .int .u32 0, .int .i64 0, .slice none 0 0, .slice none 0 0, .int .u32 0, .string ⟨#[]⟩] 30)).alloc (.cells #[.int .i64 0, .int .u32 0, .int .u32 0, .int .i64 0, .slice none 0 0, .slice none 0 0, .int .u32 0, .string ⟨#[]⟩] 30)))
    refine ⟨(h2.block _ (by simp)).trans (heap_alloc_new w _), ?_, h1.trans (h2.mono h1.size)⟩
    have := heap_alloc_new (w.alloc (.cells #[.int .i64 0, .int .u32 0, .int .u32 0, .int .i64 0, .slice none 0 0, .slice none 0 0, .int .u32 0, .string ⟨#[]⟩] 30)) (.cells #[.int .i64 0, .int .u32 0, .int .u32 0, .int .i64 0, .slice none 0 0, .slice none 0 0, .int .u32 0, .string ⟨#[]⟩] 30)
    simpa using this
  have hs0 : ((w.alloc (.cells #[.int .i64 0, .int .u32 0, .int .u32 0, .int .i64 0, .slice none 0 0, .slice none 0 0, .int .u32 0, .string ⟨#[]⟩] 30)).alloc (.cells #[.int .i64 0, .int .u32 0, .int .u32 0, .int .i64 0, .slice none 0 0, .slice none 0 0, .int .u32 0, .string ⟨#[]⟩] 30)).heap.size = w.heap.size + 2 := by simp
  obtain ⟨W0, hW0⟩ : ∃ W0, (w.alloc (.cells #[.int .i64 0, .int .u32 0, .int .u32 0, .int .i64 0, .slice none 0 0, .slice none 0 0, .int .u32 0, .string ⟨#[]⟩] 30)).alloc (.cells #[.int .i64 0, .int .u32 0, .int .u32 0, .int .i64 0, .slice none 0 0, .slice none 0 0, .int .u32 0, .string ⟨#[]⟩] 30) = W0 := ⟨_, rfl⟩
  rw [hW0] at HJ0 hs0
  have HW0 : Hid _ := hW0
  clear h1 h2 hW0
  have hi : (Try.prog.info? 30).map (·.size) = some 8 := by kernel_rfl
  have HI : Hid _ := hi
  clear hi
  have HRT : Hid _ := sright_p
  by_cases h0 : 0 < s.size
  · have q0 : (0 : Int) < (s.size : Int) := by omega
    have hidx : ∀ w', (Instr.index 9 (.string s) (.int .i64 0)).run Try.prog w' = .ok (.int .u8 (bt s 0 : Int)) w' := fun w' => idx_s s 0 (by omega) w'
    by_cases hb : bt s 0 = 1
    · rw [hb] at hidx
      have HC : Hid (∀ _ : True, _) := fun _ => sleaf_any s h0 hb W0
      have HD : Hid (∀ ok P, Res s ok P → _) := fun ok P h => res_is (s := s) (ok := ok) (P := P) h
      generalize decE s = dE at *
      generalize decP s = dP at *
      clear h0
      go_enter Try.func19, Try.ntmps19
      go_wp2_with (first | (rw [HW0.out]; clear HW0) | ((refine wpList_store_row rfl 30 (.tmp 4) (.tmp 7) rfl (w.heap.size + 1) #[.int .i64 0, .int .u32 0, .int .u32 0, .int .i64 0, .slice none 0 0, .slice none 0 0, .int .u32 0, .string ⟨#[]⟩] (by rfl) (by rfl) 30 #[.int .i64 0, .int .u32 0, .int .u32 0, .int .i64 0, .slice none 0 0, .slice none 0 0, .int .u32 0, .string ⟨#[]⟩] HJ0.out.pag HI.out (by rfl) (by kernel_rfl) ?_); rw [setRow_self _ _ _ _ _ HJ0.out.pag]))
      refine (HC.out trivial).mono ?_
      rintro e w1 ⟨q, P, ok, rfl, ⟨hq, hlie⟩, hres, b1⟩
      have HJ1 : Hid _ := HJ0.out.below b1
      have HJ2 : Hid (DJ w _ (w1.setRow (w.heap.size + 1) _)) := HJ1.out.row (cs' := #[.int .i64 q.k, .int .u32 (q.X : Int), .int .u32 (q.Y : Int), .int .i64 q.L, .slice q.ro q.rn q.rc, .slice q.ko q.kn q.kc, .int .u32 (q.np : Int), .string q.nt])
      have HP2 : Hid (PAt (w1.setRow (w.heap.size + 1) #[.int .i64 q.k, .int .u32 (q.X : Int), .int .u32 (q.Y : Int), .int .i64 q.L, .slice q.ro q.rn q.rc, .slice q.ko q.kn q.kc, .int .u32 (q.np : Int), .string q.nt]) q P) := hq.row _ hlie.1 hlie.2 (by omega)
      have HRR : Hid _ := HD.out ok P hres
      have HLI : Hid _ := hlie
      clear hres b1 hq hlie HC HD HJ0
      obtain ⟨qk, qX, qY, qL, qro, qrn, qrc, qko, qkn, qkc, qnp, qnt⟩ := q
      simp only at HJ2 HP2 HLI
      have HG1 : Hid _ := HJ1.out.pag
      obtain ⟨W2, hW2⟩ : ∃ W2, w1.setRow (w.heap.size + 1) #[.int .i64 qk, .int .u32 (qX : Int), .int .u32 (qY : Int), .int .i64 qL, .slice qro qrn qrc, .slice qko qkn qkc, .int .u32 (qnp : Int), .string qnt] = W2 := ⟨_, rfl⟩
      rw [hW2] at HJ2 HP2
      have HW2 : Hid _ := hW2
      clear hW2
      obtain ⟨c0, c1, c2, c3, c4, c5, c6, c7⟩ := (pg_cells (q := ⟨qk, qX, qY, qL, qro, qrn, qrc, qko, qkn, qkc, qnp, qnt⟩) HJ2.out.pag).1
      simp only at c0 c1 c2 c3 c4 c5 c6 c7
      have HC3 : Hid (∀ _ : True, _) := fun _ => HRT.out ⟨qk, qX, qY, qL, qro, qrn, qrc, qko, qkn, qkc, qnp, qnt⟩ P W2 HP2.out
      simp only [gv] at HC3 ⊢
      go_wp2_with (refine wpList_store_row rfl 30 (.tmp 4) (.tmp 19) rfl (w.heap.size + 1) #[.int .i64 qk, .int .u32 (qX : Int), .int .u32 (qY : Int), .int .i64 qL, .slice qro qrn qrc, .slice qko qkn qkc, .int .u32 (qnp : Int), .string qnt] (by rfl) (by rfl) 30 #[.int .i64 0, .int .u32 0, .int .u32 0, .int .i64 0, .slice none 0 0, .slice none 0 0, .int .u32 0, .string ⟨#[]⟩] HG1.out HI.out (by rfl) (by kernel_rfl) ?_; rw [HW2.out])
      refine (HC3.out trivial).mono ?_
      rintro e w3 ⟨rfl, b3⟩
      have HJ3 : Hid _ := HJ2.out.below b3
      have HP3 : Hid _ := HP2.out.below b3 (Nat.le_refl _)
      clear b3 c0 c1 c2 c3 c4 c5 c6 c7
      rcases HRR.out with ⟨hor, rfl, rfl⟩ | ⟨rfl, hr, rfl, rfl⟩
      · have HOR : Hid _ := hor
        clear hor HRR
        cases ok
        · go_wp2_with (refine wpList_store_row rfl 30 (.tmp 2) (.tmp 42) rfl (w.heap.size) #[.int .i64 0, .int .u32 0, .int .u32 0, .int .i64 0, .slice none 0 0, .slice none 0 0, .int .u32 0, .string ⟨#[]⟩] (by rfl) (by rfl) 30 #[.int .i64 0, .int .u32 0, .int .u32 0, .int .i64 0, .slice none 0 0, .slice none 0 0, .int .u32 0, .string ⟨#[]⟩] HJ3.out.res HI.out (by rfl) (by kernel_rfl) ?_)
          refine bodyPost_ret (results_page2 rfl _ _ w.heap.size _ _ _ _ _ _ _ _ rfl rfl (setRow_heap _ _ _ _ _ _ HJ3.out.res)) rfl ?_
          exact ⟨⟨0, 0, 0, 0, none, 0, 0, none, 0, 0, 0, ⟨#[]⟩⟩, rfl, pz_at _, below_row HJ3.out.bel (Nat.le_refl _) _⟩
        · have hr : rpp P = false := by
            rcases HOR.out with h | h
            · cases h
            · exact h
          rw [hr]
          clear hr
          go_wp2_with (refine wpList_store_row rfl 30 (.tmp 2) (.tmp 42) rfl (w.heap.size) #[.int .i64 0, .int .u32 0, .int .u32 0, .int .i64 0, .slice none 0 0, .slice none 0 0, .int .u32 0, .string ⟨#[]⟩] (by rfl) (by rfl) 30 #[.int .i64 0, .int .u32 0, .int .u32 0, .int .i64 0, .slice none 0 0, .slice none 0 0, .int .u32 0, .string ⟨#[]⟩] HJ3.out.res HI.out (by rfl) (by kernel_rfl) ?_)
          refine bodyPost_ret (results_page2 rfl _ _ w.heap.size _ _ _ _ _ _ _ _ rfl rfl (setRow_heap _ _ _ _ _ _ HJ3.out.res)) rfl ?_
          exact ⟨⟨0, 0, 0, 0, none, 0, 0, none, 0, 0, 0, ⟨#[]⟩⟩, rfl, pz_at _, below_row HJ3.out.bel (Nat.le_refl _) _⟩
      · rw [hr]
        clear hr HRR
        obtain ⟨c0, c1, c2, c3, c4, c5, c6, c7⟩ := (pg_cells (q := ⟨qk, qX, qY, qL, qro, qrn, qrc, qko, qkn, qkc, qnp, qnt⟩) HJ3.out.pag).1
        simp only at c0 c1 c2 c3 c4 c5 c6 c7
        go_wp2_with (refine wpList_store_row rfl 30 (.tmp 2) (.tmp 43) rfl (w.heap.size) #[.int .i64 qk, .int .u32 (qX : Int), .int .u32 (qY : Int), .int .i64 qL, .slice qro qrn qrc, .slice qko qkn qkc, .int .u32 (qnp : Int), .string qnt] (by rfl) (by rfl) 30 #[.int .i64 0, .int .u32 0, .int .u32 0, .int .i64 0, .slice none 0 0, .slice none 0 0, .int .u32 0, .string ⟨#[]⟩] HJ3.out.res HI.out (by rfl) (by kernel_rfl) ?_)
        refine bodyPost_ret (results_page2 rfl _ _ w.heap.size _ _ _ _ _ _ _ _ rfl rfl (setRow_heap _ _ _ _ _ _ HJ3.out.res)) rfl ?_
        exact ⟨⟨qk, qX, qY, qL, qro, qrn, qrc, qko, qkn, qkc, qnp, qnt⟩, rfl, HP3.out.row _ HLI.out.1 HLI.out.2 (by omega), below_row HJ3.out.bel (Nat.le_refl _) _⟩
    · by_cases hb : bt s 0 = 2
      · rw [hb] at hidx
        have HC : Hid (∀ _ : True, _) := fun _ => sinner_any s h0 hb W0
        have HD : Hid (∀ ok P, Res s ok P → _) := fun ok P h => res_is (s := s) (ok := ok) (P := P) h
        generalize decE s = dE at *
        generalize decP s = dP at *
        clear h0
        go_enter Try.func19, Try.ntmps19
        go_wp2_with (first | (rw [HW0.out]; clear HW0) | ((refine wpList_store_row rfl 30 (.tmp 4) (.tmp 7) rfl (w.heap.size + 1) #[.int .i64 0, .int .u32 0, .int .u32 0, .int .i64 0, .slice none 0 0, .slice none 0 0, .int .u32 0, .string ⟨#[]⟩] (by rfl) (by rfl) 30 #[.int .i64 0, .int .u32 0, .int .u32 0, .int .i64 0, .slice none 0 0, .slice none 0 0, .int .u32 0, .string ⟨#[]⟩] HJ0.out.pag HI.out (by rfl) (by kernel_rfl) ?_); rw [setRow_self _ _ _ _ _ HJ0.out.pag]))
        refine (HC.out trivial).mono ?_
        rintro e w1 ⟨q, P, ok, rfl, ⟨hq, hlie⟩, hres, b1⟩
        have HJ1 : Hid _ := HJ0.out.below b1
        have HJ2 : Hid (DJ w _ (w1.setRow (w.heap.size + 1) _)) := HJ1.out.row (cs' := #[.int .i64 q.k, .int .u32 (q.X : Int), .int .u32 (q.Y : Int), .int .i64 q.L, .slice q.ro q.rn q.rc, .slice q.ko q.kn q.kc, .int .u32 (q.np : Int), .string q.nt])
        have HP2 : Hid (PAt (w1.setRow (w.heap.size + 1) #[.int .i64 q.k, .int .u32 (q.X : Int), .int .u32 (q.Y : Int), .int .i64 q.L, .slice q.ro q.rn q.rc, .slice q.ko q.kn q.kc, .int .u32 (q.np : Int), .string q.nt]) q P) := hq.row _ hlie.1 hlie.2 (by omega)
        have HRR : Hid _ := HD.out ok P hres
        have HLI : Hid _ := hlie
        clear hres b1 hq hlie HC HD HJ0
        obtain ⟨qk, qX, qY, qL, qro, qrn, qrc, qko, qkn, qkc, qnp, qnt⟩ := q
        simp only at HJ2 HP2 HLI
        have HG1 : Hid _ := HJ1.out.pag
        obtain ⟨W2, hW2⟩ : ∃ W2, w1.setRow (w.heap.size + 1) #[.int .i64 qk, .int .u32 (qX : Int), .int .u32 (qY : Int), .int .i64 qL, .slice qro qrn qrc, .slice qko qkn qkc, .int .u32 (qnp : Int), .string qnt] = W2 := ⟨_, rfl⟩
        rw [hW2] at HJ2 HP2
        have HW2 : Hid _ := hW2
        clear hW2
        obtain ⟨c0, c1, c2, c3, c4, c5, c6, c7⟩ := (pg_cells (q := ⟨qk, qX, qY, qL, qro, qrn, qrc, qko, qkn, qkc, qnp, qnt⟩) HJ2.out.pag).1
        simp only at c0 c1 c2 c3 c4 c5 c6 c7
        have HC3 : Hid (∀ _ : True, _) := fun _ => HRT.out ⟨qk, qX, qY, qL, qro, qrn, qrc, qko, qkn, qkc, qnp, qnt⟩ P W2 HP2.out
        simp only [gv] at HC3 ⊢
        go_wp2_with (refine wpList_store_row rfl 30 (.tmp 4) (.tmp 32) rfl (w.heap.size + 1) #[.int .i64 qk, .int .u32 (qX : Int), .int .u32 (qY : Int), .int .i64 qL, .slice qro qrn qrc, .slice qko qkn qkc, .int .u32 (qnp : Int), .string qnt] (by rfl) (by rfl) 30 #[.int .i64 0, .int .u32 0, .int .u32 0, .int .i64 0, .slice none 0 0, .slice none 0 0, .int .u32 0, .string ⟨#[]⟩] HG1.out HI.out (by rfl) (by kernel_rfl) ?_; rw [HW2.out])
        refine (HC3.out trivial).mono ?_
        rintro e w3 ⟨rfl, b3⟩
        have HJ3 : Hid _ := HJ2.out.below b3
        have HP3 : Hid _ := HP2.out.below b3 (Nat.le_refl _)
        clear b3 c0 c1 c2 c3 c4 c5 c6 c7
        rcases HRR.out with ⟨hor, rfl, rfl⟩ | ⟨rfl, hr, rfl, rfl⟩
        · have HOR : Hid _ := hor
          clear hor HRR
          cases ok
          · go_wp2_with (refine wpList_store_row rfl 30 (.tmp 2) (.tmp 42) rfl (w.heap.size) #[.int .i64 0, .int .u32 0, .int .u32 0, .int .i64 0, .slice none 0 0, .slice none 0 0, .int .u32 0, .string ⟨#[]⟩] (by rfl) (by rfl) 30 #[.int .i64 0, .int .u32 0, .int .u32 0, .int .i64 0, .slice none 0 0, .slice none 0 0, .int .u32 0, .string ⟨#[]⟩] HJ3.out.res HI.out (by rfl) (by kernel_rfl) ?_)
            refine bodyPost_ret (results_page2 rfl _ _ w.heap.size _ _ _ _ _ _ _ _ rfl rfl (setRow_heap _ _ _ _ _ _ HJ3.out.res)) rfl ?_
            exact ⟨⟨0, 0, 0, 0, none, 0, 0, none, 0, 0, 0, ⟨#[]⟩⟩, rfl, pz_at _, below_row HJ3.out.bel (Nat.le_refl _) _⟩
          · have hr : rpp P = false := by
              rcases HOR.out with h | h
              · cases h
              · exact h
            rw [hr]
            clear hr
            go_wp2_with (refine wpList_store_row rfl 30 (.tmp 2) (.tmp 42) rfl (w.heap.size) #[.int .i64 0, .int .u32 0, .int .u32 0, .int .i64 0, .slice none 0 0, .slice none 0 0, .int .u32 0, .string ⟨#[]⟩] (by rfl) (by rfl) 30 #[.int .i64 0, .int .u32 0, .int .u32 0, .int .i64 0, .slice none 0 0, .slice none 0 0, .int .u32 0, .string ⟨#[]⟩] HJ3.out.res HI.out (by rfl) (by kernel_rfl) ?_)
            refine bodyPost_ret (results_page2 rfl _ _ w.heap.size _ _ _ _ _ _ _ _ rfl rfl (setRow_heap _ _ _ _ _ _ HJ3.out.res)) rfl ?_
            exact ⟨⟨0, 0, 0, 0, none, 0, 0, none, 0, 0, 0, ⟨#[]⟩⟩, rfl, pz_at _, below_row HJ3.out.bel (Nat.le_refl _) _⟩
        · rw [hr]
          clear hr HRR
          obtain ⟨c0, c1, c2, c3, c4, c5, c6, c7⟩ := (pg_cells (q := ⟨qk, qX, qY, qL, qro, qrn, qrc, qko, qkn, qkc, qnp, qnt⟩) HJ3.out.pag).1
          simp only at c0 c1 c2 c3 c4 c5 c6 c7
          go_wp2_with (refine wpList_store_row rfl 30 (.tmp 2) (.tmp 43) rfl (w.heap.size) #[.int .i64 qk, .int .u32 (qX : Int), .int .u32 (qY : Int), .int .i64 qL, .slice qro qrn qrc, .slice qko qkn qkc, .int .u32 (qnp : Int), .string qnt] (by rfl) (by rfl) 30 #[.int .i64 0, .int .u32 0, .int .u32 0, .int .i64 0, .slice none 0 0, .slice none 0 0, .int .u32 0, .string ⟨#[]⟩] HJ3.out.res HI.out (by rfl) (by kernel_rfl) ?_)
          refine bodyPost_ret (results_page2 rfl _ _ w.heap.size _ _ _ _ _ _ _ _ rfl rfl (setRow_heap _ _ _ _ _ _ HJ3.out.res)) rfl ?_
          exact ⟨⟨qk, qX, qY, qL, qro, qrn, qrc, qko, qkn, qkc, qnp, qnt⟩, rfl, HP3.out.row _ HLI.out.1 HLI.out.2 (by omega), below_row HJ3.out.bel (Nat.le_refl _) _⟩
      · have hoth : s.size = 0 ∨ (bt s 0 ≠ 1 ∧ bt s 0 ≠ 2) := .inr ⟨by assumption, by assumption⟩
        have n1 : ((bt s 0 : Int) == 1) = false := by simp; omega
        have n2 : ((bt s 0 : Int) == 2) = false := by simp; omega
        have e1 : decE s = 90 := by unfold decE; rw [dec_other hoth]; rfl
        have e2 : decP s = pz := by unfold decP; rw [dec_other hoth]; rfl
        rw [e1, e2]
        have HC : Hid (∀ _ : True, _) := fun _ => HRT.out ⟨0, 0, 0, 0, none, 0, 0, none, 0, 0, 0, ⟨#[]⟩⟩ pz W0 (pz_at _)
        rw [rpp_pz] at HC
        obtain ⟨c0, c1, c2, c3, c4, c5, c6, c7⟩ := (pg_cells (q := ⟨0, 0, 0, 0, none, 0, 0, none, 0, 0, 0, ⟨#[]⟩⟩) HJ0.out.pag).1
        simp only at c0 c1 c2 c3 c4 c5 c6 c7
        simp only [gv] at HC
        clear e1 e2 hoth
        go_enter Try.func19, Try.ntmps19
        go_wp2_with (first | (rw [HW0.out]; clear HW0) | ((refine wpList_store_row rfl 30 (.tmp 4) (.tmp 7) rfl (w.heap.size + 1) #[.int .i64 0, .int .u32 0, .int .u32 0, .int .i64 0, .slice none 0 0, .slice none 0 0, .int .u32 0, .string ⟨#[]⟩] (by rfl) (by rfl) 30 #[.int .i64 0, .int .u32 0, .int .u32 0, .int .i64 0, .slice none 0 0, .slice none 0 0, .int .u32 0, .string ⟨#[]⟩] HJ0.out.pag HI.out (by rfl) (by kernel_rfl) ?_); rw [setRow_self _ _ _ _ _ HJ0.out.pag]))
        refine (HC.out trivial).mono ?_
        rintro e w3 ⟨rfl, b3⟩
        have HJ3 : Hid _ := HJ0.out.below b3
        clear b3 c0 c1 c2 c3 c4 c5 c6 c7
        go_wp2_with (refine wpList_store_row rfl 30 (.tmp 2) (.tmp 42) rfl (w.heap.size) #[.int .i64 0, .int .u32 0, .int .u32 0, .int .i64 0, .slice none 0 0, .slice none 0 0, .int .u32 0, .string ⟨#[]⟩] (by rfl) (by rfl) 30 #[.int .i64 0, .int .u32 0, .int .u32 0, .int .i64 0, .slice none 0 0, .slice none 0 0, .int .u32 0, .string ⟨#[]⟩] HJ3.out.res HI.out (by rfl) (by kernel_rfl) ?_)
        refine bodyPost_ret (results_page2 rfl _ _ w.heap.size _ _ _ _ _ _ _ _ rfl rfl (setRow_heap _ _ _ _ _ _ HJ3.out.res)) rfl ?_
        exact ⟨⟨0, 0, 0, 0, none, 0, 0, none, 0, 0, 0, ⟨#[]⟩⟩, rfl, pz_at _, below_row HJ3.out.bel (Nat.le_refl _) _⟩
  · have q0 : ¬ (0 : Int) < (s.size : Int) := by omega
    have hoth : s.size = 0 ∨ (bt s 0 ≠ 1 ∧ bt s 0 ≠ 2) := .inl (by omega)
    have e1 : decE s = 90 := by unfold decE; rw [dec_other hoth]; rfl
    have e2 : decP s = pz := by unfold decP; rw [dec_other hoth]; rfl
    rw [e1, e2]
    have HC : Hid (∀ _ : True, _) := fun _ => HRT.out ⟨0, 0, 0, 0, none, 0, 0, none, 0, 0, 0, ⟨#[]⟩⟩ pz W0 (pz_at _)
    rw [rpp_pz] at HC
    obtain ⟨c0, c1, c2, c3, c4, c5, c6, c7⟩ := (pg_cells (q := ⟨0, 0, 0, 0, none, 0, 0, none, 0, 0, 0, ⟨#[]⟩⟩) HJ0.out.pag).1
    simp only at c0 c1 c2 c3 c4 c5 c6 c7
    simp only [gv] at HC
    clear e1 e2 hoth
    go_enter Try.func19, Try.ntmps19
    go_wp2_with (first | (rw [HW0.out]; clear HW0) | ((refine wpList_store_row rfl 30 (.tmp 4) (.tmp 7) rfl (w.heap.size + 1) #[.int .i64 0, .int .u32 0, .int .u32 0, .int .i64 0, .slice none 0 0, .slice none 0 0, .int .u32 0, .string ⟨#[]⟩] (by rfl) (by rfl) 30 #[.int .i64 0, .int .u32 0, .int .u32 0, .int .i64 0, .slice none 0 0, .slice none 0 0, .int .u32 0, .string ⟨#[]⟩] HJ0.out.pag HI.out (by rfl) (by kernel_rfl) ?_); rw [setRow_self _ _ _ _ _ HJ0.out.pag]))
    refine (HC.out trivial).mono ?_
    rintro e w3 ⟨rfl, b3⟩
    have HJ3 : Hid _ := HJ0.out.below b3
    clear b3 c0 c1 c2 c3 c4 c5 c6 c7
    go_wp2_with (refine wpList_store_row rfl 30 (.tmp 2) (.tmp 42) rfl (w.heap.size) #[.int .i64 0, .int .u32 0, .int .u32 0, .int .i64 0, .slice none 0 0, .slice none 0 0, .int .u32 0, .string ⟨#[]⟩] (by rfl) (by rfl) 30 #[.int .i64 0, .int .u32 0, .int .u32 0, .int .i64 0, .slice none 0 0, .slice none 0 0, .int .u32 0, .string ⟨#[]⟩] HJ3.out.res HI.out (by rfl) (by kernel_rfl) ?_)
    refine bodyPost_ret (results_page2 rfl _ _ w.heap.size _ _ _ _ _ _ _ _ rfl rfl (setRow_heap _ _ _ _ _ _ HJ3.out.res)) rfl ?_
    exact ⟨⟨0, 0, 0, 0, none, 0, 0, none, 0, 0, 0, ⟨#[]⟩⟩, rfl, pz_at _, below_row HJ3.out.bel (Nat.le_refl _) _⟩
end Go.Proofs.Ytljponlfjombaaa.Rw
