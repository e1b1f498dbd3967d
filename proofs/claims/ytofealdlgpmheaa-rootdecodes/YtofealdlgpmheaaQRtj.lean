/- The next root: what Next tells, of the program and of the reference. -/
import Derived.Test.YtofealdlgpmheaaQRth
namespace Go.Proofs.Ytofealdlgpmheaa.Ro
open Go.RowKit Go.Lib Go.Shelf
open Go.Proofs.Ytofealdlgpmheaa.Rc Go.Proofs.Ytofealdlgpmheaa.Rq
/-- What the next root is; what is told. -/
def nxE (c g : Nat) (i : Int) (p : Nat) (t : ByteArray) : Int := if c = 18446744073709551615 then 72 else if i < 0 ∨ 1000 < i then 120 else if rrt ⟨c + 1, g, i.toNat, p, t⟩ = true then 0 else 120
def nxR (c g : Nat) (i : Int) (p : Nat) (t : ByteArray) : Rt := if c = 18446744073709551615 then zeroR else if i < 0 ∨ 1000 < i then zeroR else if rrt ⟨c + 1, g, i.toNat, p, t⟩ = true then ⟨c + 1, g, i.toNat, p, t⟩ else zeroR
abbrev rfv (p : Nat) (t : ByteArray) : Value := .agg #[.int .u32 (p : Int), .string t]
def NP (c g : Nat) (i : Int) (p : Nat) (t : ByteArray) (w : World) (e : Ending) (w' : World) : Prop := e = .returned (.tuple #[rtv (nxR c g i p t), .int .i64 (nxE c g i p t)]) ∧ Below w.heap.size w w'
set_option maxRecDepth 100000 in
theorem zero_w (w : World) (p : Nat) (t : ByteArray) : ((w.alloc (.cells #[.int .u32 (p : Int), .string t] 25)).alloc (.cells #[.int .u64 0, .int .u32 0, .int .u32 0, .int .u32 0, .string ⟨#[]⟩] 27)).heap[w.heap.size + 1]? = some (.cells #[.int .u64 0, .int .u32 0, .int .u32 0, .int .u32 0, .string ⟨#[]⟩] 27 (0, 0)) ∧
    Below w.heap.size w ((w.alloc (.cells #[.int .u32 (p : Int), .string t] 25)).alloc (.cells #[.int .u64 0, .int .u32 0, .int .u32 0, .int .u32 0, .string ⟨#[]⟩] 27)) ∧ ((w.alloc (.cells #[.int .u32 (p : Int), .string t] 25)).alloc (.cells #[.int .u64 0, .int .u32 0, .int .u32 0, .int .u32 0, .string ⟨#[]⟩] 27)).heap[w.heap.size]? = some (.cells #[.int .u32 (p : Int), .string t] 25 (0, 0)) := by
  obtain ⟨h1, h2, h3⟩ := two_new w (.cells #[.int .u32 (p : Int), .string t] 25) (.cells #[.int .u64 0, .int .u32 0, .int .u32 0, .int .u32 0, .string ⟨#[]⟩] 27)
  exact ⟨h2, h3, h1⟩
set_option maxRecDepth 100000 in
set_option maxHeartbeats 2000000 in
theorem rNext_max (c g : Nat) (i : Int) (p : Nat) (t : ByteArray) (w : World) (hc : c = 18446744073709551615) : Calls Try.prog 18 #[.int .u64 (c : Int), .int .u32 (g : Int), .int .i64 i, rfv p t] w (NP c g i p t w) := by
  have hE : nxE c g i p t = 72 ∧ rtv (nxR c g i p t) = .agg #[.int .u64 0, .int .u32 0, .int .u32 0, .int .u32 0, .string ⟨#[]⟩] := by
    unfold nxE nxR
    rw [if_pos hc, if_pos hc]
    exact ⟨rfl, rfl⟩
  subst hc
  unfold NP
  rw [hE.1, hE.2]
  clear hE
  obtain ⟨hg, hb, -⟩ := zero_w w p t
  have HG : Hid _ := hg
  have HB : Hid _ := hb
  have l1 : w.heap.size + 1 < ((w.alloc (.cells #[.int .u32 (p : Int), .string t] 25)).alloc (.cells #[.int .u64 0, .int .u32 0, .int .u32 0, .int .u32 0, .string ⟨#[]⟩] 27)).heap.size := (Array.getElem?_eq_some_iff.1 hg).1
  clear hg hb
  go_enter Try.func18, Try.ntmps18
  go_wp2_with fail
  exact bodyPost_ret (results_root2 rfl _ _ (w.heap.size + 1) _ _ _ _ _ rfl rfl HG.out) rfl ⟨rfl, HB.out⟩
set_option maxRecDepth 100000 in
set_option maxHeartbeats 2000000 in
theorem rNext_neg (c g : Nat) (i : Int) (p : Nat) (t : ByteArray) (w : World) (hc : ¬ c = 18446744073709551615) (h : i < 0) : Calls Try.prog 18 #[.int .u64 (c : Int), .int .u32 (g : Int), .int .i64 i, rfv p t] w (NP c g i p t w) := by
  have hE : nxE c g i p t = 120 ∧ rtv (nxR c g i p t) = .agg #[.int .u64 0, .int .u32 0, .int .u32 0, .int .u32 0, .string ⟨#[]⟩] := by
    unfold nxE nxR
    rw [if_neg hc, if_neg hc, if_pos (by omega), if_pos (by omega)]
    exact ⟨rfl, rfl⟩
  have q0 : ((c : Int) == 18446744073709551615) = false := by simp; omega
  unfold NP
  rw [hE.1, hE.2]
  clear hE hc
  have q1 : i < 0 := h
  obtain ⟨hg, hb, -⟩ := zero_w w p t
  have HG : Hid _ := hg
  have HB : Hid _ := hb
  have l1 : w.heap.size + 1 < ((w.alloc (.cells #[.int .u32 (p : Int), .string t] 25)).alloc (.cells #[.int .u64 0, .int .u32 0, .int .u32 0, .int .u32 0, .string ⟨#[]⟩] 27)).heap.size := (Array.getElem?_eq_some_iff.1 hg).1
  clear hg hb
  go_enter Try.func18, Try.ntmps18
  go_wp2_with fail
  exact bodyPost_ret (results_root2 rfl _ _ (w.heap.size + 1) _ _ _ _ _ rfl rfl HG.out) rfl ⟨rfl, HB.out⟩
set_option maxRecDepth 100000 in
set_option maxHeartbeats 2000000 in
theorem rNext_big (c g : Nat) (i : Int) (p : Nat) (t : ByteArray) (w : World) (hc : ¬ c = 18446744073709551615) (h : 1000 < i) : Calls Try.prog 18 #[.int .u64 (c : Int), .int .u32 (g : Int), .int .i64 i, rfv p t] w (NP c g i p t w) := by
  have hE : nxE c g i p t = 120 ∧ rtv (nxR c g i p t) = .agg #[.int .u64 0, .int .u32 0, .int .u32 0, .int .u32 0, .string ⟨#[]⟩] := by
    unfold nxE nxR
    rw [if_neg hc, if_neg hc, if_pos (by omega), if_pos (by omega)]
    exact ⟨rfl, rfl⟩
  have q0 : ((c : Int) == 18446744073709551615) = false := by simp; omega
  unfold NP
  rw [hE.1, hE.2]
  clear hE hc
  have q1 : ¬ i < 0 := by omega
  have q2 : 1000 < i := h
  obtain ⟨hg, hb, -⟩ := zero_w w p t
  have HG : Hid _ := hg
  have HB : Hid _ := hb
  have l1 : w.heap.size + 1 < ((w.alloc (.cells #[.int .u32 (p : Int), .string t] 25)).alloc (.cells #[.int .u64 0, .int .u32 0, .int .u32 0, .int .u32 0, .string ⟨#[]⟩] 27)).heap.size := (Array.getElem?_eq_some_iff.1 hg).1
  clear hg hb
  go_enter Try.func18, Try.ntmps18
  go_wp2_with fail
  exact bodyPost_ret (results_root2 rfl _ _ (w.heap.size + 1) _ _ _ _ _ rfl rfl HG.out) rfl ⟨rfl, HB.out⟩
set_option maxRecDepth 100000 in
set_option maxHeartbeats 4000000 in
theorem rNext_in (c g : Nat) (i : Int) (p : Nat) (t : ByteArray) (w : World) (hc : c < 18446744073709551615) (h0 : 0 ≤ i) (h1 : i ≤ 1000) : Calls Try.prog 18 #[.int .u64 (c : Int), .int .u32 (g : Int), .int .i64 i, rfv p t] w (NP c g i p t w) := by
  obtain ⟨n, rfl⟩ : ∃ n : Nat, i = (n : Int) := ⟨i.toNat, by omega⟩
  have hE : nxE c g (n : Int) p t = (if rrt ⟨c + 1, g, n, p, t⟩ = true then 0 else 120) ∧ nxR c g (n : Int) p t = if rrt ⟨c + 1, g, n, p, t⟩ = true then ⟨c + 1, g, n, p, t⟩ else zeroR := by
    have a1 : ¬ c = 18446744073709551615 := by omega
    have a2 : ¬ ((n : Int) < 0 ∨ 1000 < (n : Int)) := by omega
    unfold nxE nxR
    rw [if_neg a1, if_neg a2, if_neg a1, if_neg a2, Int.toNat_natCast]
    exact ⟨rfl, rfl⟩
  unfold NP
  rw [hE.1, hE.2]
  clear hE
  obtain ⟨k, hk⟩ : ∃ k : Nat, c + 1 = k := ⟨_, rfl⟩
  have HR : Hid (∀ W : World, Calls Try.prog 13 #[.agg #[.int .u64 (k : Int), .int .u32 (g : Int), .int .u32 (n : Int), .int .u32 (p : Int), .string t]] W fun e w' => e = .returned (.bool (rrt ⟨k, g, n, p, t⟩)) ∧ Below W.heap.size W w') := right_any ⟨k, g, n, p, t⟩
  rw [hk]
  obtain ⟨b, hb⟩ : ∃ b, rrt ⟨k, g, n, p, t⟩ = b := ⟨_, rfl⟩
  rw [hb] at HR ⊢
  have q0 : ((c : Int) == 18446744073709551615) = false := by simp; omega
  have q1 : ¬ (n : Int) < 0 := by omega
  have q2 : ¬ 1000 < (n : Int) := by omega
  have q3 : IntKind.u64.wrap ((c : Int) + 1) = (k : Int) := by rw [IntKind.wrap_u64]; omega
  have q4 : IntKind.u32.wrap (n : Int) = (n : Int) := by rw [IntKind.wrap_u32]; omega
  obtain ⟨hg, hbw, hrf⟩ := zero_w w p t
  obtain ⟨W2, hW2⟩ : ∃ W2, ((w.alloc (.cells #[.int .u32 (p : Int), .string t] 25)).alloc (.cells #[.int .u64 0, .int .u32 0, .int .u32 0, .int .u32 0, .string ⟨#[]⟩] 27)) = W2 := ⟨_, rfl⟩
  rw [hW2] at hg hbw hrf
  have HW2 : Hid _ := hW2
  have HG : Hid (W2.heap[w.heap.size + 1]? = some (.cells #[.int .u64 0, .int .u32 0, .int .u32 0, .int .u32 0, .string ⟨#[]⟩] 27 (0, 0))) := hg
  have HB : Hid (Below w.heap.size w W2) := hbw
  have l1 : w.heap.size + 1 < W2.heap.size := (Array.getElem?_eq_some_iff.1 hg).1
  have c0 : W2.cell? ⟨w.heap.size, 0, none⟩ = some (.int .u32 (p : Int)) := by rw [cell_of_row _ _ _ _ _ _ hrf]; rfl
  have c1 : W2.cell? ⟨w.heap.size, 1, none⟩ = some (.string t) := by rw [cell_of_row _ _ _ _ _ _ hrf]; rfl
  have hl0 : w.heap.size < W2.heap.size := by omega
  obtain ⟨W3, hW3⟩ : ∃ W3, W2.alloc (.cells #[.int .u64 (k : Int), .int .u32 (g : Int), .int .u32 (n : Int), .int .u32 (p : Int), .string t] 27) = W3 := ⟨_, rfl⟩
  have hb3 := below_new W2 (.cells #[.int .u64 (k : Int), .int .u32 (g : Int), .int .u32 (n : Int), .int .u32 (p : Int), .string t] 27)
  have hg3 := heap_alloc_new W2 (.cells #[.int .u64 (k : Int), .int .u32 (g : Int), .int .u32 (n : Int), .int .u32 (p : Int), .string t] 27)
  rw [hW3] at hb3 hg3
  have HW3 : Hid _ := hW3
  have hgr := (hb3.block _ l1).trans hg
  have HB3 : Hid (Below w.heap.size w W3) := hbw.trans (hb3.mono hbw.size)
  have HG3 : Hid (W3.heap[w.heap.size + 1]? = some (.cells #[.int .u64 0, .int .u32 0, .int .u32 0, .int .u32 0, .string ⟨#[]⟩] 27 (0, 0))) := hgr
  have HR3 : Hid (W3.heap[W2.heap.size]? = some (.cells #[.int .u64 (k : Int), .int .u32 (g : Int), .int .u32 (n : Int), .int .u32 (p : Int), .string t] 27 (0, 0))) := hg3
  clear hW2 hg hbw hrf hW3 hb3 hg3 hgr hb hk hc h0 h1
  go_enter Try.func18, Try.ntmps18
  go_wp2_with (first | (rw [HW2.out]; clear HW2))
  rw [HW3.out]
  refine (HR.out W3).mono ?_
  rintro e w4 ⟨rfl, b4⟩
  have hg4 := (b4.block _ (Array.getElem?_eq_some_iff.1 HG3.out).1).trans HG3.out
  have hr4 := (b4.block _ (Array.getElem?_eq_some_iff.1 HR3.out).1).trans HR3.out
  have HB4 : Hid (Below w.heap.size w w4) := HB3.out.trans (b4.mono HB3.out.size)
  have HG4 : Hid (w4.heap[w.heap.size + 1]? = some (.cells #[.int .u64 0, .int .u32 0, .int .u32 0, .int .u32 0, .string ⟨#[]⟩] 27 (0, 0))) := hg4
  obtain ⟨⟨r0, r1, r2, r3, r4⟩, -⟩ := root_facts hr4
  obtain ⟨⟨d0, d1, d2, d3, d4⟩, z0, z1, z2, z3, z4⟩ := root_facts hg4
  clear b4 hg4 hr4 c0 c1
  cases b
  · go_wp2_with fail
    obtain ⟨X, B⟩ := put_root HG4.out (.int .u64 0) (.int .u32 0) (.int .u32 0) (.int .u32 0) (.string ⟨#[]⟩)
    exact bodyPost_ret (results_root2 rfl _ _ (w.heap.size + 1) _ _ _ _ _ rfl rfl X) rfl ⟨rfl, HB4.out.trans (B.mono (by omega))⟩
  · go_wp2_with fail
    obtain ⟨X, B⟩ := put_root HG4.out (.int .u64 (k : Int)) (.int .u32 (g : Int)) (.int .u32 (n : Int)) (.int .u32 (p : Int)) (.string t)
    exact bodyPost_ret (results_root2 rfl _ _ (w.heap.size + 1) _ _ _ _ _ rfl rfl X) rfl ⟨rfl, HB4.out.trans (B.mono (by omega))⟩
set_option maxRecDepth 100000 in
theorem rNext_any (c g : Nat) (i : Int) (p : Nat) (t : ByteArray) (w : World) (hc : c < 18446744073709551616) : Calls Try.prog 18 #[.int .u64 (c : Int), .int .u32 (g : Int), .int .i64 i, rfv p t] w (NP c g i p t w) := by
  by_cases h1 : c = 18446744073709551615
  · exact rNext_max c g i p t w h1
  · by_cases h2 : i < 0
    · exact rNext_neg c g i p t w h1 h2
    · by_cases h3 : 1000 < i
      · exact rNext_big c g i p t w h1 h3
      · exact rNext_in c g i p t w (by omega) (by omega) (by omega)
set_option maxRecDepth 100000 in
set_option maxHeartbeats 2000000 in
theorem sNext_max (c g : Nat) (i : Int) (p : Nat) (t : ByteArray) (w : World) (hc : c = 18446744073709551615) : Calls Try.prog 19 #[.int .u64 (c : Int), .int .u32 (g : Int), .int .i64 i, rfv p t] w (NP c g i p t w) := by
  have hE : nxE c g i p t = 72 ∧ rtv (nxR c g i p t) = .agg #[.int .u64 0, .int .u32 0, .int .u32 0, .int .u32 0, .string ⟨#[]⟩] := by
    unfold nxE nxR
    rw [if_pos hc, if_pos hc]
    exact ⟨rfl, rfl⟩
  subst hc
  unfold NP
  rw [hE.1, hE.2]
  clear hE
  obtain ⟨hg, hb, -⟩ := zero_w w p t
  have HG : Hid _ := hg
  have HB : Hid _ := hb
  have l1 : w.heap.size + 1 < ((w.alloc (.cells #[.int .u32 (p : Int), .string t] 25)).alloc (.cells #[.int .u64 0, .int .u32 0, .int .u32 0, .int .u32 0, .string ⟨#[]⟩] 27)).heap.size := (Array.getElem?_eq_some_iff.1 hg).1
  clear hg hb
  go_enter Try.func19, Try.ntmps19
  go_wp2_with fail
  exact bodyPost_ret (results_root2 rfl _ _ (w.heap.size + 1) _ _ _ _ _ rfl rfl HG.out) rfl ⟨rfl, HB.out⟩
set_option maxRecDepth 100000 in
set_option maxHeartbeats 2000000 in
theorem sNext_neg (c g : Nat) (i : Int) (p : Nat) (t : ByteArray) (w : World) (hc : ¬ c = 18446744073709551615) (h : i < 0) : Calls Try.prog 19 #[.int .u64 (c : Int), .int .u32 (g : Int), .int .i64 i, rfv p t] w (NP c g i p t w) := by
  have hE : nxE c g i p t = 120 ∧ rtv (nxR c g i p t) = .agg #[.int .u64 0, .int .u32 0, .int .u32 0, .int .u32 0, .string ⟨#[]⟩] := by
    unfold nxE nxR
    rw [if_neg hc, if_neg hc, if_pos (by omega), if_pos (by omega)]
    exact ⟨rfl, rfl⟩
  have q0 : ((c : Int) == 18446744073709551615) = false := by simp; omega
  unfold NP
  rw [hE.1, hE.2]
  clear hE hc
  have q1 : i < 0 := h
  obtain ⟨hg, hb, -⟩ := zero_w w p t
  have HG : Hid _ := hg
  have HB : Hid _ := hb
  have l1 : w.heap.size + 1 < ((w.alloc (.cells #[.int .u32 (p : Int), .string t] 25)).alloc (.cells #[.int .u64 0, .int .u32 0, .int .u32 0, .int .u32 0, .string ⟨#[]⟩] 27)).heap.size := (Array.getElem?_eq_some_iff.1 hg).1
  clear hg hb
  go_enter Try.func19, Try.ntmps19
  go_wp2_with fail
  exact bodyPost_ret (results_root2 rfl _ _ (w.heap.size + 1) _ _ _ _ _ rfl rfl HG.out) rfl ⟨rfl, HB.out⟩
set_option maxRecDepth 100000 in
set_option maxHeartbeats 2000000 in
theorem sNext_big (c g : Nat) (i : Int) (p : Nat) (t : ByteArray) (w : World) (hc : ¬ c = 18446744073709551615) (h : 1000 < i) : Calls Try.prog 19 #[.int .u64 (c : Int), .int .u32 (g : Int), .int .i64 i, rfv p t] w (NP c g i p t w) := by
  have hE : nxE c g i p t = 120 ∧ rtv (nxR c g i p t) = .agg #[.int .u64 0, .int .u32 0, .int .u32 0, .int .u32 0, .string ⟨#[]⟩] := by
    unfold nxE nxR
    rw [if_neg hc, if_neg hc, if_pos (by omega), if_pos (by omega)]
    exact ⟨rfl, rfl⟩
  have q0 : ((c : Int) == 18446744073709551615) = false := by simp; omega
  unfold NP
  rw [hE.1, hE.2]
  clear hE hc
  have q1 : ¬ i < 0 := by omega
  have q2 : 1000 < i := h
  obtain ⟨hg, hb, -⟩ := zero_w w p t
  have HG : Hid _ := hg
  have HB : Hid _ := hb
  have l1 : w.heap.size + 1 < ((w.alloc (.cells #[.int .u32 (p : Int), .string t] 25)).alloc (.cells #[.int .u64 0, .int .u32 0, .int .u32 0, .int .u32 0, .string ⟨#[]⟩] 27)).heap.size := (Array.getElem?_eq_some_iff.1 hg).1
  clear hg hb
  go_enter Try.func19, Try.ntmps19
  go_wp2_with fail
  exact bodyPost_ret (results_root2 rfl _ _ (w.heap.size + 1) _ _ _ _ _ rfl rfl HG.out) rfl ⟨rfl, HB.out⟩
set_option maxRecDepth 100000 in
set_option maxHeartbeats 4000000 in
theorem sNext_in (c g : Nat) (i : Int) (p : Nat) (t : ByteArray) (w : World) (hc : c < 18446744073709551615) (h0 : 0 ≤ i) (h1 : i ≤ 1000) : Calls Try.prog 19 #[.int .u64 (c : Int), .int .u32 (g : Int), .int .i64 i, rfv p t] w (NP c g i p t w) := by
  obtain ⟨n, rfl⟩ : ∃ n : Nat, i = (n : Int) := ⟨i.toNat, by omega⟩
  have hE : nxE c g (n : Int) p t = (if rrt ⟨c + 1, g, n, p, t⟩ = true then 0 else 120) ∧ nxR c g (n : Int) p t = if rrt ⟨c + 1, g, n, p, t⟩ = true then ⟨c + 1, g, n, p, t⟩ else zeroR := by
    have a1 : ¬ c = 18446744073709551615 := by omega
    have a2 : ¬ ((n : Int) < 0 ∨ 1000 < (n : Int)) := by omega
    unfold nxE nxR
    rw [if_neg a1, if_neg a2, if_neg a1, if_neg a2, Int.toNat_natCast]
    exact ⟨rfl, rfl⟩
  unfold NP
  rw [hE.1, hE.2]
  clear hE
  obtain ⟨k, hk⟩ : ∃ k : Nat, c + 1 = k := ⟨_, rfl⟩
  have HR : Hid (∀ W : World, Calls Try.prog 14 #[.agg #[.int .u64 (k : Int), .int .u32 (g : Int), .int .u32 (n : Int), .int .u32 (p : Int), .string t]] W fun e w' => e = .returned (.bool (rrt ⟨k, g, n, p, t⟩)) ∧ Below W.heap.size W w') := sright_any ⟨k, g, n, p, t⟩
  rw [hk]
  obtain ⟨b, hb⟩ : ∃ b, rrt ⟨k, g, n, p, t⟩ = b := ⟨_, rfl⟩
  rw [hb] at HR ⊢
  have q0 : ((c : Int) == 18446744073709551615) = false := by simp; omega
  have q1 : ¬ (n : Int) < 0 := by omega
  have q2 : ¬ 1000 < (n : Int) := by omega
  have q3 : IntKind.u64.wrap ((c : Int) + 1) = (k : Int) := by rw [IntKind.wrap_u64]; omega
  have q4 : IntKind.u32.wrap (n : Int) = (n : Int) := by rw [IntKind.wrap_u32]; omega
  obtain ⟨hg, hbw, hrf⟩ := zero_w w p t
  obtain ⟨W2, hW2⟩ : ∃ W2, ((w.alloc (.cells #[.int .u32 (p : Int), .string t] 25)).alloc (.cells #[.int .u64 0, .int .u32 0, .int .u32 0, .int .u32 0, .string ⟨#[]⟩] 27)) = W2 := ⟨_, rfl⟩
  rw [hW2] at hg hbw hrf
  have HW2 : Hid _ := hW2
  have HG : Hid (W2.heap[w.heap.size + 1]? = some (.cells #[.int .u64 0, .int .u32 0, .int .u32 0, .int .u32 0, .string ⟨#[]⟩] 27 (0, 0))) := hg
  have HB : Hid (Below w.heap.size w W2) := hbw
  have l1 : w.heap.size + 1 < W2.heap.size := (Array.getElem?_eq_some_iff.1 hg).1
  have c0 : W2.cell? ⟨w.heap.size, 0, none⟩ = some (.int .u32 (p : Int)) := by rw [cell_of_row _ _ _ _ _ _ hrf]; rfl
  have c1 : W2.cell? ⟨w.heap.size, 1, none⟩ = some (.string t) := by rw [cell_of_row _ _ _ _ _ _ hrf]; rfl
  have hl0 : w.heap.size < W2.heap.size := by omega
  obtain ⟨W3, hW3⟩ : ∃ W3, W2.alloc (.cells #[.int .u64 (k : Int), .int .u32 (g : Int), .int .u32 (n : Int), .int .u32 (p : Int), .string t] 27) = W3 := ⟨_, rfl⟩
  have hb3 := below_new W2 (.cells #[.int .u64 (k : Int), .int .u32 (g : Int), .int .u32 (n : Int), .int .u32 (p : Int), .string t] 27)
  have hg3 := heap_alloc_new W2 (.cells #[.int .u64 (k : Int), .int .u32 (g : Int), .int .u32 (n : Int), .int .u32 (p : Int), .string t] 27)
  rw [hW3] at hb3 hg3
  have HW3 : Hid _ := hW3
  have hgr := (hb3.block _ l1).trans hg
  have HB3 : Hid (Below w.heap.size w W3) := hbw.trans (hb3.mono hbw.size)
  have HG3 : Hid (W3.heap[w.heap.size + 1]? = some (.cells #[.int .u64 0, .int .u32 0, .int .u32 0, .int .u32 0, .string ⟨#[]⟩] 27 (0, 0))) := hgr
  have HR3 : Hid (W3.heap[W2.heap.size]? = some (.cells #[.int .u64 (k : Int), .int .u32 (g : Int), .int .u32 (n : Int), .int .u32 (p : Int), .string t] 27 (0, 0))) := hg3
  clear hW2 hg hbw hrf hW3 hb3 hg3 hgr hb hk hc h0 h1
  go_enter Try.func19, Try.ntmps19
  go_wp2_with (first | (rw [HW2.out]; clear HW2))
  rw [HW3.out]
  refine (HR.out W3).mono ?_
  rintro e w4 ⟨rfl, b4⟩
  have hg4 := (b4.block _ (Array.getElem?_eq_some_iff.1 HG3.out).1).trans HG3.out
  have hr4 := (b4.block _ (Array.getElem?_eq_some_iff.1 HR3.out).1).trans HR3.out
  have HB4 : Hid (Below w.heap.size w w4) := HB3.out.trans (b4.mono HB3.out.size)
  have HG4 : Hid (w4.heap[w.heap.size + 1]? = some (.cells #[.int .u64 0, .int .u32 0, .int .u32 0, .int .u32 0, .string ⟨#[]⟩] 27 (0, 0))) := hg4
  obtain ⟨⟨r0, r1, r2, r3, r4⟩, -⟩ := root_facts hr4
  obtain ⟨⟨d0, d1, d2, d3, d4⟩, z0, z1, z2, z3, z4⟩ := root_facts hg4
  clear b4 hg4 hr4 c0 c1
  cases b
  · go_wp2_with fail
    obtain ⟨X, B⟩ := put_root HG4.out (.int .u64 0) (.int .u32 0) (.int .u32 0) (.int .u32 0) (.string ⟨#[]⟩)
    exact bodyPost_ret (results_root2 rfl _ _ (w.heap.size + 1) _ _ _ _ _ rfl rfl X) rfl ⟨rfl, HB4.out.trans (B.mono (by omega))⟩
  · go_wp2_with fail
    obtain ⟨X, B⟩ := put_root HG4.out (.int .u64 (k : Int)) (.int .u32 (g : Int)) (.int .u32 (n : Int)) (.int .u32 (p : Int)) (.string t)
    exact bodyPost_ret (results_root2 rfl _ _ (w.heap.size + 1) _ _ _ _ _ rfl rfl X) rfl ⟨rfl, HB4.out.trans (B.mono (by omega))⟩
set_option maxRecDepth 100000 in
theorem sNext_any (c g : Nat) (i : Int) (p : Nat) (t : ByteArray) (w : World) (hc : c < 18446744073709551616) : Calls Try.prog 19 #[.int .u64 (c : Int), .int .u32 (g : Int), .int .i64 i, rfv p t] w (NP c g i p t w) := by
  by_cases h1 : c = 18446744073709551615
  · exact sNext_max c g i p t w h1
  · by_cases h2 : i < 0
    · exact sNext_neg c g i p t w h1 h2
    · by_cases h3 : 1000 < i
      · exact sNext_big c g i p t w h1 h3
      · exact sNext_in c g i p t w (by omega) (by omega) (by omega)
end Go.Proofs.Ytofealdlgpmheaa.Ro
/- The reference: numbers in bytes, and back. -/
namespace Go.Proofs.Ytofealdlgpmheaa.Ro
open Go.RowKit Go.Lib Go.Shelf
open Go.Proofs.Ytofealdlgpmheaa.Rc Go.Proofs.Ytofealdlgpmheaa.Rq
/-- The byte of a number at a place, the least first; the first of them. -/
def lb (v k : Nat) : UInt8 := UInt8.ofNat (v / 2 ^ (8 * k) % 256)
def lef (v k : Nat) : List UInt8 := (List.range k).map (lb v)
set_option maxRecDepth 100000 in
theorem lef_succ (v k : Nat) : lef v (k + 1) = lef v k ++ [lb v k] := by unfold lef; rw [List.range_succ, List.map_append]; rfl
set_option maxRecDepth 100000 in
theorem lef_len (v k : Nat) : (lef v k).length = k := by simp [lef]
set_option maxRecDepth 100000 in
theorem lb_nat (v k : Nat) : ((lb v k).toNat : Int) = (v : Int) / 2 ^ (8 * k) % 256 := by
  unfold lb
  rw [UInt8.toNat_ofNat', Nat.mod_eq_of_lt (Nat.mod_lt _ (by decide))]
  push_cast
  rfl
def valB (s : ByteArray) : Nat → Nat
  | 0 => 0
  | k + 1 => valB s k + bt s k * 2 ^ (8 * k)
/-- One byte as a text. -/
def by1 (n : Nat) : ByteArray := ⟨#[UInt8.ofNat (n % 256)]⟩
set_option maxRecDepth 100000 in
theorem one_str (W : World) (q : Nat) (x : Int) (n : Nat) (hx : x = ((n % 256 : Nat) : Int)) (h : W.heap[q]? = some (.cells #[.int .u8 x] 5 (0, 0))) : (convert 42 9 (.slice (some ⟨q, 0, none⟩) 1 1)).run Try.prog W = .ok (.string (by1 n)) W := by
  have e : by1 n = ⟨[UInt8.ofNat (n % 256)].toArray⟩ := rfl
  rw [e]
  refine run_convert_bytes_back W 42 9 5 ⟨q, 0, none⟩ 1 [UInt8.ofNat (n % 256)] Try.underlying42 Try.underlying5 Try.underlying9 fun j hj => ?_
  match j, hj with
  | 0, _ =>
    rw [Addr.add_lit, cell_of_row _ _ _ _ _ _ h, hx]
    simp
set_option maxRecDepth 100000 in
theorem lef_app (v k : Nat) : (⟨(lef v k).toArray⟩ : ByteArray) ++ by1 (v / 256 ^ k) = ⟨(lef v (k + 1)).toArray⟩ := by
  apply ByteArray.ext
  rw [lef_succ]
  have : lb v k = UInt8.ofNat (v / 256 ^ k % 256) := by unfold lb; rw [Nat.pow_mul]
  rw [this]
  simp [by1, ByteArray.data_append]
set_option maxRecDepth 100000 in
set_option maxHeartbeats 2000000 in
theorem sput_any (v : Nat) (hv : v < 18446744073709551616) (width : Nat) (hw : width ≤ 8) (w : World) :
    Calls Try.prog 23 #[.int .u64 (v : Int), .int .i64 (width : Int)] w fun e w' => e = .returned (.string ⟨(lef v width).toArray⟩) ∧ Below w.heap.size w w' := by
  have z0 : (0 : Int) ≤ (width : Int) := by omega
  have z1 : (width : Int) ≤ 8 := by omega
  go_enter Try.func23, Try.ntmps23
  go_wp2_with fail
  go_loopw [0, 5, 6] (fun u s i wr => ∃ k : Nat, k ≤ width ∧ u = .int .u64 ((v / 256 ^ k : Nat) : Int) ∧ s = .string ⟨(lef v k).toArray⟩ ∧ i = .int .i64 (k : Int) ∧ Below w.heap.size w wr) (fun _ _ i _ => width - natOf i)
  case atStart => exact ⟨0, by omega, by rw [Nat.pow_zero, Nat.div_one], rfl, rfl, Below.refl _ _⟩
  case round =>
    obtain ⟨k, hk, rfl, rfl, rfl, hb⟩ := hrel
    have HB : Hid (Below w.heap.size w wr) := hb
    have k0 : (0 : Int) ≤ (k : Int) := by omega
    have k8 : (k : Int) ≤ 8 := by omega
    clear hb
    by_cases hlt : k < width
    · have q1 : (k : Int) < (width : Int) := by omega
      have HE : Hid (v / 256 ^ k / 256 = v / 256 ^ (k + 1)) := by
        refine (?_ : v / 256 ^ k / 256 = v / 256 ^ (k + 1))
        rw [Nat.pow_succ, Nat.div_div_eq_div_mul]
      have HU : Hid _ := lef_app v k
      have hxn : v / 256 ^ k ≤ v := Nat.div_le_self _ _
      have zs : (⟨(lef v k).toArray⟩ : ByteArray).size ≤ 8 := by simp [ByteArray.size, lef_len]; omega
      have zt : (by1 (v / 256 ^ k)).size = 1 := rfl
      generalize v / 256 ^ k = q at *
      have hcv := one_str (wr.alloc (.cells #[.int .u8 ((q : Int) % 256)] 5)) wr.heap.size ((q : Int) % 256) q (by omega) (heap_alloc_new wr _)
      generalize (⟨(lef v k).toArray⟩ : ByteArray) = x at *
      generalize by1 q = y at *
      have hx0 : (0 : Int) ≤ (q : Int) := by omega
      have hx1 : (q : Int) < 18446744073709551616 := by omega
      have hq : ¬ 9223372036854775807 < x.size + y.size := by omega
      clear zs zt
      have hq2 : IntKind.u64.wrap ((q : Int).tdiv 256) = ((q / 256 : Nat) : Int) := by
        rw [Int.tdiv_eq_ediv_of_nonneg hx0, IntKind.wrap_u64]
        all_goals omega
      clear hxn
      go_wp2_with fail
      refine ⟨⟨k + 1, by omega, by rw [← HE.out]; simp, by rw [HU.out], rfl, HB.out.alloc HB.out.size _⟩, ?_⟩
      simp only [natOf]
      omega
    · have q1 : ¬ (k : Int) < (width : Int) := by omega
      obtain rfl : k = width := by omega
      go_wp2_with fail
      go_ret
      exact ⟨rfl, HB.out⟩
/-- The number that the last bytes say. -/
def upS (s : ByteArray) : Nat → Nat
  | 0 => 0
  | k + 1 => 256 * upS s k + bt s (s.size - 1 - k)
set_option maxRecDepth 100000 in
theorem up_lt (s : ByteArray) (k : Nat) : upS s k < 256 ^ k := by
  induction k with
  | zero => simp [upS]
  | succ k ih =>
    have hb := bt_lt s (s.size - 1 - k)
    show 256 * upS s k + bt s (s.size - 1 - k) < 256 ^ (k + 1)
    rw [Nat.pow_succ]
    omega
set_option maxRecDepth 100000 in
theorem up_rd (s : ByteArray) (k : Nat) (hk : k ≤ s.size) : valB s s.size = valB s (s.size - k) + upS s k * 256 ^ (s.size - k) := by
  induction k with
  | zero => simp [upS]
  | succ k ih =>
    rw [ih (by omega)]
    obtain ⟨j, hj⟩ : ∃ j, s.size - k = j + 1 := ⟨s.size - k - 1, by omega⟩
    rw [hj, show s.size - (k + 1) = j by omega, valB, upS, show s.size - 1 - k = j by omega, Nat.pow_mul, Nat.pow_succ (n := 256), Nat.add_mul, Nat.mul_comm (256 ^ j) 256, ← Nat.mul_assoc, Nat.mul_comm (upS s k) 256]
    simp only [Nat.reducePow]
    omega
set_option maxRecDepth 100000 in
theorem up_all (s : ByteArray) : upS s s.size = valB s s.size := by
  have := up_rd s s.size (Nat.le_refl _)
  rw [Nat.sub_self] at this
  rw [this]
  simp [valB]
set_option maxRecDepth 100000 in
set_option maxHeartbeats 2000000 in
theorem sget_any (s : ByteArray) (hs : s.size ≤ 8) (w : World) :
    Calls Try.prog 27 #[.string s] w fun e w' => e = .returned (.int .u64 (valB s s.size : Int)) ∧ Below w.heap.size w w' := by
  have z0 : (0 : Int) ≤ (s.size : Int) := by omega
  have z1 : (s.size : Int) ≤ 8 := by omega
  have HU : Hid (upS s s.size = valB s s.size) := up_all s
  go_enter Try.func27, Try.ntmps27
  go_wp2_with fail
  go_loopw [3, 4] (fun v i wr => ∃ k : Nat, k ≤ s.size ∧ v = .int .u64 (upS s k : Int) ∧ i = .int .i64 ((s.size : Int) - 1 - (k : Int)) ∧ Below w.heap.size w wr) (fun _ i _ => (match i with | .int _ x => (x + 1).toNat | _ => 0))
  case atStart => exact ⟨0, Nat.zero_le _, rfl, by simp, Below.refl _ _⟩
  case round =>
    obtain ⟨k, hk, rfl, rfl, hb⟩ := hrel
    have HB : Hid (Below w.heap.size w wr) := hb
    clear hb
    have k0 : (0 : Int) ≤ (k : Int) := by omega
    by_cases hlt : k < s.size
    · obtain ⟨j, hj⟩ : ∃ j, s.size - 1 - k = j := ⟨_, rfl⟩
      have ej : (s.size : Int) - 1 - (k : Int) = (j : Int) := by omega
      have j0 : (0 : Int) ≤ (j : Int) := by omega
      have j8 : (j : Int) < 8 := by omega
      have hjl : j < s.size := by omega
      have hi8 : ∀ w', (Instr.index 9 (.string s) (.int .i64 (j : Int))).run Try.prog w' = .ok (.int .u8 (bt s j : Int)) w' := fun w' => idx_s s j hjl w'
      have HU2 : Hid (upS s (k + 1) = 256 * upS s k + bt s j) := by refine (?_ : upS s (k + 1) = 256 * upS s k + bt s j); rw [← hj]; rfl
      have hr := up_lt s k
      have hb := bt_lt s j
      have hp : 256 ^ k ≤ 256 ^ 7 := Nat.pow_le_pow_right (by decide) (by omega)
      have hlow : 256 * upS s k + bt s j < 18446744073709551616 := by
        have : 256 ^ 7 = 72057594037927936 := by decide
        omega
      rw [ej]
      clear hr hp
      generalize hy : bt s j = y at *
      generalize hx : upS s k = x at *
      have HX : Hid (upS s (k + 1) = 256 * x + y) := HU2.out
      obtain ⟨X, hX⟩ : ∃ X : Int, (x : Int) = X := ⟨_, rfl⟩
      obtain ⟨Y, hY⟩ : ∃ Y : Int, (y : Int) = Y := ⟨_, rfl⟩
      have HXY : Hid ((x : Int) = X ∧ (y : Int) = Y) := ⟨hX, hY⟩
      have r0 : 0 ≤ X := by omega
      have r1 : 0 ≤ Y := by omega
      have r2 : Y < 256 := by omega
      have hw1 : IntKind.u64.wrap (256 * X) = 256 * X := by rw [IntKind.wrap_u64] <;> omega
      have hw2 : IntKind.u64.wrap (256 * X + Y) = 256 * X + Y := by rw [IntKind.wrap_u64] <;> omega
      rw [hY] at hi8
      rw [hX]
      clear hX hY hlow hb hx hy
      go_wp2_with fail
      refine ⟨⟨k + 1, by omega, ?_, by congr 1; omega, HB.out⟩, ?_⟩
      · rw [HX.out, ← HXY.out.1, ← HXY.out.2]; simp
      · simp only
        omega
    · obtain rfl : k = s.size := by omega
      have ej : (s.size : Int) - 1 - (s.size : Int) = -1 := by omega
      rw [ej]
      go_wp2_with fail
      go_ret
      exact ⟨by rw [HU.out]; rfl, HB.out⟩
set_option maxRecDepth 100000 in
theorem sd_lef (c g n p : Nat) : sd c g n p 20 = lef c 8 ++ (lef g 4 ++ (lef n 4 ++ lef p 4)) := by rfl
end Go.Proofs.Ytofealdlgpmheaa.Ro
