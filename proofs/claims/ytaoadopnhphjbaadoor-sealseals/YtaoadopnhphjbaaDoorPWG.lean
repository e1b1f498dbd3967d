/- A head's nonce; a block's tag; the block of a head and a body. -/
import Derived.Test.YtaoadopnhphjbaaDoorPWF
import Derived.Test.YtaoadopnhphjbaaDoorPVa
import Derived.Test.YtaoadopnhphjbaaDoorQm
import Derived.Test.YtaoadopnhphjbaaDoorQy
import Derived.Test.YtaoadopnhphjbaaDoorQz
namespace Go.Proofs.YtaoadopnhphjbaaDoor.Rs
open Go.RowKit Go.Lib
/-- The tables, as the program lays them. -/
def Tb (Kt : Nat → Int) (w : World) : Prop := (∃ tt fr, w.heap[2]? = some (.cells (w64 Kt) tt fr)) ∧ ∃ tt fr, w.heap[1]? = some (.cells Ra.tab tt fr)
set_option maxRecDepth 100000 in
theorem Tb.below {Kt : Nat → Int} {w W : World} {B : Nat} (h : Tb Kt w) (hb : Below B w W) (hB : w.heap.size ≤ B) : Tb Kt W := by
  obtain ⟨⟨t1, f1, h1⟩, t2, f2, h2⟩ := h
  exact ⟨⟨t1, f1, (hb.block _ (Nat.lt_of_lt_of_le (Array.getElem?_eq_some_iff.1 h1).1 hB)).trans h1⟩, t2, f2, (hb.block _ (Nat.lt_of_lt_of_le (Array.getElem?_eq_some_iff.1 h2).1 hB)).trans h2⟩
set_option maxRecDepth 100000 in
theorem nonce_ext (h : Hd) (w : World) : (Instr.sliceAt 9 (.string (putS h)) (some (.int .i64 8)) (some (.int .i64 20)) none).run Tryd.prog w = .ok (.string (nonceS h)) w := ext24 (putS h) (put_size h) 8 20 (by omega) (by omega) w
set_option maxRecDepth 100000 in
set_option maxHeartbeats 1000000 in
theorem nonce_any (h : Hd) (hf : fits h) (w : World) :
    Calls Tryd.prog 48 #[hv h] w fun e w' => e = .returned (.string (nonceS h)) ∧ Below w.heap.size w w' := by
  have HF : Hid (fits h) := hf
  have hE : ∀ w, (Instr.sliceAt 9 (.string (putS h)) (some (.int .i64 8)) (some (.int .i64 20)) none).run Tryd.prog w = .ok (.string (nonceS h)) w := nonce_ext h
  have HP : Hid (∀ W, Calls Tryd.prog 13 #[hv h] W fun e w' => e = .returned (.string (putS h)) ∧ Below W.heap.size W w') := put_any h hf
  clear hf
  generalize putS h = x at *
  generalize nonceS h = y at *
  obtain ⟨a, b, c, d⟩ := h
  unfold hv at *
  go_enter Tryd.func48, Tryd.ntmps48
  go_wp2_with fail
  refine (HP.out _).mono ?_
  rintro e w2 ⟨rfl, b2⟩
  have B2 : Hid (Below w.heap.size w w2) := ((Below.refl _ w).alloc (Nat.le_refl _) _).trans (b2.mono (by simp))
  clear b2
  go_wp2_with fail
  go_ret
  exact ⟨rfl, B2.out⟩
set_option maxRecDepth 100000 in
theorem list_max {P : Program} {ops : Array Oper} {rest : List Oper} {o : Oper} {a : Act} {w : World} {Q : Exit → Act → World → Prop} (hgd : o.guard = none) (t u : TypeId) (x y : Operand) (ho : o.op = .call { callee := .builtin .max, args := #[x, y], argTypes := #[t, u] })
    {p q r : Int} (hx : a.eval x = .int .i64 p) (hy : a.eval y = .int .i64 q) (hr : (if p < q then q else p) = r) (h : wpList P ops Q rest (a.put o.dst (.int .i64 r)) w) : wpList P ops Q (o :: rest) a w :=
  wpList_plain hgd fun _ hK => by
    have hrun : (Builtin.max_ #[t, u] o.type #[.int .i64 p, .int .i64 q]).run P w = .ok (.int .i64 r) w := by subst hr; rfl
    unfold Oper.wp execOp
    simp only [ho, resolve, invoke, builtin, Sem.run_bind, Sem.run_pure, Result.andThen_ok, List.map_toArray, List.map_cons, List.map_nil, hx, hy, hrun]
    exact hK _ _ h
set_option maxRecDepth 100000 in
set_option maxHeartbeats 1000000 in
theorem tag_any (b : ByteArray) (hb : b.size ≤ maxLen) (w : World) :
    Calls Tryd.prog 15 #[.string b] w fun e w' => e = .returned (.string (tagS b)) ∧ w' = w := by
  unfold maxLen at hb
  have h0 : (0 : Int) ≤ (b.size : Int) := by omega
  have h1 : (b.size : Int) ≤ 9223372036854775807 := by omega
  obtain ⟨n, hn⟩ : ∃ n, b.size - 32 = n := ⟨_, rfl⟩
  have hmx : (if (b.size : Int) - 32 < 0 then 0 else (b.size : Int) - 32) = (n : Int) := by split <;> omega
  have hw : wrap64 ((b.size : Int) - 32) = (b.size : Int) - 32 := by unfold wrap64; omega
  have hE : ∀ w, (Instr.sliceAt 9 (.string b) (some (.int .i64 (n : Int))) none none).run Tryd.prog w = .ok (.string (tagS b)) w := fun w => by
    have hnb : n ≤ b.size := by omega
    simp [Instr.sliceAt, Instr.slice, run_underlying Tryd.underlying9, go_sem]
    unfold tagS
    rw [hn]
    simp [hnb]
  clear hn
  generalize tagS b = y at *
  go_enter Tryd.func15, Tryd.ntmps15
  go_wp2_with (first | (refine list_max rfl 3 3 _ _ rfl rfl rfl hmx ?_))
  go_ret
  exact ⟨rfl, rfl⟩
/-- The block of a head and a body under a key. -/
def blockS (Kt : Nat → Int) (k : Rk.Ky) (h : Hd) (body : ByteArray) : ByteArray := bl (Ra.xorS (Rk.sealS Kt k) (nonceS h)) (macS Kt (Rk.bindS Kt k)) (putS h) body
set_option maxRecDepth 100000 in
theorem seal_size (Kt : Nat → Int) (k : Rk.Ky) (hk : Rk.rightS [k] = true) : (Rk.sealS Kt k).size = 32 := by unfold Rk.sealS; rw [if_pos hk, Rk.subS_size]
set_option maxRecDepth 100000 in
theorem bind_size (Kt : Nat → Int) (k : Rk.Ky) (hk : Rk.rightS [k] = true) : (Rk.bindS Kt k).size = 32 := by unfold Rk.bindS; rw [if_pos hk, Rk.subS_size]
set_option maxRecDepth 100000 in
set_option maxHeartbeats 2000000 in
theorem block_any (Kt : Nat → Int) (k : Rk.Ky) (hk : Rk.rightS [k] = true) (h : Hd) (hf : fits h) (body : ByteArray) (hb : body.size = 200) (w : World) (hT : Tb Kt w) :
    Calls Tryd.prog 29 #[Rk.kv k, hv h, .string body] w fun e w' => e = .returned (.string (blockS Kt k h body)) ∧ Below w.heap.size w w' := by
  have HS : Hid (∀ W, Tb Kt W → Calls Tryd.prog 46 #[Rk.kv k] W fun e w' => e = .returned (.tuple #[.string (Rk.sealS Kt k), .string (Rk.bindS Kt k), .int .i64 (Rk.subE k)]) ∧ Below W.heap.size W w') := fun W ⟨⟨_, _, h1⟩, _⟩ => Rk.subs_any Kt k W h1
  have HX : Hid (∀ W, Tb Kt W → Calls Tryd.prog 47 #[.string (Rk.sealS Kt k), .string (nonceS h), .string body] W fun e w' => e = .returned (.tuple #[.string (Ra.xorS (Rk.sealS Kt k) (nonceS h) body), .int .i64 0]) ∧ Below W.heap.size W w') := fun W ⟨_, _, _, h2⟩ => Ra.Xor_yes _ _ _ W (seal_size Kt k hk) (nonce_size h) (by omega) h2
  have HN : Hid (∀ W, Calls Tryd.prog 48 #[hv h] W fun e w' => e = .returned (.string (nonceS h)) ∧ Below W.heap.size W w') := nonce_any h hf
  have HP : Hid (∀ W, Calls Tryd.prog 13 #[hv h] W fun e w' => e = .returned (.string (putS h)) ∧ Below W.heap.size W w') := put_any h hf
  have HM : Hid (∀ W T, Tb Kt W → Calls Tryd.prog 49 #[.string (Rk.bindS Kt k), .slice (some ⟨W.heap.size, 0, none⟩) 1 1] (W.alloc (.cells #[.string (putS h ++ Ra.xorS (Rk.sealS Kt k) (nonceS h) body)] T)) fun e w' => e = .returned (.string (macS Kt (Rk.bindS Kt k) (putS h ++ Ra.xorS (Rk.sealS Kt k) (nonceS h) body))) ∧ Below W.heap.size W w') := fun W T ⟨⟨_, _, h1⟩, _⟩ =>
    mac_new Kt _ (by rw [bind_size Kt k hk]; omega) 1 (by omega) #[.string (putS h ++ Ra.xorS (Rk.sealS Kt k) (nonceS h) body)] T (fun _ => putS h ++ Ra.xorS (Rk.sealS Kt k) (nonceS h) body) _ (by apply ByteArray.ext; simp [catS]) (by rw [ByteArray.size_append, put_size, Ra.xorS_size, hb]; omega) (fun i hi => by match i, hi with | 0, _ => rfl) W h1
  have HV : Hid (blockS Kt k h body = putS h ++ Ra.xorS (Rk.sealS Kt k) (nonceS h) body ++ macS Kt (Rk.bindS Kt k) (putS h ++ Ra.xorS (Rk.sealS Kt k) (nonceS h) body)) := rfl
  have zp : (putS h).size = 24 := put_size h
  have zx : (Ra.xorS (Rk.sealS Kt k) (nonceS h) body).size = 200 := by rw [Ra.xorS_size, hb]
  have zm : (macS Kt (Rk.bindS Kt k) (putS h ++ Ra.xorS (Rk.sealS Kt k) (nonceS h) body)).size = 32 := macS_size _ _ _
  have HT : Hid (Tb Kt w) := hT
  clear hT hf hk hb
  generalize Ra.xorS (Rk.sealS Kt k) (nonceS h) body = xo at *
  generalize macS Kt (Rk.bindS Kt k) (putS h ++ xo) = ma at *
  generalize Rk.sealS Kt k = se at *
  generalize Rk.bindS Kt k = bi at *
  generalize Rk.subE k = su at *
  generalize nonceS h = no at *
  generalize putS h = pu at *
  generalize blockS Kt k h body = bk at *
  obtain ⟨g, sec⟩ := k
  obtain ⟨a, b, c, d⟩ := h
  unfold hv Rk.kv at *
  simp only at HS HN HP ⊢
  go_enter Tryd.func29, Tryd.ntmps29
  go_wp2_with fail
  obtain ⟨w1, hw1⟩ : ∃ w1, (w.alloc (.cells #[.int .u32 g, .string sec] 44)).alloc (.cells #[.int .u32 a, .int .u32 b, .int .u32 c, .int .u64 d] 25) = w1 := ⟨_, rfl⟩
  have hn2 := Rp.two_new w (.cells #[.int .u32 g, .string sec] 44) (.cells #[.int .u32 a, .int .u32 b, .int .u32 c, .int .u64 d] 25)
  rw [hw1] at hn2
  have B1 : Hid (Below w.heap.size w w1) := hn2.2.2
  have X1 : Hid (w1.heap[w.heap.size + 1]? = some (.cells #[.int .u32 a, .int .u32 b, .int .u32 c, .int .u64 d] 25 (0, 0))) := hn2.2.1
  have l1 : w.heap.size + 1 < w1.heap.size := (Array.getElem?_eq_some_iff.1 hn2.2.1).1
  rw [hw1]
  clear hw1 hn2
  have HC : Hid (∀ W, Below w1.heap.size w1 W → W.cell? ⟨w.heap.size + 1, 0, none⟩ = some (.int .u32 a) ∧ W.cell? ⟨w.heap.size + 1, 1, none⟩ = some (.int .u32 b) ∧ W.cell? ⟨w.heap.size + 1, 2, none⟩ = some (.int .u32 c) ∧ W.cell? ⟨w.heap.size + 1, 3, none⟩ = some (.int .u64 d)) := fun W hB => by
    have hV := (hB.block _ l1).trans X1.out
    exact ⟨by rw [cell_of_row _ _ _ _ _ _ hV]; rfl, by rw [cell_of_row _ _ _ _ _ _ hV]; rfl, by rw [cell_of_row _ _ _ _ _ _ hV]; rfl, by rw [cell_of_row _ _ _ _ _ _ hV]; rfl⟩
  refine (HS.out w1 (HT.out.below B1.out (Nat.le_refl _))).mono ?_
  rintro e w2 ⟨rfl, b2⟩
  have D2 : Hid (Below w1.heap.size w1 w2) := b2
  clear b2 HS
  obtain ⟨ca, cb, cc, cd⟩ := HC.out w2 D2.out
  go_wp2_with fail
  clear ca cb cc cd
  refine (HN.out w2).mono ?_
  rintro e w3 ⟨rfl, b3⟩
  have D3 : Hid (Below w1.heap.size w1 w3) := D2.out.trans (b3.mono D2.out.size)
  clear b3 D2 HN
  go_wp2_with fail
  refine (HX.out w3 (HT.out.below (B1.out.trans (D3.out.mono B1.out.size)) (Nat.le_refl _))).mono ?_
  rintro e w4 ⟨rfl, b4⟩
  have D4 : Hid (Below w1.heap.size w1 w4) := D3.out.trans (b4.mono D3.out.size)
  clear b4 D3 HX
  obtain ⟨ca, cb, cc, cd⟩ := HC.out w4 D4.out
  have qs : ¬ 9223372036854775807 < pu.size + xo.size := by omega
  go_wp2_with fail
  clear ca cb cc cd
  refine (HP.out w4).mono ?_
  rintro e w5 ⟨rfl, b5⟩
  have D5 : Hid (Below w1.heap.size w1 w5) := D4.out.trans (b5.mono D4.out.size)
  clear b5 D4 HP
  have HT5 : Hid (Tb Kt w5) := HT.out.below (B1.out.trans (D5.out.mono B1.out.size)) (Nat.le_refl _)
  obtain ⟨ah, hah⟩ : ∃ ah, pu ++ xo = ah := ⟨_, rfl⟩
  have zah : ah.size = 224 := by rw [← hah, ByteArray.size_append]; omega
  have HAH : Hid (pu ++ xo = ah) := hah
  rw [hah] at HM HV
  clear hah
  have qt : ¬ 9223372036854775807 < ah.size + ma.size := by omega
  go_wp2_with fail
  rw [HAH.out]
  refine (HM.out w5 9 HT5.out).mono ?_
  rintro e w6 ⟨rfl, b6⟩
  have B6 : Hid (Below w.heap.size w w6) := B1.out.trans ((D5.out.trans (b6.mono D5.out.size)).mono B1.out.size)
  clear b6 D5 HM
  go_wp2_with fail
  go_ret
  exact ⟨by rw [HV.out]; rfl, B6.out⟩
end Go.Proofs.YtaoadopnhphjbaaDoor.Rs
