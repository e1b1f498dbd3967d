/- The reference's Bound and Seal. -/
import Derived.Test.YtaoadopnhphjbaaDoorPWK
import Derived.Test.YtaoadopnhphjbaaDoorPXI
import Derived.Test.YtaoadopnhphjbaaDoorQn
import Derived.Test.YtaoadopnhphjbaaDoorQk
import Derived.Test.YtaoadopnhphjbaaDoorQd
import Derived.Test.YtaoadopnhphjbaaDoorQx
namespace Go.Proofs.YtaoadopnhphjbaaDoor.Rs
open Go.RowKit Go.Lib
/-- The reference's table, as the program lays it. -/
def Tr (Kt : Nat → Int) (w : World) : Prop := ∃ tt fr, w.heap[0]? = some (.cells (w64 Kt) tt fr)
set_option maxRecDepth 100000 in
theorem Tr.below {Kt : Nat → Int} {w W : World} {B : Nat} (h : Tr Kt w) (hb : Below B w W) (hB : w.heap.size ≤ B) : Tr Kt W := by
  obtain ⟨t1, f1, h1⟩ := h
  exact ⟨t1, f1, (hb.block _ (Nat.lt_of_lt_of_le (Array.getElem?_eq_some_iff.1 h1).1 hB)).trans h1⟩
set_option maxRecDepth 100000 in
theorem rXor_is (key nonce s : ByteArray) (h1 : key.size = 32) (h2 : nonce.size = 12) (h : s.size ≤ 3000) (w : World) :
    Calls Tryd.prog 38 #[.string key, .string nonce, .string s] w fun e w' => e = .returned (.tuple #[.string (Ra.xorS key nonce s), .int .i64 0]) ∧ Below w.heap.size w w' := by
  rw [Ra.xorS_xr key nonce s h1 h2]
  exact Ra.rXor_yes key nonce s w h1 h2 h
set_option maxRecDepth 100000 in
set_option maxHeartbeats 2000000 in
theorem rBound_any (Kt : Nat → Int) (k : Rk.Ky) (hk : Rk.rightS [k] = true) (h : Hd) (hf : fits h) (body : ByteArray) (hb : body.size = 200) (w : World) (hT : Tr Kt w) :
    Calls Tryd.prog 32 #[Rk.kv k, hv h, .string body] w fun e w' => e = .returned (.string (putS h ++ Ra.xorS (Rk.sealS Kt k) (nonceS h) body)) ∧ Below w.heap.size w w' := by
  have HS : Hid (∀ W, Tr Kt W → Calls Tryd.prog 33 #[Rk.kv k] W fun e w' => e = .returned (.tuple #[.string (Rk.sealS Kt k), .string (Rk.bindS Kt k), .int .i64 (Rk.subE k)]) ∧ Below W.heap.size W w') := fun W ⟨_, _, h1⟩ => Rk.refSubs_any Kt k W h1
  have HX : Hid (∀ W, Calls Tryd.prog 38 #[.string (Rk.sealS Kt k), .string (nonceS h), .string body] W fun e w' => e = .returned (.tuple #[.string (Ra.xorS (Rk.sealS Kt k) (nonceS h) body), .int .i64 0]) ∧ Below W.heap.size W w') := rXor_is _ _ _ (seal_size Kt k hk) (nonce_size h) (by omega)
  have HN : Hid (∀ W, Calls Tryd.prog 39 #[hv h] W fun e w' => e = .returned (.string (nonceS h)) ∧ Below W.heap.size W w') := rNonce_any h hf
  have HP : Hid (∀ W, Calls Tryd.prog 14 #[hv h] W fun e w' => e = .returned (.string (putS h)) ∧ Below W.heap.size W w') := rPut_any h hf
  have zp : (putS h).size = 24 := put_size h
  have zx : (Ra.xorS (Rk.sealS Kt k) (nonceS h) body).size = 200 := by rw [Ra.xorS_size, hb]
  have HT : Hid (Tr Kt w) := hT
  clear hT hf hk hb
  generalize Ra.xorS (Rk.sealS Kt k) (nonceS h) body = xo at *
  generalize Rk.sealS Kt k = se at *
  generalize Rk.bindS Kt k = bi at *
  generalize Rk.subE k = su at *
  generalize nonceS h = no at *
  generalize putS h = pu at *
  obtain ⟨g, sec⟩ := k
  obtain ⟨a, b, c, d⟩ := h
  unfold hv Rk.kv at *
  simp only at HS HN HP ⊢
  go_enter Tryd.func32, Tryd.ntmps32
  go_wp2_with fail
  obtain ⟨w1, hw1⟩ : ∃ w1, (w.alloc (.cells #[.int .u32 g, .string sec] 44)).alloc (.cells #[.int .u32 a, .int .u32 b, .int .u32 c, .int .u64 d] 25) = w1 := ⟨_, rfl⟩
  have hn2 := Rp.two_new w (.cells #[.int .u32 g, .string sec] 44) (.cells #[.int .u32 a, .int .u32 b, .int .u32 c, .int .u64 d] 25)
  rw [hw1] at hn2
  have B1 : Hid (Below w.heap.size w w1) := hn2.2.2
  have X1 : Hid (w1.heap[w.heap.size + 1]? = some (.cells #[.int .u32 a, .int .u32 b, .int .u32 c, .int .u64 d] 25 (0, 0))) := hn2.2.1
  have l1 : w.heap.size + 1 < w1.heap.size := (Array.getElem?_eq_some_iff.1 hn2.2.1).1
  rw [hw1]
  clear hw1 hn2
  have HC : Hid (∀ W, Below w1.heap.size w1 W → W.cell? ⟨w.heap.size + 1, 0, none⟩ = some (.int .u32 a) ∧ W.cell? ⟨w.heap.size + 1, 1, none⟩ = some (.int .u32 b) ∧ W.cell? ⟨w.heap.size + 1, 2, none⟩ = some (.int .u32 c) ∧ W.cell? ⟨w.heap.size + 1, 3, none⟩ = some (.int .u64 d)) := fun W hB => by
    have hV := (hB.block _ l1).trans X1.out
    exact ⟨by rw [cell_of_row _ _ _ _ _ _ hV]; rfl, by rw [cell_of_row _ _ _ _ _ _ hV]; rfl, by rw [cell_of_row _ _ _ _ _ _ hV]; rfl, by rw [cell_of_row _ _ _ _ _ _ hV]; rfl⟩
  refine (HS.out w1 (HT.out.below B1.out (Nat.le_refl _))).mono ?_
  rintro e w2 ⟨rfl, b2⟩
  have D2 : Hid (Below w1.heap.size w1 w2) := b2
  clear b2 HS
  obtain ⟨ca, cb, cc, cd⟩ := HC.out w2 D2.out
  go_wp2_with fail
  clear ca cb cc cd
  refine (HN.out w2).mono ?_
  rintro e w3 ⟨rfl, b3⟩
  have D3 : Hid (Below w1.heap.size w1 w3) := D2.out.trans (b3.mono D2.out.size)
  clear b3 D2 HN
  go_wp2_with fail
  refine (HX.out w3).mono ?_
  rintro e w4 ⟨rfl, b4⟩
  have D4 : Hid (Below w1.heap.size w1 w4) := D3.out.trans (b4.mono D3.out.size)
  clear b4 D3 HX
  obtain ⟨ca, cb, cc, cd⟩ := HC.out w4 D4.out
  have qs : ¬ 9223372036854775807 < pu.size + xo.size := by omega
  go_wp2_with fail
  clear ca cb cc cd
  refine (HP.out w4).mono ?_
  rintro e w5 ⟨rfl, b5⟩
  have D5 : Hid (Below w1.heap.size w1 w5) := D4.out.trans (b5.mono D4.out.size)
  clear b5 D4 HP
  go_wp2_with fail
  go_ret
  exact ⟨rfl, B1.out.trans (D5.out.mono B1.out.size)⟩
end Go.Proofs.YtaoadopnhphjbaaDoor.Rs
