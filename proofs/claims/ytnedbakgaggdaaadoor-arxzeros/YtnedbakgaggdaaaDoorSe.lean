/- Plain facts on texts under the stream: what was done twice is as it was. -/
import Derived.Test.YtnedbakgaggdaaaDoorSc
import Derived.Test.YtnedbakgaggdaaaDoorSa
namespace Go.Proofs.YtnedbakgaggdaaaDoor
/-- A text under the stream of a key and a nonce. -/
def xorS (key nonce s : ByteArray) : ByteArray := strOfNums (upto (xf s (strm (lf (cat (fun j => wds (tx key nonce j)) 4)) ((s.size + 63) / 64))) s.size)
theorem xorS_size (key nonce s : ByteArray) : (xorS key nonce s).size = s.size := by
  unfold xorS; rw [strOfNums_size, upto_length]
theorem u8_bits (op : BinOp) (a b : Int) : 0 ≤ bits op IntKind.u8 a b ∧ bits op IntKind.u8 a b < 256 := by
  unfold bits
  rw [IntKind.wrap_u8']
  omega
theorem xor8 (a b : Int) : bits BinOp.xor IntKind.u8 a b = ((BitVec.ofInt 8 a ^^^ BitVec.ofInt 8 b).toNat : Int) := by
  show IntKind.u8.wrap ((BitVec.ofInt 8 a ^^^ BitVec.ofInt 8 b).toNat : Int) = _
  rw [IntKind.wrap_u8']
  have := (BitVec.ofInt 8 a ^^^ BitVec.ofInt 8 b).isLt
  omega
theorem xor_xor (a k : Int) (h0 : 0 ≤ a) (h1 : a < 256) : bits BinOp.xor IntKind.u8 (bits BinOp.xor IntKind.u8 a k) k = a := by
  rw [xor8, xor8, BitVec.ofInt_natCast, BitVec.ofNat_toNat, BitVec.setWidth_eq, BitVec.xor_assoc, BitVec.xor_self, BitVec.xor_zero]
  obtain ⟨n, rfl⟩ := Int.eq_ofNat_of_zero_le h0
  rw [BitVec.ofInt_natCast, BitVec.toNat_ofNat]
  omega
theorem bt_range (s : ByteArray) (i : Nat) : 0 ≤ bt s i ∧ bt s i < 256 := by
  unfold bt
  have := (s.data[i]?.getD 0).toNat_lt
  omega
theorem bt_str (l : List Int) (i : Nat) (hi : i < l.length) (h0 : 0 ≤ l[i]) (h1 : l[i] < 256) : bt (strOfNums l) i = l[i] := by
  unfold bt strOfNums
  simp only [List.getElem?_toArray, List.getElem?_map, List.getElem?_eq_getElem hi, Option.map_some, Option.getD_some]
  rw [UInt8.toNat_ofNat']
  omega
theorem bt_upto (g : Nat → Int) (n i : Nat) (hi : i < n) (h0 : 0 ≤ g i) (h1 : g i < 256) : bt (strOfNums (upto g n)) i = g i := by
  have e : (upto g n)[i]'(by rw [upto_length]; exact hi) = g i := by simp [upto]
  rw [bt_str _ i (by rw [upto_length]; exact hi) (by rw [e]; exact h0) (by rw [e]; exact h1), e]
theorem str_bt (s : ByteArray) : strOfNums (upto (bt s) s.size) = s := by
  apply ByteArray.ext
  apply Array.ext
  · show (strOfNums (upto (bt s) s.size)).size = s.size
    rw [strOfNums_size, upto_length]
  · intro i h1 h2
    have hi : i < s.size := h2
    simp only [strOfNums, upto, List.getElem_toArray, List.getElem_map, List.getElem_range]
    unfold bt
    rw [Array.getElem?_eq_getElem h2]
    simp
theorem xorS_twice (key nonce s : ByteArray) : xorS key nonce (xorS key nonce s) = s := by
  have e : xorS key nonce (xorS key nonce s) = strOfNums (upto (bt s) s.size) := by
    show strOfNums (upto (xf (xorS key nonce s) (strm _ (((xorS key nonce s).size + 63) / 64))) (xorS key nonce s).size) = _
    rw [xorS_size]
    congr 1
    refine upto_congr fun i hi => ?_
    unfold xf
    have hr := u8_bits BinOp.xor (bt s i) (lf (kb (strm (lf (cat (fun j => wds (tx key nonce j)) 4)) ((s.size + 63) / 64))) i)
    have hb : bt (xorS key nonce s) i = bits BinOp.xor IntKind.u8 (bt s i) (lf (kb (strm (lf (cat (fun j => wds (tx key nonce j)) 4)) ((s.size + 63) / 64))) i) := by
      unfold xorS
      exact bt_upto _ _ i hi hr.1 hr.2
    rw [hb]
    exact xor_xor _ _ (bt_range s i).1 (bt_range s i).2
  rw [e, str_bt]
end Go.Proofs.YtnedbakgaggdaaaDoor
