/- Plain facts: of bytes 0 the stream comes out, block by block. -/
import Derived.Test.YtnedbakgaggdaaaDoorSh
namespace Go.Proofs.YtnedbakgaggdaaaDoor
theorem bt_xorS (key nonce s : ByteArray) (h1 : key.size = 32) (h2 : nonce.size = 12) (i : Nat) (hi : i < s.size) :
    bt (xorS key nonce s) i = bits BinOp.xor IntKind.u8 (bt s i) (bt (blkS key ((i / 64 : Nat) : Int) nonce) (i % 64)) := by
  rw [xorS_xr key nonce s h1 h2]
  have hr := u8_bits BinOp.xor (bt s i) (bt (blkS key ((i / 64 : Nat) : Int) nonce) (i % 64))
  exact bt_upto _ _ i hi hr.1 hr.2
theorem ext_bt (s t : ByteArray) (hs : s.size = t.size) (h : ∀ i, i < s.size → bt s i = bt t i) : s = t := by
  rw [← str_bt s, ← str_bt t, ← hs, upto_congr h]
theorem bt_app (s t : ByteArray) (i : Nat) : bt (s ++ t) i = if i < s.size then bt s i else bt t (i - s.size) := by
  unfold bt
  rw [ByteArray.data_append, Array.getElem?_append]
  by_cases h : i < s.size
  · rw [if_pos h, if_pos (show i < s.data.size from h)]
  · rw [if_neg h, if_neg (show ¬ i < s.data.size from h)]
    rfl
/-- So many zero bytes, as a text. -/
def zeros (n : Nat) : ByteArray := strOfNums (List.replicate n 0)
theorem zeros_size (n : Nat) : (zeros n).size = n := by unfold zeros; rw [strOfNums_size]; simp
theorem bt_zeros (n i : Nat) (hi : i < n) : bt (zeros n) i = 0 := by
  unfold zeros
  rw [bt_str _ i (by simpa using hi) (by simp) (by simp)]
  simp
/-- The blocks, one behind the other. -/
def blks (key nonce : ByteArray) : Nat → ByteArray
  | 0 => ByteArray.empty
  | k + 1 => blks key nonce k ++ blkS key (k : Int) nonce
theorem blks_size (key nonce : ByteArray) (k : Nat) : (blks key nonce k).size = 64 * k := by
  induction k with
  | zero => rfl
  | succ k ih => unfold blks; rw [ByteArray.size_append, ih, blkS_size]; omega
theorem bt_blks (key nonce : ByteArray) (k i : Nat) (hi : i < 64 * k) : bt (blks key nonce k) i = bt (blkS key ((i / 64 : Nat) : Int) nonce) (i % 64) := by
  induction k with
  | zero => omega
  | succ k ih =>
    unfold blks
    rw [bt_app, blks_size]
    by_cases h : i < 64 * k
    · rw [if_pos h, ih h]
    · rw [if_neg h, show i - 64 * k = i % 64 by omega, show k = i / 64 by omega]
theorem zeros_stream (key nonce : ByteArray) (h1 : key.size = 32) (h2 : nonce.size = 12) (n : Nat) : xorS key nonce (zeros (64 * n)) = blks key nonce n := by
  refine ext_bt _ _ (by rw [xorS_size, zeros_size, blks_size]) fun i hi => ?_
  rw [xorS_size, zeros_size] at hi
  rw [bt_xorS _ _ _ h1 h2 i (by rw [zeros_size]; exact hi), bt_blks _ _ _ _ hi, bt_zeros _ _ hi, xor8]
  have hr := bt_range (blkS key ((i / 64 : Nat) : Int) nonce) (i % 64)
  generalize bt (blkS key ((i / 64 : Nat) : Int) nonce) (i % 64) = x at *
  obtain ⟨m, rfl⟩ := Int.eq_ofNat_of_zero_le hr.1
  rw [show BitVec.ofInt 8 0 = 0#8 from rfl, BitVec.zero_xor, BitVec.ofInt_natCast, BitVec.toNat_ofNat]
  omega
end Go.Proofs.YtnedbakgaggdaaaDoor
