/- Plain facts: a beginning of what comes out is what comes of the beginning; what is unlike in one byte is unlike there alone. -/
import Derived.Test.YtdblhepahbienaaDoorSh
namespace Go.Proofs.YtdblhepahbienaaDoor
theorem bt_xorS (key nonce s : ByteArray) (h1 : key.size = 32) (h2 : nonce.size = 12) (i : Nat) (hi : i < s.size) :
    bt (xorS key nonce s) i = bits BinOp.xor IntKind.u8 (bt s i) (bt (blkS key ((i / 64 : Nat) : Int) nonce) (i % 64)) := by
  rw [xorS_xr key nonce s h1 h2]
  have hr := u8_bits BinOp.xor (bt s i) (bt (blkS key ((i / 64 : Nat) : Int) nonce) (i % 64))
  exact bt_upto _ _ i hi hr.1 hr.2
theorem ext_bt (s t : ByteArray) (hs : s.size = t.size) (h : ∀ i, i < s.size → bt s i = bt t i) : s = t := by
  rw [← str_bt s, ← str_bt t, ← hs, upto_congr h]
theorem bt_ext (s : ByteArray) (a b i : Nat) (h : i < min b s.size - a) : bt (s.extract a b) i = bt s (a + i) := by
  unfold bt
  rw [ByteArray.data_extract, Array.getElem?_extract, if_pos (show i < min b s.data.size - a from h)]
/-- A text with one byte changed. -/
def chg (s : ByteArray) (at' : Nat) (c : UInt8) : ByteArray := s.extract 0 at' ++ ⟨#[c]⟩ ++ s.extract (at' + 1) s.size
theorem chg_size (s : ByteArray) (k : Nat) (c : UInt8) (hk : k < s.size) : (chg s k c).size = s.size := by
  unfold chg
  simp only [ByteArray.size_append, ByteArray.size_extract]
  show min k s.size - 0 + 1 + (min s.size s.size - (k + 1)) = s.size
  omega
theorem bt_app (s t : ByteArray) (i : Nat) : bt (s ++ t) i = if i < s.size then bt s i else bt t (i - s.size) := by
  unfold bt
  rw [ByteArray.data_append, Array.getElem?_append]
  by_cases h : i < s.size
  · rw [if_pos h, if_pos (show i < s.data.size from h)]
  · rw [if_neg h, if_neg (show ¬ i < s.data.size from h)]
    rfl
theorem bt_chg (s : ByteArray) (k : Nat) (c : UInt8) (hk : k < s.size) (i : Nat) (hi : i < s.size) : bt (chg s k c) i = if i = k then (c.toNat : Int) else bt s i := by
  have z1 : (s.extract 0 k).size = k := by simp; omega
  have z2 : (s.extract 0 k ++ ⟨#[c]⟩).size = k + 1 := by rw [ByteArray.size_append, z1]; rfl
  unfold chg
  rw [bt_app, z2]
  by_cases h1 : i < k + 1
  · rw [if_pos h1, bt_app, z1]
    by_cases h2 : i < k
    · rw [if_pos h2, if_neg (by omega), bt_ext _ _ _ _ (by omega), Nat.zero_add]
    · obtain rfl : i = k := by omega
      rw [if_neg h2, if_pos rfl, Nat.sub_self]
      rfl
  · rw [if_neg h1, if_neg (by omega), bt_ext _ _ _ _ (by omega), show k + 1 + (i - (k + 1)) = i by omega]
theorem begins_facts (key nonce s : ByteArray) (h1 : key.size = 32) (h2 : nonce.size = 12) (k : Nat) (c : UInt8) (hk : k < s.size) :
    (xorS key nonce s).extract 0 k = xorS key nonce (s.extract 0 k) ∧
    (xorS key nonce (chg s k c)).extract 0 k = xorS key nonce (s.extract 0 k) ∧
    (xorS key nonce (chg s k c)).extract (k + 1) s.size = (xorS key nonce s).extract (k + 1) s.size ∧
    bits BinOp.xor IntKind.u8 (bt (xorS key nonce s) k) (bt s k) = bits BinOp.xor IntKind.u8 (bt (xorS key nonce (chg s k c)) k) (c.toNat : Int) := by
  have z0 := xorS_size key nonce s
  have z1 : (xorS key nonce (chg s k c)).size = s.size := (xorS_size _ _ _).trans (chg_size s k c hk)
  have z2 : (xorS key nonce (s.extract 0 k)).size = k := (xorS_size _ _ _).trans (by simp; omega)
  have zc := chg_size s k c hk
  refine ⟨?_, ?_, ?_, ?_⟩
  · refine ext_bt _ _ (by rw [z2, ByteArray.size_extract, z0]; omega) fun i hi => ?_
    rw [ByteArray.size_extract, z0] at hi
    rw [bt_ext _ _ _ _ (by rw [z0]; omega), Nat.zero_add, bt_xorS _ _ _ h1 h2 i (by omega), bt_xorS _ _ _ h1 h2 i (by simp; omega), bt_ext _ _ _ _ (by omega), Nat.zero_add]
  · refine ext_bt _ _ (by rw [z2, ByteArray.size_extract, z1]; omega) fun i hi => ?_
    rw [ByteArray.size_extract, z1] at hi
    rw [bt_ext _ _ _ _ (by rw [z1]; omega), Nat.zero_add, bt_xorS _ _ _ h1 h2 i (by omega), bt_xorS _ _ _ h1 h2 i (by simp; omega), bt_ext _ _ _ _ (by omega), Nat.zero_add,
      bt_chg s k c hk i (by omega), if_neg (by omega)]
  · refine ext_bt _ _ (by rw [ByteArray.size_extract, ByteArray.size_extract, z0, z1]) fun i hi => ?_
    rw [ByteArray.size_extract, z1] at hi
    rw [bt_ext _ _ _ _ (by rw [z1]; omega), bt_ext _ _ _ _ (by rw [z0]; omega), bt_xorS _ _ _ h1 h2 _ (by omega), bt_xorS _ _ _ h1 h2 _ (by omega),
      bt_chg s k c hk _ (by omega), if_neg (by omega)]
  · rw [bt_xorS _ _ _ h1 h2 k hk, bt_xorS _ _ _ h1 h2 k (by omega), bt_chg s k c hk k hk, if_pos rfl, xor8, xor8, xor8, xor8]
    have e : ∀ x y : BitVec 8, BitVec.ofInt 8 ((x ^^^ y).toNat : Int) ^^^ x = y := fun x y => by
      rw [BitVec.ofInt_natCast, BitVec.ofNat_toNat, BitVec.setWidth_eq, BitVec.xor_comm x y, BitVec.xor_assoc, BitVec.xor_self, BitVec.xor_zero]
    rw [e, e]
end Go.Proofs.YtdblhepahbienaaDoor
