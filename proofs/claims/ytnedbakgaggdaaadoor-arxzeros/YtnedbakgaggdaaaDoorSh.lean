/- Plain facts: the stream's bytes are the blocks' bytes. -/
import Derived.Test.YtnedbakgaggdaaaDoorSe
import Derived.Test.YtnedbakgaggdaaaDoorK
namespace Go.Proofs.YtnedbakgaggdaaaDoor
theorem kb_upto (g : Nat → Int) (k : Nat) : kb (upto g k) = bts g k := by
  unfold kb upto bts cat
  rw [List.flatMap_map]
theorem kb_cat (g : Nat → List Int) (C : Nat) : kb (cat g C) = cat (fun c => kb (g c)) C := by
  unfold kb cat
  rw [List.flatMap_assoc]
theorem cat_get (B : Nat → List Int) (hB : ∀ c, (B c).length = 64) (C i : Nat) (hi : i < 64 * C) : (cat B C)[i]? = (B (i / 64))[i % 64]? := by
  induction C with
  | zero => omega
  | succ C ih =>
    have hl : (cat B C).length = 64 * C := by
      clear ih hi
      induction C with
      | zero => rfl
      | succ C ih => rw [cat_succ, List.length_append, ih, hB]; omega
    rw [cat_succ]
    by_cases h : i < 64 * C
    · rw [List.getElem?_append_left (by omega), ih h]
    · rw [List.getElem?_append_right (by omega), hl, show i / 64 = C by omega, show i % 64 = i - 64 * C by omega]
theorem bts_congr_le {f g : Nat → Int} (h : ∀ i, i < 16 → f i = g i) (k : Nat) (hk : k ≤ 16) : bts f k = bts g k := by
  induction k with
  | zero => rfl
  | succ k ih => rw [bts_succ, bts_succ, ih (by omega), h k (by omega)]
theorem bts_congr {f g : Nat → Int} (h : ∀ i, i < 16 → f i = g i) : bts f 16 = bts g 16 := bts_congr_le h 16 (by omega)
theorem rnds_congr {f g : Nat → Int} (h : ∀ i, i < 16 → f i = g i) (k : Nat) : ∀ i, i < 16 → rnds f k i = rnds g k i := by
  induction k with
  | zero => exact h
  | succ k ih => exact rnd_congr ih
theorem blk_congr {f g : Nat → Int} (h : ∀ i, i < 16 → f i = g i) : ∀ i, i < 16 → blk f i = blk g i := fun i hi => by
  unfold blk; rw [rnds_congr h 10 i hi, h i hi]
theorem tx_at (key : ByteArray) (c : Int) (nonce : ByteArray) (h1 : key.size = 32) (h2 : nonce.size = 12) (i : Nat) (hi : i < 16) :
    upd (lf (cat (fun j => wds (tx key nonce j)) 4)) 12 c i = stt key c nonce i := by
  have e := congrArg (fun a : Array Value => a[i]?) (tx_stt key c nonce h1 h2)
  simp only [stc_get _ i hi] at e
  injection e with e
  injection e
theorem bts_range (g : Nat → Int) (k : Nat) (z : Int) (hz : z ∈ bts g k) : 0 ≤ z ∧ z < 256 := by
  unfold bts cat at hz
  obtain ⟨i, _, hi⟩ := List.mem_flatMap.1 hz
  simp only [b4, List.mem_cons, List.not_mem_nil, or_false] at hi
  rcases hi with rfl | rfl | rfl | rfl <;> omega
theorem bt_blkS (key : ByteArray) (c : Int) (nonce : ByteArray) (i : Nat) (hi : i < 64) : bt (blkS key c nonce) i = (bts (blk (stt key c nonce)) 16)[i]?.getD 0 := by
  have hl : i < (bts (blk (stt key c nonce)) 16).length := by rw [bts_length]; exact hi
  have hr := bts_range _ _ _ (List.getElem_mem hl)
  unfold blkS
  rw [bt_str _ i hl hr.1 hr.2, List.getElem?_eq_getElem hl]; rfl
theorem strm_byte_of (F : Nat → Int) (key nonce : ByteArray) (hF : ∀ (c : Int) i, i < 16 → upd F 12 c i = stt key c nonce i) (C i : Nat) (hi : i < 64 * C) :
    lf (kb (strm F C)) i = bt (blkS key ((i / 64 : Nat) : Int) nonce) (i % 64) := by
  unfold strm lf
  rw [kb_cat, cat_get _ (fun c => by rw [kb_upto, bts_length]) C i hi, kb_upto, bt_blkS _ _ _ _ (Nat.mod_lt _ (by decide))]
  rw [bts_congr (blk_congr (hF ((i / 64 : Nat) : Int)))]
theorem strm_byte (key nonce : ByteArray) (h1 : key.size = 32) (h2 : nonce.size = 12) (C i : Nat) (hi : i < 64 * C) :
    lf (kb (strm (lf (cat (fun j => wds (tx key nonce j)) 4)) C)) i = bt (blkS key ((i / 64 : Nat) : Int) nonce) (i % 64) :=
  strm_byte_of _ key nonce (fun c i hi => tx_at key c nonce h1 h2 i hi) C i hi
/-- A text's byte under the block that its place is in. -/
def xr (key nonce s : ByteArray) : Nat → Int := fun i => bits BinOp.xor IntKind.u8 (bt s i) (bt (blkS key ((i / 64 : Nat) : Int) nonce) (i % 64))
theorem xorS_xr (key nonce s : ByteArray) (h1 : key.size = 32) (h2 : nonce.size = 12) : xorS key nonce s = strOfNums (upto (xr key nonce s) s.size) := by
  unfold xorS
  congr 1
  refine upto_congr fun i hi => ?_
  unfold xf xr
  rw [strm_byte key nonce h1 h2 _ i (by omega)]
end Go.Proofs.YtnedbakgaggdaaaDoor
