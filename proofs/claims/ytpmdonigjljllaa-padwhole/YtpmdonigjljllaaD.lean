/- The reference's Pad and Unpad. -/
import Derived.Test.YtpmdonigjljllaaC
namespace Go.Proofs.Ytpmdonigjljllaa
open Go.RowKit
/-- The length of a text in a slot. -/
def sizeOfV : Value → Nat | .string s => s.size | _ => 0
/-- The text that is filled up. -/
def fillS (s : ByteArray) (k : Nat) : ByteArray := strOfNums (upto (bodyN s) k)
theorem fill_size (s : ByteArray) (k : Nat) : (fillS s k).size = k := by unfold fillS; rw [strOfNums_size, upto_length]
theorem fill_bt (s : ByteArray) (hs : s.size ≤ 198) (k j : Nat) (h : j < k) : bt (fillS s k) j = bodyN s j := by
  have := bodyN_range s hs j
  exact bt_str _ _ _ h this.1 this.2
theorem fill_more (s : ByteArray) (hs : s.size ≤ 198) (k : Nat) (h : s.size + 2 ≤ k) : fillS s k ++ ⟨#[0]⟩ = fillS s (k + 1) := by
  refine bt_same _ _ (by rw [ByteArray.size_append, fill_size, fill_size]; rfl) fun j hj => ?_
  rw [ByteArray.size_append, fill_size] at hj
  have hj' : j < k + 1 := hj
  rw [bt_app, fill_size, fill_bt s hs _ _ hj']
  by_cases e : j < k
  · rw [if_pos e, fill_bt s hs _ _ e]
  · obtain rfl : j = k := by omega
    rw [if_neg e, Nat.sub_self]
    unfold bodyN
    rw [if_neg (by omega), if_neg (by omega), bt_out s _ (by omega)]
    rfl
theorem fill_first (s : ByteArray) (hs : s.size ≤ 198) : strOfNums [((s.size / 256 : Nat) : Int), ((s.size % 256 : Nat) : Int)] ++ s = fillS s (s.size + 2) := by
  refine bt_same _ _ (by rw [ByteArray.size_append, fill_size, strOfNums_size]; simp; omega) fun j hj => ?_
  rw [ByteArray.size_append, strOfNums_size] at hj
  simp only [List.length_cons, List.length_nil] at hj
  rw [bt_app, fill_bt s hs _ _ (by omega), strOfNums_size]
  simp only [List.length_cons, List.length_nil]
  unfold bodyN
  by_cases h0 : j = 0
  · subst h0
    rw [if_pos (by omega), if_pos rfl]
    simp [bt, strOfNums]; omega
  · by_cases h1 : j = 1
    · subst h1
      rw [if_pos (by omega), if_neg (by omega), if_pos rfl]
      simp [bt, strOfNums]; omega
    · rw [if_neg (by omega), if_neg (by omega), if_neg (by omega)]
set_option maxRecDepth 100000 in
set_option maxHeartbeats 1000000 in
theorem refPad_any (s : ByteArray) (w : World) :
    Calls Try.prog 11 #[.string s] w fun e w' => e = .returned (.tuple #[.string (padV s), .int .i64 (padE s)]) ∧ Below w.heap.size w w' := by
  by_cases hs : s.size ≤ 198
  · have q : ¬ (198 : Int) < (s.size : Int) := by omega
    have HV : Hid (padV s = bodyS s ∧ padE s = 0) := by refine (?_ : padV s = bodyS s ∧ padE s = 0); simp [padV, padE, hs]
    have HS : Hid (s.size ≤ 198) := hs
    have hcv : (convert 31 9 (.slice (some ⟨w.heap.size, 0, none⟩) 2 2)).run Try.prog (w.alloc (.cells #[.int .u8 ((s.size : Int) / 256), .int .u8 ((s.size : Int) % 256)] 5)) = .ok (.string (strOfNums [((s.size / 256 : Nat) : Int), ((s.size % 256 : Nat) : Int)])) (w.alloc (.cells #[.int .u8 ((s.size : Int) / 256), .int .u8 ((s.size : Int) % 256)] 5)) := by
      refine run_convert_bytes_arg _ 31 5 Try.underlying31 Try.underlying5 w.heap.size 0 2 2 _ rfl (fun i hi => ?_) 9 Try.underlying9
      rw [cell_of_row _ _ _ _ _ _ (heap_alloc_new w _), Nat.zero_add]
      match i, hi with
      | 0, _ => rfl
      | 1, _ => rfl
    have H1 : Hid (strOfNums [((s.size / 256 : Nat) : Int), ((s.size % 256 : Nat) : Int)] ++ s = fillS s (s.size + 2)) := fill_first s hs
    have hz : (strOfNums [((s.size / 256 : Nat) : Int), ((s.size % 256 : Nat) : Int)]).size = 2 := by rw [strOfNums_size]; rfl
    generalize strOfNums [((s.size / 256 : Nat) : Int), ((s.size % 256 : Nat) : Int)] = u at *
    go_enter Try.func11, Try.ntmps11
    go_wp2_with fail
    rw [H1.out]
    clear hcv H1 hz
    go_loopw [4] (fun v wr => ∃ k : Nat, s.size + 2 ≤ k ∧ k ≤ 200 ∧ v = .string (fillS s k) ∧ Below w.heap.size w wr) (fun v _ => 200 - sizeOfV v)
    case atStart => exact ⟨s.size + 2, by omega, by omega, rfl, below_new w _⟩
    case round =>
      obtain ⟨k, hk1, hk2, rfl, hb⟩ := hrel
      have HB : Hid (Below w.heap.size w wr) := hb
      have hz := fill_size s k
      have HM : Hid (fillS s k ++ ⟨#[0]⟩ = fillS s (k + 1)) := fill_more s HS.out k hk1
      have HK : Hid (s.size + 2 ≤ k) := hk1
      obtain ⟨f, hf⟩ : ∃ f, fillS s k = f := ⟨_, rfl⟩
      have HF : Hid (fillS s k = f) := hf
      rw [hf] at hz HM ⊢
      clear hb hf hk1
      by_cases hlt : k < 200
      · have q1 : (f.size : Int) < 200 := by omega
        go_wp2_with fail
        go_roundw
        case rel => exact ⟨k + 1, by have := HK.out; omega, by omega, by rw [← HM.out], HB.out⟩
        case measure => rw [HM.out]; simp only [sizeOfV, fill_size, hz]; omega
      · obtain rfl : k = 200 := by omega
        have q1 : ¬ (f.size : Int) < 200 := by omega
        clear hlt
        go_wp2_with fail
        refine bodyPost_ret (results_tmp2 rfl _ _ _) rfl ?_
        exact ⟨by rw [HV.out.1, HV.out.2, ← HF.out]; rfl, HB.out⟩
  · have q : (198 : Int) < (s.size : Int) := by omega
    have HV : Hid (padV s = ⟨#[]⟩ ∧ padE s = 50) := by refine (?_ : padV s = ⟨#[]⟩ ∧ padE s = 50); simp [padV, padE, hs]
    clear hs
    go_enter Try.func11, Try.ntmps11
    go_wp2_with fail
    refine bodyPost_ret (results_tmp2 rfl _ _ _) rfl ?_
    exact ⟨by rw [HV.out.1, HV.out.2]; rfl, Below.refl _ _⟩
end Go.Proofs.Ytpmdonigjljllaa
