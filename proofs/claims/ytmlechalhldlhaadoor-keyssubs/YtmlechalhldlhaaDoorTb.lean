/- The reference: a text, filled; the words that a sum begins with. -/
import Derived.Test.YtmlechalhldlhaaDoorS
namespace Go.Proofs.YtmlechalhldlhaaDoor
open Go.RowKit Go.Lib
theorem num_app (l l' : List Int) : strOfNums l ++ strOfNums l' = strOfNums (l ++ l') := by
  unfold strOfNums
  apply ByteArray.ext
  simp
theorem app_assoc (a b c : ByteArray) : a ++ b ++ c = a ++ (b ++ c) := by
  apply ByteArray.ext
  simp [Array.append_assoc]
/-- A text, filled. -/
def filS (s : ByteArray) : ByteArray := s ++ strOfNums (fil s.size)
theorem filS_size (s : ByteArray) : (filS s).size = s.size + (fil s.size).length := by
  unfold filS
  rw [ByteArray.size_append, strOfNums_size]
theorem bt_app (a b : ByteArray) (j : Nat) : bt (a ++ b) j = if j < a.size then bt a j else bt b (j - a.size) := by
  unfold bt
  have e : (a ++ b).data = a.data ++ b.data := by simp
  rw [e]
  by_cases h : j < a.size
  · rw [if_pos h, Array.getElem?_append_left h]
  · rw [if_neg h, Array.getElem?_append_right (by exact Nat.le_of_not_lt h)]; rfl
theorem bt_filS (s : ByteArray) (j : Nat) (hj : j < (filS s).size) : bt (filS s) j = mf (bt s) s.size j := by
  rw [filS_size] at hj
  unfold filS mf
  rw [bt_app]
  by_cases h : j < s.size
  · rw [if_pos h, if_pos h]
  · rw [if_neg h, if_neg h, bt_nums _ (fil_byte s.size) _ (by omega)]
/-- The text behind so many of its bytes 0. -/
def padS (s : ByteArray) (j : Nat) : ByteArray := s ++ strOfNums (128 :: List.replicate j 0)
theorem padS_zero (s : ByteArray) : padS s 0 = s ++ ⟨#[128]⟩ := rfl
theorem padS_succ (s : ByteArray) (j : Nat) : padS s (j + 1) = padS s j ++ ⟨#[0]⟩ := by
  unfold padS
  rw [app_assoc, show (ByteArray.mk #[0]) = strOfNums [0] from rfl, num_app, List.replicate_succ', List.cons_append]
theorem padS_size (s : ByteArray) (j : Nat) : (padS s j).size = s.size + 1 + j := by
  unfold padS
  rw [ByteArray.size_append, strOfNums_size, List.length_cons, List.length_replicate]; omega
theorem pad_more (n j : Nat) (h : j < nz n) : (n + 1 + j) % 64 ≠ 56 := by unfold nz at h; omega
theorem pad_end (n : Nat) : (n + 1 + nz n) % 64 = 56 := by unfold nz; omega
theorem padS_end (s : ByteArray) : padS s (nz s.size) ++ strOfNums (upto (fun j => ((s.size : Int) * 8) / 2 ^ (56 - 8 * j) % 256) 8) = filS s := by
  unfold padS filS fil
  rw [app_assoc, num_app, List.cons_append]
/-- Bytes in a new block, as a text. -/
theorem conv_new (w : World) (cs : Array Value) (l : List Int) (n : Nat) (hl : l.length = n) (hc : ∀ i, i < n → cs[i]? = some (.int .u8 (l.getD i 0))) :
    (convert 42 9 (.slice (some ⟨w.heap.size, 0, none⟩) n n)).run Tryd.prog (w.alloc (.cells cs 5)) = .ok (.string (strOfNums l)) (w.alloc (.cells cs 5)) := by
  refine run_convert_bytes_arg _ 42 5 Tryd.underlying42 Tryd.underlying5 w.heap.size 0 n n l hl (fun i hi => ?_) 9 Tryd.underlying9
  rw [cell_of_row _ _ _ _ _ _ (heap_alloc_new w _), Nat.zero_add]
  exact hc i hi
theorem filBytes (n : Int) (h0 : 0 ≤ n) (h1 : n ≤ 1000000) : upto (fun j => (n * 8) / 2 ^ (56 - 8 * j) % 256) 8 = [n * 8 / 72057594037927936, n * 8 / 281474976710656, n * 8 / 1099511627776, n * 8 / 4294967296, n * 8 / 16777216, n * 8 / 65536, n * 8 / 256 % 256, n * 8 % 256] := by
  have e : upto (fun j => (n * 8) / 2 ^ (56 - 8 * j) % 256) 8 = [n * 8 / 72057594037927936 % 256, n * 8 / 281474976710656 % 256, n * 8 / 1099511627776 % 256, n * 8 / 4294967296 % 256, n * 8 / 16777216 % 256, n * 8 / 65536 % 256, n * 8 / 256 % 256, n * 8 / 1 % 256] := rfl
  rw [e]
  have e0 : n * 8 / 72057594037927936 % 256 = n * 8 / 72057594037927936 := by omega
  have e1 : n * 8 / 281474976710656 % 256 = n * 8 / 281474976710656 := by omega
  have e2 : n * 8 / 1099511627776 % 256 = n * 8 / 1099511627776 := by omega
  have e3 : n * 8 / 4294967296 % 256 = n * 8 / 4294967296 := by omega
  have e4 : n * 8 / 16777216 % 256 = n * 8 / 16777216 := by omega
  have e5 : n * 8 / 65536 % 256 = n * 8 / 65536 := by omega
  have e7 : n * 8 / 1 % 256 = n * 8 % 256 := by omega
  rw [e0, e1, e2, e3, e4, e5, e7]
set_option maxHeartbeats 1000000 in
theorem filled_any (s : ByteArray) (hs : s.size ≤ 1000000) (w : World) :
    Calls Tryd.prog 30 #[.string s] w fun e w' => e = .returned (.string (filS s)) ∧ Below w.heap.size w w' := by
  have HS : Hid (s.size ≤ 1000000) := hs
  have z0 : (0 : Int) ≤ (s.size : Int) := by omega
  have z1 : (s.size : Int) ≤ 1000000 := by omega
  clear hs
  go_enter Tryd.func30, Tryd.ntmps30
  go_wp2_with fail
  go_loopw [3] (fun v wr => ∃ j : Nat, j ≤ nz s.size ∧ v = .string (padS s j) ∧ wr = w) (fun v _ => nz s.size + s.size + 1 - (match v with | .string b => b.size | _ => 0))
  case atStart => exact ⟨0, by omega, rfl, rfl⟩
  case round =>
    obtain ⟨j, hj, rfl, rfl⟩ := hrel
    have hnz : nz s.size ≤ 63 := by unfold nz; omega
    have hps := padS_size s j
    obtain ⟨p, hp⟩ : ∃ p, padS s j = p := ⟨_, rfl⟩
    have HP : Hid (padS s j = p) := hp
    rw [hp] at hps ⊢
    have hp2 : (p.size : Int) ≤ 1000100 := by have := HS.out; omega
    obtain ⟨q, hq⟩ : ∃ q, p.size % 64 = q := ⟨_, rfl⟩
    have t0 : (p.size : Int).tmod 64 = (q : Int) := by rw [Int.tmod_eq_emod_of_nonneg (by omega)]; omega
    have t1 : (p.size : Int) % 64 = (q : Int) := by omega
    by_cases hlt : j < nz s.size
    · have hne := pad_more s.size j hlt
      have q1 : ((q : Int) != 56) = true := by simp; omega
      have HPS : Hid (p.size = s.size + 1 + j) := hps
      clear hp hps hq hne
      go_wp2_with fail
      go_roundw
      case rel => exact ⟨j + 1, hlt, by rw [padS_succ, HP.out], trivial⟩
      case measure => have := HPS.out; have e0 : (ByteArray.mk #[0]).size = 1 := rfl; simp [e0]; omega
    · obtain rfl : j = nz s.size := by omega
      have hen := pad_end s.size
      have q1 : ((q : Int) != 56) = false := by simp; omega
      have hcv := conv_new wr #[.int .u8 ((s.size : Int) * 8 / 72057594037927936), .int .u8 ((s.size : Int) * 8 / 281474976710656), .int .u8 ((s.size : Int) * 8 / 1099511627776), .int .u8 ((s.size : Int) * 8 / 4294967296), .int .u8 ((s.size : Int) * 8 / 16777216), .int .u8 ((s.size : Int) * 8 / 65536), .int .u8 ((s.size : Int) * 8 / 256 % 256), .int .u8 ((s.size : Int) * 8 % 256)] (upto (fun j => ((s.size : Int) * 8) / 2 ^ (56 - 8 * j) % 256) 8) 8 (by rw [upto_length]) (fun i hi => by
        have e := filBytes (s.size : Int) z0 z1
        rw [e]
        match i, hi with
        | 0, _ => rfl
        | 1, _ => rfl
        | 2, _ => rfl
        | 3, _ => rfl
        | 4, _ => rfl
        | 5, _ => rfl
        | 6, _ => rfl
        | 7, _ => rfl)
      have HE : Hid (filS s = p ++ strOfNums (upto (fun j => ((s.size : Int) * 8) / 2 ^ (56 - 8 * j) % 256) 8)) := by rw [← HP.out]; exact (padS_end s).symm
      have hte : (strOfNums (upto (fun j => ((s.size : Int) * 8) / 2 ^ (56 - 8 * j) % 256) 8)).size = 8 := by rw [strOfNums_size, upto_length]
      generalize strOfNums (upto (fun j => ((s.size : Int) * 8) / 2 ^ (56 - 8 * j) % 256) 8) = T8 at *
      have HBL := below_new wr (.cells #[.int .u8 ((s.size : Int) * 8 / 72057594037927936), .int .u8 ((s.size : Int) * 8 / 281474976710656), .int .u8 ((s.size : Int) * 8 / 1099511627776), .int .u8 ((s.size : Int) * 8 / 4294967296), .int .u8 ((s.size : Int) * 8 / 16777216), .int .u8 ((s.size : Int) * 8 / 65536), .int .u8 ((s.size : Int) * 8 / 256 % 256), .int .u8 ((s.size : Int) * 8 % 256)] 5)
      have HB : Hid _ := HBL
      clear HBL hp hps hq hen
      go_wp2_with fail
      go_ret
      exact ⟨by rw [HE.out]; rfl, HB.out⟩
theorem first_any (w : World) : Calls Tryd.prog 31 #[] w fun e w' => e = .returned (.slice (some ⟨w.heap.size, 0, none⟩) 8 8) ∧ w' = w.alloc (.cells (st8 (lf IV)) 22) := by
  go_enter Tryd.func31, Tryd.ntmps31
  go_wp2_with fail
  go_ret
  exact ⟨rfl, rfl⟩
end Go.Proofs.YtmlechalhldlhaaDoor
