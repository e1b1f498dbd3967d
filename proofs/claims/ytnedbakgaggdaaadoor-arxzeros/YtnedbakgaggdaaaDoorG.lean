import Derived.Test.YtnedbakgaggdaaaDoorB
import Derived.Test.YtnedbakgaggdaaaDoorF
namespace Go.Proofs.YtnedbakgaggdaaaDoor
open Go.RowKit
def opn : ByteArray := ⟨#[101, 120, 112, 97, 110, 100, 32, 51, 50, 45, 98, 121, 116, 101, 32, 107]⟩
def nou : ByteArray := ⟨#[0, 0, 0, 0]⟩
/-- The texts of a state. -/
def tx (key nonce : ByteArray) : Nat → ByteArray
  | 0 => opn
  | 1 => key
  | 2 => nou
  | _ => nonce
/-- The state of a key, a counter and a nonce. -/
def stt (key : ByteArray) (c : Int) (nonce : ByteArray) : Nat → Int := fun i =>
  if i < 4 then wd opn i else if i < 12 then wd key (i - 4) else if i = 12 then c else wd nonce (i - 13)
theorem tx_all (key nonce : ByteArray) (h1 : key.size = 32) (h2 : nonce.size = 12) :
    cat (fun j => wds (tx key nonce j)) 4 = upto (wd opn) 4 ++ upto (wd key) 8 ++ upto (wd nou) 1 ++ upto (wd nonce) 3 := by
  have s0 : opn.size = 16 := by decide
  have s2 : nou.size = 4 := by decide
  have e0 : wds (tx key nonce 0) = upto (wd opn) 4 := by show upto (wd opn) (opn.size / 4) = _; rw [s0]
  have e1 : wds (tx key nonce 1) = upto (wd key) 8 := by show upto (wd key) (key.size / 4) = _; rw [h1]
  have e2 : wds (tx key nonce 2) = upto (wd nou) 1 := by show upto (wd nou) (nou.size / 4) = _; rw [s2]
  have e3 : wds (tx key nonce 3) = upto (wd nonce) 3 := by show upto (wd nonce) (nonce.size / 4) = _; rw [h2]
  simp only [cat_succ, e0, e1, e2, e3]
  simp [cat]
theorem tx_len (key nonce : ByteArray) (h1 : key.size = 32) (h2 : nonce.size = 12) : (cat (fun j => wds (tx key nonce j)) 4).length = 16 := by
  rw [tx_all key nonce h1 h2]; simp [upto_length]
theorem tx_stt (key : ByteArray) (c : Int) (nonce : ByteArray) (h1 : key.size = 32) (h2 : nonce.size = 12) :
    stc (upd (lf (cat (fun j => wds (tx key nonce j)) 4)) 12 c) = stc (stt key c nonce) := by
  rw [tx_all key nonce h1 h2]
  unfold stt
  generalize wd opn = f0
  generalize wd key = f1
  generalize wd nou = f2
  generalize wd nonce = f3
  have e : upto f0 4 ++ upto f1 8 ++ upto f2 1 ++ upto f3 3 = [f0 0, f0 1, f0 2, f0 3, f1 0, f1 1, f1 2, f1 3, f1 4, f1 5, f1 6, f1 7, f2 0, f3 0, f3 1, f3 2] := by simp [upto, List.range_succ]
  rw [e]
  simp [stc, upd, lf]
set_option maxHeartbeats 1000000 in
theorem begin_any (key nonce : ByteArray) (h1 : key.size = 32) (h2 : nonce.size = 12) (w : World) :
    Calls Tryd.prog 21 #[.string key, .string nonce] w fun e w' => e = .returned (.agg (stc (lf (cat (fun j => wds (tx key nonce j)) 4)))) ∧ Below w.heap.size w w' := by
  have HL := tx_len key nonce h1 h2
  have s0 : opn.size = 16 := by decide
  have s2 : nou.size = 4 := by decide
  have hts : ∀ j, j < 4 → (tx key nonce j).size ≤ maxLen := fun j hj => by
    match j, hj with
    | 0, _ => show opn.size ≤ _; rw [s0]; decide
    | 1, _ => show key.size ≤ _; rw [h1]; decide
    | 2, _ => show nou.size ≤ _; rw [s2]; decide
    | 3, _ => show nonce.size ≤ _; rw [h2]; decide
    | j + 4, h => exact absurd h (by omega)
  have zz : (#[.int .u32 0, .int .u32 0, .int .u32 0, .int .u32 0, .int .u32 0, .int .u32 0, .int .u32 0, .int .u32 0, .int .u32 0, .int .u32 0, .int .u32 0, .int .u32 0, .int .u32 0, .int .u32 0, .int .u32 0, .int .u32 0] : Array Value) = stc (lf []) := rfl
  go_enter Tryd.func21, Tryd.ntmps21
  go_wp2_with fail
  clear zz
  have hlast := heap_alloc_new (w.alloc (.cells (stc (lf [])) 41)) (.cells #[.string opn, .string key, .string nou, .string nonce] 9)
  rw [World.size_alloc] at hlast
  have hres := (Below.heap_alloc (w.alloc (.cells (stc (lf [])) 41)) (.cells #[.string opn, .string key, .string nou, .string nonce] 9) w.heap.size (by simp)).trans (heap_alloc_new w _)
  have hbel : Below w.heap.size w ((w.alloc (.cells (stc (lf [])) 41)).alloc (.cells #[.string opn, .string key, .string nou, .string nonce] 9)) := ((Below.refl _ w).alloc (Nat.le_refl _) _).alloc (by simp) _
  have hsz : ((w.alloc (.cells (stc (lf [])) 41)).alloc (.cells #[.string opn, .string key, .string nou, .string nonce] 9)).heap.size = w.heap.size + 1 + 1 := by simp
  have hfill := callsIn_wide.1 (fill_any (w.heap.size + 1) 4 4 (tx key nonce) (by omega) hts HL ((w.alloc (.cells (stc (lf [])) 41)).alloc (.cells #[.string opn, .string key, .string nou, .string nonce] 9)) (by simp)
    (fun j hj => by
      rw [cell_of_row _ _ _ _ _ _ hlast]
      match j, hj with
      | 0, _ => rfl
      | 1, _ => rfl
      | 2, _ => rfl
      | 3, _ => rfl
      | j + 4, h => exact absurd h (by omega)))
  rw [hsz] at hfill
  refine hfill.mono ?_
  rintro e w1 ⟨rfl, hb1⟩
  have HR : Hid (w1.heap[w.heap.size]? = some (.cells (stc (lf [])) 41 (0, 0))) := (hb1.block _ (by omega)).trans hres
  have HB : Hid (Below w.heap.size w w1) := hbel.trans (hb1.mono (by omega))
  clear hfill hlast hres hbel hsz hb1 hts HL h1 h2 s0 s2
  go_wp2_with (refine wpList_store_row rfl 41 _ _ rfl w.heap.size _ rfl rfl 41 _ HR.out (by rw [stc_size]; kernel_rfl) (by rw [stc_size, stc_size]) (stc_one _) ?_)
  refine bodyPost_ret (results_cell_row Tryd.results21 _ _ w.heap.size 41 _ (0, 0) _ rfl (setRow_heap _ _ _ _ _ _ HR.out) Tryd.underlying41 rfl (by rw [stc_size]; kernel_rfl)) rfl ⟨rfl, below_setRow HB.out (Nat.le_refl _) _⟩
end Go.Proofs.YtnedbakgaggdaaaDoor
