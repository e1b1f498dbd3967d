/- The plain functions behind the walks of arx: words, quarter turns, states, rounds, blocks. Plain facts on lists and texts: the words that texts say. Plain facts on the stream's bytes and on texts under it. Plain facts on texts under the stream: what was done twice is as it was. Plain facts on blocks. -/
import Derived.WalkKit
import Derived.Test.YtaoadopnhphjbaaDoorRows
import Derived.WalkSpells
import Derived.WalkLawsBesides
import Derived.Deep.QuietTactic
import Derived.BigQuiet
import Derived.Deep.RegionHeld3
import Derived.BigRegion
import Derived.Laws.CopyOwn
import Derived.RangeFuncNested
import Derived.RangeFuncBound
import Derived.RangeFuncCalls
import Derived.RangeFuncLeaves
import Derived.Shelf.Abstract
import Derived.Shelf.RegionOpen
import Derived.OwnWalkIn
import Derived.TacticsInMore
import Derived.LoopNIn
import Derived.LoopIn
import Derived.RegionIn
import Derived.WalkMore
import Derived.Laws.BytesArg
namespace Go.Proofs.YtaoadopnhphjbaaDoor.Ra
open Go.RowKit
def rot16 (x : Int) : Int := bits .or .u32 (x * 65536 % 4294967296) (x / 65536)
def rot12 (x : Int) : Int := bits .or .u32 (x * 4096 % 4294967296) (x / 1048576)
def rot8 (x : Int) : Int := bits .or .u32 (x * 256 % 4294967296) (x / 16777216)
def rot7 (x : Int) : Int := bits .or .u32 (x * 128 % 4294967296) (x / 33554432)
def qd1 (a b d : Int) : Int := rot16 (bits .xor .u32 d ((a + b) % 4294967296))
def qb1 (a b c d : Int) : Int := rot12 (bits .xor .u32 b ((c + qd1 a b d) % 4294967296))
def qa (a b c d : Int) : Int := (a + b + qb1 a b c d) % 4294967296
def qd (a b c d : Int) : Int := rot8 (bits .xor .u32 (qd1 a b d) (qa a b c d))
def qc (a b c d : Int) : Int := (c + qd1 a b d + qd a b c d) % 4294967296
def qb (a b c d : Int) : Int := rot7 (bits .xor .u32 (qb1 a b c d) (qc a b c d))
/-- The sixteen cells of a state. -/
def stc (f : Nat → Int) : Array Value := #[.int .u32 (f 0), .int .u32 (f 1), .int .u32 (f 2), .int .u32 (f 3), .int .u32 (f 4), .int .u32 (f 5), .int .u32 (f 6), .int .u32 (f 7), .int .u32 (f 8), .int .u32 (f 9), .int .u32 (f 10), .int .u32 (f 11), .int .u32 (f 12), .int .u32 (f 13), .int .u32 (f 14), .int .u32 (f 15)]
def upd (f : Nat → Int) (k : Nat) (x : Int) : Nat → Int := fun i => if i = k then x else f i
/-- A quarter turn of four words of a state, in their place. -/
def qt (f : Nat → Int) (a b c d : Nat) : Nat → Int :=
  upd (upd (upd (upd f a (qa (f a) (f b) (f c) (f d))) b (qb (f a) (f b) (f c) (f d))) c (qc (f a) (f b) (f c) (f d))) d (qd (f a) (f b) (f c) (f d))
/-- A round. -/
def rnd (f : Nat → Int) : Nat → Int :=
  qt (qt (qt (qt (qt (qt (qt (qt f 0 4 8 12) 1 5 9 13) 2 6 10 14) 3 7 11 15) 0 5 10 15) 1 6 11 12) 2 7 8 13) 3 4 9 14
def rnds (f : Nat → Int) : Nat → Nat → Int
  | 0 => f
  | k + 1 => rnd (rnds f k)
/-- The block's words. -/
def blk (f : Nat → Int) : Nat → Int := fun i => (rnds f 10 i + f i) % 4294967296
def tab : Array Value := #[.int .i64 0, .int .i64 4, .int .i64 8, .int .i64 12, .int .i64 1, .int .i64 5, .int .i64 9, .int .i64 13, .int .i64 2, .int .i64 6, .int .i64 10, .int .i64 14, .int .i64 3, .int .i64 7, .int .i64 11, .int .i64 15, .int .i64 0, .int .i64 5, .int .i64 10, .int .i64 15, .int .i64 1, .int .i64 6, .int .i64 11, .int .i64 12, .int .i64 2, .int .i64 7, .int .i64 8, .int .i64 13, .int .i64 3, .int .i64 4, .int .i64 9, .int .i64 14]
theorem stc_size (f : Nat → Int) : (stc f).size = 16 := rfl
theorem stc_get (f : Nat → Int) (k : Nat) (h : k < 16) : (stc f)[k]? = some (.int .u32 (f k)) := by
  match k, h with
  | 0, _ | 1, _ | 2, _ | 3, _ | 4, _ | 5, _ | 6, _ | 7, _ | 8, _ | 9, _ | 10, _ | 11, _ | 12, _ | 13, _ | 14, _ | 15, _ => rfl
  | k + 16, h => exact absurd h (by omega)
theorem stc_set (f : Nat → Int) (k : Nat) (x : Int) (h : k < 16) : (stc f).setIfInBounds k (.int .u32 x) = stc (upd f k x) := by
  match k, h with
  | 0, _ | 1, _ | 2, _ | 3, _ | 4, _ | 5, _ | 6, _ | 7, _ | 8, _ | 9, _ | 10, _ | 11, _ | 12, _ | 13, _ | 14, _ | 15, _ => rfl
  | k + 16, h => exact absurd h (by omega)
theorem stc_congr {f g : Nat → Int} (h : ∀ i, i < 16 → f i = g i) : stc f = stc g := by
  simp only [stc, h 0 (by decide), h 1 (by decide), h 2 (by decide), h 3 (by decide), h 4 (by decide), h 5 (by decide), h 6 (by decide), h 7 (by decide), h 8 (by decide), h 9 (by decide), h 10 (by decide), h 11 (by decide), h 12 (by decide), h 13 (by decide), h 14 (by decide), h 15 (by decide)]
end Go.Proofs.YtaoadopnhphjbaaDoor.Ra
namespace Go.Proofs.YtaoadopnhphjbaaDoor.Ra
open Go.RowKit

set_option maxRecDepth 100000 in
theorem rot16_any (x : Int) (w : World) :
    Calls Tryd.prog 106 #[.int .u32 x, .int .i64 16] w fun e w' => e = .returned (.int .u32 (rot16 x)) ∧ w' = w := by
  have h16 : bits BinOp.and IntKind.u64 16 31 = 16 := by decide +kernel
  go_enter Tryd.func106, Tryd.ntmps106
  go_wp2
  go_ret
  exact ⟨rfl, rfl⟩
set_option maxRecDepth 100000 in
theorem rot12_any (x : Int) (w : World) :
    Calls Tryd.prog 106 #[.int .u32 x, .int .i64 12] w fun e w' => e = .returned (.int .u32 (rot12 x)) ∧ w' = w := by
  have h16 : bits BinOp.and IntKind.u64 12 31 = 12 := by decide +kernel
  go_enter Tryd.func106, Tryd.ntmps106
  go_wp2
  go_ret
  exact ⟨rfl, rfl⟩
set_option maxRecDepth 100000 in
theorem rot8_any (x : Int) (w : World) :
    Calls Tryd.prog 106 #[.int .u32 x, .int .i64 8] w fun e w' => e = .returned (.int .u32 (rot8 x)) ∧ w' = w := by
  have h16 : bits BinOp.and IntKind.u64 8 31 = 8 := by decide +kernel
  go_enter Tryd.func106, Tryd.ntmps106
  go_wp2
  go_ret
  exact ⟨rfl, rfl⟩
set_option maxRecDepth 100000 in
theorem rot7_any (x : Int) (w : World) :
    Calls Tryd.prog 106 #[.int .u32 x, .int .i64 7] w fun e w' => e = .returned (.int .u32 (rot7 x)) ∧ w' = w := by
  have h16 : bits BinOp.and IntKind.u64 7 31 = 7 := by decide +kernel
  go_enter Tryd.func106, Tryd.ntmps106
  go_wp2
  go_ret
  exact ⟨rfl, rfl⟩


set_option maxRecDepth 100000 in
set_option maxHeartbeats 400000 in
theorem turned16_any (x : Int) (w : World) :
    Calls Tryd.prog 99 #[.int .u32 x, .int .i64 16] w fun e w' => e = .returned (.int .u32 (rot16 x)) ∧ ∃ n, w' = w.drewN n := by
  go_enter Tryd.func99, Tryd.ntmps99
  go_wp2
  go_quiet (fail)
  go_wp2
  go_ret
  exact ⟨rfl, _, rfl⟩

set_option maxRecDepth 100000 in
set_option maxHeartbeats 400000 in
theorem turned12_any (x : Int) (w : World) :
    Calls Tryd.prog 99 #[.int .u32 x, .int .i64 12] w fun e w' => e = .returned (.int .u32 (rot12 x)) ∧ ∃ n, w' = w.drewN n := by
  go_enter Tryd.func99, Tryd.ntmps99
  go_wp2
  go_quiet (fail)
  go_wp2
  go_ret
  exact ⟨rfl, _, rfl⟩

set_option maxRecDepth 100000 in
set_option maxHeartbeats 400000 in
theorem turned8_any (x : Int) (w : World) :
    Calls Tryd.prog 99 #[.int .u32 x, .int .i64 8] w fun e w' => e = .returned (.int .u32 (rot8 x)) ∧ ∃ n, w' = w.drewN n := by
  go_enter Tryd.func99, Tryd.ntmps99
  go_wp2
  go_quiet (fail)
  go_wp2
  go_ret
  exact ⟨rfl, _, rfl⟩

set_option maxRecDepth 100000 in
set_option maxHeartbeats 400000 in
theorem turned7_any (x : Int) (w : World) :
    Calls Tryd.prog 99 #[.int .u32 x, .int .i64 7] w fun e w' => e = .returned (.int .u32 (rot7 x)) ∧ ∃ n, w' = w.drewN n := by
  go_enter Tryd.func99, Tryd.ntmps99
  go_wp2
  go_quiet (fail)
  go_wp2
  go_ret
  exact ⟨rfl, _, rfl⟩

set_option maxRecDepth 100000 in
set_option maxHeartbeats 400000 in
theorem quarter_any (a b c d : Int) (w : World) :
    Calls Tryd.prog 102 #[.int .u32 a, .int .u32 b, .int .u32 c, .int .u32 d] w fun e w' => e = .returned (.agg #[.int .u32 (qa a b c d), .int .u32 (qb a b c d), .int .u32 (qc a b c d), .int .u32 (qd a b c d)]) ∧
      w' = w.alloc (.cells #[.int .u32 (qa a b c d), .int .u32 (qb a b c d), .int .u32 (qc a b c d), .int .u32 (qd a b c d)] 119) := by
  go_enter Tryd.func102, Tryd.ntmps102
  go_wp2_with fail
  refine (rot16_any _ _).mono ?_; rintro e w' ⟨rfl, rfl⟩
  go_wp2_with fail
  refine (rot12_any _ _).mono ?_; rintro e w' ⟨rfl, rfl⟩
  go_wp2_with fail
  refine (rot8_any _ _).mono ?_; rintro e w' ⟨rfl, rfl⟩
  go_wp2_with fail
  refine (rot7_any _ _).mono ?_; rintro e w' ⟨rfl, rfl⟩
  go_wp2_with fail
  exact bodyPost_ret (v := .agg #[.int .u32 (qa a b c d), .int .u32 (qb a b c d), .int .u32 (qc a b c d), .int .u32 (qd a b c d)]) (by simp [results, Tryd.results102, go_sem, qa, qb, qc, qd, qd1, qb1]) rfl ⟨rfl, rfl⟩
set_option maxRecDepth 100000 in
set_option maxHeartbeats 400000 in
theorem rquarter_any (a b c d : Int) (w : World) :
    Calls Tryd.prog 89 #[.int .u32 a, .int .u32 b, .int .u32 c, .int .u32 d] w fun e w' => e = .returned (.agg #[.int .u32 (qa a b c d), .int .u32 (qb a b c d), .int .u32 (qc a b c d), .int .u32 (qd a b c d)]) ∧
      Below w.heap.size w w' := by
  go_enter Tryd.func89, Tryd.ntmps89
  go_wp2_with fail
  refine (turned16_any _ _).mono ?_; rintro e w' ⟨rfl, n1, rfl⟩
  go_wp2_with fail
  refine (turned12_any _ _).mono ?_; rintro e w' ⟨rfl, n2, rfl⟩
  go_wp2_with fail
  refine (turned8_any _ _).mono ?_; rintro e w' ⟨rfl, n3, rfl⟩
  go_wp2_with fail
  refine (turned7_any _ _).mono ?_; rintro e w' ⟨rfl, n4, rfl⟩
  go_wp2_with fail
  refine bodyPost_ret (v := .agg #[.int .u32 (qa a b c d), .int .u32 (qb a b c d), .int .u32 (qc a b c d), .int .u32 (qd a b c d)]) (by simp [results, Tryd.results89, go_sem, qa, qb, qc, qd, qd1, qb1]) (by rfl) ⟨rfl, ?_⟩
  exact ((((below_drewN ((Below.refl _ w).alloc (Nat.le_refl _) _) _).setCell (Nat.le_refl _) _).setCell (Nat.le_refl _) _).setCell (Nat.le_refl _) _).setCell (Nat.le_refl _) _
end Go.Proofs.YtaoadopnhphjbaaDoor.Ra
namespace Go.Proofs.YtaoadopnhphjbaaDoor.Ra
open Go.RowKit

set_option maxRecDepth 100000 in
set_option maxHeartbeats 400000 in
theorem fit_yes (key nonce : ByteArray) (w : World) (h1 : key.size = 32) (h2 : nonce.size = 12) :
    Calls Tryd.prog 61 #[.string key, .string nonce] w fun e w' => e = .returned (.bool true) ∧ w' = w := by
  have g1 : ((key.size : Int) == 32) = true := by simp [h1]
  have g2 : ((nonce.size : Int) == 12) = true := by simp [h2]
  clear h1 h2
  go_enter Tryd.func61, Tryd.ntmps61
  go_wp2
  go_ret
  exact ⟨rfl, rfl⟩

set_option maxRecDepth 100000 in
set_option maxHeartbeats 400000 in
theorem fit_no (key nonce : ByteArray) (w : World) (h : ¬ (key.size = 32 ∧ nonce.size = 12)) :
    Calls Tryd.prog 61 #[.string key, .string nonce] w fun e w' => e = .returned (.bool false) ∧ w' = w := by
  by_cases h1 : key.size = 32
  · have g1 : ((key.size : Int) == 32) = true := by simp [h1]
    have g2 : ((nonce.size : Int) == 12) = false := by simp; omega
    clear h h1
    go_enter Tryd.func61, Tryd.ntmps61
    go_wp2
    go_ret
    exact ⟨rfl, rfl⟩
  · have g1 : ((key.size : Int) == 32) = false := by simp; omega
    clear h h1
    go_enter Tryd.func61, Tryd.ntmps61
    go_wp2
    go_ret
    exact ⟨rfl, rfl⟩

set_option maxRecDepth 100000 in
set_option maxHeartbeats 400000 in
theorem at_lit (x0 x1 x2 x3 x4 x5 x6 x7 x8 x9 x10 x11 x12 x13 x14 x15 c : Int) (w : World) :
    Calls Tryd.prog 79 #[.agg #[.int .u32 x0, .int .u32 x1, .int .u32 x2, .int .u32 x3, .int .u32 x4, .int .u32 x5, .int .u32 x6, .int .u32 x7, .int .u32 x8, .int .u32 x9, .int .u32 x10, .int .u32 x11, .int .u32 x12, .int .u32 x13, .int .u32 x14, .int .u32 x15], .int .u32 c] w fun e w' => e = .returned (.agg #[.int .u32 x0, .int .u32 x1, .int .u32 x2, .int .u32 x3, .int .u32 x4, .int .u32 x5, .int .u32 x6, .int .u32 x7, .int .u32 x8, .int .u32 x9, .int .u32 x10, .int .u32 x11, .int .u32 c, .int .u32 x13, .int .u32 x14, .int .u32 x15]) ∧ w' = (w.alloc (.cells #[.int .u32 x0, .int .u32 x1, .int .u32 x2, .int .u32 x3, .int .u32 x4, .int .u32 x5, .int .u32 x6, .int .u32 x7, .int .u32 x8, .int .u32 x9, .int .u32 x10, .int .u32 x11, .int .u32 c, .int .u32 x13, .int .u32 x14, .int .u32 x15] 93)).alloc (.cells #[.int .u32 x0, .int .u32 x1, .int .u32 x2, .int .u32 x3, .int .u32 x4, .int .u32 x5, .int .u32 x6, .int .u32 x7, .int .u32 x8, .int .u32 x9, .int .u32 x10, .int .u32 x11, .int .u32 c, .int .u32 x13, .int .u32 x14, .int .u32 x15] 93) := by
  go_enter Tryd.func79, Tryd.ntmps79
  go_wp2
  exact bodyPost_ret (v := .agg #[.int .u32 x0, .int .u32 x1, .int .u32 x2, .int .u32 x3, .int .u32 x4, .int .u32 x5, .int .u32 x6, .int .u32 x7, .int .u32 x8, .int .u32 x9, .int .u32 x10, .int .u32 x11, .int .u32 c, .int .u32 x13, .int .u32 x14, .int .u32 x15]) (by simp [results, Tryd.results79, go_sem]) rfl ⟨rfl, rfl⟩
set_option maxRecDepth 100000 in
theorem at_any (f : Nat → Int) (c : Int) (w : World) :
    Calls Tryd.prog 79 #[.agg (stc f), .int .u32 c] w fun e w' => e = .returned (.agg (stc (upd f 12 c))) ∧ w' = (w.alloc (.cells (stc (upd f 12 c)) 93)).alloc (.cells (stc (upd f 12 c)) 93) :=
  at_lit (f 0) (f 1) (f 2) (f 3) (f 4) (f 5) (f 6) (f 7) (f 8) (f 9) (f 10) (f 11) (f 12) (f 13) (f 14) (f 15) c w

end Go.Proofs.YtaoadopnhphjbaaDoor.Ra
namespace Go.Proofs.YtaoadopnhphjbaaDoor.Ra
open Go.RowKit
/-- A round's quarter turn number k. -/
def qtk (f : Nat → Int) (k : Nat) : Nat → Int :=
  match k with
  | 0 => qt f 0 4 8 12
  | 1 => qt f 1 5 9 13
  | 2 => qt f 2 6 10 14
  | 3 => qt f 3 7 11 15
  | 4 => qt f 0 5 10 15
  | 5 => qt f 1 6 11 12
  | 6 => qt f 2 7 8 13
  | _ => qt f 3 4 9 14
def rndTo (f : Nat → Int) : Nat → Nat → Int
  | 0 => f
  | k + 1 => qtk (rndTo f k) k
set_option maxRecDepth 100000 in
theorem gb_trans {w1 w2 w3 : World} {r : Option Nat} (h1 : w1.grownBy w2 r) (h2 : w2.grownBy w3 r) : w1.grownBy w3 r :=
  ⟨h2.os.trans h1.os, h2.tape.trans h1.tape, h2.output.trans h1.output, Nat.le_trans h1.size h2.size, fun k hk hne => (h2.block k (Nat.lt_of_lt_of_le hk h1.size) hne).trans (h1.block k hk hne)⟩
set_option maxRecDepth 100000 in
theorem size_set (w : World) (a : Addr) (v : Value) : (w.setCell a v).heap.size = w.heap.size := by simp [World.setCell]
set_option maxRecDepth 100000 in
theorem alloc3_old (W : World) (k : Nat) (h : k < W.heap.size) (o1 o2 o3 : Obj) : (((W.alloc o1).alloc o2).alloc o3).heap[k]? = W.heap[k]? := by
  rw [Below.heap_alloc _ _ _ (by simp; omega), Below.heap_alloc _ _ _ (by simp; omega), Below.heap_alloc _ _ _ h]
set_option maxRecDepth 100000 in
theorem set_row (w : World) (B a : Nat) (f : Nat → Int) (x : Int) (hb : w.heap[B]? = some (.cells (stc f) 93 (0, 0))) (ha : a < 16) :
    (w.setCell ⟨B, a, none⟩ (.int .u32 x)).heap[B]? = some (.cells (stc (upd f a x)) 93 (0, 0)) := by
  rw [heap_setCell_same w B a _ _ _ hb, stc_set _ _ _ ha]
set_option maxRecDepth 100000 in
theorem sets_row (wr : World) (B a b c d : Nat) (f : Nat → Int) (x y z v : Int) (hb : wr.heap[B]? = some (.cells (stc f) 93 (0, 0))) (ha : a < 16) (hb' : b < 16) (hc : c < 16) (hd : d < 16) :
    ((((wr.setCell ⟨B, a, none⟩ (.int .u32 x)).setCell ⟨B, b, none⟩ (.int .u32 y)).setCell ⟨B, c, none⟩ (.int .u32 z)).setCell ⟨B, d, none⟩ (.int .u32 v)).heap[B]? = some (.cells (stc (upd (upd (upd (upd f a x) b y) c z) d v)) 93 (0, 0)) ∧
    wr.grownBy ((((wr.setCell ⟨B, a, none⟩ (.int .u32 x)).setCell ⟨B, b, none⟩ (.int .u32 y)).setCell ⟨B, c, none⟩ (.int .u32 z)).setCell ⟨B, d, none⟩ (.int .u32 v)) (some B) ∧
    ((((wr.setCell ⟨B, a, none⟩ (.int .u32 x)).setCell ⟨B, b, none⟩ (.int .u32 y)).setCell ⟨B, c, none⟩ (.int .u32 z)).setCell ⟨B, d, none⟩ (.int .u32 v)).heap.size = wr.heap.size := by
  refine ⟨set_row _ _ _ _ _ (set_row _ _ _ _ _ (set_row _ _ _ _ _ (set_row _ _ _ _ _ hb ha) hb') hc) hd, ⟨rfl, rfl, rfl, ?_, fun k hk hne => ?_⟩, ?_⟩
  · rw [size_set, size_set, size_set, size_set]; exact Nat.le_refl _
  · have hne' : k ≠ B := fun e => hne (by rw [e])
    rw [Below.heap_setCell _ _ _ _ hne', Below.heap_setCell _ _ _ _ hne', Below.heap_setCell _ _ _ _ hne', Below.heap_setCell _ _ _ _ hne']
  · rw [size_set, size_set, size_set, size_set]
set_option maxRecDepth 100000 in
theorem end_row {wr W : World} {B : Nat} {f : Nat → Int} (h : W.heap[B]? = some (.cells (stc f) 93 (0, 0)) ∧ wr.grownBy W (some B) ∧ W.heap.size = wr.heap.size) (o1 o2 o3 : Obj) :
    (((W.alloc o1).alloc o2).alloc o3).drew.drew.heap[B]? = some (.cells (stc f) 93 (0, 0)) ∧ wr.grownBy (((W.alloc o1).alloc o2).alloc o3).drew.drew (some B) := by
  have hlt : B < W.heap.size := (Array.getElem?_eq_some_iff.1 h.1).1
  refine ⟨(alloc3_old W B hlt o1 o2 o3).trans h.1, ⟨h.2.1.os, h.2.1.tape, h.2.1.output, ?_, fun k hk hne => (alloc3_old W k (by omega) o1 o2 o3).trans (h.2.1.block k hk hne)⟩⟩
  show wr.heap.size ≤ (((W.alloc o1).alloc o2).alloc o3).heap.size
  simp
  omega
set_option maxRecDepth 100000 in
theorem row_k (k : Nat) (hk : k < 8) : ∃ a b c d : Nat, a < 16 ∧ b < 16 ∧ c < 16 ∧ d < 16 ∧ a ≠ b ∧ a ≠ c ∧ a ≠ d ∧ b ≠ c ∧ b ≠ d ∧ c ≠ d ∧ (∀ f, qtk f k = qt f a b c d) ∧
    ∀ w, (Instr.index 136 (.agg tab) (.int .i64 (k : Int))).run Tryd.prog w = .ok (.agg #[.int .i64 (a : Int), .int .i64 (b : Int), .int .i64 (c : Int), .int .i64 (d : Int)]) w :=
  match k, hk with
  | 0, _ => ⟨0, 4, 8, 12, by decide, by decide, by decide, by decide, by decide, by decide, by decide, by decide, by decide, by decide, fun _ => rfl, fun _ => by kernel_rfl⟩
  | 1, _ => ⟨1, 5, 9, 13, by decide, by decide, by decide, by decide, by decide, by decide, by decide, by decide, by decide, by decide, fun _ => rfl, fun _ => by kernel_rfl⟩
  | 2, _ => ⟨2, 6, 10, 14, by decide, by decide, by decide, by decide, by decide, by decide, by decide, by decide, by decide, by decide, fun _ => rfl, fun _ => by kernel_rfl⟩
  | 3, _ => ⟨3, 7, 11, 15, by decide, by decide, by decide, by decide, by decide, by decide, by decide, by decide, by decide, by decide, fun _ => rfl, fun _ => by kernel_rfl⟩
  | 4, _ => ⟨0, 5, 10, 15, by decide, by decide, by decide, by decide, by decide, by decide, by decide, by decide, by decide, by decide, fun _ => rfl, fun _ => by kernel_rfl⟩
  | 5, _ => ⟨1, 6, 11, 12, by decide, by decide, by decide, by decide, by decide, by decide, by decide, by decide, by decide, by decide, fun _ => rfl, fun _ => by kernel_rfl⟩
  | 6, _ => ⟨2, 7, 8, 13, by decide, by decide, by decide, by decide, by decide, by decide, by decide, by decide, by decide, by decide, fun _ => rfl, fun _ => by kernel_rfl⟩
  | 7, _ => ⟨3, 4, 9, 14, by decide, by decide, by decide, by decide, by decide, by decide, by decide, by decide, by decide, by decide, fun _ => rfl, fun _ => by kernel_rfl⟩
  | k + 8, h => absurd h (by omega)
set_option maxRecDepth 100000 in
set_option maxHeartbeats 1000000 in
theorem round_any (f : Nat → Int) (B : Nat) (w : World) (hB : w.heap[B]? = some (.cells (stc f) 93 (0, 0))) {tt : TypeId} {fr : Nat × Nat} (hg : w.heap[1]? = some (.cells tab tt fr)) :
    Calls Tryd.prog 92 #[.pointer (some ⟨B, 0, none⟩)] w fun e w' => e = .returned (.tuple #[]) ∧ w'.heap[B]? = some (.cells (stc (rnd f)) 93 (0, 0)) ∧ w.grownBy w' (some B) := by
  go_enter Tryd.func92, Tryd.ntmps92
  go_wp2_with (refine wpList_load_row rfl 136 _ rfl 1 rfl tt _ fr _ hg Tryd.underlying136 rfl (by kernel_rfl) ?_)
  clear hg
  go_loopw [6] (fun i wr => ∃ k : Nat, k ≤ 8 ∧ i = .int .i64 k ∧ wr.heap[B]? = some (.cells (stc (rndTo f k)) 93 (0, 0)) ∧ w.grownBy wr (some B)) (fun i _ => 8 - (intOf i).toNat)
  case atStart => exact ⟨0, by omega, rfl, hB, ⟨rfl, rfl, rfl, Nat.le_refl _, fun _ _ _ => rfl⟩⟩
  case round =>
    obtain ⟨k, hk, rfl, hb, hgr⟩ := hrel
    clear hB
    by_cases hlt : k < 8
    · obtain ⟨a, b, c, d, ha, hb', hc, hd, nab, nac, nad, nbc, nbd, ncd, hqt, hidx⟩ := row_k k hlt
      have HQ : Hid (rndTo f (k + 1) = qt (rndTo f k) a b c d) := hqt _
      clear hqt
      generalize rndTo f k = F at *
      have Ha := ha
      have Hb := hb'
      have Hc := hc
      have Hd := hd
      have ca := (cell_of_row wr B a _ _ _ hb).trans (stc_get F a Ha)
      have za := frozen_of_row wr B a _ _ hb
      have ga : (0 : Int) ≤ (a : Int) := by omega
      have ea : (a : Int) < 16 := by omega
      have cb := (cell_of_row wr B b _ _ _ hb).trans (stc_get F b Hb)
      have zb := frozen_of_row wr B b _ _ hb
      have gb : (0 : Int) ≤ (b : Int) := by omega
      have eb : (b : Int) < 16 := by omega
      have cc := (cell_of_row wr B c _ _ _ hb).trans (stc_get F c Hc)
      have zc := frozen_of_row wr B c _ _ hb
      have gc : (0 : Int) ≤ (c : Int) := by omega
      have ec : (c : Int) < 16 := by omega
      have cd := (cell_of_row wr B d _ _ _ hb).trans (stc_get F d Hd)
      have zd := frozen_of_row wr B d _ _ hb
      have gd : (0 : Int) ≤ (d : Int) := by omega
      have ed : (d : Int) < 16 := by omega

      have l0 : B < wr.heap.size := block_lt_of_cell ca
      have l1 : B < wr.heap.size + 1 := Nat.lt_succ_of_lt l0
      have l2 : B < wr.heap.size + 1 + 1 := Nat.lt_succ_of_lt l1
      have l3 : B < wr.heap.size + 1 + 1 + 1 := Nat.lt_succ_of_lt l2
      have HB : Hid (wr.heap[B]? = some (.cells (stc F) 93 (0, 0))) := hb
      have HG : Hid (w.grownBy wr (some B)) := hgr
      clear hb hgr
      go_wp2
      go_region_held3 (fun w' => w'.cell? ⟨wr.heap.size, 0, none⟩ = some (.int .i64 (a : Int)) ∧ w'.cell? ⟨wr.heap.size, 1, none⟩ = some (.int .i64 (b : Int)) ∧ w'.cell? ⟨wr.heap.size, 2, none⟩ = some (.int .i64 (c : Int)) ∧ w'.cell? ⟨wr.heap.size, 3, none⟩ = some (.int .i64 (d : Int)) ∧ w'.cell? ⟨B, a, none⟩ = some (.int .u32 (F a)) ∧ w'.cell? ⟨B, b, none⟩ = some (.int .u32 (F b)) ∧ w'.cell? ⟨B, c, none⟩ = some (.int .u32 (F c)) ∧ w'.cell? ⟨B, d, none⟩ = some (.int .u32 (F d))) (simp [*, go_sem, World.cell?_alloc_past]) ((go_at_call 102; refine (quarter_any _ _ _ _ _).mono ?_; rintro e w' ⟨rfl, rfl⟩))
      all_goals go_wp2
      all_goals go_region_held3 (fun w' => w'.cell? ⟨wr.heap.size, 0, none⟩ = some (.int .i64 (a : Int)) ∧ w'.cell? ⟨wr.heap.size, 1, none⟩ = some (.int .i64 (b : Int)) ∧ w'.cell? ⟨wr.heap.size, 2, none⟩ = some (.int .i64 (c : Int)) ∧ w'.cell? ⟨wr.heap.size, 3, none⟩ = some (.int .i64 (d : Int)) ∧ w'.cell? ⟨wr.heap.size + 1, 0, none⟩ = some (.int .u32 (qa (F a) (F b) (F c) (F d))) ∧ w'.cell? ⟨wr.heap.size + 1, 1, none⟩ = some (.int .u32 (qb (F a) (F b) (F c) (F d))) ∧ w'.cell? ⟨wr.heap.size + 1, 2, none⟩ = some (.int .u32 (qc (F a) (F b) (F c) (F d))) ∧ w'.cell? ⟨wr.heap.size + 1, 3, none⟩ = some (.int .u32 (qd (F a) (F b) (F c) (F d))) ∧ w'.cell? ⟨wr.heap.size + 1 + 1, 0, none⟩ = some (.int .u32 (qa (F a) (F b) (F c) (F d))) ∧ w'.cell? ⟨wr.heap.size + 1 + 1, 1, none⟩ = some (.int .u32 (qb (F a) (F b) (F c) (F d))) ∧ w'.cell? ⟨wr.heap.size + 1 + 1, 2, none⟩ = some (.int .u32 (qc (F a) (F b) (F c) (F d))) ∧ w'.cell? ⟨wr.heap.size + 1 + 1, 3, none⟩ = some (.int .u32 (qd (F a) (F b) (F c) (F d)))) (simp [*, go_sem, World.cell?_alloc_past]) (fail)
      all_goals go_wp2
      all_goals exact ⟨⟨k + 1, by omega, by go_num, by rw [HQ.out]; exact (end_row (sets_row wr B a b c d F _ _ _ _ HB.out Ha Hb Hc Hd) _ _ _).1, gb_trans HG.out (end_row (sets_row wr B a b c d F _ _ _ _ HB.out Ha Hb Hc Hd) _ _ _).2⟩, by simp [intOf]; omega⟩
    · have : k = 8 := by omega
      subst this
      go_wp2
      go_end0
      exact ⟨rfl, hb, hgr⟩
end Go.Proofs.YtaoadopnhphjbaaDoor.Ra
namespace Go.Proofs.YtaoadopnhphjbaaDoor.Ra
open Go.RowKit
set_option maxRecDepth 100000 in
theorem three_new (w : World) (a b c : Obj) : (((w.alloc a).alloc b).alloc c).drew.heap[w.heap.size]? = some a ∧ (((w.alloc a).alloc b).alloc c).drew.heap[w.heap.size + 1]? = some b ∧
    (((w.alloc a).alloc b).alloc c).drew.heap[w.heap.size + 1 + 1]? = some c ∧ (((w.alloc a).alloc b).alloc c).drew.heap.size = w.heap.size + 3 ∧ Below w.heap.size w (((w.alloc a).alloc b).alloc c).drew := by
  refine ⟨?_, ?_, ?_, by simp [World.drew], (((((Below.refl _ w).alloc (Nat.le_refl _) _).alloc (by simp) _).alloc (by simp; omega) _).drew)⟩
  · show (((w.alloc a).alloc b).alloc c).heap[w.heap.size]? = some a
    rw [Below.heap_alloc _ _ _ (by simp; omega), Below.heap_alloc _ _ _ (by simp)]
    exact heap_alloc_new w a
  · show (((w.alloc a).alloc b).alloc c).heap[w.heap.size + 1]? = some b
    rw [Below.heap_alloc _ _ _ (by simp)]
    simpa using heap_alloc_new (w.alloc a) b
  · show (((w.alloc a).alloc b).alloc c).heap[w.heap.size + 1 + 1]? = some c
    simpa using heap_alloc_new ((w.alloc a).alloc b) c
set_option maxRecDepth 100000 in
theorem stc_one (f : Nat → Int) : (stc f).all (·.oneCell') = true := by simp [stc, Value.oneCell']
set_option maxRecDepth 100000 in
theorem copy_run (f : Nat → Int) (w : World) (o : Obj) (old : Array Value) (hold : old.size = 16) :
    Sem.run Tryd.prog (Builtin.copy_ #[98, 98] 3 #[.slice (some ⟨w.heap.size + 1 + 1, 0, none⟩) 16 16, .slice (some ⟨w.heap.size, 0, none⟩) 16 16])
      (((w.alloc (.cells (stc f) 93 (0, 0))).alloc o).alloc (.cells old 93 (0, 0))).drew = .ok (.int .i64 16) ((((w.alloc (.cells (stc f) 93 (0, 0))).alloc o).alloc (.cells old 93 (0, 0))).drew.setRow (w.heap.size + 1 + 1) (stc f)) := by
  have h3 := three_new w (.cells (stc f) 93 (0, 0)) o (.cells old 93 (0, 0))
  rw [run_copy_row (P := Tryd.prog) _ 98 98 3 22 (w.heap.size + 1 + 1) 0 16 16 ⟨w.heap.size, 0, none⟩ 16 16 old 93 (stc f).toList Tryd.underlying98 (by kernel_rfl) h3.2.2.1 rfl
    (fun j v hj => by
      rw [Addr.add_lit, cell_of_row _ _ _ _ _ _ h3.1, Nat.zero_add]
      simpa using hj)
    (by simp [hold, stc]) (fun v hv => by
      have := (Array.all_eq_true_iff_forall_mem.1 (stc_one f)) v (by simpa using hv)
      simpa using this)]
  have e : (old.toList.take 0 ++ (stc f).toList ++ old.toList.drop (0 + (stc f).toList.length)).toArray = stc f := by
    have h0 : old.toList.drop (0 + (stc f).toList.length) = [] := List.drop_eq_nil_of_le (by simp [hold, stc])
    rw [h0]; simp
  rw [e]
  rfl
set_option maxRecDepth 100000 in
theorem idx_k (f : Nat → Int) (k : Nat) (hk : k < 16) (w : World) : (Instr.index 93 (.agg (stc f)) (.int .i64 (k : Int))).run Tryd.prog w = .ok (.int .u32 (f k)) w :=
  match k, hk with
  | 0, _ => by kernel_rfl
  | 1, _ => by kernel_rfl
  | 2, _ => by kernel_rfl
  | 3, _ => by kernel_rfl
  | 4, _ => by kernel_rfl
  | 5, _ => by kernel_rfl
  | 6, _ => by kernel_rfl
  | 7, _ => by kernel_rfl
  | 8, _ => by kernel_rfl
  | 9, _ => by kernel_rfl
  | 10, _ => by kernel_rfl
  | 11, _ => by kernel_rfl
  | 12, _ => by kernel_rfl
  | 13, _ => by kernel_rfl
  | 14, _ => by kernel_rfl
  | 15, _ => by kernel_rfl
  | k + 16, h => absurd h (by omega)
/-- The words behind the rounds, the first k of them laid to those that were. -/
def addTo (f : Nat → Int) (k : Nat) : Nat → Int := fun i => if i < k then (rnds f 10 i + f i) % 4294967296 else rnds f 10 i
set_option maxRecDepth 100000 in
theorem addTo_succ (f : Nat → Int) (k : Nat) : addTo f (k + 1) = upd (addTo f k) k ((rnds f 10 k + f k) % 4294967296) := by
  funext i
  unfold addTo upd
  by_cases h : i = k
  · subst h; simp
  · have : (i < k + 1) = (i < k) := by simp; omega
    simp [h, this]
set_option maxRecDepth 100000 in
theorem addTo_at (f : Nat → Int) (k : Nat) : addTo f k k = rnds f 10 k := by simp [addTo]
set_option maxRecDepth 100000 in
set_option maxHeartbeats 1000000 in
theorem block_any (f : Nat → Int) (w : World) {tt : TypeId} {fr : Nat × Nat} (hg : w.heap[1]? = some (.cells tab tt fr)) :
    Calls Tryd.prog 80 #[.agg (stc f)] w fun e w' => e = .returned (.agg (stc (blk f))) ∧ Below w.heap.size w w' := by
  have HG : Hid (w.heap[1]? = some (.cells tab tt fr)) := hg
  have hw0 : 1 < w.heap.size := (Array.getElem?_eq_some_iff.1 hg).1
  clear hg
  have hcp := copy_run f w (.cells (stc fun _ => 0) 93 (0, 0)) (stc fun _ => 0) rfl
  simp only [show (stc fun _ => 0) = #[.int .u32 0, .int .u32 0, .int .u32 0, .int .u32 0, .int .u32 0, .int .u32 0, .int .u32 0, .int .u32 0, .int .u32 0, .int .u32 0, .int .u32 0, .int .u32 0, .int .u32 0, .int .u32 0, .int .u32 0, .int .u32 0] from rfl] at hcp
  go_enter Tryd.func80, Tryd.ntmps80
  go_wp2
  go_region
  go_wp2
  clear hcp
  go_loopw [9] (fun i wr => ∃ k : Nat, k ≤ 10 ∧ i = .int .i64 k ∧ wr.heap[w.heap.size]? = some (.cells (stc f) 93 (0, 0)) ∧ wr.heap[w.heap.size + 1]? = some (.cells (stc fun _ => 0) 93 (0, 0)) ∧ wr.heap[w.heap.size + 1 + 1]? = some (.cells (stc (rnds f k)) 93 (0, 0)) ∧ Below w.heap.size w wr) (fun i _ => 10 - (intOf i).toNat)
  case atStart =>
    have h3 := three_new w (.cells (stc f) 93 (0, 0)) (.cells (stc fun _ => 0) 93 (0, 0)) (.cells (stc fun _ => 0) 93 (0, 0))
    exact ⟨0, by omega, rfl, (setRow_other _ _ _ _ (by omega)).trans h3.1, (setRow_other _ _ _ _ (by omega)).trans h3.2.1, setRow_heap _ _ _ _ _ _ h3.2.2.1, below_setRow h3.2.2.2.2 (by omega) _⟩
  case round =>
    obtain ⟨k, hk, rfl, hS, hR, hB, hbl⟩ := hrel
    have HS : Hid (wr.heap[w.heap.size]? = some (.cells (stc f) 93 (0, 0))) := hS
    have HR : Hid (wr.heap[w.heap.size + 1]? = some (.cells (stc fun _ => 0) 93 (0, 0))) := hR
    have HB : Hid (wr.heap[w.heap.size + 1 + 1]? = some (.cells (stc (rnds f k)) 93 (0, 0))) := hB
    have hsz : w.heap.size + 1 + 1 < wr.heap.size := (Array.getElem?_eq_some_iff.1 hB).1
    have H0 : Hid (wr.heap[1]? = some (.cells tab tt fr)) := (hbl.block 1 hw0).trans HG.out
    clear hS hR hB
    by_cases hlt : k < 10
    · go_wp2_with fail
      refine (round_any _ _ _ HB.out H0.out).mono ?_
      rintro e w1 ⟨rfl, hb1, hg1⟩
      have HB1 : Hid (w1.heap[w.heap.size + 1 + 1]? = some (.cells (stc (rnds f (k + 1))) 93 (0, 0))) := hb1
      have HS1 : Hid (w1.heap[w.heap.size]? = some (.cells (stc f) 93 (0, 0))) := (hg1.block _ (by omega) (by simp; omega)).trans HS.out
      have HR1 : Hid (w1.heap[w.heap.size + 1]? = some (.cells (stc fun _ => 0) 93 (0, 0))) := (hg1.block _ (by omega) (by simp)).trans HR.out
      have hbl1 := hbl.grown hg1 (by omega) (fun j e => by cases e; omega)
      clear hb1 hg1 HS HR HB hbl
      go_wp2
      exact ⟨⟨k + 1, by omega, by go_num, HS1.out, HR1.out, HB1.out, hbl1⟩, by simp [intOf]; omega⟩
    · obtain rfl : k = 10 := by omega
      clear hk
      go_wp2_with (refine wpList_load_row rfl 93 _ rfl w.heap.size rfl 93 _ (0, 0) _ HS.out Tryd.underlying93 rfl (by kernel_rfl) ?_)
      have hR := HR.out
      have hB := HB.out
      clear HS HR HB H0 hsz HG
      go_loopw [14] (fun i wr => ∃ k : Nat, k ≤ 16 ∧ i = .int .i64 k ∧ wr.heap[w.heap.size + 1]? = some (.cells (stc fun _ => 0) 93 (0, 0)) ∧ wr.heap[w.heap.size + 1 + 1]? = some (.cells (stc (addTo f k)) 93 (0, 0)) ∧ Below w.heap.size w wr) (fun i _ => 16 - (intOf i).toNat)
      case atStart => exact ⟨0, by omega, rfl, hR, hB, hbl⟩
      case round =>
        clear hR hB hbl
        obtain ⟨k, hk, rfl, hR, hB, hbl⟩ := hrel
        have HR : Hid (wr.heap[w.heap.size + 1]? = some (.cells (stc fun _ => 0) 93 (0, 0))) := hR
        have HB : Hid (wr.heap[w.heap.size + 1 + 1]? = some (.cells (stc (addTo f k)) 93 (0, 0))) := hB
        have HL : Hid (Below w.heap.size w wr) := hbl
        clear hR hbl
        by_cases hlt : k < 16
        · have hc : wr.cell? ⟨w.heap.size + 1 + 1, k, none⟩ = some (.int .u32 (rnds f 10 k)) := by
            rw [cell_of_row _ _ _ _ _ _ hB, stc_get _ _ hlt, addTo_at]
          have hz := frozen_of_row _ _ k _ _ hB
          have hix := idx_k f k hlt
          have g0 : (0 : Int) ≤ (k : Int) := by omega
          have g1 : (k : Int) < 16 := by omega
          clear hB
          go_wp2
          have fB : (wr.setCell ⟨w.heap.size + 1 + 1, k, none⟩ (.int .u32 ((rnds f 10 k + f k) % 4294967296))).heap[w.heap.size + 1 + 1]? = some (.cells (stc (addTo f (k + 1))) 93 (0, 0)) := by
            rw [addTo_succ]; exact set_row _ _ _ _ _ HB.out hlt
          exact ⟨⟨k + 1, by omega, by go_num, (Below.heap_setCell _ _ _ _ (by simp)).trans HR.out, fB, HL.out.setCell (by simp; omega) _⟩, by simp [intOf]; omega⟩
        · obtain rfl : k = 16 := by omega
          clear hB hk
          go_wp2_with (first | (refine wpList_load_row rfl 93 _ rfl (w.heap.size + 1 + 1) rfl 93 _ (0, 0) _ HB.out Tryd.underlying93 rfl (by kernel_rfl) ?_) | (refine wpList_store_row rfl 93 _ _ rfl (w.heap.size + 1) _ rfl rfl 93 _ HR.out (by rw [stc_size]; kernel_rfl) (by rw [stc_size, stc_size]) (stc_one _) ?_))
          refine bodyPost_ret (results_cell_row Tryd.results80 _ _ (w.heap.size + 1) 93 _ (0, 0) _ rfl (setRow_heap _ _ _ _ _ _ HR.out) Tryd.underlying93 rfl (by kernel_rfl)) rfl ⟨?_, below_setRow HL.out (by omega) _⟩
          have e : stc (addTo f 16) = stc (blk f) := stc_congr fun i hi => by simp [addTo, blk, hi]
          rw [e]
end Go.Proofs.YtaoadopnhphjbaaDoor.Ra
namespace Go.Proofs.YtaoadopnhphjbaaDoor.Ra
def upto (f : Nat → Int) (k : Nat) : List Int := (List.range k).map f
theorem upto_length (f : Nat → Int) (k : Nat) : (upto f k).length = k := by simp [upto]
theorem upto_succ (f : Nat → Int) (k : Nat) : upto f (k + 1) = upto f k ++ [f k] := by simp [upto, List.range_succ]
theorem upto_take (f : Nat → Int) {m n : Nat} (h : m ≤ n) : (upto f n).take m = upto f m := by
  unfold upto
  rw [← List.map_take, List.take_range, Nat.min_eq_left h]
theorem upto_prefix (f : Nat → Int) {m n : Nat} (h : m ≤ n) : upto f m <+: upto f n := by
  rw [← upto_take f h]; exact List.take_prefix _ _
/-- The lists of the first k texts, behind each other. -/
def cat (g : Nat → List Int) (k : Nat) : List Int := (List.range k).flatMap g
theorem cat_succ (g : Nat → List Int) (k : Nat) : cat g (k + 1) = cat g k ++ g k := by simp [cat, List.range_succ]
theorem cat_prefix (g : Nat → List Int) {m n : Nat} (h : m ≤ n) : cat g m <+: cat g n := by
  induction n with
  | zero => obtain rfl : m = 0 := by omega
            exact List.prefix_refl _
  | succ n ih =>
    by_cases e : m = n + 1
    · subst e; exact List.prefix_refl _
    · rw [cat_succ]; exact (ih (by omega)).trans (List.prefix_append _ _)
/-- A byte of a text. -/
def bt (s : ByteArray) (i : Nat) : Int := ((s.data[i]?.getD 0).toNat : Int)
/-- The word that four bytes say, the least first. -/
def wrd (b0 b1 b2 b3 : Int) : Int :=
  bits BinOp.or IntKind.u32 (bits BinOp.or IntKind.u32 (bits BinOp.or IntKind.u32 (IntKind.u32.wrap b0) (IntKind.u32.wrap (IntKind.u32.wrap b1 * 256))) (IntKind.u32.wrap (IntKind.u32.wrap b2 * 65536))) (IntKind.u32.wrap (IntKind.u32.wrap b3 * 16777216))
/-- Word number m of a text. -/
def wd (s : ByteArray) (m : Nat) : Int := wrd (bt s (4 * m)) (bt s (4 * m + 1)) (bt s (4 * m + 2)) (bt s (4 * m + 3))
/-- The words of a text. -/
def wds (s : ByteArray) : List Int := upto (wd s) (s.size / 4)
theorem bt_get (s : ByteArray) (i : Nat) (h : i < s.size) : (s[i].toNat : Int) = bt s i := by
  unfold bt
  have e : s.data[i]? = some s[i] := by
    rw [Array.getElem?_eq_getElem (by simpa using h)]; rfl
  rw [e]; rfl
theorem bt_extract (s : ByteArray) (a i : Nat) (h : a + i < s.size) : bt (s.extract a s.size) i = bt s (a + i) := by
  have h1 : i < (s.extract a s.size).size := by simp; omega
  rw [← bt_get _ _ h1, ← bt_get _ _ h]
  congr 2
  simp [ByteArray.getElem_extract]
/-- A list as a function of places. -/
def lf (l : List Int) : Nat → Int := fun i => l[i]?.getD 0
theorem lf_snoc (l : List Int) (x : Int) : lf (l ++ [x]) = upd (lf l) l.length x := by
  funext i
  unfold lf upd
  by_cases h : i = l.length
  · subst h; simp
  · rcases Nat.lt_or_gt_of_ne h with h' | h'
    · simp [h, List.getElem?_append_left h']
    · simp [h]
      rw [List.getElem?_eq_none (by simp; omega), List.getElem?_eq_none (by omega)]
end Go.Proofs.YtaoadopnhphjbaaDoor.Ra
namespace Go.Proofs.YtaoadopnhphjbaaDoor.Ra
open Go.RowKit Go.Shelf
attribute [local go_sem] Oper.semAt_some
/-- The word that the first four bytes of a text say. -/
def wd4 (u : ByteArray) (h : 4 ≤ u.size) : Int := wrd (u[0].toNat : Int) (u[1].toNat : Int) (u[2].toNat : Int) (u[3].toNat : Int)
set_option maxRecDepth 100000 in
theorem wd4_eq (s : ByteArray) (m : Nat) (h : 4 ≤ (s.extract (4 * m) s.size).size) : wd4 (s.extract (4 * m) s.size) h = wd s m := by
  have hs : 4 * m + 4 ≤ s.size := by simp at h; omega
  unfold wd4 wd
  rw [bt_get _ 0 (by omega), bt_get _ 1 (by omega), bt_get _ 2 (by omega), bt_get _ 3 (by omega), bt_extract _ _ _ (by omega), bt_extract _ _ _ (by omega), bt_extract _ _ _ (by omega), bt_extract _ _ _ (by omega)]
  rfl
/-- How long the text in a slot is. -/
def szOf : Value → Nat | .string u => u.size | _ => 0
set_option maxRecDepth 100000 in
theorem gb_drew (w : World) (r : Option Nat) : w.grownBy w.drew r := ⟨rfl, rfl, rfl, Nat.le_refl _, fun _ _ _ => rfl⟩
set_option maxRecDepth 100000 in
/-- words: the texts are boxed; the function value captures the box. -/
theorem words_in (n : Nat) (a : Option Addr) (len cap : Nat) (w : World) :
    CallsIn Fence.wide n Tryd.prog 91 #[.slice a len cap] w fun e w' => e = .returned (.func (.func 101) #[] #[.pointer (some ⟨w.heap.size, 0, none⟩)]) ∧ w' = w.alloc (.cells #[.slice a len cap] 80) := by
  refine callsIn_of_wp Tryd.func91 rfl trivial ?_ rfl
  simp only [Tryd.ntmps91, List.size_toArray, List.length_cons, List.length_nil, Nat.reduceAdd, Nat.reduceSub, Array.replicate_succ, Array.replicate_zero, List.push_toArray, List.append_toArray, List.nil_append, List.cons_append]
  gi_wp2
  go_ret
  exact ⟨rfl, rfl⟩
set_option maxRecDepth 100000 in
theorem ext_ext (s : ByteArray) (a : Nat) : (s.extract a s.size).extract 4 (s.extract a s.size).size = s.extract (a + 4) s.size := by
  apply ByteArray.ext
  simp [ByteArray.data_extract, Array.extract_extract]
  congr 1
  omega
set_option maxRecDepth 100000 in
theorem words_lt (ts : Nat → ByteArray) (len k m : Nat) (hk : k < len) (hm : m < (ts k).size / 4) :
    (cat (fun j => wds (ts j)) k ++ upto (wd (ts k)) m).length < (cat (fun j => wds (ts j)) len).length ∧
    cat (fun j => wds (ts j)) k ++ upto (wd (ts k)) m ++ [wd (ts k) m] <+: cat (fun j => wds (ts j)) len := by
  have h2 : cat (fun j => wds (ts j)) k ++ upto (wd (ts k)) m ++ [wd (ts k) m] <+: cat (fun j => wds (ts j)) len := by
    rw [List.append_assoc, ← upto_succ]
    refine List.IsPrefix.trans ?_ (cat_prefix _ (show k + 1 ≤ len from hk))
    rw [cat_succ]
    exact (List.prefix_append_right_inj _).2 (upto_prefix _ (by omega))
  exact ⟨by have := h2.length_le; simp at this ⊢; omega, h2⟩
set_option maxRecDepth 100000 in
set_option maxHeartbeats 400000 in
theorem words1_in (n : Nat) (hn : 1 ≤ n) (l Bs n₀ b len cap : Nat) (ts : Nat → ByteArray) (hlen : len ≤ 1000) (hts : ∀ j, j < len → (ts j).size ≤ maxLen) (hb : b < n₀) (J Jx : List Int → World → Prop) (hJ : ∀ pre W, J pre W → J pre W.drew)
    (hY : ∀ pre x W, J pre W → pre.length < (cat (fun j => wds (ts j)) len).length → YieldAt Fence.wide (n - 1) Tryd.prog l #[.int .u32 x] W fun e W' =>
      (e = .returned (.bool true) ∧ J (pre ++ [x]) W' ∧ Below n₀ W W') ∨ (e = .returned (.bool false) ∧ Jx (pre ++ [x]) W'))
    (W : World) (hBs : W.cell? ⟨Bs, 0, none⟩ = some (.slice (some ⟨b, 0, none⟩) len cap)) (hc : ∀ j, j < len → W.cell? ⟨b, j, none⟩ = some (.string (ts j))) (h0 : J [] W) :
    CallsIn Fence.wide n Tryd.prog 101 #[.func (.yield l) #[] #[], .pointer (some ⟨Bs, 0, none⟩)] W fun e W' => (∃ v, e = .returned v) ∧
      ((∃ ys, ys = cat (fun j => wds (ts j)) len ∧ J ys W') ∨ (∃ pre, pre <+: cat (fun j => wds (ts j)) len ∧ Jx pre W')) := by
  have hmx : Tryd.prog.follows .mixedOrders = true := by kernel_rfl
  refine callsIn_of_wp Tryd.func101 rfl trivial ?_ rfl
  simp only [Tryd.ntmps101, List.size_toArray, List.length_cons, List.length_nil, Nat.reduceAdd, Nat.reduceSub, Array.replicate_succ, Array.replicate_zero, List.push_toArray, List.append_toArray, List.nil_append, List.cons_append]
  gi_wp2
  gi_loopw [7] (fun i wr => ∃ k : Nat, k ≤ len ∧ i = .int .i64 k ∧ J (cat (fun j => wds (ts j)) k) wr ∧ Below n₀ W wr)
    (fun i _ => len - (intOf i).toNat)
  case atStart => exact ⟨0, Nat.zero_le _, rfl, h0, Below.refl _ _⟩
  case round =>
    obtain ⟨k, hk, rfl, hJs, hnx⟩ := hrel
    by_cases hlt : k < len
    · have hcx : wr.cell? ⟨b, k, none⟩ = some (.string (ts k)) := (hnx.cell (p := ⟨b, k, none⟩) hb).trans (hc k hlt)
      have hsm := hts k hlt
      unfold maxLen at hsm
      have HP : Hid (∀ m, m < (ts k).size / 4 → (cat (fun j => wds (ts j)) k ++ upto (wd (ts k)) m).length < (cat (fun j => wds (ts j)) len).length ∧
        cat (fun j => wds (ts j)) k ++ upto (wd (ts k)) m ++ [wd (ts k) m] <+: cat (fun j => wds (ts j)) len) := fun m hm => words_lt ts len k m hlt hm
      have HS : Hid (cat (fun j => wds (ts j)) (k + 1) = cat (fun j => wds (ts j)) k ++ upto (wd (ts k)) ((ts k).size / 4)) := cat_succ _ _
      have HW : Hid (Below n₀ W wr) := hnx
      generalize cat (fun j => wds (ts j)) k = P0 at *
      generalize ts k = s at *
      have HY : Hid _ := hY
      have HC : Hid _ := hc
      clear hc hY hnx
      gi_wp2
      gi_loopw [4] (fun t wr => ∃ m : Nat, 4 * m ≤ s.size ∧ t = .string (s.extract (4 * m) s.size) ∧ J (P0 ++ upto (wd s) m) wr ∧ Below n₀ W wr) (fun t _ => szOf t)
      case atStart => exact ⟨0, by omega, by simp, by simpa [upto] using hJs, HW.out⟩
      case round =>
        clear hJs HW
        obtain ⟨m, hm, rfl, hJs, hnx⟩ := hrel
        by_cases h4 : 4 ≤ (s.extract (4 * m) s.size).size
        · have hms : m < s.size / 4 := by simp at h4; omega
          obtain ⟨fn, tmps, assign, body, hy, hR⟩ := HY.out (P0 ++ upto (wd s) m) (wd4 (s.extract (4 * m) s.size) h4) wr.drew (hJ _ _ hJs) (HP.out m hms).1
          rw [wd4_eq] at hR
          have hR' : RoundIn Fence.wide (n - 1) Tryd.prog l fn tmps assign body wr.drew fun e W' => ∃ bv, e = .returned (.bool bv) ∧ ((bv = true ∧ J (P0 ++ upto (wd s) m ++ [wd s m]) W' ∧ Below n₀ wr.drew W') ∨ (bv = false ∧ Jx (P0 ++ upto (wd s) m ++ [wd s m]) W')) :=
            hR.mono (fun e W' h => h.elim (fun h => ⟨true, h.1, .inl ⟨rfl, h.2⟩⟩) (fun h => ⟨false, h.1, .inr ⟨rfl, h.2⟩⟩))
          clear hR
          generalize hu : s.extract (4 * m) s.size = u at *
          have HU : Hid _ := hu
          clear hu
          have g0 : (4 : Int) ≤ (u.size : Int) := by omega
          have k0 : 0 < u.size := by omega
          have k1 : (1 : Int) < (u.size : Int) := by omega
          have k2 : (2 : Int) < (u.size : Int) := by omega
          have k3 : (3 : Int) < (u.size : Int) := by omega
          obtain ⟨y0, a0⟩ : ∃ y, IntKind.u32.wrap (u[0].toNat : Int) = y := ⟨_, rfl⟩
          obtain ⟨y1, a1⟩ : ∃ y, IntKind.u32.wrap (u[1].toNat : Int) = y := ⟨_, rfl⟩
          obtain ⟨z1, c1⟩ : ∃ y, IntKind.u32.wrap (y1 * 256) = y := ⟨_, rfl⟩
          obtain ⟨p1, o1⟩ : ∃ y, bits BinOp.or IntKind.u32 y0 z1 = y := ⟨_, rfl⟩
          obtain ⟨y2, a2⟩ : ∃ y, IntKind.u32.wrap (u[2].toNat : Int) = y := ⟨_, rfl⟩
          obtain ⟨z2, c2⟩ : ∃ y, IntKind.u32.wrap (y2 * 65536) = y := ⟨_, rfl⟩
          obtain ⟨p2, o2⟩ : ∃ y, bits BinOp.or IntKind.u32 p1 z2 = y := ⟨_, rfl⟩
          obtain ⟨y3, a3⟩ : ∃ y, IntKind.u32.wrap (u[3].toNat : Int) = y := ⟨_, rfl⟩
          obtain ⟨z3, c3⟩ : ∃ y, IntKind.u32.wrap (y3 * 16777216) = y := ⟨_, rfl⟩
          obtain ⟨x0, o3⟩ : ∃ y, bits BinOp.or IntKind.u32 p2 z3 = y := ⟨_, rfl⟩
          have hx : wd4 u h4 = x0 := by unfold wd4 wrd; rw [a0, a1, c1, o1, a2, c2, o2, a3, c3, o3]
          rw [hx] at hy
          clear hx
          have HJ : Hid _ := hJ
          have HN : Hid _ := hnx
          have HJs : Hid _ := hJs
          clear hJ hsm hBs h0 hJs hnx hb hk hlen hts hm hms
          gi_wp2
          refine wpIn_region_any hmx ?_
          change wpAnyIn _ _ _ _ _ _ _ _ _ (World.drew _)
          refine wpAnyIn_take (i := 0) (v := ?_) rfl rfl (by kernel_rfl) (by kernel_rfl) (by kernel_rfl) (fun _ _ _ h => h) ⟨Or.inl ⟨by rfl, ?_⟩, fun _ => rfl⟩ ?_
          rotate_left
          · intro w
            go_simp
            try with_reducible rfl
          refine wpAnyIn_take (i := 1) (v := ?_) rfl rfl (by kernel_rfl) (by kernel_rfl) (by kernel_rfl) (fun _ _ _ h => h) ⟨Or.inl ⟨by rfl, ?_⟩, fun _ => rfl⟩ ?_
          rotate_left
          · intro w
            go_simp
            try with_reducible rfl
          refine wpAnyIn_take (i := 2) (v := ?_) rfl rfl (by kernel_rfl) (by kernel_rfl) (by kernel_rfl) (fun _ _ _ h => h) ⟨Or.inl ⟨by rfl, ?_⟩, fun _ => rfl⟩ ?_
          rotate_left
          · intro w
            go_simp
            try with_reducible rfl
          refine wpAnyIn_take (i := 3) (v := ?_) rfl rfl (by kernel_rfl) (by kernel_rfl) (by kernel_rfl) (fun _ _ _ h => h) ⟨Or.inl ⟨by rfl, ?_⟩, fun _ => rfl⟩ ?_
          rotate_left
          · intro w
            go_simp
            try with_reducible rfl
          refine wpAnyIn_take (i := 4) (v := ?_) rfl rfl (by kernel_rfl) (by kernel_rfl) (by kernel_rfl) (fun _ _ _ h => h) ⟨Or.inl ⟨by rfl, ?_⟩, fun _ => rfl⟩ ?_
          rotate_left
          · intro w
            go_simp
            try with_reducible rfl
          refine wpAnyIn_take (i := 5) (v := ?_) rfl rfl (by kernel_rfl) (by kernel_rfl) (by kernel_rfl) (fun _ _ _ h => h) ⟨Or.inl ⟨by rfl, ?_⟩, fun _ => rfl⟩ ?_
          rotate_left
          · intro w
            go_simp
            try with_reducible rfl
          refine wpAnyIn_take (i := 6) (v := ?_) rfl rfl (by kernel_rfl) (by kernel_rfl) (by kernel_rfl) (fun _ _ _ h => h) ⟨Or.inl ⟨by rfl, ?_⟩, fun _ => rfl⟩ ?_
          rotate_left
          · intro w
            go_simp
            try with_reducible rfl
          refine wpAnyIn_take (i := 7) (v := ?_) rfl rfl (by kernel_rfl) (by kernel_rfl) (by kernel_rfl) (fun _ _ _ h => h) ⟨Or.inl ⟨by rfl, ?_⟩, fun _ => rfl⟩ ?_
          rotate_left
          · intro w
            go_simp
            try with_reducible rfl
          refine wpAnyIn_take (i := 8) (v := ?_) rfl rfl (by kernel_rfl) (by kernel_rfl) (by kernel_rfl) (fun _ _ _ h => h) ⟨Or.inl ⟨by rfl, ?_⟩, fun _ => rfl⟩ ?_
          rotate_left
          · intro w
            go_simp
            try with_reducible rfl
          refine wpAnyIn_take (i := 9) (v := ?_) rfl rfl (by kernel_rfl) (by kernel_rfl) (by kernel_rfl) (fun _ _ _ h => h) ⟨Or.inl ⟨by rfl, ?_⟩, fun _ => rfl⟩ ?_
          rotate_left
          · intro w
            go_simp
            try with_reducible rfl
          refine wpAnyIn_take (i := 10) (v := ?_) rfl rfl (by kernel_rfl) (by kernel_rfl) (by kernel_rfl) (fun _ _ _ h => h) ⟨Or.inl ⟨by rfl, ?_⟩, fun _ => rfl⟩ ?_
          rotate_left
          · intro w
            go_simp
            try with_reducible rfl
          refine wpAnyIn_take (i := 11) (v := ?_) rfl rfl (by kernel_rfl) (by kernel_rfl) (by kernel_rfl) (fun _ _ _ h => h) ⟨Or.inl ⟨by rfl, ?_⟩, fun _ => rfl⟩ ?_
          rotate_left
          · intro w
            go_simp
            try with_reducible rfl
          refine wpAnyIn_take (i := 12) (v := ?_) rfl rfl (by kernel_rfl) (by kernel_rfl) (by kernel_rfl) (fun _ _ _ h => h) ⟨Or.inl ⟨by rfl, ?_⟩, fun _ => rfl⟩ ?_
          rotate_left
          · intro w
            go_simp
            try with_reducible rfl
          refine wpAnyIn_take (i := 13) (v := ?_) rfl rfl (by kernel_rfl) (by kernel_rfl) (by kernel_rfl) (fun _ _ _ h => h) ⟨Or.inl ⟨by rfl, ?_⟩, fun _ => rfl⟩ ?_
          rotate_left
          · intro w
            go_simp
            try with_reducible rfl
          refine wpAnyIn_take (i := 14) (v := ?_) rfl rfl (by kernel_rfl) (by kernel_rfl) (by kernel_rfl) (fun _ _ _ h => h) ⟨Or.inl ⟨by rfl, ?_⟩, fun _ => rfl⟩ ?_
          rotate_left
          · intro w
            go_simp
            try with_reducible rfl
          refine wpAnyIn_take (i := 15) (v := ?_) rfl rfl (by kernel_rfl) (by kernel_rfl) (by kernel_rfl) (fun _ _ _ h => h) ⟨Or.inl ⟨by rfl, ?_⟩, fun _ => rfl⟩ ?_
          rotate_left
          · intro w
            go_simp
            try with_reducible rfl
          refine wpAnyIn_take (i := 16) (v := ?_) rfl rfl (by kernel_rfl) (by kernel_rfl) (by kernel_rfl) (fun _ _ _ h => h) ⟨Or.inl ⟨by rfl, ?_⟩, fun _ => rfl⟩ ?_
          rotate_left
          · intro w
            go_simp
            try with_reducible rfl
          refine wpAnyIn_take (i := 17) (v := ?_) rfl rfl (by kernel_rfl) (by kernel_rfl) (by kernel_rfl) (fun _ _ _ h => h) ⟨Or.inl ⟨by rfl, ?_⟩, fun _ => rfl⟩ ?_
          rotate_left
          · intro w
            go_simp
            try with_reducible rfl
          refine wpAnyIn_take (i := 18) (v := ?_) rfl rfl (by kernel_rfl) (by kernel_rfl) (by kernel_rfl) (fun _ _ _ h => h) ⟨Or.inl ⟨by rfl, ?_⟩, fun _ => rfl⟩ ?_
          rotate_left
          · intro w
            go_simp
            try with_reducible rfl
          refine wpAnyIn_ready (rs := [19]) (by kernel_rfl) (by simp) ?_
          refine AllReadyIn.cons rfl (fun K hK => ?_) AllReadyIn.nil
          go_simp
          refine hR'.mono ?_
          rintro e W3 ⟨bv, rfl, hdis⟩
          refine hK _ _ ?_
          clear hK K hR' hy
          refine wpAnyIn_take (i := 20) (v := ?_) rfl rfl (by kernel_rfl) (by kernel_rfl) (by kernel_rfl) (fun _ _ _ h => h) ⟨Or.inl ⟨by rfl, ?_⟩, fun _ => rfl⟩ ?_
          rotate_left
          · intro w
            go_simp
            try with_reducible rfl
          refine wpAnyIn_done (by kernel_rfl) ?_ _
          have hu := HU.out
          rcases hdis with ⟨rfl, hJ3, hk3⟩ | ⟨rfl, hJx3⟩
          · gi_wp2
            go_roundw
            case rel => exact ⟨m + 1, by rw [← hu] at h4; simp at h4; omega, by rw [← hu, ext_ext]; rfl, by rw [upto_succ, ← List.append_assoc]; exact hJ3, (HN.out.drew).trans hk3⟩
            case measure => simp [szOf]; omega
          · gi_wp2
            refine bodyPost_ret (results_none rfl _ _ _) rfl ?_
            exact ⟨⟨_, rfl⟩, .inr ⟨_, (HP.out m (by rw [← hu] at h4; simp at h4; omega)).2, hJx3⟩⟩
        · have g0 : ¬ (4 : Int) ≤ ((s.extract (4 * m) s.size).size : Int) := by omega
          have hms : m = s.size / 4 := by simp at h4; omega
          have HM : Hid _ := hms
          have HJs : Hid _ := hJs
          have HN : Hid _ := hnx
          clear hms hJs hnx
          generalize s.extract (4 * m) s.size = u at *
          gi_wp2
          go_roundw
          case rel => exact ⟨k + 1, by omega, by go_num, by rw [HS.out, ← HM.out]; exact HJs.out, HN.out⟩
          case measure => simp [intOf]; omega
    · obtain rfl : k = len := by omega
      gi_wp2
      go_end0
      exact ⟨⟨_, rfl⟩, .inl ⟨_, rfl, hJs⟩⟩
end Go.Proofs.YtaoadopnhphjbaaDoor.Ra
namespace Go.Proofs.YtaoadopnhphjbaaDoor.Ra
open Go.RowKit Go.Shelf
attribute [local go_sem] Oper.semAt_some
set_option maxRecDepth 100000 in
/-- A whole array out of a variable, inside a fence. -/
theorem wpListIn_load_row {F : Fence} {n : Nat} {P : Program} {ops : Array Oper} {rest : List Oper} {o : Oper} {a : Act} {w : World} {Q : Exit → Act → World → Prop} (hgd : o.guard = none) (ty : TypeId) (x : Operand) (ho : o.op = .load ty x)
    (g : Nat) (hx : a.eval x = .pointer (some ⟨g, 0, none⟩)) (t : TypeId) (cs : Array Value) (fr : Nat × Nat) (d : TypeDesc) (hg : w.heap[g]? = some (.cells cs t fr))
    (hu : P.underlying ty = some d) (hd : (match d with | .struct _ | .array _ _ => true | _ => false) = true) (hi : (P.info? ty).map (·.size) = some cs.size)
    (h : wpListIn F n P ops Q rest (a.put o.dst (.agg cs)) w) : wpListIn F n P ops Q (o :: rest) a w := by
  refine wpListIn_plain hgd fun K hK' => ?_
  unfold Oper.wpIn
  refine ⟨?_, ?_⟩
  · simp [Oper.about, ho]
  · rw [Oper.semAt_plain F _ _ (by rw [ho]; intro c hc'; cases hc')]
    unfold execOp
    simp only [ho, hx, Instr.loadAt, Instr.sureAddr, Sem.run_bind, Sem.run_pure, Result.andThen_ok, run_loadVar_row w g t ty cs fr d hg hu hd hi]
    exact hK' _ _ h
set_option maxRecDepth 100000 in
/-- A whole array into a variable, inside a fence. -/
theorem wpListIn_store_row {F : Fence} {n : Nat} {P : Program} {ops : Array Oper} {rest : List Oper} {o : Oper} {a : Act} {w : World} {Q : Exit → Act → World → Prop} (hgd : o.guard = none) (ty : TypeId) (x y : Operand) (ho : o.op = .store ty x y)
    (g : Nat) (cells : Array Value) (hx : a.eval x = .pointer (some ⟨g, 0, none⟩)) (hy : a.eval y = .agg cells)
    (t : TypeId) (old : Array Value) (hg : w.heap[g]? = some (.cells old t (0, 0))) (hi : (P.info? ty).map (·.size) = some cells.size)
    (hold : old.size = cells.size) (h1 : cells.all (·.oneCell') = true)
    (h : wpListIn F n P ops Q rest (a.put o.dst undef) (w.setRow g cells)) : wpListIn F n P ops Q (o :: rest) a w := by
  refine wpListIn_plain hgd fun K hK' => ?_
  unfold Oper.wpIn
  refine ⟨?_, ?_⟩
  · simp [Oper.about, ho]
  · rw [Oper.semAt_plain F _ _ (by rw [ho]; intro c hc'; cases hc')]
    unfold execOp
    simp only [ho, hx, hy, Instr.storeAt, Instr.sureAddr, Sem.run_bind, Sem.run_pure, Result.andThen_ok, run_storeVar_row w g t ty old cells hg hi hold h1]
    exact hK' _ _ h
set_option maxRecDepth 100000 in
/-- The words of texts in a block below n₀, one behind the other. -/
theorem words_stops (n : Nat) (hn : 1 ≤ n) (Bs n₀ b len cap : Nat) (ts : Nat → ByteArray) (hlen : len ≤ 1000) (hts : ∀ j, j < len → (ts j).size ≤ maxLen) (hb : b < n₀) (w : World) (hBs : Bs < w.heap.size) (hn₀ : n₀ ≤ w.heap.size)
    (hc : w.cell? ⟨Bs, 0, none⟩ = some (.slice (some ⟨b, 0, none⟩) len cap)) (hcs : ∀ j, j < len → w.cell? ⟨b, j, none⟩ = some (.string (ts j))) :
    SeqStopsK Fence.wide n Tryd.prog 101 #[.pointer (some ⟨Bs, 0, none⟩)] (fun x : Int => #[Value.int .u32 x]) (Below n₀) (fun ys => ys = cat (fun j => wds (ts j)) len) (fun pre => pre <+: cat (fun j => wds (ts j)) len) (cat (fun j => wds (ts j)) len).length w :=
  fun l J Jx W hW hJ _ hY h0 =>
    words1_in n hn l Bs n₀ b len cap ts hlen hts hb J Jx (fun pre W h => hJ pre W W.drew none h (gb_drew W none) (fun r e => by cases e)) hY W ((hW.cell (p := ⟨Bs, 0, none⟩) hBs).trans hc)
      (fun j hj => (hW.cell (p := ⟨b, j, none⟩) (by show b < _; omega)).trans (hcs j hj)) h0
set_option maxRecDepth 100000 in
theorem blk_kept {W W' : World} {row : Option Nat} {k : Nat} {o : Obj} (h : W.heap[k]? = some o) (ho : o.isCells = true) (hg : W.grownBy W' row) (hr : ∀ r, row = some r → ∃ o : Obj, W.heap[r]? = some o ∧ o.isCells = false) : W'.heap[k]? = some o := by
  rw [hg.block k (Array.getElem?_eq_some_iff.1 h).1 (fun e => by
    obtain ⟨o', h1, h2⟩ := hr k e.symm
    rw [h] at h1; cases h1; rw [ho] at h2; cases h2)]
  exact h
set_option maxRecDepth 100000 in
theorem four_new (w : World) (a b c d : Obj) : let W := (((w.alloc a).alloc b).alloc c).alloc d
    W.heap[w.heap.size]? = some a ∧ W.heap[w.heap.size + 1]? = some b ∧ W.heap[w.heap.size + 1 + 1]? = some c ∧ W.heap[w.heap.size + 1 + 1 + 1]? = some d ∧ W.heap.size = w.heap.size + 4 ∧ Below w.heap.size w W := by
  have h3 := three_new w a b c
  have hs : (((w.alloc a).alloc b).alloc c).heap.size = w.heap.size + 3 := by simp
  refine ⟨(Below.heap_alloc _ _ _ (by omega)).trans h3.1, (Below.heap_alloc _ _ _ (by omega)).trans h3.2.1, (Below.heap_alloc _ _ _ (by omega)).trans h3.2.2.1, ?_, by simp, ?_⟩
  · have := heap_alloc_new (((w.alloc a).alloc b).alloc c) d
    rw [hs] at this
    exact this
  · exact ((((Below.refl _ w).alloc (Nat.le_refl _) _).alloc (by simp) _).alloc (by simp; omega) _).alloc (by simp; omega) _
set_option maxRecDepth 100000 in
set_option maxHeartbeats 2000000 in
theorem fill_any (b len cap : Nat) (ts : Nat → ByteArray) (hlen : len ≤ 1000) (hts : ∀ j, j < len → (ts j).size ≤ maxLen) (h16 : (cat (fun j => wds (ts j)) len).length = 16) (w : World) (hb : b < w.heap.size) (hcs : ∀ j, j < len → w.cell? ⟨b, j, none⟩ = some (.string (ts j))) :
    CallsIn Fence.wide 5 Tryd.prog 77 #[.slice (some ⟨b, 0, none⟩) len cap] w fun e W' => e = .returned (.agg (stc (lf (cat (fun j => wds (ts j)) len)))) ∧ Below w.heap.size w W' := by
  refine callsIn_of_wp_marks Tryd.func77 rfl trivial ?_ rfl
  simp only [Tryd.ntmps77, List.size_toArray, List.length_cons, List.length_nil, Nat.reduceAdd, Nat.reduceSub, Array.replicate_succ, Array.replicate_zero, List.push_toArray, List.append_toArray, List.nil_append, List.cons_append]
  gi_wp2
  refine (wpIn_wide (n := 5)).2 (wp_scope_straight ((wpIn_wide (n := 5)).1 ?_))
  gi_wp2
  refine wpIn_label ?_
  gi_wp2_with (refine ⟨trivial, ?_⟩; gi_at_call 91; refine (words_in _ _ _ _ _).mono ?_; rintro e w' ⟨rfl, rfl⟩)
  have zz : (#[.int .u32 0, .int .u32 0, .int .u32 0, .int .u32 0, .int .u32 0, .int .u32 0, .int .u32 0, .int .u32 0, .int .u32 0, .int .u32 0, .int .u32 0, .int .u32 0, .int .u32 0, .int .u32 0, .int .u32 0, .int .u32 0] : Array Value) = stc (lf []) := rfl
  rw [zz]
  obtain ⟨W0, hW0⟩ : ∃ W0, (((w.alloc (.cells (stc (lf [])) 93)).alloc (.cells (stc (lf [])) 93)).alloc (.cells #[.int .i64 0] 3)).alloc (.cells #[.slice (some ⟨b, 0, none⟩) len cap] 80) = W0 := ⟨_, rfl⟩
  have f4 := four_new w (.cells (stc (lf [])) 93) (.cells (stc (lf [])) 93) (.cells #[.int .i64 0] 3) (.cells #[.slice (some ⟨b, 0, none⟩) len cap] 80)
  rw [hW0] at f4 ⊢
  clear hW0 zz
  obtain ⟨b0, b1, b2, b3, hsz, hB0⟩ := f4
  have hc3 : W0.cell? ⟨w.heap.size + 1 + 1 + 1, 0, none⟩ = some (.slice (some ⟨b, 0, none⟩) len cap) := by rw [cell_of_row _ _ _ _ _ _ b3]; rfl
  have hcs0 : ∀ j, j < len → W0.cell? ⟨b, j, none⟩ = some (.string (ts j)) := fun j hj => (hB0.cell (p := ⟨b, j, none⟩) hb).trans (hcs j hj)
  refine wpIn_rangeFunc_ownF rfl (by omega) (gf := 101) (lb := #[.pointer (some ⟨w.heap.size + 1 + 1 + 1, 0, none⟩)]) rfl trivial (enters_of Tryd.func101 (by kernel_rfl) rfl)
    (words_stops 4 (by omega) (w.heap.size + 1 + 1 + 1) w.heap.size b len cap ts hlen hts hb W0 (by omega) (by omega) hc3 hcs0) belowK_t (belowK_b (by omega)) (Below.refl _ _) (fun _ => rfl)
    (fun pre W => (pre.length < 16 ∧ W.heap[w.heap.size]? = some (.cells (stc (lf [])) 93 (0, 0)) ∧ W.heap[w.heap.size + 1]? = some (.cells (stc (lf pre)) 93 (0, 0)) ∧ W.heap[w.heap.size + 1 + 1]? = some (.cells #[.int .i64 (pre.length : Int)] 3 (0, 0))) ∧ Below w.heap.size w W)
    (fun c pre W => (c = .exit 0 ∧ pre.length = 16 ∧ W.heap[w.heap.size]? = some (.cells (stc (lf [])) 93 (0, 0)) ∧ W.heap[w.heap.size + 1]? = some (.cells (stc (lf pre)) 93 (0, 0))) ∧ Below w.heap.size w W)
    (OwnFrom.and (Own.from (fun s A B row hs hg hr => ⟨hs.1, blk_kept hs.2.1 rfl hg hr, blk_kept hs.2.2.1 rfl hg hr, blk_kept hs.2.2.2 rfl hg hr⟩) _) (ownFrom_below (Nat.le_refl _) (by omega)))
    (fun c => OwnFrom.and (Own.from (fun s A B row hs hg hr => ⟨hs.1, hs.2.1, blk_kept hs.2.2.1 rfl hg hr, blk_kept hs.2.2.2 rfl hg hr⟩) _) (ownFrom_below (Nat.le_refl _) (by omega)))
    ⟨⟨by simp, b0, b1, b2⟩, hB0⟩
    (fun x => { tmps := #[.slice (some ⟨b, 0, none⟩) len cap, undef, .pointer (some ⟨w.heap.size, 0, none⟩), .pointer (some ⟨w.heap.size + 1, 0, none⟩), .pointer (some ⟨w.heap.size + 1 + 1, 0, none⟩), .int .u32 x, .slice (some ⟨b, 0, none⟩) len cap, .func (.func 101) #[] #[.pointer (some ⟨w.heap.size + 1 + 1 + 1, 0, none⟩)], .int .u32 x, undef, undef, undef, undef, undef, undef, undef, undef], defers := [] }) ?assign ?body ?done ?stop
  case assign =>
    intro l x W K hK
    gi_wp2
    exact hK
  case body =>
    rintro l pre x W ⟨⟨hlt, h0, h1, h2⟩, hB⟩ _
    have g0 : (0 : Int) ≤ (pre.length : Int) := by omega
    have g1 : (pre.length : Int) < 16 := by omega
    have c2 : W.cell? ⟨w.heap.size + 1 + 1, 0, none⟩ = some (.int .i64 (pre.length : Int)) := by rw [cell_of_row _ _ _ _ _ _ h2]; rfl
    have z2 := frozen_of_row W _ 0 _ _ h2
    have c1 : W.cell? ⟨w.heap.size + 1, pre.length, none⟩ = some (.int .u32 (lf pre pre.length)) := by rw [cell_of_row _ _ _ _ _ _ h1]; exact stc_get _ _ hlt
    have z1 := frozen_of_row W (w.heap.size + 1) pre.length _ _ h1
    have H0 : Hid _ := h0
    have H1 : Hid _ := h1
    have H2 : Hid _ := h2
    have HB : Hid _ := hB
    have HC : Hid _ := hcs
    clear h0 h1 h2 hB b0 b1 b2 b3 hB0 hc3 hcs0 hts hcs h16 hsz
    have hs1 : ∀ v : Int, ((W.setCell ⟨w.heap.size + 1, pre.length, none⟩ (.int .u32 x)).setCell ⟨w.heap.size + 1 + 1, 0, none⟩ (.int .i64 v)).heap[w.heap.size]? = some (.cells (stc (lf [])) 93 (0, 0)) ∧
        ((W.setCell ⟨w.heap.size + 1, pre.length, none⟩ (.int .u32 x)).setCell ⟨w.heap.size + 1 + 1, 0, none⟩ (.int .i64 v)).heap[w.heap.size + 1]? = some (.cells (stc (lf (pre ++ [x]))) 93 (0, 0)) ∧
        ((W.setCell ⟨w.heap.size + 1, pre.length, none⟩ (.int .u32 x)).setCell ⟨w.heap.size + 1 + 1, 0, none⟩ (.int .i64 v)).heap[w.heap.size + 1 + 1]? = some (.cells #[.int .i64 v] 3 (0, 0)) := fun v => by
      refine ⟨?_, ?_, ?_⟩
      · rw [Below.heap_setCell _ _ _ _ (by simp; omega), Below.heap_setCell _ _ _ _ (by simp)]; exact H0.out
      · rw [Below.heap_setCell _ _ _ _ (by simp), lf_snoc]; exact set_row _ _ _ _ _ H1.out hlt
      · have e : (W.setCell ⟨w.heap.size + 1, pre.length, none⟩ (.int .u32 x)).heap[w.heap.size + 1 + 1]? = some (.cells #[.int .i64 (pre.length : Int)] 3 (0, 0)) := by rw [Below.heap_setCell _ _ _ _ (by simp)]; exact H2.out
        rw [heap_setCell_same _ _ _ _ _ _ e]; rfl
    have HS1 : Hid _ := hs1
    clear hs1
    by_cases h16 : pre.length + 1 = 16
    · have hq : (((pre.length : Int) + 1) == 16) = true := by simp; omega
      gi_wp2
      exact ⟨(KeepsOthers.setCell _ _ _).trans (KeepsOthers.setCell _ _ _), ⟨rfl, by simp; omega, (HS1.out _).1, (HS1.out _).2.1⟩, (HB.out.setCell (by simp) _).setCell (by simp; omega) _⟩
    · have hq : (((pre.length : Int) + 1) == 16) = false := by simp; omega
      gi_wp2
      exact ⟨(KeepsOthers.setCell _ _ _).trans (KeepsOthers.setCell _ _ _), ((Below.refl _ _).setCell (by simp) _).setCell (by simp; omega) _, ⟨by simp; omega, (HS1.out _).1, (HS1.out _).2.1, by simpa using (HS1.out _).2.2⟩, (HB.out.setCell (by simp) _).setCell (by simp; omega) _⟩
  case done =>
    rintro D ys W hD rfl ⟨⟨hlt, _⟩, _⟩ hK
    omega
  case stop =>
    rintro D c pre W hD hpre ⟨⟨rfl, hp16, h0, h1⟩, hB⟩ hK
    obtain rfl : pre = cat (fun j => wds (ts j)) len := hpre.eq_of_length (by omega)
    have H0 : Hid _ := h0
    have H1 : Hid _ := h1
    have HB : Hid _ := hB
    have HK : Hid _ := hK
    have HD : Hid _ := hD
    clear b0 b1 b2 b3 hB0 hc3 hcs0 hts hcs h16 hp16 hpre h0 h1 hB hK hD
    gi_wp2_with (first | (refine wpListIn_load_row rfl 93 _ rfl (w.heap.size + 1) rfl 93 _ (0, 0) _ H1.out Tryd.underlying93 rfl (by rw [stc_size]; kernel_rfl) ?_) | (refine wpListIn_store_row rfl 93 _ _ rfl w.heap.size _ rfl rfl 93 _ H0.out (by rw [stc_size]; kernel_rfl) (by rw [stc_size, stc_size]) (stc_one _) ?_))
    have hD := HD.out
    have hne : D ≠ w.heap.size := by omega
    have hK' : (W.setRow w.heap.size (stc (lf (cat (fun j => wds (ts j)) len)))).heap[D]? = some (.deferred (some [])) := (setRow_other _ _ _ _ hne).trans HK.out
    have hR : ((W.setRow w.heap.size (stc (lf (cat (fun j => wds (ts j)) len)))).putObj D (.deferred none)).heap[w.heap.size]? = some (.cells (stc (lf (cat (fun j => wds (ts j)) len))) 93 (0, 0)) :=
      (World.putObj_heap_other hne.symm).trans (setRow_heap _ _ _ _ _ _ H0.out)
    rw [Exit.noGoto_ret]
    refine ⟨by simp, .inl ⟨_, _, rfl, run_takeDeferred hK', ?_⟩⟩
    refine ⟨_, results_cell_row Tryd.results77 _ _ w.heap.size 93 _ (0, 0) _ rfl hR Tryd.underlying93 rfl (by rw [stc_size]; kernel_rfl), rfl, ?_⟩
    exact (below_setRow HB.out (Nat.le_refl _) _).trans (belowK_b (w := w) (Nat.le_refl _) _ D _ _ (by omega) hK' rfl rfl)
end Go.Proofs.YtaoadopnhphjbaaDoor.Ra
namespace Go.Proofs.YtaoadopnhphjbaaDoor.Ra
open Go.RowKit
def opn : ByteArray := ⟨#[101, 120, 112, 97, 110, 100, 32, 51, 50, 45, 98, 121, 116, 101, 32, 107]⟩
def nou : ByteArray := ⟨#[0, 0, 0, 0]⟩
/-- The texts of a state. -/
def tx (key nonce : ByteArray) : Nat → ByteArray
  | 0 => opn
  | 1 => key
  | 2 => nou
  | _ => nonce
/-- The state of a key, a counter and a nonce. -/
def stt (key : ByteArray) (c : Int) (nonce : ByteArray) : Nat → Int := fun i =>
  if i < 4 then wd opn i else if i < 12 then wd key (i - 4) else if i = 12 then c else wd nonce (i - 13)
set_option maxRecDepth 100000 in
theorem tx_all (key nonce : ByteArray) (h1 : key.size = 32) (h2 : nonce.size = 12) :
    cat (fun j => wds (tx key nonce j)) 4 = upto (wd opn) 4 ++ upto (wd key) 8 ++ upto (wd nou) 1 ++ upto (wd nonce) 3 := by
  have s0 : opn.size = 16 := by decide
  have s2 : nou.size = 4 := by decide
  have e0 : wds (tx key nonce 0) = upto (wd opn) 4 := by show upto (wd opn) (opn.size / 4) = _; rw [s0]
  have e1 : wds (tx key nonce 1) = upto (wd key) 8 := by show upto (wd key) (key.size / 4) = _; rw [h1]
  have e2 : wds (tx key nonce 2) = upto (wd nou) 1 := by show upto (wd nou) (nou.size / 4) = _; rw [s2]
  have e3 : wds (tx key nonce 3) = upto (wd nonce) 3 := by show upto (wd nonce) (nonce.size / 4) = _; rw [h2]
  simp only [cat_succ, e0, e1, e2, e3]
  simp [cat]
set_option maxRecDepth 100000 in
theorem tx_len (key nonce : ByteArray) (h1 : key.size = 32) (h2 : nonce.size = 12) : (cat (fun j => wds (tx key nonce j)) 4).length = 16 := by
  rw [tx_all key nonce h1 h2]; simp [upto_length]
set_option maxRecDepth 100000 in
theorem tx_stt (key : ByteArray) (c : Int) (nonce : ByteArray) (h1 : key.size = 32) (h2 : nonce.size = 12) :
    stc (upd (lf (cat (fun j => wds (tx key nonce j)) 4)) 12 c) = stc (stt key c nonce) := by
  rw [tx_all key nonce h1 h2]
  unfold stt
  generalize wd opn = f0
  generalize wd key = f1
  generalize wd nou = f2
  generalize wd nonce = f3
  have e : upto f0 4 ++ upto f1 8 ++ upto f2 1 ++ upto f3 3 = [f0 0, f0 1, f0 2, f0 3, f1 0, f1 1, f1 2, f1 3, f1 4, f1 5, f1 6, f1 7, f2 0, f3 0, f3 1, f3 2] := by simp [upto, List.range_succ]
  rw [e]
  simp [stc, upd, lf]
set_option maxRecDepth 100000 in
set_option maxHeartbeats 1000000 in
theorem begin_any (key nonce : ByteArray) (h1 : key.size = 32) (h2 : nonce.size = 12) (w : World) :
    Calls Tryd.prog 62 #[.string key, .string nonce] w fun e w' => e = .returned (.agg (stc (lf (cat (fun j => wds (tx key nonce j)) 4)))) ∧ Below w.heap.size w w' := by
  have HL := tx_len key nonce h1 h2
  have s0 : opn.size = 16 := by decide
  have s2 : nou.size = 4 := by decide
  have hts : ∀ j, j < 4 → (tx key nonce j).size ≤ maxLen := fun j hj => by
    match j, hj with
    | 0, _ => show opn.size ≤ _; rw [s0]; decide
    | 1, _ => show key.size ≤ _; rw [h1]; decide
    | 2, _ => show nou.size ≤ _; rw [s2]; decide
    | 3, _ => show nonce.size ≤ _; rw [h2]; decide
    | j + 4, h => exact absurd h (by omega)
  have zz : (#[.int .u32 0, .int .u32 0, .int .u32 0, .int .u32 0, .int .u32 0, .int .u32 0, .int .u32 0, .int .u32 0, .int .u32 0, .int .u32 0, .int .u32 0, .int .u32 0, .int .u32 0, .int .u32 0, .int .u32 0, .int .u32 0] : Array Value) = stc (lf []) := rfl
  go_enter Tryd.func62, Tryd.ntmps62
  go_wp2_with fail
  clear zz
  have hlast := heap_alloc_new (w.alloc (.cells (stc (lf [])) 93)) (.cells #[.string opn, .string key, .string nou, .string nonce] 9)
  rw [World.size_alloc] at hlast
  have hres := (Below.heap_alloc (w.alloc (.cells (stc (lf [])) 93)) (.cells #[.string opn, .string key, .string nou, .string nonce] 9) w.heap.size (by simp)).trans (heap_alloc_new w _)
  have hbel : Below w.heap.size w ((w.alloc (.cells (stc (lf [])) 93)).alloc (.cells #[.string opn, .string key, .string nou, .string nonce] 9)) := ((Below.refl _ w).alloc (Nat.le_refl _) _).alloc (by simp) _
  have hsz : ((w.alloc (.cells (stc (lf [])) 93)).alloc (.cells #[.string opn, .string key, .string nou, .string nonce] 9)).heap.size = w.heap.size + 1 + 1 := by simp
  have hfill := callsIn_wide.1 (fill_any (w.heap.size + 1) 4 4 (tx key nonce) (by omega) hts HL ((w.alloc (.cells (stc (lf [])) 93)).alloc (.cells #[.string opn, .string key, .string nou, .string nonce] 9)) (by simp)
    (fun j hj => by
      rw [cell_of_row _ _ _ _ _ _ hlast]
      match j, hj with
      | 0, _ => rfl
      | 1, _ => rfl
      | 2, _ => rfl
      | 3, _ => rfl
      | j + 4, h => exact absurd h (by omega)))
  rw [hsz] at hfill
  refine hfill.mono ?_
  rintro e w1 ⟨rfl, hb1⟩
  have HR : Hid (w1.heap[w.heap.size]? = some (.cells (stc (lf [])) 93 (0, 0))) := (hb1.block _ (by omega)).trans hres
  have HB : Hid (Below w.heap.size w w1) := hbel.trans (hb1.mono (by omega))
  clear hfill hlast hres hbel hsz hb1 hts HL h1 h2 s0 s2
  go_wp2_with (refine wpList_store_row rfl 93 _ _ rfl w.heap.size _ rfl rfl 93 _ HR.out (by rw [stc_size]; kernel_rfl) (by rw [stc_size, stc_size]) (stc_one _) ?_)
  refine bodyPost_ret (results_cell_row Tryd.results62 _ _ w.heap.size 93 _ (0, 0) _ rfl (setRow_heap _ _ _ _ _ _ HR.out) Tryd.underlying93 rfl (by rw [stc_size]; kernel_rfl)) rfl ⟨rfl, below_setRow HB.out (Nat.le_refl _) _⟩
end Go.Proofs.YtaoadopnhphjbaaDoor.Ra
namespace Go.Proofs.YtaoadopnhphjbaaDoor.Ra
open Go.RowKit
set_option maxRecDepth 100000 in
theorem info5 : (Tryd.prog.info? 5).map (fun i => (i.zero, i.size, i.bytes)) = some (some (.int .u8 0), 1, 1) := by kernel_rfl
set_option maxRecDepth 100000 in
/-- Bytes of one's own, as a text. -/
theorem own_string {w : World} {base : Nat} {v : Value} {n : Nat} {xs : List Int} (h : w.ownsRow base 5 1 v n (xs.map (Value.int .u8))) :
    (convert 41 9 v).run Tryd.prog w = .ok (.string (strOfNums xs)) w := by
  obtain ⟨hl, h⟩ := h
  rcases h with ⟨rfl, rfl⟩ | ⟨g, cap, cur, rfl, _, hg, hn, _, hc, ht⟩
  · have : xs = [] := by simpa using hl
    subst this
    exact run_convert_bytes_nil w 41 5 Tryd.underlying41 Tryd.underlying5 0 0 9 Tryd.underlying9
  · have hlen : xs.length = n := by simpa using hl
    refine run_convert_bytes_arg w 41 5 Tryd.underlying41 Tryd.underlying5 g 0 n cap xs hlen (fun i hi => ?_) 9 Tryd.underlying9
    rw [cell_of_row _ _ _ _ _ _ hg, Nat.zero_add]
    have h1 : (cur.toList.take (n * 1))[i]? = (xs.map (Value.int .u8))[i]? := by rw [ht]
    rw [List.getElem?_take, if_pos (by omega)] at h1
    rw [← Array.getElem?_toList, h1]
    have : i < xs.length := by omega
    simp [List.getD, List.getElem?_eq_getElem this]
end Go.Proofs.YtaoadopnhphjbaaDoor.Ra
namespace Go.Proofs.YtaoadopnhphjbaaDoor.Ra
open Go.RowKit
theorem gb_below {w w' : World} (h : Below w.heap.size w w') (r : Option Nat) : w.grownBy w' r := ⟨h.os, h.tape, h.output, h.size, fun k hk _ => h.block k hk⟩
theorem own_below {w w' : World} {base : Nat} {e : TypeId} {size : Nat} {v : Value} {n : Nat} {xs : List Value} (h : w.ownsRow base e size v n xs) (hb : Below w.heap.size w w') : w'.ownsRow base e size v n xs :=
  h.kept (gb_below hb none) (Classical.em _)
theorem below_gb {w w' : World} (h : w.grownBy w' none) : Below w.heap.size w w' := ⟨h.os, h.tape, h.output, h.size, fun k hk => h.block k hk (by simp)⟩
/-- A word's four bytes, the least first. -/
def b4 (x : Int) : List Int := [x % 256, x / 256 % 256, x / 65536 % 256, x / 16777216 % 256]
/-- The bytes of k words. -/
def bts (g : Nat → Int) (k : Nat) : List Int := cat (fun i => b4 (g i)) k
theorem bts_succ (g : Nat → Int) (k : Nat) : bts g (k + 1) = bts g k ++ b4 (g k) := cat_succ _ _
/-- The block of a key, a counter and a nonce. -/
def blkS (key : ByteArray) (c : Int) (nonce : ByteArray) : ByteArray := strOfNums (bts (blk (stt key c nonce)) 16)
end Go.Proofs.YtaoadopnhphjbaaDoor.Ra
namespace Go.Proofs.YtaoadopnhphjbaaDoor.Ra
open Go.RowKit Go.Shelf
attribute [local go_sem] Oper.semAt_some
set_option maxRecDepth 100000 in
/-- stream: the state and the number are boxed; the function value captures the boxes. -/
theorem stream_any (f : Nat → Int) (N : Int) (w : World) :
    Calls Tryd.prog 63 #[.agg (stc f), .int .i64 N] w fun e w' => e = .returned (.func (.func 78) #[] #[.pointer (some ⟨w.heap.size + 1, 0, none⟩), .pointer (some ⟨w.heap.size, 0, none⟩)]) ∧ w' = (w.alloc (.cells (stc f) 93)).alloc (.cells #[.int .i64 N] 3) := by
  go_enter Tryd.func63, Tryd.ntmps63
  go_wp2
  go_ret
  exact ⟨rfl, rfl⟩
set_option maxRecDepth 100000 in
theorem two_below {w w' : World} {a b : Obj} (h : w' = (w.alloc a).alloc b) : Below w.heap.size w w' := by
  rw [h]; exact ((Below.refl _ w).alloc (Nat.le_refl _) _).alloc (by simp) _
/-- The words of the first C blocks. -/
def strm (f : Nat → Int) (C : Nat) : List Int := cat (fun c => upto (blk (upd f 12 (c : Int))) 16) C
set_option maxRecDepth 100000 in
theorem strm_lt (f : Nat → Int) (C c k : Nat) (hc : c < C) (hk : k < 16) :
    (strm f c ++ upto (blk (upd f 12 (c : Int))) k).length < (strm f C).length ∧
    strm f c ++ upto (blk (upd f 12 (c : Int))) k ++ [blk (upd f 12 (c : Int)) k] <+: strm f C := by
  have h2 : strm f c ++ upto (blk (upd f 12 (c : Int))) k ++ [blk (upd f 12 (c : Int)) k] <+: strm f C := by
    rw [List.append_assoc, ← upto_succ]
    refine List.IsPrefix.trans ?_ (cat_prefix _ (show c + 1 ≤ C from hc))
    rw [cat_succ]
    exact (List.prefix_append_right_inj _).2 (upto_prefix _ (by omega))
  exact ⟨by have := h2.length_le; simp at this ⊢; omega, h2⟩
/-- What the stream's iterator reads between two rounds is as it was: its state, and the table. -/
def Kst (Bs : Nat) (A B : World) : Prop := B.heap[Bs]? = A.heap[Bs]? ∧ B.heap[1]? = A.heap[1]?
set_option maxRecDepth 100000 in
theorem Kst.refl (Bs : Nat) (A : World) : Kst Bs A A := ⟨rfl, rfl⟩
set_option maxRecDepth 100000 in
theorem Kst.trans {Bs : Nat} {A B C : World} (h : Kst Bs A B) (k : Kst Bs B C) : Kst Bs A C := ⟨k.1.trans h.1, k.2.trans h.2⟩
set_option maxRecDepth 100000 in
theorem Kst.below {Bs : Nat} {A B : World} (h : Below A.heap.size A B) (h1 : Bs < A.heap.size) (h2 : 1 < A.heap.size) : Kst Bs A B := ⟨h.block _ h1, h.block _ h2⟩
set_option maxRecDepth 100000 in
set_option maxHeartbeats 1000000 in
theorem stream1_in (n : Nat) (hn : 1 ≤ n) (l Bn Bs : Nat) (f : Nat → Int) (N : Nat) (hN : N ≤ 1048576) {tt : TypeId} {fr : Nat × Nat} (J Jx : List Int → World → Prop)
    (hJ : ∀ pre W W', J pre W → Below W.heap.size W W' → J pre W')
    (hY : ∀ pre x W, J pre W → pre.length < (strm f ((N + 63) / 64)).length → YieldAt Fence.wide (n - 1) Tryd.prog l #[.int .u32 x] W fun e W' =>
      (e = .returned (.bool true) ∧ J (pre ++ [x]) W' ∧ Kst Bs W W') ∨ (e = .returned (.bool false) ∧ Jx (pre ++ [x]) W'))
    (W : World) (hcn : W.cell? ⟨Bn, 0, none⟩ = some (.int .i64 (N : Int))) (hs : W.heap[Bs]? = some (.cells (stc f) 93 (0, 0))) (ht : W.heap[1]? = some (.cells tab tt fr)) (h0 : J [] W) :
    CallsIn Fence.wide n Tryd.prog 78 #[.func (.yield l) #[] #[], .pointer (some ⟨Bn, 0, none⟩), .pointer (some ⟨Bs, 0, none⟩)] W fun e W' => (∃ v, e = .returned v) ∧
      ((∃ ys, ys = strm f ((N + 63) / 64) ∧ J ys W') ∨ (∃ pre, pre <+: strm f ((N + 63) / 64) ∧ Jx pre W')) := by
  have HY : Hid _ := hY
  have HJ : Hid _ := hJ
  have HS : Hid _ := hs
  have HT : Hid _ := ht
  clear hY hJ hs ht
  obtain ⟨C, hC⟩ : ∃ C, (N + 63) / 64 = C := ⟨_, rfl⟩
  rw [hC] at HY ⊢
  have g0 : (0 : Int) ≤ (N : Int) := by omega
  have g1 : (N : Int) ≤ 1048576 := by omega
  have HC : Hid _ := hC
  clear hC
  refine callsIn_of_wp Tryd.func78 rfl trivial ?_ rfl
  simp only [Tryd.ntmps78, List.size_toArray, List.length_cons, List.length_nil, Nat.reduceAdd, Nat.reduceSub, Array.replicate_succ, Array.replicate_zero, List.push_toArray, List.append_toArray, List.nil_append, List.cons_append]
  gi_wp2
  have hC := HC.out
  rw [show ((N : Int) + 64 - 1) / 64 = (C : Int) by omega]
  have hC2 : (C : Int) ≤ 16384 := by omega
  clear HC hC g0 g1 hN hcn
  gi_loopw [12] (fun i wr => ∃ c : Nat, c ≤ C ∧ i = .int .u32 c ∧ J (strm f c) wr ∧ Kst Bs W wr) (fun i _ => C - (intOf i).toNat)
  case atStart => exact ⟨0, Nat.zero_le _, rfl, h0, Kst.refl _ _⟩
  case round =>
    clear h0
    obtain ⟨c, hc, rfl, hJs, hnx⟩ := hrel
    have c0 : (0 : Int) ≤ (c : Int) := by omega
    have c1 : (c : Int) ≤ 16384 := by omega
    by_cases hlt : c < C
    · have HS1 : Hid (wr.heap[Bs]? = some (.cells (stc f) 93 (0, 0))) := hnx.1.trans HS.out
      have HT1 : Hid (wr.heap[1]? = some (.cells tab tt fr)) := hnx.2.trans HT.out
      have HP : Hid _ := fun k hk => strm_lt f C c k hlt hk
      have HSN : Hid (strm f (c + 1) = strm f c ++ upto (blk (upd f 12 (c : Int))) 16) := cat_succ _ _
      have HJs : Hid _ := hJs
      have HNX : Hid _ := hnx
      have hwz : 1 < wr.heap.size := (Array.getElem?_eq_some_iff.1 HT1.out).1
      clear hJs hnx
      gi_wp2_with (first
        | (refine wpListIn_load_row rfl 93 _ rfl Bs rfl 93 _ (0, 0) _ HS1.out Tryd.underlying93 rfl (by rw [stc_size]; kernel_rfl) ?_)
        | (refine ⟨trivial, ?_⟩; gi_at_call 79; refine (callsIn_wide.2 (at_any _ _ _)).mono ?_; rintro e w2 ⟨rfl, hw2⟩; have hb2 : Below wr.heap.size wr w2 := two_below hw2; clear hw2))
      refine ⟨trivial, ?_⟩
      refine (callsIn_wide.2 (block_any _ _ ((hb2.block 1 hwz).trans HT1.out))).mono ?_
      rintro e w3 ⟨rfl, hb3⟩
      have hb13 : Below wr.heap.size wr w3 := hb2.trans (hb3.mono hb2.size)
      have hJ3 := HJ.out _ _ _ HJs.out hb13
      have hn3 : Kst Bs W w3 := Kst.trans HNX.out (Kst.below hb13 (Array.getElem?_eq_some_iff.1 HS1.out).1 hwz)
      clear hb2 hb3 hb13 HJs HNX HS1 HT1 hwz
      generalize hG : blk (upd f 12 (c : Int)) = G at *
      clear hG
      generalize strm f c = P0 at *
      gi_wp2
      gi_loopw [19] (fun i wr => ∃ k : Nat, k ≤ 16 ∧ i = .int .i64 k ∧ J (P0 ++ upto G k) wr ∧ Kst Bs W wr) (fun i _ => 16 - (intOf i).toNat)
      case atStart => exact ⟨0, by omega, rfl, by simpa [upto] using hJ3, hn3⟩
      case round =>
        clear hJ3 hn3
        obtain ⟨k, hk, rfl, hJs, hnx⟩ := hrel
        have k0 : (0 : Int) ≤ (k : Int) := by omega
        by_cases hk16 : k < 16
        · have k1 : (k : Int) < 16 := by omega
          have hix := idx_k G k hk16
          obtain ⟨fn, tmps, assign, body, hy, hR⟩ := HY.out (P0 ++ upto G k) (G k) wr hJs (HP.out k hk16).1
          clear hJs
          have HN : Hid _ := hnx
          clear hnx
          gi_wp2
          refine hR.mono ?_
          rintro e W3 (⟨rfl, hJ3, hk3⟩ | ⟨rfl, hJx3⟩)
          · gi_wp2
            go_roundw
            case rel => exact ⟨k + 1, by omega, by go_num, by rw [upto_succ, ← List.append_assoc]; exact hJ3, Kst.trans HN.out hk3⟩
            case measure => simp [intOf]; omega
          · gi_wp2
            refine bodyPost_ret (results_none rfl _ _ _) rfl ?_
            exact ⟨⟨_, rfl⟩, .inr ⟨_, (HP.out k hk16).2, hJx3⟩⟩
        · obtain rfl : k = 16 := by omega
          gi_wp2
          go_roundw
          case rel => exact ⟨c + 1, by omega, by go_num, by rw [HSN.out]; exact hJs, hnx⟩
          case measure => simp [intOf]; omega
    · obtain rfl : c = C := by omega
      gi_wp2
      go_end0
      exact ⟨⟨_, rfl⟩, .inl ⟨_, rfl, hJs⟩⟩
end Go.Proofs.YtaoadopnhphjbaaDoor.Ra
namespace Go.Proofs.YtaoadopnhphjbaaDoor.Ra
open Go.RowKit Go.Shelf
attribute [local go_sem] Oper.semAt_some
set_option maxRecDepth 100000 in
theorem stream_stops (n : Nat) (hn : 1 ≤ n) (Bn Bs : Nat) (f : Nat → Int) (N : Nat) (hN : N ≤ 1048576) {tt : TypeId} {fr : Nat × Nat} (w : World) (hBn : Bn < w.heap.size) (hBs : Bs < w.heap.size)
    (hc : w.cell? ⟨Bn, 0, none⟩ = some (.int .i64 (N : Int))) (hs : w.heap[Bs]? = some (.cells (stc f) 93 (0, 0))) (ht : w.heap[1]? = some (.cells tab tt fr)) :
    SeqStopsK Fence.wide n Tryd.prog 78 #[.pointer (some ⟨Bn, 0, none⟩), .pointer (some ⟨Bs, 0, none⟩)] (fun x : Int => #[Value.int .u32 x]) (Kst Bs) (fun ys => ys = strm f ((N + 63) / 64)) (fun pre => pre <+: strm f ((N + 63) / 64)) (strm f ((N + 63) / 64)).length w :=
  fun l J Jx W hW hJ _ hY h0 => by
    have hz : 1 < w.heap.size := (Array.getElem?_eq_some_iff.1 ht).1
    exact stream1_in n hn l Bn Bs f N hN J Jx (fun pre A B h hb => hJ pre A B none h (gb_below hb none) (fun r e => by cases e)) hY W ((hW.cell (p := ⟨Bn, 0, none⟩) hBn).trans hc)
      ((hW.block Bs hBs).trans hs) ((hW.block 1 hz).trans ht) h0
set_option maxRecDepth 100000 in
/-- An operation that defers nothing, in a round, is as outside. -/
theorem opIn_round {F : Fence} {n : Nat} {P : Program} {o : Oper} {a : Act} {w : World} {K : Act → World → Prop} {Q : Exit → Act → World → Prop} (l : Nat) (hd : ∀ c, o.op ≠ .defer c) (h : o.wpIn F n P a w K Q) : o.wpIn (F.inRound l) n P a w K Q := by
  unfold Oper.wpIn at h ⊢
  refine ⟨h.1, ?_⟩
  have h2 := h.2
  rw [Oper.semAt_plain F _ _ hd] at h2
  rw [Oper.semAt_plain (F.inRound l) _ _ hd]
  exact h2
set_option maxRecDepth 100000 in
theorem wpOpIn_round {F : Fence} {n : Nat} {P : Program} {ops : Array Oper} {Q : Exit → Act → World → Prop} {i : Nat} {K K' : Act → World → Prop} {a : Act} {w : World} (l : Nat) (hd : ∀ o ∈ ops, ∀ c, o.op ≠ .defer c)
    (hK : ∀ a w, K a w → K' a w) (h : wpOpIn F n P ops Q i K a w) : wpOpIn (F.inRound l) n P ops Q i K' a w := by
  have h' := wpOpIn_mono hK h
  unfold wpOpIn at h' ⊢
  cases ho : ops[i]? with
  | none => rw [ho] at h'; exact h'
  | some o =>
    rw [ho] at h'
    by_cases hw : Region.wanted o (yielded ops a.tmps) = true
    · simp only [hw, if_true] at h' ⊢
      exact opIn_round l (hd o (Array.mem_of_getElem? ho)) h'
    · simp only [hw] at h' ⊢
      exact h'
set_option maxRecDepth 100000 in
/-- A region that defers nothing, in a round, is as outside. -/
theorem anyIn_round {F : Fence} {n : Nat} {P : Program} {md : Region.Mode} {ops : Array Oper} {Q : Exit → Act → World → Prop} (l : Nat) (hd : ∀ o ∈ ops, ∀ c, o.op ≠ .defer c) :
    ∀ (fuel : Nat) (listed : Array Bool) (a : Act) (w : World), wpAnyIn F n P md ops Q fuel listed a w → wpAnyIn (F.inRound l) n P md ops Q fuel listed a w := by
  intro fuel
  induction fuel with
  | zero => intro listed a w h; exact h
  | succ fuel ih =>
    intro listed a w h
    exact ⟨h.1, fun i hi => wpOpIn_round l hd (fun a w hk => ih _ a w hk) (h.2 i hi)⟩
end Go.Proofs.YtaoadopnhphjbaaDoor.Ra
namespace Go.Proofs.YtaoadopnhphjbaaDoor.Ra
/-- A word, shifted by j bytes. -/
def shx (x : Int) (j : Nat) : Int := x / (256 : Int) ^ j
theorem shx_zero (x : Int) : shx x 0 = x := by simp [shx]
theorem shx_succ (x : Int) (j : Nat) : shx x (j + 1) = shx x j / 256 := by
  unfold shx
  rw [Int.pow_succ, Int.ediv_ediv_of_nonneg (Int.pow_nonneg (by decide))]
theorem b4_at (x : Int) (j : Nat) (h : j < 4) : (b4 x)[j]?.getD 0 = shx x j % 256 := by
  match j, h with
  | 0, _ => simp [b4, shx]
  | 1, _ => simp [b4, shx]
  | 2, _ => simp [b4, shx]
  | 3, _ => simp [b4, shx]
  | j + 4, h => exact absurd h (by omega)
/-- The bytes of words. -/
def kb (pre : List Int) : List Int := pre.flatMap b4
theorem kb_length (pre : List Int) : (kb pre).length = 4 * pre.length := by
  induction pre with
  | nil => rfl
  | cons x r ih => unfold kb at ih ⊢; rw [List.flatMap_cons, List.length_append, ih]; simp [b4]; omega
theorem kb_snoc (pre : List Int) (x : Int) : kb (pre ++ [x]) = kb pre ++ b4 x := by simp [kb]
/-- A text's byte under the bytes of words. -/
def xf (s : ByteArray) (pre : List Int) : Nat → Int := fun i => bits BinOp.xor IntKind.u8 (bt s i) (lf (kb pre) i)
theorem xf_prefix (s : ByteArray) {pre l : List Int} (h : pre <+: l) (i : Nat) (hi : i < 4 * pre.length) : xf s l i = xf s pre i := by
  obtain ⟨r, rfl⟩ := h
  unfold xf lf
  have e : kb (pre ++ r) = kb pre ++ kb r := by simp [kb]
  rw [e, List.getElem?_append_left (by rw [kb_length]; exact hi)]
theorem xf_at (s : ByteArray) (pre : List Int) (x : Int) (j : Nat) (h : j < 4) : xf s (pre ++ [x]) (4 * pre.length + j) = bits BinOp.xor IntKind.u8 (bt s (4 * pre.length + j)) (shx x j % 256) := by
  unfold xf lf
  rw [kb_snoc, List.getElem?_append_right (by rw [kb_length]; omega), kb_length, show 4 * pre.length + j - 4 * pre.length = j by omega, b4_at x j h]
theorem upto_congr {f g : Nat → Int} {k : Nat} (h : ∀ i, i < k → f i = g i) : upto f k = upto g k := by
  unfold upto
  exact List.map_congr_left fun i hi => h i (List.mem_range.1 hi)
theorem xf_snoc (s : ByteArray) (pre : List Int) (x : Int) : upto (xf s (pre ++ [x])) (4 * pre.length) = upto (xf s pre) (4 * pre.length) :=
  upto_congr fun i hi => xf_prefix s (List.prefix_append _ _) i hi
end Go.Proofs.YtaoadopnhphjbaaDoor.Ra
namespace Go.Proofs.YtaoadopnhphjbaaDoor.Ra
open Go.RowKit
/-- The word of four bytes from a place on. -/
def wdAt (s : ByteArray) (a : Nat) : Int := wrd (bt s a) (bt s (a + 1)) (bt s (a + 2)) (bt s (a + 3))
set_option maxRecDepth 100000 in
theorem wdAt_get (s : ByteArray) (a : Nat) (h : a + 4 ≤ s.size) : wdAt s a = bits BinOp.or IntKind.u32 (bits BinOp.or IntKind.u32 (bits BinOp.or IntKind.u32 ((s[a].toNat : Int) % 4294967296) ((s[a + 1].toNat : Int) % 4294967296 * 256 % 4294967296)) ((s[a + 2].toNat : Int) % 4294967296 * 65536 % 4294967296)) ((s[a + 3].toNat : Int) % 4294967296 * 16777216 % 4294967296) := by
  unfold wdAt wrd
  rw [bt_get s a (by omega), bt_get s (a + 1) (by omega), bt_get s (a + 2) (by omega), bt_get s (a + 3) (by omega)]
  simp only [IntKind.wrap_u32']
set_option maxRecDepth 100000 in
set_option maxHeartbeats 400000 in
theorem word_any (s : ByteArray) (a : Nat) (h : a + 4 ≤ s.size) (hm : s.size ≤ 1000) (w : World) :
    Calls Tryd.prog 88 #[.string s, .int .i64 (a : Int)] w fun e w' => e = .returned (.int .u32 (wdAt s a)) ∧ ∃ n, w' = w.drewN n := by
  have k0 : (0 : Int) ≤ (a : Int) := by omega
  have kn : a < s.size := by omega
  have k0' : (a : Int) < (s.size : Int) := by omega
  have k1 : (a : Int) + 1 < (s.size : Int) := by omega
  have k2 : (a : Int) + 2 < (s.size : Int) := by omega
  have k3 : (a : Int) + 3 < (s.size : Int) := by omega
  have ka : (a : Int) ≤ 1000 := by omega
  have n1 : (0 : Int) ≤ (a : Int) + 1 := by omega
  have n2 : (0 : Int) ≤ (a : Int) + 2 := by omega
  have n3 : (0 : Int) ≤ (a : Int) + 3 := by omega
  go_enter Tryd.func88, Tryd.ntmps88
  go_wp2
  go_quiet (fail)
  go_wp2
  go_ret
  refine ⟨?_, _, rfl⟩
  rw [wdAt_get s a h]
  rfl
set_option maxRecDepth 100000 in
theorem info22 : (Tryd.prog.info? 22).map (fun i => (i.zero, i.size, i.bytes)) = some (some (.int .u32 0), 1, 4) := by kernel_rfl
/-- A slice of sixteen words, by its block. -/
def RowS (w : World) (g cap : Nat) (f : Nat → Int) : Prop :=
  ∃ cur, w.heap[g]? = some (.cells cur 22 (0, 0)) ∧ cur.size = cap ∧ 16 ≤ cap ∧ ∀ i, i < 16 → cur[i]? = some (.int .u32 (f i))
set_option maxRecDepth 100000 in
theorem RowS.cell {w : World} {g cap : Nat} {f : Nat → Int} (h : RowS w g cap f) (i : Nat) (hi : i < 16) : w.cell? ⟨g, i, none⟩ = some (.int .u32 (f i)) ∧ w.frozen? ⟨g, i, none⟩ = false := by
  obtain ⟨cur, h1, _, _, h4⟩ := h
  exact ⟨(cell_of_row _ _ _ _ _ _ h1).trans (h4 i hi), frozen_of_row _ _ _ _ _ h1⟩
set_option maxRecDepth 100000 in
theorem RowS.set {w : World} {g cap : Nat} {f : Nat → Int} (h : RowS w g cap f) (a : Nat) (x : Int) (ha : a < 16) : RowS (w.setCell ⟨g, a, none⟩ (.int .u32 x)) g cap (upd f a x) := by
  obtain ⟨cur, h1, h2, h3, h4⟩ := h
  refine ⟨_, heap_setCell_same _ _ _ _ _ _ h1, by simpa using h2, h3, fun i hi => ?_⟩
  unfold upd
  by_cases e : i = a
  · subst e
    rw [Array.getElem?_setIfInBounds_self_of_lt (by omega)]; simp
  · rw [Array.getElem?_setIfInBounds_ne (by omega), h4 i hi]; simp [e]
set_option maxRecDepth 100000 in
theorem RowS.same {w w' : World} {g cap : Nat} {f : Nat → Int} (h : RowS w g cap f) (hh : w'.heap[g]? = w.heap[g]?) : RowS w' g cap f := by
  obtain ⟨cur, h1, h2, h3, h4⟩ := h
  exact ⟨cur, hh.trans h1, h2, h3, h4⟩
set_option maxRecDepth 100000 in
theorem RowS.lt {w : World} {g cap : Nat} {f : Nat → Int} (h : RowS w g cap f) : g < w.heap.size := by
  obtain ⟨cur, h1, _⟩ := h
  exact (Array.getElem?_eq_some_iff.1 h1).1
end Go.Proofs.YtaoadopnhphjbaaDoor.Ra
namespace Go.Proofs.YtaoadopnhphjbaaDoor.Ra
open Go.RowKit
set_option maxRecDepth 100000 in
theorem q_exact (w : World) (n : Nat) (z0 z1 z2 z3 x0 x1 x2 x3 : Value) : (((((w.alloc (.cells #[z0, z1, z2, z3] 119)).drewN n).setCell ⟨w.heap.size, 0, none⟩ x0).setCell ⟨w.heap.size, 1, none⟩ x1).setCell ⟨w.heap.size, 2, none⟩ x2).setCell ⟨w.heap.size, 3, none⟩ x3 = (w.alloc (.cells #[x0, x1, x2, x3] 119)).drewN n := by
  show (((((w.alloc (.cells #[z0, z1, z2, z3] 119)).setCell ⟨w.heap.size, 0, none⟩ x0).setCell ⟨w.heap.size, 1, none⟩ x1).setCell ⟨w.heap.size, 2, none⟩ x2).setCell ⟨w.heap.size, 3, none⟩ x3).drewN n = _
  simp [go_sem]
set_option maxRecDepth 100000 in
set_option maxHeartbeats 400000 in
theorem rquarter_ex (a b c d : Int) (w : World) :
    Calls Tryd.prog 89 #[.int .u32 a, .int .u32 b, .int .u32 c, .int .u32 d] w fun e w' => e = .returned (.agg #[.int .u32 (qa a b c d), .int .u32 (qb a b c d), .int .u32 (qc a b c d), .int .u32 (qd a b c d)]) ∧
      ∃ n, w' = (w.alloc (.cells #[.int .u32 (qa a b c d), .int .u32 (qb a b c d), .int .u32 (qc a b c d), .int .u32 (qd a b c d)] 119)).drewN n := by
  go_enter Tryd.func89, Tryd.ntmps89
  go_wp2_with fail
  refine (turned16_any _ _).mono ?_; rintro e w' ⟨rfl, n1, rfl⟩
  go_wp2_with fail
  refine (turned12_any _ _).mono ?_; rintro e w' ⟨rfl, n2, rfl⟩
  go_wp2_with fail
  refine (turned8_any _ _).mono ?_; rintro e w' ⟨rfl, n3, rfl⟩
  go_wp2_with fail
  refine (turned7_any _ _).mono ?_; rintro e w' ⟨rfl, n4, rfl⟩
  go_wp2_with fail
  refine bodyPost_ret (v := .agg #[.int .u32 (qa a b c d), .int .u32 (qb a b c d), .int .u32 (qc a b c d), .int .u32 (qd a b c d)]) (by simp [results, Tryd.results89, go_sem, qa, qb, qc, qd, qd1, qb1]) (by rfl) ⟨rfl, n1 + n2 + n3 + n4, ?_⟩
  exact q_exact w (n1 + n2 + n3 + n4) _ _ _ _ _ _ _ _
set_option maxRecDepth 100000 in
theorem cell_al {W : World} {a : Addr} {v : Value} (o : Obj) (h : W.cell? a = some v) : (W.alloc o).cell? a = some v :=
  (World.cell?_of_block (w := W) (Below.heap_alloc W o a.block (block_lt_of_cell h))).trans h
set_option maxRecDepth 100000 in
theorem RowS.al {w : World} {g cap : Nat} {f : Nat → Int} (h : RowS w g cap f) (o : Obj) : RowS (w.alloc o) g cap f := h.same (Below.heap_alloc _ _ _ h.lt)
set_option maxRecDepth 100000 in
theorem RowS.dr {w : World} {g cap : Nat} {f : Nat → Int} (h : RowS w g cap f) : RowS w.drew g cap f := h.same rfl
set_option maxRecDepth 100000 in
theorem RowS.drN {w : World} {g cap : Nat} {f : Nat → Int} (h : RowS w g cap f) (n : Nat) : RowS (w.drewN n) g cap f := h.same rfl
set_option maxRecDepth 100000 in
theorem RowS.far {w : World} {g cap : Nat} {f : Nat → Int} (h : RowS w g cap f) (b i : Nat) (v : Value) (hb : g ≠ b) : RowS (w.setCell ⟨b, i, none⟩ v) g cap f := h.same (Below.heap_setCell _ _ _ _ hb)
set_option maxRecDepth 100000 in
theorem gb_new {w W : World} {r : Option Nat} (h : w.grownBy W r) (i : Nat) (v : Value) : w.grownBy (W.setCell ⟨w.heap.size, i, none⟩ v) r :=
  ⟨h.os, h.tape, h.output, by have := h.size; simp [World.setCell]; omega, fun k hk hne => (Below.heap_setCell _ _ _ _ (by simp; omega)).trans (h.block k hk hne)⟩
set_option maxRecDepth 100000 in
theorem gb_refl (w : World) (r : Option Nat) : w.grownBy w r := ⟨rfl, rfl, rfl, Nat.le_refl _, fun _ _ _ => rfl⟩
set_option maxRecDepth 100000 in
theorem gb_al {w W : World} {r : Option Nat} (h : w.grownBy W r) (o : Obj) : w.grownBy (W.alloc o) r :=
  ⟨h.os, h.tape, h.output, by have := h.size; simp; omega, fun k hk hne => (Below.heap_alloc _ _ _ (Nat.lt_of_lt_of_le hk h.size)).trans (h.block k hk hne)⟩
set_option maxRecDepth 100000 in
theorem gb_dr {w W : World} {r : Option Nat} (h : w.grownBy W r) : w.grownBy W.drew r := ⟨h.os, h.tape, h.output, h.size, h.block⟩
set_option maxRecDepth 100000 in
theorem gb_drN {w W : World} {r : Option Nat} (h : w.grownBy W r) (n : Nat) : w.grownBy (W.drewN n) r := ⟨h.os, h.tape, h.output, h.size, h.block⟩
set_option maxRecDepth 100000 in
theorem gb_set {w W : World} {g : Nat} (h : w.grownBy W (some g)) (i : Nat) (v : Value) : w.grownBy (W.setCell ⟨g, i, none⟩ v) (some g) :=
  ⟨h.os, h.tape, h.output, by have := h.size; simp [World.setCell]; omega, fun k hk hne => (Below.heap_setCell _ _ _ _ (fun e => hne (by rw [e]))).trans (h.block k hk hne)⟩
set_option maxRecDepth 100000 in
set_option maxHeartbeats 1000000 in
theorem refat_any (g cap : Nat) (f : Nat → Int) (a b c d : Nat) (ha : a < 16) (hb : b < 16) (hc : c < 16) (hd : d < 16) (nab : a ≠ b) (nac : a ≠ c) (nad : a ≠ d) (nbc : b ≠ c) (nbd : b ≠ d) (ncd : c ≠ d) (w : World) (h : RowS w g cap f) :
    Calls Tryd.prog 73 #[.slice (some ⟨g, 0, none⟩) 16 cap, .int .i64 (a : Int), .int .i64 (b : Int), .int .i64 (c : Int), .int .i64 (d : Int)] w fun e w' => e = .returned (.tuple #[]) ∧ RowS w' g cap (qt f a b c d) ∧ w.grownBy w' (some g) := by
  obtain ⟨ca, za⟩ := h.cell a ha
  obtain ⟨cb, zb⟩ := h.cell b hb
  obtain ⟨cc, zc⟩ := h.cell c hc
  obtain ⟨cd, zd⟩ := h.cell d hd
  have l0 : g < w.heap.size := h.lt
  have l1 : g < w.heap.size + 1 := Nat.lt_succ_of_lt l0
  have ga : (0 : Int) ≤ (a : Int) := by omega
  have gb : (0 : Int) ≤ (b : Int) := by omega
  have gc : (0 : Int) ≤ (c : Int) := by omega
  have gd : (0 : Int) ≤ (d : Int) := by omega
  have ea : (a : Int) < 16 := by omega
  have eb : (b : Int) < 16 := by omega
  have ec : (c : Int) < 16 := by omega
  have ed : (d : Int) < 16 := by omega
  have HR : Hid (RowS w g cap f) := h
  clear h
  go_enter Tryd.func73, Tryd.ntmps73
  go_wp2
  go_region_held3 (fun w' => w'.cell? ⟨g, a, none⟩ = some (.int .u32 (f a)) ∧ w'.cell? ⟨g, b, none⟩ = some (.int .u32 (f b)) ∧ w'.cell? ⟨g, c, none⟩ = some (.int .u32 (f c)) ∧ w'.cell? ⟨g, d, none⟩ = some (.int .u32 (f d))) (simp [*, go_sem]) ((go_at_call 89; refine (rquarter_ex _ _ _ _ _).mono ?_; rintro e w1 ⟨rfl, nn, rfl⟩))
  all_goals go_wp2
  all_goals go_end0
  all_goals
    refine ⟨rfl, ?_, ?_⟩
    · unfold qt
      repeat (first | (with_reducible exact HR.out) | (with_reducible refine RowS.al ?_ _) | (with_reducible refine RowS.drN ?_ _) | (with_reducible refine RowS.dr ?_) | (with_reducible refine RowS.set ?_ _ _ (by assumption)) | (with_reducible refine RowS.far ?_ _ _ _ (by omega)))
    · repeat (first | (with_reducible exact gb_refl _ _) | (with_reducible refine gb_al ?_ _) | (with_reducible refine gb_drN ?_ _) | (with_reducible refine gb_dr ?_) | (with_reducible refine gb_set ?_ _ _) | (with_reducible refine gb_new ?_ _ _))
end Go.Proofs.YtaoadopnhphjbaaDoor.Ra
namespace Go.Proofs.YtaoadopnhphjbaaDoor.Ra
open Go.RowKit Go.Shelf
attribute [local go_sem] Oper.semAt_some
set_option maxRecDepth 100000 in
theorem ownsRow_setCell_other {w : World} {base : Nat} {e : TypeId} {size : Nat} {g cap n : Nat} {xs : List Value} (h : w.ownsRow base e size (.slice (some ⟨g, 0, none⟩) n cap) n xs) {a : Addr} (ha : g ≠ a.block) (u : Value) : (w.setCell a u).ownsRow base e size (.slice (some ⟨g, 0, none⟩) n cap) n xs := by
  refine ⟨h.1, ?_⟩
  rcases h.2 with h2 | ⟨g', cap', cur, hv, hg, hh, r⟩
  · exact .inl h2
  · refine .inr ⟨g', cap', cur, hv, hg, ?_, r⟩
    cases hv
    rw [Below.heap_setCell _ _ _ _ ha]; exact hh
set_option maxRecDepth 100000 in
theorem own_cells {w : World} {base : Nat} {e : TypeId} {size : Nat} {g cap n : Nat} {xs : List Value} (h : w.ownsRow base e size (.slice (some ⟨g, 0, none⟩) n cap) n xs) (b : Nat) (o : Obj) (hb : some g = some b) (ho : w.heap[b]? = some o) : o.isCells = true := by
  cases hb
  rcases h.2 with ⟨hv, _⟩ | ⟨g', cap', cur, hv, _, hh, _⟩
  · cases hv
  · cases hv
    rw [hh] at ho; cases ho; rfl
set_option maxRecDepth 100000 in
/-- The built-in append, by its run. -/
theorem opIn_append {F : Fence} {n : Nat} {P : Program} {o : Oper} {a : Act} {w : World} {K : Act → World → Prop} {Q : Exit → Act → World → Prop} (t : TypeId) (s x : Operand) (ho : o.op = .call { callee := .builtin .append, args := #[s, x], argTypes := #[t, t] })
    {vs vx v' : Value} {w' : World} (hs : a.eval s = vs) (hx : a.eval x = vx) (hrun : (Builtin.append_ #[t, t] o.type #[vs, vx]).run P w = .ok v' w') (hK : K (a.put o.dst v') w') : o.wpIn F n P a w K Q := by
  unfold Oper.wpIn
  refine ⟨?_, ?_⟩
  · simp [Oper.about, ho, resolve, Target.leads]
  · rw [Oper.semAt_plain F _ _ (by rw [ho]; intro c hc; cases hc)]
    simp [execOp, ho, hs, hx, hrun, Result.andThen, resolve, invoke, builtin]
    exact hK
set_option maxRecDepth 100000 in
theorem strm_length (f : Nat → Int) (C : Nat) : (strm f C).length = 16 * C := by
  unfold strm
  induction C with
  | zero => rfl
  | succ C ih => rw [cat_succ, List.length_append, ih, upto_length]; omega
/-- What Xor's own cells hold when k bytes have come out: the text, the row of bytes, its header. -/
def OutI (s : ByteArray) (Bx Bo : Nat) (W : World) (k : Nat) (g : Nat → Int) : Prop :=
  W.heap[Bx]? = some (.cells #[.string s] 9 (0, 0)) ∧ W.heap[Bo]? = some (.cells #[.slice (some ⟨Bx + 1, 0, none⟩) k s.size] 41 (0, 0)) ∧
  W.ownsRow (Bx + 1) 5 1 (.slice (some ⟨Bx + 1, 0, none⟩) k s.size) k ((upto g k).map (Value.int .u8))
set_option maxRecDepth 100000 in
theorem own_kept {W W' : World} {row : Option Nat} {base : Nat} {e : TypeId} {size : Nat} {g cap n : Nat} {xs : List Value} (h : W.ownsRow base e size (.slice (some ⟨g, 0, none⟩) n cap) n xs) (hg : W.grownBy W' row)
    (hr : ∀ r, row = some r → ∃ o : Obj, W.heap[r]? = some o ∧ o.isCells = false) : W'.ownsRow base e size (.slice (some ⟨g, 0, none⟩) n cap) n xs := by
  refine h.kept hg (.inr fun e => ?_)
  obtain ⟨o, h1, h2⟩ := hr g (by rw [← e]; rfl)
  rcases h.2 with ⟨hv, _⟩ | ⟨g', cap', cur, hv, _, hh, _⟩
  · cases hv
  · cases hv
    rw [hh] at h1; cases h1; cases h2
set_option maxRecDepth 100000 in
theorem OutI.kept {s : ByteArray} {Bx Bo : Nat} {W W' : World} {k : Nat} {g : Nat → Int} {row : Option Nat} (h : OutI s Bx Bo W k g) (hg : W.grownBy W' row)
    (hr : ∀ r, row = some r → ∃ o : Obj, W.heap[r]? = some o ∧ o.isCells = false) : OutI s Bx Bo W' k g :=
  ⟨blk_kept h.1 rfl hg hr, blk_kept h.2.1 rfl hg hr, own_kept h.2.2 hg hr⟩
set_option maxRecDepth 100000 in
theorem OutI.congr {s : ByteArray} {Bx Bo : Nat} {W : World} {k : Nat} {g g' : Nat → Int} (h : OutI s Bx Bo W k g) (hc : upto g k = upto g' k) : OutI s Bx Bo W k g' :=
  ⟨h.1, h.2.1, by rw [← hc]; exact h.2.2⟩
set_option maxRecDepth 100000 in
theorem OutI.drew {s : ByteArray} {Bx Bo : Nat} {W : World} {k : Nat} {g : Nat → Int} (h : OutI s Bx Bo W k g) : OutI s Bx Bo W.drew k g := h
set_option maxRecDepth 100000 in
set_option maxHeartbeats 1000000 in
theorem Xor_no_in (key nonce s : ByteArray) (w : World) (h : ¬ (key.size = 32 ∧ nonce.size = 12)) :
    CallsIn Fence.wide 5 Tryd.prog 47 #[.string key, .string nonce, .string s] w fun e w' => e = .returned (.tuple #[.string ByteArray.empty, .int .i64 2]) ∧ Below w.heap.size w w' := by
  have HN : Hid _ := h
  clear h
  refine callsIn_of_wp Tryd.func47 rfl trivial ?_ rfl
  simp only [Tryd.ntmps47, List.size_toArray, List.length_cons, List.length_nil, Nat.reduceAdd, Nat.reduceSub, Array.replicate_succ, Array.replicate_zero, List.push_toArray, List.append_toArray, List.nil_append, List.cons_append]
  gi_wp2
  refine (wpIn_wide (n := 5)).2 (wp_scope_straight ((wpIn_wide (n := 5)).1 ?_))
  gi_wp2_with (refine ⟨trivial, ?_⟩; gi_at_call 61; refine (callsIn_wide.2 (fit_no _ _ _ HN.out)).mono ?_; rintro e w1 ⟨rfl, rfl⟩)
  rw [Exit.noGoto_ret]
  go_ret2
  exact ⟨rfl, (Below.refl _ w).alloc (Nat.le_refl _) _⟩
set_option maxRecDepth 100000 in
set_option maxHeartbeats 1000000 in
theorem Xor_long_in (key nonce s : ByteArray) (w : World) (h1 : key.size = 32) (h2 : nonce.size = 12) (h : 1048576 < s.size) :
    CallsIn Fence.wide 5 Tryd.prog 47 #[.string key, .string nonce, .string s] w fun e w' => e = .returned (.tuple #[.string ByteArray.empty, .int .i64 2]) ∧ Below w.heap.size w w' := by
  have H1 : Hid _ := h1
  have H2 : Hid _ := h2
  have hl : (1048576 : Int) < (s.size : Int) := by omega
  clear h h1 h2
  refine callsIn_of_wp Tryd.func47 rfl trivial ?_ rfl
  simp only [Tryd.ntmps47, List.size_toArray, List.length_cons, List.length_nil, Nat.reduceAdd, Nat.reduceSub, Array.replicate_succ, Array.replicate_zero, List.push_toArray, List.append_toArray, List.nil_append, List.cons_append]
  gi_wp2
  refine (wpIn_wide (n := 5)).2 (wp_scope_straight ((wpIn_wide (n := 5)).1 ?_))
  gi_wp2_with (refine ⟨trivial, ?_⟩; gi_at_call 61; refine (callsIn_wide.2 (fit_yes _ _ _ H1.out H2.out)).mono ?_; rintro e w1 ⟨rfl, rfl⟩)
  rw [Exit.noGoto_ret]
  go_ret2
  exact ⟨rfl, (Below.refl _ w).alloc (Nat.le_refl _) _⟩
set_option maxRecDepth 100000 in
set_option maxHeartbeats 1000000 in
theorem Xor_yes_in (key nonce s : ByteArray) (w : World) (h1 : key.size = 32) (h2 : nonce.size = 12) (h : s.size ≤ 1048576) {tt : TypeId} {fr : Nat × Nat} (hg : w.heap[1]? = some (.cells tab tt fr)) :
    CallsIn Fence.wide 5 Tryd.prog 47 #[.string key, .string nonce, .string s] w fun e w' =>
      e = .returned (.tuple #[.string (strOfNums (upto (xf s (strm (lf (cat (fun j => wds (tx key nonce j)) 4)) ((s.size + 63) / 64))) s.size)), .int .i64 0]) ∧ Below w.heap.size w w' := by
  have hw0 : 1 < w.heap.size := (Array.getElem?_eq_some_iff.1 hg).1
  have H1 : Hid _ := h1
  have H2 : Hid _ := h2
  have HG : Hid _ := hg
  have hl : ¬ (1048576 : Int) < (s.size : Int) := by omega
  have hl0 : (s.size : Int) ≤ 1048576 := by omega
  have hld : decide ((1048576 : Int) < (s.size : Int)) = false := by simp; omega
  clear h1 h2 hg
  obtain ⟨i0, hi, hz0, hz1, hz2⟩ := info_parts info5
  refine callsIn_of_wp_marks Tryd.func47 rfl trivial ?_ rfl
  simp only [Tryd.ntmps47, List.size_toArray, List.length_cons, List.length_nil, Nat.reduceAdd, Nat.reduceSub, Array.replicate_succ, Array.replicate_zero, List.push_toArray, List.append_toArray, List.nil_append, List.cons_append]
  gi_wp2
  refine (wpIn_wide (n := 5)).2 (wp_scope_straight ((wpIn_wide (n := 5)).1 ?_))
  gi_wp2_with (first
    | (refine ⟨trivial, ?_⟩; gi_at_call 61; refine (callsIn_wide.2 (fit_yes _ _ _ H1.out H2.out)).mono ?_; rintro e w1 ⟨rfl, hh⟩; have hh' := hh.symm; clear hh; subst hh')
    | (gi_at_make; refine wpListIn_make_own _ rfl _ _ 41 rfl (w.heap.size + 1) 5 i0 (.int .u8 0) 1 Tryd.underlying41 hi hz0 hz1 .i64 .i64 (s.size : Int) s.size rfl rfl rfl (by rw [hz2]; omega) (by unfold maxLen; omega) (by simp) ?_; intro w2 hown2 hgrow2))
  have hs0 : (w.alloc (.cells #[.string s] 9)).heap[w.heap.size]? = some (.cells #[.string s] 9 (0, 0)) := heap_alloc_new w _
  have hsz0 : (w.alloc (.cells #[.string s] 9)).heap.size = w.heap.size + 1 := by simp
  have hs2 := (hgrow2.block w.heap.size (by omega) (by simp)).trans hs0
  have hb02 : Below w.heap.size w w2 := ((Below.refl _ w).alloc (Nat.le_refl _) _).grown hgrow2 (by omega) (fun k e => by cases e)
  have hlt2 : w.heap.size + 1 < w2.heap.size := by have := (hown2.lt _ rfl).2; simp at this; omega
  simp only [World.size_alloc] at hown2
  obtain ⟨W3, hW3⟩ : ∃ W3, w2.alloc (.cells #[.slice (some ⟨w.heap.size + 1, 0, none⟩) 0 s.size] 41) = W3 := ⟨_, rfl⟩
  have ho3 : W3.ownsRow (w.heap.size + 1) 5 1 (.slice (some ⟨w.heap.size + 1, 0, none⟩) 0 s.size) 0 [] := by rw [← hW3]; exact hown2.alloc _
  have hbo3 : W3.heap[w2.heap.size]? = some (.cells #[.slice (some ⟨w.heap.size + 1, 0, none⟩) 0 s.size] 41 (0, 0)) := by rw [← hW3]; exact heap_alloc_new w2 _
  have hs3 : W3.heap[w.heap.size]? = some (.cells #[.string s] 9 (0, 0)) := by rw [← hW3]; exact (Below.heap_alloc _ _ _ (by omega)).trans hs2
  have hb03 : Below w.heap.size w W3 := by rw [← hW3]; exact hb02.alloc hb02.size _
  have hsz3 : W3.heap.size = w2.heap.size + 1 := by rw [← hW3]; simp
  rw [hW3]
  clear hW3 hs0 hsz0 hs2 hb02 hown2 hgrow2
  have cS : W3.cell? ⟨w.heap.size, 0, none⟩ = some (.string s) := by rw [cell_of_row _ _ _ _ _ _ hs3]; rfl
  have lS : w.heap.size < W3.heap.size := by omega
  have HO3 : Hid (W3.ownsRow (w.heap.size + 1) 5 1 (.slice (some ⟨w.heap.size + 1, 0, none⟩) 0 s.size) 0 []) := ho3
  have HBo : Hid _ := hbo3
  have HS3 : Hid _ := hs3
  have HB3 : Hid _ := hb03
  have HZ3 : Hid _ := hsz3
  clear ho3 hbo3 hs3 hb03 hsz3
  refine wpIn_label ?_
  gi_wp2
  refine (wpIn_wide (n := 5)).2 ?_
  go_region_held3 (fun w' => w'.cell? ⟨w.heap.size, 0, none⟩ = some (.string s)) (first | assumption | exact cS) ((first
    | (go_at_call 62; refine (begin_any key nonce H1.out H2.out _).mono ?_; rintro e w4 ⟨rfl, hb4⟩; have y4 : w4.cell? ⟨w.heap.size, 0, none⟩ = some (.string s) := (hb4.cell (p := ⟨w.heap.size, 0, none⟩) lS).trans cS; have HB4 : Hid (Below W3.heap.size W3 w4) := ⟨hb4.os, hb4.tape, hb4.output, hb4.size, hb4.block⟩; clear hb4)
    | (go_at_call 63; refine (stream_any _ _ _).mono ?_; rintro e w5 ⟨rfl, hw5⟩; have y5 : w5.cell? ⟨w.heap.size, 0, none⟩ = some (.string s) := (by rw [hw5]; exact cell_al _ (cell_al _ y4)); have HW5 : Hid _ := hw5; clear hw5)))
  have hw5 := HW5.out
  have hB45 : Below w4.heap.size w4 w5 := two_below hw5
  have f2 : w5.heap[w4.heap.size + 1]? = some (.cells #[.int .i64 (s.size : Int)] 3 (0, 0)) := by
    rw [hw5]; simpa using heap_alloc_new (w4.alloc _) _
  have f1 : w5.heap[w4.heap.size]? = some (.cells (stc (lf (cat (fun j => wds (tx key nonce j)) 4))) 93 (0, 0)) := by
    rw [hw5]; exact (Below.heap_alloc _ _ _ (by simp)).trans (heap_alloc_new w4 _)
  have hsz5 : w5.heap.size = w4.heap.size + 1 + 1 := by rw [hw5]; simp
  clear hw5 HW5 y4 y5 cS
  have hB35 : Below W3.heap.size W3 w5 := HB4.out.trans (hB45.mono HB4.out.size)
  have hB05 : Below w.heap.size w w5 := HB3.out.trans (hB35.mono HB3.out.size)
  have hz3 := HZ3.out
  have h34 := HB4.out.size
  have o5 : OutI s w.heap.size w2.heap.size w5 0 (xf s []) := ⟨(hB35.block _ lS).trans HS3.out, (hB35.block _ (by omega)).trans HBo.out, own_below HO3.out hB35⟩
  have t5 := (hB05.block 1 hw0).trans HG.out
  have c5 : w5.cell? ⟨w4.heap.size + 1, 0, none⟩ = some (.int .i64 (s.size : Int)) := by rw [cell_of_row _ _ _ _ _ _ f2]; rfl
  clear f2 hB45 hB35 HB4 HB3 HS3 HBo HO3 HZ3
  have HO5 : Hid (OutI s w.heap.size w2.heap.size w5 0 (xf s [])) := o5
  have HT5 : Hid _ := t5
  have HC5 : Hid _ := c5
  have HF1 : Hid _ := f1
  have HB5 : Hid _ := hB05
  clear o5 t5 c5 f1 hB05 HG
  generalize hf : lf (cat (fun j => wds (tx key nonce j)) 4) = f at *
  have HF : Hid _ := hf
  clear hf
  gi_wp2
  have hlt4 : w2.heap.size < w4.heap.size := by omega
  have hn48 : s.size ≤ 1048576 := h
  refine wpIn_rangeFunc_ownF rfl (by omega) (gf := 78) (lb := #[.pointer (some ⟨w4.heap.size + 1, 0, none⟩), .pointer (some ⟨w4.heap.size, 0, none⟩)]) rfl trivial (enters_of Tryd.func78 (by kernel_rfl) rfl)
    (stream_stops 4 (by omega) (w4.heap.size + 1) w4.heap.size f s.size h w5 (by omega) (by omega) HC5.out HF1.out HT5.out) Kst.trans (fun W l o o' hl ho _ _ => ⟨World.putObj_heap_other (by omega), World.putObj_heap_other (by omega)⟩) (Below.refl _ _) (fun _ => rfl)
    (fun pre W => ((4 * pre.length ≤ s.size ∧ w4.heap.size < W.heap.size) ∧ OutI s w.heap.size w2.heap.size W (4 * pre.length) (xf s pre)) ∧ Below w.heap.size w W)
    (fun c pre W => (c = .exit 0 ∧ s.size ≤ 4 * pre.length ∧ OutI s w.heap.size w2.heap.size W s.size (xf s pre)) ∧ Below w.heap.size w W)
    (OwnFrom.and (Own.from (fun p A B row hp hg hr => ⟨⟨hp.1.1, Nat.lt_of_lt_of_le hp.1.2 hg.size⟩, hp.2.kept hg hr⟩) _) (ownFrom_below (Nat.le_refl _) (by omega)))
    (fun c => OwnFrom.and (Own.from (fun p A B row hp hg hr => ⟨hp.1, hp.2.1, hp.2.2.kept hg hr⟩) _) (ownFrom_below (Nat.le_refl _) (by omega)))
    ⟨⟨⟨by simp, by omega⟩, HO5.out⟩, HB5.out⟩
    (fun x => { tmps := #[.string key, .string nonce, .string s, undef, undef, .pointer (some ⟨w.heap.size, 0, none⟩), .string ⟨#[]⟩, .int .i64 0, .pointer (some ⟨w2.heap.size, 0, none⟩), .int .u32 x, .string key, .string nonce, .bool true, .bool false, .bool false, .string s, .int .i64 (s.size : Int), .bool false, .bool false, .string s, .int .i64 (s.size : Int), .slice (some ⟨w.heap.size + 1, 0, none⟩) 0 s.size, .string key, .string nonce, .agg (stc f), .string s, .int .i64 (s.size : Int), .func (.func 78) #[] #[.pointer (some ⟨w4.heap.size + 1, 0, none⟩), .pointer (some ⟨w4.heap.size, 0, none⟩)], .int .u32 x, undef, undef, undef, undef, undef, undef, undef, undef, undef, undef, undef, undef, undef, undef, undef, undef, undef, undef, undef, undef, undef, undef], defers := [] }) ?assign ?body ?done ?stop
  case assign =>
    intro l x W K hK
    gi_wp2
    exact hK
  case body =>
    rintro l pre x W ⟨⟨⟨hle, hsW⟩, ho⟩, hB⟩ _
    have hmx : Tryd.prog.follows .mixedOrders = true := by kernel_rfl
    clear HO5 HT5 HC5 HF1 HB5 H1 H2
    gi_wp2
    gi_loopw [9, 29] (fun v i wr => ∃ j : Nat, j ≤ 4 ∧ i = .int .i64 j ∧ v = .int .u32 (shx x j) ∧ 4 * pre.length + j ≤ s.size ∧ OutI s w.heap.size w2.heap.size wr (4 * pre.length + j) (xf s (pre ++ [x])) ∧ KeepsOthers W wr ∧ Kst w4.heap.size W wr ∧ Below w.heap.size w wr) (fun _ i _ => 4 - (intOf i).toNat)
    case atStart => exact ⟨0, by omega, rfl, by rw [shx_zero], hle, ho.congr (xf_snoc s pre x).symm, KeepsOthers.refl _, Kst.refl _ _, hB⟩
    case round =>
      clear ho hB hle
      obtain ⟨j, hj, rfl, rfl, hle, ho, hko, hks, hB⟩ := hrel
      have XA : Hid (j < 4 → xf s (pre ++ [x]) (4 * pre.length + j) = bits BinOp.xor IntKind.u8 (bt s (4 * pre.length + j)) (shx x j % 256)) := fun h4 => xf_at s pre x j h4
      have SX : Hid (shx x (j + 1) = shx x j / 256) := shx_succ x j
      have HL : Hid ((pre ++ [x]).length = pre.length + 1) := (by show (pre ++ [x]).length = pre.length + 1; simp)
      generalize hk : 4 * pre.length + j = k at *
      have HK : Hid (4 * pre.length + j = k) := hk
      clear hk
      have cs : wr.cell? ⟨w.heap.size, 0, none⟩ = some (.string s) := by rw [cell_of_row _ _ _ _ _ _ ho.1]; rfl
      have co : wr.cell? ⟨w2.heap.size, 0, none⟩ = some (.slice (some ⟨w.heap.size + 1, 0, none⟩) k s.size) := by rw [cell_of_row _ _ _ _ _ _ ho.2.1]; rfl
      have zo := frozen_of_row wr _ 0 _ _ ho.2.1
      have HO : Hid (OutI s w.heap.size w2.heap.size wr k (xf s (pre ++ [x]))) := ho
      have HKO : Hid (KeepsOthers W wr) := hko
      have HKS : Hid (Kst w4.heap.size W wr) := hks
      have HB : Hid (Below w.heap.size w wr) := hB
      clear ho hko hks hB
      have j0 : (0 : Int) ≤ (j : Int) := by omega
      by_cases h4 : j < 4
      · have j4 : (j : Int) < 4 := by omega
        by_cases hN : k = s.size
        · have hq : ((k : Int) == (s.size : Int)) = true := by simp; omega
          have HN : Hid (k = s.size) := hN
          clear hN
          gi_wp2
          refine ⟨HKO.out, ⟨rfl, ?_, ?_⟩, HB.out⟩
          · have := HK.out; have := HN.out; rw [HL.out]; omega
          · rw [← HN.out]; exact HO.out
        · have hq : ((k : Int) == (s.size : Int)) = false := by simp; omega
          have hkl : (k : Int) < (s.size : Int) := by omega
          have k0 : (0 : Int) ≤ (k : Int) := by omega
          clear hN
          have kn : k < s.size := by omega
          obtain ⟨y, hy⟩ : ∃ y, bits BinOp.xor IntKind.u8 (s[k].toNat : Int) (IntKind.u8.wrap (shx x j)) = y := ⟨_, rfl⟩
          have HY : Hid (xf s (pre ++ [x]) k = y) := by
            rw [← hy, IntKind.wrap_u8', bt_get s k kn]; exact XA.out h4
          have hwlt : w2.heap.size < wr.heap.size := (Array.getElem?_eq_some_iff.1 HO.out.2.1).1
          have hx4 : w4.heap.size < wr.heap.size := Nat.lt_of_lt_of_le hsW HKO.out.size
          obtain ⟨w9, hrun, hown9, hgrow9⟩ := run_append_fits (P := Tryd.prog) (wr.alloc (.cells #[.int .u8 y] 5)).drew (w.heap.size + 1) 41 41 5 i0 1 Tryd.underlying41 hi hz1 (w.heap.size + 1) k s.size _ (show (wr.alloc (.cells #[.int .u8 y] 5)).drew.ownsRow (w.heap.size + 1) 5 1 (.slice (some ⟨w.heap.size + 1, 0, none⟩) k s.size) k ((upto (xf s (pre ++ [x])) k).map (Value.int .u8)) from HO.out.2.2.alloc _)
            ⟨wr.heap.size, 0, none⟩ 1 1 [.int .u8 y] rfl (cell_one_new _ _ _) (fun u hu => by simp at hu; subst hu; rfl) (by omega)
          have hg8 : wr.grownBy (wr.alloc (.cells #[.int .u8 y] 5)).drew none := gb_dr (gb_al (gb_refl _ _) _)
          have e8 : (wr.alloc (.cells #[.int .u8 y] 5)).drew.heap.size = wr.heap.size + 1 := by show (wr.alloc (.cells #[.int .u8 y] 5)).heap.size = _; simp
          have nine : ∀ b, b < wr.heap.size → b ≠ w.heap.size + 1 → w9.heap[b]? = wr.heap[b]? := fun b hb hne => (hgrow9.block b (by omega) (by simpa using hne)).trans (hg8.block b hb (by simp))
          have hbo9 : w9.heap[w2.heap.size]? = some (.cells #[.slice (some ⟨w.heap.size + 1, 0, none⟩) k s.size] 41 (0, 0)) := (nine _ hwlt (by omega)).trans HO.out.2.1
          have c9 : w9.cell? ⟨w2.heap.size, 0, none⟩ = some (.slice (some ⟨w.heap.size + 1, 0, none⟩) k s.size) := by rw [cell_of_row _ _ _ _ _ _ hbo9]; rfl
          have z9 := frozen_of_row w9 _ 0 _ _ hbo9
          have HOut : Hid (OutI s w.heap.size w2.heap.size (w9.setCell ⟨w2.heap.size, 0, none⟩ (.slice (some ⟨w.heap.size + 1, 0, none⟩) (k + 1) s.size)) (k + 1) (xf s (pre ++ [x]))) := by
            refine ⟨(Below.heap_setCell _ _ _ _ (by simp; omega)).trans ((nine _ (by omega) (by omega)).trans HO.out.1), ?_, ?_⟩
            · rw [heap_setCell_same _ _ _ _ _ _ hbo9]; rfl
            · have hh := ownsRow_setCell_other hown9 (a := ⟨w2.heap.size, 0, none⟩) (by simp; omega) (.slice (some ⟨w.heap.size + 1, 0, none⟩) (k + 1) s.size)
              rw [upto_succ, List.map_append, HY.out]
              exact hh
          have HKO2 : Hid (KeepsOthers W (w9.setCell ⟨w2.heap.size, 0, none⟩ (.slice (some ⟨w.heap.size + 1, 0, none⟩) (k + 1) s.size))) :=
            ((HKO.out.trans (KeepsOthers.alloc _ _)).trans (KeepsOthers.drew _)).trans ((KeepsOthers.of_grownBy hgrow9 (fun b o hb ho => own_cells (HO.out.2.2.alloc (.cells #[.int .u8 y] 5)) b o hb ho)).trans (KeepsOthers.setCell _ _ _))
          have HKS2 : Hid (Kst w4.heap.size W (w9.setCell ⟨w2.heap.size, 0, none⟩ (.slice (some ⟨w.heap.size + 1, 0, none⟩) (k + 1) s.size))) :=
            Kst.trans HKS.out ⟨(Below.heap_setCell _ _ _ _ (by simp; omega)).trans (nine _ hx4 (by omega)), (Below.heap_setCell _ _ _ _ (by simp; omega)).trans (nine _ (by omega) (by omega))⟩
          have HB2 : Hid (Below w.heap.size w (w9.setCell ⟨w2.heap.size, 0, none⟩ (.slice (some ⟨w.heap.size + 1, 0, none⟩) (k + 1) s.size))) :=
            (((HB.out.alloc HB.out.size (.cells #[.int .u8 y] 5)).drew).grown hgrow9 (by have := HB.out.size; omega) (fun b e => by cases e; omega)).setCell (by simp; omega) _
          clear hown9 hgrow9 hg8 e8 nine hbo9 HO HKO HKS HB XA HY
          have hi8 : ∀ w', (Instr.index 9 (.string s) (.int .i64 (k : Int))).run Tryd.prog w' = .ok (.int .u8 (s[k].toNat : Int)) w' := fun w' => by simp [go_sem, k0, hkl]
          gi_wp2
          refine wpIn_region_any hmx ?_
          change wpAnyIn _ _ _ _ _ _ _ _ _ (World.drew _)
          refine anyIn_round (F := Fence.wide) l (by intro o ho c hc; simp at ho; rcases ho with rfl | rfl | rfl | rfl | rfl | rfl | rfl | rfl | rfl | rfl | rfl <;> cases hc) _ _ _ _ ?_
          refine wpAnyIn_take (i := 5) (v := ?_) rfl rfl (by kernel_rfl) (by kernel_rfl) (by kernel_rfl) (fun _ _ _ h => h) ⟨Or.inl ⟨by rfl, ?_⟩, fun _ => rfl⟩ ?_
          rotate_left
          · intro w
            go_simp
            try with_reducible rfl
          refine wpAnyIn_take (i := 6) (v := ?_) rfl rfl (by kernel_rfl) (by kernel_rfl) (by kernel_rfl) (fun _ _ _ h => h) ⟨Or.inl ⟨by rfl, ?_⟩, fun _ => rfl⟩ ?_
          rotate_left
          · intro w
            go_simp
            try with_reducible rfl
          refine wpAnyIn_ready (rs := [0, 1, 2]) (by kernel_rfl) (by simp) ?_
          refine (AllReadyIn.cons rfl (fun K hK => ?_) (AllReadyIn.cons rfl (fun K hK => ?_) (AllReadyIn.cons rfl (fun K hK => ?_) AllReadyIn.nil)))
          all_goals (go_simp; refine hK _ _ ?_; clear hK K)
          · refine wpAnyIn_ready (rs := [1, 2]) (by kernel_rfl) (by simp) ?_
            refine (AllReadyIn.cons rfl (fun K hK => ?_) (AllReadyIn.cons rfl (fun K hK => ?_) AllReadyIn.nil))
            all_goals (go_simp; refine hK _ _ ?_; clear hK K)
            · refine wpAnyIn_ready (rs := [2]) (by kernel_rfl) (by simp) ?_
              refine (AllReadyIn.cons rfl (fun K hK => ?_) AllReadyIn.nil)
              all_goals (go_simp; refine hK _ _ ?_; clear hK K)
              refine wpAnyIn_take (i := 3) (v := ?_) rfl rfl (by kernel_rfl) (by kernel_rfl) (by kernel_rfl) (fun _ _ _ h => h) ⟨Or.inl ⟨by rfl, ?_⟩, fun _ => rfl⟩ ?_
              rotate_left
              · intro w
                go_simp
                try with_reducible rfl
              refine wpAnyIn_take (i := 4) (v := ?_) rfl rfl (by kernel_rfl) (by kernel_rfl) (by kernel_rfl) (fun _ _ _ h => h) ⟨Or.inl ⟨by rfl, ?_⟩, fun _ => rfl⟩ ?_
              rotate_left
              · intro w
                go_simp
                try with_reducible rfl
              refine wpAnyIn_take (i := 7) (v := ?_) rfl rfl (by kernel_rfl) (by kernel_rfl) (by kernel_rfl) (fun _ _ _ h => h) ⟨Or.inl ⟨by rfl, ?_⟩, fun _ => rfl⟩ ?_
              rotate_left
              · intro w
                go_simp
                try with_reducible rfl
              refine wpAnyIn_ready (rs := [8]) (by kernel_rfl) (by simp) ?_
              refine (AllReadyIn.cons rfl (fun K hK => ?_) AllReadyIn.nil)
              all_goals (go_simp; refine hK _ _ ?_; clear hK K)
              refine wpAnyIn_ready (rs := [9]) (by kernel_rfl) (by simp) ?_
              refine (AllReadyIn.cons rfl (fun K hK => ?_) AllReadyIn.nil)
              rw [if_pos (by rfl)]
              refine opIn_append 41 _ _ rfl rfl rfl hrun ?_
              refine hK _ _ ?_
              clear hK K
              refine wpAnyIn_ready (rs := [10]) (by kernel_rfl) (by simp) ?_
              refine (AllReadyIn.cons rfl (fun K hK => ?_) AllReadyIn.nil)
              all_goals (go_simp; refine hK _ _ ?_; clear hK K)
              refine wpAnyIn_done (by kernel_rfl) ?_ _
              gi_wp2
              go_roundw
              case rel => exact ⟨j + 1, by omega, by go_num, by rw [SX.out], by have := HK.out; omega, by rw [show 4 * pre.length + (j + 1) = k + 1 by have := HK.out; omega]; exact HOut.out, HKO2.out, HKS2.out, HB2.out⟩
              case measure => simp [intOf]; omega
            · refine wpAnyIn_take (i := 3) (v := ?_) rfl rfl (by kernel_rfl) (by kernel_rfl) (by kernel_rfl) (fun _ _ _ h => h) ⟨Or.inl ⟨by rfl, ?_⟩, fun _ => rfl⟩ ?_
              rotate_left
              · intro w
                go_simp
                try with_reducible rfl
              refine wpAnyIn_ready (rs := [1]) (by kernel_rfl) (by simp) ?_
              refine (AllReadyIn.cons rfl (fun K hK => ?_) AllReadyIn.nil)
              all_goals (go_simp; refine hK _ _ ?_; clear hK K)
              refine wpAnyIn_take (i := 4) (v := ?_) rfl rfl (by kernel_rfl) (by kernel_rfl) (by kernel_rfl) (fun _ _ _ h => h) ⟨Or.inl ⟨by rfl, ?_⟩, fun _ => rfl⟩ ?_
              rotate_left
              · intro w
                go_simp
                try with_reducible rfl
              refine wpAnyIn_take (i := 7) (v := ?_) rfl rfl (by kernel_rfl) (by kernel_rfl) (by kernel_rfl) (fun _ _ _ h => h) ⟨Or.inl ⟨by rfl, ?_⟩, fun _ => rfl⟩ ?_
              rotate_left
              · intro w
                go_simp
                try with_reducible rfl
              refine wpAnyIn_ready (rs := [8]) (by kernel_rfl) (by simp) ?_
              refine (AllReadyIn.cons rfl (fun K hK => ?_) AllReadyIn.nil)
              all_goals (go_simp; refine hK _ _ ?_; clear hK K)
              refine wpAnyIn_ready (rs := [9]) (by kernel_rfl) (by simp) ?_
              refine (AllReadyIn.cons rfl (fun K hK => ?_) AllReadyIn.nil)
              rw [if_pos (by rfl)]
              refine opIn_append 41 _ _ rfl rfl rfl hrun ?_
              refine hK _ _ ?_
              clear hK K
              refine wpAnyIn_ready (rs := [10]) (by kernel_rfl) (by simp) ?_
              refine (AllReadyIn.cons rfl (fun K hK => ?_) AllReadyIn.nil)
              all_goals (go_simp; refine hK _ _ ?_; clear hK K)
              refine wpAnyIn_done (by kernel_rfl) ?_ _
              gi_wp2
              go_roundw
              case rel => exact ⟨j + 1, by omega, by go_num, by rw [SX.out], by have := HK.out; omega, by rw [show 4 * pre.length + (j + 1) = k + 1 by have := HK.out; omega]; exact HOut.out, HKO2.out, HKS2.out, HB2.out⟩
              case measure => simp [intOf]; omega
          · refine wpAnyIn_ready (rs := [0, 2]) (by kernel_rfl) (by simp) ?_
            refine (AllReadyIn.cons rfl (fun K hK => ?_) (AllReadyIn.cons rfl (fun K hK => ?_) AllReadyIn.nil))
            all_goals (go_simp; refine hK _ _ ?_; clear hK K)
            · refine wpAnyIn_ready (rs := [2]) (by kernel_rfl) (by simp) ?_
              refine (AllReadyIn.cons rfl (fun K hK => ?_) AllReadyIn.nil)
              all_goals (go_simp; refine hK _ _ ?_; clear hK K)
              refine wpAnyIn_take (i := 3) (v := ?_) rfl rfl (by kernel_rfl) (by kernel_rfl) (by kernel_rfl) (fun _ _ _ h => h) ⟨Or.inl ⟨by rfl, ?_⟩, fun _ => rfl⟩ ?_
              rotate_left
              · intro w
                go_simp
                try with_reducible rfl
              refine wpAnyIn_take (i := 4) (v := ?_) rfl rfl (by kernel_rfl) (by kernel_rfl) (by kernel_rfl) (fun _ _ _ h => h) ⟨Or.inl ⟨by rfl, ?_⟩, fun _ => rfl⟩ ?_
              rotate_left
              · intro w
                go_simp
                try with_reducible rfl
              refine wpAnyIn_take (i := 7) (v := ?_) rfl rfl (by kernel_rfl) (by kernel_rfl) (by kernel_rfl) (fun _ _ _ h => h) ⟨Or.inl ⟨by rfl, ?_⟩, fun _ => rfl⟩ ?_
              rotate_left
              · intro w
                go_simp
                try with_reducible rfl
              refine wpAnyIn_ready (rs := [8]) (by kernel_rfl) (by simp) ?_
              refine (AllReadyIn.cons rfl (fun K hK => ?_) AllReadyIn.nil)
              all_goals (go_simp; refine hK _ _ ?_; clear hK K)
              refine wpAnyIn_ready (rs := [9]) (by kernel_rfl) (by simp) ?_
              refine (AllReadyIn.cons rfl (fun K hK => ?_) AllReadyIn.nil)
              rw [if_pos (by rfl)]
              refine opIn_append 41 _ _ rfl rfl rfl hrun ?_
              refine hK _ _ ?_
              clear hK K
              refine wpAnyIn_ready (rs := [10]) (by kernel_rfl) (by simp) ?_
              refine (AllReadyIn.cons rfl (fun K hK => ?_) AllReadyIn.nil)
              all_goals (go_simp; refine hK _ _ ?_; clear hK K)
              refine wpAnyIn_done (by kernel_rfl) ?_ _
              gi_wp2
              go_roundw
              case rel => exact ⟨j + 1, by omega, by go_num, by rw [SX.out], by have := HK.out; omega, by rw [show 4 * pre.length + (j + 1) = k + 1 by have := HK.out; omega]; exact HOut.out, HKO2.out, HKS2.out, HB2.out⟩
              case measure => simp [intOf]; omega
            · refine wpAnyIn_take (i := 3) (v := ?_) rfl rfl (by kernel_rfl) (by kernel_rfl) (by kernel_rfl) (fun _ _ _ h => h) ⟨Or.inl ⟨by rfl, ?_⟩, fun _ => rfl⟩ ?_
              rotate_left
              · intro w
                go_simp
                try with_reducible rfl
              refine wpAnyIn_take (i := 4) (v := ?_) rfl rfl (by kernel_rfl) (by kernel_rfl) (by kernel_rfl) (fun _ _ _ h => h) ⟨Or.inl ⟨by rfl, ?_⟩, fun _ => rfl⟩ ?_
              rotate_left
              · intro w
                go_simp
                try with_reducible rfl
              refine wpAnyIn_take (i := 7) (v := ?_) rfl rfl (by kernel_rfl) (by kernel_rfl) (by kernel_rfl) (fun _ _ _ h => h) ⟨Or.inl ⟨by rfl, ?_⟩, fun _ => rfl⟩ ?_
              rotate_left
              · intro w
                go_simp
                try with_reducible rfl
              refine wpAnyIn_ready (rs := [0, 8]) (by kernel_rfl) (by simp) ?_
              refine (AllReadyIn.cons rfl (fun K hK => ?_) (AllReadyIn.cons rfl (fun K hK => ?_) AllReadyIn.nil))
              all_goals (go_simp; refine hK _ _ ?_; clear hK K)
              · refine wpAnyIn_ready (rs := [8]) (by kernel_rfl) (by simp) ?_
                refine (AllReadyIn.cons rfl (fun K hK => ?_) AllReadyIn.nil)
                all_goals (go_simp; refine hK _ _ ?_; clear hK K)
                refine wpAnyIn_ready (rs := [9]) (by kernel_rfl) (by simp) ?_
                refine (AllReadyIn.cons rfl (fun K hK => ?_) AllReadyIn.nil)
                rw [if_pos (by rfl)]
                refine opIn_append 41 _ _ rfl rfl rfl hrun ?_
                refine hK _ _ ?_
                clear hK K
                refine wpAnyIn_ready (rs := [10]) (by kernel_rfl) (by simp) ?_
                refine (AllReadyIn.cons rfl (fun K hK => ?_) AllReadyIn.nil)
                all_goals (go_simp; refine hK _ _ ?_; clear hK K)
                refine wpAnyIn_done (by kernel_rfl) ?_ _
                gi_wp2
                go_roundw
                case rel => exact ⟨j + 1, by omega, by go_num, by rw [SX.out], by have := HK.out; omega, by rw [show 4 * pre.length + (j + 1) = k + 1 by have := HK.out; omega]; exact HOut.out, HKO2.out, HKS2.out, HB2.out⟩
                case measure => simp [intOf]; omega
              · refine wpAnyIn_ready (rs := [0]) (by kernel_rfl) (by simp) ?_
                refine (AllReadyIn.cons rfl (fun K hK => ?_) AllReadyIn.nil)
                all_goals (go_simp; refine hK _ _ ?_; clear hK K)
                refine wpAnyIn_ready (rs := [9]) (by kernel_rfl) (by simp) ?_
                refine (AllReadyIn.cons rfl (fun K hK => ?_) AllReadyIn.nil)
                rw [if_pos (by rfl)]
                refine opIn_append 41 _ _ rfl rfl rfl hrun ?_
                refine hK _ _ ?_
                clear hK K
                refine wpAnyIn_ready (rs := [10]) (by kernel_rfl) (by simp) ?_
                refine (AllReadyIn.cons rfl (fun K hK => ?_) AllReadyIn.nil)
                all_goals (go_simp; refine hK _ _ ?_; clear hK K)
                refine wpAnyIn_done (by kernel_rfl) ?_ _
                gi_wp2
                go_roundw
                case rel => exact ⟨j + 1, by omega, by go_num, by rw [SX.out], by have := HK.out; omega, by rw [show 4 * pre.length + (j + 1) = k + 1 by have := HK.out; omega]; exact HOut.out, HKO2.out, HKS2.out, HB2.out⟩
                case measure => simp [intOf]; omega
          · refine wpAnyIn_take (i := 3) (v := ?_) rfl rfl (by kernel_rfl) (by kernel_rfl) (by kernel_rfl) (fun _ _ _ h => h) ⟨Or.inl ⟨by rfl, ?_⟩, fun _ => rfl⟩ ?_
            rotate_left
            · intro w
              go_simp
              try with_reducible rfl
            refine wpAnyIn_ready (rs := [0, 1]) (by kernel_rfl) (by simp) ?_
            refine (AllReadyIn.cons rfl (fun K hK => ?_) (AllReadyIn.cons rfl (fun K hK => ?_) AllReadyIn.nil))
            all_goals (go_simp; refine hK _ _ ?_; clear hK K)
            · refine wpAnyIn_ready (rs := [1]) (by kernel_rfl) (by simp) ?_
              refine (AllReadyIn.cons rfl (fun K hK => ?_) AllReadyIn.nil)
              all_goals (go_simp; refine hK _ _ ?_; clear hK K)
              refine wpAnyIn_take (i := 4) (v := ?_) rfl rfl (by kernel_rfl) (by kernel_rfl) (by kernel_rfl) (fun _ _ _ h => h) ⟨Or.inl ⟨by rfl, ?_⟩, fun _ => rfl⟩ ?_
              rotate_left
              · intro w
                go_simp
                try with_reducible rfl
              refine wpAnyIn_take (i := 7) (v := ?_) rfl rfl (by kernel_rfl) (by kernel_rfl) (by kernel_rfl) (fun _ _ _ h => h) ⟨Or.inl ⟨by rfl, ?_⟩, fun _ => rfl⟩ ?_
              rotate_left
              · intro w
                go_simp
                try with_reducible rfl
              refine wpAnyIn_ready (rs := [8]) (by kernel_rfl) (by simp) ?_
              refine (AllReadyIn.cons rfl (fun K hK => ?_) AllReadyIn.nil)
              all_goals (go_simp; refine hK _ _ ?_; clear hK K)
              refine wpAnyIn_ready (rs := [9]) (by kernel_rfl) (by simp) ?_
              refine (AllReadyIn.cons rfl (fun K hK => ?_) AllReadyIn.nil)
              rw [if_pos (by rfl)]
              refine opIn_append 41 _ _ rfl rfl rfl hrun ?_
              refine hK _ _ ?_
              clear hK K
              refine wpAnyIn_ready (rs := [10]) (by kernel_rfl) (by simp) ?_
              refine (AllReadyIn.cons rfl (fun K hK => ?_) AllReadyIn.nil)
              all_goals (go_simp; refine hK _ _ ?_; clear hK K)
              refine wpAnyIn_done (by kernel_rfl) ?_ _
              gi_wp2
              go_roundw
              case rel => exact ⟨j + 1, by omega, by go_num, by rw [SX.out], by have := HK.out; omega, by rw [show 4 * pre.length + (j + 1) = k + 1 by have := HK.out; omega]; exact HOut.out, HKO2.out, HKS2.out, HB2.out⟩
              case measure => simp [intOf]; omega
            · refine wpAnyIn_take (i := 4) (v := ?_) rfl rfl (by kernel_rfl) (by kernel_rfl) (by kernel_rfl) (fun _ _ _ h => h) ⟨Or.inl ⟨by rfl, ?_⟩, fun _ => rfl⟩ ?_
              rotate_left
              · intro w
                go_simp
                try with_reducible rfl
              refine wpAnyIn_take (i := 7) (v := ?_) rfl rfl (by kernel_rfl) (by kernel_rfl) (by kernel_rfl) (fun _ _ _ h => h) ⟨Or.inl ⟨by rfl, ?_⟩, fun _ => rfl⟩ ?_
              rotate_left
              · intro w
                go_simp
                try with_reducible rfl
              refine wpAnyIn_ready (rs := [0, 8]) (by kernel_rfl) (by simp) ?_
              refine (AllReadyIn.cons rfl (fun K hK => ?_) (AllReadyIn.cons rfl (fun K hK => ?_) AllReadyIn.nil))
              all_goals (go_simp; refine hK _ _ ?_; clear hK K)
              · refine wpAnyIn_ready (rs := [8]) (by kernel_rfl) (by simp) ?_
                refine (AllReadyIn.cons rfl (fun K hK => ?_) AllReadyIn.nil)
                all_goals (go_simp; refine hK _ _ ?_; clear hK K)
                refine wpAnyIn_ready (rs := [9]) (by kernel_rfl) (by simp) ?_
                refine (AllReadyIn.cons rfl (fun K hK => ?_) AllReadyIn.nil)
                rw [if_pos (by rfl)]
                refine opIn_append 41 _ _ rfl rfl rfl hrun ?_
                refine hK _ _ ?_
                clear hK K
                refine wpAnyIn_ready (rs := [10]) (by kernel_rfl) (by simp) ?_
                refine (AllReadyIn.cons rfl (fun K hK => ?_) AllReadyIn.nil)
                all_goals (go_simp; refine hK _ _ ?_; clear hK K)
                refine wpAnyIn_done (by kernel_rfl) ?_ _
                gi_wp2
                go_roundw
                case rel => exact ⟨j + 1, by omega, by go_num, by rw [SX.out], by have := HK.out; omega, by rw [show 4 * pre.length + (j + 1) = k + 1 by have := HK.out; omega]; exact HOut.out, HKO2.out, HKS2.out, HB2.out⟩
                case measure => simp [intOf]; omega
              · refine wpAnyIn_ready (rs := [0]) (by kernel_rfl) (by simp) ?_
                refine (AllReadyIn.cons rfl (fun K hK => ?_) AllReadyIn.nil)
                all_goals (go_simp; refine hK _ _ ?_; clear hK K)
                refine wpAnyIn_ready (rs := [9]) (by kernel_rfl) (by simp) ?_
                refine (AllReadyIn.cons rfl (fun K hK => ?_) AllReadyIn.nil)
                rw [if_pos (by rfl)]
                refine opIn_append 41 _ _ rfl rfl rfl hrun ?_
                refine hK _ _ ?_
                clear hK K
                refine wpAnyIn_ready (rs := [10]) (by kernel_rfl) (by simp) ?_
                refine (AllReadyIn.cons rfl (fun K hK => ?_) AllReadyIn.nil)
                all_goals (go_simp; refine hK _ _ ?_; clear hK K)
                refine wpAnyIn_done (by kernel_rfl) ?_ _
                gi_wp2
                go_roundw
                case rel => exact ⟨j + 1, by omega, by go_num, by rw [SX.out], by have := HK.out; omega, by rw [show 4 * pre.length + (j + 1) = k + 1 by have := HK.out; omega]; exact HOut.out, HKO2.out, HKS2.out, HB2.out⟩
                case measure => simp [intOf]; omega
      · have ej : j = 4 := by omega
        have jn : ¬ (j : Int) < 4 := by omega
        have HEJ : Hid _ := ej
        clear ej h4
        gi_wp2
        have e4 : 4 * (pre ++ [x]).length = k := by have := HK.out; have := HEJ.out; rw [HL.out]; omega
        exact ⟨HKO.out, HKS.out, ⟨⟨by rw [e4]; exact hle, Nat.lt_of_lt_of_le hsW HKO.out.size⟩, by rw [e4]; exact HO.out⟩, HB.out⟩
  case done =>
    rintro D ys W hD rfl ⟨⟨⟨hle, _⟩, ho'⟩, hB⟩ hK
    have hlen : 4 * (strm f ((s.size + 63) / 64)).length = s.size := by
      have := strm_length f ((s.size + 63) / 64)
      omega
    rw [hlen] at ho'
    have ho := ho'
    clear ho' hle
    have hD' := hD
    have co : W.cell? ⟨w2.heap.size, 0, none⟩ = some (.slice (some ⟨w.heap.size + 1, 0, none⟩) s.size s.size) := by rw [cell_of_row _ _ _ _ _ _ ho.2.1]; rfl
    have hcv := own_string ho.2.2
    have HB : Hid (Below w.heap.size w W) := hB
    have HK : Hid (W.heap[D]? = some (.deferred (some []))) := hK
    clear ho hB hK hD HO5 HT5 HC5 HF1 HB5 hi hz0 hz1 hz2
    gi_wp2
    rw [Exit.noGoto_ret]
    refine ⟨by simp, .inl ⟨_, _, rfl, run_takeDeferred HK.out, ?_⟩⟩
    refine ⟨_, results_tmp2 rfl _ _ _, ?_, HB.out.trans (belowK_b (w := w) (Nat.le_refl _) W D _ _ (by omega) HK.out rfl rfl)⟩
    rw [HF.out]
    rfl
  case stop =>
    rintro D c pre W hD hpre ⟨⟨rfl, hge, ho'⟩, hB⟩ hK
    have ho := ho'.congr (g' := xf s (strm f ((s.size + 63) / 64))) (upto_congr fun i hi => (xf_prefix s hpre i (by omega)).symm)
    clear ho' hge hpre
    have hD' := hD
    have co : W.cell? ⟨w2.heap.size, 0, none⟩ = some (.slice (some ⟨w.heap.size + 1, 0, none⟩) s.size s.size) := by rw [cell_of_row _ _ _ _ _ _ ho.2.1]; rfl
    have hcv := own_string ho.2.2
    have HB : Hid (Below w.heap.size w W) := hB
    have HK : Hid (W.heap[D]? = some (.deferred (some []))) := hK
    clear ho hB hK hD HO5 HT5 HC5 HF1 HB5 hi hz0 hz1 hz2
    gi_wp2
    rw [Exit.noGoto_ret]
    refine ⟨by simp, .inl ⟨_, _, rfl, run_takeDeferred HK.out, ?_⟩⟩
    refine ⟨_, results_tmp2 rfl _ _ _, ?_, HB.out.trans (belowK_b (w := w) (Nat.le_refl _) W D _ _ (by omega) HK.out rfl rfl)⟩
    rw [HF.out]
    rfl
end Go.Proofs.YtaoadopnhphjbaaDoor.Ra
namespace Go.Proofs.YtaoadopnhphjbaaDoor.Ra
/-- A text under the stream of a key and a nonce. -/
def xorS (key nonce s : ByteArray) : ByteArray := strOfNums (upto (xf s (strm (lf (cat (fun j => wds (tx key nonce j)) 4)) ((s.size + 63) / 64))) s.size)
theorem xorS_size (key nonce s : ByteArray) : (xorS key nonce s).size = s.size := by
  unfold xorS; rw [strOfNums_size, upto_length]
theorem u8_bits (op : BinOp) (a b : Int) : 0 ≤ bits op IntKind.u8 a b ∧ bits op IntKind.u8 a b < 256 := by
  unfold bits
  rw [IntKind.wrap_u8']
  omega
theorem xor8 (a b : Int) : bits BinOp.xor IntKind.u8 a b = ((BitVec.ofInt 8 a ^^^ BitVec.ofInt 8 b).toNat : Int) := by
  show IntKind.u8.wrap ((BitVec.ofInt 8 a ^^^ BitVec.ofInt 8 b).toNat : Int) = _
  rw [IntKind.wrap_u8']
  have := (BitVec.ofInt 8 a ^^^ BitVec.ofInt 8 b).isLt
  omega
theorem xor_xor (a k : Int) (h0 : 0 ≤ a) (h1 : a < 256) : bits BinOp.xor IntKind.u8 (bits BinOp.xor IntKind.u8 a k) k = a := by
  rw [xor8, xor8, BitVec.ofInt_natCast, BitVec.ofNat_toNat, BitVec.setWidth_eq, BitVec.xor_assoc, BitVec.xor_self, BitVec.xor_zero]
  obtain ⟨n, rfl⟩ := Int.eq_ofNat_of_zero_le h0
  rw [BitVec.ofInt_natCast, BitVec.toNat_ofNat]
  omega
theorem bt_range (s : ByteArray) (i : Nat) : 0 ≤ bt s i ∧ bt s i < 256 := by
  unfold bt
  have := (s.data[i]?.getD 0).toNat_lt
  omega
theorem bt_str (l : List Int) (i : Nat) (hi : i < l.length) (h0 : 0 ≤ l[i]) (h1 : l[i] < 256) : bt (strOfNums l) i = l[i] := by
  unfold bt strOfNums
  simp only [List.getElem?_toArray, List.getElem?_map, List.getElem?_eq_getElem hi, Option.map_some, Option.getD_some]
  rw [UInt8.toNat_ofNat']
  omega
theorem bt_upto (g : Nat → Int) (n i : Nat) (hi : i < n) (h0 : 0 ≤ g i) (h1 : g i < 256) : bt (strOfNums (upto g n)) i = g i := by
  have e : (upto g n)[i]'(by rw [upto_length]; exact hi) = g i := by simp [upto]
  rw [bt_str _ i (by rw [upto_length]; exact hi) (by rw [e]; exact h0) (by rw [e]; exact h1), e]
theorem str_bt (s : ByteArray) : strOfNums (upto (bt s) s.size) = s := by
  apply ByteArray.ext
  apply Array.ext
  · show (strOfNums (upto (bt s) s.size)).size = s.size
    rw [strOfNums_size, upto_length]
  · intro i h1 h2
    have hi : i < s.size := h2
    simp only [strOfNums, upto, List.getElem_toArray, List.getElem_map, List.getElem_range]
    unfold bt
    rw [Array.getElem?_eq_getElem h2]
    simp
theorem xorS_twice (key nonce s : ByteArray) : xorS key nonce (xorS key nonce s) = s := by
  have e : xorS key nonce (xorS key nonce s) = strOfNums (upto (bt s) s.size) := by
    show strOfNums (upto (xf (xorS key nonce s) (strm _ (((xorS key nonce s).size + 63) / 64))) (xorS key nonce s).size) = _
    rw [xorS_size]
    congr 1
    refine upto_congr fun i hi => ?_
    unfold xf
    have hr := u8_bits BinOp.xor (bt s i) (lf (kb (strm (lf (cat (fun j => wds (tx key nonce j)) 4)) ((s.size + 63) / 64))) i)
    have hb : bt (xorS key nonce s) i = bits BinOp.xor IntKind.u8 (bt s i) (lf (kb (strm (lf (cat (fun j => wds (tx key nonce j)) 4)) ((s.size + 63) / 64))) i) := by
      unfold xorS
      exact bt_upto _ _ i hi hr.1 hr.2
    rw [hb]
    exact xor_xor _ _ (bt_range s i).1 (bt_range s i).2
  rw [e, str_bt]
end Go.Proofs.YtaoadopnhphjbaaDoor.Ra
namespace Go.Proofs.YtaoadopnhphjbaaDoor.Ra
open Go.RowKit
theorem upd_congr {f g : Nat → Int} (h : ∀ i, i < 16 → f i = g i) (k : Nat) (x : Int) : ∀ i, i < 16 → upd f k x i = upd g k x i := fun i hi => by
  unfold upd; rw [h i hi]
theorem qt_congr {f g : Nat → Int} (h : ∀ i, i < 16 → f i = g i) (a b c d : Nat) (ha : a < 16) (hb : b < 16) (hc : c < 16) (hd : d < 16) : ∀ i, i < 16 → qt f a b c d i = qt g a b c d i := by
  unfold qt
  rw [h a ha, h b hb, h c hc, h d hd]
  exact upd_congr (upd_congr (upd_congr (upd_congr h _ _) _ _) _ _) _ _
theorem rnd_congr {f g : Nat → Int} (h : ∀ i, i < 16 → f i = g i) : ∀ i, i < 16 → rnd f i = rnd g i := by
  unfold rnd
  exact (qt_congr (qt_congr (qt_congr (qt_congr (qt_congr (qt_congr (qt_congr (qt_congr h 0 4 8 12 (by decide) (by decide) (by decide) (by decide)) 1 5 9 13 (by decide) (by decide) (by decide) (by decide)) 2 6 10 14 (by decide) (by decide) (by decide) (by decide)) 3 7 11 15 (by decide) (by decide) (by decide) (by decide)) 0 5 10 15 (by decide) (by decide) (by decide) (by decide)) 1 6 11 12 (by decide) (by decide) (by decide) (by decide)) 2 7 8 13 (by decide) (by decide) (by decide) (by decide)) 3 4 9 14 (by decide) (by decide) (by decide) (by decide))
theorem bts_length (g : Nat → Int) (k : Nat) : (bts g k).length = 4 * k := by
  induction k with
  | zero => rfl
  | succ k ih => rw [bts_succ, List.length_append, ih]; simp [b4]; omega
theorem blkS_size (key : ByteArray) (c : Int) (nonce : ByteArray) : (blkS key c nonce).size = 64 := by
  unfold blkS; rw [strOfNums_size, bts_length]
theorem bts_take (g : Nat → Int) (k : Nat) : ∃ r, bts g (k + 2) = b4 (g 0) ++ b4 (g 1) ++ r := by
  induction k with
  | zero => exact ⟨[], by rw [bts_succ, bts_succ]; simp [bts, cat]⟩
  | succ k ih => obtain ⟨r, hr⟩ := ih; exact ⟨r ++ b4 (g (k + 2)), by rw [bts_succ, hr]; simp⟩
theorem two_new (w : World) (a b : Obj) : ((w.alloc a).alloc b).heap[w.heap.size + 1]? = some b ∧ ((w.alloc a).alloc b).heap.size = w.heap.size + 1 + 1 ∧ Below w.heap.size w ((w.alloc a).alloc b) := by
  refine ⟨?_, by simp, ((Below.refl _ w).alloc (Nat.le_refl _) _).alloc (by simp) _⟩
  simpa using heap_alloc_new (w.alloc a) b
end Go.Proofs.YtaoadopnhphjbaaDoor.Ra
namespace Go.Proofs.YtaoadopnhphjbaaDoor.Ra
open Go.RowKit
set_option maxRecDepth 100000 in
theorem Xor_no (key nonce s : ByteArray) (w : World) (h : ¬ (key.size = 32 ∧ nonce.size = 12)) :
    Calls Tryd.prog 47 #[.string key, .string nonce, .string s] w fun e w' => e = .returned (.tuple #[.string ByteArray.empty, .int .i64 2]) ∧ Below w.heap.size w w' := callsIn_wide.1 (Xor_no_in key nonce s w h)
set_option maxRecDepth 100000 in
theorem Xor_long (key nonce s : ByteArray) (w : World) (h1 : key.size = 32) (h2 : nonce.size = 12) (h : 1048576 < s.size) :
    Calls Tryd.prog 47 #[.string key, .string nonce, .string s] w fun e w' => e = .returned (.tuple #[.string ByteArray.empty, .int .i64 2]) ∧ Below w.heap.size w w' := callsIn_wide.1 (Xor_long_in key nonce s w h1 h2 h)
set_option maxRecDepth 100000 in
theorem Xor_yes (key nonce s : ByteArray) (w : World) (h1 : key.size = 32) (h2 : nonce.size = 12) (h : s.size ≤ 1048576) {tt : TypeId} {fr : Nat × Nat} (hg : w.heap[1]? = some (.cells tab tt fr)) :
    Calls Tryd.prog 47 #[.string key, .string nonce, .string s] w fun e w' => e = .returned (.tuple #[.string (xorS key nonce s), .int .i64 0]) ∧ Below w.heap.size w w' := callsIn_wide.1 (Xor_yes_in key nonce s w h1 h2 h hg)
end Go.Proofs.YtaoadopnhphjbaaDoor.Ra
