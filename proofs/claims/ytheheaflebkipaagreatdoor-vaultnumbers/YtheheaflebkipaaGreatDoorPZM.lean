/- The plain functions behind the walks of arx: words, quarter turns, states, rounds, blocks. -/
import Derived.WalkKit
namespace Go.Proofs.YtheheaflebkipaaGreatDoor.Ra
open Go.RowKit
def rot16 (x : Int) : Int := bits .or .u32 (x * 65536 % 4294967296) (x / 65536)
def rot12 (x : Int) : Int := bits .or .u32 (x * 4096 % 4294967296) (x / 1048576)
def rot8 (x : Int) : Int := bits .or .u32 (x * 256 % 4294967296) (x / 16777216)
def rot7 (x : Int) : Int := bits .or .u32 (x * 128 % 4294967296) (x / 33554432)
def qd1 (a b d : Int) : Int := rot16 (bits .xor .u32 d ((a + b) % 4294967296))
def qb1 (a b c d : Int) : Int := rot12 (bits .xor .u32 b ((c + qd1 a b d) % 4294967296))
def qa (a b c d : Int) : Int := (a + b + qb1 a b c d) % 4294967296
def qd (a b c d : Int) : Int := rot8 (bits .xor .u32 (qd1 a b d) (qa a b c d))
def qc (a b c d : Int) : Int := (c + qd1 a b d + qd a b c d) % 4294967296
def qb (a b c d : Int) : Int := rot7 (bits .xor .u32 (qb1 a b c d) (qc a b c d))
/-- The sixteen cells of a state. -/
def stc (f : Nat → Int) : Array Value := #[.int .u32 (f 0), .int .u32 (f 1), .int .u32 (f 2), .int .u32 (f 3), .int .u32 (f 4), .int .u32 (f 5), .int .u32 (f 6), .int .u32 (f 7), .int .u32 (f 8), .int .u32 (f 9), .int .u32 (f 10), .int .u32 (f 11), .int .u32 (f 12), .int .u32 (f 13), .int .u32 (f 14), .int .u32 (f 15)]
def upd (f : Nat → Int) (k : Nat) (x : Int) : Nat → Int := fun i => if i = k then x else f i
/-- A quarter turn of four words of a state, in their place. -/
def qt (f : Nat → Int) (a b c d : Nat) : Nat → Int :=
  upd (upd (upd (upd f a (qa (f a) (f b) (f c) (f d))) b (qb (f a) (f b) (f c) (f d))) c (qc (f a) (f b) (f c) (f d))) d (qd (f a) (f b) (f c) (f d))
/-- A round. -/
def rnd (f : Nat → Int) : Nat → Int :=
  qt (qt (qt (qt (qt (qt (qt (qt f 0 4 8 12) 1 5 9 13) 2 6 10 14) 3 7 11 15) 0 5 10 15) 1 6 11 12) 2 7 8 13) 3 4 9 14
def rnds (f : Nat → Int) : Nat → Nat → Int
  | 0 => f
  | k + 1 => rnd (rnds f k)
/-- The block's words. -/
def blk (f : Nat → Int) : Nat → Int := fun i => (rnds f 10 i + f i) % 4294967296
def tab : Array Value := #[.int .i64 0, .int .i64 4, .int .i64 8, .int .i64 12, .int .i64 1, .int .i64 5, .int .i64 9, .int .i64 13, .int .i64 2, .int .i64 6, .int .i64 10, .int .i64 14, .int .i64 3, .int .i64 7, .int .i64 11, .int .i64 15, .int .i64 0, .int .i64 5, .int .i64 10, .int .i64 15, .int .i64 1, .int .i64 6, .int .i64 11, .int .i64 12, .int .i64 2, .int .i64 7, .int .i64 8, .int .i64 13, .int .i64 3, .int .i64 4, .int .i64 9, .int .i64 14]
theorem stc_size (f : Nat → Int) : (stc f).size = 16 := rfl
theorem stc_get (f : Nat → Int) (k : Nat) (h : k < 16) : (stc f)[k]? = some (.int .u32 (f k)) := by
  match k, h with
  | 0, _ | 1, _ | 2, _ | 3, _ | 4, _ | 5, _ | 6, _ | 7, _ | 8, _ | 9, _ | 10, _ | 11, _ | 12, _ | 13, _ | 14, _ | 15, _ => rfl
  | k + 16, h => exact absurd h (by omega)
theorem stc_set (f : Nat → Int) (k : Nat) (x : Int) (h : k < 16) : (stc f).setIfInBounds k (.int .u32 x) = stc (upd f k x) := by
  match k, h with
  | 0, _ | 1, _ | 2, _ | 3, _ | 4, _ | 5, _ | 6, _ | 7, _ | 8, _ | 9, _ | 10, _ | 11, _ | 12, _ | 13, _ | 14, _ | 15, _ => rfl
  | k + 16, h => exact absurd h (by omega)
theorem stc_congr {f g : Nat → Int} (h : ∀ i, i < 16 → f i = g i) : stc f = stc g := by
  simp only [stc, h 0 (by decide), h 1 (by decide), h 2 (by decide), h 3 (by decide), h 4 (by decide), h 5 (by decide), h 6 (by decide), h 7 (by decide), h 8 (by decide), h 9 (by decide), h 10 (by decide), h 11 (by decide), h 12 (by decide), h 13 (by decide), h 14 (by decide), h 15 (by decide)]
end Go.Proofs.YtheheaflebkipaaGreatDoor.Ra
