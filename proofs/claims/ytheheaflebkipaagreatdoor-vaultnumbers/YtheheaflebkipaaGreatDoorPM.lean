/- The plain functions behind the walks of sha: words turned, states. -/
import Derived.WalkKit
namespace Go.Proofs.YtheheaflebkipaaGreatDoor
open Go.RowKit
def t2 (x : Int) : Int := bits .or .u32 (x * 1073741824 % 4294967296) (x / 4)
def t6 (x : Int) : Int := bits .or .u32 (x * 67108864 % 4294967296) (x / 64)
def t7 (x : Int) : Int := bits .or .u32 (x * 33554432 % 4294967296) (x / 128)
def t11 (x : Int) : Int := bits .or .u32 (x * 2097152 % 4294967296) (x / 2048)
def t13 (x : Int) : Int := bits .or .u32 (x * 524288 % 4294967296) (x / 8192)
def t17 (x : Int) : Int := bits .or .u32 (x * 32768 % 4294967296) (x / 131072)
def t18 (x : Int) : Int := bits .or .u32 (x * 16384 % 4294967296) (x / 262144)
def t19 (x : Int) : Int := bits .or .u32 (x * 8192 % 4294967296) (x / 524288)
def t22 (x : Int) : Int := bits .or .u32 (x * 1024 % 4294967296) (x / 4194304)
def t25 (x : Int) : Int := bits .or .u32 (x * 128 % 4294967296) (x / 33554432)
/-- The eight cells of a state. -/
def st8 (f : Nat → Int) : Array Value := #[.int .u32 (f 0), .int .u32 (f 1), .int .u32 (f 2), .int .u32 (f 3), .int .u32 (f 4), .int .u32 (f 5), .int .u32 (f 6), .int .u32 (f 7)]
def upd (f : Nat → Int) (k : Nat) (x : Int) : Nat → Int := fun i => if i = k then x else f i
def s1 (e : Int) : Int := bits .xor .u32 (bits .xor .u32 (t6 e) (t11 e)) (t25 e)
def s0 (a : Int) : Int := bits .xor .u32 (bits .xor .u32 (t2 a) (t13 a)) (t22 a)
def ch (e f g : Int) : Int := bits .xor .u32 (bits .and .u32 e f) (bits .and .u32 (bits .xor .u32 IntKind.u32.max e) g)
def mj (a b c : Int) : Int := bits .xor .u32 (bits .xor .u32 (bits .and .u32 a b) (bits .and .u32 a c)) (bits .and .u32 b c)
def T1 (f : Nat → Int) (kw : Int) : Int := f 7 + s1 (f 4) + ch (f 4) (f 5) (f 6) + kw
def T2 (f : Nat → Int) : Int := s0 (f 0) + mj (f 0) (f 1) (f 2)
/-- The state behind one of the 64 changes. -/
def stp (f : Nat → Int) (kw : Int) : Nat → Int
  | 0 => (T1 f kw + T2 f) % 4294967296
  | 1 => f 0
  | 2 => f 1
  | 3 => f 2
  | 4 => (f 3 + T1 f kw) % 4294967296
  | 5 => f 4
  | 6 => f 5
  | _ => f 6
/-- Words made of words: those from the sixteenth on. -/
def e0 (x : Int) : Int := bits .xor .u32 (bits .xor .u32 (t7 x) (t18 x)) (x / 8)
def e1 (x : Int) : Int := bits .xor .u32 (bits .xor .u32 (t17 x) (t19 x)) (x / 1024)
def ext (f : Nat → Int) (t : Nat) : Int := (f (t - 16) + e0 (f (t - 15)) + f (t - 7) + e1 (f (t - 2))) % 4294967296
/-- The words, k of those made. -/
def sw (f : Nat → Int) : Nat → Nat → Int
  | 0 => f
  | k + 1 => upd (sw f k) (16 + k) (ext (sw f k) (16 + k))
/-- The words that bytes say, k bytes read. -/
def rw4 (q : Nat → Int) : Nat → Nat → Int
  | 0 => fun _ => 0
  | k + 1 => upd (rw4 q k) (k / 4) (bits .or .u32 (rw4 q k (k / 4) * 256 % 4294967296) (q k))
/-- The 64 words of a part. -/
def sch (q : Nat → Int) : Nat → Int := sw (rw4 q 64) 48
/-- The state behind k of the 64 changes. -/
def stps (K : Nat → Int) (W : Nat → Int) (f : Nat → Int) : Nat → Nat → Int
  | 0 => f
  | k + 1 => stp (stps K W f k) ((K k + W k) % 4294967296)
/-- What a part does to a state. -/
def chg (K : Nat → Int) (f : Nat → Int) (q : Nat → Int) : Nat → Int := fun i => (f i + stps K (sch q) f 64 i) % 4294967296
/-- Sixty-four words' cells. -/
def w64 (f : Nat → Int) : Array Value := Array.ofFn (n := 64) fun i => .int .u32 (f i)
theorem w64_size (f : Nat → Int) : (w64 f).size = 64 := by simp [w64]
theorem w64_get (f : Nat → Int) (k : Nat) (h : k < 64) : (w64 f)[k]? = some (.int .u32 (f k)) := by simp [w64, h]
theorem w64_set (f : Nat → Int) (k : Nat) (x : Int) : (w64 f).setIfInBounds k (.int .u32 x) = w64 (upd f k x) := by
  apply Array.ext
  · simp [w64]
  · intro i h1 h2
    have h3 : i < (w64 f).size := by simpa using h1
    rw [Array.getElem_setIfInBounds h3]
    simp only [w64, Array.getElem_ofFn, upd]
    by_cases h : k = i
    · subst h; simp
    · rw [if_neg h, if_neg (fun e => h e.symm)]
theorem st8_get (f : Nat → Int) (k : Nat) (h : k < 8) : (st8 f)[k]? = some (.int .u32 (f k)) := by
  match k, h with
  | 0, _ | 1, _ | 2, _ | 3, _ | 4, _ | 5, _ | 6, _ | 7, _ => rfl
  | k + 8, h => exact absurd h (by omega)
end Go.Proofs.YtheheaflebkipaaGreatDoor
