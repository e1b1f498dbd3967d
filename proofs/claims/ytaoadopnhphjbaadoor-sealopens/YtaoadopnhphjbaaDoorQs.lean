/- The plain functions behind the walks of sha: words turned, states. A law of our own: a range over a function whose body is told what lies in the iterator's own blocks, and whose last round leaves by a label. The document's example: the sum of three letters, reckoned. Plain: bytes read as words, and turned words, either way. Plain: a text's sum, by its bytes alone. The reference: a word, turned. The words that a sum begins with; a Summer of nothing. A Summer's length, what is written to it, and its sum. The sum of texts behind each other, and of one text. Texts cut in pieces: their sums. The reference: a text, filled; the words that a sum begins with. The reference: words made of words, and what appends leave. -/
import Derived.WalkKit
import Derived.Test.YtaoadopnhphjbaaDoorRows
import Derived.WalkSpells
import Derived.WalkLawsBesides
import Derived.Deep.QuietTactic
import Derived.BigQuiet
import Derived.Deep.RegionHeld3
import Derived.BigRegion
import Derived.Laws.CopyOwn
import Derived.RegionTactic
import Derived.Deep.MidRow
import Derived.RangeFuncNested
import Derived.RangeFuncBound
import Derived.RangeFuncCalls
import Derived.RangeFuncLeaves
import Derived.OwnWalkIn
import Derived.TacticsInMore
import Derived.LoopNIn
import Derived.LoopIn
import Derived.RegionIn
import Derived.Room.AppendFits
import Derived.Shelf.Abstract
import Derived.Shelf.RegionOpen
import Derived.Laws.OwnMore
import Derived.Laws.CopyRow
import Derived.Sort.QuietIn
import Derived.WalkMore
import Derived.Laws.BitsAllLaws
import Derived.Maps.AppendAt
import Derived.OrdersHeld
namespace Go.Proofs.YtaoadopnhphjbaaDoor
open Go.RowKit
def t2 (x : Int) : Int := bits .or .u32 (x * 1073741824 % 4294967296) (x / 4)
def t6 (x : Int) : Int := bits .or .u32 (x * 67108864 % 4294967296) (x / 64)
def t7 (x : Int) : Int := bits .or .u32 (x * 33554432 % 4294967296) (x / 128)
def t11 (x : Int) : Int := bits .or .u32 (x * 2097152 % 4294967296) (x / 2048)
def t13 (x : Int) : Int := bits .or .u32 (x * 524288 % 4294967296) (x / 8192)
def t17 (x : Int) : Int := bits .or .u32 (x * 32768 % 4294967296) (x / 131072)
def t18 (x : Int) : Int := bits .or .u32 (x * 16384 % 4294967296) (x / 262144)
def t19 (x : Int) : Int := bits .or .u32 (x * 8192 % 4294967296) (x / 524288)
def t22 (x : Int) : Int := bits .or .u32 (x * 1024 % 4294967296) (x / 4194304)
def t25 (x : Int) : Int := bits .or .u32 (x * 128 % 4294967296) (x / 33554432)
/-- The eight cells of a state. -/
def st8 (f : Nat → Int) : Array Value := #[.int .u32 (f 0), .int .u32 (f 1), .int .u32 (f 2), .int .u32 (f 3), .int .u32 (f 4), .int .u32 (f 5), .int .u32 (f 6), .int .u32 (f 7)]
def upd (f : Nat → Int) (k : Nat) (x : Int) : Nat → Int := fun i => if i = k then x else f i
def s1 (e : Int) : Int := bits .xor .u32 (bits .xor .u32 (t6 e) (t11 e)) (t25 e)
def s0 (a : Int) : Int := bits .xor .u32 (bits .xor .u32 (t2 a) (t13 a)) (t22 a)
def ch (e f g : Int) : Int := bits .xor .u32 (bits .and .u32 e f) (bits .and .u32 (bits .xor .u32 IntKind.u32.max e) g)
def mj (a b c : Int) : Int := bits .xor .u32 (bits .xor .u32 (bits .and .u32 a b) (bits .and .u32 a c)) (bits .and .u32 b c)
def T1 (f : Nat → Int) (kw : Int) : Int := f 7 + s1 (f 4) + ch (f 4) (f 5) (f 6) + kw
def T2 (f : Nat → Int) : Int := s0 (f 0) + mj (f 0) (f 1) (f 2)
/-- The state behind one of the 64 changes. -/
def stp (f : Nat → Int) (kw : Int) : Nat → Int
  | 0 => (T1 f kw + T2 f) % 4294967296
  | 1 => f 0
  | 2 => f 1
  | 3 => f 2
  | 4 => (f 3 + T1 f kw) % 4294967296
  | 5 => f 4
  | 6 => f 5
  | _ => f 6
/-- Words made of words: those from the sixteenth on. -/
def e0 (x : Int) : Int := bits .xor .u32 (bits .xor .u32 (t7 x) (t18 x)) (x / 8)
def e1 (x : Int) : Int := bits .xor .u32 (bits .xor .u32 (t17 x) (t19 x)) (x / 1024)
def ext (f : Nat → Int) (t : Nat) : Int := (f (t - 16) + e0 (f (t - 15)) + f (t - 7) + e1 (f (t - 2))) % 4294967296
/-- The words, k of those made. -/
def sw (f : Nat → Int) : Nat → Nat → Int
  | 0 => f
  | k + 1 => upd (sw f k) (16 + k) (ext (sw f k) (16 + k))
/-- The words that bytes say, k bytes read. -/
def rw4 (q : Nat → Int) : Nat → Nat → Int
  | 0 => fun _ => 0
  | k + 1 => upd (rw4 q k) (k / 4) (bits .or .u32 (rw4 q k (k / 4) * 256 % 4294967296) (q k))
/-- The 64 words of a part. -/
def sch (q : Nat → Int) : Nat → Int := sw (rw4 q 64) 48
/-- The state behind k of the 64 changes. -/
def stps (K : Nat → Int) (W : Nat → Int) (f : Nat → Int) : Nat → Nat → Int
  | 0 => f
  | k + 1 => stp (stps K W f k) ((K k + W k) % 4294967296)
/-- What a part does to a state. -/
def chg (K : Nat → Int) (f : Nat → Int) (q : Nat → Int) : Nat → Int := fun i => (f i + stps K (sch q) f 64 i) % 4294967296
/-- Sixty-four words' cells. -/
def w64 (f : Nat → Int) : Array Value := Array.ofFn (n := 64) fun i => .int .u32 (f i)
theorem w64_size (f : Nat → Int) : (w64 f).size = 64 := by simp [w64]
theorem w64_get (f : Nat → Int) (k : Nat) (h : k < 64) : (w64 f)[k]? = some (.int .u32 (f k)) := by simp [w64, h]
theorem w64_set (f : Nat → Int) (k : Nat) (x : Int) : (w64 f).setIfInBounds k (.int .u32 x) = w64 (upd f k x) := by
  apply Array.ext
  · simp [w64]
  · intro i h1 h2
    have h3 : i < (w64 f).size := by simpa using h1
    rw [Array.getElem_setIfInBounds h3]
    simp only [w64, Array.getElem_ofFn, upd]
    by_cases h : k = i
    · subst h; simp
    · rw [if_neg h, if_neg (fun e => h e.symm)]
theorem st8_get (f : Nat → Int) (k : Nat) (h : k < 8) : (st8 f)[k]? = some (.int .u32 (f k)) := by
  match k, h with
  | 0, _ | 1, _ | 2, _ | 3, _ | 4, _ | 5, _ | 6, _ | 7, _ => rfl
  | k + 8, h => exact absurd h (by omega)
end Go.Proofs.YtaoadopnhphjbaaDoor
namespace Go.Proofs.YtaoadopnhphjbaaDoor
open Go.RowKit
set_option maxRecDepth 100000 in
theorem rot2_any (x : Int) (w : World) :
    Calls Tryd.prog 106 #[.int .u32 x, .int .i64 (-2)] w fun e w' => e = .returned (.int .u32 (t2 x)) ∧ w' = w := by
  have h16 : bits BinOp.and IntKind.u64 (IntKind.u64.wrap (-2)) 31 = 30 := by decide +kernel
  go_enter Tryd.func106, Tryd.ntmps106
  go_wp2
  go_ret
  exact ⟨rfl, rfl⟩
set_option maxRecDepth 100000 in
theorem turn2_any (x : Int) (w : World) :
    Calls Tryd.prog 107 #[.int .u32 x, .int .i64 2] w fun e w' => e = .returned (.int .u32 (t2 x)) ∧ w' = w := by
  go_enter Tryd.func107, Tryd.ntmps107
  go_wp2_with (go_at_call 106; refine (rot2_any _ _).mono ?_; rintro e w' ⟨rfl, rfl⟩)
  go_ret
  exact ⟨rfl, rfl⟩
set_option maxRecDepth 100000 in
theorem rot6_any (x : Int) (w : World) :
    Calls Tryd.prog 106 #[.int .u32 x, .int .i64 (-6)] w fun e w' => e = .returned (.int .u32 (t6 x)) ∧ w' = w := by
  have h16 : bits BinOp.and IntKind.u64 (IntKind.u64.wrap (-6)) 31 = 26 := by decide +kernel
  go_enter Tryd.func106, Tryd.ntmps106
  go_wp2
  go_ret
  exact ⟨rfl, rfl⟩
set_option maxRecDepth 100000 in
theorem turn6_any (x : Int) (w : World) :
    Calls Tryd.prog 107 #[.int .u32 x, .int .i64 6] w fun e w' => e = .returned (.int .u32 (t6 x)) ∧ w' = w := by
  go_enter Tryd.func107, Tryd.ntmps107
  go_wp2_with (go_at_call 106; refine (rot6_any _ _).mono ?_; rintro e w' ⟨rfl, rfl⟩)
  go_ret
  exact ⟨rfl, rfl⟩
set_option maxRecDepth 100000 in
theorem rot7_any (x : Int) (w : World) :
    Calls Tryd.prog 106 #[.int .u32 x, .int .i64 (-7)] w fun e w' => e = .returned (.int .u32 (t7 x)) ∧ w' = w := by
  have h16 : bits BinOp.and IntKind.u64 (IntKind.u64.wrap (-7)) 31 = 25 := by decide +kernel
  go_enter Tryd.func106, Tryd.ntmps106
  go_wp2
  go_ret
  exact ⟨rfl, rfl⟩
set_option maxRecDepth 100000 in
theorem turn7_any (x : Int) (w : World) :
    Calls Tryd.prog 107 #[.int .u32 x, .int .i64 7] w fun e w' => e = .returned (.int .u32 (t7 x)) ∧ w' = w := by
  go_enter Tryd.func107, Tryd.ntmps107
  go_wp2_with (go_at_call 106; refine (rot7_any _ _).mono ?_; rintro e w' ⟨rfl, rfl⟩)
  go_ret
  exact ⟨rfl, rfl⟩
set_option maxRecDepth 100000 in
theorem rot11_any (x : Int) (w : World) :
    Calls Tryd.prog 106 #[.int .u32 x, .int .i64 (-11)] w fun e w' => e = .returned (.int .u32 (t11 x)) ∧ w' = w := by
  have h16 : bits BinOp.and IntKind.u64 (IntKind.u64.wrap (-11)) 31 = 21 := by decide +kernel
  go_enter Tryd.func106, Tryd.ntmps106
  go_wp2
  go_ret
  exact ⟨rfl, rfl⟩
set_option maxRecDepth 100000 in
theorem turn11_any (x : Int) (w : World) :
    Calls Tryd.prog 107 #[.int .u32 x, .int .i64 11] w fun e w' => e = .returned (.int .u32 (t11 x)) ∧ w' = w := by
  go_enter Tryd.func107, Tryd.ntmps107
  go_wp2_with (go_at_call 106; refine (rot11_any _ _).mono ?_; rintro e w' ⟨rfl, rfl⟩)
  go_ret
  exact ⟨rfl, rfl⟩
set_option maxRecDepth 100000 in
theorem rot13_any (x : Int) (w : World) :
    Calls Tryd.prog 106 #[.int .u32 x, .int .i64 (-13)] w fun e w' => e = .returned (.int .u32 (t13 x)) ∧ w' = w := by
  have h16 : bits BinOp.and IntKind.u64 (IntKind.u64.wrap (-13)) 31 = 19 := by decide +kernel
  go_enter Tryd.func106, Tryd.ntmps106
  go_wp2
  go_ret
  exact ⟨rfl, rfl⟩
set_option maxRecDepth 100000 in
theorem turn13_any (x : Int) (w : World) :
    Calls Tryd.prog 107 #[.int .u32 x, .int .i64 13] w fun e w' => e = .returned (.int .u32 (t13 x)) ∧ w' = w := by
  go_enter Tryd.func107, Tryd.ntmps107
  go_wp2_with (go_at_call 106; refine (rot13_any _ _).mono ?_; rintro e w' ⟨rfl, rfl⟩)
  go_ret
  exact ⟨rfl, rfl⟩
set_option maxRecDepth 100000 in
theorem rot17_any (x : Int) (w : World) :
    Calls Tryd.prog 106 #[.int .u32 x, .int .i64 (-17)] w fun e w' => e = .returned (.int .u32 (t17 x)) ∧ w' = w := by
  have h16 : bits BinOp.and IntKind.u64 (IntKind.u64.wrap (-17)) 31 = 15 := by decide +kernel
  go_enter Tryd.func106, Tryd.ntmps106
  go_wp2
  go_ret
  exact ⟨rfl, rfl⟩
set_option maxRecDepth 100000 in
theorem turn17_any (x : Int) (w : World) :
    Calls Tryd.prog 107 #[.int .u32 x, .int .i64 17] w fun e w' => e = .returned (.int .u32 (t17 x)) ∧ w' = w := by
  go_enter Tryd.func107, Tryd.ntmps107
  go_wp2_with (go_at_call 106; refine (rot17_any _ _).mono ?_; rintro e w' ⟨rfl, rfl⟩)
  go_ret
  exact ⟨rfl, rfl⟩
set_option maxRecDepth 100000 in
theorem rot18_any (x : Int) (w : World) :
    Calls Tryd.prog 106 #[.int .u32 x, .int .i64 (-18)] w fun e w' => e = .returned (.int .u32 (t18 x)) ∧ w' = w := by
  have h16 : bits BinOp.and IntKind.u64 (IntKind.u64.wrap (-18)) 31 = 14 := by decide +kernel
  go_enter Tryd.func106, Tryd.ntmps106
  go_wp2
  go_ret
  exact ⟨rfl, rfl⟩
set_option maxRecDepth 100000 in
theorem turn18_any (x : Int) (w : World) :
    Calls Tryd.prog 107 #[.int .u32 x, .int .i64 18] w fun e w' => e = .returned (.int .u32 (t18 x)) ∧ w' = w := by
  go_enter Tryd.func107, Tryd.ntmps107
  go_wp2_with (go_at_call 106; refine (rot18_any _ _).mono ?_; rintro e w' ⟨rfl, rfl⟩)
  go_ret
  exact ⟨rfl, rfl⟩
set_option maxRecDepth 100000 in
theorem rot19_any (x : Int) (w : World) :
    Calls Tryd.prog 106 #[.int .u32 x, .int .i64 (-19)] w fun e w' => e = .returned (.int .u32 (t19 x)) ∧ w' = w := by
  have h16 : bits BinOp.and IntKind.u64 (IntKind.u64.wrap (-19)) 31 = 13 := by decide +kernel
  go_enter Tryd.func106, Tryd.ntmps106
  go_wp2
  go_ret
  exact ⟨rfl, rfl⟩
set_option maxRecDepth 100000 in
theorem turn19_any (x : Int) (w : World) :
    Calls Tryd.prog 107 #[.int .u32 x, .int .i64 19] w fun e w' => e = .returned (.int .u32 (t19 x)) ∧ w' = w := by
  go_enter Tryd.func107, Tryd.ntmps107
  go_wp2_with (go_at_call 106; refine (rot19_any _ _).mono ?_; rintro e w' ⟨rfl, rfl⟩)
  go_ret
  exact ⟨rfl, rfl⟩
set_option maxRecDepth 100000 in
theorem rot22_any (x : Int) (w : World) :
    Calls Tryd.prog 106 #[.int .u32 x, .int .i64 (-22)] w fun e w' => e = .returned (.int .u32 (t22 x)) ∧ w' = w := by
  have h16 : bits BinOp.and IntKind.u64 (IntKind.u64.wrap (-22)) 31 = 10 := by decide +kernel
  go_enter Tryd.func106, Tryd.ntmps106
  go_wp2
  go_ret
  exact ⟨rfl, rfl⟩
set_option maxRecDepth 100000 in
theorem turn22_any (x : Int) (w : World) :
    Calls Tryd.prog 107 #[.int .u32 x, .int .i64 22] w fun e w' => e = .returned (.int .u32 (t22 x)) ∧ w' = w := by
  go_enter Tryd.func107, Tryd.ntmps107
  go_wp2_with (go_at_call 106; refine (rot22_any _ _).mono ?_; rintro e w' ⟨rfl, rfl⟩)
  go_ret
  exact ⟨rfl, rfl⟩
set_option maxRecDepth 100000 in
theorem rot25_any (x : Int) (w : World) :
    Calls Tryd.prog 106 #[.int .u32 x, .int .i64 (-25)] w fun e w' => e = .returned (.int .u32 (t25 x)) ∧ w' = w := by
  have h16 : bits BinOp.and IntKind.u64 (IntKind.u64.wrap (-25)) 31 = 7 := by decide +kernel
  go_enter Tryd.func106, Tryd.ntmps106
  go_wp2
  go_ret
  exact ⟨rfl, rfl⟩
set_option maxRecDepth 100000 in
theorem turn25_any (x : Int) (w : World) :
    Calls Tryd.prog 107 #[.int .u32 x, .int .i64 25] w fun e w' => e = .returned (.int .u32 (t25 x)) ∧ w' = w := by
  go_enter Tryd.func107, Tryd.ntmps107
  go_wp2_with (go_at_call 106; refine (rot25_any _ _).mono ?_; rintro e w' ⟨rfl, rfl⟩)
  go_ret
  exact ⟨rfl, rfl⟩
set_option maxRecDepth 100000 in
set_option maxHeartbeats 1000000 in
theorem step_any (f : Nat → Int) (kw : Int) (w : World) :
    Calls Tryd.prog 105 #[.agg (st8 f), .int .u32 kw] w fun e w' => e = .returned (.agg (st8 (stp f kw))) ∧ Below w.heap.size w w' := by
  unfold st8
  go_enter Tryd.func105, Tryd.ntmps105
  go_wp2_with fail
  go_quiet (fail)
  go_wp2_with fail
  refine (turn6_any _ _).mono ?_; rintro e w' ⟨rfl, rfl⟩
  go_wp2_with fail
  refine (turn11_any _ _).mono ?_; rintro e w' ⟨rfl, rfl⟩
  go_wp2_with fail
  refine (turn25_any _ _).mono ?_; rintro e w' ⟨rfl, rfl⟩
  go_wp2_with fail
  refine (turn2_any _ _).mono ?_; rintro e w' ⟨rfl, rfl⟩
  go_wp2_with fail
  refine (turn13_any _ _).mono ?_; rintro e w' ⟨rfl, rfl⟩
  go_wp2_with fail
  refine (turn22_any _ _).mono ?_; rintro e w' ⟨rfl, rfl⟩
  go_wp2_with fail
  refine bodyPost_ret (v := .agg (st8 (stp f kw))) (by simp [results, Tryd.results105, go_sem, st8, stp, T1, T2, s1, s0, ch, mj]) (by rfl) ⟨rfl, ?_⟩
  have h0 : Below w.heap.size w ((w.alloc (.cells #[.int .u32 (f 0), .int .u32 (f 1), .int .u32 (f 2), .int .u32 (f 3), .int .u32 (f 4), .int .u32 (f 5), .int .u32 (f 6), .int .u32 (f 7)] 124)).alloc (.cells #[.int .u32 0, .int .u32 0, .int .u32 0, .int .u32 0, .int .u32 0, .int .u32 0, .int .u32 0, .int .u32 0] 124)) :=
    ((Below.refl _ w).alloc (Nat.le_refl _) _).alloc (by simp) _
  exact ((((((((below_drewN h0 _).setCell (by simp) _).setCell (by simp) _).setCell (by simp) _).setCell (by simp) _).setCell (by simp) _).setCell (by simp) _).setCell (by simp) _).setCell (by simp) _
end Go.Proofs.YtaoadopnhphjbaaDoor
namespace Go.Proofs.YtaoadopnhphjbaaDoor
open Go.RowKit
set_option maxRecDepth 100000 in
theorem w64_one (f : Nat → Int) : (w64 f).all (·.oneCell') = true := by
  rw [Array.all_eq_true]
  intro i h
  simp [w64, Value.oneCell']
set_option maxRecDepth 100000 in
theorem set_row64 (w : World) (B a : Nat) (f : Nat → Int) (x : Int) (hb : w.heap[B]? = some (.cells (w64 f) 117 (0, 0))) :
    (w.setCell ⟨B, a, none⟩ (.int .u32 x)).heap[B]? = some (.cells (w64 (upd f a x)) 117 (0, 0)) := by
  rw [heap_setCell_same w B a _ _ _ hb, w64_set]
set_option maxRecDepth 100000 in
theorem two_new (w : World) (a b : Obj) : ((w.alloc a).alloc b).heap[w.heap.size]? = some a ∧ ((w.alloc a).alloc b).heap[w.heap.size + 1]? = some b ∧ Below w.heap.size w ((w.alloc a).alloc b) := by
  refine ⟨?_, ?_, ((Below.refl _ w).alloc (Nat.le_refl _) _).alloc (by simp) _⟩
  · rw [Below.heap_alloc _ _ _ (by simp)]
    exact heap_alloc_new w a
  · simpa using heap_alloc_new (w.alloc a) b
def z64 : Array Value := #[.int .u32 0, .int .u32 0, .int .u32 0, .int .u32 0, .int .u32 0, .int .u32 0, .int .u32 0, .int .u32 0, .int .u32 0, .int .u32 0, .int .u32 0, .int .u32 0, .int .u32 0, .int .u32 0, .int .u32 0, .int .u32 0, .int .u32 0, .int .u32 0, .int .u32 0, .int .u32 0, .int .u32 0, .int .u32 0, .int .u32 0, .int .u32 0, .int .u32 0, .int .u32 0, .int .u32 0, .int .u32 0, .int .u32 0, .int .u32 0, .int .u32 0, .int .u32 0, .int .u32 0, .int .u32 0, .int .u32 0, .int .u32 0, .int .u32 0, .int .u32 0, .int .u32 0, .int .u32 0, .int .u32 0, .int .u32 0, .int .u32 0, .int .u32 0, .int .u32 0, .int .u32 0, .int .u32 0, .int .u32 0, .int .u32 0, .int .u32 0, .int .u32 0, .int .u32 0, .int .u32 0, .int .u32 0, .int .u32 0, .int .u32 0, .int .u32 0, .int .u32 0, .int .u32 0, .int .u32 0, .int .u32 0, .int .u32 0, .int .u32 0, .int .u32 0]
set_option maxRecDepth 100000 in
theorem z64_eq : z64 = w64 (fun _ => 0) := by
  apply Array.ext
  · rw [w64_size]; rfl
  · intro i h1 h2
    have h : i < 64 := by rw [w64_size] at h2; exact h2
    simp only [w64, Array.getElem_ofFn]
    revert i
    unfold z64
    intro i h1 h2 h
    match i, h with
    | 0, _ | 1, _ | 2, _ | 3, _ | 4, _ | 5, _ | 6, _ | 7, _ | 8, _ | 9, _ | 10, _ | 11, _ | 12, _ | 13, _ | 14, _ | 15, _ => rfl
    | 16, _ | 17, _ | 18, _ | 19, _ | 20, _ | 21, _ | 22, _ | 23, _ | 24, _ | 25, _ | 26, _ | 27, _ | 28, _ | 29, _ | 30, _ | 31, _ => rfl
    | 32, _ | 33, _ | 34, _ | 35, _ | 36, _ | 37, _ | 38, _ | 39, _ | 40, _ | 41, _ | 42, _ | 43, _ | 44, _ | 45, _ | 46, _ | 47, _ => rfl
    | 48, _ | 49, _ | 50, _ | 51, _ | 52, _ | 53, _ | 54, _ | 55, _ | 56, _ | 57, _ | 58, _ | 59, _ | 60, _ | 61, _ | 62, _ | 63, _ => rfl
    | k + 64, h => exact absurd h (by omega)
set_option maxRecDepth 100000 in
set_option maxHeartbeats 1000000 in
theorem schedule_any (q : Nat → Int) (b cap : Nat) (w : World) (hb : b < w.heap.size) (hq : ∀ j, j < 64 → w.cell? ⟨b, j, none⟩ = some (.int .u8 (q j))) (hr : ∀ j, 0 ≤ q j ∧ q j < 256) :
    Calls Tryd.prog 104 #[.slice (some ⟨b, 0, none⟩) 64 cap] w fun e w' => e = .returned (.agg (w64 (sch q))) ∧ Below w.heap.size w w' := by
  have HQ : Hid _ := hq
  have HR : Hid _ := hr
  clear hq hr
  go_enter Tryd.func104, Tryd.ntmps104
  go_wp2_with fail
  go_loopw [11] (fun i wr => ∃ k : Nat, k ≤ 64 ∧ i = .int .i64 k ∧ wr.heap[w.heap.size]? = some (.cells (w64 fun _ => 0) 117 (0, 0)) ∧ wr.heap[w.heap.size + 1]? = some (.cells (w64 (rw4 q k)) 117 (0, 0)) ∧ Below w.heap.size w wr) (fun i _ => 64 - (intOf i).toNat)
  case atStart =>
    have h2 := two_new w (.cells z64 117) (.cells z64 117)
    rw [z64_eq] at h2
    rw [← z64_eq] at h2
    exact ⟨0, by omega, rfl, z64_eq ▸ h2.1, z64_eq ▸ h2.2.1, h2.2.2⟩
  case round =>
    obtain ⟨k, hk, rfl, h0, h1, hbl⟩ := hrel
    have H0 : Hid _ := h0
    have H1 : Hid _ := h1
    have HB : Hid _ := hbl
    clear h0 hbl
    by_cases hlt : k < 64
    · have hc : wr.cell? ⟨b, k, none⟩ = some (.int .u8 (q k)) := (HB.out.cell (p := ⟨b, k, none⟩) hb).trans (HQ.out k hlt)
      obtain ⟨a, ha⟩ : ∃ a, k / 4 = a := ⟨_, rfl⟩
      have ha2 : a < 64 := by omega
      have hcw : wr.cell? ⟨w.heap.size + 1, a, none⟩ = some (.int .u32 (rw4 q k a)) := by
        rw [cell_of_row _ _ _ _ _ _ h1, w64_get _ _ ha2]
      have hz := frozen_of_row _ _ a _ _ h1
      have g0 : (0 : Int) ≤ (k : Int) := by omega
      have g1 : (k : Int) < 64 := by omega
      have g2 : (0 : Int) ≤ (a : Int) := by omega
      have g3 : (a : Int) < 64 := by omega
      have d0 : (k : Int).tdiv 4 = (a : Int) := by rw [Int.tdiv_eq_ediv_of_nonneg g0]; omega
      have d1 : (k : Int) / 4 = (a : Int) := by omega
      have hq0 := (HR.out k).1
      have hq1 := (HR.out k).2
      have HA : Hid _ := ha
      clear h1 ha
      go_wp2
      have fB : (wr.setCell ⟨w.heap.size + 1, a, none⟩ (.int .u32 (bits .or .u32 (rw4 q k a * 256 % 4294967296) (q k)))).heap[w.heap.size + 1]? = some (.cells (w64 (rw4 q (k + 1))) 117 (0, 0)) := by
        rw [set_row64 _ _ _ _ _ H1.out, ← HA.out]; rfl
      exact ⟨⟨k + 1, by omega, by go_num, (Below.heap_setCell _ _ _ _ (by simp)).trans H0.out, fB, HB.out.setCell (by simp) _⟩, by simp [intOf]; omega⟩
    · have hk64 : k = 64 := by omega
      rw [show (k : Int) = 64 by omega]
      rw [hk64] at H1
      clear h1 hk hlt hk64
      go_wp2_with fail
      go_loopw [6] (fun i wr => ∃ k : Nat, k ≤ 48 ∧ i = .int .i64 (16 + (k : Int)) ∧ wr.heap[w.heap.size]? = some (.cells (w64 fun _ => 0) 117 (0, 0)) ∧ wr.heap[w.heap.size + 1]? = some (.cells (w64 (sw (rw4 q 64) k)) 117 (0, 0)) ∧ Below w.heap.size w wr) (fun i _ => 64 - (intOf i).toNat)
      case atStart => exact ⟨0, by omega, rfl, H0.out, H1.out, HB.out⟩
      case round =>
        clear H0 H1 HB
        obtain ⟨k, hk, rfl, h0, h1, hbl⟩ := hrel
        obtain ⟨f0, hf0⟩ : ∃ f0, rw4 q 64 = f0 := ⟨_, rfl⟩
        rw [hf0] at h1
        have HF0 : Hid (rw4 q 64 = f0) := hf0
        clear hf0
        have H0 : Hid _ := h0
        have H1 : Hid _ := h1
        have HB : Hid _ := hbl
        clear h0 hbl
        by_cases hlt : k < 48
        · obtain ⟨F, hF⟩ : ∃ F, sw f0 k = F := ⟨_, rfl⟩
          have HF : Hid _ := hF
          rw [hF] at h1
          have c2 : wr.cell? ⟨w.heap.size + 1, k + 14, none⟩ = some (.int .u32 (F (k + 14))) := by rw [cell_of_row _ _ _ _ _ _ h1, w64_get _ _ (by omega)]
          have c15 : wr.cell? ⟨w.heap.size + 1, k + 1, none⟩ = some (.int .u32 (F (k + 1))) := by rw [cell_of_row _ _ _ _ _ _ h1, w64_get _ _ (by omega)]
          have c16 : wr.cell? ⟨w.heap.size + 1, k, none⟩ = some (.int .u32 (F k)) := by rw [cell_of_row _ _ _ _ _ _ h1, w64_get _ _ (by omega)]
          have c7 : wr.cell? ⟨w.heap.size + 1, k + 9, none⟩ = some (.int .u32 (F (k + 9))) := by rw [cell_of_row _ _ _ _ _ _ h1, w64_get _ _ (by omega)]
          have c0 : wr.cell? ⟨w.heap.size + 1, k + 16, none⟩ = some (.int .u32 (F (k + 16))) := by rw [cell_of_row _ _ _ _ _ _ h1, w64_get _ _ (by omega)]
          have hz := frozen_of_row _ _ (k + 16) _ _ h1
          have g0 : (0 : Int) ≤ (k : Int) := by omega
          have g1 : (k : Int) < 48 := by omega
          have i2 : (16 : Int) + (k : Int) - 2 = ((k + 14 : Nat) : Int) := by omega
          have i15 : (16 : Int) + (k : Int) - 15 = ((k + 1 : Nat) : Int) := by omega
          have i16 : (16 : Int) + (k : Int) - 16 = (k : Int) := by omega
          have i7 : (16 : Int) + (k : Int) - 7 = ((k + 9 : Nat) : Int) := by omega
          clear h1 hF
          go_wp2_with fail
          go_quiet (fail)
          obtain ⟨wd, hwd⟩ : ∃ wd, wr.drewN nq = wd := ⟨_, rfl⟩
          have d16 : wd.cell? ⟨w.heap.size + 1, k, none⟩ = some (.int .u32 (F k)) := by rw [← hwd]; exact c16
          have d7 : wd.cell? ⟨w.heap.size + 1, k + 9, none⟩ = some (.int .u32 (F (k + 9))) := by rw [← hwd]; exact c7
          have d0 : wd.cell? ⟨w.heap.size + 1, 16 + k, none⟩ = some (.int .u32 (F (k + 16))) := by rw [← hwd, Nat.add_comm 16 k]; exact c0
          have dz : wd.frozen? ⟨w.heap.size + 1, 16 + k, none⟩ = false := by rw [← hwd, Nat.add_comm 16 k]; exact hz
          have D0 : Hid (wd.heap[w.heap.size]? = some (.cells (w64 fun _ => 0) 117 (0, 0))) := by rw [← hwd]; exact H0.out
          have D1 : Hid (wd.heap[w.heap.size + 1]? = some (.cells (w64 F) 117 (0, 0))) := by rw [← hwd, ← HF.out]; exact H1.out
          have DB : Hid (Below w.heap.size w wd) := by rw [← hwd]; exact below_drewN HB.out _
          rw [hwd]
          clear hwd c2 c15 c16 c7 c0 hz H0 H1 HB i2 i15
          go_wp2_with fail
          refine (turn17_any _ _).mono ?_; rintro e w' ⟨rfl, rfl⟩
          go_wp2_with fail
          refine (turn19_any _ _).mono ?_; rintro e w' ⟨rfl, rfl⟩
          go_wp2_with fail
          refine (turn7_any _ _).mono ?_; rintro e w' ⟨rfl, rfl⟩
          go_wp2_with fail
          refine (turn18_any _ _).mono ?_; rintro e w' ⟨rfl, rfl⟩
          go_wp2_with fail
          go_region
          have hx : (F k + bits BinOp.xor IntKind.u32 (bits BinOp.xor IntKind.u32 (t7 (F (k + 1))) (t18 (F (k + 1)))) (F (k + 1) / 8) + F (k + 9) + bits BinOp.xor IntKind.u32 (bits BinOp.xor IntKind.u32 (t17 (F (k + 14))) (t19 (F (k + 14)))) (F (k + 14) / 1024)) % 4294967296 = ext F (16 + k) := by
            unfold ext e0 e1
            rw [show 16 + k - 16 = k by omega, show 16 + k - 15 = k + 1 by omega, show 16 + k - 7 = k + 9 by omega, show 16 + k - 2 = k + 14 by omega]
          rw [hx]
          clear hx d16 d7 d0 dz i16 i7
          go_wp2
          have fB : (w'.setCell ⟨w.heap.size + 1, 16 + k, none⟩ (.int .u32 (ext F (16 + k)))).heap[w.heap.size + 1]? = some (.cells (w64 (sw f0 (k + 1))) 117 (0, 0)) := by
            rw [set_row64 _ _ _ _ _ D1.out, ← HF.out]; rfl
          go_roundw
          case rel => exact ⟨k + 1, by omega, by go_num, (Below.heap_setCell _ _ _ _ (by simp)).trans D0.out, by rw [HF0.out]; exact fB, (DB.out.setCell (by simp) _).drew⟩
          case measure => simp [intOf]; omega
        · obtain rfl : k = 48 := by omega
          clear h1 hk
          have e16 : (16 : Int) + ((48 : Nat) : Int) = 64 := rfl
          go_wp2_with (first | (refine wpList_load_row rfl 117 _ rfl (w.heap.size + 1) rfl 117 _ (0, 0) _ H1.out Tryd.underlying117 rfl (by rw [w64_size]; kernel_rfl) ?_) | (refine wpList_store_row rfl 117 _ _ rfl w.heap.size _ rfl rfl 117 _ H0.out (by rw [w64_size]; kernel_rfl) (by rw [w64_size, w64_size]) (w64_one _) ?_))
          refine bodyPost_ret (results_cell_row Tryd.results104 _ _ w.heap.size 117 _ (0, 0) _ rfl (setRow_heap _ _ _ _ _ _ H0.out) Tryd.underlying117 rfl (by rw [w64_size]; kernel_rfl)) rfl ⟨?_, below_setRow HB.out (Nat.le_refl _) _⟩
          rw [show sch q = sw f0 48 by rw [← HF0.out]; rfl]
end Go.Proofs.YtaoadopnhphjbaaDoor
namespace Go.Proofs.YtaoadopnhphjbaaDoor
open Go.RowKit
/-- A Summer's cells: the state, the rest, the count. -/
def sm (f r : Nat → Int) (c : Int) : Array Value := Array.ofFn (n := 73) fun i => if i.val < 8 then .int .u32 (f i.val) else if i.val < 72 then .int .u8 (r (i.val - 8)) else .int .i64 c
set_option maxRecDepth 100000 in
theorem sm_size (f r : Nat → Int) (c : Int) : (sm f r c).size = 73 := by simp [sm]
set_option maxRecDepth 100000 in
theorem sm_f (f r : Nat → Int) (c : Int) (k : Nat) (h : k < 8) : (sm f r c)[k]? = some (.int .u32 (f k)) := by
  have h' : k < 73 := by omega
  simp [sm, h', h]
set_option maxRecDepth 100000 in
theorem sm_r (f r : Nat → Int) (c : Int) (k : Nat) (h : k < 64) : (sm f r c)[8 + k]? = some (.int .u8 (r k)) := by
  have h' : 8 + k < 73 := by omega
  have h1 : ¬ 8 + k < 8 := by omega
  have h2 : 8 + k < 72 := by omega
  simp [sm, h', h2]
set_option maxRecDepth 100000 in
theorem sm_c (f r : Nat → Int) (c : Int) : (sm f r c)[72]? = some (.int .i64 c) := by simp [sm]
set_option maxRecDepth 100000 in
theorem sm_set_f (f r : Nat → Int) (c : Int) (k : Nat) (x : Int) (h : k < 8) : (sm f r c).setIfInBounds k (.int .u32 x) = sm (upd f k x) r c := by
  apply Array.ext
  · simp [sm]
  · intro i h1 h2
    have h3 : i < (sm f r c).size := by simpa using h1
    rw [Array.getElem_setIfInBounds h3]
    simp only [sm, Array.getElem_ofFn, upd]
    by_cases e : k = i
    · subst e; simp [h]
    · have e2 : ¬ i = k := fun e' => e e'.symm
      rw [if_neg e]
      by_cases h5 : i < 8
      · simp [h5, e2]
      · simp [h5]
set_option maxRecDepth 100000 in
theorem sm_set_c (f r : Nat → Int) (c x : Int) : (sm f r c).setIfInBounds 72 (.int .i64 x) = sm f r x := by
  apply Array.ext
  · simp [sm]
  · intro i h1 h2
    have h3 : i < (sm f r c).size := by simpa using h1
    rw [Array.getElem_setIfInBounds h3]
    have h4 : i < 73 := by rw [sm_size] at h2; exact h2
    simp only [sm, Array.getElem_ofFn]
    by_cases e : 72 = i
    · subst e; simp
    · rw [if_neg e]
      by_cases h5 : i < 8
      · simp [h5]
      · simp [h5, show i < 72 by omega]
set_option maxRecDepth 100000 in
theorem sm_congr {f g r s : Nat → Int} {c : Int} (h : ∀ i, i < 8 → f i = g i) (h2 : ∀ i, i < 64 → r i = s i) : sm f r c = sm g s c := by
  apply Array.ext
  · simp [sm]
  · intro i h1 _
    have h4 : i < 73 := by rw [sm_size] at h1; exact h1
    simp only [sm, Array.getElem_ofFn]
    by_cases h5 : i < 8
    · simp [h5, h i h5]
    · by_cases h6 : i < 72
      · simp [h5, h6, h2 (i - 8) (by omega)]
      · simp [h5, h6]
set_option maxRecDepth 100000 in
theorem gb_trans {w1 w2 w3 : World} {r : Option Nat} (h1 : w1.grownBy w2 r) (h2 : w2.grownBy w3 r) : w1.grownBy w3 r :=
  ⟨h2.os.trans h1.os, h2.tape.trans h1.tape, h2.output.trans h1.output, Nat.le_trans h1.size h2.size, fun k hk hne => (h2.block k (Nat.lt_of_lt_of_le hk h1.size) hne).trans (h1.block k hk hne)⟩
set_option maxRecDepth 100000 in
theorem st8_one (f : Nat → Int) : (st8 f).all (·.oneCell') = true := by simp [st8, Value.oneCell']
set_option maxRecDepth 100000 in
theorem idx64 (f : Nat → Int) (k : Nat) (hk : k < 64) (w : World) : (Instr.index 117 (.agg (w64 f)) (.int .i64 (k : Int))).run Tryd.prog w = .ok (.int .u32 (f k)) w := by
  have h41 : (Tryd.prog.info? 22).map (·.size) = some 1 := by kernel_rfl
  obtain ⟨i, hi, hs⟩ := Option.map_eq_some_iff.1 h41
  have hs' : i.size = 1 := hs
  simp [Instr.index, run_underlying Tryd.underlying117, run_underlying Tryd.underlying22, asIntOf, part, isAgg, sizeOf, typeInfo, hi, hs', go_sem, w64_get f k hk]
  intro h
  omega
set_option maxRecDepth 100000 in
theorem idx8 (f : Nat → Int) (k : Nat) (hk : k < 8) (w : World) : (Instr.index 124 (.agg (st8 f)) (.int .i64 (k : Int))).run Tryd.prog w = .ok (.int .u32 (f k)) w :=
  match k, hk with
  | 0, _ => by kernel_rfl
  | 1, _ => by kernel_rfl
  | 2, _ => by kernel_rfl
  | 3, _ => by kernel_rfl
  | 4, _ => by kernel_rfl
  | 5, _ => by kernel_rfl
  | 6, _ => by kernel_rfl
  | 7, _ => by kernel_rfl
  | k + 8, h => absurd h (by omega)
set_option maxRecDepth 100000 in
/-- A store of a whole row, as an operation. -/
theorem op_store_row {P : Program} {op : Oper} {a : Act} {w : World} {K : Act → World → Prop} {Q : Exit → Act → World → Prop} (ty : TypeId) (x y : Operand) (ho : op.op = .store ty x y)
    (g : Nat) (cells : Array Value) (hx : a.eval x = .pointer (some ⟨g, 0, none⟩)) (hy : a.eval y = .agg cells)
    (t : TypeId) (old : Array Value) (hg : w.heap[g]? = some (.cells old t (0, 0))) (hi : (P.info? ty).map (·.size) = some cells.size)
    (hold : old.size = cells.size) (h1 : cells.all (·.oneCell') = true)
    (h : K (a.put op.dst undef) (w.setRow g cells)) : op.wp P a w K Q := by
  unfold Oper.wp execOp
  simp only [ho, hx, hy, Instr.storeAt, Instr.sureAddr, Sem.run_bind, Sem.run_pure, Result.andThen_ok, run_storeVar_row w g t ty old cells hg hi hold h1]
  exact h
set_option maxRecDepth 100000 in
/-- A load of a whole row, as an operation. -/
theorem op_load_row {P : Program} {op : Oper} {a : Act} {w : World} {K : Act → World → Prop} {Q : Exit → Act → World → Prop} (ty : TypeId) (x : Operand) (ho : op.op = .load ty x)
    (g : Nat) (hx : a.eval x = .pointer (some ⟨g, 0, none⟩)) (t : TypeId) (cs : Array Value) (fr : Nat × Nat) (d : TypeDesc) (hg : w.heap[g]? = some (.cells cs t fr))
    (hu : P.underlying ty = some d) (hd : (match d with | .struct _ | .array _ _ => true | _ => false) = true) (hi : (P.info? ty).map (·.size) = some cs.size)
    (h : K (a.put op.dst (.agg cs)) w) : op.wp P a w K Q := by
  unfold Oper.wp execOp
  simp only [ho, hx, Instr.loadAt, Instr.sureAddr, Sem.run_bind, Sem.run_pure, Result.andThen_ok, run_loadVar_row w g t ty cs fr d hg hu hd hi]
  exact h
/-- The words, the first k of them laid to those that were. -/
def adTo (f G : Nat → Int) (k : Nat) : Nat → Int := fun i => if i < k then (f i + G i) % 4294967296 else f i
set_option maxRecDepth 100000 in
theorem adTo_succ (f G : Nat → Int) (k : Nat) : adTo f G (k + 1) = upd (adTo f G k) k ((f k + G k) % 4294967296) := by
  funext i
  unfold adTo upd
  by_cases h : i = k
  · subst h; simp
  · have : (i < k + 1) = (i < k) := by simp; omega
    simp [h, this]
set_option maxRecDepth 100000 in
theorem adTo_at (f G : Nat → Int) (k : Nat) : adTo f G k k = f k := by simp [adTo]
set_option maxRecDepth 100000 in
theorem smset (w : World) (g k : Nat) (f r : Nat → Int) (c x : Int) (hg : w.heap[g]? = some (.cells (sm f r c) 128 (0, 0))) (hk : k < 8) :
    (w.setCell ⟨g, k, none⟩ (.int .u32 x)).heap[g]? = some (.cells (sm (upd f k x) r c) 128 (0, 0)) := by
  rw [heap_setCell_same w g k _ _ _ hg, sm_set_f _ _ _ _ _ hk]
set_option maxRecDepth 100000 in
theorem gb_set (w : World) (g k : Nat) (v : Value) : w.grownBy (w.setCell ⟨g, k, none⟩ v) (some g) :=
  ⟨rfl, rfl, rfl, by simp [World.setCell], fun j _ hne => Below.heap_setCell _ _ _ _ (fun e => hne (by rw [e]))⟩
set_option maxRecDepth 100000 in
theorem size_setRow (w : World) (g : Nat) (cs : Array Value) : (w.setRow g cs).heap.size = w.heap.size := by simp [World.setRow]
set_option maxRecDepth 100000 in
theorem heap_new_at (w : World) (o : Obj) (k : Nat) (h : w.heap.size = k) : (w.alloc o).heap[k]? = some o := by rw [← h]; exact heap_alloc_new w o
set_option maxRecDepth 100000 in
theorem new_row (w : World) (old : Array Value) (t : TypeId) (cs : Array Value) : ∃ W2, (w.alloc (.cells old t)).setRow w.heap.size cs = W2 ∧ W2.heap[w.heap.size]? = some (.cells cs t (0, 0)) ∧ Below w.heap.size w W2 ∧ W2.heap.size = w.heap.size + 1 :=
  ⟨_, rfl, setRow_heap _ _ _ _ _ _ (heap_alloc_new w _), below_setRow ((Below.refl _ w).alloc (Nat.le_refl _) _) (Nat.le_refl _) _, by rw [size_setRow]; simp⟩
set_option maxRecDepth 100000 in
theorem sm_range {w : World} {g : Nat} {f r : Nat → Int} {c : Int} {t : TypeId} {fr : Nat × Nat} (h : w.heap[g]? = some (.cells (sm f r c) t fr)) : w.rangeAt g 0 (st8 f).toList := fun j v hv => by
  have hj : j < 8 := (List.getElem?_eq_some_iff.1 hv).1
  rw [Nat.zero_add, cell_of_row _ _ _ _ _ _ h, sm_f _ _ _ _ hj, ← st8_get f j hj]
  simpa using hv
set_option maxRecDepth 100000 in
set_option maxHeartbeats 1000000 in
theorem change_any (Kt q f r : Nat → Int) (c : Int) (g b cap : Nat) (w : World) {tt : TypeId} {fr : Nat × Nat} (hK : w.heap[2]? = some (.cells (w64 Kt) tt fr))
    (hb : b < w.heap.size) (hq : ∀ j, j < 64 → w.cell? ⟨b, j, none⟩ = some (.int .u8 (q j))) (hr : ∀ j, 0 ≤ q j ∧ q j < 256) (hg : w.heap[g]? = some (.cells (sm f r c) 128 (0, 0))) :
    Calls Tryd.prog 96 #[.pointer (some ⟨g, 0, none⟩), .slice (some ⟨b, 0, none⟩) 64 cap] w fun e w' => e = .returned (.tuple #[]) ∧ w'.heap[g]? = some (.cells (sm (chg Kt f q) r c) 128 (0, 0)) ∧ w.grownBy w' (some g) := by
  have hgl : g < w.heap.size := (Array.getElem?_eq_some_iff.1 hg).1
  have h1l : 2 < w.heap.size := (Array.getElem?_eq_some_iff.1 hK).1
  have HK : Hid _ := hK
  have HG : Hid _ := hg
  have HQ : Hid _ := hq
  have HR : Hid _ := hr
  clear hK hg hq hr
  go_enter Tryd.func96, Tryd.ntmps96
  go_wp2_with fail
  refine (schedule_any q b cap _ hb HQ.out HR.out).mono ?_
  rintro e w1 ⟨rfl, hb1⟩
  have G1 : Hid _ := (hb1.block g hgl).trans HG.out
  have K1 : Hid _ := (hb1.block 2 h1l).trans HK.out
  clear HG HK HQ HR
  have c0 := (cell_of_row w1 g 0 _ _ _ G1.out).trans (sm_f f r c 0 (by decide))
  have c1 := (cell_of_row w1 g 1 _ _ _ G1.out).trans (sm_f f r c 1 (by decide))
  have c2 := (cell_of_row w1 g 2 _ _ _ G1.out).trans (sm_f f r c 2 (by decide))
  have c3 := (cell_of_row w1 g 3 _ _ _ G1.out).trans (sm_f f r c 3 (by decide))
  have c4 := (cell_of_row w1 g 4 _ _ _ G1.out).trans (sm_f f r c 4 (by decide))
  have c5 := (cell_of_row w1 g 5 _ _ _ G1.out).trans (sm_f f r c 5 (by decide))
  have c6 := (cell_of_row w1 g 6 _ _ _ G1.out).trans (sm_f f r c 6 (by decide))
  have c7 := (cell_of_row w1 g 7 _ _ _ G1.out).trans (sm_f f r c 7 (by decide))
  clear c0 c1 c2 c3 c4 c5 c6 c7
  generalize hS : sch q = S at *
  have HS : Hid _ := hS
  clear hS
  have l1 : w.heap.size ≤ w1.heap.size := hb1.size
  obtain ⟨W2, hW2, r2, b2, s2⟩ := new_row w1 z64 117 (w64 S)
  unfold z64 at hW2
  obtain ⟨W3, hW3, r3, b3, s3⟩ := new_row W2 #[.int .u32 0, .int .u32 0, .int .u32 0, .int .u32 0, .int .u32 0, .int .u32 0, .int .u32 0, .int .u32 0] 124 (st8 f)
  have G2 : Hid (W2.heap[g]? = some (.cells (sm f r c) 128 (0, 0))) := (b2.block g (by omega)).trans G1.out
  have G3 : Hid (W3.heap[g]? = some (.cells (sm f r c) 128 (0, 0))) := (b3.block g (by omega)).trans G2.out
  have K3 : Hid (W3.heap[2]? = some (.cells (w64 Kt) tt fr)) := (b3.block 2 (by omega)).trans ((b2.block 2 (by omega)).trans K1.out)
  have R2 : Hid (W3.heap[w1.heap.size]? = some (.cells (w64 S) 117 (0, 0))) := (b3.block _ (by omega)).trans r2
  have R3 : Hid (W3.heap[W2.heap.size]? = some (.cells (st8 f) 124 (0, 0))) := r3
  have B3 : Hid (Below w.heap.size w W3) := (hb1.trans (b2.mono l1)).trans (b3.mono (by omega))
  have S2 : Hid _ := s2
  have S3 : Hid _ := s3
  have L1 : Hid _ := l1
  have E2 : Hid _ := hW2
  have E3 : Hid _ := hW3
  clear r2 b2 r3 b3 hb1 G1 K1 hW2 hW3 s2 s3 l1
  go_wp2_with (first
    | (refine wpList_store_row rfl 117 _ _ rfl w1.heap.size _ rfl rfl 117 _ (heap_alloc_new w1 _) (by rw [w64_size]; kernel_rfl) (by rw [w64_size]; rfl) (w64_one _) ?_
       rw [E2.out])
    | (refine wpList_load_mid rfl 124 _ rfl g 0 rfl (st8 f).toList _ (sm_range G2.out) Tryd.underlying124 rfl (by kernel_rfl) ?_)
    | (refine wpList_store_row rfl 124 _ _ rfl W2.heap.size (st8 f) rfl rfl 124 _ (heap_alloc_new W2 _) (by kernel_rfl) rfl (st8_one _) ?_
       rw [E3.out]; clear E2 E3 G2)
    | (refine wpList_load_row rfl 117 _ rfl 2 rfl tt _ fr _ K3.out Tryd.underlying117 rfl (by rw [w64_size]; kernel_rfl) ?_))
  go_loopw [16] (fun i wr => ∃ k : Nat, k ≤ 64 ∧ i = .int .i64 k ∧ wr.heap[g]? = some (.cells (sm f r c) 128 (0, 0)) ∧ wr.heap[w1.heap.size]? = some (.cells (w64 S) 117 (0, 0)) ∧ wr.heap[W2.heap.size]? = some (.cells (st8 (stps Kt S f k)) 124 (0, 0)) ∧ Below w.heap.size w wr) (fun i _ => 64 - (intOf i).toNat)
  case atStart => exact ⟨0, by omega, rfl, G3.out, R2.out, R3.out, B3.out⟩
  case round =>
    clear G3 R2 R3 B3 K3
    obtain ⟨k, hk, rfl, h0, h1, h2, hbl⟩ := hrel
    have H0 : Hid _ := h0
    have H1 : Hid _ := h1
    have H2 : Hid _ := h2
    have HB : Hid _ := hbl
    clear h0 hbl
    by_cases hlt : k < 64
    · have cw : wr.cell? ⟨w1.heap.size, k, none⟩ = some (.int .u32 (S k)) := (cell_of_row wr _ k _ _ _ h1).trans (w64_get S k hlt)
      have hix := idx64 Kt k hlt
      have g0 : (0 : Int) ≤ (k : Int) := by omega
      have g1 : (k : Int) < 64 := by omega
      clear h1 h2
      go_wp2_with fail
      refine wp_region_any (by kernel_rfl) ?_
      change wpAny _ _ _ _ _ _ _ (World.drew _)
      refine wpAny_take (i := 1) (v := ?_) rfl (by kernel_rfl) (by kernel_rfl) (by kernel_rfl) (fun _ _ _ h => h) (Or.inl ⟨by rfl, ?_⟩) ?_
      rotate_left
      · intro w
        go_simp
        try with_reducible rfl
      refine wpAny_take (i := 2) (v := ?_) rfl (by kernel_rfl) (by kernel_rfl) (by kernel_rfl) (fun _ _ _ h => h) (Or.inl ⟨by rfl, ?_⟩) ?_
      rotate_left
      · intro w
        go_simp
        try with_reducible rfl
      refine wpAny_take (i := 3) (v := ?_) rfl (by kernel_rfl) (by kernel_rfl) (by kernel_rfl) (fun _ _ _ h => h) (Or.inl ⟨by rfl, ?_⟩) ?_
      rotate_left
      · intro w
        go_simp
        try with_reducible rfl
      refine wpAny_ready (rs := [0, 4]) (by kernel_rfl) (by simp) ?_
      refine (AllReady.cons rfl (fun K hK => ?_) (AllReady.cons rfl (fun K hK => ?_) AllReady.nil))
      · rw [if_pos (by rfl)]
        refine op_load_row 124 _ rfl W2.heap.size rfl 124 _ (0, 0) _ H2.out Tryd.underlying124 rfl (by kernel_rfl) ?_
        refine hK _ _ ?_
        clear hK K
        refine wpAny_ready (rs := [4]) (by kernel_rfl) (by simp) ?_
        refine (AllReady.cons rfl (fun K hK => ?_) AllReady.nil)
        go_simp
        refine hK _ _ ?_
        clear hK K
        refine wpAny_take (i := 5) (v := ?_) rfl (by kernel_rfl) (by kernel_rfl) (by kernel_rfl) (fun _ _ _ h => h) (Or.inl ⟨by rfl, ?_⟩) ?_
        rotate_left
        · intro w
          go_simp
          try with_reducible rfl
        refine wpAny_ready (rs := [6]) (by kernel_rfl) (by simp) ?_
        refine (AllReady.cons rfl (fun K hK => ?_) AllReady.nil)
        go_simp
        refine (step_any _ _ _).mono ?_
        rintro e w4 ⟨rfl, hb4⟩
        refine hK _ _ ?_
        clear hK K
        have hsz : W2.heap.size < wr.heap.size := (Array.getElem?_eq_some_iff.1 H2.out).1
        have hs1 : w1.heap.size < wr.heap.size := (Array.getElem?_eq_some_iff.1 H1.out).1
        have J0 : Hid (w4.heap[g]? = some (.cells (sm f r c) 128 (0, 0))) := (hb4.block g (by have := L1.out; show g < wr.heap.size; omega)).trans H0.out
        have J1 : Hid (w4.heap[w1.heap.size]? = some (.cells (w64 S) 117 (0, 0))) := (hb4.block _ (by show _ < wr.heap.size; exact hs1)).trans H1.out
        have J2 : Hid (w4.heap[W2.heap.size]? = some (.cells (st8 (stps Kt S f k)) 124 (0, 0))) := (hb4.block _ (by show _ < wr.heap.size; exact hsz)).trans H2.out
        have JB : Hid (Below w.heap.size w w4) := HB.out.drew.trans (hb4.mono HB.out.drew.size)
        clear hb4 hsz hs1
        refine wpAny_ready (rs := [7]) (by kernel_rfl) (by simp) ?_
        refine (AllReady.cons rfl (fun K hK => ?_) AllReady.nil)
        rw [if_pos (by rfl)]
        refine op_store_row 124 _ _ rfl W2.heap.size _ rfl rfl 124 _ J2.out (by kernel_rfl) rfl (st8_one _) ?_
        refine hK _ _ ?_
        clear hK K
        refine wpAny_done (by kernel_rfl) ?_ _
        go_wp2
        have hn1 : w1.heap.size ≠ W2.heap.size := by have := S2.out; omega
        have hn2 : g ≠ W2.heap.size := by have := S2.out; have := L1.out; omega
        exact ⟨⟨k + 1, by omega, by go_num, (setRow_other _ _ _ _ hn2).trans J0.out, (setRow_other _ _ _ _ hn1).trans J1.out, setRow_heap _ _ _ _ _ _ J2.out, below_setRow JB.out (by have := S2.out; have := L1.out; omega) _⟩, by simp [intOf]; omega⟩
      · go_simp
        refine hK _ _ ?_
        clear hK K
        refine wpAny_take (i := 5) (v := ?_) rfl (by kernel_rfl) (by kernel_rfl) (by kernel_rfl) (fun _ _ _ h => h) (Or.inl ⟨by rfl, ?_⟩) ?_
        rotate_left
        · intro w
          go_simp
          try with_reducible rfl
        refine wpAny_ready (rs := [0]) (by kernel_rfl) (by simp) ?_
        refine (AllReady.cons rfl (fun K hK => ?_) AllReady.nil)
        rw [if_pos (by rfl)]
        refine op_load_row 124 _ rfl W2.heap.size rfl 124 _ (0, 0) _ H2.out Tryd.underlying124 rfl (by kernel_rfl) ?_
        refine hK _ _ ?_
        clear hK K
        refine wpAny_ready (rs := [6]) (by kernel_rfl) (by simp) ?_
        refine (AllReady.cons rfl (fun K hK => ?_) AllReady.nil)
        go_simp
        refine (step_any _ _ _).mono ?_
        rintro e w4 ⟨rfl, hb4⟩
        refine hK _ _ ?_
        clear hK K
        have hsz : W2.heap.size < wr.heap.size := (Array.getElem?_eq_some_iff.1 H2.out).1
        have hs1 : w1.heap.size < wr.heap.size := (Array.getElem?_eq_some_iff.1 H1.out).1
        have J0 : Hid (w4.heap[g]? = some (.cells (sm f r c) 128 (0, 0))) := (hb4.block g (by have := L1.out; show g < wr.heap.size; omega)).trans H0.out
        have J1 : Hid (w4.heap[w1.heap.size]? = some (.cells (w64 S) 117 (0, 0))) := (hb4.block _ (by show _ < wr.heap.size; exact hs1)).trans H1.out
        have J2 : Hid (w4.heap[W2.heap.size]? = some (.cells (st8 (stps Kt S f k)) 124 (0, 0))) := (hb4.block _ (by show _ < wr.heap.size; exact hsz)).trans H2.out
        have JB : Hid (Below w.heap.size w w4) := HB.out.drew.trans (hb4.mono HB.out.drew.size)
        clear hb4 hsz hs1
        refine wpAny_ready (rs := [7]) (by kernel_rfl) (by simp) ?_
        refine (AllReady.cons rfl (fun K hK => ?_) AllReady.nil)
        rw [if_pos (by rfl)]
        refine op_store_row 124 _ _ rfl W2.heap.size _ rfl rfl 124 _ J2.out (by kernel_rfl) rfl (st8_one _) ?_
        refine hK _ _ ?_
        clear hK K
        refine wpAny_done (by kernel_rfl) ?_ _
        go_wp2
        have hn1 : w1.heap.size ≠ W2.heap.size := by have := S2.out; omega
        have hn2 : g ≠ W2.heap.size := by have := S2.out; have := L1.out; omega
        exact ⟨⟨k + 1, by omega, by go_num, (setRow_other _ _ _ _ hn2).trans J0.out, (setRow_other _ _ _ _ hn1).trans J1.out, setRow_heap _ _ _ _ _ _ J2.out, below_setRow JB.out (by have := S2.out; have := L1.out; omega) _⟩, by simp [intOf]; omega⟩
    · have hk64 : k = 64 := by omega
      rw [show (k : Int) = 64 by omega]
      rw [hk64] at H2
      clear h1 h2 hk hlt hk64
      generalize hGG : stps Kt S f 64 = GG at *
      have HGG : Hid _ := hGG
      clear hGG
      have hg0 := H0.out
      go_wp2_with (refine wpList_load_row rfl 124 _ rfl W2.heap.size rfl 124 _ (0, 0) _ H2.out Tryd.underlying124 rfl (by kernel_rfl) ?_)
      clear hg0
      go_loopw [29] (fun i wr => ∃ k : Nat, k ≤ 8 ∧ i = .int .i64 k ∧ wr.heap[g]? = some (.cells (sm (adTo f GG k) r c) 128 (0, 0)) ∧ w.grownBy wr (some g)) (fun i _ => 8 - (intOf i).toNat)
      case atStart => exact ⟨0, by omega, rfl, by rw [H0.out, sm_congr (g := adTo f GG 0) (s := r) (fun i _ => by simp [adTo]) (fun _ _ => rfl)], ⟨HB.out.os, HB.out.tape, HB.out.output, HB.out.size, fun k hk _ => HB.out.block k hk⟩⟩
      case round =>
        clear H0 H1 H2 HB
        obtain ⟨k, hk, rfl, h0, hgr⟩ := hrel
        have H0 : Hid _ := h0
        have HB : Hid _ := hgr
        clear hgr
        by_cases hlt : k < 8
        · have cw : wr.cell? ⟨g, k, none⟩ = some (.int .u32 (f k)) := by rw [(cell_of_row wr _ k _ _ _ h0).trans (sm_f _ _ _ k hlt), adTo_at]
          have hz := frozen_of_row wr g k _ _ h0
          have hix := idx8 GG k hlt
          have g0 : (0 : Int) ≤ (k : Int) := by omega
          have g1 : (k : Int) < 8 := by omega
          clear h0
          go_wp2_with fail
          go_region
          go_wp2
          have fB : (wr.setCell ⟨g, k, none⟩ (.int .u32 ((f k + GG k) % 4294967296))).heap[g]? = some (.cells (sm (adTo f GG (k + 1)) r c) 128 (0, 0)) := by
            rw [adTo_succ]; exact smset _ _ _ _ _ _ _ H0.out hlt
          have fG : w.grownBy (wr.setCell ⟨g, k, none⟩ (.int .u32 ((f k + GG k) % 4294967296))) (some g) := gb_trans HB.out (gb_set _ _ _ _)
          exact ⟨⟨k + 1, by omega, by go_num, fB, ⟨fG.os, fG.tape, fG.output, fG.size, fG.block⟩⟩, by simp [intOf]; omega⟩
        · have hk8 : k = 8 := by omega
          subst hk8
          go_wp2
          go_end0
          refine ⟨rfl, ?_, HB.out⟩
          rw [H0.out, sm_congr (g := chg Kt f q) (s := r) (fun i hi => by simp [adTo, chg, hi, HS.out, HGG.out]) (fun _ _ => rfl)]
end Go.Proofs.YtaoadopnhphjbaaDoor
namespace Go.Proofs.YtaoadopnhphjbaaDoor
open Go.RowKit
theorem below_put {B l : Nat} (W : World) (o : Obj) (h : B ≤ l) : Below B W (W.putObj l o) :=
  ⟨rfl, rfl, rfl, by simp [World.putObj], fun k hk => World.putObj_heap_other (by omega)⟩
/-- How a round's body may be left: off its end, or by the label. -/
def lPost (B : Nat) (Kp : World → World → Prop) (J Jx : World → Prop) (id : Nat) (W : World) : Exit → Act → World → Prop
  | .normal, _, W' => KeepsFrom B W W' ∧ Kp W W' ∧ J W'
  | .exit i, _, W' => i = id ∧ KeepsFrom B W W' ∧ Jx W'
  | _, _, _ => False
theorem range_law {α : Type} {F : Fence} {n : Nat} {P : Program} {g : Operand} {ps : Array Tmp} {assign body : Code} {Q : Exit → Act → World → Prop} {a : Act} {w : World}
    (hro : F.round = none) (h1 : 1 ≤ n) {gf : Nat} {lb : Array Value} (hg : a.eval g = .func (.func gf) #[] lb) (hFg : F.fn gf) (eg : ∀ args w, (callFunc gf args).run P w = .ok (.enter gf args) w)
    (encs : α → Array Value) (hps : ∀ x, (encs x).size = ps.size) (Kp : World → World → Prop) (hKt : ∀ {A B C : World}, Kp A B → Kp B C → Kp A C)
    (hKb : ∀ (W : World) (l : Nat) (o o' : Obj), W.heap[l]? = some o → o.isCells = false → Kp W (W.putObj l o'))
    (Y : Nat → α → World → Prop) (hY : ∀ k x W l o', Y k x W → w.heap.size ≤ l → l < w.heap.size + 2 → Y k x (W.putObj l o'))
    (J : Nat → World → Prop) (Jx : World → Prop) (id : Nat) (hJ : ∀ k W W', J k W → Below w.heap.size W W' → J k W') (hJx : ∀ W W', Jx W → Below w.heap.size W W' → Jx W') (h0 : J 0 w)
    (bad : Nat → Prop) (hbad : ∀ k W, J k W → bad k → False) (a₁ : α → Act)
    (hassign : ∀ (l : Nat) (x : α) (W : World) (K : Act → World → Prop), K (a₁ x) W →
      assign.wpIn (F.inRound l) (n - 1 - 1) P (Exit.then K (fun _ _ _ => False)) { tmps := (ps.zip (encs x)).foldl (fun t (p, v) => t.setIfInBounds p v) a.tmps, defers := [] } W)
    (hbody : ∀ (l k : Nat) (x : α) (W : World), J k W → Y k x W → body.wpIn (F.inRound l) (n - 1 - 1) P (lPost w.heap.size Kp (J (k + 1)) Jx id W) (a₁ x) W)
    (hiter : ∀ (l : Nat) (W1 : World), Below w.heap.size w W1 → W1.heap.size = w.heap.size + 2 → ∀ (R : Nat → World → Prop) (Rx : World → Prop), (∀ k W W', R k W → Below W1.heap.size W W' → R k W') → (∀ W W', Rx W → Below W1.heap.size W W' → Rx W') →
      (∀ k x W, R k W → Y k x W → YieldAt F (n - 1 - 1) P l (encs x) W fun e W' => (e = .returned (.bool true) ∧ R (k + 1) W' ∧ Kp W W') ∨ (e = .returned (.bool false) ∧ Rx W')) → R 0 W1 →
      CallsIn F (n - 1) P gf (#[.func (.yield l) #[] #[]] ++ lb) W1 fun e W' => (∃ v, e = .returned v) ∧ (Rx W' ∨ ∃ k, R k W' ∧ bad k))
    (hstop : ∀ (D : Nat) (W : World), w.heap.size ≤ D → Jx W → W.heap[D]? = some (.deferred (some [])) → (Code.exit id).wpIn F n P Q { a with defers := { target := .collected D, args := #[] } :: a.defers } W) :
    (Code.rangeFunc g ps assign body).wpIn F n P Q a w := by
  refine wpIn_rangeFunc fun fn hfn => ?_
  rw [hro]
  obtain ⟨rc, hrc⟩ : ∃ rc : LoopState → Option Code → Loop, rc = fun st pe => { state := st, pending := pe, fn, tmps := a.tmps, params := ps, assign, body, defers := w.heap.size } := ⟨_, rfl⟩
  obtain ⟨W1, hW1⟩ : ∃ W1, (w.alloc (.deferred (some []))).alloc (.loop (rc .ready none)) = W1 := ⟨_, rfl⟩
  have hn2 := two_new w (.deferred (some [])) (.loop (rc .ready none))
  have hs : W1.heap.size = w.heap.size + 2 := by rw [← hW1]; simp
  rw [hW1] at hn2
  obtain ⟨hD1, hL1, hB1⟩ := hn2
  refine ⟨w.heap.size + 1, [{ target := .collected w.heap.size, args := #[] }], W1, { target := .fn (.func gf) lb, args := #[.func (.yield (w.heap.size + 1)) #[] #[]] }, W1, gf,
    #[.func (.yield (w.heap.size + 1)) #[] #[]] ++ lb, W1, ?_, ?_, ?_, ?_, fun _ => h1, ?_⟩
  · rw [← hW1, hrc]; exact run_enterLoop_outer _ _ _ _ _
  · simp only [resolve, hg]
    simp [go_sem]
  · intro f' hf'
    simp [Target.leads] at hf'
    subst hf'
    exact hFg
  · simp [invoke, go_sem, eg]
  · refine (hiter (w.heap.size + 1) W1 hB1 hs
      (fun k W => J k W ∧ W.heap[w.heap.size + 1]? = some (.loop (rc .ready none)) ∧ W.heap[w.heap.size]? = some (.deferred (some [])))
      (fun W => Jx W ∧ W.heap[w.heap.size + 1]? = some (.loop (rc .done (some (.exit id)))) ∧ W.heap[w.heap.size]? = some (.deferred (some [])))
      (fun k W W' h hb => ⟨hJ k W W' h.1 (hb.mono (by omega)), (hb.block _ (by omega)).trans h.2.1, (hb.block _ (by omega)).trans h.2.2⟩)
      (fun W W' h hb => ⟨hJx W W' h.1 (hb.mono (by omega)), (hb.block _ (by omega)).trans h.2.1, (hb.block _ (by omega)).trans h.2.2⟩)
      ?_ ⟨hJ 0 w W1 h0 hB1, hL1, hD1⟩).mono ?_
    · rintro k x W ⟨hj, hl, hd⟩ hy
      have hlt : w.heap.size + 1 < W.heap.size := (Array.getElem?_eq_some_iff.1 hl).1
      have hyr := run_yield (P := P) (args := encs x) hl (by rw [hrc]; exact hps x)
      rw [hrc] at hyr
      refine ⟨fn, _, assign, body, hyr, roundIn_of_wpIn hfn (hassign _ x W _ ?_)⟩
      refine ⟨_, run_beginRound hl (by rw [hrc]), ?_⟩
      have hl2 : (W.putObj (w.heap.size + 1) (.loop { rc .ready none with state := .busy })).heap[w.heap.size + 1]? = some (.loop { rc .ready none with state := .busy }) := World.putObj_heap_same hlt
      have hd2 : (W.putObj (w.heap.size + 1) (.loop { rc .ready none with state := .busy })).heap[w.heap.size]? = some (.deferred (some [])) := (World.putObj_heap_other (by omega)).trans hd
      refine wpIn_mono (hbody _ k x _ (hJ k _ _ hj (below_put W _ (by omega))) (hY k x W _ _ hy (by omega) (by omega))) ?_
      rintro e a3 W3 hp
      cases e with
      | normal =>
        obtain ⟨hk3, hkp, hj3⟩ := hp
        have hl3 := hk3.same _ _ (by omega) hl2 rfl
        have hd3 := hk3.same _ _ (Nat.le_refl _) hd2 rfl
        have hr := run_endRound (P := P) none hl3
        refine ⟨_, _, hr, .inl ⟨rfl, ⟨hJ _ _ _ hj3 (below_put W3 _ (by omega)), ?_, (World.putObj_heap_other (by omega)).trans hd3⟩, hKt (hKb W _ _ _ hl rfl) (hKt hkp (hKb W3 _ _ _ hl3 rfl))⟩⟩
        rw [World.putObj_heap_same (Array.getElem?_eq_some_iff.1 hl3).1, hrc]
        rfl
      | exit i =>
        obtain ⟨rfl, hk3, hj3⟩ := hp
        have hl3 := hk3.same _ _ (by omega) hl2 rfl
        have hd3 := hk3.same _ _ (Nat.le_refl _) hd2 rfl
        have hr := run_endRound (P := P) (some (.exit i)) hl3
        refine ⟨_, _, hr, .inr ⟨rfl, hJx _ _ hj3 (below_put W3 _ (by omega)), ?_, (World.putObj_heap_other (by omega)).trans hd3⟩⟩
        rw [World.putObj_heap_same (Array.getElem?_eq_some_iff.1 hl3).1, hrc]
        rfl
      | ret => exact hp.elim
      | goto t => exact hp.elim
      | panic ch => exact hp.elim
      | outgrown => exact hp.elim
    · rintro e W2 ⟨⟨v, rfl⟩, ⟨hx, hl, hd⟩ | ⟨k, ⟨hj, _⟩, hk⟩⟩
      case inr => exact (hbad k W2 hj hk).elim
      refine ⟨some (.exit id), _, by have := run_endLoop (P := P) hl (by rw [hrc]; simp); rw [hrc] at this; exact this, ?_⟩
      exact hstop _ _ (Nat.le_refl _) (hJx _ _ hx (below_put W2 _ (by omega))) ((World.putObj_heap_other (by omega)).trans hd)
end Go.Proofs.YtaoadopnhphjbaaDoor
namespace Go.Proofs.YtaoadopnhphjbaaDoor
open Go.RowKit Go.Shelf Go.Lib
attribute [local go_sem] Oper.semAt_some
def upto (f : Nat → Int) (k : Nat) : List Int := (List.range k).map f
set_option maxRecDepth 100000 in
theorem upto_length (f : Nat → Int) (k : Nat) : (upto f k).length = k := by simp [upto]
/-- A byte of a text. -/
def bt (s : ByteArray) (i : Nat) : Int := ((s.data[i]?.getD 0).toNat : Int)
set_option maxRecDepth 100000 in
theorem bt_range (s : ByteArray) (i : Nat) : 0 ≤ bt s i ∧ bt s i < 256 := by
  unfold bt
  have := (s.data[i]?.getD 0).toNat_lt
  omega
set_option maxRecDepth 100000 in
theorem bt_ext (s : ByteArray) (a b i : Nat) (h : i < min b s.size - a) : bt (s.extract a b) i = bt s (a + i) := by
  unfold bt
  rw [ByteArray.data_extract, Array.getElem?_extract, if_pos (show i < min b s.data.size - a from h)]
set_option maxRecDepth 100000 in
theorem strCells_get (s : ByteArray) (i : Nat) (h : i < s.size) : (strCells s)[i]? = some (.int .u8 (bt s i)) := by
  unfold strCells bt
  rw [List.getElem?_map, Array.getElem?_toList]
  have e : s.data[i]? = some s.data[i] := Array.getElem?_eq_getElem h
  rw [e]; rfl
/-- The byte cells of a message from a place on. -/
def mc (M : Nat → Int) (a c : Nat) : List Value := (upto (fun j => M (a + j)) c).map (Value.int .u8)
set_option maxRecDepth 100000 in
theorem mc_get (M : Nat → Int) (a c j : Nat) (h : j < c) : (mc M a c)[j]? = some (.int .u8 (M (a + j))) := by simp [mc, upto, h]
set_option maxRecDepth 100000 in
theorem mc_length (M : Nat → Int) (a c : Nat) : (mc M a c).length = c := by simp [mc, upto]
set_option maxRecDepth 100000 in
theorem mc_app (M : Nat → Int) (a c : Nat) (s : ByteArray) (h : ∀ j, j < s.size → bt s j = M (a + c + j)) : mc M a c ++ strCells s = mc M a (c + s.size) := by
  apply List.ext_getElem?
  intro j
  by_cases h1 : j < c
  · rw [List.getElem?_append_left (by rw [mc_length]; exact h1), mc_get _ _ _ _ h1, mc_get _ _ _ _ (by omega)]
  · rw [List.getElem?_append_right (by rw [mc_length]; omega), mc_length]
    by_cases h2 : j < c + s.size
    · rw [strCells_get _ _ (by omega), mc_get _ _ _ _ h2, h (j - c) (by omega), show a + c + (j - c) = a + j by omega]
    · rw [List.getElem?_eq_none (by rw [strCells_length]; omega), List.getElem?_eq_none (by rw [mc_length]; omega)]
/-- Where texts behind each other begin. -/
def offs (ts : Nat → ByteArray) : Nat → Nat
  | 0 => 0
  | i + 1 => offs ts i + (ts i).size
set_option maxRecDepth 100000 in
theorem offs_mono (ts : Nat → ByteArray) {i j : Nat} (h : i ≤ j) : offs ts i ≤ offs ts j := by
  induction j with
  | zero => obtain rfl : i = 0 := by omega
            exact Nat.le_refl _
  | succ j ih =>
    by_cases e : i = j + 1
    · subst e; exact Nat.le_refl _
    · have := ih (by omega)
      show offs ts i ≤ offs ts j + (ts j).size
      omega
/-- All cells but a block's are kept. -/
def Kc (g : Nat) (A B : World) : Prop := A.heap.size ≤ B.heap.size ∧ ∀ j o, j ≠ g → A.heap[j]? = some o → o.isCells = true → B.heap[j]? = some o
set_option maxRecDepth 100000 in
theorem Kc.refl (g : Nat) (A : World) : Kc g A A := ⟨Nat.le_refl _, fun _ _ _ h _ => h⟩
set_option maxRecDepth 100000 in
theorem Kc.trans {g : Nat} {A B C : World} (h : Kc g A B) (k : Kc g B C) : Kc g A C := ⟨Nat.le_trans h.1 k.1, fun j o hj ho hc => k.2 j o hj (h.2 j o hj ho hc) hc⟩
set_option maxRecDepth 100000 in
theorem Kc.put (g : Nat) (W : World) (l : Nat) (o o' : Obj) (h : W.heap[l]? = some o) (hc : o.isCells = false) : Kc g W (W.putObj l o') :=
  ⟨by simp [World.putObj], fun j p _ hp hpc => by
    by_cases e : j = l
    · subst e; rw [h] at hp; cases hp; rw [hc] at hpc; cases hpc
    · exact (World.putObj_heap_other e).trans hp⟩
set_option maxRecDepth 100000 in
theorem Kc.own {g : Nat} {A B : World} (h : Kc g A B) {base : Nat} {e : TypeId} {p cap n : Nat} {xs : List Value} (ho : A.ownsRow base e 1 (.slice (some ⟨p, 0, none⟩) n cap) n xs) (hp : p ≠ g) : B.ownsRow base e 1 (.slice (some ⟨p, 0, none⟩) n cap) n xs := by
  refine ⟨ho.1, ?_⟩
  rcases ho.2 with ⟨hv, _⟩ | ⟨g', cap', cur, hv, hb, hh, rest⟩
  · cases hv
  · cases hv
    exact .inr ⟨p, cap, cur, rfl, hb, h.2 _ _ hp hh rfl, rest⟩
set_option maxRecDepth 100000 in
theorem own_zero {A : World} {base : Nat} {e : TypeId} {p cap n : Nat} {xs : List Value} (ho : A.ownsRow base e 1 (.slice (some ⟨p, 0, none⟩) n cap) n xs) : A.ownsRow base e 1 (.slice (some ⟨p, 0, none⟩) 0 cap) 0 [] := by
  refine ⟨rfl, ?_⟩
  rcases ho.2 with ⟨hv, _⟩ | ⟨g', cap', cur, hv, hb, hh, h1, h2, h3, _⟩
  · cases hv
  · cases hv
    exact .inr ⟨p, cap, cur, rfl, hb, hh, Nat.zero_le _, h2, h3, by simp⟩
set_option maxRecDepth 100000 in
theorem own_cell {A : World} {base : Nat} {e : TypeId} {p cap n : Nat} {xs : List Value} (ho : A.ownsRow base e 1 (.slice (some ⟨p, 0, none⟩) n cap) n xs) {j : Nat} {v : Value} (h : xs[j]? = some v) : A.cell? ⟨p, j, none⟩ = some v := by
  rcases ho.2 with ⟨hv, _⟩ | ⟨g', cap', cur, hv, hb, hh, h1, h2, h3, h4⟩
  · cases hv
  · cases hv
    rw [cell_of_row _ _ _ _ _ _ hh]
    rw [← h4] at h
    have hj : j < n * 1 := by
      have := (List.getElem?_eq_some_iff.1 h).1
      simp at this; omega
    rw [List.getElem?_take_of_lt hj] at h
    simpa using h
set_option maxRecDepth 100000 in
theorem own_lt {A : World} {base : Nat} {e : TypeId} {p cap n : Nat} {xs : List Value} (ho : A.ownsRow base e 1 (.slice (some ⟨p, 0, none⟩) n cap) n xs) : p < A.heap.size := by
  rcases ho.2 with ⟨hv, _⟩ | ⟨g', cap', cur, hv, hb, hh, _⟩
  · cases hv
  · cases hv
    exact (Array.getElem?_eq_some_iff.1 hh).1
set_option maxRecDepth 100000 in
/-- The built-in append of a text, by its run, inside a fence. -/
theorem opIn_append_s {F : Fence} {n : Nat} {P : Program} {o : Oper} {a : Act} {w : World} {K : Act → World → Prop} {Q : Exit → Act → World → Prop} (t u : TypeId) (s x : Operand) (ho : o.op = .call { callee := .builtin .append, args := #[s, x], argTypes := #[t, u] })
    {vs vx v' : Value} {w' : World} (hs : a.eval s = vs) (hx : a.eval x = vx) (hrun : (Builtin.append_ #[t, u] o.type #[vs, vx]).run P w = .ok v' w') (hK : K (a.put o.dst v') w') : o.wpIn F n P a w K Q := by
  unfold Oper.wpIn
  refine ⟨?_, ?_⟩
  · simp [Oper.about, ho, resolve, Target.leads]
  · rw [Oper.semAt_plain F _ _ (by rw [ho]; intro c hc; cases hc)]
    simp [execOp, ho, hs, hx, hrun, Result.andThen, resolve, invoke, builtin]
    exact hK
set_option maxRecDepth 100000 in
theorem listIn_append_s {F : Fence} {n : Nat} {P : Program} {ops : Array Oper} {rest : List Oper} {o : Oper} {a : Act} {w : World} {Q : Exit → Act → World → Prop} (hgd : o.guard = none) (t u : TypeId) (s x : Operand) (ho : o.op = .call { callee := .builtin .append, args := #[s, x], argTypes := #[t, u] })
    {vs vx v' : Value} {w' : World} (hs : a.eval s = vs) (hx : a.eval x = vx) (hrun : (Builtin.append_ #[t, u] o.type #[vs, vx]).run P w = .ok v' w') (h : wpListIn F n P ops Q rest (a.put o.dst v') w') : wpListIn F n P ops Q (o :: rest) a w :=
  wpListIn_plain hgd fun _ hK => opIn_append_s t u s x ho hs hx hrun (hK _ _ h)
set_option maxRecDepth 100000 in
theorem info5 : (Tryd.prog.info? 5).map (fun i => (i.zero, i.size, i.bytes)) = some (some (.int .u8 0), 1, 1) := by kernel_rfl
set_option maxRecDepth 100000 in
theorem info_parts {t : TypeId} {z : Value} {s b : Nat} (h : (Tryd.prog.info? t).map (fun i => (i.zero, i.size, i.bytes)) = some (some z, s, b)) : ∃ i, Tryd.prog.info? t = some i ∧ i.zero = some z ∧ i.size = s ∧ i.bytes = b := by
  obtain ⟨i, hi, h'⟩ := Option.map_eq_some_iff.1 h
  simp at h'
  exact ⟨i, hi, h'.1, h'.2.1, h'.2.2⟩
set_option maxRecDepth 100000 in
theorem Kc.cell {g : Nat} {A B : World} (h : Kc g A B) {b x : Nat} {v : Value} (hb : b ≠ g) (hc : A.cell? ⟨b, x, none⟩ = some v) : B.cell? ⟨b, x, none⟩ = some v := by
  obtain ⟨o, ho, hoc⟩ := cells_of_cell hc
  have e : B.heap[b]? = A.heap[b]? := (h.2 b o hb ho hoc).trans ho.symm
  rw [← hc]
  unfold World.cell?
  simp only [e]
set_option maxRecDepth 100000 in
theorem Kc.below {g B : Nat} {X Y : World} (h : Below B X Y) (hB : X.heap.size ≤ B) : Kc g X Y := ⟨h.size, fun j _ _ ho _ => (h.block j (Nat.lt_of_lt_of_le (Array.getElem?_eq_some_iff.1 ho).1 hB)).trans ho⟩
set_option maxRecDepth 100000 in
theorem Kc.grown {g r : Nat} {X Y Z : World} (h : Kc g X Y) (hg : Y.grownBy Z (some r)) (hr : X.heap.size ≤ r) : Kc g X Z :=
  ⟨Nat.le_trans h.1 hg.size, fun j o hj ho hc => (hg.block j (Nat.lt_of_lt_of_le (Array.getElem?_eq_some_iff.1 ho).1 h.1) (by have := (Array.getElem?_eq_some_iff.1 ho).1; intro e; cases e; omega)).trans (h.2 j o hj ho hc)⟩
set_option maxRecDepth 100000 in
theorem grown_below {B r : Nat} {X Y : World} (hg : X.grownBy Y (some r)) (hr : B ≤ r) (hB : B ≤ X.heap.size) : Below B X Y := ⟨hg.os, hg.tape, hg.output, hg.size, fun k hk => hg.block k (by omega) (by intro e; cases e; omega)⟩
set_option maxRecDepth 100000 in
theorem ext_ext (s : ByteArray) (a n : Nat) : (s.extract a s.size).extract n (s.extract a s.size).size = s.extract (a + n) s.size := by
  apply ByteArray.ext
  simp [ByteArray.data_extract, Array.extract_extract]
  congr 1
  omega
/-- How long the text in a slot is. -/
def szOf : Value → Nat | .string u => u.size | _ => 0
/-- What the iterator says of a part that it yields. -/
def Yp (B0 T : Nat) (M : Nat → Int) (k : Nat) (x : Nat × Nat) (W : World) : Prop :=
  B0 ≤ x.1 ∧ x.1 < W.heap.size ∧ x.2 ≤ 64 ∧ 64 * k + x.2 ≤ T ∧ (x.2 < 64 → 64 * k + x.2 = T) ∧ ∀ j, j < x.2 → W.cell? ⟨x.1, j, none⟩ = some (.int .u8 (M (64 * k + j)))
set_option maxRecDepth 100000 in
set_option maxHeartbeats 1000000 in
theorem parts1_in (n : Nat) (hn : 1 ≤ n) (l b1 b2 g len cap : Nat) (o : Option Addr) (s0 : ByteArray) (ts : Nat → ByteArray) (M : Nat → Int) (T : Nat) (W : World)
    (hs0 : s0.size < 64) (hm0 : ∀ j, j < s0.size → bt s0 j = M j) (hm : ∀ i, i < len → ∀ j, j < (ts i).size → bt (ts i) j = M (s0.size + offs ts i + j)) (hT : T = s0.size + offs ts len) (hlen : len ≤ 1099511627776)
    (hts : ∀ i, i < len → (ts i).size ≤ 1099511627776 ∧ ∃ b off, o = some ⟨b, off, none⟩ ∧ b ≠ g ∧ b < W.heap.size ∧ W.cell? ⟨b, off + i, none⟩ = some (.string (ts i)))
    (h1 : W.heap[b1]? = some (.cells #[.string s0] 9 (0, 0))) (h2 : W.heap[b2]? = some (.cells #[.slice o len cap] 80 (0, 0))) (hgW : g < W.heap.size)
    (R : Nat → World → Prop) (Rx : World → Prop) (hR : ∀ k A B, R k A → Below W.heap.size A B → R k B) (hRx : ∀ A B, Rx A → Below W.heap.size A B → Rx B)
    (hY : ∀ k x A, R k A → Yp W.heap.size T M k x A → YieldAt Fence.wide (n - 1) Tryd.prog l #[.slice (some ⟨x.1, 0, none⟩) x.2 64] A fun e B => (e = .returned (.bool true) ∧ R (k + 1) B ∧ Kc g A B) ∨ (e = .returned (.bool false) ∧ Rx B))
    (h0 : R 0 W) :
    CallsIn Fence.wide n Tryd.prog 103 #[.func (.yield l) #[] #[], .pointer (some ⟨b1, 0, none⟩), .pointer (some ⟨b2, 0, none⟩)] W fun e W' => (∃ v, e = .returned v) ∧ (Rx W' ∨ ∃ k, R k W' ∧ T < 64 * k) := by
  have hmx : Tryd.prog.follows .mixedOrders = true := by kernel_rfl
  obtain ⟨i0, hi, hz0, hz1, hz2⟩ := info_parts info5
  have c1 : W.cell? ⟨b1, 0, none⟩ = some (.string s0) := by rw [cell_of_row _ _ _ _ _ _ h1]; rfl
  have HM0 : Hid _ := hm0
  have HM : Hid _ := hm
  have HTS : Hid _ := hts
  have HB1 : Hid _ := h1
  have HB2 : Hid _ := h2
  have HR : Hid _ := hR
  have HRx : Hid _ := hRx
  have HY : Hid _ := hY
  have H0 : Hid _ := h0
  have HT : Hid _ := hT
  have HL : Hid _ := hlen
  have l1 : b1 < W.heap.size := (Array.getElem?_eq_some_iff.1 h1).1
  have l2 : b2 < W.heap.size := (Array.getElem?_eq_some_iff.1 h2).1
  clear hm0 hm hts h1 h2 hR hRx hY h0 hT hlen
  refine callsIn_of_wp Tryd.func103 rfl trivial ?_ rfl
  simp only [Tryd.ntmps103, List.size_toArray, List.length_cons, List.length_nil, Nat.reduceAdd, Nat.reduceSub, Array.replicate_succ, Array.replicate_zero, List.push_toArray, List.append_toArray, List.nil_append, List.cons_append]
  gi_wp2
  obtain ⟨Wm, hmk0, hown, hgrow⟩ := run_make_own (P := Tryd.prog) W.drew W.heap.size 41 5 i0 (.int .u8 0) 1 Tryd.underlying41 hi hz0 hz1 .i64 .i64 64 (by rw [hz2]; decide) (by decide) (Nat.le_refl _)
  have hmk : (Instr.makeSlice 41 (.int .i64 0) (.int .i64 64)).run Tryd.prog W.drew = .ok (.slice (some ⟨W.heap.size, 0, none⟩) 0 64) Wm := hmk0
  obtain ⟨Wa, hrun0, hownA0, hgrowA⟩ := run_append_fits_string (P := Tryd.prog) Wm W.heap.size 41 9 41 5 i0 Tryd.underlying41 Tryd.underlying9 hi hz1 (some ⟨W.heap.size, 0, none⟩) 0 64 [] hown s0 (by decide) (by omega)
  have hrun : (Builtin.append_ #[41, 9] 41 #[.slice (some ⟨W.heap.size, 0, none⟩) 0 64, .string s0]).run Tryd.prog Wm = .ok (.slice (some ⟨W.heap.size, 0, none⟩) s0.size 64) Wa := by rw [hrun0, Nat.zero_add]
  have c1m : Wm.cell? ⟨b1, 0, none⟩ = some (.string s0) := by
    have e : Wm.heap[b1]? = some (.cells #[.string s0] 9 (0, 0)) := (hgrow.block b1 l1 (by simp)).trans HB1.out
    rw [cell_of_row _ _ _ _ _ _ e]; rfl
  have HA : Hid (Wa.ownsRow W.heap.size 5 1 (.slice (some ⟨W.heap.size, 0, none⟩) s0.size 64) s0.size (mc M (64 * 0) s0.size)) := by
    have e : mc M (64 * 0) 0 ++ strCells s0 = mc M (64 * 0) (0 + s0.size) := mc_app M _ _ s0 (fun j hj => by rw [HM0.out j hj]; congr 1; omega)
    rw [Nat.zero_add] at e hownA0
    rw [← e]
    exact hownA0
  have HWA : Hid (Below W.heap.size W Wa) := ⟨hgrowA.os.trans hgrow.os, hgrowA.tape.trans hgrow.tape, hgrowA.output.trans hgrow.output, Nat.le_trans hgrow.size hgrowA.size, fun k hk => (hgrowA.block k (Nat.lt_of_lt_of_le hk hgrow.size) (by simp [Value.ownBlock]; omega)).trans (hgrow.block k hk (by simp))⟩
  clear hmk0 hrun0 hownA0 hgrowA hown hgrow
  refine wpIn_region_any hmx ?_
  change wpAnyIn _ _ _ _ _ _ _ _ _ (World.drew _)
  refine wpAnyIn_ready (rs := [0, 1]) (by kernel_rfl) (by simp) ?_
  refine (AllReadyIn.cons rfl (fun K hK => ?_) (AllReadyIn.cons rfl (fun K hK => ?_) AllReadyIn.nil))
  · go_simp
    refine hK _ _ ?_
    clear hK K
    refine wpAnyIn_ready (rs := [1]) (by kernel_rfl) (by simp) ?_
    refine (AllReadyIn.cons rfl (fun K hK => ?_) AllReadyIn.nil)
    go_simp
    refine hK _ _ ?_
    clear hK K
    refine wpAnyIn_ready (rs := [2]) (by kernel_rfl) (by simp) ?_
    refine (AllReadyIn.cons rfl (fun K hK => ?_) AllReadyIn.nil)
    rw [if_pos (by rfl)]
    refine opIn_append_s 41 9 _ _ rfl rfl rfl hrun ?_
    refine hK _ _ ?_
    clear hK K
    refine wpAnyIn_ready (rs := [3]) (by kernel_rfl) (by simp) ?_
    refine (AllReadyIn.cons rfl (fun K hK => ?_) AllReadyIn.nil)
    go_simp
    refine hK _ _ ?_
    clear hK K
    refine wpAnyIn_done (by kernel_rfl) ?_ _
    clear hmk hrun c1m c1
    have c2 : Wa.cell? ⟨b2, 0, none⟩ = some (.slice o len cap) := by rw [cell_of_row _ _ _ _ _ _ ((HWA.out.block b2 l2).trans HB2.out)]; rfl
    gi_wp2
    clear c2
    gi_loopw [4, 13] (fun v i wr => ∃ c j k : Nat, v = .slice (some ⟨W.heap.size, 0, none⟩) c 64 ∧ i = .int .i64 (j : Int) ∧ j ≤ len ∧ c < 64 ∧ 64 * k + c = s0.size + offs ts j ∧ wr.ownsRow W.heap.size 5 1 (.slice (some ⟨W.heap.size, 0, none⟩) c 64) c (mc M (64 * k) c) ∧ R k wr ∧ Kc g W wr) (fun _ i _ => len - (intOf i).toNat)
    case atStart => exact ⟨s0.size, 0, 0, rfl, rfl, Nat.zero_le _, hs0, by simp [offs], HA.out, HR.out 0 W Wa H0.out HWA.out, Kc.below HWA.out (Nat.le_refl _)⟩
    case round =>
      obtain ⟨c, j, k, rfl, rfl, hj, hc, hpos, hown, hRk, hkc⟩ := hrel
      have HO : Hid _ := hown
      have HRk : Hid _ := hRk
      have HKC : Hid (Kc g W wr) := hkc
      have HP : Hid _ := hpos
      clear hown hRk hkc hpos HA HWA
      by_cases hlt : j < len
      · obtain ⟨hsz, b, off, ho, hbg, hbW, hcell⟩ := HTS.out j hlt
        subst ho
        have ct : wr.cell? ⟨b, off + j, none⟩ = some (.string (ts j)) := HKC.out.cell hbg hcell
        have HMj : Hid (∀ i, i < (ts j).size → bt (ts j) i = M (s0.size + offs ts j + i)) := HM.out j hlt
        have HOJ : Hid (offs ts (j + 1) = offs ts j + (ts j).size) := rfl
        have HSZ : Hid _ := hsz
        clear hcell hsz
        generalize ts j = tj at *
        have g0 : (0 : Int) ≤ (j : Int) := by omega
        have g1 : (j : Int) < (len : Int) := by omega
        have g2 : (j : Int) ≤ 1099511627776 := by have := HL.out; omega
        gi_wp2
        clear ct
        gi_loopw [4, 6] (fun v t' wr => ∃ c d k : Nat, v = .slice (some ⟨W.heap.size, 0, none⟩) c 64 ∧ t' = .string (tj.extract d tj.size) ∧ d ≤ tj.size ∧ c < 64 ∧ 64 * k + c = s0.size + offs ts j + d ∧ wr.ownsRow W.heap.size 5 1 (.slice (some ⟨W.heap.size, 0, none⟩) c 64) c (mc M (64 * k) c) ∧ R k wr ∧ Kc g W wr) (fun _ t' _ => szOf t')
        case atStart => exact ⟨c, 0, k, rfl, by simp, Nat.zero_le _, hc, HP.out, HO.out, HRk.out, HKC.out⟩
        case round =>
          clear HO HRk HKC HP hc
          obtain ⟨c, d, k, rfl, rfl, hd, hc, hpos, hown, hRk, hkc⟩ := hrel
          have HO : Hid (wr.ownsRow W.heap.size 5 1 (.slice (some ⟨W.heap.size, 0, none⟩) c 64) c (mc M (64 * k) c)) := hown
          have HRk : Hid (R k wr) := hRk
          have HKC : Hid (Kc g W wr) := hkc
          have HP : Hid (64 * k + c = s0.size + offs ts j + d) := hpos
          clear hown hRk hkc hpos
          obtain ⟨u, hu⟩ : ∃ u, tj.extract d tj.size = u := ⟨_, rfl⟩
          have hus : u.size = tj.size - d := by rw [← hu]; simp
          have HU : Hid (tj.extract d tj.size = u) := hu
          have HUM : Hid (∀ i, i < u.size → bt u i = M (64 * k + c + i)) := fun i hi => by
            rw [← HU.out, bt_ext _ _ _ _ (by omega), HMj.out (d + i) (by omega), HP.out]; congr 1; omega
          have hum : u.size ≤ 1099511627776 := by have := HSZ.out; omega
          have HUS : Hid _ := hus
          rw [hu]
          clear hu hus
          have c0 : (0 : Int) ≤ (c : Int) := by omega
          have c3 : (c : Int) < 64 := by omega
          have hum' : (u.size : Int) ≤ 1099511627776 := by omega
          by_cases h64 : 64 ≤ c + u.size
          · have q1 : (64 : Int) ≤ (c : Int) + (u.size : Int) := by omega
            obtain ⟨n1, hn1⟩ : ∃ n1, 64 - c = n1 := ⟨_, rfl⟩
            have q2 : (64 : Int) - (c : Int) = (n1 : Int) := by omega
            have q3 : n1 ≤ u.size := by omega
            have q4 : (n1 : Int) ≤ (u.size : Int) := by omega
            have HN1 : Hid (64 - c = n1 ∧ 1 ≤ n1) := ⟨hn1, by omega⟩
            have hxs : (u.extract 0 n1).size = n1 := by simp; omega
            obtain ⟨W5, hrun0, hown5, hgrow5⟩ := run_append_fits_string (P := Tryd.prog) wr W.heap.size 41 9 41 5 i0 Tryd.underlying41 Tryd.underlying9 hi hz1 (some ⟨W.heap.size, 0, none⟩) c 64 _ HO.out (u.extract 0 n1) (by decide) (by omega)
            rw [mc_app M (64 * k) c _ (fun i hi => by rw [bt_ext _ _ _ _ (by omega), Nat.zero_add]; exact HUM.out i (by omega)), hxs, show c + n1 = 64 by omega] at hown5
            have hrun : (Builtin.append_ #[41, 9] 41 #[.slice (some ⟨W.heap.size, 0, none⟩) c 64, .string (u.extract 0 n1)]).run Tryd.prog wr = .ok (.slice (some ⟨W.heap.size, 0, none⟩) 64 64) W5 := by rw [hrun0, hxs, show c + n1 = 64 by omega]
            have hR5 : R k W5 := HR.out k wr W5 HRk.out (grown_below hgrow5 (Nat.le_refl _) HKC.out.1)
            have hK5 : Kc g W W5 := HKC.out.grown hgrow5 (Nat.le_refl _)
            have hYp : Yp W.heap.size T M k (W.heap.size, 64) W5 := ⟨Nat.le_refl _, own_lt hown5, Nat.le_refl _, by
              have h1 := HP.out; have h2 := HUS.out; have h3 := offs_mono ts hlt; have h4 := HOJ.out; have h5 := HT.out
              have h6 := offs_mono ts (show j + 1 ≤ len from hlt)
              show 64 * k + 64 ≤ T
              omega, fun h => absurd h (Nat.lt_irrefl 64), fun i hi => own_cell hown5 (mc_get _ _ _ _ hi)⟩
            obtain ⟨fn, tmps, assign, body, hy, hRd⟩ := HY.out k (W.heap.size, 64) W5 hR5 hYp
            have HO5 : Hid (W5.ownsRow W.heap.size 5 1 (.slice (some ⟨W.heap.size, 0, none⟩) 64 64) 64 (mc M (64 * k) 64)) := hown5
            have HK5 : Hid (Kc g W W5) := hK5
            clear hrun0 hown5 hgrow5 hR5 hK5 hYp hxs hn1
            gi_wp2_with (gi_at_builtin; refine listIn_append_s rfl 41 9 (.tmp 27) (.tmp 30) rfl (vs := .slice (some ⟨W.heap.size, 0, none⟩) c 64) (vx := .string (u.extract 0 n1)) rfl rfl hrun ?_)
            refine hRd.mono ?_
            rintro e W6 (⟨rfl, hR6, hk6⟩ | ⟨rfl, hx6⟩)
            · clear hRd hy hrun
              have HR6 : Hid (R (k + 1) W6) := hR6
              have HK6 : Hid (Kc g W5 W6) := hk6
              clear hR6 hk6
              gi_wp2
              refine wpIn_region_any hmx ?_
              change wpAnyIn _ _ _ _ _ _ _ _ _ (World.drew _)
              refine wpAnyIn_take (i := 0) (v := ?_) rfl rfl (by kernel_rfl) (by kernel_rfl) (by kernel_rfl) (fun _ _ _ h => h) ⟨Or.inl ⟨by rfl, ?_⟩, fun _ => rfl⟩ ?_
              rotate_left
              · intro w
                go_simp
                try with_reducible rfl
              refine wpAnyIn_take (i := 1) (v := ?_) rfl rfl (by kernel_rfl) (by kernel_rfl) (by kernel_rfl) (fun _ _ _ h => h) ⟨Or.inl ⟨by rfl, ?_⟩, fun _ => rfl⟩ ?_
              rotate_left
              · intro w
                go_simp
                try with_reducible rfl
              refine wpAnyIn_take (i := 2) (v := ?_) rfl rfl (by kernel_rfl) (by kernel_rfl) (by kernel_rfl) (fun _ _ _ h => h) ⟨Or.inl ⟨by rfl, ?_⟩, fun _ => rfl⟩ ?_
              rotate_left
              · intro w
                go_simp
                try with_reducible rfl
              refine wpAnyIn_take (i := 3) (v := ?_) rfl rfl (by kernel_rfl) (by kernel_rfl) (by kernel_rfl) (fun _ _ _ h => h) ⟨Or.inl ⟨by rfl, ?_⟩, fun _ => rfl⟩ ?_
              rotate_left
              · intro w
                go_simp
                try with_reducible rfl
              refine wpAnyIn_take (i := 4) (v := ?_) rfl rfl (by kernel_rfl) (by kernel_rfl) (by kernel_rfl) (fun _ _ _ h => h) ⟨Or.inl ⟨by rfl, ?_⟩, fun _ => rfl⟩ ?_
              rotate_left
              · intro w
                go_simp
                try with_reducible rfl
              refine wpAnyIn_ready (rs := [5]) (by kernel_rfl) (by simp) ?_
              refine (AllReadyIn.cons rfl (fun K hK => ?_) AllReadyIn.nil)
              go_simp
              refine hK _ _ ?_
              clear hK K
              refine wpAnyIn_ready (rs := [6]) (by kernel_rfl) (by simp) ?_
              refine (AllReadyIn.cons rfl (fun K hK => ?_) AllReadyIn.nil)
              go_simp
              refine hK _ _ ?_
              clear hK K
              refine wpAnyIn_done (by kernel_rfl) ?_ _
              gi_wp2
              go_roundw
              case rel =>
                refine ⟨0, d + n1, k + 1, rfl, ?_, ?_, by decide, ?_, ?_, ?_, ?_⟩
                · rw [← HU.out, ext_ext]
                · have := HUS.out; omega
                · have := HP.out; have := HN1.out.1; omega
                · exact (own_zero (HK6.out.own HO5.out (by omega)) : W6.ownsRow _ _ _ _ _ _)
                · exact HR.out _ W6 _ HR6.out (Below.refl _ W6).drew
                · exact (HK5.out.trans HK6.out)
              case measure => simp [szOf]; have := HN1.out.2; omega
            · gi_wp2
              refine bodyPost_ret (results_none rfl _ _ _) rfl ?_
              exact ⟨⟨_, rfl⟩, .inl hx6⟩
          · have q1 : ¬ (64 : Int) ≤ (c : Int) + (u.size : Int) := by omega
            obtain ⟨W5, hrun, hown5, hgrow5⟩ := run_append_fits_string (P := Tryd.prog) wr W.heap.size 41 9 41 5 i0 Tryd.underlying41 Tryd.underlying9 hi hz1 (some ⟨W.heap.size, 0, none⟩) c 64 _ HO.out u (by decide) (by omega)
            rw [mc_app M (64 * k) c u HUM.out] at hown5
            have HO5 : Hid (W5.ownsRow W.heap.size 5 1 (.slice (some ⟨W.heap.size, 0, none⟩) (c + u.size) 64) (c + u.size) (mc M (64 * k) (c + u.size))) := hown5
            have HR5 : Hid (R k W5) := HR.out k wr W5 HRk.out (grown_below hgrow5 (Nat.le_refl _) HKC.out.1)
            have HK5 : Hid (Kc g W W5) := HKC.out.grown hgrow5 (Nat.le_refl _)
            clear hown5 hgrow5
            gi_wp2_with (gi_at_builtin; refine listIn_append_s rfl 41 9 (.tmp 39) (.tmp 40) rfl (vs := .slice (some ⟨W.heap.size, 0, none⟩) c 64) (vx := .string u) rfl rfl hrun ?_)
            go_roundw
            case rel => exact ⟨c + u.size, j + 1, k, rfl, by go_num, hlt, by omega, by rw [HOJ.out]; have := HP.out; have := HUS.out; omega, HO5.out, HR5.out, HK5.out⟩
            case measure => simp [intOf]; omega
      · obtain rfl : j = len := by omega
        have hYp : Yp W.heap.size T M k (W.heap.size, c) wr := ⟨Nat.le_refl _, own_lt HO.out, Nat.le_of_lt hc, by have := HP.out; have := HT.out; show 64 * k + c ≤ T; omega, fun _ => by have := HP.out; have := HT.out; show 64 * k + c = T; omega, fun i hi => own_cell HO.out (mc_get _ _ _ _ hi)⟩
        obtain ⟨fn, tmps, assign, body, hy, hRd⟩ := HY.out k (W.heap.size, c) wr HRk.out hYp
        have hTk : T < 64 * (k + 1) := by have := HP.out; have := HT.out; omega
        clear hYp
        gi_wp2
        refine hRd.mono ?_
        rintro e W6 (⟨rfl, hR6, hk6⟩ | ⟨rfl, hx6⟩)
        · gi_wp2
          go_end0
          exact ⟨⟨_, rfl⟩, .inr ⟨k + 1, hR6, hTk⟩⟩
        · gi_wp2
          go_end0
          exact ⟨⟨_, rfl⟩, .inl hx6⟩
  · go_simp
    refine hK _ _ ?_
    clear hK K
    refine wpAnyIn_ready (rs := [0]) (by kernel_rfl) (by simp) ?_
    refine (AllReadyIn.cons rfl (fun K hK => ?_) AllReadyIn.nil)
    go_simp
    refine hK _ _ ?_
    clear hK K
    refine wpAnyIn_ready (rs := [2]) (by kernel_rfl) (by simp) ?_
    refine (AllReadyIn.cons rfl (fun K hK => ?_) AllReadyIn.nil)
    rw [if_pos (by rfl)]
    refine opIn_append_s 41 9 _ _ rfl rfl rfl hrun ?_
    refine hK _ _ ?_
    clear hK K
    refine wpAnyIn_ready (rs := [3]) (by kernel_rfl) (by simp) ?_
    refine (AllReadyIn.cons rfl (fun K hK => ?_) AllReadyIn.nil)
    go_simp
    refine hK _ _ ?_
    clear hK K
    refine wpAnyIn_done (by kernel_rfl) ?_ _
    clear hmk hrun c1m c1
    have c2 : Wa.cell? ⟨b2, 0, none⟩ = some (.slice o len cap) := by rw [cell_of_row _ _ _ _ _ _ ((HWA.out.block b2 l2).trans HB2.out)]; rfl
    gi_wp2
    clear c2
    gi_loopw [4, 13] (fun v i wr => ∃ c j k : Nat, v = .slice (some ⟨W.heap.size, 0, none⟩) c 64 ∧ i = .int .i64 (j : Int) ∧ j ≤ len ∧ c < 64 ∧ 64 * k + c = s0.size + offs ts j ∧ wr.ownsRow W.heap.size 5 1 (.slice (some ⟨W.heap.size, 0, none⟩) c 64) c (mc M (64 * k) c) ∧ R k wr ∧ Kc g W wr) (fun _ i _ => len - (intOf i).toNat)
    case atStart => exact ⟨s0.size, 0, 0, rfl, rfl, Nat.zero_le _, hs0, by simp [offs], HA.out, HR.out 0 W Wa H0.out HWA.out, Kc.below HWA.out (Nat.le_refl _)⟩
    case round =>
      obtain ⟨c, j, k, rfl, rfl, hj, hc, hpos, hown, hRk, hkc⟩ := hrel
      have HO : Hid _ := hown
      have HRk : Hid _ := hRk
      have HKC : Hid (Kc g W wr) := hkc
      have HP : Hid _ := hpos
      clear hown hRk hkc hpos HA HWA
      by_cases hlt : j < len
      · obtain ⟨hsz, b, off, ho, hbg, hbW, hcell⟩ := HTS.out j hlt
        subst ho
        have ct : wr.cell? ⟨b, off + j, none⟩ = some (.string (ts j)) := HKC.out.cell hbg hcell
        have HMj : Hid (∀ i, i < (ts j).size → bt (ts j) i = M (s0.size + offs ts j + i)) := HM.out j hlt
        have HOJ : Hid (offs ts (j + 1) = offs ts j + (ts j).size) := rfl
        have HSZ : Hid _ := hsz
        clear hcell hsz
        generalize ts j = tj at *
        have g0 : (0 : Int) ≤ (j : Int) := by omega
        have g1 : (j : Int) < (len : Int) := by omega
        have g2 : (j : Int) ≤ 1099511627776 := by have := HL.out; omega
        gi_wp2
        clear ct
        gi_loopw [4, 6] (fun v t' wr => ∃ c d k : Nat, v = .slice (some ⟨W.heap.size, 0, none⟩) c 64 ∧ t' = .string (tj.extract d tj.size) ∧ d ≤ tj.size ∧ c < 64 ∧ 64 * k + c = s0.size + offs ts j + d ∧ wr.ownsRow W.heap.size 5 1 (.slice (some ⟨W.heap.size, 0, none⟩) c 64) c (mc M (64 * k) c) ∧ R k wr ∧ Kc g W wr) (fun _ t' _ => szOf t')
        case atStart => exact ⟨c, 0, k, rfl, by simp, Nat.zero_le _, hc, HP.out, HO.out, HRk.out, HKC.out⟩
        case round =>
          clear HO HRk HKC HP hc
          obtain ⟨c, d, k, rfl, rfl, hd, hc, hpos, hown, hRk, hkc⟩ := hrel
          have HO : Hid (wr.ownsRow W.heap.size 5 1 (.slice (some ⟨W.heap.size, 0, none⟩) c 64) c (mc M (64 * k) c)) := hown
          have HRk : Hid (R k wr) := hRk
          have HKC : Hid (Kc g W wr) := hkc
          have HP : Hid (64 * k + c = s0.size + offs ts j + d) := hpos
          clear hown hRk hkc hpos
          obtain ⟨u, hu⟩ : ∃ u, tj.extract d tj.size = u := ⟨_, rfl⟩
          have hus : u.size = tj.size - d := by rw [← hu]; simp
          have HU : Hid (tj.extract d tj.size = u) := hu
          have HUM : Hid (∀ i, i < u.size → bt u i = M (64 * k + c + i)) := fun i hi => by
            rw [← HU.out, bt_ext _ _ _ _ (by omega), HMj.out (d + i) (by omega), HP.out]; congr 1; omega
          have hum : u.size ≤ 1099511627776 := by have := HSZ.out; omega
          have HUS : Hid _ := hus
          rw [hu]
          clear hu hus
          have c0 : (0 : Int) ≤ (c : Int) := by omega
          have c3 : (c : Int) < 64 := by omega
          have hum' : (u.size : Int) ≤ 1099511627776 := by omega
          by_cases h64 : 64 ≤ c + u.size
          · have q1 : (64 : Int) ≤ (c : Int) + (u.size : Int) := by omega
            obtain ⟨n1, hn1⟩ : ∃ n1, 64 - c = n1 := ⟨_, rfl⟩
            have q2 : (64 : Int) - (c : Int) = (n1 : Int) := by omega
            have q3 : n1 ≤ u.size := by omega
            have q4 : (n1 : Int) ≤ (u.size : Int) := by omega
            have HN1 : Hid (64 - c = n1 ∧ 1 ≤ n1) := ⟨hn1, by omega⟩
            have hxs : (u.extract 0 n1).size = n1 := by simp; omega
            obtain ⟨W5, hrun0, hown5, hgrow5⟩ := run_append_fits_string (P := Tryd.prog) wr W.heap.size 41 9 41 5 i0 Tryd.underlying41 Tryd.underlying9 hi hz1 (some ⟨W.heap.size, 0, none⟩) c 64 _ HO.out (u.extract 0 n1) (by decide) (by omega)
            rw [mc_app M (64 * k) c _ (fun i hi => by rw [bt_ext _ _ _ _ (by omega), Nat.zero_add]; exact HUM.out i (by omega)), hxs, show c + n1 = 64 by omega] at hown5
            have hrun : (Builtin.append_ #[41, 9] 41 #[.slice (some ⟨W.heap.size, 0, none⟩) c 64, .string (u.extract 0 n1)]).run Tryd.prog wr = .ok (.slice (some ⟨W.heap.size, 0, none⟩) 64 64) W5 := by rw [hrun0, hxs, show c + n1 = 64 by omega]
            have hR5 : R k W5 := HR.out k wr W5 HRk.out (grown_below hgrow5 (Nat.le_refl _) HKC.out.1)
            have hK5 : Kc g W W5 := HKC.out.grown hgrow5 (Nat.le_refl _)
            have hYp : Yp W.heap.size T M k (W.heap.size, 64) W5 := ⟨Nat.le_refl _, own_lt hown5, Nat.le_refl _, by
              have h1 := HP.out; have h2 := HUS.out; have h3 := offs_mono ts hlt; have h4 := HOJ.out; have h5 := HT.out
              have h6 := offs_mono ts (show j + 1 ≤ len from hlt)
              show 64 * k + 64 ≤ T
              omega, fun h => absurd h (Nat.lt_irrefl 64), fun i hi => own_cell hown5 (mc_get _ _ _ _ hi)⟩
            obtain ⟨fn, tmps, assign, body, hy, hRd⟩ := HY.out k (W.heap.size, 64) W5 hR5 hYp
            have HO5 : Hid (W5.ownsRow W.heap.size 5 1 (.slice (some ⟨W.heap.size, 0, none⟩) 64 64) 64 (mc M (64 * k) 64)) := hown5
            have HK5 : Hid (Kc g W W5) := hK5
            clear hrun0 hown5 hgrow5 hR5 hK5 hYp hxs hn1
            gi_wp2_with (gi_at_builtin; refine listIn_append_s rfl 41 9 (.tmp 27) (.tmp 30) rfl (vs := .slice (some ⟨W.heap.size, 0, none⟩) c 64) (vx := .string (u.extract 0 n1)) rfl rfl hrun ?_)
            refine hRd.mono ?_
            rintro e W6 (⟨rfl, hR6, hk6⟩ | ⟨rfl, hx6⟩)
            · clear hRd hy hrun
              have HR6 : Hid (R (k + 1) W6) := hR6
              have HK6 : Hid (Kc g W5 W6) := hk6
              clear hR6 hk6
              gi_wp2
              refine wpIn_region_any hmx ?_
              change wpAnyIn _ _ _ _ _ _ _ _ _ (World.drew _)
              refine wpAnyIn_take (i := 0) (v := ?_) rfl rfl (by kernel_rfl) (by kernel_rfl) (by kernel_rfl) (fun _ _ _ h => h) ⟨Or.inl ⟨by rfl, ?_⟩, fun _ => rfl⟩ ?_
              rotate_left
              · intro w
                go_simp
                try with_reducible rfl
              refine wpAnyIn_take (i := 1) (v := ?_) rfl rfl (by kernel_rfl) (by kernel_rfl) (by kernel_rfl) (fun _ _ _ h => h) ⟨Or.inl ⟨by rfl, ?_⟩, fun _ => rfl⟩ ?_
              rotate_left
              · intro w
                go_simp
                try with_reducible rfl
              refine wpAnyIn_take (i := 2) (v := ?_) rfl rfl (by kernel_rfl) (by kernel_rfl) (by kernel_rfl) (fun _ _ _ h => h) ⟨Or.inl ⟨by rfl, ?_⟩, fun _ => rfl⟩ ?_
              rotate_left
              · intro w
                go_simp
                try with_reducible rfl
              refine wpAnyIn_take (i := 3) (v := ?_) rfl rfl (by kernel_rfl) (by kernel_rfl) (by kernel_rfl) (fun _ _ _ h => h) ⟨Or.inl ⟨by rfl, ?_⟩, fun _ => rfl⟩ ?_
              rotate_left
              · intro w
                go_simp
                try with_reducible rfl
              refine wpAnyIn_take (i := 4) (v := ?_) rfl rfl (by kernel_rfl) (by kernel_rfl) (by kernel_rfl) (fun _ _ _ h => h) ⟨Or.inl ⟨by rfl, ?_⟩, fun _ => rfl⟩ ?_
              rotate_left
              · intro w
                go_simp
                try with_reducible rfl
              refine wpAnyIn_ready (rs := [5]) (by kernel_rfl) (by simp) ?_
              refine (AllReadyIn.cons rfl (fun K hK => ?_) AllReadyIn.nil)
              go_simp
              refine hK _ _ ?_
              clear hK K
              refine wpAnyIn_ready (rs := [6]) (by kernel_rfl) (by simp) ?_
              refine (AllReadyIn.cons rfl (fun K hK => ?_) AllReadyIn.nil)
              go_simp
              refine hK _ _ ?_
              clear hK K
              refine wpAnyIn_done (by kernel_rfl) ?_ _
              gi_wp2
              go_roundw
              case rel =>
                refine ⟨0, d + n1, k + 1, rfl, ?_, ?_, by decide, ?_, ?_, ?_, ?_⟩
                · rw [← HU.out, ext_ext]
                · have := HUS.out; omega
                · have := HP.out; have := HN1.out.1; omega
                · exact (own_zero (HK6.out.own HO5.out (by omega)) : W6.ownsRow _ _ _ _ _ _)
                · exact HR.out _ W6 _ HR6.out (Below.refl _ W6).drew
                · exact (HK5.out.trans HK6.out)
              case measure => simp [szOf]; have := HN1.out.2; omega
            · gi_wp2
              refine bodyPost_ret (results_none rfl _ _ _) rfl ?_
              exact ⟨⟨_, rfl⟩, .inl hx6⟩
          · have q1 : ¬ (64 : Int) ≤ (c : Int) + (u.size : Int) := by omega
            obtain ⟨W5, hrun, hown5, hgrow5⟩ := run_append_fits_string (P := Tryd.prog) wr W.heap.size 41 9 41 5 i0 Tryd.underlying41 Tryd.underlying9 hi hz1 (some ⟨W.heap.size, 0, none⟩) c 64 _ HO.out u (by decide) (by omega)
            rw [mc_app M (64 * k) c u HUM.out] at hown5
            have HO5 : Hid (W5.ownsRow W.heap.size 5 1 (.slice (some ⟨W.heap.size, 0, none⟩) (c + u.size) 64) (c + u.size) (mc M (64 * k) (c + u.size))) := hown5
            have HR5 : Hid (R k W5) := HR.out k wr W5 HRk.out (grown_below hgrow5 (Nat.le_refl _) HKC.out.1)
            have HK5 : Hid (Kc g W W5) := HKC.out.grown hgrow5 (Nat.le_refl _)
            clear hown5 hgrow5
            gi_wp2_with (gi_at_builtin; refine listIn_append_s rfl 41 9 (.tmp 39) (.tmp 40) rfl (vs := .slice (some ⟨W.heap.size, 0, none⟩) c 64) (vx := .string u) rfl rfl hrun ?_)
            go_roundw
            case rel => exact ⟨c + u.size, j + 1, k, rfl, by go_num, hlt, by omega, by rw [HOJ.out]; have := HP.out; have := HUS.out; omega, HO5.out, HR5.out, HK5.out⟩
            case measure => simp [intOf]; omega
      · obtain rfl : j = len := by omega
        have hYp : Yp W.heap.size T M k (W.heap.size, c) wr := ⟨Nat.le_refl _, own_lt HO.out, Nat.le_of_lt hc, by have := HP.out; have := HT.out; show 64 * k + c ≤ T; omega, fun _ => by have := HP.out; have := HT.out; show 64 * k + c = T; omega, fun i hi => own_cell HO.out (mc_get _ _ _ _ hi)⟩
        obtain ⟨fn, tmps, assign, body, hy, hRd⟩ := HY.out k (W.heap.size, c) wr HRk.out hYp
        have hTk : T < 64 * (k + 1) := by have := HP.out; have := HT.out; omega
        clear hYp
        gi_wp2
        refine hRd.mono ?_
        rintro e W6 (⟨rfl, hR6, hk6⟩ | ⟨rfl, hx6⟩)
        · gi_wp2
          go_end0
          exact ⟨⟨_, rfl⟩, .inr ⟨k + 1, hR6, hTk⟩⟩
        · gi_wp2
          go_end0
          exact ⟨⟨_, rfl⟩, .inl hx6⟩
end Go.Proofs.YtaoadopnhphjbaaDoor
namespace Go.Proofs.YtaoadopnhphjbaaDoor
open Go.RowKit Go.Shelf Go.Lib
attribute [local go_sem] Oper.semAt_some
/-- The state behind so many parts of a message. -/
def hs (Kt iv m : Nat → Int) : Nat → Nat → Int
  | 0 => iv
  | k + 1 => chg Kt (hs Kt iv m k) (fun j => m (64 * k + j))
/-- The rest's bytes, the first c of them those of the message from a place on. -/
def rst (r : Nat → Int) (m : Nat → Int) (a c : Nat) : Nat → Int := fun j => if j < c then m (a + j) else r j
set_option maxRecDepth 100000 in
theorem sm_copy (f r : Nat → Int) (n : Int) (m : Nat → Int) (a c : Nat) (hc : c ≤ 64) :
    ((sm f r n).toList.take 8 ++ mc m a c ++ (sm f r n).toList.drop (8 + c)).toArray = sm f (rst r m a c) n := by
  have hl : (mc m a c).length = c := mc_length _ _ _
  have ht : ((sm f r n).toList.take 8).length = 8 := by simp [sm_size]
  apply Array.ext_getElem?
  intro i
  rw [List.getElem?_toArray, List.append_assoc]
  by_cases h1 : i < 8
  · rw [List.getElem?_append_left (by omega), List.getElem?_take_of_lt h1, Array.getElem?_toList, sm_f _ _ _ _ h1, sm_f _ _ _ _ h1]
  · obtain ⟨j, rfl⟩ : ∃ j, i = 8 + j := ⟨i - 8, by omega⟩
    rw [List.getElem?_append_right (by omega), ht, show 8 + j - 8 = j by omega]
    by_cases h2 : j < c
    · rw [List.getElem?_append_left (by omega), mc_get _ _ _ _ h2, sm_r _ _ _ _ (by omega)]
      simp [rst, h2]
    · rw [List.getElem?_append_right (by omega), hl, List.getElem?_drop, Array.getElem?_toList, show 8 + c + (j - c) = 8 + j by omega]
      by_cases h3 : j < 64
      · rw [sm_r _ _ _ _ h3, sm_r _ _ _ _ h3]
        simp [rst, h2]
      · by_cases h4 : j = 64
        · subst h4; rw [show 8 + 64 = 72 from rfl, sm_c, sm_c]
        · rw [Array.getElem?_eq_none (by rw [sm_size]; omega), Array.getElem?_eq_none (by rw [sm_size]; omega)]
/-- A Summer at block g that has been told a message's first L bytes. -/
def Told (Kt iv m : Nat → Int) (W : World) (g L : Nat) : Prop :=
  ∃ r, W.heap[g]? = some (.cells (sm (hs Kt iv m (L / 64)) r (L : Int)) 128 (0, 0)) ∧ ∀ j, j < L % 64 → r j = m (64 * (L / 64) + j)
set_option maxRecDepth 100000 in
theorem parts_in (n : Nat) (s0 : ByteArray) (o : Option Addr) (len cap : Nat) (w : World) :
    CallsIn Fence.wide n Tryd.prog 95 #[.string s0, .slice o len cap] w fun e w' => e = .returned (.func (.func 103) #[] #[.pointer (some ⟨w.heap.size, 0, none⟩), .pointer (some ⟨w.heap.size + 1, 0, none⟩)]) ∧ w' = (w.alloc (.cells #[.string s0] 9)).alloc (.cells #[.slice o len cap] 80) := by
  refine callsIn_of_wp Tryd.func95 rfl trivial ?_ rfl
  simp only [Tryd.ntmps95, List.size_toArray, List.length_cons, List.length_nil, Nat.reduceAdd, Nat.reduceSub, Array.replicate_succ, Array.replicate_zero, List.push_toArray, List.append_toArray, List.nil_append, List.cons_append]
  gi_wp2
  go_ret
  exact ⟨rfl, rfl⟩
set_option maxRecDepth 100000 in
theorem smset_c (w : World) (g : Nat) (f r : Nat → Int) (c x : Int) (hg : w.heap[g]? = some (.cells (sm f r c) 128 (0, 0))) :
    (w.setCell ⟨g, 72, none⟩ (.int .i64 x)).heap[g]? = some (.cells (sm f r x) 128 (0, 0)) := by
  rw [heap_setCell_same w g 72 _ _ _ hg, sm_set_c]
set_option maxRecDepth 100000 in
theorem cell_same {A B : World} {b : Nat} (h : B.heap[b]? = A.heap[b]?) (x : Nat) : B.cell? ⟨b, x, none⟩ = A.cell? ⟨b, x, none⟩ := by
  unfold World.cell?
  simp only [h]
set_option maxRecDepth 100000 in
theorem Yp_put {B0 T : Nat} {M : Nat → Int} {k : Nat} {x : Nat × Nat} {W : World} {l : Nat} (o : Obj) (h : Yp B0 T M k x W) (hl : l < B0) : Yp B0 T M k x (W.putObj l o) := by
  obtain ⟨h1, h2, h3, h4, h5, h6⟩ := h
  exact ⟨h1, by simpa [World.putObj] using h2, h3, h4, h5, fun j hj => (cell_same (World.putObj_heap_other (by omega)) j).trans (h6 j hj)⟩
set_option maxRecDepth 100000 in
theorem gb_below {B : Nat} {w W W' : World} {r : Option Nat} (h : w.grownBy W r) (hb : Below B W W') (hB : w.heap.size ≤ B) : w.grownBy W' r :=
  ⟨hb.os.trans h.os, hb.tape.trans h.tape, hb.output.trans h.output, Nat.le_trans h.size hb.size, fun k hk hne => (hb.block k (by omega)).trans (h.block k hk hne)⟩
set_option maxRecDepth 100000 in
theorem Kc.of_grown {g : Nat} {A B : World} (h : A.grownBy B (some g)) : Kc g A B := ⟨h.size, fun j _ hj ho _ => (h.block j (Array.getElem?_eq_some_iff.1 ho).1 (by intro e; cases e; exact hj rfl)).trans ho⟩
/-- The bytes of the rest, as a text. -/
def wait (m : Nat → Int) (L : Nat) : ByteArray := strOfNums (upto (fun j => m (64 * (L / 64) + j)) (L % 64))
set_option maxRecDepth 100000 in
theorem wait_size (m : Nat → Int) (L : Nat) : (wait m L).size = L % 64 := by unfold wait; rw [strOfNums_size, upto_length]
set_option maxRecDepth 100000 in
theorem bt_wait (m : Nat → Int) (hm : ∀ j, 0 ≤ m j ∧ m j < 256) (L j : Nat) (hj : j < L % 64) : bt (wait m L) j = m (64 * (L / 64) + j) := by
  have := hm (64 * (L / 64) + j)
  unfold wait bt strOfNums
  simp only [List.getElem?_toArray, List.getElem?_map, upto, List.getElem?_range hj, Option.map_some, Option.getD_some]
  rw [UInt8.toNat_ofNat']
  omega
set_option maxRecDepth 100000 in
theorem wait_conv {w : World} {g : Nat} {m : Nat → Int} {L : Nat} {r : Nat → Int} {n : Int} {f : Nat → Int} (h : w.heap[g]? = some (.cells (sm f r n) 128 (0, 0))) (hr : ∀ j, j < L % 64 → r j = m (64 * (L / 64) + j)) :
    (convert 41 9 (.slice (some ⟨g, 8, none⟩) (L % 64) 64)).run Tryd.prog w = .ok (.string (wait m L)) w := by
  refine run_convert_bytes_arg w 41 5 Tryd.underlying41 Tryd.underlying5 g 8 (L % 64) 64 (upto (fun j => m (64 * (L / 64) + j)) (L % 64)) (by rw [upto_length]) (fun i hi => ?_) 9 Tryd.underlying9
  rw [cell_of_row _ _ _ _ _ _ h, sm_r _ _ _ _ (by omega), hr i hi]
  simp [upto, List.getD, hi]
set_option maxRecDepth 100000 in
set_option maxHeartbeats 1000000 in
theorem lay_in (Kt iv m : Nat → Int) (hm : ∀ j, 0 ≤ m j ∧ m j < 256) (g L len cap : Nat) (o : Option Addr) (ts : Nat → ByteArray) (w : World) {tt : TypeId} {fr : Nat × Nat} (hK : w.heap[2]? = some (.cells (w64 Kt) tt fr)) (hg1 : g ≠ 2)
    (hL : L + offs ts len ≤ 1099511627776) (hlen : len ≤ 1099511627776) (ht : Told Kt iv m w g L)
    (hts : ∀ i, i < len → (∃ b off, o = some ⟨b, off, none⟩ ∧ b ≠ g ∧ b < w.heap.size ∧ w.cell? ⟨b, off + i, none⟩ = some (.string (ts i))) ∧ ∀ j, j < (ts i).size → bt (ts i) j = m (L + offs ts i + j)) :
    CallsIn Fence.wide 5 Tryd.prog 85 #[.pointer (some ⟨g, 0, none⟩), .slice o len cap] w fun e w' => e = .returned (.tuple #[]) ∧ Told Kt iv m w' g (L + offs ts len) ∧ w.grownBy w' (some g) := by
  obtain ⟨r, hg, hr⟩ := ht
  have hgl : g < w.heap.size := (Array.getElem?_eq_some_iff.1 hg).1
  have h1l : 2 < w.heap.size := (Array.getElem?_eq_some_iff.1 hK).1
  refine callsIn_of_wp_marks Tryd.func85 rfl trivial ?_ rfl
  simp only [Tryd.ntmps85, List.size_toArray, List.length_cons, List.length_nil, Nat.reduceAdd, Nat.reduceSub, Array.replicate_succ, Array.replicate_zero, List.push_toArray, List.append_toArray, List.nil_append, List.cons_append]
  have HG : Hid _ := hg
  have HK : Hid _ := hK
  have HTS : Hid _ := hts
  have HR : Hid _ := hr
  have HLL : Hid _ := hL
  have HM : Hid _ := hm
  have L1 : (L : Int) ≤ 1099511627776 := by omega
  have L0 : (0 : Int) ≤ (L : Int) := by omega
  clear hg hK hts hr hL hm
  gi_wp2
  obtain ⟨w0, hw0⟩ : ∃ w0, w.alloc (.cells #[.pointer (some ⟨g, 0, none⟩)] 113) = w0 := ⟨_, rfl⟩
  have hb0 : Below w.heap.size w w0 := by rw [← hw0]; exact (Below.refl _ w).alloc (Nat.le_refl _) _
  have G0 : Hid (w0.heap[g]? = some (.cells (sm (hs Kt iv m (L / 64)) r (L : Int)) 128 (0, 0))) := (hb0.block g hgl).trans HG.out
  have X0 : Hid (w0.heap[w.heap.size]? = some (.cells #[.pointer (some ⟨g, 0, none⟩)] 113 (0, 0))) := by rw [← hw0]; exact heap_alloc_new w _
  have cb : w0.cell? ⟨w.heap.size, 0, none⟩ = some (.pointer (some ⟨g, 0, none⟩)) := by rw [cell_of_row _ _ _ _ _ _ X0.out]; rfl
  have cc : w0.cell? ⟨g, 72, none⟩ = some (.int .i64 (L : Int)) := by rw [cell_of_row _ _ _ _ _ _ G0.out, sm_c]
  obtain ⟨a0, ha0⟩ : ∃ a0, L % 64 = a0 := ⟨_, rfl⟩
  have hcv : ∀ n, (convert 41 9 (.slice (some ⟨g, 8, none⟩) a0 64)).run Tryd.prog (w0.drewN n) = .ok (.string (wait m L)) (w0.drewN n) := fun n => by
    rw [← ha0]; exact wait_conv (w := w0.drewN n) G0.out HR.out
  have t0 : (L : Int).tmod 64 = (a0 : Int) := by rw [Int.tmod_eq_emod_of_nonneg L0]; omega
  have t1 : (L : Int) % 64 = (a0 : Int) := by omega
  have t2 : a0 ≤ 64 := by omega
  have t3 : (a0 : Int) ≤ 64 := by omega
  have HA0 : Hid (L % 64 = a0) := ha0
  clear ha0
  rw [hw0]
  refine (wpIn_wide (n := 5)).2 (wp_scope_straight ((wpIn_wide (n := 5)).1 ?_))
  gi_wp2
  gi_quiet (fail)
  obtain ⟨w1, hw1⟩ : ∃ w1, w0.drewN nq = w1 := ⟨_, rfl⟩
  have hb1 : Below w.heap.size w w1 := by rw [← hw1]; exact below_drewN hb0 _
  have G1 : Hid (w1.heap[g]? = some (.cells (sm (hs Kt iv m (L / 64)) r (L : Int)) 128 (0, 0))) := by rw [← hw1]; exact G0.out
  have X1 : Hid (w1.heap[w.heap.size]? = some (.cells #[.pointer (some ⟨g, 0, none⟩)] 113 (0, 0))) := by rw [← hw1]; exact X0.out
  have B1 : Hid _ := hb1
  rw [hw1]
  clear hw1 hw0 hb0 hb1 hcv cb cc t0 t1 t3 t2 G0 X0 HG
  gi_wp2
  gi_loopw [20] (fun i wr => ∃ j : Nat, j ≤ len ∧ i = .int .i64 (j : Int) ∧ wr.heap[g]? = some (.cells (sm (hs Kt iv m (L / 64)) r ((L + offs ts j : Nat) : Int)) 128 (0, 0)) ∧ wr.heap[w.heap.size]? = some (.cells #[.pointer (some ⟨g, 0, none⟩)] 113 (0, 0)) ∧ w.grownBy wr (some g)) (fun i _ => len - (intOf i).toNat)
  case atStart => exact ⟨0, Nat.zero_le _, rfl, G1.out, X1.out, ⟨B1.out.os, B1.out.tape, B1.out.output, B1.out.size, fun k hk _ => B1.out.block k hk⟩⟩
  case round =>
    clear G1 X1 B1
    obtain ⟨j, hj, rfl, hg, hx, hgr⟩ := hrel
    have G1 : Hid (wr.heap[g]? = some (.cells (sm (hs Kt iv m (L / 64)) r ((L + offs ts j : Nat) : Int)) 128 (0, 0))) := hg
    have X1 : Hid (wr.heap[w.heap.size]? = some (.cells #[.pointer (some ⟨g, 0, none⟩)] 113 (0, 0))) := hx
    have GR : Hid (w.grownBy wr (some g)) := hgr
    clear hg hx hgr
    have g0 : (0 : Int) ≤ (j : Int) := by omega
    have g2 : (j : Int) ≤ 1099511627776 := by omega
    by_cases hlt : j < len
    · obtain ⟨⟨b, off, ho, hbg, hbW, hcell⟩, _⟩ := HTS.out j hlt
      subst ho
      have ct : wr.cell? ⟨b, off + j, none⟩ = some (.string (ts j)) := (cell_same (GR.out.block b hbW (by intro e; cases e; exact hbg rfl)) _).trans hcell
      obtain ⟨q, hq⟩ : ∃ q, L + offs ts j = q := ⟨_, rfl⟩
      have HQ : Hid (L + offs ts j = q) := hq
      have hq1 : q + (ts j).size ≤ 1099511627776 := by
        have h1 := HLL.out; have h2 := offs_mono ts (show j + 1 ≤ len from hlt)
        have h3 : offs ts (j + 1) = offs ts j + (ts j).size := rfl
        omega
      have hq2 : (q : Int) + ((ts j).size : Int) ≤ 1099511627776 := by omega
      have cb : wr.cell? ⟨w.heap.size, 0, none⟩ = some (.pointer (some ⟨g, 0, none⟩)) := by rw [cell_of_row _ _ _ _ _ _ X1.out]; rfl
      have cc : wr.cell? ⟨g, 72, none⟩ = some (.int .i64 (q : Int)) := by rw [cell_of_row _ _ _ _ _ _ G1.out, sm_c, hq]
      have cz := frozen_of_row wr g 72 _ _ G1.out
      have g1 : (j : Int) < (len : Int) := by omega
      clear hcell hq
      obtain ⟨tj, htj⟩ : ∃ tj, ts j = tj := ⟨_, rfl⟩
      have HTJ : Hid (ts j = tj) := htj
      rw [htj] at ct hq1 hq2
      clear htj
      gi_wp2
      have hne : w.heap.size ≠ g := by omega
      exact ⟨⟨j + 1, hlt, by go_num, by rw [show L + offs ts (j + 1) = q + tj.size by rw [← HQ.out, ← HTJ.out]; show L + (offs ts j + (ts j).size) = _; omega]; exact smset_c _ _ _ _ _ _ G1.out, (Below.heap_setCell _ _ _ _ hne).trans X1.out, gb_trans GR.out (gb_set _ _ _ _)⟩, by simp [intOf]; omega⟩
    · have hjl : j = len := by omega
      rw [hjl] at G1
      rw [show (j : Int) = (len : Int) by omega]
      clear hlt g0 g2 hj hjl
      gi_wp2
      refine wpIn_label ?_
      gi_wp2_with (refine ⟨trivial, ?_⟩; gi_at_call 95; refine (parts_in _ _ _ _ _ _).mono ?_; rintro e w' ⟨rfl, rfl⟩)
      obtain ⟨W2, hW2⟩ : ∃ W2, (wr.alloc (.cells #[.string (wait m L)] 9)).alloc (.cells #[.slice o len cap] 80) = W2 := ⟨_, rfl⟩
      have hn2 := two_new wr (.cells #[.string (wait m L)] 9) (.cells #[.slice o len cap] 80)
      have hs2 : W2.heap.size = wr.heap.size + 2 := by rw [← hW2]; simp
      rw [hW2] at hn2 ⊢
      obtain ⟨e1, e2, hb2⟩ := hn2
      have hwr : w.heap.size < wr.heap.size := (Array.getElem?_eq_some_iff.1 X1.out).1
      have G2 := (hb2.block g (by omega)).trans G1.out
      have X2 := (hb2.block _ hwr).trans X1.out
      have GR2 : w.grownBy W2 (some g) := gb_below GR.out hb2 (by omega)
      have hgW2 : g < W2.heap.size := by omega
      obtain ⟨T, hT⟩ : ∃ T, a0 + offs ts len = T := ⟨_, rfl⟩
      have hA := HA0.out
      have hLL := HLL.out
      have hdiv : (L + offs ts len) / 64 = L / 64 + T / 64 := by omega
      have hmod : (L + offs ts len) % 64 = T % 64 := by omega
      have hws : (wait m L).size = a0 := by rw [wait_size, hA]
      have hcnt : ((L + offs ts len : Nat) : Int) ≤ 1099511627776 := by omega
      obtain ⟨cnt, hcn⟩ : ∃ cnt : Int, ((L + offs ts len : Nat) : Int) = cnt := ⟨_, rfl⟩
      rw [hcn] at G2
      refine range_law rfl (by omega) (gf := 103) (lb := #[.pointer (some ⟨wr.heap.size, 0, none⟩), .pointer (some ⟨wr.heap.size + 1, 0, none⟩)]) rfl trivial (enters_of Tryd.func103 (by kernel_rfl) rfl)
        (fun x : Nat × Nat => #[.slice (some ⟨x.1, 0, none⟩) x.2 64]) (fun _ => rfl) (Kc g) Kc.trans (fun W l o o' h hc => Kc.put g W l o o' h hc)
        (Yp (W2.heap.size + 2) T (fun j => m (64 * (L / 64) + j))) (fun k x W l o' hy _ hl => Yp_put o' hy hl)
        (fun k W => 64 * k ≤ T ∧ W.heap[g]? = some (.cells (sm (hs Kt iv m (L / 64 + k)) r cnt) 128 (0, 0)) ∧ W.heap[w.heap.size]? = some (.cells #[.pointer (some ⟨g, 0, none⟩)] 113 (0, 0)) ∧ w.grownBy W (some g))
        (fun W => Told Kt iv m W g (L + offs ts len) ∧ w.grownBy W (some g)) 2
        (fun k W W' h hb => ⟨h.1, (hb.block g (by omega)).trans h.2.1, (hb.block _ (by omega)).trans h.2.2.1, gb_below h.2.2.2 hb (by omega)⟩)
        (fun W W' h hb => ⟨by obtain ⟨r', h1, h2⟩ := h.1; exact ⟨r', (hb.block g (by omega)).trans h1, h2⟩, gb_below h.2 hb (by omega)⟩)
        ⟨by omega, G2, X2, GR2⟩ (fun k => T < 64 * k) (fun k W h hk => by have := h.1; omega)
        (fun x => { tmps := #[Value.pointer (some ⟨g, 0, none⟩), Value.slice o len cap,
          Value.pointer (some ⟨w.heap.size, 0, none⟩), undef, Value.string (wait m L), undef, u6, .slice (some ⟨x.1, 0, none⟩) x.2 64,
          Value.pointer (some ⟨g, 0, none⟩), Value.pointer (some ⟨g, 0, none⟩),
          Value.pointer (some ⟨g, 8, none⟩), Value.pointer (some ⟨g, 0, none⟩),
          Value.pointer (some ⟨g, 0, none⟩), Value.pointer (some ⟨g, 72, none⟩),
          Value.int IntKind.i64 (L : Int), Value.int IntKind.i64 (a0 : Int), Value.slice (some ⟨g, 8, none⟩) a0 64,
          Value.string (wait m L), Value.slice o len cap, Value.int IntKind.i64 (len : Int), Value.int IntKind.i64 (len : Int),
          Value.bool false, u22, u23, u24, u25, u26, u27, u28, u29, u30, u31, u32, u33, Value.string (wait m L),
          Value.slice o len cap,
          Value.func (Fn.func 103) #[] #[Value.pointer (some ⟨wr.heap.size, 0, none⟩), Value.pointer (some ⟨wr.heap.size + 1, 0, none⟩)],
          .slice (some ⟨x.1, 0, none⟩) x.2 64, undef, undef, undef, undef, undef, undef, undef, undef, undef, undef, undef, undef, undef, undef], defers := [] }) ?assign ?body ?iter ?stop
      case assign =>
        intro l x W K hK
        gi_wp2
        exact hK
      case iter =>
        intro l W1 hB1 hs1 R Rx hR hRx hY h0
        have hbW : Below wr.heap.size wr W1 := hb2.trans (hB1.mono (by omega))
        refine parts1_in 4 (by omega) l wr.heap.size (wr.heap.size + 1) g len cap o (wait m L) ts (fun j => m (64 * (L / 64) + j)) T W1 (by omega)
          (fun j hj => bt_wait m HM.out L j (by omega)) (fun i hi j hj => ?_) (by omega) hlen (fun i hi => ?_) ((hB1.block _ (by omega)).trans e1) ((hB1.block _ (by omega)).trans e2) (by omega) R Rx hR hRx (fun k x A hA' hy => hY k x A hA' (by rw [← hs1]; exact hy)) h0
        · rw [(HTS.out i hi).2 j hj, hws]
          congr 1
          omega
        · obtain ⟨⟨b, off, ho, hbg, hbw, hcell⟩, _⟩ := HTS.out i hi
          refine ⟨?_, b, off, ho, hbg, by have := hbW.size; omega, ?_⟩
          · have h2 := offs_mono ts (show i + 1 ≤ len from hi)
            have h3 : offs ts (i + 1) = offs ts i + (ts i).size := rfl
            omega
          · rw [← hcell]
            exact (cell_same (hbW.block b (by omega)) _).trans (cell_same (GR.out.block b hbw (by intro e; cases e; exact hbg rfl)) _)
      case body =>
        rintro l k ⟨p, c⟩ W ⟨hkT, hgW, hxW, hgrW⟩ ⟨y1, y2, y3, y4, y5, y6⟩
        have HGW : Hid _ := hgW
        have HGR : Hid (w.grownBy W (some g)) := hgrW
        have HXW : Hid _ := hxW
        have cb : W.cell? ⟨w.heap.size, 0, none⟩ = some (.pointer (some ⟨g, 0, none⟩)) := by rw [cell_of_row _ _ _ _ _ _ hxW]; rfl
        have hpg : p ≠ g := by simp at y1; omega
        have Y3 : c ≤ 64 := y3
        have Y4 : 64 * k + c ≤ T := y4
        have Y5 : c < 64 → 64 * k + c = T := y5
        have Y6 : ∀ j, j < c → W.cell? ⟨p, j, none⟩ = some (.int .u8 (m (64 * (L / 64) + (64 * k + j)))) := y6
        have Y2 : p < W.heap.size := y2
        by_cases hc : c < 64
        · have q1 : (c : Int) < 64 := by omega
          have hcr := run_copy_row (P := Tryd.prog) W 41 41 3 5 g 8 64 64 ⟨p, 0, none⟩ c 64 _ 128 (mc m (64 * (L / 64) + 64 * k) c) Tryd.underlying41 (by kernel_rfl) hgW
            (by rw [mc_length]; exact (Nat.min_eq_left Y3).symm) (fun j v hv => by
              have hj : j < c := by have := (List.getElem?_eq_some_iff.1 hv).1; rw [mc_length] at this; exact this
              rw [mc_get _ _ _ _ hj] at hv
              rw [Addr.add_lit, Nat.zero_add, Y6 j hj, ← hv, Nat.add_assoc]) (by rw [mc_length, sm_size]; omega) (fun v hv => by
              unfold mc at hv
              obtain ⟨z, _, rfl⟩ := List.mem_map.1 hv
              rfl)
          rw [mc_length, sm_copy _ _ _ _ _ _ Y3] at hcr
          have hcr' : (Builtin.copy_ #[41, 41] 3 #[.slice (some ⟨g, 8, none⟩) 64 64, .slice (some ⟨p, 0, none⟩) c 64]).run Tryd.prog W = .ok (.int .i64 (c : Int)) (W.setRow g (sm (hs Kt iv m (L / 64 + k)) (rst r m (64 * (L / 64) + 64 * k) c) cnt)) := hcr
          have HT5 := Y5 hc
          have hk1 : T / 64 = k := by omega
          have hk2 : T % 64 = c := by omega
          have FIN : Hid (Told Kt iv m (W.setRow g (sm (hs Kt iv m (L / 64 + k)) (rst r m (64 * (L / 64) + 64 * k) c) cnt)) g (L + offs ts len)) := by
            refine ⟨_, by rw [hdiv, hk1, hcn]; exact setRow_heap _ _ _ _ _ _ hgW, fun j hj => ?_⟩
            rw [hmod, hk2] at hj
            rw [hdiv, hk1]
            unfold rst
            rw [if_pos hj]
            congr 1
            omega
          have GRF : Hid (W.grownBy (W.setRow g (sm (hs Kt iv m (L / 64 + k)) (rst r m (64 * (L / 64) + 64 * k) c) cnt)) (some g)) := ⟨rfl, rfl, rfl, by rw [size_setRow]; exact Nat.le_refl _, fun j _ hne => setRow_other _ _ _ _ (by intro e; subst e; exact hne rfl)⟩
          clear hcr y1 y2 y3 y4 y5 y6 Y2 Y3 Y4 Y5 Y6 hk1 hk2 HT5 hgW hxW hgrW G2 X2 GR2 e1 e2 hb2 hs2 hdiv hmod hA hLL hT hws hcnt hcn hW2
          gi_wp2
          exact ⟨rfl, KeepsFrom.of_grownBy GRF.out (fun j e => by cases e; exact hgW2), FIN.out, gb_trans HGR.out GRF.out⟩
        · have hc64 : c = 64 := by omega
          subst hc64
          have q1 : ¬ ((64 : Nat) : Int) < 64 := by omega
          have hKW : W.heap[2]? = some (.cells (w64 Kt) tt fr) := (hgrW.block 2 h1l (by intro e; cases e; exact hg1 rfl)).trans HK.out
          have hchg := change_any Kt (fun j => m (64 * (L / 64 + k) + j)) (hs Kt iv m (L / 64 + k)) r cnt g p 64 W hKW Y2 (fun j hj => by rw [Y6 j hj]; congr 3; omega) (fun j => HM.out _) hgW
          have HCH : Hid _ := hchg
          clear y1 y2 y3 y4 y5 y6 Y2 Y3 Y5 Y6 hgW hxW hgrW G2 X2 GR2 e1 e2 hb2 hdiv hmod hA hLL hT hws hcnt hcn hW2 hKW hchg
          gi_wp2
          refine ⟨trivial, ?_⟩
          refine (CallsIn.inRound l (callsIn_wide.2 HCH.out)).mono ?_
          rintro e W3 ⟨rfl, hg3, hgr3⟩
          have G3 : Hid (W3.heap[g]? = some (.cells (sm (hs Kt iv m (L / 64 + (k + 1))) r cnt) 128 (0, 0))) := hg3
          have GR3 : Hid (W.grownBy W3 (some g)) := hgr3
          clear hg3 hgr3 HCH
          gi_wp2
          have hne : w.heap.size ≠ g := by omega
          exact ⟨KeepsFrom.of_grownBy GR3.out (fun j e => by cases e; exact hgW2), Kc.of_grown GR3.out, by omega, G3.out, (GR3.out.block _ (Array.getElem?_eq_some_iff.1 HXW.out).1 (by intro e; cases e; exact hne rfl)).trans HXW.out, gb_trans HGR.out GR3.out⟩
      case stop =>
        rintro D W hD ⟨hT', hgr'⟩ hdf
        gi_wp2
        rw [Exit.noGoto_normal]
        refine ⟨by simp, .inl ⟨_, _, rfl, run_takeDeferred hdf, ?_⟩⟩
        refine ⟨_, results_none rfl _ _ _, rfl, ?_, ?_⟩
        · obtain ⟨r', h1, h2⟩ := hT'
          exact ⟨r', (World.putObj_heap_other (by omega)).trans h1, h2⟩
        · exact gb_below hgr' (below_put W _ hD) (by omega)
end Go.Proofs.YtaoadopnhphjbaaDoor
namespace Go.Proofs.YtaoadopnhphjbaaDoor
open Go.RowKit Go.Lib
set_option maxRecDepth 100000 in
theorem zc (z : Nat) : (Builtin.zeroCells #[.int .u8 0] z).toList = List.replicate z (.int .u8 0) := by
  apply List.ext_getElem?
  intro i
  by_cases h : i < z
  · simp [Builtin.zeroCells, h, Nat.mod_one]
  · simp [Builtin.zeroCells, h]
set_option maxRecDepth 100000 in
theorem run_append_zeros (w : World) (base g n cap : Nat) (xs : List Value) (hown : w.ownsRow base 5 1 (.slice (some ⟨g, 0, none⟩) n cap) n xs) (z : Nat) (hz : z ≤ 64) (hroom : n + z ≤ cap) :
    ∃ w', (Builtin.append_ #[41, 3] 41 #[.slice (some ⟨g, 0, none⟩) n cap, .int .i64 (z : Int)]).run Tryd.prog w = .ok (.slice (some ⟨g, 0, none⟩) (n + z) cap) w' ∧
      w'.ownsRow base 5 1 (.slice (some ⟨g, 0, none⟩) (n + z) cap) (n + z) (xs ++ List.replicate z (.int .u8 0)) ∧ w.grownBy w' (some g) := by
  obtain ⟨i0, hi, hz0, hz1, hz2⟩ := info_parts info5
  have hxl : xs.length = n := by simpa using hown.1
  rcases hown.2 with ⟨hv, _⟩ | ⟨g', cap', cur, hv, hbg, hg, hnc, hcm, hcs, htake⟩
  · cases hv
  · cases hv
    have hst := run_storeCells_at (P := Tryd.prog) g n 5 (List.replicate z (.int .u8 0)) 0 cur w hg (by simp; omega) (fun v hv => by rw [(List.mem_replicate.1 hv).2]; rfl)
    simp only [Nat.add_zero, List.length_replicate] at hst
    have w64 : IntKind.i64.wrap (z : Int) = (z : Int) := by rw [IntKind.wrap_i64]; omega
    have w0 : IntKind.i64.wrap 0 = 0 := by decide
    have hb : ¬ (281474976710656 : Int) < (z : Int) := by omega
    have hr : (Builtin.append_ #[41, 3] 41 #[.slice (some ⟨g, 0, none⟩) n cap, .int .i64 (z : Int)]).run Tryd.prog w = .ok (.slice (some ⟨g, 0, none⟩) (n + z) cap) (w.setRow g (cur.toList.take n ++ List.replicate z (Value.int .u8 0) ++ cur.toList.drop (n + z)).toArray) := by
      by_cases h0 : z = 0
      · subst h0
        simp only [List.replicate_zero] at hst
        simp [Builtin.append_, run_underlying Tryd.underlying41, run_underlying Tryd.underlying3, sizeOf, typeInfo, hi, hz1, hz2, hnc, Addr.add_lit, asInt, asIntOf, w0, hst]
      · simp [Builtin.append_, run_underlying Tryd.underlying41, run_underlying Tryd.underlying3, sizeOf, typeInfo, zeroValue, hi, hz0, hz1, hz2, hroom, Addr.add_lit, asInt, asIntOf, w64, hb, h0, Value.cells, zc, hst]
        intro h
        omega
    refine ⟨_, hr, ⟨by simp [hxl], .inr ⟨g, cap, _, rfl, hbg, setRow_heap w g cur _ 5 _ hg, hroom, hcm, by simp; omega, ?_⟩⟩, ⟨rfl, rfl, rfl, by rw [size_setRow]; exact Nat.le_refl _, fun k _ hk => setRow_other w g k _ (fun e => hk (by rw [e]))⟩⟩
    have ht' : cur.toList.take n = xs := by simpa using htake
    rw [ht']
    rw [show (n + z) * 1 = (xs ++ List.replicate z (Value.int .u8 0)).length by simp [hxl]]
    exact List.take_left
set_option maxRecDepth 100000 in
theorem shr_any (X : Int) (s : Nat) (w : World) (hs : s ≤ 63) : (Op.shift BinOp.shr IntKind.u64 X IntKind.i64 (s : Int)).run Tryd.prog w = .ok (.int .u64 (X / 2 ^ s)) w := by
  have h1 : min s 64 = s := by omega
  have h2 : ¬ (s : Int) < 0 := by omega
  have h3 : X.fdiv (2 ^ s) = X / 2 ^ s := Int.fdiv_eq_ediv_of_nonneg _ (Int.pow_nonneg (by decide))
  unfold Op.shift
  rw [if_neg h2]
  show Result.ok (Value.int .u64 (X.fdiv (2 ^ (min ((s : Int)).toNat 64)))) w = _
  rw [Int.toNat_natCast, h1, h3]
set_option maxRecDepth 100000 in
/-- The built-in append, by its run. -/
theorem list_append {P : Program} {ops : Array Oper} {rest : List Oper} {o : Oper} {a : Act} {w : World} {Q : Exit → Act → World → Prop} (hgd : o.guard = none) (t u : TypeId) (s x : Operand) (ho : o.op = .call { callee := .builtin .append, args := #[s, x], argTypes := #[t, u] })
    {vs vx v' : Value} {w' : World} (hs : a.eval s = vs) (hx : a.eval x = vx) (hrun : (Builtin.append_ #[t, u] o.type #[vs, vx]).run P w = .ok v' w') (h : wpList P ops Q rest (a.put o.dst v') w') : wpList P ops Q (o :: rest) a w :=
  wpList_plain hgd fun _ hK => by
    unfold Oper.wp execOp
    simp only [ho, resolve, invoke, builtin, Sem.run_bind, Sem.run_pure, Result.andThen_ok, List.map_toArray, List.map_cons, List.map_nil, hs, hx, hrun]
    exact hK _ _ h
set_option maxRecDepth 100000 in
theorem cell_one (w : World) (v : Value) (t : TypeId) : ∀ j u, [v][j]? = some u → (w.alloc (.cells #[v] t)).cell? ((⟨w.heap.size, 0, none⟩ : Addr).add j) = some u := fun j u hj => by
  match j, hj with
  | 0, hj => rw [Addr.add_lit, cell_of_row _ _ _ _ _ _ (heap_alloc_new w _)]; simpa using hj
  | j + 1, hj => simp at hj
set_option maxRecDepth 100000 in
theorem own_alloc {A : World} {base : Nat} {e : TypeId} {v : Value} {n : Nat} {xs : List Value} (h : A.ownsRow base e 1 v n xs) (o : Obj) : (A.alloc o).ownsRow base e 1 v n xs := h.alloc o
/-- How many bytes 0 stand in a text's filling. -/
def nz (n : Nat) : Nat := (119 - n % 64) % 64
/-- The bytes of a text's filling. -/
def fil (n : Nat) : List Int := 128 :: (List.replicate (nz n) 0 ++ upto (fun j => ((n : Int) * 8) / 2 ^ (56 - 8 * j) % 256) 8)
set_option maxRecDepth 100000 in
theorem upto_succ (f : Nat → Int) (k : Nat) : upto f (k + 1) = upto f k ++ [f k] := by simp [upto, List.range_succ]
set_option maxRecDepth 100000 in
set_option maxHeartbeats 1000000 in
theorem filling_any (n : Nat) (hn : n ≤ 1099511627776) (w : World) :
    Calls Tryd.prog 97 #[.int .i64 (n : Int)] w fun e w' => e = .returned (.string (strOfNums (fil n))) ∧ Below w.heap.size w w' := by
  obtain ⟨i0, hi, hz0, hz1, hz2⟩ := info_parts info5
  have n0 : (0 : Int) ≤ (n : Int) := by omega
  have n1 : (n : Int) ≤ 1099511627776 := by omega
  obtain ⟨a, ha⟩ : ∃ a, n % 64 = a := ⟨_, rfl⟩
  have hal : a < 64 := by omega
  have d0 : (n : Int).tmod 64 = (a : Int) := by rw [Int.tmod_eq_emod_of_nonneg n0]; omega
  have d1 : (n : Int) % 64 = (a : Int) := by omega
  have a0 : (0 : Int) ≤ (a : Int) := by omega
  have a1 : (a : Int) < 64 := by omega
  obtain ⟨z, hz⟩ : ∃ z, nz n = z := ⟨_, rfl⟩
  have hzl : z < 64 := by rw [← hz]; unfold nz; omega
  have hz' : (119 - a) % 64 = z := by rw [← hz, ← ha]; rfl
  have d2 : ((119 : Int) - (a : Int)).tmod 64 = (z : Int) := by rw [Int.tmod_eq_emod_of_nonneg (by omega)]; omega
  have d3 : ((119 : Int) - (a : Int)) % 64 = (z : Int) := by omega
  have HZ : Hid (nz n = z) := hz
  have HN : Hid (n ≤ 1099511627776) := hn
  clear ha hz hz' hn
  go_enter Tryd.func97, Tryd.ntmps97
  go_wp2_with (first
    | (at_make; refine wpList_make_own _ rfl _ _ 41 rfl w.heap.size 5 i0 (.int .u8 0) 1 Tryd.underlying41 hi hz0 hz1 .i64 .i64 128 128 rfl rfl rfl (by rw [hz2]; decide) (by decide) (Nat.le_refl _) ?_; intro w2 hown2 hgrow2)
    | (at_builtin
       obtain ⟨w3, hrun3, hown3, hgrow3⟩ := run_append_fits (P := Tryd.prog) (w2.alloc (.cells #[.int .u8 128] 5)) w.heap.size 41 41 5 i0 1 Tryd.underlying41 hi hz1 w.heap.size 0 128 [] (hown2.alloc _) ⟨w2.heap.size, 0, none⟩ 1 1 [.int .u8 128] rfl (cell_one _ _ _) (fun u hu => by simp at hu; subst hu; rfl) (by decide)
       refine list_append rfl 41 41 (.tmp 11) (.tmp 12) rfl (vs := .slice (some ⟨w.heap.size, 0, none⟩) 0 128) (vx := .slice (some ⟨w2.heap.size, 0, none⟩) 1 1) rfl rfl hrun3 ?_
       have HO3 : Hid (w3.ownsRow w.heap.size 5 1 (.slice (some ⟨w.heap.size, 0, none⟩) 1 128) 1 [.int .u8 128]) := hown3
       have HB3 : Hid (Below w.heap.size w w3) := ⟨hgrow3.os.trans hgrow2.os, hgrow3.tape.trans hgrow2.tape, hgrow3.output.trans hgrow2.output, Nat.le_trans hgrow2.size (Nat.le_trans (by simp) hgrow3.size), fun k hk => (hgrow3.block k (by simp; have := hgrow2.size; omega) (by intro e; cases e; omega)).trans ((Below.heap_alloc _ _ _ (by have := hgrow2.size; omega)).trans (hgrow2.block k hk (by simp)))⟩
       clear hown3 hgrow3 hown2 hgrow2 hrun3)
    | (at_builtin
       obtain ⟨w4, hrun4, hown4, hgrow4⟩ := run_append_zeros w3 w.heap.size w.heap.size 1 128 _ HO3.out z (by omega) (by omega)
       refine list_append rfl 41 3 (.tmp 14) (.tmp 15) rfl (vs := .slice (some ⟨w.heap.size, 0, none⟩) 1 128) (vx := .int .i64 (z : Int)) rfl rfl hrun4 ?_
       have HO4 : Hid (w4.ownsRow w.heap.size 5 1 (.slice (some ⟨w.heap.size, 0, none⟩) (1 + z) 128) (1 + z) ((.int .u8 128) :: List.replicate z (.int .u8 0))) := hown4
       have HB4 : Hid (Below w.heap.size w w4) := HB3.out.trans (grown_below hgrow4 (Nat.le_refl _) HB3.out.size)
       clear hown4 hgrow4 hrun4 HO3 HB3))
  clear d0 d1 d2 d3 a0 a1 hal
  have LST : ∀ j, ((.int .u8 128) :: List.replicate z (.int .u8 0)) ++ (upto (fun j => ((n : Int) * 8) / 2 ^ (56 - 8 * j) % 256) j).map (Value.int .u8) = (128 :: (List.replicate z 0 ++ upto (fun j => ((n : Int) * 8) / 2 ^ (56 - 8 * j) % 256) j)).map (Value.int .u8) := fun j => by simp
  have HLST : Hid _ := LST
  clear LST
  go_loopw [4, 6] (fun v i wr => ∃ j : Nat, j ≤ 8 ∧ v = .slice (some ⟨w.heap.size, 0, none⟩) (1 + z + j) 128 ∧ i = .int .i64 (56 - 8 * (j : Int)) ∧ wr.ownsRow w.heap.size 5 1 (.slice (some ⟨w.heap.size, 0, none⟩) (1 + z + j) 128) (1 + z + j) (((.int .u8 128) :: List.replicate z (.int .u8 0)) ++ (upto (fun j => ((n : Int) * 8) / 2 ^ (56 - 8 * j) % 256) j).map (Value.int .u8)) ∧ Below w.heap.size w wr) (fun _ i _ => (intOf i + 8).toNat)
  case atStart => exact ⟨0, by omega, rfl, rfl, by simpa [upto] using HO4.out, HB4.out⟩
  case round =>
    clear HO4 HB4
    obtain ⟨j, hj, rfl, rfl, hown, hbl⟩ := hrel
    have HO : Hid (wr.ownsRow w.heap.size 5 1 (.slice (some ⟨w.heap.size, 0, none⟩) (1 + z + j) 128) (1 + z + j) (((.int .u8 128) :: List.replicate z (.int .u8 0)) ++ (upto (fun j => ((n : Int) * 8) / 2 ^ (56 - 8 * j) % 256) j).map (Value.int .u8))) := hown
    have HB : Hid (Below w.heap.size w wr) := hbl
    clear hown hbl
    by_cases hlt : j < 8
    · have g0 : (0 : Int) ≤ 56 - 8 * (j : Int) := by omega
      have g1 : (56 : Int) - 8 * (j : Int) ≤ 56 := by omega
      obtain ⟨w5, hrun5, hown5, hgrow5⟩ := run_append_fits (P := Tryd.prog) (wr.alloc (.cells #[.int .u8 ((n : Int) * 8 / 2 ^ (56 - 8 * j) % 256)] 5)) w.heap.size 41 41 5 i0 1 Tryd.underlying41 hi hz1 w.heap.size (1 + z + j) 128 _ (HO.out.alloc _) ⟨wr.heap.size, 0, none⟩ 1 1 [.int .u8 ((n : Int) * 8 / 2 ^ (56 - 8 * j) % 256)] rfl (cell_one _ _ _) (fun u hu => by simp at hu; subst hu; rfl) (by omega)
      have HO5 : Hid (w5.ownsRow w.heap.size 5 1 (.slice (some ⟨w.heap.size, 0, none⟩) (1 + z + (j + 1)) 128) (1 + z + (j + 1)) (((.int .u8 128) :: List.replicate z (.int .u8 0)) ++ (upto (fun j => ((n : Int) * 8) / 2 ^ (56 - 8 * j) % 256) (j + 1)).map (Value.int .u8))) := by
        rw [upto_succ, List.map_append, ← List.append_assoc]; exact hown5
      have HB5 : Hid (Below w.heap.size w w5) := (HB.out.alloc HB.out.size _).trans (grown_below hgrow5 (Nat.le_refl _) (by simp; have := HB.out.size; omega))
      clear hown5 hgrow5
      go_wp2_with (at_builtin; refine list_append rfl 41 41 (.tmp 24) (.tmp 29) rfl (vs := .slice (some ⟨w.heap.size, 0, none⟩) (1 + z + j) 128) (vx := .slice (some ⟨wr.heap.size, 0, none⟩) 1 1) rfl rfl hrun5 ?_)
      go_roundw
      case rel => exact ⟨j + 1, by omega, rfl, by go_num, HO5.out, HB5.out⟩
      case measure => simp [intOf]; omega
    · have hj8 : j = 8 := by omega
      subst hj8
      have g0 : ¬ (0 : Int) ≤ 56 - 8 * ((8 : Nat) : Int) := by decide
      have hcv : (convert 41 9 (.slice (some ⟨w.heap.size, 0, none⟩) (1 + z + 8) 128)).run Tryd.prog wr = .ok (.string (strOfNums (fil n))) wr := by
        unfold fil
        rw [HZ.out]
        refine run_convert_bytes_arg wr 41 5 Tryd.underlying41 Tryd.underlying5 w.heap.size 0 (1 + z + 8) 128 (128 :: (List.replicate z 0 ++ upto (fun j => ((n : Int) * 8) / 2 ^ (56 - 8 * j) % 256) 8)) (by simp [upto]; omega) (fun i hi => ?_) 9 Tryd.underlying9
        rw [Nat.zero_add]
        have hx := HO.out
        rw [HLST.out 8] at hx
        refine own_cell hx ?_
        rw [List.getElem?_map, List.getElem?_eq_getElem (by simp [upto]; omega)]
        simp [List.getD, List.getElem?_eq_getElem (show i < (128 :: (List.replicate z 0 ++ upto (fun j => ((n : Int) * 8) / 2 ^ (56 - 8 * j) % 256) 8)).length by simp [upto]; omega)]
      go_wp2
      go_ret
      exact ⟨rfl, HB.out⟩
end Go.Proofs.YtaoadopnhphjbaaDoor
namespace Go.Proofs.YtaoadopnhphjbaaDoor
open Go.RowKit Go.Lib
/-- A word's bytes, the greatest first. -/
def b4 (x : Int) : List Int := [x / 16777216 % 256, x / 65536 % 256, x / 256 % 256, x % 256]
/-- The bytes of the first k words. -/
def bw (f : Nat → Int) : Nat → List Int
  | 0 => []
  | k + 1 => bw f k ++ b4 (f k)
set_option maxRecDepth 100000 in
theorem bw_length (f : Nat → Int) (k : Nat) : (bw f k).length = 4 * k := by
  induction k with
  | zero => rfl
  | succ k ih => unfold bw; rw [List.length_append, ih]; simp [b4]; omega
set_option maxRecDepth 100000 in
theorem cell_four (w : World) (a b c d : Value) (t : TypeId) : ∀ j u, [a, b, c, d][j]? = some u → (w.alloc (.cells #[a, b, c, d] t)).cell? ((⟨w.heap.size, 0, none⟩ : Addr).add j) = some u := fun j u hj => by
  rw [Addr.add_lit, Nat.zero_add, cell_of_row _ _ _ _ _ _ (heap_alloc_new w _)]
  simpa using hj
set_option maxRecDepth 100000 in
set_option maxHeartbeats 1000000 in
theorem text_any (f : Nat → Int) (w : World) :
    Calls Tryd.prog 98 #[.agg (st8 f)] w fun e w' => e = .returned (.string (strOfNums (bw f 8))) ∧ Below w.heap.size w w' := by
  obtain ⟨i0, hi, hz0, hz1, hz2⟩ := info_parts info5
  have H1 : Hid ((w.alloc (.cells (st8 f) 124)).heap[w.heap.size]? = some (.cells (st8 f) 124 (0, 0))) := heap_alloc_new w _
  have B1 : Hid (Below w.heap.size w (w.alloc (.cells (st8 f) 124))) := (Below.refl _ w).alloc (Nat.le_refl _) _
  have S1 : Hid ((w.alloc (.cells (st8 f) 124)).heap.size = w.heap.size + 1) := by refine (?_ : _ = _); simp
  go_enter Tryd.func98, Tryd.ntmps98
  go_wp2_with (first
    | (at_make; refine wpList_make_own _ rfl _ _ 41 rfl (w.heap.size + 1) 5 i0 (.int .u8 0) 1 Tryd.underlying41 hi hz0 hz1 .i64 .i64 32 32 rfl rfl rfl (by rw [hz2]; decide) (by decide) (by simp) ?_; intro w2 hown2 hgrow2
       have H2 : Hid (w2.heap[w.heap.size]? = some (.cells (st8 f) 124 (0, 0))) := (hgrow2.block w.heap.size (by rw [S1.out]; omega) (by simp)).trans H1.out
       have B2 : Hid (Below w.heap.size w w2) := B1.out.grown hgrow2 (Nat.le_of_lt (by rw [S1.out]; omega)) (fun k e => by cases e)
       have O2 : Hid (w2.ownsRow (w.heap.size + 1) 5 1 (.slice (some ⟨w.heap.size + 1, 0, none⟩) 0 32) 0 []) := by rw [S1.out] at hown2; exact hown2
       clear hown2 hgrow2 H1 B1)
    | (refine wpList_load_row rfl 124 _ rfl w.heap.size rfl 124 _ (0, 0) _ H2.out Tryd.underlying124 rfl (by kernel_rfl) ?_))
  go_loopw [3, 8] (fun v i wr => ∃ k : Nat, k ≤ 8 ∧ v = .slice (some ⟨w.heap.size + 1, 0, none⟩) (4 * k) 32 ∧ i = .int .i64 (k : Int) ∧ wr.ownsRow (w.heap.size + 1) 5 1 (.slice (some ⟨w.heap.size + 1, 0, none⟩) (4 * k) 32) (4 * k) ((bw f k).map (Value.int .u8)) ∧ Below w.heap.size w wr) (fun _ i _ => 8 - (intOf i).toNat)
  case atStart => exact ⟨0, by omega, rfl, rfl, O2.out, B2.out⟩
  case round =>
    clear O2 B2 H2
    obtain ⟨k, hk, rfl, rfl, hown, hbl⟩ := hrel
    have HO : Hid (wr.ownsRow (w.heap.size + 1) 5 1 (.slice (some ⟨w.heap.size + 1, 0, none⟩) (4 * k) 32) (4 * k) ((bw f k).map (Value.int .u8))) := hown
    have HB : Hid (Below w.heap.size w wr) := hbl
    clear hown hbl
    by_cases hlt : k < 8
    · have hix := idx8 f k hlt
      have g0 : (0 : Int) ≤ (k : Int) := by omega
      have g1 : (k : Int) < 8 := by omega
      generalize hx : f k = x at *
      have HX : Hid (f k = x) := hx
      clear hx
      obtain ⟨w5, hrun5, hown5, hgrow5⟩ := run_append_fits (P := Tryd.prog) (wr.alloc (.cells #[.int .u8 (x / 16777216 % 256), .int .u8 (x / 65536 % 256), .int .u8 (x / 256 % 256), .int .u8 (x % 256)] 5)) (w.heap.size + 1) 41 41 5 i0 1 Tryd.underlying41 hi hz1 (w.heap.size + 1) (4 * k) 32 _ (HO.out.alloc _) ⟨wr.heap.size, 0, none⟩ 4 4 [.int .u8 (x / 16777216 % 256), .int .u8 (x / 65536 % 256), .int .u8 (x / 256 % 256), .int .u8 (x % 256)] rfl (cell_four _ _ _ _ _ _) (fun u hu => by simp at hu; rcases hu with rfl | rfl | rfl | rfl <;> rfl) (by omega)
      have HO5 : Hid (w5.ownsRow (w.heap.size + 1) 5 1 (.slice (some ⟨w.heap.size + 1, 0, none⟩) (4 * (k + 1)) 32) (4 * (k + 1)) ((bw f (k + 1)).map (Value.int .u8))) := by
        show w5.ownsRow (w.heap.size + 1) 5 1 (.slice (some ⟨w.heap.size + 1, 0, none⟩) (4 * k + 4) 32) (4 * k + 4) ((bw f k ++ b4 (f k)).map (Value.int .u8))
        rw [List.map_append, HX.out]; exact hown5
      have HB5 : Hid (Below w.heap.size w w5) := (HB.out.alloc HB.out.size _).trans (grown_below hgrow5 (by omega) (by simp; have := HB.out.size; omega))
      clear hown5 hgrow5
      go_wp2_with (at_builtin; refine list_append rfl 41 41 (.tmp 11) (.tmp 23) rfl (vs := .slice (some ⟨w.heap.size + 1, 0, none⟩) (4 * k) 32) (vx := .slice (some ⟨wr.heap.size, 0, none⟩) 4 4) rfl rfl hrun5 ?_)
      go_roundw
      case rel => exact ⟨k + 1, by omega, rfl, by go_num, HO5.out, HB5.out⟩
      case measure => simp [intOf]; omega
    · have hk8 : k = 8 := by omega
      subst hk8
      have hcv : (convert 41 9 (.slice (some ⟨w.heap.size + 1, 0, none⟩) (4 * 8) 32)).run Tryd.prog wr = .ok (.string (strOfNums (bw f 8))) wr := by
        refine run_convert_bytes_arg wr 41 5 Tryd.underlying41 Tryd.underlying5 (w.heap.size + 1) 0 (4 * 8) 32 (bw f 8) (by rw [bw_length]) (fun i hi => ?_) 9 Tryd.underlying9
        rw [Nat.zero_add]
        refine own_cell HO.out ?_
        rw [List.getElem?_map, List.getElem?_eq_getElem (by rw [bw_length]; exact hi)]
        simp [List.getD, List.getElem?_eq_getElem (show i < (bw f 8).length by rw [bw_length]; exact hi)]
      go_wp2
      go_ret
      exact ⟨rfl, HB.out⟩
end Go.Proofs.YtaoadopnhphjbaaDoor
namespace Go.Proofs.YtaoadopnhphjbaaDoor
open Go.RowKit
/-- A list as a function. -/
def lf (l : List Int) : Nat → Int := fun i => l.getD i 0
theorem upd_at (f : Nat → Int) (k : Nat) (x : Int) : upd f k x k = x := by simp [upd]
theorem upd_ne (f : Nat → Int) (k : Nat) (x : Int) (i : Nat) (h : i ≠ k) : upd f k x i = f i := by simp [upd, h]
theorem sw_known {f W : Nat → Int} (h0 : ∀ i, i < 16 → f i = W i) (h1 : ∀ t, t < 48 → ext W (16 + t) = W (16 + t)) : ∀ k, k ≤ 48 → ∀ i, i < 16 + k → sw f k i = W i := by
  intro k
  induction k with
  | zero => intro _ i hi; exact h0 i hi
  | succ k ih =>
    intro hk i hi
    have ih' := ih (by omega)
    show upd (sw f k) (16 + k) (ext (sw f k) (16 + k)) i = W i
    by_cases e : i = 16 + k
    · subst e
      rw [upd_at, ← h1 k (by omega)]
      unfold ext
      rw [ih' (16 + k - 16) (by omega), ih' (16 + k - 15) (by omega), ih' (16 + k - 7) (by omega), ih' (16 + k - 2) (by omega)]
    · rw [upd_ne _ _ _ _ e]; exact ih' i (by omega)
theorem stp_congr {f g : Nat → Int} (h : ∀ i, i < 8 → f i = g i) (kw : Int) : stp f kw = stp g kw := by
  have a0 := h 0 (by decide)
  have a1 := h 1 (by decide)
  have a2 := h 2 (by decide)
  have a3 := h 3 (by decide)
  have a4 := h 4 (by decide)
  have a5 := h 5 (by decide)
  have a6 := h 6 (by decide)
  have a7 := h 7 (by decide)
  funext i
  unfold stp
  split <;> simp only [T1, T2, a0, a1, a2, a3, a4, a5, a6, a7]
theorem stps_known {K W W' f : Nat → Int} {S : Nat → Nat → Int} (hW : ∀ i, i < 64 → W i = W' i) (h0 : ∀ i, i < 8 → f i = S 0 i) (h1 : ∀ k, k < 64 → ∀ i, i < 8 → stp (S k) ((K k + W' k) % 4294967296) i = S (k + 1) i) : ∀ k, k ≤ 64 → ∀ i, i < 8 → stps K W f k i = S k i := by
  intro k
  induction k with
  | zero => intro _ i hi; exact h0 i hi
  | succ k ih =>
    intro hk i hi
    show stp (stps K W f k) ((K k + W k) % 4294967296) i = S (k + 1) i
    rw [stp_congr (ih (by omega)), hW k (by omega)]
    exact h1 k (by omega) i hi
theorem chg_known {K f q W H : Nat → Int} {S : Nat → Nat → Int} (hw : ∀ i, i < 16 → rw4 q 64 i = W i) (hx : ∀ t, t < 48 → ext W (16 + t) = W (16 + t)) (h0 : ∀ i, i < 8 → f i = S 0 i)
    (hy : ∀ k, k < 64 → ∀ i, i < 8 → stp (S k) ((K k + W k) % 4294967296) i = S (k + 1) i) (hz : ∀ i, i < 8 → (f i + S 64 i) % 4294967296 = H i) : ∀ i, i < 8 → chg K f q i = H i := fun i hi => by
  unfold chg sch
  rw [stps_known (S := S) (W' := W) (fun j hj => sw_known hw hx 48 (Nat.le_refl _) j hj) h0 hy 64 (Nat.le_refl _) i hi]
  exact hz i hi
theorem rw4_congr {q q' : Nat → Int} (k : Nat) (h : ∀ j, j < k → q j = q' j) : rw4 q k = rw4 q' k := by
  induction k with
  | zero => rfl
  | succ k ih => unfold rw4; rw [ih (fun j hj => h j (by omega)), h k (by omega)]
theorem chg_congr {Kt f q q' : Nat → Int} (h : ∀ j, j < 64 → q j = q' j) : chg Kt f q = chg Kt f q' := by
  have e : sch q = sch q' := by unfold sch; rw [rw4_congr 64 h]
  unfold chg; rw [e]
def KL : List Int := [1116352408, 1899447441, 3049323471, 3921009573, 961987163, 1508970993, 2453635748, 2870763221, 3624381080, 310598401, 607225278, 1426881987, 1925078388, 2162078206, 2614888103, 3248222580, 3835390401, 4022224774, 264347078, 604807628, 770255983, 1249150122, 1555081692, 1996064986, 2554220882, 2821834349, 2952996808, 3210313671, 3336571891, 3584528711, 113926993, 338241895, 666307205, 773529912, 1294757372, 1396182291, 1695183700, 1986661051, 2177026350, 2456956037, 2730485921, 2820302411, 3259730800, 3345764771, 3516065817, 3600352804, 4094571909, 275423344, 430227734, 506948616, 659060556, 883997877, 958139571, 1322822218, 1537002063, 1747873779, 1955562222, 2024104815, 2227730452, 2361852424, 2428436474, 2756734187, 3204031479, 3329325298]
def IV : List Int := [1779033703, 3144134277, 1013904242, 2773480762, 1359893119, 2600822924, 528734635, 1541459225]
def Qabc : List Int := [97, 98, 99, 128, 0, 0, 0, 0, 0, 0, 0, 0, 0, 0, 0, 0, 0, 0, 0, 0, 0, 0, 0, 0, 0, 0, 0, 0, 0, 0, 0, 0, 0, 0, 0, 0, 0, 0, 0, 0, 0, 0, 0, 0, 0, 0, 0, 0, 0, 0, 0, 0, 0, 0, 0, 0, 0, 0, 0, 0, 0, 0, 0, 24]
def Wabc : List Int := [1633837952, 0, 0, 0, 0, 0, 0, 0, 0, 0, 0, 0, 0, 0, 0, 24, 1633837952, 983040, 2108187653, 1610613702, 1050508152, 25426944, 316456923, 3806512014, 3357629466, 3073800610, 3854317833, 845560923, 2636160359, 3968280267, 1881225380, 3552024379, 2482346367, 996719219, 2952069057, 4043988066, 176896406, 1924104970, 2483675966, 610538786, 2672279444, 4037431130, 1042573945, 657669027, 206005234, 2215296807, 2049510749, 106709978, 4215179723, 3430291419, 3118885940, 2845390439, 2226839261, 3256115900, 344409900, 2987358873, 4015503821, 3957764664, 2682456414, 2025622859, 2755645205, 1720397816, 4004225740, 313650667]
def Sabc : List (List Int) := [[1779033703, 3144134277, 1013904242, 2773480762, 1359893119, 2600822924, 528734635, 1541459225], [1567288269, 1779033703, 3144134277, 1013904242, 4197074466, 1359893119, 2600822924, 528734635], [1516951981, 1567288269, 1779033703, 3144134277, 2026797449, 4197074466, 1359893119, 2600822924], [3368241063, 1516951981, 1567288269, 1779033703, 4180228587, 2026797449, 4197074466, 1359893119], [3578852966, 3368241063, 1516951981, 1567288269, 618661968, 4180228587, 2026797449, 4197074466], [71342698, 3578852966, 3368241063, 1516951981, 1135452741, 618661968, 4180228587, 2026797449], [725748213, 71342698, 3578852966, 3368241063, 1900175533, 1135452741, 618661968, 4180228587], [3842179968, 725748213, 71342698, 3578852966, 2603066369, 1900175533, 1135452741, 618661968], [2241887071, 3842179968, 725748213, 71342698, 207977081, 2603066369, 1900175533, 1135452741], [2382687417, 2241887071, 3842179968, 725748213, 852110732, 207977081, 2603066369, 1900175533], [2357671019, 2382687417, 2241887071, 3842179968, 482944406, 852110732, 207977081, 2603066369], [1201185780, 2357671019, 2382687417, 2241887071, 1131095016, 482944406, 852110732, 207977081], [4146054569, 1201185780, 2357671019, 2382687417, 2171590377, 1131095016, 482944406, 852110732], [2274437520, 4146054569, 1201185780, 2357671019, 509051416, 2171590377, 1131095016, 482944406], [3643992854, 2274437520, 4146054569, 1201185780, 1952073950, 509051416, 2171590377, 1131095016], [3227803614, 3643992854, 2274437520, 4146054569, 194179596, 1952073950, 509051416, 2171590377], [2969183118, 3227803614, 3643992854, 2274437520, 123276749, 194179596, 1952073950, 509051416], [567974555, 2969183118, 3227803614, 3643992854, 2150900380, 123276749, 194179596, 1952073950], [3271285201, 567974555, 2969183118, 3227803614, 2221859924, 2150900380, 123276749, 194179596], [4269243327, 3271285201, 567974555, 2969183118, 3431569761, 2221859924, 2150900380, 123276749], [3790736435, 4269243327, 3271285201, 567974555, 2959311225, 3431569761, 2221859924, 2150900380], [2647034723, 3790736435, 4269243327, 3271285201, 2329577776, 2959311225, 3431569761, 2221859924], [3261099373, 2647034723, 3790736435, 4269243327, 3777329520, 2329577776, 2959311225, 3431569761], [2812502591, 3261099373, 2647034723, 3790736435, 1240797514, 3777329520, 2329577776, 2959311225], [3319086477, 2812502591, 3261099373, 2647034723, 2856829767, 1240797514, 3777329520, 2329577776], [472655928, 3319086477, 2812502591, 3261099373, 673443729, 2856829767, 1240797514, 3777329520], [3454534525, 472655928, 3319086477, 2812502591, 339230094, 673443729, 2856829767, 1240797514], [3056518332, 3454534525, 472655928, 3319086477, 3343672598, 339230094, 673443729, 2856829767], [2010346792, 3056518332, 3454534525, 472655928, 3992961016, 3343672598, 339230094, 673443729], [909411017, 2010346792, 3056518332, 3454534525, 1628611511, 3992961016, 3343672598, 339230094], [2684750640, 909411017, 2010346792, 3056518332, 2917635127, 1628611511, 3992961016, 3343672598], [3935906338, 2684750640, 909411017, 2010346792, 17410874, 2917635127, 1628611511, 3992961016], [1941126133, 3935906338, 2684750640, 909411017, 3126399250, 17410874, 2917635127, 1628611511], [2564891911, 1941126133, 3935906338, 2684750640, 2631529974, 3126399250, 17410874, 2917635127], [4267724277, 2564891911, 1941126133, 3935906338, 1495571923, 2631529974, 3126399250, 17410874], [2846323596, 4267724277, 2564891911, 1941126133, 140458035, 1495571923, 2631529974, 3126399250], [1705037796, 2846323596, 4267724277, 2564891911, 4105175766, 140458035, 1495571923, 2631529974], [1101421745, 1705037796, 2846323596, 4267724277, 124953195, 4105175766, 140458035, 1495571923], [887035396, 1101421745, 1705037796, 2846323596, 2768741693, 124953195, 4105175766, 140458035], [1841658506, 887035396, 1101421745, 1705037796, 4034403272, 2768741693, 124953195, 4105175766], [2045405306, 1841658506, 887035396, 1101421745, 519815328, 4034403272, 2768741693, 124953195], [3597076326, 2045405306, 1841658506, 887035396, 641019235, 519815328, 4034403272, 2768741693], [3745932591, 3597076326, 2045405306, 1841658506, 2206934801, 641019235, 519815328, 4034403272], [397020670, 3745932591, 3597076326, 2045405306, 3737995029, 2206934801, 641019235, 519815328], [2638983059, 397020670, 3745932591, 3597076326, 4255271982, 3737995029, 2206934801, 641019235], [643991573, 2638983059, 397020670, 3745932591, 2819559920, 4255271982, 3737995029, 2206934801], [1923828625, 643991573, 2638983059, 397020670, 3077922209, 2819559920, 4255271982, 3737995029], [2706117808, 1923828625, 643991573, 2638983059, 3581645993, 3077922209, 2819559920, 4255271982], [1098003085, 2706117808, 1923828625, 643991573, 4274981830, 3581645993, 3077922209, 2819559920], [91585771, 1098003085, 2706117808, 1923828625, 3178315832, 4274981830, 3581645993, 3077922209], [4045142696, 91585771, 1098003085, 2706117808, 1851537676, 3178315832, 4274981830, 3581645993], [2047150241, 4045142696, 91585771, 1098003085, 1391578359, 1851537676, 3178315832, 4274981830], [2288941602, 2047150241, 4045142696, 91585771, 1227037726, 1391578359, 1851537676, 3178315832], [270520975, 2288941602, 2047150241, 4045142696, 1386118400, 1227037726, 1391578359, 1851537676], [4117770203, 270520975, 2288941602, 2047150241, 2672265155, 1386118400, 1227037726, 1391578359], [1053056219, 4117770203, 270520975, 2288941602, 3842906959, 2672265155, 1386118400, 1227037726], [952932627, 1053056219, 4117770203, 270520975, 1422599787, 3842906959, 2672265155, 1386118400], [4241590395, 952932627, 1053056219, 4117770203, 2606665836, 1422599787, 3842906959, 2672265155], [3227702383, 4241590395, 952932627, 1053056219, 2118385806, 2606665836, 1422599787, 3842906959], [4290184306, 3227702383, 4241590395, 952932627, 1837350854, 2118385806, 2606665836, 1422599787], [3064893439, 4290184306, 3227702383, 4241590395, 2988158269, 1837350854, 2118385806, 2606665836], [3093179625, 3064893439, 4290184306, 3227702383, 2518632596, 2988158269, 1837350854, 2118385806], [80891244, 3093179625, 3064893439, 4290184306, 2492278198, 2518632596, 2988158269, 1837350854], [3550093669, 80891244, 3093179625, 3064893439, 4212265488, 2492278198, 2518632596, 2988158269], [1349398616, 3550093669, 80891244, 3093179625, 1593118500, 4212265488, 2492278198, 2518632596]]
def Habc : List Int := [3128432319, 2399260650, 1094795486, 1571693091, 2953011619, 2518121116, 3021012833, 4060091821]
theorem wabc : ∀ i, i < 16 → rw4 (lf Qabc) 64 i = lf Wabc i := by decide +kernel
theorem xabc : ∀ t, t < 48 → ext (lf Wabc) (16 + t) = lf Wabc (16 + t) := by decide +kernel
theorem yabc : ∀ k, k < 64 → ∀ i, i < 8 → stp (lf (Sabc.getD k [])) ((lf KL k + lf Wabc k) % 4294967296) i = lf (Sabc.getD (k + 1) []) i := by decide +kernel
theorem zabc : ∀ i, i < 8 → (lf IV i + lf (Sabc.getD 64 []) i) % 4294967296 = lf Habc i := by decide +kernel
theorem habc : ∀ i, i < 8 → chg (lf KL) (lf IV) (lf Qabc) i = lf Habc i := chg_known wabc xabc (S := fun k => lf (Sabc.getD k [])) (fun _ _ => rfl) yabc zabc
end Go.Proofs.YtaoadopnhphjbaaDoor
namespace Go.Proofs.YtaoadopnhphjbaaDoor
open Go.RowKit
theorem or_mul (a b i m : Nat) (hm : m = 2 ^ i) (h : a < m) : (b * m) ||| a = b * m + a := by
  subst hm
  rw [← Nat.shiftLeft_eq, Nat.shiftLeft_add_eq_or_of_lt h]
theorem or_comm (k : IntKind) (x y : Int) : bits .or k x y = bits .or k y x := by
  unfold bits
  simp only [BitVec.or_comm]
theorem or_add (x y : Int) (i m : Nat) (hm : m = 2 ^ i) (h0 : 0 ≤ x) (h1 : x * m < 4294967296) (h2 : 0 ≤ y) (h3 : y < m) (h4 : y < 4294967296) : bits .or .u32 (x * m) y = x * m + y := by
  obtain ⟨a, rfl⟩ := Int.eq_ofNat_of_zero_le h0
  obtain ⟨b, rfl⟩ := Int.eq_ofNat_of_zero_le h2
  have e : ((a : Int) * (m : Int)) = ((a * m : Nat) : Int) := by simp
  rw [e] at h1 ⊢
  rw [u32_or_nat (a * m) b (by omega) (by omega), or_mul b a i m hm (by omega)]
  simp
/-- The word that four bytes say. -/
def wd (q : Nat → Int) (i : Nat) : Int := q (4 * i) * 16777216 + q (4 * i + 1) * 65536 + q (4 * i + 2) * 256 + q (4 * i + 3)
/-- The word that the first so many bytes say. -/
def pw (q : Nat → Int) (k i : Nat) : Int :=
  if k ≤ 4 * i then 0 else if k = 4 * i + 1 then q (4 * i) else if k = 4 * i + 2 then q (4 * i) * 256 + q (4 * i + 1) else if k = 4 * i + 3 then q (4 * i) * 65536 + q (4 * i + 1) * 256 + q (4 * i + 2) else wd q i
theorem pw_step (q : Nat → Int) (hq : ∀ j, 0 ≤ q j ∧ q j < 256) (k : Nat) : bits .or .u32 (pw q k (k / 4) * 256 % 4294967296) (q k) = pw q (k + 1) (k / 4) := by
  obtain ⟨a, ha⟩ : ∃ a, k / 4 = a := ⟨_, rfl⟩
  rw [ha]
  have q0 := hq (4 * a)
  have q1 := hq (4 * a + 1)
  have q2 := hq (4 * a + 2)
  have q3 := hq (4 * a + 3)
  have hk : k = 4 * a ∨ k = 4 * a + 1 ∨ k = 4 * a + 2 ∨ k = 4 * a + 3 := by omega
  have B : ∀ x y : Int, 0 ≤ x → x * 256 < 4294967296 → 0 ≤ y → y < 256 → bits .or .u32 (x * 256 % 4294967296) y = x * 256 + y := fun x y h0 h1 h2 h3 => by
    rw [Int.emod_eq_of_lt (by omega) h1]
    exact or_add x y 8 256 (by decide) h0 h1 h2 h3 (by omega)
  have P0 : pw q (4 * a) a = 0 := by unfold pw; rw [if_pos (by omega)]
  have P1 : pw q (4 * a + 1) a = q (4 * a) := by unfold pw; rw [if_neg (by omega), if_pos rfl]
  have P2 : pw q (4 * a + 2) a = q (4 * a) * 256 + q (4 * a + 1) := by unfold pw; rw [if_neg (by omega), if_neg (by omega), if_pos rfl]
  have P3 : pw q (4 * a + 3) a = q (4 * a) * 65536 + q (4 * a + 1) * 256 + q (4 * a + 2) := by unfold pw; rw [if_neg (by omega), if_neg (by omega), if_neg (by omega), if_pos rfl]
  have P4 : pw q (4 * a + 4) a = wd q a := by unfold pw; rw [if_neg (by omega), if_neg (by omega), if_neg (by omega), if_neg (by omega)]
  rcases hk with rfl | rfl | rfl | rfl
  · rw [P0, P1, B _ _ (by omega) (by omega) (by omega) (by omega)]; omega
  · rw [P1, P2, B _ _ (by omega) (by omega) (by omega) (by omega)]
  · rw [P2, P3, B _ _ (by omega) (by omega) (by omega) (by omega)]; omega
  · rw [P3, P4, B _ _ (by omega) (by omega) (by omega) (by omega)]; unfold wd; omega
theorem rw4_pw (q : Nat → Int) (hq : ∀ j, 0 ≤ q j ∧ q j < 256) (k : Nat) : ∀ i, rw4 q k i = pw q k i := by
  induction k with
  | zero => intro i; simp [rw4, pw]
  | succ k ih =>
    intro i
    show upd (rw4 q k) (k / 4) (bits .or .u32 (rw4 q k (k / 4) * 256 % 4294967296) (q k)) i = _
    by_cases e : i = k / 4
    · subst e
      rw [upd_at, ih, pw_step q hq]
    · rw [upd_ne _ _ _ _ e, ih]
      unfold pw
      by_cases h1 : k ≤ 4 * i
      · have : k + 1 ≤ 4 * i := by omega
        simp [h1, this]
      · rw [if_neg h1, if_neg (by omega), if_neg (by omega), if_neg (by omega), if_neg (by omega), if_neg (by omega), if_neg (by omega), if_neg (by omega)]
/-- The first sixteen words are what the bytes say. -/
theorem rw4_wd (q : Nat → Int) (hq : ∀ j, 0 ≤ q j ∧ q j < 256) (i : Nat) (hi : i < 16) : rw4 q 64 i = wd q i := by
  rw [rw4_pw q hq]
  unfold pw
  rw [if_neg (by omega), if_neg (by omega), if_neg (by omega)]
  by_cases h : 64 = 4 * i + 3
  · omega
  · rw [if_neg h]
end Go.Proofs.YtaoadopnhphjbaaDoor
namespace Go.Proofs.YtaoadopnhphjbaaDoor
open Go.RowKit
theorem hs_congr {Kt iv m m' : Nat → Int} (k : Nat) (h : ∀ j, j < 64 * k → m j = m' j) : hs Kt iv m k = hs Kt iv m' k := by
  induction k with
  | zero => rfl
  | succ k ih => unfold hs; rw [ih (fun j hj => h j (by omega)), chg_congr (q' := fun j => m' (64 * k + j)) (fun j hj => h _ (by omega))]
theorem fil_length (n : Nat) : (fil n).length = 9 + nz n := by simp [fil, upto]; omega
theorem fil_whole (n : Nat) : (n + (fil n).length) % 64 = 0 := by rw [fil_length]; unfold nz; omega
theorem fil_le (n : Nat) : (fil n).length ≤ 72 := by rw [fil_length]; unfold nz; omega
theorem fil_byte (n j : Nat) : 0 ≤ (fil n).getD j 0 ∧ (fil n).getD j 0 < 256 := by
  have hall : ∀ x ∈ fil n, 0 ≤ x ∧ x < 256 := by
    intro x hx
    unfold fil at hx
    rcases List.mem_cons.1 hx with rfl | hx
    · decide
    · rcases List.mem_append.1 hx with hx | hx
      · rw [(List.mem_replicate.1 hx).2]; decide
      · obtain ⟨j, _, rfl⟩ := List.mem_map.1 hx
        exact ⟨Int.emod_nonneg _ (by decide), Int.emod_lt_of_pos _ (by decide)⟩
  rw [List.getD_eq_getElem?_getD]
  by_cases h : j < (fil n).length
  · rw [List.getElem?_eq_getElem h]; exact hall _ (List.getElem_mem h)
  · rw [List.getElem?_eq_none (by omega)]; decide
/-- A filled message: its first L bytes, and the filling behind. -/
def mf (m : Nat → Int) (L : Nat) : Nat → Int := fun j => if j < L then m j else (fil L).getD (j - L) 0
theorem mf_byte {m : Nat → Int} (hm : ∀ j, 0 ≤ m j ∧ m j < 256) (L j : Nat) : 0 ≤ mf m L j ∧ mf m L j < 256 := by
  unfold mf
  split
  · exact hm j
  · exact fil_byte _ _
theorem mf_congr {m m' : Nat → Int} {L : Nat} (h : ∀ j, j < L → m j = m' j) : mf m L = mf m' L := by
  funext j
  unfold mf
  split
  · rename_i hj; exact h j hj
  · rfl
/-- The sum of a message's first L bytes. -/
def dig (Kt iv m : Nat → Int) (L : Nat) : List Int := bw (hs Kt iv (mf m L) ((L + (fil L).length) / 64)) 8
theorem dig_congr {Kt iv m m' : Nat → Int} {L : Nat} (h : ∀ j, j < L → m j = m' j) : dig Kt iv m L = dig Kt iv m' L := by
  unfold dig; rw [mf_congr h]
theorem dig_length (Kt iv m : Nat → Int) (L : Nat) : (dig Kt iv m L).length = 32 := by unfold dig; rw [bw_length]
theorem bw_congr {f g : Nat → Int} (k : Nat) (h : ∀ i, i < k → f i = g i) : bw f k = bw g k := by
  induction k with
  | zero => rfl
  | succ k ih => unfold bw; rw [ih (fun i hi => h i (by omega)), h k (by omega)]
/-- The bytes of a told message do not hang on what is behind it. -/
theorem Told.congr {Kt iv m m' : Nat → Int} {W : World} {g L : Nat} (ht : Told Kt iv m W g L) (h : ∀ j, j < L → m j = m' j) : Told Kt iv m' W g L := by
  obtain ⟨r, h1, h2⟩ := ht
  refine ⟨r, ?_, fun j hj => (h2 j hj).trans (h _ (by omega))⟩
  rw [← hs_congr (L / 64) (fun j hj => h j (by omega))]; exact h1
/-- What three letters' bytes are. -/
def abc : Nat → Int := lf [97, 98, 99]
theorem abc_mf : ∀ j, j < 64 → mf abc 3 j = lf Qabc j := by decide +kernel
theorem abc_dig : dig (lf KL) (lf IV) abc 3 = bw (lf Habc) 8 := by
  unfold dig
  have e : (3 + (fil 3).length) / 64 = 1 := by rw [fil_length]; decide
  rw [e]
  refine bw_congr 8 fun i hi => ?_
  show chg (lf KL) (lf IV) (fun j => mf abc 3 (64 * 0 + j)) i = _
  rw [chg_congr (q' := lf Qabc) (fun j hj => by rw [Nat.mul_zero, Nat.zero_add]; exact abc_mf j hj)]
  exact habc i hi
end Go.Proofs.YtaoadopnhphjbaaDoor
namespace Go.Proofs.YtaoadopnhphjbaaDoor
open Go.RowKit
/-- A word, turned right. -/
def tr (n x : Int) : Int := bits .or .u32 (x / 2 ^ n.toNat) (x * 2 ^ (32 - n).toNat % 4294967296)
/-- The turns that are asked for. -/
def trOk (n : Int) : Prop := n = 2 ∨ n = 6 ∨ n = 7 ∨ n = 11 ∨ n = 13 ∨ n = 17 ∨ n = 18 ∨ n = 19 ∨ n = 22 ∨ n = 25
set_option maxRecDepth 100000 in
theorem tr_2 (x : Int) : tr 2 x = t2 x := by
  unfold tr t2
  rw [or_comm]
  rfl
set_option maxRecDepth 100000 in
theorem turned2 (x : Int) (w : World) : Calls Tryd.prog 87 #[.int .u32 x, .int .i64 2] w fun e w' => e = .returned (.int .u32 (tr 2 x)) ∧ ∃ q, w' = w.drewN q := by
  rw [tr_2]
  unfold t2
  rw [or_comm]
  go_enter Tryd.func87, Tryd.ntmps87
  go_wp2_with fail
  go_quiet (fail)
  go_wp2_with fail
  go_ret
  exact ⟨rfl, _, rfl⟩
set_option maxRecDepth 100000 in
theorem tr_6 (x : Int) : tr 6 x = t6 x := by
  unfold tr t6
  rw [or_comm]
  rfl
set_option maxRecDepth 100000 in
theorem turned6 (x : Int) (w : World) : Calls Tryd.prog 87 #[.int .u32 x, .int .i64 6] w fun e w' => e = .returned (.int .u32 (tr 6 x)) ∧ ∃ q, w' = w.drewN q := by
  rw [tr_6]
  unfold t6
  rw [or_comm]
  go_enter Tryd.func87, Tryd.ntmps87
  go_wp2_with fail
  go_quiet (fail)
  go_wp2_with fail
  go_ret
  exact ⟨rfl, _, rfl⟩
set_option maxRecDepth 100000 in
theorem tr_7 (x : Int) : tr 7 x = t7 x := by
  unfold tr t7
  rw [or_comm]
  rfl
set_option maxRecDepth 100000 in
theorem turned7 (x : Int) (w : World) : Calls Tryd.prog 87 #[.int .u32 x, .int .i64 7] w fun e w' => e = .returned (.int .u32 (tr 7 x)) ∧ ∃ q, w' = w.drewN q := by
  rw [tr_7]
  unfold t7
  rw [or_comm]
  go_enter Tryd.func87, Tryd.ntmps87
  go_wp2_with fail
  go_quiet (fail)
  go_wp2_with fail
  go_ret
  exact ⟨rfl, _, rfl⟩
set_option maxRecDepth 100000 in
theorem tr_11 (x : Int) : tr 11 x = t11 x := by
  unfold tr t11
  rw [or_comm]
  rfl
set_option maxRecDepth 100000 in
theorem turned11 (x : Int) (w : World) : Calls Tryd.prog 87 #[.int .u32 x, .int .i64 11] w fun e w' => e = .returned (.int .u32 (tr 11 x)) ∧ ∃ q, w' = w.drewN q := by
  rw [tr_11]
  unfold t11
  rw [or_comm]
  go_enter Tryd.func87, Tryd.ntmps87
  go_wp2_with fail
  go_quiet (fail)
  go_wp2_with fail
  go_ret
  exact ⟨rfl, _, rfl⟩
set_option maxRecDepth 100000 in
theorem tr_13 (x : Int) : tr 13 x = t13 x := by
  unfold tr t13
  rw [or_comm]
  rfl
set_option maxRecDepth 100000 in
theorem turned13 (x : Int) (w : World) : Calls Tryd.prog 87 #[.int .u32 x, .int .i64 13] w fun e w' => e = .returned (.int .u32 (tr 13 x)) ∧ ∃ q, w' = w.drewN q := by
  rw [tr_13]
  unfold t13
  rw [or_comm]
  go_enter Tryd.func87, Tryd.ntmps87
  go_wp2_with fail
  go_quiet (fail)
  go_wp2_with fail
  go_ret
  exact ⟨rfl, _, rfl⟩
set_option maxRecDepth 100000 in
theorem tr_17 (x : Int) : tr 17 x = t17 x := by
  unfold tr t17
  rw [or_comm]
  rfl
set_option maxRecDepth 100000 in
theorem turned17 (x : Int) (w : World) : Calls Tryd.prog 87 #[.int .u32 x, .int .i64 17] w fun e w' => e = .returned (.int .u32 (tr 17 x)) ∧ ∃ q, w' = w.drewN q := by
  rw [tr_17]
  unfold t17
  rw [or_comm]
  go_enter Tryd.func87, Tryd.ntmps87
  go_wp2_with fail
  go_quiet (fail)
  go_wp2_with fail
  go_ret
  exact ⟨rfl, _, rfl⟩
set_option maxRecDepth 100000 in
theorem tr_18 (x : Int) : tr 18 x = t18 x := by
  unfold tr t18
  rw [or_comm]
  rfl
set_option maxRecDepth 100000 in
theorem turned18 (x : Int) (w : World) : Calls Tryd.prog 87 #[.int .u32 x, .int .i64 18] w fun e w' => e = .returned (.int .u32 (tr 18 x)) ∧ ∃ q, w' = w.drewN q := by
  rw [tr_18]
  unfold t18
  rw [or_comm]
  go_enter Tryd.func87, Tryd.ntmps87
  go_wp2_with fail
  go_quiet (fail)
  go_wp2_with fail
  go_ret
  exact ⟨rfl, _, rfl⟩
set_option maxRecDepth 100000 in
theorem tr_19 (x : Int) : tr 19 x = t19 x := by
  unfold tr t19
  rw [or_comm]
  rfl
set_option maxRecDepth 100000 in
theorem turned19 (x : Int) (w : World) : Calls Tryd.prog 87 #[.int .u32 x, .int .i64 19] w fun e w' => e = .returned (.int .u32 (tr 19 x)) ∧ ∃ q, w' = w.drewN q := by
  rw [tr_19]
  unfold t19
  rw [or_comm]
  go_enter Tryd.func87, Tryd.ntmps87
  go_wp2_with fail
  go_quiet (fail)
  go_wp2_with fail
  go_ret
  exact ⟨rfl, _, rfl⟩
set_option maxRecDepth 100000 in
theorem tr_22 (x : Int) : tr 22 x = t22 x := by
  unfold tr t22
  rw [or_comm]
  rfl
set_option maxRecDepth 100000 in
theorem turned22 (x : Int) (w : World) : Calls Tryd.prog 87 #[.int .u32 x, .int .i64 22] w fun e w' => e = .returned (.int .u32 (tr 22 x)) ∧ ∃ q, w' = w.drewN q := by
  rw [tr_22]
  unfold t22
  rw [or_comm]
  go_enter Tryd.func87, Tryd.ntmps87
  go_wp2_with fail
  go_quiet (fail)
  go_wp2_with fail
  go_ret
  exact ⟨rfl, _, rfl⟩
set_option maxRecDepth 100000 in
theorem tr_25 (x : Int) : tr 25 x = t25 x := by
  unfold tr t25
  rw [or_comm]
  rfl
set_option maxRecDepth 100000 in
theorem turned25 (x : Int) (w : World) : Calls Tryd.prog 87 #[.int .u32 x, .int .i64 25] w fun e w' => e = .returned (.int .u32 (tr 25 x)) ∧ ∃ q, w' = w.drewN q := by
  rw [tr_25]
  unfold t25
  rw [or_comm]
  go_enter Tryd.func87, Tryd.ntmps87
  go_wp2_with fail
  go_quiet (fail)
  go_wp2_with fail
  go_ret
  exact ⟨rfl, _, rfl⟩
set_option maxRecDepth 100000 in
theorem turned_any (n x : Int) (hn : trOk n) (w : World) : Calls Tryd.prog 87 #[.int .u32 x, .int .i64 n] w fun e w' => e = .returned (.int .u32 (tr n x)) ∧ ∃ q, w' = w.drewN q := by
  rcases hn with rfl | rfl | rfl | rfl | rfl | rfl | rfl | rfl | rfl | rfl
  · exact turned2 x w
  · exact turned6 x w
  · exact turned7 x w
  · exact turned11 x w
  · exact turned13 x w
  · exact turned17 x w
  · exact turned18 x w
  · exact turned19 x w
  · exact turned22 x w
  · exact turned25 x w
end Go.Proofs.YtaoadopnhphjbaaDoor
namespace Go.Proofs.YtaoadopnhphjbaaDoor
open Go.RowKit Go.Lib
set_option maxRecDepth 100000 in
theorem begin_any (w : World) : Calls Tryd.prog 94 #[] w fun e w' => e = .returned (.agg (st8 (lf IV))) ∧ Below w.heap.size w w' := by
  go_enter Tryd.func94, Tryd.ntmps94
  obtain ⟨W2, hW2, r2, b2, s2⟩ := new_row w #[.int .u32 0, .int .u32 0, .int .u32 0, .int .u32 0, .int .u32 0, .int .u32 0, .int .u32 0, .int .u32 0] 124 (st8 (lf IV))
  have E2 : Hid _ := hW2
  have R2 : Hid _ := r2
  have B2 : Hid _ := b2
  clear hW2 r2 b2 s2
  go_wp2_with (refine wpList_store_row rfl 124 _ _ rfl w.heap.size (st8 (lf IV)) rfl rfl 124 _ (heap_alloc_new w _) (by kernel_rfl) rfl (st8_one _) ?_; rw [E2.out])
  refine bodyPost_ret (results_cell_row Tryd.results94 _ _ w.heap.size 124 _ (0, 0) _ rfl R2.out Tryd.underlying124 rfl (by kernel_rfl)) rfl ⟨rfl, B2.out⟩
set_option maxRecDepth 100000 in
/-- The operation build, by its run. -/
theorem list_build {P : Program} {ops : Array Oper} {rest : List Oper} {o : Oper} {a : Act} {w : World} {Q : Exit → Act → World → Prop} (hgd : o.guard = none) (t : TypeId) (i : Nat) (x : Operand) (ho : o.op = .build t #[(i, x)])
    {vx v' : Value} (hx : a.eval x = vx) (hrun : (Instr.build t #[(i, vx)]).run P w = .ok v' w) (h : wpList P ops Q rest (a.put o.dst v') w) : wpList P ops Q (o :: rest) a w :=
  wpList_plain hgd fun _ hK => by
    unfold Oper.wp execOp
    simp only [ho, Sem.run_bind, Sem.run_pure, Result.andThen_ok, List.map_toArray, List.map_cons, List.map_nil, hx, hrun]
    exact hK _ _ h
set_option maxRecDepth 100000 in
theorem list_box {P : Program} {ops : Array Oper} {rest : List Oper} {o : Oper} {a : Act} {w : World} {Q : Exit → Act → World → Prop} (hgd : o.guard = none) (t : TypeId) (x : Operand) (ho : o.op = .box t x)
    {vx v' : Value} {w' : World} (hx : a.eval x = vx) (hrun : (Instr.box t vx).run P w = .ok v' w') (h : wpList P ops Q rest (a.put o.dst v') w') : wpList P ops Q (o :: rest) a w :=
  wpList_plain hgd fun _ hK => by
    unfold Oper.wp execOp
    simp only [ho, Sem.run_bind, Sem.run_pure, Result.andThen_ok, hx, hrun]
    exact hK _ _ h
set_option maxRecDepth 100000 in
theorem run_build (f : Nat → Int) (w : World) : (Instr.build 128 #[(0, .agg (st8 f))]).run Tryd.prog w = .ok (.agg (sm f (fun _ => 0) 0)) w := by kernel_rfl
set_option maxRecDepth 100000 in
theorem run_box (f r : Nat → Int) (c : Int) (w : World) : (Instr.box 128 (.agg (sm f r c))).run Tryd.prog w = .ok (.pointer (some ⟨w.heap.size, 0, none⟩)) (w.alloc (.cells (sm f r c) 128)) := by kernel_rfl
set_option maxRecDepth 100000 in
theorem new_any (w : World) : Calls Tryd.prog 84 #[] w fun e w' => ∃ g, w.heap.size ≤ g ∧ e = .returned (.pointer (some ⟨g, 0, none⟩)) ∧ w'.heap[g]? = some (.cells (sm (lf IV) (fun _ => 0) 0) 128 (0, 0)) ∧ Below w.heap.size w w' := by
  have BA := begin_any
  generalize lf IV = f at *
  go_enter Tryd.func84, Tryd.ntmps84
  go_wp2_with fail
  refine (BA _).mono ?_
  rintro e w' ⟨rfl, hb⟩
  rename_i hK
  refine hK _ _ ?_
  refine list_build rfl 128 0 (.tmp 1) rfl (vx := .agg (st8 f)) rfl (run_build f w') ?_
  refine list_box rfl 128 (.tmp 2) rfl (vx := .agg (sm f (fun _ => 0) 0)) rfl (run_box f _ 0 w') ?_
  have F1 : Hid ((w'.alloc (.cells (sm f (fun _ => 0) 0) 128)).heap[w'.heap.size]? = some (.cells (sm f (fun _ => 0) 0) 128 (0, 0))) := heap_alloc_new w' _
  have F2 : Hid (Below w.heap.size w (w'.alloc (.cells (sm f (fun _ => 0) 0) 128))) := hb.alloc hb.size _
  have F3 : Hid (w.heap.size ≤ w'.heap.size) := hb.size
  generalize w'.alloc (.cells (sm f (fun _ => 0) 0) 128) = W at *
  generalize w'.heap.size = g at *
  clear hK
  go_wp2_with fail
  go_ret
  exact ⟨_, F3.out, rfl, F1.out, F2.out⟩
end Go.Proofs.YtaoadopnhphjbaaDoor
namespace Go.Proofs.YtaoadopnhphjbaaDoor
open Go.RowKit Go.Lib
set_option maxRecDepth 100000 in
theorem bt_nums (l : List Int) (h : ∀ j, 0 ≤ l.getD j 0 ∧ l.getD j 0 < 256) (j : Nat) (hj : j < l.length) : bt (strOfNums l) j = l.getD j 0 := by
  have := h j
  rw [List.getD_eq_getElem?_getD] at this ⊢
  unfold bt strOfNums
  rw [List.getElem?_eq_getElem hj] at this ⊢
  simp only [Option.getD_some] at this ⊢
  simp only [List.getElem?_toArray, List.getElem?_map, List.getElem?_eq_getElem hj, Option.map_some, Option.getD_some]
  rw [UInt8.toNat_ofNat']
  omega
set_option maxRecDepth 100000 in
theorem lay_one (Kt iv m : Nat → Int) (hm : ∀ j, 0 ≤ m j ∧ m j < 256) (g L : Nat) (s : ByteArray) (w : World) (t : TypeId) {tt : TypeId} {fr : Nat × Nat} (hK : w.heap[2]? = some (.cells (w64 Kt) tt fr)) (hg1 : g ≠ 2)
    (hL : L + s.size ≤ 1099511627776) (ht : Told Kt iv m w g L) (hb : ∀ j, j < s.size → bt s j = m (L + j)) :
    Calls Tryd.prog 85 #[.pointer (some ⟨g, 0, none⟩), .slice (some ⟨w.heap.size, 0, none⟩) 1 1] (w.alloc (.cells #[.string s] t)) fun e w' => e = .returned (.tuple #[]) ∧ Told Kt iv m w' g (L + s.size) ∧ w.grownBy w' (some g) := by
  have hgl : g < w.heap.size := by obtain ⟨r, h1, _⟩ := ht; exact (Array.getElem?_eq_some_iff.1 h1).1
  have h1l : 2 < w.heap.size := (Array.getElem?_eq_some_iff.1 hK).1
  have hbl : Below w.heap.size w (w.alloc (.cells #[.string s] t)) := (Below.refl _ w).alloc (Nat.le_refl _) _
  refine (callsIn_wide.1 (lay_in Kt iv m hm g L 1 1 (some ⟨w.heap.size, 0, none⟩) (fun _ => s) (w.alloc (.cells #[.string s] t)) ((hbl.block 2 h1l).trans hK) hg1 (by simpa [offs] using hL) (by decide) (by obtain ⟨r, h1, h2⟩ := ht; exact ⟨r, (hbl.block g hgl).trans h1, h2⟩) ?_)).mono ?_
  · intro i hi
    obtain rfl : i = 0 := by omega
    exact ⟨⟨w.heap.size, 0, rfl, by omega, by simp, by rw [cell_of_row _ _ _ _ _ _ (heap_alloc_new w _)]; rfl⟩, fun j hj => by simpa [offs] using hb j hj⟩
  · rintro e w' ⟨rfl, h1, h2⟩
    refine ⟨rfl, by simpa [offs] using h1, ⟨h2.os, h2.tape, h2.output, Nat.le_trans (by simp) h2.size, fun k hk hne => (h2.block k (by simp; omega) hne).trans (hbl.block k hk)⟩⟩
set_option maxRecDepth 100000 in
theorem Told.below {Kt iv m : Nat → Int} {W W' : World} {g L B : Nat} (ht : Told Kt iv m W g L) (hb : Below B W W') (hg : g < B) : Told Kt iv m W' g L := by
  obtain ⟨r, h1, h2⟩ := ht
  exact ⟨r, (hb.block g hg).trans h1, h2⟩
set_option maxRecDepth 100000 in
theorem sm_one (f r : Nat → Int) (c : Int) : (sm f r c).all (·.oneCell') = true := by
  rw [Array.all_eq_true]
  intro i hi
  simp only [sm, Array.getElem_ofFn]
  split
  · rfl
  · split <;> rfl
set_option maxRecDepth 100000 in
/-- What the filling does to a copy. -/
theorem lay_fil (Kt iv m : Nat → Int) (hm : ∀ j, 0 ≤ m j ∧ m j < 256) (g L : Nat) (w : World) (t : TypeId) {tt : TypeId} {fr : Nat × Nat} (hK : w.heap[2]? = some (.cells (w64 Kt) tt fr)) (hg1 : g ≠ 2)
    (hL : L ≤ 1000000000000) (ht : Told Kt iv m w g L) :
    Calls Tryd.prog 85 #[.pointer (some ⟨g, 0, none⟩), .slice (some ⟨w.heap.size, 0, none⟩) 1 1] (w.alloc (.cells #[.string (strOfNums (fil L))] t)) fun e w' => e = .returned (.tuple #[]) ∧ (∃ r c, w'.heap[g]? = some (.cells (sm (hs Kt iv (mf m L) ((L + (fil L).length) / 64)) r c) 128 (0, 0))) ∧ w.grownBy w' (some g) := by
  have hsz : (strOfNums (fil L)).size = (fil L).length := strOfNums_size _
  have hle := fil_le L
  refine (lay_one Kt iv (mf m L) (mf_byte hm L) g L (strOfNums (fil L)) w t hK hg1 (by omega) (ht.congr fun j hj => by simp [mf, hj]) fun j hj => ?_).mono ?_
  · rw [bt_nums _ (fil_byte L) j (by omega)]
    unfold mf
    rw [if_neg (by omega), show L + j - L = j by omega]
  · rintro e w' ⟨rfl, ⟨r, h1, _⟩, h2⟩
    rw [hsz] at h1
    exact ⟨rfl, ⟨r, _, h1⟩, h2⟩
set_option maxRecDepth 100000 in
/-- The operation alloc, by its run. -/
theorem list_alloc {P : Program} {ops : Array Oper} {rest : List Oper} {o : Oper} {a : Act} {w : World} {Q : Exit → Act → World → Prop} (hgd : o.guard = none) (t : TypeId) (ho : o.op = .alloc t)
    {v' : Value} {w' : World} (hrun : (Instr.alloc t true (.tuple #[])).run P w = .ok v' w') (h : wpList P ops Q rest (a.put o.dst v') w') : wpList P ops Q (o :: rest) a w :=
  wpList_plain hgd fun _ hK => by
    unfold Oper.wp execOp
    simp only [ho, Sem.run_bind, Sem.run_pure, Result.andThen_ok, hrun]
    exact hK _ _ h
set_option maxRecDepth 100000 in
theorem run_alloc (w : World) : (Instr.alloc 128 true (.tuple #[])).run Tryd.prog w = .ok (.pointer (some ⟨w.heap.size, 0, none⟩)) (w.alloc (.cells (sm (fun _ => 0) (fun _ => 0) 0) 128)) := by kernel_rfl
set_option maxRecDepth 100000 in
set_option maxHeartbeats 1000000 in
theorem sum_any (Kt iv m : Nat → Int) (hm : ∀ j, 0 ≤ m j ∧ m j < 256) (g L : Nat) (w : World) {tt : TypeId} {fr : Nat × Nat} (hK : w.heap[2]? = some (.cells (w64 Kt) tt fr))
    (hL : L ≤ 1000000000000) (ht : Told Kt iv m w g L) :
    Calls Tryd.prog 86 #[.pointer (some ⟨g, 0, none⟩)] w fun e w' => e = .returned (.string (strOfNums (dig Kt iv m L))) ∧ Below w.heap.size w w' := by
  have h1l : 2 < w.heap.size := (Array.getElem?_eq_some_iff.1 hK).1
  obtain ⟨r, h1, h2⟩ := ht
  have hgl : g < w.heap.size := (Array.getElem?_eq_some_iff.1 h1).1
  obtain ⟨f, hf⟩ : ∃ f, hs Kt iv m (L / 64) = f := ⟨_, rfl⟩
  have H1 : Hid (w.heap[g]? = some (.cells (sm f r (L : Int)) 128 (0, 0))) := by rw [← hf]; exact h1
  have H2 : Hid (∀ j, j < L % 64 → r j = m (64 * (L / 64) + j)) := h2
  have HF : Hid (hs Kt iv m (L / 64) = f) := hf
  have HK : Hid (w.heap[2]? = some (.cells (w64 Kt) tt fr)) := hK
  have HM : Hid (∀ j, 0 ≤ m j ∧ m j < 256) := hm
  clear h1 h2 hf hK hm
  have z0 : (0 : Int) ≤ (L : Int) := by omega
  go_enter Tryd.func86, Tryd.ntmps86
  obtain ⟨W2, hW2, r2, b2, s2⟩ := new_row w (sm (fun _ => 0) (fun _ => 0) 0) 128 (sm f r (L : Int))
  have E2 : Hid _ := hW2
  have R2 : Hid (W2.heap[w.heap.size]? = some (.cells (sm f r (L : Int)) 128 (0, 0))) := r2
  have B2 : Hid (Below w.heap.size w W2) := b2
  have S2 : Hid (W2.heap.size = w.heap.size + 1) := s2
  clear hW2 r2 b2 s2
  go_wp2_with (first
    | (refine wpList_load_row rfl 128 _ rfl g rfl 128 _ (0, 0) _ H1.out Tryd.underlying128 rfl (by rw [sm_size]; kernel_rfl) ?_
       refine list_alloc rfl 128 rfl (run_alloc w) ?_
       refine wpList_store_row rfl 128 _ _ rfl w.heap.size (sm f r (L : Int)) rfl rfl 128 _ (heap_alloc_new w _) (by rw [sm_size]; kernel_rfl) (by rw [sm_size, sm_size]) (sm_one _ _ _) ?_
       rw [E2.out]
       have cc : W2.cell? ⟨g, 72, none⟩ = some (.int .i64 (L : Int)) := by rw [cell_of_row _ _ _ _ _ _ ((B2.out.block g hgl).trans H1.out), sm_c]))
  refine (filling_any L (by omega) W2).mono ?_
  rintro e W3 ⟨rfl, b3⟩
  have hs2 := S2.out
  have hsz3 : w.heap.size + 1 ≤ W3.heap.size := by have := b3.size; omega
  have B3 : Hid (Below w.heap.size w W3) := B2.out.trans (b3.mono (by omega))
  have T3 : Hid (Told Kt iv m W3 w.heap.size L) := ⟨r, by rw [HF.out]; exact (b3.block _ (by omega)).trans R2.out, H2.out⟩
  have LF : ∀ t, Hid (Calls Tryd.prog 85 #[.pointer (some ⟨w.heap.size, 0, none⟩), .slice (some ⟨W3.heap.size, 0, none⟩) 1 1] (W3.alloc (.cells #[.string (strOfNums (fil L))] t)) fun e w' => e = .returned (.tuple #[]) ∧ (∃ r c, w'.heap[w.heap.size]? = some (.cells (sm (hs Kt iv (mf m L) ((L + (fil L).length) / 64)) r c) 128 (0, 0))) ∧ W3.grownBy w' (some w.heap.size)) := fun t =>
    lay_fil Kt iv m HM.out w.heap.size L W3 t ((B3.out.block 2 h1l).trans HK.out) (by omega) hL T3.out
  clear b3 hs2 cc T3 H1 H2 HF HK HM R2 S2 E2 B2
  have HD : Hid (dig Kt iv m L = bw (hs Kt iv (mf m L) ((L + (fil L).length) / 64)) 8) := rfl
  generalize hs Kt iv (mf m L) ((L + (fil L).length) / 64) = F at *
  generalize strOfNums (fil L) = sf at *
  go_wp2_with fail
  refine (LF _).out.mono ?_
  rintro e W4 ⟨rfl, ⟨r4, c4, h4⟩, g4⟩
  have B4 : Hid (Below w.heap.size w W4) := B3.out.grown g4 (by omega) (fun k e => by cases e; exact Nat.le_refl _)
  have H4 : Hid (W4.heap[w.heap.size]? = some (.cells (sm F r4 c4) 128 (0, 0))) := h4
  clear h4 g4 LF B3
  go_wp2_with (first
    | (refine wpList_load_mid rfl 124 _ rfl w.heap.size 0 rfl (st8 F).toList _ (sm_range H4.out) Tryd.underlying124 rfl (by kernel_rfl) ?_))
  refine (text_any F W4).mono ?_
  rintro e W5 ⟨rfl, b5⟩
  have B5 : Hid (Below w.heap.size w W5) := B4.out.trans (b5.mono B4.out.size)
  clear b5 B4 H4
  go_wp2_with fail
  go_ret
  exact ⟨by rw [HD.out]; rfl, B5.out⟩
end Go.Proofs.YtaoadopnhphjbaaDoor
namespace Go.Proofs.YtaoadopnhphjbaaDoor
open Go.RowKit Go.Lib
set_option maxRecDepth 100000 in
theorem add_any (Kt m : Nat → Int) (hm : ∀ j, 0 ≤ m j ∧ m j < 256) (len cap : Nat) (o : Option Addr) (ts : Nat → ByteArray) (w : World) {tt : TypeId} {fr : Nat × Nat} (hK : w.heap[2]? = some (.cells (w64 Kt) tt fr))
    (hL : offs ts len ≤ 1000000000000) (hlen : len ≤ 1099511627776)
    (hts : ∀ i, i < len → (∃ b off, o = some ⟨b, off, none⟩ ∧ b < w.heap.size ∧ w.cell? ⟨b, off + i, none⟩ = some (.string (ts i))) ∧ ∀ j, j < (ts i).size → bt (ts i) j = m (offs ts i + j)) :
    Calls Tryd.prog 66 #[.slice o len cap] w fun e w' => e = .returned (.string (strOfNums (dig Kt (lf IV) m (offs ts len)))) ∧ Below w.heap.size w w' := by
  have h1l : 2 < w.heap.size := (Array.getElem?_eq_some_iff.1 hK).1
  have HK : Hid (w.heap[2]? = some (.cells (w64 Kt) tt fr)) := hK
  have HTS : Hid _ := hts
  have HL : Hid (offs ts len ≤ 1000000000000) := hL
  have HLN : Hid (len ≤ 1099511627776) := hlen
  have HM : Hid (∀ j, 0 ≤ m j ∧ m j < 256) := hm
  have NA : Hid (∀ w, Calls Tryd.prog 84 #[] w fun e w' => ∃ g, w.heap.size ≤ g ∧ e = .returned (.pointer (some ⟨g, 0, none⟩)) ∧ w'.heap[g]? = some (.cells (sm (lf IV) (fun _ => 0) 0) 128 (0, 0)) ∧ Below w.heap.size w w') := new_any
  clear hK hts hL hlen hm
  generalize lf IV = iv at *
  go_enter Tryd.func66, Tryd.ntmps66
  go_wp2_with fail
  refine (NA.out w).mono ?_
  rintro e w1 ⟨g, hg, rfl, h1, b1⟩
  have T1 : Hid (Told Kt iv m w1 g 0) := ⟨_, h1, fun j hj => absurd hj (by omega)⟩
  have B1 : Hid (Below w.heap.size w w1) := b1
  clear h1 b1 NA
  go_wp2_with fail
  refine (callsIn_wide.1 (lay_in Kt iv m HM.out g 0 len cap o ts w1 ((B1.out.block 2 h1l).trans HK.out) (by omega) (by have := HL.out; omega) HLN.out T1.out ?_)).mono ?_
  · intro i hi
    obtain ⟨⟨b, off, ho, hb, hc⟩, hbt⟩ := HTS.out i hi
    exact ⟨⟨b, off, ho, by omega, Nat.lt_of_lt_of_le hb B1.out.size, (cell_same (B1.out.block b hb) _).trans hc⟩, fun j hj => by rw [Nat.zero_add]; exact hbt j hj⟩
  rintro e w2 ⟨rfl, h2, g2⟩
  have T2 : Hid (Told Kt iv m w2 g (offs ts len)) := by rw [Nat.zero_add] at h2; exact h2
  have B2 : Hid (Below w.heap.size w w2) := B1.out.grown g2 B1.out.size (fun k e => by cases e; exact hg)
  clear h2 g2 T1 B1 HTS
  go_wp2_with fail
  refine (sum_any Kt iv m HM.out g _ w2 ((B2.out.block 2 h1l).trans HK.out) HL.out T2.out).mono ?_
  rintro e w3 ⟨rfl, b3⟩
  have B3 : Hid (Below w.heap.size w w3) := B2.out.trans (b3.mono B2.out.size)
  clear b3 B2 T2
  go_wp2_with fail
  go_ret
  exact ⟨rfl, B3.out⟩
set_option maxRecDepth 100000 in
theorem shaSum_any (Kt : Nat → Int) (s : ByteArray) (w : World) {tt : TypeId} {fr : Nat × Nat} (hK : w.heap[2]? = some (.cells (w64 Kt) tt fr)) (hL : s.size ≤ 1000000000000) :
    Calls Tryd.prog 81 #[.string s] w fun e w' => e = .returned (.string (strOfNums (dig Kt (lf IV) (bt s) s.size))) ∧ Below w.heap.size w w' := by
  have h1l : 2 < w.heap.size := (Array.getElem?_eq_some_iff.1 hK).1
  have AD : ∀ t, Hid (Calls Tryd.prog 66 #[.slice (some ⟨w.heap.size, 0, none⟩) 1 1] (w.alloc (.cells #[.string s] t)) fun e w' => e = .returned (.string (strOfNums (dig Kt (lf IV) (bt s) s.size))) ∧ Below w.heap.size w w') := fun t => by
    have hbl : Below w.heap.size w (w.alloc (.cells #[.string s] t)) := (Below.refl _ w).alloc (Nat.le_refl _) _
    refine (add_any Kt (bt s) (bt_range s) 1 1 (some ⟨w.heap.size, 0, none⟩) (fun _ => s) (w.alloc (.cells #[.string s] t)) ((hbl.block 2 h1l).trans hK) (by simpa [offs] using hL) (by decide) ?_).mono ?_
    · intro i hi
      obtain rfl : i = 0 := by omega
      exact ⟨⟨w.heap.size, 0, rfl, by simp, by rw [cell_of_row _ _ _ _ _ _ (heap_alloc_new w _)]; rfl⟩, fun j hj => by simp [offs]⟩
    · rintro e w' ⟨rfl, h2⟩
      exact ⟨by simp [offs], hbl.trans (h2.mono (by simp))⟩
  clear hK hL
  generalize dig Kt (lf IV) (bt s) s.size = D at *
  go_enter Tryd.func81, Tryd.ntmps81
  go_wp2_with fail
  refine (AD _).out.mono ?_
  rintro e w1 ⟨rfl, b1⟩
  have B1 : Hid _ := b1
  clear b1 AD
  go_wp2_with fail
  go_ret
  exact ⟨rfl, B1.out⟩
end Go.Proofs.YtaoadopnhphjbaaDoor
namespace Go.Proofs.YtaoadopnhphjbaaDoor
open Go.RowKit Go.Lib
set_option maxRecDepth 100000 in
/-- The built-in min of two numbers, by its run. -/
theorem list_min {P : Program} {ops : Array Oper} {rest : List Oper} {o : Oper} {a : Act} {w : World} {Q : Exit → Act → World → Prop} (hgd : o.guard = none) (t u : TypeId) (x y : Operand) (ho : o.op = .call { callee := .builtin .min, args := #[x, y], argTypes := #[t, u] })
    {p q r : Int} (hx : a.eval x = .int .i64 p) (hy : a.eval y = .int .i64 q) (hr : (if q < p then q else p) = r) (h : wpList P ops Q rest (a.put o.dst (.int .i64 r)) w) : wpList P ops Q (o :: rest) a w :=
  wpList_plain hgd fun _ hK => by
    have hrun : (Builtin.min_ #[t, u] o.type #[.int .i64 p, .int .i64 q]).run P w = .ok (.int .i64 r) w := by subst hr; rfl
    unfold Oper.wp execOp
    simp only [ho, resolve, invoke, builtin, Sem.run_bind, Sem.run_pure, Result.andThen_ok, List.map_toArray, List.map_cons, List.map_nil, hx, hy, hrun]
    exact hK _ _ h
set_option maxRecDepth 100000 in
/-- A text's beginning, by its run. -/
theorem list_head {ops : Array Oper} {rest : List Oper} {o : Oper} {a : Act} {w : World} {Q : Exit → Act → World → Prop} (hgd : o.guard = none) (x y : Operand) (ho : o.op = .slice 9 x none (some y) none)
    {s t : ByteArray} {n : Nat} (hx : a.eval x = .string s) (hy : a.eval y = .int .i64 (n : Int)) (hn : n ≤ s.size) (ht : s.extract 0 n = t) (h : wpList Tryd.prog ops Q rest (a.put o.dst (.string t)) w) : wpList Tryd.prog ops Q (o :: rest) a w :=
  wpList_plain hgd fun _ hK => by
    have hrun : (Instr.sliceAt 9 (.string s) none (some (.int .i64 (n : Int))) none).run Tryd.prog w = .ok (.string t) w := by
      have h1 : (n : Int) ≤ (s.size : Int) := by omega
      subst ht
      simp [Instr.sliceAt, Instr.slice, run_underlying Tryd.underlying9, go_sem]
      intro h
      omega
    unfold Oper.wp execOp
    simp only [ho, Sem.run_bind, Sem.run_pure, Result.andThen_ok, Option.map_none, Option.map_some, hx, hy, hrun]
    exact hK _ _ h
set_option maxRecDepth 100000 in
theorem below_new (w : World) (o : Obj) : Below w.heap.size w (w.alloc o) := (Below.refl _ w).alloc (Nat.le_refl _) _
set_option maxRecDepth 100000 in
/-- The sum of texts that lie in a new block. -/
theorem add_lits (Kt m : Nat → Int) (hm : ∀ j, 0 ≤ m j ∧ m j < 256) (cs : Array Value) (n : Nat) (ts : Nat → ByteArray) (w : World) (t : TypeId) {tt : TypeId} {fr : Nat × Nat} (hK : w.heap[2]? = some (.cells (w64 Kt) tt fr))
    (hn : n ≤ 1000000) (hL : offs ts n ≤ 1000000000000) (hc : ∀ i, i < n → cs[i]? = some (.string (ts i))) (hb : ∀ i, i < n → ∀ j, j < (ts i).size → bt (ts i) j = m (offs ts i + j)) :
    Calls Tryd.prog 66 #[.slice (some ⟨w.heap.size, 0, none⟩) n n] (w.alloc (.cells cs t)) fun e w' => e = .returned (.string (strOfNums (dig Kt (lf IV) m (offs ts n)))) ∧ Below w.heap.size w w' := by
  have h1l : 2 < w.heap.size := (Array.getElem?_eq_some_iff.1 hK).1
  refine (add_any Kt m hm n n (some ⟨w.heap.size, 0, none⟩) ts (w.alloc (.cells cs t)) (((below_new w _).block 2 h1l).trans hK) hL (by omega) fun i hi => ⟨⟨w.heap.size, 0, rfl, by simp, ?_⟩, hb i hi⟩).mono ?_
  · rw [cell_of_row _ _ _ _ _ _ (heap_alloc_new w _), Nat.zero_add]; exact hc i hi
  · rintro e w' ⟨rfl, h2⟩
    exact ⟨rfl, (below_new w _).trans (h2.mono (by simp))⟩
set_option maxRecDepth 100000 in
theorem add_two (Kt : Nat → Int) (t : ByteArray) (k : Nat) (hk : k ≤ t.size) (ht : t.size ≤ 1000000000000) (w : World) (T : TypeId) {tt : TypeId} {fr : Nat × Nat} (hK : w.heap[2]? = some (.cells (w64 Kt) tt fr)) :
    Calls Tryd.prog 66 #[.slice (some ⟨w.heap.size, 0, none⟩) 2 2] (w.alloc (.cells #[.string (t.extract 0 k), .string (t.extract k t.size)] T)) fun e w' => e = .returned (.string (strOfNums (dig Kt (lf IV) (bt t) t.size))) ∧ Below w.heap.size w w' := by
  have z0 : (t.extract 0 k).size = k := by simp; omega
  have z1 : (t.extract k t.size).size = t.size - k := by simp
  have o2 : offs (fun i => if i = 0 then t.extract 0 k else t.extract k t.size) 2 = t.size := by simp [offs]; omega
  refine (add_lits Kt (bt t) (bt_range t) _ 2 (fun i => if i = 0 then t.extract 0 k else t.extract k t.size) w T hK (by decide) (by rw [o2]; exact ht) ?_ ?_).mono ?_
  · intro i hi
    match i, hi with
    | 0, _ => rfl
    | 1, _ => rfl
  · intro i hi j hj
    match i, hi with
    | 0, _ =>
      have hj' : j < k := by simpa [z0] using hj
      show bt (t.extract 0 k) j = _
      rw [bt_ext _ _ _ _ (by omega)]; simp [offs]
    | 1, _ =>
      have hj' : j < t.size - k := by simpa [z1] using hj
      show bt (t.extract k t.size) j = _
      rw [bt_ext _ _ _ _ (by omega)]; simp [offs, Nat.min_eq_left hk]
  · rintro e w' ⟨rfl, h2⟩
    rw [o2]
    exact ⟨rfl, h2⟩
set_option maxRecDepth 100000 in
theorem add_three (Kt : Nat → Int) (t : ByteArray) (k : Nat) (hk : k ≤ t.size) (ht : t.size ≤ 1000000000000) (w : World) (T : TypeId) {tt : TypeId} {fr : Nat × Nat} (hK : w.heap[2]? = some (.cells (w64 Kt) tt fr)) :
    Calls Tryd.prog 66 #[.slice (some ⟨w.heap.size, 0, none⟩) 3 3] (w.alloc (.cells #[.string (t.extract 0 k), .string ⟨#[]⟩, .string (t.extract k t.size)] T)) fun e w' => e = .returned (.string (strOfNums (dig Kt (lf IV) (bt t) t.size))) ∧ Below w.heap.size w w' := by
  have z0 : (t.extract 0 k).size = k := by simp; omega
  have z1 : (t.extract k t.size).size = t.size - k := by simp
  have ze : (ByteArray.mk #[]).size = 0 := rfl
  have o2 : offs (fun i => if i = 0 then t.extract 0 k else if i = 1 then ⟨#[]⟩ else t.extract k t.size) 3 = t.size := by simp [offs, ze]; omega
  refine (add_lits Kt (bt t) (bt_range t) _ 3 (fun i => if i = 0 then t.extract 0 k else if i = 1 then ⟨#[]⟩ else t.extract k t.size) w T hK (by decide) (by rw [o2]; exact ht) ?_ ?_).mono ?_
  · intro i hi
    match i, hi with
    | 0, _ => rfl
    | 1, _ => rfl
    | 2, _ => rfl
  · intro i hi j hj
    match i, hi with
    | 0, _ =>
      have hj' : j < k := by simpa [z0] using hj
      show bt (t.extract 0 k) j = _
      rw [bt_ext _ _ _ _ (by omega)]; simp [offs]
    | 1, _ => exact absurd hj (by simp [ze])
    | 2, _ =>
      have hj' : j < t.size - k := by simpa [z1] using hj
      show bt (t.extract k t.size) j = _
      rw [bt_ext _ _ _ _ (by omega)]; simp [offs, ze, Nat.min_eq_left hk]
  · rintro e w' ⟨rfl, h2⟩
    rw [o2]
    exact ⟨rfl, h2⟩
set_option maxRecDepth 100000 in
/-- A text's first so many bytes. -/
theorem cut_is (s : ByteArray) (n : Nat) : ∃ (t : ByteArray) (r : Nat), (if ((n : Nat) : Int) < (s.size : Int) then ((n : Nat) : Int) else (s.size : Int)) = (r : Int) ∧ r ≤ s.size ∧ s.extract 0 r = t ∧ t.size ≤ n := by
  by_cases h : n < s.size
  · exact ⟨_, n, by rw [if_pos (by omega)], by omega, rfl, by simp; omega⟩
  · exact ⟨_, s.size, by rw [if_neg (by omega)], Nat.le_refl _, rfl, by simp; omega⟩
end Go.Proofs.YtaoadopnhphjbaaDoor
namespace Go.Proofs.YtaoadopnhphjbaaDoor
open Go.RowKit Go.Lib
set_option maxRecDepth 100000 in
theorem num_app (l l' : List Int) : strOfNums l ++ strOfNums l' = strOfNums (l ++ l') := by
  unfold strOfNums
  apply ByteArray.ext
  simp
set_option maxRecDepth 100000 in
theorem app_assoc (a b c : ByteArray) : a ++ b ++ c = a ++ (b ++ c) := by
  apply ByteArray.ext
  simp [Array.append_assoc]
/-- A text, filled. -/
def filS (s : ByteArray) : ByteArray := s ++ strOfNums (fil s.size)
set_option maxRecDepth 100000 in
theorem filS_size (s : ByteArray) : (filS s).size = s.size + (fil s.size).length := by
  unfold filS
  rw [ByteArray.size_append, strOfNums_size]
set_option maxRecDepth 100000 in
theorem bt_app (a b : ByteArray) (j : Nat) : bt (a ++ b) j = if j < a.size then bt a j else bt b (j - a.size) := by
  unfold bt
  have e : (a ++ b).data = a.data ++ b.data := by simp
  rw [e]
  by_cases h : j < a.size
  · rw [if_pos h, Array.getElem?_append_left h]
  · rw [if_neg h, Array.getElem?_append_right (by exact Nat.le_of_not_lt h)]; rfl
set_option maxRecDepth 100000 in
theorem bt_filS (s : ByteArray) (j : Nat) (hj : j < (filS s).size) : bt (filS s) j = mf (bt s) s.size j := by
  rw [filS_size] at hj
  unfold filS mf
  rw [bt_app]
  by_cases h : j < s.size
  · rw [if_pos h, if_pos h]
  · rw [if_neg h, if_neg h, bt_nums _ (fil_byte s.size) _ (by omega)]
/-- The text behind so many of its bytes 0. -/
def padS (s : ByteArray) (j : Nat) : ByteArray := s ++ strOfNums (128 :: List.replicate j 0)
set_option maxRecDepth 100000 in
theorem padS_zero (s : ByteArray) : padS s 0 = s ++ ⟨#[128]⟩ := rfl
set_option maxRecDepth 100000 in
theorem padS_succ (s : ByteArray) (j : Nat) : padS s (j + 1) = padS s j ++ ⟨#[0]⟩ := by
  unfold padS
  rw [app_assoc, show (ByteArray.mk #[0]) = strOfNums [0] from rfl, num_app, List.replicate_succ', List.cons_append]
set_option maxRecDepth 100000 in
theorem padS_size (s : ByteArray) (j : Nat) : (padS s j).size = s.size + 1 + j := by
  unfold padS
  rw [ByteArray.size_append, strOfNums_size, List.length_cons, List.length_replicate]; omega
set_option maxRecDepth 100000 in
theorem pad_more (n j : Nat) (h : j < nz n) : (n + 1 + j) % 64 ≠ 56 := by unfold nz at h; omega
set_option maxRecDepth 100000 in
theorem pad_end (n : Nat) : (n + 1 + nz n) % 64 = 56 := by unfold nz; omega
set_option maxRecDepth 100000 in
theorem padS_end (s : ByteArray) : padS s (nz s.size) ++ strOfNums (upto (fun j => ((s.size : Int) * 8) / 2 ^ (56 - 8 * j) % 256) 8) = filS s := by
  unfold padS filS fil
  rw [app_assoc, num_app, List.cons_append]
set_option maxRecDepth 100000 in
/-- Bytes in a new block, as a text. -/
theorem conv_new (w : World) (cs : Array Value) (l : List Int) (n : Nat) (hl : l.length = n) (hc : ∀ i, i < n → cs[i]? = some (.int .u8 (l.getD i 0))) :
    (convert 41 9 (.slice (some ⟨w.heap.size, 0, none⟩) n n)).run Tryd.prog (w.alloc (.cells cs 5)) = .ok (.string (strOfNums l)) (w.alloc (.cells cs 5)) := by
  refine run_convert_bytes_arg _ 41 5 Tryd.underlying41 Tryd.underlying5 w.heap.size 0 n n l hl (fun i hi => ?_) 9 Tryd.underlying9
  rw [cell_of_row _ _ _ _ _ _ (heap_alloc_new w _), Nat.zero_add]
  exact hc i hi
set_option maxRecDepth 100000 in
theorem filBytes (n : Int) (h0 : 0 ≤ n) (h1 : n ≤ 1000000) : upto (fun j => (n * 8) / 2 ^ (56 - 8 * j) % 256) 8 = [n * 8 / 72057594037927936, n * 8 / 281474976710656, n * 8 / 1099511627776, n * 8 / 4294967296, n * 8 / 16777216, n * 8 / 65536, n * 8 / 256 % 256, n * 8 % 256] := by
  have e : upto (fun j => (n * 8) / 2 ^ (56 - 8 * j) % 256) 8 = [n * 8 / 72057594037927936 % 256, n * 8 / 281474976710656 % 256, n * 8 / 1099511627776 % 256, n * 8 / 4294967296 % 256, n * 8 / 16777216 % 256, n * 8 / 65536 % 256, n * 8 / 256 % 256, n * 8 / 1 % 256] := rfl
  rw [e]
  have e0 : n * 8 / 72057594037927936 % 256 = n * 8 / 72057594037927936 := by omega
  have e1 : n * 8 / 281474976710656 % 256 = n * 8 / 281474976710656 := by omega
  have e2 : n * 8 / 1099511627776 % 256 = n * 8 / 1099511627776 := by omega
  have e3 : n * 8 / 4294967296 % 256 = n * 8 / 4294967296 := by omega
  have e4 : n * 8 / 16777216 % 256 = n * 8 / 16777216 := by omega
  have e5 : n * 8 / 65536 % 256 = n * 8 / 65536 := by omega
  have e7 : n * 8 / 1 % 256 = n * 8 % 256 := by omega
  rw [e0, e1, e2, e3, e4, e5, e7]
set_option maxRecDepth 100000 in
set_option maxHeartbeats 1000000 in
theorem filled_any (s : ByteArray) (hs : s.size ≤ 1000000) (w : World) :
    Calls Tryd.prog 67 #[.string s] w fun e w' => e = .returned (.string (filS s)) ∧ Below w.heap.size w w' := by
  have HS : Hid (s.size ≤ 1000000) := hs
  have z0 : (0 : Int) ≤ (s.size : Int) := by omega
  have z1 : (s.size : Int) ≤ 1000000 := by omega
  clear hs
  go_enter Tryd.func67, Tryd.ntmps67
  go_wp2_with fail
  go_loopw [3] (fun v wr => ∃ j : Nat, j ≤ nz s.size ∧ v = .string (padS s j) ∧ wr = w) (fun v _ => nz s.size + s.size + 1 - (match v with | .string b => b.size | _ => 0))
  case atStart => exact ⟨0, by omega, rfl, rfl⟩
  case round =>
    obtain ⟨j, hj, rfl, rfl⟩ := hrel
    have hnz : nz s.size ≤ 63 := by unfold nz; omega
    have hps := padS_size s j
    obtain ⟨p, hp⟩ : ∃ p, padS s j = p := ⟨_, rfl⟩
    have HP : Hid (padS s j = p) := hp
    rw [hp] at hps ⊢
    have hp2 : (p.size : Int) ≤ 1000100 := by have := HS.out; omega
    obtain ⟨q, hq⟩ : ∃ q, p.size % 64 = q := ⟨_, rfl⟩
    have t0 : (p.size : Int).tmod 64 = (q : Int) := by rw [Int.tmod_eq_emod_of_nonneg (by omega)]; omega
    have t1 : (p.size : Int) % 64 = (q : Int) := by omega
    by_cases hlt : j < nz s.size
    · have hne := pad_more s.size j hlt
      have q1 : ((q : Int) != 56) = true := by simp; omega
      have HPS : Hid (p.size = s.size + 1 + j) := hps
      clear hp hps hq hne
      go_wp2_with fail
      go_roundw
      case rel => exact ⟨j + 1, hlt, by rw [padS_succ, HP.out], trivial⟩
      case measure => have := HPS.out; have e0 : (ByteArray.mk #[0]).size = 1 := rfl; simp [e0]; omega
    · obtain rfl : j = nz s.size := by omega
      have hen := pad_end s.size
      have q1 : ((q : Int) != 56) = false := by simp; omega
      have hcv := conv_new wr #[.int .u8 ((s.size : Int) * 8 / 72057594037927936), .int .u8 ((s.size : Int) * 8 / 281474976710656), .int .u8 ((s.size : Int) * 8 / 1099511627776), .int .u8 ((s.size : Int) * 8 / 4294967296), .int .u8 ((s.size : Int) * 8 / 16777216), .int .u8 ((s.size : Int) * 8 / 65536), .int .u8 ((s.size : Int) * 8 / 256 % 256), .int .u8 ((s.size : Int) * 8 % 256)] (upto (fun j => ((s.size : Int) * 8) / 2 ^ (56 - 8 * j) % 256) 8) 8 (by rw [upto_length]) (fun i hi => by
        have e := filBytes (s.size : Int) z0 z1
        rw [e]
        match i, hi with
        | 0, _ => rfl
        | 1, _ => rfl
        | 2, _ => rfl
        | 3, _ => rfl
        | 4, _ => rfl
        | 5, _ => rfl
        | 6, _ => rfl
        | 7, _ => rfl)
      have HE : Hid (filS s = p ++ strOfNums (upto (fun j => ((s.size : Int) * 8) / 2 ^ (56 - 8 * j) % 256) 8)) := by rw [← HP.out]; exact (padS_end s).symm
      have hte : (strOfNums (upto (fun j => ((s.size : Int) * 8) / 2 ^ (56 - 8 * j) % 256) 8)).size = 8 := by rw [strOfNums_size, upto_length]
      generalize strOfNums (upto (fun j => ((s.size : Int) * 8) / 2 ^ (56 - 8 * j) % 256) 8) = T8 at *
      have HBL := below_new wr (.cells #[.int .u8 ((s.size : Int) * 8 / 72057594037927936), .int .u8 ((s.size : Int) * 8 / 281474976710656), .int .u8 ((s.size : Int) * 8 / 1099511627776), .int .u8 ((s.size : Int) * 8 / 4294967296), .int .u8 ((s.size : Int) * 8 / 16777216), .int .u8 ((s.size : Int) * 8 / 65536), .int .u8 ((s.size : Int) * 8 / 256 % 256), .int .u8 ((s.size : Int) * 8 % 256)] 5)
      have HB : Hid _ := HBL
      clear HBL hp hps hq hen
      go_wp2_with fail
      go_ret
      exact ⟨by rw [HE.out]; rfl, HB.out⟩
set_option maxRecDepth 100000 in
theorem first_any (w : World) : Calls Tryd.prog 68 #[] w fun e w' => e = .returned (.slice (some ⟨w.heap.size, 0, none⟩) 8 8) ∧ w' = w.alloc (.cells (st8 (lf IV)) 22) := by
  go_enter Tryd.func68, Tryd.ntmps68
  go_wp2_with fail
  go_ret
  exact ⟨rfl, rfl⟩
end Go.Proofs.YtaoadopnhphjbaaDoor
namespace Go.Proofs.YtaoadopnhphjbaaDoor
open Go.RowKit Go.Lib
set_option maxRecDepth 100000 in
theorem sw_stable (f : Nat → Int) (k : Nat) : ∀ d i, i < 16 + k → sw f (k + d) i = sw f k i := by
  intro d
  induction d with
  | zero => intro i _; rfl
  | succ d ih =>
    intro i hi
    show upd (sw f (k + d)) (16 + (k + d)) (ext (sw f (k + d)) (16 + (k + d))) i = _
    rw [upd_ne _ _ _ _ (by omega)]
    exact ih i hi
set_option maxRecDepth 100000 in
theorem sch_low (q : Nat → Int) (hq : ∀ j, 0 ≤ q j ∧ q j < 256) (i : Nat) (hi : i < 16) : sch q i = wd q i := by
  unfold sch
  rw [show (48 : Nat) = 0 + 48 from rfl, sw_stable _ 0 48 i hi]
  exact rw4_wd q hq i hi
set_option maxRecDepth 100000 in
theorem sch_ext (q : Nat → Int) (t : Nat) (ht : t < 48) : sch q (16 + t) = ext (sch q) (16 + t) := by
  unfold sch
  obtain ⟨d, hd⟩ : ∃ d, 48 = t + 1 + d := ⟨48 - (t + 1), by omega⟩
  have h1 : sw (rw4 q 64) 48 (16 + t) = sw (rw4 q 64) (t + 1) (16 + t) := by rw [hd]; exact sw_stable _ (t + 1) d (16 + t) (by omega)
  have h2 : ∀ i, i < 16 + t → sw (rw4 q 64) 48 i = sw (rw4 q 64) t i := fun i hi => by
    rw [show (48 : Nat) = t + (1 + d) by omega]; exact sw_stable _ t (1 + d) i hi
  rw [h1]
  show upd (sw (rw4 q 64) t) (16 + t) (ext (sw (rw4 q 64) t) (16 + t)) (16 + t) = _
  rw [upd_at]
  unfold ext
  rw [h2 _ (by omega), h2 _ (by omega), h2 _ (by omega), h2 _ (by omega)]
set_option maxRecDepth 100000 in
/-- The built-in append, by its run, as an operation. -/
theorem op_append {P : Program} {o : Oper} {a : Act} {w : World} {K : Act → World → Prop} {Q : Exit → Act → World → Prop} (t u : TypeId) (s x : Operand) (ho : o.op = .call { callee := .builtin .append, args := #[s, x], argTypes := #[t, u] })
    {vs vx v' : Value} {w' : World} (hs : a.eval s = vs) (hx : a.eval x = vx) (hrun : (Builtin.append_ #[t, u] o.type #[vs, vx]).run P w = .ok v' w') (h : K (a.put o.dst v') w') : Oper.wp P o a w K Q := by
  unfold Oper.wp execOp
  simp only [ho, resolve, invoke, builtin, Sem.run_bind, Sem.run_pure, Result.andThen_ok, List.map_toArray, List.map_cons, List.map_nil, hs, hx, hrun]
  exact h
set_option maxRecDepth 100000 in
theorem info41 : (Tryd.prog.info? 22).map (fun i => (i.zero, i.size, i.bytes)) = some (some (.int .u32 0), 1, 4) := by kernel_rfl
set_option maxRecDepth 100000 in
/-- One word more in a row of one's own: what lay there lies there still. -/
theorem app_keep (w : World) (base : Nat) (v : Value) (n : Nat) (xs : List Value) (hown : w.ownsRow base 22 1 v n xs) (y : Int) (ad : Addr) (hy : w.cell? ad = some (.int .u32 y)) (hn : n ≤ 1000) (hbase : base ≤ w.heap.size) (ty : TypeId) :
    ∃ v' w', (Builtin.append_ #[98, 98] ty #[v, .slice (some ad) 1 1]).run Tryd.prog w = .ok v' w' ∧ w'.ownsRow base 22 1 v' (n + 1) (xs ++ [.int .u32 y]) ∧ w.grownBy w' v.ownBlock ∧ (∀ p cap, v = .slice (some ⟨p, 0, none⟩) n cap → ∀ (j : Nat) (u : Value), xs[j]? = some u → w'.cell? ⟨p, j, none⟩ = some u) := by
  obtain ⟨i0, hi, hz0, hz1, hz2⟩ := info_parts info41
  have hnews : ∀ j u, [Value.int .u32 y][j]? = some u → w.cell? (ad.add j) = some u := fun j u hj => by
    match j, hj with
    | 0, hj => simp at hj; subst hj; rw [show ad.add 0 = ad by cases ad; rfl]; exact hy
    | j + 1, hj => simp at hj
  have h1 : ∀ u ∈ [Value.int .u32 y], u.oneCell' = true := fun u hu => by simp at hu; subst hu; rfl
  obtain ⟨v', w', hr, ho, hg, _, _⟩ := run_append_own_at (P := Tryd.prog) w base 98 ty 22 i0 (.int .u32 0) 1 4 Tryd.underlying98 hi hz0 hz1 hz2 rfl (by decide) v n xs hown ad 1 1 [.int .u32 y] rfl hnews h1 (by unfold maxLen; omega) (by omega) hbase
  refine ⟨v', w', hr, ho, hg, ?_⟩
  rintro p cap rfl j u hu
  rcases hown.2 with ⟨hv, _⟩ | ⟨g, cap', cur, hv, hbg, hgh, hnc, hcm, hcs, htake⟩
  · cases hv
  · cases hv
    by_cases hroom : n + 1 ≤ cap
    · obtain ⟨w2, hr2, ho2, _⟩ := run_append_fits (P := Tryd.prog) w base 98 ty 22 i0 1 Tryd.underlying98 hi hz1 p n cap xs hown ad 1 1 [.int .u32 y] rfl hnews h1 hroom
      rw [hr] at hr2
      injection hr2 with e1 e2
      rw [e2]
      exact own_cell ho2 (by rw [List.getElem?_append_left (List.getElem?_eq_some_iff.1 hu).1]; exact hu)
    · have holds : ∀ j u, xs[j]? = some u → w.cell? ((⟨p, 0, none⟩ : Addr).add j) = some u := hown.cells (g := p) rfl
      have hr2 := run_append_grow (P := Tryd.prog) w 98 ty 22 i0 (.int .u32 0) Tryd.underlying98 hi hz0 ⟨p, 0, none⟩ n cap xs (by rw [hown.1, hz1]) holds ad 1 1 [.int .u32 y] (by rw [hz1]; rfl) hnews (by omega) (by omega) (growslice_fits (by omega) (by rw [hz2]; omega))
      rw [hr] at hr2
      injection hr2 with e1 e2
      rw [e2]
      have hc := own_cell hown hu
      have hlt : p < w.heap.size := (Array.getElem?_eq_some_iff.1 hgh).1
      exact (cell_same (Below.heap_alloc w.drew _ p hlt) j).trans hc
set_option maxRecDepth 100000 in
/-- The next operation, where only one may come up; behind it the condition is shown anew. -/
theorem readyH {P : Program} {md : Region.Mode} {ops : Array Oper} {Q : Exit → Act → World → Prop} {S : World → Prop} {fuel : Nat} {listed : Array Bool} {a : Act} {w : World} (k : Nat) (o : Oper) (hr : Region.ready md ops listed = [k]) (ho : ops[k]? = some o)
    (hw : Region.wanted o (yielded ops a.tmps) = true)
    (h : ∀ K : Act → World → Prop, (∀ a w, S w → wpAnyH P md ops Q S fuel (listed.setIfInBounds k true) a w → K a w) → Oper.wp P o a w K Q) : wpAnyH P md ops Q S (fuel + 1) listed a w := by
  refine wpAnyH_all hr (by simp) fun j hj => ?_
  obtain rfl : j = k := by simpa using hj
  unfold wpOp
  simp only [ho, hw, if_true]
  exact .inl (h _ fun a w h1 h2 => ⟨h1, h2⟩)
end Go.Proofs.YtaoadopnhphjbaaDoor
