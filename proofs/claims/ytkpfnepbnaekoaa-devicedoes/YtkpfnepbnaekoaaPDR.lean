/- Texts filled up; the example. -/
import Derived.Test.YtkpfnepbnaekoaaPDP
import Derived.Laws.BytesArg
import Derived.Laws.IdiomStrings
import Derived.Laws.StructEq
namespace Go.Proofs.Ytkpfnepbnaekoaa.Rd
open Go.RowKit
set_option maxRecDepth 100000 in
theorem toList_dec (a b : ByteArray) : (a.toList == b.toList) = decide (a = b) := by
  rw [ByteArray.toList_eq, ByteArray.toList_eq]
  by_cases e : a = b
  · subst e; simp
  · rw [decide_eq_false e]
    have h : ¬ a.data.toList = b.data.toList := fun h => e (ByteArray.ext (Array.toList_inj.1 h))
    simpa using h
set_option maxRecDepth 100000 in
theorem toList_iff (a b : ByteArray) : a.toList = b.toList ↔ a = b := by
  by_cases e : a = b
  · simp [e]
  · have := toList_dec a b
    rw [decide_eq_false e] at this
    simp at this
    simp [this, e]
set_option maxRecDepth 100000 in
theorem eql_reg (c c' : Int) (t t' : ByteArray) (n n' : Int) (w : World) : (binOp .eql 41 (.agg #[.int .u64 c, .string t, .int .u32 n]) (.agg #[.int .u64 c', .string t', .int .u32 n'])).run Try.prog w = .ok (.bool (decide (c = c' ∧ t = t' ∧ n = n'))) w := by
  have hS : Try.prog.underlying 41 = some (.struct (Try.prog.fieldsOf 41)) := by kernel_rfl
  have hp : Try.prog.stoodInHeld 41 = false := by kernel_rfl
  have u25 := Try.underlying32
  have u39 := Try.underlying39
  have u9 := Try.underlying9
  rw [run_eql_struct, show (10000 : Nat) = 9999 + 1 from rfl, run_equalIn_agg w 9999 41 _ _ hS hp]
  simp only [Program.fieldsOf, Try.underlying41]
  go_simp
  simp only [toList_iff]
  by_cases h1 : c = c' <;> by_cases h2 : t = t' <;> by_cases h3 : n = n' <;> simp [h1, h2, h3]
set_option maxRecDepth 100000 in
theorem neq_reg (c c' : Int) (t t' : ByteArray) (n n' : Int) (w : World) : (binOp .neq 41 (.agg #[.int .u64 c, .string t, .int .u32 n]) (.agg #[.int .u64 c', .string t', .int .u32 n'])).run Try.prog w = .ok (.bool (!decide (c = c' ∧ t = t' ∧ n = n'))) w := by
  have h := eql_reg c c' t t' n n' w
  rw [run_eql_struct] at h
  rw [run_neq_struct]
  cases e : (Op.equalIn 10000 41 (.agg #[.int .u64 c, .string t, .int .u32 n]) (.agg #[.int .u64 c', .string t', .int .u32 n'])).run Try.prog w with
  | ok b w' => rw [e] at h; simp [Result.andThen] at h ⊢; simp [h]
  | _ => rw [e] at h; simp [Result.andThen] at h
set_option maxRecDepth 100000 in
theorem info5 : (Try.prog.info? 5).map (fun i => (i.zero, i.size, i.bytes)) = some (some (.int .u8 0), 1, 1) := by kernel_rfl
set_option maxRecDepth 100000 in
theorem zs_nums (n : Nat) : strOfNums (List.replicate n 0) = zs n := by
  unfold strOfNums zs; rw [List.map_replicate]; rfl
set_option maxRecDepth 100000 in
set_option maxHeartbeats 1000000 in
theorem rzeros_any (n : Nat) (hn : n ≤ 1000000) (w : World) :
    Calls Try.prog 29 #[.int .i64 (n : Int)] w fun e w' => e = .returned (.string (zs n)) ∧ Below w.heap.size w w' := by
  have hmk := run_make_row' (P := Try.prog) 82 5 (.int .u8 0) 1 Try.underlying82 info5 rfl .i64 .i64 n (by omega) (by omega) w
  have hcv : (convert 82 9 (.slice (some ⟨w.heap.size, 0, none⟩) n n)).run Try.prog (w.alloc (.cells (madeCells #[.int .u8 0] n) 5)) = .ok (.string (zs n)) (w.alloc (.cells (madeCells #[.int .u8 0] n) 5)) := by
    rw [← zs_nums]
    refine run_convert_bytes_arg _ 82 5 Try.underlying82 Try.underlying5 w.heap.size 0 n n _ (by simp) (fun i hi => ?_) 9 Try.underlying9
    rw [Nat.zero_add, cell_of_row _ _ _ _ _ _ (heap_alloc_new w _)]
    simp [madeCells, hi, Nat.mod_one, List.getD]
  have B1 : Hid (Below w.heap.size w (w.alloc (.cells (madeCells #[.int .u8 0] n) 5))) := below_new w _
  obtain ⟨W, hW⟩ : ∃ W, w.alloc (.cells (madeCells #[.int .u8 0] n) 5) = W := ⟨_, rfl⟩
  rw [hW] at hmk hcv B1
  clear hW
  generalize hz : zs n = z at *
  go_enter Try.func29, Try.ntmps29
  go_wp2_with fail
  go_ret
  exact ⟨rfl, B1.out⟩
/-- A text filled up to a block. -/
def fillS (s : ByteArray) : ByteArray := s.extract 0 (min s.size 256) ++ zs (256 - min s.size 256)
set_option maxRecDepth 100000 in
theorem fill_size (s : ByteArray) : (fillS s).size = 256 := by
  unfold fillS
  rw [ByteArray.size_append, zs_size, ByteArray.size_extract]; omega
set_option maxRecDepth 100000 in
set_option maxHeartbeats 1000000 in
theorem filled_any (s : ByteArray) (w : World) :
    Calls Try.prog 28 #[.string s] w fun e w' => e = .returned (.string (fillS s)) ∧ Below w.heap.size w w' := by
  obtain ⟨c, hc⟩ : ∃ c, min s.size 256 = c := ⟨_, rfl⟩
  have HE : Hid (fillS s = s.extract 0 c ++ zs (256 - c)) := by refine (?_ : fillS s = s.extract 0 c ++ zs (256 - c)); unfold fillS; rw [hc]
  have e1 : (min (s.size : Int) 256).toNat = c := by omega
  have e2 : (256 : Int) - ((min c s.size : Nat) : Int) = ((256 - c : Nat) : Int) := by omega
  have hz : (s.extract 0 c).size = c := by rw [ByteArray.size_extract]; omega
  have hz2 := zs_size (256 - c)
  have E1 : Hid _ := e1
  have E2 : Hid _ := e2
  have hcb : c ≤ 256 := by omega
  have hl : ¬ 9223372036854775807 < c + (256 - c) := by omega
  clear e1 e2 hc
  go_enter Try.func28, Try.ntmps28
  go_wp2_with fail
  rw [E1.out, E2.out]
  generalize s.extract 0 c = y at *
  refine (rzeros_any (256 - c) (by omega) w).mono ?_
  rintro e w1 ⟨rfl, b1⟩
  have B1 : Hid _ := b1
  clear b1
  generalize zs (256 - c) = z at *
  generalize 256 - c = q at *
  go_wp2_with fail
  go_ret
  exact ⟨by rw [HE.out]; rfl, B1.out⟩
set_option maxRecDepth 100000 in
theorem keys_few {s : St} (h : Ok s) (l : List Nat) (hl : AllKeys s.pd l) : l.length ≤ s.n :=
  len_le s.n l hl.1 fun p hp => by
    obtain ⟨t, ht⟩ := Option.isSome_iff_exists.1 ((hl.2 p).1 hp)
    exact (h.pd p t ht).1
set_option maxRecDepth 100000 in
theorem Dv.of_lt {B d b m : Nat} (h1 : B ≤ d) (h2 : B ≤ b) (h3 : B ≤ m) (k : Nat) (h : Dv d b m k) : B ≤ k := by
  rcases h with rfl | rfl | rfl <;> assumption
/-- The example's text. -/
def ab : ByteArray := ⟨#[97, 98]⟩
def s1 : St := writeS (newS 4) 1 (fillS ab)
def s3 : St := flushS (cutS s1 0)
def s4 : St := wakeS s3 [2]
set_option maxRecDepth 100000 in
theorem s1_ok : Ok s1 := writeS_ok (newS_ok 4 (by omega) (by omega)) _ _
set_option maxRecDepth 100000 in
theorem s2_ok : Ok (cutS s1 0) := cutS_ok s1_ok 0 (by omega) (by omega)
set_option maxRecDepth 100000 in
theorem s3_ok : Ok s3 := flushS_ok s2_ok
set_option maxRecDepth 100000 in
theorem s4_ok : Ok s4 := wakeS_ok s3_ok _
set_option maxRecDepth 100000 in
theorem fit1 : fitS (newS 4) 1 (fillS ab) = true := by simp [fitS, newS, fill_size]
set_option maxRecDepth 100000 in
theorem s1_is : s1 = { newS 4 with pd := put (fun _ => none) 1 (some (fillS ab)) } := by
  unfold s1 writeS
  rw [fit1]
  rfl
set_option maxRecDepth 100000 in
theorem s3_is : s3 = { cutS s1 0 with ended := true } := by
  unfold s3 flushS
  have : opOk (cutS s1 0) = false := by rw [s1_is]; rfl
  rw [this]
  unfold opS
  rw [this]
  rfl
set_option maxRecDepth 100000 in
theorem shown_facts : writeE (newS 4) 1 (fillS ab) = 0 ∧ flushE (cutS s1 0) = 71 ∧ readE s3 1 = 71 ∧ readV s3 1 = ⟨#[]⟩ ∧ readE s4 1 = 0 ∧ (readV s4 1).size = 256 ∧ (readV s4 1).extract 0 2 = ab := by
  have e3 : readE s3 1 = 71 := by rw [s3_is, s1_is]; rfl
  have e4 : readE s4 1 = 0 := by unfold s4; rw [s3_is, s1_is]; rfl
  have hv : readV s4 1 = torn (fillS ab) (zs 256) 128 := by
    unfold readV; rw [e4]; simp only [if_true]
    unfold holdS s4 wakeS backS
    show wakeTx s3 [2] 1 = _
    rw [s3_is, s1_is]
    rfl
  refine ⟨?_, ?_, e3, ?_, e4, ?_, ?_⟩
  · unfold writeE; rw [fit1]; rfl
  · rw [s1_is]; rfl
  · unfold readV; rw [e3]; rfl
  · rw [hv]; exact torn_size _ _ _ (by omega) (fill_size _) (zs_size _)
  · rw [hv]; decide +kernel
end Go.Proofs.Ytkpfnepbnaekoaa.Rd
