/- Texts filled up; is a next root known? -/
import Derived.Test.YtofealdlgpmheaaQRtj
import Derived.Test.YtofealdlgpmheaaQRte
import Derived.Laws.BytesArg
import Derived.Deep.OwnRows
namespace Go.Proofs.Ytofealdlgpmheaa.Ro
open Go.RowKit Go.Lib Go.Shelf
open Go.Proofs.Ytofealdlgpmheaa.Rc Go.Proofs.Ytofealdlgpmheaa.Rq
/-- Bytes 0. -/
def zs (n : Nat) : ByteArray := ⟨(List.replicate n (0 : UInt8)).toArray⟩
set_option maxRecDepth 100000 in
theorem zs_size (n : Nat) : (zs n).size = n := by simp [zs, ByteArray.size]
set_option maxRecDepth 100000 in
theorem info5 : (Try.prog.info? 5).map (fun i => (i.zero, i.size, i.bytes)) = some (some (.int .u8 0), 1, 1) := by kernel_rfl
set_option maxRecDepth 100000 in
theorem zs_nums (n : Nat) : strOfNums (List.replicate n 0) = zs n := by
  unfold strOfNums zs; rw [List.map_replicate]; rfl
set_option maxRecDepth 100000 in
set_option maxHeartbeats 1000000 in
theorem rzeros_any (n : Nat) (hn : n ≤ 1000000) (w : World) :
    Calls Try.prog 28 #[.int .i64 (n : Int)] w fun e w' => e = .returned (.string (zs n)) ∧ Below w.heap.size w w' := by
  have hmk := run_make_row' (P := Try.prog) 42 5 (.int .u8 0) 1 Try.underlying42 info5 rfl .i64 .i64 n (by omega) (by omega) w
  have hcv : (convert 42 9 (.slice (some ⟨w.heap.size, 0, none⟩) n n)).run Try.prog (w.alloc (.cells (madeCells #[.int .u8 0] n) 5)) = .ok (.string (zs n)) (w.alloc (.cells (madeCells #[.int .u8 0] n) 5)) := by
    rw [← zs_nums]
    refine run_convert_bytes_arg _ 42 5 Try.underlying42 Try.underlying5 w.heap.size 0 n n _ (by simp) (fun i hi => ?_) 9 Try.underlying9
    rw [Nat.zero_add, cell_of_row _ _ _ _ _ _ (heap_alloc_new w _)]
    simp [madeCells, hi, Nat.mod_one, List.getD]
  have B1 : Hid (Below w.heap.size w (w.alloc (.cells (madeCells #[.int .u8 0] n) 5))) := below_new w _
  obtain ⟨W, hW⟩ : ∃ W, w.alloc (.cells (madeCells #[.int .u8 0] n) 5) = W := ⟨_, rfl⟩
  rw [hW] at hmk hcv B1
  clear hW
  generalize hz : zs n = z at *
  go_enter Try.func28, Try.ntmps28
  go_wp2_with fail
  go_ret
  exact ⟨rfl, B1.out⟩
/-- A text filled up to a block. -/
def fillS (s : ByteArray) : ByteArray := s.extract 0 (min s.size 256) ++ zs (256 - min s.size 256)
set_option maxRecDepth 100000 in
theorem fill_size (s : ByteArray) : (fillS s).size = 256 := by
  unfold fillS
  rw [ByteArray.size_append, zs_size, ByteArray.size_extract]; omega
set_option maxRecDepth 100000 in
set_option maxHeartbeats 1000000 in
theorem filled_any (s : ByteArray) (w : World) :
    Calls Try.prog 20 #[.string s] w fun e w' => e = .returned (.string (fillS s)) ∧ Below w.heap.size w w' := by
  obtain ⟨c, hc⟩ : ∃ c, min s.size 256 = c := ⟨_, rfl⟩
  have HE : Hid (fillS s = s.extract 0 c ++ zs (256 - c)) := by refine (?_ : fillS s = s.extract 0 c ++ zs (256 - c)); unfold fillS; rw [hc]
  have e1 : (min (s.size : Int) 256).toNat = c := by omega
  have e2 : (256 : Int) - ((min c s.size : Nat) : Int) = ((256 - c : Nat) : Int) := by omega
  have hz : (s.extract 0 c).size = c := by rw [ByteArray.size_extract]; omega
  have hz2 := zs_size (256 - c)
  have E1 : Hid _ := e1
  have E2 : Hid _ := e2
  have hcb : c ≤ 256 := by omega
  have hl : ¬ 9223372036854775807 < c + (256 - c) := by omega
  clear e1 e2 hc
  go_enter Try.func20, Try.ntmps20
  go_wp2_with fail
  rw [E1.out, E2.out]
  generalize s.extract 0 c = y at *
  refine (rzeros_any (256 - c) (by omega) w).mono ?_
  rintro e w1 ⟨rfl, b1⟩
  have B1 : Hid _ := b1
  clear b1
  generalize zs (256 - c) = z at *
  generalize 256 - c = q at *
  go_wp2_with fail
  go_ret
  exact ⟨by rw [HE.out]; rfl, B1.out⟩
def ts : ByteArray := (fillS ⟨#[116]⟩).extract 0 32
set_option maxRecDepth 100000 in
theorem ts_size : ts.size = 32 := by unfold ts; rw [ByteArray.size_extract, fill_size]; rfl
def sRt : Rt := ⟨5, 1, 2, 3, ts⟩
set_option maxRecDepth 100000 in
theorem sRt_right : rrt sRt = true := by
  unfold rrt rref sRt
  simp only [ts_size]
  decide
set_option maxRecDepth 100000 in
theorem sRt_next : nxE 4 1 2 3 ts = 0 ∧ nxR 4 1 2 3 ts = sRt := by
  have h : rrt ⟨4 + 1, 1, (2 : Int).toNat, 3, ts⟩ = true := sRt_right
  unfold nxE nxR
  rw [if_neg (by decide), if_neg (by decide), if_pos h, if_neg (by decide), if_neg (by decide), if_pos h]
  exact ⟨rfl, rfl⟩
set_option maxRecDepth 100000 in
theorem sRt_enc : (⟨(encL sRt).toArray⟩ : ByteArray).size = 56 ∧ (⟨(encL sRt).toArray⟩ : ByteArray).extract 0 5 = ⟨#[115, 112, 104, 114, 5]⟩ := by
  have h1 : encL sRt = [115, 112, 104, 114, 5] ++ ((sd 5 1 2 3 20).drop 1 ++ ts.data.toList) := rfl
  constructor
  · have : (encL sRt).length = 56 := by
      rw [h1, List.length_append, List.length_append, List.length_drop, sd_len]
      have e : ts.data.toList.length = ts.size := rfl
      rw [e, ts_size]
      rfl
    simpa [ByteArray.size] using this
  · apply ByteArray.ext
    rw [ByteArray.data_extract, h1]
    apply Array.toList_inj.1
    simp
set_option maxRecDepth 100000 in
set_option maxHeartbeats 2000000 in
theorem shown_any (w : World) : Calls Try.prog 10 #[] w fun e w' => e = .returned (.bool true) ∧ Below w.heap.size w w' := by
  have HF : Hid (∀ W : World, _) := filled_any ⟨#[116]⟩
  have hfz := fill_size ⟨#[116]⟩
  have HTS : Hid ((fillS ⟨#[116]⟩).extract 0 32 = ts) := rfl
  obtain ⟨F, hF⟩ : ∃ F, fillS ⟨#[116]⟩ = F := ⟨_, rfl⟩
  rw [hF] at HF hfz HTS
  have hf2 : (32 : Int) ≤ (F.size : Int) := by omega
  have HN : Hid (∀ W : World, Calls Try.prog 18 #[.int .u64 4, .int .u32 1, .int .i64 2, rfv 3 ts] W fun e w' => e = .returned (.tuple #[rtv sRt, .int .i64 0]) ∧ Below W.heap.size W w') := fun W => by
    have h := rNext_in 4 1 2 3 ts W (by decide) (by decide) (by decide)
    unfold NP at h
    rw [sRt_next.1, sRt_next.2] at h
    exact h
  have HE : Hid (∀ W : World, _) := fun W => encode_ok sRt W sRt_right ⟨by decide, by decide, by decide, by decide⟩
  obtain ⟨z1, z2⟩ := sRt_enc
  obtain ⟨E, hE⟩ : ∃ E : ByteArray, ⟨(encL sRt).toArray⟩ = E := ⟨_, rfl⟩
  rw [hE] at HE z1 z2
  have hS := slot_any 5
  have heq := eql_root sRt sRt
  rw [(eqR_iff _ _).2 rfl] at heq
  have e0 : rtv sRt = .agg #[.int .u64 5, .int .u32 1, .int .u32 2, .int .u32 3, .string ts] := rfl
  rw [e0] at HN HE heq
  have hE5 : (5 : Int) ≤ (E.size : Int) := by omega
  have hEe : (E.extract 0 5).toList = [115, 112, 104, 114, 5] := by rw [z2, ByteArray.toList_eq]
  have hE56 : ((E.size : Int) == 56) = true := by simp; omega
  have HSl : Hid (∀ W : World, Calls Try.prog 15 #[.int .u64 5] W fun e w' => e = .returned (.int .u32 1) ∧ w' = W) := hS
  clear hF hfz hE hS e0 z1 z2
  go_enter Try.func10, Try.ntmps10
  go_wp2_with fail
  refine (HF.out _).mono ?_
  rintro e w1 ⟨rfl, b1⟩
  have HB1 : Hid (Below w.heap.size w w1) := b1
  clear b1
  go_wp2_with fail
  rw [HTS.out]
  obtain ⟨W2, hW2⟩ : ∃ W2, w1.alloc (.cells #[.int .u32 3, .string ts] 25) = W2 := ⟨_, rfl⟩
  have hb2 := below_new w1 (.cells #[.int .u32 3, .string ts] 25)
  have hg2 := heap_alloc_new w1 (.cells #[.int .u32 3, .string ts] 25)
  rw [hW2] at hb2 hg2 ⊢
  have HB2 : Hid (Below w.heap.size w W2) := HB1.out.trans (hb2.mono HB1.out.size)
  have HG2 : Hid (W2.heap[w1.heap.size]? = some (.cells #[.int .u32 3, .string ts] 25 (0, 0))) := hg2
  clear hb2 hg2 hW2
  refine (HN.out W2).mono ?_
  rintro e w3 ⟨rfl, b3⟩
  have HB3 : Hid (Below w.heap.size w w3) := HB2.out.trans (b3.mono HB2.out.size)
  have HG3 : Hid (w3.heap[w1.heap.size]? = some (.cells #[.int .u32 3, .string ts] 25 (0, 0))) := (b3.block _ (Array.getElem?_eq_some_iff.1 HG2.out).1).trans HG2.out
  obtain ⟨W4, hW4⟩ : ∃ W4, w3.alloc (.cells #[.int .u64 5, .int .u32 1, .int .u32 2, .int .u32 3, .string ts] 27) = W4 := ⟨_, rfl⟩
  have hb4 := below_new w3 (.cells #[.int .u64 5, .int .u32 1, .int .u32 2, .int .u32 3, .string ts] 27)
  have hg4 := heap_alloc_new w3 (.cells #[.int .u64 5, .int .u32 1, .int .u32 2, .int .u32 3, .string ts] 27)
  rw [hW4] at hb4 hg4
  have HW4 : Hid _ := hW4
  have HB4 : Hid (Below w.heap.size w W4) := HB3.out.trans (hb4.mono HB3.out.size)
  have HG4 : Hid (W4.heap[w1.heap.size]? = some (.cells #[.int .u32 3, .string ts] 25 (0, 0))) := (hb4.block _ (Array.getElem?_eq_some_iff.1 HG3.out).1).trans HG3.out
  have HR4 : Hid (W4.heap[w3.heap.size]? = some (.cells #[.int .u64 5, .int .u32 1, .int .u32 2, .int .u32 3, .string ts] 27 (0, 0))) := hg4
  clear b3 hb4 hg4 hW4
  go_wp2_with fail
  rw [HW4.out]
  refine (HE.out W4).mono ?_
  rintro e w5 ⟨rfl, b5⟩
  have HB5 : Hid (Below w.heap.size w w5) := HB4.out.trans (b5.mono HB4.out.size)
  have hg5 := (b5.block _ (Array.getElem?_eq_some_iff.1 HG4.out).1).trans HG4.out
  have hr5 := (b5.block _ (Array.getElem?_eq_some_iff.1 HR4.out).1).trans HR4.out
  obtain ⟨⟨c0, c1, c2, c3, c4⟩, -⟩ := root_facts hr5
  have d0 : w5.cell? ⟨w1.heap.size, 0, none⟩ = some (.int .u32 3) := by rw [cell_of_row _ _ _ _ _ _ hg5]; rfl
  have d1 : w5.cell? ⟨w1.heap.size, 1, none⟩ = some (.string ts) := by rw [cell_of_row _ _ _ _ _ _ hg5]; rfl
  clear hg5 hr5 b5
  go_wp2_with (go_at_call 15; refine (HSl.out _).mono ?_; rintro e w6 ⟨rfl, rfl⟩)

  go_ret
  exact ⟨rfl, HB5.out⟩
end Go.Proofs.Ytofealdlgpmheaa.Ro
/- What Encode tells, of program and reference, in one form. -/
namespace Go.Proofs.Ytofealdlgpmheaa.Ro
open Go.RowKit Go.Lib Go.Shelf
open Go.Proofs.Ytofealdlgpmheaa.Rc Go.Proofs.Ytofealdlgpmheaa.Rq
def encS (r : Rt) : ByteArray := if rrt r then bR r else ⟨#[]⟩
def encE (r : Rt) : Int := if rrt r then 0 else 120
set_option maxRecDepth 100000 in
theorem encode_any (r : Rt) (ho : okR r) (w : World) : Calls Try.prog 11 #[rtv r] w fun e w' => e = .returned (.tuple #[.string (encS r), .int .i64 (encE r)]) ∧ Below w.heap.size w w' := by
  unfold encS encE
  cases h : rrt r
  · exact encode_no r w h
  · exact encode_ok r w h ho
set_option maxRecDepth 100000 in
theorem sencode_any (r : Rt) (ho : okR r) (w : World) : Calls Try.prog 12 #[rtv r] w fun e w' => e = .returned (.tuple #[.string (encS r), .int .i64 (encE r)]) ∧ Below w.heap.size w w' := by
  unfold encS encE
  cases h : rrt r
  · exact sencode_no r w h
  · exact sencode_ok r w h ho
set_option maxRecDepth 100000 in
theorem rdR_ok (s : ByteArray) : okR (rdR s) := by
  unfold rdR
  split
  · exact rootOf_ok s
  · exact ⟨by decide, by decide, by decide, by decide⟩
set_option maxRecDepth 100000 in
theorem nxR_ok (c g : Nat) (i : Int) (p : Nat) (t : ByteArray) (hc : c < 18446744073709551616) (hg : g < 4294967296) (hp : p < 4294967296) : okR (nxR c g i p t) := by
  unfold nxR
  split
  · exact ⟨by decide, by decide, by decide, by decide⟩
  · split
    · exact ⟨by decide, by decide, by decide, by decide⟩
    · split
      · exact ⟨by show c + 1 < _; omega, hg, by show i.toNat < _; omega, hp⟩
      · exact ⟨by decide, by decide, by decide, by decide⟩
set_option maxRecDepth 100000 in
/-- What becomes of bytes and back. -/
theorem back_enc (r : Rt) (ho : okR r) (h : rrt r = true) : rdR (bR r) = r ∧ okD (bR r) = true := by
  obtain ⟨h1, h2⟩ := dec_enc r ho h
  unfold rdR
  rw [h1, h2]
  exact ⟨rfl, rfl⟩
set_option maxRecDepth 100000 in
theorem back_dec (s : ByteArray) (h : okD s = true) : encS (rdR s) = s ∧ encE (rdR s) = 0 ∧ rrt (rdR s) = true := by
  have e : rdR s = rootOf s := by unfold rdR; rw [h]; rfl
  have hr : rrt (rootOf s) = true := by unfold okD at h; simp only [Bool.and_eq_true] at h; exact h.2
  unfold encS encE
  rw [e, hr]
  exact ⟨enc_dec s h, rfl, rfl⟩
set_option maxRecDepth 100000 in
theorem bR_inj {a b : Rt} (ha : okR a) (hb : okR b) (h1 : rrt a = true) (h2 : rrt b = true) (h : bR a = bR b) : a = b := by
  rw [← (dec_enc a ha h1).2, ← (dec_enc b hb h2).2, h]
set_option maxRecDepth 100000 in
theorem bR_less {r : Rt} {s : ByteArray} (h1 : rrt r = true) (h : s.size ≠ (bR r).size) : okD s = false := by
  cases hh : okD s
  · rfl
  · have hz := okD_size hh
    rw [bR_size] at h
    have : r.t.size = 32 := by
      unfold rrt rref at h1
      simp only [Bool.and_eq_true, decide_eq_true_eq] at h1
      exact h1.2.2.2.2
    omega
set_option maxRecDepth 100000 in
theorem bR_56 {r : Rt} (h1 : rrt r = true) : (bR r).size = 56 := by
  rw [bR_size]
  unfold rrt rref at h1
  simp only [Bool.and_eq_true, decide_eq_true_eq] at h1
  omega
end Go.Proofs.Ytofealdlgpmheaa.Ro
