/- The reference's rows without one of an id, and with another one in its place. -/
import Derived.Test.YthneciodobeehaaPTO
import Derived.Test.YthneciodobeehaaPTI
namespace Go.Proofs.Ythneciodobeehaa.Rp
open Go.RowKit Go.Lib
open Go.Proofs.Ythneciodobeehaa.Rc Go.Proofs.Ythneciodobeehaa.Rq
/-- A row that is come to. -/
def wf (id : Nat) (r : Rw) (s : List Rw × Bool) (x : Rw) : List Rw × Bool := (s.1 ++ (if s.2 = false ∧ id ≤ x.id then [r] else []) ++ (if x.id ≠ id then [x] else []), s.2 || decide (id ≤ x.id))
def wk (l : List Rw) (id : Nat) (r : Rw) (d : Bool) (k : Nat) : List Rw × Bool := (l.take k).foldl (wf id r) ([], d)
def wOut (l : List Rw) (id : Nat) (r : Rw) (d : Bool) : List Rw := if (wk l id r d l.length).2 = true then (wk l id r d l.length).1 else (wk l id r d l.length).1 ++ [r]
set_option maxRecDepth 100000 in
theorem wk_next (l : List Rw) (id : Nat) (r : Rw) (d : Bool) {k : Nat} (hk : k < l.length) : wk l id r d (k + 1) = wf id r (wk l id r d k) (rat l k) := by
  unfold wk
  rw [List.take_succ_eq_append_getElem hk, List.foldl_append, rat_get hk]
  rfl
set_option maxRecDepth 100000 in
theorem wk_len (l : List Rw) (id : Nat) (r : Rw) (d : Bool) (k : Nat) (hk : k ≤ l.length) : (wk l id r d k).1.length ≤ 2 * k := by
  induction k with
  | zero => simp [wk]
  | succ k ih =>
    rw [wk_next l id r d (by omega)]
    have := ih (by omega)
    unfold wf
    simp only [List.length_append]
    split <;> split <;> simp <;> omega
set_option maxRecDepth 100000 in
theorem app_row (w : World) (B n : Nat) (po : Option Addr) (pc : Nat) (m : List Rw) (r : Rw) (ho : w.ownsRow B 27 4 (.slice po n pc) n (m.flatMap rc)) (hB : B ≤ w.heap.size) (hn : n ≤ 5000) :
    ∃ o' c' W', (Builtin.append_ #[22, 22] 22 #[.slice po n pc, .slice (some ⟨w.heap.size, 0, none⟩) 1 1]).run Try.prog (w.alloc (.cells #[.int .u64 (r.id : Int), .int .u32 (r.x : Int), .int .u32 (r.y : Int), .string r.v] 27)) = .ok (.slice o' (n + 1) c') W' ∧ W'.ownsRow B 27 4 (.slice o' (n + 1) c') (n + 1) ((m ++ [r]).flatMap rc) ∧ Below B w W' := by
  have hbn := below_new w (.cells #[.int .u64 (r.id : Int), .int .u32 (r.x : Int), .int .u32 (r.y : Int), .string r.v] 27)
  obtain ⟨v', W', hrun, a1, a2, a3⟩ := append_sl 22 27 Try.underlying22 infoRow rfl (by decide) (by decide) (w.alloc (.cells #[.int .u64 (r.id : Int), .int .u32 (r.x : Int), .int .u32 (r.y : Int), .string r.v] 27)) B n 1 (.slice po n pc) (some ⟨w.heap.size, 0, none⟩) 1
    (m.flatMap rc) (rc r) (own_same ho fun b _ hb' => hbn.block b hb') (by simp; omega) (one_row (r := r) (heap_alloc_new w _)) (rc_one' _) (by omega)
  obtain ⟨o', c', rfl, -⟩ := sl_of_own a1
  refine ⟨o', c', W', hrun, ?_, ?_⟩
  · rw [List.flatMap_append]
    simpa using a1
  · exact ((Below.refl B w).trans (hbn.mono hB)).grown a2 (by simp; omega) fun b eb => (own_base ho eb).1
set_option maxRecDepth 100000 in
set_option maxHeartbeats 4000000 in
theorem hwith_any (o : Option Addr) (cap : Nat) (l : List Rw) (id : Nat) (r : Rw) (p : Bool) (w : World) (hr : RowsAt w o cap l) (hmx : l.length ≤ 1000) :
    Calls Try.prog 29 #[.slice o l.length cap, .int .u64 (id : Int), rv r, .bool p] w (WR (wOut l id r (!p)) w) := by
  obtain ⟨rid, rx, ry, rvl⟩ := r
  obtain ⟨d, hd⟩ : ∃ d : Bool, (!p) = d := ⟨_, rfl⟩
  rw [hd]
  have hb := below_new w (.cells #[.int .u64 (rid : Int), .int .u32 (rx : Int), .int .u32 (ry : Int), .string rvl] 27)
  have hg := heap_alloc_new w (.cells #[.int .u64 (rid : Int), .int .u32 (rx : Int), .int .u32 (ry : Int), .string rvl] 27)
  obtain ⟨W0, hW0⟩ : ∃ W0, w.alloc (.cells #[.int .u64 (rid : Int), .int .u32 (rx : Int), .int .u32 (ry : Int), .string rvl] 27) = W0 := ⟨_, rfl⟩
  rw [hW0] at hb hg
  have HW0 : Hid _ := hW0
  have HB0 : Hid (Below w.heap.size w W0) := hb
  have HG0 : Hid (W0.heap[w.heap.size]? = some (.cells #[.int .u64 (rid : Int), .int .u32 (rx : Int), .int .u32 (ry : Int), .string rvl] 27 (0, 0))) := hg
  have l0 : w.heap.size < W0.heap.size := (Array.getElem?_eq_some_iff.1 hg).1
  have HR0 : Hid (RowsAt W0 o cap l) := hr.below hb (Nat.le_refl _)
  have HD : Hid ((!p) = d) := hd
  have HWO : Hid (wOut l id ⟨rid, rx, ry, rvl⟩ d = if (wk l id ⟨rid, rx, ry, rvl⟩ d l.length).2 = true then (wk l id ⟨rid, rx, ry, rvl⟩ d l.length).1 else (wk l id ⟨rid, rx, ry, rvl⟩ d l.length).1 ++ [⟨rid, rx, ry, rvl⟩]) := rfl
  obtain ⟨OUT, hOUT⟩ : ∃ OUT, wOut l id ⟨rid, rx, ry, rvl⟩ d = OUT := ⟨_, rfl⟩
  rw [hOUT] at HWO ⊢
  simp only [rv]
  clear hb hg hW0 hr hOUT
  go_enter Try.func29, Try.ntmps29
  go_wp2_with (first | (rw [HW0.out]; clear HW0))
  try rw [HD.out]
  clear HD hd
  go_loopw [9, 10, 11] (fun pv dv iv wr => ∃ k : Nat, k ≤ l.length ∧ iv = .int .i64 (k : Int) ∧ dv = .bool (wk l id ⟨rid, rx, ry, rvl⟩ d k).2 ∧ wr.ownsRow W0.heap.size 27 4 pv (wk l id ⟨rid, rx, ry, rvl⟩ d k).1.length ((wk l id ⟨rid, rx, ry, rvl⟩ d k).1.flatMap rc) ∧ Below W0.heap.size W0 wr) (fun _ _ iv _ => l.length - natOf iv)
  case atStart =>
    refine ⟨0, by omega, rfl, rfl, ?_, Below.refl _ _⟩
    exact World.ownsRow_nil _ _ _ _
  case round =>
    obtain ⟨k, hk, rfl, rfl, ho, hbk⟩ := hrel
    have hln := wk_len l id ⟨rid, rx, ry, rvl⟩ d k hk
    have hnx := fun h => wk_next l id ⟨rid, rx, ry, rvl⟩ d (k := k) h
    have HBk : Hid (Below W0.heap.size W0 wr) := hbk
    have hgk := (hbk.block _ l0).trans HG0.out
    obtain ⟨z0, z1, z2, z3, f0, f1, f2, f3⟩ := row_facts hgk
    obtain ⟨po, pc, rfl, -⟩ := sl_of_own ho
    by_cases hkl : k < l.length
    · obtain ⟨b, off, rfl, hbl, hc⟩ := (HR0.out.below hbk (Nat.le_refl _)).row hkl
      obtain ⟨b', off', e', hbl0, -⟩ := HR0.out.row hkl
      cases e'
      have hnx1 := hnx hkl
      have q5 : (k : Int) < (l.length : Int) := by omega
      have k0 : (0 : Int) ≤ (k : Int) := by omega
      have k2 : (k : Int) + 1 ≤ 9223372036854775807 := by omega
      have hcr := hc k hkl
      generalize rat l k = r at *
      obtain ⟨xid, xx, xy, xv⟩ := r
      have HCR : Hid (Fr wr b (off + k * 4) ⟨xid, xx, xy, xv⟩) := hcr
      obtain ⟨c0, c1, c2, c3⟩ := hcr
      simp only at c0 c1 c2 c3
      rcases hwk : wk l id ⟨rid, rx, ry, rvl⟩ d k with ⟨m, dd⟩
      rw [hwk] at hnx1 ho hln
      simp only [hwk] at *
      obtain ⟨n, hn⟩ : ∃ n, m.length = n := ⟨_, rfl⟩
      rw [hn] at ho hln ⊢
      have HN : Hid (m.length = n) := hn
      have HO : Hid (wr.ownsRow W0.heap.size 27 4 (.slice po n pc) n (m.flatMap rc)) := ho
      clear hc hnx hwk hn hbk hgk
      have hcase : (dd = false ∧ id < xid) ∨ (dd = false ∧ xid = id) ∨ (dd = false ∧ xid < id) ∨ (dd = true ∧ xid ≠ id) ∨ (dd = true ∧ xid = id) := by
        cases dd <;> simp <;> omega
      rcases hcase with ⟨rfl, hq⟩ | ⟨rfl, rfl⟩ | ⟨rfl, hq⟩ | ⟨rfl, hq⟩ | ⟨rfl, rfl⟩
      · have HNX : Hid (wk l id (⟨rid, rx, ry, rvl⟩ : Rw) d (k + 1) = (m ++ [(⟨rid, rx, ry, rvl⟩ : Rw), (⟨xid, xx, xy, xv⟩ : Rw)], true)) := by
          refine (?_ : wk l id (⟨rid, rx, ry, rvl⟩ : Rw) d (k + 1) = _)
          rw [hnx1]
          simp [wf, Nat.le_of_lt hq, Nat.ne_of_gt hq]
        clear hnx1
        have g1 : id ≤ xid := Nat.le_of_lt hq
        have g2 : xid ≠ id := Nat.ne_of_gt hq
        have g3 : ((xid : Int) == (id : Int)) = false := by simp; omega
        have g4 : ((xid : Int) != (id : Int)) = true := by simp; omega
        obtain ⟨o1, p1, V1, hrun1, a1, d1⟩ := app_row wr W0.heap.size n po pc (m) (⟨rid, rx, ry, rvl⟩ : Rw) HO.out HBk.out.size (by omega)
        simp only at hrun1
        have HA1 : Hid (V1.ownsRow W0.heap.size 27 4 (.slice o1 (n + 1) p1) (n + 1) ((m ++ [(⟨rid, rx, ry, rvl⟩ : Rw)]).flatMap rc)) := a1
        have HV1 : Hid (Below W0.heap.size W0 V1) := HBk.out.trans d1
        obtain ⟨y0, y1, y2, y3⟩ : Fr V1 b (off + k * 4) (⟨xid, xx, xy, xv⟩ : Rw) := Fr.same HCR.out (d1.block _ hbl0)
        simp only at y0 y1 y2 y3
        obtain ⟨o2, p2, V2, hrun2, a2, d2⟩ := app_row V1 W0.heap.size (n + 1) o1 p1 (m ++ [(⟨rid, rx, ry, rvl⟩ : Rw)]) (⟨xid, xx, xy, xv⟩ : Rw) HA1.out HV1.out.size (by omega)
        simp only at hrun2
        have HA2 : Hid (V2.ownsRow W0.heap.size 27 4 (.slice o2 (n + 1 + 1) p2) (n + 1 + 1) ((m ++ [(⟨rid, rx, ry, rvl⟩ : Rw)] ++ [(⟨xid, xx, xy, xv⟩ : Rw)]).flatMap rc)) := a2
        have HV2 : Hid (Below W0.heap.size W0 V2) := HV1.out.trans d2
        clear a1 a2 d1 d2 ho hq
        go_wp2_with (first | (at_builtin; refine list_append rfl 22 22 (.tmp 31) (.tmp 33) rfl (vs := .slice po (n) pc) (vx := .slice (some ⟨wr.heap.size, 0, none⟩) 1 1) rfl rfl hrun1 ?_) | (at_builtin; refine list_append rfl 22 22 (.tmp 42) (.tmp 47) rfl (vs := .slice o1 (n + 1) p1) (vx := .slice (some ⟨V1.heap.size, 0, none⟩) 1 1) rfl rfl hrun2 ?_))
        go_roundw
        case rel =>
          refine ⟨k + 1, by omega, by go_num, by rw [HNX.out], ?_, HV2.out⟩
          rw [HNX.out]
          have hl : (m ++ [(⟨rid, rx, ry, rvl⟩ : Rw), (⟨xid, xx, xy, xv⟩ : Rw)]).length = n + 1 + 1 := by simp [HN.out]
          simp only [hl]
          exact (by have := HA2.out; simpa using this)
        case measure => simp [natOf]; omega
      · have HNX : Hid (wk l xid (⟨rid, rx, ry, rvl⟩ : Rw) d (k + 1) = (m ++ [(⟨rid, rx, ry, rvl⟩ : Rw)], true)) := by
          refine (?_ : wk l xid (⟨rid, rx, ry, rvl⟩ : Rw) d (k + 1) = _)
          rw [hnx1]
          simp [wf]
        clear hnx1
        obtain ⟨o1, p1, V1, hrun1, a1, d1⟩ := app_row wr W0.heap.size n po pc (m) (⟨rid, rx, ry, rvl⟩ : Rw) HO.out HBk.out.size (by omega)
        simp only at hrun1
        have HA1 : Hid (V1.ownsRow W0.heap.size 27 4 (.slice o1 (n + 1) p1) (n + 1) ((m ++ [(⟨rid, rx, ry, rvl⟩ : Rw)]).flatMap rc)) := a1
        have HV1 : Hid (Below W0.heap.size W0 V1) := HBk.out.trans d1
        obtain ⟨y0, y1, y2, y3⟩ : Fr V1 b (off + k * 4) (⟨xid, xx, xy, xv⟩ : Rw) := Fr.same HCR.out (d1.block _ hbl0)
        simp only at y0 y1 y2 y3
        clear a1 d1 ho
        go_wp2_with (first | (at_builtin; refine list_append rfl 22 22 (.tmp 31) (.tmp 33) rfl (vs := .slice po (n) pc) (vx := .slice (some ⟨wr.heap.size, 0, none⟩) 1 1) rfl rfl hrun1 ?_))
        go_roundw
        case rel =>
          refine ⟨k + 1, by omega, by go_num, by rw [HNX.out], ?_, HV1.out⟩
          rw [HNX.out]
          have hl : (m ++ [(⟨rid, rx, ry, rvl⟩ : Rw)]).length = n + 1 := by simp [HN.out]
          simp only [hl]
          exact HA1.out
        case measure => simp [natOf]; omega
      · have HNX : Hid (wk l id (⟨rid, rx, ry, rvl⟩ : Rw) d (k + 1) = (m ++ [(⟨xid, xx, xy, xv⟩ : Rw)], false)) := by
          refine (?_ : wk l id (⟨rid, rx, ry, rvl⟩ : Rw) d (k + 1) = _)
          rw [hnx1]
          simp [wf, Nat.not_le_of_lt hq, Nat.ne_of_lt hq]
        clear hnx1
        have g1 : ¬ id ≤ xid := Nat.not_le_of_lt hq
        have g2 : xid ≠ id := Nat.ne_of_lt hq
        have g3 : ((xid : Int) == (id : Int)) = false := by simp; omega
        have g4 : ((xid : Int) != (id : Int)) = true := by simp; omega
        obtain ⟨o1, p1, V1, hrun1, a1, d1⟩ := app_row wr W0.heap.size n po pc (m) (⟨xid, xx, xy, xv⟩ : Rw) HO.out HBk.out.size (by omega)
        simp only at hrun1
        have HA1 : Hid (V1.ownsRow W0.heap.size 27 4 (.slice o1 (n + 1) p1) (n + 1) ((m ++ [(⟨xid, xx, xy, xv⟩ : Rw)]).flatMap rc)) := a1
        have HV1 : Hid (Below W0.heap.size W0 V1) := HBk.out.trans d1
        clear a1 d1 ho
        go_wp2_with (first | (at_builtin; refine list_append rfl 22 22 (.tmp 42) (.tmp 47) rfl (vs := .slice po (n) pc) (vx := .slice (some ⟨wr.heap.size, 0, none⟩) 1 1) rfl rfl hrun1 ?_))
        go_roundw
        case rel =>
          refine ⟨k + 1, by omega, by go_num, by rw [HNX.out], ?_, HV1.out⟩
          rw [HNX.out]
          have hl : (m ++ [(⟨xid, xx, xy, xv⟩ : Rw)]).length = n + 1 := by simp [HN.out]
          simp only [hl]
          exact HA1.out
        case measure => simp [natOf]; omega
      · have HNX : Hid (wk l id (⟨rid, rx, ry, rvl⟩ : Rw) d (k + 1) = (m ++ [(⟨xid, xx, xy, xv⟩ : Rw)], true)) := by
          refine (?_ : wk l id (⟨rid, rx, ry, rvl⟩ : Rw) d (k + 1) = _)
          rw [hnx1]
          simp [wf, hq]
        clear hnx1
        have g3 : ((xid : Int) == (id : Int)) = false := by simp; omega
        have g4 : ((xid : Int) != (id : Int)) = true := by simp; omega
        obtain ⟨o1, p1, V1, hrun1, a1, d1⟩ := app_row wr W0.heap.size n po pc (m) (⟨xid, xx, xy, xv⟩ : Rw) HO.out HBk.out.size (by omega)
        simp only at hrun1
        have HA1 : Hid (V1.ownsRow W0.heap.size 27 4 (.slice o1 (n + 1) p1) (n + 1) ((m ++ [(⟨xid, xx, xy, xv⟩ : Rw)]).flatMap rc)) := a1
        have HV1 : Hid (Below W0.heap.size W0 V1) := HBk.out.trans d1
        clear a1 d1 ho
        go_wp2_with (first | (at_builtin; refine list_append rfl 22 22 (.tmp 42) (.tmp 47) rfl (vs := .slice po (n) pc) (vx := .slice (some ⟨wr.heap.size, 0, none⟩) 1 1) rfl rfl hrun1 ?_))
        go_roundw
        case rel =>
          refine ⟨k + 1, by omega, by go_num, by rw [HNX.out], ?_, HV1.out⟩
          rw [HNX.out]
          have hl : (m ++ [(⟨xid, xx, xy, xv⟩ : Rw)]).length = n + 1 := by simp [HN.out]
          simp only [hl]
          exact HA1.out
        case measure => simp [natOf]; omega
      · have HNX : Hid (wk l xid (⟨rid, rx, ry, rvl⟩ : Rw) d (k + 1) = (m, true)) := by
          refine (?_ : wk l xid (⟨rid, rx, ry, rvl⟩ : Rw) d (k + 1) = _)
          rw [hnx1]
          simp [wf]
        clear hnx1
        clear ho
        go_wp2_with fail
        go_roundw
        case rel =>
          refine ⟨k + 1, by omega, by go_num, by rw [HNX.out], ?_, HBk.out⟩
          rw [HNX.out]
          have hl : (m).length = n := by simp [HN.out]
          simp only [hl]
          exact HO.out
        case measure => simp [natOf]; omega
    · obtain rfl : k = l.length := by omega
      have q5 : ¬ (l.length : Int) < (l.length : Int) := by omega
      rcases hwk : wk l id (⟨rid, rx, ry, rvl⟩ : Rw) d l.length with ⟨m, dd⟩
      rw [hwk] at ho hln HWO
      simp only [hwk] at *
      obtain ⟨n, hn⟩ : ∃ n, m.length = n := ⟨_, rfl⟩
      rw [hn] at ho hln ⊢
      have HN : Hid (m.length = n) := hn
      have HO : Hid (wr.ownsRow W0.heap.size 27 4 (.slice po n pc) n (m.flatMap rc)) := ho
      have LW : Hid (w.heap.size ≤ W0.heap.size) := Nat.le_of_lt l0
      clear hnx hwk hn hbk hgk
      cases dd
      · obtain ⟨o1, p1, V1, hrun1, a1, d1⟩ := app_row wr W0.heap.size n po pc m (⟨rid, rx, ry, rvl⟩ : Rw) HO.out HBk.out.size (by omega)
        simp only at hrun1
        have HA1 : Hid (V1.ownsRow W0.heap.size 27 4 (.slice o1 (n + 1) p1) (n + 1) ((m ++ [(⟨rid, rx, ry, rvl⟩ : Rw)]).flatMap rc)) := a1
        have HV1 : Hid (Below W0.heap.size W0 V1) := HBk.out.trans d1
        clear a1 d1 ho
        go_wp2_with (first | (at_builtin; refine list_append rfl 22 22 (.tmp 51) (.tmp 53) rfl (vs := .slice po (n) pc) (vx := .slice (some ⟨wr.heap.size, 0, none⟩) 1 1) rfl rfl hrun1 ?_))
        go_ret
        have e := HWO.out
        simp only [Bool.false_eq_true, if_false] at e
        subst e
        have hl : (m ++ [((⟨rid, rx, ry, rvl⟩ : Rw) : Rw)]).length = n + 1 := by simp [HN.out]
        obtain ⟨o9, p9, e9, s9⟩ := sl_of_own HA1.out
        cases e9
        refine ⟨o1, p1, by rw [hl]; rfl, ?_, HB0.out.trans (HV1.out.mono LW.out), (own_fresh HA1.out).mono LW.out⟩
        unfold RowsAt
        rw [hl]
        exact s9
      · clear ho
        go_wp2_with fail
        go_ret
        have e := HWO.out
        simp only [if_true] at e
        subst e
        obtain ⟨o9, p9, e9, s9⟩ := sl_of_own HO.out
        cases e9
        refine ⟨po, pc, by rw [HN.out]; rfl, ?_, HB0.out.trans (HBk.out.mono LW.out), (own_fresh HO.out).mono LW.out⟩
        unfold RowsAt
        rw [HN.out]
        exact s9
#print axioms hwith_any
end Go.Proofs.Ythneciodobeehaa.Rp
