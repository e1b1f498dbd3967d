/- QuadWhole: a tree's nodes. -/
import Derived.Test.YtaiiclkfnahghaaPGM
namespace Go.Proofs.Ytaiiclkfnahghaa.Rq
open Go.RowKit Go.Lib Go.Shelf
open Go.Proofs.Ytaiiclkfnahghaa.Rc
set_option maxRecDepth 100000 in
set_option maxHeartbeats 2000000 in
theorem quadWhole_walk (l : List Rw) (o : Option Addr) (cap : Nat) (w : World) (hr : RowsAt w o cap l) :
    Calls Try.prog 8 #[.slice o l.length cap] w fun e w' => e = .returned (.bool true) ∧ Below w.heap.size w w' := by
  have HF : Hid _ := few_any l o cap
  have HR0 : Hid (RowsAt w o cap l) := hr
  have HR : Hid (RowsAt w o cap (l.take 60)) := hr.head 60
  have h60 : (l.take 60).length ≤ 60 := by rw [List.length_take]; omega
  go_enter Try.func8, Try.ntmps8
  go_wp2_with fail
  refine (shown_any _).mono ?_
  rintro e w1 ⟨rfl, b1⟩
  have HB1 : Hid (Below w.heap.size w w1) := b1
  clear b1 hr
  go_wp2_with fail
  refine (HF.out w1 (HR0.out.below HB1.out (Nat.le_refl _))).mono ?_
  rintro e w2 ⟨rfl, h⟩
  have h' := h.symm; clear h; subst h'
  clear HF HR0
  generalize l.take 60 = l at *
  go_wp2_with fail
  have hR1 := HR.out.below HB1.out (Nat.le_refl _)
  cases hrl : rightL l
  · refine (build_no l o cap _ hR1 hrl).mono ?_
    rintro e w2 ⟨rfl, b2⟩
    have HB2 : Hid (Below w.heap.size w w2) := HB1.out.trans (b2.mono HB1.out.size)
    clear b2 hR1
    go_wp2_with fail
    go_ret
    exact ⟨rfl, HB2.out.trans ((below_new w2 _).mono HB2.out.size)⟩
  · have hon := right_on hrl
    refine (build_ok l o cap _ hR1 hrl).mono ?_
    rintro e w2 ⟨n, rfl, n2, b2⟩
    have HB2 : Hid (Below w.heap.size w w2) := HB1.out.trans (b2.mono HB1.out.size)
    obtain ⟨X, Y, L, ro, rn, rc', ko, kn, kc⟩ := n
    have hb3 := below_new w2 (.cells #[.int .u32 (X : Int), .int .u32 (Y : Int), .int .i64 (L : Int), .slice ro rn rc', .slice ko kn kc] 33)
    have HC : Hid _ := whole_any 32 l _ _ _ true (n2.below hb3 (Nat.le_refl _)) hon (by omega) (fun _ => rfl)
    have HB3 : Hid _ := HB2.out.trans (hb3.mono HB2.out.size)
    clear b2 hR1 hb3 n2
    go_wp2_with fail
    refine Calls.mono HC.out ?_
    rintro e w3 ⟨rfl, b3⟩
    have HB4 : Hid (Below w.heap.size w w3) := HB3.out.trans (b3.mono HB3.out.size)
    have h1 : 1 ≤ cnt 32 l := cnt_pos 32 l
    have h2 : cnt 32 l ≤ 1 ∨ cnt 32 l ≤ 2 * l.length := by
      cases l with
      | nil => left; decide
      | cons r t => right; have := cnt_le 32 (r :: t) hon (by simp); omega
    generalize cnt 32 l = m at *
    generalize l.length = n at *
    clear b3 HC hon hrl
    have q1 : decide (1 ≤ m) = true := decide_eq_true h1
    have q2 : decide ((m : Int) ≤ max 1 (2 * (n : Int))) = true := decide_eq_true (by omega)
    have Q2 : Hid _ := q2
    clear q2
    go_wp2_with fail
    rw [Q2.out]
    go_ret
    exact ⟨rfl, HB4.out⟩
end Go.Proofs.Ytaiiclkfnahghaa.Rq
/- The reference: lists of rows that are the same, trees that are the same. -/
namespace Go.Proofs.Ytaiiclkfnahghaa.Rq
open Go.RowKit Go.Lib Go.Shelf
open Go.Proofs.Ytaiiclkfnahghaa.Rc
set_option maxRecDepth 100000 in
theorem eql_self (a b c : Int) (s : ByteArray) (w : World) : (binOp .eql 26 (.agg #[.int .u64 a, .int .u32 b, .int .u32 c, .string s]) (.agg #[.int .u64 a, .int .u32 b, .int .u32 c, .string s])).run Try.prog w = .ok (.bool true) w := by
  have hS : Try.prog.underlying 26 = some (.struct (Try.prog.fieldsOf 26)) := by kernel_rfl
  have hp : Try.prog.stoodInHeld 26 = false := by kernel_rfl
  have u1 := Try.underlying23
  have u2 := Try.underlying24
  have u9 := Try.underlying9
  rw [run_eql_struct, show (10000 : Nat) = 9999 + 1 from rfl, run_equalIn_agg w 9999 26 _ _ hS hp]
  simp only [Program.fieldsOf, Try.underlying26]
  go_simp
set_option maxRecDepth 100000 in
theorem neq_self (a b c : Int) (s : ByteArray) (w : World) : (binOp .neq 26 (.agg #[.int .u64 a, .int .u32 b, .int .u32 c, .string s]) (.agg #[.int .u64 a, .int .u32 b, .int .u32 c, .string s])).run Try.prog w = .ok (.bool false) w := by
  have h := eql_self a b c s w
  rw [run_eql_struct] at h
  rw [run_neq_struct]
  cases e : (Op.equalIn 10000 26 (.agg #[.int .u64 a, .int .u32 b, .int .u32 c, .string s]) (.agg #[.int .u64 a, .int .u32 b, .int .u32 c, .string s])).run Try.prog w with
  | ok b w' => rw [e] at h; simp [Result.andThen] at h ⊢; simp [h]
  | _ => rw [e] at h; simp [Result.andThen] at h
set_option maxRecDepth 100000 in
theorem eql_cell (a b c : Int) (w : World) : (binOp .eql 30 (.agg #[.int .u32 a, .int .u32 b, .int .i64 c]) (.agg #[.int .u32 a, .int .u32 b, .int .i64 c])).run Try.prog w = .ok (.bool true) w := by
  have hS : Try.prog.underlying 30 = some (.struct (Try.prog.fieldsOf 30)) := by kernel_rfl
  have hp : Try.prog.stoodInHeld 30 = false := by kernel_rfl
  have u2 := Try.underlying24
  have u3 := Try.underlying3
  rw [run_eql_struct, show (10000 : Nat) = 9999 + 1 from rfl, run_equalIn_agg w 9999 30 _ _ hS hp]
  simp only [Program.fieldsOf, Try.underlying30]
  go_simp
set_option maxRecDepth 100000 in
theorem neq_cell (a b c : Int) (w : World) : (binOp .neq 30 (.agg #[.int .u32 a, .int .u32 b, .int .i64 c]) (.agg #[.int .u32 a, .int .u32 b, .int .i64 c])).run Try.prog w = .ok (.bool false) w := by
  have h := eql_cell a b c w
  rw [run_eql_struct] at h
  rw [run_neq_struct]
  cases e : (Op.equalIn 10000 30 (.agg #[.int .u32 a, .int .u32 b, .int .i64 c]) (.agg #[.int .u32 a, .int .u32 b, .int .i64 c])).run Try.prog w with
  | ok b w' => rw [e] at h; simp [Result.andThen] at h ⊢; simp [h]
  | _ => rw [e] at h; simp [Result.andThen] at h
def F8 (b x p y : Nat) (r : Rw) (w : World) : Prop := Fr w b x r ∧ Fr w p y r
set_option maxRecDepth 100000 in
set_option maxHeartbeats 2000000 in
theorem same_any (l : List Rw) (o : Option Addr) (cap : Nat) (o2 : Option Addr) (cap2 : Nat) (w : World) (hr : RowsAt w o cap l) (hr2 : RowsAt w o2 cap2 l) :
    Calls Try.prog 23 #[.slice o l.length cap, .slice o2 l.length cap2] w fun e w' => e = .returned (.bool true) ∧ Below w.heap.size w w' := by
  have q0 : ¬ (l.length : Int) ≠ (l.length : Int) := by omega
  have hmx : l.length ≤ maxLen := Nat.le_trans hr.1 hr.2.1
  go_enter Try.func23, Try.ntmps23
  go_wp2_with fail
  go_loopw [5] (fun i wr => ∃ k : Nat, k ≤ l.length ∧ i = .int .i64 (k : Int) ∧ Below w.heap.size w wr) (fun i _ => l.length - natOf i)
  case atStart => exact ⟨0, by omega, rfl, Below.refl _ _⟩
  case round =>
    obtain ⟨k, hk, rfl, hb⟩ := hrel
    by_cases hlt : k < l.length
    · obtain ⟨b, off, rfl, hbl, hc⟩ := (hr.below hb (Nat.le_refl _)).row hlt
      obtain ⟨b2, off2, rfl, hbl2, hc2⟩ := (hr2.below hb (Nat.le_refl _)).row hlt
      have q1 : (k : Int) < (l.length : Int) := by omega
      have k0 : (0 : Int) ≤ (k : Int) := by omega
      have k1 : (k : Int) + 1 ≤ 9223372036854775807 := by simp only [maxLen] at hmx; omega
      have HSW : Hid (F8 b (off + k * 4) b2 (off2 + k * 4) (rat l k) wr.drew) := ⟨hc k hlt, hc2 k hlt⟩
      generalize rat l k = r at *
      obtain ⟨id, x, y, v⟩ := r
      have hnq := neq_self (id : Int) (x : Int) (y : Int) v
      have HB : Hid (Below w.heap.size w wr.drew) := hb.drew
      clear hc hc2 hb
      go_wp2_with fail
      refine wp_region_held (S := F8 b (off + k * 4) b2 (off2 + k * 4) ⟨id, x, y, v⟩) (by kernel_rfl) ?_
      change wpAnyH _ _ _ _ _ _ _ _ (World.drew _)
      refine wpAnyH_take (i := 0) (v := ?_) rfl (by kernel_rfl) (by kernel_rfl) (by kernel_rfl) (fun _ _ _ h => h) (Or.inl ⟨by kernel_rfl, ?_⟩) HSW.out ?_
      rotate_left
      · intro w hS
        obtain ⟨⟨e1, e2, e3, e4⟩, e5, e6, e7, e8⟩ := hS
        go_simp
        try with_reducible rfl
      conv in (Act.put _ _ _) => simp only [List.getElem_toArray, List.getElem_cons_succ, List.getElem_cons_zero, Act.put, List.setIfInBounds_toArray, List.set_cons_succ, List.set_cons_zero]
      refine wpAnyH_take (i := 1) (v := ?_) rfl (by kernel_rfl) (by kernel_rfl) (by kernel_rfl) (fun _ _ _ h => h) (Or.inl ⟨by kernel_rfl, ?_⟩) HSW.out ?_
      rotate_left
      · intro w hS
        obtain ⟨⟨e1, e2, e3, e4⟩, e5, e6, e7, e8⟩ := hS
        go_simp
        try with_reducible rfl
      conv in (Act.put _ _ _) => simp only [List.getElem_toArray, List.getElem_cons_succ, List.getElem_cons_zero, Act.put, List.setIfInBounds_toArray, List.set_cons_succ, List.set_cons_zero]
      refine wpAnyH_take (i := 2) (v := ?_) rfl (by kernel_rfl) (by kernel_rfl) (by kernel_rfl) (fun _ _ _ h => h) (Or.inl ⟨by kernel_rfl, ?_⟩) HSW.out ?_
      rotate_left
      · intro w hS
        obtain ⟨⟨e1, e2, e3, e4⟩, e5, e6, e7, e8⟩ := hS
        go_simp
        try with_reducible rfl
      conv in (Act.put _ _ _) => simp only [List.getElem_toArray, List.getElem_cons_succ, List.getElem_cons_zero, Act.put, List.setIfInBounds_toArray, List.set_cons_succ, List.set_cons_zero]
      refine wpAnyH_take (i := 3) (v := ?_) rfl (by kernel_rfl) (by kernel_rfl) (by kernel_rfl) (fun _ _ _ h => h) (Or.inl ⟨by kernel_rfl, ?_⟩) HSW.out ?_
      rotate_left
      · intro w hS
        obtain ⟨⟨e1, e2, e3, e4⟩, e5, e6, e7, e8⟩ := hS
        go_simp
        try with_reducible rfl
      conv in (Act.put _ _ _) => simp only [List.getElem_toArray, List.getElem_cons_succ, List.getElem_cons_zero, Act.put, List.setIfInBounds_toArray, List.set_cons_succ, List.set_cons_zero]
      refine wpAnyH_take (i := 4) (v := ?_) rfl (by kernel_rfl) (by kernel_rfl) (by kernel_rfl) (fun _ _ _ h => h) (Or.inl ⟨by kernel_rfl, ?_⟩) HSW.out ?_
      rotate_left
      · intro w hS
        obtain ⟨⟨e1, e2, e3, e4⟩, e5, e6, e7, e8⟩ := hS
        go_simp
        try with_reducible rfl
      conv in (Act.put _ _ _) => simp only [List.getElem_toArray, List.getElem_cons_succ, List.getElem_cons_zero, Act.put, List.setIfInBounds_toArray, List.set_cons_succ, List.set_cons_zero]
      refine wpAnyH_take (i := 5) (v := ?_) rfl (by kernel_rfl) (by kernel_rfl) (by kernel_rfl) (fun _ _ _ h => h) (Or.inl ⟨by kernel_rfl, ?_⟩) HSW.out ?_
      rotate_left
      · intro w hS
        obtain ⟨⟨e1, e2, e3, e4⟩, e5, e6, e7, e8⟩ := hS
        go_simp
        try with_reducible rfl
      conv in (Act.put _ _ _) => simp only [List.getElem_toArray, List.getElem_cons_succ, List.getElem_cons_zero, Act.put, List.setIfInBounds_toArray, List.set_cons_succ, List.set_cons_zero]
      refine wpAnyH_take (i := 6) (v := ?_) rfl (by kernel_rfl) (by kernel_rfl) (by kernel_rfl) (fun _ _ _ h => h) (Or.inl ⟨by kernel_rfl, ?_⟩) HSW.out ?_
      rotate_left
      · intro w hS
        obtain ⟨⟨e1, e2, e3, e4⟩, e5, e6, e7, e8⟩ := hS
        go_simp
        try with_reducible rfl
      conv in (Act.put _ _ _) => simp only [List.getElem_toArray, List.getElem_cons_succ, List.getElem_cons_zero, Act.put, List.setIfInBounds_toArray, List.set_cons_succ, List.set_cons_zero]
      refine wpAnyH_take (i := 7) (v := ?_) rfl (by kernel_rfl) (by kernel_rfl) (by kernel_rfl) (fun _ _ _ h => h) (Or.inl ⟨by kernel_rfl, ?_⟩) HSW.out ?_
      rotate_left
      · intro w hS
        obtain ⟨⟨e1, e2, e3, e4⟩, e5, e6, e7, e8⟩ := hS
        go_simp
        try with_reducible rfl
      conv in (Act.put _ _ _) => simp only [List.getElem_toArray, List.getElem_cons_succ, List.getElem_cons_zero, Act.put, List.setIfInBounds_toArray, List.set_cons_succ, List.set_cons_zero]
      refine wpAnyH_take (i := 8) (v := ?_) rfl (by kernel_rfl) (by kernel_rfl) (by kernel_rfl) (fun _ _ _ h => h) (Or.inl ⟨by kernel_rfl, ?_⟩) HSW.out ?_
      rotate_left
      · intro w hS
        obtain ⟨⟨e1, e2, e3, e4⟩, e5, e6, e7, e8⟩ := hS
        go_simp
        try with_reducible rfl
      conv in (Act.put _ _ _) => simp only [List.getElem_toArray, List.getElem_cons_succ, List.getElem_cons_zero, Act.put, List.setIfInBounds_toArray, List.set_cons_succ, List.set_cons_zero]
      refine wpAnyH_done (by kernel_rfl) ?_ _
      go_wp2_with fail
      go_roundw
      case rel => exact ⟨k + 1, by omega, by go_num, HB.out⟩
      case measure => simp [natOf]; omega
    · obtain rfl : k = l.length := by omega
      have q1 : ¬ (l.length : Int) < (l.length : Int) := by omega
      have HB : Hid (Below w.heap.size w wr) := hb
      clear hb
      go_wp2_with fail
      go_ret
      exact ⟨rfl, HB.out⟩
/-- Two nodes' own blocks. -/
def NN (g : Nat) (m n : Nv) (w : World) : Prop :=
  F5 g (.int .u32 (m.X : Int)) (.int .u32 (m.Y : Int)) (.int .i64 (m.L : Int)) (.slice m.ro m.rn m.rc) (.slice m.ko m.kn m.kc) w ∧ F5 (g + 1) (.int .u32 (n.X : Int)) (.int .u32 (n.Y : Int)) (.int .i64 (n.L : Int)) (.slice n.ro n.rn n.rc) (.slice n.ko n.kn n.kc) w
set_option maxRecDepth 100000 in
theorem NN.same {g : Nat} {m n : Nv} {w w' : World} (h : NN g m n w) (e : w'.heap[g]? = w.heap[g]?) (f : w'.heap[g + 1]? = w.heap[g + 1]?) : NN g m n w' := ⟨h.1.same e, h.2.same f⟩
def S7 (g : Nat) (m n : Nv) (b x b2 x2 : Nat) (k1 k2 : Nv) (w : World) : Prop := NN g m n w ∧ Fn5 w b x k1 ∧ Fn5 w b2 x2 k2
set_option maxRecDepth 100000 in
set_option maxHeartbeats 4000000 in
theorem sameNode_step (d : Nat) (IH0 : ∀ (l : List Rw) (m n : Nv) (w : World) (G G' : Nat → Prop), NodeAt G d w m l → NodeAt G' d w n l → Calls Try.prog 19 #[nv m, nv n] w fun e w' => e = .returned (.bool true) ∧ Below w.heap.size w w')
    (X Y L : Nat) (ro ro' : Option Addr) (rcc rcc' : Nat) (ko ko' : Option Addr) (kn kc kc' : Nat) (w : World) (G G' : Nat → Prop) (lr : List Rw) (hr1 : RowsAt w ro rcc lr) (hr2 : RowsAt w ro' rcc' lr)
    (ks ks' : List Nv) (kl : List (List Rw)) (e1 : kn = ks.length) (e2 : kn = ks'.length) (e3 : ks.length = kl.length) (hk1 : NodesAt w ko kc ks) (hk2 : NodesAt w ko' kc' ks')
    (hn1 : ∀ i (h1 : i < ks.length) (h2 : i < kl.length), NodeAt G d w ks[i] kl[i]) (hn2 : ∀ i (h1 : i < ks'.length) (h2 : i < kl.length), NodeAt G' d w ks'[i] kl[i]) :
    Calls Try.prog 19 #[.agg #[.int .u32 (X : Int), .int .u32 (Y : Int), .int .i64 (L : Int), .slice ro lr.length rcc, .slice ko kn kc], .agg #[.int .u32 (X : Int), .int .u32 (Y : Int), .int .i64 (L : Int), .slice ro' lr.length rcc', .slice ko' kn kc']] w
      fun e w' => e = .returned (.bool true) ∧ Below w.heap.size w w' := by
  have IH : Hid _ := IH0
  have hmx : kn ≤ maxLen := by have := hk1.1; have := hk1.2.1; omega
  obtain ⟨n1, n2, n3⟩ := two_new w (.cells #[.int .u32 (X : Int), .int .u32 (Y : Int), .int .i64 (L : Int), .slice ro lr.length rcc, .slice ko kn kc] 33) (.cells #[.int .u32 (X : Int), .int .u32 (Y : Int), .int .i64 (L : Int), .slice ro' lr.length rcc', .slice ko' kn kc'] 33)
  have HN1 : Hid _ := n1
  have HN2 : Hid _ := n2
  have HN3 : Hid _ := n3
  have HS : Hid _ := same_any lr ro rcc ro' rcc' _ (hr1.below n3 (Nat.le_refl _)) (hr2.below n3 (Nat.le_refl _))
  have hnc := neq_cell (X : Int) (Y : Int) (L : Int)
  have HK1 : Hid (NodesAt w ko kc ks) := hk1
  have HK2 : Hid (NodesAt w ko' kc' ks') := hk2
  have HD1 : Hid _ := hn1
  have HD2 : Hid _ := hn2
  obtain ⟨rn, hrn⟩ : ∃ rn, lr.length = rn := ⟨_, rfl⟩
  rw [hrn] at HN1 HN2 HN3 HS ⊢
  have q0 : ¬ (kn : Int) ≠ (kn : Int) := by omega
  have E1 : Hid (kn = ks.length ∧ kn = ks'.length ∧ ks.length = kl.length) := ⟨e1, e2, e3⟩
  clear n1 n2 n3 hr1 hr2 hk1 hk2 hn1 hn2 IH0 hrn e1 e2 e3
  go_enter Try.func19, Try.ntmps19
  go_wp2_with fail
  refine Calls.mono HS.out ?_
  rintro e w1 ⟨rfl, b1⟩
  have hs0 : ((w.alloc (.cells #[.int .u32 (X : Int), .int .u32 (Y : Int), .int .i64 (L : Int), .slice ro rn rcc, .slice ko kn kc] 33)).alloc (.cells #[.int .u32 (X : Int), .int .u32 (Y : Int), .int .i64 (L : Int), .slice ro' rn rcc', .slice ko' kn kc'] 33)).heap.size = w.heap.size + 2 := by simp
  have HG1 : Hid (w1.heap[w.heap.size]? = some (.cells #[.int .u32 (X : Int), .int .u32 (Y : Int), .int .i64 (L : Int), .slice ro rn rcc, .slice ko kn kc] 33 (0, 0))) := (b1.block _ (by omega)).trans HN1.out
  have HG2 : Hid (w1.heap[w.heap.size + 1]? = some (.cells #[.int .u32 (X : Int), .int .u32 (Y : Int), .int .i64 (L : Int), .slice ro' rn rcc', .slice ko' kn kc'] 33 (0, 0))) := (b1.block _ (by omega)).trans HN2.out
  have HB1 : Hid (Below w.heap.size w w1) := HN3.out.trans (b1.mono (by omega))
  obtain ⟨z0, z1, z2, z3, z4, f0, f1, f2, f3, f4⟩ := node_facts HG1.out
  obtain ⟨y0, y1, y2, y3, y4, p0, p1, p2, p3, p4⟩ := node_facts HG2.out
  clear b1 HN1 HN2 HN3 HS hs0 z0 z1 z2 z3 z4 y0 y1 y2 y3 y4
  go_wp2_with fail
  clear f0 f1 f2 f3 f4 p0 p1 p2 p3 p4
  go_loopw [6] (fun j wr => ∃ i : Nat, i ≤ kn ∧ j = .int .i64 (i : Int) ∧ wr.heap[w.heap.size]? = some (.cells #[.int .u32 (X : Int), .int .u32 (Y : Int), .int .i64 (L : Int), .slice ro rn rcc, .slice ko kn kc] 33 (0, 0)) ∧ wr.heap[w.heap.size + 1]? = some (.cells #[.int .u32 (X : Int), .int .u32 (Y : Int), .int .i64 (L : Int), .slice ro' rn rcc', .slice ko' kn kc'] 33 (0, 0)) ∧ Below w.heap.size w wr) (fun j _ => kn - natOf j)
  case atStart => exact ⟨0, by omega, rfl, HG1.out, HG2.out, HB1.out⟩
  case round =>
    obtain ⟨i, hi, rfl, g1, g2, hb⟩ := hrel
    have HGr : Hid _ := g1
    have HGs : Hid _ := g2
    have HBr : Hid (Below w.heap.size w wr) := hb
    have hgs : w.heap.size + 1 < wr.heap.size := (Array.getElem?_eq_some_iff.1 g2).1
    have HSZ : Hid (w.heap.size + 1 < wr.heap.size) := hgs
    obtain ⟨z0, z1, z2, z3, z4, f0, f1, f2, f3, f4⟩ := node_facts g1
    clear z0 z1 z2 z3 z4
    by_cases hlt : i < kn
    · obtain ⟨e1, e2, e3⟩ := E1.out
      have hi1 : i < ks.length := by omega
      have hi2 : i < ks'.length := by omega
      have hi3 : i < kl.length := by omega
      obtain ⟨b, off, rfl, hbl0, hc⟩ := HK1.out.node (by omega)
      obtain ⟨b2, off2, rfl, hbl2, hc2⟩ := HK2.out.node (by omega)
      have HCall : Hid (∀ W, Below w.heap.size w W → _) := fun W hW => IH.out kl[i] ks[i] ks'[i] W G G' ((HD1.out i hi1 hi3).below hW (Nat.le_refl _)) ((HD2.out i hi2 hi3).below hW (Nat.le_refl _))
      have x1 := (hc i hi1).same (hb.block b hbl0)
      have x2 := (hc2 i hi2).same (hb.block b2 hbl2)
      generalize ks[i] = k1 at *
      generalize ks'[i] = k2 at *
      have q1 : (i : Int) < (kn : Int) := by omega
      have i0 : (0 : Int) ≤ (i : Int) := by omega
      have i1 : (i : Int) + 1 ≤ 9223372036854775807 := by simp only [maxLen] at hmx; omega
      have HSW : Hid (S7 w.heap.size ⟨X, Y, L, ro, rn, rcc, some ⟨b, off, none⟩, kn, kc⟩ ⟨X, Y, L, ro', rn, rcc', some ⟨b2, off2, none⟩, kn, kc'⟩ b (off + i * 5) b2 (off2 + i * 5) k1 k2 wr.drew) := ⟨⟨F5.of g1, F5.of g2⟩, x1, x2⟩
      have hb0 : b < wr.heap.size := Nat.lt_of_lt_of_le hbl0 hb.size
      have hb2 : b2 < wr.heap.size := Nat.lt_of_lt_of_le hbl2 hb.size
      clear hc hc2 x1 x2 hb g1 g2 hgs e1 e2 e3 hi1 hi2 hi3 hmx
      go_wp2_with fail
      refine wp_region_held (S := S7 w.heap.size ⟨X, Y, L, ro, rn, rcc, some ⟨b, off, none⟩, kn, kc⟩ ⟨X, Y, L, ro', rn, rcc', some ⟨b2, off2, none⟩, kn, kc'⟩ b (off + i * 5) b2 (off2 + i * 5) k1 k2) (by kernel_rfl) ?_
      change wpAnyH _ _ _ _ _ _ _ _ (World.drew _)
      clear f0 f1 f2 f3 f4
      refine wpAnyH_take (i := 0) (v := ?_) rfl (by kernel_rfl) (by kernel_rfl) (by kernel_rfl) (fun _ _ _ h => h) (Or.inl ⟨by kernel_rfl, ?_⟩) HSW.out ?_
      rotate_left
      · intro w hS
        obtain ⟨⟨⟨e1, e2, e3, e4, e5⟩, e6, e7, e8, e9, e10⟩, ⟨a1, a2, a3, a4, a5⟩, c1, c2, c3, c4, c5⟩ := hS
        go_simp
        try with_reducible rfl
      conv in (Act.put _ _ _) => simp only [List.getElem_toArray, List.getElem_cons_succ, List.getElem_cons_zero, Act.put, List.setIfInBounds_toArray, List.set_cons_succ, List.set_cons_zero]
      refine wpAnyH_take (i := 1) (v := ?_) rfl (by kernel_rfl) (by kernel_rfl) (by kernel_rfl) (fun _ _ _ h => h) (Or.inl ⟨by kernel_rfl, ?_⟩) HSW.out ?_
      rotate_left
      · intro w hS
        obtain ⟨⟨⟨e1, e2, e3, e4, e5⟩, e6, e7, e8, e9, e10⟩, ⟨a1, a2, a3, a4, a5⟩, c1, c2, c3, c4, c5⟩ := hS
        go_simp
        try with_reducible rfl
      conv in (Act.put _ _ _) => simp only [List.getElem_toArray, List.getElem_cons_succ, List.getElem_cons_zero, Act.put, List.setIfInBounds_toArray, List.set_cons_succ, List.set_cons_zero]
      refine wpAnyH_take (i := 2) (v := ?_) rfl (by kernel_rfl) (by kernel_rfl) (by kernel_rfl) (fun _ _ _ h => h) (Or.inl ⟨by kernel_rfl, ?_⟩) HSW.out ?_
      rotate_left
      · intro w hS
        obtain ⟨⟨⟨e1, e2, e3, e4, e5⟩, e6, e7, e8, e9, e10⟩, ⟨a1, a2, a3, a4, a5⟩, c1, c2, c3, c4, c5⟩ := hS
        go_simp
        try with_reducible rfl
      conv in (Act.put _ _ _) => simp only [List.getElem_toArray, List.getElem_cons_succ, List.getElem_cons_zero, Act.put, List.setIfInBounds_toArray, List.set_cons_succ, List.set_cons_zero]
      refine wpAnyH_take (i := 3) (v := ?_) rfl (by kernel_rfl) (by kernel_rfl) (by kernel_rfl) (fun _ _ _ h => h) (Or.inl ⟨by kernel_rfl, ?_⟩) HSW.out ?_
      rotate_left
      · intro w hS
        obtain ⟨⟨⟨e1, e2, e3, e4, e5⟩, e6, e7, e8, e9, e10⟩, ⟨a1, a2, a3, a4, a5⟩, c1, c2, c3, c4, c5⟩ := hS
        go_simp
        try with_reducible rfl
      conv in (Act.put _ _ _) => simp only [List.getElem_toArray, List.getElem_cons_succ, List.getElem_cons_zero, Act.put, List.setIfInBounds_toArray, List.set_cons_succ, List.set_cons_zero]
      refine wpAnyH_take (i := 4) (v := ?_) rfl (by kernel_rfl) (by kernel_rfl) (by kernel_rfl) (fun _ _ _ h => h) (Or.inl ⟨by kernel_rfl, ?_⟩) HSW.out ?_
      rotate_left
      · intro w hS
        obtain ⟨⟨⟨e1, e2, e3, e4, e5⟩, e6, e7, e8, e9, e10⟩, ⟨a1, a2, a3, a4, a5⟩, c1, c2, c3, c4, c5⟩ := hS
        go_simp
        try with_reducible rfl
      conv in (Act.put _ _ _) => simp only [List.getElem_toArray, List.getElem_cons_succ, List.getElem_cons_zero, Act.put, List.setIfInBounds_toArray, List.set_cons_succ, List.set_cons_zero]
      refine wpAnyH_take (i := 5) (v := ?_) rfl (by kernel_rfl) (by kernel_rfl) (by kernel_rfl) (fun _ _ _ h => h) (Or.inl ⟨by kernel_rfl, ?_⟩) HSW.out ?_
      rotate_left
      · intro w hS
        obtain ⟨⟨⟨e1, e2, e3, e4, e5⟩, e6, e7, e8, e9, e10⟩, ⟨a1, a2, a3, a4, a5⟩, c1, c2, c3, c4, c5⟩ := hS
        go_simp
        try with_reducible rfl
      conv in (Act.put _ _ _) => simp only [List.getElem_toArray, List.getElem_cons_succ, List.getElem_cons_zero, Act.put, List.setIfInBounds_toArray, List.set_cons_succ, List.set_cons_zero]
      refine wpAnyH_take (i := 6) (v := ?_) rfl (by kernel_rfl) (by kernel_rfl) (by kernel_rfl) (fun _ _ _ h => h) (Or.inl ⟨by kernel_rfl, ?_⟩) HSW.out ?_
      rotate_left
      · intro w hS
        obtain ⟨⟨⟨e1, e2, e3, e4, e5⟩, e6, e7, e8, e9, e10⟩, ⟨a1, a2, a3, a4, a5⟩, c1, c2, c3, c4, c5⟩ := hS
        go_simp
        try with_reducible rfl
      conv in (Act.put _ _ _) => simp only [List.getElem_toArray, List.getElem_cons_succ, List.getElem_cons_zero, Act.put, List.setIfInBounds_toArray, List.set_cons_succ, List.set_cons_zero]
      refine wpAnyH_take (i := 7) (v := ?_) rfl (by kernel_rfl) (by kernel_rfl) (by kernel_rfl) (fun _ _ _ h => h) (Or.inl ⟨by kernel_rfl, ?_⟩) HSW.out ?_
      rotate_left
      · intro w hS
        obtain ⟨⟨⟨e1, e2, e3, e4, e5⟩, e6, e7, e8, e9, e10⟩, ⟨a1, a2, a3, a4, a5⟩, c1, c2, c3, c4, c5⟩ := hS
        go_simp
        try with_reducible rfl
      conv in (Act.put _ _ _) => simp only [List.getElem_toArray, List.getElem_cons_succ, List.getElem_cons_zero, Act.put, List.setIfInBounds_toArray, List.set_cons_succ, List.set_cons_zero]
      refine wpAnyH_take (i := 8) (v := ?_) rfl (by kernel_rfl) (by kernel_rfl) (by kernel_rfl) (fun _ _ _ h => h) (Or.inl ⟨by kernel_rfl, ?_⟩) HSW.out ?_
      rotate_left
      · intro w hS
        obtain ⟨⟨⟨e1, e2, e3, e4, e5⟩, e6, e7, e8, e9, e10⟩, ⟨a1, a2, a3, a4, a5⟩, c1, c2, c3, c4, c5⟩ := hS
        go_simp
        try with_reducible rfl
      conv in (Act.put _ _ _) => simp only [List.getElem_toArray, List.getElem_cons_succ, List.getElem_cons_zero, Act.put, List.setIfInBounds_toArray, List.set_cons_succ, List.set_cons_zero]
      refine wpAnyH_take (i := 9) (v := ?_) rfl (by kernel_rfl) (by kernel_rfl) (by kernel_rfl) (fun _ _ _ h => h) (Or.inl ⟨by kernel_rfl, ?_⟩) HSW.out ?_
      rotate_left
      · intro w hS
        obtain ⟨⟨⟨e1, e2, e3, e4, e5⟩, e6, e7, e8, e9, e10⟩, ⟨a1, a2, a3, a4, a5⟩, c1, c2, c3, c4, c5⟩ := hS
        go_simp
        try with_reducible rfl
      conv in (Act.put _ _ _) => simp only [List.getElem_toArray, List.getElem_cons_succ, List.getElem_cons_zero, Act.put, List.setIfInBounds_toArray, List.set_cons_succ, List.set_cons_zero]
      refine readyH 10 _ (by kernel_rfl) rfl (by kernel_rfl) (fun K hK => ?_)
      go_simp
      refine Calls.mono (HCall.out wr.drew HBr.out.drew) ?_
      rintro e w2 ⟨rfl, b1⟩
      replace b1 : Below wr.heap.size wr w2 := (Below.refl _ wr).drew.trans b1
      have HG3 : Hid _ := (b1.block _ (by have := HSZ.out; omega)).trans HGr.out
      have HG4 : Hid _ := (b1.block _ HSZ.out).trans HGs.out
      have HB2 : Hid (Below w.heap.size w w2) := HBr.out.trans (b1.mono HBr.out.size)
      replace HSW : Hid (S7 w.heap.size ⟨X, Y, L, ro, rn, rcc, some ⟨b, off, none⟩, kn, kc⟩ ⟨X, Y, L, ro', rn, rcc', some ⟨b2, off2, none⟩, kn, kc'⟩ b (off + i * 5) b2 (off2 + i * 5) k1 k2 w2) := ⟨HSW.out.1.same (b1.block _ (by have := HSZ.out; omega)) (b1.block _ HSZ.out), HSW.out.2.1.same (b1.block _ hb0), HSW.out.2.2.same (b1.block _ hb2)⟩
      refine hK _ _ HSW.out ?_
      clear hK K b1
      refine wpAnyH_take (i := 11) (v := ?_) rfl (by kernel_rfl) (by kernel_rfl) (by kernel_rfl) (fun _ _ _ h => h) (Or.inl ⟨by kernel_rfl, ?_⟩) HSW.out ?_
      rotate_left
      · intro w hS
        obtain ⟨⟨⟨e1, e2, e3, e4, e5⟩, e6, e7, e8, e9, e10⟩, ⟨a1, a2, a3, a4, a5⟩, c1, c2, c3, c4, c5⟩ := hS
        go_simp
        try with_reducible rfl
      conv in (Act.put _ _ _) => simp only [List.getElem_toArray, List.getElem_cons_succ, List.getElem_cons_zero, Act.put, List.setIfInBounds_toArray, List.set_cons_succ, List.set_cons_zero]
      refine wpAnyH_done (by kernel_rfl) ?_ _
      clear HSW HCall
      go_wp2_with fail
      go_roundw
      case rel => exact ⟨i + 1, by omega, by go_num, HG3.out, HG4.out, HB2.out⟩
      case measure => simp [natOf]; omega
    · obtain rfl : i = kn := by omega
      have q1 : ¬ (i : Int) < (i : Int) := by omega
      clear hb g1 g2 hgs
      go_wp2_with fail
      go_ret
      exact ⟨rfl, HBr.out⟩
set_option maxRecDepth 100000 in
theorem sameNode_any : ∀ (d : Nat) (l : List Rw) (m n : Nv) (w : World) (G G' : Nat → Prop), NodeAt G d w m l → NodeAt G' d w n l →
    Calls Try.prog 19 #[nv m, nv n] w fun e w' => e = .returned (.bool true) ∧ Below w.heap.size w w'
  | 0, _, _, _, _, _, _, h, _ => h.elim
  | d + 1, l, m, n, w, G, G', h, h' => by
    obtain ⟨X, Y, L, ro, rn, rcc, ko, kn, kc⟩ := m
    obtain ⟨X', Y', L', ro', rn', rcc', ko', kn', kc'⟩ := n
    obtain ⟨h1, h2, h3, h4, h5⟩ := h
    obtain ⟨g1, g2, g3, g4, g5⟩ := h'
    simp only at h1 h2 h3 h4 h5 g1 g2 g3 g4 g5
    subst h1 h2 h3 g1 g2 g3
    cases hlf : leaf l
    · obtain ⟨a, b, ks, c, e, f, _, g⟩ := h5 hlf
      obtain ⟨a', b', ks', c', e', f', _, g'⟩ := g5 hlf
      subst a a'
      obtain rfl : kn' = kn := by omega
      exact sameNode_step d (sameNode_any d) _ _ _ ro ro' rcc rcc' ko ko' kn' kc kc' w G G' [] b b' ks ks' (kidsL l) c c' e f f' g g'
    · obtain ⟨a, b, _, c, e⟩ := h4 hlf
      obtain ⟨a', b', _, c', e'⟩ := g4 hlf
      subst a a' c c'
      exact sameNode_step d (sameNode_any d) _ _ _ ro ro' rcc rcc' ko ko' 0 kc kc' w G G' l b b' [] [] [] rfl rfl rfl e e' (fun i h => absurd h (by simp)) (fun i h => absurd h (by simp))
end Go.Proofs.Ytaiiclkfnahghaa.Rq
