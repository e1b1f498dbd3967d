/- A leaf's bytes are put. -/
import Derived.Test.YtljponlfjombaaaQID
namespace Go.Proofs.Ytljponlfjombaaa.Rw
open Go.RowKit Go.Lib Go.Shelf
open Go.Proofs.Ytljponlfjombaaa.Rc Go.Proofs.Ytljponlfjombaaa.Rq
set_option maxRecDepth 100000 in
theorem pg_cells {W : World} {B : Nat} {q : Pg} (h : W.heap[B]? = some (gcs q)) : (W.cell? ⟨B, 0, none⟩ = some (.int .i64 q.k) ∧ W.cell? ⟨B, 1, none⟩ = some (.int .u32 (q.X : Int)) ∧ W.cell? ⟨B, 2, none⟩ = some (.int .u32 (q.Y : Int)) ∧ W.cell? ⟨B, 3, none⟩ = some (.int .i64 q.L) ∧ W.cell? ⟨B, 4, none⟩ = some (.slice q.ro q.rn q.rc) ∧ W.cell? ⟨B, 5, none⟩ = some (.slice q.ko q.kn q.kc) ∧ W.cell? ⟨B, 6, none⟩ = some (.int .u32 (q.np : Int)) ∧ W.cell? ⟨B, 7, none⟩ = some (.string q.nt)) ∧ B < W.heap.size := by
  refine ⟨⟨?_, ?_, ?_, ?_, ?_, ?_, ?_, ?_⟩, (Array.getElem?_eq_some_iff.1 h).1⟩
  all_goals rw [cell_of_row _ _ _ _ _ _ h]; rfl
set_option maxRecDepth 100000 in
theorem row_cells {W : World} {B : Nat} {id x y : Nat} {v : ByteArray} {t : TypeId} (h : W.heap[B]? = some (.cells #[.int .u64 (id : Int), .int .u32 (x : Int), .int .u32 (y : Int), .string v] t (0, 0))) : (W.cell? ⟨B, 0, none⟩ = some (.int .u64 (id : Int)) ∧ W.cell? ⟨B, 1, none⟩ = some (.int .u32 (x : Int)) ∧ W.cell? ⟨B, 2, none⟩ = some (.int .u32 (y : Int)) ∧ W.cell? ⟨B, 3, none⟩ = some (.string v)) ∧ B < W.heap.size := by
  refine ⟨⟨?_, ?_, ?_, ?_⟩, (Array.getElem?_eq_some_iff.1 h).1⟩
  all_goals rw [cell_of_row _ _ _ _ _ _ h]; rfl
set_option maxRecDepth 100000 in
theorem rows_len {l : List Rw} (hv : ∀ r ∈ l, r.v.size ≤ 16) (i : Nat) : ((l.take i).flatMap rowB).length ≤ i * 33 := by
  induction i with
  | zero => simp
  | succ i ih =>
    by_cases h : i < l.length
    · rw [List.take_add_one, List.getElem?_eq_getElem h, List.flatMap_append, List.length_append]
      have := hv _ (List.getElem_mem h)
      simp only [Option.toList, List.flatMap_cons, List.flatMap_nil, List.append_nil, rowB, List.length_append, lef_len, Array.length_toList]
      have e : l[i].v.data.size = l[i].v.size := rfl
      omega
    · rw [List.take_of_length_le (by omega)]
      rw [List.take_of_length_le (by omega)] at ih
      omega
set_option maxRecDepth 100000 in
set_option maxHeartbeats 4000000 in
theorem putLeaf_any (g : Nat) (own0 : Nat → Prop) (bs : List UInt8) (q : Pg) (l : List Rw) (hl : bs.length ≤ 1000) (hn : l.length ≤ 10) (hv : ∀ r ∈ l, r.v.size ≤ 16 ∧ r.x < 4294967296 ∧ r.y < 4294967296) (hnp : q.np < 4294967296) (hnt : q.nt.size ≤ 100) (w : World) (h : Wr g own0 bs w) (hrn : q.rn = l.length) (hr : RowsAt w q.ro q.rc l) (hrb : ∀ b off, q.ro = some ⟨b, off, none⟩ → 0 < l.length → ¬ own0 b) :
    Calls Try.prog 27 #[pvv g, gv q] w fun e w' => e = .returned (.tuple #[]) ∧ Wrote g own0 (bs ++ leafB l q.np q.nt) w w' := by
  have P0 : Ps g own0 w [(w.heap.size, gcs q)] bs own0 (w.alloc (gcs q)) := (Ps.start h).with (gcs q) (heap_alloc_new w _)
  have HR : Hid (RowsAt w q.ro q.rc l) := hr
  have HRB : Hid (∀ b off, q.ro = some ⟨b, off, none⟩ → 0 < l.length → ¬ own0 b) := hrb
  have HV : Hid (∀ r ∈ l, r.v.size ≤ 16 ∧ r.x < 4294967296 ∧ r.y < 4294967296) := hv
  have HN : Hid _ := fun own xs v sz h1 h2 W => putNumber_any g own xs v sz h1 h2 W
  have HRF : Hid _ := fun own xs p t h1 h2 h3 W => putRef_any g own xs p t h1 h2 h3 W
  have HTX : Hid _ := fun own xs s h1 W => putText_any g own xs s h1 W
  have HVS : Hid (∀ r ∈ l, r.v.size ≤ 16) := fun r hr => (hv r hr).1
  have hrf : (refB q.np q.nt).length ≤ 104 := by
    unfold refB
    rw [List.length_append, lef_len, Array.length_toList]
    split
    · decide
    · have : q.nt.data.size = q.nt.size := rfl
      omega
  obtain ⟨qk, qX, qY, qL, qro, qrn, qrc, qko, qkn, qkc, qnp, qnt⟩ := q
  simp only at hrn HR HRB hnp hnt hrf
  subst hrn
  have HP0 : Hid _ := P0
  clear P0 h hr hrb hv
  obtain ⟨W0, hW0⟩ : ∃ W0, w.alloc (gcs ⟨qk, qX, qY, qL, qro, l.length, qrc, qko, qkn, qkc, qnp, qnt⟩) = W0 := ⟨_, rfl⟩
  have HW0 : Hid (w.alloc (.cells #[.int .i64 qk, .int .u32 (qX : Int), .int .u32 (qY : Int), .int .i64 qL, .slice qro l.length qrc, .slice qko qkn qkc, .int .u32 (qnp : Int), .string qnt] 30) = W0) := hW0
  rw [hW0] at HP0
  clear hW0
  have q0 : (l.length : Int) ≤ 10 := by omega
  have q1 : IntKind.u64.wrap (l.length : Int) = (l.length : Int) := IntWalk.u64_in _ ⟨by omega, by omega⟩
  simp only [gv]
  go_enter Try.func27, Try.ntmps27
  go_wp2_with fail
  rw [HW0.out]
  clear HW0
  refine (HN.out own0 bs 1 1 (by omega) (by omega) W0 HP0.out.wr).mono ?_
  rintro e w1 ⟨rfl, k⟩
  obtain ⟨own1, hP⟩ := HP0.out.step k
  have HP1 : Hid (Ps g own0 w [(w.heap.size, gcs ⟨qk, qX, qY, qL, qro, l.length, qrc, qko, qkn, qkc, qnp, qnt⟩)] (bs ++ lef 1 1) own1 w1) := hP
  obtain ⟨⟨-, -, -, -, c4, -, c6, c7⟩, lB⟩ := pg_cells (hP.box _ List.mem_cons_self).1
  simp only at c4 c6 c7
  clear k hP HP0
  go_wp2_with fail
  refine (HN.out own1 (bs ++ lef 1 1) l.length 1 (by omega) (by rw [List.length_append, lef_len]; omega) w1 HP1.out.wr).mono ?_
  rintro e w2 ⟨rfl, k⟩
  obtain ⟨own2, hP⟩ := HP1.out.step k
  have HP2 : Hid (Ps g own0 w [(w.heap.size, gcs ⟨qk, qX, qY, qL, qro, l.length, qrc, qko, qkn, qkc, qnp, qnt⟩)] (bs ++ lef 1 1 ++ lef l.length 1) own2 w2) := hP
  clear c4 c6 c7 lB
  obtain ⟨⟨-, -, -, -, c4, -, c6, c7⟩, lB⟩ := pg_cells (hP.box _ List.mem_cons_self).1
  simp only at c4 c6 c7
  clear k hP HP1
  go_wp2_with fail
  refine (HRF.out own2 (bs ++ lef 1 1 ++ lef l.length 1) qnp qnt hnp (by simp only [List.length_append, lef_len]; omega) hnt w2 HP2.out.wr).mono ?_
  rintro e w3 ⟨rfl, k⟩
  obtain ⟨own3, hP⟩ := HP2.out.step k
  have HP3 : Hid (Ps g own0 w [(w.heap.size, gcs ⟨qk, qX, qY, qL, qro, l.length, qrc, qko, qkn, qkc, qnp, qnt⟩)] (bs ++ lef 1 1 ++ lef l.length 1 ++ refB qnp qnt) own3 w3) := hP
  clear c4 c6 c7 lB
  obtain ⟨⟨-, -, -, -, c4, -, c6, c7⟩, lB⟩ := pg_cells (hP.box _ List.mem_cons_self).1
  simp only at c4 c6 c7
  clear k hP HP2
  go_wp2_with fail
  obtain ⟨bs3, hbs3⟩ : ∃ bs3, bs ++ lef 1 1 ++ lef l.length 1 ++ refB qnp qnt = bs3 := ⟨_, rfl⟩
  have hb3 : bs3.length ≤ 1200 := by rw [← hbs3]; simp only [List.length_append, lef_len]; omega
  have HE3 : Hid (bs ++ leafB l qnp qnt = bs3 ++ l.flatMap rowB) := by
    refine (?_ : bs ++ leafB l qnp qnt = bs3 ++ l.flatMap rowB)
    rw [← hbs3]; simp only [leafB, List.append_assoc]
  rw [hbs3] at HP3
  clear hbs3 c4 c6 c7 lB
  go_loopw [21] (fun iv wr => ∃ (i : Nat) (own' : Nat → Prop), i ≤ l.length ∧ iv = .int .i64 (i : Int) ∧ Ps g own0 w [(w.heap.size, gcs ⟨qk, qX, qY, qL, qro, l.length, qrc, qko, qkn, qkc, qnp, qnt⟩)] (bs3 ++ (l.take i).flatMap rowB) own' wr) (fun iv _ => l.length - natOf iv)
  case atStart => exact ⟨0, own3, Nat.zero_le _, rfl, by simpa using HP3.out⟩
  case round =>
    obtain ⟨i, own', hi, rfl, hP⟩ := hrel
    have HP : Hid _ := hP
    by_cases hlt : i < l.length
    · have hsl := hP.sl (k := 4) (cs := l.flatMap rc) HR.out HRB.out
      obtain ⟨pb, off, rfl, hbl, hc⟩ := RowsAt.row (l := l) hsl hlt
      obtain ⟨d0, d1, d2, d3⟩ := hc i hlt
      have hvr := HV.out _ (rat_mem hlt)
      have htk : (l.take (i + 1)).flatMap rowB = (l.take i).flatMap rowB ++ rowB (rat l i) := by
        rw [List.take_add_one, rat_some hlt, List.flatMap_append]; simp
      have hxl := rows_len HVS.out i
      generalize rat l i = rr at *
      obtain ⟨id, x, y, v⟩ := rr
      simp only at d0 d1 d2 d3 hvr
      have HTK : Hid _ := htk
      have HQ4 : Hid (Ps g own0 w [(wr.heap.size, (.cells #[.int .u64 (id : Int), .int .u32 (x : Int), .int .u32 (y : Int), .string v] 47)), (w.heap.size, gcs ⟨qk, qX, qY, qL, (some ⟨pb, off, none⟩), l.length, qrc, qko, qkn, qkc, qnp, qnt⟩)] (bs3 ++ (l.take i).flatMap rowB) own' (wr.alloc (.cells #[.int .u64 (id : Int), .int .u32 (x : Int), .int .u32 (y : Int), .string v] 47))) := hP.with _ (heap_alloc_new wr _)
      have hvs : v.size ≤ 16 := hvr.1
      have q3 : (i : Int) < (l.length : Int) := by omega
      have i0 : (0 : Int) ≤ (i : Int) := by omega
      have q4 : IntKind.u64.wrap (x : Int) = (x : Int) := IntWalk.u64_in _ ⟨by omega, by omega⟩
      have q5 : IntKind.u64.wrap (y : Int) = (y : Int) := IntWalk.u64_in _ ⟨by omega, by omega⟩
      have q6 : IntKind.u64.wrap (v.size : Int) = (v.size : Int) := IntWalk.u64_in _ ⟨by omega, by omega⟩
      have q7 : (v.size : Int) ≤ 16 := by omega
      obtain ⟨xs, hxs⟩ : ∃ xs, bs3 ++ (l.take i).flatMap rowB = xs := ⟨_, rfl⟩
      have hxs' : xs.length ≤ 1600 := by rw [← hxs, List.length_append]; omega
      rw [hxs] at HQ4
      have HXS : Hid (bs3 ++ (l.take i).flatMap rowB = xs) := hxs
      obtain ⟨⟨r0, r1, r2, r3⟩, lR⟩ := row_cells (HQ4.out.box _ List.mem_cons_self).1
      obtain ⟨W4, hW4⟩ : ∃ W4, wr.alloc (.cells #[.int .u64 (id : Int), .int .u32 (x : Int), .int .u32 (y : Int), .string v] 47) = W4 := ⟨_, rfl⟩
      have HW4 : Hid _ := hW4
      have HP4 : Hid (Ps g own0 w [(wr.heap.size, (.cells #[.int .u64 (id : Int), .int .u32 (x : Int), .int .u32 (y : Int), .string v] 47)), (w.heap.size, gcs ⟨qk, qX, qY, qL, (some ⟨pb, off, none⟩), l.length, qrc, qko, qkn, qkc, qnp, qnt⟩)] xs own' W4) := hW4 ▸ HQ4.out
      clear hP HP hc hsl htk hxl hxs hW4 hvr HQ4 r0 r1 r2 r3 lR
      go_wp2_with fail
      rw [HW4.out]
      clear HW4
      have r0 := True.intro
      have r1 := True.intro
      have r2 := True.intro
      have r3 := True.intro
      have lR := True.intro
      refine (HN.out own' xs id 8 (by omega) (by omega) W4 HP4.out.wr).mono ?_
      rintro e w5 ⟨rfl, k⟩
      obtain ⟨own5, hP⟩ := HP4.out.step k
      have HP5 : Hid (Ps g own0 w [(wr.heap.size, (.cells #[.int .u64 (id : Int), .int .u32 (x : Int), .int .u32 (y : Int), .string v] 47)), (w.heap.size, gcs ⟨qk, qX, qY, qL, (some ⟨pb, off, none⟩), l.length, qrc, qko, qkn, qkc, qnp, qnt⟩)] (xs ++ lef id 8) own5 w5) := hP
      clear r0 r1 r2 r3 lR
      obtain ⟨⟨r0, r1, r2, r3⟩, lR⟩ := row_cells (hP.box _ List.mem_cons_self).1
      clear k hP HP4
      go_wp2_with fail
      refine (HN.out own5 (xs ++ lef id 8) x 4 (by omega) (by simp only [List.length_append, lef_len]; omega) w5 HP5.out.wr).mono ?_
      rintro e w6 ⟨rfl, k⟩
      obtain ⟨own6, hP⟩ := HP5.out.step k
      have HP6 : Hid (Ps g own0 w [(wr.heap.size, (.cells #[.int .u64 (id : Int), .int .u32 (x : Int), .int .u32 (y : Int), .string v] 47)), (w.heap.size, gcs ⟨qk, qX, qY, qL, (some ⟨pb, off, none⟩), l.length, qrc, qko, qkn, qkc, qnp, qnt⟩)] (xs ++ lef id 8 ++ lef x 4) own6 w6) := hP
      clear r0 r1 r2 r3 lR
      obtain ⟨⟨r0, r1, r2, r3⟩, lR⟩ := row_cells (hP.box _ List.mem_cons_self).1
      clear k hP HP5
      go_wp2_with fail
      refine (HN.out own6 (xs ++ lef id 8 ++ lef x 4) y 4 (by omega) (by simp only [List.length_append, lef_len]; omega) w6 HP6.out.wr).mono ?_
      rintro e w7 ⟨rfl, k⟩
      obtain ⟨own7, hP⟩ := HP6.out.step k
      have HP7 : Hid (Ps g own0 w [(wr.heap.size, (.cells #[.int .u64 (id : Int), .int .u32 (x : Int), .int .u32 (y : Int), .string v] 47)), (w.heap.size, gcs ⟨qk, qX, qY, qL, (some ⟨pb, off, none⟩), l.length, qrc, qko, qkn, qkc, qnp, qnt⟩)] (xs ++ lef id 8 ++ lef x 4 ++ lef y 4) own7 w7) := hP
      clear r0 r1 r2 r3 lR
      obtain ⟨⟨r0, r1, r2, r3⟩, lR⟩ := row_cells (hP.box _ List.mem_cons_self).1
      clear k hP HP6
      go_wp2_with fail
      refine (HN.out own7 (xs ++ lef id 8 ++ lef x 4 ++ lef y 4) v.size 1 (by omega) (by simp only [List.length_append, lef_len]; omega) w7 HP7.out.wr).mono ?_
      rintro e w8 ⟨rfl, k⟩
      obtain ⟨own8, hP⟩ := HP7.out.step k
      have HP8 : Hid (Ps g own0 w [(wr.heap.size, (.cells #[.int .u64 (id : Int), .int .u32 (x : Int), .int .u32 (y : Int), .string v] 47)), (w.heap.size, gcs ⟨qk, qX, qY, qL, (some ⟨pb, off, none⟩), l.length, qrc, qko, qkn, qkc, qnp, qnt⟩)] (xs ++ lef id 8 ++ lef x 4 ++ lef y 4 ++ lef v.size 1) own8 w8) := hP
      clear r0 r1 r2 r3 lR
      obtain ⟨⟨r0, r1, r2, r3⟩, lR⟩ := row_cells (hP.box _ List.mem_cons_self).1
      clear k hP HP7
      go_wp2_with fail
      refine (HTX.out own8 (xs ++ lef id 8 ++ lef x 4 ++ lef y 4 ++ lef v.size 1) v (by simp only [List.length_append, lef_len]; omega) w8 HP8.out.wr).mono ?_
      rintro e w9 ⟨rfl, k⟩
      obtain ⟨own9, hP⟩ := HP8.out.step k
      have HE : Hid (Ps g own0 w [(w.heap.size, gcs ⟨qk, qX, qY, qL, (some ⟨pb, off, none⟩), l.length, qrc, qko, qkn, qkc, qnp, qnt⟩)] (bs3 ++ (l.take (i + 1)).flatMap rowB) own9 w9) := by
        refine (?_ : Ps g own0 w [(w.heap.size, gcs ⟨qk, qX, qY, qL, (some ⟨pb, off, none⟩), l.length, qrc, qko, qkn, qkc, qnp, qnt⟩)] (bs3 ++ (l.take (i + 1)).flatMap rowB) own9 w9)
        rw [HTK.out, ← List.append_assoc, HXS.out]
        have := hP.less (bx' := [(w.heap.size, gcs ⟨qk, qX, qY, qL, (some ⟨pb, off, none⟩), l.length, qrc, qko, qkn, qkc, qnp, qnt⟩)]) (fun p hp => List.mem_cons_of_mem _ hp)
        simpa only [rowB, List.append_assoc] using this
      clear k hP HP8 r0 r1 r2 r3 lR
      go_wp2_with fail
      go_roundw
      case rel => exact ⟨i + 1, own9, by omega, by go_num, HE.out⟩
      case measure => simp [natOf]; omega
    · obtain rfl : i = l.length := by omega
      have q3 : ¬ (l.length : Int) < (l.length : Int) := by omega
      have HE : Hid (Wrote g own0 (bs ++ leafB l qnp qnt) w wr) := by
        refine (?_ : Wrote g own0 (bs ++ leafB l qnp qnt) w wr)
        have := hP.wrote
        rw [List.take_length] at this
        rw [HE3.out]; exact this
      clear hP
      go_wp2_with fail
      refine bodyPost_end (results_none rfl _ _ _) rfl ?_
      exact ⟨rfl, HE.out⟩
end Go.Proofs.Ytljponlfjombaaa.Rw
/- An inner page's bytes are put. -/
namespace Go.Proofs.Ytljponlfjombaaa.Rw
open Go.RowKit Go.Lib Go.Shelf
open Go.Proofs.Ytljponlfjombaaa.Rc Go.Proofs.Ytljponlfjombaaa.Rq
set_option maxRecDepth 100000 in
theorem ref_cells {W : World} {B : Nat} {p : Nat} {v : ByteArray} {t : TypeId} (h : W.heap[B]? = some (.cells #[.int .u32 (p : Int), .string v] t (0, 0))) : (W.cell? ⟨B, 0, none⟩ = some (.int .u32 (p : Int)) ∧ W.cell? ⟨B, 1, none⟩ = some (.string v)) ∧ B < W.heap.size := by
  refine ⟨⟨?_, ?_⟩, (Array.getElem?_eq_some_iff.1 h).1⟩
  all_goals rw [cell_of_row _ _ _ _ _ _ h]; rfl
set_option maxRecDepth 100000 in
theorem refB_len (p : Nat) (t : ByteArray) (ht : t.size ≤ 100) : (refB p t).length ≤ 104 := by
  unfold refB
  rw [List.length_append, lef_len, Array.length_toList]
  split
  · decide
  · have : t.data.size = t.size := rfl
    omega
set_option maxRecDepth 100000 in
theorem fat_mem {l : List Rf} {i : Nat} (h : i < l.length) : fat l i ∈ l := by
  have := fat_some h
  exact List.mem_of_getElem? this
set_option maxRecDepth 100000 in
theorem kids_len {l : List Rf} (hv : ∀ r ∈ l, r.t.size ≤ 100) (i : Nat) : ((l.take i).flatMap fun r => refB r.p r.t).length ≤ i * 104 := by
  induction i with
  | zero => simp
  | succ i ih =>
    by_cases h : i < l.length
    · rw [List.take_add_one, List.getElem?_eq_getElem h, List.flatMap_append, List.length_append]
      have := refB_len l[i].p l[i].t (hv _ (List.getElem_mem h))
      simp only [Option.toList, List.flatMap_cons, List.flatMap_nil, List.append_nil]
      omega
    · rw [List.take_of_length_le (by omega)]
      rw [List.take_of_length_le (by omega)] at ih
      omega
set_option maxRecDepth 100000 in
set_option maxHeartbeats 4000000 in
theorem putInner_any (g : Nat) (own0 : Nat → Prop) (bs : List UInt8) (q : Pg) (l : List Rf) (Ln : Nat) (hl : bs.length ≤ 1000) (hn : l.length ≤ 10) (hv : ∀ r ∈ l, r.t.size ≤ 100 ∧ r.p < 4294967296) (hX : q.X < 4294967296) (hY : q.Y < 4294967296) (hL : q.L = (Ln : Int)) (hLn : Ln ≤ 1000) (w : World) (h : Wr g own0 bs w) (hrn : q.kn = l.length) (hr : RefsAt w q.ko q.kc l) (hrb : ∀ b off, q.ko = some ⟨b, off, none⟩ → 0 < l.length → ¬ own0 b) :
    Calls Try.prog 28 #[pvv g, gv q] w fun e w' => e = .returned (.tuple #[]) ∧ Wrote g own0 (bs ++ innerB q.X q.Y Ln l) w w' := by
  have P0 : Ps g own0 w [(w.heap.size, gcs q)] bs own0 (w.alloc (gcs q)) := (Ps.start h).with (gcs q) (heap_alloc_new w _)
  have HR : Hid (RefsAt w q.ko q.kc l) := hr
  have HRB : Hid (∀ b off, q.ko = some ⟨b, off, none⟩ → 0 < l.length → ¬ own0 b) := hrb
  have HV : Hid (∀ r ∈ l, r.t.size ≤ 100 ∧ r.p < 4294967296) := hv
  have HN : Hid _ := fun own xs v sz h1 h2 W => putNumber_any g own xs v sz h1 h2 W
  have HRF : Hid _ := fun own xs p t h1 h2 h3 W => putRef_any g own xs p t h1 h2 h3 W
  have HVS : Hid (∀ r ∈ l, r.t.size ≤ 100) := fun r hr => (hv r hr).1
  obtain ⟨qk, qX, qY, qL, qro, qrn, qrc, qko, qkn, qkc, qnp, qnt⟩ := q
  simp only at hrn HR HRB hX hY hL
  subst hrn
  subst hL
  have HP0 : Hid _ := P0
  clear P0 h hr hrb hv
  obtain ⟨W0, hW0⟩ : ∃ W0, w.alloc (gcs ⟨qk, qX, qY, (Ln : Int), qro, qrn, qrc, qko, l.length, qkc, qnp, qnt⟩) = W0 := ⟨_, rfl⟩
  have HW0 : Hid (w.alloc (.cells #[.int .i64 qk, .int .u32 (qX : Int), .int .u32 (qY : Int), .int .i64 (Ln : Int), .slice qro qrn qrc, .slice qko l.length qkc, .int .u32 (qnp : Int), .string qnt] 30) = W0) := hW0
  rw [hW0] at HP0
  clear hW0
  have q0 : (l.length : Int) ≤ 10 := by omega
  have q1 : IntKind.u64.wrap (l.length : Int) = (l.length : Int) := IntWalk.u64_in _ ⟨by omega, by omega⟩
  have q1a : IntKind.u64.wrap (Ln : Int) = (Ln : Int) := IntWalk.u64_in _ ⟨by omega, by omega⟩
  have q1b : IntKind.u64.wrap (qX : Int) = (qX : Int) := IntWalk.u64_in _ ⟨by omega, by omega⟩
  have q1c : IntKind.u64.wrap (qY : Int) = (qY : Int) := IntWalk.u64_in _ ⟨by omega, by omega⟩
  simp only [gv]
  go_enter Try.func28, Try.ntmps28
  go_wp2_with fail
  rw [HW0.out]
  clear HW0
  refine (HN.out own0 (bs) 2 1 (by omega) (by omega) W0 HP0.out.wr).mono ?_
  rintro e w1 ⟨rfl, k⟩
  obtain ⟨own1, hP⟩ := HP0.out.step k
  have HP1 : Hid (Ps g own0 w [(w.heap.size, gcs ⟨qk, qX, qY, (Ln : Int), qro, qrn, qrc, qko, l.length, qkc, qnp, qnt⟩)] (bs ++ lef 2 1) own1 w1) := hP
  obtain ⟨⟨-, c1, c2, c3, -, c5, -, -⟩, lB⟩ := pg_cells (hP.box _ List.mem_cons_self).1
  simp only at c1 c2 c3 c5
  clear k hP HP0
  go_wp2_with fail
  refine (HN.out own1 (bs ++ lef 2 1) l.length 1 (by omega) (by simp only [List.length_append, lef_len]; omega) w1 HP1.out.wr).mono ?_
  rintro e w2 ⟨rfl, k⟩
  obtain ⟨own2, hP⟩ := HP1.out.step k
  have HP2 : Hid (Ps g own0 w [(w.heap.size, gcs ⟨qk, qX, qY, (Ln : Int), qro, qrn, qrc, qko, l.length, qkc, qnp, qnt⟩)] (bs ++ lef 2 1 ++ lef l.length 1) own2 w2) := hP
  clear c1 c2 c3 c5 lB
  obtain ⟨⟨-, c1, c2, c3, -, c5, -, -⟩, lB⟩ := pg_cells (hP.box _ List.mem_cons_self).1
  simp only at c1 c2 c3 c5
  clear k hP HP1
  go_wp2_with fail
  refine (HN.out own2 (bs ++ lef 2 1 ++ lef l.length 1) Ln 1 (by omega) (by simp only [List.length_append, lef_len]; omega) w2 HP2.out.wr).mono ?_
  rintro e w3 ⟨rfl, k⟩
  obtain ⟨own3, hP⟩ := HP2.out.step k
  have HP3 : Hid (Ps g own0 w [(w.heap.size, gcs ⟨qk, qX, qY, (Ln : Int), qro, qrn, qrc, qko, l.length, qkc, qnp, qnt⟩)] (bs ++ lef 2 1 ++ lef l.length 1 ++ lef Ln 1) own3 w3) := hP
  clear c1 c2 c3 c5 lB
  obtain ⟨⟨-, c1, c2, c3, -, c5, -, -⟩, lB⟩ := pg_cells (hP.box _ List.mem_cons_self).1
  simp only at c1 c2 c3 c5
  clear k hP HP2
  go_wp2_with fail
  refine (HN.out own3 (bs ++ lef 2 1 ++ lef l.length 1 ++ lef Ln 1) qX 4 (by omega) (by simp only [List.length_append, lef_len]; omega) w3 HP3.out.wr).mono ?_
  rintro e w4 ⟨rfl, k⟩
  obtain ⟨own4, hP⟩ := HP3.out.step k
  have HP4 : Hid (Ps g own0 w [(w.heap.size, gcs ⟨qk, qX, qY, (Ln : Int), qro, qrn, qrc, qko, l.length, qkc, qnp, qnt⟩)] (bs ++ lef 2 1 ++ lef l.length 1 ++ lef Ln 1 ++ lef qX 4) own4 w4) := hP
  clear c1 c2 c3 c5 lB
  obtain ⟨⟨-, c1, c2, c3, -, c5, -, -⟩, lB⟩ := pg_cells (hP.box _ List.mem_cons_self).1
  simp only at c1 c2 c3 c5
  clear k hP HP3
  go_wp2_with fail
  refine (HN.out own4 (bs ++ lef 2 1 ++ lef l.length 1 ++ lef Ln 1 ++ lef qX 4) qY 4 (by omega) (by simp only [List.length_append, lef_len]; omega) w4 HP4.out.wr).mono ?_
  rintro e w5 ⟨rfl, k⟩
  obtain ⟨own5, hP⟩ := HP4.out.step k
  have HP5 : Hid (Ps g own0 w [(w.heap.size, gcs ⟨qk, qX, qY, (Ln : Int), qro, qrn, qrc, qko, l.length, qkc, qnp, qnt⟩)] (bs ++ lef 2 1 ++ lef l.length 1 ++ lef Ln 1 ++ lef qX 4 ++ lef qY 4) own5 w5) := hP
  clear c1 c2 c3 c5 lB
  obtain ⟨⟨-, c1, c2, c3, -, c5, -, -⟩, lB⟩ := pg_cells (hP.box _ List.mem_cons_self).1
  simp only at c1 c2 c3 c5
  clear k hP HP4
  go_wp2_with fail
  obtain ⟨bs3, hbs3⟩ : ∃ bs3, bs ++ lef 2 1 ++ lef l.length 1 ++ lef Ln 1 ++ lef qX 4 ++ lef qY 4 = bs3 := ⟨_, rfl⟩
  have hb3 : bs3.length ≤ 1200 := by rw [← hbs3]; simp only [List.length_append, lef_len]; omega
  have HE3 : Hid (bs ++ innerB qX qY Ln l = bs3 ++ l.flatMap (fun r => refB r.p r.t)) := by
    refine (?_ : bs ++ innerB qX qY Ln l = bs3 ++ l.flatMap (fun r => refB r.p r.t))
    rw [← hbs3]; simp only [innerB, List.append_assoc]
  rw [hbs3] at HP5
  clear hbs3 c1 c2 c3 c5 lB
  go_loopw [35] (fun iv wr => ∃ (i : Nat) (own' : Nat → Prop), i ≤ l.length ∧ iv = .int .i64 (i : Int) ∧ Ps g own0 w [(w.heap.size, gcs ⟨qk, qX, qY, (Ln : Int), qro, qrn, qrc, qko, l.length, qkc, qnp, qnt⟩)] (bs3 ++ (l.take i).flatMap (fun r => refB r.p r.t)) own' wr) (fun iv _ => l.length - natOf iv)
  case atStart => exact ⟨0, own5, Nat.zero_le _, rfl, by simpa using HP5.out⟩
  case round =>
    obtain ⟨i, own', hi, rfl, hP⟩ := hrel
    have HP : Hid _ := hP
    by_cases hlt : i < l.length
    · have hsl := hP.sl (k := 2) (cs := l.flatMap fc) HR.out HRB.out
      obtain ⟨pb, off, rfl, hbl, hc⟩ := RefsAt.ref (l := l) hsl hlt
      obtain ⟨d0, d1⟩ := hc i hlt
      have hvr := HV.out _ (fat_mem hlt)
      have htk : (l.take (i + 1)).flatMap (fun r => refB r.p r.t) = (l.take i).flatMap (fun r => refB r.p r.t) ++ refB (fat l i).p (fat l i).t := by
        rw [List.take_add_one, fat_some hlt, List.flatMap_append]; simp
      have hxl := kids_len HVS.out i
      generalize fat l i = rr at *
      obtain ⟨p, v⟩ := rr
      simp only at d0 d1 hvr htk
      have HTK : Hid _ := htk
      have HQ4 : Hid (Ps g own0 w [(wr.heap.size, (.cells #[.int .u32 (p : Int), .string v] 28)), (w.heap.size, gcs ⟨qk, qX, qY, (Ln : Int), qro, qrn, qrc, (some ⟨pb, off, none⟩), l.length, qkc, qnp, qnt⟩)] (bs3 ++ (l.take i).flatMap (fun r => refB r.p r.t)) own' (wr.alloc (.cells #[.int .u32 (p : Int), .string v] 28))) := hP.with _ (heap_alloc_new wr _)
      have q3 : (i : Int) < (l.length : Int) := by omega
      have i0 : (0 : Int) ≤ (i : Int) := by omega
      obtain ⟨xs, hxs⟩ : ∃ xs, bs3 ++ (l.take i).flatMap (fun r => refB r.p r.t) = xs := ⟨_, rfl⟩
      have hxs' : xs.length ≤ 2300 := by rw [← hxs, List.length_append]; omega
      rw [hxs] at HQ4
      have HXS : Hid (bs3 ++ (l.take i).flatMap (fun r => refB r.p r.t) = xs) := hxs
      obtain ⟨W6, hW6⟩ : ∃ W6, wr.alloc (.cells #[.int .u32 (p : Int), .string v] 28) = W6 := ⟨_, rfl⟩
      have HW6 : Hid _ := hW6
      have HP6 : Hid (Ps g own0 w [(wr.heap.size, (.cells #[.int .u32 (p : Int), .string v] 28)), (w.heap.size, gcs ⟨qk, qX, qY, (Ln : Int), qro, qrn, qrc, (some ⟨pb, off, none⟩), l.length, qkc, qnp, qnt⟩)] xs own' W6) := hW6 ▸ HQ4.out
      clear hP HP hc hsl htk hxl hxs hW6 HQ4
      go_wp2_with fail
      rw [HW6.out]
      clear HW6
      refine (HRF.out own' xs p v hvr.2 (by omega) hvr.1 W6 HP6.out.wr).mono ?_
      rintro e w9 ⟨rfl, k⟩
      obtain ⟨own9, hP⟩ := HP6.out.step k
      have HE : Hid (Ps g own0 w [(w.heap.size, gcs ⟨qk, qX, qY, (Ln : Int), qro, qrn, qrc, (some ⟨pb, off, none⟩), l.length, qkc, qnp, qnt⟩)] (bs3 ++ (l.take (i + 1)).flatMap (fun r => refB r.p r.t)) own9 w9) := by
        refine (?_ : Ps g own0 w [(w.heap.size, gcs ⟨qk, qX, qY, (Ln : Int), qro, qrn, qrc, (some ⟨pb, off, none⟩), l.length, qkc, qnp, qnt⟩)] (bs3 ++ (l.take (i + 1)).flatMap (fun r => refB r.p r.t)) own9 w9)
        rw [HTK.out, ← List.append_assoc, HXS.out]
        exact hP.less (bx' := [(w.heap.size, gcs ⟨qk, qX, qY, (Ln : Int), qro, qrn, qrc, (some ⟨pb, off, none⟩), l.length, qkc, qnp, qnt⟩)]) (fun p hp => List.mem_cons_of_mem _ hp)
      clear k hP HP6
      go_wp2_with fail
      go_roundw
      case rel => exact ⟨i + 1, own9, by omega, by go_num, HE.out⟩
      case measure => simp [natOf]; omega
    · obtain rfl : i = l.length := by omega
      have q3 : ¬ (l.length : Int) < (l.length : Int) := by omega
      have HE : Hid (Wrote g own0 (bs ++ innerB qX qY Ln l) w wr) := by
        refine (?_ : Wrote g own0 (bs ++ innerB qX qY Ln l) w wr)
        have := hP.wrote
        rw [List.take_length] at this
        rw [HE3.out]; exact this
      clear hP
      go_wp2_with fail
      refine bodyPost_end (results_none rfl _ _ _) rfl ?_
      exact ⟨rfl, HE.out⟩
end Go.Proofs.Ytljponlfjombaaa.Rw
