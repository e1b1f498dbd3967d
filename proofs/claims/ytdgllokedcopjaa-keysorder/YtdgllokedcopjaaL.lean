/- The reference's Add. -/
import Derived.Test.YtdgllokedcopjaaK
namespace Go.Proofs.Ytdgllokedcopjaa
open Go.RowKit
/-- A key laid in ahead of the first newer one. -/
def insR : List Ky → Ky → List Ky
  | [], k => [k]
  | x :: t, k => if k.1 < x.1 then k :: x :: t else x :: insR t k
theorem insR_cons (x : Ky) (t : List Ky) (k : Ky) : insR (x :: t) k = if k.1 < x.1 then k :: x :: t else x :: insR t k := rfl
theorem insR_length (l : List Ky) (k : Ky) : (insR l k).length = l.length + 1 := by
  induction l with
  | nil => rfl
  | cons x t ih => unfold insR; split <;> simp [ih]
theorem withS_nil (k : Ky) : withS [] k = [k] := rfl
theorem withS_cons (x : Ky) (t : List Ky) (k : Ky) : withS (x :: t) k = if x.1 < k.1 then x :: withS t k else k :: x :: t := by
  unfold withS
  rw [placeS_cons]
  split <;> simp
theorem rises_ins_lt (b : Int) (t : List Ky) (k : Ky) (h : rises b (insR t k) = true) : b < k.1 := by
  induction t generalizing b with
  | nil => exact ((rises_cons _ _ _).1 h).1
  | cons y t ih =>
    unfold insR at h
    split at h
    · exact ((rises_cons _ _ _).1 h).1
    · obtain ⟨h1, _, h2⟩ := (rises_cons _ _ _).1 h
      have := ih _ h2
      omega
theorem ins_with (a : Int) (l : List Ky) (k : Ky) (h : rises a l = true) : rises a (insR l k) = rises a (withS l k) ∧ (rises a (insR l k) = true → insR l k = withS l k) := by
  induction l generalizing a with
  | nil => exact ⟨rfl, fun _ => rfl⟩
  | cons x t ih =>
    obtain ⟨h1, h2, h3⟩ := (rises_cons _ _ _).1 h
    rw [withS_cons]
    unfold insR
    by_cases hk : k.1 < x.1
    · rw [if_pos hk, if_neg (by omega)]; exact ⟨rfl, fun _ => rfl⟩
    · rw [if_neg hk]
      by_cases hx : x.1 < k.1
      · rw [if_pos hx]
        obtain ⟨i1, i2⟩ := ih _ h3
        refine ⟨by simp only [rises, i1], fun hr => ?_⟩
        rw [i2 ((rises_cons _ _ _).1 hr).2.2]
      · rw [if_neg hx]
        have f1 : rises a (x :: insR t k) = false := by
          cases e : rises a (x :: insR t k) with
          | false => rfl
          | true => exact absurd (rises_ins_lt _ _ _ ((rises_cons _ _ _).1 e).2.2) (by omega)
        have f2 : rises a (k :: x :: t) = false := by
          cases e : rises a (k :: x :: t) with
          | false => rfl
          | true => exact absurd ((rises_cons _ _ _).1 ((rises_cons _ _ _).1 e).2.2).1 (by omega)
        rw [f1, f2]
        exact ⟨rfl, fun h => by cases h⟩
theorem ins_right (l : List Ky) (k : Ky) (h : rightS l = true) : rightS (insR l k) = rightS (withS l k) ∧ (rightS (insR l k) = true → insR l k = withS l k) := by
  have hr := ((right_iff l).1 h).2
  obtain ⟨h1, h2⟩ := ins_with 0 l k hr
  unfold rightS
  rw [insR_length, withS_length, h1]
  refine ⟨rfl, fun e => h2 ?_⟩
  rw [h1]
  simp at e
  exact e.2
theorem drop_kat (l : List Ky) (n : Nat) (h : n < l.length) : l.drop n = kat l n :: l.drop (n + 1) := by
  rw [List.drop_eq_getElem_cons h]
  congr 1
  have := kat_some h
  rw [List.getElem?_eq_getElem h] at this
  exact Option.some.inj this
/-- Where the walk is, n keys on. -/
def IR (l : List Ky) (k : Ky) (w : World) (n : Nat) (v : Value) (dn : Bool) (out : List Ky) (W : World) : Prop :=
  (insR l k = if dn = true then out ++ l.drop n else out ++ insR (l.drop n) k) ∧ out.length ≤ n + (if dn = true then 1 else 0) ∧ W.ownsRow (w.heap.size + 1) 31 2 v out.length (cellsOf out) ∧ W.heap[w.heap.size]? = some (.cells #[.int .u32 k.1, .string k.2] 31 (0, 0)) ∧ Below w.heap.size w W
theorem own_below {W W' : World} {base : Nat} {e : TypeId} {sz : Nat} {v : Value} {n : Nat} {xs : List Value} (ho : W.ownsRow base e sz v n xs) (hb : Below W.heap.size W W') : W'.ownsRow base e sz v n xs :=
  ho.kept (row := none) ⟨hb.os, hb.tape, hb.output, hb.size, fun j hj _ => hb.block j hj⟩ (by cases v.ownBlock <;> simp)
theorem IR.below {l : List Ky} {k : Ky} {w : World} {n : Nat} {v : Value} {dn : Bool} {out : List Ky} {W W' : World} (h : IR l k w n v dn out W) (hb : Below W.heap.size W W') : IR l k w n v dn out W' :=
  ⟨h.1, h.2.1, own_below h.2.2.1 hb, (hb.block _ (Array.getElem?_eq_some_iff.1 h.2.2.2.1).1).trans h.2.2.2.1, h.2.2.2.2.trans (hb.mono h.2.2.2.2.size)⟩
/-- A key, laid in new cells, behind a row of its own. -/
theorem push_key {l : List Ky} {k : Ky} {w : World} {v : Value} {out : List Ky} {W : World} (x : Ky) (ho : W.ownsRow (w.heap.size + 1) 31 2 v out.length (cellsOf out)) (hb : Below w.heap.size w W) (h0 : W.heap[w.heap.size]? = some (.cells #[.int .u32 k.1, .string k.2] 31 (0, 0))) (hs : out.length ≤ 500) :
    ∃ v' W', (Builtin.append_ #[22, 22] 22 #[v, .slice (some ⟨W.heap.size, 0, none⟩) 1 1]).run Try.prog (W.alloc (.cells #[.int .u32 x.1, .string x.2] 31)) = .ok v' W' ∧ W'.ownsRow (w.heap.size + 1) 31 2 v' (out ++ [x]).length (cellsOf (out ++ [x])) ∧ W'.heap[w.heap.size]? = some (.cells #[.int .u32 k.1, .string k.2] 31 (0, 0)) ∧ Below w.heap.size w W' ∧
      (∀ (o : Option Addr) (cap : Nat), Ring w o cap l → Ring W' o cap l) := by
  have hl : w.heap.size < W.heap.size := (Array.getElem?_eq_some_iff.1 h0).1
  obtain ⟨v', W', hr, ho', hg⟩ := append_own (W.alloc (.cells #[.int .u32 x.1, .string x.2] 31)) (w.heap.size + 1) _ v (some ⟨W.heap.size, 0, none⟩) 1 out [x] (ho.alloc _) (by simp; omega) (one_ring (heap_alloc_new W _)) (by simp; omega)
  have hne : ∀ j, v.ownBlock = some j → w.heap.size + 1 ≤ j := fun j e => (ho.lt j e).1
  have B : Below w.heap.size w W' := (hb.alloc (by omega) _).grown hg (by simp; omega) (fun j e => by have := hne j e; omega)
  refine ⟨v', W', hr, by simpa using ho', (hg.block _ (by simp; omega) (by intro e; have := hne _ e.symm; omega)).trans ((Below.heap_alloc _ _ _ hl).trans h0), B, fun o cap h => h.below B (Nat.le_refl _)⟩
set_option maxRecDepth 100000 in
set_option maxHeartbeats 4000000 in
theorem refAdd_any (l : List Ky) (k : Ky) (o : Option Addr) (cap : Nat) (w : World) (hr : Ring w o cap l) (hl30 : l.length ≤ 100) :
    Calls Try.prog 16 #[.slice o l.length cap, kv k] w fun e w' => ∃ o' cap', e = .returned (.tuple #[.slice o' (alS l k).length cap', .int .i64 (aeS l k)]) ∧ Ring w' o' cap' (alS l k) ∧ Below w.heap.size w w' := by
  have n0 : (0 : Int) ≤ (l.length : Int) := by omega
  have n1 : (l.length : Int) ≤ 100 := by omega
  have HG : Hid (Ring w o cap l) := hr
  clear hr
  obtain ⟨g, s⟩ := k
  unfold kv
  go_enter Try.func16, Try.ntmps16
  go_wp2_with fail
  go_loopw [6, 7, 8] (fun v d i wr => ∃ (n : Nat) (dn : Bool) (out : List Ky), n ≤ l.length ∧ i = .int .i64 (n : Int) ∧ d = .bool dn ∧ IR l (g, s) w n v dn out wr) (fun _ _ i _ => l.length - natOf i)
  case atStart => exact ⟨0, false, [], by omega, rfl, rfl, rfl, by simp, World.ownsRow_nil _ _ _ _, heap_alloc_new w _, below_new w _⟩
  case round =>
    obtain ⟨n, dn, out, hn, rfl, rfl, hI⟩ := hrel
    have HI : Hid (IR l (g, s) w n u6 dn out wr) := hI
    have c0 : wr.cell? ⟨w.heap.size, 0, none⟩ = some (.int .u32 g) := by rw [cell_of_row _ _ _ _ _ _ hI.2.2.2.1]; rfl
    have c1 : wr.cell? ⟨w.heap.size, 1, none⟩ = some (.string s) := by rw [cell_of_row _ _ _ _ _ _ hI.2.2.2.1]; rfl
    clear hI
    by_cases hlt : n < l.length
    · have g0 : (n : Int) < (l.length : Int) := by omega
      have g1 : (0 : Int) ≤ (n : Int) := by omega
      obtain ⟨b, off, rfl, hbl, hc⟩ := (HG.out.below HI.out.2.2.2.2 (Nat.le_refl _)).2.2.2 (by intro e; rw [e] at hlt; simp at hlt)
      obtain ⟨d1, d2⟩ := hc n hlt
      have HD : Hid (l.drop n = kat l n :: l.drop (n + 1)) := drop_kat l n hlt
      have HT : Hid (∀ W, Below w.heap.size w W → Two W b (off + n * 2) (kat l n)) := fun W hB => by
        obtain ⟨b', off', e', hbl', hc'⟩ := (HG.out.below hB (Nat.le_refl _)).2.2.2 (by intro e; rw [e] at hlt; simp at hlt)
        cases e'
        exact hc' n hlt
      obtain ⟨x, hx⟩ : ∃ x, kat l n = x := ⟨_, rfl⟩
      rw [hx] at d1 d2 HD HT
      clear hc hx
      obtain ⟨x, t⟩ := x
      simp only at d1 d2
      cases dn
      · by_cases hgx : g < x
        · have HGX : Hid (g < x) := hgx
          go_wp2_with fail
          go_quiet (fail)
          have HQ : Hid (IR l (g, s) w n u6 false out (wr.drewN nq)) := HI.out.below (below_drewN _ _ _)
          rename_i hlast
          refine hlast _ _ ?_
          clear c0 c1 d1 d2 HI
          generalize wr.drewN nq = wq at *
          have hI := HQ.out
          have ho := hI.2.1
          simp at ho
          obtain ⟨v5, W5, hr5, o5, h5, B5, _⟩ := push_key (l := l) (g, s) hI.2.2.1 hI.2.2.2.2 hI.2.2.2.1 (by omega)
          obtain ⟨v6, W6, hr6, o6, h6, B6, _⟩ := push_key (l := l) (x, t) o5 B5 h5 (by simp; omega)
          have c0 : wq.cell? ⟨w.heap.size, 0, none⟩ = some (.int .u32 g) := by rw [cell_of_row _ _ _ _ _ _ hI.2.2.2.1]; rfl
          have c1 : wq.cell? ⟨w.heap.size, 1, none⟩ = some (.string s) := by rw [cell_of_row _ _ _ _ _ _ hI.2.2.2.1]; rfl
          obtain ⟨d1, d2⟩ := HT.out W5 B5
          have HF : Hid (IR l (g, s) w (n + 1) v6 true (out ++ [(g, s)] ++ [(x, t)]) W6) := by
            refine ⟨?_, by simp; omega, o6, h6, B6⟩
            rw [hI.1, HD.out, insR_cons, if_pos HGX.out]
            simp
          clear o5 h5 B5 o6 h6 B6 hI ho
          simp only at c0 c1 d1 d2
          go_wp2_with (first
            | (at_builtin; refine list_append rfl 22 22 (.tmp 29) (.tmp 31) rfl (vs := u6) (vx := .slice (some ⟨wq.heap.size, 0, none⟩) 1 1) rfl rfl hr5 ?_)
            | (at_builtin; refine list_append rfl 22 22 (.tmp 33) (.tmp 38) rfl (vs := v5) (vx := .slice (some ⟨W5.heap.size, 0, none⟩) 1 1) rfl rfl hr6 ?_))
          go_roundw
          case rel => exact ⟨n + 1, true, _, by omega, by go_num, rfl, HF.out⟩
          case measure => simp [natOf]; omega
        · have HGX : Hid (¬ g < x) := hgx
          go_wp2_with fail
          go_quiet (fail)
          have HQ : Hid (IR l (g, s) w n u6 false out (wr.drewN nq)) := HI.out.below (below_drewN _ _ _)
          rename_i hlast
          refine hlast _ _ ?_
          clear c0 c1 d1 d2 HI
          generalize wr.drewN nq = wq at *
          have hI := HQ.out
          have ho := hI.2.1
          simp at ho
          obtain ⟨v6, W6, hr6, o6, h6, B6, _⟩ := push_key (l := l) (x, t) hI.2.2.1 hI.2.2.2.2 hI.2.2.2.1 (by omega)
          obtain ⟨d1, d2⟩ := HT.out wq hI.2.2.2.2
          have HF : Hid (IR l (g, s) w (n + 1) v6 false (out ++ [(x, t)]) W6) := by
            refine ⟨?_, by simp; omega, o6, h6, B6⟩
            rw [hI.1, HD.out]
            have hgx2 : ¬ (((g, s) : Ky).1 < ((x, t) : Ky).1) := Int.not_lt.2 HGX.out
            rw [insR_cons, if_neg hgx2]
            simp
          clear o6 h6 B6 hI ho
          simp only at d1 d2
          go_wp2_with (at_builtin; refine list_append rfl 22 22 (.tmp 33) (.tmp 38) rfl (vs := u6) (vx := .slice (some ⟨wq.heap.size, 0, none⟩) 1 1) rfl rfl hr6 ?_)
          go_roundw
          case rel => exact ⟨n + 1, false, _, by omega, by go_num, rfl, HF.out⟩
          case measure => simp [natOf]; omega
      · go_wp2_with fail
        go_quiet (fail)
        have HQ : Hid (IR l (g, s) w n u6 true out (wr.drewN nq)) := HI.out.below (below_drewN _ _ _)
        rename_i hlast
        refine hlast _ _ ?_
        clear c0 c1 d1 d2 HI
        generalize wr.drewN nq = wq at *
        have hI := HQ.out
        have ho := hI.2.1
        simp at ho
        obtain ⟨v6, W6, hr6, o6, h6, B6, _⟩ := push_key (l := l) (x, t) hI.2.2.1 hI.2.2.2.2 hI.2.2.2.1 (by omega)
        obtain ⟨d1, d2⟩ := HT.out wq hI.2.2.2.2
        have HF : Hid (IR l (g, s) w (n + 1) v6 true (out ++ [(x, t)]) W6) := by
          refine ⟨?_, by simp; omega, o6, h6, B6⟩
          rw [hI.1, HD.out]
          simp
        clear o6 h6 B6 hI ho
        simp only at d1 d2
        go_wp2_with (at_builtin; refine list_append rfl 22 22 (.tmp 33) (.tmp 38) rfl (vs := u6) (vx := .slice (some ⟨wq.heap.size, 0, none⟩) 1 1) rfl rfl hr6 ?_)
        go_roundw
        case rel => exact ⟨n + 1, true, _, by omega, by go_num, rfl, HF.out⟩
        case measure => simp [natOf]; omega
    · have g0 : ¬ (n : Int) < (l.length : Int) := by omega
      have hdr : l.drop n = [] := List.drop_eq_nil_iff.2 (by omega)
      have fin : Hid (∀ (v : Value) (W : World), W.ownsRow (w.heap.size + 1) 31 2 v (insR l (g, s)).length (cellsOf (insR l (g, s))) → Below w.heap.size w W → ∃ o6 cap6, v = .slice o6 (insR l (g, s)).length cap6 ∧ Ring W o6 cap6 (insR l (g, s)) ∧ Ring W o cap l ∧ Below w.heap.size w W) := fun v W h1 h2 => by
        obtain ⟨_, o6, cap6, e, R⟩ := ring_of_own h1
        exact ⟨o6, cap6, e, R, HG.out.below h2 (Nat.le_refl _), h2⟩
      have HV : Hid (∀ a b : Bool, rightS l = a → rightS (insR l (g, s)) = b → (a = true ∧ b = true → alS l (g, s) = insR l (g, s) ∧ aeS l (g, s) = 0) ∧ (¬ (a = true ∧ b = true) → alS l (g, s) = [] ∧ aeS l (g, s) = 40)) := fun a b ha hb => by
        refine ⟨fun h => ?_, fun h => ?_⟩
        · obtain ⟨rfl, rfl⟩ := h
          have := ins_right l (g, s) ha
          rw [hb] at this
          have e := this.2 rfl
          unfold alS aeS
          rw [← e, if_pos ⟨ha, hb⟩, if_pos ⟨ha, hb⟩]
          exact ⟨rfl, rfl⟩
        · by_cases e : a = true
          · subst e
            have h1 := (ins_right l (g, s) ha).1
            have : rightS (withS l (g, s)) = false := by
              rw [← h1, hb]
              cases b
              · rfl
              · simp at h
            simp [alS, aeS, this]
          · have : rightS l = false := by rw [ha]; simpa using e
            simp [alS, aeS, this]
      cases dn
      · have hI := HI.out
        have ho := hI.2.1
        simp at ho
        obtain ⟨v5, W5, hr5, o5, h5, B5, _⟩ := push_key (l := l) (g, s) hI.2.2.1 hI.2.2.2.2 hI.2.2.2.1 (by omega)
        have e5 : out ++ [(g, s)] = insR l (g, s) := by rw [hI.1, hdr]; rfl
        rw [e5] at o5
        obtain ⟨o6, cap6, rfl, R6, RL, _⟩ := fin.out v5 W5 o5 B5
        have HR6 : Hid _ := R6
        have HRL : Hid _ := RL
        have HB5 : Hid _ := B5
        clear o5 h5 B5 hI ho R6 RL e5 hdr fin
        go_wp2_with (at_builtin; refine list_append rfl 22 22 (.tmp 42) (.tmp 44) rfl (vs := u6) (vx := .slice (some ⟨wr.heap.size, 0, none⟩) 1 1) rfl rfl hr5 ?_)
        clear hr5 c0 c1
        refine (refRight_any l o cap _ HRL.out).mono ?_
        rintro e w7 ⟨rfl, rfl⟩
        go_wp2_with fail
        refine (refRight_any (insR l (g, s)) o6 cap6 _ HR6.out).mono ?_
        rintro e w8 ⟨rfl, rfl⟩
        cases ha : rightS l <;> cases hb : rightS (insR l (g, s))
        · have HX : Hid _ := (HV.out _ _ ha hb).2 (by simp)
          clear ha hb HV
          go_wp2_with fail
          refine bodyPost_ret (results_tmp2 rfl _ _ _) rfl ?_
          exact ⟨none, 0, by rw [HX.out.1, HX.out.2]; rfl, by rw [HX.out.1]; exact nil_ring _, HB5.out⟩
        · have HX : Hid _ := (HV.out _ _ ha hb).2 (by simp)
          clear ha hb HV
          go_wp2_with fail
          refine bodyPost_ret (results_tmp2 rfl _ _ _) rfl ?_
          exact ⟨none, 0, by rw [HX.out.1, HX.out.2]; rfl, by rw [HX.out.1]; exact nil_ring _, HB5.out⟩
        · have HX : Hid _ := (HV.out _ _ ha hb).2 (by simp)
          clear ha hb HV
          go_wp2_with fail
          refine bodyPost_ret (results_tmp2 rfl _ _ _) rfl ?_
          exact ⟨none, 0, by rw [HX.out.1, HX.out.2]; rfl, by rw [HX.out.1]; exact nil_ring _, HB5.out⟩
        · have HX : Hid _ := (HV.out _ _ ha hb).1 (by simp)
          clear ha hb HV
          go_wp2_with fail
          refine bodyPost_ret (results_tmp2 rfl _ _ _) rfl ?_
          exact ⟨o6, cap6, by rw [HX.out.1, HX.out.2]; rfl, by rw [HX.out.1]; exact HR6.out, HB5.out⟩
      · have hI := HI.out
        have e5 : out = insR l (g, s) := by rw [hI.1, hdr]; simp
        have o5 := hI.2.2.1
        have HB5 : Hid (Below w.heap.size w wr) := hI.2.2.2.2
        rw [e5] at o5
        obtain ⟨o6, cap6, rfl, R6, RL, _⟩ := fin.out _ _ o5 HB5.out
        have HR6 : Hid _ := R6
        have HRL : Hid _ := RL
        clear o5 hI R6 RL e5 hdr fin
        go_wp2_with fail
        clear c0 c1
        refine (refRight_any l o cap _ HRL.out).mono ?_
        rintro e w7 ⟨rfl, rfl⟩
        go_wp2_with fail
        refine (refRight_any (insR l (g, s)) o6 cap6 _ HR6.out).mono ?_
        rintro e w8 ⟨rfl, rfl⟩
        cases ha : rightS l <;> cases hb : rightS (insR l (g, s))
        · have HX : Hid _ := (HV.out _ _ ha hb).2 (by simp)
          clear ha hb HV
          go_wp2_with fail
          refine bodyPost_ret (results_tmp2 rfl _ _ _) rfl ?_
          exact ⟨none, 0, by rw [HX.out.1, HX.out.2]; rfl, by rw [HX.out.1]; exact nil_ring _, HB5.out⟩
        · have HX : Hid _ := (HV.out _ _ ha hb).2 (by simp)
          clear ha hb HV
          go_wp2_with fail
          refine bodyPost_ret (results_tmp2 rfl _ _ _) rfl ?_
          exact ⟨none, 0, by rw [HX.out.1, HX.out.2]; rfl, by rw [HX.out.1]; exact nil_ring _, HB5.out⟩
        · have HX : Hid _ := (HV.out _ _ ha hb).2 (by simp)
          clear ha hb HV
          go_wp2_with fail
          refine bodyPost_ret (results_tmp2 rfl _ _ _) rfl ?_
          exact ⟨none, 0, by rw [HX.out.1, HX.out.2]; rfl, by rw [HX.out.1]; exact nil_ring _, HB5.out⟩
        · have HX : Hid _ := (HV.out _ _ ha hb).1 (by simp)
          clear ha hb HV
          go_wp2_with fail
          refine bodyPost_ret (results_tmp2 rfl _ _ _) rfl ?_
          exact ⟨o6, cap6, by rw [HX.out.1, HX.out.2]; rfl, by rw [HX.out.1]; exact HR6.out, HB5.out⟩
end Go.Proofs.Ytdgllokedcopjaa
