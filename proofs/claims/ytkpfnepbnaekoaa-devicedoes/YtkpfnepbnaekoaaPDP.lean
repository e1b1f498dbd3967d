/- settle, Wake. -/
import Derived.Test.YtkpfnepbnaekoaaPDO
import Derived.Test.YtkpfnepbnaekoaaPDIb
import Derived.BigRegion
namespace Go.Proofs.Ytkpfnepbnaekoaa.Rd
open Go.RowKit Go.Shelf Go.Lib
attribute [local go_sem] Oper.semAt_some
/-- Numbers in a slice. -/
def Fs (w : World) (o : Option Addr) (fs : List Int) : Prop := fs ≠ [] → ∃ b off, o = some ⟨b, off, none⟩ ∧ b < w.heap.size ∧ ∀ (i : Nat) f, fs[i]? = some f → w.cell? ⟨b, off + i, none⟩ = some (.int .i64 f)
set_option maxRecDepth 100000 in
theorem Fs.but {S : Nat → Prop} {w w' : World} {o : Option Addr} {fs : List Int} (h : Fs w o fs) (hb : But S w w') (hs : ∀ a, o = some a → ¬ S a.block) : Fs w' o fs := by
  intro hne
  obtain ⟨b, off, e, hl, hc⟩ := h hne
  exact ⟨b, off, e, Nat.lt_of_lt_of_le hl hb.size, fun i f hi => (World.cell?_of_block (a := ⟨b, off + i, none⟩) (hb.block b hl (hs _ e))).trans (hc i f hi)⟩
set_option maxRecDepth 100000 in
theorem Fs.below {w w' : World} {o : Option Addr} {fs : List Int} (h : Fs w o fs) (hb : Below w.heap.size w w') : Fs w' o fs :=
  h.but (S := fun _ => False) (But.of_below hb) (fun _ _ h => h)
/-- Behind k rounds. -/
structure SJ (s : St) (fs : List Int) (fo : Option Addr) (fc d b m : Nat) (w : World) (k : Nat) (W : World) : Prop where
  dev : Dev W d b m { s with tx := wkTx s fs k }
  pd : W.heap[w.heap.size]? = some (.cells #[pt d] 24 (0, 0))
  pf : W.heap[w.heap.size + 1]? = some (.cells #[.slice fo fs.length fc] 33 (0, 0))
  fs : Fs W fo fs
  but : But (fun k => k = b) w W
set_option maxRecDepth 100000 in
theorem field_wr (t : ByteArray) (w : World) : (Instr.field 81 (.agg #[.string t]) 0).run Try.prog w = .ok (.string t) w := by
  simp [Instr.field, run_underlying Try.underlying81, part, asAgg, go_sem]
set_option maxRecDepth 100000 in
theorem cell_kz {b : Nat} {A B : World} (hk : Kz b A B) {a : Addr} {v : Value} (h : A.cell? a = some v) : B.cell? a = some v := by
  obtain ⟨o, ho, hc⟩ := cells_of_cell h
  exact (World.cell?_of_block ((hk.2 _ o ho hc).trans ho.symm)).trans h
set_option maxRecDepth 100000 in
theorem SJ.kz {s : St} {fs : List Int} {fo : Option Addr} {fc d b m : Nat} {w : World} {k c : Nat} {A B : World} (h : SJ s fs fo fc d b m w k A) (hk : Kz c A B) (hw : w.heap.size ≤ c) (hm : m < c) : SJ s fs fo fc d b m w k B := by
  obtain ⟨h1, h2, h3, h4, h5⟩ := h
  obtain ⟨cs, r1, r2⟩ := h1.row
  refine ⟨⟨hk.2 _ _ h1.self rfl, ⟨cs, hk.2 _ _ r1 rfl, r2⟩, h1.map.same (hk.1.block m hm), h1.db, h1.dm, h1.bm⟩, hk.2 _ _ h2 rfl, hk.2 _ _ h3 rfl, fun hne => ?_, ⟨hk.1.os.trans h5.os, hk.1.tape.trans h5.tape, hk.1.output.trans h5.output, Nat.le_trans h5.size hk.1.size, fun j hj hb => (hk.1.block j (by omega)).trans (h5.block j hj hb)⟩⟩
  obtain ⟨b', off, e, hl, hc⟩ := h4 hne
  exact ⟨b', off, e, Nat.lt_of_lt_of_le hl hk.1.size, fun i f hi => cell_kz hk (hc i f hi)⟩
set_option maxRecDepth 100000 in
theorem RowOf.below {w w' : World} {base B : Nat} {v : Value} {l : List Nat} (h : RowOf w base v l) (hb : Below B w w') (hB : w.heap.size ≤ B) : RowOf w' base v l := by
  rcases h with h | ⟨g, cap, e, h1, hu⟩
  · exact .inl h
  · exact .inr ⟨g, cap, e, h1, hu.same (hb.block g (by have := hu.lt; omega))⟩
set_option maxRecDepth 100000 in
set_option maxHeartbeats 2000000 in
theorem settle_in (N : Nat) (hN : N ≤ 4096) (hS : Sorts N) (d b m : Nat) (s : St) (fs : List Int) (fo : Option Addr) (fc : Nat) (w : World) (h : Dev w d b m s) (hk : Ok s) (hc : ∀ l, AllKeys s.pd l → l.length ≤ N) (hf : Fs w fo fs) (hfb : fs ≠ [] → ∀ a, fo = some a → ¬ Dv d b m a.block) :
    CallsIn Fence.wide 5 Try.prog 47 #[pt d, .slice fo fs.length fc] w fun e w' => e = .returned (.tuple #[]) ∧ Dev w' d b m { s with tx := wakeTx s fs, pd := fun _ => none } ∧ But (Dv d b m) w w' := by
  have HS : Hid (Sorts N) := hS
  have HC : Hid (∀ l, AllKeys s.pd l → l.length ≤ N) := hc
  have HD : Hid (Dev w d b m s) := h
  have HK : Hid (Ok s) := hk
  have HF : Hid (Fs w fo fs) := hf
  have HFB : Hid _ := hfb
  clear h hk hS hc hf hfb
  refine callsIn_of_wp_marks Try.func47 rfl trivial ?_ rfl
  simp only [Try.ntmps47, List.size_toArray, List.length_cons, List.length_nil, Nat.reduceAdd, Nat.reduceSub, Array.replicate_succ, Array.replicate_zero, List.push_toArray, List.append_toArray, List.nil_append, List.cons_append]
  gi_wp2
  refine (wpIn_wide (n := 5)).2 (wp_scope_straight ((wpIn_wide (n := 5)).1 ?_))
  gi_wp2
  refine wpIn_label ?_
  have h2 := two_new w (.cells #[pt d] 24) (.cells #[.slice fo fs.length fc] 33)
  have e3 : ((w.alloc (.cells #[pt d] 24)).alloc (.cells #[.slice fo fs.length fc] 33)).heap.size = w.heap.size + 2 := by simp
  obtain ⟨w2, hw2⟩ : ∃ w2, (w.alloc (.cells #[pt d] 24)).alloc (.cells #[.slice fo fs.length fc] 33) = w2 := ⟨_, rfl⟩
  rw [hw2] at h2 e3 ⊢
  clear hw2
  obtain ⟨x0, x1, B2⟩ := h2
  have c0 : w2.cell? ⟨w.heap.size, 0, none⟩ = some (pt d) := by rw [cell_of_row _ _ _ _ _ _ x0]; rfl
  have X0 : Hid _ := x0
  have X1 : Hid _ := x1
  have D2 : Hid (Dev w2 d b m s) := HD.out.below B2 (Nat.le_refl _)
  clear x0 x1
  gi_wp2
  refine ⟨trivial, callsIn_wide.2 ((rising_any N HS.out d b m s w2 D2.out HK.out HC.out).mono ?_)⟩
  rintro e w3 ⟨l, o, cap, mb, rfl, r1, r2, r3, r4, r5, r6⟩
  have HR1 : Hid (Rising s.pd l) := r1
  have HR4 : Hid _ := r4
  have HR5 : Hid (RowOf w3 w2.heap.size (.slice o l.length cap) l) := r5
  have HR6 : Hid (Below w2.heap.size w2 w3) := r6
  have Y0 : Hid (w3.heap[w.heap.size]? = some (.cells #[pt d] 24 (0, 0))) := (r6.block _ (by omega)).trans X0.out
  have Y1 : Hid (w3.heap[w.heap.size + 1]? = some (.cells #[.slice fo fs.length fc] 33 (0, 0))) := (r6.block _ (by omega)).trans X1.out
  have B3 : Hid (Below w.heap.size w w3) := B2.trans (r6.mono (by omega))
  have S3 := r6.size
  have SX : Hid (∀ a, o = some a → a.block < w3.heap.size ∧ w.heap.size ≤ a.block) := fun a ea => by
    rcases r5 with ⟨e, _⟩ | ⟨g, cap', e, hb, hu⟩
    · simp only [Value.slice.injEq] at e; rw [e.1] at ea; cases ea
    · simp only [Value.slice.injEq] at e; rw [e.1] at ea; cases ea; exact ⟨hu.lt, by simp only; omega⟩
  obtain ⟨hd0, hb0, hm0⟩ := HD.out.lt
  have hdb := HD.out.db
  have hdm := HD.out.dm
  have hbm := HD.out.bm
  clear r1 r4 r5 r6 c0
  gi_wp2
  refine range_law7 rfl (by omega) (gf := 67) (lb := #[.pointer (some ⟨mb, 0, none⟩)]) rfl trivial (enters_of Try.func67 (by kernel_rfl) rfl)
    (ι := Nat) (α := Nat × Nat) (fun x => #[.int .i64 (x.1 : Int), .int .u32 (x.2 : Int)]) (fun _ => rfl) (fun i _ => i + 1) (fun i x => x.1 = i ∧ l[i]? = some x.2) (fun i => i = l.length) 0 (fun j => ∃ a, o = some a ∧ a.block = j) ?hsx
    (fun k W => SJ s fs fo fc d b m w k W) (fun W => ∃ k, fs.length ≤ k ∧ SJ s fs fo fc d b m w k W) (.exit 0) (fun k A B h hk => ?hJ) (fun A B h hk => ?hJx) ?h0
    (fun x a' _ => a' = { tmps := #[pt d, Value.slice fo fs.length fc, Value.pointer (some ⟨w.heap.size, 0, none⟩), Value.pointer (some ⟨w.heap.size + 1, 0, none⟩), .int .i64 (x.1 : Int), .int .u32 (x.2 : Int), undef, pt d, Value.func (Fn.func 67) #[] #[Value.pointer (some ⟨mb, 0, none⟩)], .int .i64 (x.1 : Int), .int .u32 (x.2 : Int), undef, undef, undef, undef, undef, undef, undef, undef, undef, undef, undef, undef, undef, undef, undef, undef, undef, undef, undef, undef, undef, undef, undef, undef, undef, undef, undef, undef, undef, undef, undef, undef, undef, undef, undef, undef, undef, undef, undef, undef, undef, undef, undef, undef, undef, undef, undef, undef, undef, undef, undef, undef, undef, undef], defers := [] }) (fun _ _ _ _ _ h _ _ => h) ?assign ?body ?iter ?done ?stop
  case hsx =>
    rintro ⟨a, ea, e⟩
    have := (SX.out a ea).1
    omega
  case hJ => exact h.kz hk (by omega) (by omega)
  case hJx =>
    obtain ⟨k, h1, h2⟩ := h
    exact ⟨k, h1, h2.kz hk (by omega) (by omega)⟩
  case h0 =>
    refine ⟨?_, Y0.out, Y1.out, HF.out.below B3.out, But.of_below B3.out⟩
    rw [wkTx_zero]
    exact HD.out.below B3.out (Nat.le_refl _)
  case assign =>
    rintro p i ⟨i', x⟩ W K hk hJ hsz hK
    clear hJ hk
    gi_wp2
    exact hK _ _ (Below.refl _ _) rfl
  case iter =>
    intro p W1 hp hB1 hs1 R Rx hR hRx hRJ hY h0
    exact all1_in l (by omega) o cap mb p w2.heap.size W1 (fun j => ∃ a, o = some a ∧ a.block = j) w3.heap.size (fun a ea => ⟨a, ea, rfl⟩) ((hB1.block mb (by have := (Array.getElem?_eq_some_iff.1 HR4.out).1; omega)).trans HR4.out) (RowOf.below HR5.out hB1 (Nat.le_refl _)) R Rx (fun i x W hok hr => hY i x W hok hr) h0
  case body =>
    rintro p i ⟨i', x⟩ a' W ⟨hi, hx⟩ hJ rfl hsz
    simp only at hi hx
    subst hi
    have c2 : W.cell? ⟨w.heap.size, 0, none⟩ = some (pt d) := by rw [cell_of_row _ _ _ _ _ _ hJ.pd]; rfl
    have c3 : W.cell? ⟨w.heap.size + 1, 0, none⟩ = some (.slice fo fs.length fc) := by rw [cell_of_row _ _ _ _ _ _ hJ.pf]; rfl
    have J : Hid (SJ s fs fo fc d b m w i' W) := hJ
    obtain ⟨t, ht⟩ := Option.isSome_iff_exists.1 ((HR1.out.2 x).1 (List.mem_of_getElem? hx))
    obtain ⟨hxn, htz⟩ := HK.out.pd x t ht
    obtain ⟨hst, hol⟩ := wkTx_step s fs l HR1.out HK.out i' x t hx ht
    have HST : Hid _ := hst
    have k0 : (0 : Int) ≤ (i' : Int) := by omega
    have HH : Hid (l[i']? = some x) := hx
    by_cases hif : i' < fs.length
    · obtain ⟨fb, off, rfl, hfl2, hfc⟩ := hJ.fs (by intro e; rw [e] at hif; simp at hif)
      obtain ⟨f, hfi⟩ : ∃ f, fs[i']? = some f := ⟨_, List.getElem?_eq_getElem hif⟩
      have x3 := hfc i' f hfi
      have q1 : ¬ (fs.length : Int) ≤ (i' : Int) := by omega
      have q2 : (i' : Int) < (fs.length : Int) := by omega
      have HFI : Hid (fs[i']? = some f) := hfi
      have stay : kept fs i' = 0 → SJ s fs (some ⟨fb, off, none⟩) fc d b m w (i' + 1) W := fun hz => by
        have e : wkTx s fs (i' + 1) = wkTx s fs i' := by
          rw [hst, hz, torn_zero]
          funext q
          unfold at'
          split
          · rename_i e; rw [e, hol]
          · rfl
        exact ⟨by rw [e]; exact hJ.dev, hJ.pd, hJ.pf, hJ.fs, hJ.but⟩
      have STAY : Hid _ := stay
      have hfb' := HFB.out (fun h => by rw [h] at hif; simp at hif) _ rfl
      obtain ⟨c6, z6⟩ := hJ.dev.c6
      obtain ⟨c7, z7⟩ := hJ.dev.c7
      obtain ⟨e1, e2, y1, y2⟩ := hJ.dev.row.cells x hxn
      have hlk : (Instr.lookup 71 (.map (some m)) (.int .u32 (x : Int)) false).run Try.prog W.drew = _ := (hJ.dev.map.same (w' := W.drew) rfl).look x false
      have D4 : Hid _ := hJ.dev
      simp only at c6 e1 e2 hlk
      rw [hol] at e1
      rw [ht] at hlk
      simp only [Option.getD_some, Bool.false_eq_true, if_false] at hlk
      have hoz := HK.out.tx x hxn
      generalize s.tx x = old at *
      have qx : (x : Int) < (s.n : Int) := by omega
      have qx0 : (0 : Int) ≤ (x : Int) := by omega
      clear hJ hst hol ht hx hfc hfi stay
      by_cases hf1 : f < 1
      · have HZ : Hid (kept fs i' = 0) := by refine (?_ : kept fs i' = 0); unfold kept; rw [HFI.out]; simp only; rw [if_neg (by omega)]
        gi_wp2
        exact ⟨(KeepsOthers.refl W).from _, Keeps.refl _ _, STAY.out HZ.out⟩
      · by_cases hf4 : 4 < f
        · have HZ : Hid (kept fs i' = 0) := by refine (?_ : kept fs i' = 0); unfold kept; rw [HFI.out]; simp only; rw [if_neg (by omega)]
          gi_wp2
          exact ⟨(KeepsOthers.refl W).from _, Keeps.refl _ _, STAY.out HZ.out⟩
        · obtain ⟨k, hkk⟩ : ∃ k : Nat, (f * 64).toNat = k := ⟨_, rfl⟩
          have hk1 : f * 64 = (k : Int) := by omega
          have hk2 : k ≤ 256 := by omega
          have HZ : Hid (kept fs i' = k) := by refine (?_ : kept fs i' = k); unfold kept; rw [HFI.out]; simp only; rw [if_pos (by omega), hkk]
          have hwr : IntKind.i64.wrap (f * 64) = (k : Int) := by rw [IntWalk.i64_in _ (by omega), hk1]
          clear hkk hk1
          have hk3 : k ≤ t.size := by omega
          have hk4 : k ≤ old.size := by omega
          have hfw := field_wr t
          gi_wp2
          have HSW : Hid (W.drew.cell? ⟨w.heap.size, 0, none⟩ = some (pt d) ∧ W.drew.cell? ⟨d, 6, none⟩ = some (.slice (some ⟨b, 0, none⟩) s.n s.n) ∧ W.drew.cell? ⟨d, 7, none⟩ = some (.map (some m)) ∧ W.drew.cell? ⟨b, x * 2, none⟩ = some (.string old) ∧
            (Instr.lookup 71 (.map (some m)) (.int .u32 (x : Int)) false).run Try.prog W.drew = .ok (.agg #[.string t]) W.drew) := ⟨c2, c6, c7, e1, hlk⟩
          refine region_last (z := 27) (S := fun u => u.cell? ⟨w.heap.size, 0, none⟩ = some (pt d) ∧ u.cell? ⟨d, 6, none⟩ = some (.slice (some ⟨b, 0, none⟩) s.n s.n) ∧ u.cell? ⟨d, 7, none⟩ = some (.map (some m)) ∧ u.cell? ⟨b, x * 2, none⟩ = some (.string old) ∧
            (Instr.lookup 71 (.map (some m)) (.int .u32 (x : Int)) false).run Try.prog u = .ok (.agg #[.string t]) u) (by kernel_rfl) (by kernel_rfl) ?lets ?_
          case lets =>
            rintro ⟨a, u, h⟩
            exact h
          change wpLast _ _ _ _ _ _ 28 _ _ _
          clear c2 c3 c6 c7 e1 hlk
          have hk5 : (k : Int) ≤ 256 := by omega
          obtain ⟨ta, hta⟩ : ∃ ta, t.extract 0 k = ta := ⟨_, rfl⟩
          obtain ⟨tb, htb⟩ : ∃ tb, old.extract k 256 = tb := ⟨_, rfl⟩
          have hla : ¬ 9223372036854775807 < ta.size + tb.size := by rw [← hta, ← htb, ByteArray.size_extract, ByteArray.size_extract]; omega
          refine wpLast_take (i := 0) (v := ?_) (by kernel_rfl) rfl (by kernel_rfl) (by kernel_rfl) (by kernel_rfl) (fun _ _ _ h => h) (Or.inl ⟨by kernel_rfl, ?_⟩) HSW.out ?_
          rotate_left
          · intro w hS
            obtain ⟨s1, s2, s3, s4, s5⟩ := hS
            go_simp
            try with_reducible rfl
          conv in (Act.put _ _ _) => simp only [List.getElem_toArray, List.getElem_cons_succ, List.getElem_cons_zero, Act.put, List.setIfInBounds_toArray, List.set_cons_succ, List.set_cons_zero]
          refine wpLast_take (i := 1) (v := ?_) (by kernel_rfl) rfl (by kernel_rfl) (by kernel_rfl) (by kernel_rfl) (fun _ _ _ h => h) (Or.inl ⟨by kernel_rfl, ?_⟩) HSW.out ?_
          rotate_left
          · intro w hS
            obtain ⟨s1, s2, s3, s4, s5⟩ := hS
            go_simp
            try with_reducible rfl
          conv in (Act.put _ _ _) => simp only [List.getElem_toArray, List.getElem_cons_succ, List.getElem_cons_zero, Act.put, List.setIfInBounds_toArray, List.set_cons_succ, List.set_cons_zero]
          refine wpLast_take (i := 2) (v := ?_) (by kernel_rfl) rfl (by kernel_rfl) (by kernel_rfl) (by kernel_rfl) (fun _ _ _ h => h) (Or.inl ⟨by kernel_rfl, ?_⟩) HSW.out ?_
          rotate_left
          · intro w hS
            obtain ⟨s1, s2, s3, s4, s5⟩ := hS
            go_simp
            try with_reducible rfl
          conv in (Act.put _ _ _) => simp only [List.getElem_toArray, List.getElem_cons_succ, List.getElem_cons_zero, Act.put, List.setIfInBounds_toArray, List.set_cons_succ, List.set_cons_zero]
          refine wpLast_take (i := 3) (v := ?_) (by kernel_rfl) rfl (by kernel_rfl) (by kernel_rfl) (by kernel_rfl) (fun _ _ _ h => h) (Or.inl ⟨by kernel_rfl, ?_⟩) HSW.out ?_
          rotate_left
          · intro w hS
            obtain ⟨s1, s2, s3, s4, s5⟩ := hS
            go_simp
            try with_reducible rfl
          conv in (Act.put _ _ _) => simp only [List.getElem_toArray, List.getElem_cons_succ, List.getElem_cons_zero, Act.put, List.setIfInBounds_toArray, List.set_cons_succ, List.set_cons_zero]
          refine wpLast_take (i := 4) (v := ?_) (by kernel_rfl) rfl (by kernel_rfl) (by kernel_rfl) (by kernel_rfl) (fun _ _ _ h => h) (Or.inl ⟨by kernel_rfl, ?_⟩) HSW.out ?_
          rotate_left
          · intro w hS
            obtain ⟨s1, s2, s3, s4, s5⟩ := hS
            go_simp
            try with_reducible rfl
          conv in (Act.put _ _ _) => simp only [List.getElem_toArray, List.getElem_cons_succ, List.getElem_cons_zero, Act.put, List.setIfInBounds_toArray, List.set_cons_succ, List.set_cons_zero]
          refine wpLast_take (i := 5) (v := ?_) (by kernel_rfl) rfl (by kernel_rfl) (by kernel_rfl) (by kernel_rfl) (fun _ _ _ h => h) (Or.inl ⟨by kernel_rfl, ?_⟩) HSW.out ?_
          rotate_left
          · intro w hS
            obtain ⟨s1, s2, s3, s4, s5⟩ := hS
            go_simp
            try with_reducible rfl
          conv in (Act.put _ _ _) => simp only [List.getElem_toArray, List.getElem_cons_succ, List.getElem_cons_zero, Act.put, List.setIfInBounds_toArray, List.set_cons_succ, List.set_cons_zero]
          refine wpLast_take (i := 6) (v := ?_) (by kernel_rfl) rfl (by kernel_rfl) (by kernel_rfl) (by kernel_rfl) (fun _ _ _ h => h) (Or.inl ⟨by kernel_rfl, ?_⟩) HSW.out ?_
          rotate_left
          · intro w hS
            obtain ⟨s1, s2, s3, s4, s5⟩ := hS
            go_simp
            try with_reducible rfl
          conv in (Act.put _ _ _) => simp only [List.getElem_toArray, List.getElem_cons_succ, List.getElem_cons_zero, Act.put, List.setIfInBounds_toArray, List.set_cons_succ, List.set_cons_zero]
          refine wpLast_take (i := 7) (v := ?_) (by kernel_rfl) rfl (by kernel_rfl) (by kernel_rfl) (by kernel_rfl) (fun _ _ _ h => h) (Or.inl ⟨by kernel_rfl, ?_⟩) HSW.out ?_
          rotate_left
          · intro w hS
            obtain ⟨s1, s2, s3, s4, s5⟩ := hS
            go_simp
            try with_reducible rfl
          conv in (Act.put _ _ _) => simp only [List.getElem_toArray, List.getElem_cons_succ, List.getElem_cons_zero, Act.put, List.setIfInBounds_toArray, List.set_cons_succ, List.set_cons_zero]
          refine wpLast_take (i := 8) (v := ?_) (by kernel_rfl) rfl (by kernel_rfl) (by kernel_rfl) (by kernel_rfl) (fun _ _ _ h => h) (Or.inl ⟨by kernel_rfl, ?_⟩) HSW.out ?_
          rotate_left
          · intro w hS
            obtain ⟨s1, s2, s3, s4, s5⟩ := hS
            go_simp
            try with_reducible rfl
          conv in (Act.put _ _ _) => simp only [List.getElem_toArray, List.getElem_cons_succ, List.getElem_cons_zero, Act.put, List.setIfInBounds_toArray, List.set_cons_succ, List.set_cons_zero]
          refine wpLast_take (i := 9) (v := ?_) (by kernel_rfl) rfl (by kernel_rfl) (by kernel_rfl) (by kernel_rfl) (fun _ _ _ h => h) (Or.inl ⟨by kernel_rfl, ?_⟩) HSW.out ?_
          rotate_left
          · intro w hS
            obtain ⟨s1, s2, s3, s4, s5⟩ := hS
            go_simp
            try with_reducible rfl
          conv in (Act.put _ _ _) => simp only [List.getElem_toArray, List.getElem_cons_succ, List.getElem_cons_zero, Act.put, List.setIfInBounds_toArray, List.set_cons_succ, List.set_cons_zero]
          refine wpLast_take (i := 10) (v := ?_) (by kernel_rfl) rfl (by kernel_rfl) (by kernel_rfl) (by kernel_rfl) (fun _ _ _ h => h) (Or.inl ⟨by kernel_rfl, ?_⟩) HSW.out ?_
          rotate_left
          · intro w hS
            obtain ⟨s1, s2, s3, s4, s5⟩ := hS
            go_simp
            try with_reducible rfl
          conv in (Act.put _ _ _) => simp only [List.getElem_toArray, List.getElem_cons_succ, List.getElem_cons_zero, Act.put, List.setIfInBounds_toArray, List.set_cons_succ, List.set_cons_zero]
          refine wpLast_take (i := 11) (v := ?_) (by kernel_rfl) rfl (by kernel_rfl) (by kernel_rfl) (by kernel_rfl) (fun _ _ _ h => h) (Or.inl ⟨by kernel_rfl, ?_⟩) HSW.out ?_
          rotate_left
          · intro w hS
            obtain ⟨s1, s2, s3, s4, s5⟩ := hS
            go_simp
            try with_reducible rfl
          conv in (Act.put _ _ _) => simp only [List.getElem_toArray, List.getElem_cons_succ, List.getElem_cons_zero, Act.put, List.setIfInBounds_toArray, List.set_cons_succ, List.set_cons_zero]
          refine wpLast_take (i := 12) (v := ?_) (by kernel_rfl) rfl (by kernel_rfl) (by kernel_rfl) (by kernel_rfl) (fun _ _ _ h => h) (Or.inl ⟨by kernel_rfl, ?_⟩) HSW.out ?_
          rotate_left
          · intro w hS
            obtain ⟨s1, s2, s3, s4, s5⟩ := hS
            go_simp
            try with_reducible rfl
          conv in (Act.put _ _ _) => simp only [List.getElem_toArray, List.getElem_cons_succ, List.getElem_cons_zero, Act.put, List.setIfInBounds_toArray, List.set_cons_succ, List.set_cons_zero]
          refine wpLast_take (i := 13) (v := ?_) (by kernel_rfl) rfl (by kernel_rfl) (by kernel_rfl) (by kernel_rfl) (fun _ _ _ h => h) (Or.inl ⟨by kernel_rfl, ?_⟩) HSW.out ?_
          rotate_left
          · intro w hS
            obtain ⟨s1, s2, s3, s4, s5⟩ := hS
            go_simp
            try with_reducible rfl
          conv in (Act.put _ _ _) => simp only [List.getElem_toArray, List.getElem_cons_succ, List.getElem_cons_zero, Act.put, List.setIfInBounds_toArray, List.set_cons_succ, List.set_cons_zero]
          refine wpLast_take (i := 14) (v := ?_) (by kernel_rfl) rfl (by kernel_rfl) (by kernel_rfl) (by kernel_rfl) (fun _ _ _ h => h) (Or.inl ⟨by kernel_rfl, ?_⟩) HSW.out ?_
          rotate_left
          · intro w hS
            obtain ⟨s1, s2, s3, s4, s5⟩ := hS
            go_simp
            try with_reducible rfl
          conv in (Act.put _ _ _) => simp only [List.getElem_toArray, List.getElem_cons_succ, List.getElem_cons_zero, Act.put, List.setIfInBounds_toArray, List.set_cons_succ, List.set_cons_zero]
          refine wpLast_take (i := 15) (v := ?_) (by kernel_rfl) rfl (by kernel_rfl) (by kernel_rfl) (by kernel_rfl) (fun _ _ _ h => h) (Or.inl ⟨by kernel_rfl, ?_⟩) HSW.out ?_
          rotate_left
          · intro w hS
            obtain ⟨s1, s2, s3, s4, s5⟩ := hS
            go_simp
            try with_reducible rfl
          conv in (Act.put _ _ _) => simp only [List.getElem_toArray, List.getElem_cons_succ, List.getElem_cons_zero, Act.put, List.setIfInBounds_toArray, List.set_cons_succ, List.set_cons_zero]
          refine wpLast_take (i := 16) (v := ?_) (by kernel_rfl) rfl (by kernel_rfl) (by kernel_rfl) (by kernel_rfl) (fun _ _ _ h => h) (Or.inl ⟨by kernel_rfl, ?_⟩) HSW.out ?_
          rotate_left
          · intro w hS
            obtain ⟨s1, s2, s3, s4, s5⟩ := hS
            go_simp
            try with_reducible rfl
          conv in (Act.put _ _ _) => simp only [List.getElem_toArray, List.getElem_cons_succ, List.getElem_cons_zero, Act.put, List.setIfInBounds_toArray, List.set_cons_succ, List.set_cons_zero]
          refine wpLast_take (i := 17) (v := ?_) (by kernel_rfl) rfl (by kernel_rfl) (by kernel_rfl) (by kernel_rfl) (fun _ _ _ h => h) (Or.inl ⟨by kernel_rfl, ?_⟩) HSW.out ?_
          rotate_left
          · intro w hS
            obtain ⟨s1, s2, s3, s4, s5⟩ := hS
            go_simp
            try with_reducible rfl
          conv in (Act.put _ _ _) => simp only [List.getElem_toArray, List.getElem_cons_succ, List.getElem_cons_zero, Act.put, List.setIfInBounds_toArray, List.set_cons_succ, List.set_cons_zero]
          refine wpLast_take (i := 18) (v := ?_) (by kernel_rfl) rfl (by kernel_rfl) (by kernel_rfl) (by kernel_rfl) (fun _ _ _ h => h) (Or.inl ⟨by kernel_rfl, ?_⟩) HSW.out ?_
          rotate_left
          · intro w hS
            obtain ⟨s1, s2, s3, s4, s5⟩ := hS
            go_simp
            try with_reducible rfl
          conv in (Act.put _ _ _) => simp only [List.getElem_toArray, List.getElem_cons_succ, List.getElem_cons_zero, Act.put, List.setIfInBounds_toArray, List.set_cons_succ, List.set_cons_zero]
          refine wpLast_take (i := 19) (v := ?_) (by kernel_rfl) rfl (by kernel_rfl) (by kernel_rfl) (by kernel_rfl) (fun _ _ _ h => h) (Or.inl ⟨by kernel_rfl, ?_⟩) HSW.out ?_
          rotate_left
          · intro w hS
            obtain ⟨s1, s2, s3, s4, s5⟩ := hS
            go_simp
            try with_reducible rfl
          conv in (Act.put _ _ _) => simp only [List.getElem_toArray, List.getElem_cons_succ, List.getElem_cons_zero, Act.put, List.setIfInBounds_toArray, List.set_cons_succ, List.set_cons_zero]
          refine wpLast_take (i := 20) (v := ?_) (by kernel_rfl) rfl (by kernel_rfl) (by kernel_rfl) (by kernel_rfl) (fun _ _ _ h => h) (Or.inl ⟨by kernel_rfl, ?_⟩) HSW.out ?_
          rotate_left
          · intro w hS
            obtain ⟨s1, s2, s3, s4, s5⟩ := hS
            go_simp
            try with_reducible rfl
          conv in (Act.put _ _ _) => simp only [List.getElem_toArray, List.getElem_cons_succ, List.getElem_cons_zero, Act.put, List.setIfInBounds_toArray, List.set_cons_succ, List.set_cons_zero]
          refine wpLast_take (i := 21) (v := ?_) (by kernel_rfl) rfl (by kernel_rfl) (by kernel_rfl) (by kernel_rfl) (fun _ _ _ h => h) (Or.inl ⟨by kernel_rfl, ?_⟩) HSW.out ?_
          rotate_left
          · intro w hS
            obtain ⟨s1, s2, s3, s4, s5⟩ := hS
            go_simp
            try with_reducible rfl
          conv in (Act.put _ _ _) => simp only [List.getElem_toArray, List.getElem_cons_succ, List.getElem_cons_zero, Act.put, List.setIfInBounds_toArray, List.set_cons_succ, List.set_cons_zero]
          refine wpLast_take (i := 22) (v := ?_) (by kernel_rfl) rfl (by kernel_rfl) (by kernel_rfl) (by kernel_rfl) (fun _ _ _ h => h) (Or.inl ⟨by kernel_rfl, ?_⟩) HSW.out ?_
          rotate_left
          · intro w hS
            obtain ⟨s1, s2, s3, s4, s5⟩ := hS
            go_simp
            try with_reducible rfl
          conv in (Act.put _ _ _) => simp only [List.getElem_toArray, List.getElem_cons_succ, List.getElem_cons_zero, Act.put, List.setIfInBounds_toArray, List.set_cons_succ, List.set_cons_zero]
          refine wpLast_take (i := 23) (v := ?_) (by kernel_rfl) rfl (by kernel_rfl) (by kernel_rfl) (by kernel_rfl) (fun _ _ _ h => h) (Or.inl ⟨by kernel_rfl, ?_⟩) HSW.out ?_
          rotate_left
          · intro w hS
            obtain ⟨s1, s2, s3, s4, s5⟩ := hS
            go_simp
            try with_reducible rfl
          conv in (Act.put _ _ _) => simp only [List.getElem_toArray, List.getElem_cons_succ, List.getElem_cons_zero, Act.put, List.setIfInBounds_toArray, List.set_cons_succ, List.set_cons_zero]
          refine wpLast_take (i := 24) (v := ?_) (by kernel_rfl) rfl (by kernel_rfl) (by kernel_rfl) (by kernel_rfl) (fun _ _ _ h => h) (Or.inl ⟨by kernel_rfl, ?_⟩) HSW.out ?_
          rotate_left
          · intro w hS
            obtain ⟨s1, s2, s3, s4, s5⟩ := hS
            go_simp
            try with_reducible rfl
          conv in (Act.put _ _ _) => simp only [List.getElem_toArray, List.getElem_cons_succ, List.getElem_cons_zero, Act.put, List.setIfInBounds_toArray, List.set_cons_succ, List.set_cons_zero]
          refine wpLast_one (i := 25) (v := ?_) rfl (by kernel_rfl) (Or.inl ⟨by kernel_rfl, ?_⟩) HSW.out ?_
          rotate_left
          · intro w hS
            obtain ⟨s1, s2, s3, s4, s5⟩ := hS
            go_simp
            try with_reducible rfl
          conv in (Act.put _ _ _) => simp only [List.getElem_toArray, List.getElem_cons_succ, List.getElem_cons_zero, Act.put, List.setIfInBounds_toArray, List.set_cons_succ, List.set_cons_zero]
          refine wpLast_one (i := 26) (v := ?_) rfl (by kernel_rfl) (Or.inl ⟨by kernel_rfl, ?_⟩) HSW.out ?_
          rotate_left
          · intro w hS
            obtain ⟨s1, s2, s3, s4, s5⟩ := hS
            go_simp
            try with_reducible rfl
          conv in (Act.put _ _ _) => simp only [List.getElem_toArray, List.getElem_cons_succ, List.getElem_cons_zero, Act.put, List.setIfInBounds_toArray, List.set_cons_succ, List.set_cons_zero]
          refine wpLast_end rfl (by kernel_rfl) (by kernel_rfl) (by kernel_rfl) ?_
          unfold Oper.wp
          have y1d : W.drew.frozen? ⟨b, x * 2, none⟩ = false := y1
          have e1d := HSW.out.2.2.2.1
          go_simp
          show lPost7 w3.heap.size (fun j => ∃ a, o = some a ∧ a.block = j) (fun W => SJ s fs (some ⟨fb, off, none⟩) fc d b m w (i' + 1) W) _ _ W Exit.normal _ _
          have hnew : ta ++ tb = torn t old (kept fs i') := by rw [HZ.out, ← hta, ← htb]; unfold torn; rw [hoz]
          have hB : But (fun k => k = b) W (W.setCell ⟨b, x * 2, none⟩ (.string (ta ++ tb))).drew := (But.set (S := fun k => k = b) W b (x * 2) _ rfl).trans ⟨rfl, rfl, rfl, Nat.le_refl _, fun _ _ _ => rfl⟩
          have hj := J.out
          refine ⟨((KeepsOthers.setCell W ⟨b, x * 2, none⟩ _).trans (KeepsOthers.drew _)).from _, ⟨hB.size, fun j hj hl => ?_⟩, ⟨⟨?_, ?_, ?_, hdb, hdm, hbm⟩, ?_, ?_, ?_, ?_⟩⟩
          · obtain ⟨a, ea, e⟩ := hj
            exact hB.block j hl (by have := (SX.out a ea).2; omega)
          · exact (hB.block d hj.dev.lt.1 hdb).trans hj.dev.self
          · have hr := hj.dev.row.setText x hxn (ta ++ tb)
            show Row (W.setCell ⟨b, x * 2, none⟩ (.string (ta ++ tb))).drew b s.n (wkTx s fs (i' + 1)) s.bad
            rw [HST.out, ← hnew]
            exact hr
          · exact hj.dev.map.same (hB.block m hj.dev.lt.2.2 (Ne.symm hbm))
          · exact (hB.block _ (Array.getElem?_eq_some_iff.1 hj.pd).1 (by omega)).trans hj.pd
          · exact (hB.block _ (Array.getElem?_eq_some_iff.1 hj.pf).1 (by omega)).trans hj.pf
          · exact hj.fs.but hB fun a ea e => by cases ea; exact hfb' (.inr (.inl e))
          · exact hj.but.trans hB
    · have q1 : (fs.length : Int) ≤ (i' : Int) := by omega
      have q2 : ¬ (i' : Int) < (fs.length : Int) := by omega
      clear hJ hst hol ht hx
      gi_wp2
      exact ⟨rfl, (KeepsOthers.refl W).from _, i', by omega, J.out⟩
  case done =>
    rintro D i W hD rfl hJ hK
    have hw := wkTx_all s fs l HR1.out HK.out l.length (.inl rfl)
    have c2 : W.cell? ⟨w.heap.size, 0, none⟩ = some (pt d) := by rw [cell_of_row _ _ _ _ _ _ hJ.pd]; rfl
    obtain ⟨c7, z7⟩ := hJ.dev.c7
    obtain ⟨w4, hcl, pm4, b4, z4⟩ := hJ.dev.map.clear 0
    have HJ : Hid (SJ s fs fo fc d b m w l.length W) := hJ
    have HK2 : Hid _ := hK
    have HW : Hid _ := hw
    have PM4 : Hid _ := pm4
    have B4 : Hid _ := b4
    clear hJ hK hw pm4 b4
    gi_wp2
    have hb4 := B4.out
    have hD4 : w4.heap[D]? = some (.deferred (some [])) := (hb4.block D (Array.getElem?_eq_some_iff.1 HK2.out).1 (by omega)).trans HK2.out
    refine ⟨by simp, .inl ⟨_, _, rfl, run_takeDeferred hD4, ?_⟩⟩
    have hj := HJ.out
    have hp : ∀ k, k ≠ D → (w4.putObj D (.deferred none)).heap[k]? = w4.heap[k]? := fun k hk => World.putObj_heap_other hk
    refine ⟨_, results_none rfl _ _ _, rfl, ⟨?_, ?_, ?_, hdb, hdm, hbm⟩, ?_⟩
    · exact (hp d (by omega)).trans ((hb4.block d hj.dev.lt.1 hdm).trans hj.dev.self)
    · show Row _ b s.n (wakeTx s fs) s.bad
      rw [← HW.out]
      exact Row.same (hj.dev.row.same (hb4.block b hj.dev.lt.2.1 hbm)) (hp b (by omega))
    · exact Pm.same PM4.out (hp m (by omega))
    · have h1 : But (Dv d b m) w w4 := (hj.but.more fun k e => .inr (.inl e)).trans (hb4.more fun k e => .inr (.inr e))
      exact ⟨h1.os, h1.tape, h1.output, by simpa [World.putObj] using h1.size, fun k hk hn => (hp k (by omega)).trans (h1.block k hk hn)⟩
  case stop =>
    rintro D W hD ⟨k, hk1, hJ⟩ hK
    have hw := wkTx_all s fs l HR1.out HK.out k (.inr hk1)
    have c2 : W.cell? ⟨w.heap.size, 0, none⟩ = some (pt d) := by rw [cell_of_row _ _ _ _ _ _ hJ.pd]; rfl
    obtain ⟨c7, z7⟩ := hJ.dev.c7
    obtain ⟨w4, hcl, pm4, b4, z4⟩ := hJ.dev.map.clear 0
    have HJ : Hid (SJ s fs fo fc d b m w k W) := hJ
    have HK2 : Hid _ := hK
    have HW : Hid _ := hw
    have PM4 : Hid _ := pm4
    have B4 : Hid _ := b4
    clear hJ hK hw pm4 b4
    gi_wp2
    have hb4 := B4.out
    have hD4 : w4.heap[D]? = some (.deferred (some [])) := (hb4.block D (Array.getElem?_eq_some_iff.1 HK2.out).1 (by omega)).trans HK2.out
    refine ⟨by simp, .inl ⟨_, _, rfl, run_takeDeferred hD4, ?_⟩⟩
    have hj := HJ.out
    have hp : ∀ k2, k2 ≠ D → (w4.putObj D (.deferred none)).heap[k2]? = w4.heap[k2]? := fun k2 hk => World.putObj_heap_other hk
    refine ⟨_, results_none rfl _ _ _, rfl, ⟨?_, ?_, ?_, hdb, hdm, hbm⟩, ?_⟩
    · exact (hp d (by omega)).trans ((hb4.block d hj.dev.lt.1 hdm).trans hj.dev.self)
    · show Row _ b s.n (wakeTx s fs) s.bad
      rw [← HW.out]
      exact Row.same (hj.dev.row.same (hb4.block b hj.dev.lt.2.1 hbm)) (hp b (by omega))
    · exact Pm.same PM4.out (hp m (by omega))
    · have h1 : But (Dv d b m) w w4 := (hj.but.more fun k2 e => .inr (.inl e)).trans (hb4.more fun k2 e => .inr (.inr e))
      exact ⟨h1.os, h1.tape, h1.output, by simpa [World.putObj] using h1.size, fun k2 hk hn => (hp k2 (by omega)).trans (h1.block k2 hk hn)⟩
set_option maxRecDepth 100000 in
set_option maxHeartbeats 1000000 in
theorem wake_fs (N : Nat) (hN : N ≤ 4096) (hS : Sorts N) (d b m : Nat) (s : St) (fs : List Int) (fo : Option Addr) (fc : Nat) (w : World) (h : Dev w d b m s) (hk : Ok s) (hc : ∀ l, AllKeys s.pd l → l.length ≤ N) (hf : Fs w fo fs) (hfb : fs ≠ [] → ∀ a, fo = some a → ¬ Dv d b m a.block) :
    Calls Try.prog 25 #[pt d, .slice fo fs.length fc] w fun e w' => e = .returned (.int .i64 0) ∧ Dev w' d b m (wakeS s fs) ∧ But (Dv d b m) w w' := by
  have H1 : Hid _ := callsIn_wide.1 (settle_in N hN hS d b m s fs fo fc w h hk hc hf hfb)
  clear h hk hc hf hfb hS
  go_enter Try.func25, Try.ntmps25
  go_wp2_with fail
  refine Calls.mono H1.out ?_
  rintro e w1 ⟨rfl, d1, b1⟩
  have H2 : Hid _ := back_any d b m _ w1 d1
  have B1 : Hid _ := b1
  clear d1 b1 H1
  go_wp2_with fail
  refine Calls.mono H2.out ?_
  rintro e w2 ⟨rfl, d2, b2⟩
  have D2 : Hid _ := d2
  have B2 : Hid _ := b2
  clear d2 b2
  go_wp2_with fail
  go_ret
  exact ⟨rfl, D2.out, B1.out.trans B2.out⟩
set_option maxRecDepth 100000 in
theorem wake_any (N : Nat) (hN : N ≤ 4096) (hS : Sorts N) (d b m : Nat) (s : St) (fs : List Int) (fo : Option Addr) (fc : Nat) (w : World) (h : Dev w d b m s) (hk : Ok s) (hc : ∀ l, AllKeys s.pd l → l.length ≤ N) (hf : Fs w fo fs) (hfb : ∀ a, fo = some a → ¬ Dv d b m a.block) :
    Calls Try.prog 25 #[pt d, .slice fo fs.length fc] w fun e w' => e = .returned (.int .i64 0) ∧ Dev w' d b m (wakeS s fs) ∧ But (Dv d b m) w w' := wake_fs N hN hS d b m s fs fo fc w h hk hc hf fun _ => hfb
end Go.Proofs.Ytkpfnepbnaekoaa.Rd
