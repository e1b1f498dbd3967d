/- The mac. -/
import Derived.Test.YtmlechalhldlhaaDoorUd
import Derived.Test.YtmlechalhldlhaaDoorTc
namespace Go.Proofs.YtmlechalhldlhaaDoor
open Go.RowKit Go.Lib
/-- The first so many texts, behind each other. -/
def catS (ts : Nat → ByteArray) : Nat → ByteArray
  | 0 => ⟨#[]⟩
  | j + 1 => catS ts j ++ ts j
theorem catS_size (ts : Nat → ByteArray) (n : Nat) : (catS ts n).size = offs ts n := by
  induction n with
  | zero => rfl
  | succ n ih => show (catS ts n ++ ts n).size = offs ts n + (ts n).size; rw [ByteArray.size_append, ih]
theorem catS_bt (ts : Nat → ByteArray) : ∀ n i, i < n → ∀ j, j < (ts i).size → bt (ts i) j = bt (catS ts n) (offs ts i + j) := by
  intro n
  induction n with
  | zero => intro i hi; omega
  | succ n ih =>
    intro i hi j hj
    show _ = bt (catS ts n ++ ts n) (offs ts i + j)
    rw [bt_app, catS_size]
    by_cases e : i = n
    · subst e
      rw [if_neg (by omega), show offs ts i + j - offs ts i = j by omega]
    · have h1 : offs ts (i + 1) ≤ offs ts n := offs_mono ts (by omega)
      have h2 : offs ts (i + 1) = offs ts i + (ts i).size := rfl
      rw [if_pos (by omega)]
      exact ih i (by omega) j hj
theorem catS_low (ts : Nat → ByteArray) (n j : Nat) (hj : j < offs ts n) : bt (catS ts n) j = bt (catS ts (n + 1)) j := by
  show _ = bt (catS ts n ++ ts n) j
  rw [bt_app, catS_size, if_pos hj]
/-- A text's sum, as a text. -/
def shaS (Kt : Nat → Int) (s : ByteArray) : ByteArray := strOfNums (dig Kt (lf IV) (bt s) s.size)
theorem shaS_size (Kt : Nat → Int) (s : ByteArray) : (shaS Kt s).size = 32 := by unfold shaS; rw [strOfNums_size, dig_length]
theorem kpart_size (Kt : Nat → Int) (key : ByteArray) : (kpart Kt key).size = 64 := by unfold kpart; rw [strOfNums_size, upto_length]
/-- The mac of a text under a key. -/
def macS (Kt : Nat → Int) (key C : ByteArray) : ByteArray := shaS Kt (msk (kpart Kt key) 92 ++ shaS Kt (msk (kpart Kt key) 54 ++ C))
theorem macS_size (Kt : Nat → Int) (key C : ByteArray) : (macS Kt key C).size = 32 := shaS_size _ _
theorem add_cat (Kt : Nat → Int) (len cap : Nat) (o : Option Addr) (ts : Nat → ByteArray) (C : ByteArray) (hC : catS ts len = C) (w : World) {tt : TypeId} {fr : Nat × Nat} (hK : w.heap[1]? = some (.cells (w64 Kt) tt fr))
    (hL : C.size ≤ 1000000000000) (hlen : len ≤ 1099511627776)
    (hts : ∀ i, i < len → ∃ b off, o = some ⟨b, off, none⟩ ∧ b < w.heap.size ∧ w.cell? ⟨b, off + i, none⟩ = some (.string (ts i))) :
    Calls Tryd.prog 36 #[.slice o len cap] w fun e w' => e = .returned (.string (shaS Kt C)) ∧ Below w.heap.size w w' := by
  have hz : C.size = offs ts len := by rw [← hC]; exact catS_size ts len
  refine (add_any Kt (bt C) (bt_range C) len cap o ts w hK (by omega) hlen fun i hi => ⟨hts i hi, fun j hj => by rw [← hC]; exact catS_bt ts len i hi j hj⟩).mono ?_
  rintro e w' ⟨rfl, h⟩
  exact ⟨by unfold shaS; rw [hz], h⟩
theorem info9 : (Tryd.prog.info? 9).map (fun i => (i.zero, i.size, i.bytes)) = some (some (.string ⟨#[]⟩), 1, 16) := by kernel_rfl
/-- A text ahead of texts. -/
def ahead (x : ByteArray) (ts : Nat → ByteArray) : Nat → ByteArray
  | 0 => x
  | i + 1 => ts i
theorem cat_ahead (x : ByteArray) (ts : Nat → ByteArray) (n : Nat) : catS (ahead x ts) (n + 1) = x ++ catS ts n := by
  induction n with
  | zero => apply ByteArray.ext; simp [catS, ahead]
  | succ n ih =>
    show catS (ahead x ts) (n + 1) ++ ts n = x ++ (catS ts n ++ ts n)
    rw [ih, app_assoc]
/-- Texts laid behind a text in a block of one's own. -/
theorem app_texts (W : World) (B : Nat) (x : ByteArray) (hB : W.heap[B]? = some (.cells #[.string x] 9 (0, 0))) (o : Option Addr) (len cap : Nat) (ho : o = none → len = 0 ∧ cap = 0) (ts : Nat → ByteArray) (hlen : len ≤ 1000000)
    (hts : ∀ i, i < len → ∃ b off, o = some ⟨b, off, none⟩ ∧ b < W.heap.size ∧ W.cell? ⟨b, off + i, none⟩ = some (.string (ts i))) (ty : TypeId) :
    ∃ p c W', (Builtin.append_ #[57, 57] ty #[.slice (some ⟨B, 0, none⟩) 1 1, .slice o len cap]).run Tryd.prog W = .ok (.slice (some ⟨p, 0, none⟩) (len + 1) c) W' ∧ p < W'.heap.size ∧ Below B W W' ∧ ∀ i, i < len + 1 → W'.cell? ⟨p, i, none⟩ = some (.string (ahead x ts i)) := by
  obtain ⟨i0, hi, hz0, hz1, hz2⟩ := info_parts info9
  have hBl : B < W.heap.size := (Array.getElem?_eq_some_iff.1 hB).1
  cases o with
  | none =>
    obtain ⟨rfl, rfl⟩ := ho rfl
    refine ⟨B, 1, W, ?_, hBl, Below.refl _ _, fun i hi => ?_⟩
    · simp [Builtin.append_, run_underlying Tryd.underlying57, sizeOf, typeInfo, hi, Builtin.lenOf, Builtin.firstCells, loadCells, storeCells]
    · obtain rfl : i = 0 := by omega
      rw [cell_of_row _ _ _ _ _ _ hB]; rfl
  | some a =>
    have hown : W.ownsRow B 9 1 (.slice (some ⟨B, 0, none⟩) 1 1) 1 [.string x] := ⟨rfl, .inr ⟨B, 1, #[.string x], rfl, Nat.le_refl _, hB, Nat.le_refl _, by decide, rfl, rfl⟩⟩
    have hcat : ∀ j u, ((List.range len).map fun i => Value.string (ts i))[j]? = some u → W.cell? (a.add j) = some u := fun j u hj => by
      have hjl : j < len := by have := (List.getElem?_eq_some_iff.1 hj).1; simpa using this
      obtain ⟨b, off, hab, _, hc⟩ := hts j hjl
      rw [Option.some.inj hab, Addr.add_lit, hc]
      simpa [hjl] using hj
    obtain ⟨v', W', hr, ho', hg, _, _⟩ := run_append_own_at (P := Tryd.prog) W B 57 ty 9 i0 (.string ⟨#[]⟩) 1 16 Tryd.underlying57 hi hz0 hz1 hz2 rfl (by decide) _ 1 _ hown a len cap ((List.range len).map fun i => Value.string (ts i)) (by simp) hcat (fun u hu => by obtain ⟨i, _, rfl⟩ := List.mem_map.1 hu; rfl) (by unfold maxLen; omega) (by omega) (Nat.le_of_lt hBl)
    obtain ⟨p, c, hv⟩ : ∃ p c, v' = .slice (some ⟨p, 0, none⟩) (1 + len) c := by
      rcases ho'.2 with ⟨_, h0⟩ | ⟨p, c, _, h, _⟩
      · omega
      · exact ⟨p, c, h⟩
    subst hv
    refine ⟨p, c, W', by rw [hr, Nat.add_comm], own_lt ho', grown_below hg (Nat.le_refl _) (Nat.le_of_lt hBl), fun i hi' => own_cell ho' ?_⟩
    match i, hi' with
    | 0, _ => rfl
    | i + 1, h => simp [ahead, show i < len by omega]
/-- The mac of texts behind each other. -/
theorem mac_any (Kt : Nat → Int) (key : ByteArray) (hk : key.size ≤ 1000000) (len cap : Nat) (o : Option Addr) (ho : o = none → len = 0 ∧ cap = 0) (ts : Nat → ByteArray) (C : ByteArray) (hC : catS ts len = C) (w : World) {tt : TypeId} {fr : Nat × Nat} (hK : w.heap[1]? = some (.cells (w64 Kt) tt fr))
    (hL : C.size ≤ 1000000000) (hlen : len ≤ 1000000) (hts : ∀ i, i < len → ∃ b off, o = some ⟨b, off, none⟩ ∧ b < w.heap.size ∧ w.cell? ⟨b, off + i, none⟩ = some (.string (ts i))) :
    Calls Tryd.prog 29 #[.string key, .slice o len cap] w fun e w' => e = .returned (.string (macS Kt key C)) ∧ Below w.heap.size w w' := by
  have h1l : 1 < w.heap.size := (Array.getElem?_eq_some_iff.1 hK).1
  have HK : Hid (w.heap[1]? = some (.cells (w64 Kt) tt fr)) := hK
  have HTS : Hid (∀ i, i < len → ∃ b off, o = some ⟨b, off, none⟩ ∧ b < w.heap.size ∧ w.cell? ⟨b, off + i, none⟩ = some (.string (ts i))) := hts
  have HO : Hid (o = none → len = 0 ∧ cap = 0) := ho
  have HC : Hid (catS ts len = C) := hC
  have HM : Hid (macS Kt key C = shaS Kt (msk (kpart Kt key) 92 ++ shaS Kt (msk (kpart Kt key) 54 ++ C))) := rfl
  have PA : Hid (Calls Tryd.prog 34 #[.string key] w fun e w' => e = .returned (.string (kpart Kt key)) ∧ Below w.heap.size w w') := part_any Kt key hk w hK
  have hps := kpart_size Kt key
  clear hK hts ho hC
  generalize kpart Kt key = p at *
  go_enter Tryd.func29, Tryd.ntmps29
  go_wp2_with fail
  refine PA.out.mono ?_
  rintro e w1 ⟨rfl, b1⟩
  have B1 : Hid (Below w.heap.size w w1) := b1
  clear b1 PA
  go_wp2_with fail
  refine (masked_any p (by omega) 54 w1).mono ?_
  rintro e w2 ⟨rfl, b2⟩
  have B2 : Hid (Below w.heap.size w w2) := B1.out.trans (b2.mono B1.out.size)
  have hxs := msk_size p 54
  clear b2 B1
  obtain ⟨x, hx⟩ : ∃ x, msk p 54 = x := ⟨_, rfl⟩
  rw [hx] at HM hxs ⊢
  clear hx
  obtain ⟨W3, hW3⟩ : ∃ W3, w2.alloc (.cells #[.string x] 9) = W3 := ⟨_, rfl⟩
  have B3 : Hid (Below w.heap.size w W3) := by rw [← hW3]; exact B2.out.alloc B2.out.size _
  have R3 : W3.heap[w2.heap.size]? = some (.cells #[.string x] 9 (0, 0)) := by rw [← hW3]; exact heap_alloc_new w2 _
  obtain ⟨pp, c, W4, hr4, hp4, b4, hc4⟩ := app_texts W3 w2.heap.size x R3 o len cap HO.out ts hlen (fun i hi => by
    obtain ⟨b, off, h1, h2, h3⟩ := HTS.out i hi
    exact ⟨b, off, h1, Nat.lt_of_lt_of_le h2 B3.out.size, (cell_same (B3.out.block b h2) _).trans h3⟩) 57
  have B4 : Hid (Below w.heap.size w W4) := B3.out.trans (b4.mono B2.out.size)
  have C4 : Hid (∀ i, i < len + 1 → W4.cell? ⟨pp, i, none⟩ = some (.string (ahead x ts i))) := hc4
  rw [← hW3] at hr4
  clear R3 hW3 b4 hc4 B3
  go_wp2_with (at_builtin; refine list_append rfl 57 57 (.tmp 11) (.tmp 12) rfl (vs := .slice (some ⟨w2.heap.size, 0, none⟩) 1 1) (vx := .slice o len cap) rfl rfl hr4 ?_)
  refine (masked_any p (by omega) 92 W4).mono ?_
  rintro e w5 ⟨rfl, b5⟩
  have B5 : Hid (Below w.heap.size w w5) := B4.out.trans (b5.mono B4.out.size)
  have C5 : Hid (∀ i, i < len + 1 → w5.cell? ⟨pp, i, none⟩ = some (.string (ahead x ts i))) := fun i hi => (cell_same (b5.block pp hp4) _).trans (C4.out i hi)
  have hp5 : pp < w5.heap.size := Nat.lt_of_lt_of_le hp4 b5.size
  have hys := msk_size p 92
  clear b5 B4 C4 B2 hr4
  obtain ⟨y, hy⟩ : ∃ y, msk p 92 = y := ⟨_, rfl⟩
  rw [hy] at HM hys ⊢
  clear hy
  have hAC : (x ++ C).size = x.size + C.size := ByteArray.size_append
  go_wp2_with fail
  refine (add_cat Kt (len + 1) c (some ⟨pp, 0, none⟩) (ahead x ts) (x ++ C) (by rw [cat_ahead, HC.out]) w5 ((B5.out.block 1 h1l).trans HK.out) (by omega) (by omega) (fun i hi => ⟨pp, 0, rfl, hp5, by rw [Nat.zero_add]; exact C5.out i hi⟩)).mono ?_
  rintro e w6 ⟨rfl, b6⟩
  have B6 : Hid (Below w.heap.size w w6) := B5.out.trans (b6.mono B5.out.size)
  have hzs := shaS_size Kt (x ++ C)
  clear b6 B5 C5
  obtain ⟨z, hz⟩ : ∃ z, shaS Kt (x ++ C) = z := ⟨_, rfl⟩
  rw [hz] at HM hzs ⊢
  clear hz
  have hBC : (y ++ z).size = y.size + z.size := ByteArray.size_append
  have AD : ∀ T, Hid (Calls Tryd.prog 36 #[.slice (some ⟨w6.heap.size, 0, none⟩) 2 2] (w6.alloc (.cells #[.string y, .string z] T)) fun e w' => e = .returned (.string (shaS Kt (y ++ z))) ∧ Below w6.heap.size w6 w') := fun T =>
    (add_cat Kt 2 2 (some ⟨w6.heap.size, 0, none⟩) (fun i => if i = 0 then y else z) (y ++ z) (by apply ByteArray.ext; simp [catS]) (w6.alloc (.cells #[.string y, .string z] T)) (((below_new w6 _).block 1 (by have := B6.out.size; omega)).trans ((B6.out.block 1 h1l).trans HK.out)) (by omega) (by decide) (fun i hi => ⟨w6.heap.size, 0, rfl, by simp, by
      rw [Nat.zero_add, cell_of_row _ _ _ _ _ _ (heap_alloc_new w6 _)]
      match i, hi with
      | 0, _ => rfl
      | 1, _ => rfl⟩)).mono fun e w' ⟨h1, h2⟩ => ⟨h1, (below_new w6 _).trans (h2.mono (by simp))⟩
  go_wp2_with fail
  refine (AD _).out.mono ?_
  rintro e w7 ⟨rfl, b7⟩
  have B7 : Hid (Below w.heap.size w w7) := B6.out.trans (b7.mono B6.out.size)
  clear b7 B6 AD
  go_wp2_with fail
  go_ret
  exact ⟨by rw [HM.out]; rfl, B7.out⟩
end Go.Proofs.YtmlechalhldlhaaDoor
