/- pad.body: a text's body. -/
import Derived.Test.YtheheaflebkipaaGreatDoorPYA
import Derived.Deep.OwnRows
import Derived.Laws.IdiomStrings
import Derived.Test.YtheheaflebkipaaGreatDoorQYM
import Derived.Lib.OthersKept
import Derived.Lib.UnsafeStr
import Derived.Laws.Externs
namespace Go.Proofs.YtheheaflebkipaaGreatDoor.Rp
open Go.RowKit
/-- The number in a slot. -/
def natOf : Value → Nat | .int _ x => x.toNat | _ => 0
set_option maxRecDepth 100000 in
theorem info5 : (Tryz.prog.info? 5).map (fun i => (i.zero, i.size, i.bytes)) = some (some (.int .u8 0), 1, 1) := by kernel_rfl
set_option maxRecDepth 100000 in
theorem idx_s (s : ByteArray) (p : Nat) (hp : p < s.size) (w : World) : (Instr.index 9 (.string s) (.int .i64 (p : Int))).run Tryz.prog w = .ok (.int .u8 (bt s p)) w := by
  have h0 : (p : Int) < (s.size : Int) := by omega
  simp [Instr.index, run_underlying Tryz.underlying9, go_sem, hp]
  unfold bt
  rw [Array.getElem?_eq_getElem (by exact hp)]
  rfl
set_option maxRecDepth 100000 in
theorem set_at (w : World) (b i : Nat) (cs : Array Value) (T : TypeId) (fr : Nat × Nat) (v : Value) (hb : w.heap[b]? = some (.cells cs T fr)) : (w.setCell ⟨b, i, none⟩ v).heap[b]? = some (.cells (cs.setIfInBounds i v) T fr) := by
  rw [setCell_eq_setRow w b i cs T fr v hb]
  exact setRow_heap w b cs _ T _ hb
set_option maxRecDepth 100000 in
set_option maxHeartbeats 1000000 in
theorem body_any (s : ByteArray) (hs : s.size ≤ 198) (w : World) :
    Calls Tryz.prog 124 #[.string s] w fun e w' => e = .returned (.string (bodyS s)) ∧ Below w.heap.size w w' := by
  have hmk : ∀ w : World, (Instr.makeSlice 70 (.int .i64 200) (.int .i64 200)).run Tryz.prog w = .ok (.slice (some ⟨w.heap.size, 0, none⟩) 200 200) (w.alloc (.cells (madeCells #[.int .u8 0] 200) 5)) := fun w =>
    run_make_row' 70 5 (.int .u8 0) 1 Tryz.underlying70 info5 rfl .i64 .i64 200 (by decide) (by decide) w
  have hcs : ∀ j, j < 200 → (madeCells #[Value.int .u8 0] 200)[j]? = some (.int .u8 0) := fun j hj => by
    simp [madeCells, hj, Nat.mod_one]
  obtain ⟨cs, hc⟩ : ∃ cs, madeCells #[Value.int .u8 0] 200 = cs := ⟨_, rfl⟩
  rw [hc] at hmk hcs
  clear hc
  have HC : Hid (∀ j, j < 200 → cs[j]? = some (.int .u8 0)) := hcs
  have k0 := hcs 0 (by omega)
  have k1 := hcs 1 (by omega)
  have k2 : (cs.setIfInBounds 0 (.int .u8 ((s.size : Int) / 256)))[1]? = some (.int .u8 0) := by rw [Array.getElem?_setIfInBounds_ne (by omega)]; exact k1
  clear hcs k1
  go_enter Tryz.func124, Tryz.ntmps124
  go_wp2_with fail
  have D0 : Hid (∀ j, j < 200 → ((cs.setIfInBounds 0 (.int .u8 ((s.size : Int) / 256))).setIfInBounds 1 (.int .u8 (s.size : Int)))[j]? = some (.int .u8 (if j < 0 + 2 then bodyN s j else 0))) := fun j hj => by
    have hz : 200 ≤ cs.size := by
      have := (Array.getElem?_eq_some_iff.1 (HC.out 199 (by omega))).1
      omega
    by_cases h1 : j = 1
    · subst h1
      rw [Array.getElem?_setIfInBounds_self_of_lt (by rw [Array.size_setIfInBounds]; omega), if_pos (by omega)]
      simp only [bodyN, if_true, if_false, Nat.one_ne_zero]
      congr 2; omega
    · rw [Array.getElem?_setIfInBounds_ne (fun h => h1 h.symm)]
      by_cases h0 : j = 0
      · subst h0
        rw [Array.getElem?_setIfInBounds_self_of_lt (by omega), if_pos (by omega)]
        simp only [bodyN, if_true]
        congr 2
      · rw [Array.getElem?_setIfInBounds_ne (fun h => h0 h.symm), HC.out j hj, if_neg (by omega)]
  generalize (cs.setIfInBounds 0 (.int .u8 ((s.size : Int) / 256))).setIfInBounds 1 (.int .u8 (s.size : Int)) = es at *
  clear k0 k2 HC hmk
  go_loopw [19] (fun i wr => ∃ (k : Nat) (ds : Array Value), k ≤ s.size ∧ i = .int .i64 (k : Int) ∧ wr.heap[w.heap.size]? = some (.cells ds 5 (0, 0)) ∧ (∀ j, j < 200 → ds[j]? = some (.int .u8 (if j < k + 2 then bodyN s j else 0))) ∧ Below w.heap.size w wr) (fun i _ => s.size - natOf i)
  case atStart => exact ⟨0, es, by omega, rfl, heap_alloc_new w _, D0.out, below_new w _⟩
  case round =>
    clear D0
    obtain ⟨k, ds, hk, rfl, hrow, hds, hbe⟩ := hrel
    have RX : Hid (wr.heap[w.heap.size]? = some (.cells ds 5 (0, 0))) := hrow
    have DX : Hid (∀ j, j < 200 → ds[j]? = some (.int .u8 (if j < k + 2 then bodyN s j else 0))) := hds
    have BX : Hid (Below w.heap.size w wr) := hbe
    clear hds hbe
    by_cases hlt : k < s.size
    · have c1 : wr.cell? ⟨w.heap.size, k + 2, none⟩ = some (.int .u8 0) := by rw [cell_of_row _ _ _ _ _ _ hrow, DX.out (k + 2) (by omega)]; simp
      have c2 : wr.cell? ⟨w.heap.size, 2 + k, none⟩ = some (.int .u8 0) := by rw [Nat.add_comm]; exact c1
      have hz : wr.frozen? ⟨w.heap.size, 2 + k, none⟩ = false := frozen_of_row wr _ _ _ _ hrow
      have g0 : (0 : Int) ≤ (k : Int) := by omega
      have g1 : (k : Int) < (s.size : Int) := by omega
      have g2 : (k : Int) < 198 := by omega
      have hix := idx_s s k hlt
      obtain ⟨x, hx⟩ : ∃ x, bt s k = x := ⟨_, rfl⟩
      have HX : Hid (bt s k = x) := hx
      rw [hx] at hix
      clear hrow hx c1
      go_wp2_with fail
      go_roundw
      case rel =>
        refine ⟨k + 1, ds.setIfInBounds (2 + k) (.int .u8 x), hlt, by go_num, set_at _ _ _ _ _ _ _ RX.out, fun j hj => ?_, BX.out.setCell (Nat.le_refl _) _⟩
        by_cases e : j = 2 + k
        · subst e
          rw [Array.getElem?_setIfInBounds_self_of_lt (by have := DX.out _ hj; exact (Array.getElem?_eq_some_iff.1 this).1), if_pos (by omega)]
          unfold bodyN
          rw [if_neg (by omega), if_neg (by omega), show 2 + k - 2 = k by omega, HX.out]
        · rw [Array.getElem?_setIfInBounds_ne (fun h => e h.symm), DX.out j hj]
          by_cases h2 : j < k + 2
          · rw [if_pos h2, if_pos (by omega)]
          · rw [if_neg h2, if_neg (by omega)]
      case measure => simp [natOf]; omega
    · obtain rfl : k = s.size := by omega
      have a0 : ¬ (s.size : Int) < (s.size : Int) := by omega
      have hcb : (convert 70 9 (.slice (some ⟨w.heap.size, 0, none⟩) 200 200)).run Tryz.prog wr = .ok (.string (bodyS s)) wr := by
        unfold bodyS
        refine run_convert_bytes_arg wr 70 5 Tryz.underlying70 Tryz.underlying5 w.heap.size 0 200 200 _ (by rw [upto_length]) (fun i hi => ?_) 9 Tryz.underlying9
        rw [Nat.zero_add, cell_of_row _ _ _ _ _ _ hrow, DX.out i hi, upto_get _ _ _ hi]
        by_cases h2 : i < s.size + 2
        · rw [if_pos h2]
        · rw [if_neg h2]
          unfold bodyN
          rw [if_neg (by omega), if_neg (by omega), bt_out _ _ (by omega)]
      clear hrow
      go_wp2_with fail
      go_ret
      exact ⟨rfl, BX.out⟩
end Go.Proofs.YtheheaflebkipaaGreatDoor.Rp
/- A writer of bytes: what its promoted methods do, in whatever block it lies. -/
namespace Go.Proofs.YtheheaflebkipaaGreatDoor.Rs
open Go.RowKit Go.Lib
set_option maxRecDepth 100000 in
theorem cell_one' (W : World) (v : Value) (t : TypeId) : ∀ j u, [v][j]? = some u → (W.alloc (.cells #[v] t)).cell? ((⟨W.heap.size, 0, none⟩ : Addr).add j) = some u := by
  intro j u hj
  match j, hj with
  | 0, hj => simp at hj; subst hj; simp [Addr.add]
set_option maxRecDepth 100000 in
theorem infoBuilder : (Tryz.prog.info? 137).map (·.size) = some 2 := by kernel_rfl
set_option maxRecDepth 100000 in
theorem liesBuilder : liesAt Tryz.prog Tryz.prog.depth 169 (2 / Tryz.prog.cellsOf 169) 0 137 1 = true := by kernel_rfl
/-- What a writer has written. -/
abbrev Wr (B b : Nat) (bs : List Value) (w : World) : Prop := IsBuilder 169 5 B b bs w
set_option maxRecDepth 100000 in
set_option maxHeartbeats 1000000 in
theorem check_any (B b : Nat) (bs : List Value) (w : World) (h : Wr B b bs w) :
    Calls Tryz.prog 122 #[.pointer (some ⟨b, 0, none⟩)] w fun e w' => e = .returned (.tuple #[]) ∧ BuilderAt 169 5 B b (.pointer (some ⟨b, 0, none⟩)) bs w' ∧ Below B w w' ∧ OthersKept 5 (some b) w w' := by
  obtain ⟨j, hj, hjs⟩ := Option.map_eq_some_iff.1 infoBuilder
  rcases h with h | h
  · have h0 := h.cell0
    have hsh := h.shape
    have hfz := h.frozen0
    have HH : Hid (BuilderAt 169 5 B b (.pointer none) bs w) := h
    clear h
    go_enter Tryz.func122, Tryz.ntmps122
    go_wp2
    rw [run_to_unsafe w ⟨b, 0, none⟩ Tryz.underlying135 Tryz.underlying180 hj (by rw [hjs]; decide) hsh (Nat.zero_lt_succ 1)]
    go_simp
    go_wp2
    rw [run_callFunc_extern Tryz.func143 (by kernel_rfl) (by kernel_rfl) (by kernel_rfl) (e := Extern.AbiNoEscape.same) (by kernel_rfl)]
    rw [run_noEscape]
    go_simp
    go_wp2
    rw [run_from_unsafe w ⟨b, 0, none⟩ Tryz.underlying180 Tryz.underlying135 hj hsh liesBuilder]
    go_simp
    go_wp2
    go_end0
    exact ⟨rfl, HH.out.used _, (Below.refl B w).setCell (p := ⟨b, 0, none⟩) HH.out.1 _, (OthersKept.refl 5 (some b) w).setCell ⟨b, 0, none⟩ rfl _⟩
  · have h0 := h.cell0
    have HH : Hid (BuilderAt 169 5 B b (.pointer (some ⟨b, 0, none⟩)) bs w) := h
    clear h
    go_enter Tryz.func122, Tryz.ntmps122
    go_wp2
    rw [run_neq_ptr_same w _ Tryz.underlying135 hj]
    go_wp2
    go_end0
    exact ⟨rfl, HH.out, Below.refl B _, OthersKept.refl _ _ _⟩
set_option maxRecDepth 100000 in
set_option maxHeartbeats 1000000 in
theorem len_any (B b : Nat) (bs : List Value) (w : World) (h : Wr B b bs w) :
    Calls Tryz.prog 98 #[.pointer (some ⟨b, 0, none⟩)] w fun e w' => e = .returned (.int .i64 bs.length) ∧ w' = w := by
  obtain ⟨p, hB, v, hbk, hown, hne⟩ : ∃ p, BuilderAt 169 5 B b p bs w := h.elim (fun h => ⟨_, h⟩) (fun h => ⟨_, h⟩)
  obtain ⟨ao, cap, rfl⟩ : ∃ ao cap, v = .slice ao bs.length cap := by
    rcases hown.2 with ⟨hv, h0⟩ | ⟨g, cap, cur, hv, _⟩
    · exact ⟨none, 0, by rw [hv, h0]⟩
    · exact ⟨_, _, hv⟩
  have c1 : w.cell? ⟨b, 1, none⟩ = some (.slice ao bs.length cap) := by rw [cell_of_heap hbk]; rfl
  clear hbk hown hne
  go_enter Tryz.func98, Tryz.ntmps98
  go_wp2
  go_ret
  exact ⟨rfl, rfl⟩
set_option maxRecDepth 100000 in
theorem neW : (169 : TypeId) ≠ 5 := by decide
set_option maxRecDepth 100000 in
set_option maxHeartbeats 2000000 in
theorem write_any (B b : Nat) (bs : List Value) (c : Int) (w : World) (h : Wr B b bs w) (hlen : bs.length ≤ 1000) (hBw : B ≤ w.heap.size) :
    Calls Tryz.prog 153 #[.pointer (some ⟨b, 0, none⟩), .int .u8 c] w fun e w' => e = .returned .nilIface ∧ Wr B b (bs ++ [.int .u8 c]) w' ∧ Below B w w' ∧ OthersKept 5 (some b) w w' := by
  obtain ⟨i0, hi, hz0, hz1, hz2⟩ := info_parts Rp.info5
  go_enter Tryz.func153, Tryz.ntmps153
  go_wp2_with (go_at_call 122; refine (check_any B b bs _ h).mono ?_)
  rintro e w1 ⟨rfl, ⟨hB, v, hbk, hown, hne⟩, hb1, hk1⟩
  have BK : Hid (w1.heap[b]? = some (.cells #[.pointer (some ⟨b, 0, none⟩), v] 169 (0, 0))) := hbk
  have c0 : w1.cell? ⟨b, 0, none⟩ = some (.pointer (some ⟨b, 0, none⟩)) := by rw [cell_of_heap hbk]; rfl
  have c1 : w1.cell? ⟨b, 1, none⟩ = some v := by rw [cell_of_heap hbk]; rfl
  have hlt : b < w1.heap.size := (Array.getElem?_eq_some_iff.1 hbk).1
  have s1 := hb1.size
  have HO : Hid (w1.ownsRow B 5 1 v bs.length bs) := hown
  have HN : Hid (v.ownBlock ≠ some b) := hne
  have HB1 : Hid (Below B w w1) := hb1
  have HK1 : Hid (OthersKept 5 (some b) w w1) := hk1
  clear hbk hown hne hb1 hk1 h
  go_wp2_with (at_builtin; refine wpList_append_own _ rfl _ _ 70 rfl B 5 i0 (.int .u8 0) 1 1 Tryz.underlying70 hi hz0 hz1 hz2 rfl (by decide) _ _ _ rfl (HO.out.alloc _) ⟨w1.heap.size, 0, none⟩ 1 1 [.int .u8 c] rfl rfl ?c1 ?c2 ?c3 ?c4 ?c5 ?_)
  case c1 => exact cell_one' _ _ _
  case c2 => intro u hu; simp at hu; subst hu; rfl
  case c3 => unfold maxLen; omega
  case c4 => omega
  case c5 => simp; omega
  intro v' w2 hown' hgrow _
  have KND : ∀ g, v.ownBlock = some g → ∃ cc fz, (w1.alloc (.cells #[.int .u8 c] 5)).heap[g]? = some (.cells cc 5 fz) := fun g hg => by
    rcases (HO.out.alloc (.cells #[.int .u8 c] 5)).2 with ⟨hv, _⟩ | ⟨g', cap, cur, hv, _, hh, _⟩
    · rw [hv] at hg; cases hg
    · rw [hv] at hg; cases hg; exact ⟨_, _, hh⟩
  have X2 : w2.heap[b]? = some (.cells #[.pointer (some ⟨b, 0, none⟩), v] 169 (0, 0)) := by
    rw [hgrow.block b (by simp; omega) (fun e => HN.out e.symm), alloc_old w1 _ b hlt]
    exact BK.out
  have d0 : w2.cell? ⟨b, 0, none⟩ = some (.pointer (some ⟨b, 0, none⟩)) := by rw [cell_of_heap X2]; rfl
  have d1 : w2.cell? ⟨b, 1, none⟩ = some v := by rw [cell_of_heap X2]; rfl
  have f1 : w2.frozen? ⟨b, 1, none⟩ = false := frozen_of_heap X2 1
  obtain ⟨g, cap, rfl⟩ : ∃ g cap, v' = .slice (some ⟨g, 0, none⟩) (bs.length + 1) cap := by
    rcases hown'.2 with ⟨_, h0⟩ | ⟨g, cap, cur, hv, _⟩
    · simp at h0
    · exact ⟨g, cap, hv⟩
  have FW : Hid (Wr B b (bs ++ [.int .u8 c]) (w2.setCell ⟨b, 1, none⟩ (.slice (some ⟨g, 0, none⟩) (bs.length + 1) cap))) := .inr (BuilderAt.put hB X2 (bs' := bs ++ [.int .u8 c]) (by simpa using hown') neW)
  have FB : Hid (Below B w (w2.setCell ⟨b, 1, none⟩ (.slice (some ⟨g, 0, none⟩) (bs.length + 1) cap))) := ((HB1.out.alloc (by omega) _).grown hgrow (by simp; omega) (fun k hk => (HO.out.lt k hk).1)).setCell (p := ⟨b, 1, none⟩) hB _
  have FK : Hid (OthersKept 5 (some b) w (w2.setCell ⟨b, 1, none⟩ (.slice (some ⟨g, 0, none⟩) (bs.length + 1) cap))) := ((HK1.out.alloc _).grown hgrow (fun g hg => KND g hg)).setCell ⟨b, 1, none⟩ rfl _
  clear hown' hgrow KND
  go_wp2
  go_ret
  exact ⟨rfl, FW.out, FB.out, FK.out⟩
end Go.Proofs.YtheheaflebkipaaGreatDoor.Rs
