/- pad.Cut. -/
import Derived.Test.YtpmdonigjljllaaK
namespace Go.Proofs.Ytpmdonigjljllaa
open Go.RowKit Go.Shelf Go.Lib
attribute [local go_sem] Oper.semAt_some
theorem own_kz {W W' : World} {base n : Nat} {v : Value} {xs : List Value} (ho : W.ownsRow base 9 1 v n xs) (hk : ∀ (j : Nat) (o : Obj), W.heap[j]? = some o → o.isCells = true → W'.heap[j]? = some o) : W'.ownsRow base 9 1 v n xs := by
  refine ⟨ho.1, ?_⟩
  rcases ho.2 with h | ⟨g, cap, cur, hv, hb, hh, rest⟩
  · exact .inl h
  · exact .inr ⟨g, cap, cur, hv, hb, hk _ _ hh rfl, rest⟩
theorem own_same {W W' : World} {base n : Nat} {v : Value} {xs : List Value} (ho : W.ownsRow base 9 1 v n xs) (hk : ∀ g, base ≤ g → W'.heap[g]? = W.heap[g]?) : W'.ownsRow base 9 1 v n xs := by
  refine ⟨ho.1, ?_⟩
  rcases ho.2 with h | ⟨g, cap, cur, hv, hb, hh, rest⟩
  · exact .inl h
  · exact .inr ⟨g, cap, cur, hv, hb, (hk g hb).trans hh, rest⟩
theorem own_cells {W : World} {base n : Nat} {v : Value} {xs : List Value} (ho : W.ownsRow base 9 1 v n xs) : ∀ j, v.ownBlock = some j → ∃ o, W.heap[j]? = some o ∧ o.isCells = true := fun j e => by
  rcases ho.2 with ⟨rfl, _⟩ | ⟨g, cap, cur, rfl, hb, hh, rest⟩
  · cases e
  · cases e
    exact ⟨_, hh, rfl⟩
theorem keeps_grown {B : Nat} {X Y : World} {row : Option Nat} (hg : X.grownBy Y row) (hr : ∀ j, row = some j → ∃ o, X.heap[j]? = some o ∧ o.isCells = true) : KeepsFrom B X Y :=
  ⟨hg.size, fun k o _ hk ho => (hg.block k (Array.getElem?_eq_some_iff.1 hk).1 (by
    intro e
    obtain ⟨o', h1, h2⟩ := hr k e.symm
    rw [hk] at h1
    cases h1
    rw [ho] at h2
    cases h2)).trans hk⟩
theorem keeps_new {B : Nat} (W : World) (o : Obj) : KeepsFrom B W (W.alloc o) := ⟨by simp, fun k _ _ hk _ => ((below_new W o).block k (Array.getElem?_eq_some_iff.1 hk).1).trans hk⟩
theorem Strs.kz {w w' : World} {o : Option Addr} {B : Nat} {l : List ByteArray} (h : Strs w o l) (hk : Kz B w w') : Strs w' o l := fun hl => by
  obtain ⟨g, e, hlt, hc⟩ := h hl
  refine ⟨g, e, Nat.lt_of_lt_of_le hlt hk.1.size, fun i hi => ?_⟩
  obtain ⟨ob, ho, hoc⟩ := cells_of_cell (hc i hi)
  exact (World.cell?_of_block (a := ⟨g, i, none⟩) ((hk.2 g ob ho hoc).trans ho.symm)).trans (hc i hi)
/-- What has been cut off, k parts on. -/
def CutJ (s : ByteArray) (w : World) (b k : Nat) (W : World) : Prop :=
  ∃ v, W.heap[w.heap.size]? = some (.cells #[v] 28 (0, 0)) ∧ W.ownsRow b 9 1 v (partsS s k).length ((partsS s k).map Value.string) ∧ Below w.heap.size w W
theorem CutJ.kz {s : ByteArray} {w W W' : World} {b k B : Nat} (h : CutJ s w b k W) (hk : Kz B W W') (hB : w.heap.size ≤ B) : CutJ s w b k W' := by
  obtain ⟨v, h1, h2, h3⟩ := h
  exact ⟨v, hk.2 _ _ h1 rfl, own_kz h2 hk.2, h3.trans (hk.1.mono hB)⟩
set_option maxRecDepth 100000 in
set_option maxHeartbeats 2000000 in
theorem cut_in (s : ByteArray) (hs : s.size ≤ 5000) (w : World) :
    CallsIn Fence.wide 5 Try.prog 15 #[.string s] w fun e w' => ∃ o cap, e = .returned (.slice o (cutS s).length cap) ∧ Strs w' o (cutS s) ∧ Below w.heap.size w w' := by
  refine callsIn_of_wp_marks Try.func15 rfl trivial ?_ rfl
  simp only [Try.ntmps15, List.size_toArray, List.length_cons, List.length_nil, Nat.reduceAdd, Nat.reduceSub, Array.replicate_succ, Array.replicate_zero, List.push_toArray, List.append_toArray, List.nil_append, List.cons_append]
  have HS : Hid (s.size ≤ 5000) := hs
  clear hs
  gi_wp2
  refine (wpIn_wide (n := 5)).2 (wp_scope_straight ((wpIn_wide (n := 5)).1 ?_))
  gi_wp2
  refine wpIn_label ?_
  gi_wp2
  refine ⟨trivial, callsIn_wide.2 ((parts_any s _).mono ?_)⟩
  rintro e w2 ⟨rfl, rfl⟩
  have h2 := two_new w (.cells #[.slice none 0 0] 28) (.cells #[.string s] 9)
  have e2 : (w.alloc (.cells #[.slice none 0 0] 28)).heap.size = w.heap.size + 1 := by simp
  have e3 : ((w.alloc (.cells #[.slice none 0 0] 28)).alloc (.cells #[.string s] 9)).heap.size = w.heap.size + 2 := by simp
  rw [e2]
  obtain ⟨w3, hw3⟩ : ∃ w3, (w.alloc (.cells #[.slice none 0 0] 28)).alloc (.cells #[.string s] 9) = w3 := ⟨_, rfl⟩
  rw [hw3] at h2 e3 ⊢
  clear hw3 e2
  obtain ⟨X0, X1, B3⟩ := h2
  have HX0 : Hid _ := X0
  have HX1 : Hid _ := X1
  clear X0 X1
  gi_wp2
  refine range_law5 rfl (by omega) (gf := 19) (lb := #[.pointer (some ⟨w.heap.size + 1, 0, none⟩)]) rfl trivial (enters_of Try.func19 (by kernel_rfl) rfl)
    (nParts s + 1) (fun k => #[.string (part s k)]) (fun _ => rfl)
    (fun k W => k ≤ nParts s ∧ CutJ s w (w3.heap.size + 2) k W) (fun W => CutJ s w (w3.heap.size + 2) (nParts s) W) (.exit 0)
    (fun k W W' h hb => ⟨h.1, h.2.kz hb (by omega)⟩) (fun W W' h hb => h.kz hb (by omega)) ⟨Nat.zero_le _, _, HX0.out, World.ownsRow_nil _ _ _ _, B3⟩
    (fun k a' W => a' = { tmps := #[Value.string s, undef, Value.slice none 0 0, Value.pointer (some { block := w.heap.size, off := 0 }), .string (part s k),
          Value.string s, Value.func (Fn.func 19) #[] #[Value.pointer (some { block := w.heap.size + 1, off := 0 })],
          .string (part s k), undef, undef, undef, undef, undef, undef, undef], defers := [] }) (fun _ _ _ _ _ h _ _ => h) ?assign ?body ?iter ?done ?stop
  case assign =>
    intro p k W K hk hJ hsz hK
    clear hJ
    generalize part s k = x at *
    gi_wp2
    exact hK _ _ (Below.refl _ _) rfl
  case iter =>
    intro p W1 hB1 hs1 R Rx hR hRx hRJ hY h0
    exact parts1_in s HS.out (w.heap.size + 1) p W1 ((hB1.block _ (by omega)).trans HX1.out) R Rx hY (fun W h => by have := (hRJ _ _ h).1; omega) h0
  case body =>
    rintro p k a' W hk ⟨hkn, hJ⟩ rfl hsz
    have HJ : Hid (CutJ s w (w3.heap.size + 2) k W) := hJ
    by_cases hke : k = nParts s
    · rw [hke, part_end]
      have HJX : Hid (CutJ s w (w3.heap.size + 2) (nParts s) W) := by rw [hke] at hJ; exact hJ
      clear hJ
      gi_wp2
      exact ⟨rfl, KeepsFrom.refl _ _, HJX.out⟩
    · have hlt : k < nParts s := by omega
      obtain ⟨v, h1, h2, h3⟩ := hJ
      have hps := part_size s k hlt
      obtain ⟨v', W', hr5, ho5, hg5⟩ := app_strs W (w3.heap.size + 2) v (partsS s k) (part s k) h2 (by rw [partsS_length]; have := HS.out; unfold nParts at hlt; omega) hsz
      rw [← partsS_succ] at ho5
      have hne : w.heap.size < W.heap.size := (Array.getElem?_eq_some_iff.1 h1).1
      have X5 : W'.heap[w.heap.size]? = some (.cells #[v] 28 (0, 0)) := (hg5.block _ (by simp; omega) (by intro e; have := own_ge h2 _ e.symm; omega)).trans (((below_new W _).block _ hne).trans h1)
      have K5 : KeepsFrom w3.heap.size W W' := (keeps_new W _).trans (keeps_grown hg5 (fun j e => by
        obtain ⟨o, ho, hc⟩ := own_cells h2 j e
        exact ⟨o, ((below_new W _).block j (Array.getElem?_eq_some_iff.1 ho).1).trans ho, hc⟩))
      have B5 : Below w.heap.size w W' := (h3.trans ((below_new W _).mono h3.size)).grown hg5 (by simp; omega) (fun j e => by have := own_ge h2 j e; omega)
      have HX5 : Hid _ := X5
      have HK5 : Hid _ := K5
      have HB5 : Hid _ := B5
      have HO5 : Hid _ := ho5
      obtain ⟨o', cap', rfl, _⟩ := strs_of_own ho5
      obtain ⟨len, hlen⟩ : ∃ len, (partsS s (k + 1)).length = len := ⟨_, rfl⟩
      have HLN : Hid ((partsS s (k + 1)).length = len) := hlen
      rw [hlen] at HO5 hr5
      clear hlen
      have c1 : W.cell? ⟨w.heap.size, 0, none⟩ = some v := by rw [cell_of_row _ _ _ _ _ _ h1]; rfl
      have z5 := frozen_of_row W' _ 0 _ _ X5
      have c5 : W'.cell? ⟨w.heap.size, 0, none⟩ = some v := by rw [cell_of_row _ _ _ _ _ _ X5]; rfl
      generalize part s k = x at *
      have hx : x ≠ ⟨#[]⟩ := by intro e; rw [e] at hps; exact absurd hps.1 (by decide)
      have hxe : x.toList.isEmpty = false := by
        rw [ByteArray.toList_eq]
        cases he : x.data.toList.isEmpty
        · rfl
        · exact (hx (ByteArray.ext (Array.toList_inj.1 (List.isEmpty_iff.1 he)))).elim
      clear h1 h2 h3 hg5 ho5 X5 K5 B5 hps hx
      gi_wp2_with (gi_at_builtin; refine listIn_append rfl 28 28 (.tmp 10) (.tmp 12) rfl (vs := v) (vx := .slice (some ⟨W.heap.size, 0, none⟩) 1 1) rfl rfl hr5 ?_)
      have G6 := gb_set W' w.heap.size 0 (.slice o' len cap')
      have X6 := heap_setCell_same W' w.heap.size 0 _ _ (.slice o' len cap') HX5.out
      refine ⟨HK5.out.trans (KeepsFrom.of_grownBy G6 (fun j e => by cases e; omega)), by omega, _, X6, ?_, HB5.out.trans (grown_below G6 (Nat.le_refl _) HB5.out.size)⟩
      rw [HLN.out]
      exact own_same HO5.out (fun g hg => Below.heap_setCell _ _ _ _ (by simp only; omega))
  case done =>
    rintro D W hD ⟨h1, _⟩
    omega
  case stop =>
    rintro D W hD ⟨v, h1, h2, h3⟩ hdf
    have HD : Hid _ := hdf
    have H1 : Hid _ := h1
    have H3 : Hid _ := h3
    obtain ⟨o, cap, rfl, hst⟩ := strs_of_own h2
    have HST : Hid (Strs W o (partsS s (nParts s))) := hst
    have c1 : W.cell? ⟨w.heap.size, 0, none⟩ = some (.slice o (partsS s (nParts s)).length cap) := by rw [cell_of_row _ _ _ _ _ _ h1]; rfl
    obtain ⟨len, hlen⟩ : ∃ len, (partsS s (nParts s)).length = len := ⟨_, rfl⟩
    have HLN : Hid ((partsS s (nParts s)).length = len) := hlen
    rw [hlen] at c1
    clear hlen h1 h2 h3 hst hdf
    gi_wp2
    refine ⟨by simp, .inl ⟨_, _, rfl, run_takeDeferred HD.out, ?_⟩⟩
    refine ⟨_, results_tmp rfl _ _ _, o, cap, ?_, HST.out.kz (Kz.put W D _ _ HD.out rfl (Nat.le_refl D)), H3.out.trans (below_put _ _ (by omega))⟩
    rw [← HLN.out]; rfl
theorem cut_any (s : ByteArray) (hs : s.size ≤ 5000) (w : World) :
    Calls Try.prog 15 #[.string s] w fun e w' => ∃ o cap, e = .returned (.slice o (cutS s).length cap) ∧ Strs w' o (cutS s) ∧ Below w.heap.size w w' := callsIn_wide.1 (cut_in s hs w)
end Go.Proofs.Ytpmdonigjljllaa
