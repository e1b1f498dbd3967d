/- The keys of a map, rising; a row gone through. -/
import Derived.Test.YtkpfnepbnaekoaaPDM
namespace Go.Proofs.Ytkpfnepbnaekoaa.Rd
open Go.RowKit Go.Shelf Go.Lib
attribute [local go_sem] Oper.semAt_some
/-- The keys of a map, the least first. -/
def Rising (f : Nat → Option ByteArray) (l : List Nat) : Prop := l.Pairwise (· < ·) ∧ ∀ p, p ∈ l ↔ (f p).isSome = true
/-- A list in a slice. -/
def RowOf (w : World) (base : Nat) (v : Value) (l : List Nat) : Prop := (v = .slice none 0 0 ∧ l = []) ∨ ∃ g cap, v = .slice (some ⟨g, 0, none⟩) l.length cap ∧ base ≤ g ∧ Us w g l.toArray
set_option maxRecDepth 100000 in
theorem perm_whole {d d' : Array Nat} (h : Sort.PermIn 0 d.size d d') : d'.toList.Perm d.toList := by
  obtain ⟨h1, h2, h3⟩ := h
  rw [Array.extract_eq_self_of_le (Nat.le_refl _), ← h1, Array.extract_eq_self_of_le (Nat.le_refl _)] at h3
  exact h3
set_option maxRecDepth 100000 in
theorem rising_of {f : Nat → Option ByteArray} {l : List Nat} (hl : AllKeys f l) {d' : Array Nat} (hp : Sort.PermIn 0 l.toArray.size l.toArray d') (hs : Sort.SortedIn ltN 0 l.toArray.size d') : Rising f d'.toList ∧ d'.size = l.length := by
  have hsz : d'.size = l.length := by simpa using hp.1
  have hpm := perm_whole hp
  have hn : d'.toList.Nodup := hpm.nodup_iff.2 hl.1
  refine ⟨⟨?_, fun p => ?_⟩, hsz⟩
  · rw [List.pairwise_iff_getElem]
    intro i j hi hj hij
    simp only [Array.length_toList] at hi hj
    have h1 := hs i j (by omega) hij (by simp; omega)
    simp only [ltN, decide_eq_false_iff_not, getElem!_pos, hi, hj] at h1
    rw [List.Nodup, List.pairwise_iff_getElem] at hn
    have h2 := hn i j (by simpa using hi) (by simpa using hj) hij
    simp only [Array.getElem_toList] at h2 ⊢
    omega
  · rw [hpm.mem_iff]
    exact hl.2 p
set_option maxRecDepth 100000 in
theorem us_of_owns {w : World} {base : Nat} {v : Value} {l : List Nat} (h : w.ownsRow base 32 1 v l.length (l.map u32v)) : RowOf w base v l := by
  rcases h.2 with ⟨rfl, h0⟩ | ⟨g, cap, cur, rfl, hb, hg, hn, hc, hz, ht⟩
  · exact .inl ⟨rfl, List.eq_nil_of_length_eq_zero h0⟩
  · refine .inr ⟨g, cap, rfl, hb, cur, hg, by simp; omega, fun i hi => ?_⟩
    simp only [List.size_toArray] at hi
    have h1 : (cur.toList.take (l.length * 1))[i]? = some (u32v l[i]) := by rw [ht]; simp [hi]
    rw [List.getElem?_take_of_lt (by omega), Array.getElem?_toList] at h1
    rw [h1]
    simp [getElem!_pos, hi]
set_option maxRecDepth 100000 in
set_option maxHeartbeats 1000000 in
theorem sorted_any (N : Nat) (hS : Sorts N) (f : Nat → Option ByteArray) (hf : ∀ p t, f p = some t → p < 4096) (hc : ∀ l, AllKeys f l → l.length ≤ N) (m mb : Nat) (w : World) (hm : Pm w m f) (hmb : w.heap[mb]? = some (.cells #[.map (some m)] 71 (0, 0))) :
    Calls Try.prog 62 #[.func (.func 70) #[] #[.pointer (some ⟨mb, 0, none⟩)]] w
      fun e w' => ∃ l v, e = .returned v ∧ Rising f l ∧ l.length ≤ N ∧ RowOf w' (w.heap.size + 1) v l ∧ Below w.heap.size w w' := by
  have HA : Hid _ := collect_any f hf m mb w hm hmb
  have HS : Hid (Sorts N) := hS
  have HC : Hid _ := hc
  clear hm hmb hf hS hc
  go_enter Try.func62, Try.ntmps62
  go_wp2_with fail
  refine Calls.mono HA.out ?_
  rintro e w1 ⟨l, v, rfl, h1, h2, h3⟩
  have H1 : Hid (AllKeys f l) := h1
  have H3 : Hid (Below w.heap.size w w1) := h3
  rcases us_of_owns h2 with ⟨rfl, rfl⟩ | ⟨g, cap, rfl, hb, hu⟩
  · clear h1 h2 h3
    go_wp2_with fail
    refine (sort_nil w1).mono ?_
    rintro e w2 ⟨rfl, rfl⟩
    go_wp2_with fail
    go_ret
    exact ⟨[], _, rfl, ⟨List.Pairwise.nil, H1.out.2⟩, by simp, .inl ⟨rfl, rfl⟩, H3.out⟩
  · have HB : Hid (w.heap.size + 1 ≤ g) := hb
    have HC2 : Hid (Calls Try.prog 69 #[.slice (some ⟨g, 0, none⟩) l.length cap] w1 fun e w' => e = .returned (.tuple #[]) ∧ (∃ d', Sort.PermIn 0 l.toArray.size l.toArray d' ∧ Sort.SortedIn ltN 0 l.toArray.size d' ∧ Us w' g d') ∧ Bg g w1 w') := HS.out g cap l.toArray w1 (by simpa using HC.out l h1) hu
    clear h1 h2 h3 hb hu
    go_wp2_with fail
    refine Calls.mono HC2.out ?_
    rintro e w2 ⟨rfl, ⟨d', hp, hs, hu⟩, b2⟩
    have R2 := rising_of H1.out hp hs
    have HR2 : Hid _ := R2
    have HU2 : Hid _ := hu
    have B2 : Hid _ := b2
    clear hp hs hu b2 R2
    go_wp2_with fail
    go_ret
    refine ⟨d'.toList, _, rfl, HR2.out.1, ?_, .inr ⟨g, cap, ?_, HB.out, by have hu : Us w2 g d' := HU2.out; simpa using hu⟩, H3.out.trans (But.below B2.out (fun k e => by have := HB.out; omega) H3.out.size)⟩
    · have := HC.out l H1.out
      simp [HR2.out.2]
      exact this
    · simp [HR2.out.2]
set_option maxRecDepth 100000 in
theorem all_any (o : Option Addr) (n cap : Nat) (w : World) :
    Calls Try.prog 61 #[.slice o n cap] w fun e w' => e = .returned (.func (.func 67) #[] #[.pointer (some ⟨w.heap.size, 0, none⟩)]) ∧ w' = w.alloc (.cells #[.slice o n cap] 105) := by
  go_enter Try.func61, Try.ntmps61
  go_wp2_with fail
  go_ret
  exact ⟨rfl, rfl⟩
set_option maxRecDepth 100000 in
set_option maxHeartbeats 1000000 in
theorem rising_any (N : Nat) (hS : Sorts N) (d b m : Nat) (s : St) (w : World) (h : Dev w d b m s) (hk : Ok s) (hc : ∀ l, AllKeys s.pd l → l.length ≤ N) :
    Calls Try.prog 53 #[pt d] w fun e w' => ∃ l o cap mb, e = .returned (.func (.func 67) #[] #[.pointer (some ⟨mb, 0, none⟩)]) ∧ Rising s.pd l ∧ l.length ≤ N ∧ w.heap.size ≤ mb ∧
      w'.heap[mb]? = some (.cells #[.slice o l.length cap] 105 (0, 0)) ∧ RowOf w' w.heap.size (.slice o l.length cap) l ∧ Below w.heap.size w w' := by
  obtain ⟨c7, z7⟩ := h.c7
  have HS : Hid (Sorts N) := hS
  have HC : Hid (∀ l, AllKeys s.pd l → l.length ≤ N) := hc
  have HD : Hid (Dev w d b m s) := h
  have HF : Hid (∀ p t, s.pd p = some t → p < 4096) := fun p t e => by have := (hk.pd p t e).1; have := hk.n1; omega
  clear h hk hS hc
  go_enter Try.func53, Try.ntmps53
  go_wp2_with fail
  refine (keys_any m w).mono ?_
  rintro e w1 ⟨rfl, rfl⟩
  have P1 : Pm (w.alloc (.cells #[.map (some m)] 71)) m s.pd := HD.out.map.same (Below.heap_alloc _ _ _ HD.out.lt.2.2)
  have H1 : Hid _ := sorted_any N HS.out s.pd HF.out HC.out m w.heap.size (w.alloc (.cells #[.map (some m)] 71)) P1 (heap_alloc_new w _)
  have B1 : Hid (Below w.heap.size w (w.alloc (.cells #[.map (some m)] 71))) := below_new w _
  obtain ⟨w1, hw1⟩ : ∃ w1, w.alloc (.cells #[.map (some m)] 71) = w1 := ⟨_, rfl⟩
  rw [hw1] at H1 B1 ⊢
  clear P1 hw1 c7 z7
  go_wp2_with fail
  refine Calls.mono H1.out ?_
  rintro e w2 ⟨l, v, rfl, h1, h2, h3, h4⟩
  have R2 : Hid (Rising s.pd l) := h1
  have B2 : Hid (Below w.heap.size w w2) := B1.out.trans (h4.mono B1.out.size)
  have hrow : ∃ o cap, v = .slice o l.length cap ∧ RowOf w2 w.heap.size (.slice o l.length cap) l := by
    rcases h3 with ⟨rfl, rfl⟩ | ⟨g, cap, rfl, hb, hu⟩
    · exact ⟨none, 0, rfl, .inl ⟨rfl, rfl⟩⟩
    · exact ⟨_, cap, rfl, .inr ⟨g, cap, rfl, by have := B1.out.size; omega, hu⟩⟩
  obtain ⟨o, cap, rfl, hr⟩ := hrow
  have HR : Hid _ := hr
  have HN : Hid (l.length ≤ N) := h2
  clear h1 h2 h3 h4 hr
  go_wp2_with fail
  refine (all_any o l.length cap w2).mono ?_
  rintro e w3 ⟨rfl, rfl⟩
  go_wp2_with fail
  go_ret
  refine ⟨l, o, cap, w2.heap.size, rfl, R2.out, HN.out, B2.out.size, heap_alloc_new w2 _, ?_, B2.out.trans ((below_new w2 _).mono B2.out.size)⟩
  rcases HR.out with h | ⟨g, cap', e, hb, hu⟩
  · exact .inl h
  · exact .inr ⟨g, cap', e, hb, hu.same (Below.heap_alloc _ _ _ hu.lt)⟩
end Go.Proofs.Ytkpfnepbnaekoaa.Rd
