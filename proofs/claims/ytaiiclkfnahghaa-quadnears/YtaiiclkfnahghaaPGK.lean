/- How many nodes a tree has, as the statement reckons it. -/
import Derived.Test.YtaiiclkfnahghaaQGI
namespace Go.Proofs.Ytaiiclkfnahghaa.Rq
open Go.RowKit Go.Lib Go.Shelf
open Go.Proofs.Ytaiiclkfnahghaa.Rc
/-- Five cells of a block of its own. -/
def F5 (g : Nat) (a b c d e : Value) (w : World) : Prop := w.cell? ⟨g, 0, none⟩ = some a ∧ w.cell? ⟨g, 1, none⟩ = some b ∧ w.cell? ⟨g, 2, none⟩ = some c ∧ w.cell? ⟨g, 3, none⟩ = some d ∧ w.cell? ⟨g, 4, none⟩ = some e
set_option maxRecDepth 100000 in
theorem F5.of {g : Nat} {a b c d e : Value} {w : World} {t : TypeId} (h : w.heap[g]? = some (.cells #[a, b, c, d, e] t (0, 0))) : F5 g a b c d e w := (node_facts h).2.2.2.2.2
set_option maxRecDepth 100000 in
theorem F5.same {g : Nat} {a b c d e : Value} {w w' : World} (h : F5 g a b c d e w) (f : w'.heap[g]? = w.heap[g]?) : F5 g a b c d e w' :=
  ⟨(World.cell?_of_block (a := ⟨g, 0, none⟩) f).trans h.1, (World.cell?_of_block (a := ⟨g, 1, none⟩) f).trans h.2.1, (World.cell?_of_block (a := ⟨g, 2, none⟩) f).trans h.2.2.1, (World.cell?_of_block (a := ⟨g, 3, none⟩) f).trans h.2.2.2.1, (World.cell?_of_block (a := ⟨g, 4, none⟩) f).trans h.2.2.2.2⟩
/-- A node's own block, and two (three) cells elsewhere. -/
def N2 (g : Nat) (a b c d e : Value) (p x : Nat) (u v : Value) (w : World) : Prop := F5 g a b c d e w ∧ w.cell? ⟨p, x + 1, none⟩ = some u ∧ w.cell? ⟨p, x + 2, none⟩ = some v
set_option maxRecDepth 100000 in
theorem N2.same {g : Nat} {a b c d e : Value} {p x : Nat} {u v : Value} {w w' : World} (h : N2 g a b c d e p x u v w) (f : w'.heap[g]? = w.heap[g]?) (k : w'.heap[p]? = w.heap[p]?) : N2 g a b c d e p x u v w' :=
  ⟨h.1.same f, (World.cell?_of_block (a := ⟨p, x + 1, none⟩) k).trans h.2.1, (World.cell?_of_block (a := ⟨p, x + 2, none⟩) k).trans h.2.2⟩
def N3 (g : Nat) (a b c d e : Value) (p x : Nat) (u v y : Value) (w : World) : Prop := F5 g a b c d e w ∧ w.cell? ⟨p, x, none⟩ = some u ∧ w.cell? ⟨p, x + 1, none⟩ = some v ∧ w.cell? ⟨p, x + 2, none⟩ = some y
set_option maxRecDepth 100000 in
theorem N3.same {g : Nat} {a b c d e : Value} {p x : Nat} {u v y : Value} {w w' : World} (h : N3 g a b c d e p x u v y w) (f : w'.heap[g]? = w.heap[g]?) (k : w'.heap[p]? = w.heap[p]?) : N3 g a b c d e p x u v y w' :=
  ⟨h.1.same f, (World.cell?_of_block (a := ⟨p, x, none⟩) k).trans h.2.1, (World.cell?_of_block (a := ⟨p, x + 1, none⟩) k).trans h.2.2.1, (World.cell?_of_block (a := ⟨p, x + 2, none⟩) k).trans h.2.2.2⟩
set_option maxRecDepth 100000 in
set_option maxHeartbeats 4000000 in
theorem whole_leaf (l : List Rw) (X Y : Nat) (L : Int) (ro : Option Addr) (rcap : Nat) (ko : Option Addr) (kc : Nat) (top : Bool) (w : World) (hr : RowsAt w ro rcap l) (hon : On l) (hlen : l.length ≤ 1000) (hne : l.length = 0 → top = true) (hlf : leaf l = true)
    (hX : cx l = X) (hY : cy l = Y) (hL : (lev l : Int) = L) :
    Calls Try.prog 30 #[.agg #[.int .u32 (X : Int), .int .u32 (Y : Int), .int .i64 L, .slice ro l.length rcap, .slice ko 0 kc], .bool top] w fun e w' => e = .returned (.int .i64 1) ∧ Below w.heap.size w w' := by
  obtain ⟨rn, hrn⟩ : ∃ rn, l.length = rn := ⟨_, rfl⟩
  have HRn : Hid (l.length = rn) := hrn
  have HH : Hid (∀ r ∈ l, hasS X Y L r.x r.y = true) := by
    intro r hr'
    have := lev_has hon hr'
    rwa [hX, hY, hL] at this
  have HR : Hid (RowsAt w ro rcap l) := hr
  have bX : X < 4294967296 := by rw [← hX]; have := (lev_cl hon).x31; omega
  have bY : Y < 4294967296 := by rw [← hY]; have := (lev_cl hon).y31; omega
  have HON : Hid (∀ r ∈ l, r.x < 4294967296 ∧ r.y < 4294967296) := fun r hr' => by have := hon r hr'; omega
  have hbad : ¬ (4 < rn ∧ 0 < L) := by
    unfold leaf at hlf; rw [decide_eq_true_iff] at hlf; omega
  have hemp : rn = 0 → top = true := fun e => hne (by omega)
  have HBn : Hid (Below w.heap.size w (w.alloc (.cells #[.int .u32 (X : Int), .int .u32 (Y : Int), .int .i64 L, .slice ro rn rcap, .slice ko 0 kc] 33))) := below_new w _
  have HG : Hid ((w.alloc (.cells #[.int .u32 (X : Int), .int .u32 (Y : Int), .int .i64 L, .slice ro rn rcap, .slice ko 0 kc] 33)).heap[w.heap.size]? = some (.cells #[.int .u32 (X : Int), .int .u32 (Y : Int), .int .i64 L, .slice ro rn rcap, .slice ko 0 kc] 33 (0, 0))) := heap_alloc_new w _
  have hr1 : rn ≤ 1000 := by omega
  rw [hrn]
  clear hr hX hY hL hlf hon hne hlen hrn
  go_enter Try.func30, Try.ntmps30
  go_wp2_with fail
  go_loopw [5] (fun i wr => ∃ k : Nat, k ≤ rn ∧ i = .int .i64 (k : Int) ∧ wr.heap[w.heap.size]? = some (.cells #[.int .u32 (X : Int), .int .u32 (Y : Int), .int .i64 L, .slice ro rn rcap, .slice ko 0 kc] 33 (0, 0)) ∧ Below w.heap.size w wr) (fun i _ => rn - natOf i)
  case atStart => exact ⟨0, by omega, rfl, HG.out, HBn.out⟩
  case round =>
    obtain ⟨k, hk, rfl, hg, hb⟩ := hrel
    have HGr : Hid _ := hg
    have HBr : Hid (Below w.heap.size w wr) := hb
    have hgs : w.heap.size < wr.heap.size := (Array.getElem?_eq_some_iff.1 hg).1
    obtain ⟨z0, z1, z2, z3, z4, f0, f1, f2, f3, f4⟩ := node_facts hg
    clear z0 z1 z2 z3 z4
    by_cases hlt : k < rn
    · have hkl : k < l.length := by have := HRn.out; omega
      obtain ⟨b, off, rfl, hbl, hc⟩ := (HR.out.below hb (Nat.le_refl _)).row hkl
      obtain ⟨c0, c1, c2, c3⟩ := hc k hkl
      have hmem := rat_mem hkl
      have hB := HON.out _ hmem
      have HC : Hid _ := has_any X Y L (rat l k).x (rat l k).y bX bY hB.1 hB.2
      rw [HH.out _ hmem] at HC
      generalize (rat l k).x = x at *
      generalize (rat l k).y = y at *
      have q1 : (k : Int) < (rn : Int) := by omega
      have k0 : (0 : Int) ≤ (k : Int) := by omega
      have k1 : (k : Int) + 1 ≤ 9223372036854775807 := by omega
      have HSW : Hid (N2 w.heap.size (.int .u32 (X : Int)) (.int .u32 (Y : Int)) (.int .i64 L) (.slice (some ⟨b, off, none⟩) rn rcap) (.slice ko 0 kc) b (off + k * 4) (.int .u32 (x : Int)) (.int .u32 (y : Int)) wr.drew) := ⟨F5.of hg, c1, c2⟩
      clear c0 c1 c2 c3 hc hmem hB hb hg bX bY hbad hemp
      go_wp2_with fail
      refine wp_region_held (S := N2 w.heap.size (.int .u32 (X : Int)) (.int .u32 (Y : Int)) (.int .i64 L) (.slice (some ⟨b, off, none⟩) rn rcap) (.slice ko 0 kc) b (off + k * 4) (.int .u32 (x : Int)) (.int .u32 (y : Int))) (by kernel_rfl) ?_
      change wpAnyH _ _ _ _ _ _ _ _ (World.drew _)
      clear f0 f1 f2 f3 f4
      refine wpAnyH_take (i := 0) (v := ?_) rfl (by kernel_rfl) (by kernel_rfl) (by kernel_rfl) (fun _ _ _ h => h) (Or.inl ⟨by kernel_rfl, ?_⟩) HSW.out ?_
      rotate_left
      · intro w hS
        obtain ⟨⟨e1, e2, e3, e4, e5⟩, e6, e7⟩ := hS
        go_simp
        try with_reducible rfl
      conv in (Act.put _ _ _) => simp only [List.getElem_toArray, List.getElem_cons_succ, List.getElem_cons_zero, Act.put, List.setIfInBounds_toArray, List.set_cons_succ, List.set_cons_zero]
      refine wpAnyH_take (i := 1) (v := ?_) rfl (by kernel_rfl) (by kernel_rfl) (by kernel_rfl) (fun _ _ _ h => h) (Or.inl ⟨by kernel_rfl, ?_⟩) HSW.out ?_
      rotate_left
      · intro w hS
        obtain ⟨⟨e1, e2, e3, e4, e5⟩, e6, e7⟩ := hS
        go_simp
        try with_reducible rfl
      conv in (Act.put _ _ _) => simp only [List.getElem_toArray, List.getElem_cons_succ, List.getElem_cons_zero, Act.put, List.setIfInBounds_toArray, List.set_cons_succ, List.set_cons_zero]
      refine wpAnyH_take (i := 2) (v := ?_) rfl (by kernel_rfl) (by kernel_rfl) (by kernel_rfl) (fun _ _ _ h => h) (Or.inl ⟨by kernel_rfl, ?_⟩) HSW.out ?_
      rotate_left
      · intro w hS
        obtain ⟨⟨e1, e2, e3, e4, e5⟩, e6, e7⟩ := hS
        go_simp
        try with_reducible rfl
      conv in (Act.put _ _ _) => simp only [List.getElem_toArray, List.getElem_cons_succ, List.getElem_cons_zero, Act.put, List.setIfInBounds_toArray, List.set_cons_succ, List.set_cons_zero]
      refine wpAnyH_take (i := 3) (v := ?_) rfl (by kernel_rfl) (by kernel_rfl) (by kernel_rfl) (fun _ _ _ h => h) (Or.inl ⟨by kernel_rfl, ?_⟩) HSW.out ?_
      rotate_left
      · intro w hS
        obtain ⟨⟨e1, e2, e3, e4, e5⟩, e6, e7⟩ := hS
        go_simp
        try with_reducible rfl
      conv in (Act.put _ _ _) => simp only [List.getElem_toArray, List.getElem_cons_succ, List.getElem_cons_zero, Act.put, List.setIfInBounds_toArray, List.set_cons_succ, List.set_cons_zero]
      refine wpAnyH_take (i := 4) (v := ?_) rfl (by kernel_rfl) (by kernel_rfl) (by kernel_rfl) (fun _ _ _ h => h) (Or.inl ⟨by kernel_rfl, ?_⟩) HSW.out ?_
      rotate_left
      · intro w hS
        obtain ⟨⟨e1, e2, e3, e4, e5⟩, e6, e7⟩ := hS
        go_simp
        try with_reducible rfl
      conv in (Act.put _ _ _) => simp only [List.getElem_toArray, List.getElem_cons_succ, List.getElem_cons_zero, Act.put, List.setIfInBounds_toArray, List.set_cons_succ, List.set_cons_zero]
      refine wpAnyH_take (i := 5) (v := ?_) rfl (by kernel_rfl) (by kernel_rfl) (by kernel_rfl) (fun _ _ _ h => h) (Or.inl ⟨by kernel_rfl, ?_⟩) HSW.out ?_
      rotate_left
      · intro w hS
        obtain ⟨⟨e1, e2, e3, e4, e5⟩, e6, e7⟩ := hS
        go_simp
        try with_reducible rfl
      conv in (Act.put _ _ _) => simp only [List.getElem_toArray, List.getElem_cons_succ, List.getElem_cons_zero, Act.put, List.setIfInBounds_toArray, List.set_cons_succ, List.set_cons_zero]
      refine wpAnyH_take (i := 6) (v := ?_) rfl (by kernel_rfl) (by kernel_rfl) (by kernel_rfl) (fun _ _ _ h => h) (Or.inl ⟨by kernel_rfl, ?_⟩) HSW.out ?_
      rotate_left
      · intro w hS
        obtain ⟨⟨e1, e2, e3, e4, e5⟩, e6, e7⟩ := hS
        go_simp
        try with_reducible rfl
      conv in (Act.put _ _ _) => simp only [List.getElem_toArray, List.getElem_cons_succ, List.getElem_cons_zero, Act.put, List.setIfInBounds_toArray, List.set_cons_succ, List.set_cons_zero]
      refine wpAnyH_take (i := 7) (v := ?_) rfl (by kernel_rfl) (by kernel_rfl) (by kernel_rfl) (fun _ _ _ h => h) (Or.inl ⟨by kernel_rfl, ?_⟩) HSW.out ?_
      rotate_left
      · intro w hS
        obtain ⟨⟨e1, e2, e3, e4, e5⟩, e6, e7⟩ := hS
        go_simp
        try with_reducible rfl
      conv in (Act.put _ _ _) => simp only [List.getElem_toArray, List.getElem_cons_succ, List.getElem_cons_zero, Act.put, List.setIfInBounds_toArray, List.set_cons_succ, List.set_cons_zero]
      refine wpAnyH_take (i := 8) (v := ?_) rfl (by kernel_rfl) (by kernel_rfl) (by kernel_rfl) (fun _ _ _ h => h) (Or.inl ⟨by kernel_rfl, ?_⟩) HSW.out ?_
      rotate_left
      · intro w hS
        obtain ⟨⟨e1, e2, e3, e4, e5⟩, e6, e7⟩ := hS
        go_simp
        try with_reducible rfl
      conv in (Act.put _ _ _) => simp only [List.getElem_toArray, List.getElem_cons_succ, List.getElem_cons_zero, Act.put, List.setIfInBounds_toArray, List.set_cons_succ, List.set_cons_zero]
      refine wpAnyH_take (i := 9) (v := ?_) rfl (by kernel_rfl) (by kernel_rfl) (by kernel_rfl) (fun _ _ _ h => h) (Or.inl ⟨by kernel_rfl, ?_⟩) HSW.out ?_
      rotate_left
      · intro w hS
        obtain ⟨⟨e1, e2, e3, e4, e5⟩, e6, e7⟩ := hS
        go_simp
        try with_reducible rfl
      conv in (Act.put _ _ _) => simp only [List.getElem_toArray, List.getElem_cons_succ, List.getElem_cons_zero, Act.put, List.setIfInBounds_toArray, List.set_cons_succ, List.set_cons_zero]
      refine wpAnyH_take (i := 10) (v := ?_) rfl (by kernel_rfl) (by kernel_rfl) (by kernel_rfl) (fun _ _ _ h => h) (Or.inl ⟨by kernel_rfl, ?_⟩) HSW.out ?_
      rotate_left
      · intro w hS
        obtain ⟨⟨e1, e2, e3, e4, e5⟩, e6, e7⟩ := hS
        go_simp
        try with_reducible rfl
      conv in (Act.put _ _ _) => simp only [List.getElem_toArray, List.getElem_cons_succ, List.getElem_cons_zero, Act.put, List.setIfInBounds_toArray, List.set_cons_succ, List.set_cons_zero]
      refine wpAnyH_take (i := 11) (v := ?_) rfl (by kernel_rfl) (by kernel_rfl) (by kernel_rfl) (fun _ _ _ h => h) (Or.inl ⟨by kernel_rfl, ?_⟩) HSW.out ?_
      rotate_left
      · intro w hS
        obtain ⟨⟨e1, e2, e3, e4, e5⟩, e6, e7⟩ := hS
        go_simp
        try with_reducible rfl
      conv in (Act.put _ _ _) => simp only [List.getElem_toArray, List.getElem_cons_succ, List.getElem_cons_zero, Act.put, List.setIfInBounds_toArray, List.set_cons_succ, List.set_cons_zero]
      refine wpAnyH_take (i := 12) (v := ?_) rfl (by kernel_rfl) (by kernel_rfl) (by kernel_rfl) (fun _ _ _ h => h) (Or.inl ⟨by kernel_rfl, ?_⟩) HSW.out ?_
      rotate_left
      · intro w hS
        obtain ⟨⟨e1, e2, e3, e4, e5⟩, e6, e7⟩ := hS
        go_simp
        try with_reducible rfl
      conv in (Act.put _ _ _) => simp only [List.getElem_toArray, List.getElem_cons_succ, List.getElem_cons_zero, Act.put, List.setIfInBounds_toArray, List.set_cons_succ, List.set_cons_zero]
      refine wpAnyH_take (i := 13) (v := ?_) rfl (by kernel_rfl) (by kernel_rfl) (by kernel_rfl) (fun _ _ _ h => h) (Or.inl ⟨by kernel_rfl, ?_⟩) HSW.out ?_
      rotate_left
      · intro w hS
        obtain ⟨⟨e1, e2, e3, e4, e5⟩, e6, e7⟩ := hS
        go_simp
        try with_reducible rfl
      conv in (Act.put _ _ _) => simp only [List.getElem_toArray, List.getElem_cons_succ, List.getElem_cons_zero, Act.put, List.setIfInBounds_toArray, List.set_cons_succ, List.set_cons_zero]
      refine readyH 14 _ (by kernel_rfl) rfl (by kernel_rfl) (fun K hK => ?_)
      go_simp
      refine (HC.out _).mono ?_
      rintro e w1 ⟨rfl, b1⟩
      replace b1 : Below wr.heap.size wr w1 := (Below.refl _ wr).drew.trans b1
      have HG1 : Hid _ := (b1.block _ hgs).trans HGr.out
      have HB1 : Hid (Below w.heap.size w w1) := HBr.out.trans (b1.mono (Nat.le_of_lt hgs))
      replace HSW : Hid (N2 w.heap.size (.int .u32 (X : Int)) (.int .u32 (Y : Int)) (.int .i64 L) (.slice (some ⟨b, off, none⟩) rn rcap) (.slice ko 0 kc) b (off + k * 4) (.int .u32 (x : Int)) (.int .u32 (y : Int)) w1) := HSW.out.same (b1.block _ hgs) (b1.block _ hbl)
      refine hK _ _ HSW.out ?_
      clear hK K b1
      refine wpAnyH_take (i := 15) (v := ?_) rfl (by kernel_rfl) (by kernel_rfl) (by kernel_rfl) (fun _ _ _ h => h) (Or.inl ⟨by kernel_rfl, ?_⟩) HSW.out ?_
      rotate_left
      · intro w hS
        obtain ⟨⟨e1, e2, e3, e4, e5⟩, e6, e7⟩ := hS
        go_simp
        try with_reducible rfl
      conv in (Act.put _ _ _) => simp only [List.getElem_toArray, List.getElem_cons_succ, List.getElem_cons_zero, Act.put, List.setIfInBounds_toArray, List.set_cons_succ, List.set_cons_zero]
      refine wpAnyH_done (by kernel_rfl) ?_ _
      go_wp2_with fail
      go_roundw
      case rel => exact ⟨k + 1, by omega, by go_num, HG1.out, HB1.out⟩
      case measure => simp [natOf]; omega
    · obtain rfl : k = rn := by omega
      have q1 : ¬ (k : Int) < (k : Int) := by omega
      obtain ⟨zk, hzk⟩ : ∃ zk : Int, (k : Int) = zk := ⟨_, rfl⟩
      by_cases e0 : k = 0
      · have ht := hemp e0
        subst ht
        have q2 : decide (k = 0) = true := decide_eq_true e0
        have q3 : decide (4 < k) = false := decide_eq_false (by omega)
        clear hemp hbad hb hg
        go_wp2_with fail
        go_ret
        exact ⟨rfl, HBr.out⟩
      · have q2 : decide (k = 0) = false := decide_eq_false e0
        by_cases e4 : 4 < k
        · have q3 : decide (4 < k) = true := decide_eq_true e4
          have q4 : decide (0 < L) = false := decide_eq_false (fun h => hbad ⟨e4, h⟩)
          clear hemp hbad hb hg
          go_wp2_with fail
          go_ret
          exact ⟨rfl, HBr.out⟩
        · have q3 : decide (4 < k) = false := decide_eq_false e4
          clear hemp hbad hb hg
          go_wp2_with fail
          go_ret
          exact ⟨rfl, HBr.out⟩
end Go.Proofs.Ytaiiclkfnahghaa.Rq
