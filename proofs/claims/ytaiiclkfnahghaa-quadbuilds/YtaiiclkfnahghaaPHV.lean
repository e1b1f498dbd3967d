/- The reference: the tree of rows: kids. -/
import Derived.Test.YtaiiclkfnahghaaPHU
namespace Go.Proofs.Ytaiiclkfnahghaa.Rq
open Go.RowKit Go.Lib Go.Shelf
open Go.Proofs.Ytaiiclkfnahghaa.Rc
/-- The kids so far, in blocks from a place on. -/
structure KE (d : Nat) (l : List Rw) (w : World) (B : Nat) (j : Nat) (ks : List Nv) (v : Value) (W : World) : Prop where
  len : ks.length = (kl l j).length
  own : W.ownsRow B 33 5 v ks.length (ks.flatMap nc)
  nodes : ∀ i (h1 : i < ks.length) (h2 : i < (kl l j).length), NodeAt (fun b => B ≤ b ∧ v.ownBlock ≠ some b) d W ks[i] (kl l j)[i]
  bel : Below w.heap.size w W
  base : w.heap.size ≤ B ∧ B ≤ W.heap.size
set_option maxRecDepth 100000 in
theorem KE.skip {d : Nat} {l : List Rw} {w : World} {B j : Nat} {ks : List Nv} {v : Value} {W : World} (h : KE d l w B j ks v W) (hp : part l j = []) : KE d l w B (j + 1) ks v W := by
  obtain ⟨h1, h2, h3, h4, h5⟩ := h
  refine ⟨by rw [kl_no hp]; exact h1, h2, ?_, h4, h5⟩
  rw [kl_no hp]; exact h3
set_option maxRecDepth 100000 in
theorem KE.next {d : Nat} {l : List Rw} {w : World} {B j : Nat} {ks : List Nv} {v : Value} {W W' : World} (h : KE d l w B j ks v W) (hb : Below W.heap.size W W') : KE d l w B j ks v W' :=
  ⟨h.len, own_same h.own fun b _ hlt => hb.block b hlt, fun i h1 h2 => (h.nodes i h1 h2).below hb (Nat.le_refl _), h.bel.trans (hb.mono h.bel.size), h.base.1, Nat.le_trans h.base.2 hb.size⟩
set_option maxRecDepth 100000 in
theorem KE.set {d : Nat} {l : List Rw} {w : World} {B j : Nat} {ks : List Nv} {v : Value} {W : World} (h : KE d l w B j ks v W) (g k : Nat) (u : Value) (hg : g < B) (hw : w.heap.size ≤ g) : KE d l w B j ks v (W.setCell ⟨g, k, none⟩ u) :=
  ⟨h.len, own_same h.own fun b hb _ => setc _ _ _ _ (by have := (own_base h.own hb).1; omega), fun i h1 h2 => (h.nodes i h1 h2).same (by simp [World.setCell]) fun b hG _ => setc _ _ _ _ (by have := hG.1; omega),
    h.bel.trans ⟨rfl, rfl, rfl, by simp [World.setCell], fun b hb => setc _ _ _ _ (by omega)⟩, h.base.1, by have := h.base.2; simp [World.setCell]; exact this⟩
set_option maxRecDepth 100000 in
theorem KE.step {d : Nat} {l : List Rw} {w : World} {B j : Nat} {ks : List Nv} {v : Value} {W W1 W2 W' : World} (h : KE d l w B j ks v W) (hp : part l j ≠ []) {n : Nv} {v' : Value}
    (hb1 : Below W.heap.size W W1) (hn : NodeAt (fun b => W.heap.size ≤ b) d W1 n (part l j)) (hb2 : Below W1.heap.size W1 W2) (ho : W'.ownsRow B 33 5 v' (ks.length + 1) (ks.flatMap nc ++ nc n)) (hg : W2.grownBy W' v.ownBlock) (hf : v'.ownBlock = v.ownBlock ∨ v'.ownBlock = some W2.heap.size) :
    KE d l w B (j + 1) (ks ++ [n]) v' W' := by
  have hs1 := hb1.size
  have hs2 := hb2.size
  have hw3 := h.bel.size
  have hbs := h.base
  have hv : ∀ b, v.ownBlock = some b → B ≤ b ∧ b < W.heap.size := fun b hb => own_base h.own hb
  have keep : ∀ b, b < W2.heap.size → v.ownBlock ≠ some b → W'.heap[b]? = W2.heap[b]? := fun b hb hne => hg.block b hb fun e => hne e.symm
  have nv' : ∀ b, b < W2.heap.size → v.ownBlock ≠ some b → v'.ownBlock ≠ some b := fun b hb hne e => by
    rcases hf with hf | hf
    · rw [hf] at e; exact hne e
    · rw [hf] at e; cases e; omega
  refine ⟨by rw [kl_yes hp, List.length_append, List.length_append, h.len]; rfl, ?_, fun i h1 h2 => ?_, h.bel.trans ⟨?_, ?_, ?_, ?_, fun b hb => ?_⟩, hbs.1, Nat.le_trans hbs.2 (Nat.le_trans hs1 (Nat.le_trans hs2 hg.size))⟩
  · rw [List.length_append, List.flatMap_append]; simpa using ho
  · have e : (kl l (j + 1))[i] = (kl l j ++ [part l j])[i]'(by rw [← kl_yes hp]; exact h2) := by congr 1; exact kl_yes hp
    rw [e]
    by_cases hi : i < ks.length
    · rw [List.getElem_append_left hi, List.getElem_append_left (by rw [← h.len]; exact hi)]
      have a := h.nodes i hi (by rw [← h.len]; exact hi)
      have a2 := (a.below hb1 (Nat.le_refl _)).below hb2 (Nat.le_refl _)
      have a0 : NodeAt (fun b => (B ≤ b ∧ v.ownBlock ≠ some b) ∧ b < W2.heap.size) d W2 ks[i] ((kl l j)[i]'(by rw [← h.len]; exact hi)) := a2.mono fun b hb hG => ⟨hG, hb⟩
      exact (a0.same hg.size fun b hG hb => keep b hb hG.1.2).mono fun b _ hG => ⟨hG.1.1, nv' b hG.2 hG.1.2⟩
    · have hi' : i = ks.length := by rw [List.length_append] at h1; simp at h1; omega
      subst hi'
      rw [List.getElem_append_right (Nat.le_refl _), List.getElem_append_right (by rw [h.len]; omega)]
      simp only [Nat.sub_self, h.len, List.getElem_cons_zero]
      have a2 := hn.below hb2 (Nat.le_refl _)
      have a0 : NodeAt (fun b => W.heap.size ≤ b ∧ b < W2.heap.size) d W2 n (part l j) := a2.mono fun b hb hG => ⟨hG, hb⟩
      have hvb : ∀ b, W.heap.size ≤ b → v.ownBlock ≠ some b := fun b hb e => by have := (hv b e).2; omega
      exact (a0.same hg.size fun b hG hb => keep b hb (hvb b hG.1)).mono fun b _ hG => ⟨by omega, nv' b hG.2 (hvb b hG.1)⟩
  · exact hg.os.trans (hb2.os.trans hb1.os)
  · exact hg.tape.trans (hb2.tape.trans hb1.tape)
  · exact hg.output.trans (hb2.output.trans hb1.output)
  · exact Nat.le_trans hs1 (Nat.le_trans hs2 hg.size)
  · exact (keep b (by omega) (fun e => by have := (hv b e).1; omega)).trans ((hb2.block b (by omega)).trans (hb1.block b (by omega)))
/-- The kids' slice, in its cell. -/
def K4 (g : Nat) (v : Value) (w : World) : Prop := w.cell? ⟨g, 4, none⟩ = some v ∧ True
/-- A quarter's cell, a row at hand. -/
def QS (g X Y : Nat) (L : Int) (b x p q : Nat) (w : World) : Prop := CelS g X Y L w ∧ X2 b x p q w
set_option maxRecDepth 100000 in
set_option maxHeartbeats 4000000 in
theorem etree_inner (d : Nat) (ih : ∀ (l : List Rw) (o : Option Addr) (cap : Nat) (w : World), RowsAt w o cap l → On l → l.length ≤ 1000 → lev l < d →
      Calls Try.prog 34 #[.slice o l.length cap] w fun e w' => ∃ n : Nv, e = .returned (nv n) ∧ NodeAt (fun b => w.heap.size ≤ b) d w' n l ∧ Below w.heap.size w w')
    (l : List Rw) (o : Option Addr) (cap : Nat) (w : World) (hr : RowsAt w o cap l) (hon : On l) (hmax : l.length ≤ 1000) (hlf : leaf l = false) (hd : lev l < d + 1) :
    Calls Try.prog 34 #[.slice o l.length cap] w fun e w' => ∃ n : Nv, e = .returned (nv n) ∧ NodeAt (fun b => w.heap.size ≤ b) (d + 1) w' n l ∧ Below w.heap.size w w' := by
    obtain ⟨h4, m, hm⟩ := leaf_no hlf
    have hne : 0 < l.length := by omega
    have HLf : Hid (leaf l = false) := hlf
    have IH : Hid _ := ih

    have HHR : RowsAt (w.alloc (.cells #[.int .u32 0, .int .u32 0, .int .i64 0, .slice none 0 0, .slice none 0 0] 33)) o cap l := hr.below (below_new w _) (Nat.le_refl _)
    have HC : Hid _ := around_rows l o cap (w.alloc (.cells #[.int .u32 0, .int .u32 0, .int .i64 0, .slice none 0 0, .slice none 0 0] 33)) HHR hne hon hmax
    have HG2n : Hid ((w.alloc (.cells #[.int .u32 0, .int .u32 0, .int .i64 0, .slice none 0 0, .slice none 0 0] 33)).heap[w.heap.size]? = some (.cells #[.int .u32 0, .int .u32 0, .int .i64 0, .slice none 0 0, .slice none 0 0] 33 (0, 0))) := heap_alloc_new w _
    have HBn : Hid (Below w.heap.size w (w.alloc (.cells #[.int .u32 0, .int .u32 0, .int .i64 0, .slice none 0 0, .slice none 0 0] 33))) := below_new w _
    have HR : Hid (RowsAt w o cap l) := hr
    obtain ⟨X, hX⟩ : ∃ X, cx l = X := ⟨_, rfl⟩
    obtain ⟨Y, hY⟩ : ∃ Y, cy l = Y := ⟨_, rfl⟩
    obtain ⟨L, hL⟩ : ∃ L : Int, (lev l : Int) = L := ⟨_, rfl⟩
    have HX : Hid (cx l = X) := hX
    have HY : Hid (cy l = Y) := hY
    have HL : Hid ((lev l : Int) = L) := hL
    rw [hX, hY, hL] at HC
    have q0 : ((l.length : Int) == 0) = false := by rw [beq_eq_false_iff_ne]; omega
    have n0 : ¬ l.length = 0 := by omega

    have q1 : decide ((l.length : Int) ≤ 4) = false := decide_eq_false (by omega)
    have q2 : (L == 0) = false := by rw [beq_eq_false_iff_ne, ← hL]; omega
    have HM : Hid (lev l = m + 1) := hm
    have HD : Hid (lev l < d + 1) := hd
    have Hon : Hid (On l) := hon
    have hcl := lev_cl hon
    rw [hX, hY, hm] at hcl
    have HCL : Hid (Cl X Y (m + 1)) := hcl
    have HHas : Hid (∀ r ∈ l, hasS X Y ((m + 1 : Nat) : Int) r.x r.y = true) := fun r hr' => by
      have := lev_has hon hr'
      rwa [hX, hY, hm] at this
    have HLm : Hid (L = ((m + 1 : Nat) : Int)) := by refine (?_ : L = ((m + 1 : Nat) : Int)); rw [← hL, hm]
    clear hlf h4 hm hd hon ih hcl

    clear hr HHR hX hY hL
    go_enter Try.func34, Try.ntmps34
    go_wp2_with fail
    refine Calls.mono HC.out ?_
    rintro e W1 ⟨rfl, b1⟩
    have HG2a := (b1.block _ (by simp)).trans HG2n.out
    have hs1 : w.heap.size < W1.heap.size := by have := b1.size; simp at this; omega
    have HB2 : Hid (Below w.heap.size w (W1.alloc (.cells #[.int .u32 (X : Int), .int .u32 (Y : Int), .int .i64 L, .slice none 0 0, .slice none 0 0] 33))) := (HBn.out.trans (b1.mono (by simp))).trans ((below_new W1 _).mono (by omega))
    have HG2 : Hid ((W1.alloc (.cells #[.int .u32 (X : Int), .int .u32 (Y : Int), .int .i64 L, .slice none 0 0, .slice none 0 0] 33)).heap[w.heap.size]? = some (.cells #[.int .u32 0, .int .u32 0, .int .i64 0, .slice none 0 0, .slice none 0 0] 33 (0, 0))) := ((below_new W1 _).block _ hs1).trans HG2a
    have HG3 : Hid ((W1.alloc (.cells #[.int .u32 (X : Int), .int .u32 (Y : Int), .int .i64 L, .slice none 0 0, .slice none 0 0] 33)).heap[W1.heap.size]? = some (.cells #[.int .u32 (X : Int), .int .u32 (Y : Int), .int .i64 L, .slice none 0 0, .slice none 0 0] 33 (0, 0))) := heap_alloc_new W1 _
    clear b1 HG2a
    go_wp2_with fail
    have HG2s : Hid (w.heap.size < (W1.alloc (.cells #[.int .u32 (X : Int), .int .u32 (Y : Int), .int .i64 L, .slice none 0 0, .slice none 0 0] 33)).heap.size) := (Array.getElem?_eq_some_iff.1 HG2.out).1
    have HG3s : Hid ((W1.alloc (.cells #[.int .u32 (X : Int), .int .u32 (Y : Int), .int .i64 L, .slice none 0 0, .slice none 0 0] 33)).heap.size = W1.heap.size + 1) := by refine (?_ : (W1.alloc (.cells #[.int .u32 (X : Int), .int .u32 (Y : Int), .int .i64 L, .slice none 0 0, .slice none 0 0] 33)).heap.size = W1.heap.size + 1); simp
    have HG32 : Hid (w.heap.size < W1.heap.size) := hs1
    obtain ⟨g3, hg3⟩ : ∃ g3, W1.heap.size = g3 := ⟨_, rfl⟩
    obtain ⟨W2, hW2⟩ : ∃ W2, W1.alloc (.cells #[.int .u32 (X : Int), .int .u32 (Y : Int), .int .i64 L, .slice none 0 0, .slice none 0 0] 33) = W2 := ⟨_, rfl⟩
    rw [hW2] at HB2 HG2 HG3 HG2s HG3s ⊢
    rw [hg3] at HG3 HG3s HG32 ⊢
    clear hW2 hg3 hs1 HC HG2n HBn
    obtain ⟨z0, z1, z2, z3, z4, t0, t1, t2, t3, t4⟩ := node_facts HG3.out

    have HKE : Hid (KE d l w W2.heap.size 0 [] (.slice none 0 0) W2) := ⟨rfl, World.ownsRow_nil _ _ _ _, fun i h1 _ => absurd h1 (by simp), HB2.out, Nat.le_of_lt HG2s.out, Nat.le_refl _⟩
    go_wp2_with fail
    clear z0 z1 z2 z3 z4 t0 t1 t2 t3 t4
    go_loopw [4] (fun i wr => ∃ j : Nat, j ≤ 4 ∧ i = .int .i64 (j : Int) ∧ ∃ ks kv, KE d l w W2.heap.size j ks kv wr ∧ wr.heap[g3]? = some (.cells #[.int .u32 (X : Int), .int .u32 (Y : Int), .int .i64 L, .slice none 0 0, kv] 33 (0, 0)) ∧ wr.heap[w.heap.size]? = some (.cells #[.int .u32 0, .int .u32 0, .int .i64 0, .slice none 0 0, .slice none 0 0] 33 (0, 0))) (fun i _ => 4 - natOf i)
    case atStart => exact ⟨0, by omega, rfl, [], .slice none 0 0, HKE.out, HG3.out, HG2.out⟩
    case round =>
      obtain ⟨j, hj, rfl, ks, kv, hJ, hg3, hg2⟩ := hrel
      obtain ⟨W4, hW4⟩ : ∃ W4, wr = W4 := ⟨_, rfl⟩
      rw [hW4] at hJ hg3 hg2 ⊢
      clear hW4
      have HJ : Hid (KE d l w W2.heap.size j ks kv W4) := hJ
      have HG3' : Hid (W4.heap[g3]? = some (.cells #[.int .u32 (X : Int), .int .u32 (Y : Int), .int .i64 L, .slice none 0 0, kv] 33 (0, 0))) := hg3
      have HG2' : Hid (W4.heap[w.heap.size]? = some (.cells #[.int .u32 0, .int .u32 0, .int .i64 0, .slice none 0 0, .slice none 0 0] 33 (0, 0))) := hg2
      obtain ⟨ko, kc, rfl, sk⟩ := sl_of_own hJ.own
      by_cases hlt : j < 4
      · have q3 : (j : Int) < 4 := by omega
        have k1 : (j : Int) + 1 ≤ 9223372036854775807 := by omega
        have HQ : Hid _ := eQuarter_any X Y L (j : Int) (by have := HCL.out.x31; omega) (by have := HCL.out.y31; omega)
        have hqy := quart_yes HCL.out hlt
        rw [← HLm.out] at hqy
        rw [hqy] at HQ
        simp only [qv] at HQ
        have hqc := HCL.out.quarter j hlt
        have HIn : Hid (∀ r ∈ l, hasS (X + 2 ^ m * (j % 2)) (Y + 2 ^ m * (j / 2)) (m : Int) r.x r.y = decide (wq m r.x r.y = j)) := fun r hr' => by
          have h1 := HCL.out.in_quarter (x := r.x) (y := r.y) j hlt
          have h2 := HHas.out r hr'
          cases e : hasS (X + 2 ^ m * (j % 2)) (Y + 2 ^ m * (j / 2)) (m : Int) r.x r.y
          · symm; rw [decide_eq_false_iff_not]; intro e2; rw [h1.2 ⟨h2, e2⟩] at e; cases e
          · symm; rw [decide_eq_true_iff]; exact (h1.1 e).2
        have hqx31 := hqc.x31
        have hqy31 := hqc.y31
        have HH : Hid (∀ (x y : Nat), x < 4294967296 → y < 4294967296 → ∀ W, _) := fun x y (hx : x < 4294967296) (hy : y < 4294967296) (W : World) => eHas_any (X + 2 ^ m * (j % 2)) (Y + 2 ^ m * (j / 2)) (m : Int) x y (by omega) (by omega) hx hy W
        obtain ⟨qX, hqX⟩ : ∃ qX, X + 2 ^ m * (j % 2) = qX := ⟨_, rfl⟩
        obtain ⟨qY, hqY⟩ : ∃ qY, Y + 2 ^ m * (j / 2) = qY := ⟨_, rfl⟩
        obtain ⟨zm, hzm⟩ : ∃ zm : Int, (m : Int) = zm := ⟨_, rfl⟩
        rw [hqX, hqY, hzm] at HQ HIn HH
        obtain ⟨z0, z1, z2, z3, z4, t0, t1, t2, t3, t4⟩ := node_facts hg3
        have hgs : g3 < W4.heap.size := (Array.getElem?_eq_some_iff.1 hg3).1
        clear z0 z1 z2 z3 z4 hqy hqc hqx31 hqy31 hqX hqY hzm hg3 hg2 hJ sk
        go_wp2_with fail
        refine (HQ.out _).mono ?_
        rintro e W5 ⟨rfl, b5⟩
        have HB5 : Hid (Below W4.heap.size W4 (W5.alloc (.cells #[.int .u32 (qX : Int), .int .u32 (qY : Int), .int .i64 zm] 30))) := b5.trans ((below_new W5 _).mono b5.size)
        have HG5 : Hid ((W5.alloc (.cells #[.int .u32 (qX : Int), .int .u32 (qY : Int), .int .i64 zm] 30)).heap[W5.heap.size]? = some (.cells #[.int .u32 (qX : Int), .int .u32 (qY : Int), .int .i64 zm] 30 (0, 0))) := heap_alloc_new W5 _
        clear b5 t0 t1 t2 t3 t4 HQ
        go_wp2_with fail
        obtain ⟨g5, hg5⟩ : ∃ g5, W5.heap.size = g5 := ⟨_, rfl⟩
        obtain ⟨W6, hW6⟩ : ∃ W6, W5.alloc (.cells #[.int .u32 (qX : Int), .int .u32 (qY : Int), .int .i64 zm] 30) = W6 := ⟨_, rfl⟩
        rw [hW6] at HB5 HG5 ⊢
        rw [hg5] at HG5 ⊢
        clear hW6 hg5
        have HR6 : Hid (RowsAt W6 o cap l) := RowsAt.below (RowsAt.below HR.out HJ.out.bel (Nat.le_refl _)) HB5.out (Nat.le_refl _)
        go_loopw [7, 8] (fun pv i wr => ∃ k : Nat, k ≤ l.length ∧ i = .int .i64 (k : Int) ∧ wr.ownsRow W6.heap.size 26 4 pv (pk m l k j).length ((pk m l k j).flatMap rc) ∧ Below W6.heap.size W6 wr) (fun _ i _ => l.length - natOf i)
        case atStart =>
          refine ⟨0, by omega, rfl, ?_, Below.refl _ _⟩
          have : pk m l 0 j = [] := by simp [pk]
          rw [this]
          exact World.ownsRow_nil _ _ _ _
        case round =>
          obtain ⟨k, hk, rfl, ho, hb⟩ := hrel
          have HO : Hid _ := ho
          have HBk : Hid (Below W6.heap.size W6 wr) := hb
          obtain ⟨po, pc, rfl, sp⟩ := sl_of_own ho
          obtain ⟨pn, hpn⟩ : ∃ pn, (pk m l k j).length = pn := ⟨_, rfl⟩
          have HPN : Hid ((pk m l k j).length = pn) := hpn
          have hpl := pk_len m l k j
          rw [hpn] at ho HO sp hpl ⊢
          by_cases hkl : k < l.length
          · obtain ⟨b, off, rfl, hbl, hc⟩ := (HR6.out.below hb (Nat.le_refl _)).row hkl
            obtain ⟨c0, c1, c2, c3⟩ := hc k hkl
            have onr := Hon.out _ (rat_mem hkl)
            have HC := HH.out (rat l k).x (rat l k).y (by omega) (by omega)
            rw [HIn.out _ (rat_mem hkl)] at HC
            have hnx := pk_next m l k j hkl
            have q5 : (k : Int) < (l.length : Int) := by omega
            have k0 : (0 : Int) ≤ (k : Int) := by omega
            have k2 : (k : Int) + 1 ≤ 9223372036854775807 := by omega
            have g5k : wr.heap[g5]? = some (.cells #[.int .u32 (qX : Int), .int .u32 (qY : Int), .int .i64 zm] 30 (0, 0)) := (hb.block _ (Array.getElem?_eq_some_iff.1 HG5.out).1).trans HG5.out
            have hg5k : g5 < wr.heap.size := (Array.getElem?_eq_some_iff.1 g5k).1
            generalize rat l k = r at *
            obtain ⟨id, x, y, v⟩ := r
            simp only at c0 c1 c2 c3 HC hnx onr
            have HSW : Hid (QS g5 qX qY zm b (off + k * 4) x y wr.drew) := ⟨Cel.cells g5k, c1, c2⟩
            have HCR : Hid (Fr wr b (off + k * 4) ⟨id, x, y, v⟩) := ⟨c0, c1, c2, c3⟩
            clear hc onr c0 c1 c2 c3 g5k
            by_cases hw : wq m x y = j
            · rw [decide_eq_true hw] at HC
              rw [if_pos hw] at hnx
              replace HC : Hid _ := HC
              have HNX : Hid (pk m l (k + 1) j = pk m l k j ++ [⟨id, x, y, v⟩]) := hnx
              clear hnx hw
              go_wp2_with fail
              refine wp_region_held (S := QS g5 qX qY zm b (off + k * 4) x y) (by kernel_rfl) ?_
              change wpAnyH _ _ _ _ _ _ _ _ (World.drew _)
              refine wpAnyH_take (i := 0) (v := ?_) rfl (by kernel_rfl) (by kernel_rfl) (by kernel_rfl) (fun _ _ _ h => h) (Or.inl ⟨by kernel_rfl, ?_⟩) HSW.out ?_
              rotate_left
              · intro w hS
                obtain ⟨⟨e1, e2, e3⟩, e4, e5⟩ := hS
                go_simp
                try with_reducible rfl
              conv in (Act.put _ _ _) => simp only [List.getElem_toArray, List.getElem_cons_succ, List.getElem_cons_zero, Act.put, List.setIfInBounds_toArray, List.set_cons_succ, List.set_cons_zero]
              refine wpAnyH_take (i := 1) (v := ?_) rfl (by kernel_rfl) (by kernel_rfl) (by kernel_rfl) (fun _ _ _ h => h) (Or.inl ⟨by kernel_rfl, ?_⟩) HSW.out ?_
              rotate_left
              · intro w hS
                obtain ⟨⟨e1, e2, e3⟩, e4, e5⟩ := hS
                go_simp
                try with_reducible rfl
              conv in (Act.put _ _ _) => simp only [List.getElem_toArray, List.getElem_cons_succ, List.getElem_cons_zero, Act.put, List.setIfInBounds_toArray, List.set_cons_succ, List.set_cons_zero]
              refine wpAnyH_take (i := 2) (v := ?_) rfl (by kernel_rfl) (by kernel_rfl) (by kernel_rfl) (fun _ _ _ h => h) (Or.inl ⟨by kernel_rfl, ?_⟩) HSW.out ?_
              rotate_left
              · intro w hS
                obtain ⟨⟨e1, e2, e3⟩, e4, e5⟩ := hS
                go_simp
                try with_reducible rfl
              conv in (Act.put _ _ _) => simp only [List.getElem_toArray, List.getElem_cons_succ, List.getElem_cons_zero, Act.put, List.setIfInBounds_toArray, List.set_cons_succ, List.set_cons_zero]
              refine wpAnyH_take (i := 3) (v := ?_) rfl (by kernel_rfl) (by kernel_rfl) (by kernel_rfl) (fun _ _ _ h => h) (Or.inl ⟨by kernel_rfl, ?_⟩) HSW.out ?_
              rotate_left
              · intro w hS
                obtain ⟨⟨e1, e2, e3⟩, e4, e5⟩ := hS
                go_simp
                try with_reducible rfl
              conv in (Act.put _ _ _) => simp only [List.getElem_toArray, List.getElem_cons_succ, List.getElem_cons_zero, Act.put, List.setIfInBounds_toArray, List.set_cons_succ, List.set_cons_zero]
              refine wpAnyH_take (i := 4) (v := ?_) rfl (by kernel_rfl) (by kernel_rfl) (by kernel_rfl) (fun _ _ _ h => h) (Or.inl ⟨by kernel_rfl, ?_⟩) HSW.out ?_
              rotate_left
              · intro w hS
                obtain ⟨⟨e1, e2, e3⟩, e4, e5⟩ := hS
                go_simp
                try with_reducible rfl
              conv in (Act.put _ _ _) => simp only [List.getElem_toArray, List.getElem_cons_succ, List.getElem_cons_zero, Act.put, List.setIfInBounds_toArray, List.set_cons_succ, List.set_cons_zero]
              refine wpAnyH_take (i := 5) (v := ?_) rfl (by kernel_rfl) (by kernel_rfl) (by kernel_rfl) (fun _ _ _ h => h) (Or.inl ⟨by kernel_rfl, ?_⟩) HSW.out ?_
              rotate_left
              · intro w hS
                obtain ⟨⟨e1, e2, e3⟩, e4, e5⟩ := hS
                go_simp
                try with_reducible rfl
              conv in (Act.put _ _ _) => simp only [List.getElem_toArray, List.getElem_cons_succ, List.getElem_cons_zero, Act.put, List.setIfInBounds_toArray, List.set_cons_succ, List.set_cons_zero]
              refine wpAnyH_take (i := 6) (v := ?_) rfl (by kernel_rfl) (by kernel_rfl) (by kernel_rfl) (fun _ _ _ h => h) (Or.inl ⟨by kernel_rfl, ?_⟩) HSW.out ?_
              rotate_left
              · intro w hS
                obtain ⟨⟨e1, e2, e3⟩, e4, e5⟩ := hS
                go_simp
                try with_reducible rfl
              conv in (Act.put _ _ _) => simp only [List.getElem_toArray, List.getElem_cons_succ, List.getElem_cons_zero, Act.put, List.setIfInBounds_toArray, List.set_cons_succ, List.set_cons_zero]
              refine wpAnyH_take (i := 7) (v := ?_) rfl (by kernel_rfl) (by kernel_rfl) (by kernel_rfl) (fun _ _ _ h => h) (Or.inl ⟨by kernel_rfl, ?_⟩) HSW.out ?_
              rotate_left
              · intro w hS
                obtain ⟨⟨e1, e2, e3⟩, e4, e5⟩ := hS
                go_simp
                try with_reducible rfl
              conv in (Act.put _ _ _) => simp only [List.getElem_toArray, List.getElem_cons_succ, List.getElem_cons_zero, Act.put, List.setIfInBounds_toArray, List.set_cons_succ, List.set_cons_zero]
              refine wpAnyH_take (i := 8) (v := ?_) rfl (by kernel_rfl) (by kernel_rfl) (by kernel_rfl) (fun _ _ _ h => h) (Or.inl ⟨by kernel_rfl, ?_⟩) HSW.out ?_
              rotate_left
              · intro w hS
                obtain ⟨⟨e1, e2, e3⟩, e4, e5⟩ := hS
                go_simp
                try with_reducible rfl
              conv in (Act.put _ _ _) => simp only [List.getElem_toArray, List.getElem_cons_succ, List.getElem_cons_zero, Act.put, List.setIfInBounds_toArray, List.set_cons_succ, List.set_cons_zero]
              refine wpAnyH_take (i := 9) (v := ?_) rfl (by kernel_rfl) (by kernel_rfl) (by kernel_rfl) (fun _ _ _ h => h) (Or.inl ⟨by kernel_rfl, ?_⟩) HSW.out ?_
              rotate_left
              · intro w hS
                obtain ⟨⟨e1, e2, e3⟩, e4, e5⟩ := hS
                go_simp
                try with_reducible rfl
              conv in (Act.put _ _ _) => simp only [List.getElem_toArray, List.getElem_cons_succ, List.getElem_cons_zero, Act.put, List.setIfInBounds_toArray, List.set_cons_succ, List.set_cons_zero]
              refine wpAnyH_take (i := 10) (v := ?_) rfl (by kernel_rfl) (by kernel_rfl) (by kernel_rfl) (fun _ _ _ h => h) (Or.inl ⟨by kernel_rfl, ?_⟩) HSW.out ?_
              rotate_left
              · intro w hS
                obtain ⟨⟨e1, e2, e3⟩, e4, e5⟩ := hS
                go_simp
                try with_reducible rfl
              conv in (Act.put _ _ _) => simp only [List.getElem_toArray, List.getElem_cons_succ, List.getElem_cons_zero, Act.put, List.setIfInBounds_toArray, List.set_cons_succ, List.set_cons_zero]
              refine readyH 11 _ (by kernel_rfl) rfl (by kernel_rfl) (fun K hK => ?_)
              go_simp
              refine (HC.out _).mono ?_
              rintro e w1 ⟨rfl, b1⟩
              replace b1 : Below wr.heap.size wr w1 := (Below.refl _ wr).drew.trans b1
              replace HSW : Hid (QS g5 qX qY zm b (off + k * 4) x y w1) := ⟨cels_same HSW.out.1 (b1.block _ hg5k), HSW.out.2.same (b1.block b hbl)⟩
              refine hK _ _ HSW.out ?_
              clear hK K
              refine wpAnyH_take (i := 12) (v := ?_) rfl (by kernel_rfl) (by kernel_rfl) (by kernel_rfl) (fun _ _ _ h => h) (Or.inl ⟨by kernel_rfl, ?_⟩) HSW.out ?_
              rotate_left
              · intro w hS
                obtain ⟨⟨e1, e2, e3⟩, e4, e5⟩ := hS
                go_simp
                try with_reducible rfl
              conv in (Act.put _ _ _) => simp only [List.getElem_toArray, List.getElem_cons_succ, List.getElem_cons_zero, Act.put, List.setIfInBounds_toArray, List.set_cons_succ, List.set_cons_zero]
              refine wpAnyH_done (by kernel_rfl) ?_ _
              obtain ⟨c0, c1, c2, c3⟩ := HCR.out.same (b1.block b hbl)
              simp only at c0 c1 c2 c3
              have hbn := below_new w1 (.cells #[.int .u64 (id : Int), .int .u32 (x : Int), .int .u32 (y : Int), .string v] 26)
              obtain ⟨v', W', hrun, a1, a2, a3⟩ := append_sl 22 26 Try.underlying22 infoRow rfl (by decide) (by decide) (w1.alloc (.cells #[.int .u64 (id : Int), .int .u32 (x : Int), .int .u32 (y : Int), .string v] 26)) W6.heap.size pn 1 (.slice po pn pc) (some ⟨w1.heap.size, 0, none⟩) 1
                ((pk m l k j).flatMap rc) (rc ⟨id, x, y, v⟩) (own_same HO.out fun b _ hb' => (hbn.block b (Nat.lt_of_lt_of_le hb' b1.size)).trans (b1.block b hb')) (by have := HBk.out.size; have := b1.size; simp; omega) (one_row (r := ⟨id, x, y, v⟩) (heap_alloc_new w1 _)) (rc_one' _) (by omega)
              have HO1 : Hid (W'.ownsRow W6.heap.size 26 4 v' (pk m l (k + 1) j).length ((pk m l (k + 1) j).flatMap rc)) := by
                refine (?_ : W'.ownsRow W6.heap.size 26 4 v' (pk m l (k + 1) j).length ((pk m l (k + 1) j).flatMap rc))
                rw [HNX.out, List.flatMap_append, List.length_append, HPN.out]
                simpa using a1
              have HB1 : Hid (Below W6.heap.size W6 W') := (HBk.out.trans ((b1.mono HBk.out.size).trans (hbn.mono (Nat.le_trans HBk.out.size b1.size)))).grown a2 (by have := HBk.out.size; have := b1.size; simp; omega) fun b eb => (own_base HO.out eb).1
              clear b1 hbn a1 a2 a3 HSW HC hb ho sp
              go_wp2_with (at_builtin; refine list_append rfl 22 22 (.tmp 63) (.tmp 68) rfl (vs := .slice po pn pc) (vx := .slice (some ⟨w1.heap.size, 0, none⟩) 1 1) rfl rfl hrun ?_)
              go_roundw
              case rel => exact ⟨k + 1, by omega, by go_num, HO1.out, HB1.out⟩
              case measure => simp [natOf]; omega
            · rw [decide_eq_false hw] at HC
              rw [if_neg hw, List.append_nil] at hnx
              replace HC : Hid _ := HC
              have HNX : Hid (pk m l (k + 1) j = pk m l k j) := hnx
              clear hnx hw
              go_wp2_with fail
              refine wp_region_held (S := QS g5 qX qY zm b (off + k * 4) x y) (by kernel_rfl) ?_
              change wpAnyH _ _ _ _ _ _ _ _ (World.drew _)
              refine wpAnyH_take (i := 0) (v := ?_) rfl (by kernel_rfl) (by kernel_rfl) (by kernel_rfl) (fun _ _ _ h => h) (Or.inl ⟨by kernel_rfl, ?_⟩) HSW.out ?_
              rotate_left
              · intro w hS
                obtain ⟨⟨e1, e2, e3⟩, e4, e5⟩ := hS
                go_simp
                try with_reducible rfl
              conv in (Act.put _ _ _) => simp only [List.getElem_toArray, List.getElem_cons_succ, List.getElem_cons_zero, Act.put, List.setIfInBounds_toArray, List.set_cons_succ, List.set_cons_zero]
              refine wpAnyH_take (i := 1) (v := ?_) rfl (by kernel_rfl) (by kernel_rfl) (by kernel_rfl) (fun _ _ _ h => h) (Or.inl ⟨by kernel_rfl, ?_⟩) HSW.out ?_
              rotate_left
              · intro w hS
                obtain ⟨⟨e1, e2, e3⟩, e4, e5⟩ := hS
                go_simp
                try with_reducible rfl
              conv in (Act.put _ _ _) => simp only [List.getElem_toArray, List.getElem_cons_succ, List.getElem_cons_zero, Act.put, List.setIfInBounds_toArray, List.set_cons_succ, List.set_cons_zero]
              refine wpAnyH_take (i := 2) (v := ?_) rfl (by kernel_rfl) (by kernel_rfl) (by kernel_rfl) (fun _ _ _ h => h) (Or.inl ⟨by kernel_rfl, ?_⟩) HSW.out ?_
              rotate_left
              · intro w hS
                obtain ⟨⟨e1, e2, e3⟩, e4, e5⟩ := hS
                go_simp
                try with_reducible rfl
              conv in (Act.put _ _ _) => simp only [List.getElem_toArray, List.getElem_cons_succ, List.getElem_cons_zero, Act.put, List.setIfInBounds_toArray, List.set_cons_succ, List.set_cons_zero]
              refine wpAnyH_take (i := 3) (v := ?_) rfl (by kernel_rfl) (by kernel_rfl) (by kernel_rfl) (fun _ _ _ h => h) (Or.inl ⟨by kernel_rfl, ?_⟩) HSW.out ?_
              rotate_left
              · intro w hS
                obtain ⟨⟨e1, e2, e3⟩, e4, e5⟩ := hS
                go_simp
                try with_reducible rfl
              conv in (Act.put _ _ _) => simp only [List.getElem_toArray, List.getElem_cons_succ, List.getElem_cons_zero, Act.put, List.setIfInBounds_toArray, List.set_cons_succ, List.set_cons_zero]
              refine wpAnyH_take (i := 4) (v := ?_) rfl (by kernel_rfl) (by kernel_rfl) (by kernel_rfl) (fun _ _ _ h => h) (Or.inl ⟨by kernel_rfl, ?_⟩) HSW.out ?_
              rotate_left
              · intro w hS
                obtain ⟨⟨e1, e2, e3⟩, e4, e5⟩ := hS
                go_simp
                try with_reducible rfl
              conv in (Act.put _ _ _) => simp only [List.getElem_toArray, List.getElem_cons_succ, List.getElem_cons_zero, Act.put, List.setIfInBounds_toArray, List.set_cons_succ, List.set_cons_zero]
              refine wpAnyH_take (i := 5) (v := ?_) rfl (by kernel_rfl) (by kernel_rfl) (by kernel_rfl) (fun _ _ _ h => h) (Or.inl ⟨by kernel_rfl, ?_⟩) HSW.out ?_
              rotate_left
              · intro w hS
                obtain ⟨⟨e1, e2, e3⟩, e4, e5⟩ := hS
                go_simp
                try with_reducible rfl
              conv in (Act.put _ _ _) => simp only [List.getElem_toArray, List.getElem_cons_succ, List.getElem_cons_zero, Act.put, List.setIfInBounds_toArray, List.set_cons_succ, List.set_cons_zero]
              refine wpAnyH_take (i := 6) (v := ?_) rfl (by kernel_rfl) (by kernel_rfl) (by kernel_rfl) (fun _ _ _ h => h) (Or.inl ⟨by kernel_rfl, ?_⟩) HSW.out ?_
              rotate_left
              · intro w hS
                obtain ⟨⟨e1, e2, e3⟩, e4, e5⟩ := hS
                go_simp
                try with_reducible rfl
              conv in (Act.put _ _ _) => simp only [List.getElem_toArray, List.getElem_cons_succ, List.getElem_cons_zero, Act.put, List.setIfInBounds_toArray, List.set_cons_succ, List.set_cons_zero]
              refine wpAnyH_take (i := 7) (v := ?_) rfl (by kernel_rfl) (by kernel_rfl) (by kernel_rfl) (fun _ _ _ h => h) (Or.inl ⟨by kernel_rfl, ?_⟩) HSW.out ?_
              rotate_left
              · intro w hS
                obtain ⟨⟨e1, e2, e3⟩, e4, e5⟩ := hS
                go_simp
                try with_reducible rfl
              conv in (Act.put _ _ _) => simp only [List.getElem_toArray, List.getElem_cons_succ, List.getElem_cons_zero, Act.put, List.setIfInBounds_toArray, List.set_cons_succ, List.set_cons_zero]
              refine wpAnyH_take (i := 8) (v := ?_) rfl (by kernel_rfl) (by kernel_rfl) (by kernel_rfl) (fun _ _ _ h => h) (Or.inl ⟨by kernel_rfl, ?_⟩) HSW.out ?_
              rotate_left
              · intro w hS
                obtain ⟨⟨e1, e2, e3⟩, e4, e5⟩ := hS
                go_simp
                try with_reducible rfl
              conv in (Act.put _ _ _) => simp only [List.getElem_toArray, List.getElem_cons_succ, List.getElem_cons_zero, Act.put, List.setIfInBounds_toArray, List.set_cons_succ, List.set_cons_zero]
              refine wpAnyH_take (i := 9) (v := ?_) rfl (by kernel_rfl) (by kernel_rfl) (by kernel_rfl) (fun _ _ _ h => h) (Or.inl ⟨by kernel_rfl, ?_⟩) HSW.out ?_
              rotate_left
              · intro w hS
                obtain ⟨⟨e1, e2, e3⟩, e4, e5⟩ := hS
                go_simp
                try with_reducible rfl
              conv in (Act.put _ _ _) => simp only [List.getElem_toArray, List.getElem_cons_succ, List.getElem_cons_zero, Act.put, List.setIfInBounds_toArray, List.set_cons_succ, List.set_cons_zero]
              refine wpAnyH_take (i := 10) (v := ?_) rfl (by kernel_rfl) (by kernel_rfl) (by kernel_rfl) (fun _ _ _ h => h) (Or.inl ⟨by kernel_rfl, ?_⟩) HSW.out ?_
              rotate_left
              · intro w hS
                obtain ⟨⟨e1, e2, e3⟩, e4, e5⟩ := hS
                go_simp
                try with_reducible rfl
              conv in (Act.put _ _ _) => simp only [List.getElem_toArray, List.getElem_cons_succ, List.getElem_cons_zero, Act.put, List.setIfInBounds_toArray, List.set_cons_succ, List.set_cons_zero]
              refine readyH 11 _ (by kernel_rfl) rfl (by kernel_rfl) (fun K hK => ?_)
              go_simp
              refine (HC.out _).mono ?_
              rintro e w1 ⟨rfl, b1⟩
              replace b1 : Below wr.heap.size wr w1 := (Below.refl _ wr).drew.trans b1
              replace HSW : Hid (QS g5 qX qY zm b (off + k * 4) x y w1) := ⟨cels_same HSW.out.1 (b1.block _ hg5k), HSW.out.2.same (b1.block b hbl)⟩
              refine hK _ _ HSW.out ?_
              clear hK K
              refine wpAnyH_take (i := 12) (v := ?_) rfl (by kernel_rfl) (by kernel_rfl) (by kernel_rfl) (fun _ _ _ h => h) (Or.inl ⟨by kernel_rfl, ?_⟩) HSW.out ?_
              rotate_left
              · intro w hS
                obtain ⟨⟨e1, e2, e3⟩, e4, e5⟩ := hS
                go_simp
                try with_reducible rfl
              conv in (Act.put _ _ _) => simp only [List.getElem_toArray, List.getElem_cons_succ, List.getElem_cons_zero, Act.put, List.setIfInBounds_toArray, List.set_cons_succ, List.set_cons_zero]
              refine wpAnyH_done (by kernel_rfl) ?_ _
              have HO1 : Hid (w1.ownsRow W6.heap.size 26 4 (.slice po pn pc) (pk m l (k + 1) j).length ((pk m l (k + 1) j).flatMap rc)) := by
                refine (?_ : w1.ownsRow W6.heap.size 26 4 (.slice po pn pc) (pk m l (k + 1) j).length ((pk m l (k + 1) j).flatMap rc))
                rw [HNX.out, HPN.out]
                exact own_same HO.out fun b _ hb' => b1.block b hb'
              have HB1 : Hid (Below W6.heap.size W6 w1) := HBk.out.trans (b1.mono HBk.out.size)
              clear b1 HSW HC hb ho sp
              go_wp2_with fail
              go_roundw
              case rel => exact ⟨k + 1, by omega, by go_num, HO1.out, HB1.out⟩
              case measure => simp [natOf]; omega
          · obtain rfl : k = l.length := by omega
            have q5 : ¬ (l.length : Int) < (l.length : Int) := by omega
            have epk : pk m l l.length j = part l j := by unfold pk part; rw [List.take_length, HM.out]; rfl
            rw [epk] at HO HPN sp
            have HJr : Hid (KE d l w W2.heap.size j ks (.slice ko ks.length kc) wr) := (HJ.out.next HB5.out).next HBk.out
            obtain ⟨kn, hkn⟩ : ∃ kn, ks.length = kn := ⟨_, rfl⟩
            have HKN : Hid (ks.length = kn) := hkn
            have hB6 : Below W4.heap.size W4 wr := HB5.out.trans (HBk.out.mono HB5.out.size)
            have HG3r : Hid (wr.heap[g3]? = some (.cells #[.int .u32 (X : Int), .int .u32 (Y : Int), .int .i64 L, .slice none 0 0, .slice ko kn kc] 33 (0, 0))) := by
              have := (hB6.block _ hgs).trans HG3'.out
              rw [hkn] at this; exact this
            have HG2r : Hid (wr.heap[w.heap.size]? = some (.cells #[.int .u32 0, .int .u32 0, .int .i64 0, .slice none 0 0, .slice none 0 0] 33 (0, 0))) := (hB6.block _ (Array.getElem?_eq_some_iff.1 HG2'.out).1).trans HG2'.out
            rw [hkn] at HJr
            clear hB6 hb ho hkn
            by_cases hp0 : pn = 0
            · have q6 : decide (0 < pn) = false := decide_eq_false (by omega)
              have HSk : Hid (KE d l w W2.heap.size (j + 1) ks (.slice ko kn kc) wr) := HJr.out.skip (List.eq_nil_of_length_eq_zero (by rw [HPN.out]; exact hp0))
              clear hp0 sp
              go_wp2_with fail
              go_roundw
              case rel => exact ⟨j + 1, by omega, by go_num, ks, _, HSk.out, HG3r.out, HG2r.out⟩
              case measure => simp [natOf]; omega
            · have q6 : decide (0 < pn) = true := decide_eq_true (by omega)
              have HNP : Hid (part l j ≠ []) := fun e => by have := HPN.out; rw [e] at this; exact hp0 this.symm
              have hra : RowsAt wr.drew po pc (part l j) := by
                have e : Sl 4 wr po pn pc ((part l j).flatMap rc) := sp
                rw [← HPN.out] at e
                exact e
              have hcall := IH.out (part l j) po pc wr.drew hra (Hon.out.part j) (Nat.le_trans (part_sub l j) hmax) (by have := lev_part Hon.out HM.out j; have := HM.out; have := HD.out; omega)
              rw [HPN.out] at hcall
              replace hcall : Hid _ := hcall
              have hgr : g3 < wr.heap.size := (Array.getElem?_eq_some_iff.1 HG3r.out).1
              have HSW : Hid (K4 g3 (.slice ko kn kc) wr.drew) := ⟨(node_facts HG3r.out).2.2.2.2.2.2.2.2.2, trivial⟩
              have k2 := HKN.out
              have hkl := kl_len l j
              clear hp0 sp hra
              go_wp2_with fail
              refine region_lastP (z := 7) (S := K4 g3 (.slice ko kn kc)) (by kernel_rfl) ?_
              change wpLast _ _ _ _ _ _ 8 _ _ _
              refine wpLast_take (i := 0) (v := ?_) (by kernel_rfl) rfl (by kernel_rfl) (by kernel_rfl) (by kernel_rfl) (fun _ _ _ h => h) (Or.inl ⟨by kernel_rfl, ?_⟩) HSW.out ?_
              rotate_left
              · intro w hS
                obtain ⟨e1, e2⟩ := hS
                go_simp
                try with_reducible rfl
              conv in (Act.put _ _ _) => simp only [List.getElem_toArray, List.getElem_cons_succ, List.getElem_cons_zero, Act.put, List.setIfInBounds_toArray, List.set_cons_succ, List.set_cons_zero]
              refine wpLast_take (i := 1) (v := ?_) (by kernel_rfl) rfl (by kernel_rfl) (by kernel_rfl) (by kernel_rfl) (fun _ _ _ h => h) (Or.inl ⟨by kernel_rfl, ?_⟩) HSW.out ?_
              rotate_left
              · intro w hS
                obtain ⟨e1, e2⟩ := hS
                go_simp
                try with_reducible rfl
              conv in (Act.put _ _ _) => simp only [List.getElem_toArray, List.getElem_cons_succ, List.getElem_cons_zero, Act.put, List.setIfInBounds_toArray, List.set_cons_succ, List.set_cons_zero]
              refine wpLast_take (i := 2) (v := ?_) (by kernel_rfl) rfl (by kernel_rfl) (by kernel_rfl) (by kernel_rfl) (fun _ _ _ h => h) (Or.inl ⟨by kernel_rfl, ?_⟩) HSW.out ?_
              rotate_left
              · intro w hS
                obtain ⟨e1, e2⟩ := hS
                go_simp
                try with_reducible rfl
              conv in (Act.put _ _ _) => simp only [List.getElem_toArray, List.getElem_cons_succ, List.getElem_cons_zero, Act.put, List.setIfInBounds_toArray, List.set_cons_succ, List.set_cons_zero]
              refine readyL 3 _ (by kernel_rfl) rfl (by kernel_rfl) (fun K hK => ?_)
              go_simp
              refine Calls.mono hcall.out ?_
              rintro e W7 ⟨nn, rfl, n7, b7⟩
              replace b7 : Below wr.heap.size wr W7 := (Below.refl _ wr).drew.trans b7
              have n7' : NodeAt (fun b => wr.heap.size ≤ b) d W7 nn (part l j) := n7
              obtain ⟨nX, nY, nL, nro, nrn, nrc, nko, nkn, nkc⟩ := nn
              replace HSW : Hid (K4 g3 (.slice ko kn kc) W7) := ⟨(World.cell?_of_block (a := ⟨g3, 4, none⟩) (b7.block g3 hgr)).trans HSW.out.1, trivial⟩
              refine hK _ _ HSW.out ?_
              clear hK K hcall n7
              have hb8 := below_new W7 (.cells #[.int .u32 (nX : Int), .int .u32 (nY : Int), .int .i64 (nL : Int), .slice nro nrn nrc, .slice nko nkn nkc] 33)
              have hs7 := b7.size
              obtain ⟨v', W', hrun, a1, a2, a3⟩ := append_sl 31 33 Try.underlying31 infoNode rfl (by decide) (by decide) (W7.alloc (.cells #[.int .u32 (nX : Int), .int .u32 (nY : Int), .int .i64 (nL : Int), .slice nro nrn nrc, .slice nko nkn nkc] 33)) W2.heap.size kn 1 (.slice ko kn kc) (some ⟨W7.heap.size, 0, none⟩) 1
                (ks.flatMap nc) (nc ⟨nX, nY, nL, nro, nrn, nrc, nko, nkn, nkc⟩) (by have := HJr.out.own; rw [HKN.out] at this; exact own_same this fun b _ hb => (hb8.block b (by omega)).trans (b7.block b hb)) (by have := HJr.out.base.2; simp; omega) (one_node (heap_alloc_new W7 _)) (nc_one' _) (by have := HJr.out.len; omega)
              have hstep := HJr.out.step HNP.out b7 n7' hb8 (by rw [HKN.out]; exact a1) a2 a3
              have hob : ∀ b, (Value.slice ko kn kc).ownBlock = some b → W2.heap.size ≤ b := fun b hb => (own_base HJr.out.own hb).1
              have hg3W : g3 < W2.heap.size := by have := HG3s.out; omega
              have keepg : W'.heap[g3]? = some (.cells #[.int .u32 (X : Int), .int .u32 (Y : Int), .int .i64 L, .slice none 0 0, .slice ko kn kc] 33 (0, 0)) := (a2.block g3 (by simp; omega) (by intro e; have := hob g3 e.symm; omega)).trans ((hb8.block g3 (by omega)).trans ((b7.block g3 hgr).trans HG3r.out))
              have hgw : w.heap.size < g3 := HG32.out
              have keepw : W'.heap[w.heap.size]? = some (.cells #[.int .u32 0, .int .u32 0, .int .i64 0, .slice none 0 0, .slice none 0 0] 33 (0, 0)) := (a2.block _ (by simp; omega) (by intro e; have := hob _ e.symm; omega)).trans ((hb8.block _ (by omega)).trans ((b7.block _ (by omega)).trans HG2r.out))
              obtain ⟨g', cap', rfl⟩ := ownsRow_succ a1
              have HFIN : Hid _ := hstep.set g3 4 (.slice (some ⟨g', 0, none⟩) (kn + 1) cap') hg3W (by omega)
              have HFG : Hid _ := heap_setCell_same W' g3 4 _ _ (.slice (some ⟨g', 0, none⟩) (kn + 1) cap') keepg
              have HFW : Hid _ := (setc W' g3 4 (.slice (some ⟨g', 0, none⟩) (kn + 1) cap') (by omega : w.heap.size ≠ g3)).trans keepw
              have z4 := (node_facts keepg).2.2.2.2.1
              have z5 := (node_facts keepg).2.2.2.2.2.2.2.2.2
              refine readyL 4 _ (by kernel_rfl) rfl (by kernel_rfl) (fun K hK => ?_)
              go_simp
              refine hK _ _ (⟨(World.cell?_of_block (a := ⟨g3, 4, none⟩) (hb8.block g3 (by omega))).trans HSW.out.1, trivial⟩ : K4 g3 (.slice ko kn kc) (W7.alloc (.cells #[.int .u32 (nX : Int), .int .u32 (nY : Int), .int .i64 (nL : Int), .slice nro nrn nrc, .slice nko nkn nkc] 33))) ?_
              clear hK K
              refine readyL 5 _ (by kernel_rfl) rfl (by kernel_rfl) (fun K hK => ?_)
              refine op_append 31 31 (.tmp 74) (.tmp 77) rfl rfl rfl hrun ?_
              replace HSW : Hid (K4 g3 (.slice ko kn kc) W') := ⟨z5, trivial⟩
              refine hK _ _ HSW.out ?_
              clear hK K hstep keepg keepw hob a1 a2 a3 b7 hb8 n7'
              conv in (Act.put _ _ _) => simp only [List.getElem_toArray, List.getElem_cons_succ, List.getElem_cons_zero, Act.put, List.setIfInBounds_toArray, List.set_cons_succ, List.set_cons_zero]
              refine wpLast_take (i := 6) (v := ?_) (by kernel_rfl) rfl (by kernel_rfl) (by kernel_rfl) (by kernel_rfl) (fun _ _ _ h => h) (Or.inl ⟨by kernel_rfl, ?_⟩) HSW.out ?_
              rotate_left
              · intro w hS
                obtain ⟨e1, e2⟩ := hS
                go_simp
                try with_reducible rfl
              conv in (Act.put _ _ _) => simp only [List.getElem_toArray, List.getElem_cons_succ, List.getElem_cons_zero, Act.put, List.setIfInBounds_toArray, List.set_cons_succ, List.set_cons_zero]
              refine wpLast_end rfl (by kernel_rfl) (by kernel_rfl) (by kernel_rfl) ?_
              go_simp
              clear z4 z5
              go_wp2_with fail
              go_roundw
              case rel => exact ⟨j + 1, by omega, by go_num, _, _, HFIN.out, HFG.out, HFW.out⟩
              case measure => simp [natOf]; omega
      · obtain rfl : j = 4 := by omega
        have q3 : ¬ ((4 : Nat) : Int) < 4 := by omega
        obtain ⟨kn, hkn⟩ : ∃ kn, ks.length = kn := ⟨_, rfl⟩
        rw [hkn] at hg3
        obtain ⟨z0, z1, z2, z3, z4, f0, f1, f2, f3, f4⟩ := node_facts hg2
        obtain ⟨y0, y1, y2, y3, y4, t0, t1, t2, t3, t4⟩ := node_facts hg3
        obtain ⟨p1, p2, p3⟩ := put_node hg2 (.int .u32 (X : Int)) (.int .u32 (Y : Int)) (.int .i64 L) (.slice none 0 0) (.slice ko kn kc)
        have HP1 : Hid _ := p1
        have HP3 : Hid (Below w.heap.size w _) := hJ.bel.trans p3
        have HN : Hid (NodeAt (fun b => w.heap.size ≤ b) (d + 1) (((((W4.setCell ⟨w.heap.size, 0, none⟩ (.int .u32 (X : Int))).setCell ⟨w.heap.size, 1, none⟩ (.int .u32 (Y : Int))).setCell ⟨w.heap.size, 2, none⟩ (.int .i64 L)).setCell ⟨w.heap.size, 3, none⟩ (.slice none 0 0)).setCell ⟨w.heap.size, 4, none⟩ (.slice ko kn kc)) ⟨X, Y, lev l, none, 0, 0, ko, kn, kc⟩ l) := by
          refine (?_ : NodeAt (fun b => w.heap.size ≤ b) (d + 1) _ _ l)
          have hlt3 : w.heap.size < W2.heap.size := HG2s.out
          have hkl := kl_four l
          refine ⟨HX.out.symm, HY.out.symm, rfl, (fun h => by rw [HLf.out] at h; cases h), fun _ => ⟨rfl, Sl.nil 4 _, ks, hkn.symm, ?_, ?_, fun _ b off e => ?_, fun i h1 h2 => ?_⟩⟩
          · rw [← hkl]; exact hJ.len
          · refine Sl.same sk (by simp [World.setCell]) fun b off e _ => p2 b ?_
            have e' : ko = some ⟨b, off, none⟩ := e
            have hh : W2.heap.size ≤ b := (own_base hJ.own (by rw [e']; rfl)).1
            omega
          · have e' : ko = some ⟨b, off, none⟩ := e
            have hh : W2.heap.size ≤ b := (own_base hJ.own (by rw [e']; rfl)).1
            show w.heap.size ≤ b
            omega
          · have a := hJ.nodes i h1 h2
            exact (a.same (by simp [World.setCell]) fun b hG _ => p2 b (by have := hG.1; omega)).mono fun b _ hG => by have := hG.1; show w.heap.size ≤ b; omega
        clear p1 p2 p3 hg2 hg3 sk hkn hJ y0 y1 y2 y3 y4
        go_wp2_with fail
        refine bodyPost_ret (results_node rfl _ _ _ _ _ _ _ _ rfl HP1.out) rfl ⟨⟨X, Y, lev l, none, 0, 0, ko, kn, kc⟩, ?_, HN.out, HP3.out⟩
        rw [← HL.out]
set_option maxRecDepth 100000 in
theorem etree_any : ∀ (d : Nat) (l : List Rw) (o : Option Addr) (cap : Nat) (w : World), RowsAt w o cap l → On l → l.length ≤ 1000 → lev l < d →
    Calls Try.prog 34 #[.slice o l.length cap] w fun e w' => ∃ n : Nv, e = .returned (nv n) ∧ NodeAt (fun b => w.heap.size ≤ b) d w' n l ∧ Below w.heap.size w w'
  | 0, _, _, _, _, _, _, _, h => absurd h (by omega)
  | d + 1, l, o, cap, w, hr, hon, hmax, hd => by
    by_cases hne : l.length = 0
    · have : l = [] := List.eq_nil_of_length_eq_zero hne
      subst this
      exact etree_nil d o cap w
    · cases hlf : leaf l
      · exact etree_inner d (etree_any d) l o cap w hr hon hmax hlf hd
      · exact etree_leaf d l o cap w hr hon hmax (by omega) hlf
end Go.Proofs.Ytaiiclkfnahghaa.Rq
