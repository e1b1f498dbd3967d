/- Pages in plain terms; Decode. -/
import Derived.Test.YtljponlfjombaaaQIU
namespace Go.Proofs.Ytljponlfjombaaa.Rw
open Go.RowKit Go.Lib Go.Shelf
open Go.Proofs.Ytljponlfjombaaa.Rc Go.Proofs.Ytljponlfjombaaa.Rq
/-- A page, in plain terms. -/
structure Pp where
  k : Int
  X : Nat
  Y : Nat
  L : Int
  l : List Rw
  ks : List Rf
  np : Nat
  nt : ByteArray
def pz : Pp := ⟨0, 0, 0, 0, [], [], 0, ⟨#[]⟩⟩
def rpp (P : Pp) : Bool := rpage ⟨P.k, P.X, P.Y, P.L, none, P.l.length, 0, none, P.ks.length, 0, P.np, P.nt⟩ P.l P.ks
/-- A page in memory. -/
structure PAt (w : World) (q : Pg) (P : Pp) : Prop where
  k : q.k = P.k
  X : q.X = P.X
  Y : q.Y = P.Y
  L : q.L = P.L
  np : q.np = P.np
  nt : q.nt = P.nt
  at' : PgAt w q P.l P.ks
set_option maxRecDepth 100000 in
theorem PAt.below {w w' : World} {q : Pg} {P : Pp} {B : Nat} (h : PAt w q P) (hb : Below B w w') (hB : w.heap.size ≤ B) : PAt w' q P := ⟨h.k, h.X, h.Y, h.L, h.np, h.nt, h.at'.below hb hB⟩
set_option maxRecDepth 100000 in
theorem PAt.rpp {w : World} {q : Pg} {P : Pp} (h : PAt w q P) : rpage q P.l P.ks = rpp P := by
  unfold Rw.rpp rpage rleaf rinner
  simp only [h.k, h.X, h.Y, h.L, h.np, h.nt, h.at'.rn, h.at'.kn]
set_option maxRecDepth 100000 in
theorem right_p (q : Pg) (P : Pp) (w : World) (h : PAt w q P) :
    Calls Try.prog 13 #[gv q] w fun e w' => e = .returned (.bool (rpp P)) ∧ Below w.heap.size w w' := by
  rw [← h.rpp]
  exact pright_any q P.l P.ks w h.at'
/-- The page that is read. -/
def rdP (st : RS) : Pp :=
  if numS st 1 = 1 then ⟨1, 0, 0, 0, (lfL (aftS st 1)).1, [], (lfN (aftS st 1)).p, (lfN (aftS st 1)).t⟩
  else if numS st 1 = 2 then ⟨2, inX (aftS st 1), inY (aftS st 1), (inC (aftS st 1) : Int), [], (inL (aftS st 1)).1, 0, ⟨#[]⟩⟩
  else pz
set_option maxRecDepth 100000 in
theorem pgRead_at {st : RS} {base : Nat} {q : Pg} {w : World} (h : PgRead st base q w) : PAt w q (rdP st) := by
  unfold rdP
  rcases h with ⟨h1, ro, ca, rfl, ho⟩ | ⟨h1, ro, ca, rfl, ho⟩ | ⟨h1, h2, rfl⟩
  · rw [if_pos h1]
    obtain ⟨o, cap, e, hs⟩ := sl_of_own ho
    cases e
    exact ⟨rfl, rfl, rfl, rfl, rfl, rfl, ⟨by simp only []; omega, by simp only []; omega, rfl, hs, rfl, Sl.nil _ _⟩⟩
  · rw [if_neg (by omega), if_pos h1]
    obtain ⟨o, cap, e, hs⟩ := sl_of_own ho
    cases e
    have hx := numS_lt (aftS (aftS (aftS st 1) 1) 1) 4
    have hy := numS_lt (aftS (aftS (aftS (aftS st 1) 1) 1) 4) 4
    simp only [Nat.reduceMul, Nat.reducePow] at hx hy
    exact ⟨rfl, rfl, rfl, rfl, rfl, rfl, ⟨hx, hy, rfl, Sl.nil _ _, rfl, hs⟩⟩
  · rw [if_neg h1, if_neg h2]
    exact ⟨rfl, rfl, rfl, rfl, rfl, rfl, ⟨by decide, by decide, rfl, Sl.nil _ _, rfl, Sl.nil _ _⟩⟩
set_option maxRecDepth 100000 in
theorem pgRead_lies {st : RS} {base : Nat} {q : Pg} {w : World} (h : PgRead st base q w) : (∀ b off, q.ro = some ⟨b, off, none⟩ → base ≤ b) ∧ (∀ b off, q.ko = some ⟨b, off, none⟩ → base ≤ b) := by
  rcases h with ⟨h1, ro, ca, rfl, ho⟩ | ⟨h1, ro, ca, rfl, ho⟩ | ⟨h1, h2, rfl⟩
  · refine ⟨fun b off e => own_baseR ho ?_, fun b off e => ?_⟩
    · simp only at e; rw [e]; rfl
    · simp at e
  · refine ⟨fun b off e => ?_, fun b off e => own_baseF ho ?_⟩
    · simp at e
    · simp only at e; rw [e]; rfl
  · refine ⟨fun b off e => ?_, fun b off e => ?_⟩
    · simp at e
    · simp at e
set_option maxRecDepth 100000 in
theorem empty_not {s : ByteArray} (h : s ≠ ⟨#[]⟩) : s.toList.isEmpty = false := by
  cases e : s.toList.isEmpty
  · rfl
  · refine absurd ?_ h
    rw [List.isEmpty_iff] at e
    have h1 : s.toList = s.data.toList := ByteArray.toList_eq _
    rw [h1] at e
    cases s with
    | mk d => simp at e; rw [e]
set_option maxRecDepth 100000 in
theorem PAt.row {w : World} {q : Pg} {P : Pp} (h : PAt w q P) {g base : Nat} (cs : Array Value) (hr : ∀ b off, q.ro = some ⟨b, off, none⟩ → base ≤ b) (hk : ∀ b off, q.ko = some ⟨b, off, none⟩ → base ≤ b) (hg : g < base) : PAt (w.setRow g cs) q P := by
  refine ⟨h.k, h.X, h.Y, h.L, h.np, h.nt, ⟨h.at'.X32, h.at'.Y32, h.at'.rn, ?_, h.at'.kn, ?_⟩⟩
  · exact Sl.same h.at'.rows (by simp) fun b off e _ => setRow_other _ _ _ _ (by have := hr b off e; omega)
  · exact Sl.same h.at'.kids (by simp) fun b off e _ => setRow_other _ _ _ _ (by have := hk b off e; omega)
set_option maxRecDepth 100000 in
theorem below_row {B g : Nat} {w0 w : World} (hb : Below B w0 w) (hBg : B ≤ g) (cs : Array Value) : Below B w0 (w.setRow g cs) :=
  ⟨hb.os, hb.tape, hb.output, by rw [setRow_size]; exact hb.size, fun j hj => (setRow_other w g j cs (by omega)).trans (hb.block j hj)⟩
set_option maxRecDepth 100000 in
theorem pz_at (w : World) : PAt w ⟨0, 0, 0, 0, none, 0, 0, none, 0, 0, 0, ⟨#[]⟩⟩ pz := ⟨rfl, rfl, rfl, rfl, rfl, rfl, ⟨by decide, by decide, rfl, Sl.nil _ _, rfl, Sl.nil _ _⟩⟩
/-- Bytes as a page's. -/
def decOK (s : ByteArray) : Bool := !(pgE ⟨s, false⟩).s && (decide ((pgE ⟨s, false⟩).r = ⟨#[]⟩) && rpp (rdP ⟨s, false⟩))
def decP (s : ByteArray) : Pp := if decOK s = true then rdP ⟨s, false⟩ else pz
def decE (s : ByteArray) : Int := if decOK s = true then 0 else 90
set_option maxRecDepth 100000 in
theorem results_page2 {fn : Func} {p r : Tmp} (h : fn.results = #[.cell p 30, .tmp r]) (tmps : Array Value) (w : World) (g : Nat) (a b c d e f i j : Value) {t : TypeId} {fr : Nat × Nat} {v : Value}
    (hp : tmps.getD p undef = .pointer (some ⟨g, 0, none⟩)) (hr : tmps.getD r undef = v) (hg : w.heap[g]? = some (.cells #[a, b, c, d, e, f, i, j] t fr)) : (results fn tmps).run Try.prog w = .ok (.tuple #[.agg #[a, b, c, d, e, f, i, j], v]) w := by
  have hp' : tmps[p]?.getD undef = .pointer (some ⟨g, 0, none⟩) := by simpa using hp
  have hr' : tmps[r]?.getD undef = v := by simpa using hr
  have c0 : w.cell? ⟨g, 0, none⟩ = some a := by rw [cell_of_row _ _ _ _ _ _ hg]; rfl
  have c1 : w.cell? ⟨g, 1, none⟩ = some b := by rw [cell_of_row _ _ _ _ _ _ hg]; rfl
  have c2 : w.cell? ⟨g, 2, none⟩ = some c := by rw [cell_of_row _ _ _ _ _ _ hg]; rfl
  have c3 : w.cell? ⟨g, 3, none⟩ = some d := by rw [cell_of_row _ _ _ _ _ _ hg]; rfl
  have c4 : w.cell? ⟨g, 4, none⟩ = some e := by rw [cell_of_row _ _ _ _ _ _ hg]; rfl
  have c5 : w.cell? ⟨g, 5, none⟩ = some f := by rw [cell_of_row _ _ _ _ _ _ hg]; rfl
  have c6 : w.cell? ⟨g, 6, none⟩ = some i := by rw [cell_of_row _ _ _ _ _ _ hg]; rfl
  have c7 : w.cell? ⟨g, 7, none⟩ = some j := by rw [cell_of_row _ _ _ _ _ _ hg]; rfl
  simp [results, h, hp', hr', asAddr, go_sem, c0, c1, c2, c3, c4, c5, c6, c7]
set_option maxRecDepth 100000 in
set_option maxHeartbeats 1000000 in
theorem decode_any (s : ByteArray) (w : World) :
    Calls Try.prog 18 #[.string s] w fun e w' => ∃ q, e = .returned (.tuple #[gv q, .int .i64 (decE s)]) ∧ PAt w' q (decP s) ∧ Below w.heap.size w w' := by
  obtain ⟨W0, hW0⟩ : ∃ W0, (w.alloc (.cells #[.int .i64 0, .int .u32 0, .int .u32 0, .int .i64 0, .slice none 0 0, .slice none 0 0, .int .u32 0, .string ⟨#[]⟩] 30)).alloc (.cells #[.string s, .bool false] 56) = W0 := ⟨_, rfl⟩
  have HW0 : Hid _ := hW0
  have hb1 := below_new w (.cells #[.int .i64 0, .int .u32 0, .int .u32 0, .int .i64 0, .slice none 0 0, .slice none 0 0, .int .u32 0, .string ⟨#[]⟩] 30)
  have hb2 := below_new (w.alloc (.cells #[.int .i64 0, .int .u32 0, .int .u32 0, .int .i64 0, .slice none 0 0, .slice none 0 0, .int .u32 0, .string ⟨#[]⟩] 30)) (.cells #[.string s, .bool false] 56)
  have HG0 : Hid (W0.heap[w.heap.size]? = some (.cells #[.int .i64 0, .int .u32 0, .int .u32 0, .int .i64 0, .slice none 0 0, .slice none 0 0, .int .u32 0, .string ⟨#[]⟩] 30 (0, 0))) := by
    refine (?_ : W0.heap[w.heap.size]? = some (.cells #[.int .i64 0, .int .u32 0, .int .u32 0, .int .i64 0, .slice none 0 0, .slice none 0 0, .int .u32 0, .string ⟨#[]⟩] 30 (0, 0)))
    rw [← hW0]
    exact (hb2.block _ (by simp)).trans (heap_alloc_new w _)
  have HR0 : Hid (RdS (w.heap.size + 1) ⟨s, false⟩ W0) := by
    refine (?_ : RdS (w.heap.size + 1) ⟨s, false⟩ W0)
    have := heap_alloc_new (w.alloc (.cells #[.int .i64 0, .int .u32 0, .int .u32 0, .int .i64 0, .slice none 0 0, .slice none 0 0, .int .u32 0, .string ⟨#[]⟩] 30)) (.cells #[.string s, .bool false] 56)
    rw [hW0] at this
    simpa [RdS, Rd] using this
  have HB0 : Hid (Below w.heap.size w W0) := by
    refine (?_ : Below w.heap.size w W0)
    rw [← hW0]
    exact hb1.trans (hb2.mono hb1.size)
  have hs0 : W0.heap.size = w.heap.size + 2 := by rw [← hW0]; simp
  clear hW0 hb1 hb2
  have HPG : Hid (∀ _ : True, _) := fun _ => (page_any (w.heap.size + 1) ⟨s, false⟩ W0 HR0.out).mono (R' := fun e w' => ∃ q, e = .returned (gv q) ∧ PAt w' q (rdP ⟨s, false⟩) ∧ ((∀ b off, q.ro = some ⟨b, off, none⟩ → W0.heap.size ≤ b) ∧ (∀ b off, q.ko = some ⟨b, off, none⟩ → W0.heap.size ≤ b)) ∧ RdS (w.heap.size + 1) (pgE ⟨s, false⟩) w' ∧ Bo (w.heap.size + 1) W0 w') fun e w' h => by
    obtain ⟨q, h1, h2, h3⟩ := h
    exact ⟨q, h1, pgRead_at h2, pgRead_lies h2, h3⟩
  clear HR0
  have hdO : decOK s = (!(pgE ⟨s, false⟩).s && (decide ((pgE ⟨s, false⟩).r = ⟨#[]⟩) && rpp (rdP ⟨s, false⟩))) := rfl
  have hd0 : decOK s = false → decE s = 90 ∧ decP s = pz := fun h => by unfold decE decP; rw [h]; exact ⟨rfl, rfl⟩
  have hd1 : decOK s = true → decE s = 0 ∧ decP s = rdP ⟨s, false⟩ := fun h => by unfold decE decP; rw [h]; exact ⟨rfl, rfl⟩
  generalize decE s = dE at *
  generalize decP s = dP at *
  generalize decOK s = dO at *
  generalize pgE ⟨s, false⟩ = st at *
  obtain ⟨rest, sh⟩ := st
  generalize rdP ⟨s, false⟩ = PP at *
  simp only at hdO
  have HRT : Hid _ := fun q w' (h : PAt w' q PP) => right_p q PP w' h
  have HD : Hid (_ ∧ _ ∧ _) := ⟨hdO, hd0, hd1⟩
  clear hdO hd0 hd1
  go_enter Try.func18, Try.ntmps18
  go_wp2_with fail
  rw [HW0.out]
  clear HW0
  refine (HPG.out trivial).mono ?_
  rintro e w1 ⟨q, rfl, hq, hlie, r1, b1⟩
  have HL : Hid _ := hlie
  clear hlie
  have HP1 : Hid (PAt w1 q PP) := hq
  have HG1 : Hid (w1.heap[w.heap.size]? = some (.cells #[.int .i64 0, .int .u32 0, .int .u32 0, .int .i64 0, .slice none 0 0, .slice none 0 0, .int .u32 0, .string ⟨#[]⟩] 30 (0, 0))) := (b1.block _ (by omega) (by omega)).trans HG0.out
  have HB1 : Hid (Below w.heap.size w w1) := HB0.out.trans ⟨b1.os, b1.tape, b1.output, b1.size, fun j hj => b1.block j (by omega) (by omega)⟩
  have hs1 : w.heap.size + 1 < w1.heap.size := by have := b1.size; omega
  obtain ⟨k0, k1, -, -, -⟩ := rd_cells r1
  have hbn := below_new w1 (gcs q)
  have HP2 : Hid (PAt (w1.alloc (gcs q)) q PP) := HP1.out.below hbn (Nat.le_refl _)
  have HG2 : Hid ((w1.alloc (gcs q)).heap[w.heap.size]? = some (.cells #[.int .i64 0, .int .u32 0, .int .u32 0, .int .i64 0, .slice none 0 0, .slice none 0 0, .int .u32 0, .string ⟨#[]⟩] 30 (0, 0))) := (hbn.block _ (by omega)).trans HG1.out
  have HQ2 : Hid ((w1.alloc (gcs q)).heap[w1.heap.size]? = some (gcs q)) := heap_alloc_new w1 _
  have HB2 : Hid (Below w.heap.size w (w1.alloc (gcs q))) := HB1.out.trans (hbn.mono (by omega))
  have HC : Hid (∀ _ : True, _) := fun _ => HRT.out q _ HP2.out
  clear HG0 HB0 HP1 HG1 HB1 HPG hq r1 b1 hbn HRT
  obtain ⟨qk, qX, qY, qL, qro, qrn, qrc, qko, qkn, qkc, qnp, qnt⟩ := q
  simp only [gv, gcs] at *
  have hi : (Try.prog.info? 30).map (·.size) = some 8 := by kernel_rfl
  have HI : Hid _ := hi
  clear hi
  cases sh
  · by_cases hr : rest = ⟨#[]⟩
    · subst hr
      go_wp2_with fail
      refine (HC.out trivial).mono ?_
      rintro e w3 ⟨rfl, b3⟩
      have HG3 : Hid (w3.heap[w.heap.size]? = some (.cells #[.int .i64 0, .int .u32 0, .int .u32 0, .int .i64 0, .slice none 0 0, .slice none 0 0, .int .u32 0, .string ⟨#[]⟩] 30 (0, 0))) := (b3.block _ (Array.getElem?_eq_some_iff.1 HG2.out).1).trans HG2.out
      have hq3 := (b3.block _ (Array.getElem?_eq_some_iff.1 HQ2.out).1).trans HQ2.out
      have HB3 : Hid (Below w.heap.size w w3) := HB2.out.trans (b3.mono HB2.out.size)
      have HP3 : Hid (PAt w3 ⟨qk, qX, qY, qL, qro, qrn, qrc, qko, qkn, qkc, qnp, qnt⟩ PP) := HP2.out.below b3 (Nat.le_refl _)
      clear b3 HC HG2 HQ2 HB2 HP2
      cases hR : rpp PP
      · clear hq3
        go_wp2_with (refine wpList_store_row rfl 30 (.tmp 2) (.tmp 21) rfl w.heap.size #[.int .i64 0, .int .u32 0, .int .u32 0, .int .i64 0, .slice none 0 0, .slice none 0 0, .int .u32 0, .string ⟨#[]⟩] (by rfl) (by rfl) 30 #[.int .i64 0, .int .u32 0, .int .u32 0, .int .i64 0, .slice none 0 0, .slice none 0 0, .int .u32 0, .string ⟨#[]⟩] HG3.out HI.out (by rfl) (by kernel_rfl) ?_; rw [setRow_self _ _ _ _ _ HG3.out])
        have HF : Hid (dO = false) := by
          refine (?_ : dO = false)
          rw [HD.out.1]; simp [hR]
        refine bodyPost_ret (results_page2 rfl _ _ w.heap.size _ _ _ _ _ _ _ _ rfl rfl HG3.out) rfl ⟨⟨0, 0, 0, 0, none, 0, 0, none, 0, 0, 0, ⟨#[]⟩⟩, ?_, ?_, HB3.out⟩
        · rw [(HD.out.2.1 HF.out).1]; rfl
        · rw [(HD.out.2.1 HF.out).2]; exact pz_at _
      · obtain ⟨⟨c0, c1, c2, c3, c4, c5, c6, c7⟩, lB⟩ := pg_cells (q := ⟨qk, qX, qY, qL, qro, qrn, qrc, qko, qkn, qkc, qnp, qnt⟩) hq3
        simp only at c0 c1 c2 c3 c4 c5 c6 c7
        clear hq3
        have HF : Hid (dO = true) := by
          refine (?_ : dO = true)
          rw [HD.out.1]; simp [hR]
        go_wp2_with (refine wpList_store_row rfl 30 (.tmp 2) (.tmp 22) rfl w.heap.size #[.int .i64 qk, .int .u32 (qX : Int), .int .u32 (qY : Int), .int .i64 qL, .slice qro qrn qrc, .slice qko qkn qkc, .int .u32 (qnp : Int), .string qnt] (by rfl) (by rfl) 30 #[.int .i64 0, .int .u32 0, .int .u32 0, .int .i64 0, .slice none 0 0, .slice none 0 0, .int .u32 0, .string ⟨#[]⟩] HG3.out HI.out (by rfl) (by kernel_rfl) ?_)
        refine bodyPost_ret (results_page2 rfl _ _ w.heap.size _ _ _ _ _ _ _ _ rfl rfl (setRow_heap _ _ _ _ _ _ HG3.out)) rfl ⟨⟨qk, qX, qY, qL, qro, qrn, qrc, qko, qkn, qkc, qnp, qnt⟩, ?_, ?_, below_row HB3.out (Nat.le_refl _) _⟩
        · rw [(HD.out.2.2 HF.out).1]; rfl
        · rw [(HD.out.2.2 HF.out).2]; exact HP3.out.row _ HL.out.1 HL.out.2 (by omega)
    · have hne := empty_not hr
      go_wp2_with (refine wpList_store_row rfl 30 (.tmp 2) (.tmp 21) rfl w.heap.size #[.int .i64 0, .int .u32 0, .int .u32 0, .int .i64 0, .slice none 0 0, .slice none 0 0, .int .u32 0, .string ⟨#[]⟩] (by rfl) (by rfl) 30 #[.int .i64 0, .int .u32 0, .int .u32 0, .int .i64 0, .slice none 0 0, .slice none 0 0, .int .u32 0, .string ⟨#[]⟩] HG2.out HI.out (by rfl) (by kernel_rfl) ?_; rw [setRow_self _ _ _ _ _ HG2.out])
      have HF : Hid (dO = false) := by
        refine (?_ : dO = false)
        rw [HD.out.1]; simp [hr]
      refine bodyPost_ret (results_page2 rfl _ _ w.heap.size _ _ _ _ _ _ _ _ rfl rfl HG2.out) rfl ⟨⟨0, 0, 0, 0, none, 0, 0, none, 0, 0, 0, ⟨#[]⟩⟩, ?_, ?_, HB2.out⟩
      · rw [(HD.out.2.1 HF.out).1]; rfl
      · rw [(HD.out.2.1 HF.out).2]; exact pz_at _
  · go_wp2_with (refine wpList_store_row rfl 30 (.tmp 2) (.tmp 21) rfl w.heap.size #[.int .i64 0, .int .u32 0, .int .u32 0, .int .i64 0, .slice none 0 0, .slice none 0 0, .int .u32 0, .string ⟨#[]⟩] (by rfl) (by rfl) 30 #[.int .i64 0, .int .u32 0, .int .u32 0, .int .i64 0, .slice none 0 0, .slice none 0 0, .int .u32 0, .string ⟨#[]⟩] HG2.out HI.out (by rfl) (by kernel_rfl) ?_; rw [setRow_self _ _ _ _ _ HG2.out])
    have HF : Hid (dO = false) := by
      refine (?_ : dO = false)
      rw [HD.out.1]; simp 
    refine bodyPost_ret (results_page2 rfl _ _ w.heap.size _ _ _ _ _ _ _ _ rfl rfl HG2.out) rfl ⟨⟨0, 0, 0, 0, none, 0, 0, none, 0, 0, 0, ⟨#[]⟩⟩, ?_, ?_, HB2.out⟩
    · rw [(HD.out.2.1 HF.out).1]; rfl
    · rw [(HD.out.2.1 HF.out).2]; exact pz_at _
end Go.Proofs.Ytljponlfjombaaa.Rw
/- What is written and what is read, in plain terms: numbers, texts, refs, rows, lists. -/
namespace Go.Proofs.Ytljponlfjombaaa.Rw
open Go.RowKit Go.Lib Go.Shelf
open Go.Proofs.Ytljponlfjombaaa.Rc Go.Proofs.Ytljponlfjombaaa.Rq
/-- These bytes are left to be read. -/
def sT (c : List UInt8) : RS := ⟨⟨c.toArray⟩, false⟩
theorem sT_r (c : List UInt8) : (sT c).r = ⟨c.toArray⟩ := rfl
theorem sT_size (c : List UInt8) : (sT c).r.size = c.length := by simp [sT, ByteArray.size]
theorem ok_sT (c : List UInt8) (n : Nat) : okN (sT c) n = decide (n ≤ c.length) := by unfold okN; rw [sT_size]; simp [sT]
theorem txt_sT {c : List UInt8} {n : Nat} (h : n ≤ c.length) : txtS (sT c) n = ⟨(c.take n).toArray⟩ := by
  unfold txtS; rw [ok_sT, if_pos (by simpa using h), sT_r, ByteArray.extract_mk]; simp
theorem aft_sT {c : List UInt8} {n : Nat} (h : n ≤ c.length) : aftS (sT c) n = sT (c.drop n) := by
  unfold aftS; rw [ok_sT, if_pos (by simpa using h), sT_size, sT_r, ByteArray.extract_mk]
  unfold sT
  rw [List.take_of_length_le (by simp)]
theorem num_sT {c : List UInt8} {n : Nat} (h : n ≤ c.length) : numS (sT c) n = valB ⟨(c.take n).toArray⟩ n := by
  unfold numS; rw [ok_sT, if_pos (by simpa using h), sT_r, ByteArray.extract_mk]; simp
theorem aft_short {st : RS} {n : Nat} (h : (aftS st n).s = false) : st.s = false ∧ n ≤ st.r.size := by
  unfold aftS at h
  cases hk : okN st n
  · rw [hk] at h; simp at h
  · exact okN_yes hk
theorem aft_no {st : RS} (n : Nat) (h : st.s = true) : (aftS st n).s = true := by
  cases hk : (aftS st n).s
  · have := (aft_short hk).1; rw [h] at this; cases this
  · rfl
theorem aft_sT_len {c : List UInt8} {n : Nat} (h : (aftS (sT c) n).s = false) : n ≤ c.length := by
  have := (aft_short h).2; rwa [sT_size] at this
/-- A number by its bytes, and back. -/
theorem bt_of (c : List UInt8) (i : Nat) : bt ⟨c.toArray⟩ i = (c[i]?.getD 0).toNat := by unfold bt; simp
theorem valB_lef (v : Nat) (n : Nat) : ∀ k, k ≤ n → valB ⟨(lef v n).toArray⟩ k = v % 2 ^ (8 * k)
  | 0, _ => by simp [valB, Nat.mod_one]
  | k + 1, h => by
    rw [valB, valB_lef v n k (by omega), bt_of]
    have : (lef v n)[k]? = some (lb v k) := by
      unfold lef
      rw [List.getElem?_map, List.getElem?_range (by omega)]; rfl
    rw [this]
    have e : (lb v k).toNat = v / 2 ^ (8 * k) % 256 := by unfold lb; simp
    simp only [Option.getD_some, e]
    rw [show 8 * (k + 1) = 8 * k + 8 by omega, Nat.pow_add, Nat.mod_mul, Nat.mul_comm (2 ^ (8 * k))]
theorem lef_val (c : List UInt8) : ∀ k, k ≤ c.length → ∀ n, k ≤ n → n ≤ c.length → ∀ j, j < k → lb (valB ⟨c.toArray⟩ n) j = c[j]?.getD 0 := by
  intro k hk n hn hnl j hj
  have key : ∀ m, j < m → valB ⟨c.toArray⟩ m / 2 ^ (8 * j) % 256 = bt ⟨c.toArray⟩ j := by
    intro m
    induction m with
    | zero => intro h; omega
    | succ m ih =>
      intro h
      rw [valB]
      have hp : 0 < 2 ^ (8 * j) := Nat.pow_pos (by decide)
      by_cases e : j = m
      · subst e
        have h1 := valB_lt ⟨c.toArray⟩ j
        have h2 := bt_lt ⟨c.toArray⟩ j
        rw [Nat.add_mul_div_right _ _ hp, Nat.div_eq_of_lt h1, Nat.zero_add, Nat.mod_eq_of_lt h2]
      · have hm : j < m := by omega
        obtain ⟨d, hd⟩ : ∃ d, m = j + 1 + d := ⟨m - j - 1, by omega⟩
        have e2 : bt ⟨c.toArray⟩ m * 2 ^ (8 * m) = (bt ⟨c.toArray⟩ m * 2 ^ (8 * d) * 256) * 2 ^ (8 * j) := by
          rw [hd, show 8 * (j + 1 + d) = 8 * d + 8 + 8 * j by omega, Nat.pow_add, Nat.pow_add]
          simp only [Nat.mul_assoc]
        rw [e2, Nat.add_mul_div_right _ _ hp, Nat.add_mul_mod_self_right, ih hm]
  unfold lb
  rw [key n (by omega), bt_of]
  simp
theorem lef_of (c : List UInt8) (n : Nat) (h : c.length = n) : lef (valB ⟨c.toArray⟩ n) n = c := by
  refine List.ext_getElem? fun j => ?_
  unfold lef
  rw [List.getElem?_map]
  by_cases hj : j < n
  · rw [List.getElem?_range hj]
    simp only [Option.map_some]
    rw [lef_val c n (by omega) n (Nat.le_refl _) (by omega) j hj, List.getElem?_eq_getElem (by omega)]
    rfl
  · rw [List.getElem?_eq_none (by simp; omega), List.getElem?_eq_none (by omega)]; rfl
/-- What is read back is what was written, and what was read is what is written. -/
theorem num_back {v n : Nat} (hv : v < 2 ^ (8 * n)) (t : List UInt8) : numS (sT (lef v n ++ t)) n = v ∧ aftS (sT (lef v n ++ t)) n = sT t := by
  have hl : n ≤ (lef v n ++ t).length := by rw [List.length_append, lef_len]; omega
  rw [num_sT hl, aft_sT hl, List.take_append_of_le_length (by rw [lef_len]; exact Nat.le_refl _), List.take_of_length_le (by rw [lef_len]; exact Nat.le_refl _), valB_lef v n n (Nat.le_refl _), Nat.mod_eq_of_lt hv]
  refine ⟨rfl, ?_⟩
  rw [List.drop_append_of_le_length (by rw [lef_len]; exact Nat.le_refl _), List.drop_of_length_le (by rw [lef_len]; exact Nat.le_refl _), List.nil_append]
theorem num_fore {c : List UInt8} {n : Nat} (h : (aftS (sT c) n).s = false) : ∃ t, c = lef (numS (sT c) n) n ++ t ∧ aftS (sT c) n = sT t := by
  have hl := aft_sT_len h
  refine ⟨c.drop n, ?_, aft_sT hl⟩
  rw [num_sT hl, lef_of _ _ (by rw [List.length_take]; omega), List.take_append_drop]
theorem txt_back (v : ByteArray) {n : Nat} (hn : v.size = n) (t : List UInt8) : txtS (sT (v.data.toList ++ t)) n = v ∧ aftS (sT (v.data.toList ++ t)) n = sT t := by
  have hs : v.data.toList.length = n := by rw [← hn, Array.length_toList]; rfl
  have hl : n ≤ (v.data.toList ++ t).length := by rw [List.length_append]; omega
  rw [txt_sT hl, aft_sT hl, List.take_append_of_le_length (by omega), List.take_of_length_le (by omega), List.drop_append_of_le_length (by omega), List.drop_of_length_le (by omega), List.nil_append]
  exact ⟨rfl, rfl⟩
theorem txt_fore {c : List UInt8} {n : Nat} (h : (aftS (sT c) n).s = false) : ∃ t, c = (txtS (sT c) n).data.toList ++ t ∧ aftS (sT c) n = sT t ∧ (txtS (sT c) n).size = n := by
  have hl := aft_sT_len h
  refine ⟨c.drop n, ?_, aft_sT hl, ?_⟩
  · rw [txt_sT hl]; simp
  · rw [txt_sT hl]; simp [ByteArray.size]; omega
end Go.Proofs.Ytljponlfjombaaa.Rw
/- What is written and what is read, in plain terms: refs, rows, lists, pages. -/
namespace Go.Proofs.Ytljponlfjombaaa.Rw
open Go.RowKit Go.Lib Go.Shelf
open Go.Proofs.Ytljponlfjombaaa.Rc Go.Proofs.Ytljponlfjombaaa.Rq
theorem Rf.eq {a b : Rf} (h1 : a.p = b.p) (h2 : a.t = b.t) : a = b := by cases a; cases b; simp only at h1 h2; subst h1 h2; rfl
/-- Refs. -/
def okRef (r : Rf) : Prop := r.p < 4294967296 ∧ (noRef r.p r.t = true ∨ rref r.p r.t = true)
theorem refB_no {p : Nat} {t : ByteArray} (h : noRef p t = true) : refB p t = lef 0 4 ++ noTag.data.toList := by
  unfold refB
  rw [if_pos h]
  unfold noRef at h
  simp only [Bool.and_eq_true, decide_eq_true_eq] at h
  rw [h.1]
theorem refB_yes {p : Nat} {t : ByteArray} (h : noRef p t = false) : refB p t = lef p 4 ++ t.data.toList := by
  unfold refB
  rw [if_neg (by rw [h]; simp)]
theorem rref_some {p : Nat} {t : ByteArray} (h : rref p t = true) : 2 ≤ p ∧ t.size = 32 := by
  unfold rref at h
  simpa using h
theorem noTag_size : noTag.size = 32 := by decide
theorem no_size {p : Nat} {t : ByteArray} (h : t.size = 32) : noRef p t = false := by
  unfold noRef
  have : t ≠ ⟨#[]⟩ := fun e => by rw [e] at h; cases h
  simp [this]
theorem noRef_some {p : Nat} {t : ByteArray} (h : noRef p t = true) : p = 0 ∧ t = ⟨#[]⟩ := by
  unfold noRef at h
  simpa using h
theorem ref_back {r : Rf} (h : okRef r) (t : List UInt8) : refS (sT (refB r.p r.t ++ t)) = r ∧ f2S (sT (refB r.p r.t ++ t)) = sT t := by
  unfold refS f2S
  rcases h with ⟨h32, h | h⟩
  · rw [refB_no h, List.append_assoc]
    obtain ⟨a1, a2⟩ := num_back (v := 0) (n := 4) (by decide) (noTag.data.toList ++ t)
    obtain ⟨b1, b2⟩ := txt_back noTag noTag_size t
    rw [a1, a2, b1, b2]
    have e := noRef_some h
    refine ⟨?_, rfl⟩
    rw [if_pos (by unfold isNo; simp)]
    exact Rf.eq e.1.symm e.2.symm
  · obtain ⟨e1, e2⟩ := rref_some h
    rw [refB_yes (no_size e2), List.append_assoc]
    obtain ⟨a1, a2⟩ := num_back (v := r.p) (n := 4) (by simpa using h32) (r.t.data.toList ++ t)
    obtain ⟨b1, b2⟩ := txt_back r.t e2 t
    rw [a1, a2, b1, b2]
    refine ⟨?_, rfl⟩
    rw [if_neg]
    unfold isNo
    have : r.p ≠ 0 := by omega
    simp [this]
theorem ref_fore {c : List UInt8} (h : (f2S (sT c)).s = false) : ∃ t, c = refB (refS (sT c)).p (refS (sT c)).t ++ t ∧ f2S (sT c) = sT t ∧ (refS (sT c)).p < 4294967296 := by
  have h4 := (aft_short h).1
  obtain ⟨t1, e1, a1⟩ := num_fore h4
  have hn := numS_lt (sT c) 4
  simp only [Nat.reduceMul, Nat.reducePow] at hn
  unfold f2S at h ⊢
  rw [a1] at h ⊢
  obtain ⟨t2, e2, a2, z2⟩ := txt_fore h
  have hrf : refS (sT c) = if isNo (numS (sT c) 4) (txtS (sT t1) 32) = true then ⟨0, ⟨#[]⟩⟩ else ⟨numS (sT c) 4, txtS (sT t1) 32⟩ := by unfold refS; rw [a1]
  rw [hrf]
  generalize numS (sT c) 4 = n at *
  generalize txtS (sT t1) 32 = x at *
  refine ⟨t2, ?_, a2, ?_⟩
  · by_cases hi : isNo n x = true
    · rw [if_pos hi, refB_no (by decide), List.append_assoc]
      unfold isNo at hi
      simp only [Bool.and_eq_true, decide_eq_true_eq] at hi
      rw [e1, e2, hi.1, hi.2]
    · rw [if_neg hi, refB_yes (no_size z2), List.append_assoc, ← e2]; exact e1
  · split
    · decide
    · exact hn
/-- Rows. -/
theorem Rw.eq {a b : Rw} (h1 : a.id = b.id) (h2 : a.x = b.x) (h3 : a.y = b.y) (h4 : a.v = b.v) : a = b := by cases a; cases b; simp only at h1 h2 h3 h4; subst h1 h2 h3 h4; rfl
theorem row_back {r : Rw} (h : okRow r) (hv : r.v.size < 256) (t : List UInt8) : rowS (sT (rowB r ++ t)) = r ∧ r5S (sT (rowB r ++ t)) = sT t := by
  unfold rowS r5S r4S r3S r2S r1S rowB
  simp only [List.append_assoc]
  obtain ⟨a1, a2⟩ := num_back (v := r.id) (n := 8) (by simpa using h.1) (lef r.x 4 ++ (lef r.y 4 ++ (lef r.v.size 1 ++ (r.v.data.toList ++ t))))
  obtain ⟨b1, b2⟩ := num_back (v := r.x) (n := 4) (by simpa using h.2.1) (lef r.y 4 ++ (lef r.v.size 1 ++ (r.v.data.toList ++ t)))
  obtain ⟨c1, c2⟩ := num_back (v := r.y) (n := 4) (by simpa using h.2.2) (lef r.v.size 1 ++ (r.v.data.toList ++ t))
  obtain ⟨d1, d2⟩ := num_back (v := r.v.size) (n := 1) (by simpa using hv) (r.v.data.toList ++ t)
  obtain ⟨f1, f2⟩ := txt_back r.v rfl t
  rw [a1, a2, b1, b2, c1, c2, d1, d2, f1, f2]
  exact ⟨rfl, rfl⟩
theorem row_fore {c : List UInt8} (h : (r5S (sT c)).s = false) : ∃ t, c = rowB (rowS (sT c)) ++ t ∧ r5S (sT c) = sT t ∧ okRow (rowS (sT c)) := by
  have h4 : (r4S (sT c)).s = false := (aft_short h).1
  have h3 : (r3S (sT c)).s = false := (aft_short h4).1
  have h2 : (r2S (sT c)).s = false := (aft_short h3).1
  have h1 : (r1S (sT c)).s = false := (aft_short h2).1
  obtain ⟨t1, e1, a1⟩ := num_fore h1
  have E1 : r1S (sT c) = sT t1 := a1
  unfold r2S at h2; rw [E1] at h2
  obtain ⟨t2, e2, a2⟩ := num_fore h2
  have E2 : r2S (sT c) = sT t2 := by unfold r2S; rw [E1]; exact a2
  unfold r3S at h3; rw [E2] at h3
  obtain ⟨t3, e3, a3⟩ := num_fore h3
  have E3 : r3S (sT c) = sT t3 := by unfold r3S; rw [E2]; exact a3
  unfold r4S at h4; rw [E3] at h4
  obtain ⟨t4, e4, a4⟩ := num_fore h4
  have E4 : r4S (sT c) = sT t4 := by unfold r4S; rw [E3]; exact a4
  unfold r5S at h ⊢
  rw [E3, E4] at h ⊢
  obtain ⟨t5, e5, a5, z5⟩ := txt_fore h
  have hrw : rowS (sT c) = ⟨numS (sT c) 8, numS (sT t1) 4, numS (sT t2) 4, txtS (sT t4) (numS (sT t3) 1)⟩ := by unfold rowS; rw [E1, E2, E3, E4]
  have b1 := numS_lt (sT c) 8
  have b2 := numS_lt (sT t1) 4
  have b3 := numS_lt (sT t2) 4
  simp only [Nat.reduceMul, Nat.reducePow] at b1 b2 b3
  rw [hrw]
  refine ⟨t5, ?_, a5, b1, b2, b3⟩
  unfold rowB
  simp only [List.append_assoc]
  rw [z5, ← e5, ← e4, ← e3, ← e2, ← e1]
/-- Lists. -/
theorem lst_back {α : Type} (f : RS → α) (nx : RS → RS) (enc : α → List UInt8) (t : List UInt8) : ∀ (l : List α), (∀ a ∈ l, ∀ t, f (sT (enc a ++ t)) = a ∧ nx (sT (enc a ++ t)) = sT t) → lstS f nx l.length (sT (l.flatMap enc ++ t)) = (l, sT t)
  | [], _ => rfl
  | a :: l, h => by
    obtain ⟨h1, h2⟩ := h a (by simp) (l.flatMap enc ++ t)
    have ih := lst_back f nx enc t l fun b hb => h b (by simp [hb])
    rw [List.flatMap_cons, List.append_assoc, List.length_cons, lst_go (by rw [h2]; rfl), h1, h2, ih]
theorem lst_fore {α : Type} (f : RS → α) (nx : RS → RS) (enc : α → List UInt8) (ok : α → Prop) (hs : ∀ st, (nx st).s = false → st.s = false) (h : ∀ c, (nx (sT c)).s = false → ∃ t, c = enc (f (sT c)) ++ t ∧ nx (sT c) = sT t ∧ ok (f (sT c))) :
    ∀ (n : Nat) (c : List UInt8), (lstS f nx n (sT c)).2.s = false → ∃ t, c = (lstS f nx n (sT c)).1.flatMap enc ++ t ∧ (lstS f nx n (sT c)).2 = sT t ∧ (lstS f nx n (sT c)).1.length = n ∧ ∀ a ∈ (lstS f nx n (sT c)).1, ok a
  | 0, c, _ => ⟨c, rfl, rfl, rfl, fun a ha => by simp [lstS] at ha⟩
  | n + 1, c, hk => by
    cases hx : (nx (sT c)).s
    · obtain ⟨t1, e1, a1, o1⟩ := h c hx
      rw [lst_go hx] at hk ⊢
      simp only at hk ⊢
      rw [a1] at hk ⊢
      obtain ⟨t2, e2, a2, l2, o2⟩ := lst_fore f nx enc ok hs h n t1 hk
      refine ⟨t2, ?_, a2, by simp [l2], fun a ha => ?_⟩
      · rw [List.flatMap_cons, List.append_assoc, ← e2]; exact e1
      · rcases List.mem_cons.1 ha with rfl | ha
        · exact o1
        · exact o2 a ha
    · rw [lst_stop hx] at hk
      rw [hx] at hk; cases hk
theorem lst_short {α : Type} (f : RS → α) (nx : RS → RS) (hs : ∀ st, (nx st).s = false → st.s = false) : ∀ (n : Nat) (st : RS), (lstS f nx n st).2.s = false → st.s = false
  | 0, st, h => h
  | n + 1, st, h => by
    cases hx : (nx st).s
    · exact hs st hx
    · rw [lst_stop hx] at h
      rw [hx] at h; cases h
end Go.Proofs.Ytljponlfjombaaa.Rw
