/- Open. -/
import Derived.Test.YtheheaflebkipaaGreatDoorQWG
namespace Go.Proofs.YtheheaflebkipaaGreatDoor.Rs
open Go.RowKit Go.Lib
/-- The head at a block's beginning. -/
def hB (b : ByteArray) : Hd := gv (b.extract 0 24)
/-- What Open tells: its error, its head, its text. -/
def oE (Kt : Nat → Int) (l : List Rk.Ky) (b : ByteArray) : Int :=
  if Rk.rightS l = true then if b.size = 256 then if gk (b.extract 0 24) = true then if Rk.feS l (hB b).2.1 = 0 then if tk Kt (Rk.fkS l (hB b).2.1) (hB b) b = true then 0 else 61 else Rk.feS l (hB b).2.1 else 61 else 61 else 40
def oH (Kt : Nat → Int) (l : List Rk.Ky) (b : ByteArray) : Hd := if oE Kt l b = 0 then hB b else zh
def oS (Kt : Nat → Int) (l : List Rk.Ky) (b : ByteArray) : ByteArray := if oE Kt l b = 0 then tv Kt (Rk.fkS l (hB b).2.1) (hB b) b else ⟨#[]⟩
set_option maxRecDepth 100000 in
theorem results_open {fn : Func} {p u v : Tmp} (h : fn.results = #[.cell p 103, .tmp u, .tmp v]) (tmps : Array Value) (w : World) (g : Nat) (k : Hd) {t : TypeId} {fr : Nat × Nat}
    (hp : tmps.getD p undef = .pointer (some ⟨g, 0, none⟩)) (hg : w.heap[g]? = some (.cells #[.int .u32 k.1, .int .u32 k.2.1, .int .u32 k.2.2.1, .int .u64 k.2.2.2] t fr)) : (results fn tmps).run Tryz.prog w = .ok (.tuple #[hv k, tmps.getD u undef, tmps.getD v undef]) w := by
  have hp' : tmps[p]?.getD undef = .pointer (some ⟨g, 0, none⟩) := by simpa using hp
  simp [results, h, hp', asAddr, run_loadVar_row w g t 103 _ fr _ hg Tryz.underlying103 rfl (by kernel_rfl), hv]
set_option maxRecDepth 100000 in
set_option maxHeartbeats 2000000 in
theorem open_any (Kt : Nat → Int) (l : List Rk.Ky) (o : Option Addr) (cap : Nat) (b : ByteArray) (w : World) (hr : Rk.Ring w o cap l) (hT : Tb Kt w) :
    Calls Tryz.prog 82 #[.slice o l.length cap, .string b] w fun e w' => e = .returned (.tuple #[hv (oH Kt l b), .string (oS Kt l b), .int .i64 (oE Kt l b)]) ∧ Below w.heap.size w w' := by
  have HRi : Hid (∀ W, Rk.Ring W o cap l → Calls Tryz.prog 83 #[.slice o l.length cap] W fun e w' => e = .returned (.bool (Rk.rightS l)) ∧ Below W.heap.size W w') := fun W hW => Rk.right_any l o cap W hW
  have HG : Hid (∀ W, Calls Tryz.prog 107 #[.string (b.extract 0 24)] W fun e w' => e = .returned (.tuple #[hv (hB b), .bool (gk (b.extract 0 24))]) ∧ Below W.heap.size W w') := get_any (b.extract 0 24)
  have HF : Hid (∀ W, Rk.Ring W o cap l → Calls Tryz.prog 57 #[.slice o l.length cap, .int .u32 (hB b).2.1] W fun e w' => e = .returned (.tuple #[Rk.kv (Rk.fkS l (hB b).2.1), .int .i64 (Rk.feS l (hB b).2.1)]) ∧ Below W.heap.size W w') := fun W hW => Rk.find_any l (hB b).2.1 o cap W hW
  have HX : Hid (Rk.feS l (hB b).2.1 = 0 → b.size = 256 → ∀ W, Tb Kt W → Calls Tryz.prog 108 #[Rk.kv (Rk.fkS l (hB b).2.1), hv (hB b), .string b] W fun e w' => e = .returned (.tuple #[.string (tv Kt (Rk.fkS l (hB b).2.1) (hB b) b), .bool (tk Kt (Rk.fkS l (hB b).2.1) (hB b) b)]) ∧ Below W.heap.size W w') := fun h0 hs W hW =>
    text_any Kt _ (fe_zero l _ h0).2.2.2 (hB b) (gv_fits _) b hs W hW
  have HQ : Hid (Rk.feS l (hB b).2.1 = 0 ∨ Rk.feS l (hB b).2.1 = 40 ∨ Rk.feS l (hB b).2.1 = 41) := fe_cases l _
  have HEX : Hid (b.size = 256 → ∀ w, (Instr.sliceAt 9 (.string b) none (some (.int .i64 24)) none).run Tryz.prog w = .ok (.string (b.extract 0 24)) w) := fun h => ext256n b h 24 (by omega)
  have HR : Hid (Rk.Ring w o cap l) := hr
  have HT : Hid (Tb Kt w) := hT
  have HV : Hid ((Rk.rightS l = false ∧ oE Kt l b = 40 ∧ oH Kt l b = zh ∧ oS Kt l b = ⟨#[]⟩) ∨ (Rk.rightS l = true ∧ b.size ≠ 256 ∧ oE Kt l b = 61 ∧ oH Kt l b = zh ∧ oS Kt l b = ⟨#[]⟩) ∨ (Rk.rightS l = true ∧ b.size = 256 ∧ gk (b.extract 0 24) = false ∧ oE Kt l b = 61 ∧ oH Kt l b = zh ∧ oS Kt l b = ⟨#[]⟩)
    ∨ (Rk.rightS l = true ∧ b.size = 256 ∧ gk (b.extract 0 24) = true ∧ Rk.feS l (hB b).2.1 ≠ 0 ∧ oE Kt l b = Rk.feS l (hB b).2.1 ∧ oH Kt l b = zh ∧ oS Kt l b = ⟨#[]⟩)
    ∨ (Rk.rightS l = true ∧ b.size = 256 ∧ gk (b.extract 0 24) = true ∧ Rk.feS l (hB b).2.1 = 0 ∧ tk Kt (Rk.fkS l (hB b).2.1) (hB b) b = false ∧ oE Kt l b = 61 ∧ oH Kt l b = zh ∧ oS Kt l b = ⟨#[]⟩)
    ∨ (Rk.rightS l = true ∧ b.size = 256 ∧ gk (b.extract 0 24) = true ∧ Rk.feS l (hB b).2.1 = 0 ∧ tk Kt (Rk.fkS l (hB b).2.1) (hB b) b = true ∧ oE Kt l b = 0 ∧ oH Kt l b = hB b ∧ oS Kt l b = tv Kt (Rk.fkS l (hB b).2.1) (hB b) b)) := by
    refine (?_ : (_ ∧ _) ∨ _)
    unfold oH oS oE
    cases hR : Rk.rightS l
    · left; simp
    · right
      by_cases hz : b.size = 256
      · right
        cases hg : gk (b.extract 0 24)
        · left; simp [hz]
        · right
          by_cases hf : Rk.feS l (hB b).2.1 = 0
          · right
            cases ht : tk Kt (Rk.fkS l (hB b).2.1) (hB b) b
            · left; simp [hz, hf]
            · right; simp [hz, hf]
          · left; simp [hz, hf]
      · left; simp [hz]
  clear hr hT
  generalize tv Kt (Rk.fkS l (hB b).2.1) (hB b) b = tvv at *
  generalize tk Kt (Rk.fkS l (hB b).2.1) (hB b) b = tkk at *
  generalize hk : Rk.fkS l (hB b).2.1 = k at *
  generalize Rk.feS l (hB b).2.1 = fe at *
  clear hk
  generalize oE Kt l b = oe at *
  generalize oS Kt l b = os at *
  generalize oH Kt l b = oh at *
  generalize hB b = hb at *
  generalize gk (b.extract 0 24) = gkk at *
  generalize b.extract 0 24 = x at *
  generalize Rk.rightS l = ri at *
  obtain ⟨kg, ks⟩ := k
  obtain ⟨a, b', c, d⟩ := hb
  rcases HV.out with ⟨rfl, rfl, rfl, rfl⟩ | ⟨rfl, hz, rfl, rfl, rfl⟩ | ⟨rfl, hz, rfl, rfl, rfl, rfl⟩ | ⟨rfl, hz, rfl, h0, rfl, rfl, rfl⟩ | ⟨rfl, hz, rfl, rfl, rfl, rfl, rfl, rfl⟩ | ⟨rfl, hz, rfl, rfl, rfl, rfl, rfl, rfl⟩
  · clear HV
    unfold hv Rk.kv at *
    simp only at HG HF HX ⊢
    go_enter Tryz.func82, Tryz.ntmps82
    go_wp2_with fail
    obtain ⟨w1, hw1⟩ : ∃ w1, w.alloc (.cells #[.int .u32 0, .int .u32 0, .int .u32 0, .int .u64 0] 103) = w1 := ⟨_, rfl⟩
    have D1 : Hid (Below w.heap.size w w1) := by rw [← hw1]; exact (Below.refl _ w).alloc (Nat.le_refl _) _
    have Z1 : Hid (w1.heap[w.heap.size]? = some (.cells #[.int .u32 0, .int .u32 0, .int .u32 0, .int .u64 0] 103 (0, 0))) := by rw [← hw1]; exact heap_alloc_new w _
    rw [hw1]
    clear hw1
    refine (HRi.out w1 (HR.out.below D1.out (Nat.le_refl _))).mono ?_
    rintro e w2 ⟨rfl, b2⟩
    have D2 : Hid (Below w.heap.size w w2) := D1.out.trans (b2.mono D1.out.size)
    have Z2 : Hid (w2.heap[w.heap.size]? = some (.cells #[.int .u32 0, .int .u32 0, .int .u32 0, .int .u64 0] 103 (0, 0))) := (b2.block _ (Array.getElem?_eq_some_iff.1 Z1.out).1).trans Z1.out
    clear b2 D1 Z1 HRi
    go_wp2_with (refine wpList_store_row rfl 103 _ _ rfl w.heap.size _ rfl rfl 103 _ Z2.out (by kernel_rfl) rfl (by simp [Value.oneCell']) ?_)
    refine bodyPost_ret (results_open rfl _ _ w.heap.size zh rfl (setRow_heap _ _ _ _ _ _ Z2.out)) rfl ?_
    exact ⟨rfl, below_setRow D2.out (Nat.le_refl _) _⟩
  · clear HV
    unfold hv Rk.kv at *
    simp only at HG HF HX ⊢
    go_enter Tryz.func82, Tryz.ntmps82
    go_wp2_with fail
    obtain ⟨w1, hw1⟩ : ∃ w1, w.alloc (.cells #[.int .u32 0, .int .u32 0, .int .u32 0, .int .u64 0] 103) = w1 := ⟨_, rfl⟩
    have D1 : Hid (Below w.heap.size w w1) := by rw [← hw1]; exact (Below.refl _ w).alloc (Nat.le_refl _) _
    have Z1 : Hid (w1.heap[w.heap.size]? = some (.cells #[.int .u32 0, .int .u32 0, .int .u32 0, .int .u64 0] 103 (0, 0))) := by rw [← hw1]; exact heap_alloc_new w _
    rw [hw1]
    clear hw1
    refine (HRi.out w1 (HR.out.below D1.out (Nat.le_refl _))).mono ?_
    rintro e w2 ⟨rfl, b2⟩
    have D2 : Hid (Below w.heap.size w w2) := D1.out.trans (b2.mono D1.out.size)
    have Z2 : Hid (w2.heap[w.heap.size]? = some (.cells #[.int .u32 0, .int .u32 0, .int .u32 0, .int .u64 0] 103 (0, 0))) := (b2.block _ (Array.getElem?_eq_some_iff.1 Z1.out).1).trans Z1.out
    clear b2 D1 Z1 HRi
    have q2 : ((b.size : Int) != 256) = true := by simp; omega
    go_wp2_with (refine wpList_store_row rfl 103 _ _ rfl w.heap.size _ rfl rfl 103 _ Z2.out (by kernel_rfl) rfl (by simp [Value.oneCell']) ?_)
    refine bodyPost_ret (results_open rfl _ _ w.heap.size zh rfl (setRow_heap _ _ _ _ _ _ Z2.out)) rfl ?_
    exact ⟨rfl, below_setRow D2.out (Nat.le_refl _) _⟩
  · clear HV
    unfold hv Rk.kv at *
    simp only at HG HF HX ⊢
    go_enter Tryz.func82, Tryz.ntmps82
    go_wp2_with fail
    obtain ⟨w1, hw1⟩ : ∃ w1, w.alloc (.cells #[.int .u32 0, .int .u32 0, .int .u32 0, .int .u64 0] 103) = w1 := ⟨_, rfl⟩
    have D1 : Hid (Below w.heap.size w w1) := by rw [← hw1]; exact (Below.refl _ w).alloc (Nat.le_refl _) _
    have Z1 : Hid (w1.heap[w.heap.size]? = some (.cells #[.int .u32 0, .int .u32 0, .int .u32 0, .int .u64 0] 103 (0, 0))) := by rw [← hw1]; exact heap_alloc_new w _
    rw [hw1]
    clear hw1
    refine (HRi.out w1 (HR.out.below D1.out (Nat.le_refl _))).mono ?_
    rintro e w2 ⟨rfl, b2⟩
    have D2 : Hid (Below w.heap.size w w2) := D1.out.trans (b2.mono D1.out.size)
    have Z2 : Hid (w2.heap[w.heap.size]? = some (.cells #[.int .u32 0, .int .u32 0, .int .u32 0, .int .u64 0] 103 (0, 0))) := (b2.block _ (Array.getElem?_eq_some_iff.1 Z1.out).1).trans Z1.out
    clear b2 D1 Z1 HRi
    have q2 : (b.size : Int) = 256 := by omega
    have ex := HEX.out hz
    go_wp2_with fail
    refine (HG.out w2).mono ?_
    rintro e w3 ⟨rfl, b3⟩
    have D3 : Hid (Below w.heap.size w w3) := D2.out.trans (b3.mono D2.out.size)
    have Z3 : Hid (w3.heap[w.heap.size]? = some (.cells #[.int .u32 0, .int .u32 0, .int .u32 0, .int .u64 0] 103 (0, 0))) := (b3.block _ (Array.getElem?_eq_some_iff.1 Z2.out).1).trans Z2.out
    clear b3 D2 Z2 HG ex
    have Z3a : Hid ((w3.alloc (.cells #[.int .u32 a, .int .u32 b', .int .u32 c, .int .u64 d] 103)).heap[w.heap.size]? = some (.cells #[.int .u32 0, .int .u32 0, .int .u32 0, .int .u64 0] 103 (0, 0))) := (Below.heap_alloc _ _ _ (Array.getElem?_eq_some_iff.1 Z3.out).1).trans Z3.out
    have D3a : Hid (Below w.heap.size w (w3.alloc (.cells #[.int .u32 a, .int .u32 b', .int .u32 c, .int .u64 d] 103))) := D3.out.alloc D3.out.size _
    go_wp2_with (refine wpList_store_row rfl 103 _ _ rfl w.heap.size _ rfl rfl 103 _ Z3a.out (by kernel_rfl) rfl (by simp [Value.oneCell']) ?_)
    refine bodyPost_ret (results_open rfl _ _ w.heap.size zh rfl (setRow_heap _ _ _ _ _ _ Z3a.out)) rfl ?_
    exact ⟨rfl, below_setRow D3a.out (Nat.le_refl _) _⟩
  · clear HV
    unfold hv Rk.kv at *
    simp only at HG HF HX ⊢
    go_enter Tryz.func82, Tryz.ntmps82
    go_wp2_with fail
    obtain ⟨w1, hw1⟩ : ∃ w1, w.alloc (.cells #[.int .u32 0, .int .u32 0, .int .u32 0, .int .u64 0] 103) = w1 := ⟨_, rfl⟩
    have D1 : Hid (Below w.heap.size w w1) := by rw [← hw1]; exact (Below.refl _ w).alloc (Nat.le_refl _) _
    have Z1 : Hid (w1.heap[w.heap.size]? = some (.cells #[.int .u32 0, .int .u32 0, .int .u32 0, .int .u64 0] 103 (0, 0))) := by rw [← hw1]; exact heap_alloc_new w _
    rw [hw1]
    clear hw1
    refine (HRi.out w1 (HR.out.below D1.out (Nat.le_refl _))).mono ?_
    rintro e w2 ⟨rfl, b2⟩
    have D2 : Hid (Below w.heap.size w w2) := D1.out.trans (b2.mono D1.out.size)
    have Z2 : Hid (w2.heap[w.heap.size]? = some (.cells #[.int .u32 0, .int .u32 0, .int .u32 0, .int .u64 0] 103 (0, 0))) := (b2.block _ (Array.getElem?_eq_some_iff.1 Z1.out).1).trans Z1.out
    clear b2 D1 Z1 HRi
    have q2 : (b.size : Int) = 256 := by omega
    have ex := HEX.out hz
    go_wp2_with fail
    refine (HG.out w2).mono ?_
    rintro e w3 ⟨rfl, b3⟩
    have D3 : Hid (Below w.heap.size w w3) := D2.out.trans (b3.mono D2.out.size)
    have Z3 : Hid (w3.heap[w.heap.size]? = some (.cells #[.int .u32 0, .int .u32 0, .int .u32 0, .int .u64 0] 103 (0, 0))) := (b3.block _ (Array.getElem?_eq_some_iff.1 Z2.out).1).trans Z2.out
    clear b3 D2 Z2 HG ex
    have Z3a : Hid ((w3.alloc (.cells #[.int .u32 a, .int .u32 b', .int .u32 c, .int .u64 d] 103)).heap[w.heap.size]? = some (.cells #[.int .u32 0, .int .u32 0, .int .u32 0, .int .u64 0] 103 (0, 0))) := (Below.heap_alloc _ _ _ (Array.getElem?_eq_some_iff.1 Z3.out).1).trans Z3.out
    have D3a : Hid (Below w.heap.size w (w3.alloc (.cells #[.int .u32 a, .int .u32 b', .int .u32 c, .int .u64 d] 103))) := D3.out.alloc D3.out.size _
    go_wp2_with fail
    obtain ⟨v3, hv3⟩ : ∃ v3, w3.alloc (.cells #[.int .u32 a, .int .u32 b', .int .u32 c, .int .u64 d] 103) = v3 := ⟨_, rfl⟩
    have X3 : Hid (v3.heap[w3.heap.size]? = some (.cells #[.int .u32 a, .int .u32 b', .int .u32 c, .int .u64 d] 103 (0, 0))) := by rw [← hv3]; exact heap_alloc_new w3 _
    rw [hv3] at Z3a D3a
    rw [hv3]
    clear hv3 D3 Z3
    refine (HF.out v3 (HR.out.below D3a.out (Nat.le_refl _))).mono ?_
    rintro e w4 ⟨rfl, b4⟩
    have D4 : Hid (Below w.heap.size w w4) := D3a.out.trans (b4.mono D3a.out.size)
    have Z4 : Hid (w4.heap[w.heap.size]? = some (.cells #[.int .u32 0, .int .u32 0, .int .u32 0, .int .u64 0] 103 (0, 0))) := (b4.block _ (Array.getElem?_eq_some_iff.1 Z3a.out).1).trans Z3a.out
    have X4 : Hid (w4.heap[w3.heap.size]? = some (.cells #[.int .u32 a, .int .u32 b', .int .u32 c, .int .u64 d] 103 (0, 0))) := (b4.block _ (Array.getElem?_eq_some_iff.1 X3.out).1).trans X3.out
    clear b4 D3a Z3a X3 HF
    have Z4a : Hid ((w4.alloc (.cells #[.int .u32 kg, .string ks] 99)).heap[w.heap.size]? = some (.cells #[.int .u32 0, .int .u32 0, .int .u32 0, .int .u64 0] 103 (0, 0))) := (Below.heap_alloc _ _ _ (Array.getElem?_eq_some_iff.1 Z4.out).1).trans Z4.out
    have D4a : Hid (Below w.heap.size w (w4.alloc (.cells #[.int .u32 kg, .string ks] 99))) := D4.out.alloc D4.out.size _
    have q0 : (oe != 0) = true := by simpa using h0
    go_wp2_with (refine wpList_store_row rfl 103 _ _ rfl w.heap.size _ rfl rfl 103 _ Z4a.out (by kernel_rfl) rfl (by simp [Value.oneCell']) ?_)
    refine bodyPost_ret (results_open rfl _ _ w.heap.size zh rfl (setRow_heap _ _ _ _ _ _ Z4a.out)) rfl ?_
    exact ⟨rfl, below_setRow D4a.out (Nat.le_refl _) _⟩
  · clear HV
    unfold hv Rk.kv at *
    simp only at HG HF HX ⊢
    go_enter Tryz.func82, Tryz.ntmps82
    go_wp2_with fail
    obtain ⟨w1, hw1⟩ : ∃ w1, w.alloc (.cells #[.int .u32 0, .int .u32 0, .int .u32 0, .int .u64 0] 103) = w1 := ⟨_, rfl⟩
    have D1 : Hid (Below w.heap.size w w1) := by rw [← hw1]; exact (Below.refl _ w).alloc (Nat.le_refl _) _
    have Z1 : Hid (w1.heap[w.heap.size]? = some (.cells #[.int .u32 0, .int .u32 0, .int .u32 0, .int .u64 0] 103 (0, 0))) := by rw [← hw1]; exact heap_alloc_new w _
    rw [hw1]
    clear hw1
    refine (HRi.out w1 (HR.out.below D1.out (Nat.le_refl _))).mono ?_
    rintro e w2 ⟨rfl, b2⟩
    have D2 : Hid (Below w.heap.size w w2) := D1.out.trans (b2.mono D1.out.size)
    have Z2 : Hid (w2.heap[w.heap.size]? = some (.cells #[.int .u32 0, .int .u32 0, .int .u32 0, .int .u64 0] 103 (0, 0))) := (b2.block _ (Array.getElem?_eq_some_iff.1 Z1.out).1).trans Z1.out
    clear b2 D1 Z1 HRi
    have q2 : (b.size : Int) = 256 := by omega
    have ex := HEX.out hz
    go_wp2_with fail
    refine (HG.out w2).mono ?_
    rintro e w3 ⟨rfl, b3⟩
    have D3 : Hid (Below w.heap.size w w3) := D2.out.trans (b3.mono D2.out.size)
    have Z3 : Hid (w3.heap[w.heap.size]? = some (.cells #[.int .u32 0, .int .u32 0, .int .u32 0, .int .u64 0] 103 (0, 0))) := (b3.block _ (Array.getElem?_eq_some_iff.1 Z2.out).1).trans Z2.out
    clear b3 D2 Z2 HG ex
    have Z3a : Hid ((w3.alloc (.cells #[.int .u32 a, .int .u32 b', .int .u32 c, .int .u64 d] 103)).heap[w.heap.size]? = some (.cells #[.int .u32 0, .int .u32 0, .int .u32 0, .int .u64 0] 103 (0, 0))) := (Below.heap_alloc _ _ _ (Array.getElem?_eq_some_iff.1 Z3.out).1).trans Z3.out
    have D3a : Hid (Below w.heap.size w (w3.alloc (.cells #[.int .u32 a, .int .u32 b', .int .u32 c, .int .u64 d] 103))) := D3.out.alloc D3.out.size _
    go_wp2_with fail
    obtain ⟨v3, hv3⟩ : ∃ v3, w3.alloc (.cells #[.int .u32 a, .int .u32 b', .int .u32 c, .int .u64 d] 103) = v3 := ⟨_, rfl⟩
    have X3 : Hid (v3.heap[w3.heap.size]? = some (.cells #[.int .u32 a, .int .u32 b', .int .u32 c, .int .u64 d] 103 (0, 0))) := by rw [← hv3]; exact heap_alloc_new w3 _
    rw [hv3] at Z3a D3a
    rw [hv3]
    clear hv3 D3 Z3
    refine (HF.out v3 (HR.out.below D3a.out (Nat.le_refl _))).mono ?_
    rintro e w4 ⟨rfl, b4⟩
    have D4 : Hid (Below w.heap.size w w4) := D3a.out.trans (b4.mono D3a.out.size)
    have Z4 : Hid (w4.heap[w.heap.size]? = some (.cells #[.int .u32 0, .int .u32 0, .int .u32 0, .int .u64 0] 103 (0, 0))) := (b4.block _ (Array.getElem?_eq_some_iff.1 Z3a.out).1).trans Z3a.out
    have X4 : Hid (w4.heap[w3.heap.size]? = some (.cells #[.int .u32 a, .int .u32 b', .int .u32 c, .int .u64 d] 103 (0, 0))) := (b4.block _ (Array.getElem?_eq_some_iff.1 X3.out).1).trans X3.out
    clear b4 D3a Z3a X3 HF
    have Z4a : Hid ((w4.alloc (.cells #[.int .u32 kg, .string ks] 99)).heap[w.heap.size]? = some (.cells #[.int .u32 0, .int .u32 0, .int .u32 0, .int .u64 0] 103 (0, 0))) := (Below.heap_alloc _ _ _ (Array.getElem?_eq_some_iff.1 Z4.out).1).trans Z4.out
    have D4a : Hid (Below w.heap.size w (w4.alloc (.cells #[.int .u32 kg, .string ks] 99))) := D4.out.alloc D4.out.size _
    have HX2 : Hid _ := HX.out trivial hz
    clear HX
    have Y4 : Hid ((w4.alloc (.cells #[.int .u32 kg, .string ks] 99)).heap[w3.heap.size]? = some (.cells #[.int .u32 a, .int .u32 b', .int .u32 c, .int .u64 d] 103 (0, 0))) := (Below.heap_alloc _ _ _ (Array.getElem?_eq_some_iff.1 X4.out).1).trans X4.out
    have hh0 : (w4.alloc (.cells #[.int .u32 kg, .string ks] 99)).cell? ⟨w3.heap.size, 0, none⟩ = some (.int .u32 a) := by rw [cell_of_row _ _ _ _ _ _ Y4.out]; rfl
    have hh1 : (w4.alloc (.cells #[.int .u32 kg, .string ks] 99)).cell? ⟨w3.heap.size, 1, none⟩ = some (.int .u32 b') := by rw [cell_of_row _ _ _ _ _ _ Y4.out]; rfl
    have hh2 : (w4.alloc (.cells #[.int .u32 kg, .string ks] 99)).cell? ⟨w3.heap.size, 2, none⟩ = some (.int .u32 c) := by rw [cell_of_row _ _ _ _ _ _ Y4.out]; rfl
    have hh3 : (w4.alloc (.cells #[.int .u32 kg, .string ks] 99)).cell? ⟨w3.heap.size, 3, none⟩ = some (.int .u64 d) := by rw [cell_of_row _ _ _ _ _ _ Y4.out]; rfl
    go_wp2_with (refine wpList_load_row rfl 103 _ rfl w3.heap.size rfl 103 _ (0, 0) _ Y4.out Tryz.underlying103 rfl (by kernel_rfl) ?_)
    clear hh0 hh1 hh2 hh3
    obtain ⟨v4, hv4⟩ : ∃ v4, w4.alloc (.cells #[.int .u32 kg, .string ks] 99) = v4 := ⟨_, rfl⟩
    rw [hv4] at Z4a D4a Y4
    rw [hv4]
    clear hv4 D4 Z4 X4
    refine (HX2.out v4 (HT.out.below D4a.out (Nat.le_refl _))).mono ?_
    rintro e w5 ⟨rfl, b5⟩
    have D5 : Hid (Below w.heap.size w w5) := D4a.out.trans (b5.mono D4a.out.size)
    have Z5 : Hid (w5.heap[w.heap.size]? = some (.cells #[.int .u32 0, .int .u32 0, .int .u32 0, .int .u64 0] 103 (0, 0))) := (b5.block _ (Array.getElem?_eq_some_iff.1 Z4a.out).1).trans Z4a.out
    have X5 : Hid (w5.heap[w3.heap.size]? = some (.cells #[.int .u32 a, .int .u32 b', .int .u32 c, .int .u64 d] 103 (0, 0))) := (b5.block _ (Array.getElem?_eq_some_iff.1 Y4.out).1).trans Y4.out
    clear b5 D4a Z4a Y4 HX2
    go_wp2_with (refine wpList_store_row rfl 103 _ _ rfl w.heap.size _ rfl rfl 103 _ Z5.out (by kernel_rfl) rfl (by simp [Value.oneCell']) ?_)
    refine bodyPost_ret (results_open rfl _ _ w.heap.size zh rfl (setRow_heap _ _ _ _ _ _ Z5.out)) rfl ?_
    exact ⟨rfl, below_setRow D5.out (Nat.le_refl _) _⟩
  · clear HV
    unfold hv Rk.kv at *
    simp only at HG HF HX ⊢
    go_enter Tryz.func82, Tryz.ntmps82
    go_wp2_with fail
    obtain ⟨w1, hw1⟩ : ∃ w1, w.alloc (.cells #[.int .u32 0, .int .u32 0, .int .u32 0, .int .u64 0] 103) = w1 := ⟨_, rfl⟩
    have D1 : Hid (Below w.heap.size w w1) := by rw [← hw1]; exact (Below.refl _ w).alloc (Nat.le_refl _) _
    have Z1 : Hid (w1.heap[w.heap.size]? = some (.cells #[.int .u32 0, .int .u32 0, .int .u32 0, .int .u64 0] 103 (0, 0))) := by rw [← hw1]; exact heap_alloc_new w _
    rw [hw1]
    clear hw1
    refine (HRi.out w1 (HR.out.below D1.out (Nat.le_refl _))).mono ?_
    rintro e w2 ⟨rfl, b2⟩
    have D2 : Hid (Below w.heap.size w w2) := D1.out.trans (b2.mono D1.out.size)
    have Z2 : Hid (w2.heap[w.heap.size]? = some (.cells #[.int .u32 0, .int .u32 0, .int .u32 0, .int .u64 0] 103 (0, 0))) := (b2.block _ (Array.getElem?_eq_some_iff.1 Z1.out).1).trans Z1.out
    clear b2 D1 Z1 HRi
    have q2 : (b.size : Int) = 256 := by omega
    have ex := HEX.out hz
    go_wp2_with fail
    refine (HG.out w2).mono ?_
    rintro e w3 ⟨rfl, b3⟩
    have D3 : Hid (Below w.heap.size w w3) := D2.out.trans (b3.mono D2.out.size)
    have Z3 : Hid (w3.heap[w.heap.size]? = some (.cells #[.int .u32 0, .int .u32 0, .int .u32 0, .int .u64 0] 103 (0, 0))) := (b3.block _ (Array.getElem?_eq_some_iff.1 Z2.out).1).trans Z2.out
    clear b3 D2 Z2 HG ex
    have Z3a : Hid ((w3.alloc (.cells #[.int .u32 a, .int .u32 b', .int .u32 c, .int .u64 d] 103)).heap[w.heap.size]? = some (.cells #[.int .u32 0, .int .u32 0, .int .u32 0, .int .u64 0] 103 (0, 0))) := (Below.heap_alloc _ _ _ (Array.getElem?_eq_some_iff.1 Z3.out).1).trans Z3.out
    have D3a : Hid (Below w.heap.size w (w3.alloc (.cells #[.int .u32 a, .int .u32 b', .int .u32 c, .int .u64 d] 103))) := D3.out.alloc D3.out.size _
    go_wp2_with fail
    obtain ⟨v3, hv3⟩ : ∃ v3, w3.alloc (.cells #[.int .u32 a, .int .u32 b', .int .u32 c, .int .u64 d] 103) = v3 := ⟨_, rfl⟩
    have X3 : Hid (v3.heap[w3.heap.size]? = some (.cells #[.int .u32 a, .int .u32 b', .int .u32 c, .int .u64 d] 103 (0, 0))) := by rw [← hv3]; exact heap_alloc_new w3 _
    rw [hv3] at Z3a D3a
    rw [hv3]
    clear hv3 D3 Z3
    refine (HF.out v3 (HR.out.below D3a.out (Nat.le_refl _))).mono ?_
    rintro e w4 ⟨rfl, b4⟩
    have D4 : Hid (Below w.heap.size w w4) := D3a.out.trans (b4.mono D3a.out.size)
    have Z4 : Hid (w4.heap[w.heap.size]? = some (.cells #[.int .u32 0, .int .u32 0, .int .u32 0, .int .u64 0] 103 (0, 0))) := (b4.block _ (Array.getElem?_eq_some_iff.1 Z3a.out).1).trans Z3a.out
    have X4 : Hid (w4.heap[w3.heap.size]? = some (.cells #[.int .u32 a, .int .u32 b', .int .u32 c, .int .u64 d] 103 (0, 0))) := (b4.block _ (Array.getElem?_eq_some_iff.1 X3.out).1).trans X3.out
    clear b4 D3a Z3a X3 HF
    have Z4a : Hid ((w4.alloc (.cells #[.int .u32 kg, .string ks] 99)).heap[w.heap.size]? = some (.cells #[.int .u32 0, .int .u32 0, .int .u32 0, .int .u64 0] 103 (0, 0))) := (Below.heap_alloc _ _ _ (Array.getElem?_eq_some_iff.1 Z4.out).1).trans Z4.out
    have D4a : Hid (Below w.heap.size w (w4.alloc (.cells #[.int .u32 kg, .string ks] 99))) := D4.out.alloc D4.out.size _
    have HX2 : Hid _ := HX.out trivial hz
    clear HX
    have Y4 : Hid ((w4.alloc (.cells #[.int .u32 kg, .string ks] 99)).heap[w3.heap.size]? = some (.cells #[.int .u32 a, .int .u32 b', .int .u32 c, .int .u64 d] 103 (0, 0))) := (Below.heap_alloc _ _ _ (Array.getElem?_eq_some_iff.1 X4.out).1).trans X4.out
    have hh0 : (w4.alloc (.cells #[.int .u32 kg, .string ks] 99)).cell? ⟨w3.heap.size, 0, none⟩ = some (.int .u32 a) := by rw [cell_of_row _ _ _ _ _ _ Y4.out]; rfl
    have hh1 : (w4.alloc (.cells #[.int .u32 kg, .string ks] 99)).cell? ⟨w3.heap.size, 1, none⟩ = some (.int .u32 b') := by rw [cell_of_row _ _ _ _ _ _ Y4.out]; rfl
    have hh2 : (w4.alloc (.cells #[.int .u32 kg, .string ks] 99)).cell? ⟨w3.heap.size, 2, none⟩ = some (.int .u32 c) := by rw [cell_of_row _ _ _ _ _ _ Y4.out]; rfl
    have hh3 : (w4.alloc (.cells #[.int .u32 kg, .string ks] 99)).cell? ⟨w3.heap.size, 3, none⟩ = some (.int .u64 d) := by rw [cell_of_row _ _ _ _ _ _ Y4.out]; rfl
    go_wp2_with (refine wpList_load_row rfl 103 _ rfl w3.heap.size rfl 103 _ (0, 0) _ Y4.out Tryz.underlying103 rfl (by kernel_rfl) ?_)
    clear hh0 hh1 hh2 hh3
    obtain ⟨v4, hv4⟩ : ∃ v4, w4.alloc (.cells #[.int .u32 kg, .string ks] 99) = v4 := ⟨_, rfl⟩
    rw [hv4] at Z4a D4a Y4
    rw [hv4]
    clear hv4 D4 Z4 X4
    refine (HX2.out v4 (HT.out.below D4a.out (Nat.le_refl _))).mono ?_
    rintro e w5 ⟨rfl, b5⟩
    have D5 : Hid (Below w.heap.size w w5) := D4a.out.trans (b5.mono D4a.out.size)
    have Z5 : Hid (w5.heap[w.heap.size]? = some (.cells #[.int .u32 0, .int .u32 0, .int .u32 0, .int .u64 0] 103 (0, 0))) := (b5.block _ (Array.getElem?_eq_some_iff.1 Z4a.out).1).trans Z4a.out
    have X5 : Hid (w5.heap[w3.heap.size]? = some (.cells #[.int .u32 a, .int .u32 b', .int .u32 c, .int .u64 d] 103 (0, 0))) := (b5.block _ (Array.getElem?_eq_some_iff.1 Y4.out).1).trans Y4.out
    clear b5 D4a Z4a Y4 HX2
    go_wp2_with (first | (refine wpList_load_row rfl 103 _ rfl w3.heap.size rfl 103 _ (0, 0) _ X5.out Tryz.underlying103 rfl (by kernel_rfl) ?_) | (refine wpList_store_row rfl 103 _ _ rfl w.heap.size _ rfl rfl 103 _ Z5.out (by kernel_rfl) rfl (by simp [Value.oneCell']) ?_))
    refine bodyPost_ret (results_open rfl _ _ w.heap.size (a, b', c, d) rfl (setRow_heap _ _ _ _ _ _ Z5.out)) rfl ?_
    exact ⟨rfl, below_setRow D5.out (Nat.le_refl _) _⟩
end Go.Proofs.YtheheaflebkipaaGreatDoor.Rs
/- What follows of sealed blocks, in plain terms. -/
namespace Go.Proofs.YtheheaflebkipaaGreatDoor.Rs
theorem se_zero (l : List Rk.Ky) (h : Hd) (s : ByteArray) : sE l h s = 0 ↔ Rk.feS l h.2.1 = 0 ∧ s.size ≤ 198 := by
  unfold sE Rp.padE
  by_cases h0 : Rk.feS l h.2.1 = 0
  · rw [if_pos h0]
    by_cases h1 : s.size ≤ 198
    · simp [h0, h1]
    · simp [h0, h1]
  · rw [if_neg h0]
    simp [h0]
theorem sv_block (Kt : Nat → Int) (l : List Rk.Ky) (h : Hd) (s : ByteArray) (h0 : sE l h s = 0) : sV Kt l h s = blockS Kt (Rk.fkS l h.2.1) h (Rp.bodyS s) := by
  unfold sV
  rw [if_pos ((se_zero l h s).1 h0)]
theorem block_is (Kt : Nat → Int) (k : Rk.Ky) (h : Hd) (s : ByteArray) : BlockIs (Ra.xorS (Rk.sealS Kt k) (nonceS h)) (macS Kt (Rk.bindS Kt k)) (putS h) (Rp.bodyS s) (blockS Kt k h (Rp.bodyS s)) :=
  bl_is _ _ _ _ (put_size h) (by rw [Ra.xorS_size, Rp.body_size]) (fun _ => macS_size _ _ _)
theorem open_block (Kt : Nat → Int) (l : List Rk.Ky) (h : Hd) (hf : fits h) (s b : ByteArray) (h0 : sE l h s = 0) (ha : b.extract 0 224 = (sV Kt l h s).extract 0 224) :
    hB b = h ∧ gk (b.extract 0 24) = true ∧ Rk.feS l h.2.1 = 0 ∧ Rk.rightS l = true ∧ bodyOf Kt (Rk.fkS l h.2.1) h b = Rp.bodyS s ∧ tagOk Kt (Rk.fkS l h.2.1) b = decide (tagS b = tagS (sV Kt l h s)) := by
  have hI := block_is Kt (Rk.fkS l h.2.1) h s
  rw [← sv_block Kt l h s h0] at hI
  obtain ⟨hfe, hsz⟩ := (se_zero l h s).1 h0
  have e1 : b.extract 0 24 = putS h := by
    have := ext_ext b 0 224 0 24 (by omega)
    rw [ha, ext_ext _ 0 224 0 24 (by omega)] at this
    exact this.symm.trans hI.head
  have e2 : b.extract 24 224 = Ra.xorS (Rk.sealS Kt (Rk.fkS l h.2.1)) (nonceS h) (Rp.bodyS s) := by
    have := ext_ext b 0 224 24 224 (by omega)
    rw [ha, ext_ext _ 0 224 24 224 (by omega)] at this
    exact this.symm.trans hI.rest
  refine ⟨by unfold hB; rw [e1]; exact gv_put h hf, by rw [e1]; exact gk_put h hf, hfe, (fe_zero l _ hfe).1, ?_, ?_⟩
  · unfold bodyOf
    rw [e2, Ra.xorS_twice]
  · unfold tagOk
    rw [ha, ← hI.tag]
theorem open_seal (Kt : Nat → Int) (l : List Rk.Ky) (h : Hd) (hf : fits h) (s : ByteArray) (h0 : sE l h s = 0) :
    (sV Kt l h s).size = 256 ∧ (sV Kt l h s).extract 0 24 = putS h ∧ oE Kt l (sV Kt l h s) = 0 ∧ oH Kt l (sV Kt l h s) = h ∧ oS Kt l (sV Kt l h s) = s := by
  have hI := block_is Kt (Rk.fkS l h.2.1) h s
  rw [← sv_block Kt l h s h0] at hI
  obtain ⟨hfe, hsz⟩ := (se_zero l h s).1 h0
  obtain ⟨k1, k2, k3, k4, k5, k6⟩ := open_block Kt l h hf s (sV Kt l h s) h0 rfl
  have kt : tk Kt (Rk.fkS l h.2.1) h (sV Kt l h s) = true := by
    unfold tk
    rw [k6, k5, Rp.isBody_body s hsz]
    simp
  have ke : oE Kt l (sV Kt l h s) = 0 := by
    unfold oE
    rw [if_pos k4, if_pos hI.size, if_pos k2, k1, if_pos k3, if_pos kt]
  refine ⟨hI.size, hI.head, ke, by unfold oH; rw [if_pos ke, k1], ?_⟩
  unfold oS tv
  rw [if_pos ke, k1, if_pos kt, k5, Rp.textOf_body s hsz]
theorem oe_none (Kt : Nat → Int) (l : List Rk.Ky) (b : ByteArray) (h : oE Kt l b ≠ 0) : oH Kt l b = zh ∧ oS Kt l b = ⟨#[]⟩ := by
  unfold oH oS
  rw [if_neg h, if_neg h]
  exact ⟨rfl, rfl⟩
end Go.Proofs.YtheheaflebkipaaGreatDoor.Rs
