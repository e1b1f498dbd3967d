/- How many rows a tree has; how many of them lie in a box. -/
import Derived.Test.YtaiiclkfnahghaaPJK
namespace Go.Proofs.Ytaiiclkfnahghaa.Rq
open Go.RowKit Go.Lib Go.Shelf
open Go.Proofs.Ytaiiclkfnahghaa.Rc
set_option maxRecDepth 100000 in
theorem filter_all (l : List Rw) : (l.filter fun _ => true) = l := List.filter_eq_self.2 fun _ _ => rfl
set_option maxRecDepth 100000 in
set_option maxHeartbeats 1000000 in
theorem size_any (n : Nv) (l : List Rw) (d : Nat) (w : World) (hN : NodeAt (fun _ => True) d w n l) (hon : On l) (hmax : l.length ≤ 1000) :
    Calls Try.prog 29 #[nv n] w fun e w' => e = .returned (.int .i64 (l.length : Int)) ∧ Below w.heap.size w w' := by
  have hp := seqs_perm (fun _ _ _ => true) (fun _ => true) (fun m _ _ h => by simp at h) d l hN.fits hon
  rw [filter_all] at hp
  have HP : Hid _ := hp
  have hb0 := below_new w (.cells #[.int .u32 (n.X : Int), .int .u32 (n.Y : Int), .int .i64 (n.L : Int), .slice n.ro n.rn n.rc, .slice n.ko n.kn n.kc] 33)
  have HB0 : Hid (Below w.heap.size w (w.alloc (.cells #[.int .u32 (n.X : Int), .int .u32 (n.Y : Int), .int .i64 (n.L : Int), .slice n.ro n.rn n.rc, .slice n.ko n.kn n.kc] 33))) := hb0
  have HNA : Hid (NodeAt (fun _ => True) d (w.alloc (.cells #[.int .u32 (n.X : Int), .int .u32 (n.Y : Int), .int .i64 (n.L : Int), .slice n.ro n.rn n.rc, .slice n.ko n.kn n.kc] 33)) n l) := hN.below hb0 (Nat.le_refl _)
  have HON : Hid (On l) := hon
  have HM : Hid (l.length ≤ 1000) := hmax
  have HRA : Hid _ := rows_any n
  clear hN hon hmax hp hb0
  obtain ⟨nX, nY, nL, nro, nrn, nrc, nko, nkn, nkc⟩ := n
  simp only [nv] at HRA ⊢
  simp only at HB0 HNA
  go_enter Try.func29, Try.ntmps29
  go_wp2_with fail
  refine (HRA.out _ _ _ _ _).mono ?_
  rintro e w1 ⟨rfl, hw1⟩
  obtain ⟨hb1, hit⟩ := rows_iter _ _ _ _ _ _ _ d _ l HNA.out HON.out HM.out w1 hw1 (ent_all w1) (kep_all w1)
  have hc := count_any w1 _ _ _ hit rows1_eg (by rw [HP.out.length_eq]; exact HM.out) w1 (Below.refl _ _)
  rw [HP.out.length_eq] at hc
  have hsz : (w.alloc (.cells #[.int .u32 (nX : Int), .int .u32 (nY : Int), .int .i64 (nL : Int), .slice nro nrn nrc, .slice nko nkn nkc] 33)).heap.size = w.heap.size + 1 := by simp
  rw [hsz] at hc
  have HC : Hid (∀ _ : True, Calls Try.prog 41 #[.func (.func 75) #[] #[.pointer (some ⟨w.heap.size + 1 + 1, 0, none⟩), .pointer (some ⟨w.heap.size + 1, 0, none⟩), .pointer (some ⟨w.heap.size + 1 + 2, 0, none⟩)]] w1 fun e w' => e = .returned (.int .i64 (l.length : Int)) ∧ Below w1.heap.size w1 w') := fun _ => hc
  clear hc hsz
  have HB1 : Hid (Below w.heap.size w w1) := HB0.out.trans (hb1.mono (by simp))
  clear hw1 hit hb1
  go_wp2_with fail
  refine Calls.mono (HC.out trivial) ?_
  rintro e w2 ⟨rfl, hb2⟩
  have HB2 : Hid (Below w.heap.size w w2) := HB1.out.trans (hb2.mono HB1.out.size)
  clear hb2
  go_wp2_with fail
  go_ret
  exact ⟨rfl, HB2.out⟩
end Go.Proofs.Ytaiiclkfnahghaa.Rq
