/- The reference: what a part does to eight words. -/
import Derived.Test.YtfaflomephjkgaaGreatDoorQH
import Derived.Laws.IdiomStrings
import Derived.Test.YtfaflomephjkgaaGreatDoorPPl
set_option maxRecDepth 100000
set_option maxHeartbeats 4000000
namespace Go.Proofs.YtfaflomephjkgaaGreatDoor
open Go.RowKit Go.Lib
theorem wd_or (a b c d:Int) (a0:0≤a) (a1:a<256) (b0:0≤b) (b1:b<256) (c0:0≤c) (c1:c<256) (d0:0≤d) (d1:d<256):
  bits .or .u32 (bits .or .u32 (bits .or .u32 (a*16777216) (b*65536)) (c*256)) d=a*16777216+b*65536+c*256+d:=by
 have h1:=or_add a (b*65536) 24 16777216 (by decide) a0 (by omega) (by omega) (by omega) (by omega)
 have h2:=or_add (a*256+b) (c*256) 16 65536 (by decide) (by omega) (by omega) (by omega) (by omega) (by omega)
 have h3:=or_add (a*65536+b*256+c) d 8 256 (by decide) (by omega) (by omega) (by omega) (by omega) (by omega)
 have e1:a*((16777216:Nat):Int)=a*16777216:=rfl
 rw[e1] at h1
 rw[h1,show a*16777216+b*65536=(a*256+b)*((65536:Nat):Int) by omega,h2,show(a*256+b)*((65536:Nat):Int)+c*256=(a*65536+b*256+c)*((256:Nat):Int) by omega,h3]
theorem own_at {A:World} {base:Nat} {p cap n:Nat} {F:Nat→Int} (ho:A.ownsRow base 32 1 (.slice (some ⟨p,0,none⟩) n cap) n ((upto F n).map (Value.int .u32))) {k:Nat} {x:Int} (hk:k<n) (h:A.cell? ⟨p,k,none⟩=some (.int .u32 x)):(some (Value.int .u32 (F k)))=some (.int .u32 x):=by
 rw[←h]
 exact(own_cell ho (by rw[List.getElem?_map];simp[upto,hk])).symm
theorem own_row8 {A:World} {base p:Nat} {f:Nat→Int} (ho:A.ownsRow base 32 1 (.slice (some ⟨p,0,none⟩) 8 8) 8 (st8 f).toList):A.heap[p]? =some (.cells (st8 f) 32 (0,0)):=by
 rcases ho.2 with⟨hv,_⟩|⟨g',cap',cur,hv,hb,hh,h1,h2,h3,h4⟩
 ·cases hv
 ·cases hv
  have hc:cur=st8 f:=by
   apply Array.toList_inj.1
   rw[←h4]
   exact(List.take_of_length_le (by simp;omega)).symm
  rw[←hc]
  exact hh
theorem st8_congr {f g:Nat→Int} (h:∀ i,i<8→f i=g i):st8 f=st8 g:=by
 unfold st8
 rw[h 0 (by decide),h 1 (by decide),h 2 (by decide),h 3 (by decide),h 4 (by decide),h 5 (by decide),h 6 (by decide),h 7 (by decide)]
theorem st8_set (f:Nat→Int) (k:Nat) (x:Int) (hk:k<8):(st8 f).setIfInBounds k (.int .u32 x)=st8 (upd f k x):=by
 match k,hk with
 |0,_=>rfl
 |1,_=>rfl
 |2,_=>rfl
 |3,_=>rfl
 |4,_=>rfl
 |5,_=>rfl
 |6,_=>rfl
 |7,_=>rfl
 |k+8,h=>exact absurd h (by omega)
theorem idx_bt (s:ByteArray) (p:Nat) (hp:p<s.size) (w:World):(Instr.index 9 (.string s) (.int .i64 (p:Int))).run Tryz.prog w=.ok (.int .u8 (bt s p)) w:=by
 have h0:(p:Int)<(s.size:Int):=by omega
 simp[Instr.index,run_underlying Tryz.underlying9,go_sem,hp]
 unfold bt
 rw[Array.getElem?_eq_getElem (by exact hp)]
 rfl
theorem rpart_any (Kt f : Nat → Int) (s : ByteArray) (hs : s.size = 64) (g : Nat) (w : World) {tg tt : TypeId} {fr0 fr : Nat × Nat} (hg : w.heap[g]? = some (.cells (st8 f) tg fr0)) (hT : w.heap[1]? = some (.cells (w64 Kt) tt fr)) :
    Calls Tryz.prog 148 #[.slice (some ⟨g, 0, none⟩) 8 8, .string s] w fun e w' => ∃ g', e = .returned (.slice (some ⟨g', 0, none⟩) 8 8) ∧ w.heap.size ≤ g' ∧ w'.heap[g']? = some (.cells (st8 (chg Kt f (bt s))) 32 (0, 0)) ∧ Below w.heap.size w w' := by
  have h0l : 1 < w.heap.size := (Array.getElem?_eq_some_iff.1 hT).1
  have hgl : g < w.heap.size := (Array.getElem?_eq_some_iff.1 hg).1
  have HG : Hid (w.heap[g]? = some (.cells (st8 f) tg fr0)) := hg
  have HT : Hid (w.heap[1]? = some (.cells (w64 Kt) tt fr)) := hT
  have HS : Hid (s.size = 64) := hs
  clear hg hT hs
  obtain ⟨i0, hi, hz0, hz1, hz2⟩ := info_parts info41
  go_enter Tryz.func148, Tryz.ntmps148
  go_wp2_with fail
  go_loopw [5, 6] (fun v i wr => ∃ t : Nat, t ≤ 64 ∧ i = .int .i64 (t : Int) ∧ wr.ownsRow w.heap.size 32 1 v t ((upto (sch (bt s)) t).map (Value.int .u32)) ∧ Below w.heap.size w wr) (fun _ i _ => 64 - (intOf i).toNat)
  case atStart => exact ⟨0, by omega, rfl, World.ownsRow_nil _ _ _ _, Below.refl _ _⟩
  case round =>
    obtain ⟨t, ht, rfl, hown, hb⟩ := hrel
    have HO : Hid (wr.ownsRow w.heap.size 32 1 u5 t ((upto (sch (bt s)) t).map (Value.int .u32))) := hown
    have HB : Hid (Below w.heap.size w wr) := hb
    clear hown hb
    have t0 : (0 : Int) ≤ (t : Int) := by omega
    have t1 : (t : Int) ≤ 64 := by omega
    by_cases hlt : t < 64
    · have a1 : (t : Int) < 64 := by omega
      by_cases h16 : t < 16
      · have a2 : (t : Int) < 16 := by omega
        have hss := HS.out
        obtain ⟨p0, hp0⟩ : ∃ p : Nat, 4 * t = p := ⟨_, rfl⟩
        obtain ⟨p1, hp1⟩ : ∃ p : Nat, p0 + 1 = p := ⟨_, rfl⟩
        obtain ⟨p2, hp2⟩ : ∃ p : Nat, p0 + 2 = p := ⟨_, rfl⟩
        obtain ⟨p3, hp3⟩ : ∃ p : Nat, p0 + 3 = p := ⟨_, rfl⟩
        have c0 : IntKind.i64.wrap (4 * (t : Int)) = (p0 : Int) := by rw [IntKind.wrap_i64]; omega
        have c1 : IntKind.i64.wrap ((p0 : Int) + 1) = (p1 : Int) := by rw [IntKind.wrap_i64]; omega
        have c2 : IntKind.i64.wrap ((p0 : Int) + 2) = (p2 : Int) := by rw [IntKind.wrap_i64]; omega
        have c3 : IntKind.i64.wrap ((p0 : Int) + 3) = (p3 : Int) := by rw [IntKind.wrap_i64]; omega
        have x0 := idx_bt s p0 (by omega)
        have x1 := idx_bt s p1 (by omega)
        have x2 := idx_bt s p2 (by omega)
        have x3 := idx_bt s p3 (by omega)
        have y0 := bt_range s p0
        have y1 := bt_range s p1
        have y2 := bt_range s p2
        have y3 := bt_range s p3
        have HW : Hid (wd (bt s) t = bt s p0 * 16777216 + bt s p1 * 65536 + bt s p2 * 256 + bt s p3) := by
          rw [← hp3, ← hp2, ← hp1, ← hp0]; rfl
        generalize bt s p0 = B0 at *
        generalize bt s p1 = B1 at *
        generalize bt s p2 = B2 at *
        generalize bt s p3 = B3 at *
        obtain ⟨y00, y01⟩ := y0
        obtain ⟨y10, y11⟩ := y1
        obtain ⟨y20, y21⟩ := y2
        obtain ⟨y30, y31⟩ := y3
        clear hss hp0 hp1 hp2 hp3
        have v0 : IntKind.u32.wrap B0 = B0 := by rw [IntKind.wrap_u32]; omega
        have v1 : IntKind.u32.wrap B1 = B1 := by rw [IntKind.wrap_u32]; omega
        have v2 : IntKind.u32.wrap B2 = B2 := by rw [IntKind.wrap_u32]; omega
        have v3 : IntKind.u32.wrap B3 = B3 := by rw [IntKind.wrap_u32]; omega
        have v4 : IntKind.u32.wrap (B0 * 16777216) = B0 * 16777216 := by rw [IntKind.wrap_u32]; omega
        have v5 : IntKind.u32.wrap (B1 * 65536) = B1 * 65536 := by rw [IntKind.wrap_u32]; omega
        have v6 : IntKind.u32.wrap (B2 * 256) = B2 * 256 := by rw [IntKind.wrap_u32]; omega
        have HV : Hid (bits .or .u32 (bits .or .u32 (bits .or .u32 (B0 * 16777216) (B1 * 65536)) (B2 * 256)) B3 = sch (bt s) t) := by
          rw [sch_low _ (bt_range s) t h16, HW.out]
          exact wd_or B0 B1 B2 B3 y00 y01 y10 y11 y20 y21 y30 y31
        go_wp2_with fail
        refine wp_region_any (by kernel_rfl) ?_
        change wpAny _ _ _ _ _ _ _ (World.drew _)
        refine plan [0, 1, 2, 3, 4, 5, 6, 7, 8, 9, 10, 11, 12, 13, 14, 15, 16, 17, 18, 19, 20, 21, 22, 23, 24, 25, 26, 27, 28, 29] ?_
        iterate 30
          refine tkA (v := ?_) rfl (by kernel_rfl) (fun _ _ _ h => h) (by kernel_rfl) ?_ ?_
          rotate_left
          · intro w; go_simp; try with_reducible rfl
          conv in (Act.put _ _ _) => simp only [List.getElem_toArray, List.getElem_cons_succ, List.getElem_cons_zero, Act.put, List.setIfInBounds_toArray, List.set_cons_succ, List.set_cons_zero]
        refine plan0 ?_
        refine wpAny_ready (rs := [30]) (by kernel_rfl) (by simp) ?_
        refine (AllReady.cons rfl (fun K hK => ?_) AllReady.nil)
        go_simp
        refine hK _ _ ?_
        clear hK K
        rw [HV.out]
        obtain ⟨y, hy⟩ : ∃ y, sch (bt s) t = y := ⟨_, rfl⟩
        have HY : Hid (sch (bt s) t = y) := hy
        rw [hy]
        clear hy HV HW
        obtain ⟨W4, hW4⟩ : ∃ W4, (wr.alloc (.cells #[.int .u32 y] 32)).drew = W4 := ⟨_, rfl⟩
        have B4 : Hid (Below w.heap.size w W4) := by rw [← hW4]; exact (HB.out.alloc HB.out.size _).drew
        have O4 : Hid (W4.ownsRow w.heap.size 32 1 u5 t ((upto (sch (bt s)) t).map (Value.int .u32))) := by rw [← hW4]; exact (HO.out.alloc _).drew
        have C4 : W4.cell? ⟨wr.heap.size, 0, none⟩ = some (.int .u32 y) := by rw [← hW4]; exact (cell_of_row (wr.alloc (.cells #[.int .u32 y] 32)) _ _ _ _ _ (heap_alloc_new wr _)).trans rfl
        rw [hW4]
        obtain ⟨v5, W5, hr5, o5, g5, _⟩ := app_keep W4 w.heap.size u5 t _ O4.out y _ C4 (by omega) B4.out.size 174
        have O5 : Hid (W5.ownsRow w.heap.size 32 1 v5 (t + 1) ((upto (sch (bt s)) (t + 1)).map (Value.int .u32))) := by
          rw [upto_succ, List.map_append, HY.out]; exact o5
        have B5 : Hid (Below w.heap.size w W5) := B4.out.grown g5 B4.out.size (fun k e => (O4.out.lt k e).1)
        clear hW4 C4 HO HB o5 g5 O4 B4
        refine wpAny_ready (rs := [31]) (by kernel_rfl) (by simp) ?_
        refine (AllReady.cons rfl (fun K hK => ?_) AllReady.nil)
        rw [if_pos (by rfl)]
        refine op_append 174 174 (.tmp 22) (.tmp 52) rfl rfl rfl hr5 ?_
        refine hK _ _ ?_
        clear hK K
        conv in (Act.put _ _ _) => simp only [List.getElem_toArray, List.getElem_cons_succ, List.getElem_cons_zero, Act.put, List.setIfInBounds_toArray, List.set_cons_succ, List.set_cons_zero]
        refine wpAny_ready (rs := [32]) (by kernel_rfl) (by simp) ?_
        refine (AllReady.cons rfl (fun K hK => ?_) AllReady.nil)
        go_simp
        refine hK _ _ ?_
        clear hK K
        refine wpAny_done (by kernel_rfl) ?_ _
        go_wp2_with fail
        go_roundw
        case rel => exact ⟨t + 1, by omega, by go_num, O5.out, B5.out⟩
        case measure => simp [intOf]; omega
      · obtain ⟨p, cap, hv⟩ : ∃ p cap, u5 = .slice (some ⟨p, 0, none⟩) t cap := by
          rcases HO.out.2 with ⟨_, h0⟩ | ⟨p, cap, _, h, _⟩
          · omega
          · exact ⟨p, cap, h⟩
        subst hv
        obtain ⟨k15, h15⟩ : ∃ k : Nat, t = k + 15 := ⟨t - 15, by omega⟩
        obtain ⟨k2, h2⟩ : ∃ k : Nat, t = k + 2 := ⟨t - 2, by omega⟩
        obtain ⟨k16, hk16⟩ : ∃ k : Nat, t = k + 16 := ⟨t - 16, by omega⟩
        obtain ⟨k7, h7⟩ : ∃ k : Nat, t = k + 7 := ⟨t - 7, by omega⟩
        have HE0 : (sch (bt s) t = (sch (bt s) k16 + e0 (sch (bt s) k15) + sch (bt s) k7 + e1 (sch (bt s) k2)) % 4294967296) := by
          have h := sch_ext (bt s) k16 (by omega)
          rw [show 16 + k16 = t by omega] at h
          rw [h]
          unfold ext
          rw [show t - 16 = k16 by omega, show t - 15 = k15 by omega, show t - 7 = k7 by omega, show t - 2 = k2 by omega]
        have HE : Hid (sch (bt s) t = (sch (bt s) k16 + e0 (sch (bt s) k15) + sch (bt s) k7 + e1 (sch (bt s) k2)) % 4294967296) := HE0
        clear HE0
        have cel : ∀ k, k < t → wr.cell? ⟨p, k, none⟩ = some (.int .u32 (sch (bt s) k)) := fun k hk => own_cell HO.out (by rw [List.getElem?_map]; simp [upto, hk])
        have c15 := cel k15 (by omega)
        have c2 := cel k2 (by omega)
        have s16 := cel k16 (by omega)
        have s7 := cel k7 (by omega)
        have e15 : (t : Int) - 15 = (k15 : Int) := by omega
        have e2 : (t : Int) - 2 = (k2 : Int) := by omega
        have e16 : (t : Int) - 16 = (k16 : Int) := by omega
        have e7 : (t : Int) - 7 = (k7 : Int) := by omega
        have l15 : (k15 : Int) < (t : Int) := by omega
        have l2 : (k2 : Int) < (t : Int) := by omega
        have l16 : (k16 : Int) < (t : Int) := by omega
        have l7 : (k7 : Int) < (t : Int) := by omega
        have a2 : ¬ (t : Int) < 16 := by omega
        have n16 : IntKind.i64.wrap (k16 : Int) = (k16 : Int) := by rw [IntKind.wrap_i64]; omega
        have n7 : IntKind.i64.wrap (k7 : Int) = (k7 : Int) := by rw [IntKind.wrap_i64]; omega
        generalize sch (bt s) k15 = X15 at *
        generalize sch (bt s) k2 = X2 at *
        generalize sch (bt s) k16 = X16 at *
        generalize sch (bt s) k7 = X7 at *
        have HSW : Hid (wr.cell? ⟨p, k16, none⟩ = some (.int .u32 X16) ∧ wr.cell? ⟨p, k7, none⟩ = some (.int .u32 X7)) := ⟨s16, s7⟩
        clear cel s16 s7 h15 h2 hk16 h7
        go_wp2_with fail
        clear c15 c2 e15 e2 l15 l2
        refine wp_region_held (S := fun w' => w'.cell? ⟨p, k16, none⟩ = some (.int .u32 X16) ∧ w'.cell? ⟨p, k7, none⟩ = some (.int .u32 X7)) (by kernel_rfl) ?_
        change wpAnyH _ _ _ _ _ _ _ _ (World.drew _)
        refine plan [0, 1, 2, 3, 4, 5, 6, 8, 11, 12, 15, 16, 17, 18, 19, 21, 23, 26, 27] ?_
        iterate 19
          refine tkH (v := ?_) rfl (by kernel_rfl) (fun _ _ _ h => h) (by kernel_rfl) ?_ HSW.out ?_
          rotate_left
          · rintro w ⟨c1, c2⟩; go_simp; try with_reducible rfl
          conv in (Act.put _ _ _) => simp only [List.getElem_toArray, List.getElem_cons_succ, List.getElem_cons_zero, Act.put, List.setIfInBounds_toArray, List.set_cons_succ, List.set_cons_zero]
        refine plan0 ?_
        refine readyH 7 _ (by kernel_rfl) rfl (by kernel_rfl) (fun K hK => ?_)
        go_simp
        refine (turned_any 7 X15 (by unfold trOk; decide) _).mono ?_
        rintro e w1 ⟨rfl, q1, rfl⟩
        refine hK _ _ HSW.out ?_
        clear hK K
        refine readyH 9 _ (by kernel_rfl) rfl (by kernel_rfl) (fun K hK => ?_)
        go_simp
        refine (turned_any 18 X15 (by unfold trOk; decide) _).mono ?_
        rintro e w1 ⟨rfl, q2, rfl⟩
        refine hK _ _ HSW.out ?_
        clear hK K
        refine plan [10, 13, 14, 20] ?_
        iterate 4
          refine tkH (v := ?_) rfl (by kernel_rfl) (fun _ _ _ h => h) (by kernel_rfl) ?_ HSW.out ?_
          rotate_left
          · rintro w ⟨c1, c2⟩; go_simp; try with_reducible rfl
          conv in (Act.put _ _ _) => simp only [List.getElem_toArray, List.getElem_cons_succ, List.getElem_cons_zero, Act.put, List.setIfInBounds_toArray, List.set_cons_succ, List.set_cons_zero]
        refine plan0 ?_
        refine readyH 22 _ (by kernel_rfl) rfl (by kernel_rfl) (fun K hK => ?_)
        go_simp
        refine (turned_any 17 X2 (by unfold trOk; decide) _).mono ?_
        rintro e w1 ⟨rfl, q3, rfl⟩
        refine hK _ _ HSW.out ?_
        clear hK K
        refine readyH 24 _ (by kernel_rfl) rfl (by kernel_rfl) (fun K hK => ?_)
        go_simp
        refine (turned_any 19 X2 (by unfold trOk; decide) _).mono ?_
        rintro e w1 ⟨rfl, q4, rfl⟩
        refine hK _ _ HSW.out ?_
        clear hK K
        refine plan [25, 28, 29] ?_
        iterate 3
          refine tkH (v := ?_) rfl (by kernel_rfl) (fun _ _ _ h => h) (by kernel_rfl) ?_ HSW.out ?_
          rotate_left
          · rintro w ⟨c1, c2⟩; go_simp; try with_reducible rfl
          conv in (Act.put _ _ _) => simp only [List.getElem_toArray, List.getElem_cons_succ, List.getElem_cons_zero, Act.put, List.setIfInBounds_toArray, List.set_cons_succ, List.set_cons_zero]
        refine plan0 ?_
        refine readyH 30 _ (by kernel_rfl) rfl (by kernel_rfl) (fun K hK => ?_)
        go_simp
        obtain ⟨y, hy⟩ : ∃ y, IntKind.u32.wrap (IntKind.u32.wrap (IntKind.u32.wrap (X16 + bits BinOp.xor IntKind.u32 (bits BinOp.xor IntKind.u32 (tr 7 X15) (tr 18 X15)) (X15 / 8)) + X7) + bits BinOp.xor IntKind.u32 (bits BinOp.xor IntKind.u32 (tr 17 X2) (tr 19 X2)) (X2 / 1024)) = y := ⟨_, rfl⟩
        have HY : Hid (sch (bt s) t = y) := by
          refine (?_ : sch (bt s) t = y)
          rw [HE.out, ← hy, tr_7, tr_18, tr_17, tr_19]
          unfold e0 e1
          generalize bits BinOp.xor IntKind.u32 (bits BinOp.xor IntKind.u32 (t7 X15) (t18 X15)) (X15 / 8) = E0
          generalize bits BinOp.xor IntKind.u32 (bits BinOp.xor IntKind.u32 (t17 X2) (t19 X2)) (X2 / 1024) = E1
          rw [IntKind.wrap_u32, IntKind.wrap_u32, IntKind.wrap_u32]
          omega
        rw [hy]
        have hpl : p < wr.heap.size := own_lt HO.out
        obtain ⟨W4, hW4⟩ : ∃ W4, (wr.drewN (1 + q1 + q2 + q3 + q4)).alloc (.cells #[.int .u32 y] 32) = W4 := ⟨_, rfl⟩
        have B4 : Hid (Below w.heap.size w W4) := by rw [← hW4]; exact (below_drewN HB.out _).alloc (below_drewN HB.out _).size _
        have O4 : Hid (W4.ownsRow w.heap.size 32 1 (.slice (some ⟨p, 0, none⟩) t cap) t ((upto (sch (bt s)) t).map (Value.int .u32))) := by
          rw [← hW4]
          have o1 : (wr.drewN (1 + q1 + q2 + q3 + q4)).ownsRow w.heap.size 32 1 (.slice (some ⟨p, 0, none⟩) t cap) t ((upto (sch (bt s)) t).map (Value.int .u32)) := HO.out
          exact o1.alloc _
        have C4 : W4.cell? ⟨wr.heap.size, 0, none⟩ = some (.int .u32 y) := by rw [← hW4]; exact (cell_of_row ((wr.drewN (1 + q1 + q2 + q3 + q4)).alloc (.cells #[.int .u32 y] 32)) _ _ _ _ _ (heap_alloc_new (wr.drewN (1 + q1 + q2 + q3 + q4)) _)).trans rfl
        have S4 : Hid (W4.cell? ⟨p, k16, none⟩ = some (.int .u32 X16) ∧ W4.cell? ⟨p, k7, none⟩ = some (.int .u32 X7)) := by
          rw [← hW4]
          exact ⟨(cell_same (Below.heap_alloc (wr.drewN (1 + q1 + q2 + q3 + q4)) _ p hpl) _).trans HSW.out.1, (cell_same (Below.heap_alloc (wr.drewN (1 + q1 + q2 + q3 + q4)) _ p hpl) _).trans HSW.out.2⟩
        rw [hW4]
        refine hK _ _ S4.out ?_
        clear hK K
        have hlen : ∀ k, k < t → (((upto (sch (bt s)) t).map (Value.int .u32)))[k]? = some (.int .u32 (sch (bt s) k)) := fun k hk => by rw [List.getElem?_map]; simp [upto, hk]
        obtain ⟨v5, W5, hr5, o5, g5, kp5⟩ := app_keep W4 w.heap.size _ t _ O4.out y _ C4 (by omega) B4.out.size 174
        have S5 : Hid (W5.cell? ⟨p, k16, none⟩ = some (.int .u32 X16) ∧ W5.cell? ⟨p, k7, none⟩ = some (.int .u32 X7)) :=
          ⟨kp5 p cap rfl k16 _ (by rw [hlen k16 (by omega), own_at HO.out (by omega) HSW.out.1]), kp5 p cap rfl k7 _ (by rw [hlen k7 (by omega), own_at HO.out (by omega) HSW.out.2])⟩
        have O5 : Hid (W5.ownsRow w.heap.size 32 1 v5 (t + 1) ((upto (sch (bt s)) (t + 1)).map (Value.int .u32))) := by
          rw [upto_succ, List.map_append, HY.out]; exact o5
        have B5 : Hid (Below w.heap.size w W5) := B4.out.grown g5 B4.out.size (fun k e => (O4.out.lt k e).1)
        clear hW4 C4 HO HB o5 g5 O4 B4 kp5 hlen S4 HSW
        refine readyH 31 _ (by kernel_rfl) rfl (by kernel_rfl) (fun K hK => ?_)
        refine op_append 174 174 (.tmp 64) (.tmp 94) rfl rfl rfl hr5 ?_
        refine hK _ _ S5.out ?_
        clear hK K
        conv in (Act.put _ _ _) => simp only [List.getElem_toArray, List.getElem_cons_succ, List.getElem_cons_zero, Act.put, List.setIfInBounds_toArray, List.set_cons_succ, List.set_cons_zero]
        refine readyH 32 _ (by kernel_rfl) rfl (by kernel_rfl) (fun K hK => ?_)
        go_simp
        refine hK _ _ S5.out ?_
        clear hK K
        refine wpAnyH_done (by kernel_rfl) ?_ _
        go_wp2_with fail
        go_roundw
        case rel => exact ⟨t + 1, by omega, by go_num, O5.out, B5.out⟩
        case measure => simp [intOf]; omega
    · obtain rfl : t = 64 := by omega
      obtain ⟨p, cap, hv⟩ : ∃ p cap, u5 = .slice (some ⟨p, 0, none⟩) 64 cap := by
        rcases HO.out.2 with ⟨_, h0⟩ | ⟨p, cap, _, h, _⟩
        · omega
        · exact ⟨p, cap, h⟩
      subst hv
      have hpl : p < wr.heap.size := own_lt HO.out
      have CW : Hid (∀ k, k < 64 → wr.cell? ⟨p, k, none⟩ = some (.int .u32 (sch (bt s) k))) := fun k hk => own_cell HO.out (by rw [List.getElem?_map]; simp [upto, hk])
      have G1 : Hid (wr.heap[g]? = some (.cells (st8 f) tg fr0)) := (HB.out.block g hgl).trans HG.out
      have T1 : Hid (wr.heap[1]? = some (.cells (w64 Kt) tt fr)) := (HB.out.block 1 h0l).trans HT.out
      have hwl : w.heap.size ≤ wr.heap.size := HB.out.size
      clear HO hlt ht
      go_wp2_with (first
        | (at_make; refine wpList_make_own _ rfl _ _ 174 rfl wr.heap.size 32 i0 (.int .u32 0) 1 Tryz.underlying174 hi hz0 hz1 .i64 .i64 8 8 rfl rfl rfl (by rw [hz2]; decide) (by decide) (Nat.le_refl _) ?_; intro w2 hown2 hgrow2)
        | (at_builtin
           obtain ⟨w3, hrun3, hown3, hgrow3⟩ := run_append_fits (P := Tryz.prog) w2 wr.heap.size 174 174 32 i0 1 Tryz.underlying174 hi hz1 wr.heap.size 0 8 [] hown2 ⟨g, 0, none⟩ 8 8 (st8 f).toList rfl (fun j u hj => by rw [Addr.add_lit, Nat.zero_add, cell_of_row _ _ _ _ _ _ ((hgrow2.block g (by omega) (by simp)).trans G1.out)]; simpa using hj) (fun u hu => by simp [st8] at hu; rcases hu with rfl | rfl | rfl | rfl | rfl | rfl | rfl | rfl <;> rfl) (by decide)
           refine list_append rfl 174 174 (.tmp 96) (.tmp 97) rfl (vs := .slice (some ⟨wr.heap.size, 0, none⟩) 0 8) (vx := .slice (some ⟨g, 0, none⟩) 8 8) rfl rfl hrun3 ?_))
      have R3 : Hid (w3.heap[wr.heap.size]? = some (.cells (st8 f) 32 (0, 0))) := own_row8 hown3
      have b3 : Below wr.heap.size wr w3 := ⟨hgrow3.os.trans hgrow2.os, hgrow3.tape.trans hgrow2.tape, hgrow3.output.trans hgrow2.output, Nat.le_trans hgrow2.size hgrow3.size, fun k hk => (hgrow3.block k (by have := hgrow2.size; omega) (by intro e; cases e; omega)).trans (hgrow2.block k hk (by simp))⟩
      have B3 : Hid (Below w.heap.size w w3) := HB.out.trans (b3.mono hwl)
      have C3 : Hid (∀ k, k < 64 → w3.cell? ⟨p, k, none⟩ = some (.int .u32 (sch (bt s) k))) := fun k hk => (cell_same (b3.block p hpl) k).trans (CW.out k hk)
      have P3 : Hid (p < w3.heap.size) := Nat.lt_of_lt_of_le hpl b3.size
      obtain ⟨Wd, hWd⟩ : ∃ Wd, sch (bt s) = Wd := ⟨_, rfl⟩
      rw [hWd] at C3
      have HWd : Hid (Wd = sch (bt s)) := hWd.symm
      clear hWd
      have hbl : w.heap.size ≤ wr.heap.size := hwl
      generalize wr.heap.size = b0 at *
      clear hown2 hown3 hgrow2 hgrow3 hrun3 b3 CW G1 T1 HB hwl hpl
      go_loopw [9, 10] (fun v i wr => ∃ (t b : Nat), t ≤ 64 ∧ v = .slice (some ⟨b, 0, none⟩) 8 8 ∧ i = .int .i64 (t : Int) ∧ w.heap.size ≤ b ∧ wr.heap[b]? = some (.cells (st8 (stps Kt Wd f t)) 32 (0, 0)) ∧ (∀ k, k < 64 → wr.cell? ⟨p, k, none⟩ = some (.int .u32 (Wd k))) ∧ p < wr.heap.size ∧ Below w.heap.size w wr) (fun _ i _ => 64 - (intOf i).toNat)
      case atStart => exact ⟨0, b0, by omega, rfl, rfl, hbl, R3.out, C3.out, P3.out, B3.out⟩
      case round =>
        clear R3 C3 B3 P3 hbl
        obtain ⟨t, b, ht, rfl, rfl, hb, hrow, hcw, hpx, hbe⟩ := hrel
        have PX : Hid (p < wr.heap.size) := hpx
        have RX : Hid (wr.heap[b]? = some (.cells (st8 (stps Kt Wd f t)) 32 (0, 0))) := hrow
        have CX : Hid (∀ k, k < 64 → wr.cell? ⟨p, k, none⟩ = some (.int .u32 (Wd k))) := hcw
        have BX : Hid (Below w.heap.size w wr) := hbe
        clear hrow hcw hbe hpx
        by_cases hlt : t < 64
        · have a0 : (0 : Int) ≤ (t : Int) := by omega
          have a1 : (t : Int) < 64 := by omega
          have cel : ∀ k, k < 8 → wr.cell? ⟨b, k, none⟩ = some (.int .u32 (stps Kt Wd f t k)) := fun k hk => (cell_of_row wr b k _ _ _ RX.out).trans (st8_get _ k hk)
          have d0 := cel 0 (by decide)
          have d1 := cel 1 (by decide)
          have d2 := cel 2 (by decide)
          have d3 := cel 3 (by decide)
          have d4 := cel 4 (by decide)
          have d5 := cel 5 (by decide)
          have d6 := cel 6 (by decide)
          have d7 := cel 7 (by decide)
          have dw := CX.out t hlt
          have dk : wr.cell? ⟨1, t, none⟩ = some (.int .u32 (Kt t)) := (cell_of_row wr 1 t _ _ _ ((BX.out.block 1 h0l).trans HT.out)).trans (w64_get Kt t hlt)
          have HP : Hid (stps Kt Wd f (t + 1) = stp (stps Kt Wd f t) ((Kt t + Wd t) % 4294967296)) := rfl
          generalize stps Kt Wd f t = F at *
          have HF0 : Hid (∃ x, F 0 = x) := ⟨_, rfl⟩
          obtain ⟨F0, f0⟩ := HF0.out
          obtain ⟨F1, f1⟩ : ∃ x, F 1 = x := ⟨_, rfl⟩
          obtain ⟨F2, f2⟩ : ∃ x, F 2 = x := ⟨_, rfl⟩
          obtain ⟨F3, f3⟩ : ∃ x, F 3 = x := ⟨_, rfl⟩
          obtain ⟨F4, f4⟩ : ∃ x, F 4 = x := ⟨_, rfl⟩
          obtain ⟨F5, f5⟩ : ∃ x, F 5 = x := ⟨_, rfl⟩
          obtain ⟨F6, f6⟩ : ∃ x, F 6 = x := ⟨_, rfl⟩
          obtain ⟨F7, f7⟩ : ∃ x, F 7 = x := ⟨_, rfl⟩
          obtain ⟨Wt, hWt⟩ : ∃ x, Wd t = x := ⟨_, rfl⟩
          obtain ⟨Kk, hKk⟩ : ∃ x, Kt t = x := ⟨_, rfl⟩
          have HFF : Hid (F 0 = F0 ∧ F 1 = F1 ∧ F 2 = F2 ∧ F 3 = F3 ∧ F 4 = F4 ∧ F 5 = F5 ∧ F 6 = F6 ∧ F 7 = F7 ∧ Wd t = Wt ∧ Kt t = Kk) := ⟨f0, f1, f2, f3, f4, f5, f6, f7, hWt, hKk⟩
          rw [f0] at d0
          rw [f1] at d1
          rw [f2] at d2
          rw [f3] at d3
          rw [f4] at d4
          rw [f5] at d5
          rw [f6] at d6
          rw [f7] at d7
          rw [hWt] at dw
          rw [hKk] at dk
          have HSW : Hid (wr.cell? ⟨b, 0, none⟩ = some (.int .u32 F0) ∧ wr.cell? ⟨b, 1, none⟩ = some (.int .u32 F1) ∧ wr.cell? ⟨b, 2, none⟩ = some (.int .u32 F2) ∧ wr.cell? ⟨b, 3, none⟩ = some (.int .u32 F3) ∧ wr.cell? ⟨b, 4, none⟩ = some (.int .u32 F4) ∧ wr.cell? ⟨b, 5, none⟩ = some (.int .u32 F5) ∧ wr.cell? ⟨b, 6, none⟩ = some (.int .u32 F6) ∧ wr.cell? ⟨b, 7, none⟩ = some (.int .u32 F7) ∧ wr.cell? ⟨p, t, none⟩ = some (.int .u32 Wt) ∧ wr.cell? ⟨1, t, none⟩ = some (.int .u32 Kk)) := ⟨d0, d1, d2, d3, d4, d5, d6, d7, dw, dk⟩
          clear cel d1 d2 d3 d5 d6 d7 dw dk f0 f1 f2 f3 f4 f5 f6 f7 hWt hKk HF0
          go_wp2_with fail
          clear d0 d4
          refine wp_region_held (S := fun w' => w'.cell? ⟨b, 0, none⟩ = some (.int .u32 F0) ∧ w'.cell? ⟨b, 1, none⟩ = some (.int .u32 F1) ∧ w'.cell? ⟨b, 2, none⟩ = some (.int .u32 F2) ∧ w'.cell? ⟨b, 3, none⟩ = some (.int .u32 F3) ∧ w'.cell? ⟨b, 4, none⟩ = some (.int .u32 F4) ∧ w'.cell? ⟨b, 5, none⟩ = some (.int .u32 F5) ∧ w'.cell? ⟨b, 6, none⟩ = some (.int .u32 F6) ∧ w'.cell? ⟨b, 7, none⟩ = some (.int .u32 F7) ∧ w'.cell? ⟨p, t, none⟩ = some (.int .u32 Wt) ∧ w'.cell? ⟨1, t, none⟩ = some (.int .u32 Kk)) (by kernel_rfl) ?_
          change wpAnyH _ _ _ _ _ _ _ _ (World.drew _)
          refine plan [0, 1, 2, 3, 5, 8, 12, 13, 14, 15, 16, 17, 18, 19, 20, 21, 22, 23, 25, 26, 27, 29, 30, 31, 32] ?_
          iterate 25
            refine tkH (v := ?_) rfl (by kernel_rfl) (fun _ _ _ h => h) (by kernel_rfl) ?_ HSW.out ?_
            rotate_left
            · rintro w ⟨d0, d1, d2, d3, d4, d5, d6, d7, dw, dk⟩; go_simp; try with_reducible rfl
            conv in (Act.put _ _ _) => simp only [List.getElem_toArray, List.getElem_cons_succ, List.getElem_cons_zero, Act.put, List.setIfInBounds_toArray, List.set_cons_succ, List.set_cons_zero]
          refine plan0 ?_
          refine readyH 4 _ (by kernel_rfl) rfl (by kernel_rfl) (fun K hK => ?_)
          go_simp
          refine (turned_any 6 F4 (by unfold trOk; decide) _).mono ?_
          rintro e w1 ⟨rfl, q1, rfl⟩
          refine hK _ _ HSW.out ?_
          clear hK K
          refine readyH 6 _ (by kernel_rfl) rfl (by kernel_rfl) (fun K hK => ?_)
          go_simp
          refine (turned_any 11 F4 (by unfold trOk; decide) _).mono ?_
          rintro e w1 ⟨rfl, q2, rfl⟩
          refine hK _ _ HSW.out ?_
          clear hK K
          refine plan [7] ?_
          refine tkH (v := ?_) rfl (by kernel_rfl) (fun _ _ _ h => h) (by kernel_rfl) ?_ HSW.out ?_
          rotate_left
          · rintro w ⟨d0, d1, d2, d3, d4, d5, d6, d7, dw, dk⟩; go_simp; try with_reducible rfl
          conv in (Act.put _ _ _) => simp only [List.getElem_toArray, List.getElem_cons_succ, List.getElem_cons_zero, Act.put, List.setIfInBounds_toArray, List.set_cons_succ, List.set_cons_zero]
          refine plan0 ?_
          refine readyH 9 _ (by kernel_rfl) rfl (by kernel_rfl) (fun K hK => ?_)
          go_simp
          refine (turned_any 25 F4 (by unfold trOk; decide) _).mono ?_
          rintro e w1 ⟨rfl, q3, rfl⟩
          refine hK _ _ HSW.out ?_
          clear hK K
          refine plan [10, 11, 24, 28, 33] ?_
          iterate 5
            refine tkH (v := ?_) rfl (by kernel_rfl) (fun _ _ _ h => h) (by kernel_rfl) ?_ HSW.out ?_
            rotate_left
            · rintro w ⟨d0, d1, d2, d3, d4, d5, d6, d7, dw, dk⟩; go_simp; try with_reducible rfl
            conv in (Act.put _ _ _) => simp only [List.getElem_toArray, List.getElem_cons_succ, List.getElem_cons_zero, Act.put, List.setIfInBounds_toArray, List.set_cons_succ, List.set_cons_zero]
          refine plan0 ?_
          refine readyH 34 _ (by kernel_rfl) rfl (by kernel_rfl) (fun K hK => ?_)
          go_simp
          refine hK _ _ HSW.out ?_
          clear hK K
          refine wpAnyH_done (by kernel_rfl) ?_ _
          obtain ⟨N1, hN1⟩ : ∃ n, 1 + q1 + q2 + q3 = n := ⟨_, rfl⟩
          rw [hN1]
          clear hN1
          obtain ⟨X1, hX1⟩ : ∃ X, IntKind.u32.wrap (IntKind.u32.wrap (IntKind.u32.wrap (IntKind.u32.wrap (F7 + bits BinOp.xor IntKind.u32 (bits BinOp.xor IntKind.u32 (tr 6 F4) (tr 11 F4)) (tr 25 F4)) + bits BinOp.xor IntKind.u32 (bits BinOp.and IntKind.u32 F4 F5) (bits BinOp.and IntKind.u32 (bits BinOp.xor IntKind.u32 (if IntKind.u32.signed = true then -1 else IntKind.u32.max) F4) F6)) + Kk) + Wt) = X := ⟨_, rfl⟩
          rw [hX1]
          have HX1 : Hid (X1 = T1 F ((Kk + Wt) % 4294967296) % 4294967296) := by
            refine (?_ : X1 = T1 F ((Kk + Wt) % 4294967296) % 4294967296)
            obtain ⟨f0, f1, f2, f3, f4, f5, f6, f7, _⟩ := HFF.out
            rw [← hX1, tr_6, tr_11, tr_25, show (if IntKind.u32.signed = true then -1 else IntKind.u32.max) = IntKind.u32.max from rfl]
            unfold T1 s1 ch
            rw [f4, f5, f6, f7]
            generalize bits BinOp.xor IntKind.u32 (bits BinOp.xor IntKind.u32 (t6 F4) (t11 F4)) (t25 F4) = S1
            generalize bits BinOp.xor IntKind.u32 (bits BinOp.and IntKind.u32 F4 F5) (bits BinOp.and IntKind.u32 (bits BinOp.xor IntKind.u32 IntKind.u32.max F4) F6) = C1
            rw [IntKind.wrap_u32, IntKind.wrap_u32, IntKind.wrap_u32, IntKind.wrap_u32]
            omega
          clear hX1
          obtain ⟨W1, hW1⟩ : ∃ W, wr.drewN N1 = W := ⟨_, rfl⟩
          have BX1 : Hid (Below w.heap.size w W1) := by rw [← hW1]; exact below_drewN BX.out _
          have RX1 : Hid (W1.heap[b]? = some (.cells (st8 F) 32 (0, 0))) := by rw [← hW1]; exact RX.out
          have CX1 : Hid (∀ k, k < 64 → W1.cell? ⟨p, k, none⟩ = some (.int .u32 (Wd k))) := by rw [← hW1]; exact CX.out
          have PX1 : Hid (p < W1.heap.size) := by rw [← hW1]; exact PX.out
          have HSW1 : Hid (W1.cell? ⟨b, 0, none⟩ = some (.int .u32 F0) ∧ W1.cell? ⟨b, 1, none⟩ = some (.int .u32 F1) ∧ W1.cell? ⟨b, 2, none⟩ = some (.int .u32 F2) ∧ W1.cell? ⟨b, 3, none⟩ = some (.int .u32 F3) ∧ W1.cell? ⟨b, 4, none⟩ = some (.int .u32 F4) ∧ W1.cell? ⟨b, 5, none⟩ = some (.int .u32 F5) ∧ W1.cell? ⟨b, 6, none⟩ = some (.int .u32 F6) ∧ W1.cell? ⟨b, 7, none⟩ = some (.int .u32 F7) ∧ W1.cell? ⟨p, t, none⟩ = some (.int .u32 Wt) ∧ W1.cell? ⟨1, t, none⟩ = some (.int .u32 Kk)) := by rw [← hW1]; exact HSW.out
          rw [hW1]
          clear hW1 BX RX CX PX HSW
          have HSW := HSW1
          clear HSW1
          go_wp2_with fail
          refine wp_region_held (S := fun w' => w'.cell? ⟨b, 0, none⟩ = some (.int .u32 F0) ∧ w'.cell? ⟨b, 1, none⟩ = some (.int .u32 F1) ∧ w'.cell? ⟨b, 2, none⟩ = some (.int .u32 F2) ∧ w'.cell? ⟨b, 3, none⟩ = some (.int .u32 F3) ∧ w'.cell? ⟨b, 4, none⟩ = some (.int .u32 F4) ∧ w'.cell? ⟨b, 5, none⟩ = some (.int .u32 F5) ∧ w'.cell? ⟨b, 6, none⟩ = some (.int .u32 F6) ∧ w'.cell? ⟨b, 7, none⟩ = some (.int .u32 F7) ∧ w'.cell? ⟨p, t, none⟩ = some (.int .u32 Wt) ∧ w'.cell? ⟨1, t, none⟩ = some (.int .u32 Kk)) (by kernel_rfl) ?_
          change wpAnyH _ _ _ _ _ _ _ _ (World.drew _)
          refine plan [0, 2, 5, 8, 9, 10, 11, 12, 13, 14, 15, 16, 17, 18, 19, 20, 21, 22, 23, 24, 25, 26] ?_
          iterate 22
            refine tkH (v := ?_) rfl (by kernel_rfl) (fun _ _ _ h => h) (by kernel_rfl) ?_ HSW.out ?_
            rotate_left
            · rintro w ⟨d0, d1, d2, d3, d4, d5, d6, d7, dw, dk⟩; go_simp; try with_reducible rfl
            conv in (Act.put _ _ _) => simp only [List.getElem_toArray, List.getElem_cons_succ, List.getElem_cons_zero, Act.put, List.setIfInBounds_toArray, List.set_cons_succ, List.set_cons_zero]
          refine plan0 ?_
          refine readyH 1 _ (by kernel_rfl) rfl (by kernel_rfl) (fun K hK => ?_)
          go_simp
          refine (turned_any 2 F0 (by unfold trOk; decide) _).mono ?_
          rintro e w1 ⟨rfl, q4, rfl⟩
          refine hK _ _ HSW.out ?_
          clear hK K
          refine readyH 3 _ (by kernel_rfl) rfl (by kernel_rfl) (fun K hK => ?_)
          go_simp
          refine (turned_any 13 F0 (by unfold trOk; decide) _).mono ?_
          rintro e w1 ⟨rfl, q5, rfl⟩
          refine hK _ _ HSW.out ?_
          clear hK K
          refine plan [4] ?_
          refine tkH (v := ?_) rfl (by kernel_rfl) (fun _ _ _ h => h) (by kernel_rfl) ?_ HSW.out ?_
          rotate_left
          · rintro w ⟨d0, d1, d2, d3, d4, d5, d6, d7, dw, dk⟩; go_simp; try with_reducible rfl
          conv in (Act.put _ _ _) => simp only [List.getElem_toArray, List.getElem_cons_succ, List.getElem_cons_zero, Act.put, List.setIfInBounds_toArray, List.set_cons_succ, List.set_cons_zero]
          refine plan0 ?_
          refine readyH 6 _ (by kernel_rfl) rfl (by kernel_rfl) (fun K hK => ?_)
          go_simp
          refine (turned_any 22 F0 (by unfold trOk; decide) _).mono ?_
          rintro e w1 ⟨rfl, q6, rfl⟩
          refine hK _ _ HSW.out ?_
          clear hK K
          refine plan [7, 27] ?_
          iterate 2
            refine tkH (v := ?_) rfl (by kernel_rfl) (fun _ _ _ h => h) (by kernel_rfl) ?_ HSW.out ?_
            rotate_left
            · rintro w ⟨d0, d1, d2, d3, d4, d5, d6, d7, dw, dk⟩; go_simp; try with_reducible rfl
            conv in (Act.put _ _ _) => simp only [List.getElem_toArray, List.getElem_cons_succ, List.getElem_cons_zero, Act.put, List.setIfInBounds_toArray, List.set_cons_succ, List.set_cons_zero]
          refine plan0 ?_
          refine readyH 28 _ (by kernel_rfl) rfl (by kernel_rfl) (fun K hK => ?_)
          go_simp
          refine hK _ _ HSW.out ?_
          clear hK K
          refine wpAnyH_done (by kernel_rfl) ?_ _
          obtain ⟨N2, hN2⟩ : ∃ n, 1 + q4 + q5 + q6 = n := ⟨_, rfl⟩
          rw [hN2]
          clear hN2
          obtain ⟨X2, hX2⟩ : ∃ X, IntKind.u32.wrap (bits BinOp.xor IntKind.u32 (bits BinOp.xor IntKind.u32 (tr 2 F0) (tr 13 F0)) (tr 22 F0) + bits BinOp.xor IntKind.u32 (bits BinOp.xor IntKind.u32 (bits BinOp.and IntKind.u32 F0 F1) (bits BinOp.and IntKind.u32 F0 F2)) (bits BinOp.and IntKind.u32 F1 F2)) = X := ⟨_, rfl⟩
          rw [hX2]
          have HX2 : Hid (X2 = T2 F % 4294967296) := by
            refine (?_ : X2 = T2 F % 4294967296)
            obtain ⟨f0, f1, f2, f3, f4, f5, f6, f7, _⟩ := HFF.out
            rw [← hX2, tr_2, tr_13, tr_22, IntKind.wrap_u32]
            unfold T2 s0 mj
            rw [f0, f1, f2]
          clear hX2
          obtain ⟨W2, hW2⟩ : ∃ W, W1.drewN N2 = W := ⟨_, rfl⟩
          have BX2 : Hid (Below w.heap.size w W2) := by rw [← hW2]; exact below_drewN BX1.out _
          have RX2 : Hid (W2.heap[b]? = some (.cells (st8 F) 32 (0, 0))) := by rw [← hW2]; exact RX1.out
          have CX2 : Hid (∀ k, k < 64 → W2.cell? ⟨p, k, none⟩ = some (.int .u32 (Wd k))) := by rw [← hW2]; exact CX1.out
          have PX2 : Hid (p < W2.heap.size) := by rw [← hW2]; exact PX1.out
          have HSW2 : Hid (W2.cell? ⟨b, 0, none⟩ = some (.int .u32 F0) ∧ W2.cell? ⟨b, 1, none⟩ = some (.int .u32 F1) ∧ W2.cell? ⟨b, 2, none⟩ = some (.int .u32 F2) ∧ W2.cell? ⟨b, 3, none⟩ = some (.int .u32 F3) ∧ W2.cell? ⟨b, 4, none⟩ = some (.int .u32 F4) ∧ W2.cell? ⟨b, 5, none⟩ = some (.int .u32 F5) ∧ W2.cell? ⟨b, 6, none⟩ = some (.int .u32 F6) ∧ W2.cell? ⟨b, 7, none⟩ = some (.int .u32 F7) ∧ W2.cell? ⟨p, t, none⟩ = some (.int .u32 Wt) ∧ W2.cell? ⟨1, t, none⟩ = some (.int .u32 Kk)) := by rw [← hW2]; exact HSW.out
          rw [hW2]
          clear hW2 BX1 RX1 CX1 PX1 HSW
          have HSW := HSW2
          clear HSW2
          go_wp2_with fail
          refine wp_region_held (S := fun w' => w'.cell? ⟨b, 0, none⟩ = some (.int .u32 F0) ∧ w'.cell? ⟨b, 1, none⟩ = some (.int .u32 F1) ∧ w'.cell? ⟨b, 2, none⟩ = some (.int .u32 F2) ∧ w'.cell? ⟨b, 3, none⟩ = some (.int .u32 F3) ∧ w'.cell? ⟨b, 4, none⟩ = some (.int .u32 F4) ∧ w'.cell? ⟨b, 5, none⟩ = some (.int .u32 F5) ∧ w'.cell? ⟨b, 6, none⟩ = some (.int .u32 F6) ∧ w'.cell? ⟨b, 7, none⟩ = some (.int .u32 F7) ∧ w'.cell? ⟨p, t, none⟩ = some (.int .u32 Wt) ∧ w'.cell? ⟨1, t, none⟩ = some (.int .u32 Kk)) (by kernel_rfl) ?_
          change wpAnyH _ _ _ _ _ _ _ _ (World.drew _)
          refine plan [0, 1, 2, 3, 4, 5, 6, 7, 8, 9, 10, 11, 12, 13, 14, 15, 16, 17, 18, 19, 20, 21, 22, 23, 24, 25] ?_
          iterate 26
            refine tkH (v := ?_) rfl (by kernel_rfl) (fun _ _ _ h => h) (by kernel_rfl) ?_ HSW.out ?_
            rotate_left
            · rintro w ⟨d0, d1, d2, d3, d4, d5, d6, d7, dw, dk⟩; go_simp; try with_reducible rfl
            conv in (Act.put _ _ _) => simp only [List.getElem_toArray, List.getElem_cons_succ, List.getElem_cons_zero, Act.put, List.setIfInBounds_toArray, List.set_cons_succ, List.set_cons_zero]
          refine plan0 ?_
          refine readyH 26 _ (by kernel_rfl) rfl (by kernel_rfl) (fun K hK => ?_)
          go_simp
          obtain ⟨Fn, hFn⟩ : ∃ Fn, stp F ((Kk + Wt) % 4294967296) = Fn := ⟨_, rfl⟩
          have HR : (#[.int .u32 (IntKind.u32.wrap (X1 + X2)), .int .u32 F0, .int .u32 F1, .int .u32 F2, .int .u32 (IntKind.u32.wrap (F3 + X1)), .int .u32 F4, .int .u32 F5, .int .u32 F6] : Array Value) = st8 Fn := by
            obtain ⟨f0, f1, f2, f3, f4, f5, f6, f7, _⟩ := HFF.out
            have g0 : IntKind.u32.wrap (X1 + X2) = (T1 F ((Kk + Wt) % 4294967296) + T2 F) % 4294967296 := by rw [HX1.out, HX2.out, IntKind.wrap_u32]; omega
            have g4 : IntKind.u32.wrap (F3 + X1) = (F 3 + T1 F ((Kk + Wt) % 4294967296)) % 4294967296 := by rw [HX1.out, f3, IntKind.wrap_u32]; omega
            rw [g0, g4, ← hFn, ← f0, ← f1, ← f2, ← f4, ← f5, ← f6]
            rfl
          rw [HR]
          clear HR
          have hb2 : b < W2.heap.size := (Array.getElem?_eq_some_iff.1 RX2.out).1
          obtain ⟨W3, hW3⟩ : ∃ W, (W2.alloc (.cells (st8 Fn) 32)).drew = W := ⟨_, rfl⟩
          have bw3 : Below W2.heap.size W2 W3 := by rw [← hW3]; exact (below_new W2 _).drew
          have R3 : Hid (W3.heap[W2.heap.size]? = some (.cells (st8 Fn) 32 (0, 0))) := by rw [← hW3]; exact heap_alloc_new W2 _
          have HSW3 : Hid (W3.cell? ⟨b, 0, none⟩ = some (.int .u32 F0) ∧ W3.cell? ⟨b, 1, none⟩ = some (.int .u32 F1) ∧ W3.cell? ⟨b, 2, none⟩ = some (.int .u32 F2) ∧ W3.cell? ⟨b, 3, none⟩ = some (.int .u32 F3) ∧ W3.cell? ⟨b, 4, none⟩ = some (.int .u32 F4) ∧ W3.cell? ⟨b, 5, none⟩ = some (.int .u32 F5) ∧ W3.cell? ⟨b, 6, none⟩ = some (.int .u32 F6) ∧ W3.cell? ⟨b, 7, none⟩ = some (.int .u32 F7) ∧ W3.cell? ⟨p, t, none⟩ = some (.int .u32 Wt) ∧ W3.cell? ⟨1, t, none⟩ = some (.int .u32 Kk)) := by
            obtain ⟨d0, d1, d2, d3, d4, d5, d6, d7, dw, dk⟩ := HSW.out
            have kb := bw3.block b hb2
            have kp := bw3.block p PX2.out
            have k0 := bw3.block 1 (by omega)
            exact ⟨(cell_same kb _).trans d0, (cell_same kb _).trans d1, (cell_same kb _).trans d2, (cell_same kb _).trans d3, (cell_same kb _).trans d4, (cell_same kb _).trans d5, (cell_same kb _).trans d6, (cell_same kb _).trans d7, (cell_same kp _).trans dw, (cell_same k0 _).trans dk⟩
          have B3 : Hid (Below w.heap.size w W3) := BX2.out.trans (bw3.mono BX2.out.size)
          have C3 : Hid (∀ k, k < 64 → W3.cell? ⟨p, k, none⟩ = some (.int .u32 (Wd k))) := fun k hk => (cell_same (bw3.block p PX2.out) k).trans (CX2.out k hk)
          have P3 : Hid (p < W3.heap.size) := Nat.lt_of_lt_of_le PX2.out bw3.size
          have SZ : Hid (w.heap.size ≤ W2.heap.size) := BX2.out.size
          have HN : Hid (stps Kt Wd f (t + 1) = Fn) := by
            obtain ⟨_, _, _, _, _, _, _, _, e1, e2⟩ := HFF.out
            refine (?_ : stps Kt Wd f (t + 1) = Fn)
            rw [HP.out, e1, e2]; exact hFn
          rw [hW3]
          clear hW3 bw3 HSW BX2 RX2 CX2 PX2 hFn HX1 HX2 HFF HP
          refine hK _ _ HSW3.out ?_
          clear hK K
          refine readyH 27 _ (by kernel_rfl) rfl (by kernel_rfl) (fun K hK => ?_)
          go_simp
          refine hK _ _ HSW3.out ?_
          clear hK K
          refine wpAnyH_done (by kernel_rfl) ?_ _
          clear HSW3
          go_wp2_with fail
          go_roundw
          case rel => exact ⟨t + 1, _, by omega, rfl, by go_num, SZ.out, by rw [HN.out]; exact R3.out, C3.out, P3.out, B3.out⟩
          case measure => simp [intOf]; omega
        · obtain rfl : t = 64 := by omega
          have hgb : b ≠ g := by omega
          have G4 : Hid (wr.heap[g]? = some (.cells (st8 f) tg fr0)) := (BX.out.block g hgl).trans HG.out
          have HC : Hid (∀ i, i < 8 → adTo (stps Kt Wd f 64) f 8 i = chg Kt f (bt s) i) := fun i hi => by
            rw [HWd.out]
            simp only [adTo, hi, if_true, chg]
            rw [Int.add_comm]
          generalize stps Kt Wd f 64 = GG at *
          clear CX PX ht hlt HT HS
          go_wp2_with fail
          go_loopw [15] (fun i wx => ∃ k : Nat, k ≤ 8 ∧ i = .int .i64 (k : Int) ∧ wx.heap[b]? = some (.cells (st8 (adTo GG f k)) 32 (0, 0)) ∧ wx.heap[g]? = some (.cells (st8 f) tg fr0) ∧ Below w.heap.size w wx) (fun i _ => 8 - (intOf i).toNat)
          case atStart => exact ⟨0, by omega, rfl, by rw [RX.out, st8_congr (g := adTo GG f 0) (fun i _ => by simp [adTo])], G4.out, BX.out⟩
          case round =>
            clear RX G4 BX
            obtain ⟨k, hk, rfl, hrow, hgr, hbe⟩ := hrel
            have RX : Hid (wr.heap[b]? = some (.cells (st8 (adTo GG f k)) 32 (0, 0))) := hrow
            have G4 : Hid (wr.heap[g]? = some (.cells (st8 f) tg fr0)) := hgr
            have BX : Hid (Below w.heap.size w wr) := hbe
            clear hgr hbe
            by_cases hlt : k < 8
            · have cw : wr.cell? ⟨b, k, none⟩ = some (.int .u32 (GG k)) := by rw [(cell_of_row wr _ k _ _ _ hrow).trans (st8_get _ k hlt), adTo_at]
              have cg : wr.cell? ⟨g, k, none⟩ = some (.int .u32 (f k)) := (cell_of_row wr _ k _ _ _ G4.out).trans (st8_get _ k hlt)
              have hz := frozen_of_row wr b k _ _ hrow
              have g0 : (0 : Int) ≤ (k : Int) := by omega
              have g1 : (k : Int) < 8 := by omega
              clear hrow
              go_wp2_with fail
              go_region
              go_wp2
              have fB : (wr.setCell ⟨b, k, none⟩ (.int .u32 ((GG k + f k) % 4294967296))).heap[b]? = some (.cells (st8 (adTo GG f (k + 1))) 32 (0, 0)) := by
                rw [heap_setCell_same wr b k _ _ _ RX.out, st8_set _ _ _ hlt, adTo_succ]
              exact ⟨⟨k + 1, by omega, by go_num, fB, (Below.heap_setCell _ _ _ _ (fun e => hgb e.symm)).trans G4.out, (BX.out.setCell hb _).drew⟩, by simp [intOf]; omega⟩
            · obtain rfl : k = 8 := by omega
              clear hrow
              go_wp2_with fail
              go_ret
              exact ⟨b, rfl, hb, by rw [RX.out, st8_congr HC.out], BX.out⟩
open Go.RowKit Go.Shelf Go.Lib
attribute [local go_sem] Oper.semAt_some
def natOf:Value→Nat|.int _ x=>x.toNat|_=>0
theorem bt_out (s:ByteArray) (k:Nat) (h:s.size≤k):bt s k=0:=by
 unfold bt
 rw[Array.getElem?_eq_none (by exact h)]
 rfl
theorem idx_s (s:ByteArray) (p:Nat) (hp:p<s.size) (w:World):(Instr.index 9 (.string s) (.int .i64 (p:Int))).run Tryz.prog w=.ok (.int .u8 (bt s p)) w:=by
 have h0:(p:Int)<(s.size:Int):=by omega
 simp[Instr.index,run_underlying Tryz.underlying9,go_sem,hp]
 unfold bt
 rw[Array.getElem?_eq_getElem (by exact hp)]
 rfl
theorem filled1_in (s:ByteArray) (b1 N:Nat) (hN:N≤1000000) (w0:World) (hb1:b1<w0.heap.size) (h1:w0.heap[b1]? =some (.cells #[.string s] 9 (0,0))):
  Yields8 180 #[.pointer (some ⟨b1,0,none⟩)] (bt s) N w0:=by
 intro l W hKq R Rx hR hRx hY hN' h0
 have HY:Hid _:=hY
 have HN:Hid _:=hN'
 have HR:Hid _:=hR
 have HRx:Hid _:=hRx
 have H0:Hid (R 0 W):=h0
 have HB:Hid (W.heap[b1]? =some (.cells #[.string s] 9 (0,0))):=hKq.2 b1 _ hb1 h1 rfl
 clear hY hN' hR hRx h0 hKq h1
 refine callsIn_of_wp Tryz.func180 rfl trivial ?_ rfl
 simp only[Tryz.ntmps180,List.size_toArray,List.length_cons,List.length_nil,Nat.reduceAdd,Nat.reduceSub,Array.replicate_succ,Array.replicate_zero,List.push_toArray,List.append_toArray,List.nil_append,List.cons_append]
 gi_wp2
 gi_loopw [3] (fun i wr=>∃ k:Nat,i=.int .i64 (k:Int)∧R k wr∧wr.heap[b1]? =some (.cells #[.string s] 9 (0,0))) (fun i _=>N - natOf i)
 case atStart=>exact⟨0,rfl,H0.out,HB.out⟩
 case round=>
  clear H0 HB
  obtain⟨k,rfl,hRk,hb⟩:=hrel
  have HRk:Hid (R k wr):=hRk
  have HB:Hid (wr.heap[b1]? =some (.cells #[.string s] 9 (0,0))):=hb
  have hkN:=HN.out k wr hRk
  have c1:wr.cell? ⟨b1,0,none⟩=some (.string s):=by rw[cell_of_row _ _ _ _ _ _ hb];rfl
  have k0:(0:Int)≤(k:Int):=by omega
  have k1:(k:Int)≤1000000:=by omega
  obtain⟨fn,tmps,assign,body,hy,hRd⟩:=HY.out k wr hRk
  clear hRk hb
  by_cases hlt:k<s.size
  ·have q1:(k:Int)<(s.size:Int):=by omega
   have hix:=idx_s s k hlt
   generalize bt s k=x at*
   gi_wp2
   refine hRd.mono ?_
   rintro e W6 (⟨rfl,hR6,hk6⟩|⟨rfl,hx6⟩)
   ·gi_wp2
    go_roundw
    case rel=>exact⟨k+1,by go_num,hR6,hk6.2 b1 _ hb1 HB.out rfl⟩
    case measure=>simp[natOf];omega
   ·gi_wp2
    refine bodyPost_ret (results_none rfl _ _ _) rfl ?_
    exact⟨⟨_,rfl⟩,hx6⟩
  ·have q1:¬(k:Int)<(s.size:Int):=by omega
   rw[bt_out s k (by omega)] at hy
   gi_wp2
   refine hRd.mono ?_
   rintro e W6 (⟨rfl,hR6,hk6⟩|⟨rfl,hx6⟩)
   ·gi_wp2
    go_roundw
    case rel=>exact⟨k+1,by go_num,hR6,hk6.2 b1 _ hb1 HB.out rfl⟩
    case measure=>simp[natOf];omega
   ·gi_wp2
    refine bodyPost_ret (results_none rfl _ _ _) rfl ?_
    exact⟨⟨_,rfl⟩,hx6⟩
theorem filled_any8 (s:ByteArray) (w:World):
  Calls Tryz.prog 166 #[.string s] w fun e w'=>e=.returned (.func (.func 180) #[] #[.pointer (some ⟨w.heap.size,0,none⟩)])∧w'=w.alloc (.cells #[.string s] 9):=by
 go_enter Tryz.func166,Tryz.ntmps166
 go_wp2_with fail
 go_ret
 exact⟨rfl,rfl⟩
theorem firstFilled_any (s:ByteArray) (n:Nat) (hn:n≤100000) (w:World) (b1:Nat) (h1:w.heap[b1]? =some (.cells #[.string s] 9 (0,0))):
  Calls Tryz.prog 165 #[.int .i64 (n:Int),.func (.func 180) #[] #[.pointer (some ⟨b1,0,none⟩)]] w fun e w'=>e=.returned (.string (strOfNums (upto (bt s) n)))∧Below w.heap.size w w':=
 callsIn_wide.1 (first_in 180 _ (bt s) n hn w (enters_of Tryz.func180 (by kernel_rfl) rfl) (filled1_in s b1 (max n 1) (by omega) w (Array.getElem?_eq_some_iff.1 h1).1 h1))
def kp (Kt:Nat→Int) (key:ByteArray):ByteArray:=if 64<key.size then strOfNums (dig Kt (lf IV) (bt key) key.size) else key
def kpart (Kt:Nat→Int) (key:ByteArray):ByteArray:=strOfNums (upto (bt (kp Kt key)) 64)
theorem part_any (Kt:Nat→Int) (key:ByteArray) (hk:key.size≤1000000) (w:World) {tt:TypeId} {fr:Nat × Nat} (hK:w.heap[3]? =some (.cells (w64 Kt) tt fr)):
  Calls Tryz.prog 141 #[.string key] w fun e w'=>e=.returned (.string (kpart Kt key))∧Below w.heap.size w w':=by
 have FA:∀ (s:ByteArray) (W:World),Hid (Calls Tryz.prog 165 #[.int .i64 64,.func (.func 180) #[] #[.pointer (some ⟨W.heap.size,0,none⟩)]] (W.alloc (.cells #[.string s] 9)) fun e w'=>e=.returned (.string (strOfNums (upto (bt s) 64)))∧Below W.heap.size W w'):=fun s W=>
  (firstFilled_any s 64 (by decide) (W.alloc (.cells #[.string s] 9)) W.heap.size (heap_alloc_new W _)).mono fun e w' ⟨h1,h2⟩=>⟨h1,(below_new W _).trans (h2.mono (by simp))⟩
 have HK:Hid (w.heap[3]? =some (.cells (w64 Kt) tt fr)):=hK
 clear hK
 by_cases h64:64<key.size
 ·have q1:(64:Int)<(key.size:Int):=by omega
  have HP:Hid (kpart Kt key=strOfNums (upto (bt (strOfNums (dig Kt (lf IV) (bt key) key.size))) 64)):=by
   refine(?_:kpart Kt key=_);unfold kpart kp;rw[if_pos h64]
  have hds:(strOfNums (dig Kt (lf IV) (bt key) key.size)).size=32:=by rw[strOfNums_size,dig_length]
  go_enter Tryz.func141,Tryz.ntmps141
  go_wp2_with fail
  refine(shaSum_any Kt key w HK.out (by omega)).mono ?_
  rintro e w1 ⟨rfl,b1⟩
  have B1:Hid (Below w.heap.size w w1):=b1
  generalize strOfNums (dig Kt (lf IV) (bt key) key.size)=D at*
  clear b1
  go_wp2_with fail
  refine(filled_any8 D w1).mono ?_
  rintro e w2 ⟨rfl,rfl⟩
  have F2:=FA D w1
  clear FA
  go_wp2_with fail
  refine F2.out.mono ?_
  rintro e w3 ⟨rfl,b3⟩
  have B3:Hid (Below w.heap.size w w3):=B1.out.trans (b3.mono B1.out.size)
  clear b3 B1 F2
  go_wp2_with fail
  go_ret
  exact⟨by rw[HP.out];rfl,B3.out⟩
 ·have q1:¬(64:Int)<(key.size:Int):=by omega
  have HP:Hid (kpart Kt key=strOfNums (upto (bt key) 64)):=by
   refine(?_:kpart Kt key=_);unfold kpart kp;rw[if_neg h64]
  have F2:=FA key w
  clear FA
  go_enter Tryz.func141,Tryz.ntmps141
  go_wp2_with fail
  refine(filled_any8 key w).mono ?_
  rintro e w2 ⟨rfl,rfl⟩
  go_wp2_with fail
  refine F2.out.mono ?_
  rintro e w3 ⟨rfl,b3⟩
  have B3:Hid (Below w.heap.size w w3):=b3
  clear b3 F2
  go_wp2_with fail
  go_ret
  exact⟨by rw[HP.out];rfl,B3.out⟩
end Go.Proofs.YtfaflomephjkgaaGreatDoor
namespace Go.Proofs.YtfaflomephjkgaaGreatDoor
open Go.RowKit Go.Lib
def msk (s:ByteArray) (c:Int):ByteArray:=strOfNums (upto (fun j=>bits .xor .u8 (bt s j) c) s.size)
theorem msk_size (s:ByteArray) (c:Int):(msk s c).size=s.size:=by unfold msk;rw[strOfNums_size,upto_length]
theorem set_at (w:World) (b i:Nat) (cs:Array Value) (T:TypeId) (fr:Nat × Nat) (v:Value) (hb:w.heap[b]? =some (.cells cs T fr)):(w.setCell ⟨b,i,none⟩ v).heap[b]? =some (.cells (cs.setIfInBounds i v) T fr):=by
 rw[setCell_eq_setRow w b i cs T fr v hb]
 exact setRow_heap w b cs _ T _ hb
theorem masked_any (s:ByteArray) (hs:s.size≤1000000) (c:Int) (w:World):
  Calls Tryz.prog 142 #[.string s,.int .u8 c] w fun e w'=>e=.returned (.string (msk s c))∧Below w.heap.size w w':=by
 have hcv:=run_bytes_of_string (P:=Tryz.prog) w 9 98 5 s Tryz.underlying9 Tryz.underlying98 Tryz.underlying5
 obtain⟨cap,hcap⟩:∃ cap,grownCap w s.size 0 5=cap:=⟨_,rfl⟩
 rw[hcap] at hcv
 obtain⟨Z,hZ⟩:∃ Z,(bytesRow s cap).size=Z:=⟨_,rfl⟩
 rw[hZ] at hcv
 have hZs:s.size≤Z:=by
  rw[←hZ];unfold bytesRow;rw[Array.size_append,Array.size_map];exact Nat.le_add_right _ _
 obtain⟨W1,hW1⟩:∃ W1,w.drew.alloc (.cells (bytesRow s cap) 5 (Z,Z+1))=W1:=⟨_,rfl⟩
 rw[hW1] at hcv
 have R1:Hid (W1.heap[w.heap.size]? =some (.cells (bytesRow s cap) 5 (Z,Z+1))):=by rw[←hW1];exact heap_alloc_new w.drew _
 have B1:Hid (Below w.heap.size w W1):=by rw[←hW1];exact((Below.refl _ w).drew).alloc (Nat.le_refl _) _
 have C1:Hid (∀ j,j<s.size→(bytesRow s cap)[j]? =some (.int .u8 (bt s j))):=fun j hj=>by
  rw[bytesRow_at s cap j hj];unfold bt;rw[Array.getElem?_eq_getElem hj];rfl
 have hsz:(s.size:Int)≤1000000:=by omega
 generalize bytesRow s cap=cs at*
 clear hW1 hcap hZ
 go_enter Tryz.func142,Tryz.ntmps142
 go_wp2_with fail
 go_loopw [11] (fun i wr=>∃ (k:Nat) (ds:Array Value),k≤s.size∧i=.int .i64 (k:Int)∧wr.heap[w.heap.size]? =some (.cells ds 5 (Z,Z+1))∧(∀ j,j<s.size→ds[j]? =some (.int .u8 (if j<k then bits .xor .u8 (bt s j) c else bt s j)))∧Below w.heap.size w wr) (fun i _=>s.size - (intOf i).toNat)
 case atStart=>exact⟨0,cs,by omega,rfl,R1.out,fun j hj=>by simpa using C1.out j hj,B1.out⟩
 case round=>
  clear R1 B1 C1
  obtain⟨k,ds,hk,rfl,hrow,hds,hbe⟩:=hrel
  have RX:Hid (wr.heap[w.heap.size]? =some (.cells ds 5 (Z,Z+1))):=hrow
  have DX:Hid (∀ j,j<s.size→ds[j]? =some (.int .u8 (if j<k then bits .xor .u8 (bt s j) c else bt s j))):=hds
  have BX:Hid (Below w.heap.size w wr):=hbe
  clear hds hbe
  by_cases hlt:k<s.size
  ·have c1:wr.cell? ⟨w.heap.size,k,none⟩=some (.int .u8 (bt s k)):=by rw[cell_of_row _ _ _ _ _ _ hrow,DX.out k hlt];simp
   have hz:wr.frozen? ⟨w.heap.size,k,none⟩=false:=by simp[World.frozen?,hrow];omega
   have g0:(0:Int)≤(k:Int):=by omega
   have g1:(k:Int)<(s.size:Int):=by omega
   clear hrow
   obtain⟨x,hx⟩:∃ x,bt s k=x:=⟨_,rfl⟩
   have HX:Hid (bt s k=x):=hx
   rw[hx] at c1
   clear hx
   go_wp2_with fail
   go_roundw
   case rel=>
    refine⟨k+1,ds.setIfInBounds k (.int .u8 (bits .xor .u8 x c)),hlt,by go_num,set_at _ _ _ _ _ _ _ RX.out,fun j hj=>?_,BX.out.setCell (Nat.le_refl _) _⟩
    by_cases e:j=k
    ·subst e
     rw[Array.getElem?_setIfInBounds_self_of_lt (by have:=DX.out j hj;exact(Array.getElem?_eq_some_iff.1 this).1),if_pos (by omega),HX.out]
    ·rw[Array.getElem?_setIfInBounds_ne (fun h=>e h.symm),DX.out j hj]
     by_cases h2:j<k
     ·rw[if_pos h2,if_pos (by omega)]
     ·rw[if_neg h2,if_neg (by omega)]
   case measure=>simp[intOf];omega
  ·obtain rfl:k=s.size:=by omega
   have a0:¬(s.size:Int)<(s.size:Int):=by omega
   have hcb:(convert 98 9 (.slice (some ⟨w.heap.size,0,none⟩) s.size cap)).run Tryz.prog wr=.ok (.string (msk s c)) wr:=by
    unfold msk
    refine run_convert_bytes_arg wr 98 5 Tryz.underlying98 Tryz.underlying5 w.heap.size 0 s.size cap _ (by rw[upto_length]) (fun i hi=>?_) 9 Tryz.underlying9
    rw[Nat.zero_add,cell_of_row _ _ _ _ _ _ hrow,DX.out i hi,if_pos hi]
    simp[upto,List.getD,hi]
   clear hrow
   go_wp2_with fail
   go_ret
   exact⟨rfl,BX.out⟩
end Go.Proofs.YtfaflomephjkgaaGreatDoor
