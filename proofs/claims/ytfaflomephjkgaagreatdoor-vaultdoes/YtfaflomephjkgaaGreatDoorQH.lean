import Derived.Test.YtfaflomephjkgaaGreatDoorQE
import Derived.Test.YtfaflomephjkgaaGreatDoorQYM
import Derived.Deep.QuietTactic
import Derived.BigQuiet
import Derived.RegionTactic
import Derived.Maps.AppendAt
import Derived.OrdersHeld
set_option maxRecDepth 100000
set_option maxHeartbeats 2000000
namespace Go.Proofs.YtfaflomephjkgaaGreatDoor
open Go.RowKit Go.Lib
def b4 (x:Int):List Int:=[x/16777216%256,x/65536%256,x/256%256,x%256]
def bw (f:Nat→Int):Nat→List Int
 |0=>[]
 |k+1=>bw f k++b4 (f k)
theorem bw_length (f:Nat→Int) (k:Nat):(bw f k).length=4*k:=by
 induction k with
 |zero=>rfl
 |succ k ih=>unfold bw;rw[List.length_append,ih];simp[b4];omega
theorem cell_four (w:World) (a b c d:Value) (t:TypeId):∀ j u,[a,b,c,d][j]? =some u→(w.alloc (.cells #[a,b,c,d] t)).cell? ((⟨w.heap.size,0,none⟩:Addr).add j)=some u:=fun j u hj=>by
 rw[Addr.add_lit,Nat.zero_add,cell_of_row _ _ _ _ _ _ (heap_alloc_new w _)]
 simpa using hj
theorem text_any (f : Nat → Int) (w : World) :
    Calls Tryz.prog 185 #[.agg (st8 f)] w fun e w' => e = .returned (.string (strOfNums (bw f 8))) ∧ Below w.heap.size w w' := by
  obtain ⟨i0, hi, hz0, hz1, hz2⟩ := info_parts info5
  have H1 : Hid ((w.alloc (.cells (st8 f) 218)).heap[w.heap.size]? = some (.cells (st8 f) 218 (0, 0))) := heap_alloc_new w _
  have B1 : Hid (Below w.heap.size w (w.alloc (.cells (st8 f) 218))) := (Below.refl _ w).alloc (Nat.le_refl _) _
  have S1 : Hid ((w.alloc (.cells (st8 f) 218)).heap.size = w.heap.size + 1) := by refine (?_ : _ = _); simp
  go_enter Tryz.func185, Tryz.ntmps185
  go_wp2_with (first
    | (at_make; refine wpList_make_own _ rfl _ _ 98 rfl (w.heap.size + 1) 5 i0 (.int .u8 0) 1 Tryz.underlying98 hi hz0 hz1 .i64 .i64 32 32 rfl rfl rfl (by rw [hz2]; decide) (by decide) (by simp) ?_; intro w2 hown2 hgrow2
       have H2 : Hid (w2.heap[w.heap.size]? = some (.cells (st8 f) 218 (0, 0))) := (hgrow2.block w.heap.size (by rw [S1.out]; omega) (by simp)).trans H1.out
       have B2 : Hid (Below w.heap.size w w2) := B1.out.grown hgrow2 (Nat.le_of_lt (by rw [S1.out]; omega)) (fun k e => by cases e)
       have O2 : Hid (w2.ownsRow (w.heap.size + 1) 5 1 (.slice (some ⟨w.heap.size + 1, 0, none⟩) 0 32) 0 []) := by rw [S1.out] at hown2; exact hown2
       clear hown2 hgrow2 H1 B1)
    | (refine wpList_load_row rfl 218 _ rfl w.heap.size rfl 218 _ (0, 0) _ H2.out Tryz.underlying218 rfl (by kernel_rfl) ?_))
  go_loopw [3, 8] (fun v i wr => ∃ k : Nat, k ≤ 8 ∧ v = .slice (some ⟨w.heap.size + 1, 0, none⟩) (4 * k) 32 ∧ i = .int .i64 (k : Int) ∧ wr.ownsRow (w.heap.size + 1) 5 1 (.slice (some ⟨w.heap.size + 1, 0, none⟩) (4 * k) 32) (4 * k) ((bw f k).map (Value.int .u8)) ∧ Below w.heap.size w wr) (fun _ i _ => 8 - (intOf i).toNat)
  case atStart => exact ⟨0, by omega, rfl, rfl, O2.out, B2.out⟩
  case round =>
    clear O2 B2 H2
    obtain ⟨k, hk, rfl, rfl, hown, hbl⟩ := hrel
    have HO : Hid (wr.ownsRow (w.heap.size + 1) 5 1 (.slice (some ⟨w.heap.size + 1, 0, none⟩) (4 * k) 32) (4 * k) ((bw f k).map (Value.int .u8))) := hown
    have HB : Hid (Below w.heap.size w wr) := hbl
    clear hown hbl
    by_cases hlt : k < 8
    · have hix := idx8 f k hlt
      have g0 : (0 : Int) ≤ (k : Int) := by omega
      have g1 : (k : Int) < 8 := by omega
      generalize hx : f k = x at *
      have HX : Hid (f k = x) := hx
      clear hx
      obtain ⟨w5, hrun5, hown5, hgrow5⟩ := run_append_fits (P := Tryz.prog) (wr.alloc (.cells #[.int .u8 (x / 16777216 % 256), .int .u8 (x / 65536 % 256), .int .u8 (x / 256 % 256), .int .u8 (x % 256)] 5)) (w.heap.size + 1) 98 98 5 i0 1 Tryz.underlying98 hi hz1 (w.heap.size + 1) (4 * k) 32 _ (HO.out.alloc _) ⟨wr.heap.size, 0, none⟩ 4 4 [.int .u8 (x / 16777216 % 256), .int .u8 (x / 65536 % 256), .int .u8 (x / 256 % 256), .int .u8 (x % 256)] rfl (cell_four _ _ _ _ _ _) (fun u hu => by simp at hu; rcases hu with rfl | rfl | rfl | rfl <;> rfl) (by omega)
      have HO5 : Hid (w5.ownsRow (w.heap.size + 1) 5 1 (.slice (some ⟨w.heap.size + 1, 0, none⟩) (4 * (k + 1)) 32) (4 * (k + 1)) ((bw f (k + 1)).map (Value.int .u8))) := by
        show w5.ownsRow (w.heap.size + 1) 5 1 (.slice (some ⟨w.heap.size + 1, 0, none⟩) (4 * k + 4) 32) (4 * k + 4) ((bw f k ++ b4 (f k)).map (Value.int .u8))
        rw [List.map_append, HX.out]; exact hown5
      have HB5 : Hid (Below w.heap.size w w5) := (HB.out.alloc HB.out.size _).trans (grown_below hgrow5 (by omega) (by simp; have := HB.out.size; omega))
      clear hown5 hgrow5
      go_wp2_with (at_builtin; refine list_append rfl 98 98 (.tmp 11) (.tmp 23) rfl (vs := .slice (some ⟨w.heap.size + 1, 0, none⟩) (4 * k) 32) (vx := .slice (some ⟨wr.heap.size, 0, none⟩) 4 4) rfl rfl hrun5 ?_)
      go_roundw
      case rel => exact ⟨k + 1, by omega, rfl, by go_num, HO5.out, HB5.out⟩
      case measure => simp [intOf]; omega
    · have hk8 : k = 8 := by omega
      subst hk8
      have hcv : (convert 98 9 (.slice (some ⟨w.heap.size + 1, 0, none⟩) (4 * 8) 32)).run Tryz.prog wr = .ok (.string (strOfNums (bw f 8))) wr := by
        refine run_convert_bytes_arg wr 98 5 Tryz.underlying98 Tryz.underlying5 (w.heap.size + 1) 0 (4 * 8) 32 (bw f 8) (by rw [bw_length]) (fun i hi => ?_) 9 Tryz.underlying9
        rw [Nat.zero_add]
        refine own_cell HO.out ?_
        rw [List.getElem?_map, List.getElem?_eq_getElem (by rw [bw_length]; exact hi)]
        simp [List.getD, List.getElem?_eq_getElem (show i < (bw f 8).length by rw [bw_length]; exact hi)]
      go_wp2
      go_ret
      exact ⟨rfl, HB.out⟩
open Go.RowKit
theorem hs_congr {Kt iv m m':Nat→Int} (k:Nat) (h:∀ j,j<64*k→m j=m' j):hs Kt iv m k=hs Kt iv m' k:=by
 induction k with
 |zero=>rfl
 |succ k ih=>unfold hs;rw[ih (fun j hj=>h j (by omega)),chg_congr (q':=fun j=>m' (64*k+j)) (fun j hj=>h _ (by omega))]
theorem fil_length (n:Nat):(fil n).length=9+nz n:=by simp[fil,upto];omega
theorem fil_whole (n:Nat):(n+(fil n).length)%64=0:=by rw[fil_length];unfold nz;omega
theorem fil_le (n:Nat):(fil n).length≤72:=by rw[fil_length];unfold nz;omega
theorem fil_byte (n j:Nat):0≤(fil n).getD j 0∧(fil n).getD j 0<256:=by
 have hall:∀ x∈fil n,0≤x∧x<256:=by
  intro x hx
  unfold fil at hx
  rcases List.mem_cons.1 hx with rfl|hx
  ·decide
  ·rcases List.mem_append.1 hx with hx|hx
   ·rw[(List.mem_replicate.1 hx).2];decide
   ·obtain⟨j,_,rfl⟩:=List.mem_map.1 hx
    exact⟨Int.emod_nonneg _ (by decide),Int.emod_lt_of_pos _ (by decide)⟩
 rw[List.getD_eq_getElem?_getD]
 by_cases h:j<(fil n).length
 ·rw[List.getElem?_eq_getElem h];exact hall _ (List.getElem_mem h)
 ·rw[List.getElem?_eq_none (by omega)];decide
def mf (m:Nat→Int) (L:Nat):Nat→Int:=fun j=>if j<L then m j else(fil L).getD (j - L) 0
theorem mf_byte {m:Nat→Int} (hm:∀ j,0≤m j∧m j<256) (L j:Nat):0≤mf m L j∧mf m L j<256:=by
 unfold mf
 split
 ·exact hm j
 ·exact fil_byte _ _
def dig (Kt iv m:Nat→Int) (L:Nat):List Int:=bw (hs Kt iv (mf m L) ((L+(fil L).length)/64)) 8
theorem dig_length (Kt iv m:Nat→Int) (L:Nat):(dig Kt iv m L).length=32:=by unfold dig;rw[bw_length]
theorem Told.congr {Kt iv m m':Nat→Int} {W:World} {g L:Nat} (ht:Told Kt iv m W g L) (h:∀ j,j<L→m j=m' j):Told Kt iv m' W g L:=by
 obtain⟨r,h1,h2⟩:=ht
 refine⟨r,?_,fun j hj=>(h2 j hj).trans (h _ (by omega))⟩
 rw[←hs_congr (L/64) (fun j hj=>h j (by omega))];exact h1
def tr (n x:Int):Int:=bits .or .u32 (x/2 ^ n.toNat) (x*2 ^ (32 - n).toNat%4294967296)
def trOk (n:Int):Prop:=n=2∨n=6∨n=7∨n=11∨n=13∨n=17∨n=18∨n=19∨n=22∨n=25
theorem tr_2 (x:Int):tr 2 x=t2 x:=by
 unfold tr t2
 rw[or_comm]
 rfl
theorem turned2 (x:Int) (w:World):Calls Tryz.prog 170 #[.int .u32 x,.int .i64 2] w fun e w'=>e=.returned (.int .u32 (tr 2 x))∧∃ q,w'=w.drewN q:=by
 rw[tr_2]
 unfold t2
 rw[or_comm]
 go_enter Tryz.func170,Tryz.ntmps170
 go_wp2_with fail
 go_quiet (fail)
 go_wp2_with fail
 go_ret
 exact⟨rfl,_,rfl⟩
theorem tr_6 (x:Int):tr 6 x=t6 x:=by
 unfold tr t6
 rw[or_comm]
 rfl
theorem turned6 (x:Int) (w:World):Calls Tryz.prog 170 #[.int .u32 x,.int .i64 6] w fun e w'=>e=.returned (.int .u32 (tr 6 x))∧∃ q,w'=w.drewN q:=by
 rw[tr_6]
 unfold t6
 rw[or_comm]
 go_enter Tryz.func170,Tryz.ntmps170
 go_wp2_with fail
 go_quiet (fail)
 go_wp2_with fail
 go_ret
 exact⟨rfl,_,rfl⟩
theorem tr_7 (x:Int):tr 7 x=t7 x:=by
 unfold tr t7
 rw[or_comm]
 rfl
theorem turned7 (x:Int) (w:World):Calls Tryz.prog 170 #[.int .u32 x,.int .i64 7] w fun e w'=>e=.returned (.int .u32 (tr 7 x))∧∃ q,w'=w.drewN q:=by
 rw[tr_7]
 unfold t7
 rw[or_comm]
 go_enter Tryz.func170,Tryz.ntmps170
 go_wp2_with fail
 go_quiet (fail)
 go_wp2_with fail
 go_ret
 exact⟨rfl,_,rfl⟩
theorem tr_11 (x:Int):tr 11 x=t11 x:=by
 unfold tr t11
 rw[or_comm]
 rfl
theorem turned11 (x:Int) (w:World):Calls Tryz.prog 170 #[.int .u32 x,.int .i64 11] w fun e w'=>e=.returned (.int .u32 (tr 11 x))∧∃ q,w'=w.drewN q:=by
 rw[tr_11]
 unfold t11
 rw[or_comm]
 go_enter Tryz.func170,Tryz.ntmps170
 go_wp2_with fail
 go_quiet (fail)
 go_wp2_with fail
 go_ret
 exact⟨rfl,_,rfl⟩
theorem tr_13 (x:Int):tr 13 x=t13 x:=by
 unfold tr t13
 rw[or_comm]
 rfl
theorem turned13 (x:Int) (w:World):Calls Tryz.prog 170 #[.int .u32 x,.int .i64 13] w fun e w'=>e=.returned (.int .u32 (tr 13 x))∧∃ q,w'=w.drewN q:=by
 rw[tr_13]
 unfold t13
 rw[or_comm]
 go_enter Tryz.func170,Tryz.ntmps170
 go_wp2_with fail
 go_quiet (fail)
 go_wp2_with fail
 go_ret
 exact⟨rfl,_,rfl⟩
theorem tr_17 (x:Int):tr 17 x=t17 x:=by
 unfold tr t17
 rw[or_comm]
 rfl
theorem turned17 (x:Int) (w:World):Calls Tryz.prog 170 #[.int .u32 x,.int .i64 17] w fun e w'=>e=.returned (.int .u32 (tr 17 x))∧∃ q,w'=w.drewN q:=by
 rw[tr_17]
 unfold t17
 rw[or_comm]
 go_enter Tryz.func170,Tryz.ntmps170
 go_wp2_with fail
 go_quiet (fail)
 go_wp2_with fail
 go_ret
 exact⟨rfl,_,rfl⟩
theorem tr_18 (x:Int):tr 18 x=t18 x:=by
 unfold tr t18
 rw[or_comm]
 rfl
theorem turned18 (x:Int) (w:World):Calls Tryz.prog 170 #[.int .u32 x,.int .i64 18] w fun e w'=>e=.returned (.int .u32 (tr 18 x))∧∃ q,w'=w.drewN q:=by
 rw[tr_18]
 unfold t18
 rw[or_comm]
 go_enter Tryz.func170,Tryz.ntmps170
 go_wp2_with fail
 go_quiet (fail)
 go_wp2_with fail
 go_ret
 exact⟨rfl,_,rfl⟩
theorem tr_19 (x:Int):tr 19 x=t19 x:=by
 unfold tr t19
 rw[or_comm]
 rfl
theorem turned19 (x:Int) (w:World):Calls Tryz.prog 170 #[.int .u32 x,.int .i64 19] w fun e w'=>e=.returned (.int .u32 (tr 19 x))∧∃ q,w'=w.drewN q:=by
 rw[tr_19]
 unfold t19
 rw[or_comm]
 go_enter Tryz.func170,Tryz.ntmps170
 go_wp2_with fail
 go_quiet (fail)
 go_wp2_with fail
 go_ret
 exact⟨rfl,_,rfl⟩
theorem tr_22 (x:Int):tr 22 x=t22 x:=by
 unfold tr t22
 rw[or_comm]
 rfl
theorem turned22 (x:Int) (w:World):Calls Tryz.prog 170 #[.int .u32 x,.int .i64 22] w fun e w'=>e=.returned (.int .u32 (tr 22 x))∧∃ q,w'=w.drewN q:=by
 rw[tr_22]
 unfold t22
 rw[or_comm]
 go_enter Tryz.func170,Tryz.ntmps170
 go_wp2_with fail
 go_quiet (fail)
 go_wp2_with fail
 go_ret
 exact⟨rfl,_,rfl⟩
theorem tr_25 (x:Int):tr 25 x=t25 x:=by
 unfold tr t25
 rw[or_comm]
 rfl
theorem turned25 (x:Int) (w:World):Calls Tryz.prog 170 #[.int .u32 x,.int .i64 25] w fun e w'=>e=.returned (.int .u32 (tr 25 x))∧∃ q,w'=w.drewN q:=by
 rw[tr_25]
 unfold t25
 rw[or_comm]
 go_enter Tryz.func170,Tryz.ntmps170
 go_wp2_with fail
 go_quiet (fail)
 go_wp2_with fail
 go_ret
 exact⟨rfl,_,rfl⟩
theorem turned_any (n x:Int) (hn:trOk n) (w:World):Calls Tryz.prog 170 #[.int .u32 x,.int .i64 n] w fun e w'=>e=.returned (.int .u32 (tr n x))∧∃ q,w'=w.drewN q:=by
 rcases hn with rfl|rfl|rfl|rfl|rfl|rfl|rfl|rfl|rfl|rfl
 ·exact turned2 x w
 ·exact turned6 x w
 ·exact turned7 x w
 ·exact turned11 x w
 ·exact turned13 x w
 ·exact turned17 x w
 ·exact turned18 x w
 ·exact turned19 x w
 ·exact turned22 x w
 ·exact turned25 x w
theorem begin_any (w:World):Calls Tryz.prog 181 #[] w fun e w'=>e=.returned (.agg (st8 (lf IV)))∧Below w.heap.size w w':=by
 go_enter Tryz.func181,Tryz.ntmps181
 obtain⟨W2,hW2,r2,b2,s2⟩:=new_row w #[.int .u32 0,.int .u32 0,.int .u32 0,.int .u32 0,.int .u32 0,.int .u32 0,.int .u32 0,.int .u32 0] 218 (st8 (lf IV))
 have E2:Hid _:=hW2
 have R2:Hid _:=r2
 have B2:Hid _:=b2
 clear hW2 r2 b2 s2
 go_wp2_with (refine wpList_store_row rfl 218 _ _ rfl w.heap.size (st8 (lf IV)) rfl rfl 218 _ (heap_alloc_new w _) (by kernel_rfl) rfl (st8_one _) ?_;rw[E2.out])
 refine bodyPost_ret (results_cell_row Tryz.results181 _ _ w.heap.size 218 _ (0,0) _ rfl R2.out Tryz.underlying218 rfl (by kernel_rfl)) rfl ⟨rfl,B2.out⟩
theorem list_build {P:Program} {ops:Array Oper} {rest:List Oper} {o:Oper} {a:Act} {w:World} {Q:Exit→Act→World→Prop} (hgd:o.guard=none) (t:TypeId) (i:Nat) (x:Operand) (ho:o.op=.build t #[(i,x)])
  {vx v':Value} (hx:a.eval x=vx) (hrun:(Instr.build t #[(i,vx)]).run P w=.ok v' w) (h:wpList P ops Q rest (a.put o.dst v') w):wpList P ops Q (o::rest) a w:=
 wpList_plain hgd fun _ hK=>by
  unfold Oper.wp execOp
  simp only[ho,Sem.run_bind,Sem.run_pure,Result.andThen_ok,List.map_toArray,List.map_cons,List.map_nil,hx,hrun]
  exact hK _ _ h
theorem list_box {P:Program} {ops:Array Oper} {rest:List Oper} {o:Oper} {a:Act} {w:World} {Q:Exit→Act→World→Prop} (hgd:o.guard=none) (t:TypeId) (x:Operand) (ho:o.op=.box t x)
  {vx v':Value} {w':World} (hx:a.eval x=vx) (hrun:(Instr.box t vx).run P w=.ok v' w') (h:wpList P ops Q rest (a.put o.dst v') w'):wpList P ops Q (o::rest) a w:=
 wpList_plain hgd fun _ hK=>by
  unfold Oper.wp execOp
  simp only[ho,Sem.run_bind,Sem.run_pure,Result.andThen_ok,hx,hrun]
  exact hK _ _ h
theorem run_build (f:Nat→Int) (w:World):(Instr.build 222 #[(0,.agg (st8 f))]).run Tryz.prog w=.ok (.agg (sm f (fun _=>0) 0)) w:=by kernel_rfl
theorem run_box (f r:Nat→Int) (c:Int) (w:World):(Instr.box 222 (.agg (sm f r c))).run Tryz.prog w=.ok (.pointer (some ⟨w.heap.size,0,none⟩)) (w.alloc (.cells (sm f r c) 222)):=by kernel_rfl
theorem new_any (w:World):Calls Tryz.prog 167 #[] w fun e w'=>∃ g,w.heap.size≤g∧e=.returned (.pointer (some ⟨g,0,none⟩))∧w'.heap[g]? =some (.cells (sm (lf IV) (fun _=>0) 0) 222 (0,0))∧Below w.heap.size w w':=by
 have BA:=begin_any
 generalize lf IV=f at*
 go_enter Tryz.func167,Tryz.ntmps167
 go_wp2_with fail
 refine(BA _).mono ?_
 rintro e w' ⟨rfl,hb⟩
 rename_i hK
 refine hK _ _ ?_
 refine list_build rfl 222 0 (.tmp 1) rfl (vx:=.agg (st8 f)) rfl (run_build f w') ?_
 refine list_box rfl 222 (.tmp 2) rfl (vx:=.agg (sm f (fun _=>0) 0)) rfl (run_box f _ 0 w') ?_
 have F1:Hid ((w'.alloc (.cells (sm f (fun _=>0) 0) 222)).heap[w'.heap.size]? =some (.cells (sm f (fun _=>0) 0) 222 (0,0))):=heap_alloc_new w' _
 have F2:Hid (Below w.heap.size w (w'.alloc (.cells (sm f (fun _=>0) 0) 222))):=hb.alloc hb.size _
 have F3:Hid (w.heap.size≤w'.heap.size):=hb.size
 generalize w'.alloc (.cells (sm f (fun _=>0) 0) 222)=W at*
 generalize w'.heap.size=g at*
 clear hK
 go_wp2_with fail
 go_ret
 exact⟨_,F3.out,rfl,F1.out,F2.out⟩
theorem bt_nums (l:List Int) (h:∀ j,0≤l.getD j 0∧l.getD j 0<256) (j:Nat) (hj:j<l.length):bt (strOfNums l) j=l.getD j 0:=by
 have:=h j
 rw[List.getD_eq_getElem?_getD] at this ⊢
 unfold bt strOfNums
 rw[List.getElem?_eq_getElem hj] at this ⊢
 simp only[Option.getD_some] at this ⊢
 simp only[List.getElem?_toArray,List.getElem?_map,List.getElem?_eq_getElem hj,Option.map_some,Option.getD_some]
 rw[UInt8.toNat_ofNat']
 omega
theorem lay_one (Kt iv m:Nat→Int) (hm:∀ j,0≤m j∧m j<256) (g L:Nat) (s:ByteArray) (w:World) (t:TypeId) {tt:TypeId} {fr:Nat × Nat} (hK:w.heap[3]? =some (.cells (w64 Kt) tt fr)) (hg1:g≠3)
  (hL:L+s.size≤1099511627776) (ht:Told Kt iv m w g L) (hb:∀ j,j<s.size→bt s j=m (L+j)):
  Calls Tryz.prog 168 #[.pointer (some ⟨g,0,none⟩),.slice (some ⟨w.heap.size,0,none⟩) 1 1] (w.alloc (.cells #[.string s] t)) fun e w'=>e=.returned (.tuple #[])∧Told Kt iv m w' g (L+s.size)∧w.grownBy w' (some g):=by
 have hgl:g<w.heap.size:=by obtain⟨r,h1,_⟩:=ht;exact(Array.getElem?_eq_some_iff.1 h1).1
 have h1l:3<w.heap.size:=(Array.getElem?_eq_some_iff.1 hK).1
 have hbl:Below w.heap.size w (w.alloc (.cells #[.string s] t)):=(Below.refl _ w).alloc (Nat.le_refl _) _
 refine(callsIn_wide.1 (lay_in Kt iv m hm g L 1 1 (some ⟨w.heap.size,0,none⟩) (fun _=>s) (w.alloc (.cells #[.string s] t)) ((hbl.block 3 h1l).trans hK) hg1 (by simpa [offs] using hL) (by decide) (by obtain⟨r,h1,h2⟩:=ht;exact⟨r,(hbl.block g hgl).trans h1,h2⟩) ?_)).mono ?_
 ·intro i hi
  obtain rfl:i=0:=by omega
  exact⟨⟨w.heap.size,0,rfl,by omega,by simp,by rw[cell_of_row _ _ _ _ _ _ (heap_alloc_new w _)];rfl⟩,fun j hj=>by simpa [offs] using hb j hj⟩
 ·rintro e w' ⟨rfl,h1,h2⟩
  refine⟨rfl,by simpa [offs] using h1,⟨h2.os,h2.tape,h2.output,Nat.le_trans (by simp) h2.size,fun k hk hne=>(h2.block k (by simp;omega) hne).trans (hbl.block k hk)⟩⟩
theorem sm_one (f r:Nat→Int) (c:Int):(sm f r c).all (·.oneCell')=true:=by
 rw[Array.all_eq_true]
 intro i hi
 simp only[sm,Array.getElem_ofFn]
 split
 ·rfl
 ·split<;>rfl
theorem lay_fil (Kt iv m:Nat→Int) (hm:∀ j,0≤m j∧m j<256) (g L:Nat) (w:World) (t:TypeId) {tt:TypeId} {fr:Nat × Nat} (hK:w.heap[3]? =some (.cells (w64 Kt) tt fr)) (hg1:g≠3)
  (hL:L≤1000000000000) (ht:Told Kt iv m w g L):
  Calls Tryz.prog 168 #[.pointer (some ⟨g,0,none⟩),.slice (some ⟨w.heap.size,0,none⟩) 1 1] (w.alloc (.cells #[.string (strOfNums (fil L))] t)) fun e w'=>e=.returned (.tuple #[])∧(∃ r c,w'.heap[g]? =some (.cells (sm (hs Kt iv (mf m L) ((L+(fil L).length)/64)) r c) 222 (0,0)))∧w.grownBy w' (some g):=by
 have hsz:(strOfNums (fil L)).size=(fil L).length:=strOfNums_size _
 have hle:=fil_le L
 refine(lay_one Kt iv (mf m L) (mf_byte hm L) g L (strOfNums (fil L)) w t hK hg1 (by omega) (ht.congr fun j hj=>by simp[mf,hj]) fun j hj=>?_).mono ?_
 ·rw[bt_nums _ (fil_byte L) j (by omega)]
  unfold mf
  rw[if_neg (by omega),show L+j - L=j by omega]
 ·rintro e w' ⟨rfl,⟨r,h1,_⟩,h2⟩
  rw[hsz] at h1
  exact⟨rfl,⟨r,_,h1⟩,h2⟩
theorem list_alloc {P:Program} {ops:Array Oper} {rest:List Oper} {o:Oper} {a:Act} {w:World} {Q:Exit→Act→World→Prop} (hgd:o.guard=none) (t:TypeId) (ho:o.op=.alloc t)
  {v':Value} {w':World} (hrun:(Instr.alloc t true (.tuple #[])).run P w=.ok v' w') (h:wpList P ops Q rest (a.put o.dst v') w'):wpList P ops Q (o::rest) a w:=
 wpList_plain hgd fun _ hK=>by
  unfold Oper.wp execOp
  simp only[ho,Sem.run_bind,Sem.run_pure,Result.andThen_ok,hrun]
  exact hK _ _ h
theorem run_alloc (w:World):(Instr.alloc 222 true (.tuple #[])).run Tryz.prog w=.ok (.pointer (some ⟨w.heap.size,0,none⟩)) (w.alloc (.cells (sm (fun _=>0) (fun _=>0) 0) 222)):=by kernel_rfl
theorem sum_any (Kt iv m : Nat → Int) (hm : ∀ j, 0 ≤ m j ∧ m j < 256) (g L : Nat) (w : World) {tt : TypeId} {fr : Nat × Nat} (hK : w.heap[3]? = some (.cells (w64 Kt) tt fr))
    (hL : L ≤ 1000000000000) (ht : Told Kt iv m w g L) :
    Calls Tryz.prog 169 #[.pointer (some ⟨g, 0, none⟩)] w fun e w' => e = .returned (.string (strOfNums (dig Kt iv m L))) ∧ Below w.heap.size w w' := by
  have h1l : 3 < w.heap.size := (Array.getElem?_eq_some_iff.1 hK).1
  obtain ⟨r, h1, h2⟩ := ht
  have hgl : g < w.heap.size := (Array.getElem?_eq_some_iff.1 h1).1
  obtain ⟨f, hf⟩ : ∃ f, hs Kt iv m (L / 64) = f := ⟨_, rfl⟩
  have H1 : Hid (w.heap[g]? = some (.cells (sm f r (L : Int)) 222 (0, 0))) := by rw [← hf]; exact h1
  have H2 : Hid (∀ j, j < L % 64 → r j = m (64 * (L / 64) + j)) := h2
  have HF : Hid (hs Kt iv m (L / 64) = f) := hf
  have HK : Hid (w.heap[3]? = some (.cells (w64 Kt) tt fr)) := hK
  have HM : Hid (∀ j, 0 ≤ m j ∧ m j < 256) := hm
  clear h1 h2 hf hK hm
  have z0 : (0 : Int) ≤ (L : Int) := by omega
  go_enter Tryz.func169, Tryz.ntmps169
  obtain ⟨W2, hW2, r2, b2, s2⟩ := new_row w (sm (fun _ => 0) (fun _ => 0) 0) 222 (sm f r (L : Int))
  have E2 : Hid _ := hW2
  have R2 : Hid (W2.heap[w.heap.size]? = some (.cells (sm f r (L : Int)) 222 (0, 0))) := r2
  have B2 : Hid (Below w.heap.size w W2) := b2
  have S2 : Hid (W2.heap.size = w.heap.size + 1) := s2
  clear hW2 r2 b2 s2
  go_wp2_with (first
    | (refine wpList_load_row rfl 222 _ rfl g rfl 222 _ (0, 0) _ H1.out Tryz.underlying222 rfl (by rw [sm_size]; kernel_rfl) ?_
       refine list_alloc rfl 222 rfl (run_alloc w) ?_
       refine wpList_store_row rfl 222 _ _ rfl w.heap.size (sm f r (L : Int)) rfl rfl 222 _ (heap_alloc_new w _) (by rw [sm_size]; kernel_rfl) (by rw [sm_size, sm_size]) (sm_one _ _ _) ?_
       rw [E2.out]
       have cc : W2.cell? ⟨g, 72, none⟩ = some (.int .i64 (L : Int)) := by rw [cell_of_row _ _ _ _ _ _ ((B2.out.block g hgl).trans H1.out), sm_c]))
  refine (filling_any L (by omega) W2).mono ?_
  rintro e W3 ⟨rfl, b3⟩
  have hs2 := S2.out
  have hsz3 : w.heap.size + 1 ≤ W3.heap.size := by have := b3.size; omega
  have B3 : Hid (Below w.heap.size w W3) := B2.out.trans (b3.mono (by omega))
  have T3 : Hid (Told Kt iv m W3 w.heap.size L) := ⟨r, by rw [HF.out]; exact (b3.block _ (by omega)).trans R2.out, H2.out⟩
  have LF : ∀ t, Hid (Calls Tryz.prog 168 #[.pointer (some ⟨w.heap.size, 0, none⟩), .slice (some ⟨W3.heap.size, 0, none⟩) 1 1] (W3.alloc (.cells #[.string (strOfNums (fil L))] t)) fun e w' => e = .returned (.tuple #[]) ∧ (∃ r c, w'.heap[w.heap.size]? = some (.cells (sm (hs Kt iv (mf m L) ((L + (fil L).length) / 64)) r c) 222 (0, 0))) ∧ W3.grownBy w' (some w.heap.size)) := fun t =>
    lay_fil Kt iv m HM.out w.heap.size L W3 t ((B3.out.block 3 h1l).trans HK.out) (by omega) hL T3.out
  clear b3 hs2 cc T3 H1 H2 HF HK HM R2 S2 E2 B2
  have HD : Hid (dig Kt iv m L = bw (hs Kt iv (mf m L) ((L + (fil L).length) / 64)) 8) := rfl
  generalize hs Kt iv (mf m L) ((L + (fil L).length) / 64) = F at *
  generalize strOfNums (fil L) = sf at *
  go_wp2_with fail
  refine (LF _).out.mono ?_
  rintro e W4 ⟨rfl, ⟨r4, c4, h4⟩, g4⟩
  have B4 : Hid (Below w.heap.size w W4) := B3.out.grown g4 (by omega) (fun k e => by cases e; exact Nat.le_refl _)
  have H4 : Hid (W4.heap[w.heap.size]? = some (.cells (sm F r4 c4) 222 (0, 0))) := h4
  clear h4 g4 LF B3
  go_wp2_with (first
    | (refine wpList_load_mid rfl 218 _ rfl w.heap.size 0 rfl (st8 F).toList _ (sm_range H4.out) Tryz.underlying218 rfl (by kernel_rfl) ?_))
  refine (text_any F W4).mono ?_
  rintro e W5 ⟨rfl, b5⟩
  have B5 : Hid (Below w.heap.size w W5) := B4.out.trans (b5.mono B4.out.size)
  clear b5 B4 H4
  go_wp2_with fail
  go_ret
  exact ⟨by rw [HD.out]; rfl, B5.out⟩
theorem add_any (Kt m:Nat→Int) (hm:∀ j,0≤m j∧m j<256) (len cap:Nat) (o:Option Addr) (ts:Nat→ByteArray) (w:World) {tt:TypeId} {fr:Nat × Nat} (hK:w.heap[3]? =some (.cells (w64 Kt) tt fr))
  (hL:offs ts len≤1000000000000) (hlen:len≤1099511627776)
  (hts:∀ i,i<len→(∃ b off,o=some ⟨b,off,none⟩∧b<w.heap.size∧w.cell? ⟨b,off+i,none⟩=some (.string (ts i)))∧∀ j,j<(ts i).size→bt (ts i) j=m (offs ts i+j)):
  Calls Tryz.prog 143 #[.slice o len cap] w fun e w'=>e=.returned (.string (strOfNums (dig Kt (lf IV) m (offs ts len))))∧Below w.heap.size w w':=by
 have h1l:3<w.heap.size:=(Array.getElem?_eq_some_iff.1 hK).1
 have HK:Hid (w.heap[3]? =some (.cells (w64 Kt) tt fr)):=hK
 have HTS:Hid _:=hts
 have HL:Hid (offs ts len≤1000000000000):=hL
 have HLN:Hid (len≤1099511627776):=hlen
 have HM:Hid (∀ j,0≤m j∧m j<256):=hm
 have NA:Hid (∀ w,Calls Tryz.prog 167 #[] w fun e w'=>∃ g,w.heap.size≤g∧e=.returned (.pointer (some ⟨g,0,none⟩))∧w'.heap[g]? =some (.cells (sm (lf IV) (fun _=>0) 0) 222 (0,0))∧Below w.heap.size w w'):=new_any
 clear hK hts hL hlen hm
 generalize lf IV=iv at*
 go_enter Tryz.func143,Tryz.ntmps143
 go_wp2_with fail
 refine(NA.out w).mono ?_
 rintro e w1 ⟨g,hg,rfl,h1,b1⟩
 have T1:Hid (Told Kt iv m w1 g 0):=⟨_,h1,fun j hj=>absurd hj (by omega)⟩
 have B1:Hid (Below w.heap.size w w1):=b1
 clear h1 b1 NA
 go_wp2_with fail
 refine(callsIn_wide.1 (lay_in Kt iv m HM.out g 0 len cap o ts w1 ((B1.out.block 3 h1l).trans HK.out) (by omega) (by have:=HL.out;omega) HLN.out T1.out ?_)).mono ?_
 ·intro i hi
  obtain⟨⟨b,off,ho,hb,hc⟩,hbt⟩:=HTS.out i hi
  exact⟨⟨b,off,ho,by omega,Nat.lt_of_lt_of_le hb B1.out.size,(cell_same (B1.out.block b hb) _).trans hc⟩,fun j hj=>by rw[Nat.zero_add];exact hbt j hj⟩
 rintro e w2 ⟨rfl,h2,g2⟩
 have T2:Hid (Told Kt iv m w2 g (offs ts len)):=by rw[Nat.zero_add] at h2;exact h2
 have B2:Hid (Below w.heap.size w w2):=B1.out.grown g2 B1.out.size (fun k e=>by cases e;exact hg)
 clear h2 g2 T1 B1 HTS
 go_wp2_with fail
 refine(sum_any Kt iv m HM.out g _ w2 ((B2.out.block 3 h1l).trans HK.out) HL.out T2.out).mono ?_
 rintro e w3 ⟨rfl,b3⟩
 have B3:Hid (Below w.heap.size w w3):=B2.out.trans (b3.mono B2.out.size)
 clear b3 B2 T2
 go_wp2_with fail
 go_ret
 exact⟨rfl,B3.out⟩
theorem shaSum_any (Kt:Nat→Int) (s:ByteArray) (w:World) {tt:TypeId} {fr:Nat × Nat} (hK:w.heap[3]? =some (.cells (w64 Kt) tt fr)) (hL:s.size≤1000000000000):
  Calls Tryz.prog 164 #[.string s] w fun e w'=>e=.returned (.string (strOfNums (dig Kt (lf IV) (bt s) s.size)))∧Below w.heap.size w w':=by
 have h1l:3<w.heap.size:=(Array.getElem?_eq_some_iff.1 hK).1
 have AD:∀ t,Hid (Calls Tryz.prog 143 #[.slice (some ⟨w.heap.size,0,none⟩) 1 1] (w.alloc (.cells #[.string s] t)) fun e w'=>e=.returned (.string (strOfNums (dig Kt (lf IV) (bt s) s.size)))∧Below w.heap.size w w'):=fun t=>by
  have hbl:Below w.heap.size w (w.alloc (.cells #[.string s] t)):=(Below.refl _ w).alloc (Nat.le_refl _) _
  refine(add_any Kt (bt s) (bt_range s) 1 1 (some ⟨w.heap.size,0,none⟩) (fun _=>s) (w.alloc (.cells #[.string s] t)) ((hbl.block 3 h1l).trans hK) (by simpa [offs] using hL) (by decide) ?_).mono ?_
  ·intro i hi
   obtain rfl:i=0:=by omega
   exact⟨⟨w.heap.size,0,rfl,by simp,by rw[cell_of_row _ _ _ _ _ _ (heap_alloc_new w _)];rfl⟩,fun j hj=>by simp[offs]⟩
  ·rintro e w' ⟨rfl,h2⟩
   exact⟨by simp[offs],hbl.trans (h2.mono (by simp))⟩
 clear hK hL
 generalize dig Kt (lf IV) (bt s) s.size=D at*
 go_enter Tryz.func164,Tryz.ntmps164
 go_wp2_with fail
 refine(AD _).out.mono ?_
 rintro e w1 ⟨rfl,b1⟩
 have B1:Hid _:=b1
 clear b1 AD
 go_wp2_with fail
 go_ret
 exact⟨rfl,B1.out⟩
theorem below_new (w:World) (o:Obj):Below w.heap.size w (w.alloc o):=(Below.refl _ w).alloc (Nat.le_refl _) _
theorem num_app (l l':List Int):strOfNums l++strOfNums l'=strOfNums (l++l'):=by
 unfold strOfNums
 apply ByteArray.ext
 simp
theorem app_assoc (a b c:ByteArray):a++b++c=a++(b++c):=by
 apply ByteArray.ext
 simp[Array.append_assoc]
def filS (s:ByteArray):ByteArray:=s++strOfNums (fil s.size)
theorem filS_size (s:ByteArray):(filS s).size=s.size+(fil s.size).length:=by
 unfold filS
 rw[ByteArray.size_append,strOfNums_size]
theorem bt_app (a b:ByteArray) (j:Nat):bt (a++b) j=if j<a.size then bt a j else bt b (j - a.size):=by
 unfold bt
 have e:(a++b).data=a.data++b.data:=by simp
 rw[e]
 by_cases h:j<a.size
 ·rw[if_pos h,Array.getElem?_append_left h]
 ·rw[if_neg h,Array.getElem?_append_right (by exact Nat.le_of_not_lt h)];rfl
theorem bt_filS (s:ByteArray) (j:Nat) (hj:j<(filS s).size):bt (filS s) j=mf (bt s) s.size j:=by
 rw[filS_size] at hj
 unfold filS mf
 rw[bt_app]
 by_cases h:j<s.size
 ·rw[if_pos h,if_pos h]
 ·rw[if_neg h,if_neg h,bt_nums _ (fil_byte s.size) _ (by omega)]
def padS (s:ByteArray) (j:Nat):ByteArray:=s++strOfNums (128::List.replicate j 0)
theorem padS_succ (s:ByteArray) (j:Nat):padS s (j+1)=padS s j++⟨#[0]⟩:=by
 unfold padS
 rw[app_assoc,show(ByteArray.mk #[0])=strOfNums [0] from rfl,num_app,List.replicate_succ',List.cons_append]
theorem padS_size (s:ByteArray) (j:Nat):(padS s j).size=s.size+1+j:=by
 unfold padS
 rw[ByteArray.size_append,strOfNums_size,List.length_cons,List.length_replicate];omega
theorem pad_more (n j:Nat) (h:j<nz n):(n+1+j)%64≠56:=by unfold nz at h;omega
theorem pad_end (n:Nat):(n+1+nz n)%64=56:=by unfold nz;omega
theorem padS_end (s:ByteArray):padS s (nz s.size)++strOfNums (upto (fun j=>((s.size:Int)*8)/2 ^ (56 - 8*j)%256) 8)=filS s:=by
 unfold padS filS fil
 rw[app_assoc,num_app,List.cons_append]
theorem conv_new (w:World) (cs:Array Value) (l:List Int) (n:Nat) (hl:l.length=n) (hc:∀ i,i<n→cs[i]? =some (.int .u8 (l.getD i 0))):
  (convert 98 9 (.slice (some ⟨w.heap.size,0,none⟩) n n)).run Tryz.prog (w.alloc (.cells cs 5))=.ok (.string (strOfNums l)) (w.alloc (.cells cs 5)):=by
 refine run_convert_bytes_arg _ 98 5 Tryz.underlying98 Tryz.underlying5 w.heap.size 0 n n l hl (fun i hi=>?_) 9 Tryz.underlying9
 rw[cell_of_row _ _ _ _ _ _ (heap_alloc_new w _),Nat.zero_add]
 exact hc i hi
theorem filBytes (n:Int) (h0:0≤n) (h1:n≤1000000):upto (fun j=>(n*8)/2 ^ (56 - 8*j)%256) 8=[n*8/72057594037927936,n*8/281474976710656,n*8/1099511627776,n*8/4294967296,n*8/16777216,n*8/65536,n*8/256%256,n*8%256]:=by
 have e:upto (fun j=>(n*8)/2 ^ (56 - 8*j)%256) 8=[n*8/72057594037927936%256,n*8/281474976710656%256,n*8/1099511627776%256,n*8/4294967296%256,n*8/16777216%256,n*8/65536%256,n*8/256%256,n*8/1%256]:=rfl
 rw[e]
 have e0:n*8/72057594037927936%256=n*8/72057594037927936:=by omega
 have e1:n*8/281474976710656%256=n*8/281474976710656:=by omega
 have e2:n*8/1099511627776%256=n*8/1099511627776:=by omega
 have e3:n*8/4294967296%256=n*8/4294967296:=by omega
 have e4:n*8/16777216%256=n*8/16777216:=by omega
 have e5:n*8/65536%256=n*8/65536:=by omega
 have e7:n*8/1%256=n*8%256:=by omega
 rw[e0,e1,e2,e3,e4,e5,e7]
theorem filled_any (s:ByteArray) (hs:s.size≤1000000) (w:World):
  Calls Tryz.prog 146 #[.string s] w fun e w'=>e=.returned (.string (filS s))∧Below w.heap.size w w':=by
 have HS:Hid (s.size≤1000000):=hs
 have z0:(0:Int)≤(s.size:Int):=by omega
 have z1:(s.size:Int)≤1000000:=by omega
 clear hs
 go_enter Tryz.func146,Tryz.ntmps146
 go_wp2_with fail
 go_loopw [3] (fun v wr=>∃ j:Nat,j≤nz s.size∧v=.string (padS s j)∧wr=w) (fun v _=>nz s.size+s.size+1 - (match v with|.string b=>b.size|_=>0))
 case atStart=>exact⟨0,by omega,rfl,rfl⟩
 case round=>
  obtain⟨j,hj,rfl,rfl⟩:=hrel
  have hnz:nz s.size≤63:=by unfold nz;omega
  have hps:=padS_size s j
  obtain⟨p,hp⟩:∃ p,padS s j=p:=⟨_,rfl⟩
  have HP:Hid (padS s j=p):=hp
  rw[hp] at hps ⊢
  have hp2:(p.size:Int)≤1000100:=by have:=HS.out;omega
  obtain⟨q,hq⟩:∃ q,p.size%64=q:=⟨_,rfl⟩
  have t0:(p.size:Int).tmod 64=(q:Int):=by rw[Int.tmod_eq_emod_of_nonneg (by omega)];omega
  have t1:(p.size:Int)%64=(q:Int):=by omega
  by_cases hlt:j<nz s.size
  ·have hne:=pad_more s.size j hlt
   have q1:((q:Int) !=56)=true:=by simp;omega
   have HPS:Hid (p.size=s.size+1+j):=hps
   clear hp hps hq hne
   go_wp2_with fail
   go_roundw
   case rel=>exact⟨j+1,hlt,by rw[padS_succ,HP.out],trivial⟩
   case measure=>have:=HPS.out;have e0:(ByteArray.mk #[0]).size=1:=rfl;simp[e0];omega
  ·obtain rfl:j=nz s.size:=by omega
   have hen:=pad_end s.size
   have q1:((q:Int) !=56)=false:=by simp;omega
   have hcv:=conv_new wr #[.int .u8 ((s.size:Int)*8/72057594037927936),.int .u8 ((s.size:Int)*8/281474976710656),.int .u8 ((s.size:Int)*8/1099511627776),.int .u8 ((s.size:Int)*8/4294967296),.int .u8 ((s.size:Int)*8/16777216),.int .u8 ((s.size:Int)*8/65536),.int .u8 ((s.size:Int)*8/256%256),.int .u8 ((s.size:Int)*8%256)] (upto (fun j=>((s.size:Int)*8)/2 ^ (56 - 8*j)%256) 8) 8 (by rw[upto_length]) (fun i hi=>by
    have e:=filBytes (s.size:Int) z0 z1
    rw[e]
    match i,hi with
    |0,_=>rfl
    |1,_=>rfl
    |2,_=>rfl
    |3,_=>rfl
    |4,_=>rfl
    |5,_=>rfl
    |6,_=>rfl
    |7,_=>rfl)
   have HE:Hid (filS s=p++strOfNums (upto (fun j=>((s.size:Int)*8)/2 ^ (56 - 8*j)%256) 8)):=by rw[←HP.out];exact(padS_end s).symm
   have hte:(strOfNums (upto (fun j=>((s.size:Int)*8)/2 ^ (56 - 8*j)%256) 8)).size=8:=by rw[strOfNums_size,upto_length]
   generalize strOfNums (upto (fun j=>((s.size:Int)*8)/2 ^ (56 - 8*j)%256) 8)=T8 at*
   have HBL:=below_new wr (.cells #[.int .u8 ((s.size:Int)*8/72057594037927936),.int .u8 ((s.size:Int)*8/281474976710656),.int .u8 ((s.size:Int)*8/1099511627776),.int .u8 ((s.size:Int)*8/4294967296),.int .u8 ((s.size:Int)*8/16777216),.int .u8 ((s.size:Int)*8/65536),.int .u8 ((s.size:Int)*8/256%256),.int .u8 ((s.size:Int)*8%256)] 5)
   have HB:Hid _:=HBL
   clear HBL hp hps hq hen
   go_wp2_with fail
   go_ret
   exact⟨by rw[HE.out];rfl,HB.out⟩
theorem first_any (w:World):Calls Tryz.prog 147 #[] w fun e w'=>e=.returned (.slice (some ⟨w.heap.size,0,none⟩) 8 8)∧w'=w.alloc (.cells (st8 (lf IV)) 32):=by
 go_enter Tryz.func147,Tryz.ntmps147
 go_wp2_with fail
 go_ret
 exact⟨rfl,rfl⟩
theorem sw_stable (f:Nat→Int) (k:Nat):∀ d i,i<16+k→sw f (k+d) i=sw f k i:=by
 intro d
 induction d with
 |zero=>intro i _;rfl
 |succ d ih=>
  intro i hi
  show upd (sw f (k+d)) (16+(k+d)) (ext (sw f (k+d)) (16+(k+d))) i=_
  rw[upd_ne _ _ _ _ (by omega)]
  exact ih i hi
theorem sch_low (q:Nat→Int) (hq:∀ j,0≤q j∧q j<256) (i:Nat) (hi:i<16):sch q i=wd q i:=by
 unfold sch
 rw[show(48:Nat)=0+48 from rfl,sw_stable _ 0 48 i hi]
 exact rw4_wd q hq i hi
theorem sch_ext (q:Nat→Int) (t:Nat) (ht:t<48):sch q (16+t)=ext (sch q) (16+t):=by
 unfold sch
 obtain⟨d,hd⟩:∃ d,48=t+1+d:=⟨48 - (t+1),by omega⟩
 have h1:sw (rw4 q 64) 48 (16+t)=sw (rw4 q 64) (t+1) (16+t):=by rw[hd];exact sw_stable _ (t+1) d (16+t) (by omega)
 have h2:∀ i,i<16+t→sw (rw4 q 64) 48 i=sw (rw4 q 64) t i:=fun i hi=>by
  rw[show(48:Nat)=t+(1+d) by omega];exact sw_stable _ t (1+d) i hi
 rw[h1]
 show upd (sw (rw4 q 64) t) (16+t) (ext (sw (rw4 q 64) t) (16+t)) (16+t)=_
 rw[upd_at]
 unfold ext
 rw[h2 _ (by omega),h2 _ (by omega),h2 _ (by omega),h2 _ (by omega)]
theorem op_append {P:Program} {o:Oper} {a:Act} {w:World} {K:Act→World→Prop} {Q:Exit→Act→World→Prop} (t u:TypeId) (s x:Operand) (ho:o.op=.call { callee:=.builtin .append,args:=#[s,x],argTypes:=#[t,u] })
  {vs vx v':Value} {w':World} (hs:a.eval s=vs) (hx:a.eval x=vx) (hrun:(Builtin.append_ #[t,u] o.type #[vs,vx]).run P w=.ok v' w') (h:K (a.put o.dst v') w'):Oper.wp P o a w K Q:=by
 unfold Oper.wp execOp
 simp only[ho,resolve,invoke,builtin,Sem.run_bind,Sem.run_pure,Result.andThen_ok,List.map_toArray,List.map_cons,List.map_nil,hs,hx,hrun]
 exact h
theorem info41:(Tryz.prog.info? 32).map (fun i=>(i.zero,i.size,i.bytes))=some (some (.int .u32 0),1,4):=by kernel_rfl
theorem app_keep (w:World) (base:Nat) (v:Value) (n:Nat) (xs:List Value) (hown:w.ownsRow base 32 1 v n xs) (y:Int) (ad:Addr) (hy:w.cell? ad=some (.int .u32 y)) (hn:n≤1000) (hbase:base≤w.heap.size) (ty:TypeId):
  ∃ v' w',(Builtin.append_ #[174,174] ty #[v,.slice (some ad) 1 1]).run Tryz.prog w=.ok v' w'∧w'.ownsRow base 32 1 v' (n+1) (xs++[.int .u32 y])∧w.grownBy w' v.ownBlock∧(∀ p cap,v=.slice (some ⟨p,0,none⟩) n cap→∀ (j:Nat) (u:Value),xs[j]? =some u→w'.cell? ⟨p,j,none⟩=some u):=by
 obtain⟨i0,hi,hz0,hz1,hz2⟩:=info_parts info41
 have hnews:∀ j u,[Value.int .u32 y][j]? =some u→w.cell? (ad.add j)=some u:=fun j u hj=>by
  match j,hj with
  |0,hj=>simp at hj;subst hj;rw[show ad.add 0=ad by cases ad;rfl];exact hy
  |j+1,hj=>simp at hj
 have h1:∀ u∈[Value.int .u32 y],u.oneCell'=true:=fun u hu=>by simp at hu;subst hu;rfl
 obtain⟨v',w',hr,ho,hg,_,_⟩:=run_append_own_at (P:=Tryz.prog) w base 174 ty 32 i0 (.int .u32 0) 1 4 Tryz.underlying174 hi hz0 hz1 hz2 rfl (by decide) v n xs hown ad 1 1 [.int .u32 y] rfl hnews h1 (by unfold maxLen;omega) (by omega) hbase
 refine⟨v',w',hr,ho,hg,?_⟩
 rintro p cap rfl j u hu
 rcases hown.2 with⟨hv,_⟩|⟨g,cap',cur,hv,hbg,hgh,hnc,hcm,hcs,htake⟩
 ·cases hv
 ·cases hv
  by_cases hroom:n+1≤cap
  ·obtain⟨w2,hr2,ho2,_⟩:=run_append_fits (P:=Tryz.prog) w base 174 ty 32 i0 1 Tryz.underlying174 hi hz1 p n cap xs hown ad 1 1 [.int .u32 y] rfl hnews h1 hroom
   rw[hr] at hr2
   injection hr2 with e1 e2
   rw[e2]
   exact own_cell ho2 (by rw[List.getElem?_append_left (List.getElem?_eq_some_iff.1 hu).1];exact hu)
  ·have holds:∀ j u,xs[j]? =some u→w.cell? ((⟨p,0,none⟩:Addr).add j)=some u:=hown.cells (g:=p) rfl
   have hr2:=run_append_grow (P:=Tryz.prog) w 174 ty 32 i0 (.int .u32 0) Tryz.underlying174 hi hz0 ⟨p,0,none⟩ n cap xs (by rw[hown.1,hz1]) holds ad 1 1 [.int .u32 y] (by rw[hz1];rfl) hnews (by omega) (by omega) (growslice_fits (by omega) (by rw[hz2];omega))
   rw[hr] at hr2
   injection hr2 with e1 e2
   rw[e2]
   have hc:=own_cell hown hu
   have hlt:p<w.heap.size:=(Array.getElem?_eq_some_iff.1 hgh).1
   exact(cell_same (Below.heap_alloc w.drew _ p hlt) j).trans hc
theorem readyH {P:Program} {md:Region.Mode} {ops:Array Oper} {Q:Exit→Act→World→Prop} {S:World→Prop} {fuel:Nat} {listed:Array Bool} {a:Act} {w:World} (k:Nat) (o:Oper) (hr:Region.ready md ops listed=[k]) (ho:ops[k]? =some o)
  (hw:Region.wanted o (yielded ops a.tmps)=true)
  (h:∀ K:Act→World→Prop,(∀ a w,S w→wpAnyH P md ops Q S fuel (listed.setIfInBounds k true) a w→K a w)→Oper.wp P o a w K Q):wpAnyH P md ops Q S (fuel+1) listed a w:=by
 refine wpAnyH_all hr (by simp) fun j hj=>?_
 obtain rfl:j=k:=by simpa using hj
 unfold wpOp
 simp only[ho,hw,if_true]
 exact .inl (h _ fun a w h1 h2=>⟨h1,h2⟩)
theorem range_law2 {α:Type} {F:Fence} {n:Nat} {P:Program} {g:Operand} {ps:Array Tmp} {assign body:Code} {Q:Exit→Act→World→Prop} {a:Act} {w:World}
  (hro:F.round=none) (h1:1≤n) {gf:Nat} {lb:Array Value} (hg:a.eval g=.func (.func gf) #[] lb) (hFg:F.fn gf) (eg:∀ args w,(callFunc gf args).run P w=.ok (.enter gf args) w)
  (encs:α→Array Value) (hps:∀ x,(encs x).size=ps.size) (Kp:World→World→Prop) (hKt:∀ {A B C:World},Kp A B→Kp B C→Kp A C)
  (hKb:∀ (W:World) (l:Nat) (o o':Obj),W.heap[l]? =some o→o.isCells=false→Kp W (W.putObj l o'))
  (Y:Nat→α→World→Prop) (hY:∀ k x W l o',Y k x W→w.heap.size≤l→l<w.heap.size+2→Y k x (W.putObj l o'))
  (J:Nat→World→Prop) (Jx:World→Prop) (id:Nat) (hJ:∀ k W W',J k W→Below w.heap.size W W'→J k W') (hJx:∀ W W',Jx W→Below w.heap.size W W'→Jx W') (h0:J 0 w)
  (bad:Nat→Prop) (hbad:∀ k W,J k W→bad k→False) (a₁:α→Act)
  (hassign:∀ (l:Nat) (x:α) (W:World) (K:Act→World→Prop),K (a₁ x) W→
   assign.wpIn (F.inRound l) (n - 1 - 1) P (Exit.then K (fun _ _ _=>False)) { tmps:=(ps.zip (encs x)).foldl (fun t (p,v)=>t.setIfInBounds p v) a.tmps,defers:=[] } W)
  (hbody:∀ (l k:Nat) (x:α) (W:World),J k W→Y k x W→body.wpIn (F.inRound l) (n - 1 - 1) P (lPost w.heap.size Kp (J (k+1)) Jx id W) (a₁ x) W)
  (hiter:∀ (l:Nat) (W1:World),Below w.heap.size w W1→W1.heap.size=w.heap.size+2→∀ (R:Nat→World→Prop) (Rx:World→Prop),(∀ k W W',R k W→Below W1.heap.size W W'→R k W')→(∀ W W',Rx W→Below W1.heap.size W W'→Rx W')→
   (∀ k x W,R k W→Y k x W→YieldAt F (n - 1 - 1) P l (encs x) W fun e W'=>(e=.returned (.bool true)∧R (k+1) W'∧Kp W W')∨(e=.returned (.bool false)∧Rx W'))→(∀ k W,R k W→¬bad k)→R 0 W1→
   CallsIn F (n - 1) P gf (#[.func (.yield l) #[] #[]]++lb) W1 fun e W'=>(∃ v,e=.returned v)∧Rx W')
  (hstop:∀ (D:Nat) (W:World),w.heap.size≤D→Jx W→W.heap[D]? =some (.deferred (some []))→(Code.exit id).wpIn F n P Q { a with defers:={ target:=.collected D,args:=#[] }::a.defers } W):
  (Code.rangeFunc g ps assign body).wpIn F n P Q a w:=by
 refine wpIn_rangeFunc fun fn hfn=>?_
 rw[hro]
 obtain⟨rc,hrc⟩:∃ rc:LoopState→Option Code→Loop,rc=fun st pe=>{ state:=st,pending:=pe,fn,tmps:=a.tmps,params:=ps,assign,body,defers:=w.heap.size }:=⟨_,rfl⟩
 obtain⟨W1,hW1⟩:∃ W1,(w.alloc (.deferred (some []))).alloc (.loop (rc .ready none))=W1:=⟨_,rfl⟩
 have hn2:=two_new w (.deferred (some [])) (.loop (rc .ready none))
 have hs:W1.heap.size=w.heap.size+2:=by rw[←hW1];simp
 rw[hW1] at hn2
 obtain⟨hD1,hL1,hB1⟩:=hn2
 refine⟨w.heap.size+1,[{ target:=.collected w.heap.size,args:=#[] }],W1,{ target:=.fn (.func gf) lb,args:=#[.func (.yield (w.heap.size+1)) #[] #[]] },W1,gf,
  #[.func (.yield (w.heap.size+1)) #[] #[]]++lb,W1,?_,?_,?_,?_,fun _=>h1,?_⟩
 ·rw[←hW1,hrc];exact run_enterLoop_outer _ _ _ _ _
 ·simp only[resolve,hg]
  simp[go_sem]
 ·intro f' hf'
  simp[Target.leads] at hf'
  subst hf'
  exact hFg
 ·simp[invoke,go_sem,eg]
 ·refine(hiter (w.heap.size+1) W1 hB1 hs
   (fun k W=>J k W∧W.heap[w.heap.size+1]? =some (.loop (rc .ready none))∧W.heap[w.heap.size]? =some (.deferred (some [])))
   (fun W=>Jx W∧W.heap[w.heap.size+1]? =some (.loop (rc .done (some (.exit id))))∧W.heap[w.heap.size]? =some (.deferred (some [])))
   (fun k W W' h hb=>⟨hJ k W W' h.1 (hb.mono (by omega)),(hb.block _ (by omega)).trans h.2.1,(hb.block _ (by omega)).trans h.2.2⟩)
   (fun W W' h hb=>⟨hJx W W' h.1 (hb.mono (by omega)),(hb.block _ (by omega)).trans h.2.1,(hb.block _ (by omega)).trans h.2.2⟩)
   ?_ (fun k W h hk=>hbad k W h.1 hk) ⟨hJ 0 w W1 h0 hB1,hL1,hD1⟩).mono ?_
  ·rintro k x W ⟨hj,hl,hd⟩ hy
   have hlt:w.heap.size+1<W.heap.size:=(Array.getElem?_eq_some_iff.1 hl).1
   have hyr:=run_yield (P:=P) (args:=encs x) hl (by rw[hrc];exact hps x)
   rw[hrc] at hyr
   refine⟨fn,_,assign,body,hyr,roundIn_of_wpIn hfn (hassign _ x W _ ?_)⟩
   refine⟨_,run_beginRound hl (by rw[hrc]),?_⟩
   have hl2:(W.putObj (w.heap.size+1) (.loop { rc .ready none with state:=.busy })).heap[w.heap.size+1]? =some (.loop { rc .ready none with state:=.busy }):=World.putObj_heap_same hlt
   have hd2:(W.putObj (w.heap.size+1) (.loop { rc .ready none with state:=.busy })).heap[w.heap.size]? =some (.deferred (some [])):=(World.putObj_heap_other (by omega)).trans hd
   refine wpIn_mono (hbody _ k x _ (hJ k _ _ hj (below_put W _ (by omega))) (hY k x W _ _ hy (by omega) (by omega))) ?_
   rintro e a3 W3 hp
   cases e with
   |normal=>
    obtain⟨hk3,hkp,hj3⟩:=hp
    have hl3:=hk3.same _ _ (by omega) hl2 rfl
    have hd3:=hk3.same _ _ (Nat.le_refl _) hd2 rfl
    have hr:=run_endRound (P:=P) none hl3
    refine⟨_,_,hr,.inl ⟨rfl,⟨hJ _ _ _ hj3 (below_put W3 _ (by omega)),?_,(World.putObj_heap_other (by omega)).trans hd3⟩,hKt (hKb W _ _ _ hl rfl) (hKt hkp (hKb W3 _ _ _ hl3 rfl))⟩⟩
    rw[World.putObj_heap_same (Array.getElem?_eq_some_iff.1 hl3).1,hrc]
    rfl
   |exit i=>
    obtain⟨rfl,hk3,hj3⟩:=hp
    have hl3:=hk3.same _ _ (by omega) hl2 rfl
    have hd3:=hk3.same _ _ (Nat.le_refl _) hd2 rfl
    have hr:=run_endRound (P:=P) (some (.exit i)) hl3
    refine⟨_,_,hr,.inr ⟨rfl,hJx _ _ hj3 (below_put W3 _ (by omega)),?_,(World.putObj_heap_other (by omega)).trans hd3⟩⟩
    rw[World.putObj_heap_same (Array.getElem?_eq_some_iff.1 hl3).1,hrc]
    rfl
   |ret=>exact hp.elim
   |goto t=>exact hp.elim
   |panic ch=>exact hp.elim
   |outgrown=>exact hp.elim
  ·rintro e W2 ⟨⟨v,rfl⟩,hx,hl,hd⟩
   refine⟨some (.exit id),_,by have:=run_endLoop (P:=P) hl (by rw[hrc];simp);rw[hrc] at this;exact this,?_⟩
   exact hstop _ _ (Nat.le_refl _) (hJx _ _ hx (below_put W2 _ (by omega))) ((World.putObj_heap_other (by omega)).trans hd)
open Go.RowKit Go.Shelf Go.Lib
attribute [local go_sem] Oper.semAt_some
def Kq (b:Nat) (A B:World):Prop:=A.heap.size≤B.heap.size∧∀ j o,j<b→A.heap[j]? =some o→o.isCells=true→B.heap[j]? =some o
theorem Kq.refl (b:Nat) (A:World):Kq b A A:=⟨Nat.le_refl _,fun _ _ _ h _=>h⟩
theorem Kq.trans {b:Nat} {A B C:World} (h:Kq b A B) (k:Kq b B C):Kq b A C:=⟨Nat.le_trans h.1 k.1,fun j o hj ho hc=>k.2 j o hj (h.2 j o hj ho hc) hc⟩
theorem Kq.put (b:Nat) (W:World) (l:Nat) (o o':Obj) (h:W.heap[l]? =some o) (hc:o.isCells=false):Kq b W (W.putObj l o'):=
 ⟨by simp[World.putObj],fun j p _ hp hpc=>by
  by_cases e:j=l
  ·subst e;rw[h] at hp;cases hp;rw[hc] at hpc;cases hpc
  ·exact(World.putObj_heap_other e).trans hp⟩
theorem Kq.below {b B:Nat} {X Y:World} (h:Below B X Y) (hB:b≤B):Kq b X Y:=⟨h.size,fun j _ hj ho _=>(h.block j (by omega)).trans ho⟩
def Yields8 (gf:Nat) (lb:Array Value) (m:Nat→Int) (N:Nat) (w0:World):Prop:=
 ∀ (l:Nat) (W1:World),Kq w0.heap.size w0 W1→∀ (R:Nat→World→Prop) (Rx:World→Prop),(∀ k W W',R k W→Below W1.heap.size W W'→R k W')→(∀ W W',Rx W→Below W1.heap.size W W'→Rx W')→
  (∀ k W,R k W→YieldAt Fence.wide 3 Tryz.prog l #[.int .u8 (m k)] W fun e W'=>(e=.returned (.bool true)∧R (k+1) W'∧Kq w0.heap.size W W')∨(e=.returned (.bool false)∧Rx W'))→
  (∀ k W,R k W→k<N)→R 0 W1→
  CallsIn Fence.wide 4 Tryz.prog gf (#[.func (.yield l) #[] #[]]++lb) W1 fun e W'=>(∃ v,e=.returned v)∧Rx W'
def Fst (m:Nat→Int) (n:Nat) (w:World) (q k:Nat) (W:World):Prop:=
 k≤n∧W.heap[w.heap.size]? =some (.cells #[.int .i64 (n:Int)] 3 (0,0))∧W.heap[q]? =some (.cells #[.slice (some ⟨w.heap.size+1,0,none⟩) k n] 98 (0,0))∧W.ownsRow (w.heap.size+1) 5 1 (.slice (some ⟨w.heap.size+1,0,none⟩) k n) k ((upto m k).map (Value.int .u8))∧Below w.heap.size w W
theorem own_blw {W W':World} {base p n cap B:Nat} {xs:List Value} (ho:W.ownsRow base 5 1 (.slice (some ⟨p,0,none⟩) n cap) n xs) (hb:Below B W W') (hp:p<B):W'.ownsRow base 5 1 (.slice (some ⟨p,0,none⟩) n cap) n xs:=by
 refine⟨ho.1,?_⟩
 rcases ho.2 with⟨hv,_⟩|⟨g',cap',cur,hv,hb',hh,rest⟩
 ·cases hv
 ·cases hv
  exact .inr ⟨p,cap,cur,rfl,hb',(hb.block p hp).trans hh,rest⟩
theorem Fst.below {m:Nat→Int} {n q k B:Nat} {w W W':World} (h:Fst m n w q k W) (hb:Below B W W') (h1:w.heap.size+1<B) (h2:q<B):Fst m n w q k W':=
 ⟨h.1,(hb.block _ (by omega)).trans h.2.1,(hb.block _ h2).trans h.2.2.1,own_blw h.2.2.2.1 hb h1,h.2.2.2.2.trans (hb.mono (by omega))⟩
theorem first_in (gf:Nat) (lb:Array Value) (m:Nat→Int) (n:Nat) (hn:n≤100000) (w:World) (eg:∀ args w,(callFunc gf args).run Tryz.prog w=.ok (.enter gf args) w) (hI:Yields8 gf lb m (max n 1) w):
  CallsIn Fence.wide 5 Tryz.prog 165 #[.int .i64 (n:Int),.func (.func gf) #[] lb] w fun e w'=>e=.returned (.string (strOfNums (upto m n)))∧Below w.heap.size w w':=by
 obtain⟨i0,hi,hz0,hz1,hz2⟩:=info_parts info5
 refine callsIn_of_wp_marks Tryz.func165 rfl trivial ?_ rfl
 simp only[Tryz.ntmps165,List.size_toArray,List.length_cons,List.length_nil,Nat.reduceAdd,Nat.reduceSub,Array.replicate_succ,Array.replicate_zero,List.push_toArray,List.append_toArray,List.nil_append,List.cons_append]
 have n0:(0:Int)≤(n:Int):=by omega
 have n1:(n:Int)≤100000:=by omega
 gi_wp2
 obtain⟨w0,hw0⟩:∃ w0,w.alloc (.cells #[.int .i64 (n:Int)] 3)=w0:=⟨_,rfl⟩
 have s0:w0.heap.size=w.heap.size+1:=by rw[←hw0];simp
 have hb0:Below w.heap.size w w0:=by rw[←hw0];exact(Below.refl _ w).alloc (Nat.le_refl _) _
 have X0:Hid (w0.heap[w.heap.size]? =some (.cells #[.int .i64 (n:Int)] 3 (0,0))):=by rw[←hw0];exact heap_alloc_new w _
 have c0:w0.cell? ⟨w.heap.size,0,none⟩=some (.int .i64 (n:Int)):=by rw[cell_of_row _ _ _ _ _ _ X0.out];rfl
 obtain⟨w2,hmk0,hown,hgrow⟩:=run_make_own (P:=Tryz.prog) w0 w0.heap.size 98 5 i0 (.int .u8 0) 1 Tryz.underlying98 hi hz0 hz1 .i64 .i64 n (by rw[hz2];omega) (by unfold maxLen;omega) (Nat.le_refl _)
 have hmk:(Instr.makeSlice 98 (.int .i64 0) (.int .i64 (n:Int))).run Tryz.prog w0=.ok (.slice (some ⟨w0.heap.size,0,none⟩) 0 n) w2:=hmk0
 rw[hw0]
 clear hw0 hmk0
 refine(wpIn_wide (n:=5)).2 (wp_scope_straight ((wpIn_wide (n:=5)).1 ?_))
 gi_wp2
 obtain⟨w3,hw3⟩:∃ w3,w2.alloc (.cells #[.slice (some ⟨w.heap.size+1,0,none⟩) 0 n] 98)=w3:=⟨_,rfl⟩
 have b2:Below w.heap.size w w2:=hb0.grown hgrow (by omega) (fun k e=>by cases e)
 have b3:Below w2.heap.size w2 w3:=by rw[←hw3];exact(Below.refl _ w2).alloc (Nat.le_refl _) _
 have O3:w3.ownsRow (w.heap.size+1) 5 1 (.slice (some ⟨w.heap.size+1,0,none⟩) 0 n) 0 []:=by rw[s0] at hown;rw[←hw3];exact hown.alloc _
 have l2:w.heap.size+1<w2.heap.size:=by rw[s0] at hown;exact own_lt hown
 have X3:w3.heap[w.heap.size]? =some (.cells #[.int .i64 (n:Int)] 3 (0,0)):=(b3.block _ (by omega)).trans ((hgrow.block _ (by omega) (by simp)).trans X0.out)
 have Q3:w3.heap[w2.heap.size]? =some (.cells #[.slice (some ⟨w.heap.size+1,0,none⟩) 0 n] 98 (0,0)):=by rw[←hw3];exact heap_alloc_new w2 _
 have B3:Below w.heap.size w w3:=b2.trans (b3.mono (by omega))
 have s3:w3.heap.size=w2.heap.size+1:=by rw[←hw3];simp
 rw[hw3]
 clear hw3 hmk hown hgrow hb0 b2 b3 X0 c0
 generalize w2.heap.size=q at*
 clear s0
 refine wpIn_label ?_
 gi_wp2
 refine range_law2 rfl (by omega) (gf:=gf) (lb:=lb) rfl trivial eg (fun x:Int=>#[.int .u8 x]) (fun _=>rfl) (Kq w.heap.size) Kq.trans (fun W l o o' h hc=>Kq.put w.heap.size W l o o' h hc)
  (fun k x _=>x=m k) (fun k x W l o' hy _ _=>hy)
  (fun k W=>k<max n 1∧Fst m n w q k W) (fun W=>Fst m n w q n W) 0
  (fun k W W' h hb=>⟨h.1,h.2.below hb (by omega) (by omega)⟩) (fun W W' h hb=>h.below hb (by omega) (by omega))
  ⟨by omega,Nat.zero_le _,X3,Q3,O3,B3⟩ (fun k=>¬k<max n 1) (fun k W h hk=>hk h.1)
  (fun x=>{ tmps:=#[Value.int IntKind.i64 (n:Int),Value.func (Fn.func gf) #[] lb,
     Value.pointer (some ⟨w.heap.size,0,none⟩),undef,Value.string ⟨#[]⟩,
     Value.pointer (some ⟨q,0,none⟩),Value.int IntKind.u8 x,Value.int IntKind.i64 (n:Int),
     Value.slice (some ⟨w.heap.size+1,0,none⟩) 0 n,Value.func (Fn.func gf) #[] lb,Value.int IntKind.u8 x,undef,
     undef,undef,undef,undef,undef,undef,undef,undef,undef,undef,undef,undef,undef],defers:=[] }) ?assign ?body ?iter ?stop
 case assign=>
  intro l x W K hK
  gi_wp2
  exact hK
 case iter=>
  intro l W1 hB1 hs1 R Rx hR hRx hY hbd h0
  refine hI l W1 (Kq.trans (Kq.below B3 (Nat.le_refl _)) (Kq.below hB1 (by omega))) R Rx hR hRx (fun k W hk=>hY k (m k) W hk rfl) (fun k W h=>by have:=hbd k W h;omega) h0
 case body=>
  rintro l k x W ⟨hk,hkn,hx,hq,ho,hbw⟩ rfl
  have HX:Hid (W.heap[w.heap.size]? =some (.cells #[.int .i64 (n:Int)] 3 (0,0))):=hx
  have HQ:Hid (W.heap[q]? =some (.cells #[.slice (some ⟨w.heap.size+1,0,none⟩) k n] 98 (0,0))):=hq
  have HO:Hid (W.ownsRow (w.heap.size+1) 5 1 (.slice (some ⟨w.heap.size+1,0,none⟩) k n) k ((upto m k).map (Value.int .u8))):=ho
  have HB:Hid (Below w.heap.size w W):=hbw
  have c1:W.cell? ⟨w.heap.size,0,none⟩=some (.int .i64 (n:Int)):=by rw[cell_of_row _ _ _ _ _ _ hx];rfl
  have c2:W.cell? ⟨q,0,none⟩=some (.slice (some ⟨w.heap.size+1,0,none⟩) k n):=by rw[cell_of_row _ _ _ _ _ _ hq];rfl
  clear hx hq ho hbw
  by_cases hn0:n=0
  ·subst hn0
   obtain rfl:k=0:=by omega
   gi_wp2
   exact⟨rfl,KeepsFrom.refl _ _,Nat.le_refl _,HX.out,HQ.out,HO.out,HB.out⟩
  ·have hkl:k<n:=by omega
   have k1:(k:Int)<(n:Int):=by omega
   have k0:(0:Int)≤(k:Int):=by omega
   obtain⟨x,hxm⟩:∃ x,m k=x:=⟨_,rfl⟩
   have HXM:Hid (m k=x):=hxm
   rw[hxm]
   clear hxm
   have hWl:q<W.heap.size:=(Array.getElem?_eq_some_iff.1 HQ.out).1
   obtain⟨W5,hrun5,hown5,hgrow5⟩:=run_append_fits (P:=Tryz.prog) (W.alloc (.cells #[.int .u8 x] 5)) (w.heap.size+1) 98 98 5 i0 1 Tryz.underlying98 hi hz1 (w.heap.size+1) k n _ (HO.out.alloc _) ⟨W.heap.size,0,none⟩ 1 1 [.int .u8 x] rfl (cell_one _ _ _) (fun u hu=>by simp at hu;subst hu;rfl) (by omega)
   have g5:(W.alloc (.cells #[.int .u8 x] 5)).grownBy W5 (some (w.heap.size+1)):=hgrow5
   have ba:Below W.heap.size W (W.alloc (.cells #[.int .u8 x] 5)):=(Below.refl _ W).alloc (Nat.le_refl _) _
   have sa:(W.alloc (.cells #[.int .u8 x] 5)).heap.size=W.heap.size+1:=by simp
   have Q5:W5.heap[q]? =some (.cells #[.slice (some ⟨w.heap.size+1,0,none⟩) k n] 98 (0,0)):=(g5.block q (by omega) (by intro e;cases e;omega)).trans ((ba.block q hWl).trans HQ.out)
   have X5:Hid (W5.heap[w.heap.size]? =some (.cells #[.int .i64 (n:Int)] 3 (0,0))):=(g5.block _ (by omega) (by simp)).trans ((ba.block _ (by omega)).trans HX.out)
   have c3:W5.cell? ⟨q,0,none⟩=some (.slice (some ⟨w.heap.size+1,0,none⟩) k n):=by rw[cell_of_row _ _ _ _ _ _ Q5];rfl
   have z3:=frozen_of_row W5 q 0 _ _ Q5
   have B5:Hid (Below w.heap.size w W5):=(HB.out.trans (ba.mono HB.out.size)).grown g5 (by omega) (fun j e=>by cases e;omega)
   have K5:Hid (KeepsFrom w3.heap.size W W5):=(KeepsFrom.of_grownBy (row:=none) ⟨ba.os,ba.tape,ba.output,ba.size,fun j hj _=>ba.block j hj⟩ (fun j e=>by cases e)).trans (KeepsFrom.of_grownBy g5 (fun j e=>by cases e;omega))
   have O5:Hid (W5.ownsRow (w.heap.size+1) 5 1 (.slice (some ⟨w.heap.size+1,0,none⟩) (k+1) n) (k+1) ((upto m (k+1)).map (Value.int .u8))):=by
    rw[upto_succ,List.map_append,HXM.out];exact hown5
   have Q6:Hid ((W5.setCell ⟨q,0,none⟩ (.slice (some ⟨w.heap.size+1,0,none⟩) (k+1) n)).heap[q]? =some (.cells #[.slice (some ⟨w.heap.size+1,0,none⟩) (k+1) n] 98 (0,0))):=by
    rw[heap_setCell_same W5 q 0 _ _ _ Q5];rfl
   have g6:=gb_set W5 q 0 (.slice (some ⟨w.heap.size+1,0,none⟩) (k+1) n)
   have b6:Below q W5 (W5.setCell ⟨q,0,none⟩ (.slice (some ⟨w.heap.size+1,0,none⟩) (k+1) n)):=grown_below g6 (Nat.le_refl _) (by have:=(Array.getElem?_eq_some_iff.1 Q5).1;omega)
   have FF:Hid (Fst m n w q (k+1) (W5.setCell ⟨q,0,none⟩ (.slice (some ⟨w.heap.size+1,0,none⟩) (k+1) n))):=⟨by omega,(b6.block _ (by omega)).trans X5.out,Q6.out,own_blw O5.out b6 (by omega),B5.out.trans (b6.mono (by omega))⟩
   have KF:Hid (KeepsFrom w3.heap.size W (W5.setCell ⟨q,0,none⟩ (.slice (some ⟨w.heap.size+1,0,none⟩) (k+1) n))):=K5.out.trans (KeepsFrom.of_grownBy g6 (fun j e=>by cases e;omega))
   have KK:Hid (Kq w.heap.size W (W5.setCell ⟨q,0,none⟩ (.slice (some ⟨w.heap.size+1,0,none⟩) (k+1) n))):=Kq.trans (Kq.below ba (by omega)) (Kq.trans (Kq.below (grown_below (B:=w.heap.size) g5 (by omega) (by omega)) (Nat.le_refl _)) (Kq.below b6 (by omega)))
   have FJ:Hid (∀ j,j=k+1→Fst m n w q j (W5.setCell ⟨q,0,none⟩ (.slice (some ⟨w.heap.size+1,0,none⟩) (k+1) n))):=fun j hj=>by rw[hj];exact FF.out
   have d6:(W5.setCell ⟨q,0,none⟩ (.slice (some ⟨w.heap.size+1,0,none⟩) (k+1) n)).cell? ⟨w.heap.size,0,none⟩=some (.int .i64 (n:Int)):=by rw[cell_of_row _ _ _ _ _ _ FF.out.2.1];rfl
   clear hgrow5 hown5 g5 ba sa Q5 g6 b6 K5 B5 O5 X5 HB HQ HX HO Q6
   by_cases hend:k+1=n
   ·have q1:((k:Int)+1==(n:Int))=true:=by simp;omega
    have HE:Hid (k+1=n):=hend
    clear hend
    gi_wp2_with (gi_at_builtin;refine listIn_append_s rfl 98 98 (.tmp 15) (.tmp 17) rfl (vs:=.slice (some ⟨w.heap.size+1,0,none⟩) k n) (vx:=.slice (some ⟨W.heap.size,0,none⟩) 1 1) rfl rfl hrun5 ?_)
    exact⟨rfl,KF.out,FJ.out n HE.out.symm⟩
   ·have q1:((k:Int)+1==(n:Int))=false:=by simp;omega
    gi_wp2_with (gi_at_builtin;refine listIn_append_s rfl 98 98 (.tmp 15) (.tmp 17) rfl (vs:=.slice (some ⟨w.heap.size+1,0,none⟩) k n) (vx:=.slice (some ⟨W.heap.size,0,none⟩) 1 1) rfl rfl hrun5 ?_)
    exact⟨KF.out,KK.out,by omega,FF.out⟩
 case stop=>
  rintro D W hD ⟨_,hx,hq,ho,hbw⟩ hdf
  have c2:W.cell? ⟨q,0,none⟩=some (.slice (some ⟨w.heap.size+1,0,none⟩) n n):=by rw[cell_of_row _ _ _ _ _ _ hq];rfl
  have hcv:(convert 98 9 (.slice (some ⟨w.heap.size+1,0,none⟩) n n)).run Tryz.prog W=.ok (.string (strOfNums (upto m n))) W:=by
   refine run_convert_bytes_arg W 98 5 Tryz.underlying98 Tryz.underlying5 (w.heap.size+1) 0 n n (upto m n) (by rw[upto_length]) (fun i hi=>?_) 9 Tryz.underlying9
   rw[Nat.zero_add]
   refine own_cell ho ?_
   simp[upto,List.getD,hi]
  have HB:Hid (Below w.heap.size w W):=hbw
  clear hx hq ho hbw
  gi_wp2
  rw[Exit.noGoto_ret]
  refine⟨by simp,.inl ⟨_,_,rfl,run_takeDeferred hdf,?_⟩⟩
  refine⟨_,results_tmp rfl _ _ _,rfl,HB.out.trans (below_put W _ (by omega))⟩
end Go.Proofs.YtfaflomephjkgaaGreatDoor
