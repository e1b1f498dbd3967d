/- Image; zeros; a row of blocks, all alike; New. -/
import Derived.Test.YtfaflomephjkgaaGreatDoorQDA
import Derived.Test.YtfaflomephjkgaaGreatDoorPAa
import Derived.Lib.Repeat
import Derived.Deep.OwnRows
import Derived.Laws.CopyRow
import Derived.Laws.BytesArg
import Derived.Laws.IdiomStrings
import Derived.Laws.StructEq
set_option maxRecDepth 100000
set_option maxHeartbeats 2000000
namespace Go.Proofs.YtfaflomephjkgaaGreatDoor.Rd
open Go.RowKit
open Go.ChangeMaps (setBlock)
def zs (n:Nat):ByteArray:=⟨(List.replicate n (0:UInt8)).toArray⟩
theorem zs_size (n:Nat):(zs n).size=n:=by simp[zs,ByteArray.size]
theorem repeat_zero (n:Nat):Lib.repeatL [(0:UInt8)] n=List.replicate n 0:=by
 induction n with
 |zero=>rfl
 |succ n ih=>simp[Lib.repeatL,List.replicate_succ] at ih ⊢;exact ih
theorem zeros_any (n:Nat) (hn:n≤1000000) (w:World):
  Calls Tryz.prog 46 #[.int .i64 (n:Int)] w fun e w'=>e=.returned (.string (zs n))∧Below w.heap.size w w':=by
 have hr:=Tryz.strings_Repeat ⟨#[0]⟩ n w (by omega) (by simp[ByteArray.size];omega)
 have hz:Lib.repeatL (ByteArray.mk #[0]).data.toList n=List.replicate n 0:=repeat_zero n
 rw[hz] at hr
 have HR:Hid (Calls Tryz.prog 70 #[.string ⟨#[0]⟩,.int .i64 (n:Int)] w fun e w'=>e=.returned (.string (zs n))∧Below w.heap.size w w'):=hr
 clear hr hz
 go_enter Tryz.func46,Tryz.ntmps46
 go_wp2_with fail
 refine Calls.mono HR.out ?_
 rintro e w1 ⟨rfl,b1⟩
 have B1:Hid _:=b1
 clear b1
 go_wp2_with fail
 go_ret
 exact⟨rfl,B1.out⟩
def Txs (w:World) (g n:Nat) (f:Nat→ByteArray):Prop:=∃ cs,w.heap[g]? =some (.cells cs 9 (0,0))∧cs.size=n∧∀ i,i<n→cs[i]? =some (.string (f i))
theorem Txs.lt {w:World} {g n:Nat} {f:Nat→ByteArray} (h:Txs w g n f):g<w.heap.size:=by
 obtain⟨cs,h1,h2⟩:=h
 exact(Array.getElem?_eq_some_iff.1 h1).1
theorem Txs.same {w w':World} {g n:Nat} {f:Nat→ByteArray} (h:Txs w g n f) (e:w'.heap[g]? =w.heap[g]?):Txs w' g n f:=by
 obtain⟨cs,h1,h2⟩:=h
 exact⟨cs,e.trans h1,h2⟩
theorem Txs.cell {w:World} {g n:Nat} {f:Nat→ByteArray} (h:Txs w g n f) (i:Nat) (hi:i<n):w.cell? ⟨g,i,none⟩=some (.string (f i))∧w.frozen? ⟨g,i,none⟩=false:=by
 obtain⟨cs,h1,h2,h3⟩:=h
 exact⟨by rw[cell_of_row _ _ _ _ _ _ h1,h3 i hi],frozen_of_row w _ _ _ _ h1⟩
theorem Txs.set {w:World} {g n:Nat} {f:Nat→ByteArray} (h:Txs w g n f) (i:Nat) (hi:i<n) (t:ByteArray):Txs (w.setCell ⟨g,i,none⟩ (.string t)) g n (at' f i t):=by
 obtain⟨cs,h1,h2,h3⟩:=h
 refine⟨_,set_at _ _ _ _ _ _ _ h1,by simp[h2],fun q hq=>?_⟩
 rw[Array.getElem?_setIfInBounds]
 unfold at'
 by_cases hpq:q=i
 ·subst hpq;rw[if_pos rfl,if_pos rfl,if_pos (by omega)]
 ·rw[if_neg (by omega),if_neg hpq,h3 q hq]
theorem Txs.ext {w:World} {g n:Nat} {f f':Nat→ByteArray} (h:Txs w g n f) (e:∀ i,i<n→f i=f' i):Txs w g n f':=by
 obtain⟨cs,h1,h2,h3⟩:=h
 exact⟨cs,h1,h2,fun i hi=>by rw[h3 i hi,e i hi]⟩
theorem info9:(Tryz.prog.info? 9).map (fun i=>(i.zero,i.size,i.bytes))=some (some (.string ⟨#[]⟩),1,16):=by kernel_rfl
theorem image_any (d b m:Nat) (s:St) (w:World) (h:Dev w d b m s) (hk:Ok s):
  Calls Tryz.prog 8 #[pt d] w fun e w'=>∃ g,e=.returned (.slice (some ⟨g,0,none⟩) s.n s.n)∧Txs w' g s.n (holdS s)∧w.heap.size≤g∧Below w.heap.size w w':=by
 have HD:Hid (Dev w d b m s):=h
 have HK:Hid (Ok s):=hk
 obtain⟨c6,z6⟩:=h.c6
 have n0:=hk.n0
 have n1:=hk.n1
 have hmk:(Instr.makeSlice 36 (.int .i64 (s.n:Int)) (.int .i64 (s.n:Int))).run Tryz.prog w=.ok (.slice (some ⟨w.heap.size,0,none⟩) s.n s.n) (w.alloc (.cells (madeCells #[.string ⟨#[]⟩] s.n) 9)):=
  run_make_row' 36 9 (.string ⟨#[]⟩) 16 Tryz.underlying36 info9 rfl .i64 .i64 s.n (by omega) (by omega) w
 have HT:Hid (Txs (w.alloc (.cells (madeCells #[.string ⟨#[]⟩] s.n) 9)) w.heap.size s.n (fun _=>⟨#[]⟩)):=
  ⟨_,heap_alloc_new w _,by simp[madeCells],fun i hi=>by simp[madeCells,hi,Nat.mod_one]⟩
 have HB:Hid (Below w.heap.size w (w.alloc (.cells (madeCells #[.string ⟨#[]⟩] s.n) 9))):=below_new w _
 obtain⟨W,hW⟩:∃ W,w.alloc (.cells (madeCells #[.string ⟨#[]⟩] s.n) 9)=W:=⟨_,rfl⟩
 rw[hW] at hmk HT HB
 clear h hk hW
 generalize hn:s.n=n at*
 have HN:Hid (s.n=n):=hn
 clear hn
 go_enter Tryz.func8,Tryz.ntmps8
 go_wp2_with fail
 go_loopw [15] (fun i wr=>∃ k:Nat,k≤n∧i=.int .i64 (k:Int)∧Txs wr w.heap.size n (fun q=>if q<k then holdS s q else⟨#[]⟩)∧Below w.heap.size w wr) (fun i _=>n - natOf i)
 case atStart=>exact⟨0,by omega,rfl,by simpa using HT.out,HB.out⟩
 case round=>
  obtain⟨k,hkl,rfl,ht,hb⟩:=hrel
  have T1:Hid _:=ht
  have B1:Hid _:=hb
  clear ht hb
  by_cases hlt:k<n
  ·have q1:(k:Int)<(n:Int):=by omega
   have q0:(0:Int)≤(k:Int):=by omega
   have hwr:IntKind.u32.wrap (k:Int)=(k:Int):=IntWalk.u32_in _ (by omega)
   go_wp2_with fail
   refine(holds_any d b m s k (by rw[HN.out];exact hlt) wr (HD.out.below B1.out (Nat.le_refl _)) HK.out).mono ?_
   rintro e w2 ⟨rfl,b2⟩
   have T2:Hid (Txs w2 w.heap.size n (fun q=>if q<k then holdS s q else⟨#[]⟩)):=Txs.same T1.out (b2.block _ (Txs.lt T1.out))
   have B2:Hid (Below w.heap.size w w2):=B1.out.trans (b2.mono B1.out.size)
   obtain⟨x1,y1⟩:=Txs.cell T2.out k hlt
   rw[if_neg (by omega)] at x1
   clear b2
   go_wp2_with fail
   go_roundw
   case rel=>
    refine⟨k+1,by omega,by go_num,?_,B2.out.setCell (p:=⟨w.heap.size,k,none⟩) (Nat.le_refl _) _⟩
    refine(Txs.set T2.out k hlt (holdS s k)).ext fun i hi=>?_
    unfold at'
    by_cases hik:i=k
    ·subst hik;simp
    ·rw[if_neg hik]
     show(if i<k then holdS s i else⟨#[]⟩)=_
     by_cases h2:i<k
     ·rw[if_pos h2,if_pos (by omega)]
     ·rw[if_neg h2,if_neg (by omega)]
   case measure=>simp[natOf];omega
  ·have q1:¬(k:Int)<(n:Int):=by omega
   have hk:k=n:=by omega
   go_wp2_with fail
   go_ret
   refine⟨w.heap.size,⟨by rfl,?_,Nat.le_refl _,B1.out⟩⟩
   exact Txs.ext T1.out fun i hi=>by rw[if_pos (by omega)]
theorem info70:(Tryz.prog.info? 97).map (fun i=>(i.zero,i.size,i.bytes))=some (some (.agg #[.string ⟨#[]⟩,.bool false]),2,24):=by kernel_rfl
theorem make_blks (n:Nat) (hn:n≤4096) (w:World):(Instr.makeSlice 76 (.int .i64 (n:Int)) (.int .i64 (n:Int))).run Tryz.prog w=.ok (.slice (some ⟨w.heap.size,0,none⟩) n n) (w.alloc (.cells (madeCells #[.string ⟨#[]⟩,.bool false] (n*2)) 97)):=by
 obtain⟨i,hi,hzz⟩:=Option.map_eq_some_iff.1 info70
 simp only[Prod.mk.injEq] at hzz
 obtain⟨hz,hs,hb⟩:=hzz
 have hr:=run_make (P:=Tryz.prog) w 76 97 i _ Tryz.underlying76 hi hz .i64 .i64 n n (by omega) (Int.le_refl _) (by rw[hb];omega) (by omega)
 simp only[Int.toNat_natCast,hs] at hr
 exact hr
theorem copy_blks (w:World) (ty:TypeId) (g o dLen dCap:Nat) (a:Addr) (sLen sCap:Nat) (cur:Array Value) (cs:List Value)
  (hg:w.heap[g]? =some (.cells cur 97 (0,0))) (n:Nat) (hn:n=Nat.min sLen dLen) (hl:cs.length=n*2)
  (hsrc:∀ j v,cs[j]? =some v→w.cell? (a.add j)=some v) (hfit:o+cs.length≤cur.size) (h1:∀ v∈cs,v.oneCell'=true):
  (Builtin.copy_ #[76,76] ty #[.slice (some ⟨g,o,none⟩) dLen dCap,.slice (some a) sLen sCap]).run Tryz.prog w=
   .ok (.int .i64 (n:Int)) (w.setRow g (cur.toList.take o++cs++cur.toList.drop (o+cs.length)).toArray):=by
 have hld:=run_loadCells_list (P:=Tryz.prog) w a cs hsrc
 have hst:=run_storeCells_at Tryz.prog g o 97 cs 0 cur w hg (by simpa using hfit) h1
 obtain⟨i,hi,hzz⟩:=Option.map_eq_some_iff.1 info70
 simp only[Prod.mk.injEq] at hzz
 obtain⟨hz,hs,hb⟩:=hzz
 rw[hl] at hld
 simp[Builtin.copy_,run_underlying Tryz.underlying76,Builtin.lenOf,Builtin.firstCells,sizeOf,typeInfo,hi,hs,←hn,hld,hst,goInt]
def RowK (w:World) (g n k:Nat) (t:ByteArray):Prop:=
 ∃ cs,w.heap[g]? =some (.cells cs 97 (0,0))∧cs.size=n*2∧∀ p,p<k→cs[p*2]? =some (.string t)∧cs[p*2+1]? =some (.bool false)
theorem RowK.at {cs:Array Value} {k:Nat} {t:ByteArray} (h:∀ p,p<k→cs[p*2]? =some (.string t)∧cs[p*2+1]? =some (.bool false)) (j:Nat) (hj:j<k*2):
  cs[j]? =some (if j%2=0 then .string t else .bool false):=by
 obtain⟨h1,h2⟩:=h (j/2) (by omega)
 by_cases hm:j%2=0
 ·rw[if_pos hm,←h1];congr 1;omega
 ·rw[if_neg hm,←h2];congr 1;omega
def alike (t:ByteArray) (n:Nat):List Value:=(List.range (n*2)).map fun j=>if j%2=0 then .string t else .bool false
theorem alike_get (t:ByteArray) (n j:Nat) (h:j<n*2):(alike t n)[j]? =some (if j%2=0 then .string t else .bool false):=by simp[alike,h]
theorem alike_some (t:ByteArray) (n j:Nat) (v:Value) (h:(alike t n)[j]? =some v):j<n*2∧v=if j%2=0 then .string t else .bool false:=by
 have hj:j<n*2:=by have:=(List.getElem?_eq_some_iff.1 h).1;simpa [alike] using this
 rw[alike_get t n j hj] at h
 exact⟨hj,(Option.some.inj h).symm⟩
theorem alike_one (t:ByteArray) (n:Nat):∀ v∈alike t n,v.oneCell'=true:=by
 intro v hv
 obtain⟨j,hj⟩:=List.mem_iff_getElem?.1 hv
 obtain⟨_,rfl⟩:=alike_some t n j v hj
 split<;>rfl
theorem add_at (g j:Nat):(⟨g,0,none⟩:Addr).add j=⟨g,j,none⟩:=by unfold Addr.add;split<;>simp_all
theorem rowK_copy {w:World} {g n k:Nat} {t:ByteArray} (cs:Array Value) (h1:w.heap[g]? =some (.cells cs 97 (0,0))) (h2:cs.size=n*2) (h3:∀ p,p<k→cs[p*2]? =some (.string t)∧cs[p*2+1]? =some (.bool false)) (q:Nat) (hq:k+q≤n):
  RowK (w.setRow g (cs.toList.take (k*2)++alike t q++cs.toList.drop (k*2+(alike t q).length)).toArray) g n (k+q) t:=by
 have hlen:(alike t q).length=q*2:=by simp[alike]
 refine⟨_,setRow_heap w g cs _ _ _ h1,?_,fun p hp=>?_⟩
 ·simp only[List.size_toArray,List.length_append,List.length_take,List.length_drop,hlen,Array.length_toList];omega
 ·have key:∀ j,j<(k+q)*2→(cs.toList.take (k*2)++alike t q++cs.toList.drop (k*2+(alike t q).length))[j]? =some (if j%2=0 then .string t else .bool false):=by
   intro j hj
   by_cases hjk:j<k*2
   ·rw[List.append_assoc,List.getElem?_append_left (by simp;omega),List.getElem?_take_of_lt hjk,Array.getElem?_toList,RowK.at h3 j hjk]
   ·rw[List.append_assoc,List.getElem?_append_right (by simp;omega),List.getElem?_append_left (by simp[hlen];omega)]
    have:j - (cs.toList.take (k*2)).length=j - k*2:=by simp;omega
    rw[this,alike_get t q _ (by omega)]
    have:(j - k*2)%2=j%2:=by omega
    rw[this]
  refine⟨?_,?_⟩
  ·rw[List.getElem?_toArray,key _ (by omega),if_pos (by omega)]
  ·rw[List.getElem?_toArray,key _ (by omega),if_neg (by omega)]
theorem below_setRow {B:Nat} (w:World) (g:Nat) (r:Array Value) (h:B≤g):Below B w (w.setRow g r):=
 ⟨rfl,rfl,rfl,by simp[World.setRow],fun k hk=>by simp only[World.setRow,Array.getElem?_modify];rw[if_neg (by omega)]⟩
theorem rep_any (t : ByteArray) (n : Nat) (n0 : 1 ≤ n) (n1 : n ≤ 4096) (g0 : Nat) (w : World) (h : w.heap[g0]? = some (.cells #[.string t, .bool false] 97 (0, 0))) :
    Calls Tryz.prog 47 #[.slice (some ⟨g0, 0, none⟩) 1 1, .int .i64 (n : Int)] w fun e w' => ∃ g, e = .returned (.slice (some ⟨g, 0, none⟩) n n) ∧ Row w' g n (fun _ => t) (fun _ => false) ∧ w.heap.size ≤ g ∧ Below w.heap.size w w' := by
  have hM : ∀ w, Calls Tryz.prog 71 #[.int .u64 1, .int .u64 (n : Int)] w fun e w' => e = .returned (.tuple #[.int .u64 0, .int .u64 (n : Int)]) ∧ w' = w := fun w => by
    have := Tryz.bits_Mul 1 n (by omega) (by omega) w
    rw [Nat.one_mul, Nat.div_eq_of_lt (by omega), Nat.mod_eq_of_lt (by omega)] at this
    exact this
  have HM : Hid _ := hM
  have hu : IntKind.u64.wrap (n : Int) = (n : Int) := IntWalk.u64_in _ (by omega)
  have hi : IntKind.i64.wrap (n : Int) = (n : Int) := IntWalk.i64_in _ (by omega)
  have hu1 : IntKind.u64.wrap 1 = 1 := rfl
  have hmk := make_blks n n1 w
  have hX : ∃ cs, (w.alloc (.cells (madeCells #[.string ⟨#[]⟩, .bool false] (n * 2)) 97)).heap[w.heap.size]? = some (.cells cs 97 (0, 0)) ∧ cs.size = n * 2 := ⟨_, heap_alloc_new w _, size_madeCells _ _⟩
  have HB : Hid (Below w.heap.size w (w.alloc (.cells (madeCells #[.string ⟨#[]⟩, .bool false] (n * 2)) 97))) := below_new w _
  obtain ⟨W, hW⟩ : ∃ W, w.alloc (.cells (madeCells #[.string ⟨#[]⟩, .bool false] (n * 2)) 97) = W := ⟨_, rfl⟩
  rw [hW] at hmk hX HB
  obtain ⟨cs, hX1, hX2⟩ := hX
  have hg0 : g0 < w.heap.size := (Array.getElem?_eq_some_iff.1 h).1
  have h' : W.heap[g0]? = some (.cells #[.string t, .bool false] 97 (0, 0)) := (HB.out.block _ hg0).trans h
  have hcp := copy_blks W 3 w.heap.size 0 n n ⟨g0, 0, none⟩ 1 1 cs (alike t 1) hX1 1 (Nat.min_eq_left n0).symm (by simp [alike])
    (fun j v hv => by
      obtain ⟨hj, rfl⟩ := alike_some t 1 j v hv
      rw [add_at, cell_of_row _ _ _ _ _ _ h']
      match j, hj with
      | 0, _ => rfl
      | 1, _ => rfl) (by simp [alike]; omega) (alike_one t 1)
  have hR := rowK_copy (k := 0) (t := t) cs hX1 hX2 (fun p hp => by omega) 1 (by omega)
  rw [Nat.zero_mul, Nat.zero_add] at hR
  rw [Nat.zero_add] at hcp
  have HB2 : Hid (Below w.heap.size w (W.setRow w.heap.size (cs.toList.take 0 ++ alike t 1 ++ cs.toList.drop (alike t 1).length).toArray)) := HB.out.trans (below_setRow W _ _ (Nat.le_refl _))
  have HR : Hid _ := hR
  obtain ⟨W2, hW2⟩ : ∃ W2, W.setRow w.heap.size (cs.toList.take 0 ++ alike t 1 ++ cs.toList.drop (alike t 1).length).toArray = W2 := ⟨_, rfl⟩
  rw [Nat.zero_add] at HR
  rw [hW2] at hcp HB2 HR
  clear h h' hX1 hX2 hW hW2 hR hM
  go_enter Tryz.func47, Tryz.ntmps47
  go_wp2_with fail
  refine (HM.out _).mono ?_
  rintro e w1 ⟨rfl, rfl⟩
  go_wp2_with fail
  go_loopw [8] (fun i wr => ∃ k : Nat, 1 ≤ k ∧ k ≤ n ∧ i = .int .i64 (k : Int) ∧ RowK wr w1.heap.size n k t ∧ Below w1.heap.size w1 wr) (fun i _ => n - natOf i)
  case atStart => exact ⟨1, by omega, n0, rfl, HR.out, HB2.out⟩
  case round =>
    obtain ⟨k, hk0, hkn, rfl, ⟨cr, r1, r2, r3⟩, hb⟩ := hrel
    have B1 : Hid _ := hb
    have HRK : Hid (RowK wr w1.heap.size n k t) := ⟨cr, r1, r2, r3⟩
    by_cases hlt : k < n
    · have q1 : (k : Int) < (n : Int) := by omega
      have q0 : (0 : Int) ≤ (k : Int) := by omega
      obtain ⟨q, hq⟩ : ∃ q, q = Nat.min k (n - k) := ⟨_, rfl⟩
      have hqk : q ≤ k := by rw [hq]; exact Nat.min_le_left _ _
      have hqn : k + q ≤ n := by have : q ≤ n - k := by rw [hq]; exact Nat.min_le_right _ _
                                 omega
      have hqp : 1 ≤ q := by rw [hq]; simp only [Nat.min_def]; split <;> omega
      have hc2 := copy_blks wr.drew 3 w1.heap.size (k * 2) (n - k) (n - k) ⟨w1.heap.size, 0, none⟩ k n cr (alike t q) r1 q hq (by simp [alike])
        (fun j v hv => by
          obtain ⟨hj, rfl⟩ := alike_some t q j v hv
          rw [add_at]; show wr.cell? _ = _; rw [cell_of_row _ _ _ _ _ _ r1, RowK.at r3 j (by omega)]) (by simp [alike, r2]; omega) (alike_one t q)
      have hR2 := rowK_copy (w := wr.drew) (k := k) (t := t) cr r1 r2 r3 q hqn
      have HB3 : Hid (Below w1.heap.size w1 (wr.drew.setRow w1.heap.size (cr.toList.take (k * 2) ++ alike t q ++ cr.toList.drop (k * 2 + (alike t q).length)).toArray)) := B1.out.drew.trans (below_setRow wr.drew _ _ (Nat.le_refl _))
      obtain ⟨W3, hW3⟩ : ∃ W3, wr.drew.setRow w1.heap.size (cr.toList.take (k * 2) ++ alike t q ++ cr.toList.drop (k * 2 + (alike t q).length)).toArray = W3 := ⟨_, rfl⟩
      rw [hW3] at hc2 hR2 HB3
      have HR2 : Hid _ := hR2
      have HQ : Hid _ := hq
      clear r1 r2 r3 hb hW3 hR2 hmk hcp hq
      go_wp2_with fail
      have ha : IntKind.i64.wrap ((k : Int) + (q : Int)) = ((k + q : Nat) : Int) := by rw [IntWalk.i64_in _ (by omega)]; omega
      go_region
      go_wp2_with fail
      go_roundw
      case rel => exact ⟨k + q, by omega, hqn, by congr 1, HR2.out, HB3.out⟩
      case measure => simp [natOf]; omega
    · have q1 : ¬ (k : Int) < (n : Int) := by omega
      have hk : k = n := by omega
      subst hk
      clear r1 r2 r3 hb
      go_wp2_with fail
      go_ret
      exact ⟨w1.heap.size, rfl, HRK.out, Nat.le_refl _, B1.out⟩
def newS (n:Nat):St:={ n,tx:=fun _=>zs 256,bad:=fun _=>false,pd:=fun _=>none,ended:=false,cut:=false,left:=0,cnt:=0,tag:=zs 32,boots:=0 }
theorem newS_ok (n:Nat) (h0:4≤n) (h1:n≤4096):Ok (newS n):=
 ⟨h0,h1,fun _ _=>zs_size 256,fun _ _ h=>by simp[newS] at h,by simp[newS],by simp[newS],by simp[newS],by simp[newS],by simp[newS],by simp[newS],by simp[newS]⟩
theorem new_any (n:Nat) (h0:4≤n) (h1:n≤4096) (w:World):
  Calls Tryz.prog 16 #[.int .i64 (n:Int)] w fun e w'=>∃ d b m,e=.returned (.tuple #[pt d,.int .i64 0])∧Dev w' d b m (newS n)∧w.heap.size≤d∧w.heap.size≤b∧w.heap.size≤m∧Below w.heap.size w w':=by
 have i0:¬(n:Int)<4:=by omega
 have i1:¬4096<(n:Int):=by omega
 go_enter Tryz.func16,Tryz.ntmps16
 go_wp2_with fail
 refine(zeros_any 32 (by omega) w).mono ?_
 rintro e w1 ⟨rfl,b1⟩
 have B1:Hid _:=b1
 clear b1
 generalize hz32:zs 32=z32 at*
 have HZ32:Hid (zs 32=z32):=hz32
 clear hz32
 go_wp2_with fail
 refine(zeros_any 256 (by omega) w1).mono ?_
 rintro e w2 ⟨rfl,b2⟩
 have B2:Hid (Below w.heap.size w w2):=B1.out.trans (b2.mono B1.out.size)
 clear b2
 generalize hz:zs 256=z at*
 have HZ:Hid (zs 256=z):=hz
 clear hz
 go_wp2_with fail
 refine(rep_any z n (by omega) h1 w2.heap.size _ (heap_alloc_new w2 _)).mono ?_
 rintro e w3 ⟨g,rfl,r3,hg,b3⟩
 have hs2:=B2.out.size
 have B3:Hid (Below w.heap.size w w3):=(B2.out.alloc hs2 _).trans (b3.mono (by simp;omega))
 have R3:Hid _:=r3
 have HG:Hid (w.heap.size≤g):=by refine(?_:w.heap.size≤g);simp at hg;omega
 have hl:=r3.lt
 clear b3 r3
 have hmm:(Instr.makeMap 77 none).run Tryz.prog w3=.ok (.map (some w3.heap.size)) (w3.alloc (.map #[] 0)):=rfl
 go_wp2_with fail
 go_ret2
 have hs3:=B3.out.size
 have hmap:=Pm.made w3
 refine⟨w3.heap.size+1,g,w3.heap.size,⟨by simp[pt],⟨?_,?_,?_,by omega,by omega,by omega⟩,by omega,HG.out,by omega,(B3.out.alloc hs3 _).alloc (by simp;omega) _⟩⟩
 ·have:=heap_alloc_new (w3.alloc (.map #[] 0)) (.cells (dcells g w3.heap.size (newS n)) 79)
  rw[World.size_alloc] at this
  have e:dcells g w3.heap.size (newS n)=#[.bool false,.bool false,.int .i64 0,.int .u64 0,.string z32,.int .u32 0,.slice (some ⟨g,0,none⟩) n n,.map (some w3.heap.size)]:=by
   simp[dcells,newS,HZ32.out]
  rw[e] at this ⊢
  exact this
 ·have e:(newS n).tx=fun _=>z:=by simp[newS,HZ.out]
  rw[e]
  exact Row.same R3.out ((Below.heap_alloc _ _ _ (by simp;omega)).trans (Below.heap_alloc _ _ _ hl))
 ·exact hmap.same (Below.heap_alloc _ _ _ (by simp))
end Go.Proofs.YtfaflomephjkgaaGreatDoor.Rd
namespace Go.Proofs.YtfaflomephjkgaaGreatDoor.Rv
open Go.RowKit
open Go.ChangeMaps (setBlock)
open Go.Proofs.YtfaflomephjkgaaGreatDoor.Rd (But below_new setBlock_same setBlock_other u32_inj)
def Tk (w:World) (m:Nat) (f:Nat→Option Unit) (c:Nat):Prop:=
 ∃ es clock,w.heap[m]? =some (.map es clock)∧(MapKept.Stamped es clock∧es.size=c)∧
  (∀ e∈es.toList,∃ (p:Nat) (t:Unit),e.key=.int .u32 (p:Int)∧e.val=.agg #[]∧f p=some t)∧
  (∀ p t,f p=some t→∃ e∈es.toList,e.key=.int .u32 (p:Int)∧e.val=.agg #[])
theorem Tk.same {w w':World} {m c:Nat} {f:Nat→Option Unit} (h:Tk w m f c) (e:w'.heap[m]? =w.heap[m]?):Tk w' m f c:=by
 obtain⟨es,c,h1,h2⟩:=h
 exact⟨es,c,e.trans h1,h2⟩
theorem Tk.lt {w:World} {m c:Nat} {f:Nat→Option Unit} (h:Tk w m f c):m<w.heap.size:=by
 obtain⟨es,c,h1,h2⟩:=h
 exact(Array.getElem?_eq_some_iff.1 h1).1
theorem Tk.made (w:World):Tk (w.alloc (.map #[] 0)) w.heap.size (fun _=>none) 0:=
 ⟨#[],0,heap_alloc_new w _,⟨MapKept.stamped_empty 0,rfl⟩,by simp,by simp⟩
theorem Tk.look {w:World} {m cc:Nat} {f:Nat→Option Unit} (h:Tk w m f cc) (p:Nat) (c:Bool):
  (Instr.lookup 83 (.map (some m)) (.int .u32 (p:Int)) c).run Tryz.prog w=.ok (if c then .tuple #[.agg #[],.bool (f p).isSome] else .agg #[]) w:=by
 obtain⟨es,cl,h1,h2,h3,h4⟩:=h
 have hk:MapKept.IsKey (.int .u32) (.int .u32 (p:Int)):=rfl
 have hks:∀ e∈es.toList,MapKept.IsKey (.int .u32) e.key:=fun e he=>by
  obtain⟨q,t,e1,_⟩:=h3 e he
  rw[e1];rfl
 have hz:(zeroValue 88).run Tryz.prog w=.ok (.agg #[]) w:=Tryz.zeroValue88 w
 rcases MapKept.findNow_spec hk es.toList 0 hks with⟨k1,k2⟩|⟨j,e0,k1,k2,k3⟩
 ·have hf:f p=none:=by
   cases hf:f p with
   |none=>rfl
   |some t=>
    obtain⟨e,he,e1,_⟩:=h4 p t hf
    exact absurd e1 (k2 e he)
  rw[hf]
  have fk:=MapKept.run_findKey (w:=w) Tryz.underlying32 k1
  simp only[Instr.lookup,Sem.run_bind,run_underlying Tryz.underlying83,MapKept.run_getObj_map h1,MapKept.run_checkKey Tryz.underlying32 hk _ 9999,fk,hz,Result.andThen,Sem.run_pure]
  rfl
 ·have hm0:e0∈es.toList:=List.mem_of_getElem? k2
  obtain⟨q,t,e1,e2,e3⟩:=h3 e0 hm0
  have hq:q=p:=by rw[k3] at e1;simp at e1;omega
  subst hq
  rw[e3]
  have fk:=MapKept.run_findKey (w:=w) Tryz.underlying32 k1
  rw[e2] at fk
  simp only[Instr.lookup,Sem.run_bind,run_underlying Tryz.underlying83,MapKept.run_getObj_map h1,MapKept.run_checkKey Tryz.underlying32 hk _ 9999,fk,Result.andThen,Sem.run_pure]
  rfl
def tput (f:Nat→Option Unit) (p:Nat) (t:Option Unit):Nat→Option Unit:=fun q=>if q=p then t else f q
theorem Tk.update {w:World} {m c:Nat} {f:Nat→Option Unit} (h:Tk w m f c) (p:Nat) (t:Unit):
  ∃ w',(Instr.mapUpdate 83 (.map (some m)) (.int .u32 (p:Int)) (.agg #[])).run Tryz.prog w=.ok () w'∧Tk w' m (tput f p (some t)) (if(f p).isSome=true then c else c+1)∧But (fun k=>k=m) w w'∧w'.heap.size=w.heap.size:=by
 obtain⟨es,cl,h1,h2,h3,h4⟩:=h
 have hk:MapKept.IsKey (.int .u32) (.int .u32 (p:Int)):=rfl
 have hks:∀ e∈es.toList,MapKept.IsKey (.int .u32) e.key:=fun e he=>by
  obtain⟨q,t,e1,_⟩:=h3 e he
  rw[e1];rfl
 rcases MapKept.findNow_spec hk es.toList 0 hks with⟨k1,k2⟩|⟨j,e0,k1,k2,k3⟩
 ·have hnone:f p=none:=by
   cases hf:f p with
   |none=>rfl
   |some t=>
    obtain⟨e,he,e1,_⟩:=h4 p t hf
    exact absurd e1 (k2 e he)
  have fk:=MapKept.run_findKey (w:=w) Tryz.underlying32 k1
  refine⟨setBlock w m (.map (es.push ⟨.int .u32 (p:Int),.agg #[],cl⟩) (cl+1)),?_,⟨_,_,setBlock_same h1,⟨MapKept.stamped_push h2.1 k2,by rw[hnone,Array.size_push,h2.2];rfl⟩,?_,?_⟩,But.setBlock _ _ _ rfl,by simp[ChangeMaps.setBlock]⟩
  ·simp only[Instr.mapUpdate,Sem.run_bind,run_underlying Tryz.underlying83,MapKept.run_getObj_map h1,MapKept.run_checkKey Tryz.underlying32 hk _ 9999,fk,Result.andThen,MapKept.run_setObj_map _ h1]
   rfl
  ·intro e he
   rw[Array.toList_push,List.mem_append] at he
   rcases he with he|he
   ·obtain⟨q,s,e1,e2,e3⟩:=h3 e he
    refine⟨q,s,e1,e2,?_⟩
    unfold tput
    rw[if_neg fun hqp=>k2 e he (by rw[e1,hqp]),e3]
   ·simp at he
    subst he
    exact⟨p,t,rfl,rfl,by simp[tput]⟩
  ·intro q s hq
   unfold tput at hq
   rw[Array.toList_push]
   split at hq
   ·rename_i e
    cases hq
    exact⟨_,List.mem_append.2 (.inr (by simp;rfl)),by rw[e],rfl⟩
   ·obtain⟨e,he,e1⟩:=h4 q s hq
    exact⟨e,List.mem_append.2 (.inl he),e1⟩
 ·have hsome:f p=some ():=by
   obtain⟨q,t,e1,e2,e3⟩:=h3 e0 (List.mem_of_getElem? k2)
   have hq:q=p:=by rw[k3] at e1;exact(u32_inj e1).symm
   rw[←hq];exact e3
  have fk:=MapKept.run_findKey (w:=w) Tryz.underlying32 k1
  have hj:es[j]? =some e0:=by rw[←Array.getElem?_toList];exact k2
  have hjl:j<es.size:=(Array.getElem?_eq_some_iff.1 hj).1
  have hgj:es[j]=e0:=(Array.getElem?_eq_some_iff.1 hj).2
  have hget:∀ i,(es.modify j fun e=>{ e with key:=.int .u32 (p:Int),val:=.agg #[] })[i]? =if j=i then some { e0 with key:=.int .u32 (p:Int),val:=.agg #[] } else es[i]? :=by
   intro i
   rw[Array.getElem?_modify]
   split
   ·rename_i e;subst e;rw[hj];rfl
   ·rfl
  have hdis:=(MapKept.stamped_iff es cl).1 h2.1
  refine⟨setBlock w m (.map (es.modify j fun e=>{ e with key:=.int .u32 (p:Int),val:=.agg #[] }) cl),?_,⟨_,_,setBlock_same h1,⟨MapKept.stamped_modify h2.1 j _ (fun _ _=>rfl) (fun e _ he=>?_),by rw[hsome,Array.size_modify,h2.2];rfl⟩,?_,?_⟩,But.setBlock _ _ _ rfl,by simp[ChangeMaps.setBlock]⟩
  ·simp only[Instr.mapUpdate,Sem.run_bind,run_underlying Tryz.underlying83,MapKept.run_getObj_map h1,MapKept.run_checkKey Tryz.underlying32 hk _ 9999,fk,Result.andThen,Nat.zero_add,hj,Option.map_some,Option.getD_some,k3,MapKept.run_keyThatStays hk,MapKept.run_setObj_map _ h1]
   rfl
  ·rw[hj] at he;cases he;exact k3.symm
  ·intro e he
   rw[List.mem_iff_getElem?] at he
   obtain⟨i,hi⟩:=he
   rw[Array.getElem?_toList,hget] at hi
   split at hi
   ·cases hi
    exact⟨p,t,rfl,rfl,by simp[tput]⟩
   ·rename_i hne
    have hm:e∈es.toList:=by rw[List.mem_iff_getElem?];exact⟨i,by rw[Array.getElem?_toList];exact hi⟩
    obtain⟨q,s,e1,e2,e3⟩:=h3 e hm
    refine⟨q,s,e1,e2,?_⟩
    unfold tput
    rw[if_neg fun hqp=>?_,e3]
    have hil:i<es.size:=(Array.getElem?_eq_some_iff.1 hi).1
    have hgi:es[i]=e:=(Array.getElem?_eq_some_iff.1 hi).2
    have hp:=hdis.2.2
    rw[List.pairwise_iff_getElem] at hp
    rcases Nat.lt_or_gt_of_ne hne with hlt|hlt
    ·exact hp j i (by simpa using hjl) (by simpa using hil) hlt (by simp only[Array.getElem_toList];rw[hgj,hgi,k3,e1,hqp])
    ·exact hp i j (by simpa using hil) (by simpa using hjl) hlt (by simp only[Array.getElem_toList];rw[hgj,hgi,k3,e1,hqp])
  ·intro q s hq
   unfold tput at hq
   split at hq
   ·rename_i e
    cases hq
    refine⟨{ e0 with key:=.int .u32 (p:Int),val:=.agg #[] },List.mem_iff_getElem?.2 ⟨j,by rw[Array.getElem?_toList,hget,if_pos rfl]⟩,by rw[e],rfl⟩
   ·rename_i hqp
    obtain⟨e,he,e1,e2⟩:=h4 q s hq
    rw[List.mem_iff_getElem?] at he
    obtain⟨i,hi⟩:=he
    refine⟨e,List.mem_iff_getElem?.2 ⟨i,?_⟩,e1,e2⟩
    rw[Array.getElem?_toList] at hi ⊢
    rw[hget,if_neg,hi]
    intro hji
    subst hji
    rw[hj] at hi
    cases hi
    rw[k3] at e1
    exact hqp (u32_inj e1).symm
theorem Tk.drop {w:World} {m c:Nat} {f:Nat→Option Unit} (h:Tk w m f c) (p:Nat) (ty:TypeId):
  ∃ w',(Builtin.delete_ #[83,32] ty #[.map (some m),.int .u32 (p:Int)]).run Tryz.prog w=.ok (.tuple #[]) w'∧Tk w' m (tput f p none) (if(f p).isSome=true then c - 1 else c)∧But (fun k=>k=m) w w'∧w'.heap.size=w.heap.size:=by
 obtain⟨es,cl,h1,h2,h3,h4⟩:=h
 have hk:MapKept.IsKey (.int .u32) (.int .u32 (p:Int)):=rfl
 have hks:∀ e∈es.toList,MapKept.IsKey (.int .u32) e.key:=fun e he=>by
  obtain⟨q,t,e1,_⟩:=h3 e he
  rw[e1];rfl
 rcases MapKept.findNow_spec hk es.toList 0 hks with⟨k1,k2⟩|⟨j,e0,k1,k2,k3⟩
 ·have hnone:f p=none:=by
   cases hf:f p with
   |none=>rfl
   |some t=>
    obtain⟨e,he,e1,_⟩:=h4 p t hf
    exact absurd e1 (k2 e he)
  have fk:=MapKept.run_findKey (w:=w) Tryz.underlying32 k1
  refine⟨setBlock w m (.map es cl),?_,⟨_,_,setBlock_same h1,⟨h2.1,by rw[hnone,h2.2];rfl⟩,?_,?_⟩,But.setBlock _ _ _ rfl,by simp[ChangeMaps.setBlock]⟩
  ·simp[Builtin.delete_,run_underlying Tryz.underlying83,MapKept.run_getObj_map h1,MapKept.run_checkKey Tryz.underlying32 hk _ 9999,fk,MapKept.run_setObj_map _ h1,Result.andThen,setBlock]
  ·intro e he
   obtain⟨q,s,e1,e2,e3⟩:=h3 e he
   exact⟨q,s,e1,e2,by unfold tput;rw[if_neg fun hqp=>k2 e he (by rw[e1,hqp]),e3]⟩
  ·intro q s hq
   unfold tput at hq
   split at hq
   ·cases hq
   ·exact h4 q s hq
 ·have hsome:f p=some ():=by
   obtain⟨q,t,e1,e2,e3⟩:=h3 e0 (List.mem_of_getElem? k2)
   have hq:q=p:=by rw[k3] at e1;exact(u32_inj e1).symm
   rw[←hq];exact e3
  have fk:=MapKept.run_findKey (w:=w) Tryz.underlying32 k1
  have hj:es[j]? =some e0:=by rw[←Array.getElem?_toList];exact k2
  have hjl:j<es.size:=(Array.getElem?_eq_some_iff.1 hj).1
  have hgj:es[j]=e0:=(Array.getElem?_eq_some_iff.1 hj).2
  have hdis:=((MapKept.stamped_iff es cl).1 h2.1).2.2
  rw[List.pairwise_iff_getElem] at hdis
  have hsub:(es.eraseIdxIfInBounds j).toList=es.toList.eraseIdx j:=by
   unfold Array.eraseIdxIfInBounds
   rw[dif_pos hjl]
   simp
  refine⟨setBlock w m (.map (es.eraseIdxIfInBounds j) cl),?_,⟨_,_,setBlock_same h1,⟨MapKept.stamped_erase h2.1 j,by rw[hsome,←Array.length_toList,hsub,List.length_eraseIdx,if_pos (by simpa using hjl),Array.length_toList,h2.2];rfl⟩,?_,?_⟩,But.setBlock _ _ _ rfl,by simp[ChangeMaps.setBlock]⟩
  ·simp[Builtin.delete_,run_underlying Tryz.underlying83,MapKept.run_getObj_map h1,MapKept.run_checkKey Tryz.underlying32 hk _ 9999,fk,MapKept.run_setObj_map _ h1,Result.andThen,setBlock]
  ·intro e he
   rw[hsub,List.mem_eraseIdx_iff_getElem] at he
   obtain⟨i,hi,hne,hie⟩:=he
   have hm:e∈es.toList:=by rw[←hie];exact List.getElem_mem _
   obtain⟨q,s,e1,e2,e3⟩:=h3 e hm
   refine⟨q,s,e1,e2,?_⟩
   unfold tput
   rw[if_neg fun hqp=>?_,e3]
   have hjl':j<es.toList.length:=by simpa using hjl
   rcases Nat.lt_or_gt_of_ne hne with hlt|hlt
   ·exact hdis i j hi hjl' hlt (by rw[hie,e1,hqp];simp only[Array.getElem_toList];rw[hgj,k3])
   ·exact hdis j i hjl' hi hlt (by rw[hie,e1,hqp];simp only[Array.getElem_toList];rw[hgj,k3])
  ·intro q s hq
   unfold tput at hq
   split at hq
   ·cases hq
   ·rename_i hqp
    obtain⟨e,he,e1,e2⟩:=h4 q s hq
    refine⟨e,?_,e1,e2⟩
    rw[hsub,List.mem_eraseIdx_iff_getElem]
    rw[List.mem_iff_getElem] at he
    obtain⟨i,hi,hie⟩:=he
    refine⟨i,hi,fun hij=>hqp ?_,hie⟩
    subst hij
    rw[Array.getElem_toList,hgj] at hie
    rw[←hie,k3] at e1
    exact(u32_inj e1).symm
end Go.Proofs.YtfaflomephjkgaaGreatDoor.Rv
namespace Go.Proofs.YtfaflomephjkgaaGreatDoor.Rd
open Go.RowKit
theorem info5:(Tryz.prog.info? 5).map (fun i=>(i.zero,i.size,i.bytes))=some (some (.int .u8 0),1,1):=by kernel_rfl
theorem zs_nums (n:Nat):strOfNums (List.replicate n 0)=zs n:=by
 unfold strOfNums zs;rw[List.map_replicate];rfl
theorem rzeros_any (n:Nat) (hn:n≤1000000) (w:World):
  Calls Tryz.prog 48 #[.int .i64 (n:Int)] w fun e w'=>e=.returned (.string (zs n))∧Below w.heap.size w w':=by
 have hmk:=run_make_row' (P:=Tryz.prog) 98 5 (.int .u8 0) 1 Tryz.underlying98 info5 rfl .i64 .i64 n (by omega) (by omega) w
 have hcv:(convert 98 9 (.slice (some ⟨w.heap.size,0,none⟩) n n)).run Tryz.prog (w.alloc (.cells (madeCells #[.int .u8 0] n) 5))=.ok (.string (zs n)) (w.alloc (.cells (madeCells #[.int .u8 0] n) 5)):=by
  rw[←zs_nums]
  refine run_convert_bytes_arg _ 98 5 Tryz.underlying98 Tryz.underlying5 w.heap.size 0 n n _ (by simp) (fun i hi=>?_) 9 Tryz.underlying9
  rw[Nat.zero_add,cell_of_row _ _ _ _ _ _ (heap_alloc_new w _)]
  simp[madeCells,hi,Nat.mod_one,List.getD]
 have B1:Hid (Below w.heap.size w (w.alloc (.cells (madeCells #[.int .u8 0] n) 5))):=below_new w _
 obtain⟨W,hW⟩:∃ W,w.alloc (.cells (madeCells #[.int .u8 0] n) 5)=W:=⟨_,rfl⟩
 rw[hW] at hmk hcv B1
 clear hW
 generalize hz:zs n=z at*
 go_enter Tryz.func48,Tryz.ntmps48
 go_wp2_with fail
 go_ret
 exact⟨rfl,B1.out⟩
def fillS (s:ByteArray):ByteArray:=s.extract 0 (min s.size 256)++zs (256 - min s.size 256)
theorem fill_size (s:ByteArray):(fillS s).size=256:=by
 unfold fillS
 rw[ByteArray.size_append,zs_size,ByteArray.size_extract];omega
theorem filled_any (s:ByteArray) (w:World):
  Calls Tryz.prog 51 #[.string s] w fun e w'=>e=.returned (.string (fillS s))∧Below w.heap.size w w':=by
 obtain⟨c,hc⟩:∃ c,min s.size 256=c:=⟨_,rfl⟩
 have HE:Hid (fillS s=s.extract 0 c++zs (256 - c)):=by refine(?_:fillS s=s.extract 0 c++zs (256 - c));unfold fillS;rw[hc]
 have e1:(min (s.size:Int) 256).toNat=c:=by omega
 have e2:(256:Int) - ((min c s.size:Nat):Int)=((256 - c:Nat):Int):=by omega
 have hz:(s.extract 0 c).size=c:=by rw[ByteArray.size_extract];omega
 have hz2:=zs_size (256 - c)
 have E1:Hid _:=e1
 have E2:Hid _:=e2
 have hcb:c≤256:=by omega
 have hl:¬9223372036854775807<c+(256 - c):=by omega
 clear e1 e2 hc
 go_enter Tryz.func51,Tryz.ntmps51
 go_wp2_with fail
 rw[E1.out,E2.out]
 generalize s.extract 0 c=y at*
 refine(rzeros_any (256 - c) (by omega) w).mono ?_
 rintro e w1 ⟨rfl,b1⟩
 have B1:Hid _:=b1
 clear b1
 generalize zs (256 - c)=z at*
 generalize 256 - c=q at*
 go_wp2_with fail
 go_ret
 exact⟨by rw[HE.out];rfl,B1.out⟩
def Tx (w:World) (g n:Nat) (f:Nat→ByteArray):Prop:=∃ cs,w.heap[g]? =some (.cells cs 9 (0,0))∧n≤cs.size∧∀ i,i<n→cs[i]? =some (.string (f i))
def Bl (w:World) (g n:Nat) (f:Nat→Bool):Prop:=∃ cs,w.heap[g]? =some (.cells cs 4 (0,0))∧n≤cs.size∧∀ i,i<n→cs[i]? =some (.bool (f i))
theorem Tx.lt {w:World} {g n:Nat} {f:Nat→ByteArray} (h:Tx w g n f):g<w.heap.size:=by
 obtain⟨cs,h1,h2⟩:=h
 exact(Array.getElem?_eq_some_iff.1 h1).1
theorem Bl.lt {w:World} {g n:Nat} {f:Nat→Bool} (h:Bl w g n f):g<w.heap.size:=by
 obtain⟨cs,h1,h2⟩:=h
 exact(Array.getElem?_eq_some_iff.1 h1).1
theorem Tx.same {w w':World} {g n:Nat} {f:Nat→ByteArray} (h:Tx w g n f) (e:w'.heap[g]? =w.heap[g]?):Tx w' g n f:=by
 obtain⟨cs,h1,h2⟩:=h
 exact⟨cs,e.trans h1,h2⟩
theorem Bl.same {w w':World} {g n:Nat} {f:Nat→Bool} (h:Bl w g n f) (e:w'.heap[g]? =w.heap[g]?):Bl w' g n f:=by
 obtain⟨cs,h1,h2⟩:=h
 exact⟨cs,e.trans h1,h2⟩
theorem Tx.cell {w:World} {g n:Nat} {f:Nat→ByteArray} (h:Tx w g n f) (i:Nat) (hi:i<n):w.cell? ⟨g,i,none⟩=some (.string (f i))∧w.frozen? ⟨g,i,none⟩=false:=by
 obtain⟨cs,h1,h2,h3⟩:=h
 exact⟨by rw[cell_of_row _ _ _ _ _ _ h1,h3 i hi],frozen_of_row w _ _ _ _ h1⟩
theorem Bl.cell {w:World} {g n:Nat} {f:Nat→Bool} (h:Bl w g n f) (i:Nat) (hi:i<n):w.cell? ⟨g,i,none⟩=some (.bool (f i))∧w.frozen? ⟨g,i,none⟩=false:=by
 obtain⟨cs,h1,h2,h3⟩:=h
 exact⟨by rw[cell_of_row _ _ _ _ _ _ h1,h3 i hi],frozen_of_row w _ _ _ _ h1⟩
theorem Tx.set {w:World} {g n:Nat} {f:Nat→ByteArray} (h:Tx w g n f) (i:Nat) (hi:i<n) (t:ByteArray):Tx (w.setCell ⟨g,i,none⟩ (.string t)) g n (at' f i t):=by
 obtain⟨cs,h1,h2,h3⟩:=h
 refine⟨_,set_at _ _ _ _ _ _ _ h1,by simpa using h2,fun q hq=>?_⟩
 rw[Array.getElem?_setIfInBounds]
 unfold at'
 by_cases hpq:q=i
 ·subst hpq;rw[if_pos rfl,if_pos rfl,if_pos (by omega)]
 ·rw[if_neg (by omega),if_neg hpq,h3 q hq]
theorem Bl.set {w:World} {g n:Nat} {f:Nat→Bool} (h:Bl w g n f) (i:Nat) (hi:i<n) (t:Bool):Bl (w.setCell ⟨g,i,none⟩ (.bool t)) g n (at' f i t):=by
 obtain⟨cs,h1,h2,h3⟩:=h
 refine⟨_,set_at _ _ _ _ _ _ _ h1,by simpa using h2,fun q hq=>?_⟩
 rw[Array.getElem?_setIfInBounds]
 unfold at'
 by_cases hpq:q=i
 ·subst hpq;rw[if_pos rfl,if_pos rfl,if_pos (by omega)]
 ·rw[if_neg (by omega),if_neg hpq,h3 q hq]
theorem Tx.ext {w:World} {g n:Nat} {f f':Nat→ByteArray} (h:Tx w g n f) (e:∀ i,i<n→f i=f' i):Tx w g n f':=by
 obtain⟨cs,h1,h2,h3⟩:=h
 exact⟨cs,h1,h2,fun i hi=>by rw[h3 i hi,e i hi]⟩
structure Rp where
 l:Nat
 p:Nat
 b:Nat
 lc:Nat
 pc:Nat
 bc:Nat
def pend (f:Nat→Option ByteArray) (i:Nat):ByteArray:=(f i).getD ⟨#[]⟩
def lft (s:St):Int:=if s.cut then s.left else -1
def rcells (x:Rp) (s:St):Array Value:=#[.slice (some ⟨x.l,0,none⟩) s.n x.lc,.slice (some ⟨x.p,0,none⟩) s.n x.pc,.slice (some ⟨x.b,0,none⟩) s.n x.bc,.int .u64 s.cnt,.string s.tag,.int .u32 s.boots,.int .i64 (lft s),.bool s.ended]
structure Rf (w:World) (r:Nat) (x:Rp) (s:St):Prop where
 self:w.heap[r]? =some (.cells (rcells x s) 82 (0,0))
 rl:Tx w x.l s.n s.tx
 rp:Tx w x.p s.n (pend s.pd)
 rb:Bl w x.b s.n s.bad
 n1:r≠x.l
 n2:r≠x.p
 n3:r≠x.b
 n4:x.l≠x.p
 n5:x.l≠x.b
 n6:x.p≠x.b
def Rv (r:Nat) (x:Rp) (k:Nat):Prop:=k=r∨k=x.l∨k=x.p∨k=x.b
theorem Rf.lt {w:World} {r:Nat} {x:Rp} {s:St} (h:Rf w r x s):r<w.heap.size∧x.l<w.heap.size∧x.p<w.heap.size∧x.b<w.heap.size:=
 ⟨(Array.getElem?_eq_some_iff.1 h.self).1,h.rl.lt,h.rp.lt,h.rb.lt⟩
theorem Rf.same {w w':World} {r:Nat} {x:Rp} {s:St} (h:Rf w r x s) (e:∀ k,Rv r x k→w'.heap[k]? =w.heap[k]?):Rf w' r x s:=
 ⟨(e _ (.inl rfl)).trans h.self,h.rl.same (e _ (.inr (.inl rfl))),h.rp.same (e _ (.inr (.inr (.inl rfl)))),h.rb.same (e _ (.inr (.inr (.inr rfl)))),h.n1,h.n2,h.n3,h.n4,h.n5,h.n6⟩
theorem Rf.own {w:World} {r:Nat} {x:Rp} {s:St} (h:Rf w r x s) {k:Nat} (hk:Rv r x k):k<w.heap.size:=by
 have:=h.lt
 rcases hk with rfl|rfl|rfl|rfl<;>omega
theorem Rf.below {w w':World} {r B:Nat} {x:Rp} {s:St} (h:Rf w r x s) (k:Below B w w') (hB:w.heap.size≤B):Rf w' r x s:=
 h.same fun j hj=>k.block j (by have:=h.own hj;omega)
theorem Rf.cell {w:World} {r:Nat} {x:Rp} {s:St} (h:Rf w r x s) (i:Nat) (v:Value) (hv:(rcells x s)[i]? =some v):w.cell? ⟨r,i,none⟩=some v∧w.frozen? ⟨r,i,none⟩=false:=
 ⟨by rw[cell_of_row _ _ _ _ _ _ h.self,hv],frozen_of_row w _ _ _ _ h.self⟩
theorem Rf.c0 {w:World} {r:Nat} {x:Rp} {s:St} (h:Rf w r x s):w.cell? ⟨r,0,none⟩=some (.slice (some ⟨x.l,0,none⟩) s.n x.lc)∧w.frozen? ⟨r,0,none⟩=false:=h.cell 0 _ rfl
theorem Rf.c1 {w:World} {r:Nat} {x:Rp} {s:St} (h:Rf w r x s):w.cell? ⟨r,1,none⟩=some (.slice (some ⟨x.p,0,none⟩) s.n x.pc)∧w.frozen? ⟨r,1,none⟩=false:=h.cell 1 _ rfl
theorem Rf.c2 {w:World} {r:Nat} {x:Rp} {s:St} (h:Rf w r x s):w.cell? ⟨r,2,none⟩=some (.slice (some ⟨x.b,0,none⟩) s.n x.bc)∧w.frozen? ⟨r,2,none⟩=false:=h.cell 2 _ rfl
theorem Rf.c6 {w:World} {r:Nat} {x:Rp} {s:St} (h:Rf w r x s):w.cell? ⟨r,6,none⟩=some (.int .i64 (lft s))∧w.frozen? ⟨r,6,none⟩=false:=h.cell 6 _ rfl
theorem Rf.c7 {w:World} {r:Nat} {x:Rp} {s:St} (h:Rf w r x s):w.cell? ⟨r,7,none⟩=some (.bool s.ended)∧w.frozen? ⟨r,7,none⟩=false:=h.cell 7 _ rfl
theorem Rf.setSelf {w:World} {r:Nat} {x:Rp} {s:St} (h:Rf w r x s) (i:Nat) (v:Value) (s':St) (e:(rcells x s).setIfInBounds i v=rcells x s')
  (hn:s'.n=s.n) (h1:s'.tx=s.tx) (h2:s'.bad=s.bad) (h3:s'.pd=s.pd):Rf (w.setCell ⟨r,i,none⟩ v) r x s'∧But (Rv r x) w (w.setCell ⟨r,i,none⟩ v):=by
 refine⟨⟨?_,?_,?_,?_,h.n1,h.n2,h.n3,h.n4,h.n5,h.n6⟩,But.set _ _ _ _ (.inl rfl)⟩
 ·rw[←e];exact set_at _ _ _ _ _ _ _ h.self
 ·rw[hn,h1];exact h.rl.same (Below.heap_setCell _ _ _ _ (by simpa using h.n1.symm))
 ·rw[hn,h3];exact h.rp.same (Below.heap_setCell _ _ _ _ (by simpa using h.n2.symm))
 ·rw[hn,h2];exact h.rb.same (Below.heap_setCell _ _ _ _ (by simpa using h.n3.symm))
theorem Rf.setL {w:World} {r:Nat} {x:Rp} {s:St} (h:Rf w r x s) (i:Nat) (hi:i<s.n) (t:ByteArray):Rf (w.setCell ⟨x.l,i,none⟩ (.string t)) r x { s with tx:=at' s.tx i t }∧But (Rv r x) w (w.setCell ⟨x.l,i,none⟩ (.string t)):=
 ⟨⟨(Below.heap_setCell _ _ _ _ (by simpa using h.n1)).trans h.self,h.rl.set i hi t,h.rp.same (Below.heap_setCell _ _ _ _ (by simpa using h.n4.symm)),h.rb.same (Below.heap_setCell _ _ _ _ (by simpa using h.n5.symm)),h.n1,h.n2,h.n3,h.n4,h.n5,h.n6⟩,But.set _ _ _ _ (.inr (.inl rfl))⟩
theorem Rf.setB {w:World} {r:Nat} {x:Rp} {s:St} (h:Rf w r x s) (i:Nat) (hi:i<s.n) (t:Bool):Rf (w.setCell ⟨x.b,i,none⟩ (.bool t)) r x { s with bad:=at' s.bad i t }∧But (Rv r x) w (w.setCell ⟨x.b,i,none⟩ (.bool t)):=
 ⟨⟨(Below.heap_setCell _ _ _ _ (by simpa using h.n3)).trans h.self,h.rl.same (Below.heap_setCell _ _ _ _ (by simpa using h.n5)),h.rp.same (Below.heap_setCell _ _ _ _ (by simpa using h.n6)),h.rb.set i hi t,h.n1,h.n2,h.n3,h.n4,h.n5,h.n6⟩,But.set _ _ _ _ (.inr (.inr (.inr rfl)))⟩
def opE (s:St):Int:=if opOk s then 0 else 71
theorem pend_put (f:Nat→Option ByteArray) (i:Nat) (t:ByteArray) (q:Nat):at' (pend f) i t q=pend (put f i (some t)) q:=by
 unfold at' pend put;split<;>rfl
theorem pend_drop (f:Nat→Option ByteArray) (i:Nat) (q:Nat):at' (pend f) i ⟨#[]⟩ q=pend (put f i none) q:=by
 unfold at' pend put;split<;>rfl
theorem Rf.setP {w:World} {r:Nat} {x:Rp} {s:St} (h:Rf w r x s) (i:Nat) (hi:i<s.n) (t:ByteArray):Rf (w.setCell ⟨x.p,i,none⟩ (.string t)) r x { s with pd:=put s.pd i (some t) }∧But (Rv r x) w (w.setCell ⟨x.p,i,none⟩ (.string t)):=
 ⟨⟨(Below.heap_setCell _ _ _ _ (by simpa using h.n2)).trans h.self,h.rl.same (Below.heap_setCell _ _ _ _ (by simpa using h.n4)),(h.rp.set i hi t).ext fun q _=>pend_put _ _ _ _,h.rb.same (Below.heap_setCell _ _ _ _ (by simpa using h.n6.symm)),h.n1,h.n2,h.n3,h.n4,h.n5,h.n6⟩,But.set _ _ _ _ (.inr (.inr (.inl rfl)))⟩
theorem Rf.dropP {w:World} {r:Nat} {x:Rp} {s:St} (h:Rf w r x s) (i:Nat) (hi:i<s.n):Rf (w.setCell ⟨x.p,i,none⟩ (.string ⟨#[]⟩)) r x { s with pd:=put s.pd i none }∧But (Rv r x) w (w.setCell ⟨x.p,i,none⟩ (.string ⟨#[]⟩)):=
 ⟨⟨(Below.heap_setCell _ _ _ _ (by simpa using h.n2)).trans h.self,h.rl.same (Below.heap_setCell _ _ _ _ (by simpa using h.n4)),(h.rp.set i hi _).ext fun q _=>pend_drop _ _ _,h.rb.same (Below.heap_setCell _ _ _ _ (by simpa using h.n6.symm)),h.n1,h.n2,h.n3,h.n4,h.n5,h.n6⟩,But.set _ _ _ _ (.inr (.inr (.inl rfl)))⟩
theorem ris_any (r:Nat) (x:Rp) (s:St) (p:Nat) (hp:p≤4294967295) (w:World) (h:Rf w r x s) (hk:Ok s):
  Calls Tryz.prog 84 #[pt r,.int .u32 (p:Int)] w fun e w'=>e=.returned (.bool (decide (p<s.n)))∧w'=w:=by
 obtain⟨c0,z0⟩:=h.c0
 have n1:=hk.n1
 clear h hk
 generalize s.n=k at*
 have hw:IntKind.u64.wrap (p:Int)=(p:Int):=IntWalk.u64_in _ (by omega)
 have hw2:IntKind.u64.wrap (k:Int)=(k:Int):=IntWalk.u64_in _ (by omega)
 go_enter Tryz.func84,Tryz.ntmps84
 go_wp2_with fail
 go_ret
 exact⟨by simp,rfl⟩
theorem rop_any (r:Nat) (x:Rp) (s:St) (w:World) (h:Rf w r x s) (hk:Ok s):
  Calls Tryz.prog 104 #[pt r] w fun e w'=>e=.returned (.int .i64 (opE s))∧Rf w' r x (opS s)∧But (Rv r x) w w':=by
 obtain⟨c6,z6⟩:=h.c6
 obtain⟨c7,z7⟩:=h.c7
 have HD:Hid (Rf w r x s):=h
 have HK:Hid (Ok s):=hk
 have l0:=hk.l0
 have l1:=hk.l1
 clear h hk
 obtain⟨n,tx,bad,pd,ended,cut,left,cnt,tag,boots⟩:=s
 simp only[lft] at c6 c7 l0 l1
 go_enter Tryz.func104,Tryz.ntmps104
 cases cut
 ·simp only[Bool.false_eq_true,if_false] at c6
  cases ended
  ·go_wp2_with fail
   go_ret
   exact⟨rfl,HD.out,But.refl _ _⟩
  ·go_wp2_with fail
   go_ret
   exact⟨rfl,HD.out,But.refl _ _⟩
 ·simp only[if_true] at c6
  by_cases hl:left=0
  ·subst hl
   go_wp2_with fail
   go_ret
   have:=HD.out.setSelf 7 (.bool true) { n,tx,bad,pd,ended:=true,cut:=true,left:=0,cnt,tag,boots } rfl rfl rfl rfl rfl
   refine⟨by cases ended<;>rfl,?_,this.2⟩
   have e:opS { n,tx,bad,pd,ended,cut:=true,left:=0,cnt,tag,boots }={ n,tx,bad,pd,ended:=true,cut:=true,left:=0,cnt,tag,boots }:=by cases ended<;>rfl
   rw[e]
   exact this.1
  ·have q1:(left==0)=false:=by simpa using hl
   have hlp:0≤left:=HK.out.lc rfl
   have q2:0<left:=by omega
   cases ended
   ·go_wp2_with fail
    go_ret
    have:=HD.out.setSelf 6 (.int .i64 (left - 1)) { n,tx,bad,pd,ended:=false,cut:=true,left:=left - 1,cnt,tag,boots } rfl rfl rfl rfl rfl
    refine⟨by simp[opE,opOk,hl],?_,this.2⟩
    have e:opS { n,tx,bad,pd,ended:=false,cut:=true,left,cnt,tag,boots }={ n,tx,bad,pd,ended:=false,cut:=true,left:=left - 1,cnt,tag,boots }:=by simp[opS,opOk,hl]
    rw[e]
    exact this.1
   ·go_wp2_with fail
    go_ret
    exact⟨rfl,HD.out,But.refl _ _⟩
theorem nonempty_of {t:ByteArray} (h:t.size=256):(t.toList==[])=false:=by
 rw[ByteArray.toList_eq]
 have:t.data.toList.length=256:=by rw[Array.length_toList];exact h
 cases e:t.data.toList with
 |nil=>rw[e] at this;simp at this
 |cons a l=>rfl
theorem rholds_any (r:Nat) (x:Rp) (s:St) (p:Nat) (hp:p<s.n) (w:World) (h:Rf w r x s) (hk:Ok s):
  Calls Tryz.prog 38 #[pt r,.int .u32 (p:Int)] w fun e w'=>e=.returned (.string (holdS s p))∧w'=w:=by
 obtain⟨c0,z0⟩:=h.c0
 obtain⟨c1,z1⟩:=h.c1
 obtain⟨e1,y1⟩:=h.rl.cell p hp
 obtain⟨e2,y2⟩:=h.rp.cell p hp
 have n1:=hk.n1
 have HK:Hid (Ok s):=hk
 have HS:Hid (holdS s p=(s.pd p).getD (s.tx p)):=rfl
 have hz:=fun t=>HK.out.pd p t
 unfold pend at e2
 have q1:(p:Int)<(s.n:Int):=by omega
 have q0:(0:Int)≤(p:Int):=by omega
 clear h hk
 generalize s.tx p=t at*
 generalize s.n=k at*
 generalize s.pd p=f at*
 go_enter Tryz.func38,Tryz.ntmps38
 cases f with
 |none=>
  simp only[Option.getD_none] at e2
  go_wp2_with fail
  go_ret
  exact⟨by rw[HS.out];rfl,rfl⟩
 |some u=>
  simp only[Option.getD_some] at e2
  have hu:=nonempty_of (hz u rfl).2
  go_wp2_with fail
  go_ret
  exact⟨by rw[HS.out];rfl,rfl⟩
theorem rcut_any (r:Nat) (x:Rp) (s:St) (n:Int) (hn0:-9223372036854775808≤n) (hn1:n≤9223372036854775807) (w:World) (h:Rf w r x s):
  Calls Tryz.prog 62 #[pt r,.int .i64 n] w fun e w'=>e=.returned (.tuple #[])∧Rf w' r x (cutS s n)∧But (Rv r x) w w':=by
 obtain⟨c6,z6⟩:=h.c6
 have HD:Hid (Rf w r x s):=h
 clear h
 obtain⟨mx,hmx⟩:∃ mx,max n (-1)=mx:=⟨_,rfl⟩
 have HM:Hid (mx=lft (cutS s n)):=by
  refine(?_:mx=lft (cutS s n))
  unfold lft cutS
  by_cases h0:0≤n
  ·simp[h0];omega
  ·simp[h0];omega
 go_enter Tryz.func62,Tryz.ntmps62
 go_wp2_with fail
 refine bodyPost_end (results_none rfl _ _ _) rfl ?_
 have:=HD.out.setSelf 6 (.int .i64 (lft (cutS s n))) (cutS s n) rfl rfl rfl rfl rfl
 rw[←HM.out] at this
 exact⟨rfl,this.1,this.2⟩
theorem rread_any (r:Nat) (x:Rp) (s:St) (p:Nat) (hp':p≤4294967295) (w:World) (h:Rf w r x s) (hk:Ok s):
  Calls Tryz.prog 78 #[pt r,.int .u32 (p:Int)] w fun e w'=>e=.returned (.tuple #[.string (readV s p),.int .i64 (readE s p)])∧w'=w:=by
 have HD:Hid (Rf w r x s):=h
 have HK:Hid (Ok s):=hk
 obtain⟨c7,z7⟩:=h.c7
 obtain⟨c2,z2⟩:=h.c2
 have hr:=h.rb
 clear h hk
 go_enter Tryz.func78,Tryz.ntmps78
 go_wp2_with fail
 refine(ris_any r x s p hp' w HD.out HK.out).mono ?_
 rintro e w1 ⟨rfl,rfl⟩
 by_cases hp:p<s.n
 ·rw[decide_eq_true hp]
  obtain⟨e2,y2⟩:=hr.cell p hp
  have q1:(p:Int)<(s.n:Int):=by omega
  have q0:(0:Int)≤(p:Int):=by omega
  clear hr
  cases he:s.ended
  ·cases hb:s.bad p
   ·have HE:Hid (readE s p=0):=by refine(?_:readE s p=0);simp[readE,hp,he,hb]
    rw[he] at c7;rw[hb] at e2
    clear he hb
    go_wp2_with fail
    refine(rholds_any r x s p hp w1 HD.out HK.out).mono ?_
    rintro e w2 ⟨rfl,rfl⟩
    go_wp2_with fail
    go_ret2
    exact⟨by rw[HE.out,readV,if_pos HE.out];rfl,rfl⟩
   ·have HE:Hid (readE s p=70):=by refine(?_:readE s p=70);simp[readE,hp,he,hb]
    rw[he] at c7;rw[hb] at e2
    clear he hb
    go_wp2_with fail
    go_ret2
    exact⟨by rw[readV,HE.out];rfl,rfl⟩
  ·have HE:Hid (readE s p=71):=by refine(?_:readE s p=71);simp[readE,hp,he]
   rw[he] at c7
   clear he
   go_wp2_with fail
   go_ret2
   exact⟨by rw[readV,HE.out];rfl,rfl⟩
 ·rw[decide_eq_false hp]
  have HE:Hid (readE s p=2):=by refine(?_:readE s p=2);simp[readE,hp]
  clear hr
  go_wp2_with fail
  go_ret2
  exact⟨by rw[readV,HE.out];rfl,rfl⟩
theorem rwrite_any (r:Nat) (x:Rp) (s:St) (p:Nat) (hp':p≤4294967295) (t:ByteArray) (w:World) (h:Rf w r x s) (hk:Ok s):
  Calls Tryz.prog 74 #[pt r,.int .u32 (p:Int),.string t] w fun e w'=>e=.returned (.int .i64 (writeE s p t))∧Rf w' r x (writeS s p t)∧But (Rv r x) w w':=by
 have HD:Hid (Rf w r x s):=h
 have HK:Hid (Ok s):=hk
 clear h hk
 go_enter Tryz.func74,Tryz.ntmps74
 go_wp2_with fail
 refine(ris_any r x s p hp' w HD.out HK.out).mono ?_
 rintro e w1 ⟨rfl,rfl⟩
 by_cases hp:p<s.n
 ·rw[decide_eq_true hp]
  by_cases ht:t.size=256
  ·have HF:Hid (fitS s p t=true):=by refine(?_:fitS s p t=true);simp[fitS,hp,ht]
   have q3:((t.size:Int)==256)=true:=by simp[ht]
   go_wp2_with fail
   refine(rop_any r x s w1 HD.out HK.out).mono ?_
   rintro e w2 ⟨rfl,d2,b2⟩
   have D2:Hid _:=d2
   have B2:Hid _:=b2
   have hn2:=(opS_tx s).2.2.2.1
   cases ho:opOk s
   ·have HE:Hid (writeE s p t=71∧writeS s p t=opS s):=by refine(?_:writeE s p t=71∧writeS s p t=opS s);simp[writeE,writeS,HF.out,ho]
    have hoe:opE s=71:=by simp[opE,ho]
    rw[hoe]
    clear d2 b2 ho hn2
    go_wp2_with fail
    go_ret
    exact⟨by rw[HE.out.1];rfl,by rw[HE.out.2];exact D2.out,B2.out⟩
   ·have HE:Hid (writeE s p t=0∧writeS s p t={ opS s with pd:=put s.pd p (some t) }):=by refine(?_:writeE s p t=0∧writeS s p t={ opS s with pd:=put s.pd p (some t) });simp[writeE,writeS,HF.out,ho]
    have hoe:opE s=0:=by simp[opE,ho]
    rw[hoe]
    obtain⟨c1,z1⟩:=d2.c1
    obtain⟨e1,y1⟩:=d2.rp.cell p (by rw[hn2];exact hp)
    have q1:(p:Int)<((opS s).n:Int):=by rw[hn2];omega
    have q0:(0:Int)≤(p:Int):=by omega
    have HW:Hid _:=d2.setP p (by rw[hn2];exact hp) t
    have HPD:Hid ((opS s).pd=s.pd):=(opS_tx s).2.2.1
    clear d2 b2 ho hn2
    go_wp2_with fail
    go_ret
    refine⟨by rw[HE.out.1];rfl,?_,B2.out.trans HW.out.2⟩
    rw[HE.out.2,←HPD.out]
    exact HW.out.1
  ·have HE:Hid (writeE s p t=2∧writeS s p t=s):=by refine(?_:writeE s p t=2∧writeS s p t=s);simp[writeE,writeS,fitS,ht]
   have q3:((t.size:Int)==256)=false:=by simp;omega
   go_wp2_with fail
   go_ret
   exact⟨by rw[HE.out.1];rfl,by rw[HE.out.2];exact HD.out,But.refl _ _⟩
 ·rw[decide_eq_false hp]
  have HE:Hid (writeE s p t=2∧writeS s p t=s):=by refine(?_:writeE s p t=2∧writeS s p t=s);simp[writeE,writeS,fitS,hp]
  go_wp2_with fail
  go_ret
  exact⟨by rw[HE.out.1];rfl,by rw[HE.out.2];exact HD.out,But.refl _ _⟩
theorem rput_any (r:Nat) (x:Rp) (s:St) (p:Nat) (hp':p≤4294967295) (t:ByteArray) (w:World) (h:Rf w r x s) (hk:Ok s):
  Calls Tryz.prog 58 #[pt r,.int .u32 (p:Int),.string t] w fun e w'=>e=.returned (.int .i64 (putE s p t))∧Rf w' r x (putS s p t)∧But (Rv r x) w w':=by
 have HD:Hid (Rf w r x s):=h
 have HK:Hid (Ok s):=hk
 clear h hk
 go_enter Tryz.func58,Tryz.ntmps58
 go_wp2_with fail
 refine(ris_any r x s p hp' w HD.out HK.out).mono ?_
 rintro e w1 ⟨rfl,rfl⟩
 by_cases hp:p<s.n
 ·rw[decide_eq_true hp]
  by_cases ht:t.size=256
  ·have q3:((t.size:Int)==256)=true:=by simp[ht]
   have HE:Hid (putE s p t=0∧putS s p t={ s with tx:=at' s.tx p t,pd:=put s.pd p none }):=by refine(?_:putE s p t=0∧putS s p t={ s with tx:=at' s.tx p t,pd:=put s.pd p none });simp[putE,putS,fitS,hp,ht]
   have q1:(p:Int)<(s.n:Int):=by omega
   have q0:(0:Int)≤(p:Int):=by omega
   obtain⟨c0,z0⟩:=HD.out.c0
   obtain⟨c1,z1⟩:=HD.out.c1
   obtain⟨e0,y0⟩:=HD.out.rl.cell p hp
   obtain⟨e1,y1⟩:=HD.out.rp.cell p hp
   have hxx:=HD.out.n4
   have hx1:=HD.out.n1
   have hx2:=HD.out.n2
   have H1:Hid _:=HD.out.setL p hp t
   have H2:Hid _:=H1.out.1.dropP p hp
   go_wp2_with fail
   go_ret
   exact⟨by rw[HE.out.1];rfl,by rw[HE.out.2];exact H2.out.1,H1.out.2.trans H2.out.2⟩
  ·have HE:Hid (putE s p t=2∧putS s p t=s):=by refine(?_:putE s p t=2∧putS s p t=s);simp[putE,putS,fitS,ht]
   have q3:((t.size:Int)==256)=false:=by simp;omega
   go_wp2_with fail
   go_ret
   exact⟨by rw[HE.out.1];rfl,by rw[HE.out.2];exact HD.out,But.refl _ _⟩
 ·rw[decide_eq_false hp]
  have HE:Hid (putE s p t=2∧putS s p t=s):=by refine(?_:putE s p t=2∧putS s p t=s);simp[putE,putS,fitS,hp]
  go_wp2_with fail
  go_ret
  exact⟨by rw[HE.out.1];rfl,by rw[HE.out.2];exact HD.out,But.refl _ _⟩
theorem rbad_any (r:Nat) (x:Rp) (s:St) (p:Nat) (hp':p≤4294967295) (t:Bool) (w:World) (h:Rf w r x s) (hk:Ok s):
  Calls Tryz.prog 60 #[pt r,.int .u32 (p:Int),.bool t] w fun e w'=>e=.returned (.int .i64 (badE s p))∧Rf w' r x (badS s p t)∧But (Rv r x) w w':=by
 have HD:Hid (Rf w r x s):=h
 have HK:Hid (Ok s):=hk
 clear h hk
 go_enter Tryz.func60,Tryz.ntmps60
 go_wp2_with fail
 refine(ris_any r x s p hp' w HD.out HK.out).mono ?_
 rintro e w1 ⟨rfl,rfl⟩
 by_cases hp:p<s.n
 ·rw[decide_eq_true hp]
  have HE:Hid (badE s p=0∧badS s p t={ s with bad:=at' s.bad p t }):=by refine(?_:badE s p=0∧badS s p t={ s with bad:=at' s.bad p t });simp[badE,badS,hp]
  have q1:(p:Int)<(s.n:Int):=by omega
  have q0:(0:Int)≤(p:Int):=by omega
  obtain⟨c2,z2⟩:=HD.out.c2
  obtain⟨e0,y0⟩:=HD.out.rb.cell p hp
  have H1:Hid _:=HD.out.setB p hp t
  go_wp2_with fail
  go_ret
  exact⟨by rw[HE.out.1];rfl,by rw[HE.out.2];exact H1.out.1,H1.out.2⟩
 ·rw[decide_eq_false hp]
  have HE:Hid (badE s p=2∧badS s p t=s):=by refine(?_:badE s p=2∧badS s p t=s);simp[badE,badS,hp]
  go_wp2_with fail
  go_ret
  exact⟨by rw[HE.out.1];rfl,by rw[HE.out.2];exact HD.out,But.refl _ _⟩
end Go.Proofs.YtfaflomephjkgaaGreatDoor.Rd
