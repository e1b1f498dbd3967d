/- Image; zeros; a row of blocks, all alike; New. -/
import Derived.Test.YtokfnghckpgjmaaGreatDoorPPo
import Derived.Test.YtokfnghckpgjmaaGreatDoorPPk
import Derived.Test.YtokfnghckpgjmaaGreatDoorQDA
import Derived.Test.YtokfnghckpgjmaaGreatDoorPAa
import Derived.Deep.OwnRows
set_option maxRecDepth 100000
set_option maxHeartbeats 2000000
namespace Go.Proofs.YtokfnghckpgjmaaGreatDoor
namespace Rd
open Go.RowKit
open Go.ChangeMaps (setBlock)
def zs (n:Nat):ByteArray:=⟨(List.replicate n (0:UInt8)).toArray⟩
theorem zkt (n:Nat):(zs n).size=n:=by simp[zs,ByteArray.size]
theorem zgX (n:Nat):Lib.repeatL [(0:UInt8)] n=List.replicate n 0:=by
 induction n with
 |zero=>rfl
 |succ n ih=>simp[Lib.repeatL,List.replicate_succ] at ih ⊢;exact ih
theorem zfX (n:Nat) (hn:n≤1000000) (w:World):
  Calls Tryz.prog 73 #[.int .i64 (n:Int)] w fun e w'=>e=.returned (.string (zs n))∧Below w.heap.size w w':=by
 have hr:=Tryz.strings_Repeat ⟨#[0]⟩ n w uo (by simp[ByteArray.size];omega);have hz:Lib.repeatL (ByteArray.mk #[0]).data.toList n=List.replicate n 0:=zgX n;rw[hz] at hr;have HR:Hid (Calls Tryz.prog 107 #[.string ⟨#[0]⟩,.int .i64 (n:Int)] w fun e w'=>e=.returned (.string (zs n))∧Below w.heap.size w w'):=hr;clear hr hz;go_enter Tryz.func73,Tryz.ntmps73;go_wp2_with fail;refine Calls.mono HR.o ?_;rintro e w1 ⟨rfl,b1⟩;have B1:Hid _:=b1;clear b1;go_wp2_with fail;go_ret;exact⟨rfl,B1.o⟩
theorem ry:(Tryz.prog.info? 9).map (fun i=>(i.zero,i.size,i.bytes))=some (some (.string ⟨#[]⟩),1,16):=uk
theorem znI:(Tryz.prog.info? 116).map (fun i=>(i.zero,i.size,i.bytes))=some (some (.agg #[.string ⟨#[]⟩,.bool false]),2,24):=uk
theorem zku (n:Nat) (hn:n≤4096) (w:World):(Instr.makeSlice 105 (.int .i64 (n:Int)) (.int .i64 (n:Int))).run Tryz.prog w=.ok (.slice (some ⟨w.heap.size,0,none⟩) n n) (w.alloc (.cells (madeCells #[.string ⟨#[]⟩,.bool false] (n*2)) 116)):=by
 obtain⟨i,hi,hzz⟩:=Option.map_eq_some_iff.1 znI;simp only[Prod.mk.injEq] at hzz;obtain⟨hz,hs,hb⟩:=hzz;have hr:=run_make (P:=Tryz.prog) w 105 116 i _ Tryz.underlying105 hi hz .i64 .i64 n n uo (Int.le_refl _) (by rw[hb];omega) uo;simp only[Int.toNat_natCast,hs] at hr;exact hr
theorem zfY (w:World) (ty:TypeId) (g o dLen dCap:Nat) (a:Addr) (sLen sCap:Nat) (cur:Array Value) (cs:List Value)
  (hg:w.heap[g]? =some (.cells cur 116 (0,0))) (n:Nat) (hn:n=Nat.min sLen dLen) (hl:cs.length=n*2)
  (hsrc:∀ j v,cs[j]? =some v→w.cell? (a.add j)=some v) (hfit:o+cs.length≤cur.size) (h1:∀ v∈cs,v.oneCell'=true):
  (Builtin.copy_ #[105,105] ty #[.slice (some ⟨g,o,none⟩) dLen dCap,.slice (some a) sLen sCap]).run Tryz.prog w=
   .ok (.int .i64 (n:Int)) (w.setRow g (cur.toList.take o++cs++cur.toList.drop (o+cs.length)).toArray):=by
 have hld:=run_loadCells_list (P:=Tryz.prog) w a cs hsrc;have hst:=run_storeCells_at Tryz.prog g o 116 cs 0 cur w hg (by simpa using hfit) h1;obtain⟨i,hi,hzz⟩:=Option.map_eq_some_iff.1 znI;simp only[Prod.mk.injEq] at hzz;obtain⟨hz,hs,hb⟩:=hzz;rw[hl] at hld;simp[Builtin.copy_,run_underlying Tryz.underlying105,Builtin.lenOf,Builtin.firstCells,sizeOf,typeInfo,hi,hs,←hn,hld,hst,goInt]
def RowK (w:World) (g n k:Nat) (t:ByteArray):Prop:=
 ∃ cs,w.heap[g]? =some (.cells cs 116 (0,0))∧cs.size=n*2∧∀ p,p<k→cs[p*2]? =some (.string t)∧cs[p*2+1]? =some (.bool false)
theorem RowK.at {cs:Array Value} {k:Nat} {t:ByteArray} (h:∀ p,p<k→cs[p*2]? =some (.string t)∧cs[p*2+1]? =some (.bool false)) (j:Nat) (hj:j<k*2):
  cs[j]? =some (if j%2=0 then .string t else .bool false):=by
 obtain⟨h1,h2⟩:=h (j/2) uo;by_cases hm:j%2=0
 ·rw[if_pos hm,←h1];congr 1;omega
 ·rw[if_neg hm,←h2];congr 1;omega
def alike (t:ByteArray) (n:Nat):List Value:=(List.range (n*2)).map fun j=>if j%2=0 then .string t else .bool false
theorem zfZ (t:ByteArray) (n j:Nat) (h:j<n*2):(alike t n)[j]? =some (if j%2=0 then .string t else .bool false):=by simp[alike,h]
theorem sC (t:ByteArray) (n j:Nat) (v:Value) (h:(alike t n)[j]? =some v):j<n*2∧v=if j%2=0 then .string t else .bool false:=by
 have hj:j<n*2:=by have:=(List.getElem?_eq_some_iff.1 h).1;simpa [alike] using this
 rw[zfZ t n j hj] at h;exact⟨hj,(Option.some.inj h).symm⟩
theorem zf0 (t:ByteArray) (n:Nat):∀ v∈alike t n,v.oneCell'=true:=by
 intro v hv;obtain⟨j,hj⟩:=List.mem_iff_getElem?.1 hv;obtain⟨_,rfl⟩:=sC t n j v hj;split<;>rfl
theorem znJ (g j:Nat):(⟨g,0,none⟩:Addr).add j=⟨g,j,none⟩:=by unfold Addr.add;split<;>simp_all
theorem zf1 {w:World} {g n k:Nat} {t:ByteArray} (cs:Array Value) (h1:w.heap[g]? =some (.cells cs 116 (0,0))) (h2:cs.size=n*2) (h3:∀ p,p<k→cs[p*2]? =some (.string t)∧cs[p*2+1]? =some (.bool false)) (q:Nat) (hq:k+q≤n):
  RowK (w.setRow g (cs.toList.take (k*2)++alike t q++cs.toList.drop (k*2+(alike t q).length)).toArray) g n (k+q) t:=by
 have hlen:(alike t q).length=q*2:=by simp[alike]
 refine⟨_,setRow_heap w g cs _ _ _ h1,?_,fun p hp=>?_⟩
 ·simp only[List.size_toArray,List.length_append,List.length_take,List.length_drop,hlen,Array.length_toList];omega
 ·have key:∀ j,j<(k+q)*2→(cs.toList.take (k*2)++alike t q++cs.toList.drop (k*2+(alike t q).length))[j]? =some (if j%2=0 then .string t else .bool false):=by
   intro j hj;by_cases hjk:j<k*2
   ·rw[List.append_assoc,List.getElem?_append_left (by simp;omega),List.getElem?_take_of_lt hjk,Array.getElem?_toList,RowK.at h3 j hjk]
   ·rw[List.append_assoc,List.getElem?_append_right (by simp;omega),List.getElem?_append_left (by simp[hlen];omega)]
    have:j - (cs.toList.take (k*2)).length=j - k*2:=by simp;omega
    rw[this,zfZ t q _ uo];have:(j - k*2)%2=j%2:=uo
    rw[this]
  refine⟨?_,?_⟩
  ·rw[List.getElem?_toArray,key _ uo,if_pos uo]
  ·rw[List.getElem?_toArray,key _ uo,if_neg uo]
theorem below_setRow {B:Nat} (w:World) (g:Nat) (r:Array Value) (h:B≤g):Below B w (w.setRow g r):=
 ⟨rfl,rfl,rfl,by simp[World.setRow],fun k hk=>by simp only[World.setRow,Array.getElem?_modify];rw[if_neg uo]⟩
theorem zow (t : ByteArray) (n : Nat) (n0 : 1 ≤ n) (n1 : n ≤ 4096) (g0 : Nat) (w : World) (h : w.heap[g0]? = some (.cells #[.string t, .bool false] 116 (0, 0))) :
    Calls Tryz.prog 74 #[.slice (some ⟨g0, 0, none⟩) 1 1, .int .i64 (n : Int)] w fun e w' => ∃ g, e = .returned (.slice (some ⟨g, 0, none⟩) n n) ∧ Row w' g n (fun _ => t) (fun _ => false) ∧ w.heap.size ≤ g ∧ Below w.heap.size w w' := by
  have hM : ∀ w, Calls Tryz.prog 108 #[.int .u64 1, .int .u64 (n : Int)] w fun e w' => e = .returned (.tuple #[.int .u64 0, .int .u64 (n : Int)]) ∧ w' = w := fun w => by
    have := Tryz.bits_Mul 1 n uo uo w;rw [Nat.one_mul, Nat.div_eq_of_lt uo, Nat.mod_eq_of_lt uo] at this;exact this
  have HM : Hid _ := hM;have hu : IntKind.u64.wrap (n : Int) = (n : Int) := IntWalk.u64_in _ uo;have hi : IntKind.i64.wrap (n : Int) = (n : Int) := IntWalk.i64_in _ uo;have hu1 : IntKind.u64.wrap 1 = 1 := rfl;have hmk := zku n n1 w;have hX : ∃ cs, (w.alloc (.cells (madeCells #[.string ⟨#[]⟩, .bool false] (n * 2)) 116)).heap[w.heap.size]? = some (.cells cs 116 (0, 0)) ∧ cs.size = n * 2 := ⟨_, zq w _, size_madeCells _ _⟩;have HB : Hid (Below w.heap.size w (w.alloc (.cells (madeCells #[.string ⟨#[]⟩, .bool false] (n * 2)) 116))) := bF w _;obtain ⟨W, hW⟩ : ∃ W, w.alloc (.cells (madeCells #[.string ⟨#[]⟩, .bool false] (n * 2)) 116) = W := ⟨_, rfl⟩;rw [hW] at hmk hX HB;obtain ⟨cs, hX1, hX2⟩ := hX;have hg0 : g0 < w.heap.size := (zi h).1;have h' : W.heap[g0]? = some (.cells #[.string t, .bool false] 116 (0, 0)) := (HB.o.block _ hg0).trans h
  have hcp := zfY W 3 w.heap.size 0 n n ⟨g0, 0, none⟩ 1 1 cs (alike t 1) hX1 1 (Nat.min_eq_left n0).symm (by simp [alike])
    (fun j v hv => by
      obtain ⟨hj, rfl⟩ := sC t 1 j v hv;rw [znJ, zr h']
      match j, hj with
      | 0, _ => rfl
      | 1, _ => rfl) (by simp [alike]; omega) (zf0 t 1)
  have hR := zf1 (k := 0) (t := t) cs hX1 hX2 (fun p hp => by omega) 1 uo;rw [Nat.zero_mul, Nat.zero_add] at hR;rw [Nat.zero_add] at hcp;have HB2 : Hid (Below w.heap.size w (W.setRow w.heap.size (cs.toList.take 0 ++ alike t 1 ++ cs.toList.drop (alike t 1).length).toArray)) := HB.o.trans (below_setRow W _ _ zn);have HR : Hid _ := hR;obtain ⟨W2, hW2⟩ : ∃ W2, W.setRow w.heap.size (cs.toList.take 0 ++ alike t 1 ++ cs.toList.drop (alike t 1).length).toArray = W2 := ⟨_, rfl⟩;rw [Nat.zero_add] at HR;rw [hW2] at hcp HB2 HR;clear h h' hX1 hX2 hW hW2 hR hM;go_enter Tryz.func74, Tryz.ntmps74;go_wp2_with fail;refine (HM.o _).mono ?_;rintro e w1 ⟨rfl, rfl⟩;go_wp2_with fail
  go_loopw [8] (fun i wr => ∃ k : Nat, 1 ≤ k ∧ k ≤ n ∧ i = .int .i64 (k : Int) ∧ RowK wr w1.heap.size n k t ∧ Below w1.heap.size w1 wr) (fun i _ => n - bu i)
  case atStart => exact ⟨1, by omega, n0, rfl, HR.o, HB2.o⟩
  case round =>
    obtain ⟨k, hk0, hkn, rfl, ⟨cr, r1, r2, r3⟩, hb⟩ := hrel;have B1 : Hid _ := hb;have HRK : Hid (RowK wr w1.heap.size n k t) := ⟨cr, r1, r2, r3⟩;by_cases hlt : k < n
    · have q1 : (k : Int) < (n : Int) := by omega
      have q0 : (0 : Int) ≤ (k : Int) := by omega
      obtain ⟨q, hq⟩ : ∃ q, q = Nat.min k (n - k) := ⟨_, rfl⟩;have hqk : q ≤ k := by rw [hq]; exact Nat.min_le_left _ _
      have hqn : k + q ≤ n := by have : q ≤ n - k := by rw [hq]; exact Nat.min_le_right _ _
                                 omega
      have hqp : 1 ≤ q := by rw [hq]; simp only [Nat.min_def]; split <;> omega
      have hc2 := zfY wr.drew 3 w1.heap.size (k * 2) (n - k) (n - k) ⟨w1.heap.size, 0, none⟩ k n cr (alike t q) r1 q hq (by simp [alike])
        (fun j v hv => by
          obtain ⟨hj, rfl⟩ := sC t q j v hv;rw [znJ]; show wr.cell? _ = _; rw [zr r1, RowK.at r3 j uo]) (by simp [alike, r2]; omega) (zf0 t q)
      have hR2 := zf1 (w := wr.drew) (k := k) (t := t) cr r1 r2 r3 q hqn;have HB3 : Hid (Below w1.heap.size w1 (wr.drew.setRow w1.heap.size (cr.toList.take (k * 2) ++ alike t q ++ cr.toList.drop (k * 2 + (alike t q).length)).toArray)) := B1.o.drew.trans (below_setRow wr.drew _ _ zn);obtain ⟨W3, hW3⟩ : ∃ W3, wr.drew.setRow w1.heap.size (cr.toList.take (k * 2) ++ alike t q ++ cr.toList.drop (k * 2 + (alike t q).length)).toArray = W3 := ⟨_, rfl⟩;rw [hW3] at hc2 hR2 HB3;have HR2 : Hid _ := hR2;have HQ : Hid _ := hq;clear r1 r2 r3 hb hW3 hR2 hmk hcp hq;go_wp2_with fail;have ha : IntKind.i64.wrap ((k : Int) + (q : Int)) = ((k + q : Nat) : Int) := by rw [IntWalk.i64_in _ uo]; omega
      go_region
      go_wp2_with fail
      go_roundw
      case rel => exact ⟨k + q, by omega, hqn, by congr 1, HR2.o, HB3.o⟩
      case measure => simp [bu]; omega
    · have q1 : ¬ (k : Int) < (n : Int) := by omega
      have hk : k = n := by omega
      subst hk;clear r1 r2 r3 hb;go_wp2_with fail;go_ret;exact ⟨w1.heap.size, rfl, HRK.o, Nat.le_refl _, B1.o⟩
def ce (n:Nat):St:={ n,tx:=fun _=>zs 256,bad:=fun _=>false,pd:=fun _=>none,ended:=false,cut:=false,left:=0,cnt:=0,tag:=zs 32,boots:=0 }
theorem zkv (n:Nat) (h0:4≤n) (h1:n≤4096):Ok (ce n):=
 ⟨h0,h1,fun _ _=>zkt 256,fun _ _ h=>by simp[ce] at h,by simp[ce],by simp[ce],by simp[ce],by simp[ce],by simp[ce],by simp[ce],by simp[ce]⟩
theorem rq (n:Nat) (h0:4≤n) (h1:n≤4096) (w:World):
  Calls Tryz.prog 40 #[.int .i64 (n:Int)] w fun e w'=>∃ d b m,e=.returned (.tuple #[pt d,.int .i64 0])∧dT w' d b m (ce n)∧w.heap.size≤d∧w.heap.size≤b∧w.heap.size≤m∧Below w.heap.size w w':=by
 have i0:¬(n:Int)<4:=uo
 have i1:¬4096<(n:Int):=uo
 go_enter Tryz.func40,Tryz.ntmps40;go_wp2_with fail;refine um (zfX 32 uo w) fun w1 b1=>?_;have B1:Hid _:=b1;clear b1;generalize hz32:zs 32=z32 at*
 have HZ32:Hid (zs 32=z32):=hz32;clear hz32;go_wp2_with fail;refine um (zfX 256 uo w1) fun w2 b2=>?_;have B2:Hid (Below w.heap.size w w2):=B1.o.trans (b2.mono B1.o.size);clear b2;generalize hz:zs 256=z at*
 have HZ:Hid (zs 256=z):=hz;clear hz;go_wp2_with fail;refine(zow z n uo h1 w2.heap.size _ (zq w2 _)).mono ?_;rintro e w3 ⟨g,rfl,r3,hg,b3⟩;have hs2:=B2.o.size;have B3:Hid (Below w.heap.size w w3):=(B2.o.alloc hs2 _).trans (b3.mono (by simp;omega));have R3:Hid _:=r3;have HG:Hid (w.heap.size≤g):=by refine(?_:w.heap.size≤g);simp at hg;omega
 have hl:=r3.lt;clear b3 r3;have hmm:(Instr.makeMap 106 none).run Tryz.prog w3=.ok (.map (some w3.heap.size)) (w3.alloc (.map #[] 0)):=rfl;go_wp2_with fail;go_ret2;have hs3:=B3.o.size;have hmap:=Pm.made w3;refine⟨w3.heap.size+1,g,w3.heap.size,⟨by simp[pt],⟨?_,?_,?_,by omega,by omega,by omega⟩,by omega,HG.o,by omega,(B3.o.alloc hs3 _).alloc (by simp;omega) _⟩⟩
 ·have:=zq (w3.alloc (.map #[] 0)) (.cells (mO g w3.heap.size (ce n)) 108)
  rw[World.size_alloc] at this
  have e:mO g w3.heap.size (ce n)=#[.bool false,.bool false,.int .i64 0,.int .u64 0,.string z32,.int .u32 0,.slice (some ⟨g,0,none⟩) n n,.map (some w3.heap.size)]:=by
   simp[mO,ce,HZ32.o]
  rw[e] at this ⊢;exact this
 ·have e:(ce n).tx=fun _=>z:=by simp[ce,HZ.o]
  rw[e];exact Row.same R3.o ((Below.heap_alloc _ _ _ (by simp;omega)).trans (Below.heap_alloc _ _ _ hl))
 ·exact hmap.same (Below.heap_alloc _ _ _ us)
end Rd
namespace Rv
open Go.RowKit
open Go.ChangeMaps (setBlock)
open Rd (bC bF ki nJ)
def Tk (w:World) (m:Nat) (f:Nat→Option Unit) (c:Nat):Prop:=
 ∃ es clock,w.heap[m]? =some (.map es clock)∧(MapKept.Stamped es clock∧es.size=c)∧
  (∀ e∈es.toList,∃ (p:Nat) (t:Unit),e.key=.int .u32 (p:Int)∧e.val=.agg #[]∧f p=some t)∧
  (∀ p t,f p=some t→∃ e∈es.toList,e.key=.int .u32 (p:Int)∧e.val=.agg #[])
theorem Tk.same {w w':World} {m c:Nat} {f:Nat→Option Unit} (h:Tk w m f c) (e:w'.heap[m]? =w.heap[m]?):Tk w' m f c:=by
 obtain⟨es,c,h1,h2⟩:=h;exact⟨es,c,e.trans h1,h2⟩
theorem Tk.lt {w:World} {m c:Nat} {f:Nat→Option Unit} (h:Tk w m f c):m<w.heap.size:=by
 obtain⟨es,c,h1,h2⟩:=h;exact(zi h1).1
theorem Tk.made (w:World):Tk (w.alloc (.map #[] 0)) w.heap.size (fun _=>none) 0:=
 ⟨#[],0,zq w _,⟨MapKept.stamped_empty 0,rfl⟩,by simp,by simp⟩
theorem Tk.look {w:World} {m cc:Nat} {f:Nat→Option Unit} (h:Tk w m f cc) (p:Nat) (c:Bool):
  (Instr.lookup 111 (.map (some m)) (.int .u32 (p:Int)) c).run Tryz.prog w=.ok (if c then .tuple #[.agg #[],.bool (f p).isSome] else .agg #[]) w:=by
 obtain⟨es,cl,h1,h2,h3,h4⟩:=h;have hk:MapKept.IsKey (.int .u32) (.int .u32 (p:Int)):=rfl
 have hks:∀ e∈es.toList,MapKept.IsKey (.int .u32) e.key:=fun e he=>by
  obtain⟨q,t,e1,_⟩:=h3 e he;rw[e1];rfl
 have hz:(zeroValue 135).run Tryz.prog w=.ok (.agg #[]) w:=Tryz.zeroValue135 w;rcases MapKept.findNow_spec hk es.toList 0 hks with⟨k1,k2⟩|⟨j,e0,k1,k2,k3⟩
 ·have hf:f p=none:=by
   cases hf:f p with
   |none=>rfl
   |some t=>
    obtain⟨e,he,e1,_⟩:=h4 p t hf;exact absurd e1 (k2 e he)
  rw[hf];have fk:=MapKept.run_findKey (w:=w) Tryz.underlying41 k1;simp only[Instr.lookup,Sem.run_bind,run_underlying Tryz.underlying111,MapKept.run_getObj_map h1,MapKept.run_checkKey Tryz.underlying41 hk _ 9999,fk,hz,Result.andThen,Sem.run_pure];rfl
 ·have hm0:e0∈es.toList:=List.mem_of_getElem? k2
  obtain⟨q,t,e1,e2,e3⟩:=h3 e0 hm0;have hq:q=p:=by rw[k3] at e1;simp at e1;omega
  subst hq;rw[e3];have fk:=MapKept.run_findKey (w:=w) Tryz.underlying41 k1;rw[e2] at fk;simp only[Instr.lookup,Sem.run_bind,run_underlying Tryz.underlying111,MapKept.run_getObj_map h1,MapKept.run_checkKey Tryz.underlying41 hk _ 9999,fk,Result.andThen,Sem.run_pure];rfl
def cE (f:Nat→Option Unit) (p:Nat) (t:Option Unit):Nat→Option Unit:=fun q=>if q=p then t else f q
theorem Tk.update {w:World} {m c:Nat} {f:Nat→Option Unit} (h:Tk w m f c) (p:Nat) (t:Unit):
  ∃ w',(Instr.mapUpdate 111 (.map (some m)) (.int .u32 (p:Int)) (.agg #[])).run Tryz.prog w=.ok () w'∧Tk w' m (cE f p (some t)) (if(f p).isSome=true then c else c+1)∧bC (fun k=>k=m) w w'∧w'.heap.size=w.heap.size:=by
 obtain⟨es,cl,h1,h2,h3,h4⟩:=h;have hk:MapKept.IsKey (.int .u32) (.int .u32 (p:Int)):=rfl
 have hks:∀ e∈es.toList,MapKept.IsKey (.int .u32) e.key:=fun e he=>by
  obtain⟨q,t,e1,_⟩:=h3 e he;rw[e1];rfl
 rcases MapKept.findNow_spec hk es.toList 0 hks with⟨k1,k2⟩|⟨j,e0,k1,k2,k3⟩
 ·have hnone:f p=none:=by
   cases hf:f p with
   |none=>rfl
   |some t=>
    obtain⟨e,he,e1,_⟩:=h4 p t hf;exact absurd e1 (k2 e he)
  have fk:=MapKept.run_findKey (w:=w) Tryz.underlying41 k1;refine⟨setBlock w m (.map (es.push ⟨.int .u32 (p:Int),.agg #[],cl⟩) (cl+1)),?_,⟨_,_,ki h1,⟨MapKept.stamped_push h2.1 k2,by rw[hnone,Array.size_push,h2.2];rfl⟩,?_,?_⟩,bC.setBlock _ _ _ rfl,by simp[ChangeMaps.setBlock]⟩
  ·simp only[Instr.mapUpdate,Sem.run_bind,run_underlying Tryz.underlying111,MapKept.run_getObj_map h1,MapKept.run_checkKey Tryz.underlying41 hk _ 9999,fk,Result.andThen,MapKept.run_setObj_map _ h1]
   rfl
  ·intro e he
   rw[Array.toList_push,List.mem_append] at he;rcases he with he|he
   ·obtain⟨q,s,e1,e2,e3⟩:=h3 e he
    refine⟨q,s,e1,e2,?_⟩;unfold cE;rw[if_neg fun hqp=>k2 e he (by rw[e1,hqp]),e3]
   ·simp at he
    subst he;exact⟨p,t,rfl,rfl,by simp[cE]⟩
  ·intro q s hq
   unfold cE at hq;rw[Array.toList_push];split at hq
   ·rename_i e
    cases hq;exact⟨_,List.mem_append.2 (.inr (by simp;rfl)),by rw[e],rfl⟩
   ·obtain⟨e,he,e1⟩:=h4 q s hq
    exact⟨e,List.mem_append.2 (.inl he),e1⟩
 ·have hsome:f p=some ():=by
   obtain⟨q,t,e1,e2,e3⟩:=h3 e0 (List.mem_of_getElem? k2);have hq:q=p:=by rw[k3] at e1;exact(nJ e1).symm
   rw[←hq];exact e3
  have fk:=MapKept.run_findKey (w:=w) Tryz.underlying41 k1;have hj:es[j]? =some e0:=by rw[←Array.getElem?_toList];exact k2
  have hjl:j<es.size:=(zi hj).1;have hgj:es[j]=e0:=(zi hj).2
  have hget:∀ i,(es.modify j fun e=>{ e with key:=.int .u32 (p:Int),val:=.agg #[] })[i]? =if j=i then some { e0 with key:=.int .u32 (p:Int),val:=.agg #[] } else es[i]? :=by
   intro i;rw[Array.getElem?_modify];split
   ·rename_i e;subst e;rw[hj];rfl
   ·rfl
  have hdis:=(MapKept.stamped_iff es cl).1 h2.1;refine⟨setBlock w m (.map (es.modify j fun e=>{ e with key:=.int .u32 (p:Int),val:=.agg #[] }) cl),?_,⟨_,_,ki h1,⟨MapKept.stamped_modify h2.1 j _ (fun _ _=>rfl) (fun e _ he=>?_),by rw[hsome,Array.size_modify,h2.2];rfl⟩,?_,?_⟩,bC.setBlock _ _ _ rfl,by simp[ChangeMaps.setBlock]⟩
  ·simp only[Instr.mapUpdate,Sem.run_bind,run_underlying Tryz.underlying111,MapKept.run_getObj_map h1,MapKept.run_checkKey Tryz.underlying41 hk _ 9999,fk,Result.andThen,Nat.zero_add,hj,Option.map_some,Option.getD_some,k3,MapKept.run_keyThatStays hk,MapKept.run_setObj_map _ h1]
   rfl
  ·rw[hj] at he;cases he;exact k3.symm
  ·intro e he
   rw[List.mem_iff_getElem?] at he;obtain⟨i,hi⟩:=he;rw[Array.getElem?_toList,hget] at hi;split at hi
   ·cases hi
    exact⟨p,t,rfl,rfl,by simp[cE]⟩
   ·rename_i hne
    have hm:e∈es.toList:=by rw[List.mem_iff_getElem?];exact⟨i,by rw[Array.getElem?_toList];exact hi⟩
    obtain⟨q,s,e1,e2,e3⟩:=h3 e hm;refine⟨q,s,e1,e2,?_⟩;unfold cE;rw[if_neg fun hqp=>?_,e3];have hil:i<es.size:=(zi hi).1;have hgi:es[i]=e:=(zi hi).2;have hp:=hdis.2.2;rw[List.pairwise_iff_getElem] at hp;rcases Nat.lt_or_gt_of_ne hne with hlt|hlt
    ·exact hp j i (by simpa using hjl) (by simpa using hil) hlt (by simp only[Array.getElem_toList];rw[hgj,hgi,k3,e1,hqp])
    ·exact hp i j (by simpa using hil) (by simpa using hjl) hlt (by simp only[Array.getElem_toList];rw[hgj,hgi,k3,e1,hqp])
  ·intro q s hq
   unfold cE at hq;split at hq
   ·rename_i e
    cases hq;refine⟨{ e0 with key:=.int .u32 (p:Int),val:=.agg #[] },List.mem_iff_getElem?.2 ⟨j,by rw[Array.getElem?_toList,hget,if_pos rfl]⟩,by rw[e],rfl⟩
   ·rename_i hqp
    obtain⟨e,he,e1,e2⟩:=h4 q s hq;rw[List.mem_iff_getElem?] at he;obtain⟨i,hi⟩:=he;refine⟨e,List.mem_iff_getElem?.2 ⟨i,?_⟩,e1,e2⟩;rw[Array.getElem?_toList] at hi ⊢;rw[hget,if_neg,hi];intro hji;subst hji;rw[hj] at hi;cases hi;rw[k3] at e1;exact hqp (nJ e1).symm
theorem Tk.drop {w:World} {m c:Nat} {f:Nat→Option Unit} (h:Tk w m f c) (p:Nat) (ty:TypeId):
  ∃ w',(Builtin.delete_ #[111,41] ty #[.map (some m),.int .u32 (p:Int)]).run Tryz.prog w=.ok (.tuple #[]) w'∧Tk w' m (cE f p none) (if(f p).isSome=true then c - 1 else c)∧bC (fun k=>k=m) w w'∧w'.heap.size=w.heap.size:=by
 obtain⟨es,cl,h1,h2,h3,h4⟩:=h;have hk:MapKept.IsKey (.int .u32) (.int .u32 (p:Int)):=rfl
 have hks:∀ e∈es.toList,MapKept.IsKey (.int .u32) e.key:=fun e he=>by
  obtain⟨q,t,e1,_⟩:=h3 e he;rw[e1];rfl
 rcases MapKept.findNow_spec hk es.toList 0 hks with⟨k1,k2⟩|⟨j,e0,k1,k2,k3⟩
 ·have hnone:f p=none:=by
   cases hf:f p with
   |none=>rfl
   |some t=>
    obtain⟨e,he,e1,_⟩:=h4 p t hf;exact absurd e1 (k2 e he)
  have fk:=MapKept.run_findKey (w:=w) Tryz.underlying41 k1;refine⟨setBlock w m (.map es cl),?_,⟨_,_,ki h1,⟨h2.1,by rw[hnone,h2.2];rfl⟩,?_,?_⟩,bC.setBlock _ _ _ rfl,by simp[ChangeMaps.setBlock]⟩
  ·simp[Builtin.delete_,run_underlying Tryz.underlying111,MapKept.run_getObj_map h1,MapKept.run_checkKey Tryz.underlying41 hk _ 9999,fk,MapKept.run_setObj_map _ h1,Result.andThen,setBlock]
  ·intro e he
   obtain⟨q,s,e1,e2,e3⟩:=h3 e he;exact⟨q,s,e1,e2,by unfold cE;rw[if_neg fun hqp=>k2 e he (by rw[e1,hqp]),e3]⟩
  ·intro q s hq
   unfold cE at hq;split at hq
   ·cases hq
   ·exact h4 q s hq
 ·have hsome:f p=some ():=by
   obtain⟨q,t,e1,e2,e3⟩:=h3 e0 (List.mem_of_getElem? k2);have hq:q=p:=by rw[k3] at e1;exact(nJ e1).symm
   rw[←hq];exact e3
  have fk:=MapKept.run_findKey (w:=w) Tryz.underlying41 k1;have hj:es[j]? =some e0:=by rw[←Array.getElem?_toList];exact k2
  have hjl:j<es.size:=(zi hj).1;have hgj:es[j]=e0:=(zi hj).2;have hdis:=((MapKept.stamped_iff es cl).1 h2.1).2.2;rw[List.pairwise_iff_getElem] at hdis
  have hsub:(es.eraseIdxIfInBounds j).toList=es.toList.eraseIdx j:=by
   unfold Array.eraseIdxIfInBounds;rw[dif_pos hjl];simp
  refine⟨setBlock w m (.map (es.eraseIdxIfInBounds j) cl),?_,⟨_,_,ki h1,⟨MapKept.stamped_erase h2.1 j,by rw[hsome,←Array.length_toList,hsub,List.length_eraseIdx,if_pos (by simpa using hjl),Array.length_toList,h2.2];rfl⟩,?_,?_⟩,bC.setBlock _ _ _ rfl,by simp[ChangeMaps.setBlock]⟩
  ·simp[Builtin.delete_,run_underlying Tryz.underlying111,MapKept.run_getObj_map h1,MapKept.run_checkKey Tryz.underlying41 hk _ 9999,fk,MapKept.run_setObj_map _ h1,Result.andThen,setBlock]
  ·intro e he
   rw[hsub,List.mem_eraseIdx_iff_getElem] at he;obtain⟨i,hi,hne,hie⟩:=he;have hm:e∈es.toList:=by rw[←hie];exact List.getElem_mem _
   obtain⟨q,s,e1,e2,e3⟩:=h3 e hm;refine⟨q,s,e1,e2,?_⟩;unfold cE;rw[if_neg fun hqp=>?_,e3];have hjl':j<es.toList.length:=by simpa using hjl
   rcases Nat.lt_or_gt_of_ne hne with hlt|hlt
   ·exact hdis i j hi hjl' hlt (by rw[hie,e1,hqp];simp only[Array.getElem_toList];rw[hgj,k3])
   ·exact hdis j i hjl' hi hlt (by rw[hie,e1,hqp];simp only[Array.getElem_toList];rw[hgj,k3])
  ·intro q s hq
   unfold cE at hq;split at hq
   ·cases hq
   ·rename_i hqp
    obtain⟨e,he,e1,e2⟩:=h4 q s hq;refine⟨e,?_,e1,e2⟩;rw[hsub,List.mem_eraseIdx_iff_getElem];rw[List.mem_iff_getElem] at he;obtain⟨i,hi,hie⟩:=he;refine⟨i,hi,fun hij=>hqp ?_,hie⟩;subst hij;rw[Array.getElem_toList,hgj] at hie;rw[←hie,k3] at e1;exact(nJ e1).symm
end Rv
namespace Rd
open Go.RowKit
theorem info5:(Tryz.prog.info? 5).map (fun i=>(i.zero,i.size,i.bytes))=some (some (.int .u8 0),1,1):=uk
theorem zox (n:Nat):strOfNums (List.replicate n 0)=zs n:=by
 unfold strOfNums zs;rw[List.map_replicate];rfl
theorem zeC (n:Nat) (hn:n≤1000000) (w:World):
  Calls Tryz.prog 58 #[.int .i64 (n:Int)] w fun e w'=>e=.returned (.string (zs n))∧Below w.heap.size w w':=by
 have hmk:=run_make_row' (P:=Tryz.prog) 140 5 (.int .u8 0) 1 Tryz.underlying140 info5 rfl .i64 .i64 n uo uo w
 have hcv:(convert 140 9 (.slice (some ⟨w.heap.size,0,none⟩) n n)).run Tryz.prog (w.alloc (.cells (madeCells #[.int .u8 0] n) 5))=.ok (.string (zs n)) (w.alloc (.cells (madeCells #[.int .u8 0] n) 5)):=by
  rw[←zox];refine run_convert_bytes_arg _ 140 5 Tryz.underlying140 Tryz.underlying5 w.heap.size 0 n n _ us (fun i hi=>?_) 9 Tryz.underlying9;rw[Nat.zero_add,zr (zq w _)];simp[madeCells,hi,Nat.mod_one,List.getD]
 have B1:Hid (Below w.heap.size w (w.alloc (.cells (madeCells #[.int .u8 0] n) 5))):=bF w _;obtain⟨W,hW⟩:∃ W,w.alloc (.cells (madeCells #[.int .u8 0] n) 5)=W:=⟨_,rfl⟩;rw[hW] at hmk hcv B1;clear hW;generalize hz:zs n=z at*
 go_enter Tryz.func58,Tryz.ntmps58;go_wp2_with fail;go_ret;exact⟨rfl,B1.o⟩
def Tx (w:World) (g n:Nat) (f:Nat→ByteArray):Prop:=∃ cs,w.heap[g]? =some (.cells cs 9 (0,0))∧n≤cs.size∧∀ i,i<n→cs[i]? =some (.string (f i))
def Bl (w:World) (g n:Nat) (f:Nat→Bool):Prop:=∃ cs,w.heap[g]? =some (.cells cs 4 (0,0))∧n≤cs.size∧∀ i,i<n→cs[i]? =some (.bool (f i))
theorem Tx.lt {w:World} {g n:Nat} {f:Nat→ByteArray} (h:Tx w g n f):g<w.heap.size:=by
 obtain⟨cs,h1,h2⟩:=h;exact(zi h1).1
theorem Bl.lt {w:World} {g n:Nat} {f:Nat→Bool} (h:Bl w g n f):g<w.heap.size:=by
 obtain⟨cs,h1,h2⟩:=h;exact(zi h1).1
theorem Tx.same {w w':World} {g n:Nat} {f:Nat→ByteArray} (h:Tx w g n f) (e:w'.heap[g]? =w.heap[g]?):Tx w' g n f:=by
 obtain⟨cs,h1,h2⟩:=h;exact⟨cs,e.trans h1,h2⟩
theorem Bl.same {w w':World} {g n:Nat} {f:Nat→Bool} (h:Bl w g n f) (e:w'.heap[g]? =w.heap[g]?):Bl w' g n f:=by
 obtain⟨cs,h1,h2⟩:=h;exact⟨cs,e.trans h1,h2⟩
structure Rp where
 l:Nat
 p:Nat
 b:Nat
 lc:Nat
 pc:Nat
 bc:Nat
def pend (f:Nat→Option ByteArray) (i:Nat):ByteArray:=(f i).getD ⟨#[]⟩
def lft (s:St):Int:=if s.cut then s.left else -1
def zpK (x:Rp) (s:St):Array Value:=#[.slice (some ⟨x.l,0,none⟩) s.n x.lc,.slice (some ⟨x.p,0,none⟩) s.n x.pc,.slice (some ⟨x.b,0,none⟩) s.n x.bc,.int .u64 s.cnt,.string s.tag,.int .u32 s.boots,.int .i64 (lft s),.bool s.ended]
structure Rf (w:World) (r:Nat) (x:Rp) (s:St):Prop where
 self:w.heap[r]? =some (.cells (zpK x s) 110 (0,0))
 rl:Tx w x.l s.n s.tx
 rp:Tx w x.p s.n (pend s.pd)
 rb:Bl w x.b s.n s.bad
 n1:r≠x.l
 n2:r≠x.p
 n3:r≠x.b
 n4:x.l≠x.p
 n5:x.l≠x.b
 n6:x.p≠x.b
def Rv (r:Nat) (x:Rp) (k:Nat):Prop:=k=r∨k=x.l∨k=x.p∨k=x.b
theorem Rf.lt {w:World} {r:Nat} {x:Rp} {s:St} (h:Rf w r x s):r<w.heap.size∧x.l<w.heap.size∧x.p<w.heap.size∧x.b<w.heap.size:=
 ⟨(zi h.self).1,h.rl.lt,h.rp.lt,h.rb.lt⟩
theorem Rf.same {w w':World} {r:Nat} {x:Rp} {s:St} (h:Rf w r x s) (e:∀ k,Rv r x k→w'.heap[k]? =w.heap[k]?):Rf w' r x s:=
 ⟨(e _ (.inl rfl)).trans h.self,h.rl.same (e _ (.inr (.inl rfl))),h.rp.same (e _ (.inr (.inr (.inl rfl)))),h.rb.same (e _ (.inr (.inr (.inr rfl)))),h.n1,h.n2,h.n3,h.n4,h.n5,h.n6⟩
theorem Rf.own {w:World} {r:Nat} {x:Rp} {s:St} (h:Rf w r x s) {k:Nat} (hk:Rv r x k):k<w.heap.size:=by
 have:=h.lt;rcases hk with rfl|rfl|rfl|rfl<;>omega
theorem Rf.below {w w':World} {r B:Nat} {x:Rp} {s:St} (h:Rf w r x s) (k:Below B w w') (hB:w.heap.size≤B):Rf w' r x s:=
 h.same fun j hj=>k.block j (by have:=h.own hj;omega)
end Rd
end Go.Proofs.YtokfnghckpgjmaaGreatDoor
