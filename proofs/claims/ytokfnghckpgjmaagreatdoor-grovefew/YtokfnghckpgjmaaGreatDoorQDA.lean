/- A device's state, in plain terms; how it lies in memory; what a call leaves as it was. -/
import Derived.Test.YtokfnghckpgjmaaGreatDoorPPo
import Derived.Test.YtokfnghckpgjmaaGreatDoorRows
import Derived.WalkSpells
import Derived.WalkLawsBesides
import Derived.RangeFuncNested
import Derived.RangeFuncBound
import Derived.Shelf.RegionOpen
import Derived.OwnWalkIn
import Derived.LoopNIn
import Derived.LoopIn
import Derived.Deep.MidRow
import Derived.Test.YtokfnghckpgjmaaGreatDoorPPk
import Derived.Test.YtokfnghckpgjmaaGreatDoorPPm
set_option maxRecDepth 100000
set_option maxHeartbeats 1000000
namespace Go.Proofs.YtokfnghckpgjmaaGreatDoor
namespace Rd
open Go.RowKit
open Go.ChangeMaps (setBlock)
def bu:Value→Nat|.int _ x=>x.toNat|_=>0
theorem bF (w:World) (o:Obj):Below w.heap.size w (w.alloc o):=(Below.refl _ w).alloc zn _
structure bC (S:Nat→Prop) (w w':World):Prop where
 os:w'.os=w.os
 tape:w'.tape=w.tape
 output:w'.output=w.output
 size:w.heap.size≤w'.heap.size
 block:∀ k,k<w.heap.size→¬S k→w'.heap[k]? =w.heap[k]?
theorem bC.refl (S:Nat→Prop) (w:World):bC S w w:=⟨rfl,rfl,rfl,Nat.le_refl _,fun _ _ _=>rfl⟩
theorem bC.trans {S:Nat→Prop} {a b c:World} (h:bC S a b) (k:bC S b c):bC S a c:=
 ⟨k.os.trans h.os,k.tape.trans h.tape,k.output.trans h.output,Nat.le_trans h.size k.size,fun i hi hs=>(k.block i (Nat.lt_of_lt_of_le hi h.size) hs).trans (h.block i hi hs)⟩
theorem bC.of_below {S:Nat→Prop} {w w':World} (h:Below w.heap.size w w'):bC S w w':=⟨h.os,h.tape,h.output,h.size,fun k hk _=>h.block k hk⟩
theorem bC.more {S S':Nat→Prop} {w w':World} (h:bC S w w') (hs:∀ k,S k→S' k):bC S' w w':=⟨h.os,h.tape,h.output,h.size,fun k hk hn=>h.block k hk fun e=>hn (hs k e)⟩
theorem bC.below {S:Nat→Prop} {w w':World} {B:Nat} (h:bC S w w') (hs:∀ k,S k→B≤k) (hB:B≤w.heap.size):Below B w w':=
 ⟨h.os,h.tape,h.output,h.size,fun k hk=>h.block k uo fun e=>by have:=hs k e;omega⟩
theorem bC.set {S:Nat→Prop} (w:World) (b i:Nat) (v:Value) (hb:S b):bC S w (w.setCell ⟨b,i,none⟩ v):=
 ⟨rfl,rfl,rfl,by simp[World.setCell],fun k _ hn=>Below.heap_setCell _ _ _ _ fun e=>hn (by simp only at e;rw[e];exact hb)⟩
theorem bC.setBlock {S:Nat→Prop} (w:World) (b:Nat) (o:Obj) (hb:S b):bC S w (setBlock w b o):=
 ⟨rfl,rfl,rfl,by simp[ChangeMaps.setBlock],fun k _ hn=>by
  simp only[ChangeMaps.setBlock,Array.getElem?_setIfInBounds];rw[if_neg fun e=>hn (by rw[←e];exact hb)]⟩
theorem ki {w:World} {b:Nat} {o o':Obj} (h:w.heap[b]? =some o):(setBlock w b o').heap[b]? =some o':=by
 have:=(zi h).1;simp only[ChangeMaps.setBlock,Array.getElem?_setIfInBounds];simp[this]
structure St where
 n:Nat
 tx:Nat→ByteArray
 bad:Nat→Bool
 pd:Nat→Option ByteArray
 ended:Bool
 cut:Bool
 left:Int
 cnt:Int
 tag:ByteArray
 boots:Int
structure Ok (s:St):Prop where
 n0:4≤s.n
 n1:s.n≤4096
 tx:∀ p,p<s.n→(s.tx p).size=256
 pd:∀ p t,s.pd p=some t→p<s.n∧t.size=256
 l0:-9223372036854775808≤s.left
 l1:s.left≤9223372036854775807
 lc:s.cut=true→0≤s.left
 c0:0≤s.cnt
 c1:s.cnt≤18446744073709551615
 b0:0≤s.boots
 b1:s.boots≤4294967295
def Pm (w:World) (m:Nat) (f:Nat→Option ByteArray):Prop:=
 ∃ es clock,w.heap[m]? =some (.map es clock)∧MapKept.Stamped es clock∧
  (∀ e∈es.toList,∃ (p:Nat) (t:ByteArray),e.key=.int .u32 (p:Int)∧e.val=.agg #[.string t]∧f p=some t)∧
  (∀ p t,f p=some t→∃ e∈es.toList,e.key=.int .u32 (p:Int)∧e.val=.agg #[.string t])
theorem Pm.same {w w':World} {m:Nat} {f:Nat→Option ByteArray} (h:Pm w m f) (e:w'.heap[m]? =w.heap[m]?):Pm w' m f:=by
 obtain⟨es,c,h1,h2⟩:=h;exact⟨es,c,e.trans h1,h2⟩
theorem Pm.lt {w:World} {m:Nat} {f:Nat→Option ByteArray} (h:Pm w m f):m<w.heap.size:=by
 obtain⟨es,c,h1,h2⟩:=h;exact(zi h1).1
theorem Pm.made (w:World):Pm (w.alloc (.map #[] 0)) w.heap.size (fun _=>none):=
 ⟨#[],0,zq w _,MapKept.stamped_empty 0,by simp,by simp⟩
theorem Pm.look {w:World} {m:Nat} {f:Nat→Option ByteArray} (h:Pm w m f) (p:Nat) (c:Bool):
  (Instr.lookup 106 (.map (some m)) (.int .u32 (p:Int)) c).run Tryz.prog w=.ok (if c then .tuple #[.agg #[.string ((f p).getD ⟨#[]⟩)],.bool (f p).isSome] else .agg #[.string ((f p).getD ⟨#[]⟩)]) w:=by
 obtain⟨es,cl,h1,h2,h3,h4⟩:=h;have hk:MapKept.IsKey (.int .u32) (.int .u32 (p:Int)):=rfl
 have hks:∀ e∈es.toList,MapKept.IsKey (.int .u32) e.key:=fun e he=>by
  obtain⟨q,t,e1,_⟩:=h3 e he;rw[e1];rfl
 have hz:(zeroValue 158).run Tryz.prog w=.ok (.agg #[.string ⟨#[]⟩]) w:=Tryz.zeroValue158 w;rcases MapKept.findNow_spec hk es.toList 0 hks with⟨k1,k2⟩|⟨j,e0,k1,k2,k3⟩
 ·have hf:f p=none:=by
   cases hf:f p with
   |none=>rfl
   |some t=>
    obtain⟨e,he,e1,_⟩:=h4 p t hf;exact absurd e1 (k2 e he)
  rw[hf];have fk:=MapKept.run_findKey (w:=w) Tryz.underlying41 k1;simp only[Instr.lookup,Sem.run_bind,run_underlying Tryz.underlying106,MapKept.run_getObj_map h1,MapKept.run_checkKey Tryz.underlying41 hk _ 9999,fk,hz,Result.andThen,Sem.run_pure];rfl
 ·have hm0:e0∈es.toList:=List.mem_of_getElem? k2
  obtain⟨q,t,e1,e2,e3⟩:=h3 e0 hm0;have hq:q=p:=by rw[k3] at e1;simp at e1;omega
  subst hq;rw[e3];have fk:=MapKept.run_findKey (w:=w) Tryz.underlying41 k1;rw[e2] at fk;simp only[Instr.lookup,Sem.run_bind,run_underlying Tryz.underlying106,MapKept.run_getObj_map h1,MapKept.run_checkKey Tryz.underlying41 hk _ 9999,fk,Result.andThen,Sem.run_pure];rfl
def put (f:Nat→Option ByteArray) (p:Nat) (t:Option ByteArray):Nat→Option ByteArray:=fun q=>if q=p then t else f q
theorem nJ {p q:Nat} (h:Value.int .u32 (p:Int)=Value.int .u32 (q:Int)):p=q:=by simp at h;omega
theorem Pm.update {w:World} {m:Nat} {f:Nat→Option ByteArray} (h:Pm w m f) (p:Nat) (t:ByteArray):
  ∃ w',(Instr.mapUpdate 106 (.map (some m)) (.int .u32 (p:Int)) (.agg #[.string t])).run Tryz.prog w=.ok () w'∧Pm w' m (put f p (some t))∧bC (fun k=>k=m) w w'∧w'.heap.size=w.heap.size:=by
 obtain⟨es,cl,h1,h2,h3,h4⟩:=h;have hk:MapKept.IsKey (.int .u32) (.int .u32 (p:Int)):=rfl
 have hks:∀ e∈es.toList,MapKept.IsKey (.int .u32) e.key:=fun e he=>by
  obtain⟨q,t,e1,_⟩:=h3 e he;rw[e1];rfl
 rcases MapKept.findNow_spec hk es.toList 0 hks with⟨k1,k2⟩|⟨j,e0,k1,k2,k3⟩
 ·have fk:=MapKept.run_findKey (w:=w) Tryz.underlying41 k1
  refine⟨setBlock w m (.map (es.push ⟨.int .u32 (p:Int),.agg #[.string t],cl⟩) (cl+1)),?_,⟨_,_,ki h1,MapKept.stamped_push h2 k2,?_,?_⟩,bC.setBlock _ _ _ rfl,by simp[ChangeMaps.setBlock]⟩
  ·simp only[Instr.mapUpdate,Sem.run_bind,run_underlying Tryz.underlying106,MapKept.run_getObj_map h1,MapKept.run_checkKey Tryz.underlying41 hk _ 9999,fk,Result.andThen,MapKept.run_setObj_map _ h1]
   rfl
  ·intro e he
   rw[Array.toList_push,List.mem_append] at he;rcases he with he|he
   ·obtain⟨q,s,e1,e2,e3⟩:=h3 e he
    refine⟨q,s,e1,e2,?_⟩;unfold put;rw[if_neg fun hqp=>k2 e he (by rw[e1,hqp]),e3]
   ·simp at he
    subst he;exact⟨p,t,rfl,rfl,by simp[put]⟩
  ·intro q s hq
   unfold put at hq;rw[Array.toList_push];split at hq
   ·rename_i e
    cases hq;exact⟨_,List.mem_append.2 (.inr (by simp;rfl)),by rw[e],rfl⟩
   ·obtain⟨e,he,e1⟩:=h4 q s hq
    exact⟨e,List.mem_append.2 (.inl he),e1⟩
 ·have fk:=MapKept.run_findKey (w:=w) Tryz.underlying41 k1
  have hj:es[j]? =some e0:=by rw[←Array.getElem?_toList];exact k2
  have hjl:j<es.size:=(zi hj).1;have hgj:es[j]=e0:=(zi hj).2
  have hget:∀ i,(es.modify j fun e=>{ e with key:=.int .u32 (p:Int),val:=.agg #[.string t] })[i]? =if j=i then some { e0 with key:=.int .u32 (p:Int),val:=.agg #[.string t] } else es[i]? :=by
   intro i;rw[Array.getElem?_modify];split
   ·rename_i e;subst e;rw[hj];rfl
   ·rfl
  have hdis:=(MapKept.stamped_iff es cl).1 h2;refine⟨setBlock w m (.map (es.modify j fun e=>{ e with key:=.int .u32 (p:Int),val:=.agg #[.string t] }) cl),?_,⟨_,_,ki h1,MapKept.stamped_modify h2 j _ (fun _ _=>rfl) (fun e _ he=>?_),?_,?_⟩,bC.setBlock _ _ _ rfl,by simp[ChangeMaps.setBlock]⟩
  ·simp only[Instr.mapUpdate,Sem.run_bind,run_underlying Tryz.underlying106,MapKept.run_getObj_map h1,MapKept.run_checkKey Tryz.underlying41 hk _ 9999,fk,Result.andThen,Nat.zero_add,hj,Option.map_some,Option.getD_some,k3,MapKept.run_keyThatStays hk,MapKept.run_setObj_map _ h1]
   rfl
  ·rw[hj] at he;cases he;exact k3.symm
  ·intro e he
   rw[List.mem_iff_getElem?] at he;obtain⟨i,hi⟩:=he;rw[Array.getElem?_toList,hget] at hi;split at hi
   ·cases hi
    exact⟨p,t,rfl,rfl,by simp[put]⟩
   ·rename_i hne
    have hm:e∈es.toList:=by rw[List.mem_iff_getElem?];exact⟨i,by rw[Array.getElem?_toList];exact hi⟩
    obtain⟨q,s,e1,e2,e3⟩:=h3 e hm;refine⟨q,s,e1,e2,?_⟩;unfold put;rw[if_neg fun hqp=>?_,e3];have hil:i<es.size:=(zi hi).1;have hgi:es[i]=e:=(zi hi).2;have hp:=hdis.2.2;rw[List.pairwise_iff_getElem] at hp;rcases Nat.lt_or_gt_of_ne hne with hlt|hlt
    ·exact hp j i (by simpa using hjl) (by simpa using hil) hlt (by simp only[Array.getElem_toList];rw[hgj,hgi,k3,e1,hqp])
    ·exact hp i j (by simpa using hil) (by simpa using hjl) hlt (by simp only[Array.getElem_toList];rw[hgj,hgi,k3,e1,hqp])
  ·intro q s hq
   unfold put at hq;split at hq
   ·rename_i e
    cases hq;refine⟨{ e0 with key:=.int .u32 (p:Int),val:=.agg #[.string t] },List.mem_iff_getElem?.2 ⟨j,by rw[Array.getElem?_toList,hget,if_pos rfl]⟩,by rw[e],rfl⟩
   ·rename_i hqp
    obtain⟨e,he,e1,e2⟩:=h4 q s hq;rw[List.mem_iff_getElem?] at he;obtain⟨i,hi⟩:=he;refine⟨e,List.mem_iff_getElem?.2 ⟨i,?_⟩,e1,e2⟩;rw[Array.getElem?_toList] at hi ⊢;rw[hget,if_neg,hi];intro hji;subst hji;rw[hj] at hi;cases hi;rw[k3] at e1;exact hqp (nJ e1).symm
def Row (w:World) (b n:Nat) (tx:Nat→ByteArray) (bad:Nat→Bool):Prop:=
 ∃ cs,w.heap[b]? =some (.cells cs 116 (0,0))∧cs.size=n*2∧∀ p,p<n→cs[p*2]? =some (.string (tx p))∧cs[p*2+1]? =some (.bool (bad p))
def mO (b m:Nat) (s:St):Array Value:=#[.bool s.ended,.bool s.cut,.int .i64 s.left,.int .u64 s.cnt,.string s.tag,.int .u32 s.boots,.slice (some ⟨b,0,none⟩) s.n s.n,.map (some m)]
structure dT (w:World) (d b m:Nat) (s:St):Prop where
 self:w.heap[d]? =some (.cells (mO b m s) 108 (0,0))
 row:Row w b s.n s.tx s.bad
 map:Pm w m s.pd
 db:d≠b
 dm:d≠m
 bm:b≠m
def Dv (d b m k:Nat):Prop:=k=d∨k=b∨k=m
theorem Row.same {w w':World} {b n:Nat} {tx:Nat→ByteArray} {bad:Nat→Bool} (h:Row w b n tx bad) (e:w'.heap[b]? =w.heap[b]?):Row w' b n tx bad:=by
 obtain⟨cs,h1,h2⟩:=h;exact⟨cs,e.trans h1,h2⟩
theorem Row.lt {w:World} {b n:Nat} {tx:Nat→ByteArray} {bad:Nat→Bool} (h:Row w b n tx bad):b<w.heap.size:=by
 obtain⟨cs,h1,h2⟩:=h;exact(zi h1).1
theorem dT.lt {w:World} {d b m:Nat} {s:St} (h:dT w d b m s):d<w.heap.size∧b<w.heap.size∧m<w.heap.size:=
 ⟨(zi h.self).1,h.row.lt,h.map.lt⟩
theorem dT.same {w w':World} {d b m:Nat} {s:St} (h:dT w d b m s) (e1:w'.heap[d]? =w.heap[d]?) (e2:w'.heap[b]? =w.heap[b]?) (e3:w'.heap[m]? =w.heap[m]?):dT w' d b m s:=
 ⟨e1.trans h.self,h.row.same e2,h.map.same e3,h.db,h.dm,h.bm⟩
theorem dT.but {S:Nat→Prop} {w w':World} {d b m:Nat} {s:St} (h:dT w d b m s) (k:bC S w w') (n1:¬S d) (n2:¬S b) (n3:¬S m):dT w' d b m s:=
 h.same (k.block _ h.lt.1 n1) (k.block _ h.lt.2.1 n2) (k.block _ h.lt.2.2 n3)
theorem dT.below {w w':World} {d b m B:Nat} {s:St} (h:dT w d b m s) (k:Below B w w') (hB:w.heap.size≤B):dT w' d b m s:=
 h.same (k.block _ (by have:=h.lt;omega)) (k.block _ (by have:=h.lt;omega)) (k.block _ (by have:=h.lt;omega))
theorem gu (w:World) (b i:Nat) (cs:Array Value) (T:TypeId) (fr:Nat × Nat) (v:Value) (hb:w.heap[b]? =some (.cells cs T fr)):(w.setCell ⟨b,i,none⟩ v).heap[b]? =some (.cells (cs.setIfInBounds i v) T fr):=by
 have:=(zi hb);simp only[World.setCell,Array.getElem?_modify,hb];rfl
theorem Row.cells {w:World} {b n:Nat} {tx:Nat→ByteArray} {bad:Nat→Bool} (h:Row w b n tx bad) (p:Nat) (hp:p<n):
  w.cell? ⟨b,p*2,none⟩=some (.string (tx p))∧w.cell? ⟨b,p*2+1,none⟩=some (.bool (bad p))∧w.frozen? ⟨b,p*2,none⟩=false∧w.frozen? ⟨b,p*2+1,none⟩=false:=by
 obtain⟨cs,h1,h2,h3⟩:=h;obtain⟨e1,e2⟩:=h3 p hp;exact⟨by rw[zr h1,e1],by rw[zr h1,e2],frozen_of_row w _ _ _ _ h1,frozen_of_row w _ _ _ _ h1⟩
theorem dT.cell {w:World} {d b m:Nat} {s:St} (h:dT w d b m s) (i:Nat) (v:Value) (hv:(mO b m s)[i]? =some v):w.cell? ⟨d,i,none⟩=some v∧w.frozen? ⟨d,i,none⟩=false:=
 ⟨by rw[zr h.self,hv],frozen_of_row w _ _ _ _ h.self⟩
theorem dT.c0 {w:World} {d b m:Nat} {s:St} (h:dT w d b m s):w.cell? ⟨d,0,none⟩=some (.bool s.ended)∧w.frozen? ⟨d,0,none⟩=false:=h.cell 0 _ rfl
theorem dT.c1 {w:World} {d b m:Nat} {s:St} (h:dT w d b m s):w.cell? ⟨d,1,none⟩=some (.bool s.cut)∧w.frozen? ⟨d,1,none⟩=false:=h.cell 1 _ rfl
theorem dT.c2 {w:World} {d b m:Nat} {s:St} (h:dT w d b m s):w.cell? ⟨d,2,none⟩=some (.int .i64 s.left)∧w.frozen? ⟨d,2,none⟩=false:=h.cell 2 _ rfl
theorem dT.c6 {w:World} {d b m:Nat} {s:St} (h:dT w d b m s):w.cell? ⟨d,6,none⟩=some (.slice (some ⟨b,0,none⟩) s.n s.n)∧w.frozen? ⟨d,6,none⟩=false:=h.cell 6 _ rfl
theorem dT.c7 {w:World} {d b m:Nat} {s:St} (h:dT w d b m s):w.cell? ⟨d,7,none⟩=some (.map (some m))∧w.frozen? ⟨d,7,none⟩=false:=h.cell 7 _ rfl
theorem dT.setSelf {w:World} {d b m:Nat} {s:St} (h:dT w d b m s) (i:Nat) (v:Value) (s':St) (e:(mO b m s).setIfInBounds i v=mO b m s')
  (hn:s'.n=s.n) (h1:s'.tx=s.tx) (h2:s'.bad=s.bad) (h3:s'.pd=s.pd):dT (w.setCell ⟨d,i,none⟩ v) d b m s'∧bC (Dv d b m) w (w.setCell ⟨d,i,none⟩ v):=by
 refine⟨⟨?_,?_,?_,h.db,h.dm,h.bm⟩,bC.set _ _ _ _ (.inl rfl)⟩
 ·rw[←e];exact gu _ _ _ _ _ _ _ h.self
 ·rw[hn,h1,h2];exact h.row.same (Below.heap_setCell _ _ _ _ (by simpa using h.db.symm))
 ·rw[h3];exact h.map.same (Below.heap_setCell _ _ _ _ (by simpa using h.dm.symm))
def fw (s:St):Bool:= !(s.ended||(s.cut&&decide (s.left=0)))
def ee (s:St):St:=if fw s=true then { s with left:=if s.cut then s.left - 1 else s.left } else { s with ended:=true }
theorem znw {s:St} (h:Ok s):Ok (ee s):=by
 unfold ee;split
 ·rename_i ho
  refine⟨h.n0,h.n1,h.tx,h.pd,?_,?_,?_,h.c0,h.c1,h.b0,h.b1⟩
  ·have:=h.l0;have:=h.lc;simp only;split
   ·rename_i hc;have:=h.lc hc;omega
   ·omega
  ·have:=h.l1;simp only;split<;>omega
  ·intro hc
   have h0:=h.lc hc;simp only at hc ⊢;rw[if_pos hc]
   have:s.left≠0:=by
    intro e;simp[fw,hc,e] at ho
   omega
 ·exact⟨h.n0,h.n1,h.tx,h.pd,h.l0,h.l1,h.lc,h.c0,h.c1,h.b0,h.b1⟩
theorem rJ (s:St):(ee s).tx=s.tx∧(ee s).bad=s.bad∧(ee s).pd=s.pd∧(ee s).n=s.n∧(ee s).cnt=s.cnt∧(ee s).tag=s.tag∧(ee s).boots=s.boots:=by
 unfold ee;split<;>exact⟨rfl,rfl,rfl,rfl,rfl,rfl,rfl⟩
theorem zgJ (d b m:Nat) (s:St) (w:World) (h:dT w d b m s) (hk:Ok s):
  Calls Tryz.prog 139 #[.pointer (some ⟨d,0,none⟩)] w fun e w'=>e=.returned (.bool (fw s))∧dT w' d b m (ee s)∧bC (Dv d b m) w w':=by
 have c0:=h.c0;have c1:=h.c1;have c2:=h.c2;obtain⟨c0,z0⟩:=c0;obtain⟨c1,z1⟩:=c1;obtain⟨c2,z2⟩:=c2;have HD:Hid (dT w d b m s):=h;have HK:Hid (Ok s):=hk;have l0:=hk.l0;have l1:=hk.l1;clear h hk;obtain⟨n,tx,bad,pd,ended,cut,left,cnt,tag,boots⟩:=s;simp only at c0 c1 c2 l0 l1;go_enter Tryz.func139,Tryz.ntmps139;cases cut
 ·cases ended
  ·go_wp2_with fail
   go_ret;exact⟨rfl,HD.o,bC.refl _ _⟩
  ·go_wp2_with fail
   go_ret;exact⟨rfl,HD.o,bC.refl _ _⟩
 ·by_cases hl:left=0
  ·subst hl
   go_wp2_with fail;go_ret;have:=HD.o.setSelf 0 (.bool true) { n,tx,bad,pd,ended:=true,cut:=true,left:=0,cnt,tag,boots } rfl rfl rfl rfl rfl;refine⟨by cases ended<;>rfl,?_,this.2⟩;have e:ee { n,tx,bad,pd,ended,cut:=true,left:=0,cnt,tag,boots }={ n,tx,bad,pd,ended:=true,cut:=true,left:=0,cnt,tag,boots }:=by cases ended<;>rfl
   rw[e];exact this.1
  ·have q1:(left==0)=false:=by simpa using hl
   have hlp:0≤left:=HK.o.lc rfl;cases ended
   ·go_wp2_with fail
    go_ret;have:=HD.o.setSelf 2 (.int .i64 (left - 1)) { n,tx,bad,pd,ended:=false,cut:=true,left:=left - 1,cnt,tag,boots } rfl rfl rfl rfl rfl;refine⟨by simp[fw,hl],?_,this.2⟩;have e:ee { n,tx,bad,pd,ended:=false,cut:=true,left,cnt,tag,boots }={ n,tx,bad,pd,ended:=false,cut:=true,left:=left - 1,cnt,tag,boots }:=by simp[ee,fw,hl]
    rw[e];exact this.1
   ·go_wp2_with fail
    go_ret;exact⟨rfl,HD.o,bC.refl _ _⟩
abbrev pt (d:Nat):Value:=.pointer (some ⟨d,0,none⟩)
theorem oI (d b m:Nat) (s:St) (p:Nat) (hp:p≤4294967295) (w:World) (h:dT w d b m s) (hk:Ok s):
  Calls Tryz.prog 55 #[pt d,.int .u32 (p:Int)] w fun e w'=>e=.returned (.bool (decide (p<s.n)))∧w'=w:=by
 obtain⟨c6,z6⟩:=h.c6;have n1:=hk.n1;have HD:Hid (dT w d b m s):=h;clear h hk;obtain⟨k,tx,bad,pd,ended,cut,left,cnt,tag,boots⟩:=s;simp only at c6 n1;have hw:IntKind.u64.wrap (p:Int)=(p:Int):=IntWalk.u64_in _ uo;go_enter Tryz.func55,Tryz.ntmps55;go_wp2_with fail;go_ret;exact⟨by simp,rfl⟩
def fY (s:St) (p:Nat) (t:ByteArray):Bool:=decide (p<s.n)&&decide (t.size=256)
theorem zlZ (d b m:Nat) (s:St) (p:Nat) (hp':p≤4294967295) (t:ByteArray) (w:World) (h:dT w d b m s) (hk:Ok s):
  Calls Tryz.prog 57 #[pt d,.int .u32 (p:Int),.string t] w fun e w'=>e=.returned (.bool (fY s p t))∧w'=w:=by
 have HD:Hid (dT w d b m s):=h;have HK:Hid (Ok s):=hk;clear h hk;go_enter Tryz.func57,Tryz.ntmps57;go_wp2_with fail;refine(oI d b m s p hp' w HD.o HK.o).mono ?_;rintro e w1 ⟨rfl,rfl⟩;by_cases hp:p<s.n
 ·rw[decide_eq_true hp]
  go_wp2_with fail;go_ret;refine⟨?_,rfl⟩;unfold fY;rw[decide_eq_true hp,Bool.true_and]
  congr 2
  by_cases ht:t.size=256
  ·simp[ht]
  ·simp[ht];omega
 ·rw[decide_eq_false hp]
  go_wp2_with fail;go_ret;refine⟨?_,rfl⟩;unfold fY;rw[decide_eq_false hp,Bool.false_and];rfl
def pH (s:St) (p:Nat):ByteArray:=(s.pd p).getD (s.tx p)
theorem zjw (d b m:Nat) (s:St) (p:Nat) (hp:p<s.n) (w:World) (h:dT w d b m s) (hk:Ok s):
  Calls Tryz.prog 52 #[pt d,.int .u32 (p:Int)] w fun e w'=>e=.returned (.string (pH s p))∧Below w.heap.size w w':=by
 obtain⟨c6,z6⟩:=h.c6;obtain⟨c7,z7⟩:=h.c7;obtain⟨e1,e2,y1,y2⟩:=h.row.cells p hp;have hl:=h.map.look p true;have n1:=hk.n1;have HD:Hid (dT w d b m s):=h;have HS:Hid (pH s p=(s.pd p).getD (s.tx p)):=rfl;obtain⟨hd,hb,hm⟩:=h.lt;clear h hk;obtain⟨k,tx,bad,pd,ended,cut,left,cnt,tag,boots⟩:=s;simp only at c6 c7 e1 e2 hl HS n1 hp;have q1:(p:Int)<(k:Int):=uo
 have q0:(0:Int)≤(p:Int):=uo
 generalize tx p=t at*
 generalize pd p=f at*
 go_enter Tryz.func52,Tryz.ntmps52;cases f with
 |none=>
  simp only[Option.getD_none,Option.isSome_none,if_true] at hl;go_wp2_with fail;go_ret;exact⟨by rw[HS.o];rfl,bF w _⟩
 |some u=>
  simp only[Option.getD_some,Option.isSome_some,if_true] at hl;go_wp2_with fail;go_ret;exact⟨by rw[HS.o];rfl,bF w _⟩
theorem rK (d b m:Nat) (s:St) (w:World) (h:dT w d b m s):
  Calls Tryz.prog 54 #[pt d] w fun e w'=>e=.returned (.int .i64 (s.n:Int))∧w'=w:=by
 obtain⟨c6,z6⟩:=h.c6;clear h;obtain⟨k,tx,bad,pd,ended,cut,left,cnt,tag,boots⟩:=s;simp only at c6;go_enter Tryz.func54,Tryz.ntmps54;go_wp2_with fail;go_ret;exact⟨rfl,rfl⟩
def er (s:St) (p:Nat):Int:=if p<s.n then if s.ended then 71 else if s.bad p then 70 else 0 else 2
def dv (s:St) (p:Nat):ByteArray:=if er s p=0 then pH s p else⟨#[]⟩
theorem oJ (d b m:Nat) (s:St) (p:Nat) (hp':p≤4294967295) (w:World) (h:dT w d b m s) (hk:Ok s):
  Calls Tryz.prog 198 #[pt d,.int .u32 (p:Int)] w fun e w'=>e=.returned (.tuple #[.string (dv s p),.int .i64 (er s p)])∧Below w.heap.size w w':=by
 have HD:Hid (dT w d b m s):=h;have HK:Hid (Ok s):=hk;obtain⟨c0,z0⟩:=h.c0;obtain⟨c6,z6⟩:=h.c6;have hr:=h.row;clear h hk;go_enter Tryz.func198,Tryz.ntmps198;go_wp2_with fail;refine(oI d b m s p hp' w HD.o HK.o).mono ?_;rintro e w1 ⟨rfl,rfl⟩;by_cases hp:p<s.n
 ·rw[decide_eq_true hp]
  obtain⟨e1,e2,y1,y2⟩:=hr.cells p hp;have q1:(p:Int)<(s.n:Int):=uo
  have q0:(0:Int)≤(p:Int):=uo
  clear hr;cases he:s.ended
  ·cases hb:s.bad p
   ·have HE:Hid (er s p=0):=by refine(?_:er s p=0);simp[er,hp,he,hb]
    rw[he] at c0;rw[hb] at e2
    clear he hb;go_wp2_with fail;refine um (zjw d b m s p hp w1 HD.o HK.o) fun w2 b2=>?_;have B2:Hid _:=b2;clear b2;go_wp2_with fail;go_ret2;exact⟨by rw[HE.o,dv,if_pos HE.o];rfl,B2.o⟩
   ·have HE:Hid (er s p=70):=by refine(?_:er s p=70);simp[er,hp,he,hb]
    rw[he] at c0;rw[hb] at e2
    clear he hb;go_wp2_with fail;go_ret2;exact⟨by rw[dv,HE.o];rfl,Below.refl _ _⟩
  ·have HE:Hid (er s p=71):=by refine(?_:er s p=71);simp[er,hp,he]
   rw[he] at c0;clear he;go_wp2_with fail;go_ret2;exact⟨by rw[dv,HE.o];rfl,Below.refl _ _⟩
 ·rw[decide_eq_false hp]
  have HE:Hid (er s p=2):=by refine(?_:er s p=2);simp[er,hp]
  go_wp2_with fail;go_ret2;exact⟨by rw[dv,HE.o];rfl,Below.refl _ _⟩
def iF (s:St) (p:Nat) (t:ByteArray):Int:=if fY s p t then if fw s then 0 else 71 else 2
def dw (s:St) (p:Nat) (t:ByteArray):St:=if fY s p t then if fw s then { ee s with pd:=put s.pd p (some t) } else ee s else s
theorem zph {s:St} (h:Ok s) (p:Nat) (t:ByteArray) (hf:fY s p t=true):Ok { s with pd:=put s.pd p (some t) }:=by
 simp[fY] at hf;refine⟨h.n0,h.n1,h.tx,fun q u hu=>?_,h.l0,h.l1,h.lc,h.c0,h.c1,h.b0,h.b1⟩;simp only[put] at hu;split at hu
 ·rename_i e;cases hu;subst e;exact hf
 ·exact h.pd q u hu
theorem zjx {s:St} (h:Ok s) (p:Nat) (t:ByteArray):Ok (dw s p t):=by
 unfold dw;split
 ·rename_i hf
  split
  ·have h2:=zph (znw h) p t (by simpa [fY,(rJ s).2.2.2.1] using hf)
   rw[(rJ s).2.2.1] at h2;exact h2
  ·exact znw h
 ·exact h
theorem oK (d b m:Nat) (s:St) (p:Nat) (hp':p≤4294967295) (t:ByteArray) (w:World) (h:dT w d b m s) (hk:Ok s):
  Calls Tryz.prog 95 #[pt d,.int .u32 (p:Int),.string t] w fun e w'=>e=.returned (.int .i64 (iF s p t))∧dT w' d b m (dw s p t)∧bC (Dv d b m) w w':=by
 have HD:Hid (dT w d b m s):=h;have HK:Hid (Ok s):=hk;clear h hk;go_enter Tryz.func95,Tryz.ntmps95;go_wp2_with fail;refine(zlZ d b m s p hp' t w HD.o HK.o).mono ?_;rintro e w1 ⟨rfl,rfl⟩;cases hf:fY s p t
 ·have HE:Hid (iF s p t=2∧dw s p t=s):=by refine(?_:iF s p t=2∧dw s p t=s);simp[iF,dw,hf]
  go_wp2_with fail;go_ret;exact⟨by rw[HE.o.1];rfl,by rw[HE.o.2];exact HD.o,bC.refl _ _⟩
 ·have HF:Hid (fY s p t=true):=hf
  clear hf;go_wp2_with fail;refine(zgJ d b m s w1 HD.o HK.o).mono ?_;rintro e w2 ⟨rfl,d2,b2⟩;have D2:Hid _:=d2;have B2:Hid _:=b2;cases ho:fw s
  ·have HE:Hid (iF s p t=71∧dw s p t=ee s):=by refine(?_:iF s p t=71∧dw s p t=ee s);simp[iF,dw,HF.o,ho]
   clear d2 b2 ho;go_wp2_with fail;go_ret;exact⟨by rw[HE.o.1];rfl,by rw[HE.o.2];exact D2.o,B2.o⟩
  ·have HE:Hid (iF s p t=0∧dw s p t={ ee s with pd:=put s.pd p (some t) }):=by refine(?_:iF s p t=0∧dw s p t={ ee s with pd:=put s.pd p (some t) });simp[iF,dw,HF.o,ho]
   obtain⟨c7,z7⟩:=d2.c7;obtain⟨w3,hu,pm,b3,sz⟩:=d2.map.update p t;have HP:Hid _:=pm;have B3:Hid _:=b3;clear d2 b2 ho pm b3;go_wp2_with fail;go_ret;refine⟨by rw[HE.o.1];rfl,?_,B2.o.trans (B3.o.more fun k e=>.inr (.inr e))⟩;rw[HE.o.2];have hb:=B3.o;have hx:=D2.o;refine⟨(hb.block d hx.lt.1 hx.dm).trans hx.self,hx.row.same (hb.block b hx.lt.2.1 hx.bm),?_,hx.db,hx.dm,hx.bm⟩;rw[(rJ s).2.2.1] at HP;exact HP.o
end Rd
end Go.Proofs.YtokfnghckpgjmaaGreatDoor
