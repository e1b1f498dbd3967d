/- Rows, boxes and numbers that are handed in. -/
import Derived.Test.YtokfnghckpgjmaaGreatDoorQCK
import Derived.Deep.SlicePairs
import Derived.OpenShut
set_option maxRecDepth 100000
set_option maxHeartbeats 1000000
namespace Go.Proofs.YtokfnghckpgjmaaGreatDoor
section
theorem own:ownKnob Tryz.prog.godebug=none:=by kernel_rfl
namespace Rq
open Go.RowKit Go.ChangeShapes Go.WideShapes Go.ChangeAt Go.Deep
open Rc
theorem zgW:Tryz.prog.cellsOf 41=1:=by kernel_rfl
theorem zov:Tryz.prog.cellsOf 42=1:=by kernel_rfl
theorem zks:Tryz.prog.cellsOf 9=1:=by kernel_rfl
theorem zmy:Tryz.prog.cellsOf 79=4:=by kernel_rfl
theorem wf32 {n:Int} (h:(Lit.int .u32 n).wf=true):∃ m:Nat,n=(m:Int)∧m<4294967296:=by
 simp only[Lit.wf,IntKind.min,IntKind.max,IntKind.signed,IntKind.bits,Bool.and_eq_true] at h;simp at h;exact⟨n.toNat,by omega,by omega⟩
theorem wf64 {n:Int} (h:(Lit.int .u64 n).wf=true):∃ m:Nat,n=(m:Int)∧m<18446744073709551616:=by
 simp only[Lit.wf,IntKind.min,IntKind.max,IntKind.signed,IntKind.bits,Bool.and_eq_true] at h;simp at h;exact⟨n.toNat,by omega,by omega⟩
theorem zfV {H:Type} {enc:TypeId × Value→H} {W:World} {fuel:Nat} {cs:List Value} {x:DataW H × List MemPlace} (h:DataW.trod enc Tryz.prog W 0 (fun _=>true) true fuel 79 cs=some x) (hl:cs.length=4):∃ r:Rw,cs=rc r∧zbd r:=by
 obtain⟨xs,n,_,rfl,_,hxs,hf⟩:=DataW.trod_struct Tryz.underlying79 h;have g0:DataW.trod enc Tryz.prog W 0 (fun _=>true) true n 42 ((cs.drop 0).take (Tryz.prog.cellsOf 42))=xs[0]? :=hf 0 _ rfl;have g1:DataW.trod enc Tryz.prog W 0 (fun _=>true) true n 41 ((cs.drop 1).take (Tryz.prog.cellsOf 41))=xs[1]? :=hf 1 _ rfl;have g2:DataW.trod enc Tryz.prog W 0 (fun _=>true) true n 41 ((cs.drop 2).take (Tryz.prog.cellsOf 41))=xs[2]? :=hf 2 _ rfl;have g3:DataW.trod enc Tryz.prog W 0 (fun _=>true) true n 9 ((cs.drop 3).take (Tryz.prog.cellsOf 9))=xs[3]? :=hf 3 _ rfl;simp only[zgW,zov,zks] at g0 g1 g2 g3
 obtain⟨v0,v1,v2,v3,rfl⟩:∃ v0 v1 v2 v3,cs=[v0,v1,v2,v3]:=by
  match cs,hl with
  |[v0,v1,v2,v3],_=>exact⟨v0,v1,v2,v3,rfl⟩
 obtain⟨x0,x1,x2,x3,rfl⟩:∃ x0 x1 x2 x3,xs=[x0,x1,x2,x3]:=by
  match xs,hxs with
  |[x0,x1,x2,x3],_=>exact⟨x0,x1,x2,x3,rfl⟩
 simp at g0 g1 g2 g3;obtain⟨a0,e0,_,u0⟩:=DataW.trod_int Tryz.underlying42 g0;obtain⟨a1,e1,_,u1⟩:=DataW.trod_int Tryz.underlying41 g1;obtain⟨a2,e2,_,u2⟩:=DataW.trod_int Tryz.underlying41 g2;obtain⟨a3,e3,_,u3⟩:=DataW.trod_string Tryz.underlying9 g3;obtain⟨m0,rfl,b0⟩:=wf64 u0;obtain⟨m1,rfl,b1⟩:=wf32 u1;obtain⟨m2,rfl,b2⟩:=wf32 u2;cases e0;cases e1;cases e2;cases e3
 exact⟨⟨m0,m1,m2,a3⟩,rfl,b0,b1,b2⟩
theorem rows_of_arg {H:Type} {enc:TypeId × Value→H} {W:World} {o:Option Addr} {n c:Nat} {d:DataW H} {p:List MemPlace} (h:DataW.Trod enc Tryz.prog W 0 (fun _=>true) true 22 (.slice o n c) d p) (hlt:∀ x∈p,x.block<W.heap.size):
  ∃ l:List Rw,n=l.length∧zac W o c l∧∀ r∈l,zbd r:=by
 obtain⟨fuel,hf⟩:=h;rcases DataW.trod_slice Tryz.underlying22 hf with⟨hcs,hx⟩|⟨a,len,cap,elems,rest,n',_,hcs,hx,hb,hl,hm,hlen,hel,_,_⟩
 ·simp[Value.cells] at hcs
  obtain⟨rfl,rfl,rfl⟩:=hcs;exact⟨[],rfl,Sl.nil 4 W,fun r hr=>by simp at hr⟩
 ·simp[Value.cells] at hcs
  obtain⟨rfl,rfl,rfl⟩:=hcs;simp only[Prod.mk.injEq] at hx;obtain⟨rfl,rfl⟩:=hx;rw[zmy] at hel hlt;by_cases hn0:n=0
  ·subst hn0
   exact⟨[],rfl,⟨by simp,hm,(fun e=>by cases e),rfl,fun h=>absurd h (by simp)⟩,fun r hr=>by simp at hr⟩
  have each:∀ i,i<n→∃ cs y,W.cells? 0 (a.add (i*4)) 4=some cs∧DataW.trod enc Tryz.prog W 0 (fun _=>true) true n' 79 cs=some y:=by
   intro i hi;have h1:=hel i hi;have h2:elems[i]? =some elems[i]:=List.getElem?_eq_getElem (by omega);rw[h2,Option.bind_eq_some_iff] at h1;obtain⟨cs,e1,e2⟩:=h1;exact⟨cs,_,e1,e2⟩
  obtain⟨ab,off,spot⟩:=a
  have hspot:spot=none:=by
   obtain⟨cs,y,e1,_⟩:=each 0 (by omega);obtain⟨_,hcl,hce⟩:=World.cells?_some e1;have h0:=hce 0 (by omega);rw[List.getElem?_eq_getElem (by omega)] at h0;simpa [Addr.add] using World.cell?_spot h0
  subst hspot;have hadd (k:Nat) (o2:Nat):(⟨ab,o2,none⟩:Addr).add k=⟨ab,o2+k,none⟩:=by unfold Addr.add;split<;>simp_all
  have hbW:ab<W.heap.size:=hlt (.cell ab off) (by rw[List.mem_append];exact .inl (MemPlace.mem_row.2 ⟨0,by omega,by simp⟩))
  have all:∀ i,∃ r:Rw,i<n→zbd r∧∀ j u,(rc r)[j]? =some u→W.cell? ⟨ab,off+i*4+j,none⟩=some u:=by
   intro i;by_cases hi:i<n
   ·obtain⟨cs,y,e1,e2⟩:=each i hi
    obtain⟨_,hcl,hce⟩:=World.cells?_some e1;obtain⟨r,rfl,ok⟩:=zfV e2 hcl;refine⟨r,fun _=>⟨ok,fun j u hu=>?_⟩⟩;have hj:j<4:=(List.getElem?_eq_some_iff.1 hu).1;have:=hce j hj;rw[hadd,hadd,hu] at this;exact this
   ·exact⟨⟨0,0,0,⟨#[]⟩⟩,fun h=>absurd h hi⟩
  obtain⟨f,hf⟩:=Classical.axiomOfChoice all;have hlen2:((List.range n).map f).length=n:=by simp
  refine⟨(List.range n).map f,hlen2.symm,⟨by rw[hlen2];exact hl,hm,(fun e=>by cases e),zcx rc 4 (fun _=>rfl) _,fun _=>⟨ab,off,rfl,hbW,fun j u hu=>?_⟩⟩,fun r hr=>?_⟩
  ·have hj:=(List.getElem?_eq_some_iff.1 hu).1
   rw[zcx rc 4 (fun _=>rfl),hlen2] at hj;have hi:j/4<n:=by omega
   have e:j=j/4*4+j%4:=by omega
   have g:=flat_get rc 4 (fun _=>rfl) ((List.range n).map f) (j/4) (f (j/4)) (by simp[hi]) (j%4) (by omega);rw[←e,hu] at g;have:=(hf (j/4) hi).2 (j%4) u g.symm;rw[show off+j/4*4+j%4=off+j by omega] at this;exact this
  ·obtain⟨i,hi,rfl⟩:=List.mem_map.1 hr
   exact(hf i (by simpa using hi)).1
end Rq
end
end Go.Proofs.YtokfnghckpgjmaaGreatDoor
