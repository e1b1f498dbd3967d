/- A number's bytes are put, the least first. -/
import Derived.Test.YtokfnghckpgjmaaGreatDoorPPo
import Derived.Test.YtokfnghckpgjmaaGreatDoorPPk
import Derived.Test.YtokfnghckpgjmaaGreatDoorQIA
import Derived.Sort.LoopGhostIn
import Derived.Test.YtokfnghckpgjmaaGreatDoorPPn
set_option maxRecDepth 100000
set_option maxHeartbeats 4000000
namespace Go.Proofs.YtokfnghckpgjmaaGreatDoor
namespace Rw
open Go.RowKit Go.Lib Go.Shelf
open Rc Rq
attribute [local go_sem] Oper.semAt_some
theorem od {F:Fence} {n:Nat} {P:Program} {o:Oper} {a:Act} {w:World} {K:Act→World→Prop} {Q:Exit→Act→World→Prop} (l:Nat) (b:∀ c,o.op≠ .defer c) (h:o.wpIn F n P a w K Q):o.wpIn (F.inRound l) n P a w K Q:=by
 unfold Oper.wpIn at h ⊢;refine⟨h.1,?_⟩;have d:=h.2;rw[Oper.semAt_plain F _ _ b] at d;rw[Oper.semAt_plain (F.inRound l) _ _ b];exact d
theorem og {F:Fence} {n:Nat} {P:Program} {b:Array Oper} {Q:Exit→Act→World→Prop} {i:Nat} {K g:Act→World→Prop} {a:Act} {w:World} (l:Nat) (k:∀ o∈b,∀ c,o.op≠ .defer c)
  (m:∀ a w,K a w→g a w) (h:wpOpIn F n P b Q i K a w):wpOpIn (F.inRound l) n P b Q i g a w:=by
 have d:=wpOpIn_mono m h;unfold wpOpIn at d ⊢;cases f:b[i]? with
 |none=>rw[f] at d;exact d
 |some o=>
  rw[f] at d;by_cases j:Region.wanted o (yielded b a.tmps)=true
  ·simp only[j,if_true] at d ⊢
   exact od l (k o (Array.mem_of_getElem? f)) d
  ·simp only[j] at d ⊢
   exact d
theorem mu {F:Fence} {n:Nat} {P:Program} {g:Region.Mode} {e:Array Oper} {Q:Exit→Act→World→Prop} (l:Nat) (m:∀ o∈e,∀ c,o.op≠ .defer c):
  ∀ (d:Nat) (b:Array Bool) (a:Act) (w:World),wpAnyIn F n P g e Q d b a w→wpAnyIn (F.inRound l) n P g e Q d b a w:=by
 intro d
 induction d with
 |zero=>intro b a w h;exact h
 |succ d p=>
  intro b a w h;exact⟨h.1,fun i q=>og l m (fun a w r=>p _ a w r) (h.2 i q)⟩
def lb (v k:Nat):UInt8:=UInt8.ofNat (v/2 ^ (8*k)%256)
def bn (v k:Nat):List UInt8:=(List.range k).map (lb v)
theorem zh2 (v k:Nat):bn v (k+1)=bn v k++[lb v k]:=by unfold bn;rw[List.range_succ,List.map_append];rfl
theorem fO (v k:Nat):(bn v k).length=k:=by simp[bn]
theorem zpO (v k:Nat):((lb v k).toNat:Int)=(v:Int)/2 ^ (8*k)%256:=by
 unfold lb;rw[UInt8.toNat_ofNat',Nat.mod_eq_of_lt (Nat.mod_lt _ ud)]
 push_cast
 rfl
theorem ol (w:World) (a b c:Obj):(((w.alloc a).alloc b).alloc c).heap[w.heap.size]? =some a∧(((w.alloc a).alloc b).alloc c).heap[w.heap.size+1]? =some b∧(((w.alloc a).alloc b).alloc c).heap[w.heap.size+2]? =some c∧Below w.heap.size w (((w.alloc a).alloc b).alloc c)∧(((w.alloc a).alloc b).alloc c).heap.size=w.heap.size+3:=by
 obtain⟨f,g,h⟩:=fJ w a b;have i:((w.alloc a).alloc b).heap.size=w.heap.size+2:=by simp
 have e:=zq ((w.alloc a).alloc b) c;have d:=bF ((w.alloc a).alloc b) c;rw[i] at e d;exact⟨(d.block _ uo).trans f,(d.block _ uo).trans g,e,h.trans (d.mono uo),by simp⟩
theorem wrap_u8 (z:Int):IntKind.u8.wrap z=z%256:=IntKind.wrap_u8 z
structure PN (g:Nat) (own0:Nat→Prop) (bs:List UInt8) (Wf:World) (own:Nat→Prop) (xs:List UInt8) (W:World):Prop where
 wr:Wr g own (bs++xs) W
 new:∀ j,own j→own0 j∨Wf.heap.size≤j
 but:bC own0 Wf W
theorem PN.kw {g:Nat} {a:Nat→Prop} {k:List UInt8} {f:World} {d:Nat→Prop} {l:List UInt8} {W W':World} (h:PN g a k f d l W) (c:Kw f.heap.size d W W'):PN g a k f d l W':=by
 obtain⟨v,n,o,m⟩:=h.wr.cell;refine⟨⟨⟨v,(c.block _ h.wr.lt (.inr h.wr.mine)).trans n,qM o fun b p i=>c.block b i (.inr (m b p)),m⟩,h.wr.mine,fun j e=>⟨(h.wr.o j e).1,Nat.lt_of_lt_of_le (h.wr.o j e).2 c.size⟩⟩,h.new,⟨c.os.trans h.but.os,c.tape.trans h.but.tape,c.output.trans h.but.output,Nat.le_trans h.but.size c.size,fun j e q=>(c.block j (Nat.lt_of_lt_of_le e h.but.size) (.inl e)).trans (h.but.block j e q)⟩⟩
theorem sd (g:Nat) (p:Nat→Prop) (G:List UInt8) (v z:Nat) (a0:z≤8) (hl:G.length≤9000) (w:World) (h:Wr g p G w):
  Calls Tryz.prog 256 #[lZ g,.int .u64 (v:Int),.int .i64 (z:Int)] w fun e w'=>e=.returned (.tuple #[])∧Wrote g p (G++bn v z) w w':=by
 have HW:Hid _:=h;refine(callsIn_wide (n:=5)).1 ?_;refine callsIn_of_wp_marks Tryz.func256 rfl trivial ?_ rfl;simp only[Tryz.ntmps256,eR,eS,eT,Nat.reduceAdd,Nat.reduceSub,eU,eV,eW,eX,eY,eZ];gi_wp2;refine⟨trivial,callsIn_wide.2 ((zeJ z _).mono ?_)⟩;rintro e H ⟨rfl,R⟩;have S:((w.alloc (.cells #[lZ g] 302)).alloc (.cells #[.int .u64 (v:Int)] 42)).heap.size=w.heap.size+2:=by simp
 obtain⟨t1,t2,t3,t4,t5⟩:=ol w (.cells #[lZ g] 302) (.cells #[.int .u64 (v:Int)] 42) (.cells #[.int .i64 (z:Int)] 3);rw[S];rw[←R] at t1 t2 t3 t4 t5;have a1:Hid _:=t1;have a2:Hid _:=t2;have a3:Hid _:=t3;have a4:Hid _:=t4;have C:Hid _:=t5;have I:Hid _:=HW.o.next t4;clear S R t1 t2 t3 t4 t5;gi_wp2
 refine zeI uo (gf:=236) (lb:=#[.pointer (some ⟨w.heap.size+2,0,none⟩)]) rfl (enters_of Tryz.func236 uk rfl) (α:=Nat) z (fun k=>#[.int .i64 (8*(k:Int))]) (fun _=>rfl) (fun k x=>x=k)
  (fun b t W=>PN g p G H b (bn v t) W) (fun _ _=>False) .ret ?hJ ?hJx p ?hown0 ?h0
  (fun k a' _=>a'={ tmps:=#[lZ g,.int .u64 (v:Int),.int .i64 (z:Int),.pointer (some ⟨w.heap.size,0,none⟩),.pointer (some ⟨w.heap.size+1,0,none⟩),undef,.int .i64 (8*(k:Int)),.int .i64 (z:Int),.func (.func 236) #[] #[.pointer (some ⟨w.heap.size+2,0,none⟩)],.int .i64 (8*(k:Int)),undef,undef,undef,undef,undef,undef],defers:=[] }) ?hA ?assign ?body ?iter ?done ?stop
 case hJ=>intro b k A B h T;exact h.kw T
 case hJx=>intro b A B h _;exact h
 case hown0=>intro j d;exact(I.o.o j d).2
 case h0=>exact⟨by simpa [bn] using I.o,fun j d=>.inl d,bC.refl _ _⟩
 case hA=>intro x a' W l o' h _ _;exact h
 case assign=>
  intro l' b k x r K T a5 a6 u s;clear a5 a6;gi_wp2;exact s _ _ (Below.refl _ _) rfl
 case iter=>
  intro l' W5 an a7 ao R' a8 ow a9 ap al aa ab;have hS:=C.o;refine zd7 H z (w.heap.size+2) a0 a3.o W5 a7 l' R' a8 ow (fun j d=>?_) (fun b k W T ac u=>aa b k k W T rfl ac u) ab;rcases(a9 j).1 d with a|rfl
  ·have:=(I.o.o j a).2
   omega
  ·omega
 case stop=>intro D b r _ _ h _;exact h.elim
 case done=>
  intro D b r ad ae U af;have ag:Hid _:=af;have J:Hid _:=U;have ah:Hid (D=H.heap.size∧¬b D):=⟨ad,ae⟩;gi_wp2;refine lY (fun W=>results_none rfl _ _ _) [D] r us (fun E hE=>by simp at hE;subst hE;exact ag.o) fun aq P=>⟨rfl,b,fun j d=>?_,?_,J.o.wr.but P fun j d e=>?_⟩
  ·rcases J.o.new j d with a|a
   ·exact .inl a
   ·exact .inr (by have:=C.o;omega)
  ·have Q:=J.o.but
   have V:=a4.o;have hS:=C.o;refine⟨P.os.trans (Q.os.trans V.os),P.tape.trans (Q.tape.trans V.tape),P.output.trans (Q.output.trans V.output),Nat.le_trans V.size (Nat.le_trans Q.size P.size),fun j d L=>?_⟩;have X:j<H.heap.size:=uo
   refine(P.block j (Nat.lt_of_lt_of_le X Q.size) fun e=>?_).trans ((Q.block j X L).trans (V.block j d));have e':j=D:=by simpa using e
   omega
  ·have e':j=D:=by simpa using e
   exact ah.o.2 (e'▸d)
 case body=>
  rintro l' b k x a' r T rfl U rfl u ar;have hS:=C.o
  have c1:r.drew.cell? ⟨w.heap.size,0,none⟩=some (lZ g):=by
   rw[World.cell?_of_block (a:=⟨w.heap.size,0,none⟩) (show r.drew.heap[w.heap.size]? =r.heap[w.heap.size]? from rfl),zr ((U.but.block w.heap.size uo (fun e=>by have:=(HW.o.o _ e).2;omega)).trans a1.o)];rfl
  have c2:r.drew.cell? ⟨w.heap.size+1,0,none⟩=some (.int .u64 (v:Int)):=by
   rw[World.cell?_of_block (a:=⟨w.heap.size+1,0,none⟩) (show r.drew.heap[w.heap.size+1]? =r.heap[w.heap.size+1]? from rfl),zr ((U.but.block (w.heap.size+1) uo (fun e=>by have:=(HW.o.o _ e).2;omega)).trans a2.o)];rfl
  have M:Hid (PN g p G H b (bn v x) r.drew):=U.kw ⟨rfl,rfl,rfl,Nat.le_refl _,fun _ _ _=>rfl⟩;have N:Hid (∀ _:True,_):=fun _=>oW g b (G++bn v x) (lb v x) (by rw[List.length_append,fO];omega) r.drew M.o.wr
  rw[zpO] at N
  gi_wp2;refine wpIn_region_any uk ?_;change wpAnyIn _ _ _ _ _ _ _ _ _ (World.drew _);refine mu (F:=Fence.wide) l' (by intro o ho c hc;simp at ho;rcases ho with rfl|rfl|rfl|rfl|rfl|rfl<;>cases hc) _ _ _ _ ?_;refine cV (i:=2) (v:=?_) rfl rfl ?_ ?_;rotate_left
  ·intro w
   go_simp
   try with_reducible rfl
  conv in(Act.put _ _ _)=>simp only[bH,bI,bJ,Act.put,bK,bL,bM]
  refine wpAnyIn_ready (rs:=[0,1]) uk us ?_;refine(AllReadyIn.cons rfl (fun K s=>?_) (AllReadyIn.cons rfl (fun K s=>?_) AllReadyIn.nil))
  ·go_simp
   refine s _ _ ?_;refine wpAnyIn_ready (rs:=[1]) uk us ?_;refine(AllReadyIn.cons rfl (fun K s=>?_) AllReadyIn.nil);go_simp;refine s _ _ ?_;refine cV (i:=3) (v:=.int .u64 ((v:Int)/2 ^ (8*x))) rfl rfl ?_ ?_
   ·intro w
    go_simp;rw[show(8*(x:Int)).toNat=8*x by omega]
   conv in(Act.put _ _ _)=>simp only[bH,bI,bJ,Act.put,bK,bL,bM]
   refine cV (i:=4) (v:=.int .u8 ((v:Int)/2 ^ (8*x)%256)) rfl rfl ?_ ?_
   ·intro w
    go_simp;exact wrap_u8 _
   conv in(Act.put _ _ _)=>simp only[bH,bI,bJ,Act.put,bK,bL,bM]
   refine wpAnyIn_ready (rs:=[5]) uk us ?_;refine(AllReadyIn.cons rfl (fun K s=>?_) AllReadyIn.nil);go_simp;refine⟨trivial,callsIn_wide.2 (Calls.mono (N.o trivial) ?_)⟩;rintro e O ⟨rfl,y,Y,m,Z⟩
   have HE:Hid (∃ f,(∀ j,f j→b j∨(r.heap.size≤j∧j<O.heap.size))∧bC b r O∧PN g p G H f (bn v (x+1)) O):=by
    have q:=M.o;refine⟨y,fun j d=>?_,⟨m.os,m.tape,m.output,m.size,m.block⟩,?_,fun j d=>?_,⟨m.os.trans q.but.os,m.tape.trans q.but.tape,m.output.trans q.but.output,Nat.le_trans q.but.size m.size,fun j d L=>(m.block j (Nat.lt_of_lt_of_le d q.but.size) fun e=>?_).trans (q.but.block j d L)⟩⟩
    ·rcases Y j d with a|a
     ·exact .inl a
     ·exact .inr ⟨a,(Z.o j d).2⟩
    ·rw[zh2,←List.append_assoc];exact Z
    ·rcases Y j d with a|a
     ·exact q.new j a
     ·exact .inr (Nat.le_trans q.but.size a)
    ·rcases q.new j e with a|a
     ·exact L a
     ·omega
   refine s _ _ ?_;refine wpAnyIn_done uk ?_ _;gi_wp2;exact HE.o
  ·go_simp
   refine s _ _ ?_;refine cV (i:=3) (v:=.int .u64 ((v:Int)/2 ^ (8*x))) rfl rfl ?_ ?_
   ·intro w
    go_simp;rw[show(8*(x:Int)).toNat=8*x by omega]
   conv in(Act.put _ _ _)=>simp only[bH,bI,bJ,Act.put,bK,bL,bM]
   refine cV (i:=4) (v:=.int .u8 ((v:Int)/2 ^ (8*x)%256)) rfl rfl ?_ ?_
   ·intro w
    go_simp;exact wrap_u8 _
   conv in(Act.put _ _ _)=>simp only[bH,bI,bJ,Act.put,bK,bL,bM]
   refine wpAnyIn_ready (rs:=[0]) uk us ?_;refine(AllReadyIn.cons rfl (fun K s=>?_) AllReadyIn.nil);go_simp;refine s _ _ ?_;refine wpAnyIn_ready (rs:=[5]) uk us ?_;refine(AllReadyIn.cons rfl (fun K s=>?_) AllReadyIn.nil);go_simp;refine⟨trivial,callsIn_wide.2 (Calls.mono (N.o trivial) ?_)⟩;rintro e O ⟨rfl,y,Y,m,Z⟩
   have HE:Hid (∃ f,(∀ j,f j→b j∨(r.heap.size≤j∧j<O.heap.size))∧bC b r O∧PN g p G H f (bn v (x+1)) O):=by
    have q:=M.o;refine⟨y,fun j d=>?_,⟨m.os,m.tape,m.output,m.size,m.block⟩,?_,fun j d=>?_,⟨m.os.trans q.but.os,m.tape.trans q.but.tape,m.output.trans q.but.output,Nat.le_trans q.but.size m.size,fun j d L=>(m.block j (Nat.lt_of_lt_of_le d q.but.size) fun e=>?_).trans (q.but.block j d L)⟩⟩
    ·rcases Y j d with a|a
     ·exact .inl a
     ·exact .inr ⟨a,(Z.o j d).2⟩
    ·rw[zh2,←List.append_assoc];exact Z
    ·rcases Y j d with a|a
     ·exact q.new j a
     ·exact .inr (Nat.le_trans q.but.size a)
    ·rcases q.new j e with a|a
     ·exact L a
     ·omega
   refine s _ _ ?_;refine wpAnyIn_done uk ?_ _;gi_wp2;exact HE.o
end Rw
namespace Rw
open Go.RowKit Go.Lib Go.Shelf
open Rc Rq
def iy:ByteArray:=⟨#[0,0,0,0,0,0,0,0,0,0,0,0,0,0,0,0,0,0,0,0,0,0,0,0,0,0,0,0,0,0,0,0]⟩
def gW (p:Nat) (t:ByteArray):Bool:=decide (p=0)&&decide (t=⟨#[]⟩)
theorem sg (p:Nat) (t:ByteArray) (w:World):(binOp .eql 49 (.agg #[.int .u32 (p:Int),.string t]) (.agg #[.int .u32 0,.string ⟨#[]⟩])).run Tryz.prog w=.ok (.bool (gW p t)) w:=by
 rw[run_eql_struct,show(10000:Nat)=9999+1 from rfl,run_equalIn_agg w 9999 49 _ _ uk uk];simp only[Program.fieldsOf,Tryz.underlying49];unfold gW;by_cases f:p=0
 ·subst f
  by_cases b:t=⟨#[]⟩
  ·subst b
   go_simp
  ·go_simp
   intro e;have a:=decide_eq_emptyBytes t;rw[e] at a;simp at a;exact b a
 ·go_simp
def cM (p:Nat) (t:ByteArray):List UInt8:=bn p 4++(if gW p t=true then iy else t).data.toList
theorem zeK (g:Nat) (b:Nat→Prop) (z:List UInt8) (p:Nat) (t:ByteArray) (T:p<4294967296) (U:z.length≤8000) (O:t.size≤100) (w:World) (h:Wr g b z w):
  Calls Tryz.prog 257 #[lZ g,.agg #[.int .u32 (p:Int),.string t]] w fun e P=>e=.returned (.tuple #[])∧Wrote g b (z++cM p t) w P:=by
 have C:Hid _:=h;have E:=sg p t;obtain⟨D,n⟩:∃ D,(if gW p t=true then iy else t)=D:=⟨_,rfl⟩
 have Q:D.size≤100:=by
  rw[←n];split
  ·decide
  ·exact O
 unfold cM;rw[n];have K:Hid _:=fun b W=>sd g b z p 4 uo uo W
 have L:Hid _:=fun b W=>zd6 g b (z++bn p 4) D (by rw[List.length_append,fO];omega) W
 cases A:gW p t
 all_goals
  rw[A] at E n;subst n
 focus
  have f:=bF w (.cells #[.int .u32 (p:Int),.string t] 49);have i:=zq w (.cells #[.int .u32 (p:Int),.string t] 49);obtain⟨s,l⟩:∃ s,w.alloc (.cells #[.int .u32 (p:Int),.string t] 49)=s:=⟨_,rfl⟩;rw[l] at f i;have u:Hid _:=l;have d:Hid _:=f;have B:Hid _:=i;clear f i l;go_enter Tryz.func257,Tryz.ntmps257;go_wp2_with fail;rw[u.o];refine(K.o b s (C.o.next d.o)).mono ?_;rintro e o ⟨rfl,c,F,m,G⟩;have v:¬b w.heap.size:=fun e=>by have:=(C.o.o _ e).2;omega
  have q:=(m.block w.heap.size (zi B.o).1 v).trans B.o;have R:o.cell? ⟨w.heap.size,1,none⟩=some (.string t):=by rw[zr q];rfl
  have H:Hid (∀ {x:List UInt8} {y:World},Wrote g c x o y→Wrote g b x w y):=fun {x y} I=>by
   refine Wrote.trans (own':=c) (W':=o) (fun j r=>?_) ⟨m.os.trans d.o.os,m.tape.trans d.o.tape,m.output.trans d.o.output,Nat.le_trans d.o.size m.size,fun j r A=>(m.block j (Nat.lt_of_lt_of_le r d.o.size) A).trans (d.o.block j r)⟩ I;rcases F j r with a|a
   ·exact .inl a
   ·exact .inr (Nat.le_trans d.o.size a)
  have J:Hid _:=G;go_wp2_with fail;refine um (L.o c o J.o) fun S k=>?_;rw[List.append_assoc] at k;have M:Hid _:=H.o k
 rotate_left
 focus
  have f:=bF w (.cells #[.int .u32 (p:Int),.string iy] 49);have i:=zq w (.cells #[.int .u32 (p:Int),.string iy] 49);obtain⟨s,l⟩:∃ s,w.alloc (.cells #[.int .u32 (p:Int),.string iy] 49)=s:=⟨_,rfl⟩;rw[l] at f i;have u:Hid _:=l;have d:Hid _:=f;have B:Hid _:=i;go_enter Tryz.func257,Tryz.ntmps257;go_wp2_with fail;have N:=u.o;simp only[iy] at N;rw[N];refine(K.o b s (C.o.next d.o)).mono ?_;rintro e o ⟨rfl,c,F,m,G⟩
  have R:o.cell? ⟨w.heap.size,1,none⟩=some (.string iy):=by rw[zr ((m.block w.heap.size (zi B.o).1 (fun e=>by have:=(C.o.o _ e).2;omega)).trans B.o)];rfl
  have H:Hid (∀ {x:List UInt8} {y:World},Wrote g c x o y→Wrote g b x w y):=fun {x y} I=>by
   refine Wrote.trans (own':=c) (W':=o) (fun j r=>?_) ⟨m.os.trans d.o.os,m.tape.trans d.o.tape,m.output.trans d.o.output,Nat.le_trans d.o.size m.size,fun j r A=>(m.block j (Nat.lt_of_lt_of_le r d.o.size) A).trans (d.o.block j r)⟩ I;rcases F j r with a|a
   ·exact .inl a
   ·exact .inr (Nat.le_trans d.o.size a)
  have J:Hid _:=G;go_wp2_with fail;refine um (L.o c o J.o) fun S k=>?_;rw[List.append_assoc] at k;have M:Hid _:=H.o k
 rotate_left
 all_goals
  go_wp2_with fail;refine bodyPost_end (results_none rfl _ _ _) rfl ?_;exact⟨rfl,M.o⟩
structure Rf where
 p:Nat
 t:ByteArray
abbrev dR (r:Rf):Value:=.agg #[.int .u32 (r.p:Int),.string r.t]
def fc (r:Rf):List Value:=[.int .u32 (r.p:Int),.string r.t]
def eO (w:World) (o:Option Addr) (cap:Nat) (l:List Rf):Prop:=Sl 2 w o l.length cap (l.flatMap fc)
def iZ (l:List Rf) (i:Nat):Rf:=(l[i]?).getD ⟨0,⟨#[]⟩⟩
theorem om {l:List Rf} {i:Nat} (h:i<l.length):l[i]? =some (iZ l i):=by unfold iZ;rw[List.getElem?_eq_getElem h];rfl
theorem eO.below {w w':World} {o:Option Addr} {cap B:Nat} {l:List Rf} (h:eO w o cap l) (hb:Below B w w') (hB:w.heap.size≤B):eO w' o cap l:=Sl.below h hb hB
theorem eO.ref {w:World} {o:Option Addr} {c:Nat} {l:List Rf} (h:eO w o c l) {i:Nat} (d:i<l.length):∃ b a,o=some ⟨b,a,none⟩∧b<w.heap.size∧∀ i,i<l.length→w.cell? ⟨b,a+i*2,none⟩=some (.int .u32 ((iZ l i).p:Int))∧w.cell? ⟨b,a+i*2+1,none⟩=some (.string (iZ l i).t):=by
 obtain⟨b,a,e,f,g⟩:=h.2.2.2.2 uo;refine⟨b,a,e,f,fun i d=>⟨g _ _ (flat_get fc 2 (fun _=>rfl) l i _ (om d) 0 uo),?_⟩⟩;have:=g _ _ (flat_get fc 2 (fun _=>rfl) l i _ (om d) 1 uo);rwa[←Nat.add_assoc] at this
structure Pg where
 k:Int
 X:Nat
 Y:Nat
 L:Int
 ro:Option Addr
 rn:Nat
 rc:Nat
 ko:Option Addr
 kn:Nat
 kc:Nat
 np:Nat
 nt:ByteArray
abbrev gv (q:Pg):Value:=.agg #[.int .i64 q.k,.int .u32 (q.X:Int),.int .u32 (q.Y:Int),.int .i64 q.L,.slice q.ro q.rn q.rc,.slice q.ko q.kn q.kc,.int .u32 (q.np:Int),.string q.nt]
abbrev cX (q:Pg):Obj:=.cells #[.int .i64 q.k,.int .u32 (q.X:Int),.int .u32 (q.Y:Int),.int .i64 q.L,.slice q.ro q.rn q.rc,.slice q.ko q.kn q.kc,.int .u32 (q.np:Int),.string q.nt] 155
def dD (r:Rw):List UInt8:=bn r.id 8++(bn r.x 4++(bn r.y 4++(bn r.v.size 1++r.v.data.toList)))
def jI (l:List Rw) (np:Nat) (nt:ByteArray):List UInt8:=bn 1 1++(bn l.length 1++(cM np nt++l.flatMap dD))
def jJ (X Y L:Nat) (ks:List Rf):List UInt8:=bn 2 1++(bn ks.length 1++(bn L 1++(bn X 4++(bn Y 4++ks.flatMap fun r=>cM r.p r.t))))
structure Ps (g:Nat) (own0:Nat→Prop) (w:World) (bx:List (Nat × Obj)) (bs:List UInt8) (own:Nat→Prop) (W:World):Prop where
 wr:Wr g own bs W
 new:∀ j,own j→own0 j∨w.heap.size≤j
 but:bC own0 w W
 box:∀ p∈bx,W.heap[p.1]? =some p.2∧¬own p.1
theorem Ps.step {g:Nat} {b:Nat→Prop} {w:World} {i:List (Nat × Obj)} {r l:List UInt8} {d:Nat→Prop} {W W':World} (h:Ps g b w i r d W) (k:Wrote g d l W W'):∃ own',Ps g b w i l own' W':=by
 obtain⟨own',m,c,s⟩:=k;refine⟨own',s,fun j f=>?_,⟨c.os.trans h.but.os,c.tape.trans h.but.tape,c.output.trans h.but.output,Nat.le_trans h.but.size c.size,fun j f n=>(c.block j (Nat.lt_of_lt_of_le f h.but.size) fun e=>?_).trans (h.but.block j f n)⟩,fun p t=>?_⟩
 ·rcases m j f with a|a
  ·exact h.new j a
  ·exact .inr (Nat.le_trans h.but.size a)
 ·rcases h.new j e with a|a
  ·exact n a
  ·omega
 ·obtain⟨o,q⟩:=h.box p t
  have u:=(zi o).1;refine⟨(c.block _ u q).trans o,fun e=>?_⟩;rcases m _ e with a|a
  ·exact q a
  ·omega
theorem Ps.next {g:Nat} {a:Nat→Prop} {w:World} {e:List (Nat × Obj)} {f:List UInt8} {c:Nat→Prop} {W W':World} (h:Ps g a w e f c W) (b:Below W.heap.size W W'):Ps g a w e f c W':=
 ⟨h.wr.next b,h.new,⟨b.os.trans h.but.os,b.tape.trans h.but.tape,b.output.trans h.but.output,Nat.le_trans h.but.size b.size,fun j i k=>(b.block j (Nat.lt_of_lt_of_le i h.but.size)).trans (h.but.block j i k)⟩,fun p d=>⟨(b.block _ (zi (h.box p d).1).1).trans (h.box p d).1,(h.box p d).2⟩⟩
theorem Ps.with {g:Nat} {a:Nat→Prop} {w:World} {f:List (Nat × Obj)} {i:List UInt8} {b:Nat→Prop} {W:World} (h:Ps g a w f i b W) (o:Obj) (j:(W.alloc o).heap[W.heap.size]? =some o):Ps g a w ((W.heap.size,o)::f) i b (W.alloc o):=by
 have c:=h.next (bF W o);refine⟨c.wr,c.new,c.but,fun p d=>?_⟩;rcases List.mem_cons.1 d with rfl|d
 ·exact⟨j,fun e=>by have:=(h.wr.o _ e).2;simp at this⟩
 ·exact c.box p d
theorem Ps.less {g:Nat} {own0:Nat→Prop} {w:World} {bx bx':List (Nat × Obj)} {bs:List UInt8} {own:Nat→Prop} {W:World} (h:Ps g own0 w bx bs own W) (hb:∀ p∈bx',p∈bx):Ps g own0 w bx' bs own W:=⟨h.wr,h.new,h.but,fun p hp=>h.box p (hb p hp)⟩
theorem Ps.start {g:Nat} {own:Nat→Prop} {bs:List UInt8} {w:World} (h:Wr g own bs w):Ps g own w [] bs own w:=⟨h,fun _ hj=>.inl hj,bC.refl _ _,fun p hp=>by cases hp⟩
theorem Ps.wrote {g:Nat} {own0:Nat→Prop} {w:World} {bx:List (Nat × Obj)} {bs:List UInt8} {own:Nat→Prop} {W:World} (h:Ps g own0 w bx bs own W):Wrote g own0 bs w W:=⟨own,h.new,h.but,h.wr⟩
theorem Ps.sl {g:Nat} {d:Nat→Prop} {w:World} {q:List (Nat × Obj)} {r:List UInt8} {m:Nat→Prop} {W:World} (h:Ps g d w q r m W) {k:Nat} {o:Option Addr} {n f:Nat} {cs:List Value} (i:Sl k w o n f cs) (s:∀ b c,o=some ⟨b,c,none⟩→0<n→¬d b):Sl k W o n f cs:=by
 refine⟨i.1,i.2.1,i.2.2.1,i.2.2.2.1,fun p=>?_⟩;obtain⟨b,c,e,l,t⟩:=i.2.2.2.2 p;exact⟨b,c,e,Nat.lt_of_lt_of_le l h.but.size,fun j u v=>(World.cell?_of_block (a:=⟨b,c+j,none⟩) (h.but.block b l (s b c e p))).trans (t j u v)⟩
theorem jA {W:World} {B:Nat} {q:Pg} (h:W.heap[B]? =some (cX q)):(W.cell? ⟨B,0,none⟩=some (.int .i64 q.k)∧W.cell? ⟨B,1,none⟩=some (.int .u32 (q.X:Int))∧W.cell? ⟨B,2,none⟩=some (.int .u32 (q.Y:Int))∧W.cell? ⟨B,3,none⟩=some (.int .i64 q.L)∧W.cell? ⟨B,4,none⟩=some (.slice q.ro q.rn q.rc)∧W.cell? ⟨B,5,none⟩=some (.slice q.ko q.kn q.kc)∧W.cell? ⟨B,6,none⟩=some (.int .u32 (q.np:Int))∧W.cell? ⟨B,7,none⟩=some (.string q.nt))∧B<W.heap.size:=by
 refine⟨⟨?_,?_,?_,?_,?_,?_,?_,?_⟩,(zi h).1⟩
 all_goals rw[zr h];rfl
theorem mv {W:World} {B:Nat} {id x y:Nat} {v:ByteArray} {t:TypeId} (h:W.heap[B]? =some (.cells #[.int .u64 (id:Int),.int .u32 (x:Int),.int .u32 (y:Int),.string v] t (0,0))):(W.cell? ⟨B,0,none⟩=some (.int .u64 (id:Int))∧W.cell? ⟨B,1,none⟩=some (.int .u32 (x:Int))∧W.cell? ⟨B,2,none⟩=some (.int .u32 (y:Int))∧W.cell? ⟨B,3,none⟩=some (.string v))∧B<W.heap.size:=by
 refine⟨⟨?_,?_,?_,?_⟩,(zi h).1⟩
 all_goals rw[zr h];rfl
theorem zmG {l:List Rw} (hv:∀ r∈l,r.v.size≤16) (i:Nat):((l.take i).flatMap dD).length≤i*33:=by
 induction i with
 |zero=>simp
 |succ i d=>
  by_cases h:i<l.length
  ·rw[List.take_add_one,List.getElem?_eq_getElem h,List.flatMap_append,List.length_append]
   have:=hv _ (List.getElem_mem h);simp only[Option.toList,List.flatMap_cons,List.flatMap_nil,List.append_nil,dD,List.length_append,fO,Array.length_toList];have e:l[i].v.data.size=l[i].v.size:=rfl;omega
  ·rw[List.take_of_length_le uo]
   rw[List.take_of_length_le uo] at d;omega
theorem zg6 (g:Nat) (a:Nat→Prop) (H:List UInt8) (q:Pg) (l:List Rw) (hl:H.length≤1000) (hn:l.length≤10) (hv:∀ r∈l,r.v.size≤16∧r.x<4294967296∧r.y<4294967296) (a2:q.np<4294967296) (a3:q.nt.size≤100) (w:World) (h:Wr g a H w) (a4:q.rn=l.length) (hr:cH w q.ro q.rc l) (ah:∀ b u,q.ro=some ⟨b,u,none⟩→0<l.length→¬a b):
  Calls Tryz.prog 232 #[lZ g,gv q] w fun e w'=>e=.returned (.tuple #[])∧Wrote g a (H++jI l q.np q.nt) w w':=by
 have P0:=(Ps.start h).with (cX q) (zq w _);have HR:Hid _:=hr;have a5:Hid _:=ah;have HV:Hid _:=hv;have HN:Hid _:=fun K A v sz h1 h2 W=>sd g K A v sz h1 h2 W
 have ai:Hid _:=fun K A p t h1 h2 h3 W=>zeK g K A p t h1 h2 h3 W
 have aj:Hid _:=fun K A s h1 W=>zd6 g K A s h1 W
 have ak:Hid (∀ r∈l,r.v.size≤16):=fun r hr=>(hv r hr).1
 have al:(cM q.np q.nt).length≤104:=by
  unfold cM;rw[List.length_append,fO,Array.length_toList];split
  ·decide
  ·have:q.nt.data.size=q.nt.size:=rfl
   omega
 obtain⟨D,E,F,G,I,av,f,j,m,n,c,d⟩:=q;simp only at a4 HR a5 a2 a3 al;subst a4;have Z:Hid _:=P0;obtain⟨W0,a0⟩:∃ W0,w.alloc (cX ⟨D,E,F,G,I,l.length,f,j,m,n,c,d⟩)=W0:=⟨_,rfl⟩;have am:Hid (w.alloc (.cells #[.int .i64 D,.int .u32 (E:Int),.int .u32 (F:Int),.int .i64 G,.slice I l.length f,.slice j m n,.int .u32 (c:Int),.string d] 155)=W0):=a0;rw[a0] at Z;clear a0
 simp only[gv];go_enter Tryz.func232,Tryz.ntmps232;go_wp2_with fail;rw[am.o];refine um (HN.o a H 1 1 uo uo W0 Z.o.wr) fun w1 k=>?_;obtain⟨R,o⟩:=Z.o.step k;have a6:Hid (Ps g a w [(w.heap.size,cX ⟨D,E,F,G,I,l.length,f,j,m,n,c,d⟩)] (H++bn 1 1) R w1):=o;obtain⟨⟨-,-,-,-,c4,-,c6,c7⟩,lB⟩:=jA (o.box _ List.mem_cons_self).1;simp only at c4 c6 c7;go_wp2_with fail;refine(HN.o R (H++bn 1 1) l.length 1 uo (by rw[List.length_append,fO];omega) w1 a6.o.wr).mono ?_;rintro e w2 ⟨rfl,k⟩;obtain⟨S,o⟩:=a6.o.step k;have a7:Hid (Ps g a w [(w.heap.size,cX ⟨D,E,F,G,I,l.length,f,j,m,n,c,d⟩)] (H++bn 1 1++bn l.length 1) S w2):=o;obtain⟨⟨-,-,-,-,c4,-,c6,c7⟩,lB⟩:=jA (o.box _ List.mem_cons_self).1
 simp only at c4 c6 c7;go_wp2_with fail;refine(ai.o S (H++bn 1 1++bn l.length 1) c d a2 (by simp only[List.length_append,fO];omega) a3 w2 a7.o.wr).mono ?_;rintro e w3 ⟨rfl,k⟩;obtain⟨T,o⟩:=a7.o.step k;have a8:Hid (Ps g a w [(w.heap.size,cX ⟨D,E,F,G,I,l.length,f,j,m,n,c,d⟩)] (H++bn 1 1++bn l.length 1++cM c d) T w3):=o;obtain⟨⟨-,-,-,-,c4,-,c6,c7⟩,lB⟩:=jA (o.box _ List.mem_cons_self).1;simp only at c4 c6 c7;go_wp2_with fail;obtain⟨z,L⟩:∃ z,H++bn 1 1++bn l.length 1++cM c d=z:=⟨_,rfl⟩;have aw:z.length≤1200:=by rw[←L];simp only[List.length_append,fO];omega
 have an:Hid (H++jI l c d=z++l.flatMap dD):=by
  refine(?_:H++jI l c d=z++l.flatMap dD);rw[←L];simp only[jI,List.append_assoc]
 rw[L] at a8
 go_loopw [21] (fun iv wr=>∃ (i:Nat) (B:Nat→Prop),i≤l.length∧iv=.int .i64 (i:Int)∧Ps g a w [(w.heap.size,cX ⟨D,E,F,G,I,l.length,f,j,m,n,c,d⟩)] (z++(l.take i).flatMap dD) B wr) (fun iv _=>l.length - bu iv)
 case atStart=>exact⟨0,T,Nat.zero_le _,rfl,by simpa using a8.o⟩
 case round=>
  obtain⟨i,B,hi,rfl,o⟩:=hrel;by_cases N:i<l.length
  ·have a9:=o.sl (k:=4) (cs:=l.flatMap rc) HR.o a5.o
   obtain⟨O,u,rfl,ax,hc⟩:=cH.row (l:=l) a9 N;obtain⟨d0,d1,d2,d3⟩:=hc i N;have aa:=HV.o _ (mW N)
   have ab:(l.take (i+1)).flatMap dD=(l.take i).flatMap dD++dD (cK l i):=by
    rw[List.take_add_one,mV N,List.flatMap_append];simp
   have ao:=zmG ak.o i;generalize cK l i=rr at*
   obtain⟨id,x,y,v⟩:=rr;simp only at d0 d1 d2 d3 aa;have ap:Hid _:=ab;have P:Hid (Ps g a w [(wr.heap.size,(.cells #[.int .u64 (id:Int),.int .u32 (x:Int),.int .u32 (y:Int),.string v] 79)),(w.heap.size,cX ⟨D,E,F,G,(some ⟨O,u,none⟩),l.length,f,j,m,n,c,d⟩)] (z++(l.take i).flatMap dD) B (wr.alloc (.cells #[.int .u64 (id:Int),.int .u32 (x:Int),.int .u32 (y:Int),.string v] 79))):=o.with _ (zq wr _);have q3:(i:Int)<(l.length:Int):=uo
   have q4:IntKind.u64.wrap (x:Int)=(x:Int):=IntWalk.u64_in _ ⟨by omega,by omega⟩;have q5:IntKind.u64.wrap (y:Int)=(y:Int):=IntWalk.u64_in _ ⟨by omega,by omega⟩;have q6:IntKind.u64.wrap (v.size:Int)=(v.size:Int):=IntWalk.u64_in _ ⟨by omega,by omega⟩;have q7:(v.size:Int)≤16:=uo
   obtain⟨A,Q⟩:∃ A,z++(l.take i).flatMap dD=A:=⟨_,rfl⟩;have au:A.length≤1600:=by rw[←Q,List.length_append];omega
   rw[Q] at P;have aq:Hid (z++(l.take i).flatMap dD=A):=Q;obtain⟨⟨r0,r1,r2,r3⟩,lR⟩:=mv (P.o.box _ List.mem_cons_self).1;obtain⟨W4,a1⟩:∃ W4,wr.alloc (.cells #[.int .u64 (id:Int),.int .u32 (x:Int),.int .u32 (y:Int),.string v] 79)=W4:=⟨_,rfl⟩;have ar:Hid _:=a1;have ac:Hid (Ps g a w [(wr.heap.size,(.cells #[.int .u64 (id:Int),.int .u32 (x:Int),.int .u32 (y:Int),.string v] 79)),(w.heap.size,cX ⟨D,E,F,G,(some ⟨O,u,none⟩),l.length,f,j,m,n,c,d⟩)] A B W4):=a1▸P.o;clear o  hc a9 ab ao Q a1 aa P r0 r1 r2 r3 lR;go_wp2_with fail;rw[ar.o];have r0:=True.intro;have r1:=True.intro;have r2:=True.intro;have r3:=True.intro;have lR:=True.intro;refine um (HN.o B A id 8 uo uo W4 ac.o.wr) fun w5 k=>?_;obtain⟨U,o⟩:=ac.o.step k;have ad:Hid (Ps g a w [(wr.heap.size,(.cells #[.int .u64 (id:Int),.int .u32 (x:Int),.int .u32 (y:Int),.string v] 79)),(w.heap.size,cX ⟨D,E,F,G,(some ⟨O,u,none⟩),l.length,f,j,m,n,c,d⟩)] (A++bn id 8) U w5):=o
   obtain⟨⟨r0,r1,r2,r3⟩,lR⟩:=mv (o.box _ List.mem_cons_self).1;go_wp2_with fail;refine(HN.o U (A++bn id 8) x 4 uo (by simp only[List.length_append,fO];omega) w5 ad.o.wr).mono ?_;rintro e w6 ⟨rfl,k⟩;obtain⟨V,o⟩:=ad.o.step k;have ae:Hid (Ps g a w [(wr.heap.size,(.cells #[.int .u64 (id:Int),.int .u32 (x:Int),.int .u32 (y:Int),.string v] 79)),(w.heap.size,cX ⟨D,E,F,G,(some ⟨O,u,none⟩),l.length,f,j,m,n,c,d⟩)] (A++bn id 8++bn x 4) V w6):=o;obtain⟨⟨r0,r1,r2,r3⟩,lR⟩:=mv (o.box _ List.mem_cons_self).1;go_wp2_with fail;refine(HN.o V (A++bn id 8++bn x 4) y 4 uo (by simp only[List.length_append,fO];omega) w6 ae.o.wr).mono ?_;rintro e w7 ⟨rfl,k⟩;obtain⟨X,o⟩:=ae.o.step k;have af:Hid (Ps g a w [(wr.heap.size,(.cells #[.int .u64 (id:Int),.int .u32 (x:Int),.int .u32 (y:Int),.string v] 79)),(w.heap.size,cX ⟨D,E,F,G,(some ⟨O,u,none⟩),l.length,f,j,m,n,c,d⟩)] (A++bn id 8++bn x 4++bn y 4) X w7):=o
   obtain⟨⟨r0,r1,r2,r3⟩,lR⟩:=mv (o.box _ List.mem_cons_self).1;go_wp2_with fail;refine(HN.o X (A++bn id 8++bn x 4++bn y 4) v.size 1 uo (by simp only[List.length_append,fO];omega) w7 af.o.wr).mono ?_;rintro e w8 ⟨rfl,k⟩;obtain⟨Y,o⟩:=af.o.step k;have ag:Hid (Ps g a w [(wr.heap.size,(.cells #[.int .u64 (id:Int),.int .u32 (x:Int),.int .u32 (y:Int),.string v] 79)),(w.heap.size,cX ⟨D,E,F,G,(some ⟨O,u,none⟩),l.length,f,j,m,n,c,d⟩)] (A++bn id 8++bn x 4++bn y 4++bn v.size 1) Y w8):=o;obtain⟨⟨r0,r1,r2,r3⟩,lR⟩:=mv (o.box _ List.mem_cons_self).1;go_wp2_with fail;refine(aj.o Y (A++bn id 8++bn x 4++bn y 4++bn v.size 1) v (by simp only[List.length_append,fO];omega) w8 ag.o.wr).mono ?_;rintro e w9 ⟨rfl,k⟩;obtain⟨M,o⟩:=ag.o.step k
   have HE:Hid (Ps g a w [(w.heap.size,cX ⟨D,E,F,G,(some ⟨O,u,none⟩),l.length,f,j,m,n,c,d⟩)] (z++(l.take (i+1)).flatMap dD) M w9):=by
    refine(?_:Ps g a w [(w.heap.size,cX ⟨D,E,F,G,(some ⟨O,u,none⟩),l.length,f,j,m,n,c,d⟩)] (z++(l.take (i+1)).flatMap dD) M w9);rw[ap.o,←List.append_assoc,aq.o];have:=o.less (bx':=[(w.heap.size,cX ⟨D,E,F,G,(some ⟨O,u,none⟩),l.length,f,j,m,n,c,d⟩)]) (fun p hp=>List.mem_cons_of_mem _ hp);simpa only[dD,List.append_assoc] using this
   go_wp2_with fail
   go_roundw
   case rel=>exact⟨i+1,M,by omega,by go_num,HE.o⟩
   case measure=>simp[bu];omega
  ·obtain rfl:i=l.length:=uo
   have q3:¬(l.length:Int)<(l.length:Int):=uo
   have HE:Hid (Wrote g a (H++jI l c d) w wr):=by
    refine(?_:Wrote g a (H++jI l c d) w wr);have:=o.wrote;rw[List.take_length] at this;rw[an.o];exact this
   go_wp2_with fail;refine bodyPost_end (results_none rfl _ _ _) rfl ?_;exact⟨rfl,HE.o⟩
theorem oo {W:World} {B:Nat} {p:Nat} {v:ByteArray} {t:TypeId} (h:W.heap[B]? =some (.cells #[.int .u32 (p:Int),.string v] t (0,0))):(W.cell? ⟨B,0,none⟩=some (.int .u32 (p:Int))∧W.cell? ⟨B,1,none⟩=some (.string v))∧B<W.heap.size:=by
 refine⟨⟨?_,?_⟩,(zi h).1⟩
 all_goals rw[zr h];rfl
theorem zmH (p:Nat) (t:ByteArray) (ht:t.size≤100):(cM p t).length≤104:=by
 unfold cM;rw[List.length_append,fO,Array.length_toList];split
 ·decide
 ·have:t.data.size=t.size:=rfl
  omega
theorem zkG {l:List Rf} {i:Nat} (h:i<l.length):iZ l i∈l:=by
 have:=om h;exact List.mem_of_getElem? this
theorem pV {l:List Rf} (hv:∀ r∈l,r.t.size≤100) (i:Nat):((l.take i).flatMap fun r=>cM r.p r.t).length≤i*104:=by
 induction i with
 |zero=>simp
 |succ i d=>
  by_cases h:i<l.length
  ·rw[List.take_add_one,List.getElem?_eq_getElem h,List.flatMap_append,List.length_append]
   have:=zmH l[i].p l[i].t (hv _ (List.getElem_mem h));simp only[Option.toList,List.flatMap_cons,List.flatMap_nil,List.append_nil];omega
  ·rw[List.take_of_length_le uo]
   rw[List.take_of_length_le uo] at d;omega
theorem zf6 (g:Nat) (a:Nat→Prop) (A:List UInt8) (q:Pg) (l:List Rf) (f:Nat) (hl:A.length≤1000) (hn:l.length≤10) (hv:∀ r∈l,r.t.size≤100∧r.p<4294967296) (hX:q.X<4294967296) (hY:q.Y<4294967296) (hL:q.L=(f:Int)) (an:f≤1000) (w:World) (h:Wr g a A w) (V:q.kn=l.length) (hr:eO w q.ko q.kc l) (ad:∀ b m,q.ko=some ⟨b,m,none⟩→0<l.length→¬a b):
  Calls Tryz.prog 233 #[lZ g,gv q] w fun e w'=>e=.returned (.tuple #[])∧Wrote g a (A++jJ q.X q.Y f l) w w':=by
 have P0:=(Ps.start h).with (cX q) (zq w _);have HR:Hid _:=hr;have Z:Hid _:=ad;have HV:Hid _:=hv;have HN:Hid _:=fun N E v sz h1 h2 W=>sd g N E v sz h1 h2 W
 have ae:Hid _:=fun N E p t h1 h2 h3 W=>zeK g N E p t h1 h2 h3 W
 have af:Hid (∀ r∈l,r.t.size≤100):=fun r hr=>(hv r hr).1
 obtain⟨O,z,B,qL,n,o,s,a0,ao,u,x,y⟩:=q;subst V;subst hL;have P:Hid _:=P0;obtain⟨W0,Q⟩:∃ W0,w.alloc (cX ⟨O,z,B,(f:Int),n,o,s,a0,l.length,u,x,y⟩)=W0:=⟨_,rfl⟩;have ag:Hid _:=Q;rw[Q] at P;clear Q
 simp only[gv];go_enter Tryz.func233,Tryz.ntmps233;go_wp2_with fail;rw[ag.o];refine um (HN.o a (A) 2 1 uo uo W0 P.o.wr) fun w1 k=>?_;obtain⟨a1,d⟩:=P.o.step k;have a2:Hid _:=d;obtain⟨⟨-,F,G,H,-,I,-,-⟩,lB⟩:=jA (d.box _ List.mem_cons_self).1;go_wp2_with fail;refine(HN.o a1 (A++bn 2 1) l.length 1 uo (by simp only[List.length_append,fO];omega) w1 a2.o.wr).mono ?_
 rintro e w2 ⟨rfl,k⟩;obtain⟨a3,d⟩:=a2.o.step k;have a4:Hid _:=d;obtain⟨⟨-,F,G,H,-,I,-,-⟩,lB⟩:=jA (d.box _ List.mem_cons_self).1;go_wp2_with fail;refine(HN.o a3 (A++bn 2 1++bn l.length 1) f 1 uo (by simp only[List.length_append,fO];omega) w2 a4.o.wr).mono ?_;rintro e w3 ⟨rfl,k⟩;obtain⟨a5,d⟩:=a4.o.step k;have a6:Hid _:=d;obtain⟨⟨-,F,G,H,-,I,-,-⟩,lB⟩:=jA (d.box _ List.mem_cons_self).1;go_wp2_with fail;refine(HN.o a5 (A++bn 2 1++bn l.length 1++bn f 1) z 4 uo (by simp only[List.length_append,fO];omega) w3 a6.o.wr).mono ?_
 rintro e w4 ⟨rfl,k⟩;obtain⟨a7,d⟩:=a6.o.step k;have a8:Hid _:=d;obtain⟨⟨-,F,G,H,-,I,-,-⟩,lB⟩:=jA (d.box _ List.mem_cons_self).1;go_wp2_with fail;refine(HN.o a7 (A++bn 2 1++bn l.length 1++bn f 1++bn z 4) B 4 uo (by simp only[List.length_append,fO];omega) w4 a8.o.wr).mono ?_;rintro e w5 ⟨rfl,k⟩;obtain⟨a9,d⟩:=a8.o.step k;have aa:Hid _:=d;obtain⟨⟨-,F,G,H,-,I,-,-⟩,lB⟩:=jA (d.box _ List.mem_cons_self).1;simp only at F G H I;go_wp2_with fail
 obtain⟨c,C⟩:∃ c,A++bn 2 1++bn l.length 1++bn f 1++bn z 4++bn B 4=c:=⟨_,rfl⟩;have ap:c.length≤1200:=by rw[←C];simp only[List.length_append,fO];omega
 have ah:Hid (A++jJ z B f l=c++l.flatMap (fun r=>cM r.p r.t)):=by
  refine(?_:A++jJ z B f l=c++l.flatMap (fun r=>cM r.p r.t));rw[←C];simp only[jJ,List.append_assoc]
 rw[C] at aa
 go_loopw [35] (fun iv wr=>∃ (i:Nat) (j:Nat→Prop),i≤l.length∧iv=.int .i64 (i:Int)∧Ps g a w [(w.heap.size,cX ⟨O,z,B,(f:Int),n,o,s,a0,l.length,u,x,y⟩)] (c++(l.take i).flatMap (fun r=>cM r.p r.t)) j wr) (fun iv _=>l.length - bu iv)
 case atStart=>exact⟨0,a9,Nat.zero_le _,rfl,by simpa using aa.o⟩
 case round=>
  obtain⟨i,j,hi,rfl,d⟩:=hrel;by_cases J:i<l.length
  ·have ab:=d.sl (k:=2) (cs:=l.flatMap fc) HR.o Z.o
   obtain⟨pb,m,rfl,aq,hc⟩:=eO.ref (l:=l) ab J;obtain⟨d0,d1⟩:=hc i J;have R:=HV.o _ (zkG J)
   have S:(l.take (i+1)).flatMap (fun r=>cM r.p r.t)=(l.take i).flatMap (fun r=>cM r.p r.t)++cM (iZ l i).p (iZ l i).t:=by
    rw[List.take_add_one,om J,List.flatMap_append];simp
   have ai:=pV af.o i;generalize iZ l i=rr at*
   obtain⟨p,v⟩:=rr;simp only at d0 d1 R S;have aj:Hid _:=S;have T:Hid (Ps g a w [(wr.heap.size,(.cells #[.int .u32 (p:Int),.string v] 49)),(w.heap.size,cX ⟨O,z,B,(f:Int),n,o,s,(some ⟨pb,m,none⟩),l.length,u,x,y⟩)] (c++(l.take i).flatMap (fun r=>cM r.p r.t)) j (wr.alloc (.cells #[.int .u32 (p:Int),.string v] 49))):=d.with _ (zq wr _)
   obtain⟨E,K⟩:∃ E,c++(l.take i).flatMap (fun r=>cM r.p r.t)=E:=⟨_,rfl⟩;have am:E.length≤2300:=by rw[←K,List.length_append];omega
   rw[K] at T;have ak:Hid (c++(l.take i).flatMap (fun r=>cM r.p r.t)=E):=K;obtain⟨W6,U⟩:∃ W6,wr.alloc (.cells #[.int .u32 (p:Int),.string v] 49)=W6:=⟨_,rfl⟩;have al:Hid _:=U;have ac:Hid (Ps g a w [(wr.heap.size,(.cells #[.int .u32 (p:Int),.string v] 49)),(w.heap.size,cX ⟨O,z,B,(f:Int),n,o,s,(some ⟨pb,m,none⟩),l.length,u,x,y⟩)] E j W6):=U▸T.o;clear d  hc ab S ai K U T;go_wp2_with fail;rw[al.o];refine um (ae.o j E p v R.2 uo R.1 W6 ac.o.wr) fun w9 k=>?_;obtain⟨D,d⟩:=ac.o.step k
   have HE:Hid (Ps g a w [(w.heap.size,cX ⟨O,z,B,(f:Int),n,o,s,(some ⟨pb,m,none⟩),l.length,u,x,y⟩)] (c++(l.take (i+1)).flatMap (fun r=>cM r.p r.t)) D w9):=by
    refine(?_:Ps g a w [(w.heap.size,cX ⟨O,z,B,(f:Int),n,o,s,(some ⟨pb,m,none⟩),l.length,u,x,y⟩)] (c++(l.take (i+1)).flatMap (fun r=>cM r.p r.t)) D w9);rw[aj.o,←List.append_assoc,ak.o];exact d.less (bx':=[(w.heap.size,cX ⟨O,z,B,(f:Int),n,o,s,(some ⟨pb,m,none⟩),l.length,u,x,y⟩)]) (fun p hp=>List.mem_cons_of_mem _ hp)
   go_wp2_with fail
   go_roundw
   case rel=>exact⟨i+1,D,by omega,by go_num,HE.o⟩
   case measure=>simp[bu];omega
  ·obtain rfl:i=l.length:=uo
   have HE:Hid (Wrote g a (A++jJ z B f l) w wr):=by
    refine(?_:Wrote g a (A++jJ z B f l) w wr);have:=d.wrote;rw[List.take_length] at this;rw[ah.o];exact this
   go_wp2_with fail;refine bodyPost_end (results_none rfl _ _ _) rfl ?_;exact⟨rfl,HE.o⟩
def br (p:Nat) (t:ByteArray):Bool:=decide (2≤p)&&decide (t.size=32)
theorem qN (p:Nat) (t:ByteArray) (w:World):Calls Tryz.prog 161 #[.agg #[.int .u32 (p:Int),.string t]] w fun e b=>e=.returned (.bool (br p t))∧Below w.heap.size w b:=by
 have a:Hid _:=bF w (.cells #[.int .u32 (p:Int),.string t] 49);unfold br;by_cases c:2≤p
 ·have d:(2:Int)≤(p:Int):=uo
  by_cases f:t.size=32
  focus
   have g:(t.size:Int)=32:=uo
  rotate_left
  focus
   have g:((t.size:Int)==32)=false:=by simp;omega
  rotate_left
  all_goals
   go_enter Tryz.func161,Tryz.ntmps161;go_wp2_with fail;go_ret;exact⟨by simp[c,f],a.o⟩
 ·have d:¬(2:Int)≤(p:Int):=uo
  go_enter Tryz.func161,Tryz.ntmps161;go_wp2_with fail;go_ret;exact⟨by simp,a.o⟩
def noCell (X Y:Nat) (L:Int):Bool:=decide (X=0)&&(decide (Y=0)&&decide (L=0))
theorem zkH (X Y:Nat) (L:Int) (w:World):(binOp .eql 70 (.agg #[.int .u32 (X:Int),.int .u32 (Y:Int),.int .i64 L]) (.agg #[.int .u32 0,.int .u32 0,.int .i64 0])).run Tryz.prog w=.ok (.bool (noCell X Y L)) w:=by
 rw[run_eql_struct,show(10000:Nat)=9999+1 from rfl,run_equalIn_agg w 9999 70 _ _ uk uk];simp only[Program.fieldsOf,Tryz.underlying70];unfold noCell;by_cases c:X=0
 ·subst c
  by_cases d:Y=0
  ·subst d
   by_cases e:L=0
   ·subst e
    go_simp
   ·go_simp
  ·go_simp
 ·go_simp
def kR (q:Pg) (l:List Rw):Bool:=(gW q.np q.nt||br q.np q.nt)&&(decide (l.length≤4)&&(dg l&&(noCell q.X q.Y q.L&&decide (q.kn=0))))
theorem zfk (q:Pg) (l:List Rw) (w:World) (o:q.rn=l.length) (D:cH w q.ro q.rc l):
  Calls Tryz.prog 166 #[gv q] w fun e Z=>e=.returned (.bool (kR q l))∧Below w.heap.size w Z:=by
 have g:=bF w (cX q);have h:=zq w (cX q);unfold kR;obtain⟨S,i⟩:∃ S,w.alloc (cX q)=S:=⟨_,rfl⟩;rw[i] at g h;have p:Hid (∀ W:World,Below w.heap.size w W→cH W q.ro q.rc l):=fun W G=>cH.below D G zn
 obtain⟨qk,T,U,V,H,a1,I,a2,c,a3,d,f⟩:=q;subst o;have E:Hid _:=h;have n:Hid _:=g;have j:Hid _:=i;have J:=sg d f;have K:=zkH T U V;have r:Hid _:=qN d f;have k:Hid (∀ W:World,Below w.heap.size w W→_):=fun W G=>sM l H I W (p.o W G)
 clear g h i D;obtain⟨L,M⟩:∃ L,gW d f=L:=⟨_,rfl⟩;obtain⟨N,O⟩:∃ N,br d f=N:=⟨_,rfl⟩;obtain⟨F,P⟩:∃ F,dg l=F:=⟨_,rfl⟩;obtain⟨nc,Q⟩:∃ nc,noCell T U V=nc:=⟨_,rfl⟩;rw[M] at J ⊢;rw[O] at r ⊢;rw[P] at k ⊢;rw[Q] at K ⊢;simp only[gv];cases L
 ·go_enter Tryz.func166,Tryz.ntmps166;go_wp2_with fail;rw[j.o];refine um (r.o _) fun w2 X=>?_;have m:Hid _:=(X.block _ (zi E.o).1).trans E.o;have b:Hid _:=n.o.trans (X.mono n.o.size);obtain⟨⟨s,t,u,v,x,y,z,A⟩,Y⟩:=jA m.o;cases N
  ·go_wp2_with fail;go_ret;exact⟨by simp,b.o⟩
  ·by_cases h4:l.length≤4
   ·have R:(l.length:Int)≤4:=uo
    go_wp2_with fail;refine um (k.o _ b.o) fun w5 B=>?_;have a:Hid _:=(b.o).trans (B.mono (b.o).size);obtain⟨⟨s,t,u,v,x,y,z,A⟩,Y⟩:=jA ((B.block _ (zi m.o).1).trans m.o);cases F
    ·go_wp2_with fail;go_ret;exact⟨by simp,a.o⟩
    ·cases nc
     ·go_wp2_with fail;go_ret;exact⟨by simp,a.o⟩
     ·by_cases C:c=0
      ·subst C;go_wp2_with fail;go_ret;exact⟨by simp,a.o⟩
      ·have q5:((c:Int)==0)=false:=by simp;omega
       go_wp2_with fail;go_ret;exact⟨by simp[C],a.o⟩
   ·have R:¬(l.length:Int)≤4:=uo
    go_wp2_with fail;go_ret;exact⟨by simp,b.o⟩
 ·go_enter Tryz.func166,Tryz.ntmps166;by_cases h4:l.length≤4
  ·have R:(l.length:Int)≤4:=uo
   go_wp2_with fail;rw[j.o];refine um (k.o _ n.o) fun w5 B=>?_;have a:Hid _:=(n.o).trans (B.mono (n.o).size);obtain⟨⟨s,t,u,v,x,y,z,A⟩,Y⟩:=jA ((B.block _ (zi E.o).1).trans E.o);cases F
   ·go_wp2_with fail;go_ret;exact⟨by simp,a.o⟩
   ·cases nc
    ·go_wp2_with fail;go_ret;exact⟨by simp,a.o⟩
    ·by_cases C:c=0
     ·subst C;go_wp2_with fail;go_ret;exact⟨by simp,a.o⟩
     ·have q5:((c:Int)==0)=false:=by simp;omega
      go_wp2_with fail;go_ret;exact⟨by simp[C],a.o⟩
  ·have R:¬(l.length:Int)≤4:=uo
   go_wp2_with fail;rw[j.o];go_ret;exact⟨by simp,n.o⟩
def kS (q:Pg) (ks:List Rf):Bool:=decide (2≤ks.length∧ks.length≤4)&&(ks.all (fun r=>br r.p r.t)&&(cP q.X q.Y q.L&&(decide (0<q.L)&&(decide (q.rn=0)&&gW q.np q.nt))))
theorem zmI {ks:List Rf} {i:Nat} (h:i<ks.length):(ks.take (i+1)).all (fun r=>br r.p r.t)=((ks.take i).all (fun r=>br r.p r.t)&&br (iZ ks i).p (iZ ks i).t):=by
 rw[List.take_add_one,om h,List.all_append];simp
theorem zkI {ks:List Rf} {i:Nat} (h:i<ks.length) (hf:br (iZ ks i).p (iZ ks i).t=false):ks.all (fun r=>br r.p r.t)=false:=by
 rw[List.all_eq_false];exact⟨iZ ks i,zkG h,by rw[hf];simp⟩
theorem zeo (q:Pg) (a:List Rf) (w:World) (hX:q.X<4294967296) (hY:q.Y<4294967296) (B:q.kn=a.length) (K:eO w q.ko q.kc a):
  Calls Tryz.prog 167 #[gv q] w fun e w'=>e=.returned (.bool (kS q a))∧Below w.heap.size w w':=by
 have g:=bF w (cX q);have h:=zq w (cX q);unfold kS;obtain⟨L,j⟩:∃ L,w.alloc (cX q)=L:=⟨_,rfl⟩;rw[j] at g h;have C:Hid (∀ W:World,Below w.heap.size w W→eO W q.ko q.kc a):=fun W hW=>eO.below K hW zn
 obtain⟨qk,qX,qY,N,a3,D,a4,a5,a6,a7,E,F⟩:=q;simp only at B C hX hY ⊢;subst B;have HG:Hid _:=h;have y:Hid _:=g;have k:Hid _:=j;have G:=sg E F;have O:Hid _:=qN;have P:Hid _:=nT qX qY N hX hY
 clear g h j K;simp only[gv];by_cases h2:2≤a.length
 ·have q2:¬(a.length:Int)<2:=uo
  by_cases h4:a.length≤4
  ·have q4:¬(4:Int)<(a.length:Int):=uo
   go_enter Tryz.func167,Tryz.ntmps167;go_wp2_with fail;rw[k.o]
   go_loopw [18] (fun Q wr=>∃ i:Nat,i≤a.length∧Q=.int .i64 (i:Int)∧(a.take i).all (fun r=>br r.p r.t)=true∧Below L.heap.size L wr) (fun Q _=>a.length - bu Q)
   case atStart=>exact⟨0,Nat.zero_le _,rfl,by simp,Below.refl _ _⟩
   case round=>
    obtain⟨i,hi,rfl,R,S⟩:=hrel;have HA:Hid _:=R;have H:Hid _:=S;have l:Hid _:=y.o.trans (S.mono y.o.size);have m:Hid _:=(S.block _ (zi HG.o).1).trans HG.o;by_cases d:i<a.length
    ·obtain⟨pb,a8,rfl,a9,hc⟩:=(C.o wr l.o).ref d
     obtain⟨d0,d1⟩:=hc i d;have n:=zmI d;have o:=zkI d;have s:Hid _:=O.o (iZ a i).p (iZ a i).t;generalize iZ a i=rr at*
     obtain⟨p,t⟩:=rr;have I:Hid _:=n;have T:Hid _:=o;have U:Hid (Below wr.heap.size wr (wr.alloc (.cells #[.int .u32 (p:Int),.string t] 49))):=bF wr _
     obtain⟨V,u⟩:∃ V,br p t=V:=⟨_,rfl⟩;rw[u] at s I;have Z:Hid _:=u;clear hc n o u;go_wp2_with fail;refine um (s.o _) fun w2 M=>?_;have J:Hid _:=H.o.trans ((U.o.trans (M.mono us)).mono H.o.size);cases V
     ·have f:Hid _:=T.o Z.o
      have b:Hid _:=y.o.trans (J.o.mono y.o.size);go_wp2_with fail;go_ret;rw[f.o];exact⟨by simp,b.o⟩
     ·have f:Hid ((a.take (i+1)).all (fun r=>br r.p r.t)=true):=by
       refine(?_:(a.take (i+1)).all (fun r=>br r.p r.t)=true);rw[I.o,HA.o];rfl
      go_wp2_with fail
      go_roundw
      case rel=>exact⟨i+1,by omega,by go_num,f.o,J.o⟩
      case measure=>simp[bu];omega
    ·obtain rfl:i=a.length:=uo
     have f:Hid (a.all (fun r=>br r.p r.t)=true):=by
      have:=HA.o;rw[List.take_length] at this;exact this
     obtain⟨⟨c0,c1,c2,c3,c4,c5,c6,c7⟩,lB⟩:=jA m.o;go_wp2_with fail;refine um (P.o _) fun w2 M=>?_;have b:Hid _:=l.o.trans (M.mono l.o.size);have a0:=(M.block _ (zi m.o).1).trans m.o;obtain⟨⟨c0,c1,c2,c3,c4,c5,c6,c7⟩,lB⟩:=jA a0;cases v:cP qX qY N
     ·have A:Hid _:=v
      go_wp2_with fail;go_ret;exact⟨by rw[f.o,A.o];simp,b.o⟩
     ·have A:Hid _:=v
      clear v;by_cases hL:0<N
      ·by_cases hz:D=0
       ·subst hz
        cases c:gW E F
        ·rw[c] at G
         have x:Hid _:=c;clear c;go_wp2_with fail;go_ret;exact⟨by rw[f.o,A.o,x.o];simp,b.o⟩
        ·rw[c] at G
         have x:Hid _:=c;clear c;go_wp2_with fail;go_ret;exact⟨by rw[f.o,A.o,x.o];simp,b.o⟩
       ·have q7:((D:Int)==0)=false:=by simp;omega
        go_wp2_with fail;go_ret;exact⟨by rw[f.o,A.o];simp[hz],b.o⟩
      ·have q6:=decide_eq_false hL
       have a1:Hid _:=q6;go_wp2_with fail;go_ret;exact⟨by rw[f.o,A.o,a1.o];simp,b.o⟩
  ·have q4:(4:Int)<(a.length:Int):=uo
   go_enter Tryz.func167,Tryz.ntmps167;go_wp2_with fail;rw[k.o];go_ret;exact⟨by simp,y.o⟩
 ·have q2:(a.length:Int)<2:=uo
  go_enter Tryz.func167,Tryz.ntmps167;go_wp2_with fail;rw[k.o];go_ret;exact⟨by simp[h2],y.o⟩
def jY (q:Pg) (l:List Rw) (ks:List Rf):Bool:=if q.k=1 then kR q l else if q.k=2 then kS q ks else false
structure eG (w:World) (q:Pg) (l:List Rw) (ks:List Rf):Prop where
 X32:q.X<4294967296
 Y32:q.Y<4294967296
 rn:q.rn=l.length
 rows:cH w q.ro q.rc l
 kn:q.kn=ks.length
 kids:eO w q.ko q.kc ks
theorem eG.below {w w':World} {q:Pg} {l:List Rw} {ks:List Rf} {B:Nat} (h:eG w q l ks) (hb:Below B w w') (hB:w.heap.size≤B):eG w' q l ks:=⟨h.X32,h.Y32,h.rn,cH.below h.rows hb hB,h.kn,eO.below h.kids hb hB⟩
theorem sr (q:Pg) (l:List Rw) (d:List Rf) (w:World) (h:eG w q l d):
  Calls Tryz.prog 120 #[gv q] w fun e r=>e=.returned (.bool (jY q l d))∧Below w.heap.size w r:=by
 have a:=bF w (cX q);have f:Hid (∀ _:True,_):=fun _=>zfk q l (w.alloc (cX q)) h.rn (cH.below h.rows a zn)
 have g:Hid (∀ _:True,_):=fun _=>zeo q d (w.alloc (cX q)) h.X32 h.Y32 h.kn (eO.below h.kids a zn)
 have c:Hid _:=a;unfold jY;obtain⟨n,i⟩:∃ n,kR q l=n:=⟨_,rfl⟩;obtain⟨o,j⟩:∃ o,kS q d=o:=⟨_,rfl⟩;obtain⟨k,D,E,F,s,t,u,v,x,y,z,A⟩:=q;by_cases p:k=1
 ·subst p
  go_enter Tryz.func120,Tryz.ntmps120;go_wp2_with fail;refine Calls.mono (f.o trivial) ?_;rintro e B ⟨rfl,m⟩;have b:Hid _:=c.o.trans (m.mono c.o.size);go_wp2_with fail;go_ret;exact⟨by simp,b.o⟩
 ·by_cases C:k=2
  ·subst C
   go_enter Tryz.func120,Tryz.ntmps120;go_wp2_with fail;refine Calls.mono (g.o trivial) ?_;rintro e B ⟨rfl,m⟩;have b:Hid _:=c.o.trans (m.mono c.o.size);go_wp2_with fail;go_ret;exact⟨by simp,b.o⟩
  ·have G:(k==1)=false:=by simpa using p
   go_enter Tryz.func120,Tryz.ntmps120;go_wp2_with fail;go_ret;exact⟨by simp,c.o⟩
def ns (q:Pg) (l:List Rw) (ks:List Rf):List UInt8:=if q.k=1 then jI l q.np q.nt else jJ q.X q.Y q.L.toNat ks
theorem zkJ {g:Nat} {d:Nat→Prop} {c:List UInt8} {W:World} (h:Wr g d c W) (e:0<c.length):∃ o a,W.cell? ⟨g,0,none⟩=some (.slice o c.length a)∧(convert 140 9 (.slice o c.length a)).run Tryz.prog W=.ok (.string ⟨c.toArray⟩) W:=by
 obtain⟨v,i,k,-⟩:=h.cell;obtain⟨o,a,rfl,l⟩:=dx k;refine⟨o,a,by rw[zr i];rfl,?_⟩;obtain⟨b,f,rfl,m,n⟩:=l.2.2.2.2 e;refine run_convert_bytes_back W 140 9 5 ⟨b,f,none⟩ a c Tryz.underlying140 Tryz.underlying5 Tryz.underlying9 fun j p=>?_
 rw[Addr.add_lit];refine n j _ ?_;simp[bc,List.getElem?_eq_getElem p]
theorem zeL {q:Pg} {l:List Rw} (h:kR q l=true):l.length≤4∧dg l=true∧(∀ r∈l,r.v.size≤16∧r.x<4294967296∧r.y<4294967296)∧q.nt.size≤100:=by
 unfold kR at h;simp only[Bool.and_eq_true,Bool.or_eq_true,decide_eq_true_eq] at h;obtain⟨b,f,c,-,-⟩:=h;refine⟨f,c,fun r d=>?_,?_⟩
 ·have g:=ji c r d
  obtain⟨i,e,rfl⟩:=List.getElem_of_mem d;have a:=((jx l i).1 (((iX l).1 c).2 i e)).1;rw[lL e] at a;unfold jg at a;simp only[decide_eq_true_eq] at a;exact⟨a.2.2,by omega,by omega⟩
 ·rcases b with b|b
  ·unfold gW at b
   simp only[Bool.and_eq_true,decide_eq_true_eq] at b;rw[b.2];decide
  ·unfold br at b
   simp only[Bool.and_eq_true,decide_eq_true_eq] at b;omega
theorem zg8 {q:Pg} {a:List Rf} (h:kS q a=true):a.length≤4∧(∀ r∈a,r.t.size≤100)∧q.L=(q.L.toNat:Int)∧q.L.toNat≤1000:=by
 unfold kS at h;simp only[Bool.and_eq_true,decide_eq_true_eq,List.all_eq_true] at h;obtain⟨d,e,b,f,-,-⟩:=h
 have c:q.L≤31:=by
  unfold cP at b;simp only[decide_eq_true_eq] at b;omega
 refine⟨d.2,fun r c=>?_,by omega,by omega⟩;have:=e r c;unfold br at this;simp only[Bool.and_eq_true,decide_eq_true_eq] at this;omega
theorem zkK (q:Pg) (l:List Rw) (o:List Rf) (w:World) (h:eG w q l o) (C:q.np<4294967296) (D:∀ r∈o,r.p<4294967296) (s:jY q l o=true):
  Calls Tryz.prog 197 #[gv q] w fun e w'=>e=.returned (.tuple #[.string ⟨(ns q l o).toArray⟩,.int .i64 0])∧Below w.heap.size w w':=by
 have t:=bF w (cX q);have y:=zq w (cX q);have u:Hid (∀ _:True,_):=fun _=>sr q l o (w.alloc (cX q)) (h.below t zn)
 rw[s] at u
 have E:(q.k=1∧kR q l=true)∨(q.k=2∧kS q o=true):=by
  unfold jY at s;by_cases X:q.k=1
  ·rw[if_pos X] at s;exact .inl ⟨X,s⟩
  ·rw[if_neg X] at s
   by_cases Y:q.k=2
   ·rw[if_pos Y] at s;exact .inr ⟨Y,s⟩
   ·rw[if_neg Y] at s;cases s
 have c:Hid _:=h;obtain⟨W1,z⟩:∃ W1,w.alloc (cX q)=W1:=⟨_,rfl⟩;rw[z] at t y u;have HB:Hid _:=t;have HG:Hid _:=y;have Z:Hid _:=D;have F:Hid _:=fun(g:Nat)=>zg6 g (fun j=>j=g) [] q l us
 have G:Hid _:=fun(g:Nat)=>zf6 g (fun j=>j=g) [] q o q.L.toNat us
 have H:Hid _:=z;clear t y z s D h;obtain⟨x,I⟩:∃ x,ns q l o=x:=⟨_,rfl⟩;have J:Hid _:=I;rw[I];obtain⟨qk,qX,qY,qL,a2,a3,a4,a5,a6,a7,K,M⟩:=q;have N:Hid _:=H.o;go_enter Tryz.func197,Tryz.ntmps197;go_wp2_with fail;rw[N.o];refine Calls.mono (u.o trivial) ?_;rintro e f ⟨rfl,b2⟩;have a:Hid _:=HB.o.trans (b2.mono HB.o.size);obtain⟨⟨c0,c1,c2,c3,c4,c5,c6,c7⟩,lB⟩:=jA ((b2.block _ (zi HG.o).1).trans HG.o);have O:Hid (Wr f.heap.size (fun j=>j=f.heap.size) [] (f.alloc (.cells #[.slice none 0 0] 301))):=⟨⟨_,zq f _,World.ownsRow_nil _ _ _ _,fun b hb=>by simp[Value.ownBlock] at hb⟩,rfl,fun j hj=>by subst hj;simp⟩
 rcases E with⟨rfl,V⟩|⟨rfl,V⟩
 ·have v:=zeL V
  have i:Hid (jI l K M=x):=by
   refine(?_:jI l K M=x);have:=J.o;unfold ns at this;simpa using this
  have d:=F.o f.heap.size uo v.2.2.1 C v.2.2.2 (f.alloc (.cells #[.slice none 0 0] 301)) O.o c.o.rn (cH.below (cH.below c.o.rows a.o zn) (bF f _) zn) (fun b a0 e h0 eb=>?_)
  ·simp only[List.nil_append,gv] at d
   rw[i.o] at d;have A:Hid (∀ _:True,_):=fun _=>d
   have m:0<x.length:=by rw[←i.o];unfold jI;simp[bn]
   go_wp2_with fail;refine Calls.mono (A.o trivial) ?_;rintro e w4 ⟨rfl,P,k1,n,W⟩;obtain⟨o4,Q,cw,a1⟩:=zkJ W m;have B:Hid _:=a.o.trans ⟨n.os,n.tape,n.output,by have:=n.size;simp at this;omega,fun j hj=>(n.block j (by have:=a.o.size;simp;omega) (fun e=>by have:=a.o.size;omega)).trans ((bF f _).block j (by have:=a.o.size;omega))⟩;go_wp2_with fail;go_ret2;exact⟨rfl,B.o⟩
  ·obtain⟨b',R,S,T,-⟩:=c.o.rows.2.2.2.2 h0
   rw[e] at S;cases S;omega
 ·have v:=zg8 V
  have i:Hid (jJ qX qY qL.toNat o=x):=by
   refine(?_:jJ qX qY qL.toNat o=x);have:=J.o;unfold ns at this;simpa using this
  have d:=G.o f.heap.size uo (fun r U=>⟨v.2.1 r U,Z.o r U⟩) c.o.X32 c.o.Y32 v.2.2.1 v.2.2.2 (f.alloc (.cells #[.slice none 0 0] 301)) O.o c.o.kn (eO.below (eO.below c.o.kids a.o zn) (bF f _) zn) (fun b a0 e h0 eb=>?_)
  ·simp only[List.nil_append,gv] at d
   rw[i.o] at d;have A:Hid (∀ _:True,_):=fun _=>d
   clear d v V;go_wp2_with fail;refine Calls.mono (A.o trivial) ?_;rintro e w4 ⟨rfl,P,k1,n,W⟩;obtain⟨o4,Q,cw,a1⟩:=zkJ W (by rw[←i.o];unfold jJ;simp[bn]);have B:Hid _:=a.o.trans ⟨n.os,n.tape,n.output,by have:=n.size;simp at this;omega,fun j hj=>(n.block j (by have:=a.o.size;simp;omega) (fun e=>by have:=a.o.size;omega)).trans ((bF f _).block j (by have:=a.o.size;omega))⟩;go_wp2_with fail;go_ret2;exact⟨rfl,B.o⟩
  ·obtain⟨b',R,S,T,-⟩:=c.o.kids.2.2.2.2 h0
   rw[e] at S;cases S;omega
theorem zkL (q:Pg) (l:List Rw) (c:List Rf) (w:World) (h:eG w q l c) (g:jY q l c=false):
  Calls Tryz.prog 197 #[gv q] w fun e i=>e=.returned (.tuple #[.string ⟨#[]⟩,.int .i64 90])∧Below w.heap.size w i:=by
 have a:=bF w (cX q);have b:Hid (∀ _:True,_):=fun _=>sr q l c (w.alloc (cX q)) (h.below a zn)
 have f:Hid _:=a;go_enter Tryz.func197,Tryz.ntmps197;go_wp2_with fail;refine Calls.mono (b.o trivial) ?_;rintro e k ⟨rfl,j⟩;have d:Hid _:=f.o.trans (j.mono f.o.size);go_wp2_with fail;go_ret2;exact⟨rfl,d.o⟩
def Rd (g:Nat) (rest:ByteArray) (sh:Bool) (W:World):Prop:=W.heap[g]? =some (.cells #[.string rest,.bool sh] 193 (0,0))
theorem mw {g:Nat} {a:ByteArray} {b:Bool} {W:World} (h:Rd g a b W):W.cell? ⟨g,0,none⟩=some (.string a)∧W.cell? ⟨g,1,none⟩=some (.bool b)∧g<W.heap.size∧W.frozen? ⟨g,0,none⟩=false∧W.frozen? ⟨g,1,none⟩=false:=
 ⟨by rw[zr h];rfl,by rw[zr h];rfl,(zi h).1,frozen_of_row W _ 0 _ _ h,frozen_of_row W _ 1 _ _ h⟩
abbrev Bo (g:Nat) (w w':World):Prop:=bC (fun k=>k=g) w w'
theorem ss (W:World) (g k:Nat) (v:Value):Bo g W (W.setCell ⟨g,k,none⟩ v):=⟨rfl,rfl,rfl,by simp[World.setCell],fun j _ hn=>Below.heap_setCell _ _ _ _ (fun e=>hn e)⟩
theorem zoD {g:Nat} {rest r:ByteArray} {sh:Bool} {W:World} (h:Rd g rest sh W):Rd g r sh (W.setCell ⟨g,0,none⟩ (.string r)):=by
 have:=zx W g 0 _ _ (.string r) h;simpa [Rd] using this
theorem zoE {g:Nat} {rest:ByteArray} {sh b:Bool} {W:World} (h:Rd g rest sh W):Rd g rest b (W.setCell ⟨g,1,none⟩ (.bool b)):=by
 have:=zx W g 1 _ _ (.bool b) h;simpa [Rd] using this
theorem zkN (g:Nat) (a:ByteArray) (b:Bool) (n:Nat) (c:b=true∨a.size<n) (w:World) (h:Rd g a b w):
  Calls Tryz.prog 201 #[.pointer (some ⟨g,0,none⟩),.int .i64 (n:Int)] w fun e d=>e=.returned (.string ⟨#[]⟩)∧Rd g a true d∧Bo g w d:=by
 obtain⟨j,k,l,m,o⟩:=mw h;have f:Hid (Rd g a true (w.setCell ⟨g,1,none⟩ (.bool true))∧Bo g w (w.setCell ⟨g,1,none⟩ (.bool true))):=⟨zoE h,ss w g 1 _⟩;cases b
 ·have i:a.size<n:=by simpa using c
  go_enter Tryz.func201,Tryz.ntmps201;go_wp2_with fail;go_ret;exact⟨rfl,f.o⟩
 ·go_enter Tryz.func201,Tryz.ntmps201
  go_wp2_with fail;go_ret;exact⟨rfl,f.o⟩
theorem zkO (g:Nat) (a:ByteArray) (n:Nat) (d:n≤a.size) (w:World) (h:Rd g a false w):
  Calls Tryz.prog 201 #[.pointer (some ⟨g,0,none⟩),.int .i64 (n:Int)] w fun e b=>e=.returned (.string (a.extract 0 n))∧Rd g (a.extract n a.size) false b∧Bo g w b:=by
 obtain⟨f,i,j,k,l⟩:=mw h;have c:Hid (Rd g (a.extract n a.size) false (w.setCell ⟨g,0,none⟩ (.string (a.extract n a.size)))∧Bo g w (w.setCell ⟨g,0,none⟩ (.string (a.extract n a.size)))):=⟨zoD h,ss w g 0 _⟩
 go_enter Tryz.func201,Tryz.ntmps201;go_wp2_with fail;go_ret;exact⟨rfl,c.o⟩
attribute [local go_sem] Oper.semAt_some
def bt (s:ByteArray) (i:Nat):Nat:=(s.data[i]?.getD 0).toNat
def cm (s:ByteArray):Nat→Nat
 |0=>0
 |k+1=>cm s k+bt s k*2 ^ (8*k)
theorem sx (s:ByteArray) (i:Nat):bt s i<256:=(s.data[i]?.getD 0).toNat_lt
theorem oq (s:ByteArray):∀ k,cm s k<2 ^ (8*k)
 |0=>by simp[cm]
 |k+1=>by
  have c:=oq s k;have e:2 ^ (8*(k+1))=256*2 ^ (8*k):=by rw[Nat.mul_add,Nat.pow_add,Nat.mul_comm]
  rw[e,cm];have b:(bt s k+1)*2 ^ (8*k)≤256*2 ^ (8*k):=Nat.mul_le_mul_right _ (sx s k);rw[Nat.succ_mul] at b;omega
theorem zoG (s:ByteArray) (k:Nat):cm s k|||(bt s k<<<(8*k))=cm s (k+1):=by
 rw[Nat.or_comm,←Nat.shiftLeft_add_eq_or_of_lt (oq s k),Nat.shiftLeft_eq,cm,Nat.add_comm]
structure NJ (g6:Nat) (s:ByteArray) (Wf:World) (own:Nat→Prop) (t:Nat) (W:World):Prop where
 box:W.heap[g6]? =some (.cells #[.int .u64 (cm s t:Int)] 42 (0,0))
 own:∀ j,own j↔j=g6
 but:bC (fun j=>j=g6) Wf W
theorem NJ.kw {e:Nat} {s:ByteArray} {c:World} {a:Nat→Prop} {t:Nat} {W W':World} (h:NJ e s c a t W) (b:Kw c.heap.size a W W'):NJ e s c a t W':=
 ⟨(b.block _ (zi h.box).1 (.inr ((h.own _).2 rfl))).trans h.box,h.own,⟨b.os.trans h.but.os,b.tape.trans h.but.tape,b.output.trans h.but.output,Nat.le_trans h.but.size b.size,fun j d f=>(b.block j (Nat.lt_of_lt_of_le d h.but.size) (.inl d)).trans (h.but.block j d f)⟩⟩
theorem zkP (g:Nat) (a:ByteArray) (c:Bool) (d:Nat) (f:c=true∨a.size<d) (w:World) (h:Rd g a c w):
  Calls Tryz.prog 163 #[.pointer (some ⟨g,0,none⟩),.int .i64 (d:Int)] w fun e l=>e=.returned (.int .u64 0)∧Rd g a true l∧Bo g w l:=by
 have o:Hid _:=zkN g a c d f w h;refine(callsIn_wide (n:=5)).1 ?_;refine callsIn_of_wp_marks Tryz.func163 rfl trivial ?_ rfl;simp only[Tryz.ntmps163,eR,eS,eT,Nat.reduceAdd,Nat.reduceSub,eU,eV,eW,eX,eY,eZ];gi_wp2;refine⟨trivial,callsIn_wide.2 (Calls.mono o.o ?_)⟩;rintro e i ⟨rfl,m,p⟩;have b:=bF i (.cells #[.string ⟨#[]⟩] 9);obtain⟨u,v,q,-,-⟩:=mw m;have k:Hid (Rd g a true (i.alloc (.cells #[.string ⟨#[]⟩] 9))∧Bo g w (i.alloc (.cells #[.string ⟨#[]⟩] 9))):=⟨(b.block _ q).trans m,p.trans (bC.of_below b)⟩;gi_wp2;refine lY (fun W=>results_tmp rfl _ _ _) [] _ us (fun E r=>by simp at r) fun s b=>⟨rfl,?_,?_⟩
 ·exact(b.block g (zi k.o.1).1 us).trans k.o.1
 ·exact k.o.2.trans (b.more fun j _ t=>by simp at t)
theorem zkQ (g:Nat) (f:ByteArray) (q:Nat) (X:q≤8) (hr:q≤f.size) (w:World) (h:Rd g f false w):
  Calls Tryz.prog 163 #[.pointer (some ⟨g,0,none⟩),.int .i64 (q:Int)] w fun e w'=>e=.returned (.int .u64 (cm (f.extract 0 q) q:Int))∧Rd g (f.extract q f.size) false w'∧Bo g w w':=by
 have HT:Hid _:=zkO g f q hr w h;have Y:(f.extract 0 q).size=q:=by rw[ByteArray.size_extract];omega
 obtain⟨s,hs⟩:∃ s,f.extract 0 q=s:=⟨_,rfl⟩;obtain⟨Z,J⟩:∃ Z,f.extract q f.size=Z:=⟨_,rfl⟩;rw[hs,J] at HT;rw[hs] at Y ⊢;rw[J];refine(callsIn_wide (n:=5)).1 ?_;refine callsIn_of_wp_marks Tryz.func163 rfl trivial ?_ rfl;simp only[Tryz.ntmps163,eR,eS,eT,Nat.reduceAdd,Nat.reduceSub,eU,eV,eW,eX,eY,eZ];gi_wp2;refine⟨trivial,callsIn_wide.2 (Calls.mono HT.o ?_)⟩;rintro e d ⟨rfl,r2,b2⟩;obtain⟨c0,c1,lg,-,-⟩:=mw r2;have L:Hid (Rd g Z false d∧Bo g w d):=⟨r2,b2⟩;gi_wp2;refine⟨trivial,callsIn_wide.2 ((zeJ q _).mono ?_)⟩;rintro e Wf ⟨rfl,M⟩;have N:((d.alloc (.cells #[.string s] 9)).alloc (.cells #[.int .u64 0] 42)).heap.size=d.heap.size+2:=by simp
 obtain⟨t1,t2,t3,t4,t5⟩:=ol d (.cells #[.string s] 9) (.cells #[.int .u64 0] 42) (.cells #[.int .i64 (q:Int)] 3);rw[N];rw[←M] at t1 t2 t3 t4 t5;have a0:Hid _:=t1;have a1:Hid _:=t2;have a2:Hid _:=t3;have a3:Hid _:=t4;have G:Hid _:=t5;clear N M t1 t2 t3 t4 t5 c0 c1;gi_wp2
 refine zeI uo (gf:=236) (lb:=#[.pointer (some ⟨d.heap.size+2,0,none⟩)]) rfl (enters_of Tryz.func236 uk rfl) (α:=Nat) q (fun k=>#[.int .i64 (8*(k:Int))]) (fun _=>rfl) (fun k x=>x=k)
  (fun b t W=>NJ (d.heap.size+1) s Wf b t W) (fun _ _=>False) .ret ?hJ ?hJx (fun j=>j=d.heap.size+1) ?hown0 ?h0
  (fun k a' _=>a'={ tmps:=#[.pointer (some ⟨g,0,none⟩),.int .i64 (q:Int),undef,undef,.int .u64 0,.pointer (some ⟨d.heap.size,0,none⟩),.pointer (some ⟨d.heap.size+1,0,none⟩),.int .i64 (8*(k:Int)),.pointer (some ⟨g,0,none⟩),.int .i64 (q:Int),.string s,.pointer (some ⟨g,0,none⟩),.pointer (some ⟨g,0,none⟩),.pointer (some ⟨g,1,none⟩),.bool false,.int .i64 (q:Int),.func (.func 236) #[] #[.pointer (some ⟨d.heap.size+2,0,none⟩)],.int .i64 (8*(k:Int)),undef,undef,undef,undef,undef,undef,undef,undef,undef,undef],defers:=[] }) ?hA ?assign ?body ?iter ?done ?stop
 case hJ=>intro b k A B h O;exact h.kw O
 case hJx=>intro b A B h _;exact h
 case hown0=>intro j C;have:=G.o;omega
 case h0=>exact⟨by simpa [cm] using a1.o,fun j=>Iff.rfl,bC.refl _ _⟩
 case hA=>intro x a' W l o' h _ _;exact h
 case assign=>
  intro V b k x m K O a4 a5 y r;clear a4 a5;gi_wp2;exact r _ _ (Below.refl _ _) rfl
 case iter=>
  intro V W5 am a6 an R' a7 ow a8 ao aj a9 aa;have hS:=G.o;refine zd7 Wf q (d.heap.size+2) X a2.o W5 a6 V R' a7 ow (fun j C=>?_) (fun b k W O ab y=>a9 b k k W O rfl ab y) aa;rcases(a8 j).1 C with a|rfl
  ·omega
  ·omega
 case stop=>intro D b m _ _ h _;exact h.elim
 case done=>
  intro D b m ac ap u ad;have ae:Hid _:=ad;have af:Hid _:=u;have c6:m.cell? ⟨d.heap.size+1,0,none⟩=some (.int .u64 (cm s q:Int)):=by rw[zr u.box];rfl
  have l6:=(zi u.box).1;gi_wp2;refine lY (fun W=>results_tmp rfl _ _ _) [D] m us (fun E hE=>by simp at hE;subst hE;exact ae.o) fun ag P=>?_
  have hS:=G.o;have I:=af.o.but;have Q:=a3.o
  have R:∀ j,j<d.heap.size→ag.heap[j]? =d.heap[j]? :=fun j C=>(P.block j (Nat.lt_of_lt_of_le uo I.size) fun e=>by
   have e':j=D:=by simpa using e
   omega).trans ((I.block j uo uo).trans (Q.block j C))
  refine⟨rfl,(R g lg).trans L.o.1,L.o.2.trans ⟨P.os.trans (I.os.trans Q.os),P.tape.trans (I.tape.trans Q.tape),P.output.trans (I.output.trans Q.output),Nat.le_trans Q.size (Nat.le_trans I.size P.size),fun j C _=>R j C⟩⟩
 case body=>
  rintro V b k x a' m O rfl u rfl y ar;have hS:=G.o;have x1:=(u.but.block d.heap.size uo uo).trans a0.o
  have c5:m.drew.cell? ⟨d.heap.size,0,none⟩=some (.string s):=by
   rw[World.cell?_of_block (a:=⟨d.heap.size,0,none⟩) (show m.drew.heap[d.heap.size]? =m.heap[d.heap.size]? from rfl),zr x1];rfl
  have c6:m.drew.cell? ⟨d.heap.size+1,0,none⟩=some (.int .u64 (cm s x:Int)):=by
   rw[World.cell?_of_block (a:=⟨d.heap.size+1,0,none⟩) (show m.drew.heap[d.heap.size+1]? =m.heap[d.heap.size+1]? from rfl),zr u.box];rfl
  have f6:=frozen_of_row m.drew _ 0 _ _ (show m.drew.heap[d.heap.size+1]? =_ from u.box);have ah:x<s.size:=uo
  have au:(s[x].toNat:Int)=(bt s x:Int):=by
   unfold bt;have e:=Array.getElem?_eq_getElem ah;rw[e];rfl
  have H:Hid (∃ z,(∀ j,z j→b j∨(m.heap.size≤j∧j<(m.drew.setCell ⟨d.heap.size+1,0,none⟩ (.int .u64 (cm s (x+1):Int))).heap.size))∧bC b m (m.drew.setCell ⟨d.heap.size+1,0,none⟩ (.int .u64 (cm s (x+1):Int)))∧NJ (d.heap.size+1) s Wf z (x+1) (m.drew.setCell ⟨d.heap.size+1,0,none⟩ (.int .u64 (cm s (x+1):Int)))):=by
   have S:Bo (d.heap.size+1) m (m.drew.setCell ⟨d.heap.size+1,0,none⟩ (.int .u64 (cm s (x+1):Int))):=by
    have:=ss m.drew (d.heap.size+1) 0 (.int .u64 (cm s (x+1):Int));exact⟨this.os,this.tape,this.output,this.size,this.block⟩
   refine⟨b,fun j C=>.inl C,S.more fun j _ C=>(u.own j).2 C,?_,u.own,u.but.trans S⟩;have:=zx m.drew (d.heap.size+1) 0 _ _ (.int .u64 (cm s (x+1):Int)) (show m.drew.heap[d.heap.size+1]? =_ from u.box);simpa using this
  have ai:Tryz.prog.follows .mixedOrders=true:=uk
  have av:=sx s x;have ak:2 ^ (8*(x+1))≤18446744073709551616:=Nat.le_trans (Nat.pow_le_pow_right ud (show 8*(x+1)≤64 by omega)) ud;have aw:=oq s (x+1);have ax:cm s (x+1)=cm s x+bt s x*2 ^ (8*x):=rfl
  have T:Hid ((0:Int)≤(bt s x:Int)*2 ^ (8*x)∧(bt s x:Int)*2 ^ (8*x)≤18446744073709551615):=by
   have e:((bt s x*2 ^ (8*x):Nat):Int)=(bt s x:Int)*2 ^ (8*x):=by push_cast;rfl
   refine(?_:_∧_);rw[←e];omega
  have U:Hid (bits BinOp.or IntKind.u64 (cm s x:Int) ((bt s x:Int)*2 ^ (8*x))=(cm s (x+1):Int)):=by
   refine(?_:bits BinOp.or IntKind.u64 (cm s x:Int) ((bt s x:Int)*2 ^ (8*x))=(cm s (x+1):Int));have e:((bt s x*2 ^ (8*x):Nat):Int)=(bt s x:Int)*2 ^ (8*x):=by push_cast;rfl
   rw[←e,u64_or_nat _ _ uo uo,←zoG,Nat.shiftLeft_eq]
  have q3:(8*(x:Int)).tdiv 8=(x:Int):=by rw[Int.mul_tdiv_cancel_left _ ud]
  have q4:IntKind.i64.wrap (x:Int)=(x:Int):=wrap_i64 uo uo;gi_wp2;refine wpIn_region_any ai ?_;change wpAnyIn _ _ _ _ _ _ _ _ _ (World.drew _);refine mu (F:=Fence.wide) V (by intro o ho c hc;simp at ho;rcases ho with rfl|rfl|rfl|rfl|rfl|rfl|rfl|rfl|rfl|rfl<;>cases hc) _ _ _ _ ?_;refine cV (i:=2) (v:=?_) rfl rfl ?_ ?_;rotate_left
  ·intro w
   go_simp
   try with_reducible rfl
  conv in(Act.put _ _ _)=>simp only[bH,bI,bJ,Act.put,bK,bL,bM]
  refine cV (i:=6) (v:=?_) rfl rfl ?_ ?_;rotate_left
  ·intro w
   go_simp
   try with_reducible rfl
  conv in(Act.put _ _ _)=>simp only[bH,bI,bJ,Act.put,bK,bL,bM]
  refine cV (i:=3) (v:=.int .i64 (x:Int)) rfl rfl ?_ ?_
  ·intro w
   go_simp
   all_goals (try rw[q3])
   all_goals (try rw[q4])
  conv in(Act.put _ _ _)=>simp only[bH,bI,bJ,Act.put,bK,bL,bM]
  refine wpAnyIn_ready (rs:=[0,1]) uk us ?_;refine(AllReadyIn.cons rfl (fun K r=>?_) (AllReadyIn.cons rfl (fun K r=>?_) AllReadyIn.nil))
  ·go_simp
   refine r _ _ ?_;refine wpAnyIn_ready (rs:=[1]) uk us ?_;refine(AllReadyIn.cons rfl (fun K r=>?_) AllReadyIn.nil);go_simp;refine r _ _ ?_;refine cV (i:=4) (v:=.int .u8 (bt s x:Int)) rfl rfl ?_ ?_
   ·intro w
    go_simp
   conv in(Act.put _ _ _)=>simp only[bH,bI,bJ,Act.put,bK,bL,bM]
   refine cV (i:=5) (v:=.int .u64 (bt s x:Int)) rfl rfl ?_ ?_
   ·intro w
    go_simp
    all_goals (try exact IntWalk.u64_in _ ⟨by omega,by omega⟩)
   conv in(Act.put _ _ _)=>simp only[bH,bI,bJ,Act.put,bK,bL,bM]
   refine cV (i:=7) (v:=.int .u64 ((bt s x*2 ^ (8*x):Nat):Int)) rfl rfl ?_ ?_
   ·intro w
    go_simp;rw[show(8*(x:Int)).toNat=8*x by omega];exact IntWalk.u64_in _ T.o
   conv in(Act.put _ _ _)=>simp only[bH,bI,bJ,Act.put,bK,bL,bM]
   refine cV (i:=8) (v:=.int .u64 (cm s (x+1):Int)) rfl rfl ?_ ?_
   ·intro w
    go_simp;exact U.o
   conv in(Act.put _ _ _)=>simp only[bH,bI,bJ,Act.put,bK,bL,bM]
   refine wpAnyIn_ready (rs:=[9]) uk us ?_;refine(AllReadyIn.cons rfl (fun K r=>?_) AllReadyIn.nil);go_simp;refine r _ _ ?_;refine wpAnyIn_done uk ?_ _;gi_wp2;exact H.o
  ·go_simp
   refine r _ _ ?_;refine cV (i:=4) (v:=.int .u8 (bt s x:Int)) rfl rfl ?_ ?_
   ·intro w
    go_simp
   conv in(Act.put _ _ _)=>simp only[bH,bI,bJ,Act.put,bK,bL,bM]
   refine cV (i:=5) (v:=.int .u64 (bt s x:Int)) rfl rfl ?_ ?_
   ·intro w
    go_simp
    all_goals (try exact IntWalk.u64_in _ ⟨by omega,by omega⟩)
   conv in(Act.put _ _ _)=>simp only[bH,bI,bJ,Act.put,bK,bL,bM]
   refine cV (i:=7) (v:=.int .u64 ((bt s x*2 ^ (8*x):Nat):Int)) rfl rfl ?_ ?_
   ·intro w
    go_simp;rw[show(8*(x:Int)).toNat=8*x by omega];exact IntWalk.u64_in _ T.o
   conv in(Act.put _ _ _)=>simp only[bH,bI,bJ,Act.put,bK,bL,bM]
   refine wpAnyIn_ready (rs:=[0]) uk us ?_;refine(AllReadyIn.cons rfl (fun K r=>?_) AllReadyIn.nil);go_simp;refine r _ _ ?_;refine cV (i:=8) (v:=.int .u64 (cm s (x+1):Int)) rfl rfl ?_ ?_
   ·intro w
    go_simp;exact U.o
   conv in(Act.put _ _ _)=>simp only[bH,bI,bJ,Act.put,bK,bL,bM]
   refine wpAnyIn_ready (rs:=[9]) uk us ?_;refine(AllReadyIn.cons rfl (fun K r=>?_) AllReadyIn.nil);go_simp;refine r _ _ ?_;refine wpAnyIn_done uk ?_ _;gi_wp2;exact H.o
end Rw
namespace Rw
open Go.RowKit Go.Lib Go.Shelf
open Rc Rq
structure RS where
 r:ByteArray
 s:Bool
def jo (st:RS) (n:Nat):Bool:= !st.s&&decide (n≤st.r.size)
def eH (st:RS) (n:Nat):ByteArray:=if jo st n=true then st.r.extract 0 n else⟨#[]⟩
def bU (st:RS) (n:Nat):Nat:=if jo st n=true then cm (st.r.extract 0 n) n else 0
def bD (st:RS) (n:Nat):RS:=if jo st n=true then⟨st.r.extract n st.r.size,false⟩ else⟨st.r,true⟩
abbrev dC (g:Nat) (st:RS) (W:World):Prop:=Rd g st.r st.s W
theorem znL {st:RS} {n:Nat} (h:jo st n=false):st.s=true∨st.r.size<n:=by
 unfold jo at h;cases hs:st.s
 ·rw[hs] at h
  simp at h;exact .inr h
 ·exact .inl rfl
theorem sy {st:RS} {n:Nat} (h:jo st n=true):st.s=false∧n≤st.r.size:=by
 unfold jo at h;simpa using h
theorem nf (g:Nat) (a:RS) (n:Nat) (w:World) (h:dC g a w):
  Calls Tryz.prog 201 #[.pointer (some ⟨g,0,none⟩),.int .i64 (n:Int)] w fun e b=>e=.returned (.string (eH a n))∧dC g (bD a n) b∧Bo g w b:=by
 unfold eH bD;cases c:jo a n
 ·simpa using zkN g a.r a.s n (znL c) w h
 ·obtain⟨d,f⟩:=sy c
  simpa using zkO g a.r n f w (d▸h)
theorem jK (g:Nat) (a:RS) (n:Nat) (d:n≤8) (w:World) (h:dC g a w):
  Calls Tryz.prog 163 #[.pointer (some ⟨g,0,none⟩),.int .i64 (n:Int)] w fun e b=>e=.returned (.int .u64 (bU a n:Int))∧dC g (bD a n) b∧Bo g w b:=by
 unfold bU bD;cases c:jo a n
 ·simpa using zkP g a.r a.s n (znL c) w h
 ·obtain⟨f,i⟩:=sy c
  simpa using zkQ g a.r n d i w (f▸h)
theorem iQ (st:RS) (n:Nat):bU st n<2 ^ (8*n):=by
 unfold bU;split
 ·exact oq _ _
 ·exact Nat.pow_pos ud
theorem zha {j:Func} {p:Tmp} (h:j.results=#[.cell p 79]) (e:Array Value) (w:World) (g:Nat) (a b c d:Value) {t:TypeId} {k:Nat × Nat}
  (l:e.getD p undef=.pointer (some ⟨g,0,none⟩)) (f:w.heap[g]? =some (.cells #[a,b,c,d] t k)):(results j e).run Tryz.prog w=.ok (.agg #[a,b,c,d]) w:=by
 have m:w.cell? ⟨g,0,none⟩=some a:=by rw[zr f];rfl
 have n:w.cell? ⟨g,1,none⟩=some b:=by rw[zr f];rfl
 have o:w.cell? ⟨g,2,none⟩=some c:=by rw[zr f];rfl
 have q:w.cell? ⟨g,3,none⟩=some d:=by rw[zr f];rfl
 simp[results,h,(by simpa using l),asAddr,go_sem,m,n,o,q]
theorem zea {e:Func} {p:Tmp} (h:e.results=#[.cell p 49]) (c:Array Value) (w:World) (g:Nat) (a b:Value) {t:TypeId} {i:Nat × Nat}
  (j:c.getD p undef=.pointer (some ⟨g,0,none⟩)) (f:w.heap[g]? =some (.cells #[a,b] t i)):(results e c).run Tryz.prog w=.ok (.agg #[a,b]) w:=by
 have k:w.cell? ⟨g,0,none⟩=some a:=by rw[zr f];rfl
 have l:w.cell? ⟨g,1,none⟩=some b:=by rw[zr f];rfl
 simp[results,h,(by simpa using j),asAddr,go_sem,k,l]
def lE (st:RS):RS:=bD st 8
def jp (st:RS):RS:=bD (lE st) 4
def jZ (st:RS):RS:=bD (jp st) 4
def jq (st:RS):RS:=bD (jZ st) 1
def dZ (st:RS):Rw:=⟨bU st 8,bU (lE st) 4,bU (jp st) 4,eH (jq st) (bU (jZ st) 1)⟩
def eu (st:RS):RS:=bD (jq st) (bU (jZ st) 1)
theorem zoH (g:Nat) (a:RS) (w:World) (h:dC g a w):
  Calls Tryz.prog 205 #[.pointer (some ⟨g,0,none⟩)] w fun e V=>e=.returned (rv (dZ a))∧dC g (eu a) V∧Bo g w V:=by
 have lg:=(zi h).1;have s:=bF w (.cells #[.int .u64 0,.int .u32 0,.int .u32 0,.string ⟨#[]⟩] 79);have f:Hid ((w.alloc (.cells #[.int .u64 0,.int .u32 0,.int .u32 0,.string ⟨#[]⟩] 79)).heap[w.heap.size]? =some (.cells #[.int .u64 0,.int .u32 0,.int .u32 0,.string ⟨#[]⟩] 79 (0,0))):=zq w _;have t:Hid _:=(s.block _ lg).trans h;have u:Hid (Bo g w (w.alloc (.cells #[.int .u64 0,.int .u32 0,.int .u32 0,.string ⟨#[]⟩] 79))):=bC.of_below s;have c:Hid _:=fun a n h1 w h=>jK g a n h1 w h
 have J:Hid _:=fun a n w h=>nf g a n w h
 have W:=iQ (lE a) 4;have X:=iQ (jp a) 4;have Y:=iQ (jZ a) 1;unfold dZ;simp only[rv];obtain⟨v,z⟩:∃ v,bU a 8=v:=⟨_,rfl⟩;obtain⟨x0,i⟩:∃ x0,bU (lE a) 4=x0:=⟨_,rfl⟩;obtain⟨y0,l⟩:∃ y0,bU (jp a) 4=y0:=⟨_,rfl⟩;obtain⟨m,o⟩:∃ m,bU (jZ a) 1=m:=⟨_,rfl⟩;obtain⟨A,B⟩:∃ A,eH (jq a) m=A:=⟨_,rfl⟩;unfold eu;rw[z,i,l,o,B];have C:Hid (bU a 8=v∧bU (lE a) 4=x0∧bU (jp a) 4=y0∧bU (jZ a) 1=m∧eH (jq a) m=A):=⟨z,i,l,o,B⟩
 obtain⟨K,p⟩:∃ K,w.alloc (.cells #[.int .u64 0,.int .u32 0,.int .u32 0,.string ⟨#[]⟩] 79)=K:=⟨_,rfl⟩;have L:Hid _:=p;rw[p] at f t u;clear p;have b:w.heap.size≠g:=uo
 go_enter Tryz.func205,Tryz.ntmps205;go_wp2_with fail;rw[L.o];refine(c.o a 8 uo K t.o).mono ?_;rintro e w1 ⟨rfl,r1,Z⟩;have M:Hid _:=r1;have N:Hid _:=u.o.trans Z;have D:Hid _:=(Z.block _ (zi f.o).1 b).trans f.o;rw[C.o.1];go_wp2_with fail;refine(c.o (lE a) 4 uo w1 M.o).mono ?_;rintro e w2 ⟨rfl,r2,b2⟩;have O:Hid _:=r2;have P:Hid _:=N.o.trans b2;have E:Hid _:=(b2.block _ (zi D.o).1 b).trans D.o;rw[C.o.2.1];go_wp2_with fail;refine(c.o (jp a) 4 uo w2 O.o).mono ?_;rintro e w3 ⟨rfl,r3,b3⟩
 have Q:Hid _:=r3;have R:Hid _:=P.o.trans b3;have F:Hid _:=(b3.block _ (zi E.o).1 b).trans E.o;rw[C.o.2.2.1];go_wp2_with fail;refine(c.o (jZ a) 1 uo w3 Q.o).mono ?_;rintro e w4 ⟨rfl,r4,b4⟩;have S:Hid _:=r4;have T:Hid _:=R.o.trans b4;have G:Hid _:=(b4.block _ (zi F.o).1 b).trans F.o;rw[C.o.2.2.2.1];go_wp2_with fail;refine(J.o (jq a) m w4 S.o).mono ?_;rintro e q ⟨rfl,r5,b5⟩;rw[C.o.2.2.2.2];have d:=(b5.block _ (zi G.o).1 b).trans G.o;obtain⟨⟨c0,c1,c2,c3⟩,-⟩:=mv (id:=0) (x:=0) (y:=0) (by simpa using d)
 have fz:∀ k,q.frozen? ⟨w.heap.size,k,none⟩=false:=fun k=>frozen_of_row q _ k _ _ d
 have U:Hid _:=d;have HE:Hid (dC g (bD (jq a) m) q∧Bo g w q):=⟨r5,T.o.trans b5⟩;have X4:=zx _ w.heap.size 3 _ _ (.string A) (zx _ w.heap.size 2 _ _ (.int .u32 (y0:Int)) (zx _ w.heap.size 1 _ _ (.int .u32 (x0:Int)) (zx q w.heap.size 0 _ _ (.int .u64 (v:Int)) U.o)));have HX:Hid _:=X4
 have H:∀ j,j≠w.heap.size→((((q.setCell ⟨w.heap.size,0,none⟩ (.int .u64 (v:Int))).setCell ⟨w.heap.size,1,none⟩ (.int .u32 (x0:Int))).setCell ⟨w.heap.size,2,none⟩ (.int .u32 (y0:Int))).setCell ⟨w.heap.size,3,none⟩ (.string A)).heap[j]? =q.heap[j]? :=fun j r=>by
  rw[Below.heap_setCell _ _ _ _ (fun e=>r e),Below.heap_setCell _ _ _ _ (fun e=>r e),Below.heap_setCell _ _ _ _ (fun e=>r e),Below.heap_setCell _ _ _ _ (fun e=>r e)]
 have HO:Hid _:=H;go_wp2_with fail;refine bodyPost_ret (zha rfl _ _ w.heap.size _ _ _ _ rfl HX.o) rfl ⟨rfl,(HO.o g uo).trans HE.o.1,?_⟩;have I:=HE.o.2;exact⟨I.os,I.tape,I.output,by have:=I.size;simp[World.setCell];exact this,fun j r hn=>(HO.o j uo).trans (I.block j r hn)⟩
def gm (p:Nat) (t:ByteArray):Bool:=decide (p=0)&&decide (t=iy)
theorem zpP (p:Nat) (t:ByteArray) (w:World):(binOp .eql 49 (.agg #[.int .u32 (p:Int),.string t]) (.agg #[.int .u32 0,.string iy])).run Tryz.prog w=.ok (.bool (gm p t)) w:=by
 rw[run_eql_struct,show(10000:Nat)=9999+1 from rfl,run_equalIn_agg w 9999 49 _ _ uk uk];simp only[Program.fieldsOf,Tryz.underlying49];unfold gm;obtain⟨c,d⟩:∃ c,iy=c:=⟨_,rfl⟩;rw[d];by_cases i:p=0
 ·subst i
  by_cases f:t=c
  ·subst f
   go_simp
  ·go_simp
   intro e;rw[ByteArray.toList_eq,ByteArray.toList_eq] at e;apply f;obtain⟨⟨a⟩⟩:=t;obtain⟨⟨b⟩⟩:=c;have j:a=b:=e;rw[j]
 ·go_simp
def dJ (st:RS):Rf:=if gm (bU st 4) (eH (bD st 4) 32)=true then⟨0,⟨#[]⟩⟩ else⟨bU st 4,eH (bD st 4) 32⟩
def eB (st:RS):RS:=bD (bD st 4) 32
theorem zkR (g:Nat) (st:RS) (w:World) (h:dC g st w):
  Calls Tryz.prog 203 #[.pointer (some ⟨g,0,none⟩)] w fun e w'=>e=.returned (dR (dJ st))∧dC g (eB st) w'∧Bo g w w':=by
 have lg:g<w.heap.size:=(zi h).1;have hbn:=bF w (.cells #[.int .u32 0,.string ⟨#[]⟩] 49);have HG0:Hid ((w.alloc (.cells #[.int .u32 0,.string ⟨#[]⟩] 49)).heap[w.heap.size]? =some (.cells #[.int .u32 0,.string ⟨#[]⟩] 49 (0,0))):=zq w _;have HR0:Hid (dC g st (w.alloc (.cells #[.int .u32 0,.string ⟨#[]⟩] 49))):=(hbn.block _ lg).trans h;have HB0:Hid (Bo g w (w.alloc (.cells #[.int .u32 0,.string ⟨#[]⟩] 49))):=bC.of_below hbn;have HNM:Hid _:=jK g st 4 uo;have HTX:Hid _:=nf g (bD st 4) 32;have n1:=iQ st 4;simp only[Nat.reduceMul,Nat.reducePow] at n1;unfold dJ eB;obtain⟨p,hp⟩:∃ p,bU st 4=p:=⟨_,rfl⟩;obtain⟨t,ht⟩:∃ t,eH (bD st 4) 32=t:=⟨_,rfl⟩;rw[hp] at n1 HNM ⊢;rw[ht] at HTX ⊢;have heq:=zpP p t;have q1:IntKind.u32.wrap (p:Int)=(p:Int):=IntWalk.u32_in _ ⟨by omega,by omega⟩;clear h hbn hp ht;obtain⟨W0,hW0⟩:∃ W0,w.alloc (.cells #[.int .u32 0,.string ⟨#[]⟩] 49)=W0:=⟨_,rfl⟩
 have HW0:Hid _:=hW0;rw[hW0] at HG0 HR0 HB0;clear hW0;have hng:w.heap.size≠g:=uo
 obtain⟨nb,hnb⟩:∃ nb,gm p t=nb:=⟨_,rfl⟩;rw[hnb] at heq ⊢;clear hnb;simp only[iy] at heq;go_enter Tryz.func203,Tryz.ntmps203;go_wp2_with fail;rw[HW0.o];clear HW0;refine(HNM.o W0 HR0.o).mono ?_;rintro e w1 ⟨rfl,r1,b1⟩;have HR1:Hid (dC g (bD st 4) w1):=r1;have HB1:Hid (Bo g w w1):=HB0.o.trans b1;have HG1:Hid (w1.heap[w.heap.size]? =some (.cells #[.int .u32 0,.string ⟨#[]⟩] 49 (0,0))):=(b1.block _ (zi HG0.o).1 hng).trans HG0.o;clear r1 b1 HR0 HB0 HG0;go_wp2_with fail;refine(HTX.o w1 HR1.o).mono ?_;rintro e w2 ⟨rfl,r2,b2⟩;have hg2:=(b2.block _ (zi HG1.o).1 hng).trans HG1.o;have l2:w.heap.size<w2.heap.size:=(zi hg2).1;have l2g:g<w2.heap.size:=(zi r2).1;have HR2:Hid (dC g (bD (bD st 4) 32) w2):=r2;have HB2:Hid (Bo g w w2):=HB1.o.trans b2;have HG2:Hid (w2.heap[w.heap.size]? =some (.cells #[.int .u32 0,.string ⟨#[]⟩] 49 (0,0))):=hg2;have f0:w2.frozen? ⟨w.heap.size,0,none⟩=false:=frozen_of_row w2 _ 0 _ _ hg2
 have f1:w2.frozen? ⟨w.heap.size,1,none⟩=false:=frozen_of_row w2 _ 1 _ _ hg2;have d0:w2.cell? ⟨w.heap.size,0,none⟩=some (.int .u32 0):=by rw[zr hg2];rfl
 have d1:w2.cell? ⟨w.heap.size,1,none⟩=some (.string ⟨#[]⟩):=by rw[zr hg2];rfl
 clear r2 b2 hg2 HR1 HB1 HG1;cases nb
 ·simp only
  have X1:=zx w2 w.heap.size 0 _ _ (.int .u32 (p:Int)) HG2.o;have X2:=zx _ w.heap.size 1 _ _ (.string t) X1;simp only[List.setIfInBounds_toArray,List.set_cons_zero,List.set_cons_succ] at X2;obtain⟨W4,hW4⟩:∃ W4,((w2.setCell ⟨w.heap.size,0,none⟩ (.int .u32 (p:Int))).setCell ⟨w.heap.size,1,none⟩ (.string t))=W4:=⟨_,rfl⟩;have hs4:W4.heap.size=w2.heap.size:=by rw[←hW4];simp[World.setCell]
  have hoth:∀ j,j≠w.heap.size→W4.heap[j]? =w2.heap[j]? :=fun j hj=>by
   rw[←hW4,Below.heap_setCell _ _ _ _ (fun e=>hj e),Below.heap_setCell _ _ _ _ (fun e=>hj e)]
  rw[hW4] at X2;have hbx:=bF W4 (.cells #[.int .u32 (p:Int),.string t] 49);have HX:Hid _:=(hbx.block _ uo).trans X2;have HRf:Hid (dC g (bD (bD st 4) 32) (W4.alloc (.cells #[.int .u32 (p:Int),.string t] 49))):=(hbx.block _ uo).trans ((hoth g uo).trans HR2.o)
  have HBf:Hid (Bo g w (W4.alloc (.cells #[.int .u32 (p:Int),.string t] 49))):=by
   have hb:=HB2.o;have ho:W4.os=w2.os∧W4.tape=w2.tape∧W4.output=w2.output:=by rw[←hW4];exact⟨rfl,rfl,rfl⟩
   have hsz:=hb.size;exact⟨hbx.os.trans (ho.1.trans hb.os),hbx.tape.trans (ho.2.1.trans hb.tape),hbx.output.trans (ho.2.2.trans hb.output),by have:=hbx.size;omega,fun j hj hn=>(hbx.block j uo).trans ((hoth j uo).trans (hb.block j hj hn))⟩
  have HW4:Hid _:=hW4;clear X1 X2 hoth hbx hs4 hW4;go_wp2_with fail;rw[HW4.o];exact bodyPost_ret (zea rfl _ _ w.heap.size _ _ rfl HX.o) rfl ⟨rfl,HRf.o,HBf.o⟩
 ·simp only
  have X1:=zx w2 w.heap.size 0 _ _ (.int .u32 0) HG2.o;have X2:=zx _ w.heap.size 1 _ _ (.string ⟨#[]⟩) X1;simp only[List.setIfInBounds_toArray,List.set_cons_zero,List.set_cons_succ] at X2;obtain⟨W4,hW4⟩:∃ W4,((w2.setCell ⟨w.heap.size,0,none⟩ (.int .u32 0)).setCell ⟨w.heap.size,1,none⟩ (.string ⟨#[]⟩))=W4:=⟨_,rfl⟩;have hs4:W4.heap.size=w2.heap.size:=by rw[←hW4];simp[World.setCell]
  have hoth:∀ j,j≠w.heap.size→W4.heap[j]? =w2.heap[j]? :=fun j hj=>by
   rw[←hW4,Below.heap_setCell _ _ _ _ (fun e=>hj e),Below.heap_setCell _ _ _ _ (fun e=>hj e)]
  rw[hW4] at X2;have hbx:=bF W4 (.cells #[.int .u32 (p:Int),.string t] 49);have HX:Hid _:=(hbx.block _ uo).trans X2;have HRf:Hid (dC g (bD (bD st 4) 32) (W4.alloc (.cells #[.int .u32 (p:Int),.string t] 49))):=(hbx.block _ uo).trans ((hoth g uo).trans HR2.o)
  have HBf:Hid (Bo g w (W4.alloc (.cells #[.int .u32 (p:Int),.string t] 49))):=by
   have hb:=HB2.o;have ho:W4.os=w2.os∧W4.tape=w2.tape∧W4.output=w2.output:=by rw[←hW4];exact⟨rfl,rfl,rfl⟩
   have hsz:=hb.size;exact⟨hbx.os.trans (ho.1.trans hb.os),hbx.tape.trans (ho.2.1.trans hb.tape),hbx.output.trans (ho.2.2.trans hb.output),by have:=hbx.size;omega,fun j hj hn=>(hbx.block j uo).trans ((hoth j uo).trans (hb.block j hj hn))⟩
  have HW4:Hid _:=hW4;clear X1 X2 hoth hbx hs4 hW4;go_wp2_with fail;rw[HW4.o];exact bodyPost_ret (zea rfl _ _ w.heap.size _ _ rfl HX.o) rfl ⟨rfl,HRf.o,HBf.o⟩
def cO {α:Type} (f:RS→α) (nx:RS→RS):Nat→RS→List α × RS
 |0,st=>([],st)
 |n+1,st=>if(nx st).s=true then([],nx st) else(f st::(cO f nx n (nx st)).1,(cO f nx n (nx st)).2)
theorem qO {α:Type} {f:RS→α} {nx:RS→RS} {n:Nat} {st:RS} (h:(nx st).s=true):cO f nx (n+1) st=([],nx st):=by rw[cO,if_pos h]
theorem qP {α:Type} {f:RS→α} {nx:RS→RS} {n:Nat} {st:RS} (h:(nx st).s=false):cO f nx (n+1) st=(f st::(cO f nx n (nx st)).1,(cO f nx n (nx st)).2):=by rw[cO,if_neg (by rw[h];simp)]
theorem zf7 {W W':World} {base:Nat} {v:Value} {n:Nat} {xs:List Value} (h:W.ownsRow base 79 4 v n xs) (hs:∀ b,base≤b→b<W.heap.size→W'.heap[b]? =W.heap[b]?):W'.ownsRow base 79 4 v n xs:=by
 refine⟨h.1,?_⟩;rcases h.2 with h2|⟨g,cap,cur,h1,h2,h3,h4⟩
 ·exact .inl h2
 ·exact .inr ⟨g,cap,cur,h1,h2,(hs g h2 (zi h3).1).trans h3,h4⟩
theorem zf8 {W:World} {base:Nat} {v:Value} {n:Nat} {xs:List Value} (h:W.ownsRow base 79 4 v n xs) {b:Nat} (hb:v.ownBlock=some b):base≤b:=by
 rcases h.2 with⟨rfl,-⟩|⟨g,cap,cur,rfl,h2,h3,-⟩
 ·simp[Value.ownBlock] at hb
 ·simp[Value.ownBlock] at hb
  omega
theorem zmJ {w:World} {g:Nat} {r:Rw} {t:TypeId} {fr:Nat × Nat} (h:w.heap[g]? =some (.cells #[.int .u64 (r.id:Int),.int .u32 (r.x:Int),.int .u32 (r.y:Int),.string r.v] t fr)):Sl 4 w (some ⟨g,0,none⟩) 1 1 (rc r):=by
 refine⟨Nat.le_refl _,by decide,(fun e=>by cases e),rfl,fun _=>⟨g,0,rfl,(zi h).1,fun j u hu=>?_⟩⟩;rw[Nat.zero_add,zr h];have:j<4:=(List.getElem?_eq_some_iff.1 hu).1;obtain rfl|rfl|rfl|rfl:j=0∨j=1∨j=2∨j=3:=uo
 all_goals exact hu
theorem zoI (r:Rw):∀ u∈rc r,u.oneCell'=true:=by
 intro u hu;simp[rc] at hu;rcases hu with rfl|rfl|rfl|rfl<;>rfl
abbrev tA (g:Nat):Value:=.func (.func 205) #[.pointer (some ⟨g,0,none⟩)] #[]
theorem zhb (g:Nat) (st:RS) (c:Nat) (hc:c≤1000) (w:World) (h:dC g st w):
  Calls Tryz.prog 204 #[.pointer (some ⟨g,0,none⟩),.int .u64 (c:Int),tA g] w fun e w'=>∃ v,e=.returned v∧w'.ownsRow w.heap.size 79 4 v (cO dZ eu c st).1.length ((cO dZ eu c st).1.flatMap rc)∧dC g (cO dZ eu c st).2 w'∧Bo g w w':=by
 have HR:Hid _:=zoH g;have H0:Hid (dC g st w):=h;have lg:g<w.heap.size:=(zi h).1;obtain⟨L,hL⟩:∃ L,cO dZ eu c st=L:=⟨_,rfl⟩;have HLL:Hid (cO dZ eu c st=L):=hL;rw[hL];clear h hL;go_enter Tryz.func204,Tryz.ntmps204;go_wp2_with fail;refine wp_scope_straight ?_;go_wp2_with fail;refine wp_label ?_;go_wp2_with fail
 go_loopw [7,10] (fun lv iv wr=>∃ (i:Nat) (xs:List Rw) (si:RS),i≤c∧iv=.int .u64 (i:Int)∧xs.length=i∧L=(xs++(cO dZ eu (c - i) si).1,(cO dZ eu (c - i) si).2)∧wr.ownsRow w.heap.size 79 4 lv i (xs.flatMap rc)∧dC g si wr∧Bo g w wr) (fun _ iv _=>c - bu iv)
 case atStart=>exact⟨0,[],st,Nat.zero_le _,rfl,rfl,by rw[←HLL.o];simp,World.ownsRow_nil _ _ _ _,H0.o,bC.refl _ _⟩
 case round=>
  obtain⟨i,xs,si,hi,rfl,hxl,hLe,ho,hrd,hbo⟩:=hrel;have HO:Hid _:=ho;have HRD:Hid (dC g si wr):=hrd;have HBO:Hid (Bo g w wr):=hbo;have HLE:Hid _:=hLe;have HXL:Hid (xs.length=i):=hxl;obtain⟨lo,lc,rfl,-⟩:=dx ho;clear ho hrd hbo hLe hxl;by_cases hlt:i<c
  ·have q1:(i:Int)<(c:Int):=uo
   obtain⟨k,hk⟩:∃ k,c - i=k+1:=⟨c - i - 1,by omega⟩;have hk2:c - (i+1)=k:=uo
   go_wp2_with fail;refine(HR.o si wr HRD.o).mono ?_;rintro e w1 ⟨rfl,r1,b1⟩;have hle:=HLE.o;rw[hk] at hle;obtain⟨⟨id,x,y,v⟩,hrw⟩:∃ r,dZ si=r:=⟨_,rfl⟩;rw[hrw];simp only[rv];have hbx:=bF w1 (.cells #[.int .u64 (id:Int),.int .u32 (x:Int),.int .u32 (y:Int),.string v] 79);obtain⟨c0,c1,lg1,-,-⟩:=mw r1;obtain⟨⟨s0,s1,s2,s3⟩,lB⟩:=mv (zq w1 (.cells #[.int .u64 (id:Int),.int .u32 (x:Int),.int .u32 (y:Int),.string v] 79));have HB1:Hid (Bo g w w1):=HBO.o.trans b1;have HB2:Hid (Bo g w (w1.alloc (.cells #[.int .u64 (id:Int),.int .u32 (x:Int),.int .u32 (y:Int),.string v] 79))):=HB1.o.trans (bC.of_below hbx);have HR2:Hid (dC g (eu si) (w1.alloc (.cells #[.int .u64 (id:Int),.int .u32 (x:Int),.int .u32 (y:Int),.string v] 79))):=(hbx.block _ lg1).trans r1;have HO1:Hid ((w1.alloc (.cells #[.int .u64 (id:Int),.int .u32 (x:Int),.int .u32 (y:Int),.string v] 79)).ownsRow w.heap.size 79 4 (.slice lo i lc) i (xs.flatMap rc)):=zf7 HO.o fun b hb hlt=>(hbx.block b (Nat.lt_of_lt_of_le hlt b1.size)).trans (b1.block b hlt uo)
   cases hsh:(eu si).s
   ·rw[hsh] at c1
    rw[qP hsh,hrw] at hle
    have HLE2:Hid (L=((xs++[⟨id,x,y,v⟩])++(cO dZ eu k (eu si)).1,(cO dZ eu k (eu si)).2)):=by
     refine(?_:L=_);rw[hle];simp
    obtain⟨W2,hW2⟩:∃ W2,w1.alloc (.cells #[.int .u64 (id:Int),.int .u32 (x:Int),.int .u32 (y:Int),.string v] 79)=W2:=⟨_,rfl⟩;have hsW:W2.heap.size=w1.heap.size+1:=by rw[←hW2];simp
    rw[hW2] at HB2 HR2 HO1;have hbn:=bF W2 (.cells #[.int .u64 (id:Int),.int .u32 (x:Int),.int .u32 (y:Int),.string v] 79)
    obtain⟨v',W',hrun,a1,a2,a3⟩:=iu 22 79 Tryz.underlying22 mF rfl ud ud (W2.alloc (.cells #[.int .u64 (id:Int),.int .u32 (x:Int),.int .u32 (y:Int),.string v] 79)) w.heap.size i 1 (.slice lo i lc) (some ⟨W2.heap.size,0,none⟩) 1
     (xs.flatMap rc) (rc ⟨id,x,y,v⟩) (zf7 HO1.o fun b _ hlt=>hbn.block b hlt) (by have:=HB2.o.size;simp;omega) (zmJ (r:=⟨id,x,y,v⟩) (zq W2 _)) (zoI _) uo
    have hgl:g<W2.heap.size:=(zi HR2.o).1;have hgw:∀ j,j<w.heap.size→W'.heap[j]? =W2.heap[j]? :=fun j hj=>(a2.block j (by have:=HB2.o.size;simp;omega) (fun e=>by have:=zf8 HO1.o e.symm;omega)).trans (hbn.block j (by have:=HB2.o.size;omega))
    have HFIN:Hid (W'.ownsRow w.heap.size 79 4 v' (i+1) ((xs++[(⟨id,x,y,v⟩:Rw)]).flatMap rc)∧dC g (eu si) W'∧Bo g w W'):=by
     refine⟨?_,(hgw g lg).trans HR2.o,?_⟩
     ·rw[List.flatMap_append];simpa using a1
     ·have hb:=HB2.o
      exact⟨a2.os.trans (hbn.os.trans hb.os),a2.tape.trans (hbn.tape.trans hb.tape),a2.output.trans (hbn.output.trans hb.output),Nat.le_trans hb.size (Nat.le_trans hbn.size a2.size),fun j hj hn=>(hgw j hj).trans (hb.block j hj hn)⟩
    obtain⟨lo',lc',rfl,-⟩:=dx a1;rw[←hW2] at hrun;have hs3:(w1.alloc (.cells #[.int .u64 (id:Int),.int .u32 (x:Int),.int .u32 (y:Int),.string v] 79)).heap.size=w1.heap.size+1:=by simp
    rw[hs3] at hrun;have q2:(i:Int)+1≤18446744073709551615:=uo
    clear r1 b1 hle hbx hbn a1 a2 a3 hgw hsW hs3 hW2 HB1 HB2 HR2 HO1
    go_wp2_with (at_builtin;refine gT rfl 22 22 (.tmp 18) (.tmp 20) rfl (vs:=.slice lo i lc) (vx:=.slice (some ⟨w1.heap.size+1,0,none⟩) 1 1) rfl rfl hrun ?_)
    go_roundw
    case rel=>exact⟨i+1,xs++[⟨id,x,y,v⟩],eu si,by omega,by go_num,by rw[List.length_append,HXL.o];rfl,by rw[hk2];exact HLE2.o,HFIN.o⟩
    case measure=>simp[bu];omega
   ·rw[hsh] at c1
    rw[qO hsh] at hle
    have HE:Hid (L=(xs,eu si)):=by
     refine(?_:L=(xs,eu si));rw[hle];simp
    clear r1 b1 hle hbx;go_wp2_with fail
    first|go_ret|(simp only[Exit.noGoto];go_ret)
    rw[HE.o];exact⟨_,rfl,by rw[HXL.o];exact HO1.o,HR2.o,HB2.o⟩
  ·obtain rfl:i=c:=uo
   have q1:¬(i:Int)<(i:Int):=uo
   have HE:Hid (L=(xs,si)):=by
    refine(?_:L=(xs,si));have:=HLE.o;rw[Nat.sub_self] at this;simpa [cO] using this
   go_wp2_with fail;go_ret;rw[HE.o];exact⟨_,rfl,by rw[HXL.o];exact HO.o,HRD.o,HBO.o⟩
theorem tB:(Tryz.prog.info? 49).map (fun i=>(i.zero,i.size,i.bytes))=some (some (.agg #[.int .u32 0,.string ⟨#[]⟩]),2,24):=uk
theorem zf9 {W W':World} {base:Nat} {v:Value} {n:Nat} {xs:List Value} (h:W.ownsRow base 49 2 v n xs) (hs:∀ b,base≤b→b<W.heap.size→W'.heap[b]? =W.heap[b]?):W'.ownsRow base 49 2 v n xs:=by
 refine⟨h.1,?_⟩;rcases h.2 with h2|⟨g,cap,cur,h1,h2,h3,h4⟩
 ·exact .inl h2
 ·exact .inr ⟨g,cap,cur,h1,h2,(hs g h2 (zi h3).1).trans h3,h4⟩
theorem zga {W:World} {base:Nat} {v:Value} {n:Nat} {xs:List Value} (h:W.ownsRow base 49 2 v n xs) {b:Nat} (hb:v.ownBlock=some b):base≤b:=by
 rcases h.2 with⟨rfl,-⟩|⟨g,cap,cur,rfl,h2,h3,-⟩
 ·simp[Value.ownBlock] at hb
 ·simp[Value.ownBlock] at hb
  omega
theorem zmK {w:World} {g:Nat} {r:Rf} {ty:TypeId} {fr:Nat × Nat} (h:w.heap[g]? =some (.cells #[.int .u32 (r.p:Int),.string r.t] ty fr)):Sl 2 w (some ⟨g,0,none⟩) 1 1 (fc r):=by
 refine⟨Nat.le_refl _,by decide,(fun e=>by cases e),rfl,fun _=>⟨g,0,rfl,(zi h).1,fun j u hu=>?_⟩⟩;rw[Nat.zero_add,zr h];have:j<2:=(List.getElem?_eq_some_iff.1 hu).1;obtain rfl|rfl:j=0∨j=1:=uo
 all_goals exact hu
theorem zoJ (r:Rf):∀ u∈fc r,u.oneCell'=true:=by
 intro u hu;simp[fc] at hu;rcases hu with rfl|rfl<;>rfl
abbrev tC (g:Nat):Value:=.func (.func 203) #[.pointer (some ⟨g,0,none⟩)] #[]
theorem zhd (g:Nat) (st:RS) (c:Nat) (hc:c≤1000) (w:World) (h:dC g st w):
  Calls Tryz.prog 206 #[.pointer (some ⟨g,0,none⟩),.int .u64 (c:Int),tC g] w fun e w'=>∃ v,e=.returned v∧w'.ownsRow w.heap.size 49 2 v (cO dJ eB c st).1.length ((cO dJ eB c st).1.flatMap fc)∧dC g (cO dJ eB c st).2 w'∧Bo g w w':=by
 have HR:Hid _:=zkR g;have H0:Hid (dC g st w):=h;have lg:g<w.heap.size:=(zi h).1;obtain⟨L,hL⟩:∃ L,cO dJ eB c st=L:=⟨_,rfl⟩;have HLL:Hid (cO dJ eB c st=L):=hL;rw[hL];clear h hL;go_enter Tryz.func206,Tryz.ntmps206;go_wp2_with fail;refine wp_scope_straight ?_;go_wp2_with fail;refine wp_label ?_;go_wp2_with fail
 go_loopw [7,10] (fun lv iv wr=>∃ (i:Nat) (xs:List Rf) (si:RS),i≤c∧iv=.int .u64 (i:Int)∧xs.length=i∧L=(xs++(cO dJ eB (c - i) si).1,(cO dJ eB (c - i) si).2)∧wr.ownsRow w.heap.size 49 2 lv i (xs.flatMap fc)∧dC g si wr∧Bo g w wr) (fun _ iv _=>c - bu iv)
 case atStart=>exact⟨0,[],st,Nat.zero_le _,rfl,rfl,by rw[←HLL.o];simp,World.ownsRow_nil _ _ _ _,H0.o,bC.refl _ _⟩
 case round=>
  obtain⟨i,xs,si,hi,rfl,hxl,hLe,ho,hrd,hbo⟩:=hrel;have HO:Hid _:=ho;have HRD:Hid (dC g si wr):=hrd;have HBO:Hid (Bo g w wr):=hbo;have HLE:Hid _:=hLe;have HXL:Hid (xs.length=i):=hxl;obtain⟨lo,lc,rfl,-⟩:=dx ho;clear ho hrd hbo hLe hxl;by_cases hlt:i<c
  ·have q1:(i:Int)<(c:Int):=uo
   obtain⟨k,hk⟩:∃ k,c - i=k+1:=⟨c - i - 1,by omega⟩;have hk2:c - (i+1)=k:=uo
   go_wp2_with fail;refine(HR.o si wr HRD.o).mono ?_;rintro e w1 ⟨rfl,r1,b1⟩;have hle:=HLE.o;rw[hk] at hle;obtain⟨⟨p,t⟩,hrw⟩:∃ r,dJ si=r:=⟨_,rfl⟩;rw[hrw];simp only[dR];have hbx:=bF w1 (.cells #[.int .u32 (p:Int),.string t] 49);obtain⟨c0,c1,lg1,-,-⟩:=mw r1;obtain⟨⟨s0,s1⟩,lB⟩:=oo (zq w1 (.cells #[.int .u32 (p:Int),.string t] 49));have HB1:Hid (Bo g w w1):=HBO.o.trans b1;have HB2:Hid (Bo g w (w1.alloc (.cells #[.int .u32 (p:Int),.string t] 49))):=HB1.o.trans (bC.of_below hbx);have HR2:Hid (dC g (eB si) (w1.alloc (.cells #[.int .u32 (p:Int),.string t] 49))):=(hbx.block _ lg1).trans r1;have HO1:Hid ((w1.alloc (.cells #[.int .u32 (p:Int),.string t] 49)).ownsRow w.heap.size 49 2 (.slice lo i lc) i (xs.flatMap fc)):=zf9 HO.o fun b hb hlt=>(hbx.block b (Nat.lt_of_lt_of_le hlt b1.size)).trans (b1.block b hlt uo)
   cases hsh:(eB si).s
   ·rw[hsh] at c1
    rw[qP hsh,hrw] at hle
    have HLE2:Hid (L=((xs++[⟨p,t⟩])++(cO dJ eB k (eB si)).1,(cO dJ eB k (eB si)).2)):=by
     refine(?_:L=_);rw[hle];simp
    obtain⟨W2,hW2⟩:∃ W2,w1.alloc (.cells #[.int .u32 (p:Int),.string t] 49)=W2:=⟨_,rfl⟩;have hsW:W2.heap.size=w1.heap.size+1:=by rw[←hW2];simp
    rw[hW2] at HB2 HR2 HO1;have hbn:=bF W2 (.cells #[.int .u32 (p:Int),.string t] 49)
    obtain⟨v',W',hrun,a1,a2,a3⟩:=iu 153 49 Tryz.underlying153 tB rfl ud ud (W2.alloc (.cells #[.int .u32 (p:Int),.string t] 49)) w.heap.size i 1 (.slice lo i lc) (some ⟨W2.heap.size,0,none⟩) 1
     (xs.flatMap fc) (fc ⟨p,t⟩) (zf9 HO1.o fun b _ hlt=>hbn.block b hlt) (by have:=HB2.o.size;simp;omega) (zmK (r:=⟨p,t⟩) (zq W2 _)) (zoJ _) uo
    have hgl:g<W2.heap.size:=(zi HR2.o).1;have hgw:∀ j,j<w.heap.size→W'.heap[j]? =W2.heap[j]? :=fun j hj=>(a2.block j (by have:=HB2.o.size;simp;omega) (fun e=>by have:=zga HO1.o e.symm;omega)).trans (hbn.block j (by have:=HB2.o.size;omega))
    have HFIN:Hid (W'.ownsRow w.heap.size 49 2 v' (i+1) ((xs++[(⟨p,t⟩:Rf)]).flatMap fc)∧dC g (eB si) W'∧Bo g w W'):=by
     refine⟨?_,(hgw g lg).trans HR2.o,?_⟩
     ·rw[List.flatMap_append];simpa using a1
     ·have hb:=HB2.o
      exact⟨a2.os.trans (hbn.os.trans hb.os),a2.tape.trans (hbn.tape.trans hb.tape),a2.output.trans (hbn.output.trans hb.output),Nat.le_trans hb.size (Nat.le_trans hbn.size a2.size),fun j hj hn=>(hgw j hj).trans (hb.block j hj hn)⟩
    obtain⟨lo',lc',rfl,-⟩:=dx a1;rw[←hW2] at hrun;have hs3:(w1.alloc (.cells #[.int .u32 (p:Int),.string t] 49)).heap.size=w1.heap.size+1:=by simp
    rw[hs3] at hrun;have q2:(i:Int)+1≤18446744073709551615:=uo
    clear r1 b1 hle hbx hbn a1 a2 a3 hgw hsW hs3 hW2 HB1 HB2 HR2 HO1
    go_wp2_with (at_builtin;refine gT rfl 153 153 (.tmp 18) (.tmp 20) rfl (vs:=.slice lo i lc) (vx:=.slice (some ⟨w1.heap.size+1,0,none⟩) 1 1) rfl rfl hrun ?_)
    go_roundw
    case rel=>exact⟨i+1,xs++[⟨p,t⟩],eB si,by omega,by go_num,by rw[List.length_append,HXL.o];rfl,by rw[hk2];exact HLE2.o,HFIN.o⟩
    case measure=>simp[bu];omega
   ·rw[hsh] at c1
    rw[qO hsh] at hle
    have HE:Hid (L=(xs,eB si)):=by
     refine(?_:L=(xs,eB si));rw[hle];simp
    clear r1 b1 hle hbx;go_wp2_with fail
    first|go_ret|(simp only[Exit.noGoto];go_ret)
    rw[HE.o];exact⟨_,rfl,by rw[HXL.o];exact HO1.o,HR2.o,HB2.o⟩
  ·obtain rfl:i=c:=uo
   have q1:¬(i:Int)<(i:Int):=uo
   have HE:Hid (L=(xs,si)):=by
    refine(?_:L=(xs,si));have:=HLE.o;rw[Nat.sub_self] at this;simpa [cO] using this
   go_wp2_with fail;go_ret;rw[HE.o];exact⟨_,rfl,by rw[HXL.o];exact HO.o,HRD.o,HBO.o⟩
end Rw
end Go.Proofs.YtokfnghckpgjmaaGreatDoor
