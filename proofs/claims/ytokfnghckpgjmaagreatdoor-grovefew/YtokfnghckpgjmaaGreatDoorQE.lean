import Derived.Test.YtokfnghckpgjmaaGreatDoorPPo
import Derived.Test.YtokfnghckpgjmaaGreatDoorPPk
import Derived.Test.YtokfnghckpgjmaaGreatDoorPD
import Derived.Room.AppendFits
import Derived.Shelf.RegionOpen
import Derived.Test.YtokfnghckpgjmaaGreatDoorPPn
set_option maxRecDepth 100000
set_option maxHeartbeats 2000000
namespace Go.Proofs.YtokfnghckpgjmaaGreatDoor
section
open Go.RowKit Go.Shelf Go.Lib
attribute [local go_sem] Oper.semAt_some
def upto (f:Nat→Int) (k:Nat):List Int:=(List.range k).map f
theorem fZ (f:Nat→Int) (k:Nat):(upto f k).length=k:=by simp[upto]
def bt (s:ByteArray) (i:Nat):Int:=((s.data[i]?.getD 0).toNat:Int)
theorem iW (s:ByteArray) (i:Nat):0≤bt s i∧bt s i<256:=by
 unfold bt;have:=(s.data[i]?.getD 0).toNat_lt;omega
theorem km (s:ByteArray) (a b i:Nat) (h:i<min b s.size - a):bt (s.extract a b) i=bt s (a+i):=by
 unfold bt;rw[ByteArray.data_extract,Array.getElem?_extract,if_pos (show i<min b s.data.size - a from h)]
theorem zfQ (s:ByteArray) (i:Nat) (h:i<s.size):(strCells s)[i]? =some (.int .u8 (bt s i)):=by
 unfold strCells bt;rw[List.getElem?_map,Array.getElem?_toList];have e:s.data[i]? =some s.data[i]:=Array.getElem?_eq_getElem h;rw[e];rfl
def mc (M:Nat→Int) (a c:Nat):List Value:=(upto (fun j=>M (a+j)) c).map (Value.int .u8)
theorem ml (M:Nat→Int) (a c j:Nat) (h:j<c):(mc M a c)[j]? =some (.int .u8 (M (a+j))):=by simp[mc,upto,h]
theorem lP (M:Nat→Int) (a c:Nat):(mc M a c).length=c:=by simp[mc,upto]
theorem rm (M:Nat→Int) (a c:Nat) (s:ByteArray) (h:∀ j,j<s.size→bt s j=M (a+c+j)):mc M a c++strCells s=mc M a (c+s.size):=by
 apply List.ext_getElem?;intro j;by_cases b:j<c
 ·rw[List.getElem?_append_left (by rw[lP];exact b),ml _ _ _ _ b,ml _ _ _ _ uo]
 ·rw[List.getElem?_append_right (by rw[lP];omega),lP]
  by_cases d:j<c+s.size
  ·rw[zfQ _ _ uo,ml _ _ _ _ d,h (j - c) uo,show a+c+(j - c)=a+j by omega]
  ·rw[List.getElem?_eq_none (by rw[strCells_length];omega),List.getElem?_eq_none (by rw[lP];omega)]
def bq (ts:Nat→ByteArray):Nat→Nat
 |0=>0
 |i+1=>bq ts i+(ts i).size
theorem oV (ts : Nat → ByteArray) {i j : Nat} (h : i ≤ j) : bq ts i ≤ bq ts j := by
  induction j with
  | zero => obtain rfl : i = 0 := by omega
            exact Nat.le_refl _
  | succ j d =>
    by_cases e : i = j + 1
    · subst e; exact Nat.le_refl _
    · have := d uo
      show bq ts i ≤ bq ts j + (ts j).size;omega
def Kc (g:Nat) (A B:World):Prop:=A.heap.size≤B.heap.size∧∀ j o,j≠g→A.heap[j]? =some o→o.isCells=true→B.heap[j]? =some o
theorem Kc.trans {g:Nat} {A B C:World} (h:Kc g A B) (k:Kc g B C):Kc g A C:=⟨Nat.le_trans h.1 k.1,fun j o hj ho hc=>k.2 j o hj (h.2 j o hj ho hc) hc⟩
theorem Kc.put (g:Nat) (W:World) (l:Nat) (o o':Obj) (h:W.heap[l]? =some o) (hc:o.isCells=false):Kc g W (W.putObj l o'):=
 ⟨by simp[World.putObj],fun j p _ hp hpc=>by
  by_cases e:j=l
  ·subst e;rw[h] at hp;cases hp;rw[hc] at hpc;cases hpc
  ·exact(World.putObj_heap_other e).trans hp⟩
theorem Kc.own {g:Nat} {A B:World} (h:Kc g A B) {a:Nat} {e:TypeId} {p b n:Nat} {i:List Value} (j:A.ownsRow a e 1 (.slice (some ⟨p,0,none⟩) n b) n i) (l:p≠g):B.ownsRow a e 1 (.slice (some ⟨p,0,none⟩) n b) n i:=by
 refine⟨j.1,?_⟩;rcases j.2 with⟨d,_⟩|⟨q,k,f,d,m,o,c⟩
 ·cases d
 ·cases d
  exact .inr ⟨p,b,f,rfl,m,h.2 _ _ l o rfl,c⟩
theorem zhV {A:World} {a:Nat} {e:TypeId} {p b n:Nat} {g:List Value} (h:A.ownsRow a e 1 (.slice (some ⟨p,0,none⟩) n b) n g):A.ownsRow a e 1 (.slice (some ⟨p,0,none⟩) 0 b) 0 []:=by
 refine⟨rfl,?_⟩;rcases h.2 with⟨c,_⟩|⟨m,f,d,c,i,j,o,k,l,_⟩
 ·cases c
 ·cases c
  exact .inr ⟨p,b,d,rfl,i,j,Nat.zero_le _,k,l,by simp⟩
theorem na {A:World} {a:Nat} {e:TypeId} {p b n:Nat} {d:List Value} (g:A.ownsRow a e 1 (.slice (some ⟨p,0,none⟩) n b) n d) {j:Nat} {v:Value} (h:d[j]? =some v):A.cell? ⟨p,j,none⟩=some v:=by
 rcases g.2 with⟨c,_⟩|⟨o,f,i,c,q,k,r,s,t,l⟩
 ·cases c
 ·cases c
  rw[zr k];rw[←l] at h
  have m:j<n*1:=by
   have:=(List.getElem?_eq_some_iff.1 h).1;simp at this;omega
  rw[List.getElem?_take_of_lt m] at h;simpa using h
theorem fM {A:World} {base:Nat} {e:TypeId} {p cap n:Nat} {xs:List Value} (ho:A.ownsRow base e 1 (.slice (some ⟨p,0,none⟩) n cap) n xs):p<A.heap.size:=by
 rcases ho.2 with⟨hv,_⟩|⟨g',cap',cur,hv,hb,hh,_⟩
 ·cases hv
 ·cases hv
  exact(zi hh).1
theorem zb4 {F:Fence} {n:Nat} {P:Program} {o:Oper} {a:Act} {w:World} {K:Act→World→Prop} {Q:Exit→Act→World→Prop} (t u:TypeId) (s x:Operand) (d:o.op=.call { callee:=.builtin .append,args:=#[s,x],argTypes:=#[t,u] })
  {vs vx v':Value} {e:World} (f:a.eval s=vs) (g:a.eval x=vx) (b:(Builtin.append_ #[t,u] o.type #[vs,vx]).run P w=.ok v' e) (h:K (a.put o.dst v') e):o.wpIn F n P a w K Q:=by
 unfold Oper.wpIn;refine⟨?_,?_⟩
 ·simp[Oper.about,d,resolve,Target.leads]
 ·rw[Oper.semAt_plain F _ _ (by rw[d];intro c i;cases i)]
  simp[execOp,d,f,g,b,Result.andThen,resolve,invoke,builtin];exact h
theorem qA {F:Fence} {n:Nat} {P:Program} {c:Array Oper} {b:List Oper} {o:Oper} {a:Act} {w:World} {Q:Exit→Act→World→Prop} (e:o.guard=none) (t u:TypeId) (s x:Operand) (g:o.op=.call { callee:=.builtin .append,args:=#[s,x],argTypes:=#[t,u] })
  {vs vx v':Value} {f:World} (i:a.eval s=vs) (j:a.eval x=vx) (d:(Builtin.append_ #[t,u] o.type #[vs,vx]).run P w=.ok v' f) (h:wpListIn F n P c Q b (a.put o.dst v') f):wpListIn F n P c Q (o::b) a w:=
 wpListIn_plain e fun _ k=>zb4 t u s x g i j d (k _ _ h)
theorem info5:(Tryz.prog.info? 5).map (fun i=>(i.zero,i.size,i.bytes))=some (some (.int .u8 0),1,1):=uk
theorem info_parts {t:TypeId} {z:Value} {s b:Nat} (h:(Tryz.prog.info? t).map (fun i=>(i.zero,i.size,i.bytes))=some (some z,s,b)):∃ i,Tryz.prog.info? t=some i∧i.zero=some z∧i.size=s∧i.bytes=b:=by
 obtain⟨i,hi,h'⟩:=Option.map_eq_some_iff.1 h;simp at h';exact⟨i,hi,h'.1,h'.2.1,h'.2.2⟩
theorem Kc.cell {g:Nat} {A B:World} (h:Kc g A B) {b x:Nat} {v:Value} (hb:b≠g) (hc:A.cell? ⟨b,x,none⟩=some v):B.cell? ⟨b,x,none⟩=some v:=by
 obtain⟨o,ho,hoc⟩:=cells_of_cell hc;have e:B.heap[b]? =A.heap[b]? :=(h.2 b o hb ho hoc).trans ho.symm;rw[←hc];unfold World.cell?;simp only[e]
theorem Kc.below {g B:Nat} {X Y:World} (h:Below B X Y) (hB:X.heap.size≤B):Kc g X Y:=⟨h.size,fun j _ _ ho _=>(h.block j (Nat.lt_of_lt_of_le (zi ho).1 hB)).trans ho⟩
theorem Kc.grown {g r:Nat} {X Y Z:World} (h:Kc g X Y) (hg:Y.grownBy Z (some r)) (hr:X.heap.size≤r):Kc g X Z:=
 ⟨Nat.le_trans h.1 hg.size,fun j o hj ho hc=>(hg.block j (Nat.lt_of_lt_of_le (zi ho).1 h.1) (by have:=(zi ho).1;intro e;cases e;omega)).trans (h.2 j o hj ho hc)⟩
theorem ff {B r:Nat} {X Y:World} (hg:X.grownBy Y (some r)) (hr:B≤r) (hB:B≤X.heap.size):Below B X Y:=⟨hg.os,hg.tape,hg.output,hg.size,fun k hk=>hg.block k uo (by intro e;cases e;omega)⟩
theorem jv (s:ByteArray) (a n:Nat):(s.extract a s.size).extract n (s.extract a s.size).size=s.extract (a+n) s.size:=by
 apply ByteArray.ext;simp[ByteArray.data_extract,Array.extract_extract]
 congr 1
 omega
def kD:Value→Nat|.string u=>u.size|_=>0
def Yp (B0 T:Nat) (M:Nat→Int) (k:Nat) (x:Nat × Nat) (W:World):Prop:=
 B0≤x.1∧x.1<W.heap.size∧x.2≤64∧64*k+x.2≤T∧(x.2<64→64*k+x.2=T)∧∀ j,j<x.2→W.cell? ⟨x.1,j,none⟩=some (.int .u8 (M (64*k+j)))
theorem zki (n:Nat) (hn:1≤n) (l b1 b2 g q a6:Nat) (o:Option Addr) (s0:ByteArray) (r:Nat→ByteArray) (M:Nat→Int) (T:Nat) (W:World)
  (ai:s0.size<64) (aj:∀ j,j<s0.size→bt s0 j=M j) (hm:∀ i,i<q→∀ j,j<(r i).size→bt (r i) j=M (s0.size+bq r i+j)) (hT:T=s0.size+bq r q) (a7:q≤1099511627776)
  (ak:∀ i,i<q→(r i).size≤1099511627776∧∃ b S,o=some ⟨b,S,none⟩∧b≠g∧b<W.heap.size∧W.cell? ⟨b,S+i,none⟩=some (.string (r i)))
  (h1:W.heap[b1]? =some (.cells #[.string s0] 9 (0,0))) (h2:W.heap[b2]? =some (.cells #[.slice o q a6] 37 (0,0))) (aG:g<W.heap.size)
  (R:Nat→World→Prop) (Rx:World→Prop) (hR:∀ k A B,R k A→Below W.heap.size A B→R k B) (al:∀ A B,Rx A→Below W.heap.size A B→Rx B)
  (hY:∀ k x A,R k A→Yp W.heap.size T M k x A→YieldAt Fence.wide (n - 1) Tryz.prog l #[.slice (some ⟨x.1,0,none⟩) x.2 64] A fun e B=>(e=.returned (.bool true)∧R (k+1) B∧Kc g A B)∨(e=.returned (.bool false)∧Rx B))
  (h0:R 0 W):
  CallsIn Fence.wide n Tryz.prog 277 #[.func (.yield l) #[] #[],.pointer (some ⟨b1,0,none⟩),.pointer (some ⟨b2,0,none⟩)] W fun e W'=>(∃ v,e=.returned v)∧(Rx W'∨∃ k,R k W'∧T<64*k):=by
 have a8:Tryz.prog.follows .mixedOrders=true:=uk
 obtain⟨i0,L,am,N,an⟩:=info_parts info5;have c1:W.cell? ⟨b1,0,none⟩=some (.string s0):=by rw[zr h1];rfl
 have ao:Hid _:=aj;have HM:Hid _:=hm;have ap:Hid _:=ak;have aq:Hid _:=h1;have ar:Hid _:=h2;have HR:Hid _:=hR;have aH:Hid _:=al;have HY:Hid _:=hY;have H0:Hid _:=h0;have HT:Hid _:=hT;have HL:Hid _:=a7;have l1:=(zi h1).1;have l2:=(zi h2).1;refine callsIn_of_wp Tryz.func277 rfl trivial ?_ rfl;simp only[Tryz.ntmps277,eR,eS,eT,Nat.reduceAdd,Nat.reduceSub,eU,eV,eW,eX,eY,eZ];gi_wp2;obtain⟨Wm,a9,t,a⟩:=run_make_own (P:=Tryz.prog) W.drew W.heap.size 140 5 i0 (.int .u8 0) 1 Tryz.underlying140 L am N .i64 .i64 64 (by rw[an];decide) ud zn
 have aI:(Instr.makeSlice 140 (.int .i64 0) (.int .i64 64)).run Tryz.prog W.drew=.ok (.slice (some ⟨W.heap.size,0,none⟩) 0 64) Wm:=a9;obtain⟨Wa,z,E,m⟩:=run_append_fits_string (P:=Tryz.prog) Wm W.heap.size 140 9 140 5 i0 Tryz.underlying140 Tryz.underlying9 L N (some ⟨W.heap.size,0,none⟩) 0 64 [] t s0 ud uo
 have y:(Builtin.append_ #[140,9] 140 #[.slice (some ⟨W.heap.size,0,none⟩) 0 64,.string s0]).run Tryz.prog Wm=.ok (.slice (some ⟨W.heap.size,0,none⟩) s0.size 64) Wa:=by rw[z,Nat.zero_add]
 have aJ:Wm.cell? ⟨b1,0,none⟩=some (.string s0):=by
  have e:=(a.block b1 l1 us).trans aq.o;rw[zr e];rfl
 have HA:Hid (Wa.ownsRow W.heap.size 5 1 (.slice (some ⟨W.heap.size,0,none⟩) s0.size 64) s0.size (mc M (64*0) s0.size)):=by
  have e:mc M (64*0) 0++strCells s0=mc M (64*0) (0+s0.size):=rm M _ _ s0 (fun j hj=>by rw[ao.o j hj];congr 1;omega);rw[Nat.zero_add] at e E;rw[←e];exact E
 have U:Hid (Below W.heap.size W Wa):=⟨m.os.trans a.os,m.tape.trans a.tape,m.output.trans a.output,Nat.le_trans a.size m.size,fun k hk=>(m.block k (Nat.lt_of_lt_of_le hk a.size) (by simp[Value.ownBlock];omega)).trans (a.block k hk us)⟩
 refine wpIn_region_any a8 ?_;change wpAnyIn _ _ _ _ _ _ _ _ _ (World.drew _);refine wpAnyIn_ready (rs:=[0,1]) uk us ?_
 refine(AllReadyIn.cons rfl (fun K G=>?_) (AllReadyIn.cons rfl (fun K G=>?_) AllReadyIn.nil))
 focus
  go_simp;refine G _ _ ?_;refine wpAnyIn_ready (rs:=[1]) uk us ?_
 rotate_left
 focus
  go_simp;refine G _ _ ?_;refine wpAnyIn_ready (rs:=[0]) uk us ?_
 rotate_left
 all_goals
  refine(AllReadyIn.cons rfl (fun K G=>?_) AllReadyIn.nil)
  go_simp;refine G _ _ ?_;refine wpAnyIn_ready (rs:=[2]) uk us ?_
  refine(AllReadyIn.cons rfl (fun K G=>?_) AllReadyIn.nil)
  rw[if_pos (by rfl)]
  refine zb4 140 9 _ _ rfl rfl rfl y ?_;refine G _ _ ?_;refine wpAnyIn_ready (rs:=[3]) uk us ?_
  refine(AllReadyIn.cons rfl (fun K G=>?_) AllReadyIn.nil)
  go_simp;refine G _ _ ?_;refine wpAnyIn_done uk ?_ _
  have c2:Wa.cell? ⟨b2,0,none⟩=some (.slice o q a6):=by rw[zr ((U.o.block b2 l2).trans ar.o)];rfl
  gi_wp2;gi_loopw [4,13] (fun v i wr=>∃ c j k:Nat,v=.slice (some ⟨W.heap.size,0,none⟩) c 64∧i=.int .i64 (j:Int)∧j≤q∧c<64∧64*k+c=s0.size+bq r j∧wr.ownsRow W.heap.size 5 1 (.slice (some ⟨W.heap.size,0,none⟩) c 64) c (mc M (64*k) c)∧R k wr∧Kc g W wr) (fun _ i _=>q - (intOf i).toNat)
  case atStart=>exact⟨s0.size,0,0,rfl,rfl,Nat.zero_le _,ai,by simp[bq],HA.o,HR.o 0 W Wa H0.o U.o,Kc.below U.o zn⟩
  case round=>
   obtain⟨c,j,k,rfl,rfl,hj,hc,H,t,V,X⟩:=hrel;have HO:Hid _:=t;have I:Hid _:=V;have C:Hid (Kc g W wr):=X;have O:Hid _:=H;by_cases J:j<q
   ·obtain⟨av,b,S,ho,aw,aK,Y⟩:=ap.o j J
    subst ho;have ct:=C.o.cell aw Y;have ax:Hid (∀ i,i<(r j).size→bt (r j) i=M (s0.size+bq r j+i)):=HM.o j J;have aa:Hid (bq r (j+1)=bq r j+(r j).size):=rfl;have ay:Hid _:=av;generalize r j=Q at*
    gi_wp2
    gi_loopw [4,6] (fun v t' wr=>∃ c d k:Nat,v=.slice (some ⟨W.heap.size,0,none⟩) c 64∧t'=.string (Q.extract d Q.size)∧d≤Q.size∧c<64∧64*k+c=s0.size+bq r j+d∧wr.ownsRow W.heap.size 5 1 (.slice (some ⟨W.heap.size,0,none⟩) c 64) c (mc M (64*k) c)∧R k wr∧Kc g W wr) (fun _ t' _=>kD t')
    case atStart=>exact⟨c,0,k,rfl,by simp,Nat.zero_le _,hc,O.o,HO.o,I.o,C.o⟩
    case round=>
     obtain⟨c,d,k,rfl,rfl,hd,hc,H,t,V,X⟩:=hrel;have HO:Hid (wr.ownsRow W.heap.size 5 1 (.slice (some ⟨W.heap.size,0,none⟩) c 64) c (mc M (64*k) c)):=t;have I:Hid (R k wr):=V;have C:Hid (Kc g W wr):=X;have O:Hid (64*k+c=s0.size+bq r j+d):=H;obtain⟨u,hu⟩:∃ u,Q.extract d Q.size=u:=⟨_,rfl⟩;have ab:u.size=Q.size - d:=by rw[←hu];simp
     have HU:Hid (Q.extract d Q.size=u):=hu
     have ac:Hid (∀ i,i<u.size→bt u i=M (64*k+c+i)):=fun i L=>by
      rw[←HU.o,km _ _ _ _ uo,ax.o (d+i) uo,O.o];congr 1;omega
     have aL:u.size≤1099511627776:=by have:=ay.o;omega
     have Z:Hid _:=ab;rw[hu];clear hu ab;have c0:(0:Int)≤(c:Int):=uo
     have c3:(c:Int)<64:=uo
     have aF:(u.size:Int)≤1099511627776:=uo
     by_cases aM:64≤c+u.size
     ·have q1:(64:Int)≤(c:Int)+(u.size:Int):=uo
      obtain⟨D,az⟩:∃ D,64 - c=D:=⟨_,rfl⟩;have q2:(64:Int) - (c:Int)=(D:Int):=uo
      have q3:D≤u.size:=uo
      have q4:(D:Int)≤(u.size:Int):=uo
      have ad:Hid (64 - c=D∧1≤D):=⟨az,by omega⟩;have ae:(u.extract 0 D).size=D:=by simp;omega
      obtain⟨F,z,f,p⟩:=run_append_fits_string (P:=Tryz.prog) wr W.heap.size 140 9 140 5 i0 Tryz.underlying140 Tryz.underlying9 L N (some ⟨W.heap.size,0,none⟩) c 64 _ HO.o (u.extract 0 D) ud uo;rw[rm M (64*k) c _ (fun i L=>by rw[km _ _ _ _ uo,Nat.zero_add];exact ac.o i uo),ae,show c+D=64 by omega] at f;have y:(Builtin.append_ #[140,9] 140 #[.slice (some ⟨W.heap.size,0,none⟩) c 64,.string (u.extract 0 D)]).run Tryz.prog wr=.ok (.slice (some ⟨W.heap.size,0,none⟩) 64 64) F:=by rw[z,ae,show c+D=64 by omega]
      have aA:R k F:=HR.o k wr F I.o (ff p zn C.o.1);have aB:Kc g W F:=C.o.grown p zn
      have a0:Yp W.heap.size T M k (W.heap.size,64) F:=⟨Nat.le_refl _,fM f,Nat.le_refl _,by
       have h1:=O.o;have h2:=Z.o;have h3:=oV r J;have h4:=aa.o;have h5:=HT.o
       have h6:=oV r (show j+1≤q from J);show 64*k+64≤T;omega,fun h=>absurd h (Nat.lt_irrefl 64),fun i L=>na f (ml _ _ _ _ L)⟩
      obtain⟨fn,af,assign,body,hy,a1⟩:=HY.o k (W.heap.size,64) F aA a0;have a2:Hid (F.ownsRow W.heap.size 5 1 (.slice (some ⟨W.heap.size,0,none⟩) 64 64) 64 (mc M (64*k) 64)):=f;have a3:Hid (Kc g W F):=aB
      gi_wp2_with (gi_at_builtin;refine qA rfl 140 9 (.tmp 27) (.tmp 30) rfl (vs:=.slice (some ⟨W.heap.size,0,none⟩) c 64) (vx:=.string (u.extract 0 D)) rfl rfl y ?_)
      refine a1.mono ?_;rintro e W6 (⟨rfl,a4,ag⟩|⟨rfl,a5⟩)
      ·
       have aC:Hid (R (k+1) W6):=a4;have ah:Hid (Kc g F W6):=ag;gi_wp2;refine wpIn_region_any a8 ?_;change wpAnyIn _ _ _ _ _ _ _ _ _ (World.drew _);refine cV (i:=0) (v:=?_) rfl rfl ?_ ?_;rotate_left
       ·intro w
        go_simp
        try with_reducible rfl
       refine cV (i:=1) (v:=?_) rfl rfl ?_ ?_;rotate_left
       ·intro w
        go_simp
        try with_reducible rfl
       refine cV (i:=2) (v:=?_) rfl rfl ?_ ?_;rotate_left
       ·intro w
        go_simp
        try with_reducible rfl
       refine cV (i:=3) (v:=?_) rfl rfl ?_ ?_;rotate_left
       ·intro w
        go_simp
        try with_reducible rfl
       refine cV (i:=4) (v:=?_) rfl rfl ?_ ?_;rotate_left
       ·intro w
        go_simp
        try with_reducible rfl
       refine wpAnyIn_ready (rs:=[5]) uk us ?_;refine(AllReadyIn.cons rfl (fun K G=>?_) AllReadyIn.nil);go_simp;refine G _ _ ?_;refine wpAnyIn_ready (rs:=[6]) uk us ?_;refine(AllReadyIn.cons rfl (fun K G=>?_) AllReadyIn.nil);go_simp;refine G _ _ ?_;refine wpAnyIn_done uk ?_ _;gi_wp2
       go_roundw
       case rel=>
        refine⟨0,d+D,k+1,rfl,?_,?_,by decide,?_,?_,?_,?_⟩
        ·rw[←HU.o,jv]
        ·have:=Z.o;omega
        ·have:=O.o;have:=ad.o.1;omega
        ·exact(zhV (ah.o.own a2.o uo):W6.ownsRow _ _ _ _ _ _)
        ·exact HR.o _ W6 _ aC.o (Below.refl _ W6).drew
        ·exact(a3.o.trans ah.o)
       case measure=>simp[kD];have:=ad.o.2;omega
      ·gi_wp2
       refine bodyPost_ret (results_none rfl _ _ _) rfl ?_;exact⟨⟨_,rfl⟩,.inl a5⟩
     ·have q1:¬(64:Int)≤(c:Int)+(u.size:Int):=uo
      obtain⟨F,y,f,p⟩:=run_append_fits_string (P:=Tryz.prog) wr W.heap.size 140 9 140 5 i0 Tryz.underlying140 Tryz.underlying9 L N (some ⟨W.heap.size,0,none⟩) c 64 _ HO.o u ud uo;rw[rm M (64*k) c u ac.o] at f;have a2:Hid (F.ownsRow W.heap.size 5 1 (.slice (some ⟨W.heap.size,0,none⟩) (c+u.size) 64) (c+u.size) (mc M (64*k) (c+u.size))):=f;have aD:Hid (R k F):=HR.o k wr F I.o (ff p zn C.o.1);have a3:Hid (Kc g W F):=C.o.grown p zn
      gi_wp2_with (gi_at_builtin;refine qA rfl 140 9 (.tmp 39) (.tmp 40) rfl (vs:=.slice (some ⟨W.heap.size,0,none⟩) c 64) (vx:=.string u) rfl rfl y ?_)
      go_roundw
      case rel=>exact⟨c+u.size,j+1,k,rfl,by go_num,J,by omega,by rw[aa.o];have:=O.o;have:=Z.o;omega,a2.o,aD.o,a3.o⟩
      case measure=>simp[intOf];omega
   ·obtain rfl:j=q:=uo
    have a0:Yp W.heap.size T M k (W.heap.size,c) wr:=⟨Nat.le_refl _,fM HO.o,Nat.le_of_lt hc,by have:=O.o;have:=HT.o;show 64*k+c≤T;omega,fun _=>by have:=O.o;have:=HT.o;show 64*k+c=T;omega,fun i L=>na HO.o (ml _ _ _ _ L)⟩;obtain⟨fn,af,assign,body,hy,a1⟩:=HY.o k (W.heap.size,c) wr I.o a0;have aE:T<64*(k+1):=by have:=O.o;have:=HT.o;omega
    gi_wp2;refine a1.mono ?_;rintro e W6 (⟨rfl,a4,ag⟩|⟨rfl,a5⟩)
    ·gi_wp2
     go_end0
     exact⟨⟨_,rfl⟩,.inr ⟨k+1,a4,aE⟩⟩
    ·gi_wp2
     go_end0
     exact⟨⟨_,rfl⟩,.inl a5⟩
end
section
open Go.RowKit Go.Shelf Go.Lib
attribute [local go_sem] Oper.semAt_some
def hs (Kt iv m:Nat→Int):Nat→Nat→Int
 |0=>iv
 |k+1=>mQ Kt (hs Kt iv m k) (fun j=>m (64*k+j))
def mm (r:Nat→Int) (m:Nat→Int) (a c:Nat):Nat→Int:=fun j=>if j<c then m (a+j) else r j
theorem zog (f r:Nat→Int) (n:Int) (m:Nat→Int) (a c:Nat) (l:c≤64):
  ((sm f r n).toList.take 8++mc m a c++(sm f r n).toList.drop (8+c)).toArray=sm f (mm r m a c) n:=by
 have g:(mc m a c).length=c:=lP _ _ _;have h:((sm f r n).toList.take 8).length=8:=by simp[lA]
 apply Array.ext_getElem?;intro i;rw[List.getElem?_toArray,List.append_assoc];by_cases b:i<8
 ·rw[List.getElem?_append_left uo,List.getElem?_take_of_lt b,Array.getElem?_toList,fg _ _ _ _ b,fg _ _ _ _ b]
 ·obtain⟨j,rfl⟩:∃ j,i=8+j:=⟨i - 8,by omega⟩
  rw[List.getElem?_append_right uo,h,show 8+j - 8=j by omega];by_cases d:j<c
  ·rw[List.getElem?_append_left uo,ml _ _ _ _ d,lN _ _ _ _ uo]
   simp[mm,d]
  ·rw[List.getElem?_append_right uo,g,List.getElem?_drop,Array.getElem?_toList,show 8+c+(j - c)=8+j by omega]
   by_cases e:j<64
   ·rw[lN _ _ _ _ e,lN _ _ _ _ e]
    simp[mm,d]
   ·by_cases k:j=64
    ·subst k;rw[show 8+64=72 from rfl,kB,kB]
    ·rw[Array.getElem?_eq_none (by rw[lA];omega),Array.getElem?_eq_none (by rw[lA];omega)]
def Told (Kt iv m:Nat→Int) (W:World) (g L:Nat):Prop:=
 ∃ r,W.heap[g]? =some (.cells (sm (hs Kt iv m (L/64)) r (L:Int)) 336 (0,0))∧∀ j,j<L%64→r j=m (64*(L/64)+j)
theorem zms (n:Nat) (s0:ByteArray) (o:Option Addr) (a b:Nat) (w:World):
  CallsIn Fence.wide n Tryz.prog 268 #[.string s0,.slice o a b] w fun e c=>e=.returned (.func (.func 277) #[] #[.pointer (some ⟨w.heap.size,0,none⟩),.pointer (some ⟨w.heap.size+1,0,none⟩)])∧c=(w.alloc (.cells #[.string s0] 9)).alloc (.cells #[.slice o a b] 37):=by
 refine callsIn_of_wp Tryz.func268 rfl trivial ?_ rfl;simp only[Tryz.ntmps268,eR,eS,eT,Nat.reduceAdd,Nat.reduceSub,eU,eV,eW,eX,eY,eZ];gi_wp2;go_ret;exact⟨rfl,rfl⟩
theorem zoh (w:World) (g:Nat) (f r:Nat→Int) (c x:Int) (hg:w.heap[g]? =some (.cells (sm f r c) 336 (0,0))):
  (w.setCell ⟨g,72,none⟩ (.int .i64 x)).heap[g]? =some (.cells (sm f r x) 336 (0,0)):=by
 rw[zx w g 72 _ _ _ hg,zl9]
theorem mn {A B:World} {b:Nat} (h:B.heap[b]? =A.heap[b]?) (x:Nat):B.cell? ⟨b,x,none⟩=A.cell? ⟨b,x,none⟩:=by
 unfold World.cell?;simp only[h]
theorem zpD {a T:Nat} {M:Nat→Int} {k:Nat} {x:Nat × Nat} {W:World} {l:Nat} (o:Obj) (h:Yp a T M k x W) (m:l<a):Yp a T M k x (W.putObj l o):=by
 obtain⟨b,c,d,e,f,g⟩:=h;exact⟨b,by simpa [World.putObj] using c,d,e,f,fun j i=>(mn (World.putObj_heap_other uo) j).trans (g j i)⟩
theorem mo {B:Nat} {w W W':World} {r:Option Nat} (h:w.grownBy W r) (hb:Below B W W') (hB:w.heap.size≤B):w.grownBy W' r:=
 ⟨hb.os.trans h.os,hb.tape.trans h.tape,hb.output.trans h.output,Nat.le_trans h.size hb.size,fun k hk hne=>(hb.block k uo).trans (h.block k hk hne)⟩
theorem Kc.of_grown {g:Nat} {A B:World} (h:A.grownBy B (some g)):Kc g A B:=⟨h.size,fun j _ hj ho _=>(h.block j (zi ho).1 (by intro e;cases e;exact hj rfl)).trans ho⟩
def wait (m:Nat→Int) (L:Nat):ByteArray:=strOfNums (upto (fun j=>m (64*(L/64)+j)) (L%64))
theorem zkj (m:Nat→Int) (L:Nat):(wait m L).size=L%64:=by unfold wait;rw[strOfNums_size,fZ]
theorem zoi (m:Nat→Int) (a:∀ j,0≤m j∧m j<256) (L j:Nat) (b:j<L%64):bt (wait m L) j=m (64*(L/64)+j):=by
 have:=a (64*(L/64)+j);unfold wait bt strOfNums;simp only[List.getElem?_toArray,List.getElem?_map,upto,List.getElem?_range b,Option.map_some,Option.getD_some];rw[UInt8.toNat_ofNat'];omega
theorem zkk {w:World} {g:Nat} {m:Nat→Int} {L:Nat} {r:Nat→Int} {n:Int} {f:Nat→Int} (h:w.heap[g]? =some (.cells (sm f r n) 336 (0,0))) (b:∀ j,j<L%64→r j=m (64*(L/64)+j)):
  (convert 140 9 (.slice (some ⟨g,8,none⟩) (L%64) 64)).run Tryz.prog w=.ok (.string (wait m L)) w:=by
 refine run_convert_bytes_arg w 140 5 Tryz.underlying140 Tryz.underlying5 g 8 (L%64) 64 (upto (fun j=>m (64*(L/64)+j)) (L%64)) (by rw[fZ]) (fun i a=>?_) 9 Tryz.underlying9;rw[zr h,lN _ _ _ _ uo,b i a];simp[upto,List.getD,a]
theorem znG (Kt y m:Nat→Int) (hm:∀ j,0≤m j∧m j<256) (g L a t:Nat) (o:Option Addr) (d:Nat→ByteArray) (w:World) {tt:TypeId} {fr:Nat × Nat} (hK:w.heap[3]? =some (.cells (dH Kt) tt fr)) (ao:g≠3)
  (hL:L+bq d a≤1099511627776) (a8:a≤1099511627776) (ht:Told Kt y m w g L)
  (ap:∀ i,i<a→(∃ b B,o=some ⟨b,B,none⟩∧b≠g∧b<w.heap.size∧w.cell? ⟨b,B+i,none⟩=some (.string (d i)))∧∀ j,j<(d i).size→bt (d i) j=m (L+bq d i+j)):
  CallsIn Fence.wide 5 Tryz.prog 251 #[.pointer (some ⟨g,0,none⟩),.slice o a t] w fun e w'=>e=.returned (.tuple #[])∧Told Kt y m w' g (L+bq d a)∧w.grownBy w' (some g):=by
 obtain⟨r,hg,hr⟩:=ht;have aq:=(zi hg).1;have ar:=(zi hK).1;refine callsIn_of_wp_marks Tryz.func251 rfl trivial ?_ rfl;simp only[Tryz.ntmps251,eR,eS,eT,Nat.reduceAdd,Nat.reduceSub,eU,eV,eW,eX,eY,eZ];have HG:Hid _:=hg;have HK:Hid _:=hK;have X:Hid _:=ap;have HR:Hid _:=hr;have au:Hid _:=hL;have HM:Hid _:=hm
 gi_wp2;obtain⟨J,Y⟩:∃ J,w.alloc (.cells #[.pointer (some ⟨g,0,none⟩)] 317)=J:=⟨_,rfl⟩;have a9:Below w.heap.size w J:=by rw[←Y];exact(Below.refl _ w).alloc zn _
 have G0:Hid _:=(a9.block g aq).trans HG.o;have X0:Hid (J.heap[w.heap.size]? =some (.cells #[.pointer (some ⟨g,0,none⟩)] 317 (0,0))):=by rw[←Y];exact zq w _
 have cb:J.cell? ⟨w.heap.size,0,none⟩=some (.pointer (some ⟨g,0,none⟩)):=by rw[zr X0.o];rfl
 have cc:J.cell? ⟨g,72,none⟩=some (.int .i64 (L:Int)):=by rw[zr G0.o,kB]
 obtain⟨M,aa⟩:∃ M,L%64=M:=⟨_,rfl⟩
 have aQ:∀ n,(convert 140 9 (.slice (some ⟨g,8,none⟩) M 64)).run Tryz.prog (J.drewN n)=.ok (.string (wait m L)) (J.drewN n):=fun n=>by
  rw[←aa];exact zkk (w:=J.drewN n) G0.o HR.o
 have t1:(L:Int)%64=(M:Int):=uo
 have t3:(M:Int)≤64:=uo
 have av:Hid _:=aa;rw[Y];refine(wpIn_wide (n:=5)).2 (wp_scope_straight ((wpIn_wide (n:=5)).1 ?_));gi_wp2
 gi_quiet (fail)
 obtain⟨w1,N⟩:∃ w1,J.drewN nq=w1:=⟨_,rfl⟩;have aw:Below w.heap.size w w1:=by rw[←N];exact below_drewN a9 _
 have Z:Hid (w1.heap[g]? =some (.cells (sm (hs Kt y m (L/64)) r (L:Int)) 336 (0,0))):=by rw[←N];exact G0.o
 have X1:Hid (w1.heap[w.heap.size]? =some (.cells #[.pointer (some ⟨g,0,none⟩)] 317 (0,0))):=by rw[←N];exact X0.o
 have B1:Hid _:=aw;rw[N];gi_wp2
 gi_loopw [20] (fun i wr=>∃ j:Nat,j≤a∧i=.int .i64 (j:Int)∧wr.heap[g]? =some (.cells (sm (hs Kt y m (L/64)) r ((L+bq d j:Nat):Int)) 336 (0,0))∧wr.heap[w.heap.size]? =some (.cells #[.pointer (some ⟨g,0,none⟩)] 317 (0,0))∧w.grownBy wr (some g)) (fun i _=>a - (intOf i).toNat)
 case atStart=>exact⟨0,Nat.zero_le _,rfl,Z.o,X1.o,⟨B1.o.os,B1.o.tape,B1.o.output,B1.o.size,fun k hk _=>B1.o.block k hk⟩⟩
 case round=>
  obtain⟨j,C,rfl,hg,hx,ax⟩:=hrel;have Z:Hid _:=hg;have X1:Hid _:=hx;have GR:Hid _:=ax
  by_cases a1:j<a
  ·obtain⟨⟨b,B,ho,O,Q,u⟩,_⟩:=X.o j a1
   subst ho;have ct:=(mn (GR.o.block b Q (by intro e;cases e;exact O rfl)) _).trans u;obtain⟨q,hq⟩:∃ q,L+bq d j=q:=⟨_,rfl⟩;have HQ:Hid _:=hq
   have ay:q+(d j).size≤1099511627776:=by
    have h1:=au.o;have h2:=oV d (show j+1≤a from a1)
    have h3:bq d (j+1)=bq d j+(d j).size:=rfl;omega
   have az:(q:Int)+((d j).size:Int)≤1099511627776:=uo
   have cb:wr.cell? ⟨w.heap.size,0,none⟩=some (.pointer (some ⟨g,0,none⟩)):=by rw[zr X1.o];rfl
   have cc:wr.cell? ⟨g,72,none⟩=some (.int .i64 (q:Int)):=by rw[zr Z.o,kB,hq]
   have cz:=frozen_of_row wr g 72 _ _ Z.o
   obtain⟨tj,ab⟩:∃ tj,d j=tj:=⟨_,rfl⟩;have aA:Hid (d j=tj):=ab;rw[ab] at ct ay az;gi_wp2;have E:w.heap.size≠g:=uo
   exact⟨⟨j+1,a1,by go_num,by rw[show L+bq d (j+1)=q+tj.size by rw[←HQ.o,←aA.o];show L+(bq d j+(d j).size)=_;omega];exact zoh _ _ _ _ _ _ Z.o,(Below.heap_setCell _ _ _ _ E).trans X1.o,nW GR.o (iI _ _ _ _)⟩,by simp[intOf];omega⟩
  ·have aB:j=a:=uo
   rw[aB] at Z;rw[show(j:Int)=(a:Int) by omega];gi_wp2;refine wpIn_label ?_
   gi_wp2_with (refine⟨trivial,?_⟩;gi_at_call 268;refine(zms _ _ _ _ _ _).mono ?_;rintro e w' ⟨rfl,rfl⟩)
   obtain⟨W2,a2⟩:∃ W2,(wr.alloc (.cells #[.string (wait m L)] 9)).alloc (.cells #[.slice o a t] 37)=W2:=⟨_,rfl⟩;have ac:=fJ wr (.cells #[.string (wait m L)] 9) (.cells #[.slice o a t] 37);have aC:W2.heap.size=wr.heap.size+2:=by rw[←a2];simp
   rw[a2] at ac ⊢;obtain⟨e1,e2,F⟩:=ac;have aD:w.heap.size<wr.heap.size:=(zi X1.o).1;have G2:=(F.block g uo).trans Z.o;have X2:=(F.block _ aD).trans X1.o;have ad:w.grownBy W2 (some g):=mo GR.o F uo;have U:g<W2.heap.size:=uo
   obtain⟨T,hT⟩:∃ T,M+bq d a=T:=⟨_,rfl⟩;have hA:=av.o;have G:(L+bq d a)/64=L/64+T/64:=uo
   have V:(L+bq d a)%64=T%64:=uo
   have ae:(wait m L).size=M:=by rw[zkj,hA]
   obtain⟨s,a3⟩:∃ s:Int,((L+bq d a:Nat):Int)=s:=⟨_,rfl⟩;rw[a3] at G2
   refine zkh rfl uo (gf:=277) (lb:=#[.pointer (some ⟨wr.heap.size,0,none⟩),.pointer (some ⟨wr.heap.size+1,0,none⟩)]) rfl trivial (enters_of Tryz.func277 uk rfl)
    (fun x:Nat × Nat=>#[.slice (some ⟨x.1,0,none⟩) x.2 64]) (fun _=>rfl) (Kc g) Kc.trans (fun W l o o' h hc=>Kc.put g W l o o' h hc)
    (Yp (W2.heap.size+2) T (fun j=>m (64*(L/64)+j))) (fun k x W l o' hy _ hl=>zpD o' hy hl)
    (fun k W=>64*k≤T∧W.heap[g]? =some (.cells (sm (hs Kt y m (L/64+k)) r s) 336 (0,0))∧W.heap[w.heap.size]? =some (.cells #[.pointer (some ⟨g,0,none⟩)] 317 (0,0))∧w.grownBy W (some g))
    (fun W=>Told Kt y m W g (L+bq d a)∧w.grownBy W (some g)) 2
    (fun k W W' h hb=>⟨h.1,(hb.block g uo).trans h.2.1,(hb.block _ uo).trans h.2.2.1,mo h.2.2.2 hb uo⟩)
    (fun W W' h hb=>⟨by obtain⟨r',h1,h2⟩:=h.1;exact⟨r',(hb.block g uo).trans h1,h2⟩,mo h.2 hb uo⟩)
    ⟨by omega,G2,X2,ad⟩ (fun k=>T<64*k) (fun k W h hk=>by have:=h.1;omega)
    (fun x=>{ tmps:=#[Value.pointer (some ⟨g,0,none⟩),Value.slice o a t,
     Value.pointer (some ⟨w.heap.size,0,none⟩),undef,Value.string (wait m L),undef,u6,.slice (some ⟨x.1,0,none⟩) x.2 64,
     Value.pointer (some ⟨g,0,none⟩),Value.pointer (some ⟨g,0,none⟩),
     Value.pointer (some ⟨g,8,none⟩),Value.pointer (some ⟨g,0,none⟩),
     Value.pointer (some ⟨g,0,none⟩),Value.pointer (some ⟨g,72,none⟩),
     Value.int IntKind.i64 (L:Int),Value.int IntKind.i64 (M:Int),Value.slice (some ⟨g,8,none⟩) M 64,
     Value.string (wait m L),Value.slice o a t,Value.int IntKind.i64 (a:Int),Value.int IntKind.i64 (a:Int),
     Value.bool false,u22,u23,u24,u25,u26,u27,u28,u29,u30,u31,u32,u33,Value.string (wait m L),
     Value.slice o a t,
     Value.func (Fn.func 277) #[] #[Value.pointer (some ⟨wr.heap.size,0,none⟩),Value.pointer (some ⟨wr.heap.size+1,0,none⟩)],
     .slice (some ⟨x.1,0,none⟩) x.2 64,undef,undef,undef,undef,undef,undef,undef,undef,undef,undef,undef,undef,undef,undef],defers:=[] }) ?assign ?body ?iter ?stop
   case assign=>
    intro l x W K hK;gi_wp2;exact hK
   case iter=>
    intro l W1 a4 aE R Rx hR aF hY h0;have Q:Below wr.heap.size wr W1:=F.trans (a4.mono uo)
    refine zki 4 uo l wr.heap.size (wr.heap.size+1) g a t o (wait m L) d (fun j=>m (64*(L/64)+j)) T W1 uo
     (fun j C=>zoi m HM.o L j uo) (fun i hi j C=>?_) uo a8 (fun i hi=>?_) ((a4.block _ uo).trans e1) ((a4.block _ uo).trans e2) uo R Rx hR aF (fun k x A aG hy=>hY k x A aG (by rw[←aE];exact hy)) h0
    ·rw[(X.o i hi).2 j C,ae]
     congr 1
     omega
    ·obtain⟨⟨b,B,ho,O,aH,u⟩,_⟩:=X.o i hi
     refine⟨?_,b,B,ho,O,by have:=Q.size;omega,?_⟩
     ·have h2:=oV d (show i+1≤a from hi)
      have h3:bq d (i+1)=bq d i+(d i).size:=rfl;omega
     ·rw[←u]
      exact(mn (Q.block b uo) _).trans (mn (GR.o.block b aH (by intro e;cases e;exact O rfl)) _)
   case body=>
    rintro l k ⟨p,c⟩ W ⟨b3,H,a5,I⟩ ⟨y1,y2,y3,y4,y5,y6⟩;have b4:Hid _:=H;have ag:Hid (w.grownBy W (some g)):=I;have ah:Hid _:=a5;have cb:W.cell? ⟨w.heap.size,0,none⟩=some (.pointer (some ⟨g,0,none⟩)):=by rw[zr a5];rfl
    have b5:p≠g:=by simp at y1;omega
    have Y3:c≤64:=y3;have Y4:64*k+c≤T:=y4;have Y5:c<64→64*k+c=T:=y5;have Y6:∀ j,j<c→W.cell? ⟨p,j,none⟩=some (.int .u8 (m (64*(L/64)+(64*k+j)))):=y6;have Y2:p<W.heap.size:=y2;by_cases hc:c<64
    ·have q1:(c:Int)<64:=uo
     have a6:=run_copy_row (P:=Tryz.prog) W 140 140 3 5 g 8 64 64 ⟨p,0,none⟩ c 64 _ 336 (mc m (64*(L/64)+64*k) c) Tryz.underlying140 uk H
      (by rw[lP];exact(Nat.min_eq_left Y3).symm) (fun j v hv=>by
       have C:j<c:=by have:=(List.getElem?_eq_some_iff.1 hv).1;rw[lP] at this;exact this
       rw[ml _ _ _ _ C] at hv;rw[Addr.add_lit,Nat.zero_add,Y6 j C,←hv,Nat.add_assoc]) (by rw[lP,lA];omega) (fun v hv=>by
       unfold mc at hv;obtain⟨z,_,rfl⟩:=List.mem_map.1 hv;rfl)
     rw[lP,zog _ _ _ _ _ _ Y3] at a6;have aP:(Builtin.copy_ #[140,140] 3 #[.slice (some ⟨g,8,none⟩) 64 64,.slice (some ⟨p,0,none⟩) c 64]).run Tryz.prog W=.ok (.int .i64 (c:Int)) (W.setRow g (sm (hs Kt y m (L/64+k)) (mm r m (64*(L/64)+64*k) c) s)):=a6;have aI:=Y5 hc;have a7:T/64=k:=uo
     have ai:T%64=c:=uo
     have aJ:Hid (Told Kt y m (W.setRow g (sm (hs Kt y m (L/64+k)) (mm r m (64*(L/64)+64*k) c) s)) g (L+bq d a)):=by
      refine⟨_,by rw[G,a7,a3];exact setRow_heap _ _ _ _ _ _ H,fun j C=>?_⟩;rw[V,ai] at C;rw[G,a7];unfold mm;rw[if_pos C]
      congr 1
      omega
     have aj:Hid (W.grownBy (W.setRow g (sm (hs Kt y m (L/64+k)) (mm r m (64*(L/64)+64*k) c) s)) (some g)):=⟨rfl,rfl,rfl,by rw[size_setRow];exact Nat.le_refl _,fun j _ E=>setRow_other _ _ _ _ (by intro e;subst e;exact E rfl)⟩;clear a6 y1 y2 y3 y4 y5 y6 Y2 Y3 Y4 Y5 Y6 a7 ai aI H a5 I G2 X2 ad e1 e2 F aC G V hA  hT ae  a3 a2;gi_wp2;exact⟨rfl,KeepsFrom.of_grownBy aj.o (fun j e=>by cases e;exact U),aJ.o,nW ag.o aj.o⟩
    ·have ak:c=64:=uo
     subst ak;have q1:¬((64:Nat):Int)<64:=uo
     have aK:W.heap[3]? =some (.cells (dH Kt) tt fr):=(I.block 3 ar (by intro e;cases e;exact ao rfl)).trans HK.o;have al:=ziM Kt (fun j=>m (64*(L/64+k)+j)) (hs Kt y m (L/64+k)) r s g p 64 W aK Y2 (fun j C=>by rw[Y6 j C];congr 3;omega) (fun j=>HM.o _) H;have aL:Hid _:=al;gi_wp2;refine⟨trivial,?_⟩;refine(CallsIn.inRound l (callsIn_wide.2 aL.o)).mono ?_;rintro e W3 ⟨rfl,aM,am⟩;have G3:Hid (W3.heap[g]? =some (.cells (sm (hs Kt y m (L/64+(k+1))) r s) 336 (0,0))):=aM;have S:Hid (W.grownBy W3 (some g)):=am;gi_wp2;have E:w.heap.size≠g:=uo
     exact⟨KeepsFrom.of_grownBy S.o (fun j e=>by cases e;exact U),Kc.of_grown S.o,by omega,G3.o,(S.o.block _ (zi ah.o).1 (by intro e;cases e;exact E rfl)).trans ah.o,nW ag.o S.o⟩
   case stop=>
    rintro D W hD ⟨aN,an⟩ aO;gi_wp2;rw[Exit.noGoto_normal];refine⟨by simp,.inl ⟨_,_,rfl,run_takeDeferred aO,?_⟩⟩;refine⟨_,results_none rfl _ _ _,rfl,?_,?_⟩
    ·obtain⟨r',h1,h2⟩:=aN
     exact⟨r',(World.putObj_heap_other uo).trans h1,h2⟩
    ·exact mo an (fh W _ hD) uo
end
section
open Go.RowKit Go.Lib
theorem zc (z:Nat):(Builtin.zeroCells #[.int .u8 0] z).toList=List.replicate z (.int .u8 0):=by
 apply List.ext_getElem?;intro i;by_cases h:i<z
 ·simp[Builtin.zeroCells,h,Nat.mod_one]
 ·simp[Builtin.zeroCells,h]
theorem zdv (w:World) (f g n a:Nat) (l:List Value) (i:w.ownsRow f 5 1 (.slice (some ⟨g,0,none⟩) n a) n l) (z:Nat) (J:z≤64) (b:n+z≤a):
  ∃ r,(Builtin.append_ #[140,3] 140 #[.slice (some ⟨g,0,none⟩) n a,.int .i64 (z:Int)]).run Tryz.prog w=.ok (.slice (some ⟨g,0,none⟩) (n+z) a) r∧
   r.ownsRow f 5 1 (.slice (some ⟨g,0,none⟩) (n+z) a) (n+z) (l++List.replicate z (.int .u8 0))∧w.grownBy r (some g):=by
 obtain⟨K,A,s,m,o⟩:=info_parts info5;have p:l.length=n:=by simpa using i.1
 rcases i.2 with⟨q,_⟩|⟨L,B,c,q,t,C,u,x,E,j⟩
 ·cases q
 ·cases q
  have d:=run_storeCells_at (P:=Tryz.prog) g n 5 (List.replicate z (.int .u8 0)) 0 c w C (by simp;omega) (fun v q=>by rw[(List.mem_replicate.1 q).2];rfl);simp only[Nat.add_zero,List.length_replicate] at d;have dH:IntKind.i64.wrap (z:Int)=(z:Int):=by rw[IntKind.wrap_i64];omega
  have F:IntKind.i64.wrap 0=0:=by decide
  have G:¬(281474976710656:Int)<(z:Int):=uo
  have H:(Builtin.append_ #[140,3] 140 #[.slice (some ⟨g,0,none⟩) n a,.int .i64 (z:Int)]).run Tryz.prog w=.ok (.slice (some ⟨g,0,none⟩) (n+z) a) (w.setRow g (c.toList.take n++List.replicate z (Value.int .u8 0)++c.toList.drop (n+z)).toArray):=by
   by_cases D:z=0
   ·subst D
    simp only[List.replicate_zero] at d;simp[Builtin.append_,run_underlying Tryz.underlying140,run_underlying Tryz.underlying3,sizeOf,typeInfo,A,m,o,u,Addr.add_lit,asInt,asIntOf,F,d]
   ·simp[Builtin.append_,run_underlying Tryz.underlying140,run_underlying Tryz.underlying3,sizeOf,typeInfo,zeroValue,A,s,m,o,b,Addr.add_lit,asInt,asIntOf,dH,G,D,Value.cells,zc,d]
    intro h;omega
  refine⟨_,H,⟨by simp[p],.inr ⟨g,a,_,rfl,t,setRow_heap w g c _ 5 _ C,b,x,by simp;omega,?_⟩⟩,⟨rfl,rfl,rfl,by rw[size_setRow];exact Nat.le_refl _,fun k _ I=>setRow_other w g k _ (fun e=>I (by rw[e]))⟩⟩;have y:c.toList.take n=l:=by simpa using j
  rw[y,show(n+z)*1=(l++List.replicate z (Value.int .u8 0)).length by simp[p]];exact List.take_left
theorem gT {P:Program} {c:Array Oper} {b:List Oper} {o:Oper} {a:Act} {w:World} {Q:Exit→Act→World→Prop} (e:o.guard=none) (t u:TypeId) (s x:Operand) (g:o.op=.call { callee:=.builtin .append,args:=#[s,x],argTypes:=#[t,u] })
  {vs vx v':Value} {f:World} (i:a.eval s=vs) (j:a.eval x=vx) (d:(Builtin.append_ #[t,u] o.type #[vs,vx]).run P w=.ok v' f) (h:wpList P c Q b (a.put o.dst v') f):wpList P c Q (o::b) a w:=
 wpList_plain e fun _ k=>by
  unfold Oper.wp execOp;simp only[g,resolve,invoke,builtin,Sem.run_bind,Sem.run_pure,Result.andThen_ok,List.map_toArray,List.map_cons,List.map_nil,i,j,d];exact k _ _ h
theorem kE (w:World) (v:Value) (t:TypeId):∀ j u,[v][j]? =some u→(w.alloc (.cells #[v] t)).cell? ((⟨w.heap.size,0,none⟩:Addr).add j)=some u:=fun j u hj=>by
 match j,hj with
 |0,hj=>rw[Addr.add_lit,zr (zq w _)];simpa using hj
 |j+1,hj=>simp at hj
def nz (n:Nat):Nat:=(119 - n%64)%64
def gG (n:Nat):List Int:=128::(List.replicate (nz n) 0++upto (fun j=>((n:Int)*8)/2 ^ (56 - 8*j)%256) 8)
theorem lz (f:Nat→Int) (k:Nat):upto f (k+1)=upto f k++[f k]:=by simp[upto,List.range_succ]
theorem zgS (n : Nat) (U : n ≤ 1099511627776) (w : World) :
    Calls Tryz.prog 270 #[.int .i64 (n : Int)] w fun e V => e = .returned (.string (strOfNums (gG n))) ∧ Below w.heap.size w V := by
  obtain ⟨E, C, F, q, G⟩ := info_parts info5
  obtain ⟨a, W⟩ : ∃ a, n % 64 = a := ⟨_, rfl⟩
  have d1 : (n : Int) % 64 = (a : Int) := by omega
  obtain ⟨z, Q⟩ : ∃ z, nz n = z := ⟨_, rfl⟩
  have X : (119 - a) % 64 = z := by rw [← Q, ← W]; rfl
  have d3 : ((119 : Int) - (a : Int)) % 64 = (z : Int) := by omega
  have Y : Hid _:= Q;go_enter Tryz.func270, Tryz.ntmps270
  go_wp2_with (first
    | (at_make; refine wpList_make_own _ rfl _ _ 140 rfl w.heap.size 5 E (.int .u8 0) 1 Tryz.underlying140 C F q .i64 .i64 128 128 rfl rfl rfl (by rw [G]; decide) ud zn ?_; intro H f b)
    | (at_builtin
       obtain ⟨R, g, h, c⟩ := run_append_fits (P := Tryz.prog) (H.alloc (.cells #[.int .u8 128] 5)) w.heap.size 140 140 5 E 1 Tryz.underlying140 C q w.heap.size 0 128 [] (f.alloc _) ⟨H.heap.size, 0, none⟩ 1 1 [.int .u8 128] rfl (kE _ _ _) (fun u x => by simp at x; subst x; rfl) ud;refine gT rfl 140 140 (.tmp 11) (.tmp 12) rfl (vs := .slice (some ⟨w.heap.size, 0, none⟩) 0 128) (vx := .slice (some ⟨H.heap.size, 0, none⟩) 1 1) rfl rfl g ?_;have y : Hid _:= h;have r : Hid (Below w.heap.size w R) := ⟨c.os.trans b.os, c.tape.trans b.tape, c.output.trans b.output, Nat.le_trans b.size (Nat.le_trans us c.size), fun k Z => (c.block k (by simp; have := b.size; omega) (by intro e; cases e; omega)).trans ((Below.heap_alloc _ _ _ (by have := b.size; omega)).trans (b.block k Z us))⟩
       clear h c f b g)
    | (at_builtin
       obtain ⟨w4, l, m, d⟩ := zdv R w.heap.size w.heap.size 1 128 _ y.o z uo uo;refine gT rfl 140 3 (.tmp 14) (.tmp 15) rfl (vs := .slice (some ⟨w.heap.size, 0, none⟩) 1 128) (vx := .int .i64 (z : Int)) rfl rfl l ?_;have I : Hid (w4.ownsRow w.heap.size 5 1 (.slice (some ⟨w.heap.size, 0, none⟩) (1 + z) 128) (1 + z) ((.int .u8 128) :: List.replicate z (.int .u8 0))) := m;have J : Hid _:= r.o.trans (ff d zn r.o.size);clear m d l y r))
  have K : ∀ j, ((.int .u8 128) :: List.replicate z (.int .u8 0)) ++ (upto (fun j => ((n : Int) * 8) / 2 ^ (56 - 8 * j) % 256) j).map (Value.int .u8) = (128 :: (List.replicate z 0 ++ upto (fun j => ((n : Int) * 8) / 2 ^ (56 - 8 * j) % 256) j)).map (Value.int .u8) := fun j => by simp
  have A : Hid _ := K
  go_loopw [4, 6] (fun v i wr => ∃ j : Nat, j ≤ 8 ∧ v = .slice (some ⟨w.heap.size, 0, none⟩) (1 + z + j) 128 ∧ i = .int .i64 (56 - 8 * (j : Int)) ∧ wr.ownsRow w.heap.size 5 1 (.slice (some ⟨w.heap.size, 0, none⟩) (1 + z + j) 128) (1 + z + j) (((.int .u8 128) :: List.replicate z (.int .u8 0)) ++ (upto (fun j => ((n : Int) * 8) / 2 ^ (56 - 8 * j) % 256) j).map (Value.int .u8)) ∧ Below w.heap.size w wr) (fun _ i _ => (intOf i + 8).toNat)
  case atStart => exact ⟨0, by omega, rfl, rfl, by simpa [upto] using I.o, J.o⟩
  case round =>
    obtain ⟨j, hj, rfl, rfl, B, L⟩ := hrel;have S : Hid (wr.ownsRow w.heap.size 5 1 (.slice (some ⟨w.heap.size, 0, none⟩) (1 + z + j) 128) (1 + z + j) (((.int .u8 128) :: List.replicate z (.int .u8 0)) ++ (upto (fun j => ((n : Int) * 8) / 2 ^ (56 - 8 * j) % 256) j).map (Value.int .u8))) := B;have D : Hid _:= L;by_cases a0 : j < 8
    · have g0 : (0 : Int) ≤ 56 - 8 * (j : Int) := by omega
      obtain ⟨w5, s, t, p⟩ := run_append_fits (P := Tryz.prog) (wr.alloc (.cells #[.int .u8 ((n : Int) * 8 / 2 ^ (56 - 8 * j) % 256)] 5)) w.heap.size 140 140 5 E 1 Tryz.underlying140 C q w.heap.size (1 + z + j) 128 _ (S.o.alloc _) ⟨wr.heap.size, 0, none⟩ 1 1 [.int .u8 ((n : Int) * 8 / 2 ^ (56 - 8 * j) % 256)] rfl (kE _ _ _) (fun u x => by simp at x; subst x; rfl) uo
      have M : Hid (w5.ownsRow w.heap.size 5 1 (.slice (some ⟨w.heap.size, 0, none⟩) (1 + z + (j + 1)) 128) (1 + z + (j + 1)) (((.int .u8 128) :: List.replicate z (.int .u8 0)) ++ (upto (fun j => ((n : Int) * 8) / 2 ^ (56 - 8 * j) % 256) (j + 1)).map (Value.int .u8))) := by
        rw [lz, List.map_append, ← List.append_assoc]; exact t
      have N : Hid _:= (D.o.alloc D.o.size _).trans (ff p zn (by simp; have := D.o.size; omega))
      go_wp2_with (at_builtin; refine gT rfl 140 140 (.tmp 24) (.tmp 29) rfl (vs := .slice (some ⟨w.heap.size, 0, none⟩) (1 + z + j) 128) (vx := .slice (some ⟨wr.heap.size, 0, none⟩) 1 1) rfl rfl s ?_)
      go_roundw
      case rel => exact ⟨j + 1, by omega, rfl, by go_num, M.o, N.o⟩
      case measure => simp [intOf]; omega
    · have O : j = 8 := by omega
      subst O
      have a1 : (convert 140 9 (.slice (some ⟨w.heap.size, 0, none⟩) (1 + z + 8) 128)).run Tryz.prog wr = .ok (.string (strOfNums (gG n))) wr := by
        unfold gG;rw [Y.o];refine run_convert_bytes_arg wr 140 5 Tryz.underlying140 Tryz.underlying5 w.heap.size 0 (1 + z + 8) 128 (128 :: (List.replicate z 0 ++ upto (fun j => ((n : Int) * 8) / 2 ^ (56 - 8 * j) % 256) 8)) (by simp [upto]; omega) (fun i C => ?_) 9 Tryz.underlying9;rw [Nat.zero_add];have T := S.o;rw [A.o 8] at T;refine na T ?_;rw [List.getElem?_map, List.getElem?_eq_getElem (by simp [upto]; omega)];simp [List.getD, List.getElem?_eq_getElem (show i < (128 :: (List.replicate z 0 ++ upto (fun j => ((n : Int) * 8) / 2 ^ (56 - 8 * j) % 256) 8)).length by simp [upto]; omega)]
      go_wp2
      go_ret;exact ⟨rfl, D.o⟩
def b4 (x:Int):List Int:=[x/16777216%256,x/65536%256,x/256%256,x%256]
def bw (f:Nat→Int):Nat→List Int
 |0=>[]
 |k+1=>bw f k++b4 (f k)
theorem qB (f:Nat→Int) (k:Nat):(bw f k).length=4*k:=by
 induction k with
 |zero=>rfl
 |succ k ih=>unfold bw;rw[List.length_append,ih];simp[b4];omega
theorem zkl (w:World) (a b c d:Value) (t:TypeId):∀ j u,[a,b,c,d][j]? =some u→(w.alloc (.cells #[a,b,c,d] t)).cell? ((⟨w.heap.size,0,none⟩:Addr).add j)=some u:=fun j u hj=>by
 rw[Addr.add_lit,Nat.zero_add,zr (zq w _)];simpa using hj
theorem nf (f : Nat → Int) (w : World) :
    Calls Tryz.prog 271 #[.agg (fF f)] w fun e G => e = .returned (.string (strOfNums (bw f 8))) ∧ Below w.heap.size w G := by
  obtain ⟨A, j, o, l, p⟩ := info_parts info5;have B : Hid ((w.alloc (.cells (fF f) 332)).heap[w.heap.size]? = some (.cells (fF f) 332 (0, 0))) := zq w _;have C : Hid (Below w.heap.size w (w.alloc (.cells (fF f) 332))) := (Below.refl _ w).alloc zn _;have q : Hid ((w.alloc (.cells (fF f) 332)).heap.size = w.heap.size + 1) := by refine (?_ : _ = _); simp
  go_enter Tryz.func271, Tryz.ntmps271
  go_wp2_with (first
    | (at_make; refine wpList_make_own _ rfl _ _ 140 rfl (w.heap.size + 1) 5 A (.int .u8 0) 1 Tryz.underlying140 j o l .i64 .i64 32 32 rfl rfl rfl (by rw [p]; decide) ud us ?_; intro H b a
       have I : Hid _:= (a.block w.heap.size (by rw [q.o]; omega) us).trans B.o;have J : Hid _:= C.o.grown a (Nat.le_of_lt (by rw [q.o]; omega)) (fun k e => by cases e);have K : Hid (H.ownsRow (w.heap.size + 1) 5 1 (.slice (some ⟨w.heap.size + 1, 0, none⟩) 0 32) 0 []) := by rw [q.o] at b; exact b
       clear b a B C)
    | (refine wpList_load_row rfl 332 _ rfl w.heap.size rfl 332 _ (0, 0) _ I.o Tryz.underlying332 rfl uk ?_))
  go_loopw [3, 8] (fun v i wr => ∃ k : Nat, k ≤ 8 ∧ v = .slice (some ⟨w.heap.size + 1, 0, none⟩) (4 * k) 32 ∧ i = .int .i64 (k : Int) ∧ wr.ownsRow (w.heap.size + 1) 5 1 (.slice (some ⟨w.heap.size + 1, 0, none⟩) (4 * k) 32) (4 * k) ((bw f k).map (Value.int .u8)) ∧ Below w.heap.size w wr) (fun _ i _ => 8 - (intOf i).toNat)
  case atStart => exact ⟨0, by omega, rfl, rfl, K.o, J.o⟩
  case round =>
    obtain ⟨k, Q, rfl, rfl, m, r⟩ := hrel;have D : Hid (wr.ownsRow (w.heap.size + 1) 5 1 (.slice (some ⟨w.heap.size + 1, 0, none⟩) (4 * k) 32) (4 * k) ((bw f k).map (Value.int .u8))) := m;have n : Hid _:= r;by_cases s : k < 8
    · have L := oR f k s
      generalize M : f k = x at *
      have N : Hid _:= M;obtain ⟨E, g, h, d⟩ := run_append_fits (P := Tryz.prog) (wr.alloc (.cells #[.int .u8 (x / 16777216 % 256), .int .u8 (x / 65536 % 256), .int .u8 (x / 256 % 256), .int .u8 (x % 256)] 5)) (w.heap.size + 1) 140 140 5 A 1 Tryz.underlying140 j l (w.heap.size + 1) (4 * k) 32 _ (D.o.alloc _) ⟨wr.heap.size, 0, none⟩ 4 4 [.int .u8 (x / 16777216 % 256), .int .u8 (x / 65536 % 256), .int .u8 (x / 256 % 256), .int .u8 (x % 256)] rfl (zkl _ _ _ _ _ _) (fun u F => by simp at F; rcases F with rfl | rfl | rfl | rfl <;> rfl) uo
      have t : Hid (E.ownsRow (w.heap.size + 1) 5 1 (.slice (some ⟨w.heap.size + 1, 0, none⟩) (4 * (k + 1)) 32) (4 * (k + 1)) ((bw f (k + 1)).map (Value.int .u8))) := by
        show E.ownsRow (w.heap.size + 1) 5 1 (.slice (some ⟨w.heap.size + 1, 0, none⟩) (4 * k + 4) 32) (4 * k + 4) ((bw f k ++ b4 (f k)).map (Value.int .u8));rw [List.map_append, N.o]; exact h
      have y : Hid _:= (n.o.alloc n.o.size _).trans (ff d uo (by simp; have := n.o.size; omega))
      go_wp2_with (at_builtin; refine gT rfl 140 140 (.tmp 11) (.tmp 23) rfl (vs := .slice (some ⟨w.heap.size + 1, 0, none⟩) (4 * k) 32) (vx := .slice (some ⟨wr.heap.size, 0, none⟩) 4 4) rfl rfl g ?_)
      go_roundw
      case rel => exact ⟨k + 1, by omega, rfl, by go_num, t.o, y.o⟩
      case measure => simp [intOf]; omega
    · have z : k = 8 := by omega
      subst z
      have O : (convert 140 9 (.slice (some ⟨w.heap.size + 1, 0, none⟩) (4 * 8) 32)).run Tryz.prog wr = .ok (.string (strOfNums (bw f 8))) wr := by
        refine run_convert_bytes_arg wr 140 5 Tryz.underlying140 Tryz.underlying5 (w.heap.size + 1) 0 (4 * 8) 32 (bw f 8) (by rw [qB]) (fun i j => ?_) 9 Tryz.underlying9;rw [Nat.zero_add];refine na D.o ?_;rw [List.getElem?_map, List.getElem?_eq_getElem (by rw [qB]; exact j)];simp [List.getD, List.getElem?_eq_getElem (show i < (bw f 8).length by rw [qB]; exact j)]
      go_wp2
      go_ret;exact ⟨rfl, n.o⟩
open Go.RowKit
theorem zmt {Kt iv m m':Nat→Int} (k:Nat) (h:∀ j,j<64*k→m j=m' j):hs Kt iv m k=hs Kt iv m' k:=by
 induction k with
 |zero=>rfl
 |succ k ih=>unfold hs;rw[ih (fun j hj=>h j uo),zjA (q':=fun j=>m' (64*k+j)) (fun j hj=>h _ uo)]
theorem ziV (n:Nat):(gG n).length=9+nz n:=by simp[gG,upto];omega
theorem zpE (n:Nat):(gG n).length≤72:=by rw[ziV];unfold nz;omega
theorem zhW (n j:Nat):0≤(gG n).getD j 0∧(gG n).getD j 0<256:=by
 have b:∀ x∈gG n,0≤x∧x<256:=by
  intro x a;unfold gG at a;rcases List.mem_cons.1 a with rfl|a
  ·decide
  ·rcases List.mem_append.1 a with a|a
   ·rw[(List.mem_replicate.1 a).2];decide
   ·obtain⟨j,_,rfl⟩:=List.mem_map.1 a
    exact⟨Int.emod_nonneg _ ud,Int.emod_lt_of_pos _ ud⟩
 rw[List.getD_eq_getElem?_getD];by_cases h:j<(gG n).length
 ·rw[List.getElem?_eq_getElem h];exact b _ (List.getElem_mem h)
 ·rw[List.getElem?_eq_none uo];decide
def mf (m:Nat→Int) (L:Nat):Nat→Int:=fun j=>if j<L then m j else(gG L).getD (j - L) 0
theorem zoj {m:Nat→Int} (hm:∀ j,0≤m j∧m j<256) (L j:Nat):0≤mf m L j∧mf m L j<256:=by
 unfold mf;split
 ·exact hm j
 ·exact zhW _ _
def jk (Kt iv m:Nat→Int) (L:Nat):List Int:=bw (hs Kt iv (mf m L) ((L+(gG L).length)/64)) 8
theorem zeA (Kt iv m:Nat→Int) (L:Nat):(jk Kt iv m L).length=32:=by unfold jk;rw[qB]
theorem Told.congr {Kt iv m m':Nat→Int} {W:World} {g L:Nat} (ht:Told Kt iv m W g L) (h:∀ j,j<L→m j=m' j):Told Kt iv m' W g L:=by
 obtain⟨r,h1,h2⟩:=ht;refine⟨r,?_,fun j hj=>(h2 j hj).trans (h _ uo)⟩;rw[←zmt (L/64) (fun j hj=>h j uo)];exact h1
theorem rk (w:World):Calls Tryz.prog 267 #[] w fun e b=>e=.returned (.agg (fF (lf IV)))∧Below w.heap.size w b:=by
 go_enter Tryz.func267,Tryz.ntmps267;obtain⟨i,a,c,d,j⟩:=pr w #[.int .u32 0,.int .u32 0,.int .u32 0,.int .u32 0,.int .u32 0,.int .u32 0,.int .u32 0,.int .u32 0] 332 (fF (lf IV));have f:Hid _:=a;have g:Hid _:=c;have h:Hid _:=d
 go_wp2_with (refine wpList_store_row rfl 332 _ _ rfl w.heap.size (fF (lf IV)) rfl rfl 332 _ (zq w _) uk rfl (pq _) ?_;rw[f.o])
 refine bodyPost_ret (results_cell_row Tryz.results267 _ _ w.heap.size 332 _ (0,0) _ rfl g.o Tryz.underlying332 rfl uk) rfl ⟨rfl,h.o⟩
theorem ziW {P:Program} {c:Array Oper} {b:List Oper} {o:Oper} {a:Act} {w:World} {Q:Exit→Act→World→Prop} (e:o.guard=none) (t:TypeId) (i:Nat) (x:Operand) (g:o.op=.build t #[(i,x)])
  {vx v':Value} (j:a.eval x=vx) (d:(Instr.build t #[(i,vx)]).run P w=.ok v' w) (h:wpList P c Q b (a.put o.dst v') w):wpList P c Q (o::b) a w:=
 wpList_plain e fun _ k=>by
  unfold Oper.wp execOp;simp only[g,Sem.run_bind,Sem.run_pure,Result.andThen_ok,List.map_toArray,List.map_cons,List.map_nil,j,d];exact k _ _ h
theorem zmu {P:Program} {c:Array Oper} {b:List Oper} {o:Oper} {a:Act} {w:World} {Q:Exit→Act→World→Prop} (e:o.guard=none) (t:TypeId) (x:Operand) (i:o.op=.box t x)
  {vx v':Value} {g:World} (j:a.eval x=vx) (d:(Instr.box t vx).run P w=.ok v' g) (h:wpList P c Q b (a.put o.dst v') g):wpList P c Q (o::b) a w:=
 wpList_plain e fun _ k=>by
  unfold Oper.wp execOp;simp only[i,Sem.run_bind,Sem.run_pure,Result.andThen_ok,j,d];exact k _ _ h
theorem run_build (f:Nat→Int) (w:World):(Instr.build 336 #[(0,.agg (fF f))]).run Tryz.prog w=.ok (.agg (sm f (fun _=>0) 0)) w:=uk
theorem zok (f r:Nat→Int) (c:Int) (w:World):(Instr.box 336 (.agg (sm f r c))).run Tryz.prog w=.ok (.pointer (some ⟨w.heap.size,0,none⟩)) (w.alloc (.cells (sm f r c) 336)):=uk
theorem rq (w:World):Calls Tryz.prog 250 #[] w fun e a=>∃ g,w.heap.size≤g∧e=.returned (.pointer (some ⟨g,0,none⟩))∧a.heap[g]? =some (.cells (sm (lf IV) (fun _=>0) 0) 336 (0,0))∧Below w.heap.size w a:=by
 have c:=rk;generalize lf IV=f at*
 go_enter Tryz.func250,Tryz.ntmps250;go_wp2_with fail;refine um (c _) fun a b=>?_
 rename_i d
 refine d _ _ ?_;refine ziW rfl 336 0 (.tmp 1) rfl (vx:=.agg (fF f)) rfl (run_build f a) ?_;refine zmu rfl 336 (.tmp 2) rfl (vx:=.agg (sm f (fun _=>0) 0)) rfl (zok f _ 0 a) ?_;have h:Hid ((a.alloc (.cells (sm f (fun _=>0) 0) 336)).heap[a.heap.size]? =some (.cells (sm f (fun _=>0) 0) 336 (0,0))):=zq a _;have i:Hid (Below w.heap.size w (a.alloc (.cells (sm f (fun _=>0) 0) 336))):=b.alloc b.size _;have j:Hid _:=b.size;generalize a.alloc (.cells (sm f (fun _=>0) 0) 336)=W at*
 generalize a.heap.size=g at*
 go_wp2_with fail;go_ret;exact⟨_,j.o,rfl,h.o,i.o⟩
theorem zol (l:List Int) (h:∀ j,0≤l.getD j 0∧l.getD j 0<256) (j:Nat) (a:j<l.length):bt (strOfNums l) j=l.getD j 0:=by
 have:=h j;rw[List.getD_eq_getElem?_getD] at this ⊢;unfold bt strOfNums;rw[List.getElem?_eq_getElem a] at this ⊢;simp only[Option.getD_some] at this ⊢;simp only[List.getElem?_toArray,List.getElem?_map,List.getElem?_eq_getElem a,Option.map_some,Option.getD_some];rw[UInt8.toNat_ofNat'];omega
theorem zom (Kt d m:Nat→Int) (u:∀ j,0≤m j∧m j<256) (g L:Nat) (s:ByteArray) (w:World) (t:TypeId) {v:TypeId} {x:Nat × Nat} (p:w.heap[3]? =some (.cells (dH Kt) v x)) (f:g≠3)
  (y:L+s.size≤1099511627776) (q:Told Kt d m w g L) (z:∀ j,j<s.size→bt s j=m (L+j)):
  Calls Tryz.prog 251 #[.pointer (some ⟨g,0,none⟩),.slice (some ⟨w.heap.size,0,none⟩) 1 1] (w.alloc (.cells #[.string s] t)) fun e h=>e=.returned (.tuple #[])∧Told Kt d m h g (L+s.size)∧w.grownBy h (some g):=by
 have l:g<w.heap.size:=by obtain⟨r,c,_⟩:=q;exact(zi c).1
 have a:Below w.heap.size w (w.alloc (.cells #[.string s] t)):=(Below.refl _ w).alloc zn _;refine(callsIn_wide.1 (znG Kt d m u g L 1 1 (some ⟨w.heap.size,0,none⟩) (fun _=>s) (w.alloc (.cells #[.string s] t)) ((a.block 3 ((zi p).1)).trans p) f (by simpa [bq] using y) ud (by obtain⟨r,c,b⟩:=q;exact⟨r,(a.block g l).trans c,b⟩) ?_)).mono ?_
 ·intro i C
  obtain rfl:i=0:=uo
  exact⟨⟨w.heap.size,0,rfl,by omega,by simp,by rw[zr (zq w _)];rfl⟩,fun j A=>by simpa [bq] using z j A⟩
 ·rintro e h ⟨rfl,c,b⟩
  refine⟨rfl,by simpa [bq] using c,⟨b.os,b.tape,b.output,Nat.le_trans us b.size,fun k B o=>(b.block k (by simp;omega) o).trans (a.block k B)⟩⟩
theorem zpF (f r:Nat→Int) (c:Int):(sm f r c).all (·.oneCell')=true:=by
 rw[Array.all_eq_true];intro i hi;simp only[sm,Array.getElem_ofFn];split
 ·rfl
 ·split<;>rfl
theorem zon (Kt a m:Nat→Int) (k:∀ j,0≤m j∧m j<256) (g L:Nat) (w:World) (t:TypeId) {l:TypeId} {n:Nat × Nat} (o:w.heap[3]? =some (.cells (dH Kt) l n)) (b:g≠3)
  (u:L≤1000000000000) (p:Told Kt a m w g L):
  Calls Tryz.prog 251 #[.pointer (some ⟨g,0,none⟩),.slice (some ⟨w.heap.size,0,none⟩) 1 1] (w.alloc (.cells #[.string (strOfNums (gG L))] t)) fun e d=>e=.returned (.tuple #[])∧(∃ r c,d.heap[g]? =some (.cells (sm (hs Kt a (mf m L) ((L+(gG L).length)/64)) r c) 336 (0,0)))∧w.grownBy d (some g):=by
 have f:(strOfNums (gG L)).size=(gG L).length:=strOfNums_size _;have q:=zpE L;refine(zom Kt a (mf m L) (zoj k L) g L (strOfNums (gG L)) w t o b uo (p.congr fun j h=>by simp[mf,h]) fun j h=>?_).mono ?_
 ·rw[zol _ (zhW L) j uo]
  unfold mf;rw[if_neg uo,show L+j - L=j by omega]
 ·rintro e d ⟨rfl,⟨r,i,_⟩,s⟩
  rw[f] at i;exact⟨rfl,⟨r,_,i⟩,s⟩
theorem ziX {P:Program} {c:Array Oper} {b:List Oper} {o:Oper} {a:Act} {w:World} {Q:Exit→Act→World→Prop} (e:o.guard=none) (t:TypeId) (i:o.op=.alloc t)
  {v':Value} {g:World} (d:(Instr.alloc t true (.tuple #[])).run P w=.ok v' g) (h:wpList P c Q b (a.put o.dst v') g):wpList P c Q (o::b) a w:=
 wpList_plain e fun _ j=>by
  unfold Oper.wp execOp;simp only[i,Sem.run_bind,Sem.run_pure,Result.andThen_ok,d];exact j _ _ h
theorem zkm (w:World):(Instr.alloc 336 true (.tuple #[])).run Tryz.prog w=.ok (.pointer (some ⟨w.heap.size,0,none⟩)) (w.alloc (.cells (sm (fun _=>0) (fun _=>0) 0) 336)):=uk
theorem zoo (Kt a m : Nat → Int) (A : ∀ j, 0 ≤ m j ∧ m j < 256) (g L : Nat) (w : World) {B : TypeId} {C : Nat × Nat} (o : w.heap[3]? = some (.cells (dH Kt) B C))
    (D : L ≤ 1000000000000) (E : Told Kt a m w g L) :
    Calls Tryz.prog 252 #[.pointer (some ⟨g, 0, none⟩)] w fun e d => e = .returned (.string (strOfNums (jk Kt a m L))) ∧ Below w.heap.size w d := by
  have h := (zi o).1;obtain ⟨r, p, G⟩ := E;obtain ⟨f, q⟩ : ∃ f, hs Kt a m (L / 64) = f := ⟨_, rfl⟩;have s : Hid (w.heap[g]? = some (.cells (sm f r (L : Int)) 336 (0, 0))) := by rw [← q]; exact p
  have H : Hid _:= G;have I : Hid _:= q;have J : Hid _:= o;have K : Hid _:= A
  go_enter Tryz.func252, Tryz.ntmps252;obtain ⟨u, l, M, N, O⟩ := pr w (sm (fun _ => 0) (fun _ => 0) 0) 336 (sm f r (L : Int));have P : Hid _ := l;have Q : Hid _:= M;have v : Hid _:= N
  go_wp2_with (first
    | (refine wpList_load_row rfl 336 _ rfl g rfl 336 _ (0, 0) _ s.o Tryz.underlying336 rfl (by rw [lA]; kernel_rfl) ?_
       refine ziX rfl 336 rfl (zkm w) ?_;refine wpList_store_row rfl 336 _ _ rfl w.heap.size (sm f r (L : Int)) rfl rfl 336 _ (zq w _) (by rw [lA]; kernel_rfl) (by rw [lA, lA]) (zpF _ _ _) ?_;rw [P.o];have cc : u.cell? ⟨g, 72, none⟩ = some (.int .i64 (L : Int)) := by rw [zr ((v.o.block g ((zi p).1)).trans s.o), kB]))
  refine (zgS L uo u).mono ?_;rintro e b ⟨rfl, n⟩;have x : w.heap.size + 1 ≤ b.heap.size := by have := n.size; omega
  have y : Hid _:= v.o.trans (n.mono uo);have R : Hid (Told Kt a m b w.heap.size L) := ⟨r, by rw [I.o]; exact (n.block _ uo).trans Q.o, H.o⟩
  have S : ∀ t, Hid (Calls Tryz.prog 251 #[.pointer (some ⟨w.heap.size, 0, none⟩), .slice (some ⟨b.heap.size, 0, none⟩) 1 1] (b.alloc (.cells #[.string (strOfNums (gG L))] t)) fun e d => e = .returned (.tuple #[]) ∧ (∃ r c, d.heap[w.heap.size]? = some (.cells (sm (hs Kt a (mf m L) ((L + (gG L).length) / 64)) r c) 336 (0, 0))) ∧ b.grownBy d (some w.heap.size)) := fun t =>
    zon Kt a m K.o w.heap.size L b t ((y.o.block 3 h).trans J.o) uo D R.o
  have T : Hid (jk Kt a m L = bw (hs Kt a (mf m L) ((L + (gG L).length) / 64)) 8) := rfl;generalize hs Kt a (mf m L) ((L + (gG L).length) / 64) = F at *
  generalize strOfNums (gG L) = sf at *
  go_wp2_with fail;refine (S _).o.mono ?_;rintro e U ⟨rfl, ⟨r4, c4, V⟩, W⟩;have z : Hid _:= y.o.grown W uo (fun k e => by cases e; exact Nat.le_refl _);have X : Hid _:= V
  go_wp2_with (first
    | (refine wpList_load_mid rfl 332 _ rfl w.heap.size 0 rfl (fF F).toList _ (zhN X.o) Tryz.underlying332 rfl uk ?_))
  refine (nf F U).mono ?_;rintro e W5 ⟨rfl, Y⟩;have Z : Hid _:= z.o.trans (Y.mono z.o.size);go_wp2_with fail;go_ret;exact ⟨by rw [T.o]; rfl, Z.o⟩
theorem oW (Kt m:Nat→Int) (F:∀ j,0≤m j∧m j<256) (a f:Nat) (o:Option Addr) (d:Nat→ByteArray) (w:World) {G:TypeId} {H:Nat × Nat} (x:w.heap[3]? =some (.cells (dH Kt) G H))
  (I:bq d a≤1000000000000) (h:a≤1099511627776)
  (q:∀ i,i<a→(∃ b c,o=some ⟨b,c,none⟩∧b<w.heap.size∧w.cell? ⟨b,c+i,none⟩=some (.string (d i)))∧∀ j,j<(d i).size→bt (d i) j=m (bq d i+j)):
  Calls Tryz.prog 219 #[.slice o a f] w fun e J=>e=.returned (.string (strOfNums (jk Kt (lf IV) m (bq d a))))∧Below w.heap.size w J:=by
 have l:=(zi x).1;have y:Hid _:=x;have r:Hid _:=q;have z:Hid _:=I;have s:Hid _:=h;have A:Hid _:=F;have K:Hid _:=rq;generalize lf IV=p at*
 go_enter Tryz.func219,Tryz.ntmps219;go_wp2_with fail;refine(K.o w).mono ?_;rintro e B ⟨g,L,rfl,M,N⟩;have T1:Hid (Told Kt p m B g 0):=⟨_,M,fun j t=>absurd t uo⟩;have n:Hid _:=N;go_wp2_with fail;refine(callsIn_wide.1 (znG Kt p m A.o g 0 a f o d B ((n.o.block 3 l).trans y.o) uo (by have:=z.o;omega) s.o T1.o ?_)).mono ?_
 ·intro i O
  obtain⟨⟨b,c,P,C,Q⟩,u⟩:=r.o i O;exact⟨⟨b,c,P,by omega,Nat.lt_of_lt_of_le C n.o.size,(mn (n.o.block b C) _).trans Q⟩,fun j t=>by rw[Nat.zero_add];exact u j t⟩
 rintro e D ⟨rfl,E,R⟩;have T2:Hid (Told Kt p m D g (bq d a)):=by rw[Nat.zero_add] at E;exact E
 have v:Hid _:=n.o.grown R n.o.size (fun k e=>by cases e;exact L);go_wp2_with fail;refine um (zoo Kt p m A.o g _ D ((v.o.block 3 l).trans y.o) z.o T2.o) fun U S=>?_;have T:Hid _:=v.o.trans (S.mono v.o.size);go_wp2_with fail;go_ret;exact⟨rfl,T.o⟩
theorem ziY (Kt:Nat→Int) (s:ByteArray) (w:World) {f:TypeId} {g:Nat × Nat} (d:w.heap[3]? =some (.cells (dH Kt) f g)) (h:s.size≤1000000000000):
  Calls Tryz.prog 247 #[.string s] w fun e b=>e=.returned (.string (strOfNums (jk Kt (lf IV) (bt s) s.size)))∧Below w.heap.size w b:=by
 have k:∀ t,Hid (Calls Tryz.prog 219 #[.slice (some ⟨w.heap.size,0,none⟩) 1 1] (w.alloc (.cells #[.string s] t)) fun e b=>e=.returned (.string (strOfNums (jk Kt (lf IV) (bt s) s.size)))∧Below w.heap.size w b):=fun t=>by
  have a:Below w.heap.size w (w.alloc (.cells #[.string s] t)):=(Below.refl _ w).alloc zn _;refine(oW Kt (bt s) (iW s) 1 1 (some ⟨w.heap.size,0,none⟩) (fun _=>s) (w.alloc (.cells #[.string s] t)) ((a.block 3 ((zi d).1)).trans d) (by simpa [bq] using h) ud ?_).mono ?_
  ·intro i o
   obtain rfl:i=0:=uo
   exact⟨⟨w.heap.size,0,rfl,by simp,by rw[zr (zq w _)];rfl⟩,fun j p=>by simp[bq]⟩
  ·rintro e b ⟨rfl,l⟩
   exact⟨by simp[bq],a.trans (l.mono us)⟩
 generalize jk Kt (lf IV) (bt s) s.size=D at*
 go_enter Tryz.func247,Tryz.ntmps247;go_wp2_with fail;refine(k _).o.mono ?_;rintro e q ⟨rfl,m⟩;have n:Hid _:=m;go_wp2_with fail;go_ret;exact⟨rfl,n.o⟩
theorem zmv {P:Program} {c:Array Oper} {b:List Oper} {o:Oper} {a:Act} {w:World} {Q:Exit→Act→World→Prop} (e:o.guard=none) (t u:TypeId) (x y:Operand) (f:o.op=.call { callee:=.builtin .min,args:=#[x,y],argTypes:=#[t,u] })
  {p q r:Int} (g:a.eval x=.int .i64 p) (i:a.eval y=.int .i64 q) (j:(if q<p then q else p)=r) (h:wpList P c Q b (a.put o.dst (.int .i64 r)) w):wpList P c Q (o::b) a w:=
 wpList_plain e fun _ k=>by
  have d:(Builtin.min_ #[t,u] o.type #[.int .i64 p,.int .i64 q]).run P w=.ok (.int .i64 r) w:=by subst j;rfl
  unfold Oper.wp execOp;simp only[f,resolve,invoke,builtin,Sem.run_bind,Sem.run_pure,Result.andThen_ok,List.map_toArray,List.map_cons,List.map_nil,g,i,d];exact k _ _ h
theorem bF (w:World) (o:Obj):Below w.heap.size w (w.alloc o):=(Below.refl _ w).alloc zn _
theorem zkn (a b c:ByteArray):a++b++c=a++(b++c):=by
 apply ByteArray.ext;simp[Array.append_assoc]
theorem pJ (a b:ByteArray) (j:Nat):bt (a++b) j=if j<a.size then bt a j else bt b (j - a.size):=by
 unfold bt;have e:(a++b).data=a.data++b.data:=by simp
 rw[e];by_cases h:j<a.size
 ·rw[if_pos h,Array.getElem?_append_left h]
 ·rw[if_neg h,Array.getElem?_append_right (by exact Nat.le_of_not_lt h)];rfl
theorem zmw (w:World) (cs:Array Value) (l:List Int) (n:Nat) (a:l.length=n) (b:∀ i,i<n→cs[i]? =some (.int .u8 (l.getD i 0))):
  (convert 140 9 (.slice (some ⟨w.heap.size,0,none⟩) n n)).run Tryz.prog (w.alloc (.cells cs 5))=.ok (.string (strOfNums l)) (w.alloc (.cells cs 5)):=by
 refine run_convert_bytes_arg _ 140 5 Tryz.underlying140 Tryz.underlying5 w.heap.size 0 n n l a (fun i c=>?_) 9 Tryz.underlying9;rw[zr (zq w _),Nat.zero_add];exact b i c
theorem dF {P:Program} {f:Region.Mode} {d:Array Oper} {Q:Exit→Act→World→Prop} {S:World→Prop} {e:Nat} {b:Array Bool} {a:Act} {w:World} (k:Nat) (o:Oper) (g:Region.ready f d b=[k]) (i:d[k]? =some o)
  (l:Region.wanted o (yielded d a.tmps)=true)
  (h:∀ K:Act→World→Prop,(∀ a w,S w→wpAnyH P f d Q S e (b.setIfInBounds k true) a w→K a w)→Oper.wp P o a w K Q):wpAnyH P f d Q S (e+1) b a w:=by
 refine wpAnyH_all g us fun j m=>?_
 obtain rfl:j=k:=by simpa using m
 unfold wpOp;simp only[i,l,if_true];exact .inl (h _ fun a w n p=>⟨n,p⟩)
theorem ziZ {α:Type} {F:Fence} {n:Nat} {P:Program} {g:Operand} {ps:Array Tmp} {assign body:Code} {Q:Exit→Act→World→Prop} {a:Act} {w:World}
  (a6:F.round=none) (h1:1≤n) {gf:Nat} {lb:Array Value} (hg:a.eval g=.func (.func gf) #[] lb) (a7:F.fn gf) (eg:∀ args w,(callFunc gf args).run P w=.ok (.enter gf args) w)
  (c:α→Array Value) (a8:∀ x,(c x).size=ps.size) (I:World→World→Prop) (O:∀ {A B C:World},I A B→I B C→I A C)
  (S:∀ (W:World) (l:Nat) (o o':Obj),W.heap[l]? =some o→o.isCells=false→I W (W.putObj l o'))
  (Y:Nat→α→World→Prop) (hY:∀ k x W l o',Y k x W→w.heap.size≤l→l<w.heap.size+2→Y k x (W.putObj l o'))
  (J:Nat→World→Prop) (T:World→Prop) (id:Nat) (hJ:∀ k W W',J k W→Below w.heap.size W W'→J k W') (r:∀ W W',T W→Below w.heap.size W W'→T W') (h0:J 0 w)
  (U:Nat→Prop) (V:∀ k W,J k W→U k→False) (q:α→Act)
  (f:∀ (l:Nat) (x:α) (W:World) (K:Act→World→Prop),K (q x) W→
   assign.wpIn (F.inRound l) (n - 1 - 1) P (Exit.then K (fun _ _ _=>False)) { tmps:=(ps.zip (c x)).foldl (fun t (p,v)=>t.setIfInBounds p v) a.tmps,defers:=[] } W)
  (s:∀ (l k:Nat) (x:α) (W:World),J k W→Y k x W→body.wpIn (F.inRound l) (n - 1 - 1) P (zpC w.heap.size I (J (k+1)) T id W) (q x) W)
  (u:∀ (l:Nat) (W1:World),Below w.heap.size w W1→W1.heap.size=w.heap.size+2→∀ (R:Nat→World→Prop) (Rx:World→Prop),(∀ k W W',R k W→Below W1.heap.size W W'→R k W')→(∀ W W',Rx W→Below W1.heap.size W W'→Rx W')→
   (∀ k x W,R k W→Y k x W→YieldAt F (n - 1 - 1) P l (c x) W fun e W'=>(e=.returned (.bool true)∧R (k+1) W'∧I W W')∨(e=.returned (.bool false)∧Rx W'))→(∀ k W,R k W→¬U k)→R 0 W1→
   CallsIn F (n - 1) P gf (#[.func (.yield l) #[] #[]]++lb) W1 fun e W'=>(∃ v,e=.returned v)∧Rx W')
  (y:∀ (D:Nat) (W:World),w.heap.size≤D→T W→W.heap[D]? =some (.deferred (some []))→(Code.exit id).wpIn F n P Q { a with defers:={ target:=.collected D,args:=#[] }::a.defers } W):
  (Code.rangeFunc g ps assign body).wpIn F n P Q a w:=by
 refine wpIn_rangeFunc fun fn a9=>?_
 rw[a6];obtain⟨m,b⟩:∃ m:LoopState→Option Code→Loop,m=fun st pe=>{ state:=st,pending:=pe,fn,tmps:=a.tmps,params:=ps,assign,body,defers:=w.heap.size }:=⟨_,rfl⟩
 obtain⟨W1,z⟩:∃ W1,(w.alloc (.deferred (some []))).alloc (.loop (m .ready none))=W1:=⟨_,rfl⟩;have X:=fJ w (.deferred (some [])) (.loop (m .ready none));have hs:W1.heap.size=w.heap.size+2:=by rw[←z];simp
 rw[z] at X;obtain⟨aa,ab,Z⟩:=X
 refine⟨w.heap.size+1,[{ target:=.collected w.heap.size,args:=#[] }],W1,{ target:=.fn (.func gf) lb,args:=#[.func (.yield (w.heap.size+1)) #[] #[]] },W1,gf,
  #[.func (.yield (w.heap.size+1)) #[] #[]]++lb,W1,?_,?_,?_,?_,fun _=>h1,?_⟩
 ·rw[←z,b];exact run_enterLoop_outer _ _ _ _ _
 ·simp only[resolve,hg]
  simp[go_sem]
 ·intro f' a0
  simp[Target.leads] at a0;subst a0;exact a7
 ·simp[invoke,go_sem,eg]
 ·refine(u (w.heap.size+1) W1 Z hs
   (fun k W=>J k W∧W.heap[w.heap.size+1]? =some (.loop (m .ready none))∧W.heap[w.heap.size]? =some (.deferred (some [])))
   (fun W=>T W∧W.heap[w.heap.size+1]? =some (.loop (m .done (some (.exit id))))∧W.heap[w.heap.size]? =some (.deferred (some [])))
   (fun k W W' h E=>⟨hJ k W W' h.1 (E.mono uo),(E.block _ uo).trans h.2.1,(E.block _ uo).trans h.2.2⟩)
   (fun W W' h E=>⟨r W W' h.1 (E.mono uo),(E.block _ uo).trans h.2.1,(E.block _ uo).trans h.2.2⟩)
   ?_ (fun k W h hk=>V k W h.1 hk) ⟨hJ 0 w W1 h0 Z,ab,aa⟩).mono ?_
  ·rintro k x W ⟨hj,L,hd⟩ hy
   have a1:=run_yield (P:=P) (args:=c x) L (by rw[b];exact a8 x);rw[b] at a1;refine⟨fn,_,assign,body,a1,roundIn_of_wpIn a9 (f _ x W _ ?_)⟩;refine⟨_,run_beginRound L (by rw[b]),?_⟩;have a2:(W.putObj (w.heap.size+1) (.loop { m .ready none with state:=.busy })).heap[w.heap.size+1]? =some (.loop { m .ready none with state:=.busy }):=World.putObj_heap_same ((zi L).1);have a4:(W.putObj (w.heap.size+1) (.loop { m .ready none with state:=.busy })).heap[w.heap.size]? =some (.deferred (some [])):=(World.putObj_heap_other uo).trans hd;refine wpIn_mono (s _ k x _ (hJ k _ _ hj (fh W _ uo)) (hY k x W _ _ hy uo uo)) ?_;rintro e a3 W3 M;cases e with
   |normal=>
    obtain⟨j,ad,G⟩:=M;have d:=j.same _ _ uo a2 rfl;have hd3:=j.same _ _ zn a4 rfl;have hr:=run_endRound (P:=P) none d;refine⟨_,_,hr,.inl ⟨rfl,⟨hJ _ _ _ G (fh W3 _ uo),?_,(World.putObj_heap_other uo).trans hd3⟩,O (S W _ _ _ L rfl) (O ad (S W3 _ _ _ d rfl))⟩⟩;rw[World.putObj_heap_same (zi d).1,b];rfl
   |exit i=>
    obtain⟨rfl,j,G⟩:=M;have d:=j.same _ _ uo a2 rfl;refine⟨_,_,(run_endRound (P:=P) (some (.exit i)) d),.inr ⟨rfl,r _ _ G (fh W3 _ uo),?_,(World.putObj_heap_other uo).trans (j.same _ _ zn a4 rfl)⟩⟩;rw[World.putObj_heap_same (zi d).1,b];rfl
   |ret=>exact M.elim
   |goto t=>exact M.elim
   |panic ch=>exact M.elim
   |outgrown=>exact M.elim
  ·rintro e W2 ⟨⟨v,rfl⟩,hx,L,hd⟩
   refine⟨some (.exit id),_,by have:=run_endLoop (P:=P) L (by rw[b];simp);rw[b] at this;exact this,?_⟩;exact y _ _ zn (r _ _ hx (fh W2 _ uo)) ((World.putObj_heap_other uo).trans hd)
open Go.RowKit Go.Shelf Go.Lib
attribute [local go_sem] Oper.semAt_some
def Kq (b:Nat) (A B:World):Prop:=A.heap.size≤B.heap.size∧∀ j o,j<b→A.heap[j]? =some o→o.isCells=true→B.heap[j]? =some o
theorem Kq.refl (b:Nat) (A:World):Kq b A A:=⟨Nat.le_refl _,fun _ _ _ h _=>h⟩
theorem Kq.trans {b:Nat} {A B C:World} (h:Kq b A B) (k:Kq b B C):Kq b A C:=⟨Nat.le_trans h.1 k.1,fun j o hj ho hc=>k.2 j o hj (h.2 j o hj ho hc) hc⟩
theorem Kq.put (b:Nat) (W:World) (l:Nat) (o o':Obj) (h:W.heap[l]? =some o) (hc:o.isCells=false):Kq b W (W.putObj l o'):=
 ⟨by simp[World.putObj],fun j p _ hp hpc=>by
  by_cases e:j=l
  ·subst e;rw[h] at hp;cases hp;rw[hc] at hpc;cases hpc
  ·exact(World.putObj_heap_other e).trans hp⟩
theorem Kq.below {b B:Nat} {X Y:World} (h:Below B X Y) (hB:b≤B):Kq b X Y:=⟨h.size,fun j _ hj ho _=>(h.block j uo).trans ho⟩
def ru (gf:Nat) (lb:Array Value) (m:Nat→Int) (N:Nat) (w0:World):Prop:=
 ∀ (l:Nat) (W1:World),Kq w0.heap.size w0 W1→∀ (R:Nat→World→Prop) (Rx:World→Prop),(∀ k W W',R k W→Below W1.heap.size W W'→R k W')→(∀ W W',Rx W→Below W1.heap.size W W'→Rx W')→
  (∀ k W,R k W→YieldAt Fence.wide 3 Tryz.prog l #[.int .u8 (m k)] W fun e W'=>(e=.returned (.bool true)∧R (k+1) W'∧Kq w0.heap.size W W')∨(e=.returned (.bool false)∧Rx W'))→
  (∀ k W,R k W→k<N)→R 0 W1→
  CallsIn Fence.wide 4 Tryz.prog gf (#[.func (.yield l) #[] #[]]++lb) W1 fun e W'=>(∃ v,e=.returned v)∧Rx W'
def mq (m:Nat→Int) (n:Nat) (w:World) (q k:Nat) (W:World):Prop:=
 k≤n∧W.heap[w.heap.size]? =some (.cells #[.int .i64 (n:Int)] 3 (0,0))∧W.heap[q]? =some (.cells #[.slice (some ⟨w.heap.size+1,0,none⟩) k n] 140 (0,0))∧W.ownsRow (w.heap.size+1) 5 1 (.slice (some ⟨w.heap.size+1,0,none⟩) k n) k ((upto m k).map (Value.int .u8))∧Below w.heap.size w W
theorem zko {W W':World} {a p n b B:Nat} {g:List Value} (h:W.ownsRow a 5 1 (.slice (some ⟨p,0,none⟩) n b) n g) (j:Below B W W') (k:p<B):W'.ownsRow a 5 1 (.slice (some ⟨p,0,none⟩) n b) n g:=by
 refine⟨h.1,?_⟩;rcases h.2 with⟨d,_⟩|⟨m,i,e,d,f,l,c⟩
 ·cases d
 ·cases d
  exact .inr ⟨p,b,e,rfl,f,(j.block p k).trans l,c⟩
theorem mq.below {m:Nat→Int} {n q k B:Nat} {w W W':World} (h:mq m n w q k W) (hb:Below B W W') (h1:w.heap.size+1<B) (h2:q<B):mq m n w q k W':=
 ⟨h.1,(hb.block _ uo).trans h.2.1,(hb.block _ h2).trans h.2.2.1,zko h.2.2.2.1 hb h1,h.2.2.2.2.trans (hb.mono uo)⟩
theorem zhX (gf:Nat) (lb:Array Value) (m:Nat→Int) (n:Nat) (hn:n≤100000) (w:World) (eg:∀ args w,(callFunc gf args).run Tryz.prog w=.ok (.enter gf args) w) (hI:ru gf lb m (max n 1) w):
  CallsIn Fence.wide 5 Tryz.prog 248 #[.int .i64 (n:Int),.func (.func gf) #[] lb] w fun e w'=>e=.returned (.string (strOfNums (upto m n)))∧Below w.heap.size w w':=by
 obtain⟨i0,H,N,C,O⟩:=info_parts info5;refine callsIn_of_wp_marks Tryz.func248 rfl trivial ?_ rfl;simp only[Tryz.ntmps248,eR,eS,eT,Nat.reduceAdd,Nat.reduceSub,eU,eV,eW,eX,eY,eZ]
 gi_wp2;obtain⟨t,g⟩:∃ t,w.alloc (.cells #[.int .i64 (n:Int)] 3)=t:=⟨_,rfl⟩;have s0:t.heap.size=w.heap.size+1:=by rw[←g];simp
 have Q:Below w.heap.size w t:=by rw[←g];exact(Below.refl _ w).alloc zn _
 have X0:Hid (t.heap[w.heap.size]? =some (.cells #[.int .i64 (n:Int)] 3 (0,0))):=by rw[←g];exact zq w _
 have c0:t.cell? ⟨w.heap.size,0,none⟩=some (.int .i64 (n:Int)):=by rw[zr X0.o];rfl
 obtain⟨p,a4,b,c⟩:=run_make_own (P:=Tryz.prog) t t.heap.size 140 5 i0 (.int .u8 0) 1 Tryz.underlying140 H N C .i64 .i64 n (by rw[O];omega) (by unfold maxLen;omega) zn;rw[g];refine(wpIn_wide (n:=5)).2 (wp_scope_straight ((wpIn_wide (n:=5)).1 ?_));gi_wp2;obtain⟨v,d⟩:∃ v,p.alloc (.cells #[.slice (some ⟨w.heap.size+1,0,none⟩) 0 n] 140)=v:=⟨_,rfl⟩;have b2:=Q.grown c uo (fun k e=>by cases e);have b3:Below p.heap.size p v:=by rw[←d];exact(Below.refl _ p).alloc zn _
 have O3:v.ownsRow (w.heap.size+1) 5 1 (.slice (some ⟨w.heap.size+1,0,none⟩) 0 n) 0 []:=by rw[s0] at b;rw[←d];exact b.alloc _
 have l2:w.heap.size+1<p.heap.size:=by rw[s0] at b;exact fM b
 have X3:=(b3.block _ uo).trans ((c.block _ uo us).trans X0.o);have Q3:v.heap[p.heap.size]? =some (.cells #[.slice (some ⟨w.heap.size+1,0,none⟩) 0 n] 140 (0,0)):=by rw[←d];exact zq p _
 have B3:=b2.trans (b3.mono uo);have s3:v.heap.size=p.heap.size+1:=by rw[←d];simp
 rw[d];generalize p.heap.size=q at*
 refine wpIn_label ?_;gi_wp2
 refine ziZ rfl uo (gf:=gf) (lb:=lb) rfl trivial eg (fun x:Int=>#[.int .u8 x]) (fun _=>rfl) (Kq w.heap.size) Kq.trans (fun W l o o' h hc=>Kq.put w.heap.size W l o o' h hc)
  (fun k x _=>x=m k) (fun k x W l o' hy _ _=>hy)
  (fun k W=>k<max n 1∧mq m n w q k W) (fun W=>mq m n w q n W) 0
  (fun k W W' h S=>⟨h.1,h.2.below S uo uo⟩) (fun W W' h S=>h.below S uo uo)
  ⟨by omega,Nat.zero_le _,X3,Q3,O3,B3⟩ (fun k=>¬k<max n 1) (fun k W h I=>I h.1)
  (fun x=>{ tmps:=#[Value.int IntKind.i64 (n:Int),Value.func (Fn.func gf) #[] lb,
     Value.pointer (some ⟨w.heap.size,0,none⟩),undef,Value.string ⟨#[]⟩,
     Value.pointer (some ⟨q,0,none⟩),Value.int IntKind.u8 x,Value.int IntKind.i64 (n:Int),
     Value.slice (some ⟨w.heap.size+1,0,none⟩) 0 n,Value.func (Fn.func gf) #[] lb,Value.int IntKind.u8 x,undef,
     undef,undef,undef,undef,undef,undef,undef,undef,undef,undef,undef,undef,undef],defers:=[] }) ?assign ?body ?iter ?stop
 case assign=>
  intro l x W K hK;gi_wp2;exact hK
 case iter=>
  intro l W1 T a5 R Rx hR U hY V h0;refine hI l W1 (Kq.trans (Kq.below B3 zn) (Kq.below T uo)) R Rx hR U (fun k W I=>hY k (m k) W I rfl) (fun k W h=>by have:=V k W h;omega) h0
 case body=>
  rintro l k x W ⟨I,a6,X,J,Y,z⟩ rfl;have HX:Hid _:=X;have Z:Hid _:=J;have HO:Hid (W.ownsRow (w.heap.size+1) 5 1 (.slice (some ⟨w.heap.size+1,0,none⟩) k n) k ((upto m k).map (Value.int .u8))):=Y;have E:Hid _:=z;have c1:W.cell? ⟨w.heap.size,0,none⟩=some (.int .i64 (n:Int)):=by rw[zr X];rfl
  have c2:W.cell? ⟨q,0,none⟩=some (.slice (some ⟨w.heap.size+1,0,none⟩) k n):=by rw[zr J];rfl
  by_cases a0:n=0
  ·subst a0
   obtain rfl:k=0:=uo
   gi_wp2;exact⟨rfl,KeepsFrom.refl _ _,Nat.le_refl _,HX.o,Z.o,HO.o,E.o⟩
  ·have a7:k<n:=uo
   obtain⟨x,F⟩:∃ x,m k=x:=⟨_,rfl⟩;have a1:Hid _:=F;rw[F];have a2:=(zi Z.o).1;obtain⟨a,f,A,r⟩:=run_append_fits (P:=Tryz.prog) (W.alloc (.cells #[.int .u8 x] 5)) (w.heap.size+1) 140 140 5 i0 1 Tryz.underlying140 H C (w.heap.size+1) k n _ (HO.o.alloc _) ⟨W.heap.size,0,none⟩ 1 1 [.int .u8 x] rfl (kE _ _ _) (fun u hu=>by simp at hu;subst hu;rfl) uo;have G:=r;have s:Below W.heap.size W (W.alloc (.cells #[.int .u8 x] 5)):=(Below.refl _ W).alloc zn _;have sa:(W.alloc (.cells #[.int .u8 x] 5)).heap.size=W.heap.size+1:=by simp
   have L:a.heap[q]? =some (.cells #[.slice (some ⟨w.heap.size+1,0,none⟩) k n] 140 (0,0)):=(G.block q uo (by intro e;cases e;omega)).trans ((s.block q a2).trans Z.o);have X5:Hid (a.heap[w.heap.size]? =some (.cells #[.int .i64 (n:Int)] 3 (0,0))):=(G.block _ uo us).trans ((s.block _ uo).trans HX.o);have c3:a.cell? ⟨q,0,none⟩=some (.slice (some ⟨w.heap.size+1,0,none⟩) k n):=by rw[zr L];rfl
   have z3:=frozen_of_row a q 0 _ _ L;have B5:Hid (Below w.heap.size w a):=(E.o.trans (s.mono E.o.size)).grown G uo (fun j e=>by cases e;omega);have K5:Hid (KeepsFrom v.heap.size W a):=(KeepsFrom.of_grownBy (row:=none) ⟨s.os,s.tape,s.output,s.size,fun j hj _=>s.block j hj⟩ (fun j e=>by cases e)).trans (KeepsFrom.of_grownBy G (fun j e=>by cases e;omega))
   have O5:Hid (a.ownsRow (w.heap.size+1) 5 1 (.slice (some ⟨w.heap.size+1,0,none⟩) (k+1) n) (k+1) ((upto m (k+1)).map (Value.int .u8))):=by
    rw[lz,List.map_append,a1.o];exact A
   have Q6:Hid ((a.setCell ⟨q,0,none⟩ (.slice (some ⟨w.heap.size+1,0,none⟩) (k+1) n)).heap[q]? =some (.cells #[.slice (some ⟨w.heap.size+1,0,none⟩) (k+1) n] 140 (0,0))):=by
    rw[zx a q 0 _ _ _ L];rfl
   have g6:=iI a q 0 (.slice (some ⟨w.heap.size+1,0,none⟩) (k+1) n);have M:Below q a (a.setCell ⟨q,0,none⟩ (.slice (some ⟨w.heap.size+1,0,none⟩) (k+1) n)):=ff g6 zn (by have:=(zi L).1;omega);have FF:Hid (mq m n w q (k+1) (a.setCell ⟨q,0,none⟩ (.slice (some ⟨w.heap.size+1,0,none⟩) (k+1) n))):=⟨by omega,(M.block _ uo).trans X5.o,Q6.o,zko O5.o M uo,B5.o.trans (M.mono uo)⟩;have KF:Hid (KeepsFrom v.heap.size W (a.setCell ⟨q,0,none⟩ (.slice (some ⟨w.heap.size+1,0,none⟩) (k+1) n))):=K5.o.trans (KeepsFrom.of_grownBy g6 (fun j e=>by cases e;omega));have KK:Hid (Kq w.heap.size W (a.setCell ⟨q,0,none⟩ (.slice (some ⟨w.heap.size+1,0,none⟩) (k+1) n))):=Kq.trans (Kq.below s uo) (Kq.trans (Kq.below (ff (B:=w.heap.size) G uo uo) zn) (Kq.below M uo));have FJ:Hid (∀ j,j=k+1→mq m n w q j (a.setCell ⟨q,0,none⟩ (.slice (some ⟨w.heap.size+1,0,none⟩) (k+1) n))):=fun j hj=>by rw[hj];exact FF.o
   have d6:(a.setCell ⟨q,0,none⟩ (.slice (some ⟨w.heap.size+1,0,none⟩) (k+1) n)).cell? ⟨w.heap.size,0,none⟩=some (.int .i64 (n:Int)):=by rw[zr FF.o.2.1];rfl
   by_cases y:k+1=n
   ·have q1:((k:Int)+1==(n:Int))=true:=by simp;omega
    have HE:Hid (k+1=n):=y;clear y
    gi_wp2_with (gi_at_builtin;refine qA rfl 140 140 (.tmp 15) (.tmp 17) rfl (vs:=.slice (some ⟨w.heap.size+1,0,none⟩) k n) (vx:=.slice (some ⟨W.heap.size,0,none⟩) 1 1) rfl rfl f ?_)
    exact⟨rfl,KF.o,FJ.o n HE.o.symm⟩
   ·have q1:((k:Int)+1==(n:Int))=false:=by simp;omega
    gi_wp2_with (gi_at_builtin;refine qA rfl 140 140 (.tmp 15) (.tmp 17) rfl (vs:=.slice (some ⟨w.heap.size+1,0,none⟩) k n) (vx:=.slice (some ⟨W.heap.size,0,none⟩) 1 1) rfl rfl f ?_)
    exact⟨KF.o,KK.o,by omega,FF.o⟩
 case stop=>
  rintro D W hD ⟨_,X,J,Y,z⟩ a3;have c2:W.cell? ⟨q,0,none⟩=some (.slice (some ⟨w.heap.size+1,0,none⟩) n n):=by rw[zr J];rfl
  have a8:(convert 140 9 (.slice (some ⟨w.heap.size+1,0,none⟩) n n)).run Tryz.prog W=.ok (.string (strOfNums (upto m n))) W:=by
   refine run_convert_bytes_arg W 140 5 Tryz.underlying140 Tryz.underlying5 (w.heap.size+1) 0 n n (upto m n) (by rw[fZ]) (fun i H=>?_) 9 Tryz.underlying9;rw[Nat.zero_add];refine na Y ?_;simp[upto,List.getD,H]
  have E:Hid (Below w.heap.size w W):=z;gi_wp2;rw[Exit.noGoto_ret];refine⟨by simp,.inl ⟨_,_,rfl,run_takeDeferred a3,?_⟩⟩;refine⟨_,results_tmp rfl _ _ _,rfl,E.o.trans (fh W _ uo)⟩
end
section
open Go.RowKit Go.Shelf Go.Lib
attribute [local go_sem] Oper.semAt_some
def bu:Value→Nat|.int _ x=>x.toNat|_=>0
theorem rM (s:ByteArray) (k:Nat) (h:s.size≤k):bt s k=0:=by
 unfold bt;rw[Array.getElem?_eq_none (by exact h)];rfl
theorem lO (s:ByteArray) (p:Nat) (b:p<s.size) (w:World):(Instr.index 9 (.string s) (.int .i64 (p:Int))).run Tryz.prog w=.ok (.int .u8 (bt s p)) w:=by
 simp[Instr.index,run_underlying Tryz.underlying9,go_sem,b];unfold bt;rw[Array.getElem?_eq_getElem (by exact b)];rfl
theorem zi0 (s:ByteArray) (a N:Nat) (I:N≤1000000) (n:World) (b:a<n.heap.size) (u:n.heap[a]? =some (.cells #[.string s] 9 (0,0))):
  ru 266 #[.pointer (some ⟨a,0,none⟩)] (bt s) N n:=by
 intro l W o R J K v w p y;have z:Hid _:=w;have A:Hid _:=p;have B:Hid _:=y;have m:Hid _:=o.2 a _ b u rfl;refine callsIn_of_wp Tryz.func266 rfl trivial ?_ rfl;simp only[Tryz.ntmps266,eR,eS,eT,Nat.reduceAdd,Nat.reduceSub,eU,eV,eW,eX,eY,eZ];gi_wp2
 gi_loopw [3] (fun i wr=>∃ k:Nat,i=.int .i64 (k:Int)∧R k wr∧wr.heap[a]? =some (.cells #[.string s] 9 (0,0))) (fun i _=>N - bu i)
 case atStart=>exact⟨0,rfl,B.o,m.o⟩
 case round=>
  obtain⟨k,rfl,c,r⟩:=hrel;have m:Hid _:=r;have D:=A.o k wr c;have L:wr.cell? ⟨a,0,none⟩=some (.string s):=by rw[zr r];rfl
  obtain⟨M,t,assign,body,E,j⟩:=z.o k wr c;by_cases q:k<s.size
  ·have F:(k:Int)<(s.size:Int):=uo
   have G:=lO s k q;generalize bt s k=x at*
   gi_wp2;refine j.mono ?_;rintro e H (⟨rfl,d,f⟩|⟨rfl,g⟩)
   ·gi_wp2
    go_roundw
    case rel=>exact⟨k+1,by go_num,d,f.2 a _ b m.o rfl⟩
    case measure=>simp[bu];omega
   ·gi_wp2
    refine bodyPost_ret (results_none rfl _ _ _) rfl ?_;exact⟨⟨_,rfl⟩,g⟩
  ·have F:¬(k:Int)<(s.size:Int):=uo
   rw[rM s k uo] at E;gi_wp2;refine j.mono ?_;rintro e H (⟨rfl,d,f⟩|⟨rfl,g⟩)
   ·gi_wp2
    go_roundw
    case rel=>exact⟨k+1,by go_num,d,f.2 a _ b m.o rfl⟩
    case measure=>simp[bu];omega
   ·gi_wp2
    refine bodyPost_ret (results_none rfl _ _ _) rfl ?_;exact⟨⟨_,rfl⟩,g⟩
theorem zdW (s:ByteArray) (w:World):
  Calls Tryz.prog 249 #[.string s] w fun e w'=>e=.returned (.func (.func 266) #[] #[.pointer (some ⟨w.heap.size,0,none⟩)])∧w'=w.alloc (.cells #[.string s] 9):=by
 go_enter Tryz.func249,Tryz.ntmps249;go_wp2_with fail;go_ret;exact⟨rfl,rfl⟩
theorem zdX (s:ByteArray) (n:Nat) (c:n≤100000) (w:World) (a:Nat) (b:w.heap[a]? =some (.cells #[.string s] 9 (0,0))):
  Calls Tryz.prog 248 #[.int .i64 (n:Int),.func (.func 266) #[] #[.pointer (some ⟨a,0,none⟩)]] w fun e d=>e=.returned (.string (strOfNums (upto (bt s) n)))∧Below w.heap.size w d:=
 callsIn_wide.1 (zhX 266 _ (bt s) n c w (enters_of Tryz.func266 uk rfl) (zi0 s a (max n 1) uo w (zi b).1 b))
def kp (Kt:Nat→Int) (key:ByteArray):ByteArray:=if 64<key.size then strOfNums (jk Kt (lf IV) (bt key) key.size) else key
def io (Kt:Nat→Int) (key:ByteArray):ByteArray:=strOfNums (upto (bt (kp Kt key)) 64)
theorem zmx (Kt:Nat→Int) (a:ByteArray) (y:a.size≤1000000) (w:World) {l:TypeId} {m:Nat × Nat} (n:w.heap[3]? =some (.cells (dH Kt) l m)):
  Calls Tryz.prog 217 #[.string a] w fun e c=>e=.returned (.string (io Kt a))∧Below w.heap.size w c:=by
 have i:∀ (s:ByteArray) (W:World),Hid (Calls Tryz.prog 248 #[.int .i64 64,.func (.func 266) #[] #[.pointer (some ⟨W.heap.size,0,none⟩)]] (W.alloc (.cells #[.string s] 9)) fun e c=>e=.returned (.string (strOfNums (upto (bt s) 64)))∧Below W.heap.size W c):=fun s W=>
  (zdX s 64 ud (W.alloc (.cells #[.string s] 9)) W.heap.size (zq W _)).mono fun e c ⟨o,p⟩=>⟨o,(bF W _).trans (p.mono us)⟩
 have q:Hid _:=n;by_cases b:64<a.size
 ·have r:(64:Int)<(a.size:Int):=uo
  have d:Hid (io Kt a=strOfNums (upto (bt (strOfNums (jk Kt (lf IV) (bt a) a.size))) 64)):=by
   refine(?_:io Kt a=_);unfold io kp;rw[if_pos b]
  go_enter Tryz.func217,Tryz.ntmps217;go_wp2_with fail;refine um (ziY Kt a w q.o uo) fun j u=>?_;have k:Hid _:=u;generalize strOfNums (jk Kt (lf IV) (bt a) a.size)=D at*
  go_wp2_with fail;refine(zdW D j).mono ?_;rintro e v ⟨rfl,rfl⟩;have f:=i D j;go_wp2_with fail;refine f.o.mono ?_;rintro e x ⟨rfl,g⟩;have h:Hid _:=k.o.trans (g.mono k.o.size);go_wp2_with fail;go_ret;exact⟨by rw[d.o];rfl,h.o⟩
 ·have r:¬(64:Int)<(a.size:Int):=uo
  have d:Hid (io Kt a=strOfNums (upto (bt a) 64)):=by
   refine(?_:io Kt a=_);unfold io kp;rw[if_neg b]
  go_enter Tryz.func217,Tryz.ntmps217;go_wp2_with fail;refine(zdW a w).mono ?_;rintro e v ⟨rfl,rfl⟩;go_wp2_with fail;refine (i a w).o.mono ?_;rintro e x ⟨rfl,g⟩;have h:Hid _:=g;go_wp2_with fail;go_ret;exact⟨by rw[d.o];rfl,h.o⟩
end
section
open Go.RowKit Go.Lib
def kF (s:ByteArray) (c:Int):ByteArray:=strOfNums (upto (fun j=>bits .xor .u8 (bt s j) c) s.size)
theorem zhY (s:ByteArray) (c:Int):(kF s c).size=s.size:=by unfold kF;rw[strOfNums_size,fZ]
theorem gu (w:World) (b i:Nat) (cs:Array Value) (T:TypeId) (fr:Nat × Nat) (v:Value) (hb:w.heap[b]? =some (.cells cs T fr)):(w.setCell ⟨b,i,none⟩ v).heap[b]? =some (.cells (cs.setIfInBounds i v) T fr):=by
 rw[setCell_eq_setRow w b i cs T fr v hb];exact setRow_heap w b cs _ T _ hb
theorem zeB (s:ByteArray) (hs:s.size≤1000000) (c:Int) (w:World):
  Calls Tryz.prog 218 #[.string s,.int .u8 c] w fun e B=>e=.returned (.string (kF s c))∧Below w.heap.size w B:=by
 have d:=run_bytes_of_string (P:=Tryz.prog) w 9 140 5 s Tryz.underlying9 Tryz.underlying140 Tryz.underlying5;obtain⟨a,m⟩:∃ a,grownCap w s.size 0 5=a:=⟨_,rfl⟩;rw[m] at d;obtain⟨Z,v⟩:∃ Z,(bytesRow s a).size=Z:=⟨_,rfl⟩
 have C:s.size≤Z:=by
  rw[←v];unfold bytesRow;rw[Array.size_append,Array.size_map];exact Nat.le_add_right _ _
 obtain⟨o,f⟩:∃ o,w.drew.alloc (.cells (bytesRow s a) 5 (Z,Z+1))=o:=⟨_,rfl⟩;have D:Hid (o.heap[w.heap.size]? =some (.cells (bytesRow s a) 5 (Z,Z+1))):=by rw[←f];exact zq w.drew _
 have E:Hid (Below w.heap.size w o):=by rw[←f];exact((Below.refl _ w).drew).alloc zn _
 have F:Hid (∀ j,j<s.size→(bytesRow s a)[j]? =some (.int .u8 (bt s j))):=fun j g=>by
  rw[bytesRow_at s a j g];unfold bt;rw[Array.getElem?_eq_getElem g];rfl
 generalize bytesRow s a=G at*
 go_enter Tryz.func218,Tryz.ntmps218;go_wp2_with fail
 go_loopw [11] (fun i wr=>∃ (k:Nat) (p:Array Value),k≤s.size∧i=.int .i64 (k:Int)∧wr.heap[w.heap.size]? =some (.cells p 5 (Z,Z+1))∧(∀ j,j<s.size→p[j]? =some (.int .u8 (if j<k then bits .xor .u8 (bt s j) c else bt s j)))∧Below w.heap.size w wr) (fun i _=>s.size - (intOf i).toNat)
 case atStart=>exact⟨0,G,by omega,rfl,D.o,fun j g=>by simpa using F.o j g,E.o⟩
 case round=>
  obtain⟨k,p,L,rfl,b,r,t⟩:=hrel;have H:Hid _:=b;have q:Hid _:=r;have y:Hid _:=t;by_cases n:k<s.size
  ·have I:wr.cell? ⟨w.heap.size,k,none⟩=some (.int .u8 (bt s k)):=by rw[zr b,q.o k n];simp
   have M:wr.frozen? ⟨w.heap.size,k,none⟩=false:=by simp[World.frozen?,b];omega
   obtain⟨x,z⟩:∃ x,bt s k=x:=⟨_,rfl⟩;have J:Hid _:=z;go_wp2_with fail
   go_roundw
   case rel=>
    refine⟨k+1,p.setIfInBounds k (.int .u8 (bits .xor .u8 x c)),n,by go_num,gu _ _ _ _ _ _ _ H.o,fun j g=>?_,y.o.setCell zn _⟩;by_cases e:j=k
    ·subst e
     rw[Array.getElem?_setIfInBounds_self_of_lt (by have:=q.o j g;exact(zi this).1),if_pos uo,J.o]
    ·rw[Array.getElem?_setIfInBounds_ne (fun h=>e h.symm),q.o j g]
     by_cases A:j<k
     ·rw[if_pos A,if_pos uo]
     ·rw[if_neg A,if_neg uo]
   case measure=>simp[intOf];omega
  ·obtain rfl:k=s.size:=uo
   have K:(convert 140 9 (.slice (some ⟨w.heap.size,0,none⟩) s.size a)).run Tryz.prog wr=.ok (.string (kF s c)) wr:=by
    unfold kF;refine run_convert_bytes_arg wr 140 5 Tryz.underlying140 Tryz.underlying5 w.heap.size 0 s.size a _ (by rw[fZ]) (fun i u=>?_) 9 Tryz.underlying9;rw[Nat.zero_add,zr b,q.o i u,if_pos u];simp[upto,List.getD,u]
   go_wp2_with fail;go_ret;exact⟨rfl,y.o⟩
def eF (ts:Nat→ByteArray):Nat→ByteArray
 |0=>⟨#[]⟩
 |j+1=>eF ts j++ts j
theorem zfS (ts:Nat→ByteArray) (n:Nat):(eF ts n).size=bq ts n:=by
 induction n with
 |zero=>rfl
 |succ n ih=>show(eF ts n++ts n).size=bq ts n+(ts n).size;rw[ByteArray.size_append,ih]
theorem zop (ts:Nat→ByteArray):∀ n i,i<n→∀ j,j<(ts i).size→bt (ts i) j=bt (eF ts n) (bq ts i+j):=by
 intro n
 induction n with
 |zero=>intro i hi;omega
 |succ n f=>
  intro i hi j g;show _=bt (eF ts n++ts n) (bq ts i+j);rw[pJ,zfS];by_cases e:i=n
  ·subst e
   rw[if_neg uo,show bq ts i+j - bq ts i=j by omega]
  ·have h:bq ts (i+1)≤bq ts n:=oV ts uo
   have k:bq ts (i+1)=bq ts i+(ts i).size:=rfl;rw[if_pos uo];exact f i uo j g
def gU (Kt:Nat→Int) (s:ByteArray):ByteArray:=strOfNums (jk Kt (lf IV) (bt s) s.size)
theorem zfT (Kt:Nat→Int) (s:ByteArray):(gU Kt s).size=32:=by unfold gU;rw[strOfNums_size,zeA]
theorem zi1 (Kt:Nat→Int) (key:ByteArray):(io Kt key).size=64:=by unfold io;rw[strOfNums_size,fZ]
def eK (Kt:Nat→Int) (key C:ByteArray):ByteArray:=gU Kt (kF (io Kt key) 92++gU Kt (kF (io Kt key) 54++C))
theorem rx (Kt:Nat→Int) (key C:ByteArray):(eK Kt key C).size=32:=zfT _ _
theorem zkp (Kt:Nat→Int) (a d:Nat) (o:Option Addr) (c:Nat→ByteArray) (C:ByteArray) (l:eF c a=C) (w:World) {p:TypeId} {q:Nat × Nat} (r:w.heap[3]? =some (.cells (dH Kt) p q))
  (u:C.size≤1000000000000) (f:a≤1099511627776)
  (k:∀ i,i<a→∃ b g,o=some ⟨b,g,none⟩∧b<w.heap.size∧w.cell? ⟨b,g+i,none⟩=some (.string (c i))):
  Calls Tryz.prog 219 #[.slice o a d] w fun e m=>e=.returned (.string (gU Kt C))∧Below w.heap.size w m:=by
 have s:C.size=bq c a:=by rw[←l];exact zfS c a
 refine(oW Kt (bt C) (iW C) a d o c w r uo f fun i n=>⟨k i n,fun j t=>by rw[←l];exact zop c a i n j t⟩).mono ?_;rintro e m ⟨rfl,h⟩;exact⟨by unfold gU;rw[s],h⟩
theorem ry:(Tryz.prog.info? 9).map (fun i=>(i.zero,i.size,i.bytes))=some (some (.string ⟨#[]⟩),1,16):=uk
def ahead (x:ByteArray) (ts:Nat→ByteArray):Nat→ByteArray
 |0=>x
 |i+1=>ts i
theorem zkq (x:ByteArray) (ts:Nat→ByteArray) (n:Nat):eF (ahead x ts) (n+1)=x++eF ts n:=by
 induction n with
 |zero=>apply ByteArray.ext;simp[eF,ahead]
 |succ n ih=>
  show eF (ahead x ts) (n+1)++ts n=x++(eF ts n++ts n);rw[ih,zkn]
theorem zkr (W:World) (B:Nat) (x:ByteArray) (r:W.heap[B]? =some (.cells #[.string x] 9 (0,0))) (o:Option Addr) (d e:Nat) (F:o=none→d=0∧e=0) (q:Nat→ByteArray) (C:d≤1000000)
  (s:∀ i,i<d→∃ b f,o=some ⟨b,f,none⟩∧b<W.heap.size∧W.cell? ⟨b,f+i,none⟩=some (.string (q i))) (D:TypeId):
  ∃ p c W',(Builtin.append_ #[37,37] D #[.slice (some ⟨B,0,none⟩) 1 1,.slice o d e]).run Tryz.prog W=.ok (.slice (some ⟨p,0,none⟩) (d+1) c) W'∧p<W'.heap.size∧Below B W W'∧∀ i,i<d+1→W'.cell? ⟨p,i,none⟩=some (.string (ahead x q i)):=by
 obtain⟨G,t,v,w,y⟩:=info_parts ry;have g:=(zi r).1;cases o with
 |none=>
  obtain⟨rfl,rfl⟩:=F rfl;refine⟨B,1,W,?_,g,Below.refl _ _,fun i t=>?_⟩
  ·simp[Builtin.append_,run_underlying Tryz.underlying37,sizeOf,typeInfo,t,Builtin.lenOf,Builtin.firstCells,loadCells,storeCells]
  ·obtain rfl:i=0:=uo
   rw[zr r];rfl
 |some a=>
  have m:∀ j u,((List.range d).map fun i=>Value.string (q i))[j]? =some u→W.cell? (a.add j)=some u:=fun j u E=>by
   have n:j<d:=by have:=(List.getElem?_eq_some_iff.1 E).1;simpa using this
   obtain⟨b,f,z,_,H⟩:=s j n;rw[Option.some.inj z,Addr.add_lit,H];simpa [n] using E
  obtain⟨I,W',J,k,K,_,_⟩:=run_append_own_at (P:=Tryz.prog) W B 37 D 9 G (.string ⟨#[]⟩) 1 16 Tryz.underlying37 t v w y rfl ud _ 1 _ (⟨rfl,.inr ⟨B,1,#[.string x],rfl,Nat.le_refl _,r,Nat.le_refl _,by decide,rfl,rfl⟩⟩) a d e ((List.range d).map fun i=>Value.string (q i)) us m (fun u L=>by obtain⟨i,_,rfl⟩:=List.mem_map.1 L;rfl) (by unfold maxLen;omega) uo (Nat.le_of_lt g)
  obtain⟨p,c,M⟩:∃ p c,I=.slice (some ⟨p,0,none⟩) (1+d) c:=by
   rcases k.2 with⟨_,N⟩|⟨p,c,_,h,_⟩
   ·omega
   ·exact⟨p,c,h⟩
  subst M;refine⟨p,c,W',by rw[J,Nat.add_comm],fM k,ff K zn (Nat.le_of_lt g),fun i A=>na k ?_⟩
  match i,A with
  |0,_=>rfl
  |i+1,h=>simp[ahead,show i<d by omega]
theorem zor (Kt:Nat→Int) (a:ByteArray) (hk:a.size≤1000000) (d g:Nat) (o:Option Addr) (U:o=none→d=0∧g=0) (n:Nat→ByteArray) (C:ByteArray) (V:eF n d=C) (w:World) {tt:TypeId} {fr:Nat × Nat} (D:w.heap[3]? =some (.cells (dH Kt) tt fr))
  (hL:C.size≤1000000000) (q:d≤1000000) (r:∀ i,i<d→∃ b h,o=some ⟨b,h,none⟩∧b<w.heap.size∧w.cell? ⟨b,h+i,none⟩=some (.string (n i))):
  Calls Tryz.prog 181 #[.string a,.slice o d g] w fun e m=>e=.returned (.string (eK Kt a C))∧Below w.heap.size w m:=by
 have s:=(zi D).1;have W:Hid _:=D;have L:Hid _:=r;have HO:Hid _:=U;have HC:Hid _:=V;have E:Hid (eK Kt a C=gU Kt (kF (io Kt a) 92++gU Kt (kF (io Kt a) 54++C))):=rfl;have X:Hid (Calls Tryz.prog 217 #[.string a] w fun e m=>e=.returned (.string (io Kt a))∧Below w.heap.size w m):=zmx Kt a hk w D;have a0:=zi1 Kt a;clear D r U V;generalize io Kt a=p at*
 go_enter Tryz.func181,Tryz.ntmps181;go_wp2_with fail;refine X.o.mono ?_;rintro e w1 ⟨rfl,Y⟩;have M:Hid _:=Y;clear Y X;go_wp2_with fail;refine um (zeB p uo 54 w1) fun t Z=>?_;have F:Hid _:=M.o.trans (Z.mono M.o.size);have N:=zhY p 54;clear Z M;obtain⟨x,hx⟩:∃ x,kF p 54=x:=⟨_,rfl⟩;rw[hx] at E N ⊢;clear hx;obtain⟨u,j⟩:∃ u,t.alloc (.cells #[.string x] 9)=u:=⟨_,rfl⟩;have G:Hid (Below w.heap.size w u):=by rw[←j];exact F.o.alloc F.o.size _
 obtain⟨H,c,W4,k,v,b4,A⟩:=zkr u t.heap.size x (by rw[←j];exact zq t _) o d g HO.o n q (fun i l=>by
  obtain⟨b,h,O,I,h3⟩:=L.o i l;exact⟨b,h,O,Nat.lt_of_lt_of_le I G.o.size,(mn (G.o.block b I) _).trans h3⟩) 37
 have P:Hid _:=G.o.trans (b4.mono F.o.size);have C4:Hid _:=A;rw[←j] at k;clear  j b4 A G
 go_wp2_with (at_builtin;refine gT rfl 37 37 (.tmp 11) (.tmp 12) rfl (vs:=.slice (some ⟨t.heap.size,0,none⟩) 1 1) (vx:=.slice o d g) rfl rfl k ?_)
 refine um (zeB p uo 92 W4) fun w5 J=>?_;have K:Hid _:=P.o.trans (J.mono P.o.size);have C5:Hid (∀ i,i<d+1→w5.cell? ⟨H,i,none⟩=some (.string (ahead x n i))):=fun i l=>(mn (J.block H v) _).trans (C4.o i l)
 have Q:=Nat.lt_of_lt_of_le v J.size;have R:=zhY p 92;clear J P C4 F k;obtain⟨y,hy⟩:∃ y,kF p 92=y:=⟨_,rfl⟩;rw[hy] at E R ⊢;clear hy;have a1:(x++C).size=x.size+C.size:=ByteArray.size_append;go_wp2_with fail;refine(zkp Kt (d+1) c (some ⟨H,0,none⟩) (ahead x n) (x++C) (by rw[zkq,HC.o]) w5 ((K.o.block 3 s).trans W.o) uo uo (fun i l=>⟨H,0,rfl,Q,by rw[Nat.zero_add];exact C5.o i l⟩)).mono ?_;rintro e f ⟨rfl,b6⟩;have B:Hid _:=K.o.trans (b6.mono K.o.size);have S:=zfT Kt (x++C);clear b6 K C5;obtain⟨z,hz⟩:∃ z,gU Kt (x++C)=z:=⟨_,rfl⟩;rw[hz] at E S ⊢;clear hz;have a2:(y++z).size=y.size+z.size:=ByteArray.size_append
 have AD:∀ T,Hid (Calls Tryz.prog 219 #[.slice (some ⟨f.heap.size,0,none⟩) 2 2] (f.alloc (.cells #[.string y,.string z] T)) fun e m=>e=.returned (.string (gU Kt (y++z)))∧Below f.heap.size f m):=fun T=>
  (zkp Kt 2 2 (some ⟨f.heap.size,0,none⟩) (fun i=>if i=0 then y else z) (y++z) (by apply ByteArray.ext;simp[eF]) (f.alloc (.cells #[.string y,.string z] T)) (((bF f _).block 3 (by have:=B.o.size;omega)).trans ((B.o.block 3 s).trans W.o)) uo ud (fun i l=>⟨f.heap.size,0,rfl,by simp,by
   rw[Nat.zero_add,zr (zq f _)]
   match i,l with
   |0,_=>rfl
   |1,_=>rfl⟩)).mono fun e m ⟨O,I⟩=>⟨O,(bF f _).trans (I.mono us)⟩
 go_wp2_with fail;refine(AD _).o.mono ?_;rintro e w7 ⟨rfl,b7⟩;have B7:Hid _:=B.o.trans (b7.mono B.o.size);clear b7 B AD;go_wp2_with fail;go_ret;exact⟨by rw[E.o];rfl,B7.o⟩
end
end Go.Proofs.YtokfnghckpgjmaaGreatDoor
