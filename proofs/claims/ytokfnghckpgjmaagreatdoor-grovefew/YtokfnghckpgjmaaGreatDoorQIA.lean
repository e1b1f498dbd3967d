/- Pages and refs in plain terms; the writer. -/
import Derived.Test.YtokfnghckpgjmaaGreatDoorPPo
import Derived.Test.YtokfnghckpgjmaaGreatDoorPPk
import Derived.Test.YtokfnghckpgjmaaGreatDoorQCK
import Derived.Test.YtokfnghckpgjmaaGreatDoorQJAv
set_option maxRecDepth 100000
set_option maxHeartbeats 2000000
namespace Go.Proofs.YtokfnghckpgjmaaGreatDoor
namespace Rw
open Go.RowKit Go.Lib Go.Shelf
open Rc Rq
def bc (bs:List UInt8):List Value:=bs.map fun b=>.int .u8 (b.toNat:Int)
theorem zkF (a b:List UInt8):bc (a++b)=bc a++bc b:=by simp[bc]
theorem zpN (bs:List UInt8):∀ u∈bc bs,u.oneCell'=true:=by
 intro u hu;obtain⟨b,-,rfl⟩:=List.mem_map.1 hu;rfl
theorem infoByte:(Tryz.prog.info? 5).map (fun i=>(i.zero,i.size,i.bytes))=some (some (.int .u8 0),1,1):=uk
theorem gT {P:Program} {c:Array Oper} {b:List Oper} {o:Oper} {a:Act} {w:World} {Q:Exit→Act→World→Prop} (e:o.guard=none) (t u:TypeId) (s x:Operand) (g:o.op=.call { callee:=.builtin .append,args:=#[s,x],argTypes:=#[t,u] })
  {vs vx v':Value} {f:World} (i:a.eval s=vs) (j:a.eval x=vx) (d:(Builtin.append_ #[t,u] o.type #[vs,vx]).run P w=.ok v' f) (h:wpList P c Q b (a.put o.dst v') f):wpList P c Q (o::b) a w:=
 wpList_plain e fun _ k=>by
  unfold Oper.wp execOp;simp only[g,resolve,invoke,builtin,Sem.run_bind,Sem.run_pure,Result.andThen_ok,List.map_toArray,List.map_cons,List.map_nil,i,j,d];exact k _ _ h
theorem qM {W W':World} {base:Nat} {v:Value} {n:Nat} {xs:List Value} (h:W.ownsRow base 5 1 v n xs) (hs:∀ b,v.ownBlock=some b→b<W.heap.size→W'.heap[b]? =W.heap[b]?):W'.ownsRow base 5 1 v n xs:=by
 refine⟨h.1,?_⟩;rcases h.2 with h2|⟨g,cap,cur,rfl,h2,h3,h4⟩
 ·exact .inl h2
 ·exact .inr ⟨g,cap,cur,rfl,h2,(hs g rfl (zi h3).1).trans h3,h4⟩
theorem sb {W:World} {base:Nat} {v:Value} {n:Nat} {xs:List Value} (h:W.ownsRow base 5 1 v n xs) {b:Nat} (hb:v.ownBlock=some b):base≤b∧b<W.heap.size:=by
 rcases h.2 with⟨rfl,-⟩|⟨g,cap,cur,rfl,h2,h3,-⟩
 ·simp[Value.ownBlock] at hb
 ·simp[Value.ownBlock] at hb
  subst hb;exact⟨h2,(zi h3).1⟩
structure Wr (g:Nat) (own:Nat→Prop) (bs:List UInt8) (W:World):Prop where
 cell:∃ v,W.heap[g]? =some (.cells #[v] 301 (0,0))∧W.ownsRow (g+1) 5 1 v bs.length (bc bs)∧∀ b,v.ownBlock=some b→own b
 mine:own g
 o:∀ j,own j→g≤j∧j<W.heap.size
theorem Wr.lt {g:Nat} {own:Nat→Prop} {bs:List UInt8} {W:World} (h:Wr g own bs W):g<W.heap.size:=(h.o g h.mine).2
theorem Wr.but {g:Nat} {own S:Nat→Prop} {bs:List UInt8} {W W':World} (h:Wr g own bs W) (hb:bC S W W') (hS:∀ j,own j→¬S j):Wr g own bs W':=by
 obtain⟨v,h1,h2,h3⟩:=h.cell;exact⟨⟨v,(hb.block _ h.lt (hS _ h.mine)).trans h1,qM h2 fun b hb' hlt=>hb.block b hlt (hS b (h3 b hb')),h3⟩,h.mine,fun j hj=>⟨(h.o j hj).1,Nat.lt_of_lt_of_le (h.o j hj).2 hb.size⟩⟩
theorem Wr.next {g:Nat} {own:Nat→Prop} {bs:List UInt8} {W W':World} (h:Wr g own bs W) (hb:Below W.heap.size W W'):Wr g own bs W':=h.but (S:=fun _=>False) (bC.of_below hb) fun _ _ e=>e
def Wrote (g:Nat) (own:Nat→Prop) (bs:List UInt8) (W W':World):Prop:=∃ own',(∀ j,own' j→own j∨W.heap.size≤j)∧bC own W W'∧Wr g own' bs W'
theorem Wrote.refl {g:Nat} {own:Nat→Prop} {bs:List UInt8} {W W':World} (h:Wr g own bs W) (hb:Below W.heap.size W W'):Wrote g own bs W W':=⟨own,fun _ h=>.inl h,bC.of_below hb,h.next hb⟩
theorem Wrote.trans {g:Nat} {own own':Nat→Prop} {bs:List UInt8} {W W' W2:World} (h1:∀ j,own' j→own j∨W.heap.size≤j) (h2:bC own W W') (k:Wrote g own' bs W' W2):Wrote g own bs W W2:=by
 obtain⟨own2,k1,k2,k3⟩:=k;refine⟨own2,fun j hj=>?_,⟨k2.os.trans h2.os,k2.tape.trans h2.tape,k2.output.trans h2.output,Nat.le_trans h2.size k2.size,fun j hj hn=>(k2.block j (Nat.lt_of_lt_of_le hj h2.size) fun e=>?_).trans (h2.block j hj hn)⟩,k3⟩
 ·rcases k1 j hj with a|a
  ·exact h1 j a
  ·exact .inr (Nat.le_trans h2.size a)
 ·rcases h1 j e with a|a
  ·exact hn a
  ·omega
theorem oW (g:Nat) (own:Nat→Prop) (bs:List UInt8) (c:UInt8) (hl:bs.length≤10000) (W:World) (h:Wr g own bs W):
  Calls Tryz.prog 231 #[.pointer (some ⟨g,0,none⟩),.int .u8 (c.toNat:Int)] W fun e W'=>e=.returned (.tuple #[])∧Wrote g own (bs++[c]) W W':=by
 obtain⟨v,h1,h2,h3⟩:=h.cell;obtain⟨z,hz⟩:∃ z:Int,(c.toNat:Int)=z:=⟨_,rfl⟩;have hbn:=bF W (.cells #[.int .u8 z] 5);have hgn:=zq W (.cells #[.int .u8 z] 5);have lg:g<W.heap.size:=h.lt;have c0:W.cell? ⟨g,0,none⟩=some v:=by rw[zr h1];rfl
 have hsl:Sl 1 (W.alloc (.cells #[.int .u8 z] 5)) (some ⟨W.heap.size,0,none⟩) 1 1 (bc [c]):=by
  refine⟨Nat.le_refl _,by decide,(fun e=>by cases e),rfl,fun _=>⟨W.heap.size,0,rfl,by simp,fun j u hu=>?_⟩⟩;rw[Nat.zero_add,zr hgn];have:j<1:=(List.getElem?_eq_some_iff.1 hu).1;obtain rfl:j=0:=uo
  rw[←hz];exact hu
 obtain⟨v',W2,hrun,a1,a2,a3⟩:=iu 140 5 Tryz.underlying140 infoByte rfl ud ud (W.alloc (.cells #[.int .u8 z] 5)) (g+1) bs.length 1 v (some ⟨W.heap.size,0,none⟩) 1
  (bc bs) (bc [c]) (qM h2 fun b _ hb=>hbn.block b hb) (by simp;omega) hsl (zpN _) uo
 have nb:∀ b,b≤g→v.ownBlock≠some b:=fun b hb e=>by have:=(sb h2 e).1;omega
 have hB2:W2.heap[g]? =some (.cells #[v] 301 (0,0)):=(a2.block _ (by simp;omega) (fun e=>nb _ zn e.symm)).trans ((hbn.block _ lg).trans h1);have z5:W2.frozen? ⟨g,0,none⟩=false:=frozen_of_row W2 _ 0 _ _ hB2;have l2:g<W2.heap.size:=(zi hB2).1;have d0:W2.cell? ⟨g,0,none⟩=some v:=by rw[zr hB2];rfl
 have HFIN:Hid (Wrote g own (bs++[c]) W (W2.setCell ⟨g,0,none⟩ v')):=by
  have hst:∀ j,j≠g→(W2.setCell ⟨g,0,none⟩ v').heap[j]? =W2.heap[j]? :=fun j hj=>Below.heap_setCell _ _ _ _ (fun e=>hj e)
  have hss:(W2.setCell ⟨g,0,none⟩ v').heap.size=W2.heap.size:=by simp[World.setCell]
  have hs2:=a2.size;have hs3:=hbn.size;have hsa:(W.alloc (.cells #[.int .u8 z] 5)).heap.size=W.heap.size+1:=by simp
  refine⟨fun j=>own j∨v'.ownBlock=some j,fun j hj=>?_,⟨a2.os.trans hbn.os,a2.tape.trans hbn.tape,a2.output.trans hbn.output,by omega,fun j hj hn=>(hst j fun e=>hn (e▸h.mine)).trans ((a2.block j uo (fun e=>hn (h3 j e.symm))).trans (hbn.block j hj))⟩,⟨⟨v',?_,?_,fun b hb=>.inr hb⟩,.inl h.mine,fun j hj=>?_⟩⟩
  ·rcases hj with hj|hj
   ·exact .inl hj
   ·rcases a3 with a3|a3
    ·exact .inl (h3 j (by rw[←a3];exact hj))
    ·rw[a3] at hj
     cases hj;exact .inr uo
  ·have:=zx W2 g 0 _ _ v' hB2
   simpa using this
  ·rw[zkF,List.length_append]
   exact qM a1 fun b hb _=>hst b (by have:=(sb a1 hb).1;omega)
  ·rcases hj with hj|hj
   ·have:=h.o j hj
    exact⟨this.1,by omega⟩
   ·have:=sb a1 hj
    exact⟨by omega,by omega⟩
 obtain⟨o,cap,rfl,-⟩:=dx h2;obtain⟨o',cap',rfl,-⟩:=dx a1;rw[hz];clear h h1 h2 h3 hbn hgn hsl a1 a2 a3 nb hB2 hz;go_enter Tryz.func231,Tryz.ntmps231
 go_wp2_with (at_builtin;refine gT rfl 140 140 (.tmp 8) (.tmp 10) rfl (vs:=.slice o bs.length cap) (vx:=.slice (some ⟨W.heap.size,0,none⟩) 1 1) rfl rfl hrun ?_)
 refine bodyPost_end (results_none rfl _ _ _) rfl ?_;exact⟨rfl,HFIN.o⟩
abbrev lZ (g:Nat):Value:=.func (.func 231) #[.pointer (some ⟨g,0,none⟩)] #[]
theorem zd6 (g:Nat) (own:Nat→Prop) (bs:List UInt8) (s:ByteArray) (hl:bs.length+s.size≤10000) (W:World) (h:Wr g own bs W):
  Calls Tryz.prog 258 #[lZ g,.string s] W fun e W'=>e=.returned (.tuple #[])∧Wrote g own (bs++s.data.toList) W W':=by
 have HW:Hid (Wr g own bs W):=h;obtain⟨n,hn⟩:∃ n,s.size=n:=⟨_,rfl⟩;have HN:Hid (s.size=n):=hn;have hn1:n≤10000:=uo
 have q0:(n:Int)≤10000:=uo
 have HC:Hid _:=oW g;clear h;go_enter Tryz.func258,Tryz.ntmps258;go_wp2_with fail
 go_loopw [7] (fun iv wr=>∃ i:Nat,i≤n∧iv=.int .i64 (i:Int)∧Wrote g own (bs++s.data.toList.take i) W wr) (fun iv _=>n - bu iv)
 case atStart=>exact⟨0,Nat.zero_le _,rfl,by rw[List.take_zero,List.append_nil];exact Wrote.refl HW.o (Below.refl _ _)⟩
 case round=>
  obtain⟨i,hi,rfl,own',h1,h2,h3⟩:=hrel;have H1:Hid (∀ j,own' j→own j∨W.heap.size≤j):=h1;have H2:Hid (bC own W wr):=h2;have H3:Hid (Wr g own' (bs++s.data.toList.take i) wr):=h3;clear h1 h2 h3;by_cases hlt:i<n
  ·have q1:(i:Int)<(n:Int):=uo
   have i0:(0:Int)≤(i:Int):=uo
   have hsi:i<s.size:=by rw[HN.o];exact hlt
   have HTK:Hid (bs++s.data.toList.take (i+1)=(bs++s.data.toList.take i)++[s[i]]):=by
    refine(?_:bs++s.data.toList.take (i+1)=_);have hd:i<s.data.toList.length:=by rw[Array.length_toList];exact hsi
    rw[List.take_add_one,List.getElem?_eq_getElem hd,List.append_assoc];rfl
   have hln:(bs++s.data.toList.take i).length≤10000:=by
    rw[List.length_append,List.length_take];omega
   go_wp2_with fail;refine um (HC.o own' _ s[i] hln wr H3.o) fun w1 k=>?_
   have HE:Hid (Wrote g own (bs++s.data.toList.take (i+1)) W w1):=by
    refine(?_:Wrote g own (bs++s.data.toList.take (i+1)) W w1);rw[HTK.o];exact Wrote.trans H1.o H2.o k
   clear k;go_wp2_with fail
   go_roundw
   case rel=>exact⟨i+1,by omega,by go_num,HE.o⟩
   case measure=>simp[bu];omega
  ·obtain rfl:i=n:=uo
   have q1:¬(i:Int)<(i:Int):=uo
   have HE:Hid (s.data.toList.take i=s.data.toList):=by
    refine(?_:s.data.toList.take i=s.data.toList);rw[List.take_of_length_le];have:=HN.o;simp only[Array.length_toList];exact Nat.le_of_eq this
   go_wp2_with fail;refine bodyPost_end (results_none rfl _ _ _) rfl ?_;refine⟨rfl,own',H1.o,H2.o,?_⟩;rw[←HE.o];exact H3.o
attribute [local go_sem] Oper.semAt_some
theorem zeJ (sz:Nat) (w:World):
  Calls Tryz.prog 202 #[.int .i64 (sz:Int)] w fun e w'=>e=.returned (.func (.func 236) #[] #[.pointer (some ⟨w.heap.size,0,none⟩)])∧w'=w.alloc (.cells #[.int .i64 (sz:Int)] 3):=by
 go_enter Tryz.func202,Tryz.ntmps202;go_wp2_with fail;go_ret;exact⟨rfl,rfl⟩
theorem zd7 (w0:World) (sz gs:Nat) (hsz:sz≤8) (hgs:w0.heap[gs]? =some (.cells #[.int .i64 (sz:Int)] 3 (0,0))) (W1:World) (hb1:Below w0.heap.size w0 W1) (l:Nat) (R:(Nat→Prop)→Nat→World→Prop) (Rx:(Nat→Prop)→World→Prop) (own:Nat→Prop) (hown:∀ j,own j→j<W1.heap.size)
  (hY:∀ own k W,k<sz→R own k W→(∀ j,own j→j<W.heap.size)→YieldAt Fence.wide 0 Tryz.prog l #[.int .i64 (8*(k:Int))] W (mH R Rx own (k+1) W)) (h0:R own 0 W1):
  Calls Tryz.prog 236 (#[.func (.yield l) #[] #[]]++#[.pointer (some ⟨gs,0,none⟩)]) W1 fun e W'=>(∃ v,e=.returned v)∧∃ own',(R own' sz W'∨Rx own' W'):=by
 have HY:Hid _:=hY;have H0:Hid (R own 0 W1):=h0;have HOw:Hid (∀ j,own j→j<W1.heap.size):=hown;have lg:gs<w0.heap.size:=(zi hgs).1;have c0:W1.cell? ⟨gs,0,none⟩=some (.int .i64 (sz:Int)):=by rw[zr ((hb1.block _ lg).trans hgs)];rfl
 have lg1:gs<W1.heap.size:=Nat.lt_of_lt_of_le lg hb1.size;clear hY h0 hown hgs hb1;refine(callsIn_wide (n:=4)).1 ?_;refine callsIn_of_wp Tryz.func236 rfl trivial ?_ rfl;simp only[Tryz.ntmps236,eR,eS,eT,Nat.reduceAdd,Nat.reduceSub,eU,eV,eW,eX,eY,eZ];gi_wp2;clear c0 lg1 lg
 gi_loopw [5] (fun iv wr=>∃ (r:Nat) (own2:Nat→Prop),r≤sz∧iv=.int .i64 (r:Int)∧R own2 r wr∧∀ j,own2 j→j<wr.heap.size) (fun iv _=>sz - bu iv)
 case atStart=>exact⟨0,own,Nat.zero_le _,rfl,H0.o,HOw.o⟩
 case round=>
  obtain⟨r,own2,hr,rfl,hR2,ho2⟩:=hrel;by_cases hlt:r<sz
  ·have q1:(r:Int)<(sz:Int):=uo
   have hy0:=lX (m:=3)<|HY.o own2 r wr hlt hR2 ho2
   obtain⟨fn,tmps,assign,body,hy,hRd⟩:=hy0;have q2:8*(r:Int)≤64:=uo
   have q3:(0:Int)≤(r:Int):=uo
   have HO2:Hid _:=ho2;clear hR2 ho2;gi_wp2;refine RoundIn.mono (R:=mH R Rx own2 (r+1) wr) hRd ?_;rintro e W6 ⟨own6,ho6,hb6,(⟨rfl,hR6⟩|⟨rfl,hx6⟩)⟩
   ·have HR6:Hid (R own6 (r+1) W6):=hR6
    have HO6:Hid (∀ j,own6 j→j<W6.heap.size):=fun j hj=>by
     rcases ho6 j hj with a|a
     ·exact Nat.lt_of_lt_of_le (HO2.o j a) hb6.size
     ·exact a.2
    clear hy hRd ho6 hb6 hR6;gi_wp2
    go_roundw
    case rel=>exact⟨r+1,own6,by omega,by go_num,HR6.o,HO6.o⟩
    case measure=>simp[bu];omega
   ·have HX:Hid (Rx own6 W6):=hx6
    clear hy hRd ho6 hb6 hx6;gi_wp2;refine bodyPost_ret (results_none rfl _ _ _) rfl ?_;exact⟨⟨_,rfl⟩,own6,.inr HX.o⟩
  ·obtain rfl:r=sz:=uo
   have q1:¬(r:Int)<(r:Int):=uo
   have HR2:Hid (R own2 r wr):=hR2;clear hR2 ho2;gi_wp2;refine bodyPost_end (results_none rfl _ _ _) rfl ?_;exact⟨⟨_,rfl⟩,own2,.inl HR2.o⟩
end Rw
end Go.Proofs.YtokfnghckpgjmaaGreatDoor
