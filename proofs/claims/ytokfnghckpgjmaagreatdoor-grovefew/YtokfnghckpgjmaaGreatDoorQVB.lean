/- A vault in memory; none, isTaken, isPlace. -/
import Derived.Test.YtokfnghckpgjmaaGreatDoorPPo
import Derived.Test.YtokfnghckpgjmaaGreatDoorPPk
import Derived.Test.YtokfnghckpgjmaaGreatDoorQJAv
import Derived.Test.YtokfnghckpgjmaaGreatDoorQWG
set_option maxRecDepth 100000
set_option maxHeartbeats 4000000
namespace Go.Proofs.YtokfnghckpgjmaaGreatDoor
namespace Rv
open Go.RowKit Go.Lib
open Rd (bC St Ok dT Dv pt bF)
structure Vs where
 ring:List Rk.Ky
 gen:Int
 boot:Int
 seals:Nat
 tk:Nat→Option Unit
 nt:Nat
structure Pl where
 g:Nat
 tm:Nat
 d:Nat
 b:Nat
 m:Nat
 o:Option Addr
 cap:Nat
def Pl.has (A:Pl) (k:Nat):Prop:=k=A.g∨k=A.tm∨Dv A.d A.b A.m k
def vc (A:Pl) (v:Vs):Array Value:=#[pt A.d,.slice A.o v.ring.length A.cap,.int .u32 v.gen,.int .u32 v.boot,.int .u64 (v.seals:Int),.map (some A.tm)]
def Rg (w:World) (A:Pl) (v:Vs):Prop:=Rk.Ring w A.o A.cap v.ring∧∀ b off,A.o=some ⟨b,off,none⟩→v.ring≠[]→¬A.has b
structure bP (w:World) (A:Pl) (v:Vs) (t:St):Prop where
 self:w.heap[A.g]? =some (.cells (vc A v) 113 (0,0))∧Rg w A v
 map:Tk w A.tm v.tk v.nt
 dev:dT w A.d A.b A.m t
 gt:A.g≠A.tm
 gd:¬Dv A.d A.b A.m A.g
 td:¬Dv A.d A.b A.m A.tm
 no1:¬A.has 3
 no2:¬A.has 2
theorem Rg.same {w c:World} {A:Pl} {v:Vs} (h:Rg w A v) (hs:w.heap.size≤c.heap.size) (g:∀ k,k<w.heap.size→¬A.has k→c.heap[k]? =w.heap[k]?):Rg c A v:=by
 refine⟨⟨h.1.1,h.1.2.1,h.1.2.2.1,fun f=>?_⟩,h.2⟩;obtain⟨b,a,e,d,j⟩:=h.1.2.2.2 f;exact⟨b,a,e,by omega,fun i l=>(j i l).same (g b d (h.2 b a e f))⟩
theorem bP.lt {w:World} {A:Pl} {v:Vs} {t:St} (h:bP w A v t):A.g<w.heap.size∧A.tm<w.heap.size∧A.d<w.heap.size∧A.b<w.heap.size∧A.m<w.heap.size:=by
 obtain⟨h1,-⟩:=h.self;exact⟨(zi h1).1,h.map.lt,h.dev.lt⟩
theorem bP.has_lt {w:World} {A:Pl} {v:Vs} {t:St} (h:bP w A v t) {k:Nat} (hk:A.has k):k<w.heap.size:=by
 have:=h.lt;rcases hk with rfl|rfl|rfl|rfl|rfl<;>omega
theorem bP.below {w b:World} {A:Pl} {v:Vs} {t:St} {B:Nat} (h:bP w A v t) (a:Below B w b) (c:w.heap.size≤B):bP b A v t:=by
 have f:=h.lt;obtain⟨d,e⟩:=h.self;exact⟨⟨(a.block _ uo).trans d,e.same a.size fun k g _=>a.block k uo⟩,h.map.same (a.block _ uo),h.dev.below a c,h.gt,h.gd,h.td,h.no1,h.no2⟩
theorem bP.above {w W W':World} {A:Pl} {v v':Vs} {t l:St} (m:bP w A v t) (h:bP W A v' l) (p:v'.ring=v.ring) (a:Below w.heap.size W W'):bP W' A v' l:=by
 have u:=m.lt;obtain⟨q,c⟩:=h.self;refine⟨⟨(a.block _ uo).trans q,⟨c.1.1,c.1.2.1,c.1.2.2.1,fun d=>?_⟩,c.2⟩,h.map.same (a.block _ uo),h.dev.same (a.block _ uo) (a.block _ uo) (a.block _ uo),h.gt,h.gd,h.td,h.no1,h.no2⟩;obtain⟨b,j,e,k,r⟩:=c.1.2.2.2 d;obtain⟨x,n,o,f,-⟩:=m.self.2.1.2.2.2 (by rw[←p];exact d);rw[e] at o;cases o;exact⟨b,j,e,Nat.lt_of_lt_of_le k a.size,fun i s=>(r i s).same (a.block b f)⟩
def C6 (w:World) (g:Nat) (a b c d e f:Value):Prop:=(w.cell? ⟨g,0,none⟩=some a∧w.cell? ⟨g,1,none⟩=some b∧w.cell? ⟨g,2,none⟩=some c∧w.cell? ⟨g,3,none⟩=some d∧w.cell? ⟨g,4,none⟩=some e∧w.cell? ⟨g,5,none⟩=some f)∧∀ i,w.frozen? ⟨g,i,none⟩=false
theorem jd {w:World} {A:Pl} {v:Vs} {T:TypeId} (h:w.heap[A.g]? =some (.cells (vc A v) T (0,0))):C6 w A.g (pt A.d) (.slice A.o v.ring.length A.cap) (.int .u32 v.gen) (.int .u32 v.boot) (.int .u64 (v.seals:Int)) (.map (some A.tm)):=
 ⟨⟨by rw[zr h];rfl,by rw[zr h];rfl,by rw[zr h];rfl,by rw[zr h];rfl,by rw[zr h];rfl,by rw[zr h];rfl⟩,fun i=>frozen_of_row w _ _ _ _ h⟩
theorem zo0 (m:Nat) (w:World):(binOp .eql 111 (.map (some m)) (.map none)).run Tryz.prog w=.ok (.bool false) w:=uk
theorem lk (A:Pl) (v:Vs) (t:St) (w:World) (h:bP w A v t):
  Calls Tryz.prog 53 #[pt A.g] w fun e a=>e=.returned (.bool false)∧a=w:=by
 obtain⟨b,-⟩:=h.self;obtain⟨⟨-,-,-,-,-,c⟩,-⟩:=jd b;have d:=fun w=>zo0 A.tm w
 go_enter Tryz.func53,Tryz.ntmps53;go_wp2_with fail;go_ret;exact⟨rfl,rfl⟩
theorem ti (A:Pl) (v:Vs) (t:St) (p:Nat) (w:World) (h:bP w A v t):
  Calls Tryz.prog 113 #[pt A.g,.int .u32 (p:Int)] w fun e c=>e=.returned (.bool (v.tk p).isSome)∧Below w.heap.size w c:=by
 obtain⟨d,-⟩:=h.self;obtain⟨⟨-,-,-,-,-,f⟩,-⟩:=jd d;have a:=h.map.look p true;generalize (v.tk p).isSome=b at*
 go_enter Tryz.func113,Tryz.ntmps113;go_wp2_with fail;go_ret;exact⟨rfl,bF _ _⟩
theorem zdt (A:Pl) (v:Vs) (t:St) (p:Nat) (o:p≤4294967295) (w:World) (h:bP w A v t) (f:Ok t):
  Calls Tryz.prog 112 #[pt A.g,.int .u32 (p:Int)] w fun e a=>e=.returned (.bool (decide (2≤p)&&decide (p<t.n)))∧a=w:=by
 obtain⟨i,-⟩:=h.self;obtain⟨⟨q,-⟩,-⟩:=jd i;have j:Hid (∀ _:True,_):=fun _=>Rd.rK A.d A.b A.m t w h.dev
 have s:=f.n1;go_enter Tryz.func112,Tryz.ntmps112;by_cases c:2≤p
 ·have k:(2:Int)≤(p:Int):=uo
  have l:=decide_eq_true k
  rw[decide_eq_true c];go_wp2_with fail;refine Calls.mono (j.o trivial) ?_;rintro e a ⟨rfl,rfl⟩;go_wp2_with fail;go_ret;exact⟨by simp,rfl⟩
 ·have l:=decide_eq_false uo
  rw[decide_eq_false c];go_wp2_with fail;go_ret;exact⟨rfl,rfl⟩
open Rd (St Ok dT Dv pt bF bu)
def cf (tk:Nat→Option Unit) (p:Nat):Nat:=((List.range p).filter fun q=>(tk q).isNone).length
theorem ny (tk:Nat→Option Unit) (p:Nat):cf tk (p+1)=if(tk p).isSome=true then cf tk p else cf tk p+1:=by
 unfold cf;rw[List.range_succ,List.filter_append,List.length_append];cases h:tk p<;>simp[h]
theorem zo1 (tk:Nat→Option Unit) {p q:Nat} (h:p≤q):cf tk p≤cf tk q:=by
 induction h with
 |refl=>exact Nat.le_refl _
 |step _ ih=>rw[ny];split<;>omega
def eC (tk:Nat→Option Unit) (n:Nat):Option Nat:=(List.range n).find? fun q=>(tk q).isNone
theorem least_some {tk:Nat→Option Unit} {n p:Nat} (b:p<n) (h:(tk p).isSome=false) (a:cf tk p=0):eC tk n=some p:=by
 unfold eC;rw[List.find?_eq_some_iff_getElem];refine⟨by cases e:tk p<;>simp_all,p,by simpa using b,by simp,fun j c=>?_⟩;unfold cf at a;cases e:tk j<;>simp_all
theorem zjc {tk:Nat→Option Unit} {n:Nat} (h0:cf tk n=0):eC tk n=none:=by
 unfold eC;rw[List.find?_eq_none];unfold cf at h0;have:=List.eq_nil_of_length_eq_zero h0;rw[List.filter_eq_nil_iff] at this;exact this
theorem zm2 (g:Nat) (w:World):
  Calls Tryz.prog 93 #[pt g] w fun e w'=>e=.returned (.func (.func 136) #[] #[.pointer (some ⟨w.heap.size,0,none⟩)])∧w'=w.alloc (.cells #[pt g] 24):=by
 go_enter Tryz.func93,Tryz.ntmps93;go_wp2_with fail;go_ret;exact⟨rfl,rfl⟩
theorem zle (A:Pl) (v:Vs) (t:St) (q:Nat) (w W1:World) (hv:bP w A v t) (hk:Ok t) (M:Below w.heap.size w W1)
  (hg:W1.heap[q]? =some (.cells #[pt A.g] 24 (0,0)))
  (yl:Nat) (R:(Nat→Prop)→Nat→World→Prop) (Rx:(Nat→Prop)→World→Prop) (f:Nat→Prop) (x:∀ j,f j→j<W1.heap.size∧w.heap.size≤j∧j≠q)
  (hR:∀ f k W W',R f k W→Below W.heap.size W W'→R f k W')
  (hY:∀ f k p W,p<t.n→(v.tk p).isSome=false→cf v.tk p=k→R f k W→(∀ j,f j→j<W.heap.size)→YieldAt Fence.wide 0 Tryz.prog yl #[.int .u32 (p:Int)] W (Rq.mH R Rx f (k+1) W))
  (h0:R f 0 W1):
  Calls Tryz.prog 136 (#[.func (.yield yl) #[] #[]]++#[.pointer (some ⟨q,0,none⟩)]) W1 fun e W'=>(∃ v,e=.returned v)∧∃ own',(R own' (cf v.tk t.n) W'∨Rx own' W'):=by
 have HR:Hid _:=hR;have HY:Hid _:=hY;have H0:Hid _:=h0;have HO:Hid _:=x;have N:Hid _:=M;have O:Hid _:=hg;have HV:Hid (∀ W,Below w.heap.size w W→bP W A v t):=fun W hW=>hv.below hW zn
 have cb:W1.cell? ⟨q,0,none⟩=some (pt A.g):=by rw[zr hg];rfl
 obtain⟨P,-⟩:=(HV.o W1 M).self;obtain⟨⟨c0,-⟩,-⟩:=jd P;have z:Hid (∀ _:True,_):=fun _=>Rd.rK A.d A.b A.m t W1 (HV.o W1 M).dev
 have n1:=hk.n1
 obtain⟨n,hn⟩:∃ n,t.n=n:=⟨_,rfl⟩;rw[hn] at HY z n1 ⊢
 clear hR hY h0 hv x M hg hn hk P  ;refine(callsIn_wide (n:=4)).1 ?_;refine callsIn_of_wp Tryz.func136 rfl trivial ?_ rfl;simp only[Tryz.ntmps136,eR,eS,eT,Nat.reduceAdd,Nat.reduceSub,eU,eV,eW,eX,eY,eZ];gi_wp2;refine⟨trivial,callsIn_wide.2 (Calls.mono (z.o trivial) ?_)⟩;rintro e w2 ⟨rfl,S⟩;have T:=S.symm;clear S;subst T;gi_wp2;clear c0 cb z 
 gi_loopw [10] (fun iv wr=>∃ (p:Nat) (c:Nat→Prop),p≤n∧iv=.int .u32 (p:Int)∧R c (cf v.tk p) wr∧(∀ j,c j→j<wr.heap.size∧w.heap.size≤j∧j≠q)∧Below w.heap.size w wr∧wr.heap[q]? =some (.cells #[pt A.g] 24 (0,0))) (fun iv _=>n - bu iv)
 case atStart=>exact⟨0,f,Nat.zero_le _,rfl,H0.o,HO.o,N.o,O.o⟩
 case round=>
  obtain⟨p,c,hp,rfl,C,D,r,h⟩:=hrel;have E:Hid _:=C;have F:Hid _:=D;have G:Hid _:=r;have U:Hid _:=h;by_cases a3:p<n
  ·have q1:(p:Int)<(n:Int):=uo
   have cb:wr.cell? ⟨q,0,none⟩=some (pt A.g):=by rw[zr h];rfl
   have V:=(zi h).1;have HT:Hid (∀ _:True,_):=fun _=>ti A v t p wr (HV.o wr r)
   have s:Hid _:=ny v.tk p;have X:Hid _:=fun f W=>HY.o f (cf v.tk p) p W a3
   clear H0 HO N O C D r h hp ;gi_wp2;refine⟨trivial,callsIn_wide.2 (Calls.mono (HT.o trivial) ?_)⟩;rintro e w4 ⟨rfl,b4⟩;have H:Hid _:=G.o.trans (b4.mono G.o.size);have I:Hid _:=(b4.block _ V).trans U.o;have Y:Hid _:=HR.o c _ _ _ E.o b4;have i:Hid (∀ j,c j→j<w4.heap.size∧w.heap.size≤j∧j≠q):=fun j y=>⟨Nat.lt_of_lt_of_le (F.o j y).1 b4.size,(F.o j y).2⟩
   clear b4 E F G U cb HT;cases u:(v.tk p).isSome with
   |true=>
    rw[u] at s;gi_wp2;refine⟨fun _ _=>trivial,?_⟩;gi_wp2
    go_roundw
    case rel=>exact⟨p+1,c,by omega,by go_num,by rw[s.o];exact Y.o,i.o,H.o,I.o⟩
    case measure=>simp[bu];omega
   |false=>
    rw[u] at s
    obtain⟨fn,a7,assign,body,hy,J⟩:=(Rq.lX (m:=3)<|X.o c w4 u us Y.o (fun j y=>(i.o j y).1));have Z:=(zi I.o).1;have a5:=H.o.size;clear X u;gi_wp2;refine RoundIn.mono (R:=Rq.mH R Rx c (cf v.tk p+1) w4) J ?_;rintro e W6 ⟨l,K,o,(⟨rfl,a0⟩|⟨rfl,a1⟩)⟩
    ·have L:Hid ((∀ j,l j→j<W6.heap.size∧w.heap.size≤j∧j≠q)∧Below w.heap.size w W6∧W6.heap[q]? =some (.cells #[pt A.g] 24 (0,0))):=by
      refine⟨fun j y=>?_,H.o.trans (o.below (fun k hk=>(i.o k hk).2.1) a5),(o.block _ Z fun y=>(i.o _ y).2.2 rfl).trans I.o⟩;rcases K j y with a|a
      ·have:=i.o j a
       have:=o.size;exact⟨by omega,by omega,by omega⟩
      ·exact⟨a.2,by omega,by omega⟩
     have a6:Hid _:=a0;clear hy J K o a0;gi_wp2
     go_roundw
     case rel=>exact⟨p+1,l,by omega,by go_num,by rw[s.o];exact a6.o,L.o.1,L.o.2.1,L.o.2.2⟩
     case measure=>simp[bu];omega
    ·have HX:Hid _:=a1
     clear hy J K o a1;gi_wp2;refine bodyPost_ret (results_none rfl _ _ _) rfl ?_;exact⟨⟨_,rfl⟩,l,.inr HX.o⟩
  ·obtain rfl:p=n:=uo
   clear C D r h;gi_wp2;refine bodyPost_end (results_none rfl _ _ _) rfl ?_;exact⟨⟨_,rfl⟩,c,.inl E.o⟩
attribute [local go_sem] Oper.semAt_some
theorem zio (S:Nat→Prop) (w:World) (b i:Nat) (v:Value) (hb:S b):Rq.bC S w (w.setCell ⟨b,i,none⟩ v):=
 ⟨rfl,rfl,rfl,by simp[World.setCell],fun k _ hn=>Below.heap_setCell _ _ _ _ fun e=>hn (by simp only at e;rw[e];exact hb)⟩
theorem hlt {W:World} {j:Nat} {ob:Obj} (h:W.heap[j]? =some ob):j<W.heap.size:=(zi h).1
theorem zm3:∀ args w,(callFunc 136 args).run Tryz.prog w=.ok (.enter 136 args) w:=enters_of Tryz.func136 uk rfl
theorem pD {W:World} {g:Nat} {v v':Value} {t:TypeId} (h:W.heap[g]? =some (.cells #[v] t (0,0))):(W.setCell ⟨g,0,none⟩ v').heap[g]? =some (.cells #[v'] t (0,0)):=by
 have:=zx W g 0 _ _ v' h;simpa using this
structure LJ (w:World) (own:Nat→Prop) (W:World):Prop where
 at':W.heap[w.heap.size]? =some (.cells #[.int .u32 0] 41 (0,0))
 ok:W.heap[w.heap.size+1]? =some (.cells #[.bool false] 4 (0,0))
 bel:Below w.heap.size w W
 mine:own w.heap.size∧own (w.heap.size+1)
structure LX (w:World) (p:Nat) (W:World):Prop where
 at':W.heap[w.heap.size]? =some (.cells #[.int .u32 (p:Int)] 41 (0,0))
 ok:W.heap[w.heap.size+1]? =some (.cells #[.bool true] 4 (0,0))
 bel:Below w.heap.size w W
theorem LJ.grow {w:World} {own:Nat→Prop} {W W':World} (h:LJ w own W) (hb:Below W.heap.size W W'):LJ w own W':=
 ⟨(hb.block _ (hlt h.at')).trans h.at',(hb.block _ (hlt h.ok)).trans h.ok,h.bel.trans (hb.mono h.bel.size),h.mine⟩
theorem LX.grow {w:World} {p:Nat} {W W':World} (h:LX w p W) (hb:Below W.heap.size W W'):LX w p W':=
 ⟨(hb.block _ (hlt h.at')).trans h.at',(hb.block _ (hlt h.ok)).trans h.ok,h.bel.trans (hb.mono h.bel.size)⟩
theorem zeP {w W:World} {j:Nat} {ob:Obj} (h:Below w.heap.size w W) (hj:w.heap.size≤j):Below w.heap.size w (W.putObj j ob):=h.trans ⟨rfl,rfl,rfl,by simp[World.putObj],fun k hk=>World.putObj_heap_other uo⟩
theorem LJ.put {w:World} {own:Nat→Prop} {W:World} {j:Nat} {ob:Obj} (h:LJ w own W) (hj:w.heap.size+1<j):LJ w own (W.putObj j ob):=
 ⟨(World.putObj_heap_other uo).trans h.at',(World.putObj_heap_other uo).trans h.ok,zeP h.bel uo,h.mine⟩
theorem LX.put {w:World} {p:Nat} {W:World} {j:Nat} {ob:Obj} (h:LX w p W) (hj:w.heap.size+1<j):LX w p (W.putObj j ob):=
 ⟨(World.putObj_heap_other uo).trans h.at',(World.putObj_heap_other uo).trans h.ok,zeP h.bel uo⟩
theorem qF (A:Pl) (v:Vs) (t:St) (w:World) (hv:bP w A v t) (hk:Ok t):
  Calls Tryz.prog 66 #[pt A.g] w fun e B=>((∃ p,p<t.n∧eC v.tk t.n=some p∧e=.returned (.tuple #[.int .u32 (p:Int),.bool true]))∨(eC v.tk t.n=none∧e=.returned (.tuple #[.int .u32 0,.bool false])))∧Below w.heap.size w B:=by
 have HV:Hid _:=hv;have HK:Hid _:=hk;obtain⟨C,o⟩:∃ C:Ending→World→Prop,(fun e B=>((∃ p,p<t.n∧eC v.tk t.n=some p∧e=.returned (.tuple #[.int .u32 (p:Int),.bool true]))∨(eC v.tk t.n=none∧e=.returned (.tuple #[.int .u32 0,.bool false])))∧Below w.heap.size w B)=C:=⟨_,rfl⟩;rw[o];have HP:Hid (∀ e B,((∃ p,p<t.n∧eC v.tk t.n=some p∧e=.returned (.tuple #[.int .u32 (p:Int),.bool true]))∨(eC v.tk t.n=none∧e=.returned (.tuple #[.int .u32 0,.bool false])))→Below w.heap.size w B→C e B):=fun e B m s=>by rw[←o];exact⟨m,s⟩
 obtain⟨t1,t2,t3⟩:=Rk.fJ w (.cells #[.int .u32 0] 41) (.cells #[.bool false] 4);have u:((w.alloc (.cells #[.int .u32 0] 41)).alloc (.cells #[.bool false] 4)).heap.size=w.heap.size+2:=by simp
 obtain⟨x,F⟩:∃ x,(w.alloc (.cells #[.int .u32 0] 41)).alloc (.cells #[.bool false] 4)=x:=⟨_,rfl⟩;rw[F] at t1 t2 t3 u;have a7:Hid _:=F;clear hv hk o F;refine(callsIn_wide (n:=5)).1 ?_;refine callsIn_of_wp_marks Tryz.func66 rfl trivial ?_ rfl;simp only[Tryz.ntmps66,eR,eS,eT,Nat.reduceAdd,Nat.reduceSub,eU,eV,eW,eX,eY,eZ];gi_wp2;refine(wpIn_wide (n:=5)).2 (wp_scope_straight ((wpIn_wide (n:=5)).1 ?_));gi_wp2;refine wpIn_label ?_;gi_wp2;rw[a7.o];refine⟨trivial,callsIn_wide.2 ((zm2 A.g x).mono ?_)⟩;rintro e w3 ⟨rfl,G⟩;have S:=bF x (.cells #[pt A.g] 24);have u1:=zq x (.cells #[pt A.g] 24);rw[←G] at u1 S;have T:w3.heap.size=w.heap.size+3:=by rw[G];simp[u]
 have a8:Hid _:=u1;have U:Hid _:=t3.trans (S.mono uo);have a9:Hid (LJ w (fun j=>j=w.heap.size∨j=w.heap.size+1) w3):=⟨(S.block _ uo).trans t1,(S.block _ uo).trans t2,U.o,.inl rfl,.inr rfl⟩;have d:Hid (w3.heap.size=w.heap.size+3∧x.heap.size=w.heap.size+2):=⟨T,u⟩;clear u1 S t1 t2 t3 G T u;gi_wp2
 refine Rq.zg0 uo (gf:=136) (lb:=#[.pointer (some ⟨x.heap.size,0,none⟩)]) rfl zm3 (α:=Nat) (cf v.tk t.n) (fun p=>#[.int .u32 (p:Int)]) (fun _=>rfl)
  (fun k p _=>p<t.n∧(v.tk p).isSome=false∧cf v.tk p=k)
  (fun a k W=>k=0∧LJ w a W) (fun _ W=>∃ p,p<t.n∧eC v.tk t.n=some p∧LX w p W) (.exit 0) ?hJ ?hJx ?hJp ?hJxp (fun a k p W=>(k=0∧LJ w a W)∧p<t.n∧(v.tk p).isSome=false∧cf v.tk p=k) ?hJ2p (fun j=>j=w.heap.size∨j=w.heap.size+1) ?hown0 ?h0
  (fun p a' _=>a'={ tmps:=#[pt A.g,undef,.int .u32 0,.bool false,.pointer (some ⟨w.heap.size,0,none⟩),.pointer (some ⟨w.heap.size+1,0,none⟩),.int .u32 (p:Int),pt A.g,.func (.func 136) #[] #[.pointer (some ⟨x.heap.size,0,none⟩)],.int .u32 (p:Int),undef,undef,undef],defers:=[] }) ?hA ?assign ?body ?iter ?done ?stop
 case hJ=>intro a i X Y h f;exact⟨h.1,h.2.grow f⟩
 case hJx=>intro a X Y h f;obtain⟨p,m,s,Q⟩:=h;exact⟨p,m,s,Q.grow f⟩
 case hJp=>intro a i X ob h;exact⟨h.1,h.2.put (by have:=d.1;omega)⟩
 case hJxp=>intro a X ob h;obtain⟨p,m,s,Q⟩:=h;exact⟨p,m,s,Q.put (by have:=d.1;omega)⟩
 case hJ2p=>intro a i z X ob h;exact⟨⟨h.1.1,h.1.2.put (by have:=d.1;omega)⟩,h.2⟩
 case hown0=>intro j l;have:=d.1;omega
 case h0=>exact⟨rfl,a9.o⟩
 case hA=>intro z a' W l' o' h _ _;exact h
 case assign=>
  intro l' a i p b K' hi Z a0 H I a1;have HF:Hid ((i=0∧LJ w a b)∧p<t.n∧(v.tk p).isSome=false∧cf v.tk p=i):=⟨a0,Z⟩;have aa:Hid _:=a1;clear Z a0 hi H I a1;gi_wp2;exact aa.o _ _ (Rq.bC.refl _ _) HF.o rfl
 case body=>
  rintro l' a i p a' b hi ⟨⟨rfl,c⟩,m,s,Q⟩ rfl H I;have a2:Hid (p<t.n∧eC v.tk t.n=some p):=⟨m,least_some m s Q⟩;have z0:=frozen_of_row b _ 0 _ _ c.at';have d0:b.cell? ⟨w.heap.size,0,none⟩=some (.int .u32 0):=by rw[zr c.at'];rfl
  have a3:=pD (v':=.int .u32 (p:Int)) c.at';have J:∀ j,j≠w.heap.size→(b.setCell ⟨w.heap.size,0,none⟩ (.int .u32 (p:Int))).heap[j]? =b.heap[j]? :=fun j l=>Below.heap_setCell _ _ _ _ (fun e=>l e)
  have gf:=(J _ uo).trans c.ok;have z1:=frozen_of_row _ _ 0 _ _ gf;have d1:(b.setCell ⟨w.heap.size,0,none⟩ (.int .u32 (p:Int))).cell? ⟨w.heap.size+1,0,none⟩=some (.bool false):=by rw[zr gf];rfl
  have a4:=pD (v':=.bool true) gf;have K:∀ j,j≠w.heap.size+1→((b.setCell ⟨w.heap.size,0,none⟩ (.int .u32 (p:Int))).setCell ⟨w.heap.size+1,0,none⟩ (.bool true)).heap[j]? =(b.setCell ⟨w.heap.size,0,none⟩ (.int .u32 (p:Int))).heap[j]? :=fun j l=>Below.heap_setCell _ _ _ _ (fun e=>l e)
  have L:Rq.bC a b ((b.setCell ⟨w.heap.size,0,none⟩ (.int .u32 (p:Int))).setCell ⟨w.heap.size+1,0,none⟩ (.bool true)):=(zio _ _ _ _ _ c.mine.1).trans (zio _ _ _ _ _ c.mine.2)
  have HF:Hid (LX w p ((b.setCell ⟨w.heap.size,0,none⟩ (.int .u32 (p:Int))).setCell ⟨w.heap.size+1,0,none⟩ (.bool true))∧Rq.bC a b ((b.setCell ⟨w.heap.size,0,none⟩ (.int .u32 (p:Int))).setCell ⟨w.heap.size+1,0,none⟩ (.bool true))):=
   ⟨⟨(K _ uo).trans a3,a4,c.bel.trans ⟨rfl,rfl,rfl,L.size,fun j l=>(K j uo).trans (J j uo)⟩⟩,L⟩
  have m0:=hlt c.at';have m1:=hlt c.ok;clear a3 J gf a4 K L c hi m s Q H I;gi_wp2;exact⟨rfl,a,fun j l=>.inl l,HF.o.2,p,a2.o.1,a2.o.2,HF.o.1⟩
 case iter=>
  intro l' W5 aj a5 ak R' ab ow ac ad ai ae af;have hz:=d.o;refine zle A v t x.heap.size w W5 HV.o HK.o (U.o.trans (a5.mono uo)) ((a5.block _ uo).trans a8.o) l' R' ab ow (fun j l=>?_) ad (fun a k p W hp a6 ag ah hl=>ae a k p W ?_ ⟨hp,a6,ag⟩ ah hl) af
  ·rcases(ac j).1 l with(rfl|rfl)|rfl<;>omega
  ·have m:=ny v.tk p
   rw[a6] at m;have s:=zo1 v.tk (show p+1≤t.n by omega);simp only[Bool.false_eq_true,if_false] at m;omega
 case stop=>
  intro D a b M N c q;have O:Hid _:=q;obtain⟨p,g1,g2,R⟩:=c;have e0:b.cell? ⟨w.heap.size,0,none⟩=some (.int .u32 (p:Int)):=by rw[zr R.at'];rfl
  have e1:b.cell? ⟨w.heap.size+1,0,none⟩=some (.bool true):=by rw[zr R.ok];rfl
  have m0:=hlt R.at';have m1:=hlt R.ok;have y:Hid (p<t.n∧eC v.tk t.n=some p):=⟨g1,g2⟩;have r:Hid _:=R.bel;have HD:Hid (w.heap.size≤D):=by refine(?_:w.heap.size≤D);have:=d.1;omega
  clear q M N g1 g2 R;gi_wp2
  gi_region
  gi_wp2;rw[Exit.noGoto_ret];refine Rq.lY (fun W=>results_tmp2 rfl _ _ _) [D] b.drew us (fun E hE=>by simp at hE;subst hE;exact O.o) fun P f=>HP.o _ P (.inl ⟨p,y.o.1,y.o.2,rfl⟩) (r.o.drew.trans ⟨f.os,f.tape,f.output,f.size,fun j l=>f.block j (Nat.lt_of_lt_of_le l r.o.size) fun e=>?_⟩)
  have e':j=D:=by simpa using e
  have:=HD.o;omega
 case done=>
  rintro D a b M N ⟨hN,c⟩ q;have O:Hid _:=q;have e0:b.cell? ⟨w.heap.size,0,none⟩=some (.int .u32 0):=by rw[zr c.at'];rfl
  have e1:b.cell? ⟨w.heap.size+1,0,none⟩=some (.bool false):=by rw[zr c.ok];rfl
  have y:Hid _:=zjc hN;have r:Hid _:=c.bel;have HD:Hid (w.heap.size≤D):=by refine(?_:w.heap.size≤D);have:=d.o;omega
  clear q M N c hN;gi_wp2
  gi_region
  gi_wp2;rw[Exit.noGoto_ret];refine Rq.lY (fun W=>results_tmp2 rfl _ _ _) [D] b.drew us (fun E hE=>by simp at hE;subst hE;exact O.o) fun P f=>HP.o _ P (.inr ⟨y.o,rfl⟩) (r.o.drew.trans ⟨f.os,f.tape,f.output,f.size,fun j l=>f.block j (Nat.lt_of_lt_of_le l r.o.size) fun e=>?_⟩)
  have e':j=D:=by simpa using e
  have:=HD.o;omega
end Rv
namespace Rv
open Go.RowKit Go.Lib
open Rd (bC St Ok dT Dv pt bF bu)
def V6 (g:Nat) (a b c d e f:Value) (w:World):Prop:=w.cell? ⟨g,0,none⟩=some a∧w.cell? ⟨g,1,none⟩=some b∧w.cell? ⟨g,2,none⟩=some c∧w.cell? ⟨g,3,none⟩=some d∧w.cell? ⟨g,4,none⟩=some e∧w.cell? ⟨g,5,none⟩=some f
theorem qr {w:World} {A:Pl} {v:Vs} {T:TypeId} (h:w.heap[A.g]? =some (.cells (vc A v) T (0,0))):V6 A.g (pt A.d) (.slice A.o v.ring.length A.cap) (.int .u32 v.gen) (.int .u32 v.boot) (.int .u64 (v.seals:Int)) (.map (some A.tm)) w:=(jd h).1
theorem bP.set {w:World} {A:Pl} {v:Vs} {t:St} (h:bP w A v t) (i:Nat) (x:Value) (v':Vs)
  (f:(vc A v).setIfInBounds i x=vc A v') (j:v'.ring=v.ring) (d:v'.tk=v.tk∧v'.nt=v.nt):bP (w.setCell ⟨A.g,i,none⟩ x) A v' t∧bC A.has w (w.setCell ⟨A.g,i,none⟩ x):=by
 have b:bC A.has w (w.setCell ⟨A.g,i,none⟩ x):=bC.set w A.g i x (.inl rfl);have a:∀ k,k≠A.g→(w.setCell ⟨A.g,i,none⟩ x).heap[k]? =w.heap[k]? :=fun k l=>Below.heap_setCell _ _ _ _ fun e=>l e
 have c:Rg w A v':=by unfold Rg;rw[j];exact h.self.2
 refine⟨⟨⟨?_,c.same b.size b.block⟩,?_,h.dev.same (a _ fun e=>h.gd (.inl e.symm)) (a _ fun e=>h.gd (.inr (.inl e.symm))) (a _ fun e=>h.gd (.inr (.inr e.symm))),h.gt,h.gd,h.td,h.no1,h.no2⟩,b⟩
 ·rw[←f]
  exact Rd.gu w A.g i _ _ _ x h.self.1
 ·rw[d.1,d.2]
  exact h.map.same (a _ fun e=>h.gt e.symm)
theorem bP.dev_step {w a:World} {A:Pl} {v:Vs} {t g:St} (h:bP w A v t) (j:dT a A.d A.b A.m g) (e:bC (Dv A.d A.b A.m) w a):bP a A v g∧bC A.has w a:=by
 obtain⟨hs,l⟩:=h.self;have i:=h.lt;have c:bC A.has w a:=e.more fun k f=>.inr (.inr f)
 exact⟨⟨⟨(e.block _ i.1 h.gd).trans hs,l.same e.size fun k f n=>c.block k f n⟩,h.map.same (e.block _ i.2.1 h.td),j,h.gt,h.gd,h.td,h.no1,h.no2⟩,c⟩
def hd (v:Vs) (p:Nat):Rs.Hd:=((p:Int),v.gen,v.boot,(v.seals:Int))
def fq (Kt:Nat→Int) (v:Vs) (t:St) (p:Nat) (s:ByteArray):Int:=if Rs.sE v.ring (hd v p) s=0 then Rd.iF t p (Rs.sV Kt v.ring (hd v p) s) else Rs.sE v.ring (hd v p) s
def iR (Kt:Nat→Int) (v:Vs) (t:St) (p:Nat) (s:ByteArray):ByteArray:=if fq Kt v t p s=0 then Rs.cW (Rs.sV Kt v.ring (hd v p) s) else⟨#[]⟩
def dG (v:Vs) (p:Nat) (s:ByteArray):Vs:=if Rs.sE v.ring (hd v p) s=0 then { v with seals:=v.seals+1 } else v
def gp (Kt:Nat→Int) (v:Vs) (t:St) (p:Nat) (s:ByteArray):St:=if Rs.sE v.ring (hd v p) s=0 then Rd.dw t p (Rs.sV Kt v.ring (hd v p) s) else t
theorem nw (Kt:Nat→Int) (A:Pl) (v:Vs) (t:St) (p:Nat) (hp:p≤4294967295) (s:ByteArray) (w:World) (hv:bP w A v t) (hk:Ok t) (hT:Rs.Tb Kt w) (hf:Rs.fits (hd v p)) (hs:v.seals+1<18446744073709551616):
  Calls Tryz.prog 67 #[pt A.g,.int .u32 (p:Int),.string s] w fun e w'=>e=.returned (.tuple #[.string (iR Kt v t p s),.int .i64 (fq Kt v t p s)])∧bP w' A (dG v p s) (gp Kt v t p s)∧bC A.has w w':=by
 obtain⟨h1,h2⟩:=hv.self;obtain⟨o,ho⟩:∃ o,A.o=o:=⟨_,rfl⟩;obtain⟨cap,hcap⟩:∃ cap,A.cap=cap:=⟨_,rfl⟩;have HOC:Hid (A.o=o∧A.cap=cap):=⟨ho,hcap⟩;have HV:Hid (bP w A v t):=hv;have HK:Hid (Ok t):=hk;have HS:Hid (∀ W,Rk.Ring W o cap v.ring→Rs.Tb Kt W→Calls Tryz.prog 94 #[.slice o v.ring.length cap,Rs.hv (hd v p),.string s] W fun e w'=>e=.returned (.tuple #[.string (Rs.sV Kt v.ring (hd v p) s),.int .i64 (Rs.sE v.ring (hd v p) s)])∧Below W.heap.size W w'):=fun W a b=>Rs.zm0 Kt v.ring o cap (hd v p) hf s W a b
 have HTB:Hid (Rs.Tb Kt w):=hT;have HS1:Hid (w.heap[A.g]? =some (.cells (vc A v) 113 (0,0))∧Rk.Ring w o cap v.ring):=⟨h1,by rw[←ho,←hcap];exact h2.1⟩;simp only[Rs.hv,hd] at HS;obtain⟨PE,hPE⟩:∃ PE,fq Kt v t p s=PE:=⟨_,rfl⟩;obtain⟨PV,hPV⟩:∃ PV,iR Kt v t p s=PV:=⟨_,rfl⟩;have HPE:Hid (PE=if Rs.sE v.ring (hd v p) s=0 then Rd.iF t p (Rs.sV Kt v.ring (hd v p) s) else Rs.sE v.ring (hd v p) s):=by rw[←hPE];exact(rfl:fq Kt v t p s=_)
 have HPV:Hid (PV=if PE=0 then Rs.cW (Rs.sV Kt v.ring (hd v p) s) else⟨#[]⟩):=by rw[←hPV,←hPE];exact(rfl:iR Kt v t p s=_)
 have HPN:Hid (dG v p s=if Rs.sE v.ring (hd v p) s=0 then { v with seals:=v.seals+1 } else v):=rfl;have HPT:Hid (gp Kt v t p s=if Rs.sE v.ring (hd v p) s=0 then Rd.dw t p (Rs.sV Kt v.ring (hd v p) s) else t):=rfl;rw[hPE,hPV];have HSZ:Hid (Rs.sE v.ring (hd v p) s=0→(Rs.sV Kt v.ring (hd v p) s).size=256):=fun h0=>(Rs.mz Kt v.ring (hd v p) hf s h0).1
 have HW:Hid (∀ W v' B,bP W A v' t→Calls Tryz.prog 95 #[pt A.d,.int .u32 (p:Int),.string B] W fun e w'=>e=.returned (.int .i64 (Rd.iF t p B))∧dT w' A.d A.b A.m (Rd.dw t p B)∧bC (Dv A.d A.b A.m) W w'):=fun W v' B h=>Rd.oK A.d A.b A.m t p hp B W h.dev HK.o
 obtain⟨VN,hVN⟩:∃ VN,dG v p s=VN:=⟨_,rfl⟩;obtain⟨TN,hTN⟩:∃ TN,gp Kt v t p s=TN:=⟨_,rfl⟩;rw[hVN] at HPN ⊢;rw[hTN] at HPT ⊢;obtain⟨SE,hSE⟩:∃ SE,Rs.sE v.ring (hd v p) s=SE:=⟨_,rfl⟩;obtain⟨SV,hSV⟩:∃ SV,Rs.sV Kt v.ring (hd v p) s=SV:=⟨_,rfl⟩;rw[hSE] at HPE HPN HPT HSZ;rw[hSV] at HPE HPT HPV HSZ;simp only[hd] at hSE hSV;rw[hSE,hSV] at HS;have hw1:IntKind.u64.wrap ((v.seals:Int)+1)=(v.seals:Int)+1:=IntWalk.u64_in _ ⟨by omega,by omega⟩;have hv6:=qr h1;rw[ho,hcap] at hv6;have HL:Hid (A.g<w.heap.size):=hv.lt.1;obtain⟨sl,hsl⟩:∃ sl,(v.seals:Int)=sl:=⟨_,rfl⟩;obtain⟨rl,hrl⟩:∃ rl,v.ring.length=rl:=⟨_,rfl⟩;rw[hsl] at hw1;rw[hsl,hrl] at HS hv6;obtain⟨gn,hgn⟩:∃ gn,v.gen=gn:=⟨_,rfl⟩;obtain⟨bt,hbt⟩:∃ bt,v.boot=bt:=⟨_,rfl⟩;rw[hgn,hbt] at HS hv6;have HRL:Hid ((v.seals:Int)=sl∧v.ring.length=rl∧v.gen=gn∧v.boot=bt):=⟨hsl,hrl,hgn,hbt⟩;have HSW0:Hid (V6 A.g (pt A.d) (.slice o rl cap) (.int .u32 gn) (.int .u32 bt) (.int .u64 sl) (.map (some A.tm)) w):=hv6
 clear ho hcap hv6 hsl hrl hgn hbt hVN hTN hSE hSV hPE hPV h1 h2 hv hk hT hf hs;go_enter Tryz.func67,Tryz.ntmps67;go_wp2_with fail;refine wp_region_held (S:=V6 A.g (pt A.d) (.slice o rl cap) (.int .u32 gn) (.int .u32 bt) (.int .u64 sl) (.map (some A.tm))) uk ?_;change wpAnyH _ _ _ _ _ _ _ _ (World.drew _);have HSW:Hid (V6 A.g (pt A.d) (.slice o rl cap) (.int .u32 gn) (.int .u32 bt) (.int .u64 sl) (.map (some A.tm)) w.drew):=HSW0.o;refine bB [0,1,2,3,4,5,6,7,8,9,10,11,12,13,14,15,16,17,18] ?_
 iterate 19
  refine bS (v:=?_) rfl ?_ HSW.o ?_;rotate_left
  ·rintro w ⟨e0,e1,e2,e3,e4,e5⟩;go_simp;try with_reducible rfl
  conv in(Act.put _ _ _)=>simp only[bH,bI,bJ,Act.put,bK,bL,bM]
 refine bA ?_;refine dF 19 _ uk rfl uk (fun K hK=>?_);go_simp;refine Calls.mono (HS.o _ (HS1.o.2.below (Below.refl _ w).drew zn) (HTB.o.below (Below.refl _ w).drew zn)) ?_;rintro e w2 ⟨rfl,b2⟩
 replace b2:Below w.heap.size w w2:=(Below.refl _ w).drew.trans b2
 have HV2:Hid (bP w2 A v t):=HV.o.below b2 zn;have HB2:Hid (bC A.has w w2):=bC.of_below b2;have HS2:Hid (w2.heap[A.g]? =some (.cells (vc A v) 113 (0,0))):=(b2.block _ HL.o).trans HS1.o.1;clear HSW HSW0
 have HSW:Hid (V6 A.g (pt A.d) (.slice o rl cap) (.int .u32 gn) (.int .u32 bt) (.int .u64 sl) (.map (some A.tm)) w2):=by
  have:=qr HS2.o;rw[HRL.o.1,HRL.o.2.1,HRL.o.2.2.1,HRL.o.2.2.2,HOC.o.1,HOC.o.2] at this;exact this
 clear b2 HS1 HV HTB HS;refine hK _ _ HSW.o ?_;clear hK K;refine bB [20,21,22,23,24] ?_
 iterate 5
  refine bS (v:=?_) rfl ?_ HSW.o ?_;rotate_left
  ·rintro w ⟨e0,e1,e2,e3,e4,e5⟩;go_simp;try with_reducible rfl
  conv in(Act.put _ _ _)=>simp only[bH,bI,bJ,Act.put,bK,bL,bM]
 refine bA ?_;refine wpAnyH_done uk ?_ _;by_cases hE:SE=0
 ·subst hE
  have HPE2:Hid (PE=Rd.iF t p SV):=by rw[HPE.o];exact(if_pos rfl:(if(0:Int)=0 then _ else _)=_)
  have HPN2:Hid (VN={ v with seals:=v.seals+1 }):=by rw[HPN.o];exact(if_pos rfl:(if(0:Int)=0 then _ else _)=_)
  have HPT2:Hid (TN=Rd.dw t p SV):=by rw[HPT.o];exact(if_pos rfl:(if(0:Int)=0 then _ else _)=_)
  have HTg:Hid (∀ W,Calls Tryz.prog 96 #[.string SV] W fun e w'=>e=.returned (.string (Rs.cW SV))∧w'=W):=fun W=>Rs.tg SV (by rw[HSZ.o rfl];decide) W
  obtain⟨e0,-,-,-,e4,-⟩:=HSW.o;have z4:w2.frozen? ⟨A.g,4,none⟩=false:=frozen_of_row w2 _ _ _ _ HS2.o;have hst:=HV2.o.set 4 (.int .u64 (sl+1)) { v with seals:=v.seals+1 } (by rw[←HRL.o.1];rfl) rfl ⟨rfl,rfl⟩;obtain⟨W3,hW3⟩:∃ W3,w2.setCell ⟨A.g,4,none⟩ (.int .u64 (sl+1))=W3:=⟨_,rfl⟩;rw[hW3] at hst;have HW3:Hid _:=hW3;have HV3:Hid (bP W3 A { v with seals:=v.seals+1 } t):=hst.1;have HB3:Hid (bC A.has w W3):=HB2.o.trans hst.2;obtain⟨hs3,-⟩:=hst.1.self;obtain⟨⟨f0,-⟩,-⟩:=jd hs3;have m0:=HV2.o.lt.1;clear hW3 hst hs3 HPE HPN HPT HSZ HSW HS2 HB2 HV2
  go_wp2_with (first|(rw[HW3.o];clear HW3))
  refine Calls.mono (HW.o W3 _ SV HV3.o) ?_;rintro e w4 ⟨rfl,hd4,b4⟩;have hst4:=HV3.o.dev_step hd4 b4;have HV4:Hid (bP w4 A VN TN):=by rw[HPN2.o,HPT2.o];exact(hst4.1:bP w4 A { v with seals:=v.seals+1 } (Rd.dw t p SV))
  have HB4:Hid (bC A.has w w4):=HB3.o.trans hst4.2;rw[←HPE2.o];clear hd4 b4 hst4 HW HPE2 HPN2 HPT2 HB3 HV3 f0 e0 e4 z4;by_cases h0:PE=0
  ·subst h0
   have HPV2:Hid (PV=Rs.cW SV):=by rw[HPV.o];exact(if_pos rfl:(if(0:Int)=0 then _ else _)=_)
   clear HPV;go_wp2_with fail;refine Calls.mono (HTg.o _) ?_;rintro e w5 ⟨rfl,hw5⟩;have hw5':=hw5.symm;clear hw5;subst hw5';go_wp2_with fail;go_ret2;exact⟨by rw[HPV2.o];rfl,HV4.o,HB4.o⟩
  ·have hE1:decide (PE=0)=false:=decide_eq_false h0
   have hE2:(PE==0)=false:=by simpa using h0
   have hE3:(PE !=0)=true:=by simpa using h0
   have HPV2:Hid (PV=⟨#[]⟩):=by rw[HPV.o];exact(if_neg h0:(if PE=0 then _ else _)=_)
   clear HPV h0;go_wp2_with fail;go_ret2;exact⟨by rw[HPV2.o];rfl,HV4.o,HB4.o⟩
 ·have hE1:decide (SE=0)=false:=decide_eq_false hE
  have hE2:(SE==0)=false:=by simpa using hE
  have hE3:(SE !=0)=true:=by simpa using hE
  have HPE2:Hid (PE=SE):=by rw[HPE.o];exact(if_neg hE:(if SE=0 then _ else _)=_)
  have HPN2:Hid (VN=v):=by rw[HPN.o];exact(if_neg hE:(if SE=0 then _ else _)=_)
  have HPT2:Hid (TN=t):=by rw[HPT.o];exact(if_neg hE:(if SE=0 then _ else _)=_)
  have HPV2:Hid (PV=⟨#[]⟩):=by rw[HPV.o,HPE2.o];exact(if_neg hE:(if SE=0 then _ else _)=_)
  clear HPE HPN HPT HPV HSZ HSW HS2 hE;go_wp2_with fail;go_ret2;exact⟨by rw[HPV2.o,HPE2.o];rfl,by rw[HPN2.o,HPT2.o];exact HV2.o,HB2.o⟩
abbrev rf (p:Nat) (s:ByteArray):Value:=.agg #[.int .u32 (p:Int),.string s]
theorem fD {fn:Func} {p u:Tmp} (h:fn.results=#[.cell p 49,.tmp u]) (tmps:Array Value) (w:World) (g:Nat) (a b x:Value) {t:TypeId}
  (hp:tmps.getD p undef=.pointer (some ⟨g,0,none⟩)) (hu:tmps.getD u undef=x) (hg:w.heap[g]? =some (.cells #[a,b] t (0,0))):(results fn tmps).run Tryz.prog w=.ok (.tuple #[.agg #[a,b],x]) w:=by
 have hp':tmps[p]?.getD undef=.pointer (some ⟨g,0,none⟩):=by simpa using hp
 have hu':tmps[u]?.getD undef=x:=by simpa using hu
 have c0:w.cell? ⟨g,0,none⟩=some a:=by rw[zr hg];rfl
 have c1:w.cell? ⟨g,1,none⟩=some b:=by rw[zr hg];rfl
 simp[results,h,hp',hu',asAddr,go_sem,c0,c1]
def FB (g:Nat) (a:Int) (s:ByteArray) (W:World):Prop:=W.heap[g]? =some (.cells #[.int .u32 a,.string s] 49 (0,0))
theorem FB.grow {g:Nat} {a:Int} {s:ByteArray} {W W':World} (h:FB g a s W) (hb:Below W.heap.size W W'):FB g a s W':=(hb.block _ (hlt h)).trans h
theorem FB.but {S:Nat→Prop} {g:Nat} {a:Int} {s:ByteArray} {W W':World} (h:FB g a s W) (hb:bC S W W') (hn:¬S g):FB g a s W':=(hb.block _ (hlt h) hn).trans h
theorem FB.facts {g:Nat} {a:Int} {s:ByteArray} {W:World} (h:FB g a s W):W.frozen? ⟨g,0,none⟩=false∧W.frozen? ⟨g,1,none⟩=false∧W.cell? ⟨g,0,none⟩=some (.int .u32 a)∧W.cell? ⟨g,1,none⟩=some (.string s):=
 ⟨frozen_of_row W _ _ _ _ h,frozen_of_row W _ _ _ _ h,by rw[zr h];rfl,by rw[zr h];rfl⟩
theorem FB.set {g:Nat} {a:Int} {s:ByteArray} {W:World} (h:FB g a s W) (a':Int) (s':ByteArray):FB g a' s' ((W.setCell ⟨g,0,none⟩ (.int .u32 a')).setCell ⟨g,1,none⟩ (.string s'))∧∀ B,B≤g→Below B W ((W.setCell ⟨g,0,none⟩ (.int .u32 a')).setCell ⟨g,1,none⟩ (.string s')):=by
 have X1:=zx W g 0 _ _ (.int .u32 a') h;have X2:=zx _ g 1 _ _ (.string s') X1;refine⟨X2,fun B hB=>⟨rfl,rfl,rfl,by simp[World.setCell],fun j hj=>?_⟩⟩;rw[Below.heap_setCell _ _ _ _ (by simp only;omega),Below.heap_setCell _ _ _ _ (by simp only;omega)]
theorem gQ (W:World):FB W.heap.size 0 ⟨#[]⟩ (W.alloc (.cells #[.int .u32 0,.string ⟨#[]⟩] 49)):=zq W _
theorem zgn {S:Nat→Prop} {w w1 w2:World} (h:bC S w w1) (h2:Below w.heap.size w1 w2):bC S w w2:=
 ⟨h2.os.trans h.os,h2.tape.trans h.tape,h2.output.trans h.output,Nat.le_trans h.size h2.size,fun k hk hn=>(h2.block k hk).trans (h.block k hk hn)⟩
theorem zgo {S:Nat→Prop} {w w1 w2:World} (h:Below w.heap.size w w1) (h2:bC S w1 w2):bC S w w2:=(bC.of_below h).trans h2
def take (v:Vs) (p:Nat):Vs:={ v with tk:=cE v.tk p (some ()),nt:=if(v.tk p).isSome=true then v.nt else v.nt+1 }
theorem bP.take_step {w w':World} {A:Pl} {v:Vs} {t:St} (h:bP w A v t) {tk':Nat→Option Unit} {n':Nat} (hm:Tk w' A.tm tk' n') (hb:bC (fun k=>k=A.tm) w w'):bP w' A { v with tk:=tk',nt:=n' } t∧bC A.has w w':=by
 obtain⟨hs,hr⟩:=h.self;have hl:=h.lt;have hb':bC A.has w w':=hb.more fun k hk=>.inr (.inl hk)
 have hr':Rg w' A v:=hr.same hb.size fun k hk hn=>hb'.block k hk hn
 exact⟨⟨⟨(hb.block _ hl.1 h.gt).trans hs,hr'⟩,hm,h.dev.but hb (fun e=>h.td (.inl e.symm)) (fun e=>h.td (.inr (.inl e.symm))) (fun e=>h.td (.inr (.inr e.symm))),h.gt,h.gd,h.td,h.no1,h.no2⟩,hb'⟩
theorem zjd (A:Pl) (v:Vs) (t:St) (s:ByteArray) (hs:s.size≤198) (w:World) (hv:bP w A v t) (hk:Ok t) (hl:eC v.tk t.n=none):
  Calls Tryz.prog 32 #[pt A.g,.string s] w fun e w'=>e=.returned (.tuple #[rf 0 ⟨#[]⟩,.int .i64 110])∧Below w.heap.size w w':=by
 have hb:=bF w (.cells #[.int .u32 0,.string ⟨#[]⟩] 49);have hg:=gQ w;obtain⟨W0,hW0⟩:∃ W0,w.alloc (.cells #[.int .u32 0,.string ⟨#[]⟩] 49)=W0:=⟨_,rfl⟩;rw[hW0] at hb hg;have HW0:Hid _:=hW0;have HB0:Hid (Below w.heap.size w W0):=hb;have HF0:Hid (FB w.heap.size 0 ⟨#[]⟩ W0):=hg;have hv0:=hv.below hb zn;have HV0:Hid (bP W0 A v t):=hv0;have HN:Hid (∀ _:True,_):=fun _=>lk A v t W0 hv0
 have HLs:Hid (∀ _:True,_):=fun _=>qF A v t W0 hv0 hk
 rw[hl] at HLs;have q1:¬(198:Int)<(s.size:Int):=uo
 clear hb hg hW0 hv hv0 hs;go_enter Tryz.func32,Tryz.ntmps32
 go_wp2_with (first|(rw[HW0.o];clear HW0))
 refine Calls.mono (HN.o trivial) ?_;rintro e w1 ⟨rfl,hw1⟩;have hw1':=hw1.symm;clear hw1 HN;subst hw1';go_wp2_with fail;refine Calls.mono (HLs.o trivial) ?_;rintro e w2 ⟨h2,b2⟩
 have he:e=.returned (.tuple #[.int .u32 0,.bool false]):=by
  rcases h2 with⟨p,-,hp,-⟩|⟨-,h⟩
  ·cases hp
  ·exact h
 subst he;have HB2:Hid (Below w.heap.size w w2):=HB0.o.trans (b2.mono HB0.o.size);have HF2:Hid (FB w.heap.size 0 ⟨#[]⟩ w2):=HF0.o.grow b2;have hstW3:=HF2.o.set 0 ⟨#[]⟩;obtain⟨z0,z1,f0,f1⟩:=HF2.o.facts;have z1':(w2.setCell ⟨w.heap.size,0,none⟩ (.int .u32 0)).frozen? ⟨w.heap.size,1,none⟩=false:=frozen_of_row _ _ _ _ _ (zx w2 w.heap.size 0 _ _ (.int .u32 0) HF2.o);have m0:=hlt HF2.o;obtain⟨W3,hW3⟩:∃ W3,(w2.setCell ⟨w.heap.size,0,none⟩ (.int .u32 0)).setCell ⟨w.heap.size,1,none⟩ (.string ⟨#[]⟩)=W3:=⟨_,rfl⟩;rw[hW3] at hstW3;have HW3:Hid _:=hW3;have HF3:Hid (FB w.heap.size 0 ⟨#[]⟩ W3∧Below w.heap.size w W3):=⟨hstW3.1,HB2.o.trans (hstW3.2 _ zn)⟩;clear hstW3 hW3 h2 b2 HLs
 go_wp2_with (first|(rw[HW3.o];clear HW3))
 refine bodyPost_ret (fD rfl _ _ _ _ _ _ rfl rfl HF3.o.1) rfl ?_;exact⟨rfl,HF3.o.2⟩
theorem zlf (Kt:Nat→Int) (A:Pl) (v:Vs) (t:St) (s:ByteArray) (hs:s.size≤198) (w:World) (hv:bP w A v t) (hk:Ok t) (hT:Rs.Tb Kt w) {p:Nat} (hf:Rs.fits (hd v p)) (hsl:v.seals+1<18446744073709551616) (hl:eC v.tk t.n=some p) (hp:p<t.n):
  Calls Tryz.prog 32 #[pt A.g,.string s] w fun e w'=>((fq Kt v t p s=0∧e=.returned (.tuple #[rf p (iR Kt v t p s),.int .i64 0])∧bP w' A (take (dG v p s) p) (gp Kt v t p s))∨(fq Kt v t p s≠0∧e=.returned (.tuple #[rf 0 ⟨#[]⟩,.int .i64 (fq Kt v t p s)])∧bP w' A (dG v p s) (gp Kt v t p s)))∧bC A.has w w':=by
 have hb:=bF w (.cells #[.int .u32 0,.string ⟨#[]⟩] 49);have hg:=gQ w;obtain⟨W0,hW0⟩:∃ W0,w.alloc (.cells #[.int .u32 0,.string ⟨#[]⟩] 49)=W0:=⟨_,rfl⟩;rw[hW0] at hb hg;have HW0:Hid _:=hW0;have HB0:Hid (Below w.heap.size w W0):=hb;have HF0:Hid (FB w.heap.size 0 ⟨#[]⟩ W0):=hg;have hv0:=hv.below hb zn;have HV0:Hid (bP W0 A v t):=hv0;have HN:Hid (∀ _:True,_):=fun _=>lk A v t W0 hv0
 have HLs:Hid (∀ _:True,_):=fun _=>qF A v t W0 hv0 hk
 rw[hl] at HLs;have q1:¬(198:Int)<(s.size:Int):=uo
 have HTB:Hid (Rs.Tb Kt w):=hT;have hn1:=hk.n1;have HU:Hid (∀ W,bP W A v t→Rs.Tb Kt W→Calls Tryz.prog 67 #[pt A.g,.int .u32 (p:Int),.string s] W fun e w'=>e=.returned (.tuple #[.string (iR Kt v t p s),.int .i64 (fq Kt v t p s)])∧bP w' A (dG v p s) (gp Kt v t p s)∧bC A.has W w'):=fun W h1 h2=>nw Kt A v t p uo s W h1 hk h2 hf hsl
 have HLT:Hid (∀ k,A.has k→k<w.heap.size):=fun k hk=>hv.has_lt hk
 have HVw:Hid (bP w A v t):=hv;have HRN:Hid ((dG v p s).ring=v.ring):=by unfold dG;split<;>exact rfl
 clear hb hg hW0 hv hv0 hs hT hf hsl;generalize iR Kt v t p s=PV at*
 generalize fq Kt v t p s=PE at*
 generalize dG v p s=VN at*
 generalize gp Kt v t p s=TN at*
 obtain⟨PST,hPST⟩:∃ PST:Ending→World→Prop,(fun e w'=>((PE=0∧e=.returned (.tuple #[rf p PV,.int .i64 0])∧bP w' A (take VN p) TN)∨(PE≠0∧e=.returned (.tuple #[rf 0 ⟨#[]⟩,.int .i64 PE])∧bP w' A VN TN))∧bC A.has w w')=PST:=⟨_,rfl⟩;rw[hPST];have HPS:Hid (∀ e w',((PE=0∧e=.returned (.tuple #[rf p PV,.int .i64 0])∧bP w' A (take VN p) TN)∨(PE≠0∧e=.returned (.tuple #[rf 0 ⟨#[]⟩,.int .i64 PE])∧bP w' A VN TN))→bC A.has w w'→PST e w'):=fun e w' h1 h2=>by rw[←hPST];exact⟨h1,h2⟩
 clear hPST;go_enter Tryz.func32,Tryz.ntmps32
 go_wp2_with (first|(rw[HW0.o];clear HW0))
 refine Calls.mono (HN.o trivial) ?_;rintro e w1 ⟨rfl,hw1⟩;have hw1':=hw1.symm;clear hw1 HN;subst hw1';go_wp2_with fail;refine Calls.mono (HLs.o trivial) ?_;rintro e w2 ⟨h2,b2⟩
 have he:e=.returned (.tuple #[.int .u32 (p:Int),.bool true]):=by
  rcases h2 with⟨p',-,hp',h⟩|⟨hp',-⟩
  ·cases hp';exact h
  ·cases hp'
 subst he;have HB2:Hid (Below w.heap.size w w2):=HB0.o.trans (b2.mono HB0.o.size);have HF2:Hid (FB w.heap.size 0 ⟨#[]⟩ w2):=HF0.o.grow b2;have HV2:Hid (bP w2 A v t):=HV0.o.below b2 zn;clear h2 b2 HLs HV0 HB0 HF0;go_wp2_with fail;refine Calls.mono (HU.o _ HV2.o (HTB.o.below HB2.o zn)) ?_;rintro e w3 ⟨rfl,hv3,b3⟩;have HB3:Hid (bC A.has w w3):=zgo HB2.o b3;have HF3:Hid (FB w.heap.size 0 ⟨#[]⟩ w3):=HF2.o.but b3 fun e=>by have:=HLT.o _ e;omega
 have HV3:Hid (bP w3 A VN TN):=hv3;clear hv3 b3 HU HV2 HF2;by_cases h0:PE=0
 ·subst h0
  obtain⟨hs3,-⟩:=HV3.o.self;obtain⟨⟨-,-,-,-,-,c5⟩,-⟩:=jd hs3;obtain⟨W4,hrun,hm4,b4,hz4⟩:=HV3.o.map.update p ();have hst4:=HV3.o.take_step hm4 b4;have HV4:Hid (bP W4 A (take VN p) TN):=hst4.1;have HB4:Hid (bC A.has w W4):=HB3.o.trans hst4.2;have HF4:Hid (FB w.heap.size 0 ⟨#[]⟩ W4):=HF3.o.but hst4.2 fun e=>by have:=HLT.o _ e;omega
  have hstW5:=HF4.o.set (p:Int) PV;obtain⟨z0,z1,f0,f1⟩:=HF4.o.facts;have z1':(W4.setCell ⟨w.heap.size,0,none⟩ (.int .u32 (p:Int))).frozen? ⟨w.heap.size,1,none⟩=false:=frozen_of_row _ _ _ _ _ (zx W4 w.heap.size 0 _ _ (.int .u32 (p:Int)) HF4.o);have m0:=hlt HF4.o;obtain⟨W5,hW5⟩:∃ W5,(W4.setCell ⟨w.heap.size,0,none⟩ (.int .u32 (p:Int))).setCell ⟨w.heap.size,1,none⟩ (.string PV)=W5:=⟨_,rfl⟩;rw[hW5] at hstW5;have HW5:Hid _:=hW5;have HF5:Hid (FB w.heap.size (p:Int) PV W5):=hstW5.1;have b5:=hstW5.2 w.heap.size zn;have HB5:Hid (bC A.has w W5):=zgn HB4.o b5
  have HV5:Hid (bP W5 A (take VN p) TN):=by
   refine(?_:bP W5 A (take VN p) TN);exact HVw.o.above HV4.o HRN.o b5
  clear hstW5 hW5 hs3 hm4 b4 hst4 b5
  go_wp2_with (first|(rw[HW5.o];clear HW5))
  refine bodyPost_ret (fD rfl _ _ _ _ _ _ rfl rfl HF5.o) rfl ?_;exact HPS.o _ _ (.inl ⟨by first|rfl|trivial,rfl,HV5.o⟩) HB5.o
 ·have hE1:decide (PE=0)=false:=decide_eq_false h0
  have hE2:(PE==0)=false:=by simpa using h0
  have hE3:(PE !=0)=true:=by simpa using h0
  have hstW5:=HF3.o.set 0 ⟨#[]⟩;obtain⟨z0,z1,f0,f1⟩:=HF3.o.facts;have z1':(w3.setCell ⟨w.heap.size,0,none⟩ (.int .u32 0)).frozen? ⟨w.heap.size,1,none⟩=false:=frozen_of_row _ _ _ _ _ (zx w3 w.heap.size 0 _ _ (.int .u32 0) HF3.o);have m0:=hlt HF3.o;obtain⟨W5,hW5⟩:∃ W5,(w3.setCell ⟨w.heap.size,0,none⟩ (.int .u32 0)).setCell ⟨w.heap.size,1,none⟩ (.string ⟨#[]⟩)=W5:=⟨_,rfl⟩;rw[hW5] at hstW5;have HW5:Hid _:=hW5;have HF5:Hid (FB w.heap.size 0 ⟨#[]⟩ W5):=hstW5.1;have b5:=hstW5.2 w.heap.size zn;have HB5:Hid (bC A.has w W5):=zgn HB3.o b5;have HV5:Hid (bP W5 A VN TN):=HVw.o.above HV3.o HRN.o b5;have HE:Hid (PE≠0):=h0;clear hstW5 hW5 b5 h0
  go_wp2_with (first|(rw[HW5.o];clear HW5))
  refine bodyPost_ret (fD rfl _ _ _ _ _ _ rfl rfl HF5.o) rfl ?_;exact HPS.o _ _ (.inr ⟨HE.o,rfl,HV5.o⟩) HB5.o
def br (p:Nat) (s:ByteArray):Bool:=decide (2≤p)&&decide (s.size=32)
theorem qN (p:Nat) (s:ByteArray) (w:World):
  Calls Tryz.prog 161 #[rf p s] w fun e w'=>e=.returned (.bool (br p s))∧Below w.heap.size w w':=by
 have hb:=bF w (.cells #[.int .u32 (p:Int),.string s] 49);have hg:FB w.heap.size (p:Int) s (w.alloc (.cells #[.int .u32 (p:Int),.string s] 49)):=zq w _;obtain⟨W0,hW0⟩:∃ W0,w.alloc (.cells #[.int .u32 (p:Int),.string s] 49)=W0:=⟨_,rfl⟩;rw[hW0] at hb hg;have HW0:Hid _:=hW0;have HB0:Hid (Below w.heap.size w W0):=hb;obtain⟨-,-,f0,f1⟩:=hg.facts;unfold br;clear hb hg hW0;go_enter Tryz.func161,Tryz.ntmps161;by_cases h2:2≤p
 ·have i2:(2:Int)≤(p:Int):=uo
  have i3:decide ((2:Int)≤(p:Int))=true:=decide_eq_true i2
  have i4:((s.size:Int)==32)=decide (s.size=32):=by
   by_cases e:s.size=32
   ·rw[e];rfl
   ·rw[decide_eq_false e,beq_eq_false_iff_ne];omega
  rw[decide_eq_true h2];generalize decide (s.size=32)=b at*
  go_wp2_with (first|(rw[HW0.o];clear HW0))
  go_ret;exact⟨by simp,HB0.o⟩
 ·have i3:decide ((2:Int)≤(p:Int))=false:=decide_eq_false uo
  have i2:¬(2:Int)≤(p:Int):=uo
  rw[decide_eq_false h2]
  go_wp2_with (first|(rw[HW0.o];clear HW0))
  go_ret;exact⟨rfl,HB0.o⟩
def plc (p:Nat):ByteArray:=(Rs.cD ((p:Int),0,0,0)).extract 0 4
def says (b:ByteArray) (p:Nat):Bool:=decide (b.extract 0 4=plc p)
theorem zpX (s:ByteArray) (h:s.size=24) (b:Nat) (hb:b≤24) (w:World):(Instr.sliceAt 9 (.string s) none (some (.int .i64 (b:Int))) none).run Tryz.prog w=.ok (.string (s.extract 0 b)) w:=by
 simp[Instr.sliceAt,Instr.slice,run_underlying Tryz.underlying9,go_sem,h];intro h9;omega
theorem zm5 (b:ByteArray) (hb:b.size=256) (p:Nat) (hp:p≤4294967295) (w:World):
  Calls Tryz.prog 199 #[.string b,.int .u32 (p:Int)] w fun e w'=>e=.returned (.bool (says b p))∧Below w.heap.size w w':=by
 have h1:∀ w,(Instr.sliceAt 9 (.string b) none (some (.int .i64 4)) none).run Tryz.prog w=.ok (.string (b.extract 0 4)) w:=Rs.th b hb 4 uo;have h2:∀ w,(Instr.sliceAt 9 (.string (Rs.cD ((p:Int),0,0,0))) none (some (.int .i64 4)) none).run Tryz.prog w=.ok (.string (plc p)) w:=zpX _ (Rs.lx _) 4 uo;have HP:Hid (∀ W,Calls Tryz.prog 180 #[Rs.hv ((p:Int),0,0,0)] W fun e w'=>e=.returned (.string (Rs.cD ((p:Int),0,0,0)))∧Below W.heap.size W w'):=fun W=>Rs.nw ((p:Int),0,0,0) (by unfold Rs.fits;simp only;omega) W
 simp only[Rs.hv] at HP;have HS:Hid (says b p=decide (b.extract 0 4=plc p)):=rfl;generalize Rs.cD ((p:Int),0,0,0)=PS at*
 generalize plc p=PL at*
 generalize b.extract 0 4=BE at*
 generalize says b p=SB at*
 clear hb hp;go_enter Tryz.func199,Tryz.ntmps199;go_wp2_with fail;refine wp_region_any uk ?_;change wpAny _ _ _ _ _ _ _ (World.drew _);refine bB [0,1,2,3] ?_
 iterate 4
  refine fS (v:=?_) rfl ?_ ?_;rotate_left
  ·intro w;go_simp;try with_reducible rfl
  conv in(Act.put _ _ _)=>simp only[bH,bI,bJ,Act.put,bK,bL,bM]
 refine bA ?_;refine wpAny_ready (rs:=[4]) uk us ?_;refine(AllReady.cons rfl (fun K hK=>?_) AllReady.nil);go_simp;refine Calls.mono (HP.o _) ?_;rintro e w2 ⟨rfl,b2⟩
 replace b2:Below w.heap.size w w2:=(Below.refl _ w).drew.trans b2
 refine hK _ _ ?_;clear hK K;refine bB [5,6,7] ?_
 iterate 3
  refine fS (v:=?_) rfl ?_ ?_;rotate_left
  ·intro w;go_simp;try with_reducible rfl
  conv in(Act.put _ _ _)=>simp only[bH,bI,bJ,Act.put,bK,bL,bM]
 refine bA ?_;refine wpAny_done uk ?_ _;go_wp2_with fail;go_ret;exact⟨by rw[HS.o,←Rk.nM];simp,b2⟩
theorem zgp {t:St} (hk:Ok t) {p:Nat} (h:Rd.er t p=0):(Rd.dv t p).size=256:=by
 unfold Rd.dv;rw[if_pos h];unfold Rd.er at h;by_cases hp:p<t.n
 ·unfold Rd.pH
  cases hd:t.pd p with
  |none=>exact hk.tx p hp
  |some x=>exact(hk.pd p x hd).2
 ·rw[if_neg hp] at h;cases h
def eQ (t:St) (p:Nat) (tag:ByteArray):Bool:=decide (Rs.cW (Rd.dv t p)=tag)&&says (Rd.dv t p) p
def mJ (Kt:Nat→Int) (v:Vs) (t:St) (p:Nat) (tag:ByteArray):Int:=if Rd.er t p=0 then(if eQ t p tag=true then Rs.oE Kt v.ring (Rd.dv t p) else 61) else Rd.er t p
def mK (Kt:Nat→Int) (v:Vs) (t:St) (p:Nat) (tag:ByteArray):Rs.Hd:=if Rd.er t p=0∧eQ t p tag=true then Rs.oH Kt v.ring (Rd.dv t p) else Rs.zh
def ee (Kt:Nat→Int) (v:Vs) (t:St) (p:Nat) (tag:ByteArray):ByteArray:=if Rd.er t p=0∧eQ t p tag=true then Rs.oS Kt v.ring (Rd.dv t p) else⟨#[]⟩
def HB (g:Nat) (h:Rs.Hd) (W:World):Prop:=W.heap[g]? =some (.cells #[.int .u32 h.1,.int .u32 h.2.1,.int .u32 h.2.2.1,.int .u64 h.2.2.2] 173 (0,0))
theorem HB.grow {g:Nat} {h:Rs.Hd} {W W':World} (x:HB g h W) (hb:Below W.heap.size W W'):HB g h W':=(hb.block _ (hlt x)).trans x
theorem hb_new (W:World):HB W.heap.size Rs.zh (W.alloc (.cells #[.int .u32 0,.int .u32 0,.int .u32 0,.int .u64 0] 173)):=zq W _
theorem zlg (Kt:Nat→Int) (A:Pl) (v:Vs) (t:St) (p:Nat) (hp:p≤4294967295) (tag:ByteArray) (w:World) (hv:bP w A v t) (hk:Ok t) (hT:Rs.Tb Kt w):
  Calls Tryz.prog 162 #[pt A.g,.int .u32 (p:Int),.string tag] w fun e w'=>e=.returned (.tuple #[Rs.hv (mK Kt v t p tag),.string (ee Kt v t p tag),.int .i64 (mJ Kt v t p tag)])∧Below w.heap.size w w':=by
 have hb:=bF w (.cells #[.int .u32 0,.int .u32 0,.int .u32 0,.int .u64 0] 173);have hg:=hb_new w;obtain⟨W0,hW0⟩:∃ W0,w.alloc (.cells #[.int .u32 0,.int .u32 0,.int .u32 0,.int .u64 0] 173)=W0:=⟨_,rfl⟩;rw[hW0] at hb hg;have HW0:Hid _:=hW0;have HB0:Hid (Below w.heap.size w W0):=hb;have HH0:Hid (HB w.heap.size Rs.zh W0):=hg;have hv0:=hv.below hb zn;have HN:Hid (∀ _:True,_):=fun _=>lk A v t W0 hv0
 have HRd:Hid (∀ _:True,_):=fun _=>Rd.oJ A.d A.b A.m t p hp W0 hv0.dev hk
 obtain⟨h1,h2⟩:=hv0.self;obtain⟨⟨c0,c1,-⟩,-⟩:=jd h1;have HOp:Hid (∀ W,Below w.heap.size w W→Calls Tryz.prog 200 #[.slice A.o v.ring.length A.cap,.string (Rd.dv t p)] W fun e w'=>e=.returned (.tuple #[Rs.hv (Rs.oH Kt v.ring (Rd.dv t p)),.string (Rs.oS Kt v.ring (Rd.dv t p)),.int .i64 (Rs.oE Kt v.ring (Rd.dv t p))])∧Below W.heap.size W w'):=fun W hW=>Rs.zm1 Kt v.ring A.o A.cap (Rd.dv t p) W (hv.self.2.1.below hW zn) (hT.below hW zn)
 have HC1:Hid (∀ W,Below w.heap.size w W→W.cell? ⟨A.g,1,none⟩=some (.slice A.o v.ring.length A.cap)):=fun W hW=>(jd (hv.below hW zn).self.1).1.2.1
 have HSy:Hid (Rd.er t p=0→∀ W,Calls Tryz.prog 199 #[.string (Rd.dv t p),.int .u32 (p:Int)] W fun e w'=>e=.returned (.bool (says (Rd.dv t p) p))∧Below W.heap.size W w'):=fun h0 W=>zm5 _ (zgp hk h0) p hp W
 have HTg:Hid (Rd.er t p=0→∀ W,Calls Tryz.prog 96 #[.string (Rd.dv t p)] W fun e w'=>e=.returned (.string (Rs.cW (Rd.dv t p)))∧w'=W):=fun h0 W=>Rs.tg _ (by rw[zgp hk h0];decide) W
 have HE:Hid (mJ Kt v t p tag=if Rd.er t p=0 then(if eQ t p tag=true then Rs.oE Kt v.ring (Rd.dv t p) else 61) else Rd.er t p):=rfl;have HH:Hid (mK Kt v t p tag=if Rd.er t p=0∧eQ t p tag=true then Rs.oH Kt v.ring (Rd.dv t p) else Rs.zh):=rfl;have HS:Hid (ee Kt v t p tag=if Rd.er t p=0∧eQ t p tag=true then Rs.oS Kt v.ring (Rd.dv t p) else⟨#[]⟩):=rfl;have HM:Hid (eQ t p tag=(decide (Rs.cW (Rd.dv t p)=tag)&&says (Rd.dv t p) p)):=rfl;have m0:=hlt hg;have lg:A.g<W0.heap.size:=hv0.lt.1;have lgw:A.g<w.heap.size:=hv.lt.1;clear hb hg hW0 hv hv0 hk hT h1 h2 hp c1;generalize mJ Kt v t p tag=OE at*
 generalize mK Kt v t p tag=OH at*
 generalize ee Kt v t p tag=OS at*
 generalize eQ t p tag=MM at*
 generalize Rd.er t p=RE at*
 generalize Rs.oE Kt v.ring (Rd.dv t p)=XE at*
 generalize Rs.oH Kt v.ring (Rd.dv t p)=XH at*
 generalize Rs.oS Kt v.ring (Rd.dv t p)=XS at*
 generalize says (Rd.dv t p) p=SY at*
 generalize Rs.cW (Rd.dv t p)=TG at*
 generalize Rd.dv t p=RV at*
 go_enter Tryz.func162,Tryz.ntmps162
 go_wp2_with (first|(rw[HW0.o];clear HW0))
 refine Calls.mono (HN.o trivial) ?_;rintro e w1 ⟨rfl,hw1⟩;have hw1':=hw1.symm;clear hw1 HN;subst hw1';go_wp2_with fail;refine Calls.mono (HRd.o trivial) ?_;rintro e w2 ⟨rfl,b2⟩;have HB2:Hid (Below w.heap.size w w2):=HB0.o.trans (b2.mono HB0.o.size);have HH2:Hid (HB w.heap.size Rs.zh w2):=HH0.o.grow b2;clear b2 HRd HB0 HH0 c0;by_cases hE:RE=0
 ·subst hE
  have HTg2:Hid _:=HTg.o rfl;have HSy2:Hid _:=HSy.o rfl;clear HTg HSy;go_wp2_with fail;refine Calls.mono (HTg2.o _) ?_;rintro e w3 ⟨rfl,hw3⟩;have hw3':=hw3.symm;clear hw3 HTg2;subst hw3';by_cases hg:TG=tag
  ·subst hg
   have q1:(TG.toList==TG.toList)=true:=beq_self_eq_true _;have q2:(TG.toList !=TG.toList)=false:=by simp
   rw[decide_eq_true rfl,Bool.true_and] at HM;go_wp2_with fail;refine Calls.mono (HSy2.o _) ?_;rintro e w4 ⟨rfl,b4⟩;have HB4:Hid (Below w.heap.size w w4):=HB2.o.trans (b4.mono HB2.o.size);have HH4:Hid (HB w.heap.size Rs.zh w4):=HH2.o.grow b4;clear b4 HSy2 HB2 HH2;cases SY with
   |true=>
    have hm:MM=true:=HM.o;subst hm;have HE2:Hid (OE=XE):=(by have:=HE.o;simpa using this:OE=XE);have HH5:Hid (OH=XH):=(by have:=HH.o;simpa using this:OH=XH);have HS5:Hid (OS=XS):=(by have:=HS.o;simpa using this:OS=XS);have c1:=HC1.o w4 HB4.o;have lg4:A.g<w4.heap.size:=Nat.lt_of_lt_of_le lgw HB4.o.size;obtain⟨a,b',c,d⟩:=XH;simp only[Rs.hv] at HOp;clear HE HH HS HM;go_wp2_with fail;refine Calls.mono (HOp.o _ HB4.o) ?_;rintro e w5 ⟨rfl,b5⟩;have HB5:Hid (Below w.heap.size w w5):=HB4.o.trans (b5.mono HB4.o.size);have HH6:Hid (HB w.heap.size Rs.zh w5):=HH4.o.grow b5;have Z5:Hid (w5.heap[w.heap.size]? =some (.cells #[.int .u32 0,.int .u32 0,.int .u32 0,.int .u64 0] 173 (0,0))):=HH6.o;clear b5 HOp HB4 HH4 HH6 c1
    go_wp2_with (refine wpList_store_row rfl 173 _ _ rfl w.heap.size _ rfl rfl 173 _ Z5.o uk rfl (by simp[Value.oneCell']) ?_)
    refine bodyPost_ret (Rs.jt rfl _ _ w.heap.size (a,b',c,d) rfl (setRow_heap _ _ _ _ _ _ Z5.o)) rfl ?_;exact⟨by rw[HE2.o,HH5.o,HS5.o];rfl,below_setRow HB5.o zn _⟩
   |false=>
    have hm:MM=false:=HM.o;subst hm;have HE2:Hid (OE=61):=(by have:=HE.o;simpa using this:OE=61);have HH5:Hid (OH=Rs.zh):=(by have:=HH.o;simpa using this:OH=Rs.zh);have HS5:Hid (OS=⟨#[]⟩):=(by have:=HS.o;simpa using this:OS=⟨#[]⟩);have Z4:Hid (w4.heap[w.heap.size]? =some (.cells #[.int .u32 0,.int .u32 0,.int .u32 0,.int .u64 0] 173 (0,0))):=HH4.o;clear HE HH HS HM HOp
    go_wp2_with (refine wpList_store_row rfl 173 _ _ rfl w.heap.size _ rfl rfl 173 _ Z4.o uk rfl (by simp[Value.oneCell']) ?_)
    refine bodyPost_ret (Rs.jt rfl _ _ w.heap.size Rs.zh rfl (setRow_heap _ _ _ _ _ _ Z4.o)) rfl ?_;exact⟨by rw[HE2.o,HH5.o,HS5.o];rfl,below_setRow HB4.o zn _⟩
  ·have q1:(TG.toList==tag.toList)=false:=by rw[Rk.nM];exact decide_eq_false hg
   have q2:(TG.toList !=tag.toList)=true:=by rw[bne,q1];rfl
   have hm:MM=false:=by rw[HM.o,decide_eq_false hg];rfl
   subst hm;have HE2:Hid (OE=61):=(by have:=HE.o;simpa using this:OE=61);have HH5:Hid (OH=Rs.zh):=(by have:=HH.o;simpa using this:OH=Rs.zh);have HS5:Hid (OS=⟨#[]⟩):=(by have:=HS.o;simpa using this:OS=⟨#[]⟩);have Z2:Hid (w2.heap[w.heap.size]? =some (.cells #[.int .u32 0,.int .u32 0,.int .u32 0,.int .u64 0] 173 (0,0))):=HH2.o;clear HE HH HS HM HOp HSy2 hg
   go_wp2_with (refine wpList_store_row rfl 173 _ _ rfl w.heap.size _ rfl rfl 173 _ Z2.o uk rfl (by simp[Value.oneCell']) ?_)
   refine bodyPost_ret (Rs.jt rfl _ _ w.heap.size Rs.zh rfl (setRow_heap _ _ _ _ _ _ Z2.o)) rfl ?_;exact⟨by rw[HE2.o,HH5.o,HS5.o];rfl,below_setRow HB2.o zn _⟩
 ·have hE1:decide (RE=0)=false:=decide_eq_false hE
  have hE2:(RE==0)=false:=by simpa using hE
  have hE3:(RE !=0)=true:=by simpa using hE
  have HE2:Hid (OE=RE):=HE.o.trans (if_neg hE);have HH5:Hid (OH=Rs.zh):=HH.o.trans (if_neg fun h=>hE h.1);have HS5:Hid (OS=⟨#[]⟩):=HS.o.trans (if_neg fun h=>hE h.1);have Z2:Hid (w2.heap[w.heap.size]? =some (.cells #[.int .u32 0,.int .u32 0,.int .u32 0,.int .u64 0] 173 (0,0))):=HH2.o;clear HE HH HS HM HOp HSy HTg hE
  go_wp2_with (refine wpList_store_row rfl 173 _ _ rfl w.heap.size _ rfl rfl 173 _ Z2.o uk rfl (by simp[Value.oneCell']) ?_)
  refine bodyPost_ret (Rs.jt rfl _ _ w.heap.size Rs.zh rfl (setRow_heap _ _ _ _ _ _ Z2.o)) rfl ?_;exact⟨by rw[HE2.o,HH5.o,HS5.o];rfl,below_setRow HB2.o zn _⟩
def eP (Kt:Nat→Int) (v:Vs) (t:St) (p:Nat) (tag:ByteArray):Int:=if br p tag=true then mJ Kt v t p tag else 2
def oA (Kt:Nat→Int) (v:Vs) (t:St) (p:Nat) (tag:ByteArray):Rs.Hd:=if br p tag=true then mK Kt v t p tag else Rs.zh
def lH (Kt:Nat→Int) (v:Vs) (t:St) (p:Nat) (tag:ByteArray):ByteArray:=if br p tag=true then ee Kt v t p tag else⟨#[]⟩
theorem zlh (Kt:Nat→Int) (A:Pl) (v:Vs) (t:St) (p:Nat) (hp:p≤4294967295) (tag:ByteArray) (w:World) (hv:bP w A v t) (hk:Ok t) (hT:Rs.Tb Kt w):
  Calls Tryz.prog 118 #[pt A.g,rf p tag] w fun e w'=>e=.returned (.tuple #[Rs.hv (oA Kt v t p tag),.string (lH Kt v t p tag),.int .i64 (eP Kt v t p tag)])∧Below w.heap.size w w':=by
 obtain⟨g1,g2,hb⟩:=Rk.fJ w (.cells #[.int .u32 (p:Int),.string tag] 49) (.cells #[.int .u32 0,.int .u32 0,.int .u32 0,.int .u64 0] 173);obtain⟨W0,hW0⟩:∃ W0,(w.alloc (.cells #[.int .u32 (p:Int),.string tag] 49)).alloc (.cells #[.int .u32 0,.int .u32 0,.int .u32 0,.int .u64 0] 173)=W0:=⟨_,rfl⟩;rw[hW0] at hb g1 g2;have HW0:Hid _:=hW0;have HB0:Hid (Below w.heap.size w W0):=hb;have HF0:Hid (FB w.heap.size (p:Int) tag W0):=g1;have HH0:Hid (HB (w.heap.size+1) Rs.zh W0):=g2;have HN:Hid (∀ _:True,_):=fun _=>lk A v t W0 (hv.below hb zn)
 have HRr:Hid (∀ W,_):=fun W=>qN p tag W
 have HOp:Hid (∀ W,Below w.heap.size w W→Calls Tryz.prog 162 #[pt A.g,.int .u32 (p:Int),.string tag] W fun e w'=>e=.returned (.tuple #[Rs.hv (mK Kt v t p tag),.string (ee Kt v t p tag),.int .i64 (mJ Kt v t p tag)])∧Below W.heap.size W w'):=fun W hW=>zlg Kt A v t p hp tag W (hv.below hW zn) hk (hT.below hW zn)
 have HE:Hid (eP Kt v t p tag=if br p tag=true then mJ Kt v t p tag else 2):=rfl;have HH:Hid (oA Kt v t p tag=if br p tag=true then mK Kt v t p tag else Rs.zh):=rfl;have HS:Hid (lH Kt v t p tag=if br p tag=true then ee Kt v t p tag else⟨#[]⟩):=rfl;obtain⟨-,-,f0,f1⟩:=HF0.o.facts;have m0:w.heap.size<W0.heap.size:=hlt g1;clear hb g1 g2 hW0 hv hk hT hp;generalize eP Kt v t p tag=OE at*
 generalize oA Kt v t p tag=OH at*
 generalize lH Kt v t p tag=OS at*
 generalize mJ Kt v t p tag=XE at*
 generalize mK Kt v t p tag=XH at*
 generalize ee Kt v t p tag=XS at*
 obtain⟨RR,hRR⟩:∃ RR,br p tag=RR:=⟨_,rfl⟩;rw[hRR] at HRr HE HH HS;obtain⟨a,b',c,d⟩:=XH;simp only[Rs.hv] at HOp;clear hRR;go_enter Tryz.func118,Tryz.ntmps118
 go_wp2_with (first|(rw[HW0.o];clear HW0))
 refine Calls.mono (HN.o trivial) ?_;rintro e w1 ⟨rfl,hw1⟩;have hw1':=hw1.symm;clear hw1 HN;subst hw1';go_wp2_with fail;refine Calls.mono (HRr.o _) ?_;rintro e w2 ⟨rfl,b2⟩;have HB2:Hid (Below w.heap.size w w2):=HB0.o.trans (b2.mono HB0.o.size);have HF2:Hid (FB w.heap.size (p:Int) tag w2):=HF0.o.grow b2;have HH2:Hid (HB (w.heap.size+1) Rs.zh w2):=HH0.o.grow b2;clear b2 HRr HB0 HF0 HH0 f0 f1 m0;cases RR with
 |true=>
  have HE2:Hid (OE=XE):=(by have:=HE.o;simpa using this:OE=XE);have HH5:Hid (OH=(a,b',c,d)):=(by have:=HH.o;simpa using this:OH=(a,b',c,d));have HS5:Hid (OS=XS):=(by have:=HS.o;simpa using this:OS=XS);obtain⟨-,-,f0,f1⟩:=HF2.o.facts;have m0:w.heap.size<w2.heap.size:=hlt HF2.o;clear HE HH HS;go_wp2_with fail;refine Calls.mono (HOp.o _ HB2.o) ?_;rintro e w3 ⟨rfl,b3⟩;have HB3:Hid (Below w.heap.size w w3):=HB2.o.trans (b3.mono HB2.o.size);have HH3:Hid (HB (w.heap.size+1) Rs.zh w3):=HH2.o.grow b3;have Z3:Hid (w3.heap[w.heap.size+1]? =some (.cells #[.int .u32 0,.int .u32 0,.int .u32 0,.int .u64 0] 173 (0,0))):=HH3.o;clear b3 HOp HB2 HH2 HH3 HF2 f0 f1 m0
  go_wp2_with (refine wpList_store_row rfl 173 _ _ rfl (w.heap.size+1) _ rfl rfl 173 _ Z3.o uk rfl (by simp[Value.oneCell']) ?_)
  refine bodyPost_ret (Rs.jt rfl _ _ (w.heap.size+1) (a,b',c,d) rfl (setRow_heap _ _ _ _ _ _ Z3.o)) rfl ?_;exact⟨by rw[HE2.o,HH5.o,HS5.o];rfl,below_setRow HB3.o (Nat.le_succ _) _⟩
 |false=>
  have HE2:Hid (OE=2):=(by have:=HE.o;simpa using this:OE=2);have HH5:Hid (OH=Rs.zh):=(by have:=HH.o;simpa using this:OH=Rs.zh);have HS5:Hid (OS=⟨#[]⟩):=(by have:=HS.o;simpa using this:OS=⟨#[]⟩);have Z2:Hid (w2.heap[w.heap.size+1]? =some (.cells #[.int .u32 0,.int .u32 0,.int .u32 0,.int .u64 0] 173 (0,0))):=HH2.o;clear HE HH HS HOp HF2 HH2
  go_wp2_with (refine wpList_store_row rfl 173 _ _ rfl (w.heap.size+1) _ rfl rfl 173 _ Z2.o uk rfl (by simp[Value.oneCell']) ?_)
  refine bodyPost_ret (Rs.jt rfl _ _ (w.heap.size+1) Rs.zh rfl (setRow_heap _ _ _ _ _ _ Z2.o)) rfl ?_;exact⟨by rw[HE2.o,HH5.o,HS5.o];rfl,below_setRow HB2.o (Nat.le_succ _) _⟩
theorem oJ (Kt:Nat→Int) (A:Pl) (v:Vs) (t:St) (p:Nat) (hp:p≤4294967295) (tag:ByteArray) (w:World) (hv:bP w A v t) (hk:Ok t) (hT:Rs.Tb Kt w):
  Calls Tryz.prog 83 #[pt A.g,rf p tag] w fun e w'=>e=.returned (.tuple #[.string (lH Kt v t p tag),.int .i64 (eP Kt v t p tag)])∧Below w.heap.size w w':=by
 have hb:=bF w (.cells #[.int .u32 (p:Int),.string tag] 49);have hg:FB w.heap.size (p:Int) tag (w.alloc (.cells #[.int .u32 (p:Int),.string tag] 49)):=zq w _;obtain⟨W0,hW0⟩:∃ W0,w.alloc (.cells #[.int .u32 (p:Int),.string tag] 49)=W0:=⟨_,rfl⟩;rw[hW0] at hb hg;have HW0:Hid _:=hW0;have HB0:Hid (Below w.heap.size w W0):=hb;have HPg:Hid (∀ _:True,_):=fun _=>zlh Kt A v t p hp tag W0 (hv.below hb zn) hk (hT.below hb zn)
 obtain⟨-,-,f0,f1⟩:=hg.facts;have m0:=hlt hg;clear hb hg hW0 hv hk hT hp;generalize eP Kt v t p tag=OE at*
 generalize oA Kt v t p tag=OH at*
 generalize lH Kt v t p tag=OS at*
 obtain⟨a,b',c,d⟩:=OH;simp only[Rs.hv] at HPg;go_enter Tryz.func83,Tryz.ntmps83
 go_wp2_with (first|(rw[HW0.o];clear HW0))
 refine Calls.mono (HPg.o trivial) ?_;rintro e w2 ⟨rfl,b2⟩;have HB2:Hid (Below w.heap.size w w2):=HB0.o.trans (b2.mono HB0.o.size);have b3:=bF w2 (.cells #[.int .u32 a,.int .u32 b',.int .u32 c,.int .u64 d] 173);have HB3:Hid (Below w.heap.size w (w2.alloc (.cells #[.int .u32 a,.int .u32 b',.int .u32 c,.int .u64 d] 173))):=HB2.o.trans (b3.mono HB2.o.size);clear b2 b3 HPg f0 f1 m0;go_wp2_with fail;go_ret2;exact⟨rfl,HB3.o⟩
def give (v:Vs) (p:Nat):Vs:={ v with tk:=cE v.tk p none,nt:=if(v.tk p).isSome=true then v.nt - 1 else v.nt }
theorem zo2 (A:Pl) (v:Vs) (t:St) (p:Nat) (w:World) (hv:bP w A v t) (hk:Ok t) (h2:2≤p) (hn:p<t.n) (ht:(v.tk p).isSome=true):
  Calls Tryz.prog 81 #[pt A.g,.int .u32 (p:Int)] w fun e w'=>e=.returned (.int .i64 0)∧bP w' A (give v p) t∧bC A.has w w':=by
 have HV:Hid (bP w A v t):=hv;have HN:Hid (∀ _:True,_):=fun _=>lk A v t w hv
 have n1:=hk.n1;have HPl:Hid (∀ _:True,_):=fun _=>zdt A v t p uo w hv hk
 rw[decide_eq_true h2,decide_eq_true hn,Bool.and_self] at HPl;have HTk:Hid (∀ _:True,_):=fun _=>ti A v t p w hv
 rw[ht] at HTk;clear hv hk h2 hn ht n1;go_enter Tryz.func81,Tryz.ntmps81;go_wp2_with fail;refine Calls.mono (HN.o trivial) ?_;rintro e w1 ⟨rfl,hw1⟩;have hw1':=hw1.symm;clear hw1 HN;subst hw1';go_wp2_with fail;refine Calls.mono (HPl.o trivial) ?_;rintro e w1 ⟨rfl,hw1⟩;have hw1':=hw1.symm;clear hw1 HPl;subst hw1';go_wp2_with fail;refine Calls.mono (HTk.o trivial) ?_;rintro e w2 ⟨rfl,b2⟩;have HV2:Hid (bP w2 A v t):=HV.o.below b2 zn;have HB2:Hid (bC A.has w w2):=bC.of_below b2;clear b2 HTk HV;obtain⟨hs2,-⟩:=HV2.o.self;obtain⟨⟨-,-,-,-,-,c5⟩,-⟩:=jd hs2;obtain⟨W3,hrun,hm3,b3,hz3⟩:=HV2.o.map.drop p 0;have hst3:=HV2.o.take_step hm3 b3;have HV3:Hid (bP W3 A (give v p) t):=hst3.1;have HB3:Hid (bC A.has w W3):=HB2.o.trans hst3.2;have lg:=HV2.o.lt.1;clear hs2 hm3 b3 hst3 HV2 HB2 hz3;go_wp2_with fail;go_ret;exact⟨rfl,HV3.o,HB3.o⟩
theorem zli (A:Pl) (v:Vs) (t:St) (w:World) (hv:bP w A v t):
  Calls Tryz.prog 35 #[pt A.g] w fun e w'=>e=.returned (.int .u64 (v.seals:Int))∧w'=w:=by
 have HN:Hid (∀ _:True,_):=fun _=>lk A v t w hv
 obtain⟨hs2,-⟩:=hv.self;obtain⟨⟨-,-,-,-,c4,-⟩,-⟩:=jd hs2;have lg:=hv.lt.1;clear hv hs2;go_enter Tryz.func35,Tryz.ntmps35;go_wp2_with fail;refine Calls.mono (HN.o trivial) ?_;rintro e w1 ⟨rfl,hw1⟩;have hw1':=hw1.symm;clear hw1 HN;subst hw1';go_wp2_with fail;go_ret;exact⟨rfl,rfl⟩
theorem gT {P:Program} {c:Array Oper} {b:List Oper} {o:Oper} {a:Act} {w:World} {Q:Exit→Act→World→Prop} (e:o.guard=none) (t u:TypeId) (s x:Operand) (g:o.op=.call { callee:=.builtin .append,args:=#[s,x],argTypes:=#[t,u] })
  {vs vx v':Value} {f:World} (i:a.eval s=vs) (j:a.eval x=vx) (d:(Builtin.append_ #[t,u] o.type #[vs,vx]).run P w=.ok v' f) (h:wpList P c Q b (a.put o.dst v') f):wpList P c Q (o::b) a w:=
 wpList_plain e fun _ k=>by
  unfold Oper.wp execOp;simp only[g,resolve,invoke,builtin,Sem.run_bind,Sem.run_pure,Result.andThen_ok,List.map_toArray,List.map_cons,List.map_nil,i,j,d];exact k _ _ h
theorem sW (a:Addr) (n c:Nat) (w:World):(binOp .eql 40 (.slice (some a) n c) (.slice none 0 0)).run Tryz.prog w=.ok (.bool false) w:=uk
theorem zgq {w:World} {base n:Nat} {o:Option Addr} {m cap:Nat} {t:TypeId} {k:Nat} {cs:List Value} (h:w.ownsRow base t k (.slice o m cap) n cs):∀ b off,o=some ⟨b,off,none⟩→base≤b:=by
 intro b off e;rcases h.2 with⟨h1,-⟩|⟨g,cap',cur,h1,h2,-⟩
 ·cases h1;cases e
 ·cases h1;cases e;exact h2
theorem zje (l:List Rk.Ky) (o:Option Addr) (cap:Nat) (w:World) (hr:Rk.Ring w o cap l) (hne:l≠[]) (hmax:l.length≤500):
  Calls Tryz.prog 110 #[.slice o l.length cap] w fun e w'=>∃ o' cap',e=.returned (.slice o' l.length cap')∧Rk.Ring w' o' cap' l∧(∀ b off,o'=some ⟨b,off,none⟩→w.heap.size≤b)∧Below w.heap.size w w':=by
 obtain⟨b,off,rfl,hb,_⟩:=hr.2.2.2 hne;have hb0:=bF w (.cells #[] 142)
 have hown:(w.alloc (.cells #[] 142)).ownsRow w.heap.size 142 2 (.slice (some ⟨w.heap.size,0,none⟩) 0 0) 0 (Rk.cellsOf []):=
  ⟨by simp[Rk.cellsOf],.inr ⟨w.heap.size,0,#[],rfl,Nat.le_refl _,zq w _,Nat.le_refl _,by decide,rfl,rfl⟩⟩
 obtain⟨v',W',hrun,a1,a2⟩:=Rk.zeH (w.alloc (.cells #[] 142)) w.heap.size 0 (.slice (some ⟨w.heap.size,0,none⟩) 0 0) (some ⟨b,off,none⟩) cap [] l hown us (hr.below hb0 zn) (by simp;omega);obtain⟨hn,o',cap',rfl,hring⟩:=Rk.sL a1;simp only[List.nil_append] at hring hrun;have HB:Hid (Below w.heap.size w W'):=hb0.grown a2 us fun k ek=>by simp[Value.ownBlock] at ek;omega
 have HF:Hid (∀ b off,o'=some ⟨b,off,none⟩→w.heap.size≤b):=zgq a1;have HR:Hid (Rk.Ring W' o' cap' l):=hring;have hnn:=fun w=>sW ⟨b,off,none⟩ l.length cap w
 clear a1 a2 hown hb0 hr hring hn;go_enter Tryz.func110,Tryz.ntmps110
 go_wp2_with (refine gT rfl 40 40 (.tmp 5) (.tmp 6) rfl rfl rfl hrun ?_)
 go_ret;exact⟨o',cap',rfl,HR.o,HF.o,HB.o⟩
theorem nB {l:List Rk.Ky} {g:Int} (h:Rk.cq l g=0):l≠[]∧l.length≤16:=by
 obtain⟨h1,h2,-⟩:=Rs.qp l g h;refine⟨fun e=>?_,((Rk.nh l).1 h1).1⟩;subst e;cases h2
def turn (v:Vs) (l:List Rk.Ky) (g:Int):Vs:={ v with ring:=l,gen:=g }
def Pl.at' (A:Pl) (o:Option Addr) (cap:Nat):Pl:={ A with o:=o,cap:=cap }
theorem bP.turned {w:World} {A:Pl} {v:Vs} {t:St} (h:bP w A v t) (l:List Rk.Ky) (g:Int) (o:Option Addr) (cap:Nat) (hr:Rk.Ring w o cap l) (hn:∀ b off,o=some ⟨b,off,none⟩→l≠[]→¬A.has b):
  bP ((w.setCell ⟨A.g,1,none⟩ (.slice o l.length cap)).setCell ⟨A.g,2,none⟩ (.int .u32 g)) (A.at' o cap) (turn v l g) t∧bC (fun k=>k=A.g) w ((w.setCell ⟨A.g,1,none⟩ (.slice o l.length cap)).setCell ⟨A.g,2,none⟩ (.int .u32 g)):=by
 have hb:bC (fun k=>k=A.g) w ((w.setCell ⟨A.g,1,none⟩ (.slice o l.length cap)).setCell ⟨A.g,2,none⟩ (.int .u32 g)):=(bC.set (S:=fun k=>k=A.g) w A.g 1 (.slice o l.length cap) rfl).trans (bC.set (S:=fun k=>k=A.g) _ A.g 2 (.int .u32 g) rfl)
 have ho:∀ k,k≠A.g→((w.setCell ⟨A.g,1,none⟩ (.slice o l.length cap)).setCell ⟨A.g,2,none⟩ (.int .u32 g)).heap[k]? =w.heap[k]? :=fun k hk=>by
  rw[Below.heap_setCell _ _ _ _ (by exact hk),Below.heap_setCell _ _ _ _ (by exact hk)]
 have hr':Rg w (A.at' o cap) (turn v l g):=⟨hr,hn⟩;refine⟨⟨⟨?_,hr'.same hb.size (fun k hk hn=>hb.block k hk fun e=>hn (.inl e))⟩,h.map.same (ho _ fun e=>h.gt e.symm),h.dev.same (ho _ fun e=>h.gd (.inl e.symm)) (ho _ fun e=>h.gd (.inr (.inl e.symm))) (ho _ fun e=>h.gd (.inr (.inr e.symm))),h.gt,h.gd,h.td,h.no1,h.no2⟩,hb⟩;exact Rd.gu _ A.g 2 _ _ _ _ (Rd.gu w A.g 1 _ _ _ _ h.self.1)
theorem zo3 (A:Pl) (v:Vs) (t:St) (l:List Rk.Ky) (g:Int) (o:Option Addr) (cap:Nat) (w:World) (hv:bP w A v t) (hr:Rk.Ring w o cap l) (h0:Rk.cq l g=0):
  Calls Tryz.prog 75 #[pt A.g,.slice o l.length cap,.int .u32 g] w fun e w'=>e=.returned (.int .i64 0)∧∃ o' cap',bP w' (A.at' o' cap') (turn v l g) t∧bC (fun k=>k=A.g) w w':=by
 have HV:Hid (bP w A v t):=hv;have HR:Hid (Rk.Ring w o cap l):=hr;have HN:Hid (∀ _:True,_):=fun _=>lk A v t w hv
 have HF:Hid (∀ _:True,_):=fun _=>Rk.sJ l g o cap w hr
 rw[h0] at HF;have HC:Hid (∀ W,Rk.Ring W o cap l→_):=fun W hW=>zje l o cap W hW (nB h0).1 (by have:=(nB h0).2;omega)
 obtain⟨⟨ka,kb⟩,hkk⟩:∃ k,Rk.dI l g=k:=⟨_,rfl⟩;rw[hkk] at HF;simp only[Rk.kv] at HF;have HLT:Hid (∀ k,A.has k→k<w.heap.size):=fun k hk=>hv.has_lt hk
 clear hv hr h0 hkk;go_enter Tryz.func75,Tryz.ntmps75;go_wp2_with fail;refine Calls.mono (HN.o trivial) ?_;rintro e w1 ⟨rfl,hw1⟩;have hw1':=hw1.symm;clear hw1 HN;subst hw1';go_wp2_with fail;refine Calls.mono (HF.o trivial) ?_;rintro e w2 ⟨rfl,b2⟩;have b3:=bF w2 (.cells #[.int .u32 ka,.string kb] 142);obtain⟨W3,hW3⟩:∃ W3,w2.alloc (.cells #[.int .u32 ka,.string kb] 142)=W3:=⟨_,rfl⟩;rw[hW3] at b3;have HW3:Hid _:=hW3;have HB3:Hid (Below w.heap.size w W3):=b2.trans (b3.mono b2.size);clear b2 b3 HF hW3
 go_wp2_with (first|(rw[HW3.o];clear HW3))
 refine Calls.mono (HC.o _ (HR.o.below HB3.o zn)) ?_;rintro e w4 ⟨o4,cap4,rfl,hr4,hf4,b4⟩;have HB4:Hid (Below w.heap.size w w4):=HB3.o.trans (b4.mono HB3.o.size);have hv4:=HV.o.below HB4.o zn;have hst:=hv4.turned l g o4 cap4 hr4 (fun b off e hl hh=>by have h1:=hf4 b off e;have h2:=HLT.o b hh;have:=HB3.o.size;omega);obtain⟨c6,cf6⟩:=jd hv4.self.1;have z1:=cf6 1;have z2:(w4.setCell ⟨A.g,1,none⟩ (.slice o4 l.length cap4)).frozen? ⟨A.g,2,none⟩=false:=frozen_of_row _ _ _ _ _ (Rd.gu w4 A.g 1 _ _ _ (.slice o4 l.length cap4) hv4.self.1);have d2:(w4.setCell ⟨A.g,1,none⟩ (.slice o4 l.length cap4)).cell? ⟨A.g,2,none⟩=some (.int .u32 v.gen):=by rw[zr (Rd.gu w4 A.g 1 _ _ _ (.slice o4 l.length cap4) hv4.self.1)];rfl
 have d1:=c6.2.1;have lg:=hv4.lt.1;obtain⟨W5,hW5⟩:∃ W5,(w4.setCell ⟨A.g,1,none⟩ (.slice o4 l.length cap4)).setCell ⟨A.g,2,none⟩ (.int .u32 g)=W5:=⟨_,rfl⟩;rw[hW5] at hst;have HW5:Hid _:=hW5;have HV5:Hid (bP W5 (A.at' o4 cap4) (turn v l g) t∧bC (fun k=>k=A.g) w W5):=⟨hst.1,zgo HB4.o hst.2⟩;clear hW5 hst hv4 hr4 hf4 b4 c6 cf6 HC HB3 HV HR
 go_wp2_with (first|(rw[HW5.o];clear HW5))
 go_ret;exact⟨rfl,o4,cap4,HV5.o.1,HV5.o.2⟩
def nC (v:Vs):Nat→Vs
 |0=>v
 |k+1=>take (nC v k) k
def ll (boot:Int):Vs:=⟨[],0,boot,0,fun _=>none,0⟩
def df (l:List Rk.Ky) (g boot:Int):Vs:=nC (turn (ll boot) l g) 2
theorem zo4 (l:List Rk.Ky) (g boot:Int):(df l g boot).ring=l∧(df l g boot).gen=g∧(df l g boot).boot=boot∧(df l g boot).seals=0∧(df l g boot).nt=2∧(∀ p,((df l g boot).tk p).isSome=decide (p<2)):=by
 refine⟨rfl,rfl,rfl,rfl,rfl,fun p=>?_⟩;simp only[df,nC,take,turn,ll,cE];by_cases h1:p=1
 ·subst h1;rfl
 ·by_cases h0:p=0
  ·subst h0;rfl
  ·rw[if_neg h1,if_neg h0,decide_eq_false uo];rfl
theorem zo5 (Kt:Nat→Int) (d b m:Nat) (t:St) (l:List Rk.Ky) (g boot:Int) (o:Option Addr) (cap:Nat) (w:World) (hd:dT w d b m t) (hn1:¬Dv d b m 3) (hn2:¬Dv d b m 2) (hT:Rs.Tb Kt w) (hr:Rk.Ring w o cap l) (h0:Rk.cq l g=0):
  Calls Tryz.prog 42 #[pt d,.slice o l.length cap,.int .u32 g,.int .u32 boot] w fun e w'=>∃ A:Pl,e=.returned (.tuple #[pt A.g,.int .i64 0])∧bP w' A (df l g boot) t∧(A.d=d∧A.b=b∧A.m=m)∧w.heap.size≤A.g∧w.heap.size≤A.tm∧Below w.heap.size w w':=by
 have ld:=hd.lt;have ht1:3<w.heap.size:=by obtain⟨⟨_,_,h⟩,_⟩:=hT;exact hlt h
 have ht2:2<w.heap.size:=by obtain⟨_,_,_,h⟩:=hT;exact hlt h
 have b1:=bF w (.map #[] 0);have hm1:=Tk.made w;have s1:(w.alloc (.map #[] 0)).heap.size=w.heap.size+1:=by simp
 have b2:=bF (w.alloc (.map #[] 0)) (.cells #[pt d,.slice none 0 0,.int .u32 0,.int .u32 boot,.int .u64 0,.map (some w.heap.size)] 113);have g2:=zq (w.alloc (.map #[] 0)) (.cells #[pt d,.slice none 0 0,.int .u32 0,.int .u32 boot,.int .u64 0,.map (some w.heap.size)] 113);obtain⟨W0,hW0⟩:∃ W0,(w.alloc (.map #[] 0)).alloc (.cells #[pt d,.slice none 0 0,.int .u32 0,.int .u32 boot,.int .u64 0,.map (some w.heap.size)] 113)=W0:=⟨_,rfl⟩;rw[hW0] at b2 g2;rw[s1] at g2;have HW0:Hid _:=hW0;have hb:Below w.heap.size w W0:=b1.trans (b2.mono b1.size);have HB0:Hid (Below w.heap.size w W0):=hb
 have hv0:bP W0 ⟨w.heap.size+1,w.heap.size,d,b,m,none,0⟩ (ll boot) t:=by
  refine⟨⟨g2,Rk.zmE W0,fun b off e=>by cases e⟩,hm1.same (b2.block _ uo),hd.below hb zn,by simp,?_,?_,?_,?_⟩
  ·rintro(e|e|e)<;>(simp only at e;omega)
  ·rintro(e|e|e)<;>(simp only at e;omega)
  ·rintro(e|e|e)
   ·simp only at e;omega
   ·simp only at e;omega
   ·exact hn1 e
  ·rintro(e|e|e)
   ·simp only at e;omega
   ·simp only at e;omega
   ·exact hn2 e
 have HTn:Hid (∀ _:True,_):=fun _=>zo3 ⟨w.heap.size+1,w.heap.size,d,b,m,none,0⟩ (ll boot) t l g o cap W0 hv0 (hr.below hb zn) h0
 have HLg:Hid (∀ o' cap' W V,bP W (Pl.at' ⟨w.heap.size+1,w.heap.size,d,b,m,none,0⟩ o' cap') V t→V6 (w.heap.size+1) (pt d) (.slice o' V.ring.length cap') (.int .u32 V.gen) (.int .u32 V.boot) (.int .u64 (V.seals:Int)) (.map (some w.heap.size)) W∧w.heap.size+1<W.heap.size):=fun o' cap' W V h=>⟨qr h.self.1,h.lt.1⟩
 obtain⟨PST,hPST⟩:∃ PST:Ending→World→Prop,(fun e w'=>∃ A:Pl,e=.returned (.tuple #[pt A.g,.int .i64 0])∧bP w' A (df l g boot) t∧(A.d=d∧A.b=b∧A.m=m)∧w.heap.size≤A.g∧w.heap.size≤A.tm∧Below w.heap.size w w')=PST:=⟨_,rfl⟩;rw[hPST];have HPS:Hid (∀ o' cap' w',bP w' (Pl.at' ⟨w.heap.size+1,w.heap.size,d,b,m,none,0⟩ o' cap') (nC (turn (ll boot) l g) 2) t→Below w.heap.size w w'→PST (.returned (.tuple #[pt (w.heap.size+1),.int .i64 0])) w'):=fun o' cap' w' h1 h2=>by rw[←hPST];exact⟨_,rfl,h1,⟨rfl,rfl,rfl⟩,by simp[Pl.at'],by simp[Pl.at'],h2⟩
 clear hd hn1 hn2 hT hr h0 ht1 ht2 b1 hm1 s1 b2 g2 hW0 hb hv0 hPST ld;have hmm:(Instr.makeMap 111 none).run Tryz.prog w=.ok (.map (some w.heap.size)) (w.alloc (.map #[] 0)):=rfl;go_enter Tryz.func42,Tryz.ntmps42
 go_wp2_with (first|(rw[HW0.o];clear HW0))
 refine Calls.mono (HTn.o trivial) ?_;rintro e w1 ⟨rfl,o1,cap1,hv1,b1⟩;have HB1:Hid (Below w.heap.size w w1):=HB0.o.trans (b1.below (fun k hk=>by have hk':k=w.heap.size+1:=hk;omega) HB0.o.size);have HV1:Hid (bP w1 (Pl.at' ⟨w.heap.size+1,w.heap.size,d,b,m,none,0⟩ o1 cap1) (turn (ll boot) l g) t):=hv1;clear hv1 b1 HTn;go_wp2_with fail
 go_loopw [27] (fun iv wr=>∃ k:Nat,k≤2∧iv=.int .u32 (k:Int)∧bP wr (Pl.at' ⟨w.heap.size+1,w.heap.size,d,b,m,none,0⟩ o1 cap1) (nC (turn (ll boot) l g) k) t∧Below w.heap.size w wr) (fun iv _=>2 - bu iv)
 case atStart=>exact⟨0,by omega,rfl,HV1.o,HB1.o⟩
 case round=>
  obtain⟨k,hk,rfl,hvk,hbk⟩:=hrel;have HVk:Hid (bP wr (Pl.at' ⟨w.heap.size+1,w.heap.size,d,b,m,none,0⟩ o1 cap1) (nC (turn (ll boot) l g) k) t):=hvk;have HBk:Hid (Below w.heap.size w wr):=hbk;by_cases hk2:k<2
  ·have q1:(k:Int)<2:=uo
   obtain⟨W4,hrun0,hm4,b4,hz4⟩:=hvk.map.update k ();have hrun:(Instr.mapUpdate 111 (.map (some w.heap.size)) (.int .u32 (k:Int)) (.agg #[])).run Tryz.prog wr=.ok () W4:=hrun0;have hst4:=hvk.take_step hm4 b4;have HV4:Hid (bP W4 (Pl.at' ⟨w.heap.size+1,w.heap.size,d,b,m,none,0⟩ o1 cap1) (nC (turn (ll boot) l g) (k+1)) t):=hst4.1;have HB4:Hid (Below w.heap.size w W4):=hbk.trans (b4.below (fun j hj=>by have hj':j=w.heap.size:=hj;omega) hbk.size);obtain⟨⟨-,-,-,-,-,c5⟩,lg⟩:=HLg.o _ _ _ _ hvk;clear hvk hbk hm4 b4 hst4 hz4 hrun0;go_wp2_with fail
   go_roundw
   case rel=>exact⟨k+1,by omega,by go_num,HV4.o,HB4.o⟩
   case measure=>simp[bu];omega
  ·obtain rfl:k=2:=uo
   have q1:¬(((2:Nat):Int)<2):=uo
   clear hvk hbk;go_wp2_with fail;exact HPS.o _ _ _ HVk.o HBk.o
def fE:Nat→List Rk.Ky
 |0=>[]
 |i+1=>fE i++[(((i+1:Nat):Int),Rk.mt ((65+i:Nat):Int))]
theorem tl (n:Nat):(fE n).length=n:=by induction n with|zero=>rfl|succ n ih=>simp[fE,ih]
theorem zgw {w w':World} {base n:Nat} {v:Value} {t:TypeId} {k:Nat} {cs:List Value} (h:w.ownsRow base t k v n cs) (hb:Below w.heap.size w w'):w'.ownsRow base t k v n cs:=by
 refine⟨h.1,?_⟩;rcases h.2 with⟨h1,h2⟩|⟨g,cap',cur,h1,h2,h3,h4⟩
 ·exact .inl ⟨h1,h2⟩
 ·exact .inr ⟨g,cap',cur,h1,h2,(hb.block _ (hlt h3)).trans h3,h4⟩
theorem zm9 (n:Nat) (hn:n≤8) (w:World):
  Calls Tryz.prog 43 #[.int .i64 (n:Int)] w fun e w'=>∃ o cap,e=.returned (.slice o n cap)∧Rk.Ring w' o cap (fE n)∧(∀ b off,o=some ⟨b,off,none⟩→w.heap.size≤b)∧Below w.heap.size w w':=by
 obtain⟨i0,hi,hz0,hz1,hz2⟩:=info_parts Rk.info5;go_enter Tryz.func43,Tryz.ntmps43;go_wp2_with fail
 go_loopw [3,4] (fun lv iv wr=>∃ i:Nat,i≤n∧iv=.int .i64 ((i:Int)+1)∧wr.ownsRow w.heap.size 142 2 lv i (Rk.cellsOf (fE i))∧Below w.heap.size w wr) (fun _ iv _=>n+1 - bu iv)
 case atStart=>exact⟨0,by omega,rfl,World.ownsRow_nil _ _ _ _,Below.refl _ _⟩
 case round=>
  obtain⟨i,hin,rfl,ho,hb⟩:=hrel;have HO:Hid (wr.ownsRow w.heap.size 142 2 u3 i (Rk.cellsOf (fE i))):=ho;have HB:Hid (Below w.heap.size w wr):=hb;obtain⟨W1,rfl⟩:∃ W1,W1=wr:=⟨_,rfl⟩;obtain⟨LV,rfl⟩:∃ LV,LV=u3:=⟨_,rfl⟩;have ls1:=hb.size;by_cases hlt':i<n
  ·have g0:(i:Int)+1≤(n:Int):=uo
   obtain⟨c,hc⟩:∃ c,64+((i:Int)+1)=c:=⟨_,rfl⟩;have k1:IntKind.i64.wrap (64+((i:Int)+1))=c:=by rw[hc];exact IntWalk.i64_in _ ⟨by omega,by omega⟩
   have k2:IntKind.u8.wrap c=c:=IntWalk.u8_in _ ⟨by omega,by omega⟩;have k3:IntKind.u32.wrap ((i:Int)+1)=(i:Int)+1:=IntWalk.u32_in _ ⟨by omega,by omega⟩;have k4:(i:Int)+1+1≤9223372036854775807:=uo
   have HCC:Hid (((65+i:Nat):Int)=c):=(by omega:((65+i:Nat):Int)=c);clear ho hb;go_wp2_with fail
   go_loopw [5,6] (fun v j wi=>∃ k:Nat,k≤32∧j=.int .i64 (k:Int)∧wi.ownsRow W1.heap.size 5 1 v k ((List.replicate k c).map (Value.int .u8))∧Below W1.heap.size W1 wi) (fun _ j _=>32 - bu j)
   case atStart=>exact⟨0,by omega,rfl,World.ownsRow_nil _ _ _ _,Below.refl _ _⟩
   case round=>
    obtain⟨k,hk,rfl,ho5,hb5⟩:=hrel;have HB5:Hid (Below W1.heap.size W1 wr):=hb5;have ls5:=hb5.size;by_cases hlk:k<32
    ·have q0:(k:Int)<32:=uo
     have q1:(0:Int)≤(k:Int):=uo
     obtain⟨v',w',hr5,hown5,hgrow5,hn5,hat5⟩:=run_append_own_at (P:=Tryz.prog) (wr.alloc (.cells #[.int .u8 c] 5)) W1.heap.size 140 140 5 i0 (.int .u8 0) 1 1 Tryz.underlying140 hi hz0 hz1 hz2 rfl ud u5 k _ (ho5.alloc _) ⟨wr.heap.size,0,none⟩ 1 1 [.int .u8 c] rfl (Rk.kE _ _ _) (fun u hu=>by simp at hu;subst hu;rfl) (by simp only[maxLen];omega) uo (by simp;omega);have hne:∀ j,u5.ownBlock=some j→W1.heap.size≤j:=fun j e=>(ho5.lt j e).1
     have HO5:Hid (w'.ownsRow W1.heap.size 5 1 v' (k+1) ((List.replicate (k+1) c).map (Value.int .u8))):=by
      refine(?_:w'.ownsRow _ _ _ _ _ _);rw[List.replicate_succ',List.map_append];exact hown5
     have B5:Hid (Below W1.heap.size W1 w'):=(hb5.trans ((bF wr _).mono uo)).grown hgrow5 (by simp;omega) (fun j e=>hne j e);clear ho5 hb5 hown5 hgrow5 hn5 hat5 hne
     go_wp2_with (at_builtin;refine gT rfl 140 140 (.tmp 16) (.tmp 20) rfl (vs:=u5) (vx:=.slice (some ⟨wr.heap.size,0,none⟩) 1 1) rfl rfl hr5 ?_)
     go_roundw
     case rel=>exact⟨k+1,by omega,by go_num,HO5.o,B5.o⟩
     case measure=>simp[bu];omega
    ·have q0:¬(k:Int)<32:=uo
     obtain rfl:k=32:=uo
     obtain⟨p,cap5,rfl⟩:∃ p cap,u5=.slice (some ⟨p,0,none⟩) 32 cap:=by
      rcases ho5.2 with⟨_,h⟩|⟨p,cap,_,rfl,_⟩
      ·omega
      ·exact⟨p,cap,rfl⟩
     have hcv:(convert 140 9 (.slice (some ⟨p,0,none⟩) 32 cap5)).run Tryz.prog wr=.ok (.string (Rk.mt c)) wr:=by
      refine run_convert_bytes_arg wr 140 5 Tryz.underlying140 Tryz.underlying5 p 0 32 cap5 (List.replicate 32 c) us (fun i hi=>?_) 9 Tryz.underlying9;rw[Nat.zero_add];refine Rk.oY ho5 ?_;exact Rk.zoA _ c 32 i hi
     have b6:=bF wr (.cells #[.int .u32 ((i:Int)+1),.string (Rk.mt c)] 142);have hg6:=zq wr (.cells #[.int .u32 ((i:Int)+1),.string (Rk.mt c)] 142);have ho6:=zgw (zgw HO.o hb5) b6;obtain⟨v7,W7,hrun7,a1,a2⟩:=Rk.zeH (wr.alloc (.cells #[.int .u32 ((i:Int)+1),.string (Rk.mt c)] 142)) w.heap.size i LV (some ⟨wr.heap.size,0,none⟩) 1 (fE i) [((i:Int)+1,Rk.mt c)] ho6 (by simp;omega) (Rk.zh1 hg6) (by rw[tl];simp;omega)
     have HO7:Hid (W7.ownsRow w.heap.size 142 2 v7 (i+1) (Rk.cellsOf (fE (i+1)))):=by
      refine(?_:W7.ownsRow _ _ _ _ _ _)
      have e:fE (i+1)=fE i++[((i:Int)+1,Rk.mt c)]:=by
       show fE i++[_]=_;rw[HCC.o];rfl
      rw[e];exact a1
     have HB7:Hid (Below w.heap.size w W7):=(HB.o.trans ((hb5.trans (b6.mono ls5)).mono ls1)).grown a2 (by simp;omega) (fun j e=>(ho6.lt j e).1);simp only[List.length_cons,List.length_nil] at hrun7;clear ho5 hb5 b6 hg6 ho6 a1 a2
     go_wp2_with (at_builtin;refine gT rfl 40 40 (.tmp 22) (.tmp 28) rfl (vs:=LV) (vx:=.slice (some ⟨wr.heap.size,0,none⟩) 1 1) rfl rfl hrun7 ?_)
     go_roundw
     case rel=>exact⟨i+1,by omega,by go_num,HO7.o,HB7.o⟩
     case measure=>simp[bu];omega
  ·obtain rfl:i=n:=uo
   have g0:¬(i:Int)+1≤(i:Int):=uo
   obtain⟨-,o,cap,rfl,hring⟩:=Rk.sL ho;rw[tl] at ho ⊢;have HR:Hid (Rk.Ring W1 o cap (fE i)):=hring;have HF:Hid (∀ b off,o=some ⟨b,off,none⟩→w.heap.size≤b):=zgq ho;clear ho hb hring HO;go_wp2_with fail;go_ret;exact⟨o,cap,rfl,HR.o,HF.o,HB.o⟩
def kT (t:St) (p:Nat):Bool:=decide (2≤p)&&decide (p<t.n)
def oB (v:Vs) (t:St) (p:Nat):Int:=if kT t p=true∧(v.tk p).isSome=false then 0 else 2
theorem zna (A:Pl) (v:Vs) (t:St) (p:Nat) (hp:p≤4294967295) (w:World) (hv:bP w A v t) (hk:Ok t):
  Calls Tryz.prog 77 #[pt A.g,.int .u32 (p:Int)] w fun e w'=>e=.returned (.int .i64 (oB v t p))∧bP w' A (if oB v t p=0 then take v p else v) t∧bC A.has w w':=by
 have HV:Hid (bP w A v t):=hv;have HN:Hid (∀ _:True,_):=fun _=>lk A v t w hv
 have HPl:Hid (∀ _:True,_):=fun _=>zdt A v t p hp w hv hk
 have HTk:Hid (∀ _:True,_):=fun _=>ti A v t p w hv
 have hpb:(decide (2≤p)&&decide (p<t.n))=kT t p:=rfl;rw[hpb] at HPl;obtain⟨E,hE⟩:∃ E,oB v t p=E:=⟨_,rfl⟩;rw[hE];unfold oB at hE;have HE:Hid ((if kT t p=true∧(v.tk p).isSome=false then(0:Int) else 2)=E):=hE;clear hv hk hE hpb;go_enter Tryz.func77,Tryz.ntmps77;go_wp2_with fail;refine Calls.mono (HN.o trivial) ?_;rintro e w1 ⟨rfl,hw1⟩;have hw1':=hw1.symm;clear hw1 HN;subst hw1';go_wp2_with fail;refine Calls.mono (HPl.o trivial) ?_;rintro e w1 ⟨rfl,hw1⟩;have hw1':=hw1.symm;clear hw1 HPl;subst hw1';cases hb:kT t p with
 |false=>
  have h2:E=2:=by rw[←HE.o,hb];simp
  subst h2;clear hb HE;go_wp2_with fail;go_ret;exact⟨rfl,HV.o,bC.refl _ _⟩
 |true=>
  cases ht:(v.tk p).isSome with
  |true=>
   have h2:E=2:=by rw[←HE.o,hb,ht];simp
   subst h2;rw[ht] at HTk;clear hb ht HE;go_wp2_with fail;refine Calls.mono (HTk.o trivial) ?_;rintro e w2 ⟨rfl,b2⟩;have HV2:Hid (bP w2 A v t):=HV.o.below b2 zn;have HB2:Hid (bC A.has w w2):=bC.of_below b2;clear b2 HTk HV;go_wp2_with fail;go_ret;exact⟨rfl,HV2.o,HB2.o⟩
  |false=>
   have h2:E=0:=by rw[←HE.o,hb,ht];simp
   subst h2;rw[ht] at HTk;clear hb ht HE;go_wp2_with fail;refine Calls.mono (HTk.o trivial) ?_;rintro e w2 ⟨rfl,b2⟩;have HV2:Hid (bP w2 A v t):=HV.o.below b2 zn;have HB2:Hid (bC A.has w w2):=bC.of_below b2;clear b2 HTk HV;obtain⟨hs2,-⟩:=HV2.o.self;obtain⟨⟨-,-,-,-,-,c5⟩,-⟩:=jd hs2;obtain⟨W3,hrun,hm3,b3,hz3⟩:=HV2.o.map.update p ();have hst3:=HV2.o.take_step hm3 b3;have HV3:Hid (bP W3 A (take v p) t):=hst3.1;have HB3:Hid (bC A.has w W3):=HB2.o.trans hst3.2;have lg:=HV2.o.lt.1;clear hs2 hm3 b3 hst3 HV2 HB2 hz3;go_wp2_with fail;go_ret;exact⟨rfl,HV3.o,HB3.o⟩
end Rv
end Go.Proofs.YtokfnghckpgjmaaGreatDoor
