/- A range over a function, left at its end, by a return or by a label; the loop variable in a block of its own. -/
import Derived.Test.YtokfnghckpgjmaaGreatDoorPPo
import Derived.Test.YtokfnghckpgjmaaGreatDoorPPk
import Derived.Test.YtokfnghckpgjmaaGreatDoorQCD
import Derived.Test.YtokfnghckpgjmaaGreatDoorQKA
set_option maxRecDepth 100000
set_option maxHeartbeats 4000000
namespace Go.Proofs.YtokfnghckpgjmaaGreatDoor
namespace Rc
open Go.RowKit
theorem fh {B l:Nat} (W:World) (o:Obj) (h:B≤l):Below B W (W.putObj l o):=
 ⟨rfl,rfl,rfl,by simp[World.putObj],fun k hk=>World.putObj_heap_other uo⟩
theorem fJ (w:World) (a b:Obj):((w.alloc a).alloc b).heap[w.heap.size]? =some a∧((w.alloc a).alloc b).heap[w.heap.size+1]? =some b∧Below w.heap.size w ((w.alloc a).alloc b):=by
 refine⟨?_,?_,((Below.refl _ w).alloc zn _).alloc us _⟩
 ·exact(Below.heap_alloc _ _ _ us).trans (zq w a)
 ·have:=zq (w.alloc a) b;simpa using this
abbrev Kq:=Rk.Kq
theorem Kq.refl (b c:Nat) (A:World):Kq b c A A:=Rk.Kq.refl b c A
theorem Kq.trans {b c:Nat} {A B C:World} (h:Kq b c A B) (k:Kq b c B C):Kq b c A C:=Rk.Kq.trans h k
theorem Kq.put (b c:Nat) (W:World) (l:Nat) (o o':Obj) (h:W.heap[l]? =some o) (hc:o.isCells=false):Kq b c W (W.putObj l o'):=Rk.Kq.put b c W l o o' h hc
theorem Kq.below {b c B:Nat} {X Y:World} (h:Below B X Y) (hB:b≤B) (hc:c<B):Kq b c X Y:=Rk.Kq.below h hB hc
theorem ni:type_of%@Rk.ni:=@Rk.ni
open Go.RowKit Go.Shelf Go.Lib
attribute [local go_sem] Oper.semAt_some ix0 ix1 ix2 ix3
def qx (X xr:Nat):Nat→Nat|0=>X|1=>xr|2=>X|_=>xr
def qy (Y yr:Nat):Nat→Nat|0=>Y|1=>Y|2=>yr|_=>yr
def zn7 (gf:Nat) (lb:Array Value) (e:Nat→Array Value) (B c:Nat) (w0:World):Prop:=
 ∀ (p:Nat) (W1:World),Kq B c w0 W1→∀ (R:Nat→World→Prop) (Rx:World→Prop),(∀ k W W',R k W→Below W1.heap.size W W'→R k W')→(∀ W W',Rx W→Below W1.heap.size W W'→Rx W')→
  (∀ k W,k<4→R k W→YieldAt Fence.wide 3 Tryz.prog p (e k) W fun e W'=>(e=.returned (.bool true)∧R (k+1) W'∧Kq B c W W')∨(e=.returned (.bool false)∧Rx W'))→R 0 W1→
  CallsIn Fence.wide 4 Tryz.prog gf (#[.func (.yield p) #[] #[]]++lb) W1 fun e W'=>(∃ v,e=.returned v)∧(R 4 W'∨Rx W')
theorem zfJ (X Y:Nat) (L:Int) (w:World):
  Calls Tryz.prog 191 #[cv X Y L] w fun e a=>e=.returned (.func (.func 226) #[] #[.pointer (some ⟨w.heap.size,0,none⟩)])∧a=w.alloc (.cells #[.int .u32 (X:Int),.int .u32 (Y:Int),.int .i64 L] 70):=by
 go_enter Tryz.func191,Tryz.ntmps191;go_wp2_with fail;go_ret;exact⟨rfl,rfl⟩
theorem zfK (X Y m b1:Nat) (L:Int) (w w0:World) (hL:L=(m:Int)+1) (hm:m≤30) (hX:X+2 ^ m<4294967296) (hY:Y+2 ^ m<4294967296) (hw:Kq w.heap.size b1 w w0) (hb1:b1<w0.heap.size)
  (h1:w0.heap[b1]? =some (.cells #[.int .u32 (X:Int),.int .u32 (Y:Int),.int .i64 L] 70 (0,0))):
  zn7 226 #[.pointer (some ⟨b1,0,none⟩)] (fun k=>#[.int .i64 (k:Int),cv (qx X (X+2 ^ m) k) (qy Y (Y+2 ^ m) k) (m:Int)]) w.heap.size b1 w0:=by
 intro p W hKq R Rx hR hRx hY' h0;have HY:Hid _:=hY';have HR:Hid _:=hR;have HRx:Hid _:=hRx;have H0:Hid (R 0 W):=h0;have HKq:Hid (Kq w.heap.size b1 w W):=hw.trans hKq;have hb1W:b1<W.heap.size:=Nat.lt_of_lt_of_le hb1 hKq.1;have HB:Hid (W.heap[b1]? =some (.cells #[.int .u32 (X:Int),.int .u32 (Y:Int),.int .i64 L] 70 (0,0))):=hKq.2 b1 _ (.inr rfl) h1 rfl;have HC:Hid _:=zgN X Y (2 ^ m) L hX hY;obtain⟨e0,e1,e2⟩:=el.cells HB.o;have l1:L - 1=(m:Int):=uo
 have l2:-9223372036854775808≤L - 1∧L - 1≤9223372036854775807:=uo
 have l3:IntKind.u32.wrap ((2:Int) ^ m)=((2 ^ m:Nat):Int):=by
  have:=Nat.two_pow_pos m;have:((2:Int) ^ m)=((2 ^ m:Nat):Int):=by simp
  rw[this,IntKind.wrap_u32'];omega
 obtain⟨s,hs⟩:∃ s,2 ^ m=s:=⟨_,rfl⟩;rw[hs] at HC HY l3 hX hY;obtain⟨xr,hxr⟩:∃ xr,X+s=xr:=⟨_,rfl⟩;obtain⟨yr,hyr⟩:∃ yr,Y+s=yr:=⟨_,rfl⟩;rw[hxr,hyr] at HC HY;clear hY' hR hRx h0 h1 hKq hw hL hX hY hs hxr hyr;refine callsIn_of_wp Tryz.func226 rfl trivial ?_ rfl;simp only[Tryz.ntmps226,eR,eS,eT,Nat.reduceAdd,Nat.reduceSub,eU,eV,eW,eX,eY,eZ];gi_wp2;have HSW:Hid (cG b1 X Y L W.drew):=el.cells HB.o;clear e0 e1 e2;refine(wpIn_wide (n:=4)).2 (wp_region_held (S:=cG b1 X Y L) uk ?_);change wpAnyH _ _ _ _ _ _ _ _ (World.drew _);refine bB [0,1,2,4] ?_
 iterate 4
  refine bS (v:=?_) rfl ?_ HSW.o ?_;rotate_left
  ·rintro w ⟨e1,e2,e3⟩;go_simp;try with_reducible rfl
  conv in(Act.put _ _ _)=>simp only[bH,bI,bJ,Act.put,bK,bL,bM]
 refine bA ?_;refine dF 3 _ uk rfl uk (fun K hK=>?_);go_simp;refine um (HC.o _) fun w1 b1'=>?_;have HSZ:Hid (W.heap.size≤w1.heap.size):=b1'.size;have HKW:Hid (Kq w.heap.size b1 W w1):=⟨b1'.size,fun j o hj ho _=>(b1'.block j (zi ho).1).trans ho⟩;have HR0:Hid (R 0 w1):=HR.o 0 W w1 H0.o ((Below.refl _ W).drew.trans b1');refine hK _ _ (HSW.o.below b1' hb1W) ?_;clear hK K b1' l1 l2 l3;refine wpAnyH_done uk ?_ _;clear HSW;gi_wp2
 gi_loopw [13] (fun i wr=>∃ k:Nat,k≤4∧i=.int .i64 (k:Int)∧R k wr∧W.heap.size≤wr.heap.size∧Kq w.heap.size b1 W wr) (fun i _=>4 - bu i)
 case atStart=>exact⟨0,by omega,rfl,HR0.o,HSZ.o,HKW.o⟩
 case round=>
  obtain⟨k,hk,rfl,hRk,hsz,hq⟩:=hrel;have HRk:Hid (R k wr):=hRk;have HS:Hid (W.heap.size≤wr.heap.size):=hsz;have HQ:Hid (Kq w.heap.size b1 W wr):=hq;clear hRk hsz hq;obtain rfl|rfl|rfl|rfl|rfl:k=0∨k=1∨k=2∨k=3∨k=4:=uo
  ·have hy0:=HY.o 0 (wr.alloc (.cells #[.int .u32 (X:Int),.int .u32 (Y:Int)] 293)) uo (HR.o _ _ _ HRk.o ((bF wr _).mono HS.o))
   obtain⟨fn,tmps,assign,body,hy,hRd⟩:=hy0;simp only[qx,qy] at hy;rw[show((0:Nat):Int)=0 from rfl] at hy;gi_wp2;refine hRd.mono ?_;rintro e W6 (⟨rfl,hR6,hk6⟩|⟨rfl,hx6⟩)
   ·gi_wp2
    go_roundw
    case rel=>exact⟨1,by omega,by go_num,hR6,Nat.le_trans HS.o (Nat.le_trans us hk6.1),HQ.o.trans ((Kq.below (bF wr _) (by have:=HKq.o.1;have:=HS.o;omega) (by have:=HS.o;omega)).trans hk6)⟩
    case measure=>simp[bu]
   ·gi_wp2
    refine bodyPost_ret (results_none rfl _ _ _) rfl ?_;exact⟨⟨_,rfl⟩,.inr hx6⟩
  ·have hy0:=HY.o 1 (wr.alloc (.cells #[.int .u32 (xr:Int),.int .u32 (Y:Int)] 293)) uo (HR.o _ _ _ HRk.o ((bF wr _).mono HS.o))
   obtain⟨fn,tmps,assign,body,hy,hRd⟩:=hy0;simp only[qx,qy] at hy;rw[show((1:Nat):Int)=1 from rfl] at hy;gi_wp2;refine hRd.mono ?_;rintro e W6 (⟨rfl,hR6,hk6⟩|⟨rfl,hx6⟩)
   ·gi_wp2
    go_roundw
    case rel=>exact⟨2,by omega,by go_num,hR6,Nat.le_trans HS.o (Nat.le_trans us hk6.1),HQ.o.trans ((Kq.below (bF wr _) (by have:=HKq.o.1;have:=HS.o;omega) (by have:=HS.o;omega)).trans hk6)⟩
    case measure=>simp[bu]
   ·gi_wp2
    refine bodyPost_ret (results_none rfl _ _ _) rfl ?_;exact⟨⟨_,rfl⟩,.inr hx6⟩
  ·have hy0:=HY.o 2 (wr.alloc (.cells #[.int .u32 (X:Int),.int .u32 (yr:Int)] 293)) uo (HR.o _ _ _ HRk.o ((bF wr _).mono HS.o))
   obtain⟨fn,tmps,assign,body,hy,hRd⟩:=hy0;simp only[qx,qy] at hy;rw[show((2:Nat):Int)=2 from rfl] at hy;gi_wp2;refine hRd.mono ?_;rintro e W6 (⟨rfl,hR6,hk6⟩|⟨rfl,hx6⟩)
   ·gi_wp2
    go_roundw
    case rel=>exact⟨3,by omega,by go_num,hR6,Nat.le_trans HS.o (Nat.le_trans us hk6.1),HQ.o.trans ((Kq.below (bF wr _) (by have:=HKq.o.1;have:=HS.o;omega) (by have:=HS.o;omega)).trans hk6)⟩
    case measure=>simp[bu]
   ·gi_wp2
    refine bodyPost_ret (results_none rfl _ _ _) rfl ?_;exact⟨⟨_,rfl⟩,.inr hx6⟩
  ·have hy0:=HY.o 3 (wr.alloc (.cells #[.int .u32 (xr:Int),.int .u32 (yr:Int)] 293)) uo (HR.o _ _ _ HRk.o ((bF wr _).mono HS.o))
   obtain⟨fn,tmps,assign,body,hy,hRd⟩:=hy0;simp only[qx,qy] at hy;rw[show((3:Nat):Int)=3 from rfl] at hy;gi_wp2;refine hRd.mono ?_;rintro e W6 (⟨rfl,hR6,hk6⟩|⟨rfl,hx6⟩)
   ·gi_wp2
    go_roundw
    case rel=>exact⟨4,by omega,by go_num,hR6,Nat.le_trans HS.o (Nat.le_trans us hk6.1),HQ.o.trans ((Kq.below (bF wr _) (by have:=HKq.o.1;have:=HS.o;omega) (by have:=HS.o;omega)).trans hk6)⟩
    case measure=>simp[bu]
   ·gi_wp2
    refine bodyPost_ret (results_none rfl _ _ _) rfl ?_;exact⟨⟨_,rfl⟩,.inr hx6⟩
  ·gi_wp2
   refine bodyPost_end (results_none rfl _ _ _) rfl ?_;exact⟨⟨_,rfl⟩,.inl HRk.o⟩
end Rc
namespace Rc
open Go.RowKit Go.Shelf Go.Lib
attribute [local go_sem] Oper.semAt_some
structure WB (w:World) (g x y:Nat) (m n:Int) (W:World):Prop where
 res:W.heap[g]? =some (.cells #[.int .u32 (x:Int),.int .u32 (y:Int),.int .i64 m] 70 (0,0))
 num:W.heap[g+1]? =some (.cells #[.int .i64 n] 3 (0,0))
 bel:Below w.heap.size w W
theorem WB.next {w:World} {g x y:Nat} {m n:Int} {W W':World} {B:Nat} (h:WB w g x y m n W) (hb:Below B W W') (hB:g+2≤B) (hg:w.heap.size≤g):WB w g x y m n W':=
 ⟨(hb.block _ uo).trans h.res,(hb.block _ uo).trans h.num,h.bel.trans (hb.mono uo)⟩
theorem zqh {X Y s k q:Nat} (hs:0<s) (hk:k<4) (hq:q<4):(qx X (X+s) k=X+s*(q%2)∧qy Y (Y+s) k=Y+s*(q/2))↔k=q:=by
 obtain rfl|rfl|rfl|rfl:k=0∨k=1∨k=2∨k=3:=uo
 all_goals obtain rfl|rfl|rfl|rfl:q=0∨q=1∨q=2∨q=3:=uo
 all_goals simp[qx,qy]
 all_goals omega
theorem zme (X Y:Nat) (L:Int) (x y:Nat) (hX:X<4294967296) (hY:Y<4294967296) (hx:x<4294967296) (hy:y<4294967296) (h:ck X Y L x y=false∨L=0) (w:World):
  CallsIn Fence.wide 5 Tryz.prog 146 #[cv X Y L,.int .u32 (x:Int),.int .u32 (y:Int)] w fun e w'=>e=.returned (.tuple #[.int .i64 0,.int .i64 2])∧Below w.heap.size w w':=by
 refine callsIn_of_wp_marks Tryz.func146 rfl trivial ?_ rfl;simp only[Tryz.ntmps146,eR,eS,eT,Nat.reduceAdd,Nat.reduceSub,eU,eV,eW,eX,eY,eZ];have HC:Hid _:=oI X Y L x y hX hY hx hy;clear hX hY hx hy;cases h1:ck X Y L x y
 ·rw[h1] at HC
  clear h h1;gi_wp2;refine(wpIn_wide (n:=5)).2 (wp_scope_straight ((wpIn_wide (n:=5)).1 ?_));gi_wp2;refine⟨trivial,callsIn_wide.2 ((HC.o _).mono ?_)⟩;rintro e w1 ⟨rfl,b1⟩;have HB1:Hid (Below w.heap.size w w1):=(bF w _).trans (b1.mono us);obtain⟨e1,e2,e3⟩:=(jy X Y L w).below b1 us;clear b1;gi_wp2;rw[Exit.noGoto_ret];exact⟨_,results_tmp2 rfl _ _ _,rfl,HB1.o⟩
 ·have hL:L=0:=by rcases h with h|h;(rw[h1] at h;cases h);exact h
  rw[h1] at HC;subst hL;clear h h1;gi_wp2;refine(wpIn_wide (n:=5)).2 (wp_scope_straight ((wpIn_wide (n:=5)).1 ?_));gi_wp2;refine⟨trivial,callsIn_wide.2 ((HC.o _).mono ?_)⟩;rintro e w1 ⟨rfl,b1⟩;have HB1:Hid (Below w.heap.size w w1):=(bF w _).trans (b1.mono us);obtain⟨e1,e2,e3⟩:=(jy X Y 0 w).below b1 us;clear b1;gi_wp2;rw[Exit.noGoto_ret];exact⟨_,results_tmp2 rfl _ _ _,rfl,HB1.o⟩
def WJ (w:World) (g x y:Nat) (m:Int) (q k:Nat) (W:World):Prop:=(∀ j:Nat,j<k→j≠q)∧WB w g x y m 0 W
theorem zmf (X Y m x y:Nat) (cl:Cl X Y (m+1)) (hx:x<4294967296) (hy:y<4294967296) (h:ck X Y ((m+1:Nat):Int) x y=true) (w:World):
  CallsIn Fence.wide 5 Tryz.prog 146 #[cv X Y ((m+1:Nat):Int),.int .u32 (x:Int),.int .u32 (y:Int)] w fun e w'=>e=.returned (.tuple #[.int .i64 (wq m x y:Int),.int .i64 0])∧Below w.heap.size w w':=by
 refine callsIn_of_wp_marks Tryz.func146 rfl trivial ?_ rfl;simp only[Tryz.ntmps146,eR,eS,eT,Nat.reduceAdd,Nat.reduceSub,eU,eV,eW,eX,eY,eZ];obtain⟨L,hL⟩:∃ L:Int,((m+1:Nat):Int)=L:=⟨_,rfl⟩;have hxe:=cl.xe;have hye:=cl.ye;have hn31:=cl.n31;rw[Nat.pow_succ] at hxe hye;have hp:=Nat.two_pow_pos m;obtain⟨f1,f2⟩:=mU h;have HA:Hid _:=pi x y m hx hy uo;rw[f1,f2] at HA;rw[hL] at h ⊢;have HC:Hid _:=oI X Y L x y uo uo hx hy;rw[h] at HC;have HI:Hid _:=fun(w' w0:World) b1=>zfK X Y m b1 L w' w0 uo uo uo uo
 have HQ:Hid (∀ k,k<4→((qx X (X+2 ^ m) k=X+2 ^ m*(wq m x y%2)∧qy Y (Y+2 ^ m) k=Y+2 ^ m*(wq m x y/2))↔k=wq m x y)):=fun k hk=>zqh hp hk (mB m x y)
 have HQ4:Hid (wq m x y<4):=mB m x y;have l0:(L==0)=false:=by simp;omega
 have l1:L - 1=(m:Int):=uo
 have l2:-9223372036854775808≤L - 1∧L - 1≤9223372036854775807:=uo
 clear h f1 f2 hL cl hxe hye hn31 hp hx hy;obtain⟨fx,hfx⟩:∃ fx,X+2 ^ m*(wq m x y%2)=fx:=⟨_,rfl⟩;obtain⟨fy,hfy⟩:∃ fy,Y+2 ^ m*(wq m x y/2)=fy:=⟨_,rfl⟩;obtain⟨xr,hxr⟩:∃ xr,X+2 ^ m=xr:=⟨_,rfl⟩;obtain⟨yr,hyr⟩:∃ yr,Y+2 ^ m=yr:=⟨_,rfl⟩;rw[hxr,hyr] at HI HQ;rw[hfx,hfy] at HA HQ;clear hxr hyr hfx hfy;generalize wq m x y=q at*
 gi_wp2;refine(wpIn_wide (n:=5)).2 (wp_scope_straight ((wpIn_wide (n:=5)).1 ?_));gi_wp2;refine⟨trivial,callsIn_wide.2 ((HC.o _).mono ?_)⟩;rintro e w1 ⟨rfl,b1⟩;have HB1:Hid (Below w.heap.size w w1):=(bF w _).trans (b1.mono us);have HE:Hid (cG w.heap.size X Y L w1):=(jy X Y L w).below b1 us;have HL:Hid (w.heap.size<w1.heap.size):=Nat.lt_of_lt_of_le us b1.size;obtain⟨e1,e2,e3⟩:=HE.o;clear b1;gi_wp2;refine⟨trivial,callsIn_wide.2 ((HA.o _).mono ?_)⟩;rintro e w2 ⟨rfl,b2⟩;have HB2:Hid (Below w.heap.size w w2):=HB1.o.trans (b2.mono (Nat.le_of_lt HL.o))
 replace HE:Hid (cG w.heap.size X Y L w2):=HE.o.below b2 HL.o
 replace HL:Hid (w.heap.size<w2.heap.size):=Nat.lt_of_lt_of_le HL.o b2.size
 clear b2 e1 e2 e3;obtain⟨e1,e2,e3⟩:=HE.o;have hl:=HL.o;gi_wp2;refine wpIn_label ?_;gi_wp2;refine⟨trivial,callsIn_wide.2 ((zfJ _ _ _ _).mono ?_)⟩;rintro e w3 ⟨rfl,rfl⟩;have h3:=fJ w2 (.cells #[.int .u32 (fx:Int),.int .u32 (fy:Int),.int .i64 (m:Int)] 70) (.cells #[.int .i64 0] 3);have s3:((w2.alloc (.cells #[.int .u32 (fx:Int),.int .u32 (fy:Int),.int .i64 (m:Int)] 70)).alloc (.cells #[.int .i64 0] 3)).heap.size=w2.heap.size+2:=by simp
 obtain⟨w4,hw4⟩:∃ w4,(w2.alloc (.cells #[.int .u32 (fx:Int),.int .u32 (fy:Int),.int .i64 (m:Int)] 70)).alloc (.cells #[.int .i64 0] 3)=w4:=⟨_,rfl⟩;rw[hw4] at h3 s3 ⊢;clear hw4 e1 e2 e3;have HW:Hid (WB w w2.heap.size fx fy (m:Int) 0 (w4.alloc (.cells #[.int .u32 (X:Int),.int .u32 (Y:Int),.int .i64 L] 70))):=WB.next ⟨h3.1,h3.2.1,HB2.o.trans (h3.2.2.mono (Nat.le_of_lt hl))⟩ (bF w4 _) uo (Nat.le_of_lt hl)
 have HG:Hid ((w4.alloc (.cells #[.int .u32 (X:Int),.int .u32 (Y:Int),.int .i64 L] 70)).heap[w2.heap.size+2]? =some (.cells #[.int .u32 (X:Int),.int .u32 (Y:Int),.int .i64 L] 70 (0,0))):=by
  rw[←s3];exact zq w4 _
 have s5:(w4.alloc (.cells #[.int .u32 (X:Int),.int .u32 (Y:Int),.int .i64 L] 70)).heap.size=w2.heap.size+3:=by simp[s3]
 rw[s3];obtain⟨w5,hw5⟩:∃ w5,w4.alloc (.cells #[.int .u32 (X:Int),.int .u32 (Y:Int),.int .i64 L] 70)=w5:=⟨_,rfl⟩;rw[hw5] at HW HG s5 ⊢;clear hw5 h3 s3 HA HC HE HB1 HB2 HL;have hlt:w.heap.size<w2.heap.size:=hl;clear hl;obtain⟨g,hg⟩:∃ g,w2.heap.size=g:=⟨_,rfl⟩;rw[hg] at HW HG s5 hlt ⊢;clear hg;have KW:Kq w.heap.size (g+2) w w5:=⟨HW.o.bel.size,fun j ob hj ho _=>(HW.o.bel.block j (by have:=(zi ho).1;omega)).trans ho⟩;gi_wp2
 refine ni rfl uo (gf:=226) (lb:=#[.pointer (some ⟨g+2,0,none⟩)]) rfl trivial (enters_of Tryz.func226 uk rfl)
  4 (fun k=>#[.int .i64 (k:Int),cv (qx X xr k) (qy Y yr k) (m:Int)]) (fun _=>rfl) (Kq w.heap.size (g+2)) Kq.trans (fun W l o o' h hc=>Kq.put _ _ W l o o' h hc)
  (fun k W=>WJ w g fx fy (m:Int) q k W) (fun W=>WB w g fx fy (m:Int) (q:Int) W) (.exit 0) (fun k W W' h hb=>?hJ) (fun W W' h hb=>?hJx) ?h0
  (fun k a' W=>∃ p,w5.heap.size+2≤p∧W.heap[p]? =some (.cells #[.int .u32 (qx X xr k:Int),.int .u32 (qy Y yr k:Int),.int .i64 (m:Int)] 70 (0,0))∧
   a'={ tmps:=#[cv X Y L,Value.int IntKind.u32 (x:Int),Value.int IntKind.u32 (y:Int),Value.pointer (some ⟨w.heap.size,0,none⟩),undef,undef,Value.int IntKind.i64 0,Value.int IntKind.i64 0,Value.pointer (some ⟨g,0,none⟩),Value.pointer (some ⟨g+1,0,none⟩),Value.int IntKind.i64 (k:Int),Value.pointer (some ⟨p,0,none⟩),Value.agg #[Value.int IntKind.u32 (X:Int),Value.int IntKind.u32 (Y:Int),Value.int IntKind.i64 L],Value.int IntKind.u32 (x:Int),Value.int IntKind.u32 (y:Int),Value.bool true,Value.bool false,Value.bool false,Value.pointer (some ⟨w.heap.size,2,none⟩),Value.int IntKind.i64 L,Value.bool false,Value.bool false,Value.int IntKind.u32 (x:Int),Value.int IntKind.u32 (y:Int),Value.pointer (some ⟨w.heap.size,2,none⟩),Value.int IntKind.i64 L,Value.int IntKind.i64 (m:Int),Value.agg #[Value.int IntKind.u32 (fx:Int),Value.int IntKind.u32 (fy:Int),Value.int IntKind.i64 (m:Int)],Value.agg #[Value.int IntKind.u32 (X:Int),Value.int IntKind.u32 (Y:Int),Value.int IntKind.i64 L],Value.func (Fn.func 226) #[] #[Value.pointer (some ⟨g+2,0,none⟩)],Value.int IntKind.i64 (k:Int),cv (qx X xr k) (qy Y yr k) (m:Int),undef,undef,undef,undef,undef],defers:=[] }) ?hA ?assign ?body ?iter ?done ?stop
 case hJ=>exact⟨h.1,h.2.next hb uo uo⟩
 case hJx=>exact h.next hb uo uo
 case h0=>exact⟨fun j hj=>by omega,HW.o⟩
 case hA=>
  rintro k a' W j o' ⟨p,hq1,hq2,rfl⟩ h1 h2;exact⟨p,hq1,(World.putObj_heap_other uo).trans hq2,rfl⟩
 case assign=>
  intro p k W K hk hJ hsz hK;clear hJ;generalize qx X xr k=x at*
  generalize qy Y yr k=y at*
  gi_wp2;exact hK _ _ (bF W _) (Kq.below (bF W _) uo uo) ⟨W.heap.size,by omega,zq W _,rfl⟩
 case iter=>
  intro p W1 hB1 hs1 R Rx hR hRx hY h0;exact HI.o w w5 (g+2) KW uo HG.o p W1 (Kq.below hB1 uo uo) R Rx hR hRx hY h0
 case body=>
  rintro p' k a' W hk hJ ⟨p,hq1,hq2,rfl⟩;have HJ:Hid (WJ w g fx fy (m:Int) q k W):=hJ;have hiff:=HQ.o k hk;obtain⟨_,_,_,c2,c3,c4⟩:=gE hq2;obtain⟨_,_,_,d0,d1,d2⟩:=gE hJ.2.res;have z3:=frozen_of_row W _ 0 _ _ hJ.2.num;have d3:W.cell? ⟨g+1,0,none⟩=some (.int .i64 0):=by rw[zr hJ.2.num];rfl
  clear hJ hq2;generalize qx X xr k=x at*
  generalize qy Y yr k=y at*
  by_cases he:k=q
  ·obtain⟨rfl,rfl⟩:=hiff.2 he
   have HE:Hid (k=q):=he;clear hiff he;gi_wp2;have g6:=iI W (g+1) 0 (.int .i64 (k:Int));have X6:=zx W (g+1) 0 _ _ (.int .i64 (k:Int)) HJ.o.2.num;refine⟨rfl,KeepsFrom.of_grownBy g6 (fun j e=>by cases e;omega),(Below.heap_setCell _ _ _ _ us).trans HJ.o.2.res,?_,HJ.o.2.bel.trans (ff g6 uo HJ.o.2.bel.size)⟩;rw[X6,←HE.o];rfl
  ·have hor:x≠fx∨(x=fx∧y≠fy):=by
    by_cases e:x=fx
    ·exact .inr ⟨e,fun e2=>he (hiff.1 ⟨e,e2⟩)⟩
    ·exact .inl e
   have HE:Hid (k≠q):=he;clear hiff he;rcases hor with q1|⟨rfl,q2⟩
   ·have q1':¬(x:Int)=(fx:Int):=uo
    gi_wp2;refine⟨KeepsFrom.refl _ _,Kq.refl _ _ _,fun j hj=>?_,HJ.o.2⟩;by_cases e:j=k
    ·subst e;exact HE.o
    ·exact HJ.o.1 j uo
   ·have q2':¬(y:Int)=(fy:Int):=uo
    gi_wp2;refine⟨KeepsFrom.refl _ _,Kq.refl _ _ _,fun j hj=>?_,HJ.o.2⟩;by_cases e:j=k
    ·subst e;exact HE.o
    ·exact HJ.o.1 j uo
 case done=>
  rintro D W hD ⟨h1,h2⟩ hdf;exact absurd rfl (h1 q HQ4.o)
 case stop=>
  rintro D W hD h2 hdf;have HD:Hid _:=hdf;have HB:Hid _:=h2;have d3:W.cell? ⟨g+1,0,none⟩=some (.int .i64 (q:Int)):=by rw[zr h2.num];rfl
  clear h2 hdf;gi_wp2;rw[Exit.noGoto_ret];refine⟨by simp,.inl ⟨_,_,rfl,run_takeDeferred HD.o,?_⟩⟩;refine⟨_,results_tmp2 rfl _ _ _,rfl,HB.o.bel.trans (fh W _ uo)⟩
end Rc
namespace Rc
open Go.RowKit Go.Lib
def iM (X Y:Nat) (L i:Int):Nat × Nat × Int × Int:=if cP X Y L=true∧L≠0∧0≤i∧i≤3 then(X+2 ^ (L - 1).toNat*(i.toNat%2),Y+2 ^ (L - 1).toNat*(i.toNat/2),L - 1,0) else(0,0,0,2)
def iq (X Y:Nat) (L:Int) (x y:Nat):Nat × Int:=if ck X Y L x y=true∧L≠0 then(wq (L - 1).toNat x y,0) else(0,2)
def ir (x y u v:Nat):Nat × Nat × Int × Int:=if gC x y=true∧gC u v=true then(bR x (fH x y u v),bR y (fH x y u v),(fH x y u v:Int),0) else(0,0,0,2)
abbrev qv (p:Nat × Nat × Int × Int):Value:=.tuple #[cv p.1 p.2.1 p.2.2.1,.int .i64 p.2.2.2]
abbrev wv (p:Nat × Int):Value:=.tuple #[.int .i64 (p.1:Int),.int .i64 p.2]
theorem zj5 {X Y:Nat} {L:Int} (h:cP X Y L=true) (hL:L≠0):∃ m:Nat,L=((m+1:Nat):Int)∧Cl X Y (m+1):=by
 obtain⟨n,rfl,c⟩:=(pS X Y L).1 h;cases n with
 |zero=>exact absurd rfl hL
 |succ m=>exact⟨m,rfl,c⟩
theorem zmg (m:Nat):(((m+1:Nat):Int) - 1).toNat=m:=uo
theorem kG (m:Nat):((m+1:Nat):Int) - 1=(m:Int):=uo
theorem gZ {X Y m:Nat} (c:Cl X Y (m+1)) {k:Nat} (hk:k<4):iM X Y ((m+1:Nat):Int) (k:Int)=(X+2 ^ m*(k%2),Y+2 ^ m*(k/2),(m:Int),0):=by
 unfold iM;rw[if_pos ⟨(nP X Y (m+1)).2 c,by omega,by omega,by omega⟩,zmg,kG,Int.toNat_natCast]
theorem gj (X Y:Nat) (L i:Int) (hX:X<4294967296) (hY:Y<4294967296) (w:World):
  Calls Tryz.prog 105 #[cv X Y L,.int .i64 i] w fun e w'=>e=.returned (qv (iM X Y L i))∧Below w.heap.size w w':=by
 have HC:=gF X Y L hX hY;by_cases h:cP X Y L=true∧L≠0∧0≤i∧i≤3
 ·obtain⟨hr,hL,h0,h3⟩:=h
  rw[hr] at HC;obtain⟨m,rfl,c⟩:=zj5 hr hL;obtain⟨k,rfl⟩:=Int.eq_ofNat_of_zero_le h0;have hk:k<4:=uo
  have HZ:=fL X Y (m+1) c.n31;have hxe:=c.xe;have hye:=c.ye
  have hp:=pR c.n31;rw[gZ c hk];rw[Nat.pow_succ] at hxe hye hp HZ
  have hs:IntKind.u64.wrap (((2 ^ m*2:Nat):Int)/2)%4294967296=((2 ^ m:Nat):Int):=by
   rw[show((2 ^ m*2:Nat):Int)/2=((2 ^ m:Nat):Int) by omega,u64_in _ uo];omega
  have pX:(X:Int)%4294967296=(X:Int):=uo
  have pY:(Y:Int)%4294967296=(Y:Int):=uo
  have pXs:((X:Int)+((2 ^ m:Nat):Int))%4294967296=((X+2 ^ m:Nat):Int):=uo
  have pYs:((Y:Int)+((2 ^ m:Nat):Int))%4294967296=((Y+2 ^ m:Nat):Int):=uo
  have pm:wrap64 (((m+1:Nat):Int) - 1)=(m:Int):=by unfold wrap64;have:=c.n31;omega
  obtain rfl|rfl|rfl|rfl:k=0∨k=1∨k=2∨k=3:=uo
  ·have:=ij X Y _ (2 ^ m) (2 ^ m*2) m hL hs pX pY pm HC HZ w
   simpa using this
  ·have:=ik X Y _ (X+2 ^ m) (2 ^ m) (2 ^ m*2) m hL hs pXs pY pm HC HZ w
   simpa using this
  ·have:=il X Y _ (Y+2 ^ m) (2 ^ m) (2 ^ m*2) m hL hs pX pYs pm HC HZ w
   simpa using this
  ·have:=im X Y _ (X+2 ^ m) (Y+2 ^ m) (2 ^ m) (2 ^ m*2) m hL hs pXs pYs pm HC HZ w
   simpa using this
 ·rw[show iM X Y L i=(0,0,0,2) by unfold iM;rw[if_neg h]]
  refine iL X Y L i _ HC ?_ w;cases hr:cP X Y L
  ·exact .inl rfl
  ·refine .inr ?_
   rw[hr] at h;by_cases a:L=0
   ·exact .inl a
   ·by_cases b:i<0
    ·exact .inr (.inl b)
    ·exact .inr (.inr (by
      by_cases d:3<i
      ·exact d
      ·exact absurd ⟨rfl,a,by omega,by omega⟩ h))
theorem zj6 (X Y:Nat) (L:Int) (x y:Nat) (hX:X<4294967296) (hY:Y<4294967296) (hx:x<4294967296) (hy:y<4294967296) (w:World):
  Calls Tryz.prog 146 #[cv X Y L,.int .u32 (x:Int),.int .u32 (y:Int)] w fun e w'=>e=.returned (wv (iq X Y L x y))∧Below w.heap.size w w':=by
 by_cases h:ck X Y L x y=true∧L≠0
 ·obtain⟨m,rfl,c⟩:=zj5 (zev h.1) h.2
  rw[show iq X Y ((m+1:Nat):Int) x y=(wq m x y,0) by unfold iq;rw[if_pos h,zmg]];exact callsIn_wide.1 (zmf X Y m x y c hx hy h.1 w)
 ·rw[show iq X Y L x y=(0,2) by unfold iq;rw[if_neg h]]
  refine callsIn_wide.1 (zme X Y L x y hX hY hx hy ?_ w);cases e:ck X Y L x y
  ·exact .inl rfl
  ·rw[e] at h
   exact .inr (by
    by_cases d:L=0
    ·exact d
    ·exact absurd ⟨rfl,d⟩ h)
theorem qF (x y u v:Nat) (w:World):
  Calls Tryz.prog 145 #[.int .u32 (x:Int),.int .u32 (y:Int),.int .u32 (u:Int),.int .u32 (v:Int)] w fun e w'=>e=.returned (qv (ir x y u v))∧Below w.heap.size w w':=by
 by_cases h:gC x y=true∧gC u v=true
 ·rw[show ir x y u v=(bR x (fH x y u v),bR y (fH x y u v),(fH x y u v:Int),0) by unfold ir;rw[if_pos h]]
  exact zmd x y u v h.1 h.2 w
 ·rw[show ir x y u v=(0,0,0,2) by unfold ir;rw[if_neg h]]
  exact zmc x y u v (by simpa using h) w
end Rc
namespace Rq
open Go.RowKit
open Rc
def Sl (k:Nat) (w:World) (o:Option Addr) (n cap:Nat) (cs:List Value):Prop:=
 n≤cap∧cap≤maxLen∧(o=none→cap=0)∧cs.length=n*k∧(0<n→∃ b off,o=some ⟨b,off,none⟩∧b<w.heap.size∧∀ j u,cs[j]? =some u→w.cell? ⟨b,off+j,none⟩=some u)
theorem Sl.nil (k:Nat) (w:World):Sl k w none 0 0 []:=⟨Nat.le_refl _,by decide,fun _=>rfl,by simp,fun h=>absurd h ud⟩
theorem Sl.same {k:Nat} {w w':World} {o:Option Addr} {n cap:Nat} {cs:List Value} (h:Sl k w o n cap cs) (hs:w.heap.size≤w'.heap.size) (hb:∀ b off,o=some ⟨b,off,none⟩→b<w.heap.size→w'.heap[b]? =w.heap[b]?):Sl k w' o n cap cs:=by
 refine⟨h.1,h.2.1,h.2.2.1,h.2.2.2.1,fun hn=>?_⟩;obtain⟨b,off,e,hlt,hc⟩:=h.2.2.2.2 hn;exact⟨b,off,e,Nat.lt_of_lt_of_le hlt hs,fun j u hu=>(World.cell?_of_block (a:=⟨b,off+j,none⟩) (hb b off e hlt)).trans (hc j u hu)⟩
theorem Sl.below {k:Nat} {w w':World} {o:Option Addr} {n cap B:Nat} {cs:List Value} (h:Sl k w o n cap cs) (hb:Below B w w') (hB:w.heap.size≤B):Sl k w' o n cap cs:=
 h.same hb.size fun b _ _ hlt=>hb.block b uo
theorem oY {A:World} {base:Nat} {e:TypeId} {p cap n sz:Nat} {xs:List Value} (ho:A.ownsRow base e sz (.slice (some ⟨p,0,none⟩) n cap) n xs) {j:Nat} {v:Value} (h:xs[j]? =some v):A.cell? ⟨p,j,none⟩=some v:=by
 have:=ho.cells (g:=p) rfl j v h;rwa[Addr.add_lit,Nat.zero_add] at this
theorem dx {k:Nat} {w:World} {base:Nat} {v:Value} {e:TypeId} {n:Nat} {cs:List Value} (h:w.ownsRow base e k v n cs):∃ o cap,v=.slice o n cap∧Sl k w o n cap cs:=by
 rcases h.2 with⟨rfl,hz⟩|⟨g,cap,cur,rfl,hb,hg,hnc,hcm,hcs,ht⟩
 ·subst hz
  have:cs=[]:=List.eq_nil_of_length_eq_zero (by rw[h.1];simp);subst this;exact⟨none,0,rfl,Sl.nil k w⟩
 ·refine⟨some ⟨g,0,none⟩,cap,rfl,hnc,hcm,(fun e=>by cases e),h.1,fun _=>⟨g,0,rfl,(zi hg).1,fun j u hu=>?_⟩⟩
  rw[Nat.zero_add];exact oY h hu
theorem Sl.cells {k:Nat} {w:World} {o:Option Addr} {n cap:Nat} {cs:List Value} (h:Sl k w o n cap cs) (hn:0<n) (a:Addr) (ho:o=some a):∀ j u,cs[j]? =some u→w.cell? (a.add j)=some u:=by
 intro j u hu;obtain⟨b,off,e,hlt,hc⟩:=h.2.2.2.2 hn;obtain rfl:a=⟨b,off,none⟩:=by rw[ho] at e;cases e;rfl
 rw[Addr.add_lit];exact hc j u hu
theorem nk {α:Type} (f:α→List Value) (k:Nat) (hk:∀ a,(f a).length=k) (l:List α):(l.flatMap f).length=l.length*k:=by
 induction l with
 |nil=>simp
 |cons a t ih=>rw[List.flatMap_cons,List.length_append,ih,hk,List.length_cons,Nat.add_mul,Nat.one_mul,Nat.add_comm]
theorem flat_get {α:Type} (f:α→List Value) (k:Nat) (hk:∀ a,(f a).length=k):∀ (l:List α) (i:Nat) (a:α),l[i]? =some a→∀ j,j<k→(l.flatMap f)[i*k+j]? =(f a)[j]?
 |[],i,a,h,_,_=>by simp at h
 |b::t,0,a,h,j,hj=>by
  simp at h;subst h
  rw[List.flatMap_cons,Nat.zero_mul,Nat.zero_add,List.getElem?_append_left (by rw[hk];exact hj)]
 |b::t,i+1,a,h,j,hj=>by
  rw[List.flatMap_cons,List.getElem?_append_right (by rw[hk,Nat.add_mul];omega),hk,show(i+1)*k+j - k=i*k+j by rw[Nat.add_mul];omega];exact flat_get f k hk t i a (by simpa using h) j hj
abbrev rv (r:Rw):Value:=.agg #[.int .u64 (r.id:Int),.int .u32 (r.x:Int),.int .u32 (r.y:Int),.string r.v]
def rc (r:Rw):List Value:=[.int .u64 (r.id:Int),.int .u32 (r.x:Int),.int .u32 (r.y:Int),.string r.v]
def cH (w:World) (o:Option Addr) (cap:Nat) (l:List Rw):Prop:=Sl 4 w o l.length cap (l.flatMap rc)
def Fr (w:World) (b x:Nat) (r:Rw):Prop:=w.cell? ⟨b,x,none⟩=some (.int .u64 (r.id:Int))∧w.cell? ⟨b,x+1,none⟩=some (.int .u32 (r.x:Int))∧w.cell? ⟨b,x+2,none⟩=some (.int .u32 (r.y:Int))∧w.cell? ⟨b,x+3,none⟩=some (.string r.v)
theorem Fr.same {w w':World} {b x:Nat} {r:Rw} (h:Fr w b x r) (e:w'.heap[b]? =w.heap[b]?):Fr w' b x r:=
 ⟨(World.cell?_of_block (a:=⟨b,x,none⟩) e).trans h.1,(World.cell?_of_block (a:=⟨b,x+1,none⟩) e).trans h.2.1,(World.cell?_of_block (a:=⟨b,x+2,none⟩) e).trans h.2.2.1,(World.cell?_of_block (a:=⟨b,x+3,none⟩) e).trans h.2.2.2⟩
theorem cH.below {w w':World} {o:Option Addr} {cap B:Nat} {l:List Rw} (h:cH w o cap l) (hb:Below B w w') (hB:w.heap.size≤B):cH w' o cap l:=Sl.below h hb hB
theorem cH.row {w:World} {o:Option Addr} {cap:Nat} {l:List Rw} (h:cH w o cap l) {i:Nat} (hi:i<l.length):∃ b off,o=some ⟨b,off,none⟩∧b<w.heap.size∧∀ i,i<l.length→Fr w b (off+i*4) (cK l i):=by
 obtain⟨b,off,e,hlt,hc⟩:=h.2.2.2.2 uo;refine⟨b,off,e,hlt,fun i hi=>?_⟩;have g:=fun j hj=>flat_get rc 4 (fun _=>rfl) l i _ (mV hi) j hj
 refine⟨?_,?_,?_,?_⟩
 ·have:=hc (i*4+0) _ (g 0 uo);rwa[show off+(i*4+0)=off+i*4 by omega] at this
 ·have:=hc (i*4+1) _ (g 1 uo);rwa[show off+(i*4+1)=off+i*4+1 by omega] at this
 ·have:=hc (i*4+2) _ (g 2 uo);rwa[show off+(i*4+2)=off+i*4+2 by omega] at this
 ·have:=hc (i*4+3) _ (g 3 uo);rwa[show off+(i*4+3)=off+i*4+3 by omega] at this
structure Nv where
 X:Nat
 Y:Nat
 L:Nat
 ro:Option Addr
 rn:Nat
 rc:Nat
 ko:Option Addr
 kn:Nat
 kc:Nat
abbrev nv (n:Nv):Value:=.agg #[.int .u32 (n.X:Int),.int .u32 (n.Y:Int),.int .i64 (n.L:Int),.slice n.ro n.rn n.rc,.slice n.ko n.kn n.kc]
def nc (n:Nv):List Value:=[.int .u32 (n.X:Int),.int .u32 (n.Y:Int),.int .i64 (n.L:Int),.slice n.ro n.rn n.rc,.slice n.ko n.kn n.kc]
def nl (w:World) (b x:Nat) (n:Nv):Prop:=w.cell? ⟨b,x,none⟩=some (.int .u32 (n.X:Int))∧w.cell? ⟨b,x+1,none⟩=some (.int .u32 (n.Y:Int))∧w.cell? ⟨b,x+2,none⟩=some (.int .i64 (n.L:Int))∧w.cell? ⟨b,x+3,none⟩=some (.slice n.ro n.rn n.rc)∧w.cell? ⟨b,x+4,none⟩=some (.slice n.ko n.kn n.kc)
theorem nl.same {w w':World} {b x:Nat} {n:Nv} (h:nl w b x n) (e:w'.heap[b]? =w.heap[b]?):nl w' b x n:=
 ⟨(World.cell?_of_block (a:=⟨b,x,none⟩) e).trans h.1,(World.cell?_of_block (a:=⟨b,x+1,none⟩) e).trans h.2.1,(World.cell?_of_block (a:=⟨b,x+2,none⟩) e).trans h.2.2.1,(World.cell?_of_block (a:=⟨b,x+3,none⟩) e).trans h.2.2.2.1,(World.cell?_of_block (a:=⟨b,x+4,none⟩) e).trans h.2.2.2.2⟩
def kH (w:World) (o:Option Addr) (cap:Nat) (l:List Nv):Prop:=Sl 5 w o l.length cap (l.flatMap nc)
theorem kH.node {w:World} {o:Option Addr} {cap:Nat} {l:List Nv} (h:kH w o cap l) (h0:0<l.length):∃ b off,o=some ⟨b,off,none⟩∧b<w.heap.size∧∀ i (hi:i<l.length),nl w b (off+i*5) l[i]:=by
 obtain⟨b,off,e,hlt,hc⟩:=h.2.2.2.2 h0;refine⟨b,off,e,hlt,fun i hi=>?_⟩;have g:=fun j hj=>flat_get nc 5 (fun _=>rfl) l i _ (List.getElem?_eq_getElem hi) j hj
 refine⟨?_,?_,?_,?_,?_⟩
 ·have:=hc (i*5+0) _ (g 0 uo);rwa[show off+(i*5+0)=off+i*5 by omega] at this
 ·have:=hc (i*5+1) _ (g 1 uo);rwa[show off+(i*5+1)=off+i*5+1 by omega] at this
 ·have:=hc (i*5+2) _ (g 2 uo);rwa[show off+(i*5+2)=off+i*5+2 by omega] at this
 ·have:=hc (i*5+3) _ (g 3 uo);rwa[show off+(i*5+3)=off+i*5+3 by omega] at this
 ·have:=hc (i*5+4) _ (g 4 uo);rwa[show off+(i*5+4)=off+i*5+4 by omega] at this
def jV (G:Nat→Prop) (o:Option Addr) (n:Nat):Prop:=0<n→∀ b off,o=some ⟨b,off,none⟩→G b
def ci (G:Nat→Prop):Nat→World→Nv→List Rw→Prop
 |0,_,_,_=>False
 |d+1,w,n,l=>n.X=cx l∧n.Y=cy l∧n.L=cQ l∧
  (leaf l=true→n.rn=l.length∧cH w n.ro n.rc l∧jV G n.ro l.length∧n.kn=0∧kH w n.ko n.kc [])∧
  (leaf l=false→n.rn=0∧cH w n.ro n.rc []∧∃ ks:List Nv,n.kn=ks.length∧ks.length=(cR l).length∧kH w n.ko n.kc ks∧jV G n.ko ks.length∧∀ i (h1:i<ks.length) (h2:i<(cR l).length),ci G d w ks[i] (cR l)[i])
theorem Sl.lies {k:Nat} {w w':World} {o:Option Addr} {n cap:Nat} {cs:List Value} {G:Nat→Prop} (h:Sl k w o n cap cs) (hl:jV G o n) (hs:w.heap.size≤w'.heap.size) (hk:∀ b,G b→b<w.heap.size→w'.heap[b]? =w.heap[b]?):Sl k w' o n cap cs:=by
 refine⟨h.1,h.2.1,h.2.2.1,h.2.2.2.1,fun hn=>?_⟩;obtain⟨b,off,e,hlt,hc⟩:=h.2.2.2.2 hn;exact⟨b,off,e,Nat.lt_of_lt_of_le hlt hs,fun j u hu=>(World.cell?_of_block (a:=⟨b,off+j,none⟩) (hk b (hl hn b off e) hlt)).trans (hc j u hu)⟩
theorem Sl.none {k:Nat} {w w':World} {o:Option Addr} {cap:Nat} {cs:List Value} (h:Sl k w o 0 cap cs):Sl k w' o 0 cap cs:=⟨h.1,h.2.1,h.2.2.1,h.2.2.2.1,fun hn=>absurd hn ud⟩
theorem ci.same {G:Nat→Prop}:∀ {d:Nat} {w w':World} {n:Nv} {l:List Rw},ci G d w n l→w.heap.size≤w'.heap.size→(∀ b,G b→b<w.heap.size→w'.heap[b]? =w.heap[b]?)→ci G d w' n l
 |0,_,_,_,_,h,_,_=>h
 |d+1,w,w',n,l,h,hs,hk=>by
  obtain⟨h1,h2,h3,h4,h5⟩:=h;refine⟨h1,h2,h3,fun hl=>?_,fun hl=>?_⟩
  ·obtain⟨a,b,b',c,e⟩:=h4 hl
   exact⟨a,Sl.lies b b' hs hk,b',c,Sl.none e⟩
  ·obtain⟨a,b,ks,c,e,f,f',g⟩:=h5 hl
   exact⟨a,Sl.none b,ks,c,e,Sl.lies f f' hs hk,f',fun i i1 i2=>(g i i1 i2).same hs hk⟩
theorem ci.mono {G G':Nat→Prop}:∀ {d:Nat} {w:World} {n:Nv} {l:List Rw},ci G d w n l→(∀ b,b<w.heap.size→G b→G' b)→ci G' d w n l
 |0,_,_,_,h,_=>h
 |d+1,w,n,l,h,hG=>by
  obtain⟨h1,h2,h3,h4,h5⟩:=h;refine⟨h1,h2,h3,fun hl=>?_,fun hl=>?_⟩
  ·obtain⟨a,b,b',c,e⟩:=h4 hl
   refine⟨a,b,fun hn x off ho=>?_,c,e⟩;obtain⟨x',off',e',hlt,_⟩:=b.2.2.2.2 hn;rw[ho] at e';cases e'
   exact hG x hlt (b' hn x off ho)
  ·obtain⟨a,b,ks,c,e,f,f',g⟩:=h5 hl
   refine⟨a,b,ks,c,e,f,fun hn x off ho=>?_,fun i i1 i2=>(g i i1 i2).mono hG⟩;obtain⟨x',off',e',hlt,_⟩:=f.2.2.2.2 hn;rw[ho] at e';cases e'
   exact hG x hlt (f' hn x off ho)
theorem ci.below {G:Nat→Prop} {d:Nat} {w w':World} {n:Nv} {l:List Rw} {B:Nat} (h:ci G d w n l) (hb:Below B w w') (hB:w.heap.size≤B):ci G d w' n l:=
 h.same hb.size fun b _ hlt=>hb.block b uo
theorem mF:(Tryz.prog.info? 79).map (fun i=>(i.zero,i.size,i.bytes))=some (some (.agg #[.int .u64 0,.int .u32 0,.int .u32 0,.string ⟨#[]⟩]),4,32):=uk
theorem zmh:(Tryz.prog.info? 73).map (fun i=>(i.zero,i.size,i.bytes))=some (some (.agg #[.int .u32 0,.int .u32 0,.int .i64 0,.slice none 0 0,.slice none 0 0]),5,64):=uk
theorem info_parts {t:TypeId} {z:Value} {s b:Nat} (h:(Tryz.prog.info? t).map (fun i=>(i.zero,i.size,i.bytes))=some (some z,s,b)):∃ i,Tryz.prog.info? t=some i∧i.zero=some z∧i.size=s∧i.bytes=b:=by
 obtain⟨i,hi,h'⟩:=Option.map_eq_some_iff.1 h;simp at h';exact⟨i,hi,h'.1,h'.2.1,h'.2.2⟩
theorem iu (t e:TypeId) {z:Value} {k by':Nat} (ht:Tryz.prog.underlying t=some (.slice e)) (hz:(Tryz.prog.info? e).map (fun i=>(i.zero,i.size,i.bytes))=some (some z,k,by')) (hzs:z.cells.size=k) (hk:0<k) (hby:by'≤1000)
  (w:World) (base n m:Nat) (v:Value) (p:Option Addr) (c:Nat) (cs ds:List Value) (ho:w.ownsRow base e k v n cs) (hb:base≤w.heap.size) (hm:Sl k w p m c ds) (h1:∀ u∈ds,u.oneCell'=true) (hs:n+m≤100000):
  ∃ v' w',(Builtin.append_ #[t,t] t #[v,.slice p m c]).run Tryz.prog w=.ok v' w'∧w'.ownsRow base e k v' (n+m) (cs++ds)∧w.grownBy w' v.ownBlock∧(v'.ownBlock=v.ownBlock∨v'.ownBlock=some w.heap.size):=by
 obtain⟨i0,hi,hz0,hz1,hz2⟩:=info_parts hz;cases p with
 |none=>
  have h0:=hm.2.2.1 rfl;have h2:=hm.1;have e0:m=0:=uo
  subst h0 e0;have:ds=[]:=List.eq_nil_of_length_eq_zero (by rw[hm.2.2.2.1];simp);subst this;refine⟨v,w,?_,by simpa using ho,⟨rfl,rfl,rfl,Nat.le_refl _,fun _ _ _=>rfl⟩,.inl rfl⟩;exact run_append_owned_none (P:=Tryz.prog) w base t t e i0 k ht hi v n _ ho
 |some a=>
  have hcell:∀ j u,ds[j]? =some u→w.cell? (a.add j)=some u:=by
   intro j u hu;have hj:=(List.getElem?_eq_some_iff.1 hu).1;rw[hm.2.2.2.1] at hj;refine hm.cells ?_ a rfl j u hu;rcases Nat.eq_zero_or_pos m with h|h
   ·rw[h] at hj;simp at hj
   ·exact h
  obtain⟨v',w',hr,ho',hg,_,hf⟩:=run_append_own_at (P:=Tryz.prog) w base t t e i0 z k by' ht hi hz0 hz1 hz2 hzs hk v n cs ho a m c ds hm.2.2.2.1 hcell h1 (by simp only[maxLen];omega) (by
   have:=Nat.mul_le_mul (show n+m≤100000 from hs) hby;omega) hb
  exact⟨v',w',hr,ho',hg,hf⟩
theorem oZ (l:List Rw):∀ u∈l.flatMap rc,u.oneCell'=true:=by
 intro u hu;obtain⟨r,_,h⟩:=List.mem_flatMap.1 hu;simp only[rc,List.mem_cons,List.not_mem_nil,or_false] at h;rcases h with rfl|rfl|rfl|rfl<;>rfl
theorem zpu (l:List Nv):∀ u∈l.flatMap nc,u.oneCell'=true:=by
 intro u hu;obtain⟨r,_,h⟩:=List.mem_flatMap.1 hu;simp only[nc,List.mem_cons,List.not_mem_nil,or_false] at h;rcases h with rfl|rfl|rfl|rfl|rfl<;>rfl
open Go.RowKit Go.Lib Go.Shelf
theorem zfL (x y:Nat) (w:World):
  Calls Tryz.prog 99 #[.int .u32 (x:Int),.int .u32 (y:Int)] w fun e w'=>e=.returned (.bool (gC x y))∧w'=w:=by
 by_cases h1:x<2147483648
 ·by_cases h2:y<2147483648
  ·rw[pZ h1 h2]
   have q1:(x:Int)<2147483648:=uo
   have q2:(y:Int)<2147483648:=uo
   clear h1 h2;go_enter Tryz.func99,Tryz.ntmps99;go_wp2_with fail;go_ret;exact⟨rfl,rfl⟩
  ·rw[ph (fun h=>h2 h.2)]
   have q1:(x:Int)<2147483648:=uo
   have q2:¬(y:Int)<2147483648:=uo
   clear h1 h2;go_enter Tryz.func99,Tryz.ntmps99;go_wp2_with fail;go_ret;exact⟨rfl,rfl⟩
 ·rw[ph (fun h=>h1 h.1)]
  have q1:¬(x:Int)<2147483648:=uo
  clear h1;go_enter Tryz.func99,Tryz.ntmps99;go_wp2_with fail;go_ret;exact⟨rfl,rfl⟩
theorem zqi (r:Rw):jg r=(gC r.x r.y&&decide (r.v.size≤16)):=by
 unfold jg gC;by_cases h1:r.x<2147483648
 ·by_cases h2:r.y<2147483648
  ·simp[h1,h2]
  ·simp[h1,h2]
 ·simp[h1]
theorem zfM (r:Rw) (w:World):
  Calls Tryz.prog 69 #[rv r] w fun e w'=>e=.returned (.bool (jg r))∧Below w.heap.size w w':=by
 rw[zqi];obtain⟨id,x,y,v⟩:=r;simp only;have HC:Hid _:=zfL x y;have HB:Hid (Below w.heap.size w (w.alloc (.cells #[.int .u64 (id:Int),.int .u32 (x:Int),.int .u32 (y:Int),.string v] 79))):=bF w _;cases ho:gC x y
 ·rw[ho] at HC
  go_enter Tryz.func69,Tryz.ntmps69;go_wp2_with fail;refine um (HC.o _) fun w1 h=>?_;have h':=h.symm;clear h;subst h'
  go_wp2_with fail;go_ret;exact⟨rfl,HB.o⟩
 ·rw[ho] at HC
  by_cases hv:v.size≤16
  ·rw[decide_eq_true hv]
   have q1:decide ((v.size:Int)≤16)=true:=decide_eq_true uo;clear hv;go_enter Tryz.func69,Tryz.ntmps69;go_wp2_with fail;refine um (HC.o _) fun w1 h=>?_;have h':=h.symm;clear h;subst h'
   go_wp2_with fail;go_ret;exact⟨rfl,HB.o⟩
  ·rw[decide_eq_false hv]
   have q1:decide ((v.size:Int)≤16)=false:=decide_eq_false uo;clear hv;go_enter Tryz.func69,Tryz.ntmps69;go_wp2_with fail;refine um (HC.o _) fun w1 h=>?_;have h':=h.symm;clear h;subst h'
   go_wp2_with fail;go_ret;exact⟨rfl,HB.o⟩
theorem gV (r:Rw) (w:World):
  Calls Tryz.prog 103 #[rv r] w fun e w'=>e=.returned (.bool (jg r))∧Below w.heap.size w w':=by
 rw[zqi];obtain⟨id,x,y,v⟩:=r;simp only;have HB:Hid (Below w.heap.size w (w.alloc (.cells #[.int .u64 (id:Int),.int .u32 (x:Int),.int .u32 (y:Int),.string v] 79))):=bF w _;unfold gC;by_cases h1:x<2147483648
 ·have q1:(x:Int)<2147483648:=uo
  by_cases h2:y<2147483648
  ·have q2:(y:Int)<2147483648:=uo
   rw[decide_eq_true ⟨h1,h2⟩,Bool.true_and];clear h1 h2;by_cases hv:v.size≤16
   ·rw[decide_eq_true hv]
    have q3:decide ((v.size:Int)≤16)=true:=decide_eq_true uo;clear hv;simp only[rv];generalize (x:Int)=zx at*
    generalize (y:Int)=zy at*
    go_enter Tryz.func103,Tryz.ntmps103;go_wp2_with fail;go_ret;exact⟨rfl,HB.o⟩
   ·rw[decide_eq_false hv]
    have q3:decide ((v.size:Int)≤16)=false:=decide_eq_false uo;clear hv;simp only[rv];generalize (x:Int)=zx at*
    generalize (y:Int)=zy at*
    go_enter Tryz.func103,Tryz.ntmps103;go_wp2_with fail;go_ret;exact⟨rfl,HB.o⟩
  ·have q2:¬(y:Int)<2147483648:=uo
   rw[decide_eq_false (fun h=>h2 h.2),Bool.false_and];clear h1 h2;simp only[rv];generalize (x:Int)=zx at*
   generalize (y:Int)=zy at*
   go_enter Tryz.func103,Tryz.ntmps103;go_wp2_with fail;go_ret;exact⟨rfl,HB.o⟩
 ·have q1:¬(x:Int)<2147483648:=uo
  rw[decide_eq_false (fun h=>h1 h.1),Bool.false_and];clear h1;simp only[rv];generalize (x:Int)=zx at*
  generalize (y:Int)=zy at*
  go_enter Tryz.func103,Tryz.ntmps103;go_wp2_with fail;go_ret;exact⟨rfl,HB.o⟩
theorem wrap_i64 {m:Int} (h0:-9223372036854775808≤m) (h1:m≤9223372036854775807):IntKind.i64.wrap m=m:=IntWalk.i64_in _ ⟨h0,h1⟩
def F4 (g:Nat) (r:Rw) (w:World):Prop:=w.cell? ⟨g,0,none⟩=some (.int .u64 (r.id:Int))∧w.cell? ⟨g,1,none⟩=some (.int .u32 (r.x:Int))∧w.cell? ⟨g,2,none⟩=some (.int .u32 (r.y:Int))∧w.cell? ⟨g,3,none⟩=some (.string r.v)
theorem F4.of {g:Nat} {r:Rw} {w:World} {t:TypeId} {fr:Nat × Nat} (h:w.heap[g]? =some (.cells #[.int .u64 (r.id:Int),.int .u32 (r.x:Int),.int .u32 (r.y:Int),.string r.v] t fr)):F4 g r w:=
 ⟨by rw[zr h];rfl,by rw[zr h];rfl,by rw[zr h];rfl,by rw[zr h];rfl⟩
theorem F4.same {g:Nat} {r:Rw} {w w':World} (h:F4 g r w) (e:w'.heap[g]? =w.heap[g]?):F4 g r w':=
 ⟨(World.cell?_of_block (a:=⟨g,0,none⟩) e).trans h.1,(World.cell?_of_block (a:=⟨g,1,none⟩) e).trans h.2.1,(World.cell?_of_block (a:=⟨g,2,none⟩) e).trans h.2.2.1,(World.cell?_of_block (a:=⟨g,3,none⟩) e).trans h.2.2.2⟩
def oa (g:Nat) (r:Rw) (b x:Nat) (p:Nat) (w:World):Prop:=F4 g r w∧w.cell? ⟨b,x,none⟩=some (.int .u64 (p:Int))
theorem sM (l:List Rw) (o:Option Addr) (cap:Nat) (w:World) (hr:cH w o cap l):
  Calls Tryz.prog 34 #[.slice o l.length cap] w fun e w'=>e=.returned (.bool (dg l))∧Below w.heap.size w w':=by
 by_cases h:1000<l.length
 ·have q0:(1000:Int)<(l.length:Int):=uo
  go_enter Tryz.func34,Tryz.ntmps34;go_wp2_with fail;go_ret;refine⟨?_,Below.refl _ _⟩;rw[show dg l=false by unfold dg;rw[decide_eq_false];omega];rfl
 ·have q0:¬(1000:Int)<(l.length:Int):=uo
  go_enter Tryz.func34,Tryz.ntmps34;go_wp2_with fail
  go_loopw [10] (fun i wr=>∃ k:Nat,k≤l.length∧i=.int .i64 (k:Int)∧(∀ j,j<k→jh l j=true)∧Below w.heap.size w wr) (fun i _=>l.length - bu i)
  case atStart=>exact⟨0,by omega,rfl,fun j hj=>absurd hj uo,Below.refl _ _⟩
  case round=>
   obtain⟨k,hk,rfl,hj,hb⟩:=hrel;by_cases hlt:k<l.length
   ·obtain⟨b,off,rfl,hbl,hc⟩:=(hr.below hb zn).row hlt
    obtain⟨c0,c1,c2,c3⟩:=hc k hlt;have q1:(k:Int)<(l.length:Int):=uo
    have k0:(0:Int)≤(k:Int):=uo
    have k1:(k:Int)+1≤9223372036854775807:=uo
    have HC:Hid _:=zfM (cK l k);have HFr:Hid _:=hc;have HJ:Hid _:=hj;clear hc hj;generalize hr0:cK l k=r at*
    obtain⟨id,x,y,v⟩:=r;simp only at c0 c1 c2 c3;have HB:Hid (Below w.heap.size w wr):=hb;clear hb;have HBn:Hid (Below wr.heap.size wr (wr.alloc (.cells #[.int .u64 (id:Int),.int .u32 (x:Int),.int .u32 (y:Int),.string v] 79)).drew):=(bF wr _).drew;have HSW:Hid (F4 wr.heap.size ⟨id,x,y,v⟩ (wr.alloc (.cells #[.int .u64 (id:Int),.int .u32 (x:Int),.int .u32 (y:Int),.string v] 79)).drew):=F4.of (zq wr _);have hlt2:wr.heap.size<(wr.alloc (.cells #[.int .u64 (id:Int),.int .u32 (x:Int),.int .u32 (y:Int),.string v] 79)).drew.heap.size:=by simp
    have hws:=HB.o.size;have HR:Hid (cK l k=⟨id,x,y,v⟩):=hr0;clear hr0;cases hrr:jg ⟨id,x,y,v⟩
    ·rw[hrr] at HC
     have HE:Hid (dg l=false):=by
      refine(?_:dg l=false);cases e:dg l
      ·rfl
      ·have:=((jx l k).1 (((iX l).1 e).2 k hlt)).1
       rw[HR.o,hrr] at this;cases this
     go_wp2_with fail;refine wp_region_held (S:=F4 wr.heap.size ⟨id,x,y,v⟩) uk ?_;change wpAnyH _ _ _ _ _ _ _ _ (World.drew _);refine bB [0] ?_;refine bS (v:=?_) rfl ?_ HSW.o ?_;rotate_left
     ·rintro w ⟨e1,e2,e3,e4⟩;go_simp;try with_reducible rfl
     conv in(Act.put _ _ _)=>simp only[bH,bI,bJ,Act.put,bK,bL,bM]
     refine bA ?_;refine dF 1 _ uk rfl uk (fun K hK=>?_);go_simp;refine um (HC.o _) fun w1 b1=>?_;have HB1:Hid (Below w.heap.size w w1):=HB.o.trans ((HBn.o.mono hws).trans (b1.mono uo))
     replace HSW:Hid (F4 wr.heap.size ⟨id,x,y,v⟩ w1):=HSW.o.same (b1.block _ hlt2)
     refine hK _ _ HSW.o ?_;clear hK K b1;refine bB [2,3] ?_
     iterate 2
      refine bS (v:=?_) rfl ?_ HSW.o ?_;rotate_left
      ·rintro w ⟨e1,e2,e3,e4⟩;go_simp;try with_reducible rfl
      conv in(Act.put _ _ _)=>simp only[bH,bI,bJ,Act.put,bK,bL,bM]
     refine bA ?_;refine bB [4,5,6,7,8,9,10,11,12,13,14,15,16] ?_
     iterate 13
      refine gO rfl HSW.o ?_
      conv in(Act.put _ _ _)=>simp only[bH,bI,bJ,Act.put,bK,bL,bM]
     refine bA ?_;refine bB [17] ?_;refine bS (v:=?_) rfl ?_ HSW.o ?_;rotate_left
     ·rintro w ⟨e1,e2,e3,e4⟩;go_simp;try with_reducible rfl
     conv in(Act.put _ _ _)=>simp only[bH,bI,bJ,Act.put,bK,bL,bM]
     refine bA ?_;refine wpAnyH_done uk ?_ _;go_wp2_with fail;go_ret;exact⟨by rw[HE.o];rfl,HB1.o⟩
    ·rw[hrr] at HC
     by_cases hk0:k=0
     ·have HJ1:Hid (∀ j,j<k+1→jh l j=true):=by
       refine fun j hj=>?_
       obtain rfl:j=k:=uo
       rw[jx,HR.o];exact⟨hrr,fun h=>absurd h uo⟩
      have q2:decide (0<k)=false:=decide_eq_false uo;have HK0:Hid (k=0):=hk0;clear hk0;go_wp2_with fail;refine wp_region_held (S:=F4 wr.heap.size ⟨id,x,y,v⟩) uk ?_;change wpAnyH _ _ _ _ _ _ _ _ (World.drew _);refine bB [0] ?_;refine bS (v:=?_) rfl ?_ HSW.o ?_;rotate_left
      ·rintro w ⟨e1,e2,e3,e4⟩;go_simp;try with_reducible rfl
      conv in(Act.put _ _ _)=>simp only[bH,bI,bJ,Act.put,bK,bL,bM]
      refine bA ?_;refine dF 1 _ uk rfl uk (fun K hK=>?_);go_simp;refine um (HC.o _) fun w1 b1=>?_;have HB1:Hid (Below w.heap.size w w1):=HB.o.trans ((HBn.o.mono hws).trans (b1.mono uo))
      replace HSW:Hid (F4 wr.heap.size ⟨id,x,y,v⟩ w1):=HSW.o.same (b1.block _ hlt2)
      refine hK _ _ HSW.o ?_;clear hK K b1;refine bB [2,3,4,5,6] ?_
      iterate 5
       refine bS (v:=?_) rfl ?_ HSW.o ?_;rotate_left
       ·rintro w ⟨e1,e2,e3,e4⟩;go_simp;try with_reducible rfl
       conv in(Act.put _ _ _)=>simp only[bH,bI,bJ,Act.put,bK,bL,bM]
      refine bA ?_;refine bB [7,8,9,10,11,12,13,14,15] ?_
      iterate 9
       refine gO rfl HSW.o ?_
       conv in(Act.put _ _ _)=>simp only[bH,bI,bJ,Act.put,bK,bL,bM]
      refine bA ?_;refine bB [16,17] ?_
      iterate 2
       refine bS (v:=?_) rfl ?_ HSW.o ?_;rotate_left
       ·rintro w ⟨e1,e2,e3,e4⟩;go_simp;try with_reducible rfl
       conv in(Act.put _ _ _)=>simp only[bH,bI,bJ,Act.put,bK,bL,bM]
      refine bA ?_;refine wpAnyH_done uk ?_ _;go_wp2_with fail
      go_roundw
      case rel=>exact⟨k+1,by omega,by go_num,HJ1.o,HB1.o⟩
      case measure=>simp[bu];omega
     ·obtain⟨m,hm⟩:∃ m,k=m+1:=⟨k - 1,by omega⟩
      have HP:=HFr.o m uo;obtain⟨c4,_,_,_⟩:=HP;have HAt:=jx l k;rw[HR.o,show k - 1=m by omega] at HAt;generalize (cK l m).id=pid at*
      have l1:(k:Int) - 1=(m:Int):=uo
      have l3:(m:Int)<(l.length:Int):=uo
      have l2:IntKind.i64.wrap (m:Int)=(m:Int):=wrap_i64 uo uo;have q2:decide (0<k)=true:=decide_eq_true uo;have HSP:Hid (wr.cell? ⟨b,off+m*4,none⟩=some (.int .u64 (pid:Int))):=c4;have HBL:Hid (b<wr.heap.size):=hbl;have HJ2:Hid (∀ j,j<k→jh l j=true):=HJ.o;have HM:Hid (k=m+1):=hm;clear c4 hm hk0
      replace HSW:Hid (oa wr.heap.size ⟨id,x,y,v⟩ b (off+m*4) pid (wr.alloc (.cells #[.int .u64 (id:Int),.int .u32 (x:Int),.int .u32 (y:Int),.string v] 79)).drew):=⟨HSW.o,(World.cell?_of_block (a:=⟨b,off+m*4,none⟩) (HBn.o.block b hbl)).trans HSP.o⟩
      by_cases hid:pid<id
      ·have q3:decide (id≤pid)=false:=decide_eq_false uo
       have HJ1:Hid (∀ j,j<k+1→jh l j=true):=by
        refine fun j hj=>?_
        by_cases e:j=k
        ·subst e;exact HAt.2 ⟨hrr,fun _=>hid⟩
        ·exact HJ2.o j uo
       clear HAt hid;go_wp2_with fail;refine wp_region_held (S:=oa wr.heap.size ⟨id,x,y,v⟩ b (off+m*4) pid) uk ?_;change wpAnyH _ _ _ _ _ _ _ _ (World.drew _);refine bB [0] ?_;refine bS (v:=?_) rfl ?_ HSW.o ?_;rotate_left
       ·rintro w ⟨⟨e1,e2,e3,e4⟩,e5⟩;go_simp;try with_reducible rfl
       conv in(Act.put _ _ _)=>simp only[bH,bI,bJ,Act.put,bK,bL,bM]
       refine bA ?_;refine dF 1 _ uk rfl uk (fun K hK=>?_);go_simp;refine um (HC.o _) fun w1 b1=>?_;have HB1:Hid (Below w.heap.size w w1):=HB.o.trans ((HBn.o.mono hws).trans (b1.mono uo))
       replace HSW:Hid (oa wr.heap.size ⟨id,x,y,v⟩ b (off+m*4) pid w1):=⟨HSW.o.1.same (b1.block _ hlt2),(World.cell?_of_block (a:=⟨b,off+m*4,none⟩) (b1.block b (by have:=HBL.o;omega))).trans HSW.o.2⟩
       refine hK _ _ HSW.o ?_;clear hK K b1;refine bB [2,3,4,5,6,7,8,9,10,11,12,13,14,15,16,17] ?_
       iterate 16
        refine bS (v:=?_) rfl ?_ HSW.o ?_;rotate_left
        ·rintro w ⟨⟨e1,e2,e3,e4⟩,e5⟩;go_simp;try with_reducible rfl
        conv in(Act.put _ _ _)=>simp only[bH,bI,bJ,Act.put,bK,bL,bM]
       refine bA ?_;refine wpAnyH_done uk ?_ _;go_wp2_with fail
       go_roundw
       case rel=>exact⟨k+1,by omega,by go_num,HJ1.o,HB1.o⟩
       case measure=>simp[bu];omega
      ·have q3:decide (id≤pid)=true:=decide_eq_true uo
       have HE:Hid (dg l=false):=by
        refine(?_:dg l=false);cases e:dg l
        ·rfl
        ·exact absurd ((HAt.1 (((iX l).1 e).2 k hlt)).2 (by have:=HM.o;omega)) hid
       clear HAt hid;go_wp2_with fail;refine wp_region_held (S:=oa wr.heap.size ⟨id,x,y,v⟩ b (off+m*4) pid) uk ?_;change wpAnyH _ _ _ _ _ _ _ _ (World.drew _);refine bB [0] ?_;refine bS (v:=?_) rfl ?_ HSW.o ?_;rotate_left
       ·rintro w ⟨⟨e1,e2,e3,e4⟩,e5⟩;go_simp;try with_reducible rfl
       conv in(Act.put _ _ _)=>simp only[bH,bI,bJ,Act.put,bK,bL,bM]
       refine bA ?_;refine dF 1 _ uk rfl uk (fun K hK=>?_);go_simp;refine um (HC.o _) fun w1 b1=>?_;have HB1:Hid (Below w.heap.size w w1):=HB.o.trans ((HBn.o.mono hws).trans (b1.mono uo))
       replace HSW:Hid (oa wr.heap.size ⟨id,x,y,v⟩ b (off+m*4) pid w1):=⟨HSW.o.1.same (b1.block _ hlt2),(World.cell?_of_block (a:=⟨b,off+m*4,none⟩) (b1.block b (by have:=HBL.o;omega))).trans HSW.o.2⟩
       refine hK _ _ HSW.o ?_;clear hK K b1;refine bB [2,3,4,5,6,7,8,9,10,11,12,13,14,15,16,17] ?_
       iterate 16
        refine bS (v:=?_) rfl ?_ HSW.o ?_;rotate_left
        ·rintro w ⟨⟨e1,e2,e3,e4⟩,e5⟩;go_simp;try with_reducible rfl
        conv in(Act.put _ _ _)=>simp only[bH,bI,bJ,Act.put,bK,bL,bM]
       refine bA ?_;refine wpAnyH_done uk ?_ _;go_wp2_with fail;go_ret;exact⟨by rw[HE.o];rfl,HB1.o⟩
   ·obtain rfl:k=l.length:=uo
    have q1:¬(l.length:Int)<(l.length:Int):=uo
    have HB:Hid (Below w.heap.size w wr):=hb;have HE:Hid (dg l=true):=(iX l).2 ⟨by omega,hj⟩;clear hb hj;go_wp2_with fail;go_ret;exact⟨by rw[HE.o];rfl,HB.o⟩
def I2 (b x y:Nat) (p q:Nat) (w:World):Prop:=w.cell? ⟨b,x,none⟩=some (.int .u64 (p:Int))∧w.cell? ⟨b,y,none⟩=some (.int .u64 (q:Int))
theorem I2.same {b x y p q:Nat} {w w':World} (h:I2 b x y p q w) (e:w'.heap[b]? =w.heap[b]?):I2 b x y p q w':=
 ⟨(World.cell?_of_block (a:=⟨b,x,none⟩) e).trans h.1,(World.cell?_of_block (a:=⟨b,y,none⟩) e).trans h.2⟩
theorem iw (l:List Rw) (o:Option Addr) (cap:Nat) (w:World) (hr:cH w o cap l):
  Calls Tryz.prog 71 #[.slice o l.length cap] w fun e w'=>e=.returned (.bool (dg l))∧Below w.heap.size w w':=by
 by_cases h:1000<l.length
 ·have q0:(1000:Int)<(l.length:Int):=uo
  go_enter Tryz.func71,Tryz.ntmps71;go_wp2_with fail;go_ret;refine⟨?_,Below.refl _ _⟩;rw[show dg l=false by unfold dg;rw[decide_eq_false];omega];rfl
 ·have q0:¬(1000:Int)<(l.length:Int):=uo
  go_enter Tryz.func71,Tryz.ntmps71;go_wp2_with fail
  go_loopw [3] (fun i wr=>∃ k:Nat,k≤l.length∧i=.int .i64 (k:Int)∧(∀ j,j<k→jh l j=true)∧Below w.heap.size w wr) (fun i _=>l.length - bu i)
  case atStart=>exact⟨0,by omega,rfl,fun j hj=>absurd hj uo,Below.refl _ _⟩
  case round=>
   obtain⟨k,hk,rfl,hj,hb⟩:=hrel;by_cases hlt:k<l.length
   ·obtain⟨b,off,rfl,hbl,hc⟩:=(hr.below hb zn).row hlt
    obtain⟨c0,c1,c2,c3⟩:=hc k hlt;have q1:(k:Int)<(l.length:Int):=uo
    have k0:(0:Int)≤(k:Int):=uo
    have k1:(k:Int)+1≤9223372036854775807:=uo
    have HC:Hid _:=gV (cK l k);have HFr:Hid _:=hc;have HJ:Hid _:=hj;clear hc hj;generalize hr0:cK l k=r at*
    obtain⟨id,x,y,v⟩:=r;simp only at c0 c1 c2 c3;have HB:Hid (Below w.heap.size w wr):=hb;have HC0:Hid (wr.cell? ⟨b,off+k*4,none⟩=some (.int .u64 (id:Int))):=c0;have hws:=hb.size;clear hb;have HR:Hid (cK l k=⟨id,x,y,v⟩):=hr0;clear hr0;cases hrr:jg ⟨id,x,y,v⟩
    ·rw[hrr] at HC
     have HE:Hid (dg l=false):=by
      refine(?_:dg l=false);cases e:dg l
      ·rfl
      ·have:=((jx l k).1 (((iX l).1 e).2 k hlt)).1
       rw[HR.o,hrr] at this;cases this
     go_wp2_with fail;refine um (HC.o _) fun w1 b1=>?_;have HB1:Hid (Below w.heap.size w w1):=HB.o.trans (b1.mono uo);have HSW:Hid (True∧True):=⟨trivial,trivial⟩;clear b1;go_wp2_with fail;refine wp_region_held (S:=fun _=>True∧True) uk ?_;change wpAnyH _ _ _ _ _ _ _ _ (World.drew _);refine bB [0,1,2] ?_
     iterate 3
      refine bS (v:=?_) rfl ?_ HSW.o ?_;rotate_left
      ·rintro w ⟨e1,e2⟩;go_simp;try with_reducible rfl
      conv in(Act.put _ _ _)=>simp only[bH,bI,bJ,Act.put,bK,bL,bM]
     refine bA ?_;refine bB [3,4,5,6,7,8,9,10,11,12,13,14,15,16,17,18] ?_
     iterate 16
      refine gO rfl HSW.o ?_
      conv in(Act.put _ _ _)=>simp only[bH,bI,bJ,Act.put,bK,bL,bM]
     refine bA ?_;refine bB [19] ?_;refine bS (v:=?_) rfl ?_ HSW.o ?_;rotate_left
     ·rintro w ⟨e1,e2⟩;go_simp;try with_reducible rfl
     conv in(Act.put _ _ _)=>simp only[bH,bI,bJ,Act.put,bK,bL,bM]
     refine bA ?_;refine wpAnyH_done uk ?_ _;go_wp2_with fail;go_ret;exact⟨by rw[HE.o];rfl,HB1.o.drew⟩
    ·rw[hrr] at HC
     by_cases hk0:k=0
     ·have HJ1:Hid (∀ j,j<k+1→jh l j=true):=by
       refine fun j hj=>?_
       obtain rfl:j=k:=uo
       rw[jx,HR.o];exact⟨hrr,fun h=>absurd h uo⟩
      have q2:decide (0<k)=false:=decide_eq_false uo;have HK0:Hid (k=0):=hk0;clear hk0;go_wp2_with fail;refine um (HC.o _) fun w1 b1=>?_;have HB1:Hid (Below w.heap.size w w1):=HB.o.trans (b1.mono uo);have HSW:Hid (True∧True):=⟨trivial,trivial⟩;clear b1;go_wp2_with fail;refine wp_region_held (S:=fun _=>True∧True) uk ?_;change wpAnyH _ _ _ _ _ _ _ _ (World.drew _);refine bB [0,1,2,3,4,5] ?_
      iterate 6
       refine bS (v:=?_) rfl ?_ HSW.o ?_;rotate_left
       ·rintro w ⟨e1,e2⟩;go_simp;try with_reducible rfl
       conv in(Act.put _ _ _)=>simp only[bH,bI,bJ,Act.put,bK,bL,bM]
      refine bA ?_;refine bB [6,7,8,9,10,11,12,13,14,15,16,17] ?_
      iterate 12
       refine gO rfl HSW.o ?_
       conv in(Act.put _ _ _)=>simp only[bH,bI,bJ,Act.put,bK,bL,bM]
      refine bA ?_;refine bB [18,19] ?_
      iterate 2
       refine bS (v:=?_) rfl ?_ HSW.o ?_;rotate_left
       ·rintro w ⟨e1,e2⟩;go_simp;try with_reducible rfl
       conv in(Act.put _ _ _)=>simp only[bH,bI,bJ,Act.put,bK,bL,bM]
      refine bA ?_;refine wpAnyH_done uk ?_ _;go_wp2_with fail
      go_roundw
      case rel=>exact⟨k+1,by omega,by go_num,HJ1.o,HB1.o.drew⟩
      case measure=>simp[bu];omega
     ·obtain⟨m,hm⟩:∃ m,k=m+1:=⟨k - 1,by omega⟩
      have HP:=HFr.o m uo;obtain⟨c4,_,_,_⟩:=HP;have HAt:=jx l k;rw[HR.o,show k - 1=m by omega] at HAt;generalize (cK l m).id=pid at*
      have l1:(k:Int) - 1=(m:Int):=uo
      have l3:(m:Int)<(l.length:Int):=uo
      have l2:IntKind.i64.wrap (m:Int)=(m:Int):=wrap_i64 uo uo;have q2:decide (0<k)=true:=decide_eq_true uo;have HI:Hid (I2 b (off+m*4) (off+k*4) pid id wr):=⟨c4,HC0.o⟩;have HBL:Hid (b<wr.heap.size):=hbl;have HJ2:Hid (∀ j,j<k→jh l j=true):=HJ.o;have HM:Hid (k=m+1):=hm;clear c4 hm hk0;by_cases hid:pid<id
      ·have q3:decide (id≤pid)=false:=decide_eq_false uo
       have HJ1:Hid (∀ j,j<k+1→jh l j=true):=by
        refine fun j hj=>?_
        by_cases e:j=k
        ·subst e;exact HAt.2 ⟨hrr,fun _=>hid⟩
        ·exact HJ2.o j uo
       clear HAt hid;go_wp2_with fail;refine um (HC.o _) fun w1 b1=>?_;have HB1:Hid (Below w.heap.size w w1):=HB.o.trans (b1.mono uo);have HSW:Hid (I2 b (off+m*4) (off+k*4) pid id w1.drew):=HI.o.same (b1.block b HBL.o);clear b1 c0 c1 c2 c3;go_wp2_with fail;refine wp_region_held (S:=I2 b (off+m*4) (off+k*4) pid id) uk ?_;change wpAnyH _ _ _ _ _ _ _ _ (World.drew _);refine bB [0,1,2,3,4,5,6,7,8,9,10,11,12,13,14,15,16,17,18,19] ?_
       iterate 20
        refine bS (v:=?_) rfl ?_ HSW.o ?_;rotate_left
        ·rintro w ⟨e1,e2⟩;go_simp;try with_reducible rfl
        conv in(Act.put _ _ _)=>simp only[bH,bI,bJ,Act.put,bK,bL,bM]
       refine bA ?_;refine wpAnyH_done uk ?_ _;go_wp2_with fail
       go_roundw
       case rel=>exact⟨k+1,by omega,by go_num,HJ1.o,HB1.o.drew⟩
       case measure=>simp[bu];omega
      ·have q3:decide (id≤pid)=true:=decide_eq_true uo
       have HE:Hid (dg l=false):=by
        refine(?_:dg l=false);cases e:dg l
        ·rfl
        ·exact absurd ((HAt.1 (((iX l).1 e).2 k hlt)).2 (by have:=HM.o;omega)) hid
       clear HAt hid;go_wp2_with fail;refine um (HC.o _) fun w1 b1=>?_;have HB1:Hid (Below w.heap.size w w1):=HB.o.trans (b1.mono uo);have HSW:Hid (I2 b (off+m*4) (off+k*4) pid id w1.drew):=HI.o.same (b1.block b HBL.o);clear b1 c0 c1 c2 c3;go_wp2_with fail;refine wp_region_held (S:=I2 b (off+m*4) (off+k*4) pid id) uk ?_;change wpAnyH _ _ _ _ _ _ _ _ (World.drew _);refine bB [0,1,2,3,4,5,6,7,8,9,10,11,12,13,14,15,16,17,18,19] ?_
       iterate 20
        refine bS (v:=?_) rfl ?_ HSW.o ?_;rotate_left
        ·rintro w ⟨e1,e2⟩;go_simp;try with_reducible rfl
        conv in(Act.put _ _ _)=>simp only[bH,bI,bJ,Act.put,bK,bL,bM]
       refine bA ?_;refine wpAnyH_done uk ?_ _;go_wp2_with fail;go_ret;exact⟨by rw[HE.o];rfl,HB1.o.drew⟩
   ·obtain rfl:k=l.length:=uo
    have q1:¬(l.length:Int)<(l.length:Int):=uo
    have HB:Hid (Below w.heap.size w wr):=hb;have HE:Hid (dg l=true):=(iX l).2 ⟨by omega,hj⟩;clear hb hj;go_wp2_with fail;go_ret;exact⟨by rw[HE.o];rfl,HB.o⟩
def LS (b off g:Nat) (x y:Nat) (r:Rw) (w:World):Prop:=w.cell? ⟨b,off+1,none⟩=some (.int .u32 (x:Int))∧w.cell? ⟨b,off+2,none⟩=some (.int .u32 (y:Int))∧F4 g r w
theorem LS.same {b off g x y:Nat} {r:Rw} {w w':World} (h:LS b off g x y r w) (e:w'.heap[b]? =w.heap[b]?) (f:w'.heap[g]? =w.heap[g]?):LS b off g x y r w':=
 ⟨(World.cell?_of_block (a:=⟨b,off+1,none⟩) e).trans h.1,(World.cell?_of_block (a:=⟨b,off+2,none⟩) e).trans h.2.1,h.2.2.same f⟩
theorem zka {P:Program} {md:Region.Mode} {ops:Array Oper} {Q:Exit→Act→World→Prop} {S:World→Prop} {fuel:Nat} {listed:Array Bool} {a:Act} {w:World} (k k2:Nat) (o o2:Oper) (hr:Region.ready md ops listed=[k,k2]) (ho:ops[k]? =some o) (ho2:ops[k2]? =some o2)
  (hw:Region.wanted o (yielded ops a.tmps)=true) (hw2:Region.wanted o2 (yielded ops a.tmps)=true)
  (h:∀ K:Act→World→Prop,(∀ a w,S w→wpAnyH P md ops Q S fuel (listed.setIfInBounds k true) a w→K a w)→Oper.wp P o a w K Q)
  (h2:∀ K:Act→World→Prop,(∀ a w,S w→wpAnyH P md ops Q S fuel (listed.setIfInBounds k2 true) a w→K a w)→Oper.wp P o2 a w K Q):wpAnyH P md ops Q S (fuel+1) listed a w:=by
 refine wpAnyH_all hr us fun j hj=>?_
 have:j=k∨j=k2:=by simpa using hj
 rcases this with rfl|rfl
 ·unfold wpOp
  simp only[ho,hw,if_true];exact .inl (h _ fun a w h1 h2=>⟨h1,h2⟩)
 ·unfold wpOp
  simp only[ho2,hw2,if_true];exact .inl (h2 _ fun a w h1 h2=>⟨h1,h2⟩)
structure LJ (l:List Rw) (w:World) (k:Nat) (X Y L:Nat) (W:World):Prop where
 res:W.heap[w.heap.size]? =some (.cells #[.int .u32 0,.int .u32 0,.int .i64 0] 70 (0,0))
 o:W.heap[w.heap.size+1]? =some (.cells #[.int .u32 (X:Int),.int .u32 (Y:Int),.int .i64 (L:Int)] 70 (0,0))
 bel:Below w.heap.size w W
 is:0<k→L=dU (x0 l) (y0 l) (l.take k)∧X=bR (x0 l) L∧Y=bR (y0 l) L
theorem LJ.size {l:List Rw} {w W:World} {k X Y L:Nat} (h:LJ l w k X Y L W):w.heap.size+2≤W.heap.size:=(zi h.o).1
theorem LJ.next {l:List Rw} {w W W':World} {k X Y L B:Nat} (h:LJ l w k X Y L W) (hb:Below B W W') (hB:w.heap.size+2≤B):LJ l w k X Y L W':=
 ⟨(hb.block _ uo).trans h.res,(hb.block _ uo).trans h.o,h.bel.trans (hb.mono uo),h.is⟩
theorem qG (l:List Rw) (k:Nat) (h:k<l.length):l.take (k+1)=l.take k++[cK l k]:=by
 rw[List.take_add_one,mV h];rfl
theorem sN (x y:Nat) (r:Rw):dU x y [r]=fH x y r.x r.y:=by simp[dU]
theorem LJ.keep {l:List Rw} {w W:World} {k X Y L:Nat} (h:LJ l w k X Y L W) (hk:k<l.length) (h0:0<k) (hl:fH (x0 l) (y0 l) (cK l k).x (cK l k).y≤L):LJ l w (k+1) X Y L W:=
 ⟨h.res,h.o,h.bel,fun _=>by
  obtain⟨a,b,c⟩:=h.is h0;refine⟨?_,b,c⟩;rw[qG l k hk,pT,←a,sN];omega⟩
theorem LJ.put {l:List Rw} {w W:World} {k X Y L:Nat} (h:LJ l w k X Y L W) (hk:k<l.length) (v:Nat) (hv:v=fH (x0 l) (y0 l) (cK l k).x (cK l k).y) (hm:0<k→L<v):
  LJ l w (k+1) (bR (x0 l) v) (bR (y0 l) v) v (((W.setCell ⟨w.heap.size+1,0,none⟩ (.int .u32 ((bR (x0 l) v:Nat):Int))).setCell ⟨w.heap.size+1,1,none⟩ (.int .u32 ((bR (y0 l) v:Nat):Int))).setCell ⟨w.heap.size+1,2,none⟩ (.int .i64 (v:Int))):=by
 have hs:=h.size;obtain⟨h2,b2⟩:=lM h.o (.int .u32 ((bR (x0 l) v:Nat):Int)) (.int .u32 ((bR (y0 l) v:Nat):Int)) (.int .i64 (v:Int));refine⟨(b2.block _ uo).trans h.res,h2,h.bel.trans (b2.mono uo),fun _=>⟨?_,rfl,rfl⟩⟩;rw[qG l k hk,pT,sN,←hv];by_cases h0:0<k
 ·have:=(h.is h0).1
  have:=hm h0;omega
 ·obtain rfl:k=0:=uo
  simp[dU]
theorem ziR {fn:Func} {p:Tmp} (h:fn.results=#[.cell p 70]) (tmps:Array Value) (w:World) (g:Nat) (X Y:Nat) (L:Int) {t:TypeId} {fr:Nat × Nat}
  (hp:tmps.getD p undef=.pointer (some ⟨g,0,none⟩)) (hg:w.heap[g]? =some (.cells #[.int .u32 (X:Int),.int .u32 (Y:Int),.int .i64 L] t fr)):(results fn tmps).run Tryz.prog w=.ok (cv X Y L) w:=by
 have hp':tmps[p]?.getD undef=.pointer (some ⟨g,0,none⟩):=by simpa using hp
 have c0:w.cell? ⟨g,0,none⟩=some (.int .u32 (X:Int)):=by rw[zr hg];rfl
 have c1:w.cell? ⟨g,1,none⟩=some (.int .u32 (Y:Int)):=by rw[zr hg];rfl
 have c2:w.cell? ⟨g,2,none⟩=some (.int .i64 L):=by rw[zr hg];rfl
 simp[results,h,hp',asAddr,go_sem,c0,c1,c2]
theorem zez (l:List Rw) (o:Option Addr) (cap:Nat) (w:World) (hr:cH w o cap l) (hne:0<l.length) (hon:On l) (hmax:l.length≤1000):
  Calls Tryz.prog 100 #[.slice o l.length cap] w fun e w'=>e=.returned (cv (cx l) (cy l) (cQ l))∧Below w.heap.size w w':=by
 have HT:=fJ w (.cells #[.int .u32 0,.int .u32 0,.int .i64 0] 70) (.cells #[.int .u32 0,.int .u32 0,.int .i64 0] 70);have H0:Hid (LJ l w 0 0 0 0 ((w.alloc (.cells #[.int .u32 0,.int .u32 0,.int .i64 0] 70)).alloc (.cells #[.int .u32 0,.int .u32 0,.int .i64 0] 70))):=⟨HT.1,HT.2.1,HT.2.2,fun h=>absurd h uo⟩;clear HT;go_enter Tryz.func100,Tryz.ntmps100;go_wp2_with fail
 go_loopw [10] (fun i wr=>∃ k:Nat,k≤l.length∧i=.int .i64 (k:Int)∧∃ X Y L,LJ l w k X Y L wr) (fun i _=>l.length - bu i)
 case atStart=>exact⟨0,by omega,rfl,0,0,0,H0.o⟩
 case round=>
  obtain⟨k,hk,rfl,X,Y,L,hj⟩:=hrel;have HJ:Hid (LJ l w k X Y L wr):=hj;have hsz:=hj.size;by_cases hlt:k<l.length
  ·obtain⟨b,off,rfl,hbl,hc⟩:=(hr.below hj.bel zn).row hlt
   have hbw:b<w.heap.size:=by
    obtain⟨b',off',e,h,_⟩:=hr.row hlt;cases e;exact h
   obtain⟨c0,c1,c2,c3⟩:=hc k hlt;obtain⟨_,d1,d2,_⟩:=hc 0 hne;rw[Nat.zero_mul,Nat.add_zero,←zpo,←zpp] at*
   have q1:(k:Int)<(l.length:Int):=uo
   have q2:(0:Int)<(l.length:Int):=uo
   have k0:(0:Int)≤(k:Int):=uo
   have k1:(k:Int)+1≤9223372036854775807:=uo
   have onr:=hon _ (mW hlt);have on0':=mX hon;have HC:Hid _:=qF (x0 l) (y0 l) (cK l k).x (cK l k).y;rw[show ir (x0 l) (y0 l) (cK l k).x (cK l k).y=(bR (x0 l) (fH (x0 l) (y0 l) (cK l k).x (cK l k).y),bR (y0 l) (fH (x0 l) (y0 l) (cK l k).x (cK l k).y),(fH (x0 l) (y0 l) (cK l k).x (cK l k).y:Int),0) by unfold ir;rw[if_pos ⟨pZ on0'.1 on0'.2,pZ onr.1 onr.2⟩]] at HC;simp only[qv] at HC;have HP:Hid _:=fun(W:World) (h:LJ l w k X Y L W)=>h.put hlt _ rfl
   have HKp:Hid _:=fun(W:World) (h:LJ l w k X Y L W)=>h.keep hlt
   generalize fH (x0 l) (y0 l) (cK l k).x (cK l k).y=lv at*
   generalize bR (x0 l) lv=fx at*
   generalize bR (y0 l) lv=fy at*
   generalize x0 l=xx at*
   generalize y0 l=yy at*
   generalize hr0:cK l k=r at*
   obtain⟨id,x,y,v⟩:=r;simp only at c0 c1 c2 c3 HC;clear hr0 hc onr on0' hj;have HBn:Hid (Below wr.heap.size wr (wr.alloc (.cells #[.int .u64 (id:Int),.int .u32 (x:Int),.int .u32 (y:Int),.string v] 79)).drew):=(bF wr _).drew
   have HSW:Hid (LS b off wr.heap.size xx yy ⟨id,x,y,v⟩ (wr.alloc (.cells #[.int .u64 (id:Int),.int .u32 (x:Int),.int .u32 (y:Int),.string v] 79)).drew):=
    ⟨(World.cell?_of_block (a:=⟨b,off+1,none⟩) (HBn.o.block b hbl)).trans d1,(World.cell?_of_block (a:=⟨b,off+2,none⟩) (HBn.o.block b hbl)).trans d2,F4.of (zq wr _)⟩
   have hlt2:wr.heap.size<(wr.alloc (.cells #[.int .u64 (id:Int),.int .u32 (x:Int),.int .u32 (y:Int),.string v] 79)).drew.heap.size:=by simp
   clear d1 d2;go_wp2_with fail;refine wp_region_held (S:=LS b off wr.heap.size xx yy ⟨id,x,y,v⟩) uk ?_;change wpAnyH _ _ _ _ _ _ _ _ (World.drew _);refine bB [0,1,2,3,4,5,6,7,8,9,10,11] ?_
   iterate 12
    refine bS (v:=?_) rfl ?_ HSW.o ?_;rotate_left
    ·rintro w ⟨e1,e2,e3,e4,e5,e6⟩;go_simp;try with_reducible rfl
    conv in(Act.put _ _ _)=>simp only[bH,bI,bJ,Act.put,bK,bL,bM]
   refine bA ?_;refine zka 12 16 _ _ uk rfl rfl uk uk (fun K hK=>?_) (fun K hK=>?_)
   ·go_simp
    refine um (HC.o _) fun w1 b1=>?_;have HJ1:Hid (LJ l w k X Y L w1):=(HJ.o.next HBn.o hsz).next b1 uo
    replace HSW:Hid (LS b off wr.heap.size xx yy ⟨id,x,y,v⟩ w1):=HSW.o.same (b1.block _ uo) (b1.block _ hlt2)
    have hs1:wr.heap.size<w1.heap.size:=Nat.lt_of_lt_of_le hlt2 b1.size;refine hK _ _ HSW.o ?_;clear hK K b1;refine bB [13,14,15] ?_
    iterate 3
     refine bS (v:=?_) rfl ?_ HSW.o ?_;rotate_left
     ·rintro w ⟨e1,e2,e3,e4,e5,e6⟩;go_simp;try with_reducible rfl
     conv in(Act.put _ _ _)=>simp only[bH,bI,bJ,Act.put,bK,bL,bM]
    refine bA ?_;refine dF 16 _ uk rfl uk (fun K hK=>?_);go_simp;have HJ2:=HJ1.o.next (bF w1 (.cells #[.int .u32 0,.int .u32 0,.int .i64 0] 70)) (by have:=HJ1.o.size;omega);have HG2:Hid ((w1.alloc (.cells #[.int .u32 0,.int .u32 0,.int .i64 0] 70)).heap[w1.heap.size]? =some (.cells #[.int .u32 0,.int .u32 0,.int .i64 0] 70 (0,0))):=zq w1 _;have hbn:=bF w1 (.cells #[.int .u32 0,.int .u32 0,.int .i64 0] 70)
    replace HSW:Hid (LS b off wr.heap.size xx yy ⟨id,x,y,v⟩ (w1.alloc (.cells #[.int .u32 0,.int .u32 0,.int .i64 0] 70))):=HSW.o.same (hbn.block _ uo) (hbn.block _ hs1)
    refine hK _ _ HSW.o ?_;clear hK K hbn;obtain⟨g6,hg6'⟩:∃ g6,w1.heap.size=g6:=⟨_,rfl⟩;have hg6:w.heap.size+2≤g6:=by have:=HJ1.o.size;omega
    have hg6b:wr.heap.size<g6:=uo
    obtain⟨W2,hW2⟩:∃ W2,w1.alloc (.cells #[.int .u32 0,.int .u32 0,.int .i64 0] 70)=W2:=⟨_,rfl⟩;rw[hW2] at HJ2 HG2 HSW ⊢;rw[hg6'] at HG2 ⊢;clear hW2 hg6' HJ1 hs1;have HJ3:Hid (LJ l w k X Y L W2):=HJ2;have HS2:=HSW.o;obtain⟨z0,z1,z2,f0,f1,f2⟩:=gE HG2.o;obtain⟨h3,b3⟩:=lM HG2.o (.int .u32 (fx:Int)) (.int .u32 (fy:Int)) (.int .i64 (lv:Int));have HJ4:Hid (LJ l w k X Y L (((W2.setCell ⟨g6,0,none⟩ (.int .u32 (fx:Int))).setCell ⟨g6,1,none⟩ (.int .u32 (fy:Int))).setCell ⟨g6,2,none⟩ (.int .i64 (lv:Int)))):=HJ3.o.next b3 hg6;have HG4:Hid _:=h3
    replace HSW:Hid (LS b off wr.heap.size xx yy ⟨id,x,y,v⟩ (((W2.setCell ⟨g6,0,none⟩ (.int .u32 (fx:Int))).setCell ⟨g6,1,none⟩ (.int .u32 (fy:Int))).setCell ⟨g6,2,none⟩ (.int .i64 (lv:Int)))):=HSW.o.same (b3.block _ uo) (b3.block _ uo)
    clear h3 b3 HS2;refine dF 17 _ uk rfl uk (fun K hK=>?_);go_simp;refine hK _ _ HSW.o ?_;clear hK K f0 f1 f2 z0 z1 z2;obtain⟨W3,hW3⟩:∃ W3,((W2.setCell ⟨g6,0,none⟩ (.int .u32 (fx:Int))).setCell ⟨g6,1,none⟩ (.int .u32 (fy:Int))).setCell ⟨g6,2,none⟩ (.int .i64 (lv:Int))=W3:=⟨_,rfl⟩;rw[hW3] at HJ4 HG4 HSW ⊢;clear hW3 HJ3 HJ2 HG2;refine bB [18] ?_;refine bS (v:=?_) rfl ?_ HSW.o ?_;rotate_left
    ·rintro w ⟨e1,e2,e3,e4,e5,e6⟩;go_simp;try with_reducible rfl
    conv in(Act.put _ _ _)=>simp only[bH,bI,bJ,Act.put,bK,bL,bM]
    refine bA ?_;refine wpAnyH_done uk ?_ _;clear HSW
    rename_i hKK
    refine hKK _ _ ?_;clear hKK;obtain⟨y0,y1,y2,f0,f1,f2⟩:=gE HG4.o;clear y0 y1 y2;obtain⟨z0,z1,z2,t0,t1,t2⟩:=gE HJ4.o.o;clear HG4;obtain⟨zk,hzk⟩:∃ zk:Int,(k:Int)=zk:=⟨_,rfl⟩;have HZ:Hid ((k:Int)=zk):=hzk;have hq5:zk=0↔k=0:=uo
    rw[hzk] at k0 k1 q1 ⊢;clear hzk;by_cases hk0:k=0
    ·have q5:(zk==0)=true:=by rw[beq_iff_eq];exact hq5.2 hk0
     have HL:Hid _:=HP.o W3 HJ4.o (fun h=>absurd h uo);clear hk0 hq5;go_wp2_with fail
     go_roundw
     case rel=>exact⟨k+1,by omega,by rw[←HZ.o];go_num,_,_,_,HL.o⟩
     case measure=>rw[←HZ.o];simp[bu];omega
    ·have q5:(zk==0)=false:=by rw[beq_eq_false_iff_ne];exact fun e=>hk0 (hq5.1 e)
     by_cases hlv:L<lv
     ·have q6:decide (L<lv)=true:=decide_eq_true hlv
      have HL:Hid _:=HP.o W3 HJ4.o (fun _=>hlv);clear hk0 hlv hq5;go_wp2_with fail
      go_roundw
      case rel=>exact⟨k+1,by omega,by rw[←HZ.o];go_num,_,_,_,HL.o⟩
      case measure=>rw[←HZ.o];simp[bu];omega
     ·have q6:decide (L<lv)=false:=decide_eq_false hlv
      have HL:Hid _:=HKp.o W3 HJ4.o uo uo;clear hk0 hlv hq5;go_wp2_with fail
      go_roundw
      case rel=>exact⟨k+1,by omega,by rw[←HZ.o];go_num,_,_,_,HL.o⟩
      case measure=>rw[←HZ.o];simp[bu];omega
   ·go_simp
    have hb2:=(bF (wr.alloc (.cells #[.int .u64 (id:Int),.int .u32 (x:Int),.int .u32 (y:Int),.string v] 79)) (.cells #[.int .u32 0,.int .u32 0,.int .i64 0] 70)).drew;have hs2:(wr.alloc (.cells #[.int .u64 (id:Int),.int .u32 (x:Int),.int .u32 (y:Int),.string v] 79)).heap.size=wr.heap.size+1:=by simp
    rw[hs2] at hb2
    have HG1:((wr.alloc (.cells #[.int .u64 (id:Int),.int .u32 (x:Int),.int .u32 (y:Int),.string v] 79)).alloc (.cells #[.int .u32 0,.int .u32 0,.int .i64 0] 70)).drew.heap[wr.heap.size+1]? =some (.cells #[.int .u32 0,.int .u32 0,.int .i64 0] 70 (0,0)):=by
     have:=zq (wr.alloc (.cells #[.int .u64 (id:Int),.int .u32 (x:Int),.int .u32 (y:Int),.string v] 79)) (.cells #[.int .u32 0,.int .u32 0,.int .i64 0] 70);rw[hs2] at this;exact this
    have HJ1:LJ l w k X Y L ((wr.alloc (.cells #[.int .u64 (id:Int),.int .u32 (x:Int),.int .u32 (y:Int),.string v] 79)).alloc (.cells #[.int .u32 0,.int .u32 0,.int .i64 0] 70)).drew:=(HJ.o.next (bF wr _) hsz).next hb2 uo
    have HS1:LS b off wr.heap.size xx yy ⟨id,x,y,v⟩ ((wr.alloc (.cells #[.int .u64 (id:Int),.int .u32 (x:Int),.int .u32 (y:Int),.string v] 79)).alloc (.cells #[.int .u32 0,.int .u32 0,.int .i64 0] 70)).drew:=
     HSW.o.same (hb2.block _ uo) (hb2.block _ uo)
    refine hK _ _ HS1 ?_;clear hK K hb2;obtain⟨g6,hg6'⟩:∃ g6,wr.heap.size+1=g6:=⟨_,rfl⟩;have hg6:w.heap.size+2≤g6:=uo
    have hg6b:wr.heap.size<g6:=uo
    obtain⟨W1,hW1⟩:∃ W1,((wr.alloc (.cells #[.int .u64 (id:Int),.int .u32 (x:Int),.int .u32 (y:Int),.string v] 79)).alloc (.cells #[.int .u32 0,.int .u32 0,.int .i64 0] 70)).drew=W1:=⟨_,rfl⟩;rw[hW1] at HJ1 HG1 HS1 ⊢;rw[hg6'] at HG1 ⊢;clear hW1 hg6' HSW hs2;have hgs:g6<W1.heap.size:=(zi HG1).1;refine dF 12 _ uk rfl uk (fun K hK=>?_);go_simp;refine um (HC.o _) fun W2 b1=>?_;have HJ2:LJ l w k X Y L W2:=HJ1.next b1 uo;have HSW:Hid (LS b off wr.heap.size xx yy ⟨id,x,y,v⟩ W2):=HS1.same (b1.block _ uo) (b1.block _ uo);have HG2:Hid (W2.heap[g6]? =some (.cells #[.int .u32 0,.int .u32 0,.int .i64 0] 70 (0,0))):=(b1.block _ hgs).trans HG1;refine hK _ _ HSW.o ?_;clear hK K b1 HJ1 HS1 HG1 hgs;refine bB [13,14,15] ?_
    iterate 3
     refine bS (v:=?_) rfl ?_ HSW.o ?_;rotate_left
     ·rintro w ⟨e1,e2,e3,e4,e5,e6⟩;go_simp;try with_reducible rfl
     conv in(Act.put _ _ _)=>simp only[bH,bI,bJ,Act.put,bK,bL,bM]
    refine bA ?_;have HJ3:Hid (LJ l w k X Y L W2):=HJ2;have HS2:=HSW.o;obtain⟨z0,z1,z2,f0,f1,f2⟩:=gE HG2.o;obtain⟨h3,b3⟩:=lM HG2.o (.int .u32 (fx:Int)) (.int .u32 (fy:Int)) (.int .i64 (lv:Int));have HJ4:Hid (LJ l w k X Y L (((W2.setCell ⟨g6,0,none⟩ (.int .u32 (fx:Int))).setCell ⟨g6,1,none⟩ (.int .u32 (fy:Int))).setCell ⟨g6,2,none⟩ (.int .i64 (lv:Int)))):=HJ3.o.next b3 hg6;have HG4:Hid _:=h3
    replace HSW:Hid (LS b off wr.heap.size xx yy ⟨id,x,y,v⟩ (((W2.setCell ⟨g6,0,none⟩ (.int .u32 (fx:Int))).setCell ⟨g6,1,none⟩ (.int .u32 (fy:Int))).setCell ⟨g6,2,none⟩ (.int .i64 (lv:Int)))):=HSW.o.same (b3.block _ uo) (b3.block _ uo)
    clear h3 b3 HS2;refine dF 17 _ uk rfl uk (fun K hK=>?_);go_simp;refine hK _ _ HSW.o ?_;clear hK K f0 f1 f2 z0 z1 z2;obtain⟨W3,hW3⟩:∃ W3,((W2.setCell ⟨g6,0,none⟩ (.int .u32 (fx:Int))).setCell ⟨g6,1,none⟩ (.int .u32 (fy:Int))).setCell ⟨g6,2,none⟩ (.int .i64 (lv:Int))=W3:=⟨_,rfl⟩;rw[hW3] at HJ4 HG4 HSW ⊢;clear hW3 HJ3 HJ2 HG2;refine bB [18] ?_;refine bS (v:=?_) rfl ?_ HSW.o ?_;rotate_left
    ·rintro w ⟨e1,e2,e3,e4,e5,e6⟩;go_simp;try with_reducible rfl
    conv in(Act.put _ _ _)=>simp only[bH,bI,bJ,Act.put,bK,bL,bM]
    refine bA ?_;refine wpAnyH_done uk ?_ _;clear HSW
    rename_i hKK
    refine hKK _ _ ?_;clear hKK;obtain⟨y0,y1,y2,f0,f1,f2⟩:=gE HG4.o;clear y0 y1 y2;obtain⟨z0,z1,z2,t0,t1,t2⟩:=gE HJ4.o.o;clear HG4;obtain⟨zk,hzk⟩:∃ zk:Int,(k:Int)=zk:=⟨_,rfl⟩;have HZ:Hid ((k:Int)=zk):=hzk;have hq5:zk=0↔k=0:=uo
    rw[hzk] at k0 k1 q1 ⊢;clear hzk;by_cases hk0:k=0
    ·have q5:(zk==0)=true:=by rw[beq_iff_eq];exact hq5.2 hk0
     have HL:Hid _:=HP.o W3 HJ4.o (fun h=>absurd h uo);clear hk0 hq5;go_wp2_with fail
     go_roundw
     case rel=>exact⟨k+1,by omega,by rw[←HZ.o];go_num,_,_,_,HL.o⟩
     case measure=>rw[←HZ.o];simp[bu];omega
    ·have q5:(zk==0)=false:=by rw[beq_eq_false_iff_ne];exact fun e=>hk0 (hq5.1 e)
     by_cases hlv:L<lv
     ·have q6:decide (L<lv)=true:=decide_eq_true hlv
      have HL:Hid _:=HP.o W3 HJ4.o (fun _=>hlv);clear hk0 hlv hq5;go_wp2_with fail
      go_roundw
      case rel=>exact⟨k+1,by omega,by rw[←HZ.o];go_num,_,_,_,HL.o⟩
      case measure=>rw[←HZ.o];simp[bu];omega
     ·have q6:decide (L<lv)=false:=decide_eq_false hlv
      have HL:Hid _:=HKp.o W3 HJ4.o uo uo;clear hk0 hlv hq5;go_wp2_with fail
      go_roundw
      case rel=>exact⟨k+1,by omega,by rw[←HZ.o];go_num,_,_,_,HL.o⟩
      case measure=>rw[←HZ.o];simp[bu];omega
  ·obtain rfl:k=l.length:=uo
   have q1:¬(l.length:Int)<(l.length:Int):=uo
   obtain⟨z0,z1,z2,f0,f1,f2⟩:=gE HJ.o.res;obtain⟨_,_,_,t0,t1,t2⟩:=gE HJ.o.o;obtain⟨a1,a2,a3⟩:=HJ.o.is hne;rw[List.take_length] at a1;obtain⟨h3,b3⟩:=lM HJ.o.res (.int .u32 (X:Int)) (.int .u32 (Y:Int)) (.int .i64 (L:Int));have H3:Hid _:=h3;have B3:Hid (Below w.heap.size w _):=HJ.o.bel.trans b3
   have HX:Hid (cv X Y (L:Int)=cv (cx l) (cy l) (cQ l)):=by
    refine(?_:cv X Y (L:Int)=cv (cx l) (cy l) (cQ l));rw[a2,a3,a1];rfl
   clear hj h3 b3 a1 a2 a3;go_wp2_with fail;refine bodyPost_ret (ziR rfl _ _ _ _ _ _ rfl H3.o) rfl ⟨by rw[HX.o],B3.o⟩
section
variable {P : Program} {ops : Array Oper} {Q : Exit → Act → World → Prop} {md : Region.Mode} {S : World → Prop}
def jm (P:Program) (md:Region.Mode) (ops:Array Oper) (Q:Exit→Act→World→Prop) (S:World→Prop) (z:Nat):Nat→Array Bool→Act→World→Prop
 |0,listed,a,w=>Region.ready md ops listed=[]∧Q .normal a w
 |fuel+1,listed,a,w=>
  (Region.ready md ops listed=[]→Q .normal a w)∧
  ∀ i∈Region.ready md ops listed,wpOp P ops Q i (fun a' w'=>(i≠z→S w')∧jm P md ops Q S z fuel (listed.setIfInBounds i true) a' w') a w
def qH (md:Region.Mode) (ops:Array Oper) (z j:Nat):Bool:=
 match ops[z]? with
 |some oz=>oz.after.any fun e=>e.on==j&&Region.binds md e
 |none=>false
theorem ziO {z j:Nat} {listed:Array Bool} (h:qH md ops z j=true) (hz:z∈Region.ready md ops listed):listed.getD j false=true:=by
 obtain⟨_,oz,ho,hall⟩:=mem_ready.1 hz;unfold qH at h;rw[ho] at h;simp only[Array.any_eq_true,Bool.and_eq_true,beq_iff_eq] at h;obtain⟨k,hk,h1,h2⟩:=h;rw[←h1];exact hall _ (Array.getElem_mem hk) h2
theorem zfN {z i:Nat} (hwz:qH md ops z i=true) {oi:Oper} {v:Value} (hi:ops[i]? =some oi) (hsel:∀ (j:Nat) (o:Oper) cs b,ops[j]? =some o→o.op≠ .select cs b)
  (hQ:∀ c a w,Q (.panic c) (a.put oi.dst v) w→Q (.panic c) a w):
  ∀ (fuel:Nat) (listed:Array Bool) (a:Act) (w:World),
   (∀ j oj,ops[j]? =some oj→j≠i→listed.getD j true=false→(∀ e∈oj.after,Region.binds md e=true→e.on≠i)→oi.apart ops oj=true)→
   i∈Region.ready md ops listed→YieldsIf P ops S oi v a→S w→
   jm P md ops Q S z fuel (listed.setIfInBounds i true) (a.put oi.dst v) w→jm P md ops Q S z (fuel+1) listed a w:=by
 intro fuel
 induction fuel with
 |zero=>
  intro listed a w _ hr hy hS H;refine⟨fun h=>(by rw[h] at hr;cases hr),fun j hj=>?_⟩;by_cases hji:j=i
  ·subst hji;exact hy.wpOp hi hS ⟨fun _=>hS,H⟩
  ·have:=ready_mono hj hji
   rw[H.1] at this;cases this
 |succ fuel ih=>
  intro listed a w hfree hr hy hS H;refine⟨fun h=>(by rw[h] at hr;cases hr),fun j hj=>?_⟩;by_cases hji:j=i
  ·subst hji;exact hy.wpOp hi hS ⟨fun _=>hS,H⟩
  ·have hjz:j≠z:=fun e=>by
    subst e;have h1:=ziO hwz hj;have h0:=(mem_ready.1 hr).1;rcases Nat.lt_or_ge i listed.size with h'|h'
    ·simp[h'] at h0 h1;rw[h0] at h1;cases h1
    ·simp[Array.getElem?_eq_none h'] at h1
   have h1:=H.2 j (ready_mono hj hji);obtain⟨hjun,oj,hoj,hall⟩:=mem_ready.1 hj
   have hnot:∀ e∈oj.after,Region.binds md e=true→e.on≠i:=fun e he hb heq=>by
    have h1:=hall e he hb;have h0:=(mem_ready.1 hr).1;rw[heq] at h1;rcases Nat.lt_or_ge i listed.size with h'|h'
    ·simp[h'] at h0 h1;rw[h0] at h1;cases h1
    ·simp[Array.getElem?_eq_none h'] at h1
   have h2:=wpOp_putIf hoj (hfree j oj hoj hji hjun hnot) (fun cs b=>hsel i oi cs b hi) (fun cs b=>hsel j oj cs b hoj) hQ hy h1
   have hfree':∀ k ok,ops[k]? =some ok→k≠i→(listed.setIfInBounds j true).getD k true=false→
     (∀ e∈ok.after,Region.binds md e=true→e.on≠i)→oi.apart ops ok=true:=fun k ok hk hki hun hno=>by
    refine hfree k ok hk hki ?_ hno;by_cases hjk:j=k
    ·subst hjk;exact hjun
    ·rw[getD_set_ne true hjk] at hun;exact hun
   refine wpOp_mono (fun a' w' h3=>⟨fun _=>h3.2.1 hjz,ih (listed.setIfInBounds j true) a' w' hfree' (ready_mono hr (Ne.symm hji)) h3.1 (h3.2.1 hjz) ?_⟩) h2;rw[Array.setIfInBounds_comm _ _ hji];exact h3.2.2
theorem lD {z i:Nat} (hwz:qH md ops z i=true) {oi:Oper} {v:Value} {fuel:Nat} {listed:Array Bool} {a:Act} {w:World} (hi:ops[i]? =some oi)
  (hs:Region.noSelect ops=true) (hf:Region.free md ops listed i=true) (hr:(Region.ready md ops listed).contains i=true)
  (hQ:∀ c a w,Q (.panic c) (a.put oi.dst v) w→Q (.panic c) a w) (hy:YieldsIf P ops S oi v a) (hS:S w)
  (h:jm P md ops Q S z fuel (listed.setIfInBounds i true) (a.put oi.dst v) w):jm P md ops Q S z (fuel+1) listed a w:=
 zfN hwz hi (Region.noSelect_spec hs) hQ fuel listed a w (Region.free_spec hi hf) (by simpa using hr) hy hS h
theorem ziP {z:Nat} {oz:Oper} {listed:Array Bool} {a:Act} {w:World} (ho:ops[z]? =some oz) (hr:Region.ready md ops listed=[z]) (hr2:Region.ready md ops (listed.setIfInBounds z true)=[])
  (hw:Region.wanted oz (yielded ops a.tmps)=true) (h:oz.wp P a w (fun a' w'=>Q .normal a' w') Q):jm P md ops Q S z 1 listed a w:=by
 refine⟨fun h0=>(by rw[hr] at h0;cases h0),fun i hi=>?_⟩;rw[hr,List.mem_singleton] at hi;subst hi;unfold wpOp;simp only[ho,hw,if_true];exact .inl (Oper.wp_mono (fun a' w' hq=>⟨fun e=>absurd rfl e,hr2,hq⟩) h)
theorem zdS {z:Nat}:∀ (fuel:Nat) (listed:Array Bool) (a:Act) (w:World),jm P md ops Q S z fuel listed a w→wpAny P md ops Q fuel listed a w
 |0,_,_,_,h=>h
 |fuel+1,_,_,_,h=>⟨h.1,fun i hi=>wpOp_mono (fun a w hq=>zdS fuel _ a w hq.2) (h.2 i hi)⟩
theorem zfO {z id:Nat} {a:Act} {w:World} (hm:P.follows .mixedOrders=true) (h:jm P .any ops Q S z ops.size (Array.replicate ops.size false) a w.drew):(Code.region id ops true).wp P Q a w:=
 wp_region_any hm (zdS _ _ _ _ h)
theorem oc {z fuel:Nat} {listed:Array Bool} {a:Act} {w:World} (k:Nat) (o:Oper) (hr:Region.ready md ops listed=[k]) (ho:ops[k]? =some o) (hw:Region.wanted o (yielded ops a.tmps)=true)
  (h:∀ K:Act→World→Prop,(∀ a w,S w→jm P md ops Q S z fuel (listed.setIfInBounds k true) a w→K a w)→Oper.wp P o a w K Q):jm P md ops Q S z (fuel+1) listed a w:=by
 refine⟨fun h0=>(by rw[hr] at h0;cases h0),fun j hj=>?_⟩;rw[hr,List.mem_singleton] at hj;subst hj;unfold wpOp;simp only[ho,hw,if_true];exact .inl (h _ fun a w h1 h2=>⟨fun _=>h1,h2⟩)
theorem zj8 {o:Oper} {a:Act} {w:World} {K:Act→World→Prop} (t u:TypeId) (s x:Operand) (ho:o.op=.call { callee:=.builtin .append,args:=#[s,x],argTypes:=#[t,u] })
  {vs vx v':Value} {w':World} (hs:a.eval s=vs) (hx:a.eval x=vx) (hrun:(Builtin.append_ #[t,u] o.type #[vs,vx]).run P w=.ok v' w') (hK:K (a.put o.dst v') w'):Oper.wp P o a w K Q:=by
 unfold Oper.wp execOp;simp only[ho,resolve,invoke,builtin,Sem.run_bind,Sem.run_pure,Result.andThen_ok,List.map_toArray,List.map_cons,List.map_nil,hs,hx,hrun];exact hK
end
end Rq
namespace Rq
open Go.RowKit Go.Lib Go.Shelf
open Rc
def pk (n:Nat) (l:List Rw) (k q:Nat):List Rw:=(l.take k).filter fun r=>wq n r.x r.y==q
theorem sQ (n:Nat) (l:List Rw) (k q:Nat) (h:k<l.length):pk n l (k+1) q=pk n l k q++(if wq n (cK l k).x (cK l k).y=q then[cK l k] else[]):=by
 unfold pk;rw[qG l k h,List.filter_append]
 congr 1
 by_cases e:wq n (cK l k).x (cK l k).y=q
 ·rw[if_pos e,List.filter_cons,if_pos (by simp[e])];rfl
 ·rw[if_neg e,List.filter_cons,if_neg (by simp[e])];rfl
theorem zpv (n:Nat) (l:List Rw) (k q:Nat):(pk n l k q).length≤l.length:=
 Nat.le_trans (List.length_filter_le _ _) (by rw[List.length_take];omega)
theorem iY (w:World) (a b c:Obj):(((w.alloc a).alloc b).alloc c).heap[w.heap.size]? =some a∧(((w.alloc a).alloc b).alloc c).heap[w.heap.size+1]? =some b∧(((w.alloc a).alloc b).alloc c).heap[w.heap.size+2]? =some c∧Below w.heap.size w (((w.alloc a).alloc b).alloc c)∧(((w.alloc a).alloc b).alloc c).heap.size=w.heap.size+3:=by
 obtain⟨d,e,f⟩:=fJ w a b;refine⟨(Below.heap_alloc _ _ _ (by simp;omega)).trans d,(Below.heap_alloc _ _ _ us).trans e,?_,f.alloc (by simp;omega) _,by simp⟩;have:=zq ((w.alloc a).alloc b) c;simpa using this
structure SJ (n:Nat) (l:List Rw) (w:World) (k:Nat) (vs:Nat→Value) (X Y:Nat) (L:Int) (W:World):Prop where
 cel:W.heap[w.heap.size]? =some (.cells #[.int .u32 (X:Int),.int .u32 (Y:Int),.int .i64 L] 70 (0,0))
 res:W.heap[w.heap.size+1]? =some (.cells #[.slice none 0 0,.slice none 0 0,.slice none 0 0,.slice none 0 0] 176 (0,0))
 o:W.heap[w.heap.size+2]? =some (.cells #[vs 0,vs 1,vs 2,vs 3] 176 (0,0))
 rows:∀ q,q<4→W.ownsRow (w.heap.size+3) 79 4 (vs q) (pk n l k q).length ((pk n l k q).flatMap rc)
 apart:∀ p q b,p<4→q<4→p≠q→(vs p).ownBlock=some b→(vs q).ownBlock≠some b
 bel:Below w.heap.size w W
theorem kI {W W':World} {a:Nat} {e:TypeId} {k:Nat} {v:Value} {n:Nat} {f:List Value} (h:W.ownsRow a e k v n f) (j:∀ b,v.ownBlock=some b→b<W.heap.size→W'.heap[b]? =W.heap[b]?):W'.ownsRow a e k v n f:=by
 refine⟨h.1,?_⟩;rcases h.2 with h|⟨g,c,d,rfl,l,i,m⟩
 ·exact .inl h
 ·exact .inr ⟨g,c,d,rfl,l,(j g rfl (zi i).1).trans i,m⟩
theorem fu {W:World} {a:Nat} {e:TypeId} {k:Nat} {v:Value} {n:Nat} {d:List Value} (h:W.ownsRow a e k v n d) {b:Nat} (c:v.ownBlock=some b):a≤b∧b<W.heap.size:=by
 rcases h.2 with⟨rfl,_⟩|⟨g,f,i,rfl,j,l,_⟩
 ·simp[Value.ownBlock] at c
 ·simp[Value.ownBlock] at c;subst c;exact⟨j,(zi l).1⟩
theorem zkc {W:World} {b a:Nat} {e:TypeId} {k:Nat} {v:Value} {n:Nat} {f:List Value} (h:W.ownsRow b e k v n f) (l:a≤b):W.ownsRow a e k v n f:=by
 refine⟨h.1,?_⟩;rcases h.2 with h|⟨g,c,d,rfl,m,i,j⟩
 ·exact .inl h
 ·exact .inr ⟨g,c,d,rfl,by omega,i,j⟩
theorem SJ.size {n:Nat} {l:List Rw} {w:World} {k:Nat} {vs:Nat→Value} {X Y:Nat} {L:Int} {W:World} (h:SJ n l w k vs X Y L W):w.heap.size+3≤W.heap.size:=(zi h.o).1
theorem SJ.next {n:Nat} {l:List Rw} {w:World} {k:Nat} {vs:Nat→Value} {X Y:Nat} {L:Int} {W W':World} (h:SJ n l w k vs X Y L W) (a:Below W.heap.size W W'):SJ n l w k vs X Y L W':=by
 have e:=h.size;exact⟨(a.block _ uo).trans h.cel,(a.block _ uo).trans h.res,(a.block _ uo).trans h.o,fun q d=>kI (h.rows q d) fun b _ c=>a.block b c,h.apart,h.bel.trans (a.mono uo)⟩
def upd (vs:Nat→Value) (q:Nat) (v:Value) (j:Nat):Value:=if j=q then v else vs j
theorem zmi (W:World) (g q:Nat) (vs:Nat→Value) (v:Value) (t:TypeId) (h:W.heap[g]? =some (.cells #[vs 0,vs 1,vs 2,vs 3] t (0,0))) (a:q<4):
  (W.setCell ⟨g,q,none⟩ v).heap[g]? =some (.cells #[upd vs q v 0,upd vs q v 1,upd vs q v 2,upd vs q v 3] t (0,0)):=by
 have:=zx W g q _ _ v h;rw[this];obtain rfl|rfl|rfl|rfl:q=0∨q=1∨q=2∨q=3:=uo
 all_goals rfl
theorem SJ.step {n:Nat} {l:List Rw} {w:World} {k:Nat} {vs:Nat→Value} {X Y:Nat} {L:Int} {W:World} (h:SJ n l w k vs X Y L W) {q:Nat} (m:q<4) (B:k<l.length) (C:wq n (cK l k).x (cK l k).y=q)
  {v':Value} {W':World} (u:W'.ownsRow (w.heap.size+3) 79 4 v' ((pk n l k q).length+1) ((pk n l k q).flatMap rc++rc (cK l k))) (d:W.grownBy W' (vs q).ownBlock) (c:v'.ownBlock=(vs q).ownBlock∨v'.ownBlock=some W.heap.size):
  SJ n l w (k+1) (upd vs q v') X Y L (W'.setCell ⟨w.heap.size+2,q,none⟩ v'):=by
 have G:=h.size;have D:∀ b,b<w.heap.size+3→(vs q).ownBlock≠some b:=fun b f e=>by have:=(fu (h.rows q m) e).1;omega
 have s:=iI W' (w.heap.size+2) q v'
 have a:∀ b,b<w.heap.size+2→(W'.setCell ⟨w.heap.size+2,q,none⟩ v').heap[b]? =W.heap[b]? :=fun b f=>
  (s.block b (by have:=d.size;omega) (by intro e;cases e;omega)).trans (d.block b uo (fun e=>D b uo e.symm))
 refine⟨(a _ uo).trans h.cel,(a _ uo).trans h.res,zmi W' _ q vs v' _ ((d.block _ uo (fun e=>D _ uo e.symm)).trans h.o) m,fun p g=>?_,fun p t b g i v e=>?_,h.bel.trans ⟨d.os,d.tape,d.output,Nat.le_trans d.size s.size,fun b f=>a b uo⟩⟩
 ·unfold upd;by_cases e:p=q
  ·rw[if_pos e,e,sQ n l k q B,if_pos C,List.length_append,List.flatMap_append];refine kI ?_ fun b f _=>s.block b (by have:=fu u f;omega) (by intro r;cases r;have:=(fu u f).1;omega)
   simpa using u
  ·rw[if_neg e,sQ n l k p B,if_neg (fun F=>e (F.symm.trans C)),List.append_nil]
   refine kI (h.rows p g) fun b f z=>?_
   refine(s.block b (by have:=d.size;omega) ?_).trans (d.block b z ?_)
   ·intro r;cases r;have:=(fu (h.rows p g) f).1;omega
   ·exact fun r=>h.apart p q b g m e f r.symm
 ·unfold upd at e ⊢;by_cases A:p=q
  ·rw[if_pos A] at e;rw[if_neg uo]
   intro j;rcases c with c|c
   ·rw[c] at e;exact h.apart t q b i m uo j e
   ·rw[c] at e;cases e;have:=(fu (h.rows t i) j).2;omega
  ·rw[if_neg A] at e;by_cases E:t=q
   ·rw[if_pos E];intro j;rcases c with c|c
    ·rw[c] at j;exact h.apart p q b g m A e j
    ·rw[c] at j;cases j;have:=(fu (h.rows p g) e).2;omega
   ·rw[if_neg E];exact h.apart p t b g i v e
theorem ownsRow_succ {w:World} {base:Nat} {e:TypeId} {k:Nat} {v:Value} {n:Nat} {xs:List Value} (h:w.ownsRow base e k v (n+1) xs):∃ g cap,v=.slice (some ⟨g,0,none⟩) (n+1) cap:=by
 rcases h.2 with⟨_,h⟩|⟨g,cap,cur,rfl,_⟩
 ·omega
 ·exact⟨g,cap,rfl⟩
theorem sR {W:World} {g:Nat} {a b c d:Value} {t:TypeId} (h:W.heap[g]? =some (.cells #[a,b,c,d] t (0,0))):W.cell? ⟨g,0,none⟩=some a∧W.cell? ⟨g,1,none⟩=some b∧W.cell? ⟨g,2,none⟩=some c∧W.cell? ⟨g,3,none⟩=some d:=
 ⟨by rw[zr h];rfl,by rw[zr h];rfl,by rw[zr h];rfl,by rw[zr h];rfl⟩
theorem sS {w:World} {g:Nat} {x y z u:Value} {t:TypeId} (h:w.heap[g]? =some (.cells #[x,y,z,u] t (0,0))) (a b c d:Value):
  ((((w.setCell ⟨g,0,none⟩ a).setCell ⟨g,1,none⟩ b).setCell ⟨g,2,none⟩ c).setCell ⟨g,3,none⟩ d).heap[g]? =some (.cells #[a,b,c,d] t (0,0))∧
  (∀ j,j≠g→((((w.setCell ⟨g,0,none⟩ a).setCell ⟨g,1,none⟩ b).setCell ⟨g,2,none⟩ c).setCell ⟨g,3,none⟩ d).heap[j]? =w.heap[j]?)∧
  Below g w ((((w.setCell ⟨g,0,none⟩ a).setCell ⟨g,1,none⟩ b).setCell ⟨g,2,none⟩ c).setCell ⟨g,3,none⟩ d):=by
 have l:=zx _ g 3 _ _ d (zx _ g 2 _ _ c (zx _ g 1 _ _ b (zx w g 0 _ _ a h)))
 have o:∀ j,j≠g→((((w.setCell ⟨g,0,none⟩ a).setCell ⟨g,1,none⟩ b).setCell ⟨g,2,none⟩ c).setCell ⟨g,3,none⟩ d).heap[j]? =w.heap[j]? :=fun j e=>
  (Below.heap_setCell _ _ _ _ e).trans ((Below.heap_setCell _ _ _ _ e).trans ((Below.heap_setCell _ _ _ _ e).trans (Below.heap_setCell _ _ _ _ e)))
 exact⟨l,o,rfl,rfl,rfl,by simp[World.setCell],fun j e=>o j uo⟩
theorem sU {i:Func} {p:Tmp} (h:i.results=#[.cell p 176]) (e:Array Value) (w:World) (g:Nat) (a b c d:Value) {t:TypeId}
  (j:e.getD p undef=.pointer (some ⟨g,0,none⟩)) (k:w.heap[g]? =some (.cells #[a,b,c,d] t (0,0))):(results i e).run Tryz.prog w=.ok (.agg #[a,b,c,d]) w:=by
 obtain⟨l,m,n,o⟩:=sR k;simp[results,h,(by simpa using j),asAddr,go_sem,l,m,n,o]
def SS (g:Nat) (r:Rw) (g5 q:Nat) (v:Value) (w:World):Prop:=F4 g r w∧w.cell? ⟨g5,q,none⟩=some v
theorem SS.same {g:Nat} {r:Rw} {g5 q:Nat} {v:Value} {w w':World} (h:SS g r g5 q v w) (e:w'.heap[g]? =w.heap[g]?) (f:w'.heap[g5]? =w.heap[g5]?):SS g r g5 q v w':=⟨h.1.same e,(World.cell?_of_block (a:=⟨g5,q,none⟩) f).trans h.2⟩
theorem zob {w:World} {g:Nat} {r:Rw} {t:TypeId} {b:Nat × Nat} (h:w.heap[g]? =some (.cells #[.int .u64 (r.id:Int),.int .u32 (r.x:Int),.int .u32 (r.y:Int),.string r.v] t b)):Sl 4 w (some ⟨g,0,none⟩) 1 1 (rc r):=by
 refine⟨Nat.le_refl _,by decide,(fun e=>by cases e),rfl,fun _=>⟨g,0,rfl,(zi h).1,fun j u a=>?_⟩⟩;rw[Nat.zero_add,zr h];have:j<4:=(List.getElem?_eq_some_iff.1 a).1;obtain rfl|rfl|rfl|rfl:j=0∨j=1∨j=2∨j=3:=uo
 all_goals simpa [rc] using a
theorem zoc (r:Rw):∀ u∈rc r,u.oneCell'=true:=by
 have:=oZ [r];simpa using this
theorem ziS (n:Nat) (l:List Rw) (o:Option Addr) (N:Nat) (w:World) (hr:cH w o N l) (B:On l) (a8:l.length≤1000) (hn:cQ l=n+1):
  Calls Tryz.prog 102 #[cv (cx l) (cy l) (cQ l),.slice o l.length N] w fun e w'=>∃ vs:Nat→Value,e=.returned (.agg #[vs 0,vs 1,vs 2,vs 3])∧
   (∀ q,q<4→w'.ownsRow w.heap.size 79 4 (vs q) (part l q).length ((part l q).flatMap rc))∧Below w.heap.size w w':=by
 obtain⟨X,hX⟩:∃ X,cx l=X:=⟨_,rfl⟩;obtain⟨Y,hY⟩:∃ Y,cy l=Y:=⟨_,rfl⟩;obtain⟨L,hL⟩:∃ L:Int,(cQ l:Int)=L:=⟨_,rfl⟩;have HX:Hid _:=hX;have HY:Hid _:=hY;have HL:Hid _:=hL;rw[hX,hY,hL];go_enter Tryz.func102,Tryz.ntmps102;go_wp2_with fail
 go_loopw [12] (fun i wr=>∃ k:Nat,k≤l.length∧i=.int .i64 (k:Int)∧∃ vs,SJ n l w k vs X Y L wr) (fun i _=>l.length - bu i)
 case atStart=>
  obtain⟨h1,h2,h3,h4,h5⟩:=iY w (.cells #[.int .u32 (X:Int),.int .u32 (Y:Int),.int .i64 L] 70) (.cells #[.slice none 0 0,.slice none 0 0,.slice none 0 0,.slice none 0 0] 176) (.cells #[.slice none 0 0,.slice none 0 0,.slice none 0 0,.slice none 0 0] 176);refine⟨0,by omega,rfl,fun _=>.slice none 0 0,h1,h2,h3,fun q _=>?_,fun p q b _ _ _ e=>by simp[Value.ownBlock] at e,h4⟩;have:pk n l 0 q=[]:=by simp[pk]
  rw[this];exact World.ownsRow_nil _ _ _ _
 case round=>
  obtain⟨k,hk,rfl,vs,hj⟩:=hrel;have j:Hid _:=hj;have O:=hj.size;by_cases g:k<l.length
  ·obtain⟨b,ac,rfl,ad,hc⟩:=(hr.below hj.bel zn).row g
   have ae:b<w.heap.size:=by
    obtain⟨b',a9,e,h,_⟩:=hr.row g;cases e;exact h
   obtain⟨c0,c1,c2,c3⟩:=hc k g;have q1:(k:Int)<(l.length:Int):=uo
   have af:=B _ (mW g);have HC:Hid _:=zj6 X Y L (cK l k).x (cK l k).y (by rw[←HX.o];have:=(mC B).x31;omega) (by rw[←HY.o];have:=(mC B).y31;omega) uo uo;have F:=nR B (mW g);rw[HX.o,HY.o,HL.o] at F;rw[show iq X Y L (cK l k).x (cK l k).y=(wq n (cK l k).x (cK l k).y,0) by unfold iq;rw[if_pos ⟨F,by rw[←HL.o];omega⟩,←HL.o,hn,show(((n+1:Nat):Int) - 1).toNat=n by omega]] at HC;simp only[wv] at HC;have C:=mB n (cK l k).x (cK l k).y;generalize G:wq n (cK l k).x (cK l k).y=q at*
   generalize a0:cK l k=r at*
   obtain⟨id,x,y,v⟩:=r;simp only at c0 c1 c2 c3 HC;obtain⟨t0,t1,t2⟩:=el.cells hj.cel;have HQ:Hid _:=G;have P:Hid _:=a0;have s:Hid _:=O;have aa:w.heap.size<wr.heap.size:=uo
   have a4:Hid (∀ (W:World),SJ n l w k vs X Y L W→∀ H D,D.ownsRow (w.heap.size+3) 79 4 H ((pk n l k q).length+1) ((pk n l k q).flatMap rc++rc ⟨id,x,y,v⟩)→W.grownBy D (vs q).ownBlock→(H.ownBlock=(vs q).ownBlock∨H.ownBlock=some W.heap.size)→SJ n l w (k+1) (upd vs q H) X Y L (D.setCell ⟨w.heap.size+1+1,q,none⟩ H)):=by
    intro W h H D a b c;rw[←P.o] at a;exact h.step C g (by rw[P.o];exact HQ.o) a b c
   have ag:=zpv n l k q;go_wp2_with fail;refine um (HC.o _) fun m b1=>?_;have a5:wr.heap.size<m.heap.size:=by have:=b1.size;simp at this;omega
   have t:Hid _:=(j.o.next (bF wr _)).next b1;have a6:Hid (F4 wr.heap.size ⟨id,x,y,v⟩ m):=F4.same (F4.of (zq wr _)) (b1.block _ us);go_wp2_with fail
   have c5:m.cell? ⟨w.heap.size+1+1,q,none⟩=some (vs q):=by
    rw[zr t.o.o];obtain rfl|rfl|rfl|rfl:q=0∨q=1∨q=2∨q=3:=uo
    all_goals rfl
   have d:Hid (SS wr.heap.size ⟨id,x,y,v⟩ (w.heap.size+1+1) q (vs q) m.drew):=⟨a6.o,c5⟩;have ah:(q:Int)<4:=uo
   have u:Below m.heap.size m (m.alloc (.cells #[.int .u64 (id:Int),.int .u32 (x:Int),.int .u32 (y:Int),.string v] 79)).drew:=(bF m _).drew
   obtain⟨H,D,Q,a1,a2,a3⟩:=iu 22 79 Tryz.underlying22 mF rfl ud ud (m.alloc (.cells #[.int .u64 (id:Int),.int .u32 (x:Int),.int .u32 (y:Int),.string v] 79)).drew (w.heap.size+3) (pk n l k q).length 1 (vs q) (some ⟨m.heap.size,0,none⟩) 1
    ((pk n l k q).flatMap rc) (rc ⟨id,x,y,v⟩) (kI (t.o.rows q C) fun b _ R=>u.block b R) (by have:=t.o.size;simp;omega) (zob (zq m _)) (zoc _) uo
   have T:Hid _:=a4.o _ (t.o.next u) H D a1 a2 a3;obtain⟨g',ab,rfl⟩:=ownsRow_succ a1
   have z6:D.frozen? ⟨w.heap.size+1+1,q,none⟩=false:=by
    refine frozen_of_row D (w.heap.size+1+1) q #[vs 0,vs 1,vs 2,vs 3] 176 ?_;exact(a2.block _ (by have:=s.o;simp;omega) (by intro e;have:=fu (j.o.rows q C) e.symm;omega)).trans ((u.block _ (by have:=s.o;omega)).trans t.o.o)
   have U:Hid (∀ b,(vs q).ownBlock=some b→w.heap.size+3≤b∧b<wr.heap.size):=fun b R=>fu (j.o.rows q C) R
   refine zfO (z:=8) (S:=SS wr.heap.size ⟨id,x,y,v⟩ (w.heap.size+1+1) q (vs q)) uk ?_;change jm _ _ _ _ _ _ 9 _ _ _;refine lD (i:=0) (v:=?_) uk rfl uk uk uk (fun _ _ _ h=>h) (Or.inl ⟨by kernel_rfl,?_⟩) d.o ?_;rotate_left
   ·intro w A
    obtain⟨⟨I,J,M,V⟩,Z⟩:=A;go_simp
    try with_reducible rfl
   conv in(Act.put _ _ _)=>simp only[bH,bI,bJ,Act.put,bK,bL,bM]
   refine lD (i:=1) (v:=?_) uk rfl uk uk uk (fun _ _ _ h=>h) (Or.inl ⟨by kernel_rfl,?_⟩) d.o ?_;rotate_left
   ·intro w A
    obtain⟨⟨I,J,M,V⟩,Z⟩:=A;go_simp
    try with_reducible rfl
   conv in(Act.put _ _ _)=>simp only[bH,bI,bJ,Act.put,bK,bL,bM]
   refine lD (i:=2) (v:=?_) uk rfl uk uk uk (fun _ _ _ h=>h) (Or.inl ⟨by kernel_rfl,?_⟩) d.o ?_;rotate_left
   ·intro w A
    obtain⟨⟨I,J,M,V⟩,Z⟩:=A;go_simp
    try with_reducible rfl
   conv in(Act.put _ _ _)=>simp only[bH,bI,bJ,Act.put,bK,bL,bM]
   refine lD (i:=3) (v:=?_) uk rfl uk uk uk (fun _ _ _ h=>h) (Or.inl ⟨by kernel_rfl,?_⟩) d.o ?_;rotate_left
   ·intro w A
    obtain⟨⟨I,J,M,V⟩,Z⟩:=A;go_simp
    try with_reducible rfl
   conv in(Act.put _ _ _)=>simp only[bH,bI,bJ,Act.put,bK,bL,bM]
   refine lD (i:=4) (v:=?_) uk rfl uk uk uk (fun _ _ _ h=>h) (Or.inl ⟨by kernel_rfl,?_⟩) d.o ?_;rotate_left
   ·intro w A
    obtain⟨⟨I,J,M,V⟩,Z⟩:=A;go_simp
    try with_reducible rfl
   conv in(Act.put _ _ _)=>simp only[bH,bI,bJ,Act.put,bK,bL,bM]
   refine oc 5 _ uk rfl uk (fun K hK=>?_);go_simp
   replace d:Hid (SS wr.heap.size ⟨id,x,y,v⟩ (w.heap.size+1+1) q (vs q) (m.alloc (.cells #[.int .u64 (id:Int),.int .u32 (x:Int),.int .u32 (y:Int),.string v] 79)).drew):=d.o.same (u.block _ a5) (u.block _ (by have:=s.o;omega))
   refine hK _ _ d.o ?_;refine oc 6 _ uk rfl uk (fun K hK=>?_);refine zj8 22 22 (.tmp 28) (.tmp 30) rfl rfl rfl Q ?_
   replace d:Hid (SS wr.heap.size ⟨id,x,y,v⟩ (w.heap.size+1+1) q (vs q) D):=d.o.same (a2.block _ (by simp;omega) (by intro e;have:=U.o _ e.symm;omega)) (a2.block _ (by have:=s.o;simp;omega) (by intro e;have:=U.o _ e.symm;omega))
   refine hK _ _ d.o ?_;clear hK K
   conv in(Act.put _ _ _)=>simp only[bH,bI,bJ,Act.put,bK,bL,bM]
   refine lD (i:=7) (v:=?_) uk rfl uk uk uk (fun _ _ _ h=>h) (Or.inl ⟨by kernel_rfl,?_⟩) d.o ?_;rotate_left
   ·intro w A
    obtain⟨⟨I,J,M,V⟩,Z⟩:=A;go_simp
    try with_reducible rfl
   conv in(Act.put _ _ _)=>simp only[bH,bI,bJ,Act.put,bK,bL,bM]
   refine ziP rfl uk uk uk ?_;have c6:=d.o.2;go_simp
   rename_i a7
   refine a7 _ _ ?_;go_wp2_with fail
   go_roundw
   case rel=>exact⟨k+1,by omega,by go_num,_,T.o⟩
   case measure=>simp[bu];omega
  ·obtain rfl:k=l.length:=uo
   have q1:¬(l.length:Int)<(l.length:Int):=uo
   obtain⟨t0,t1,t2,t3⟩:=sR j.o.o;obtain⟨s0,s1,s2,s3⟩:=sR j.o.res;have z0:=frozen_of_row wr (w.heap.size+1) 0 _ _ j.o.res;have z1:=frozen_of_row wr (w.heap.size+1) 1 _ _ j.o.res;have z2:=frozen_of_row wr (w.heap.size+1) 2 _ _ j.o.res;have z3:=frozen_of_row wr (w.heap.size+1) 3 _ _ j.o.res
   have HR:Hid (∀ q,q<4→wr.ownsRow (w.heap.size+3) 79 4 (vs q) (part l q).length ((part l q).flatMap rc)):=by
    intro q G;have:=j.o.rows q G;have e:pk n l l.length q=part l q:=by unfold pk part;rw[List.take_length,hn];rfl
    rwa[e] at this
   have sl:∀ q,q<4→∃ o n c,vs q=.slice o n c:=fun q G=>by
    obtain⟨o,c,e,_⟩:=dx (HR.o q G);exact⟨o,_,c,e⟩
   obtain⟨o0,n0,p0,e0⟩:=sl 0 uo;obtain⟨o1,n1,p1,I⟩:=sl 1 uo;obtain⟨o2,n2,p2,J⟩:=sl 2 uo;obtain⟨o3,n3,p3,M⟩:=sl 3 uo;obtain⟨f1,f2⟩:=sS j.o.res (vs 0) (vs 1) (vs 2) (vs 3);have F1:Hid _:=f1;have F2:Hid _:=f2;have E:Hid (.agg #[vs 0,vs 1,vs 2,vs 3]=Value.agg #[.slice o0 n0 p0,.slice o1 n1 p1,.slice o2 n2 p2,.slice o3 n3 p3]):=by rw[e0,I,J,M];exact rfl
   rw[e0,I,J,M] at F1 F2;have s:Hid (w.heap.size+3≤wr.heap.size):=O;go_wp2_with fail;refine bodyPost_ret (sU rfl _ _ _ _ _ _ _ rfl F1.o) rfl ⟨vs,by rw[E.o],fun q G=>?_,?_⟩
   ·refine zkc (kI (HR.o q G) fun b R ai=>F2.o.1 b (by have:=(fu (HR.o q G) R).1;omega)) uo
   ·exact j.o.bel.trans (F2.o.2.mono uo)
end Rq
end Go.Proofs.YtokfnghckpgjmaaGreatDoor
