/- Rows sorted by their Ids. -/
import Derived.Test.YtokfnghckpgjmaaGreatDoorPPo
import Derived.Test.YtokfnghckpgjmaaGreatDoorPPk
import Derived.Test.YtokfnghckpgjmaaGreatDoorQHgq
import Derived.Test.YtokfnghckpgjmaaGreatDoorPBA
import Derived.Test.YtokfnghckpgjmaaGreatDoorPBC
import Derived.Test.YtokfnghckpgjmaaGreatDoorPAb
set_option maxRecDepth 100000
set_option maxHeartbeats 4000000
namespace Go.Proofs.YtokfnghckpgjmaaGreatDoor
namespace Rz
open Go.RowKit Go.Lib Go.Shelf
open Rc Rq
def ie (r:Rw):Nat:=r.id
theorem zgD (x:Nat) (w:World):Calls Tryz.prog 88 #[.int .u64 (x:Int)] w fun e w'=>e=.returned (.bool false)∧w'=w:=by
 go_enter Tryz.func88,Tryz.ntmps88;go_wp2_with fail;go_ret;exact⟨rfl,rfl⟩
def eL (x y:Nat):Int:=if x<y then -1 else if y<x then 1 else 0
theorem zhz (x y:Nat) (w:World):Calls Tryz.prog 62 #[.int .u64 (x:Int),.int .u64 (y:Int)] w fun e a=>e=.returned (.int .i64 (eL x y))∧a=w:=by
 have f:Hid (∀ w,Calls Tryz.prog 88 #[.int .u64 (x:Int)] w fun e a=>e=.returned (.bool false)∧a=w):=fun w=>zgD x w
 have g:Hid (∀ w,Calls Tryz.prog 88 #[.int .u64 (y:Int)] w fun e a=>e=.returned (.bool false)∧a=w):=fun w=>zgD y w
 go_enter Tryz.func62,Tryz.ntmps62;go_wp2_with fail;refine Calls.mono (f.o w) ?_;rintro e h ⟨rfl,rfl⟩;go_wp2_with fail;refine Calls.mono (g.o h) ?_;rintro e k ⟨rfl,rfl⟩;by_cases c:x<y
 ·have i:(x:Int)<(y:Int):=uo
  have b:Hid (eL x y=-1):=if_pos c;go_wp2_with fail;go_ret;exact⟨by rw[b.o];rfl,rfl⟩
 ·have i:¬(x:Int)<(y:Int):=uo
  by_cases d:y<x
  ·have j:(y:Int)<(x:Int):=uo
   have b:Hid (eL x y=1):=by refine(?_:eL x y=1);unfold eL;rw[if_neg c,if_pos d]
   go_wp2_with fail;go_ret;exact⟨by rw[b.o];rfl,rfl⟩
  ·have j:¬(y:Int)<(x:Int):=uo
   have b:Hid (eL x y=0):=by refine(?_:eL x y=0);unfold eL;rw[if_neg c,if_neg d]
   go_wp2_with fail;go_ret;exact⟨by rw[b.o];rfl,rfl⟩
def rD (N:Nat):Prop:=∀ (g z cap:Nat) (d:Array Rw) (w:World),d.size≤N→Ur w g z d→
 Calls Tryz.prog 60 #[.slice (some ⟨g,0,none⟩) d.size cap,.func (.func 61) #[] #[]] w fun e w'=>e=.returned (.tuple #[])∧(∃ d',Ur w' g z d'∧Srt ie 0 d.size d'∧Sort.PermIn 0 d.size d d')∧Bg g w w'
theorem zni (o:Option Addr) (a:Nat) (w:World):Calls Tryz.prog 121 #[.slice o 0 a,.int .i64 0,.int .i64 0,.func (.func 61) #[] #[]] w fun e b=>e=.returned (.tuple #[])∧b=w:=by
 go_enter Tryz.func121,Tryz.ntmps121;go_wp2_with fail;refine wp_loop_rounds 1 ?_;rw[rounds_succ];go_wp2_with fail;refine bodyPost_end (results_none rfl _ _ _) rfl ?_;exact⟨rfl,rfl⟩
theorem znj (o:Option Addr) (a:Nat) (l:Int) (w:World):Calls Tryz.prog 86 #[.slice o 0 a,.int .i64 0,.int .i64 0,.int .i64 l,.func (.func 61) #[] #[]] w fun e b=>e=.returned (.tuple #[])∧b=w:=by
 go_enter Tryz.func86,Tryz.ntmps86;go_wp2_with fail;refine wp_loop_rounds 1 ?_;rw[rounds_succ];go_wp2_with fail;refine(zni o a w).mono ?_;rintro e c ⟨rfl,rfl⟩;go_wp2_with fail;refine bodyPost_ret (results_none rfl _ _ _) rfl ?_;exact⟨rfl,rfl⟩
theorem zlO (o:Option Addr) (a:Nat) (w:World):Calls Tryz.prog 60 #[.slice o 0 a,.func (.func 61) #[] #[]] w fun e b=>e=.returned (.tuple #[])∧b=w:=by
 have c:Hid _:=Tryz.bits_Len 0 w uo uo;go_enter Tryz.func60,Tryz.ntmps60;go_wp2_with fail;refine Calls.mono c.o ?_;rintro e d ⟨rfl,rfl⟩;go_wp2_with fail;refine(znj o a 0 d).mono ?_;rintro e f ⟨rfl,rfl⟩;go_wp2_with fail;refine bodyPost_end (results_none rfl _ _ _) rfl ?_;exact⟨rfl,rfl⟩
open Rw (Rf dR fc eO Pp dt eG fj encS dM pz gv Pg rpp pB cX gP cA en)
open Rv (FB fD gQ)
def rE (b x b2 x2:Nat) (y z:Sv) (w:World):Prop:=(w.cell? ⟨b,x,none⟩=some (.string y.t)∧w.cell? ⟨b,x+1,none⟩=some (.int .u32 (y.r.p:Int))∧w.cell? ⟨b,x+2,none⟩=some (.string y.r.t))∧w.cell? ⟨b2,x2,none⟩=some (.string z.t)∧w.cell? ⟨b2,x2+1,none⟩=some (.int .u32 (z.r.p:Int))∧w.cell? ⟨b2,x2+2,none⟩=some (.string z.r.t)
theorem zlP (l m:List Sv) (o:Option Addr) (j:Nat) (N:Option Addr) (f:Nat) (w:World) (x:cF w o j l) (y:cF w N f m):
  Calls Tryz.prog 16 #[.slice o l.length j,.slice N m.length f] w fun e T=>e=.returned (.bool (eI eD l m))∧Below w.heap.size w T:=by
 have z:=Nat.le_trans x.1 x.2.1;by_cases c:l.length=m.length
 ·have d:Hid (eI eD l m=((l.zip m).all fun p=>eD p.1 p.2)):=by
   refine(?_:eI eD l m=((l.zip m).all fun p=>eD p.1 p.2));unfold eI;simp[c]
  generalize eI eD l m=U at*
  have V:Hid _:=c;rw[←c];go_enter Tryz.func16,Tryz.ntmps16;go_wp2_with fail
  go_loopw [5] (fun i wr=>∃ k:Nat,k≤l.length∧i=.int .i64 (k:Int)∧((l.zip m).take k).all (fun p=>eD p.1 p.2)=true∧Below w.heap.size w wr) (fun i _=>l.length - bu i)
  case atStart=>exact⟨0,by omega,rfl,by simp,Below.refl _ _⟩
  case round=>
   obtain⟨k,Z,rfl,A,t⟩:=hrel;have P:Hid _:=A;by_cases h:k<l.length
   ·have a:k<m.length:=by have:=V.o;omega
    obtain⟨b,n,rfl,W,X⟩:=(x.below t zn).one h;obtain⟨Q,g,rfl,R,B⟩:=(y.below t zn).one a
    have k1:(k:Int)+1≤9223372036854775807:=by simp only[maxLen] at z;omega
    have C:Hid (rE b (n+k*3) Q (g+k*3) (sat l k) (sat m k) wr.drew):=⟨X,B⟩;have D:Hid _:=sO eD (lI h) (lI a);have E:Hid _:=sP eD (lI h) (lI a);generalize sat l k=r at*
    generalize sat m k=Y at*
    obtain⟨F,⟨G,H⟩⟩:=r;obtain⟨I,⟨J,K⟩⟩:=Y;have L:=znQ F I G J H K;have u:Hid _:=t.drew;obtain⟨M,q⟩:∃ M,eD ⟨F,⟨G,H⟩⟩ ⟨I,⟨J,K⟩⟩=M:=⟨_,rfl⟩;have s:Hid _:=q;rw[q] at L;go_wp2_with fail;refine wp_region_held (S:=rE b (n+k*3) Q (g+k*3) ⟨F,⟨G,H⟩⟩ ⟨I,⟨J,K⟩⟩) uk ?_;change wpAnyH _ _ _ _ _ _ _ _ (World.drew _);refine bB [0,1,2,3,4,5,6,7,8] ?_
    iterate 9
     refine bS (v:=?_) rfl ?_ C.o ?_;rotate_left
     ·rintro w ⟨⟨e1,e2,e3⟩,e5,e6,e7⟩;go_simp;try with_reducible rfl
     conv in(Act.put _ _ _)=>simp only[bH,bI,bJ,Act.put,bK,bL,bM]
    refine bA ?_;refine wpAnyH_done uk ?_ _;cases M
    ·simp only[Bool.not_false]
     go_wp2_with fail;go_ret;refine⟨?_,u.o⟩;rw[d.o,E.o s.o];rfl
    ·simp only[Bool.not_true]
     go_wp2_with fail
     go_roundw
     case rel=>exact⟨k+1,by omega,by go_num,by rw[D.o,P.o,s.o];rfl,u.o⟩
     case measure=>simp[bu];omega
   ·obtain rfl:k=l.length:=uo
    have u:Hid _:=t;go_wp2_with fail;go_ret;refine⟨?_,u.o⟩;rw[d.o];have:=P.o;rw[List.take_of_length_le (by rw[List.length_zip];omega)] at this;rw[this];rfl
 ·have q0:((l.length:Int)==(m.length:Int))=false:=by simp;omega
  have d:Hid (eI eD l m=false):=by
   refine(?_:eI eD l m=false);unfold eI;simp[c]
  go_enter Tryz.func16,Tryz.ntmps16;go_wp2_with fail;go_ret;rw[d.o];exact⟨by simp,Below.refl _ _⟩
theorem sA (l m:List Sv) (o:Option Addr) (j:Nat) (N:Option Addr) (f:Nat) (w:World) (x:cF w o j l) (y:cF w N f m):
  Calls Tryz.prog 90 #[.slice o l.length j,.slice N m.length f] w fun e T=>e=.returned (.bool (eI eD l m))∧Below w.heap.size w T:=by
 have z:=Nat.le_trans x.1 x.2.1;by_cases c:l.length=m.length
 ·have d:Hid (eI eD l m=((l.zip m).all fun p=>eD p.1 p.2)):=by
   refine(?_:eI eD l m=((l.zip m).all fun p=>eD p.1 p.2));unfold eI;simp[c]
  generalize eI eD l m=U at*
  have V:Hid _:=c;rw[←c];go_enter Tryz.func90,Tryz.ntmps90;go_wp2_with fail
  go_loopw [13] (fun i wr=>∃ k:Nat,k≤l.length∧i=.int .i64 (k:Int)∧((l.zip m).take k).all (fun p=>eD p.1 p.2)=true∧Below w.heap.size w wr) (fun i _=>l.length - bu i)
  case atStart=>exact⟨0,by omega,rfl,by simp,Below.refl _ _⟩
  case round=>
   obtain⟨k,Z,rfl,A,t⟩:=hrel;have P:Hid _:=A;by_cases h:k<l.length
   ·have a:k<m.length:=by have:=V.o;omega
    obtain⟨b,n,rfl,W,X⟩:=(x.below t zn).one h;obtain⟨Q,g,rfl,R,B⟩:=(y.below t zn).one a
    have k1:(k:Int)+1≤9223372036854775807:=by simp only[maxLen] at z;omega
    have C:Hid (rE b (n+k*3) Q (g+k*3) (sat l k) (sat m k) wr.drew):=⟨X,B⟩;have D:Hid _:=sO eD (lI h) (lI a);have E:Hid _:=sP eD (lI h) (lI a);generalize sat l k=r at*
    generalize sat m k=Y at*
    obtain⟨F,⟨G,H⟩⟩:=r;obtain⟨I,⟨J,K⟩⟩:=Y;have L:=znQ F I G J H K;have u:Hid _:=t.drew;obtain⟨M,q⟩:∃ M,eD ⟨F,⟨G,H⟩⟩ ⟨I,⟨J,K⟩⟩=M:=⟨_,rfl⟩;have s:Hid _:=q;rw[q] at L;go_wp2_with fail;refine wp_region_held (S:=rE b (n+k*3) Q (g+k*3) ⟨F,⟨G,H⟩⟩ ⟨I,⟨J,K⟩⟩) uk ?_;change wpAnyH _ _ _ _ _ _ _ _ (World.drew _);refine bB [0,1,2,3,4,5,6,7,8] ?_
    iterate 9
     refine bS (v:=?_) rfl ?_ C.o ?_;rotate_left
     ·rintro w ⟨⟨e1,e2,e3⟩,e5,e6,e7⟩;go_simp;try with_reducible rfl
     conv in(Act.put _ _ _)=>simp only[bH,bI,bJ,Act.put,bK,bL,bM]
    refine bA ?_;refine wpAnyH_done uk ?_ _;cases M
    ·simp only[Bool.not_false]
     go_wp2_with fail;go_ret;refine⟨?_,u.o⟩;rw[d.o,E.o s.o];rfl
    ·simp only[Bool.not_true]
     go_wp2_with fail
     go_roundw
     case rel=>exact⟨k+1,by omega,by go_num,by rw[D.o,P.o,s.o];rfl,u.o⟩
     case measure=>simp[bu];omega
   ·obtain rfl:k=l.length:=uo
    have u:Hid _:=t;go_wp2_with fail;go_ret;refine⟨?_,u.o⟩;rw[d.o];have:=P.o;rw[List.take_of_length_le (by rw[List.length_zip];omega)] at this;rw[this];rfl
 ·have q0:((l.length:Int)==(m.length:Int))=false:=by simp;omega
  have d:Hid (eI eD l m=false):=by
   refine(?_:eI eD l m=false);unfold eI;simp[c]
  go_enter Tryz.func90,Tryz.ntmps90;go_wp2_with fail;go_ret;rw[d.o];exact⟨by simp,Below.refl _ _⟩
def oG:Pm Unit:=fun s _=>((zf,61),s)
def noI:Unit→(Nat→Prop)→World→Prop:=fun _ F _=>∀ k,¬F k
theorem znk (t:ByteArray) (w:World):Calls Tryz.prog 89 #[.string t] w fun e a=>e=.returned (.tuple #[dR zf,.int .i64 61])∧Below w.heap.size w a:=by
 have b:Hid _:=(gQ w);have c:Hid (Below w.heap.size w (w.alloc (.cells #[.int .u32 0,.string ⟨#[]⟩] 49))):=bF w _;go_enter Tryz.func89,Tryz.ntmps89;go_wp2_with fail;refine bodyPost_ret (fD rfl _ _ _ _ _ _ rfl rfl b.o) rfl ?_;exact⟨rfl,c.o⟩
theorem zpe:mL oG 89 #[] noI where
 eg:=enters_of Tryz.func89 uk rfl
 lt:=fun s F W h k hk=>(h k hk).elim
 keep:=fun s F W W' h _ _=>h
 small:=fun s t=>Nat.zero_lt_succ _
 call:=fun s F W t _ h=>(znk t W).mono fun e W' ⟨h1,h2⟩=>⟨h1,F,h,bC.of_below h2,cu.refl _ _ _⟩
def lu (pages:List Sv) (l:List Rw):Gr Unit:=bW (cB (wh pages) oG) 32 () l
def gM (pages:List Sv) (l:List Rw):Bool:=dg l&&(decide ((lu pages l).e=0)&&eI eD (dQ (lu pages l)) pages)
theorem zpf (a:List Sv) (l:List Rw) (o:Option Addr) (h:Nat) (Q:Option Addr) (d:Nat) (w:World) (hp:cF w o h a) (hr:cH w Q d l) (X:∀ r∈l,fI r) (hs:∀ y∈a,y.r.p<4294967296) (hl:a.length≤100000):
  Calls Tryz.prog 63 #[.slice o a.length h,.slice Q l.length d] w fun e w'=>e=.returned (.bool (gM a l))∧Below w.heap.size w w':=by
 cases u:dg l with
 |false=>
  have R:Hid _:=sY l Q d w hr u;have Y:Hid (gM a l=false):=by refine(?_:_=_);unfold gM;rw[u];rfl
  rw[Y.o];go_enter Tryz.func63,Tryz.ntmps63;go_wp2_with fail;refine Calls.mono R.o ?_;rintro e w1 ⟨rfl,b1⟩;have HR:Hid (Below w.heap.size w (w1.alloc (.cells #[.int .u32 0,.int .u32 0,.int .i64 0,.slice none 0 0,.slice none 0 0] 73))):=b1.trans ((bF w1 _).mono b1.size);go_wp2_with fail;go_ret;exact⟨rfl,HR.o⟩
 |true=>
  have R:Hid _:=sZ l Q d w hr u;obtain⟨g,Z⟩:∃ g,lu a l=g:=⟨_,rfl⟩;have Y:Hid (gM a l=(decide (g.e=0)&&eI eD (dQ g) a)):=by refine(?_:_=_);unfold gM;rw[u,Z];rfl
  have F:=(oD (cB (wh a) oG) 32 () l).1;rw[show bW (cB (wh a) oG) 32 () l=g from Z] at F;have a8:=oF 32 l (ji u);have m:=((iX l).1 u).1;have S:Hid (cF w o h a∧a.length≤100000∧On l∧(∀ r∈l,fI r)∧l.length≤1000∧g.ys.length≤5000∧(∀ t r,wh a t=some r→r.p<4294967296)∧bW (cB (wh a) oG) 32 () l=g):=⟨hp,hl,ji u,X,m,by omega,zit hs,Z⟩;rw[Y.o];obtain⟨T,G⟩:∃ T,(decide (g.e=0)&&eI eD (dQ g) a)=T:=⟨_,rfl⟩;have H:Hid _:=G;rw[G];go_enter Tryz.func63,Tryz.ntmps63;go_wp2_with fail;refine Calls.mono R.o ?_;rintro e f ⟨n,rfl,hN,U⟩;have I:=rB hN;obtain⟨c,i⟩:∃ c,f.alloc (ev n)=c:=⟨_,rfl⟩
  have v:Below f.heap.size f c:=by rw[←i];exact bF f (ev n)
  have z:=U.trans (v.mono U.size);have a0:Hid _:=(zgv 89 #[] a o h S.o.2.1 c (S.o.1.below z zn));have a3:Hid (ci (fun b=>w.heap.size≤b∧b<f.heap.size) 32 c n l∧c.heap[f.heap.size]? =some (ev n)∧c.heap.size=f.heap.size+1∧Below w.heap.size w c∧w.heap.size≤f.heap.size):=⟨I.below v zn,(by rw[←i];exact zq f _),(by rw[←i];simp),z,U.size⟩;have K:Hid _:=i;clear  hN I U   v z i R
  go_wp2_with (first|(rw[K.o];clear K))
  refine Calls.mono a0.o ?_;rintro e W6 ⟨rfl,k1,k2,k3,b6⟩;obtain⟨n1,n2,n3,n4,n5⟩:=a3.o;obtain⟨V,a9,D,e7⟩:=zeS W6 (.func (.func 79) #[] #[.pointer (some ⟨c.heap.size+2,0,none⟩),.pointer (some ⟨c.heap.size,0,none⟩)]) rfl;have q:=b6.trans (D.mono b6.size);have M:=n4.trans (q.mono n4.size);have l7:=D.size;obtain⟨q1,q2,q3,q4,q5,q6,q7,q8⟩:=S.o;have x3:=(zi k3).1
  have N:Ih 89 #[] (wh a) (c.heap.size+1) c.heap.size (c.heap.size+2) noI () (fun k=>False∨k=c.heap.size+1∨k=c.heap.size∨k=c.heap.size+2) V:=
   ⟨fun _=>False,fun k hk=>hk,fun j=>Iff.rfl,id,id,id,k2.same (D.block _ k2.lt),(D.block _ uo).trans k1,(D.block _ uo).trans k3⟩
  have A:=zgs (zeQ zpe (wh a) q7 (c.heap.size+1) c.heap.size (c.heap.size+2)) (fun b=>w.heap.size≤b∧b<f.heap.size) 32 n l _ () V N (n1.below q zn) (fun b hb=>⟨by omega,fun e=>by
   rcases e with x|x|x|x
   ·exact x
   ·omega
   ·omega
   ·omega⟩) q3 q4 q5 (by rw[q8];exact q6)
  rw[q8] at A;have a4:Hid _:=A;have cN:V.cell? ⟨W6.heap.size,0,none⟩=some (.func (.func 79) #[] #[.pointer (some ⟨c.heap.size+2,0,none⟩),.pointer (some ⟨c.heap.size,0,none⟩)]):=by rw[zr e7];rfl
  obtain⟨z0,z1,z2,z3,z4⟩:=nE ((q.block _ uo).trans n2);have a5:Hid (Below w.heap.size w V∧w.heap.size≤c.heap.size):=⟨M,by omega⟩;clear k1 k2 k3 b6 n1 n2 n3 n4 n5 D e7 q M  l7 q1 q2 q3 q4 q5 q6 q7 q8 x3 N A;go_wp2_with fail;refine Calls.mono a4.o ?_;rintro e W8 ⟨o',O,F',rfl,r1,r2,r3,P,r6⟩
  have B:Below w.heap.size w W8:=by
   obtain⟨E,a2⟩:=a5.o;refine⟨P.os.trans E.os,P.tape.trans E.tape,P.output.trans E.output,Nat.le_trans E.size P.size,fun j hj=>(P.block j (Nat.lt_of_lt_of_le hj E.size) fun e=>?_).trans (E.block j hj)⟩;rcases e with x|x|x|x
   ·exact x
   ·omega
   ·omega
   ·omega
  by_cases C:g.e=0
  ·have HE:Hid _:=sA (dQ g) a o' O o h W8 r1 (S.o.1.below B zn)
   have s:Hid _:=B;have W:Hid (T=eI eD (dQ g) a):=by refine(?_:_=_);rw[←H.o,decide_eq_true C];rfl
   obtain⟨L,hL⟩:∃ L,(dQ g).length=L:=⟨_,rfl⟩;rw[hL] at HE;simp only[hL];generalize eI eD (dQ g) a=EB at HE W;go_wp2_with fail;refine Calls.mono HE.o ?_;rintro e W9 ⟨rfl,b9⟩;have a6:Hid _:=s.o.trans (b9.mono s.o.size);go_wp2_with fail;go_ret;exact⟨by rw[W.o];cases EB<;>rfl,a6.o⟩
  ·have a7:(g.e==0)=false:=by simpa using C
   have s:Hid _:=B;have W:Hid (T=false):=by refine(?_:_=_);rw[←H.o,decide_eq_false C];rfl
   go_wp2_with fail;go_ret;exact⟨by rw[W.o];rfl,s.o⟩
open Rv (FB fD gQ bP Vs Pl gh fs eC cf take iC dl)
open Rd (pt St Ok)
theorem uL {fn:Func} {a b c:Tmp} (h:fn.results=#[.tmp a,.tmp b,.tmp c]) (tmps:Array Value) (w:World):(results fn tmps).run Tryz.prog w=.ok (.tuple #[tmps.getD a undef,tmps.getD b undef,tmps.getD c undef]) w:=by
 simp[results,h,go_sem]
theorem zjo {l:List Rw} {d':Array Rw} (h:Sort.PermIn 0 l.length l.toArray d'):d'.toList.Perm l:=by
 obtain⟨h1,-,h3⟩:=h
 have e1:d'.extract 0 l.length=d':=by
  have:l.length=d'.size:=by rw[h1];simp
  rw[this];simp
 rw[e1] at h3;simpa using h3
theorem zlQ {K:Rw→Nat} {n:Nat} {c:Array Rw} (l:c.size=n) (h:Srt K 0 n c):c.toList.Pairwise fun a b=>K a≤K b:=by
 rw[List.pairwise_iff_getElem];intro i j g k d
 have f:j<c.size:=by simpa using k
 have:=h i j uo d uo;rw[getElem!_pos c i (by simpa using g),getElem!_pos c j f] at this;simpa using this
theorem znl {N:Nat} (s:rD N) (d:Nat) (l:List Rw) (t:l.length≤N) (v:Value) (w:World) (h:w.ownsRow d 79 4 v l.length (l.flatMap rc)):
  Calls Tryz.prog 60 #[v,.func (.func 61) #[] #[]] w fun e k=>e=.returned (.tuple #[])∧∃ m:List Rw,m.Perm l∧(m.Pairwise fun a b=>ie a≤ie b)∧k.ownsRow d 79 4 v m.length (m.flatMap rc)∧bC (fun j=>v.ownBlock=some j) w k:=by
 by_cases f:l=[]
 ·subst f
  obtain⟨o,c,rfl,-⟩:=dx h;refine(zlO o c w).mono ?_;rintro e k ⟨rfl,rfl⟩;exact⟨rfl,[],List.Perm.refl _,List.Pairwise.nil,h,bC.refl _ _⟩
 ·obtain⟨g,c,rfl,u,x⟩:=zkD h f
  have hs:l.toArray.size=l.length:=by simp
  have p:=s g (c*4) c l.toArray w (by rw[hs];exact t) x;refine p.mono ?_;rintro e k ⟨rfl,⟨n,y,z,q⟩,A⟩;have i:n.size=l.length:=by rw[q.1,hs]
  have r:n.toList.length=l.length:=by simpa using i
  refine⟨rfl,n.toList,zjo q,zlQ i z,?_,A.more fun j _ B=>by rw[B];rfl⟩;have:=zkE h (m:=n.toList) (by simpa using y) r;rwa[r] at this ⊢
def mN (s:LS):Prop:=(∀ r∈s.rows,fI r)∧∀ y∈s.pages,y.r.p<4294967296
theorem znR {f:LS→Rf→LS × Int} (a:∀ s r,r.p<4294967296→mN s→mN (f s r).1):∀ (rs:List Rf) (s:LS),(∀ r∈rs,r.p<4294967296)→mN s→mN (dW f rs s).1
 |[],s,_,h=>h
 |r::rs,s,b,h=>by
  have c:=a s r (b r (List.mem_cons.2 (.inl rfl))) h;unfold dW;split
  ·exact znR a rs _ (fun x d=>b x (List.mem_cons.2 (.inr d))) c
  ·exact c
theorem znS (rd:Rf→ByteArray × Int):∀ (d:Nat) (s:LS) (r:Rf),r.p<4294967296→mN s→mN (cn rd d s r).1
 |0,s,_,_,h=>h
 |d+1,s,r,f,h=>by
  have c:mN ⟨s.n+1,s.rows,s.pages⟩:=h;unfold cn;split
  ·exact h
  ·split
   ·split
    ·rename_i b
     have e:=znR (znS rd d) (du (cA (rd r).1)) ⟨s.n+1,s.rows,s.pages⟩ (uG b).2.2.1 c;obtain⟨-,-,g⟩:=Rw.zk0 b;obtain⟨l,m,o,i,q⟩:=g;split
     ·refine⟨fun x j=>?_,fun y k=>?_⟩
      ·rcases List.mem_append.1 j with a|a
       ·exact e.1 x a
       ·exact i x a
      ·rcases List.mem_append.1 k with a|a
       ·exact e.2 y a
       ·rw[List.mem_singleton.1 a];exact f
     ·exact e
    ·exact c
   ·exact c
theorem ziv (Kt:Nat→Int) (A:Pl) (v:Vs) (t:St) (f:Nat) (hk:Ok t) (hA:∀ k,A.has k∨fQ A k→k<f):∀ d,rC Kt A v t f d
 |0=>fun s vr vp W r hI _ _ hd _=>by have:=hI.cnt.1;omega
 |d+1=>zlL Kt A v t f d hk hA (ziv Kt A v t f hk hA d)
def uM (pages : List Sv) (rows : List Rw) (re : Int) (base : Nat) (e : Ending) (w' : World) : Prop :=
  (re ≠ 0 ∧ e = .returned (.tuple #[.slice none 0 0, .slice none 0 0, .int .i64 re])) ∨
  (re = 0 ∧ ∃ m : List Rw, m.Perm rows ∧ (m.Pairwise fun a b => ie a ≤ ie b) ∧
    ((gM pages m = false ∧ e = .returned (.tuple #[.slice none 0 0, .slice none 0 0, .int .i64 61])) ∨
     (gM pages m = true ∧ ∃ o cap o2 cap2, e = .returned (.tuple #[.slice o m.length cap, .slice o2 pages.length cap2, .int .i64 0]) ∧ cH w' o cap m ∧ cF w' o2 cap2 pages ∧ (∀ b off, o = some ⟨b, off, none⟩ → base ≤ b) ∧ ∀ b off, o2 = some ⟨b, off, none⟩ → base ≤ b)))
def L0:LS:=⟨0,[],[]⟩
theorem znn (Kt:Nat→Int) (A:Pl) (v:Vs) (t:St) (r:Rf) (hr:r.p<4294967296) (w:World) (hv:bP w A v t) (au:gh v) (R:Ok t) (hT:Rs.Tb Kt w) {N:Nat} (hS:rD N) (k:LS × Int) (hg:cn (eJ Kt v t) 2101 L0 r=k) (hN:k.2=0→k.1.rows.length≤N):
  Calls Tryz.prog 29 #[pt A.g,dR r] w fun e D=>uM k.1.pages k.1.rows k.2 w.heap.size e D∧bP D A v t∧Rs.Tb Kt D∧Rd.bC A.has w D:=by
 obtain⟨rp,rt⟩:=r
 have hU:∀ k,fQ A k→k<w.heap.size:=fun k hu=>by
  obtain⟨⟨a,b,E⟩,c,d,h2⟩:=hT;rcases hu with⟨z,hu⟩|rfl|rfl
  ·obtain⟨b',bd,e',aQ,-⟩:=hv.self.2.1.2.2.2 (nB au.f)
   rw[hu] at e';cases e';exact aQ
  ·exact(zi E).1
  ·exact(zi h2).1
 have L:Hid (∀ k,A.has k∨fQ A k→k<w.heap.size):=fun k B=>B.elim (fun h=>hv.has_lt h) (hU k)
 have aR:Hid (∀ k,fQ A k→¬A.has k):=fun k hu=>tw hv au hu
 obtain⟨W1,a0⟩:∃ W1,w.alloc (.cells #[.int .u32 (rp:Int),.string rt] 49)=W1:=⟨_,rfl⟩;have b1:Below w.heap.size w W1:=by rw[←a0];exact bF _ _
 have y1:FB w.heap.size (rp:Int) rt W1:=by rw[←a0];exact zq w _
 have aS:W1.heap.size=w.heap.size+1:=by rw[←a0];simp
 have aT:Hid (∀ _:True,_):=fun _=>tz A v t W1 (hv.below b1 zn) R
 have T:Hid (FB w.heap.size (rp:Int) rt W1∧W1.heap.size=w.heap.size+1∧Below w.heap.size w W1):=⟨y1,aS,b1⟩;have av:=znS (eJ Kt v t) 2101 L0 ⟨rp,rt⟩ hr ⟨fun _ h=>(by cases h),fun _ h=>(by cases h)⟩;have aU:=(uI (eJ Kt v t) 2101 L0 ⟨rp,rt⟩);rw[hg] at av aU;have G:Hid (Rs.Tb Kt w∧Ok t∧rp<4294967296∧cn (eJ Kt v t) 2101 L0 ⟨rp,rt⟩=k∧rD N∧(k.2=0→k.1.rows.length≤N)∧mN k.1):=⟨hT,R,hr,hg,hS,hN,av⟩;obtain⟨M,af⟩:∃ M:Ending→World→Prop,(fun e D=>uM k.1.pages k.1.rows k.2 w.heap.size e D∧bP D A v t∧Rs.Tb Kt D∧Rd.bC A.has w D)=M:=⟨_,rfl⟩;rw[af];have HP:Hid (∀ e D,uM k.1.pages k.1.rows k.2 w.heap.size e D∧bP D A v t∧Rs.Tb Kt D∧Rd.bC A.has w D→M e D):=fun e D h=>by rw[←af];exact h
 have aw:Hid _:=a0;go_enter Tryz.func29,Tryz.ntmps29
 go_wp2_with (first|(rw[aw.o];clear aw))
 refine Calls.mono (aT.o trivial) ?_;rintro e u ⟨rfl,ax,al⟩;have bf:=al.size;have y2:FB w.heap.size (rp:Int) rt u:=(al.block _ (by have:=T.o.2.1;omega) (fun e=>by have:=L.o _ (.inl e);omega)).trans T.o.1;have ay:=(Rd.bC.of_below T.o.2.2).trans al;obtain⟨U,aa⟩:∃ U,u.alloc (.cells #[pt A.g,.int .i64 0,.slice none 0 0,.slice none 0 0] 121)=U:=⟨_,rfl⟩;have b3:Below u.heap.size u U:=by rw[←aa];exact bF _ _
 have g3:U.heap[u.heap.size]? =some (.cells #[pt A.g,.int .i64 0,.slice none 0 0,.slice none 0 0] 121 (0,0)):=by rw[←aa];exact zq u _
 have aV:fK A u.heap.size L0 (.slice none 0 0) (.slice none 0 0) U:=⟨g3,World.ownsRow_nil _ _ _ _,World.ownsRow_nil _ _ _ _,fun g hg=>by simp[Value.ownBlock] at hg,by decide⟩;have ag:=ay.trans (Rd.bC.of_below b3);have az:=kU G.o.1 fun k H B=>ag.block k H (aR.o k (.inr B))
 have aA:=ziv Kt A v t u.heap.size G.o.2.1 (fun k B=>by have:=L.o k B;have:=T.o.2.1;omega) 2101 L0 _ _ U ⟨rp,rt⟩ aV (ax.below b3 zn) az ud G.o.2.2.1;rw[G.o.2.2.2.1] at aA;have aW:Hid _:=aA;have y3:=y2.grow b3;obtain⟨-,-,f0,f1⟩:=y3.facts;have ab:Hid (bP U A v t∧Rs.Tb Kt U∧Rd.bC A.has w U∧w.heap.size<u.heap.size∧U.heap.size=u.heap.size+1):=⟨ax.below b3 zn,az,ag,by have:=T.o.2.1;omega,by rw[←aa];simp⟩;have aB:Hid _:=aa
 go_wp2_with (first|(rw[aB.o];clear aB))
 refine Calls.mono aW.o ?_;rintro e w4 ⟨rfl,vr,vp,l,bg,O⟩;obtain⟨⟨kn,y,i⟩,ke⟩:=k;simp only at l HP
 have am:∀ k,k<u.heap.size→w4.heap[k]? =U.heap[k]? :=fun k R=>O.block k (by have:=ab.o.2.2.2.2;omega) fun e=>by
  rcases e with x|x|x
  ·omega
  ·simp[Value.ownBlock] at x
  ·simp[Value.ownBlock] at x
 have aC:bP w4 A v t∧Rs.Tb Kt w4∧Rd.bC A.has w w4:=by
  obtain⟨a1,a2,C,a4,a5⟩:=ab.o;exact⟨mM a1 O.size fun k _ B=>am k (by have:=L.o k B;omega),kU a2 fun k _ B=>am k (by have:=L.o k (.inr (.inr B));omega),⟨O.os.trans C.os,O.tape.trans C.tape,O.output.trans C.output,Nat.le_trans C.size O.size,fun k R hn=>(am k uo).trans (C.block k R hn)⟩⟩
 by_cases an:ke=0
 ·subst an
  have aX:=znl G.o.2.2.2.2.1 (u.heap.size+1) y (G.o.2.2.2.2.2.1 rfl) vr w4 l.rows;obtain⟨c0,c1,c2,c3⟩:=je l.self;have lf:=(zi l.self).1;obtain⟨I,o,aD,-⟩:=dx l.rows;obtain⟨P,q,aE,bh⟩:=dx l.pages;obtain⟨n,hn⟩:∃ n,y.length=n:=⟨_,rfl⟩;obtain⟨Z,aF⟩:∃ Z,i.length=Z:=⟨_,rfl⟩;simp only[hn] at aD;simp only[aF] at aE;subst aD aE;have V:Hid (y.length=n∧i.length=Z):=⟨hn,aF⟩;have aY:Hid _:=aX;have aZ:Hid _:=l;have b0:Hid _:=aC
  go_wp2_with fail;refine Calls.mono aY.o ?_;rintro e s ⟨rfl,m,ao,b2,ap,J⟩;have l:=aZ.o;have b5:∀ j,(Value.slice I n o).ownBlock=some j→u.heap.size+1≤j:=fun j hj=>(gq l.rows hj).1
  have ac:∀ j,j<w4.heap.size→j≤u.heap.size→s.heap[j]? =w4.heap[j]? :=fun j E h2=>J.block j E fun e=>by have:=b5 j e;omega
  have X:=(ac _ lf zn).trans l.self;have ah:=ic l.pages fun g hg H=>J.block g H fun e=>l.ne g e hg
  have aq:bP s A v t∧Rs.Tb Kt s∧Rd.bC A.has w s:=by
   obtain⟨a1,a2,C⟩:=b0.o;exact⟨mM a1 J.size fun k H B=>ac k H (by have:=L.o k B;omega),kU a2 fun k H B=>ac k H (by have:=L.o k (.inr (.inr B));omega),⟨J.os.trans C.os,J.tape.trans C.tape,J.output.trans C.output,Nat.le_trans C.size J.size,fun k R hn=>(ac k (Nat.lt_of_lt_of_le R C.size) uo).trans (C.block k R hn)⟩⟩
  have ad:m.length=n:=by rw[ao.length_eq];exact V.o.1
  obtain⟨o6,c6,e6,aG⟩:=dx ap;rw[ad] at e6 aG;cases e6;obtain⟨o7,c7,e7,aH⟩:=dx ah;rw[V.o.2] at e7 aH;cases e7;have aI:cH s I o m:=by unfold cH;rw[ad];exact aG
  have aJ:cF s P q i:=by unfold cF;rw[V.o.2];exact aH
  have ai:=G.o.2.2.2.2.2.2;have ar:=zpf i m P q I o s.drew aJ aI (fun r hr=>ai.1 r (ao.mem_iff.1 hr)) ai.2 (by have:=l.cnt;simp only at this;omega);rw[ad,V.o.2] at ar;obtain⟨d0,d1,d2,d3⟩:=je X;obtain⟨AB,aK⟩:∃ AB,gM i m=AB:=⟨_,rfl⟩;rw[aK] at ar;have aL:Hid _:=aK;have b7:Hid (Calls Tryz.prog 63 #[.slice P Z q,.slice I n o] s.drew fun e D=>e=.returned (.bool AB)∧Below s.drew.heap.size s.drew D):=ar;have ae:Hid (s.drew.cell? ⟨u.heap.size,3,none⟩=some (.slice P Z q)∧s.drew.cell? ⟨u.heap.size,2,none⟩=some (.slice I n o)):=⟨d3,d2⟩
  have bi:∀ b z,I=some ⟨b,z,none⟩→0<n→u.heap.size<b:=fun b z e h0=>by
   rcases ap.2 with⟨E,h2⟩|⟨g,aj,aM,E,h2,-⟩
   ·cases E;omega
   ·cases E;cases e;omega
  have b8:Hid (bP s A v t∧Rs.Tb Kt s∧Rd.bC A.has w s∧cH s I o m∧cF s P q i∧m.Perm y∧(m.Pairwise fun a b=>ie a≤ie b)∧m.length=n∧s.heap[u.heap.size]? =some (.cells #[pt A.g,.int .i64 (kn:Int),.slice I n o,.slice P Z q] 121 (0,0))∧(s.ownsRow (u.heap.size+1) 79 4 (.slice I n o) m.length (m.flatMap rc))∧s.ownsRow (u.heap.size+1) 51 3 (.slice P Z q) i.length (i.flatMap sc)):=⟨aq.1,aq.2.1,aq.2.2,aI,aJ,ao,b2,ad,X,ap,ah⟩;go_wp2_with fail;refine wp_region_held (S:=fun W=>W.cell? ⟨u.heap.size,3,none⟩=some (.slice P Z q)∧W.cell? ⟨u.heap.size,2,none⟩=some (.slice I n o)) uk ?_;change wpAnyH _ _ _ _ _ _ _ _ (World.drew _);refine bB [0,1,2,3,4,5,6,7] ?_
  iterate 8
   refine bS (v:=?_) rfl ?_ ae.o ?_;rotate_left
   ·rintro w ⟨e1,e2⟩;go_simp;try with_reducible rfl
   conv in(Act.put _ _ _)=>simp only[bH,bI,bJ,Act.put,bK,bL,bM]
  refine bA ?_;refine dF 8 _ uk rfl uk (fun K hK=>?_);go_simp;refine b7.o.mono ?_;rintro e F ⟨rfl,b6⟩;have aN:∀ j,j<s.heap.size→F.heap[j]? =s.heap[j]? :=fun j hj=>b6.block j hj
  have bj:s.heap.size≤F.heap.size:=b6.size;obtain⟨a1,a2,C,a4,a5,a6,a7,a8,a9,b9,ba⟩:=b8.o;have bb:=(zi a9).1;obtain⟨d0,d1,d2,d3⟩:=je ((aN _ bb).trans a9)
  replace ae:Hid (F.cell? ⟨u.heap.size,3,none⟩=some (.slice P Z q)∧F.cell? ⟨u.heap.size,2,none⟩=some (.slice I n o)):=⟨d3,d2⟩
  refine hK _ _ ae.o ?_;refine bB [9] ?_;refine bS (v:=?_) rfl ?_ ae.o ?_;rotate_left
  ·rintro w ⟨e1,e2⟩;go_simp;try with_reducible rfl
  conv in(Act.put _ _ _)=>simp only[bH,bI,bJ,Act.put,bK,bL,bM]
  refine bA ?_;refine wpAnyH_done uk ?_ _
  rename_i bc
  refine bc _ _ ?_
  have aO:∀ Q:World,(∀ j,j<F.heap.size→Q.heap[j]? =F.heap[j]?)→F.heap.size≤Q.heap.size→Q.os=F.os→Q.tape=F.tape→Q.output=F.output→bP Q A v t∧Rs.Tb Kt Q∧Rd.bC A.has w Q∧cH Q I o m∧cF Q P q i:=fun Q E h2 h3 h4 h5=>by
   have B:∀ j,j<s.heap.size→Q.heap[j]? =s.heap[j]? :=fun j hj=>(E j uo).trans (aN j hj)
   exact⟨mM a1 uo fun k H _=>B k H,kU a2 fun k H _=>B k H,⟨h3.trans (b6.os.trans C.os),h4.trans (b6.tape.trans C.tape),h5.trans (b6.output.trans C.output),by have:=C.size;omega,fun k R hn=>(B k (Nat.lt_of_lt_of_le R C.size)).trans (C.block k R hn)⟩,nG a4 uo fun b _ _ _ H=>B b H,a5.keep uo fun b _ _ _ H=>B b H⟩
  have ak:Hid _:=aO
  have aP:Hid ((∀ b z,I=some ⟨b,z,none⟩→w.heap.size≤b)∧∀ b z,P=some ⟨b,z,none⟩→w.heap.size≤b):=by
   have:=ab.o.2.2.2.1;refine⟨fun b z e=>?_,fun b z e=>?_⟩
   ·rcases b9.2 with⟨E,h2⟩|⟨g,aj,aM,E,h2,-⟩
    ·cases E;cases e
    ·cases E;cases e;omega
   ·rcases ba.2 with⟨E,h2⟩|⟨g,aj,aM,E,h2,-⟩
    ·cases E;cases e
    ·cases E;cases e;omega
  have Y:Hid (m.Perm y∧(m.Pairwise fun a b=>ie a≤ie b)∧m.length=n):=⟨a6,a7,a8⟩;cases AB with
  |false=>
   have HR:Hid (∀ e:Ending,e=.returned (.tuple #[.slice none 0 0,.slice none 0 0,.int .i64 61])→M e F):=fun e he=>by
    obtain⟨x1,x2,x3,x4,x5⟩:=ak.o F (fun _ _=>rfl) zn rfl rfl rfl;exact HP.o e F ⟨.inr ⟨rfl,m,Y.o.1,Y.o.2.1,.inl ⟨aL.o,he⟩⟩,x1,x2,x3⟩
   go_wp2_with fail;refine bodyPost_ret (uL rfl _ _) rfl ?_;exact HR.o _ rfl
  |true=>
   have HR:Hid (∀ e:Ending,e=.returned (.tuple #[.slice I n o,.slice P Z q,.int .i64 0])→M e F.drew):=fun e he=>by
    obtain⟨x1,x2,x3,x4,x5⟩:=ak.o F.drew (fun _ _=>rfl) zn rfl rfl rfl;exact HP.o e F.drew ⟨.inr ⟨rfl,m,Y.o.1,Y.o.2.1,.inr ⟨aL.o,I,o,P,q,by rw[he,Y.o.2.2,V.o.2],x4,x5,aP.o.1,aP.o.2⟩⟩,x1,x2,x3⟩
   go_wp2_with fail
   go_region
   go_wp2_with fail;refine bodyPost_ret (uL rfl _ _) rfl ?_;exact HR.o _ rfl
 ·have be:(ke==0)=false:=by simpa using an
  have HR:Hid (∀ e:Ending,e=.returned (.tuple #[.slice none 0 0,.slice none 0 0,.int .i64 ke])→M e w4):=fun e he=>HP.o e w4 ⟨.inl ⟨an,he⟩,aC⟩
  go_wp2_with fail;refine bodyPost_ret (uL rfl _ _) rfl ?_;exact HR.o _ rfl
def Kept (Kt:Nat→Int) (s:Sx) (y:Sv):Prop:=(2≤y.r.p∧y.r.p<s.t.n∧(s.v.tk y.r.p).isSome=true)∧
 ∃ h:Rs.Hd,Rs.fits h∧h.1=(y.r.p:Int)∧Rs.sE s.v.ring h y.t=0∧y.r.t=Rs.cW (Rs.sV Kt s.v.ring h y.t)∧Rd.dv s.t y.r.p=Rs.sV Kt s.v.ring h y.t
theorem zlR {Kt:Nat→Int} {s:Sx} (hp:fs s.t) {y:Sv} (h:Kept Kt s y):eJ Kt s.v s.t y.r=(y.t,0):=by
 obtain⟨⟨h1,h2,-⟩,hd,h3,h4,h5,h6,h7⟩:=h;obtain⟨a1,a2,-⟩:=Rv.zhs Kt hp h1 h2 h3 h4 h5 h7;rw[←h6] at a1 a2;unfold eJ;rw[a1,a2]
theorem uN {Kt:Nat→Int} {s:Sx} {y:Sv} (h:Kept Kt s y):Rw.br y.r.p y.r.t=true:=by
 obtain⟨⟨h1,-,-⟩,hd,h3,-,h5,h6,-⟩:=h;unfold Rw.br;rw[decide_eq_true h1,h6,decide_eq_true (Rv.zir (Rs.mz Kt s.v.ring hd h3 y.t h5).1)];rfl
theorem zno (Kt:Nat→Int) {s:Sx} (h:ju s) {x:ByteArray} (j:x.size≤198) {p:Nat} (o:eC s.v.tk s.t.n=some p):
  Kept Kt ⟨take (iC s.v) p,Rd.dw s.t p (dl Kt s.v p x),s.tk++[p]⟩ ⟨x,⟨p,Rs.cW (dl Kt s.v p x)⟩⟩∧∀ y,Kept Kt s y→Kept Kt ⟨take (iC s.v) p,Rd.dw s.t p (dl Kt s.v p x),s.tk++[p]⟩ y:=by
 obtain⟨-,H,⟨w,f,z⟩,k⟩:=uC Kt h j o;have I:=h.hon.ok.n1;have l:=h.vok.fits (p:=p) uo;have b:=h.vok.se p j;obtain⟨-,-,-,c⟩:=Rv.qz h.hon f ((Rs.mz Kt s.v.ring (Rv.hd s.v p) l x b).1);refine⟨⟨⟨w,by rw[k];exact f,?_⟩,Rv.hd s.v p,l,rfl,b,rfl,by rw[c p f,if_pos rfl];rfl⟩,fun y ⟨⟨A,m,i⟩,B,C,D,E,F,G⟩=>?_⟩
 ·show(Rv.cE s.v.tk p (some ()) p).isSome=true
  simp[Rv.cE]
 ·have d:y.r.p≠p:=fun e=>by rw[e,z] at i;exact absurd i ud
  refine⟨⟨A,by rw[k];exact m,?_⟩,B,C,D,E,F,by rw[c _ m,if_neg d];exact G⟩;show(Rv.cE s.v.tk p (some ()) y.r.p).isSome=true;unfold Rv.cE;rw[if_neg d];exact i
structure lw (Kt:Nat→Int) (f:ByteArray→Option Rf) (s:Sx):Prop where
 pok:ju s
 had:∀ t r,f t=some r→Kept Kt s ⟨t,r⟩
structure Good (Kt:Nat→Int) (f:ByteArray→Option Rf) (s:Sx) (g:Gr Sx) (c:Nat):Prop where
 gs:lw Kt f g.s
 left:cf s.v.tk s.t.n≤cf g.s.v.tk g.s.t.n+g.ys.length
 sq:∃ m,Sq s m g.s∧((∀ t,f t=none)→g.e=0→m=g.ys.map fun y=>y.r.p)
 kp:∀ y,Kept Kt s y→Kept Kt g.s y
 ky:∀ y∈g.ys,Kept Kt g.s y
 e:g.e=0∨g.e=110
 room:c≤cf s.v.tk s.t.n→g.e=0
 len:g.ys.length≤c
theorem zjq {tk:Nat→Option Unit} {n:Nat} (h:eC tk n=none):cf tk n=0:=by
 refine Rv.zlv fun q hq=>?_
 unfold Rv.eC at h;rw[List.find?_eq_none] at h;have:=h q (List.mem_range.2 hq);cases hh:tk q with
 |none=>rw[hh] at this;exact absurd rfl this
 |some u=>rfl
theorem zgE {Kt:Nat→Int} {f:ByteArray→Option Rf} {s:Sx} (h:lw Kt f s) {P:Pp} (q:rpp P=true):Good Kt f s (dS (cB f (dc Kt)) s P) 1∧((dS (cB f (dc Kt)) s P).e=0→Rw.br (dS (cB f (dc Kt)) s P).r.p (dS (cB f (dc Kt)) s P).r.t=true∧Kept Kt (dS (cB f (dc Kt)) s P).s ⟨encS P,(dS (cB f (dc Kt)) s P).r⟩):=by
 have g:=ov P;unfold dS;rw[if_pos (by unfold Rw.dM;rw[if_pos q])];cases b:f (encS P) with
 |some r=>
  have e1:cB f (dc Kt) s (encS P)=((r,0),s):=by unfold cB;rw[b]
  rw[e1,if_pos rfl];have i:=h.had _ _ b;exact⟨⟨h,by simp,⟨[],Sq.refl h.pok,fun w=>by rw[w] at b;cases b⟩,fun y a=>a,fun y a=>by rw[List.mem_singleton.1 a];exact i,.inl rfl,fun _=>rfl,Nat.le_refl _⟩,fun _=>⟨uN i,i⟩⟩
 |none=>
  have e0:cB f (dc Kt) s (encS P)=dc Kt s (encS P):=by unfold cB;rw[b]
  rw[e0];cases c:eC s.v.tk s.t.n with
  |none=>
   rw[uD Kt c,if_neg (show ¬(110:Int)=0 from by decide)];refine⟨⟨h,by simp,⟨[],Sq.refl h.pok,fun _ e=>absurd (show(110:Int)=0 from e) ud⟩,fun y a=>a,fun y a=>(by cases a),.inr rfl,fun l=>?_,Nat.zero_le _⟩,fun e=>absurd (show(110:Int)=0 from e) ud⟩;rw[zjq c] at l;exact absurd l ud
  |some p=>
   obtain⟨e1,x,m,z⟩:=uC Kt h.pok g c;obtain⟨j,o⟩:=zno Kt h.pok g c;have d:=uE Kt h.pok g c;rw[e1] at d ⊢;rw[if_pos rfl];have k:=rA m.2.2 s.t.n;rw[if_pos m.2.1] at k;refine⟨⟨⟨x,fun t r A=>o _ (h.had t r A)⟩,?_,⟨[p],d,fun _ _=>rfl⟩,o,fun y a=>by rw[List.mem_singleton.1 a];exact j,.inl rfl,fun _=>rfl,Nat.le_refl _⟩,fun _=>⟨uN j,j⟩⟩;show cf s.v.tk s.t.n≤cf (Rv.cE s.v.tk p (some ())) (Rd.dw s.t p (dl Kt s.v p (encS P))).n+1;rw[z];omega
theorem Good.none {Kt:Nat→Int} {f:ByteArray→Option Rf} {s:Sx} (h:lw Kt f s) (r:Rf):Good Kt f s ⟨s,[],0,r⟩ 0:=
 ⟨h,by simp,⟨[],Sq.refl h.pok,fun _ _=>rfl⟩,fun y hy=>hy,fun y hy=>(by cases hy),.inl rfl,fun _=>rfl,Nat.le_refl _⟩
theorem Good.seq {Kt:Nat→Int} {f:ByteArray→Option Rf} {s:Sx} {g h:Gr Sx} {c n:Nat} (d:Good Kt f s g c) (p:g.e=0) (b:Good Kt f g.s h n):Good Kt f s ⟨h.s,g.ys++h.ys,h.e,h.r⟩ (c+n):=by
 obtain⟨m,q,i⟩:=d.sq;obtain⟨k,t,j⟩:=b.sq;refine⟨b.gs,by have:=d.left;have:=b.left;simp only[List.length_append];omega,⟨m++k,q.trans t,fun o u=>by rw[i o p,j o u,List.map_append]⟩,fun y l=>b.kp y (d.kp y l),fun y l=>?_,b.e,fun v=>b.room (by have:=d.left;have:=d.len;omega),by have:=d.len;have:=b.len;simp only[List.length_append];omega⟩;rcases List.mem_append.1 l with a|a
 ·exact b.kp y (d.ky y a)
 ·exact b.ky y a
theorem Good.more {Kt:Nat→Int} {f:ByteArray→Option Rf} {s:Sx} {g:Gr Sx} {c c':Nat} (h:Good Kt f s g c) (hc:c≤c'):Good Kt f s g c':=
 ⟨h.gs,h.left,h.sq,h.kp,h.ky,h.e,fun x=>h.room (Nat.le_trans hc x),Nat.le_trans h.len hc⟩
structure RL (l:List Rw):Prop where
 on:On l
 rise:jP l
 sz:∀ r∈l,r.v.size≤16
 ok:∀ r∈l,fI r
theorem RL.part {l:List Rw} (h:RL l) (q:Nat):RL (Rq.part l q):=⟨h.on.part q,h.rise.sublist List.filter_sublist,fun r hr=>h.sz r (kz.1 hr).1,fun r hr=>h.ok r (kz.1 hr).1⟩
theorem RL.kid {l m:List Rw} (h:RL l) (hm:m∈cR l):RL m:=by
 obtain⟨-,q,-,rfl⟩:=jj hm;exact h.part q
theorem RL.of_right {l:List Rw} (h:dg l=true) (ho:∀ r∈l,fI r):RL l:=by
 refine⟨ji h,zew h,fun r hr=>?_,ho⟩;obtain⟨i,hi,rfl⟩:=List.getElem_of_mem hr;have:=((jx l i).1 (((iX l).1 h).2 i hi)).1;unfold jg at this;rw[lL hi,decide_eq_true_iff] at this;exact this.2.2
theorem RL.right {l:List Rw} (h:RL l) (c:l.length≤1000):dg l=true:=by
 refine(iX l).2 ⟨c,fun i a=>(jx l i).2 ⟨?_,fun d=>?_⟩⟩
 ·have b:=List.getElem_mem a
  unfold jg;rw[lL a,decide_eq_true_iff];exact⟨(h.on _ b).1,(h.on _ b).2,h.sz _ b⟩
 ·rw[lL a,lL (show i - 1<l.length by omega)]
  exact List.pairwise_iff_getElem.1 h.rise (i - 1) i uo a uo
theorem znp {l:List Rw} (h:RL l) (i:Nat):RL (piece l i)∧(piece l i).length≤4:=by
 have hs:(piece l i).Sublist l:=(List.take_sublist _ _).trans (List.drop_sublist _ _);exact⟨⟨fun r a=>h.on r (hs.subset a),h.rise.sublist hs,fun r a=>h.sz r (hs.subset a),fun r a=>h.ok r (hs.subset a)⟩,by unfold piece;rw[List.length_take];omega⟩
theorem zlS {l:List Rw} (h:RL l) (i:Nat) {next:Rf} (a:next=zf∨Rw.br next.p next.t=true):rpp (eo (piece l i) next)=true:=by
 obtain⟨b,c⟩:=znp h i
 have e:(Rw.gW next.p next.t||Rw.br next.p next.t)=true:=by
  rcases a with rfl|a
  ·rfl
  ·rw[a];simp
 have d:rpp (eo (piece l i) next)=Rw.kR ⟨1,0,0,0,none,(piece l i).length,0,none,0,0,next.p,next.t⟩ (piece l i):=by
  unfold rpp Rw.jY eo;exact if_pos rfl
 rw[d];unfold Rw.kR;simp only;rw[e,decide_eq_true c,b.right uo];rfl
theorem zjr {l:List Rw} (h:RL l) (b:leaf l=false) {a:List Rf} (g:a.length=(cR l).length) (c:∀ r∈a,Rw.br r.p r.t=true):rpp (gI l a)=true:=by
 obtain⟨-,n,d⟩:=mY b;have i:=pW h.on d;have j:=pV l
 have f:rpp (gI l a)=Rw.kS ⟨2,cx l,cy l,(cQ l:Int),none,0,0,none,a.length,0,0,⟨#[]⟩⟩ a:=by
  unfold rpp Rw.jY gI;exact(if_neg (show ¬(2:Int)=1 from by decide)).trans (if_pos rfl)
 rw[f];unfold Rw.kS;simp only;rw[decide_eq_true (show 2≤a.length∧a.length≤4 by omega),(List.all_eq_true.2 c),((nP _ _ _).2 (mC h.on)),decide_eq_true (show(0:Int)<(cQ l:Int) by omega)];rfl
theorem zej {Kt:Nat→Int} {f:ByteArray→Option Rf} {l:List Rw} (d:RL l):∀ (i:Nat) (s:Sx) (next:Rf),lw Kt f s→(next=zf∨Rw.br next.p next.t=true)→Good Kt f s (di (cB f (dc Kt)) l i s next) i∧((di (cB f (dc Kt)) l i s next).e=0→0<i→Rw.br (di (cB f (dc Kt)) l i s next).r.p (di (cB f (dc Kt)) l i s next).r.t=true)
 |0,s,next,h,_=>⟨Good.none h next,fun _ a=>absurd a ud⟩
 |i+1,s,next,h,k=>by
  obtain⟨b,j⟩:=zgE h (zlS d i k);unfold di Gr.then;generalize dS (cB f (dc Kt)) s (eo (piece l i) next)=g at*
  split
  ·rename_i a
   obtain⟨m,n⟩:=zej d i g.s g.r b.gs (.inr (j a).1);refine⟨by rw[Nat.add_comm];exact b.seq a m,fun c _=>?_⟩;by_cases o:0<i
   ·exact n c o
   ·obtain rfl:i=0:=uo
    exact(j a).1
  ·rename_i a
   exact⟨b.more uo,fun c _=>absurd c a⟩
theorem zgF {Kt:Nat→Int} {f:ByteArray→Option Rf} (F:Sx→List Rw→Gr Sx) (c:List Rw→Nat):∀ (b:List (List Rw)) (s:Sx) (rs:List Rf),lw Kt f s→
  (∀ m∈b,∀ s,lw Kt f s→Good Kt f s (F s m) (c m)∧((F s m).e=0→Rw.br (F s m).r.p (F s m).r.t=true))→(∀ r∈rs,Rw.br r.p r.t=true)→
  Good Kt f s (cL F b s rs).1 (b.map c).sum∧((cL F b s rs).1.e=0→(cL F b s rs).2.length=rs.length+b.length∧∀ r∈(cL F b s rs).2,Rw.br r.p r.t=true)
 |[],s,rs,h,_,i=>⟨Good.none h zf,fun _=>⟨rfl,i⟩⟩
 |m::b,s,rs,h,n,i=>by
  obtain⟨j,o⟩:=n m (List.mem_cons.2 (.inl rfl)) s h;rw[oC];simp only[List.map_cons,List.sum_cons];generalize F s m=g at*
  split
  ·rename_i d
   obtain⟨q,u⟩:=zgF F c b g.s (rs++[g.r]) j.gs (fun x v=>n x (List.mem_cons.2 (.inr v))) (fun r k=>by
    rcases List.mem_append.1 k with a|a
    ·exact i r a
    ·rw[List.mem_singleton.1 a];exact o d)
   refine⟨j.seq d q,fun l=>?_⟩;obtain⟨w,y⟩:=u l;exact⟨by rw[w];simp;omega,y⟩
  ·rename_i d
   exact⟨j.more uo,fun l=>absurd l d⟩
theorem uO {Kt:Nat→Int} {f:ByteArray→Option Rf}:∀ (d:Nat) (s:Sx) (l:List Rw),RL l→cQ l<d→lw Kt f s→Good Kt f s (bW (cB f (dc Kt)) d s l) (bV d l)∧((bW (cB f (dc Kt)) d s l).e=0→Rw.br (bW (cB f (dc Kt)) d s l).r.p (bW (cB f (dc Kt)) d s l).r.t=true)
 |0,s,l,_,q,_=>absurd q (Nat.not_lt_zero _)
 |d+1,s,l,i,q,h=>by
  unfold bW bV;by_cases b:leaf l=true
  ·rw[if_pos b,if_pos b]
   obtain⟨a,k⟩:=zej i (cY l) s zf h (.inl rfl);exact⟨a,fun g=>k g (by unfold cY;omega)⟩
  ·rw[if_neg b,if_neg b]
   have c:leaf l=false:=by cases v:leaf l;rfl;exact absurd v b
   obtain⟨-,n,w⟩:=mY c;obtain⟨a,k⟩:=zgF (bW (cB f (dc Kt)) d) (bV d) (cR l) s [] h (fun m u x o=>uO d x m (i.kid u) (by have:=zjF i.on w u;omega) o) (fun r y=>by cases y);generalize cL (bW (cB f (dc Kt)) d) (cR l) s []=K at*
   split
   ·rename_i j
    obtain⟨z,A⟩:=k j;obtain⟨B,C⟩:=zgE a.gs (zjr i c (by simpa using z) A);exact⟨a.seq j B,fun g=>(C g).1⟩
   ·rename_i j
    exact⟨⟨a.gs,a.left,a.sq,a.kp,a.ky,a.e,fun D=>a.room uo,by have:=a.len;show K.1.ys.length≤_;omega⟩,fun g=>absurd g j⟩
def Reads (rd:Rf→ByteArray × Int) (r:Rf) (ys:List Sv) (R:List Rw):Prop:=
 ∀ d s,s.n+ys.length≤2100→ys.length≤d→cn rd d s r=(⟨s.n+ys.length,s.rows++R,s.pages++ys⟩,0)
def ep (rd:Rf→ByteArray × Int) (rs:List Rf) (ys:List Sv) (R:List Rw):Prop:=
 ∀ d s,s.n+ys.length≤2100→ys.length≤d→dW (cn rd d) rs s=(⟨s.n+ys.length,s.rows++R,s.pages++ys⟩,0)
theorem ep.nil (rd:Rf→ByteArray × Int):ep rd [] [] []:=fun d s _ _=>by
 show(s,0)=_;simp
theorem ep.snoc {rd:Rf→ByteArray × Int} {rs:List Rf} {r:Rf} {ys zs:List Sv} {R S:List Rw} (h:ep rd rs ys R) (g:Reads rd r zs S):ep rd (rs++[r]) (ys++zs) (R++S):=by
 intro d s i j;rw[List.length_append] at i j
 have c:∀ (rs:List Rf) (s s1:LS),dW (cn rd d) rs s=(s1,0)→dW (cn rd d) (rs++[r]) s=dW (cn rd d) [r] s1:=by
  intro rs
  induction rs with
  |nil=>intro s s1 e;cases e;rfl
  |cons x a l=>
   intro s s1 e;rw[List.cons_append,show dW (cn rd d) (x::(a++[r])) s=if(cn rd d s x).2=0 then dW (cn rd d) (a++[r]) (cn rd d s x).1 else cn rd d s x from rfl];rw[show dW (cn rd d) (x::a) s=if(cn rd d s x).2=0 then dW (cn rd d) a (cn rd d s x).1 else cn rd d s x from rfl] at e;by_cases b:(cn rd d s x).2=0
   ·rw[if_pos b] at e ⊢
    exact l _ _ e
   ·rw[if_neg b] at e
    rw[e] at b;exact absurd rfl b
 rw[c rs s _ (h d s uo uo),dW,g d _ (by simp only;omega) uo];simp only[if_true,dW];simp[Nat.add_assoc]
theorem zp7 {P:Pp} (h:rpp P=true):encS P=⟨(pB P).toArray⟩:=by unfold Rw.encS;rw[if_pos h]
theorem uP {rd:Rf→ByteArray × Int} {P:Pp} {r:Rf} {ys:List Sv} {R:List Rw} (b:rpp P=true) (i:fj P) (a:rd r=(encS P,0)) (h:ep rd (du P) ys R):Reads rd r (ys++[⟨encS P,r⟩]) (R++P.l):=by
 obtain⟨c,e⟩:=Rw.zoP b i;rw[←zp7 b] at c e;intro d s j k;rw[List.length_append,List.length_singleton] at j k;cases d with
 |zero=>omega
 |succ d=>
  rw[cn,a,if_neg uo,if_pos rfl,if_pos c];simp only[e];rw[h d ⟨s.n+1,s.rows,s.pages⟩ (by simp only;omega) uo];simp only[if_true];simp only[List.length_append,List.length_singleton,List.append_assoc]
  congr 2
  omega
def rowsOf (rd:Rf→ByteArray × Int) (r:Rf):List Rw:=(cn rd 2101 ⟨0,[],[]⟩ r).1.rows
theorem zhA {rd:Rf→ByteArray × Int} {r r':Rf} (h:rd r=rd r'):rowsOf rd r=rowsOf rd r':=by
 unfold rowsOf;rw[cn,cn,h];split
 ·rfl
 ·split
  ·split
   ·split<;>rfl
   ·rfl
  ·rfl
theorem Reads.rows {rd:Rf→ByteArray × Int} {r:Rf} {ys:List Sv} {R:List Rw} (h:Reads rd r ys R) (hl:ys.length≤2100):rowsOf rd r=R:=by
 unfold rowsOf;rw[h 2101 ⟨0,[],[]⟩ (by simp only;omega) uo];rfl
structure Un (rd:Rf→ByteArray × Int) (ys:List Sv) (l:List Rw):Prop where
 sub:∀ y∈ys,(∀ x∈rowsOf rd y.r,x∈l)∧(rowsOf rd y.r).length≤l.length∧(l≠[]→rowsOf rd y.r≠[])
 un:ys.Pairwise fun a b=>rowsOf rd a.r≠rowsOf rd b.r
theorem Un.nil (rd:Rf→ByteArray × Int) (l:List Rw):Un rd [] l:=⟨fun y hy=>(by cases hy),List.Pairwise.nil⟩
def kV (l:List Rw) (n:Nat):Nat→List Rw
 |0=>[]
 |k+1=>kV l n k++piece l (n - (k+1))
theorem uQ (l:List Rw):∀ k,k≤cY l→(kV l (cY l) k).Perm (l.drop (4*(cY l - k)))
 |0,_=>by
  show([]:List Rw).Perm _;rw[List.drop_eq_nil_of_le (by unfold cY;omega)]
 |k+1,b=>by
  have a:=uQ l k uo
  have e:l.drop (4*(cY l - (k+1)))=piece l (cY l - (k+1))++l.drop (4*(cY l - k)):=by
   unfold piece;have h:=List.take_append_drop 4 (l.drop (4*(cY l - (k+1))));rw[List.drop_drop] at h;rw[show 4*(cY l - k)=4*(cY l - (k+1))+4 by omega];exact h.symm
  rw[e];show(kV l (cY l) k++piece l (cY l - (k+1))).Perm _;exact(a.append_right _).trans List.perm_append_comm
theorem piece_ne {l:List Rw} {i:Nat} (h:i<cY l) (hl:l≠[]):piece l i≠[]:=by
 have h0:=List.length_pos_iff.2 hl;unfold cY at h;intro e;have:=congrArg List.length e;unfold piece at this;rw[List.length_take,List.length_drop,List.length_nil] at this;omega
theorem rF {σ:Type} {pl:Pm σ} {s:σ} {P:Pp} (h:(dS pl s P).e=0):rpp P=true∧(pl s (encS P)).1.2=0∧dS pl s P=⟨(pl s (encS P)).2,[⟨encS P,(pl s (encS P)).1.1⟩],0,(pl s (encS P)).1.1⟩:=by
 unfold dS at h ⊢;by_cases a:dM P=0
 ·rw[if_pos a] at h ⊢
  by_cases b:(pl s (encS P)).1.2=0
  ·rw[if_pos b] at h ⊢
   refine⟨?_,b,rfl⟩;unfold Rw.dM at a;cases c:rpp P with
   |true=>rfl
   |false=>rw[c] at a;exact absurd a ud
  ·rw[if_neg b] at h
   exact absurd h b
 ·rw[if_neg a] at h
  exact absurd h a
theorem zlT {l:List Rw} {next:Rf} (h:Rw.br next.p next.t=true):du (eo l next)=[next]:=by
 have h2:2≤next.p:=by
  unfold Rw.br at h;rw[Bool.and_eq_true,decide_eq_true_iff] at h;exact h.1
 unfold du;exact if_pos ⟨rfl,fun e=>by have:next.p=0:=e.1;omega⟩
theorem zgG (l:List Rw):du (eo l zf)=[]:=if_neg fun e=>e.2 ⟨rfl,rfl⟩
theorem zjs (l:List Rw) (ks:List Rf):du (gI l ks)=ks:=if_neg fun e=>absurd (show(2:Int)=1 from e.1) ud
theorem znq (l:List Rw):cY l≤l.length+1:=by unfold cY;omega
theorem zdu {σ:Type} {pl:Pm σ} {rd:Rf→ByteArray × Int} {l:List Rw} (n:∀ r∈l,fI r) (I:l≠[]) (B:l.length≤1000):∀ (i:Nat) (s:σ) (next:Rf) (c:List Sv),i≤cY l→next.p<4294967296→
  ((i=cY l∧next=zf∧c=[])∨(i<cY l∧Rw.br next.p next.t=true∧Reads rd next c (kV l (cY l) (cY l - i))))→c.length=cY l - i→Un rd c l→(∀ y∈c,(rowsOf rd y.r).length≤(kV l (cY l) (cY l - i)).length)→
  (di pl l i s next).e=0→(∀ y∈(di pl l i s next).ys,rd y.r=(y.t,0)∧Rw.br y.r.p y.r.t=true∧y.r.p<4294967296)→0<i→
  Reads rd (di pl l i s next).r (c++(di pl l i s next).ys) (kV l (cY l) (cY l))∧Un rd (c++(di pl l i s next).ys) l
 |0,_,_,_,_,_,_,_,_,_,_,_,h=>absurd h ud
 |i+1,s,next,c,Y,P,Q,J,o,q,j,m,_=>by
  unfold di Gr.then at j m ⊢;by_cases A:(dS pl s (eo (piece l i) next)).e=0
  ·rw[if_pos A] at j m ⊢
   obtain⟨R,Z,K⟩:=rF A;obtain⟨r,S⟩:∃ r,(pl s (encS (eo (piece l i) next))).1.1=r:=⟨_,rfl⟩;obtain⟨s1,C⟩:∃ s1,(pl s (encS (eo (piece l i) next))).2=s1:=⟨_,rfl⟩;rw[S,C] at K;rw[K] at j m ⊢;obtain⟨L,M,N⟩:=m ⟨encS (eo (piece l i) next),r⟩ us;have u:∀ x∈piece l i,x∈l:=fun x v=>(List.take_sublist _ _ |>.trans (List.drop_sublist _ _)).subset v
   have w:kV l (cY l) (cY l - i)=kV l (cY l) (cY l - (i+1))++piece l i:=by
    have e:cY l - i=(cY l - (i+1))+1:=uo
    rw[e];show _++piece l (cY l - ((cY l - (i+1))+1))=_;rw[show cY l - ((cY l - (i+1))+1)=i by omega]
   have d:Reads rd r (c++[⟨encS (eo (piece l i) next),r⟩]) (kV l (cY l) (cY l - i)):=by
    rw[w];refine uP R (tn (fun x v=>n x (u x v)) P) L ?_;rcases Q with⟨O,E,F⟩|⟨O,E,F⟩
    ·subst E F
     rw[zgG,O,Nat.sub_self];exact ep.nil rd
    ·rw[zlT E]
     have:=(ep.nil rd).snoc F;simpa using this
   have T:=znq l;have k:=d.rows (by rw[List.length_append,List.length_singleton];omega);have U:=List.length_pos_iff.2 (piece_ne (show i<cY l by omega) I);have V:(kV l (cY l) (cY l - i)).length=(kV l (cY l) (cY l - (i+1))).length+(piece l i).length:=by rw[w,List.length_append]
   have z:=uQ l (cY l - i) uo
   have g:Un rd (c++[⟨encS (eo (piece l i) next),r⟩]) l:=by
    refine⟨fun y f=>?_,List.pairwise_append.2 ⟨o.un,List.pairwise_singleton _ _,fun a W b X=>?_⟩⟩
    ·rcases List.mem_append.1 f with a|a
     ·exact o.sub y a
     ·rw[List.mem_singleton.1 a]
      simp only;rw[k];refine⟨fun x v=>(List.drop_sublist _ _).subset (z.mem_iff.1 v),?_,fun _ e=>?_⟩
      ·rw[z.length_eq,List.length_drop];omega
      ·have:=congrArg List.length e
       rw[List.length_nil] at this;omega
    ·rw[List.mem_singleton.1 X]
     simp only;rw[k];intro e;have:=q a W;rw[e] at this;omega
   by_cases H:0<i
   ·have:=zdu n I B i s1 r (c++[⟨encS (eo (piece l i) next),r⟩]) uo N (.inr ⟨by omega,M,d⟩) (by rw[List.length_append,List.length_singleton];omega) g (fun y f=>by
     rcases List.mem_append.1 f with a|a
     ·have:=q y a;omega
     ·rw[List.mem_singleton.1 a];simp only;rw[k];exact Nat.le_refl _) j (fun y f=>m y (by simp[f])) H
    rw[List.append_assoc] at this;exact this
   ·obtain rfl:i=0:=uo
    exact⟨d,g⟩
  ·rw[if_neg A] at j
   exact absurd j A
theorem ep.cons {rd:Rf→ByteArray × Int} {rs:List Rf} {r:Rf} {ys zs:List Sv} {R S:List Rw} (a:Reads rd r zs S) (h:ep rd rs ys R):ep rd (r::rs) (zs++ys) (S++R):=by
 intro d s b c;rw[List.length_append] at b c;rw[show dW (cn rd d) (r::rs) s=if(cn rd d s r).2=0 then dW (cn rd d) rs (cn rd d s r).1 else cn rd d s r from rfl,a d s uo uo];simp only[if_true];rw[h d _ (by simp only;omega) uo];simp[Nat.add_assoc]
def Gy (rd:Rf→ByteArray × Int) (y:Sv):Prop:=rd y.r=(y.t,0)∧Rw.br y.r.p y.r.t=true∧y.r.p<4294967296
def uR (a b:List Rw):Prop:=∀ x∈a,x ∉ b
theorem zix (l:List Rw):(cR l).Pairwise uR:=by
 unfold cR;refine List.Pairwise.sublist List.filter_sublist ?_;have h:∀ p q,p≠q→uR (Rq.part l p) (Rq.part l q):=fun p q a x c d=>a ((kz.1 c).2.symm.trans (kz.1 d).2)
 simp only[List.map_cons,List.map_nil,List.pairwise_cons,List.mem_cons,List.not_mem_nil,or_false,forall_eq_or_imp,forall_eq];exact⟨⟨h 0 1 ud,h 0 2 ud,h 0 3 ud⟩,⟨h 1 2 ud,h 1 3 ud⟩,h 2 3 ud,fun _ h=>(by cases h),List.Pairwise.nil⟩
def Sb (rd:Rf→ByteArray × Int) (y:Sv) (m:List Rw):Prop:=(∀ x∈rowsOf rd y.r,x∈m)∧(rowsOf rd y.r).length≤m.length∧rowsOf rd y.r≠[]
theorem zeT {σ:Type} {rd:Rf→ByteArray × Int} (F:σ→List Rw→Gr σ):∀ (f:List (List Rw)) (s:σ) (rs:List Rf),f.Pairwise uR→(∀ m∈f,m≠[])→
  (∀ m∈f,∀ s,(F s m).e=0→(∀ y∈(F s m).ys,Gy rd y)→(∃ R,R.Perm m∧Reads rd (F s m).r (F s m).ys R)∧Un rd (F s m).ys m∧(F s m).r.p<4294967296)→
  (cL F f s rs).1.e=0→(∀ y∈(cL F f s rs).1.ys,Gy rd y)→
  ∃ g R,(cL F f s rs).2=rs++g∧(∀ r∈g,r.p<4294967296)∧R.Perm f.flatten∧ep rd g (cL F f s rs).1.ys R∧(∀ y∈(cL F f s rs).1.ys,∃ m∈f,Sb rd y m)∧(cL F f s rs).1.ys.Pairwise fun a b=>rowsOf rd a.r≠rowsOf rd b.r
 |[],s,rs,_,_,_,_,_=>⟨[],[],(List.append_nil rs).symm,fun r k=>(by cases k),List.Perm.refl _,ep.nil rd,fun y h=>(by cases h),List.Pairwise.nil⟩
 |m::f,s,rs,B,l,u,j,h=>by
  rw[oC] at j h ⊢;by_cases o:(F s m).e=0
  ·rw[if_pos o] at j h ⊢
   simp only at j h ⊢;obtain⟨⟨S,s1,C⟩,v,D⟩:=u m (List.mem_cons.2 (.inl rfl)) s o fun y d=>h y (List.mem_append.2 (.inl d))
   obtain⟨q,t⟩:=List.pairwise_cons.1 B;obtain⟨g,R,E,G,H,I,w,J⟩:=zeT F f (F s m).s (rs++[(F s m).r]) t (fun x i=>l x (List.mem_cons.2 (.inr i))) (fun x i=>u x (List.mem_cons.2 (.inr i))) j fun y d=>h y (List.mem_append.2 (.inr d))
   have n:∀ y∈(F s m).ys,Sb rd y m:=fun y d=>by
    obtain⟨a,b,c⟩:=v.sub y d;exact⟨a,b,c (l m (List.mem_cons.2 (.inl rfl)))⟩
   refine⟨(F s m).r::g,S++R,by rw[E,List.append_assoc];rfl,fun r k=>?_,?_,ep.cons C I,fun y d=>?_,List.pairwise_append.2 ⟨v.un,J,fun a K b L e=>?_⟩⟩
   ·rcases List.mem_cons.1 k with rfl|k
    ·exact D
    ·exact G r k
   ·rw[List.flatten_cons];exact s1.append H
   ·rcases List.mem_append.1 d with a|a
    ·exact⟨m,List.mem_cons.2 (.inl rfl),n y a⟩
    ·obtain⟨x,i,hs⟩:=w y a
     exact⟨x,List.mem_cons.2 (.inr i),hs⟩
   ·obtain⟨x,i,hs⟩:=w b L
    obtain⟨M,-,N⟩:=n a K;obtain⟨z,A⟩:=List.exists_mem_of_ne_nil _ N;exact q x i z (M z A) (hs.1 z (e▸A))
  ·rw[if_neg o] at j
   exact absurd j o
theorem znT:∀ (b:List (List Rw)) (j:Nat) (a:j<b.length),b[j].length≤(b.map List.length).sum
 |[],_,a=>absurd a (Nat.not_lt_zero _)
 |x::c,0,_=>by rw[List.map_cons,List.sum_cons];exact Nat.le_add_right _ _
 |x::c,j+1,a=>by
  rw[List.map_cons,List.sum_cons];have:=znT c j (by simpa using a);show(c[j]'(by simpa using a)).length≤_;omega
theorem uS:∀ (d:List (List Rw)) (i j:Nat) (f:i<j) (c:j<d.length) {a b:List Rw},d[i]' uo=a→d[j]=b→a.length+b.length≤(d.map List.length).sum
 |[],_,_,_,c,_,_,_,_=>absurd c (Nat.not_lt_zero _)
 |x::e,0,j+1,_,c,a,b,g,h=>by
  have k:x=a:=g;have l:e[j]'(by simpa using c)=b:=h;subst k;rw[List.map_cons,List.sum_cons];have:=znT e j (by simpa using c);rw[l] at this;omega
 |x::e,i+1,j+1,f,c,a,b,g,h=>by
  rw[List.map_cons,List.sum_cons];have:=uS e i j uo (by simpa using c) (a:=a) (b:=b) g h;omega
theorem zgH (l:List Rw):(cR l).flatten.Perm l:=by
 have h:=zjG (fun m=>m) rfl l;rw[List.flatMap_id'] at h;rw[h];exact zex l
theorem zeU {σ:Type} {pl:Pm σ} (E:∀ s t,(pl s t).1.1.p<4294967296) {rd:Rf→ByteArray × Int}:∀ (d:Nat) (s:σ) (l:List Rw),RL l→l.length≤1000→l≠[]→cQ l<d→
  (bW pl d s l).e=0→(∀ y∈(bW pl d s l).ys,Gy rd y)→
  (∃ R,R.Perm l∧Reads rd (bW pl d s l).r (bW pl d s l).ys R)∧Un rd (bW pl d s l).ys l
 |0,_,_,_,_,_,hd,_,_=>absurd hd (Nat.not_lt_zero _)
 |d+1,s,l,D,F,T,hd,o,g=>by
  have c:=(oD pl (d+1) s l).1;have a2:=oF (d+1) l D.on;unfold bW at o g c ⊢;by_cases A:leaf l=true
  ·rw[if_pos A] at o g ⊢
   obtain⟨h1,V⟩:=zdu D.ok T F (cY l) s zf [] zn (Nat.zero_lt_succ _) (.inl ⟨rfl,rfl,rfl⟩) (by rw[Nat.sub_self];rfl) (Un.nil rd l) (fun y g=>by cases g) o g (by unfold cY;omega);have hp:=uQ l (cY l) zn;rw[Nat.sub_self,Nat.mul_zero,List.drop_zero] at hp;exact⟨⟨_,hp,h1⟩,V⟩
  ·rw[if_neg A] at o g c ⊢
   obtain⟨-,n,hn⟩:=mY (by cases hh:leaf l;rfl;exact absurd hh A)
   have hk:=zeT (rd:=rd) (bW pl d) (cR l) s [] (zix l) (fun m v=>(jj v).1) (fun m v s' W f=>by
    obtain⟨-,q,-,e⟩:=jj v;obtain⟨Q,X⟩:=zeU E d s' m (D.kid v) (Nat.le_trans (by rw[e];exact oP l q) F) (jj v).1 (by have:=zjF D.on hn v;omega) W f;exact⟨Q,X,tT E d s' m⟩)
   by_cases S:(cL (bW pl d) (cR l) s []).1.e=0
   ·rw[if_pos S] at o g c ⊢
    generalize cL (bW pl d) (cR l) s []=K at*
    obtain⟨u,R,Q,X,k3,k4,k5,k6⟩:=hk S fun y f=>g y (List.mem_append.2 (.inl f))
    rw[List.nil_append] at Q;rw[Q] at o g c ⊢;obtain⟨p1,p2,p3⟩:=rF o;obtain⟨r,hr⟩:∃ r,(pl K.1.s (encS (gI l u))).1.1=r:=⟨_,rfl⟩;obtain⟨s1,B⟩:∃ s1,(pl K.1.s (encS (gI l u))).2=s1:=⟨_,rfl⟩;rw[hr,B] at p3;rw[p3] at o g c ⊢;obtain⟨y1,y2,y3⟩:=g ⟨encS (gI l u),r⟩ us;have H:=mC D.on;have Y:fj (gI l u):=⟨by show cx l<_;have:=H.x31;omega,by show cy l<_;have:=H.y31;omega,Nat.zero_lt_succ _,fun x I=>(by cases I),X⟩;have C:Reads rd r (K.1.ys++[⟨encS (gI l u),r⟩]) (R++[]):=uP p1 Y y1 (by rw[zjs];exact k4);rw[List.append_nil] at C;have k:=k3.trans (zgH l);rw[List.length_append,List.length_singleton] at c;have J:=C.rows (by rw[List.length_append,List.length_singleton];omega)
    have L:∀ y∈K.1.ys,(rowsOf rd y.r).length<l.length:=fun y f=>by
     obtain⟨m,v,hs⟩:=k5 y f;have h3:=hs.2.1;have a3:=zhJ l
     have:m.length<l.length:=by
      obtain⟨Z,M,N⟩:∃ Z∈cR l,Z≠m:=by
       have w:=zix l
       match O:cR l,(pW D.on hn) with
       |a::b::t,_=>
        rw[O] at w;obtain⟨d1,-⟩:=List.pairwise_cons.1 w
        have a0:a≠b:=fun e=>by
         have ha:=(jj (show a∈cR l by rw[O];simp)).1;obtain⟨z,hz⟩:=List.exists_mem_of_ne_nil _ ha;exact d1 b us z hz (e▸hz)
        by_cases e:a=m
        ·exact⟨b,by simp,fun P=>a0 (e.trans P.symm)⟩
        ·exact⟨a,by simp,e⟩
      obtain⟨i,hi,e1⟩:=List.getElem_of_mem v;obtain⟨j,hj,P⟩:=List.getElem_of_mem M;have a4:=List.length_pos_iff.2 (jj M).1
      have a5:m.length+Z.length≤((cR l).map List.length).sum:=by
       rcases Nat.lt_trichotomy i j with h|h|h
       ·exact uS _ i j h (by simpa using hj) e1 P
       ·subst h;exact absurd (P.symm.trans e1) N
       ·rw[Nat.add_comm];exact uS _ j i h (by simpa using hi) P e1
      omega
     omega
    refine⟨⟨R,k,C⟩,fun y f=>?_,List.pairwise_append.2 ⟨k6,List.pairwise_singleton _ _,fun a ha b hb=>?_⟩⟩
    ·rcases List.mem_append.1 f with a|a
     ·obtain⟨m,v,B,a6,a1⟩:=k5 y a
      exact⟨fun x I=>by
       obtain⟨-,q,-,e⟩:=jj v;have:=B x I;rw[e] at this;exact(kz.1 this).1,Nat.le_of_lt (L y a),fun _=>a1⟩
     ·rw[List.mem_singleton.1 a]
      simp only;rw[J];exact⟨fun x I=>k.mem_iff.1 I,by rw[k.length_eq];exact Nat.le_refl _,fun h e=>h (by rw[e] at k;exact k.symm.eq_nil)⟩
    ·rw[List.mem_singleton.1 hb]
     simp only;rw[J];intro e;have:=L a ha;rw[e,k.length_eq] at this;omega
   ·rw[if_neg S] at o
    exact absurd o S
theorem ziy {σ:Type} {pl:Pm σ} {q:Pm Unit} {s:σ} {P:Pp} (c:(dS pl s P).e=0) (h:∀ y∈(dS pl s P).ys,q () y.t=((y.r,0),())):dS q () P=⟨(),(dS pl s P).ys,0,(dS pl s P).r⟩:=by
 obtain⟨d,g,f⟩:=rF c;rw[f] at h ⊢;have b:=h _ (List.mem_singleton.2 rfl);have a:dM P=0:=by unfold Rw.dM;rw[if_pos d]
 unfold dS;rw[if_pos a,b,if_pos rfl]
theorem zeV {σ:Type} {pl:Pm σ} {q:Pm Unit} {l:List Rw}:∀ (i:Nat) (s:σ) (next:Rf),(di pl l i s next).e=0→(∀ y∈(di pl l i s next).ys,q () y.t=((y.r,0),()))→di q l i () next=⟨(),(di pl l i s next).ys,0,(di pl l i s next).r⟩
 |0,_,_,_,_=>rfl
 |i+1,s,next,a,h=>by
  unfold di Gr.then at a h ⊢;by_cases b:(dS pl s (eo (piece l i) next)).e=0
  ·rw[if_pos b] at a h ⊢
   simp only at a h ⊢;rw[ziy b fun y c=>h y (List.mem_append.2 (.inl c))];simp only[if_true];rw[zeV i _ _ a fun y c=>h y (List.mem_append.2 (.inr c))]
  ·rw[if_neg b] at a
   exact absurd a b
theorem ziz {σ:Type} {q:Pm Unit} (F:σ→List Rw→Gr σ) (G:Unit→List Rw→Gr Unit):∀ (a:List (List Rw)) (s:σ) (rs:List Rf),
  (∀ m∈a,∀ s,(F s m).e=0→(∀ y∈(F s m).ys,q () y.t=((y.r,0),()))→G () m=⟨(),(F s m).ys,0,(F s m).r⟩)→(cL F a s rs).1.e=0→(∀ y∈(cL F a s rs).1.ys,q () y.t=((y.r,0),()))→
  cL G a () rs=(⟨(),(cL F a s rs).1.ys,0,(cL F a s rs).1.r⟩,(cL F a s rs).2)
 |[],_,_,_,_,_=>rfl
 |m::a,s,rs,f,b,h=>by
  rw[oC F] at b h ⊢;by_cases c:(F s m).e=0
  ·rw[if_pos c] at b h ⊢
   simp only at b h ⊢;rw[oC G,f m (List.mem_cons.2 (.inl rfl)) s c fun y d=>h y (List.mem_append.2 (.inl d))];simp only[if_true];rw[ziz F G a _ _ (fun x g=>f x (List.mem_cons.2 (.inr g))) b fun y d=>h y (List.mem_append.2 (.inr d))]
  ·rw[if_neg c] at b
   exact absurd b c
theorem ziA {σ:Type} {pl:Pm σ} {q:Pm Unit}:∀ (d:Nat) (s:σ) (l:List Rw),(bW pl d s l).e=0→(∀ y∈(bW pl d s l).ys,q () y.t=((y.r,0),()))→bW q d () l=⟨(),(bW pl d s l).ys,0,(bW pl d s l).r⟩
 |0,_,_,_,_=>rfl
 |d+1,s,l,a,h=>by
  unfold bW at a h ⊢;by_cases b:leaf l=true
  ·rw[if_pos b] at a h ⊢
   rw[if_pos b];exact zeV _ _ _ a h
  ·rw[if_neg b] at a h ⊢
   rw[if_neg b];by_cases c:(cL (bW pl d) (cR l) s []).1.e=0
   ·rw[if_pos c] at a h ⊢
    have g:=ziz (bW pl d) (bW q d) (cR l) s [] (fun m _ i j k=>ziA d i m j k) c fun y f=>h y (List.mem_append.2 (.inl f))
    rw[g];simp only[if_true] at a h ⊢;rw[ziy a fun y f=>h y (List.mem_append.2 (.inr f))]
   ·rw[if_neg c] at a
    exact absurd a c
theorem zlU:∀ {ys:List Sv},(ys.Pairwise fun a b=>a.t≠b.t)→∀ y∈ys,wh ys y.t=some y.r
 |[],_,y,c=>by cases c
 |x::g,h,y,c=>by
  obtain⟨d,f⟩:=List.pairwise_cons.1 h;unfold wh;rcases List.mem_cons.1 c with rfl|c
  ·rw[if_pos rfl]
  ·rw[if_neg (fun e=>d y c e.symm)]
   exact zlU f y c
open Rv (FB fD gQ bP Vs Pl gh fs eC cf take iC dl df fE)
theorem znr {l m:List Rw} (hl:jP l) (hm:jP m) (h:l.Perm m):l=m:=by
 refine h.eq_of_pairwise (le:=fun(a b:Rw)=>a.id<b.id) (fun a b _ _ h1 h2=>?_) hl hm;omega
theorem zjt {s l:List Rw} (hs:s.Pairwise fun a b=>ie a≤ie b) (d:s.Perm l) (f:jP l):s=l:=by
 refine znr ?_ f d
 have c:s.Pairwise fun a b=>a.id≠b.id:=(d.pairwise_iff (fun h=>fun e=>h e.symm)).2 (f.imp fun h=>by omega)
 exact(hs.and c).imp fun h=>by have:=h.1;unfold ie at this;omega
theorem zns (rd:Rf→ByteArray × Int):∀ (d:Nat) (s:LS) (r:Rf),(cn rd d s r).2=0→∃ c,(cn rd d s r).1.pages=c++[⟨(rd r).1,r⟩]
 |0,s,r,h=>absurd (show(61:Int)=0 from h) ud
 |d+1,s,r,h=>by
  unfold cn at h ⊢;split at h
  ·exact absurd (show(61:Int)=0 from h) ud
  ·rename_i e
   rw[if_neg e];split at h
   ·rename_i a
    rw[if_pos a];split at h
    ·rename_i f
     rw[if_pos f];split at h
     ·rename_i b
      rw[if_pos b];exact⟨_,rfl⟩
     ·rename_i b
      exact absurd h b
    ·exact absurd (show(61:Int)=0 from h) ud
   ·rename_i a
    exact absurd h a
theorem zlV {Kt:Nat→Int} {f:ByteArray→Option Rf} {s0:Sx} (h:lw Kt f s0) {l:List Rw} (G:dg l=true) (W:∀ r∈l,fI r) {g:Gr Sx} (c:bW (cB f (dc Kt)) 32 s0 l=g) (H:g.e=0):
  (∃ R,R.Perm l∧cn (eJ Kt g.s.v g.s.t) 2101 L0 g.r=(⟨g.ys.length,R,g.ys⟩,0))∧gM g.ys l=true∧(∃ I t,g.ys=I++[⟨t,g.r⟩])∧g.r.p<4294967296:=by
 have k:=RL.of_right G W;have X:=((iX l).1 G).1;have Y:=nQ k.on;obtain⟨E,-⟩:=uO 32 s0 l k uo h;rw[c] at E;have Z:=E.gs.pok.hon.ok.n1
 have w:∀ s t,(cB f (dc Kt) s t).1.1.p<4294967296:=fun s t=>by
  unfold cB;cases hf:f t with
  |none=>exact(zgy Kt ⟨0,0,0,0,0,none,0⟩ (fun _=>none) 0 0).small s t
  |some r=>
   have:=(h.had t r hf).1.2.1;have a0:=h.pok.hon.ok.n1;show r.p<_;simp only at this;omega
 have m:∀ y∈g.ys,Gy (eJ Kt g.s.v g.s.t) y:=fun y u=>by
  have J:=E.ky y u;exact⟨zlR E.gs.pok.hon J,uN J,by have:=J.1.2.1;omega⟩
 have z:=(oD (cB f (dc Kt)) 32 s0 l).1;rw[c] at z;have S:=oF 32 l k.on
 have n:(∃ R,R.Perm l∧Reads (eJ Kt g.s.v g.s.t) g.r g.ys R)∧g.ys.Pairwise fun a b=>a.t≠b.t:=by
  by_cases A:l=[]
  ·subst A
   have d:=H;rw[←c] at d;unfold bW at d c;have K:cY []=1:=rfl;rw[K] at d c;unfold di Gr.then at d c;by_cases F:(dS (cB f (dc Kt)) s0 (eo (piece [] 0) zf)).e=0
   ·rw[if_pos F] at d c
    obtain⟨p1,p2,T⟩:=rF F;obtain⟨r,L⟩:∃ r,(cB f (dc Kt) s0 (encS (eo (piece [] 0) zf))).1.1=r:=⟨_,rfl⟩;rw[L] at T;rw[T] at c;have o:g.ys=[⟨encS (eo (piece [] 0) zf),r⟩]:=by rw[←c];rfl
    have M:g.r=r:=by rw[←c];rfl
    refine⟨⟨[],List.Perm.refl _,?_⟩,by rw[o];exact List.pairwise_singleton _ _⟩;have u:=(m ⟨encS (eo (piece [] 0) zf),r⟩ (by rw[o];simp)).1;rw[M,o];have:=uP (rd:=eJ Kt g.s.v g.s.t) (r:=r) (ys:=[]) (R:=[]) p1 (tn (fun x hx=>by simp[piece] at hx) (Nat.zero_lt_succ _)) u (by rw[zgG];exact ep.nil _);simpa [piece,eo] using this
   ·rw[if_neg F] at d
    exact absurd d F
  ·have B:=H
   have i:=m;rw[←c] at B i;obtain⟨U,V⟩:=zeU w 32 s0 l k X A uo B (by rw[c] at i ⊢;exact i);rw[c] at U V;exact⟨U,V.un.imp_of_mem fun {a b} ha hb N e=>N (zhA (by rw[(m a ha).1,(m b hb).1,e]))⟩
 obtain⟨⟨R,hR,O⟩,P⟩:=n
 have j:cn (eJ Kt g.s.v g.s.t) 2101 L0 g.r=(⟨g.ys.length,R,g.ys⟩,0):=by
  rw[(O 2101 L0 (by show 0+_≤_;omega) uo)];simp[L0]
 have C:lu g.ys l=⟨(),g.ys,0,g.r⟩:=by
  have:=ziA (pl:=cB f (dc Kt)) (q:=cB (wh g.ys) oG) 32 s0 l (by rw[c];exact H) (fun y u=>by
   rw[c] at u;unfold cB;rw[zlU P y u])
  rw[c] at this;exact this
 refine⟨⟨R,hR,j⟩,?_,?_,?_⟩
 ·unfold gM
  rw[C,G,show dQ (⟨(),g.ys,0,g.r⟩:Gr Unit)=g.ys from if_pos rfl,(qI eD zlH g.ys g.ys).2 rfl];rfl
 ·obtain⟨I,D⟩:=zns (eJ Kt g.s.v g.s.t) 2101 L0 g.r (by rw[j])
  rw[j] at D;exact⟨I,_,D⟩
 ·have:=tT w 32 s0 l
  rw[c] at this;exact this
def iT:Vs:=df (fE 1) 1 7
theorem rG (p:Nat):(iT.tk p).isSome=decide (p<2):=(Rv.zo4 (fE 1) 1 7).2.2.2.2.2 p
theorem znU:∀ n,2≤n→cf iT.tk n=n - 2
 |0,h=>absurd h ud
 |1,h=>absurd h ud
 |n+2,_=>by
  have c:=Rv.zlv (tk:=iT.tk) (p:=2) fun q e=>by rw[rG];exact decide_eq_true e
  induction n with
  |zero=>exact c
  |succ n f=>
   rw[show n+1+2=(n+2)+1 from rfl,Rv.ny,if_neg (by rw[rG];simp),f uo];omega
theorem nH:Rk.cq (fE 1) 1=0:=uk
theorem uT:gh iT:=⟨nH,by decide,by decide,by decide,by decide,by decide⟩
theorem rH (n:Nat) (h4:4≤n) (hn:n≤4096):ju ⟨iT,Rd.ce n,[]⟩:=
 ⟨uT,Rv.zo9 n h4 hn,⟨by rw[show(Rd.ce n).n=n from rfl,znU n uo];show 0+_≤_;omega,Nat.zero_le _⟩,by show(iT.tk 0).isSome=true;rw[rG];rfl,by show(iT.tk 1).isSome=true;rw[rG];rfl⟩
theorem zhC (Kt:Nat→Int) (n:Nat) (h4:4≤n) (hn:n≤4096):lw Kt (wh []) ⟨iT,Rd.ce n,[]⟩:=⟨rH n h4 hn,fun t r e=>by cases e⟩
end Rz
namespace Rv
open Go.RowKit Go.Lib
open Rd (bC St Ok dT Dv pt bF bu)
theorem ziB:(fE 1).length=1:=tl 1
theorem zeW (Kt:Nat→Int) (n:Nat) (t:4≤n) (u:n≤4096) (w:World) (v:Rs.Tb Kt w):
  Calls Tryz.prog 12 #[.int .i64 (n:Int)] w fun e S=>∃ (A:Pl) (q:Nat),e=.returned (.tuple #[pt A.g,pt A.d,pt q,.bool true])∧bP S A (df (fE 1) 1 7) (Rd.ce n)∧(∀ k,A.has k→w.heap.size≤k)∧Below w.heap.size w S:=by
 have HD:Hid (∀ _:True,_):=fun _=>Rd.rq n t u w
 have HR:Hid (∀ W,_):=fun W=>Rd.znb n t u W
 have T:Hid (∀ W,_):=fun W=>zm9 1 uo W
 have y:Hid (Rs.Tb Kt w):=v;have z:3<w.heap.size:=by obtain⟨⟨_,_,h⟩,_⟩:=v;exact hlt h
 have f:Hid (3<w.heap.size∧2<w.heap.size):=⟨z,(by obtain⟨_,_,_,h⟩:=v;exact hlt h)⟩;have C:Hid _:=Rd.zkv n t u;go_enter Tryz.func12,Tryz.ntmps12;go_wp2_with fail;refine Calls.mono (HD.o trivial) ?_;rintro e w1 ⟨d,b,m,rfl,hd,ld,lb,lm,b1⟩;have i:Hid _:=b1;have D:Hid _:=hd;have U:Hid (w.heap.size≤d∧w.heap.size≤b∧w.heap.size≤m):=⟨ld,lb,lm⟩;go_wp2_with fail;refine Calls.mono (HR.o _) ?_;rintro e w2 ⟨r,x,rfl,hf,-,V⟩;have j:Hid _:=i.o.trans (V.mono i.o.size);have E:Hid _:=D.o.below V zn;have F:Hid _:=hf;go_wp2_with fail;refine Calls.mono (T.o _) ?_;rintro e w3 ⟨o3,l,rfl,G,-,H⟩;have a:Hid _:=j.o.trans (H.mono j.o.size);have I:Hid _:=E.o.below H zn
 have J:Hid _:=F.o.below H zn;have X:Hid (∀ _:True,_):=fun _=>zo5 Kt d b m (Rd.ce n) (fE 1) 1 7 o3 l w3 I.o (by have:=f.o;have:=U.o;rintro(e|e|e)<;>omega) (by have:=f.o;have:=U.o;rintro(e|e|e)<;>omega) (y.o.below a.o zn) G Rz.nH
 go_wp2_with fail;refine Calls.mono (X.o trivial) ?_;rintro e w4 ⟨A,rfl,K,⟨rfl,rfl,rfl⟩,lg,lt,b4⟩;have o:Hid _:=a.o.trans (b4.mono a.o.size);have L:Hid _:=K;have M:Hid _:=J.o.below b4 zn
 have HA:Hid (∀ k,A.has k→w.heap.size≤k):=fun k hk=>by
  have h1:=a.o.size;rcases hk with e|e|e|e|e<;>omega
 go_wp2_with fail;refine Calls.mono (T.o _) ?_;rintro e w5 ⟨o5,p,rfl,N,-,O⟩;have s:Hid _:=o.o.trans (O.mono o.o.size);have P:Hid _:=L.o.below O zn;have Y:Hid (∀ _:True,_):=fun _=>znc r x (Rd.ce n) (fE 1) 1 7 o5 p w5 (M.o.below O zn) C.o N Rz.nH
 go_wp2_with fail;refine Calls.mono (Y.o trivial) ?_;rintro e w6 ⟨q,rfl,Z⟩;have Q:Hid _:=s.o.trans (Z.mono s.o.size);have R:Hid _:=P.o.below Z zn;go_wp2_with fail;refine bodyPost_ret (sU rfl _ _) rfl ?_;exact⟨A,q,rfl,R.o,HA.o,Q.o⟩
end Rv
namespace Rz
open Go.RowKit Go.Lib Go.Shelf
open Rc Rq
open Rw (Rf dR fc eO Pp dt eG fj encS dM pz gv Pg rpp pB cX gP cA en)
open Rv (FB fD gQ bP Vs Pl gh fs eC cf take iC dl df fE)
open Rd (pt St Ok)
theorem zfC {e:Func} {p:Tmp} (h:e.results=#[.cell p 49]) (c:Array Value) (w:World) (g:Nat) (a b:Value) {t:TypeId}
  (i:c.getD p undef=.pointer (some ⟨g,0,none⟩)) (f:w.heap[g]? =some (.cells #[a,b] t (0,0))):(results e c).run Tryz.prog w=.ok (.agg #[a,b]) w:=by
 have j:w.cell? ⟨g,0,none⟩=some a:=by rw[zr f];rfl
 have k:w.cell? ⟨g,1,none⟩=some b:=by rw[zr f];rfl
 simp[results,h,(by simpa using i),asAddr,go_sem,j,k]
theorem zlW (l:List Rw) (o:Option Addr) (a:Nat) (w:World) (c:cH w o a l):
  Calls Tryz.prog 14 #[.slice o l.length a] w fun e h=>e=.returned (.slice o (l.take 24).length a)∧h=w:=by
 obtain⟨m,d⟩:∃ m,(l.take 24).length=m:=⟨_,rfl⟩;have f:m=min 24 l.length:=by rw[←d,List.length_take]
 rw[d];have i:=c.1;have b:(if(24:Int)<(l.length:Int) then(24:Int) else(l.length:Int))=(m:Int):=by split<;>omega
 have g:=fun w=>zmm o l.length a m w uo c.2.2.1
 clear c d f i;go_enter Tryz.func14,Tryz.ntmps14
 go_wp2_with (refine zmv rfl 3 3 (.tmp 5) (.const (.int .i64 24)) rfl rfl rfl b ?_)
 go_ret;exact⟨rfl,rfl⟩
theorem zp8 {l:List Rw} {o:Option Addr} {c:Nat} {w:World} (h:cH w o c l):cH w o c (l.take 24):=by
 refine⟨by rw[List.length_take];have:=h.1;omega,h.2.1,h.2.2.1,?_,fun k=>?_⟩
 ·have n:∀ m:List Rw,(m.flatMap rc).length=m.length*4:=fun m=>by
   induction m with
   |nil=>rfl
   |cons a t q=>rw[List.flatMap_cons,List.length_append,q,List.length_cons];simp[rc];omega
  exact n _
 ·obtain⟨b,d,e,f,r⟩:=h.2.2.2.2 (by rw[List.length_take] at k;omega)
  refine⟨b,d,e,f,fun j u i=>r j u ?_⟩;have:l.flatMap rc=(l.take 24).flatMap rc++(l.drop 24).flatMap rc:=by rw[←List.flatMap_append,List.take_append_drop]
  rw[this,List.getElem?_append_left (List.getElem?_eq_some_iff.1 i).1];exact i
theorem znu (l:List Sv) (r:Rf) (t:ByteArray) (d:List Sv) (u:l=d++[⟨t,r⟩]) (o:Option Addr) (f:Nat) (w:World) (h:cF w o f l):
  Calls Tryz.prog 22 #[.slice o l.length f] w fun e x=>e=.returned (dR r)∧Below w.heap.size w x:=by
 have a:l.length=d.length+1:=by rw[u];simp
 have g:=Nat.le_trans h.1 h.2.1;obtain⟨k,c⟩:∃ k,w.alloc (.cells #[.int .u32 0,.string ⟨#[]⟩] 49)=k:=⟨_,rfl⟩;have v:Below w.heap.size w k:=by rw[←c];exact bF _ _
 have y0:FB w.heap.size 0 ⟨#[]⟩ k:=by rw[←c];exact gQ w
 obtain⟨b,y,rfl,z,m,q,s⟩:=(h.below v zn).one (i:=d.length) uo;have hs:sat l d.length=⟨t,r⟩:=by unfold sat;rw[u];simp
 rw[hs] at m q s;obtain⟨G,H,I,J⟩:=y0.facts;obtain⟨A,B⟩:=y0.set (r.p:Int) r.t;have C:Hid _:=A;have D:Hid _:=v.trans (B _ zn);obtain⟨n,E⟩:∃ n,d.length=n:=⟨_,rfl⟩;obtain⟨L,F⟩:∃ L,l.length=L:=⟨_,rfl⟩;rw[E] at m q s a;simp only[maxLen] at g
 have j:Hid _:=c;go_enter Tryz.func22,Tryz.ntmps22
 go_wp2_with (first|(rw[j.o];clear j))
 refine bodyPost_ret (zfC rfl _ _ _ _ _ rfl C.o) rfl ?_;exact⟨rfl,D.o⟩
end Rz
end Go.Proofs.YtokfnghckpgjmaaGreatDoor
