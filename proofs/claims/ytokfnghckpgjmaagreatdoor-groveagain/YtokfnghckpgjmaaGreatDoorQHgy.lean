/- Rows sorted by their Ids. -/
import Derived.Test.YtokfnghckpgjmaaGreatDoorQHgq
import Derived.Test.YtokfnghckpgjmaaGreatDoorPBA
import Derived.Test.YtokfnghckpgjmaaGreatDoorPBC
import Derived.Test.YtokfnghckpgjmaaGreatDoorPAb
set_option maxRecDepth 100000
set_option maxHeartbeats 4000000
namespace Go.Proofs.YtokfnghckpgjmaaGreatDoor
namespace Rz
open Go.RowKit Go.Lib Go.Shelf
open Rc Rq
def rid (r:Rw):Nat:=r.id
theorem zgD (x:Nat) (w:World):Calls Tryz.prog 88 #[.int .u64 (x:Int)] w fun e w'=>e=.returned (.bool false)∧w'=w:=by
 go_enter Tryz.func88,Tryz.ntmps88;go_wp2_with fail;go_ret;exact⟨rfl,rfl⟩
def cmpI (x y:Nat):Int:=if x<y then -1 else if y<x then 1 else 0
theorem zhz (x y:Nat) (w:World):Calls Tryz.prog 62 #[.int .u64 (x:Int),.int .u64 (y:Int)] w fun e a=>e=.returned (.int .i64 (cmpI x y))∧a=w:=by
 have f:Hid (∀ w,Calls Tryz.prog 88 #[.int .u64 (x:Int)] w fun e a=>e=.returned (.bool false)∧a=w):=fun w=>zgD x w
 have g:Hid (∀ w,Calls Tryz.prog 88 #[.int .u64 (y:Int)] w fun e a=>e=.returned (.bool false)∧a=w):=fun w=>zgD y w
 go_enter Tryz.func62,Tryz.ntmps62;go_wp2_with fail;refine Calls.mono (f.out w) ?_;rintro e h ⟨rfl,rfl⟩;go_wp2_with fail;refine Calls.mono (g.out h) ?_;rintro e k ⟨rfl,rfl⟩;by_cases c:x<y
 ·have i:(x:Int)<(y:Int):=by omega
  have b:Hid (cmpI x y=-1):=if_pos c;go_wp2_with fail;go_ret;exact⟨by rw[b.out];rfl,rfl⟩
 ·have i:¬(x:Int)<(y:Int):=by omega
  by_cases d:y<x
  ·have j:(y:Int)<(x:Int):=by omega
   have b:Hid (cmpI x y=1):=by refine(?_:cmpI x y=1);unfold cmpI;rw[if_neg c,if_pos d]
   go_wp2_with fail;go_ret;exact⟨by rw[b.out];rfl,rfl⟩
  ·have j:¬(y:Int)<(x:Int):=by omega
   have b:Hid (cmpI x y=0):=by refine(?_:cmpI x y=0);unfold cmpI;rw[if_neg c,if_neg d]
   go_wp2_with fail;go_ret;exact⟨by rw[b.out];rfl,rfl⟩
def ziu (N:Nat):Prop:=∀ (g z cap:Nat) (d:Array Rw) (w:World),d.size≤N→Ur w g z d→
 Calls Tryz.prog 60 #[.slice (some ⟨g,0,none⟩) d.size cap,.func (.func 61) #[] #[]] w fun e w'=>e=.returned (.tuple #[])∧(∃ d',Ur w' g z d'∧Srt rid 0 d.size d'∧Sort.PermIn 0 d.size d d')∧Bg g w w'
theorem zni (o:Option Addr) (a:Nat) (w:World):Calls Tryz.prog 121 #[.slice o 0 a,.int .i64 0,.int .i64 0,.func (.func 61) #[] #[]] w fun e b=>e=.returned (.tuple #[])∧b=w:=by
 go_enter Tryz.func121,Tryz.ntmps121;go_wp2_with fail;refine wp_loop_rounds 1 ?_;rw[rounds_succ];go_wp2_with fail;refine bodyPost_end (results_none rfl _ _ _) rfl ?_;exact⟨rfl,rfl⟩
theorem znj (o:Option Addr) (a:Nat) (l:Int) (w:World):Calls Tryz.prog 86 #[.slice o 0 a,.int .i64 0,.int .i64 0,.int .i64 l,.func (.func 61) #[] #[]] w fun e b=>e=.returned (.tuple #[])∧b=w:=by
 go_enter Tryz.func86,Tryz.ntmps86;go_wp2_with fail;refine wp_loop_rounds 1 ?_;rw[rounds_succ];go_wp2_with fail;refine(zni o a w).mono ?_;rintro e c ⟨rfl,rfl⟩;go_wp2_with fail;refine bodyPost_ret (results_none rfl _ _ _) rfl ?_;exact⟨rfl,rfl⟩
theorem zlO (o:Option Addr) (a:Nat) (w:World):Calls Tryz.prog 60 #[.slice o 0 a,.func (.func 61) #[] #[]] w fun e b=>e=.returned (.tuple #[])∧b=w:=by
 have c:Hid _:=Tryz.bits_Len 0 w (by omega) (by omega);go_enter Tryz.func60,Tryz.ntmps60;go_wp2_with fail;refine Calls.mono c.out ?_;rintro e d ⟨rfl,rfl⟩;go_wp2_with fail;refine(znj o a 0 d).mono ?_;rintro e f ⟨rfl,rfl⟩;go_wp2_with fail;refine bodyPost_end (results_none rfl _ _ _) rfl ?_;exact⟨rfl,rfl⟩
open Rw (Rf fcv fc zaB Pp PAt PgAt okP encS encE pz gv Pg rpp pB gcs zbF decP decE)
open Rv (FB zab zaS)
def F6b (b x b2 x2:Nat) (y z:Sv) (w:World):Prop:=(w.cell? ⟨b,x,none⟩=some (.string y.t)∧w.cell? ⟨b,x+1,none⟩=some (.int .u32 (y.r.p:Int))∧w.cell? ⟨b,x+2,none⟩=some (.string y.r.t))∧w.cell? ⟨b2,x2,none⟩=some (.string z.t)∧w.cell? ⟨b2,x2+1,none⟩=some (.int .u32 (z.r.p:Int))∧w.cell? ⟨b2,x2+2,none⟩=some (.string z.r.t)
theorem zlP (l m:List Sv) (o:Option Addr) (j:Nat) (N:Option Addr) (f:Nat) (w:World) (x:SvAt w o j l) (y:SvAt w N f m):
  Calls Tryz.prog 16 #[.slice o l.length j,.slice N m.length f] w fun e T=>e=.returned (.bool (eqL eqS l m))∧Below w.heap.size w T:=by
 have z:=Nat.le_trans x.1 x.2.1;by_cases c:l.length=m.length
 ·have d:Hid (eqL eqS l m=((l.zip m).all fun p=>eqS p.1 p.2)):=by
   refine(?_:eqL eqS l m=((l.zip m).all fun p=>eqS p.1 p.2));unfold eqL;simp[c]
  generalize eqL eqS l m=U at*
  have V:Hid _:=c;rw[←c];go_enter Tryz.func16,Tryz.ntmps16;go_wp2_with fail
  go_loopw [5] (fun i wr=>∃ k:Nat,k≤l.length∧i=.int .i64 (k:Int)∧((l.zip m).take k).all (fun p=>eqS p.1 p.2)=true∧Below w.heap.size w wr) (fun i _=>l.length - zam i)
  case atStart=>exact⟨0,by omega,rfl,by simp,Below.refl _ _⟩
  case round=>
   obtain⟨k,Z,rfl,A,t⟩:=hrel;have P:Hid _:=A;by_cases h:k<l.length
   ·have a:k<m.length:=by have:=V.out;omega
    obtain⟨b,n,rfl,W,X⟩:=(x.below t zn).one h;obtain⟨Q,g,rfl,R,B⟩:=(y.below t zn).one a
    have k1:(k:Int)+1≤9223372036854775807:=by simp only[maxLen] at z;omega
    have C:Hid (F6b b (n+k*3) Q (g+k*3) (sat l k) (sat m k) wr.drew):=⟨X,B⟩;have D:Hid _:=zfa eqS (zbS h) (zbS a);have E:Hid _:=zdT eqS (zbS h) (zbS a);generalize sat l k=r at*
    generalize sat m k=Y at*
    obtain⟨F,⟨G,H⟩⟩:=r;obtain⟨I,⟨J,K⟩⟩:=Y;have L:=znQ F I G J H K;have u:Hid _:=t.drew;obtain⟨M,q⟩:∃ M,eqS ⟨F,⟨G,H⟩⟩ ⟨I,⟨J,K⟩⟩=M:=⟨_,rfl⟩;have s:Hid _:=q;rw[q] at L;go_wp2_with fail;refine wp_region_held (S:=F6b b (n+k*3) Q (g+k*3) ⟨F,⟨G,H⟩⟩ ⟨I,⟨J,K⟩⟩) (by kernel_rfl) ?_;change wpAnyH _ _ _ _ _ _ _ _ (World.drew _);refine plan [0,1,2,3,4,5,6,7,8] ?_
    iterate 9
     refine tkH (v:=?_) rfl ?_ C.out ?_;rotate_left
     ·rintro w ⟨⟨e1,e2,e3⟩,e5,e6,e7⟩;go_simp;try with_reducible rfl
     conv in(Act.put _ _ _)=>simp only[zL1,zL2,zL3,Act.put,zL4,zL5,zL6]
    refine plan0 ?_;refine wpAnyH_done (by kernel_rfl) ?_ _;cases M
    ·simp only[Bool.not_false]
     go_wp2_with fail;go_ret;refine⟨?_,u.out⟩;rw[d.out,E.out s.out];rfl
    ·simp only[Bool.not_true]
     go_wp2_with fail
     go_roundw
     case rel=>exact⟨k+1,by omega,by go_num,by rw[D.out,P.out,s.out];rfl,u.out⟩
     case measure=>simp[zam];omega
   ·obtain rfl:k=l.length:=by omega
    have u:Hid _:=t;go_wp2_with fail;go_ret;refine⟨?_,u.out⟩;rw[d.out];have:=P.out;rw[List.take_of_length_le (by rw[List.length_zip];omega)] at this;rw[this];rfl
 ·have q0:((l.length:Int)==(m.length:Int))=false:=by simp;omega
  have d:Hid (eqL eqS l m=false):=by
   refine(?_:eqL eqS l m=false);unfold eqL;simp[c]
  go_enter Tryz.func16,Tryz.ntmps16;go_wp2_with fail;go_ret;rw[d.out];exact⟨by simp,Below.refl _ _⟩
theorem zdZ (l m:List Sv) (o:Option Addr) (j:Nat) (N:Option Addr) (f:Nat) (w:World) (x:SvAt w o j l) (y:SvAt w N f m):
  Calls Tryz.prog 90 #[.slice o l.length j,.slice N m.length f] w fun e T=>e=.returned (.bool (eqL eqS l m))∧Below w.heap.size w T:=by
 have z:=Nat.le_trans x.1 x.2.1;by_cases c:l.length=m.length
 ·have d:Hid (eqL eqS l m=((l.zip m).all fun p=>eqS p.1 p.2)):=by
   refine(?_:eqL eqS l m=((l.zip m).all fun p=>eqS p.1 p.2));unfold eqL;simp[c]
  generalize eqL eqS l m=U at*
  have V:Hid _:=c;rw[←c];go_enter Tryz.func90,Tryz.ntmps90;go_wp2_with fail
  go_loopw [13] (fun i wr=>∃ k:Nat,k≤l.length∧i=.int .i64 (k:Int)∧((l.zip m).take k).all (fun p=>eqS p.1 p.2)=true∧Below w.heap.size w wr) (fun i _=>l.length - zam i)
  case atStart=>exact⟨0,by omega,rfl,by simp,Below.refl _ _⟩
  case round=>
   obtain⟨k,Z,rfl,A,t⟩:=hrel;have P:Hid _:=A;by_cases h:k<l.length
   ·have a:k<m.length:=by have:=V.out;omega
    obtain⟨b,n,rfl,W,X⟩:=(x.below t zn).one h;obtain⟨Q,g,rfl,R,B⟩:=(y.below t zn).one a
    have k1:(k:Int)+1≤9223372036854775807:=by simp only[maxLen] at z;omega
    have C:Hid (F6b b (n+k*3) Q (g+k*3) (sat l k) (sat m k) wr.drew):=⟨X,B⟩;have D:Hid _:=zfa eqS (zbS h) (zbS a);have E:Hid _:=zdT eqS (zbS h) (zbS a);generalize sat l k=r at*
    generalize sat m k=Y at*
    obtain⟨F,⟨G,H⟩⟩:=r;obtain⟨I,⟨J,K⟩⟩:=Y;have L:=znQ F I G J H K;have u:Hid _:=t.drew;obtain⟨M,q⟩:∃ M,eqS ⟨F,⟨G,H⟩⟩ ⟨I,⟨J,K⟩⟩=M:=⟨_,rfl⟩;have s:Hid _:=q;rw[q] at L;go_wp2_with fail;refine wp_region_held (S:=F6b b (n+k*3) Q (g+k*3) ⟨F,⟨G,H⟩⟩ ⟨I,⟨J,K⟩⟩) (by kernel_rfl) ?_;change wpAnyH _ _ _ _ _ _ _ _ (World.drew _);refine plan [0,1,2,3,4,5,6,7,8] ?_
    iterate 9
     refine tkH (v:=?_) rfl ?_ C.out ?_;rotate_left
     ·rintro w ⟨⟨e1,e2,e3⟩,e5,e6,e7⟩;go_simp;try with_reducible rfl
     conv in(Act.put _ _ _)=>simp only[zL1,zL2,zL3,Act.put,zL4,zL5,zL6]
    refine plan0 ?_;refine wpAnyH_done (by kernel_rfl) ?_ _;cases M
    ·simp only[Bool.not_false]
     go_wp2_with fail;go_ret;refine⟨?_,u.out⟩;rw[d.out,E.out s.out];rfl
    ·simp only[Bool.not_true]
     go_wp2_with fail
     go_roundw
     case rel=>exact⟨k+1,by omega,by go_num,by rw[D.out,P.out,s.out];rfl,u.out⟩
     case measure=>simp[zam];omega
   ·obtain rfl:k=l.length:=by omega
    have u:Hid _:=t;go_wp2_with fail;go_ret;refine⟨?_,u.out⟩;rw[d.out];have:=P.out;rw[List.take_of_length_le (by rw[List.length_zip];omega)] at this;rw[this];rfl
 ·have q0:((l.length:Int)==(m.length:Int))=false:=by simp;omega
  have d:Hid (eqL eqS l m=false):=by
   refine(?_:eqL eqS l m=false);unfold eqL;simp[c]
  go_enter Tryz.func90,Tryz.ntmps90;go_wp2_with fail;go_ret;rw[d.out];exact⟨by simp,Below.refl _ _⟩
def noP:Pm Unit:=fun s _=>((zf,61),s)
def noI:Unit→(Nat→Prop)→World→Prop:=fun _ F _=>∀ k,¬F k
theorem znk (t:ByteArray) (w:World):Calls Tryz.prog 89 #[.string t] w fun e a=>e=.returned (.tuple #[fcv zf,.int .i64 61])∧Below w.heap.size w a:=by
 have b:Hid _:=(zaS w);have c:Hid (Below w.heap.size w (w.alloc (.cells #[.int .u32 0,.string ⟨#[]⟩] 49))):=zaa w _;go_enter Tryz.func89,Tryz.ntmps89;go_wp2_with fail;refine bodyPost_ret (zab rfl _ _ _ _ _ _ rfl rfl b.out) rfl ?_;exact⟨rfl,c.out⟩
theorem zpe:Plb noP 89 #[] noI where
 eg:=enters_of Tryz.func89 (by kernel_rfl) rfl
 lt:=fun s F W h k hk=>(h k hk).elim
 keep:=fun s F W W' h _ _=>h
 small:=fun s t=>Nat.zero_lt_succ _
 call:=fun s F W t _ h=>(znk t W).mono fun e W' ⟨h1,h2⟩=>⟨h1,F,h,But.of_below h2,Grw.refl _ _ _⟩
def areG (pages:List Sv) (l:List Rw):Gr Unit:=zad (hadP (wh pages) noP) 32 () l
def areB (pages:List Sv) (l:List Rw):Bool:=zaG l&&(decide ((areG pages l).e=0)&&eqL eqS (outL (areG pages l)) pages)
theorem zpf (a:List Sv) (l:List Rw) (o:Option Addr) (h:Nat) (Q:Option Addr) (d:Nat) (w:World) (hp:SvAt w o h a) (hr:zac w Q d l) (X:∀ r∈l,zbd r) (hs:∀ y∈a,y.r.p<4294967296) (hl:a.length≤100000):
  Calls Tryz.prog 63 #[.slice o a.length h,.slice Q l.length d] w fun e w'=>e=.returned (.bool (areB a l))∧Below w.heap.size w w':=by
 cases u:zaG l with
 |false=>
  have R:Hid _:=zhT l Q d w hr u;have Y:Hid (areB a l=false):=by refine(?_:_=_);unfold areB;rw[u];rfl
  rw[Y.out];go_enter Tryz.func63,Tryz.ntmps63;go_wp2_with fail;refine Calls.mono R.out ?_;rintro e w1 ⟨rfl,b1⟩;have HR:Hid (Below w.heap.size w (w1.alloc (.cells #[.int .u32 0,.int .u32 0,.int .i64 0,.slice none 0 0,.slice none 0 0] 73))):=b1.trans ((zaa w1 _).mono b1.size);go_wp2_with fail;go_ret;exact⟨rfl,HR.out⟩
 |true=>
  have R:Hid _:=zhU l Q d w hr u;obtain⟨g,Z⟩:∃ g,areG a l=g:=⟨_,rfl⟩;have Y:Hid (areB a l=(decide (g.e=0)&&eqL eqS (outL g) a)):=by refine(?_:_=_);unfold areB;rw[u,Z];rfl
  have F:=(zbZ (hadP (wh a) noP) 32 () l).1;rw[show zad (hadP (wh a) noP) 32 () l=g from Z] at F;have a8:=zdE 32 l (zbJ u);have m:=((zaH l).1 u).1;have S:Hid (SvAt w o h a∧a.length≤100000∧On l∧(∀ r∈l,zbd r)∧l.length≤1000∧g.ys.length≤5000∧(∀ t r,wh a t=some r→r.p<4294967296)∧zad (hadP (wh a) noP) 32 () l=g):=⟨hp,hl,zbJ u,X,m,by omega,zit hs,Z⟩;rw[Y.out];obtain⟨T,G⟩:∃ T,(decide (g.e=0)&&eqL eqS (outL g) a)=T:=⟨_,rfl⟩;have H:Hid _:=G;rw[G];go_enter Tryz.func63,Tryz.ntmps63;go_wp2_with fail;refine Calls.mono R.out ?_;rintro e f ⟨n,rfl,hN,U⟩;have I:=zfB hN;obtain⟨c,i⟩:∃ c,f.alloc (ncs n)=c:=⟨_,rfl⟩
  have v:Below f.heap.size f c:=by rw[←i];exact zaa f (ncs n)
  have z:=U.trans (v.mono U.size);have a0:Hid _:=(zgv 89 #[] a o h S.out.2.1 c (S.out.1.below z zn));have a3:Hid (zas (fun b=>w.heap.size≤b∧b<f.heap.size) 32 c n l∧c.heap[f.heap.size]? =some (ncs n)∧c.heap.size=f.heap.size+1∧Below w.heap.size w c∧w.heap.size≤f.heap.size):=⟨I.below v zn,(by rw[←i];exact zq f _),(by rw[←i];simp),z,U.size⟩;have K:Hid _:=i;clear  hN I U   v z i R
  go_wp2_with (first|(rw[K.out];clear K))
  refine Calls.mono a0.out ?_;rintro e W6 ⟨rfl,k1,k2,k3,b6⟩;obtain⟨n1,n2,n3,n4,n5⟩:=a3.out;obtain⟨V,a9,D,e7⟩:=zeS W6 (.func (.func 79) #[] #[.pointer (some ⟨c.heap.size+2,0,none⟩),.pointer (some ⟨c.heap.size,0,none⟩)]) rfl;have q:=b6.trans (D.mono b6.size);have M:=n4.trans (q.mono n4.size);have l7:=D.size;obtain⟨q1,q2,q3,q4,q5,q6,q7,q8⟩:=S.out;have x3:=(zi k3).1
  have N:Ih 89 #[] (wh a) (c.heap.size+1) c.heap.size (c.heap.size+2) noI () (fun k=>False∨k=c.heap.size+1∨k=c.heap.size∨k=c.heap.size+2) V:=
   ⟨fun _=>False,fun k hk=>hk,fun j=>Iff.rfl,id,id,id,k2.same (D.block _ k2.lt),(D.block _ (by omega)).trans k1,(D.block _ (by omega)).trans k3⟩
  have A:=zgs (zeQ zpe (wh a) q7 (c.heap.size+1) c.heap.size (c.heap.size+2)) (fun b=>w.heap.size≤b∧b<f.heap.size) 32 n l _ () V N (n1.below q zn) (fun b hb=>⟨by omega,fun e=>by
   rcases e with x|x|x|x
   ·exact x
   ·omega
   ·omega
   ·omega⟩) q3 q4 q5 (by rw[q8];exact q6)
  rw[q8] at A;have a4:Hid _:=A;have cN:V.cell? ⟨W6.heap.size,0,none⟩=some (.func (.func 79) #[] #[.pointer (some ⟨c.heap.size+2,0,none⟩),.pointer (some ⟨c.heap.size,0,none⟩)]):=by rw[zr e7];rfl
  obtain⟨z0,z1,z2,z3,z4⟩:=zhp ((q.block _ (by omega)).trans n2);have a5:Hid (Below w.heap.size w V∧w.heap.size≤c.heap.size):=⟨M,by omega⟩;clear k1 k2 k3 b6 n1 n2 n3 n4 n5 D e7 q M  l7 q1 q2 q3 q4 q5 q6 q7 q8 x3 N A;go_wp2_with fail;refine Calls.mono a4.out ?_;rintro e W8 ⟨o',O,F',rfl,r1,r2,r3,P,r6⟩
  have B:Below w.heap.size w W8:=by
   obtain⟨E,a2⟩:=a5.out;refine⟨P.os.trans E.os,P.tape.trans E.tape,P.output.trans E.output,Nat.le_trans E.size P.size,fun j hj=>(P.block j (Nat.lt_of_lt_of_le hj E.size) fun e=>?_).trans (E.block j hj)⟩;rcases e with x|x|x|x
   ·exact x
   ·omega
   ·omega
   ·omega
  by_cases C:g.e=0
  ·have HE:Hid _:=zdZ (outL g) a o' O o h W8 r1 (S.out.1.below B zn)
   have s:Hid _:=B;have W:Hid (T=eqL eqS (outL g) a):=by refine(?_:_=_);rw[←H.out,decide_eq_true C];rfl
   obtain⟨L,hL⟩:∃ L,(outL g).length=L:=⟨_,rfl⟩;rw[hL] at HE;simp only[hL];generalize eqL eqS (outL g) a=EB at HE W;go_wp2_with fail;refine Calls.mono HE.out ?_;rintro e W9 ⟨rfl,b9⟩;have a6:Hid _:=s.out.trans (b9.mono s.out.size);go_wp2_with fail;go_ret;exact⟨by rw[W.out];cases EB<;>rfl,a6.out⟩
  ·have a7:(g.e==0)=false:=by simpa using C
   have s:Hid _:=B;have W:Hid (T=false):=by refine(?_:_=_);rw[←H.out,decide_eq_false C];rfl
   go_wp2_with fail;go_ret;exact⟨by rw[W.out];rfl,s.out⟩
open Rv (FB zab zaS Vlt Vs Pl Vok Hon zaw cf take zbT blk)
open Rd (pt St Ok)
theorem zbw {fn:Func} {a b c:Tmp} (h:fn.results=#[.tmp a,.tmp b,.tmp c]) (tmps:Array Value) (w:World):(results fn tmps).run Tryz.prog w=.ok (.tuple #[tmps.getD a undef,tmps.getD b undef,tmps.getD c undef]) w:=by
 simp[results,h,go_sem]
theorem zjo {l:List Rw} {d':Array Rw} (h:Sort.PermIn 0 l.length l.toArray d'):d'.toList.Perm l:=by
 obtain⟨h1,-,h3⟩:=h
 have e1:d'.extract 0 l.length=d':=by
  have:l.length=d'.size:=by rw[h1];simp
  rw[this];simp
 rw[e1] at h3;simpa using h3
theorem zlQ {K:Rw→Nat} {n:Nat} {c:Array Rw} (l:c.size=n) (h:Srt K 0 n c):c.toList.Pairwise fun a b=>K a≤K b:=by
 rw[List.pairwise_iff_getElem];intro i j g k d
 have f:j<c.size:=by simpa using k
 have:=h i j (by omega) d (by omega);rw[getElem!_pos c i (by simpa using g),getElem!_pos c j f] at this;simpa using this
theorem znl {N:Nat} (s:ziu N) (d:Nat) (l:List Rw) (t:l.length≤N) (v:Value) (w:World) (h:w.ownsRow d 79 4 v l.length (l.flatMap rc)):
  Calls Tryz.prog 60 #[v,.func (.func 61) #[] #[]] w fun e k=>e=.returned (.tuple #[])∧∃ m:List Rw,m.Perm l∧(m.Pairwise fun a b=>rid a≤rid b)∧k.ownsRow d 79 4 v m.length (m.flatMap rc)∧But (fun j=>v.ownBlock=some j) w k:=by
 by_cases f:l=[]
 ·subst f
  obtain⟨o,c,rfl,-⟩:=zai h;refine(zlO o c w).mono ?_;rintro e k ⟨rfl,rfl⟩;exact⟨rfl,[],List.Perm.refl _,List.Pairwise.nil,h,But.refl _ _⟩
 ·obtain⟨g,c,rfl,u,x⟩:=zkD h f
  have hs:l.toArray.size=l.length:=by simp
  have p:=s g (c*4) c l.toArray w (by rw[hs];exact t) x;refine p.mono ?_;rintro e k ⟨rfl,⟨n,y,z,q⟩,A⟩;have i:n.size=l.length:=by rw[q.1,hs]
  have r:n.toList.length=l.length:=by simpa using i
  refine⟨rfl,n.toList,zjo q,zlQ i z,?_,A.more fun j _ B=>by rw[B];rfl⟩;have:=zkE h (m:=n.toList) (by simpa using y) r;rwa[r] at this ⊢
def LOk (s:LS):Prop:=(∀ r∈s.rows,zbd r)∧∀ y∈s.pages,y.r.p<4294967296
theorem znR {f:LS→Rf→LS × Int} (a:∀ s r,r.p<4294967296→LOk s→LOk (f s r).1):∀ (rs:List Rf) (s:LS),(∀ r∈rs,r.p<4294967296)→LOk s→LOk (stp f rs s).1
 |[],s,_,h=>h
 |r::rs,s,b,h=>by
  have c:=a s r (b r (List.mem_cons.2 (.inl rfl))) h;unfold stp;split
  ·exact znR a rs _ (fun x d=>b x (List.mem_cons.2 (.inr d))) c
  ·exact c
theorem znS (rd:Rf→ByteArray × Int):∀ (d:Nat) (s:LS) (r:Rf),r.p<4294967296→LOk s→LOk (rdG rd d s r).1
 |0,s,_,_,h=>h
 |d+1,s,r,f,h=>by
  have c:LOk ⟨s.n+1,s.rows,s.pages⟩:=h;unfold rdG;split
  ·exact h
  ·split
   ·split
    ·rename_i b
     have e:=znR (znS rd d) (zaQ (decP (rd r).1)) ⟨s.n+1,s.rows,s.pages⟩ (zeh b).2.2.1 c;obtain⟨-,-,g⟩:=Rw.zk0 b;obtain⟨l,m,o,i,q⟩:=g;split
     ·refine⟨fun x j=>?_,fun y k=>?_⟩
      ·rcases List.mem_append.1 j with a|a
       ·exact e.1 x a
       ·exact i x a
      ·rcases List.mem_append.1 k with a|a
       ·exact e.2 y a
       ·rw[List.mem_singleton.1 a];exact f
     ·exact e
    ·exact c
   ·exact c
theorem ziv (Kt:Nat→Int) (A:Pl) (v:Vs) (t:St) (f:Nat) (hk:Ok t) (hA:∀ k,A.has k∨Und A k→k<f):∀ d,zdF Kt A v t f d
 |0=>fun s vr vp W r hI _ _ hd _=>by have:=hI.cnt.1;omega
 |d+1=>zlL Kt A v t f d hk hA (ziv Kt A v t f hk hA d)
def LdP (pages : List Sv) (rows : List Rw) (re : Int) (base : Nat) (e : Ending) (w' : World) : Prop :=
  (re ≠ 0 ∧ e = .returned (.tuple #[.slice none 0 0, .slice none 0 0, .int .i64 re])) ∨
  (re = 0 ∧ ∃ m : List Rw, m.Perm rows ∧ (m.Pairwise fun a b => rid a ≤ rid b) ∧
    ((areB pages m = false ∧ e = .returned (.tuple #[.slice none 0 0, .slice none 0 0, .int .i64 61])) ∨
     (areB pages m = true ∧ ∃ o cap o2 cap2, e = .returned (.tuple #[.slice o m.length cap, .slice o2 pages.length cap2, .int .i64 0]) ∧ zac w' o cap m ∧ SvAt w' o2 cap2 pages ∧ (∀ b off, o = some ⟨b, off, none⟩ → base ≤ b) ∧ ∀ b off, o2 = some ⟨b, off, none⟩ → base ≤ b)))
def L0:LS:=⟨0,[],[]⟩
theorem znn (Kt:Nat→Int) (A:Pl) (v:Vs) (t:St) (r:Rf) (hr:r.p<4294967296) (w:World) (hv:Vlt w A v t) (au:Vok v) (R:Ok t) (hT:Rs.Tb Kt w) {N:Nat} (hS:ziu N) (k:LS × Int) (hg:rdG (rdV Kt v t) 2101 L0 r=k) (hN:k.2=0→k.1.rows.length≤N):
  Calls Tryz.prog 29 #[pt A.g,fcv r] w fun e D=>LdP k.1.pages k.1.rows k.2 w.heap.size e D∧Vlt D A v t∧Rs.Tb Kt D∧Rd.But A.has w D:=by
 obtain⟨rp,rt⟩:=r
 have hU:∀ k,Und A k→k<w.heap.size:=fun k hu=>by
  obtain⟨⟨a,b,E⟩,c,d,h2⟩:=hT;rcases hu with⟨z,hu⟩|rfl|rfl
  ·obtain⟨b',bd,e',aQ,-⟩:=hv.self.2.1.2.2.2 (zho au.f)
   rw[hu] at e';cases e';exact aQ
  ·exact(zi E).1
  ·exact(zi h2).1
 have L:Hid (∀ k,A.has k∨Und A k→k<w.heap.size):=fun k B=>B.elim (fun h=>hv.has_lt h) (hU k)
 have aR:Hid (∀ k,Und A k→¬A.has k):=fun k hu=>zlw hv au hu
 obtain⟨W1,a0⟩:∃ W1,w.alloc (.cells #[.int .u32 (rp:Int),.string rt] 49)=W1:=⟨_,rfl⟩;have b1:Below w.heap.size w W1:=by rw[←a0];exact zaa _ _
 have y1:FB w.heap.size (rp:Int) rt W1:=by rw[←a0];exact zq w _
 have aS:W1.heap.size=w.heap.size+1:=by rw[←a0];simp
 have aT:Hid (∀ _:True,_):=fun _=>zef A v t W1 (hv.below b1 zn) R
 have T:Hid (FB w.heap.size (rp:Int) rt W1∧W1.heap.size=w.heap.size+1∧Below w.heap.size w W1):=⟨y1,aS,b1⟩;have av:=znS (rdV Kt v t) 2101 L0 ⟨rp,rt⟩ hr ⟨fun _ h=>(by cases h),fun _ h=>(by cases h)⟩;have aU:=(zhy (rdV Kt v t) 2101 L0 ⟨rp,rt⟩);rw[hg] at av aU;have G:Hid (Rs.Tb Kt w∧Ok t∧rp<4294967296∧rdG (rdV Kt v t) 2101 L0 ⟨rp,rt⟩=k∧ziu N∧(k.2=0→k.1.rows.length≤N)∧LOk k.1):=⟨hT,R,hr,hg,hS,hN,av⟩;obtain⟨M,af⟩:∃ M:Ending→World→Prop,(fun e D=>LdP k.1.pages k.1.rows k.2 w.heap.size e D∧Vlt D A v t∧Rs.Tb Kt D∧Rd.But A.has w D)=M:=⟨_,rfl⟩;rw[af];have HP:Hid (∀ e D,LdP k.1.pages k.1.rows k.2 w.heap.size e D∧Vlt D A v t∧Rs.Tb Kt D∧Rd.But A.has w D→M e D):=fun e D h=>by rw[←af];exact h
 have aw:Hid _:=a0;go_enter Tryz.func29,Tryz.ntmps29
 go_wp2_with (first|(rw[aw.out];clear aw))
 refine Calls.mono (aT.out trivial) ?_;rintro e u ⟨rfl,ax,al⟩;have bf:=al.size;have y2:FB w.heap.size (rp:Int) rt u:=(al.block _ (by have:=T.out.2.1;omega) (fun e=>by have:=L.out _ (.inl e);omega)).trans T.out.1;have ay:=(Rd.But.of_below T.out.2.2).trans al;obtain⟨U,aa⟩:∃ U,u.alloc (.cells #[pt A.g,.int .i64 0,.slice none 0 0,.slice none 0 0] 121)=U:=⟨_,rfl⟩;have b3:Below u.heap.size u U:=by rw[←aa];exact zaa _ _
 have g3:U.heap[u.heap.size]? =some (.cells #[pt A.g,.int .i64 0,.slice none 0 0,.slice none 0 0] 121 (0,0)):=by rw[←aa];exact zq u _
 have aV:RdI A u.heap.size L0 (.slice none 0 0) (.slice none 0 0) U:=⟨g3,World.ownsRow_nil _ _ _ _,World.ownsRow_nil _ _ _ _,fun g hg=>by simp[Value.ownBlock] at hg,by decide⟩;have ag:=ay.trans (Rd.But.of_below b3);have az:=zbH G.out.1 fun k H B=>ag.block k H (aR.out k (.inr B))
 have aA:=ziv Kt A v t u.heap.size G.out.2.1 (fun k B=>by have:=L.out k B;have:=T.out.2.1;omega) 2101 L0 _ _ U ⟨rp,rt⟩ aV (ax.below b3 zn) az (by decide) G.out.2.2.1;rw[G.out.2.2.2.1] at aA;have aW:Hid _:=aA;have y3:=y2.grow b3;obtain⟨-,-,f0,f1⟩:=y3.facts;have ab:Hid (Vlt U A v t∧Rs.Tb Kt U∧Rd.But A.has w U∧w.heap.size<u.heap.size∧U.heap.size=u.heap.size+1):=⟨ax.below b3 zn,az,ag,by have:=T.out.2.1;omega,by rw[←aa];simp⟩;have aB:Hid _:=aa
 go_wp2_with (first|(rw[aB.out];clear aB))
 refine Calls.mono aW.out ?_;rintro e w4 ⟨rfl,vr,vp,l,bg,O⟩;obtain⟨⟨kn,y,i⟩,ke⟩:=k;simp only at l HP
 have am:∀ k,k<u.heap.size→w4.heap[k]? =U.heap[k]? :=fun k R=>O.block k (by have:=ab.out.2.2.2.2;omega) fun e=>by
  rcases e with x|x|x
  ·omega
  ·simp[Value.ownBlock] at x
  ·simp[Value.ownBlock] at x
 have aC:Vlt w4 A v t∧Rs.Tb Kt w4∧Rd.But A.has w w4:=by
  obtain⟨a1,a2,C,a4,a5⟩:=ab.out;exact⟨zbO a1 O.size fun k _ B=>am k (by have:=L.out k B;omega),zbH a2 fun k _ B=>am k (by have:=L.out k (.inr (.inr B));omega),⟨O.os.trans C.os,O.tape.trans C.tape,O.output.trans C.output,Nat.le_trans C.size O.size,fun k R hn=>(am k (by omega)).trans (C.block k R hn)⟩⟩
 by_cases an:ke=0
 ·subst an
  have aX:=znl G.out.2.2.2.2.1 (u.heap.size+1) y (G.out.2.2.2.2.2.1 rfl) vr w4 l.rows;obtain⟨c0,c1,c2,c3⟩:=zdo l.self;have lf:=(zi l.self).1;obtain⟨I,o,aD,-⟩:=zai l.rows;obtain⟨P,q,aE,bh⟩:=zai l.pages;obtain⟨n,hn⟩:∃ n,y.length=n:=⟨_,rfl⟩;obtain⟨Z,aF⟩:∃ Z,i.length=Z:=⟨_,rfl⟩;simp only[hn] at aD;simp only[aF] at aE;subst aD aE;have V:Hid (y.length=n∧i.length=Z):=⟨hn,aF⟩;have aY:Hid _:=aX;have aZ:Hid _:=l;have b0:Hid _:=aC
  go_wp2_with fail;refine Calls.mono aY.out ?_;rintro e s ⟨rfl,m,ao,b2,ap,J⟩;have l:=aZ.out;have b5:∀ j,(Value.slice I n o).ownBlock=some j→u.heap.size+1≤j:=fun j hj=>(zat l.rows hj).1
  have ac:∀ j,j<w4.heap.size→j≤u.heap.size→s.heap[j]? =w4.heap[j]? :=fun j E h2=>J.block j E fun e=>by have:=b5 j e;omega
  have X:=(ac _ lf zn).trans l.self;have ah:=zaF l.pages fun g hg H=>J.block g H fun e=>l.ne g e hg
  have aq:Vlt s A v t∧Rs.Tb Kt s∧Rd.But A.has w s:=by
   obtain⟨a1,a2,C⟩:=b0.out;exact⟨zbO a1 J.size fun k H B=>ac k H (by have:=L.out k B;omega),zbH a2 fun k H B=>ac k H (by have:=L.out k (.inr (.inr B));omega),⟨J.os.trans C.os,J.tape.trans C.tape,J.output.trans C.output,Nat.le_trans C.size J.size,fun k R hn=>(ac k (Nat.lt_of_lt_of_le R C.size) (by omega)).trans (C.block k R hn)⟩⟩
  have ad:m.length=n:=by rw[ao.length_eq];exact V.out.1
  obtain⟨o6,c6,e6,aG⟩:=zai ap;rw[ad] at e6 aG;cases e6;obtain⟨o7,c7,e7,aH⟩:=zai ah;rw[V.out.2] at e7 aH;cases e7;have aI:zac s I o m:=by unfold zac;rw[ad];exact aG
  have aJ:SvAt s P q i:=by unfold SvAt;rw[V.out.2];exact aH
  have ai:=G.out.2.2.2.2.2.2;have ar:=zpf i m P q I o s.drew aJ aI (fun r hr=>ai.1 r (ao.mem_iff.1 hr)) ai.2 (by have:=l.cnt;simp only at this;omega);rw[ad,V.out.2] at ar;obtain⟨d0,d1,d2,d3⟩:=zdo X;obtain⟨AB,aK⟩:∃ AB,areB i m=AB:=⟨_,rfl⟩;rw[aK] at ar;have aL:Hid _:=aK;have b7:Hid (Calls Tryz.prog 63 #[.slice P Z q,.slice I n o] s.drew fun e D=>e=.returned (.bool AB)∧Below s.drew.heap.size s.drew D):=ar;have ae:Hid (s.drew.cell? ⟨u.heap.size,3,none⟩=some (.slice P Z q)∧s.drew.cell? ⟨u.heap.size,2,none⟩=some (.slice I n o)):=⟨d3,d2⟩
  have bi:∀ b z,I=some ⟨b,z,none⟩→0<n→u.heap.size<b:=fun b z e h0=>by
   rcases ap.2 with⟨E,h2⟩|⟨g,aj,aM,E,h2,-⟩
   ·cases E;omega
   ·cases E;cases e;omega
  have b8:Hid (Vlt s A v t∧Rs.Tb Kt s∧Rd.But A.has w s∧zac s I o m∧SvAt s P q i∧m.Perm y∧(m.Pairwise fun a b=>rid a≤rid b)∧m.length=n∧s.heap[u.heap.size]? =some (.cells #[pt A.g,.int .i64 (kn:Int),.slice I n o,.slice P Z q] 121 (0,0))∧(s.ownsRow (u.heap.size+1) 79 4 (.slice I n o) m.length (m.flatMap rc))∧s.ownsRow (u.heap.size+1) 51 3 (.slice P Z q) i.length (i.flatMap sc)):=⟨aq.1,aq.2.1,aq.2.2,aI,aJ,ao,b2,ad,X,ap,ah⟩;go_wp2_with fail;refine wp_region_held (S:=fun W=>W.cell? ⟨u.heap.size,3,none⟩=some (.slice P Z q)∧W.cell? ⟨u.heap.size,2,none⟩=some (.slice I n o)) (by kernel_rfl) ?_;change wpAnyH _ _ _ _ _ _ _ _ (World.drew _);refine plan [0,1,2,3,4,5,6,7] ?_
  iterate 8
   refine tkH (v:=?_) rfl ?_ ae.out ?_;rotate_left
   ·rintro w ⟨e1,e2⟩;go_simp;try with_reducible rfl
   conv in(Act.put _ _ _)=>simp only[zL1,zL2,zL3,Act.put,zL4,zL5,zL6]
  refine plan0 ?_;refine zar 8 _ (by kernel_rfl) rfl (by kernel_rfl) (fun K hK=>?_);go_simp;refine b7.out.mono ?_;rintro e F ⟨rfl,b6⟩;have aN:∀ j,j<s.heap.size→F.heap[j]? =s.heap[j]? :=fun j hj=>b6.block j hj
  have bj:s.heap.size≤F.heap.size:=b6.size;obtain⟨a1,a2,C,a4,a5,a6,a7,a8,a9,b9,ba⟩:=b8.out;have bb:=(zi a9).1;obtain⟨d0,d1,d2,d3⟩:=zdo ((aN _ bb).trans a9)
  replace ae:Hid (F.cell? ⟨u.heap.size,3,none⟩=some (.slice P Z q)∧F.cell? ⟨u.heap.size,2,none⟩=some (.slice I n o)):=⟨d3,d2⟩
  refine hK _ _ ae.out ?_;refine plan [9] ?_;refine tkH (v:=?_) rfl ?_ ae.out ?_;rotate_left
  ·rintro w ⟨e1,e2⟩;go_simp;try with_reducible rfl
  conv in(Act.put _ _ _)=>simp only[zL1,zL2,zL3,Act.put,zL4,zL5,zL6]
  refine plan0 ?_;refine wpAnyH_done (by kernel_rfl) ?_ _
  rename_i bc
  refine bc _ _ ?_
  have aO:∀ Q:World,(∀ j,j<F.heap.size→Q.heap[j]? =F.heap[j]?)→F.heap.size≤Q.heap.size→Q.os=F.os→Q.tape=F.tape→Q.output=F.output→Vlt Q A v t∧Rs.Tb Kt Q∧Rd.But A.has w Q∧zac Q I o m∧SvAt Q P q i:=fun Q E h2 h3 h4 h5=>by
   have B:∀ j,j<s.heap.size→Q.heap[j]? =s.heap[j]? :=fun j hj=>(E j (by omega)).trans (aN j hj)
   exact⟨zbO a1 (by omega) fun k H _=>B k H,zbH a2 fun k H _=>B k H,⟨h3.trans (b6.os.trans C.os),h4.trans (b6.tape.trans C.tape),h5.trans (b6.output.trans C.output),by have:=C.size;omega,fun k R hn=>(B k (Nat.lt_of_lt_of_le R C.size)).trans (C.block k R hn)⟩,zeR a4 (by omega) fun b _ _ _ H=>B b H,a5.keep (by omega) fun b _ _ _ H=>B b H⟩
  have ak:Hid _:=aO
  have aP:Hid ((∀ b z,I=some ⟨b,z,none⟩→w.heap.size≤b)∧∀ b z,P=some ⟨b,z,none⟩→w.heap.size≤b):=by
   have:=ab.out.2.2.2.1;refine⟨fun b z e=>?_,fun b z e=>?_⟩
   ·rcases b9.2 with⟨E,h2⟩|⟨g,aj,aM,E,h2,-⟩
    ·cases E;cases e
    ·cases E;cases e;omega
   ·rcases ba.2 with⟨E,h2⟩|⟨g,aj,aM,E,h2,-⟩
    ·cases E;cases e
    ·cases E;cases e;omega
  have Y:Hid (m.Perm y∧(m.Pairwise fun a b=>rid a≤rid b)∧m.length=n):=⟨a6,a7,a8⟩;cases AB with
  |false=>
   have HR:Hid (∀ e:Ending,e=.returned (.tuple #[.slice none 0 0,.slice none 0 0,.int .i64 61])→M e F):=fun e he=>by
    obtain⟨x1,x2,x3,x4,x5⟩:=ak.out F (fun _ _=>rfl) zn rfl rfl rfl;exact HP.out e F ⟨.inr ⟨rfl,m,Y.out.1,Y.out.2.1,.inl ⟨aL.out,he⟩⟩,x1,x2,x3⟩
   go_wp2_with fail;refine bodyPost_ret (zbw rfl _ _) rfl ?_;exact HR.out _ rfl
  |true=>
   have HR:Hid (∀ e:Ending,e=.returned (.tuple #[.slice I n o,.slice P Z q,.int .i64 0])→M e F.drew):=fun e he=>by
    obtain⟨x1,x2,x3,x4,x5⟩:=ak.out F.drew (fun _ _=>rfl) zn rfl rfl rfl;exact HP.out e F.drew ⟨.inr ⟨rfl,m,Y.out.1,Y.out.2.1,.inr ⟨aL.out,I,o,P,q,by rw[he,Y.out.2.2,V.out.2],x4,x5,aP.out.1,aP.out.2⟩⟩,x1,x2,x3⟩
   go_wp2_with fail
   go_region
   go_wp2_with fail;refine bodyPost_ret (zbw rfl _ _) rfl ?_;exact HR.out _ rfl
 ·have be:(ke==0)=false:=by simpa using an
  have HR:Hid (∀ e:Ending,e=.returned (.tuple #[.slice none 0 0,.slice none 0 0,.int .i64 ke])→M e w4):=fun e he=>HP.out e w4 ⟨.inl ⟨an,he⟩,aC⟩
  go_wp2_with fail;refine bodyPost_ret (zbw rfl _ _) rfl ?_;exact HR.out _ rfl
def Kept (Kt:Nat→Int) (s:Sx) (y:Sv):Prop:=(2≤y.r.p∧y.r.p<s.t.n∧(s.v.tk y.r.p).isSome=true)∧
 ∃ h:Rs.Hd,Rs.fits h∧h.1=(y.r.p:Int)∧Rs.sE s.v.ring h y.t=0∧y.r.t=Rs.tagS (Rs.sV Kt s.v.ring h y.t)∧Rd.zaR s.t y.r.p=Rs.sV Kt s.v.ring h y.t
theorem zlR {Kt:Nat→Int} {s:Sx} (hp:Hon s.t) {y:Sv} (h:Kept Kt s y):rdV Kt s.v s.t y.r=(y.t,0):=by
 obtain⟨⟨h1,h2,-⟩,hd,h3,h4,h5,h6,h7⟩:=h;obtain⟨a1,a2,-⟩:=Rv.zhs Kt hp h1 h2 h3 h4 h5 h7;rw[←h6] at a1 a2;unfold rdV;rw[a1,a2]
theorem zei {Kt:Nat→Int} {s:Sx} {y:Sv} (h:Kept Kt s y):Rw.rref y.r.p y.r.t=true:=by
 obtain⟨⟨h1,-,-⟩,hd,h3,-,h5,h6,-⟩:=h;unfold Rw.rref;rw[decide_eq_true h1,h6,decide_eq_true (Rv.zir (Rs.zbG Kt s.v.ring hd h3 y.t h5).1)];rfl
theorem zno (Kt:Nat→Int) {s:Sx} (h:Pok s) {x:ByteArray} (j:x.size≤198) {p:Nat} (o:zaw s.v.tk s.t.n=some p):
  Kept Kt ⟨take (zbT s.v) p,Rd.zau s.t p (blk Kt s.v p x),s.tk++[p]⟩ ⟨x,⟨p,Rs.tagS (blk Kt s.v p x)⟩⟩∧∀ y,Kept Kt s y→Kept Kt ⟨take (zbT s.v) p,Rd.zau s.t p (blk Kt s.v p x),s.tk++[p]⟩ y:=by
 obtain⟨-,H,⟨w,f,z⟩,k⟩:=zhv Kt h j o;have I:=h.hon.ok.n1;have l:=h.vok.fits (p:=p) (by omega);have b:=h.vok.se p j;obtain⟨-,-,-,c⟩:=Rv.zc1 h.hon f ((Rs.zbG Kt s.v.ring (Rv.hd s.v p) l x b).1);refine⟨⟨⟨w,by rw[k];exact f,?_⟩,Rv.hd s.v p,l,rfl,b,rfl,by rw[c p f,if_pos rfl];rfl⟩,fun y ⟨⟨A,m,i⟩,B,C,D,E,F,G⟩=>?_⟩
 ·show(Rv.tput s.v.tk p (some ()) p).isSome=true
  simp[Rv.tput]
 ·have d:y.r.p≠p:=fun e=>by rw[e,z] at i;exact absurd i (by decide)
  refine⟨⟨A,by rw[k];exact m,?_⟩,B,C,D,E,F,by rw[c _ m,if_neg d];exact G⟩;show(Rv.tput s.v.tk p (some ()) y.r.p).isSome=true;unfold Rv.tput;rw[if_neg d];exact i
structure Gst (Kt:Nat→Int) (f:ByteArray→Option Rf) (s:Sx):Prop where
 pok:Pok s
 had:∀ t r,f t=some r→Kept Kt s ⟨t,r⟩
structure Good (Kt:Nat→Int) (f:ByteArray→Option Rf) (s:Sx) (g:Gr Sx) (c:Nat):Prop where
 gs:Gst Kt f g.s
 left:cf s.v.tk s.t.n≤cf g.s.v.tk g.s.t.n+g.ys.length
 sq:∃ m,Sq s m g.s∧((∀ t,f t=none)→g.e=0→m=g.ys.map fun y=>y.r.p)
 kp:∀ y,Kept Kt s y→Kept Kt g.s y
 ky:∀ y∈g.ys,Kept Kt g.s y
 e:g.e=0∨g.e=110
 room:c≤cf s.v.tk s.t.n→g.e=0
 len:g.ys.length≤c
theorem zjq {tk:Nat→Option Unit} {n:Nat} (h:zaw tk n=none):cf tk n=0:=by
 refine Rv.zlv fun q hq=>?_
 unfold Rv.zaw at h;rw[List.find?_eq_none] at h;have:=h q (List.mem_range.2 hq);cases hh:tk q with
 |none=>rw[hh] at this;exact absurd rfl this
 |some u=>rfl
theorem zgE {Kt:Nat→Int} {f:ByteArray→Option Rf} {s:Sx} (h:Gst Kt f s) {P:Pp} (q:rpp P=true):Good Kt f s (zaC (hadP f (svP Kt)) s P) 1∧((zaC (hadP f (svP Kt)) s P).e=0→Rw.rref (zaC (hadP f (svP Kt)) s P).r.p (zaC (hadP f (svP Kt)) s P).r.t=true∧Kept Kt (zaC (hadP f (svP Kt)) s P).s ⟨encS P,(zaC (hadP f (svP Kt)) s P).r⟩):=by
 have g:=zcX P;unfold zaC;rw[if_pos (by unfold Rw.encE;rw[if_pos q])];cases b:f (encS P) with
 |some r=>
  have e1:hadP f (svP Kt) s (encS P)=((r,0),s):=by unfold hadP;rw[b]
  rw[e1,if_pos rfl];have i:=h.had _ _ b;exact⟨⟨h,by simp,⟨[],Sq.refl h.pok,fun w=>by rw[w] at b;cases b⟩,fun y a=>a,fun y a=>by rw[List.mem_singleton.1 a];exact i,.inl rfl,fun _=>rfl,Nat.le_refl _⟩,fun _=>⟨zei i,i⟩⟩
 |none=>
  have e0:hadP f (svP Kt) s (encS P)=svP Kt s (encS P):=by unfold hadP;rw[b]
  rw[e0];cases c:zaw s.v.tk s.t.n with
  |none=>
   rw[zlA Kt c,if_neg (show ¬(110:Int)=0 from by decide)];refine⟨⟨h,by simp,⟨[],Sq.refl h.pok,fun _ e=>absurd (show(110:Int)=0 from e) (by decide)⟩,fun y a=>a,fun y a=>(by cases a),.inr rfl,fun l=>?_,Nat.zero_le _⟩,fun e=>absurd (show(110:Int)=0 from e) (by decide)⟩;rw[zjq c] at l;exact absurd l (by decide)
  |some p=>
   obtain⟨e1,x,m,z⟩:=zhv Kt h.pok g c;obtain⟨j,o⟩:=zno Kt h.pok g c;have d:=zlB Kt h.pok g c;rw[e1] at d ⊢;rw[if_pos rfl];have k:=zfA m.2.2 s.t.n;rw[if_pos m.2.1] at k;refine⟨⟨⟨x,fun t r A=>o _ (h.had t r A)⟩,?_,⟨[p],d,fun _ _=>rfl⟩,o,fun y a=>by rw[List.mem_singleton.1 a];exact j,.inl rfl,fun _=>rfl,Nat.le_refl _⟩,fun _=>⟨zei j,j⟩⟩;show cf s.v.tk s.t.n≤cf (Rv.tput s.v.tk p (some ())) (Rd.zau s.t p (blk Kt s.v p (encS P))).n+1;rw[z];omega
theorem Good.none {Kt:Nat→Int} {f:ByteArray→Option Rf} {s:Sx} (h:Gst Kt f s) (r:Rf):Good Kt f s ⟨s,[],0,r⟩ 0:=
 ⟨h,by simp,⟨[],Sq.refl h.pok,fun _ _=>rfl⟩,fun y hy=>hy,fun y hy=>(by cases hy),.inl rfl,fun _=>rfl,Nat.le_refl _⟩
theorem Good.seq {Kt:Nat→Int} {f:ByteArray→Option Rf} {s:Sx} {g h:Gr Sx} {c n:Nat} (d:Good Kt f s g c) (p:g.e=0) (b:Good Kt f g.s h n):Good Kt f s ⟨h.s,g.ys++h.ys,h.e,h.r⟩ (c+n):=by
 obtain⟨m,q,i⟩:=d.sq;obtain⟨k,t,j⟩:=b.sq;refine⟨b.gs,by have:=d.left;have:=b.left;simp only[List.length_append];omega,⟨m++k,q.trans t,fun o u=>by rw[i o p,j o u,List.map_append]⟩,fun y l=>b.kp y (d.kp y l),fun y l=>?_,b.e,fun v=>b.room (by have:=d.left;have:=d.len;omega),by have:=d.len;have:=b.len;simp only[List.length_append];omega⟩;rcases List.mem_append.1 l with a|a
 ·exact b.kp y (d.ky y a)
 ·exact b.ky y a
theorem Good.more {Kt:Nat→Int} {f:ByteArray→Option Rf} {s:Sx} {g:Gr Sx} {c c':Nat} (h:Good Kt f s g c) (hc:c≤c'):Good Kt f s g c':=
 ⟨h.gs,h.left,h.sq,h.kp,h.ky,h.e,fun x=>h.room (Nat.le_trans hc x),Nat.le_trans h.len hc⟩
structure RL (l:List Rw):Prop where
 on:On l
 rise:Rise l
 sz:∀ r∈l,r.v.size≤16
 ok:∀ r∈l,zbd r
theorem RL.part {l:List Rw} (h:RL l) (q:Nat):RL (Rq.part l q):=⟨h.on.part q,h.rise.sublist List.filter_sublist,fun r hr=>h.sz r (zbk.1 hr).1,fun r hr=>h.ok r (zbk.1 hr).1⟩
theorem RL.kid {l m:List Rw} (h:RL l) (hm:m∈zao l):RL m:=by
 obtain⟨-,q,-,rfl⟩:=za7 hm;exact h.part q
theorem RL.of_right {l:List Rw} (h:zaG l=true) (ho:∀ r∈l,zbd r):RL l:=by
 refine⟨zbJ h,zew h,fun r hr=>?_,ho⟩;obtain⟨i,hi,rfl⟩:=List.getElem_of_mem hr;have:=((zaU l i).1 (((zaH l).1 h).2 i hi)).1;unfold zbj at this;rw[zb2 hi,decide_eq_true_iff] at this;exact this.2.2
theorem RL.right {l:List Rw} (h:RL l) (c:l.length≤1000):zaG l=true:=by
 refine(zaH l).2 ⟨c,fun i a=>(zaU l i).2 ⟨?_,fun d=>?_⟩⟩
 ·have b:=List.getElem_mem a
  unfold zbj;rw[zb2 a,decide_eq_true_iff];exact⟨(h.on _ b).1,(h.on _ b).2,h.sz _ b⟩
 ·rw[zb2 a,zb2 (show i - 1<l.length by omega)]
  exact List.pairwise_iff_getElem.1 h.rise (i - 1) i (by omega) a (by omega)
theorem znp {l:List Rw} (h:RL l) (i:Nat):RL (piece l i)∧(piece l i).length≤4:=by
 have hs:(piece l i).Sublist l:=(List.take_sublist _ _).trans (List.drop_sublist _ _);exact⟨⟨fun r a=>h.on r (hs.subset a),h.rise.sublist hs,fun r a=>h.sz r (hs.subset a),fun r a=>h.ok r (hs.subset a)⟩,by unfold piece;rw[List.length_take];omega⟩
theorem zlS {l:List Rw} (h:RL l) (i:Nat) {next:Rf} (a:next=zf∨Rw.rref next.p next.t=true):rpp (za2 (piece l i) next)=true:=by
 obtain⟨b,c⟩:=znp h i
 have e:(Rw.zbD next.p next.t||Rw.rref next.p next.t)=true:=by
  rcases a with rfl|a
  ·rfl
  ·rw[a];simp
 have d:rpp (za2 (piece l i) next)=Rw.zd8 ⟨1,0,0,0,none,(piece l i).length,0,none,0,0,next.p,next.t⟩ (piece l i):=by
  unfold rpp Rw.zdi za2;exact if_pos rfl
 rw[d];unfold Rw.zd8;simp only;rw[e,decide_eq_true c,b.right (by omega)];rfl
theorem zjr {l:List Rw} (h:RL l) (b:leaf l=false) {a:List Rf} (g:a.length=(zao l).length) (c:∀ r∈a,Rw.rref r.p r.t=true):rpp (zaX l a)=true:=by
 obtain⟨-,n,d⟩:=zda b;have i:=zdy h.on d;have j:=zdx l
 have f:rpp (zaX l a)=Rw.zcp ⟨2,cx l,cy l,(lev l:Int),none,0,0,none,a.length,0,0,⟨#[]⟩⟩ a:=by
  unfold rpp Rw.zdi zaX;exact(if_neg (show ¬(2:Int)=1 from by decide)).trans (if_pos rfl)
 rw[f];unfold Rw.zcp;simp only;rw[decide_eq_true (show 2≤a.length∧a.length≤4 by omega),(List.all_eq_true.2 c),((zeu _ _ _).2 (zdN h.on)),decide_eq_true (show(0:Int)<(lev l:Int) by omega)];rfl
theorem zej {Kt:Nat→Int} {f:ByteArray→Option Rf} {l:List Rw} (d:RL l):∀ (i:Nat) (s:Sx) (next:Rf),Gst Kt f s→(next=zf∨Rw.rref next.p next.t=true)→Good Kt f s (zal (hadP f (svP Kt)) l i s next) i∧((zal (hadP f (svP Kt)) l i s next).e=0→0<i→Rw.rref (zal (hadP f (svP Kt)) l i s next).r.p (zal (hadP f (svP Kt)) l i s next).r.t=true)
 |0,s,next,h,_=>⟨Good.none h next,fun _ a=>absurd a (by decide)⟩
 |i+1,s,next,h,k=>by
  obtain⟨b,j⟩:=zgE h (zlS d i k);unfold zal Gr.then;generalize zaC (hadP f (svP Kt)) s (za2 (piece l i) next)=g at*
  split
  ·rename_i a
   obtain⟨m,n⟩:=zej d i g.s g.r b.gs (.inr (j a).1);refine⟨by rw[Nat.add_comm];exact b.seq a m,fun c _=>?_⟩;by_cases o:0<i
   ·exact n c o
   ·obtain rfl:i=0:=by omega
    exact(j a).1
  ·rename_i a
   exact⟨b.more (by omega),fun c _=>absurd c a⟩
theorem zgF {Kt:Nat→Int} {f:ByteArray→Option Rf} (F:Sx→List Rw→Gr Sx) (c:List Rw→Nat):∀ (b:List (List Rw)) (s:Sx) (rs:List Rf),Gst Kt f s→
  (∀ m∈b,∀ s,Gst Kt f s→Good Kt f s (F s m) (c m)∧((F s m).e=0→Rw.rref (F s m).r.p (F s m).r.t=true))→(∀ r∈rs,Rw.rref r.p r.t=true)→
  Good Kt f s (zan F b s rs).1 (b.map c).sum∧((zan F b s rs).1.e=0→(zan F b s rs).2.length=rs.length+b.length∧∀ r∈(zan F b s rs).2,Rw.rref r.p r.t=true)
 |[],s,rs,h,_,i=>⟨Good.none h zf,fun _=>⟨rfl,i⟩⟩
 |m::b,s,rs,h,n,i=>by
  obtain⟨j,o⟩:=n m (List.mem_cons.2 (.inl rfl)) s h;rw[zbz];simp only[List.map_cons,List.sum_cons];generalize F s m=g at*
  split
  ·rename_i d
   obtain⟨q,u⟩:=zgF F c b g.s (rs++[g.r]) j.gs (fun x v=>n x (List.mem_cons.2 (.inr v))) (fun r k=>by
    rcases List.mem_append.1 k with a|a
    ·exact i r a
    ·rw[List.mem_singleton.1 a];exact o d)
   refine⟨j.seq d q,fun l=>?_⟩;obtain⟨w,y⟩:=u l;exact⟨by rw[w];simp;omega,y⟩
  ·rename_i d
   exact⟨j.more (by omega),fun l=>absurd l d⟩
theorem zc3 {Kt:Nat→Int} {f:ByteArray→Option Rf}:∀ (d:Nat) (s:Sx) (l:List Rw),RL l→lev l<d→Gst Kt f s→Good Kt f s (zad (hadP f (svP Kt)) d s l) (pcnt d l)∧((zad (hadP f (svP Kt)) d s l).e=0→Rw.rref (zad (hadP f (svP Kt)) d s l).r.p (zad (hadP f (svP Kt)) d s l).r.t=true)
 |0,s,l,_,q,_=>absurd q (Nat.not_lt_zero _)
 |d+1,s,l,i,q,h=>by
  unfold zad pcnt;by_cases b:leaf l=true
  ·rw[if_pos b,if_pos b]
   obtain⟨a,k⟩:=zej i (npc l) s zf h (.inl rfl);exact⟨a,fun g=>k g (by unfold npc;omega)⟩
  ·rw[if_neg b,if_neg b]
   have c:leaf l=false:=by cases v:leaf l;rfl;exact absurd v b
   obtain⟨-,n,w⟩:=zda c;obtain⟨a,k⟩:=zgF (zad (hadP f (svP Kt)) d) (pcnt d) (zao l) s [] h (fun m u x o=>zc3 d x m (i.kid u) (by have:=zjF i.on w u;omega) o) (fun r y=>by cases y);generalize zan (zad (hadP f (svP Kt)) d) (zao l) s []=K at*
   split
   ·rename_i j
    obtain⟨z,A⟩:=k j;obtain⟨B,C⟩:=zgE a.gs (zjr i c (by simpa using z) A);exact⟨a.seq j B,fun g=>(C g).1⟩
   ·rename_i j
    exact⟨⟨a.gs,a.left,a.sq,a.kp,a.ky,a.e,fun D=>a.room (by omega),by have:=a.len;show K.1.ys.length≤_;omega⟩,fun g=>absurd g j⟩
def Reads (rd:Rf→ByteArray × Int) (r:Rf) (ys:List Sv) (R:List Rw):Prop:=
 ∀ d s,s.n+ys.length≤2100→ys.length≤d→rdG rd d s r=(⟨s.n+ys.length,s.rows++R,s.pages++ys⟩,0)
def StpR (rd:Rf→ByteArray × Int) (rs:List Rf) (ys:List Sv) (R:List Rw):Prop:=
 ∀ d s,s.n+ys.length≤2100→ys.length≤d→stp (rdG rd d) rs s=(⟨s.n+ys.length,s.rows++R,s.pages++ys⟩,0)
theorem StpR.nil (rd:Rf→ByteArray × Int):StpR rd [] [] []:=fun d s _ _=>by
 show(s,0)=_;simp
theorem StpR.snoc {rd:Rf→ByteArray × Int} {rs:List Rf} {r:Rf} {ys zs:List Sv} {R S:List Rw} (h:StpR rd rs ys R) (g:Reads rd r zs S):StpR rd (rs++[r]) (ys++zs) (R++S):=by
 intro d s i j;rw[List.length_append] at i j
 have c:∀ (rs:List Rf) (s s1:LS),stp (rdG rd d) rs s=(s1,0)→stp (rdG rd d) (rs++[r]) s=stp (rdG rd d) [r] s1:=by
  intro rs
  induction rs with
  |nil=>intro s s1 e;cases e;rfl
  |cons x a l=>
   intro s s1 e;rw[List.cons_append,show stp (rdG rd d) (x::(a++[r])) s=if(rdG rd d s x).2=0 then stp (rdG rd d) (a++[r]) (rdG rd d s x).1 else rdG rd d s x from rfl];rw[show stp (rdG rd d) (x::a) s=if(rdG rd d s x).2=0 then stp (rdG rd d) a (rdG rd d s x).1 else rdG rd d s x from rfl] at e;by_cases b:(rdG rd d s x).2=0
   ·rw[if_pos b] at e ⊢
    exact l _ _ e
   ·rw[if_neg b] at e
    rw[e] at b;exact absurd rfl b
 rw[c rs s _ (h d s (by omega) (by omega)),stp,g d _ (by simp only;omega) (by omega)];simp only[if_true,stp];simp[Nat.add_assoc]
theorem zp7 {P:Pp} (h:rpp P=true):encS P=⟨(pB P).toArray⟩:=by unfold Rw.encS;rw[if_pos h]
theorem zdp {rd:Rf→ByteArray × Int} {P:Pp} {r:Rf} {ys:List Sv} {R:List Rw} (b:rpp P=true) (i:okP P) (a:rd r=(encS P,0)) (h:StpR rd (zaQ P) ys R):Reads rd r (ys++[⟨encS P,r⟩]) (R++P.l):=by
 obtain⟨c,e⟩:=Rw.zoP b i;rw[←zp7 b] at c e;intro d s j k;rw[List.length_append,List.length_singleton] at j k;cases d with
 |zero=>omega
 |succ d=>
  rw[rdG,a,if_neg (by omega),if_pos rfl,if_pos c];simp only[e];rw[h d ⟨s.n+1,s.rows,s.pages⟩ (by simp only;omega) (by omega)];simp only[if_true];simp only[List.length_append,List.length_singleton,List.append_assoc]
  congr 2
  omega
def rowsOf (rd:Rf→ByteArray × Int) (r:Rf):List Rw:=(rdG rd 2101 ⟨0,[],[]⟩ r).1.rows
theorem zhA {rd:Rf→ByteArray × Int} {r r':Rf} (h:rd r=rd r'):rowsOf rd r=rowsOf rd r':=by
 unfold rowsOf;rw[rdG,rdG,h];split
 ·rfl
 ·split
  ·split
   ·split<;>rfl
   ·rfl
  ·rfl
theorem Reads.rows {rd:Rf→ByteArray × Int} {r:Rf} {ys:List Sv} {R:List Rw} (h:Reads rd r ys R) (hl:ys.length≤2100):rowsOf rd r=R:=by
 unfold rowsOf;rw[h 2101 ⟨0,[],[]⟩ (by simp only;omega) (by omega)];rfl
structure Un (rd:Rf→ByteArray × Int) (ys:List Sv) (l:List Rw):Prop where
 sub:∀ y∈ys,(∀ x∈rowsOf rd y.r,x∈l)∧(rowsOf rd y.r).length≤l.length∧(l≠[]→rowsOf rd y.r≠[])
 un:ys.Pairwise fun a b=>rowsOf rd a.r≠rowsOf rd b.r
theorem Un.nil (rd:Rf→ByteArray × Int) (l:List Rw):Un rd [] l:=⟨fun y hy=>(by cases hy),List.Pairwise.nil⟩
def zek (l:List Rw) (n:Nat):Nat→List Rw
 |0=>[]
 |k+1=>zek l n k++piece l (n - (k+1))
theorem zdq (l:List Rw):∀ k,k≤npc l→(zek l (npc l) k).Perm (l.drop (4*(npc l - k)))
 |0,_=>by
  show([]:List Rw).Perm _;rw[List.drop_eq_nil_of_le (by unfold npc;omega)]
 |k+1,b=>by
  have a:=zdq l k (by omega)
  have e:l.drop (4*(npc l - (k+1)))=piece l (npc l - (k+1))++l.drop (4*(npc l - k)):=by
   unfold piece;have h:=List.take_append_drop 4 (l.drop (4*(npc l - (k+1))));rw[List.drop_drop] at h;rw[show 4*(npc l - k)=4*(npc l - (k+1))+4 by omega];exact h.symm
  rw[e];show(zek l (npc l) k++piece l (npc l - (k+1))).Perm _;exact(a.append_right _).trans List.perm_append_comm
theorem piece_ne {l:List Rw} {i:Nat} (h:i<npc l) (hl:l≠[]):piece l i≠[]:=by
 have h0:=List.length_pos_iff.2 hl;unfold npc at h;intro e;have:=congrArg List.length e;unfold piece at this;rw[List.length_take,List.length_drop,List.length_nil] at this;omega
theorem ziw {σ:Type} {pl:Pm σ} {s:σ} {P:Pp} (h:(zaC pl s P).e=0):rpp P=true∧(pl s (encS P)).1.2=0∧zaC pl s P=⟨(pl s (encS P)).2,[⟨encS P,(pl s (encS P)).1.1⟩],0,(pl s (encS P)).1.1⟩:=by
 unfold zaC at h ⊢;by_cases a:encE P=0
 ·rw[if_pos a] at h ⊢
  by_cases b:(pl s (encS P)).1.2=0
  ·rw[if_pos b] at h ⊢
   refine⟨?_,b,rfl⟩;unfold Rw.encE at a;cases c:rpp P with
   |true=>rfl
   |false=>rw[c] at a;exact absurd a (by decide)
  ·rw[if_neg b] at h
   exact absurd h b
 ·rw[if_neg a] at h
  exact absurd h a
theorem zlT {l:List Rw} {next:Rf} (h:Rw.rref next.p next.t=true):zaQ (za2 l next)=[next]:=by
 have h2:2≤next.p:=by
  unfold Rw.rref at h;rw[Bool.and_eq_true,decide_eq_true_iff] at h;exact h.1
 unfold zaQ;exact if_pos ⟨rfl,fun e=>by have:next.p=0:=e.1;omega⟩
theorem zgG (l:List Rw):zaQ (za2 l zf)=[]:=if_neg fun e=>e.2 ⟨rfl,rfl⟩
theorem zjs (l:List Rw) (ks:List Rf):zaQ (zaX l ks)=ks:=if_neg fun e=>absurd (show(2:Int)=1 from e.1) (by decide)
theorem znq (l:List Rw):npc l≤l.length+1:=by unfold npc;omega
theorem zdu {σ:Type} {pl:Pm σ} {rd:Rf→ByteArray × Int} {l:List Rw} (n:∀ r∈l,zbd r) (I:l≠[]) (B:l.length≤1000):∀ (i:Nat) (s:σ) (next:Rf) (c:List Sv),i≤npc l→next.p<4294967296→
  ((i=npc l∧next=zf∧c=[])∨(i<npc l∧Rw.rref next.p next.t=true∧Reads rd next c (zek l (npc l) (npc l - i))))→c.length=npc l - i→Un rd c l→(∀ y∈c,(rowsOf rd y.r).length≤(zek l (npc l) (npc l - i)).length)→
  (zal pl l i s next).e=0→(∀ y∈(zal pl l i s next).ys,rd y.r=(y.t,0)∧Rw.rref y.r.p y.r.t=true∧y.r.p<4294967296)→0<i→
  Reads rd (zal pl l i s next).r (c++(zal pl l i s next).ys) (zek l (npc l) (npc l))∧Un rd (c++(zal pl l i s next).ys) l
 |0,_,_,_,_,_,_,_,_,_,_,_,h=>absurd h (by decide)
 |i+1,s,next,c,Y,P,Q,J,o,q,j,m,_=>by
  unfold zal Gr.then at j m ⊢;by_cases A:(zaC pl s (za2 (piece l i) next)).e=0
  ·rw[if_pos A] at j m ⊢
   obtain⟨R,Z,K⟩:=ziw A;obtain⟨r,S⟩:∃ r,(pl s (encS (za2 (piece l i) next))).1.1=r:=⟨_,rfl⟩;obtain⟨s1,C⟩:∃ s1,(pl s (encS (za2 (piece l i) next))).2=s1:=⟨_,rfl⟩;rw[S,C] at K;rw[K] at j m ⊢;obtain⟨L,M,N⟩:=m ⟨encS (za2 (piece l i) next),r⟩ (by simp);have u:∀ x∈piece l i,x∈l:=fun x v=>(List.take_sublist _ _ |>.trans (List.drop_sublist _ _)).subset v
   have w:zek l (npc l) (npc l - i)=zek l (npc l) (npc l - (i+1))++piece l i:=by
    have e:npc l - i=(npc l - (i+1))+1:=by omega
    rw[e];show _++piece l (npc l - ((npc l - (i+1))+1))=_;rw[show npc l - ((npc l - (i+1))+1)=i by omega]
   have d:Reads rd r (c++[⟨encS (za2 (piece l i) next),r⟩]) (zek l (npc l) (npc l - i)):=by
    rw[w];refine zdp R (zlm (fun x v=>n x (u x v)) P) L ?_;rcases Q with⟨O,E,F⟩|⟨O,E,F⟩
    ·subst E F
     rw[zgG,O,Nat.sub_self];exact StpR.nil rd
    ·rw[zlT E]
     have:=(StpR.nil rd).snoc F;simpa using this
   have T:=znq l;have k:=d.rows (by rw[List.length_append,List.length_singleton];omega);have U:=List.length_pos_iff.2 (piece_ne (show i<npc l by omega) I);have V:(zek l (npc l) (npc l - i)).length=(zek l (npc l) (npc l - (i+1))).length+(piece l i).length:=by rw[w,List.length_append]
   have z:=zdq l (npc l - i) (by omega)
   have g:Un rd (c++[⟨encS (za2 (piece l i) next),r⟩]) l:=by
    refine⟨fun y f=>?_,List.pairwise_append.2 ⟨o.un,List.pairwise_singleton _ _,fun a W b X=>?_⟩⟩
    ·rcases List.mem_append.1 f with a|a
     ·exact o.sub y a
     ·rw[List.mem_singleton.1 a]
      simp only;rw[k];refine⟨fun x v=>(List.drop_sublist _ _).subset (z.mem_iff.1 v),?_,fun _ e=>?_⟩
      ·rw[z.length_eq,List.length_drop];omega
      ·have:=congrArg List.length e
       rw[List.length_nil] at this;omega
    ·rw[List.mem_singleton.1 X]
     simp only;rw[k];intro e;have:=q a W;rw[e] at this;omega
   by_cases H:0<i
   ·have:=zdu n I B i s1 r (c++[⟨encS (za2 (piece l i) next),r⟩]) (by omega) N (.inr ⟨by omega,M,d⟩) (by rw[List.length_append,List.length_singleton];omega) g (fun y f=>by
     rcases List.mem_append.1 f with a|a
     ·have:=q y a;omega
     ·rw[List.mem_singleton.1 a];simp only;rw[k];exact Nat.le_refl _) j (fun y f=>m y (by simp[f])) H
    rw[List.append_assoc] at this;exact this
   ·obtain rfl:i=0:=by omega
    exact⟨d,g⟩
  ·rw[if_neg A] at j
   exact absurd j A
theorem StpR.cons {rd:Rf→ByteArray × Int} {rs:List Rf} {r:Rf} {ys zs:List Sv} {R S:List Rw} (a:Reads rd r zs S) (h:StpR rd rs ys R):StpR rd (r::rs) (zs++ys) (S++R):=by
 intro d s b c;rw[List.length_append] at b c;rw[show stp (rdG rd d) (r::rs) s=if(rdG rd d s r).2=0 then stp (rdG rd d) rs (rdG rd d s r).1 else rdG rd d s r from rfl,a d s (by omega) (by omega)];simp only[if_true];rw[h d _ (by simp only;omega) (by omega)];simp[Nat.add_assoc]
def Gy (rd:Rf→ByteArray × Int) (y:Sv):Prop:=rd y.r=(y.t,0)∧Rw.rref y.r.p y.r.t=true∧y.r.p<4294967296
def Dis (a b:List Rw):Prop:=∀ x∈a,x ∉ b
theorem zix (l:List Rw):(zao l).Pairwise Dis:=by
 unfold zao;refine List.Pairwise.sublist List.filter_sublist ?_;have h:∀ p q,p≠q→Dis (Rq.part l p) (Rq.part l q):=fun p q a x c d=>a ((zbk.1 c).2.symm.trans (zbk.1 d).2)
 simp only[List.map_cons,List.map_nil,List.pairwise_cons,List.mem_cons,List.not_mem_nil,or_false,forall_eq_or_imp,forall_eq];exact⟨⟨h 0 1 (by decide),h 0 2 (by decide),h 0 3 (by decide)⟩,⟨h 1 2 (by decide),h 1 3 (by decide)⟩,h 2 3 (by decide),fun _ h=>(by cases h),List.Pairwise.nil⟩
def Sb (rd:Rf→ByteArray × Int) (y:Sv) (m:List Rw):Prop:=(∀ x∈rowsOf rd y.r,x∈m)∧(rowsOf rd y.r).length≤m.length∧rowsOf rd y.r≠[]
theorem zeT {σ:Type} {rd:Rf→ByteArray × Int} (F:σ→List Rw→Gr σ):∀ (f:List (List Rw)) (s:σ) (rs:List Rf),f.Pairwise Dis→(∀ m∈f,m≠[])→
  (∀ m∈f,∀ s,(F s m).e=0→(∀ y∈(F s m).ys,Gy rd y)→(∃ R,R.Perm m∧Reads rd (F s m).r (F s m).ys R)∧Un rd (F s m).ys m∧(F s m).r.p<4294967296)→
  (zan F f s rs).1.e=0→(∀ y∈(zan F f s rs).1.ys,Gy rd y)→
  ∃ g R,(zan F f s rs).2=rs++g∧(∀ r∈g,r.p<4294967296)∧R.Perm f.flatten∧StpR rd g (zan F f s rs).1.ys R∧(∀ y∈(zan F f s rs).1.ys,∃ m∈f,Sb rd y m)∧(zan F f s rs).1.ys.Pairwise fun a b=>rowsOf rd a.r≠rowsOf rd b.r
 |[],s,rs,_,_,_,_,_=>⟨[],[],(List.append_nil rs).symm,fun r k=>(by cases k),List.Perm.refl _,StpR.nil rd,fun y h=>(by cases h),List.Pairwise.nil⟩
 |m::f,s,rs,B,l,u,j,h=>by
  rw[zbz] at j h ⊢;by_cases o:(F s m).e=0
  ·rw[if_pos o] at j h ⊢
   simp only at j h ⊢;obtain⟨⟨S,s1,C⟩,v,D⟩:=u m (List.mem_cons.2 (.inl rfl)) s o fun y d=>h y (List.mem_append.2 (.inl d))
   obtain⟨q,t⟩:=List.pairwise_cons.1 B;obtain⟨g,R,E,G,H,I,w,J⟩:=zeT F f (F s m).s (rs++[(F s m).r]) t (fun x i=>l x (List.mem_cons.2 (.inr i))) (fun x i=>u x (List.mem_cons.2 (.inr i))) j fun y d=>h y (List.mem_append.2 (.inr d))
   have n:∀ y∈(F s m).ys,Sb rd y m:=fun y d=>by
    obtain⟨a,b,c⟩:=v.sub y d;exact⟨a,b,c (l m (List.mem_cons.2 (.inl rfl)))⟩
   refine⟨(F s m).r::g,S++R,by rw[E,List.append_assoc];rfl,fun r k=>?_,?_,StpR.cons C I,fun y d=>?_,List.pairwise_append.2 ⟨v.un,J,fun a K b L e=>?_⟩⟩
   ·rcases List.mem_cons.1 k with rfl|k
    ·exact D
    ·exact G r k
   ·rw[List.flatten_cons];exact s1.append H
   ·rcases List.mem_append.1 d with a|a
    ·exact⟨m,List.mem_cons.2 (.inl rfl),n y a⟩
    ·obtain⟨x,i,hs⟩:=w y a
     exact⟨x,List.mem_cons.2 (.inr i),hs⟩
   ·obtain⟨x,i,hs⟩:=w b L
    obtain⟨M,-,N⟩:=n a K;obtain⟨z,A⟩:=List.exists_mem_of_ne_nil _ N;exact q x i z (M z A) (hs.1 z (e▸A))
  ·rw[if_neg o] at j
   exact absurd j o
theorem znT:∀ (b:List (List Rw)) (j:Nat) (a:j<b.length),b[j].length≤(b.map List.length).sum
 |[],_,a=>absurd a (Nat.not_lt_zero _)
 |x::c,0,_=>by rw[List.map_cons,List.sum_cons];exact Nat.le_add_right _ _
 |x::c,j+1,a=>by
  rw[List.map_cons,List.sum_cons];have:=znT c j (by simpa using a);show(c[j]'(by simpa using a)).length≤_;omega
theorem zhB:∀ (d:List (List Rw)) (i j:Nat) (f:i<j) (c:j<d.length) {a b:List Rw},d[i]'(by omega)=a→d[j]=b→a.length+b.length≤(d.map List.length).sum
 |[],_,_,_,c,_,_,_,_=>absurd c (Nat.not_lt_zero _)
 |x::e,0,j+1,_,c,a,b,g,h=>by
  have k:x=a:=g;have l:e[j]'(by simpa using c)=b:=h;subst k;rw[List.map_cons,List.sum_cons];have:=znT e j (by simpa using c);rw[l] at this;omega
 |x::e,i+1,j+1,f,c,a,b,g,h=>by
  rw[List.map_cons,List.sum_cons];have:=zhB e i j (by omega) (by simpa using c) (a:=a) (b:=b) g h;omega
theorem zgH (l:List Rw):(zao l).flatten.Perm l:=by
 have h:=zjG (fun m=>m) rfl l;rw[List.flatMap_id'] at h;rw[h];exact zex l
theorem zeU {σ:Type} {pl:Pm σ} (E:∀ s t,(pl s t).1.1.p<4294967296) {rd:Rf→ByteArray × Int}:∀ (d:Nat) (s:σ) (l:List Rw),RL l→l.length≤1000→l≠[]→lev l<d→
  (zad pl d s l).e=0→(∀ y∈(zad pl d s l).ys,Gy rd y)→
  (∃ R,R.Perm l∧Reads rd (zad pl d s l).r (zad pl d s l).ys R)∧Un rd (zad pl d s l).ys l
 |0,_,_,_,_,_,hd,_,_=>absurd hd (Nat.not_lt_zero _)
 |d+1,s,l,D,F,T,hd,o,g=>by
  have c:=(zbZ pl (d+1) s l).1;have a2:=zdE (d+1) l D.on;unfold zad at o g c ⊢;by_cases A:leaf l=true
  ·rw[if_pos A] at o g ⊢
   obtain⟨h1,V⟩:=zdu D.ok T F (npc l) s zf [] zn (Nat.zero_lt_succ _) (.inl ⟨rfl,rfl,rfl⟩) (by rw[Nat.sub_self];rfl) (Un.nil rd l) (fun y g=>by cases g) o g (by unfold npc;omega);have hp:=zdq l (npc l) zn;rw[Nat.sub_self,Nat.mul_zero,List.drop_zero] at hp;exact⟨⟨_,hp,h1⟩,V⟩
  ·rw[if_neg A] at o g c ⊢
   obtain⟨-,n,hn⟩:=zda (by cases hh:leaf l;rfl;exact absurd hh A)
   have hk:=zeT (rd:=rd) (zad pl d) (zao l) s [] (zix l) (fun m v=>(za7 v).1) (fun m v s' W f=>by
    obtain⟨-,q,-,e⟩:=za7 v;obtain⟨Q,X⟩:=zeU E d s' m (D.kid v) (Nat.le_trans (by rw[e];exact ze0 l q) F) (za7 v).1 (by have:=zjF D.on hn v;omega) W f;exact⟨Q,X,zcG E d s' m⟩)
   by_cases S:(zan (zad pl d) (zao l) s []).1.e=0
   ·rw[if_pos S] at o g c ⊢
    generalize zan (zad pl d) (zao l) s []=K at*
    obtain⟨u,R,Q,X,k3,k4,k5,k6⟩:=hk S fun y f=>g y (List.mem_append.2 (.inl f))
    rw[List.nil_append] at Q;rw[Q] at o g c ⊢;obtain⟨p1,p2,p3⟩:=ziw o;obtain⟨r,hr⟩:∃ r,(pl K.1.s (encS (zaX l u))).1.1=r:=⟨_,rfl⟩;obtain⟨s1,B⟩:∃ s1,(pl K.1.s (encS (zaX l u))).2=s1:=⟨_,rfl⟩;rw[hr,B] at p3;rw[p3] at o g c ⊢;obtain⟨y1,y2,y3⟩:=g ⟨encS (zaX l u),r⟩ (by simp);have H:=zdN D.on;have Y:okP (zaX l u):=⟨by show cx l<_;have:=H.x31;omega,by show cy l<_;have:=H.y31;omega,Nat.zero_lt_succ _,fun x I=>(by cases I),X⟩;have C:Reads rd r (K.1.ys++[⟨encS (zaX l u),r⟩]) (R++[]):=zdp p1 Y y1 (by rw[zjs];exact k4);rw[List.append_nil] at C;have k:=k3.trans (zgH l);rw[List.length_append,List.length_singleton] at c;have J:=C.rows (by rw[List.length_append,List.length_singleton];omega)
    have L:∀ y∈K.1.ys,(rowsOf rd y.r).length<l.length:=fun y f=>by
     obtain⟨m,v,hs⟩:=k5 y f;have h3:=hs.2.1;have a3:=zhJ l
     have:m.length<l.length:=by
      obtain⟨Z,M,N⟩:∃ Z∈zao l,Z≠m:=by
       have w:=zix l
       match O:zao l,(zdy D.on hn) with
       |a::b::t,_=>
        rw[O] at w;obtain⟨d1,-⟩:=List.pairwise_cons.1 w
        have a0:a≠b:=fun e=>by
         have ha:=(za7 (show a∈zao l by rw[O];simp)).1;obtain⟨z,hz⟩:=List.exists_mem_of_ne_nil _ ha;exact d1 b (by simp) z hz (e▸hz)
        by_cases e:a=m
        ·exact⟨b,by simp,fun P=>a0 (e.trans P.symm)⟩
        ·exact⟨a,by simp,e⟩
      obtain⟨i,hi,e1⟩:=List.getElem_of_mem v;obtain⟨j,hj,P⟩:=List.getElem_of_mem M;have a4:=List.length_pos_iff.2 (za7 M).1
      have a5:m.length+Z.length≤((zao l).map List.length).sum:=by
       rcases Nat.lt_trichotomy i j with h|h|h
       ·exact zhB _ i j h (by simpa using hj) e1 P
       ·subst h;exact absurd (P.symm.trans e1) N
       ·rw[Nat.add_comm];exact zhB _ j i h (by simpa using hi) P e1
      omega
     omega
    refine⟨⟨R,k,C⟩,fun y f=>?_,List.pairwise_append.2 ⟨k6,List.pairwise_singleton _ _,fun a ha b hb=>?_⟩⟩
    ·rcases List.mem_append.1 f with a|a
     ·obtain⟨m,v,B,a6,a1⟩:=k5 y a
      exact⟨fun x I=>by
       obtain⟨-,q,-,e⟩:=za7 v;have:=B x I;rw[e] at this;exact(zbk.1 this).1,Nat.le_of_lt (L y a),fun _=>a1⟩
     ·rw[List.mem_singleton.1 a]
      simp only;rw[J];exact⟨fun x I=>k.mem_iff.1 I,by rw[k.length_eq];exact Nat.le_refl _,fun h e=>h (by rw[e] at k;exact k.symm.eq_nil)⟩
    ·rw[List.mem_singleton.1 hb]
     simp only;rw[J];intro e;have:=L a ha;rw[e,k.length_eq] at this;omega
   ·rw[if_neg S] at o
    exact absurd o S
theorem ziy {σ:Type} {pl:Pm σ} {q:Pm Unit} {s:σ} {P:Pp} (c:(zaC pl s P).e=0) (h:∀ y∈(zaC pl s P).ys,q () y.t=((y.r,0),())):zaC q () P=⟨(),(zaC pl s P).ys,0,(zaC pl s P).r⟩:=by
 obtain⟨d,g,f⟩:=ziw c;rw[f] at h ⊢;have b:=h _ (List.mem_singleton.2 rfl);have a:encE P=0:=by unfold Rw.encE;rw[if_pos d]
 unfold zaC;rw[if_pos a,b,if_pos rfl]
theorem zeV {σ:Type} {pl:Pm σ} {q:Pm Unit} {l:List Rw}:∀ (i:Nat) (s:σ) (next:Rf),(zal pl l i s next).e=0→(∀ y∈(zal pl l i s next).ys,q () y.t=((y.r,0),()))→zal q l i () next=⟨(),(zal pl l i s next).ys,0,(zal pl l i s next).r⟩
 |0,_,_,_,_=>rfl
 |i+1,s,next,a,h=>by
  unfold zal Gr.then at a h ⊢;by_cases b:(zaC pl s (za2 (piece l i) next)).e=0
  ·rw[if_pos b] at a h ⊢
   simp only at a h ⊢;rw[ziy b fun y c=>h y (List.mem_append.2 (.inl c))];simp only[if_true];rw[zeV i _ _ a fun y c=>h y (List.mem_append.2 (.inr c))]
  ·rw[if_neg b] at a
   exact absurd a b
theorem ziz {σ:Type} {q:Pm Unit} (F:σ→List Rw→Gr σ) (G:Unit→List Rw→Gr Unit):∀ (a:List (List Rw)) (s:σ) (rs:List Rf),
  (∀ m∈a,∀ s,(F s m).e=0→(∀ y∈(F s m).ys,q () y.t=((y.r,0),()))→G () m=⟨(),(F s m).ys,0,(F s m).r⟩)→(zan F a s rs).1.e=0→(∀ y∈(zan F a s rs).1.ys,q () y.t=((y.r,0),()))→
  zan G a () rs=(⟨(),(zan F a s rs).1.ys,0,(zan F a s rs).1.r⟩,(zan F a s rs).2)
 |[],_,_,_,_,_=>rfl
 |m::a,s,rs,f,b,h=>by
  rw[zbz F] at b h ⊢;by_cases c:(F s m).e=0
  ·rw[if_pos c] at b h ⊢
   simp only at b h ⊢;rw[zbz G,f m (List.mem_cons.2 (.inl rfl)) s c fun y d=>h y (List.mem_append.2 (.inl d))];simp only[if_true];rw[ziz F G a _ _ (fun x g=>f x (List.mem_cons.2 (.inr g))) b fun y d=>h y (List.mem_append.2 (.inr d))]
  ·rw[if_neg c] at b
   exact absurd b c
theorem ziA {σ:Type} {pl:Pm σ} {q:Pm Unit}:∀ (d:Nat) (s:σ) (l:List Rw),(zad pl d s l).e=0→(∀ y∈(zad pl d s l).ys,q () y.t=((y.r,0),()))→zad q d () l=⟨(),(zad pl d s l).ys,0,(zad pl d s l).r⟩
 |0,_,_,_,_=>rfl
 |d+1,s,l,a,h=>by
  unfold zad at a h ⊢;by_cases b:leaf l=true
  ·rw[if_pos b] at a h ⊢
   rw[if_pos b];exact zeV _ _ _ a h
  ·rw[if_neg b] at a h ⊢
   rw[if_neg b];by_cases c:(zan (zad pl d) (zao l) s []).1.e=0
   ·rw[if_pos c] at a h ⊢
    have g:=ziz (zad pl d) (zad q d) (zao l) s [] (fun m _ i j k=>ziA d i m j k) c fun y f=>h y (List.mem_append.2 (.inl f))
    rw[g];simp only[if_true] at a h ⊢;rw[ziy a fun y f=>h y (List.mem_append.2 (.inr f))]
   ·rw[if_neg c] at a
    exact absurd a c
theorem zlU:∀ {ys:List Sv},(ys.Pairwise fun a b=>a.t≠b.t)→∀ y∈ys,wh ys y.t=some y.r
 |[],_,y,c=>by cases c
 |x::g,h,y,c=>by
  obtain⟨d,f⟩:=List.pairwise_cons.1 h;unfold wh;rcases List.mem_cons.1 c with rfl|c
  ·rw[if_pos rfl]
  ·rw[if_neg (fun e=>d y c e.symm)]
   exact zlU f y c
open Rv (FB zab zaS Vlt Vs Pl Vok Hon zaw cf take zbT blk newV krs)
theorem znr {l m:List Rw} (hl:Rise l) (hm:Rise m) (h:l.Perm m):l=m:=by
 refine h.eq_of_pairwise (le:=fun(a b:Rw)=>a.id<b.id) (fun a b _ _ h1 h2=>?_) hl hm;omega
theorem zjt {s l:List Rw} (hs:s.Pairwise fun a b=>rid a≤rid b) (d:s.Perm l) (f:Rise l):s=l:=by
 refine znr ?_ f d
 have c:s.Pairwise fun a b=>a.id≠b.id:=(d.pairwise_iff (fun h=>fun e=>h e.symm)).2 (f.imp fun h=>by omega)
 exact(hs.and c).imp fun h=>by have:=h.1;unfold rid at this;omega
theorem zns (rd:Rf→ByteArray × Int):∀ (d:Nat) (s:LS) (r:Rf),(rdG rd d s r).2=0→∃ c,(rdG rd d s r).1.pages=c++[⟨(rd r).1,r⟩]
 |0,s,r,h=>absurd (show(61:Int)=0 from h) (by decide)
 |d+1,s,r,h=>by
  unfold rdG at h ⊢;split at h
  ·exact absurd (show(61:Int)=0 from h) (by decide)
  ·rename_i e
   rw[if_neg e];split at h
   ·rename_i a
    rw[if_pos a];split at h
    ·rename_i f
     rw[if_pos f];split at h
     ·rename_i b
      rw[if_pos b];exact⟨_,rfl⟩
     ·rename_i b
      exact absurd h b
    ·exact absurd (show(61:Int)=0 from h) (by decide)
   ·rename_i a
    exact absurd h a
theorem zlV {Kt:Nat→Int} {f:ByteArray→Option Rf} {s0:Sx} (h:Gst Kt f s0) {l:List Rw} (G:zaG l=true) (W:∀ r∈l,zbd r) {g:Gr Sx} (c:zad (hadP f (svP Kt)) 32 s0 l=g) (H:g.e=0):
  (∃ R,R.Perm l∧rdG (rdV Kt g.s.v g.s.t) 2101 L0 g.r=(⟨g.ys.length,R,g.ys⟩,0))∧areB g.ys l=true∧(∃ I t,g.ys=I++[⟨t,g.r⟩])∧g.r.p<4294967296:=by
 have k:=RL.of_right G W;have X:=((zaH l).1 G).1;have Y:=zfE k.on;obtain⟨E,-⟩:=zc3 32 s0 l k (by omega) h;rw[c] at E;have Z:=E.gs.pok.hon.ok.n1
 have w:∀ s t,(hadP f (svP Kt) s t).1.1.p<4294967296:=fun s t=>by
  unfold hadP;cases hf:f t with
  |none=>exact(zgy Kt ⟨0,0,0,0,0,none,0⟩ (fun _=>none) 0 0).small s t
  |some r=>
   have:=(h.had t r hf).1.2.1;have a0:=h.pok.hon.ok.n1;show r.p<_;simp only at this;omega
 have m:∀ y∈g.ys,Gy (rdV Kt g.s.v g.s.t) y:=fun y u=>by
  have J:=E.ky y u;exact⟨zlR E.gs.pok.hon J,zei J,by have:=J.1.2.1;omega⟩
 have z:=(zbZ (hadP f (svP Kt)) 32 s0 l).1;rw[c] at z;have S:=zdE 32 l k.on
 have n:(∃ R,R.Perm l∧Reads (rdV Kt g.s.v g.s.t) g.r g.ys R)∧g.ys.Pairwise fun a b=>a.t≠b.t:=by
  by_cases A:l=[]
  ·subst A
   have d:=H;rw[←c] at d;unfold zad at d c;have K:npc []=1:=rfl;rw[K] at d c;unfold zal Gr.then at d c;by_cases F:(zaC (hadP f (svP Kt)) s0 (za2 (piece [] 0) zf)).e=0
   ·rw[if_pos F] at d c
    obtain⟨p1,p2,T⟩:=ziw F;obtain⟨r,L⟩:∃ r,(hadP f (svP Kt) s0 (encS (za2 (piece [] 0) zf))).1.1=r:=⟨_,rfl⟩;rw[L] at T;rw[T] at c;have o:g.ys=[⟨encS (za2 (piece [] 0) zf),r⟩]:=by rw[←c];rfl
    have M:g.r=r:=by rw[←c];rfl
    refine⟨⟨[],List.Perm.refl _,?_⟩,by rw[o];exact List.pairwise_singleton _ _⟩;have u:=(m ⟨encS (za2 (piece [] 0) zf),r⟩ (by rw[o];simp)).1;rw[M,o];have:=zdp (rd:=rdV Kt g.s.v g.s.t) (r:=r) (ys:=[]) (R:=[]) p1 (zlm (fun x hx=>by simp[piece] at hx) (Nat.zero_lt_succ _)) u (by rw[zgG];exact StpR.nil _);simpa [piece,za2] using this
   ·rw[if_neg F] at d
    exact absurd d F
  ·have B:=H
   have i:=m;rw[←c] at B i;obtain⟨U,V⟩:=zeU w 32 s0 l k X A (by omega) B (by rw[c] at i ⊢;exact i);rw[c] at U V;exact⟨U,V.un.imp_of_mem fun {a b} ha hb N e=>N (zhA (by rw[(m a ha).1,(m b hb).1,e]))⟩
 obtain⟨⟨R,hR,O⟩,P⟩:=n
 have j:rdG (rdV Kt g.s.v g.s.t) 2101 L0 g.r=(⟨g.ys.length,R,g.ys⟩,0):=by
  rw[(O 2101 L0 (by show 0+_≤_;omega) (by omega))];simp[L0]
 have C:areG g.ys l=⟨(),g.ys,0,g.r⟩:=by
  have:=ziA (pl:=hadP f (svP Kt)) (q:=hadP (wh g.ys) noP) 32 s0 l (by rw[c];exact H) (fun y u=>by
   rw[c] at u;unfold hadP;rw[zlU P y u])
  rw[c] at this;exact this
 refine⟨⟨R,hR,j⟩,?_,?_,?_⟩
 ·unfold areB
  rw[C,G,show outL (⟨(),g.ys,0,g.r⟩:Gr Unit)=g.ys from if_pos rfl,(ze9 eqS zlH g.ys g.ys).2 rfl];rfl
 ·obtain⟨I,D⟩:=zns (rdV Kt g.s.v g.s.t) 2101 L0 g.r (by rw[j])
  rw[j] at D;exact⟨I,_,D⟩
 ·have:=zcG w 32 s0 l
  rw[c] at this;exact this
def e0v:Vs:=newV (krs 1) 1 7
theorem znt (p:Nat):(e0v.tk p).isSome=decide (p<2):=(Rv.zo4 (krs 1) 1 7).2.2.2.2.2 p
theorem znU:∀ n,2≤n→cf e0v.tk n=n - 2
 |0,h=>absurd h (by decide)
 |1,h=>absurd h (by decide)
 |n+2,_=>by
  have c:=Rv.zlv (tk:=e0v.tk) (p:=2) fun q e=>by rw[znt];exact decide_eq_true e
  induction n with
  |zero=>exact c
  |succ n f=>
   rw[show n+1+2=(n+2)+1 from rfl,Rv.zdn,if_neg (by rw[znt];simp),f (by omega)];omega
theorem fe11:Rk.feS (krs 1) 1=0:=by kernel_rfl
theorem vok1:Vok e0v:=⟨fe11,by decide,by decide,by decide,by decide,by decide⟩
theorem zel (n:Nat) (h4:4≤n) (hn:n≤4096):Pok ⟨e0v,Rd.newS n,[]⟩:=
 ⟨vok1,Rv.zo9 n h4 hn,⟨by rw[show(Rd.newS n).n=n from rfl,znU n (by omega)];show 0+_≤_;omega,Nat.zero_le _⟩,by show(e0v.tk 0).isSome=true;rw[znt];rfl,by show(e0v.tk 1).isSome=true;rw[znt];rfl⟩
theorem zhC (Kt:Nat→Int) (n:Nat) (h4:4≤n) (hn:n≤4096):Gst Kt (wh []) ⟨e0v,Rd.newS n,[]⟩:=⟨zel n h4 hn,fun t r e=>by cases e⟩
end Rz
namespace Rv
open Go.RowKit Go.Lib
open Rd (But St Ok Dev Dv pt zaa zam)
theorem ziB:(krs 1).length=1:=zhr 1
theorem zeW (Kt:Nat→Int) (n:Nat) (t:4≤n) (u:n≤4096) (w:World) (v:Rs.Tb Kt w):
  Calls Tryz.prog 12 #[.int .i64 (n:Int)] w fun e S=>∃ (A:Pl) (q:Nat),e=.returned (.tuple #[pt A.g,pt A.d,pt q,.bool true])∧Vlt S A (newV (krs 1) 1 7) (Rd.newS n)∧(∀ k,A.has k→w.heap.size≤k)∧Below w.heap.size w S:=by
 have HD:Hid (∀ _:True,_):=fun _=>Rd.zgT n t u w
 have HR:Hid (∀ W,_):=fun W=>Rd.znb n t u W
 have T:Hid (∀ W,_):=fun W=>zm9 1 (by omega) W
 have y:Hid (Rs.Tb Kt w):=v;have z:3<w.heap.size:=by obtain⟨⟨_,_,h⟩,_⟩:=v;exact hlt h
 have f:Hid (3<w.heap.size∧2<w.heap.size):=⟨z,(by obtain⟨_,_,_,h⟩:=v;exact hlt h)⟩;have C:Hid _:=Rd.zkv n t u;go_enter Tryz.func12,Tryz.ntmps12;go_wp2_with fail;refine Calls.mono (HD.out trivial) ?_;rintro e w1 ⟨d,b,m,rfl,hd,ld,lb,lm,b1⟩;have i:Hid _:=b1;have D:Hid _:=hd;have U:Hid (w.heap.size≤d∧w.heap.size≤b∧w.heap.size≤m):=⟨ld,lb,lm⟩;go_wp2_with fail;refine Calls.mono (HR.out _) ?_;rintro e w2 ⟨r,x,rfl,hf,-,V⟩;have j:Hid _:=i.out.trans (V.mono i.out.size);have E:Hid _:=D.out.below V zn;have F:Hid _:=hf;go_wp2_with fail;refine Calls.mono (T.out _) ?_;rintro e w3 ⟨o3,l,rfl,G,-,H⟩;have a:Hid _:=j.out.trans (H.mono j.out.size);have I:Hid _:=E.out.below H zn
 have J:Hid _:=F.out.below H zn;have X:Hid (∀ _:True,_):=fun _=>zo5 Kt d b m (Rd.newS n) (krs 1) 1 7 o3 l w3 I.out (by have:=f.out;have:=U.out;rintro(e|e|e)<;>omega) (by have:=f.out;have:=U.out;rintro(e|e|e)<;>omega) (y.out.below a.out zn) G Rz.fe11
 go_wp2_with fail;refine Calls.mono (X.out trivial) ?_;rintro e w4 ⟨A,rfl,K,⟨rfl,rfl,rfl⟩,lg,lt,b4⟩;have o:Hid _:=a.out.trans (b4.mono a.out.size);have L:Hid _:=K;have M:Hid _:=J.out.below b4 zn
 have HA:Hid (∀ k,A.has k→w.heap.size≤k):=fun k hk=>by
  have h1:=a.out.size;rcases hk with e|e|e|e|e<;>omega
 go_wp2_with fail;refine Calls.mono (T.out _) ?_;rintro e w5 ⟨o5,p,rfl,N,-,O⟩;have s:Hid _:=o.out.trans (O.mono o.out.size);have P:Hid _:=L.out.below O zn;have Y:Hid (∀ _:True,_):=fun _=>znc r x (Rd.newS n) (krs 1) 1 7 o5 p w5 (M.out.below O zn) C.out N Rz.fe11
 go_wp2_with fail;refine Calls.mono (Y.out trivial) ?_;rintro e w6 ⟨q,rfl,Z⟩;have Q:Hid _:=s.out.trans (Z.mono s.out.size);have R:Hid _:=P.out.below Z zn;go_wp2_with fail;refine bodyPost_ret (zck rfl _ _) rfl ?_;exact⟨A,q,rfl,R.out,HA.out,Q.out⟩
end Rv
namespace Rz
open Go.RowKit Go.Lib Go.Shelf
open Rc Rq
open Rw (Rf fcv fc zaB Pp PAt PgAt okP encS encE pz gv Pg rpp pB gcs zbF decP decE)
open Rv (FB zab zaS Vlt Vs Pl Vok Hon zaw cf take zbT blk newV krs)
open Rd (pt St Ok)
theorem zfC {e:Func} {p:Tmp} (h:e.results=#[.cell p 49]) (c:Array Value) (w:World) (g:Nat) (a b:Value) {t:TypeId}
  (i:c.getD p undef=.pointer (some ⟨g,0,none⟩)) (f:w.heap[g]? =some (.cells #[a,b] t (0,0))):(results e c).run Tryz.prog w=.ok (.agg #[a,b]) w:=by
 have j:w.cell? ⟨g,0,none⟩=some a:=by rw[zr f];rfl
 have k:w.cell? ⟨g,1,none⟩=some b:=by rw[zr f];rfl
 simp[results,h,(by simpa using i),asAddr,go_sem,j,k]
theorem zlW (l:List Rw) (o:Option Addr) (a:Nat) (w:World) (c:zac w o a l):
  Calls Tryz.prog 14 #[.slice o l.length a] w fun e h=>e=.returned (.slice o (l.take 24).length a)∧h=w:=by
 obtain⟨m,d⟩:∃ m,(l.take 24).length=m:=⟨_,rfl⟩;have f:m=min 24 l.length:=by rw[←d,List.length_take]
 rw[d];have i:=c.1;have b:(if(24:Int)<(l.length:Int) then(24:Int) else(l.length:Int))=(m:Int):=by split<;>omega
 have g:=fun w=>zmm o l.length a m w (by omega) c.2.2.1
 clear c d f i;go_enter Tryz.func14,Tryz.ntmps14
 go_wp2_with (refine zmv rfl 3 3 (.tmp 5) (.const (.int .i64 24)) rfl rfl rfl b ?_)
 go_ret;exact⟨rfl,rfl⟩
theorem zp8 {l:List Rw} {o:Option Addr} {c:Nat} {w:World} (h:zac w o c l):zac w o c (l.take 24):=by
 refine⟨by rw[List.length_take];have:=h.1;omega,h.2.1,h.2.2.1,?_,fun k=>?_⟩
 ·have n:∀ m:List Rw,(m.flatMap rc).length=m.length*4:=fun m=>by
   induction m with
   |nil=>rfl
   |cons a t q=>rw[List.flatMap_cons,List.length_append,q,List.length_cons];simp[rc];omega
  exact n _
 ·obtain⟨b,d,e,f,r⟩:=h.2.2.2.2 (by rw[List.length_take] at k;omega)
  refine⟨b,d,e,f,fun j u i=>r j u ?_⟩;have:l.flatMap rc=(l.take 24).flatMap rc++(l.drop 24).flatMap rc:=by rw[←List.flatMap_append,List.take_append_drop]
  rw[this,List.getElem?_append_left (List.getElem?_eq_some_iff.1 i).1];exact i
theorem znu (l:List Sv) (r:Rf) (t:ByteArray) (d:List Sv) (u:l=d++[⟨t,r⟩]) (o:Option Addr) (f:Nat) (w:World) (h:SvAt w o f l):
  Calls Tryz.prog 22 #[.slice o l.length f] w fun e x=>e=.returned (fcv r)∧Below w.heap.size w x:=by
 have a:l.length=d.length+1:=by rw[u];simp
 have g:=Nat.le_trans h.1 h.2.1;obtain⟨k,c⟩:∃ k,w.alloc (.cells #[.int .u32 0,.string ⟨#[]⟩] 49)=k:=⟨_,rfl⟩;have v:Below w.heap.size w k:=by rw[←c];exact zaa _ _
 have y0:FB w.heap.size 0 ⟨#[]⟩ k:=by rw[←c];exact zaS w
 obtain⟨b,y,rfl,z,m,q,s⟩:=(h.below v zn).one (i:=d.length) (by omega);have hs:sat l d.length=⟨t,r⟩:=by unfold sat;rw[u];simp
 rw[hs] at m q s;obtain⟨G,H,I,J⟩:=y0.facts;obtain⟨A,B⟩:=y0.set (r.p:Int) r.t;have C:Hid _:=A;have D:Hid _:=v.trans (B _ zn);obtain⟨n,E⟩:∃ n,d.length=n:=⟨_,rfl⟩;obtain⟨L,F⟩:∃ L,l.length=L:=⟨_,rfl⟩;rw[E] at m q s a;simp only[maxLen] at g
 have j:Hid _:=c;go_enter Tryz.func22,Tryz.ntmps22
 go_wp2_with (first|(rw[j.out];clear j))
 refine bodyPost_ret (zfC rfl _ _ _ _ _ rfl C.out) rfl ?_;exact⟨rfl,D.out⟩
open Rw (Rf encS encE Pp)
open Rv (zaw cf)
theorem page_kn {σ:Type} {f:ByteArray→Option Rf} (pl:Pm σ) (s:σ) {P:Pp} (h:(zaC (hadP f noP) () P).e=0):zaC (hadP f pl) s P=⟨s,(zaC (hadP f noP) () P).ys,0,(zaC (hadP f noP) () P).r⟩:=by
 unfold zaC at h ⊢;by_cases a:encE P=0
 ·rw[if_pos a] at h ⊢
  rw[if_pos a];cases b:f (encS P) with
  |none=>
   have e1:hadP f noP () (encS P)=((zf,61),()):=by unfold hadP;rw[b];rfl
   rw[e1] at h;exact absurd (show(61:Int)=0 from h) (by decide)
  |some r=>
   have e1:hadP f noP () (encS P)=((r,0),()):=by unfold hadP;rw[b]
   have c:hadP f pl s (encS P)=((r,0),s):=by unfold hadP;rw[b]
   rw[e1,c];rfl
 ·rw[if_neg a] at h
  exact absurd h a
theorem leaves_kn {σ:Type} {f:ByteArray→Option Rf} (pl:Pm σ) (s:σ) (l:List Rw):∀ (i:Nat) (next:Rf),(zal (hadP f noP) l i () next).e=0→zal (hadP f pl) l i s next=⟨s,(zal (hadP f noP) l i () next).ys,0,(zal (hadP f noP) l i () next).r⟩
 |0,_,_=>rfl
 |i+1,next,h=>by
  unfold zal Gr.then at h ⊢;by_cases a:(zaC (hadP f noP) () (za2 (piece l i) next)).e=0
  ·rw[if_pos a] at h ⊢
   rw[page_kn pl s a,if_pos rfl];simp only at h ⊢;rw[leaves_kn pl s l i _ h]
  ·rw[if_neg a] at h
   exact absurd h a
theorem kids_kn {σ:Type} (s:σ) (F:σ→List Rw→Gr σ) (G:Unit→List Rw→Gr Unit):∀ (a:List (List Rw)) (rs:List Rf),(∀ m∈a,(G () m).e=0→F s m=⟨s,(G () m).ys,0,(G () m).r⟩)→(zan G a () rs).1.e=0→
  zan F a s rs=(⟨s,(zan G a () rs).1.ys,0,(zan G a () rs).1.r⟩,(zan G a () rs).2)∧∀ m∈a,(G () m).e=0
 |[],_,_,_=>⟨rfl,fun _ h=>(by cases h)⟩
 |m::a,rs,d,h=>by
  rw[zbz G] at h ⊢;by_cases b:(G () m).e=0
  ·rw[if_pos b] at h ⊢
   obtain⟨f,g⟩:=kids_kn s F G a (rs++[(G () m).r]) (fun x c=>d x (List.mem_cons.2 (.inr c))) h;refine⟨?_,fun x c=>?_⟩
   ·rw[zbz F,d m (List.mem_cons.2 (.inl rfl)) b,if_pos rfl]
    simp only;rw[f]
   ·rcases List.mem_cons.1 c with rfl|c
    ·exact b
    ·exact g x c
  ·rw[if_neg b] at h
   exact absurd h b
theorem node_kn {σ:Type} {f:ByteArray→Option Rf} (pl:Pm σ) (s:σ):∀ (d:Nat) (l:List Rw),(zad (hadP f noP) d () l).e=0→zad (hadP f pl) d s l=⟨s,(zad (hadP f noP) d () l).ys,0,(zad (hadP f noP) d () l).r⟩
 |0,_,_=>rfl
 |d+1,l,h=>by
  unfold zad at h ⊢;by_cases a:leaf l=true
  ·rw[if_pos a] at h ⊢
   rw[if_pos a];exact leaves_kn pl s l _ _ h
  ·rw[if_neg a] at h ⊢
   rw[if_neg a];by_cases b:(zan (zad (hadP f noP) d) (zao l) () []).1.e=0
   ·rw[if_pos b] at h ⊢
    rw[(kids_kn s (zad (hadP f pl) d) (zad (hadP f noP) d) (zao l) [] (fun m _ c=>node_kn pl s d m c) b).1,if_pos rfl];simp only at h ⊢;rw[page_kn pl s h]
   ·rw[if_neg b] at h
    exact absurd h b
theorem kid_kn {f:ByteArray→Option Rf} {d:Nat} {l:List Rw} (a:leaf l=false) (h:(zad (hadP f noP) (d+1) () l).e=0):∀ m∈zao l,(zad (hadP f noP) d () m).e=0:=by
 unfold zad at h;rw[if_neg (by rw[a];decide)] at h;by_cases b:(zan (zad (hadP f noP) d) (zao l) () []).1.e=0
 ·exact(kids_kn () (zad (hadP f noP) d) (zad (hadP f noP) d) (zao l) [] (fun m _ c=>by rw[node_kn noP () d m c]) b).2
 ·rw[if_neg b] at h
  exact absurd h b
theorem kids_same {σ:Type} (F G:σ→List Rw→Gr σ):∀ (a:List (List Rw)) (s:σ) (rs:List Rf),(∀ m∈a,∀ s,F s m=G s m)→zan F a s rs=zan G a s rs
 |[],_,_,_=>rfl
 |m::a,s,rs,h=>by
  rw[zbz F,zbz G,h m (List.mem_cons.2 (.inl rfl)) s];split
  ·rw[kids_same F G a _ _ fun x b=>h x (List.mem_cons.2 (.inr b))]
  ·rfl
theorem node_deep {σ:Type} (pl:Pm σ):∀ (d:Nat) (s:σ) (l:List Rw),On l→lev l<d→zad pl (d+1) s l=zad pl d s l
 |0,_,_,_,h=>absurd h (Nat.not_lt_zero _)
 |d+1,s,l,b,h=>by
  rw[zad,zad];cases a:leaf l with
  |true=>rfl
  |false=>
   obtain⟨-,n,c⟩:=zda a
   rw[kids_same (zad pl (d+1)) (zad pl d) (zao l) s [] fun m e s=>by
    obtain⟨-,q,-,rfl⟩:=za7 e;exact node_deep pl d s _ (b.part q) (by have:=zhI b c q;omega)]
def Nw (s:Sx) (g:Gr Sx) (c:Nat):Prop:=(∃ m,Sq s m g.s∧m.length≤c)∧(g.e=110→cf g.s.v.tk g.s.t.n=0)
theorem Nw.pok {s:Sx} {g:Gr Sx} {c:Nat} (h:Nw s g c):Pok g.s:=by
 obtain⟨⟨m,h1,-⟩,-⟩:=h;exact h1.pok
theorem Nw.more {s:Sx} {g:Gr Sx} {c c':Nat} (h:Nw s g c) (hc:c≤c'):Nw s g c':=by
 obtain⟨⟨m,h1,h2⟩,h3⟩:=h;exact⟨⟨m,h1,Nat.le_trans h2 hc⟩,h3⟩
theorem Nw.none {s:Sx} (h:Pok s) (ys:List Sv) (r:Rf):Nw s ⟨s,ys,0,r⟩ 0:=⟨⟨[],Sq.refl h,Nat.le_refl _⟩,fun e=>absurd (show(0:Int)=110 from e) (by decide)⟩
theorem Nw.seq {s:Sx} {g h:Gr Sx} {c c':Nat} (hg:Nw s g c) (hh:Nw g.s h c') (ys:List Sv) (r:Rf):Nw s ⟨h.s,ys,h.e,r⟩ (c+c'):=by
 obtain⟨⟨m,h1,h2⟩,-⟩:=hg;obtain⟨⟨k,k1,k2⟩,k3⟩:=hh;exact⟨⟨m++k,h1.trans k1,by rw[List.length_append];omega⟩,k3⟩
theorem page_nw {Kt:Nat→Int} {f:ByteArray→Option Rf} {s:Sx} (h:Pok s) (P:Pp) (i:(encE P)≠110):Nw s (zaC (hadP f (svP Kt)) s P) 1:=by
 have c:=zcX P;unfold zaC;by_cases d:encE P=0
 ·rw[if_pos d]
  cases g:f (encS P) with
  |some r=>
   have e1:hadP f (svP Kt) s (encS P)=((r,0),s):=by unfold hadP;rw[g]
   rw[e1,if_pos rfl];exact(Nw.none h _ _).more (Nat.zero_le _)
  |none=>
   have e0:hadP f (svP Kt) s (encS P)=svP Kt s (encS P):=by unfold hadP;rw[g]
   rw[e0];cases b:zaw s.v.tk s.t.n with
   |none=>
    rw[zlA Kt b,if_neg (show ¬(110:Int)=0 from by decide)];exact⟨⟨[],Sq.refl h,Nat.zero_le _⟩,fun _=>zjq b⟩
   |some p=>
    obtain⟨e1,-⟩:=zhv Kt h c b;have a:=zlB Kt h c b;rw[e1] at a ⊢;rw[if_pos rfl];exact⟨⟨[p],a,Nat.le_refl _⟩,fun e=>absurd e (show ¬(0:Int)=110 by decide)⟩
 ·rw[if_neg d]
  exact⟨⟨[],Sq.refl h,Nat.zero_le _⟩,fun e=>absurd e i⟩
theorem encE_110 (P:Pp):encE P≠110:=by
 unfold Rw.encE;split<;>decide
theorem leaves_nw {Kt:Nat→Int} {f:ByteArray→Option Rf} (l:List Rw):∀ (i:Nat) (s:Sx) (next:Rf),Pok s→Nw s (zal (hadP f (svP Kt)) l i s next) i
 |0,_,next,h=>Nw.none h _ next
 |i+1,s,next,h=>by
  have a:=page_nw (Kt:=Kt) (f:=f) h (za2 (piece l i) next) (encE_110 _);unfold zal Gr.then;split
  ·exact(a.seq (leaves_nw l i _ _ a.pok) _ _).more (by omega)
  ·exact a.more (by omega)
theorem kids_nw (F:Sx→List Rw→Gr Sx) (p:Nat→List Rw) (c:Nat→Nat):∀ (a:List Nat) (s:Sx) (rs:List Rf),Pok s→(∀ q∈a,∀ s,Pok s→Nw s (F s (p q)) (c q))→Nw s (zan F (a.map p) s rs).1 (a.map c).sum
 |[],_,_,h,_=>Nw.none h _ _
 |q::a,s,rs,h,d=>by
  have b:=d q (List.mem_cons.2 (.inl rfl)) s h;rw[List.map_cons,List.map_cons,List.sum_cons,zbz];split
  ·exact b.seq (kids_nw F p c a _ _ b.pok fun x e=>d x (List.mem_cons.2 (.inr e))) _ _
  ·exact b.more (Nat.le_add_right _ _)
theorem filter_erase (p:Rw→Bool):∀ (l:List Rw) (i:Nat) (k:i<l.length),(p l[i]=false→(l.eraseIdx i).filter p=l.filter p)∧(p l[i]=true→∃ j,j<(l.filter p).length∧(l.eraseIdx i).filter p=(l.filter p).eraseIdx j)
 |[],_,h=>absurd h (Nat.not_lt_zero _)
 |a::l,0,_=>⟨fun h=>by simp only[List.getElem_cons_zero] at h;simp[h],fun h=>by simp only[List.getElem_cons_zero] at h;exact⟨0,by simp[h],by simp[h]⟩⟩
 |a::l,i+1,h=>by
  obtain⟨c,g⟩:=filter_erase p l i (by simpa using h);simp only[List.getElem_cons_succ,List.eraseIdx_cons_succ];refine⟨fun e=>?_,fun e=>?_⟩
  ·by_cases b:p a=true
   ·rw[List.filter_cons_of_pos b,List.filter_cons_of_pos b,c e]
   ·rw[List.filter_cons_of_neg b,List.filter_cons_of_neg b,c e]
  ·obtain⟨j,d,f⟩:=g e
   by_cases b:p a=true
   ·exact⟨j+1,by rw[List.filter_cons_of_pos b];simpa using d,by rw[List.filter_cons_of_pos b,List.filter_cons_of_pos b,f];rfl⟩
   ·exact⟨j,by rw[List.filter_cons_of_neg b];exact d,by rw[List.filter_cons_of_neg b,List.filter_cons_of_neg b,f]⟩
theorem sum_none (q0 C:Nat):∀ (ms:List Nat),q0 ∉ ms→(ms.map fun q=>if q=q0 then C else 0).sum=0
 |[],_=>rfl
 |a::ms,h=>by
  rw[List.map_cons,List.sum_cons,if_neg fun e=>h (List.mem_cons.2 (.inl e.symm)),sum_none q0 C ms fun e=>h (List.mem_cons.2 (.inr e))]
theorem sum_one (b:Nat→Bool) (d C:Nat):((([0,1,2,3]:List Nat).filter b).map fun q=>if q=d then C else 0).sum≤C:=by
 have h:∀ (c:List Nat),c.Pairwise (·≠·)→(c.map fun q=>if q=d then C else 0).sum≤C:=fun c=>by
  induction c with
  |nil=>intro _;exact Nat.zero_le _
  |cons a c i=>
   intro j;obtain⟨k,l⟩:=List.pairwise_cons.1 j;rw[List.map_cons,List.sum_cons];by_cases e:a=d
   ·rw[if_pos e,sum_none d C c fun m=>k _ m e]
    exact Nat.le_refl _
   ·rw[if_neg e,Nat.zero_add]
    exact i l
 exact h _ (List.Pairwise.filter _ (by decide))
theorem lev_erase {l:List Rw} (d:On l) (i:Nat):On (l.eraseIdx i)∧lev (l.eraseIdx i)≤lev l:=by
 have hs:=List.eraseIdx_sublist l i;have b:On (l.eraseIdx i):=fun r c=>d r (hs.subset c)
 refine⟨b,(zeZ b _).2 fun r c=>?_⟩;have e:=(zeZ d (lev l)).1 zn
 have j:∀ m:List Rw,m≠[]→∃ r∈m,x0 m=r.x∧y0 m=r.y:=fun m k=>by
  cases m with
  |nil=>exact absurd rfl k
  |cons a m=>exact⟨a,List.mem_cons.2 (.inl rfl),rfl,rfl⟩
 obtain⟨a,o,e1,p⟩:=j (l.eraseIdx i) (List.ne_nil_of_mem c);have g:=e r (hs.subset c);have h:=e a (hs.subset o);rw[e1,p];exact⟨h.1.symm.trans g.1,h.2.symm.trans g.2⟩
theorem wq_flr {n x y u v:Nat} (h1:flr x n=flr u n) (h2:flr y n=flr v n):wq n x y=wq n u v:=by
 have d:∀ a b,flr a n=flr b n→a/2 ^ n=b/2 ^ n:=fun a b h=>by
  unfold flr at h;exact Nat.eq_of_mul_eq_mul_right (Nat.two_pow_pos n) h
 unfold wq;rw[d x u h1,d y v h2]
theorem less_nw {Kt:Nat→Int} {f:ByteArray→Option Rf}:∀ (d:Nat) (l:List Rw),On l→lev l<d→(zad (hadP f noP) d () l).e=0→∀ (i:Nat),i<l.length→∀ s,Pok s→
  Nw s (zad (hadP f (svP Kt)) d s (l.eraseIdx i)) (max 1 (l.length - 4))
 |0,_,_,h,_,_,_,_,_=>absurd h (Nat.not_lt_zero _)
 |d+1,l,N,hd,hk,i,C,s,hs=>by
  obtain⟨D,a2⟩:=lev_erase N i;have E:(l.eraseIdx i).length=l.length - 1:=by rw[List.length_eraseIdx,if_pos C]
  cases w:leaf (l.eraseIdx i) with
  |true=>
   rw[zad,if_pos w];refine(leaves_nw _ _ s zf hs).more ?_;unfold npc;omega
  |false=>
   obtain⟨X,n',a3⟩:=zda w;obtain⟨n,O⟩:∃ n,lev l=n+1:=⟨lev l - 1,by omega⟩
   have hl:leaf l=false:=by
    unfold leaf;rw[decide_eq_false_iff_not];omega
   have z:=kid_kn hl hk;have B:∀ q,Rq.part l q=l.filter fun r=>wq n r.x r.y==q:=fun q=>by unfold Rq.part;rw[O,Nat.add_sub_cancel]
   obtain⟨b,t⟩:∃ q,wq n l[i].x l[i].y=q:=⟨_,rfl⟩
   have Y:(Rq.part l b).length<l.length:=by
    refine Nat.lt_of_le_of_ne (ze0 l b) fun e=>?_
    have h2:=zdy N O
    have hz:∀ q,q≠b→Rq.part l q=[]:=fun q k=>by
     have o:∀ r∈l,(wq n r.x r.y==b)=true:=by
      rw[B b] at e;exact List.length_filter_eq_length_iff.1 e
     rw[B q,List.filter_eq_nil_iff];intro r P;have:=o r P;rw[beq_iff_eq] at this;rw[this,beq_iff_eq];exact fun e=>k e.symm
    have a4:(zao l).length≤1:=by
     rw[kids_qs,List.length_map];unfold qs
     have hb:∀ q∈([0,1,2,3]:List Nat),(!(Rq.part l q).isEmpty)=true→(q==b)=true:=fun q _ h=>by
      by_cases c:q=b
      ·rw[c,beq_iff_eq]
      ·rw[hz q c] at h;exact absurd h (by decide)
     have Q:(([0,1,2,3]:List Nat).filter fun q=> !(Rq.part l q).isEmpty).length≤(([0,1,2,3]:List Nat).filter fun q=>q==b).length:=by
      simp only[←List.countP_eq_length_filter];exact List.countP_mono_left fun q k h=>hb q k h
     refine Nat.le_trans Q ?_;rw[←List.countP_eq_length_filter];show List.count b [0,1,2,3]≤1;exact List.nodup_iff_count.1 (by decide) b
    omega
   by_cases hE:lev (l.eraseIdx i)=lev l
   ·-- a5 Z F: G S is H G
    have I:∀ q,Rq.part (l.eraseIdx i) q=(l.eraseIdx i).filter fun r=>wq n r.x r.y==q:=fun q=>by unfold Rq.part;rw[hE,O,Nat.add_sub_cancel]
    have u:∀ q,q≠b→Rq.part (l.eraseIdx i) q=Rq.part l q:=fun q k=>by
     rw[I,B];exact(filter_erase _ l i C).1 (by rw[t,beq_eq_false_iff_ne];exact fun e=>k e.symm)
    obtain⟨j,v,A⟩:=(filter_erase (fun r=>wq n r.x r.y==b) l i C).2 (by rw[t,beq_iff_eq]);rw[←B b] at v A;rw[←I b] at A
    have R:=kids_nw (zad (hadP f (svP Kt)) d) (Rq.part (l.eraseIdx i)) (fun q=>if q=b then max 1 ((Rq.part l b).length - 4) else 0) (qs (l.eraseIdx i)) s [] hs fun q k s' J=>by
     by_cases c:q=b
     ·rw[if_pos c,c,A]
      have K:Rq.part l b∈zao l:=by
       rw[kids_qs];refine List.mem_map.2 ⟨b,?_,rfl⟩;unfold qs;rw[List.mem_filter];refine⟨?_,?_⟩
       ·have:=(qs_lt k).1
        have:b=0∨b=1∨b=2∨b=3:=by omega
        rcases this with h|h|h|h<;>rw[h]<;>decide
       ·have:Rq.part l b≠[]:=fun e=>by rw[e] at v;exact absurd v (Nat.not_lt_zero _)
        simpa using this
      exact less_nw d (Rq.part l b) (N.part b) (by have:=zhI N O b;omega) (z _ K) j v s' J
     ·rw[if_neg c,u q c]
      have K:Rq.part l q∈zao l:=by
       rw[kids_qs];refine List.mem_map.2 ⟨q,?_,rfl⟩;unfold qs at k ⊢;rw[List.mem_filter] at k ⊢;rw[u q c] at k;exact k
      rw[node_kn (svP Kt) s' d _ (z _ K)];exact Nw.none J _ _
    rw[←kids_qs] at R;have a0:((qs (l.eraseIdx i)).map fun q=>if q=b then max 1 ((Rq.part l b).length - 4) else 0).sum≤max 1 ((Rq.part l b).length - 4):=sum_one _ b _;rw[zad,if_neg (by rw[w];decide)];split
    ·have hP:=page_nw (Kt:=Kt) (f:=f) R.pok (zaX (l.eraseIdx i) (zan (zad (hadP f (svP Kt)) d) (zao (l.eraseIdx i)) s []).2) (encE_110 _)
     exact(R.seq hP _ _).more (by omega)
    ·obtain⟨⟨m,m1,m2⟩,m3⟩:=R
     exact⟨⟨m,m1,by omega⟩,m3⟩
   ·-- a L F: G S is a1 is left
    have o:=(zeZ D n).1 (by omega);obtain⟨q,k⟩:∃ q,wq n (x0 (l.eraseIdx i)) (y0 (l.eraseIdx i))=q:=⟨_,rfl⟩
    have U:∀ r∈l.eraseIdx i,(wq n r.x r.y==q)=true:=fun r P=>by
     rw[beq_iff_eq,←k];exact(wq_flr (o r P).1 (o r P).2).symm
    have p:=List.filter_eq_self.2 U
    have V:b≠q:=fun e=>by
     obtain⟨j,v,A⟩:=(filter_erase (fun r=>wq n r.x r.y==q) l i C).2 (by rw[t,beq_iff_eq];exact e);rw[←B q] at v A;rw[p] at A;have W:(l.eraseIdx i).length=((Rq.part l q).eraseIdx j).length:=by rw[A]
     rw[E,List.length_eraseIdx,if_pos v,←e] at W;omega
    have M:Rq.part l q=l.eraseIdx i:=by
     rw[B q,←(filter_erase (fun r=>wq n r.x r.y==q) l i C).1 (by rw[t,beq_eq_false_iff_ne];exact V)];exact p
    have K:Rq.part l q∈zao l:=by
     have a6:q<4:=by rw[←k];unfold wq;omega
     rw[kids_qs];refine List.mem_map.2 ⟨q,?_,rfl⟩;unfold qs;rw[List.mem_filter];refine⟨?_,?_⟩
     ·have:q=0∨q=1∨q=2∨q=3:=by omega
      rcases this with h|h|h|h<;>rw[h]<;>decide
     ·have:Rq.part l q≠[]:=fun e=>by rw[←M,e] at X;exact absurd X (Nat.not_lt_zero _)
      simpa using this
    have Q:=node_kn (svP Kt) s d _ (z _ K);rw[M] at Q;rw[node_deep _ d s _ D (by omega),Q];exact(Nw.none hs _ _).more (Nat.zero_le _)
end Rz
end Go.Proofs.YtokfnghckpgjmaaGreatDoor
