/- Rows sorted by their Ids. -/
import Derived.Test.YtokfnghckpgjmaaGreatDoorPHgx
import Derived.Test.YtokfnghckpgjmaaGreatDoorQBA
import Derived.Test.YtokfnghckpgjmaaGreatDoorPBC
import Derived.Test.YtokfnghckpgjmaaGreatDoorPAb
set_option maxRecDepth 100000
set_option maxHeartbeats 4000000
namespace Go.Proofs.YtokfnghckpgjmaaGreatDoor
namespace Rz
open Go.RowKit Go.Lib Go.Shelf
open Rc Rq
def rid (r:Rw):Nat:=r.id
def ltI (a b:Rw):Bool:=decide (rid a<rid b)
theorem zgD (x:Nat) (w:World):Calls Tryz.prog 88 #[.int .u64 (x:Int)] w fun e w'=>e=.returned (.bool false)∧w'=w:=by
 go_enter Tryz.func88,Tryz.ntmps88;go_wp2_with fail;go_ret;exact⟨rfl,rfl⟩
def cmpI (x y:Nat):Int:=if x<y then -1 else if y<x then 1 else 0
theorem zhz (x y:Nat) (w:World):Calls Tryz.prog 62 #[.int .u64 (x:Int),.int .u64 (y:Int)] w fun e w'=>e=.returned (.int .i64 (cmpI x y))∧w'=w:=by
 have HX:Hid (∀ w,Calls Tryz.prog 88 #[.int .u64 (x:Int)] w fun e w'=>e=.returned (.bool false)∧w'=w):=fun w=>zgD x w
 have HY:Hid (∀ w,Calls Tryz.prog 88 #[.int .u64 (y:Int)] w fun e w'=>e=.returned (.bool false)∧w'=w):=fun w=>zgD y w
 go_enter Tryz.func62,Tryz.ntmps62;go_wp2_with fail;refine Calls.mono (HX.out w) ?_;rintro e w1 ⟨rfl,rfl⟩;go_wp2_with fail;refine Calls.mono (HY.out w1) ?_;rintro e w2 ⟨rfl,rfl⟩;by_cases h1:x<y
 ·have q1:(x:Int)<(y:Int):=by omega
  have HE:Hid (cmpI x y=-1):=if_pos h1;clear h1;go_wp2_with fail;go_ret;exact⟨by rw[HE.out];rfl,rfl⟩
 ·have q1:¬(x:Int)<(y:Int):=by omega
  by_cases h2:y<x
  ·have q2:(y:Int)<(x:Int):=by omega
   have HE:Hid (cmpI x y=1):=by refine(?_:cmpI x y=1);unfold cmpI;rw[if_neg h1,if_pos h2]
   clear h1 h2;go_wp2_with fail;go_ret;exact⟨by rw[HE.out];rfl,rfl⟩
  ·have q2:¬(y:Int)<(x:Int):=by omega
   have HE:Hid (cmpI x y=0):=by refine(?_:cmpI x y=0);unfold cmpI;rw[if_neg h1,if_neg h2]
   clear h1 h2;go_wp2_with fail;go_ret;exact⟨by rw[HE.out];rfl,rfl⟩
theorem zlM (a b:Rw) (w:World):Calls Tryz.prog 61 #[rv a,rv b] w fun e w'=>e=.returned (.int .i64 (cmpI a.id b.id))∧Below w.heap.size w w':=by
 obtain⟨W0,hW0⟩:∃ W0,(w.alloc (.cells #[.int .u64 (a.id:Int),.int .u32 (a.x:Int),.int .u32 (a.y:Int),.string a.v] 79)).alloc (.cells #[.int .u64 (b.id:Int),.int .u32 (b.x:Int),.int .u32 (b.y:Int),.string b.v] 79)=W0:=⟨_,rfl⟩;have b1:=zaa w (.cells #[.int .u64 (a.id:Int),.int .u32 (a.x:Int),.int .u32 (a.y:Int),.string a.v] 79);have b2:=zaa (w.alloc (.cells #[.int .u64 (a.id:Int),.int .u32 (a.x:Int),.int .u32 (a.y:Int),.string a.v] 79)) (.cells #[.int .u64 (b.id:Int),.int .u32 (b.x:Int),.int .u32 (b.y:Int),.string b.v] 79);have s1:(w.alloc (.cells #[.int .u64 (a.id:Int),.int .u32 (a.x:Int),.int .u32 (a.y:Int),.string a.v] 79)).heap.size=w.heap.size+1:=by simp
 have g1:=zq w (.cells #[.int .u64 (a.id:Int),.int .u32 (a.x:Int),.int .u32 (a.y:Int),.string a.v] 79);have g2:=zq (w.alloc (.cells #[.int .u64 (a.id:Int),.int .u32 (a.x:Int),.int .u32 (a.y:Int),.string a.v] 79)) (.cells #[.int .u64 (b.id:Int),.int .u32 (b.x:Int),.int .u32 (b.y:Int),.string b.v] 79);rw[hW0,s1] at b2 g2;have h1:=(b2.block w.heap.size (by omega)).trans g1;have c0:=(zdo h1).1;have d0:=(zdo g2).1;have l0:w.heap.size<W0.heap.size:=(zi h1).1;have l1:w.heap.size+1<W0.heap.size:=(zi g2).1;have HB:Hid (Below w.heap.size w W0):=b1.trans (b2.mono (by omega));have HW0:Hid _:=hW0;have HC:Hid (∀ _:True,_):=fun _=>zhz a.id b.id W0
 obtain⟨ai,ax,ay,av⟩:=a;obtain⟨bi,bx,by',bv⟩:=b;simp only at c0 d0 HC;generalize cmpI ai bi=c at*
 clear hW0 b1 b2 s1 g1 g2 h1;go_enter Tryz.func61,Tryz.ntmps61
 go_wp2_with (first|(rw[HW0.out];clear HW0))
 refine Calls.mono (HC.out trivial) ?_;rintro e w1 ⟨rfl,hw⟩;have hw':=hw.symm;clear hw;subst hw';clear HC;go_wp2_with fail;go_ret;exact⟨rfl,HB.out⟩
theorem zp6 (w0:World):Cmp w0 (fun _=>True) ltI 61 #[] where
 eg:=enters_of Tryz.func61 (by kernel_rfl) rfl
 calls:=fun W _ a b _ _=>(zlM a b W).mono fun e W' ⟨h1,h2⟩=>⟨cmpI a.id b.id,h1,by
  unfold cmpI ltI rid;by_cases h:a.id<b.id
  ·rw[if_pos h,decide_eq_true h];rfl
  ·rw[if_neg h,decide_eq_false h]
   split<;>rfl,h2⟩
def ziu (N:Nat):Prop:=∀ (g z cap:Nat) (d:Array Rw) (w:World),d.size≤N→Ur w g z d→
 Calls Tryz.prog 60 #[.slice (some ⟨g,0,none⟩) d.size cap,.func (.func 61) #[] #[]] w fun e w'=>e=.returned (.tuple #[])∧(∃ d',Ur w' g z d'∧Srt rid 0 d.size d'∧Sort.PermIn 0 d.size d d')∧Bg g w w'
theorem zjn (w0:World) (g z cap a b:Nat) (d:Array Rw) (l:Int) (ha:a≤b) (hab:b - a≤12) (hb:b≤d.size) (hd:d.size≤1000000) (hg:w0.heap.size≤g) (w:World) (hW:Below w0.heap.size w0 w) (h:Ur w g z d):
  Calls Tryz.prog 86 #[.slice (some ⟨g,0,none⟩) d.size cap,.int .i64 (a:Int),.int .i64 (b:Int),.int .i64 l,.func (.func 61) #[] #[]] w fun e w'=>e=.returned (.tuple #[])∧Ur w' g z (Sort.insertionSort ltI d a b)∧Bg g w w':=by
 have HI:Hid (∀ _:True,_):=fun _=>zmF w0 (fun _=>True) ltI 61 #[] (zp6 w0) g z cap a b d (fun _ _=>trivial) ha hb hd w h hg hW
 have q1:(b:Int) - (a:Int)≤12:=by omega
 have q2:0≤(b:Int) - (a:Int):=by omega
 obtain⟨n,hn⟩:∃ n,d.size=n:=⟨_,rfl⟩;rw[hn] at HI ⊢;clear h hW hn;go_enter Tryz.func86,Tryz.ntmps86;go_wp2_with fail;refine wp_loop_rounds 1 ?_;rw[rounds_succ];go_wp2_with fail;refine Calls.mono (HI.out trivial) ?_;rintro e w1 ⟨rfl,u1,b1⟩;have U1:Hid _:=u1;have B1:Hid _:=b1;clear u1 b1;go_wp2_with fail;refine bodyPost_ret (results_none rfl _ _ _) rfl ?_;exact⟨rfl,U1.out,B1.out⟩
theorem zlN:ziu 12:=by
 intro g z cap d w hd h;obtain⟨w0,hw0,hg0⟩:∃ w0:World,Below w0.heap.size w0 w∧w0.heap.size≤g:=⟨{ w with heap:=#[] },⟨rfl,rfl,rfl,Nat.zero_le _,fun k hk=>absurd hk (Nat.not_lt_zero _)⟩,Nat.zero_le _⟩
 have HP:∀ l,Hid (Calls Tryz.prog 86 #[.slice (some ⟨g,0,none⟩) d.size cap,.int .i64 0,.int .i64 (d.size:Int),.int .i64 l,.func (.func 61) #[] #[]] w fun e w'=>e=.returned (.tuple #[])∧Ur w' g z (Sort.insertionSort ltI d 0 d.size)∧Bg g w w'):=
  fun l=>zjn w0 g z cap 0 d.size d l (by omega) (by omega) zn (by omega) hg0 w hw0 h
 have HL:Hid (∀ _:True,_):=fun _=>Tryz.bits_Len (d.size:Int) w (by omega) (by omega)
 have HS:Hid (Sort.PermIn 0 d.size d (Sort.insertionSort ltI d 0 d.size)∧Srt rid 0 d.size (Sort.insertionSort ltI d 0 d.size)):=zpd rid d 0 d.size (Nat.zero_le _) zn;obtain⟨n,hn⟩:∃ n,d.size=n:=⟨_,rfl⟩;rw[hn] at HP HL HS ⊢;have hu:IntKind.u64.wrap (n:Int)=(n:Int):=IntWalk.u64_in _ (by omega);clear h hw0 hg0;generalize Sort.insertionSort ltI d 0 n=d2 at HP HS;go_enter Tryz.func60,Tryz.ntmps60;go_wp2_with fail;refine Calls.mono (HL.out trivial) ?_;rintro e w1 ⟨rfl,rfl⟩;generalize ((Lib.bitLen (n:Int).toNat:Nat):Int)=l at*
 go_wp2_with fail;refine Calls.mono (HP l).out ?_;rintro e w2 ⟨rfl,u2,b2⟩;have U2:Hid _:=u2;have B2:Hid _:=b2;clear u2 b2;go_wp2_with fail;refine bodyPost_end (results_none rfl _ _ _) rfl ?_;exact⟨rfl,⟨_,U2.out,HS.out.2,HS.out.1⟩,B2.out⟩
theorem zni (o:Option Addr) (cap:Nat) (w:World):Calls Tryz.prog 121 #[.slice o 0 cap,.int .i64 0,.int .i64 0,.func (.func 61) #[] #[]] w fun e w'=>e=.returned (.tuple #[])∧w'=w:=by
 go_enter Tryz.func121,Tryz.ntmps121;go_wp2_with fail;refine wp_loop_rounds 1 ?_;rw[rounds_succ];go_wp2_with fail;refine bodyPost_end (results_none rfl _ _ _) rfl ?_;exact⟨rfl,rfl⟩
theorem znj (o:Option Addr) (cap:Nat) (l:Int) (w:World):Calls Tryz.prog 86 #[.slice o 0 cap,.int .i64 0,.int .i64 0,.int .i64 l,.func (.func 61) #[] #[]] w fun e w'=>e=.returned (.tuple #[])∧w'=w:=by
 go_enter Tryz.func86,Tryz.ntmps86;go_wp2_with fail;refine wp_loop_rounds 1 ?_;rw[rounds_succ];go_wp2_with fail;refine(zni o cap w).mono ?_;rintro e w1 ⟨rfl,rfl⟩;go_wp2_with fail;refine bodyPost_ret (results_none rfl _ _ _) rfl ?_;exact⟨rfl,rfl⟩
theorem zlO (o:Option Addr) (cap:Nat) (w:World):Calls Tryz.prog 60 #[.slice o 0 cap,.func (.func 61) #[] #[]] w fun e w'=>e=.returned (.tuple #[])∧w'=w:=by
 have HL:Hid (Calls Tryz.prog 87 #[.int .u64 0] w fun e w'=>e=.returned (.int .i64 0)∧w'=w):=Tryz.bits_Len 0 w (by omega) (by omega);go_enter Tryz.func60,Tryz.ntmps60;go_wp2_with fail;refine Calls.mono HL.out ?_;rintro e w1 ⟨rfl,rfl⟩;go_wp2_with fail;refine(znj o cap 0 w1).mono ?_;rintro e w2 ⟨rfl,rfl⟩;go_wp2_with fail;refine bodyPost_end (results_none rfl _ _ _) rfl ?_;exact⟨rfl,rfl⟩
open Rw (Rf fcv fc zaB Pp PAt PgAt okP encS encE pz gv Pg rpp pB gcs zbF decP decE)
open Rv (FB zab zaS)
def F6b (b x b2 x2:Nat) (y z:Sv) (w:World):Prop:=(w.cell? ⟨b,x,none⟩=some (.string y.t)∧w.cell? ⟨b,x+1,none⟩=some (.int .u32 (y.r.p:Int))∧w.cell? ⟨b,x+2,none⟩=some (.string y.r.t))∧w.cell? ⟨b2,x2,none⟩=some (.string z.t)∧w.cell? ⟨b2,x2+1,none⟩=some (.int .u32 (z.r.p:Int))∧w.cell? ⟨b2,x2+2,none⟩=some (.string z.r.t)
theorem zlP (l m:List Sv) (o:Option Addr) (cap:Nat) (o2:Option Addr) (cap2:Nat) (w:World) (hr:SvAt w o cap l) (hr2:SvAt w o2 cap2 m):
  Calls Tryz.prog 16 #[.slice o l.length cap,.slice o2 m.length cap2] w fun e w'=>e=.returned (.bool (eqL eqS l m))∧Below w.heap.size w w':=by
 have hmx:l.length≤maxLen:=Nat.le_trans hr.1 hr.2.1;by_cases hlm:l.length=m.length
 ·have HE0:Hid (eqL eqS l m=((l.zip m).all fun p=>eqS p.1 p.2)):=by
   refine(?_:eqL eqS l m=((l.zip m).all fun p=>eqS p.1 p.2));unfold eqL;simp[hlm]
  generalize eqL eqS l m=res at*
  have HL:Hid (l.length=m.length):=hlm;rw[←hlm];clear hlm;go_enter Tryz.func16,Tryz.ntmps16;go_wp2_with fail
  go_loopw [5] (fun i wr=>∃ k:Nat,k≤l.length∧i=.int .i64 (k:Int)∧((l.zip m).take k).all (fun p=>eqS p.1 p.2)=true∧Below w.heap.size w wr) (fun i _=>l.length - zam i)
  case atStart=>exact⟨0,by omega,rfl,by simp,Below.refl _ _⟩
  case round=>
   obtain⟨k,hk,rfl,hal,hb⟩:=hrel;have HA:Hid _:=hal;clear hal;by_cases hlt:k<l.length
   ·have hlt2:k<m.length:=by have:=HL.out;omega
    obtain⟨b,off,rfl,hbl,hc⟩:=(hr.below hb zn).one hlt;obtain⟨b2,off2,rfl,hbl2,hc2⟩:=(hr2.below hb zn).one hlt2;have q1:(k:Int)<(l.length:Int):=by omega
    have k0:(0:Int)≤(k:Int):=by omega
    have k1:(k:Int)+1≤9223372036854775807:=by simp only[maxLen] at hmx;omega
    have HSW:Hid (F6b b (off+k*3) b2 (off2+k*3) (sat l k) (sat m k) wr.drew):=⟨hc,hc2⟩;have HZT:Hid _:=zfa eqS (zbS hlt) (zbS hlt2);have HZF:Hid _:=zdT eqS (zbS hlt) (zbS hlt2);generalize sat l k=r at*
    generalize sat m k=r2 at*
    obtain⟨xt,⟨xp,xs⟩⟩:=r;obtain⟨yt,⟨yp,ys⟩⟩:=r2;have hnq:=znQ xt yt xp yp xs ys;have HB:Hid (Below w.heap.size w wr.drew):=hb.drew;obtain⟨eb,heb⟩:∃ eb,eqS ⟨xt,⟨xp,xs⟩⟩ ⟨yt,⟨yp,ys⟩⟩=eb:=⟨_,rfl⟩;have HEB:Hid (eqS ⟨xt,⟨xp,xs⟩⟩ ⟨yt,⟨yp,ys⟩⟩=eb):=heb;rw[heb] at hnq;clear hc hc2 hb heb;clear hlt2 hbl hbl2;go_wp2_with fail;refine wp_region_held (S:=F6b b (off+k*3) b2 (off2+k*3) ⟨xt,⟨xp,xs⟩⟩ ⟨yt,⟨yp,ys⟩⟩) (by kernel_rfl) ?_;change wpAnyH _ _ _ _ _ _ _ _ (World.drew _);refine plan [0,1,2,3,4,5,6,7,8] ?_
    iterate 9
     refine tkH (v:=?_) rfl ?_ HSW.out ?_;rotate_left
     ·rintro w ⟨⟨e1,e2,e3⟩,e5,e6,e7⟩;go_simp;try with_reducible rfl
     conv in(Act.put _ _ _)=>simp only[zL1,zL2,zL3,Act.put,zL4,zL5,zL6]
    refine plan0 ?_;refine wpAnyH_done (by kernel_rfl) ?_ _;cases eb
    ·simp only[Bool.not_false]
     clear hnq k1;go_wp2_with fail;go_ret;refine⟨?_,HB.out⟩;rw[HE0.out,HZF.out HEB.out];rfl
    ·simp only[Bool.not_true]
     clear hnq;go_wp2_with fail
     go_roundw
     case rel=>exact⟨k+1,by omega,by go_num,by rw[HZT.out,HA.out,HEB.out];rfl,HB.out⟩
     case measure=>simp[zam];omega
   ·obtain rfl:k=l.length:=by omega
    have q1:¬(l.length:Int)<(l.length:Int):=by omega
    have HB:Hid (Below w.heap.size w wr):=hb;clear hb;go_wp2_with fail;go_ret;refine⟨?_,HB.out⟩;rw[HE0.out];have:=HA.out;rw[List.take_of_length_le (by rw[List.length_zip];omega)] at this;rw[this];rfl
 ·have q0:((l.length:Int)==(m.length:Int))=false:=by simp;omega
  have HE0:Hid (eqL eqS l m=false):=by
   refine(?_:eqL eqS l m=false);unfold eqL;simp[hlm]
  go_enter Tryz.func16,Tryz.ntmps16;go_wp2_with fail;go_ret;rw[HE0.out];exact⟨by simp,Below.refl _ _⟩
theorem zdZ (l m:List Sv) (o:Option Addr) (cap:Nat) (o2:Option Addr) (cap2:Nat) (w:World) (hr:SvAt w o cap l) (hr2:SvAt w o2 cap2 m):
  Calls Tryz.prog 90 #[.slice o l.length cap,.slice o2 m.length cap2] w fun e w'=>e=.returned (.bool (eqL eqS l m))∧Below w.heap.size w w':=by
 have hmx:l.length≤maxLen:=Nat.le_trans hr.1 hr.2.1;by_cases hlm:l.length=m.length
 ·have HE0:Hid (eqL eqS l m=((l.zip m).all fun p=>eqS p.1 p.2)):=by
   refine(?_:eqL eqS l m=((l.zip m).all fun p=>eqS p.1 p.2));unfold eqL;simp[hlm]
  generalize eqL eqS l m=res at*
  have HL:Hid (l.length=m.length):=hlm;rw[←hlm];clear hlm;go_enter Tryz.func90,Tryz.ntmps90;go_wp2_with fail
  go_loopw [13] (fun i wr=>∃ k:Nat,k≤l.length∧i=.int .i64 (k:Int)∧((l.zip m).take k).all (fun p=>eqS p.1 p.2)=true∧Below w.heap.size w wr) (fun i _=>l.length - zam i)
  case atStart=>exact⟨0,by omega,rfl,by simp,Below.refl _ _⟩
  case round=>
   obtain⟨k,hk,rfl,hal,hb⟩:=hrel;have HA:Hid _:=hal;clear hal;by_cases hlt:k<l.length
   ·have hlt2:k<m.length:=by have:=HL.out;omega
    obtain⟨b,off,rfl,hbl,hc⟩:=(hr.below hb zn).one hlt;obtain⟨b2,off2,rfl,hbl2,hc2⟩:=(hr2.below hb zn).one hlt2;have q1:(k:Int)<(l.length:Int):=by omega
    have k0:(0:Int)≤(k:Int):=by omega
    have k1:(k:Int)+1≤9223372036854775807:=by simp only[maxLen] at hmx;omega
    have HSW:Hid (F6b b (off+k*3) b2 (off2+k*3) (sat l k) (sat m k) wr.drew):=⟨hc,hc2⟩;have HZT:Hid _:=zfa eqS (zbS hlt) (zbS hlt2);have HZF:Hid _:=zdT eqS (zbS hlt) (zbS hlt2);generalize sat l k=r at*
    generalize sat m k=r2 at*
    obtain⟨xt,⟨xp,xs⟩⟩:=r;obtain⟨yt,⟨yp,ys⟩⟩:=r2;have hnq:=znQ xt yt xp yp xs ys;have HB:Hid (Below w.heap.size w wr.drew):=hb.drew;obtain⟨eb,heb⟩:∃ eb,eqS ⟨xt,⟨xp,xs⟩⟩ ⟨yt,⟨yp,ys⟩⟩=eb:=⟨_,rfl⟩;have HEB:Hid (eqS ⟨xt,⟨xp,xs⟩⟩ ⟨yt,⟨yp,ys⟩⟩=eb):=heb;rw[heb] at hnq;clear hc hc2 hb heb;clear hlt2 hbl hbl2;go_wp2_with fail;refine wp_region_held (S:=F6b b (off+k*3) b2 (off2+k*3) ⟨xt,⟨xp,xs⟩⟩ ⟨yt,⟨yp,ys⟩⟩) (by kernel_rfl) ?_;change wpAnyH _ _ _ _ _ _ _ _ (World.drew _);refine plan [0,1,2,3,4,5,6,7,8] ?_
    iterate 9
     refine tkH (v:=?_) rfl ?_ HSW.out ?_;rotate_left
     ·rintro w ⟨⟨e1,e2,e3⟩,e5,e6,e7⟩;go_simp;try with_reducible rfl
     conv in(Act.put _ _ _)=>simp only[zL1,zL2,zL3,Act.put,zL4,zL5,zL6]
    refine plan0 ?_;refine wpAnyH_done (by kernel_rfl) ?_ _;cases eb
    ·simp only[Bool.not_false]
     clear hnq k1;go_wp2_with fail;go_ret;refine⟨?_,HB.out⟩;rw[HE0.out,HZF.out HEB.out];rfl
    ·simp only[Bool.not_true]
     clear hnq;go_wp2_with fail
     go_roundw
     case rel=>exact⟨k+1,by omega,by go_num,by rw[HZT.out,HA.out,HEB.out];rfl,HB.out⟩
     case measure=>simp[zam];omega
   ·obtain rfl:k=l.length:=by omega
    have q1:¬(l.length:Int)<(l.length:Int):=by omega
    have HB:Hid (Below w.heap.size w wr):=hb;clear hb;go_wp2_with fail;go_ret;refine⟨?_,HB.out⟩;rw[HE0.out];have:=HA.out;rw[List.take_of_length_le (by rw[List.length_zip];omega)] at this;rw[this];rfl
 ·have q0:((l.length:Int)==(m.length:Int))=false:=by simp;omega
  have HE0:Hid (eqL eqS l m=false):=by
   refine(?_:eqL eqS l m=false);unfold eqL;simp[hlm]
  go_enter Tryz.func90,Tryz.ntmps90;go_wp2_with fail;go_ret;rw[HE0.out];exact⟨by simp,Below.refl _ _⟩
def noP:Pm Unit:=fun s _=>((zf,61),s)
def noI:Unit→(Nat→Prop)→World→Prop:=fun _ F _=>∀ k,¬F k
theorem znk (t:ByteArray) (w:World):Calls Tryz.prog 89 #[.string t] w fun e w'=>e=.returned (.tuple #[fcv zf,.int .i64 61])∧Below w.heap.size w w':=by
 have y0:FB w.heap.size 0 ⟨#[]⟩ (w.alloc (.cells #[.int .u32 0,.string ⟨#[]⟩] 49)):=zaS w;have HY:Hid (FB w.heap.size 0 ⟨#[]⟩ (w.alloc (.cells #[.int .u32 0,.string ⟨#[]⟩] 49))):=y0;have HB:Hid (Below w.heap.size w (w.alloc (.cells #[.int .u32 0,.string ⟨#[]⟩] 49))):=zaa w _;clear y0;go_enter Tryz.func89,Tryz.ntmps89;go_wp2_with fail;refine bodyPost_ret (zab rfl _ _ _ _ _ _ rfl rfl HY.out) rfl ?_;exact⟨rfl,HB.out⟩
theorem zpe:Plb noP 89 #[] noI where
 eg:=enters_of Tryz.func89 (by kernel_rfl) rfl
 lt:=fun s F W h k hk=>(h k hk).elim
 keep:=fun s F W W' h _ _=>h
 small:=fun s t=>Nat.zero_lt_succ _
 call:=fun s F W t _ h=>(znk t W).mono fun e W' ⟨h1,h2⟩=>⟨h1,F,h,But.of_below h2,Grw.refl _ _ _⟩
def areG (pages:List Sv) (l:List Rw):Gr Unit:=zad (hadP (wh pages) noP) 32 () l
def areB (pages:List Sv) (l:List Rw):Bool:=zaG l&&(decide ((areG pages l).e=0)&&eqL eqS (outL (areG pages l)) pages)
theorem zpf (pages:List Sv) (l:List Rw) (o:Option Addr) (cap:Nat) (o2:Option Addr) (cap2:Nat) (w:World) (hp:SvAt w o cap pages) (hr:zac w o2 cap2 l) (hok:∀ r∈l,zbd r) (hs:∀ y∈pages,y.r.p<4294967296) (hl:pages.length≤100000):
  Calls Tryz.prog 63 #[.slice o pages.length cap,.slice o2 l.length cap2] w fun e w'=>e=.returned (.bool (areB pages l))∧Below w.heap.size w w':=by
 cases h0:zaG l with
 |false=>
  have HB:Hid (Calls Tryz.prog 36 #[.slice o2 l.length cap2] w fun e w'=>e=.returned (.tuple #[nv ⟨0,0,0,none,0,0,none,0,0⟩,.int .i64 80])∧Below w.heap.size w w'):=zhT l o2 cap2 w hr h0;have HA:Hid (areB pages l=false):=by refine(?_:_=_);unfold areB;rw[h0];rfl
  rw[HA.out];clear hp hr hok hs hl h0 HA;go_enter Tryz.func63,Tryz.ntmps63;go_wp2_with fail;refine Calls.mono HB.out ?_;rintro e w1 ⟨rfl,b1⟩;have HR:Hid (Below w.heap.size w (w1.alloc (.cells #[.int .u32 0,.int .u32 0,.int .i64 0,.slice none 0 0,.slice none 0 0] 73))):=b1.trans ((zaa w1 _).mono b1.size);clear b1 HB;go_wp2_with fail;go_ret;exact⟨rfl,HR.out⟩
 |true=>
  have HB:Hid (Calls Tryz.prog 36 #[.slice o2 l.length cap2] w fun e w'=>∃ n:Nv,e=.returned (.tuple #[nv n,.int .i64 0])∧zas (fun b=>w.heap.size≤b) 32 w' n l∧Below w.heap.size w w'):=zhU l o2 cap2 w hr h0;obtain⟨g,hg⟩:∃ g,areG pages l=g:=⟨_,rfl⟩;have HA:Hid (areB pages l=(decide (g.e=0)&&eqL eqS (outL g) pages)):=by refine(?_:_=_);unfold areB;rw[h0,hg];rfl
  have hlen:=(zbZ (hadP (wh pages) noP) 32 () l).1;rw[show zad (hadP (wh pages) noP) 32 () l=g from hg] at hlen;have hlm:=zdE 32 l (zbJ h0);have hl1000:=((zaH l).1 h0).1;have HP:Hid (SvAt w o cap pages∧pages.length≤100000∧On l∧(∀ r∈l,zbd r)∧l.length≤1000∧g.ys.length≤5000∧(∀ t r,wh pages t=some r→r.p<4294967296)∧zad (hadP (wh pages) noP) 32 () l=g):=⟨hp,hl,zbJ h0,hok,hl1000,by omega,zit hs,hg⟩;rw[HA.out];obtain⟨BB,hBB⟩:∃ BB,(decide (g.e=0)&&eqL eqS (outL g) pages)=BB:=⟨_,rfl⟩;have HBB:Hid ((decide (g.e=0)&&eqL eqS (outL g) pages)=BB):=hBB;rw[hBB];clear hp hr hok hs hl h0 HA hg hlen hlm hl1000 hBB;go_enter Tryz.func63,Tryz.ntmps63;go_wp2_with fail;refine Calls.mono HB.out ?_;rintro e w3 ⟨n,rfl,hN,b3⟩;have hN':=zfB hN;obtain⟨W5,hW5⟩:∃ W5,w3.alloc (ncs n)=W5:=⟨_,rfl⟩;have s5:W5.heap.size=w3.heap.size+1:=by rw[←hW5];simp
  have b35:Below w3.heap.size w3 W5:=by rw[←hW5];exact zaa w3 (ncs n)
  have e4:W5.heap[w3.heap.size]? =some (ncs n):=by rw[←hW5];exact zq w3 _
  have b25:Below w.heap.size w W5:=b3.trans (b35.mono b3.size);have hho:=zgv 89 #[] pages o cap HP.out.2.1 W5 (HP.out.1.below b25 zn);have HHo:Hid (Calls Tryz.prog 47 #[.slice o pages.length cap,.func (.func 89) #[] #[]] W5 fun e w'=>e=.returned (.func (.func 79) #[] #[.pointer (some ⟨W5.heap.size+2,0,none⟩),.pointer (some ⟨W5.heap.size,0,none⟩)])∧w'.heap[W5.heap.size]? =some (.cells #[.func (.func 89) #[] #[]] 63 (0,0))∧Wh w' (W5.heap.size+1) (wh pages)∧w'.heap[W5.heap.size+2]? =some (.cells #[.map (some (W5.heap.size+1))] 145 (0,0))∧Below W5.heap.size W5 w'):=hho;have HN5:Hid (zas (fun b=>w.heap.size≤b∧b<w3.heap.size) 32 W5 n l∧W5.heap[w3.heap.size]? =some (ncs n)∧W5.heap.size=w3.heap.size+1∧Below w.heap.size w W5∧w.heap.size≤w3.heap.size):=⟨hN'.below b35 zn,e4,s5,b25,b3.size⟩;have HW5:Hid _:=hW5;clear hho hN hN' b3 s5 e4 b35 b25 hW5 HB
  go_wp2_with (first|(rw[HW5.out];clear HW5))
  refine Calls.mono HHo.out ?_;rintro e W6 ⟨rfl,k1,k2,k3,b6⟩;obtain⟨n1,n2,n3,n4,n5⟩:=HN5.out;obtain⟨W7,hst,b7,e7⟩:=zeS W6 (.func (.func 79) #[] #[.pointer (some ⟨W5.heap.size+2,0,none⟩),.pointer (some ⟨W5.heap.size,0,none⟩)]) rfl;have b57:Below W5.heap.size W5 W7:=b6.trans (b7.mono b6.size);have b07:Below w.heap.size w W7:=n4.trans (b57.mono n4.size);have l6:=b6.size;have l7:=b7.size;obtain⟨q1,q2,q3,q4,q5,q6,q7,q8⟩:=HP.out;have x3:=(zi k3).1
  have hIh:Ih 89 #[] (wh pages) (W5.heap.size+1) W5.heap.size (W5.heap.size+2) noI () (fun k=>False∨k=W5.heap.size+1∨k=W5.heap.size∨k=W5.heap.size+2) W7:=
   ⟨fun _=>False,fun k hk=>hk,fun j=>Iff.rfl,id,id,id,k2.same (b7.block _ k2.lt),(b7.block _ (by omega)).trans k1,(b7.block _ (by omega)).trans k3⟩
  have hgr:=zgs (zeQ zpe (wh pages) q7 (W5.heap.size+1) W5.heap.size (W5.heap.size+2)) (fun b=>w.heap.size≤b∧b<w3.heap.size) 32 n l _ () W7 hIh (n1.below b57 zn) (fun b hb=>⟨by omega,fun e=>by
   rcases e with x|x|x|x
   ·exact x
   ·omega
   ·omega
   ·omega⟩) q3 q4 q5 (by rw[q8];exact q6)
  rw[q8] at hgr;have HGr:Hid (Calls Tryz.prog 48 #[gw 79 #[.pointer (some ⟨W5.heap.size+2,0,none⟩),.pointer (some ⟨W5.heap.size,0,none⟩)],nv n] W7 _):=hgr;have cN:W7.cell? ⟨W6.heap.size,0,none⟩=some (.func (.func 79) #[] #[.pointer (some ⟨W5.heap.size+2,0,none⟩),.pointer (some ⟨W5.heap.size,0,none⟩)]):=by rw[zr e7];rfl
  obtain⟨z0,z1,z2,z3,z4⟩:=zhp ((b57.block _ (by omega)).trans n2);have HBw:Hid (Below w.heap.size w W7∧w.heap.size≤W5.heap.size):=⟨b07,by omega⟩;obtain⟨nX,nY,nL,nro,nrn,nrc,nko,nkn,nkc⟩:=n;simp only at z0 z1 z2 z3 z4;clear k1 k2 k3 b6 n1 n2 n3 n4 n5 b7 e7 b57 b07 l6 l7 q1 q2 q3 q4 q5 q6 q7 q8 x3 hIh hgr;go_wp2_with fail;refine Calls.mono HGr.out ?_;rintro e W8 ⟨o',cap',F',rfl,r1,r2,r3,r5,r6⟩
  have hbl:Below w.heap.size w W8:=by
   obtain⟨a1,a2⟩:=HBw.out;refine⟨r5.os.trans a1.os,r5.tape.trans a1.tape,r5.output.trans a1.output,Nat.le_trans a1.size r5.size,fun j hj=>(r5.block j (Nat.lt_of_lt_of_le hj a1.size) fun e=>?_).trans (a1.block j hj)⟩;rcases e with x|x|x|x
   ·exact x
   ·omega
   ·omega
   ·omega
  by_cases hge:g.e=0
  ·have HE:Hid (Calls Tryz.prog 90 #[.slice o' (outL g).length cap',.slice o pages.length cap] W8 fun e w'=>e=.returned (.bool (eqL eqS (outL g) pages))∧Below W8.heap.size W8 w'):=zdZ (outL g) pages o' cap' o cap W8 r1 (HP.out.1.below hbl zn)
   have HB8:Hid (Below w.heap.size w W8):=hbl;have HD:Hid (BB=eqL eqS (outL g) pages):=by refine(?_:_=_);rw[←HBB.out,decide_eq_true hge];rfl
   obtain⟨L,hL⟩:∃ L,(outL g).length=L:=⟨_,rfl⟩;rw[hL] at HE;simp only[hL];generalize eqL eqS (outL g) pages=EB at HE HD;clear r1 r2 r3 r5 r6 hbl HGr cN z0 z1 z2 z3 z4 hst hL HBB;go_wp2_with fail;refine Calls.mono HE.out ?_;rintro e W9 ⟨rfl,b9⟩;have HB9:Hid (Below w.heap.size w W9):=HB8.out.trans (b9.mono HB8.out.size);clear b9 HE;go_wp2_with fail;go_ret;exact⟨by rw[HD.out];cases EB<;>rfl,HB9.out⟩
  ·have hne':(g.e==0)=false:=by simpa using hge
   have HB8:Hid (Below w.heap.size w W8):=hbl;have HD:Hid (BB=false):=by refine(?_:_=_);rw[←HBB.out,decide_eq_false hge];rfl
   clear r1 r2 r3 r5 r6 hbl HGr cN z0 z1 z2 z3 z4 hst hge HBB;go_wp2_with fail;go_ret;exact⟨by rw[HD.out];rfl,HB8.out⟩
open Rv (FB zab zaS Vlt Vs Pl Vok Hon zaw cf take zbT blk)
open Rd (pt St Ok)
theorem zbw {fn:Func} {a b c:Tmp} (h:fn.results=#[.tmp a,.tmp b,.tmp c]) (tmps:Array Value) (w:World):(results fn tmps).run Tryz.prog w=.ok (.tuple #[tmps.getD a undef,tmps.getD b undef,tmps.getD c undef]) w:=by
 simp[results,h,go_sem]
theorem zjo {l:List Rw} {d':Array Rw} (h:Sort.PermIn 0 l.length l.toArray d'):d'.toList.Perm l:=by
 obtain⟨h1,-,h3⟩:=h
 have e1:d'.extract 0 l.length=d':=by
  have:l.length=d'.size:=by rw[h1];simp
  rw[this];simp
 rw[e1] at h3;simpa using h3
theorem zlQ {K:Rw→Nat} {n:Nat} {d':Array Rw} (hn:d'.size=n) (h:Srt K 0 n d'):d'.toList.Pairwise fun a b=>K a≤K b:=by
 rw[List.pairwise_iff_getElem];intro i j hi hj hij;have hi':i<d'.size:=by simpa using hi
 have hj':j<d'.size:=by simpa using hj
 have:=h i j (by omega) hij (by omega);rw[getElem!_pos d' i hi',getElem!_pos d' j hj'] at this;simpa using this
theorem znl {N:Nat} (hS:ziu N) (base:Nat) (l:List Rw) (hl:l.length≤N) (v:Value) (w:World) (h:w.ownsRow base 79 4 v l.length (l.flatMap rc)):
  Calls Tryz.prog 60 #[v,.func (.func 61) #[] #[]] w fun e w'=>e=.returned (.tuple #[])∧∃ m:List Rw,m.Perm l∧(m.Pairwise fun a b=>rid a≤rid b)∧w'.ownsRow base 79 4 v m.length (m.flatMap rc)∧But (fun j=>v.ownBlock=some j) w w':=by
 by_cases hnil:l=[]
 ·subst hnil
  obtain⟨o,cap,rfl,-⟩:=zai h;refine(zlO o cap w).mono ?_;rintro e w' ⟨rfl,rfl⟩;exact⟨rfl,[],List.Perm.refl _,List.Pairwise.nil,h,But.refl _ _⟩
 ·obtain⟨g,cap,rfl,hgb,hu⟩:=zkD h hnil
  have hs:l.toArray.size=l.length:=by simp
  have hX:=hS g (cap*4) cap l.toArray w (by rw[hs];exact hl) hu;rw[hs] at hX;refine hX.mono ?_;rintro e w' ⟨rfl,⟨d',u',s',p'⟩,b'⟩;have hd':d'.size=l.length:=by rw[p'.1,hs]
  have hm:d'.toList.length=l.length:=by simpa using hd'
  refine⟨rfl,d'.toList,zjo p',zlQ hd' s',?_,b'.more fun j _ hj=>by rw[hj];rfl⟩;have:=zkE h (m:=d'.toList) (by simpa using u') hm;rwa[hm] at this ⊢
def LOk (s:LS):Prop:=(∀ r∈s.rows,zbd r)∧∀ y∈s.pages,y.r.p<4294967296
theorem znR {f:LS→Rf→LS × Int} (hf:∀ s r,r.p<4294967296→LOk s→LOk (f s r).1):∀ (rs:List Rf) (s:LS),(∀ r∈rs,r.p<4294967296)→LOk s→LOk (stp f rs s).1
 |[],s,_,h=>h
 |r::rs,s,hr,h=>by
  have h1:=hf s r (hr r (List.mem_cons.2 (.inl rfl))) h;unfold stp;split
  ·exact znR hf rs _ (fun x hx=>hr x (List.mem_cons.2 (.inr hx))) h1
  ·exact h1
theorem znS (rd:Rf→ByteArray × Int):∀ (d:Nat) (s:LS) (r:Rf),r.p<4294967296→LOk s→LOk (rdG rd d s r).1
 |0,s,_,_,h=>h
 |d+1,s,r,hr,h=>by
  have h1:LOk ⟨s.n+1,s.rows,s.pages⟩:=h;unfold rdG;split
  ·exact h
  ·split
   ·split
    ·rename_i hdk
     have h2:=znR (znS rd d) (zaQ (decP (rd r).1)) ⟨s.n+1,s.rows,s.pages⟩ (zeh hdk).2.2.1 h1;obtain⟨-,-,h3⟩:=Rw.zk0 hdk;obtain⟨o1,o2,o3,o4,o5⟩:=h3;split
     ·refine⟨fun x hx=>?_,fun y hy=>?_⟩
      ·rcases List.mem_append.1 hx with a|a
       ·exact h2.1 x a
       ·exact o4 x a
      ·rcases List.mem_append.1 hy with a|a
       ·exact h2.2 y a
       ·rw[List.mem_singleton.1 a];exact hr
     ·exact h2
    ·exact h1
   ·exact h1
theorem ziv (Kt:Nat→Int) (A:Pl) (v:Vs) (t:St) (f:Nat) (hk:Ok t) (hA:∀ k,A.has k∨Und A k→k<f):∀ d,zdF Kt A v t f d
 |0=>fun s vr vp W r hI _ _ hd _=>by have:=hI.cnt.1;omega
 |d+1=>zlL Kt A v t f d hk hA (ziv Kt A v t f hk hA d)
theorem znm (rp:Int) (rt:ByteArray) (w:World):Calls Tryz.prog 29 #[.pointer none,.agg #[.int .u32 rp,.string rt]] w fun e w'=>e=.returned (.tuple #[.slice none 0 0,.slice none 0 0,.int .i64 1])∧Below w.heap.size w w':=by
 obtain⟨W1,hW1⟩:∃ W1,w.alloc (.cells #[.int .u32 rp,.string rt] 49)=W1:=⟨_,rfl⟩;have b1:Below w.heap.size w W1:=by rw[←hW1];exact zaa _ _
 have HT:Hid (∀ _:True,_):=fun _=>zgz W1
 have HW1:Hid _:=hW1;have HB1:Hid (Below w.heap.size w W1):=b1;clear hW1 b1;go_enter Tryz.func29,Tryz.ntmps29
 go_wp2_with (first|(rw[HW1.out];clear HW1))
 refine Calls.mono (HT.out trivial) ?_;rintro e w2 ⟨rfl,b2⟩;have HB2:Hid (Below w.heap.size w w2):=HB1.out.trans (b2.mono HB1.out.size);clear b2 HT;go_wp2_with fail;refine bodyPost_ret (zbw rfl _ _) rfl ?_;exact⟨rfl,HB2.out⟩
def LdP (pages : List Sv) (rows : List Rw) (re : Int) (base : Nat) (e : Ending) (w' : World) : Prop :=
  (re ≠ 0 ∧ e = .returned (.tuple #[.slice none 0 0, .slice none 0 0, .int .i64 re])) ∨
  (re = 0 ∧ ∃ m : List Rw, m.Perm rows ∧ (m.Pairwise fun a b => rid a ≤ rid b) ∧
    ((areB pages m = false ∧ e = .returned (.tuple #[.slice none 0 0, .slice none 0 0, .int .i64 61])) ∨
     (areB pages m = true ∧ ∃ o cap o2 cap2, e = .returned (.tuple #[.slice o m.length cap, .slice o2 pages.length cap2, .int .i64 0]) ∧ zac w' o cap m ∧ SvAt w' o2 cap2 pages ∧ (∀ b off, o = some ⟨b, off, none⟩ → base ≤ b) ∧ ∀ b off, o2 = some ⟨b, off, none⟩ → base ≤ b)))
def L0:LS:=⟨0,[],[]⟩
theorem znn (Kt:Nat→Int) (A:Pl) (v:Vs) (t:St) (r:Rf) (hr:r.p<4294967296) (w:World) (hv:Vlt w A v t) (hvk:Vok v) (hk:Ok t) (hT:Rs.Tb Kt w) {N:Nat} (hS:ziu N) (k:LS × Int) (hg:rdG (rdV Kt v t) 2101 L0 r=k) (hN:k.2=0→k.1.rows.length≤N):
  Calls Tryz.prog 29 #[pt A.g,fcv r] w fun e w'=>LdP k.1.pages k.1.rows k.2 w.heap.size e w'∧Vlt w' A v t∧Rs.Tb Kt w'∧Rd.But A.has w w':=by
 obtain⟨rp,rt⟩:=r
 have hU:∀ k,Und A k→k<w.heap.size:=fun k hu=>by
  obtain⟨⟨a,b,h1⟩,c,d,h2⟩:=hT;rcases hu with⟨off,hu⟩|rfl|rfl
  ·obtain⟨b',off',e',hlt,-⟩:=hv.self.2.1.2.2.2 (zho hvk.f)
   rw[hu] at e';cases e';exact hlt
  ·exact(zi h1).1
  ·exact(zi h2).1
 have HAU:Hid (∀ k,A.has k∨Und A k→k<w.heap.size):=fun k hh=>hh.elim (fun h=>hv.has_lt h) (hU k)
 have HUn:Hid (∀ k,Und A k→¬A.has k):=fun k hu=>zlw hv hvk hu
 obtain⟨W1,hW1⟩:∃ W1,w.alloc (.cells #[.int .u32 (rp:Int),.string rt] 49)=W1:=⟨_,rfl⟩;have b1:Below w.heap.size w W1:=by rw[←hW1];exact zaa _ _
 have y1:FB w.heap.size (rp:Int) rt W1:=by rw[←hW1];exact zq w _
 have hs1:W1.heap.size=w.heap.size+1:=by rw[←hW1];simp
 have HNn:Hid (∀ _:True,_):=fun _=>zef A v t W1 (hv.below b1 zn) hk
 have HY1:Hid (FB w.heap.size (rp:Int) rt W1∧W1.heap.size=w.heap.size+1∧Below w.heap.size w W1):=⟨y1,hs1,b1⟩;have hok:=znS (rdV Kt v t) 2101 L0 ⟨rp,rt⟩ hr ⟨fun _ h=>(by cases h),fun _ h=>(by cases h)⟩;have hcn:=(zhy (rdV Kt v t) 2101 L0 ⟨rp,rt⟩);rw[hg] at hok hcn;have HT0:Hid (Rs.Tb Kt w∧Ok t∧rp<4294967296∧rdG (rdV Kt v t) 2101 L0 ⟨rp,rt⟩=k∧ziu N∧(k.2=0→k.1.rows.length≤N)∧LOk k.1):=⟨hT,hk,hr,hg,hS,hN,hok⟩;obtain⟨PST,hPST⟩:∃ PST:Ending→World→Prop,(fun e w'=>LdP k.1.pages k.1.rows k.2 w.heap.size e w'∧Vlt w' A v t∧Rs.Tb Kt w'∧Rd.But A.has w w')=PST:=⟨_,rfl⟩;rw[hPST];have HP:Hid (∀ e w',LdP k.1.pages k.1.rows k.2 w.heap.size e w'∧Vlt w' A v t∧Rs.Tb Kt w'∧Rd.But A.has w w'→PST e w'):=fun e w' h=>by rw[←hPST];exact h
 have HW1:Hid _:=hW1;clear hW1 b1 y1 hs1 hv hvk hk hT hS hN hg hr hok hcn hU hPST;go_enter Tryz.func29,Tryz.ntmps29
 go_wp2_with (first|(rw[HW1.out];clear HW1))
 refine Calls.mono (HNn.out trivial) ?_;rintro e w2 ⟨rfl,hv2,hb2⟩;have hl2:=hb2.size;have y2:FB w.heap.size (rp:Int) rt w2:=(hb2.block _ (by have:=HY1.out.2.1;omega) (fun e=>by have:=HAU.out _ (.inl e);omega)).trans HY1.out.1;have hbw2:Rd.But A.has w w2:=(Rd.But.of_below HY1.out.2.2).trans hb2;obtain⟨W3,hW3⟩:∃ W3,w2.alloc (.cells #[pt A.g,.int .i64 0,.slice none 0 0,.slice none 0 0] 121)=W3:=⟨_,rfl⟩;have b3:Below w2.heap.size w2 W3:=by rw[←hW3];exact zaa _ _
 have g3:W3.heap[w2.heap.size]? =some (.cells #[pt A.g,.int .i64 0,.slice none 0 0,.slice none 0 0] 121 (0,0)):=by rw[←hW3];exact zq w2 _
 have hI3:RdI A w2.heap.size L0 (.slice none 0 0) (.slice none 0 0) W3:=⟨g3,World.ownsRow_nil _ _ _ _,World.ownsRow_nil _ _ _ _,fun g hg=>by simp[Value.ownBlock] at hg,by decide⟩;have hbw3:Rd.But A.has w W3:=hbw2.trans (Rd.But.of_below b3);have hT3:Rs.Tb Kt W3:=zbH HT0.out.1 fun k hl hh=>hbw3.block k hl (HUn.out k (.inr hh))
 have hRd:=ziv Kt A v t w2.heap.size HT0.out.2.1 (fun k hh=>by have:=HAU.out k hh;have:=HY1.out.2.1;omega) 2101 L0 _ _ W3 ⟨rp,rt⟩ hI3 (hv2.below b3 zn) hT3 (by decide) HT0.out.2.2.1;rw[HT0.out.2.2.2.1] at hRd;have HRd:Hid (Calls Tryz.prog 59 #[pt w2.heap.size,.agg #[.int .u32 (rp:Int),.string rt]] W3 (RP A w2.heap.size (.slice none 0 0) (.slice none 0 0) W3 k)):=hRd;have y3:=y2.grow b3;obtain⟨-,-,f0,f1⟩:=y3.facts;have lf3:w.heap.size<W3.heap.size:=(zi y3).1;have HV3:Hid (Vlt W3 A v t∧Rs.Tb Kt W3∧Rd.But A.has w W3∧w.heap.size<w2.heap.size∧W3.heap.size=w2.heap.size+1):=⟨hv2.below b3 zn,hT3,hbw3,by have:=HY1.out.2.1;omega,by rw[←hW3];simp⟩;have HW3:Hid _:=hW3;clear hv2 hb2 hl2 y2 hbw2 hW3 b3 g3 hI3 hbw3 hT3 hRd y3 HNn HY1
 go_wp2_with (first|(rw[HW3.out];clear HW3))
 refine Calls.mono HRd.out ?_;rintro e w4 ⟨rfl,vr,vp,hI4,hg4,hb4⟩;obtain⟨⟨kn,krows,kpages⟩,ke⟩:=k;simp only at hI4 HP
 have hk4:∀ k,k<w2.heap.size→w4.heap[k]? =W3.heap[k]? :=fun k hk=>hb4.block k (by have:=HV3.out.2.2.2.2;omega) fun e=>by
  rcases e with x|x|x
  ·omega
  ·simp[Value.ownBlock] at x
  ·simp[Value.ownBlock] at x
 have hv4:Vlt w4 A v t∧Rs.Tb Kt w4∧Rd.But A.has w w4:=by
  obtain⟨a1,a2,a3,a4,a5⟩:=HV3.out;exact⟨zbO a1 hb4.size fun k _ hh=>hk4 k (by have:=HAU.out k hh;omega),zbH a2 fun k _ hh=>hk4 k (by have:=HAU.out k (.inr (.inr hh));omega),⟨hb4.os.trans a3.os,hb4.tape.trans a3.tape,hb4.output.trans a3.output,Nat.le_trans a3.size hb4.size,fun k hk hn=>(hk4 k (by omega)).trans (a3.block k hk hn)⟩⟩
 by_cases hke:ke=0
 ·subst hke
  have hSo:=znl HT0.out.2.2.2.2.1 (w2.heap.size+1) krows (HT0.out.2.2.2.2.2.1 rfl) vr w4 hI4.rows;obtain⟨c0,c1,c2,c3⟩:=zdo hI4.self;have lf:w2.heap.size<w4.heap.size:=(zi hI4.self).1;obtain⟨ro,rcc,hvr,-⟩:=zai hI4.rows;obtain⟨po,pcc,hvp,hsv⟩:=zai hI4.pages;obtain⟨n,hn⟩:∃ n,krows.length=n:=⟨_,rfl⟩;obtain⟨pn,hpn⟩:∃ pn,kpages.length=pn:=⟨_,rfl⟩;simp only[hn] at hvr;simp only[hpn] at hvp;subst hvr hvp;have HLn:Hid (krows.length=n∧kpages.length=pn):=⟨hn,hpn⟩;have HSo:Hid (Calls Tryz.prog 60 #[.slice ro n rcc,.func (.func 61) #[] #[]] w4 fun e w'=>e=.returned (.tuple #[])∧∃ m:List Rw,m.Perm krows∧(m.Pairwise fun a b=>rid a≤rid b)∧w'.ownsRow (w2.heap.size+1) 79 4 (.slice ro n rcc) m.length (m.flatMap rc)∧But (fun j=>(Value.slice ro n rcc).ownBlock=some j) w4 w'):=hSo;have HI4:Hid (RdI A w2.heap.size ⟨kn,krows,kpages⟩ (.slice ro n rcc) (.slice po pn pcc) w4):=hI4;have HV4:Hid (Vlt w4 A v t∧Rs.Tb Kt w4∧Rd.But A.has w w4):=hv4
  clear hSo hI4 hsv hv4 hk4 hg4 hb4 hn hpn HRd c0 c1 c3 f0 f1 lf3;go_wp2_with fail;refine Calls.mono HSo.out ?_;rintro e w5 ⟨rfl,m,hpm,hpw,ho5,hb5⟩;have hI4:=HI4.out;have hob:∀ j,(Value.slice ro n rcc).ownBlock=some j→w2.heap.size+1≤j:=fun j hj=>(zat hI4.rows hj).1
  have hk5:∀ j,j<w4.heap.size→j≤w2.heap.size→w5.heap[j]? =w4.heap[j]? :=fun j h1 h2=>hb5.block j h1 fun e=>by have:=hob j e;omega
  have hself:=(hk5 _ lf zn).trans hI4.self;have hpg5:w5.ownsRow (w2.heap.size+1) 51 3 (.slice po pn pcc) kpages.length (kpages.flatMap sc):=zaF hI4.pages fun g hg hl=>hb5.block g hl fun e=>hI4.ne g e hg
  have hv5:Vlt w5 A v t∧Rs.Tb Kt w5∧Rd.But A.has w w5:=by
   obtain⟨a1,a2,a3⟩:=HV4.out;have:=HV3.out.2.2.2.1;exact⟨zbO a1 hb5.size fun k hl hh=>hk5 k hl (by have:=HAU.out k hh;omega),zbH a2 fun k hl hh=>hk5 k hl (by have:=HAU.out k (.inr (.inr hh));omega),⟨hb5.os.trans a3.os,hb5.tape.trans a3.tape,hb5.output.trans a3.output,Nat.le_trans a3.size hb5.size,fun k hk hn=>(hk5 k (Nat.lt_of_lt_of_le hk a3.size) (by omega)).trans (a3.block k hk hn)⟩⟩
  have hml:m.length=n:=by rw[hpm.length_eq];exact HLn.out.1
  obtain⟨o6,c6,e6,hrw⟩:=zai ho5;rw[hml] at e6 hrw;cases e6;obtain⟨o7,c7,e7,hsw⟩:=zai hpg5;rw[HLn.out.2] at e7 hsw;cases e7;have hR5:zac w5 ro rcc m:=by unfold zac;rw[hml];exact hrw
  have hS5:SvAt w5 po pcc kpages:=by unfold SvAt;rw[HLn.out.2];exact hsw
  have hok5:=HT0.out.2.2.2.2.2.2;have hAr:=zpf kpages m po pcc ro rcc w5.drew hS5 hR5 (fun r hr=>hok5.1 r (hpm.mem_iff.1 hr)) hok5.2 (by have:=hI4.cnt;simp only at this;omega);rw[hml,HLn.out.2] at hAr;obtain⟨d0,d1,d2,d3⟩:=zdo hself;obtain⟨AB,hAB⟩:∃ AB,areB kpages m=AB:=⟨_,rfl⟩;rw[hAB] at hAr;have HAB:Hid (areB kpages m=AB):=hAB;have HAr:Hid (Calls Tryz.prog 63 #[.slice po pn pcc,.slice ro n rcc] w5.drew fun e w'=>e=.returned (.bool AB)∧Below w5.drew.heap.size w5.drew w'):=hAr;have HSW:Hid (w5.drew.cell? ⟨w2.heap.size,3,none⟩=some (.slice po pn pcc)∧w5.drew.cell? ⟨w2.heap.size,2,none⟩=some (.slice ro n rcc)):=⟨d3,d2⟩
  have hbo:∀ b off,ro=some ⟨b,off,none⟩→0<n→w2.heap.size<b:=fun b off e h0=>by
   rcases ho5.2 with⟨h1,h2⟩|⟨g,cap',cur,h1,h2,-⟩
   ·cases h1;omega
   ·cases h1;cases e;omega
  have HV5:Hid (Vlt w5 A v t∧Rs.Tb Kt w5∧Rd.But A.has w w5∧zac w5 ro rcc m∧SvAt w5 po pcc kpages∧m.Perm krows∧(m.Pairwise fun a b=>rid a≤rid b)∧m.length=n∧w5.heap[w2.heap.size]? =some (.cells #[pt A.g,.int .i64 (kn:Int),.slice ro n rcc,.slice po pn pcc] 121 (0,0))∧(w5.ownsRow (w2.heap.size+1) 79 4 (.slice ro n rcc) m.length (m.flatMap rc))∧w5.ownsRow (w2.heap.size+1) 51 3 (.slice po pn pcc) kpages.length (kpages.flatMap sc)):=⟨hv5.1,hv5.2.1,hv5.2.2,hR5,hS5,hpm,hpw,hml,hself,ho5,hpg5⟩;clear hpm hpw ho5 hb5 hI4 hob hk5 hself hpg5 hv5 hml hrw hsw hR5 hS5 hok5 hAr hAB d0 d1 d2 d3 hbo HSo HI4 HV4 c2;go_wp2_with fail;refine wp_region_held (S:=fun W=>W.cell? ⟨w2.heap.size,3,none⟩=some (.slice po pn pcc)∧W.cell? ⟨w2.heap.size,2,none⟩=some (.slice ro n rcc)) (by kernel_rfl) ?_;change wpAnyH _ _ _ _ _ _ _ _ (World.drew _);refine plan [0,1,2,3,4,5,6,7] ?_
  iterate 8
   refine tkH (v:=?_) rfl ?_ HSW.out ?_;rotate_left
   ·rintro w ⟨e1,e2⟩;go_simp;try with_reducible rfl
   conv in(Act.put _ _ _)=>simp only[zL1,zL2,zL3,Act.put,zL4,zL5,zL6]
  refine plan0 ?_;refine zar 8 _ (by kernel_rfl) rfl (by kernel_rfl) (fun K hK=>?_);go_simp;refine HAr.out.mono ?_;rintro e w6 ⟨rfl,b6⟩;have hk6:∀ j,j<w5.heap.size→w6.heap[j]? =w5.heap[j]? :=fun j hj=>b6.block j hj
  have hs6:w5.heap.size≤w6.heap.size:=b6.size;obtain⟨a1,a2,a3,a4,a5,a6,a7,a8,a9,a10,a11⟩:=HV5.out;have lf5:=(zi a9).1;obtain⟨d0,d1,d2,d3⟩:=zdo ((hk6 _ lf5).trans a9);have lf6:w2.heap.size<w6.heap.size:=by omega
  replace HSW:Hid (w6.cell? ⟨w2.heap.size,3,none⟩=some (.slice po pn pcc)∧w6.cell? ⟨w2.heap.size,2,none⟩=some (.slice ro n rcc)):=⟨d3,d2⟩
  refine hK _ _ HSW.out ?_;clear hK K;refine plan [9] ?_;refine tkH (v:=?_) rfl ?_ HSW.out ?_;rotate_left
  ·rintro w ⟨e1,e2⟩;go_simp;try with_reducible rfl
  conv in(Act.put _ _ _)=>simp only[zL1,zL2,zL3,Act.put,zL4,zL5,zL6]
  refine plan0 ?_;refine wpAnyH_done (by kernel_rfl) ?_ _
  rename_i hKx
  refine hKx _ _ ?_;clear hKx
  have hfin:∀ W7:World,(∀ j,j<w6.heap.size→W7.heap[j]? =w6.heap[j]?)→w6.heap.size≤W7.heap.size→W7.os=w6.os→W7.tape=w6.tape→W7.output=w6.output→Vlt W7 A v t∧Rs.Tb Kt W7∧Rd.But A.has w W7∧zac W7 ro rcc m∧SvAt W7 po pcc kpages:=fun W7 h1 h2 h3 h4 h5=>by
   have hh:∀ j,j<w5.heap.size→W7.heap[j]? =w5.heap[j]? :=fun j hj=>(h1 j (by omega)).trans (hk6 j hj)
   exact⟨zbO a1 (by omega) fun k hl _=>hh k hl,zbH a2 fun k hl _=>hh k hl,⟨h3.trans (b6.os.trans a3.os),h4.trans (b6.tape.trans a3.tape),h5.trans (b6.output.trans a3.output),by have:=a3.size;omega,fun k hk hn=>(hh k (Nat.lt_of_lt_of_le hk a3.size)).trans (a3.block k hk hn)⟩,zeR a4 (by omega) fun b _ _ _ hl=>hh b hl,a5.keep (by omega) fun b _ _ _ hl=>hh b hl⟩
  have HFin:Hid _:=hfin
  have HOb:Hid ((∀ b off,ro=some ⟨b,off,none⟩→w.heap.size≤b)∧∀ b off,po=some ⟨b,off,none⟩→w.heap.size≤b):=by
   have:=HV3.out.2.2.2.1;refine⟨fun b off e=>?_,fun b off e=>?_⟩
   ·rcases a10.2 with⟨h1,h2⟩|⟨g,cap',cur,h1,h2,-⟩
    ·cases h1;cases e
    ·cases h1;cases e;omega
   ·rcases a11.2 with⟨h1,h2⟩|⟨g,cap',cur,h1,h2,-⟩
    ·cases h1;cases e
    ·cases h1;cases e;omega
  have HPm:Hid (m.Perm krows∧(m.Pairwise fun a b=>rid a≤rid b)∧m.length=n):=⟨a6,a7,a8⟩;clear hfin hk6 hs6 a1 a2 a3 a4 a5 a6 a7 a8 a9 a10 a11 lf5 b6 HAr HV5 HV3 HSW;cases AB with
  |false=>
   have HR:Hid (∀ e:Ending,e=.returned (.tuple #[.slice none 0 0,.slice none 0 0,.int .i64 61])→PST e w6):=fun e he=>by
    obtain⟨x1,x2,x3,x4,x5⟩:=HFin.out w6 (fun _ _=>rfl) zn rfl rfl rfl;exact HP.out e w6 ⟨.inr ⟨rfl,m,HPm.out.1,HPm.out.2.1,.inl ⟨HAB.out,he⟩⟩,x1,x2,x3⟩
   clear HP HFin HOb;go_wp2_with fail;refine bodyPost_ret (zbw rfl _ _) rfl ?_;exact HR.out _ rfl
  |true=>
   have HR:Hid (∀ e:Ending,e=.returned (.tuple #[.slice ro n rcc,.slice po pn pcc,.int .i64 0])→PST e w6.drew):=fun e he=>by
    obtain⟨x1,x2,x3,x4,x5⟩:=HFin.out w6.drew (fun _ _=>rfl) zn rfl rfl rfl;exact HP.out e w6.drew ⟨.inr ⟨rfl,m,HPm.out.1,HPm.out.2.1,.inr ⟨HAB.out,ro,rcc,po,pcc,by rw[he,HPm.out.2.2,HLn.out.2],x4,x5,HOb.out.1,HOb.out.2⟩⟩,x1,x2,x3⟩
   clear HP HFin HOb;go_wp2_with fail
   go_region
   go_wp2_with fail;refine bodyPost_ret (zbw rfl _ _) rfl ?_;exact HR.out _ rfl
 ·have hke':(ke==0)=false:=by simpa using hke
  have HR:Hid (∀ e:Ending,e=.returned (.tuple #[.slice none 0 0,.slice none 0 0,.int .i64 ke])→PST e w4):=fun e he=>HP.out e w4 ⟨.inl ⟨hke,he⟩,hv4⟩
  clear hv4 hk4 hI4 hg4 hb4 HRd HP;go_wp2_with fail;refine bodyPost_ret (zbw rfl _ _) rfl ?_;exact HR.out _ rfl
def Kept (Kt:Nat→Int) (s:Sx) (y:Sv):Prop:=(2≤y.r.p∧y.r.p<s.t.n∧(s.v.tk y.r.p).isSome=true)∧
 ∃ h:Rs.Hd,Rs.fits h∧h.1=(y.r.p:Int)∧Rs.sE s.v.ring h y.t=0∧y.r.t=Rs.tagS (Rs.sV Kt s.v.ring h y.t)∧Rd.zaR s.t y.r.p=Rs.sV Kt s.v.ring h y.t
theorem zlR {Kt:Nat→Int} {s:Sx} (hp:Hon s.t) {y:Sv} (h:Kept Kt s y):rdV Kt s.v s.t y.r=(y.t,0):=by
 obtain⟨⟨h1,h2,-⟩,hd,h3,h4,h5,h6,h7⟩:=h;obtain⟨a1,a2,-⟩:=Rv.zhs Kt hp h1 h2 h3 h4 h5 h7;rw[←h6] at a1 a2;unfold rdV;rw[a1,a2]
theorem zei {Kt:Nat→Int} {s:Sx} {y:Sv} (h:Kept Kt s y):Rw.rref y.r.p y.r.t=true:=by
 obtain⟨⟨h1,-,-⟩,hd,h3,-,h5,h6,-⟩:=h;unfold Rw.rref;rw[decide_eq_true h1,h6,decide_eq_true (Rv.zir (Rs.zbG Kt s.v.ring hd h3 y.t h5).1)];rfl
theorem zno (Kt:Nat→Int) {s:Sx} (h:Pok s) {x:ByteArray} (hx:x.size≤198) {p:Nat} (hl:zaw s.v.tk s.t.n=some p):
  Kept Kt ⟨take (zbT s.v) p,Rd.zau s.t p (blk Kt s.v p x),s.tk++[p]⟩ ⟨x,⟨p,Rs.tagS (blk Kt s.v p x)⟩⟩∧∀ y,Kept Kt s y→Kept Kt ⟨take (zbT s.v) p,Rd.zau s.t p (blk Kt s.v p x),s.tk++[p]⟩ y:=by
 obtain⟨-,h1,⟨h2,h3,h4⟩,h5⟩:=zhv Kt h hx hl;have n1:=h.hon.ok.n1;have hf:=h.vok.fits (p:=p) (by omega);have hse:=h.vok.se p hx;have hbs:(blk Kt s.v p x).size=256:=(Rs.zbG Kt s.v.ring (Rv.hd s.v p) hf x hse).1;obtain⟨-,-,-,hrd⟩:=Rv.zc1 h.hon h3 hbs;refine⟨⟨⟨h2,by rw[h5];exact h3,?_⟩,Rv.hd s.v p,hf,rfl,hse,rfl,by rw[hrd p h3,if_pos rfl];rfl⟩,fun y ⟨⟨k1,k2,k3⟩,hd,k4,k5,k6,k7,k8⟩=>?_⟩
 ·show(Rv.tput s.v.tk p (some ()) p).isSome=true
  simp[Rv.tput]
 ·have hne:y.r.p≠p:=fun e=>by rw[e,h4] at k3;exact absurd k3 (by decide)
  refine⟨⟨k1,by rw[h5];exact k2,?_⟩,hd,k4,k5,k6,k7,by rw[hrd _ k2,if_neg hne];exact k8⟩;show(Rv.tput s.v.tk p (some ()) y.r.p).isSome=true;unfold Rv.tput;rw[if_neg hne];exact k3
structure Gst (Kt:Nat→Int) (f:ByteArray→Option Rf) (s:Sx):Prop where
 pok:Pok s
 had:∀ t r,f t=some r→Kept Kt s ⟨t,r⟩
structure Good (Kt:Nat→Int) (f:ByteArray→Option Rf) (s:Sx) (g:Gr Sx) (c:Nat):Prop where
 gs:Gst Kt f g.s
 left:cf s.v.tk s.t.n≤cf g.s.v.tk g.s.t.n+g.ys.length
 sq:∃ m,Sq s m g.s∧((∀ t,f t=none)→g.e=0→m=g.ys.map fun y=>y.r.p)
 kp:∀ y,Kept Kt s y→Kept Kt g.s y
 ky:∀ y∈g.ys,Kept Kt g.s y
 e:g.e=0∨g.e=110
 room:c≤cf s.v.tk s.t.n→g.e=0
 len:g.ys.length≤c
theorem zjq {tk:Nat→Option Unit} {n:Nat} (h:zaw tk n=none):cf tk n=0:=by
 refine Rv.zlv fun q hq=>?_
 unfold Rv.zaw at h;rw[List.find?_eq_none] at h;have:=h q (List.mem_range.2 hq);cases hh:tk q with
 |none=>rw[hh] at this;exact absurd rfl this
 |some u=>rfl
theorem zgE {Kt:Nat→Int} {f:ByteArray→Option Rf} {s:Sx} (h:Gst Kt f s) {P:Pp} (hP:rpp P=true):Good Kt f s (zaC (hadP f (svP Kt)) s P) 1∧((zaC (hadP f (svP Kt)) s P).e=0→Rw.rref (zaC (hadP f (svP Kt)) s P).r.p (zaC (hadP f (svP Kt)) s P).r.t=true∧Kept Kt (zaC (hadP f (svP Kt)) s P).s ⟨encS P,(zaC (hadP f (svP Kt)) s P).r⟩):=by
 have he:encE P=0:=by unfold Rw.encE;rw[if_pos hP]
 have hx:=zcX P;unfold zaC;rw[if_pos he];cases hf:f (encS P) with
 |some r=>
  have e1:hadP f (svP Kt) s (encS P)=((r,0),s):=by unfold hadP;rw[hf]
  rw[e1,if_pos rfl];have hk:=h.had _ _ hf;exact⟨⟨h,by simp,⟨[],Sq.refl h.pok,fun hn=>by rw[hn] at hf;cases hf⟩,fun y hy=>hy,fun y hy=>by rw[List.mem_singleton.1 hy];exact hk,.inl rfl,fun _=>rfl,Nat.le_refl _⟩,fun _=>⟨zei hk,hk⟩⟩
 |none=>
  have e0:hadP f (svP Kt) s (encS P)=svP Kt s (encS P):=by unfold hadP;rw[hf]
  rw[e0];cases hl:zaw s.v.tk s.t.n with
  |none=>
   rw[zlA Kt hl,if_neg (show ¬(110:Int)=0 from by decide)];refine⟨⟨h,by simp,⟨[],Sq.refl h.pok,fun _ e=>absurd (show(110:Int)=0 from e) (by decide)⟩,fun y hy=>hy,fun y hy=>(by cases hy),.inr rfl,fun hc=>?_,Nat.zero_le _⟩,fun e=>absurd (show(110:Int)=0 from e) (by decide)⟩;rw[zjq hl] at hc;exact absurd hc (by decide)
  |some p=>
   obtain⟨e1,p1,p2,p3⟩:=zhv Kt h.pok hx hl;obtain⟨k1,k2⟩:=zno Kt h.pok hx hl;have hsq:=zlB Kt h.pok hx hl;rw[e1] at hsq ⊢;rw[if_pos rfl];have hcf:=zfA p2.2.2 s.t.n;rw[if_pos p2.2.1] at hcf;refine⟨⟨⟨p1,fun t r ht=>k2 _ (h.had t r ht)⟩,?_,⟨[p],hsq,fun _ _=>rfl⟩,k2,fun y hy=>by rw[List.mem_singleton.1 hy];exact k1,.inl rfl,fun _=>rfl,Nat.le_refl _⟩,fun _=>⟨zei k1,k1⟩⟩;show cf s.v.tk s.t.n≤cf (Rv.tput s.v.tk p (some ())) (Rd.zau s.t p (blk Kt s.v p (encS P))).n+1;rw[p3];omega
theorem Good.none {Kt:Nat→Int} {f:ByteArray→Option Rf} {s:Sx} (h:Gst Kt f s) (r:Rf):Good Kt f s ⟨s,[],0,r⟩ 0:=
 ⟨h,by simp,⟨[],Sq.refl h.pok,fun _ _=>rfl⟩,fun y hy=>hy,fun y hy=>(by cases hy),.inl rfl,fun _=>rfl,Nat.le_refl _⟩
theorem Good.seq {Kt:Nat→Int} {f:ByteArray→Option Rf} {s:Sx} {g h:Gr Sx} {c c':Nat} (hg:Good Kt f s g c) (h0:g.e=0) (hh:Good Kt f g.s h c'):Good Kt f s ⟨h.s,g.ys++h.ys,h.e,h.r⟩ (c+c'):=by
 obtain⟨m,hm,hm'⟩:=hg.sq;obtain⟨k,hk,hk'⟩:=hh.sq;refine⟨hh.gs,by have:=hg.left;have:=hh.left;simp only[List.length_append];omega,⟨m++k,hm.trans hk,fun hn he=>by rw[hm' hn h0,hk' hn he,List.map_append]⟩,fun y hy=>hh.kp y (hg.kp y hy),fun y hy=>?_,hh.e,fun hc=>hh.room (by have:=hg.left;have:=hg.len;omega),by have:=hg.len;have:=hh.len;simp only[List.length_append];omega⟩;rcases List.mem_append.1 hy with a|a
 ·exact hh.kp y (hg.ky y a)
 ·exact hh.ky y a
theorem Good.more {Kt:Nat→Int} {f:ByteArray→Option Rf} {s:Sx} {g:Gr Sx} {c c':Nat} (h:Good Kt f s g c) (hc:c≤c'):Good Kt f s g c':=
 ⟨h.gs,h.left,h.sq,h.kp,h.ky,h.e,fun x=>h.room (Nat.le_trans hc x),Nat.le_trans h.len hc⟩
structure RL (l:List Rw):Prop where
 on:On l
 rise:Rise l
 sz:∀ r∈l,r.v.size≤16
 ok:∀ r∈l,zbd r
theorem RL.part {l:List Rw} (h:RL l) (q:Nat):RL (Rq.part l q):=⟨h.on.part q,h.rise.sublist List.filter_sublist,fun r hr=>h.sz r (zbk.1 hr).1,fun r hr=>h.ok r (zbk.1 hr).1⟩
theorem RL.kid {l m:List Rw} (h:RL l) (hm:m∈zao l):RL m:=by
 obtain⟨-,q,-,rfl⟩:=za7 hm;exact h.part q
theorem RL.of_right {l:List Rw} (h:zaG l=true) (ho:∀ r∈l,zbd r):RL l:=by
 refine⟨zbJ h,zew h,fun r hr=>?_,ho⟩;obtain⟨i,hi,rfl⟩:=List.getElem_of_mem hr;have:=((zaU l i).1 (((zaH l).1 h).2 i hi)).1;unfold zbj at this;rw[zb2 hi,decide_eq_true_iff] at this;exact this.2.2
theorem RL.right {l:List Rw} (h:RL l) (hl:l.length≤1000):zaG l=true:=by
 refine(zaH l).2 ⟨hl,fun i hi=>(zaU l i).2 ⟨?_,fun h0=>?_⟩⟩
 ·have hm:l[i]∈l:=List.getElem_mem hi
  unfold zbj;rw[zb2 hi,decide_eq_true_iff];exact⟨(h.on _ hm).1,(h.on _ hm).2,h.sz _ hm⟩
 ·rw[zb2 hi,zb2 (show i - 1<l.length by omega)]
  exact List.pairwise_iff_getElem.1 h.rise (i - 1) i (by omega) hi (by omega)
theorem znp {l:List Rw} (h:RL l) (i:Nat):RL (piece l i)∧(piece l i).length≤4:=by
 have hs:(piece l i).Sublist l:=(List.take_sublist _ _).trans (List.drop_sublist _ _);exact⟨⟨fun r hr=>h.on r (hs.subset hr),h.rise.sublist hs,fun r hr=>h.sz r (hs.subset hr),fun r hr=>h.ok r (hs.subset hr)⟩,by unfold piece;rw[List.length_take];omega⟩
theorem zlS {l:List Rw} (h:RL l) (i:Nat) {next:Rf} (hn:next=zf∨Rw.rref next.p next.t=true):rpp (za2 (piece l i) next)=true:=by
 obtain⟨h1,h2⟩:=znp h i
 have e:(Rw.zbD next.p next.t||Rw.rref next.p next.t)=true:=by
  rcases hn with rfl|hn
  ·rfl
  ·rw[hn];simp
 have e2:rpp (za2 (piece l i) next)=Rw.zd8 ⟨1,0,0,0,none,(piece l i).length,0,none,0,0,next.p,next.t⟩ (piece l i):=by
  unfold rpp Rw.zdi za2;exact if_pos rfl
 rw[e2];unfold Rw.zd8;simp only;rw[e,decide_eq_true h2,h1.right (by omega)];rfl
theorem zjr {l:List Rw} (h:RL l) (hlf:leaf l=false) {ks:List Rf} (hk:ks.length=(zao l).length) (hr:∀ r∈ks,Rw.rref r.p r.t=true):rpp (zaX l ks)=true:=by
 obtain⟨-,n,hn⟩:=zda hlf;have h2:=zdy h.on hn;have h4:=zdx l;have ha:(ks.all fun r=>Rw.rref r.p r.t)=true:=List.all_eq_true.2 hr;have hs:zaf (cx l) (cy l) (lev l:Int)=true:=(zeu _ _ _).2 (zdN h.on)
 have e2:rpp (zaX l ks)=Rw.zcp ⟨2,cx l,cy l,(lev l:Int),none,0,0,none,ks.length,0,0,⟨#[]⟩⟩ ks:=by
  unfold rpp Rw.zdi zaX;exact(if_neg (show ¬(2:Int)=1 from by decide)).trans (if_pos rfl)
 rw[e2];unfold Rw.zcp;simp only;rw[decide_eq_true (show 2≤ks.length∧ks.length≤4 by omega),ha,hs,decide_eq_true (show(0:Int)<(lev l:Int) by omega)];rfl
theorem zej {Kt:Nat→Int} {f:ByteArray→Option Rf} {l:List Rw} (hl:RL l):∀ (i:Nat) (s:Sx) (next:Rf),Gst Kt f s→(next=zf∨Rw.rref next.p next.t=true)→Good Kt f s (zal (hadP f (svP Kt)) l i s next) i∧((zal (hadP f (svP Kt)) l i s next).e=0→0<i→Rw.rref (zal (hadP f (svP Kt)) l i s next).r.p (zal (hadP f (svP Kt)) l i s next).r.t=true)
 |0,s,next,h,_=>⟨Good.none h next,fun _ h0=>absurd h0 (by decide)⟩
 |i+1,s,next,h,hn=>by
  obtain⟨h1,h2⟩:=zgE h (zlS hl i hn);unfold zal Gr.then;generalize zaC (hadP f (svP Kt)) s (za2 (piece l i) next)=g at*
  split
  ·rename_i h0
   obtain⟨k1,k2⟩:=zej hl i g.s g.r h1.gs (.inr (h2 h0).1);refine⟨by rw[Nat.add_comm];exact h1.seq h0 k1,fun he _=>?_⟩;by_cases hi:0<i
   ·exact k2 he hi
   ·obtain rfl:i=0:=by omega
    exact(h2 h0).1
  ·rename_i h0
   exact⟨h1.more (by omega),fun he _=>absurd he h0⟩
theorem zgF {Kt:Nat→Int} {f:ByteArray→Option Rf} (F:Sx→List Rw→Gr Sx) (c:List Rw→Nat):∀ (ms:List (List Rw)) (s:Sx) (rs:List Rf),Gst Kt f s→
  (∀ m∈ms,∀ s,Gst Kt f s→Good Kt f s (F s m) (c m)∧((F s m).e=0→Rw.rref (F s m).r.p (F s m).r.t=true))→(∀ r∈rs,Rw.rref r.p r.t=true)→
  Good Kt f s (zan F ms s rs).1 (ms.map c).sum∧((zan F ms s rs).1.e=0→(zan F ms s rs).2.length=rs.length+ms.length∧∀ r∈(zan F ms s rs).2,Rw.rref r.p r.t=true)
 |[],s,rs,h,_,hr=>⟨Good.none h zf,fun _=>⟨rfl,hr⟩⟩
 |m::ms,s,rs,h,hF,hr=>by
  obtain⟨h1,h2⟩:=hF m (List.mem_cons.2 (.inl rfl)) s h;rw[zbz];simp only[List.map_cons,List.sum_cons];generalize F s m=g at*
  split
  ·rename_i h0
   obtain⟨k1,k2⟩:=zgF F c ms g.s (rs++[g.r]) h1.gs (fun x hx=>hF x (List.mem_cons.2 (.inr hx))) (fun r hr'=>by
    rcases List.mem_append.1 hr' with a|a
    ·exact hr r a
    ·rw[List.mem_singleton.1 a];exact h2 h0)
   refine⟨h1.seq h0 k1,fun he=>?_⟩;obtain⟨k3,k4⟩:=k2 he;exact⟨by rw[k3];simp;omega,k4⟩
  ·rename_i h0
   exact⟨h1.more (by omega),fun he=>absurd he h0⟩
theorem zc3 {Kt:Nat→Int} {f:ByteArray→Option Rf}:∀ (d:Nat) (s:Sx) (l:List Rw),RL l→lev l<d→Gst Kt f s→Good Kt f s (zad (hadP f (svP Kt)) d s l) (pcnt d l)∧((zad (hadP f (svP Kt)) d s l).e=0→Rw.rref (zad (hadP f (svP Kt)) d s l).r.p (zad (hadP f (svP Kt)) d s l).r.t=true)
 |0,s,l,_,hd,_=>absurd hd (Nat.not_lt_zero _)
 |d+1,s,l,hl,hd,h=>by
  unfold zad pcnt;by_cases hlf:leaf l=true
  ·rw[if_pos hlf,if_pos hlf]
   obtain⟨k1,k2⟩:=zej hl (npc l) s zf h (.inl rfl);exact⟨k1,fun he=>k2 he (by unfold npc;omega)⟩
  ·rw[if_neg hlf,if_neg hlf]
   have hlf':leaf l=false:=by cases hh:leaf l;rfl;exact absurd hh hlf
   obtain⟨-,n,hn⟩:=zda hlf';obtain⟨k1,k2⟩:=zgF (zad (hadP f (svP Kt)) d) (pcnt d) (zao l) s [] h (fun m hm s' hs'=>zc3 d s' m (hl.kid hm) (by have:=zjF hl.on hn hm;omega) hs') (fun r hr=>by cases hr);generalize zan (zad (hadP f (svP Kt)) d) (zao l) s []=K at*
   split
   ·rename_i h0
    obtain⟨k3,k4⟩:=k2 h0;obtain⟨p1,p2⟩:=zgE k1.gs (zjr hl hlf' (by simpa using k3) k4);exact⟨k1.seq h0 p1,fun he=>(p2 he).1⟩
   ·rename_i h0
    exact⟨⟨k1.gs,k1.left,k1.sq,k1.kp,k1.ky,k1.e,fun hc=>k1.room (by omega),by have:=k1.len;show K.1.ys.length≤_;omega⟩,fun he=>absurd he h0⟩
def Reads (rd:Rf→ByteArray × Int) (r:Rf) (ys:List Sv) (R:List Rw):Prop:=
 ∀ d s,s.n+ys.length≤2100→ys.length≤d→rdG rd d s r=(⟨s.n+ys.length,s.rows++R,s.pages++ys⟩,0)
def StpR (rd:Rf→ByteArray × Int) (rs:List Rf) (ys:List Sv) (R:List Rw):Prop:=
 ∀ d s,s.n+ys.length≤2100→ys.length≤d→stp (rdG rd d) rs s=(⟨s.n+ys.length,s.rows++R,s.pages++ys⟩,0)
theorem StpR.nil (rd:Rf→ByteArray × Int):StpR rd [] [] []:=fun d s _ _=>by
 show(s,0)=_;simp
theorem StpR.snoc {rd:Rf→ByteArray × Int} {rs:List Rf} {r:Rf} {ys zs:List Sv} {R S:List Rw} (h:StpR rd rs ys R) (hr:Reads rd r zs S):StpR rd (rs++[r]) (ys++zs) (R++S):=by
 intro d s h1 h2;rw[List.length_append] at h1 h2
 have key:∀ (rs:List Rf) (s s1:LS),stp (rdG rd d) rs s=(s1,0)→stp (rdG rd d) (rs++[r]) s=stp (rdG rd d) [r] s1:=by
  intro rs
  induction rs with
  |nil=>intro s s1 e;cases e;rfl
  |cons x xs ih=>
   intro s s1 e;rw[List.cons_append,show stp (rdG rd d) (x::(xs++[r])) s=if(rdG rd d s x).2=0 then stp (rdG rd d) (xs++[r]) (rdG rd d s x).1 else rdG rd d s x from rfl];rw[show stp (rdG rd d) (x::xs) s=if(rdG rd d s x).2=0 then stp (rdG rd d) xs (rdG rd d s x).1 else rdG rd d s x from rfl] at e;by_cases h0:(rdG rd d s x).2=0
   ·rw[if_pos h0] at e ⊢
    exact ih _ _ e
   ·rw[if_neg h0] at e
    rw[e] at h0;exact absurd rfl h0
 rw[key rs s _ (h d s (by omega) (by omega)),stp,hr d _ (by simp only;omega) (by omega)];simp only[if_true,stp];simp[Nat.add_assoc]
theorem zp7 {P:Pp} (h:rpp P=true):encS P=⟨(pB P).toArray⟩:=by unfold Rw.encS;rw[if_pos h]
theorem zdp {rd:Rf→ByteArray × Int} {P:Pp} {r:Rf} {ys:List Sv} {R:List Rw} (hP:rpp P=true) (ho:okP P) (hrd:rd r=(encS P,0)) (h:StpR rd (zaQ P) ys R):Reads rd r (ys++[⟨encS P,r⟩]) (R++P.l):=by
 obtain⟨d1,d2⟩:=Rw.zoP hP ho;rw[←zp7 hP] at d1 d2;intro d s h1 h2;rw[List.length_append,List.length_singleton] at h1 h2;cases d with
 |zero=>omega
 |succ d=>
  rw[rdG,hrd,if_neg (by omega),if_pos rfl,if_pos d1];simp only[d2];rw[h d ⟨s.n+1,s.rows,s.pages⟩ (by simp only;omega) (by omega)];simp only[if_true];simp only[List.length_append,List.length_singleton,List.append_assoc]
  congr 2
  omega
def rowsOf (rd:Rf→ByteArray × Int) (r:Rf):List Rw:=(rdG rd 2101 ⟨0,[],[]⟩ r).1.rows
theorem zhA {rd:Rf→ByteArray × Int} {r r':Rf} (h:rd r=rd r'):rowsOf rd r=rowsOf rd r':=by
 unfold rowsOf;rw[rdG,rdG,h];split
 ·rfl
 ·split
  ·split
   ·split<;>rfl
   ·rfl
  ·rfl
theorem Reads.rows {rd:Rf→ByteArray × Int} {r:Rf} {ys:List Sv} {R:List Rw} (h:Reads rd r ys R) (hl:ys.length≤2100):rowsOf rd r=R:=by
 unfold rowsOf;rw[h 2101 ⟨0,[],[]⟩ (by simp only;omega) (by omega)];rfl
structure Un (rd:Rf→ByteArray × Int) (ys:List Sv) (l:List Rw):Prop where
 sub:∀ y∈ys,(∀ x∈rowsOf rd y.r,x∈l)∧(rowsOf rd y.r).length≤l.length∧(l≠[]→rowsOf rd y.r≠[])
 un:ys.Pairwise fun a b=>rowsOf rd a.r≠rowsOf rd b.r
theorem Un.nil (rd:Rf→ByteArray × Int) (l:List Rw):Un rd [] l:=⟨fun y hy=>(by cases hy),List.Pairwise.nil⟩
def zek (l:List Rw) (n:Nat):Nat→List Rw
 |0=>[]
 |k+1=>zek l n k++piece l (n - (k+1))
theorem zdq (l:List Rw):∀ k,k≤npc l→(zek l (npc l) k).Perm (l.drop (4*(npc l - k)))
 |0,_=>by
  show([]:List Rw).Perm _;rw[List.drop_eq_nil_of_le (by unfold npc;omega)]
 |k+1,hk=>by
  have ih:=zdq l k (by omega)
  have e:l.drop (4*(npc l - (k+1)))=piece l (npc l - (k+1))++l.drop (4*(npc l - k)):=by
   unfold piece;have h:=List.take_append_drop 4 (l.drop (4*(npc l - (k+1))));rw[List.drop_drop] at h;rw[show 4*(npc l - k)=4*(npc l - (k+1))+4 by omega];exact h.symm
  rw[e];show(zek l (npc l) k++piece l (npc l - (k+1))).Perm _;exact(ih.append_right _).trans List.perm_append_comm
theorem piece_ne {l:List Rw} {i:Nat} (h:i<npc l) (hl:l≠[]):piece l i≠[]:=by
 have h0:=List.length_pos_iff.2 hl;unfold npc at h;intro e;have:=congrArg List.length e;unfold piece at this;rw[List.length_take,List.length_drop,List.length_nil] at this;omega
theorem ziw {σ:Type} {pl:Pm σ} {s:σ} {P:Pp} (h:(zaC pl s P).e=0):rpp P=true∧(pl s (encS P)).1.2=0∧zaC pl s P=⟨(pl s (encS P)).2,[⟨encS P,(pl s (encS P)).1.1⟩],0,(pl s (encS P)).1.1⟩:=by
 unfold zaC at h ⊢;by_cases h1:encE P=0
 ·rw[if_pos h1] at h ⊢
  by_cases h2:(pl s (encS P)).1.2=0
  ·rw[if_pos h2] at h ⊢
   refine⟨?_,h2,rfl⟩;unfold Rw.encE at h1;cases hh:rpp P with
   |true=>rfl
   |false=>rw[hh] at h1;exact absurd h1 (by decide)
  ·rw[if_neg h2] at h
   exact absurd h h2
 ·rw[if_neg h1] at h
  exact absurd h h1
theorem zlT {l:List Rw} {next:Rf} (h:Rw.rref next.p next.t=true):zaQ (za2 l next)=[next]:=by
 have h2:2≤next.p:=by
  unfold Rw.rref at h;rw[Bool.and_eq_true,decide_eq_true_iff] at h;exact h.1
 unfold zaQ;exact if_pos ⟨rfl,fun e=>by have:next.p=0:=e.1;omega⟩
theorem zgG (l:List Rw):zaQ (za2 l zf)=[]:=if_neg fun e=>e.2 ⟨rfl,rfl⟩
theorem zjs (l:List Rw) (ks:List Rf):zaQ (zaX l ks)=ks:=if_neg fun e=>absurd (show(2:Int)=1 from e.1) (by decide)
theorem znq (l:List Rw):npc l≤l.length+1:=by unfold npc;omega
theorem zdu {σ:Type} {pl:Pm σ} {rd:Rf→ByteArray × Int} {l:List Rw} (hok:∀ r∈l,zbd r) (hl:l≠[]) (hl2:l.length≤1000):∀ (i:Nat) (s:σ) (next:Rf) (ys0:List Sv),i≤npc l→next.p<4294967296→
  ((i=npc l∧next=zf∧ys0=[])∨(i<npc l∧Rw.rref next.p next.t=true∧Reads rd next ys0 (zek l (npc l) (npc l - i))))→ys0.length=npc l - i→Un rd ys0 l→(∀ y∈ys0,(rowsOf rd y.r).length≤(zek l (npc l) (npc l - i)).length)→
  (zal pl l i s next).e=0→(∀ y∈(zal pl l i s next).ys,rd y.r=(y.t,0)∧Rw.rref y.r.p y.r.t=true∧y.r.p<4294967296)→0<i→
  Reads rd (zal pl l i s next).r (ys0++(zal pl l i s next).ys) (zek l (npc l) (npc l))∧Un rd (ys0++(zal pl l i s next).ys) l
 |0,_,_,_,_,_,_,_,_,_,_,_,h=>absurd h (by decide)
 |i+1,s,next,ys0,hi,hn,h0,hlen,hun,hle,he,hy,_=>by
  unfold zal Gr.then at he hy ⊢;by_cases hp:(zaC pl s (za2 (piece l i) next)).e=0
  ·rw[if_pos hp] at he hy ⊢
   obtain⟨p1,p2,p3⟩:=ziw hp;obtain⟨r,hr⟩:∃ r,(pl s (encS (za2 (piece l i) next))).1.1=r:=⟨_,rfl⟩;obtain⟨s1,hs1⟩:∃ s1,(pl s (encS (za2 (piece l i) next))).2=s1:=⟨_,rfl⟩;rw[hr,hs1] at p3;rw[p3] at he hy ⊢;simp only at he hy ⊢;obtain⟨y1,y2,y3⟩:=hy ⟨encS (za2 (piece l i) next),r⟩ (by simp);simp only at y1 y2 y3;have hsub:∀ x∈piece l i,x∈l:=fun x hx=>(List.take_sublist _ _ |>.trans (List.drop_sublist _ _)).subset hx
   have hoP:okP (za2 (piece l i) next):=zlm (fun x hx=>hok x (hsub x hx)) hn
   have hbk:zek l (npc l) (npc l - i)=zek l (npc l) (npc l - (i+1))++piece l i:=by
    have e:npc l - i=(npc l - (i+1))+1:=by omega
    rw[e];show _++piece l (npc l - ((npc l - (i+1))+1))=_;rw[show npc l - ((npc l - (i+1))+1)=i by omega]
   have hrd1:Reads rd r (ys0++[⟨encS (za2 (piece l i) next),r⟩]) (zek l (npc l) (npc l - i)):=by
    rw[hbk];refine zdp p1 hoP y1 ?_;rcases h0 with⟨q1,q2,q3⟩|⟨q1,q2,q3⟩
    ·subst q2 q3
     rw[zgG,q1,Nat.sub_self];exact StpR.nil rd
    ·rw[zlT q2]
     have:=(StpR.nil rd).snoc q3;simpa using this
   have hnp:=znq l;have hro:=hrd1.rows (by rw[List.length_append,List.length_singleton];omega);have hpn:=piece_ne (show i<npc l by omega) hl;have hpl:=List.length_pos_iff.2 hpn;have hb1:(zek l (npc l) (npc l - i)).length=(zek l (npc l) (npc l - (i+1))).length+(piece l i).length:=by rw[hbk,List.length_append]
   have hpm:=zdq l (npc l - i) (by omega)
   have hun1:Un rd (ys0++[⟨encS (za2 (piece l i) next),r⟩]) l:=by
    refine⟨fun y hy'=>?_,List.pairwise_append.2 ⟨hun.un,List.pairwise_singleton _ _,fun a ha b hb=>?_⟩⟩
    ·rcases List.mem_append.1 hy' with a|a
     ·exact hun.sub y a
     ·rw[List.mem_singleton.1 a]
      simp only;rw[hro];refine⟨fun x hx=>(List.drop_sublist _ _).subset (hpm.mem_iff.1 hx),?_,fun _ e=>?_⟩
      ·rw[hpm.length_eq,List.length_drop];omega
      ·have:=congrArg List.length e
       rw[List.length_nil] at this;omega
    ·rw[List.mem_singleton.1 hb]
     simp only;rw[hro];intro e;have:=hle a ha;rw[e] at this;omega
   by_cases hi0:0<i
   ·have:=zdu hok hl hl2 i s1 r (ys0++[⟨encS (za2 (piece l i) next),r⟩]) (by omega) y3 (.inr ⟨by omega,y2,hrd1⟩) (by rw[List.length_append,List.length_singleton];omega) hun1 (fun y hy'=>by
     rcases List.mem_append.1 hy' with a|a
     ·have:=hle y a;omega
     ·rw[List.mem_singleton.1 a];simp only;rw[hro];exact Nat.le_refl _) he (fun y hy'=>hy y (by simp[hy'])) hi0
    rw[List.append_assoc] at this;exact this
   ·obtain rfl:i=0:=by omega
    rw[Nat.sub_zero] at hrd1;exact⟨hrd1,hun1⟩
  ·rw[if_neg hp] at he
   exact absurd he hp
theorem StpR.cons {rd:Rf→ByteArray × Int} {rs:List Rf} {r:Rf} {ys zs:List Sv} {R S:List Rw} (hr:Reads rd r zs S) (h:StpR rd rs ys R):StpR rd (r::rs) (zs++ys) (S++R):=by
 intro d s h1 h2;rw[List.length_append] at h1 h2;rw[show stp (rdG rd d) (r::rs) s=if(rdG rd d s r).2=0 then stp (rdG rd d) rs (rdG rd d s r).1 else rdG rd d s r from rfl,hr d s (by omega) (by omega)];simp only[if_true];rw[h d _ (by simp only;omega) (by omega)];simp[Nat.add_assoc]
def Gy (rd:Rf→ByteArray × Int) (y:Sv):Prop:=rd y.r=(y.t,0)∧Rw.rref y.r.p y.r.t=true∧y.r.p<4294967296
def Dis (a b:List Rw):Prop:=∀ x∈a,x ∉ b
theorem zix (l:List Rw):(zao l).Pairwise Dis:=by
 unfold zao;refine List.Pairwise.sublist List.filter_sublist ?_;have h:∀ p q,p≠q→Dis (Rq.part l p) (Rq.part l q):=fun p q hpq x hp hq=>hpq ((zbk.1 hp).2.symm.trans (zbk.1 hq).2)
 simp only[List.map_cons,List.map_nil,List.pairwise_cons,List.mem_cons,List.not_mem_nil,or_false,forall_eq_or_imp,forall_eq];exact⟨⟨h 0 1 (by decide),h 0 2 (by decide),h 0 3 (by decide)⟩,⟨h 1 2 (by decide),h 1 3 (by decide)⟩,h 2 3 (by decide),fun _ h=>(by cases h),List.Pairwise.nil⟩
def Sb (rd:Rf→ByteArray × Int) (y:Sv) (m:List Rw):Prop:=(∀ x∈rowsOf rd y.r,x∈m)∧(rowsOf rd y.r).length≤m.length∧rowsOf rd y.r≠[]
theorem zeT {σ:Type} {rd:Rf→ByteArray × Int} (F:σ→List Rw→Gr σ):∀ (ms:List (List Rw)) (s:σ) (rs:List Rf),ms.Pairwise Dis→(∀ m∈ms,m≠[])→
  (∀ m∈ms,∀ s,(F s m).e=0→(∀ y∈(F s m).ys,Gy rd y)→(∃ R,R.Perm m∧Reads rd (F s m).r (F s m).ys R)∧Un rd (F s m).ys m∧(F s m).r.p<4294967296)→
  (zan F ms s rs).1.e=0→(∀ y∈(zan F ms s rs).1.ys,Gy rd y)→
  ∃ rs' R,(zan F ms s rs).2=rs++rs'∧(∀ r∈rs',r.p<4294967296)∧R.Perm ms.flatten∧StpR rd rs' (zan F ms s rs).1.ys R∧(∀ y∈(zan F ms s rs).1.ys,∃ m∈ms,Sb rd y m)∧(zan F ms s rs).1.ys.Pairwise fun a b=>rowsOf rd a.r≠rowsOf rd b.r
 |[],s,rs,_,_,_,_,_=>⟨[],[],(List.append_nil rs).symm,fun r hr=>(by cases hr),List.Perm.refl _,StpR.nil rd,fun y hy=>(by cases hy),List.Pairwise.nil⟩
 |m::ms,s,rs,hd,hne,hF,he,hy=>by
  rw[zbz] at he hy ⊢;by_cases h0:(F s m).e=0
  ·rw[if_pos h0] at he hy ⊢
   simp only at he hy ⊢;obtain⟨⟨S,s1,s2⟩,s3,s4⟩:=hF m (List.mem_cons.2 (.inl rfl)) s h0 fun y hy'=>hy y (List.mem_append.2 (.inl hy'))
   obtain⟨hd1,hd2⟩:=List.pairwise_cons.1 hd;obtain⟨rs',R,k1,k2,k3,k4,k5,k6⟩:=zeT F ms (F s m).s (rs++[(F s m).r]) hd2 (fun x hx=>hne x (List.mem_cons.2 (.inr hx))) (fun x hx=>hF x (List.mem_cons.2 (.inr hx))) he fun y hy'=>hy y (List.mem_append.2 (.inr hy'))
   have hsb:∀ y∈(F s m).ys,Sb rd y m:=fun y hy'=>by
    obtain⟨a,b,c⟩:=s3.sub y hy';exact⟨a,b,c (hne m (List.mem_cons.2 (.inl rfl)))⟩
   refine⟨(F s m).r::rs',S++R,by rw[k1,List.append_assoc];rfl,fun r hr=>?_,?_,StpR.cons s2 k4,fun y hy'=>?_,List.pairwise_append.2 ⟨s3.un,k6,fun a ha b hb e=>?_⟩⟩
   ·rcases List.mem_cons.1 hr with rfl|hr
    ·exact s4
    ·exact k2 r hr
   ·rw[List.flatten_cons];exact s1.append k3
   ·rcases List.mem_append.1 hy' with a|a
    ·exact⟨m,List.mem_cons.2 (.inl rfl),hsb y a⟩
    ·obtain⟨x,hx,hs⟩:=k5 y a
     exact⟨x,List.mem_cons.2 (.inr hx),hs⟩
   ·obtain⟨x,hx,hs⟩:=k5 b hb
    obtain⟨a1,-,a3⟩:=hsb a ha;obtain⟨z,hz⟩:=List.exists_mem_of_ne_nil _ a3;exact hd1 x hx z (a1 z hz) (hs.1 z (e▸hz))
  ·rw[if_neg h0] at he
   exact absurd he h0
theorem znT:∀ (ls:List (List Rw)) (j:Nat) (hj:j<ls.length),ls[j].length≤(ls.map List.length).sum
 |[],_,hj=>absurd hj (Nat.not_lt_zero _)
 |x::xs,0,_=>by rw[List.map_cons,List.sum_cons];exact Nat.le_add_right _ _
 |x::xs,j+1,hj=>by
  rw[List.map_cons,List.sum_cons];have:=znT xs j (by simpa using hj);show(xs[j]'(by simpa using hj)).length≤_;omega
theorem zhB:∀ (ls:List (List Rw)) (i j:Nat) (hij:i<j) (hj:j<ls.length) {a b:List Rw},ls[i]'(by omega)=a→ls[j]=b→a.length+b.length≤(ls.map List.length).sum
 |[],_,_,_,hj,_,_,_,_=>absurd hj (Nat.not_lt_zero _)
 |x::xs,0,j+1,_,hj,a,b,h1,h2=>by
  have h1':x=a:=h1;have h2':xs[j]'(by simpa using hj)=b:=h2;subst h1';rw[List.map_cons,List.sum_cons];have:=znT xs j (by simpa using hj);rw[h2'] at this;omega
 |x::xs,i+1,j+1,hij,hj,a,b,h1,h2=>by
  rw[List.map_cons,List.sum_cons];have:=zhB xs i j (by omega) (by simpa using hj) (a:=a) (b:=b) h1 h2;omega
theorem zgH (l:List Rw):(zao l).flatten.Perm l:=by
 have h:=zjG (fun m=>m) rfl l;rw[List.flatMap_id'] at h;rw[h];exact zex l
theorem zeU {σ:Type} {pl:Pm σ} (hsm:∀ s t,(pl s t).1.1.p<4294967296) {rd:Rf→ByteArray × Int}:∀ (d:Nat) (s:σ) (l:List Rw),RL l→l.length≤1000→l≠[]→lev l<d→
  (zad pl d s l).e=0→(∀ y∈(zad pl d s l).ys,Gy rd y)→
  (∃ R,R.Perm l∧Reads rd (zad pl d s l).r (zad pl d s l).ys R)∧Un rd (zad pl d s l).ys l
 |0,_,_,_,_,_,hd,_,_=>absurd hd (Nat.not_lt_zero _)
 |d+1,s,l,hl,hl2,hne,hd,he,hy=>by
  have hcnt:=(zbZ pl (d+1) s l).1;have hmax:=zdE (d+1) l hl.on;unfold zad at he hy hcnt ⊢;by_cases hlf:leaf l=true
  ·rw[if_pos hlf] at he hy ⊢
   have hnp:0<npc l:=by unfold npc;omega
   obtain⟨h1,h2⟩:=zdu hl.ok hne hl2 (npc l) s zf [] zn (Nat.zero_lt_succ _) (.inl ⟨rfl,rfl,rfl⟩) (by rw[Nat.sub_self];rfl) (Un.nil rd l) (fun y hy=>by cases hy) he hy hnp;have hp:=zdq l (npc l) zn;rw[Nat.sub_self,Nat.mul_zero,List.drop_zero] at hp;exact⟨⟨_,hp,h1⟩,h2⟩
  ·rw[if_neg hlf] at he hy hcnt ⊢
   have hlf':leaf l=false:=by cases hh:leaf l;rfl;exact absurd hh hlf
   obtain⟨-,n,hn⟩:=zda hlf';have h2:=zdy hl.on hn
   have hk:=zeT (rd:=rd) (zad pl d) (zao l) s [] (zix l) (fun m hm=>(za7 hm).1) (fun m hm s' he' hy'=>by
    obtain⟨-,q,-,e⟩:=za7 hm;obtain⟨k1,k2⟩:=zeU hsm d s' m (hl.kid hm) (Nat.le_trans (by rw[e];exact ze0 l q) hl2) (za7 hm).1 (by have:=zjF hl.on hn hm;omega) he' hy';exact⟨k1,k2,zcG hsm d s' m⟩)
   by_cases h0:(zan (zad pl d) (zao l) s []).1.e=0
   ·rw[if_pos h0] at he hy hcnt ⊢
    generalize zan (zad pl d) (zao l) s []=K at*
    simp only at he hy hcnt ⊢;obtain⟨rs',R,k1,k2,k3,k4,k5,k6⟩:=hk h0 fun y hy'=>hy y (List.mem_append.2 (.inl hy'))
    rw[List.nil_append] at k1;rw[k1] at he hy hcnt ⊢;obtain⟨p1,p2,p3⟩:=ziw he;obtain⟨r,hr⟩:∃ r,(pl K.1.s (encS (zaX l rs'))).1.1=r:=⟨_,rfl⟩;obtain⟨s1,hs1⟩:∃ s1,(pl K.1.s (encS (zaX l rs'))).2=s1:=⟨_,rfl⟩;rw[hr,hs1] at p3;rw[p3] at he hy hcnt ⊢;simp only at he hy hcnt ⊢;obtain⟨y1,y2,y3⟩:=hy ⟨encS (zaX l rs'),r⟩ (by simp);simp only at y1 y2 y3;have hcl:=zdN hl.on;have hoP:okP (zaX l rs'):=⟨by show cx l<_;have:=hcl.x31;omega,by show cy l<_;have:=hcl.y31;omega,Nat.zero_lt_succ _,fun x hx=>(by cases hx),k2⟩;have hrd:Reads rd r (K.1.ys++[⟨encS (zaX l rs'),r⟩]) (R++[]):=zdp p1 hoP y1 (by rw[zjs];exact k4);rw[List.append_nil] at hrd;have hRl:R.Perm l:=k3.trans (zgH l);rw[List.length_append,List.length_singleton] at hcnt;have hro:=hrd.rows (by rw[List.length_append,List.length_singleton];omega)
    have hlt:∀ y∈K.1.ys,(rowsOf rd y.r).length<l.length:=fun y hy'=>by
     obtain⟨m,hm,hs⟩:=k5 y hy';have h3:=hs.2.1;have hsum:=zhJ l
     have:m.length<l.length:=by
      obtain⟨m2,hm2,hne2⟩:∃ m2∈zao l,m2≠m:=by
       have hdis:=zix l
       match hkk:zao l,h2 with
       |a::b::t,_=>
        rw[hkk] at hdis;obtain⟨d1,-⟩:=List.pairwise_cons.1 hdis
        have hab:a≠b:=fun e=>by
         have ha:=(za7 (show a∈zao l by rw[hkk];simp)).1;obtain⟨z,hz⟩:=List.exists_mem_of_ne_nil _ ha;exact d1 b (by simp) z hz (e▸hz)
        by_cases e:a=m
        ·exact⟨b,by simp,fun e2=>hab (e.trans e2.symm)⟩
        ·exact⟨a,by simp,e⟩
      obtain⟨i,hi,e1⟩:=List.getElem_of_mem hm;obtain⟨j,hj,e2⟩:=List.getElem_of_mem hm2;have hm2l:=List.length_pos_iff.2 (za7 hm2).1
      have hss:m.length+m2.length≤((zao l).map List.length).sum:=by
       rcases Nat.lt_trichotomy i j with h|h|h
       ·exact zhB _ i j h (by simpa using hj) e1 e2
       ·subst h;exact absurd (e2.symm.trans e1) hne2
       ·rw[Nat.add_comm];exact zhB _ j i h (by simpa using hi) e2 e1
      omega
     omega
    refine⟨⟨R,hRl,hrd⟩,fun y hy'=>?_,List.pairwise_append.2 ⟨k6,List.pairwise_singleton _ _,fun a ha b hb=>?_⟩⟩
    ·rcases List.mem_append.1 hy' with a|a
     ·obtain⟨m,hm,hs1,hs2,hs3⟩:=k5 y a
      exact⟨fun x hx=>by
       obtain⟨-,q,-,e⟩:=za7 hm;have:=hs1 x hx;rw[e] at this;exact(zbk.1 this).1,Nat.le_of_lt (hlt y a),fun _=>hs3⟩
     ·rw[List.mem_singleton.1 a]
      simp only;rw[hro];exact⟨fun x hx=>hRl.mem_iff.1 hx,by rw[hRl.length_eq];exact Nat.le_refl _,fun h e=>h (by rw[e] at hRl;exact hRl.symm.eq_nil)⟩
    ·rw[List.mem_singleton.1 hb]
     simp only;rw[hro];intro e;have:=hlt a ha;rw[e,hRl.length_eq] at this;omega
   ·rw[if_neg h0] at he
    exact absurd he h0
theorem ziy {σ:Type} {pl:Pm σ} {q:Pm Unit} {s:σ} {P:Pp} (he:(zaC pl s P).e=0) (h:∀ y∈(zaC pl s P).ys,q () y.t=((y.r,0),())):zaC q () P=⟨(),(zaC pl s P).ys,0,(zaC pl s P).r⟩:=by
 obtain⟨p1,p2,p3⟩:=ziw he;rw[p3] at h ⊢;have h1:=h _ (List.mem_singleton.2 rfl);simp only at h1;have he0:encE P=0:=by unfold Rw.encE;rw[if_pos p1]
 unfold zaC;rw[if_pos he0,h1,if_pos rfl]
theorem zeV {σ:Type} {pl:Pm σ} {q:Pm Unit} {l:List Rw}:∀ (i:Nat) (s:σ) (next:Rf),(zal pl l i s next).e=0→(∀ y∈(zal pl l i s next).ys,q () y.t=((y.r,0),()))→zal q l i () next=⟨(),(zal pl l i s next).ys,0,(zal pl l i s next).r⟩
 |0,_,_,_,_=>rfl
 |i+1,s,next,he,h=>by
  unfold zal Gr.then at he h ⊢;by_cases h0:(zaC pl s (za2 (piece l i) next)).e=0
  ·rw[if_pos h0] at he h ⊢
   simp only at he h ⊢;rw[ziy h0 fun y hy=>h y (List.mem_append.2 (.inl hy))];simp only[if_true];rw[zeV i _ _ he fun y hy=>h y (List.mem_append.2 (.inr hy))]
  ·rw[if_neg h0] at he
   exact absurd he h0
theorem ziz {σ:Type} {q:Pm Unit} (F:σ→List Rw→Gr σ) (G:Unit→List Rw→Gr Unit):∀ (ms:List (List Rw)) (s:σ) (rs:List Rf),
  (∀ m∈ms,∀ s,(F s m).e=0→(∀ y∈(F s m).ys,q () y.t=((y.r,0),()))→G () m=⟨(),(F s m).ys,0,(F s m).r⟩)→(zan F ms s rs).1.e=0→(∀ y∈(zan F ms s rs).1.ys,q () y.t=((y.r,0),()))→
  zan G ms () rs=(⟨(),(zan F ms s rs).1.ys,0,(zan F ms s rs).1.r⟩,(zan F ms s rs).2)
 |[],_,_,_,_,_=>rfl
 |m::ms,s,rs,hF,he,h=>by
  rw[zbz F] at he h ⊢;by_cases h0:(F s m).e=0
  ·rw[if_pos h0] at he h ⊢
   simp only at he h ⊢;rw[zbz G,hF m (List.mem_cons.2 (.inl rfl)) s h0 fun y hy=>h y (List.mem_append.2 (.inl hy))];simp only[if_true];rw[ziz F G ms _ _ (fun x hx=>hF x (List.mem_cons.2 (.inr hx))) he fun y hy=>h y (List.mem_append.2 (.inr hy))]
  ·rw[if_neg h0] at he
   exact absurd he h0
theorem ziA {σ:Type} {pl:Pm σ} {q:Pm Unit}:∀ (d:Nat) (s:σ) (l:List Rw),(zad pl d s l).e=0→(∀ y∈(zad pl d s l).ys,q () y.t=((y.r,0),()))→zad q d () l=⟨(),(zad pl d s l).ys,0,(zad pl d s l).r⟩
 |0,_,_,_,_=>rfl
 |d+1,s,l,he,h=>by
  unfold zad at he h ⊢;by_cases hlf:leaf l=true
  ·rw[if_pos hlf] at he h ⊢
   rw[if_pos hlf];exact zeV _ _ _ he h
  ·rw[if_neg hlf] at he h ⊢
   rw[if_neg hlf];by_cases h0:(zan (zad pl d) (zao l) s []).1.e=0
   ·rw[if_pos h0] at he h ⊢
    have hk:=ziz (zad pl d) (zad q d) (zao l) s [] (fun m _ s' h1 h2=>ziA d s' m h1 h2) h0 fun y hy=>h y (List.mem_append.2 (.inl hy))
    rw[hk];simp only[if_true] at he h ⊢;rw[ziy he fun y hy=>h y (List.mem_append.2 (.inr hy))]
   ·rw[if_neg h0] at he
    exact absurd he h0
theorem zlU:∀ {ys:List Sv},(ys.Pairwise fun a b=>a.t≠b.t)→∀ y∈ys,wh ys y.t=some y.r
 |[],_,y,hy=>by cases hy
 |x::xs,h,y,hy=>by
  obtain⟨h1,h2⟩:=List.pairwise_cons.1 h;unfold wh;rcases List.mem_cons.1 hy with rfl|hy
  ·rw[if_pos rfl]
  ·rw[if_neg (fun e=>h1 y hy e.symm)]
   exact zlU h2 y hy
end Rz
end Go.Proofs.YtokfnghckpgjmaaGreatDoor
