/- Saving on a new vault, loading what was saved: in plain terms, whole; made, last, few. -/
import Derived.Test.YtokfnghckpgjmaaGreatDoorQHgy
set_option maxRecDepth 100000
set_option maxHeartbeats 4000000
namespace Go.Proofs.YtokfnghckpgjmaaGreatDoor
namespace Rz
open Go.RowKit Go.Lib Go.Shelf
open Rc Rq
open Rw (Rf fcv fc zaB Pp PAt PgAt okP encS encE pz gv Pg rpp pB gcs zbF decP decE)
open Rv (FB zab zaS Vlt Vs Pl Vok Hon zaw cf take zbT blk newV krs)
open Rd (pt St Ok)
theorem znr {l m:List Rw} (hl:Rise l) (hm:Rise m) (h:l.Perm m):l=m:=by
 refine h.eq_of_pairwise (le:=fun(a b:Rw)=>a.id<b.id) (fun a b _ _ h1 h2=>?_) hl hm;omega
theorem zjt {s l:List Rw} (hs:s.Pairwise fun a b=>rid a≤rid b) (hp:s.Perm l) (hl:Rise l):s=l:=by
 refine znr ?_ hl hp;have hn:l.Pairwise fun a b=>a.id≠b.id:=hl.imp fun h=>by omega
 have hn2:s.Pairwise fun a b=>a.id≠b.id:=(hp.pairwise_iff (fun h=>fun e=>h e.symm)).2 hn
 exact(hs.and hn2).imp fun h=>by have:=h.1;unfold rid at this;omega
theorem zns (rd:Rf→ByteArray × Int):∀ (d:Nat) (s:LS) (r:Rf),(rdG rd d s r).2=0→∃ ps,(rdG rd d s r).1.pages=ps++[⟨(rd r).1,r⟩]
 |0,s,r,h=>absurd (show(61:Int)=0 from h) (by decide)
 |d+1,s,r,h=>by
  unfold rdG at h ⊢;split at h
  ·exact absurd (show(61:Int)=0 from h) (by decide)
  ·rename_i h1
   rw[if_neg h1];split at h
   ·rename_i h2
    rw[if_pos h2];split at h
    ·rename_i h3
     rw[if_pos h3];split at h
     ·rename_i h4
      rw[if_pos h4];exact⟨_,rfl⟩
     ·rename_i h4
      exact absurd h h4
    ·exact absurd (show(61:Int)=0 from h) (by decide)
   ·rename_i h2
    exact absurd h h2
theorem zlV {Kt:Nat→Int} {f:ByteArray→Option Rf} {s0:Sx} (h:Gst Kt f s0) {l:List Rw} (hr:zaG l=true) (ho:∀ r∈l,zbd r) {g:Gr Sx} (hg:zad (hadP f (svP Kt)) 32 s0 l=g) (he:g.e=0):
  (∃ R,R.Perm l∧rdG (rdV Kt g.s.v g.s.t) 2101 L0 g.r=(⟨g.ys.length,R,g.ys⟩,0))∧areB g.ys l=true∧(∃ ps t,g.ys=ps++[⟨t,g.r⟩])∧g.r.p<4294967296:=by
 have hRL:=RL.of_right hr ho;have hl:=((zaH l).1 hr).1;have hlv:=zfE hRL.on;obtain⟨hG,-⟩:=zc3 32 s0 l hRL (by omega) h;rw[hg] at hG;have hn1:=hG.gs.pok.hon.ok.n1
 have hsm:∀ s t,(hadP f (svP Kt) s t).1.1.p<4294967296:=fun s t=>by
  unfold hadP;cases hf:f t with
  |none=>exact(zgy Kt ⟨0,0,0,0,0,none,0⟩ (fun _=>none) 0 0).small s t
  |some r=>
   have:=(h.had t r hf).1.2.1;have hn0:=h.pok.hon.ok.n1;show r.p<_;simp only at this;omega
 have hgy:∀ y∈g.ys,Gy (rdV Kt g.s.v g.s.t) y:=fun y hy=>by
  have hk:=hG.ky y hy;exact⟨zlR hG.gs.pok.hon hk,zei hk,by have:=hk.1.2.1;omega⟩
 have hlen:=(zbZ (hadP f (svP Kt)) 32 s0 l).1;rw[hg] at hlen;have hmax:=zdE 32 l hRL.on
 have hmain:(∃ R,R.Perm l∧Reads (rdV Kt g.s.v g.s.t) g.r g.ys R)∧g.ys.Pairwise fun a b=>a.t≠b.t:=by
  by_cases hne:l=[]
  ·subst hne
   have hp1:=he;rw[←hg] at hp1;unfold zad at hp1 hg;rw[if_pos zfd] at hp1 hg;have hnp:npc []=1:=rfl;rw[hnp] at hp1 hg;unfold zal Gr.then at hp1 hg;by_cases hp:(zaC (hadP f (svP Kt)) s0 (za2 (piece [] 0) zf)).e=0
   ·rw[if_pos hp] at hp1 hg
    obtain⟨p1,p2,p3⟩:=ziw hp;obtain⟨r,hr'⟩:∃ r,(hadP f (svP Kt) s0 (encS (za2 (piece [] 0) zf))).1.1=r:=⟨_,rfl⟩;rw[hr'] at p3;rw[p3] at hg;have hys:g.ys=[⟨encS (za2 (piece [] 0) zf),r⟩]:=by rw[←hg];rfl
    have hgr:g.r=r:=by rw[←hg];rfl
    refine⟨⟨[],List.Perm.refl _,?_⟩,by rw[hys];exact List.pairwise_singleton _ _⟩;have hy:=(hgy ⟨encS (za2 (piece [] 0) zf),r⟩ (by rw[hys];simp)).1;rw[hgr,hys];have:=zdp (rd:=rdV Kt g.s.v g.s.t) (r:=r) (ys:=[]) (R:=[]) p1 (zlm (fun x hx=>by simp[piece] at hx) (Nat.zero_lt_succ _)) hy (by rw[zgG];exact StpR.nil _);simpa [piece,za2] using this
   ·rw[if_neg hp] at hp1
    exact absurd hp1 hp
  ·have he':=he
   have hgy':=hgy;rw[←hg] at he' hgy';obtain⟨h1,h2⟩:=zeU hsm 32 s0 l hRL hl hne (by omega) he' (by rw[hg] at hgy' ⊢;exact hgy');rw[hg] at h1 h2;exact⟨h1,h2.un.imp_of_mem fun {a b} ha hb hab e=>hab (zhA (by rw[(hgy a ha).1,(hgy b hb).1,e]))⟩
 obtain⟨⟨R,hR,hrd⟩,hun⟩:=hmain;have hrg:=hrd 2101 L0 (by show 0+_≤_;omega) (by omega)
 have hrg':rdG (rdV Kt g.s.v g.s.t) 2101 L0 g.r=(⟨g.ys.length,R,g.ys⟩,0):=by
  rw[hrg];simp[L0]
 have hsim:areG g.ys l=⟨(),g.ys,0,g.r⟩:=by
  have:=ziA (pl:=hadP f (svP Kt)) (q:=hadP (wh g.ys) noP) 32 s0 l (by rw[hg];exact he) (fun y hy=>by
   rw[hg] at hy;unfold hadP;rw[zlU hun y hy])
  rw[hg] at this;exact this
 refine⟨⟨R,hR,hrg'⟩,?_,?_,?_⟩
 ·unfold areB
  rw[hsim,hr,show outL (⟨(),g.ys,0,g.r⟩:Gr Unit)=g.ys from if_pos rfl,(ze9 eqS zlH g.ys g.ys).2 rfl];rfl
 ·obtain⟨ps,hps⟩:=zns (rdV Kt g.s.v g.s.t) 2101 L0 g.r (by rw[hrg'])
  rw[hrg'] at hps;exact⟨ps,_,hps⟩
 ·have:=zcG hsm 32 s0 l
  rw[hg] at this;exact this
def e0v:Vs:=newV (krs 1) 1 7
theorem znt (p:Nat):(e0v.tk p).isSome=decide (p<2):=(Rv.zo4 (krs 1) 1 7).2.2.2.2.2 p
theorem znU:∀ n,2≤n→cf e0v.tk n=n - 2
 |0,h=>absurd h (by decide)
 |1,h=>absurd h (by decide)
 |n+2,_=>by
  have hz:=Rv.zlv (tk:=e0v.tk) (p:=2) fun q hq=>by rw[znt];exact decide_eq_true hq
  induction n with
  |zero=>exact hz
  |succ n ih=>
   rw[show n+1+2=(n+2)+1 from rfl,Rv.zdn,if_neg (by rw[znt];simp),ih (by omega)];omega
theorem fe11:Rk.feS (krs 1) 1=0:=by kernel_rfl
theorem vok1:Vok e0v:=⟨fe11,by decide,by decide,by decide,by decide,by decide⟩
theorem zel (n:Nat) (h4:4≤n) (hn:n≤4096):Pok ⟨e0v,Rd.newS n,[]⟩:=
 ⟨vok1,Rv.zo9 n h4 hn,⟨by rw[show(Rd.newS n).n=n from rfl,znU n (by omega)];show 0+_≤_;omega,Nat.zero_le _⟩,by show(e0v.tk 0).isSome=true;rw[znt];rfl,by show(e0v.tk 1).isSome=true;rw[znt];rfl⟩
theorem zhC (Kt:Nat→Int) (n:Nat) (h4:4≤n) (hn:n≤4096):Gst Kt (wh []) ⟨e0v,Rd.newS n,[]⟩:=⟨zel n h4 hn,fun t r e=>by cases e⟩
end Rz
namespace Rv
open Go.RowKit Go.Lib
open Rd (But St Ok Dev Dv pt zaa zam)
theorem ziB:(krs 1).length=1:=zhr 1
theorem zeW (Kt:Nat→Int) (n:Nat) (h4:4≤n) (hn:n≤4096) (w:World) (hT:Rs.Tb Kt w):
  Calls Tryz.prog 12 #[.int .i64 (n:Int)] w fun e w'=>∃ (A:Pl) (q:Nat),e=.returned (.tuple #[pt A.g,pt A.d,pt q,.bool true])∧Vlt w' A (newV (krs 1) 1 7) (Rd.newS n)∧(∀ k,A.has k→w.heap.size≤k)∧Below w.heap.size w w':=by
 have HD:Hid (∀ _:True,_):=fun _=>Rd.zgT n h4 hn w
 have HR:Hid (∀ W,_):=fun W=>Rd.znb n h4 hn W
 have HG:Hid (∀ W,_):=fun W=>zm9 1 (by omega) W
 have HTB:Hid (Rs.Tb Kt w):=hT;have ht1:3<w.heap.size:=by obtain⟨⟨_,_,h⟩,_⟩:=hT;exact hlt h
 have ht2:2<w.heap.size:=by obtain⟨_,_,_,h⟩:=hT;exact hlt h
 have HLT:Hid (3<w.heap.size∧2<w.heap.size):=⟨ht1,ht2⟩;have HOK:Hid (Ok (Rd.newS n)):=Rd.zkv n h4 hn;clear hT ht1 ht2;go_enter Tryz.func12,Tryz.ntmps12;go_wp2_with fail;refine Calls.mono (HD.out trivial) ?_;rintro e w1 ⟨d,b,m,rfl,hd,ld,lb,lm,b1⟩;have HB1:Hid (Below w.heap.size w w1):=b1;have HD1:Hid (Dev w1 d b m (Rd.newS n)):=hd;have HL:Hid (w.heap.size≤d∧w.heap.size≤b∧w.heap.size≤m):=⟨ld,lb,lm⟩;clear hd ld lb lm b1 HD;go_wp2_with fail;refine Calls.mono (HR.out _) ?_;rintro e w2 ⟨r,x,rfl,hf,-,b2⟩;have HB2:Hid (Below w.heap.size w w2):=HB1.out.trans (b2.mono HB1.out.size);have HD2:Hid (Dev w2 d b m (Rd.newS n)):=HD1.out.below b2 zn;have HF2:Hid (Rd.Rf w2 r x (Rd.newS n)):=hf;clear hf b2 HR HB1 HD1;go_wp2_with fail;refine Calls.mono (HG.out _) ?_;rintro e w3 ⟨o3,cap3,rfl,hr3,-,b3⟩;have HB3:Hid (Below w.heap.size w w3):=HB2.out.trans (b3.mono HB2.out.size);have HD3:Hid (Dev w3 d b m (Rd.newS n)):=HD2.out.below b3 zn
 have HF3:Hid (Rd.Rf w3 r x (Rd.newS n)):=HF2.out.below b3 zn;have HN:Hid (∀ _:True,_):=fun _=>zo5 Kt d b m (Rd.newS n) (krs 1) 1 7 o3 cap3 w3 HD3.out (by have:=HLT.out;have:=HL.out;rintro(e|e|e)<;>omega) (by have:=HLT.out;have:=HL.out;rintro(e|e|e)<;>omega) (HTB.out.below HB3.out zn) hr3 Rz.fe11
 rw[ziB] at HN;clear hr3 b3 HB2 HD2 HF2;go_wp2_with fail;refine Calls.mono (HN.out trivial) ?_;rintro e w4 ⟨A,rfl,hv4,⟨rfl,rfl,rfl⟩,lg,lt,b4⟩;have HB4:Hid (Below w.heap.size w w4):=HB3.out.trans (b4.mono HB3.out.size);have HV4:Hid (Vlt w4 A (newV (krs 1) 1 7) (Rd.newS n)):=hv4;have HF4:Hid (Rd.Rf w4 r x (Rd.newS n)):=HF3.out.below b4 zn
 have HA:Hid (∀ k,A.has k→w.heap.size≤k):=fun k hk=>by
  have h1:=HB3.out.size;have h2:=HL.out;rcases hk with e|e|e|e|e<;>omega
 clear hv4 lg lt b4 HN HB3 HD3 HF3;go_wp2_with fail;refine Calls.mono (HG.out _) ?_;rintro e w5 ⟨o5,cap5,rfl,hr5,-,b5⟩;have HB5:Hid (Below w.heap.size w w5):=HB4.out.trans (b5.mono HB4.out.size);have HV5:Hid (Vlt w5 A (newV (krs 1) 1 7) (Rd.newS n)):=HV4.out.below b5 zn;have HW:Hid (∀ _:True,_):=fun _=>znc r x (Rd.newS n) (krs 1) 1 7 o5 cap5 w5 (HF4.out.below b5 zn) HOK.out hr5 Rz.fe11
 rw[ziB] at HW;clear hr5 b5 HB4 HV4 HF4 HG;go_wp2_with fail;refine Calls.mono (HW.out trivial) ?_;rintro e w6 ⟨q,rfl,b6⟩;have HB6:Hid (Below w.heap.size w w6):=HB5.out.trans (b6.mono HB5.out.size);have HV6:Hid (Vlt w6 A (newV (krs 1) 1 7) (Rd.newS n)):=HV5.out.below b6 zn;clear b6 HW HB5 HV5;go_wp2_with fail;refine bodyPost_ret (zck rfl _ _) rfl ?_;exact⟨A,q,rfl,HV6.out,HA.out,HB6.out⟩
end Rv
namespace Rz
open Go.RowKit Go.Lib Go.Shelf
open Rc Rq
open Rw (Rf fcv fc zaB Pp PAt PgAt okP encS encE pz gv Pg rpp pB gcs zbF decP decE)
open Rv (FB zab zaS Vlt Vs Pl Vok Hon zaw cf take zbT blk newV krs)
open Rd (pt St Ok)
theorem zfC {fn:Func} {p:Tmp} (h:fn.results=#[.cell p 49]) (tmps:Array Value) (w:World) (g:Nat) (a b:Value) {t:TypeId}
  (hp:tmps.getD p undef=.pointer (some ⟨g,0,none⟩)) (hg:w.heap[g]? =some (.cells #[a,b] t (0,0))):(results fn tmps).run Tryz.prog w=.ok (.agg #[a,b]) w:=by
 have hp':tmps[p]?.getD undef=.pointer (some ⟨g,0,none⟩):=by simpa using hp
 have c0:w.cell? ⟨g,0,none⟩=some a:=by rw[zr hg];rfl
 have c1:w.cell? ⟨g,1,none⟩=some b:=by rw[zr hg];rfl
 simp[results,h,hp',asAddr,go_sem,c0,c1]
theorem zlW (l:List Rw) (o:Option Addr) (cap:Nat) (w:World) (hr:zac w o cap l):
  Calls Tryz.prog 14 #[.slice o l.length cap] w fun e w'=>e=.returned (.slice o (l.take 24).length cap)∧w'=w:=by
 obtain⟨m,hm⟩:∃ m,(l.take 24).length=m:=⟨_,rfl⟩;have hm2:m=min 24 l.length:=by rw[←hm,List.length_take]
 rw[hm];have hc:=hr.1;have hmin:(if(24:Int)<(l.length:Int) then(24:Int) else(l.length:Int))=(m:Int):=by split<;>omega
 have hrun:=fun w=>zmm o l.length cap m w (by omega) hr.2.2.1
 clear hr hm hm2 hc;go_enter Tryz.func14,Tryz.ntmps14
 go_wp2_with (refine zmv rfl 3 3 (.tmp 5) (.const (.int .i64 24)) rfl rfl rfl hmin ?_)
 go_ret;exact⟨rfl,rfl⟩
theorem zp8 {l:List Rw} {o:Option Addr} {cap:Nat} {w:World} (h:zac w o cap l):zac w o cap (l.take 24):=by
 refine⟨by rw[List.length_take];have:=h.1;omega,h.2.1,h.2.2.1,?_,fun hn=>?_⟩
 ·have hk:∀ m:List Rw,(m.flatMap rc).length=m.length*4:=fun m=>by
   induction m with
   |nil=>rfl
   |cons a t ih=>rw[List.flatMap_cons,List.length_append,ih,List.length_cons];simp[rc];omega
  exact hk _
 ·obtain⟨b,off,e,hlt,hc⟩:=h.2.2.2.2 (by rw[List.length_take] at hn;omega)
  refine⟨b,off,e,hlt,fun j u hu=>hc j u ?_⟩;have:l.flatMap rc=(l.take 24).flatMap rc++(l.drop 24).flatMap rc:=by rw[←List.flatMap_append,List.take_append_drop]
  rw[this,List.getElem?_append_left (List.getElem?_eq_some_iff.1 hu).1];exact hu
theorem znu (l:List Sv) (r:Rf) (t:ByteArray) (ps:List Sv) (hl:l=ps++[⟨t,r⟩]) (o:Option Addr) (cap:Nat) (w:World) (h:SvAt w o cap l):
  Calls Tryz.prog 22 #[.slice o l.length cap] w fun e w'=>e=.returned (fcv r)∧Below w.heap.size w w':=by
 have hlen:l.length=ps.length+1:=by rw[hl];simp
 have hmx:l.length≤maxLen:=Nat.le_trans h.1 h.2.1;obtain⟨W0,hW0⟩:∃ W0,w.alloc (.cells #[.int .u32 0,.string ⟨#[]⟩] 49)=W0:=⟨_,rfl⟩;have b0:Below w.heap.size w W0:=by rw[←hW0];exact zaa _ _
 have y0:FB w.heap.size 0 ⟨#[]⟩ W0:=by rw[←hW0];exact zaS w
 obtain⟨b,off,rfl,hbl,k0,k1,k2⟩:=(h.below b0 zn).one (i:=ps.length) (by omega);have hs:sat l ps.length=⟨t,r⟩:=by unfold sat;rw[hl];simp
 rw[hs] at k0 k1 k2;simp only at k0 k1 k2;obtain⟨u1,u2,u3,u4⟩:=y0.facts;obtain⟨y1,b1⟩:=y0.set (r.p:Int) r.t;have HY:Hid (FB w.heap.size (r.p:Int) r.t ((W0.setCell ⟨w.heap.size,0,none⟩ (.int .u32 (r.p:Int))).setCell ⟨w.heap.size,1,none⟩ (.string r.t))):=y1;have HB:Hid (Below w.heap.size w ((W0.setCell ⟨w.heap.size,0,none⟩ (.int .u32 (r.p:Int))).setCell ⟨w.heap.size,1,none⟩ (.string r.t))):=b0.trans (b1 _ zn);have lz:w.heap.size<W0.heap.size:=(zi y0).1;obtain⟨n,hn⟩:∃ n,ps.length=n:=⟨_,rfl⟩;obtain⟨L,hL⟩:∃ L,l.length=L:=⟨_,rfl⟩;rw[hn] at k0 k1 k2 hlen;rw[hL] at hlen hmx ⊢;simp only[maxLen] at hmx;have q1:IntKind.i64.wrap ((L:Int) - 1)=(n:Int):=by rw[wrap_i64 (by omega) (by omega)];omega
 have q2:(n:Int)<(L:Int):=by omega
 have q3:(0:Int)≤(n:Int):=by omega
 have q4:¬(L:Int)=0:=by omega
 have HW0:Hid _:=hW0;clear h hl hlen hmx hW0 b0 y0 y1 b1 hs hn hL;go_enter Tryz.func22,Tryz.ntmps22
 go_wp2_with (first|(rw[HW0.out];clear HW0))
 refine bodyPost_ret (zfC rfl _ _ _ _ _ rfl HY.out) rfl ?_;exact⟨rfl,HB.out⟩
def rw6 (i x:Nat):Rw:=⟨i,x,0,⟨#[]⟩⟩
def l6:List Rw:=[rw6 1 0,rw6 2 0,rw6 3 0,rw6 4 0,rw6 5 0,rw6 6 8]
theorem zdG:zaG l6=true:=by kernel_rfl
theorem zlX:pcnt 32 l6=4:=by kernel_rfl
theorem zpg:∀ r∈l6,zbd r:=by
 intro r hr;simp[l6,rw6] at hr;rcases hr with rfl|rfl|rfl|rfl|rfl|rfl<;>exact⟨by decide,by decide,by decide⟩
theorem znv {w:World} {g:Nat} {cs:Array Value} {t:TypeId} {fr:Nat × Nat} (l:List Rw) (h:w.heap[g]? =some (.cells cs t fr)) (hc:cs.toList=l.flatMap rc) (hl:l.length≤100):zac w (some ⟨g,0,none⟩) l.length l:=by
 refine⟨Nat.le_refl _,by simp only[maxLen];omega,fun e=>(by cases e),?_,fun _=>⟨g,0,rfl,(zi h).1,fun j u hu=>?_⟩⟩
 ·have hk:∀ m:List Rw,(m.flatMap rc).length=m.length*4:=fun m=>by
   induction m with
   |nil=>rfl
   |cons a t ih=>rw[List.flatMap_cons,List.length_append,ih,List.length_cons];simp[rc];omega
  exact hk _
 ·rw[zr h,Nat.zero_add]
  rw[←hc] at hu;simpa using hu
theorem zeX (Kt:Nat→Int) {n:Nat} (h4:4≤n) (hn:n≤4096) {l:List Rw} (hr:zaG l=true) (ho:∀ r∈l,zbd r) {g:Gr Sx} (hg:zad (hadP (wh []) (svP Kt)) 32 ⟨e0v,Rd.newS n,[]⟩ l=g):
  (g.e=0∨g.e=110)∧(pcnt 32 l≤n - 2→g.e=0)∧(g.e=0→g.ys.length=pcnt 32 l∧g.s.v.seals=g.ys.length∧g.s.v.nt=2+g.ys.length)∧Pok g.s∧g.s.t.n=n∧(finV g).nt=(if g.e=0 then 2+g.ys.length else 2):=by
 have hRL:=RL.of_right hr ho;have hlv:=zfE hRL.on;obtain⟨hG,-⟩:=zc3 (f:=wh []) (Kt:=Kt) 32 ⟨e0v,Rd.newS n,[]⟩ l hRL (by omega) (zhC Kt n h4 hn);rw[hg] at hG;obtain⟨m,hm,hm2⟩:=hG.sq;have hlen:=zbZ (hadP (wh []) (svP Kt)) 32 (⟨e0v,Rd.newS n,[]⟩:Sx) l;rw[hg] at hlen;have hml:g.e=0→m.length=g.ys.length:=fun he=>by rw[hm2 (fun t=>rfl) he,List.length_map]
 have hnt:g.e=0→g.s.v.nt=2+g.ys.length:=fun he=>by rw[hm.nt,hml he];rfl
 refine⟨hG.e,fun h=>hG.room (by show _≤cf e0v.tk n;rw[znU n (by omega)];exact h),fun he=>⟨hlen.2 he,?_,hnt he⟩,hm.pok,hm.n,?_⟩
 ·rw[hm.seals,hml he]
  show 0+_=_;omega
 ·unfold finV
  by_cases he:g.e=0
  ·rw[if_pos he,if_pos he];exact hnt he
  ·rw[if_neg he,if_neg he,(zlD rfl hm).2.1];rfl
theorem zgI (Kt:Nat→Int) (w:World) (hT:Rs.Tb Kt w):Calls Tryz.prog 11 #[] w fun e w'=>e=.returned (.bool true)∧Below w.heap.size w w':=by
 obtain⟨g,hg⟩:∃ g,zad (hadP (wh []) (svP Kt)) 32 ⟨e0v,Rd.newS 12,[]⟩ l6=g:=⟨_,rfl⟩;obtain⟨-,f2,f3,f4,f5,-⟩:=zeX Kt (n:=12) (by omega) (by omega) zdG zpg hg;have he:g.e=0:=f2 (by rw[zlX];omega);obtain⟨f6,f7,-⟩:=f3 he;rw[zlX] at f6;obtain⟨⟨R,hR,hrd⟩,hare,⟨ps,pt',hps⟩,hr32⟩:=zlV (zhC Kt 12 (by omega) (by omega)) zdG zpg hg he;have hL:outL g=g.ys:=if_pos he;have hV:finV g=g.s.v:=if_pos he;have HM:Hid (∀ _:True,_):=fun _=>Rv.zeW Kt 12 (by omega) (by omega) w hT
 have HSv:Hid (∀ (A:Pl) (W:World) (b:Nat),Vlt W A e0v (Rd.newS 12)→Rs.Tb Kt W→zac W (some ⟨b,0,none⟩) 6 l6→¬A.has b→Calls Tryz.prog 13 #[pt A.g,.slice (some ⟨b,0,none⟩) 6 6,.slice none 0 0] W fun e w'=>∃ o' cap',e=.returned (.tuple #[.slice o' 4 cap',.int .i64 0])∧SvAt w' o' cap' g.ys∧(∀ b off,o'=some ⟨b,off,none⟩→W.heap.size≤b)∧Vlt w' A g.s.v g.s.t∧Rs.Tb Kt w'∧Rd.But A.has W w'):=fun A W b hv hT hr hb=>by
  have:=zlG Kt A e0v (Rd.newS 12) l6 (some ⟨b,0,none⟩) 6 [] none 0 W hv (zel 12 (by omega) (by omega)) hT hr (fun b' off e _=>by cases e;exact hb) zpg zdG (Sl.nil 3 W) (fun b' off e=>by cases e) (fun y hy=>by cases hy) (by decide) g hg;refine this.mono ?_;rintro e w' ⟨o',cap',h1,h2,h3,h4,h5,h6⟩;rw[hL] at h1 h2;rw[f6,he] at h1;rw[hV] at h4;exact⟨o',cap',h1,h2,h3,h4,h5,h6⟩
 have HLs:Hid (∀ W o cap,SvAt W o cap g.ys→Calls Tryz.prog 22 #[.slice o 4 cap] W fun e w'=>e=.returned (.agg #[.int .u32 (g.r.p:Int),.string g.r.t])∧Below W.heap.size W w'):=fun W o cap h=>by
  have:=znu g.ys g.r pt' ps hps o cap W h;rw[f6] at this;exact this
 have HLd:Hid (∀ (A:Pl) (W:World),Vlt W A g.s.v g.s.t→Rs.Tb Kt W→Calls Tryz.prog 29 #[pt A.g,.agg #[.int .u32 (g.r.p:Int),.string g.r.t]] W fun e w'=>∃ o cap o2 cap2,e=.returned (.tuple #[.slice o 6 cap,.slice o2 4 cap2,.int .i64 0])∧zac w' o cap l6∧SvAt w' o2 cap2 g.ys∧Vlt w' A g.s.v g.s.t∧Rs.Tb Kt w'∧Rd.But A.has W w'):=fun A W hv hT=>by
  refine(znn Kt A g.s.v g.s.t g.r hr32 W hv f4.vok f4.hon.ok hT zlN (⟨g.ys.length,R,g.ys⟩,0) hrd (fun _=>by show R.length≤12;rw[hR.length_eq];decide)).mono ?_;rintro e w' ⟨h1|⟨-,m,m1,m2,h2⟩,h3,h4,h5⟩
  ·exact absurd rfl h1.1
  ·have hm:m=l6:=zjt m2 (m1.trans hR) (zew zdG)
   subst hm;rcases h2 with⟨a1,-⟩|⟨-,o,cap,o2,cap2,a1,a2,a3,-,-⟩
   ·have:areB g.ys l6=false:=a1
    rw[hare] at this;cases this
   ·have a1':e=.returned (.tuple #[.slice o 6 cap,.slice o2 4 cap2,.int .i64 0]):=by rw[a1];show Ending.returned (.tuple #[.slice o l6.length cap,.slice o2 g.ys.length cap2,.int .i64 0])=_;rw[f6];rfl
    exact⟨o,cap,o2,cap2,a1',a2,a3,h3,h4,h5⟩
 have HS9:Hid (∀ W o cap o2 cap2,zac W o cap l6→zac W o2 cap2 l6→Calls Tryz.prog 31 #[.slice o 6 cap,.slice o2 6 cap2] W fun e w'=>e=.returned (.bool true)∧Below W.heap.size W w'):=fun W o cap o2 cap2 h1 h2=>by
  have:=zj9 l6 l6 o cap o2 cap2 W h1 h2;rw[(ze9 eqR zn8 l6 l6).2 rfl] at this;exact this
 have HS14:Hid (∀ W o cap o2 cap2,SvAt W o cap g.ys→SvAt W o2 cap2 g.ys→Calls Tryz.prog 16 #[.slice o 4 cap,.slice o2 4 cap2] W fun e w'=>e=.returned (.bool true)∧Below W.heap.size W w'):=fun W o cap o2 cap2 h1 h2=>by
  have:=zlP g.ys g.ys o cap o2 cap2 W h1 h2;rw[(ze9 eqS zlH g.ys g.ys).2 rfl,f6] at this;exact this
 have HSl:Hid (∀ (A:Pl) W,Vlt W A g.s.v g.s.t→Calls Tryz.prog 35 #[pt A.g] W fun e w'=>e=.returned (.int .u64 4)∧w'=W):=fun A W hv=>by
  have:=Rv.zli A g.s.v g.s.t W hv;rw[f7,f6] at this;exact this
 have HT:Hid (Rs.Tb Kt w):=hT;clear hg f2 f3 f4 f5 he f6 f7 hR hrd hare hps hr32 hL hV hT;generalize g.r.p=rp at*
 generalize g.r.t=rt at*
 generalize g.s.v=V at*
 generalize g.s.t=T at*
 generalize g.ys=ys at*
 clear R ps pt';go_enter Tryz.func11,Tryz.ntmps11;go_wp2_with fail;refine Calls.mono (HM.out trivial) ?_;rintro e w1 ⟨A,q,rfl,hv1,hA,b1⟩;obtain⟨W2,hW2⟩:∃ W2,w1.alloc (.cells #[.int .u64 1,.int .u32 0,.int .u32 0,.string ⟨#[]⟩,.int .u64 2,.int .u32 0,.int .u32 0,.string ⟨#[]⟩,.int .u64 3,.int .u32 0,.int .u32 0,.string ⟨#[]⟩,.int .u64 4,.int .u32 0,.int .u32 0,.string ⟨#[]⟩,.int .u64 5,.int .u32 0,.int .u32 0,.string ⟨#[]⟩,.int .u64 6,.int .u32 8,.int .u32 0,.string ⟨#[]⟩] 79)=W2:=⟨_,rfl⟩;have b2:Below w1.heap.size w1 W2:=by rw[←hW2];exact zaa _ _
 have g2:W2.heap[w1.heap.size]? =some (.cells #[.int .u64 1,.int .u32 0,.int .u32 0,.string ⟨#[]⟩,.int .u64 2,.int .u32 0,.int .u32 0,.string ⟨#[]⟩,.int .u64 3,.int .u32 0,.int .u32 0,.string ⟨#[]⟩,.int .u64 4,.int .u32 0,.int .u32 0,.string ⟨#[]⟩,.int .u64 5,.int .u32 0,.int .u32 0,.string ⟨#[]⟩,.int .u64 6,.int .u32 8,.int .u32 0,.string ⟨#[]⟩] 79 (0,0)):=by rw[←hW2];exact zq w1 _
 have hr2:zac W2 (some ⟨w1.heap.size,0,none⟩) 6 l6:=znv l6 g2 rfl (by decide);have hA1:∀ k,A.has k→k<w1.heap.size:=fun k hk=>hv1.has_lt hk
 have HS2:Hid (Calls Tryz.prog 13 #[pt A.g,.slice (some ⟨w1.heap.size,0,none⟩) 6 6,.slice none 0 0] W2 fun e w'=>∃ o' cap',e=.returned (.tuple #[.slice o' 4 cap',.int .i64 0])∧SvAt w' o' cap' ys∧(∀ b off,o'=some ⟨b,off,none⟩→W2.heap.size≤b)∧Vlt w' A V T∧Rs.Tb Kt w'∧Rd.But A.has W2 w'):=
  HSv.out A W2 w1.heap.size (hv1.below b2 zn) ((HT.out.below b1 zn).below b2 zn) hr2 (fun e=>by have:=hA1 _ e;omega)
 have HW2s:Hid (w1.heap.size≤W2.heap.size):=b2.size;have HW2:Hid _:=hW2;have HR2:Hid (zac W2 (some ⟨w1.heap.size,0,none⟩) 6 l6∧(∀ k,A.has k→k<w1.heap.size)∧(∀ k,A.has k→w.heap.size≤k)∧Below w.heap.size w W2):=⟨hr2,hA1,hA,b1.trans (b2.mono b1.size)⟩;clear hW2 b2 g2 hr2 hA1 hA b1 hv1 HSv HM
 go_wp2_with (first|(rw[HW2.out];clear HW2))
 refine Calls.mono HS2.out ?_;rintro e w3 ⟨o3,cap3,rfl,hs3,hf3,hv3,ht3,hb3⟩;have HF3:Hid (∀ b off,o3=some ⟨b,off,none⟩→¬A.has b):=fun b off e e'=>by have:=hf3 b off e;have:=HR2.out.2.1 b e';have:=HW2s.out;omega
 clear hf3;have hrows:∀ W,Rd.But A.has W2 W→zac W (some ⟨w1.heap.size,0,none⟩) 6 l6:=fun W hb=>zeR HR2.out.1 hb.size fun b off e _ hl=>hb.block b hl fun e'=>by cases e;have:=HR2.out.2.1 _ e';omega
 have HR3:Hid (SvAt w3 o3 cap3 ys∧Vlt w3 A V T∧Rs.Tb Kt w3∧Rd.But A.has W2 w3):=⟨hs3,hv3,ht3,hb3⟩;have HRw:Hid (∀ W,Rd.But A.has W2 W→zac W (some ⟨w1.heap.size,0,none⟩) 6 l6):=hrows;have HL3:Hid _:=HLs.out w3 o3 cap3 hs3;clear hs3 hv3 ht3 hb3 hrows HS2;go_wp2_with fail;refine Calls.mono (HLs.out w3 o3 cap3 HR3.out.1) ?_;rintro e w4 ⟨rfl,b4⟩
 have HR4:Hid (SvAt w4 o3 cap3 ys∧Vlt w4 A V T∧Rs.Tb Kt w4∧Rd.But A.has W2 w4):=by
  obtain⟨a1,a2,a3,a4⟩:=HR3.out;exact⟨a1.below b4 zn,a2.below b4 zn,a3.below b4 zn,a4.trans (Rd.But.of_below b4)⟩
 have HLd4:Hid _:=HLd.out A w4 HR4.out.2.1 HR4.out.2.2.1;clear b4 HL3 HLs HR3;go_wp2_with fail;refine Calls.mono (HLd.out A w4 HR4.out.2.1 HR4.out.2.2.1) ?_;rintro e w5 ⟨o5,cap5,o6,cap6,rfl,hr5,hs5,hv5,ht5,hb5⟩;have HR5:Hid (zac w5 o5 cap5 l6∧SvAt w5 o6 cap6 ys∧SvAt w5 o3 cap3 ys∧zac w5 (some ⟨w1.heap.size,0,none⟩) 6 l6∧Vlt w5 A V T∧Rd.But A.has W2 w5):=⟨hr5,hs5,HR4.out.1.keep hb5.size fun b off e _ hl=>hb5.block b hl (HF3.out b off e),HRw.out w5 (HR4.out.2.2.2.trans hb5),hv5,HR4.out.2.2.2.trans hb5⟩;clear hr5 hs5 hv5 ht5 hb5 HLd4 HLd HR4;go_wp2_with fail;refine Calls.mono (HS9.out w5 _ 6 o5 cap5 HR5.out.2.2.2.1 HR5.out.1) ?_;rintro e w6 ⟨rfl,b6⟩
 have HR6:Hid (SvAt w6 o6 cap6 ys∧SvAt w6 o3 cap3 ys∧Vlt w6 A V T∧Rd.But A.has W2 w6):=by
  obtain⟨a1,a2,a3,a4,a5,a6⟩:=HR5.out;exact⟨a2.below b6 zn,a3.below b6 zn,a5.below b6 zn,a6.trans (Rd.But.of_below b6)⟩
 clear b6 HS9 HR5;go_wp2_with fail;refine Calls.mono (HS14.out w6 o3 cap3 o6 cap6 HR6.out.2.1 HR6.out.1) ?_;rintro e w7 ⟨rfl,b7⟩;have HR7:Hid (Vlt w7 A V T∧Rd.But A.has W2 w7):=⟨HR6.out.2.2.1.below b7 zn,HR6.out.2.2.2.trans (Rd.But.of_below b7)⟩;clear b7 HS14 HR6;go_wp2_with fail;refine Calls.mono (HSl.out A w7 HR7.out.1) ?_;rintro e w8 ⟨rfl,hw8⟩;have hw8':=hw8.symm;clear hw8;subst hw8';have HFin:Hid (Below w.heap.size w w7):=HR2.out.2.2.2.trans (HR7.out.2.below (fun k hk=>HR2.out.2.2.1 k hk) HR2.out.2.2.2.size);clear HSl HR7;go_wp2_with fail;go_ret;exact⟨rfl,HFin.out⟩
theorem groveNone_walk (Kt:Nat→Int) (l:List Rw) (o:Option Addr) (cap:Nat) (a:Int) (s:ByteArray) (w:World) (hr:zac w o cap l) (hT:Rs.Tb Kt w):
  Calls Tryz.prog 9 #[.slice o l.length cap,.agg #[.int .u32 a,.string s]] w fun e w'=>e=.returned (.bool true)∧Below w.heap.size w w':=by
 obtain⟨W1,hW1⟩:∃ W1,w.alloc (.cells #[.int .u32 a,.string s] 49)=W1:=⟨_,rfl⟩;have b1:Below w.heap.size w W1:=by rw[←hW1];exact zaa _ _
 have y1:FB w.heap.size a s W1:=by rw[←hW1];exact zq w _
 have l1:w.heap.size<W1.heap.size:=by rw[←hW1];simp
 have HSh:Hid (∀ _:True,_):=fun _=>zgI Kt W1 (hT.below b1 zn)
 have HY1:Hid (FB w.heap.size a s W1):=y1;have HL1:Hid (w.heap.size<W1.heap.size):=l1;have HB1:Hid (Below w.heap.size w W1):=b1;have HR1:Hid (zac W1 o cap l):=hr.below b1 zn;have HW1:Hid _:=hW1;clear hW1 b1 y1 l1 hr hT;obtain⟨n,hn⟩:∃ n,l.length=n:=⟨_,rfl⟩;have HN:Hid (l.length=n):=hn;rw[hn];clear hn;go_enter Tryz.func9,Tryz.ntmps9
 go_wp2_with (first|(rw[HW1.out];clear HW1))
 refine Calls.mono (HSh.out trivial) ?_;rintro e w2 ⟨rfl,b2⟩;have HB2:Hid (Below W1.heap.size W1 w2):=b2
 have HF2:Hid (Calls Tryz.prog 14 #[.slice o n cap] w2 fun e w'=>∃ m:Nat,e=.returned (.slice o m cap)∧w'=w2):=by
  have:=zlW l o cap w2 (HR1.out.below b2 zn);rw[HN.out] at this;exact this.mono fun e w' ⟨h1,h2⟩=>⟨_,h1,h2⟩
 clear b2 HSh HR1 HN;go_wp2_with fail;refine Calls.mono HF2.out ?_;rintro e w3 ⟨m,rfl,hw3⟩;subst hw3;clear HF2;go_wp2_with fail;refine Calls.mono (zng (.slice o m cap) (.slice none 0 0) w3) ?_;rintro e w4 ⟨rfl,b4⟩;have b14:Below W1.heap.size W1 w4:=HB2.out.trans (b4.mono HB2.out.size);have hY4:FB w.heap.size a s w4:=(b14.block _ HL1.out).trans HY1.out;obtain⟨u1,u2,u3,u4⟩:=hY4.facts;have HB4:Hid (Below w.heap.size w w4):=HB1.out.trans (b14.mono HB1.out.size);clear b4 b14 HB2 HB1 hY4;go_wp2_with fail;refine Calls.mono (znm a s w4) ?_;rintro e w5 ⟨rfl,b5⟩;have HB5:Hid (Below w.heap.size w w5):=HB4.out.trans (b5.mono HB4.out.size);clear b5 HB4 u1 u2 u3 u4;go_wp2_with fail;go_ret;exact⟨rfl,HB5.out⟩
open Rv (FB zab zaS Vlt Vs Pl Vok Hon zaw cf take zbT blk newV krs zc2)
theorem ziC:∀ (N:Nat) (m:List Nat),m.Nodup→(∀ p∈m,2≤p∧p<2+N)→m.length≤N
 |0,m,_,h=>by
  cases m with
  |nil=>exact Nat.le_refl 0
  |cons a t=>have:=h a (List.mem_cons_self ..);omega
 |N+1,m,hn,h=>by
  have ih:=ziC N (m.erase (2+N)) (hn.erase _) fun p hp=>by
   have h1:=(List.Nodup.mem_erase_iff hn).1 hp;have h2:=h p h1.2;have:=h1.1;omega
  rw[List.length_erase] at ih;by_cases hm:2+N∈m
  ·rw[if_pos hm] at ih;omega
  ·rw[if_neg hm] at ih;omega
theorem zju (Kt:Nat→Int) {n:Nat} (h4:4≤n) (hn:n≤4096) {l:List Rw} (hr:zaG l=true) (ho:∀ r∈l,zbd r) {g:Gr Sx} (hg:zad (hadP (wh []) (svP Kt)) 32 ⟨e0v,Rd.newS n,[]⟩ l=g) (he:g.e=0):g.ys.length≤n - 2:=by
 have hRL:=RL.of_right hr ho;have hlv:=zfE hRL.on;obtain⟨hG,-⟩:=zc3 (f:=wh []) (Kt:=Kt) 32 ⟨e0v,Rd.newS n,[]⟩ l hRL (by omega) (zhC Kt n h4 hn);rw[hg] at hG;obtain⟨m,hm,hm2⟩:=hG.sq;have hml:m.length=g.ys.length:=by rw[hm2 (fun t=>rfl) he,List.length_map]
 rw[←hml]
 exact ziC (n - 2) m hm.nodup fun p hp=>by
  have h1:=hm.rng p hp;have h2:p<n:=h1.2.1;exact⟨h1.1,by omega⟩
def SvF (A:Pl) (N:Nat) (e:Ending) (w':World):Prop:=
 (∃ (m:Nat) (o':Option Addr) (cap':Nat),e=.returned (.tuple #[.slice o' m cap',.int .i64 0])∧m+2≤N∧
  Calls Tryz.prog 20 #[pt A.g] w' fun e w''=>e=.returned (.int .i64 ((N - 2 - m:Nat):Int))∧Below w'.heap.size w' w'')∨
 (∃ (o':Option Addr) (cap':Nat) (x:Int),(x=80∨x=110)∧e=.returned (.tuple #[.slice o' 0 cap',.int .i64 x])∧
  Calls Tryz.prog 20 #[pt A.g] w' fun e w''=>e=.returned (.int .i64 ((N - 2:Nat):Int))∧Below w'.heap.size w' w'')
theorem zlY (Kt:Nat→Int) (A:Pl) (N:Nat) (h4:4≤N) (hN:N≤4096) (l:List Rw) (o:Option Addr) (cap:Nat) (w:World) (hv:Vlt w A (newV (krs 1) 1 7) (Rd.newS N)) (hT:Rs.Tb Kt w)
  (hr:zac w o cap l) (hno:∀ b off,o=some ⟨b,off,none⟩→0<l.length→¬A.has b) (hok:∀ r∈l,zbd r):
  Calls Tryz.prog 13 #[pt A.g,.slice o l.length cap,.slice none 0 0] w fun e w'=>SvF A N e w'∧Rd.But A.has w w':=by
 by_cases h0:zaG l=true
 ·obtain⟨g,hg⟩:∃ g,zad (hadP (wh []) (svP Kt)) 32 ⟨e0v,Rd.newS N,[]⟩ l=g:=⟨_,rfl⟩
  obtain⟨f1,-,f3,f4,f5,f6⟩:=zeX Kt h4 hN h0 hok hg;refine(zlG Kt A e0v (Rd.newS N) l o cap [] none 0 w hv (zel N h4 hN) hT hr hno hok h0 (Sl.nil 3 w) (fun b' off e=>by cases e) (fun y hy=>by cases hy) (by decide) g hg).mono ?_;rintro e w' ⟨o',cap',rfl,h2,h3,h5,h6,h7⟩;refine⟨?_,h7⟩;by_cases he:g.e=0
  ·have hL:outL g=g.ys:=if_pos he
   have hnt:(finV g).nt=2+g.ys.length:=by rw[f6,if_pos he]
   have hrm:=zju Kt h4 hN h0 hok hg he;have hle:(finV g).nt≤g.s.t.n:=by rw[hnt,f5];omega
   rw[hL,he];refine .inl ⟨g.ys.length,o',cap',rfl,by omega,?_⟩;have:=zc2 A (finV g) g.s.t w' h5 f4.hon.ok hle;rw[hnt,f5] at this;rw[show N - 2 - g.ys.length=N - (2+g.ys.length) by omega];exact this
  ·have h1:g.e=110:=f1.resolve_left he
   have hL:outL g=[]:=if_neg he;have hnt:(finV g).nt=2:=by rw[f6,if_neg he]
   rw[hL,h1];refine .inr ⟨o',cap',110,.inr rfl,rfl,?_⟩;have:=zc2 A (finV g) g.s.t w' h5 f4.hon.ok (by rw[hnt,f5];omega);rw[hnt,f5] at this;exact this
 ·have h0':zaG l=false:=by simpa using h0
  refine(znh A e0v (Rd.newS N) l o cap (.slice none 0 0) w hv (zel N h4 hN).hon.ok hr hno h0').mono ?_;rintro e w' ⟨rfl,h2,h3⟩;refine⟨.inr ⟨none,0,80,.inl rfl,rfl,?_⟩,h3⟩;have:=zc2 A e0v (Rd.newS N) w' h2 (zel N h4 hN).hon.ok (by show 2≤N;omega);exact this
open Rv (Vlt Vs Pl newV krs)
theorem groveFull_walk (Kt:Nat→Int) (l:List Rw) (o:Option Addr) (cap:Nat) (hK:∀ r∈l,zbd r) (n:Int) (w:World) (hr:zac w o cap l) (hT:Rs.Tb Kt w):
  Calls Tryz.prog 8 #[.slice o l.length cap,.int .i64 n] w fun e w'=>e=.returned (.bool true)∧Below w.heap.size w w':=by
 have HSh:Hid (∀ _:True,_):=fun _=>zgI Kt w hT
 have HR:Hid (zac w o cap l):=hr;have HT:Hid (Rs.Tb Kt w):=hT;obtain⟨L,hL⟩:∃ L,l.length=L:=⟨_,rfl⟩;have HN:Hid (l.length=L):=hL;rw[hL];clear hr hT hL;go_enter Tryz.func8,Tryz.ntmps8;go_wp2_with fail;refine Calls.mono (HSh.out trivial) ?_;rintro e w1 ⟨rfl,b1⟩;have HB1:Hid (Below w.heap.size w w1):=b1;clear b1 HSh;by_cases h1:n<4
 ·have t1:decide (n<4)=true:=decide_eq_true h1
  go_wp2_with fail;go_ret;exact⟨rfl,HB1.out⟩
 have t1:decide (n<4)=false:=decide_eq_false h1;by_cases h2:(12:Int)<n
 ·have t2:decide ((12:Int)<n)=true:=decide_eq_true h2
  go_wp2_with fail;go_ret;exact⟨rfl,HB1.out⟩
 have t2:decide ((12:Int)<n)=false:=decide_eq_false h2;obtain⟨N,rfl⟩:∃ N:Nat,n=(N:Int):=⟨n.toNat,by omega⟩;have h4:4≤N:=by omega
 have h12:N≤12:=by omega
 have HM:Hid (∀ _:True,_):=fun _=>Rv.zeW Kt N h4 (by omega) w1 (HT.out.below HB1.out zn)
 go_wp2_with fail;refine Calls.mono (HM.out trivial) ?_;rintro e w2 ⟨A,q,rfl,hv2,hA,b2⟩;have HB2:Hid (Below w.heap.size w w2):=HB1.out.trans (b2.mono HB1.out.size);have hr2:zac w2 o cap l:=HR.out.below HB2.out zn;have HA:Hid (∀ k,A.has k→w.heap.size≤k):=fun k hk=>Nat.le_trans HB1.out.size (hA k hk)
 have HF2:Hid (Calls Tryz.prog 14 #[.slice o L cap] w2 fun e w'=>e=.returned (.slice o (l.take 24).length cap)∧w'=w2):=by
  have:=zlW l o cap w2 hr2;rw[HN.out] at this;exact this
 have HSv:Hid (Calls Tryz.prog 13 #[pt A.g,.slice o (l.take 24).length cap,.slice none 0 0] w2 fun e w'=>SvF A N e w'∧Rd.But A.has w2 w'):=
  zlY Kt A N h4 (by omega) (l.take 24) o cap w2 hv2 (HT.out.below HB2.out zn) (zp8 hr2) (fun b off e hn hb=>by
   have h0:0<l.length:=by rw[List.length_take] at hn;omega
   obtain⟨b',off',e',hlt,-⟩:=HR.out.2.2.2.2 h0;rw[e] at e';cases e';have:=HA.out b hb;omega) (fun r hr=>hK r (List.mem_of_mem_take hr))
 clear hv2 hA b2 HM hr2 HT HB1 HR HN;obtain⟨m0,hm0⟩:∃ m,(l.take 24).length=m:=⟨_,rfl⟩;rw[hm0] at HF2 HSv;clear hm0 hK;go_wp2_with fail;refine Calls.mono HF2.out ?_;rintro e w3 ⟨rfl,hw3⟩;subst hw3;clear HF2;go_wp2_with fail;refine Calls.mono HSv.out ?_;rintro e w4 ⟨hF,hb⟩;have HB4:Hid (Below w.heap.size w w4):=HB2.out.trans (hb.below (fun k hk=>HA.out k hk) HB2.out.size);clear hb HB2 HA HSv;rcases hF with⟨m,o',cap',rfl,hm,hf⟩|⟨o',cap',x,hx,rfl,hf⟩
 ·obtain⟨F,hF⟩:∃ F:Int,((N - 2 - m:Nat):Int)=F:=⟨_,rfl⟩
  have q1:IntKind.i64.wrap ((N:Int) - 2)=(N:Int) - 2:=wrap_i64 (by omega) (by omega);have q2:IntKind.i64.wrap ((N:Int) - 2 - (m:Int))=F:=by rw[wrap_i64 (by omega) (by omega)];omega
  rw[hF] at hf;have HF:Hid _:=hf;clear hf hF;go_wp2_with fail;refine Calls.mono HF.out ?_;rintro e w5 ⟨rfl,b5⟩;have HB5:Hid (Below w.heap.size w w5):=HB4.out.trans (b5.mono HB4.out.size);clear b5 HF;go_wp2_with fail;go_ret;exact⟨rfl,HB5.out⟩
 ·obtain⟨F,hF⟩:∃ F:Int,((N - 2:Nat):Int)=F:=⟨_,rfl⟩
  have q1:IntKind.i64.wrap ((N:Int) - 2)=F:=by rw[wrap_i64 (by omega) (by omega)];omega
  rw[hF] at hf;have HF:Hid _:=hf;clear hf hF;rcases hx with rfl|rfl
  all_goals
   go_wp2_with fail;refine Calls.mono HF.out ?_;rintro e w5 ⟨rfl,b5⟩;have HB5:Hid (Below w.heap.size w w5):=HB4.out.trans (b5.mono HB4.out.size);clear b5 HF;go_wp2_with fail;go_ret;exact⟨rfl,HB5.out⟩
end Rz
end Go.Proofs.YtokfnghckpgjmaaGreatDoor
