/- Rows sorted by their Ids, however many: by the library's own contract. -/
import Derived.Test.YtokfnghckpgjmaaGreatDoorPPo
import Derived.Test.YtokfnghckpgjmaaGreatDoorPPk
import Derived.Shelf.SlSortCmp.WholeK
import Derived.Test.YtokfnghckpgjmaaGreatDoorQHgy
import Derived.Test.YtokfnghckpgjmaaGreatDoorPAq
import Derived.Test.YtokfnghckpgjmaaGreatDoorPHA
set_option maxRecDepth 100000
set_option maxHeartbeats 4000000
namespace Go.Proofs.YtokfnghckpgjmaaGreatDoor
namespace Rz
open Go.RowKit Go.Lib Go.Shelf
open Rc Rq
theorem jD (a b:Rw) (w:World):Calls Tryz.prog 61 #[rv a,rv b] w fun e w'=>e=.returned (.int .i64 (eL a.id b.id))∧∃ q os,w'=Sort.grow (w.drewN q) os:=by
 obtain⟨W0,hW0⟩:∃ W0,(w.alloc (.cells #[.int .u64 (a.id:Int),.int .u32 (a.x:Int),.int .u32 (a.y:Int),.string a.v] 79)).alloc (.cells #[.int .u64 (b.id:Int),.int .u32 (b.x:Int),.int .u32 (b.y:Int),.string b.v] 79)=W0:=⟨_,rfl⟩;have b2:=bF (w.alloc (.cells #[.int .u64 (a.id:Int),.int .u32 (a.x:Int),.int .u32 (a.y:Int),.string a.v] 79)) (.cells #[.int .u64 (b.id:Int),.int .u32 (b.x:Int),.int .u32 (b.y:Int),.string b.v] 79);have s1:(w.alloc (.cells #[.int .u64 (a.id:Int),.int .u32 (a.x:Int),.int .u32 (a.y:Int),.string a.v] 79)).heap.size=w.heap.size+1:=by simp
 have g1:=zq w (.cells #[.int .u64 (a.id:Int),.int .u32 (a.x:Int),.int .u32 (a.y:Int),.string a.v] 79);have g2:=zq (w.alloc (.cells #[.int .u64 (a.id:Int),.int .u32 (a.x:Int),.int .u32 (a.y:Int),.string a.v] 79)) (.cells #[.int .u64 (b.id:Int),.int .u32 (b.x:Int),.int .u32 (b.y:Int),.string b.v] 79);have hE:∃ q os,W0=Sort.grow (w.drewN q) os:=⟨0,_,by rw[←hW0,Sort.alloc_eq_grow,Sort.alloc_eq_grow,Sort.grow_grow];rfl⟩;rw[hW0,s1] at b2 g2;have h1:=(b2.block w.heap.size uo).trans g1;have c0:=(je h1).1;have d0:=(je g2).1;have l0:w.heap.size<W0.heap.size:=(zi h1).1;have l1:w.heap.size+1<W0.heap.size:=(zi g2).1;have HB:Hid (∃ q os,W0=Sort.grow (w.drewN q) os):=hE;have HW0:Hid _:=hW0;have HC:Hid (∀ _:True,_):=fun _=>zhz a.id b.id W0
 obtain⟨ai,ax,ay,av⟩:=a;obtain⟨bi,bx,by',bv⟩:=b;simp only at c0 d0 HC;generalize eL ai bi=c at*
 clear hW0 b2 s1 g1 g2 h1 hE;go_enter Tryz.func61,Tryz.ntmps61
 go_wp2_with (first|(rw[HW0.o];clear HW0))
 refine Calls.mono (HC.o trivial) ?_;rintro e w1 ⟨rfl,hw⟩;have hw':=hw.symm;clear hw;subst hw';clear HC;go_wp2_with fail;go_ret;exact⟨rfl,HB.o⟩
theorem kZ (r:Rw) (j:Nat) (h:j<4):(rc r)[j]? =some (rc r)[j]! :=by
 have:j<(rc r).length:=h;rw[List.getElem?_eq_getElem this,getElem!_pos (rc r) j this]
theorem kd {w:World} {g z:Nat} {d:Array Rw} (h:Ur w g z d):Sort.HoldsK rc 4 w g 0 d:=by
 obtain⟨cs,h1,h2,h3⟩:=h;intro t ht;rw[Sort.size_flatK] at ht;refine⟨?_,frozen_of_row w _ _ _ _ h1⟩;rw[Sort.get_flatK _ _ _ t ht,zr h1];have e:=h3 (t/4) uo (t%4) uo;rw[kZ _ _ uo] at e;rw[show 0+t=t/4*4+t%4 by omega];exact e
theorem jf {w:World} {g z n:Nat} {d d':Array Rw} {os:Array Obj} (h:Ur w g z d) (hs:d'.size=d.size):Ur (sortWorldK rc 4 w g 0 n d' os) g z d'∧Bg g w (sortWorldK rc 4 w g 0 n d' os):=by
 have hl:=h.lt;obtain⟨cs,h1,h2,h3⟩:=h
 have hh:∀ k,k<w.heap.size→(sortWorldK rc 4 w g 0 n d' os).heap[k]? =(w.heap.modify g (Sort.onCells (Sort.putCells id 0 (Sort.flatK rc 4 d'))))[k]? :=fun k hk=>by
  show(w.heap.modify g (Sort.onCells (Sort.putCells id 0 (Sort.flatK rc 4 d')))++os)[k]? =_;rw[Array.getElem?_append_left (by simpa using hk)]
 refine⟨⟨Sort.putCells id 0 (Sort.flatK rc 4 d') cs,?_,⟨by simp[Sort.putCells,h2.1],by rw[hs];exact h2.2⟩,fun i hi j hj=>?_⟩,⟨rfl,rfl,rfl,size_sortWorldK_c rc 4 w g 0 n d' os,fun k hk hn=>?_⟩⟩
 ·rw[hh g hl,Array.getElem?_modify,if_pos rfl,h1];rfl
 ·have hz:i*4+j<cs.size:=by have:=h2.1;have:=h2.2;omega
  have ht:i*4+j<d'.size*4:=uo
  unfold Sort.putCells;rw[Array.getElem?_mapIdx,Array.getElem?_eq_getElem hz];simp only[Option.map_some];rw[if_pos ⟨Nat.zero_le _,by rw[Sort.size_flatK];omega⟩,Nat.sub_zero,Sort.get_flatK _ _ _ _ ht,show(i*4+j)/4=i by omega,show(i*4+j)%4=j by omega,kZ _ _ hj];rfl
 ·rw[hh k hk,Array.getElem?_modify,if_neg (fun e=>hn e.symm)]
theorem kf:Sort.SWO (ltOf fun a b:Rw=>eL a.id b.id):=by
 have e:(ltOf fun a b:Rw=>eL a.id b.id)=fun a b=>decide (ie a<ie b):=by
  funext a b
  unfold ltOf eL ie;by_cases h:a.id<b.id
  ·simp[h]
  ·by_cases h':b.id<a.id<;>simp[h,h']
 rw[e];exact zpc ie
theorem jE (N:Nat) (hN:N≤1000000):rD N:=by
 intro g z cap d w hd h
 refine(AnyQ.slices_SortFunc Tryz.sortL 4 Tryz.isAgg79 Tryz.sizeOf79 rc (fun _=>rfl) (fun x v hv=>by simp[rc] at hv;rcases hv with rfl|rfl|rfl|rfl<;>rfl) (fun a b=>eL a.id b.id) kf 61 #[] g 0 cap d w
  (enters_of Tryz.func61 uk rfl) (fun m os dk _ x y=>jD x y _) (kd h) h.lt uo).mono ?_
 rintro e w' ⟨rfl,d',n,os,hp,hs,rfl⟩;obtain⟨u,b⟩:=jf (n:=n) (os:=os) h hp.1;refine⟨rfl,⟨d',u,fun i j hi hij hj=>?_,hp⟩,b⟩;have h':decide (eL d'[j]!.id d'[i]!.id<0)=false:=hs i j hi hij hj;show d'[i]!.id≤d'[j]!.id;by_cases c:d'[j]!.id<d'[i]!.id
 ·rw[show eL d'[j]!.id d'[i]!.id=-1 from if_pos c] at h'
  exact absurd h' ud
 ·omega
open Rw (Rf dR fc eO Pp dt eG fj encS dM pz gv Pg rpp pB cX gP cA en)
open Rv (FB fD gQ bP Vs Pl gh fs eC cf take iC dl df fE)
open Rd (pt St Ok)
def nI (i x:Nat):Rw:=⟨i,x,0,⟨#[]⟩⟩
def l6:List Rw:=[nI 1 0,nI 2 0,nI 3 0,nI 4 0,nI 5 0,nI 6 8]
theorem rI:dg l6=true:=uk
theorem zlX:bV 32 l6=4:=uk
theorem uU:∀ r∈l6,fI r:=by
 intro r hr;simp[l6,nI] at hr;rcases hr with rfl|rfl|rfl|rfl|rfl|rfl<;>exact⟨by decide,by decide,by decide⟩
theorem znv {w:World} {g:Nat} {cs:Array Value} {t:TypeId} {d:Nat × Nat} (l:List Rw) (h:w.heap[g]? =some (.cells cs t d)) (f:cs.toList=l.flatMap rc) (o:l.length≤100):cH w (some ⟨g,0,none⟩) l.length l:=by
 refine⟨Nat.le_refl _,by simp only[maxLen];omega,fun e=>(by cases e),?_,fun _=>⟨g,0,rfl,(zi h).1,fun j u b=>?_⟩⟩
 ·have i:∀ m:List Rw,(m.flatMap rc).length=m.length*4:=fun m=>by
   induction m with
   |nil=>rfl
   |cons a t n=>rw[List.flatMap_cons,List.length_append,n,List.length_cons];simp[rc];omega
  exact i _
 ·rw[zr h,Nat.zero_add]
  rw[←f] at b;simpa using b
theorem zeX (Kt:Nat→Int) {n:Nat} (u:4≤n) (w:n≤4096) {l:List Rw} (x:dg l=true) (y:∀ r∈l,fI r) {g:Gr Sx} (p:bW (cB (wh []) (dc Kt)) 32 ⟨iT,Rd.ce n,[]⟩ l=g):
  (g.e=0∨g.e=110)∧(bV 32 l≤n - 2→g.e=0)∧(g.e=0→g.ys.length=bV 32 l∧g.s.v.seals=g.ys.length∧g.s.v.nt=2+g.ys.length)∧ju g.s∧g.s.t.n=n∧(gr g).nt=(if g.e=0 then 2+g.ys.length else 2):=by
 have c:=RL.of_right x y;have z:=nQ c.on;obtain⟨k,-⟩:=uO (f:=wh []) (Kt:=Kt) 32 ⟨iT,Rd.ce n,[]⟩ l c uo (zhC Kt n u w);rw[p] at k;obtain⟨m,d,o⟩:=k.sq;have b:=oD (cB (wh []) (dc Kt)) 32 (⟨iT,Rd.ce n,[]⟩:Sx) l;rw[p] at b;have i:g.e=0→m.length=g.ys.length:=fun a=>by rw[o (fun t=>rfl) a,List.length_map]
 have j:g.e=0→g.s.v.nt=2+g.ys.length:=fun a=>by rw[d.nt,i a];rfl
 refine⟨k.e,fun h=>k.room (by show _≤cf iT.tk n;rw[znU n uo];exact h),fun a=>⟨b.2 a,?_,j a⟩,d.pok,d.n,?_⟩
 ·rw[d.seals,i a]
  show 0+_=_;omega
 ·unfold gr
  by_cases a:g.e=0
  ·rw[if_pos a,if_pos a];exact j a
  ·rw[if_neg a,if_neg a,(zlD rfl d).2.1];rfl
theorem zgI (Kt:Nat→Int) (w:World) (hT:Rs.Tb Kt w):Calls Tryz.prog 11 #[] w fun e w'=>e=.returned (.bool true)∧Below w.heap.size w w':=by
 obtain⟨g,hg⟩:∃ g,bW (cB (wh []) (dc Kt)) 32 ⟨iT,Rd.ce 12,[]⟩ l6=g:=⟨_,rfl⟩;obtain⟨-,f2,f3,f4,f5,-⟩:=zeX Kt (n:=12) uo uo rI uU hg;have he:g.e=0:=f2 (by rw[zlX];omega);obtain⟨f6,f7,-⟩:=f3 he;rw[zlX] at f6;obtain⟨⟨R,hR,hrd⟩,hare,⟨ps,pt',hps⟩,hr32⟩:=zlV (zhC Kt 12 uo uo) rI uU hg he;have hL:dQ g=g.ys:=if_pos he;have hV:gr g=g.s.v:=if_pos he;have HM:Hid (∀ _:True,_):=fun _=>Rv.zeW Kt 12 uo uo w hT
 have HSv:Hid (∀ (A:Pl) (W:World) (b:Nat),bP W A iT (Rd.ce 12)→Rs.Tb Kt W→cH W (some ⟨b,0,none⟩) 6 l6→¬A.has b→Calls Tryz.prog 13 #[pt A.g,.slice (some ⟨b,0,none⟩) 6 6,.slice none 0 0] W fun e w'=>∃ o' cap',e=.returned (.tuple #[.slice o' 4 cap',.int .i64 0])∧cF w' o' cap' g.ys∧(∀ b off,o'=some ⟨b,off,none⟩→W.heap.size≤b)∧bP w' A g.s.v g.s.t∧Rs.Tb Kt w'∧Rd.bC A.has W w'):=fun A W b hv hT hr hb=>by
  have:=zlG Kt A iT (Rd.ce 12) l6 (some ⟨b,0,none⟩) 6 [] none 0 W hv (rH 12 uo uo) hT hr (fun b' off e _=>by cases e;exact hb) uU rI (Sl.nil 3 W) (fun b' off e=>by cases e) (fun y hy=>by cases hy) ud g hg;refine this.mono ?_;rintro e w' ⟨o',cap',h1,h2,h3,h4,h5,h6⟩;rw[hL] at h1 h2;rw[f6,he] at h1;rw[hV] at h4;exact⟨o',cap',h1,h2,h3,h4,h5,h6⟩
 have HLs:Hid (∀ W o cap,cF W o cap g.ys→Calls Tryz.prog 22 #[.slice o 4 cap] W fun e w'=>e=.returned (.agg #[.int .u32 (g.r.p:Int),.string g.r.t])∧Below W.heap.size W w'):=fun W o cap h=>by
  have:=znu g.ys g.r pt' ps hps o cap W h;rw[f6] at this;exact this
 have HLd:Hid (∀ (A:Pl) (W:World),bP W A g.s.v g.s.t→Rs.Tb Kt W→Calls Tryz.prog 29 #[pt A.g,.agg #[.int .u32 (g.r.p:Int),.string g.r.t]] W fun e w'=>∃ o cap o2 cap2,e=.returned (.tuple #[.slice o 6 cap,.slice o2 4 cap2,.int .i64 0])∧cH w' o cap l6∧cF w' o2 cap2 g.ys∧bP w' A g.s.v g.s.t∧Rs.Tb Kt w'∧Rd.bC A.has W w'):=fun A W hv hT=>by
  refine(znn Kt A g.s.v g.s.t g.r hr32 W hv f4.vok f4.hon.ok hT (jE 12 ud) (⟨g.ys.length,R,g.ys⟩,0) hrd (fun _=>by show R.length≤12;rw[hR.length_eq];decide)).mono ?_;rintro e w' ⟨h1|⟨-,m,m1,m2,h2⟩,h3,h4,h5⟩
  ·exact absurd rfl h1.1
  ·have hm:m=l6:=zjt m2 (m1.trans hR) (zew rI)
   subst hm;rcases h2 with⟨a1,-⟩|⟨-,o,cap,o2,cap2,a1,a2,a3,-,-⟩
   ·have:gM g.ys l6=false:=a1
    rw[hare] at this;cases this
   ·have a1':e=.returned (.tuple #[.slice o 6 cap,.slice o2 4 cap2,.int .i64 0]):=by rw[a1];show Ending.returned (.tuple #[.slice o l6.length cap,.slice o2 g.ys.length cap2,.int .i64 0])=_;rw[f6];rfl
    exact⟨o,cap,o2,cap2,a1',a2,a3,h3,h4,h5⟩
 have HS9:Hid (∀ W o cap o2 cap2,cH W o cap l6→cH W o2 cap2 l6→Calls Tryz.prog 31 #[.slice o 6 cap,.slice o2 6 cap2] W fun e w'=>e=.returned (.bool true)∧Below W.heap.size W w'):=fun W o cap o2 cap2 h1 h2=>by
  have:=zj9 l6 l6 o cap o2 cap2 W h1 h2;rw[(qI gl zn8 l6 l6).2 rfl] at this;exact this
 have HS14:Hid (∀ W o cap o2 cap2,cF W o cap g.ys→cF W o2 cap2 g.ys→Calls Tryz.prog 16 #[.slice o 4 cap,.slice o2 4 cap2] W fun e w'=>e=.returned (.bool true)∧Below W.heap.size W w'):=fun W o cap o2 cap2 h1 h2=>by
  have:=zlP g.ys g.ys o cap o2 cap2 W h1 h2;rw[(qI eD zlH g.ys g.ys).2 rfl,f6] at this;exact this
 have HSl:Hid (∀ (A:Pl) W,bP W A g.s.v g.s.t→Calls Tryz.prog 35 #[pt A.g] W fun e w'=>e=.returned (.int .u64 4)∧w'=W):=fun A W hv=>by
  have:=Rv.zli A g.s.v g.s.t W hv;rw[f7,f6] at this;exact this
 have HT:Hid (Rs.Tb Kt w):=hT;clear hg f2 f3 f4 f5 he f6 f7 hR hrd hare hps hr32 hL hV hT;generalize g.r.p=rp at*
 generalize g.r.t=rt at*
 generalize g.s.v=V at*
 generalize g.s.t=T at*
 generalize g.ys=ys at*
 clear R ps pt';go_enter Tryz.func11,Tryz.ntmps11;go_wp2_with fail;refine Calls.mono (HM.o trivial) ?_;rintro e w1 ⟨A,q,rfl,hv1,hA,b1⟩;obtain⟨W2,hW2⟩:∃ W2,w1.alloc (.cells #[.int .u64 1,.int .u32 0,.int .u32 0,.string ⟨#[]⟩,.int .u64 2,.int .u32 0,.int .u32 0,.string ⟨#[]⟩,.int .u64 3,.int .u32 0,.int .u32 0,.string ⟨#[]⟩,.int .u64 4,.int .u32 0,.int .u32 0,.string ⟨#[]⟩,.int .u64 5,.int .u32 0,.int .u32 0,.string ⟨#[]⟩,.int .u64 6,.int .u32 8,.int .u32 0,.string ⟨#[]⟩] 79)=W2:=⟨_,rfl⟩;have b2:Below w1.heap.size w1 W2:=by rw[←hW2];exact bF _ _
 have g2:W2.heap[w1.heap.size]? =some (.cells #[.int .u64 1,.int .u32 0,.int .u32 0,.string ⟨#[]⟩,.int .u64 2,.int .u32 0,.int .u32 0,.string ⟨#[]⟩,.int .u64 3,.int .u32 0,.int .u32 0,.string ⟨#[]⟩,.int .u64 4,.int .u32 0,.int .u32 0,.string ⟨#[]⟩,.int .u64 5,.int .u32 0,.int .u32 0,.string ⟨#[]⟩,.int .u64 6,.int .u32 8,.int .u32 0,.string ⟨#[]⟩] 79 (0,0)):=by rw[←hW2];exact zq w1 _
 have hr2:cH W2 (some ⟨w1.heap.size,0,none⟩) 6 l6:=znv l6 g2 rfl ud;have hA1:∀ k,A.has k→k<w1.heap.size:=fun k hk=>hv1.has_lt hk
 have HS2:Hid (Calls Tryz.prog 13 #[pt A.g,.slice (some ⟨w1.heap.size,0,none⟩) 6 6,.slice none 0 0] W2 fun e w'=>∃ o' cap',e=.returned (.tuple #[.slice o' 4 cap',.int .i64 0])∧cF w' o' cap' ys∧(∀ b off,o'=some ⟨b,off,none⟩→W2.heap.size≤b)∧bP w' A V T∧Rs.Tb Kt w'∧Rd.bC A.has W2 w'):=
  HSv.o A W2 w1.heap.size (hv1.below b2 zn) ((HT.o.below b1 zn).below b2 zn) hr2 (fun e=>by have:=hA1 _ e;omega)
 have HW2s:Hid (w1.heap.size≤W2.heap.size):=b2.size;have HW2:Hid _:=hW2;have HR2:Hid (cH W2 (some ⟨w1.heap.size,0,none⟩) 6 l6∧(∀ k,A.has k→k<w1.heap.size)∧(∀ k,A.has k→w.heap.size≤k)∧Below w.heap.size w W2):=⟨hr2,hA1,hA,b1.trans (b2.mono b1.size)⟩;clear hW2 b2 g2 hr2 hA1 hA b1 hv1 HSv HM
 go_wp2_with (first|(rw[HW2.o];clear HW2))
 refine Calls.mono HS2.o ?_;rintro e w3 ⟨o3,cap3,rfl,hs3,hf3,hv3,ht3,hb3⟩;have HF3:Hid (∀ b off,o3=some ⟨b,off,none⟩→¬A.has b):=fun b off e e'=>by have:=hf3 b off e;have:=HR2.o.2.1 b e';have:=HW2s.o;omega
 clear hf3;have hrows:∀ W,Rd.bC A.has W2 W→cH W (some ⟨w1.heap.size,0,none⟩) 6 l6:=fun W hb=>nG HR2.o.1 hb.size fun b off e _ hl=>hb.block b hl fun e'=>by cases e;have:=HR2.o.2.1 _ e';omega
 have HR3:Hid (cF w3 o3 cap3 ys∧bP w3 A V T∧Rs.Tb Kt w3∧Rd.bC A.has W2 w3):=⟨hs3,hv3,ht3,hb3⟩;have HRw:Hid (∀ W,Rd.bC A.has W2 W→cH W (some ⟨w1.heap.size,0,none⟩) 6 l6):=hrows;have HL3:Hid _:=HLs.o w3 o3 cap3 hs3;clear hs3 hv3 ht3 hb3 hrows HS2;go_wp2_with fail;refine Calls.mono (HLs.o w3 o3 cap3 HR3.o.1) ?_;rintro e w4 ⟨rfl,b4⟩
 have HR4:Hid (cF w4 o3 cap3 ys∧bP w4 A V T∧Rs.Tb Kt w4∧Rd.bC A.has W2 w4):=by
  obtain⟨a1,a2,a3,a4⟩:=HR3.o;exact⟨a1.below b4 zn,a2.below b4 zn,a3.below b4 zn,a4.trans (Rd.bC.of_below b4)⟩
 have HLd4:Hid _:=HLd.o A w4 HR4.o.2.1 HR4.o.2.2.1;clear b4 HL3 HLs HR3;go_wp2_with fail;refine Calls.mono (HLd.o A w4 HR4.o.2.1 HR4.o.2.2.1) ?_;rintro e w5 ⟨o5,cap5,o6,cap6,rfl,hr5,hs5,hv5,ht5,hb5⟩;have HR5:Hid (cH w5 o5 cap5 l6∧cF w5 o6 cap6 ys∧cF w5 o3 cap3 ys∧cH w5 (some ⟨w1.heap.size,0,none⟩) 6 l6∧bP w5 A V T∧Rd.bC A.has W2 w5):=⟨hr5,hs5,HR4.o.1.keep hb5.size fun b off e _ hl=>hb5.block b hl (HF3.o b off e),HRw.o w5 (HR4.o.2.2.2.trans hb5),hv5,HR4.o.2.2.2.trans hb5⟩;clear hr5 hs5 hv5 ht5 hb5 HLd4 HLd HR4;go_wp2_with fail;refine Calls.mono (HS9.o w5 _ 6 o5 cap5 HR5.o.2.2.2.1 HR5.o.1) ?_;rintro e w6 ⟨rfl,b6⟩
 have HR6:Hid (cF w6 o6 cap6 ys∧cF w6 o3 cap3 ys∧bP w6 A V T∧Rd.bC A.has W2 w6):=by
  obtain⟨a1,a2,a3,a4,a5,a6⟩:=HR5.o;exact⟨a2.below b6 zn,a3.below b6 zn,a5.below b6 zn,a6.trans (Rd.bC.of_below b6)⟩
 clear b6 HS9 HR5;go_wp2_with fail;refine Calls.mono (HS14.o w6 o3 cap3 o6 cap6 HR6.o.2.1 HR6.o.1) ?_;rintro e w7 ⟨rfl,b7⟩;have HR7:Hid (bP w7 A V T∧Rd.bC A.has W2 w7):=⟨HR6.o.2.2.1.below b7 zn,HR6.o.2.2.2.trans (Rd.bC.of_below b7)⟩;clear b7 HS14 HR6;go_wp2_with fail;refine Calls.mono (HSl.o A w7 HR7.o.1) ?_;rintro e w8 ⟨rfl,hw8⟩;have hw8':=hw8.symm;clear hw8;subst hw8';have HFin:Hid (Below w.heap.size w w7):=HR2.o.2.2.2.trans (HR7.o.2.below (fun k hk=>HR2.o.2.2.1 k hk) HR2.o.2.2.2.size);clear HSl HR7;go_wp2_with fail;go_ret;exact⟨rfl,HFin.o⟩
theorem iU {α:Type} (f:α→Nat) (l:List α) (i:Nat):((l.take i).map f).sum≤(l.map f).sum:=by
 have h:(l.map f).sum=((l.take i).map f).sum+((l.drop i).map f).sum:=by
  rw[←List.sum_append,←List.map_append,List.take_append_drop]
 omega
theorem iV {α:Type} (f:α→Nat) (l:List α) (i:Nat) (h:i<l.length):((l.take (i+1)).map f).sum=((l.take i).map f).sum+f l[i]:=by
 rw[List.take_add_one,List.getElem?_eq_getElem h,List.map_append,List.sum_append];simp
theorem gN (d:Nat) (a0:∀ (l:List Rw) (n:Nv) (w:World) (G:Nat→Prop),ci G d w n l→l.length≤1000→bV d l≤5000→Calls Tryz.prog 39 #[nv n] w fun e w'=>e=.returned (.int .i64 (bV d l:Int))∧Below w.heap.size w w')
  (X Y L:Nat) (Z:Option Addr) (g r:Nat) (E:Option Addr) (c F:Nat) (w:World) (G:Nat→Prop)
  (q:List Nv) (kl:List (List Rw)) (e1:c=q.length) (e3:q.length=kl.length) (B:kH w E F q)
  (a1:∀ i (h1:i<q.length) (h2:i<kl.length),ci G d w q[i] kl[i]) (H:∀ m∈kl,m.length≤1000) (aj:g≤1000) (t:Nat) (ho:t=if 4<g then(g+3)/4 else 1) (hs:t+(kl.map (bV d)).sum≤5000):
  Calls Tryz.prog 39 #[.agg #[.int .u32 (X:Int),.int .u32 (Y:Int),.int .i64 (L:Int),.slice Z g r,.slice E c F]] w
   fun e w'=>e=.returned (.int .i64 ((t+(kl.map (bV d)).sum:Nat):Int))∧Below w.heap.size w w':=by
 have IH:Hid _:=a0;have a2:c≤maxLen:=by have:=B.1;have:=B.2.1;omega
 have a3:Hid (kH w E F q):=B;have a4:Hid _:=a1;have I:Hid _:=H;have J:Hid _:=hs;have K:Hid (c=q.length∧q.length=kl.length):=⟨e1,e3⟩;have a5:Hid (Below w.heap.size w (w.alloc (.cells #[.int .u32 (X:Int),.int .u32 (Y:Int),.int .i64 (L:Int),.slice Z g r,.slice E c F] 73))):=bF w _;have HG:Hid ((w.alloc (.cells #[.int .u32 (X:Int),.int .u32 (Y:Int),.int .i64 (L:Int),.slice Z g r,.slice E c F] 73)).heap[w.heap.size]? =some (.cells #[.int .u32 (X:Int),.int .u32 (Y:Int),.int .i64 (L:Int),.slice Z g r,.slice E c F] 73 (0,0))):=zq w _;clear B a1 a0 e1 e3 H hs;have q2:((g:Int)+3).tdiv 4=(((g+3)/4:Nat):Int):=by rw[Int.tdiv_eq_ediv_of_nonneg uo];omega
 have q3:IntKind.i64.wrap (((g+3)/4:Nat):Int)=(((g+3)/4:Nat):Int):=wrap_i64 uo uo;by_cases hd:(4:Int)<(g:Int)
 ·have a6:=decide_eq_true hd
  have C:(((g+3)/4:Nat):Int)=(t:Int):=by rw[ho,if_pos uo]
  rw[C] at q2 q3;clear ho C;go_enter Tryz.func39,Tryz.ntmps39;go_wp2_with fail
  go_loopw [3,4] (fun o j wr=>∃ i a:Nat,i≤c∧o=.int .i64 (a:Int)∧j=.int .i64 (i:Int)∧a=t+((kl.take i).map (bV d)).sum∧wr.heap[w.heap.size]? =some (.cells #[.int .u32 (X:Int),.int .u32 (Y:Int),.int .i64 (L:Int),.slice Z g r,.slice E c F] 73 (0,0))∧Below w.heap.size w wr) (fun _ j _=>c - bu j)
  case atStart=>exact⟨0,t,by omega,rfl,rfl,by simp,HG.o,a5.o⟩
  case round=>
   obtain⟨i,a,hi,rfl,rfl,u,M,N⟩:=hrel;have v:Hid _:=u;have O:Hid _:=M;have f:Hid _:=N;have D:=(zi M).1;have P:Hid (w.heap.size<wr.heap.size):=D;obtain⟨z0,z1,z2,z3,z4,f0,f1,f2,f3,f4⟩:=et M;clear z0 z1 z2 z3 z4 u;by_cases a7:i<c
   ·have x:i<q.length:=by have:=K.o.1;omega
    have k:i<kl.length:=by have:=K.o.2;omega
    obtain⟨b,a8,rfl,h,hc⟩:=a3.o.node uo;have Q:=iV (bV d) kl i k;have a9:=iU (bV d) kl (i+1);have aa:=J.o;have R:=I.o kl[i] (List.getElem_mem k);have S:bV d kl[i]≤5000:=uo
    have p:Hid (∀ W,Below w.heap.size w W→_):=fun W hW=>IH.o kl[i] q[i] W G ((a4.o i x k).below hW zn) R S
    have x1:=(hc i x).same (N.block b h)
    have y:Hid (a+bV d kl[i]=t+((kl.take (i+1)).map (bV d)).sum):=by
     refine(?_:a+bV d kl[i]=t+((kl.take (i+1)).map (bV d)).sum);rw[v.o,Q];omega
    have ab:a+bV d kl[i]≤5000:=by have:=y.o;omega
    generalize q[i]=k1 at*
    generalize bV d kl[i]=T at*
    have q4:(i:Int)<(c:Int):=uo
    have i0:(0:Int)≤(i:Int):=uo
    have i1:IntKind.i64.wrap ((i:Int)+1)=(i:Int)+1:=wrap_i64 uo (by simp only[maxLen] at a2;omega);have i2:IntKind.i64.wrap ((a:Int)+(T:Int))=((a+T:Nat):Int):=by rw[wrap_i64 uo uo];omega
    have ac:b<wr.heap.size:=Nat.lt_of_lt_of_le h N.size;obtain⟨kX,kY,kL,ad,ae,af,ag,ah,ai⟩:=k1;obtain⟨c1,c2,c3,c4,c5⟩:=x1;simp only at c1 c2 c3 c4 c5;go_wp2_with fail;refine Calls.mono (p.o wr f.o) ?_;rintro e w2 ⟨rfl,b1⟩;have U:Hid _:=(b1.block _ P.o).trans O.o;have V:Hid (Below w.heap.size w w2):=f.o.trans (b1.mono f.o.size);go_wp2_with fail
    go_roundw
    case rel=>exact⟨i+1,a+T,by omega,rfl,by go_num,y.o,U.o,V.o⟩
    case measure=>simp[bu];omega
   ·obtain rfl:i=c:=uo
    have q4:¬(i:Int)<(i:Int):=uo
    have A:Hid ((a:Int)=((t+(kl.map (bV d)).sum:Nat):Int)):=by
     refine(?_:(a:Int)=((t+(kl.map (bV d)).sum:Nat):Int));rw[v.o,List.take_of_length_le (by have:=K.o.1;have:=K.o.2;omega)]
    go_wp2_with fail;go_ret;exact⟨congrArg (fun z=>Ending.returned (Value.int .i64 z)) A.o,f.o⟩
 ·have a6:decide ((4:Int)<(g:Int))=false:=decide_eq_false hd
  have C:t=1:=by rw[ho,if_neg uo]
  subst C;clear ho  q2 q3;go_enter Tryz.func39,Tryz.ntmps39;go_wp2_with fail
  go_loopw [3,4] (fun o j wr=>∃ i a:Nat,i≤c∧o=.int .i64 (a:Int)∧j=.int .i64 (i:Int)∧a=1+((kl.take i).map (bV d)).sum∧wr.heap[w.heap.size]? =some (.cells #[.int .u32 (X:Int),.int .u32 (Y:Int),.int .i64 (L:Int),.slice Z g r,.slice E c F] 73 (0,0))∧Below w.heap.size w wr) (fun _ j _=>c - bu j)
  case atStart=>exact⟨0,1,by omega,rfl,rfl,by simp,HG.o,a5.o⟩
  case round=>
   obtain⟨i,a,hi,rfl,rfl,u,M,N⟩:=hrel;have v:Hid (a=1+((kl.take i).map (bV d)).sum):=u;have O:Hid _:=M;have f:Hid (Below w.heap.size w wr):=N;have D:w.heap.size<wr.heap.size:=(zi M).1;have P:Hid (w.heap.size<wr.heap.size):=D;obtain⟨z0,z1,z2,z3,z4,f0,f1,f2,f3,f4⟩:=et M;clear z0 z1 z2 z3 z4 u;by_cases a7:i<c
   ·have x:i<q.length:=by have:=K.o.1;omega
    have k:i<kl.length:=by have:=K.o.2;omega
    obtain⟨b,a8,rfl,h,hc⟩:=a3.o.node uo;have Q:=iV (bV d) kl i k;have a9:=iU (bV d) kl (i+1);have aa:=J.o;have R:=I.o kl[i] (List.getElem_mem k);have S:bV d kl[i]≤5000:=uo
    have p:Hid (∀ W,Below w.heap.size w W→_):=fun W hW=>IH.o kl[i] q[i] W G ((a4.o i x k).below hW zn) R S
    have x1:=(hc i x).same (N.block b h)
    have y:Hid (a+bV d kl[i]=1+((kl.take (i+1)).map (bV d)).sum):=by
     refine(?_:a+bV d kl[i]=1+((kl.take (i+1)).map (bV d)).sum);rw[v.o,Q];omega
    have ab:a+bV d kl[i]≤5000:=by have:=y.o;omega
    generalize q[i]=k1 at*
    generalize bV d kl[i]=T at*
    have q4:(i:Int)<(c:Int):=uo
    have i1:IntKind.i64.wrap ((i:Int)+1)=(i:Int)+1:=wrap_i64 uo (by simp only[maxLen] at a2;omega)
    obtain⟨kX,kY,kL,ad,ae,af,ag,ah,ai⟩:=k1;obtain⟨c1,c2,c3,c4,c5⟩:=x1;simp only at c1 c2 c3 c4 c5;go_wp2_with fail;refine Calls.mono (p.o wr f.o) ?_;rintro e w2 ⟨rfl,b1⟩;have U:Hid _:=(b1.block _ P.o).trans O.o;have V:Hid (Below w.heap.size w w2):=f.o.trans (b1.mono f.o.size);go_wp2_with fail
    go_roundw
    case rel=>exact⟨i+1,a+T,by omega,rfl,by go_num,y.o,U.o,V.o⟩
    case measure=>simp[bu];omega
   ·obtain rfl:i=c:=uo
    have A:Hid ((a:Int)=((1+(kl.map (bV d)).sum:Nat):Int)):=by
     refine(?_:(a:Int)=((1+(kl.map (bV d)).sum:Nat):Int));rw[v.o,List.take_of_length_le (by have:=K.o.1;have:=K.o.2;omega)]
    clear N M D;go_wp2_with fail;go_ret;exact⟨congrArg (fun z=>Ending.returned (Value.int .i64 z)) A.o,f.o⟩
theorem fR:∀ (d:Nat) (l:List Rw) (n:Nv) (w:World) (G:Nat→Prop),ci G d w n l→l.length≤1000→bV d l≤5000→
  Calls Tryz.prog 39 #[nv n] w fun e z=>e=.returned (.int .i64 (bV d l:Int))∧Below w.heap.size w z
 |0,_,_,_,_,h,_,_=>h.elim
 |d+1,l,n,w,G,h,r,s=>by
  obtain⟨X,Y,L,t,C,k,u,A,v⟩:=n;obtain⟨-,-,-,x,y⟩:=h;cases j:leaf l
  ·obtain⟨a,b,B,c,e,f,_,g⟩:=y j
   subst a
   have o:bV (d+1) l=((cR l).map (bV d)).sum+1:=by
    show(if leaf l=true then cY l else((cR l).map (bV d)).sum+1)=_;rw[if_neg (by rw[j];simp)]
   have:=gN d (fR d) X Y L t 0 k u A v w G B (cR l) c e f g (fun m p=>by
    obtain⟨-,q,-,rfl⟩:=jj p;exact Nat.le_trans (oP l q) r) uo 1 rfl uo
   rw[o,Nat.add_comm];exact this
  ·obtain⟨a,b,_,c,e⟩:=x j
   subst a c
   have o:bV (d+1) l=cY l:=by
    show(if leaf l=true then cY l else((cR l).map (bV d)).sum+1)=_;rw[if_pos j]
   have:=gN d (fR d) X Y L t l.length k u 0 v w G [] [] rfl rfl e (fun i h=>absurd h us) (fun m p=>by cases p) r (cY l) (by unfold cY;split<;>omega) (by rw[o] at s;simpa using s);rw[o];exact this
open Rv (bP Vs Pl df fE zc2)
theorem kh (Kt:Nat→Int) (A:Pl) (l:List Rw) (S:l.length≤24) (o:Option Addr) (c:Nat) (w:World) (F:bP w A (df (fE 1) 1 7) (Rd.ce 60)) (G:Rs.Tb Kt w)
  (H:cH w o c l) (p:∀ b f,o=some ⟨b,f,none⟩→0<l.length→¬A.has b) (h:∀ r∈l,fI r) (q:dg l=true) {m:Nat} (I:l.length=m):
  Calls Tryz.prog 13 #[pt A.g,.slice o m c,.slice none 0 0] w fun e d=>∃ u a,e=.returned (.tuple #[.slice u (bV 32 l) a,.int .i64 0])∧Rd.bC A.has w d∧
   (∀ W,Below d.heap.size d W→Calls Tryz.prog 20 #[pt A.g] W fun e W'=>e=.returned (.int .i64 ((58 - bV 32 l:Nat):Int))∧Below W.heap.size W W')∧
   (∀ W,Below d.heap.size d W→Calls Tryz.prog 35 #[pt A.g] W fun e W'=>e=.returned (.int .u64 (bV 32 l:Int))∧W'=W):=by
 subst I;obtain⟨g,C⟩:∃ g,bW (cB (wh []) (dc Kt)) 32 ⟨iT,Rd.ce 60,[]⟩ l=g:=⟨_,rfl⟩;obtain⟨-,J,K,L,D,M⟩:=zeX Kt (n:=60) uo uo q h C;have N:=oF 32 l (ji q);have i:=J uo;obtain⟨x,O,-⟩:=K i;have P:dQ g=g.ys:=if_pos i;have E:gr g=g.s.v:=if_pos i;have j:g.s.v.nt=2+bV 32 l:=by rw[←E,M,if_pos i,x]
 refine(zlG Kt A iT (Rd.ce 60) l o c [] none 0 w F (rH 60 uo uo) G H p h q (Sl.nil 3 w) (fun U f e=>by cases e) (fun y Q=>by cases Q) ud g C).mono ?_;rintro e d ⟨u,a,rfl,V,X,z,Y,R⟩;rw[E] at z;refine⟨u,a,by rw[P,x,i],R,fun W B=>?_,fun W B=>?_⟩
 ·have:=zc2 A g.s.v g.s.t W (z.below B zn) L.hon.ok (by rw[j,D];omega)
  rw[j,D] at this;rw[show 58 - bV 32 l=60 - (2+bV 32 l) by omega];exact this
 ·have:=Rv.zli A g.s.v g.s.t W (z.below B zn)
  rw[O,x] at this;exact this
open Rv (bP Vs Pl df fE)
theorem groveFew_walk (Kt:Nat→Int) (l:List Rw) (o:Option Addr) (cap:Nat) (hK:∀ r∈l,fI r) (w:World) (hr:cH w o cap l) (hT:Rs.Tb Kt w):
  Calls Tryz.prog 10 #[.slice o l.length cap] w fun e w'=>e=.returned (.bool true)∧Below w.heap.size w w':=by
 have HSh:Hid (∀ _:True,_):=fun _=>zgI Kt w hT
 have HR:Hid (cH w o cap (l.take 24)):=zp8 hr;have HT:Hid (Rs.Tb Kt w):=hT;have HK:Hid (∀ r∈l.take 24,fI r):=fun r hr=>hK r (List.mem_of_mem_take hr)
 have hl24:(l.take 24).length≤24:=by rw[List.length_take];omega
 have HFw:Hid (∀ W,Below w.heap.size w W→Calls Tryz.prog 14 #[.slice o l.length cap] W fun e w'=>e=.returned (.slice o (l.take 24).length cap)∧w'=W):=fun W hW=>zlW l o cap W (hr.below hW zn)
 obtain⟨L,hL⟩:∃ L,l.length=L:=⟨_,rfl⟩;rw[hL] at HFw ⊢;generalize l.take 24=l1 at*
 clear hr hT hK hL;obtain⟨m,hm⟩:∃ m,l1.length=m:=⟨_,rfl⟩;rw[hm] at HFw;have HM:Hid (l1.length=m):=hm;have HL24:Hid (l1.length≤24):=hl24;clear hm hl24;go_enter Tryz.func10,Tryz.ntmps10;go_wp2_with fail;refine Calls.mono (HSh.o trivial) ?_;rintro e w1 ⟨rfl,b1⟩;have HB1:Hid (Below w.heap.size w w1):=b1;have HFw1:Hid _:=HFw.o w1 b1;clear b1 HSh;go_wp2_with fail;refine Calls.mono (HFw.o w1 HB1.o) ?_;rintro e w1' ⟨rfl,hw1⟩;subst hw1;clear HFw HFw1;have HMd:Hid (∀ _:True,_):=fun _=>Rv.zeW Kt 60 uo uo w1' (HT.o.below HB1.o zn)
 go_wp2_with fail;refine Calls.mono (HMd.o trivial) ?_;rintro e w2 ⟨A,q,rfl,hv2,hA,b2⟩;have HB2:Hid (Below w.heap.size w w2):=HB1.o.trans (b2.mono HB1.o.size);have HV2:Hid (bP w2 A (df (fE 1) 1 7) (Rd.ce 60)):=hv2;have HA:Hid (∀ k,A.has k→w.heap.size≤k):=fun k hk=>Nat.le_trans HB1.o.size (hA k hk)
 have HAl:Hid (∀ k,A.has k→k<w2.heap.size):=fun k hk=>hv2.has_lt hk
 have HNo:Hid (∀ b off,o=some ⟨b,off,none⟩→0<l1.length→¬A.has b):=fun b off e hn hb=>by
  obtain⟨b',off',e',hlt,-⟩:=HR.o.2.2.2.2 hn;rw[e] at e';cases e';have:=HA.o b hb;omega
 have HRw:Hid (∀ W,Rd.bC A.has w2 W→cH W o cap l1):=fun W hb=>nG (HR.o.below HB2.o zn) hb.size fun b off e hn hl=>hb.block b hl (HNo.o b off e hn)
 clear hv2 hA b2 HMd HB1;cases h0:dg l1
 ·have HBu:Hid (Calls Tryz.prog 36 #[.slice o m cap] w2 fun e w'=>e=.returned (.tuple #[nv ⟨0,0,0,none,0,0,none,0,0⟩,.int .i64 80])∧Below w2.heap.size w2 w'):=by
   have:=sY l1 o cap w2 (HRw.o w2 (Rd.bC.of_below (Below.refl _ _))) h0;rw[HM.o] at this;exact this
  have HSv:Hid (∀ W,Rd.bC A.has w2 W→bP W A (df (fE 1) 1 7) (Rd.ce 60)→Calls Tryz.prog 13 #[pt A.g,.slice o m cap,.slice none 0 0] W fun e w'=>e=.returned (.tuple #[.slice none 0 0,.int .i64 80])∧Rd.bC A.has W w'):=fun W hW hV=>by
   have:=znh A (df (fE 1) 1 7) (Rd.ce 60) l1 o cap (.slice none 0 0) W hV (rH 60 uo uo).hon.ok (HRw.o W hW) HNo.o h0;rw[HM.o] at this;exact this.mono fun e w' ⟨h1,h2,h3⟩=>⟨h1,h3⟩
  go_wp2_with fail;refine Calls.mono HBu.o ?_;rintro e w3 ⟨rfl,b3⟩;have b4:=bF w3 (.cells #[.int .u32 0,.int .u32 0,.int .i64 0,.slice none 0 0,.slice none 0 0] 73);obtain⟨W4,hW4⟩:∃ W4,w3.alloc (.cells #[.int .u32 0,.int .u32 0,.int .i64 0,.slice none 0 0,.slice none 0 0] 73)=W4:=⟨_,rfl⟩;rw[hW4] at b4;have hb4:Below w2.heap.size w2 W4:=b3.trans (b4.mono b3.size);have HS4:Hid _:=HSv.o W4 (Rd.bC.of_below hb4) (HV2.o.below hb4 zn);have HB4:Hid (Below w.heap.size w W4):=HB2.o.trans (hb4.mono HB2.o.size);have HW4:Hid _:=hW4;clear b3 b4 hb4 HSv HBu hW4;go_wp2_with fail;rw[HW4.o];refine Calls.mono HS4.o ?_;rintro e w5 ⟨rfl,hb5⟩;have HB5:Hid (Below w.heap.size w w5):=HB4.o.trans (hb5.below (fun k hk=>HA.o k hk) HB4.o.size);clear hb5 HS4;go_wp2_with fail;go_ret;exact⟨rfl,HB5.o⟩
 ·have HBu:Hid (Calls Tryz.prog 36 #[.slice o m cap] w2 fun e w'=>∃ n:Nv,e=.returned (.tuple #[nv n,.int .i64 0])∧ci (fun b=>w2.heap.size≤b) 32 w' n l1∧Below w2.heap.size w2 w'):=by
   have:=sZ l1 o cap w2 (HRw.o w2 (Rd.bC.of_below (Below.refl _ _))) h0;rw[HM.o] at this;exact this
  have HRb:Hid (∀ W,Rd.bC A.has w2 W→Calls Tryz.prog 37 #[.slice o m cap] W fun e w'=>∃ n:Nv,e=.returned (.tuple #[nv n,.int .i64 0])∧ci (fun b=>W.heap.size≤b) 32 w' n l1∧Below W.heap.size W w'):=fun W hW=>by
   have:=jX l1 o cap W (HRw.o W hW) h0;rw[HM.o] at this;exact this
  have hpm:=oF 32 l1 (ji h0);have h24:=HL24.o;have HNd:Hid (∀ n W G,ci G 32 W n l1→Calls Tryz.prog 39 #[nv n] W fun e w'=>e=.returned (.int .i64 (bV 32 l1:Int))∧Below W.heap.size W w'):=fun n W G h=>fR 32 l1 n W G h uo uo
  have HSN:Hid (∀ n n' W G G',ci G 32 W n l1→ci G' 32 W n' l1→Calls Tryz.prog 38 #[nv n,nv n'] W fun e w'=>e=.returned (.bool true)∧Below W.heap.size W w'):=fun n n' W G G' h h'=>dr 32 l1 n n' W G G' h h'
  have HSv:Hid (∀ W,Rd.bC A.has w2 W→bP W A (df (fE 1) 1 7) (Rd.ce 60)→Rs.Tb Kt W→_):=fun W hW hV hTb=>kh Kt A l1 HL24.o o cap W hV hTb (HRw.o W hW) HNo.o HK.o h0 HM.o
  have HTw:Hid (∀ W,Below w.heap.size w W→Rs.Tb Kt W):=fun W hW=>HT.o.below hW zn
  obtain⟨P,hP⟩:∃ P,bV 32 l1=P:=⟨_,rfl⟩;have hP58:P≤58:=uo
  rw[hP] at HNd HSv;obtain⟨F,hF⟩:∃ F:Int,((58 - P:Nat):Int)=F:=⟨_,rfl⟩;have q1:IntKind.i64.wrap (58 - (P:Int))=F:=by rw[wrap_i64 uo uo];omega
  have q2:IntKind.u64.wrap (P:Int)=(P:Int):=wrap_u64 uo uo;rw[hF] at HSv;clear hpm h24 hP hF hP58;go_wp2_with fail;refine Calls.mono HBu.o ?_;rintro e w3 ⟨n,rfl,hN,b3⟩;have hN':=rB hN;obtain⟨nX,nY,nL,nro,nrn,nrc,nko,nkn,nkc⟩:=n;have b4:=bF w3 (ev ⟨nX,nY,nL,nro,nrn,nrc,nko,nkn,nkc⟩);have e4:=zq w3 (ev ⟨nX,nY,nL,nro,nrn,nrc,nko,nkn,nkc⟩);obtain⟨W4,hW4⟩:∃ W4,w3.alloc (ev ⟨nX,nY,nL,nro,nrn,nrc,nko,nkn,nkc⟩)=W4:=⟨_,rfl⟩;rw[hW4] at b4 e4;have hb4:Below w2.heap.size w2 W4:=b3.trans (b4.mono b3.size);have hbw4:=HB2.o.trans (hb4.mono HB2.o.size);have HS4:Hid _:=HSv.o W4 (Rd.bC.of_below hb4) (HV2.o.below hb4 zn) (HTw.o W4 hbw4);have HB4:Hid (Below w.heap.size w W4):=hbw4;have HN4:Hid (ci (fun b=>w2.heap.size≤b∧b<w3.heap.size) 32 W4 ⟨nX,nY,nL,nro,nrn,nrc,nko,nkn,nkc⟩ l1∧W4.heap[w3.heap.size]? =some (ev ⟨nX,nY,nL,nro,nrn,nrc,nko,nkn,nkc⟩)∧w2.heap.size≤w3.heap.size∧w3.heap.size<W4.heap.size∧Rd.bC A.has w2 W4):=⟨hN'.below b4 zn,e4,b3.size,(zi e4).1,Rd.bC.of_below hb4⟩
  have HW4:Hid _:=hW4;clear b3 b4 hb4 hbw4 HSv HBu hW4 hN hN' e4;go_wp2_with fail;rw[HW4.o];refine Calls.mono HS4.o ?_;rintro e w5 ⟨o5,cap5,rfl,hb5,hfr,hse⟩;have hA5:∀ k,w2.heap.size≤k→¬A.has k:=fun k hk e=>by have:=HAl.o k e;omega
  obtain⟨x1,x2,x3,x4,x5⟩:=HN4.o;have HN5:Hid (ci (fun b=>w2.heap.size≤b∧b<w3.heap.size) 32 w5 ⟨nX,nY,nL,nro,nrn,nrc,nko,nkn,nkc⟩ l1∧w5.heap[w3.heap.size]? =some (ev ⟨nX,nY,nL,nro,nrn,nrc,nko,nkn,nkc⟩)∧w3.heap.size<w5.heap.size):=⟨x1.same hb5.size fun b hG hl=>hb5.block b hl (hA5 b hG.1),(hb5.block _ x4 (hA5 _ x3)).trans x2,Nat.lt_of_lt_of_le x4 hb5.size⟩;have HB5:Hid (Below w.heap.size w w5):=HB4.o.trans (hb5.below (fun k hk=>HA.o k hk) HB4.o.size);have HFr:Hid _:=hfr;have HSe:Hid _:=hse;have HR5:Hid _:=HRb.o w5 (x5.trans hb5);clear hb5 hfr hse HS4 hA5 x1 x2 x3 x4 x5 HN4 HRb HRw HNo;go_wp2_with fail;refine Calls.mono HR5.o ?_;rintro e w6 ⟨r,rfl,hM,b6⟩;obtain⟨rX,rY,rL,rro,rrn,rrc,rko,rkn,rkc⟩:=r;have b7:=bF w6 (ev ⟨rX,rY,rL,rro,rrn,rrc,rko,rkn,rkc⟩);have e7:=zq w6 (ev ⟨rX,rY,rL,rro,rrn,rrc,rko,rkn,rkc⟩);obtain⟨W7,hW7⟩:∃ W7,w6.alloc (ev ⟨rX,rY,rL,rro,rrn,rrc,rko,rkn,rkc⟩)=W7:=⟨_,rfl⟩
  rw[hW7] at b7 e7;obtain⟨x1,x2,x3⟩:=HN5.o;have b57:Below w5.heap.size w5 W7:=b6.trans (b7.mono b6.size);have e8:=(b57.block _ x3).trans x2;have HN7:Hid (ci (fun b=>w2.heap.size≤b∧b<w3.heap.size) 32 W7 ⟨nX,nY,nL,nro,nrn,nrc,nko,nkn,nkc⟩ l1∧ci (fun b=>w5.heap.size≤b) 32 W7 ⟨rX,rY,rL,rro,rrn,rrc,rko,rkn,rkc⟩ l1):=⟨x1.below b57 zn,hM.below b7 zn⟩;have HB7:Hid (Below w.heap.size w W7∧Below w5.heap.size w5 W7):=⟨HB5.o.trans (b57.mono HB5.o.size),b57⟩;have HE7:Hid (W7.heap[w6.heap.size]? =some (ev ⟨rX,rY,rL,rro,rrn,rrc,rko,rkn,rkc⟩)∧w6.heap.size<W7.heap.size):=⟨e7,(zi e7).1⟩;have HW7:Hid _:=hW7;obtain⟨-,-,-,-,-,f0,f1,f2,f3,f4⟩:=et e7;obtain⟨-,-,-,-,-,g0,g1,g2,g3,g4⟩:=et e8;rw[←hW7] at f0 f1 f2 f3 f4 g0 g1 g2 g3 g4;clear b6 b7 e7 e8 hW7 x1 x2 x3 b57 hM HR5 HN5 HB5;go_wp2_with fail;rw[HW7.o];refine Calls.mono (HSN.o ⟨rX,rY,rL,rro,rrn,rrc,rko,rkn,rkc⟩ ⟨nX,nY,nL,nro,nrn,nrc,nko,nkn,nkc⟩ W7 _ _ HN7.o.2 HN7.o.1) ?_
  rintro e w8 ⟨rfl,b8⟩;clear f0 f1 f2 f3 f4 g0 g1 g2 g3 g4;have e8:=(b8.block _ HE7.o.2).trans HE7.o.1;have HM8:Hid _:=HN7.o.2.below b8 zn;have HB8:Hid (Below w.heap.size w w8∧Below w5.heap.size w5 w8):=⟨HB7.o.1.trans (b8.mono HB7.o.1.size),HB7.o.2.trans (b8.mono HB7.o.2.size)⟩;obtain⟨-,-,-,-,-,f0,f1,f2,f3,f4⟩:=et e8;clear b8 e8 HE7 HN7 HB7 HSN;go_wp2_with fail;refine Calls.mono (HNd.o ⟨rX,rY,rL,rro,rrn,rrc,rko,rkn,rkc⟩ w8 _ HM8.o) ?_;rintro e w9 ⟨rfl,b9⟩;have HB9:Hid (Below w.heap.size w w9∧Below w5.heap.size w5 w9):=⟨HB8.o.1.trans (b9.mono HB8.o.1.size),HB8.o.2.trans (b9.mono HB8.o.2.size)⟩;clear b9 HM8 HB8 HNd f0 f1 f2 f3 f4;go_wp2_with fail;refine Calls.mono (HFr.o w9 HB9.o.2) ?_;rintro e w10 ⟨rfl,b10⟩;have HB10:Hid (Below w.heap.size w w10∧Below w5.heap.size w5 w10):=⟨HB9.o.1.trans (b10.mono HB9.o.1.size),HB9.o.2.trans (b10.mono HB9.o.2.size)⟩
  clear b10 HB9 HFr;go_wp2_with fail;refine Calls.mono (HSe.o w10 HB10.o.2) ?_;rintro e w11 ⟨rfl,hw11⟩;have hw:=hw11.symm;clear hw11;subst hw;clear HSe;go_wp2_with fail;go_ret;exact⟨rfl,HB10.o.1⟩
end Rz
end Go.Proofs.YtokfnghckpgjmaaGreatDoor
