/- Rows sorted by their Ids, however many: by the library's own contract. -/
import Derived.Shelf.SlSortCmp.WholeK
import Derived.Test.YtokfnghckpgjmaaGreatDoorQHgy
import Derived.Test.YtokfnghckpgjmaaGreatDoorPAq
set_option maxRecDepth 100000
set_option maxHeartbeats 4000000
namespace Go.Proofs.YtokfnghckpgjmaaGreatDoor
namespace Rz
open Go.RowKit Go.Lib Go.Shelf
open Rc Rq
theorem load1_grow (a b:Rw) (w:World):Calls Tryz.prog 61 #[rv a,rv b] w fun e w'=>e=.returned (.int .i64 (cmpI a.id b.id))∧∃ q os,w'=Sort.grow (w.drewN q) os:=by
 obtain⟨W0,hW0⟩:∃ W0,(w.alloc (.cells #[.int .u64 (a.id:Int),.int .u32 (a.x:Int),.int .u32 (a.y:Int),.string a.v] 79)).alloc (.cells #[.int .u64 (b.id:Int),.int .u32 (b.x:Int),.int .u32 (b.y:Int),.string b.v] 79)=W0:=⟨_,rfl⟩;have b2:=zaa (w.alloc (.cells #[.int .u64 (a.id:Int),.int .u32 (a.x:Int),.int .u32 (a.y:Int),.string a.v] 79)) (.cells #[.int .u64 (b.id:Int),.int .u32 (b.x:Int),.int .u32 (b.y:Int),.string b.v] 79);have s1:(w.alloc (.cells #[.int .u64 (a.id:Int),.int .u32 (a.x:Int),.int .u32 (a.y:Int),.string a.v] 79)).heap.size=w.heap.size+1:=by simp
 have g1:=zq w (.cells #[.int .u64 (a.id:Int),.int .u32 (a.x:Int),.int .u32 (a.y:Int),.string a.v] 79);have g2:=zq (w.alloc (.cells #[.int .u64 (a.id:Int),.int .u32 (a.x:Int),.int .u32 (a.y:Int),.string a.v] 79)) (.cells #[.int .u64 (b.id:Int),.int .u32 (b.x:Int),.int .u32 (b.y:Int),.string b.v] 79);have hE:∃ q os,W0=Sort.grow (w.drewN q) os:=⟨0,_,by rw[←hW0,Sort.alloc_eq_grow,Sort.alloc_eq_grow,Sort.grow_grow];rfl⟩;rw[hW0,s1] at b2 g2;have h1:=(b2.block w.heap.size (by omega)).trans g1;have c0:=(zdo h1).1;have d0:=(zdo g2).1;have l0:w.heap.size<W0.heap.size:=(zi h1).1;have l1:w.heap.size+1<W0.heap.size:=(zi g2).1;have HB:Hid (∃ q os,W0=Sort.grow (w.drewN q) os):=hE;have HW0:Hid _:=hW0;have HC:Hid (∀ _:True,_):=fun _=>zhz a.id b.id W0
 obtain⟨ai,ax,ay,av⟩:=a;obtain⟨bi,bx,by',bv⟩:=b;simp only at c0 d0 HC;generalize cmpI ai bi=c at*
 clear hW0 b2 s1 g1 g2 h1 hE;go_enter Tryz.func61,Tryz.ntmps61
 go_wp2_with (first|(rw[HW0.out];clear HW0))
 refine Calls.mono (HC.out trivial) ?_;rintro e w1 ⟨rfl,hw⟩;have hw':=hw.symm;clear hw;subst hw';clear HC;go_wp2_with fail;go_ret;exact⟨rfl,HB.out⟩
theorem rc_get (r:Rw) (j:Nat) (h:j<4):(rc r)[j]? =some (rc r)[j]! :=by
 have:j<(rc r).length:=h;rw[List.getElem?_eq_getElem this,getElem!_pos (rc r) j this]
theorem holds_ur {w:World} {g z:Nat} {d:Array Rw} (h:Ur w g z d):Sort.HoldsK rc 4 w g 0 d:=by
 obtain⟨cs,h1,h2,h3⟩:=h;intro t ht;rw[Sort.size_flatK] at ht;refine⟨?_,frozen_of_row w _ _ _ _ h1⟩;rw[Sort.get_flatK _ _ _ t ht,zr h1];have e:=h3 (t/4) (by omega) (t%4) (by omega);rw[rc_get _ _ (by omega)] at e;rw[show 0+t=t/4*4+t%4 by omega];exact e
theorem sorted_ur {w:World} {g z n:Nat} {d d':Array Rw} {os:Array Obj} (h:Ur w g z d) (hs:d'.size=d.size):Ur (sortWorldK rc 4 w g 0 n d' os) g z d'∧Bg g w (sortWorldK rc 4 w g 0 n d' os):=by
 have hl:=h.lt;obtain⟨cs,h1,h2,h3⟩:=h
 have hh:∀ k,k<w.heap.size→(sortWorldK rc 4 w g 0 n d' os).heap[k]? =(w.heap.modify g (Sort.onCells (Sort.putCells id 0 (Sort.flatK rc 4 d'))))[k]? :=fun k hk=>by
  show(w.heap.modify g (Sort.onCells (Sort.putCells id 0 (Sort.flatK rc 4 d')))++os)[k]? =_;rw[Array.getElem?_append_left (by simpa using hk)]
 refine⟨⟨Sort.putCells id 0 (Sort.flatK rc 4 d') cs,?_,⟨by simp[Sort.putCells,h2.1],by rw[hs];exact h2.2⟩,fun i hi j hj=>?_⟩,⟨rfl,rfl,rfl,size_sortWorldK_c rc 4 w g 0 n d' os,fun k hk hn=>?_⟩⟩
 ·rw[hh g hl,Array.getElem?_modify,if_pos rfl,h1];rfl
 ·have hz:i*4+j<cs.size:=by have:=h2.1;have:=h2.2;omega
  have ht:i*4+j<d'.size*4:=by omega
  unfold Sort.putCells;rw[Array.getElem?_mapIdx,Array.getElem?_eq_getElem hz];simp only[Option.map_some];rw[if_pos ⟨Nat.zero_le _,by rw[Sort.size_flatK];omega⟩,Nat.sub_zero,Sort.get_flatK _ _ _ _ ht,show(i*4+j)/4=i by omega,show(i*4+j)%4=j by omega,rc_get _ _ hj];rfl
 ·rw[hh k hk,Array.getElem?_modify,if_neg (fun e=>hn e.symm)]
theorem swo_cmpI:Sort.SWO (ltOf fun a b:Rw=>cmpI a.id b.id):=by
 have e:(ltOf fun a b:Rw=>cmpI a.id b.id)=fun a b=>decide (rid a<rid b):=by
  funext a b
  unfold ltOf cmpI rid;by_cases h:a.id<b.id
  ·simp[h]
  ·by_cases h':b.id<a.id<;>simp[h,h']
 rw[e];exact zpc rid
theorem sortsR_any (N:Nat) (hN:N≤1000000):ziu N:=by
 intro g z cap d w hd h
 refine(AnyQ.slices_SortFunc Tryz.sortL 4 Tryz.isAgg79 Tryz.sizeOf79 rc (fun _=>rfl) (fun x v hv=>by simp[rc] at hv;rcases hv with rfl|rfl|rfl|rfl<;>rfl) (fun a b=>cmpI a.id b.id) swo_cmpI 61 #[] g 0 cap d w
  (enters_of Tryz.func61 (by kernel_rfl) rfl) (fun m os dk _ x y=>load1_grow x y _) (holds_ur h) h.lt (by omega)).mono ?_
 rintro e w' ⟨rfl,d',n,os,hp,hs,rfl⟩;obtain⟨u,b⟩:=sorted_ur (n:=n) (os:=os) h hp.1;refine⟨rfl,⟨d',u,fun i j hi hij hj=>?_,hp⟩,b⟩;have h':decide (cmpI d'[j]!.id d'[i]!.id<0)=false:=hs i j hi hij hj;show d'[i]!.id≤d'[j]!.id;by_cases c:d'[j]!.id<d'[i]!.id
 ·rw[show cmpI d'[j]!.id d'[i]!.id=-1 from if_pos c] at h'
  exact absurd h' (by decide)
 ·omega
open Rw (Rf fcv fc zaB Pp PAt PgAt okP encS encE pz gv Pg rpp pB gcs zbF decP decE)
open Rv (FB zab zaS Vlt Vs Pl Vok Hon zaw cf take zbT blk newV krs)
open Rd (pt St Ok)
def rw6 (i x:Nat):Rw:=⟨i,x,0,⟨#[]⟩⟩
def l6:List Rw:=[rw6 1 0,rw6 2 0,rw6 3 0,rw6 4 0,rw6 5 0,rw6 6 8]
theorem zdG:zaG l6=true:=by kernel_rfl
theorem zlX:pcnt 32 l6=4:=by kernel_rfl
theorem zpg:∀ r∈l6,zbd r:=by
 intro r hr;simp[l6,rw6] at hr;rcases hr with rfl|rfl|rfl|rfl|rfl|rfl<;>exact⟨by decide,by decide,by decide⟩
theorem znv {w:World} {g:Nat} {cs:Array Value} {t:TypeId} {d:Nat × Nat} (l:List Rw) (h:w.heap[g]? =some (.cells cs t d)) (f:cs.toList=l.flatMap rc) (o:l.length≤100):zac w (some ⟨g,0,none⟩) l.length l:=by
 refine⟨Nat.le_refl _,by simp only[maxLen];omega,fun e=>(by cases e),?_,fun _=>⟨g,0,rfl,(zi h).1,fun j u b=>?_⟩⟩
 ·have i:∀ m:List Rw,(m.flatMap rc).length=m.length*4:=fun m=>by
   induction m with
   |nil=>rfl
   |cons a t n=>rw[List.flatMap_cons,List.length_append,n,List.length_cons];simp[rc];omega
  exact i _
 ·rw[zr h,Nat.zero_add]
  rw[←f] at b;simpa using b
theorem zeX (Kt:Nat→Int) {n:Nat} (u:4≤n) (w:n≤4096) {l:List Rw} (x:zaG l=true) (y:∀ r∈l,zbd r) {g:Gr Sx} (p:zad (hadP (wh []) (svP Kt)) 32 ⟨e0v,Rd.newS n,[]⟩ l=g):
  (g.e=0∨g.e=110)∧(pcnt 32 l≤n - 2→g.e=0)∧(g.e=0→g.ys.length=pcnt 32 l∧g.s.v.seals=g.ys.length∧g.s.v.nt=2+g.ys.length)∧Pok g.s∧g.s.t.n=n∧(finV g).nt=(if g.e=0 then 2+g.ys.length else 2):=by
 have c:=RL.of_right x y;have z:=zfE c.on;obtain⟨k,-⟩:=zc3 (f:=wh []) (Kt:=Kt) 32 ⟨e0v,Rd.newS n,[]⟩ l c (by omega) (zhC Kt n u w);rw[p] at k;obtain⟨m,d,o⟩:=k.sq;have b:=zbZ (hadP (wh []) (svP Kt)) 32 (⟨e0v,Rd.newS n,[]⟩:Sx) l;rw[p] at b;have i:g.e=0→m.length=g.ys.length:=fun a=>by rw[o (fun t=>rfl) a,List.length_map]
 have j:g.e=0→g.s.v.nt=2+g.ys.length:=fun a=>by rw[d.nt,i a];rfl
 refine⟨k.e,fun h=>k.room (by show _≤cf e0v.tk n;rw[znU n (by omega)];exact h),fun a=>⟨b.2 a,?_,j a⟩,d.pok,d.n,?_⟩
 ·rw[d.seals,i a]
  show 0+_=_;omega
 ·unfold finV
  by_cases a:g.e=0
  ·rw[if_pos a,if_pos a];exact j a
  ·rw[if_neg a,if_neg a,(zlD rfl d).2.1];rfl
theorem zgI (Kt:Nat→Int) (w:World) (hT:Rs.Tb Kt w):Calls Tryz.prog 11 #[] w fun e w'=>e=.returned (.bool true)∧Below w.heap.size w w':=by
 obtain⟨g,hg⟩:∃ g,zad (hadP (wh []) (svP Kt)) 32 ⟨e0v,Rd.newS 12,[]⟩ l6=g:=⟨_,rfl⟩;obtain⟨-,f2,f3,f4,f5,-⟩:=zeX Kt (n:=12) (by omega) (by omega) zdG zpg hg;have he:g.e=0:=f2 (by rw[zlX];omega);obtain⟨f6,f7,-⟩:=f3 he;rw[zlX] at f6;obtain⟨⟨R,hR,hrd⟩,hare,⟨ps,pt',hps⟩,hr32⟩:=zlV (zhC Kt 12 (by omega) (by omega)) zdG zpg hg he;have hL:outL g=g.ys:=if_pos he;have hV:finV g=g.s.v:=if_pos he;have HM:Hid (∀ _:True,_):=fun _=>Rv.zeW Kt 12 (by omega) (by omega) w hT
 have HSv:Hid (∀ (A:Pl) (W:World) (b:Nat),Vlt W A e0v (Rd.newS 12)→Rs.Tb Kt W→zac W (some ⟨b,0,none⟩) 6 l6→¬A.has b→Calls Tryz.prog 13 #[pt A.g,.slice (some ⟨b,0,none⟩) 6 6,.slice none 0 0] W fun e w'=>∃ o' cap',e=.returned (.tuple #[.slice o' 4 cap',.int .i64 0])∧SvAt w' o' cap' g.ys∧(∀ b off,o'=some ⟨b,off,none⟩→W.heap.size≤b)∧Vlt w' A g.s.v g.s.t∧Rs.Tb Kt w'∧Rd.But A.has W w'):=fun A W b hv hT hr hb=>by
  have:=zlG Kt A e0v (Rd.newS 12) l6 (some ⟨b,0,none⟩) 6 [] none 0 W hv (zel 12 (by omega) (by omega)) hT hr (fun b' off e _=>by cases e;exact hb) zpg zdG (Sl.nil 3 W) (fun b' off e=>by cases e) (fun y hy=>by cases hy) (by decide) g hg;refine this.mono ?_;rintro e w' ⟨o',cap',h1,h2,h3,h4,h5,h6⟩;rw[hL] at h1 h2;rw[f6,he] at h1;rw[hV] at h4;exact⟨o',cap',h1,h2,h3,h4,h5,h6⟩
 have HLs:Hid (∀ W o cap,SvAt W o cap g.ys→Calls Tryz.prog 22 #[.slice o 4 cap] W fun e w'=>e=.returned (.agg #[.int .u32 (g.r.p:Int),.string g.r.t])∧Below W.heap.size W w'):=fun W o cap h=>by
  have:=znu g.ys g.r pt' ps hps o cap W h;rw[f6] at this;exact this
 have HLd:Hid (∀ (A:Pl) (W:World),Vlt W A g.s.v g.s.t→Rs.Tb Kt W→Calls Tryz.prog 29 #[pt A.g,.agg #[.int .u32 (g.r.p:Int),.string g.r.t]] W fun e w'=>∃ o cap o2 cap2,e=.returned (.tuple #[.slice o 6 cap,.slice o2 4 cap2,.int .i64 0])∧zac w' o cap l6∧SvAt w' o2 cap2 g.ys∧Vlt w' A g.s.v g.s.t∧Rs.Tb Kt w'∧Rd.But A.has W w'):=fun A W hv hT=>by
  refine(znn Kt A g.s.v g.s.t g.r hr32 W hv f4.vok f4.hon.ok hT (sortsR_any 12 (by decide)) (⟨g.ys.length,R,g.ys⟩,0) hrd (fun _=>by show R.length≤12;rw[hR.length_eq];decide)).mono ?_;rintro e w' ⟨h1|⟨-,m,m1,m2,h2⟩,h3,h4,h5⟩
  ·exact absurd rfl h1.1
  ·have hm:m=l6:=zjt m2 (m1.trans hR) (zew zdG)
   subst hm;rcases h2 with⟨a1,-⟩|⟨-,o,cap,o2,cap2,a1,a2,a3,-,-⟩
   ·have:areB g.ys l6=false:=a1
    rw[hare] at this;cases this
   ·have a1':e=.returned (.tuple #[.slice o 6 cap,.slice o2 4 cap2,.int .i64 0]):=by rw[a1];show Ending.returned (.tuple #[.slice o l6.length cap,.slice o2 g.ys.length cap2,.int .i64 0])=_;rw[f6];rfl
    exact⟨o,cap,o2,cap2,a1',a2,a3,h3,h4,h5⟩
 have HS9:Hid (∀ W o cap o2 cap2,zac W o cap l6→zac W o2 cap2 l6→Calls Tryz.prog 31 #[.slice o 6 cap,.slice o2 6 cap2] W fun e w'=>e=.returned (.bool true)∧Below W.heap.size W w'):=fun W o cap o2 cap2 h1 h2=>by
  have:=zj9 l6 l6 o cap o2 cap2 W h1 h2;rw[(ze9 eqR zn8 l6 l6).2 rfl] at this;exact this
 have HS14:Hid (∀ W o cap o2 cap2,SvAt W o cap g.ys→SvAt W o2 cap2 g.ys→Calls Tryz.prog 16 #[.slice o 4 cap,.slice o2 4 cap2] W fun e w'=>e=.returned (.bool true)∧Below W.heap.size W w'):=fun W o cap o2 cap2 h1 h2=>by
  have:=zlP g.ys g.ys o cap o2 cap2 W h1 h2;rw[(ze9 eqS zlH g.ys g.ys).2 rfl,f6] at this;exact this
 have HSl:Hid (∀ (A:Pl) W,Vlt W A g.s.v g.s.t→Calls Tryz.prog 35 #[pt A.g] W fun e w'=>e=.returned (.int .u64 4)∧w'=W):=fun A W hv=>by
  have:=Rv.zli A g.s.v g.s.t W hv;rw[f7,f6] at this;exact this
 have HT:Hid (Rs.Tb Kt w):=hT;clear hg f2 f3 f4 f5 he f6 f7 hR hrd hare hps hr32 hL hV hT;generalize g.r.p=rp at*
 generalize g.r.t=rt at*
 generalize g.s.v=V at*
 generalize g.s.t=T at*
 generalize g.ys=ys at*
 clear R ps pt';go_enter Tryz.func11,Tryz.ntmps11;go_wp2_with fail;refine Calls.mono (HM.out trivial) ?_;rintro e w1 ⟨A,q,rfl,hv1,hA,b1⟩;obtain⟨W2,hW2⟩:∃ W2,w1.alloc (.cells #[.int .u64 1,.int .u32 0,.int .u32 0,.string ⟨#[]⟩,.int .u64 2,.int .u32 0,.int .u32 0,.string ⟨#[]⟩,.int .u64 3,.int .u32 0,.int .u32 0,.string ⟨#[]⟩,.int .u64 4,.int .u32 0,.int .u32 0,.string ⟨#[]⟩,.int .u64 5,.int .u32 0,.int .u32 0,.string ⟨#[]⟩,.int .u64 6,.int .u32 8,.int .u32 0,.string ⟨#[]⟩] 79)=W2:=⟨_,rfl⟩;have b2:Below w1.heap.size w1 W2:=by rw[←hW2];exact zaa _ _
 have g2:W2.heap[w1.heap.size]? =some (.cells #[.int .u64 1,.int .u32 0,.int .u32 0,.string ⟨#[]⟩,.int .u64 2,.int .u32 0,.int .u32 0,.string ⟨#[]⟩,.int .u64 3,.int .u32 0,.int .u32 0,.string ⟨#[]⟩,.int .u64 4,.int .u32 0,.int .u32 0,.string ⟨#[]⟩,.int .u64 5,.int .u32 0,.int .u32 0,.string ⟨#[]⟩,.int .u64 6,.int .u32 8,.int .u32 0,.string ⟨#[]⟩] 79 (0,0)):=by rw[←hW2];exact zq w1 _
 have hr2:zac W2 (some ⟨w1.heap.size,0,none⟩) 6 l6:=znv l6 g2 rfl (by decide);have hA1:∀ k,A.has k→k<w1.heap.size:=fun k hk=>hv1.has_lt hk
 have HS2:Hid (Calls Tryz.prog 13 #[pt A.g,.slice (some ⟨w1.heap.size,0,none⟩) 6 6,.slice none 0 0] W2 fun e w'=>∃ o' cap',e=.returned (.tuple #[.slice o' 4 cap',.int .i64 0])∧SvAt w' o' cap' ys∧(∀ b off,o'=some ⟨b,off,none⟩→W2.heap.size≤b)∧Vlt w' A V T∧Rs.Tb Kt w'∧Rd.But A.has W2 w'):=
  HSv.out A W2 w1.heap.size (hv1.below b2 zn) ((HT.out.below b1 zn).below b2 zn) hr2 (fun e=>by have:=hA1 _ e;omega)
 have HW2s:Hid (w1.heap.size≤W2.heap.size):=b2.size;have HW2:Hid _:=hW2;have HR2:Hid (zac W2 (some ⟨w1.heap.size,0,none⟩) 6 l6∧(∀ k,A.has k→k<w1.heap.size)∧(∀ k,A.has k→w.heap.size≤k)∧Below w.heap.size w W2):=⟨hr2,hA1,hA,b1.trans (b2.mono b1.size)⟩;clear hW2 b2 g2 hr2 hA1 hA b1 hv1 HSv HM
 go_wp2_with (first|(rw[HW2.out];clear HW2))
 refine Calls.mono HS2.out ?_;rintro e w3 ⟨o3,cap3,rfl,hs3,hf3,hv3,ht3,hb3⟩;have HF3:Hid (∀ b off,o3=some ⟨b,off,none⟩→¬A.has b):=fun b off e e'=>by have:=hf3 b off e;have:=HR2.out.2.1 b e';have:=HW2s.out;omega
 clear hf3;have hrows:∀ W,Rd.But A.has W2 W→zac W (some ⟨w1.heap.size,0,none⟩) 6 l6:=fun W hb=>zeR HR2.out.1 hb.size fun b off e _ hl=>hb.block b hl fun e'=>by cases e;have:=HR2.out.2.1 _ e';omega
 have HR3:Hid (SvAt w3 o3 cap3 ys∧Vlt w3 A V T∧Rs.Tb Kt w3∧Rd.But A.has W2 w3):=⟨hs3,hv3,ht3,hb3⟩;have HRw:Hid (∀ W,Rd.But A.has W2 W→zac W (some ⟨w1.heap.size,0,none⟩) 6 l6):=hrows;have HL3:Hid _:=HLs.out w3 o3 cap3 hs3;clear hs3 hv3 ht3 hb3 hrows HS2;go_wp2_with fail;refine Calls.mono (HLs.out w3 o3 cap3 HR3.out.1) ?_;rintro e w4 ⟨rfl,b4⟩
 have HR4:Hid (SvAt w4 o3 cap3 ys∧Vlt w4 A V T∧Rs.Tb Kt w4∧Rd.But A.has W2 w4):=by
  obtain⟨a1,a2,a3,a4⟩:=HR3.out;exact⟨a1.below b4 zn,a2.below b4 zn,a3.below b4 zn,a4.trans (Rd.But.of_below b4)⟩
 have HLd4:Hid _:=HLd.out A w4 HR4.out.2.1 HR4.out.2.2.1;clear b4 HL3 HLs HR3;go_wp2_with fail;refine Calls.mono (HLd.out A w4 HR4.out.2.1 HR4.out.2.2.1) ?_;rintro e w5 ⟨o5,cap5,o6,cap6,rfl,hr5,hs5,hv5,ht5,hb5⟩;have HR5:Hid (zac w5 o5 cap5 l6∧SvAt w5 o6 cap6 ys∧SvAt w5 o3 cap3 ys∧zac w5 (some ⟨w1.heap.size,0,none⟩) 6 l6∧Vlt w5 A V T∧Rd.But A.has W2 w5):=⟨hr5,hs5,HR4.out.1.keep hb5.size fun b off e _ hl=>hb5.block b hl (HF3.out b off e),HRw.out w5 (HR4.out.2.2.2.trans hb5),hv5,HR4.out.2.2.2.trans hb5⟩;clear hr5 hs5 hv5 ht5 hb5 HLd4 HLd HR4;go_wp2_with fail;refine Calls.mono (HS9.out w5 _ 6 o5 cap5 HR5.out.2.2.2.1 HR5.out.1) ?_;rintro e w6 ⟨rfl,b6⟩
 have HR6:Hid (SvAt w6 o6 cap6 ys∧SvAt w6 o3 cap3 ys∧Vlt w6 A V T∧Rd.But A.has W2 w6):=by
  obtain⟨a1,a2,a3,a4,a5,a6⟩:=HR5.out;exact⟨a2.below b6 zn,a3.below b6 zn,a5.below b6 zn,a6.trans (Rd.But.of_below b6)⟩
 clear b6 HS9 HR5;go_wp2_with fail;refine Calls.mono (HS14.out w6 o3 cap3 o6 cap6 HR6.out.2.1 HR6.out.1) ?_;rintro e w7 ⟨rfl,b7⟩;have HR7:Hid (Vlt w7 A V T∧Rd.But A.has W2 w7):=⟨HR6.out.2.2.1.below b7 zn,HR6.out.2.2.2.trans (Rd.But.of_below b7)⟩;clear b7 HS14 HR6;go_wp2_with fail;refine Calls.mono (HSl.out A w7 HR7.out.1) ?_;rintro e w8 ⟨rfl,hw8⟩;have hw8':=hw8.symm;clear hw8;subst hw8';have HFin:Hid (Below w.heap.size w w7):=HR2.out.2.2.2.trans (HR7.out.2.below (fun k hk=>HR2.out.2.2.1 k hk) HR2.out.2.2.2.size);clear HSl HR7;go_wp2_with fail;go_ret;exact⟨rfl,HFin.out⟩
open Rw (Rf)
open Rv (Vlt Vs Pl newV krs)
theorem groveBack_walk (Kt:Nat→Int) (l:List Rw) (o:Option Addr) (cap:Nat) (hK:∀ r∈l,zbd r) (w:World) (hr:zac w o cap l) (hT:Rs.Tb Kt w):
  Calls Tryz.prog 6 #[.slice o l.length cap] w fun e w'=>e=.returned (.bool true)∧Below w.heap.size w w':=by
 have HSh:Hid (∀ _:True,_):=fun _=>zgI Kt w hT
 have HR:Hid (zac w o cap (l.take 24)):=zp8 hr;have HT:Hid (Rs.Tb Kt w):=hT;have hok1:∀ r∈l.take 24,zbd r:=fun r hr=>hK r (List.mem_of_mem_take hr)
 have hl24:(l.take 24).length≤24:=by rw[List.length_take];omega
 have HFw:Hid (∀ W,zac W o cap l→Calls Tryz.prog 14 #[.slice o l.length cap] W fun e w'=>e=.returned (.slice o (l.take 24).length cap)∧w'=W):=fun W hW=>zlW l o cap W hW
 have HR0:Hid (zac w o cap l):=hr;obtain⟨L,hL⟩:∃ L,l.length=L:=⟨_,rfl⟩;rw[hL] at HFw ⊢;have HLn:Hid (l.length=L):=hL;generalize hl1:l.take 24=l1 at*
 clear hr hT hK hL hl1;obtain⟨m,hm⟩:∃ m,l1.length=m:=⟨_,rfl⟩;rw[hm] at HFw;have HM:Hid (l1.length=m):=hm;rw[hm] at hl24;have HL24:Hid (m≤24):=hl24;clear hm;go_enter Tryz.func6,Tryz.ntmps6;go_wp2_with fail;refine Calls.mono (HSh.out trivial) ?_;rintro e w1 ⟨rfl,b1⟩;have HB1:Hid (Below w.heap.size w w1):=b1;have HMd:Hid (∀ _:True,_):=fun _=>Rv.zeW Kt 60 (by omega) (by omega) w1 (HT.out.below b1 zn)
 clear b1 HSh;go_wp2_with fail;refine Calls.mono (HMd.out trivial) ?_;rintro e w2 ⟨A,q,rfl,hv2,hA,b2⟩;have HB2:Hid (Below w.heap.size w w2):=HB1.out.trans (b2.mono HB1.out.size);have HV2:Hid (Vlt w2 A (newV (krs 1) 1 7) (Rd.newS 60)):=hv2;have HA:Hid (∀ k,A.has k→w.heap.size≤k):=fun k hk=>Nat.le_trans HB1.out.size (hA k hk)
 have HAl:Hid (∀ k,A.has k→k<w2.heap.size):=fun k hk=>hv2.has_lt hk
 have hnoB:∀ b off,o=some ⟨b,off,none⟩→0<l.length→¬A.has b:=fun b off e hn hb=>by
  obtain⟨b',off',e',hlt,-⟩:=HR0.out.2.2.2.2 hn;rw[e] at e';cases e';have:=HA.out b hb;omega
 have HNo:Hid (∀ b off,o=some ⟨b,off,none⟩→0<l1.length→¬A.has b):=fun b off e hn hb=>by
  obtain⟨b',off',e',hlt,-⟩:=HR.out.2.2.2.2 hn;rw[e] at e';cases e';have:=HA.out b hb;omega
 have HRw:Hid (∀ W,Rd.But A.has w2 W→zac W o cap l1):=fun W hb=>zeR (HR.out.below HB2.out zn) hb.size fun b off e hn hl=>hb.block b hl (HNo.out b off e hn)
 have HRW:Hid (∀ W,Rd.But A.has w2 W→zac W o cap l):=fun W hb=>zeR (HR0.out.below HB2.out zn) hb.size fun b off e hn hl=>hb.block b hl (hnoB b off e hn)
 have HFw2:Hid (Calls Tryz.prog 14 #[.slice o L cap] w2 fun e w'=>e=.returned (.slice o m cap)∧w'=w2):=HFw.out w2 (HRW.out w2 (Rd.But.of_below (Below.refl _ _)));clear hv2 hA b2 HMd HB1 hnoB;go_wp2_with fail;refine Calls.mono HFw2.out ?_;rintro e w2' ⟨rfl,hw2⟩;have hw2':=hw2.symm;clear hw2 HFw2;subst hw2';cases h0:zaG l1
 ·have HSv:Hid (Calls Tryz.prog 13 #[pt A.g,.slice o m cap,.slice none 0 0] w2 fun e w'=>e=.returned (.tuple #[.slice none 0 0,.int .i64 80])∧Rd.But A.has w2 w'):=by
   have:=znh A (newV (krs 1) 1 7) (Rd.newS 60) l1 o cap (.slice none 0 0) w2 HV2.out (zel 60 (by omega) (by omega)).hon.ok (HRw.out w2 (Rd.But.of_below (Below.refl _ _))) HNo.out h0;rw[HM.out] at this;exact this.mono fun e w' ⟨h1,h2,h3⟩=>⟨h1,h3⟩
  have HQ:Hid (∀ W,Rd.But A.has w2 W→Calls Tryz.prog 34 #[.slice o m cap] W fun e w'=>e=.returned (.bool false)∧Below W.heap.size W w'):=fun W hW=>by
   have:=zdd l1 o cap W (HRw.out W hW);rw[HM.out,h0] at this;exact this
  go_wp2_with fail;refine Calls.mono HSv.out ?_;rintro e w3 ⟨rfl,hb3⟩;have HB3:Hid (Below w.heap.size w w3):=HB2.out.trans (hb3.below (fun k hk=>HA.out k hk) HB2.out.size);have HF3:Hid (Calls Tryz.prog 14 #[.slice o L cap] w3 fun e w'=>e=.returned (.slice o m cap)∧w'=w3):=HFw.out w3 (HRW.out w3 hb3);have HQ3:Hid _:=HQ.out w3 hb3;clear hb3 HSv HQ HFw HRw HRW HNo h0;go_wp2_with fail;refine Calls.mono HF3.out ?_;rintro e w3' ⟨rfl,hw3⟩;have hw3':=hw3.symm;clear hw3 HF3;subst hw3';go_wp2_with fail;refine Calls.mono HQ3.out ?_;rintro e w4 ⟨rfl,b4⟩;have HB4:Hid (Below w.heap.size w w4):=HB3.out.trans (b4.mono HB3.out.size);clear b4 HQ3;go_wp2_with fail;go_ret;exact⟨rfl,HB4.out⟩
 ·obtain⟨g,hg⟩:∃ g,zad (hadP (wh []) (svP Kt)) 32 ⟨e0v,Rd.newS 60,[]⟩ l1=g:=⟨_,rfl⟩
  obtain⟨-,f2,f3,f4,f5,-⟩:=zeX Kt (n:=60) (by omega) (by omega) h0 hok1 hg;have hpm:=zdE 32 l1 (zbJ h0);rw[HM.out] at hpm;have he:g.e=0:=f2 (by omega);obtain⟨f6,f7,-⟩:=f3 he;obtain⟨⟨R,hR,hrd⟩,hare,⟨ps,pt',hps⟩,hr32⟩:=zlV (zhC Kt 60 (by omega) (by omega)) h0 hok1 hg he;have hLg:outL g=g.ys:=if_pos he;have hVg:finV g=g.s.v:=if_pos he;obtain⟨P,hP⟩:∃ P,g.ys.length=P:=⟨_,rfl⟩;rw[←f6,hP] at hpm
  have HSv:Hid (Calls Tryz.prog 13 #[pt A.g,.slice o m cap,.slice none 0 0] w2 fun e w'=>∃ o' cap',e=.returned (.tuple #[.slice o' P cap',.int .i64 0])∧SvAt w' o' cap' g.ys∧(∀ b off,o'=some ⟨b,off,none⟩→w2.heap.size≤b)∧Vlt w' A g.s.v g.s.t∧Rs.Tb Kt w'∧Rd.But A.has w2 w'):=by
   have:=zlG Kt A e0v (Rd.newS 60) l1 o cap [] none 0 w2 HV2.out (zel 60 (by omega) (by omega)) (HT.out.below HB2.out zn) (HRw.out w2 (Rd.But.of_below (Below.refl _ _))) HNo.out hok1 h0 (Sl.nil 3 w2) (fun b' off e=>by cases e) (fun y hy=>by cases hy) (by decide) g hg;rw[HM.out] at this;refine this.mono ?_;rintro e w' ⟨o',cap',h1,h2,h3,h4,h5,h6⟩;rw[hLg] at h1 h2;rw[hP,he] at h1;rw[hVg] at h4;exact⟨o',cap',h1,h2,h3,h4,h5,h6⟩
  have HLs:Hid (∀ W o cap,SvAt W o cap g.ys→Calls Tryz.prog 22 #[.slice o P cap] W fun e w'=>e=.returned (.agg #[.int .u32 (g.r.p:Int),.string g.r.t])∧Below W.heap.size W w'):=fun W o cap h=>by
   have:=znu g.ys g.r pt' ps hps o cap W h;rw[hP] at this;exact this
  have HLd:Hid (∀ W:World,Vlt W A g.s.v g.s.t→Rs.Tb Kt W→Calls Tryz.prog 29 #[pt A.g,.agg #[.int .u32 (g.r.p:Int),.string g.r.t]] W fun e w'=>∃ o cap o2 cap2,e=.returned (.tuple #[.slice o m cap,.slice o2 P cap2,.int .i64 0])∧zac w' o cap l1∧SvAt w' o2 cap2 g.ys∧Vlt w' A g.s.v g.s.t∧Rs.Tb Kt w'∧Rd.But A.has W w'):=fun W hv hT=>by
   refine(znn Kt A g.s.v g.s.t g.r hr32 W hv f4.vok f4.hon.ok hT (sortsR_any 24 (by decide)) (⟨g.ys.length,R,g.ys⟩,0) hrd (fun _=>by show R.length≤24;rw[hR.length_eq,HM.out];exact hl24)).mono ?_;rintro e w' ⟨h1|⟨-,m1,m2,m3,h2⟩,h3,h4,h5⟩
   ·exact absurd rfl h1.1
   ·have hm:m1=l1:=zjt m3 (m2.trans hR) (zew h0)
    subst hm;rcases h2 with⟨a1,-⟩|⟨-,o,cap,o2,cap2,a1,a2,a3,-,-⟩
    ·have:areB g.ys m1=false:=a1
     rw[hare] at this;cases this
    ·have a1':e=.returned (.tuple #[.slice o m cap,.slice o2 P cap2,.int .i64 0]):=by rw[a1,←HM.out,←hP]
     exact⟨o,cap,o2,cap2,a1',a2,a3,h3,h4,h5⟩
  have HS9:Hid (∀ W o cap o2 cap2,zac W o cap l1→zac W o2 cap2 l1→Calls Tryz.prog 31 #[.slice o m cap,.slice o2 m cap2] W fun e w'=>e=.returned (.bool true)∧Below W.heap.size W w'):=fun W o cap o2 cap2 h1 h2=>by
   have:=zj9 l1 l1 o cap o2 cap2 W h1 h2;rw[(ze9 eqR zn8 l1 l1).2 rfl,HM.out] at this;exact this
  have HS14:Hid (∀ W o cap o2 cap2,SvAt W o cap g.ys→SvAt W o2 cap2 g.ys→Calls Tryz.prog 16 #[.slice o P cap,.slice o2 P cap2] W fun e w'=>e=.returned (.bool true)∧Below W.heap.size W w'):=fun W o cap o2 cap2 h1 h2=>by
   have:=zlP g.ys g.ys o cap o2 cap2 W h1 h2;rw[(ze9 eqS zlH g.ys g.ys).2 rfl,hP] at this;exact this
  have HPM:Hid (P≤max 1 (2*m)):=hpm;have HQ3:Hid (decide ((P:Int)≤max 1 (2*(m:Int)))=true):=by refine(?_:_=_);rw[decide_eq_true_iff];omega
  have q1:(P:Int)≤1000:=by omega
  have q2:(m:Int)≤24:=by omega
  clear hg f2 f3 f4 f5 he f6 f7 hR hrd hare hps hr32 hLg hVg h0 hok1 hpm hP hl24;generalize g.r.p=rp at*
  generalize g.r.t=rt at*
  generalize g.s.v=V at*
  generalize g.s.t=T at*
  generalize g.ys=ys at*
  clear R ps pt' HT HR HR0 HNo HLn;go_wp2_with fail;refine Calls.mono HSv.out ?_;rintro e w3 ⟨o3,cap3,rfl,hs3,hf3,hv3,ht3,hb3⟩;have HF3:Hid (∀ b off,o3=some ⟨b,off,none⟩→¬A.has b):=fun b off e e'=>by have:=hf3 b off e;have:=HAl.out b e';omega
  have HR3:Hid (SvAt w3 o3 cap3 ys∧Vlt w3 A V T∧Rs.Tb Kt w3∧Rd.But A.has w2 w3):=⟨hs3,hv3,ht3,hb3⟩;clear hs3 hv3 ht3 hb3 hf3 HSv;go_wp2_with fail;refine Calls.mono (HLs.out w3 o3 cap3 HR3.out.1) ?_;rintro e w4 ⟨rfl,b4⟩
  have HR4:Hid (SvAt w4 o3 cap3 ys∧Vlt w4 A V T∧Rs.Tb Kt w4∧Rd.But A.has w2 w4):=by
   obtain⟨a1,a2,a3,a4⟩:=HR3.out;exact⟨a1.below b4 zn,a2.below b4 zn,a3.below b4 zn,a4.trans (Rd.But.of_below b4)⟩
  clear b4 HLs HR3;go_wp2_with fail;refine Calls.mono (HLd.out w4 HR4.out.2.1 HR4.out.2.2.1) ?_;rintro e w5 ⟨o5,cap5,o6,cap6,rfl,hr5,hs5,hv5,ht5,hb5⟩;have HR5:Hid (zac w5 o5 cap5 l1∧SvAt w5 o6 cap6 ys∧SvAt w5 o3 cap3 ys∧zac w5 o cap l1∧Rd.But A.has w2 w5):=⟨hr5,hs5,HR4.out.1.keep hb5.size fun b off e _ hl=>hb5.block b hl (HF3.out b off e),HRw.out w5 (HR4.out.2.2.2.trans hb5),HR4.out.2.2.2.trans hb5⟩;have HF5:Hid (Calls Tryz.prog 14 #[.slice o L cap] w5 fun e w'=>e=.returned (.slice o m cap)∧w'=w5):=HFw.out w5 (HRW.out w5 HR5.out.2.2.2.2);clear hr5 hs5 hv5 ht5 hb5 HLd HR4;go_wp2_with fail;refine Calls.mono HF5.out ?_;rintro e w5' ⟨rfl,hw5⟩;have hw5':=hw5.symm;clear hw5 HF5;subst hw5';go_wp2_with fail;refine Calls.mono (HS9.out w5 o5 cap5 o cap HR5.out.1 HR5.out.2.2.2.1) ?_;rintro e w6 ⟨rfl,b6⟩
  have HR6:Hid (SvAt w6 o6 cap6 ys∧SvAt w6 o3 cap3 ys∧Rd.But A.has w2 w6):=by
   obtain⟨a1,a2,a3,a4,a5⟩:=HR5.out;exact⟨a2.below b6 zn,a3.below b6 zn,a5.trans (Rd.But.of_below b6)⟩
  clear b6 HS9 HR5;go_wp2_with fail;refine Calls.mono (HS14.out w6 o3 cap3 o6 cap6 HR6.out.2.1 HR6.out.1) ?_;rintro e w7 ⟨rfl,b7⟩;have HR7:Hid (Rd.But A.has w2 w7):=HR6.out.2.2.trans (Rd.But.of_below b7);have HF7:Hid (Calls Tryz.prog 14 #[.slice o L cap] w7 fun e w'=>e=.returned (.slice o m cap)∧w'=w7):=HFw.out w7 (HRW.out w7 HR7.out);clear b7 HS14 HR6;go_wp2_with fail;refine Calls.mono HF7.out ?_;rintro e w7' ⟨rfl,hw7⟩;have hw7':=hw7.symm;clear hw7 HF7;subst hw7';have HFin:Hid (Below w.heap.size w w7):=HB2.out.trans (HR7.out.below (fun k hk=>HA.out k hk) HB2.out.size);clear HR7;go_wp2_with fail;go_ret;exact⟨by rw[HQ3.out];rfl,HFin.out⟩
open Rv (Vs cf)
open Rd (St)
theorem wh_mem:∀ {ys:List Sv} {t:ByteArray} {r:Rf},wh ys t=some r→(⟨t,r⟩:Sv)∈ys
 |[],_,_,h=>by cases h
 |x::xs,t,r,h=>by
  unfold wh at h;split at h
  ·rename_i e
   cases h;subst e;exact List.mem_cons.2 (.inl rfl)
  ·exact List.mem_cons.2 (.inr (wh_mem h))
theorem count_mem:∀ (m:List Nat) (n:Nat),(List.range n).countP (fun q=>decide (q∈m))≤m.length
 |[],n=>by simp
 |a::m,n=>by
  have h1:=count_mem m n
  have h2:(List.range n).countP (fun q=>decide (q∈a::m))≤(List.range n).countP (fun q=>decide (q∈m))+(List.range n).count a:=by
   generalize List.range n=l
   induction l with
   |nil=>exact Nat.le_refl _
   |cons x l ih=>
    simp only[List.countP_cons,List.count_cons];by_cases hx:x=a
    ·subst hx
     have e1:decide (x∈x::m)=true:=by simp
     rw[e1];simp only[beq_self_eq_true,if_true];split<;>omega
    ·have e:decide (x∈a::m)=decide (x∈m):=by simp[hx]
     rw[e];omega
  have h3:(List.range n).count a≤1:=List.nodup_iff_count.1 List.nodup_range a;rw[List.length_cons];omega
theorem sq_cf {a b:Sx} {m:List Nat} (h:Sq a m b):cf a.v.tk a.t.n≤cf b.v.tk b.t.n+m.length:=by
 have h1:=count_mem m a.t.n;unfold cf;rw[h.n,←List.countP_eq_length_filter,←List.countP_eq_length_filter];refine Nat.le_trans ?_ (Nat.add_le_add_left h1 _);generalize List.range a.t.n=l
 induction l with
 |nil=>exact Nat.zero_le _
 |cons q l ih=>
  simp only[List.countP_cons];have e:=h.is q;by_cases hq:q∈m
  ·simp[hq]
   split<;>omega
  ·rw[if_neg hq] at e
   rw[e];simp[hq];omega
structure Ag (Kt:Nat→Int) (l:List Rw) (ys:List Sv) (V:Vs) (T:St):Prop where
 len:ys.length≤48
 seals:V.seals=ys.length
 pok:Pok ⟨V,T,[]⟩
 small:∀ y∈ys,y.r.p<4294967296
 again:∃ r,zad (hadP (wh ys) (svP Kt)) 32 ⟨V,T,[]⟩ l=⟨⟨V,T,[]⟩,ys,0,r⟩
 gst:Gst Kt (wh ys) ⟨V,T,[]⟩
 less:∀ i,i<l.length→∀ g,zad (hadP (wh ys) (svP Kt)) 32 ⟨V,T,[]⟩ (l.eraseIdx i)=g→g.e=0∧g.s.v.seals≤ys.length+20∧Pok g.s
theorem right_erase {l:List Rw} (hr:zaG l=true) (ho:∀ r∈l,zbd r) (i:Nat):zaG (l.eraseIdx i)=true∧∀ r∈l.eraseIdx i,zbd r:=by
 have hs:(l.eraseIdx i).Sublist l:=List.eraseIdx_sublist l i;have hl:=((zaH l).1 hr).1;have h:=RL.of_right hr ho;exact⟨RL.right ⟨fun r hr=>h.on r (hs.subset hr),h.rise.sublist hs,fun r hr=>h.sz r (hs.subset hr),fun r hr=>h.ok r (hs.subset hr)⟩ (Nat.le_trans hs.length_le hl),fun r hr=>ho r (hs.subset hr)⟩
theorem again_facts (Kt:Nat→Int) {l:List Rw} (hr:zaG l=true) (ho:∀ r∈l,zbd r) (h24:l.length≤24) {g:Gr Sx} (hg:zad (hadP (wh []) (svP Kt)) 32 ⟨e0v,Rd.newS 80,[]⟩ l=g):
  g.e=0∧Ag Kt l g.ys g.s.v g.s.t:=by
 obtain⟨-,f2,f3,f4,f5,-⟩:=zeX Kt (n:=80) (by omega) (by omega) hr ho hg;have hpm:=zdE 32 l (zbJ hr);have he:g.e=0:=f2 (by omega);obtain⟨f6,f7,-⟩:=f3 he;have hRL:=RL.of_right hr ho;have hlv:=zfE hRL.on;obtain⟨hG,-⟩:=zc3 (f:=wh []) (Kt:=Kt) 32 ⟨e0v,Rd.newS 80,[]⟩ l hRL (by omega) (zhC Kt 80 (by omega) (by omega));rw[hg] at hG;obtain⟨-,hare,-,-⟩:=zlV (zhC Kt 80 (by omega) (by omega)) hr ho hg he;unfold areB at hare;rw[Bool.and_eq_true,Bool.and_eq_true,decide_eq_true_iff] at hare;obtain⟨-,hk,hy⟩:=hare
 have hy2:(areG g.ys l).ys=g.ys:=by
  have:=(ze9 eqS zlH _ _).1 hy;rwa[show outL (areG g.ys l)=(areG g.ys l).ys from if_pos hk] at this
 have hkn:(zad (hadP (wh g.ys) noP) 32 () l).e=0:=hk;have hys:(zad (hadP (wh g.ys) noP) 32 () l).ys=g.ys:=hy2
 have hsm:∀ y∈g.ys,y.r.p<4294967296:=fun y hy=>by
  obtain⟨⟨-,h2,-⟩,-⟩:=hG.ky y hy;rw[f5] at h2;omega
 have hpok:Pok ⟨g.s.v,g.s.t,[]⟩:=⟨f4.vok,f4.hon,⟨f4.room.1,Nat.zero_le _⟩,f4.two⟩;have hgst:Gst Kt (wh g.ys) ⟨g.s.v,g.s.t,[]⟩:=⟨hpok,fun t r h=>hG.ky _ (wh_mem h)⟩
 have hcf:78≤cf g.s.v.tk g.s.t.n+g.ys.length:=by
  have:=hG.left;have e:cf e0v.tk 80=78:=znU 80 (by omega);have:cf e0v.tk 80≤cf g.s.v.tk g.s.t.n+g.ys.length:=this;omega
 refine⟨he,⟨by omega,f7,hpok,hsm,⟨_,by rw[node_kn (svP Kt) ⟨g.s.v,g.s.t,[]⟩ 32 l hkn,hys]⟩,hgst,fun i hi g' hg'=>?_⟩⟩;have hnw:=less_nw (Kt:=Kt) 32 l hRL.on (by omega) hkn i hi ⟨g.s.v,g.s.t,[]⟩ hpok;rw[hg'] at hnw;obtain⟨hr',ho'⟩:=right_erase hr ho i;obtain⟨hG',-⟩:=zc3 (f:=wh g.ys) (Kt:=Kt) 32 ⟨g.s.v,g.s.t,[]⟩ (l.eraseIdx i) (RL.of_right hr' ho') (by have:=zfE (RL.of_right hr' ho').on;omega) hgst;rw[hg'] at hG';obtain⟨⟨m,hm,hm2⟩,h110⟩:=hnw;have hc:=sq_cf hm;have hc':cf g.s.v.tk g.s.t.n≤cf g'.s.v.tk g'.s.t.n+m.length:=hc;refine⟨?_,?_,hm.pok⟩
 ·rcases hG'.e with h|h
  ·exact h
  ·have:=h110 h
   omega
 ·rw[hm.seals]
  show g.s.v.seals+m.length≤_;omega
theorem run_tail (o:Option Addr) (n cap k:Nat) (w:World) (hk:k≤n) (hm:n≤cap) (ho:o=none→cap=0):(Instr.sliceAt 22 (.slice o n cap) (some (.int .i64 (k:Int))) none none).run Tryz.prog w=.ok (.slice (if cap=k then o else o.map (·.add (k*4))) (n - k) (cap - k)) w:=by
 have h1:(k:Int)≤(n:Int):=by omega
 have h2:(n:Int)≤(cap:Int):=by omega
 cases o with
 |none=>
  have:=ho rfl;subst this;obtain rfl:n=0:=by omega
  obtain rfl:k=0:=by omega
  simp[Instr.sliceAt,Instr.slice,run_underlying Tryz.underlying22,go_sem]
 |some a=>
  simp[Instr.sliceAt,Instr.slice,run_underlying Tryz.underlying22,go_sem];intro h;omega
theorem opMk {P:Program} {o:Oper} {a:Act} {w:World} {K:Act→World→Prop} {Q:Exit→Act→World→Prop} (t:TypeId) (x y:Operand) (ho:o.op=.makeSlice t x y)
  {vx vy v':Value} {w':World} (hx:a.eval x=vx) (hy:a.eval y=vy) (hrun:(Instr.makeSlice t vx vy).run P w=.ok v' w') (hK:K (a.put o.dst v') w'):o.wp P a w K Q:=by
 unfold Oper.wp execOp;simp only[ho,Sem.run_bind,Sem.run_pure,Result.andThen_ok,hx,hy,hrun];exact hK
theorem less_made (W:World) (l:List Rw) (o:Option Addr) (cap i:Nat) (hr:zac W o cap l) (hi:i<l.length) (h24:l.length≤24):
  ∃ W1 W2 W3 v1 o2 c2,(Instr.makeSlice 22 (.int .i64 0) (.int .i64 (l.length:Int))).run Tryz.prog W=.ok (.slice (some ⟨W.heap.size,0,none⟩) 0 l.length) W1∧
   (Builtin.append_ #[22,22] 22 #[.slice (some ⟨W.heap.size,0,none⟩) 0 l.length,.slice o i cap]).run Tryz.prog W1=.ok v1 W2∧
   (Builtin.append_ #[22,22] 22 #[v1,.slice (if cap=i+1 then o else o.map (·.add ((i+1)*4))) (l.length - (i+1)) (cap - (i+1))]).run Tryz.prog W2=.ok (.slice o2 (l.length - 1) c2) W3∧
   zac W3 o2 c2 (l.eraseIdx i)∧(∀ b off,o2=some ⟨b,off,none⟩→W.heap.size≤b)∧Below W.heap.size W W3:=by
 obtain⟨i0,hi0,hz0,hz1,hz2⟩:=info_parts ze7;obtain⟨W1,m1,m2,m3⟩:=run_make_own (P:=Tryz.prog) W W.heap.size 22 79 i0 _ 4 Tryz.underlying22 hi0 hz0 hz1 .i64 .i64 l.length (by rw[hz2];omega) (by unfold maxLen;omega) zn;have hb1:Below W.heap.size W W1:=(Below.refl _ W).grown m3 zn (fun k e=>by cases e);have hr1:=hr.below hb1 zn;have hlt:(l.take i).length=i:=by rw[List.length_take];omega
 obtain⟨v1,W2,a1,a2,a3,a4⟩:=zaV 22 79 Tryz.underlying22 ze7 rfl (by decide) (by decide) W1 W.heap.size 0 i _ o cap [] ((l.take i).flatMap rc) m2 m3.size (by have:=hr1.head i;unfold zac at this;rw[hlt] at this;exact this) (zj7 _) (by omega);have hb2:Below W.heap.size W W2:=hb1.grown a3 m3.size (fun k e=>by cases e;exact Nat.le_refl _);have hr2:=hr.below hb2 zn;have hd:(l.drop (i+1)).length=l.length - (i+1):=List.length_drop;have hmid:=zmQ hr2 (k:=i+1) (m:=l.length) (by omega) zn;rw[List.take_of_length_le (by rw[hd];exact Nat.le_refl _)] at hmid;have hme:zac W2 (if cap=i+1 then o else o.map (·.add ((i+1)*4))) (cap - (i+1)) (l.drop (i+1)):=hmid;unfold zac at hme;rw[hd] at hme;obtain⟨v2,W3,c1,c2,c3,c4⟩:=zaV 22 79 Tryz.underlying22 ze7 rfl (by decide) (by decide) W2 W.heap.size (0+i) (l.length - (i+1)) v1 _ _ _ ((l.drop (i+1)).flatMap rc) a2 (Nat.le_trans m3.size a3.size) hme (zj7 _) (by omega)
 have hv1:∀ k,v1.ownBlock=some k→W.heap.size≤k:=fun k e=>by
  rcases a4 with h|h
  ·rw[h] at e;cases e;exact Nat.le_refl _
  ·rw[h] at e;cases e;exact m3.size
 have hb3:Below W.heap.size W W3:=hb2.grown c3 (Nat.le_trans m3.size a3.size) hv1
 have hev:(([]:List Value)++(l.take i).flatMap rc)++(l.drop (i+1)).flatMap rc=(l.eraseIdx i).flatMap rc:=by
  rw[List.nil_append,←List.flatMap_append,List.eraseIdx_eq_take_drop_succ]
 have hen:(l.eraseIdx i).length=l.length - 1:=by rw[List.length_eraseIdx,if_pos hi]
 rw[hev,show 0+i+(l.length - (i+1))=l.length - 1 by omega] at c2;obtain⟨o2,cp2,rfl,hsl⟩:=zai c2;refine⟨W1,W2,W3,v1,o2,cp2,m1,a1,c1,?_,fun b off e=>?_,hb3⟩
 ·unfold zac
  rw[hen];exact hsl
 ·rcases c4 with h|h
  ·refine hv1 b ?_
   rw[←h,e];rfl
  ·rw[e] at h
   have:b=W2.heap.size:=by cases h;rfl
   have:=hb2.size;omega
theorem groveAgain_walk (Kt:Nat→Int) (l:List Rw) (o:Option Addr) (cap:Nat) (hK:∀ r∈l,zbd r) (at':Int) (w:World) (hr:zac w o cap l) (hT:Rs.Tb Kt w):
  Calls Tryz.prog 7 #[.slice o l.length cap,.int .i64 at'] w fun e w'=>e=.returned (.bool true)∧Below w.heap.size w w':=by
 have HSh:Hid (∀ _:True,_):=fun _=>zgI Kt w hT
 have HR:Hid (zac w o cap (l.take 24)):=zp8 hr;have HT:Hid (Rs.Tb Kt w):=hT;have hok1:∀ r∈l.take 24,zbd r:=fun r hr=>hK r (List.mem_of_mem_take hr)
 have hl24:(l.take 24).length≤24:=by rw[List.length_take];omega
 have HFw:Hid (∀ W,Below w.heap.size w W→Calls Tryz.prog 14 #[.slice o l.length cap] W fun e w'=>e=.returned (.slice o (l.take 24).length cap)∧w'=W):=fun W hW=>zlW l o cap W (hr.below hW zn)
 obtain⟨L,hL⟩:∃ L,l.length=L:=⟨_,rfl⟩;rw[hL] at HFw ⊢;generalize l.take 24=l1 at*
 clear hr hT hK hL;obtain⟨m,hm⟩:∃ m,l1.length=m:=⟨_,rfl⟩;rw[hm] at HFw;have HM:Hid (l1.length=m):=hm;rw[hm] at hl24;have HL24:Hid (m≤24):=hl24;clear hm hl24;go_enter Tryz.func7,Tryz.ntmps7;go_wp2_with fail;refine Calls.mono (HSh.out trivial) ?_;rintro e w1 ⟨rfl,b1⟩;have HB1:Hid (Below w.heap.size w w1):=b1;clear b1 HSh;go_wp2_with fail;refine Calls.mono (HFw.out w1 HB1.out) ?_;rintro e w1' ⟨rfl,hw1⟩;subst hw1;clear HFw;have HMd:Hid (∀ _:True,_):=fun _=>Rv.zeW Kt 80 (by omega) (by omega) w1' (HT.out.below HB1.out zn)
 go_wp2_with fail;refine Calls.mono (HMd.out trivial) ?_;rintro e w2 ⟨A,q,rfl,hv2,hA,b2⟩;have HB2:Hid (Below w.heap.size w w2):=HB1.out.trans (b2.mono HB1.out.size);have HV2:Hid (Vlt w2 A (newV (krs 1) 1 7) (Rd.newS 80)):=hv2;have HA:Hid (∀ k,A.has k→w.heap.size≤k):=fun k hk=>Nat.le_trans HB1.out.size (hA k hk)
 have HAl:Hid (∀ k,A.has k→k<w2.heap.size):=fun k hk=>hv2.has_lt hk
 have HNo:Hid (∀ b off,o=some ⟨b,off,none⟩→0<l1.length→¬A.has b):=fun b off e hn hb=>by
  obtain⟨b',off',e',hlt,-⟩:=HR.out.2.2.2.2 hn;rw[e] at e';cases e';have:=HA.out b hb;omega
 have HRw:Hid (∀ W,Rd.But A.has w2 W→zac W o cap l1):=fun W hb=>zeR (HR.out.below HB2.out zn) hb.size fun b off e hn hl=>hb.block b hl (HNo.out b off e hn)
 have HBl:Hid (∀ W,Rd.But A.has w2 W→Below w.heap.size w W):=fun W hb=>HB2.out.trans (hb.below (fun k hk=>HA.out k hk) HB2.out.size)
 clear hv2 hA b2 HMd HB1;cases h0:zaG l1
 ·have HSv:Hid (∀ W,Rd.But A.has w2 W→Vlt W A (newV (krs 1) 1 7) (Rd.newS 80)→Calls Tryz.prog 13 #[pt A.g,.slice o m cap,.slice none 0 0] W fun e w'=>e=.returned (.tuple #[.slice none 0 0,.int .i64 80])∧Vlt w' A (newV (krs 1) 1 7) (Rd.newS 80)∧Rd.But A.has W w'):=fun W hW hV=>by
   have:=znh A (newV (krs 1) 1 7) (Rd.newS 80) l1 o cap (.slice none 0 0) W hV (zel 80 (by omega) (by omega)).hon.ok (HRw.out W hW) HNo.out h0;rw[HM.out] at this;exact this
  have HS2:Hid _:=HSv.out w2 (Rd.But.of_below (Below.refl _ _)) HV2.out;clear h0;go_wp2_with fail;refine Calls.mono HS2.out ?_;rintro e w3 ⟨rfl,hv3,hb3⟩;have HSl:Hid _:=Rv.zli A (newV (krs 1) 1 7) (Rd.newS 80) w3 hv3;have HS3:Hid _:=HSv.out w3 hb3 hv3;have HB3:Hid (Rd.But A.has w2 w3):=hb3;clear hv3 hb3 HS2 HSv;go_wp2_with fail;refine Calls.mono HSl.out ?_;rintro e w3' ⟨rfl,hw3⟩;have hw3':=hw3.symm;clear hw3 HSl;subst hw3';go_wp2_with fail;refine Calls.mono HS3.out ?_;rintro e w4 ⟨rfl,-,hb4⟩;have HB4:Hid (Below w.heap.size w w4):=HBl.out w4 (HB3.out.trans hb4);clear hb4 HS3 HB3;go_wp2_with fail;go_ret;exact⟨rfl,HB4.out⟩
 ·obtain⟨g,hg⟩:∃ g,zad (hadP (wh []) (svP Kt)) 32 ⟨e0v,Rd.newS 80,[]⟩ l1=g:=⟨_,rfl⟩
  obtain⟨he,hag⟩:=again_facts Kt h0 hok1 (by rw[HM.out];exact HL24.out) hg;have hLg:outL g=g.ys:=if_pos he;have hVg:finV g=g.s.v:=if_pos he;have HSv:Hid (∀ _:True,_):=fun _=>zlG Kt A e0v (Rd.newS 80) l1 o cap [] none 0 w2 HV2.out (zel 80 (by omega) (by omega)) (HT.out.below HB2.out zn) (HRw.out w2 (Rd.But.of_below (Below.refl _ _))) HNo.out hok1 h0 (Sl.nil 3 w2) (fun b' off e=>by cases e) (fun y hy=>by cases hy) (by decide) g hg
  rw[hLg,hVg,he,HM.out] at HSv;clear hg hLg hVg he;obtain⟨⟨V,T,tk⟩,ys,ge,gr⟩:=g;simp only at HSv hag;clear tk ge gr;obtain⟨P,hP⟩:∃ P,ys.length=P:=⟨_,rfl⟩;rw[hP] at HSv;have HP:Hid (ys.length=P):=hP;have HP48:Hid (P≤48):=by have:=hag.len;rw[hP] at this;exact this
  have HAg:Hid (Ag Kt l1 ys V T):=hag;have HOk:Hid (zaG l1=true∧∀ r∈l1,zbd r):=⟨h0,hok1⟩
  have HSl:Hid (∀ W,Vlt W A V T→Calls Tryz.prog 35 #[pt A.g] W fun e w'=>e=.returned (.int .u64 (P:Int))∧w'=W):=fun W hv=>by
   have:=Rv.zli A V T W hv;rw[HAg.out.seals,HP.out] at this;exact this
  have HSv2:Hid (∀ W oh caph,Vlt W A V T→Rs.Tb Kt W→zac W o cap l1→SvAt W oh caph ys→(∀ b off,oh=some ⟨b,off,none⟩→¬A.has b)→Calls Tryz.prog 13 #[pt A.g,.slice o m cap,.slice oh P caph] W fun e w'=>∃ o' cap',e=.returned (.tuple #[.slice o' P cap',.int .i64 0])∧SvAt w' o' cap' ys∧Vlt w' A V T∧Rs.Tb Kt w'∧Rd.But A.has W w'):=fun W oh caph hv ht hr hs hn=>by
   obtain⟨r,hr2⟩:=HAg.out.again;have:=zlG Kt A V T l1 o cap ys oh caph W hv HAg.out.pok ht hr HNo.out HOk.out.2 HOk.out.1 hs (fun b off e _=>hn b off e) HAg.out.small (by have:=HAg.out.len;omega) _ hr2;rw[HM.out,HP.out] at this;refine this.mono ?_;rintro e w' ⟨o',cap',h1,h2,-,h4,h5,h6⟩;have e1:outL (⟨⟨V,T,[]⟩,ys,0,r⟩:Gr Sx)=ys:=if_pos rfl;rw[e1] at h1 h2;rw[HP.out] at h1;exact⟨o',cap',h1,h2,h4,h5,h6⟩
  have HS14:Hid (∀ W o cap o2 cap2,SvAt W o cap ys→SvAt W o2 cap2 ys→Calls Tryz.prog 16 #[.slice o P cap,.slice o2 P cap2] W fun e w'=>e=.returned (.bool true)∧Below W.heap.size W w'):=fun W o cap o2 cap2 h1 h2=>by
   have:=zlP ys ys o cap o2 cap2 W h1 h2;rw[(ze9 eqS zlH ys ys).2 rfl,HP.out] at this;exact this
  clear h0 hok1 hP hag HT HR;go_wp2_with fail;refine Calls.mono (HSv.out trivial) ?_;rintro e w3 ⟨o3,cap3,rfl,hs3,hf3,hv3,ht3,hb3⟩;have HF3:Hid (∀ b off,o3=some ⟨b,off,none⟩→¬A.has b):=fun b off e e'=>by have:=hf3 b off e;have:=HAl.out b e';omega
  have HR3:Hid (SvAt w3 o3 cap3 ys∧Vlt w3 A V T∧Rs.Tb Kt w3∧Rd.But A.has w2 w3):=⟨hs3,hv3,ht3,hb3⟩;have HSl3:Hid _:=HSl.out w3 hv3;have HS3:Hid _:=HSv2.out w3 o3 cap3 hv3 ht3 (HRw.out w3 hb3) hs3 HF3.out;clear hs3 hv3 ht3 hb3 hf3 HSv;go_wp2_with fail;refine Calls.mono HSl3.out ?_;rintro e w3' ⟨rfl,hw3⟩;have hw3':=hw3.symm;clear hw3 HSl3;subst hw3';go_wp2_with fail;refine Calls.mono HS3.out ?_;rintro e w4 ⟨o4,cap4,rfl,hs4,hv4,ht4,hb4⟩;have HR4:Hid (SvAt w4 o3 cap3 ys∧Vlt w4 A V T∧Rs.Tb Kt w4∧Rd.But A.has w2 w4):=⟨HR3.out.1.keep hb4.size fun b off e _ hl=>hb4.block b hl (HF3.out b off e),hv4,ht4,HR3.out.2.2.2.trans hb4⟩;have HS4:Hid _:=HS14.out w4 o3 cap3 o4 cap4 HR4.out.1 hs4;clear hs4 hv4 ht4 hb4 HS3 HR3 HSv2;go_wp2_with fail;refine Calls.mono HS4.out ?_;rintro e w5 ⟨rfl,b5⟩
  have HR5:Hid (SvAt w5 o3 cap3 ys∧Vlt w5 A V T∧Rs.Tb Kt w5∧Rd.But A.has w2 w5):=by
   obtain⟨a1,a2,a3,a4⟩:=HR4.out;exact⟨a1.below b5 zn,a2.below b5 zn,a3.below b5 zn,a4.trans (Rd.But.of_below b5)⟩
  have HSl5:Hid _:=HSl.out w5 HR5.out.2.1;clear b5 HS4 HR4;go_wp2_with fail;refine Calls.mono HSl5.out ?_;rintro e w5' ⟨rfl,hw5⟩;have hw5':=hw5.symm;clear hw5 HSl5;subst hw5';have HB5:Hid (Below w.heap.size w w5):=HBl.out w5 HR5.out.2.2.2;by_cases ha:at'<0
  ·go_wp2_with fail
   go_ret;exact⟨rfl,HB5.out⟩
  ·obtain⟨i,rfl⟩:=Int.eq_ofNat_of_zero_le (show 0≤at' by omega)
   by_cases hi:m≤i
   ·have q1:(m:Int)≤(i:Int):=by omega
    go_wp2_with fail;go_ret;exact⟨rfl,HB5.out⟩
   ·have q1:¬(m:Int)≤(i:Int):=by omega
    have him:i<l1.length:=by rw[HM.out];omega
    obtain⟨W6,W7,W8,v7,o8,c8,r6,r7,r8,h8,f8,b8⟩:=less_made w5.drew l1 o cap i ((HRw.out w5 HR5.out.2.2.2).below ⟨rfl,rfl,rfl,Nat.le_refl _,fun _ _=>rfl⟩ zn) him (by rw[HM.out];exact HL24.out);rw[HM.out] at r6 r7 r8;have hcap:=(HRw.out w5 HR5.out.2.2.2).1;have hcp:=(HRw.out w5 HR5.out.2.2.2).2.2.1;rw[HM.out] at hcap;have rh:∀ W,(Instr.sliceAt 22 (.slice o m cap) none (some (.int .i64 (i:Int))) none).run Tryz.prog W=.ok (.slice o i cap) W:=fun W=>zmm o m cap i W (by omega) hcp
    have rt:∀ W,(Instr.sliceAt 22 (.slice o m cap) (some (.int .i64 ((i:Int)+1))) none none).run Tryz.prog W=.ok (.slice (if cap=i+1 then o else o.map (·.add ((i+1)*4))) (m - (i+1)) (cap - (i+1))) W:=fun W=>by
     have:=run_tail o m cap (i+1) W (by omega) hcap hcp;rwa[show((i+1:Nat):Int)=(i:Int)+1 by omega] at this
    obtain⟨lo,hlo⟩:∃ lo,(if cap=i+1 then o else o.map (·.add ((i+1)*4)))=lo:=⟨_,rfl⟩;obtain⟨lm,hlm⟩:∃ lm,m - (i+1)=lm:=⟨_,rfl⟩;obtain⟨lc,hlc⟩:∃ lc,cap - (i+1)=lc:=⟨_,rfl⟩;rw[hlo,hlm,hlc] at r8;simp only[hlo,hlm,hlc] at rt;have hw5:Below w5.heap.size w5 w5.drew:=⟨rfl,rfl,rfl,Nat.le_refl _,fun _ _=>rfl⟩;have hb58:Below w5.heap.size w5 W8:=hw5.trans b8;have HI:Hid (i<m):=by refine(?_:i<m);omega
    have HR8:Hid (SvAt W8 o3 cap3 ys∧Vlt W8 A V T∧Rs.Tb Kt W8∧Rd.But A.has w2 W8):=by
     obtain⟨a1,a2,a3,a4⟩:=HR5.out;exact⟨a1.below hb58 zn,a2.below hb58 zn,a3.below hb58 zn,a4.trans (Rd.But.of_below hb58)⟩
    have HL8:Hid (zac W8 o8 c8 (l1.eraseIdx i)∧(∀ b off,o8=some ⟨b,off,none⟩→¬A.has b)):=⟨h8,fun b off e e'=>by
     have h1:=f8 b off e;have h2:=HAl.out b e';have h3:=HR5.out.2.2.2.size;have h4:w5.drew.heap.size=w5.heap.size:=rfl;omega⟩
    have k1:(m:Int)≤24:=by have:=HL24.out;omega
    have k2:(i:Int)<24:=by omega
    have k3:IntKind.i64.wrap ((i:Int)+1)=(i:Int)+1:=wrap_i64 (by omega) (by omega);clear hlo hlm hlc hcap hcp h8 f8 b8 hw5 hb58 him HR5 HB5 HS14;have R6:Hid _:=r6;have R7:Hid _:=r7;have R8:Hid _:=r8;clear r6 r7 r8;go_wp2_with fail;refine wp_region_any (by kernel_rfl) ?_;change wpAny _ _ _ _ _ _ _ (World.drew _);refine plan [0,1,3,4,5,7,8,9,10] ?_
    iterate 9
     refine tkA (v:=?_) rfl ?_ ?_;rotate_left
     ·intro w;go_simp;try with_reducible rfl
     conv in(Act.put _ _ _)=>simp only[zL1,zL2,zL3,Act.put,zL4,zL5,zL6]
    refine plan0 ?_;refine wpAny_ready (rs:=[2]) (by kernel_rfl) (by simp) ?_;refine(AllReady.cons rfl (fun K hK=>?_) AllReady.nil);rw[if_pos (by rfl)];refine opMk 22 _ _ rfl rfl rfl R6.out ?_;refine hK _ _ ?_;clear hK K;refine wpAny_ready (rs:=[6]) (by kernel_rfl) (by simp) ?_;refine(AllReady.cons rfl (fun K hK=>?_) AllReady.nil);rw[if_pos (by rfl)];refine zpb 22 22 _ _ rfl rfl rfl R7.out ?_;refine hK _ _ ?_;clear hK K;refine wpAny_ready (rs:=[11]) (by kernel_rfl) (by simp) ?_;refine(AllReady.cons rfl (fun K hK=>?_) AllReady.nil);rw[if_pos (by rfl)];refine zpb 22 22 _ _ rfl rfl rfl R8.out ?_;refine hK _ _ ?_;clear hK K;refine plan [12] ?_;refine tkA (v:=?_) rfl ?_ ?_;rotate_left
    ·intro w;go_simp;try with_reducible rfl
    conv in(Act.put _ _ _)=>simp only[zL1,zL2,zL3,Act.put,zL4,zL5,zL6]
    refine plan0 ?_;refine wpAny_done (by kernel_rfl) ?_ _
    rename_i hKK
    refine hKK _ _ ?_;clear hKK R6 R7 R8 rh rt k3 q1 hi ha;obtain⟨hr',ho'⟩:=right_erase HOk.out.1 HOk.out.2 i;have hlen:(l1.eraseIdx i).length=m - 1:=by rw[List.length_eraseIdx,if_pos (by rw[HM.out];exact HI.out),HM.out]
    obtain⟨g,hg⟩:∃ g,zad (hadP (wh ys) (svP Kt)) 32 ⟨V,T,[]⟩ (l1.eraseIdx i)=g:=⟨_,rfl⟩;obtain⟨he,hse,hpk⟩:=HAg.out.less i (by rw[HM.out];exact HI.out) g hg;rw[HP.out] at hse;obtain⟨⟨R,hR,hrd⟩,hare,⟨ps,pt',hps⟩,hr32⟩:=zlV HAg.out.gst hr' ho' hg he;have hLg:outL g=g.ys:=if_pos he;have hVg:finV g=g.s.v:=if_pos he;have HSv:Hid (∀ _:True,_):=fun _=>zlG Kt A V T (l1.eraseIdx i) o8 c8 ys o3 cap3 W8 HR8.out.2.1 HAg.out.pok HR8.out.2.2.1 HL8.out.1 (fun b off e _=>HL8.out.2 b off e) ho' hr' HR8.out.1 (fun b off e _=>HF3.out b off e) HAg.out.small (by have:=HAg.out.len;omega) g hg
    obtain⟨Q,hQ⟩:∃ Q,g.ys.length=Q:=⟨_,rfl⟩;rw[hLg,hVg,he,hlen,HP.out,hQ] at HSv
    have HLs:Hid (∀ W o cap,SvAt W o cap g.ys→Calls Tryz.prog 22 #[.slice o Q cap] W fun e w'=>e=.returned (.agg #[.int .u32 (g.r.p:Int),.string g.r.t])∧Below W.heap.size W w'):=fun W o cap h=>by
     have:=znu g.ys g.r pt' ps hps o cap W h;rw[hQ] at this;exact this
    have HLd:Hid (∀ W:World,Vlt W A g.s.v g.s.t→Rs.Tb Kt W→Calls Tryz.prog 29 #[pt A.g,.agg #[.int .u32 (g.r.p:Int),.string g.r.t]] W fun e w'=>∃ o cap v2,e=.returned (.tuple #[.slice o (m - 1) cap,v2,.int .i64 0])∧zac w' o cap (l1.eraseIdx i)∧Vlt w' A g.s.v g.s.t∧Rd.But A.has W w'):=fun W hv hT=>by
     refine(znn Kt A g.s.v g.s.t g.r hr32 W hv hpk.vok hpk.hon.ok hT (sortsR_any 24 (by decide)) (⟨g.ys.length,R,g.ys⟩,0) hrd (fun _=>by show R.length≤24;rw[hR.length_eq,hlen];have:=HL24.out;omega)).mono ?_;rintro e w' ⟨h1|⟨-,m1,m2,m3,h2⟩,h3,h4,h5⟩
     ·exact absurd rfl h1.1
     ·have hm:m1=l1.eraseIdx i:=zjt m3 (m2.trans hR) (zew hr')
      rw[hm] at h2;rcases h2 with⟨a1,-⟩|⟨-,o,cap,o2,cap2,a1,a2,a3,-,-⟩
      ·have:areB g.ys (l1.eraseIdx i)=false:=a1
       rw[hare] at this;cases this
      ·exact⟨o,cap,_,by rw[a1,hlen],a2,h3,h5⟩
    have HS9:Hid (∀ W o cap o2 cap2,zac W o cap (l1.eraseIdx i)→zac W o2 cap2 (l1.eraseIdx i)→Calls Tryz.prog 31 #[.slice o (m - 1) cap,.slice o2 (m - 1) cap2] W fun e w'=>e=.returned (.bool true)∧Below W.heap.size W w'):=fun W o cap o2 cap2 h1 h2=>by
     have:=zj9 (l1.eraseIdx i) (l1.eraseIdx i) o cap o2 cap2 W h1 h2;rw[(ze9 eqR zn8 _ _).2 rfl,hlen] at this;exact this
    have HSl9:Hid (∀ W,Vlt W A g.s.v g.s.t→Calls Tryz.prog 35 #[pt A.g] W fun e w'=>e=.returned (.int .u64 (g.s.v.seals:Int))∧w'=W):=fun W hv=>Rv.zli A g.s.v g.s.t W hv
    have HLb:Hid (∀ W,Rd.But A.has W8 W→zac W o8 c8 (l1.eraseIdx i)):=fun W hb=>zeR HL8.out.1 hb.size fun b off e hn hl=>hb.block b hl (HL8.out.2 b off e)
    have p1:IntKind.u64.wrap ((P:Int)+20)=(P:Int)+20:=IntWalk.u64_in _ (by have:=HP48.out;omega);obtain⟨S,hS⟩:∃ S,g.s.v.seals=S:=⟨_,rfl⟩;rw[hS] at hse HSl9;have p2:(S:Int)≤(P:Int)+20:=by omega
    have HB8:Hid (∀ W,Rd.But A.has W8 W→Below w.heap.size w W):=fun W hb=>HBl.out W (HR8.out.2.2.2.trans hb)
    clear hg he hse hpk hR hrd hare hps hr32 hLg hVg hS hQ hr' ho' hlen;obtain⟨⟨V9,T9,tk⟩,ys9,ge,gr,gt⟩:=g;simp only at HSv HLs HLd HSl9;clear tk ge R ps pt' HAg HSl HRw HNo HA HAl HB2 HV2 HOk;generalize l1.eraseIdx i=lx at*
    go_wp2_with fail;refine Calls.mono (HSv.out trivial) ?_;rintro e w9 ⟨o9,cap9,rfl,hs9,hf9,hv9,ht9,hb9⟩;have HR9:Hid (SvAt w9 o9 cap9 ys9∧Vlt w9 A V9 T9∧Rs.Tb Kt w9∧Rd.But A.has W8 w9):=⟨hs9,hv9,ht9,hb9⟩;have HL9:Hid _:=HLs.out w9 o9 cap9 hs9;clear hs9 hf9 hv9 ht9 hb9 HSv HLs;go_wp2_with fail;refine Calls.mono HL9.out ?_;rintro e w10 ⟨rfl,b10⟩;have HR10:Hid (Vlt w10 A V9 T9∧Rd.But A.has W8 w10):=⟨HR9.out.2.1.below b10 zn,HR9.out.2.2.2.trans (Rd.But.of_below b10)⟩;have HL10:Hid _:=HLd.out w10 HR10.out.1 (HR9.out.2.2.1.below b10 zn);clear b10 HL9 HLd HR9;go_wp2_with fail;refine Calls.mono HL10.out ?_;rintro e w11 ⟨oa,ca,va,rfl,ra,hv11,hb11⟩;have HR11:Hid (zac w11 oa ca lx∧Rd.But A.has W8 w11):=⟨ra,HR10.out.2.trans hb11⟩;have HS11:Hid _:=HSl9.out w11 hv11;have HE11:Hid _:=HS9.out w11 oa ca o8 c8 ra (HLb.out w11 HR11.out.2);clear ra hv11 hb11 HL10 HSl9 HS9 HLb HR10;go_wp2_with fail;refine Calls.mono HS11.out ?_
    rintro e w11' ⟨rfl,hw11⟩;have hw11':=hw11.symm;clear hw11 HS11;subst hw11';go_wp2_with fail;refine Calls.mono HE11.out ?_;rintro e w12 ⟨rfl,b12⟩;have HFin:Hid (Below w.heap.size w w12):=HB8.out w12 (HR11.out.2.trans (Rd.But.of_below b12));clear b12 HE11 HR11;go_wp2_with fail;go_ret;exact⟨rfl,HFin.out⟩
end Rz
end Go.Proofs.YtokfnghckpgjmaaGreatDoor
