/- The document's example; equal texts. -/
import Derived.Test.YtokfnghckpgjmaaGreatDoorPPo
import Derived.Test.YtokfnghckpgjmaaGreatDoorPPk
import Derived.Test.YtokfnghckpgjmaaGreatDoorQE
set_option maxRecDepth 100000
set_option maxHeartbeats 2000000
namespace Go.Proofs.YtokfnghckpgjmaaGreatDoor
section
open Go.RowKit Go.Lib
theorem rz (Kt:Nat→Int) (key:ByteArray) (hk:key.size≤1000000) (n:Nat) (hn:n≤1000) (cs:Array Value) (T:TypeId) (ts:Nat→ByteArray) (C:ByteArray) (hC:eF ts n=C) (hL:C.size≤1000000000) (hc:∀ i,i<n→cs[i]? =some (.string (ts i))) (w:World) {tt:TypeId} {fr:Nat × Nat} (hK:w.heap[3]? =some (.cells (dH Kt) tt fr)):
  Calls Tryz.prog 181 #[.string key,.slice (some ⟨w.heap.size,0,none⟩) n n] (w.alloc (.cells cs T)) fun e w'=>e=.returned (.string (eK Kt key C))∧Below w.heap.size w w':=by
 have h1l:3<w.heap.size:=(zi hK).1;refine(zor Kt key hk n n (some ⟨w.heap.size,0,none⟩) (fun h=>by cases h) ts C hC (w.alloc (.cells cs T)) (((bF w _).block 3 h1l).trans hK) hL uo fun i hi=>⟨w.heap.size,0,rfl,by simp,?_⟩).mono fun e w' ⟨h1,h2⟩=>⟨h1,(bF w _).trans (h2.mono us)⟩
 rw[Nat.zero_add,zr (zq w _)];exact hc i hi
theorem zos (x y:Int) (x0:0≤x) (x1:x<256) (y0:0≤y) (y1:y<256):(bits .or .u8 x y=0↔x=0∧y=0)∧0≤bits .or .u8 x y∧bits .or .u8 x y<256:=by
 obtain⟨a,rfl⟩:=Int.eq_ofNat_of_zero_le x0;obtain⟨b,rfl⟩:=Int.eq_ofNat_of_zero_le y0;rw[u8_or_nat a b uo uo];have h1:a|||b<2 ^ 8:=Nat.or_lt_two_pow uo uo
 refine⟨?_,by omega,by omega⟩;have h2:a|||b=0↔a=0∧b=0:=Nat.or_eq_zero_iff
 omega
theorem xor_zero (x y:Int) (x0:0≤x) (x1:x<256) (y0:0≤y) (y1:y<256):(bits .xor .u8 x y=0↔x=y)∧0≤bits .xor .u8 x y∧bits .xor .u8 x y<256:=by
 obtain⟨a,rfl⟩:=Int.eq_ofNat_of_zero_le x0;obtain⟨b,rfl⟩:=Int.eq_ofNat_of_zero_le y0;rw[u8_xor_nat a b uo uo];have h1:a ^^^ b<2 ^ 8:=Nat.xor_lt_two_pow uo uo;refine⟨?_,by omega,by omega⟩
 have h2:a ^^^ b=0↔a=b:=by
  constructor
  ·intro h
   have e:(a ^^^ b) ^^^ b=a:=by rw[Nat.xor_assoc,Nat.xor_self,Nat.xor_zero]
   rw[h,Nat.zero_xor] at e;exact e.symm
  ·rintro rfl
   exact Nat.xor_self _
 omega
theorem nK (a b:ByteArray) (hs:a.size=b.size) (h:∀ j,j<a.size→bt a j=bt b j):a=b:=by
 apply ByteArray.ext;apply Array.ext
 ·exact hs
 ·intro i h1 h2
  have:=h i h1;unfold bt at this;rw[Array.getElem?_eq_getElem h1,Array.getElem?_eq_getElem h2] at this;simp only[Option.getD_some] at this;exact UInt8.toNat_inj.1 uo
theorem sA (a b:ByteArray) (ha:a.size≤maxLen) (w:World):
  Calls Tryz.prog 260 #[.string a,.string b] w fun e w'=>e=.returned (.bool (decide (a=b)))∧Below w.heap.size w w':=by
 unfold maxLen at ha;by_cases hs:a.size=b.size
 ·have q0:((a.size:Int) !=(b.size:Int))=false:=by simp[hs]
  have HS:Hid (a.size=b.size):=hs;have hsz:(a.size:Int)≤9223372036854775807:=uo
  clear hs;go_enter Tryz.func260,Tryz.ntmps260;go_wp2_with fail
  go_loopw [5,14] (fun v i wr=>∃ (k:Nat) (x:Int),k≤a.size∧v=.int .u8 x∧i=.int .i64 (k:Int)∧(x=0↔∀ j,j<k→bt a j=bt b j)∧0≤x∧x<256∧Below w.heap.size w wr) (fun _ i _=>a.size - (intOf i).toNat)
  case atStart=>exact⟨0,0,by omega,rfl,rfl,by simp,by decide,by decide,Below.refl _ _⟩
  case round=>
   obtain⟨k,x,hk,rfl,rfl,hx,x0,x1,hbe⟩:=hrel;have HX:Hid (x=0↔∀ j,j<k→bt a j=bt b j):=hx;have BX:Hid (Below w.heap.size w wr):=hbe;clear hx hbe;by_cases hlt:k<a.size
   ·have g0:(k:Int)<(a.size:Int):=uo
    have g1:(0:Int)≤(k:Int):=uo
    have i1:=lO a k hlt;have i2:=lO b k (by have:=HS.o;omega);have ra:=iW a k;have rb:=iW b k;have HV:Hid (∀ j,j<k→True):=fun _ _=>trivial
    obtain⟨p,hp⟩:∃ p,bt a k=p:=⟨_,rfl⟩;obtain⟨q,hq⟩:∃ q,bt b k=q:=⟨_,rfl⟩;rw[hp] at i1 ra;rw[hq] at i2 rb;have HPQ:Hid (bt a k=p∧bt b k=q):=⟨hp,hq⟩;have hxo:=xor_zero p q ra.1 ra.2 rb.1 rb.2;have hoo:=zos x (bits .xor .u8 p q) x0 x1 hxo.2.1 hxo.2.2;have HOO:Hid (((bits .or .u8 x (bits .xor .u8 p q)=0↔x=0∧bits .xor .u8 p q=0)∧0≤bits .or .u8 x (bits .xor .u8 p q)∧bits .or .u8 x (bits .xor .u8 p q)<256)∧(bits .xor .u8 p q=0↔p=q)):=⟨hoo,hxo.1⟩;clear hp hq hxo hoo HV;go_wp2_with fail;refine wp_region_any uk ?_;change wpAny _ _ _ _ _ _ _ (World.drew _);refine bB [0,1,2,3,4,5,6,7,8] ?_
    iterate 9
     refine fS (v:=?_) rfl ?_ ?_;rotate_left
     ·intro w;go_simp;try with_reducible rfl
     conv in(Act.put _ _ _)=>simp only[bH,bI,bJ,Act.put,bK,bL,bM]
    refine bA ?_;refine wpAny_ready (rs:=[9]) uk us ?_;refine(AllReady.cons rfl (fun K hK=>?_) AllReady.nil);go_simp;refine hK _ _ ?_;clear hK K;refine wpAny_done uk ?_ _;go_wp2_with fail
    go_roundw
    case rel=>
     refine⟨k+1,_,hlt,rfl,by go_num,?_,HOO.o.1.2.1,HOO.o.1.2.2,BX.o.drew⟩;rw[HOO.o.1.1,HOO.o.2,HX.o];obtain⟨hp,hq⟩:=HPQ.o;constructor
     ·rintro⟨h1,h2⟩ j hj
      by_cases e:j=k
      ·subst e;rw[hp,hq,h2]
      ·exact h1 j uo
     ·intro h
      exact⟨fun j hj=>h j uo,by rw[←hp,←hq];exact h k uo⟩
    case measure=>simp[intOf];omega
   ·obtain rfl:k=a.size:=uo
    have a0:¬(a.size:Int)<(a.size:Int):=uo
    have hfin:(x==0)=decide (a=b):=by
     by_cases e:a=b
     ·subst e
      have:x=0:=HX.o.2 (fun j _=>rfl);simp[this]
     ·have:¬x=0:=fun h0=>e (nK a b HS.o (HX.o.1 h0))
      simp[this,e]
    have HF:Hid ((x==0)=decide (a=b)):=hfin;clear hfin;go_wp2_with fail;go_ret;exact⟨by rw[←HF.o];rfl,BX.o⟩
 ·have q0:((a.size:Int) !=(b.size:Int))=true:=by simp;omega
  have hd:decide (a=b)=false:=by simp;intro e;exact hs (by rw[e])
  rw[hd];clear hd;go_enter Tryz.func260,Tryz.ntmps260;go_wp2_with fail;go_ret;exact⟨rfl,Below.refl _ _⟩
open Go.RowKit Go.Shelf Go.Lib
attribute [local go_sem] Oper.semAt_some
def jl (Kt:Nat→Int) (key label:ByteArray):Nat→ByteArray
 |0=>⟨#[]⟩
 |i+1=>eK Kt key (jl Kt key label i++label++strOfNums [((i+1:Nat):Int)])
theorem zhZ (Kt:Nat→Int) (key label:ByteArray) (i:Nat):(jl Kt key label (i+1)).size=32:=rx _ _ _
theorem zpG (Kt:Nat→Int) (key label:ByteArray) (i:Nat):(jl Kt key label i).size≤32:=by
 cases i with
 |zero=>exact Nat.zero_le _
 |succ i=>rw[zhZ];exact Nat.le_refl _
def ng (Kt:Nat→Int) (key label:ByteArray) (k:Nat):Int:=bt (jl Kt key label (k/32+1)) (k%32)
theorem zpH (Kt:Nat→Int) (key label:ByteArray) (i k:Nat) (hk:k<32):ng Kt key label (32*i+k)=bt (jl Kt key label (i+1)) k:=by
 unfold ng;rw[show(32*i+k)/32=i by omega,show(32*i+k)%32=k by omega]
theorem zot (w:World) (x:Int):(convert 140 9 (.slice (some ⟨w.heap.size,0,none⟩) 1 1)).run Tryz.prog (w.alloc (.cells #[.int .u8 x] 5))=.ok (.string (strOfNums [x])) (w.alloc (.cells #[.int .u8 x] 5)):=
 zmw w #[.int .u8 x] [x] 1 rfl (fun i hi=>by
  match i,hi with
  |0,_=>rfl)
theorem zfU (Kt:Nat→Int) (key label:ByteArray) (hk:key.size≤1000000) (hlb:label.size≤1000000) (b1 b2 N:Nat) (hN:N≤8160) (w0:World) (hb1:b1<w0.heap.size) (hb2:b2<w0.heap.size) (h1:w0.heap[b1]? =some (.cells #[.string key] 9 (0,0))) (h2:w0.heap[b2]? =some (.cells #[.string label] 9 (0,0)))
  {tt:TypeId} {fr:Nat × Nat} (hK:w0.heap[3]? =some (.cells (dH Kt) tt fr)):
  ru 274 #[.pointer (some ⟨b1,0,none⟩),.pointer (some ⟨b2,0,none⟩)] (ng Kt key label) N w0:=by
 intro l W hKq R Rx hR hRx hY hN' h0;have h1l:3<w0.heap.size:=(zi hK).1;have HY:Hid _:=hY;have HN:Hid _:=hN';have HR:Hid _:=hR;have HRx:Hid _:=hRx;have H0:Hid (R 0 W):=h0
 have KB:Hid (∀ A:World,Kq w0.heap.size W A→A.heap[b1]? =some (.cells #[.string key] 9 (0,0))∧A.heap[b2]? =some (.cells #[.string label] 9 (0,0))∧A.heap[3]? =some (.cells (dH Kt) tt fr)):=fun A hA=>
  ⟨(hKq.trans hA).2 b1 _ hb1 h1 rfl,(hKq.trans hA).2 b2 _ hb2 h2 rfl,(hKq.trans hA).2 3 _ h1l hK rfl⟩
 have hWl:w0.heap.size≤W.heap.size:=hKq.1;clear hY hN' hR hRx h0 hKq h1 h2 hK;refine callsIn_of_wp Tryz.func274 rfl trivial ?_ rfl;simp only[Tryz.ntmps274,eR,eS,eT,Nat.reduceAdd,Nat.reduceSub,eU,eV,eW,eX,eY,eZ];gi_wp2
 gi_loopw [4,7] (fun v i wr=>∃ k:Nat,k≤255∧v=.string (jl Kt key label k)∧i=.int .i64 (k:Int)∧R (32*k) wr∧Kq w0.heap.size W wr) (fun _ i _=>255 - bu i)
 case atStart=>exact⟨0,by omega,rfl,rfl,H0.o,Kq.refl _ _⟩
 case round=>
  clear H0;obtain⟨k,hk255,rfl,rfl,hRk,hKk⟩:=hrel;have HRk:Hid (R (32*k) wr):=hRk;have HKk:Hid (Kq w0.heap.size W wr):=hKk;obtain⟨f1,f2,f3⟩:=KB.o wr hKk;have c1:wr.cell? ⟨b1,0,none⟩=some (.string key):=by rw[zr f1];rfl
  have c2:wr.cell? ⟨b2,0,none⟩=some (.string label):=by rw[zr f2];rfl
  have F3:Hid (wr.heap[3]? =some (.cells (dH Kt) tt fr)):=f3;have k0:(0:Int)≤(k:Int):=uo
  clear hRk hKk f1 f2 f3;by_cases hlt:k<255
  ·have k1:(k:Int)<255:=uo
   have hoc:=zot wr ((k:Int)+1);have hts:=zpG Kt key label k;have HT1:Hid (jl Kt key label (k+1)=eK Kt key (jl Kt key label k++label++strOfNums [(k:Int)+1])):=rfl;have hT1s:=zhZ Kt key label k;have HXP:Hid (∀ j,j<32→ng Kt key label (32*k+j)=bt (jl Kt key label (k+1)) j):=fun j hj=>zpH Kt key label k j hj
   obtain⟨T1,hTT⟩:∃ T1,jl Kt key label (k+1)=T1:=⟨_,rfl⟩;have HTT:Hid (jl Kt key label (k+1)=T1):=hTT;rw[hTT] at HT1 hT1s HXP;clear hTT;generalize jl Kt key label k=T0 at*
   have hos:(strOfNums [(k:Int)+1]).size=1:=strOfNums_size _;generalize strOfNums [(k:Int)+1]=O1 at*
   have hcat:(T0++label++O1).size=T0.size+label.size+O1.size:=by rw[ByteArray.size_append,ByteArray.size_append]
   have MC:Hid (Calls Tryz.prog 181 #[.string key,.slice (some ⟨wr.heap.size+1,0,none⟩) 3 3] ((wr.alloc (.cells #[.int .u8 ((k:Int)+1)] 5)).alloc (.cells #[.string T0,.string label,.string O1] 9)) fun e w'=>e=.returned (.string T1)∧Below wr.heap.size wr w'):=by
    have hsz:(wr.alloc (.cells #[.int .u8 ((k:Int)+1)] 5)).heap.size=wr.heap.size+1:=by simp
    refine(?_:Calls Tryz.prog 181 #[.string key,.slice (some ⟨wr.heap.size+1,0,none⟩) 3 3] ((wr.alloc (.cells #[.int .u8 ((k:Int)+1)] 5)).alloc (.cells #[.string T0,.string label,.string O1] 9)) fun e w'=>e=.returned (.string T1)∧Below wr.heap.size wr w');rw[HT1.o,←hsz]
    refine(rz Kt key hk 3 ud #[.string T0,.string label,.string O1] 9 (fun i=>if i=0 then T0 else if i=1 then label else O1) (T0++label++O1) (by apply ByteArray.ext;simp[eF]) uo (fun i hi=>by
     match i,hi with
     |0,_=>rfl
     |1,_=>rfl
     |2,_=>rfl) (wr.alloc (.cells #[.int .u8 ((k:Int)+1)] 5)) (((bF wr _).block 3 (by have:=HKk.o.1;omega)).trans F3.o)).mono fun e w' ⟨e1,e2⟩=>⟨e1,(bF wr _).trans (e2.mono uo)⟩
   gi_wp2;refine⟨trivial,?_⟩;refine(callsIn_wide.2 MC.o).mono ?_;rintro e w3 ⟨rfl,b3⟩;have R3:Hid (R (32*k) w3):=HR.o _ wr w3 HRk.o (b3.mono HKk.o.1);have K3:Hid (Kq w0.heap.size W w3):=HKk.o.trans (Kq.below b3 (by have:=HKk.o.1;omega));clear b3 MC HRk HKk F3 c1 c2 hoc HT1 hcat;gi_wp2
   gi_loopw [22] (fun i wx=>∃ j:Nat,j≤32∧i=.int .i64 (j:Int)∧R (32*k+j) wx∧Kq w0.heap.size W wx) (fun i _=>32 - bu i)
   case atStart=>exact⟨0,by omega,rfl,R3.o,K3.o⟩
   case round=>
    clear R3 K3;obtain⟨j,hj,rfl,hRj,hKj⟩:=hrel;have HRj:Hid (R (32*k+j) wr):=hRj;have HKj:Hid (Kq w0.heap.size W wr):=hKj;have j0:(0:Int)≤(j:Int):=uo
    by_cases hj32:j<32
    ·have j1:(j:Int)<32:=uo
     have hix:=lO T1 j uo;obtain⟨fn,tmps,assign,body,hy,hRd⟩:=HY.o (32*k+j) wr hRj;rw[HXP.o j hj32] at hy;generalize bt T1 j=x at*
     clear hRj hKj;gi_wp2;refine hRd.mono ?_;rintro e W6 (⟨rfl,hR6,hk6⟩|⟨rfl,hx6⟩)
     ·gi_wp2
      go_roundw
      case rel=>exact⟨j+1,hj32,by go_num,hR6,HKj.o.trans hk6⟩
      case measure=>simp[bu];omega
     ·gi_wp2
      refine bodyPost_ret (results_none rfl _ _ _) rfl ?_;exact⟨⟨_,rfl⟩,hx6⟩
    ·obtain rfl:j=32:=uo
     clear hRj hKj;gi_wp2
     go_roundw
     case rel=>exact⟨k+1,hlt,by rw[HTT.o],by go_num,HRj.o,HKj.o⟩
     case measure=>simp[bu];omega
  ·obtain rfl:k=255:=uo
   have hlast:=HN.o _ wr HRk.o;omega
theorem zfg (key label:ByteArray) (w:World):
  Calls Tryz.prog 262 #[.string key,.string label] w fun e w'=>e=.returned (.func (.func 274) #[] #[.pointer (some ⟨w.heap.size,0,none⟩),.pointer (some ⟨w.heap.size+1,0,none⟩)])∧w'=(w.alloc (.cells #[.string key] 9)).alloc (.cells #[.string label] 9):=by
 go_enter Tryz.func262,Tryz.ntmps262;go_wp2_with fail;go_ret;exact⟨rfl,rfl⟩
def xS (Kt:Nat→Int) (key label:ByteArray) (n:Nat):ByteArray:=strOfNums (upto (ng Kt key label) n)
theorem zou (Kt:Nat→Int) (key label:ByteArray) (n:Nat):(xS Kt key label n).size=n:=by unfold xS;rw[strOfNums_size,fZ]
theorem zi2 (Kt:Nat→Int) (key label:ByteArray) (hk:key.size≤1000000) (hlb:label.size≤1000000) (n:Nat) (hn:n≤8160) (w:World) {tt:TypeId} {fr:Nat × Nat} (hK:w.heap[3]? =some (.cells (dH Kt) tt fr)):
  Calls Tryz.prog 239 #[.string key,.string label,.int .i64 (n:Int)] w fun e w'=>e=.returned (.tuple #[.string (xS Kt key label n),.int .i64 0])∧Below w.heap.size w w':=by
 have FE:Hid (Calls Tryz.prog 248 #[.int .i64 (n:Int),.func (.func 274) #[] #[.pointer (some ⟨w.heap.size,0,none⟩),.pointer (some ⟨w.heap.size+1,0,none⟩)]] ((w.alloc (.cells #[.string key] 9)).alloc (.cells #[.string label] 9)) fun e w'=>e=.returned (.string (xS Kt key label n))∧Below w.heap.size w w'):=by
  obtain⟨e1,e2,hb⟩:=fJ w (.cells #[.string key] 9) (.cells #[.string label] 9);have h1l:3<w.heap.size:=(zi hK).1;refine(callsIn_wide.1 (zhX 274 _ (ng Kt key label) n uo _ (enters_of Tryz.func274 uk rfl) (zfU Kt key label hk hlb w.heap.size (w.heap.size+1) (max n 1) uo _ (by simp;omega) us e1 e2 ((hb.block 3 h1l).trans hK)))).mono fun e w' ⟨h1,h2⟩=>⟨h1,hb.trans (h2.mono (by simp;omega))⟩
 have q1:decide ((n:Int)<0)=false:=by simp
 have q2:decide ((8160:Int)<(n:Int))=false:=by simp;omega
 generalize xS Kt key label n=X at*
 clear hK;go_enter Tryz.func239,Tryz.ntmps239;go_wp2_with fail;refine(zfg key label w).mono ?_;rintro e w1 ⟨rfl,rfl⟩;go_wp2_with fail;refine FE.o.mono ?_;rintro e w2 ⟨rfl,b2⟩;have B2:Hid (Below w.heap.size w w2):=b2;clear b2 FE;go_wp2_with fail;go_ret2;exact⟨rfl,B2.o⟩
end
end Go.Proofs.YtokfnghckpgjmaaGreatDoor
