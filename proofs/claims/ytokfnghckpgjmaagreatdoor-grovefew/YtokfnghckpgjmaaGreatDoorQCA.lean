/- Cells and boxes, in plain terms. -/
import Derived.Test.YtokfnghckpgjmaaGreatDoorPPo
import Derived.Lib.BitFns
import Derived.Test.YtokfnghckpgjmaaGreatDoorPPk
set_option maxRecDepth 100000
namespace Go.Proofs.YtokfnghckpgjmaaGreatDoor
namespace Rc
open Go.Lib
def bR (a n:Nat):Nat:=a/2 ^ n*2 ^ n
theorem kx (a n:Nat):bR a n≤a:=Nat.div_mul_le_self _ _
theorem mT (a n:Nat):a<bR a n+2 ^ n:=by
 unfold bR;have h1:=Nat.div_add_mod a (2 ^ n);have h2:=Nat.mod_lt a (Nat.two_pow_pos n);rw[Nat.mul_comm] at h1;omega
theorem rU (a n:Nat):bR a n=a↔a%2 ^ n=0:=by
 unfold bR;have h1:=Nat.div_add_mod a (2 ^ n);rw[Nat.mul_comm] at h1;omega
theorem zn1 (q n:Nat):bR (q*2 ^ n) n=q*2 ^ n:=by unfold bR;rw[Nat.mul_div_cancel _ (Nat.two_pow_pos n)]
theorem jw {X x n:Nat} (h:bR X n=X):bR x n=X↔X≤x∧x<X+2 ^ n:=by
 constructor
 ·intro e;have h1:=kx x n;have h2:=mT x n;omega
 ·rintro⟨h1,h2⟩
  unfold bR at h ⊢;rw[←h] at h1 h2 ⊢
  congr 1
  exact Nat.div_eq_of_lt_le h1 (by rw[Nat.add_mul];omega)
theorem oO (a:Nat) {n m:Nat} (h:m≤n):bR (bR a n) m=bR a n:=by
 obtain⟨k,rfl⟩:=Nat.le.dest h;have:bR a (m+k)=(a/2 ^ (m+k)*2 ^ k)*2 ^ m:=by unfold bR;rw[Nat.mul_assoc,←Nat.pow_add,Nat.add_comm k m]
 rw[this,zn1]
theorem zhG (a n:Nat):bR a n=bR a (n+1)+2 ^ n*(a/2 ^ n%2):=by
 unfold bR;rw[Nat.pow_succ,←Nat.div_div_eq_div_mul];have h:=Nat.div_add_mod (a/2 ^ n) 2;generalize a/2 ^ n=q at*
 generalize 2 ^ n=s at*
 have e:q/2*(s*2)+s*(q%2)=(2*(q/2)+q%2)*s:=by rw[Nat.add_mul,Nat.mul_comm s (q%2),Nat.mul_comm 2 (q/2),Nat.mul_assoc,Nat.mul_comm 2 s]
 rw[e,h]
theorem ziD (a n:Nat) (ha:a<4294967296) (hn:n≤32):a&&& (4294967295 - (2 ^ n - 1))=bR a n:=by
 apply Nat.eq_of_testBit_eq;intro i;have hp:=Nat.two_pow_pos n;rw[Nat.testBit_and,show 4294967295 - (2 ^ n - 1)=2 ^ 32 - ((2 ^ n - 1)+1) by omega,Nat.testBit_two_pow_sub_succ (by have:=Nat.pow_le_pow_right (n:=2) ud hn;omega),Nat.testBit_two_pow_sub_one];unfold bR;rw[Nat.testBit_mul_two_pow];by_cases h:n≤i
 ·rw[Nat.testBit_div_two_pow,Nat.sub_add_cancel h]
  by_cases h2:i<32
  ·simp[h,h2,Nat.not_lt.2 h]
  ·have:a.testBit i=false:=Nat.testBit_lt_two_pow (Nat.lt_of_lt_of_le ha (Nat.pow_le_pow_right (n:=2) (i:=32) (j:=i) ud uo))
   simp[this]
 ·simp[h,Nat.lt_of_not_le h]
theorem zdr:∀ (f x:Nat),x<2 ^ f→x<2 ^ bitLenAux f x
 |0,x,h=>by simpa [bitLenAux] using h
 |f+1,x,h=>by
  simp only[bitLenAux];split
  ·rename_i h0;simp[h0]
  ·have:=zdr f (x/2) (by rw[Nat.pow_succ] at h;omega)
   rw[Nat.add_comm,Nat.pow_succ];omega
theorem ziE (x k:Nat) (hx:x<2 ^ 64):bitLen x≤k↔x<2 ^ k:=by
 constructor
 ·intro h;exact Nat.lt_of_lt_of_le (zdr 64 x hx) (Nat.pow_le_pow_right ud h)
 ·intro h
  by_cases hk:k≤64
  ·exact bitLen_le x k hk h
  ·exact Nat.le_trans (bitLen_le x 64 zn hx) uo
theorem znA (x u n:Nat):x ^^^ u<2 ^ n↔bR x n=bR u n:=by
 have e:bR x n=bR u n↔x/2 ^ n=u/2 ^ n:=by
  unfold bR;exact⟨fun h=>Nat.eq_of_mul_eq_mul_right (Nat.two_pow_pos n) h,fun h=>by rw[h]⟩
 have z:(x ^^^ u)/2 ^ n=(x/2 ^ n) ^^^ (u/2 ^ n):=by rw[←Nat.shiftRight_eq_div_pow,←Nat.shiftRight_eq_div_pow,←Nat.shiftRight_eq_div_pow,Nat.shiftRight_xor_distrib]
 rw[e,←Nat.div_eq_zero_iff_lt (Nat.two_pow_pos n),z];constructor
 ·intro h
  have h2:(x/2 ^ n ^^^ u/2 ^ n) ^^^ u/2 ^ n=x/2 ^ n:=by rw[Nat.xor_assoc,Nat.xor_self,Nat.xor_zero]
  rw[h,Nat.zero_xor] at h2;exact h2.symm
 ·intro h;rw[h,Nat.xor_self]
theorem zqb (a b n:Nat):a|||b<2 ^ n↔a<2 ^ n∧b<2 ^ n:=⟨fun h=>⟨Nat.lt_of_le_of_lt Nat.left_le_or h,Nat.lt_of_le_of_lt Nat.right_le_or h⟩,fun h=>Nat.or_lt_two_pow h.1 h.2⟩
def fH (x y u v:Nat):Nat:=bitLen ((x ^^^ u)|||(y ^^^ v))
theorem rV (x y u v k:Nat) (hx:x<4294967296) (hy:y<4294967296) (hu:u<4294967296) (hv:v<4294967296):fH x y u v≤k↔bR x k=bR u k∧bR y k=bR v k:=by
 unfold fH;rw[ziE _ _ (Nat.lt_of_lt_of_le (Nat.or_lt_two_pow (n:=32) (Nat.xor_lt_two_pow hx hu) (Nat.xor_lt_two_pow hy hv)) ud),zqb,znA,znA]
theorem mA {a n:Nat} (h:a<2 ^ n):bR a n=0:=by unfold bR;rw[Nat.div_eq_of_lt h];simp
theorem zpn (x y u v:Nat) (hx:x<2147483648) (hy:y<2147483648) (hu:u<2147483648) (hv:v<2147483648):fH x y u v≤31:=
 (rV x y u v 31 uo uo uo uo).2 ⟨by rw[mA (n:=31) hx,mA (n:=31) hu],by rw[mA (n:=31) hy,mA (n:=31) hv]⟩
theorem pR {n:Nat} (h:n≤31):2 ^ n≤2147483648:=Nat.pow_le_pow_right (n:=2) (i:=n) (j:=31) ud h
theorem zjE {X n:Nat} (hn:n≤31) (hX:X<2147483648) (h:bR X n=X):X+2 ^ n≤2147483648:=by
 have h1:X%2 ^ n=0:=(rU X n).1 h;obtain⟨k,hk⟩:=Nat.le.dest hn;have e:2 ^ n*2 ^ k=2147483648:=by rw[←Nat.pow_add,hk]
 rw[←e] at hX ⊢;obtain⟨q,rfl⟩:∃ q,X=2 ^ n*q:=⟨X/2 ^ n,by have:=Nat.div_add_mod X (2 ^ n);omega⟩;have:q<2 ^ k:=Nat.lt_of_mul_lt_mul_left hX;have h3:=Nat.mul_le_mul_left (2 ^ n) (Nat.succ_le_of_lt this);rw[Nat.mul_succ] at h3;exact h3
def gC (x y:Nat):Bool:=decide (x<2147483648∧y<2147483648)
def cP (X Y:Nat) (L:Int):Bool:=decide (0≤L∧L≤31∧X<2147483648∧Y<2147483648∧bR X L.toNat=X∧bR Y L.toNat=Y)
def ck (X Y:Nat) (L:Int) (x y:Nat):Bool:=decide (cP X Y L=true∧bR x L.toNat=X∧bR y L.toNat=Y)
def wq (n x y:Nat):Nat:=x/2 ^ n%2+2*(y/2 ^ n%2)
theorem mB (n x y:Nat):wq n x y<4:=by unfold wq;omega
structure Cl (X Y n:Nat):Prop where
 n31:n≤31
 x31:X<2147483648
 y31:Y<2147483648
 fx:bR X n=X
 fy:bR Y n=Y
theorem pS (X Y:Nat) (L:Int):cP X Y L=true↔∃ n:Nat,L=(n:Int)∧Cl X Y n:=by
 unfold cP;rw[decide_eq_true_iff];constructor
 ·rintro⟨h0,h1,h2,h3,h4,h5⟩
  exact⟨L.toNat,by omega,by omega,h2,h3,h4,h5⟩
 ·rintro⟨n,rfl,c⟩
  exact⟨by omega,by have:=c.n31;omega,c.x31,c.y31,c.fx,c.fy⟩
theorem nP (X Y n : Nat) : cP X Y (n : Int) = true ↔ Cl X Y n := by
  rw [pS]
  exact ⟨fun ⟨m, e, c⟩ => by obtain rfl : n = m := by omega
                             exact c, fun c => ⟨n, rfl, c⟩⟩
theorem Cl.xe {X Y n:Nat} (c:Cl X Y n):X+2 ^ n≤2147483648:=zjE c.n31 c.x31 c.fx
theorem Cl.ye {X Y n:Nat} (c:Cl X Y n):Y+2 ^ n≤2147483648:=zjE c.n31 c.y31 c.fy
theorem gD (X Y n x y:Nat) (c:Cl X Y n):ck X Y (n:Int) x y=true↔(X≤x∧x<X+2 ^ n)∧(Y≤y∧y<Y+2 ^ n):=by
 unfold ck;rw[decide_eq_true_iff,nP,Int.toNat_natCast,jw c.fx,jw c.fy];exact⟨fun h=>h.2,fun h=>⟨c,h⟩⟩
theorem zev {X Y:Nat} {L:Int} {x y:Nat} (h:ck X Y L x y=true):cP X Y L=true:=by
 unfold ck at h;rw[decide_eq_true_iff] at h;exact h.1
theorem zn2 {X Y:Nat} {L:Int} (x y:Nat) (h:cP X Y L=false):ck X Y L x y=false:=by
 cases e:ck X Y L x y
 ·rfl
 ·rw[zev e] at h;cases h
theorem Cl.half {X Y n:Nat} (c:Cl X Y (n+1)):bR X n=X∧bR Y n=Y∧bR (X+2 ^ n) n=X+2 ^ n∧bR (Y+2 ^ n) n=Y+2 ^ n:=by
 have d:∀ a,bR a (n+1)=a→bR a n=a∧bR (a+2 ^ n) n=a+2 ^ n:=fun a h=>by
  have h1:bR a n=a:=by have:=oO a (Nat.le_succ n);rw[h] at this;exact this
  refine⟨h1,?_⟩;have:a+2 ^ n=(a/2 ^ n+1)*2 ^ n:=by rw[Nat.add_mul,Nat.one_mul];unfold bR at h1;rw[h1]
  rw[this,zn1]
 exact⟨(d X c.fx).1,(d Y c.fy).1,(d X c.fx).2,(d Y c.fy).2⟩
theorem Cl.quarter {X Y n:Nat} (c:Cl X Y (n+1)) (k:Nat) (hk:k<4):Cl (X+2 ^ n*(k%2)) (Y+2 ^ n*(k/2)) n:=by
 obtain⟨h1,h2,h3,h4⟩:=c.half;have hx:=c.xe;have hy:=c.ye
 have hp:=Nat.two_pow_pos n;rw[Nat.pow_succ] at hx hy;have hn:=c.n31;have h5:=c.x31;have h6:=c.y31
 obtain rfl|rfl|rfl|rfl:k=0∨k=1∨k=2∨k=3:=uo
 all_goals simp
 all_goals exact⟨by omega,by omega,by omega,by assumption,by assumption⟩
theorem mU {X Y n x y:Nat} (h:ck X Y ((n+1:Nat):Int) x y=true):bR x n=X+2 ^ n*(wq n x y%2)∧bR y n=Y+2 ^ n*(wq n x y/2):=by
 unfold ck at h;rw[decide_eq_true_iff,Int.toNat_natCast] at h;have e1:=zhG x n;have e2:=zhG y n
 rw[h.2.1] at e1;rw[h.2.2] at e2
 have d1:wq n x y%2=x/2 ^ n%2:=by unfold wq;omega
 have d2:wq n x y/2=y/2 ^ n%2:=by unfold wq;omega
 rw[d1,d2];exact⟨e1,e2⟩
theorem fU {s a b:Nat} (hs:0<s) (h:s*a=s*b):a=b:=Nat.eq_of_mul_eq_mul_left hs h
theorem Cl.in_quarter {X Y n x y:Nat} (c:Cl X Y (n+1)) (k:Nat) (hk:k<4):
  ck (X+2 ^ n*(k%2)) (Y+2 ^ n*(k/2)) (n:Int) x y=true↔ck X Y ((n+1:Nat):Int) x y=true∧wq n x y=k:=by
 have hp:=Nat.two_pow_pos n;constructor
 ·intro h
  have q:=c.quarter k hk;have h':=h;rw[gD _ _ _ _ _ q] at h
  have hh:ck X Y ((n+1:Nat):Int) x y=true:=by
   rw[gD _ _ _ _ _ c,Nat.pow_succ];obtain rfl|rfl|rfl|rfl:k=0∨k=1∨k=2∨k=3:=uo
   all_goals simp at h
   all_goals omega
  refine⟨hh,?_⟩;obtain⟨e1,e2⟩:=mU hh;unfold ck at h';rw[decide_eq_true_iff,Int.toNat_natCast] at h';have f1:=fU hp (Nat.add_left_cancel (h'.2.1.symm.trans e1));have f2:=fU hp (Nat.add_left_cancel (h'.2.2.symm.trans e2));omega
 ·rintro⟨h,rfl⟩
  obtain⟨e1,e2⟩:=mU h;unfold ck;rw[decide_eq_true_iff,Int.toNat_natCast,nP];exact⟨c.quarter _ hk,e1,e2⟩
theorem iH (a:Nat):bR a 0=a:=by unfold bR;simp
end Rc
namespace Rq
open Rc
structure Rw where
 id:Nat
 x:Nat
 y:Nat
 v:ByteArray
def fI (r:Rw):Prop:=r.id<18446744073709551616∧r.x<4294967296∧r.y<4294967296
def jg (r:Rw):Bool:=decide (r.x<2147483648∧r.y<2147483648∧r.v.size≤16)
def cK (l:List Rw) (i:Nat):Rw:=(l[i]?).getD ⟨0,0,0,ByteArray.empty⟩
theorem mV {l:List Rw} {i:Nat} (h:i<l.length):l[i]? =some (cK l i):=by unfold cK;rw[List.getElem?_eq_getElem h];rfl
theorem lL {l:List Rw} {i:Nat} (h:i<l.length):cK l i=l[i]:=by unfold cK;rw[List.getElem?_eq_getElem h];rfl
theorem mW {l:List Rw} {i:Nat} (h:i<l.length):cK l i∈l:=by rw[lL h];exact List.getElem_mem h
def jh (l:List Rw) (i:Nat):Bool:=jg (cK l i)&&(decide (i=0)||decide ((cK l (i - 1)).id<(cK l i).id))
def dg (l:List Rw):Bool:=decide (l.length≤1000∧∀ i,i<l.length→jh l i=true)
theorem iX (l:List Rw):dg l=true↔l.length≤1000∧∀ i,i<l.length→jh l i=true:=by unfold dg;rw[decide_eq_true_iff]
theorem jx (l:List Rw) (i:Nat):jh l i=true↔jg (cK l i)=true∧(0<i→(cK l (i - 1)).id<(cK l i).id):=by
 unfold jh;rw[Bool.and_eq_true,Bool.or_eq_true,decide_eq_true_iff,decide_eq_true_iff];constructor
 ·rintro⟨h,k⟩
  exact⟨h,fun hi=>by rcases k with k|k;omega;exact k⟩
 ·rintro⟨h,k⟩
  refine⟨h,?_⟩;by_cases e:i=0
  ·exact .inl e
  ·exact .inr (k uo)
def On (l:List Rw):Prop:=∀ r,r∈l→r.x<2147483648∧r.y<2147483648
def jP (l:List Rw):Prop:=l.Pairwise fun a b=>a.id<b.id
theorem ji {l:List Rw} (h:dg l=true):On l:=by
 intro r hr;obtain⟨i,hi,rfl⟩:=List.getElem_of_mem hr;have:=((jx l i).1 (((iX l).1 h).2 i hi)).1;rw[lL hi] at this;unfold jg at this;rw[decide_eq_true_iff] at this;exact⟨this.1,this.2.1⟩
theorem zew {l:List Rw} (h:dg l=true):jP l:=by
 have hs:∀ i,i+1<l.length→(cK l i).id<(cK l (i+1)).id:=fun i hi=>((jx l (i+1)).1 (((iX l).1 h).2 (i+1) hi)).2 uo
 have key:∀ (k i:Nat),i+k+1<l.length→(cK l i).id<(cK l (i+k+1)).id:=by
  intro k
  induction k with
  |zero=>exact fun i hi=>hs i hi
  |succ k ih=>exact fun i hi=>Nat.lt_trans (ih i uo) (hs (i+k+1) hi)
 unfold jP;rw[List.pairwise_iff_getElem];intro i j hi hj hij;have:=key (j - i - 1) i uo;rw[show i+(j - i - 1)+1=j by omega] at this;rw[lL hi,lL hj] at this;exact this
theorem On.filter {l:List Rw} (h:On l) (p:Rw→Bool):On (l.filter p):=fun r hr=>h r (List.mem_filter.1 hr).1
def dU (x y:Nat):List Rw→Nat
 |[]=>0
 |r::t=>max (fH x y r.x r.y) (dU x y t)
def x0:List Rw→Nat|[]=>0|r::_=>r.x
def y0:List Rw→Nat|[]=>0|r::_=>r.y
def cQ (l:List Rw):Nat:=dU (x0 l) (y0 l) l
def cx (l:List Rw):Nat:=bR (x0 l) (cQ l)
def cy (l:List Rw):Nat:=bR (y0 l) (cQ l)
theorem zpo (l:List Rw):x0 l=(cK l 0).x:=by cases l<;>rfl
theorem zpp (l:List Rw):y0 l=(cK l 0).y:=by cases l<;>rfl
theorem mX {l:List Rw} (h:On l):x0 l<2147483648∧y0 l<2147483648:=by
 cases l with
 |nil=>exact⟨by decide,by decide⟩
 |cons r t=>exact h r us
theorem zhH (x y:Nat) (hx:x<2147483648) (hy:y<2147483648) (k:Nat):∀ (l:List Rw),On l→(dU x y l≤k↔∀ r∈l,bR x k=bR r.x k∧bR y k=bR r.y k)
 |[],_=>⟨fun _ r hr=>by simp at hr,fun _=>Nat.zero_le _⟩
 |r::t,h=>by
  have ih:=zhH x y hx hy k t (fun s hs=>h s (by simp[hs]));have hr:=h r us;rw[dU,Nat.max_le,ih,rV x y r.x r.y k uo uo uo uo];constructor
  ·rintro⟨a,b⟩ s hs
   rcases List.mem_cons.1 hs with rfl|hs
   ·exact a
   ·exact b s hs
  ·exact fun a=>⟨a r us,fun s hs=>a s (by simp[hs])⟩
theorem pT (x y:Nat) (l m:List Rw):dU x y (l++m)=max (dU x y l) (dU x y m):=by
 induction l with
 |nil=>simp[dU]
 |cons r t ih=>rw[List.cons_append,dU,dU,ih,Nat.max_assoc]
theorem pU {l:List Rw} (h:On l) (k:Nat):cQ l≤k↔∀ r∈l,bR (x0 l) k=bR r.x k∧bR (y0 l) k=bR r.y k:=
 zhH _ _ (mX h).1 (mX h).2 k l h
theorem nQ {l:List Rw} (h:On l):cQ l≤31:=(pU h 31).2 fun r hr=>by
 have h0:=mX h;have h1:=h r hr
 rw[mA (n:=31) h0.1,mA (n:=31) h0.2,mA (n:=31) h1.1,mA (n:=31) h1.2];exact⟨rfl,rfl⟩
theorem mC {l:List Rw} (h:On l):Cl (cx l) (cy l) (cQ l):=
 ⟨nQ h,Nat.lt_of_le_of_lt (kx _ _) (mX h).1,Nat.lt_of_le_of_lt (kx _ _) (mX h).2,oO _ zn,oO _ zn⟩
theorem nR {l:List Rw} (h:On l) {r:Rw} (hr:r∈l):ck (cx l) (cy l) (cQ l:Int) r.x r.y=true:=by
 have e:=(pU h (cQ l)).1 zn r hr;unfold ck;rw[decide_eq_true_iff,Int.toNat_natCast,nP];exact⟨mC h,e.1.symm,e.2.symm⟩
def part (l:List Rw) (q:Nat):List Rw:=l.filter fun r=>wq (cQ l - 1) r.x r.y==q
theorem kz {l:List Rw} {q:Nat} {r:Rw}:r∈part l q↔r∈l∧wq (cQ l - 1) r.x r.y=q:=by unfold part;rw[List.mem_filter,beq_iff_eq]
theorem On.part {l:List Rw} (h:On l) (q:Nat):On (part l q):=h.filter _
theorem oP (l:List Rw) (q:Nat):(part l q).length≤l.length:=List.length_filter_le _ _
theorem znB {l:List Rw} (h:l≠[]):∃ r∈l,x0 l=r.x∧y0 l=r.y:=by
 cases l with
 |nil=>exact absurd rfl h
 |cons r t=>exact⟨r,by simp,rfl,rfl⟩
theorem rW {l:List Rw} (h:On l) {n:Nat} (hn:cQ l=n+1) (q:Nat):cQ (part l q)≤n:=by
 by_cases he:part l q=[]
 ·rw[he];exact Nat.zero_le _
 ·rw[pU (h.part q)]
  obtain⟨s,hs,e1,e2⟩:=znB he;intro r hr;rw[e1,e2];have a:=kz.1 hs;have b:=kz.1 hr
  have ha:=nR h a.1;have hb:=nR h b.1
  rw[hn] at ha hb a b;have fa:=mU ha;have fb:=mU hb
  rw[Nat.add_sub_cancel] at a b;rw[a.2] at fa;rw[b.2] at fb
  exact⟨fa.1.trans fb.1.symm,fa.2.trans fb.2.symm⟩
def leaf (l:List Rw):Bool:=decide (l.length≤4∨cQ l=0)
theorem mY {l:List Rw} (h:leaf l=false):4<l.length∧∃ n,cQ l=n+1:=by
 unfold leaf at h;rw[decide_eq_false_iff_not] at h;exact⟨by omega,cQ l - 1,by omega⟩
def cR (l:List Rw):List (List Rw):=([0,1,2,3].map (part l)).filter fun m=> !m.isEmpty
theorem jj {l m:List Rw} (h:m∈cR l):m≠[]∧∃ q,q<4∧m=part l q:=by
 unfold cR at h;rw[List.mem_filter,List.mem_map] at h;obtain⟨⟨q,hq,rfl⟩,he⟩:=h;refine⟨fun e=>by rw[e] at he;simp at he,q,?_,rfl⟩;simp at hq;omega
theorem On.kid {l m:List Rw} (h:On l) (hm:m∈cR l):On m:=by
 obtain⟨_,q,_,rfl⟩:=jj hm;exact h.part q
theorem zjF {l m:List Rw} (h:On l) {n:Nat} (hn:cQ l=n+1) (hm:m∈cR l):cQ m≤n:=by
 obtain⟨_,q,_,rfl⟩:=jj hm;exact rW h hn q
def four {α:Type} (f:List Rw→List α) (l:List Rw):List α:=f (part l 0)++(f (part l 1)++(f (part l 2)++f (part l 3)))
theorem zjG {α:Type} (f:List Rw→List α) (hf:f []=[]) (l:List Rw):(cR l).flatMap f=four f l:=by
 have key:∀ (ps:List (List Rw)),(ps.filter fun m=> !m.isEmpty).flatMap f=ps.flatMap f:=by
  intro ps
  induction ps with
  |nil=>rfl
  |cons p t ih=>
   cases p with
   |nil=>simp[hf,ih]
   |cons a b=>simp[ih]
 unfold cR four;rw[key];simp
theorem zex (l:List Rw):(four (fun m=>m) l).Perm l:=by
 have h1:=List.filter_append_perm (fun r:Rw=>wq (cQ l - 1) r.x r.y==0) l;have h2:=List.filter_append_perm (fun r:Rw=>wq (cQ l - 1) r.x r.y==1) (l.filter fun r=> !(wq (cQ l - 1) r.x r.y==0));have h3:=List.filter_append_perm (fun r:Rw=>wq (cQ l - 1) r.x r.y==2) ((l.filter fun r=> !(wq (cQ l - 1) r.x r.y==0)).filter fun r=> !(wq (cQ l - 1) r.x r.y==1))
 have e1:((l.filter fun r=> !(wq (cQ l - 1) r.x r.y==0)).filter fun r=>wq (cQ l - 1) r.x r.y==1)=part l 1:=by
  unfold part;rw[List.filter_filter];congr 1;funext r
  have:=mB (cQ l - 1) r.x r.y;generalize wq (cQ l - 1) r.x r.y=k at*
  obtain rfl|rfl|rfl|rfl:k=0∨k=1∨k=2∨k=3:=uo
  all_goals rfl
 have e2:((((l.filter fun r=> !(wq (cQ l - 1) r.x r.y==0)).filter fun r=> !(wq (cQ l - 1) r.x r.y==1))).filter fun r=>wq (cQ l - 1) r.x r.y==2)=part l 2:=by
  unfold part;rw[List.filter_filter,List.filter_filter];congr 1;funext r
  have:=mB (cQ l - 1) r.x r.y;generalize wq (cQ l - 1) r.x r.y=k at*
  obtain rfl|rfl|rfl|rfl:k=0∨k=1∨k=2∨k=3:=uo
  all_goals rfl
 have e3:((((l.filter fun r=> !(wq (cQ l - 1) r.x r.y==0)).filter fun r=> !(wq (cQ l - 1) r.x r.y==1))).filter fun r=> !(wq (cQ l - 1) r.x r.y==2))=part l 3:=by
  unfold part;rw[List.filter_filter,List.filter_filter];congr 1;funext r
  have:=mB (cQ l - 1) r.x r.y;generalize wq (cQ l - 1) r.x r.y=k at*
  obtain rfl|rfl|rfl|rfl:k=0∨k=1∨k=2∨k=3:=uo
  all_goals rfl
 rw[e1] at h2;rw[e2,e3] at h3;exact((List.Perm.append_left _ ((List.Perm.append_left _ h3).trans h2))).trans h1
theorem zl3 (l:List Rw):(part l 0).length+((part l 1).length+((part l 2).length+(part l 3).length))=l.length:=by
 have:=(zex l).length_eq;unfold four at this;simpa using this
theorem zl4 {l:List Rw} (h:On l) {n:Nat} (hn:cQ l=n+1):∃ a b,a<4∧b<4∧a≠b∧part l a≠[]∧part l b≠[]:=by
 have hne:l≠[]:=fun e=>by rw[e] at hn;simp[cQ,dU] at hn
 have hnot:¬cQ l≤n:=uo
 rw[pU h] at hnot;obtain⟨s,hs,e1,e2⟩:=znB hne;by_cases hd:∀ r∈l,wq n r.x r.y=wq n s.x s.y
 ·refine absurd (fun r hr=>?_) hnot
  have ha:=nR h hs;have hb:=nR h hr
  rw[hn] at ha hb;have fa:=mU ha;have fb:=mU hb
  rw[hd r hr] at fb;rw[e1,e2];exact⟨fa.1.trans fb.1.symm,fa.2.trans fb.2.symm⟩
 ·have:∃ r∈l,wq n r.x r.y≠wq n s.x s.y:=by
   refine Classical.byContradiction fun hc=>hd fun r hr=>Classical.byContradiction fun hw=>hc ⟨r,hr,hw⟩
  obtain⟨r,hr,hw⟩:=this;refine⟨_,_,mB n r.x r.y,mB n s.x s.y,hw,fun e=>?_,fun e=>?_⟩
  ·have:=(kz (l:=l) (q:=wq n r.x r.y) (r:=r)).2 ⟨hr,by rw[hn];rfl⟩
   rw[e] at this;simp at this
  ·have:=(kz (l:=l) (q:=wq n s.x s.y) (r:=s)).2 ⟨hs,by rw[hn];rfl⟩
   rw[e] at this;simp at this
theorem pV (l:List Rw):(cR l).length≤4:=by
 unfold cR;have:=List.length_filter_le (fun m:List Rw=> !m.isEmpty) ([0,1,2,3].map (part l));simpa using this
theorem pW {l:List Rw} (h:On l) {n:Nat} (hn:cQ l=n+1):2≤(cR l).length:=by
 obtain⟨a,b,ha,hb,hab,pa,pb⟩:=zl4 h hn;have e:∀ (m:List Rw),m≠[]→(!m.isEmpty)=true:=fun m hm=>by cases m;exact absurd rfl hm;rfl
 have qa:=e _ pa;have qb:=e _ pb
 unfold cR;rw[←List.countP_eq_length_filter];simp only[List.map_cons,List.map_nil,List.countP_cons,List.countP_nil];obtain rfl|rfl|rfl|rfl:a=0∨a=1∨a=2∨a=3:=uo
 all_goals obtain rfl|rfl|rfl|rfl:b=0∨b=1∨b=2∨b=3:=uo
 all_goals first|exact absurd rfl hab|(simp only[qa,qb,if_true];omega)
theorem zhJ (l:List Rw):((cR l).map List.length).sum=l.length:=by
 have key:∀ (ps:List (List Rw)),((ps.filter fun m=> !m.isEmpty).map List.length).sum=(ps.map List.length).sum:=by
  intro ps
  induction ps with
  |nil=>rfl
  |cons p t ih=>
   cases p with
   |nil=>simp[ih]
   |cons a b=>simp[ih]
 unfold cR;rw[key];have:=zl3 l;simpa using this
end Rq
end Go.Proofs.YtokfnghckpgjmaaGreatDoor
