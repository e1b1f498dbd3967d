/- Bodies of texts, in plain terms. -/
import Derived.Test.YtokfnghckpgjmaaGreatDoorPPo
import Derived.WalkKit
set_option maxRecDepth 100000
namespace Go.Proofs.YtokfnghckpgjmaaGreatDoor
namespace Rp
open Go.RowKit
def upto (f:Nat→Int) (k:Nat):List Int:=(List.range k).map f
theorem fZ (f:Nat→Int) (k:Nat):(upto f k).length=k:=by simp[upto]
theorem zl1 (f:Nat→Int) (k i:Nat) (h:i<k):(upto f k).getD i 0=f i:=by simp[upto,List.getD,h]
def bt (s:ByteArray) (i:Nat):Int:=((s.data[i]?.getD 0).toNat:Int)
theorem iW (s:ByteArray) (i:Nat):0≤bt s i∧bt s i<256:=by
 unfold bt;have:=(s.data[i]?.getD 0).toNat_lt;omega
theorem rM (s:ByteArray) (k:Nat) (h:s.size≤k):bt s k=0:=by
 unfold bt;rw[Array.getElem?_eq_none (by exact h)];rfl
theorem km (s:ByteArray) (a b i:Nat) (h:i<min b s.size - a):bt (s.extract a b) i=bt s (a+i):=by
 unfold bt;rw[ByteArray.data_extract,Array.getElem?_extract,if_pos (show i<min b s.data.size - a from h)]
theorem nK (a b:ByteArray) (hs:a.size=b.size) (h:∀ j,j<a.size→bt a j=bt b j):a=b:=by
 apply ByteArray.ext;apply Array.ext
 ·exact hs
 ·intro i h1 h2
  have:=h i h1;unfold bt at this;rw[Array.getElem?_eq_getElem h1,Array.getElem?_eq_getElem h2] at this;simp only[Option.getD_some] at this;exact UInt8.toNat_inj.1 uo
theorem pI (f:Nat→Int) (n j:Nat) (hj:j<n) (h0:0≤f j) (h1:f j<256):bt (strOfNums (upto f n)) j=f j:=by
 unfold bt strOfNums upto;simp[hj];omega
theorem pJ (a b:ByteArray) (j:Nat):bt (a++b) j=if j<a.size then bt a j else bt b (j - a.size):=by
 unfold bt;rw[ByteArray.data_append,Array.getElem?_append];have e:a.data.size=a.size:=rfl;rw[e];split<;>rfl
theorem ext_size (s:ByteArray) (a b:Nat):(s.extract a b).size=min b s.size - a:=ByteArray.size_extract
def jF (s:ByteArray) (j:Nat):Int:=if j=0 then((s.size/256:Nat):Int) else if j=1 then((s.size%256:Nat):Int) else bt s (j - 2)
def ef (s:ByteArray):ByteArray:=strOfNums (upto (jF s) 200)
theorem oL (s:ByteArray):(ef s).size=200:=by unfold ef;rw[strOfNums_size,fZ]
theorem zgK (s:ByteArray) (hs:s.size≤198) (j:Nat):0≤jF s j∧jF s j<256:=by
 unfold jF;split
 ·omega
 ·split
  ·omega
  ·exact iW _ _
theorem rN (s:ByteArray) (hs:s.size≤198) (j:Nat) (hj:j<200):bt (ef s) j=jF s j:=by
 have:=zgK s hs j;exact pI _ _ _ hj this.1 this.2
def lenOf (b:ByteArray):Nat:=(256*bt b 0+bt b 1).toNat
theorem zeq (b:ByteArray):(lenOf b:Int)=256*bt b 0+bt b 1:=by
 unfold lenOf;have:=iW b 0;have:=iW b 1;omega
def textOf (b:ByteArray):ByteArray:=b.extract 2 (2+lenOf b)
def ig (b:ByteArray):Bool:=decide (b.size=200)&&decide (lenOf b≤198)&&decide (ef (textOf b)=b)
def fd (s:ByteArray):ByteArray:=if s.size≤198 then ef s else⟨#[]⟩
def eh (s:ByteArray):Int:=if s.size≤198 then 0 else 50
def gx (b:ByteArray):ByteArray:=if ig b then textOf b else⟨#[]⟩
def gY (b:ByteArray):Int:=if ig b then 0 else 50
theorem zer (s:ByteArray) (hs:s.size≤198):lenOf (ef s)=s.size:=by
 have h:=zeq (ef s);rw[rN s hs 0 uo,rN s hs 1 uo] at h;simp only[jF,if_true,if_false,Nat.one_ne_zero] at h;omega
theorem zdJ (s:ByteArray) (hs:s.size≤198):textOf (ef s)=s:=by
 unfold textOf;rw[zer s hs];have hz:((ef s).extract 2 (2+s.size)).size=s.size:=by rw[ext_size,oL];omega
 refine nK _ _ hz fun j hj=>?_
 rw[hz] at hj;rw[km _ _ _ _ (by rw[oL];omega),rN s hs _ uo];unfold jF;rw[if_neg uo,if_neg uo,show 2+j - 2=j by omega]
theorem zgM (s:ByteArray) (hs:s.size≤198):ig (ef s)=true:=by
 unfold ig;rw[oL,zer s hs,zdJ s hs];simp[hs]
theorem textOf_size (b:ByteArray) (h:b.size=200) (hl:lenOf b≤198):(textOf b).size=lenOf b:=by unfold textOf;rw[ext_size,h];omega
theorem nM (a b:ByteArray):(a.toList==b.toList)=decide (a=b):=by
 rw[ByteArray.toList_eq,ByteArray.toList_eq];by_cases e:a=b
 ·subst e;simp
 ·rw[decide_eq_false e]
  have h:¬a.data.toList=b.data.toList:=fun h=>e (ByteArray.ext (Array.toList_inj.1 h))
  simpa using h
end Rp
namespace Rs
open Go.RowKit
abbrev Hd:=Int × Int × Int × Int
def hv (h:Hd):Value:=.agg #[.int .u32 h.1,.int .u32 h.2.1,.int .u32 h.2.2.1,.int .u64 h.2.2.2]
def zh:Hd:=(0,0,0,0)
def fits (h:Hd):Prop:=(0≤h.1∧h.1<4294967296)∧(0≤h.2.1∧h.2.1<4294967296)∧(0≤h.2.2.1∧h.2.2.1<4294967296)∧0≤h.2.2.2∧h.2.2.2<18446744073709551616
def le (n:Int) (i:Nat):Int:=n/256 ^ i%256
theorem pK (n:Int) (i:Nat):0≤le n i∧le n i<256:=by unfold le;omega
def dG (h:Hd) (i:Nat):Int:=if i<4 then le h.1 i else if i<8 then le h.2.1 (i - 4) else if i<12 then le h.2.2.1 (i - 8) else if i<20 then le h.2.2.2 (i - 12) else 0
def cD (h:Hd):ByteArray:=strOfNums (Rp.upto (dG h) 24)
theorem lx (h:Hd):(cD h).size=24:=by unfold cD;rw[strOfNums_size,Rp.fZ]
theorem rO (h:Hd) (i:Nat):0≤dG h i∧dG h i<256:=by
 unfold dG;split
 ·exact pK _ _
 ·split
  ·exact pK _ _
  ·split
   ·exact pK _ _
   ·split
    ·exact pK _ _
    ·omega
theorem zpi (h:Hd) (i:Nat) (hi:i<24):Rp.bt (cD h) i=dG h i:=Rp.pI _ _ _ hi (rO h i).1 (rO h i).2
def rd (s:ByteArray):Nat→Int
 |0=>0
 |k+1=>rd s k+Rp.bt s k*256 ^ k
theorem pow_pos (k:Nat):(0:Int)<256 ^ k:=Int.pow_pos ud
theorem lK (s:ByteArray) (k:Nat):0≤rd s k∧rd s k<256 ^ k:=by
 induction k with
 |zero=>exact⟨Int.le_refl _,(by decide:(0:Int)<1)⟩
 |succ k ih=>
  have hb:=Rp.iW s k;have hp:=pow_pos k;have e:(256:Int) ^ (k+1)=256 ^ k*256:=Int.pow_succ _ _;have h1:0≤Rp.bt s k*256 ^ k:=Int.mul_nonneg hb.1 (Int.le_of_lt hp);have h2:Rp.bt s k*256 ^ k≤255*256 ^ k:=Int.mul_le_mul_of_nonneg_right uo (Int.le_of_lt hp);show 0≤rd s k+Rp.bt s k*256 ^ k∧rd s k+Rp.bt s k*256 ^ k<256 ^ (k+1);rw[e];omega
theorem zp9 (n:Int) (h0:0≤n) (s:ByteArray) (k:Nat) (hs:∀ i,i<k→Rp.bt s i=le n i):rd s k=n%256 ^ k:=by
 induction k with
 |zero=>show(0:Int)=n%1;omega
 |succ k ih=>
  show rd s k+Rp.bt s k*256 ^ k=_;rw[ih (fun i hi=>hs i uo),hs k uo];obtain⟨m,rfl⟩:=Int.eq_ofNat_of_zero_le h0;have:=@Nat.mod_mul (256 ^ k) 256 m;unfold le;have e:(256:Int) ^ k=((256 ^ k:Nat):Int):=by simp
  rw[Int.pow_succ,e];generalize 256 ^ k=p at*
  have e1:((m%(p*256):Nat):Int)=(m:Int)%((p:Int)*256):=by simp
  rw[←e1,this];simp;rw[Int.mul_comm]
def ei (s:ByteArray):Hd:=(rd (s.extract 0 4) 4,rd (s.extract 4 8) 4,rd (s.extract 8 12) 4,rd (s.extract 12 20) 8)
theorem znV (s:ByteArray):fits (ei s):=⟨lK _ 4,lK _ 4,lK _ 4,lK _ 8⟩
theorem znx (h:Hd) (hf:fits h):ei (cD h)=h:=by
 obtain⟨a,b,c,d⟩:=h;obtain⟨h1,h2,h3,h4⟩:=hf;simp only at h1 h2 h3 h4;unfold ei;have z:=lx (a,b,c,d)
 have k:∀ (x:Int) (p n:Nat),0≤x→x<256 ^ n→p+n≤24→(∀ i,i<n→dG (a,b,c,d) (p+i)=le x i)→rd ((cD (a,b,c,d)).extract p (p+n)) n=x:=fun x p n x0 x1 hp hx=>by
  rw[zp9 x x0 _ n (fun i hi=>by rw[Rp.km _ _ _ _ (by rw[z];omega),zpi _ _ uo,hx i hi])];exact Int.emod_eq_of_lt x0 x1
 have e1:=k a 0 4 h1.1 h1.2 uo (fun i hi=>by unfold dG;rw[if_pos uo,Nat.zero_add]);have e2:=k b 4 4 h2.1 h2.2 uo (fun i hi=>by unfold dG;rw[if_neg uo,if_pos uo,show 4+i - 4=i by omega]);have e3:=k c 8 4 h3.1 h3.2 uo (fun i hi=>by unfold dG;rw[if_neg uo,if_neg uo,if_pos uo,show 8+i - 8=i by omega]);have e4:=k d 12 8 h4.1 h4.2 uo (fun i hi=>by unfold dG;rw[if_neg uo,if_neg uo,if_neg uo,if_pos uo,show 12+i - 12=i by omega]);rw[e1,e2,e3,e4]
def gk (s:ByteArray):Bool:=decide (s.size=24)&&decide (cD (ei s)=s)
def gv (s:ByteArray):Hd:=if gk s=true then ei s else zh
theorem zny (h:Hd) (hf:fits h):gk (cD h)=true:=by unfold gk;rw[znx h hf,lx];simp
theorem zpj (h:Hd) (hf:fits h):gv (cD h)=h:=by unfold gv;rw[if_pos (zny h hf),znx h hf]
theorem znW (s:ByteArray):fits (gv s):=by
 unfold gv;split
 ·exact znV s
 ·unfold fits zh;decide
def fT (h:Hd):ByteArray:=(cD h).extract 8 20
theorem zes (h:Hd):(fT h).size=12:=by unfold fT;rw[Rp.ext_size,lx];rfl
theorem rP (a b:ByteArray) (n:Nat) (h:n=a.size):(a++b).extract 0 n=a:=by
 subst h;refine Rp.nK _ _ (by rw[Rp.ext_size,ByteArray.size_append];omega) fun j hj=>?_
 rw[Rp.ext_size,ByteArray.size_append] at hj;rw[Rp.km _ _ _ _ (by rw[ByteArray.size_append];omega),Nat.zero_add,Rp.pJ,if_pos uo]
theorem zcJ (a b:ByteArray) (n m:Nat) (h:n=a.size) (hm:m=a.size+b.size):(a++b).extract n m=b:=by
 subst h hm;refine Rp.nK _ _ (by rw[Rp.ext_size,ByteArray.size_append];omega) fun j hj=>?_
 rw[Rp.ext_size,ByteArray.size_append] at hj;rw[Rp.km _ _ _ _ (by rw[ByteArray.size_append];omega),Rp.pJ,if_neg uo,show a.size+j - a.size=j by omega]
theorem jv (s:ByteArray) (a b c d:Nat) (h:a+d≤b):(s.extract a b).extract c d=s.extract (a+c) (a+d):=by
 refine Rp.nK _ _ (by rw[Rp.ext_size,Rp.ext_size,Rp.ext_size];omega) fun j hj=>?_
 rw[Rp.ext_size,Rp.ext_size] at hj;rw[Rp.km _ _ _ _ (by rw[Rp.ext_size];omega),Rp.km _ _ _ _ uo,Rp.km _ _ _ _ uo,Nat.add_assoc]
def cW (b:ByteArray):ByteArray:=b.extract (b.size - 32) b.size
def bl (X M:ByteArray→ByteArray) (p body:ByteArray):ByteArray:=p++X body++M (p++X body)
structure jG (X M:ByteArray→ByteArray) (p body b:ByteArray):Prop where
 size:b.size=256
 head:b.extract 0 24=p
 rest:b.extract 24 224=X body
 ahead:b.extract 0 224=p++X body
 tag:cW b=M (b.extract 0 224)
theorem zqa (X M:ByteArray→ByteArray) (p body:ByteArray) (hp:p.size=24) (hb:(X body).size=200) (hM:∀ x,(M x).size=32):jG X M p body (bl X M p body):=by
 have hz:(p++X body).size=224:=by rw[ByteArray.size_append,hp,hb]
 have hs:(bl X M p body).size=256:=by unfold bl;rw[ByteArray.size_append,hz,hM]
 have ha:(bl X M p body).extract 0 224=p++X body:=rP _ _ _ hz.symm;refine⟨hs,?_,?_,ha,?_⟩
 ·have:=jv (bl X M p body) 0 224 0 24 uo
  rw[ha,rP _ _ _ hp.symm] at this;exact this.symm
 ·have:=jv (bl X M p body) 0 224 24 224 uo
  rw[ha,zcJ _ _ _ _ hp.symm uo] at this;exact this.symm
 ·unfold cW
  rw[hs,ha];exact zcJ _ _ _ _ uo (by rw[hz,hM])
end Rs
section
open Go.RowKit
def t2 (x:Int):Int:=bits .or .u32 (x*1073741824%4294967296) (x/4)
def t6 (x:Int):Int:=bits .or .u32 (x*67108864%4294967296) (x/64)
def t7 (x:Int):Int:=bits .or .u32 (x*33554432%4294967296) (x/128)
def rQ (x:Int):Int:=bits .or .u32 (x*2097152%4294967296) (x/2048)
def rR (x:Int):Int:=bits .or .u32 (x*524288%4294967296) (x/8192)
def t17 (x:Int):Int:=bits .or .u32 (x*32768%4294967296) (x/131072)
def pM (x:Int):Int:=bits .or .u32 (x*16384%4294967296) (x/262144)
def pN (x:Int):Int:=bits .or .u32 (x*8192%4294967296) (x/524288)
def t22 (x:Int):Int:=bits .or .u32 (x*1024%4294967296) (x/4194304)
def t25 (x:Int):Int:=bits .or .u32 (x*128%4294967296) (x/33554432)
def fF (f:Nat→Int):Array Value:=#[.int .u32 (f 0),.int .u32 (f 1),.int .u32 (f 2),.int .u32 (f 3),.int .u32 (f 4),.int .u32 (f 5),.int .u32 (f 6),.int .u32 (f 7)]
def upd (f:Nat→Int) (k:Nat) (x:Int):Nat→Int:=fun i=>if i=k then x else f i
def s1 (e:Int):Int:=bits .xor .u32 (bits .xor .u32 (t6 e) (rQ e)) (t25 e)
def s0 (a:Int):Int:=bits .xor .u32 (bits .xor .u32 (t2 a) (rR a)) (t22 a)
def ch (e f g:Int):Int:=bits .xor .u32 (bits .and .u32 e f) (bits .and .u32 (bits .xor .u32 IntKind.u32.max e) g)
def mj (a b c:Int):Int:=bits .xor .u32 (bits .xor .u32 (bits .and .u32 a b) (bits .and .u32 a c)) (bits .and .u32 b c)
def T1 (f:Nat→Int) (kw:Int):Int:=f 7+s1 (f 4)+ch (f 4) (f 5) (f 6)+kw
def T2 (f:Nat→Int):Int:=s0 (f 0)+mj (f 0) (f 1) (f 2)
def dW (f:Nat→Int) (kw:Int):Nat→Int
 |0=>(T1 f kw+T2 f)%4294967296
 |1=>f 0
 |2=>f 1
 |3=>f 2
 |4=>(f 3+T1 f kw)%4294967296
 |5=>f 4
 |6=>f 5
 |_=>f 6
def e0 (x:Int):Int:=bits .xor .u32 (bits .xor .u32 (t7 x) (pM x)) (x/8)
def e1 (x:Int):Int:=bits .xor .u32 (bits .xor .u32 (t17 x) (pN x)) (x/1024)
def ext (f:Nat→Int) (t:Nat):Int:=(f (t - 16)+e0 (f (t - 15))+f (t - 7)+e1 (f (t - 2)))%4294967296
def sw (f:Nat→Int):Nat→Nat→Int
 |0=>f
 |k+1=>upd (sw f k) (16+k) (ext (sw f k) (16+k))
def jM (q:Nat→Int):Nat→Nat→Int
 |0=>fun _=>0
 |k+1=>upd (jM q k) (k/4) (bits .or .u32 (jM q k (k/4)*256%4294967296) (q k))
def mP (q:Nat→Int):Nat→Int:=sw (jM q 64) 48
def jN (K:Nat→Int) (W:Nat→Int) (f:Nat→Int):Nat→Nat→Int
 |0=>f
 |k+1=>dW (jN K W f k) ((K k+W k)%4294967296)
def mQ (K:Nat→Int) (f:Nat→Int) (q:Nat→Int):Nat→Int:=fun i=>(f i+jN K (mP q) f 64 i)%4294967296
def dH (f:Nat→Int):Array Value:=Array.ofFn (n:=64) fun i=>.int .u32 (f i)
theorem ku (f:Nat→Int):(dH f).size=64:=by simp[dH]
theorem ly (f:Nat→Int) (k:Nat) (h:k<64):(dH f)[k]? =some (.int .u32 (f k)):=by simp[dH,h]
theorem znX (f:Nat→Int) (k:Nat) (x:Int):(dH f).setIfInBounds k (.int .u32 x)=dH (upd f k x):=by
 apply Array.ext
 ·simp[dH]
 ·intro i h1 h2
  have h3:i<(dH f).size:=by simpa using h1
  rw[Array.getElem_setIfInBounds h3];simp only[dH,Array.getElem_ofFn,upd];by_cases h:k=i
  ·subst h;simp
  ·rw[if_neg h,if_neg (fun e=>h e.symm)]
theorem znY (f:Nat→Int) (k:Nat) (h:k<8):(fF f)[k]? =some (.int .u32 (f k)):=by
 match k,h with
 |0,_|1,_|2,_|3,_|4,_|5,_|6,_|7,_=>rfl
 |k+8,h=>exact absurd h uo
def lf (l:List Int):Nat→Int:=fun i=>l.getD i 0
theorem zjz {q q':Nat→Int} (k:Nat) (h:∀ j,j<k→q j=q' j):jM q k=jM q' k:=by
 induction k with
 |zero=>rfl
 |succ k ih=>unfold jM;rw[ih (fun j hj=>h j uo),h k uo]
theorem zjA {Kt f q q':Nat→Int} (h:∀ j,j<64→q j=q' j):mQ Kt f q=mQ Kt f q':=by
 have e:mP q=mP q':=by unfold mP;rw[zjz 64 h]
 unfold mQ;rw[e]
def KL:List Int:=[1116352408,1899447441,3049323471,3921009573,961987163,1508970993,2453635748,2870763221,3624381080,310598401,607225278,1426881987,1925078388,2162078206,2614888103,3248222580,3835390401,4022224774,264347078,604807628,770255983,1249150122,1555081692,1996064986,2554220882,2821834349,2952996808,3210313671,3336571891,3584528711,113926993,338241895,666307205,773529912,1294757372,1396182291,1695183700,1986661051,2177026350,2456956037,2730485921,2820302411,3259730800,3345764771,3516065817,3600352804,4094571909,275423344,430227734,506948616,659060556,883997877,958139571,1322822218,1537002063,1747873779,1955562222,2024104815,2227730452,2361852424,2428436474,2756734187,3204031479,3329325298]
def IV:List Int:=[1779033703,3144134277,1013904242,2773480762,1359893119,2600822924,528734635,1541459225]
end
namespace Ra
open Go.RowKit
def zpk (x:Int):Int:=bits .or .u32 (x*65536%4294967296) (x/65536)
def zpl (x:Int):Int:=bits .or .u32 (x*4096%4294967296) (x/1048576)
def oM (x:Int):Int:=bits .or .u32 (x*256%4294967296) (x/16777216)
def oN (x:Int):Int:=bits .or .u32 (x*128%4294967296) (x/33554432)
def pP (a b d:Int):Int:=zpk (bits .xor .u32 d ((a+b)%4294967296))
def rS (a b c d:Int):Int:=zpl (bits .xor .u32 b ((c+pP a b d)%4294967296))
def qa (a b c d:Int):Int:=(a+b+rS a b c d)%4294967296
def qd (a b c d:Int):Int:=oM (bits .xor .u32 (pP a b d) (qa a b c d))
def qc (a b c d:Int):Int:=(c+pP a b d+qd a b c d)%4294967296
def qb (a b c d:Int):Int:=oN (bits .xor .u32 (rS a b c d) (qc a b c d))
def cI (f:Nat→Int):Array Value:=#[.int .u32 (f 0),.int .u32 (f 1),.int .u32 (f 2),.int .u32 (f 3),.int .u32 (f 4),.int .u32 (f 5),.int .u32 (f 6),.int .u32 (f 7),.int .u32 (f 8),.int .u32 (f 9),.int .u32 (f 10),.int .u32 (f 11),.int .u32 (f 12),.int .u32 (f 13),.int .u32 (f 14),.int .u32 (f 15)]
def upd (f:Nat→Int) (k:Nat) (x:Int):Nat→Int:=fun i=>if i=k then x else f i
def qt (f:Nat→Int) (a b c d:Nat):Nat→Int:=
 upd (upd (upd (upd f a (qa (f a) (f b) (f c) (f d))) b (qb (f a) (f b) (f c) (f d))) c (qc (f a) (f b) (f c) (f d))) d (qd (f a) (f b) (f c) (f d))
def rnd (f:Nat→Int):Nat→Int:=
 qt (qt (qt (qt (qt (qt (qt (qt f 0 4 8 12) 1 5 9 13) 2 6 10 14) 3 7 11 15) 0 5 10 15) 1 6 11 12) 2 7 8 13) 3 4 9 14
def gA (f:Nat→Int):Nat→Nat→Int
 |0=>f
 |k+1=>rnd (gA f k)
def dl (f:Nat→Int):Nat→Int:=fun i=>(gA f 10 i+f i)%4294967296
def tab:Array Value:=#[.int .i64 0,.int .i64 4,.int .i64 8,.int .i64 12,.int .i64 1,.int .i64 5,.int .i64 9,.int .i64 13,.int .i64 2,.int .i64 6,.int .i64 10,.int .i64 14,.int .i64 3,.int .i64 7,.int .i64 11,.int .i64 15,.int .i64 0,.int .i64 5,.int .i64 10,.int .i64 15,.int .i64 1,.int .i64 6,.int .i64 11,.int .i64 12,.int .i64 2,.int .i64 7,.int .i64 8,.int .i64 13,.int .i64 3,.int .i64 4,.int .i64 9,.int .i64 14]
theorem jO (f:Nat→Int):(cI f).size=16:=rfl
theorem nO (f:Nat→Int) (k:Nat) (h:k<16):(cI f)[k]? =some (.int .u32 (f k)):=by
 match k,h with
 |0,_|1,_|2,_|3,_|4,_|5,_|6,_|7,_|8,_|9,_|10,_|11,_|12,_|13,_|14,_|15,_=>rfl
 |k+16,h=>exact absurd h uo
theorem znZ (f:Nat→Int) (k:Nat) (x:Int) (h:k<16):(cI f).setIfInBounds k (.int .u32 x)=cI (upd f k x):=by
 match k,h with
 |0,_|1,_|2,_|3,_|4,_|5,_|6,_|7,_|8,_|9,_|10,_|11,_|12,_|13,_|14,_|15,_=>rfl
 |k+16,h=>exact absurd h uo
theorem zjB {f g:Nat→Int} (h:∀ i,i<16→f i=g i):cI f=cI g:=by
 simp only[cI,h 0 ud,h 1 ud,h 2 ud,h 3 ud,h 4 ud,h 5 ud,h 6 ud,h 7 ud,h 8 ud,h 9 ud,h 10 ud,h 11 ud,h 12 ud,h 13 ud,h 14 ud,h 15 ud]
def upto (f:Nat→Int) (k:Nat):List Int:=(List.range k).map f
theorem fZ (f:Nat→Int) (k:Nat):(upto f k).length=k:=by simp[upto]
theorem lz (f:Nat→Int) (k:Nat):upto f (k+1)=upto f k++[f k]:=by simp[upto,List.range_succ]
theorem zjC (f:Nat→Int) {m n:Nat} (h:m≤n):(upto f n).take m=upto f m:=by
 unfold upto;rw[←List.map_take,List.take_range,Nat.min_eq_left h]
theorem zdK (f:Nat→Int) {m n:Nat} (h:m≤n):upto f m<+:upto f n:=by
 rw[←zjC f h];exact List.take_prefix _ _
def cat (g:Nat→List Int) (k:Nat):List Int:=(List.range k).flatMap g
theorem mR (g:Nat→List Int) (k:Nat):cat g (k+1)=cat g k++g k:=by simp[cat,List.range_succ]
theorem zet (g : Nat → List Int) {m n : Nat} (h : m ≤ n) : cat g m <+: cat g n := by
  induction n with
  | zero => obtain rfl : m = 0 := by omega
            exact List.prefix_refl _
  | succ n ih =>
    by_cases e : m = n + 1
    · subst e; exact List.prefix_refl _
    · rw [mR]; exact (ih uo).trans (List.prefix_append _ _)
def bt (s:ByteArray) (i:Nat):Int:=((s.data[i]?.getD 0).toNat:Int)
def rT (b0 b1 b2 b3:Int):Int:=
 bits BinOp.or IntKind.u32 (bits BinOp.or IntKind.u32 (bits BinOp.or IntKind.u32 (IntKind.u32.wrap b0) (IntKind.u32.wrap (IntKind.u32.wrap b1*256))) (IntKind.u32.wrap (IntKind.u32.wrap b2*65536))) (IntKind.u32.wrap (IntKind.u32.wrap b3*16777216))
def wd (s:ByteArray) (m:Nat):Int:=rT (bt s (4*m)) (bt s (4*m+1)) (bt s (4*m+2)) (bt s (4*m+3))
def dn (s:ByteArray):List Int:=upto (wd s) (s.size/4)
theorem mS (s:ByteArray) (i:Nat) (h:i<s.size):(s[i].toNat:Int)=bt s i:=by
 unfold bt
 have e:s.data[i]? =some s[i]:=by
  rw[Array.getElem?_eq_getElem (by simpa using h)];rfl
 rw[e];rfl
theorem pQ (s:ByteArray) (a i:Nat) (h:a+i<s.size):bt (s.extract a s.size) i=bt s (a+i):=by
 have h1:i<(s.extract a s.size).size:=by simp;omega
 rw[←mS _ _ h1,←mS _ _ h]
 congr 2
 simp[ByteArray.getElem_extract]
def lf (l:List Int):Nat→Int:=fun i=>l[i]?.getD 0
theorem zn0 (l:List Int) (x:Int):lf (l++[x])=upd (lf l) l.length x:=by
 funext i
 unfold lf upd;by_cases h:i=l.length
 ·subst h;simp
 ·rcases Nat.lt_or_gt_of_ne h with h'|h'
  ·simp[h,List.getElem?_append_left h']
  ·simp[h]
   rw[List.getElem?_eq_none (by simp;omega),List.getElem?_eq_none uo]
end Ra
end Go.Proofs.YtokfnghckpgjmaaGreatDoor
