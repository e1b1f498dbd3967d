/- The reference's New: a vault is made. -/
import Derived.Test.YtokfnghckpgjmaaGreatDoorQVB
import Derived.Test.YtokfnghckpgjmaaGreatDoorPRF
set_option maxRecDepth 100000
set_option maxHeartbeats 4000000
namespace Go.Proofs.YtokfnghckpgjmaaGreatDoor
namespace Rv
open Go.RowKit Go.Lib
open Rd (But St Ok Dev Dv pt zaa zam)
theorem znc (r:Nat) (x:Rd.Rp) (s:St) (l:List Rk.Ky) (g boot:Int) (o:Option Addr) (cap:Nat) (w:World) (hd:Rd.Rf w r x s) (hk:Ok s) (hr:Rk.Ring w o cap l) (h0:Rk.feS l g=0):
  Calls Tryz.prog 44 #[pt r,.slice o l.length cap,.int .u32 g,.int .u32 boot] w fun e w'=>∃ q,e=.returned (.tuple #[pt q,.int .i64 0])∧Below w.heap.size w w':=by
 have HF:Hid (∀ _:True,_):=fun _=>Rk.zgY l g o cap w hr
 rw[h0] at HF;obtain⟨⟨ka,kb⟩,hkk⟩:∃ k,Rk.fkS l g=k:=⟨_,rfl⟩;rw[hkk] at HF;simp only[Rk.kv] at HF;have n0:=hk.n0;have n1:=hk.n1;obtain⟨n,hn⟩:∃ n,s.n=n:=⟨_,rfl⟩;rw[hn] at n0 n1
 have hc0:∀ W,Below w.heap.size w W→W.cell? ⟨r,0,none⟩=some (.slice (some ⟨x.l,0,none⟩) n x.lc)∧r<W.heap.size:=fun W hW=>by
  have:=(hd.below hW zn).self;refine⟨?_,hlt this⟩;rw[zr this,←hn];rfl
 have HC0:Hid (∀ W,Below w.heap.size w W→W.cell? ⟨r,0,none⟩=some (.slice (some ⟨x.l,0,none⟩) n x.lc)∧r<W.heap.size):=hc0;clear hd hk hr h0 hkk hn hc0;go_enter Tryz.func44,Tryz.ntmps44;go_wp2_with fail;refine Calls.mono (HF.out trivial) ?_;rintro e w2 ⟨rfl,b2⟩;have b3:=zaa w2 (.cells #[.int .u32 ka,.string kb] 142);obtain⟨W3,hW3⟩:∃ W3,w2.alloc (.cells #[.int .u32 ka,.string kb] 142)=W3:=⟨_,rfl⟩;rw[hW3] at b3;have HW3:Hid _:=hW3;have HB3:Hid (Below w.heap.size w W3):=b2.trans (b3.mono b2.size);obtain⟨c0,lr⟩:=HC0.out W3 HB3.out;have hmk:=run_make_row' (P:=Tryz.prog) 43 4 (.bool false) 1 Tryz.underlying43 Rd.zp1 rfl .i64 .i64 n (by omega) (by omega) W3;have b4:=zaa W3 (.cells (madeCells #[.bool false] n) 4);have g4:=zq W3 (.cells (madeCells #[.bool false] n) 4);have b5:=zaa (W3.alloc (.cells (madeCells #[.bool false] n) 4)) (.cells #[pt r,.slice o l.length cap,.int .u32 g,.int .u32 boot,.int .u64 0,.slice (some ⟨W3.heap.size,0,none⟩) n n] 45)
 have g5:=zq (W3.alloc (.cells (madeCells #[.bool false] n) 4)) (.cells #[pt r,.slice o l.length cap,.int .u32 g,.int .u32 boot,.int .u64 0,.slice (some ⟨W3.heap.size,0,none⟩) n n] 45);have s4:(W3.alloc (.cells (madeCells #[.bool false] n) 4)).heap.size=W3.heap.size+1:=by simp
 obtain⟨W5,hW5⟩:∃ W5,(W3.alloc (.cells (madeCells #[.bool false] n) 4)).alloc (.cells #[pt r,.slice o l.length cap,.int .u32 g,.int .u32 boot,.int .u64 0,.slice (some ⟨W3.heap.size,0,none⟩) n n] 45)=W5:=⟨_,rfl⟩;rw[hW5] at b5 g5;rw[s4] at g5;have HW5:Hid _:=hW5;have g6:W5.heap[W3.heap.size]? =some (.cells (madeCells #[.bool false] n) 4 (0,0)):=(b5.block _ (by omega)).trans g4
 have hm0:(madeCells #[.bool false] n)[0]? =some (Value.bool false):=by
  have h9:0<n:=by omega
  simp[madeCells,h9,Nat.mod_one]
 have hm1:(madeCells #[.bool false] n)[1]? =some (Value.bool false):=by
  have h9:1<n:=by omega
  simp[madeCells,h9,Nat.mod_one]
 have f0:W5.cell? ⟨W3.heap.size,0,none⟩=some (.bool false):=by rw[zr g6,hm0]
 have z0:W5.frozen? ⟨W3.heap.size,0,none⟩=false:=frozen_of_row _ _ _ _ _ g6;have e5:W5.cell? ⟨W3.heap.size+1,5,none⟩=some (.slice (some ⟨W3.heap.size,0,none⟩) n n):=by rw[zr g5];rfl
 have g7:=Rd.zbe W5 W3.heap.size 0 _ _ _ (.bool true) g6;have o7:∀ k,k≠W3.heap.size→(W5.setCell ⟨W3.heap.size,0,none⟩ (.bool true)).heap[k]? =W5.heap[k]? :=fun k hk=>Below.heap_setCell _ _ _ _ fun e=>hk e
 have hb7:Below w.heap.size w (W5.setCell ⟨W3.heap.size,0,none⟩ (.bool true)):=(HB3.out.trans ((b4.trans (b5.mono (by omega))).mono HB3.out.size)).trans ⟨rfl,rfl,rfl,by simp[World.setCell],fun k hk=>o7 k (by have:=HB3.out.size;omega)⟩;obtain⟨W6,hW6⟩:∃ W6,W5.setCell ⟨W3.heap.size,0,none⟩ (.bool true)=W6:=⟨_,rfl⟩;rw[hW6] at g7 o7 hb7;have HW6:Hid _:=hW6
 have f1:W6.cell? ⟨W3.heap.size,1,none⟩=some (.bool false):=by
  rw[zr g7,Array.getElem?_setIfInBounds,if_neg (by decide),hm1]
 have z1:W6.frozen? ⟨W3.heap.size,1,none⟩=false:=frozen_of_row _ _ _ _ _ g7;have e6:W6.cell? ⟨W3.heap.size+1,5,none⟩=some (.slice (some ⟨W3.heap.size,0,none⟩) n n):=by rw[zr ((o7 _ (by omega)).trans g5)];rfl
 have l5:W3.heap.size+1<W5.heap.size:=hlt g5;have l6:W3.heap.size+1<W6.heap.size:=hlt ((o7 _ (by omega)).trans g5);have HB8:Hid (Below w.heap.size w (W6.setCell ⟨W3.heap.size,1,none⟩ (.bool true))):=hb7.trans ⟨rfl,rfl,rfl,by simp[World.setCell],fun k hk=>Below.heap_setCell _ _ _ _ fun e=>by have e':k=W3.heap.size:=e;have:=HB3.out.size;omega⟩;have i0:(0:Int)<(n:Int):=by omega
 have i1:(1:Int)<(n:Int):=by omega
 clear b2 b3 HF hW3 b4 b5 g4 g5 g6 g7 o7 hb7 hW5 hW6 hm0 hm1 s4
 go_wp2_with (first|(rw[HW3.out];clear HW3)|(rw[HW5.out];clear HW5)|(rw[HW6.out];clear HW6))
 go_ret2;exact⟨W3.heap.size+1,rfl,HB8.out⟩
theorem zck {fn:Func} {a b c d:Tmp} (h:fn.results=#[.tmp a,.tmp b,.tmp c,.tmp d]) (tmps:Array Value) (w:World):(results fn tmps).run Tryz.prog w=.ok (.tuple #[tmps.getD a undef,tmps.getD b undef,tmps.getD c undef,tmps.getD d undef]) w:=by
 simp[results,h,go_sem]
structure Hon (t:St):Prop where
 ok:Ok t
 e:t.ended=false
 c:t.cut=false
 b:∀ p,t.bad p=false
theorem zo9 (n:Nat) (h0:4≤n) (h1:n≤4096):Hon (Rd.newS n):=⟨Rd.zkv n h0 h1,rfl,rfl,fun _=>rfl⟩
theorem zfz {t:St} (h:Hon t) {q:Nat} (hq:q<t.n):Rd.za6 t q=0∧Rd.zaR t q=(t.pd q).getD (t.tx q):=by
 have:Rd.za6 t q=0:=by unfold Rd.za6;rw[if_pos hq,h.e,h.b];rfl
 exact⟨this,by unfold Rd.zaR;rw[if_pos this];rfl⟩
theorem zpa {t:St} (h:Hon t):Rd.opOk t=true∧Rd.opS t=t:=by
 have h1:Rd.opOk t=true:=by unfold Rd.opOk;rw[h.e,h.c];rfl
 refine⟨h1,?_⟩;unfold Rd.opS;rw[if_pos h1,h.c];obtain⟨a,b,c,d,e,f,g,i,j,k⟩:=t;have:=h.c;simp only at this;subst this;rfl
theorem zc1 {t:St} (h:Hon t) {p:Nat} (hp:p<t.n) {B:ByteArray} (hB:B.size=256):
  Rd.zbl t p B=0∧Hon (Rd.zau t p B)∧(Rd.zau t p B).n=t.n∧(∀ q,q<t.n→Rd.zaR (Rd.zau t p B) q=if q=p then B else Rd.zaR t q):=by
 have hf:Rd.fitS t p B=true:=by unfold Rd.fitS;rw[decide_eq_true hp,decide_eq_true hB];rfl
 obtain⟨o1,o2⟩:=zpa h;have hE:Rd.zbl t p B=0:=by unfold Rd.zbl;rw[hf,o1];rfl
 have hS:Rd.zau t p B={ t with pd:=Rd.put t.pd p (some B) }:=by
  unfold Rd.zau;rw[hf,o1,o2];rfl
 have hH:Hon (Rd.zau t p B):=⟨Rd.zjx h.ok p B,by rw[hS];exact h.e,by rw[hS];exact h.c,by rw[hS];exact h.b⟩;have hn:(Rd.zau t p B).n=t.n:=by rw[hS]
 refine⟨hE,hH,hn,fun q hq=>?_⟩;rw[(zfz hH (by rw[hn];exact hq)).2,(zfz h hq).2,hS];simp only[Rd.put];split<;>rfl
structure Vok (v:Vs):Prop where
 f:Rk.feS v.ring v.gen=0
 g0:0≤v.gen
 g1:v.gen<4294967296
 b0:0≤v.boot
 b1:v.boot<4294967296
 s:v.seals≤1000000
theorem Vok.fits {v:Vs} (h:Vok v) {p:Nat} (hp:p≤4096):Rs.fits (hd v p):=by
 have:=h.s;exact⟨⟨by simp only[hd];omega,by simp only[hd];omega⟩,⟨h.g0,h.g1⟩,⟨h.b0,h.b1⟩,by simp only[hd];omega,by simp only[hd];omega⟩
abbrev blk (Kt:Nat→Int) (v:Vs) (p:Nat) (s:ByteArray):ByteArray:=Rs.sV Kt v.ring (hd v p) s
theorem Vok.se {v:Vs} (h:Vok v) (p:Nat) {s:ByteArray} (hs:s.size≤198):Rs.sE v.ring (hd v p) s=0:=(Rs.zfv v.ring (hd v p) s).2 ⟨h.f,hs⟩
def zbT (v:Vs):Vs:={ v with seals:=v.seals+1 }
theorem zjl (Kt:Nat→Int) {v:Vs} {t:St} (hv:Vok v) (ht:Hon t) {p:Nat} (hp:p<t.n) {s:ByteArray} (hs:s.size≤198):
  putE Kt v t p s=0∧putV Kt v t p s=Rs.tagS (blk Kt v p s)∧putN v p s=zbT v∧putT Kt v t p s=Rd.zau t p (blk Kt v p s):=by
 have hn1:=ht.ok.n1;have h0:=hv.se p hs;have hz:=(Rs.zbG Kt v.ring (hd v p) (hv.fits (by omega)) s h0).1;have hE:putE Kt v t p s=0:=by unfold putE;rw[if_pos h0];exact(zc1 ht hp hz).1
 refine⟨hE,?_,?_,?_⟩
 ·unfold putV;rw[if_pos hE]
 ·unfold putN;rw[if_pos h0];rfl
 ·unfold putT;rw[if_pos h0]
theorem zgx (Kt:Nat→Int) (A:Pl) (v:Vs) (t:St) (s:ByteArray) (hs:s.size≤198) (p:Nat) (w:World) (hw:Vlt w A v t) (hv:Vok v) (ht:Hon t) (hT:Rs.Tb Kt w) (hl:zaw v.tk t.n=some p) (hp:p<t.n):
  Calls Tryz.prog 32 #[pt A.g,.string s] w fun e w'=>e=.returned (.tuple #[rf p (Rs.tagS (blk Kt v p s)),.int .i64 0])∧Vlt w' A (take (zbT v) p) (Rd.zau t p (blk Kt v p s))∧But A.has w w':=by
 have hn1:=ht.ok.n1;have hs2:=hv.s;obtain⟨h1,h2,h3,h4⟩:=zjl Kt hv ht hp hs;refine(zlf Kt A v t s hs w hw ht.ok hT (hv.fits (by omega)) (by omega) hl hp).mono ?_;rintro e w' ⟨⟨-,he,hx⟩|⟨hx,-⟩,hb⟩
 ·rw[h2] at he
  rw[h3,h4] at hx;exact⟨he,hx,hb⟩
 ·exact absurd h1 hx
theorem znd (a b:List Int):strOfNums (a++b)=strOfNums a++strOfNums b:=by
 apply ByteArray.ext;simp[strOfNums]
theorem put4 (h:Rs.Hd):(Rs.putS h).extract 0 4=strOfNums (Rp.upto (Rs.le h.1) 4):=by
 unfold Rs.putS;rw[←Rs.zih,List.append_assoc,List.append_assoc,List.append_assoc,znd];exact Rs.zcd _ _ 4 (by rw[strOfNums_size,Rp.zaj])
theorem zir {b:ByteArray} (h:b.size=256):(Rs.tagS b).size=32:=by
 unfold Rs.tagS;rw[ByteArray.size_extract,h];rfl
theorem zhs (Kt:Nat→Int) {v:Vs} {t:St} (ht:Hon t) {p:Nat} (h2:2≤p) (hp:p<t.n) {h:Rs.Hd} (hf:Rs.fits h) (hh:h.1=(p:Int)) {s:ByteArray} (h0:Rs.sE v.ring h s=0) (hr:Rd.zaR t p=Rs.sV Kt v.ring h s):
  pgE Kt v t p (Rs.tagS (Rs.sV Kt v.ring h s))=0∧pgS Kt v t p (Rs.tagS (Rs.sV Kt v.ring h s))=s∧pgH Kt v t p (Rs.tagS (Rs.sV Kt v.ring h s))=h:=by
 obtain⟨z1,z2,z3,z4,z5⟩:=Rs.zbG Kt v.ring h hf s h0;have hrr:rref p (Rs.tagS (Rs.sV Kt v.ring h s))=true:=by unfold rref;rw[decide_eq_true h2,decide_eq_true (zir z1)];rfl
 have hre:=(zfz ht hp).1
 have hsy:says (Rs.sV Kt v.ring h s) p=true:=by
  unfold says plc;refine decide_eq_true ?_;have e1:(Rs.sV Kt v.ring h s).extract 0 4=((Rs.sV Kt v.ring h s).extract 0 24).extract 0 4:=by rw[Rs.zbq _ 0 24 0 4 (by omega)]
  rw[e1,z2,put4,put4,hh]
 have hm:meant t p (Rs.tagS (Rs.sV Kt v.ring h s))=true:=by unfold meant;rw[hr,decide_eq_true rfl,hsy];rfl
 refine⟨?_,?_,?_⟩
 ·unfold pgE opE;rw[if_pos hrr,if_pos hre,if_pos hm,hr];exact z3
 ·unfold pgS opS;rw[if_pos hrr,if_pos ⟨hre,hm⟩,hr];exact z5
 ·unfold pgH opH;rw[if_pos hrr,if_pos ⟨hre,hm⟩,hr];exact z4
theorem Vok.next {v:Vs} (h:Vok v) (hs:v.seals<1000000) (p:Nat):Vok (take (zbT v) p):=⟨h.f,h.g0,h.g1,h.b0,h.b1,by show v.seals+1≤_;omega⟩
theorem zlv {tk:Nat→Option Unit} {p:Nat} (h:∀ q,q<p→(tk q).isSome=true):cf tk p=0:=by
 unfold cf;rw[List.length_eq_zero_iff,List.filter_eq_nil_iff];intro q hq;have:=h q (by simpa using hq);cases e:tk q<;>simp_all
end Rv
end Go.Proofs.YtokfnghckpgjmaaGreatDoor
