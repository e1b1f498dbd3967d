/- The reference's New: a vault is made. -/
import Derived.Test.YtokfnghckpgjmaaGreatDoorPPo
import Derived.Test.YtokfnghckpgjmaaGreatDoorPPk
import Derived.Test.YtokfnghckpgjmaaGreatDoorQVB
import Derived.Test.YtokfnghckpgjmaaGreatDoorPRF
set_option maxRecDepth 100000
set_option maxHeartbeats 4000000
namespace Go.Proofs.YtokfnghckpgjmaaGreatDoor
namespace Rv
open Go.RowKit Go.Lib
open Rd (bC St Ok dT Dv pt bF bu)
theorem znc (r:Nat) (x:Rd.Rp) (s:St) (l:List Rk.Ky) (g boot:Int) (o:Option Addr) (cap:Nat) (w:World) (hd:Rd.Rf w r x s) (hk:Ok s) (hr:Rk.Ring w o cap l) (h0:Rk.cq l g=0):
  Calls Tryz.prog 44 #[pt r,.slice o l.length cap,.int .u32 g,.int .u32 boot] w fun e w'=>∃ q,e=.returned (.tuple #[pt q,.int .i64 0])∧Below w.heap.size w w':=by
 have HF:Hid (∀ _:True,_):=fun _=>Rk.zgY l g o cap w hr
 rw[h0] at HF;obtain⟨⟨ka,kb⟩,hkk⟩:∃ k,Rk.dI l g=k:=⟨_,rfl⟩;rw[hkk] at HF;simp only[Rk.kv] at HF;have n0:=hk.n0;have n1:=hk.n1;obtain⟨n,hn⟩:∃ n,s.n=n:=⟨_,rfl⟩;rw[hn] at n0 n1
 have hc0:∀ W,Below w.heap.size w W→W.cell? ⟨r,0,none⟩=some (.slice (some ⟨x.l,0,none⟩) n x.lc)∧r<W.heap.size:=fun W hW=>by
  have:=(hd.below hW zn).self;refine⟨?_,hlt this⟩;rw[zr this,←hn];rfl
 have HC0:Hid (∀ W,Below w.heap.size w W→W.cell? ⟨r,0,none⟩=some (.slice (some ⟨x.l,0,none⟩) n x.lc)∧r<W.heap.size):=hc0;clear hd hk hr h0 hkk hn hc0;go_enter Tryz.func44,Tryz.ntmps44;go_wp2_with fail;refine Calls.mono (HF.o trivial) ?_;rintro e w2 ⟨rfl,b2⟩;have b3:=bF w2 (.cells #[.int .u32 ka,.string kb] 142);obtain⟨W3,hW3⟩:∃ W3,w2.alloc (.cells #[.int .u32 ka,.string kb] 142)=W3:=⟨_,rfl⟩;rw[hW3] at b3;have HW3:Hid _:=hW3;have HB3:Hid (Below w.heap.size w W3):=b2.trans (b3.mono b2.size);obtain⟨c0,lr⟩:=HC0.o W3 HB3.o;have hmk:=run_make_row' (P:=Tryz.prog) 43 4 (.bool false) 1 Tryz.underlying43 Rd.zp1 rfl .i64 .i64 n uo uo W3;have b4:=bF W3 (.cells (madeCells #[.bool false] n) 4);have g4:=zq W3 (.cells (madeCells #[.bool false] n) 4);have b5:=bF (W3.alloc (.cells (madeCells #[.bool false] n) 4)) (.cells #[pt r,.slice o l.length cap,.int .u32 g,.int .u32 boot,.int .u64 0,.slice (some ⟨W3.heap.size,0,none⟩) n n] 45)
 have g5:=zq (W3.alloc (.cells (madeCells #[.bool false] n) 4)) (.cells #[pt r,.slice o l.length cap,.int .u32 g,.int .u32 boot,.int .u64 0,.slice (some ⟨W3.heap.size,0,none⟩) n n] 45);have s4:(W3.alloc (.cells (madeCells #[.bool false] n) 4)).heap.size=W3.heap.size+1:=by simp
 obtain⟨W5,hW5⟩:∃ W5,(W3.alloc (.cells (madeCells #[.bool false] n) 4)).alloc (.cells #[pt r,.slice o l.length cap,.int .u32 g,.int .u32 boot,.int .u64 0,.slice (some ⟨W3.heap.size,0,none⟩) n n] 45)=W5:=⟨_,rfl⟩;rw[hW5] at b5 g5;rw[s4] at g5;have HW5:Hid _:=hW5;have g6:W5.heap[W3.heap.size]? =some (.cells (madeCells #[.bool false] n) 4 (0,0)):=(b5.block _ uo).trans g4
 have hm0:(madeCells #[.bool false] n)[0]? =some (Value.bool false):=by
  have h9:0<n:=uo
  simp[madeCells,h9,Nat.mod_one]
 have hm1:(madeCells #[.bool false] n)[1]? =some (Value.bool false):=by
  have h9:1<n:=uo
  simp[madeCells,h9,Nat.mod_one]
 have f0:W5.cell? ⟨W3.heap.size,0,none⟩=some (.bool false):=by rw[zr g6,hm0]
 have z0:W5.frozen? ⟨W3.heap.size,0,none⟩=false:=frozen_of_row _ _ _ _ _ g6;have e5:W5.cell? ⟨W3.heap.size+1,5,none⟩=some (.slice (some ⟨W3.heap.size,0,none⟩) n n):=by rw[zr g5];rfl
 have g7:=Rd.gu W5 W3.heap.size 0 _ _ _ (.bool true) g6;have o7:∀ k,k≠W3.heap.size→(W5.setCell ⟨W3.heap.size,0,none⟩ (.bool true)).heap[k]? =W5.heap[k]? :=fun k hk=>Below.heap_setCell _ _ _ _ fun e=>hk e
 have hb7:Below w.heap.size w (W5.setCell ⟨W3.heap.size,0,none⟩ (.bool true)):=(HB3.o.trans ((b4.trans (b5.mono uo)).mono HB3.o.size)).trans ⟨rfl,rfl,rfl,by simp[World.setCell],fun k hk=>o7 k (by have:=HB3.o.size;omega)⟩;obtain⟨W6,hW6⟩:∃ W6,W5.setCell ⟨W3.heap.size,0,none⟩ (.bool true)=W6:=⟨_,rfl⟩;rw[hW6] at g7 o7 hb7;have HW6:Hid _:=hW6
 have f1:W6.cell? ⟨W3.heap.size,1,none⟩=some (.bool false):=by
  rw[zr g7,Array.getElem?_setIfInBounds,if_neg ud,hm1]
 have z1:W6.frozen? ⟨W3.heap.size,1,none⟩=false:=frozen_of_row _ _ _ _ _ g7;have e6:W6.cell? ⟨W3.heap.size+1,5,none⟩=some (.slice (some ⟨W3.heap.size,0,none⟩) n n):=by rw[zr ((o7 _ uo).trans g5)];rfl
 have l5:W3.heap.size+1<W5.heap.size:=hlt g5;have l6:W3.heap.size+1<W6.heap.size:=hlt ((o7 _ uo).trans g5);have HB8:Hid (Below w.heap.size w (W6.setCell ⟨W3.heap.size,1,none⟩ (.bool true))):=hb7.trans ⟨rfl,rfl,rfl,by simp[World.setCell],fun k hk=>Below.heap_setCell _ _ _ _ fun e=>by have e':k=W3.heap.size:=e;have:=HB3.o.size;omega⟩;have i0:(0:Int)<(n:Int):=uo
 have i1:(1:Int)<(n:Int):=uo
 clear b2 b3 HF hW3 b4 b5 g4 g5 g6 g7 o7 hb7 hW5 hW6 hm0 hm1 s4
 go_wp2_with (first|(rw[HW3.o];clear HW3)|(rw[HW5.o];clear HW5)|(rw[HW6.o];clear HW6))
 go_ret2;exact⟨W3.heap.size+1,rfl,HB8.o⟩
theorem sU {fn:Func} {a b c d:Tmp} (h:fn.results=#[.tmp a,.tmp b,.tmp c,.tmp d]) (tmps:Array Value) (w:World):(results fn tmps).run Tryz.prog w=.ok (.tuple #[tmps.getD a undef,tmps.getD b undef,tmps.getD c undef,tmps.getD d undef]) w:=by
 simp[results,h,go_sem]
structure fs (t:St):Prop where
 ok:Ok t
 e:t.ended=false
 c:t.cut=false
 b:∀ p,t.bad p=false
theorem zo9 (n:Nat) (h0:4≤n) (h1:n≤4096):fs (Rd.ce n):=⟨Rd.zkv n h0 h1,rfl,rfl,fun _=>rfl⟩
theorem tr {t:St} (h:fs t) {q:Nat} (hq:q<t.n):Rd.er t q=0∧Rd.dv t q=(t.pd q).getD (t.tx q):=by
 have:Rd.er t q=0:=by unfold Rd.er;rw[if_pos hq,h.e,h.b];rfl
 exact⟨this,by unfold Rd.dv;rw[if_pos this];rfl⟩
theorem zpa {t:St} (h:fs t):Rd.fw t=true∧Rd.ee t=t:=by
 have h1:Rd.fw t=true:=by unfold Rd.fw;rw[h.e,h.c];rfl
 refine⟨h1,?_⟩;unfold Rd.ee;rw[if_pos h1,h.c];obtain⟨a,b,c,d,e,f,g,i,j,k⟩:=t;have:=h.c;simp only at this;subst this;rfl
theorem qz {t:St} (h:fs t) {p:Nat} (hp:p<t.n) {B:ByteArray} (hB:B.size=256):
  Rd.iF t p B=0∧fs (Rd.dw t p B)∧(Rd.dw t p B).n=t.n∧(∀ q,q<t.n→Rd.dv (Rd.dw t p B) q=if q=p then B else Rd.dv t q):=by
 have hf:Rd.fY t p B=true:=by unfold Rd.fY;rw[decide_eq_true hp,decide_eq_true hB];rfl
 obtain⟨o1,o2⟩:=zpa h;have hE:Rd.iF t p B=0:=by unfold Rd.iF;rw[hf,o1];rfl
 have hS:Rd.dw t p B={ t with pd:=Rd.put t.pd p (some B) }:=by
  unfold Rd.dw;rw[hf,o1,o2];rfl
 have hH:fs (Rd.dw t p B):=⟨Rd.zjx h.ok p B,by rw[hS];exact h.e,by rw[hS];exact h.c,by rw[hS];exact h.b⟩;have hn:(Rd.dw t p B).n=t.n:=by rw[hS]
 refine⟨hE,hH,hn,fun q hq=>?_⟩;rw[(tr hH (by rw[hn];exact hq)).2,(tr h hq).2,hS];simp only[Rd.put];split<;>rfl
structure gh (v:Vs):Prop where
 f:Rk.cq v.ring v.gen=0
 g0:0≤v.gen
 g1:v.gen<4294967296
 b0:0≤v.boot
 b1:v.boot<4294967296
 s:v.seals≤1000000
theorem gh.fits {v:Vs} (h:gh v) {p:Nat} (hp:p≤4096):Rs.fits (hd v p):=by
 have:=h.s;exact⟨⟨by simp only[hd];omega,by simp only[hd];omega⟩,⟨h.g0,h.g1⟩,⟨h.b0,h.b1⟩,by simp only[hd];omega,by simp only[hd];omega⟩
abbrev dl (Kt:Nat→Int) (v:Vs) (p:Nat) (s:ByteArray):ByteArray:=Rs.sV Kt v.ring (hd v p) s
theorem gh.se {v:Vs} (h:gh v) (p:Nat) {s:ByteArray} (hs:s.size≤198):Rs.sE v.ring (hd v p) s=0:=(Rs.qq v.ring (hd v p) s).2 ⟨h.f,hs⟩
def iC (v:Vs):Vs:={ v with seals:=v.seals+1 }
theorem zjl (Kt:Nat→Int) {v:Vs} {t:St} (hv:gh v) (ht:fs t) {p:Nat} (hp:p<t.n) {s:ByteArray} (hs:s.size≤198):
  fq Kt v t p s=0∧iR Kt v t p s=Rs.cW (dl Kt v p s)∧dG v p s=iC v∧gp Kt v t p s=Rd.dw t p (dl Kt v p s):=by
 have hn1:=ht.ok.n1;have h0:=hv.se p hs;have hz:=(Rs.mz Kt v.ring (hd v p) (hv.fits uo) s h0).1;have hE:fq Kt v t p s=0:=by unfold fq;rw[if_pos h0];exact(qz ht hp hz).1
 refine⟨hE,?_,?_,?_⟩
 ·unfold iR;rw[if_pos hE]
 ·unfold dG;rw[if_pos h0];rfl
 ·unfold gp;rw[if_pos h0]
theorem zgx (Kt:Nat→Int) (A:Pl) (v:Vs) (t:St) (s:ByteArray) (hs:s.size≤198) (p:Nat) (w:World) (hw:bP w A v t) (hv:gh v) (ht:fs t) (hT:Rs.Tb Kt w) (hl:eC v.tk t.n=some p) (hp:p<t.n):
  Calls Tryz.prog 32 #[pt A.g,.string s] w fun e w'=>e=.returned (.tuple #[rf p (Rs.cW (dl Kt v p s)),.int .i64 0])∧bP w' A (take (iC v) p) (Rd.dw t p (dl Kt v p s))∧bC A.has w w':=by
 have hn1:=ht.ok.n1;have hs2:=hv.s;obtain⟨h1,h2,h3,h4⟩:=zjl Kt hv ht hp hs;refine(zlf Kt A v t s hs w hw ht.ok hT (hv.fits uo) uo hl hp).mono ?_;rintro e w' ⟨⟨-,he,hx⟩|⟨hx,-⟩,hb⟩
 ·rw[h2] at he
  rw[h3,h4] at hx;exact⟨he,hx,hb⟩
 ·exact absurd h1 hx
theorem znd (a b:List Int):strOfNums (a++b)=strOfNums a++strOfNums b:=by
 apply ByteArray.ext;simp[strOfNums]
theorem pG (h:Rs.Hd):(Rs.cD h).extract 0 4=strOfNums (Rp.upto (Rs.le h.1) 4):=by
 unfold Rs.cD;rw[←Rs.zih,List.append_assoc,List.append_assoc,List.append_assoc,znd];exact Rs.rP _ _ 4 (by rw[strOfNums_size,Rp.fZ])
theorem zir {b:ByteArray} (h:b.size=256):(Rs.cW b).size=32:=by
 unfold Rs.cW;rw[ByteArray.size_extract,h];rfl
theorem zhs (Kt:Nat→Int) {v:Vs} {t:St} (ht:fs t) {p:Nat} (h2:2≤p) (hp:p<t.n) {h:Rs.Hd} (hf:Rs.fits h) (hh:h.1=(p:Int)) {s:ByteArray} (h0:Rs.sE v.ring h s=0) (hr:Rd.dv t p=Rs.sV Kt v.ring h s):
  eP Kt v t p (Rs.cW (Rs.sV Kt v.ring h s))=0∧lH Kt v t p (Rs.cW (Rs.sV Kt v.ring h s))=s∧oA Kt v t p (Rs.cW (Rs.sV Kt v.ring h s))=h:=by
 obtain⟨z1,z2,z3,z4,z5⟩:=Rs.mz Kt v.ring h hf s h0;have hrr:br p (Rs.cW (Rs.sV Kt v.ring h s))=true:=by unfold br;rw[decide_eq_true h2,decide_eq_true (zir z1)];rfl
 have hre:=(tr ht hp).1
 have hsy:says (Rs.sV Kt v.ring h s) p=true:=by
  unfold says plc;refine decide_eq_true ?_;have e1:(Rs.sV Kt v.ring h s).extract 0 4=((Rs.sV Kt v.ring h s).extract 0 24).extract 0 4:=by rw[Rs.jv _ 0 24 0 4 uo]
  rw[e1,z2,pG,pG,hh]
 have hm:eQ t p (Rs.cW (Rs.sV Kt v.ring h s))=true:=by unfold eQ;rw[hr,decide_eq_true rfl,hsy];rfl
 refine⟨?_,?_,?_⟩
 ·unfold eP mJ;rw[if_pos hrr,if_pos hre,if_pos hm,hr];exact z3
 ·unfold lH ee;rw[if_pos hrr,if_pos ⟨hre,hm⟩,hr];exact z5
 ·unfold oA mK;rw[if_pos hrr,if_pos ⟨hre,hm⟩,hr];exact z4
theorem gh.next {v:Vs} (h:gh v) (hs:v.seals<1000000) (p:Nat):gh (take (iC v) p):=⟨h.f,h.g0,h.g1,h.b0,h.b1,by show v.seals+1≤_;omega⟩
theorem Tk.len {w:World} {m c:Nat} {f:Nat→Option Unit} (h:Tk w m f c) (ty:TypeId):(Builtin.len_ #[111] ty #[.map (some m)]).run Tryz.prog w=.ok (.int .i64 (c:Int)) w:=by
 obtain⟨es,cl,h1,h2,-⟩:=h;simp[Builtin.len_,run_underlying Tryz.underlying111,MapKept.run_getObj_map h1,Result.andThen,h2.2];rfl
def tu (g:Nat) (a:Value) (m k:Nat) (w:World):Prop:=w.cell? ⟨g,0,none⟩=some a∧w.cell? ⟨g,5,none⟩=some (.map (some m))∧(Builtin.len_ #[111] 3 #[.map (some m)]).run Tryz.prog w=.ok (.int .i64 (k:Int)) w
theorem zc2 (A:Pl) (v:Vs) (t:St) (w:World) (hv:bP w A v t) (hk:Ok t) (hn:v.nt≤t.n):
  Calls Tryz.prog 20 #[pt A.g] w fun e w'=>e=.returned (.int .i64 ((t.n - v.nt:Nat):Int))∧Below w.heap.size w w':=by
 have HN:Hid (∀ _:True,_):=fun _=>lk A v t w hv
 have HBk:Hid (∀ _:True,_):=fun _=>Rd.rK A.d A.b A.m t w.drew (hv.dev.below (Below.refl _ w).drew zn)
 have h6:=qr hv.self.1;have n1:=hk.n1;have HSW0:Hid (tu A.g (pt A.d) A.tm v.nt w.drew):=⟨h6.1,h6.2.2.2.2.2,(hv.below (Below.refl _ w).drew zn).map.len 3⟩;obtain⟨n,hnn⟩:∃ n,t.n=n:=⟨_,rfl⟩;obtain⟨k,hkk⟩:∃ k,v.nt=k:=⟨_,rfl⟩;rw[hnn] at HBk n1 hn ⊢;rw[hkk] at HSW0 hn ⊢
 have q1:IntKind.i64.wrap ((n:Int) - (k:Int))=((n - k:Nat):Int):=by
  rw[IntWalk.i64_in _ ⟨by omega,by omega⟩];omega
 have lg:=hv.lt.1;obtain⟨r,hr⟩:∃ r,n - k=r:=⟨_,rfl⟩;rw[hr] at q1 ⊢;have q2:(if(r:Int)<0 then(0:Int) else(r:Int))=(r:Int):=if_neg uo;clear hv hk h6 hnn hkk hr hn;go_enter Tryz.func20,Tryz.ntmps20;go_wp2_with fail;refine Calls.mono (HN.o trivial) ?_;rintro e w1 ⟨rfl,hw1⟩;have hw1':=hw1.symm;clear hw1 HN;subst hw1';go_wp2_with fail;refine wp_region_held (S:=tu A.g (pt A.d) A.tm k) uk ?_;change wpAnyH _ _ _ _ _ _ _ _ (World.drew _);have HSW:Hid (tu A.g (pt A.d) A.tm k w.drew):=HSW0.o;refine bB [0,1,2,3,5,6,7,8] ?_
 iterate 8
  refine bS (v:=?_) rfl ?_ HSW.o ?_;rotate_left
  ·rintro w ⟨e0,e5,e6⟩;go_simp;try with_reducible rfl
  conv in(Act.put _ _ _)=>simp only[bH,bI,bJ,Act.put,bK,bL,bM]
 refine bA ?_;refine dF 4 _ uk rfl uk (fun K hK=>?_);go_simp;refine Calls.mono (HBk.o trivial) ?_;rintro e w2 ⟨rfl,hw2⟩;have hw2':=hw2.symm;clear hw2;subst hw2';refine hK _ _ HSW.o ?_;clear hK K;refine bB [9,10,11,12] ?_
 iterate 4
  refine bS (v:=?_) rfl ?_ HSW.o ?_;rotate_left
  ·rintro w ⟨e0,e5,e6⟩;go_simp;try with_reducible rfl
  conv in(Act.put _ _ _)=>simp only[bH,bI,bJ,Act.put,bK,bL,bM]
 refine bA ?_;refine wpAnyH_done uk ?_ _;go_wp2_with fail;go_ret;exact⟨rfl,(Below.refl _ w).drew⟩
theorem zlv {tk:Nat→Option Unit} {p:Nat} (h:∀ q,q<p→(tk q).isSome=true):cf tk p=0:=by
 unfold cf;rw[List.length_eq_zero_iff,List.filter_eq_nil_iff];intro q hq;have:=h q (by simpa using hq);cases e:tk q<;>simp_all
end Rv
end Go.Proofs.YtokfnghckpgjmaaGreatDoor
