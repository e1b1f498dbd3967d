/- A head's bytes: Put. -/
import Derived.Test.YtokfnghckpgjmaaGreatDoorPPo
import Derived.Test.YtokfnghckpgjmaaGreatDoorPPk
import Derived.Test.YtokfnghckpgjmaaGreatDoorPWC
import Derived.Test.YtokfnghckpgjmaaGreatDoorQE
set_option maxRecDepth 100000
set_option maxHeartbeats 4000000
namespace Go.Proofs.YtokfnghckpgjmaaGreatDoor
namespace Rs
open Go.RowKit Go.Lib
theorem cells5:Tryz.prog.cellsOf 5=1:=uk
theorem zi5 (B b:Nat) (xs:List Int) (w:World) (h:Wr B b (xs.map (Value.int .u8)) w) (hx:∀ x∈xs,0≤x∧x<256) (h0:xs≠[]) (hl:xs.length≤1000):
  Calls Tryz.prog 153 #[.pointer (some ⟨b,0,none⟩)] w fun e w'=>e=.returned (.string (strOfNums xs))∧Below B w w':=by
 obtain⟨p,hB,v,hbk,hown,hne⟩:∃ p,BuilderAt 284 5 B b p (xs.map (Value.int .u8)) w:=h.elim (fun h=>⟨_,h⟩) (fun h=>⟨_,h⟩);have hn0:xs.length≠0:=by simpa using h0
 rw[List.length_map] at hown
 obtain⟨g,cap,cur,rfl,hbg,hg,hnc,hcm,hcs,htk⟩:∃ g cap cur,v=.slice (some ⟨g,0,none⟩) xs.length cap∧B≤g∧w.heap[g]? =some (.cells cur 5 (0,0))∧xs.length≤cap∧cap≤maxLen∧cur.size=cap*1∧cur.toList.take (xs.length*1)=xs.map (Value.int .u8):=by
  rcases hown.2 with⟨_,hz⟩|⟨g,cap,cur,hv,r⟩
  ·exact absurd hz hn0
  ·exact⟨g,cap,cur,hv,r⟩
 have hgl:g<w.heap.size:=(zi hg).1;obtain⟨l,hl8⟩:∃ l:List UInt8,l=xs.map fun x=>UInt8.ofNat x.toNat:=⟨_,rfl⟩
 have hll:l.length=xs.length:=by rw[hl8,List.length_map]
 have hstr:strOfNums xs=⟨l.toArray⟩:=by rw[hl8];rfl
 have HUS:Hid (∀ V:World,V.heap=w.heap→(Builtin.unsafeString_ #[258,3] 9 #[.pointer (some ⟨g,0,none⟩),.int .i64 (xs.length:Int)]).run Tryz.prog V=.ok (.string (strOfNums xs)) (V.freeze ⟨g,0,none⟩ xs.length)):=fun V hV=>by
  have hg':V.heap[g]? =some (.cells cur 5 (0,0)):=by rw[hV];exact hg
  rw[hstr,←hll];refine run_unsafeString_row V _ _ _ 5 Tryz.underlying258 cells5 g cur.size (by simp[World.shape?,hg']) l (by intro e;rw[e] at hll;exact hn0 hll.symm) uo uo ?_;intro j x hj;have hj':j<xs.length:=by have:=(List.getElem?_eq_some_iff.1 hj).1;omega
  have e1:x=UInt8.ofNat (xs[j].toNat):=by rw[hl8,List.getElem?_map,List.getElem?_eq_getElem hj'] at hj;simpa using hj.symm
  have e2:((x.toNat:Nat):Int)=xs[j]:=by
   have:=hx _ (List.getElem_mem hj');rw[e1,UInt8.toNat_ofNat'];omega
  rw[e2,Addr.add_lit,Nat.zero_add,cell_of_heap hg'];have e3:(cur.toList.take (xs.length*1))[j]? =some (.int .u8 xs[j]):=by rw[htk,List.getElem?_map,List.getElem?_eq_getElem hj'];rfl
  rw[List.getElem?_take,if_pos uo] at e3;simpa using e3
 have c1:w.cell? ⟨b,1,none⟩=some (.slice (some ⟨g,0,none⟩) xs.length cap):=by rw[cell_of_heap hbk];rfl
 have HSD:Hid (∀ V:World,(Builtin.unsafeSliceData_ #[140] 258 #[.slice (some ⟨g,0,none⟩) xs.length cap]).run Tryz.prog V=.ok (.pointer (some ⟨g,0,none⟩)) V):=fun V=>
  run_unsafeSliceData_row V _ _ _ _ _ uo
 go_enter Tryz.func153,Tryz.ntmps153;go_wp2_with fail;refine wp_region_held (S:=fun w'=>w'.cell? ⟨b,1,none⟩=some (.slice (some ⟨g,0,none⟩) xs.length cap)∧∀ V:World,(Builtin.unsafeSliceData_ #[140] 258 #[.slice (some ⟨g,0,none⟩) xs.length cap]).run Tryz.prog V=.ok (.pointer (some ⟨g,0,none⟩)) V) uk ?_;change wpAnyH _ _ _ _ _ _ _ _ (World.drew _);have HSW:Hid (w.drew.cell? ⟨b,1,none⟩=some (.slice (some ⟨g,0,none⟩) xs.length cap)∧∀ V:World,(Builtin.unsafeSliceData_ #[140] 258 #[.slice (some ⟨g,0,none⟩) xs.length cap]).run Tryz.prog V=.ok (.pointer (some ⟨g,0,none⟩)) V):=⟨c1,HSD.o⟩;refine bB [0,1,2,3,4,5,6,7,8,9] ?_
 iterate 10
  refine bS (v:=?_) rfl ?_ HSW.o ?_;rotate_left
  ·rintro w ⟨e1,e2⟩;go_simp;try with_reducible rfl
  conv in(Act.put _ _ _)=>simp only[bH,bI,bJ,Act.put,bK,bL,bM]
 refine bA ?_;have hus:=HUS.o w.drew rfl;have hfz:=((OthersKept.refl 5 none w.drew).freeze ⟨g,0,none⟩ xs.length ⟨_,_,hg⟩) b _ hbk us (fun c fz e=>by cases e);have FZ:Hid ((w.drew.freeze ⟨g,0,none⟩ xs.length).cell? ⟨b,1,none⟩=some (.slice (some ⟨g,0,none⟩) xs.length cap)):=by rw[cell_of_heap hfz];rfl
 clear hfz;refine dF 10 _ uk rfl uk (fun K hK=>?_);go_simp;refine hK _ _ ⟨FZ.o,HSD.o⟩ ?_;clear hK K hus HSW;refine dF 11 _ uk rfl uk (fun K hK=>?_);go_simp;refine hK _ _ ⟨FZ.o,HSD.o⟩ ?_;clear hK K;refine wpAnyH_done uk ?_ _;go_wp2_with fail;go_ret;exact⟨rfl,below_freeze (Below.refl B w).drew (p:=⟨g,0,none⟩) hbg _⟩
theorem jK (B b:Nat) (xs:List Int) (n:Int) (n0:0≤n) (size:Nat) (hsz:size≤100) (w:World) (h:Wr B b (xs.map (Value.int .u8)) w) (hlen:xs.length≤100) (hBw:B≤w.heap.size):
  Calls Tryz.prog 216 #[.pointer (some ⟨b,0,none⟩),.int .u64 n,.int .i64 (size:Int)] w fun e w'=>e=.returned (.tuple #[])∧Wr B b ((xs++Rp.upto (le n) size).map (Value.int .u8)) w'∧Below B w w':=by
 refine(callsIn_wide.1 (zk8 B b _ n n0 size hsz w h (by simpa using hlen) hBw)).mono ?_;rintro e w' ⟨rfl,h1,h2,_⟩;exact⟨rfl,by rw[List.map_append];exact h1,h2⟩
theorem zih (h:Hd):Rp.upto (le h.1) 4++Rp.upto (le h.2.1) 4++Rp.upto (le h.2.2.1) 4++Rp.upto (le h.2.2.2) 8++Rp.upto (le 0) 4=Rp.upto (dG h) 24:=by
 have z:∀ i,le 0 i=0:=fun i=>by unfold le;simp
 simp[Rp.upto,List.range_succ,dG,z]
theorem zi6 (f:Nat→Int) (n:Nat) (h:∀ i,0≤f i∧f i<256):∀ x∈Rp.upto f n,0≤x∧x<256:=by
 intro x hx;unfold Rp.upto at hx;obtain⟨i,_,rfl⟩:=List.mem_map.1 hx;exact h i
theorem nw (h:Hd) (hf:fits h) (w:World):
  Calls Tryz.prog 180 #[hv h] w fun e w'=>e=.returned (.string (cD h))∧Below w.heap.size w w':=by
 have HL:Hid (Rp.upto (le h.1) 4++Rp.upto (le h.2.1) 4++Rp.upto (le h.2.2.1) 4++Rp.upto (le h.2.2.2) 8++Rp.upto (le 0) 4=Rp.upto (dG h) 24):=zih h;have HP:Hid (cD h=strOfNums (Rp.upto (dG h) 24)):=rfl;have HR:Hid (∀ x∈Rp.upto (dG h) 24,0≤x∧x<256):=zi6 _ _ (rO h);obtain⟨l24,hl24⟩:∃ l,Rp.upto (dG h) 24=l:=⟨_,rfl⟩;have HN:Hid (l24.length=24):=by refine(?_:l24.length=24);rw[←hl24,Rp.fZ]
 rw[hl24] at HL HP HR;clear hl24;obtain⟨r,hr⟩:∃ r,cD h=r:=⟨_,rfl⟩;rw[hr] at HP ⊢;clear hr;obtain⟨a,b,c,d⟩:=h;obtain⟨⟨a0,a1⟩,⟨b0,b1⟩,⟨c0,c1⟩,d0,d1⟩:=hf;unfold hv;simp only at a0 a1 b0 b1 c0 c1 d0 d1 HL ⊢;have ga:a<18446744073709551616:=uo
 have gb:b<18446744073709551616:=uo
 have gc:c<18446744073709551616:=uo
 go_enter Tryz.func180,Tryz.ntmps180;go_wp2_with fail;obtain⟨w1,hw1⟩:∃ w1,(w.alloc (.cells #[.int .u32 a,.int .u32 b,.int .u32 c,.int .u64 d] 173)).alloc (.cells #[.pointer none,.slice none 0 0] 284)=w1:=⟨_,rfl⟩;have hn2:=Rp.fJ w (.cells #[.int .u32 a,.int .u32 b,.int .u32 c,.int .u64 d] 173) (.cells #[.pointer none,.slice none 0 0] 284);have s1:w1.heap.size=w.heap.size+2:=by rw[←hw1];simp
 rw[hw1] at hn2;obtain⟨X1,Y1,B1⟩:=hn2;have W1:Hid (Wr (w.heap.size+1) (w.heap.size+1) (([]:List Int).map (Value.int .u8)) w1):=.inl ⟨Nat.le_refl _,_,Y1,⟨rfl,.inl ⟨rfl,rfl⟩⟩,by simp[Value.ownBlock]⟩;have HB1:Hid (Below w.heap.size w w1):=B1;have HX1:Hid (w1.heap[w.heap.size]? =some (.cells #[.int .u32 a,.int .u32 b,.int .u32 c,.int .u64 d] 173 (0,0))):=X1;rw[hw1];clear hw1 X1 Y1 B1
 have CE:Hid (∀ V:World,V.heap[w.heap.size]? =some (.cells #[.int .u32 a,.int .u32 b,.int .u32 c,.int .u64 d] 173 (0,0))→V.cell? ⟨w.heap.size,0,none⟩=some (.int .u32 a)∧V.cell? ⟨w.heap.size,1,none⟩=some (.int .u32 b)∧V.cell? ⟨w.heap.size,2,none⟩=some (.int .u32 c)∧V.cell? ⟨w.heap.size,3,none⟩=some (.int .u64 d)):=fun V hV=>
  ⟨by rw[zr hV];rfl,by rw[zr hV];rfl,by rw[zr hV];rfl,by rw[zr hV];rfl⟩
 refine(jK _ _ [] a a0 4 uo w1 W1.o us uo).mono ?_;rintro e w2 ⟨rfl,hw2,hb2⟩;have W2:Hid (Wr (w.heap.size+1) (w.heap.size+1) (([]++Rp.upto (le a) 4).map (Value.int .u8)) w2):=hw2;have s2:=hb2.size;have HX2:Hid _:=(hb2.block w.heap.size uo).trans HX1.o;have HB2:Hid (Below w.heap.size w w2):=HB1.o.trans (hb2.mono uo);obtain⟨_,cb,_,_⟩:=CE.o w2 HX2.o;clear hw2 hb2 W1 HX1 HB1;go_wp2_with fail;clear cb;refine(jK _ _ _ b b0 4 uo w2 W2.o (by simp[Rp.fZ]) uo).mono ?_;rintro e w3 ⟨rfl,hw3,hb3⟩;have W3:Hid (Wr (w.heap.size+1) (w.heap.size+1) (([]++Rp.upto (le a) 4++Rp.upto (le b) 4).map (Value.int .u8)) w3):=hw3;have s3:=hb3.size;have HX3:Hid _:=(hb3.block w.heap.size uo).trans HX2.o;have HB3:Hid (Below w.heap.size w w3):=HB2.o.trans (hb3.mono uo);obtain⟨_,_,cc,_⟩:=CE.o w3 HX3.o;clear hw3 hb3 W2 HX2 HB2
 go_wp2_with fail;clear cc;refine(jK _ _ _ c c0 4 uo w3 W3.o (by simp[Rp.fZ]) uo).mono ?_;rintro e w4 ⟨rfl,hw4,hb4⟩;have W4:Hid (Wr (w.heap.size+1) (w.heap.size+1) (([]++Rp.upto (le a) 4++Rp.upto (le b) 4++Rp.upto (le c) 4).map (Value.int .u8)) w4):=hw4;have s4:=hb4.size;have HX4:Hid _:=(hb4.block w.heap.size uo).trans HX3.o;have HB4:Hid (Below w.heap.size w w4):=HB3.o.trans (hb4.mono uo);obtain⟨_,_,_,cd⟩:=CE.o w4 HX4.o;clear hw4 hb4 W3 HX3 HB3;go_wp2_with fail;clear cd;refine(jK _ _ _ d d0 8 uo w4 W4.o (by simp[Rp.fZ]) uo).mono ?_;rintro e w5 ⟨rfl,hw5,hb5⟩;have W5:Hid (Wr (w.heap.size+1) (w.heap.size+1) (([]++Rp.upto (le a) 4++Rp.upto (le b) 4++Rp.upto (le c) 4++Rp.upto (le d) 8).map (Value.int .u8)) w5):=hw5;have s5:=hb5.size;have HB5:Hid (Below w.heap.size w w5):=HB4.o.trans (hb5.mono uo)
 clear hw5 hb5 W4 HX4 HB4;go_wp2_with fail;refine(jK _ _ _ 0 uo 4 uo w5 W5.o (by simp[Rp.fZ]) uo).mono ?_;rintro e w6 ⟨rfl,hw6,hb6⟩
 have W6:Hid (Wr (w.heap.size+1) (w.heap.size+1) (l24.map (Value.int .u8)) w6):=by
  refine(?_:Wr (w.heap.size+1) (w.heap.size+1) (l24.map (Value.int .u8)) w6);rw[←HL.o];simpa using hw6
 have s6:=hb6.size;have HB6:Hid (Below w.heap.size w w6):=HB5.o.trans (hb6.mono uo);clear hw6 hb6 W5 HB5;go_wp2_with fail;refine(zi5 _ _ l24 w6 W6.o HR.o (by intro e;have:=HN.o;rw[e] at this;cases this) (by rw[HN.o];omega)).mono ?_;rintro e w7 ⟨rfl,hb7⟩;have HB7:Hid (Below w.heap.size w w7):=HB6.o.trans (hb7.mono uo);clear hb7;go_wp2_with fail;go_ret;exact⟨by rw[HP.o];rfl,HB7.o⟩
theorem zpU (a x m:Nat) (ha:a<2 ^ m) (hx:x<256) (hm:m≤56):bits .or .u64 (a:Int) (((x*2 ^ m:Nat):Int))=((a+x*2 ^ m:Nat):Int):=by
 have h56:2 ^ m≤2 ^ 56:=Nat.pow_le_pow_right ud hm;have hor:2 ^ m*x|||a=2 ^ m*x+a:=(Nat.two_pow_add_eq_or_of_lt ha x).symm
 have hle:x*2 ^ m≤255*2 ^ m:=Nat.mul_le_mul_right _ uo;rw[Nat.mul_comm] at hor;generalize 2 ^ m=p at*
 generalize x*p=q at*
 have e1:(BitVec.ofInt 64 (q:Int)).toNat=q:=by
  rw[BitVec.ofInt_natCast,BitVec.toNat_ofNat];exact Nat.mod_eq_of_lt uo
 have e2:(BitVec.ofInt 64 (a:Int)).toNat=a:=by
  rw[BitVec.ofInt_natCast,BitVec.toNat_ofNat];exact Nat.mod_eq_of_lt uo
 show IntKind.u64.wrap ((BitVec.ofInt 64 (a:Int)|||BitVec.ofInt 64 (q:Int)).toNat:Nat)=_;rw[BitVec.toNat_or,e1,e2,Nat.or_comm,hor,IntKind.wrap_u64,Nat.add_comm]
 all_goals omega
theorem zql (s:ByteArray) (k:Nat) (hk:k<8):bits .or .u64 (rd s k) (IntKind.u64.wrap (Rp.bt s k*2 ^ (8*k)))=rd s (k+1):=by
 have hb:=Rp.iW s k;have hr:=lK s k;obtain⟨a,ha⟩:=Int.eq_ofNat_of_zero_le hr.1;obtain⟨x,hx⟩:=Int.eq_ofNat_of_zero_le hb.1;have e256:(256:Int) ^ k=((2 ^ (8*k):Nat):Int):=by rw[Nat.pow_mul];simp
 have p2:((2:Int) ^ (8*k))=((2 ^ (8*k):Nat):Int):=by simp
 have h:=zpU a x (8*k) (by rw[ha,e256] at hr;omega) uo uo;show _=rd s k+Rp.bt s k*256 ^ k;rw[ha,hx,e256,p2];have h56:2 ^ (8*k)≤2 ^ 56:=Nat.pow_le_pow_right ud uo;have hle:x*2 ^ (8*k)≤255*2 ^ (8*k):=Nat.mul_le_mul_right _ uo
 have hw:IntKind.u64.wrap ((x:Int)*((2 ^ (8*k):Nat):Int))=((x*2 ^ (8*k):Nat):Int):=by
  rw[←Int.natCast_mul];generalize 2 ^ (8*k)=p at*
  rw[IntKind.wrap_u64]
  all_goals omega
 rw[hw,h]
 push_cast
 rfl
theorem oJ (s:ByteArray) (hs:s.size≤8) (w:World):
  Calls Tryz.prog 259 #[.string s] w fun e w'=>e=.returned (.int .u64 (rd s s.size))∧∃ n,w'=w.drewN n:=by
 go_enter Tryz.func259,Tryz.ntmps259;have z0:(0:Int)≤(s.size:Int):=uo
 have z1:(s.size:Int)≤8:=uo
 go_wp2_with fail
 go_loopw [3,7] (fun v i wr=>∃ k n:Nat,k≤s.size∧v=.int .u64 (rd s k)∧i=.int .i64 (k:Int)∧wr=w.drewN n) (fun _ i _=>s.size - Rp.bu i)
 case atStart=>exact⟨0,0,Nat.zero_le _,rfl,rfl,rfl⟩
 case round=>
  obtain⟨k,n,hk,rfl,rfl,rfl⟩:=hrel;have k0:(0:Int)≤(k:Int):=uo
  by_cases hlt:k<s.size
  ·have q1:(k:Int)<(s.size:Int):=uo
   have hi8:∀ w',(Instr.index 9 (.string s) (.int .i64 (k:Int))).run Tryz.prog w'=.ok (.int .u8 (Rp.bt s k)) w':=fun w'=>Rp.lO s k hlt w'
   have hb:=Rp.iW s k;have HO:Hid (bits .or .u64 (rd s k) (IntKind.u64.wrap (Rp.bt s k*2 ^ (8*k)))=rd s (k+1)):=zql s k uo;have hb0:=hb.1;have hb1:Rp.bt s k<18446744073709551616:=uo
   obtain⟨x,hx⟩:∃ x,Rp.bt s k=x:=⟨_,rfl⟩;obtain⟨y,hy⟩:∃ y,rd s k=y:=⟨_,rfl⟩;rw[hx] at hi8 HO hb0 hb1;rw[hy] at HO ⊢;clear hb hx hy;go_wp2_with fail;refine⟨⟨k+1,n,by omega,by rw[HO.o],rfl,rfl⟩,?_⟩;simp only[Rp.bu];omega
  ·have q1:¬(k:Int)<(s.size:Int):=uo
   obtain rfl:k=s.size:=uo
   clear hlt hk hs;go_wp2_with fail;go_ret;exact⟨rfl,n,rfl⟩
theorem pA (s:ByteArray) (h:s.size=24) (a b:Nat) (hab:a≤b) (hb:b≤24) (w:World):(Instr.sliceAt 9 (.string s) (some (.int .i64 (a:Int))) (some (.int .i64 (b:Int))) none).run Tryz.prog w=.ok (.string (s.extract a b)) w:=by
 simp[Instr.sliceAt,Instr.slice,run_underlying Tryz.underlying9,go_sem,h];rw[if_pos uo,if_pos uo]
theorem tZ {fn:Func} {p u:Tmp} (h:fn.results=#[.cell p 173,.tmp u]) (tmps:Array Value) (w:World) (g:Nat) (k:Hd) {t:TypeId} {fr:Nat × Nat}
  (hp:tmps.getD p undef=.pointer (some ⟨g,0,none⟩)) (hg:w.heap[g]? =some (.cells #[.int .u32 k.1,.int .u32 k.2.1,.int .u32 k.2.2.1,.int .u64 k.2.2.2] t fr)):(results fn tmps).run Tryz.prog w=.ok (.tuple #[hv k,tmps.getD u undef]) w:=by
 rw[results_cell_tmp h,hp];simp[asAddr,run_loadVar_row w g t 173 _ fr _ hg Tryz.underlying173 rfl uk,hv]
theorem sS {w:World} {g:Nat} {x y z u:Value} {T:TypeId} (h:w.heap[g]? =some (.cells #[x,y,z,u] T (0,0))) (a b c d:Value):
  ((((w.setCell ⟨g,0,none⟩ a).setCell ⟨g,1,none⟩ b).setCell ⟨g,2,none⟩ c).setCell ⟨g,3,none⟩ d).heap[g]? =some (.cells #[a,b,c,d] T (0,0))∧Below g w ((((w.setCell ⟨g,0,none⟩ a).setCell ⟨g,1,none⟩ b).setCell ⟨g,2,none⟩ c).setCell ⟨g,3,none⟩ d):=by
 have h1:=Rp.gu w g 0 _ _ _ a h;have h2:=Rp.gu _ g 1 _ _ _ b h1;have h3:=Rp.gu _ g 2 _ _ _ c h2;have h4:=Rp.gu _ g 3 _ _ _ d h3;exact⟨h4,((((Below.refl g w).setCell (p:=⟨g,0,none⟩) zn a).setCell (p:=⟨g,1,none⟩) zn b).setCell (p:=⟨g,2,none⟩) zn c).setCell (p:=⟨g,3,none⟩) zn d⟩
theorem zii {B:Nat} {a w:World} (h:Below B a w) (n:Nat):Below B a (w.drewN n):=⟨h.os,h.tape,h.output,h.size,h.block⟩
def GW (w:World) (a b c d:Int) (W:World):Prop:=
 W.heap[w.heap.size]? =some (.cells #[.int .u32 0,.int .u32 0,.int .u32 0,.int .u64 0] 173 (0,0))∧W.heap[w.heap.size+1]? =some (.cells #[.int .u32 a,.int .u32 b,.int .u32 c,.int .u64 d] 173 (0,0))∧Below w.heap.size w W
theorem qh (w:World) (a b c d:Int) (k:Nat):GW w a b c d (((w.alloc (.cells #[.int .u32 0,.int .u32 0,.int .u32 0,.int .u64 0] 173)).drewN k).alloc (.cells #[.int .u32 a,.int .u32 b,.int .u32 c,.int .u64 d] 173)):=by
 have h:=Rp.fJ w (.cells #[.int .u32 0,.int .u32 0,.int .u32 0,.int .u64 0] 173) (.cells #[.int .u32 a,.int .u32 b,.int .u32 c,.int .u64 d] 173);exact⟨h.1,h.2.1,(zii ((Below.refl _ w).alloc zn _) k).alloc (by show _≤(w.alloc _).heap.size;simp) _⟩
theorem zoS (w:World):GW w 0 0 0 0 ((w.alloc (.cells #[.int .u32 0,.int .u32 0,.int .u32 0,.int .u64 0] 173)).alloc (.cells #[.int .u32 0,.int .u32 0,.int .u32 0,.int .u64 0] 173)):=Rp.fJ w _ _
theorem ql {w W:World} (h:GW w 0 0 0 0 W) (a b c d:Int):GW w a b c d ((((W.setCell ⟨w.heap.size+1,0,none⟩ (.int .u32 a)).setCell ⟨w.heap.size+1,1,none⟩ (.int .u32 b)).setCell ⟨w.heap.size+1,2,none⟩ (.int .u32 c)).setCell ⟨w.heap.size+1,3,none⟩ (.int .u64 d)):=by
 obtain⟨h1,h2⟩:=sS h.2.1 (.int .u32 a) (.int .u32 b) (.int .u32 c) (.int .u64 d);exact⟨(h2.block _ uo).trans h.1,h1,h.2.2.trans (h2.mono uo)⟩
theorem qn {w W:World} {a b c d:Int} (h:GW w a b c d W) (n:Nat):GW w a b c d (W.drewN n):=⟨h.1,h.2.1,zii h.2.2 n⟩
theorem zoT (s:ByteArray) (w:World):
  Calls Tryz.prog 234 #[.string s] w fun e w'=>e=.returned (.tuple #[hv (gv s),.bool (gk s)])∧Below w.heap.size w w':=by
 by_cases hs:s.size=24
 ·have q:(s.size:Int)=24:=uo
  have HS:Hid (s.size=24):=hs;have x0:∀ w,(Instr.sliceAt 9 (.string s) (some (.int .i64 0)) (some (.int .i64 4)) none).run Tryz.prog w=.ok (.string (s.extract 0 4)) w:=pA s hs 0 4 uo uo;have x1:∀ w,(Instr.sliceAt 9 (.string s) (some (.int .i64 4)) (some (.int .i64 8)) none).run Tryz.prog w=.ok (.string (s.extract 4 8)) w:=pA s hs 4 8 uo uo;have x2:∀ w,(Instr.sliceAt 9 (.string s) (some (.int .i64 8)) (some (.int .i64 12)) none).run Tryz.prog w=.ok (.string (s.extract 8 12)) w:=pA s hs 8 12 uo uo;have x3:∀ w,(Instr.sliceAt 9 (.string s) (some (.int .i64 12)) (some (.int .i64 20)) none).run Tryz.prog w=.ok (.string (s.extract 12 20)) w:=pA s hs 12 20 uo uo
  have HR:Hid (∀ t:ByteArray,∀ a b:Nat,t=s.extract a b→a≤b→b≤24→b≤a+8→∀ V,Calls Tryz.prog 259 #[.string t] V fun e w'=>e=.returned (.int .u64 (rd t (b - a)))∧∃ n,w'=V.drewN n):=fun t a b ht h1 h2 h3 V=>by
   have hz:t.size=b - a:=by rw[ht,Rp.ext_size];omega
   have:=oJ t uo V;rw[hz] at this;exact this
  obtain⟨t0,ht0⟩:∃ t,s.extract 0 4=t:=⟨_,rfl⟩;obtain⟨t1,ht1⟩:∃ t,s.extract 4 8=t:=⟨_,rfl⟩;obtain⟨t2,ht2⟩:∃ t,s.extract 8 12=t:=⟨_,rfl⟩;obtain⟨t3,ht3⟩:∃ t,s.extract 12 20=t:=⟨_,rfl⟩;have R0:Hid (∀ V,Calls Tryz.prog 259 #[.string t0] V fun e w'=>e=.returned (.int .u64 (rd t0 4))∧∃ n,w'=V.drewN n):=HR.o t0 0 4 ht0.symm uo uo uo;have R1:Hid (∀ V,Calls Tryz.prog 259 #[.string t1] V fun e w'=>e=.returned (.int .u64 (rd t1 4))∧∃ n,w'=V.drewN n):=HR.o t1 4 8 ht1.symm uo uo uo;have R2:Hid (∀ V,Calls Tryz.prog 259 #[.string t2] V fun e w'=>e=.returned (.int .u64 (rd t2 4))∧∃ n,w'=V.drewN n):=HR.o t2 8 12 ht2.symm uo uo uo;have R3:Hid (∀ V,Calls Tryz.prog 259 #[.string t3] V fun e w'=>e=.returned (.int .u64 (rd t3 8))∧∃ n,w'=V.drewN n):=HR.o t3 12 20 ht3.symm uo uo uo;have HH:Hid (ei s=(rd t0 4,rd t1 4,rd t2 4,rd t3 8)):=by refine(?_:ei s=(rd t0 4,rd t1 4,rd t2 4,rd t3 8));unfold ei;rw[ht0,ht1,ht2,ht3]
  obtain⟨a,ha⟩:∃ x,rd t0 4=x:=⟨_,rfl⟩;obtain⟨b,hb⟩:∃ x,rd t1 4=x:=⟨_,rfl⟩;obtain⟨c,hc⟩:∃ x,rd t2 4=x:=⟨_,rfl⟩;obtain⟨d,hd⟩:∃ x,rd t3 8=x:=⟨_,rfl⟩;have a2:0≤a∧a<4294967296:=by rw[←ha];exact lK t0 4
  have b2:0≤b∧b<4294967296:=by rw[←hb];exact lK t1 4
  have c2:0≤c∧c<4294967296:=by rw[←hc];exact lK t2 4
  have d2:0≤d∧d<18446744073709551616:=by rw[←hd];exact lK t3 8
  rw[ha] at R0;rw[hb] at R1;rw[hc] at R2;rw[hd] at R3;rw[ha,hb,hc,hd] at HH;rw[ht0] at x0;rw[ht1] at x1;rw[ht2] at x2;rw[ht3] at x3;obtain⟨a0,a1⟩:=a2;obtain⟨b0,b1⟩:=b2;obtain⟨c0,c1⟩:=c2;obtain⟨d0,d1⟩:=d2;have wa:IntKind.u32.wrap a=a:=by rw[IntKind.wrap_u32]<;>omega
  have wb:IntKind.u32.wrap b=b:=by rw[IntKind.wrap_u32]<;>omega
  have wc:IntKind.u32.wrap c=c:=by rw[IntKind.wrap_u32]<;>omega
  have FT:Hid (fits (a,b,c,d)):=⟨⟨a0,a1⟩,⟨b0,b1⟩,⟨c0,c1⟩,d0,d1⟩;have HP:Hid (cD (a,b,c,d)=cD (ei s)):=by refine(?_:cD (a,b,c,d)=cD (ei s));rw[HH.o]
  clear ht0 ht1 ht2 ht3 ha hb hc hd HR a0 a1 b0 b1 c0 c1 d0 d1;clear hs;go_enter Tryz.func234,Tryz.ntmps234;go_wp2_with fail
  rename_i Q0 K0 hK0
  have TAIL:Hid (∀ W:World,GW w a b c d W→Exit.then K0 Q0 .normal { defers:=[],tmps:=#[Value.string s,undef,Value.pointer (some ⟨w.heap.size,0,none⟩),Value.bool false,
     Value.pointer (some ⟨w.heap.size+1,0,none⟩),Value.string s,Value.int IntKind.i64 24,
     Value.bool false,undef,Value.string s,Value.string t0,Value.int IntKind.u64 a,Value.int IntKind.u32 a,
     Value.string s,Value.string t1,Value.int IntKind.u64 b,Value.int IntKind.u32 b,Value.string s,
     Value.string t2,Value.int IntKind.u64 c,Value.int IntKind.u32 c,Value.string s,Value.string t3,
     Value.int IntKind.u64 d,Value.agg #[Value.int IntKind.u32 a,Value.int IntKind.u32 b,Value.int IntKind.u32 c,Value.int IntKind.u64 d],
     undef,undef,undef,undef,undef,undef] } W):=by
   refine(?_:∀ W:World,GW w a b c d W→Exit.then K0 Q0 .normal _ W);rintro W ⟨hz,hx,hb⟩;have HZ:Hid (W.heap[w.heap.size]? =some (.cells #[.int .u32 0,.int .u32 0,.int .u32 0,.int .u64 0] 173 (0,0))):=hz;have HX:Hid (W.heap[w.heap.size+1]? =some (.cells #[.int .u32 a,.int .u32 b,.int .u32 c,.int .u64 d] 173 (0,0))):=hx;have HB:Hid (Below w.heap.size w W):=hb;clear hz hx hb x0 x1 x2 x3 R0 R1 R2 R3
   go_wp2_with (refine wpList_load_row rfl 173 _ rfl (w.heap.size+1) rfl 173 _ (0,0) _ HX.o Tryz.underlying173 rfl uk ?_)
   refine um (nw (a,b,c,d) FT.o W) fun W2 b2=>?_;have HZ2:Hid _:=(b2.block _ (zi HZ.o).1).trans HZ.o;have HX2:Hid _:=(b2.block _ (zi HX.o).1).trans HX.o;have HB2:Hid (Below w.heap.size w W2):=HB.o.trans (b2.mono HB.o.size);clear b2 HZ HX HB;rw[HP.o];have HG:Hid (gk s=decide (cD (ei s)=s)):=by refine(?_:gk s=decide (cD (ei s)=s));unfold gk;rw[HS.o];simp
   by_cases hp:cD (ei s)=s
   ·have HV:Hid (gk s=true∧gv s=(a,b,c,d)):=by
     refine(?_:gk s=true∧gv s=(a,b,c,d));have e:gk s=true:=by rw[HG.o];simp[hp]
     exact⟨e,by unfold gv;rw[if_pos e,HH.o]⟩
    rw[hp];clear hp HG HP
    go_wp2_with (first|(refine wpList_load_row rfl 173 _ rfl (w.heap.size+1) rfl 173 _ (0,0) _ HX2.o Tryz.underlying173 rfl uk ?_)|(refine wpList_store_row rfl 173 _ _ rfl w.heap.size _ rfl rfl 173 _ HZ2.o uk rfl (by simp[Value.oneCell']) ?_))
    refine bodyPost_ret (tZ rfl _ _ w.heap.size (a,b,c,d) rfl (setRow_heap _ _ _ _ _ _ HZ2.o)) rfl ?_;exact⟨by rw[HV.o.1,HV.o.2];rfl,below_setRow HB2.o zn _⟩
   ·have HV:Hid (gk s=false∧gv s=zh):=by
     refine(?_:gk s=false∧gv s=zh);have e:gk s=false:=by rw[HG.o];simp[hp]
     exact⟨e,by unfold gv;rw[if_neg (by rw[e];decide)]⟩
    have q3:((cD (ei s)).toList==s.toList)=false:=by rw[Rp.nM];exact decide_eq_false hp
    obtain⟨y,hy⟩:∃ y,cD (ei s)=y:=⟨_,rfl⟩;rw[hy] at hp q3 ⊢;clear hy HG HP
    go_wp2_with (refine wpList_store_row rfl 173 _ _ rfl w.heap.size _ rfl rfl 173 _ HZ2.o uk rfl (by simp[Value.oneCell']) ?_)
    refine bodyPost_ret (tZ rfl _ _ w.heap.size zh rfl (setRow_heap _ _ _ _ _ _ HZ2.o)) rfl ?_;exact⟨by rw[HV.o.1,HV.o.2];rfl,below_setRow HB2.o zn _⟩
  refine wp_region_any uk ?_;change wpAny _ _ _ _ _ _ _ (World.drew _);refine bB [0,1,4,5,8,9,12,13] ?_
  iterate 8
   refine fS (v:=?_) rfl ?_ ?_;rotate_left
   ·intro w;go_simp;try with_reducible rfl
   conv in(Act.put _ _ _)=>simp only[bH,bI,bJ,Act.put,bK,bL,bM]
  refine bA ?_;refine wpAny_ready (rs:=[2,16]) uk us ?_;refine(AllReady.cons rfl (fun K hK=>?_) (AllReady.cons rfl (fun K hK=>?_) AllReady.nil))
  ·go_simp
   refine(R0.o _).mono ?_;rintro e _ ⟨rfl,n2,rfl⟩;refine hK _ _ ?_;clear hK K;refine bB [3] ?_;refine fS (v:=?_) rfl ?_ ?_;rotate_left
   ·intro w;go_simp;try with_reducible rfl
   conv in(Act.put _ _ _)=>simp only[bH,bI,bJ,Act.put,bK,bL,bM]
   refine bA ?_;refine wpAny_ready (rs:=[6,16]) uk us ?_;refine(AllReady.cons rfl (fun K hK=>?_) (AllReady.cons rfl (fun K hK=>?_) AllReady.nil))
   ·go_simp
    refine(R1.o _).mono ?_;rintro e _ ⟨rfl,n6,rfl⟩;refine hK _ _ ?_;clear hK K;refine bB [7] ?_;refine fS (v:=?_) rfl ?_ ?_;rotate_left
    ·intro w;go_simp;try with_reducible rfl
    conv in(Act.put _ _ _)=>simp only[bH,bI,bJ,Act.put,bK,bL,bM]
    refine bA ?_;refine wpAny_ready (rs:=[10,16]) uk us ?_;refine(AllReady.cons rfl (fun K hK=>?_) (AllReady.cons rfl (fun K hK=>?_) AllReady.nil))
    ·go_simp
     refine(R2.o _).mono ?_;rintro e _ ⟨rfl,n10,rfl⟩;refine hK _ _ ?_;clear hK K;refine bB [11] ?_;refine fS (v:=?_) rfl ?_ ?_;rotate_left
     ·intro w;go_simp;try with_reducible rfl
     conv in(Act.put _ _ _)=>simp only[bH,bI,bJ,Act.put,bK,bL,bM]
     refine bA ?_;refine wpAny_ready (rs:=[14,16]) uk us ?_;refine(AllReady.cons rfl (fun K hK=>?_) (AllReady.cons rfl (fun K hK=>?_) AllReady.nil))
     ·go_simp
      refine(R3.o _).mono ?_;rintro e _ ⟨rfl,n14,rfl⟩;refine hK _ _ ?_;clear hK K;refine bB [15] ?_;refine fS (v:=?_) rfl ?_ ?_;rotate_left
      ·intro w;go_simp;try with_reducible rfl
      conv in(Act.put _ _ _)=>simp only[bH,bI,bJ,Act.put,bK,bL,bM]
      refine bA ?_;refine wpAny_ready (rs:=[16]) uk us ?_;refine(AllReady.cons rfl (fun K hK=>?_) AllReady.nil);go_simp;refine hK _ _ ?_;clear hK K;refine wpAny_ready (rs:=[17]) uk us ?_;refine(AllReady.cons rfl (fun K hK=>?_) AllReady.nil);go_simp;refine hK _ _ ?_;clear hK K;refine wpAny_done uk ?_ _;exact TAIL.o _ (qh w a b c d _)
     ·go_simp
      refine hK _ _ ?_;clear hK K;refine wpAny_ready (rs:=[14]) uk us ?_;refine(AllReady.cons rfl (fun K hK=>?_) AllReady.nil);go_simp;refine(R3.o _).mono ?_;rintro e _ ⟨rfl,n14,rfl⟩;refine hK _ _ ?_;clear hK K;refine bB [15] ?_;refine fS (v:=?_) rfl ?_ ?_;rotate_left
      ·intro w;go_simp;try with_reducible rfl
      conv in(Act.put _ _ _)=>simp only[bH,bI,bJ,Act.put,bK,bL,bM]
      refine bA ?_;refine wpAny_ready (rs:=[17]) uk us ?_;refine(AllReady.cons rfl (fun K hK=>?_) AllReady.nil);go_simp;refine hK _ _ ?_;clear hK K;refine wpAny_done uk ?_ _;exact TAIL.o _ (ql (qn (qh w 0 0 0 0 _) _) a b c d)
    ·go_simp
     refine hK _ _ ?_;clear hK K;refine wpAny_ready (rs:=[10]) uk us ?_;refine(AllReady.cons rfl (fun K hK=>?_) AllReady.nil);go_simp;refine(R2.o _).mono ?_;rintro e _ ⟨rfl,n10,rfl⟩;refine hK _ _ ?_;clear hK K;refine bB [11] ?_;refine fS (v:=?_) rfl ?_ ?_;rotate_left
     ·intro w;go_simp;try with_reducible rfl
     conv in(Act.put _ _ _)=>simp only[bH,bI,bJ,Act.put,bK,bL,bM]
     refine bA ?_;refine wpAny_ready (rs:=[14]) uk us ?_;refine(AllReady.cons rfl (fun K hK=>?_) AllReady.nil);go_simp;refine(R3.o _).mono ?_;rintro e _ ⟨rfl,n14,rfl⟩;refine hK _ _ ?_;clear hK K;refine bB [15] ?_;refine fS (v:=?_) rfl ?_ ?_;rotate_left
     ·intro w;go_simp;try with_reducible rfl
     conv in(Act.put _ _ _)=>simp only[bH,bI,bJ,Act.put,bK,bL,bM]
     refine bA ?_;refine wpAny_ready (rs:=[17]) uk us ?_;refine(AllReady.cons rfl (fun K hK=>?_) AllReady.nil);go_simp;refine hK _ _ ?_;clear hK K;refine wpAny_done uk ?_ _;exact TAIL.o _ (ql (qn (qh w 0 0 0 0 _) _) a b c d)
   ·go_simp
    refine hK _ _ ?_;clear hK K;refine wpAny_ready (rs:=[6]) uk us ?_;refine(AllReady.cons rfl (fun K hK=>?_) AllReady.nil);go_simp;refine(R1.o _).mono ?_;rintro e _ ⟨rfl,n6,rfl⟩;refine hK _ _ ?_;clear hK K;refine bB [7] ?_;refine fS (v:=?_) rfl ?_ ?_;rotate_left
    ·intro w;go_simp;try with_reducible rfl
    conv in(Act.put _ _ _)=>simp only[bH,bI,bJ,Act.put,bK,bL,bM]
    refine bA ?_;refine wpAny_ready (rs:=[10]) uk us ?_;refine(AllReady.cons rfl (fun K hK=>?_) AllReady.nil);go_simp;refine(R2.o _).mono ?_;rintro e _ ⟨rfl,n10,rfl⟩;refine hK _ _ ?_;clear hK K;refine bB [11] ?_;refine fS (v:=?_) rfl ?_ ?_;rotate_left
    ·intro w;go_simp;try with_reducible rfl
    conv in(Act.put _ _ _)=>simp only[bH,bI,bJ,Act.put,bK,bL,bM]
    refine bA ?_;refine wpAny_ready (rs:=[14]) uk us ?_;refine(AllReady.cons rfl (fun K hK=>?_) AllReady.nil);go_simp;refine(R3.o _).mono ?_;rintro e _ ⟨rfl,n14,rfl⟩;refine hK _ _ ?_;clear hK K;refine bB [15] ?_;refine fS (v:=?_) rfl ?_ ?_;rotate_left
    ·intro w;go_simp;try with_reducible rfl
    conv in(Act.put _ _ _)=>simp only[bH,bI,bJ,Act.put,bK,bL,bM]
    refine bA ?_;refine wpAny_ready (rs:=[17]) uk us ?_;refine(AllReady.cons rfl (fun K hK=>?_) AllReady.nil);go_simp;refine hK _ _ ?_;clear hK K;refine wpAny_done uk ?_ _;exact TAIL.o _ (ql (qn (qh w 0 0 0 0 _) _) a b c d)
  ·go_simp
   refine hK _ _ ?_;clear hK K;refine wpAny_ready (rs:=[2]) uk us ?_;refine(AllReady.cons rfl (fun K hK=>?_) AllReady.nil);go_simp;refine(R0.o _).mono ?_;rintro e _ ⟨rfl,n2,rfl⟩;refine hK _ _ ?_;clear hK K;refine bB [3] ?_;refine fS (v:=?_) rfl ?_ ?_;rotate_left
   ·intro w;go_simp;try with_reducible rfl
   conv in(Act.put _ _ _)=>simp only[bH,bI,bJ,Act.put,bK,bL,bM]
   refine bA ?_;refine wpAny_ready (rs:=[6]) uk us ?_;refine(AllReady.cons rfl (fun K hK=>?_) AllReady.nil);go_simp;refine(R1.o _).mono ?_;rintro e _ ⟨rfl,n6,rfl⟩;refine hK _ _ ?_;clear hK K;refine bB [7] ?_;refine fS (v:=?_) rfl ?_ ?_;rotate_left
   ·intro w;go_simp;try with_reducible rfl
   conv in(Act.put _ _ _)=>simp only[bH,bI,bJ,Act.put,bK,bL,bM]
   refine bA ?_;refine wpAny_ready (rs:=[10]) uk us ?_;refine(AllReady.cons rfl (fun K hK=>?_) AllReady.nil);go_simp;refine(R2.o _).mono ?_;rintro e _ ⟨rfl,n10,rfl⟩;refine hK _ _ ?_;clear hK K;refine bB [11] ?_;refine fS (v:=?_) rfl ?_ ?_;rotate_left
   ·intro w;go_simp;try with_reducible rfl
   conv in(Act.put _ _ _)=>simp only[bH,bI,bJ,Act.put,bK,bL,bM]
   refine bA ?_;refine wpAny_ready (rs:=[14]) uk us ?_;refine(AllReady.cons rfl (fun K hK=>?_) AllReady.nil);go_simp;refine(R3.o _).mono ?_;rintro e _ ⟨rfl,n14,rfl⟩;refine hK _ _ ?_;clear hK K;refine bB [15] ?_;refine fS (v:=?_) rfl ?_ ?_;rotate_left
   ·intro w;go_simp;try with_reducible rfl
   conv in(Act.put _ _ _)=>simp only[bH,bI,bJ,Act.put,bK,bL,bM]
   refine bA ?_;refine wpAny_ready (rs:=[17]) uk us ?_;refine(AllReady.cons rfl (fun K hK=>?_) AllReady.nil);go_simp;refine hK _ _ ?_;clear hK K;refine wpAny_done uk ?_ _;exact TAIL.o _ (ql (qn (zoS w) _) a b c d)
 ·have q:((s.size:Int) !=24)=true:=by simp;omega
  have HV:Hid (gv s=zh∧gk s=false):=by
   refine(?_:gv s=zh∧gk s=false);simp[gv,gk,hs]
  clear hs;go_enter Tryz.func234,Tryz.ntmps234;go_wp2_with fail;refine bodyPost_ret (tZ rfl _ _ w.heap.size zh rfl (zq w _)) rfl ?_;exact⟨by rw[HV.o.1,HV.o.2];rfl,(Below.refl _ w).alloc zn _⟩
end Rs
end Go.Proofs.YtokfnghckpgjmaaGreatDoor
