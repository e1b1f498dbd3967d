/- A generation in four bytes; a key's subkeys. -/
import Derived.Test.YtokfnghckpgjmaaGreatDoorPPo
import Derived.Test.YtokfnghckpgjmaaGreatDoorPPk
import Derived.Test.YtokfnghckpgjmaaGreatDoorQKA
import Derived.Deep.SlicePairs
import Derived.OpenShut
import Derived.Test.YtokfnghckpgjmaaGreatDoorQUg
set_option maxRecDepth 100000
set_option maxHeartbeats 2000000
namespace Go.Proofs.YtokfnghckpgjmaaGreatDoor
namespace Rk
open Go.RowKit Go.Lib
def gB (g:Int):ByteArray:=strOfNums [g%256,g/256%256,g/65536%256,g/16777216%256]
theorem zk5 (g:Int):(gB g).size=4:=by unfold gB;rw[strOfNums_size];rfl
theorem rj (w:World) (x y z u:Int):(convert 140 9 (.slice (some ⟨w.heap.size,0,none⟩) 4 4)).run Tryz.prog (w.alloc (.cells #[.int .u8 x,.int .u8 y,.int .u8 z,.int .u8 u] 5))=.ok (.string (strOfNums [x,y,z,u])) (w.alloc (.cells #[.int .u8 x,.int .u8 y,.int .u8 z,.int .u8 u] 5)):=by
 refine run_convert_bytes_arg _ 140 5 Tryz.underlying140 Tryz.underlying5 w.heap.size 0 4 4 [x,y,z,u] rfl (fun i hi=>?_) 9 Tryz.underlying9;rw[Nat.zero_add,zr (zq w _)]
 match i,hi with
 |0,_=>rfl
 |1,_=>rfl
 |2,_=>rfl
 |3,_=>rfl
theorem tV (g:Int) (w:World):
  Calls Tryz.prog 240 #[.int .u32 g] w fun e w'=>e=.returned (.string (gB g))∧Below w.heap.size w w':=by
 have hf:=rj w (g%256) (g/256%256) (g/65536%256) (g/16777216%256);go_enter Tryz.func240,Tryz.ntmps240;go_wp2_with fail;go_ret;exact⟨rfl,bF w _⟩
def fm (Kt:Nat→Int) (k:Ky) (use:ByteArray):ByteArray:=xS Kt k.2 (use++gB k.1) 32
theorem zgf (Kt:Nat→Int) (k:Ky) (use:ByteArray):(fm Kt k use).size=32:=zou _ _ _ _
theorem mx {w w':World} {g:Nat} {o:Obj} {B:Nat} (h:w.heap[g]? =some o) (hb:Below B w w') (hB:w.heap.size≤B):w'.heap[g]? =some o:=
 (hb.block _ (Nat.lt_of_lt_of_le (zi h).1 hB)).trans h
theorem zgg {w:World} {g:Nat} {x y:Value} {t:TypeId} {fr:Nat × Nat} (h:w.heap[g]? =some (.cells #[x,y] t fr)):w.cell? ⟨g,0,none⟩=some x∧w.cell? ⟨g,1,none⟩=some y:=
 ⟨by rw[zr h];rfl,by rw[zr h];rfl⟩
theorem zoR (Kt:Nat→Int) (k:Ky) (use:ByteArray) (hk:k.2.size≤1000) (hu:use.size≤100) (w:World) {tt:TypeId} {fr:Nat × Nat} (hK:w.heap[3]? =some (.cells (dH Kt) tt fr)):
  Calls Tryz.prog 212 #[kv k,.string use] w fun e w'=>e=.returned (.string (fm Kt k use))∧Below w.heap.size w w':=by
 obtain⟨g,s⟩:=k;unfold kv;have HK:Hid (w.heap[3]? =some (.cells (dH Kt) tt fr)):=hK;have HS:Hid (fm Kt (g,s) use=xS Kt s (use++gB g) 32):=rfl;have hl:(use++gB g).size≤1000000:=by rw[ByteArray.size_append,zk5];omega
 clear hK;simp only at hk;go_enter Tryz.func212,Tryz.ntmps212;go_wp2_with fail;obtain⟨w1,hw1⟩:∃ w1,w.alloc (.cells #[.int .u32 g,.string s] 142)=w1:=⟨_,rfl⟩;have B1:Hid (Below w.heap.size w w1):=by rw[←hw1];exact bF w _
 have X1:Hid (w1.heap[w.heap.size]? =some (.cells #[.int .u32 g,.string s] 142 (0,0))):=by rw[←hw1];exact zq w _
 rw[hw1];clear hw1;have HC:Hid (∀ W,Below w1.heap.size w1 W→W.cell? ⟨w.heap.size,0,none⟩=some (.int .u32 g)∧W.cell? ⟨w.heap.size,1,none⟩=some (.string s)):=fun W hB=>zgg (mx X1.o hB zn)
 refine wp_region_held (S:=fun w'=>w'.cell? ⟨w.heap.size,0,none⟩=some (.int .u32 g)∧w'.cell? ⟨w.heap.size,1,none⟩=some (.string s)) uk ?_;change wpAnyH _ _ _ _ _ _ _ _ (World.drew _);obtain⟨w2,hw2⟩:∃ w2,w1.drew=w2:=⟨_,rfl⟩;have D2:Hid (Below w1.heap.size w1 w2):=by rw[←hw2];exact(Below.refl _ _).drew
 rw[hw2];clear hw2;have HSW:Hid _:=HC.o w2 D2.o;refine bB [0,1,2,3,4] ?_
 iterate 5
  refine bS (v:=?_) rfl ?_ HSW.o ?_;rotate_left
  ·rintro w ⟨e1,e2⟩;go_simp;try with_reducible rfl
  conv in(Act.put _ _ _)=>simp only[bH,bI,bJ,Act.put,bK,bL,bM]
 refine bA ?_;refine dF 5 _ uk rfl uk (fun K hK=>?_);go_simp;refine um (tV g w2) fun w3 b3=>?_;have D3:Hid (Below w1.heap.size w1 w3):=D2.o.trans (b3.mono D2.o.size);clear b3 D2 HSW;have HSW:Hid _:=HC.o w3 D3.o;refine hK _ _ HSW.o ?_;clear hK K;have hc9:¬9223372036854775807<use.size+(gB g).size:=by rw[zk5];omega
 have HX2:Hid (Calls Tryz.prog 239 #[.string s,.string (use++gB g),.int .i64 32] w3 fun e w'=>e=.returned (.tuple #[.string (xS Kt s (use++gB g) 32),.int .i64 0])∧Below w3.heap.size w3 w'):=zi2 Kt s (use++gB g) uo hl 32 ud w3 (mx (mx HK.o B1.o zn) D3.o zn);refine bB [6] ?_;refine bS (v:=?_) rfl ?_ HSW.o ?_;rotate_left
 ·rintro w ⟨e1,e2⟩;go_simp;try with_reducible rfl
 conv in(Act.put _ _ _)=>simp only[bH,bI,bJ,Act.put,bK,bL,bM]
 refine bA ?_;refine dF 7 _ uk rfl uk (fun K hK=>?_);go_simp;refine HX2.o.mono ?_;rintro e w4 ⟨rfl,b4⟩;have D4:Hid (Below w1.heap.size w1 w4):=D3.o.trans (b4.mono D3.o.size);rw[←HS.o];clear b4 D3 HSW HX2 hl;obtain⟨r,hr⟩:∃ r,fm Kt (g,s) use=r:=⟨_,rfl⟩;have HR:Hid (fm Kt (g,s) use=r):=hr;rw[hr];clear hr HS;have HSW:Hid _:=HC.o w4 D4.o;refine hK _ _ HSW.o ?_;clear hK K;refine bB [8,9,10] ?_
 iterate 3
  refine bS (v:=?_) rfl ?_ HSW.o ?_;rotate_left
  ·rintro w ⟨e1,e2⟩;go_simp;try with_reducible rfl
  conv in(Act.put _ _ _)=>simp only[bH,bI,bJ,Act.put,bK,bL,bM]
 refine bA ?_;refine dF 11 _ uk rfl uk (fun K hK=>?_);go_simp;refine hK _ _ HSW.o ?_;clear hK K;refine dF 12 _ uk rfl uk (fun K hK=>?_);go_simp;refine hK _ _ HSW.o ?_;clear hK K;refine wpAnyH_done uk ?_ _;go_wp2_with fail;go_ret;exact⟨by rw[HR.o];rfl,B1.o.trans (D4.o.mono B1.o.size)⟩
def qf:ByteArray:=⟨#[115,101,97,108]⟩
def qg:ByteArray:=⟨#[98,105,110,100]⟩
def fC (Kt:Nat→Int) (k:Ky):ByteArray:=if cP [k]=true then fm Kt k qf else⟨#[]⟩
def fo (Kt:Nat→Int) (k:Ky):ByteArray:=if cP [k]=true then fm Kt k qg else⟨#[]⟩
def gK (k:Ky):Int:=if cP [k]=true then 0 else 40
theorem zk6 (k:Ky) (h:cP [k]=true):k.2.size=32:=((sF _ _ _).1 ((nh _).1 h).2).2.1
theorem zif (Kt:Nat→Int) (k:Ky) (w:World) {tt:TypeId} {fr:Nat × Nat} (hK:w.heap[3]? =some (.cells (dH Kt) tt fr)):
  Calls Tryz.prog 177 #[kv k] w fun e w'=>e=.returned (.tuple #[.string (fC Kt k),.string (fo Kt k),.int .i64 (gK k)])∧Below w.heap.size w w':=by
 obtain⟨g,s⟩:=k;unfold kv;have HK:Hid (w.heap[3]? =some (.cells (dH Kt) tt fr)):=hK;clear hK;go_enter Tryz.func177,Tryz.ntmps177;go_wp2_with fail;have h2:=fJ w (.cells #[.int .u32 g,.string s] 142) (.cells #[.int .u32 g,.string s] 142);have e2:(w.alloc (.cells #[.int .u32 g,.string s] 142)).heap.size=w.heap.size+1:=by simp
 obtain⟨w1,hw1⟩:∃ w1,(w.alloc (.cells #[.int .u32 g,.string s] 142)).alloc (.cells #[.int .u32 g,.string s] 142)=w1:=⟨_,rfl⟩;rw[hw1] at h2 ⊢;obtain⟨x1,y1,b1⟩:=h2;have B1:Hid (Below w.heap.size w w1):=b1;have X1:Hid (w1.heap[w.heap.size]? =some (.cells #[.int .u32 g,.string s] 142 (0,0))):=x1;have R1:Hid (Ring w1 (some ⟨w.heap.size+1,0,none⟩) 1 [(g,s)]):=zh1 (k:=(g,s)) y1;clear hw1 x1 y1 b1 e2;refine um (nT [(g,s)] (some ⟨w.heap.size+1,0,none⟩) 1 w1 R1.o) fun w2 b2=>?_;have B2:Hid (Below w.heap.size w w2):=B1.o.trans (b2.mono B1.o.size);have X2:Hid _:=mx X1.o b2 zn;clear b2 B1 X1 R1;cases hR:cP [(g,s)]
 ·have HV:Hid (fC Kt (g,s)=⟨#[]⟩∧fo Kt (g,s)=⟨#[]⟩∧gK (g,s)=40):=by
   refine(?_:fC Kt (g,s)=⟨#[]⟩∧fo Kt (g,s)=⟨#[]⟩∧gK (g,s)=40);simp[fC,fo,gK,hR]
  clear hR;go_wp2_with fail;refine bodyPost_ret (results_tmp3 rfl _ _ _) rfl ?_;exact⟨by rw[HV.o.1,HV.o.2.1,HV.o.2.2];rfl,B2.o⟩
 ·have HV:Hid (fC Kt (g,s)=fm Kt (g,s) qf∧fo Kt (g,s)=fm Kt (g,s) qg∧gK (g,s)=0):=by
   refine(?_:fC Kt (g,s)=fm Kt (g,s) qf∧fo Kt (g,s)=fm Kt (g,s) qg∧gK (g,s)=0);simp[fC,fo,gK,hR]
  have h32:s.size=32:=zk6 (g,s) hR;clear hR;go_wp2_with fail;have HC:Hid (∀ W,Below w2.heap.size w2 W→W.cell? ⟨w.heap.size,0,none⟩=some (.int .u32 g)∧W.cell? ⟨w.heap.size,1,none⟩=some (.string s)):=fun W hB=>zgg (mx X2.o hB zn)
  have HT:Hid (∀ (u:ByteArray),u.size≤100→∀ W,Below w2.heap.size w2 W→Calls Tryz.prog 212 #[.agg #[.int .u32 g,.string s],.string u] W fun e w'=>e=.returned (.string (fm Kt (g,s) u))∧Below W.heap.size W w'):=fun u hu W hB=>
   zoR Kt (g,s) u (by simp only;omega) hu W (mx (mx HK.o B2.o zn) hB zn)
  refine wp_region_held (S:=fun w'=>w'.cell? ⟨w.heap.size,0,none⟩=some (.int .u32 g)∧w'.cell? ⟨w.heap.size,1,none⟩=some (.string s)) uk ?_;change wpAnyH _ _ _ _ _ _ _ _ (World.drew _);obtain⟨w3,hw3⟩:∃ w3,w2.drew=w3:=⟨_,rfl⟩;have D3:Hid (Below w2.heap.size w2 w3):=by rw[←hw3];exact(Below.refl _ _).drew
  rw[hw3];clear hw3;have HSW:Hid _:=HC.o w3 D3.o;refine bB [0,2] ?_
  iterate 2
   refine bS (v:=?_) rfl ?_ HSW.o ?_;rotate_left
   ·rintro w ⟨e1,e2⟩;go_simp;try with_reducible rfl
   conv in(Act.put _ _ _)=>simp only[bH,bI,bJ,Act.put,bK,bL,bM]
  refine bA ?_;refine dF 1 _ uk rfl uk (fun K hK=>?_);go_simp;refine um (HT.o qf ud w3 D3.o) fun w4 b4=>?_;have D4:Hid (Below w2.heap.size w2 w4):=D3.o.trans (b4.mono D3.o.size);rw[←HV.o.1];clear b4 D3 HSW;have HSW:Hid _:=HC.o w4 D4.o;refine hK _ _ HSW.o ?_;clear hK K;refine dF 3 _ uk rfl uk (fun K hK=>?_);go_simp;refine um (HT.o qg ud w4 D4.o) fun w5 b5=>?_;have D5:Hid (Below w2.heap.size w2 w5):=D4.o.trans (b5.mono D4.o.size);rw[←HV.o.2.1];clear b5 D4 HSW;have HSW:Hid _:=HC.o w5 D5.o;refine hK _ _ HSW.o ?_;clear hK K;refine dF 4 _ uk rfl uk (fun K hK=>?_);go_simp;refine hK _ _ HSW.o ?_;clear hK K;refine dF 5 _ uk rfl uk (fun K hK=>?_);go_simp;refine hK _ _ HSW.o ?_;clear hK K;refine dF 6 _ uk rfl uk (fun K hK=>?_)
  go_simp;refine hK _ _ HSW.o ?_;clear hK K;refine wpAnyH_done uk ?_ _;go_wp2_with fail;refine bodyPost_ret (results_tmp3 rfl _ _ _) rfl ?_;exact⟨by rw[HV.o.2.2];rfl,B2.o.trans (D5.o.mono B2.o.size)⟩
end Rk
end Go.Proofs.YtokfnghckpgjmaaGreatDoor
