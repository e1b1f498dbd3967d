/- A generation in four bytes; a key's subkeys. -/
import Derived.Test.YtokfnghckpgjmaaGreatDoorQKA
import Derived.Deep.SlicePairs
import Derived.OpenShut
import Derived.Test.YtokfnghckpgjmaaGreatDoorQUg
set_option maxRecDepth 100000
set_option maxHeartbeats 2000000
namespace Go.Proofs.YtokfnghckpgjmaaGreatDoor
namespace Rk
open Go.RowKit Go.Lib
def gB (g:Int):ByteArray:=strOfNums [g%256,g/256%256,g/65536%256,g/16777216%256]
theorem zk5 (g:Int):(gB g).size=4:=by unfold gB;rw[strOfNums_size];rfl
theorem zff (w:World) (x y z u:Int):(convert 140 9 (.slice (some ⟨w.heap.size,0,none⟩) 4 4)).run Tryz.prog (w.alloc (.cells #[.int .u8 x,.int .u8 y,.int .u8 z,.int .u8 u] 5))=.ok (.string (strOfNums [x,y,z,u])) (w.alloc (.cells #[.int .u8 x,.int .u8 y,.int .u8 z,.int .u8 u] 5)):=by
 refine run_convert_bytes_arg _ 140 5 Tryz.underlying140 Tryz.underlying5 w.heap.size 0 4 4 [x,y,z,u] rfl (fun i hi=>?_) 9 Tryz.underlying9;rw[Nat.zero_add,zr (zq w _)]
 match i,hi with
 |0,_=>rfl
 |1,_=>rfl
 |2,_=>rfl
 |3,_=>rfl
theorem zbR (g:Int) (w:World):
  Calls Tryz.prog 240 #[.int .u32 g] w fun e w'=>e=.returned (.string (gB g))∧Below w.heap.size w w':=by
 have hf:=zff w (g%256) (g/256%256) (g/65536%256) (g/16777216%256);go_enter Tryz.func240,Tryz.ntmps240;go_wp2_with fail;go_ret;exact⟨rfl,zaa w _⟩
def subS (Kt:Nat→Int) (k:Ky) (use:ByteArray):ByteArray:=xS Kt k.2 (use++gB k.1) 32
theorem zgf (Kt:Nat→Int) (k:Ky) (use:ByteArray):(subS Kt k use).size=32:=zou _ _ _ _
theorem zec {w w':World} {g:Nat} {o:Obj} {B:Nat} (h:w.heap[g]? =some o) (hb:Below B w w') (hB:w.heap.size≤B):w'.heap[g]? =some o:=
 (hb.block _ (Nat.lt_of_lt_of_le (zi h).1 hB)).trans h
theorem zgg {w:World} {g:Nat} {x y:Value} {t:TypeId} {fr:Nat × Nat} (h:w.heap[g]? =some (.cells #[x,y] t fr)):w.cell? ⟨g,0,none⟩=some x∧w.cell? ⟨g,1,none⟩=some y:=
 ⟨by rw[zr h];rfl,by rw[zr h];rfl⟩
theorem zoR (Kt:Nat→Int) (k:Ky) (use:ByteArray) (hk:k.2.size≤1000) (hu:use.size≤100) (w:World) {tt:TypeId} {fr:Nat × Nat} (hK:w.heap[3]? =some (.cells (w64 Kt) tt fr)):
  Calls Tryz.prog 212 #[kv k,.string use] w fun e w'=>e=.returned (.string (subS Kt k use))∧Below w.heap.size w w':=by
 obtain⟨g,s⟩:=k;unfold kv;have HK:Hid (w.heap[3]? =some (.cells (w64 Kt) tt fr)):=hK;have HS:Hid (subS Kt (g,s) use=xS Kt s (use++gB g) 32):=rfl;have hl:(use++gB g).size≤1000000:=by rw[ByteArray.size_append,zk5];omega
 clear hK;simp only at hk;go_enter Tryz.func212,Tryz.ntmps212;go_wp2_with fail;obtain⟨w1,hw1⟩:∃ w1,w.alloc (.cells #[.int .u32 g,.string s] 142)=w1:=⟨_,rfl⟩;have B1:Hid (Below w.heap.size w w1):=by rw[←hw1];exact zaa w _
 have X1:Hid (w1.heap[w.heap.size]? =some (.cells #[.int .u32 g,.string s] 142 (0,0))):=by rw[←hw1];exact zq w _
 rw[hw1];clear hw1;have HC:Hid (∀ W,Below w1.heap.size w1 W→W.cell? ⟨w.heap.size,0,none⟩=some (.int .u32 g)∧W.cell? ⟨w.heap.size,1,none⟩=some (.string s)):=fun W hB=>zgg (zec X1.out hB zn)
 refine wp_region_held (S:=fun w'=>w'.cell? ⟨w.heap.size,0,none⟩=some (.int .u32 g)∧w'.cell? ⟨w.heap.size,1,none⟩=some (.string s)) (by kernel_rfl) ?_;change wpAnyH _ _ _ _ _ _ _ _ (World.drew _);obtain⟨w2,hw2⟩:∃ w2,w1.drew=w2:=⟨_,rfl⟩;have D2:Hid (Below w1.heap.size w1 w2):=by rw[←hw2];exact(Below.refl _ _).drew
 rw[hw2];clear hw2;have HSW:Hid _:=HC.out w2 D2.out;refine plan [0,1,2,3,4] ?_
 iterate 5
  refine tkH (v:=?_) rfl ?_ HSW.out ?_;rotate_left
  ·rintro w ⟨e1,e2⟩;go_simp;try with_reducible rfl
  conv in(Act.put _ _ _)=>simp only[zL1,zL2,zL3,Act.put,zL4,zL5,zL6]
 refine plan0 ?_;refine zar 5 _ (by kernel_rfl) rfl (by kernel_rfl) (fun K hK=>?_);go_simp;refine(zbR g w2).mono ?_;rintro e w3 ⟨rfl,b3⟩;have D3:Hid (Below w1.heap.size w1 w3):=D2.out.trans (b3.mono D2.out.size);clear b3 D2 HSW;have HSW:Hid _:=HC.out w3 D3.out;refine hK _ _ HSW.out ?_;clear hK K;have hc9:¬9223372036854775807<use.size+(gB g).size:=by rw[zk5];omega
 have HX2:Hid (Calls Tryz.prog 239 #[.string s,.string (use++gB g),.int .i64 32] w3 fun e w'=>e=.returned (.tuple #[.string (xS Kt s (use++gB g) 32),.int .i64 0])∧Below w3.heap.size w3 w'):=zi2 Kt s (use++gB g) (by omega) hl 32 (by decide) w3 (zec (zec HK.out B1.out zn) D3.out zn);refine plan [6] ?_;refine tkH (v:=?_) rfl ?_ HSW.out ?_;rotate_left
 ·rintro w ⟨e1,e2⟩;go_simp;try with_reducible rfl
 conv in(Act.put _ _ _)=>simp only[zL1,zL2,zL3,Act.put,zL4,zL5,zL6]
 refine plan0 ?_;refine zar 7 _ (by kernel_rfl) rfl (by kernel_rfl) (fun K hK=>?_);go_simp;refine HX2.out.mono ?_;rintro e w4 ⟨rfl,b4⟩;have D4:Hid (Below w1.heap.size w1 w4):=D3.out.trans (b4.mono D3.out.size);rw[←HS.out];clear b4 D3 HSW HX2 hl;obtain⟨r,hr⟩:∃ r,subS Kt (g,s) use=r:=⟨_,rfl⟩;have HR:Hid (subS Kt (g,s) use=r):=hr;rw[hr];clear hr HS;have HSW:Hid _:=HC.out w4 D4.out;refine hK _ _ HSW.out ?_;clear hK K;refine plan [8,9,10] ?_
 iterate 3
  refine tkH (v:=?_) rfl ?_ HSW.out ?_;rotate_left
  ·rintro w ⟨e1,e2⟩;go_simp;try with_reducible rfl
  conv in(Act.put _ _ _)=>simp only[zL1,zL2,zL3,Act.put,zL4,zL5,zL6]
 refine plan0 ?_;refine zar 11 _ (by kernel_rfl) rfl (by kernel_rfl) (fun K hK=>?_);go_simp;refine hK _ _ HSW.out ?_;clear hK K;refine zar 12 _ (by kernel_rfl) rfl (by kernel_rfl) (fun K hK=>?_);go_simp;refine hK _ _ HSW.out ?_;clear hK K;refine wpAnyH_done (by kernel_rfl) ?_ _;go_wp2_with fail;go_ret;exact⟨by rw[HR.out];rfl,B1.out.trans (D4.out.mono B1.out.size)⟩
def zmS:ByteArray:=⟨#[115,101,97,108]⟩
def zmT:ByteArray:=⟨#[98,105,110,100]⟩
def zba (Kt:Nat→Int) (k:Ky):ByteArray:=if zaf [k]=true then subS Kt k zmS else⟨#[]⟩
def zbs (Kt:Nat→Int) (k:Ky):ByteArray:=if zaf [k]=true then subS Kt k zmT else⟨#[]⟩
def subE (k:Ky):Int:=if zaf [k]=true then 0 else 40
theorem zk6 (k:Ky) (h:zaf [k]=true):k.2.size=32:=((zdh _ _ _).1 ((zbX _).1 h).2).2.1
theorem zif (Kt:Nat→Int) (k:Ky) (w:World) {tt:TypeId} {fr:Nat × Nat} (hK:w.heap[3]? =some (.cells (w64 Kt) tt fr)):
  Calls Tryz.prog 177 #[kv k] w fun e w'=>e=.returned (.tuple #[.string (zba Kt k),.string (zbs Kt k),.int .i64 (subE k)])∧Below w.heap.size w w':=by
 obtain⟨g,s⟩:=k;unfold kv;have HK:Hid (w.heap[3]? =some (.cells (w64 Kt) tt fr)):=hK;clear hK;go_enter Tryz.func177,Tryz.ntmps177;go_wp2_with fail;have h2:=zay w (.cells #[.int .u32 g,.string s] 142) (.cells #[.int .u32 g,.string s] 142);have e2:(w.alloc (.cells #[.int .u32 g,.string s] 142)).heap.size=w.heap.size+1:=by simp
 obtain⟨w1,hw1⟩:∃ w1,(w.alloc (.cells #[.int .u32 g,.string s] 142)).alloc (.cells #[.int .u32 g,.string s] 142)=w1:=⟨_,rfl⟩;rw[hw1] at h2 ⊢;obtain⟨x1,y1,b1⟩:=h2;have B1:Hid (Below w.heap.size w w1):=b1;have X1:Hid (w1.heap[w.heap.size]? =some (.cells #[.int .u32 g,.string s] 142 (0,0))):=x1;have R1:Hid (Ring w1 (some ⟨w.heap.size+1,0,none⟩) 1 [(g,s)]):=zh1 (k:=(g,s)) y1;clear hw1 x1 y1 b1 e2;refine(zbU [(g,s)] (some ⟨w.heap.size+1,0,none⟩) 1 w1 R1.out).mono ?_;rintro e w2 ⟨rfl,b2⟩;have B2:Hid (Below w.heap.size w w2):=B1.out.trans (b2.mono B1.out.size);have X2:Hid _:=zec X1.out b2 zn;clear b2 B1 X1 R1;cases hR:zaf [(g,s)]
 ·have HV:Hid (zba Kt (g,s)=⟨#[]⟩∧zbs Kt (g,s)=⟨#[]⟩∧subE (g,s)=40):=by
   refine(?_:zba Kt (g,s)=⟨#[]⟩∧zbs Kt (g,s)=⟨#[]⟩∧subE (g,s)=40);simp[zba,zbs,subE,hR]
  clear hR;go_wp2_with fail;refine bodyPost_ret (results_tmp3 rfl _ _ _) rfl ?_;exact⟨by rw[HV.out.1,HV.out.2.1,HV.out.2.2];rfl,B2.out⟩
 ·have HV:Hid (zba Kt (g,s)=subS Kt (g,s) zmS∧zbs Kt (g,s)=subS Kt (g,s) zmT∧subE (g,s)=0):=by
   refine(?_:zba Kt (g,s)=subS Kt (g,s) zmS∧zbs Kt (g,s)=subS Kt (g,s) zmT∧subE (g,s)=0);simp[zba,zbs,subE,hR]
  have h32:s.size=32:=zk6 (g,s) hR;clear hR;go_wp2_with fail;have HC:Hid (∀ W,Below w2.heap.size w2 W→W.cell? ⟨w.heap.size,0,none⟩=some (.int .u32 g)∧W.cell? ⟨w.heap.size,1,none⟩=some (.string s)):=fun W hB=>zgg (zec X2.out hB zn)
  have HT:Hid (∀ (u:ByteArray),u.size≤100→∀ W,Below w2.heap.size w2 W→Calls Tryz.prog 212 #[.agg #[.int .u32 g,.string s],.string u] W fun e w'=>e=.returned (.string (subS Kt (g,s) u))∧Below W.heap.size W w'):=fun u hu W hB=>
   zoR Kt (g,s) u (by simp only;omega) hu W (zec (zec HK.out B2.out zn) hB zn)
  refine wp_region_held (S:=fun w'=>w'.cell? ⟨w.heap.size,0,none⟩=some (.int .u32 g)∧w'.cell? ⟨w.heap.size,1,none⟩=some (.string s)) (by kernel_rfl) ?_;change wpAnyH _ _ _ _ _ _ _ _ (World.drew _);obtain⟨w3,hw3⟩:∃ w3,w2.drew=w3:=⟨_,rfl⟩;have D3:Hid (Below w2.heap.size w2 w3):=by rw[←hw3];exact(Below.refl _ _).drew
  rw[hw3];clear hw3;have HSW:Hid _:=HC.out w3 D3.out;refine plan [0,2] ?_
  iterate 2
   refine tkH (v:=?_) rfl ?_ HSW.out ?_;rotate_left
   ·rintro w ⟨e1,e2⟩;go_simp;try with_reducible rfl
   conv in(Act.put _ _ _)=>simp only[zL1,zL2,zL3,Act.put,zL4,zL5,zL6]
  refine plan0 ?_;refine zar 1 _ (by kernel_rfl) rfl (by kernel_rfl) (fun K hK=>?_);go_simp;refine(HT.out zmS (by decide) w3 D3.out).mono ?_;rintro e w4 ⟨rfl,b4⟩;have D4:Hid (Below w2.heap.size w2 w4):=D3.out.trans (b4.mono D3.out.size);rw[←HV.out.1];clear b4 D3 HSW;have HSW:Hid _:=HC.out w4 D4.out;refine hK _ _ HSW.out ?_;clear hK K;refine zar 3 _ (by kernel_rfl) rfl (by kernel_rfl) (fun K hK=>?_);go_simp;refine(HT.out zmT (by decide) w4 D4.out).mono ?_;rintro e w5 ⟨rfl,b5⟩;have D5:Hid (Below w2.heap.size w2 w5):=D4.out.trans (b5.mono D4.out.size);rw[←HV.out.2.1];clear b5 D4 HSW;have HSW:Hid _:=HC.out w5 D5.out;refine hK _ _ HSW.out ?_;clear hK K;refine zar 4 _ (by kernel_rfl) rfl (by kernel_rfl) (fun K hK=>?_);go_simp;refine hK _ _ HSW.out ?_;clear hK K;refine zar 5 _ (by kernel_rfl) rfl (by kernel_rfl) (fun K hK=>?_);go_simp;refine hK _ _ HSW.out ?_;clear hK K;refine zar 6 _ (by kernel_rfl) rfl (by kernel_rfl) (fun K hK=>?_)
  go_simp;refine hK _ _ HSW.out ?_;clear hK K;refine wpAnyH_done (by kernel_rfl) ?_ _;go_wp2_with fail;refine bodyPost_ret (results_tmp3 rfl _ _ _) rfl ?_;exact⟨by rw[HV.out.2.2];rfl,B2.out.trans (D5.out.mono B2.out.size)⟩
end Rk
end Go.Proofs.YtokfnghckpgjmaaGreatDoor
