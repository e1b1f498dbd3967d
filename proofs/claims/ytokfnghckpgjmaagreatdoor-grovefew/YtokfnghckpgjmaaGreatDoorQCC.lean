/- The plane, the cell around a point, corners, gaps. -/
import Derived.Test.YtokfnghckpgjmaaGreatDoorPPo
import Derived.Test.YtokfnghckpgjmaaGreatDoorPPk
import Derived.Test.YtokfnghckpgjmaaGreatDoorQCA
import Derived.Test.YtokfnghckpgjmaaGreatDoorRows
import Derived.WalkKit
import Derived.Deep.RegionHeld3
import Derived.Test.YtokfnghckpgjmaaGreatDoorPPl
import Derived.Test.YtokfnghckpgjmaaGreatDoorPPm
set_option maxRecDepth 100000
set_option maxHeartbeats 2000000
namespace Go.Proofs.YtokfnghckpgjmaaGreatDoor
namespace Rc
open Go.RowKit Go.Lib
theorem bF (w:World) (o:Obj):Below w.heap.size w (w.alloc o):=(Below.refl _ w).alloc zn _
theorem pZ {x y:Nat} (h1:x<2147483648) (h2:y<2147483648):gC x y=true:=decide_eq_true ⟨h1,h2⟩
theorem ph {x y:Nat} (h:¬(x<2147483648∧y<2147483648)):gC x y=false:=decide_eq_false h
theorem nS (x y:Nat) (w:World):
  Calls Tryz.prog 188 #[.int .u32 (x:Int),.int .u32 (y:Int)] w fun e w'=>e=.returned (.bool (gC x y))∧w'=w:=by
 by_cases h1:x<2147483648
 ·by_cases h2:y<2147483648
  ·rw[pZ h1 h2]
   have q1:(x:Int)<2147483648:=uo
   have q2:(y:Int)<2147483648:=uo
   clear h1 h2;go_enter Tryz.func188,Tryz.ntmps188;go_wp2_with fail;go_ret;exact⟨rfl,rfl⟩
  ·rw[ph (fun h=>h2 h.2)]
   have q1:(x:Int)<2147483648:=uo
   have q2:¬(y:Int)<2147483648:=uo
   clear h1 h2;go_enter Tryz.func188,Tryz.ntmps188;go_wp2_with fail;go_ret;exact⟨rfl,rfl⟩
 ·rw[ph (fun h=>h1 h.1)]
  have q1:¬(x:Int)<2147483648:=uo
  clear h1;go_enter Tryz.func188,Tryz.ntmps188;go_wp2_with fail;go_ret;exact⟨rfl,rfl⟩
theorem zfF (x n:Nat) (hx:x<4294967296) (hn:n≤31):bits .andNot .u32 (x:Int) ((2 ^ n - 1)%4294967296)=(bR x n:Nat):=by
 have h:=pR hn;have hp:=Nat.two_pow_pos n
 have e:((2:Int) ^ n - 1)%4294967296=((2 ^ n - 1:Nat):Int):=by
  have:((2:Int) ^ n)=((2 ^ n:Nat):Int):=by simp
  rw[this];omega
 rw[e,u32_andNot_nat x (2 ^ n - 1) hx uo,ziD x n hx uo]
theorem pi (x y n:Nat) (hx:x<4294967296) (hy:y<4294967296) (hn:n≤31) (w:World):
  Calls Tryz.prog 189 #[.int .u32 (x:Int),.int .u32 (y:Int),.int .i64 (n:Int)] w fun e w'=>e=.returned (.agg #[.int .u32 (bR x n:Nat),.int .u32 (bR y n:Nat),.int .i64 (n:Int)])∧Below w.heap.size w w':=by
 have H1:Hid _:=zfF x n hx hn;have H2:Hid _:=zfF y n hy hn;go_enter Tryz.func189,Tryz.ntmps189;go_wp2_with fail;rw[H1.o,H2.o];exact bodyPost_ret (results_cell_row rfl _ _ w.heap.size 70 _ (0,0) _ rfl (zq w _) Tryz.underlying70 rfl uk) rfl ⟨rfl,bF _ _⟩
theorem zgN (X Y s:Nat) (L:Int) (h1:X+s<4294967296) (h2:Y+s<4294967296) (w:World):
  Calls Tryz.prog 227 #[.agg #[.int .u32 (X:Int),.int .u32 (Y:Int),.int .i64 L],.int .u32 (s:Int)] w fun e w'=>
   e=.returned (.agg #[.int .u32 (X:Int),.int .u32 (Y:Int),.int .u32 ((X+s:Nat):Int),.int .u32 (Y:Int),.int .u32 (X:Int),.int .u32 ((Y+s:Nat):Int),.int .u32 ((X+s:Nat):Int),.int .u32 ((Y+s:Nat):Int)])∧Below w.heap.size w w':=by
 have H1:Hid (((X:Int)+(s:Int))%4294967296=((X+s:Nat):Int)):=by
  refine(?_:((X:Int)+(s:Int))%4294967296=((X+s:Nat):Int));omega
 have H2:Hid (((Y:Int)+(s:Int))%4294967296=((Y+s:Nat):Int)):=by
  refine(?_:((Y:Int)+(s:Int))%4294967296=((Y+s:Nat):Int));omega
 clear h1 h2;go_enter Tryz.func227,Tryz.ntmps227;go_wp2_with fail;rw[H1.o,H2.o];exact bodyPost_ret (results_cell_row rfl _ _ (w.heap.size+1) 294 _ (0,0) _ rfl (by have:=zq (w.alloc (.cells #[.int .u32 (X:Int),.int .u32 (Y:Int),.int .i64 L] 70)) (.cells #[.int .u32 (X:Int),.int .u32 (Y:Int),.int .u32 ((X+s:Nat):Int),.int .u32 (Y:Int),.int .u32 (X:Int),.int .u32 ((Y+s:Nat):Int),.int .u32 ((X+s:Nat):Int),.int .u32 ((Y+s:Nat):Int)] 294);simpa using this) Tryz.underlying294 rfl uk) rfl ⟨rfl,(bF _ _).alloc us _⟩
abbrev cv (X Y:Nat) (L:Int):Value:=.agg #[.int .u32 (X:Int),.int .u32 (Y:Int),.int .i64 L]
theorem dF {P:Program} {f:Region.Mode} {d:Array Oper} {Q:Exit→Act→World→Prop} {S:World→Prop} {e:Nat} {b:Array Bool} {a:Act} {w:World} (k:Nat) (o:Oper) (g:Region.ready f d b=[k]) (i:d[k]? =some o)
  (l:Region.wanted o (yielded d a.tmps)=true)
  (h:∀ K:Act→World→Prop,(∀ a w,S w→wpAnyH P f d Q S e (b.setIfInBounds k true) a w→K a w)→Oper.wp P o a w K Q):wpAnyH P f d Q S (e+1) b a w:=by
 refine wpAnyH_all g us fun j m=>?_
 obtain rfl:j=k:=by simpa using m
 unfold wpOp;simp only[i,l,if_true];exact .inl (h _ fun a w n p=>⟨n,p⟩)
def el (g X Y:Nat) (L:Int) (w:World):Prop:=w.heap[g]? =some (.cells #[.int .u32 (X:Int),.int .u32 (Y:Int),.int .i64 L] 70)
def cG (g X Y:Nat) (L:Int) (w:World):Prop:=w.cell? ⟨g,0,none⟩=some (.int .u32 (X:Int))∧w.cell? ⟨g,1,none⟩=some (.int .u32 (Y:Int))∧w.cell? ⟨g,2,none⟩=some (.int .i64 L)
theorem el.cells {g X Y:Nat} {L:Int} {w:World} (h:el g X Y L w):cG g X Y L w:=
 ⟨by rw[zr h];rfl,by rw[zr h];rfl,by rw[zr h];rfl⟩
theorem cG.below {g X Y:Nat} {L:Int} {w w':World} {B:Nat} (h:cG g X Y L w) (hb:Below B w w') (hg:g<B):cG g X Y L w':=
 ⟨(World.cell?_of_block (a:=⟨g,0,none⟩) (hb.block g hg)).trans h.1,(World.cell?_of_block (a:=⟨g,1,none⟩) (hb.block g hg)).trans h.2.1,(World.cell?_of_block (a:=⟨g,2,none⟩) (hb.block g hg)).trans h.2.2⟩
theorem jy (X Y:Nat) (L:Int) (w:World):cG w.heap.size X Y L (w.alloc (.cells #[.int .u32 (X:Int),.int .u32 (Y:Int),.int .i64 L] 70)):=el.cells (zq w _)
theorem znC (a b c d:Nat) (w:World):(if(a:Int)=(c:Int) then if(b:Int)=(d:Int) then Result.ok (Next.value (Value.bool true)) w else Result.ok (Next.value (Value.bool false)) w else Result.ok (Next.value (Value.bool false)) w)=Result.ok (Next.value (Value.bool (decide (a=c∧b=d)))) w:=by
 by_cases h:a=c
 ·by_cases k:b=d
  ·simp[h,k]
  ·rw[if_pos uo,if_neg uo,decide_eq_false (fun e=>k e.2)]
 ·rw[if_neg uo,decide_eq_false (fun e=>h e.1)]
theorem nT (X Y:Nat) (L:Int) (hX:X<4294967296) (hY:Y<4294967296) (w:World):
  Calls Tryz.prog 207 #[cv X Y L] w fun e w'=>e=.returned (.bool (cP X Y L))∧Below w.heap.size w w':=by
 have hlt:w.heap.size<(w.alloc (.cells #[.int .u32 (X:Int),.int .u32 (Y:Int),.int .i64 L] 70)).drew.heap.size:=by simp
 have HB:Hid (Below w.heap.size w (w.alloc (.cells #[.int .u32 (X:Int),.int .u32 (Y:Int),.int .i64 L] 70)).drew):=(bF w _).drew;have HSW:Hid (cG w.heap.size X Y L (w.alloc (.cells #[.int .u32 (X:Int),.int .u32 (Y:Int),.int .i64 L] 70)).drew):=jy X Y L w;have HG:Hid (el w.heap.size X Y L (w.alloc (.cells #[.int .u32 (X:Int),.int .u32 (Y:Int),.int .i64 L] 70)).drew):=zq w _;by_cases h0:0≤L
 ·have q0:decide (0≤L)=true:=decide_eq_true h0
  by_cases h1:L≤31
  ·have q1:decide (L≤31)=true:=decide_eq_true h1
   cases ho:gC X Y
   ·rw[show cP X Y L=false by unfold cP;rw[decide_eq_false];unfold gC at ho;rw[decide_eq_false_iff_not] at ho;exact fun h=>ho ⟨h.2.2.1,h.2.2.2.1⟩]
    have HC:Hid _:=nS X Y;rw[ho] at HC;clear h0 h1 ho HG hX hY hlt;go_enter Tryz.func207,Tryz.ntmps207;go_wp2_with fail;refine wp_region_held (S:=cG w.heap.size X Y L) uk ?_;change wpAnyH _ _ _ _ _ _ _ _ (World.drew _);refine bB [0,1,2] ?_
    iterate 3
     refine bS (v:=?_) rfl ?_ HSW.o ?_;rotate_left
     ·rintro w ⟨e1,e2,e3⟩;go_simp;try with_reducible rfl
     conv in(Act.put _ _ _)=>simp only[bH,bI,bJ,Act.put,bK,bL,bM]
    refine bA ?_
    try rw[q0]
    refine bB [3,4,5,6] ?_
    iterate 4
     refine bS (v:=?_) rfl ?_ HSW.o ?_;rotate_left
     ·rintro w ⟨e1,e2,e3⟩;go_simp;try with_reducible rfl
     conv in(Act.put _ _ _)=>simp only[bH,bI,bJ,Act.put,bK,bL,bM]
    refine bA ?_
    try rw[q1]
    refine bB [7,8,9,10,11,12] ?_
    iterate 6
     refine bS (v:=?_) rfl ?_ HSW.o ?_;rotate_left
     ·rintro w ⟨e1,e2,e3⟩;go_simp;try with_reducible rfl
     conv in(Act.put _ _ _)=>simp only[bH,bI,bJ,Act.put,bK,bL,bM]
    refine bA ?_;refine dF 13 _ uk rfl uk (fun K hK=>?_);go_simp;refine um (HC.o _) fun w1 hw1=>?_;subst hw1;refine hK _ _ HSW.o ?_;clear hK K;refine bB [14,15] ?_
    iterate 2
     refine bS (v:=?_) rfl ?_ HSW.o ?_;rotate_left
     ·rintro w ⟨e1,e2,e3⟩;go_simp;try with_reducible rfl
     conv in(Act.put _ _ _)=>simp only[bH,bI,bJ,Act.put,bK,bL,bM]
    refine bA ?_;refine bB [16,17,18,19,20,21,22,23,24] ?_
    iterate 9
     refine gO rfl HSW.o ?_
     conv in(Act.put _ _ _)=>simp only[bH,bI,bJ,Act.put,bK,bL,bM]
    refine bA ?_;refine bB [25,26] ?_
    iterate 2
     refine bS (v:=?_) rfl ?_ HSW.o ?_;rotate_left
     ·rintro w ⟨e1,e2,e3⟩;go_simp;try with_reducible rfl
     conv in(Act.put _ _ _)=>simp only[bH,bI,bJ,Act.put,bK,bL,bM]
    refine bA ?_;refine wpAnyH_done uk ?_ _;go_wp2_with fail;go_ret;exact⟨rfl,HB.o⟩
   ·obtain⟨n,rfl⟩:=Int.eq_ofNat_of_zero_le h0
    have hR:cP X Y (n:Int)=decide (X=bR X n∧Y=bR Y n):=by
     unfold cP;unfold gC at ho
     rw[decide_eq_true_iff] at ho;rw[Int.toNat_natCast];apply decide_eq_decide.2;exact⟨fun h=>⟨h.2.2.2.2.1.symm,h.2.2.2.2.2.symm⟩,fun h=>⟨h0,h1,ho.1,ho.2,h.1.symm,h.2.symm⟩⟩
    rw[hR];obtain⟨r,hr⟩:∃ r,decide (X=bR X n∧Y=bR Y n)=r:=⟨_,rfl⟩;rw[hr];have HR:Hid (decide (X=bR X n∧Y=bR Y n)=r):=hr;have HC:Hid _:=nS X Y;rw[ho] at HC;have HA:Hid _:=pi X Y n hX hY uo;have HL:Hid _:=hlt;clear h0 h1 ho hX hY hR hlt hr;go_enter Tryz.func207,Tryz.ntmps207;go_wp2_with fail;refine wp_region_held (S:=cG w.heap.size X Y (n:Int)) uk ?_;change wpAnyH _ _ _ _ _ _ _ _ (World.drew _);refine bB [0,1,2] ?_
    iterate 3
     refine bS (v:=?_) rfl ?_ HSW.o ?_;rotate_left
     ·rintro w ⟨e1,e2,e3⟩;go_simp;try with_reducible rfl
     conv in(Act.put _ _ _)=>simp only[bH,bI,bJ,Act.put,bK,bL,bM]
    refine bA ?_
    try rw[q0]
    refine bB [3,4,5,6] ?_
    iterate 4
     refine bS (v:=?_) rfl ?_ HSW.o ?_;rotate_left
     ·rintro w ⟨e1,e2,e3⟩;go_simp;try with_reducible rfl
     conv in(Act.put _ _ _)=>simp only[bH,bI,bJ,Act.put,bK,bL,bM]
    refine bA ?_
    try rw[q1]
    refine bB [7,8,9,10,11,12] ?_
    iterate 6
     refine bS (v:=?_) rfl ?_ HSW.o ?_;rotate_left
     ·rintro w ⟨e1,e2,e3⟩;go_simp;try with_reducible rfl
     conv in(Act.put _ _ _)=>simp only[bH,bI,bJ,Act.put,bK,bL,bM]
    refine bA ?_;refine dF 13 _ uk rfl uk (fun K hK=>?_);go_simp;refine um (HC.o _) fun w1 hw1=>?_;subst hw1;refine hK _ _ HSW.o ?_;clear hK K;refine bB [14,15,16,17,18,19,20,21,22] ?_
    iterate 9
     refine bS (v:=?_) rfl ?_ HSW.o ?_;rotate_left
     ·rintro w ⟨e1,e2,e3⟩;go_simp;try with_reducible rfl
     conv in(Act.put _ _ _)=>simp only[bH,bI,bJ,Act.put,bK,bL,bM]
    refine bA ?_;refine dF 23 _ uk rfl uk (fun K hK=>?_);go_simp;refine um (HA.o _) fun w1 b1=>?_;have HB1:Hid (Below w.heap.size w w1):=HB.o.trans (b1.mono (Nat.le_of_lt HL.o))
    replace HSW:Hid (cG w.heap.size X Y (n:Int) w1):=HSW.o.below b1 HL.o
    refine hK _ _ HSW.o ?_;clear hK K b1;refine wpAnyH_take (i:=24) (v:=.bool r) rfl uk uk uk (fun _ _ _ h=>h) (Or.inl ⟨by kernel_rfl,fun w _=>?_⟩) HSW.o ?_
    ·go_simp
     exact(znC X Y _ _ w).trans (by rw[HR.o])
    conv in(Act.put _ _ _)=>simp only[bH,bI,bJ,Act.put,bK,bL,bM]
    refine bB [25,26] ?_
    iterate 2
     refine bS (v:=?_) rfl ?_ HSW.o ?_;rotate_left
     ·rintro w ⟨e1,e2,e3⟩;go_simp;try with_reducible rfl
     conv in(Act.put _ _ _)=>simp only[bH,bI,bJ,Act.put,bK,bL,bM]
    refine bA ?_;refine wpAnyH_done uk ?_ _;go_wp2_with fail;go_ret;exact⟨rfl,HB1.o⟩
  ·have q1:decide (L≤31)=false:=decide_eq_false h1
   rw[show cP X Y L=false by unfold cP;rw[decide_eq_false];exact fun h=>h1 h.2.1];clear h0 h1 HG hX hY hlt;go_enter Tryz.func207,Tryz.ntmps207;go_wp2_with fail;refine wp_region_held (S:=cG w.heap.size X Y L) uk ?_;change wpAnyH _ _ _ _ _ _ _ _ (World.drew _);refine bB [0,1,2] ?_
   iterate 3
    refine bS (v:=?_) rfl ?_ HSW.o ?_;rotate_left
    ·rintro w ⟨e1,e2,e3⟩;go_simp;try with_reducible rfl
    conv in(Act.put _ _ _)=>simp only[bH,bI,bJ,Act.put,bK,bL,bM]
   refine bA ?_
   try rw[q0]
   refine bB [3,4,5,6] ?_
   iterate 4
    refine bS (v:=?_) rfl ?_ HSW.o ?_;rotate_left
    ·rintro w ⟨e1,e2,e3⟩;go_simp;try with_reducible rfl
    conv in(Act.put _ _ _)=>simp only[bH,bI,bJ,Act.put,bK,bL,bM]
   refine bA ?_
   try rw[q1]
   refine bB [7,8] ?_
   iterate 2
    refine bS (v:=?_) rfl ?_ HSW.o ?_;rotate_left
    ·rintro w ⟨e1,e2,e3⟩;go_simp;try with_reducible rfl
    conv in(Act.put _ _ _)=>simp only[bH,bI,bJ,Act.put,bK,bL,bM]
   refine bA ?_;refine bB [9,10,11,12,13] ?_
   iterate 5
    refine gO rfl HSW.o ?_
    conv in(Act.put _ _ _)=>simp only[bH,bI,bJ,Act.put,bK,bL,bM]
   refine bA ?_;refine bB [14,15] ?_
   iterate 2
    refine bS (v:=?_) rfl ?_ HSW.o ?_;rotate_left
    ·rintro w ⟨e1,e2,e3⟩;go_simp;try with_reducible rfl
    conv in(Act.put _ _ _)=>simp only[bH,bI,bJ,Act.put,bK,bL,bM]
   refine bA ?_;refine bB [16,17,18,19,20,21,22,23,24] ?_
   iterate 9
    refine gO rfl HSW.o ?_
    conv in(Act.put _ _ _)=>simp only[bH,bI,bJ,Act.put,bK,bL,bM]
   refine bA ?_;refine bB [25,26] ?_
   iterate 2
    refine bS (v:=?_) rfl ?_ HSW.o ?_;rotate_left
    ·rintro w ⟨e1,e2,e3⟩;go_simp;try with_reducible rfl
    conv in(Act.put _ _ _)=>simp only[bH,bI,bJ,Act.put,bK,bL,bM]
   refine bA ?_;refine wpAnyH_done uk ?_ _;go_wp2_with fail;go_ret;exact⟨rfl,HB.o⟩
 ·have q0:decide (0≤L)=false:=decide_eq_false h0
  rw[show cP X Y L=false by unfold cP;rw[decide_eq_false];exact fun h=>h0 h.1];clear h0 HG hX hY hlt;go_enter Tryz.func207,Tryz.ntmps207;go_wp2_with fail;refine wp_region_held (S:=cG w.heap.size X Y L) uk ?_;change wpAnyH _ _ _ _ _ _ _ _ (World.drew _);refine bB [0,1,2] ?_
  iterate 3
   refine bS (v:=?_) rfl ?_ HSW.o ?_;rotate_left
   ·rintro w ⟨e1,e2,e3⟩;go_simp;try with_reducible rfl
   conv in(Act.put _ _ _)=>simp only[bH,bI,bJ,Act.put,bK,bL,bM]
  refine bA ?_
  try rw[q0]
  refine bB [3] ?_;refine bS (v:=?_) rfl ?_ HSW.o ?_;rotate_left
  ·rintro w ⟨e1,e2,e3⟩;go_simp;try with_reducible rfl
  conv in(Act.put _ _ _)=>simp only[bH,bI,bJ,Act.put,bK,bL,bM]
  refine bA ?_;refine bB [4,5,6] ?_
  iterate 3
   refine gO rfl HSW.o ?_
   conv in(Act.put _ _ _)=>simp only[bH,bI,bJ,Act.put,bK,bL,bM]
  refine bA ?_;refine bB [7,8] ?_
  iterate 2
   refine bS (v:=?_) rfl ?_ HSW.o ?_;rotate_left
   ·rintro w ⟨e1,e2,e3⟩;go_simp;try with_reducible rfl
   conv in(Act.put _ _ _)=>simp only[bH,bI,bJ,Act.put,bK,bL,bM]
  refine bA ?_;refine bB [9,10,11,12,13] ?_
  iterate 5
   refine gO rfl HSW.o ?_
   conv in(Act.put _ _ _)=>simp only[bH,bI,bJ,Act.put,bK,bL,bM]
  refine bA ?_;refine bB [14,15] ?_
  iterate 2
   refine bS (v:=?_) rfl ?_ HSW.o ?_;rotate_left
   ·rintro w ⟨e1,e2,e3⟩;go_simp;try with_reducible rfl
   conv in(Act.put _ _ _)=>simp only[bH,bI,bJ,Act.put,bK,bL,bM]
  refine bA ?_;refine bB [16,17,18,19,20,21,22,23,24] ?_
  iterate 9
   refine gO rfl HSW.o ?_
   conv in(Act.put _ _ _)=>simp only[bH,bI,bJ,Act.put,bK,bL,bM]
  refine bA ?_;refine bB [25,26] ?_
  iterate 2
   refine bS (v:=?_) rfl ?_ HSW.o ?_;rotate_left
   ·rintro w ⟨e1,e2,e3⟩;go_simp;try with_reducible rfl
   conv in(Act.put _ _ _)=>simp only[bH,bI,bJ,Act.put,bK,bL,bM]
  refine bA ?_;refine wpAnyH_done uk ?_ _;go_wp2_with fail;go_ret;exact⟨rfl,HB.o⟩
theorem oI (X Y:Nat) (L:Int) (x y:Nat) (hX:X<4294967296) (hY:Y<4294967296) (hx:x<4294967296) (hy:y<4294967296) (w:World):
  Calls Tryz.prog 190 #[cv X Y L,.int .u32 (x:Int),.int .u32 (y:Int)] w fun e w'=>e=.returned (.bool (ck X Y L x y))∧Below w.heap.size w w':=by
 have HL:Hid (w.heap.size<(w.alloc (.cells #[.int .u32 (X:Int),.int .u32 (Y:Int),.int .i64 L] 70)).drew.heap.size):=by refine(?_:w.heap.size<_);simp
 have HB:Hid (Below w.heap.size w (w.alloc (.cells #[.int .u32 (X:Int),.int .u32 (Y:Int),.int .i64 L] 70)).drew):=(bF w _).drew;have HSW:Hid (cG w.heap.size X Y L (w.alloc (.cells #[.int .u32 (X:Int),.int .u32 (Y:Int),.int .i64 L] 70)).drew):=jy X Y L w;have HC:Hid _:=nT X Y L hX hY;cases hr:cP X Y L
 ·rw[zn2 x y hr]
  rw[hr] at HC;clear hr hX hY hx hy;go_enter Tryz.func190,Tryz.ntmps190;go_wp2_with fail;refine wp_region_held (S:=cG w.heap.size X Y L) uk ?_;change wpAnyH _ _ _ _ _ _ _ _ (World.drew _);refine bB [0] ?_;refine bS (v:=?_) rfl ?_ HSW.o ?_;rotate_left
  ·rintro w ⟨e1,e2,e3⟩;go_simp;try with_reducible rfl
  conv in(Act.put _ _ _)=>simp only[bH,bI,bJ,Act.put,bK,bL,bM]
  refine bA ?_;refine dF 1 _ uk rfl uk (fun K hK=>?_);go_simp;refine um (HC.o _) fun w1 b1=>?_;have HB1:Hid (Below w.heap.size w w1):=HB.o.trans (b1.mono (Nat.le_of_lt HL.o))
  replace HSW:Hid (cG w.heap.size X Y L w1):=HSW.o.below b1 HL.o
  refine hK _ _ HSW.o ?_;clear hK K b1;refine bB [2] ?_;refine bS (v:=?_) rfl ?_ HSW.o ?_;rotate_left
  ·rintro w ⟨e1,e2,e3⟩;go_simp;try with_reducible rfl
  conv in(Act.put _ _ _)=>simp only[bH,bI,bJ,Act.put,bK,bL,bM]
  refine bA ?_;refine bB [3,4,5,6,7,8,9] ?_
  iterate 7
   refine gO rfl HSW.o ?_
   conv in(Act.put _ _ _)=>simp only[bH,bI,bJ,Act.put,bK,bL,bM]
  refine bA ?_;refine bB [10,11] ?_
  iterate 2
   refine bS (v:=?_) rfl ?_ HSW.o ?_;rotate_left
   ·rintro w ⟨e1,e2,e3⟩;go_simp;try with_reducible rfl
   conv in(Act.put _ _ _)=>simp only[bH,bI,bJ,Act.put,bK,bL,bM]
  refine bA ?_;refine wpAnyH_done uk ?_ _;go_wp2_with fail;go_ret;exact⟨rfl,HB1.o⟩
 ·obtain⟨n,rfl,cl⟩:=(pS X Y L).1 hr
  obtain⟨r,hr2⟩:∃ r,decide (X=bR x n∧Y=bR y n)=r:=⟨_,rfl⟩;have HR:Hid (decide (X=bR x n∧Y=bR y n)=r):=hr2
  rw[show ck X Y (n:Int) x y=r by
   rw[←hr2];unfold ck;rw[hr,Int.toNat_natCast]
   apply decide_eq_decide.2;exact⟨fun h=>⟨h.2.1.symm,h.2.2.symm⟩,fun h=>⟨rfl,h.1.symm,h.2.symm⟩⟩]
  have HA:Hid _:=pi x y n hx hy cl.n31;rw[hr] at HC;clear hr hr2 cl hX hY hx hy;go_enter Tryz.func190,Tryz.ntmps190;go_wp2_with fail;refine wp_region_held (S:=cG w.heap.size X Y (n:Int)) uk ?_;change wpAnyH _ _ _ _ _ _ _ _ (World.drew _);refine bB [0] ?_;refine bS (v:=?_) rfl ?_ HSW.o ?_;rotate_left
  ·rintro w ⟨e1,e2,e3⟩;go_simp;try with_reducible rfl
  conv in(Act.put _ _ _)=>simp only[bH,bI,bJ,Act.put,bK,bL,bM]
  refine bA ?_;refine dF 1 _ uk rfl uk (fun K hK=>?_);go_simp;refine um (HC.o _) fun w1 b1=>?_;have HB1:Hid (Below w.heap.size w w1):=HB.o.trans (b1.mono (Nat.le_of_lt HL.o))
  replace HL:Hid (w.heap.size<w1.heap.size):=Nat.lt_of_lt_of_le HL.o b1.size
  replace HSW:Hid (cG w.heap.size X Y (n:Int) w1):=HSW.o.below b1 (Nat.lt_of_lt_of_le us zn)
  refine hK _ _ HSW.o ?_;clear hK K b1;refine bB [2,3,4,5,6,7] ?_
  iterate 6
   refine bS (v:=?_) rfl ?_ HSW.o ?_;rotate_left
   ·rintro w ⟨e1,e2,e3⟩;go_simp;try with_reducible rfl
   conv in(Act.put _ _ _)=>simp only[bH,bI,bJ,Act.put,bK,bL,bM]
  refine bA ?_;refine dF 8 _ uk rfl uk (fun K hK=>?_);go_simp;refine um (HA.o _) fun w2 b2=>?_;have HB2:Hid (Below w.heap.size w w2):=HB1.o.trans (b2.mono (Nat.le_of_lt HL.o))
  replace HSW:Hid (cG w.heap.size X Y (n:Int) w2):=HSW.o.below b2 HL.o
  refine hK _ _ HSW.o ?_;clear hK K b2;refine wpAnyH_take (i:=9) (v:=.bool r) rfl uk uk uk (fun _ _ _ h=>h) (Or.inl ⟨by kernel_rfl,fun w _=>?_⟩) HSW.o ?_
  ·go_simp
   exact(znC X Y _ _ w).trans (by rw[HR.o])
  conv in(Act.put _ _ _)=>simp only[bH,bI,bJ,Act.put,bK,bL,bM]
  refine bB [10,11] ?_
  iterate 2
   refine bS (v:=?_) rfl ?_ HSW.o ?_;rotate_left
   ·rintro w ⟨e1,e2,e3⟩;go_simp;try with_reducible rfl
   conv in(Act.put _ _ _)=>simp only[bH,bI,bJ,Act.put,bK,bL,bM]
  refine bA ?_;refine wpAnyH_done uk ?_ _;go_wp2_with fail;go_ret;exact⟨rfl,HB2.o⟩
end Rc
end Go.Proofs.YtokfnghckpgjmaaGreatDoor
