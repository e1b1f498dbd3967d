/- math/bits.Len32. -/
import Derived.Test.YtokfnghckpgjmaaGreatDoorPPo
import Derived.Test.YtokfnghckpgjmaaGreatDoorPPk
import Derived.Test.YtokfnghckpgjmaaGreatDoorQCC
import Derived.Lib.Walk
set_option maxRecDepth 100000
set_option maxHeartbeats 4000000
namespace Go.Proofs.YtokfnghckpgjmaaGreatDoor
namespace Rc
open Go.RowKit
theorem oQ:(Lib.len8tab.size:Int)=256:=by
 have:Lib.len8tab.size=256:=by decide
 omega
theorem pj (y:Int) (h:y.toNat<Lib.len8tab.size) (h0:0≤y) (h1:y≤255):((Lib.len8tab[y.toNat]'h).toNat:Int)=(Lib.bitLen y.toNat:Int)∧Lib.bitLen y.toNat≤8:=by
 refine⟨?_,Lib.bitLen_le8' y h0 h1⟩;rw[←Lib.len8_of y h0 h1];unfold Lib.len8;rw[getElem?_pos Lib.len8tab y.toNat h];rfl
theorem rZ (k a b:Nat) (hk:k≤56) (ha:a≤8) (hb:b=k+a):wrap64 ((k:Int)+wrap64 (a:Int))=(b:Int):=by
 unfold wrap64;omega
theorem zmb (a:Nat) (ha:a≤8):wrap64 (wrap64 (a:Int))=(a:Int):=by
 unfold wrap64;omega
theorem znD (x:Int):(x/65536/256).toNat=x.toNat/16777216:=uo
theorem znE (x:Int):(x/65536).toNat=x.toNat/65536:=uo
theorem zpt (x:Int):(x/256).toNat=x.toNat/256:=uo
theorem zj3 (x:Int) (w:World) (h0:0≤x) (h1:x≤4294967295):
  Calls Tryz.prog 129 #[.int .u32 x] w fun e w'=>e=.returned (.int .i64 (Lib.bitLen x.toNat))∧w'=w:=by
 go_enter Tryz.func129,Tryz.ntmps129
 go_wp2
 all_goals first
  |(go_ret;refine⟨congrArg Ending.returned (congrArg (Value.int IntKind.i64) ?_),rfl⟩)
  |(exfalso;have hs:=oQ;omega)
 ·have hs:=oQ
  obtain⟨e,l⟩:=pj (x/65536/256) uo uo uo;rw[e,znD];rw[znD] at l
  exact rZ 24 _ _ ud l (Lib.bitLen_shift24 x.toNat uo uo)
 ·have hs:=oQ
  obtain⟨e,l⟩:=pj (x/65536) uo uo uo;rw[e,znE];rw[znE] at l
  exact rZ 16 _ _ ud l (Lib.bitLen_shift16 x.toNat uo uo)
 ·have hs:=oQ
  obtain⟨e,l⟩:=pj (x/256) uo uo uo;rw[e,zpt];rw[zpt] at l
  exact rZ 8 _ _ ud l (Lib.bitLen_shift8 x.toNat uo uo)
 ·have hs:=oQ
  obtain⟨e,l⟩:=pj x uo uo uo;rw[e];exact zmb _ l
open Go.RowKit Go.Lib
theorem jz {fn:Func} {p u:Tmp} (h:fn.results=#[.cell p 70,.tmp u]) (tmps:Array Value) (w:World) (g:Nat) (X Y:Nat) (L:Int) {t:TypeId} {fr:Nat × Nat}
  (hp:tmps.getD p undef=.pointer (some ⟨g,0,none⟩)) (hg:w.heap[g]? =some (.cells #[.int .u32 (X:Int),.int .u32 (Y:Int),.int .i64 L] t fr)):(results fn tmps).run Tryz.prog w=.ok (.tuple #[cv X Y L,tmps.getD u undef]) w:=by
 rw[results_cell_tmp h,hp];simp[asAddr,run_loadVar_row w g t 70 _ fr _ hg Tryz.underlying70 rfl uk]
theorem iI (w:World) (g k:Nat) (v:Value):w.grownBy (w.setCell ⟨g,k,none⟩ v) (some g):=
 ⟨rfl,rfl,rfl,by simp[World.setCell],fun j _ hne=>Below.heap_setCell _ _ _ _ (fun e=>hne (by rw[e]))⟩
theorem ff {B r:Nat} {X Y:World} (hg:X.grownBy Y (some r)) (hr:B≤r) (hB:B≤X.heap.size):Below B X Y:=⟨hg.os,hg.tape,hg.output,hg.size,fun k hk=>hg.block k uo (by intro e;cases e;omega)⟩
theorem lM {w:World} {g:Nat} {x y z:Value} (h:w.heap[g]? =some (.cells #[x,y,z] 70 (0,0))) (a b c:Value):
  (((w.setCell ⟨g,0,none⟩ a).setCell ⟨g,1,none⟩ b).setCell ⟨g,2,none⟩ c).heap[g]? =some (.cells #[a,b,c] 70 (0,0))∧Below g w (((w.setCell ⟨g,0,none⟩ a).setCell ⟨g,1,none⟩ b).setCell ⟨g,2,none⟩ c):=by
 have hl:=(zi h).1;have X1:=zx w g 0 _ _ a h;have X2:=zx _ g 1 _ _ b X1;have X3:=zx _ g 2 _ _ c X2;exact⟨X3,(ff (iI w g 0 _) zn uo).trans ((ff (iI _ g 1 _) zn (by simp[World.setCell];omega)).trans (ff (iI _ g 2 _) zn (by simp[World.setCell];omega)))⟩
theorem gE {w:World} {g:Nat} {x y z:Value} (h:w.heap[g]? =some (.cells #[x,y,z] 70 (0,0))):
  w.frozen? ⟨g,0,none⟩=false∧w.frozen? ⟨g,1,none⟩=false∧w.frozen? ⟨g,2,none⟩=false∧w.cell? ⟨g,0,none⟩=some x∧w.cell? ⟨g,1,none⟩=some y∧w.cell? ⟨g,2,none⟩=some z:=
 ⟨frozen_of_row w g 0 _ _ h,frozen_of_row w g 1 _ _ h,frozen_of_row w g 2 _ _ h,by rw[zr h];rfl,by rw[zr h];rfl,by rw[zr h];rfl⟩
theorem zmc (x y u v:Nat) (h:(gC x y&&gC u v)=false) (w:World):
  Calls Tryz.prog 145 #[.int .u32 (x:Int),.int .u32 (y:Int),.int .u32 (u:Int),.int .u32 (v:Int)] w fun e w'=>e=.returned (.tuple #[cv 0 0 0,.int .i64 2])∧Below w.heap.size w w':=by
 have HC:Hid _:=nS x y;have HD:Hid _:=nS u v;cases h1:gC x y
 ·rw[h1] at HC
  clear h h1 HD;go_enter Tryz.func145,Tryz.ntmps145;go_wp2_with fail;refine um (HC.o _) fun w1 hw1=>?_;subst hw1;go_wp2_with fail;exact bodyPost_ret (jz rfl _ _ w.heap.size 0 0 0 rfl (zq w _)) rfl ⟨rfl,bF _ _⟩
 ·rw[h1] at HC h
  have h2:gC u v=false:=by simpa using h
  rw[h2] at HD;clear h h1 h2;go_enter Tryz.func145,Tryz.ntmps145;go_wp2_with fail;refine um (HC.o _) fun w1 hw1=>?_;subst hw1;go_wp2_with fail;refine um (HD.o _) fun w1 hw1=>?_;subst hw1;go_wp2_with fail;exact bodyPost_ret (jz rfl _ _ w.heap.size 0 0 0 rfl (zq w _)) rfl ⟨rfl,bF _ _⟩
theorem zmd (x y u v:Nat) (h1:gC x y=true) (h2:gC u v=true) (w:World):
  Calls Tryz.prog 145 #[.int .u32 (x:Int),.int .u32 (y:Int),.int .u32 (u:Int),.int .u32 (v:Int)] w fun e w'=>e=.returned (.tuple #[cv (bR x (fH x y u v)) (bR y (fH x y u v)) (fH x y u v:Int),.int .i64 0])∧Below w.heap.size w w':=by
 have HC:Hid _:=nS x y;have HD:Hid _:=nS u v;rw[h1] at HC;rw[h2] at HD
 have HL:Hid (∀ w,Calls Tryz.prog 129 #[.int .u32 (bits .or .u32 (bits .xor .u32 (x:Int) (u:Int)) (bits .xor .u32 (y:Int) (v:Int)))] w fun e w'=>e=.returned (.int .i64 (fH x y u v:Int))∧w'=w):=fun w=>by
  unfold gC at h1 h2;rw[decide_eq_true_iff] at h1 h2;have k1:x ^^^ u<2 ^ 32:=Nat.xor_lt_two_pow uo uo;have k2:y ^^^ v<2 ^ 32:=Nat.xor_lt_two_pow uo uo;have k3:(x ^^^ u)|||(y ^^^ v)<2 ^ 32:=Nat.or_lt_two_pow k1 k2
  rw[u32_xor_nat x u uo uo,u32_xor_nat y v uo uo,u32_or_nat _ _ k1 k2];have:=zj3 (((x ^^^ u)|||(y ^^^ v):Nat):Int) w uo uo;rw[Int.toNat_natCast] at this;exact this
 have h1':=h1;have h2':=h2;unfold gC at h1' h2';rw[decide_eq_true_iff] at h1' h2';have HA:Hid _:=pi x y (fH x y u v) uo uo (zpn x y u v h1'.1 h1'.2 h2'.1 h2'.2);clear h1 h2 h1' h2';generalize fH x y u v=l at*
 generalize bR x l=p at*
 generalize bR y l=q at*
 go_enter Tryz.func145,Tryz.ntmps145;go_wp2_with fail;refine um (HC.o _) fun w1 hw1=>?_;subst hw1;go_wp2_with fail;refine um (HD.o _) fun w1 hw1=>?_;subst hw1;go_wp2_with fail;refine um (HL.o _) fun w1 hw1=>?_;subst hw1;go_wp2_with fail;refine um (HA.o _) fun w1 b1=>?_;have HB:Hid (Below w.heap.size w w1):=(bF w _).trans (b1.mono us);have H0:Hid (w1.heap[w.heap.size]? =some (.cells #[.int .u32 0,.int .u32 0,.int .i64 0] 70 (0,0))):=(b1.block _ us).trans (zq w _);obtain⟨z0,z1,z2,c0,c1,c2⟩:=gE H0.o;clear b1;go_wp2_with fail;obtain⟨X3,B3⟩:=lM H0.o (.int .u32 (p:Int)) (.int .u32 (q:Int)) (.int .i64 (l:Int));exact bodyPost_ret (jz rfl _ _ w.heap.size p q l rfl X3) rfl ⟨rfl,HB.o.trans B3⟩
def bu:Value→Nat|.int _ x=>x.toNat|_=>0
theorem ix0 (a b c d e f g h:Value) (w:World):(Instr.index 294 (.agg #[a,b,c,d,e,f,g,h]) (.int .i64 0)).run Tryz.prog w=.ok (.agg #[a,b]) w:=uk
theorem ix1 (a b c d e f g h:Value) (w:World):(Instr.index 294 (.agg #[a,b,c,d,e,f,g,h]) (.int .i64 1)).run Tryz.prog w=.ok (.agg #[c,d]) w:=uk
theorem ix2 (a b c d e f g h:Value) (w:World):(Instr.index 294 (.agg #[a,b,c,d,e,f,g,h]) (.int .i64 2)).run Tryz.prog w=.ok (.agg #[e,f]) w:=uk
theorem ix3 (a b c d e f g h:Value) (w:World):(Instr.index 294 (.agg #[a,b,c,d,e,f,g,h]) (.int .i64 3)).run Tryz.prog w=.ok (.agg #[g,h]) w:=uk
theorem fL (X Y n:Nat) (hn:n≤31) (w:World):
  Calls Tryz.prog 148 #[cv X Y (n:Int)] w fun e w'=>e=.returned (.int .u64 ((2 ^ n:Nat):Int))∧Below w.heap.size w w':=by
 have h:=pR hn;have h1:IntKind.u64.wrap (n:Int)=(n:Int):=by simp[IntKind.wrap,IntKind.bits,IntKind.signed];omega
 have h2:min n 64=n:=uo
 have h3:IntKind.u64.wrap ((2:Int) ^ n)=((2 ^ n:Nat):Int):=by
  have:((2:Int) ^ n)=((2 ^ n:Nat):Int):=by simp
  rw[this];generalize 2 ^ n=s at*
  simp only[IntKind.wrap,IntKind.bits,IntKind.signed];simp;omega
 have HH:Hid (IntKind.u64.wrap ((2:Int) ^ n)=((2 ^ n:Nat):Int)):=h3;clear h h3;go_enter Tryz.func148,Tryz.ntmps148;go_wp2_with fail;rw[HH.o];go_ret;exact⟨rfl,bF _ _⟩
theorem iJ (a s:Nat):((a:Int).tmod (s:Int)==0)=decide (a%s=0):=by
 rw[←Int.ofNat_tmod];by_cases h:a%s=0
 ·simp[h]
 ·simp[h];omega
theorem gF (X Y:Nat) (L:Int) (hX:X<4294967296) (hY:Y<4294967296) (w:World):
  Calls Tryz.prog 147 #[cv X Y L] w fun e w'=>e=.returned (.bool (cP X Y L))∧Below w.heap.size w w':=by
 by_cases h0:L<0
 ·rw[show cP X Y L=false by unfold cP;rw[decide_eq_false_iff_not];omega]
  go_enter Tryz.func147,Tryz.ntmps147;go_wp2_with fail;go_ret;exact⟨rfl,bF _ _⟩
 ·by_cases h1:31<L
  ·rw[show cP X Y L=false by unfold cP;rw[decide_eq_false_iff_not];omega]
   go_enter Tryz.func147,Tryz.ntmps147;go_wp2_with fail;go_ret;exact⟨rfl,bF _ _⟩
  ·by_cases h2:2147483648≤X
   ·rw[show cP X Y L=false by unfold cP;rw[decide_eq_false_iff_not];omega]
    have q2:(2147483648:Int)≤(X:Int):=uo
    go_enter Tryz.func147,Tryz.ntmps147;go_wp2_with fail;go_ret;exact⟨rfl,bF _ _⟩
   ·have q2:¬(2147483648:Int)≤(X:Int):=uo
    by_cases h3:2147483648≤Y
    ·rw[show cP X Y L=false by unfold cP;rw[decide_eq_false_iff_not];omega]
     have q3:(2147483648:Int)≤(Y:Int):=uo
     clear h2 h3;go_enter Tryz.func147,Tryz.ntmps147;go_wp2_with fail;go_ret;exact⟨rfl,bF _ _⟩
    ·have q3:¬(2147483648:Int)≤(Y:Int):=uo
     obtain⟨n,rfl⟩:=Int.eq_ofNat_of_zero_le (by omega:0≤L)
     have hR:cP X Y (n:Int)=decide (X%2 ^ n=0∧Y%2 ^ n=0):=by
      unfold cP;apply decide_eq_decide.2;rw[Int.toNat_natCast,rU,rU]
      exact⟨fun h=>h.2.2.2.2,fun h=>⟨by omega,by omega,by omega,by omega,h⟩⟩
     have HZ:Hid _:=fL X Y n uo;have hp:=Nat.two_pow_pos n;rw[hR];clear h2 h3 hR;have HSW:Hid (cG w.heap.size X Y (n:Int) (w.alloc (.cells #[.int .u32 (X:Int),.int .u32 (Y:Int),.int .i64 (n:Int)] 70)).drew):=jy X Y n w;have HB:Hid (Below w.heap.size w (w.alloc (.cells #[.int .u32 (X:Int),.int .u32 (Y:Int),.int .i64 (n:Int)] 70)).drew):=(bF w _).drew;have HL:Hid (w.heap.size<(w.alloc (.cells #[.int .u32 (X:Int),.int .u32 (Y:Int),.int .i64 (n:Int)] 70)).drew.heap.size):=by refine(?_:w.heap.size<_);simp
     generalize 2 ^ n=s at*
     have s0:¬s=0:=uo
     have x64:IntKind.u64.wrap (X:Int)=(X:Int):=by simp only[IntKind.wrap,IntKind.bits,IntKind.signed];simp;omega
     have y64:IntKind.u64.wrap (Y:Int)=(Y:Int):=by simp only[IntKind.wrap,IntKind.bits,IntKind.signed];simp;omega
     go_enter Tryz.func147,Tryz.ntmps147;go_wp2_with fail;refine wp_region_held (S:=cG w.heap.size X Y (n:Int)) uk ?_;change wpAnyH _ _ _ _ _ _ _ _ (World.drew _);refine bB [0,1,2,3] ?_
     iterate 4
      refine bS (v:=?_) rfl ?_ HSW.o ?_;rotate_left
      ·rintro w ⟨e1,e2,e3⟩;go_simp;try with_reducible rfl
      conv in(Act.put _ _ _)=>simp only[bH,bI,bJ,Act.put,bK,bL,bM]
     refine bA ?_;refine dF 4 _ uk rfl uk (fun K hK=>?_);go_simp;refine um (HZ.o _) fun w1 b1=>?_
     replace HB:Hid (Below w.heap.size w w1):=HB.o.trans (b1.mono (Nat.le_of_lt HL.o))
     replace HSW:Hid (cG w.heap.size X Y (n:Int) w1):=HSW.o.below b1 HL.o
     replace HL:Hid (w.heap.size<w1.heap.size):=Nat.lt_of_lt_of_le HL.o b1.size
     refine hK _ _ HSW.o ?_;clear hK K b1;have T1:Hid (((X:Int).tmod (s:Int)==0)=decide (X%s=0)):=iJ X s;have T2:Hid (((Y:Int).tmod (s:Int)==0)=decide (Y%s=0)):=iJ Y s;refine bB [5,6] ?_
     iterate 2
      refine bS (v:=?_) rfl ?_ HSW.o ?_;rotate_left
      ·rintro w ⟨e1,e2,e3⟩;go_simp;try with_reducible rfl
      conv in(Act.put _ _ _)=>simp only[bH,bI,bJ,Act.put,bK,bL,bM]
     refine bA ?_;by_cases hx:X%s=0
     ·have t1:=T1.o
      rw[decide_eq_true hx] at t1;have HE:Hid (decide (X%s=0∧Y%s=0)=decide (Y%s=0)):=by refine(?_:decide (X%s=0∧Y%s=0)=decide (Y%s=0));apply decide_eq_decide.2;omega
      clear hx;rw[t1];clear t1;refine bB [7,8,9,10,11] ?_
      iterate 5
       refine bS (v:=?_) rfl ?_ HSW.o ?_;rotate_left
       ·rintro w ⟨e1,e2,e3⟩;go_simp;try with_reducible rfl
       conv in(Act.put _ _ _)=>simp only[bH,bI,bJ,Act.put,bK,bL,bM]
      refine bA ?_;refine dF 12 _ uk rfl uk (fun K hK=>?_);go_simp;refine um (HZ.o _) fun w2 b2=>?_
      replace HB:Hid (Below w.heap.size w w2):=HB.o.trans (b2.mono (Nat.le_of_lt HL.o))
      replace HSW:Hid (cG w.heap.size X Y (n:Int) w2):=HSW.o.below b2 HL.o
      refine hK _ _ HSW.o ?_;clear hK K b2;refine bB [13,14] ?_
      iterate 2
       refine bS (v:=?_) rfl ?_ HSW.o ?_;rotate_left
       ·rintro w ⟨e1,e2,e3⟩;go_simp;try with_reducible rfl
       conv in(Act.put _ _ _)=>simp only[bH,bI,bJ,Act.put,bK,bL,bM]
      refine bA ?_;rw[T2.o];clear T2;generalize hyd:decide (Y%s=0)=yd at*
      refine bB [15,16] ?_
      iterate 2
       refine bS (v:=?_) rfl ?_ HSW.o ?_;rotate_left
       ·rintro w ⟨e1,e2,e3⟩;go_simp;try with_reducible rfl
       conv in(Act.put _ _ _)=>simp only[bH,bI,bJ,Act.put,bK,bL,bM]
      refine bA ?_;refine wpAnyH_done uk ?_ _;go_wp2_with fail;go_ret;exact⟨by rw[HE.o];rfl,HB.o⟩
     ·have t1:=T1.o
      rw[decide_eq_false hx] at t1;have HE:Hid (decide (X%s=0∧Y%s=0)=false):=by refine(?_:decide (X%s=0∧Y%s=0)=false);rw[decide_eq_false];omega
      clear hx;rw[t1];clear t1;refine bB [7] ?_;refine bS (v:=?_) rfl ?_ HSW.o ?_;rotate_left
      ·rintro w ⟨e1,e2,e3⟩;go_simp;try with_reducible rfl
      conv in(Act.put _ _ _)=>simp only[bH,bI,bJ,Act.put,bK,bL,bM]
      refine bA ?_;refine bB [8,9,10,11,12,13,14] ?_
      iterate 7
       refine gO rfl HSW.o ?_
       conv in(Act.put _ _ _)=>simp only[bH,bI,bJ,Act.put,bK,bL,bM]
      refine bA ?_;refine bB [15,16] ?_
      iterate 2
       refine bS (v:=?_) rfl ?_ HSW.o ?_;rotate_left
       ·rintro w ⟨e1,e2,e3⟩;go_simp;try with_reducible rfl
       conv in(Act.put _ _ _)=>simp only[bH,bI,bJ,Act.put,bK,bL,bM]
      refine bA ?_;refine wpAnyH_done uk ?_ _;go_wp2_with fail;go_ret;exact⟨by rw[HE.o];rfl,HB.o⟩
theorem u64_in (a:Nat) (h:a<18446744073709551616):IntKind.u64.wrap (a:Int)=(a:Int):=by simp only[IntKind.wrap,IntKind.bits,IntKind.signed];simp;omega
theorem mZ (X Y x y:Nat) (L:Int) (HC:Hid (∀ w,Calls Tryz.prog 147 #[cv X Y L] w fun e w'=>e=.returned (.bool false)∧Below w.heap.size w w')) (w:World):
  Calls Tryz.prog 106 #[cv X Y L,.int .u32 (x:Int),.int .u32 (y:Int)] w fun e w'=>e=.returned (.bool false)∧Below w.heap.size w w':=by
 go_enter Tryz.func106,Tryz.ntmps106;go_wp2_with fail;refine um (HC.o _) fun w1 b1=>?_;have HB:Hid (Below w.heap.size w w1.drew):=((bF w _).trans (b1.mono us)).drew;have HSW:Hid (cG w.heap.size X Y L w1.drew):=(jy X Y L w).below b1.drew us;have HL:Hid (w.heap.size<w1.drew.heap.size):=Nat.lt_of_lt_of_le us b1.size;clear b1;go_wp2_with fail;refine wp_region_held (S:=cG w.heap.size X Y L) uk ?_;change wpAnyH _ _ _ _ _ _ _ _ (World.drew _);refine bB [0,1] ?_
 iterate 2
  refine bS (v:=?_) rfl ?_ HSW.o ?_;rotate_left
  ·rintro w ⟨e1,e2,e3⟩;go_simp;try with_reducible rfl
  conv in(Act.put _ _ _)=>simp only[bH,bI,bJ,Act.put,bK,bL,bM]
 refine bA ?_;refine bB [2,3,4,5] ?_
 iterate 4
  refine gO rfl HSW.o ?_
  conv in(Act.put _ _ _)=>simp only[bH,bI,bJ,Act.put,bK,bL,bM]
 refine bA ?_;refine bB [6,7] ?_
 iterate 2
  refine bS (v:=?_) rfl ?_ HSW.o ?_;rotate_left
  ·rintro w ⟨e1,e2,e3⟩;go_simp;try with_reducible rfl
  conv in(Act.put _ _ _)=>simp only[bH,bI,bJ,Act.put,bK,bL,bM]
 refine bA ?_;refine bB [8,9,10,11] ?_
 iterate 4
  refine gO rfl HSW.o ?_
  conv in(Act.put _ _ _)=>simp only[bH,bI,bJ,Act.put,bK,bL,bM]
 refine bA ?_;refine bB [12,13] ?_
 iterate 2
  refine bS (v:=?_) rfl ?_ HSW.o ?_;rotate_left
  ·rintro w ⟨e1,e2,e3⟩;go_simp;try with_reducible rfl
  conv in(Act.put _ _ _)=>simp only[bH,bI,bJ,Act.put,bK,bL,bM]
 refine bA ?_;refine bB [14,15,16,17,18,19,20,21,22] ?_
 iterate 9
  refine gO rfl HSW.o ?_
  conv in(Act.put _ _ _)=>simp only[bH,bI,bJ,Act.put,bK,bL,bM]
 refine bA ?_;refine bB [23,24] ?_
 iterate 2
  refine bS (v:=?_) rfl ?_ HSW.o ?_;rotate_left
  ·rintro w ⟨e1,e2,e3⟩;go_simp;try with_reducible rfl
  conv in(Act.put _ _ _)=>simp only[bH,bI,bJ,Act.put,bK,bL,bM]
 refine bA ?_;refine bB [25,26,27,28,29,30,31,32,33] ?_
 iterate 9
  refine gO rfl HSW.o ?_
  conv in(Act.put _ _ _)=>simp only[bH,bI,bJ,Act.put,bK,bL,bM]
 refine bA ?_;refine bB [34,35] ?_
 iterate 2
  refine bS (v:=?_) rfl ?_ HSW.o ?_;rotate_left
  ·rintro w ⟨e1,e2,e3⟩;go_simp;try with_reducible rfl
  conv in(Act.put _ _ _)=>simp only[bH,bI,bJ,Act.put,bK,bL,bM]
 refine bA ?_;refine wpAnyH_done uk ?_ _;go_wp2_with fail;go_ret;exact⟨rfl,HB.o⟩
theorem mb (X Y x y:Nat) (L:Int) (q1:decide (X≤x)=false) (HC:Hid (∀ w,Calls Tryz.prog 147 #[cv X Y L] w fun e w'=>e=.returned (.bool true)∧Below w.heap.size w w')) (w:World):
  Calls Tryz.prog 106 #[cv X Y L,.int .u32 (x:Int),.int .u32 (y:Int)] w fun e w'=>e=.returned (.bool false)∧Below w.heap.size w w':=by
 go_enter Tryz.func106,Tryz.ntmps106;go_wp2_with fail;refine um (HC.o _) fun w1 b1=>?_;have HB:Hid (Below w.heap.size w w1.drew):=((bF w _).trans (b1.mono us)).drew;have HSW:Hid (cG w.heap.size X Y L w1.drew):=(jy X Y L w).below b1.drew us;have HL:Hid (w.heap.size<w1.drew.heap.size):=Nat.lt_of_lt_of_le us b1.size;clear b1;go_wp2_with fail;refine wp_region_held (S:=cG w.heap.size X Y L) uk ?_;change wpAnyH _ _ _ _ _ _ _ _ (World.drew _);refine bB [0,1,2,3,4,5] ?_
 iterate 6
  refine bS (v:=?_) rfl ?_ HSW.o ?_;rotate_left
  ·rintro w ⟨e1,e2,e3⟩;go_simp;try with_reducible rfl
  conv in(Act.put _ _ _)=>simp only[bH,bI,bJ,Act.put,bK,bL,bM]
 refine bA ?_
 try rw[q1]
 refine bB [6,7] ?_
 iterate 2
  refine bS (v:=?_) rfl ?_ HSW.o ?_;rotate_left
  ·rintro w ⟨e1,e2,e3⟩;go_simp;try with_reducible rfl
  conv in(Act.put _ _ _)=>simp only[bH,bI,bJ,Act.put,bK,bL,bM]
 refine bA ?_;refine bB [8,9,10,11] ?_
 iterate 4
  refine gO rfl HSW.o ?_
  conv in(Act.put _ _ _)=>simp only[bH,bI,bJ,Act.put,bK,bL,bM]
 refine bA ?_;refine bB [12,13] ?_
 iterate 2
  refine bS (v:=?_) rfl ?_ HSW.o ?_;rotate_left
  ·rintro w ⟨e1,e2,e3⟩;go_simp;try with_reducible rfl
  conv in(Act.put _ _ _)=>simp only[bH,bI,bJ,Act.put,bK,bL,bM]
 refine bA ?_;refine bB [14,15,16,17,18,19,20,21,22] ?_
 iterate 9
  refine gO rfl HSW.o ?_
  conv in(Act.put _ _ _)=>simp only[bH,bI,bJ,Act.put,bK,bL,bM]
 refine bA ?_;refine bB [23,24] ?_
 iterate 2
  refine bS (v:=?_) rfl ?_ HSW.o ?_;rotate_left
  ·rintro w ⟨e1,e2,e3⟩;go_simp;try with_reducible rfl
  conv in(Act.put _ _ _)=>simp only[bH,bI,bJ,Act.put,bK,bL,bM]
 refine bA ?_;refine bB [25,26,27,28,29,30,31,32,33] ?_
 iterate 9
  refine gO rfl HSW.o ?_
  conv in(Act.put _ _ _)=>simp only[bH,bI,bJ,Act.put,bK,bL,bM]
 refine bA ?_;refine bB [34,35] ?_
 iterate 2
  refine bS (v:=?_) rfl ?_ HSW.o ?_;rotate_left
  ·rintro w ⟨e1,e2,e3⟩;go_simp;try with_reducible rfl
  conv in(Act.put _ _ _)=>simp only[bH,bI,bJ,Act.put,bK,bL,bM]
 refine bA ?_;refine wpAnyH_done uk ?_ _;go_wp2_with fail;go_ret;exact⟨rfl,HB.o⟩
theorem me (X Y x y:Nat) (L:Int) (q1:decide (X≤x)=true) (q2:decide (Y≤y)=false) (HC:Hid (∀ w,Calls Tryz.prog 147 #[cv X Y L] w fun e w'=>e=.returned (.bool true)∧Below w.heap.size w w')) (w:World):
  Calls Tryz.prog 106 #[cv X Y L,.int .u32 (x:Int),.int .u32 (y:Int)] w fun e w'=>e=.returned (.bool false)∧Below w.heap.size w w':=by
 go_enter Tryz.func106,Tryz.ntmps106;go_wp2_with fail;refine um (HC.o _) fun w1 b1=>?_;have HB:Hid (Below w.heap.size w w1.drew):=((bF w _).trans (b1.mono us)).drew;have HSW:Hid (cG w.heap.size X Y L w1.drew):=(jy X Y L w).below b1.drew us;have HL:Hid (w.heap.size<w1.drew.heap.size):=Nat.lt_of_lt_of_le us b1.size;clear b1;go_wp2_with fail;refine wp_region_held (S:=cG w.heap.size X Y L) uk ?_;change wpAnyH _ _ _ _ _ _ _ _ (World.drew _);refine bB [0,1,2,3,4,5] ?_
 iterate 6
  refine bS (v:=?_) rfl ?_ HSW.o ?_;rotate_left
  ·rintro w ⟨e1,e2,e3⟩;go_simp;try with_reducible rfl
  conv in(Act.put _ _ _)=>simp only[bH,bI,bJ,Act.put,bK,bL,bM]
 refine bA ?_
 try rw[q1]
 refine bB [6,7,8,9,10,11] ?_
 iterate 6
  refine bS (v:=?_) rfl ?_ HSW.o ?_;rotate_left
  ·rintro w ⟨e1,e2,e3⟩;go_simp;try with_reducible rfl
  conv in(Act.put _ _ _)=>simp only[bH,bI,bJ,Act.put,bK,bL,bM]
 refine bA ?_
 try rw[q2]
 refine bB [12,13] ?_
 iterate 2
  refine bS (v:=?_) rfl ?_ HSW.o ?_;rotate_left
  ·rintro w ⟨e1,e2,e3⟩;go_simp;try with_reducible rfl
  conv in(Act.put _ _ _)=>simp only[bH,bI,bJ,Act.put,bK,bL,bM]
 refine bA ?_;refine bB [14,15,16,17,18,19,20,21,22] ?_
 iterate 9
  refine gO rfl HSW.o ?_
  conv in(Act.put _ _ _)=>simp only[bH,bI,bJ,Act.put,bK,bL,bM]
 refine bA ?_;refine bB [23,24] ?_
 iterate 2
  refine bS (v:=?_) rfl ?_ HSW.o ?_;rotate_left
  ·rintro w ⟨e1,e2,e3⟩;go_simp;try with_reducible rfl
  conv in(Act.put _ _ _)=>simp only[bH,bI,bJ,Act.put,bK,bL,bM]
 refine bA ?_;refine bB [25,26,27,28,29,30,31,32,33] ?_
 iterate 9
  refine gO rfl HSW.o ?_
  conv in(Act.put _ _ _)=>simp only[bH,bI,bJ,Act.put,bK,bL,bM]
 refine bA ?_;refine bB [34,35] ?_
 iterate 2
  refine bS (v:=?_) rfl ?_ HSW.o ?_;rotate_left
  ·rintro w ⟨e1,e2,e3⟩;go_simp;try with_reducible rfl
  conv in(Act.put _ _ _)=>simp only[bH,bI,bJ,Act.put,bK,bL,bM]
 refine bA ?_;refine wpAnyH_done uk ?_ _;go_wp2_with fail;go_ret;exact⟨rfl,HB.o⟩
theorem mg (X Y x y:Nat) (L:Int) (s xs:Nat) (x64:IntKind.u64.wrap (x:Int)=(x:Int)) (X64:IntKind.u64.wrap (X:Int)=(X:Int)) (a1:IntKind.u64.wrap ((X:Int)+(s:Int))=(xs:Int)) (HZ:Hid (∀ w,Calls Tryz.prog 148 #[cv X Y L] w fun e w'=>e=.returned (.int .u64 (s:Int))∧Below w.heap.size w w')) (q1:decide (X≤x)=true) (q2:decide (Y≤y)=true) (q3:decide (x<xs)=false) (HC:Hid (∀ w,Calls Tryz.prog 147 #[cv X Y L] w fun e w'=>e=.returned (.bool true)∧Below w.heap.size w w')) (w:World):
  Calls Tryz.prog 106 #[cv X Y L,.int .u32 (x:Int),.int .u32 (y:Int)] w fun e w'=>e=.returned (.bool false)∧Below w.heap.size w w':=by
 go_enter Tryz.func106,Tryz.ntmps106;go_wp2_with fail;refine um (HC.o _) fun w1 b1=>?_;have HB:Hid (Below w.heap.size w w1.drew):=((bF w _).trans (b1.mono us)).drew;have HSW:Hid (cG w.heap.size X Y L w1.drew):=(jy X Y L w).below b1.drew us;have HL:Hid (w.heap.size<w1.drew.heap.size):=Nat.lt_of_lt_of_le us b1.size;clear b1;go_wp2_with fail;refine wp_region_held (S:=cG w.heap.size X Y L) uk ?_;change wpAnyH _ _ _ _ _ _ _ _ (World.drew _);refine bB [0,1,2,3,4,5] ?_
 iterate 6
  refine bS (v:=?_) rfl ?_ HSW.o ?_;rotate_left
  ·rintro w ⟨e1,e2,e3⟩;go_simp;try with_reducible rfl
  conv in(Act.put _ _ _)=>simp only[bH,bI,bJ,Act.put,bK,bL,bM]
 refine bA ?_
 try rw[q1]
 refine bB [6,7,8,9,10,11] ?_
 iterate 6
  refine bS (v:=?_) rfl ?_ HSW.o ?_;rotate_left
  ·rintro w ⟨e1,e2,e3⟩;go_simp;try with_reducible rfl
  conv in(Act.put _ _ _)=>simp only[bH,bI,bJ,Act.put,bK,bL,bM]
 refine bA ?_
 try rw[q2]
 refine bB [12,13,14,15,16,17,18,19] ?_
 iterate 8
  refine bS (v:=?_) rfl ?_ HSW.o ?_;rotate_left
  ·rintro w ⟨e1,e2,e3⟩;go_simp;try with_reducible rfl
  conv in(Act.put _ _ _)=>simp only[bH,bI,bJ,Act.put,bK,bL,bM]
 refine bA ?_;refine dF 20 _ uk rfl uk (fun K hK=>?_);go_simp;refine um (HZ.o _) fun w2 b2=>?_
 replace HB:Hid (Below w.heap.size w w2):=HB.o.trans (b2.mono (Nat.le_of_lt HL.o))
 replace HSW:Hid (cG w.heap.size X Y L w2):=HSW.o.below b2 HL.o
 replace HL:Hid (w.heap.size<w2.heap.size):=Nat.lt_of_lt_of_le HL.o b2.size
 refine hK _ _ HSW.o ?_;clear hK K b2;refine bB [21,22] ?_
 iterate 2
  refine bS (v:=?_) rfl ?_ HSW.o ?_;rotate_left
  ·rintro w ⟨e1,e2,e3⟩;go_simp;try with_reducible rfl
  conv in(Act.put _ _ _)=>simp only[bH,bI,bJ,Act.put,bK,bL,bM]
 refine bA ?_
 try rw[q3]
 refine bB [23,24] ?_
 iterate 2
  refine bS (v:=?_) rfl ?_ HSW.o ?_;rotate_left
  ·rintro w ⟨e1,e2,e3⟩;go_simp;try with_reducible rfl
  conv in(Act.put _ _ _)=>simp only[bH,bI,bJ,Act.put,bK,bL,bM]
 refine bA ?_;refine bB [25,26,27,28,29,30,31,32,33] ?_
 iterate 9
  refine gO rfl HSW.o ?_
  conv in(Act.put _ _ _)=>simp only[bH,bI,bJ,Act.put,bK,bL,bM]
 refine bA ?_;refine bB [34,35] ?_
 iterate 2
  refine bS (v:=?_) rfl ?_ HSW.o ?_;rotate_left
  ·rintro w ⟨e1,e2,e3⟩;go_simp;try with_reducible rfl
  conv in(Act.put _ _ _)=>simp only[bH,bI,bJ,Act.put,bK,bL,bM]
 refine bA ?_;refine wpAnyH_done uk ?_ _;go_wp2_with fail;go_ret;exact⟨rfl,HB.o⟩
theorem mh (X Y x y:Nat) (L:Int) (r:Bool) (s xs ys:Nat) (x64:IntKind.u64.wrap (x:Int)=(x:Int)) (X64:IntKind.u64.wrap (X:Int)=(X:Int)) (a1:IntKind.u64.wrap ((X:Int)+(s:Int))=(xs:Int)) (y64:IntKind.u64.wrap (y:Int)=(y:Int)) (Y64:IntKind.u64.wrap (Y:Int)=(Y:Int)) (a2:IntKind.u64.wrap ((Y:Int)+(s:Int))=(ys:Int)) (HZ:Hid (∀ w,Calls Tryz.prog 148 #[cv X Y L] w fun e w'=>e=.returned (.int .u64 (s:Int))∧Below w.heap.size w w')) (q1:decide (X≤x)=true) (q2:decide (Y≤y)=true) (q3:decide (x<xs)=true) (q4:decide (y<ys)=r) (HC:Hid (∀ w,Calls Tryz.prog 147 #[cv X Y L] w fun e w'=>e=.returned (.bool true)∧Below w.heap.size w w')) (w:World):
  Calls Tryz.prog 106 #[cv X Y L,.int .u32 (x:Int),.int .u32 (y:Int)] w fun e w'=>e=.returned (.bool r)∧Below w.heap.size w w':=by
 go_enter Tryz.func106,Tryz.ntmps106;go_wp2_with fail;refine um (HC.o _) fun w1 b1=>?_;have HB:Hid (Below w.heap.size w w1.drew):=((bF w _).trans (b1.mono us)).drew;have HSW:Hid (cG w.heap.size X Y L w1.drew):=(jy X Y L w).below b1.drew us;have HL:Hid (w.heap.size<w1.drew.heap.size):=Nat.lt_of_lt_of_le us b1.size;clear b1;go_wp2_with fail;refine wp_region_held (S:=cG w.heap.size X Y L) uk ?_;change wpAnyH _ _ _ _ _ _ _ _ (World.drew _);refine bB [0,1,2,3,4,5] ?_
 iterate 6
  refine bS (v:=?_) rfl ?_ HSW.o ?_;rotate_left
  ·rintro w ⟨e1,e2,e3⟩;go_simp;try with_reducible rfl
  conv in(Act.put _ _ _)=>simp only[bH,bI,bJ,Act.put,bK,bL,bM]
 refine bA ?_
 try rw[q1]
 refine bB [6,7,8,9,10,11] ?_
 iterate 6
  refine bS (v:=?_) rfl ?_ HSW.o ?_;rotate_left
  ·rintro w ⟨e1,e2,e3⟩;go_simp;try with_reducible rfl
  conv in(Act.put _ _ _)=>simp only[bH,bI,bJ,Act.put,bK,bL,bM]
 refine bA ?_
 try rw[q2]
 refine bB [12,13,14,15,16,17,18,19] ?_
 iterate 8
  refine bS (v:=?_) rfl ?_ HSW.o ?_;rotate_left
  ·rintro w ⟨e1,e2,e3⟩;go_simp;try with_reducible rfl
  conv in(Act.put _ _ _)=>simp only[bH,bI,bJ,Act.put,bK,bL,bM]
 refine bA ?_;refine dF 20 _ uk rfl uk (fun K hK=>?_);go_simp;refine um (HZ.o _) fun w2 b2=>?_
 replace HB:Hid (Below w.heap.size w w2):=HB.o.trans (b2.mono (Nat.le_of_lt HL.o))
 replace HSW:Hid (cG w.heap.size X Y L w2):=HSW.o.below b2 HL.o
 replace HL:Hid (w.heap.size<w2.heap.size):=Nat.lt_of_lt_of_le HL.o b2.size
 refine hK _ _ HSW.o ?_;clear hK K b2;refine bB [21,22] ?_
 iterate 2
  refine bS (v:=?_) rfl ?_ HSW.o ?_;rotate_left
  ·rintro w ⟨e1,e2,e3⟩;go_simp;try with_reducible rfl
  conv in(Act.put _ _ _)=>simp only[bH,bI,bJ,Act.put,bK,bL,bM]
 refine bA ?_
 try rw[q3]
 refine bB [23,24,25,26,27,28,29,30] ?_
 iterate 8
  refine bS (v:=?_) rfl ?_ HSW.o ?_;rotate_left
  ·rintro w ⟨e1,e2,e3⟩;go_simp;try with_reducible rfl
  conv in(Act.put _ _ _)=>simp only[bH,bI,bJ,Act.put,bK,bL,bM]
 refine bA ?_;refine dF 31 _ uk rfl uk (fun K hK=>?_);go_simp;refine um (HZ.o _) fun w3 b3=>?_
 replace HB:Hid (Below w.heap.size w w3):=HB.o.trans (b3.mono (Nat.le_of_lt HL.o))
 replace HSW:Hid (cG w.heap.size X Y L w3):=HSW.o.below b3 HL.o
 replace HL:Hid (w.heap.size<w3.heap.size):=Nat.lt_of_lt_of_le HL.o b3.size
 refine hK _ _ HSW.o ?_;clear hK K b3;refine bB [32,33] ?_
 iterate 2
  refine bS (v:=?_) rfl ?_ HSW.o ?_;rotate_left
  ·rintro w ⟨e1,e2,e3⟩;go_simp;try with_reducible rfl
  conv in(Act.put _ _ _)=>simp only[bH,bI,bJ,Act.put,bK,bL,bM]
 refine bA ?_
 try rw[q4]
 refine bB [34,35] ?_
 iterate 2
  refine bS (v:=?_) rfl ?_ HSW.o ?_;rotate_left
  ·rintro w ⟨e1,e2,e3⟩;go_simp;try with_reducible rfl
  conv in(Act.put _ _ _)=>simp only[bH,bI,bJ,Act.put,bK,bL,bM]
 refine bA ?_;refine wpAnyH_done uk ?_ _;go_wp2_with fail;go_ret;exact⟨rfl,HB.o⟩
theorem iK (X Y:Nat) (L:Int) (x y:Nat) (hX:X<4294967296) (hY:Y<4294967296) (hx:x<4294967296) (hy:y<4294967296) (w:World):
  Calls Tryz.prog 106 #[cv X Y L,.int .u32 (x:Int),.int .u32 (y:Int)] w fun e w'=>e=.returned (.bool (ck X Y L x y))∧Below w.heap.size w w':=by
 have HC:=gF X Y L hX hY;cases hr:cP X Y L
 ·rw[zn2 x y hr]
  rw[hr] at HC;exact mZ X Y x y L HC w
 ·obtain⟨n,rfl,cl⟩:=(pS X Y L).1 hr
  rw[hr] at HC;have HZ:=fL X Y n cl.n31;have hs:=gD X Y n x y cl;have hp:=pR cl.n31;cases h1:decide (X≤x)
  ·rw[show ck X Y (n:Int) x y=false by rw[Bool.eq_false_iff,Ne,hs];simp at h1;omega]
   exact mb X Y x y _ h1 HC w
  ·cases h2:decide (Y≤y)
   ·rw[show ck X Y (n:Int) x y=false by rw[Bool.eq_false_iff,Ne,hs];simp at h2;omega]
    exact me X Y x y _ h1 h2 HC w
   ·have a1:IntKind.u64.wrap ((X:Int)+((2 ^ n:Nat):Int))=((X+2 ^ n:Nat):Int):=by rw[←Int.natCast_add];exact u64_in _ uo
    have a2:IntKind.u64.wrap ((Y:Int)+((2 ^ n:Nat):Int))=((Y+2 ^ n:Nat):Int):=by rw[←Int.natCast_add];exact u64_in _ uo
    cases h3:decide (x<X+2 ^ n)
    ·rw[show ck X Y (n:Int) x y=false by rw[Bool.eq_false_iff,Ne,hs];simp at h3;omega]
     exact mg X Y x y _ _ _ (u64_in _ uo) (u64_in _ uo) a1 HZ h1 h2 h3 HC w
    ·rw[show ck X Y (n:Int) x y=decide (y<Y+2 ^ n) by
      rw[Bool.eq_iff_iff,hs,decide_eq_true_iff];rw[decide_eq_true_iff] at h1 h2 h3;omega]
     exact mh X Y x y _ _ _ _ _ (u64_in _ uo) (u64_in _ uo) a1 (u64_in _ uo) (u64_in _ uo) a2 HZ h1 h2 h3 rfl HC w
structure gR (w:World) (X Y:Nat) (L:Int) (x y:Nat) (l:Int) (W:World):Prop where
 cel:W.heap[w.heap.size]? =some (.cells #[.int .u32 (X:Int),.int .u32 (Y:Int),.int .i64 L] 70 (0,0))
 res:W.heap[w.heap.size+1]? =some (.cells #[.int .u32 (x:Int),.int .u32 (y:Int),.int .i64 l] 70 (0,0))
 bel:Below w.heap.size w W
theorem gR.next {w:World} {X Y:Nat} {L:Int} {x y:Nat} {l:Int} {W W':World} {B:Nat} (h:gR w X Y L x y l W) (hb:Below B W W') (hB:w.heap.size+2≤B):gR w X Y L x y l W':=
 ⟨(hb.block _ uo).trans h.cel,(hb.block _ uo).trans h.res,h.bel.trans (hb.mono uo)⟩
theorem gR.size {w:World} {X Y:Nat} {L:Int} {x y:Nat} {l:Int} {W:World} (h:gR w X Y L x y l W):w.heap.size+2≤W.heap.size:=(zi h.res).1
theorem ew (w:World) (X Y:Nat) (L:Int):gR w X Y L 0 0 0 ((w.alloc (.cells #[.int .u32 (X:Int),.int .u32 (Y:Int),.int .i64 L] 70)).alloc (.cells #[.int .u32 0,.int .u32 0,.int .i64 0] 70)):=by
 refine⟨(Below.heap_alloc _ _ _ us).trans (zq w _),?_,(bF w _).alloc us _⟩;have:=zq (w.alloc (.cells #[.int .u32 (X:Int),.int .u32 (Y:Int),.int .i64 L] 70)) (.cells #[.int .u32 0,.int .u32 0,.int .i64 0] 70);simpa using this
theorem gR.put {w:World} {X Y:Nat} {L:Int} {x y:Nat} {l:Int} {W:World} (h:gR w X Y L x y l W) (x' y':Nat) (l':Int):
  gR w X Y L x' y' l' (((W.setCell ⟨w.heap.size+1,0,none⟩ (.int .u32 (x':Int))).setCell ⟨w.heap.size+1,1,none⟩ (.int .u32 (y':Int))).setCell ⟨w.heap.size+1,2,none⟩ (.int .i64 l')):=by
 obtain⟨h2,b2⟩:=lM h.res (.int .u32 (x':Int)) (.int .u32 (y':Int)) (.int .i64 l');exact⟨(b2.block _ uo).trans h.cel,h2,h.bel.trans (b2.mono uo)⟩
theorem ij (X Y:Nat) (L:Int) (s s2 m:Nat) (q0:¬L=0) (hs:IntKind.u64.wrap ((s2:Int)/2)%4294967296=(s:Int)) (P1:Hid ((X:Int)%4294967296=(X:Int))) (P2:Hid ((Y:Int)%4294967296=(Y:Int))) (P3:Hid (wrap64 (L - 1)=(m:Int)))
  (HC:Hid (∀ w,Calls Tryz.prog 147 #[cv X Y L] w fun e w'=>e=.returned (.bool true)∧Below w.heap.size w w'))
  (HZ:Hid (∀ w,Calls Tryz.prog 148 #[cv X Y L] w fun e w'=>e=.returned (.int .u64 (s2:Int))∧Below w.heap.size w w')) (w:World):
  Calls Tryz.prog 105 #[cv X Y L,.int .i64 0] w fun e w'=>e=.returned (.tuple #[cv X Y (m:Int),.int .i64 0])∧Below w.heap.size w w':=by
 have HN:Hid _:=ew w X Y L;go_enter Tryz.func105,Tryz.ntmps105;go_wp2_with fail;refine um (HC.o _) fun w1 b1=>?_;have HB:Hid (gR w X Y L 0 0 0 w1):=HN.o.next b1 us;obtain⟨d0,d1,d2⟩:=el.cells HB.o.cel;clear b1;go_wp2_with fail;refine um (HZ.o _) fun w2 b2=>?_
 replace HB:Hid (gR w X Y L 0 0 0 w2):=HB.o.next b2 HB.o.size
 clear b2 d0 d1 d2;obtain⟨d0,d1,d2⟩:=el.cells HB.o.cel;obtain⟨z0,z1,z2,c0,c1,c2⟩:=gE HB.o.res;go_wp2_with fail;rw[P1.o,P2.o,P3.o];have Q:=HB.o.put X Y (m:Int);exact bodyPost_ret (jz rfl _ _ (w.heap.size+1) X Y (m:Int) rfl Q.res) rfl ⟨rfl,Q.bel⟩
theorem ik (X Y:Nat) (L:Int) (xr s s2 m:Nat) (q0:¬L=0) (hs:IntKind.u64.wrap ((s2:Int)/2)%4294967296=(s:Int)) (P1:Hid (((X:Int)+(s:Int))%4294967296=(xr:Int))) (P2:Hid ((Y:Int)%4294967296=(Y:Int))) (P3:Hid (wrap64 (L - 1)=(m:Int)))
  (HC:Hid (∀ w,Calls Tryz.prog 147 #[cv X Y L] w fun e w'=>e=.returned (.bool true)∧Below w.heap.size w w'))
  (HZ:Hid (∀ w,Calls Tryz.prog 148 #[cv X Y L] w fun e w'=>e=.returned (.int .u64 (s2:Int))∧Below w.heap.size w w')) (w:World):
  Calls Tryz.prog 105 #[cv X Y L,.int .i64 1] w fun e w'=>e=.returned (.tuple #[cv xr Y (m:Int),.int .i64 0])∧Below w.heap.size w w':=by
 have HN:Hid _:=ew w X Y L;go_enter Tryz.func105,Tryz.ntmps105;go_wp2_with fail;refine um (HC.o _) fun w1 b1=>?_;have HB:Hid (gR w X Y L 0 0 0 w1):=HN.o.next b1 us;obtain⟨d0,d1,d2⟩:=el.cells HB.o.cel;clear b1;go_wp2_with fail;refine um (HZ.o _) fun w2 b2=>?_
 replace HB:Hid (gR w X Y L 0 0 0 w2):=HB.o.next b2 HB.o.size
 clear b2 d0 d1 d2;obtain⟨d0,d1,d2⟩:=el.cells HB.o.cel;obtain⟨z0,z1,z2,c0,c1,c2⟩:=gE HB.o.res;go_wp2_with fail;rw[P1.o,P2.o,P3.o];have Q:=HB.o.put xr Y (m:Int);exact bodyPost_ret (jz rfl _ _ (w.heap.size+1) xr Y (m:Int) rfl Q.res) rfl ⟨rfl,Q.bel⟩
theorem il (X Y:Nat) (L:Int) (yr s s2 m:Nat) (q0:¬L=0) (hs:IntKind.u64.wrap ((s2:Int)/2)%4294967296=(s:Int)) (P1:Hid ((X:Int)%4294967296=(X:Int))) (P2:Hid (((Y:Int)+(s:Int))%4294967296=(yr:Int))) (P3:Hid (wrap64 (L - 1)=(m:Int)))
  (HC:Hid (∀ w,Calls Tryz.prog 147 #[cv X Y L] w fun e w'=>e=.returned (.bool true)∧Below w.heap.size w w'))
  (HZ:Hid (∀ w,Calls Tryz.prog 148 #[cv X Y L] w fun e w'=>e=.returned (.int .u64 (s2:Int))∧Below w.heap.size w w')) (w:World):
  Calls Tryz.prog 105 #[cv X Y L,.int .i64 2] w fun e w'=>e=.returned (.tuple #[cv X yr (m:Int),.int .i64 0])∧Below w.heap.size w w':=by
 have HN:Hid _:=ew w X Y L;go_enter Tryz.func105,Tryz.ntmps105;go_wp2_with fail;refine um (HC.o _) fun w1 b1=>?_;have HB:Hid (gR w X Y L 0 0 0 w1):=HN.o.next b1 us;obtain⟨d0,d1,d2⟩:=el.cells HB.o.cel;clear b1;go_wp2_with fail;refine um (HZ.o _) fun w2 b2=>?_
 replace HB:Hid (gR w X Y L 0 0 0 w2):=HB.o.next b2 HB.o.size
 clear b2 d0 d1 d2;obtain⟨d0,d1,d2⟩:=el.cells HB.o.cel;obtain⟨z0,z1,z2,c0,c1,c2⟩:=gE HB.o.res;go_wp2_with fail;rw[P1.o,P2.o,P3.o];have Q:=HB.o.put X yr (m:Int);exact bodyPost_ret (jz rfl _ _ (w.heap.size+1) X yr (m:Int) rfl Q.res) rfl ⟨rfl,Q.bel⟩
theorem im (X Y:Nat) (L:Int) (xr yr s s2 m:Nat) (q0:¬L=0) (hs:IntKind.u64.wrap ((s2:Int)/2)%4294967296=(s:Int)) (P1:Hid (((X:Int)+(s:Int))%4294967296=(xr:Int))) (P2:Hid (((Y:Int)+(s:Int))%4294967296=(yr:Int))) (P3:Hid (wrap64 (L - 1)=(m:Int)))
  (HC:Hid (∀ w,Calls Tryz.prog 147 #[cv X Y L] w fun e w'=>e=.returned (.bool true)∧Below w.heap.size w w'))
  (HZ:Hid (∀ w,Calls Tryz.prog 148 #[cv X Y L] w fun e w'=>e=.returned (.int .u64 (s2:Int))∧Below w.heap.size w w')) (w:World):
  Calls Tryz.prog 105 #[cv X Y L,.int .i64 3] w fun e w'=>e=.returned (.tuple #[cv xr yr (m:Int),.int .i64 0])∧Below w.heap.size w w':=by
 have HN:Hid _:=ew w X Y L;go_enter Tryz.func105,Tryz.ntmps105;go_wp2_with fail;refine um (HC.o _) fun w1 b1=>?_;have HB:Hid (gR w X Y L 0 0 0 w1):=HN.o.next b1 us;obtain⟨d0,d1,d2⟩:=el.cells HB.o.cel;clear b1;go_wp2_with fail;refine um (HZ.o _) fun w2 b2=>?_
 replace HB:Hid (gR w X Y L 0 0 0 w2):=HB.o.next b2 HB.o.size
 clear b2 d0 d1 d2;obtain⟨d0,d1,d2⟩:=el.cells HB.o.cel;obtain⟨z0,z1,z2,c0,c1,c2⟩:=gE HB.o.res;go_wp2_with fail;rw[P1.o,P2.o,P3.o];have Q:=HB.o.put xr yr (m:Int);exact bodyPost_ret (jz rfl _ _ (w.heap.size+1) xr yr (m:Int) rfl Q.res) rfl ⟨rfl,Q.bel⟩
theorem iL (X Y:Nat) (L i:Int) (p:Bool) (HC:Hid (∀ w,Calls Tryz.prog 147 #[cv X Y L] w fun e w'=>e=.returned (.bool p)∧Below w.heap.size w w')) (h:p=false∨L=0∨i<0∨3<i) (w:World):
  Calls Tryz.prog 105 #[cv X Y L,.int .i64 i] w fun e w'=>e=.returned (.tuple #[cv 0 0 0,.int .i64 2])∧Below w.heap.size w w':=by
 have HN:Hid _:=ew w X Y L;cases p
 ·clear h
  go_enter Tryz.func105,Tryz.ntmps105;go_wp2_with fail;refine um (HC.o _) fun w1 b1=>?_;have HB:Hid (gR w X Y L 0 0 0 w1):=HN.o.next b1 us;obtain⟨d0,d1,d2⟩:=el.cells HB.o.cel;obtain⟨z0,z1,z2,c0,c1,c2⟩:=gE HB.o.res;clear b1;go_wp2_with fail;have Q:=HB.o.put 0 0 0;exact bodyPost_ret (jz rfl _ _ (w.heap.size+1) 0 0 0 rfl Q.res) rfl ⟨rfl,Q.bel⟩
 ·by_cases q0:L=0
  ·subst q0
   clear h;go_enter Tryz.func105,Tryz.ntmps105;go_wp2_with fail;refine um (HC.o _) fun w1 b1=>?_;have HB:Hid (gR w X Y 0 0 0 0 w1):=HN.o.next b1 us;obtain⟨d0,d1,d2⟩:=el.cells HB.o.cel;obtain⟨z0,z1,z2,c0,c1,c2⟩:=gE HB.o.res;clear b1;go_wp2_with fail;have Q:=HB.o.put 0 0 0;exact bodyPost_ret (jz rfl _ _ (w.heap.size+1) 0 0 0 rfl Q.res) rfl ⟨rfl,Q.bel⟩
  ·by_cases q1:i<0
   ·clear h
    go_enter Tryz.func105,Tryz.ntmps105;go_wp2_with fail;refine um (HC.o _) fun w1 b1=>?_;have HB:Hid (gR w X Y L 0 0 0 w1):=HN.o.next b1 us;obtain⟨d0,d1,d2⟩:=el.cells HB.o.cel;obtain⟨z0,z1,z2,c0,c1,c2⟩:=gE HB.o.res;clear b1;go_wp2_with fail;have Q:=HB.o.put 0 0 0;exact bodyPost_ret (jz rfl _ _ (w.heap.size+1) 0 0 0 rfl Q.res) rfl ⟨rfl,Q.bel⟩
   ·have q2:3<i:=by rcases h with h|h|h|h;(cases h);(exact absurd h q0);(exact absurd h q1);exact h
    clear h;go_enter Tryz.func105,Tryz.ntmps105;go_wp2_with fail;refine um (HC.o _) fun w1 b1=>?_;have HB:Hid (gR w X Y L 0 0 0 w1):=HN.o.next b1 us;obtain⟨d0,d1,d2⟩:=el.cells HB.o.cel;obtain⟨z0,z1,z2,c0,c1,c2⟩:=gE HB.o.res;clear b1;go_wp2_with fail;have Q:=HB.o.put 0 0 0;exact bodyPost_ret (jz rfl _ _ (w.heap.size+1) 0 0 0 rfl Q.res) rfl ⟨rfl,Q.bel⟩
end Rc
end Go.Proofs.YtokfnghckpgjmaaGreatDoor
