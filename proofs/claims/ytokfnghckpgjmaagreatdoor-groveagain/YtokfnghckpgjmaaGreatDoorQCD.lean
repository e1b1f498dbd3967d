/- math/bits.Len32. -/
import Derived.Test.YtokfnghckpgjmaaGreatDoorQCC
import Derived.Lib.Walk
set_option maxRecDepth 100000
set_option maxHeartbeats 4000000
namespace Go.Proofs.YtokfnghckpgjmaaGreatDoor
namespace Rc
open Go.RowKit
theorem zcL:(Lib.len8tab.size:Int)=256:=by
 have:Lib.len8tab.size=256:=by decide
 omega
theorem ze5 (y:Int) (h:y.toNat<Lib.len8tab.size) (h0:0≤y) (h1:y≤255):((Lib.len8tab[y.toNat]'h).toNat:Int)=(Lib.bitLen y.toNat:Int)∧Lib.bitLen y.toNat≤8:=by
 refine⟨?_,Lib.bitLen_le8' y h0 h1⟩;rw[←Lib.len8_of y h0 h1];unfold Lib.len8;rw[getElem?_pos Lib.len8tab y.toNat h];rfl
theorem ze6 (k a b:Nat) (hk:k≤56) (ha:a≤8) (hb:b=k+a):wrap64 ((k:Int)+wrap64 (a:Int))=(b:Int):=by
 unfold wrap64;omega
theorem zmb (a:Nat) (ha:a≤8):wrap64 (wrap64 (a:Int))=(a:Int):=by
 unfold wrap64;omega
theorem znD (x:Int):(x/65536/256).toNat=x.toNat/16777216:=by omega
theorem znE (x:Int):(x/65536).toNat=x.toNat/65536:=by omega
theorem zpt (x:Int):(x/256).toNat=x.toNat/256:=by omega
theorem zj3 (x:Int) (w:World) (h0:0≤x) (h1:x≤4294967295):
  Calls Tryz.prog 129 #[.int .u32 x] w fun e w'=>e=.returned (.int .i64 (Lib.bitLen x.toNat))∧w'=w:=by
 go_enter Tryz.func129,Tryz.ntmps129
 go_wp2
 all_goals first
  |(go_ret;refine⟨congrArg Ending.returned (congrArg (Value.int IntKind.i64) ?_),rfl⟩)
  |(exfalso;have hs:=zcL;omega)
 ·have hs:=zcL
  obtain⟨e,l⟩:=ze5 (x/65536/256) (by omega) (by omega) (by omega);rw[e,znD];rw[znD] at l
  exact ze6 24 _ _ (by decide) l (Lib.bitLen_shift24 x.toNat (by omega) (by omega))
 ·have hs:=zcL
  obtain⟨e,l⟩:=ze5 (x/65536) (by omega) (by omega) (by omega);rw[e,znE];rw[znE] at l
  exact ze6 16 _ _ (by decide) l (Lib.bitLen_shift16 x.toNat (by omega) (by omega))
 ·have hs:=zcL
  obtain⟨e,l⟩:=ze5 (x/256) (by omega) (by omega) (by omega);rw[e,zpt];rw[zpt] at l
  exact ze6 8 _ _ (by decide) l (Lib.bitLen_shift8 x.toNat (by omega) (by omega))
 ·have hs:=zcL
  obtain⟨e,l⟩:=ze5 x (by omega) (by omega) (by omega);rw[e];exact zmb _ l
open Go.RowKit Go.Lib
theorem zdc {fn:Func} {p u:Tmp} (h:fn.results=#[.cell p 70,.tmp u]) (tmps:Array Value) (w:World) (g:Nat) (X Y:Nat) (L:Int) {t:TypeId} {fr:Nat × Nat}
  (hp:tmps.getD p undef=.pointer (some ⟨g,0,none⟩)) (hg:w.heap[g]? =some (.cells #[.int .u32 (X:Int),.int .u32 (Y:Int),.int .i64 L] t fr)):(results fn tmps).run Tryz.prog w=.ok (.tuple #[cv X Y L,tmps.getD u undef]) w:=by
 rw[results_cell_tmp h,hp];simp[asAddr,run_loadVar_row w g t 70 _ fr _ hg Tryz.underlying70 rfl (by kernel_rfl)]
theorem zbn (w:World) (g k:Nat) (v:Value):w.grownBy (w.setCell ⟨g,k,none⟩ v) (some g):=
 ⟨rfl,rfl,rfl,by simp[World.setCell],fun j _ hne=>Below.heap_setCell _ _ _ _ (fun e=>hne (by rw[e]))⟩
theorem zae {B r:Nat} {X Y:World} (hg:X.grownBy Y (some r)) (hr:B≤r) (hB:B≤X.heap.size):Below B X Y:=⟨hg.os,hg.tape,hg.output,hg.size,fun k hk=>hg.block k (by omega) (by intro e;cases e;omega)⟩
theorem zcM {w:World} {g:Nat} {x y z:Value} (h:w.heap[g]? =some (.cells #[x,y,z] 70 (0,0))) (a b c:Value):
  (((w.setCell ⟨g,0,none⟩ a).setCell ⟨g,1,none⟩ b).setCell ⟨g,2,none⟩ c).heap[g]? =some (.cells #[a,b,c] 70 (0,0))∧Below g w (((w.setCell ⟨g,0,none⟩ a).setCell ⟨g,1,none⟩ b).setCell ⟨g,2,none⟩ c):=by
 have hl:=(zi h).1;have X1:=zx w g 0 _ _ a h;have X2:=zx _ g 1 _ _ b X1;have X3:=zx _ g 2 _ _ c X2;exact⟨X3,(zae (zbn w g 0 _) zn (by omega)).trans ((zae (zbn _ g 1 _) zn (by simp[World.setCell];omega)).trans (zae (zbn _ g 2 _) zn (by simp[World.setCell];omega)))⟩
theorem zaM {w:World} {g:Nat} {x y z:Value} (h:w.heap[g]? =some (.cells #[x,y,z] 70 (0,0))):
  w.frozen? ⟨g,0,none⟩=false∧w.frozen? ⟨g,1,none⟩=false∧w.frozen? ⟨g,2,none⟩=false∧w.cell? ⟨g,0,none⟩=some x∧w.cell? ⟨g,1,none⟩=some y∧w.cell? ⟨g,2,none⟩=some z:=
 ⟨frozen_of_row w g 0 _ _ h,frozen_of_row w g 1 _ _ h,frozen_of_row w g 2 _ _ h,by rw[zr h];rfl,by rw[zr h];rfl,by rw[zr h];rfl⟩
theorem zmc (x y u v:Nat) (h:(onS x y&&onS u v)=false) (w:World):
  Calls Tryz.prog 145 #[.int .u32 (x:Int),.int .u32 (y:Int),.int .u32 (u:Int),.int .u32 (v:Int)] w fun e w'=>e=.returned (.tuple #[cv 0 0 0,.int .i64 2])∧Below w.heap.size w w':=by
 have HC:Hid _:=zbf x y;have HD:Hid _:=zbf u v;cases h1:onS x y
 ·rw[h1] at HC
  clear h h1 HD;go_enter Tryz.func145,Tryz.ntmps145;go_wp2_with fail;refine(HC.out _).mono ?_;rintro e w1 ⟨rfl,hw1⟩;subst hw1;go_wp2_with fail;exact bodyPost_ret (zdc rfl _ _ w.heap.size 0 0 0 rfl (zq w _)) rfl ⟨rfl,zaa _ _⟩
 ·rw[h1] at HC h
  have h2:onS u v=false:=by simpa using h
  rw[h2] at HD;clear h h1 h2;go_enter Tryz.func145,Tryz.ntmps145;go_wp2_with fail;refine(HC.out _).mono ?_;rintro e w1 ⟨rfl,hw1⟩;subst hw1;go_wp2_with fail;refine(HD.out _).mono ?_;rintro e w1 ⟨rfl,hw1⟩;subst hw1;go_wp2_with fail;exact bodyPost_ret (zdc rfl _ _ w.heap.size 0 0 0 rfl (zq w _)) rfl ⟨rfl,zaa _ _⟩
theorem zmd (x y u v:Nat) (h1:onS x y=true) (h2:onS u v=true) (w:World):
  Calls Tryz.prog 145 #[.int .u32 (x:Int),.int .u32 (y:Int),.int .u32 (u:Int),.int .u32 (v:Int)] w fun e w'=>e=.returned (.tuple #[cv (flr x (lvl x y u v)) (flr y (lvl x y u v)) (lvl x y u v:Int),.int .i64 0])∧Below w.heap.size w w':=by
 have HC:Hid _:=zbf x y;have HD:Hid _:=zbf u v;rw[h1] at HC;rw[h2] at HD
 have HL:Hid (∀ w,Calls Tryz.prog 129 #[.int .u32 (bits .or .u32 (bits .xor .u32 (x:Int) (u:Int)) (bits .xor .u32 (y:Int) (v:Int)))] w fun e w'=>e=.returned (.int .i64 (lvl x y u v:Int))∧w'=w):=fun w=>by
  unfold onS at h1 h2;rw[decide_eq_true_iff] at h1 h2;have k1:x ^^^ u<2 ^ 32:=Nat.xor_lt_two_pow (by omega) (by omega);have k2:y ^^^ v<2 ^ 32:=Nat.xor_lt_two_pow (by omega) (by omega);have k3:(x ^^^ u)|||(y ^^^ v)<2 ^ 32:=Nat.or_lt_two_pow k1 k2
  rw[u32_xor_nat x u (by omega) (by omega),u32_xor_nat y v (by omega) (by omega),u32_or_nat _ _ k1 k2];have:=zj3 (((x ^^^ u)|||(y ^^^ v):Nat):Int) w (by omega) (by omega);rw[Int.toNat_natCast] at this;exact this
 have h1':=h1;have h2':=h2;unfold onS at h1' h2';rw[decide_eq_true_iff] at h1' h2';have HA:Hid _:=zcu x y (lvl x y u v) (by omega) (by omega) (zpn x y u v h1'.1 h1'.2 h2'.1 h2'.2);clear h1 h2 h1' h2';generalize lvl x y u v=l at*
 generalize flr x l=p at*
 generalize flr y l=q at*
 go_enter Tryz.func145,Tryz.ntmps145;go_wp2_with fail;refine(HC.out _).mono ?_;rintro e w1 ⟨rfl,hw1⟩;subst hw1;go_wp2_with fail;refine(HD.out _).mono ?_;rintro e w1 ⟨rfl,hw1⟩;subst hw1;go_wp2_with fail;refine(HL.out _).mono ?_;rintro e w1 ⟨rfl,hw1⟩;subst hw1;go_wp2_with fail;refine(HA.out _).mono ?_;rintro e w1 ⟨rfl,b1⟩;have HB:Hid (Below w.heap.size w w1):=(zaa w _).trans (b1.mono (by simp));have H0:Hid (w1.heap[w.heap.size]? =some (.cells #[.int .u32 0,.int .u32 0,.int .i64 0] 70 (0,0))):=(b1.block _ (by simp)).trans (zq w _);obtain⟨z0,z1,z2,c0,c1,c2⟩:=zaM H0.out;clear b1;go_wp2_with fail;obtain⟨X3,B3⟩:=zcM H0.out (.int .u32 (p:Int)) (.int .u32 (q:Int)) (.int .i64 (l:Int));exact bodyPost_ret (zdc rfl _ _ w.heap.size p q l rfl X3) rfl ⟨rfl,HB.out.trans B3⟩
def zam:Value→Nat|.int _ x=>x.toNat|_=>0
theorem ix0 (a b c d e f g h:Value) (w:World):(Instr.index 294 (.agg #[a,b,c,d,e,f,g,h]) (.int .i64 0)).run Tryz.prog w=.ok (.agg #[a,b]) w:=by kernel_rfl
theorem ix1 (a b c d e f g h:Value) (w:World):(Instr.index 294 (.agg #[a,b,c,d,e,f,g,h]) (.int .i64 1)).run Tryz.prog w=.ok (.agg #[c,d]) w:=by kernel_rfl
theorem ix2 (a b c d e f g h:Value) (w:World):(Instr.index 294 (.agg #[a,b,c,d,e,f,g,h]) (.int .i64 2)).run Tryz.prog w=.ok (.agg #[e,f]) w:=by kernel_rfl
theorem ix3 (a b c d e f g h:Value) (w:World):(Instr.index 294 (.agg #[a,b,c,d,e,f,g,h]) (.int .i64 3)).run Tryz.prog w=.ok (.agg #[g,h]) w:=by kernel_rfl
end Rc
end Go.Proofs.YtokfnghckpgjmaaGreatDoor
