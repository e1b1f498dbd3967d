import Derived.Test.YtokfnghckpgjmaaGreatDoorPPo
import Derived.Test.YtokfnghckpgjmaaGreatDoorRows
import Derived.Test.YtokfnghckpgjmaaGreatDoorQYM
import Derived.WalkSpells
import Derived.WalkLawsBesides
import Derived.BigQuiet
import Derived.Test.YtokfnghckpgjmaaGreatDoorPPk
set_option maxRecDepth 100000
set_option maxHeartbeats 1000000
namespace Go.Proofs.YtokfnghckpgjmaaGreatDoor
section
open Go.RowKit
theorem zl5 (x:Int) (w:World):
  Calls Tryz.prog 281 #[.int .u32 x,.int .i64 (-2)] w fun e w'=>e=.returned (.int .u32 (t2 x))∧w'=w:=by
 have h16:bits BinOp.and IntKind.u64 (IntKind.u64.wrap (-2)) 31=30:=by decide+kernel
 go_enter Tryz.func281,Tryz.ntmps281
 go_wp2
 go_ret;exact⟨rfl,rfl⟩
theorem zjH (x:Int) (w:World):
  Calls Tryz.prog 282 #[.int .u32 x,.int .i64 2] w fun e w'=>e=.returned (.int .u32 (t2 x))∧w'=w:=by
 go_enter Tryz.func282,Tryz.ntmps282
 go_wp2_with (go_at_call 281;refine(zl5 _ _).mono ?_;rintro e w' ⟨rfl,rfl⟩)
 go_ret;exact⟨rfl,rfl⟩
theorem zl6 (x:Int) (w:World):
  Calls Tryz.prog 281 #[.int .u32 x,.int .i64 (-6)] w fun e w'=>e=.returned (.int .u32 (t6 x))∧w'=w:=by
 have h16:bits BinOp.and IntKind.u64 (IntKind.u64.wrap (-6)) 31=26:=by decide+kernel
 go_enter Tryz.func281,Tryz.ntmps281
 go_wp2
 go_ret;exact⟨rfl,rfl⟩
theorem zjI (x:Int) (w:World):
  Calls Tryz.prog 282 #[.int .u32 x,.int .i64 6] w fun e w'=>e=.returned (.int .u32 (t6 x))∧w'=w:=by
 go_enter Tryz.func282,Tryz.ntmps282
 go_wp2_with (go_at_call 281;refine(zl6 _ _).mono ?_;rintro e w' ⟨rfl,rfl⟩)
 go_ret;exact⟨rfl,rfl⟩
theorem rg (x:Int) (w:World):
  Calls Tryz.prog 281 #[.int .u32 x,.int .i64 (-7)] w fun e w'=>e=.returned (.int .u32 (t7 x))∧w'=w:=by
 have h16:bits BinOp.and IntKind.u64 (IntKind.u64.wrap (-7)) 31=25:=by decide+kernel
 go_enter Tryz.func281,Tryz.ntmps281
 go_wp2
 go_ret;exact⟨rfl,rfl⟩
theorem zjJ (x:Int) (w:World):
  Calls Tryz.prog 282 #[.int .u32 x,.int .i64 7] w fun e w'=>e=.returned (.int .u32 (t7 x))∧w'=w:=by
 go_enter Tryz.func282,Tryz.ntmps282
 go_wp2_with (go_at_call 281;refine(rg _ _).mono ?_;rintro e w' ⟨rfl,rfl⟩)
 go_ret;exact⟨rfl,rfl⟩
theorem zjK (x:Int) (w:World):
  Calls Tryz.prog 281 #[.int .u32 x,.int .i64 (-11)] w fun e w'=>e=.returned (.int .u32 (rQ x))∧w'=w:=by
 have h16:bits BinOp.and IntKind.u64 (IntKind.u64.wrap (-11)) 31=21:=by decide+kernel
 go_enter Tryz.func281,Tryz.ntmps281
 go_wp2
 go_ret;exact⟨rfl,rfl⟩
theorem ziF (x:Int) (w:World):
  Calls Tryz.prog 282 #[.int .u32 x,.int .i64 11] w fun e w'=>e=.returned (.int .u32 (rQ x))∧w'=w:=by
 go_enter Tryz.func282,Tryz.ntmps282
 go_wp2_with (go_at_call 281;refine(zjK _ _).mono ?_;rintro e w' ⟨rfl,rfl⟩)
 go_ret;exact⟨rfl,rfl⟩
theorem zjL (x:Int) (w:World):
  Calls Tryz.prog 281 #[.int .u32 x,.int .i64 (-13)] w fun e w'=>e=.returned (.int .u32 (rR x))∧w'=w:=by
 have h16:bits BinOp.and IntKind.u64 (IntKind.u64.wrap (-13)) 31=19:=by decide+kernel
 go_enter Tryz.func281,Tryz.ntmps281
 go_wp2
 go_ret;exact⟨rfl,rfl⟩
theorem ziG (x:Int) (w:World):
  Calls Tryz.prog 282 #[.int .u32 x,.int .i64 13] w fun e w'=>e=.returned (.int .u32 (rR x))∧w'=w:=by
 go_enter Tryz.func282,Tryz.ntmps282
 go_wp2_with (go_at_call 281;refine(zjL _ _).mono ?_;rintro e w' ⟨rfl,rfl⟩)
 go_ret;exact⟨rfl,rfl⟩
theorem zjM (x:Int) (w:World):
  Calls Tryz.prog 281 #[.int .u32 x,.int .i64 (-17)] w fun e w'=>e=.returned (.int .u32 (t17 x))∧w'=w:=by
 have h16:bits BinOp.and IntKind.u64 (IntKind.u64.wrap (-17)) 31=15:=by decide+kernel
 go_enter Tryz.func281,Tryz.ntmps281
 go_wp2
 go_ret;exact⟨rfl,rfl⟩
theorem ziH (x:Int) (w:World):
  Calls Tryz.prog 282 #[.int .u32 x,.int .i64 17] w fun e w'=>e=.returned (.int .u32 (t17 x))∧w'=w:=by
 go_enter Tryz.func282,Tryz.ntmps282
 go_wp2_with (go_at_call 281;refine(zjM _ _).mono ?_;rintro e w' ⟨rfl,rfl⟩)
 go_ret;exact⟨rfl,rfl⟩
theorem zjN (x:Int) (w:World):
  Calls Tryz.prog 281 #[.int .u32 x,.int .i64 (-18)] w fun e w'=>e=.returned (.int .u32 (pM x))∧w'=w:=by
 have h16:bits BinOp.and IntKind.u64 (IntKind.u64.wrap (-18)) 31=14:=by decide+kernel
 go_enter Tryz.func281,Tryz.ntmps281
 go_wp2
 go_ret;exact⟨rfl,rfl⟩
theorem ziI (x:Int) (w:World):
  Calls Tryz.prog 282 #[.int .u32 x,.int .i64 18] w fun e w'=>e=.returned (.int .u32 (pM x))∧w'=w:=by
 go_enter Tryz.func282,Tryz.ntmps282
 go_wp2_with (go_at_call 281;refine(zjN _ _).mono ?_;rintro e w' ⟨rfl,rfl⟩)
 go_ret;exact⟨rfl,rfl⟩
theorem zjO (x:Int) (w:World):
  Calls Tryz.prog 281 #[.int .u32 x,.int .i64 (-19)] w fun e w'=>e=.returned (.int .u32 (pN x))∧w'=w:=by
 have h16:bits BinOp.and IntKind.u64 (IntKind.u64.wrap (-19)) 31=13:=by decide+kernel
 go_enter Tryz.func281,Tryz.ntmps281
 go_wp2
 go_ret;exact⟨rfl,rfl⟩
theorem ziJ (x:Int) (w:World):
  Calls Tryz.prog 282 #[.int .u32 x,.int .i64 19] w fun e w'=>e=.returned (.int .u32 (pN x))∧w'=w:=by
 go_enter Tryz.func282,Tryz.ntmps282
 go_wp2_with (go_at_call 281;refine(zjO _ _).mono ?_;rintro e w' ⟨rfl,rfl⟩)
 go_ret;exact⟨rfl,rfl⟩
theorem zjP (x:Int) (w:World):
  Calls Tryz.prog 281 #[.int .u32 x,.int .i64 (-22)] w fun e w'=>e=.returned (.int .u32 (t22 x))∧w'=w:=by
 have h16:bits BinOp.and IntKind.u64 (IntKind.u64.wrap (-22)) 31=10:=by decide+kernel
 go_enter Tryz.func281,Tryz.ntmps281
 go_wp2
 go_ret;exact⟨rfl,rfl⟩
theorem ziK (x:Int) (w:World):
  Calls Tryz.prog 282 #[.int .u32 x,.int .i64 22] w fun e w'=>e=.returned (.int .u32 (t22 x))∧w'=w:=by
 go_enter Tryz.func282,Tryz.ntmps282
 go_wp2_with (go_at_call 281;refine(zjP _ _).mono ?_;rintro e w' ⟨rfl,rfl⟩)
 go_ret;exact⟨rfl,rfl⟩
theorem zjQ (x:Int) (w:World):
  Calls Tryz.prog 281 #[.int .u32 x,.int .i64 (-25)] w fun e w'=>e=.returned (.int .u32 (t25 x))∧w'=w:=by
 have h16:bits BinOp.and IntKind.u64 (IntKind.u64.wrap (-25)) 31=7:=by decide+kernel
 go_enter Tryz.func281,Tryz.ntmps281
 go_wp2
 go_ret;exact⟨rfl,rfl⟩
theorem ziL (x:Int) (w:World):
  Calls Tryz.prog 282 #[.int .u32 x,.int .i64 25] w fun e w'=>e=.returned (.int .u32 (t25 x))∧w'=w:=by
 go_enter Tryz.func282,Tryz.ntmps282
 go_wp2_with (go_at_call 281;refine(zjQ _ _).mono ?_;rintro e w' ⟨rfl,rfl⟩)
 go_ret;exact⟨rfl,rfl⟩
theorem zhK (f:Nat→Int) (kw:Int) (w:World):
  Calls Tryz.prog 279 #[.agg (fF f),.int .u32 kw] w fun e w'=>e=.returned (.agg (fF (dW f kw)))∧Below w.heap.size w w':=by
 unfold fF;go_enter Tryz.func279,Tryz.ntmps279;go_wp2_with fail
 go_quiet (fail)
 go_wp2_with fail;refine(zjI _ _).mono ?_;rintro e w' ⟨rfl,rfl⟩
 go_wp2_with fail;refine(ziF _ _).mono ?_;rintro e w' ⟨rfl,rfl⟩
 go_wp2_with fail;refine(ziL _ _).mono ?_;rintro e w' ⟨rfl,rfl⟩
 go_wp2_with fail;refine(zjH _ _).mono ?_;rintro e w' ⟨rfl,rfl⟩
 go_wp2_with fail;refine(ziG _ _).mono ?_;rintro e w' ⟨rfl,rfl⟩
 go_wp2_with fail;refine(ziK _ _).mono ?_;rintro e w' ⟨rfl,rfl⟩
 go_wp2_with fail;refine bodyPost_ret (v:=.agg (fF (dW f kw))) (by simp[results,Tryz.results279,go_sem,fF,dW,T1,T2,s1,s0,ch,mj]) (by rfl) ⟨rfl,?_⟩
 have h0:Below w.heap.size w ((w.alloc (.cells #[.int .u32 (f 0),.int .u32 (f 1),.int .u32 (f 2),.int .u32 (f 3),.int .u32 (f 4),.int .u32 (f 5),.int .u32 (f 6),.int .u32 (f 7)] 332)).alloc (.cells #[.int .u32 0,.int .u32 0,.int .u32 0,.int .u32 0,.int .u32 0,.int .u32 0,.int .u32 0,.int .u32 0] 332)):=
  ((Below.refl _ w).alloc zn _).alloc us _
 exact((((((((below_drewN h0 _).setCell us _).setCell us _).setCell us _).setCell us _).setCell us _).setCell us _).setCell us _).setCell us _
end
namespace Ra
open Go.RowKit
theorem zjR (x:Int) (w:World):
  Calls Tryz.prog 281 #[.int .u32 x,.int .i64 16] w fun e w'=>e=.returned (.int .u32 (zpk x))∧w'=w:=by
 have h16:bits BinOp.and IntKind.u64 16 31=16:=by decide+kernel
 go_enter Tryz.func281,Tryz.ntmps281
 go_wp2
 go_ret;exact⟨rfl,rfl⟩
theorem zjS (x:Int) (w:World):
  Calls Tryz.prog 281 #[.int .u32 x,.int .i64 12] w fun e w'=>e=.returned (.int .u32 (zpl x))∧w'=w:=by
 have h16:bits BinOp.and IntKind.u64 12 31=12:=by decide+kernel
 go_enter Tryz.func281,Tryz.ntmps281
 go_wp2
 go_ret;exact⟨rfl,rfl⟩
theorem zl7 (x:Int) (w:World):
  Calls Tryz.prog 281 #[.int .u32 x,.int .i64 8] w fun e w'=>e=.returned (.int .u32 (oM x))∧w'=w:=by
 have h16:bits BinOp.and IntKind.u64 8 31=8:=by decide+kernel
 go_enter Tryz.func281,Tryz.ntmps281
 go_wp2
 go_ret;exact⟨rfl,rfl⟩
theorem rg (x:Int) (w:World):
  Calls Tryz.prog 281 #[.int .u32 x,.int .i64 7] w fun e w'=>e=.returned (.int .u32 (oN x))∧w'=w:=by
 have h16:bits BinOp.and IntKind.u64 7 31=7:=by decide+kernel
 go_enter Tryz.func281,Tryz.ntmps281
 go_wp2
 go_ret;exact⟨rfl,rfl⟩
theorem zgO (a b c d:Int) (w:World):
  Calls Tryz.prog 276 #[.int .u32 a,.int .u32 b,.int .u32 c,.int .u32 d] w fun e w'=>e=.returned (.agg #[.int .u32 (qa a b c d),.int .u32 (qb a b c d),.int .u32 (qc a b c d),.int .u32 (qd a b c d)])∧
   w'=w.alloc (.cells #[.int .u32 (qa a b c d),.int .u32 (qb a b c d),.int .u32 (qc a b c d),.int .u32 (qd a b c d)] 342):=by
 go_enter Tryz.func276,Tryz.ntmps276;go_wp2_with fail;refine(zjR _ _).mono ?_;rintro e w' ⟨rfl,rfl⟩
 go_wp2_with fail;refine(zjS _ _).mono ?_;rintro e w' ⟨rfl,rfl⟩
 go_wp2_with fail;refine(zl7 _ _).mono ?_;rintro e w' ⟨rfl,rfl⟩
 go_wp2_with fail;refine(rg _ _).mono ?_;rintro e w' ⟨rfl,rfl⟩
 go_wp2_with fail;exact bodyPost_ret (v:=.agg #[.int .u32 (qa a b c d),.int .u32 (qb a b c d),.int .u32 (qc a b c d),.int .u32 (qd a b c d)]) (by simp[results,Tryz.results276,go_sem,qa,qb,qc,qd,pP,rS]) rfl ⟨rfl,rfl⟩
theorem zn3 (key nonce:ByteArray) (w:World) (h1:key.size=32) (h2:nonce.size=12):
  Calls Tryz.prog 213 #[.string key,.string nonce] w fun e w'=>e=.returned (.bool true)∧w'=w:=by
 have g1:((key.size:Int)==32)=true:=by simp[h1]
 have g2:((nonce.size:Int)==12)=true:=by simp[h2]
 clear h1 h2;go_enter Tryz.func213,Tryz.ntmps213
 go_wp2
 go_ret;exact⟨rfl,rfl⟩
theorem zpq (x0 x1 x2 x3 x4 x5 x6 x7 x8 x9 x10 x11 x12 x13 x14 x15 c:Int) (w:World):
  Calls Tryz.prog 243 #[.agg #[.int .u32 x0,.int .u32 x1,.int .u32 x2,.int .u32 x3,.int .u32 x4,.int .u32 x5,.int .u32 x6,.int .u32 x7,.int .u32 x8,.int .u32 x9,.int .u32 x10,.int .u32 x11,.int .u32 x12,.int .u32 x13,.int .u32 x14,.int .u32 x15],.int .u32 c] w fun e w'=>e=.returned (.agg #[.int .u32 x0,.int .u32 x1,.int .u32 x2,.int .u32 x3,.int .u32 x4,.int .u32 x5,.int .u32 x6,.int .u32 x7,.int .u32 x8,.int .u32 x9,.int .u32 x10,.int .u32 x11,.int .u32 c,.int .u32 x13,.int .u32 x14,.int .u32 x15])∧w'=(w.alloc (.cells #[.int .u32 x0,.int .u32 x1,.int .u32 x2,.int .u32 x3,.int .u32 x4,.int .u32 x5,.int .u32 x6,.int .u32 x7,.int .u32 x8,.int .u32 x9,.int .u32 x10,.int .u32 x11,.int .u32 c,.int .u32 x13,.int .u32 x14,.int .u32 x15] 280)).alloc (.cells #[.int .u32 x0,.int .u32 x1,.int .u32 x2,.int .u32 x3,.int .u32 x4,.int .u32 x5,.int .u32 x6,.int .u32 x7,.int .u32 x8,.int .u32 x9,.int .u32 x10,.int .u32 x11,.int .u32 c,.int .u32 x13,.int .u32 x14,.int .u32 x15] 280):=by
 go_enter Tryz.func243,Tryz.ntmps243
 go_wp2
 exact bodyPost_ret (v:=.agg #[.int .u32 x0,.int .u32 x1,.int .u32 x2,.int .u32 x3,.int .u32 x4,.int .u32 x5,.int .u32 x6,.int .u32 x7,.int .u32 x8,.int .u32 x9,.int .u32 x10,.int .u32 x11,.int .u32 c,.int .u32 x13,.int .u32 x14,.int .u32 x15]) (by simp[results,Tryz.results243,go_sem]) rfl ⟨rfl,rfl⟩
theorem zpr (f:Nat→Int) (c:Int) (w:World):
  Calls Tryz.prog 243 #[.agg (cI f),.int .u32 c] w fun e w'=>e=.returned (.agg (cI (upd f 12 c)))∧w'=(w.alloc (.cells (cI (upd f 12 c)) 280)).alloc (.cells (cI (upd f 12 c)) 280):=
 zpq (f 0) (f 1) (f 2) (f 3) (f 4) (f 5) (f 6) (f 7) (f 8) (f 9) (f 10) (f 11) (f 12) (f 13) (f 14) (f 15) c w
end Ra
end Go.Proofs.YtokfnghckpgjmaaGreatDoor
