import Derived.Test.YtfaflomephjkgaaGreatDoorRows
import Derived.Test.YtfaflomephjkgaaGreatDoorQYM
import Derived.WalkSpells
import Derived.WalkLawsBesides
import Derived.Deep.QuietTactic
import Derived.BigQuiet
set_option maxRecDepth 100000
set_option maxHeartbeats 1000000
namespace Go.Proofs.YtfaflomephjkgaaGreatDoor
open Go.RowKit
theorem rot2_any (x:Int) (w:World):
  Calls Tryz.prog 210 #[.int .u32 x,.int .i64 (-2)] w fun e w'=>e=.returned (.int .u32 (t2 x))∧w'=w:=by
 have h16:bits BinOp.and IntKind.u64 (IntKind.u64.wrap (-2)) 31=30:=by decide+kernel
 go_enter Tryz.func210,Tryz.ntmps210
 go_wp2
 go_ret
 exact⟨rfl,rfl⟩
theorem turn2_any (x:Int) (w:World):
  Calls Tryz.prog 211 #[.int .u32 x,.int .i64 2] w fun e w'=>e=.returned (.int .u32 (t2 x))∧w'=w:=by
 go_enter Tryz.func211,Tryz.ntmps211
 go_wp2_with (go_at_call 210;refine(rot2_any _ _).mono ?_;rintro e w' ⟨rfl,rfl⟩)
 go_ret
 exact⟨rfl,rfl⟩
theorem rot6_any (x:Int) (w:World):
  Calls Tryz.prog 210 #[.int .u32 x,.int .i64 (-6)] w fun e w'=>e=.returned (.int .u32 (t6 x))∧w'=w:=by
 have h16:bits BinOp.and IntKind.u64 (IntKind.u64.wrap (-6)) 31=26:=by decide+kernel
 go_enter Tryz.func210,Tryz.ntmps210
 go_wp2
 go_ret
 exact⟨rfl,rfl⟩
theorem turn6_any (x:Int) (w:World):
  Calls Tryz.prog 211 #[.int .u32 x,.int .i64 6] w fun e w'=>e=.returned (.int .u32 (t6 x))∧w'=w:=by
 go_enter Tryz.func211,Tryz.ntmps211
 go_wp2_with (go_at_call 210;refine(rot6_any _ _).mono ?_;rintro e w' ⟨rfl,rfl⟩)
 go_ret
 exact⟨rfl,rfl⟩
theorem rot7_any (x:Int) (w:World):
  Calls Tryz.prog 210 #[.int .u32 x,.int .i64 (-7)] w fun e w'=>e=.returned (.int .u32 (t7 x))∧w'=w:=by
 have h16:bits BinOp.and IntKind.u64 (IntKind.u64.wrap (-7)) 31=25:=by decide+kernel
 go_enter Tryz.func210,Tryz.ntmps210
 go_wp2
 go_ret
 exact⟨rfl,rfl⟩
theorem turn7_any (x:Int) (w:World):
  Calls Tryz.prog 211 #[.int .u32 x,.int .i64 7] w fun e w'=>e=.returned (.int .u32 (t7 x))∧w'=w:=by
 go_enter Tryz.func211,Tryz.ntmps211
 go_wp2_with (go_at_call 210;refine(rot7_any _ _).mono ?_;rintro e w' ⟨rfl,rfl⟩)
 go_ret
 exact⟨rfl,rfl⟩
theorem rot11_any (x:Int) (w:World):
  Calls Tryz.prog 210 #[.int .u32 x,.int .i64 (-11)] w fun e w'=>e=.returned (.int .u32 (t11 x))∧w'=w:=by
 have h16:bits BinOp.and IntKind.u64 (IntKind.u64.wrap (-11)) 31=21:=by decide+kernel
 go_enter Tryz.func210,Tryz.ntmps210
 go_wp2
 go_ret
 exact⟨rfl,rfl⟩
theorem turn11_any (x:Int) (w:World):
  Calls Tryz.prog 211 #[.int .u32 x,.int .i64 11] w fun e w'=>e=.returned (.int .u32 (t11 x))∧w'=w:=by
 go_enter Tryz.func211,Tryz.ntmps211
 go_wp2_with (go_at_call 210;refine(rot11_any _ _).mono ?_;rintro e w' ⟨rfl,rfl⟩)
 go_ret
 exact⟨rfl,rfl⟩
theorem rot13_any (x:Int) (w:World):
  Calls Tryz.prog 210 #[.int .u32 x,.int .i64 (-13)] w fun e w'=>e=.returned (.int .u32 (t13 x))∧w'=w:=by
 have h16:bits BinOp.and IntKind.u64 (IntKind.u64.wrap (-13)) 31=19:=by decide+kernel
 go_enter Tryz.func210,Tryz.ntmps210
 go_wp2
 go_ret
 exact⟨rfl,rfl⟩
theorem turn13_any (x:Int) (w:World):
  Calls Tryz.prog 211 #[.int .u32 x,.int .i64 13] w fun e w'=>e=.returned (.int .u32 (t13 x))∧w'=w:=by
 go_enter Tryz.func211,Tryz.ntmps211
 go_wp2_with (go_at_call 210;refine(rot13_any _ _).mono ?_;rintro e w' ⟨rfl,rfl⟩)
 go_ret
 exact⟨rfl,rfl⟩
theorem rot17_any (x:Int) (w:World):
  Calls Tryz.prog 210 #[.int .u32 x,.int .i64 (-17)] w fun e w'=>e=.returned (.int .u32 (t17 x))∧w'=w:=by
 have h16:bits BinOp.and IntKind.u64 (IntKind.u64.wrap (-17)) 31=15:=by decide+kernel
 go_enter Tryz.func210,Tryz.ntmps210
 go_wp2
 go_ret
 exact⟨rfl,rfl⟩
theorem turn17_any (x:Int) (w:World):
  Calls Tryz.prog 211 #[.int .u32 x,.int .i64 17] w fun e w'=>e=.returned (.int .u32 (t17 x))∧w'=w:=by
 go_enter Tryz.func211,Tryz.ntmps211
 go_wp2_with (go_at_call 210;refine(rot17_any _ _).mono ?_;rintro e w' ⟨rfl,rfl⟩)
 go_ret
 exact⟨rfl,rfl⟩
theorem rot18_any (x:Int) (w:World):
  Calls Tryz.prog 210 #[.int .u32 x,.int .i64 (-18)] w fun e w'=>e=.returned (.int .u32 (t18 x))∧w'=w:=by
 have h16:bits BinOp.and IntKind.u64 (IntKind.u64.wrap (-18)) 31=14:=by decide+kernel
 go_enter Tryz.func210,Tryz.ntmps210
 go_wp2
 go_ret
 exact⟨rfl,rfl⟩
theorem turn18_any (x:Int) (w:World):
  Calls Tryz.prog 211 #[.int .u32 x,.int .i64 18] w fun e w'=>e=.returned (.int .u32 (t18 x))∧w'=w:=by
 go_enter Tryz.func211,Tryz.ntmps211
 go_wp2_with (go_at_call 210;refine(rot18_any _ _).mono ?_;rintro e w' ⟨rfl,rfl⟩)
 go_ret
 exact⟨rfl,rfl⟩
theorem rot19_any (x:Int) (w:World):
  Calls Tryz.prog 210 #[.int .u32 x,.int .i64 (-19)] w fun e w'=>e=.returned (.int .u32 (t19 x))∧w'=w:=by
 have h16:bits BinOp.and IntKind.u64 (IntKind.u64.wrap (-19)) 31=13:=by decide+kernel
 go_enter Tryz.func210,Tryz.ntmps210
 go_wp2
 go_ret
 exact⟨rfl,rfl⟩
theorem turn19_any (x:Int) (w:World):
  Calls Tryz.prog 211 #[.int .u32 x,.int .i64 19] w fun e w'=>e=.returned (.int .u32 (t19 x))∧w'=w:=by
 go_enter Tryz.func211,Tryz.ntmps211
 go_wp2_with (go_at_call 210;refine(rot19_any _ _).mono ?_;rintro e w' ⟨rfl,rfl⟩)
 go_ret
 exact⟨rfl,rfl⟩
theorem rot22_any (x:Int) (w:World):
  Calls Tryz.prog 210 #[.int .u32 x,.int .i64 (-22)] w fun e w'=>e=.returned (.int .u32 (t22 x))∧w'=w:=by
 have h16:bits BinOp.and IntKind.u64 (IntKind.u64.wrap (-22)) 31=10:=by decide+kernel
 go_enter Tryz.func210,Tryz.ntmps210
 go_wp2
 go_ret
 exact⟨rfl,rfl⟩
theorem turn22_any (x:Int) (w:World):
  Calls Tryz.prog 211 #[.int .u32 x,.int .i64 22] w fun e w'=>e=.returned (.int .u32 (t22 x))∧w'=w:=by
 go_enter Tryz.func211,Tryz.ntmps211
 go_wp2_with (go_at_call 210;refine(rot22_any _ _).mono ?_;rintro e w' ⟨rfl,rfl⟩)
 go_ret
 exact⟨rfl,rfl⟩
theorem rot25_any (x:Int) (w:World):
  Calls Tryz.prog 210 #[.int .u32 x,.int .i64 (-25)] w fun e w'=>e=.returned (.int .u32 (t25 x))∧w'=w:=by
 have h16:bits BinOp.and IntKind.u64 (IntKind.u64.wrap (-25)) 31=7:=by decide+kernel
 go_enter Tryz.func210,Tryz.ntmps210
 go_wp2
 go_ret
 exact⟨rfl,rfl⟩
theorem turn25_any (x:Int) (w:World):
  Calls Tryz.prog 211 #[.int .u32 x,.int .i64 25] w fun e w'=>e=.returned (.int .u32 (t25 x))∧w'=w:=by
 go_enter Tryz.func211,Tryz.ntmps211
 go_wp2_with (go_at_call 210;refine(rot25_any _ _).mono ?_;rintro e w' ⟨rfl,rfl⟩)
 go_ret
 exact⟨rfl,rfl⟩
theorem step_any (f:Nat→Int) (kw:Int) (w:World):
  Calls Tryz.prog 203 #[.agg (st8 f),.int .u32 kw] w fun e w'=>e=.returned (.agg (st8 (stp f kw)))∧Below w.heap.size w w':=by
 unfold st8
 go_enter Tryz.func203,Tryz.ntmps203
 go_wp2_with fail
 go_quiet (fail)
 go_wp2_with fail
 refine(turn6_any _ _).mono ?_;rintro e w' ⟨rfl,rfl⟩
 go_wp2_with fail
 refine(turn11_any _ _).mono ?_;rintro e w' ⟨rfl,rfl⟩
 go_wp2_with fail
 refine(turn25_any _ _).mono ?_;rintro e w' ⟨rfl,rfl⟩
 go_wp2_with fail
 refine(turn2_any _ _).mono ?_;rintro e w' ⟨rfl,rfl⟩
 go_wp2_with fail
 refine(turn13_any _ _).mono ?_;rintro e w' ⟨rfl,rfl⟩
 go_wp2_with fail
 refine(turn22_any _ _).mono ?_;rintro e w' ⟨rfl,rfl⟩
 go_wp2_with fail
 refine bodyPost_ret (v:=.agg (st8 (stp f kw))) (by simp[results,Tryz.results203,go_sem,st8,stp,T1,T2,s1,s0,ch,mj]) (by rfl) ⟨rfl,?_⟩
 have h0:Below w.heap.size w ((w.alloc (.cells #[.int .u32 (f 0),.int .u32 (f 1),.int .u32 (f 2),.int .u32 (f 3),.int .u32 (f 4),.int .u32 (f 5),.int .u32 (f 6),.int .u32 (f 7)] 218)).alloc (.cells #[.int .u32 0,.int .u32 0,.int .u32 0,.int .u32 0,.int .u32 0,.int .u32 0,.int .u32 0,.int .u32 0] 218)):=
  ((Below.refl _ w).alloc (Nat.le_refl _) _).alloc (by simp) _
 exact((((((((below_drewN h0 _).setCell (by simp) _).setCell (by simp) _).setCell (by simp) _).setCell (by simp) _).setCell (by simp) _).setCell (by simp) _).setCell (by simp) _).setCell (by simp) _
end Go.Proofs.YtfaflomephjkgaaGreatDoor
namespace Go.Proofs.YtfaflomephjkgaaGreatDoor.Ra
open Go.RowKit
theorem rot16_any (x:Int) (w:World):
  Calls Tryz.prog 210 #[.int .u32 x,.int .i64 16] w fun e w'=>e=.returned (.int .u32 (rot16 x))∧w'=w:=by
 have h16:bits BinOp.and IntKind.u64 16 31=16:=by decide+kernel
 go_enter Tryz.func210,Tryz.ntmps210
 go_wp2
 go_ret
 exact⟨rfl,rfl⟩
theorem rot12_any (x:Int) (w:World):
  Calls Tryz.prog 210 #[.int .u32 x,.int .i64 12] w fun e w'=>e=.returned (.int .u32 (rot12 x))∧w'=w:=by
 have h16:bits BinOp.and IntKind.u64 12 31=12:=by decide+kernel
 go_enter Tryz.func210,Tryz.ntmps210
 go_wp2
 go_ret
 exact⟨rfl,rfl⟩
theorem rot8_any (x:Int) (w:World):
  Calls Tryz.prog 210 #[.int .u32 x,.int .i64 8] w fun e w'=>e=.returned (.int .u32 (rot8 x))∧w'=w:=by
 have h16:bits BinOp.and IntKind.u64 8 31=8:=by decide+kernel
 go_enter Tryz.func210,Tryz.ntmps210
 go_wp2
 go_ret
 exact⟨rfl,rfl⟩
theorem rot7_any (x:Int) (w:World):
  Calls Tryz.prog 210 #[.int .u32 x,.int .i64 7] w fun e w'=>e=.returned (.int .u32 (rot7 x))∧w'=w:=by
 have h16:bits BinOp.and IntKind.u64 7 31=7:=by decide+kernel
 go_enter Tryz.func210,Tryz.ntmps210
 go_wp2
 go_ret
 exact⟨rfl,rfl⟩
theorem turned16_any (x:Int) (w:World):
  Calls Tryz.prog 186 #[.int .u32 x,.int .i64 16] w fun e w'=>e=.returned (.int .u32 (rot16 x))∧∃ n,w'=w.drewN n:=by
 go_enter Tryz.func186,Tryz.ntmps186
 go_wp2
 go_quiet (fail)
 go_wp2
 go_ret
 exact⟨rfl,_,rfl⟩
theorem turned12_any (x:Int) (w:World):
  Calls Tryz.prog 186 #[.int .u32 x,.int .i64 12] w fun e w'=>e=.returned (.int .u32 (rot12 x))∧∃ n,w'=w.drewN n:=by
 go_enter Tryz.func186,Tryz.ntmps186
 go_wp2
 go_quiet (fail)
 go_wp2
 go_ret
 exact⟨rfl,_,rfl⟩
theorem turned8_any (x:Int) (w:World):
  Calls Tryz.prog 186 #[.int .u32 x,.int .i64 8] w fun e w'=>e=.returned (.int .u32 (rot8 x))∧∃ n,w'=w.drewN n:=by
 go_enter Tryz.func186,Tryz.ntmps186
 go_wp2
 go_quiet (fail)
 go_wp2
 go_ret
 exact⟨rfl,_,rfl⟩
theorem turned7_any (x:Int) (w:World):
  Calls Tryz.prog 186 #[.int .u32 x,.int .i64 7] w fun e w'=>e=.returned (.int .u32 (rot7 x))∧∃ n,w'=w.drewN n:=by
 go_enter Tryz.func186,Tryz.ntmps186
 go_wp2
 go_quiet (fail)
 go_wp2
 go_ret
 exact⟨rfl,_,rfl⟩
theorem quarter_any (a b c d:Int) (w:World):
  Calls Tryz.prog 200 #[.int .u32 a,.int .u32 b,.int .u32 c,.int .u32 d] w fun e w'=>e=.returned (.agg #[.int .u32 (qa a b c d),.int .u32 (qb a b c d),.int .u32 (qc a b c d),.int .u32 (qd a b c d)])∧
   w'=w.alloc (.cells #[.int .u32 (qa a b c d),.int .u32 (qb a b c d),.int .u32 (qc a b c d),.int .u32 (qd a b c d)] 210):=by
 go_enter Tryz.func200,Tryz.ntmps200
 go_wp2_with fail
 refine(rot16_any _ _).mono ?_;rintro e w' ⟨rfl,rfl⟩
 go_wp2_with fail
 refine(rot12_any _ _).mono ?_;rintro e w' ⟨rfl,rfl⟩
 go_wp2_with fail
 refine(rot8_any _ _).mono ?_;rintro e w' ⟨rfl,rfl⟩
 go_wp2_with fail
 refine(rot7_any _ _).mono ?_;rintro e w' ⟨rfl,rfl⟩
 go_wp2_with fail
 exact bodyPost_ret (v:=.agg #[.int .u32 (qa a b c d),.int .u32 (qb a b c d),.int .u32 (qc a b c d),.int .u32 (qd a b c d)]) (by simp[results,Tryz.results200,go_sem,qa,qb,qc,qd,qd1,qb1]) rfl ⟨rfl,rfl⟩
theorem fit_yes (key nonce:ByteArray) (w:World) (h1:key.size=32) (h2:nonce.size=12):
  Calls Tryz.prog 138 #[.string key,.string nonce] w fun e w'=>e=.returned (.bool true)∧w'=w:=by
 have g1:((key.size:Int)==32)=true:=by simp[h1]
 have g2:((nonce.size:Int)==12)=true:=by simp[h2]
 clear h1 h2
 go_enter Tryz.func138,Tryz.ntmps138
 go_wp2
 go_ret
 exact⟨rfl,rfl⟩
theorem at_lit (x0 x1 x2 x3 x4 x5 x6 x7 x8 x9 x10 x11 x12 x13 x14 x15 c:Int) (w:World):
  Calls Tryz.prog 162 #[.agg #[.int .u32 x0,.int .u32 x1,.int .u32 x2,.int .u32 x3,.int .u32 x4,.int .u32 x5,.int .u32 x6,.int .u32 x7,.int .u32 x8,.int .u32 x9,.int .u32 x10,.int .u32 x11,.int .u32 x12,.int .u32 x13,.int .u32 x14,.int .u32 x15],.int .u32 c] w fun e w'=>e=.returned (.agg #[.int .u32 x0,.int .u32 x1,.int .u32 x2,.int .u32 x3,.int .u32 x4,.int .u32 x5,.int .u32 x6,.int .u32 x7,.int .u32 x8,.int .u32 x9,.int .u32 x10,.int .u32 x11,.int .u32 c,.int .u32 x13,.int .u32 x14,.int .u32 x15])∧w'=(w.alloc (.cells #[.int .u32 x0,.int .u32 x1,.int .u32 x2,.int .u32 x3,.int .u32 x4,.int .u32 x5,.int .u32 x6,.int .u32 x7,.int .u32 x8,.int .u32 x9,.int .u32 x10,.int .u32 x11,.int .u32 c,.int .u32 x13,.int .u32 x14,.int .u32 x15] 179)).alloc (.cells #[.int .u32 x0,.int .u32 x1,.int .u32 x2,.int .u32 x3,.int .u32 x4,.int .u32 x5,.int .u32 x6,.int .u32 x7,.int .u32 x8,.int .u32 x9,.int .u32 x10,.int .u32 x11,.int .u32 c,.int .u32 x13,.int .u32 x14,.int .u32 x15] 179):=by
 go_enter Tryz.func162,Tryz.ntmps162
 go_wp2
 exact bodyPost_ret (v:=.agg #[.int .u32 x0,.int .u32 x1,.int .u32 x2,.int .u32 x3,.int .u32 x4,.int .u32 x5,.int .u32 x6,.int .u32 x7,.int .u32 x8,.int .u32 x9,.int .u32 x10,.int .u32 x11,.int .u32 c,.int .u32 x13,.int .u32 x14,.int .u32 x15]) (by simp[results,Tryz.results162,go_sem]) rfl ⟨rfl,rfl⟩
theorem at_any (f:Nat→Int) (c:Int) (w:World):
  Calls Tryz.prog 162 #[.agg (stc f),.int .u32 c] w fun e w'=>e=.returned (.agg (stc (upd f 12 c)))∧w'=(w.alloc (.cells (stc (upd f 12 c)) 179)).alloc (.cells (stc (upd f 12 c)) 179):=
 at_lit (f 0) (f 1) (f 2) (f 3) (f 4) (f 5) (f 6) (f 7) (f 8) (f 9) (f 10) (f 11) (f 12) (f 13) (f 14) (f 15) c w
def wdAt (s:ByteArray) (a:Nat):Int:=wrd (bt s a) (bt s (a+1)) (bt s (a+2)) (bt s (a+3))
theorem wdAt_get (s:ByteArray) (a:Nat) (h:a+4≤s.size):wdAt s a=bits BinOp.or IntKind.u32 (bits BinOp.or IntKind.u32 (bits BinOp.or IntKind.u32 ((s[a].toNat:Int)%4294967296) ((s[a+1].toNat:Int)%4294967296*256%4294967296)) ((s[a+2].toNat:Int)%4294967296*65536%4294967296)) ((s[a+3].toNat:Int)%4294967296*16777216%4294967296):=by
 unfold wdAt wrd
 rw[bt_get s a (by omega),bt_get s (a+1) (by omega),bt_get s (a+2) (by omega),bt_get s (a+3) (by omega)]
 simp only[IntKind.wrap_u32']
theorem word_any (s:ByteArray) (a:Nat) (h:a+4≤s.size) (hm:s.size≤1000) (w:World):
  Calls Tryz.prog 172 #[.string s,.int .i64 (a:Int)] w fun e w'=>e=.returned (.int .u32 (wdAt s a))∧∃ n,w'=w.drewN n:=by
 have k0:(0:Int)≤(a:Int):=by omega
 have kn:a<s.size:=by omega
 have k0':(a:Int)<(s.size:Int):=by omega
 have k1:(a:Int)+1<(s.size:Int):=by omega
 have k2:(a:Int)+2<(s.size:Int):=by omega
 have k3:(a:Int)+3<(s.size:Int):=by omega
 have ka:(a:Int)≤1000:=by omega
 have n1:(0:Int)≤(a:Int)+1:=by omega
 have n2:(0:Int)≤(a:Int)+2:=by omega
 have n3:(0:Int)≤(a:Int)+3:=by omega
 go_enter Tryz.func172,Tryz.ntmps172
 go_wp2
 go_quiet (fail)
 go_wp2
 go_ret
 refine⟨?_,_,rfl⟩
 rw[wdAt_get s a h]
 rfl
theorem info22:(Tryz.prog.info? 32).map (fun i=>(i.zero,i.size,i.bytes))=some (some (.int .u32 0),1,4):=by kernel_rfl
def RowS (w:World) (g cap:Nat) (f:Nat→Int):Prop:=
 ∃ cur,w.heap[g]? =some (.cells cur 32 (0,0))∧cur.size=cap∧16≤cap∧∀ i,i<16→cur[i]? =some (.int .u32 (f i))
theorem RowS.cell {w:World} {g cap:Nat} {f:Nat→Int} (h:RowS w g cap f) (i:Nat) (hi:i<16):w.cell? ⟨g,i,none⟩=some (.int .u32 (f i))∧w.frozen? ⟨g,i,none⟩=false:=by
 obtain⟨cur,h1,_,_,h4⟩:=h
 exact⟨(cell_of_row _ _ _ _ _ _ h1).trans (h4 i hi),frozen_of_row _ _ _ _ _ h1⟩
theorem RowS.set {w:World} {g cap:Nat} {f:Nat→Int} (h:RowS w g cap f) (a:Nat) (x:Int) (ha:a<16):RowS (w.setCell ⟨g,a,none⟩ (.int .u32 x)) g cap (upd f a x):=by
 obtain⟨cur,h1,h2,h3,h4⟩:=h
 refine⟨_,heap_setCell_same _ _ _ _ _ _ h1,by simpa using h2,h3,fun i hi=>?_⟩
 unfold upd
 by_cases e:i=a
 ·subst e
  rw[Array.getElem?_setIfInBounds_self_of_lt (by omega)];simp
 ·rw[Array.getElem?_setIfInBounds_ne (by omega),h4 i hi];simp[e]
theorem RowS.same {w w':World} {g cap:Nat} {f:Nat→Int} (h:RowS w g cap f) (hh:w'.heap[g]? =w.heap[g]?):RowS w' g cap f:=by
 obtain⟨cur,h1,h2,h3,h4⟩:=h
 exact⟨cur,hh.trans h1,h2,h3,h4⟩
theorem RowS.lt {w:World} {g cap:Nat} {f:Nat→Int} (h:RowS w g cap f):g<w.heap.size:=by
 obtain⟨cur,h1,_⟩:=h
 exact(Array.getElem?_eq_some_iff.1 h1).1
end Go.Proofs.YtfaflomephjkgaaGreatDoor.Ra
