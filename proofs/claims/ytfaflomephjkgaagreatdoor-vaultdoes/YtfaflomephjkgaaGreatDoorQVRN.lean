/- The reference's open, where the tag is as told and the head is none: the walk. -/
import Derived.Test.YtfaflomephjkgaaGreatDoorQVRC
import Derived.Test.YtfaflomephjkgaaGreatDoorQVM
import Derived.BigQuiet
import Derived.Lib.EndianBits
import Derived.Test.YtfaflomephjkgaaGreatDoorQVH
import Derived.Deep.RegionHeld3
set_option maxRecDepth 100000
set_option maxHeartbeats 4000000
namespace Go.Proofs.YtfaflomephjkgaaGreatDoor.Rv
open Go.RowKit Go.Lib
open Go.Proofs.YtfaflomephjkgaaGreatDoor.Rd (But St Ok Dev Dv pt below_new natOf)
theorem idx256 (s:ByteArray) (hs:s.size=256) (k:Nat) (hk:k<256) (w:World):(Instr.index 9 (.string s) (.int .i64 (k:Int))).run Tryz.prog w=.ok (.int .u8 (Rp.bt s k)) w:=by
 have h1:k<s.size:=by omega
 have h0:(k:Int)<(s.size:Int):=by omega
 simp[Instr.index,run_underlying Tryz.underlying9,go_sem,h1]
 unfold Rp.bt
 rw[Array.getElem?_eq_getElem (by exact h1)]
 rfl
theorem wopen_bytes (Kt:Nat→Int) (P:Qp) (v:Vs) (t:St) (p:Nat) (hp:p≤4294967295) (tag:ByteArray) (w:World) (hv:Qlt w P v t) (hk:Ok t) (hE:Rd.readE t p=0) (hg:Rs.tagS (Rd.readV t p)=tag) (hgk:Rs.gk ((Rd.readV t p).extract 0 24)=false) (hpg:four (Rd.readV t p)=(p:Int)) (hT:Rs.Tr Kt w):
  Calls Tryz.prog 54 #[pt P.q,.int .u32 (p:Int),.string tag] w fun e w'=>e=.returned (.tuple #[Rs.hv (Rs.oH Kt v.ring (Rd.readV t p)),.string (Rs.oS Kt v.ring (Rd.readV t p)),.int .i64 (Rs.oE Kt v.ring (Rd.readV t p))])∧Below w.heap.size w w':=by
 have hb:=below_new w (.cells #[.int .u32 0,.int .u32 0,.int .u32 0,.int .u64 0] 91)
 have hg0:=hb_new w
 obtain⟨W0,hW0⟩:∃ W0,w.alloc (.cells #[.int .u32 0,.int .u32 0,.int .u32 0,.int .u64 0] 91)=W0:=⟨_,rfl⟩
 rw[hW0] at hb hg0
 have HW0:Hid _:=hW0
 have HB0:Hid (Below w.heap.size w W0):=hb
 have HH0:Hid (HB w.heap.size Rs.zh W0):=hg0
 have hv0:=hv.below hb (Nat.le_refl _)
 have HRd:Hid (∀ _:True,_):=fun _=>Rd.rread_any P.r P.x t p hp W0 hv0.dev hk
 rw[hE] at HRd
 obtain⟨⟨c0,-⟩,-⟩:=hv0.cells
 have m0:=hlt hg0
 have lg:P.q<W0.heap.size:=hv0.lt.1
 have hz:(Rd.readV t p).size=256:=read_size hk hE
 have HX:Hid (∀ W,(Instr.sliceAt 9 (.string (Rd.readV t p)) none (some (.int .i64 24)) none).run Tryz.prog W=.ok (.string ((Rd.readV t p).extract 0 24)) W):=ext24_cut _ hz
 have HT:Hid (∀ W,(Instr.sliceAt 9 (.string (Rd.readV t p)) (some (.int .i64 224)) none none).run Tryz.prog W=.ok (.string (Rs.tagS (Rd.readV t p))) W):=tag_cut _ hz
 have HG:Hid (∀ W,Calls Tryz.prog 79 #[.string ((Rd.readV t p).extract 0 24)] W fun e w'=>e=.returned (.tuple #[Rs.hv (Rs.gv ((Rd.readV t p).extract 0 24)),.bool (Rs.gk ((Rd.readV t p).extract 0 24))])∧Below W.heap.size W w'):=Rs.rGet_any _
 have HI0:Hid (∀ W,(Instr.index 9 (.string (Rd.readV t p)) (.int .i64 0)).run Tryz.prog W=.ok (.int .u8 (Rp.bt (Rd.readV t p) 0)) W):=idx256 _ hz 0 (by omega)
 have HI1:Hid (∀ W,(Instr.index 9 (.string (Rd.readV t p)) (.int .i64 1)).run Tryz.prog W=.ok (.int .u8 (Rp.bt (Rd.readV t p) 1)) W):=idx256 _ hz 1 (by omega)
 have HI2:Hid (∀ W,(Instr.index 9 (.string (Rd.readV t p)) (.int .i64 2)).run Tryz.prog W=.ok (.int .u8 (Rp.bt (Rd.readV t p) 2)) W):=idx256 _ hz 2 (by omega)
 have HI3:Hid (∀ W,(Instr.index 9 (.string (Rd.readV t p)) (.int .i64 3)).run Tryz.prog W=.ok (.int .u8 (Rp.bt (Rd.readV t p) 3)) W):=idx256 _ hz 3 (by omega)
 have HOp:Hid (∀ W,Below w.heap.size w W→Calls Tryz.prog 80 #[.slice P.o v.ring.length P.cap,.string (Rd.readV t p)] W fun e w'=>e=.returned (.tuple #[Rs.hv (Rs.oH Kt v.ring (Rd.readV t p)),.string (Rs.oS Kt v.ring (Rd.readV t p)),.int .i64 (Rs.oE Kt v.ring (Rd.readV t p))])∧Below W.heap.size W w'):=fun W hW=>Rs.rOpen_any Kt v.ring P.o P.cap _ W (hv.ring.below hW (Nat.le_refl _)) (hT.below hW (Nat.le_refl _))
 have HC1:Hid (∀ W,Below w.heap.size w W→W.cell? ⟨P.q,1,none⟩=some (.slice P.o v.ring.length P.cap)∧P.q<W.heap.size):=fun W hW=>⟨(hv.below hW (Nat.le_refl _)).cells.1.2.1,(hv.below hW (Nat.le_refl _)).lt.1⟩
 generalize Rs.oE Kt v.ring (Rd.readV t p)=XE at*
 obtain⟨⟨xa,xb,xc,xd⟩,hXH⟩:∃ XH,Rs.oH Kt v.ring (Rd.readV t p)=XH:=⟨_,rfl⟩
 rw[hXH] at HOp ⊢
 simp only[Rs.hv] at HOp
 generalize Rs.oS Kt v.ring (Rd.readV t p)=XS at*
 rw[hgk] at HG
 clear hb hg0 hW0 hv hv0 hk hp hE hz hgk hT hXH
 obtain⟨⟨a,b',c,d⟩,hgv⟩:∃ x,Rs.gv ((Rd.readV t p).extract 0 24)=x:=⟨_,rfl⟩
 rw[hgv] at HG
 simp only[Rs.hv] at HG
 clear hgv
 have n0:=Rp.bt_range (Rd.readV t p) 0
 have n1:=Rp.bt_range (Rd.readV t p) 1
 have n2:=Rp.bt_range (Rd.readV t p) 2
 have n3:=Rp.bt_range (Rd.readV t p) 3
 unfold four at hpg
 generalize Rp.bt (Rd.readV t p) 0=b0 at*
 generalize Rp.bt (Rd.readV t p) 1=b1 at*
 generalize Rp.bt (Rd.readV t p) 2=b2 at*
 generalize Rp.bt (Rd.readV t p) 3=b3 at*
 have w0:IntKind.u32.wrap b0=b0:=by apply u32_wrap_id<;>omega
 have w1:IntKind.u32.wrap b1=b1:=by apply u32_wrap_id<;>omega
 have w2:IntKind.u32.wrap b2=b2:=by apply u32_wrap_id<;>omega
 have w3':IntKind.u32.wrap b3=b3:=by apply u32_wrap_id<;>omega
 obtain⟨c1,hc1⟩:∃ c1,b1*256=c1:=⟨_,rfl⟩
 obtain⟨c2,hc2⟩:∃ c2,b2*65536=c2:=⟨_,rfl⟩
 obtain⟨c3,hc3⟩:∃ c3,b3*16777216=c3:=⟨_,rfl⟩
 have v1:IntKind.u32.wrap (b1*256)=c1:=by rw[hc1];apply u32_wrap_id<;>omega
 have v2:IntKind.u32.wrap (b2*65536)=c2:=by rw[hc2];apply u32_wrap_id<;>omega
 have v3:IntKind.u32.wrap (b3*16777216)=c3:=by rw[hc3];apply u32_wrap_id<;>omega
 obtain⟨s1,hs1⟩:∃ s1,b0+c1=s1:=⟨_,rfl⟩
 obtain⟨s2,hs2⟩:∃ s2,s1+c2=s2:=⟨_,rfl⟩
 have u1:bits .or .u32 b0 c1=s1:=by rw[←hs1];apply u32_or8<;>omega
 have u2:bits .or .u32 s1 c2=s2:=by rw[←hs2];apply u32_or16<;>omega
 have u3:bits .or .u32 s2 c3=(p:Int):=by rw[show(p:Int)=s2+c3 by omega];apply u32_or24<;>omega
 clear hc1 hc2 hc3 hs1 hs2 n0 n1 n2 n3 hpg
 have y0:=HI0.out
 have y1:=HI1.out
 have y2:=HI2.out
 have y3:=HI3.out
 clear HI0 HI1 HI2 HI3
 generalize (Rd.readV t p).extract 0 24=R24 at*
 generalize Rs.tagS (Rd.readV t p)=TG at*
 generalize Rd.readV t p=RV at*
 have x24:=HX.out
 have xtg:=HT.out
 subst hg
 have q1:(TG.toList==TG.toList)=true:=beq_self_eq_true _
 have q2:(TG.toList !=TG.toList)=false:=by simp
 clear HX HT
 go_enter Tryz.func54,Tryz.ntmps54
 go_wp2_with (first|(rw[HW0.out];clear HW0))
 refine Calls.mono (HRd.out trivial) ?_
 rintro e w2 ⟨rfl,hw2⟩
 have hw2':=hw2.symm
 clear hw2 HRd
 subst hw2'
 go_wp2_with fail
 refine Calls.mono (HG.out _) ?_
 rintro e w3 ⟨rfl,b3⟩
 have b4:=below_new w3 (.cells #[.int .u32 a,.int .u32 b',.int .u32 c,.int .u64 d] 91)
 obtain⟨W4,hW4⟩:∃ W4,w3.alloc (.cells #[.int .u32 a,.int .u32 b',.int .u32 c,.int .u64 d] 91)=W4:=⟨_,rfl⟩
 rw[hW4] at b4
 have HW4:Hid _:=hW4
 have g4:W4.heap[w3.heap.size]? =some (.cells #[.int .u32 a,.int .u32 b',.int .u32 c,.int .u64 d] 91 (0,0)):=by rw[←hW4];exact heap_alloc_new w3 _
 have f0:W4.cell? ⟨w3.heap.size,0,none⟩=some (.int .u32 a):=by rw[cell_of_row _ _ _ _ _ _ g4];rfl
 have HB4:Hid (Below w.heap.size w W4):=(HB0.out.trans (b3.mono HB0.out.size)).trans (b4.mono (HB0.out.trans (b3.mono HB0.out.size)).size)
 have Z4:Hid (W4.heap[w.heap.size]? =some (.cells #[.int .u32 0,.int .u32 0,.int .u32 0,.int .u64 0] 91 (0,0))):=(HH0.out.grow b3).grow b4
 clear b3 b4 hW4 g4 HG HB0 HH0
 go_wp2_with (first|(rw[HW4.out];clear HW4))
 go_quiet (fail)
 obtain⟨W6,hW6⟩:∃ W6,W4.drewN nq=W6:=⟨_,rfl⟩
 have hb6:Below w.heap.size w W6:=by rw[←hW6];exact⟨HB4.out.os,HB4.out.tape,HB4.out.output,HB4.out.size,HB4.out.block⟩
 have HB6:Hid (Below w.heap.size w W6):=hb6
 have Z6:Hid (W6.heap[w.heap.size]? =some (.cells #[.int .u32 0,.int .u32 0,.int .u32 0,.int .u64 0] 91 (0,0))):=by rw[←hW6];exact Z4.out
 obtain⟨c1,lg4⟩:=HC1.out W6 hb6
 rw[hW6]
 clear hb6 hW6 HB4 Z4 HC1
 go_wp2_with fail
 refine Calls.mono (HOp.out _ HB6.out) ?_
 rintro e w5 ⟨rfl,b5⟩
 have HB5:Hid (Below w.heap.size w w5):=HB6.out.trans (b5.mono HB6.out.size)
 have Z5:Hid (w5.heap[w.heap.size]? =some (.cells #[.int .u32 0,.int .u32 0,.int .u32 0,.int .u64 0] 91 (0,0))):=(b5.block _ (hlt Z6.out)).trans Z6.out
 clear b5 HOp HB6 Z6 c1
 go_wp2_with (refine wpList_store_row rfl 91 _ _ rfl w.heap.size _ rfl rfl 91 _ Z5.out (by kernel_rfl) rfl (by simp[Value.oneCell']) ?_)
 refine bodyPost_ret (Rs.results_open rfl _ _ w.heap.size (xa,xb,xc,xd) rfl (setRow_heap _ _ _ _ _ _ Z5.out)) rfl ?_
 exact⟨rfl,below_setRow HB5.out (Nat.le_refl _) _⟩
theorem wopen_nobytes (P:Qp) (v:Vs) (t:St) (p:Nat) (hp:p≤4294967295) (tag:ByteArray) (w:World) (hv:Qlt w P v t) (hk:Ok t) (hE:Rd.readE t p=0) (hg:Rs.tagS (Rd.readV t p)=tag) (hgk:Rs.gk ((Rd.readV t p).extract 0 24)=false) (hpg:four (Rd.readV t p)≠(p:Int)):
  Calls Tryz.prog 54 #[pt P.q,.int .u32 (p:Int),.string tag] w fun e w'=>e=.returned (.tuple #[Rs.hv Rs.zh,.string ⟨#[]⟩,.int .i64 61])∧Below w.heap.size w w':=by
 have hb:=below_new w (.cells #[.int .u32 0,.int .u32 0,.int .u32 0,.int .u64 0] 91)
 have hg0:=hb_new w
 obtain⟨W0,hW0⟩:∃ W0,w.alloc (.cells #[.int .u32 0,.int .u32 0,.int .u32 0,.int .u64 0] 91)=W0:=⟨_,rfl⟩
 rw[hW0] at hb hg0
 have HW0:Hid _:=hW0
 have HB0:Hid (Below w.heap.size w W0):=hb
 have HH0:Hid (HB w.heap.size Rs.zh W0):=hg0
 have hv0:=hv.below hb (Nat.le_refl _)
 have HRd:Hid (∀ _:True,_):=fun _=>Rd.rread_any P.r P.x t p hp W0 hv0.dev hk
 rw[hE] at HRd
 obtain⟨⟨c0,-⟩,-⟩:=hv0.cells
 have m0:=hlt hg0
 have lg:P.q<W0.heap.size:=hv0.lt.1
 have hz:(Rd.readV t p).size=256:=read_size hk hE
 have HX:Hid (∀ W,(Instr.sliceAt 9 (.string (Rd.readV t p)) none (some (.int .i64 24)) none).run Tryz.prog W=.ok (.string ((Rd.readV t p).extract 0 24)) W):=ext24_cut _ hz
 have HT:Hid (∀ W,(Instr.sliceAt 9 (.string (Rd.readV t p)) (some (.int .i64 224)) none none).run Tryz.prog W=.ok (.string (Rs.tagS (Rd.readV t p))) W):=tag_cut _ hz
 have HG:Hid (∀ W,Calls Tryz.prog 79 #[.string ((Rd.readV t p).extract 0 24)] W fun e w'=>e=.returned (.tuple #[Rs.hv (Rs.gv ((Rd.readV t p).extract 0 24)),.bool (Rs.gk ((Rd.readV t p).extract 0 24))])∧Below W.heap.size W w'):=Rs.rGet_any _
 have HI0:Hid (∀ W,(Instr.index 9 (.string (Rd.readV t p)) (.int .i64 0)).run Tryz.prog W=.ok (.int .u8 (Rp.bt (Rd.readV t p) 0)) W):=idx256 _ hz 0 (by omega)
 have HI1:Hid (∀ W,(Instr.index 9 (.string (Rd.readV t p)) (.int .i64 1)).run Tryz.prog W=.ok (.int .u8 (Rp.bt (Rd.readV t p) 1)) W):=idx256 _ hz 1 (by omega)
 have HI2:Hid (∀ W,(Instr.index 9 (.string (Rd.readV t p)) (.int .i64 2)).run Tryz.prog W=.ok (.int .u8 (Rp.bt (Rd.readV t p) 2)) W):=idx256 _ hz 2 (by omega)
 have HI3:Hid (∀ W,(Instr.index 9 (.string (Rd.readV t p)) (.int .i64 3)).run Tryz.prog W=.ok (.int .u8 (Rp.bt (Rd.readV t p) 3)) W):=idx256 _ hz 3 (by omega)
 rw[hgk] at HG
 clear hb hg0 hW0 hv hv0 hk hp hE hz hgk
 obtain⟨⟨a,b',c,d⟩,hgv⟩:∃ x,Rs.gv ((Rd.readV t p).extract 0 24)=x:=⟨_,rfl⟩
 rw[hgv] at HG
 simp only[Rs.hv] at HG
 clear hgv
 have n0:=Rp.bt_range (Rd.readV t p) 0
 have n1:=Rp.bt_range (Rd.readV t p) 1
 have n2:=Rp.bt_range (Rd.readV t p) 2
 have n3:=Rp.bt_range (Rd.readV t p) 3
 unfold four at hpg
 generalize Rp.bt (Rd.readV t p) 0=b0 at*
 generalize Rp.bt (Rd.readV t p) 1=b1 at*
 generalize Rp.bt (Rd.readV t p) 2=b2 at*
 generalize Rp.bt (Rd.readV t p) 3=b3 at*
 have w0:IntKind.u32.wrap b0=b0:=by apply u32_wrap_id<;>omega
 have w1:IntKind.u32.wrap b1=b1:=by apply u32_wrap_id<;>omega
 have w2:IntKind.u32.wrap b2=b2:=by apply u32_wrap_id<;>omega
 have w3':IntKind.u32.wrap b3=b3:=by apply u32_wrap_id<;>omega
 obtain⟨c1,hc1⟩:∃ c1,b1*256=c1:=⟨_,rfl⟩
 obtain⟨c2,hc2⟩:∃ c2,b2*65536=c2:=⟨_,rfl⟩
 obtain⟨c3,hc3⟩:∃ c3,b3*16777216=c3:=⟨_,rfl⟩
 have v1:IntKind.u32.wrap (b1*256)=c1:=by rw[hc1];apply u32_wrap_id<;>omega
 have v2:IntKind.u32.wrap (b2*65536)=c2:=by rw[hc2];apply u32_wrap_id<;>omega
 have v3:IntKind.u32.wrap (b3*16777216)=c3:=by rw[hc3];apply u32_wrap_id<;>omega
 obtain⟨s1,hs1⟩:∃ s1,b0+c1=s1:=⟨_,rfl⟩
 obtain⟨s2,hs2⟩:∃ s2,s1+c2=s2:=⟨_,rfl⟩
 obtain⟨s3,hs3⟩:∃ s3,s2+c3=s3:=⟨_,rfl⟩
 have q5:¬s3=(p:Int):=fun e=>hpg (by omega)
 have q6:decide (s3=(p:Int))=false:=decide_eq_false q5
 have q7:(s3==(p:Int))=false:=by simpa using q5
 have q8:(s3 !=(p:Int))=true:=by simpa using q5
 have u1:bits .or .u32 b0 c1=s1:=by rw[←hs1];apply u32_or8<;>omega
 have u2:bits .or .u32 s1 c2=s2:=by rw[←hs2];apply u32_or16<;>omega
 have u3:bits .or .u32 s2 c3=s3:=by rw[←hs3];apply u32_or24<;>omega
 clear hc1 hc2 hc3 hs1 hs2 hs3 n0 n1 n2 n3 hpg
 have y0:=HI0.out
 have y1:=HI1.out
 have y2:=HI2.out
 have y3:=HI3.out
 clear HI0 HI1 HI2 HI3
 generalize (Rd.readV t p).extract 0 24=R24 at*
 generalize Rs.tagS (Rd.readV t p)=TG at*
 generalize Rd.readV t p=RV at*
 have x24:=HX.out
 have xtg:=HT.out
 subst hg
 have q1:(TG.toList==TG.toList)=true:=beq_self_eq_true _
 have q2:(TG.toList !=TG.toList)=false:=by simp
 clear HX HT
 go_enter Tryz.func54,Tryz.ntmps54
 go_wp2_with (first|(rw[HW0.out];clear HW0))
 refine Calls.mono (HRd.out trivial) ?_
 rintro e w2 ⟨rfl,hw2⟩
 have hw2':=hw2.symm
 clear hw2 HRd
 subst hw2'
 go_wp2_with fail
 refine Calls.mono (HG.out _) ?_
 rintro e w3 ⟨rfl,b3⟩
 have b4:=below_new w3 (.cells #[.int .u32 a,.int .u32 b',.int .u32 c,.int .u64 d] 91)
 obtain⟨W4,hW4⟩:∃ W4,w3.alloc (.cells #[.int .u32 a,.int .u32 b',.int .u32 c,.int .u64 d] 91)=W4:=⟨_,rfl⟩
 rw[hW4] at b4
 have HW4:Hid _:=hW4
 have g4:W4.heap[w3.heap.size]? =some (.cells #[.int .u32 a,.int .u32 b',.int .u32 c,.int .u64 d] 91 (0,0)):=by rw[←hW4];exact heap_alloc_new w3 _
 have f0:W4.cell? ⟨w3.heap.size,0,none⟩=some (.int .u32 a):=by rw[cell_of_row _ _ _ _ _ _ g4];rfl
 have HB4:Hid (Below w.heap.size w W4):=(HB0.out.trans (b3.mono HB0.out.size)).trans (b4.mono (HB0.out.trans (b3.mono HB0.out.size)).size)
 have Z4:Hid (W4.heap[w.heap.size]? =some (.cells #[.int .u32 0,.int .u32 0,.int .u32 0,.int .u64 0] 91 (0,0))):=(HH0.out.grow b3).grow b4
 clear b3 b4 hW4 g4 HG HB0 HH0
 go_wp2_with (first|(rw[HW4.out];clear HW4))
 go_quiet (fail)
 go_wp2_with (refine wpList_store_row rfl 91 _ _ rfl w.heap.size _ rfl rfl 91 _ Z4.out (by kernel_rfl) rfl (by simp[Value.oneCell']) ?_)
 refine bodyPost_ret (Rs.results_open rfl _ _ w.heap.size Rs.zh rfl (setRow_heap _ _ _ _ _ _ Z4.out)) rfl ?_
 exact⟨rfl,below_setRow ((⟨HB4.out.os,HB4.out.tape,HB4.out.output,HB4.out.size,HB4.out.block⟩:Below w.heap.size w (W4.drewN nq))) (Nat.le_refl _) _⟩
theorem wopen_any (Kt:Nat→Int) (P:Qp) (v:Vs) (t:St) (p:Nat) (hp:p≤4294967295) (tag:ByteArray) (w:World) (hv:Qlt w P v t) (hk:Ok t) (hT:Rs.Tr Kt w):
  Calls Tryz.prog 54 #[pt P.q,.int .u32 (p:Int),.string tag] w fun e w'=>e=.returned (.tuple #[Rs.hv (opH Kt v t p tag),.string (opS Kt v t p tag),.int .i64 (opE Kt v t p tag)])∧Below w.heap.size w w':=by
 by_cases hE:Rd.readE t p=0
 ·have hz:=read_size hk hE
  by_cases hg:Rs.tagS (Rd.readV t p)=tag
  ·have hs:=says_four (Rd.readV t p) hz p hp
   have hm:meant t p tag=decide (four (Rd.readV t p)=(p:Int)):=by unfold meant;rw[hs];simp[hg]
   by_cases hf:four (Rd.readV t p)=(p:Int)
   ·have hm1:meant t p tag=true:=by rw[hm];simpa using hf
    have e1:opE Kt v t p tag=Rs.oE Kt v.ring (Rd.readV t p):=by unfold opE;rw[if_pos hE,if_pos hm1]
    have e2:opS Kt v t p tag=Rs.oS Kt v.ring (Rd.readV t p):=by unfold opS;rw[if_pos ⟨hE,hm1⟩]
    have e3:opH Kt v t p tag=Rs.oH Kt v.ring (Rd.readV t p):=by unfold opH;rw[if_pos ⟨hE,hm1⟩]
    rw[e1,e2,e3]
    cases hgk:Rs.gk ((Rd.readV t p).extract 0 24) with
    |true=>exact wopen_this Kt P v t p hp tag w hv hk hE hg hgk ((four_gv _ hz hgk).symm.trans hf) hT
    |false=>exact wopen_bytes Kt P v t p hp tag w hv hk hE hg hgk hf hT
   ·have hm1:¬meant t p tag=true:=by rw[hm];simpa using hf
    have e1:opE Kt v t p tag=61:=by unfold opE;rw[if_pos hE,if_neg hm1]
    have e2:opS Kt v t p tag=⟨#[]⟩:=by unfold opS;rw[if_neg fun h=>hm1 h.2]
    have e3:opH Kt v t p tag=Rs.zh:=by unfold opH;rw[if_neg fun h=>hm1 h.2]
    rw[e1,e2,e3]
    cases hgk:Rs.gk ((Rd.readV t p).extract 0 24) with
    |true=>exact wopen_else P v t p hp tag w hv hk hE hg hgk (fun h=>hf ((four_gv _ hz hgk).trans h))
    |false=>exact wopen_nobytes P v t p hp tag w hv hk hE hg hgk hf
  ·have hm1:¬meant t p tag=true:=by unfold meant;simp[hg]
   have e1:opE Kt v t p tag=61:=by unfold opE;rw[if_pos hE,if_neg hm1]
   have e2:opS Kt v t p tag=⟨#[]⟩:=by unfold opS;rw[if_neg fun h=>hm1 h.2]
   have e3:opH Kt v t p tag=Rs.zh:=by unfold opH;rw[if_neg fun h=>hm1 h.2]
   rw[e1,e2,e3]
   exact wopen_tag P v t p hp tag w hv hk hE hg
 ·have e1:opE Kt v t p tag=Rd.readE t p:=by unfold opE;rw[if_neg hE]
  have e2:opS Kt v t p tag=⟨#[]⟩:=by unfold opS;rw[if_neg fun h=>hE h.1]
  have e3:opH Kt v t p tag=Rs.zh:=by unfold opH;rw[if_neg fun h=>hE h.1]
  rw[e1,e2,e3]
  exact wopen_no P v t p hp tag w hv hk hE
theorem wfirst_any (Kt:Nat→Int) (P:Qp) (v:Vs) (t:St) (p:Nat) (hp:p≤4294967295) (tag:ByteArray) (w:World) (hv:Qlt w P v t) (hk:Ok t) (hT:Rs.Tr Kt w):
  Calls Tryz.prog 28 #[pt P.q,.int .u32 (p:Int),.string tag] w fun e w'=>e=.returned (.tuple #[.string (opS Kt v t p tag),.int .i64 (opE Kt v t p tag)])∧Below w.heap.size w w':=by
 have HO:Hid (∀ _:True,_):=fun _=>wopen_any Kt P v t p hp tag w hv hk hT
 generalize opE Kt v t p tag=OE at*
 generalize opH Kt v t p tag=OH at*
 generalize opS Kt v t p tag=OS at*
 obtain⟨a,b',c,d⟩:=OH
 simp only[Rs.hv] at HO
 clear hv hk hT hp
 go_enter Tryz.func28,Tryz.ntmps28
 go_wp2_with fail
 refine Calls.mono (HO.out trivial) ?_
 rintro e w1 ⟨rfl,b1⟩
 have HB:Hid (Below w.heap.size w (w1.alloc (.cells #[.int .u32 a,.int .u32 b',.int .u32 c,.int .u64 d] 91))):=b1.trans ((below_new w1 _).mono b1.size)
 clear b1 HO
 go_wp2_with fail
 go_ret2
 exact⟨rfl,HB.out⟩
theorem wread_any (Kt:Nat→Int) (P:Qp) (v:Vs) (t:St) (p:Nat) (hp:p≤4294967295) (tag:ByteArray) (w:World) (hv:Qlt w P v t) (hk:Ok t) (hT:Rs.Tr Kt w):
  Calls Tryz.prog 26 #[pt P.q,rf p tag] w fun e w'=>e=.returned (.tuple #[.string (pgS Kt v t p tag),.int .i64 (pgE Kt v t p tag)])∧Below w.heap.size w w':=by
 have hb:=below_new w (.cells #[.int .u32 (p:Int),.string tag] 48)
 have hg:FB w.heap.size (p:Int) tag (w.alloc (.cells #[.int .u32 (p:Int),.string tag] 48)):=heap_alloc_new w _
 obtain⟨W0,hW0⟩:∃ W0,w.alloc (.cells #[.int .u32 (p:Int),.string tag] 48)=W0:=⟨_,rfl⟩
 rw[hW0] at hb hg
 have HW0:Hid _:=hW0
 have HB0:Hid (Below w.heap.size w W0):=hb
 have HF0:Hid (FB w.heap.size (p:Int) tag W0):=hg
 have HR:Hid (∀ _:True,_):=fun _=>zrightRef_any p tag W0
 have HO:Hid (∀ (W:World),Below W0.heap.size W0 W→_):=fun W hW=>wfirst_any Kt P v t p hp tag W ((hv.below hb (Nat.le_refl _)).below hW (Nat.le_refl _)) hk ((hT.below hb (Nat.le_refl _)).below hW (Nat.le_refl _))
 obtain⟨-,-,f0,f1⟩:=hg.facts
 have m0:=hlt hg
 have hS:pgS Kt v t p tag=if rref p tag=true then opS Kt v t p tag else⟨#[]⟩:=rfl
 have hE:pgE Kt v t p tag=if rref p tag=true then opE Kt v t p tag else 2:=rfl
 rw[hS,hE]
 clear hb hg hW0 hv hk hT hp hS hE
 generalize opE Kt v t p tag=OE at*
 generalize opS Kt v t p tag=OS at*
 generalize rref p tag=RR at*
 go_enter Tryz.func26,Tryz.ntmps26
 go_wp2_with (first|(rw[HW0.out];clear HW0))
 refine Calls.mono (HR.out trivial) ?_
 rintro e w2 ⟨rfl,b2⟩
 have HB2:Hid (Below w.heap.size w w2):=HB0.out.trans (b2.mono HB0.out.size)
 have HF2:=HF0.out.grow b2
 obtain⟨-,-,g0,g1⟩:=HF2.facts
 have m2:=hlt HF2
 have HO2:Hid (∀ _:True,_):=fun _=>HO.out w2 b2
 clear b2 HR HO f0 f1 m0 HF0 HF2
 cases RR with
 |false=>
  go_wp2_with fail
  go_ret2
  exact⟨rfl,HB2.out⟩
 |true=>
  go_wp2_with fail
  refine Calls.mono (HO2.out trivial) ?_
  rintro e w3 ⟨rfl,b3⟩
  have HB3:Hid (Below w.heap.size w w3):=HB2.out.trans (b3.mono HB2.out.size)
  clear b3 HO2 g0 g1 m2
  go_wp2_with fail
  go_ret2
  exact⟨rfl,HB3.out⟩
theorem wgen_any (Kt:Nat→Int) (P:Qp) (v:Vs) (t:St) (p:Nat) (hp:p≤4294967295) (tag:ByteArray) (w:World) (hv:Qlt w P v t) (hk:Ok t) (hT:Rs.Tr Kt w):
  Calls Tryz.prog 35 #[pt P.q,rf p tag] w fun e w'=>e=.returned (.tuple #[.int .u32 (pgH Kt v t p tag).2.1,.int .i64 (pgE Kt v t p tag)])∧Below w.heap.size w w':=by
 have hb:=below_new w (.cells #[.int .u32 (p:Int),.string tag] 48)
 have hg:FB w.heap.size (p:Int) tag (w.alloc (.cells #[.int .u32 (p:Int),.string tag] 48)):=heap_alloc_new w _
 obtain⟨W0,hW0⟩:∃ W0,w.alloc (.cells #[.int .u32 (p:Int),.string tag] 48)=W0:=⟨_,rfl⟩
 rw[hW0] at hb hg
 have HW0:Hid _:=hW0
 have HB0:Hid (Below w.heap.size w W0):=hb
 have HF0:Hid (FB w.heap.size (p:Int) tag W0):=hg
 have HR:Hid (∀ _:True,_):=fun _=>zrightRef_any p tag W0
 have HO:Hid (∀ (W:World),Below W0.heap.size W0 W→_):=fun W hW=>wopen_any Kt P v t p hp tag W ((hv.below hb (Nat.le_refl _)).below hW (Nat.le_refl _)) hk ((hT.below hb (Nat.le_refl _)).below hW (Nat.le_refl _))
 obtain⟨-,-,f0,f1⟩:=hg.facts
 have m0:=hlt hg
 have hS:pgH Kt v t p tag=if rref p tag=true then opH Kt v t p tag else Rs.zh:=rfl
 have hE:pgE Kt v t p tag=if rref p tag=true then opE Kt v t p tag else 2:=rfl
 rw[hS,hE]
 clear hb hg hW0 hv hk hT hp hS hE
 generalize opE Kt v t p tag=OE at*
 generalize opS Kt v t p tag=OS at*
 generalize opH Kt v t p tag=OH at*
 obtain⟨a,b',c,d⟩:=OH
 simp only[Rs.hv] at HO
 generalize rref p tag=RR at*
 go_enter Tryz.func35,Tryz.ntmps35
 go_wp2_with (first|(rw[HW0.out];clear HW0))
 refine Calls.mono (HR.out trivial) ?_
 rintro e w2 ⟨rfl,b2⟩
 have HB2:Hid (Below w.heap.size w w2):=HB0.out.trans (b2.mono HB0.out.size)
 have HF2:=HF0.out.grow b2
 obtain⟨-,-,g0,g1⟩:=HF2.facts
 have m2:=hlt HF2
 have HO2:Hid (∀ _:True,_):=fun _=>HO.out w2 b2
 clear b2 HR HO f0 f1 m0 HF0 HF2
 cases RR with
 |false=>
  go_wp2_with fail
  go_ret2
  exact⟨rfl,HB2.out⟩
 |true=>
  go_wp2_with fail
  refine Calls.mono (HO2.out trivial) ?_
  rintro e w3 ⟨rfl,b3⟩
  have b4:=below_new w3 (.cells #[.int .u32 a,.int .u32 b',.int .u32 c,.int .u64 d] 91)
  have HB3:Hid (Below w.heap.size w (w3.alloc (.cells #[.int .u32 a,.int .u32 b',.int .u32 c,.int .u64 d] 91))):=(HB2.out.trans (b3.mono HB2.out.size)).trans (b4.mono (Nat.le_trans HB2.out.size b3.size))
  clear b3 b4 HO2 g0 g1 m2
  go_wp2_with fail
  go_ret2
  exact⟨rfl,HB3.out⟩
theorem Vlt.but {S:Nat→Prop} {w w':World} {A:Pl} {v:Vs} {t:St} (h:Vlt w A v t) (hb:But S w w') (hS:∀ k,A.has k→¬S k) (hR:∀ b off,A.o=some ⟨b,off,none⟩→v.ring≠[]→¬S b):Vlt w' A v t:=by
 have hl:=h.lt
 obtain⟨h1,h2⟩:=h.self
 refine⟨⟨(hb.block _ hl.1 (hS _ (.inl rfl))).trans h1,⟨h2.1.1,h2.1.2.1,h2.1.2.2.1,fun hne=>?_⟩,h2.2⟩,h.map.same (hb.block _ hl.2.1 (hS _ (.inr (.inl rfl)))),h.dev.but hb (hS _ (.inr (.inr (.inl rfl)))) (hS _ (.inr (.inr (.inr (.inl rfl))))) (hS _ (.inr (.inr (.inr (.inr rfl))))),h.gt,h.gd,h.td,h.no1,h.no2⟩
 obtain⟨b,off,e,hlt,h4⟩:=h2.1.2.2.2 hne
 exact⟨b,off,e,Nat.lt_of_lt_of_le hlt hb.size,fun i hi=>(h4 i hi).same (hb.block b hlt (hR b off e hne))⟩
structure Both (w0:World) (A:Pl) (P:Qp) (v:Vs) (t:St) (W:World):Prop where
 va:Vlt W A v t
 vq:Qlt W P v t
 ok:Ok t
 bel:Below w0.heap.size w0 W
 ap:∀ k,A.has k→¬P.has k
 lo:∀ k,A.has k∨P.has k→w0.heap.size≤k
 ra:∀ b off,A.o=some ⟨b,off,none⟩→v.ring≠[]→¬P.has b
 rq:∀ b off,P.o=some ⟨b,off,none⟩→v.ring≠[]→¬A.has b
theorem Both.below {w0:World} {A:Pl} {P:Qp} {v:Vs} {t:St} {W W':World} (h:Both w0 A P v t W) (hb:Below W.heap.size W W'):Both w0 A P v t W':=
 ⟨h.va.below hb (Nat.le_refl _),h.vq.below hb (Nat.le_refl _),h.ok,h.bel.trans (hb.mono h.bel.size),h.ap,h.lo,h.ra,h.rq⟩
theorem Both.tb {w0:World} {A:Pl} {P:Qp} {v:Vs} {t:St} {W:World} {Kt:Nat→Int} (h:Both w0 A P v t W) (hT:Rs.Tb Kt w0):Rs.Tb Kt W:=hT.below h.bel (Nat.le_refl _)
theorem Both.tr {w0:World} {A:Pl} {P:Qp} {v:Vs} {t:St} {W:World} {Kt:Nat→Int} (h:Both w0 A P v t W) (hT:Rs.Tr Kt w0):Rs.Tr Kt W:=hT.below h.bel (Nat.le_refl _)
structure Half (w0:World) (A:Pl) (P:Qp) (v:Vs) (t:St) (v':Vs) (t':St) (W:World):Prop where
 va:Vlt W A v' t'
 vq:Qlt W P v t
 bel:Below w0.heap.size w0 W
theorem Both.half {w0:World} {A:Pl} {P:Qp} {v v':Vs} {t t':St} {W W':World} (h:Both w0 A P v t W) (hv:Vlt W' A v' t') (hb:But A.has W W'):Half w0 A P v t v' t' W':=
 ⟨hv,h.vq.but hb (fun k hk hh=>h.ap k hh hk) h.rq,h.bel.trans (hb.below (fun k hk=>h.lo k (.inl hk)) h.bel.size)⟩
theorem Half.below {w0:World} {A:Pl} {P:Qp} {v v':Vs} {t t':St} {W W':World} (h:Half w0 A P v t v' t' W) (hb:Below W.heap.size W W'):Half w0 A P v t v' t' W':=
 ⟨h.va.below hb (Nat.le_refl _),h.vq.below hb (Nat.le_refl _),h.bel.trans (hb.mono h.bel.size)⟩
theorem Both.whole {w0:World} {A:Pl} {P:Qp} {v v':Vs} {t t':St} {W W1 W':World} (h:Both w0 A P v t W) (h1:Half w0 A P v t v' t' W1) (hq:Qlt W' P v' t') (hb:But P.has W1 W') (hr:v'.ring=v.ring) (hk:Ok t'):Both w0 A P v' t' W':=
 ⟨h1.va.but hb h.ap (fun b off e hn=>h.ra b off e (by rw[←hr];exact hn)),hq,hk,h1.bel.trans (hb.below (fun k hk=>h.lo k (.inr hk)) h1.bel.size),h.ap,h.lo,fun b off e hn=>h.ra b off e (by rw[←hr];exact hn),fun b off e hn=>h.rq b off e (by rw[←hr];exact hn)⟩
structure HalfR (w0:World) (A:Pl) (P:Qp) (v:Vs) (t:St) (v':Vs) (t':St) (W:World):Prop where
 va:Vlt W A v t
 vq:Qlt W P v' t'
 bel:Below w0.heap.size w0 W
theorem Both.halfR {w0:World} {A:Pl} {P:Qp} {v v':Vs} {t t':St} {W W':World} (h:Both w0 A P v t W) (hv:Qlt W' P v' t') (hb:But P.has W W'):HalfR w0 A P v t v' t' W':=
 ⟨h.va.but hb h.ap h.ra,hv,h.bel.trans (hb.below (fun k hk=>h.lo k (.inr hk)) h.bel.size)⟩
theorem HalfR.below {w0:World} {A:Pl} {P:Qp} {v v':Vs} {t t':St} {W W':World} (h:HalfR w0 A P v t v' t' W) (hb:Below W.heap.size W W'):HalfR w0 A P v t v' t' W':=
 ⟨h.va.below hb (Nat.le_refl _),h.vq.below hb (Nat.le_refl _),h.bel.trans (hb.mono h.bel.size)⟩
theorem Both.wholeR {w0:World} {A:Pl} {P:Qp} {v v':Vs} {t t':St} {W W1 W':World} (h:Both w0 A P v t W) (h1:HalfR w0 A P v t v' t' W1) (hq:Vlt W' A v' t') (hb:But A.has W1 W') (hr:v'.ring=v.ring) (hk:Ok t'):Both w0 A P v' t' W':=
 ⟨hq,h1.vq.but hb (fun k hk hh=>h.ap k hh hk) (fun b off e hn=>h.rq b off e (by rw[←hr];exact hn)),hk,h1.bel.trans (hb.below (fun k hk=>h.lo k (.inl hk)) h1.bel.size),h.ap,h.lo,fun b off e hn=>h.ra b off e (by rw[←hr];exact hn),fun b off e hn=>h.rq b off e (by rw[←hr];exact hn)⟩
theorem made_both (Kt:Nat→Int) (n:Nat) (h4:4≤n) (hn:n≤4096) (w:World) (hT:Rs.Tb Kt w):
  Calls Tryz.prog 5 #[.int .i64 (n:Int)] w fun e w'=>∃ (A:Pl) (P:Qp),e=.returned (.tuple #[pt A.g,pt A.d,pt P.q,.bool true])∧Both w A P (newV (krs 2) 1 7) (Rd.newS n) w':=by
 have HD:Hid (∀ _:True,_):=fun _=>Rd.new_any n h4 hn w
 have HR:Hid (∀ W,_):=fun W=>Rd.rnew_any n h4 hn W
 have HG:Hid (∀ W,_):=fun W=>ring_any 2 (by omega) W
 have HTB:Hid (Rs.Tb Kt w):=hT
 have ht1:3<w.heap.size:=by obtain⟨⟨_,_,h⟩,_⟩:=hT;exact hlt h
 have ht2:2<w.heap.size:=by obtain⟨_,_,_,h⟩:=hT;exact hlt h
 have HLT:Hid (3<w.heap.size∧2<w.heap.size):=⟨ht1,ht2⟩
 have HOK:Hid (Ok (Rd.newS n)):=Rd.newS_ok n h4 hn
 clear hT ht1 ht2
 go_enter Tryz.func5,Tryz.ntmps5
 go_wp2_with fail
 refine Calls.mono (HD.out trivial) ?_
 rintro e w1 ⟨d,b,m,rfl,hd,ld,lb,lm,b1⟩
 have HB1:Hid (Below w.heap.size w w1):=b1
 have HD1:Hid (Dev w1 d b m (Rd.newS n)):=hd
 have HL:Hid (w.heap.size≤d∧w.heap.size≤b∧w.heap.size≤m):=⟨ld,lb,lm⟩
 clear hd ld lb lm b1 HD
 go_wp2_with fail
 refine Calls.mono (HR.out _) ?_
 rintro e w2 ⟨r,x,rfl,hf,fx,b2⟩
 have HXl:Hid (∀ k,Rd.Rv r x k→w1.heap.size≤k∧k<w2.heap.size):=fun k hk=>⟨fx k hk,hf.own hk⟩
 have HDl:Hid (d<w1.heap.size∧b<w1.heap.size∧m<w1.heap.size):=HD1.out.lt
 have HS1:Hid (w.heap.size≤w1.heap.size∧w1.heap.size≤w2.heap.size):=⟨HB1.out.size,b2.size⟩
 have HB2:Hid (Below w.heap.size w w2):=HB1.out.trans (b2.mono HB1.out.size)
 have HD2:Hid (Dev w2 d b m (Rd.newS n)):=HD1.out.below b2 (Nat.le_refl _)
 have HF2:Hid (Rd.Rf w2 r x (Rd.newS n)):=hf
 clear hf b2 HR HB1 HD1 fx
 go_wp2_with fail
 refine Calls.mono (HG.out _) ?_
 rintro e w3 ⟨o3,cap3,rfl,hr3,-,b3⟩
 have HS2:Hid (w2.heap.size≤w3.heap.size):=b3.size
 have HB3:Hid (Below w.heap.size w w3):=HB2.out.trans (b3.mono HB2.out.size)
 have HD3:Hid (Dev w3 d b m (Rd.newS n)):=HD2.out.below b3 (Nat.le_refl _)
 have HF3:Hid (Rd.Rf w3 r x (Rd.newS n)):=HF2.out.below b3 (Nat.le_refl _)
 have HN:Hid (∀ _:True,_):=fun _=>vnew_fresh Kt d b m (Rd.newS n) (krs 2) 1 7 o3 cap3 w3 HD3.out (by have:=HLT.out;have:=HL.out;rintro(e|e|e)<;>omega) (by have:=HLT.out;have:=HL.out;rintro(e|e|e)<;>omega) (HTB.out.below HB3.out (Nat.le_refl _)) hr3 fe21
 rw[krs2_len] at HN
 clear hr3 b3 HB2 HD2 HF2
 go_wp2_with fail
 refine Calls.mono (HN.out trivial) ?_
 rintro e w4 ⟨A,rfl,hv4,⟨rfl,rfl,rfl⟩,lg,lt,b4,fo4⟩
 have HS3:Hid (w3.heap.size≤A.g∧w3.heap.size≤A.tm∧w3.heap.size≤w4.heap.size∧A.g<w4.heap.size∧A.tm<w4.heap.size):=⟨lg,lt,b4.size,hv4.lt.1,hv4.lt.2.1⟩
 have HO4:Hid (∀ bb off,A.o=some ⟨bb,off,none⟩→(newV (krs 2) 1 7).ring≠[]→w3.heap.size≤bb∧bb<w4.heap.size):=fun bb off e hn=>⟨fo4 bb off e,by
  obtain⟨b',off',e',hl',-⟩:=hv4.self.2.1.2.2.2 hn
  rw[e] at e';cases e';exact hl'⟩
 have HB4:Hid (Below w.heap.size w w4):=HB3.out.trans (b4.mono HB3.out.size)
 have HV4:Hid (Vlt w4 A (newV (krs 2) 1 7) (Rd.newS n)):=hv4
 have HF4:Hid (Rd.Rf w4 r x (Rd.newS n)):=HF3.out.below b4 (Nat.le_refl _)
 have HA:Hid (∀ k,A.has k→w.heap.size≤k):=fun k hk=>by
  have h1:=HB3.out.size
  have h2:=HL.out
  rcases hk with e|e|e|e|e<;>omega
 clear hv4 lg lt b4 fo4 HN HB3 HD3 HF3
 go_wp2_with fail
 refine Calls.mono (HG.out _) ?_
 rintro e w5 ⟨o5,cap5,rfl,hr5,fo5,b5⟩
 have HO5:Hid (∀ bb off,o5=some ⟨bb,off,none⟩→(krs 2)≠[]→w4.heap.size≤bb∧bb<w5.heap.size):=fun bb off e hn=>⟨fo5 bb off e,by
  obtain⟨b',off',e',hl',-⟩:=hr5.2.2.2 hn
  rw[e] at e';cases e';exact hl'⟩
 have HS4:Hid (w4.heap.size≤w5.heap.size):=b5.size
 have HB5:Hid (Below w.heap.size w w5):=HB4.out.trans (b5.mono HB4.out.size)
 have HV5:Hid (Vlt w5 A (newV (krs 2) 1 7) (Rd.newS n)):=HV4.out.below b5 (Nat.le_refl _)
 have HW:Hid (∀ _:True,_):=fun _=>wnew_full r x (Rd.newS n) (krs 2) 1 7 o5 cap5 w5 (HF4.out.below b5 (Nat.le_refl _)) HOK.out hr5 fe21 (fun bb off e hn hh=>by have h1:=(HO5.out bb off e hn).1;have h2:=(HXl.out bb hh).2;have h3:=HS2.out;have h4:=HS3.out;omega)
 rw[krs2_len] at HW
 clear hr5 b5 fo5 HB4 HV4 HF4 HG
 go_wp2_with fail
 refine Calls.mono (HW.out trivial) ?_
 rintro e w6 ⟨q,tb,rfl,lq,ltb,hq6,b6⟩
 have HBo:Hid (Both w A ⟨q,tb,r,x,o5,cap5⟩ (newV (krs 2) 1 7) (Rd.newS n) w6):=by
  have s1:=HS1.out
  have s2:=HS2.out
  have s3:=HS3.out
  have s4:=HS4.out
  have hd:=HDl.out
  have hL:=HL.out
  refine⟨HV5.out.below b6 (Nat.le_refl _),hq6,HOK.out,HB5.out.trans (b6.mono HB5.out.size),?_,?_,?_,?_⟩
  ·intro k hk hh
   rcases hh with e|e|e
   ·replace e:k=q:=e
    rcases hk with f|f|f|f|f<;>omega
   ·replace e:k=tb:=e
    rcases hk with f|f|f|f|f<;>omega
   ·have h1:=HXl.out k e
    rcases hk with f|f|f|f|f<;>omega
  ·rintro k (hk|hk)
   ·exact HA.out k hk
   ·rcases hk with e|e|e
    ·replace e:k=q:=e
     omega
    ·replace e:k=tb:=e
     omega
    ·have h1:=HXl.out k e
     omega
  ·intro bb off e hn hh
   have h1:=HO4.out bb off e hn
   rcases hh with f|f|f
   ·replace f:bb=q:=f
    omega
   ·replace f:bb=tb:=f
    omega
   ·have h2:=HXl.out bb f
    omega
  ·intro bb off e hn hh
   have h1:=HO5.out bb off e (by rw[←(newV_is (krs 2) 1 7).1];exact hn)
   rcases hh with f|f|f|f|f<;>omega
 clear b6 HW HB5 HV5 hq6 lq ltb
 go_wp2_with fail
 refine bodyPost_ret (results_four rfl _ _) rfl ?_
 exact⟨A,⟨q,tb,r,x,o5,cap5⟩,rfl,HBo.out⟩
def cut2 (s:ByteArray):ByteArray:=s.extract 0 (min s.size 210)
theorem cut2_size (s:ByteArray):(cut2 s).size≤210:=by unfold cut2;rw[ByteArray.size_extract];omega
theorem lcut_any (s:ByteArray) (w:World):Calls Tryz.prog 21 #[.string s] w fun e w'=>e=.returned (.string (cut2 s))∧w'=w:=by
 have e:s.extract 0 (min (s.size:Int) 210).toNat=cut2 s:=by unfold cut2;congr 1;omega
 generalize cut2 s=X at*
 have HE:Hid _:=e
 clear e
 go_enter Tryz.func21,Tryz.ntmps21
 go_wp2_with fail
 go_ret
 refine⟨?_,rfl⟩
 show Ending.returned (.string (s.extract 0 (min (s.size:Int) 210).toNat))=_
 rw[HE.out]
def rfs (l:List (Nat × ByteArray)):List Value:=l.flatMap fun r=>[.int .u32 (r.1:Int),.string r.2]
theorem rfs_app (l:List (Nat × ByteArray)) (p:Nat) (s:ByteArray):rfs (l++[(p,s)])=rfs l++[.int .u32 (p:Int),.string s]:=by simp[rfs]
theorem rfs_get (l:List (Nat × ByteArray)) (i:Nat) (r:Nat × ByteArray) (h:l[i]? =some r):(rfs l)[i*2]? =some (.int .u32 (r.1:Int))∧(rfs l)[i*2+1]? =some (.string r.2):=by
 induction l generalizing i with
 |nil=>simp at h
 |cons a l ih=>
  cases i with
  |zero=>simp at h;subst h;exact⟨rfl,rfl⟩
  |succ i=>
   have h':l[i]? =some r:=by simpa using h
   have:=ih i h'
   have e1:rfs (a::l)=.int .u32 (a.1:Int):: .string a.2::rfs l:=rfl
   rw[e1,show(i+1)*2=i*2+1+1 by omega,show i*2+1+1+1=(i*2+1)+1+1 by omega]
   exact⟨by simpa using this.1,by simpa using this.2⟩
structure Vo where
 op:Int
 p:Nat
 n:Int
 s:ByteArray
abbrev vov (x:Vo):Value:=.agg #[.int .i64 x.op,.int .u32 (x.p:Int),.int .i64 x.n,.string x.s]
structure VoOk (x:Vo):Prop where
 o0:-9223372036854775808≤x.op
 o1:x.op≤9223372036854775807
 p1:x.p≤4294967295
 n0:-9223372036854775808≤x.n
 n1:x.n≤9223372036854775807
def VB (w:World) (ob:Nat) (x:Vo):Prop:=w.heap[ob]? =some (.cells #[.int .i64 x.op,.int .u32 (x.p:Int),.int .i64 x.n,.string x.s] 34 (0,0))
theorem VB.new (w:World) (x:Vo):VB (w.alloc (.cells #[.int .i64 x.op,.int .u32 (x.p:Int),.int .i64 x.n,.string x.s] 34)) w.heap.size x:=heap_alloc_new w _
theorem VB.lt {w:World} {ob:Nat} {x:Vo} (h:VB w ob x):ob<w.heap.size:=hlt h
theorem VB.but {S:Nat→Prop} {w w':World} {ob:Nat} {x:Vo} (h:VB w ob x) (hb:But S w w') (hs:¬S ob):VB w' ob x:=(hb.block ob h.lt hs).trans h
theorem VB.below {w w':World} {ob B:Nat} {x:Vo} (h:VB w ob x) (hb:Below B w w') (hB:w.heap.size≤B):VB w' ob x:=(hb.block ob (Nat.lt_of_lt_of_le h.lt hB)).trans h
theorem VB.c0 {w:World} {ob:Nat} {x:Vo} (h:VB w ob x):w.cell? ⟨ob,0,none⟩=some (.int .i64 x.op):=(cell_of_row _ _ _ _ _ _ h).trans rfl
theorem VB.c1 {w:World} {ob:Nat} {x:Vo} (h:VB w ob x):w.cell? ⟨ob,1,none⟩=some (.int .u32 (x.p:Int)):=(cell_of_row _ _ _ _ _ _ h).trans rfl
theorem VB.c2 {w:World} {ob:Nat} {x:Vo} (h:VB w ob x):w.cell? ⟨ob,2,none⟩=some (.int .i64 x.n):=(cell_of_row _ _ _ _ _ _ h).trans rfl
theorem VB.c3 {w:World} {ob:Nat} {x:Vo} (h:VB w ob x):w.cell? ⟨ob,3,none⟩=some (.string x.s):=(cell_of_row _ _ _ _ _ _ h).trans rfl
def refS (l:List (Nat × ByteArray)) (x:Vo):Nat × ByteArray:=if 0≤x.n∧x.n<(l.length:Int) then l.getD x.n.toNat (0,⟨#[]⟩) else(x.p,(Rd.fillS x.s).extract 0 32)
theorem refS_le (l:List (Nat × ByteArray)) (hl:∀ r∈l,r.1≤4294967295) (x:Vo) (hx:x.p≤4294967295):(refS l x).1≤4294967295:=by
 unfold refS
 split
 ·rename_i h
  have hi:x.n.toNat<l.length:=by omega
  rw[List.getD_eq_getElem?_getD,List.getElem?_eq_getElem hi]
  exact hl _ (List.getElem_mem hi)
 ·exact hx
theorem ext32 (s:ByteArray) (hs:s.size=256) (w:World):(Instr.sliceAt 9 (.string s) none (some (.int .i64 32)) none).run Tryz.prog w=.ok (.string (s.extract 0 32)) w:=Rs.ext256n s hs 32 (by omega) w
theorem own_ref {W:World} {base:Nat} {lv:Value} {l:List (Nat × ByteArray)} (h:W.ownsRow base 48 2 lv l.length (rfs l)) {i:Nat} {r:Nat × ByteArray} (hi:l[i]? =some r):
  ∃ b cap,lv=.slice (some ⟨b,0,none⟩) l.length cap∧b<W.heap.size∧W.cell? ⟨b,i*2,none⟩=some (.int .u32 (r.1:Int))∧W.cell? ⟨b,i*2+1,none⟩=some (.string r.2):=by
 obtain⟨o,cap,rfl,h1⟩:=own_form h
 have hl:i<l.length:=(List.getElem?_eq_some_iff.1 hi).1
 obtain⟨b,rfl,l1⟩:=h1 (by omega)
 obtain⟨x1,x2⟩:=rfs_get l i r hi
 exact⟨b,cap,rfl,l1,Rk.own_cellK h x1,Rk.own_cellK h x2⟩
theorem results_r1 {fn:Func} {p:Tmp} (h:fn.results=#[.cell p 48]) (tmps:Array Value) (w:World) (g:Nat) (a b:Value) {t:TypeId}
  (hp:tmps.getD p undef=.pointer (some ⟨g,0,none⟩)) (hg:w.heap[g]? =some (.cells #[a,b] t (0,0))):(results fn tmps).run Tryz.prog w=.ok (.agg #[a,b]) w:=by
 have hp':tmps[p]?.getD undef=.pointer (some ⟨g,0,none⟩):=by simpa using hp
 have c0:w.cell? ⟨g,0,none⟩=some a:=by rw[cell_of_row _ _ _ _ _ _ hg];rfl
 have c1:w.cell? ⟨g,1,none⟩=some b:=by rw[cell_of_row _ _ _ _ _ _ hg];rfl
 simp[results,h,hp',asAddr,go_sem,c0,c1]
theorem refOf_told (l:List (Nat × ByteArray)) (lv:Value) (x:Vo) (base:Nat) (w:World) (hl:w.ownsRow base 48 2 lv l.length (rfs l)) (h0:0≤x.n) (h1:x.n<(l.length:Int)):
  Calls Tryz.prog 25 #[lv,vov x] w fun e w'=>e=.returned (rf (refS l x).1 (refS l x).2)∧Below w.heap.size w w':=by
 have hs:refS l x=l.getD x.n.toNat (0,⟨#[]⟩):=by unfold refS;rw[if_pos ⟨h0,h1⟩]
 rw[hs]
 obtain⟨op,p,n,s⟩:=x
 obtain⟨i,rfl⟩:∃ i:Nat,n=(i:Int):=⟨n.toNat,(Int.toNat_of_nonneg h0).symm⟩
 have hi:i<l.length:=by have h1':(i:Int)<(l.length:Int):=h1;omega
 have hi2:l[i]? =some l[i]:=List.getElem?_eq_getElem hi
 have hd':l.getD (i:Int).toNat (0,⟨#[]⟩)=l[i]:=by rw[Int.toNat_natCast,List.getD_eq_getElem?_getD,hi2];rfl
 obtain⟨b,cap,rfl,hb,x0,x1⟩:=own_ref hl hi2
 have hd'':l.getD ({ op:=op,p:=p,n:=(i:Int),s:=s }:Vo).n.toNat (0,⟨#[]⟩)=l[i]:=hd'
 rw[hd'']
 generalize l[i]=r at*
 obtain⟨rp,rt⟩:=r
 have q1:(i:Int)<(l.length:Int):=by omega
 generalize l.length=L at*
 have y0:=World.cell?_of_block (a:=⟨b,i*2,none⟩) ((below_new w (.cells #[.int .i64 op,.int .u32 (p:Int),.int .i64 (i:Int),.string s] 34)).block b hb)
 have y1:=World.cell?_of_block (a:=⟨b,i*2+1,none⟩) ((below_new w (.cells #[.int .i64 op,.int .u32 (p:Int),.int .i64 (i:Int),.string s] 34)).block b hb)
 have b1:=below_new w (.cells #[.int .i64 op,.int .u32 (p:Int),.int .i64 (i:Int),.string s] 34)
 have v1:VB _ w.heap.size ⟨op,p,(i:Int),s⟩:=VB.new w ⟨op,p,(i:Int),s⟩
 simp only at v1
 obtain⟨W1,hW1⟩:∃ W1,w.alloc (.cells #[.int .i64 op,.int .u32 (p:Int),.int .i64 (i:Int),.string s] 34)=W1:=⟨_,rfl⟩
 rw[hW1] at y0 y1 b1 v1
 have b2:=below_new W1 (.cells #[.int .u32 0,.string ⟨#[]⟩] 48)
 have g2:=fb_new W1
 obtain⟨W2,hW2⟩:∃ W2,W1.alloc (.cells #[.int .u32 0,.string ⟨#[]⟩] 48)=W2:=⟨_,rfl⟩
 rw[hW2] at b2 g2
 have HW:Hid ((w.alloc (.cells #[.int .i64 op,.int .u32 (p:Int),.int .i64 (i:Int),.string s] 34)).alloc (.cells #[.int .u32 0,.string ⟨#[]⟩] 48)=W2):=by
  show _=_
  rw[hW1,hW2]
 have v2:=v1.below b2 (Nat.le_refl _)
 have c2:=v2.c2
 simp only at c2
 have z0:=(World.cell?_of_block (a:=⟨b,i*2,none⟩) (b2.block b (Nat.lt_of_lt_of_le hb b1.size))).trans (y0.trans x0)
 have z1:=(World.cell?_of_block (a:=⟨b,i*2+1,none⟩) (b2.block b (Nat.lt_of_lt_of_le hb b1.size))).trans (y1.trans x1)
 simp only at z0 z1
 obtain⟨f0,f1,k0,k1⟩:=g2.facts
 have hG:W1.heap.size=w.heap.size+1:=by rw[←hW1];simp
 rw[hG] at f0 f1 g2 k0 k1
 have g3:=g2.set (rp:Int) rt
 have f1':(W2.setCell ⟨w.heap.size+1,0,none⟩ (.int .u32 (rp:Int))).frozen? ⟨w.heap.size+1,1,none⟩=false:=frozen_of_row _ _ _ _ _ (heap_setCell_same W2 (w.heap.size+1) 0 _ _ (.int .u32 (rp:Int)) g2)
 have m2:=hlt g2
 have hB:Below w.heap.size w W2:=b1.trans (b2.mono b1.size)
 obtain⟨W3,hW3⟩:∃ W3,(W2.setCell ⟨w.heap.size+1,0,none⟩ (.int .u32 (rp:Int))).setCell ⟨w.heap.size+1,1,none⟩ (.string rt)=W3:=⟨_,rfl⟩
 rw[hW3] at g3
 have HB3:Hid (Below w.heap.size w W3):=hB.trans (g3.2 w.heap.size (by omega))
 have HG3:Hid (FB (w.heap.size+1) (rp:Int) rt W3):=g3.1
 have HW3:Hid _:=hW3
 have hbz:b<W2.heap.size:=Nat.lt_of_lt_of_le hb hB.size
 clear g3 g2 hW3 hG hB b1 b2 v1 v2 hW1 hW2 y0 y1 x0 x1 hl h0 h1 hs hd' hd'' hi hi2 hb
 go_enter Tryz.func25,Tryz.ntmps25
 go_wp2_with (first|(rw[HW.out];clear HW)|(rw[HW3.out];clear HW3))
 refine bodyPost_ret (results_r1 rfl _ _ _ _ _ rfl HG3.out) rfl ?_
 exact⟨rfl,HB3.out⟩
def VS2 (ob:Nat) (x:Vo) (w:World):Prop:=(w.cell? ⟨ob,1,none⟩=some (.int .u32 (x.p:Int))∧w.cell? ⟨ob,3,none⟩=some (.string x.s))∧FB (ob+1) 0 ⟨#[]⟩ w
theorem refOf_else (l:List (Nat × ByteArray)) (lv:Value) (x:Vo) (base:Nat) (w:World) (hl:w.ownsRow base 48 2 lv l.length (rfs l)) (h0:¬(0≤x.n∧x.n<(l.length:Int))):
  Calls Tryz.prog 25 #[lv,vov x] w fun e w'=>e=.returned (rf (refS l x).1 (refS l x).2)∧Below w.heap.size w w':=by
 have hs:refS l x=(x.p,(Rd.fillS x.s).extract 0 32):=by unfold refS;rw[if_neg h0]
 rw[hs]
 obtain⟨o,cap,rfl,-⟩:=own_form hl
 obtain⟨op,p,n,s⟩:=x
 replace h0:¬(0≤n∧n<(l.length:Int)):=h0
 have e32:=fun w=>ext32 (Rd.fillS s) (Rd.fill_size s) w
 have HF:Hid (∀ W,_):=fun W=>Rd.filled_any s W
 simp only
 generalize Rd.fillS s=T at*
 generalize T.extract 0 32=T32 at*
 generalize l.length=L at*
 have b1:=below_new w (.cells #[.int .i64 op,.int .u32 (p:Int),.int .i64 n,.string s] 34)
 have v1:VB _ w.heap.size ⟨op,p,n,s⟩:=VB.new w ⟨op,p,n,s⟩
 simp only at v1
 obtain⟨W1,hW1⟩:∃ W1,w.alloc (.cells #[.int .i64 op,.int .u32 (p:Int),.int .i64 n,.string s] 34)=W1:=⟨_,rfl⟩
 rw[hW1] at b1 v1
 have b2:=below_new W1 (.cells #[.int .u32 0,.string ⟨#[]⟩] 48)
 have g2:=fb_new W1
 obtain⟨W2,hW2⟩:∃ W2,W1.alloc (.cells #[.int .u32 0,.string ⟨#[]⟩] 48)=W2:=⟨_,rfl⟩
 rw[hW2] at b2 g2
 have HW:Hid ((w.alloc (.cells #[.int .i64 op,.int .u32 (p:Int),.int .i64 n,.string s] 34)).alloc (.cells #[.int .u32 0,.string ⟨#[]⟩] 48)=W2):=by
  show _=_
  rw[hW1,hW2]
 have v2:=v1.below b2 (Nat.le_refl _)
 have c1:=v2.c1
 have c2:=v2.c2
 have c3:=v2.c3
 simp only at c1 c2 c3
 have hG:W1.heap.size=w.heap.size+1:=by rw[←hW1];simp
 rw[hG] at g2
 have hB:Below w.heap.size w W2:=b1.trans (b2.mono b1.size)
 have HB:Hid (Below w.heap.size w W2):=hB
 have HG:Hid (FB (w.heap.size+1) 0 ⟨#[]⟩ W2):=g2
 have HV:Hid (VB W2 w.heap.size ⟨op,p,n,s⟩):=v2
 have HP:Hid (∀ W3 W4,FB (w.heap.size+1) 0 ⟨#[]⟩ W3→Below W2.heap.size W2 W3→(W3.setCell ⟨w.heap.size+1,0,none⟩ (.int .u32 (p:Int))).setCell ⟨w.heap.size+1,1,none⟩ (.string T32)=W4→FB (w.heap.size+1) (p:Int) T32 W4∧Below w.heap.size w W4):=fun W3 W4 hf hb e=>by
  have g3:=hf.set (p:Int) T32
  rw[e] at g3
  exact⟨g3.1,(hB.trans (hb.mono hB.size)).trans (g3.2 w.heap.size (by omega))⟩
 clear hG hB b1 b2 v1 v2 hW1 hW2 hl hs g2
 have fin:∀ W3:World,Below W2.heap.size W2 W3→VS2 w.heap.size ⟨op,p,n,s⟩ W3:=fun W3 hb=>⟨⟨(HV.out.below hb (Nat.le_refl _)).c1,(HV.out.below hb (Nat.le_refl _)).c3⟩,HG.out.grow hb⟩
 have HFin:Hid (∀ W3:World,Below W2.heap.size W2 W3→VS2 w.heap.size ⟨op,p,n,s⟩ W3):=fin
 have HDr:Hid (Below W2.heap.size W2 W2.drew):=⟨rfl,rfl,rfl,Nat.le_refl _,fun _ _=>rfl⟩
 clear fin
 go_enter Tryz.func25,Tryz.ntmps25
 by_cases hn:0≤n
 ·have hn2:¬n<(L:Int):=fun h=>h0 ⟨hn,h⟩
  clear h0
  go_wp2_with (first|(rw[HW.out];clear HW))
  go_region_held3 (fun w'=>w'.cell? ⟨w.heap.size,1,none⟩=some (.int .u32 (p:Int))∧w'.cell? ⟨w.heap.size,3,none⟩=some (.string s)) (first|go_keep|assumption|(refine⟨?_,?_⟩<;>assumption)|(refine⟨?_,?_,?_⟩<;>assumption)) (first
   |(go_at_call 51;refine(HF.out _).mono ?_;rintro e W3 ⟨rfl,b3⟩;have b3':=HDr.out.trans (b3.mono (Nat.le_refl _));obtain⟨⟨y1,y3⟩,G3⟩:=HFin.out W3 b3';obtain⟨z0,z1,k0,k1⟩:=G3.facts;have z1':(W3.setCell ⟨w.heap.size+1,0,none⟩ (.int .u32 (p:Int))).frozen? ⟨w.heap.size+1,1,none⟩=false:=frozen_of_row _ _ _ _ _ (heap_setCell_same W3 (w.heap.size+1) 0 _ _ (.int .u32 (p:Int)) G3)))
  obtain⟨W4,hW4⟩:∃ W4,(W3.setCell ⟨w.heap.size+1,0,none⟩ (.int .u32 (p:Int))).setCell ⟨w.heap.size+1,1,none⟩ (.string T32)=W4:=⟨_,rfl⟩
  have H4:Hid _:=HP.out W3 W4 G3 b3' hW4
  go_wp2_with (first|(rw[hW4]))
  refine bodyPost_ret (results_r1 rfl _ _ _ _ _ rfl H4.out.1) rfl ?_
  exact⟨rfl,H4.out.2⟩
 ·clear h0
  go_wp2_with (first|(rw[HW.out];clear HW))
  go_region_held3 (fun w'=>w'.cell? ⟨w.heap.size,1,none⟩=some (.int .u32 (p:Int))∧w'.cell? ⟨w.heap.size,3,none⟩=some (.string s)) (first|go_keep|assumption|(refine⟨?_,?_⟩<;>assumption)|(refine⟨?_,?_,?_⟩<;>assumption)) (first
   |(go_at_call 51;refine(HF.out _).mono ?_;rintro e W3 ⟨rfl,b3⟩;have b3':=HDr.out.trans (b3.mono (Nat.le_refl _));obtain⟨⟨y1,y3⟩,G3⟩:=HFin.out W3 b3';obtain⟨z0,z1,k0,k1⟩:=G3.facts;have z1':(W3.setCell ⟨w.heap.size+1,0,none⟩ (.int .u32 (p:Int))).frozen? ⟨w.heap.size+1,1,none⟩=false:=frozen_of_row _ _ _ _ _ (heap_setCell_same W3 (w.heap.size+1) 0 _ _ (.int .u32 (p:Int)) G3)))
  obtain⟨W4,hW4⟩:∃ W4,(W3.setCell ⟨w.heap.size+1,0,none⟩ (.int .u32 (p:Int))).setCell ⟨w.heap.size+1,1,none⟩ (.string T32)=W4:=⟨_,rfl⟩
  have H4:Hid _:=HP.out W3 W4 G3 b3' hW4
  go_wp2_with (first|(rw[hW4]))
  refine bodyPost_ret (results_r1 rfl _ _ _ _ _ rfl H4.out.1) rfl ?_
  exact⟨rfl,H4.out.2⟩
theorem refOf_any (l:List (Nat × ByteArray)) (lv:Value) (x:Vo) (base:Nat) (w:World) (hl:w.ownsRow base 48 2 lv l.length (rfs l)):
  Calls Tryz.prog 25 #[lv,vov x] w fun e w'=>e=.returned (rf (refS l x).1 (refS l x).2)∧Below w.heap.size w w':=by
 by_cases h:0≤x.n∧x.n<(l.length:Int)
 ·exact refOf_told l lv x base w hl h.1 h.2
 ·exact refOf_else l lv x base w hl h
structure Pln (n k:Nat) (v:Vs) (t:St):Prop where
 nn:t.n=n
 c2:cf v.tk 2=0
 cn:cf v.tk n+v.nt=n
 f:Rk.feS v.ring v.gen=0
 g0:0≤v.gen
 g1:v.gen<4294967296
 b0:0≤v.boot
 b1:v.boot<4294967296
 s:v.seals≤k
theorem Pln.more {n k k':Nat} {v:Vs} {t:St} (h:Pln n k v t) (hk:k≤k'):Pln n k' v t:=⟨h.nn,h.c2,h.cn,h.f,h.g0,h.g1,h.b0,h.b1,Nat.le_trans h.s hk⟩
theorem Pln.dev {n k:Nat} {v:Vs} {t t':St} (h:Pln n k v t) (hn:t'.n=t.n):Pln n k v t':=⟨hn.trans h.nn,h.c2,h.cn,h.f,h.g0,h.g1,h.b0,h.b1,h.s⟩
theorem Pln.fits {n k:Nat} {v:Vs} {t:St} (h:Pln n k v t) (hk:k≤1000000) {p:Nat} (hp:p≤4294967295):Rs.fits (hd v p):=by
 refine⟨?_,?_,?_,?_⟩
 all_goals (have:=h.g0;have:=h.g1;have:=h.b0;have:=h.b1;have:=h.s;simp only[hd];omega)
theorem Pln.put {n k:Nat} {v:Vs} {t:St} (h:Pln n k v t) (Kt:Nat→Int) (p:Nat) (s:ByteArray):Pln n (k+1) (putN v p s) (putT Kt v t p s):=by
 have e:=putT_n Kt v t p s
 unfold putN
 split
 ·exact⟨e.trans h.nn,h.c2,h.cn,h.f,h.g0,h.g1,h.b0,h.b1,Nat.succ_le_succ h.s⟩
 ·exact⟨e.trans h.nn,h.c2,h.cn,h.f,h.g0,h.g1,h.b0,h.b1,Nat.le_succ_of_le h.s⟩
theorem putN_tk (v:Vs) (p:Nat) (s:ByteArray):(putN v p s).tk=v.tk∧(putN v p s).ring=v.ring:=by unfold putN;split<;>exact⟨rfl,rfl⟩
theorem Pln.take {n k:Nat} {v:Vs} {t:St} (h:Pln n k v t) {p:Nat} (h2:2≤p) (hp:p<n) (hf:(v.tk p).isSome=false):Pln n k (take v p) t:=by
 refine⟨h.nn,?_,cf_take h.cn hp hf,h.f,h.g0,h.g1,h.b0,h.b1,h.s⟩
 have:=cf_put v.tk p (some ()) 2
 have c2:=h.c2
 show cf (tput v.tk p (some ())) 2=0
 have n1:¬p<2:=by omega
 simp only[n1,false_and,if_false] at this
 omega
theorem Pln.give {n k:Nat} {v:Vs} {t:St} (h:Pln n k v t) {p:Nat} (h2:2≤p) (hp:p<n) (hf:(v.tk p).isSome=true):Pln n k (give v p) t:=by
 have hc:=cf_put v.tk p none n
 have cn:=h.cn
 have cl:cf v.tk n≤n:=cf_le v.tk n
 have hlt':cf v.tk n<n:=by
  simp[hp,hf] at hc
  have:=cf_le (tput v.tk p none) n
  omega
 refine⟨h.nn,?_,?_,h.f,h.g0,h.g1,h.b0,h.b1,h.s⟩
 ·have:=cf_put v.tk p none 2
  have c2:=h.c2
  show cf (tput v.tk p none) 2=0
  have n1:¬p<2:=by omega
  simp only[n1,false_and,if_false] at this
  omega
 ·show cf (tput v.tk p none) n+(if(v.tk p).isSome=true then v.nt - 1 else v.nt)=n
  rw[if_pos hf]
  simp[hp,hf] at hc
  omega
theorem Pln.turn {n k:Nat} {v:Vs} {t:St} (h:Pln n k v t) {l:List Rk.Ky} {g:Int} (h0:Rk.feS l g=0) (g0:0≤g) (g1:g<4294967296):Pln n k (turn v l g) t:=⟨h.nn,h.c2,h.cn,h0,g0,g1,h.b0,h.b1,h.s⟩
theorem least_is {n k:Nat} {v:Vs} {t:St} (h:Pln n k v t) {p:Nat} (hl:leastS v.tk n=some p):2≤p∧p<n∧(v.tk p).isSome=false:=by
 have h1:=List.find?_some hl
 have h2:=List.mem_of_find?_eq_some hl
 have h3:p<n:=by simpa using h2
 have h4:(v.tk p).isSome=false:=by simpa using h1
 refine⟨?_,h3,h4⟩
 by_cases h5:2≤p
 ·exact h5
 ·have h6:cf v.tk (p+1)≤cf v.tk 2:=cf_mono v.tk (by omega)
  rw[cf_succ,h4,h.c2] at h6
  simp at h6
theorem free_is {n k:Nat} {v:Vs} {t:St} (h:Pln n k v t):t.n - v.nt=cf v.tk t.n:=by have:=h.cn;rw[h.nn];omega
structure Sta (w0:World) (base:Nat) (A:Pl) (P:Qp) (v:Vs) (t:St) (l:List (Nat × ByteArray)) (lv:Value) (W:World):Prop where
 bo:Both w0 A P v t W
 row:W.ownsRow base 48 2 lv l.length (rfs l)
 hi:∀ k,A.has k∨P.has k→k<base
 nA:∀ g b off,lv.ownBlock=some g→A.o=some ⟨b,off,none⟩→b≠g
 nP:∀ g b off,lv.ownBlock=some g→P.o=some ⟨b,off,none⟩→b≠g
 rl:∀ r∈l,r.1≤4294967295
 bz:base≤W.heap.size
theorem Sta.below {w0:World} {base:Nat} {A:Pl} {P:Qp} {v:Vs} {t:St} {l:List (Nat × ByteArray)} {lv:Value} {W W':World} (h:Sta w0 base A P v t l lv W) (hb:Below W.heap.size W W'):Sta w0 base A P v t l lv W':=
 ⟨h.bo.below hb,own_same' h.row hb,h.hi,h.nA,h.nP,h.rl,Nat.le_trans h.bz hb.size⟩
theorem Sta.step {w0:World} {base:Nat} {A:Pl} {P:Qp} {v v':Vs} {t t':St} {l:List (Nat × ByteArray)} {lv:Value} {W W':World} (h:Sta w0 base A P v t l lv W) (hB:Both w0 A P v' t' W') (hb:But (fun k=>A.has k∨P.has k) W W'):Sta w0 base A P v' t' l lv W':=
 ⟨hB,own_but h.row hb (fun g hg hh=>by have:=(own_base h.row hg).1;have:=h.hi g hh;omega),h.hi,h.nA,h.nP,h.rl,Nat.le_trans h.bz hb.size⟩
theorem two_buts {A:Pl} {P:Qp} {W W1 W2:World} (h1:But A.has W W1) (h2:But P.has W1 W2):But (fun k=>A.has k∨P.has k) W W2:=(h1.more fun _ e=>.inl e).trans (h2.more fun _ e=>.inr e)
theorem two_butsR {A:Pl} {P:Qp} {W W1 W2:World} (h1:But P.has W W1) (h2:But A.has W1 W2):But (fun k=>A.has k∨P.has k) W W2:=(h1.more fun _ e=>.inr e).trans (h2.more fun _ e=>.inl e)
def DidP (w0:World) (base n k:Nat) (A:Pl) (P:Qp) (l:List (Nat × ByteArray)) (e:Ending) (w':World):Prop:=
 ∃ (A':Pl) (P':Qp) (v':Vs) (t':St) (l':List (Nat × ByteArray)) (lv':Value),e=.returned (.tuple #[lv',.bool true])∧Sta w0 base A' P' v' t' l' lv' w'∧Pln n (k+1) v' t'∧(A'.g=A.g∧A'.d=A.d∧P'.q=P.q)∧l'.length≤l.length+1
theorem below_drew (W:World):Below W.heap.size W W.drew:=⟨rfl,rfl,rfl,Nat.le_refl _,fun _ _=>rfl⟩
theorem Sta.push {w0:World} {base:Nat} {A:Pl} {P:Qp} {v:Vs} {t:St} {l:List (Nat × ByteArray)} {lv:Value} {W:World} (h:Sta w0 base A P v t l lv W) (p:Nat) (hp:p≤4294967295) (s:ByteArray) (hl:l.length≤100) (hr:v.ring≠[]):
  ∃ lv' W',(Builtin.append_ #[29,29] 29 #[lv,.slice (some ⟨W.heap.size,0,none⟩) 1 1]).run Tryz.prog (W.alloc (.cells #[.int .u32 (p:Int),.string s] 48))=.ok lv' W'∧Sta w0 base A P v t (l++[(p,s)]) lv' W'∧But (fun k=>lv.ownBlock=some k) W W':=by
 obtain⟨lv',W',r1,o1,g1,b1⟩:=app_ref W base l.length lv (rfs l) (p:Int) s h.row h.bz (by omega)
 have n1:=below_new W (.cells #[.int .u32 (p:Int),.string s] 48)
 have s1:(W.alloc (.cells #[.int .u32 (p:Int),.string s] 48)).heap.size=W.heap.size+1:=by simp
 have c1:Below base W W':=(n1.mono h.bz).grown g1 (by rw[s1];have:=h.bz;omega) fun g hg=>(own_base h.row hg).1
 have hb:But (fun k=>lv.ownBlock=some k) W W':=⟨c1.os,c1.tape,c1.output,c1.size,fun k hk hn=>by rw[g1.block k (by omega) (fun e=>hn e.symm),n1.block k hk]⟩
 refine⟨lv',W',r1,⟨⟨?_,?_,h.bo.ok,?_,h.bo.ap,h.bo.lo,h.bo.ra,h.bo.rq⟩,?_,h.hi,?_,?_,?_,Nat.le_trans h.bz c1.size⟩,hb⟩
 ·exact h.bo.va.but hb (fun k hk e=>by have:=(own_base h.row e).1;have:=h.hi k (.inl hk);omega) (fun b off e _ hh=>h.nA b b off hh e rfl)
 ·exact h.bo.vq.but hb (fun k hk e=>by have:=(own_base h.row e).1;have:=h.hi k (.inr hk);omega) (fun b off e _ hh=>h.nP b b off hh e rfl)
 ·have hw:w0.heap.size≤base:=by have:=h.bo.lo A.g (.inl (.inl rfl));have:=h.hi A.g (.inl (.inl rfl));omega
  exact h.bo.bel.trans (c1.mono hw)
 ·rw[rfs_app];simpa using o1
 ·intro g b off hg e
  rcases b1 with b'|b'
  ·exact h.nA g b off (by rw[←b'];exact hg) e
  ·rw[b'] at hg
   cases hg
   obtain⟨b2,off2,e2,hl2,-⟩:=h.bo.va.self.2.1.2.2.2 hr
   rw[e] at e2
   cases e2
   omega
 ·intro g b off hg e
  rcases b1 with b'|b'
  ·exact h.nP g b off (by rw[←b'];exact hg) e
  ·rw[b'] at hg
   cases hg
   obtain⟨b2,off2,e2,hl2,-⟩:=h.bo.vq.ring.2.2.2 hr
   rw[e] at e2
   cases e2
   omega
 ·intro r hr'
  rcases List.mem_append.1 hr' with h1|h1
  ·exact h.rl r h1
  ·rw[List.mem_singleton.1 h1];exact hp
theorem Pln.ne {n k:Nat} {v:Vs} {t:St} (h:Pln n k v t):v.ring≠[]:=(fe_ne h.f).1
theorem wsuper_arg (q p:Nat) (s:ByteArray) (w:World) (h2:¬p<2):
  Calls Tryz.prog 24 #[pt q,.int .u32 (p:Int),.string s] w fun e w'=>e=.returned (.tuple #[.string ⟨#[]⟩,.int .i64 2])∧w'=w:=by
 have q1:(1:Int)<(p:Int):=by omega
 have q2:decide ((1:Int)<(p:Int))=true:=decide_eq_true q1
 clear h2
 go_enter Tryz.func24,Tryz.ntmps24
 go_wp2_with fail
 go_ret2
 exact⟨rfl,rfl⟩
theorem wsuper_any (Kt:Nat→Int) (P:Qp) (v:Vs) (t:St) (p:Nat) (s:ByteArray) (w:World) (hv:Qlt w P v t) (hk:Ok t) (hT:Rs.Tr Kt w) (hf:p<2→Rs.fits (hd v p)) (hs:v.seals+1<18446744073709551616) (h0:Rk.feS v.ring v.gen=0):
  Calls Tryz.prog 24 #[pt P.q,.int .u32 (p:Int),.string s] w fun e w'=>e=.returned (.tuple #[.string (supV Kt v t p s),.int .i64 (supE Kt v t p s)])∧Qlt w' P (supN v p s) (supT Kt v t p s)∧But P.has w w':=by
 by_cases hz:s.size≤198
 ·exact wsuper_fit Kt P v t p s w hv hk hT hf hs hz
 ·by_cases h2:p<2
  ·have e0:Rs.sE v.ring (hd v p) s=50:=sE_long h0 (by omega)
   have n0:¬Rs.sE v.ring (hd v p) s=0:=by rw[e0];decide
   have e1:supE Kt v t p s=50:=by unfold supE putE;rw[if_pos h2,if_neg n0,e0]
   have e2:supV Kt v t p s=⟨#[]⟩:=by unfold supV putV putE;rw[if_pos h2,if_neg n0,if_neg n0]
   have e3:supN v p s=v:=by unfold supN putN;rw[if_pos h2,if_neg n0]
   have e4:supT Kt v t p s=t:=by unfold supT putT;rw[if_pos h2,if_neg n0]
   rw[e1,e2,e3,e4]
   refine(wsuper_long P.q p s w h2 (by omega)).mono ?_
   rintro e w' ⟨rfl,rfl⟩
   exact⟨rfl,hv,But.refl _ _⟩
  ·have e1:supE Kt v t p s=2:=by unfold supE;rw[if_neg h2]
   have e2:supV Kt v t p s=⟨#[]⟩:=by unfold supV;rw[if_neg h2]
   have e3:supN v p s=v:=by unfold supN;rw[if_neg h2]
   have e4:supT Kt v t p s=t:=by unfold supT;rw[if_neg h2]
   rw[e1,e2,e3,e4]
   refine(wsuper_arg P.q p s w h2).mono ?_
   rintro e w' ⟨rfl,rfl⟩
   exact⟨rfl,hv,But.refl _ _⟩
theorem putT_ok (Kt:Nat→Int) {v:Vs} {t:St} (hk:Ok t) (p:Nat) (s:ByteArray):Ok (putT Kt v t p s):=by
 unfold putT
 split
 ·exact Rd.writeS_ok hk p _
 ·exact hk
theorem sup_ok (Kt:Nat→Int) {n k:Nat} {v:Vs} {t:St} (h:Pln n k v t) (hk:Ok t) (p:Nat) (s:ByteArray):Pln n (k+1) (supN v p s) (supT Kt v t p s)∧Ok (supT Kt v t p s)∧(supN v p s).ring=v.ring:=by
 unfold supN supT
 split
 ·exact⟨h.put Kt p s,putT_ok Kt hk p s,(putN_tk v p s).2⟩
 ·exact⟨h.more (Nat.le_succ _),hk,rfl⟩
end Go.Proofs.YtfaflomephjkgaaGreatDoor.Rv
