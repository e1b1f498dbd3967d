/- open: what a block says. -/
import Derived.Test.YtfaflomephjkgaaGreatDoorQVB
set_option maxRecDepth 100000
set_option maxHeartbeats 4000000
namespace Go.Proofs.YtfaflomephjkgaaGreatDoor.Rv
open Go.RowKit Go.Lib
open Go.Proofs.YtfaflomephjkgaaGreatDoor.Rd (But St Ok Dev Dv pt below_new natOf)
theorem read_size {t:St} (hk:Ok t) {p:Nat} (h:Rd.readE t p=0):(Rd.readV t p).size=256:=by
 unfold Rd.readV
 rw[if_pos h]
 unfold Rd.readE at h
 by_cases hp:p<t.n
 ·unfold Rd.holdS
  cases hd:t.pd p with
  |none=>exact hk.tx p hp
  |some x=>exact(hk.pd p x hd).2
 ·rw[if_neg hp] at h;cases h
def meant (t:St) (p:Nat) (tag:ByteArray):Bool:=decide (Rs.tagS (Rd.readV t p)=tag)&&says (Rd.readV t p) p
def opE (Kt:Nat→Int) (v:Vs) (t:St) (p:Nat) (tag:ByteArray):Int:=if Rd.readE t p=0 then(if meant t p tag=true then Rs.oE Kt v.ring (Rd.readV t p) else 61) else Rd.readE t p
def opH (Kt:Nat→Int) (v:Vs) (t:St) (p:Nat) (tag:ByteArray):Rs.Hd:=if Rd.readE t p=0∧meant t p tag=true then Rs.oH Kt v.ring (Rd.readV t p) else Rs.zh
def opS (Kt:Nat→Int) (v:Vs) (t:St) (p:Nat) (tag:ByteArray):ByteArray:=if Rd.readE t p=0∧meant t p tag=true then Rs.oS Kt v.ring (Rd.readV t p) else⟨#[]⟩
def HB (g:Nat) (h:Rs.Hd) (W:World):Prop:=W.heap[g]? =some (.cells #[.int .u32 h.1,.int .u32 h.2.1,.int .u32 h.2.2.1,.int .u64 h.2.2.2] 91 (0,0))
theorem HB.grow {g:Nat} {h:Rs.Hd} {W W':World} (x:HB g h W) (hb:Below W.heap.size W W'):HB g h W':=(hb.block _ (hlt x)).trans x
theorem hb_new (W:World):HB W.heap.size Rs.zh (W.alloc (.cells #[.int .u32 0,.int .u32 0,.int .u32 0,.int .u64 0] 91)):=heap_alloc_new W _
theorem vopen_any (Kt:Nat→Int) (A:Pl) (v:Vs) (t:St) (p:Nat) (hp:p≤4294967295) (tag:ByteArray) (w:World) (hv:Vlt w A v t) (hk:Ok t) (hT:Rs.Tb Kt w):
  Calls Tryz.prog 53 #[pt A.g,.int .u32 (p:Int),.string tag] w fun e w'=>e=.returned (.tuple #[Rs.hv (opH Kt v t p tag),.string (opS Kt v t p tag),.int .i64 (opE Kt v t p tag)])∧Below w.heap.size w w':=by
 have hb:=below_new w (.cells #[.int .u32 0,.int .u32 0,.int .u32 0,.int .u64 0] 91)
 have hg:=hb_new w
 obtain⟨W0,hW0⟩:∃ W0,w.alloc (.cells #[.int .u32 0,.int .u32 0,.int .u32 0,.int .u64 0] 91)=W0:=⟨_,rfl⟩
 rw[hW0] at hb hg
 have HW0:Hid _:=hW0
 have HB0:Hid (Below w.heap.size w W0):=hb
 have HH0:Hid (HB w.heap.size Rs.zh W0):=hg
 have hv0:=hv.below hb (Nat.le_refl _)
 have HN:Hid (∀ _:True,_):=fun _=>vnone_any A v t W0 hv0
 have HRd:Hid (∀ _:True,_):=fun _=>Rd.read_any A.d A.b A.m t p hp W0 hv0.dev hk
 obtain⟨h1,h2⟩:=hv0.self
 obtain⟨⟨c0,c1,-⟩,-⟩:=c6_of h1
 have HOp:Hid (∀ W,Below w.heap.size w W→Calls Tryz.prog 77 #[.slice A.o v.ring.length A.cap,.string (Rd.readV t p)] W fun e w'=>e=.returned (.tuple #[Rs.hv (Rs.oH Kt v.ring (Rd.readV t p)),.string (Rs.oS Kt v.ring (Rd.readV t p)),.int .i64 (Rs.oE Kt v.ring (Rd.readV t p))])∧Below W.heap.size W w'):=fun W hW=>Rs.open_any Kt v.ring A.o A.cap (Rd.readV t p) W (hv.self.2.1.below hW (Nat.le_refl _)) (hT.below hW (Nat.le_refl _))
 have HC1:Hid (∀ W,Below w.heap.size w W→W.cell? ⟨A.g,1,none⟩=some (.slice A.o v.ring.length A.cap)):=fun W hW=>(c6_of (hv.below hW (Nat.le_refl _)).self.1).1.2.1
 have HSy:Hid (Rd.readE t p=0→∀ W,Calls Tryz.prog 76 #[.string (Rd.readV t p),.int .u32 (p:Int)] W fun e w'=>e=.returned (.bool (says (Rd.readV t p) p))∧Below W.heap.size W w'):=fun h0 W=>says_any _ (read_size hk h0) p hp W
 have HTg:Hid (Rd.readE t p=0→∀ W,Calls Tryz.prog 68 #[.string (Rd.readV t p)] W fun e w'=>e=.returned (.string (Rs.tagS (Rd.readV t p)))∧w'=W):=fun h0 W=>Rs.tag_any _ (by rw[read_size hk h0];decide) W
 have HE:Hid (opE Kt v t p tag=if Rd.readE t p=0 then(if meant t p tag=true then Rs.oE Kt v.ring (Rd.readV t p) else 61) else Rd.readE t p):=rfl
 have HH:Hid (opH Kt v t p tag=if Rd.readE t p=0∧meant t p tag=true then Rs.oH Kt v.ring (Rd.readV t p) else Rs.zh):=rfl
 have HS:Hid (opS Kt v t p tag=if Rd.readE t p=0∧meant t p tag=true then Rs.oS Kt v.ring (Rd.readV t p) else⟨#[]⟩):=rfl
 have HM:Hid (meant t p tag=(decide (Rs.tagS (Rd.readV t p)=tag)&&says (Rd.readV t p) p)):=rfl
 have m0:=hlt hg
 have lg:A.g<W0.heap.size:=hv0.lt.1
 have lgw:A.g<w.heap.size:=hv.lt.1
 clear hb hg hW0 hv hv0 hk hT h1 h2 hp c1
 generalize opE Kt v t p tag=OE at*
 generalize opH Kt v t p tag=OH at*
 generalize opS Kt v t p tag=OS at*
 generalize meant t p tag=MM at*
 generalize Rd.readE t p=RE at*
 generalize Rs.oE Kt v.ring (Rd.readV t p)=XE at*
 generalize Rs.oH Kt v.ring (Rd.readV t p)=XH at*
 generalize Rs.oS Kt v.ring (Rd.readV t p)=XS at*
 generalize says (Rd.readV t p) p=SY at*
 generalize Rs.tagS (Rd.readV t p)=TG at*
 generalize Rd.readV t p=RV at*
 go_enter Tryz.func53,Tryz.ntmps53
 go_wp2_with (first|(rw[HW0.out];clear HW0))
 refine Calls.mono (HN.out trivial) ?_
 rintro e w1 ⟨rfl,hw1⟩
 have hw1':=hw1.symm
 clear hw1 HN
 subst hw1'
 go_wp2_with fail
 refine Calls.mono (HRd.out trivial) ?_
 rintro e w2 ⟨rfl,b2⟩
 have HB2:Hid (Below w.heap.size w w2):=HB0.out.trans (b2.mono HB0.out.size)
 have HH2:Hid (HB w.heap.size Rs.zh w2):=HH0.out.grow b2
 clear b2 HRd HB0 HH0 c0
 by_cases hE:RE=0
 ·subst hE
  have HTg2:Hid _:=HTg.out rfl
  have HSy2:Hid _:=HSy.out rfl
  clear HTg HSy
  go_wp2_with fail
  refine Calls.mono (HTg2.out _) ?_
  rintro e w3 ⟨rfl,hw3⟩
  have hw3':=hw3.symm
  clear hw3 HTg2
  subst hw3'
  by_cases hg:TG=tag
  ·subst hg
   have q1:(TG.toList==TG.toList)=true:=beq_self_eq_true _
   have q2:(TG.toList !=TG.toList)=false:=by simp
   rw[decide_eq_true rfl,Bool.true_and] at HM
   go_wp2_with fail
   refine Calls.mono (HSy2.out _) ?_
   rintro e w4 ⟨rfl,b4⟩
   have HB4:Hid (Below w.heap.size w w4):=HB2.out.trans (b4.mono HB2.out.size)
   have HH4:Hid (HB w.heap.size Rs.zh w4):=HH2.out.grow b4
   clear b4 HSy2 HB2 HH2
   cases SY with
   |true=>
    have hm:MM=true:=HM.out
    subst hm
    have HE2:Hid (OE=XE):=(by have:=HE.out;simpa using this:OE=XE)
    have HH5:Hid (OH=XH):=(by have:=HH.out;simpa using this:OH=XH)
    have HS5:Hid (OS=XS):=(by have:=HS.out;simpa using this:OS=XS)
    have c1:=HC1.out w4 HB4.out
    have lg4:A.g<w4.heap.size:=Nat.lt_of_lt_of_le lgw HB4.out.size
    obtain⟨a,b',c,d⟩:=XH
    simp only[Rs.hv] at HOp
    clear HE HH HS HM
    go_wp2_with fail
    refine Calls.mono (HOp.out _ HB4.out) ?_
    rintro e w5 ⟨rfl,b5⟩
    have HB5:Hid (Below w.heap.size w w5):=HB4.out.trans (b5.mono HB4.out.size)
    have HH6:Hid (HB w.heap.size Rs.zh w5):=HH4.out.grow b5
    have Z5:Hid (w5.heap[w.heap.size]? =some (.cells #[.int .u32 0,.int .u32 0,.int .u32 0,.int .u64 0] 91 (0,0))):=HH6.out
    clear b5 HOp HB4 HH4 HH6 c1
    go_wp2_with (refine wpList_store_row rfl 91 _ _ rfl w.heap.size _ rfl rfl 91 _ Z5.out (by kernel_rfl) rfl (by simp[Value.oneCell']) ?_)
    refine bodyPost_ret (Rs.results_open rfl _ _ w.heap.size (a,b',c,d) rfl (setRow_heap _ _ _ _ _ _ Z5.out)) rfl ?_
    exact⟨by rw[HE2.out,HH5.out,HS5.out];rfl,below_setRow HB5.out (Nat.le_refl _) _⟩
   |false=>
    have hm:MM=false:=HM.out
    subst hm
    have HE2:Hid (OE=61):=(by have:=HE.out;simpa using this:OE=61)
    have HH5:Hid (OH=Rs.zh):=(by have:=HH.out;simpa using this:OH=Rs.zh)
    have HS5:Hid (OS=⟨#[]⟩):=(by have:=HS.out;simpa using this:OS=⟨#[]⟩)
    have Z4:Hid (w4.heap[w.heap.size]? =some (.cells #[.int .u32 0,.int .u32 0,.int .u32 0,.int .u64 0] 91 (0,0))):=HH4.out
    clear HE HH HS HM HOp
    go_wp2_with (refine wpList_store_row rfl 91 _ _ rfl w.heap.size _ rfl rfl 91 _ Z4.out (by kernel_rfl) rfl (by simp[Value.oneCell']) ?_)
    refine bodyPost_ret (Rs.results_open rfl _ _ w.heap.size Rs.zh rfl (setRow_heap _ _ _ _ _ _ Z4.out)) rfl ?_
    exact⟨by rw[HE2.out,HH5.out,HS5.out];rfl,below_setRow HB4.out (Nat.le_refl _) _⟩
  ·have q1:(TG.toList==tag.toList)=false:=by rw[Rk.toList_dec];exact decide_eq_false hg
   have q2:(TG.toList !=tag.toList)=true:=by rw[bne,q1];rfl
   have hm:MM=false:=by rw[HM.out,decide_eq_false hg];rfl
   subst hm
   have HE2:Hid (OE=61):=(by have:=HE.out;simpa using this:OE=61)
   have HH5:Hid (OH=Rs.zh):=(by have:=HH.out;simpa using this:OH=Rs.zh)
   have HS5:Hid (OS=⟨#[]⟩):=(by have:=HS.out;simpa using this:OS=⟨#[]⟩)
   have Z2:Hid (w2.heap[w.heap.size]? =some (.cells #[.int .u32 0,.int .u32 0,.int .u32 0,.int .u64 0] 91 (0,0))):=HH2.out
   clear HE HH HS HM HOp HSy2 hg
   go_wp2_with (refine wpList_store_row rfl 91 _ _ rfl w.heap.size _ rfl rfl 91 _ Z2.out (by kernel_rfl) rfl (by simp[Value.oneCell']) ?_)
   refine bodyPost_ret (Rs.results_open rfl _ _ w.heap.size Rs.zh rfl (setRow_heap _ _ _ _ _ _ Z2.out)) rfl ?_
   exact⟨by rw[HE2.out,HH5.out,HS5.out];rfl,below_setRow HB2.out (Nat.le_refl _) _⟩
 ·have hE1:decide (RE=0)=false:=decide_eq_false hE
  have hE2:(RE==0)=false:=by simpa using hE
  have hE3:(RE !=0)=true:=by simpa using hE
  have HE2:Hid (OE=RE):=HE.out.trans (if_neg hE)
  have HH5:Hid (OH=Rs.zh):=HH.out.trans (if_neg fun h=>hE h.1)
  have HS5:Hid (OS=⟨#[]⟩):=HS.out.trans (if_neg fun h=>hE h.1)
  have Z2:Hid (w2.heap[w.heap.size]? =some (.cells #[.int .u32 0,.int .u32 0,.int .u32 0,.int .u64 0] 91 (0,0))):=HH2.out
  clear HE HH HS HM HOp HSy HTg hE
  go_wp2_with (refine wpList_store_row rfl 91 _ _ rfl w.heap.size _ rfl rfl 91 _ Z2.out (by kernel_rfl) rfl (by simp[Value.oneCell']) ?_)
  refine bodyPost_ret (Rs.results_open rfl _ _ w.heap.size Rs.zh rfl (setRow_heap _ _ _ _ _ _ Z2.out)) rfl ?_
  exact⟨by rw[HE2.out,HH5.out,HS5.out];rfl,below_setRow HB2.out (Nat.le_refl _) _⟩
def pgE (Kt:Nat→Int) (v:Vs) (t:St) (p:Nat) (tag:ByteArray):Int:=if rref p tag=true then opE Kt v t p tag else 2
def pgH (Kt:Nat→Int) (v:Vs) (t:St) (p:Nat) (tag:ByteArray):Rs.Hd:=if rref p tag=true then opH Kt v t p tag else Rs.zh
def pgS (Kt:Nat→Int) (v:Vs) (t:St) (p:Nat) (tag:ByteArray):ByteArray:=if rref p tag=true then opS Kt v t p tag else⟨#[]⟩
theorem vpage_any (Kt:Nat→Int) (A:Pl) (v:Vs) (t:St) (p:Nat) (hp:p≤4294967295) (tag:ByteArray) (w:World) (hv:Vlt w A v t) (hk:Ok t) (hT:Rs.Tb Kt w):
  Calls Tryz.prog 45 #[pt A.g,rf p tag] w fun e w'=>e=.returned (.tuple #[Rs.hv (pgH Kt v t p tag),.string (pgS Kt v t p tag),.int .i64 (pgE Kt v t p tag)])∧Below w.heap.size w w':=by
 obtain⟨g1,g2,hb⟩:=Rk.two_new w (.cells #[.int .u32 (p:Int),.string tag] 48) (.cells #[.int .u32 0,.int .u32 0,.int .u32 0,.int .u64 0] 91)
 obtain⟨W0,hW0⟩:∃ W0,(w.alloc (.cells #[.int .u32 (p:Int),.string tag] 48)).alloc (.cells #[.int .u32 0,.int .u32 0,.int .u32 0,.int .u64 0] 91)=W0:=⟨_,rfl⟩
 rw[hW0] at hb g1 g2
 have HW0:Hid _:=hW0
 have HB0:Hid (Below w.heap.size w W0):=hb
 have HF0:Hid (FB w.heap.size (p:Int) tag W0):=g1
 have HH0:Hid (HB (w.heap.size+1) Rs.zh W0):=g2
 have HN:Hid (∀ _:True,_):=fun _=>vnone_any A v t W0 (hv.below hb (Nat.le_refl _))
 have HRr:Hid (∀ W,_):=fun W=>rightRef_any p tag W
 have HOp:Hid (∀ W,Below w.heap.size w W→Calls Tryz.prog 53 #[pt A.g,.int .u32 (p:Int),.string tag] W fun e w'=>e=.returned (.tuple #[Rs.hv (opH Kt v t p tag),.string (opS Kt v t p tag),.int .i64 (opE Kt v t p tag)])∧Below W.heap.size W w'):=fun W hW=>vopen_any Kt A v t p hp tag W (hv.below hW (Nat.le_refl _)) hk (hT.below hW (Nat.le_refl _))
 have HE:Hid (pgE Kt v t p tag=if rref p tag=true then opE Kt v t p tag else 2):=rfl
 have HH:Hid (pgH Kt v t p tag=if rref p tag=true then opH Kt v t p tag else Rs.zh):=rfl
 have HS:Hid (pgS Kt v t p tag=if rref p tag=true then opS Kt v t p tag else⟨#[]⟩):=rfl
 obtain⟨-,-,f0,f1⟩:=HF0.out.facts
 have m0:w.heap.size<W0.heap.size:=hlt g1
 clear hb g1 g2 hW0 hv hk hT hp
 generalize pgE Kt v t p tag=OE at*
 generalize pgH Kt v t p tag=OH at*
 generalize pgS Kt v t p tag=OS at*
 generalize opE Kt v t p tag=XE at*
 generalize opH Kt v t p tag=XH at*
 generalize opS Kt v t p tag=XS at*
 obtain⟨RR,hRR⟩:∃ RR,rref p tag=RR:=⟨_,rfl⟩
 rw[hRR] at HRr HE HH HS
 obtain⟨a,b',c,d⟩:=XH
 simp only[Rs.hv] at HOp
 clear hRR
 go_enter Tryz.func45,Tryz.ntmps45
 go_wp2_with (first|(rw[HW0.out];clear HW0))
 refine Calls.mono (HN.out trivial) ?_
 rintro e w1 ⟨rfl,hw1⟩
 have hw1':=hw1.symm
 clear hw1 HN
 subst hw1'
 go_wp2_with fail
 refine Calls.mono (HRr.out _) ?_
 rintro e w2 ⟨rfl,b2⟩
 have HB2:Hid (Below w.heap.size w w2):=HB0.out.trans (b2.mono HB0.out.size)
 have HF2:Hid (FB w.heap.size (p:Int) tag w2):=HF0.out.grow b2
 have HH2:Hid (HB (w.heap.size+1) Rs.zh w2):=HH0.out.grow b2
 clear b2 HRr HB0 HF0 HH0 f0 f1 m0
 cases RR with
 |true=>
  have HE2:Hid (OE=XE):=(by have:=HE.out;simpa using this:OE=XE)
  have HH5:Hid (OH=(a,b',c,d)):=(by have:=HH.out;simpa using this:OH=(a,b',c,d))
  have HS5:Hid (OS=XS):=(by have:=HS.out;simpa using this:OS=XS)
  obtain⟨-,-,f0,f1⟩:=HF2.out.facts
  have m0:w.heap.size<w2.heap.size:=hlt HF2.out
  clear HE HH HS
  go_wp2_with fail
  refine Calls.mono (HOp.out _ HB2.out) ?_
  rintro e w3 ⟨rfl,b3⟩
  have HB3:Hid (Below w.heap.size w w3):=HB2.out.trans (b3.mono HB2.out.size)
  have HH3:Hid (HB (w.heap.size+1) Rs.zh w3):=HH2.out.grow b3
  have Z3:Hid (w3.heap[w.heap.size+1]? =some (.cells #[.int .u32 0,.int .u32 0,.int .u32 0,.int .u64 0] 91 (0,0))):=HH3.out
  clear b3 HOp HB2 HH2 HH3 HF2 f0 f1 m0
  go_wp2_with (refine wpList_store_row rfl 91 _ _ rfl (w.heap.size+1) _ rfl rfl 91 _ Z3.out (by kernel_rfl) rfl (by simp[Value.oneCell']) ?_)
  refine bodyPost_ret (Rs.results_open rfl _ _ (w.heap.size+1) (a,b',c,d) rfl (setRow_heap _ _ _ _ _ _ Z3.out)) rfl ?_
  exact⟨by rw[HE2.out,HH5.out,HS5.out];rfl,below_setRow HB3.out (Nat.le_succ _) _⟩
 |false=>
  have HE2:Hid (OE=2):=(by have:=HE.out;simpa using this:OE=2)
  have HH5:Hid (OH=Rs.zh):=(by have:=HH.out;simpa using this:OH=Rs.zh)
  have HS5:Hid (OS=⟨#[]⟩):=(by have:=HS.out;simpa using this:OS=⟨#[]⟩)
  have Z2:Hid (w2.heap[w.heap.size+1]? =some (.cells #[.int .u32 0,.int .u32 0,.int .u32 0,.int .u64 0] 91 (0,0))):=HH2.out
  clear HE HH HS HOp HF2 HH2
  go_wp2_with (refine wpList_store_row rfl 91 _ _ rfl (w.heap.size+1) _ rfl rfl 91 _ Z2.out (by kernel_rfl) rfl (by simp[Value.oneCell']) ?_)
  refine bodyPost_ret (Rs.results_open rfl _ _ (w.heap.size+1) Rs.zh rfl (setRow_heap _ _ _ _ _ _ Z2.out)) rfl ?_
  exact⟨by rw[HE2.out,HH5.out,HS5.out];rfl,below_setRow HB2.out (Nat.le_succ _) _⟩
theorem read_any (Kt:Nat→Int) (A:Pl) (v:Vs) (t:St) (p:Nat) (hp:p≤4294967295) (tag:ByteArray) (w:World) (hv:Vlt w A v t) (hk:Ok t) (hT:Rs.Tb Kt w):
  Calls Tryz.prog 15 #[pt A.g,rf p tag] w fun e w'=>e=.returned (.tuple #[.string (pgS Kt v t p tag),.int .i64 (pgE Kt v t p tag)])∧Below w.heap.size w w':=by
 have hb:=below_new w (.cells #[.int .u32 (p:Int),.string tag] 48)
 have hg:FB w.heap.size (p:Int) tag (w.alloc (.cells #[.int .u32 (p:Int),.string tag] 48)):=heap_alloc_new w _
 obtain⟨W0,hW0⟩:∃ W0,w.alloc (.cells #[.int .u32 (p:Int),.string tag] 48)=W0:=⟨_,rfl⟩
 rw[hW0] at hb hg
 have HW0:Hid _:=hW0
 have HB0:Hid (Below w.heap.size w W0):=hb
 have HPg:Hid (∀ _:True,_):=fun _=>vpage_any Kt A v t p hp tag W0 (hv.below hb (Nat.le_refl _)) hk (hT.below hb (Nat.le_refl _))
 obtain⟨-,-,f0,f1⟩:=hg.facts
 have m0:=hlt hg
 clear hb hg hW0 hv hk hT hp
 generalize pgE Kt v t p tag=OE at*
 generalize pgH Kt v t p tag=OH at*
 generalize pgS Kt v t p tag=OS at*
 obtain⟨a,b',c,d⟩:=OH
 simp only[Rs.hv] at HPg
 go_enter Tryz.func15,Tryz.ntmps15
 go_wp2_with (first|(rw[HW0.out];clear HW0))
 refine Calls.mono (HPg.out trivial) ?_
 rintro e w2 ⟨rfl,b2⟩
 have HB2:Hid (Below w.heap.size w w2):=HB0.out.trans (b2.mono HB0.out.size)
 have b3:=below_new w2 (.cells #[.int .u32 a,.int .u32 b',.int .u32 c,.int .u64 d] 91)
 have HB3:Hid (Below w.heap.size w (w2.alloc (.cells #[.int .u32 a,.int .u32 b',.int .u32 c,.int .u64 d] 91))):=HB2.out.trans (b3.mono HB2.out.size)
 clear b2 b3 HPg f0 f1 m0
 go_wp2_with fail
 go_ret2
 exact⟨rfl,HB3.out⟩
theorem gen_any (Kt:Nat→Int) (A:Pl) (v:Vs) (t:St) (p:Nat) (hp:p≤4294967295) (tag:ByteArray) (w:World) (hv:Vlt w A v t) (hk:Ok t) (hT:Rs.Tb Kt w):
  Calls Tryz.prog 34 #[pt A.g,rf p tag] w fun e w'=>e=.returned (.tuple #[.int .u32 (pgH Kt v t p tag).2.1,.int .i64 (pgE Kt v t p tag)])∧Below w.heap.size w w':=by
 have hb:=below_new w (.cells #[.int .u32 (p:Int),.string tag] 48)
 have hg:FB w.heap.size (p:Int) tag (w.alloc (.cells #[.int .u32 (p:Int),.string tag] 48)):=heap_alloc_new w _
 obtain⟨W0,hW0⟩:∃ W0,w.alloc (.cells #[.int .u32 (p:Int),.string tag] 48)=W0:=⟨_,rfl⟩
 rw[hW0] at hb hg
 have HW0:Hid _:=hW0
 have HB0:Hid (Below w.heap.size w W0):=hb
 have HPg:Hid (∀ _:True,_):=fun _=>vpage_any Kt A v t p hp tag W0 (hv.below hb (Nat.le_refl _)) hk (hT.below hb (Nat.le_refl _))
 obtain⟨-,-,f0,f1⟩:=hg.facts
 have m0:=hlt hg
 clear hb hg hW0 hv hk hT hp
 generalize pgE Kt v t p tag=OE at*
 generalize pgH Kt v t p tag=OH at*
 generalize pgS Kt v t p tag=OS at*
 obtain⟨a,b',c,d⟩:=OH
 simp only[Rs.hv] at HPg
 go_enter Tryz.func34,Tryz.ntmps34
 go_wp2_with (first|(rw[HW0.out];clear HW0))
 refine Calls.mono (HPg.out trivial) ?_
 rintro e w2 ⟨rfl,b2⟩
 have HB2:Hid (Below w.heap.size w w2):=HB0.out.trans (b2.mono HB0.out.size)
 have b3:=below_new w2 (.cells #[.int .u32 a,.int .u32 b',.int .u32 c,.int .u64 d] 91)
 have HB3:Hid (Below w.heap.size w (w2.alloc (.cells #[.int .u32 a,.int .u32 b',.int .u32 c,.int .u64 d] 91))):=HB2.out.trans (b3.mono HB2.out.size)
 clear b2 b3 HPg f0 f1 m0
 go_wp2_with fail
 go_ret2
 exact⟨rfl,HB3.out⟩
def give (v:Vs) (p:Nat):Vs:={ v with tk:=tput v.tk p none,nt:=if(v.tk p).isSome=true then v.nt - 1 else v.nt }
theorem give_ok (A:Pl) (v:Vs) (t:St) (p:Nat) (w:World) (hv:Vlt w A v t) (hk:Ok t) (h2:2≤p) (hn:p<t.n) (ht:(v.tk p).isSome=true):
  Calls Tryz.prog 14 #[pt A.g,.int .u32 (p:Int)] w fun e w'=>e=.returned (.int .i64 0)∧Vlt w' A (give v p) t∧But A.has w w':=by
 have HV:Hid (Vlt w A v t):=hv
 have HN:Hid (∀ _:True,_):=fun _=>vnone_any A v t w hv
 have n1:=hk.n1
 have HPl:Hid (∀ _:True,_):=fun _=>visPlace_any A v t p (by omega) w hv hk
 rw[decide_eq_true h2,decide_eq_true hn,Bool.and_self] at HPl
 have HTk:Hid (∀ _:True,_):=fun _=>visTaken_any A v t p w hv
 rw[ht] at HTk
 clear hv hk h2 hn ht n1
 go_enter Tryz.func14,Tryz.ntmps14
 go_wp2_with fail
 refine Calls.mono (HN.out trivial) ?_
 rintro e w1 ⟨rfl,hw1⟩
 have hw1':=hw1.symm
 clear hw1 HN
 subst hw1'
 go_wp2_with fail
 refine Calls.mono (HPl.out trivial) ?_
 rintro e w1 ⟨rfl,hw1⟩
 have hw1':=hw1.symm
 clear hw1 HPl
 subst hw1'
 go_wp2_with fail
 refine Calls.mono (HTk.out trivial) ?_
 rintro e w2 ⟨rfl,b2⟩
 have HV2:Hid (Vlt w2 A v t):=HV.out.below b2 (Nat.le_refl _)
 have HB2:Hid (But A.has w w2):=But.of_below b2
 clear b2 HTk HV
 obtain⟨hs2,-⟩:=HV2.out.self
 obtain⟨⟨-,-,-,-,-,c5⟩,-⟩:=c6_of hs2
 obtain⟨W3,hrun,hm3,b3,hz3⟩:=HV2.out.map.drop p 0
 have hst3:=HV2.out.take_step hm3 b3
 have HV3:Hid (Vlt W3 A (give v p) t):=hst3.1
 have HB3:Hid (But A.has w W3):=HB2.out.trans hst3.2
 have lg:=HV2.out.lt.1
 clear hs2 hm3 b3 hst3 HV2 HB2 hz3
 go_wp2_with fail
 go_ret
 exact⟨rfl,HV3.out,HB3.out⟩
theorem seals_any (A:Pl) (v:Vs) (t:St) (w:World) (hv:Vlt w A v t):
  Calls Tryz.prog 12 #[pt A.g] w fun e w'=>e=.returned (.int .u64 (v.seals:Int))∧w'=w:=by
 have HN:Hid (∀ _:True,_):=fun _=>vnone_any A v t w hv
 obtain⟨hs2,-⟩:=hv.self
 obtain⟨⟨-,-,-,-,c4,-⟩,-⟩:=c6_of hs2
 have lg:=hv.lt.1
 clear hv hs2
 go_enter Tryz.func12,Tryz.ntmps12
 go_wp2_with fail
 refine Calls.mono (HN.out trivial) ?_
 rintro e w1 ⟨rfl,hw1⟩
 have hw1':=hw1.symm
 clear hw1 HN
 subst hw1'
 go_wp2_with fail
 go_ret
 exact⟨rfl,rfl⟩
def plcB (t:St) (p:Nat):Bool:=decide (2≤p)&&decide (p<t.n)
def giveE (v:Vs) (t:St) (p:Nat):Int:=if plcB t p=true∧(v.tk p).isSome=true then 0 else 2
def takeE (v:Vs) (t:St) (p:Nat):Int:=if plcB t p=true∧(v.tk p).isSome=false then 0 else 2
theorem give_any (A:Pl) (v:Vs) (t:St) (p:Nat) (hp:p≤4294967295) (w:World) (hv:Vlt w A v t) (hk:Ok t):
  Calls Tryz.prog 14 #[pt A.g,.int .u32 (p:Int)] w fun e w'=>e=.returned (.int .i64 (giveE v t p))∧Vlt w' A (if giveE v t p=0 then give v p else v) t∧But A.has w w':=by
 by_cases h:plcB t p=true∧(v.tk p).isSome=true
 ·have hE:giveE v t p=0:=if_pos h
  rw[hE,if_pos rfl]
  have h2:=h.1
  unfold plcB at h2
  rw[Bool.and_eq_true,decide_eq_true_iff,decide_eq_true_iff] at h2
  exact give_ok A v t p w hv hk h2.1 h2.2 h.2
 ·have hE:giveE v t p=2:=if_neg h
  rw[hE,if_neg (by decide)]
  have HV:Hid (Vlt w A v t):=hv
  have HN:Hid (∀ _:True,_):=fun _=>vnone_any A v t w hv
  have HPl:Hid (∀ _:True,_):=fun _=>visPlace_any A v t p hp w hv hk
  have HTk:Hid (∀ _:True,_):=fun _=>visTaken_any A v t p w hv
  have hpb:(decide (2≤p)&&decide (p<t.n))=plcB t p:=rfl
  rw[hpb] at HPl
  clear hv hk hE hpb
  go_enter Tryz.func14,Tryz.ntmps14
  go_wp2_with fail
  refine Calls.mono (HN.out trivial) ?_
  rintro e w1 ⟨rfl,hw1⟩
  have hw1':=hw1.symm
  clear hw1 HN
  subst hw1'
  go_wp2_with fail
  refine Calls.mono (HPl.out trivial) ?_
  rintro e w1 ⟨rfl,hw1⟩
  have hw1':=hw1.symm
  clear hw1 HPl
  subst hw1'
  cases hb:plcB t p with
  |false=>
   clear h hb
   go_wp2_with fail
   go_ret
   exact⟨rfl,HV.out,But.refl _ _⟩
  |true=>
   have ht:(v.tk p).isSome=false:=by
    cases e:(v.tk p).isSome
    ·rfl
    ·exact absurd ⟨hb,e⟩ h
   rw[ht] at HTk
   clear h hb ht
   go_wp2_with fail
   refine Calls.mono (HTk.out trivial) ?_
   rintro e w2 ⟨rfl,b2⟩
   have HV2:Hid (Vlt w2 A v t):=HV.out.below b2 (Nat.le_refl _)
   have HB2:Hid (But A.has w w2):=But.of_below b2
   clear b2 HTk HV
   go_wp2_with fail
   go_ret
   exact⟨rfl,HV2.out,HB2.out⟩
theorem take_any (A:Pl) (v:Vs) (t:St) (p:Nat) (hp:p≤4294967295) (w:World) (hv:Vlt w A v t) (hk:Ok t):
  Calls Tryz.prog 29 #[pt A.g,.int .u32 (p:Int)] w fun e w'=>e=.returned (.int .i64 (takeE v t p))∧Vlt w' A (if takeE v t p=0 then take v p else v) t∧But A.has w w':=by
 have HV:Hid (Vlt w A v t):=hv
 have HN:Hid (∀ _:True,_):=fun _=>vnone_any A v t w hv
 have HPl:Hid (∀ _:True,_):=fun _=>visPlace_any A v t p hp w hv hk
 have HTk:Hid (∀ _:True,_):=fun _=>visTaken_any A v t p w hv
 have hpb:(decide (2≤p)&&decide (p<t.n))=plcB t p:=rfl
 rw[hpb] at HPl
 obtain⟨E,hE⟩:∃ E,takeE v t p=E:=⟨_,rfl⟩
 rw[hE]
 unfold takeE at hE
 have HE:Hid ((if plcB t p=true∧(v.tk p).isSome=false then(0:Int) else 2)=E):=hE
 clear hv hk hE hpb
 go_enter Tryz.func29,Tryz.ntmps29
 go_wp2_with fail
 refine Calls.mono (HN.out trivial) ?_
 rintro e w1 ⟨rfl,hw1⟩
 have hw1':=hw1.symm
 clear hw1 HN
 subst hw1'
 go_wp2_with fail
 refine Calls.mono (HPl.out trivial) ?_
 rintro e w1 ⟨rfl,hw1⟩
 have hw1':=hw1.symm
 clear hw1 HPl
 subst hw1'
 cases hb:plcB t p with
 |false=>
  have h2:E=2:=by rw[←HE.out,hb];simp
  subst h2
  clear hb HE
  go_wp2_with fail
  go_ret
  exact⟨rfl,HV.out,But.refl _ _⟩
 |true=>
  cases ht:(v.tk p).isSome with
  |true=>
   have h2:E=2:=by rw[←HE.out,hb,ht];simp
   subst h2
   rw[ht] at HTk
   clear hb ht HE
   go_wp2_with fail
   refine Calls.mono (HTk.out trivial) ?_
   rintro e w2 ⟨rfl,b2⟩
   have HV2:Hid (Vlt w2 A v t):=HV.out.below b2 (Nat.le_refl _)
   have HB2:Hid (But A.has w w2):=But.of_below b2
   clear b2 HTk HV
   go_wp2_with fail
   go_ret
   exact⟨rfl,HV2.out,HB2.out⟩
  |false=>
   have h2:E=0:=by rw[←HE.out,hb,ht];simp
   subst h2
   rw[ht] at HTk
   clear hb ht HE
   go_wp2_with fail
   refine Calls.mono (HTk.out trivial) ?_
   rintro e w2 ⟨rfl,b2⟩
   have HV2:Hid (Vlt w2 A v t):=HV.out.below b2 (Nat.le_refl _)
   have HB2:Hid (But A.has w w2):=But.of_below b2
   clear b2 HTk HV
   obtain⟨hs2,-⟩:=HV2.out.self
   obtain⟨⟨-,-,-,-,-,c5⟩,-⟩:=c6_of hs2
   obtain⟨W3,hrun,hm3,b3,hz3⟩:=HV2.out.map.update p ()
   have hst3:=HV2.out.take_step hm3 b3
   have HV3:Hid (Vlt W3 A (take v p) t):=hst3.1
   have HB3:Hid (But A.has w W3):=HB2.out.trans hst3.2
   have lg:=HV2.out.lt.1
   clear hs2 hm3 b3 hst3 HV2 HB2 hz3
   go_wp2_with fail
   go_ret
   exact⟨rfl,HV3.out,HB3.out⟩
theorem first_any (Kt:Nat→Int) (A:Pl) (v:Vs) (t:St) (p:Nat) (hp:p≤4294967295) (tag:ByteArray) (w:World) (hv:Vlt w A v t) (hk:Ok t) (hT:Rs.Tb Kt w):
  Calls Tryz.prog 27 #[pt A.g,.int .u32 (p:Int),.string tag] w fun e w'=>e=.returned (.tuple #[.string (opS Kt v t p tag),.int .i64 (opE Kt v t p tag)])∧Below w.heap.size w w':=by
 have HO:Hid (∀ _:True,_):=fun _=>vopen_any Kt A v t p hp tag w hv hk hT
 generalize opE Kt v t p tag=OE at*
 generalize opH Kt v t p tag=OH at*
 generalize opS Kt v t p tag=OS at*
 obtain⟨a,b',c,d⟩:=OH
 simp only[Rs.hv] at HO
 clear hv hk hT hp
 go_enter Tryz.func27,Tryz.ntmps27
 go_wp2_with fail
 refine Calls.mono (HO.out trivial) ?_
 rintro e w1 ⟨rfl,b1⟩
 have HB:Hid (Below w.heap.size w (w1.alloc (.cells #[.int .u32 a,.int .u32 b',.int .u32 c,.int .u64 d] 91))):=b1.trans ((below_new w1 _).mono b1.size)
 clear b1 HO
 go_wp2_with fail
 go_ret2
 exact⟨rfl,HB.out⟩
def supE (Kt:Nat→Int) (v:Vs) (t:St) (p:Nat) (s:ByteArray):Int:=if p<2 then putE Kt v t p s else 2
def supV (Kt:Nat→Int) (v:Vs) (t:St) (p:Nat) (s:ByteArray):ByteArray:=if p<2 then putV Kt v t p s else⟨#[]⟩
def supN (v:Vs) (p:Nat) (s:ByteArray):Vs:=if p<2 then putN v p s else v
def supT (Kt:Nat→Int) (v:Vs) (t:St) (p:Nat) (s:ByteArray):St:=if p<2 then putT Kt v t p s else t
theorem super_any (Kt:Nat→Int) (A:Pl) (v:Vs) (t:St) (p:Nat) (s:ByteArray) (w:World) (hv:Vlt w A v t) (hk:Ok t) (hT:Rs.Tb Kt w) (hf:p<2→Rs.fits (hd v p)) (hs:v.seals+1<18446744073709551616):
  Calls Tryz.prog 23 #[pt A.g,.int .u32 (p:Int),.string s] w fun e w'=>e=.returned (.tuple #[.string (supV Kt v t p s),.int .i64 (supE Kt v t p s)])∧Vlt w' A (supN v p s) (supT Kt v t p s)∧But A.has w w':=by
 have HN:Hid (∀ _:True,_):=fun _=>vnone_any A v t w hv
 unfold supE supV supN supT
 by_cases h2:p<2
 ·have HP:Hid (∀ _:True,_):=fun _=>put_any Kt A v t p (by omega) s w hv hk hT (hf h2) hs
  rw[if_pos h2,if_pos h2,if_pos h2,if_pos h2]
  have q1:¬(2:Int)≤(p:Int):=by omega
  have q2:decide ((2:Int)≤(p:Int))=false:=decide_eq_false q1
  generalize putE Kt v t p s=PE at*
  generalize putV Kt v t p s=PV at*
  generalize putN v p s=VN at*
  generalize putT Kt v t p s=TN at*
  clear hv hk hT hf hs
  go_enter Tryz.func23,Tryz.ntmps23
  go_wp2_with fail
  refine Calls.mono (HN.out trivial) ?_
  rintro e w1 ⟨rfl,hw1⟩
  have hw1':=hw1.symm
  clear hw1 HN
  subst hw1'
  go_wp2_with fail
  refine Calls.mono (HP.out trivial) ?_
  rintro e w2 ⟨rfl,hv2,b2⟩
  have HV2:Hid (Vlt w2 A VN TN∧But A.has w w2):=⟨hv2,b2⟩
  clear hv2 b2 HP
  go_wp2_with fail
  go_ret2
  exact⟨rfl,HV2.out.1,HV2.out.2⟩
 ·rw[if_neg h2,if_neg h2,if_neg h2,if_neg h2]
  have HV:Hid (Vlt w A v t):=hv
  have q1:(2:Int)≤(p:Int):=by omega
  have q2:decide ((2:Int)≤(p:Int))=true:=decide_eq_true q1
  clear hv hk hT hf hs
  go_enter Tryz.func23,Tryz.ntmps23
  go_wp2_with fail
  refine Calls.mono (HN.out trivial) ?_
  rintro e w1 ⟨rfl,hw1⟩
  have hw1':=hw1.symm
  clear hw1 HN
  subst hw1'
  go_wp2_with fail
  go_ret2
  exact⟨rfl,HV.out,But.refl _ _⟩
theorem list_append {P:Program} {ops:Array Oper} {rest:List Oper} {o:Oper} {a:Act} {w:World} {Q:Exit→Act→World→Prop} (hgd:o.guard=none) (t u:TypeId) (s x:Operand) (ho:o.op=.call { callee:=.builtin .append,args:=#[s,x],argTypes:=#[t,u] })
  {vs vx v':Value} {w':World} (hs:a.eval s=vs) (hx:a.eval x=vx) (hrun:(Builtin.append_ #[t,u] o.type #[vs,vx]).run P w=.ok v' w') (h:wpList P ops Q rest (a.put o.dst v') w'):wpList P ops Q (o::rest) a w:=
 wpList_plain hgd fun _ hK=>by
  unfold Oper.wp execOp
  simp only[ho,resolve,invoke,builtin,Sem.run_bind,Sem.run_pure,Result.andThen_ok,List.map_toArray,List.map_cons,List.map_nil,hs,hx,hrun]
  exact hK _ _ h
theorem not_nil (a:Addr) (n c:Nat) (w:World):(binOp .eql 39 (.slice (some a) n c) (.slice none 0 0)).run Tryz.prog w=.ok (.bool false) w:=by kernel_rfl
theorem own_fresh {w:World} {base n:Nat} {o:Option Addr} {m cap:Nat} {t:TypeId} {k:Nat} {cs:List Value} (h:w.ownsRow base t k (.slice o m cap) n cs):∀ b off,o=some ⟨b,off,none⟩→base≤b:=by
 intro b off e
 rcases h.2 with⟨h1,-⟩|⟨g,cap',cur,h1,h2,-⟩
 ·cases h1;cases e
 ·cases h1;cases e;exact h2
theorem cloneK_any (l:List Rk.Ky) (o:Option Addr) (cap:Nat) (w:World) (hr:Rk.Ring w o cap l) (hne:l≠[]) (hmax:l.length≤500):
  Calls Tryz.prog 56 #[.slice o l.length cap] w fun e w'=>∃ o' cap',e=.returned (.slice o' l.length cap')∧Rk.Ring w' o' cap' l∧(∀ b off,o'=some ⟨b,off,none⟩→w.heap.size≤b)∧Below w.heap.size w w':=by
 obtain⟨b,off,rfl,hb,_⟩:=hr.2.2.2 hne
 have hb0:=below_new w (.cells #[] 100)
 have hown:(w.alloc (.cells #[] 100)).ownsRow w.heap.size 100 2 (.slice (some ⟨w.heap.size,0,none⟩) 0 0) 0 (Rk.cellsOf []):=
  ⟨by simp[Rk.cellsOf],.inr ⟨w.heap.size,0,#[],rfl,Nat.le_refl _,heap_alloc_new w _,Nat.le_refl _,by decide,rfl,rfl⟩⟩
 obtain⟨v',W',hrun,a1,a2⟩:=Rk.append_own (w.alloc (.cells #[] 100)) w.heap.size 0 (.slice (some ⟨w.heap.size,0,none⟩) 0 0) (some ⟨b,off,none⟩) cap [] l hown (by simp) (hr.below hb0 (Nat.le_refl _)) (by simp;omega)
 obtain⟨hn,o',cap',rfl,hring⟩:=Rk.ring_of_own a1
 simp only[List.nil_append] at hring hrun
 have HB:Hid (Below w.heap.size w W'):=hb0.grown a2 (by simp) fun k ek=>by simp[Value.ownBlock] at ek;omega
 have HF:Hid (∀ b off,o'=some ⟨b,off,none⟩→w.heap.size≤b):=own_fresh a1
 have HR:Hid (Rk.Ring W' o' cap' l):=hring
 have hnn:=fun w=>not_nil ⟨b,off,none⟩ l.length cap w
 clear a1 a2 hown hb0 hr hring hn
 go_enter Tryz.func56,Tryz.ntmps56
 go_wp2_with (refine list_append rfl 39 39 (.tmp 5) (.tmp 6) rfl rfl rfl hrun ?_)
 go_ret
 exact⟨o',cap',rfl,HR.out,HF.out,HB.out⟩
theorem fe_ne {l:List Rk.Ky} {g:Int} (h:Rk.feS l g=0):l≠[]∧l.length≤16:=by
 obtain⟨h1,h2,-⟩:=Rs.fe_zero l g h
 refine⟨fun e=>?_,((Rk.right_iff l).1 h1).1⟩
 subst e
 cases h2
def turn (v:Vs) (l:List Rk.Ky) (g:Int):Vs:={ v with ring:=l,gen:=g }
def Pl.at' (A:Pl) (o:Option Addr) (cap:Nat):Pl:={ A with o:=o,cap:=cap }
theorem Vlt.turned {w:World} {A:Pl} {v:Vs} {t:St} (h:Vlt w A v t) (l:List Rk.Ky) (g:Int) (o:Option Addr) (cap:Nat) (hr:Rk.Ring w o cap l) (hn:∀ b off,o=some ⟨b,off,none⟩→l≠[]→¬A.has b):
  Vlt ((w.setCell ⟨A.g,1,none⟩ (.slice o l.length cap)).setCell ⟨A.g,2,none⟩ (.int .u32 g)) (A.at' o cap) (turn v l g) t∧But (fun k=>k=A.g) w ((w.setCell ⟨A.g,1,none⟩ (.slice o l.length cap)).setCell ⟨A.g,2,none⟩ (.int .u32 g)):=by
 have hb:But (fun k=>k=A.g) w ((w.setCell ⟨A.g,1,none⟩ (.slice o l.length cap)).setCell ⟨A.g,2,none⟩ (.int .u32 g)):=(But.set (S:=fun k=>k=A.g) w A.g 1 (.slice o l.length cap) rfl).trans (But.set (S:=fun k=>k=A.g) _ A.g 2 (.int .u32 g) rfl)
 have ho:∀ k,k≠A.g→((w.setCell ⟨A.g,1,none⟩ (.slice o l.length cap)).setCell ⟨A.g,2,none⟩ (.int .u32 g)).heap[k]? =w.heap[k]? :=fun k hk=>by
  rw[Below.heap_setCell _ _ _ _ (by exact hk),Below.heap_setCell _ _ _ _ (by exact hk)]
 have hr':Rg w (A.at' o cap) (turn v l g):=⟨hr,hn⟩
 refine⟨⟨⟨?_,hr'.same hb.size (fun k hk hn=>hb.block k hk fun e=>hn (.inl e))⟩,h.map.same (ho _ fun e=>h.gt e.symm),h.dev.same (ho _ fun e=>h.gd (.inl e.symm)) (ho _ fun e=>h.gd (.inr (.inl e.symm))) (ho _ fun e=>h.gd (.inr (.inr e.symm))),h.gt,h.gd,h.td,h.no1,h.no2⟩,hb⟩
 exact Rd.set_at _ A.g 2 _ _ _ _ (Rd.set_at w A.g 1 _ _ _ _ h.self.1)
theorem turn_ok (A:Pl) (v:Vs) (t:St) (l:List Rk.Ky) (g:Int) (o:Option Addr) (cap:Nat) (w:World) (hv:Vlt w A v t) (hr:Rk.Ring w o cap l) (h0:Rk.feS l g=0):
  Calls Tryz.prog 32 #[pt A.g,.slice o l.length cap,.int .u32 g] w fun e w'=>e=.returned (.int .i64 0)∧∃ o' cap',Vlt w' (A.at' o' cap') (turn v l g) t∧But (fun k=>k=A.g) w w':=by
 have HV:Hid (Vlt w A v t):=hv
 have HR:Hid (Rk.Ring w o cap l):=hr
 have HN:Hid (∀ _:True,_):=fun _=>vnone_any A v t w hv
 have HF:Hid (∀ _:True,_):=fun _=>Rk.find_any l g o cap w hr
 rw[h0] at HF
 have HC:Hid (∀ W,Rk.Ring W o cap l→_):=fun W hW=>cloneK_any l o cap W hW (fe_ne h0).1 (by have:=(fe_ne h0).2;omega)
 obtain⟨⟨ka,kb⟩,hkk⟩:∃ k,Rk.fkS l g=k:=⟨_,rfl⟩
 rw[hkk] at HF
 simp only[Rk.kv] at HF
 have HLT:Hid (∀ k,A.has k→k<w.heap.size):=fun k hk=>hv.has_lt hk
 clear hv hr h0 hkk
 go_enter Tryz.func32,Tryz.ntmps32
 go_wp2_with fail
 refine Calls.mono (HN.out trivial) ?_
 rintro e w1 ⟨rfl,hw1⟩
 have hw1':=hw1.symm
 clear hw1 HN
 subst hw1'
 go_wp2_with fail
 refine Calls.mono (HF.out trivial) ?_
 rintro e w2 ⟨rfl,b2⟩
 have b3:=below_new w2 (.cells #[.int .u32 ka,.string kb] 100)
 obtain⟨W3,hW3⟩:∃ W3,w2.alloc (.cells #[.int .u32 ka,.string kb] 100)=W3:=⟨_,rfl⟩
 rw[hW3] at b3
 have HW3:Hid _:=hW3
 have HB3:Hid (Below w.heap.size w W3):=b2.trans (b3.mono b2.size)
 clear b2 b3 HF hW3
 go_wp2_with (first|(rw[HW3.out];clear HW3))
 refine Calls.mono (HC.out _ (HR.out.below HB3.out (Nat.le_refl _))) ?_
 rintro e w4 ⟨o4,cap4,rfl,hr4,hf4,b4⟩
 have HB4:Hid (Below w.heap.size w w4):=HB3.out.trans (b4.mono HB3.out.size)
 have hv4:=HV.out.below HB4.out (Nat.le_refl _)
 have hst:=hv4.turned l g o4 cap4 hr4 (fun b off e hl hh=>by have h1:=hf4 b off e;have h2:=HLT.out b hh;have:=HB3.out.size;omega)
 obtain⟨c6,cf6⟩:=c6_of hv4.self.1
 have z1:=cf6 1
 have z2:(w4.setCell ⟨A.g,1,none⟩ (.slice o4 l.length cap4)).frozen? ⟨A.g,2,none⟩=false:=frozen_of_row _ _ _ _ _ (Rd.set_at w4 A.g 1 _ _ _ (.slice o4 l.length cap4) hv4.self.1)
 have d2:(w4.setCell ⟨A.g,1,none⟩ (.slice o4 l.length cap4)).cell? ⟨A.g,2,none⟩=some (.int .u32 v.gen):=by rw[cell_of_row _ _ _ _ _ _ (Rd.set_at w4 A.g 1 _ _ _ (.slice o4 l.length cap4) hv4.self.1)];rfl
 have d1:=c6.2.1
 have lg:=hv4.lt.1
 obtain⟨W5,hW5⟩:∃ W5,(w4.setCell ⟨A.g,1,none⟩ (.slice o4 l.length cap4)).setCell ⟨A.g,2,none⟩ (.int .u32 g)=W5:=⟨_,rfl⟩
 rw[hW5] at hst
 have HW5:Hid _:=hW5
 have HV5:Hid (Vlt W5 (A.at' o4 cap4) (turn v l g) t∧But (fun k=>k=A.g) w W5):=⟨hst.1,but_below HB4.out hst.2⟩
 clear hW5 hst hv4 hr4 hf4 b4 c6 cf6 HC HB3 HV HR
 go_wp2_with (first|(rw[HW5.out];clear HW5))
 go_ret
 exact⟨rfl,o4,cap4,HV5.out.1,HV5.out.2⟩
theorem turn_no (A:Pl) (v:Vs) (t:St) (l:List Rk.Ky) (g:Int) (o:Option Addr) (cap:Nat) (w:World) (hv:Vlt w A v t) (hr:Rk.Ring w o cap l) (h0:Rk.feS l g≠0):
  Calls Tryz.prog 32 #[pt A.g,.slice o l.length cap,.int .u32 g] w fun e w'=>e=.returned (.int .i64 (Rk.feS l g))∧Below w.heap.size w w':=by
 have HN:Hid (∀ _:True,_):=fun _=>vnone_any A v t w hv
 have HF:Hid (∀ _:True,_):=fun _=>Rk.find_any l g o cap w hr
 generalize Rk.feS l g=E at*
 obtain⟨⟨ka,kb⟩,hkk⟩:∃ k,Rk.fkS l g=k:=⟨_,rfl⟩
 rw[hkk] at HF
 simp only[Rk.kv] at HF
 have hE1:decide (E=0)=false:=decide_eq_false h0
 have hE2:(E==0)=false:=by simpa using h0
 have hE3:(E !=0)=true:=by simpa using h0
 clear hv hr h0 hkk
 go_enter Tryz.func32,Tryz.ntmps32
 go_wp2_with fail
 refine Calls.mono (HN.out trivial) ?_
 rintro e w1 ⟨rfl,hw1⟩
 have hw1':=hw1.symm
 clear hw1 HN
 subst hw1'
 go_wp2_with fail
 refine Calls.mono (HF.out trivial) ?_
 rintro e w2 ⟨rfl,b2⟩
 have b3:=below_new w2 (.cells #[.int .u32 ka,.string kb] 100)
 have HB3:Hid (Below w.heap.size w (w2.alloc (.cells #[.int .u32 ka,.string kb] 100))):=b2.trans (b3.mono b2.size)
 clear b2 b3 HF
 go_wp2_with fail
 go_ret
 exact⟨rfl,HB3.out⟩
def tkn (v:Vs):Nat→Vs
 |0=>v
 |k+1=>take (tkn v k) k
def v00 (boot:Int):Vs:=⟨[],0,boot,0,fun _=>none,0⟩
def newV (l:List Rk.Ky) (g boot:Int):Vs:=tkn (turn (v00 boot) l g) 2
theorem newV_is (l:List Rk.Ky) (g boot:Int):(newV l g boot).ring=l∧(newV l g boot).gen=g∧(newV l g boot).boot=boot∧(newV l g boot).seals=0∧(newV l g boot).nt=2∧(∀ p,((newV l g boot).tk p).isSome=decide (p<2)):=by
 refine⟨rfl,rfl,rfl,rfl,rfl,fun p=>?_⟩
 simp only[newV,tkn,take,turn,v00,tput]
 by_cases h1:p=1
 ·subst h1;rfl
 ·by_cases h0:p=0
  ·subst h0;rfl
  ·rw[if_neg h1,if_neg h0,decide_eq_false (by omega)];rfl
theorem vnew_ok (Kt:Nat→Int) (d b m:Nat) (t:St) (l:List Rk.Ky) (g boot:Int) (o:Option Addr) (cap:Nat) (w:World) (hd:Dev w d b m t) (hn1:¬Dv d b m 3) (hn2:¬Dv d b m 2) (hT:Rs.Tb Kt w) (hr:Rk.Ring w o cap l) (h0:Rk.feS l g=0):
  Calls Tryz.prog 18 #[pt d,.slice o l.length cap,.int .u32 g,.int .u32 boot] w fun e w'=>∃ A:Pl,e=.returned (.tuple #[pt A.g,.int .i64 0])∧Vlt w' A (newV l g boot) t∧(A.d=d∧A.b=b∧A.m=m)∧w.heap.size≤A.g∧w.heap.size≤A.tm∧Below w.heap.size w w':=by
 have ld:=hd.lt
 have ht1:3<w.heap.size:=by obtain⟨⟨_,_,h⟩,_⟩:=hT;exact hlt h
 have ht2:2<w.heap.size:=by obtain⟨_,_,_,h⟩:=hT;exact hlt h
 have b1:=below_new w (.map #[] 0)
 have hm1:=Tk.made w
 have s1:(w.alloc (.map #[] 0)).heap.size=w.heap.size+1:=by simp
 have b2:=below_new (w.alloc (.map #[] 0)) (.cells #[pt d,.slice none 0 0,.int .u32 0,.int .u32 boot,.int .u64 0,.map (some w.heap.size)] 85)
 have g2:=heap_alloc_new (w.alloc (.map #[] 0)) (.cells #[pt d,.slice none 0 0,.int .u32 0,.int .u32 boot,.int .u64 0,.map (some w.heap.size)] 85)
 obtain⟨W0,hW0⟩:∃ W0,(w.alloc (.map #[] 0)).alloc (.cells #[pt d,.slice none 0 0,.int .u32 0,.int .u32 boot,.int .u64 0,.map (some w.heap.size)] 85)=W0:=⟨_,rfl⟩
 rw[hW0] at b2 g2
 rw[s1] at g2
 have HW0:Hid _:=hW0
 have hb:Below w.heap.size w W0:=b1.trans (b2.mono b1.size)
 have HB0:Hid (Below w.heap.size w W0):=hb
 have hv0:Vlt W0 ⟨w.heap.size+1,w.heap.size,d,b,m,none,0⟩ (v00 boot) t:=by
  refine⟨⟨g2,Rk.nil_ring W0,fun b off e=>by cases e⟩,hm1.same (b2.block _ (by omega)),hd.below hb (Nat.le_refl _),by simp,?_,?_,?_,?_⟩
  ·rintro(e|e|e)<;>(simp only at e;omega)
  ·rintro(e|e|e)<;>(simp only at e;omega)
  ·rintro(e|e|e)
   ·simp only at e;omega
   ·simp only at e;omega
   ·exact hn1 e
  ·rintro(e|e|e)
   ·simp only at e;omega
   ·simp only at e;omega
   ·exact hn2 e
 have HTn:Hid (∀ _:True,_):=fun _=>turn_ok ⟨w.heap.size+1,w.heap.size,d,b,m,none,0⟩ (v00 boot) t l g o cap W0 hv0 (hr.below hb (Nat.le_refl _)) h0
 have HLg:Hid (∀ o' cap' W V,Vlt W (Pl.at' ⟨w.heap.size+1,w.heap.size,d,b,m,none,0⟩ o' cap') V t→V6 (w.heap.size+1) (pt d) (.slice o' V.ring.length cap') (.int .u32 V.gen) (.int .u32 V.boot) (.int .u64 (V.seals:Int)) (.map (some w.heap.size)) W∧w.heap.size+1<W.heap.size):=fun o' cap' W V h=>⟨v6_of h.self.1,h.lt.1⟩
 obtain⟨PST,hPST⟩:∃ PST:Ending→World→Prop,(fun e w'=>∃ A:Pl,e=.returned (.tuple #[pt A.g,.int .i64 0])∧Vlt w' A (newV l g boot) t∧(A.d=d∧A.b=b∧A.m=m)∧w.heap.size≤A.g∧w.heap.size≤A.tm∧Below w.heap.size w w')=PST:=⟨_,rfl⟩
 rw[hPST]
 have HPS:Hid (∀ o' cap' w',Vlt w' (Pl.at' ⟨w.heap.size+1,w.heap.size,d,b,m,none,0⟩ o' cap') (tkn (turn (v00 boot) l g) 2) t→Below w.heap.size w w'→PST (.returned (.tuple #[pt (w.heap.size+1),.int .i64 0])) w'):=fun o' cap' w' h1 h2=>by rw[←hPST];exact⟨_,rfl,h1,⟨rfl,rfl,rfl⟩,by simp[Pl.at'],by simp[Pl.at'],h2⟩
 clear hd hn1 hn2 hT hr h0 ht1 ht2 b1 hm1 s1 b2 g2 hW0 hb hv0 hPST ld
 have hmm:(Instr.makeMap 83 none).run Tryz.prog w=.ok (.map (some w.heap.size)) (w.alloc (.map #[] 0)):=rfl
 go_enter Tryz.func18,Tryz.ntmps18
 go_wp2_with (first|(rw[HW0.out];clear HW0))
 refine Calls.mono (HTn.out trivial) ?_
 rintro e w1 ⟨rfl,o1,cap1,hv1,b1⟩
 have HB1:Hid (Below w.heap.size w w1):=HB0.out.trans (b1.below (fun k hk=>by have hk':k=w.heap.size+1:=hk;omega) HB0.out.size)
 have HV1:Hid (Vlt w1 (Pl.at' ⟨w.heap.size+1,w.heap.size,d,b,m,none,0⟩ o1 cap1) (turn (v00 boot) l g) t):=hv1
 clear hv1 b1 HTn
 go_wp2_with fail
 go_loopw [27] (fun iv wr=>∃ k:Nat,k≤2∧iv=.int .u32 (k:Int)∧Vlt wr (Pl.at' ⟨w.heap.size+1,w.heap.size,d,b,m,none,0⟩ o1 cap1) (tkn (turn (v00 boot) l g) k) t∧Below w.heap.size w wr) (fun iv _=>2 - natOf iv)
 case atStart=>exact⟨0,by omega,rfl,HV1.out,HB1.out⟩
 case round=>
  obtain⟨k,hk,rfl,hvk,hbk⟩:=hrel
  have HVk:Hid (Vlt wr (Pl.at' ⟨w.heap.size+1,w.heap.size,d,b,m,none,0⟩ o1 cap1) (tkn (turn (v00 boot) l g) k) t):=hvk
  have HBk:Hid (Below w.heap.size w wr):=hbk
  by_cases hk2:k<2
  ·have q1:(k:Int)<2:=by omega
   obtain⟨W4,hrun0,hm4,b4,hz4⟩:=hvk.map.update k ()
   have hrun:(Instr.mapUpdate 83 (.map (some w.heap.size)) (.int .u32 (k:Int)) (.agg #[])).run Tryz.prog wr=.ok () W4:=hrun0
   have hst4:=hvk.take_step hm4 b4
   have HV4:Hid (Vlt W4 (Pl.at' ⟨w.heap.size+1,w.heap.size,d,b,m,none,0⟩ o1 cap1) (tkn (turn (v00 boot) l g) (k+1)) t):=hst4.1
   have HB4:Hid (Below w.heap.size w W4):=hbk.trans (b4.below (fun j hj=>by have hj':j=w.heap.size:=hj;omega) hbk.size)
   obtain⟨⟨-,-,-,-,-,c5⟩,lg⟩:=HLg.out _ _ _ _ hvk
   clear hvk hbk hm4 b4 hst4 hz4 hrun0
   go_wp2_with fail
   go_roundw
   case rel=>exact⟨k+1,by omega,by go_num,HV4.out,HB4.out⟩
   case measure=>simp[natOf];omega
  ·obtain rfl:k=2:=by omega
   have q1:¬(((2:Nat):Int)<2):=by omega
   clear hvk hbk
   go_wp2_with fail
   exact HPS.out _ _ _ HVk.out HBk.out
def krs:Nat→List Rk.Ky
 |0=>[]
 |i+1=>krs i++[(((i+1:Nat):Int),Rk.rep ((65+i:Nat):Int))]
theorem krs_len (n:Nat):(krs n).length=n:=by induction n with|zero=>rfl|succ n ih=>simp[krs,ih]
theorem own_same' {w w':World} {base n:Nat} {v:Value} {t:TypeId} {k:Nat} {cs:List Value} (h:w.ownsRow base t k v n cs) (hb:Below w.heap.size w w'):w'.ownsRow base t k v n cs:=by
 refine⟨h.1,?_⟩
 rcases h.2 with⟨h1,h2⟩|⟨g,cap',cur,h1,h2,h3,h4⟩
 ·exact .inl ⟨h1,h2⟩
 ·exact .inr ⟨g,cap',cur,h1,h2,(hb.block _ (hlt h3)).trans h3,h4⟩
theorem ring_any (n:Nat) (hn:n≤8) (w:World):
  Calls Tryz.prog 19 #[.int .i64 (n:Int)] w fun e w'=>∃ o cap,e=.returned (.slice o n cap)∧Rk.Ring w' o cap (krs n)∧(∀ b off,o=some ⟨b,off,none⟩→w.heap.size≤b)∧Below w.heap.size w w':=by
 obtain⟨i0,hi,hz0,hz1,hz2⟩:=info_parts Rk.info5
 go_enter Tryz.func19,Tryz.ntmps19
 go_wp2_with fail
 go_loopw [3,4] (fun lv iv wr=>∃ i:Nat,i≤n∧iv=.int .i64 ((i:Int)+1)∧wr.ownsRow w.heap.size 100 2 lv i (Rk.cellsOf (krs i))∧Below w.heap.size w wr) (fun _ iv _=>n+1 - natOf iv)
 case atStart=>exact⟨0,by omega,rfl,World.ownsRow_nil _ _ _ _,Below.refl _ _⟩
 case round=>
  obtain⟨i,hin,rfl,ho,hb⟩:=hrel
  have HO:Hid (wr.ownsRow w.heap.size 100 2 u3 i (Rk.cellsOf (krs i))):=ho
  have HB:Hid (Below w.heap.size w wr):=hb
  obtain⟨W1,rfl⟩:∃ W1,W1=wr:=⟨_,rfl⟩
  obtain⟨LV,rfl⟩:∃ LV,LV=u3:=⟨_,rfl⟩
  have ls1:=hb.size
  by_cases hlt':i<n
  ·have g0:(i:Int)+1≤(n:Int):=by omega
   obtain⟨c,hc⟩:∃ c,64+((i:Int)+1)=c:=⟨_,rfl⟩
   have k1:IntKind.i64.wrap (64+((i:Int)+1))=c:=by rw[hc];exact IntWalk.i64_in _ ⟨by omega,by omega⟩
   have k2:IntKind.u8.wrap c=c:=IntWalk.u8_in _ ⟨by omega,by omega⟩
   have k3:IntKind.u32.wrap ((i:Int)+1)=(i:Int)+1:=IntWalk.u32_in _ ⟨by omega,by omega⟩
   have k4:(i:Int)+1+1≤9223372036854775807:=by omega
   have HCC:Hid (((65+i:Nat):Int)=c):=(by omega:((65+i:Nat):Int)=c)
   clear ho hb
   go_wp2_with fail
   go_loopw [5,6] (fun v j wi=>∃ k:Nat,k≤32∧j=.int .i64 (k:Int)∧wi.ownsRow W1.heap.size 5 1 v k ((List.replicate k c).map (Value.int .u8))∧Below W1.heap.size W1 wi) (fun _ j _=>32 - natOf j)
   case atStart=>exact⟨0,by omega,rfl,World.ownsRow_nil _ _ _ _,Below.refl _ _⟩
   case round=>
    obtain⟨k,hk,rfl,ho5,hb5⟩:=hrel
    have HB5:Hid (Below W1.heap.size W1 wr):=hb5
    have ls5:=hb5.size
    by_cases hlk:k<32
    ·have q0:(k:Int)<32:=by omega
     have q1:(0:Int)≤(k:Int):=by omega
     obtain⟨v',w',hr5,hown5,hgrow5,hn5,hat5⟩:=run_append_own_at (P:=Tryz.prog) (wr.alloc (.cells #[.int .u8 c] 5)) W1.heap.size 98 98 5 i0 (.int .u8 0) 1 1 Tryz.underlying98 hi hz0 hz1 hz2 rfl (by decide) u5 k _ (ho5.alloc _) ⟨wr.heap.size,0,none⟩ 1 1 [.int .u8 c] rfl (Rk.cell_one _ _ _) (fun u hu=>by simp at hu;subst hu;rfl) (by simp only[maxLen];omega) (by omega) (by simp;omega)
     have hne:∀ j,u5.ownBlock=some j→W1.heap.size≤j:=fun j e=>(ho5.lt j e).1
     have HO5:Hid (w'.ownsRow W1.heap.size 5 1 v' (k+1) ((List.replicate (k+1) c).map (Value.int .u8))):=by
      refine(?_:w'.ownsRow _ _ _ _ _ _)
      rw[List.replicate_succ',List.map_append];exact hown5
     have B5:Hid (Below W1.heap.size W1 w'):=(hb5.trans ((below_new wr _).mono (by omega))).grown hgrow5 (by simp;omega) (fun j e=>hne j e)
     clear ho5 hb5 hown5 hgrow5 hn5 hat5 hne
     go_wp2_with (at_builtin;refine list_append rfl 98 98 (.tmp 16) (.tmp 20) rfl (vs:=u5) (vx:=.slice (some ⟨wr.heap.size,0,none⟩) 1 1) rfl rfl hr5 ?_)
     go_roundw
     case rel=>exact⟨k+1,by omega,by go_num,HO5.out,B5.out⟩
     case measure=>simp[natOf];omega
    ·have q0:¬(k:Int)<32:=by omega
     obtain rfl:k=32:=by omega
     obtain⟨p,cap5,rfl⟩:∃ p cap,u5=.slice (some ⟨p,0,none⟩) 32 cap:=by
      rcases ho5.2 with⟨_,h⟩|⟨p,cap,_,rfl,_⟩
      ·omega
      ·exact⟨p,cap,rfl⟩
     have hcv:(convert 98 9 (.slice (some ⟨p,0,none⟩) 32 cap5)).run Tryz.prog wr=.ok (.string (Rk.rep c)) wr:=by
      refine run_convert_bytes_arg wr 98 5 Tryz.underlying98 Tryz.underlying5 p 0 32 cap5 (List.replicate 32 c) (by simp) (fun i hi=>?_) 9 Tryz.underlying9
      rw[Nat.zero_add]
      refine Rk.own_cellK ho5 ?_
      exact Rk.rep_get _ c 32 i hi
     have b6:=below_new wr (.cells #[.int .u32 ((i:Int)+1),.string (Rk.rep c)] 100)
     have hg6:=heap_alloc_new wr (.cells #[.int .u32 ((i:Int)+1),.string (Rk.rep c)] 100)
     have ho6:=own_same' (own_same' HO.out hb5) b6
     obtain⟨v7,W7,hrun7,a1,a2⟩:=Rk.append_own (wr.alloc (.cells #[.int .u32 ((i:Int)+1),.string (Rk.rep c)] 100)) w.heap.size i LV (some ⟨wr.heap.size,0,none⟩) 1 (krs i) [((i:Int)+1,Rk.rep c)] ho6 (by simp;omega) (Rk.one_ring hg6) (by rw[krs_len];simp;omega)
     have HO7:Hid (W7.ownsRow w.heap.size 100 2 v7 (i+1) (Rk.cellsOf (krs (i+1)))):=by
      refine(?_:W7.ownsRow _ _ _ _ _ _)
      have e:krs (i+1)=krs i++[((i:Int)+1,Rk.rep c)]:=by
       show krs i++[_]=_
       rw[HCC.out]
       rfl
      rw[e]
      exact a1
     have HB7:Hid (Below w.heap.size w W7):=(HB.out.trans ((hb5.trans (b6.mono ls5)).mono ls1)).grown a2 (by simp;omega) (fun j e=>(ho6.lt j e).1)
     simp only[List.length_cons,List.length_nil] at hrun7
     clear ho5 hb5 b6 hg6 ho6 a1 a2
     go_wp2_with (at_builtin;refine list_append rfl 39 39 (.tmp 22) (.tmp 28) rfl (vs:=LV) (vx:=.slice (some ⟨wr.heap.size,0,none⟩) 1 1) rfl rfl hrun7 ?_)
     go_roundw
     case rel=>exact⟨i+1,by omega,by go_num,HO7.out,HB7.out⟩
     case measure=>simp[natOf];omega
  ·obtain rfl:i=n:=by omega
   have g0:¬(i:Int)+1≤(i:Int):=by omega
   obtain⟨-,o,cap,rfl,hring⟩:=Rk.ring_of_own ho
   rw[krs_len] at ho ⊢
   have HR:Hid (Rk.Ring W1 o cap (krs i)):=hring
   have HF:Hid (∀ b off,o=some ⟨b,off,none⟩→w.heap.size≤b):=own_fresh ho
   clear ho hb hring HO
   go_wp2_with fail
   go_ret
   exact⟨o,cap,rfl,HR.out,HF.out,HB.out⟩
theorem turn_fresh (A:Pl) (v:Vs) (t:St) (l:List Rk.Ky) (g:Int) (o:Option Addr) (cap:Nat) (w:World) (hv:Vlt w A v t) (hr:Rk.Ring w o cap l) (h0:Rk.feS l g=0):
  Calls Tryz.prog 32 #[pt A.g,.slice o l.length cap,.int .u32 g] w fun e w'=>e=.returned (.int .i64 0)∧∃ o' cap',Vlt w' (A.at' o' cap') (turn v l g) t∧But (fun k=>k=A.g) w w'∧∀ b off,o'=some ⟨b,off,none⟩→w.heap.size≤b:=by
 have HV:Hid (Vlt w A v t):=hv
 have HR:Hid (Rk.Ring w o cap l):=hr
 have HN:Hid (∀ _:True,_):=fun _=>vnone_any A v t w hv
 have HF:Hid (∀ _:True,_):=fun _=>Rk.find_any l g o cap w hr
 rw[h0] at HF
 have HC:Hid (∀ W,Rk.Ring W o cap l→_):=fun W hW=>cloneK_any l o cap W hW (fe_ne h0).1 (by have:=(fe_ne h0).2;omega)
 obtain⟨⟨ka,kb⟩,hkk⟩:∃ k,Rk.fkS l g=k:=⟨_,rfl⟩
 rw[hkk] at HF
 simp only[Rk.kv] at HF
 have HLT:Hid (∀ k,A.has k→k<w.heap.size):=fun k hk=>hv.has_lt hk
 clear hv hr h0 hkk
 go_enter Tryz.func32,Tryz.ntmps32
 go_wp2_with fail
 refine Calls.mono (HN.out trivial) ?_
 rintro e w1 ⟨rfl,hw1⟩
 have hw1':=hw1.symm
 clear hw1 HN
 subst hw1'
 go_wp2_with fail
 refine Calls.mono (HF.out trivial) ?_
 rintro e w2 ⟨rfl,b2⟩
 have b3:=below_new w2 (.cells #[.int .u32 ka,.string kb] 100)
 obtain⟨W3,hW3⟩:∃ W3,w2.alloc (.cells #[.int .u32 ka,.string kb] 100)=W3:=⟨_,rfl⟩
 rw[hW3] at b3
 have HW3:Hid _:=hW3
 have HB3:Hid (Below w.heap.size w W3):=b2.trans (b3.mono b2.size)
 clear b2 b3 HF hW3
 go_wp2_with (first|(rw[HW3.out];clear HW3))
 refine Calls.mono (HC.out _ (HR.out.below HB3.out (Nat.le_refl _))) ?_
 rintro e w4 ⟨o4,cap4,rfl,hr4,hf4,b4⟩
 have HB4:Hid (Below w.heap.size w w4):=HB3.out.trans (b4.mono HB3.out.size)
 have hv4:=HV.out.below HB4.out (Nat.le_refl _)
 have hst:=hv4.turned l g o4 cap4 hr4 (fun b off e hl hh=>by have h1:=hf4 b off e;have h2:=HLT.out b hh;have:=HB3.out.size;omega)
 obtain⟨c6,cf6⟩:=c6_of hv4.self.1
 have z1:=cf6 1
 have z2:(w4.setCell ⟨A.g,1,none⟩ (.slice o4 l.length cap4)).frozen? ⟨A.g,2,none⟩=false:=frozen_of_row _ _ _ _ _ (Rd.set_at w4 A.g 1 _ _ _ (.slice o4 l.length cap4) hv4.self.1)
 have d2:(w4.setCell ⟨A.g,1,none⟩ (.slice o4 l.length cap4)).cell? ⟨A.g,2,none⟩=some (.int .u32 v.gen):=by rw[cell_of_row _ _ _ _ _ _ (Rd.set_at w4 A.g 1 _ _ _ (.slice o4 l.length cap4) hv4.self.1)];rfl
 have d1:=c6.2.1
 have lg:=hv4.lt.1
 obtain⟨W5,hW5⟩:∃ W5,(w4.setCell ⟨A.g,1,none⟩ (.slice o4 l.length cap4)).setCell ⟨A.g,2,none⟩ (.int .u32 g)=W5:=⟨_,rfl⟩
 rw[hW5] at hst
 have HW5:Hid _:=hW5
 have HV5:Hid (Vlt W5 (A.at' o4 cap4) (turn v l g) t∧But (fun k=>k=A.g) w W5):=⟨hst.1,but_below HB4.out hst.2⟩
 have HFr:Hid (∀ b off,o4=some ⟨b,off,none⟩→w.heap.size≤b):=fun b off e=>Nat.le_trans HB3.out.size (hf4 b off e)
 clear hW5 hst hv4 hr4 hf4 b4 c6 cf6 HC HB3 HV HR
 go_wp2_with (first|(rw[HW5.out];clear HW5))
 go_ret
 exact⟨rfl,o4,cap4,HV5.out.1,HV5.out.2,HFr.out⟩
theorem vnew_fresh (Kt:Nat→Int) (d b m:Nat) (t:St) (l:List Rk.Ky) (g boot:Int) (o:Option Addr) (cap:Nat) (w:World) (hd:Dev w d b m t) (hn1:¬Dv d b m 3) (hn2:¬Dv d b m 2) (hT:Rs.Tb Kt w) (hr:Rk.Ring w o cap l) (h0:Rk.feS l g=0):
  Calls Tryz.prog 18 #[pt d,.slice o l.length cap,.int .u32 g,.int .u32 boot] w fun e w'=>∃ A:Pl,e=.returned (.tuple #[pt A.g,.int .i64 0])∧Vlt w' A (newV l g boot) t∧(A.d=d∧A.b=b∧A.m=m)∧w.heap.size≤A.g∧w.heap.size≤A.tm∧Below w.heap.size w w'∧∀ b off,A.o=some ⟨b,off,none⟩→w.heap.size≤b:=by
 have ld:=hd.lt
 have ht1:3<w.heap.size:=by obtain⟨⟨_,_,h⟩,_⟩:=hT;exact hlt h
 have ht2:2<w.heap.size:=by obtain⟨_,_,_,h⟩:=hT;exact hlt h
 have b1:=below_new w (.map #[] 0)
 have hm1:=Tk.made w
 have s1:(w.alloc (.map #[] 0)).heap.size=w.heap.size+1:=by simp
 have b2:=below_new (w.alloc (.map #[] 0)) (.cells #[pt d,.slice none 0 0,.int .u32 0,.int .u32 boot,.int .u64 0,.map (some w.heap.size)] 85)
 have g2:=heap_alloc_new (w.alloc (.map #[] 0)) (.cells #[pt d,.slice none 0 0,.int .u32 0,.int .u32 boot,.int .u64 0,.map (some w.heap.size)] 85)
 obtain⟨W0,hW0⟩:∃ W0,(w.alloc (.map #[] 0)).alloc (.cells #[pt d,.slice none 0 0,.int .u32 0,.int .u32 boot,.int .u64 0,.map (some w.heap.size)] 85)=W0:=⟨_,rfl⟩
 rw[hW0] at b2 g2
 rw[s1] at g2
 have HW0:Hid _:=hW0
 have hb:Below w.heap.size w W0:=b1.trans (b2.mono b1.size)
 have HB0:Hid (Below w.heap.size w W0):=hb
 have hv0:Vlt W0 ⟨w.heap.size+1,w.heap.size,d,b,m,none,0⟩ (v00 boot) t:=by
  refine⟨⟨g2,Rk.nil_ring W0,fun b off e=>by cases e⟩,hm1.same (b2.block _ (by omega)),hd.below hb (Nat.le_refl _),by simp,?_,?_,?_,?_⟩
  ·rintro(e|e|e)<;>(simp only at e;omega)
  ·rintro(e|e|e)<;>(simp only at e;omega)
  ·rintro(e|e|e)
   ·simp only at e;omega
   ·simp only at e;omega
   ·exact hn1 e
  ·rintro(e|e|e)
   ·simp only at e;omega
   ·simp only at e;omega
   ·exact hn2 e
 have HTn:Hid (∀ _:True,_):=fun _=>turn_fresh ⟨w.heap.size+1,w.heap.size,d,b,m,none,0⟩ (v00 boot) t l g o cap W0 hv0 (hr.below hb (Nat.le_refl _)) h0
 have HLg:Hid (∀ o' cap' W V,Vlt W (Pl.at' ⟨w.heap.size+1,w.heap.size,d,b,m,none,0⟩ o' cap') V t→V6 (w.heap.size+1) (pt d) (.slice o' V.ring.length cap') (.int .u32 V.gen) (.int .u32 V.boot) (.int .u64 (V.seals:Int)) (.map (some w.heap.size)) W∧w.heap.size+1<W.heap.size):=fun o' cap' W V h=>⟨v6_of h.self.1,h.lt.1⟩
 obtain⟨PST,hPST⟩:∃ PST:Ending→World→Prop,(fun e w'=>∃ A:Pl,e=.returned (.tuple #[pt A.g,.int .i64 0])∧Vlt w' A (newV l g boot) t∧(A.d=d∧A.b=b∧A.m=m)∧w.heap.size≤A.g∧w.heap.size≤A.tm∧Below w.heap.size w w'∧∀ b off,A.o=some ⟨b,off,none⟩→w.heap.size≤b)=PST:=⟨_,rfl⟩
 rw[hPST]
 have HPS:Hid (∀ o' cap' w',Vlt w' (Pl.at' ⟨w.heap.size+1,w.heap.size,d,b,m,none,0⟩ o' cap') (tkn (turn (v00 boot) l g) 2) t→Below w.heap.size w w'→(∀ b off,o'=some ⟨b,off,none⟩→w.heap.size≤b)→PST (.returned (.tuple #[pt (w.heap.size+1),.int .i64 0])) w'):=fun o' cap' w' h1 h2 h3=>by rw[←hPST];exact⟨_,rfl,h1,⟨rfl,rfl,rfl⟩,by simp[Pl.at'],by simp[Pl.at'],h2,h3⟩
 clear hd hn1 hn2 hT hr h0 ht1 ht2 b1 hm1 s1 b2 g2 hW0 hb hv0 hPST ld
 have hmm:(Instr.makeMap 83 none).run Tryz.prog w=.ok (.map (some w.heap.size)) (w.alloc (.map #[] 0)):=rfl
 go_enter Tryz.func18,Tryz.ntmps18
 go_wp2_with (first|(rw[HW0.out];clear HW0))
 refine Calls.mono (HTn.out trivial) ?_
 rintro e w1 ⟨rfl,o1,cap1,hv1,b1,f1⟩
 have HFr:Hid (∀ b off,o1=some ⟨b,off,none⟩→w.heap.size≤b):=fun b off e=>Nat.le_trans HB0.out.size (f1 b off e)
 have HB1:Hid (Below w.heap.size w w1):=HB0.out.trans (b1.below (fun k hk=>by have hk':k=w.heap.size+1:=hk;omega) HB0.out.size)
 have HV1:Hid (Vlt w1 (Pl.at' ⟨w.heap.size+1,w.heap.size,d,b,m,none,0⟩ o1 cap1) (turn (v00 boot) l g) t):=hv1
 clear hv1 b1 HTn f1
 go_wp2_with fail
 go_loopw [27] (fun iv wr=>∃ k:Nat,k≤2∧iv=.int .u32 (k:Int)∧Vlt wr (Pl.at' ⟨w.heap.size+1,w.heap.size,d,b,m,none,0⟩ o1 cap1) (tkn (turn (v00 boot) l g) k) t∧Below w.heap.size w wr) (fun iv _=>2 - natOf iv)
 case atStart=>exact⟨0,by omega,rfl,HV1.out,HB1.out⟩
 case round=>
  obtain⟨k,hk,rfl,hvk,hbk⟩:=hrel
  have HVk:Hid (Vlt wr (Pl.at' ⟨w.heap.size+1,w.heap.size,d,b,m,none,0⟩ o1 cap1) (tkn (turn (v00 boot) l g) k) t):=hvk
  have HBk:Hid (Below w.heap.size w wr):=hbk
  by_cases hk2:k<2
  ·have q1:(k:Int)<2:=by omega
   obtain⟨W4,hrun0,hm4,b4,hz4⟩:=hvk.map.update k ()
   have hrun:(Instr.mapUpdate 83 (.map (some w.heap.size)) (.int .u32 (k:Int)) (.agg #[])).run Tryz.prog wr=.ok () W4:=hrun0
   have hst4:=hvk.take_step hm4 b4
   have HV4:Hid (Vlt W4 (Pl.at' ⟨w.heap.size+1,w.heap.size,d,b,m,none,0⟩ o1 cap1) (tkn (turn (v00 boot) l g) (k+1)) t):=hst4.1
   have HB4:Hid (Below w.heap.size w W4):=hbk.trans (b4.below (fun j hj=>by have hj':j=w.heap.size:=hj;omega) hbk.size)
   obtain⟨⟨-,-,-,-,-,c5⟩,lg⟩:=HLg.out _ _ _ _ hvk
   clear hvk hbk hm4 b4 hst4 hz4 hrun0
   go_wp2_with fail
   go_roundw
   case rel=>exact⟨k+1,by omega,by go_num,HV4.out,HB4.out⟩
   case measure=>simp[natOf];omega
  ·obtain rfl:k=2:=by omega
   have q1:¬(((2:Nat):Int)<2):=by omega
   clear hvk hbk
   go_wp2_with fail
   exact HPS.out _ _ _ HVk.out HBk.out HFr.out
end Go.Proofs.YtfaflomephjkgaaGreatDoor.Rv
