/- The reference's Bound and Seal. -/
import Derived.Test.YtfaflomephjkgaaGreatDoorQWG
import Derived.Test.YtfaflomephjkgaaGreatDoorPXI
import Derived.Test.YtfaflomephjkgaaGreatDoorQVa
import Derived.Test.YtfaflomephjkgaaGreatDoorQKA
import Derived.Test.YtfaflomephjkgaaGreatDoorQYB
import Derived.Test.YtfaflomephjkgaaGreatDoorPZSi
import Derived.Test.YtfaflomephjkgaaGreatDoorPPl
set_option maxRecDepth 100000
set_option maxHeartbeats 2000000
namespace Go.Proofs.YtfaflomephjkgaaGreatDoor.Rs
open Go.RowKit Go.Lib
def Tr (Kt:Nat→Int) (w:World):Prop:=∃ tt fr,w.heap[1]? =some (.cells (w64 Kt) tt fr)
theorem Tr.below {Kt:Nat→Int} {w W:World} {B:Nat} (h:Tr Kt w) (hb:Below B w W) (hB:w.heap.size≤B):Tr Kt W:=by
 obtain⟨t1,f1,h1⟩:=h
 exact⟨t1,f1,(hb.block _ (Nat.lt_of_lt_of_le (Array.getElem?_eq_some_iff.1 h1).1 hB)).trans h1⟩
theorem rXor_is (key nonce s:ByteArray) (h1:key.size=32) (h2:nonce.size=12) (h:s.size≤3000) (w:World):
  Calls Tryz.prog 109 #[.string key,.string nonce,.string s] w fun e w'=>e=.returned (.tuple #[.string (Ra.xorS key nonce s),.int .i64 0])∧Below w.heap.size w w':=by
 rw[Ra.xorS_xr key nonce s h1 h2]
 exact Ra.rXor_yes key nonce s w h1 h2 h
theorem rBound_any (Kt:Nat→Int) (k:Rk.Ky) (hk:Rk.rightS [k]=true) (h:Hd) (hf:fits h) (body:ByteArray) (hb:body.size=200) (w:World) (hT:Tr Kt w):
  Calls Tryz.prog 101 #[Rk.kv k,hv h,.string body] w fun e w'=>e=.returned (.string (putS h++Ra.xorS (Rk.sealS Kt k) (nonceS h) body))∧Below w.heap.size w w':=by
 have HS:Hid (∀ W,Tr Kt W→Calls Tryz.prog 102 #[Rk.kv k] W fun e w'=>e=.returned (.tuple #[.string (Rk.sealS Kt k),.string (Rk.bindS Kt k),.int .i64 (Rk.subE k)])∧Below W.heap.size W w'):=fun W ⟨_,_,h1⟩=>Rk.refSubs_any Kt k W h1
 have HX:Hid (∀ W,Calls Tryz.prog 109 #[.string (Rk.sealS Kt k),.string (nonceS h),.string body] W fun e w'=>e=.returned (.tuple #[.string (Ra.xorS (Rk.sealS Kt k) (nonceS h) body),.int .i64 0])∧Below W.heap.size W w'):=rXor_is _ _ _ (seal_size Kt k hk) (nonce_size h) (by omega)
 have HN:Hid (∀ W,Calls Tryz.prog 110 #[hv h] W fun e w'=>e=.returned (.string (nonceS h))∧Below W.heap.size W w'):=rNonce_any h hf
 have HP:Hid (∀ W,Calls Tryz.prog 123 #[hv h] W fun e w'=>e=.returned (.string (putS h))∧Below W.heap.size W w'):=rPut_any h hf
 have zp:(putS h).size=24:=put_size h
 have zx:(Ra.xorS (Rk.sealS Kt k) (nonceS h) body).size=200:=by rw[Ra.xorS_size,hb]
 have HT:Hid (Tr Kt w):=hT
 clear hT hf hk hb
 generalize Ra.xorS (Rk.sealS Kt k) (nonceS h) body=xo at*
 generalize Rk.sealS Kt k=se at*
 generalize Rk.bindS Kt k=bi at*
 generalize Rk.subE k=su at*
 generalize nonceS h=no at*
 generalize putS h=pu at*
 obtain⟨g,sec⟩:=k
 obtain⟨a,b,c,d⟩:=h
 unfold hv Rk.kv at*
 simp only at HS HN HP ⊢
 go_enter Tryz.func101,Tryz.ntmps101
 go_wp2_with fail
 obtain⟨w1,hw1⟩:∃ w1,(w.alloc (.cells #[.int .u32 g,.string sec] 100)).alloc (.cells #[.int .u32 a,.int .u32 b,.int .u32 c,.int .u64 d] 91)=w1:=⟨_,rfl⟩
 have hn2:=Rp.two_new w (.cells #[.int .u32 g,.string sec] 100) (.cells #[.int .u32 a,.int .u32 b,.int .u32 c,.int .u64 d] 91)
 rw[hw1] at hn2
 have B1:Hid (Below w.heap.size w w1):=hn2.2.2
 have X1:Hid (w1.heap[w.heap.size+1]? =some (.cells #[.int .u32 a,.int .u32 b,.int .u32 c,.int .u64 d] 91 (0,0))):=hn2.2.1
 have l1:w.heap.size+1<w1.heap.size:=(Array.getElem?_eq_some_iff.1 hn2.2.1).1
 rw[hw1]
 clear hw1 hn2
 have HC:Hid (∀ W,Below w1.heap.size w1 W→W.cell? ⟨w.heap.size+1,0,none⟩=some (.int .u32 a)∧W.cell? ⟨w.heap.size+1,1,none⟩=some (.int .u32 b)∧W.cell? ⟨w.heap.size+1,2,none⟩=some (.int .u32 c)∧W.cell? ⟨w.heap.size+1,3,none⟩=some (.int .u64 d)):=fun W hB=>by
  have hV:=(hB.block _ l1).trans X1.out
  exact⟨by rw[cell_of_row _ _ _ _ _ _ hV];rfl,by rw[cell_of_row _ _ _ _ _ _ hV];rfl,by rw[cell_of_row _ _ _ _ _ _ hV];rfl,by rw[cell_of_row _ _ _ _ _ _ hV];rfl⟩
 refine(HS.out w1 (HT.out.below B1.out (Nat.le_refl _))).mono ?_
 rintro e w2 ⟨rfl,b2⟩
 have D2:Hid (Below w1.heap.size w1 w2):=b2
 clear b2 HS
 obtain⟨ca,cb,cc,cd⟩:=HC.out w2 D2.out
 go_wp2_with fail
 clear ca cb cc cd
 refine(HN.out w2).mono ?_
 rintro e w3 ⟨rfl,b3⟩
 have D3:Hid (Below w1.heap.size w1 w3):=D2.out.trans (b3.mono D2.out.size)
 clear b3 D2 HN
 go_wp2_with fail
 refine(HX.out w3).mono ?_
 rintro e w4 ⟨rfl,b4⟩
 have D4:Hid (Below w1.heap.size w1 w4):=D3.out.trans (b4.mono D3.out.size)
 clear b4 D3 HX
 obtain⟨ca,cb,cc,cd⟩:=HC.out w4 D4.out
 have qs:¬9223372036854775807<pu.size+xo.size:=by omega
 go_wp2_with fail
 clear ca cb cc cd
 refine(HP.out w4).mono ?_
 rintro e w5 ⟨rfl,b5⟩
 have D5:Hid (Below w1.heap.size w1 w5):=D4.out.trans (b5.mono D4.out.size)
 clear b5 D4 HP
 go_wp2_with fail
 go_ret
 exact⟨rfl,B1.out.trans (D5.out.mono B1.out.size)⟩
theorem rSeal_any (Kt:Nat→Int) (l:List Rk.Ky) (o:Option Addr) (cap:Nat) (h:Hd) (hf:fits h) (s:ByteArray) (w:World) (hr:Rk.Ring w o cap l) (hT:Tr Kt w):
  Calls Tryz.prog 73 #[.slice o l.length cap,hv h,.string s] w fun e w'=>e=.returned (.tuple #[.string (sV Kt l h s),.int .i64 (sE l h s)])∧Below w.heap.size w w':=by
 have HF:Hid (∀ W,Rk.Ring W o cap l→Calls Tryz.prog 49 #[.slice o l.length cap,.int .u32 h.2.1] W fun e w'=>e=.returned (.tuple #[Rk.kv (Rk.fkS l h.2.1),.int .i64 (Rk.feS l h.2.1)])∧Below W.heap.size W w'):=fun W hW=>Rk.refFind_any l h.2.1 o cap W hW
 have HB:Hid (Rk.feS l h.2.1=0→∀ W,Tr Kt W→Calls Tryz.prog 101 #[Rk.kv (Rk.fkS l h.2.1),hv h,.string (Rp.bodyS s)] W fun e w'=>e=.returned (.string (putS h++Ra.xorS (Rk.sealS Kt (Rk.fkS l h.2.1)) (nonceS h) (Rp.bodyS s)))∧Below W.heap.size W w'):=fun h0 W hW=>
  rBound_any Kt _ (fe_zero l _ h0).2.2.2 h hf _ (Rp.body_size s) W hW
 have HU:Hid (∀ W,Tr Kt W→Calls Tryz.prog 102 #[Rk.kv (Rk.fkS l h.2.1)] W fun e w'=>e=.returned (.tuple #[.string (Rk.sealS Kt (Rk.fkS l h.2.1)),.string (Rk.bindS Kt (Rk.fkS l h.2.1)),.int .i64 (Rk.subE (Rk.fkS l h.2.1))])∧Below W.heap.size W w'):=fun W ⟨_,_,h1⟩=>Rk.refSubs_any Kt _ W h1
 have zbo:(putS h++Ra.xorS (Rk.sealS Kt (Rk.fkS l h.2.1)) (nonceS h) (Rp.bodyS s)).size=224:=by rw[ByteArray.size_append,put_size,Ra.xorS_size,Rp.body_size]
 have HM:Hid (Rk.feS l h.2.1=0→∀ W,Tr Kt W→Calls Tryz.prog 103 #[.string (Rk.bindS Kt (Rk.fkS l h.2.1)),.string (putS h++Ra.xorS (Rk.sealS Kt (Rk.fkS l h.2.1)) (nonceS h) (Rp.bodyS s))] W fun e w'=>e=.returned (.string (macS Kt (Rk.bindS Kt (Rk.fkS l h.2.1)) (putS h++Ra.xorS (Rk.sealS Kt (Rk.fkS l h.2.1)) (nonceS h) (Rp.bodyS s))))∧Below W.heap.size W w'):=fun h0 W ⟨_,_,h1⟩=>
  refMac_any Kt _ _ (by rw[bind_size Kt _ (fe_zero l _ h0).2.2.2];omega) (by omega) W h1
 have zma:(macS Kt (Rk.bindS Kt (Rk.fkS l h.2.1)) (putS h++Ra.xorS (Rk.sealS Kt (Rk.fkS l h.2.1)) (nonceS h) (Rp.bodyS s))).size=32:=macS_size _ _ _
 have HBK:Hid (blockS Kt (Rk.fkS l h.2.1) h (Rp.bodyS s)=putS h++Ra.xorS (Rk.sealS Kt (Rk.fkS l h.2.1)) (nonceS h) (Rp.bodyS s)++macS Kt (Rk.bindS Kt (Rk.fkS l h.2.1)) (putS h++Ra.xorS (Rk.sealS Kt (Rk.fkS l h.2.1)) (nonceS h) (Rp.bodyS s))):=rfl
 have HV:Hid ((Rk.feS l h.2.1≠0∧sE l h s=Rk.feS l h.2.1∧sV Kt l h s=⟨#[]⟩)∨(Rk.feS l h.2.1=0∧¬s.size≤198∧sE l h s=50∧sV Kt l h s=⟨#[]⟩)∨(Rk.feS l h.2.1=0∧s.size≤198∧sE l h s=0∧sV Kt l h s=blockS Kt (Rk.fkS l h.2.1) h (Rp.bodyS s))):=by
  refine(?_:(Rk.feS l h.2.1≠0∧sE l h s=Rk.feS l h.2.1∧sV Kt l h s=⟨#[]⟩)∨(Rk.feS l h.2.1=0∧¬s.size≤198∧sE l h s=50∧sV Kt l h s=⟨#[]⟩)∨(Rk.feS l h.2.1=0∧s.size≤198∧sE l h s=0∧sV Kt l h s=blockS Kt (Rk.fkS l h.2.1) h (Rp.bodyS s)))
  unfold sE sV Rp.padE
  by_cases h0:Rk.feS l h.2.1=0<;>by_cases h1:s.size≤198<;>simp[h0,h1]
 have HP:Hid (∀ W,Calls Tryz.prog 100 #[.string s] W fun e w'=>e=.returned (.tuple #[.string (Rp.padV s),.int .i64 (Rp.padE s)])∧Below W.heap.size W w'):=Rp.refPad_any s
 have HR:Hid (Rk.Ring w o cap l):=hr
 have HT:Hid (Tr Kt w):=hT
 have HQ:Hid (Rk.feS l h.2.1=0∨Rk.feS l h.2.1=40∨Rk.feS l h.2.1=41):=fe_cases l h.2.1
 clear hr hT hf
 generalize macS Kt (Rk.bindS Kt (Rk.fkS l h.2.1)) (putS h++Ra.xorS (Rk.sealS Kt (Rk.fkS l h.2.1)) (nonceS h) (Rp.bodyS s))=ma at*
 generalize putS h++Ra.xorS (Rk.sealS Kt (Rk.fkS l h.2.1)) (nonceS h) (Rp.bodyS s)=bo at*
 generalize Rk.sealS Kt (Rk.fkS l h.2.1)=sl at*
 generalize Rk.bindS Kt (Rk.fkS l h.2.1)=bi at*
 generalize Rk.subE (Rk.fkS l h.2.1)=su at*
 generalize blockS Kt (Rk.fkS l h.2.1) h (Rp.bodyS s)=bk at*
 generalize sV Kt l h s=sv at*
 generalize sE l h s=se at*
 generalize hk:Rk.fkS l h.2.1=k at*
 generalize Rk.feS l h.2.1=fe at*
 clear hk
 obtain⟨kg,ks⟩:=k
 obtain⟨a,b,c,d⟩:=h
 unfold hv Rk.kv at*
 simp only at HF HB HU ⊢
 go_enter Tryz.func73,Tryz.ntmps73
 go_wp2_with fail
 obtain⟨w1,hw1⟩:∃ w1,w.alloc (.cells #[.int .u32 a,.int .u32 b,.int .u32 c,.int .u64 d] 91)=w1:=⟨_,rfl⟩
 have B1:Hid (Below w.heap.size w w1):=by rw[←hw1];exact(Below.refl _ w).alloc (Nat.le_refl _) _
 have X1:Hid (w1.heap[w.heap.size]? =some (.cells #[.int .u32 a,.int .u32 b,.int .u32 c,.int .u64 d] 91 (0,0))):=by rw[←hw1];exact heap_alloc_new w _
 have l1:w.heap.size<w1.heap.size:=(Array.getElem?_eq_some_iff.1 X1.out).1
 rw[hw1]
 clear hw1
 have HC:Hid (∀ W,Below w1.heap.size w1 W→W.cell? ⟨w.heap.size,0,none⟩=some (.int .u32 a)∧W.cell? ⟨w.heap.size,1,none⟩=some (.int .u32 b)∧W.cell? ⟨w.heap.size,2,none⟩=some (.int .u32 c)∧W.cell? ⟨w.heap.size,3,none⟩=some (.int .u64 d)):=fun W hB=>by
  have hV:=(hB.block _ l1).trans X1.out
  exact⟨by rw[cell_of_row _ _ _ _ _ _ hV];rfl,by rw[cell_of_row _ _ _ _ _ _ hV];rfl,by rw[cell_of_row _ _ _ _ _ _ hV];rfl,by rw[cell_of_row _ _ _ _ _ _ hV];rfl⟩
 refine(HF.out w1 (HR.out.below B1.out (Nat.le_refl _))).mono ?_
 rintro e w2 ⟨rfl,b2⟩
 have D2:Hid (Below w1.heap.size w1 w2):=b2
 clear b2 HF
 rcases HV.out with⟨h0,rfl,rfl⟩|⟨rfl,h1,rfl,rfl⟩|⟨rfl,h1,rfl,rfl⟩
 ·have q0:(se !=0)=true:=by simpa using h0
  clear HV HB
  go_wp2_with fail
  refine bodyPost_ret (results_tmp2 rfl _ _ _) rfl ?_
  exact⟨rfl,B1.out.trans ((D2.out.trans ((Below.refl _ w2).alloc (Nat.le_refl _) _ |>.mono D2.out.size)).mono B1.out.size)⟩
 ·clear HV HB HQ
  go_wp2_with fail
  obtain⟨w3,hw3⟩:∃ w3,w2.alloc (.cells #[.int .u32 kg,.string ks] 100)=w3:=⟨_,rfl⟩
  have b3:Below w2.heap.size w2 w3:=by rw[←hw3];exact(Below.refl _ w2).alloc (Nat.le_refl _) _
  have D3:Hid (Below w1.heap.size w1 w3):=D2.out.trans (b3.mono D2.out.size)
  rw[hw3]
  clear hw3 b3 D2
  refine(HP.out w3).mono ?_
  rw[(Rp.pad_long s h1).1,(Rp.pad_long s h1).2]
  rintro e w4 ⟨rfl,b4⟩
  have D4:Hid (Below w1.heap.size w1 w4):=D3.out.trans (b4.mono D3.out.size)
  clear b4 D3 HP h1
  go_wp2_with fail
  refine bodyPost_ret (results_tmp2 rfl _ _ _) rfl ?_
  exact⟨rfl,B1.out.trans (D4.out.mono B1.out.size)⟩
 ·have HB2:Hid _:=HB.out rfl
  have HM2:Hid _:=HM.out rfl
  clear HV HQ HB HM
  go_wp2_with fail
  obtain⟨w3,hw3⟩:∃ w3,w2.alloc (.cells #[.int .u32 kg,.string ks] 100)=w3:=⟨_,rfl⟩
  have b3:Below w2.heap.size w2 w3:=by rw[←hw3];exact(Below.refl _ w2).alloc (Nat.le_refl _) _
  have D3:Hid (Below w1.heap.size w1 w3):=D2.out.trans (b3.mono D2.out.size)
  have K3:Hid (w3.heap[w2.heap.size]? =some (.cells #[.int .u32 kg,.string ks] 100 (0,0))):=by rw[←hw3];exact heap_alloc_new w2 _
  rw[hw3]
  clear hw3 b3 D2
  refine(HP.out w3).mono ?_
  rw[(Rp.pad_short s h1).1,(Rp.pad_short s h1).2]
  rintro e w4 ⟨rfl,b4⟩
  have D4:Hid (Below w1.heap.size w1 w4):=D3.out.trans (b4.mono D3.out.size)
  have K4:=(b4.block _ (Array.getElem?_eq_some_iff.1 K3.out).1).trans K3.out
  have k0:w4.cell? ⟨w2.heap.size,0,none⟩=some (.int .u32 kg):=by rw[cell_of_row _ _ _ _ _ _ K4];rfl
  have k1:w4.cell? ⟨w2.heap.size,1,none⟩=some (.string ks):=by rw[cell_of_row _ _ _ _ _ _ K4];rfl
  have l3:=(Array.getElem?_eq_some_iff.1 K3.out).1
  have KC:Hid (∀ W,Below w4.heap.size w4 W→W.cell? ⟨w2.heap.size,0,none⟩=some (.int .u32 kg)∧W.cell? ⟨w2.heap.size,1,none⟩=some (.string ks)):=fun W hB=>by
   have hV:=(hB.block _ (Array.getElem?_eq_some_iff.1 K4).1).trans K4
   exact⟨by rw[cell_of_row _ _ _ _ _ _ hV];rfl,by rw[cell_of_row _ _ _ _ _ _ hV];rfl⟩
  clear b4 D3 HP h1 K4 K3
  obtain⟨ca,cb,cc,cd⟩:=HC.out w4 D4.out
  have qt:¬9223372036854775807<bo.size+ma.size:=by omega
  go_wp2_with fail
  clear ca cb cc cd k0 k1
  refine(HB2.out w4 (HT.out.below (B1.out.trans (D4.out.mono B1.out.size)) (Nat.le_refl _))).mono ?_
  rintro e w5 ⟨rfl,b5⟩
  have D5:Hid (Below w1.heap.size w1 w5):=D4.out.trans (b5.mono D4.out.size)
  obtain⟨k0,k1⟩:=KC.out w5 b5
  clear b5 D4 HB2
  go_wp2_with fail
  clear k0 k1
  refine(HU.out w5 (HT.out.below (B1.out.trans (D5.out.mono B1.out.size)) (Nat.le_refl _))).mono ?_
  rintro e w6 ⟨rfl,b6⟩
  have D6:Hid (Below w1.heap.size w1 w6):=D5.out.trans (b6.mono D5.out.size)
  clear b6 D5 HU
  go_wp2_with fail
  refine(HM2.out w6 (HT.out.below (B1.out.trans (D6.out.mono B1.out.size)) (Nat.le_refl _))).mono ?_
  rintro e w7 ⟨rfl,b7⟩
  have D7:Hid (Below w1.heap.size w1 w7):=D6.out.trans (b7.mono D6.out.size)
  clear b7 D6 HM2
  go_wp2_with fail
  refine bodyPost_ret (results_tmp2 rfl _ _ _) rfl ?_
  exact⟨by rw[HBK.out];rfl,B1.out.trans (D7.out.mono B1.out.size)⟩
theorem rOpen_any (Kt:Nat→Int) (l:List Rk.Ky) (o:Option Addr) (cap:Nat) (b:ByteArray) (w:World) (hr:Rk.Ring w o cap l) (hT:Tr Kt w):
  Calls Tryz.prog 80 #[.slice o l.length cap,.string b] w fun e w'=>e=.returned (.tuple #[hv (oH Kt l b),.string (oS Kt l b),.int .i64 (oE Kt l b)])∧Below w.heap.size w w':=by
 have HRi:Hid (∀ W,Rk.Ring W o cap l→Calls Tryz.prog 72 #[.slice o l.length cap] W fun e w'=>e=.returned (.bool (Rk.rightS l))∧w'=W):=fun W hW=>Rk.refRight_any l o cap W hW
 have HG:Hid (∀ W,Calls Tryz.prog 79 #[.string (b.extract 0 24)] W fun e w'=>e=.returned (.tuple #[hv (hB b),.bool (gk (b.extract 0 24))])∧Below W.heap.size W w'):=rGet_any (b.extract 0 24)
 have HF:Hid (∀ W,Rk.Ring W o cap l→Calls Tryz.prog 49 #[.slice o l.length cap,.int .u32 (hB b).2.1] W fun e w'=>e=.returned (.tuple #[Rk.kv (Rk.fkS l (hB b).2.1),.int .i64 (Rk.feS l (hB b).2.1)])∧Below W.heap.size W w'):=fun W hW=>Rk.refFind_any l (hB b).2.1 o cap W hW
 have HU:Hid (∀ W,Tr Kt W→Calls Tryz.prog 102 #[Rk.kv (Rk.fkS l (hB b).2.1)] W fun e w'=>e=.returned (.tuple #[.string (Rk.sealS Kt (Rk.fkS l (hB b).2.1)),.string (Rk.bindS Kt (Rk.fkS l (hB b).2.1)),.int .i64 (Rk.subE (Rk.fkS l (hB b).2.1))])∧Below W.heap.size W w'):=fun W ⟨_,_,h1⟩=>Rk.refSubs_any Kt _ W h1
 have HM:Hid (Rk.feS l (hB b).2.1=0→b.size=256→∀ W,Tr Kt W→Calls Tryz.prog 103 #[.string (Rk.bindS Kt (Rk.fkS l (hB b).2.1)),.string (b.extract 0 224)] W fun e w'=>e=.returned (.string (macS Kt (Rk.bindS Kt (Rk.fkS l (hB b).2.1)) (b.extract 0 224)))∧Below W.heap.size W w'):=fun h0 hs W ⟨_,_,h1⟩=>
  refMac_any Kt _ _ (by rw[bind_size Kt _ (fe_zero l _ h0).2.2.2];omega) (by rw[Rp.ext_size];omega) W h1
 have HN:Hid (∀ W,Calls Tryz.prog 110 #[hv (hB b)] W fun e w'=>e=.returned (.string (nonceS (hB b)))∧Below W.heap.size W w'):=rNonce_any (hB b) (gv_fits _)
 have HXO:Hid (Rk.feS l (hB b).2.1=0→∀ W,Calls Tryz.prog 109 #[.string (Rk.sealS Kt (Rk.fkS l (hB b).2.1)),.string (nonceS (hB b)),.string (b.extract 24 224)] W fun e w'=>e=.returned (.tuple #[.string (bodyOf Kt (Rk.fkS l (hB b).2.1) (hB b) b),.int .i64 0])∧Below W.heap.size W w'):=fun h0 W=>
  rXor_is _ _ _ (seal_size Kt _ (fe_zero l _ h0).2.2.2) (nonce_size _) (by rw[Rp.ext_size];omega) W
 have HUP:Hid (∀ W,Calls Tryz.prog 111 #[.string (bodyOf Kt (Rk.fkS l (hB b).2.1) (hB b) b)] W fun e w'=>e=.returned (.tuple #[.string (Rp.unV (bodyOf Kt (Rk.fkS l (hB b).2.1) (hB b) b)),.int .i64 (Rp.unE (bodyOf Kt (Rk.fkS l (hB b).2.1) (hB b) b))])∧Below W.heap.size W w'):=Rp.refUnpad_any _
 have HE1:Hid (b.size=256→∀ w,(Instr.sliceAt 9 (.string b) none (some (.int .i64 224)) none).run Tryz.prog w=.ok (.string (b.extract 0 224)) w):=fun h=>ext256n b h 224 (by omega)
 have HE2:Hid (b.size=256→∀ w,(Instr.sliceAt 9 (.string b) (some (.int .i64 24)) (some (.int .i64 224)) none).run Tryz.prog w=.ok (.string (b.extract 24 224)) w):=fun h=>ext256 b h 24 224 (by omega) (by omega)
 have HE3:Hid (b.size=256→∀ w,(Instr.sliceAt 9 (.string b) (some (.int .i64 224)) none none).run Tryz.prog w=.ok (.string (tagS b)) w):=fun h w=>by
  have:tagS b=b.extract 224 256:=by unfold tagS;rw[h]
  rw[this]
  simp[Instr.sliceAt,Instr.slice,run_underlying Tryz.underlying9,go_sem,h]
 have HTK:Hid ((tagS b=macS Kt (Rk.bindS Kt (Rk.fkS l (hB b).2.1)) (b.extract 0 224)∧((tk Kt (Rk.fkS l (hB b).2.1) (hB b) b=true∧Rp.unE (bodyOf Kt (Rk.fkS l (hB b).2.1) (hB b) b)=0∧tv Kt (Rk.fkS l (hB b).2.1) (hB b) b=Rp.unV (bodyOf Kt (Rk.fkS l (hB b).2.1) (hB b) b))∨(tk Kt (Rk.fkS l (hB b).2.1) (hB b) b=false∧Rp.unE (bodyOf Kt (Rk.fkS l (hB b).2.1) (hB b) b)=50)))
  ∨(((macS Kt (Rk.bindS Kt (Rk.fkS l (hB b).2.1)) (b.extract 0 224)).toList==(tagS b).toList)=false∧tk Kt (Rk.fkS l (hB b).2.1) (hB b) b=false)):=by
  refine(?_:_∨_)
  rw[Rp.toList_dec]
  unfold tv tk Rp.unV Rp.unE tagOk
  by_cases ht:tagS b=macS Kt (Rk.bindS Kt (Rk.fkS l (hB b).2.1)) (b.extract 0 224)
  ·left
   refine⟨ht,?_⟩
   rw[decide_eq_true ht]
   cases Rp.isBody (bodyOf Kt (Rk.fkS l (hB b).2.1) (hB b) b)<;>simp
  ·right
   rw[decide_eq_false ht]
   exact⟨decide_eq_false fun e=>ht e.symm,rfl⟩
 have HQ:Hid (Rk.feS l (hB b).2.1=0∨Rk.feS l (hB b).2.1=40∨Rk.feS l (hB b).2.1=41):=fe_cases l _
 have HEX:Hid (b.size=256→∀ w,(Instr.sliceAt 9 (.string b) none (some (.int .i64 24)) none).run Tryz.prog w=.ok (.string (b.extract 0 24)) w):=fun h=>ext256n b h 24 (by omega)
 have HR:Hid (Rk.Ring w o cap l):=hr
 have HT:Hid (Tr Kt w):=hT
 have HV:Hid ((Rk.rightS l=false∧oE Kt l b=40∧oH Kt l b=zh∧oS Kt l b=⟨#[]⟩)∨(Rk.rightS l=true∧b.size≠256∧oE Kt l b=61∧oH Kt l b=zh∧oS Kt l b=⟨#[]⟩)∨(Rk.rightS l=true∧b.size=256∧gk (b.extract 0 24)=false∧oE Kt l b=61∧oH Kt l b=zh∧oS Kt l b=⟨#[]⟩)
  ∨(Rk.rightS l=true∧b.size=256∧gk (b.extract 0 24)=true∧Rk.feS l (hB b).2.1≠0∧oE Kt l b=Rk.feS l (hB b).2.1∧oH Kt l b=zh∧oS Kt l b=⟨#[]⟩)
  ∨(Rk.rightS l=true∧b.size=256∧gk (b.extract 0 24)=true∧Rk.feS l (hB b).2.1=0∧tk Kt (Rk.fkS l (hB b).2.1) (hB b) b=false∧oE Kt l b=61∧oH Kt l b=zh∧oS Kt l b=⟨#[]⟩)
  ∨(Rk.rightS l=true∧b.size=256∧gk (b.extract 0 24)=true∧Rk.feS l (hB b).2.1=0∧tk Kt (Rk.fkS l (hB b).2.1) (hB b) b=true∧oE Kt l b=0∧oH Kt l b=hB b∧oS Kt l b=tv Kt (Rk.fkS l (hB b).2.1) (hB b) b)):=by
  refine(?_:(_∧_)∨_)
  unfold oH oS oE
  cases hR:Rk.rightS l
  ·left;simp
  ·right
   by_cases hz:b.size=256
   ·right
    cases hg:gk (b.extract 0 24)
    ·left;simp[hz]
    ·right
     by_cases hf:Rk.feS l (hB b).2.1=0
     ·right
      cases ht:tk Kt (Rk.fkS l (hB b).2.1) (hB b) b
      ·left;simp[hz,hf]
      ·right;simp[hz,hf]
     ·left;simp[hz,hf]
   ·left;simp[hz]
 clear hr hT
 generalize bodyOf Kt (Rk.fkS l (hB b).2.1) (hB b) b=bo at*
 generalize macS Kt (Rk.bindS Kt (Rk.fkS l (hB b).2.1)) (b.extract 0 224)=ma at*
 generalize Rk.sealS Kt (Rk.fkS l (hB b).2.1)=sl at*
 generalize Rk.bindS Kt (Rk.fkS l (hB b).2.1)=bi at*
 generalize Rk.subE (Rk.fkS l (hB b).2.1)=su at*
 generalize nonceS (hB b)=no at*
 generalize tagS b=ta at*
 generalize Rp.unV bo=uv at*
 generalize Rp.unE bo=ue at*
 generalize b.extract 0 224=y1 at*
 generalize b.extract 24 224=y2 at*
 generalize tv Kt (Rk.fkS l (hB b).2.1) (hB b) b=tvv at*
 generalize tk Kt (Rk.fkS l (hB b).2.1) (hB b) b=tkk at*
 generalize hk:Rk.fkS l (hB b).2.1=k at*
 generalize Rk.feS l (hB b).2.1=fe at*
 clear hk
 generalize oE Kt l b=oe at*
 generalize oS Kt l b=os at*
 generalize oH Kt l b=oh at*
 generalize hB b=hb at*
 generalize gk (b.extract 0 24)=gkk at*
 generalize b.extract 0 24=x at*
 generalize Rk.rightS l=ri at*
 obtain⟨kg,ks⟩:=k
 obtain⟨a,b',c,d⟩:=hb
 rcases HV.out with⟨rfl,rfl,rfl,rfl⟩|⟨rfl,hz,rfl,rfl,rfl⟩|⟨rfl,hz,rfl,rfl,rfl,rfl⟩|⟨rfl,hz,rfl,h0,rfl,rfl,rfl⟩|⟨rfl,hz,rfl,rfl,rfl,rfl,rfl,rfl⟩|⟨rfl,hz,rfl,rfl,rfl,rfl,rfl,rfl⟩
 ·clear HV
  unfold hv Rk.kv at*
  simp only at HG HF HU HN ⊢
  go_enter Tryz.func80,Tryz.ntmps80
  go_wp2_with fail
  obtain⟨w1,hw1⟩:∃ w1,w.alloc (.cells #[.int .u32 0,.int .u32 0,.int .u32 0,.int .u64 0] 91)=w1:=⟨_,rfl⟩
  have D1:Hid (Below w.heap.size w w1):=by rw[←hw1];exact(Below.refl _ w).alloc (Nat.le_refl _) _
  have Z1:Hid (w1.heap[w.heap.size]? =some (.cells #[.int .u32 0,.int .u32 0,.int .u32 0,.int .u64 0] 91 (0,0))):=by rw[←hw1];exact heap_alloc_new w _
  rw[hw1]
  clear hw1
  refine(HRi.out w1 (HR.out.below D1.out (Nat.le_refl _))).mono ?_
  rintro e w2 ⟨rfl,hw2⟩
  have b2:Below w1.heap.size w1 w2:=by rw[hw2];exact Below.refl _ _
  clear hw2
  have D2:Hid (Below w.heap.size w w2):=D1.out.trans (b2.mono D1.out.size)
  have Z2:Hid (w2.heap[w.heap.size]? =some (.cells #[.int .u32 0,.int .u32 0,.int .u32 0,.int .u64 0] 91 (0,0))):=(b2.block _ (Array.getElem?_eq_some_iff.1 Z1.out).1).trans Z1.out
  clear b2 D1 Z1 HRi
  go_wp2_with (refine wpList_store_row rfl 91 _ _ rfl w.heap.size _ rfl rfl 91 _ Z2.out (by kernel_rfl) rfl (by simp[Value.oneCell']) ?_)
  refine bodyPost_ret (results_open rfl _ _ w.heap.size zh rfl (setRow_heap _ _ _ _ _ _ Z2.out)) rfl ?_
  exact⟨rfl,below_setRow D2.out (Nat.le_refl _) _⟩
 ·clear HV
  unfold hv Rk.kv at*
  simp only at HG HF HU HN ⊢
  go_enter Tryz.func80,Tryz.ntmps80
  go_wp2_with fail
  obtain⟨w1,hw1⟩:∃ w1,w.alloc (.cells #[.int .u32 0,.int .u32 0,.int .u32 0,.int .u64 0] 91)=w1:=⟨_,rfl⟩
  have D1:Hid (Below w.heap.size w w1):=by rw[←hw1];exact(Below.refl _ w).alloc (Nat.le_refl _) _
  have Z1:Hid (w1.heap[w.heap.size]? =some (.cells #[.int .u32 0,.int .u32 0,.int .u32 0,.int .u64 0] 91 (0,0))):=by rw[←hw1];exact heap_alloc_new w _
  rw[hw1]
  clear hw1
  refine(HRi.out w1 (HR.out.below D1.out (Nat.le_refl _))).mono ?_
  rintro e w2 ⟨rfl,hw2⟩
  have b2:Below w1.heap.size w1 w2:=by rw[hw2];exact Below.refl _ _
  clear hw2
  have D2:Hid (Below w.heap.size w w2):=D1.out.trans (b2.mono D1.out.size)
  have Z2:Hid (w2.heap[w.heap.size]? =some (.cells #[.int .u32 0,.int .u32 0,.int .u32 0,.int .u64 0] 91 (0,0))):=(b2.block _ (Array.getElem?_eq_some_iff.1 Z1.out).1).trans Z1.out
  clear b2 D1 Z1 HRi
  have q2:((b.size:Int) !=256)=true:=by simp;omega
  go_wp2_with (refine wpList_store_row rfl 91 _ _ rfl w.heap.size _ rfl rfl 91 _ Z2.out (by kernel_rfl) rfl (by simp[Value.oneCell']) ?_)
  refine bodyPost_ret (results_open rfl _ _ w.heap.size zh rfl (setRow_heap _ _ _ _ _ _ Z2.out)) rfl ?_
  exact⟨rfl,below_setRow D2.out (Nat.le_refl _) _⟩
 ·clear HV
  unfold hv Rk.kv at*
  simp only at HG HF HU HN ⊢
  go_enter Tryz.func80,Tryz.ntmps80
  go_wp2_with fail
  obtain⟨w1,hw1⟩:∃ w1,w.alloc (.cells #[.int .u32 0,.int .u32 0,.int .u32 0,.int .u64 0] 91)=w1:=⟨_,rfl⟩
  have D1:Hid (Below w.heap.size w w1):=by rw[←hw1];exact(Below.refl _ w).alloc (Nat.le_refl _) _
  have Z1:Hid (w1.heap[w.heap.size]? =some (.cells #[.int .u32 0,.int .u32 0,.int .u32 0,.int .u64 0] 91 (0,0))):=by rw[←hw1];exact heap_alloc_new w _
  rw[hw1]
  clear hw1
  refine(HRi.out w1 (HR.out.below D1.out (Nat.le_refl _))).mono ?_
  rintro e w2 ⟨rfl,hw2⟩
  have b2:Below w1.heap.size w1 w2:=by rw[hw2];exact Below.refl _ _
  clear hw2
  have D2:Hid (Below w.heap.size w w2):=D1.out.trans (b2.mono D1.out.size)
  have Z2:Hid (w2.heap[w.heap.size]? =some (.cells #[.int .u32 0,.int .u32 0,.int .u32 0,.int .u64 0] 91 (0,0))):=(b2.block _ (Array.getElem?_eq_some_iff.1 Z1.out).1).trans Z1.out
  clear b2 D1 Z1 HRi
  have q2:(b.size:Int)=256:=by omega
  have ex:=HEX.out hz
  go_wp2_with fail
  refine(HG.out w2).mono ?_
  rintro e w3 ⟨rfl,b3⟩
  have D3:Hid (Below w.heap.size w w3):=D2.out.trans (b3.mono D2.out.size)
  have Z3:Hid (w3.heap[w.heap.size]? =some (.cells #[.int .u32 0,.int .u32 0,.int .u32 0,.int .u64 0] 91 (0,0))):=(b3.block _ (Array.getElem?_eq_some_iff.1 Z2.out).1).trans Z2.out
  clear b3 D2 Z2 HG ex
  have Z3a:Hid ((w3.alloc (.cells #[.int .u32 a,.int .u32 b',.int .u32 c,.int .u64 d] 91)).heap[w.heap.size]? =some (.cells #[.int .u32 0,.int .u32 0,.int .u32 0,.int .u64 0] 91 (0,0))):=(Below.heap_alloc _ _ _ (Array.getElem?_eq_some_iff.1 Z3.out).1).trans Z3.out
  have D3a:Hid (Below w.heap.size w (w3.alloc (.cells #[.int .u32 a,.int .u32 b',.int .u32 c,.int .u64 d] 91))):=D3.out.alloc D3.out.size _
  go_wp2_with (refine wpList_store_row rfl 91 _ _ rfl w.heap.size _ rfl rfl 91 _ Z3a.out (by kernel_rfl) rfl (by simp[Value.oneCell']) ?_)
  refine bodyPost_ret (results_open rfl _ _ w.heap.size zh rfl (setRow_heap _ _ _ _ _ _ Z3a.out)) rfl ?_
  exact⟨rfl,below_setRow D3a.out (Nat.le_refl _) _⟩
 ·clear HV
  unfold hv Rk.kv at*
  simp only at HG HF HU HN ⊢
  go_enter Tryz.func80,Tryz.ntmps80
  go_wp2_with fail
  obtain⟨w1,hw1⟩:∃ w1,w.alloc (.cells #[.int .u32 0,.int .u32 0,.int .u32 0,.int .u64 0] 91)=w1:=⟨_,rfl⟩
  have D1:Hid (Below w.heap.size w w1):=by rw[←hw1];exact(Below.refl _ w).alloc (Nat.le_refl _) _
  have Z1:Hid (w1.heap[w.heap.size]? =some (.cells #[.int .u32 0,.int .u32 0,.int .u32 0,.int .u64 0] 91 (0,0))):=by rw[←hw1];exact heap_alloc_new w _
  rw[hw1]
  clear hw1
  refine(HRi.out w1 (HR.out.below D1.out (Nat.le_refl _))).mono ?_
  rintro e w2 ⟨rfl,hw2⟩
  have b2:Below w1.heap.size w1 w2:=by rw[hw2];exact Below.refl _ _
  clear hw2
  have D2:Hid (Below w.heap.size w w2):=D1.out.trans (b2.mono D1.out.size)
  have Z2:Hid (w2.heap[w.heap.size]? =some (.cells #[.int .u32 0,.int .u32 0,.int .u32 0,.int .u64 0] 91 (0,0))):=(b2.block _ (Array.getElem?_eq_some_iff.1 Z1.out).1).trans Z1.out
  clear b2 D1 Z1 HRi
  have q2:(b.size:Int)=256:=by omega
  have ex:=HEX.out hz
  go_wp2_with fail
  refine(HG.out w2).mono ?_
  rintro e w3 ⟨rfl,b3⟩
  have D3:Hid (Below w.heap.size w w3):=D2.out.trans (b3.mono D2.out.size)
  have Z3:Hid (w3.heap[w.heap.size]? =some (.cells #[.int .u32 0,.int .u32 0,.int .u32 0,.int .u64 0] 91 (0,0))):=(b3.block _ (Array.getElem?_eq_some_iff.1 Z2.out).1).trans Z2.out
  clear b3 D2 Z2 HG ex
  have Z3a:Hid ((w3.alloc (.cells #[.int .u32 a,.int .u32 b',.int .u32 c,.int .u64 d] 91)).heap[w.heap.size]? =some (.cells #[.int .u32 0,.int .u32 0,.int .u32 0,.int .u64 0] 91 (0,0))):=(Below.heap_alloc _ _ _ (Array.getElem?_eq_some_iff.1 Z3.out).1).trans Z3.out
  have D3a:Hid (Below w.heap.size w (w3.alloc (.cells #[.int .u32 a,.int .u32 b',.int .u32 c,.int .u64 d] 91))):=D3.out.alloc D3.out.size _
  go_wp2_with fail
  obtain⟨v3,hv3⟩:∃ v3,w3.alloc (.cells #[.int .u32 a,.int .u32 b',.int .u32 c,.int .u64 d] 91)=v3:=⟨_,rfl⟩
  have X3:Hid (v3.heap[w3.heap.size]? =some (.cells #[.int .u32 a,.int .u32 b',.int .u32 c,.int .u64 d] 91 (0,0))):=by rw[←hv3];exact heap_alloc_new w3 _
  rw[hv3] at Z3a D3a
  rw[hv3]
  clear hv3 D3 Z3
  refine(HF.out v3 (HR.out.below D3a.out (Nat.le_refl _))).mono ?_
  rintro e w4 ⟨rfl,b4⟩
  have D4:Hid (Below w.heap.size w w4):=D3a.out.trans (b4.mono D3a.out.size)
  have Z4:Hid (w4.heap[w.heap.size]? =some (.cells #[.int .u32 0,.int .u32 0,.int .u32 0,.int .u64 0] 91 (0,0))):=(b4.block _ (Array.getElem?_eq_some_iff.1 Z3a.out).1).trans Z3a.out
  have X4:Hid (w4.heap[w3.heap.size]? =some (.cells #[.int .u32 a,.int .u32 b',.int .u32 c,.int .u64 d] 91 (0,0))):=(b4.block _ (Array.getElem?_eq_some_iff.1 X3.out).1).trans X3.out
  clear b4 D3a Z3a X3 HF
  have Z4a:Hid ((w4.alloc (.cells #[.int .u32 kg,.string ks] 100)).heap[w.heap.size]? =some (.cells #[.int .u32 0,.int .u32 0,.int .u32 0,.int .u64 0] 91 (0,0))):=(Below.heap_alloc _ _ _ (Array.getElem?_eq_some_iff.1 Z4.out).1).trans Z4.out
  have D4a:Hid (Below w.heap.size w (w4.alloc (.cells #[.int .u32 kg,.string ks] 100))):=D4.out.alloc D4.out.size _
  have q0:(oe !=0)=true:=by simpa using h0
  go_wp2_with (refine wpList_store_row rfl 91 _ _ rfl w.heap.size _ rfl rfl 91 _ Z4a.out (by kernel_rfl) rfl (by simp[Value.oneCell']) ?_)
  refine bodyPost_ret (results_open rfl _ _ w.heap.size zh rfl (setRow_heap _ _ _ _ _ _ Z4a.out)) rfl ?_
  exact⟨rfl,below_setRow D4a.out (Nat.le_refl _) _⟩
 ·clear HV
  unfold hv Rk.kv at*
  simp only at HG HF HU HN ⊢
  go_enter Tryz.func80,Tryz.ntmps80
  go_wp2_with fail
  obtain⟨w1,hw1⟩:∃ w1,w.alloc (.cells #[.int .u32 0,.int .u32 0,.int .u32 0,.int .u64 0] 91)=w1:=⟨_,rfl⟩
  have D1:Hid (Below w.heap.size w w1):=by rw[←hw1];exact(Below.refl _ w).alloc (Nat.le_refl _) _
  have Z1:Hid (w1.heap[w.heap.size]? =some (.cells #[.int .u32 0,.int .u32 0,.int .u32 0,.int .u64 0] 91 (0,0))):=by rw[←hw1];exact heap_alloc_new w _
  rw[hw1]
  clear hw1
  refine(HRi.out w1 (HR.out.below D1.out (Nat.le_refl _))).mono ?_
  rintro e w2 ⟨rfl,hw2⟩
  have b2:Below w1.heap.size w1 w2:=by rw[hw2];exact Below.refl _ _
  clear hw2
  have D2:Hid (Below w.heap.size w w2):=D1.out.trans (b2.mono D1.out.size)
  have Z2:Hid (w2.heap[w.heap.size]? =some (.cells #[.int .u32 0,.int .u32 0,.int .u32 0,.int .u64 0] 91 (0,0))):=(b2.block _ (Array.getElem?_eq_some_iff.1 Z1.out).1).trans Z1.out
  clear b2 D1 Z1 HRi
  have q2:(b.size:Int)=256:=by omega
  have ex:=HEX.out hz
  go_wp2_with fail
  refine(HG.out w2).mono ?_
  rintro e w3 ⟨rfl,b3⟩
  have D3:Hid (Below w.heap.size w w3):=D2.out.trans (b3.mono D2.out.size)
  have Z3:Hid (w3.heap[w.heap.size]? =some (.cells #[.int .u32 0,.int .u32 0,.int .u32 0,.int .u64 0] 91 (0,0))):=(b3.block _ (Array.getElem?_eq_some_iff.1 Z2.out).1).trans Z2.out
  clear b3 D2 Z2 HG ex
  have Z3a:Hid ((w3.alloc (.cells #[.int .u32 a,.int .u32 b',.int .u32 c,.int .u64 d] 91)).heap[w.heap.size]? =some (.cells #[.int .u32 0,.int .u32 0,.int .u32 0,.int .u64 0] 91 (0,0))):=(Below.heap_alloc _ _ _ (Array.getElem?_eq_some_iff.1 Z3.out).1).trans Z3.out
  have D3a:Hid (Below w.heap.size w (w3.alloc (.cells #[.int .u32 a,.int .u32 b',.int .u32 c,.int .u64 d] 91))):=D3.out.alloc D3.out.size _
  go_wp2_with fail
  obtain⟨v3,hv3⟩:∃ v3,w3.alloc (.cells #[.int .u32 a,.int .u32 b',.int .u32 c,.int .u64 d] 91)=v3:=⟨_,rfl⟩
  have X3:Hid (v3.heap[w3.heap.size]? =some (.cells #[.int .u32 a,.int .u32 b',.int .u32 c,.int .u64 d] 91 (0,0))):=by rw[←hv3];exact heap_alloc_new w3 _
  rw[hv3] at Z3a D3a
  rw[hv3]
  clear hv3 D3 Z3
  refine(HF.out v3 (HR.out.below D3a.out (Nat.le_refl _))).mono ?_
  rintro e w4 ⟨rfl,b4⟩
  have D4:Hid (Below w.heap.size w w4):=D3a.out.trans (b4.mono D3a.out.size)
  have Z4:Hid (w4.heap[w.heap.size]? =some (.cells #[.int .u32 0,.int .u32 0,.int .u32 0,.int .u64 0] 91 (0,0))):=(b4.block _ (Array.getElem?_eq_some_iff.1 Z3a.out).1).trans Z3a.out
  have X4:Hid (w4.heap[w3.heap.size]? =some (.cells #[.int .u32 a,.int .u32 b',.int .u32 c,.int .u64 d] 91 (0,0))):=(b4.block _ (Array.getElem?_eq_some_iff.1 X3.out).1).trans X3.out
  clear b4 D3a Z3a X3 HF
  have Z4a:Hid ((w4.alloc (.cells #[.int .u32 kg,.string ks] 100)).heap[w.heap.size]? =some (.cells #[.int .u32 0,.int .u32 0,.int .u32 0,.int .u64 0] 91 (0,0))):=(Below.heap_alloc _ _ _ (Array.getElem?_eq_some_iff.1 Z4.out).1).trans Z4.out
  have D4a:Hid (Below w.heap.size w (w4.alloc (.cells #[.int .u32 kg,.string ks] 100))):=D4.out.alloc D4.out.size _
  have HM2:Hid _:=HM.out trivial hz
  have HXO2:Hid _:=HXO.out trivial
  clear HM HXO
  have Y4:Hid ((w4.alloc (.cells #[.int .u32 kg,.string ks] 100)).heap[w3.heap.size]? =some (.cells #[.int .u32 a,.int .u32 b',.int .u32 c,.int .u64 d] 91 (0,0))):=(Below.heap_alloc _ _ _ (Array.getElem?_eq_some_iff.1 X4.out).1).trans X4.out
  go_wp2_with fail
  obtain⟨v4,hv4⟩:∃ v4,w4.alloc (.cells #[.int .u32 kg,.string ks] 100)=v4:=⟨_,rfl⟩
  rw[hv4] at Z4a D4a Y4
  rw[hv4]
  clear hv4 D4 Z4 X4
  refine(HU.out v4 (HT.out.below D4a.out (Nat.le_refl _))).mono ?_
  rintro e w5 ⟨rfl,b5⟩
  have D5:Hid (Below w.heap.size w w5):=D4a.out.trans (b5.mono D4a.out.size)
  have Z5:Hid (w5.heap[w.heap.size]? =some (.cells #[.int .u32 0,.int .u32 0,.int .u32 0,.int .u64 0] 91 (0,0))):=(b5.block _ (Array.getElem?_eq_some_iff.1 Z4a.out).1).trans Z4a.out
  have X5:Hid (w5.heap[w3.heap.size]? =some (.cells #[.int .u32 a,.int .u32 b',.int .u32 c,.int .u64 d] 91 (0,0))):=(b5.block _ (Array.getElem?_eq_some_iff.1 Y4.out).1).trans Y4.out
  clear b5 D4a Z4a Y4 HU
  have sl1:=HE1.out hz
  have sl2:=HE2.out hz
  have sl3:=HE3.out hz
  rcases HTK.out with⟨rfl,⟨ht,_⟩|⟨_,rfl⟩⟩|⟨ht,_⟩
  ·cases ht
  ·clear HTK
   go_wp2_with fail
   refine wp_region_any (by kernel_rfl) ?_
   change wpAny _ _ _ _ _ _ _ (World.drew _)
   obtain⟨v5,hv5⟩:∃ v5,w5.drew=v5:=⟨_,rfl⟩
   have G5:Hid (Below w5.heap.size w5 v5):=by rw[←hv5];exact(Below.refl _ _).drew
   rw[hv5]
   clear hv5
   refine plan [0,1,2,4,5] ?_
   iterate 5
    refine tkA (v:=?_) rfl (by kernel_rfl) (fun _ _ _ h=>h) (by kernel_rfl) ?_ ?_
    rotate_left
    ·intro w;go_simp;try with_reducible rfl
    conv in(Act.put _ _ _)=>simp only[List.getElem_toArray,List.getElem_cons_succ,List.getElem_cons_zero,Act.put,List.setIfInBounds_toArray,List.set_cons_succ,List.set_cons_zero]
   refine plan0 ?_
   refine wpAny_ready (rs:=[3]) (by kernel_rfl) (by simp) ?_
   refine(AllReady.cons rfl (fun K hK=>?_) AllReady.nil)
   go_simp
   refine(HM2.out v5 (HT.out.below (D5.out.trans (G5.out.mono D5.out.size)) (Nat.le_refl _))).mono ?_
   rintro e w6 ⟨rfl,b6⟩
   have G6:Hid (Below w5.heap.size w5 w6):=G5.out.trans (b6.mono G5.out.size)
   have D6:Hid (Below w.heap.size w w6):=D5.out.trans (G6.out.mono D5.out.size)
   have Z6:Hid (w6.heap[w.heap.size]? =some (.cells #[.int .u32 0,.int .u32 0,.int .u32 0,.int .u64 0] 91 (0,0))):=(G6.out.block _ (Array.getElem?_eq_some_iff.1 Z5.out).1).trans Z5.out
   have X6:Hid (w6.heap[w3.heap.size]? =some (.cells #[.int .u32 a,.int .u32 b',.int .u32 c,.int .u64 d] 91 (0,0))):=(G6.out.block _ (Array.getElem?_eq_some_iff.1 X5.out).1).trans X5.out
   clear b6 G5 HM2 D5 Z5 X5 G6
   refine hK _ _ ?_
   clear hK K
   refine plan [6] ?_
   refine tkA (v:=?_) rfl (by kernel_rfl) (fun _ _ _ h=>h) (by kernel_rfl) ?_ ?_
   rotate_left
   ·intro w;go_simp;try with_reducible rfl
   conv in(Act.put _ _ _)=>simp only[List.getElem_toArray,List.getElem_cons_succ,List.getElem_cons_zero,Act.put,List.setIfInBounds_toArray,List.set_cons_succ,List.set_cons_zero]
   refine plan0 ?_
   refine wpAny_done (by kernel_rfl) ?_ _
   go_wp2_with fail
   refine wp_region_any (by kernel_rfl) ?_
   change wpAny _ _ _ _ _ _ _ (World.drew _)
   obtain⟨v6,hv6⟩:∃ v6,w6.drew=v6:=⟨_,rfl⟩
   have G6:Hid (Below w6.heap.size w6 v6):=by rw[←hv6];exact(Below.refl _ _).drew
   rw[hv6]
   clear hv6
   obtain⟨ca,cb,cc,cd,_,_,_,_⟩:=four_cells ((G6.out.block _ (Array.getElem?_eq_some_iff.1 X6.out).1).trans X6.out)
   refine plan [0,3,4] ?_
   iterate 3
    refine tkA (v:=?_) rfl (by kernel_rfl) (fun _ _ _ h=>h) (by kernel_rfl) ?_ ?_
    rotate_left
    ·intro w;go_simp;try with_reducible rfl
    conv in(Act.put _ _ _)=>simp only[List.getElem_toArray,List.getElem_cons_succ,List.getElem_cons_zero,Act.put,List.setIfInBounds_toArray,List.set_cons_succ,List.set_cons_zero]
   refine plan0 ?_
   refine wpAny_ready (rs:=[1]) (by kernel_rfl) (by simp) ?_
   refine(AllReady.cons rfl (fun K hK=>?_) AllReady.nil)
   go_simp
   refine hK _ _ ?_
   clear hK K
   clear ca cb cc cd
   refine wpAny_ready (rs:=[2]) (by kernel_rfl) (by simp) ?_
   refine(AllReady.cons rfl (fun K hK=>?_) AllReady.nil)
   go_simp
   refine(HN.out v6).mono ?_
   rintro e w7 ⟨rfl,b7⟩
   have G7:Hid (Below w6.heap.size w6 w7):=G6.out.trans (b7.mono G6.out.size)
   clear b7 G6 HN
   refine hK _ _ ?_
   clear hK K
   refine wpAny_ready (rs:=[5]) (by kernel_rfl) (by simp) ?_
   refine(AllReady.cons rfl (fun K hK=>?_) AllReady.nil)
   go_simp
   refine(HXO2.out w7).mono ?_
   rintro e w8 ⟨rfl,b8⟩
   have G8:Hid (Below w6.heap.size w6 w8):=G7.out.trans (b8.mono G7.out.size)
   clear b8 G7 HXO2
   refine hK _ _ ?_
   clear hK K
   refine plan [6,7,8] ?_
   iterate 3
    refine tkA (v:=?_) rfl (by kernel_rfl) (fun _ _ _ h=>h) (by kernel_rfl) ?_ ?_
    rotate_left
    ·intro w;go_simp;try with_reducible rfl
    conv in(Act.put _ _ _)=>simp only[List.getElem_toArray,List.getElem_cons_succ,List.getElem_cons_zero,Act.put,List.setIfInBounds_toArray,List.set_cons_succ,List.set_cons_zero]
   refine plan0 ?_
   refine wpAny_ready (rs:=[9]) (by kernel_rfl) (by simp) ?_
   refine(AllReady.cons rfl (fun K hK=>?_) AllReady.nil)
   go_simp
   refine hK _ _ ?_
   clear hK K
   refine wpAny_ready (rs:=[10]) (by kernel_rfl) (by simp) ?_
   refine(AllReady.cons rfl (fun K hK=>?_) AllReady.nil)
   go_simp
   refine hK _ _ ?_
   clear hK K
   refine wpAny_done (by kernel_rfl) ?_ _
   go_wp2_with fail
   refine(HUP.out w8).mono ?_
   rintro e w9 ⟨rfl,b9⟩
   have G9:Hid (Below w6.heap.size w6 w9):=G8.out.trans (b9.mono G8.out.size)
   have D9:Hid (Below w.heap.size w w9):=D6.out.trans (G9.out.mono D6.out.size)
   have Z9:Hid (w9.heap[w.heap.size]? =some (.cells #[.int .u32 0,.int .u32 0,.int .u32 0,.int .u64 0] 91 (0,0))):=(G9.out.block _ (Array.getElem?_eq_some_iff.1 Z6.out).1).trans Z6.out
   have X9:Hid (w9.heap[w3.heap.size]? =some (.cells #[.int .u32 a,.int .u32 b',.int .u32 c,.int .u64 d] 91 (0,0))):=(G9.out.block _ (Array.getElem?_eq_some_iff.1 X6.out).1).trans X6.out
   clear b9 G8 G9 HUP D6 Z6 X6
   go_wp2_with (refine wpList_store_row rfl 91 _ _ rfl w.heap.size _ rfl rfl 91 _ Z9.out (by kernel_rfl) rfl (by simp[Value.oneCell']) ?_)
   refine bodyPost_ret (results_open rfl _ _ w.heap.size zh rfl (setRow_heap _ _ _ _ _ _ Z9.out)) rfl ?_
   exact⟨rfl,below_setRow D9.out (Nat.le_refl _) _⟩
  ·clear HTK
   go_wp2_with fail
   refine wp_region_any (by kernel_rfl) ?_
   change wpAny _ _ _ _ _ _ _ (World.drew _)
   obtain⟨v5,hv5⟩:∃ v5,w5.drew=v5:=⟨_,rfl⟩
   have G5:Hid (Below w5.heap.size w5 v5):=by rw[←hv5];exact(Below.refl _ _).drew
   rw[hv5]
   clear hv5
   refine plan [0,1,2,4,5] ?_
   iterate 5
    refine tkA (v:=?_) rfl (by kernel_rfl) (fun _ _ _ h=>h) (by kernel_rfl) ?_ ?_
    rotate_left
    ·intro w;go_simp;try with_reducible rfl
    conv in(Act.put _ _ _)=>simp only[List.getElem_toArray,List.getElem_cons_succ,List.getElem_cons_zero,Act.put,List.setIfInBounds_toArray,List.set_cons_succ,List.set_cons_zero]
   refine plan0 ?_
   refine wpAny_ready (rs:=[3]) (by kernel_rfl) (by simp) ?_
   refine(AllReady.cons rfl (fun K hK=>?_) AllReady.nil)
   go_simp
   refine(HM2.out v5 (HT.out.below (D5.out.trans (G5.out.mono D5.out.size)) (Nat.le_refl _))).mono ?_
   rintro e w6 ⟨rfl,b6⟩
   have G6:Hid (Below w5.heap.size w5 w6):=G5.out.trans (b6.mono G5.out.size)
   have D6:Hid (Below w.heap.size w w6):=D5.out.trans (G6.out.mono D5.out.size)
   have Z6:Hid (w6.heap[w.heap.size]? =some (.cells #[.int .u32 0,.int .u32 0,.int .u32 0,.int .u64 0] 91 (0,0))):=(G6.out.block _ (Array.getElem?_eq_some_iff.1 Z5.out).1).trans Z5.out
   have X6:Hid (w6.heap[w3.heap.size]? =some (.cells #[.int .u32 a,.int .u32 b',.int .u32 c,.int .u64 d] 91 (0,0))):=(G6.out.block _ (Array.getElem?_eq_some_iff.1 X5.out).1).trans X5.out
   clear b6 G5 HM2 D5 Z5 X5 G6
   refine hK _ _ ?_
   clear hK K
   refine plan [6] ?_
   refine tkA (v:=?_) rfl (by kernel_rfl) (fun _ _ _ h=>h) (by kernel_rfl) ?_ ?_
   rotate_left
   ·intro w;go_simp;try with_reducible rfl
   conv in(Act.put _ _ _)=>simp only[List.getElem_toArray,List.getElem_cons_succ,List.getElem_cons_zero,Act.put,List.setIfInBounds_toArray,List.set_cons_succ,List.set_cons_zero]
   refine plan0 ?_
   refine wpAny_done (by kernel_rfl) ?_ _
   go_wp2_with (refine wpList_store_row rfl 91 _ _ rfl w.heap.size _ rfl rfl 91 _ Z6.out (by kernel_rfl) rfl (by simp[Value.oneCell']) ?_)
   refine bodyPost_ret (results_open rfl _ _ w.heap.size zh rfl (setRow_heap _ _ _ _ _ _ Z6.out)) rfl ?_
   exact⟨rfl,below_setRow D6.out (Nat.le_refl _) _⟩
 ·clear HV
  unfold hv Rk.kv at*
  simp only at HG HF HU HN ⊢
  go_enter Tryz.func80,Tryz.ntmps80
  go_wp2_with fail
  obtain⟨w1,hw1⟩:∃ w1,w.alloc (.cells #[.int .u32 0,.int .u32 0,.int .u32 0,.int .u64 0] 91)=w1:=⟨_,rfl⟩
  have D1:Hid (Below w.heap.size w w1):=by rw[←hw1];exact(Below.refl _ w).alloc (Nat.le_refl _) _
  have Z1:Hid (w1.heap[w.heap.size]? =some (.cells #[.int .u32 0,.int .u32 0,.int .u32 0,.int .u64 0] 91 (0,0))):=by rw[←hw1];exact heap_alloc_new w _
  rw[hw1]
  clear hw1
  refine(HRi.out w1 (HR.out.below D1.out (Nat.le_refl _))).mono ?_
  rintro e w2 ⟨rfl,hw2⟩
  have b2:Below w1.heap.size w1 w2:=by rw[hw2];exact Below.refl _ _
  clear hw2
  have D2:Hid (Below w.heap.size w w2):=D1.out.trans (b2.mono D1.out.size)
  have Z2:Hid (w2.heap[w.heap.size]? =some (.cells #[.int .u32 0,.int .u32 0,.int .u32 0,.int .u64 0] 91 (0,0))):=(b2.block _ (Array.getElem?_eq_some_iff.1 Z1.out).1).trans Z1.out
  clear b2 D1 Z1 HRi
  have q2:(b.size:Int)=256:=by omega
  have ex:=HEX.out hz
  go_wp2_with fail
  refine(HG.out w2).mono ?_
  rintro e w3 ⟨rfl,b3⟩
  have D3:Hid (Below w.heap.size w w3):=D2.out.trans (b3.mono D2.out.size)
  have Z3:Hid (w3.heap[w.heap.size]? =some (.cells #[.int .u32 0,.int .u32 0,.int .u32 0,.int .u64 0] 91 (0,0))):=(b3.block _ (Array.getElem?_eq_some_iff.1 Z2.out).1).trans Z2.out
  clear b3 D2 Z2 HG ex
  have Z3a:Hid ((w3.alloc (.cells #[.int .u32 a,.int .u32 b',.int .u32 c,.int .u64 d] 91)).heap[w.heap.size]? =some (.cells #[.int .u32 0,.int .u32 0,.int .u32 0,.int .u64 0] 91 (0,0))):=(Below.heap_alloc _ _ _ (Array.getElem?_eq_some_iff.1 Z3.out).1).trans Z3.out
  have D3a:Hid (Below w.heap.size w (w3.alloc (.cells #[.int .u32 a,.int .u32 b',.int .u32 c,.int .u64 d] 91))):=D3.out.alloc D3.out.size _
  go_wp2_with fail
  obtain⟨v3,hv3⟩:∃ v3,w3.alloc (.cells #[.int .u32 a,.int .u32 b',.int .u32 c,.int .u64 d] 91)=v3:=⟨_,rfl⟩
  have X3:Hid (v3.heap[w3.heap.size]? =some (.cells #[.int .u32 a,.int .u32 b',.int .u32 c,.int .u64 d] 91 (0,0))):=by rw[←hv3];exact heap_alloc_new w3 _
  rw[hv3] at Z3a D3a
  rw[hv3]
  clear hv3 D3 Z3
  refine(HF.out v3 (HR.out.below D3a.out (Nat.le_refl _))).mono ?_
  rintro e w4 ⟨rfl,b4⟩
  have D4:Hid (Below w.heap.size w w4):=D3a.out.trans (b4.mono D3a.out.size)
  have Z4:Hid (w4.heap[w.heap.size]? =some (.cells #[.int .u32 0,.int .u32 0,.int .u32 0,.int .u64 0] 91 (0,0))):=(b4.block _ (Array.getElem?_eq_some_iff.1 Z3a.out).1).trans Z3a.out
  have X4:Hid (w4.heap[w3.heap.size]? =some (.cells #[.int .u32 a,.int .u32 b',.int .u32 c,.int .u64 d] 91 (0,0))):=(b4.block _ (Array.getElem?_eq_some_iff.1 X3.out).1).trans X3.out
  clear b4 D3a Z3a X3 HF
  have Z4a:Hid ((w4.alloc (.cells #[.int .u32 kg,.string ks] 100)).heap[w.heap.size]? =some (.cells #[.int .u32 0,.int .u32 0,.int .u32 0,.int .u64 0] 91 (0,0))):=(Below.heap_alloc _ _ _ (Array.getElem?_eq_some_iff.1 Z4.out).1).trans Z4.out
  have D4a:Hid (Below w.heap.size w (w4.alloc (.cells #[.int .u32 kg,.string ks] 100))):=D4.out.alloc D4.out.size _
  have HM2:Hid _:=HM.out trivial hz
  have HXO2:Hid _:=HXO.out trivial
  clear HM HXO
  have Y4:Hid ((w4.alloc (.cells #[.int .u32 kg,.string ks] 100)).heap[w3.heap.size]? =some (.cells #[.int .u32 a,.int .u32 b',.int .u32 c,.int .u64 d] 91 (0,0))):=(Below.heap_alloc _ _ _ (Array.getElem?_eq_some_iff.1 X4.out).1).trans X4.out
  go_wp2_with fail
  obtain⟨v4,hv4⟩:∃ v4,w4.alloc (.cells #[.int .u32 kg,.string ks] 100)=v4:=⟨_,rfl⟩
  rw[hv4] at Z4a D4a Y4
  rw[hv4]
  clear hv4 D4 Z4 X4
  refine(HU.out v4 (HT.out.below D4a.out (Nat.le_refl _))).mono ?_
  rintro e w5 ⟨rfl,b5⟩
  have D5:Hid (Below w.heap.size w w5):=D4a.out.trans (b5.mono D4a.out.size)
  have Z5:Hid (w5.heap[w.heap.size]? =some (.cells #[.int .u32 0,.int .u32 0,.int .u32 0,.int .u64 0] 91 (0,0))):=(b5.block _ (Array.getElem?_eq_some_iff.1 Z4a.out).1).trans Z4a.out
  have X5:Hid (w5.heap[w3.heap.size]? =some (.cells #[.int .u32 a,.int .u32 b',.int .u32 c,.int .u64 d] 91 (0,0))):=(b5.block _ (Array.getElem?_eq_some_iff.1 Y4.out).1).trans Y4.out
  clear b5 D4a Z4a Y4 HU
  have sl1:=HE1.out hz
  have sl2:=HE2.out hz
  have sl3:=HE3.out hz
  rcases HTK.out with⟨rfl,⟨_,rfl,rfl⟩|⟨ht,_⟩⟩|⟨_,ht⟩
  ·clear HTK
   go_wp2_with fail
   refine wp_region_any (by kernel_rfl) ?_
   change wpAny _ _ _ _ _ _ _ (World.drew _)
   obtain⟨v5,hv5⟩:∃ v5,w5.drew=v5:=⟨_,rfl⟩
   have G5:Hid (Below w5.heap.size w5 v5):=by rw[←hv5];exact(Below.refl _ _).drew
   rw[hv5]
   clear hv5
   refine plan [0,1,2,4,5] ?_
   iterate 5
    refine tkA (v:=?_) rfl (by kernel_rfl) (fun _ _ _ h=>h) (by kernel_rfl) ?_ ?_
    rotate_left
    ·intro w;go_simp;try with_reducible rfl
    conv in(Act.put _ _ _)=>simp only[List.getElem_toArray,List.getElem_cons_succ,List.getElem_cons_zero,Act.put,List.setIfInBounds_toArray,List.set_cons_succ,List.set_cons_zero]
   refine plan0 ?_
   refine wpAny_ready (rs:=[3]) (by kernel_rfl) (by simp) ?_
   refine(AllReady.cons rfl (fun K hK=>?_) AllReady.nil)
   go_simp
   refine(HM2.out v5 (HT.out.below (D5.out.trans (G5.out.mono D5.out.size)) (Nat.le_refl _))).mono ?_
   rintro e w6 ⟨rfl,b6⟩
   have G6:Hid (Below w5.heap.size w5 w6):=G5.out.trans (b6.mono G5.out.size)
   have D6:Hid (Below w.heap.size w w6):=D5.out.trans (G6.out.mono D5.out.size)
   have Z6:Hid (w6.heap[w.heap.size]? =some (.cells #[.int .u32 0,.int .u32 0,.int .u32 0,.int .u64 0] 91 (0,0))):=(G6.out.block _ (Array.getElem?_eq_some_iff.1 Z5.out).1).trans Z5.out
   have X6:Hid (w6.heap[w3.heap.size]? =some (.cells #[.int .u32 a,.int .u32 b',.int .u32 c,.int .u64 d] 91 (0,0))):=(G6.out.block _ (Array.getElem?_eq_some_iff.1 X5.out).1).trans X5.out
   clear b6 G5 HM2 D5 Z5 X5 G6
   refine hK _ _ ?_
   clear hK K
   refine plan [6] ?_
   refine tkA (v:=?_) rfl (by kernel_rfl) (fun _ _ _ h=>h) (by kernel_rfl) ?_ ?_
   rotate_left
   ·intro w;go_simp;try with_reducible rfl
   conv in(Act.put _ _ _)=>simp only[List.getElem_toArray,List.getElem_cons_succ,List.getElem_cons_zero,Act.put,List.setIfInBounds_toArray,List.set_cons_succ,List.set_cons_zero]
   refine plan0 ?_
   refine wpAny_done (by kernel_rfl) ?_ _
   go_wp2_with fail
   refine wp_region_any (by kernel_rfl) ?_
   change wpAny _ _ _ _ _ _ _ (World.drew _)
   obtain⟨v6,hv6⟩:∃ v6,w6.drew=v6:=⟨_,rfl⟩
   have G6:Hid (Below w6.heap.size w6 v6):=by rw[←hv6];exact(Below.refl _ _).drew
   rw[hv6]
   clear hv6
   obtain⟨ca,cb,cc,cd,_,_,_,_⟩:=four_cells ((G6.out.block _ (Array.getElem?_eq_some_iff.1 X6.out).1).trans X6.out)
   refine plan [0,3,4] ?_
   iterate 3
    refine tkA (v:=?_) rfl (by kernel_rfl) (fun _ _ _ h=>h) (by kernel_rfl) ?_ ?_
    rotate_left
    ·intro w;go_simp;try with_reducible rfl
    conv in(Act.put _ _ _)=>simp only[List.getElem_toArray,List.getElem_cons_succ,List.getElem_cons_zero,Act.put,List.setIfInBounds_toArray,List.set_cons_succ,List.set_cons_zero]
   refine plan0 ?_
   refine wpAny_ready (rs:=[1]) (by kernel_rfl) (by simp) ?_
   refine(AllReady.cons rfl (fun K hK=>?_) AllReady.nil)
   go_simp
   refine hK _ _ ?_
   clear hK K
   clear ca cb cc cd
   refine wpAny_ready (rs:=[2]) (by kernel_rfl) (by simp) ?_
   refine(AllReady.cons rfl (fun K hK=>?_) AllReady.nil)
   go_simp
   refine(HN.out v6).mono ?_
   rintro e w7 ⟨rfl,b7⟩
   have G7:Hid (Below w6.heap.size w6 w7):=G6.out.trans (b7.mono G6.out.size)
   clear b7 G6 HN
   refine hK _ _ ?_
   clear hK K
   refine wpAny_ready (rs:=[5]) (by kernel_rfl) (by simp) ?_
   refine(AllReady.cons rfl (fun K hK=>?_) AllReady.nil)
   go_simp
   refine(HXO2.out w7).mono ?_
   rintro e w8 ⟨rfl,b8⟩
   have G8:Hid (Below w6.heap.size w6 w8):=G7.out.trans (b8.mono G7.out.size)
   clear b8 G7 HXO2
   refine hK _ _ ?_
   clear hK K
   refine plan [6,7,8] ?_
   iterate 3
    refine tkA (v:=?_) rfl (by kernel_rfl) (fun _ _ _ h=>h) (by kernel_rfl) ?_ ?_
    rotate_left
    ·intro w;go_simp;try with_reducible rfl
    conv in(Act.put _ _ _)=>simp only[List.getElem_toArray,List.getElem_cons_succ,List.getElem_cons_zero,Act.put,List.setIfInBounds_toArray,List.set_cons_succ,List.set_cons_zero]
   refine plan0 ?_
   refine wpAny_ready (rs:=[9]) (by kernel_rfl) (by simp) ?_
   refine(AllReady.cons rfl (fun K hK=>?_) AllReady.nil)
   go_simp
   refine hK _ _ ?_
   clear hK K
   refine wpAny_ready (rs:=[10]) (by kernel_rfl) (by simp) ?_
   refine(AllReady.cons rfl (fun K hK=>?_) AllReady.nil)
   go_simp
   refine hK _ _ ?_
   clear hK K
   refine wpAny_done (by kernel_rfl) ?_ _
   go_wp2_with fail
   refine(HUP.out w8).mono ?_
   rintro e w9 ⟨rfl,b9⟩
   have G9:Hid (Below w6.heap.size w6 w9):=G8.out.trans (b9.mono G8.out.size)
   have D9:Hid (Below w.heap.size w w9):=D6.out.trans (G9.out.mono D6.out.size)
   have Z9:Hid (w9.heap[w.heap.size]? =some (.cells #[.int .u32 0,.int .u32 0,.int .u32 0,.int .u64 0] 91 (0,0))):=(G9.out.block _ (Array.getElem?_eq_some_iff.1 Z6.out).1).trans Z6.out
   have X9:Hid (w9.heap[w3.heap.size]? =some (.cells #[.int .u32 a,.int .u32 b',.int .u32 c,.int .u64 d] 91 (0,0))):=(G9.out.block _ (Array.getElem?_eq_some_iff.1 X6.out).1).trans X6.out
   clear b9 G8 G9 HUP D6 Z6 X6
   go_wp2_with (first|(refine wpList_load_row rfl 91 _ rfl w3.heap.size rfl 91 _ (0,0) _ X9.out Tryz.underlying91 rfl (by kernel_rfl) ?_)|(refine wpList_store_row rfl 91 _ _ rfl w.heap.size _ rfl rfl 91 _ Z9.out (by kernel_rfl) rfl (by simp[Value.oneCell']) ?_))
   refine bodyPost_ret (results_open rfl _ _ w.heap.size (a,b',c,d) rfl (setRow_heap _ _ _ _ _ _ Z9.out)) rfl ?_
   exact⟨rfl,below_setRow D9.out (Nat.le_refl _) _⟩
  ·cases ht
  ·cases ht
end Go.Proofs.YtfaflomephjkgaaGreatDoor.Rs
