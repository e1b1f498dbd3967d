/- The reference's seals: a text sealed for a block, and written. -/
import Derived.Test.YtfaflomephjkgaaGreatDoorQVM
import Derived.Test.YtfaflomephjkgaaGreatDoorQXK
import Derived.Test.YtfaflomephjkgaaGreatDoorQDM
import Derived.BigQuiet
import Derived.Test.YtfaflomephjkgaaGreatDoorPPl
set_option maxRecDepth 100000
set_option maxHeartbeats 4000000
namespace Go.Proofs.YtfaflomephjkgaaGreatDoor.Rd
theorem write_n (s:St) (p:Nat) (t:ByteArray):(writeS s p t).n=s.n:=by unfold writeS;(repeat' split)<;>first|rfl|exact(opS_tx s).2.2.2.1
end Go.Proofs.YtfaflomephjkgaaGreatDoor.Rd
namespace Go.Proofs.YtfaflomephjkgaaGreatDoor.Rv
open Go.RowKit Go.Lib
open Go.Proofs.YtfaflomephjkgaaGreatDoor.Rd (But St Ok Dev Dv pt below_new natOf)
theorem q6_of {w:World} {P:Qp} {v:Vs} {n:Nat} {T:TypeId} (h:w.heap[P.q]? =some (.cells (qc P v n) T (0,0))):V6 P.q (pt P.r) (.slice P.o v.ring.length P.cap) (.int .u32 v.gen) (.int .u32 v.boot) (.int .u64 (v.seals:Int)) (.slice (some ⟨P.tb,0,none⟩) n n) w:=
 ⟨by rw[cell_of_row _ _ _ _ _ _ h];rfl,by rw[cell_of_row _ _ _ _ _ _ h];rfl,by rw[cell_of_row _ _ _ _ _ _ h];rfl,by rw[cell_of_row _ _ _ _ _ _ h];rfl,by rw[cell_of_row _ _ _ _ _ _ h];rfl,by rw[cell_of_row _ _ _ _ _ _ h];rfl⟩
theorem Qlt.set {w:World} {P:Qp} {v:Vs} {t:St} (h:Qlt w P v t) (i:Nat) (x:Value) (v':Vs)
  (he:(qc P v t.n).setIfInBounds i x=qc P v' t.n) (hr:v'.ring=v.ring) (hm:v'.tk=v.tk):Qlt (w.setCell ⟨P.q,i,none⟩ x) P v' t∧But P.has w (w.setCell ⟨P.q,i,none⟩ x):=by
 have hb:But P.has w (w.setCell ⟨P.q,i,none⟩ x):=But.set w P.q i x (.inl rfl)
 have ho:∀ k,k≠P.q→(w.setCell ⟨P.q,i,none⟩ x).heap[k]? =w.heap[k]? :=fun k hk=>Below.heap_setCell _ _ _ _ fun e=>hk e
 refine⟨⟨?_,by rw[hr];exact ring_same h.ring h.rb hb.size hb.block,by rw[hr];exact h.rb,?_,h.dev.same fun k hk=>ho k fun e=>h.qr (by rw[←e];exact hk),h.qt,h.qr,h.tr⟩,hb⟩
 ·rw[←he]
  exact Rd.set_at w P.q i _ _ _ x h.self
 ·rw[hm]
  exact h.tk.same (ho _ fun e=>h.qt e.symm)
theorem Qlt.dev_step {w w':World} {P:Qp} {v:Vs} {t t':St} (h:Qlt w P v t) (hd:Rd.Rf w' P.r P.x t') (hb:But (Rd.Rv P.r P.x) w w') (hn:t'.n=t.n):Qlt w' P v t'∧But P.has w w':=by
 have hl:=h.lt
 have hb':But P.has w w':=hb.more fun k hk=>.inr (.inr hk)
 exact⟨⟨by rw[hn];exact(hb.block _ hl.1 h.qr).trans h.self,ring_same h.ring h.rb hb.size hb'.block,h.rb,by rw[hn];exact h.tk.same (hb.block _ hl.2 h.tr),hd,h.qt,h.qr,h.tr⟩,hb'⟩
theorem tag_cut (b:ByteArray) (h:b.size=256) (w:World):(Instr.sliceAt 9 (.string b) (some (.int .i64 224)) none none).run Tryz.prog w=.ok (.string (Rs.tagS b)) w:=by
 have:Rs.tagS b=b.extract 224 256:=by unfold Rs.tagS;rw[h]
 rw[this]
 simp[Instr.sliceAt,Instr.slice,run_underlying Tryz.underlying9,go_sem,h]
theorem wseals_any (Kt:Nat→Int) (P:Qp) (v:Vs) (t:St) (p:Nat) (hp:p≤4294967295) (s:ByteArray) (w:World) (hv:Qlt w P v t) (hk:Ok t) (hT:Rs.Tr Kt w) (hf:Rs.fits (hd v p)) (hs:v.seals+1<18446744073709551616):
  Calls Tryz.prog 50 #[pt P.q,.int .u32 (p:Int),.string s] w fun e w'=>e=.returned (.tuple #[.string (putV Kt v t p s),.int .i64 (putE Kt v t p s)])∧Qlt w' P (putN v p s) (putT Kt v t p s)∧But P.has w w':=by
 obtain⟨n,hn⟩:∃ n,t.n=n:=⟨_,rfl⟩
 have HTn:Hid (t.n=n):=hn
 have h1:=hv.self
 rw[hn] at h1
 have h2:=hv.ring
 obtain⟨o,ho⟩:∃ o,P.o=o:=⟨_,rfl⟩
 obtain⟨cap,hcap⟩:∃ cap,P.cap=cap:=⟨_,rfl⟩
 have HOC:Hid (P.o=o∧P.cap=cap):=⟨ho,hcap⟩
 have HV:Hid (Qlt w P v t):=hv
 have HK:Hid (Ok t):=hk
 have HS:Hid (∀ W,Rk.Ring W o cap v.ring→Rs.Tr Kt W→Calls Tryz.prog 73 #[.slice o v.ring.length cap,Rs.hv (hd v p),.string s] W fun e w'=>e=.returned (.tuple #[.string (Rs.sV Kt v.ring (hd v p) s),.int .i64 (Rs.sE v.ring (hd v p) s)])∧Below W.heap.size W w'):=fun W a b=>Rs.rSeal_any Kt v.ring o cap (hd v p) hf s W a b
 have HTB:Hid (Rs.Tr Kt w):=hT
 have HS1:Hid (w.heap[P.q]? =some (.cells (qc P v n) 43 (0,0))∧Rk.Ring w o cap v.ring):=⟨h1,by rw[←ho,←hcap];exact h2⟩
 simp only[Rs.hv,hd] at HS
 obtain⟨PE,hPE⟩:∃ PE,putE Kt v t p s=PE:=⟨_,rfl⟩
 obtain⟨PV,hPV⟩:∃ PV,putV Kt v t p s=PV:=⟨_,rfl⟩
 have HPE:Hid (PE=if Rs.sE v.ring (hd v p) s=0 then Rd.writeE t p (Rs.sV Kt v.ring (hd v p) s) else Rs.sE v.ring (hd v p) s):=by rw[←hPE];exact(rfl:putE Kt v t p s=_)
 have HPV:Hid (PV=if PE=0 then Rs.tagS (Rs.sV Kt v.ring (hd v p) s) else⟨#[]⟩):=by rw[←hPV,←hPE];exact(rfl:putV Kt v t p s=_)
 have HPN:Hid (putN v p s=if Rs.sE v.ring (hd v p) s=0 then { v with seals:=v.seals+1 } else v):=rfl
 have HPT:Hid (putT Kt v t p s=if Rs.sE v.ring (hd v p) s=0 then Rd.writeS t p (Rs.sV Kt v.ring (hd v p) s) else t):=rfl
 rw[hPE,hPV]
 have HSZ:Hid (Rs.sE v.ring (hd v p) s=0→(Rs.sV Kt v.ring (hd v p) s).size=256):=fun h0=>(Rs.open_seal Kt v.ring (hd v p) hf s h0).1
 have HW:Hid (∀ W v' B,Qlt W P v' t→Calls Tryz.prog 74 #[pt P.r,.int .u32 (p:Int),.string B] W fun e w'=>e=.returned (.int .i64 (Rd.writeE t p B))∧Rd.Rf w' P.r P.x (Rd.writeS t p B)∧But (Rd.Rv P.r P.x) W w'):=fun W v' B h=>Rd.rwrite_any P.r P.x t p hp B W h.dev HK.out
 obtain⟨VN,hVN⟩:∃ VN,putN v p s=VN:=⟨_,rfl⟩
 obtain⟨TN,hTN⟩:∃ TN,putT Kt v t p s=TN:=⟨_,rfl⟩
 rw[hVN] at HPN ⊢
 rw[hTN] at HPT ⊢
 obtain⟨SE,hSE⟩:∃ SE,Rs.sE v.ring (hd v p) s=SE:=⟨_,rfl⟩
 obtain⟨SV,hSV⟩:∃ SV,Rs.sV Kt v.ring (hd v p) s=SV:=⟨_,rfl⟩
 rw[hSE] at HPE HPN HPT HSZ
 rw[hSV] at HPE HPT HPV HSZ
 simp only[hd] at hSE hSV
 rw[hSE,hSV] at HS
 have hw1:IntKind.u64.wrap ((v.seals:Int)+1)=(v.seals:Int)+1:=IntWalk.u64_in _ ⟨by omega,by omega⟩
 have hv6:=q6_of h1
 rw[ho,hcap] at hv6
 have HL:Hid (P.q<w.heap.size):=hv.lt.1
 obtain⟨sl,hsl⟩:∃ sl,(v.seals:Int)=sl:=⟨_,rfl⟩
 obtain⟨rl,hrl⟩:∃ rl,v.ring.length=rl:=⟨_,rfl⟩
 rw[hsl] at hw1
 rw[hsl,hrl] at HS hv6
 obtain⟨gn,hgn⟩:∃ gn,v.gen=gn:=⟨_,rfl⟩
 obtain⟨bt,hbt⟩:∃ bt,v.boot=bt:=⟨_,rfl⟩
 rw[hgn,hbt] at HS hv6
 have HRL:Hid ((v.seals:Int)=sl∧v.ring.length=rl∧v.gen=gn∧v.boot=bt):=⟨hsl,hrl,hgn,hbt⟩
 have HSW0:Hid (V6 P.q (pt P.r) (.slice o rl cap) (.int .u32 gn) (.int .u32 bt) (.int .u64 sl) (.slice (some ⟨P.tb,0,none⟩) n n) w):=hv6
 clear hn ho hcap hv6 hsl hrl hgn hbt hVN hTN hSE hSV hPE hPV h1 h2 hv hk hT hf hs
 go_enter Tryz.func50,Tryz.ntmps50
 go_wp2_with fail
 refine wp_region_held (S:=V6 P.q (pt P.r) (.slice o rl cap) (.int .u32 gn) (.int .u32 bt) (.int .u64 sl) (.slice (some ⟨P.tb,0,none⟩) n n)) (by kernel_rfl) ?_
 change wpAnyH _ _ _ _ _ _ _ _ (World.drew _)
 have HSW:Hid (V6 P.q (pt P.r) (.slice o rl cap) (.int .u32 gn) (.int .u32 bt) (.int .u64 sl) (.slice (some ⟨P.tb,0,none⟩) n n) w.drew):=HSW0.out
 refine plan [0,1,2,3,4,5,6,7,8,9,10,11,12,13,14,15,16,17,18] ?_
 iterate 19
  refine tkH (v:=?_) rfl (by kernel_rfl) (fun _ _ _ h=>h) (by kernel_rfl) ?_ HSW.out ?_
  rotate_left
  ·rintro w ⟨e0,e1,e2,e3,e4,e5⟩;go_simp;try with_reducible rfl
  conv in(Act.put _ _ _)=>simp only[List.getElem_toArray,List.getElem_cons_succ,List.getElem_cons_zero,Act.put,List.setIfInBounds_toArray,List.set_cons_succ,List.set_cons_zero]
 refine plan0 ?_
 refine readyH 19 _ (by kernel_rfl) rfl (by kernel_rfl) (fun K hK=>?_)
 go_simp
 refine Calls.mono (HS.out _ (HS1.out.2.below (Below.refl _ w).drew (Nat.le_refl _)) (HTB.out.below (Below.refl _ w).drew (Nat.le_refl _))) ?_
 rintro e w2 ⟨rfl,b2⟩
 replace b2:Below w.heap.size w w2:=(Below.refl _ w).drew.trans b2
 have HV2:Hid (Qlt w2 P v t):=HV.out.below b2 (Nat.le_refl _)
 have HB2:Hid (But P.has w w2):=But.of_below b2
 have HS2:Hid (w2.heap[P.q]? =some (.cells (qc P v n) 43 (0,0))):=(b2.block _ HL.out).trans HS1.out.1
 clear HSW HSW0
 have HSW:Hid (V6 P.q (pt P.r) (.slice o rl cap) (.int .u32 gn) (.int .u32 bt) (.int .u64 sl) (.slice (some ⟨P.tb,0,none⟩) n n) w2):=by
  have:=q6_of HS2.out
  rw[HRL.out.1,HRL.out.2.1,HRL.out.2.2.1,HRL.out.2.2.2,HOC.out.1,HOC.out.2] at this
  exact this
 clear b2 HS1 HV HTB HS
 refine hK _ _ HSW.out ?_
 clear hK K
 refine plan [20,21,22,23,24] ?_
 iterate 5
  refine tkH (v:=?_) rfl (by kernel_rfl) (fun _ _ _ h=>h) (by kernel_rfl) ?_ HSW.out ?_
  rotate_left
  ·rintro w ⟨e0,e1,e2,e3,e4,e5⟩;go_simp;try with_reducible rfl
  conv in(Act.put _ _ _)=>simp only[List.getElem_toArray,List.getElem_cons_succ,List.getElem_cons_zero,Act.put,List.setIfInBounds_toArray,List.set_cons_succ,List.set_cons_zero]
 refine plan0 ?_
 refine wpAnyH_done (by kernel_rfl) ?_ _
 by_cases hE:SE=0
 ·subst hE
  have HPE2:Hid (PE=Rd.writeE t p SV):=by rw[HPE.out];exact(if_pos rfl:(if(0:Int)=0 then _ else _)=_)
  have HPN2:Hid (VN={ v with seals:=v.seals+1 }):=by rw[HPN.out];exact(if_pos rfl:(if(0:Int)=0 then _ else _)=_)
  have HPT2:Hid (TN=Rd.writeS t p SV):=by rw[HPT.out];exact(if_pos rfl:(if(0:Int)=0 then _ else _)=_)
  have hz:SV.size=256:=HSZ.out rfl
  have hz4:¬SV.size<224:=by omega
  have hz5:(224:Int)≤(SV.size:Int):=by omega
  have HTg:Hid (Rs.tagS SV=SV.extract 224 256):=by
   refine(?_:Rs.tagS SV=SV.extract 224 256)
   unfold Rs.tagS;rw[hz]
  obtain⟨e0,-,-,-,e4,-⟩:=HSW.out
  have z4:w2.frozen? ⟨P.q,4,none⟩=false:=frozen_of_row w2 _ _ _ _ HS2.out
  have hst:=HV2.out.set 4 (.int .u64 (sl+1)) { v with seals:=v.seals+1 } (by rw[←HRL.out.1];rfl) rfl rfl
  obtain⟨W3,hW3⟩:∃ W3,w2.setCell ⟨P.q,4,none⟩ (.int .u64 (sl+1))=W3:=⟨_,rfl⟩
  rw[hW3] at hst
  have HW3:Hid _:=hW3
  have HV3:Hid (Qlt W3 P { v with seals:=v.seals+1 } t):=hst.1
  have HB3:Hid (But P.has w W3):=HB2.out.trans hst.2
  obtain⟨⟨f0,-⟩,-⟩:=hst.1.cells
  have m0:=HV2.out.lt.1
  clear hW3 hst HPE HPN HPT HSZ HSW HS2 HB2 HV2
  go_wp2_with (first|(rw[HW3.out];clear HW3))
  refine Calls.mono (HW.out W3 _ SV HV3.out) ?_
  rintro e w4 ⟨rfl,hd4,b4⟩
  have hst4:=HV3.out.dev_step hd4 b4 (Rd.write_n _ _ _)
  have HV4:Hid (Qlt w4 P VN TN):=by rw[HPN2.out,HPT2.out];exact(hst4.1:Qlt w4 P { v with seals:=v.seals+1 } (Rd.writeS t p SV))
  have HB4:Hid (But P.has w w4):=HB3.out.trans hst4.2
  rw[←HPE2.out]
  clear hd4 b4 hst4 HW HPE2 HPN2 HPT2 HB3 HV3 f0 e0 e4 z4
  by_cases h0:PE=0
  ·subst h0
   have HPV2:Hid (PV=Rs.tagS SV):=by rw[HPV.out];exact(if_pos rfl:(if(0:Int)=0 then _ else _)=_)
   clear HPV
   go_wp2_with fail
   go_ret2
   exact⟨by rw[HPV2.out,HTg.out];rfl,HV4.out,HB4.out⟩
  ·have hE1:decide (PE=0)=false:=decide_eq_false h0
   have hE2:(PE==0)=false:=by simpa using h0
   have hE3:(PE !=0)=true:=by simpa using h0
   have HPV2:Hid (PV=⟨#[]⟩):=by rw[HPV.out];exact(if_neg h0:(if PE=0 then _ else _)=_)
   clear HPV h0
   go_wp2_with fail
   go_ret2
   exact⟨by rw[HPV2.out];rfl,HV4.out,HB4.out⟩
 ·have hE1:decide (SE=0)=false:=decide_eq_false hE
  have hE2:(SE==0)=false:=by simpa using hE
  have hE3:(SE !=0)=true:=by simpa using hE
  have HPE2:Hid (PE=SE):=by rw[HPE.out];exact(if_neg hE:(if SE=0 then _ else _)=_)
  have HPN2:Hid (VN=v):=by rw[HPN.out];exact(if_neg hE:(if SE=0 then _ else _)=_)
  have HPT2:Hid (TN=t):=by rw[HPT.out];exact(if_neg hE:(if SE=0 then _ else _)=_)
  have HPV2:Hid (PV=⟨#[]⟩):=by rw[HPV.out,HPE2.out];exact(if_neg hE:(if SE=0 then _ else _)=_)
  clear HPE HPN HPT HPV HSZ HSW HS2 hE
  go_wp2_with fail
  go_ret2
  exact⟨by rw[HPV2.out,HPE2.out];rfl,by rw[HPN2.out,HPT2.out];exact HV2.out,HB2.out⟩
theorem zrightRef_any (p:Nat) (s:ByteArray) (w:World):
  Calls Tryz.prog 52 #[rf p s] w fun e w'=>e=.returned (.bool (rref p s))∧Below w.heap.size w w':=by
 have hb:=below_new w (.cells #[.int .u32 (p:Int),.string s] 48)
 have hg:FB w.heap.size (p:Int) s (w.alloc (.cells #[.int .u32 (p:Int),.string s] 48)):=heap_alloc_new w _
 obtain⟨W0,hW0⟩:∃ W0,w.alloc (.cells #[.int .u32 (p:Int),.string s] 48)=W0:=⟨_,rfl⟩
 rw[hW0] at hb hg
 have HW0:Hid _:=hW0
 have HB0:Hid (Below w.heap.size w W0):=hb
 obtain⟨-,-,f0,f1⟩:=hg.facts
 unfold rref
 clear hb hg hW0
 go_enter Tryz.func52,Tryz.ntmps52
 by_cases h2:2≤p
 ·have i2:(2:Int)≤(p:Int):=by omega
  have i3:decide ((2:Int)≤(p:Int))=true:=decide_eq_true i2
  have i4:((s.size:Int)==32)=decide (s.size=32):=by
   by_cases e:s.size=32
   ·rw[e];rfl
   ·rw[decide_eq_false e,beq_eq_false_iff_ne];omega
  rw[decide_eq_true h2]
  generalize decide (s.size=32)=b at*
  go_wp2_with (first|(rw[HW0.out];clear HW0))
  go_ret
  exact⟨by simp,HB0.out⟩
 ·have i3:decide ((2:Int)≤(p:Int))=false:=decide_eq_false (by omega)
  have i2:¬(2:Int)≤(p:Int):=by omega
  rw[decide_eq_false h2]
  go_wp2_with (first|(rw[HW0.out];clear HW0))
  go_ret
  exact⟨rfl,HB0.out⟩
theorem wsuper_fit (Kt:Nat→Int) (P:Qp) (v:Vs) (t:St) (p:Nat) (s:ByteArray) (w:World) (hv:Qlt w P v t) (hk:Ok t) (hT:Rs.Tr Kt w) (hf:p<2→Rs.fits (hd v p)) (hs:v.seals+1<18446744073709551616) (hz:s.size≤198):
  Calls Tryz.prog 24 #[pt P.q,.int .u32 (p:Int),.string s] w fun e w'=>e=.returned (.tuple #[.string (supV Kt v t p s),.int .i64 (supE Kt v t p s)])∧Qlt w' P (supN v p s) (supT Kt v t p s)∧But P.has w w':=by
 unfold supE supV supN supT
 by_cases h2:p<2
 ·have HP:Hid (∀ _:True,_):=fun _=>wseals_any Kt P v t p (by omega) s w hv hk hT (hf h2) hs
  rw[if_pos h2,if_pos h2,if_pos h2,if_pos h2]
  have q1:¬(1:Int)<(p:Int):=by omega
  have q2:decide ((1:Int)<(p:Int))=false:=decide_eq_false q1
  have q3:¬(198:Int)<(s.size:Int):=by omega
  have q4:decide ((198:Int)<(s.size:Int))=false:=decide_eq_false q3
  generalize putE Kt v t p s=PE at*
  generalize putV Kt v t p s=PV at*
  generalize putN v p s=VN at*
  generalize putT Kt v t p s=TN at*
  clear hv hk hT hf hs hz
  go_enter Tryz.func24,Tryz.ntmps24
  go_wp2_with fail
  refine Calls.mono (HP.out trivial) ?_
  rintro e w2 ⟨rfl,hv2,b2⟩
  have HV2:Hid (Qlt w2 P VN TN∧But P.has w w2):=⟨hv2,b2⟩
  clear hv2 b2 HP
  go_wp2_with fail
  go_ret2
  exact⟨rfl,HV2.out.1,HV2.out.2⟩
 ·rw[if_neg h2,if_neg h2,if_neg h2,if_neg h2]
  have HV:Hid (Qlt w P v t):=hv
  have q1:(1:Int)<(p:Int):=by omega
  have q2:decide ((1:Int)<(p:Int))=true:=decide_eq_true q1
  clear hv hk hT hf hs hz
  go_enter Tryz.func24,Tryz.ntmps24
  go_wp2_with fail
  go_ret2
  exact⟨rfl,HV.out,But.refl _ _⟩
theorem wsuper_long (q p:Nat) (s:ByteArray) (w:World) (h2:p<2) (hz:198<s.size):
  Calls Tryz.prog 24 #[pt q,.int .u32 (p:Int),.string s] w fun e w'=>e=.returned (.tuple #[.string ⟨#[]⟩,.int .i64 50])∧w'=w:=by
 have q1:¬(1:Int)<(p:Int):=by omega
 have q2:decide ((1:Int)<(p:Int))=false:=decide_eq_false q1
 have q3:(198:Int)<(s.size:Int):=by omega
 have q4:decide ((198:Int)<(s.size:Int))=true:=decide_eq_true q3
 clear h2 hz
 go_enter Tryz.func24,Tryz.ntmps24
 go_wp2_with fail
 go_ret2
 exact⟨rfl,rfl⟩
theorem wnew_full (r:Nat) (x:Rd.Rp) (s:St) (l:List Rk.Ky) (g boot:Int) (o:Option Addr) (cap:Nat) (w:World) (hd:Rd.Rf w r x s) (hk:Ok s) (hr:Rk.Ring w o cap l) (h0:Rk.feS l g=0) (hn:∀ b off,o=some ⟨b,off,none⟩→l≠[]→¬Rd.Rv r x b):
  Calls Tryz.prog 20 #[pt r,.slice o l.length cap,.int .u32 g,.int .u32 boot] w fun e w'=>∃ q tb,e=.returned (.tuple #[pt q,.int .i64 0])∧w.heap.size≤q∧w.heap.size≤tb∧Qlt w' ⟨q,tb,r,x,o,cap⟩ (newV l g boot) s∧Below w.heap.size w w':=by
 have HDv:Hid (Rd.Rf w r x s):=hd
 have HRg:Hid (Rk.Ring w o cap l):=hr
 have HNo:Hid (∀ b off,o=some ⟨b,off,none⟩→l≠[]→¬Rd.Rv r x b):=hn
 have HF:Hid (∀ _:True,_):=fun _=>Rk.refFind_any l g o cap w hr
 rw[h0] at HF
 obtain⟨⟨ka,kb⟩,hkk⟩:∃ k,Rk.fkS l g=k:=⟨_,rfl⟩
 rw[hkk] at HF
 simp only[Rk.kv] at HF
 have n0:=hk.n0
 have n1:=hk.n1
 obtain⟨n,hsn⟩:∃ n,s.n=n:=⟨_,rfl⟩
 rw[hsn] at n0 n1
 have HSN:Hid (s.n=n):=hsn
 have hc0:∀ W,Below w.heap.size w W→W.cell? ⟨r,0,none⟩=some (.slice (some ⟨x.l,0,none⟩) n x.lc)∧r<W.heap.size:=fun W hW=>by
  have:=(hd.below hW (Nat.le_refl _)).self
  refine⟨?_,hlt this⟩
  rw[cell_of_row _ _ _ _ _ _ this,←hsn];rfl
 have HC0:Hid (∀ W,Below w.heap.size w W→W.cell? ⟨r,0,none⟩=some (.slice (some ⟨x.l,0,none⟩) n x.lc)∧r<W.heap.size):=hc0
 clear hd hk hr h0 hkk hn hsn hc0
 go_enter Tryz.func20,Tryz.ntmps20
 go_wp2_with fail
 refine Calls.mono (HF.out trivial) ?_
 rintro e w2 ⟨rfl,b2⟩
 have b3:=below_new w2 (.cells #[.int .u32 ka,.string kb] 100)
 obtain⟨W3,hW3⟩:∃ W3,w2.alloc (.cells #[.int .u32 ka,.string kb] 100)=W3:=⟨_,rfl⟩
 rw[hW3] at b3
 have HW3:Hid _:=hW3
 have HB3:Hid (Below w.heap.size w W3):=b2.trans (b3.mono b2.size)
 obtain⟨c0,lr⟩:=HC0.out W3 HB3.out
 have hmk:=run_make_row' (P:=Tryz.prog) 41 4 (.bool false) 1 Tryz.underlying41 Rd.info4 rfl .i64 .i64 n (by omega) (by omega) W3
 have b4:=below_new W3 (.cells (madeCells #[.bool false] n) 4)
 have g4:=heap_alloc_new W3 (.cells (madeCells #[.bool false] n) 4)
 have b5:=below_new (W3.alloc (.cells (madeCells #[.bool false] n) 4)) (.cells #[pt r,.slice o l.length cap,.int .u32 g,.int .u32 boot,.int .u64 0,.slice (some ⟨W3.heap.size,0,none⟩) n n] 43)
 have g5:=heap_alloc_new (W3.alloc (.cells (madeCells #[.bool false] n) 4)) (.cells #[pt r,.slice o l.length cap,.int .u32 g,.int .u32 boot,.int .u64 0,.slice (some ⟨W3.heap.size,0,none⟩) n n] 43)
 have s4:(W3.alloc (.cells (madeCells #[.bool false] n) 4)).heap.size=W3.heap.size+1:=by simp
 obtain⟨W5,hW5⟩:∃ W5,(W3.alloc (.cells (madeCells #[.bool false] n) 4)).alloc (.cells #[pt r,.slice o l.length cap,.int .u32 g,.int .u32 boot,.int .u64 0,.slice (some ⟨W3.heap.size,0,none⟩) n n] 43)=W5:=⟨_,rfl⟩
 rw[hW5] at b5 g5
 rw[s4] at g5
 have HW5:Hid _:=hW5
 have g6:W5.heap[W3.heap.size]? =some (.cells (madeCells #[.bool false] n) 4 (0,0)):=(b5.block _ (by omega)).trans g4
 have hm0:(madeCells #[.bool false] n)[0]? =some (Value.bool false):=by
  have h9:0<n:=by omega
  simp[madeCells,h9,Nat.mod_one]
 have hm1:(madeCells #[.bool false] n)[1]? =some (Value.bool false):=by
  have h9:1<n:=by omega
  simp[madeCells,h9,Nat.mod_one]
 have f0:W5.cell? ⟨W3.heap.size,0,none⟩=some (.bool false):=by rw[cell_of_row _ _ _ _ _ _ g6,hm0]
 have z0:W5.frozen? ⟨W3.heap.size,0,none⟩=false:=frozen_of_row _ _ _ _ _ g6
 have e5:W5.cell? ⟨W3.heap.size+1,5,none⟩=some (.slice (some ⟨W3.heap.size,0,none⟩) n n):=by rw[cell_of_row _ _ _ _ _ _ g5];rfl
 have g7:=Rd.set_at W5 W3.heap.size 0 _ _ _ (.bool true) g6
 have o7:∀ k,k≠W3.heap.size→(W5.setCell ⟨W3.heap.size,0,none⟩ (.bool true)).heap[k]? =W5.heap[k]? :=fun k hk=>Below.heap_setCell _ _ _ _ fun e=>hk e
 have hb7:Below w.heap.size w (W5.setCell ⟨W3.heap.size,0,none⟩ (.bool true)):=(HB3.out.trans ((b4.trans (b5.mono (by omega))).mono HB3.out.size)).trans ⟨rfl,rfl,rfl,by simp[World.setCell],fun k hk=>o7 k (by have:=HB3.out.size;omega)⟩
 obtain⟨W6,hW6⟩:∃ W6,W5.setCell ⟨W3.heap.size,0,none⟩ (.bool true)=W6:=⟨_,rfl⟩
 rw[hW6] at g7 o7 hb7
 have HW6:Hid _:=hW6
 have f1:W6.cell? ⟨W3.heap.size,1,none⟩=some (.bool false):=by
  rw[cell_of_row _ _ _ _ _ _ g7,Array.getElem?_setIfInBounds,if_neg (by decide),hm1]
 have z1:W6.frozen? ⟨W3.heap.size,1,none⟩=false:=frozen_of_row _ _ _ _ _ g7
 have e6:W6.cell? ⟨W3.heap.size+1,5,none⟩=some (.slice (some ⟨W3.heap.size,0,none⟩) n n):=by rw[cell_of_row _ _ _ _ _ _ ((o7 _ (by omega)).trans g5)];rfl
 have l5:W3.heap.size+1<W5.heap.size:=hlt g5
 have l6:W3.heap.size+1<W6.heap.size:=hlt ((o7 _ (by omega)).trans g5)
 have HB8:Hid (Below w.heap.size w (W6.setCell ⟨W3.heap.size,1,none⟩ (.bool true))):=hb7.trans ⟨rfl,rfl,rfl,by simp[World.setCell],fun k hk=>Below.heap_setCell _ _ _ _ fun e=>by have e':k=W3.heap.size:=e;have:=HB3.out.size;omega⟩
 have HQ:Hid (Qlt (W6.setCell ⟨W3.heap.size,1,none⟩ (.bool true)) ⟨W3.heap.size+1,W3.heap.size,r,x,o,cap⟩ (newV l g boot) s):=by
  refine(?_:Qlt (W6.setCell ⟨W3.heap.size,1,none⟩ (.bool true)) ⟨W3.heap.size+1,W3.heap.size,r,x,o,cap⟩ (newV l g boot) s)
  have g8:=Rd.set_at W6 W3.heap.size 1 _ _ _ (.bool true) g7
  have o8:∀ k,k≠W3.heap.size→(W6.setCell ⟨W3.heap.size,1,none⟩ (.bool true)).heap[k]? =W6.heap[k]? :=fun k hk=>Below.heap_setCell _ _ _ _ fun e=>hk e
  have s3:=HB3.out.size
  refine⟨?_,HRg.out.below HB8.out (Nat.le_refl _),fun b off e hl hb=>?_,⟨_,g8,?_,fun i hi=>?_⟩,HDv.out.below HB8.out (Nat.le_refl _),?_,fun hh=>?_,fun hh=>?_⟩
  ·refine(o8 _ (by show W3.heap.size+1≠_;omega)).trans ((o7 _ (by show W3.heap.size+1≠_;omega)).trans ?_)
   show W5.heap[W3.heap.size+1]? =_
   rw[g5]
   unfold qc
   rw[HSN.out]
   rfl
  ·obtain⟨b',off',e',hlt',-⟩:=HRg.out.2.2.2 hl
   have e3:o=some ⟨b,off,none⟩:=e
   have e4:o=some ⟨b',off',none⟩:=e'
   rw[e3] at e4
   injection e4 with e4
   have e2:b=b':=congrArg Addr.block e4
   rcases hb with hb|hb|hb
   ·have hb':b=W3.heap.size+1:=hb
    omega
   ·have hb':b=W3.heap.size:=hb
    omega
   ·exact HNo.out b off e hl hb
  ·rw[HSN.out];simp[madeCells]
  ·rw[HSN.out] at hi
   rw[Array.getElem?_setIfInBounds,Array.getElem?_setIfInBounds]
   by_cases h1:i=1
   ·subst h1;simp[madeCells,hi];rfl
   ·by_cases h0:i=0
    ·subst h0;simp[madeCells,hi];rfl
    ·rw[if_neg (fun e=>h1 e.symm),if_neg (fun e=>h0 e.symm)]
     have:((newV l g boot).tk i).isSome=false:=by rw[(newV_is l g boot).2.2.2.2.2 i];exact decide_eq_false (by omega)
     show _=some (Value.bool ((newV l g boot).tk i).isSome)
     rw[this]
     simp[madeCells,hi,Nat.mod_one]
  ·show W3.heap.size+1≠W3.heap.size
   omega
  ·have:=HDv.out.own hh
   have h9:W3.heap.size+1<w.heap.size:=this
   omega
  ·have:=HDv.out.own hh
   have h9:W3.heap.size<w.heap.size:=this
   omega
 have i0:(0:Int)<(n:Int):=by omega
 have i1:(1:Int)<(n:Int):=by omega
 clear b2 b3 HF hW3 b4 b5 g4 g5 g6 g7 o7 hb7 hW5 hW6 hm0 hm1 s4
 go_wp2_with (first|(rw[HW3.out];clear HW3)|(rw[HW5.out];clear HW5)|(rw[HW6.out];clear HW6))
 go_ret2
 exact⟨W3.heap.size+1,W3.heap.size,rfl,Nat.le_succ_of_le HB3.out.size,HB3.out.size,HQ.out,HB8.out⟩
theorem Qlt.above {w W W':World} {P:Qp} {v v':Vs} {t t':St} (hw:Qlt w P v t) (h:Qlt W P v' t') (hr:v'.ring=v.ring) (hb:Below w.heap.size W W'):Qlt W' P v' t':=by
 have hl:=hw.lt
 refine⟨(hb.block _ hl.1).trans h.self,?_,h.rb,h.tk.same (hb.block _ hl.2),h.dev.same fun k hk=>hb.block k (hw.dev.own hk),h.qt,h.qr,h.tr⟩
 refine⟨h.ring.1,h.ring.2.1,h.ring.2.2.1,fun hne=>?_⟩
 obtain⟨b,off,e,hlt,h4⟩:=h.ring.2.2.2 hne
 obtain⟨b',off',e',hlt',-⟩:=hw.ring.2.2.2 (by rw[←hr];exact hne)
 have e4:some (⟨b,off,none⟩:Addr)=some ⟨b',off',none⟩:=e.symm.trans e'
 injection e4 with e4
 have e2:b=b':=congrArg Addr.block e4
 exact⟨b,off,e,Nat.lt_of_lt_of_le hlt hb.size,fun i hi=>(h4 i hi).same (hb.block b (by omega))⟩
theorem putT_n (Kt:Nat→Int) (v:Vs) (t:St) (p:Nat) (s:ByteArray):(putT Kt v t p s).n=t.n:=by
 unfold putT
 split
 ·exact Rd.write_n _ _ _
 ·rfl
def wrPost (Kt:Nat→Int) (P:Qp) (v:Vs) (t:St) (s:ByteArray) (w:World) (e:Ending) (w':World):Prop:=
 (∃ p,p<t.n∧leastS v.tk t.n=some p∧((putE Kt v t p s=0∧e=.returned (.tuple #[rf p (putV Kt v t p s),.int .i64 0])∧Qlt w' P (take (putN v p s) p) (putT Kt v t p s))∨(putE Kt v t p s≠0∧e=.returned (.tuple #[rf 0 ⟨#[]⟩,.int .i64 (putE Kt v t p s)])∧Qlt w' P (putN v p s) (putT Kt v t p s)))∧But P.has w w')
 ∨(leastS v.tk t.n=none∧e=.returned (.tuple #[rf 0 ⟨#[]⟩,.int .i64 110])∧Below w.heap.size w w')
theorem hlt' {g:Nat} {a:Int} {s:ByteArray} {W:World} (h:FB g a s W):g<W.heap.size:=hlt h
theorem wwrite_any (Kt:Nat→Int) (P:Qp) (v:Vs) (t:St) (s:ByteArray) (hs:s.size≤198) (w:World) (hv:Qlt w P v t) (hk:Ok t) (hT:Rs.Tr Kt w) (h2:cf v.tk 2=0) (hf:∀ p,p<t.n→Rs.fits (hd v p)) (hsl:v.seals+1<18446744073709551616):
  Calls Tryz.prog 22 #[pt P.q,.string s] w (wrPost Kt P v t s w):=by
 have hb:=below_new w (.cells #[.int .u32 0,.string ⟨#[]⟩] 48)
 have hg:=fb_new w
 obtain⟨W0,hW0⟩:∃ W0,w.alloc (.cells #[.int .u32 0,.string ⟨#[]⟩] 48)=W0:=⟨_,rfl⟩
 rw[hW0] at hb hg
 have HW0:Hid _:=hW0
 have HB0:Hid (Below w.heap.size w W0):=hb
 have HF0:Hid (FB w.heap.size 0 ⟨#[]⟩ W0):=hg
 have q1:¬(198:Int)<(s.size:Int):=by omega
 have HTB:Hid (Rs.Tr Kt w):=hT
 have n0:=hk.n0
 have n1:=hk.n1
 have H2:Hid (cf v.tk 2=0):=h2
 have HU:Hid (∀ p,p<t.n→∀ W,Qlt W P v t→Rs.Tr Kt W→Calls Tryz.prog 50 #[pt P.q,.int .u32 (p:Int),.string s] W fun e w'=>e=.returned (.tuple #[.string (putV Kt v t p s),.int .i64 (putE Kt v t p s)])∧Qlt w' P (putN v p s) (putT Kt v t p s)∧But P.has W w'):=fun p hp W a b=>wseals_any Kt P v t p (by omega) s W a hk b (hf p hp) hsl
 have HLT:Hid (∀ k,P.has k→k<w.heap.size):=fun k hk=>hv.has_lt hk
 have HVw:Hid (Qlt w P v t):=hv
 have HRN:Hid (∀ p,(putN v p s).ring=v.ring):=fun p=>by unfold putN;split<;>exact rfl
 have HTN:Hid (∀ p,(putT Kt v t p s).n=t.n):=fun p=>putT_n Kt v t p s
 obtain⟨PST,hPST⟩:∃ PST,wrPost Kt P v t s w=PST:=⟨_,rfl⟩
 rw[hPST]
 have HPS:Hid (∀ e w',wrPost Kt P v t s w e w'→PST e w'):=fun e w' h=>by rw[←hPST];exact h
 clear hb hg hW0 hv hk hs hT hf hsl h2 hPST
 go_enter Tryz.func22,Tryz.ntmps22
 go_wp2_with (first|(rw[HW0.out];clear HW0))
 go_loopw [6] (fun iv wr=>∃ k:Nat,iv=.int .i64 (k:Int)∧2≤k∧k≤t.n∧cf v.tk k=0∧FB w.heap.size 0 ⟨#[]⟩ wr∧Below w.heap.size w wr) (fun iv _=>t.n - natOf iv)
 case atStart=>exact⟨2,rfl,by omega,by omega,H2.out,HF0.out,HB0.out⟩
 case round=>
  obtain⟨k,rfl,hk2,hkn,hc,hfb,hbl⟩:=hrel
  have hq:=HVw.out.below hbl (Nat.le_refl _)
  obtain⟨⟨-,-,-,-,-,c5⟩,-⟩:=hq.cells
  have lg:=hq.lt.1
  have HBl:Hid (Below w.heap.size w wr):=hbl
  have HFb:Hid (FB w.heap.size 0 ⟨#[]⟩ wr):=hfb
  have HC:Hid (cf v.tk k=0):=hc
  have HQ:Hid (Qlt wr P v t):=hq
  clear hbl hfb hc
  by_cases hlt:k<t.n
  ·have q2:(k:Int)<(t.n:Int):=by omega
   have q0:(0:Int)≤(k:Int):=by omega
   obtain⟨e0,y0⟩:=hq.tk.cell k hlt
   have lt':=hq.lt.2
   have HS:Hid _:=cf_succ v.tk k
   clear hq
   cases hp:(v.tk k).isSome with
   |true=>
    have e0':wr.cell? ⟨P.tb,k,none⟩=some (.bool true):=by rw[e0,hp]
    have HP:Hid _:=hp
    clear e0 hp
    go_wp2_with fail
    go_roundw
    case rel=>exact⟨k+1,by go_num,by omega,by omega,by rw[HS.out,HP.out,HC.out];rfl,HFb.out,HBl.out⟩
    case measure=>simp[natOf];omega
   |false=>
    have e0':wr.cell? ⟨P.tb,k,none⟩=some (.bool false):=by rw[e0,hp]
    have HLs:Hid (leastS v.tk t.n=some k):=least_some hlt hp HC.out
    have m1:IntKind.u32.wrap (k:Int)=(k:Int):=IntWalk.u32_in _ ⟨by omega,by omega⟩
    clear e0 hp HS HC
    go_wp2_with fail
    refine Calls.mono (HU.out k hlt _ HQ.out (HTB.out.below HBl.out (Nat.le_refl _))) ?_
    rintro e w3 ⟨rfl,hv3,b3⟩
    have HB3:Hid (But P.has w w3):=but_below HBl.out b3
    have HF3:Hid (FB w.heap.size 0 ⟨#[]⟩ w3):=HFb.out.but b3 fun e=>by have:=HLT.out _ e;omega
    have HPS2:Hid (∀ e w',((putE Kt v t k s=0∧e=.returned (.tuple #[rf k (putV Kt v t k s),.int .i64 0])∧Qlt w' P (take (putN v k s) k) (putT Kt v t k s))∨(putE Kt v t k s≠0∧e=.returned (.tuple #[rf 0 ⟨#[]⟩,.int .i64 (putE Kt v t k s)])∧Qlt w' P (putN v k s) (putT Kt v t k s)))→But P.has w w'→PST e w'):=fun e w' a b=>HPS.out e w' (.inl ⟨k,hlt,HLs.out,a,b⟩)
    have HRk:Hid _:=HRN.out k
    have HTk:Hid _:=HTN.out k
    generalize putV Kt v t k s=PV at*
    generalize putE Kt v t k s=PE at*
    generalize putN v k s=VN at*
    generalize putT Kt v t k s=TN at*
    have HV3:Hid (Qlt w3 P VN TN):=hv3
    clear hv3 b3 HU HQ HFb HBl HPS HRN HTN c5 e0' y0 lg lt'
    by_cases h0:PE=0
    ·subst h0
     obtain⟨⟨-,-,-,-,-,c5⟩,-⟩:=HV3.out.cells
     rw[HTk.out] at c5
     obtain⟨e0,y0⟩:=HV3.out.tk.cell k (by rw[HTk.out];exact hlt)
     have lg:=HV3.out.lt.1
     have lt':=HV3.out.lt.2
     have hst4:=HV3.out.mark (v':=take VN k) k (by rw[HTk.out];exact hlt) true rfl rfl fun i _=>by
      show(tput VN.tk k (some ()) i).isSome=Rd.at' _ _ _ _
      unfold tput Rd.at'
      split<;>rfl
     obtain⟨W4,hW4⟩:∃ W4,w3.setCell ⟨P.tb,k,none⟩ (.bool true)=W4:=⟨_,rfl⟩
     rw[hW4] at hst4
     have HW4:Hid _:=hW4
     have HV4:Hid (Qlt W4 P (take VN k) TN):=hst4.1
     have HB4:Hid (But P.has w W4):=HB3.out.trans hst4.2
     have HF4:Hid (FB w.heap.size 0 ⟨#[]⟩ W4):=HF3.out.but hst4.2 fun e=>by have:=HLT.out _ e;omega
     have hstW5:=HF4.out.set (k:Int) PV
     obtain⟨z0,z1,f0,f1⟩:=HF4.out.facts
     have z1':(W4.setCell ⟨w.heap.size,0,none⟩ (.int .u32 (k:Int))).frozen? ⟨w.heap.size,1,none⟩=false:=frozen_of_row _ _ _ _ _ (heap_setCell_same W4 w.heap.size 0 _ _ (.int .u32 (k:Int)) HF4.out)
     have m0:=hlt' HF4.out
     obtain⟨W5,hW5⟩:∃ W5,(W4.setCell ⟨w.heap.size,0,none⟩ (.int .u32 (k:Int))).setCell ⟨w.heap.size,1,none⟩ (.string PV)=W5:=⟨_,rfl⟩
     rw[hW5] at hstW5
     have HW5:Hid _:=hW5
     have HF5:Hid (FB w.heap.size (k:Int) PV W5):=hstW5.1
     have b5:=hstW5.2 w.heap.size (Nat.le_refl _)
     have HB5:Hid (But P.has w W5):=but_above HB4.out b5
     have HV5:Hid (Qlt W5 P (take VN k) TN):=by
      refine(?_:Qlt W5 P (take VN k) TN)
      exact HVw.out.above HV4.out HRk.out b5
     clear hstW5 hW5 hst4 b5 hW4
     go_wp2_with (first|(rw[HW4.out];clear HW4)|(rw[HW5.out];clear HW5))
     refine bodyPost_ret (results_refE rfl _ _ _ _ _ _ rfl rfl HF5.out) rfl ?_
     exact HPS2.out _ _ (.inl ⟨by first|rfl|trivial,rfl,HV5.out⟩) HB5.out
    ·have hE1:decide (PE=0)=false:=decide_eq_false h0
     have hE2:(PE==0)=false:=by simpa using h0
     have hE3:(PE !=0)=true:=by simpa using h0
     have hstW5:=HF3.out.set 0 ⟨#[]⟩
     obtain⟨z0,z1,f0,f1⟩:=HF3.out.facts
     have z1':(w3.setCell ⟨w.heap.size,0,none⟩ (.int .u32 0)).frozen? ⟨w.heap.size,1,none⟩=false:=frozen_of_row _ _ _ _ _ (heap_setCell_same w3 w.heap.size 0 _ _ (.int .u32 0) HF3.out)
     have m0:=hlt' HF3.out
     obtain⟨W5,hW5⟩:∃ W5,(w3.setCell ⟨w.heap.size,0,none⟩ (.int .u32 0)).setCell ⟨w.heap.size,1,none⟩ (.string ⟨#[]⟩)=W5:=⟨_,rfl⟩
     rw[hW5] at hstW5
     have HW5:Hid _:=hW5
     have HF5:Hid (FB w.heap.size 0 ⟨#[]⟩ W5):=hstW5.1
     have b5:=hstW5.2 w.heap.size (Nat.le_refl _)
     have HB5:Hid (But P.has w W5):=but_above HB3.out b5
     have HV5:Hid (Qlt W5 P VN TN):=HVw.out.above HV3.out HRk.out b5
     have HE:Hid (PE≠0):=h0
     clear hstW5 hW5 b5 h0
     go_wp2_with (first|(rw[HW5.out];clear HW5))
     refine bodyPost_ret (results_refE rfl _ _ _ _ _ _ rfl rfl HF5.out) rfl ?_
     exact HPS2.out _ _ (.inr ⟨HE.out,rfl,HV5.out⟩) HB5.out
  ·have q2:¬(k:Int)<(t.n:Int):=by omega
   have HN:Hid (leastS v.tk t.n=none):=by
    refine(?_:leastS v.tk t.n=none)
    refine least_none ?_
    have:k=t.n:=by omega
    rw[←this]
    exact HC.out
   have hstW5:=HFb.out.set 0 ⟨#[]⟩
   obtain⟨z0,z1,f0,f1⟩:=HFb.out.facts
   have z1':(wr.setCell ⟨w.heap.size,0,none⟩ (.int .u32 0)).frozen? ⟨w.heap.size,1,none⟩=false:=frozen_of_row _ _ _ _ _ (heap_setCell_same wr w.heap.size 0 _ _ (.int .u32 0) HFb.out)
   have m0:=hlt' HFb.out
   obtain⟨W5,hW5⟩:∃ W5,(wr.setCell ⟨w.heap.size,0,none⟩ (.int .u32 0)).setCell ⟨w.heap.size,1,none⟩ (.string ⟨#[]⟩)=W5:=⟨_,rfl⟩
   rw[hW5] at hstW5
   have HW5:Hid _:=hW5
   have HF5:Hid (FB w.heap.size 0 ⟨#[]⟩ W5):=hstW5.1
   have HB5:Hid (Below w.heap.size w W5):=HBl.out.trans (hstW5.2 w.heap.size (Nat.le_refl _))
   clear hstW5 hW5 hq
   go_wp2_with (first|(rw[HW5.out];clear HW5))
   refine bodyPost_ret (results_refE rfl _ _ _ _ _ _ rfl rfl HF5.out) rfl ?_
   exact HPS.out _ _ (.inr ⟨HN.out,rfl,HB5.out⟩)
theorem wwrite_pad (q:Nat) (s:ByteArray) (hs:198<s.size) (w:World):
  Calls Tryz.prog 22 #[pt q,.string s] w fun e w'=>e=.returned (.tuple #[rf 0 ⟨#[]⟩,.int .i64 50])∧Below w.heap.size w w':=by
 have hb:=below_new w (.cells #[.int .u32 0,.string ⟨#[]⟩] 48)
 have hg:=fb_new w
 obtain⟨W0,hW0⟩:∃ W0,w.alloc (.cells #[.int .u32 0,.string ⟨#[]⟩] 48)=W0:=⟨_,rfl⟩
 rw[hW0] at hb hg
 have HW0:Hid _:=hW0
 have HB0:Hid (Below w.heap.size w W0):=hb
 have HF0:Hid (FB w.heap.size 0 ⟨#[]⟩ W0):=hg
 have q1:(198:Int)<(s.size:Int):=by omega
 have hstW5:=HF0.out.set 0 ⟨#[]⟩
 obtain⟨z0,z1,f0,f1⟩:=HF0.out.facts
 have z1':(W0.setCell ⟨w.heap.size,0,none⟩ (.int .u32 0)).frozen? ⟨w.heap.size,1,none⟩=false:=frozen_of_row _ _ _ _ _ (heap_setCell_same W0 w.heap.size 0 _ _ (.int .u32 0) HF0.out)
 have m0:=hlt HF0.out
 obtain⟨W5,hW5⟩:∃ W5,(W0.setCell ⟨w.heap.size,0,none⟩ (.int .u32 0)).setCell ⟨w.heap.size,1,none⟩ (.string ⟨#[]⟩)=W5:=⟨_,rfl⟩
 rw[hW5] at hstW5
 have HW5:Hid _:=hW5
 have HF5:Hid (FB w.heap.size 0 ⟨#[]⟩ W5):=hstW5.1
 have HB5:Hid (Below w.heap.size w W5):=HB0.out.trans (hstW5.2 w.heap.size (Nat.le_refl _))
 clear hstW5 hW5 hb hg hW0 hs
 go_enter Tryz.func22,Tryz.ntmps22
 go_wp2_with (first|(rw[HW0.out];clear HW0)|(rw[HW5.out];clear HW5))
 refine bodyPost_ret (results_refE rfl _ _ _ _ _ _ rfl rfl HF5.out) rfl ?_
 exact⟨rfl,HB5.out⟩
theorem cf_put (tk:Nat→Option Unit) (p:Nat) (x:Option Unit) (n:Nat):
  cf (tput tk p x) n+(if p<n∧(tk p).isSome=false then 1 else 0)=cf tk n+(if p<n∧x.isSome=false then 1 else 0):=by
 induction n with
 |zero=>simp[cf]
 |succ n ih=>
  rw[cf_succ,cf_succ]
  by_cases h:n=p
  ·subst h
   have e:tput tk n x n=x:=by unfold tput;simp
   rw[e]
   have h1:¬(n<n):=Nat.lt_irrefl n
   simp only[h1,false_and,if_false,Nat.add_zero] at ih
   rw[ih]
   cases(tk n).isSome<;>cases x.isSome<;>simp<;>omega
  ·have e:tput tk p x n=tk n:=by unfold tput;simp[h]
   rw[e]
   have h1:(p<n+1)=(p<n):=by apply propext;omega
   simp only[h1]
   split<;>omega
theorem cf_take {v:Vs} {n p:Nat} (h:cf v.tk n+v.nt=n) (hp:p<n) (hf:(v.tk p).isSome=false):cf (take v p).tk n+(take v p).nt=n:=by
 have:=cf_put v.tk p (some ()) n
 show cf (tput v.tk p (some ())) n+(if(v.tk p).isSome=true then v.nt else v.nt+1)=n
 rw[hf]
 simp[hp,hf] at this ⊢
 omega
theorem sE_long {l:List Rk.Ky} {h:Rs.Hd} {s:ByteArray} (h0:Rk.feS l h.2.1=0) (hz:198<s.size):Rs.sE l h s=50:=by
 unfold Rs.sE
 rw[if_pos h0]
 unfold Rp.padE
 rw[if_neg (by omega)]
theorem wopen_no (P:Qp) (v:Vs) (t:St) (p:Nat) (hp:p≤4294967295) (tag:ByteArray) (w:World) (hv:Qlt w P v t) (hk:Ok t) (hE:Rd.readE t p≠0):
  Calls Tryz.prog 54 #[pt P.q,.int .u32 (p:Int),.string tag] w fun e w'=>e=.returned (.tuple #[Rs.hv Rs.zh,.string ⟨#[]⟩,.int .i64 (Rd.readE t p)])∧Below w.heap.size w w':=by
 have hb:=below_new w (.cells #[.int .u32 0,.int .u32 0,.int .u32 0,.int .u64 0] 91)
 have hg:=hb_new w
 obtain⟨W0,hW0⟩:∃ W0,w.alloc (.cells #[.int .u32 0,.int .u32 0,.int .u32 0,.int .u64 0] 91)=W0:=⟨_,rfl⟩
 rw[hW0] at hb hg
 have HW0:Hid _:=hW0
 have HB0:Hid (Below w.heap.size w W0):=hb
 have Z2:Hid (W0.heap[w.heap.size]? =some (.cells #[.int .u32 0,.int .u32 0,.int .u32 0,.int .u64 0] 91 (0,0))):=hg
 have hv0:=hv.below hb (Nat.le_refl _)
 have HRd:Hid (∀ _:True,_):=fun _=>Rd.rread_any P.r P.x t p hp W0 hv0.dev hk
 obtain⟨⟨c0,-⟩,-⟩:=hv0.cells
 have m0:=hlt hg
 have lg:P.q<W0.heap.size:=hv0.lt.1
 clear hb hg hW0 hv hv0 hk hp
 generalize Rd.readE t p=RE at*
 generalize Rd.readV t p=RV at*
 have hE1:decide (RE=0)=false:=decide_eq_false hE
 have hE2:(RE==0)=false:=by simpa using hE
 have hE3:(RE !=0)=true:=by simpa using hE
 clear hE
 go_enter Tryz.func54,Tryz.ntmps54
 go_wp2_with (first|(rw[HW0.out];clear HW0))
 refine Calls.mono (HRd.out trivial) ?_
 rintro e w2 ⟨rfl,hw2⟩
 have hw2':=hw2.symm
 clear hw2 HRd
 subst hw2'
 go_wp2_with (refine wpList_store_row rfl 91 _ _ rfl w.heap.size _ rfl rfl 91 _ Z2.out (by kernel_rfl) rfl (by simp[Value.oneCell']) ?_)
 refine bodyPost_ret (Rs.results_open rfl _ _ w.heap.size Rs.zh rfl (setRow_heap _ _ _ _ _ _ Z2.out)) rfl ?_
 exact⟨rfl,below_setRow HB0.out (Nat.le_refl _) _⟩
theorem ext24_cut (b:ByteArray) (h:b.size=256) (w:World):(Instr.sliceAt 9 (.string b) none (some (.int .i64 24)) none).run Tryz.prog w=.ok (.string (b.extract 0 24)) w:=Rs.ext256n b h 24 (by omega) w
theorem wopen_tag (P:Qp) (v:Vs) (t:St) (p:Nat) (hp:p≤4294967295) (tag:ByteArray) (w:World) (hv:Qlt w P v t) (hk:Ok t) (hE:Rd.readE t p=0) (hg:Rs.tagS (Rd.readV t p)≠tag):
  Calls Tryz.prog 54 #[pt P.q,.int .u32 (p:Int),.string tag] w fun e w'=>e=.returned (.tuple #[Rs.hv Rs.zh,.string ⟨#[]⟩,.int .i64 61])∧Below w.heap.size w w':=by
 have hb:=below_new w (.cells #[.int .u32 0,.int .u32 0,.int .u32 0,.int .u64 0] 91)
 have hg0:=hb_new w
 obtain⟨W0,hW0⟩:∃ W0,w.alloc (.cells #[.int .u32 0,.int .u32 0,.int .u32 0,.int .u64 0] 91)=W0:=⟨_,rfl⟩
 rw[hW0] at hb hg0
 have HW0:Hid _:=hW0
 have HB0:Hid (Below w.heap.size w W0):=hb
 have HH0:Hid (HB w.heap.size Rs.zh W0):=hg0
 have hv0:=hv.below hb (Nat.le_refl _)
 have HRd:Hid (∀ _:True,_):=fun _=>Rd.rread_any P.r P.x t p hp W0 hv0.dev hk
 rw[hE] at HRd
 obtain⟨⟨c0,-⟩,-⟩:=hv0.cells
 have m0:=hlt hg0
 have lg:P.q<W0.heap.size:=hv0.lt.1
 have hz:(Rd.readV t p).size=256:=read_size hk hE
 have HX:Hid (∀ W,(Instr.sliceAt 9 (.string (Rd.readV t p)) none (some (.int .i64 24)) none).run Tryz.prog W=.ok (.string ((Rd.readV t p).extract 0 24)) W):=ext24_cut _ hz
 have HT:Hid (∀ W,(Instr.sliceAt 9 (.string (Rd.readV t p)) (some (.int .i64 224)) none none).run Tryz.prog W=.ok (.string (Rs.tagS (Rd.readV t p))) W):=tag_cut _ hz
 have HG:Hid (∀ W,Calls Tryz.prog 79 #[.string ((Rd.readV t p).extract 0 24)] W fun e w'=>e=.returned (.tuple #[Rs.hv (Rs.gv ((Rd.readV t p).extract 0 24)),.bool (Rs.gk ((Rd.readV t p).extract 0 24))])∧Below W.heap.size W w'):=Rs.rGet_any _
 clear hb hg0 hW0 hv hv0 hk hp hE hz
 generalize Rs.gk ((Rd.readV t p).extract 0 24)=gk at*
 obtain⟨⟨a,b',c,d⟩,hgv⟩:∃ x,Rs.gv ((Rd.readV t p).extract 0 24)=x:=⟨_,rfl⟩
 rw[hgv] at HG
 simp only[Rs.hv] at HG
 clear hgv
 generalize (Rd.readV t p).extract 0 24=R24 at*
 generalize Rs.tagS (Rd.readV t p)=TG at*
 generalize Rd.readV t p=RV at*
 have x24:=HX.out
 have xtg:=HT.out
 have q1:(TG.toList==tag.toList)=false:=by rw[Rk.toList_dec];exact decide_eq_false hg
 have q2:(TG.toList !=tag.toList)=true:=by rw[bne,q1];rfl
 clear hg HX HT
 go_enter Tryz.func54,Tryz.ntmps54
 go_wp2_with (first|(rw[HW0.out];clear HW0))
 refine Calls.mono (HRd.out trivial) ?_
 rintro e w2 ⟨rfl,hw2⟩
 have hw2':=hw2.symm
 clear hw2 HRd
 subst hw2'
 go_wp2_with fail
 refine Calls.mono (HG.out _) ?_
 rintro e w3 ⟨rfl,b3⟩
 have b4:=below_new w3 (.cells #[.int .u32 a,.int .u32 b',.int .u32 c,.int .u64 d] 91)
 obtain⟨W4,hW4⟩:∃ W4,w3.alloc (.cells #[.int .u32 a,.int .u32 b',.int .u32 c,.int .u64 d] 91)=W4:=⟨_,rfl⟩
 rw[hW4] at b4
 have HW4:Hid _:=hW4
 have HB4:Hid (Below w.heap.size w W4):=(HB0.out.trans (b3.mono HB0.out.size)).trans (b4.mono (HB0.out.trans (b3.mono HB0.out.size)).size)
 have Z4:Hid (W4.heap[w.heap.size]? =some (.cells #[.int .u32 0,.int .u32 0,.int .u32 0,.int .u64 0] 91 (0,0))):=(HH0.out.grow b3).grow b4
 clear b3 b4 hW4 HG HB0 HH0
 go_wp2_with (first|(rw[HW4.out];clear HW4))
 go_quiet (fail)
 go_wp2_with (refine wpList_store_row rfl 91 _ _ rfl w.heap.size _ rfl rfl 91 _ Z4.out (by kernel_rfl) rfl (by simp[Value.oneCell']) ?_)
 refine bodyPost_ret (Rs.results_open rfl _ _ w.heap.size Rs.zh rfl (setRow_heap _ _ _ _ _ _ Z4.out)) rfl ?_
 exact⟨rfl,below_setRow ((⟨HB4.out.os,HB4.out.tape,HB4.out.output,HB4.out.size,HB4.out.block⟩:Below w.heap.size w (W4.drewN nq))) (Nat.le_refl _) _⟩
theorem wopen_else (P:Qp) (v:Vs) (t:St) (p:Nat) (hp:p≤4294967295) (tag:ByteArray) (w:World) (hv:Qlt w P v t) (hk:Ok t) (hE:Rd.readE t p=0) (hg:Rs.tagS (Rd.readV t p)=tag) (hgk:Rs.gk ((Rd.readV t p).extract 0 24)=true) (hpg:(Rs.gv ((Rd.readV t p).extract 0 24)).1≠(p:Int)):
  Calls Tryz.prog 54 #[pt P.q,.int .u32 (p:Int),.string tag] w fun e w'=>e=.returned (.tuple #[Rs.hv Rs.zh,.string ⟨#[]⟩,.int .i64 61])∧Below w.heap.size w w':=by
 have hb:=below_new w (.cells #[.int .u32 0,.int .u32 0,.int .u32 0,.int .u64 0] 91)
 have hg0:=hb_new w
 obtain⟨W0,hW0⟩:∃ W0,w.alloc (.cells #[.int .u32 0,.int .u32 0,.int .u32 0,.int .u64 0] 91)=W0:=⟨_,rfl⟩
 rw[hW0] at hb hg0
 have HW0:Hid _:=hW0
 have HB0:Hid (Below w.heap.size w W0):=hb
 have HH0:Hid (HB w.heap.size Rs.zh W0):=hg0
 have hv0:=hv.below hb (Nat.le_refl _)
 have HRd:Hid (∀ _:True,_):=fun _=>Rd.rread_any P.r P.x t p hp W0 hv0.dev hk
 rw[hE] at HRd
 obtain⟨⟨c0,-⟩,-⟩:=hv0.cells
 have m0:=hlt hg0
 have lg:P.q<W0.heap.size:=hv0.lt.1
 have hz:(Rd.readV t p).size=256:=read_size hk hE
 have HX:Hid (∀ W,(Instr.sliceAt 9 (.string (Rd.readV t p)) none (some (.int .i64 24)) none).run Tryz.prog W=.ok (.string ((Rd.readV t p).extract 0 24)) W):=ext24_cut _ hz
 have HT:Hid (∀ W,(Instr.sliceAt 9 (.string (Rd.readV t p)) (some (.int .i64 224)) none none).run Tryz.prog W=.ok (.string (Rs.tagS (Rd.readV t p))) W):=tag_cut _ hz
 have HG:Hid (∀ W,Calls Tryz.prog 79 #[.string ((Rd.readV t p).extract 0 24)] W fun e w'=>e=.returned (.tuple #[Rs.hv (Rs.gv ((Rd.readV t p).extract 0 24)),.bool (Rs.gk ((Rd.readV t p).extract 0 24))])∧Below W.heap.size W w'):=Rs.rGet_any _
 rw[hgk] at HG
 clear hb hg0 hW0 hv hv0 hk hp hE hz hgk
 obtain⟨⟨a,b',c,d⟩,hgv⟩:∃ x,Rs.gv ((Rd.readV t p).extract 0 24)=x:=⟨_,rfl⟩
 rw[hgv] at HG hpg
 have q5:¬a=(p:Int):=hpg
 have q6:decide (a=(p:Int))=false:=decide_eq_false q5
 have q7:(a==(p:Int))=false:=by simpa using q5
 have q8:(a !=(p:Int))=true:=by simpa using q5
 simp only[Rs.hv] at HG
 clear hgv hpg
 generalize (Rd.readV t p).extract 0 24=R24 at*
 generalize Rs.tagS (Rd.readV t p)=TG at*
 generalize Rd.readV t p=RV at*
 have x24:=HX.out
 have xtg:=HT.out
 subst hg
 have q1:(TG.toList==TG.toList)=true:=beq_self_eq_true _
 have q2:(TG.toList !=TG.toList)=false:=by simp
 clear HX HT
 go_enter Tryz.func54,Tryz.ntmps54
 go_wp2_with (first|(rw[HW0.out];clear HW0))
 refine Calls.mono (HRd.out trivial) ?_
 rintro e w2 ⟨rfl,hw2⟩
 have hw2':=hw2.symm
 clear hw2 HRd
 subst hw2'
 go_wp2_with fail
 refine Calls.mono (HG.out _) ?_
 rintro e w3 ⟨rfl,b3⟩
 have b4:=below_new w3 (.cells #[.int .u32 a,.int .u32 b',.int .u32 c,.int .u64 d] 91)
 obtain⟨W4,hW4⟩:∃ W4,w3.alloc (.cells #[.int .u32 a,.int .u32 b',.int .u32 c,.int .u64 d] 91)=W4:=⟨_,rfl⟩
 rw[hW4] at b4
 have HW4:Hid _:=hW4
 have g4:W4.heap[w3.heap.size]? =some (.cells #[.int .u32 a,.int .u32 b',.int .u32 c,.int .u64 d] 91 (0,0)):=by rw[←hW4];exact heap_alloc_new w3 _
 have f0:W4.cell? ⟨w3.heap.size,0,none⟩=some (.int .u32 a):=by rw[cell_of_row _ _ _ _ _ _ g4];rfl
 have HB4:Hid (Below w.heap.size w W4):=(HB0.out.trans (b3.mono HB0.out.size)).trans (b4.mono (HB0.out.trans (b3.mono HB0.out.size)).size)
 have Z4:Hid (W4.heap[w.heap.size]? =some (.cells #[.int .u32 0,.int .u32 0,.int .u32 0,.int .u64 0] 91 (0,0))):=(HH0.out.grow b3).grow b4
 clear b3 b4 hW4 g4 HG HB0 HH0
 go_wp2_with (first|(rw[HW4.out];clear HW4))
 go_quiet (fail)
 go_wp2_with (refine wpList_store_row rfl 91 _ _ rfl w.heap.size _ rfl rfl 91 _ Z4.out (by kernel_rfl) rfl (by simp[Value.oneCell']) ?_)
 refine bodyPost_ret (Rs.results_open rfl _ _ w.heap.size Rs.zh rfl (setRow_heap _ _ _ _ _ _ Z4.out)) rfl ?_
 exact⟨rfl,below_setRow ((⟨HB4.out.os,HB4.out.tape,HB4.out.output,HB4.out.size,HB4.out.block⟩:Below w.heap.size w (W4.drewN nq))) (Nat.le_refl _) _⟩
theorem wopen_this (Kt:Nat→Int) (P:Qp) (v:Vs) (t:St) (p:Nat) (hp:p≤4294967295) (tag:ByteArray) (w:World) (hv:Qlt w P v t) (hk:Ok t) (hE:Rd.readE t p=0) (hg:Rs.tagS (Rd.readV t p)=tag) (hgk:Rs.gk ((Rd.readV t p).extract 0 24)=true) (hpg:(Rs.gv ((Rd.readV t p).extract 0 24)).1=(p:Int)) (hT:Rs.Tr Kt w):
  Calls Tryz.prog 54 #[pt P.q,.int .u32 (p:Int),.string tag] w fun e w'=>e=.returned (.tuple #[Rs.hv (Rs.oH Kt v.ring (Rd.readV t p)),.string (Rs.oS Kt v.ring (Rd.readV t p)),.int .i64 (Rs.oE Kt v.ring (Rd.readV t p))])∧Below w.heap.size w w':=by
 have hb:=below_new w (.cells #[.int .u32 0,.int .u32 0,.int .u32 0,.int .u64 0] 91)
 have hg0:=hb_new w
 obtain⟨W0,hW0⟩:∃ W0,w.alloc (.cells #[.int .u32 0,.int .u32 0,.int .u32 0,.int .u64 0] 91)=W0:=⟨_,rfl⟩
 rw[hW0] at hb hg0
 have HW0:Hid _:=hW0
 have HB0:Hid (Below w.heap.size w W0):=hb
 have HH0:Hid (HB w.heap.size Rs.zh W0):=hg0
 have hv0:=hv.below hb (Nat.le_refl _)
 have HRd:Hid (∀ _:True,_):=fun _=>Rd.rread_any P.r P.x t p hp W0 hv0.dev hk
 rw[hE] at HRd
 obtain⟨⟨c0,-⟩,-⟩:=hv0.cells
 have m0:=hlt hg0
 have lg:P.q<W0.heap.size:=hv0.lt.1
 have hz:(Rd.readV t p).size=256:=read_size hk hE
 have HX:Hid (∀ W,(Instr.sliceAt 9 (.string (Rd.readV t p)) none (some (.int .i64 24)) none).run Tryz.prog W=.ok (.string ((Rd.readV t p).extract 0 24)) W):=ext24_cut _ hz
 have HT:Hid (∀ W,(Instr.sliceAt 9 (.string (Rd.readV t p)) (some (.int .i64 224)) none none).run Tryz.prog W=.ok (.string (Rs.tagS (Rd.readV t p))) W):=tag_cut _ hz
 have HG:Hid (∀ W,Calls Tryz.prog 79 #[.string ((Rd.readV t p).extract 0 24)] W fun e w'=>e=.returned (.tuple #[Rs.hv (Rs.gv ((Rd.readV t p).extract 0 24)),.bool (Rs.gk ((Rd.readV t p).extract 0 24))])∧Below W.heap.size W w'):=Rs.rGet_any _
 have HOp:Hid (∀ W,Below w.heap.size w W→Calls Tryz.prog 80 #[.slice P.o v.ring.length P.cap,.string (Rd.readV t p)] W fun e w'=>e=.returned (.tuple #[Rs.hv (Rs.oH Kt v.ring (Rd.readV t p)),.string (Rs.oS Kt v.ring (Rd.readV t p)),.int .i64 (Rs.oE Kt v.ring (Rd.readV t p))])∧Below W.heap.size W w'):=fun W hW=>Rs.rOpen_any Kt v.ring P.o P.cap _ W (hv.ring.below hW (Nat.le_refl _)) (hT.below hW (Nat.le_refl _))
 have HC1:Hid (∀ W,Below w.heap.size w W→W.cell? ⟨P.q,1,none⟩=some (.slice P.o v.ring.length P.cap)∧P.q<W.heap.size):=fun W hW=>⟨(hv.below hW (Nat.le_refl _)).cells.1.2.1,(hv.below hW (Nat.le_refl _)).lt.1⟩
 generalize Rs.oE Kt v.ring (Rd.readV t p)=XE at*
 obtain⟨⟨xa,xb,xc,xd⟩,hXH⟩:∃ XH,Rs.oH Kt v.ring (Rd.readV t p)=XH:=⟨_,rfl⟩
 rw[hXH] at HOp ⊢
 simp only[Rs.hv] at HOp
 generalize Rs.oS Kt v.ring (Rd.readV t p)=XS at*
 rw[hgk] at HG
 clear hb hg0 hW0 hv hv0 hk hp hE hz hgk hT hXH
 obtain⟨⟨a,b',c,d⟩,hgv⟩:∃ x,Rs.gv ((Rd.readV t p).extract 0 24)=x:=⟨_,rfl⟩
 rw[hgv] at HG hpg
 have q5:a=(p:Int):=hpg
 clear hpg
 subst q5
 have q8:(((p:Nat):Int) !=(p:Int))=false:=by simp
 simp only[Rs.hv] at HG
 clear hgv
 generalize (Rd.readV t p).extract 0 24=R24 at*
 generalize Rs.tagS (Rd.readV t p)=TG at*
 generalize Rd.readV t p=RV at*
 have x24:=HX.out
 have xtg:=HT.out
 subst hg
 have q1:(TG.toList==TG.toList)=true:=beq_self_eq_true _
 have q2:(TG.toList !=TG.toList)=false:=by simp
 clear HX HT
 go_enter Tryz.func54,Tryz.ntmps54
 go_wp2_with (first|(rw[HW0.out];clear HW0))
 refine Calls.mono (HRd.out trivial) ?_
 rintro e w2 ⟨rfl,hw2⟩
 have hw2':=hw2.symm
 clear hw2 HRd
 subst hw2'
 go_wp2_with fail
 refine Calls.mono (HG.out _) ?_
 rintro e w3 ⟨rfl,b3⟩
 have b4:=below_new w3 (.cells #[.int .u32 (p:Int),.int .u32 b',.int .u32 c,.int .u64 d] 91)
 obtain⟨W4,hW4⟩:∃ W4,w3.alloc (.cells #[.int .u32 (p:Int),.int .u32 b',.int .u32 c,.int .u64 d] 91)=W4:=⟨_,rfl⟩
 rw[hW4] at b4
 have HW4:Hid _:=hW4
 have g4:W4.heap[w3.heap.size]? =some (.cells #[.int .u32 (p:Int),.int .u32 b',.int .u32 c,.int .u64 d] 91 (0,0)):=by rw[←hW4];exact heap_alloc_new w3 _
 have f0:W4.cell? ⟨w3.heap.size,0,none⟩=some (.int .u32 (p:Int)):=by rw[cell_of_row _ _ _ _ _ _ g4];rfl
 have HB4:Hid (Below w.heap.size w W4):=(HB0.out.trans (b3.mono HB0.out.size)).trans (b4.mono (HB0.out.trans (b3.mono HB0.out.size)).size)
 have Z4:Hid (W4.heap[w.heap.size]? =some (.cells #[.int .u32 0,.int .u32 0,.int .u32 0,.int .u64 0] 91 (0,0))):=(HH0.out.grow b3).grow b4
 clear b3 b4 hW4 g4 HG HB0 HH0
 go_wp2_with (first|(rw[HW4.out];clear HW4))
 go_quiet (fail)
 obtain⟨W6,hW6⟩:∃ W6,W4.drewN nq=W6:=⟨_,rfl⟩
 have hb6:Below w.heap.size w W6:=by rw[←hW6];exact⟨HB4.out.os,HB4.out.tape,HB4.out.output,HB4.out.size,HB4.out.block⟩
 have HB6:Hid (Below w.heap.size w W6):=hb6
 have Z6:Hid (W6.heap[w.heap.size]? =some (.cells #[.int .u32 0,.int .u32 0,.int .u32 0,.int .u64 0] 91 (0,0))):=by rw[←hW6];exact Z4.out
 obtain⟨c1,lg4⟩:=HC1.out W6 hb6
 rw[hW6]
 clear hb6 hW6 HB4 Z4 HC1
 go_wp2_with fail
 refine Calls.mono (HOp.out _ HB6.out) ?_
 rintro e w5 ⟨rfl,b5⟩
 have HB5:Hid (Below w.heap.size w w5):=HB6.out.trans (b5.mono HB6.out.size)
 have Z5:Hid (w5.heap[w.heap.size]? =some (.cells #[.int .u32 0,.int .u32 0,.int .u32 0,.int .u64 0] 91 (0,0))):=(b5.block _ (hlt Z6.out)).trans Z6.out
 clear b5 HOp HB6 Z6 c1
 go_wp2_with (refine wpList_store_row rfl 91 _ _ rfl w.heap.size _ rfl rfl 91 _ Z5.out (by kernel_rfl) rfl (by simp[Value.oneCell']) ?_)
 refine bodyPost_ret (Rs.results_open rfl _ _ w.heap.size (xa,xb,xc,xd) rfl (setRow_heap _ _ _ _ _ _ Z5.out)) rfl ?_
 exact⟨rfl,below_setRow HB5.out (Nat.le_refl _) _⟩
end Go.Proofs.YtfaflomephjkgaaGreatDoor.Rv
