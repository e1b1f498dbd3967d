/- did, kind 6. -/
import Derived.Test.YtfaflomephjkgaaGreatDoorQVRN
import Derived.Deep.RegionHeld3
import Derived.Test.YtfaflomephjkgaaGreatDoorQVbn
set_option maxRecDepth 100000
set_option maxHeartbeats 8000000
namespace Go.Proofs.YtfaflomephjkgaaGreatDoor.Rv
open Go.RowKit Go.Lib
open Go.Proofs.YtfaflomephjkgaaGreatDoor.Rd (But St Ok Dev Dv pt below_new natOf)
theorem ring_but {S:Nat→Prop} {w w':World} {o:Option Addr} {cap:Nat} {r:List Rk.Ky} (h:Rk.Ring w o cap r) (hb:But S w w') (hS:∀ b off,o=some ⟨b,off,none⟩→¬S b):Rk.Ring w' o cap r:=by
 refine⟨h.1,h.2.1,h.2.2.1,fun hne=>?_⟩
 obtain⟨b,off,e,hl,h4⟩:=h.2.2.2 hne
 exact⟨b,off,e,Nat.lt_of_lt_of_le hl hb.size,fun i hi=>(h4 i hi).same (hb.block b hl (hS b off e))⟩
theorem Sta.mid {w0:World} {base:Nat} {A:Pl} {P:Qp} {v v':Vs} {t:St} {l:List (Nat × ByteArray)} {lv:Value} {W W2:World} (h:Sta w0 base A P v t l lv W) (_hv:Vlt W2 A v' t∨True) (b2:But (fun k=>k=A.g) W W2):Qlt W2 P v t:=
 h.bo.vq.but b2 (fun k hk e=>h.bo.ap A.g (.inl rfl) (by rw[←e];exact hk)) (fun b off e hn hb=>h.bo.rq b off e hn (by rw[hb];exact .inl rfl))
theorem Sta.turned {w0:World} {base:Nat} {A:Pl} {P:Qp} {v:Vs} {t:St} {l:List (Nat × ByteArray)} {lv:Value} {W Wr W2 W3:World} {r:List Rk.Ky} {g:Int} {o o':Option Addr} {cap cap':Nat} (h:Sta w0 base A P v t l lv W) (hb:Below W.heap.size W Wr)
  (hfo:∀ b off,o=some ⟨b,off,none⟩→W.heap.size≤b) (hv:Vlt W2 (A.at' o' cap') (turn v r g) t) (b2:But (fun k=>k=A.g) Wr W2) (hf2:∀ b off,o'=some ⟨b,off,none⟩→Wr.heap.size≤b)
  (hq:Qlt W3 (P.at' o cap) (turn v r g) t) (b3:But (fun k=>k=P.q) W2 W3):Sta w0 base (A.at' o' cap') (P.at' o cap) (turn v r g) t l lv W3:=by
 have hA:∀ k,A.has k→k<W.heap.size:=fun k hk=>h.bo.va.has_lt hk
 have hP:∀ k,P.has k→k<W.heap.size:=fun k hk=>h.bo.vq.has_lt hk
 have lA:=h.bo.lo A.g (.inl (.inl rfl))
 have lP:=h.bo.lo P.q (.inr (.inl rfl))
 have hz:=hb.size
 refine⟨⟨?_,hq,h.bo.ok,?_,h.bo.ap,h.bo.lo,?_,?_⟩,?_,h.hi,?_,?_,h.rl,?_⟩
 ·exact hv.but b3 (fun k hk e=>h.bo.ap k hk (by rw[e];exact .inl rfl)) (fun b off e _ hb'=>by have:=hf2 b off e;have:=hP P.q (.inl rfl);omega)
 ·exact((h.bo.bel.trans (hb.mono h.bo.bel.size)).trans (b2.below (fun k hk=>by have hk':k=A.g:=hk;omega) (Nat.le_trans h.bo.bel.size hz))).trans (b3.below (fun k hk=>by have hk':k=P.q:=hk;omega) (Nat.le_trans (Nat.le_trans h.bo.bel.size hz) b2.size))
 ·intro b off e _ hh
  have:=hf2 b off e
  have:=hP b hh
  omega
 ·intro b off e _ hh
  have:=hfo b off e
  have:=hA b hh
  omega
 ·refine own_but (own_but (own_same' h.row hb) b2 ?_) b3 ?_
  ·intro g' hg hh
   have:=(own_base h.row hg).1
   have:=h.hi A.g (.inl (.inl rfl))
   have hh':g'=A.g:=hh
   omega
  ·intro g' hg hh
   have:=(own_base h.row hg).1
   have:=h.hi P.q (.inr (.inl rfl))
   have hh':g'=P.q:=hh
   omega
 ·intro g' b off hg e
  have:=(own_base h.row hg).2
  have:=hf2 b off e
  omega
 ·intro g' b off hg e
  have:=(own_base h.row hg).2
  have:=hfo b off e
  omega
 ·exact Nat.le_trans h.bz (Nat.le_trans hz (Nat.le_trans b2.size b3.size))
theorem four_of (N:Int):∃ m:Nat,m≤4∧max 0 (min N 4)=(m:Int):=⟨(max 0 (min N 4)).toNat,by omega,by omega⟩
theorem did_turn_ok (Kt:Nat→Int) (w0:World) (base n k:Nat) (hk:k≤1000) (A:Pl) (P:Qp) (v:Vs) (t:St) (l:List (Nat × ByteArray)) (lv:Value) (x:Vo) (hx:VoOk x) (w:World) (hT:Rs.Tb Kt w0) (hR:Rs.Tr Kt w0)
  (hs:Sta w0 base A P v t l lv w) (hp:Pln n k v t) (hm:(IntKind.u64.wrap x.op).tmod 9=6) (m:Nat) (hm4:m≤4) (hme:max 0 (min x.n 4)=(m:Int)) (hfe:Rk.feS (krs m) (x.p:Int)=0):
  Calls Tryz.prog 6 #[pt A.g,pt A.d,pt P.q,lv,vov x] w (DidP w0 base n k A P l):=by
 have b1:=below_new w (.cells #[.int .i64 x.op,.int .u32 (x.p:Int),.int .i64 x.n,.string x.s] 34)
 have v1:=VB.new w x
 obtain⟨W1,hW1⟩:∃ W1,w.alloc (.cells #[.int .i64 x.op,.int .u32 (x.p:Int),.int .i64 x.n,.string x.s] 34)=W1:=⟨_,rfl⟩
 rw[hW1] at b1 v1
 have HW1:Hid _:=hW1
 have HS1:Hid (Sta w0 base A P v t l lv W1):=hs.below b1
 have HV1:Hid (VB W1 w.heap.size x):=v1
 have HOb:Hid (¬A.has w.heap.size∧¬P.has w.heap.size):=⟨fun e=>by have:=hs.hi _ (.inl e);have:=hs.bz;omega,fun e=>by have:=hs.hi _ (.inr e);have:=hs.bz;omega⟩
 have HX:Hid (VoOk x):=hx
 have HP:Hid (Pln n k v t):=hp
 have HT:Hid (Rs.Tb Kt w0):=hT
 have HR:Hid (Rs.Tr Kt w0):=hR
 have HK:Hid (k≤1000):=hk
 have HD:Hid (∀ v' t' l' lv' W',Sta w0 base A P v' t' l' lv' W'→Pln n (k+1) v' t'→l'.length≤l.length+1→DidP w0 base n k A P l (.returned (.tuple #[lv',.bool true])) W'):=fun v' t' l' lv' W' h1 h2 h3=>⟨A,P,v',t',l',lv',rfl,h1,h2,⟨rfl,rfl,rfl⟩,h3⟩
 have HBw:Hid (Below w.heap.size w W1):=b1
 have HC:Hid (∀ W,_):=fun W=>lcut_any x.s W
 have c0:=v1.c0
 have c1:=v1.c1
 have c2:=v1.c2
 have c3:=v1.c3
 have HRing:Hid (∀ W,_):=fun W=>ring_any m (by omega) W
 rw[←hme] at HRing
 have HE:Hid (∀ W o cap,Vlt W A v t→Rk.Ring W o cap (krs m)→_):=fun W o cap h hr=>turn_fresh A v t (krs m) (x.p:Int) o cap W h hr hfe
 have HF:Hid (∀ W o cap,Qlt W P v t→Rk.Ring W o cap (krs m)→(∀ b off,o=some ⟨b,off,none⟩→(krs m)≠[]→¬P.has b)→_):=fun W o cap h hr hn=>wturn_ok P v t (krs m) (x.p:Int) o cap W h hr hn hfe
 have HPl:Hid (Pln n (k+1) (turn v (krs m) (x.p:Int)) t):=(hp.turn hfe (by omega) (by have:=hx.p1;omega)).more (Nat.le_succ _)
 have HDT:Hid (∀ A' P' v' t' W',Sta w0 base A' P' v' t' l lv W'→Pln n (k+1) v' t'→(A'.g=A.g∧A'.d=A.d∧P'.q=P.q)→DidP w0 base n k A P l (.returned (.tuple #[lv,.bool true])) W'):=fun A' P' v' t' W' h1 h2 h3=>⟨A',P',v',t',l,lv,rfl,h1,h2,h3,Nat.le_succ _⟩
 rw[krs_len] at HE HF
 clear hfe hm4
 generalize cut2 x.s=S2 at*
 clear hW1 b1 v1 hT hR hs hp hx hk
 go_enter Tryz.func6,Tryz.ntmps6
 go_wp2_with (first|(rw[HW1.out];clear HW1))
 refine Calls.mono (HC.out W1) ?_
 rintro e W1' ⟨rfl,hw⟩
 have hw':=hw.symm
 clear hw HC
 subst hw'
 obtain⟨ob,hob⟩:∃ ob,w.heap.size=ob:=⟨_,rfl⟩
 rw[hob] at c0 c1 c2 c3 HV1 HOb
 generalize w.heap.size=ob' at*
 subst hob
 have hme':=hme.symm
 clear hme
 go_wp2_with fail
 refine Calls.mono (HRing.out _) ?_
 rintro e w2 ⟨o,cap,rfl,hr2,hf2,b2⟩
 have HS2:Hid (Sta w0 base A P v t l lv w2):=HS1.out.below b2
 have HSd:Hid (Sta w0 base A P v t l lv w2.drew):=(HS1.out.below b2).below (below_drew w2)
 have HVd:Hid (VB w2.drew ob' x):=(HV1.out.below b2 (Nat.le_refl _)).below (below_drew w2) (Nat.le_refl _)
 have HRd:Hid (Rk.Ring w2.drew o cap (krs m)):=hr2.below (below_drew w2) (Nat.le_refl _)
 have HFr:Hid (∀ b off,o=some ⟨b,off,none⟩→W1.heap.size≤b):=hf2
 have HBd:Hid (Below W1.heap.size W1 w2.drew):=b2.trans ((below_drew w2).mono b2.size)
 have c1:=(HV1.out.below b2 (Nat.le_refl _)).c1
 clear hr2 hf2 b2 c0 c2 c3
 go_wp2_with fail
 go_region_held3 (fun w'=>w'.cell? ⟨ob',1,none⟩=some (.int .u32 (x.p:Int))) (first|go_keep|assumption|(refine⟨?_,?_⟩<;>assumption)|(refine⟨?_,?_,?_⟩<;>assumption)) (first
   |(go_at_call 32;refine Calls.mono (HE.out _ o cap HSd.out.bo.va HRd.out) ?_;rintro e w3 ⟨rfl,o',cap',d3,b3,f3⟩;have v3:=HVd.out.but b3 (fun e=>HOb.out.1 (.inl e));have y31:=v3.c1)
   |(go_at_call 33;refine Calls.mono (HF.out w3 o cap (HSd.out.mid (v':=v) (.inr trivial) b3) (ring_but HRd.out b3 (fun b off e hh=>by have h1:=HFr.out b off e;have h2:=HS1.out.bo.va.lt.1;have hh':b=A.g:=hh;omega)) (fun b off e _ hh=>by have h1:=HFr.out b off e;have h2:=HS1.out.bo.vq.has_lt hh;omega)) ?_;rintro e w4 ⟨rfl,q4,b4⟩;have y41:=(v3.but b4 (fun e=>HOb.out.2 (.inl e))).c1))
 have HS4:Hid (Sta w0 base (A.at' o' cap') (P.at' o cap) (turn v (krs m) (x.p:Int)) t l lv w4):=HS1.out.turned HBd.out HFr.out d3 b3 f3 q4 b4
 clear d3 b3 f3 v3 q4 b4 y31 y41
 go_wp2_with fail
 go_ret2
 exact HDT.out _ _ _ _ _ HS4.out HPl.out ⟨rfl,rfl,rfl⟩
theorem did_turn_no (Kt:Nat→Int) (w0:World) (base n k:Nat) (hk:k≤1000) (A:Pl) (P:Qp) (v:Vs) (t:St) (l:List (Nat × ByteArray)) (lv:Value) (x:Vo) (hx:VoOk x) (w:World) (hT:Rs.Tb Kt w0) (hR:Rs.Tr Kt w0)
  (hs:Sta w0 base A P v t l lv w) (hp:Pln n k v t) (hm:(IntKind.u64.wrap x.op).tmod 9=6) (m:Nat) (hm4:m≤4) (hme:max 0 (min x.n 4)=(m:Int)) (hfe:Rk.feS (krs m) (x.p:Int)≠0):
  Calls Tryz.prog 6 #[pt A.g,pt A.d,pt P.q,lv,vov x] w (DidP w0 base n k A P l):=by
 have b1:=below_new w (.cells #[.int .i64 x.op,.int .u32 (x.p:Int),.int .i64 x.n,.string x.s] 34)
 have v1:=VB.new w x
 obtain⟨W1,hW1⟩:∃ W1,w.alloc (.cells #[.int .i64 x.op,.int .u32 (x.p:Int),.int .i64 x.n,.string x.s] 34)=W1:=⟨_,rfl⟩
 rw[hW1] at b1 v1
 have HW1:Hid _:=hW1
 have HS1:Hid (Sta w0 base A P v t l lv W1):=hs.below b1
 have HV1:Hid (VB W1 w.heap.size x):=v1
 have HOb:Hid (¬A.has w.heap.size∧¬P.has w.heap.size):=⟨fun e=>by have:=hs.hi _ (.inl e);have:=hs.bz;omega,fun e=>by have:=hs.hi _ (.inr e);have:=hs.bz;omega⟩
 have HX:Hid (VoOk x):=hx
 have HP:Hid (Pln n k v t):=hp
 have HT:Hid (Rs.Tb Kt w0):=hT
 have HR:Hid (Rs.Tr Kt w0):=hR
 have HK:Hid (k≤1000):=hk
 have HD:Hid (∀ v' t' l' lv' W',Sta w0 base A P v' t' l' lv' W'→Pln n (k+1) v' t'→l'.length≤l.length+1→DidP w0 base n k A P l (.returned (.tuple #[lv',.bool true])) W'):=fun v' t' l' lv' W' h1 h2 h3=>⟨A,P,v',t',l',lv',rfl,h1,h2,⟨rfl,rfl,rfl⟩,h3⟩
 have HBw:Hid (Below w.heap.size w W1):=b1
 have HC:Hid (∀ W,_):=fun W=>lcut_any x.s W
 have c0:=v1.c0
 have c1:=v1.c1
 have c2:=v1.c2
 have c3:=v1.c3
 have HRing:Hid (∀ W,_):=fun W=>ring_any m (by omega) W
 rw[←hme] at HRing
 have HE:Hid (∀ W o cap,Vlt W A v t→Rk.Ring W o cap (krs m)→_):=fun W o cap h hr=>turn_no A v t (krs m) (x.p:Int) o cap W h hr hfe
 have HF:Hid (∀ W o cap,Rk.Ring W o cap (krs m)→_):=fun W o cap hr=>wturn_no P.q (krs m) (x.p:Int) o cap W hr hfe
 generalize Rk.feS (krs m) (x.p:Int)=OE at*
 rw[krs_len] at HE HF
 clear hfe hm4
 generalize cut2 x.s=S2 at*
 clear hW1 b1 v1 hT hR hs hp hx hk
 go_enter Tryz.func6,Tryz.ntmps6
 go_wp2_with (first|(rw[HW1.out];clear HW1))
 refine Calls.mono (HC.out W1) ?_
 rintro e W1' ⟨rfl,hw⟩
 have hw':=hw.symm
 clear hw HC
 subst hw'
 obtain⟨ob,hob⟩:∃ ob,w.heap.size=ob:=⟨_,rfl⟩
 rw[hob] at c0 c1 c2 c3 HV1 HOb
 generalize w.heap.size=ob' at*
 subst hob
 have hme':=hme.symm
 clear hme
 go_wp2_with fail
 refine Calls.mono (HRing.out _) ?_
 rintro e w2 ⟨o,cap,rfl,hr2,hf2,b2⟩
 have HS2:Hid (Sta w0 base A P v t l lv w2):=HS1.out.below b2
 have HSd:Hid (Sta w0 base A P v t l lv w2.drew):=(HS1.out.below b2).below (below_drew w2)
 have HVd:Hid (VB w2.drew ob' x):=(HV1.out.below b2 (Nat.le_refl _)).below (below_drew w2) (Nat.le_refl _)
 have HRd:Hid (Rk.Ring w2.drew o cap (krs m)):=hr2.below (below_drew w2) (Nat.le_refl _)
 have HFr:Hid (∀ b off,o=some ⟨b,off,none⟩→W1.heap.size≤b):=hf2
 have HBd:Hid (Below W1.heap.size W1 w2.drew):=b2.trans ((below_drew w2).mono b2.size)
 have c1:=(HV1.out.below b2 (Nat.le_refl _)).c1
 clear hr2 hf2 b2 c0 c2 c3
 go_wp2_with fail
 go_region_held3 (fun w'=>w'.cell? ⟨ob',1,none⟩=some (.int .u32 (x.p:Int))) (first|go_keep|assumption|(refine⟨?_,?_⟩<;>assumption)|(refine⟨?_,?_,?_⟩<;>assumption)) (first
   |(go_at_call 32;refine Calls.mono (HE.out _ o cap HSd.out.bo.va HRd.out) ?_;rintro e w3 ⟨rfl,b3⟩;have v3:=HVd.out.below b3 (Nat.le_refl _);have y31:=v3.c1;have r3:=HRd.out.below b3 (Nat.le_refl _))
   |(go_at_call 33;refine Calls.mono (HF.out w3 o cap r3) ?_;rintro e w4 ⟨rfl,b4⟩;have y41:=(v3.below b4 (Nat.le_refl _)).c1))
 have HS4:Hid (Sta w0 base A P v t l lv w4):=(HSd.out.below b3).below b4
 clear b3 r3 v3 b4 y31 y41
 go_wp2_with fail
 go_ret2
 exact HD.out _ _ _ _ _ HS4.out (HP.out.more (Nat.le_succ _)) (Nat.le_succ _)
theorem did_any (Kt:Nat→Int) (w0:World) (base n k:Nat) (hk:k≤100) (hn:n≤12) (A:Pl) (P:Qp) (v:Vs) (t:St) (l:List (Nat × ByteArray)) (hl:l.length≤k) (lv:Value) (x:Vo) (hx:VoOk x) (hz:x.s.size≤9223372036854775807) (w:World) (hT:Rs.Tb Kt w0) (hR:Rs.Tr Kt w0)
  (hs:Sta w0 base A P v t l lv w) (hp:Pln n k v t):
  Calls Tryz.prog 6 #[pt A.g,pt A.d,pt P.q,lv,vov x] w (DidP w0 base n k A P l):=by
 have h1:=wrap_u64 x.op
 have h2:=Int.tmod_nonneg 9 h1
 have h3:(IntKind.u64.wrap x.op).tmod 9<9:=Int.tmod_lt_of_pos _ (by decide)
 have hk':k≤1000:=by omega
 have hl':l.length≤100:=by omega
 obtain⟨m,hm⟩:∃ m,(IntKind.u64.wrap x.op).tmod 9=m:=⟨_,rfl⟩
 rw[hm] at h2 h3
 rcases(show m=0∨m=1∨m=2∨m=3∨m=4∨m=5∨m=6∨m=7∨m=8 by omega) with e|e|e|e|e|e|e|e|e<;>subst e
 ·by_cases hE:(wrR Kt v t (cut2 x.s)).1.1=0
  ·exact did_write_ok Kt w0 base n k hk' A P v t l lv x hx w hT hR hs hp hm (by omega) hl' hE
  ·exact did_write_no Kt w0 base n k hk' A P v t l lv x hx w hT hR hs hp hm (by omega) hl' hE
 ·by_cases hE:supE Kt v t x.p (cut2 x.s)=0
  ·exact did_super_ok Kt w0 base n k hk' A P v t l lv x hx w hT hR hs hp hm hl' hE
  ·exact did_super_no Kt w0 base n k hk' A P v t l lv x hx w hT hR hs hp hm hl' hE
 ·exact did_read Kt w0 base n k hk' A P v t l lv x hx w hT hR hs hp hm
 ·exact did_first Kt w0 base n k hk' A P v t l lv x hx w hT hR hs hp hm
 ·exact did_take Kt w0 base n k hk' A P v t l lv x hx w hT hR hs hp hm
 ·exact did_give Kt w0 base n k hk' A P v t l lv x hx w hT hR hs hp hm
 ·obtain⟨m,hm4,hme⟩:=four_of x.n
  by_cases hfe:Rk.feS (krs m) (x.p:Int)=0
  ·exact did_turn_ok Kt w0 base n k hk' A P v t l lv x hx w hT hR hs hp hm m hm4 hme hfe
  ·exact did_turn_no Kt w0 base n k hk' A P v t l lv x hx w hT hR hs hp hm m hm4 hme hfe
 ·exact did_gen Kt w0 base n k hk' A P v t l lv x hx w hT hR hs hp hm
 ·exact did_bent Kt w0 base n k hk' A P v t l lv x hx w hT hR hs hp hm (by rw[hp.nn];exact hn) hz
end Go.Proofs.YtfaflomephjkgaaGreatDoor.Rv
