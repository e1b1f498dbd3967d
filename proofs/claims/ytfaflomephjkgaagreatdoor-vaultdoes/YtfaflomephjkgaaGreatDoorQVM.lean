/- The reference's New: a vault is made. -/
import Derived.Test.YtfaflomephjkgaaGreatDoorQVH
import Derived.Test.YtfaflomephjkgaaGreatDoorPRF
import Derived.BigQuiet
import Derived.Test.YtfaflomephjkgaaGreatDoorPPl
set_option maxRecDepth 100000
set_option maxHeartbeats 8000000
namespace Go.Proofs.YtfaflomephjkgaaGreatDoor.Rv
open Go.RowKit Go.Lib
open Go.Proofs.YtfaflomephjkgaaGreatDoor.Rd (But St Ok Dev Dv pt below_new natOf)
theorem wnew_any (r:Nat) (x:Rd.Rp) (s:St) (l:List Rk.Ky) (g boot:Int) (o:Option Addr) (cap:Nat) (w:World) (hd:Rd.Rf w r x s) (hk:Ok s) (hr:Rk.Ring w o cap l) (h0:Rk.feS l g=0):
  Calls Tryz.prog 20 #[pt r,.slice o l.length cap,.int .u32 g,.int .u32 boot] w fun e w'=>∃ q,e=.returned (.tuple #[pt q,.int .i64 0])∧Below w.heap.size w w':=by
 have HF:Hid (∀ _:True,_):=fun _=>Rk.refFind_any l g o cap w hr
 rw[h0] at HF
 obtain⟨⟨ka,kb⟩,hkk⟩:∃ k,Rk.fkS l g=k:=⟨_,rfl⟩
 rw[hkk] at HF
 simp only[Rk.kv] at HF
 have n0:=hk.n0
 have n1:=hk.n1
 obtain⟨n,hn⟩:∃ n,s.n=n:=⟨_,rfl⟩
 rw[hn] at n0 n1
 have hc0:∀ W,Below w.heap.size w W→W.cell? ⟨r,0,none⟩=some (.slice (some ⟨x.l,0,none⟩) n x.lc)∧r<W.heap.size:=fun W hW=>by
  have:=(hd.below hW (Nat.le_refl _)).self
  refine⟨?_,hlt this⟩
  rw[cell_of_row _ _ _ _ _ _ this,←hn];rfl
 have HC0:Hid (∀ W,Below w.heap.size w W→W.cell? ⟨r,0,none⟩=some (.slice (some ⟨x.l,0,none⟩) n x.lc)∧r<W.heap.size):=hc0
 clear hd hk hr h0 hkk hn hc0
 go_enter Tryz.func20,Tryz.ntmps20
 go_wp2_with fail
 refine Calls.mono (HF.out trivial) ?_
 rintro e w2 ⟨rfl,b2⟩
 have b3:=below_new w2 (.cells #[.int .u32 ka,.string kb] 100)
 obtain⟨W3,hW3⟩:∃ W3,w2.alloc (.cells #[.int .u32 ka,.string kb] 100)=W3:=⟨_,rfl⟩
 rw[hW3] at b3
 have HW3:Hid _:=hW3
 have HB3:Hid (Below w.heap.size w W3):=b2.trans (b3.mono b2.size)
 obtain⟨c0,lr⟩:=HC0.out W3 HB3.out
 have hmk:=run_make_row' (P:=Tryz.prog) 41 4 (.bool false) 1 Tryz.underlying41 Rd.info4 rfl .i64 .i64 n (by omega) (by omega) W3
 have b4:=below_new W3 (.cells (madeCells #[.bool false] n) 4)
 have g4:=heap_alloc_new W3 (.cells (madeCells #[.bool false] n) 4)
 have b5:=below_new (W3.alloc (.cells (madeCells #[.bool false] n) 4)) (.cells #[pt r,.slice o l.length cap,.int .u32 g,.int .u32 boot,.int .u64 0,.slice (some ⟨W3.heap.size,0,none⟩) n n] 43)
 have g5:=heap_alloc_new (W3.alloc (.cells (madeCells #[.bool false] n) 4)) (.cells #[pt r,.slice o l.length cap,.int .u32 g,.int .u32 boot,.int .u64 0,.slice (some ⟨W3.heap.size,0,none⟩) n n] 43)
 have s4:(W3.alloc (.cells (madeCells #[.bool false] n) 4)).heap.size=W3.heap.size+1:=by simp
 obtain⟨W5,hW5⟩:∃ W5,(W3.alloc (.cells (madeCells #[.bool false] n) 4)).alloc (.cells #[pt r,.slice o l.length cap,.int .u32 g,.int .u32 boot,.int .u64 0,.slice (some ⟨W3.heap.size,0,none⟩) n n] 43)=W5:=⟨_,rfl⟩
 rw[hW5] at b5 g5
 rw[s4] at g5
 have HW5:Hid _:=hW5
 have g6:W5.heap[W3.heap.size]? =some (.cells (madeCells #[.bool false] n) 4 (0,0)):=(b5.block _ (by omega)).trans g4
 have hm0:(madeCells #[.bool false] n)[0]? =some (Value.bool false):=by
  have h9:0<n:=by omega
  simp[madeCells,h9,Nat.mod_one]
 have hm1:(madeCells #[.bool false] n)[1]? =some (Value.bool false):=by
  have h9:1<n:=by omega
  simp[madeCells,h9,Nat.mod_one]
 have f0:W5.cell? ⟨W3.heap.size,0,none⟩=some (.bool false):=by rw[cell_of_row _ _ _ _ _ _ g6,hm0]
 have z0:W5.frozen? ⟨W3.heap.size,0,none⟩=false:=frozen_of_row _ _ _ _ _ g6
 have e5:W5.cell? ⟨W3.heap.size+1,5,none⟩=some (.slice (some ⟨W3.heap.size,0,none⟩) n n):=by rw[cell_of_row _ _ _ _ _ _ g5];rfl
 have g7:=Rd.set_at W5 W3.heap.size 0 _ _ _ (.bool true) g6
 have o7:∀ k,k≠W3.heap.size→(W5.setCell ⟨W3.heap.size,0,none⟩ (.bool true)).heap[k]? =W5.heap[k]? :=fun k hk=>Below.heap_setCell _ _ _ _ fun e=>hk e
 have hb7:Below w.heap.size w (W5.setCell ⟨W3.heap.size,0,none⟩ (.bool true)):=(HB3.out.trans ((b4.trans (b5.mono (by omega))).mono HB3.out.size)).trans ⟨rfl,rfl,rfl,by simp[World.setCell],fun k hk=>o7 k (by have:=HB3.out.size;omega)⟩
 obtain⟨W6,hW6⟩:∃ W6,W5.setCell ⟨W3.heap.size,0,none⟩ (.bool true)=W6:=⟨_,rfl⟩
 rw[hW6] at g7 o7 hb7
 have HW6:Hid _:=hW6
 have f1:W6.cell? ⟨W3.heap.size,1,none⟩=some (.bool false):=by
  rw[cell_of_row _ _ _ _ _ _ g7,Array.getElem?_setIfInBounds,if_neg (by decide),hm1]
 have z1:W6.frozen? ⟨W3.heap.size,1,none⟩=false:=frozen_of_row _ _ _ _ _ g7
 have e6:W6.cell? ⟨W3.heap.size+1,5,none⟩=some (.slice (some ⟨W3.heap.size,0,none⟩) n n):=by rw[cell_of_row _ _ _ _ _ _ ((o7 _ (by omega)).trans g5)];rfl
 have l5:W3.heap.size+1<W5.heap.size:=hlt g5
 have l6:W3.heap.size+1<W6.heap.size:=hlt ((o7 _ (by omega)).trans g5)
 have HB8:Hid (Below w.heap.size w (W6.setCell ⟨W3.heap.size,1,none⟩ (.bool true))):=hb7.trans ⟨rfl,rfl,rfl,by simp[World.setCell],fun k hk=>Below.heap_setCell _ _ _ _ fun e=>by have e':k=W3.heap.size:=e;have:=HB3.out.size;omega⟩
 have i0:(0:Int)<(n:Int):=by omega
 have i1:(1:Int)<(n:Int):=by omega
 clear b2 b3 HF hW3 b4 b5 g4 g5 g6 g7 o7 hb7 hW5 hW6 hm0 hm1 s4
 go_wp2_with (first|(rw[HW3.out];clear HW3)|(rw[HW5.out];clear HW5)|(rw[HW6.out];clear HW6))
 go_ret2
 exact⟨W3.heap.size+1,rfl,HB8.out⟩
structure Qp where
 q:Nat
 tb:Nat
 r:Nat
 x:Rd.Rp
 o:Option Addr
 cap:Nat
def Qp.has (P:Qp) (k:Nat):Prop:=k=P.q∨k=P.tb∨Rd.Rv P.r P.x k
def qc (P:Qp) (v:Vs) (n:Nat):Array Value:=#[pt P.r,.slice P.o v.ring.length P.cap,.int .u32 v.gen,.int .u32 v.boot,.int .u64 (v.seals:Int),.slice (some ⟨P.tb,0,none⟩) n n]
structure Qlt (w:World) (P:Qp) (v:Vs) (t:St):Prop where
 self:w.heap[P.q]? =some (.cells (qc P v t.n) 43 (0,0))
 ring:Rk.Ring w P.o P.cap v.ring
 rb:∀ b off,P.o=some ⟨b,off,none⟩→v.ring≠[]→¬P.has b
 tk:Rd.Bl w P.tb t.n (fun p=>(v.tk p).isSome)
 dev:Rd.Rf w P.r P.x t
 qt:P.q≠P.tb
 qr:¬Rd.Rv P.r P.x P.q
 tr:¬Rd.Rv P.r P.x P.tb
theorem Qlt.lt {w:World} {P:Qp} {v:Vs} {t:St} (h:Qlt w P v t):P.q<w.heap.size∧P.tb<w.heap.size:=⟨hlt h.self,h.tk.lt⟩
theorem Qlt.has_lt {w:World} {P:Qp} {v:Vs} {t:St} (h:Qlt w P v t) {k:Nat} (hk:P.has k):k<w.heap.size:=by
 have:=h.lt
 rcases hk with rfl|rfl|hk
 ·omega
 ·omega
 ·exact h.dev.own hk
theorem ring_same {w w':World} {P:Qp} {l:List Rk.Ky} (h:Rk.Ring w P.o P.cap l) (hn:∀ b off,P.o=some ⟨b,off,none⟩→l≠[]→¬P.has b) (hs:w.heap.size≤w'.heap.size) (hk:∀ k,k<w.heap.size→¬P.has k→w'.heap[k]? =w.heap[k]?):Rk.Ring w' P.o P.cap l:=by
 refine⟨h.1,h.2.1,h.2.2.1,fun hl=>?_⟩
 obtain⟨b,off,e,hlt,h4⟩:=h.2.2.2 hl
 exact⟨b,off,e,by omega,fun i hi=>(h4 i hi).same (hk b hlt (hn b off e hl))⟩
theorem Qlt.below {w w':World} {P:Qp} {v:Vs} {t:St} {B:Nat} (h:Qlt w P v t) (hb:Below B w w') (hB:w.heap.size≤B):Qlt w' P v t:=by
 have hl:=h.lt
 exact⟨(hb.block _ (by omega)).trans h.self,h.ring.below hb hB,h.rb,h.tk.same (hb.block _ (by omega)),h.dev.below hb hB,h.qt,h.qr,h.tr⟩
theorem Qlt.but {S:Nat→Prop} {w w':World} {P:Qp} {v:Vs} {t:St} (h:Qlt w P v t) (hb:But S w w') (hS:∀ k,P.has k→¬S k) (hR:∀ b off,P.o=some ⟨b,off,none⟩→v.ring≠[]→¬S b):Qlt w' P v t:=by
 have hl:=h.lt
 refine⟨(hb.block _ hl.1 (hS _ (.inl rfl))).trans h.self,?_,h.rb,h.tk.same (hb.block _ hl.2 (hS _ (.inr (.inl rfl)))),h.dev.same fun k hk=>hb.block k (h.dev.own hk) (hS k (.inr (.inr hk))),h.qt,h.qr,h.tr⟩
 refine⟨h.ring.1,h.ring.2.1,h.ring.2.2.1,fun hne=>?_⟩
 obtain⟨b,off,e,hlt,h4⟩:=h.ring.2.2.2 hne
 exact⟨b,off,e,Nat.lt_of_lt_of_le hlt hb.size,fun i hi=>(h4 i hi).same (hb.block b hlt (hR b off e hne))⟩
theorem Qlt.mark {w:World} {P:Qp} {v v':Vs} {t:St} (h:Qlt w P v t) (p:Nat) (hp:p<t.n) (b:Bool) (he:qc P v' t.n=qc P v t.n) (hr:v'.ring=v.ring) (ht:∀ i,i<t.n→(v'.tk i).isSome=Rd.at' (fun p=>(v.tk p).isSome) p b i):
  Qlt (w.setCell ⟨P.tb,p,none⟩ (.bool b)) P v' t∧But P.has w (w.setCell ⟨P.tb,p,none⟩ (.bool b)):=by
 have hb:But P.has w (w.setCell ⟨P.tb,p,none⟩ (.bool b)):=But.set w P.tb p (.bool b) (.inr (.inl rfl))
 have ho:∀ k,k≠P.tb→(w.setCell ⟨P.tb,p,none⟩ (.bool b)).heap[k]? =w.heap[k]? :=fun k hk=>Below.heap_setCell _ _ _ _ fun e=>hk e
 refine⟨⟨by rw[he];exact(ho _ h.qt).trans h.self,?_,by rw[hr];exact h.rb,?_,h.dev.same fun k hk=>ho k fun e=>h.tr (by rw[←e];exact hk),h.qt,h.qr,h.tr⟩,hb⟩
 ·rw[hr];exact ring_same h.ring h.rb hb.size hb.block
 ·obtain⟨cs,h1,h2,h3⟩:=h.tk.set p hp b
  exact⟨cs,h1,h2,fun i hi=>by rw[h3 i hi];show _=some (Value.bool (v'.tk i).isSome);rw[ht i hi]⟩
def Q6 (w:World) (P:Qp) (v:Vs) (n:Nat):Prop:=(w.cell? ⟨P.q,0,none⟩=some (pt P.r)∧w.cell? ⟨P.q,1,none⟩=some (.slice P.o v.ring.length P.cap)∧w.cell? ⟨P.q,2,none⟩=some (.int .u32 v.gen)∧w.cell? ⟨P.q,3,none⟩=some (.int .u32 v.boot)∧w.cell? ⟨P.q,4,none⟩=some (.int .u64 (v.seals:Int))∧w.cell? ⟨P.q,5,none⟩=some (.slice (some ⟨P.tb,0,none⟩) n n))∧∀ i,w.frozen? ⟨P.q,i,none⟩=false
theorem Qlt.cells {w:World} {P:Qp} {v:Vs} {t:St} (h:Qlt w P v t):Q6 w P v t.n:=
 ⟨⟨by rw[cell_of_row _ _ _ _ _ _ h.self];rfl,by rw[cell_of_row _ _ _ _ _ _ h.self];rfl,by rw[cell_of_row _ _ _ _ _ _ h.self];rfl,by rw[cell_of_row _ _ _ _ _ _ h.self];rfl,by rw[cell_of_row _ _ _ _ _ _ h.self];rfl,by rw[cell_of_row _ _ _ _ _ _ h.self];rfl⟩,fun i=>frozen_of_row w _ _ _ _ h.self⟩
theorem wmark_any (TG:Bool) (P:Qp) (v:Vs) (t:St) (p:Nat) (hp:p≤4294967295) (w:World) (h:Qlt w P v t) (hk:Ok t):
  Calls Tryz.prog (if TG then 30 else 31) #[pt P.q,.int .u32 (p:Int)] w fun e w'=>e=.returned (.int .i64 (if TG then takeE v t p else giveE v t p))∧Qlt w' P (if TG then(if takeE v t p=0 then take v p else v) else(if giveE v t p=0 then give v p else v)) t∧But P.has w w':=by
 obtain⟨⟨-,-,-,-,-,c5⟩,-⟩:=h.cells
 have n1:=hk.n1
 have lq:=h.lt.1
 have HQ:Hid (Qlt w P v t):=h
 have m1:IntKind.u64.wrap (p:Int)=(p:Int):=IntWalk.u64_in _ ⟨by omega,by omega⟩
 have m2:IntKind.u64.wrap (t.n:Int)=(t.n:Int):=IntWalk.u64_in _ ⟨by omega,by omega⟩
 by_cases h2:p<2
 ·have q1:decide ((p:Int)<2)=true:=decide_eq_true (by omega)
  have e1:plcB t p=false:=by unfold plcB;rw[decide_eq_false (by omega)];rfl
  have eT:takeE v t p=2:=by unfold takeE;rw[e1];simp
  have eG:giveE v t p=2:=by unfold giveE;rw[e1];simp
  rw[eT,eG]
  clear h hk e1 eT eG
  cases TG with
  |true=>
   show Calls Tryz.prog 30 _ _ _
   go_enter Tryz.func30,Tryz.ntmps30
   go_wp2_with fail
   go_ret
   exact⟨rfl,HQ.out,But.refl _ _⟩
  |false=>
   show Calls Tryz.prog 31 _ _ _
   go_enter Tryz.func31,Tryz.ntmps31
   go_wp2_with fail
   go_ret
   exact⟨rfl,HQ.out,But.refl _ _⟩
 have q1:decide ((p:Int)<2)=false:=decide_eq_false (by omega)
 by_cases hn:p<t.n
 ·have q2:decide ((t.n:Int)≤(p:Int))=false:=decide_eq_false (by omega)
  have q3:(p:Int)<(t.n:Int):=by omega
  have q4:(0:Int)≤(p:Int):=by omega
  have e1:plcB t p=true:=by unfold plcB;rw[decide_eq_true (by omega),decide_eq_true hn];rfl
  obtain⟨cb,zb⟩:=h.tk.cell p hn
  have cb':w.cell? ⟨P.tb,p,none⟩=some (.bool (v.tk p).isSome):=cb
  have zb':w.frozen? ⟨P.tb,p,none⟩=false:=zb
  have q5:decide (t.n≤p)=false:=decide_eq_false (by omega)
  have lt':=h.lt.2
  have HTk:Hid (Qlt (w.setCell ⟨P.tb,p,none⟩ (.bool true)) P (take v p) t∧But P.has w (w.setCell ⟨P.tb,p,none⟩ (.bool true))):=h.mark p hn true rfl rfl fun i _=>by
   show(tput v.tk p (some ()) i).isSome=Rd.at' _ _ _ _
   unfold tput Rd.at'
   split<;>rfl
  have HGv:Hid (Qlt (w.setCell ⟨P.tb,p,none⟩ (.bool false)) P (give v p) t∧But P.has w (w.setCell ⟨P.tb,p,none⟩ (.bool false))):=h.mark p hn false rfl rfl fun i _=>by
   show(tput v.tk p none i).isSome=Rd.at' _ _ _ _
   unfold tput Rd.at'
   split<;>rfl
  have eT:takeE v t p=if(v.tk p).isSome=true then 2 else 0:=by unfold takeE;rw[e1];cases(v.tk p).isSome<;>simp
  have eG:giveE v t p=if(v.tk p).isSome=true then 0 else 2:=by unfold giveE;rw[e1];cases(v.tk p).isSome<;>simp
  rw[eT,eG]
  clear h hk e1 eT eG cb zb
  cases hb:(v.tk p).isSome<;>rw[hb] at cb'<;>cases TG
  ·show Calls Tryz.prog 31 _ _ _
   go_enter Tryz.func31,Tryz.ntmps31
   go_wp2_with fail
   go_ret
   exact⟨rfl,HQ.out,But.refl _ _⟩
  ·show Calls Tryz.prog 30 _ _ _
   go_enter Tryz.func30,Tryz.ntmps30
   go_wp2_with fail
   go_ret
   exact⟨rfl,by simpa using HTk.out.1,by simpa using HTk.out.2⟩
  ·show Calls Tryz.prog 31 _ _ _
   go_enter Tryz.func31,Tryz.ntmps31
   go_wp2_with fail
   go_ret
   exact⟨rfl,by simpa using HGv.out.1,by simpa using HGv.out.2⟩
  ·show Calls Tryz.prog 30 _ _ _
   go_enter Tryz.func30,Tryz.ntmps30
   go_wp2_with fail
   go_ret
   exact⟨rfl,HQ.out,But.refl _ _⟩
 ·have q2:decide ((t.n:Int)≤(p:Int))=true:=decide_eq_true (by omega)
  have q3:¬(p:Int)<(t.n:Int):=by omega
  have q5:decide (t.n≤p)=true:=decide_eq_true (by omega)
  have e1:plcB t p=false:=by unfold plcB;rw[decide_eq_false hn,Bool.and_false]
  have eT:takeE v t p=2:=by unfold takeE;rw[e1];simp
  have eG:giveE v t p=2:=by unfold giveE;rw[e1];simp
  rw[eT,eG]
  clear h hk e1 eT eG
  cases TG with
  |true=>
   show Calls Tryz.prog 30 _ _ _
   go_enter Tryz.func30,Tryz.ntmps30
   go_wp2_with fail
   go_ret
   exact⟨rfl,HQ.out,But.refl _ _⟩
  |false=>
   show Calls Tryz.prog 31 _ _ _
   go_enter Tryz.func31,Tryz.ntmps31
   go_wp2_with fail
   go_ret
   exact⟨rfl,HQ.out,But.refl _ _⟩
theorem fe21:Rk.feS (krs 2) 1=0:=by kernel_rfl
theorem krs2_len:(krs 2).length=2:=krs_len 2
theorem results_four {fn:Func} {a b c d:Tmp} (h:fn.results=#[.tmp a,.tmp b,.tmp c,.tmp d]) (tmps:Array Value) (w:World):(results fn tmps).run Tryz.prog w=.ok (.tuple #[tmps.getD a undef,tmps.getD b undef,tmps.getD c undef,tmps.getD d undef]) w:=by
 simp[results,h,go_sem]
theorem made_any (Kt:Nat→Int) (n:Nat) (h4:4≤n) (hn:n≤4096) (w:World) (hT:Rs.Tb Kt w):
  Calls Tryz.prog 5 #[.int .i64 (n:Int)] w fun e w'=>∃ (A:Pl) (q:Nat),e=.returned (.tuple #[pt A.g,pt A.d,pt q,.bool true])∧Vlt w' A (newV (krs 2) 1 7) (Rd.newS n)∧(∀ k,A.has k→w.heap.size≤k)∧Below w.heap.size w w':=by
 have HD:Hid (∀ _:True,_):=fun _=>Rd.new_any n h4 hn w
 have HR:Hid (∀ W,_):=fun W=>Rd.rnew_any n h4 hn W
 have HG:Hid (∀ W,_):=fun W=>ring_any 2 (by omega) W
 have HTB:Hid (Rs.Tb Kt w):=hT
 have ht1:3<w.heap.size:=by obtain⟨⟨_,_,h⟩,_⟩:=hT;exact hlt h
 have ht2:2<w.heap.size:=by obtain⟨_,_,_,h⟩:=hT;exact hlt h
 have HLT:Hid (3<w.heap.size∧2<w.heap.size):=⟨ht1,ht2⟩
 have HOK:Hid (Ok (Rd.newS n)):=Rd.newS_ok n h4 hn
 clear hT ht1 ht2
 go_enter Tryz.func5,Tryz.ntmps5
 go_wp2_with fail
 refine Calls.mono (HD.out trivial) ?_
 rintro e w1 ⟨d,b,m,rfl,hd,ld,lb,lm,b1⟩
 have HB1:Hid (Below w.heap.size w w1):=b1
 have HD1:Hid (Dev w1 d b m (Rd.newS n)):=hd
 have HL:Hid (w.heap.size≤d∧w.heap.size≤b∧w.heap.size≤m):=⟨ld,lb,lm⟩
 clear hd ld lb lm b1 HD
 go_wp2_with fail
 refine Calls.mono (HR.out _) ?_
 rintro e w2 ⟨r,x,rfl,hf,-,b2⟩
 have HB2:Hid (Below w.heap.size w w2):=HB1.out.trans (b2.mono HB1.out.size)
 have HD2:Hid (Dev w2 d b m (Rd.newS n)):=HD1.out.below b2 (Nat.le_refl _)
 have HF2:Hid (Rd.Rf w2 r x (Rd.newS n)):=hf
 clear hf b2 HR HB1 HD1
 go_wp2_with fail
 refine Calls.mono (HG.out _) ?_
 rintro e w3 ⟨o3,cap3,rfl,hr3,-,b3⟩
 have HB3:Hid (Below w.heap.size w w3):=HB2.out.trans (b3.mono HB2.out.size)
 have HD3:Hid (Dev w3 d b m (Rd.newS n)):=HD2.out.below b3 (Nat.le_refl _)
 have HF3:Hid (Rd.Rf w3 r x (Rd.newS n)):=HF2.out.below b3 (Nat.le_refl _)
 have HN:Hid (∀ _:True,_):=fun _=>vnew_ok Kt d b m (Rd.newS n) (krs 2) 1 7 o3 cap3 w3 HD3.out (by have:=HLT.out;have:=HL.out;rintro(e|e|e)<;>omega) (by have:=HLT.out;have:=HL.out;rintro(e|e|e)<;>omega) (HTB.out.below HB3.out (Nat.le_refl _)) hr3 fe21
 rw[krs2_len] at HN
 clear hr3 b3 HB2 HD2 HF2
 go_wp2_with fail
 refine Calls.mono (HN.out trivial) ?_
 rintro e w4 ⟨A,rfl,hv4,⟨rfl,rfl,rfl⟩,lg,lt,b4⟩
 have HB4:Hid (Below w.heap.size w w4):=HB3.out.trans (b4.mono HB3.out.size)
 have HV4:Hid (Vlt w4 A (newV (krs 2) 1 7) (Rd.newS n)):=hv4
 have HF4:Hid (Rd.Rf w4 r x (Rd.newS n)):=HF3.out.below b4 (Nat.le_refl _)
 have HA:Hid (∀ k,A.has k→w.heap.size≤k):=fun k hk=>by
  have h1:=HB3.out.size
  have h2:=HL.out
  rcases hk with e|e|e|e|e<;>omega
 clear hv4 lg lt b4 HN HB3 HD3 HF3
 go_wp2_with fail
 refine Calls.mono (HG.out _) ?_
 rintro e w5 ⟨o5,cap5,rfl,hr5,-,b5⟩
 have HB5:Hid (Below w.heap.size w w5):=HB4.out.trans (b5.mono HB4.out.size)
 have HV5:Hid (Vlt w5 A (newV (krs 2) 1 7) (Rd.newS n)):=HV4.out.below b5 (Nat.le_refl _)
 have HW:Hid (∀ _:True,_):=fun _=>wnew_any r x (Rd.newS n) (krs 2) 1 7 o5 cap5 w5 (HF4.out.below b5 (Nat.le_refl _)) HOK.out hr5 fe21
 rw[krs2_len] at HW
 clear hr5 b5 HB4 HV4 HF4 HG
 go_wp2_with fail
 refine Calls.mono (HW.out trivial) ?_
 rintro e w6 ⟨q,rfl,b6⟩
 have HB6:Hid (Below w.heap.size w w6):=HB5.out.trans (b6.mono HB5.out.size)
 have HV6:Hid (Vlt w6 A (newV (krs 2) 1 7) (Rd.newS n)):=HV5.out.below b6 (Nat.le_refl _)
 clear b6 HW HB5 HV5
 go_wp2_with fail
 refine bodyPost_ret (results_four rfl _ _) rfl ?_
 exact⟨A,q,rfl,HV6.out,HA.out,HB6.out⟩
structure Hon (t:St):Prop where
 ok:Ok t
 e:t.ended=false
 c:t.cut=false
 b:∀ p,t.bad p=false
theorem hon_new (n:Nat) (h0:4≤n) (h1:n≤4096):Hon (Rd.newS n):=⟨Rd.newS_ok n h0 h1,rfl,rfl,fun _=>rfl⟩
theorem hon_read {t:St} (h:Hon t) {q:Nat} (hq:q<t.n):Rd.readE t q=0∧Rd.readV t q=(t.pd q).getD (t.tx q):=by
 have:Rd.readE t q=0:=by unfold Rd.readE;rw[if_pos hq,h.e,h.b];rfl
 exact⟨this,by unfold Rd.readV;rw[if_pos this];rfl⟩
theorem hon_ops {t:St} (h:Hon t):Rd.opOk t=true∧Rd.opS t=t:=by
 have h1:Rd.opOk t=true:=by unfold Rd.opOk;rw[h.e,h.c];rfl
 refine⟨h1,?_⟩
 unfold Rd.opS
 rw[if_pos h1,h.c]
 obtain⟨a,b,c,d,e,f,g,i,j,k⟩:=t
 have:=h.c
 simp only at this
 subst this
 rfl
theorem hon_write {t:St} (h:Hon t) {p:Nat} (hp:p<t.n) {B:ByteArray} (hB:B.size=256):
  Rd.writeE t p B=0∧Hon (Rd.writeS t p B)∧(Rd.writeS t p B).n=t.n∧(∀ q,q<t.n→Rd.readV (Rd.writeS t p B) q=if q=p then B else Rd.readV t q):=by
 have hf:Rd.fitS t p B=true:=by unfold Rd.fitS;rw[decide_eq_true hp,decide_eq_true hB];rfl
 obtain⟨o1,o2⟩:=hon_ops h
 have hE:Rd.writeE t p B=0:=by unfold Rd.writeE;rw[hf,o1];rfl
 have hS:Rd.writeS t p B={ t with pd:=Rd.put t.pd p (some B) }:=by
  unfold Rd.writeS;rw[hf,o1,o2];rfl
 have hH:Hon (Rd.writeS t p B):=⟨Rd.writeS_ok h.ok p B,by rw[hS];exact h.e,by rw[hS];exact h.c,by rw[hS];exact h.b⟩
 have hn:(Rd.writeS t p B).n=t.n:=by rw[hS]
 refine⟨hE,hH,hn,fun q hq=>?_⟩
 rw[(hon_read hH (by rw[hn];exact hq)).2,(hon_read h hq).2,hS]
 simp only[Rd.put]
 split<;>rfl
structure Vok (v:Vs):Prop where
 f:Rk.feS v.ring v.gen=0
 g0:0≤v.gen
 g1:v.gen<4294967296
 b0:0≤v.boot
 b1:v.boot<4294967296
 s:v.seals≤1000000
theorem Vok.fits {v:Vs} (h:Vok v) {p:Nat} (hp:p≤4096):Rs.fits (hd v p):=by
 have:=h.s
 exact⟨⟨by simp only[hd];omega,by simp only[hd];omega⟩,⟨h.g0,h.g1⟩,⟨h.b0,h.b1⟩,by simp only[hd];omega,by simp only[hd];omega⟩
abbrev blk (Kt:Nat→Int) (v:Vs) (p:Nat) (s:ByteArray):ByteArray:=Rs.sV Kt v.ring (hd v p) s
theorem Vok.se {v:Vs} (h:Vok v) (p:Nat) {s:ByteArray} (hs:s.size≤198):Rs.sE v.ring (hd v p) s=0:=(Rs.se_zero v.ring (hd v p) s).2 ⟨h.f,hs⟩
def seal1 (v:Vs):Vs:={ v with seals:=v.seals+1 }
theorem put_honest (Kt:Nat→Int) {v:Vs} {t:St} (hv:Vok v) (ht:Hon t) {p:Nat} (hp:p<t.n) {s:ByteArray} (hs:s.size≤198):
  putE Kt v t p s=0∧putV Kt v t p s=Rs.tagS (blk Kt v p s)∧putN v p s=seal1 v∧putT Kt v t p s=Rd.writeS t p (blk Kt v p s):=by
 have hn1:=ht.ok.n1
 have h0:=hv.se p hs
 have hz:=(Rs.open_seal Kt v.ring (hd v p) (hv.fits (by omega)) s h0).1
 have hE:putE Kt v t p s=0:=by unfold putE;rw[if_pos h0];exact(hon_write ht hp hz).1
 refine⟨hE,?_,?_,?_⟩
 ·unfold putV;rw[if_pos hE]
 ·unfold putN;rw[if_pos h0];rfl
 ·unfold putT;rw[if_pos h0]
theorem write_honest (Kt:Nat→Int) (A:Pl) (v:Vs) (t:St) (s:ByteArray) (hs:s.size≤198) (p:Nat) (w:World) (hw:Vlt w A v t) (hv:Vok v) (ht:Hon t) (hT:Rs.Tb Kt w) (hl:leastS v.tk t.n=some p) (hp:p<t.n):
  Calls Tryz.prog 13 #[pt A.g,.string s] w fun e w'=>e=.returned (.tuple #[rf p (Rs.tagS (blk Kt v p s)),.int .i64 0])∧Vlt w' A (take (seal1 v) p) (Rd.writeS t p (blk Kt v p s))∧But A.has w w':=by
 have hn1:=ht.ok.n1
 have hs2:=hv.s
 obtain⟨h1,h2,h3,h4⟩:=put_honest Kt hv ht hp hs
 refine(write_put Kt A v t s hs w hw ht.ok hT (hv.fits (by omega)) (by omega) hl hp).mono ?_
 rintro e w' ⟨⟨-,he,hx⟩|⟨hx,-⟩,hb⟩
 ·rw[h2] at he
  rw[h3,h4] at hx
  exact⟨he,hx,hb⟩
 ·exact absurd h1 hx
theorem nums_app (a b:List Int):strOfNums (a++b)=strOfNums a++strOfNums b:=by
 apply ByteArray.ext
 simp[strOfNums]
theorem put4 (h:Rs.Hd):(Rs.putS h).extract 0 4=strOfNums (Rp.upto (Rs.le h.1) 4):=by
 unfold Rs.putS
 rw[←Rs.put_list,List.append_assoc,List.append_assoc,List.append_assoc,nums_app]
 exact Rs.ext_app_left _ _ 4 (by rw[strOfNums_size,Rp.upto_length])
theorem tag_size {b:ByteArray} (h:b.size=256):(Rs.tagS b).size=32:=by
 unfold Rs.tagS
 rw[ByteArray.size_extract,h]
 rfl
theorem page_honest (Kt:Nat→Int) {v:Vs} {t:St} (ht:Hon t) {p:Nat} (h2:2≤p) (hp:p<t.n) {h:Rs.Hd} (hf:Rs.fits h) (hh:h.1=(p:Int)) {s:ByteArray} (h0:Rs.sE v.ring h s=0) (hr:Rd.readV t p=Rs.sV Kt v.ring h s):
  pgE Kt v t p (Rs.tagS (Rs.sV Kt v.ring h s))=0∧pgS Kt v t p (Rs.tagS (Rs.sV Kt v.ring h s))=s∧pgH Kt v t p (Rs.tagS (Rs.sV Kt v.ring h s))=h:=by
 obtain⟨z1,z2,z3,z4,z5⟩:=Rs.open_seal Kt v.ring h hf s h0
 have hrr:rref p (Rs.tagS (Rs.sV Kt v.ring h s))=true:=by unfold rref;rw[decide_eq_true h2,decide_eq_true (tag_size z1)];rfl
 have hre:=(hon_read ht hp).1
 have hsy:says (Rs.sV Kt v.ring h s) p=true:=by
  unfold says plc
  refine decide_eq_true ?_
  have e1:(Rs.sV Kt v.ring h s).extract 0 4=((Rs.sV Kt v.ring h s).extract 0 24).extract 0 4:=by rw[Rs.ext_ext _ 0 24 0 4 (by omega)]
  rw[e1,z2,put4,put4,hh]
 have hm:meant t p (Rs.tagS (Rs.sV Kt v.ring h s))=true:=by unfold meant;rw[hr,decide_eq_true rfl,hsy];rfl
 refine⟨?_,?_,?_⟩
 ·unfold pgE opE;rw[if_pos hrr,if_pos hre,if_pos hm,hr];exact z3
 ·unfold pgS opS;rw[if_pos hrr,if_pos ⟨hre,hm⟩,hr];exact z5
 ·unfold pgH opH;rw[if_pos hrr,if_pos ⟨hre,hm⟩,hr];exact z4
theorem Vok.next {v:Vs} (h:Vok v) (hs:v.seals<1000000) (p:Nat):Vok (take (seal1 v) p):=⟨h.f,h.g0,h.g1,h.b0,h.b1,by show v.seals+1≤_;omega⟩
theorem Vok.given {v:Vs} (h:Vok v) (p:Nat):Vok (give v p):=⟨h.f,h.g0,h.g1,h.b0,h.b1,h.s⟩
theorem vok_new:Vok (newV (krs 2) 1 7):=⟨fe21,by decide,by decide,by decide,by decide,by decide⟩
def e0:Vs:=newV (krs 2) 1 7
def e1:Vs:=take (seal1 e0) 2
def e2:Vs:=take (seal1 e1) 3
def e3:Vs:=give e2 2
def e4:Vs:=take (seal1 e3) 2
theorem le0:leastS e0.tk 6=some 2:=by kernel_rfl
theorem le1:leastS e1.tk 6=some 3:=by kernel_rfl
theorem le3:leastS e3.tk 6=some 2:=by kernel_rfl
theorem tk2:(e2.tk 2).isSome=true:=by kernel_rfl
theorem FB.above {g:Nat} {a:Int} {s:ByteArray} {A:Pl} {L:Nat} {W W':World} (h:FB g a s W) (hb:But A.has W W') (hA:∀ k,A.has k→k<L) (hg:L≤g):FB g a s W':=h.but hb fun e=>by have:=hA _ e;omega
theorem tb_above {Kt:Nat→Int} {w W:World} (h:Rs.Tb Kt w) {A:Pl} {w1:World} (h1:Below w.heap.size w w1) (hA:∀ k,A.has k→w.heap.size≤k) (hb:But A.has w1 W):Rs.Tb Kt W:=
 h.below (h1.trans (hb.below hA h1.size)) (Nat.le_refl _)
theorem shown_any (Kt:Nat→Int) (w:World) (hT:Rs.Tb Kt w):Calls Tryz.prog 4 #[] w fun e w'=>e=.returned (.bool true)∧Below w.heap.size w w':=by
 have HT:Hid (Rs.Tb Kt w):=hT
 have HM:Hid (∀ _:True,_):=fun _=>made_any Kt 6 (by omega) (by omega) w hT
 have o0:Vok e0:=vok_new
 have o1:Vok e1:=o0.next (by decide) 2
 have o2:Vok e2:=o1.next (by decide) 3
 have o3:Vok e3:=o2.given 2
 have h0:=hon_new 6 (by omega) (by omega)
 obtain⟨t0,ht0⟩:∃ t0,Rd.newS 6=t0:=⟨_,rfl⟩
 have n0:t0.n=6:=by rw[←ht0];rfl
 rw[ht0] at h0 HM
 have z1:=(Rs.open_seal Kt e0.ring (hd e0 2) (o0.fits (by omega)) ⟨#[97]⟩ (o0.se 2 (by decide))).1
 obtain⟨-,h1,n1,r1⟩:=hon_write h0 (p:=2) (by omega) z1
 obtain⟨B1,hB1⟩:∃ B1,blk Kt e0 2 ⟨#[97]⟩=B1:=⟨_,rfl⟩
 obtain⟨t1,ht1⟩:∃ t1,Rd.writeS t0 2 B1=t1:=⟨_,rfl⟩
 unfold blk at hB1
 rw[hB1] at h1 n1 r1 z1
 rw[ht1] at h1 n1 r1
 have z2:=(Rs.open_seal Kt e1.ring (hd e1 3) (o1.fits (by omega)) ⟨#[98]⟩ (o1.se 3 (by decide))).1
 obtain⟨-,h2,n2,r2⟩:=hon_write h1 (p:=3) (by omega) z2
 obtain⟨B2,hB2⟩:∃ B2,blk Kt e1 3 ⟨#[98]⟩=B2:=⟨_,rfl⟩
 obtain⟨t2,ht2⟩:∃ t2,Rd.writeS t1 3 B2=t2:=⟨_,rfl⟩
 unfold blk at hB2
 rw[hB2] at h2 n2 r2 z2
 rw[ht2] at h2 n2 r2
 have z4:=(Rs.open_seal Kt e3.ring (hd e3 2) (o3.fits (by omega)) ⟨#[99]⟩ (o3.se 2 (by decide))).1
 obtain⟨-,h4,n4,r4⟩:=hon_write h2 (p:=2) (by omega) z4
 obtain⟨B4,hB4⟩:∃ B4,blk Kt e3 2 ⟨#[99]⟩=B4:=⟨_,rfl⟩
 obtain⟨t4,ht4⟩:∃ t4,Rd.writeS t2 2 B4=t4:=⟨_,rfl⟩
 unfold blk at hB4
 rw[hB4] at h4 n4 r4 z4
 rw[ht4] at h4 n4 r4
 have hrd:Rd.readV t4 3=B2:=by
  rw[r4 3 (by omega),if_neg (by decide),r2 3 (by omega),if_pos rfl]
 have HW1:Hid (∀ A W,Vlt W A e0 t0→Rs.Tb Kt W→Calls Tryz.prog 13 #[pt A.g,.string ⟨#[97]⟩] W fun e w'=>e=.returned (.tuple #[rf 2 (Rs.tagS B1),.int .i64 0])∧Vlt w' A e1 t1∧But A.has W w'):=fun A W hv hT=>by
  have:=write_honest Kt A e0 t0 ⟨#[97]⟩ (by decide) 2 W hv o0 h0 hT (by rw[n0];exact le0) (by omega)
  unfold blk at this
  rw[hB1,ht1] at this
  exact this
 have HW2:Hid (∀ A W,Vlt W A e1 t1→Rs.Tb Kt W→Calls Tryz.prog 13 #[pt A.g,.string ⟨#[98]⟩] W fun e w'=>e=.returned (.tuple #[rf 3 (Rs.tagS B2),.int .i64 0])∧Vlt w' A e2 t2∧But A.has W w'):=fun A W hv hT=>by
  have:=write_honest Kt A e1 t1 ⟨#[98]⟩ (by decide) 3 W hv o1 h1 hT (by rw[n1,n0];exact le1) (by omega)
  unfold blk at this
  rw[hB2,ht2] at this
  exact this
 have HG:Hid (∀ A W,Vlt W A e2 t2→Calls Tryz.prog 14 #[pt A.g,.int .u32 2] W fun e w'=>e=.returned (.int .i64 0)∧Vlt w' A e3 t2∧But A.has W w'):=fun A W hv=>give_ok A e2 t2 2 W hv h2.ok (by omega) (by omega) tk2
 have HW4:Hid (∀ A W,Vlt W A e3 t2→Rs.Tb Kt W→Calls Tryz.prog 13 #[pt A.g,.string ⟨#[99]⟩] W fun e w'=>e=.returned (.tuple #[rf 2 (Rs.tagS B4),.int .i64 0])∧Vlt w' A e4 t4∧But A.has W w'):=fun A W hv hT=>by
  have:=write_honest Kt A e3 t2 ⟨#[99]⟩ (by decide) 2 W hv o3 h2 hT (by rw[n2,n1,n0];exact le3) (by omega)
  unfold blk at this
  rw[hB4,ht4] at this
  exact this
 have HRd:Hid (∀ A W,Vlt W A e4 t4→Rs.Tb Kt W→Calls Tryz.prog 15 #[pt A.g,rf 3 (Rs.tagS B2)] W fun e w'=>e=.returned (.tuple #[.string ⟨#[98]⟩,.int .i64 0])∧Below W.heap.size W w'):=fun A W hv hT=>by
  have hp:=page_honest Kt (v:=e4) h4 (p:=3) (by omega) (by omega) (h:=hd e1 3) (o1.fits (by omega)) rfl (s:=⟨#[98]⟩) (o1.se 3 (by decide)) (by rw[hrd];exact hB2.symm)
  have:=read_any Kt A e4 t4 3 (by omega) (Rs.tagS B2) W hv h4.ok hT
  have e5:Rs.sV Kt e4.ring (hd e1 3) ⟨#[98]⟩=B2:=hB2
  rw[e5] at hp
  rw[hp.1,hp.2.1] at this
  exact this
 have HSl:Hid (∀ A W,Vlt W A e4 t4→Calls Tryz.prog 12 #[pt A.g] W fun e w'=>e=.returned (.int .u64 3)∧w'=W):=fun A W hv=>seals_any A e4 t4 W hv
 clear hT o0 o1 o2 o3 h0 ht0 n0 z1 h1 n1 r1 hB1 ht1 z2 h2 n2 r2 hB2 ht2 z4 h4 n4 r4 hB4 ht4 hrd
 obtain⟨g1,hg1⟩:∃ g1,Rs.tagS B1=g1:=⟨_,rfl⟩
 obtain⟨g2,hg2⟩:∃ g2,Rs.tagS B2=g2:=⟨_,rfl⟩
 obtain⟨g4,hg4⟩:∃ g4,Rs.tagS B4=g4:=⟨_,rfl⟩
 rw[hg1] at HW1
 rw[hg2] at HW2 HRd
 rw[hg4] at HW4
 clear hg1 hg2 hg4
 have HM2:Hid (∀ _:True,Calls Tryz.prog 5 #[.int .i64 6] w fun e w'=>∃ (A:Pl) (q:Nat),e=.returned (.tuple #[pt A.g,pt A.d,pt q,.bool true])∧Vlt w' A e0 t0∧(∀ k,A.has k→w.heap.size≤k)∧Below w.heap.size w w'):=HM.out
 clear HM
 go_enter Tryz.func4,Tryz.ntmps4
 go_wp2_with fail
 refine Calls.mono (HM2.out trivial) ?_
 rintro e w1 ⟨A,q,rfl,hv1,hA,b1⟩
 have HB1:Hid (Below w.heap.size w w1):=b1
 have HLo:Hid (∀ k,A.has k→w.heap.size≤k):=hA
 have HHi:Hid (∀ k,A.has k→k<w1.heap.size):=fun k hk=>hv1.has_lt hk
 have HV1:Hid (Vlt w1 A e0 t0):=hv1
 have HQ1:Hid (But A.has w1 w1):=But.refl _ _
 clear hA b1 hv1 HM2
 go_wp2_with fail
 refine Calls.mono (HW1.out A w1 HV1.out (tb_above HT.out HB1.out HLo.out HQ1.out)) ?_
 rintro e w2 ⟨rfl,hv2,b2⟩
 have HQ2:Hid (But A.has w1 w2):=HQ1.out.trans b2
 have q3:=below_new w2 (.cells #[.int .u32 (2:Int),.string g1] 48)
 have a3:FB w2.heap.size 2 g1 (w2.alloc (.cells #[.int .u32 (2:Int),.string g1] 48)):=heap_alloc_new w2 _
 obtain⟨w3,hw3⟩:∃ w3,w2.alloc (.cells #[.int .u32 (2:Int),.string g1] 48)=w3:=⟨_,rfl⟩
 rw[hw3] at q3 a3
 have HW3f:Hid _:=hw3
 have HV3:Hid (Vlt w3 A e1 t1):=hv2.below q3 (Nat.le_refl _)
 have HQ3:Hid (But A.has w1 w3):=but_above HQ2.out (q3.mono HQ2.out.size)
 have Fa3:Hid (FB w2.heap.size 2 g1 w3):=a3
 have La:w1.heap.size≤w2.heap.size:=HQ2.out.size
 clear hv2 b2 HQ1 HV1 HW1 q3 a3 hw3 HQ2
 go_wp2_with (first|(rw[HW3f.out];clear HW3f))
 refine Calls.mono (HW2.out A w3 HV3.out (tb_above HT.out HB1.out HLo.out HQ3.out)) ?_
 rintro e w4 ⟨rfl,hv4,b4⟩
 have HQ4:Hid (But A.has w1 w4):=HQ3.out.trans b4
 have Fa4:Hid (FB w2.heap.size 2 g1 w4):=Fa3.out.above b4 HHi.out La
 have q5:=below_new w4 (.cells #[.int .u32 (3:Int),.string g2] 48)
 have a5:FB w4.heap.size 3 g2 (w4.alloc (.cells #[.int .u32 (3:Int),.string g2] 48)):=heap_alloc_new w4 _
 obtain⟨w5,hw5⟩:∃ w5,w4.alloc (.cells #[.int .u32 (3:Int),.string g2] 48)=w5:=⟨_,rfl⟩
 rw[hw5] at q5 a5
 have HW5f:Hid _:=hw5
 have HV5:Hid (Vlt w5 A e2 t2):=hv4.below q5 (Nat.le_refl _)
 have HQ5:Hid (But A.has w1 w5):=but_above HQ4.out (q5.mono HQ4.out.size)
 have Fa5:Hid (FB w2.heap.size 2 g1 w5):=Fa4.out.grow q5
 have Fb5:Hid (FB w4.heap.size 3 g2 w5):=a5
 have Lb:w1.heap.size≤w4.heap.size:=HQ4.out.size
 clear hv4 b4 HQ3 HV3 HW2 Fa3 Fa4 q5 a5 hw5 HQ4
 go_wp2_with (first|(rw[HW5f.out];clear HW5f))
 refine Calls.mono (HG.out A w5 HV5.out) ?_
 rintro e w6 ⟨rfl,hv6,b6⟩
 have HQ6:Hid (But A.has w1 w6):=HQ5.out.trans b6
 have HV6:Hid (Vlt w6 A e3 t2):=hv6
 have Fa6:Hid (FB w2.heap.size 2 g1 w6):=Fa5.out.above b6 HHi.out La
 have Fb6:Hid (FB w4.heap.size 3 g2 w6):=Fb5.out.above b6 HHi.out Lb
 clear hv6 b6 HQ5 HV5 HG Fa5 Fb5
 go_wp2_with fail
 refine Calls.mono (HW4.out A w6 HV6.out (tb_above HT.out HB1.out HLo.out HQ6.out)) ?_
 rintro e w7 ⟨rfl,hv7,b7⟩
 have HQ7:Hid (But A.has w1 w7):=HQ6.out.trans b7
 have Fa7:Hid (FB w2.heap.size 2 g1 w7):=Fa6.out.above b7 HHi.out La
 have Fb7:Hid (FB w4.heap.size 3 g2 w7):=Fb6.out.above b7 HHi.out Lb
 have q8:=below_new w7 (.cells #[.int .u32 (2:Int),.string g4] 48)
 have a8:FB w7.heap.size 2 g4 (w7.alloc (.cells #[.int .u32 (2:Int),.string g4] 48)):=heap_alloc_new w7 _
 obtain⟨w8,hw8⟩:∃ w8,w7.alloc (.cells #[.int .u32 (2:Int),.string g4] 48)=w8:=⟨_,rfl⟩
 rw[hw8] at q8 a8
 have HW8f:Hid _:=hw8
 have HV8:Hid (Vlt w8 A e4 t4):=hv7.below q8 (Nat.le_refl _)
 have HQ8:Hid (But A.has w1 w8):=but_above HQ7.out (q8.mono HQ7.out.size)
 have Fa8:Hid (FB w2.heap.size 2 g1 w8):=Fa7.out.grow q8
 have Fb8:Hid (FB w4.heap.size 3 g2 w8):=Fb7.out.grow q8
 have Fc8:Hid (FB w7.heap.size 2 g4 w8):=a8
 have Lc:w1.heap.size≤w7.heap.size:=HQ7.out.size
 clear hv7 b7 HQ6 HV6 HW4 Fa6 Fb6 Fa7 Fb7 q8 a8 hw8 HQ7
 obtain⟨-,-,x0,x1⟩:=Fb8.out.facts
 have lb9:=hlt Fb8.out
 go_wp2_with (first|(rw[HW8f.out];clear HW8f))
 refine Calls.mono (HRd.out A w8 HV8.out (tb_above HT.out HB1.out HLo.out HQ8.out)) ?_
 rintro e w9 ⟨rfl,b9⟩
 have HV9:Hid (Vlt w9 A e4 t4):=HV8.out.below b9 (Nat.le_refl _)
 have HQ9:Hid (But A.has w1 w9):=but_above HQ8.out (b9.mono HQ8.out.size)
 obtain⟨-,-,x2,x3⟩:=(Fa8.out.grow b9).facts
 obtain⟨-,-,x4,x5⟩:=(Fb8.out.grow b9).facts
 obtain⟨-,-,x6,x7⟩:=(Fc8.out.grow b9).facts
 have l2:=hlt (Fa8.out.grow b9)
 have l4:=hlt (Fb8.out.grow b9)
 have l6:=hlt (Fc8.out.grow b9)
 clear b9 HRd x0 x1 lb9 HQ8 HV8 Fa8 Fb8 Fc8
 go_wp2_with fail
 refine Calls.mono (HSl.out A w9 HV9.out) ?_
 rintro e w9 ⟨rfl,hw9⟩
 have hw9':=hw9.symm
 clear hw9
 subst hw9'
 go_wp2_with fail
 go_ret
 exact⟨rfl,HB1.out.trans (HQ9.out.below HLo.out HB1.out.size)⟩
theorem Tk.len {w:World} {m c:Nat} {f:Nat→Option Unit} (h:Tk w m f c) (ty:TypeId):(Builtin.len_ #[83] ty #[.map (some m)]).run Tryz.prog w=.ok (.int .i64 (c:Int)) w:=by
 obtain⟨es,cl,h1,h2,-⟩:=h
 simp[Builtin.len_,run_underlying Tryz.underlying83,MapKept.run_getObj_map h1,Result.andThen,h2.2]
 rfl
def VL6 (g:Nat) (a:Value) (m k:Nat) (w:World):Prop:=w.cell? ⟨g,0,none⟩=some a∧w.cell? ⟨g,5,none⟩=some (.map (some m))∧(Builtin.len_ #[83] 3 #[.map (some m)]).run Tryz.prog w=.ok (.int .i64 (k:Int)) w
theorem vfree_any (A:Pl) (v:Vs) (t:St) (w:World) (hv:Vlt w A v t) (hk:Ok t) (hn:v.nt≤t.n):
  Calls Tryz.prog 10 #[pt A.g] w fun e w'=>e=.returned (.int .i64 ((t.n - v.nt:Nat):Int))∧Below w.heap.size w w':=by
 have HN:Hid (∀ _:True,_):=fun _=>vnone_any A v t w hv
 have HBk:Hid (∀ _:True,_):=fun _=>Rd.blocks_any A.d A.b A.m t w.drew (hv.dev.below (Below.refl _ w).drew (Nat.le_refl _))
 have h6:=v6_of hv.self.1
 have n1:=hk.n1
 have HSW0:Hid (VL6 A.g (pt A.d) A.tm v.nt w.drew):=⟨h6.1,h6.2.2.2.2.2,(hv.below (Below.refl _ w).drew (Nat.le_refl _)).map.len 3⟩
 obtain⟨n,hnn⟩:∃ n,t.n=n:=⟨_,rfl⟩
 obtain⟨k,hkk⟩:∃ k,v.nt=k:=⟨_,rfl⟩
 rw[hnn] at HBk n1 hn ⊢
 rw[hkk] at HSW0 hn ⊢
 have q1:IntKind.i64.wrap ((n:Int) - (k:Int))=((n - k:Nat):Int):=by
  rw[IntWalk.i64_in _ ⟨by omega,by omega⟩];omega
 have lg:=hv.lt.1
 obtain⟨r,hr⟩:∃ r,n - k=r:=⟨_,rfl⟩
 rw[hr] at q1 ⊢
 have q2:(if(r:Int)<0 then(0:Int) else(r:Int))=(r:Int):=if_neg (by omega)
 clear hv hk h6 hnn hkk hr hn
 go_enter Tryz.func10,Tryz.ntmps10
 go_wp2_with fail
 refine Calls.mono (HN.out trivial) ?_
 rintro e w1 ⟨rfl,hw1⟩
 have hw1':=hw1.symm
 clear hw1 HN
 subst hw1'
 go_wp2_with fail
 refine wp_region_held (S:=VL6 A.g (pt A.d) A.tm k) (by kernel_rfl) ?_
 change wpAnyH _ _ _ _ _ _ _ _ (World.drew _)
 have HSW:Hid (VL6 A.g (pt A.d) A.tm k w.drew):=HSW0.out
 refine plan [0,1,2,3,5,6,7,8] ?_
 iterate 8
  refine tkH (v:=?_) rfl (by kernel_rfl) (fun _ _ _ h=>h) (by kernel_rfl) ?_ HSW.out ?_
  rotate_left
  ·rintro w ⟨e0,e5,e6⟩;go_simp;try with_reducible rfl
  conv in(Act.put _ _ _)=>simp only[List.getElem_toArray,List.getElem_cons_succ,List.getElem_cons_zero,Act.put,List.setIfInBounds_toArray,List.set_cons_succ,List.set_cons_zero]
 refine plan0 ?_
 refine readyH 4 _ (by kernel_rfl) rfl (by kernel_rfl) (fun K hK=>?_)
 go_simp
 refine Calls.mono (HBk.out trivial) ?_
 rintro e w2 ⟨rfl,hw2⟩
 have hw2':=hw2.symm
 clear hw2
 subst hw2'
 refine hK _ _ HSW.out ?_
 clear hK K
 refine plan [9,10,11,12] ?_
 iterate 4
  refine tkH (v:=?_) rfl (by kernel_rfl) (fun _ _ _ h=>h) (by kernel_rfl) ?_ HSW.out ?_
  rotate_left
  ·rintro w ⟨e0,e5,e6⟩;go_simp;try with_reducible rfl
  conv in(Act.put _ _ _)=>simp only[List.getElem_toArray,List.getElem_cons_succ,List.getElem_cons_zero,Act.put,List.setIfInBounds_toArray,List.set_cons_succ,List.set_cons_zero]
 refine plan0 ?_
 refine wpAnyH_done (by kernel_rfl) ?_ _
 go_wp2_with fail
 go_ret
 exact⟨rfl,(Below.refl _ w).drew⟩
def Qp.at' (P:Qp) (o:Option Addr) (cap:Nat):Qp:={ P with o:=o,cap:=cap }
theorem Qlt.turned {w:World} {P:Qp} {v:Vs} {t:St} (h:Qlt w P v t) (l:List Rk.Ky) (g:Int) (o:Option Addr) (cap:Nat) (hr:Rk.Ring w o cap l) (hn:∀ b off,o=some ⟨b,off,none⟩→l≠[]→¬P.has b):
  Qlt ((w.setCell ⟨P.q,1,none⟩ (.slice o l.length cap)).setCell ⟨P.q,2,none⟩ (.int .u32 g)) (P.at' o cap) (turn v l g) t∧But (fun k=>k=P.q) w ((w.setCell ⟨P.q,1,none⟩ (.slice o l.length cap)).setCell ⟨P.q,2,none⟩ (.int .u32 g)):=by
 have hb:But (fun k=>k=P.q) w ((w.setCell ⟨P.q,1,none⟩ (.slice o l.length cap)).setCell ⟨P.q,2,none⟩ (.int .u32 g)):=(But.set (S:=fun k=>k=P.q) w P.q 1 (.slice o l.length cap) rfl).trans (But.set (S:=fun k=>k=P.q) _ P.q 2 (.int .u32 g) rfl)
 have ho:∀ k,k≠P.q→((w.setCell ⟨P.q,1,none⟩ (.slice o l.length cap)).setCell ⟨P.q,2,none⟩ (.int .u32 g)).heap[k]? =w.heap[k]? :=fun k hk=>by
  rw[Below.heap_setCell _ _ _ _ (by exact hk),Below.heap_setCell _ _ _ _ (by exact hk)]
 refine⟨⟨?_,ring_same (P:=P.at' o cap) hr hn hb.size (fun k hk hn=>hb.block k hk fun e=>hn (.inl e)),hn,h.tk.same (ho _ fun e=>h.qt e.symm),h.dev.same fun k hk=>ho k fun e=>h.qr (by rw[←e];exact hk),h.qt,h.qr,h.tr⟩,hb⟩
 exact Rd.set_at _ P.q 2 _ _ _ _ (Rd.set_at w P.q 1 _ _ _ _ h.self)
theorem wturn_ok (P:Qp) (v:Vs) (t:St) (l:List Rk.Ky) (g:Int) (o:Option Addr) (cap:Nat) (w:World) (h:Qlt w P v t) (hr:Rk.Ring w o cap l) (hn:∀ b off,o=some ⟨b,off,none⟩→l≠[]→¬P.has b) (h0:Rk.feS l g=0):
  Calls Tryz.prog 33 #[pt P.q,.slice o l.length cap,.int .u32 g] w fun e w'=>e=.returned (.int .i64 0)∧Qlt w' (P.at' o cap) (turn v l g) t∧But (fun k=>k=P.q) w w':=by
 have HV:Hid (Qlt w P v t):=h
 have HR:Hid (Rk.Ring w o cap l):=hr
 have HNn:Hid (∀ b off,o=some ⟨b,off,none⟩→l≠[]→¬P.has b):=hn
 have HF:Hid (∀ _:True,_):=fun _=>Rk.refFind_any l g o cap w hr
 rw[h0] at HF
 obtain⟨⟨ka,kb⟩,hkk⟩:∃ k,Rk.fkS l g=k:=⟨_,rfl⟩
 rw[hkk] at HF
 simp only[Rk.kv] at HF
 clear h hr hn h0 hkk
 go_enter Tryz.func33,Tryz.ntmps33
 go_wp2_with fail
 refine Calls.mono (HF.out trivial) ?_
 rintro e w2 ⟨rfl,b2⟩
 have b3:=below_new w2 (.cells #[.int .u32 ka,.string kb] 100)
 obtain⟨w4,hW3⟩:∃ W3,w2.alloc (.cells #[.int .u32 ka,.string kb] 100)=W3:=⟨_,rfl⟩
 rw[hW3] at b3
 have HW3:Hid _:=hW3
 have HB4:Hid (Below w.heap.size w w4):=b2.trans (b3.mono b2.size)
 have hv4:=HV.out.below HB4.out (Nat.le_refl _)
 have hst:=hv4.turned l g o cap (HR.out.below HB4.out (Nat.le_refl _)) HNn.out
 obtain⟨c6,cf6⟩:=hv4.cells
 have z1:=cf6 1
 have z2:(w4.setCell ⟨P.q,1,none⟩ (.slice o l.length cap)).frozen? ⟨P.q,2,none⟩=false:=frozen_of_row _ _ _ _ _ (Rd.set_at w4 P.q 1 _ _ _ (.slice o l.length cap) hv4.self)
 have d2:(w4.setCell ⟨P.q,1,none⟩ (.slice o l.length cap)).cell? ⟨P.q,2,none⟩=some (.int .u32 v.gen):=by rw[cell_of_row _ _ _ _ _ _ (Rd.set_at w4 P.q 1 _ _ _ (.slice o l.length cap) hv4.self)];rfl
 have d1:=c6.2.1
 have lg:=hv4.lt.1
 obtain⟨W5,hW5⟩:∃ W5,(w4.setCell ⟨P.q,1,none⟩ (.slice o l.length cap)).setCell ⟨P.q,2,none⟩ (.int .u32 g)=W5:=⟨_,rfl⟩
 rw[hW5] at hst
 have HW5:Hid _:=hW5
 have HV5:Hid (Qlt W5 (P.at' o cap) (turn v l g) t∧But (fun k=>k=P.q) w W5):=⟨hst.1,but_below HB4.out hst.2⟩
 clear hW5 hst hv4 b2 b3 hW3 c6 cf6 HV HR HF
 go_wp2_with (first|(rw[HW3.out];clear HW3)|(rw[HW5.out];clear HW5))
 go_ret
 exact⟨rfl,HV5.out.1,HV5.out.2⟩
theorem wturn_no (q:Nat) (l:List Rk.Ky) (g:Int) (o:Option Addr) (cap:Nat) (w:World) (hr:Rk.Ring w o cap l) (h0:Rk.feS l g≠0):
  Calls Tryz.prog 33 #[pt q,.slice o l.length cap,.int .u32 g] w fun e w'=>e=.returned (.int .i64 (Rk.feS l g))∧Below w.heap.size w w':=by
 have HF:Hid (∀ _:True,_):=fun _=>Rk.refFind_any l g o cap w hr
 generalize Rk.feS l g=E at*
 obtain⟨⟨ka,kb⟩,hkk⟩:∃ k,Rk.fkS l g=k:=⟨_,rfl⟩
 rw[hkk] at HF
 simp only[Rk.kv] at HF
 have hE1:decide (E=0)=false:=decide_eq_false h0
 have hE2:(E==0)=false:=by simpa using h0
 have hE3:(E !=0)=true:=by simpa using h0
 have hE4:¬E=0:=h0
 clear hr h0 hkk
 go_enter Tryz.func33,Tryz.ntmps33
 go_wp2_with fail
 refine Calls.mono (HF.out trivial) ?_
 rintro e w2 ⟨rfl,b2⟩
 have b3:=below_new w2 (.cells #[.int .u32 ka,.string kb] 100)
 have HB3:Hid (Below w.heap.size w (w2.alloc (.cells #[.int .u32 ka,.string kb] 100))):=b2.trans (b3.mono b2.size)
 clear b2 b3 HF
 go_wp2_with fail
 go_ret
 exact⟨rfl,HB3.out⟩
theorem cf_le (tk:Nat→Option Unit) (p:Nat):cf tk p≤p:=by
 unfold cf
 exact Nat.le_trans (List.length_filter_le _ _) (by simp)
theorem wfree_any (P:Qp) (v:Vs) (t:St) (w:World) (h:Qlt w P v t) (hk:Ok t):
  Calls Tryz.prog 11 #[pt P.q] w fun e w'=>e=.returned (.int .i64 (cf v.tk t.n:Int))∧Below w.heap.size w w':=by
 have HV:Hid (Qlt w P v t):=h
 have n1:=hk.n1
 clear h hk
 go_enter Tryz.func11,Tryz.ntmps11
 go_wp2_with fail
 go_loopw [3,4] (fun cv iv wr=>∃ (k c:Nat),iv=.int .i64 (k:Int)∧cv=.int .i64 (c:Int)∧k≤t.n∧c=cf v.tk k∧Below w.heap.size w wr) (fun _ iv _=>t.n - natOf iv)
 case atStart=>exact⟨0,0,rfl,rfl,by omega,rfl,Below.refl _ _⟩
 case round=>
  obtain⟨k,c,rfl,rfl,hkn,hc,hb⟩:=hrel
  have hq:=HV.out.below hb (Nat.le_refl _)
  obtain⟨⟨-,-,-,-,-,c5⟩,-⟩:=hq.cells
  have lg:=hq.lt.1
  have HB:Hid _:=hb
  have HC:Hid (c=cf v.tk k):=hc
  have hck:c≤k:=by rw[hc];exact cf_le _ _
  clear hb hc
  by_cases hlt:k<t.n
  ·have q1:(k:Int)<(t.n:Int):=by omega
   have q0:(0:Int)≤(k:Int):=by omega
   obtain⟨e0,y0⟩:=hq.tk.cell k hlt
   have lt':=hq.lt.2
   have HS:Hid _:=cf_succ v.tk k
   clear hq
   cases hp:(v.tk k).isSome with
   |false=>
    have e0':wr.cell? ⟨P.tb,k,none⟩=some (.bool false):=by rw[e0,hp]
    have HP:Hid _:=hp
    clear e0 hp
    go_wp2_with fail
    go_roundw
    case rel=>exact⟨k+1,c+1,by go_num,by go_num,by omega,by rw[HS.out,HP.out,HC.out];rfl,HB.out⟩
    case measure=>simp[natOf];omega
   |true=>
    have e0':wr.cell? ⟨P.tb,k,none⟩=some (.bool true):=by rw[e0,hp]
    have HP:Hid _:=hp
    clear e0 hp
    go_wp2_with fail
    go_roundw
    case rel=>exact⟨k+1,c,by go_num,rfl,by omega,by rw[HS.out,HP.out,HC.out];rfl,HB.out⟩
    case measure=>simp[natOf];omega
  ·have q1:¬(k:Int)<(t.n:Int):=by omega
   have HK:Hid (k=t.n):=by
    refine(?_:k=t.n)
    omega
   clear hq
   go_wp2_with fail
   go_ret
   exact⟨by rw[HC.out,HK.out];rfl,HB.out⟩
def four (b:ByteArray):Int:=Rp.bt b 0+Rp.bt b 1*256+Rp.bt b 2*65536+Rp.bt b 3*16777216
theorem le4 {n:Int} (h0:0≤n) (h1:n<4294967296):n=Rs.le n 0+Rs.le n 1*256+Rs.le n 2*65536+Rs.le n 3*16777216:=by
 unfold Rs.le
 simp only[Int.pow_zero,Int.pow_succ,Int.one_mul]
 omega
theorem says_four (b:ByteArray) (hb:b.size=256) (p:Nat) (hp:p≤4294967295):says b p=decide (four b=(p:Int)):=by
 unfold says plc
 rw[put4]
 have hr:=fun j=>Rp.bt_range b j
 have hx:∀ j,j<4→Rp.bt (b.extract 0 4) j=Rp.bt b j:=fun j hj=>by rw[Rp.bt_ext _ _ _ _ (by rw[hb];omega),Nat.zero_add]
 have hl:∀ j,0≤Rs.le (p:Int) j∧Rs.le (p:Int) j<256:=fun j=>by unfold Rs.le;omega
 have hs:∀ j,j<4→Rp.bt (strOfNums (Rp.upto (Rs.le (p:Int)) 4)) j=Rs.le (p:Int) j:=fun j hj=>Rp.bt_str _ _ _ hj (hl j).1 (hl j).2
 have hp4:=le4 (n:=(p:Int)) (by omega) (by omega)
 rw[decide_eq_decide]
 constructor
 ·intro e
  have key:∀ j,j<4→Rp.bt b j=Rs.le (p:Int) j:=fun j hj=>by rw[←hx j hj,e,hs j hj]
  unfold four
  rw[key 0 (by omega),key 1 (by omega),key 2 (by omega),key 3 (by omega)]
  exact hp4.symm
 ·intro e
  unfold four at e
  refine Rp.bt_same _ _ (by rw[ByteArray.size_extract,hb,strOfNums_size,Rp.upto_length];rfl) fun j hj=>?_
  rw[ByteArray.size_extract,hb] at hj
  have hj4:j<4:=by omega
  rw[hx j hj4,hs j hj4]
  have r0:=hr 0;have r1:=hr 1;have r2:=hr 2;have r3:=hr 3
  have l0:=hl 0;have l1:=hl 1;have l2:=hl 2;have l3:=hl 3
  obtain rfl|rfl|rfl|rfl:j=0∨j=1∨j=2∨j=3:=by omega
  all_goals omega
theorem four_gv (b:ByteArray) (hb:b.size=256) (h:Rs.gk (b.extract 0 24)=true):four b=(Rs.gv (b.extract 0 24)).1:=by
 have hp:=Rs.put_gv _ h
 have hf:=Rs.gv_fits (b.extract 0 24)
 generalize Rs.gv (b.extract 0 24)=g at*
 have hx:∀ j,j<4→Rp.bt b j=Rs.le g.1 j:=fun j hj=>by
  have e:Rp.bt (b.extract 0 24) j=Rp.bt b j:=by rw[Rp.bt_ext _ _ _ _ (by rw[hb];omega),Nat.zero_add]
  rw[←e,←hp,Rs.bt_put _ _ (by omega)]
  unfold Rs.putN
  rw[if_pos hj]
 unfold four
 rw[hx 0 (by omega),hx 1 (by omega),hx 2 (by omega),hx 3 (by omega)]
 unfold Rs.fits at hf
 exact(le4 (by omega) (by omega)).symm
theorem cf_zero {tk:Nat→Option Unit} {p:Nat} (h:∀ q,q<p→(tk q).isSome=true):cf tk p=0:=by
 unfold cf
 rw[List.length_eq_zero_iff,List.filter_eq_nil_iff]
 intro q hq
 have:=h q (by simpa using hq)
 cases e:tk q<;>simp_all
theorem own_but {S:Nat→Prop} {w w':World} {base n:Nat} {v:Value} {t:TypeId} {k:Nat} {cs:List Value} (h:w.ownsRow base t k v n cs) (hb:But S w w') (hS:∀ g,v.ownBlock=some g→¬S g):w'.ownsRow base t k v n cs:=by
 refine⟨h.1,?_⟩
 rcases h.2 with⟨h1,h2⟩|⟨g,cap',cur,h1,h2,h3,h4⟩
 ·exact .inl ⟨h1,h2⟩
 ·exact .inr ⟨g,cap',cur,h1,h2,(hb.block _ (hlt h3) (hS g (by rw[h1];rfl))).trans h3,h4⟩
theorem own_form {w:World} {base n:Nat} {v:Value} {t:TypeId} {k:Nat} {cs:List Value} (h:w.ownsRow base t k v n cs):∃ o cap,v=.slice o n cap∧(0<n→∃ b,o=some ⟨b,0,none⟩∧b<w.heap.size):=by
 rcases h.2 with⟨h1,h2⟩|⟨g,cap',cur,h1,h2,h3,h4⟩
 ·subst h2;exact⟨none,0,h1,fun h=>by omega⟩
 ·exact⟨some ⟨g,0,none⟩,cap',h1,fun _=>⟨g,rfl,hlt h3⟩⟩
theorem infoRef:(Tryz.prog.info? 48).map (fun i=>(i.zero,i.size,i.bytes))=some (some (.agg #[.int .u32 0,.string ⟨#[]⟩]),2,24):=by kernel_rfl
theorem cell_two (w:World) (a b:Value) (t:TypeId):∀ j u,[a,b][j]? =some u→(w.alloc (.cells #[a,b] t)).cell? ((⟨w.heap.size,0,none⟩:Addr).add j)=some u:=fun j u hj=>by
 match j,hj with
 |0,hj=>rw[Addr.add_lit,cell_of_row _ _ _ _ _ _ (heap_alloc_new w _)];simpa using hj
 |1,hj=>rw[Addr.add_lit,cell_of_row _ _ _ _ _ _ (heap_alloc_new w _)];simpa using hj
 |j+2,hj=>simp at hj
theorem app_ref (w:World) (base n:Nat) (v:Value) (xs:List Value) (p:Int) (s:ByteArray) (ho:w.ownsRow base 48 2 v n xs) (hb:base≤w.heap.size) (hn:n≤1000):
  ∃ v' w',(Builtin.append_ #[29,29] 29 #[v,.slice (some ⟨w.heap.size,0,none⟩) 1 1]).run Tryz.prog (w.alloc (.cells #[.int .u32 p,.string s] 48))=.ok v' w'∧w'.ownsRow base 48 2 v' (n+1) (xs++[.int .u32 p,.string s])∧(w.alloc (.cells #[.int .u32 p,.string s] 48)).grownBy w' v.ownBlock∧(v'.ownBlock=v.ownBlock∨v'.ownBlock=some (w.heap.size+1)):=by
 obtain⟨i0,hi,hz0,hz1,hz2⟩:=info_parts infoRef
 obtain⟨v',w',h1,h2,h3,-,h5⟩:=run_append_own_at (P:=Tryz.prog) (w.alloc (.cells #[.int .u32 p,.string s] 48)) base 29 29 48 i0 _ 2 24 Tryz.underlying29 hi hz0 hz1 hz2 rfl (by decide) v n xs (ho.alloc _) ⟨w.heap.size,0,none⟩ 1 1 [.int .u32 p,.string s] rfl (cell_two _ _ _ _) (fun u hu=>by simp at hu;rcases hu with rfl|rfl<;>rfl) (by simp only[maxLen];omega) (by omega) (by simp;omega)
 exact⟨v',w',h1,h2,h3,by simpa using h5⟩
theorem own_base {w:World} {base n:Nat} {v:Value} {t:TypeId} {k:Nat} {cs:List Value} (h:w.ownsRow base t k v n cs) {g:Nat} (hg:v.ownBlock=some g):base≤g∧g<w.heap.size:=by
 rcases h.2 with⟨h1,h2⟩|⟨g',cap',cur,h1,h2,h3,h4⟩
 ·rw[h1] at hg;cases hg
 ·rw[h1] at hg;cases hg;exact⟨h2,hlt h3⟩
end Go.Proofs.YtfaflomephjkgaaGreatDoor.Rv
