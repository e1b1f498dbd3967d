/- Operations handed in. -/
import Derived.Test.YtfaflomephjkgaaGreatDoorQVRN
import Derived.ChangeSlices
import Derived.ChangeArms
import Derived.DataReads
import Derived.Carry
import Derived.OpenShut
import Derived.ShutString
import Derived.Test.YtfaflomephjkgaaGreatDoorQVd6
import Derived.Test.YtfaflomephjkgaaGreatDoorPREi
import Derived.Test.YtfaflomephjkgaaGreatDoorQVM
import Derived.Deep.RegionHeld3
set_option maxRecDepth 100000
set_option maxHeartbeats 8000000
namespace Go.Proofs.YtfaflomephjkgaaGreatDoor.Rv
open Go.RowKit Go.Lib
structure VoAt (w:World) (b i:Nat) (x:Vo):Prop where
 c0:w.cell? ⟨b,i,none⟩=some (.int .i64 x.op)
 c1:w.cell? ⟨b,i+1,none⟩=some (.int .u32 (x.p:Int))
 c2:w.cell? ⟨b,i+2,none⟩=some (.int .i64 x.n)
 c3:w.cell? ⟨b,i+3,none⟩=some (.string x.s)
def VOs (w:World) (o:Option Addr) (n:Nat) (f:Nat→Vo):Prop:=0<n→∃ b off,o=some ⟨b,off,none⟩∧b<w.heap.size∧∀ i,i<n→VoAt w b (off+i*4) (f i)∧VoOk (f i)∧(f i).s.size≤9223372036854775807
theorem VoAt.same {w w':World} {b i:Nat} {x:Vo} (h:VoAt w b i x) (e:w'.heap[b]? =w.heap[b]?):VoAt w' b i x:=
 ⟨(World.cell?_of_block (a:=⟨b,i,none⟩) e).trans h.c0,(World.cell?_of_block (a:=⟨b,i+1,none⟩) e).trans h.c1,(World.cell?_of_block (a:=⟨b,i+2,none⟩) e).trans h.c2,(World.cell?_of_block (a:=⟨b,i+3,none⟩) e).trans h.c3⟩
theorem VOs.below {w w':World} {o:Option Addr} {n:Nat} {f:Nat→Vo} (h:VOs w o n f) (hb:Below w.heap.size w w'):VOs w' o n f:=fun hn=>by
 obtain⟨b,off,e,hl,hc⟩:=h hn
 exact⟨b,off,e,Nat.lt_of_lt_of_le hl hb.size,fun i hi=>⟨(hc i hi).1.same (hb.block b hl),(hc i hi).2⟩⟩
end Go.Proofs.YtfaflomephjkgaaGreatDoor.Rv
namespace Go.Proofs.YtfaflomephjkgaaGreatDoor
open Go.ChangeShapes Go.WideShapes Go.ChangeAt Go.RowKit
theorem vop_of_cells {H:Type} {enc:TypeId × Value→H} {W:World} {fuel b i:Nat} {cs:List Value} {x:DataW H × List MemPlace} (h:DataW.trod enc Tryz.prog W 0 (fun _=>true) true fuel 34 cs=some x)
  (hc:∀ j,j<4→W.cell? ⟨b,i+j,none⟩=cs[j]?) (hl:cs.length=4):∃ r:Rv.Vo,Rv.VoAt W b i r∧Rv.VoOk r∧r.s.size≤9223372036854775807:=by
 obtain⟨xs,n,_,rfl,_,hxs,hf⟩:=DataW.trod_struct Tryz.underlying34 h
 have g0:DataW.trod enc Tryz.prog W 0 (fun _=>true) true n 3 ((cs.drop 0).take (Tryz.prog.cellsOf 3))=xs[0]? :=hf 0 _ rfl
 have g1:DataW.trod enc Tryz.prog W 0 (fun _=>true) true n 32 ((cs.drop 1).take (Tryz.prog.cellsOf 32))=xs[1]? :=hf 1 _ rfl
 have g2:DataW.trod enc Tryz.prog W 0 (fun _=>true) true n 3 ((cs.drop 2).take (Tryz.prog.cellsOf 3))=xs[2]? :=hf 2 _ rfl
 have g3:DataW.trod enc Tryz.prog W 0 (fun _=>true) true n 9 ((cs.drop 3).take (Tryz.prog.cellsOf 9))=xs[3]? :=hf 3 _ rfl
 have z (t:Nat) (ht:t=3∨t=32∨t=9):Tryz.prog.cellsOf t=1:=by
  rcases ht with rfl|rfl|rfl<;>kernel_rfl
 simp only[z 3 (by simp),z 32 (by simp),z 9 (by simp)] at g0 g1 g2 g3
 obtain⟨v0,v1,v2,v3,rfl⟩:∃ v0 v1 v2 v3,cs=[v0,v1,v2,v3]:=by
  match cs,hl with
  |[v0,v1,v2,v3],_=>exact⟨v0,v1,v2,v3,rfl⟩
 obtain⟨x0,x1,x2,x3,rfl⟩:∃ x0 x1 x2 x3,xs=[x0,x1,x2,x3]:=by
  match xs,hxs with
  |[x0,x1,x2,x3],_=>exact⟨x0,x1,x2,x3,rfl⟩
 simp at g0 g1 g2 g3
 obtain⟨a0,e0,_,u0⟩:=DataW.trod_int Tryz.underlying3 g0
 obtain⟨a1,e1,_,u1⟩:=DataW.trod_int Tryz.underlying32 g1
 obtain⟨a2,e2,_,u2⟩:=DataW.trod_int Tryz.underlying3 g2
 obtain⟨a3,e3,_,u3⟩:=DataW.trod_string Tryz.underlying9 g3
 have w0:-9223372036854775808≤a0∧a0≤9223372036854775807:=(by simpa [Lit.wf] using u0:IntKind.i64.min≤a0∧a0≤IntKind.i64.max)
 have w1:0≤a1∧a1≤4294967295:=(by simpa [Lit.wf] using u1:IntKind.u32.min≤a1∧a1≤IntKind.u32.max)
 have w2:-9223372036854775808≤a2∧a2≤9223372036854775807:=(by simpa [Lit.wf] using u2:IntKind.i64.min≤a2∧a2≤IntKind.i64.max)
 have w3:a3.size≤9223372036854775807:=by simpa [Lit.wf,maxLen] using u3
 obtain⟨m1,rfl⟩:=Int.eq_ofNat_of_zero_le w1.1
 cases e0;cases e1;cases e2;cases e3
 have h0:=hc 0 (by omega)
 have h1:=hc 1 (by omega)
 have h2:=hc 2 (by omega)
 have h3:=hc 3 (by omega)
 simp at h0 h1 h2 h3
 exact⟨⟨a0,m1,a2,a3⟩,⟨h0,h1,h2,h3⟩,⟨w0.1,w0.2,by show m1≤4294967295;omega,w2.1,w2.2⟩,w3⟩
theorem vops_of_arg {H:Type} {enc:TypeId × Value→H} {W:World} {o:Option Addr} {n c:Nat} {d:DataW H} {p:List MemPlace} (h:DataW.Trod enc Tryz.prog W 0 (fun _=>true) true 22 (.slice o n c) d p) (hlt:∀ x∈p,x.block<W.heap.size):
  ∃ f,n≤maxLen∧Rv.VOs W o n f:=by
 obtain⟨fuel,hf⟩:=h
 have h4c:Tryz.prog.cellsOf 34=4:=by kernel_rfl
 rcases DataW.trod_slice Tryz.underlying22 hf with⟨hcs,hx⟩|⟨a,len,cap,elems,rest,n',_,hcs,hx,hb,hl,hm,hlen,hel,_,_⟩
 ·simp[Value.cells] at hcs
  obtain⟨rfl,rfl,rfl⟩:=hcs
  exact⟨fun _=>⟨0,0,0,⟨#[]⟩⟩,by simp[maxLen],fun h=>by omega⟩
 ·simp[Value.cells] at hcs
  obtain⟨rfl,rfl,rfl⟩:=hcs
  simp only[Prod.mk.injEq] at hx
  obtain⟨rfl,rfl⟩:=hx
  rw[h4c] at hel hlt
  by_cases hn0:n=0
  ·exact⟨fun _=>⟨0,0,0,⟨#[]⟩⟩,by omega,fun h=>by omega⟩
  have each:∀ i,i<n→∃ cs y,W.cells? 0 (a.add (i*4)) 4=some cs∧DataW.trod enc Tryz.prog W 0 (fun _=>true) true n' 34 cs=some y∧y∈elems:=by
   intro i hi
   have h1:=hel i hi
   have h2:elems[i]? =some elems[i]:=List.getElem?_eq_getElem (by omega)
   rw[h2,Option.bind_eq_some_iff] at h1
   obtain⟨cs,e1,e2⟩:=h1
   exact⟨cs,_,e1,e2,List.getElem_mem _⟩
  obtain⟨ab,off,spot⟩:=a
  have hspot:spot=none:=by
   obtain⟨cs,y,e1,_,_⟩:=each 0 (by omega)
   obtain⟨_,hcl,hce⟩:=World.cells?_some e1
   have h0:=hce 0 (by omega)
   rw[List.getElem?_eq_getElem (by omega)] at h0
   simpa [Addr.add] using World.cell?_spot h0
  subst hspot
  have hadd (k:Nat) (o2:Nat):(⟨ab,o2,none⟩:Addr).add k=⟨ab,o2+k,none⟩:=by unfold Addr.add;split<;>simp_all
  have hbW:ab<W.heap.size:=hlt (.cell ab off) (by rw[List.mem_append];exact .inl (MemPlace.mem_row.2 ⟨0,by omega,by simp⟩))
  have all:∀ i,∃ r:Rv.Vo,i<n→Rv.VoAt W ab (off+i*4) r∧Rv.VoOk r∧r.s.size≤9223372036854775807:=by
   intro i
   by_cases hi:i<n
   ·obtain⟨cs,y,e1,e2,e3⟩:=each i hi
    obtain⟨_,hcl,hce⟩:=World.cells?_some e1
    obtain⟨r,hr⟩:=vop_of_cells (b:=ab) (i:=off+i*4) e2 (fun j hj=>by rw[←hce j hj,hadd,hadd]) hcl
    exact⟨r,fun _=>hr⟩
   ·exact⟨⟨0,0,0,⟨#[]⟩⟩,fun h=>absurd h hi⟩
  obtain⟨f,hf⟩:=Classical.axiomOfChoice all
  exact⟨f,by omega,fun _=>⟨ab,off,rfl,hbW,hf⟩⟩
end Go.Proofs.YtfaflomephjkgaaGreatDoor
namespace Go.Proofs.YtfaflomephjkgaaGreatDoor.Rv
open Go.RowKit Go.Lib
open Go.Proofs.YtfaflomephjkgaaGreatDoor.Rd (But St Ok Dev Dv pt below_new natOf)
theorem tx_of {w:World} {g n:Nat} {f:Nat→ByteArray} (h:Rd.Txs w g n f):Rd.Tx w g n f:=by
 obtain⟨cs,h1,h2,h3⟩:=h
 exact⟨cs,h1,by omega,h3⟩
theorem cf_new (l:List Rk.Ky) (g b:Int):∀ n,2≤n→cf (newV l g b).tk n=n - 2:=by
 intro n hn
 induction n with
 |zero=>omega
 |succ n ih=>
  by_cases h:n<2
  ·obtain rfl:n=1:=by omega
   exact cf_zero fun q hq=>by rw[(newV_is l g b).2.2.2.2.2 q];exact decide_eq_true hq
  ·have hs:=(newV_is l g b).2.2.2.2.2 n
   rw[cf_succ,hs,ih (by omega)]
   simp[h]
   omega
theorem pln_new (n:Nat) (hn:2≤n):Pln n 0 (newV (krs 2) 1 7) (Rd.newS n):=by
 obtain⟨e1,e2,e3,e4,e5,-⟩:=newV_is (krs 2) 1 7
 refine⟨rfl,cf_new _ _ _ 2 (by omega),?_,?_,?_,?_,?_,?_,?_⟩
 ·rw[cf_new _ _ _ n hn,e5];omega
 ·rw[e1,e2];exact fe21
 ·rw[e2];decide
 ·rw[e2];decide
 ·rw[e3];decide
 ·rw[e3];decide
 ·rw[e4];omega
def Rnd (w0:World) (base n k g d q:Nat) (lv:Value) (W:World):Prop:=
 ∃ (A:Pl) (P:Qp) (v:Vs) (t:St) (l:List (Nat × ByteArray)),Sta w0 base A P v t l lv W∧Pln n k v t∧l.length≤k∧(A.g=g∧A.d=d∧P.q=q)
theorem rnd_new {w0:World} {n:Nat} (hn:2≤n) {A:Pl} {P:Qp} {W:World} (h:Both w0 A P (newV (krs 2) 1 7) (Rd.newS n) W):Rnd w0 W.heap.size n 0 A.g A.d P.q (.slice none 0 0) W:=
 ⟨A,P,_,_,[],⟨h,⟨rfl,.inl ⟨rfl,rfl⟩⟩,fun k hk=>hk.elim (fun e=>h.va.has_lt e) (fun e=>h.vq.has_lt e),fun g b off hg=>(by cases hg),fun g b off hg=>(by cases hg),fun r hr=>(by cases hr),Nat.le_refl _⟩,pln_new n hn,Nat.le_refl _,rfl,rfl,rfl⟩
theorem vaultDoes_walk (Kt:Nat→Int) (N:Int) (o:Option Addr) (m cap:Nat) (f:Nat→Vo) (hm:m≤maxLen) (w:World) (hs:VOs w o m f) (hT:Rs.Tb Kt w) (hR:Rs.Tr Kt w):
  Calls Tryz.prog 3 #[.int .i64 N,.slice o m cap] w fun e w'=>e=.returned (.bool true)∧Below w.heap.size w w':=by
 have hm2:(m:Int)≤9223372036854775807:=by simp only[maxLen] at hm;omega
 have HO:Hid (VOs w o m f):=hs
 have HT:Hid (Rs.Tb Kt w):=hT
 have HR:Hid (Rs.Tr Kt w):=hR
 have HSh:Hid (∀ _:True,_):=fun _=>shown_any Kt w hT
 clear hs hT hR hm
 go_enter Tryz.func3,Tryz.ntmps3
 go_wp2_with fail
 refine Calls.mono (HSh.out trivial) ?_
 rintro e w1 ⟨rfl,b1⟩
 have B1:Hid (Below w.heap.size w w1):=b1
 clear b1 HSh
 by_cases hbad:N<4
 ·go_wp2_with fail
  go_ret
  exact⟨rfl,B1.out⟩
 by_cases hbad2:12<N
 ·go_wp2_with fail
  go_ret
  exact⟨rfl,B1.out⟩
 obtain⟨n,rfl⟩:=Int.eq_ofNat_of_zero_le (show 0≤N by omega)
 have hn4:4≤n:=by omega
 have hn12:n≤12:=by omega
 have HN:Hid (4≤n∧n≤12):=⟨hn4,hn12⟩
 have HT1:Hid (Rs.Tb Kt w1):=HT.out.below B1.out (Nat.le_refl _)
 have HR1:Hid (Rs.Tr Kt w1):=HR.out.below B1.out (Nat.le_refl _)
 have HM:Hid (∀ _:True,_):=fun _=>made_both Kt n hn4 (by omega) w1 HT1.out
 clear hn4 hn12 HT HR
 go_wp2_with fail
 refine Calls.mono (HM.out trivial) ?_
 rintro e w2 ⟨A0,P0,rfl,hb2⟩
 have HR2:Hid (Rnd w1 w2.heap.size n 0 A0.g A0.d P0.q (.slice none 0 0) w2):=rnd_new (by have:=HN.out.1;omega) hb2
 clear hb2 HM
 generalize w2.heap.size=base at*
 generalize A0.g=G at*
 generalize A0.d=D at*
 generalize P0.q=Q at*
 clear A0 P0
 go_wp2_with fail
 go_loopw [10,11] (fun lv iv wr=>∃ k:Nat,iv=.int .i64 (k:Int)∧k≤m∧k≤25∧Rnd w1 base n k G D Q lv wr) (fun _ iv _=>25 - natOf iv)
 case atStart=>exact⟨0,rfl,Nat.zero_le _,Nat.zero_le _,HR2.out⟩
 case round=>
  obtain⟨k,rfl,hkm,hk25,hrd⟩:=hrel
  have HRd:Hid (Rnd w1 base n k G D Q u10 wr):=hrd
  have HBk:Hid (Below w.heap.size w wr):=by
   obtain⟨A,P,v,t,l,h1,-⟩:=hrd
   exact B1.out.trans (h1.bo.bel.mono B1.out.size)
  clear hrd HR2
  by_cases hlt:k<m∧k<25
  ·obtain⟨hk1,hk2⟩:=hlt
   have q1:(k:Int)<(m:Int):=by omega
   have q2:(k:Int)<25:=by omega
   have q0:(0:Int)≤(k:Int):=by omega
   obtain⟨fb,off,rfl,hfl,hfc⟩:=(HO.out.below HBk.out) (by omega)
   obtain⟨⟨c0,c1,c2,c3⟩,x2,x3⟩:=hfc k hk1
   have HX:Hid (VoOk (f k)∧(f k).s.size≤9223372036854775807):=⟨x2,x3⟩
   have HDi:Hid (∀ _:True,Calls Tryz.prog 6 #[pt G,pt D,pt Q,u10,vov (f k)] wr fun e w'=>∃ (A':Pl) (P':Qp) (v':Vs) (t':St) (l':List (Nat × ByteArray)) (lv':Value),e=.returned (.tuple #[lv',.bool true])∧Sta w1 base A' P' v' t' l' lv' w'∧Pln n (k+1) v' t'∧l'.length≤k+1∧(A'.g=G∧A'.d=D∧P'.q=Q)):=fun _=>by
    obtain⟨A,P,v,t,l,h1,h2,h3,h4,h5,h6⟩:=HRd.out
    rw[←h4,←h5,←h6]
    refine(did_any Kt w1 base n k (by omega) HN.out.2 A P v t l h3 u10 (f k) HX.out.1 HX.out.2 wr HT1.out HR1.out h1 h2).mono ?_
    rintro e w' ⟨A',P',v',t',l',lv',rfl,h7,h8,h9,h10⟩
    exact⟨A',P',v',t',l',lv',rfl,h7,h8,by omega,h9⟩
   generalize f k=y at*
   clear hfc x2 x3
   go_wp2_with fail
   refine Calls.mono (HDi.out trivial) ?_
   rintro e w3 ⟨A',P',v',t',l',lv',rfl,h3,p3,l3,e1,e2,e3⟩
   subst e1 e2 e3
   have H3:Hid (Sta w1 base A' P' v' t' l' lv' w3.drew):=h3.below (below_drew w3)
   have HP3:Hid (Pln n (k+1) v' t'∧l'.length≤k+1):=⟨p3,l3⟩
   have HFr:Hid (∀ W,Vlt W A' v' t'→Calls Tryz.prog 10 #[pt A'.g] W fun e w'=>e=.returned (.int .i64 (cf v'.tk t'.n:Int))∧Below W.heap.size W w'):=fun W hv=>by
    have hh:=vfree_any A' v' t' W hv h3.bo.ok (by have:=p3.cn;rw[p3.nn];omega)
    rw[free_is p3] at hh
    exact hh
   have y0:=h3.bo.vq.cells.1.1
   have y4:=h3.bo.vq.cells.1.2.2.2.2.1
   have HLE:Hid (t'.n≤4096):=h3.bo.ok.n1
   have HB3:Hid (Below w.heap.size w w3.drew):=B1.out.trans (H3.out.bo.bel.mono B1.out.size)
   clear h3 p3 l3 HDi c0 c1 c2 c3 HX HRd HBk
   go_wp2_with fail
   go_region_held3 (fun w'=>w'.cell? ⟨P'.q,0,none⟩=some (pt P'.r)∧w'.cell? ⟨P'.q,4,none⟩=some (.int .u64 (v'.seals:Int))) (first|go_keep|assumption|(refine⟨?_,?_⟩<;>assumption)) (first
    |(go_at_call 8;refine Calls.mono (Rd.image_any A'.d A'.b A'.m t' _ H3.out.bo.va.dev H3.out.bo.ok) ?_;rintro e w4 ⟨g4,rfl,t4,hg4,b4⟩;have s4:=H3.out.below b4;have y40:=s4.bo.vq.cells.1.1;have y44:=s4.bo.vq.cells.1.2.2.2.2.1)
    |(go_at_call 9;refine Calls.mono (Rd.rimage_any P'.r P'.x t' w4 s4.bo.vq.dev s4.bo.ok) ?_;rintro e w5 ⟨g5,c5,rfl,t5,hg5,b5⟩;have s5:=s4.below b5;have y50:=s5.bo.vq.cells.1.1;have y54:=s5.bo.vq.cells.1.2.2.2.2.1)
    |(go_at_call 7;refine Calls.mono (Rd.same_any g4 g5 t'.n t'.n c5 (Rd.holdS t') (Rd.holdS t') HLE.out (fun _ _=>rfl) w5 ((tx_of t4).same (b5.block g4 (tx_of t4).lt)) t5) ?_;rintro e w6 ⟨rfl,b6⟩;have s6:=s5.below b6;have y60:=s6.bo.vq.cells.1.1;have y64:=s6.bo.vq.cells.1.2.2.2.2.1)
    |(go_at_call 10;refine Calls.mono (HFr.out w6 s6.bo.va) ?_;rintro e w7 ⟨rfl,b7⟩;have s7:=s6.below b7;have y70:=s7.bo.vq.cells.1.1;have y74:=s7.bo.vq.cells.1.2.2.2.2.1)
    |(go_at_call 11;refine Calls.mono (wfree_any P' v' t' w7 s7.bo.vq s7.bo.ok) ?_;rintro e w8 ⟨rfl,b8⟩;have s8:=s7.below b8;have y80:=s8.bo.vq.cells.1.1;have y84:=s8.bo.vq.cells.1.2.2.2.2.1)
    |(go_at_call 12;refine Calls.mono (seals_any A' v' t' w8 s8.bo.va) ?_;rintro e w9 ⟨rfl,hw9⟩;have s9:Sta w1 base A' P' v' t' l' lv' w9:=(by rw[hw9];exact s8);have y90:=s9.bo.vq.cells.1.1;have y94:=s9.bo.vq.cells.1.2.2.2.2.1))
   have H9:Hid (Sta w1 base A' P' v' t' l' lv' w8):=s8
   clear b4 b5 b6 b7 b8 s4 s5 s6 s7 s8 s9 t4 t5 hw9 hg4 hg5
   go_wp2_with fail
   go_roundw
   case rel=>exact⟨k+1,by go_num,by omega,by omega,A',P',v',t',l',H9.out,HP3.out.1,HP3.out.2,rfl,rfl,rfl⟩
   case measure=>simp[natOf];omega
  ·by_cases hk1:k<m
   ·have q1:(k:Int)<(m:Int):=by omega
    have q2:¬(k:Int)<25:=by omega
    clear hlt HO
    go_wp2_with fail
    go_ret
    exact⟨rfl,HBk.out⟩
   ·have q1:¬(k:Int)<(m:Int):=by omega
    clear hlt HO
    go_wp2_with fail
    go_ret
    exact⟨rfl,HBk.out⟩
end Go.Proofs.YtfaflomephjkgaaGreatDoor.Rv
