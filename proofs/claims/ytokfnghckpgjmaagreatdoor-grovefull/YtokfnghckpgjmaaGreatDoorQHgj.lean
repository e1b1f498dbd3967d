/- node: the pages of a tree with kids; of every tree. -/
import Derived.Test.YtokfnghckpgjmaaGreatDoorQHgc
set_option maxRecDepth 100000
set_option maxHeartbeats 8000000
namespace Go.Proofs.YtokfnghckpgjmaaGreatDoor
namespace Rz
open Go.RowKit Go.Lib Go.Shelf
open Rc Rq
open Rw (Rf fcv fc zaB Pp PAt PgAt okP encS encE pz gv Pg rpp pB gcs)
open Rv (FB zab zaS)
theorem zhc:(Tryz.prog.info? 49).map (fun i=>(i.zero,i.size,i.bytes))=some (some (.agg #[.int .u32 0,.string ⟨#[]⟩]),2,24):=by kernel_rfl
theorem zlo {w:World} {g:Nat} {r:Rf} {t:TypeId} {fr:Nat × Nat} (h:w.heap[g]? =some (.cells #[.int .u32 (r.p:Int),.string r.t] t fr)):Sl 2 w (some ⟨g,0,none⟩) 1 1 (fc r):=by
 refine⟨Nat.le_refl _,by decide,fun e=>(by cases e),rfl,fun _=>⟨g,0,rfl,(zi h).1,fun j u hu=>?_⟩⟩;have hj:j<2:=(List.getElem?_eq_some_iff.1 hu).1;rw[zr h]
 match j,hj,hu with
 |0,_,hu=>simpa [fc] using hu
 |1,_,hu=>simpa [fc] using hu
theorem zpY (r:Rf):∀ u∈fc r,u.oneCell'=true:=by
 intro u hu;simp[fc] at hu;rcases hu with rfl|rfl<;>rfl
theorem Nd.ret {σ:Type} {B:Nat} {V:Nat→Prop} {Z:(Nat→Prop)→World→Prop} {pl:Pm σ} {I:σ→(Nat→Prop)→World→Prop} {pf:Nat} {pb:Array Value} {own F:Nat→Prop} {W:World} {n:Nv} {s:σ} {vs:Value} {rs:List Rf} {own' F':Nat→Prop} {wr w':World} (h:Nd Z I pf pb own F W n s vs rs own' F' wr)
  (ho:∀ j,own j→j<W.heap.size) (hF:∀ j,F j→j<W.heap.size) (hB:B≤W.heap.size) (hP:Plc B V pl pf pb I) (hZ:∀ own W W',Z own W→Kv B V own W W'→Z own W') (hb:But (fun j=>j=W.heap.size+2) wr w'):
  (Grw own own' W w'∧Grw F F' W w')∧Dj own' F' w'∧But (fun j=>own j∨F j) W w'∧I s F' w'∧Z own' w':=by
 have hbx:=h.box ho hF;have hs:=hb.size;have hbt:=h.bt.size;refine⟨⟨fun j hj=>(h.go j hj).imp id fun x=>⟨by omega,Nat.lt_of_lt_of_le (h.dj.lt j hj) hs⟩,fun j hj=>(h.gf j hj).imp id fun x=>⟨by omega,Nat.lt_of_lt_of_le (h.fl j hj) hs⟩⟩,⟨fun j hj=>Nat.lt_of_lt_of_le (h.dj.lt j hj) hs,h.dj.no⟩,?_,?_,?_⟩
 ·refine⟨hb.os.trans h.bt.os,hb.tape.trans h.bt.tape,hb.output.trans h.bt.output,by omega,fun j hj hn=>?_⟩
  rw[hb.block j (by omega) (by omega),h.bt.block j hj hn]
 ·exact hP.keep _ F' wr w' h.i hs fun j hj=>hb.block j (h.fl j hj) fun e=>hbx j (by omega) (by omega) (.inr hj)
 ·exact hZ own' wr w' h.r (Kv.of_but hb fun j _ e=>⟨.inr (by omega),fun e'=>hbx j (by omega) (by omega) (.inl e')⟩)
theorem zjg {σ:Type} (l B:Nat) (V:Nat→Prop) (it:Nat→Sv × Int→Bool→Prop) (R:(Nat→Prop)→Nat→World→Prop) (Rx:(Nat→Prop)→World→Prop) (hA:Ask l B V it R Rx)
  (pl:Pm σ) (pf:Nat) (pb:Array Value) (I:σ→(Nat→Prop)→World→Prop) (hP:Plc B V pl pf pb I) (G:Nat→Prop) (d:Nat) (ih:zfw l B it R Rx pl pf pb I G d) (n:Nv) (ls:List Rw) (own F:Nat→Prop) (k:Nat) (s:σ) (W:World)
  (hR:R own k W) (hI:I s F W) (hD:Dj own F W) (hB:B≤W.heap.size) (hN:zas G (d+1) W n ls) (hG:∀ b,G b→b<W.heap.size∧¬own b∧¬F b) (hon:On ls) (ho:∀ r∈ls,zbd r) (hmx:ls.length≤1000) (hlf:leaf ls=false) (hf:Fit it k (zad pl (d+1) s ls)):
  Calls Tryz.prog 116 #[gw pf pb,nv n,.func (.yield l) #[] #[]] W (GP R Rx I own F k (zad pl (d+1) s ls) W):=by
 obtain⟨n1,n2,n3,-,h5⟩:=hN;obtain⟨-,-,ks,h6,h7,h8,h9,h10⟩:=h5 hlf;obtain⟨-,⟨lv,hlv⟩⟩:=zda hlf;have hk2:=zdy hon hlv;have hk4:=zdx ls;obtain⟨W0,hW0⟩:∃ W0,((W.alloc (.cells #[.func (.func pf) #[] pb] 93)).alloc (ncs n)).alloc (.cells #[.int .u32 0,.string ⟨#[]⟩] 49)=W0:=⟨_,rfl⟩;obtain⟨⟨g0,g1,g2⟩,b0,s0⟩:=zaE _ _ _ _ hW0;obtain⟨W4,hW4⟩:∃ W4,W0.alloc (pcs n (.slice none 0 0))=W4:=⟨_,rfl⟩;have b4:Below W0.heap.size W0 W4:=by rw[←hW4];exact zaa _ _
 have s4:W4.heap.size=W.heap.size+4:=by rw[←hW4];simp;omega
 have g3:W4.heap[W.heap.size+3]? =some (pcs n (.slice none 0 0)):=by rw[←hW4,←s0];exact zq W0 _
 have b04:Below W.heap.size W W4:=b0.trans (b4.mono b0.size)
 have HN0:Hid (Nd (fun o W=>R o (k+0) W) I pf pb own F W n s (.slice none 0 0) [] own F W4):=
  ⟨(b4.block _ (by omega)).trans g0,(b4.block _ (by omega)).trans g1,(b4.block _ (by omega)).trans g2,g3,World.ownsRow_nil _ _ _ _,fun b hb=>by simp[Value.ownBlock] at hb,fun j hj=>.inl hj,fun j hj=>.inl hj,⟨fun j hj=>by have:=hD.lt j hj;omega,hD.no⟩,fun j hj=>by have:=hP.lt s F W hI j hj;omega,But.of_below b04,hP.keep s F W W4 hI b04.size fun j hj=>b04.block j (hP.lt s F W hI j hj),hA.keep own k W W4 hR (Kv.of_below b04)⟩
 have hkf:=hf.kids hlf;have hlast:=fun h0=>hf.last (d:=d) hlf h0
 obtain⟨g,hg⟩:∃ g,zad pl (d+1) s ls=g:=⟨_,rfl⟩
 have HNd:Hid (g=if(zan (zad pl d) (zao ls) s []).1.e=0 then⟨(zaC pl (zan (zad pl d) (zao ls) s []).1.s (zaX ls (zan (zad pl d) (zao ls) s []).2)).s,(zan (zad pl d) (zao ls) s []).1.ys++(zaC pl (zan (zad pl d) (zao ls) s []).1.s (zaX ls (zan (zad pl d) (zao ls) s []).2)).ys,(zaC pl (zan (zad pl d) (zao ls) s []).1.s (zaX ls (zan (zad pl d) (zao ls) s []).2)).e,(zaC pl (zan (zad pl d) (zao ls) s []).1.s (zaX ls (zan (zad pl d) (zao ls) s []).2)).r⟩ else⟨(zan (zad pl d) (zao ls) s []).1.s,(zan (zad pl d) (zao ls) s []).1.ys,(zan (zad pl d) (zao ls) s []).1.e,zf⟩):=by
  refine(?_:g=_);rw[←hg,zad,if_neg (by rw[hlf];decide)]
 obtain⟨K,hK⟩:∃ K,zan (zad pl d) (zao ls) s []=K:=⟨_,rfl⟩;rw[hg];rw[hK] at HNd hkf hlast
 have HK0:Hid (K.1=⟨(zan (zad pl d) ((zao ls).drop 0) s []).1.s,[]++(zan (zad pl d) ((zao ls).drop 0) s []).1.ys,(zan (zad pl d) ((zao ls).drop 0) s []).1.e,(zan (zad pl d) ((zao ls).drop 0) s []).1.r⟩∧K.2=(zan (zad pl d) ((zao ls).drop 0) s []).2):=by
  rw[List.drop_zero,hK];exact⟨rfl,rfl⟩
 obtain⟨c0,c1,c2,c3,c4⟩:=zhp g1;have cg:W0.cell? ⟨W.heap.size,0,none⟩=some (.func (.func pf) #[] pb):=by rw[zr g0];rfl
 obtain⟨ms,hms⟩:∃ ms,zao ls=ms:=⟨_,rfl⟩
 have HOnm:Hid (∀ m∈ms,On m∧(∀ r∈m,zbd r)∧m.length≤1000):=fun m hm=>by
  rw[←hms] at hm;obtain⟨-,q,-,rfl⟩:=za7 hm;exact⟨hon.part q,fun r hr=>ho r (zbk.1 hr).1,Nat.le_trans (ze0 ls q) hmx⟩
 rw[hms] at HK0 h7 h10 hk2 hk4;have HCell:Hid (n.X=cx ls∧n.Y=cy ls∧n.L=lev ls∧cx ls<4294967296∧cy ls<4294967296):=⟨n1,n2,n3,by have:=(zdN hon).x31;omega,by have:=(zdN hon).y31;omega⟩;have HIH:Hid (zfw l B it R Rx pl pf pb I G d):=ih;have HGG:Hid (∀ b,G b→b<W.heap.size∧¬own b∧¬F b):=hG;have HKids:Hid (zdR W n.ko n.kc ks∧Lies G n.ko ks.length∧ks.length=ms.length∧∀ i (h1:i<ks.length) (h2:i<ms.length),zas G d W ks[i] ms[i]):=⟨h8,h9,h7,h10⟩;have HO:Hid (∀ j,own j→j<W.heap.size):=hD.lt;have HFl:Hid (∀ j,F j→j<W.heap.size):=hP.lt s F W hI;have HKf:Hid (Fit it k K.1):=hkf;have HLast:Hid _:=hlast;have HB0:Hid (Below W.heap.size W W0∧W0.heap.size=W.heap.size+3∧W4.heap.size=W.heap.size+4):=⟨b0,s0,s4⟩;obtain⟨nX,nY,nL,nro,nrn,nrc,nko,nkn,nkc⟩:=n;simp only at c0 c1 c2 c3 c4 h6;have q2:2≤nkn:=by omega
 have q4:nkn≤4:=by omega
 have q2i:(2:Int)≤(nkn:Int):=by omega
 have q4i:(nkn:Int)≤4:=by omega
 have q0:¬(nkn:Int)=0:=by omega
 have HKn:Hid (nkn=ks.length):=h6;clear hR hI hD hf g0 g1 g2 g3 b0 b4 b04 s0 s4 hg hK hkf hlast n1 n2 n3 h5 h6 h7 h8 h9 h10 hk2 hk4 hG ho hon hlf hlv ih;have HW4:Hid (W0.alloc (.cells #[.int .i64 2,.int .u32 (nX:Int),.int .u32 (nY:Int),.int .i64 (nL:Int),.slice none 0 0,.slice none 0 0,.int .u32 0,.string ⟨#[]⟩] 155)=W4):=hW4;have b04:Below W0.heap.size W0 W4:=by rw[←hW4];exact zaa _ _
 have c4':W4.cell? ⟨W.heap.size+1,4,none⟩=some (.slice nko nkn nkc):=(World.cell?_of_block (a:=⟨W.heap.size+1,4,none⟩) (b04.block (W.heap.size+1) (by have:=HB0.out.2.1;omega))).trans c4;clear hW4 b04;go_enter Tryz.func116,Tryz.ntmps116
 go_wp2_with (rw[HW4.out];clear HW4)
 go_loopw [30] (fun i wr=>∃ (j:Nat) (s':σ) (ys:List Sv) (rs:List Rf) (vs:Value) (own' F':Nat→Prop),(j≤nkn∧rs.length=j∧∀ r∈rs,r.p<4294967296)∧i=.int .i64 (j:Int)∧Nd (fun o W=>R o (k+ys.length) W) I pf pb own F W ⟨nX,nY,nL,nro,nrn,nrc,nko,nkn,nkc⟩ s' vs rs own' F' wr∧(K.1=⟨(zan (zad pl d) (ms.drop j) s' rs).1.s,ys++(zan (zad pl d) (ms.drop j) s' rs).1.ys,(zan (zad pl d) (ms.drop j) s' rs).1.e,(zan (zad pl d) (ms.drop j) s' rs).1.r⟩∧K.2=(zan (zad pl d) (ms.drop j) s' rs).2)) (fun i _=>nkn - zam i)
 case atStart=>exact⟨0,s,[],[],.slice none 0 0,own,F,⟨Nat.zero_le _,rfl,fun r hr=>by cases hr⟩,rfl,HN0.out,HK0.out⟩
 case round=>
  obtain⟨j,s',ys,rs,vs,own',F',⟨hj,hrl,hrs⟩,rfl,hN,hE⟩:=hrel;have HRl:Hid (rs.length=j):=hrl;clear hrl;by_cases hlt:j<nkn
  ·have hjk:j<ks.length:=by have:=HKn.out;omega
   have hjm:j<ms.length:=by have:=HKids.out.2.2.1;omega
   have hbk:∀ b,G b→wr.heap[b]? =W.heap[b]? :=fun b hb=>hN.bt.block b (HGG.out b hb).1 fun e=>by
    obtain⟨-,x1,x2⟩:=HGG.out b hb;rcases e with e|e
    ·exact x1 e
    ·exact x2 e
   obtain⟨b,off,hko,hbl,hc⟩:=HKids.out.1.node (by omega);have hGb:=HKids.out.2.1 (by omega) b off hko;obtain⟨c0,c1,c2,c3,c4⟩:=(hc j hjk).same (hbk b hGb);have hnode:zas G d wr ks[j] ms[j]:=(HKids.out.2.2.2 j hjk hjm).same hN.bt.size fun b hb _=>hbk b hb
   obtain⟨m,hm⟩:∃ m,ms[j]=m:=⟨_,rfl⟩;have hdrop:ms.drop j=m::ms.drop (j+1):=by rw[←hm];exact List.drop_eq_getElem_cons hjm
   have hmm:m∈ms:=by rw[←hm];exact List.getElem_mem hjm
   rw[hm] at hnode;generalize ks[j]=nd at c0 c1 c2 c3 c4 hnode;rw[hdrop] at hE;have hfit:=(HKf.out.tail hE.1).kid;obtain⟨w1,hw1⟩:∃ w1,wr.alloc (ncs nd)=w1:=⟨_,rfl⟩;have b1:Below wr.heap.size wr w1:=by rw[←hw1];exact zaa _ _
   have hz1:w1.heap[wr.heap.size]? =some (ncs nd):=by rw[←hw1];exact zq wr _
   obtain⟨h1,h2,h3⟩:=HOnm.out m hmm
   have HCall:Hid (Calls Tryz.prog 116 #[gw pf pb,nv nd,.func (.yield l) #[] #[]] w1 (GP R Rx I own' F' (k+ys.length) (zad pl d s' m) w1)):=
    HIH.out nd m own' F' (k+ys.length) s' w1 (hA.keep _ _ wr w1 hN.r (Kv.of_below b1)) (hP.keep _ _ wr w1 hN.i b1.size fun j hj=>b1.block j (hN.fl j hj)) ⟨fun j hj=>Nat.lt_of_lt_of_le (hN.dj.lt j hj) b1.size,hN.dj.no⟩ (Nat.le_trans hB (Nat.le_trans hN.bt.size b1.size)) (hnode.below b1 zn)
     (fun b hb=>⟨by have:=(HGG.out b hb).1;have:=hN.bt.size;have:=b1.size;omega,fun e=>by
      rcases hN.go b e with x|x
      ·exact(HGG.out b hb).2.1 x
      ·have:=(HGG.out b hb).1;omega,fun e=>by
      rcases hN.gf b e with x|x
      ·exact(HGG.out b hb).2.2 x
      ·have:=(HGG.out b hb).1;omega⟩) h1 h2 h3 hfit
   have hsm:=zcG hP.small d s' m;obtain⟨z0,z1,z2,z3,z4⟩:=zhp hz1
   have cg:w1.cell? ⟨W.heap.size,0,none⟩=some (.func (.func pf) #[] pb):=by
    rw[zr ((b1.block _ (zi hN.gb).1).trans hN.gb)];rfl
   have HN:Hid (Nd (fun o W=>R o (k+ys.length) W) I pf pb own F W ⟨nX,nY,nL,nro,nrn,nrc,nko,nkn,nkc⟩ s' vs rs own' F' wr):=hN;have HE:Hid _:=hE;have HB1:Hid (Below wr.heap.size wr w1):=b1;rw[zbz] at HE;generalize zad pl d s' m=kg at HCall HE hsm;obtain⟨dX,dY,dL,dro,drn,drc,dko,dkn,dkc⟩:=nd;simp only at c0 c1 c2 c3 c4 z0 z1 z2 z3 z4 hw1;have qj:(j:Int)<(nkn:Int):=by omega
   have qj0:(0:Int)≤(j:Int):=by omega
   subst hko;clear hN hE hnode hfit b1 hz1 hbk hc hdrop hm h1 h2 h3;have HW1:Hid _:=hw1;clear hw1
   go_wp2_with (rw[HW1.out];clear HW1)
   refine Calls.mono HCall.out ?_;rintro e2 W1 ⟨rfl,own1,F1,⟨hg1,hg2⟩,hdj,hbt,hi1,hr1,hx1⟩;obtain⟨W2,hW2⟩:∃ W2,W1.alloc (.cells #[.int .u32 (kg.r.p:Int),.string kg.r.t] 49)=W2:=⟨_,rfl⟩;have b2:Below W1.heap.size W1 W2:=by rw[←hW2];exact zaa _ _
   have hZ:FB W1.heap.size (kg.r.p:Int) kg.r.t W2:=by rw[←hW2];exact zq W1 _
   clear z0 z1 z2 z3 z4 c0 c1 c2 c3 c4 cg HCall c4';by_cases h0:kg.e=0
   ·have hN2:=HN.out.step (Z1:=fun o W=>R o (k+ys.length+kg.ys.length) W) HO.out HFl.out hP (fun o W W' h h'=>hA.keep o _ W W' h h') HB1.out hg1 hg2 hdj hbt hi1 (hr1 h0) b2
    obtain⟨vo,vc,hvs,-⟩:=zai hN2.kr;obtain⟨W3,hW3⟩:∃ W3,W2.alloc (.cells #[.int .u32 (kg.r.p:Int),.string kg.r.t] 49)=W3:=⟨_,rfl⟩;have b3:Below W2.heap.size W2 W3:=by rw[←hW3];exact zaa _ _
    have hz3:W3.heap[W2.heap.size]? =some (.cells #[.int .u32 (kg.r.p:Int),.string kg.r.t] 49):=by rw[←hW3];exact zq W2 _
    obtain⟨v',W5,hrun,a1,a2,a3⟩:=zaV 153 49 Tryz.underlying153 zhc rfl (by decide) (by decide) W3 (W.heap.size+4) rs.length 1 vs (some ⟨W2.heap.size,0,none⟩) 1 (rs.flatMap fc) (fc kg.r)
     ⟨hN2.kr.1,hN2.kr.2.imp id fun⟨g,cap,cur,e1,x2,x3,x4⟩=>⟨g,cap,cur,e1,x2,(b3.block g (zi x3).1).trans x3,x4⟩⟩ (by have:=(zi hN2.pg).1;have:=b3.size;omega) (zlo hz3) (zpY _) (by have:=HRl.out;omega)
    obtain⟨hN6,p5⟩:=hN2.app HO.out HFl.out hB hP (fun o W W' h h'=>hA.keep o _ W W' h h') b3 a1 a2 a3;obtain⟨vo',vc',hvs',-⟩:=zai a1;have hs0:=HB0.out.2.1;have pc5:W2.cell? ⟨W0.heap.size,5,none⟩=some vs:=by rw[hs0,zr hN2.pg];rfl
    have pd5:W5.cell? ⟨W0.heap.size,5,none⟩=some vs:=by rw[hs0,zr p5];rfl
    have pf5:W5.frozen? ⟨W0.heap.size,5,none⟩=false:=by rw[hs0];exact frozen_of_row W5 _ _ _ _ p5
    obtain⟨v1,v2,v3,v4⟩:=hZ.facts
    have HN6:Hid (Nd (fun o W=>R o (k+(ys++kg.ys).length) W) I pf pb own F W ⟨nX,nY,nL,nro,nrn,nrc,some ⟨b,off,none⟩,nkn,nkc⟩ kg.s v' (rs++[kg.r]) own1 F1 (W5.setCell ⟨W0.heap.size,5,none⟩ v')):=by
     refine(?_:Nd _ _ _ _ _ _ _ _ _ _ _ _ _ _);rw[hs0,List.length_append,←Nat.add_assoc];exact hN6
    have h0':decide (kg.e=0)=true:=decide_eq_true h0;have qj1:(j:Int)+1≤5:=by omega
    subst hvs hvs';clear hN2 hN6 p5 a1 a2 a3 b3 hz3 hZ b2 hg1 hg2 hdj hbt hi1 hr1 hx1 hs0
    go_wp2_with (first|(at_builtin;refine zaq rfl 153 153 (.tmp 45) (.tmp 47) rfl (vs:=.slice vo rs.length vc) (vx:=.slice (some ⟨W2.heap.size,0,none⟩) 1 1) rfl rfl hrun ?_))
    refine⟨⟨j+1,kg.s,ys++kg.ys,rs++[kg.r],_,own1,F1,⟨by omega,by rw[List.length_append,HRl.out];rfl,fun r hr=>?_⟩,by congr 1,HN6.out,?_⟩,?_⟩
    ·rcases List.mem_append.1 hr with x|x
     ·exact hrs r x
     ·rw[List.mem_singleton.1 x];exact hsm
    ·have hx:=HE.out
     rw[if_pos h0] at hx;exact⟨by rw[hx.1,List.append_assoc],hx.2⟩
    ·simp[zam]
     omega
   ·have h0':decide (kg.e=0)=false:=decide_eq_false h0
    have hN2:=HN.out.step (Z1:=Rx) HO.out HFl.out hP hA.keepx HB1.out hg1 hg2 hdj hbt hi1 (hx1 h0) b2;obtain⟨x1,x2,x3,x4⟩:=hN2.rb.facts;obtain⟨hY3,b3⟩:=hN2.rb.put6 0 ⟨#[]⟩;obtain⟨W3,hW3⟩:∃ W3,(W2.setCell ⟨W.heap.size+2,0,none⟩ (.int .u32 0)).setCell ⟨W.heap.size+2,1,none⟩ (.string ⟨#[]⟩)=W3:=⟨_,rfl⟩;rw[hW3] at hY3 b3;have HY3:Hid (FB (W.heap.size+2) 0 ⟨#[]⟩ W3):=hY3;have HR3:Hid _:=hN2.ret HO.out HFl.out hB hP hA.keepx b3;clear hN2 hY3 b3 hZ b2 hg1 hg2 hdj hbt hi1 hr1 hx1;go_wp2_with fail;refine bodyPost_ret (zab rfl _ _ _ _ _ _ rfl rfl HY3.out) rfl ?_;have hx:=HE.out;rw[if_neg h0] at hx;have hgg:=HNd.out;rw[hx.1,if_neg h0] at hgg;obtain⟨r1,r2,r3,r4,r5⟩:=HR3.out;rw[hgg];exact⟨by rw[show decide ((⟨kg.s,ys++kg.ys,kg.e,zf⟩:Gr σ).e=0)=false from h0'];rfl,own1,F1,r1,r2,r3,r4,fun h=>absurd h h0,fun _=>r5⟩
  ·obtain rfl:j=nkn:=by omega
   have hdr:ms.drop j=[]:=List.drop_eq_nil_of_le (by have:=HKids.out.2.2.1;have:=HKn.out;omega);rw[hdr] at hE;have hK1:K.1=⟨s',ys,0,zf⟩:=by rw[hE.1,show(zan (zad pl d) [] s' rs).1.ys=[] from rfl,List.append_nil];rfl
   have hK2:K.2=rs:=hE.2;have hfit:=HLast.out (by rw[hK1]);have hgg:=HNd.out;rw[hK1,hK2] at hfit hgg;rw[if_pos rfl] at hgg;simp only at hfit hgg;obtain⟨vo,vc,hvs,hsl⟩:=zai hN.kr
   have HCall:Hid (Calls Tryz.prog 159 #[gw pf pb,gv ⟨2,nX,nY,(nL:Int),none,0,0,vo,rs.length,vc,0,⟨#[]⟩⟩,.func (.yield l) #[] #[]] wr (GP R Rx I own' F' (k+ys.length) (zaC pl s' (zaX ls rs)) wr)):=
    zdC l B V it R Rx hA pl pf pb I hP _ (zaX ls rs) own' F' (k+ys.length) s' wr hN.r hN.i hN.dj (Nat.le_trans hB hN.bt.size) ⟨rfl,HCell.out.1,HCell.out.2.1,congrArg Int.ofNat HCell.out.2.2.1,rfl,rfl,⟨by rw[show nX=cx ls from HCell.out.1];exact HCell.out.2.2.2.1,by rw[show nY=cy ls from HCell.out.2.1];exact HCell.out.2.2.2.2,rfl,Sl.nil 4 wr,rfl,hsl⟩⟩ ⟨HCell.out.2.2.2.1,HCell.out.2.2.2.2,Nat.zero_lt_succ _,fun r hr=>(by cases hr),hrs⟩ hfit
   have hrz:=zic pl s' (zaX ls rs);generalize zaC pl s' (zaX ls rs)=pg at HCall hgg hrz;have hs0:=HB0.out.2.1;obtain⟨p0,p1,p2,p3,p4,p5,p6,p7⟩:=zlj (q:=⟨2,nX,nY,(nL:Int),none,0,0,vo,rs.length,vc,0,⟨#[]⟩⟩) (show wr.heap[W0.heap.size]? =some (gcs ⟨2,nX,nY,(nL:Int),none,0,0,vo,rs.length,vc,0,⟨#[]⟩⟩) by rw[hs0,hN.pg,hvs];rfl);have cg:wr.cell? ⟨W.heap.size,0,none⟩=some (.func (.func pf) #[] pb):=by rw[zr hN.gb];rfl
   have HN:Hid (Nd (fun o W=>R o (k+ys.length) W) I pf pb own F W ⟨nX,nY,nL,nro,nrn,nrc,nko,j,nkc⟩ s' vs rs own' F' wr):=hN;have HGg:Hid (g=⟨pg.s,ys++pg.ys,pg.e,pg.r⟩):=hgg;have qj:¬(j:Int)<(j:Int):=by omega
   simp only at p0 p1 p2 p3 p4 p5 p6 p7;clear hN hE hK1 hK2 hfit hgg hs0 hdr c4' hvs hsl hrz;go_wp2_with fail;refine Calls.mono HCall.out ?_;rintro e2 W1 ⟨rfl,own1,F1,⟨hg1,hg2⟩,hdj,hbt,hi1,hr1,hx1⟩;have hN1:=HN.out.step (Z1:=fun o W=>(pg.e=0→R o (k+ys.length+pg.ys.length) W)∧(pg.e≠0→Rx o W)) HO.out HFl.out hP (fun o W W' h h'=>⟨fun e=>hA.keep o _ W W' (h.1 e) h',fun e=>hA.keepx o W W' (h.2 e) h'⟩) (Below.refl _ _) hg1 hg2 hdj hbt hi1 ⟨hr1,hx1⟩ (Below.refl _ _);obtain⟨x1,x2,x3,x4⟩:=hN1.rb.facts;obtain⟨hY3,b3⟩:=hN1.rb.put6 (pg.r.p:Int) pg.r.t;obtain⟨W3,hW3⟩:∃ W3,(W1.setCell ⟨W.heap.size+2,0,none⟩ (.int .u32 (pg.r.p:Int))).setCell ⟨W.heap.size+2,1,none⟩ (.string pg.r.t)=W3:=⟨_,rfl⟩;rw[hW3] at hY3 b3;have HY3:Hid (FB (W.heap.size+2) (pg.r.p:Int) pg.r.t W3):=hY3;have HR3:Hid _:=hN1.ret HO.out HFl.out hB hP (fun o W W' h h'=>⟨fun e=>hA.keep o _ W W' (h.1 e) h',fun e=>hA.keepx o W W' (h.2 e) h'⟩) b3
   obtain⟨bb,hbb⟩:∃ bb,decide (pg.e=0)=bb:=⟨_,rfl⟩;rw[hbb];have HBb:Hid (decide (pg.e=0)=bb):=hbb;clear hN1 hY3 b3 hg1 hg2 hdj hbt hi1 hr1 hx1 hbb p0 p1 p2 p3 p4 p5 p6 p7 cg;go_wp2_with fail;refine bodyPost_ret (zab rfl _ _ _ _ _ _ rfl rfl HY3.out) rfl ?_;obtain⟨r1,r2,r3,r4,r5⟩:=HR3.out;rw[HGg.out];exact⟨by rw[show decide ((⟨pg.s,ys++pg.ys,pg.e,pg.r⟩:Gr σ).e=0)=bb from HBb.out];rfl,own1,F1,r1,r2,r3,r4,fun h=>by rw[show(⟨pg.s,ys++pg.ys,pg.e,pg.r⟩:Gr σ).ys.length=ys.length+pg.ys.length from List.length_append,←Nat.add_assoc];exact r5.1 h,r5.2⟩
theorem ziq {σ:Type} (l B:Nat) (V:Nat→Prop) (it:Nat→Sv × Int→Bool→Prop) (R:(Nat→Prop)→Nat→World→Prop) (Rx:(Nat→Prop)→World→Prop) (hA:Ask l B V it R Rx)
  (pl:Pm σ) (pf:Nat) (pb:Array Value) (I:σ→(Nat→Prop)→World→Prop) (hP:Plc B V pl pf pb I) (G:Nat→Prop):∀ d,zfw l B it R Rx pl pf pb I G d
 |0=>fun n ls own F k s W _ _ _ _ hN=>hN.elim
 |d+1=>fun n ls own F k s W hR hI hD hB hN hG hon ho hmx hf=>by
  cases hlf:leaf ls
  ·exact zjg l B V it R Rx hA pl pf pb I hP G d (ziq l B V it R Rx hA pl pf pb I hP G d) n ls own F k s W hR hI hD hB hN hG hon ho hmx hlf hf
  ·exact zln l B V it R Rx hA pl pf pb I hP G d n ls own F k s W hR hI hD hB hN hG ho hmx hlf hf
structure Plb {σ:Type} (pl:Pm σ) (pf:Nat) (pb:Array Value) (I:σ→(Nat→Prop)→World→Prop):Prop where
 eg:∀ args w,(callFunc pf args).run Tryz.prog w=.ok (.enter pf args) w
 lt:∀ s F W,I s F W→∀ k,F k→k<W.heap.size
 keep:∀ s F W W',I s F W→W.heap.size≤W'.heap.size→(∀ k,F k→W'.heap[k]? =W.heap[k]?)→I s F W'
 small:∀ s t,(pl s t).1.1.p<4294967296
 call:∀ s F W t,t.size≤198→I s F W→Calls Tryz.prog pf (#[.string t]++pb) W fun e W'=>e=.returned (.tuple #[fcv (pl s t).1.1,.int .i64 (pl s t).1.2])∧∃ F',I (pl s t).2 F' W'∧But F W W'∧Grw F F' W W'
def Ib {σ:Type} (B:Nat) (V:Nat→Prop) (I:σ→(Nat→Prop)→World→Prop):σ→(Nat→Prop)→World→Prop:=fun s F W=>I s F W∧(∀ k,F k→V k∨B≤k)∧B≤W.heap.size
theorem Plb.plc {σ:Type} {pl:Pm σ} {pf:Nat} {pb:Array Value} {I:σ→(Nat→Prop)→World→Prop} (h:Plb pl pf pb I) (B:Nat) (V:Nat→Prop):Plc B V pl pf pb (Ib B V I) where
 eg:=h.eg
 lt:=fun s F W hI=>h.lt s F W hI.1
 fp:=fun s F W hI=>hI.2.1
 keep:=fun s F W W' hI hs hk=>⟨h.keep s F W W' hI.1 hs hk,hI.2.1,Nat.le_trans hI.2.2 hs⟩
 small:=h.small
 call:=fun s F W t ht hI=>(h.call s F W t ht hI.1).mono fun e W' ⟨he,F',h1,h2,h3⟩=>⟨he,F',⟨h1,fun k hk=>by
  rcases h3 k hk with x|x
  ·exact hI.2.1 k x
  ·exact .inr (Nat.le_trans hI.2.2 x.1),Nat.le_trans hI.2.2 h2.size⟩,h2,h3⟩
theorem zjh (pf:Nat) (pb:Array Value) (n:Nv) (W:World):
  Calls Tryz.prog 80 #[gw pf pb,nv n] W fun e W'=>e=.returned (.func (.func 115) #[] #[.pointer (some ⟨W.heap.size,0,none⟩),.pointer (some ⟨W.heap.size+1,0,none⟩)])∧W'=(W.alloc (.cells #[.func (.func pf) #[] pb] 93)).alloc (ncs n):=by
 go_enter Tryz.func80,Tryz.ntmps80;go_wp2_with fail;go_ret;exact⟨rfl,rfl⟩
theorem zhq {σ:Type} (pf:Nat) (pb:Array Value) (n:Nv) (bG bN:Nat) (y:Value) (W:World) (Q:Ending→World→Prop) (h1:W.heap[bG]? =some (.cells #[.func (.func pf) #[] pb] 93 (0,0))) (h2:W.heap[bN]? =some (ncs n))
  {R:(Nat→Prop)→Nat→World→Prop} {Rx:(Nat→Prop)→World→Prop} {I:σ→(Nat→Prop)→World→Prop} {own F:Nat→Prop} {k:Nat} {g:Gr σ} (hc:Calls Tryz.prog 116 #[gw pf pb,nv n,y] W (GP R Rx I own F k g W))
  (hQ:∀ W',(∃ own' F',(Grw own own' W W'∧Grw F F' W W')∧Dj own' F' W'∧But (fun j=>own j∨F j) W W'∧I g.s F' W'∧(g.e=0→R own' (k+g.ys.length) W')∧(g.e≠0→Rx own' W'))→Q (.returned (.tuple #[])) W'):
  Calls Tryz.prog 115 #[y,.pointer (some ⟨bG,0,none⟩),.pointer (some ⟨bN,0,none⟩)] W Q:=by
 have cg:W.cell? ⟨bG,0,none⟩=some (.func (.func pf) #[] pb):=by rw[zr h1];rfl
 obtain⟨c0,c1,c2,c3,c4⟩:=zhp h2;have HC:Hid (Calls Tryz.prog 116 #[gw pf pb,nv n,y] W (GP R Rx I own F k g W)):=hc;have HQ:Hid _:=hQ;clear h1 h2 hc hQ;go_enter Tryz.func115,Tryz.ntmps115;go_wp2_with fail;refine Calls.mono HC.out ?_;rintro e W1 ⟨rfl,hx⟩;have HX:Hid _:=HQ.out W1 hx;clear hx;go_wp2_with fail;exact bodyPost_end (results_none rfl _ _ _) rfl HX.out
attribute [local go_sem] Oper.semAt_some
theorem zo7 {F:Fence} {n:Nat} {P:Program} {o:Oper} {a:Act} {w:World} {K:Act→World→Prop} {Q:Exit→Act→World→Prop} (t u:TypeId) (s x:Operand) (ho:o.op=.call { callee:=.builtin .append,args:=#[s,x],argTypes:=#[t,u] })
  {vs vx v':Value} {w':World} (hs:a.eval s=vs) (hx:a.eval x=vx) (hrun:(Builtin.append_ #[t,u] o.type #[vs,vx]).run P w=.ok v' w') (hK:K (a.put o.dst v') w'):o.wpIn F n P a w K Q:=by
 unfold Oper.wpIn;refine⟨?_,?_⟩
 ·simp[Oper.about,ho,resolve,Target.leads]
 ·rw[Oper.semAt_plain F _ _ (by rw[ho];intro c hc;cases hc)]
  simp[execOp,ho,hs,hx,hrun,Result.andThen,resolve,invoke,builtin];exact hK
theorem zlp {F:Fence} {n:Nat} {P:Program} {ops:Array Oper} {rest:List Oper} {o:Oper} {a:Act} {w:World} {Q:Exit→Act→World→Prop} (hgd:o.guard=none) (t u:TypeId) (s x:Operand) (ho:o.op=.call { callee:=.builtin .append,args:=#[s,x],argTypes:=#[t,u] })
  {vs vx v':Value} {w':World} (hs:a.eval s=vs) (hx:a.eval x=vx) (hrun:(Builtin.append_ #[t,u] o.type #[vs,vx]).run P w=.ok v' w') (h:wpListIn F n P ops Q rest (a.put o.dst v') w'):wpListIn F n P ops Q (o::rest) a w:=
 wpListIn_plain hgd fun _ hK=>zo7 t u s x ho hs hx hrun (hK _ _ h)
theorem znN:(Tryz.prog.info? 51).map (fun i=>(i.zero,i.size,i.bytes))=some (some (.agg #[.string ⟨#[]⟩,.int .u32 0,.string ⟨#[]⟩]),3,40):=by kernel_rfl
theorem zaF {w w':World} {base n:Nat} {v:Value} {t:TypeId} {k:Nat} {cs:List Value} (h:w.ownsRow base t k v n cs) (hk:∀ g,v.ownBlock=some g→g<w.heap.size→w'.heap[g]? =w.heap[g]?):w'.ownsRow base t k v n cs:=by
 refine⟨h.1,?_⟩;rcases h.2 with⟨h1,h2⟩|⟨g,cap',cur,h1,h2,h3,h4⟩
 ·exact .inl ⟨h1,h2⟩
 ·exact .inr ⟨g,cap',cur,h1,h2,(hk g (by rw[h1];rfl) (zi h3).1).trans h3,h4⟩
theorem zat {w:World} {base n:Nat} {v:Value} {t:TypeId} {k:Nat} {cs:List Value} (h:w.ownsRow base t k v n cs) {g:Nat} (hg:v.ownBlock=some g):base≤g∧g<w.heap.size:=by
 rcases h.2 with⟨h1,h2⟩|⟨g',cap',cur,h1,h2,h3,h4⟩
 ·subst h1
  simp[Value.ownBlock] at hg
 ·subst h1
  simp[Value.ownBlock] at hg;subst hg;exact⟨h2,(zi h3).1⟩
def SvAt (w:World) (o:Option Addr) (cap:Nat) (l:List Sv):Prop:=Sl 3 w o l.length cap (l.flatMap sc)
theorem znO (x:Sv):∀ u∈sc x,u.oneCell'=true:=by
 intro u hu;simp[sc] at hu;rcases hu with rfl|rfl|rfl<;>rfl
theorem znP {w:World} {g:Nat} {x:Sv} {t:TypeId} {fr:Nat × Nat} (h:w.heap[g]? =some (.cells #[.string x.t,.int .u32 (x.r.p:Int),.string x.r.t] t fr)):Sl 3 w (some ⟨g,0,none⟩) 1 1 (sc x):=by
 refine⟨Nat.le_refl _,by decide,fun e=>(by cases e),rfl,fun _=>⟨g,0,rfl,(zi h).1,fun j u hu=>?_⟩⟩;have hj:j<3:=(List.getElem?_eq_some_iff.1 hu).1;rw[zr h]
 match j,hj,hu with
 |0,_,hu=>simpa [sc] using hu
 |1,_,hu=>simpa [sc] using hu
 |2,_,hu=>simpa [sc] using hu
theorem zpZ {w:World} {g:Nat} {a b c:Value} {t:TypeId} {fr:Nat × Nat} (h:w.heap[g]? =some (.cells #[a,b,c] t fr)):w.cell? ⟨g,0,none⟩=some a∧w.cell? ⟨g,1,none⟩=some b∧w.cell? ⟨g,2,none⟩=some c:=
 ⟨by rw[zr h];rfl,by rw[zr h];rfl,by rw[zr h];rfl⟩
theorem zc0 {W:World} {g:Nat} {v v':Value} {t:TypeId} (h:W.heap[g]? =some (.cells #[v] t (0,0))):(W.setCell ⟨g,0,none⟩ v').heap[g]? =some (.cells #[v'] t (0,0)):=by
 have:=zx W g 0 _ _ v' h;simpa using this
structure GJ {σ:Type} (b:Nat) (g:Gr σ) (own:Nat→Prop) (k:Nat) (W:World):Prop where
 out:∃ v,W.heap[b]? =some (.cells #[v] 29 (0,0))∧W.ownsRow (b+2) 51 3 v k ((g.ys.take k).flatMap sc)∧∀ x,v.ownBlock=some x→own x
 wr:W.heap[b+1]? =some (.cells #[.int .i64 0] 30 (0,0))
 mine:own b∧own (b+1)
 le:k≤g.ys.length
structure GX (b:Nat) (e:Int) (own:Nat→Prop) (W:World):Prop where
 out:W.heap[b]? =some (.cells #[.slice none 0 0] 29 (0,0))
 wr:W.heap[b+1]? =some (.cells #[.int .i64 e] 30 (0,0))
 mine:own b∧own (b+1)
 ne:e≠0
theorem GJ.keep {σ:Type} {b:Nat} {g:Gr σ} {own:Nat→Prop} {k:Nat} {W W':World} (h:GJ b g own k W) (hk:∀ j,j<W.heap.size→own j→W'.heap[j]? =W.heap[j]?):GJ b g own k W':=by
 obtain⟨v,h1,h2,h3⟩:=h.out;exact⟨⟨v,(hk b (zi h1).1 h.mine.1).trans h1,zaF h2 fun x hx hl=>hk x hl (h3 x hx),h3⟩,(hk _ (zi h.wr).1 h.mine.2).trans h.wr,h.mine,h.le⟩
theorem GX.keep {b:Nat} {e:Int} {own:Nat→Prop} {W W':World} (h:GX b e own W) (hk:∀ j,j<W.heap.size→own j→W'.heap[j]? =W.heap[j]?):GX b e own W':=
 ⟨(hk b (zi h.out).1 h.mine.1).trans h.out,(hk _ (zi h.wr).1 h.mine.2).trans h.wr,h.mine,h.ne⟩
theorem zlq (w:World) (a b c d:Obj) {W0:World} (h:(((w.alloc a).alloc b).alloc c).alloc d=W0):(W0.heap[w.heap.size]? =some a∧W0.heap[w.heap.size+1]? =some b∧W0.heap[w.heap.size+2]? =some c∧W0.heap[w.heap.size+3]? =some d)∧Below w.heap.size w W0∧W0.heap.size=w.heap.size+4:=by
 obtain⟨W1,hW1⟩:∃ W1,((w.alloc a).alloc b).alloc c=W1:=⟨_,rfl⟩;obtain⟨⟨g0,g1,g2⟩,b0,s0⟩:=zaE _ _ _ _ hW1;rw[hW1] at h;have b1:=zaa W1 d;have e1:=zq W1 d;rw[h] at b1 e1;refine⟨⟨(b1.block _ (by omega)).trans g0,(b1.block _ (by omega)).trans g1,(b1.block _ (by omega)).trans g2,by rw[←s0];exact e1⟩,b0.trans (b1.mono b0.size),by rw[←h];simp;omega⟩
def GE {σ:Type} (I:σ→(Nat→Prop)→World→Prop) (s:σ) (F:Nat→Prop) (w:World) (L:Nat) (own:Nat→Prop) (W:World):Prop:=
 ∃ F',I s F' W∧Dj own F' W∧(∀ j,F' j→F j∨L+2≤j)∧(∀ j,F' j→j<W.heap.size)∧But F w W
def outL {σ:Type} (g:Gr σ):List Sv:=if g.e=0 then g.ys else[]
def Tl {σ:Type} (g:Gr σ) (k:Nat) (x:Sv × Int) (b:Bool):Prop:=(b=true∧g.ys[k]? =some x.1∧x.2=0)∨(b=false∧k=g.ys.length∧x=(zs,g.e)∧g.e≠0)
theorem zp0 {σ:Type} (g:Gr σ):Fit (Tl g) 0 g:=⟨fun i x hx=>.inl ⟨rfl,by rw[Nat.zero_add];exact hx,rfl⟩,fun h=>.inr ⟨rfl,Nat.zero_add _,rfl,h⟩⟩
theorem zlr:∀ args w,(callFunc 115 args).run Tryz.prog w=.ok (.enter 115 args) w:=enters_of Tryz.func115 (by kernel_rfl) rfl
theorem zgs {σ:Type} {pl:Pm σ} {pf:Nat} {pb:Array Value} {I:σ→(Nat→Prop)→World→Prop} (hP:Plb pl pf pb I) (G:Nat→Prop) (d:Nat) (n:Nv) (ls:List Rw) (F:Nat→Prop) (s:σ) (w:World)
  (hI:I s F w) (hN:zas G d w n ls) (hG:∀ b,G b→b<w.heap.size∧¬F b) (hon:On ls) (ho:∀ r∈ls,zbd r) (hmx:ls.length≤1000) (hys:(zad pl d s ls).ys.length≤5000):
  Calls Tryz.prog 48 #[gw pf pb,nv n] w fun e w'=>∃ o cap F',e=.returned (.tuple #[.slice o (outL (zad pl d s ls)).length cap,.int .i64 (zad pl d s ls).e])∧SvAt w' o cap (outL (zad pl d s ls))∧(∀ b off,o=some ⟨b,off,none⟩→w.heap.size≤b∧¬F' b)∧I (zad pl d s ls).s F' w'∧But F w w'∧Grw F F' w w':=by
 have HFl:Hid (∀ j,F j→j<w.heap.size):=hP.lt s F w hI;obtain⟨g,hg⟩:∃ g,zad pl d s ls=g:=⟨_,rfl⟩
 have HNode:Hid (∀ (l:Nat) (W:World) (R:(Nat→Prop)→Nat→World→Prop) (Rx:(Nat→Prop)→World→Prop) (own:Nat→Prop),Ask l W.heap.size F (Tl g) R Rx→R own 0 W→Below w.heap.size w W→(∀ j,own j→w.heap.size≤j∧j<W.heap.size)→(∀ j,F j→j<W.heap.size)→
   Calls Tryz.prog 116 #[gw pf pb,nv n,.func (.yield l) #[] #[]] W (GP R Rx (Ib W.heap.size F I) own F 0 g W)):=fun l W R Rx own hA hR hb hown hFW=>by
  have:=ziq l W.heap.size F (Tl g) R Rx hA pl pf pb (Ib W.heap.size F I) (hP.plc W.heap.size F) G d n ls own F 0 s W hR ⟨hP.keep s F w W hI hb.size fun j hj=>hb.block j (HFl.out j hj),fun k hk=>.inl hk,Nat.le_refl _⟩ ⟨fun j hj=>(hown j hj).2,fun j hj hf=>by have:=HFl.out j hf;have:=(hown j hj).1;omega⟩ zn (hN.below hb zn) (fun b hb'=>⟨by have:=(hG b hb').1;have:=hb.size;omega,fun e=>by have:=(hG b hb').1;have:=(hown b e).1;omega,(hG b hb').2⟩) hon ho hmx (by rw[hg];exact zp0 g);rw[hg] at this;exact this
 rw[hg] at hys ⊢;have HPk:Hid (∀ s F W W',I s F W→W.heap.size≤W'.heap.size→(∀ k,F k→W'.heap[k]? =W.heap[k]?)→I s F W'):=hP.keep;have HPl:Hid (∀ s F W,I s F W→∀ k,F k→k<W.heap.size):=hP.lt;have HYs:Hid (g.ys.length≤5000):=hys;obtain⟨PST,hPST⟩:∃ PST:Ending→World→Prop,(fun e w'=>∃ o cap F',e=.returned (.tuple #[.slice o (outL g).length cap,.int .i64 g.e])∧SvAt w' o cap (outL g)∧(∀ b off,o=some ⟨b,off,none⟩→w.heap.size≤b∧¬F' b)∧I g.s F' w'∧But F w w'∧Grw F F' w w')=PST:=⟨_,rfl⟩;rw[hPST];have HP:Hid (∀ e w',(∃ o cap F',e=.returned (.tuple #[.slice o (outL g).length cap,.int .i64 g.e])∧SvAt w' o cap (outL g)∧(∀ b off,o=some ⟨b,off,none⟩→w.heap.size≤b∧¬F' b)∧I g.s F' w'∧But F w w'∧Grw F F' w w')→PST e w'):=fun e w' h=>by rw[←hPST];exact h
 obtain⟨W4,hW4⟩:∃ W4,(((w.alloc (.cells #[.func (.func pf) #[] pb] 93)).alloc (ncs n)).alloc (.cells #[.slice none 0 0] 29)).alloc (.cells #[.int .i64 0] 30)=W4:=⟨_,rfl⟩;obtain⟨⟨g0,g1,g2,g3⟩,b4,s4⟩:=zlq _ _ _ _ _ hW4;have HW4:Hid _:=hW4;have cg:W4.cell? ⟨w.heap.size,0,none⟩=some (.func (.func pf) #[] pb):=by rw[zr g0];rfl
 obtain⟨c0,c1,c2,c3,c4⟩:=zhp g1;have HG4:Hid (W4.heap[w.heap.size+2]? =some (.cells #[.slice none 0 0] 29 (0,0))∧W4.heap[w.heap.size+3]? =some (.cells #[.int .i64 0] 30 (0,0))∧Below w.heap.size w W4∧W4.heap.size=w.heap.size+4):=⟨g2,g3,b4,s4⟩;clear hP hI hN hG hon ho hmx hys hg hPST hW4 g0 g1 g2 g3 b4 s4;refine(callsIn_wide (n:=5)).1 ?_;refine callsIn_of_wp_marks Tryz.func48 rfl trivial ?_ rfl;simp only[Tryz.ntmps48,zS1,zS2,zS3,Nat.reduceAdd,Nat.reduceSub,zS4,zS5,zS6,zS7,zS8,zS9];gi_wp2;refine(wpIn_wide (n:=5)).2 (wp_scope_straight ((wpIn_wide (n:=5)).1 ?_));gi_wp2;refine wpIn_label ?_;gi_wp2;rw[HW4.out];refine⟨trivial,callsIn_wide.2 ((zjh pf pb n W4).mono ?_)⟩;rintro e W6 ⟨rfl,hW6⟩;have q4:=HG4.out.2.2.2;have t1:=zaa W4 (.cells #[.func (.func pf) #[] pb] 93);have t2:=zaa (W4.alloc (.cells #[.func (.func pf) #[] pb] 93)) (ncs n);have u1:=zq W4 (.cells #[.func (.func pf) #[] pb] 93)
 have u2:=zq (W4.alloc (.cells #[.func (.func pf) #[] pb] 93)) (ncs n);have v1:(W4.alloc (.cells #[.func (.func pf) #[] pb] 93)).heap.size=W4.heap.size+1:=by simp
 rw[←hW6] at t2 u2;rw[v1] at t2 u2;have v2:W6.heap.size=W4.heap.size+2:=by rw[hW6];simp
 have t3:=t1.trans (t2.mono (by omega));have HS6:Hid (W6.heap.size=w.heap.size+6∧W4.heap.size=w.heap.size+4):=⟨by omega,q4⟩;have HB6:Hid (Below w.heap.size w W6):=HG4.out.2.2.1.trans (t3.mono (by omega));have HC6:Hid (W6.heap[W4.heap.size]? =some (.cells #[.func (.func pf) #[] pb] 93 (0,0))∧W6.heap[W4.heap.size+1]? =some (ncs n)):=⟨(t2.block _ (by omega)).trans u1,u2⟩
 have HJ0:Hid (GJ (w.heap.size+2) g (fun j=>j=w.heap.size+2∨j=w.heap.size+3) 0 W6):=
  ⟨⟨.slice none 0 0,(t3.block _ (by omega)).trans HG4.out.1,World.ownsRow_nil _ _ _ _,fun x hx=>by simp[Value.ownBlock] at hx⟩,(t3.block _ (by omega)).trans HG4.out.2.1,⟨.inl rfl,.inr rfl⟩,Nat.zero_le _⟩
 clear cg c0 c1 c2 c3 c4 t1 t2 u1 u2 v1 v2 t3 q4 hW6 HG4;gi_wp2
 refine zd4 (by omega) (gf:=115) (lb:=#[.pointer (some ⟨W4.heap.size,0,none⟩),.pointer (some ⟨W4.heap.size+1,0,none⟩)]) rfl zlr (α:=Sv × Int) (if g.e=0 then g.ys.length else g.ys.length+1) (fun x=>#[sv x.1,.int .i64 x.2]) (fun _=>rfl)
  (Tl g) F ?hV (fun own k W=>GJ (w.heap.size+2) g own k W∧∀ j,own j→j=w.heap.size+2∨j=w.heap.size+3∨w.heap.size+8≤j) (fun own W=>GX (w.heap.size+2) g.e own W∧∀ j,own j→j=w.heap.size+2∨j=w.heap.size+3∨w.heap.size+8≤j) (.exit 0) ?hJ ?hJx
  (GE I g.s F w (w.heap.size+6)) ?hE (fun j=>j=w.heap.size+2∨j=w.heap.size+3) ?hown0 ?h0
  (fun x a' W=>∃ bx,w.heap.size+8≤bx∧bx<W.heap.size∧W.heap[bx]? =some (.cells #[.string x.1.t,.int .u32 (x.1.r.p:Int),.string x.1.r.t] 51 (0,0))∧a'={ tmps:=#[gw pf pb,nv n,.pointer (some ⟨w.heap.size,0,none⟩),.pointer (some ⟨w.heap.size+1,0,none⟩),.slice none 0 0,.int .i64 0,.pointer (some ⟨w.heap.size+2,0,none⟩),.pointer (some ⟨w.heap.size+3,0,none⟩),.pointer (some ⟨bx,0,none⟩),.int .i64 x.2,gw pf pb,nv n,.func (.func 115) #[] #[.pointer (some ⟨W4.heap.size,0,none⟩),.pointer (some ⟨W4.heap.size+1,0,none⟩)],sv x.1,.int .i64 x.2,undef,undef,undef,undef,undef,undef,undef,undef,undef],defers:=[] }) ?hA ?assign ?body ?iter ?done ?stop
 case hV=>intro j hj;have:=HFl.out j hj;have:=HS6.out;omega
 case hJ=>
  intro own k X Y h hb;have hs:=HS6.out;exact⟨h.1.keep fun j hj ho=>hb.block j hj (.inr ho),h.2⟩
 case hJx=>intro own X Y h hb;exact⟨h.1.keep fun j hj ho=>hb.block j hj (.inr ho),h.2⟩
 case hE=>
  rintro own own' X o' ⟨F',h1,h2,h3,h4,h5⟩ hl hsub;have hs:=HS6.out;have hnl:¬F' (W6.heap.size+1):=fun e=>h2.no _ hl e
  refine⟨F',HPk.out _ F' X _ h1 (by simp[World.putObj]) fun k hk=>World.putObj_heap_other fun e=>hnl (e▸hk),⟨fun j hj=>by have:=h2.lt j (hsub j hj);simpa [World.putObj] using this,fun j hj=>h2.no j (hsub j hj)⟩,h3,fun j hj=>by have:=h4 j hj;simpa [World.putObj] using this,?_⟩;exact⟨h5.os,h5.tape,h5.output,by have:=h5.size;simpa [World.putObj] using this,fun j hj hn=>by rw[World.putObj_heap_other (by omega)];exact h5.block j hj hn⟩
 case hown0=>intro j hj;have:=HS6.out;omega
 case h0=>exact⟨HJ0.out,fun j hj=>by omega⟩
 case hA=>
  rintro x a' X l' o' ⟨bx,h1,h2,h3,h4⟩ hl1 hl2;have hs:=HS6.out;exact⟨bx,h1,by simpa [World.putObj] using h2,(World.putObj_heap_other (by omega)).trans h3,h4⟩
 case assign=>
  intro l' own k x b W' K' hit hJk hsz hK';obtain⟨⟨xt,⟨xp,xs⟩⟩,xe⟩:=x;have HZ:Hid (w.heap.size+8≤W'.heap.size):=by refine(?_:w.heap.size+8≤W'.heap.size);have:=HS6.out;omega
  have HK':Hid _:=hK';clear hit hJk hsz hK';gi_wp2;exact HK'.out _ _ (zaa W' _) ⟨W'.heap.size,HZ.out,by simp,zq W' _,rfl⟩
 case iter=>
  intro l' W5 hl' hB5 hs5 R' Rx' ow how hR' hRx' hY' h0';have hs:=HS6.out;have hb5:Below w.heap.size w W5:=HB6.out.trans (hB5.mono (by omega));refine zhq pf pb n W4.heap.size (W4.heap.size+1) _ W5 _ ((hB5.block _ (by omega)).trans HC6.out.1) ((hB5.block _ (by omega)).trans HC6.out.2) (HNode.out l' W5 R' Rx' ow ⟨hR',hRx',fun own k x b W a1 a2 a3=>hY' own k x b W a1 a2 a3⟩ h0' hb5 (fun j hj=>?_) (fun j hj=>by have:=HFl.out j hj;omega)) ?_
  ·rcases(how j).1 hj with(rfl|rfl)|rfl<;>omega
  ·rintro W' ⟨own',F',⟨hg1,hg2⟩,hdj,hbt,hi,hr,hx⟩
   refine⟨⟨_,rfl⟩,own',⟨F',hi.1,hdj,fun j hj=>?_,HPl.out _ F' W' hi.1,⟨hbt.os.trans hb5.os,hbt.tape.trans hb5.tape,hbt.output.trans hb5.output,Nat.le_trans hb5.size hbt.size,fun j hj hn=>?_⟩⟩,?_⟩
   ·rcases hi.2.1 j hj with a|a
    ·exact .inl a
    ·exact .inr (by omega)
   ·rw[hbt.block j (by have:=hb5.size;omega) (fun e=>?_),hb5.block j hj]
    rcases e with e|e
    ·rcases(how j).1 e with(a|a)|a<;>omega
    ·exact hn e
   ·by_cases h0:g.e=0
    ·rw[if_pos h0]
     have:=hr h0;rw[Nat.zero_add] at this;exact .inl this
    ·exact .inr (hx h0)
 case body=>
  rintro l' own k x b a' W' hit ⟨hJ,hon⟩ ⟨bx,h1,h2,h3,rfl⟩ hsz hol;have HOn:Hid (∀ j,own j→j=w.heap.size+2∨j=w.heap.size+3∨w.heap.size+8≤j):=hon;have HJe:Hid (GJ (w.heap.size+2) g own k W'):=hJ;obtain⟨u,o1,o2,o3⟩:=hJ.out;have o4:=hJ.wr;rcases hit with⟨rfl,hy,he⟩|⟨rfl,hk,hx,hne⟩
  ·obtain⟨⟨xt,⟨xp,xs⟩⟩,xe⟩:=x
   simp only at hy he h3;subst he;have hk:k<g.ys.length:=(List.getElem?_eq_some_iff.1 hy).1;have hbn:=zaa W' (.cells #[.string xt,.int .u32 (xp:Int),.string xs] 51);have c0:W'.cell? ⟨w.heap.size+2,0,none⟩=some u:=by rw[zr o1];rfl
   have l0:w.heap.size+2<W'.heap.size:=(zi o1).1;obtain⟨s0,s1,s2⟩:=zpZ h3
   obtain⟨v',W2,hrun,a1,a2,a3⟩:=zaV 29 51 Tryz.underlying29 znN rfl (by decide) (by decide) (W'.alloc (.cells #[.string xt,.int .u32 (xp:Int),.string xs] 51)) (w.heap.size+2+2) k 1 u (some ⟨W'.heap.size,0,none⟩) 1
    ((g.ys.take k).flatMap sc) (sc ⟨xt,⟨xp,xs⟩⟩) (zaF o2 fun b _ hb=>hbn.block b hb) (by simp;omega) (znP (zq W' _)) (znO _) (by have:=HYs.out;omega)
   have HRU:Hid _:=hrun;have nb:∀ b,b≤w.heap.size+3→u.ownBlock≠some b:=fun b hb e=>by have:=(zat o2 e).1;omega
   have hB2:W2.heap[w.heap.size+2]? =some (.cells #[u] 29 (0,0)):=(a2.block _ (by simp;omega) (fun e=>nb _ (by omega) e.symm)).trans ((hbn.block _ l0).trans o1);have z0:W2.frozen? ⟨w.heap.size+2,0,none⟩=false:=frozen_of_row W2 _ 0 _ _ hB2;have l2:w.heap.size+2<W2.heap.size:=(zi hB2).1;have d0:W2.cell? ⟨w.heap.size+2,0,none⟩=some u:=by rw[zr hB2];rfl
   have l3:w.heap.size+3<W'.heap.size:=(zi o4).1
   have HFIN:Hid (∃ own',Grw own own' W' (W2.setCell ⟨w.heap.size+2,0,none⟩ v')∧But own W' (W2.setCell ⟨w.heap.size+2,0,none⟩ v')∧GJ (w.heap.size+2) g own' (k+1) (W2.setCell ⟨w.heap.size+2,0,none⟩ v')∧∀ j,own' j→j=w.heap.size+2∨j=w.heap.size+3∨w.heap.size+8≤j):=by
    have hs2:=a2.size;have hsa:(W'.alloc (.cells #[.string xt,.int .u32 (xp:Int),.string xs] 51)).heap.size=W'.heap.size+1:=by simp
    have hss:(W2.setCell ⟨w.heap.size+2,0,none⟩ v').heap.size=W2.heap.size:=by simp[World.setCell]
    have hob:∀ {b:Nat},v'.ownBlock=some b→w.heap.size+4≤b∧b<W2.heap.size:=fun hb=>zat a1 hb
    have hst:∀ j,j≠w.heap.size+2→(W2.setCell ⟨w.heap.size+2,0,none⟩ v').heap[j]? =W2.heap[j]? :=fun j hj=>Below.heap_setCell _ _ _ _ (fun e=>hj e)
    have hbk:∀ j,j<W'.heap.size→j≠w.heap.size+2→u.ownBlock≠some j→(W2.setCell ⟨w.heap.size+2,0,none⟩ v').heap[j]? =W'.heap[j]? :=fun j hj h1' h2'=>(hst j h1').trans ((a2.block j (by omega) (fun e=>h2' e.symm)).trans (hbn.block j hj))
    have hgr:∀ j,v'.ownBlock=some j→own j∨(W'.heap.size≤j∧j<W2.heap.size):=fun j hj=>by
     rcases a3 with a3|a3
     ·exact .inl (o3 j (by rw[←a3];exact hj))
     ·have:=hob hj
      rw[a3] at hj;cases hj;exact .inr ⟨by omega,by omega⟩
    refine⟨fun j=>own j∨v'.ownBlock=some j,fun j hj=>?_,⟨a2.os.trans hbn.os,a2.tape.trans hbn.tape,a2.output.trans hbn.output,by omega,fun j hj hn=>hbk j hj (fun e=>hn (e▸HJe.out.mine.1)) fun e=>hn (o3 j e)⟩,⟨⟨v',zc0 hB2,?_,fun b hb=>.inr hb⟩,?_,⟨.inl HJe.out.mine.1,.inl HJe.out.mine.2⟩,hk⟩,fun j hj=>?_⟩
    ·rcases hj with hj|hj
     ·exact .inl hj
     ·rcases hgr j hj with x|x
      ·exact .inl x
      ·exact .inr ⟨x.1,by omega⟩
    ·have e1:(g.ys.take (k+1)).flatMap sc=(g.ys.take k).flatMap sc++sc ⟨xt,⟨xp,xs⟩⟩:=by
      rw[List.take_add_one,hy,List.flatMap_append];simp
     rw[e1];exact zaF a1 fun b hb _=>hst b (fun e=>by have:=(hob hb).1;omega)
    ·exact(hbk _ l3 (by omega) (nb _ (by omega))).trans o4
    ·rcases hj with hj|hj
     ·exact HOn.out j hj
     ·rcases hgr j hj with x|x
      ·exact HOn.out j x
      ·have:=HS6.out;exact .inr (.inr (by omega))
   obtain⟨o,cap,rfl,-⟩:=zai o2;obtain⟨o',cap',rfl,-⟩:=zai a1;clear hJ hon hsz hol hbn o1 o2 o3 o4 nb hB2 a1 a2 a3 hk hy h3 hrun h1 l3
   gi_wp2_with (gi_at_builtin;refine zlp rfl 29 29 (.tmp 18) (.tmp 20) rfl (vs:=.slice o k cap) (vx:=.slice (some ⟨W'.heap.size,0,none⟩) 1 1) rfl rfl HRU.out ?_)
   exact⟨rfl,HFIN.out⟩
  ·subst hx
   simp only at h3;have c0:W'.cell? ⟨w.heap.size+2,0,none⟩=some u:=by rw[zr o1];rfl
   have l0:w.heap.size+2<W'.heap.size:=(zi o1).1;have l3:w.heap.size+3<W'.heap.size:=(zi o4).1;have z0:W'.frozen? ⟨w.heap.size+2,0,none⟩=false:=frozen_of_row W' _ 0 _ _ o1;obtain⟨W2,hW2⟩:∃ W2,W'.setCell ⟨w.heap.size+2,0,none⟩ (.slice none 0 0)=W2:=⟨_,rfl⟩;have e2:W2.heap[w.heap.size+2]? =some (.cells #[.slice none 0 0] 29 (0,0)):=by rw[←hW2];exact zc0 o1
   have e3:∀ j,j≠w.heap.size+2→W2.heap[j]? =W'.heap[j]? :=fun j hj=>by rw[←hW2];exact Below.heap_setCell _ _ _ _ (fun e=>hj e)
   have s2:W2.heap.size=W'.heap.size:=by rw[←hW2];simp[World.setCell]
   have e4:=(e3 _ (by omega)).trans o4;have z1:W2.frozen? ⟨w.heap.size+3,0,none⟩=false:=frozen_of_row W2 _ 0 _ _ e4;have d1:W2.cell? ⟨w.heap.size+3,0,none⟩=some (.int .i64 0):=by rw[zr e4];rfl
   have l4:w.heap.size+3<W2.heap.size:=by omega
   have HFIN:Hid (Grw own own W' (W2.setCell ⟨w.heap.size+3,0,none⟩ (.int .i64 g.e))∧But own W' (W2.setCell ⟨w.heap.size+3,0,none⟩ (.int .i64 g.e))∧GX (w.heap.size+2) g.e own (W2.setCell ⟨w.heap.size+3,0,none⟩ (.int .i64 g.e))∧∀ j,own j→j=w.heap.size+2∨j=w.heap.size+3∨w.heap.size+8≤j):=by
    have hst:∀ j,j≠w.heap.size+3→(W2.setCell ⟨w.heap.size+3,0,none⟩ (.int .i64 g.e)).heap[j]? =W2.heap[j]? :=fun j hj=>Below.heap_setCell _ _ _ _ (fun e=>hj e)
    refine⟨Grw.refl _ _ _,⟨by rw[←hW2];rfl,by rw[←hW2];rfl,by rw[←hW2];rfl,by simp[World.setCell];omega,fun j hj hn=>?_⟩,⟨(hst _ (by omega)).trans e2,zc0 e4,HJe.out.mine,hne⟩,HOn.out⟩;rw[hst j fun e=>hn (e▸HJe.out.mine.2),e3 j fun e=>hn (e▸HJe.out.mine.1)]
   have HW2:Hid _:=hW2;have hne':(g.e==0)=false:=by simpa using hne
   clear hJ hon hsz hol o1 o2 o3 o4 hk h3 h1 hW2 e2 e3 s2 e4
   gi_wp2_with (first|(rw[HW2.out];clear HW2))
   exact⟨rfl,rfl,own,HFIN.out⟩
 case done=>
  rintro D own W' hDe hno ⟨hJ,hon⟩ ⟨F',f1,f2,f3,f4,f5⟩ hdf;have HDf:Hid (W'.heap[D]? =some (.deferred (some []))):=hdf
  have h0:g.e=0:=by
   by_cases h0:g.e=0
   ·exact h0
   ·have:=hJ.le
    rw[if_neg h0] at this;omega
  obtain⟨v,o1,o2,o3⟩:=hJ.out;rw[if_pos h0,List.take_length] at o2;have o4:=hJ.wr;have c0:W'.cell? ⟨w.heap.size+2,0,none⟩=some v:=by rw[zr o1];rfl
  have c1:W'.cell? ⟨w.heap.size+3,0,none⟩=some (.int .i64 0):=by rw[zr o4];rfl
  have l0:w.heap.size+2<W'.heap.size:=(zi o1).1;have l1:w.heap.size+3<W'.heap.size:=(zi o4).1;obtain⟨o,cap,hv,hsl⟩:=zai o2;subst hv;have hL:outL g=g.ys:=if_pos h0;have HD:Hid (D=w.heap.size+6):=by refine(?_:D=w.heap.size+6);rw[hDe];exact HS6.out.1
  have HFin:Hid (∀ W'' e,But (fun j=>j∈[D]) W'.drew W''→e=.returned (.tuple #[.slice o g.ys.length cap,.int .i64 0])→PST e W''):=by
   intro W'' e hb he;subst he
   have nD:∀ j,F' j→j≠D:=fun j hj e=>by
    have:=HD.out;rcases f3 j hj with x|x
    ·have:=HFl.out j x;omega
    ·omega
   refine HP.out _ W'' ⟨o,cap,F',by rw[hL,h0],?_,fun b off e=>?_,HPk.out _ F' W' W'' f1 hb.size fun j hj=>hb.block j (f4 j hj) fun e=>nD j hj (by simpa using e),?_,fun j hj=>?_⟩
   ·rw[hL]
    refine hsl.same hb.size fun b off e hl=>hb.block b hl fun e'=>?_
    have e1:b=D:=by simpa using e'
    exact hno (e1▸o3 b (by rw[e];rfl))
   ·have h1:=o3 b (by rw[e];rfl)
    refine⟨?_,f2.no b h1⟩;rcases hon b h1 with x|x|x<;>omega
   ·exact⟨hb.os.trans f5.os,hb.tape.trans f5.tape,hb.output.trans f5.output,Nat.le_trans f5.size hb.size,fun j hj hn=>by
     rw[←f5.block j hj hn]
     exact hb.block j (Nat.lt_of_lt_of_le hj f5.size) fun e=>by
      have e1:j=D:=by simpa using e
      have:=HD.out;omega⟩
   ·rcases f3 j hj with x|x
    ·exact .inl x
    ·exact .inr ⟨by omega,Nat.lt_of_lt_of_le (f4 j hj) hb.size⟩
  clear hdf hDe hno hJ hon f1 f2 f3 f4 f5 o1 o2 o3 o4 hsl hL h0;gi_wp2
  gi_region
  gi_wp2;rw[Exit.noGoto_ret];refine zaJ (fun W=>results_tmp2 rfl _ _ _) [D] W'.drew (by simp) (fun E hE=>by simp at hE;subst hE;exact HDf.out) fun W'' hb=>HFin.out W'' _ hb rfl
 case stop=>
  rintro D own W' hDe hno ⟨hJ,hon⟩ ⟨F',f1,f2,f3,f4,f5⟩ hdf;have HDf:Hid (W'.heap[D]? =some (.deferred (some []))):=hdf;have c0:W'.cell? ⟨w.heap.size+2,0,none⟩=some (.slice none 0 0):=by rw[zr hJ.out];rfl
  have c1:W'.cell? ⟨w.heap.size+3,0,none⟩=some (.int .i64 g.e):=by rw[zr hJ.wr];rfl
  have l0:w.heap.size+2<W'.heap.size:=(zi hJ.out).1;have l1:w.heap.size+3<W'.heap.size:=(zi hJ.wr).1;have hL:outL g=[]:=if_neg hJ.ne;have HD:Hid (D=w.heap.size+6):=by refine(?_:D=w.heap.size+6);rw[hDe];exact HS6.out.1
  have HFin:Hid (∀ W'' e,But (fun j=>j∈[D]) W'.drew W''→e=.returned (.tuple #[.slice none 0 0,.int .i64 g.e])→PST e W''):=by
   intro W'' e hb he;subst he
   have nD:∀ j,F' j→j≠D:=fun j hj e=>by
    have:=HD.out;rcases f3 j hj with x|x
    ·have:=HFl.out j x;omega
    ·omega
   refine HP.out _ W'' ⟨none,0,F',by rw[hL];rfl,?_,fun b off e=>(by cases e),HPk.out _ F' W' W'' f1 hb.size fun j hj=>hb.block j (f4 j hj) fun e=>nD j hj (by simpa using e),?_,fun j hj=>?_⟩
   ·rw[hL]
    exact Sl.nil 3 W''
   ·exact⟨hb.os.trans f5.os,hb.tape.trans f5.tape,hb.output.trans f5.output,Nat.le_trans f5.size hb.size,fun j hj hn=>by
     rw[←f5.block j hj hn]
     exact hb.block j (Nat.lt_of_lt_of_le hj f5.size) fun e=>by
      have e1:j=D:=by simpa using e
      have:=HD.out;omega⟩
   ·rcases f3 j hj with x|x
    ·exact .inl x
    ·exact .inr ⟨by omega,Nat.lt_of_lt_of_le (f4 j hj) hb.size⟩
  clear hdf hDe hno hJ hon f1 f2 f3 f4 f5 hL;gi_wp2
  gi_region
  gi_wp2;rw[Exit.noGoto_ret];refine zaJ (fun W=>results_tmp2 rfl _ _ _) [D] W'.drew (by simp) (fun E hE=>by simp at hE;subst hE;exact HDf.out) fun W'' hb=>HFin.out W'' _ hb rfl
end Rz
namespace Rz
open Go.RowKit Go.Lib Go.Shelf
open Rc Rq
open Rw (Rf fcv fc zaB Pp PAt PgAt okP encS encE pz gv Pg rpp pB gcs)
open Rv (FB zab zaS)
attribute [local go_sem] Oper.semAt_some
def hadP {σ:Type} (f:ByteArray→Option Rf) (pl:Pm σ):Pm σ:=fun s t=>match f t with
 |some r=>((r,0),s)
 |none=>pl s t
def wh:List Sv→ByteArray→Option Rf
 |[],_=>none
 |x::l,t=>if t=x.t then some x.r else wh l t
theorem zo8 (x:Sv) (l:List Sv):wh (x::l)=tput (wh l) x.t (some x.r):=by
 funext t
 simp only[wh,tput]
theorem zji (f:ByteArray→Option Rf) (m b3 b5:Nat) (W:World) (t:ByteArray) (r:Rf) (hw:Wh W m f) (h5:W.heap[b5]? =some (.cells #[.map (some m)] 145 (0,0))) (hf:f t=some r):
  Calls Tryz.prog 79 #[.string t,.pointer (some ⟨b5,0,none⟩),.pointer (some ⟨b3,0,none⟩)] W fun e W'=>e=.returned (.tuple #[fcv r,.int .i64 0])∧Below W.heap.size W W':=by
 obtain⟨W0,hW0⟩:∃ W0,W.alloc (.cells #[.int .u32 0,.string ⟨#[]⟩] 49)=W0:=⟨_,rfl⟩;have b0:Below W.heap.size W W0:=by rw[←hW0];exact zaa _ _
 have y0:FB W.heap.size 0 ⟨#[]⟩ W0:=by rw[←hW0];exact zaS W
 obtain⟨W1,hW1⟩:∃ W1,W0.alloc (.cells #[.int .u32 (r.p:Int),.string r.t] 49)=W1:=⟨_,rfl⟩;have b1:Below W0.heap.size W0 W1:=by rw[←hW1];exact zaa _ _
 have z1:FB W0.heap.size (r.p:Int) r.t W1:=by rw[←hW1];exact zq W0 _
 have hl:=(hw.same (b0.block _ hw.lt)).look t true;rw[hf,if_pos rfl] at hl;have c5:W0.cell? ⟨b5,0,none⟩=some (.map (some m)):=by rw[zr ((b0.block _ (zi h5).1).trans h5)];rfl
 obtain⟨u1,u2,u3,u4⟩:=(y0.grow b1).facts;obtain⟨v1,v2,v3,v4⟩:=z1.facts;obtain⟨y2,b2⟩:=(y0.grow b1).set (r.p:Int) r.t;have HY:Hid (FB W.heap.size (r.p:Int) r.t ((W1.setCell ⟨W.heap.size,0,none⟩ (.int .u32 (r.p:Int))).setCell ⟨W.heap.size,1,none⟩ (.string r.t))):=y2;have HB:Hid (Below W.heap.size W ((W1.setCell ⟨W.heap.size,0,none⟩ (.int .u32 (r.p:Int))).setCell ⟨W.heap.size,1,none⟩ (.string r.t))):=(b0.trans (b1.mono b0.size)).trans (b2 _ zn);have HW0:Hid _:=hW0;have HW1:Hid _:=hW1;have hl':(Instr.lookup 145 (.map (some m)) (.string t) true).run Tryz.prog W0=.ok (.tuple #[.agg #[.int .u32 (r.p:Int),.string r.t],.bool true]) W0:=hl;clear hw h5 hf b0 y0 b1 z1 hl y2 b2 hW0 hW1;go_enter Tryz.func79,Tryz.ntmps79
 go_wp2_with (first|(rw[HW0.out];clear HW0)|(rw[HW1.out];clear HW1))
 refine bodyPost_ret (zab rfl _ _ _ _ _ _ rfl rfl HY.out) rfl ?_;exact⟨rfl,HB.out⟩
theorem zls {σ:Type} {pl:Pm σ} {pf:Nat} {pb:Array Value} {I:σ→(Nat→Prop)→World→Prop} (hP:Plb pl pf pb I) (f:ByteArray→Option Rf) (m b3 b5:Nat) (s:σ) (F:Nat→Prop) (W:World) (t:ByteArray) (ht:t.size≤198) (hI:I s F W) (hw:Wh W m f)
  (h5:W.heap[b5]? =some (.cells #[.map (some m)] 145 (0,0))) (h3:W.heap[b3]? =some (.cells #[.func (.func pf) #[] pb] 63 (0,0))) (hf:f t=none):
  Calls Tryz.prog 79 #[.string t,.pointer (some ⟨b5,0,none⟩),.pointer (some ⟨b3,0,none⟩)] W fun e W'=>e=.returned (.tuple #[fcv (pl s t).1.1,.int .i64 (pl s t).1.2])∧∃ F',I (pl s t).2 F' W'∧But F W W'∧Grw F F' W W':=by
 obtain⟨W0,hW0⟩:∃ W0,W.alloc (.cells #[.int .u32 0,.string ⟨#[]⟩] 49)=W0:=⟨_,rfl⟩;have b0:Below W.heap.size W W0:=by rw[←hW0];exact zaa _ _
 have y0:FB W.heap.size 0 ⟨#[]⟩ W0:=by rw[←hW0];exact zaS W
 obtain⟨W1,hW1⟩:∃ W1,W0.alloc (.cells #[.int .u32 0,.string ⟨#[]⟩] 49)=W1:=⟨_,rfl⟩;have b1:Below W0.heap.size W0 W1:=by rw[←hW1];exact zaa _ _
 have hl:=(hw.same (b0.block _ hw.lt)).look t true;rw[hf,if_pos rfl] at hl;have c5:W0.cell? ⟨b5,0,none⟩=some (.map (some m)):=by rw[zr ((b0.block _ (zi h5).1).trans h5)];rfl
 have b01:=b0.trans (b1.mono b0.size);have c3:W0.cell? ⟨b3,0,none⟩=some (.func (.func pf) #[] pb):=by rw[zr ((b0.block _ (zi h3).1).trans h3)];rfl
 have l3:b3<W0.heap.size:=by have:=(zi h3).1;have:=b0.size;omega
 have HFl:Hid (∀ j,F j→j<W.heap.size):=hP.lt s F W hI;have hC:=hP.call s F W1 t ht (hP.keep s F W W1 hI b01.size fun j hj=>b01.block j (HFl.out j hj));have HKp:Hid (∀ s F W W',I s F W→W.heap.size≤W'.heap.size→(∀ k,F k→W'.heap[k]? =W.heap[k]?)→I s F W'):=hP.keep;have HLt:Hid (∀ s F W,I s F W→∀ k,F k→k<W.heap.size):=hP.lt;have heg:=hP.eg;generalize pl s t=rr at hC ⊢;obtain⟨⟨r,e0⟩,s2⟩:=rr;simp only at hC ⊢;have HC:Hid (Calls Tryz.prog pf (#[.string t]++pb) W1 fun e W'=>e=.returned (.tuple #[fcv r,.int .i64 e0])∧∃ F',I s2 F' W'∧But F W1 W'∧Grw F F' W1 W'):=hC;have HY:Hid (FB W.heap.size 0 ⟨#[]⟩ W1):=y0.grow b1;have HB:Hid (Below W.heap.size W W1):=b01;have HW0:Hid _:=hW0;have HW1:Hid _:=hW1;have hl':(Instr.lookup 145 (.map (some m)) (.string t) true).run Tryz.prog W0=.ok (.tuple #[.agg #[.int .u32 0,.string ⟨#[]⟩],.bool false]) W0:=hl;clear hP hI hw h5 h3 hf b0 y0 b1 hl b01 hW0 hW1 hC;go_enter Tryz.func79,Tryz.ntmps79
 go_wp2_with (first|(rw[HW0.out];clear HW0))
 rw[HW1.out];refine Calls.mono HC.out ?_;rintro e W2 ⟨rfl,F',hI2,hb2,hg2⟩;have hlt:W.heap.size<W1.heap.size:=(zi HY.out).1;have hy2:FB W.heap.size 0 ⟨#[]⟩ W2:=(hb2.block _ hlt fun e=>by have:=HFl.out _ e;omega).trans HY.out;obtain⟨u1,u2,u3,u4⟩:=hy2.facts;obtain⟨y3,b3'⟩:=hy2.put6 (r.p:Int) r.t;obtain⟨W3,hW3⟩:∃ W3,(W2.setCell ⟨W.heap.size,0,none⟩ (.int .u32 (r.p:Int))).setCell ⟨W.heap.size,1,none⟩ (.string r.t)=W3:=⟨_,rfl⟩;rw[hW3] at y3 b3';have HY3:Hid (FB W.heap.size (r.p:Int) r.t W3):=y3
 have HR:Hid (∃ F',I s2 F' W3∧But F W W3∧Grw F F' W W3):=by
  have s1:=HB.out.size;have s3:=b3'.size;have s2:=hb2.size;refine⟨F',HKp.out _ F' W2 W3 hI2 s3 fun j hj=>b3'.block j (HLt.out _ F' W2 hI2 j hj) fun e=>?_,⟨b3'.os.trans (hb2.os.trans HB.out.os),b3'.tape.trans (hb2.tape.trans HB.out.tape),b3'.output.trans (hb2.output.trans HB.out.output),by omega,fun j hj hn=>?_⟩,fun j hj=>?_⟩
  ·rcases hg2 j hj with x|x
   ·have:=HFl.out j x;omega
   ·omega
  ·rw[b3'.block j (by omega) (by omega),hb2.block j (by omega) hn,HB.out.block j hj]
  ·rcases hg2 j hj with x|x
   ·exact .inl x
   ·exact .inr ⟨by omega,by omega⟩
 clear hI2 hb2 hg2 hlt hy2 y3 b3' HC c3 l3;go_wp2_with fail;refine bodyPost_ret (zab rfl _ _ _ _ _ _ rfl rfl HY3.out) rfl ?_;exact⟨rfl,HR.out⟩
def Ih {σ:Type} (pf:Nat) (pb:Array Value) (f:ByteArray→Option Rf) (m b3 b5:Nat) (I:σ→(Nat→Prop)→World→Prop):σ→(Nat→Prop)→World→Prop:=fun s F W=>
 ∃ F0,I s F0 W∧(∀ j,F j↔F0 j∨j=m∨j=b3∨j=b5)∧¬F0 m∧¬F0 b3∧¬F0 b5∧Wh W m f∧W.heap[b3]? =some (.cells #[.func (.func pf) #[] pb] 63 (0,0))∧W.heap[b5]? =some (.cells #[.map (some m)] 145 (0,0))
theorem zlt:∀ args w,(callFunc 79 args).run Tryz.prog w=.ok (.enter 79 args) w:=enters_of Tryz.func79 (by kernel_rfl) rfl
theorem zeQ {σ:Type} {pl:Pm σ} {pf:Nat} {pb:Array Value} {I:σ→(Nat→Prop)→World→Prop} (hP:Plb pl pf pb I) (f:ByteArray→Option Rf) (hf:∀ t r,f t=some r→r.p<4294967296) (m b3 b5:Nat):
  Plb (hadP f pl) 79 #[.pointer (some ⟨b5,0,none⟩),.pointer (some ⟨b3,0,none⟩)] (Ih pf pb f m b3 b5 I) where
 eg:=zlt
 lt:=fun s F W ⟨F0,h1,h2,h3,h4,h5,h6,h7,h8⟩ k hk=>by
  rcases(h2 k).1 hk with x|rfl|rfl|rfl
  ·exact hP.lt s F0 W h1 k x
  ·exact h6.lt
  ·exact(zi h7).1
  ·exact(zi h8).1
 keep:=fun s F W W' ⟨F0,h1,h2,h3,h4,h5,h6,h7,h8⟩ hs hk=>⟨F0,hP.keep s F0 W W' h1 hs fun j hj=>hk j ((h2 j).2 (.inl hj)),h2,h3,h4,h5,h6.same (hk m ((h2 m).2 (.inr (.inl rfl)))),(hk b3 ((h2 b3).2 (.inr (.inr (.inl rfl))))).trans h7,(hk b5 ((h2 b5).2 (.inr (.inr (.inr rfl))))).trans h8⟩
 small:=fun s t=>by
  unfold hadP;cases h:f t with
  |none=>exact hP.small s t
  |some r=>exact hf t r h
 call:=fun s F W t ht ⟨F0,h1,h2,h3,h4,h5,h6,h7,h8⟩=>by
  cases h:f t with
  |some r=>
   refine(zji f m b3 b5 W t r h6 h8 h).mono ?_;rintro e W' ⟨rfl,hb⟩;have e1:hadP f pl s t=((r,0),s):=by unfold hadP;rw[h]
   rw[e1];have l3:=(zi h7).1;have l5:=(zi h8).1;exact⟨rfl,F,⟨F0,hP.keep s F0 W W' h1 hb.size fun j hj=>hb.block j (hP.lt s F0 W h1 j hj),h2,h3,h4,h5,h6.same (hb.block _ h6.lt),(hb.block _ l3).trans h7,(hb.block _ l5).trans h8⟩,But.of_below hb,Grw.refl _ _ _⟩
  |none=>
   refine(zls hP f m b3 b5 s F0 W t ht h1 h6 h8 h7 h).mono ?_;rintro e W' ⟨rfl,F1,g1,g2,g3⟩;have e1:hadP f pl s t=pl s t:=by unfold hadP;rw[h]
   rw[e1];have l3:=(zi h7).1;have l5:=(zi h8).1;have l1:=h6.lt
   have no:∀ j,j<W.heap.size→¬F0 j→¬F1 j:=fun j hj hn h=>by
    rcases g3 j h with x|x
    ·exact hn x
    ·omega
   refine⟨rfl,fun j=>F1 j∨j=m∨j=b3∨j=b5,⟨F1,g1,fun j=>Iff.rfl,no m l1 h3,no b3 l3 h4,no b5 l5 h5,h6.same (g2.block _ l1 h3),(g2.block _ l3 h4).trans h7,(g2.block _ l5 h5).trans h8⟩,g2.more fun j _ hj=>(h2 j).2 (.inl hj),fun j hj=>?_⟩;rcases hj with x|x
   ·exact(g3 j x).imp (fun y=>(h2 j).2 (.inl y)) id
   ·exact .inl ((h2 j).2 (.inr x))
theorem zgt (o:Option Addr) (n cap:Nat) (W:World):
  Calls Tryz.prog 78 #[.slice o n cap] W fun e W'=>e=.returned (.func (.func 114) #[] #[.pointer (some ⟨W.heap.size,0,none⟩)])∧W'=W.alloc (.cells #[.slice o n cap] 29):=by
 go_enter Tryz.func78,Tryz.ntmps78;go_wp2_with fail;go_ret;exact⟨rfl,rfl⟩
end Rz
namespace Rz
open Go.RowKit Go.Lib Go.Shelf
open Rc Rq
open Rw (Rf fcv fc zaB Pp PAt PgAt okP encS encE pz gv Pg rpp pB gcs)
open Rv (FB zab zaS)
attribute [local go_sem] Oper.semAt_some
def up1 (v:Value):Nat:=match v with
 |.int _ z=>(z+1).toNat
 |_=>0
def sat (l:List Sv) (i:Nat):Sv:=(l[i]?).getD zs
theorem zbS {l:List Sv} {i:Nat} (h:i<l.length):l[i]? =some (sat l i):=by unfold sat;rw[List.getElem?_eq_getElem h];rfl
def Fs3 (w:World) (b x:Nat) (y:Sv):Prop:=w.cell? ⟨b,x,none⟩=some (.string y.t)∧w.cell? ⟨b,x+1,none⟩=some (.int .u32 (y.r.p:Int))∧w.cell? ⟨b,x+2,none⟩=some (.string y.r.t)
theorem SvAt.one {w:World} {o:Option Addr} {cap:Nat} {l:List Sv} (h:SvAt w o cap l) {i:Nat} (hi:i<l.length):∃ b off,o=some ⟨b,off,none⟩∧b<w.heap.size∧Fs3 w b (off+i*3) (sat l i):=by
 obtain⟨b,off,e,hlt,hc⟩:=h.2.2.2.2 (by omega);have g:=fun j hj=>flat_get sc 3 (fun _=>rfl) l i _ (zbS hi) j hj
 refine⟨b,off,e,hlt,?_,?_,?_⟩
 ·have:=hc (i*3+0) _ (g 0 (by omega));rwa[show off+(i*3+0)=off+i*3 by omega] at this
 ·have:=hc (i*3+1) _ (g 1 (by omega));rwa[show off+(i*3+1)=off+i*3+1 by omega] at this
 ·have:=hc (i*3+2) _ (g 2 (by omega));rwa[show off+(i*3+2)=off+i*3+2 by omega] at this
theorem SvAt.keep {W W':World} {o:Option Addr} {cap:Nat} {l:List Sv} (h:SvAt W o cap l) (hs:W.heap.size≤W'.heap.size) (hk:∀ b off,o=some ⟨b,off,none⟩→0<l.length→b<W.heap.size→W'.heap[b]? =W.heap[b]?):SvAt W' o cap l:=by
 refine⟨h.1,h.2.1,h.2.2.1,h.2.2.2.1,fun hn=>?_⟩;obtain⟨b,off,e,hlt,hc⟩:=h.2.2.2.2 hn;exact⟨b,off,e,Nat.lt_of_lt_of_le hlt hs,fun j u hu=>(World.cell?_of_block (a:=⟨b,off+j,none⟩) (hk b off e hn hlt)).trans (hc j u hu)⟩
theorem SvAt.below {W W':World} {o:Option Addr} {cap B:Nat} {l:List Sv} (h:SvAt W o cap l) (hb:Below B W W') (hB:W.heap.size≤B):SvAt W' o cap l:=h.keep hb.size fun b _ _ _ hl=>hb.block b (by omega)
theorem zfx (g1:Nat) (l:List Sv) (o:Option Addr) (cap:Nat) (hmax:l.length≤100000) (W1:World) (hr:SvAt W1 o cap l)
  (hg1:W1.heap[g1]? =some (.cells #[.slice o l.length cap] 29 (0,0)))
  (yl:Nat) (R:(Nat→Prop)→Nat→World→Prop) (Rx:(Nat→Prop)→World→Prop) (own:Nat→Prop) (hown:(∀ j,own j→j<W1.heap.size)∧¬own g1∧∀ b off,o=some ⟨b,off,none⟩→0<l.length→¬own b)
  (hY:∀ own k j W,j+1+k=l.length→R own k W→(∀ j,own j→j<W.heap.size)→YieldAt Fence.wide 0 Tryz.prog yl #[.int .i64 (j:Int),sv (sat l j)] W (YP R Rx own (k+1) W true))
  (h0:R own 0 W1):
  Calls Tryz.prog 114 (#[.func (.yield yl) #[] #[]]++#[.pointer (some ⟨g1,0,none⟩)]) W1 fun e W'=>(∃ v,e=.returned v)∧∃ own',R own' l.length W':=by
 have HY:Hid _:=hY;have H0:Hid (R own 0 W1):=h0;have HSt:Hid (SvAt W1 o cap l∧W1.heap[g1]? =some (.cells #[.slice o l.length cap] 29 (0,0))∧(∀ j,own j→j<W1.heap.size)∧¬own g1∧∀ b off,o=some ⟨b,off,none⟩→0<l.length→¬own b):=⟨hr,hg1,hown⟩;have c1:W1.cell? ⟨g1,0,none⟩=some (.slice o l.length cap):=by rw[zr hg1];rfl
 have l1:=(zi hg1).1;obtain⟨n,hn⟩:∃ n,l.length=n:=⟨_,rfl⟩;rw[hn] at HY HSt c1 ⊢;have HN:Hid (l.length=n):=hn;have n64:(n:Int)≤100000:=by omega
 clear hY h0 hr hown hg1 hn hmax;refine(callsIn_wide (n:=4)).1 ?_;refine callsIn_of_wp Tryz.func114 rfl trivial ?_ rfl;simp only[Tryz.ntmps114,zS1,zS2,zS3,Nat.reduceAdd,Nat.reduceSub,zS4,zS5,zS6,zS7,zS8,zS9];gi_wp2;clear c1 l1
 gi_loopw [3] (fun iv wr=>∃ (m:Nat) (own2:Nat→Prop),m≤n∧iv=.int .i64 ((m:Int) - 1)∧SvAt wr o cap l∧wr.heap[g1]? =some (.cells #[.slice o n cap] 29 (0,0))∧(∀ j,own2 j→j<wr.heap.size)∧(¬own2 g1∧∀ b off,o=some ⟨b,off,none⟩→0<n→¬own2 b)∧R own2 (n - m) wr) (fun iv _=>up1 iv)
 case atStart=>exact⟨n,own,Nat.le_refl _,rfl,HSt.out.1,HSt.out.2.1,HSt.out.2.2.1,HSt.out.2.2.2,by rw[Nat.sub_self];exact H0.out⟩
 case round=>
  obtain⟨m,own2,hm,rfl,hr2,hg2,hlt2,ho2,hR2⟩:=hrel;have HS2:Hid (SvAt wr o cap l∧wr.heap[g1]? =some (.cells #[.slice o n cap] 29 (0,0))∧(∀ j,own2 j→j<wr.heap.size)∧(¬own2 g1∧∀ b off,o=some ⟨b,off,none⟩→0<n→¬own2 b)):=⟨hr2,hg2,hlt2,ho2⟩;have HR2:Hid (R own2 (n - m) wr):=hR2;clear HSt H0 hR2 hlt2 ho2;cases m with
  |zero=>
   have e0:(((0:Nat):Int) - 1)=-1:=rfl;rw[e0];have HR3:Hid (R own2 n wr):=HR2.out;clear hr2 hg2 HR2;gi_wp2;refine bodyPost_end (results_none rfl _ _ _) rfl ?_;exact⟨⟨_,rfl⟩,own2,HR3.out⟩
  |succ j=>
   have e0:(((j+1:Nat):Int) - 1)=(j:Int):=by omega
   rw[e0];have HR3:Hid (R own2 (n - (j+1)) wr):=HR2.out;obtain⟨b,off,rfl,hbl,k0,k1,k2⟩:=hr2.one (i:=j) (by rw[HN.out];omega);have c1:wr.cell? ⟨g1,0,none⟩=some (.slice (some ⟨b,off,none⟩) n cap):=by rw[zr hg2];rfl
   have l1:=(zi hg2).1;have q0:(0:Int)≤(j:Int):=by omega
   have q1:(j:Int)<(n:Int):=by omega
   have hy0:=za0 (m:=3)<|HY.out own2 (n - (j+1)) j wr (by omega) HR2.out HS2.out.2.2.1
   have HSb:Hid (n - (j+1)+1=n - j):=by refine(?_:n - (j+1)+1=n - j);omega
   rw[HSb.out] at hy0;generalize sat l j=y at k0 k1 k2 hy0;obtain⟨yt,yp,ys⟩:=y;simp only[sv] at k0 k1 k2 hy0;obtain⟨fn,tmps,assign,body,hy,hRd⟩:=hy0;have HRd:Hid (RoundIn Fence.wide 3 Tryz.prog yl fn tmps assign body wr (YP R Rx own2 (n - j) wr true)):=hRd;have HM:Hid (j+1≤n):=hm;clear hr2 hg2 HR2 hRd hm;gi_wp2;refine HRd.out.mono ?_;rintro e W6 ⟨own6,ho6,hb6,rfl,(⟨-,hR6⟩|⟨hx,-⟩)⟩
   ·have HS6:Hid (SvAt W6 (some ⟨b,off,none⟩) cap l∧W6.heap[g1]? =some (.cells #[.slice (some ⟨b,off,none⟩) n cap] 29 (0,0))∧(∀ j,own6 j→j<W6.heap.size)∧(¬own6 g1∧∀ b' off',some (⟨b,off,none⟩:Addr)=some ⟨b',off',none⟩→0<n→¬own6 b')):=by
     obtain⟨s1,s2,s3,s4,s5⟩:=HS2.out;have lg:=(zi s2).1;refine⟨s1.keep hb6.size fun b' off' e hn hl=>hb6.block b' hl (s5 b' off' e (by rw[←HN.out];exact hn)),(hb6.block _ lg s4).trans s2,fun j hj=>?_,fun e=>?_,fun b' off' e hn hj=>?_⟩
     ·rcases ho6 j hj with a|a
      ·exact Nat.lt_of_lt_of_le (s3 j a) hb6.size
      ·exact a.2
     ·rcases ho6 _ e with a|a
      ·exact s4 a
      ·omega
     ·cases e
      rcases ho6 _ hj with a|a
      ·exact s5 b off rfl hn a
      ·omega
    have HR6:Hid (R own6 (n - j) W6):=hR6;clear hy HRd ho6 hb6 hR6;gi_wp2
    go_roundw
    case rel=>exact⟨j,own6,by have:=HM.out;omega,rfl,HS6.out.1,HS6.out.2.1,HS6.out.2.2.1,HS6.out.2.2.2,HR6.out⟩
    case measure=>simp[up1]
   ·cases hx
end Rz
namespace Rz
open Go.RowKit Go.Lib Go.Shelf
open Rc Rq
open Rw (Rf fcv fc zaB Pp PAt PgAt okP encS encE pz gv Pg rpp pB gcs)
open Rv (FB zab zaS)
attribute [local go_sem] Oper.semAt_some
structure HJ (w:World) (v3:Value) (l:List Sv) (L:Nat) (own:Nat→Prop) (k:Nat) (W:World):Prop where
 b3:W.heap[w.heap.size]? =some (.cells #[v3] 63 (0,0))
 mp:Wh W (w.heap.size+1) (wh (l.drop (l.length - k)))
 b5:W.heap[w.heap.size+2]? =some (.cells #[.map (some (w.heap.size+1))] 145 (0,0))
 bel:Below w.heap.size w W
 mine:own (w.heap.size+1)
 only:∀ j,own j→j=w.heap.size+1∨L≤j
theorem HJ.keep {w:World} {v3:Value} {l:List Sv} {L:Nat} {own:Nat→Prop} {k:Nat} {W W':World} (h:HJ w v3 l L own k W) (hL:w.heap.size+3≤L) (hb:Kv L (fun _=>False) own W W'):HJ w v3 l L own k W':=
 ⟨(hb.block _ (zi h.b3).1 (.inl ⟨by omega,id⟩)).trans h.b3,h.mp.same (hb.block _ h.mp.lt (.inl ⟨by omega,id⟩)),(hb.block _ (zi h.b5).1 (.inl ⟨by omega,id⟩)).trans h.b5,h.bel.trans ⟨hb.os,hb.tape,hb.output,hb.size,fun j hj=>hb.block j (Nat.lt_of_lt_of_le hj h.bel.size) (.inl ⟨by omega,id⟩)⟩,h.mine,h.only⟩
theorem zgu:∀ args w,(callFunc 114 args).run Tryz.prog w=.ok (.enter 114 args) w:=enters_of Tryz.func114 (by kernel_rfl) rfl
theorem zgv (pf:Nat) (pb:Array Value) (l:List Sv) (o:Option Addr) (cap:Nat) (hmax:l.length≤100000) (w:World) (hr:SvAt w o cap l):
  Calls Tryz.prog 47 #[.slice o l.length cap,.func (.func pf) #[] pb] w fun e w'=>e=.returned (.func (.func 79) #[] #[.pointer (some ⟨w.heap.size+2,0,none⟩),.pointer (some ⟨w.heap.size,0,none⟩)])∧w'.heap[w.heap.size]? =some (.cells #[.func (.func pf) #[] pb] 63 (0,0))∧Wh w' (w.heap.size+1) (wh l)∧w'.heap[w.heap.size+2]? =some (.cells #[.map (some (w.heap.size+1))] 145 (0,0))∧Below w.heap.size w w':=by
 obtain⟨n,hn⟩:∃ n,l.length=n:=⟨_,rfl⟩;have HR:Hid (SvAt w o cap l):=hr;have HM:Hid (l.length≤100000):=hmax;have HNl:Hid (l.length=n):=hn;rw[hn];obtain⟨PST,hPST⟩:∃ PST:Ending→World→Prop,(fun e w'=>e=.returned (.func (.func 79) #[] #[.pointer (some ⟨w.heap.size+2,0,none⟩),.pointer (some ⟨w.heap.size,0,none⟩)])∧w'.heap[w.heap.size]? =some (.cells #[.func (.func pf) #[] pb] 63 (0,0))∧Wh w' (w.heap.size+1) (wh l)∧w'.heap[w.heap.size+2]? =some (.cells #[.map (some (w.heap.size+1))] 145 (0,0))∧Below w.heap.size w w')=PST:=⟨_,rfl⟩;rw[hPST];have HP:Hid (∀ w',w'.heap[w.heap.size]? =some (.cells #[.func (.func pf) #[] pb] 63 (0,0))∧Wh w' (w.heap.size+1) (wh l)∧w'.heap[w.heap.size+2]? =some (.cells #[.map (some (w.heap.size+1))] 145 (0,0))∧Below w.heap.size w w'→PST (.returned (.func (.func 79) #[] #[.pointer (some ⟨w.heap.size+2,0,none⟩),.pointer (some ⟨w.heap.size,0,none⟩)])) w'):=fun w' h=>by rw[←hPST];exact⟨rfl,h⟩
 obtain⟨W2,hW2⟩:∃ W2,(w.alloc (.cells #[.func (.func pf) #[] pb] 63)).alloc (.map #[] 0)=W2:=⟨_,rfl⟩;obtain⟨W3,hW3⟩:∃ W3,W2.alloc (.cells #[.map (some (w.heap.size+1))] 145)=W3:=⟨_,rfl⟩;have s1:(w.alloc (.cells #[.func (.func pf) #[] pb] 63)).heap.size=w.heap.size+1:=by simp
 have s2:W2.heap.size=w.heap.size+2:=by rw[←hW2];simp
 have s3:W3.heap.size=w.heap.size+3:=by rw[←hW3];simp;omega
 have b1:=zaa w (.cells #[.func (.func pf) #[] pb] 63);have b2:Below (w.heap.size+1) (w.alloc (.cells #[.func (.func pf) #[] pb] 63)) W2:=by rw[←hW2,←s1];exact zaa _ _
 have b3:Below (w.heap.size+2) W2 W3:=by rw[←hW3,←s2];exact zaa _ _
 have k1:W3.heap[w.heap.size]? =some (.cells #[.func (.func pf) #[] pb] 63 (0,0)):=(b3.block _ (by omega)).trans ((b2.block _ (by omega)).trans (zq w _))
 have k2:Wh W3 (w.heap.size+1) (wh []):=by
  have:=Wh.made (w.alloc (.cells #[.func (.func pf) #[] pb] 63));rw[hW2,s1] at this;exact this.same (b3.block _ (by omega))
 have k3:W3.heap[w.heap.size+2]? =some (.cells #[.map (some (w.heap.size+1))] 145 (0,0)):=by rw[←hW3,←s2];exact zq W2 _
 have HB3:Hid (Below w.heap.size w W3):=b1.trans ((b2.mono (by omega)).trans (b3.mono (by omega)));have HK3:Hid (W3.heap[w.heap.size]? =some (.cells #[.func (.func pf) #[] pb] 63 (0,0))∧Wh W3 (w.heap.size+1) (wh [])∧W3.heap[w.heap.size+2]? =some (.cells #[.map (some (w.heap.size+1))] 145 (0,0))∧W3.heap.size=w.heap.size+3):=⟨k1,k2,k3,s3⟩
 have hmm:(Instr.makeMap 145 none).run Tryz.prog (w.alloc (.cells #[.func (.func pf) #[] pb] 63))=.ok (.map (some (w.heap.size+1))) W2:=by
  rw[←hW2,←s1];rfl
 have HW3:Hid _:=hW3;have s2x:=s2;clear hr hmax hn hPST hW2 hW3 b1 b2 b3 k1 k2 k3 s1 s2 s3;refine(callsIn_wide (n:=5)).1 ?_;refine callsIn_of_wp_marks Tryz.func47 rfl trivial ?_ rfl;simp only[Tryz.ntmps47,zS1,zS2,zS3,Nat.reduceAdd,Nat.reduceSub,zS4,zS5,zS6,zS7,zS8,zS9];have HSW2:Hid (W2.heap.size=w.heap.size+2):=s2x;clear s2x;gi_wp2;rw[HW3.out,HSW2.out];refine⟨trivial,callsIn_wide.2 ((zgt o n cap W3).mono ?_)⟩;rintro e W4 ⟨rfl,hW4⟩;have t1:=zaa W3 (.cells #[.slice o n cap] 29);have u1:=zq W3 (.cells #[.slice o n cap] 29);have v1:W4.heap.size=W3.heap.size+1:=by rw[hW4];simp
 rw[←hW4] at t1 u1;have q3:=HK3.out.2.2.2;have HS4:Hid (W4.heap.size=w.heap.size+4∧W3.heap.size=w.heap.size+3):=⟨by omega,q3⟩;have HB4:Hid (Below w.heap.size w W4):=HB3.out.trans (t1.mono (by omega));have HC4:Hid (W4.heap[W3.heap.size]? =some (.cells #[.slice o n cap] 29 (0,0))):=u1
 have HJ0:Hid (HJ w (.func (.func pf) #[] pb) l (w.heap.size+4) (fun j=>j=w.heap.size+1) 0 W4):=
  ⟨(t1.block _ (by omega)).trans HK3.out.1,by rw[Nat.sub_zero,List.drop_length];exact HK3.out.2.1.same (t1.block _ (by omega)),(t1.block _ (by omega)).trans HK3.out.2.2.1,HB4.out,rfl,fun j hj=>.inl hj⟩
 clear t1 u1 v1 hW4 q3 HK3 HB3;gi_wp2
 refine zd4 (by omega) (gf:=114) (lb:=#[.pointer (some ⟨W3.heap.size,0,none⟩)]) rfl zgu (α:=Nat × Sv) n (fun x=>#[.int .i64 (x.1:Int),sv x.2]) (fun _=>rfl)
  (fun k x b=>b=true∧x.1+1+k=n∧x.2=sat l x.1) (fun _=>False) (fun j hj=>hj.elim) (fun own k W=>HJ w (.func (.func pf) #[] pb) l (w.heap.size+4) own k W) (fun _ _=>False) (.exit 0) ?hJ (fun _ _ _ h _=>h)
  (fun _ _=>True) (fun _ _ _ _ _ _ _=>trivial) (fun j=>j=w.heap.size+1) ?hown0 ?h0
  (fun x a' W=>∃ bx,w.heap.size+6≤bx∧bx<W.heap.size∧W.heap[bx]? =some (.cells #[.string x.2.t,.int .u32 (x.2.r.p:Int),.string x.2.r.t] 51 (0,0))∧a'={ tmps:=#[.slice o n cap,.func (.func pf) #[] pb,undef,.pointer (some ⟨w.heap.size,0,none⟩),.nilFunc,.pointer (some ⟨w.heap.size+2,0,none⟩),undef,.pointer (some ⟨bx,0,none⟩),.map (some (w.heap.size+1)),.slice o n cap,.func (.func 114) #[] #[.pointer (some ⟨W3.heap.size,0,none⟩)],.int .i64 (x.1:Int),sv x.2,undef,undef,undef,undef,undef,undef],defers:=[] }) ?hA ?assign ?body ?iter ?done ?stop
 case hJ=>intro own k X Y h hb;have:=HS4.out;exact h.keep (by omega) (by rw[←HS4.out.1];exact hb)
 case hown0=>intro j hj;have:=HS4.out;omega
 case h0=>exact HJ0.out
 case hA=>
  rintro x a' X l' o' ⟨bx,h1,h2,h3,h4⟩ hl1 hl2;have hs:=HS4.out;exact⟨bx,h1,by simpa [World.putObj] using h2,(World.putObj_heap_other (by omega)).trans h3,h4⟩
 case assign=>
  intro l' own k x b W' K' hit hJk hsz hK';obtain⟨xi,⟨xt,⟨xp,xs⟩⟩⟩:=x;have HZ:Hid (w.heap.size+6≤W'.heap.size):=by refine(?_:w.heap.size+6≤W'.heap.size);have:=HS4.out;omega
  have HK':Hid _:=hK';clear hit hJk hsz hK';gi_wp2;exact HK'.out _ _ (zaa W' _) ⟨W'.heap.size,HZ.out,by simp,zq W' _,rfl⟩
 case iter=>
  intro l' W5 hl' hB5 hs5 R' Rx' ow how hR' hRx' hY' h0';have hs:=HS4.out;have hb5:Below w.heap.size w W5:=HB4.out.trans (hB5.mono (by omega));rw[←HNl.out] at HC4 hY' ⊢;refine(zfx W3.heap.size l o cap HM.out W5 (HR.out.below hb5 zn) ((hB5.block _ (by omega)).trans HC4.out) l' R' Rx' ow ⟨fun j hj=>?_,fun e=>?_,fun b off e h0 hj=>?_⟩ (fun own k j W h1 h2 h3=>hY' own k (j,sat l j) true W ⟨rfl,h1,rfl⟩ h2 h3) h0').mono ?_
  ·rcases(how j).1 hj with rfl|rfl<;>omega
  ·rcases(how _).1 e with a|a<;>omega
  ·obtain⟨b',off',e',hlt',-⟩:=HR.out.2.2.2.2 h0
   rw[e] at e';cases e';rcases(how _).1 hj with a|a<;>omega
  ·rintro e W' ⟨h1,own',h2⟩
   exact⟨h1,own',trivial,.inl h2⟩
 case body=>
  rintro l' own k x b a' W' ⟨rfl,hk,hx⟩ hJ ⟨bx,h1,h2,h3,rfl⟩ hsz hol;obtain⟨xi,⟨xt,⟨xp,xs⟩⟩⟩:=x;simp only at hk hx h3;have HJe:Hid (HJ w (.func (.func pf) #[] pb) l (w.heap.size+4) own k W'):=hJ;have c0:W'.cell? ⟨w.heap.size+2,0,none⟩=some (.map (some (w.heap.size+1))):=by rw[zr hJ.b5];rfl
  have l0:w.heap.size+2<W'.heap.size:=(zi hJ.b5).1;obtain⟨s0,s1,s2⟩:=zpZ h3;obtain⟨W2',hrun0,hm2,hb2,hz2⟩:=hJ.mp.update xt ⟨xp,xs⟩;have hrun:(Instr.mapUpdate 145 (.map (some (w.heap.size+1))) (.string xt) (.agg #[.int .u32 (xp:Int),.string xs])).run Tryz.prog W'=.ok () W2':=hrun0
  have hdr:l.drop (l.length - (k+1))=⟨xt,⟨xp,xs⟩⟩::l.drop (l.length - k):=by
   have hlt:xi<l.length:=by have:=HNl.out;omega
   have e1:l.length - (k+1)=xi:=by have:=HNl.out;omega
   have e2:l.length - k=xi+1:=by have:=HNl.out;omega
   rw[e1,e2,List.drop_eq_getElem_cons hlt];have:=zbS hlt;rw[List.getElem?_eq_getElem hlt] at this;rw[Option.some.inj this,hx]
  have HFin:Hid (∃ own',Grw own own' W' W2'∧But own W' W2'∧HJ w (.func (.func pf) #[] pb) l (w.heap.size+4) own' (k+1) W2'):=by
   refine⟨own,Grw.refl _ _ _,hb2.more fun j _ hj=>hj▸HJe.out.mine,⟨(hb2.block _ (zi HJe.out.b3).1 (by omega)).trans HJe.out.b3,?_,(hb2.block _ l0 (by omega)).trans HJe.out.b5,HJe.out.bel.trans ⟨hb2.os,hb2.tape,hb2.output,hb2.size,fun j hj=>hb2.block j (Nat.lt_of_lt_of_le hj HJe.out.bel.size) (by omega)⟩,HJe.out.mine,HJe.out.only⟩⟩;rw[hdr,zo8];exact hm2
  clear hJ hsz hol hk hx h1 h3 hm2 hb2 hz2 hrun0 hdr;gi_wp2;exact⟨rfl,HFin.out⟩
 case stop=>intro D own W' _ _ h;exact h.elim
 case done=>
  intro D own W' hDe hno hJ _ hdf;have HDf:Hid (W'.heap[D]? =some (.deferred (some []))):=hdf
  have HFin:Hid (∀ W'' e,But (fun j=>j∈[D]) W' W''→e=.returned (.func (.func 79) #[] #[.pointer (some ⟨w.heap.size+2,0,none⟩),.pointer (some ⟨w.heap.size,0,none⟩)])→PST e W''):=by
   intro W'' e hb he;subst he;have hs:=HS4.out;have hk:∀ j,j<W'.heap.size→j≠D→W''.heap[j]? =W'.heap[j]? :=fun j hj hn=>hb.block j hj (by simpa using hn)
   have e0:l.drop (l.length - n)=l:=by rw[HNl.out,Nat.sub_self];rfl
   have hmp:=hJ.mp;rw[e0] at hmp;exact HP.out W'' ⟨(hk _ (zi hJ.b3).1 (by omega)).trans hJ.b3,hmp.same (hk _ hmp.lt (by omega)),(hk _ (zi hJ.b5).1 (by omega)).trans hJ.b5,hJ.bel.trans ⟨hb.os,hb.tape,hb.output,hb.size,fun j hj=>hk j (Nat.lt_of_lt_of_le hj hJ.bel.size) (by omega)⟩⟩
  clear hdf hDe hno hJ;gi_wp2;refine zaJ (fun W=>results_tmp rfl _ _ _) [D] W' (by simp) (fun E hE=>by simp at hE;subst hE;exact HDf.out) fun W'' hb=>HFin.out W'' _ hb rfl
end Rz
end Go.Proofs.YtokfnghckpgjmaaGreatDoor
