/- read, walked. -/
import Derived.Test.YtokfnghckpgjmaaGreatDoorQHgq
set_option maxRecDepth 100000
set_option maxHeartbeats 4000000
namespace Go.Proofs.YtokfnghckpgjmaaGreatDoor
namespace Rz
open Go.RowKit Go.Lib Go.Shelf
open Rc Rq
open Rw (Rf fcv fc zaB Pp PAt PgAt okP encS encE pz gv Pg rpp pB gcs zbF decP decE)
open Rv (FB zab zaS Vlt Vs Pl Vok Hon zaw cf take zbT blk)
open Rd (pt St Ok)
theorem zpb {P:Program} {o:Oper} {a:Act} {w:World} {K:Act→World→Prop} {Q:Exit→Act→World→Prop} (t u:TypeId) (s x:Operand) (ho:o.op=.call { callee:=.builtin .append,args:=#[s,x],argTypes:=#[t,u] })
  {vs vx v':Value} {w':World} (hs:a.eval s=vs) (hx:a.eval x=vx) (hrun:(Builtin.append_ #[t,u] o.type #[vs,vx]).run P w=.ok v' w') (hK:K (a.put o.dst v') w'):o.wp P a w K Q:=by
 unfold Oper.wp execOp;simp only[ho,resolve,invoke,builtin,Sem.run_bind,Sem.run_pure,Result.andThen_ok,List.map_toArray,List.map_cons,List.map_nil,hs,hx,hrun];exact hK
def Sx3 (f b:Nat) (g:Value) (r:Rf) (W:World):Prop:=W.cell? ⟨f,0,none⟩=some g∧W.cell? ⟨b,0,none⟩=some (.int .u32 (r.p:Int))∧W.cell? ⟨b,1,none⟩=some (.string r.t)
theorem zlL (Kt:Nat→Int) (A:Pl) (v:Vs) (t:St) (f d:Nat) (hk:Ok t) (hA:∀ k,A.has k∨Und A k→k<f) (ih:zdF Kt A v t f d):zdF Kt A v t f (d+1):=by
 rintro⟨sn,srows,spages⟩ vr vp w ⟨rp,rt⟩ hI hV hT hd hp;obtain⟨W0,hW0⟩:∃ W0,w.alloc (.cells #[.int .u32 (rp:Int),.string rt] 49)=W0:=⟨_,rfl⟩;have b0:Below w.heap.size w W0:=by rw[←hW0];exact zaa _ _
 have y0:FB w.heap.size (rp:Int) rt W0:=by rw[←hW0];exact zq w _
 have hI0:RdI A f ⟨sn,srows,spages⟩ vr vp W0:=hI.keep fun j hj _=>b0.block j hj
 have hs0:W0.heap.size=w.heap.size+1:=by rw[←hW0];simp
 have c1:=(zdo hI0.self).2.1;have lf:f<W0.heap.size:=(zi hI0.self).1;have lfw:f<w.heap.size:=(zi hI.self).1;obtain⟨hn1,-,-⟩:=hI.cnt;simp only at hn1 c1 hd hp;have HW0:Hid _:=hW0;by_cases h0:sn=2100
 ·subst h0
  have HR:Hid (RP A f vr vp w (rdG (rdV Kt v t) (d+1) ⟨2100,srows,spages⟩ ⟨rp,rt⟩) (.returned (.int .i64 61)) W0):=by
   have e1:rdG (rdV Kt v t) (d+1) ⟨2100,srows,spages⟩ ⟨rp,rt⟩=(⟨2100,srows,spages⟩,61):=by rw[rdG,if_pos rfl]
   rw[e1];exact⟨rfl,vr,vp,hI0,fun j hj=>.inl hj,But.of_below b0⟩
  have c1':W0.cell? ⟨f,1,none⟩=some (.int .i64 2100):=c1;clear hI hV hT hd hp b0 y0 hI0 hs0 hn1 hW0 c1 ih;go_enter Tryz.func59,Tryz.ntmps59
  go_wp2_with (first|(rw[HW0.out];clear HW0))
  go_ret;exact HR.out
 ·have hlt:sn<2100:=by omega
  obtain⟨hI1,hb1⟩:=hI0.count hlt;have z1:W0.frozen? ⟨f,1,none⟩=false:=frozen_of_row W0 _ _ _ _ hI0.self;simp only at hI1 hb1;have ecast:((sn+1:Nat):Int)=(sn:Int)+1:=by omega
  rw[ecast] at hI1 hb1;obtain⟨W1,hW1⟩:∃ W1,W0.setCell ⟨f,1,none⟩ (.int .i64 ((sn:Int)+1))=W1:=⟨_,rfl⟩;rw[hW1] at hI1 hb1;have hk0:∀ k,k<w.heap.size→k≠f→W1.heap[k]? =w.heap[k]? :=fun k hk hn=>(hb1.block k (by omega) hn).trans (b0.block k hk)
  have hV1:Vlt W1 A v t:=zbO hV (Nat.le_trans b0.size hb1.size) fun k hk hh=>hk0 k hk (by have:=hA k hh;omega)
  have hT1:Rs.Tb Kt W1:=zbH hT fun k hk hh=>hk0 k hk (by have:=hA k (.inr (.inr hh));omega)
  have y1:FB w.heap.size (rp:Int) rt W1:=(hb1.block _ (by omega) (by omega)).trans y0;have hn2:¬(sn:Int)=2100:=by omega
  have hn3:(sn:Int)<2100:=by omega
  have hC:=Rv.zcH Kt A v t rp (by omega) rt W1.drew (zbO hV1 zn fun k _ _=>rfl) hk (zbH hT1 fun k _ _=>rfl);have HC:Hid (Calls Tryz.prog 83 #[pt A.g,.agg #[.int .u32 (rp:Int),.string rt]] W1.drew fun e w'=>e=.returned (.tuple #[.string (Rv.pgS Kt v t rp rt),.int .i64 (Rv.pgE Kt v t rp rt)])∧Below W1.drew.heap.size W1.drew w'):=hC;have HSW:Hid (Sx3 f w.heap.size (pt A.g) ⟨rp,rt⟩ W1.drew):=⟨(zdo hI1.self).1,(y1.facts).2.2.1,(y1.facts).2.2.2⟩;have HK1:Hid (RdI A f ⟨sn+1,srows,spages⟩ vr vp W1∧Vlt W1 A v t∧Rs.Tb Kt W1∧FB w.heap.size (rp:Int) rt W1∧w.heap.size+1≤W1.heap.size∧But (Ow f vr vp) w W1):=⟨by rw[show((sn:Int)+1)=((sn+1:Nat):Int) by omega] at*;exact hI1,hV1,hT1,y1,by have:=hb1.size;omega,(But.of_below b0).trans (hb1.more fun j _ hj=>.inl hj)⟩;have HK0:Hid (RdI A f ⟨sn,srows,spages⟩ vr vp w):=hI;have HVT:Hid (Vlt w A v t∧Rs.Tb Kt w):=⟨hV,hT⟩;have HW1:Hid _:=hW1;have HDn:Hid (2100<sn+(d+1)∧sn<2100∧f<w.heap.size∧rp<4294967296):=⟨hd,hlt,lfw,hp⟩
  have HIH:Hid (zdF Kt A v t f d):=ih;have HAk:Hid (∀ k,A.has k∨Und A k→k<f):=hA;obtain⟨KK,hKK⟩:∃ K,rdG (rdV Kt v t) (d+1) ⟨sn,srows,spages⟩ ⟨rp,rt⟩=K:=⟨_,rfl⟩;obtain⟨X,hX⟩:∃ X,Rv.pgS Kt v t rp rt=X:=⟨_,rfl⟩;obtain⟨E,hE⟩:∃ E,Rv.pgE Kt v t rp rt=E:=⟨_,rfl⟩;have e1:(rdV Kt v t ⟨rp,rt⟩).1=X:=hX;have e2:(rdV Kt v t ⟨rp,rt⟩).2=E:=hE;have HG0:Hid (¬E=0→KK=(⟨sn+1,srows,spages⟩,E)):=fun h=>by rw[←hKK,rdG,e2,if_neg h0,if_neg h]
  have HG1:Hid (E=0→zbF X=false→KK=(⟨sn+1,srows,spages⟩,61)):=fun h h'=>by rw[←hKK,rdG,e1,e2,if_neg h0,if_pos h,if_neg (by rw[h'];decide)]
  have HG2:Hid (E=0→zbF X=true→KK=if(stp (rdG (rdV Kt v t) d) (zaQ (decP X)) ⟨sn+1,srows,spages⟩).2=0 then(⟨(stp (rdG (rdV Kt v t) d) (zaQ (decP X)) ⟨sn+1,srows,spages⟩).1.n,(stp (rdG (rdV Kt v t) d) (zaQ (decP X)) ⟨sn+1,srows,spages⟩).1.rows++(decP X).l,(stp (rdG (rdV Kt v t) d) (zaQ (decP X)) ⟨sn+1,srows,spages⟩).1.pages++[⟨X,⟨rp,rt⟩⟩]⟩,0) else stp (rdG (rdV Kt v t) d) (zaQ (decP X)) ⟨sn+1,srows,spages⟩):=fun h h'=>by rw[←hKK,rdG,e1,e2,if_neg h0,if_pos h,if_pos h']
  rw[hX,hE] at HC;rw[hKK];clear hI hV hT hd hp b0 y0 hI0 hs0 hn1 hW0 ih hI1 hb1 hk0 hV1 hT1 y1 hC hW1 ecast h0 hlt hA hKK hX hE e1 e2;go_enter Tryz.func59,Tryz.ntmps59
  go_wp2_with (first|(rw[HW0.out];clear HW0)|(rw[HW1.out];clear HW1))
  refine wp_region_held (S:=Sx3 f w.heap.size (pt A.g) ⟨rp,rt⟩) (by kernel_rfl) ?_;change wpAnyH _ _ _ _ _ _ _ _ (World.drew _);refine plan [0,1,2,3,4] ?_
  iterate 5
   refine tkH (v:=?_) rfl ?_ HSW.out ?_;rotate_left
   ·rintro w ⟨e1,e2,e3⟩;go_simp;try with_reducible rfl
   conv in(Act.put _ _ _)=>simp only[zL1,zL2,zL3,Act.put,zL4,zL5,zL6]
  refine plan0 ?_;refine zar 5 _ (by kernel_rfl) rfl (by kernel_rfl) (fun K hK=>?_);go_simp;refine HC.out.mono ?_;rintro e w2 ⟨rfl,b2⟩;have hwk:∀ k,k<W1.heap.size→w2.heap[k]? =W1.heap[k]? :=fun k hk=>b2.block k hk
  have hws:W1.heap.size≤w2.heap.size:=b2.size
  have HB2:Hid (RdI A f ⟨sn+1,srows,spages⟩ vr vp w2∧FB w.heap.size (rp:Int) rt w2∧w.heap.size+1≤w2.heap.size∧But (Ow f vr vp) w w2):=by
   obtain⟨g1,g2,g3,g4,g5,g6⟩:=HK1.out;exact⟨g1.keep fun j hj _=>hwk j hj,(hwk _ (by omega)).trans g4,by omega,g6.trans ⟨b2.os,b2.tape,b2.output,hws,fun j hj _=>hwk j hj⟩⟩
  replace HSW:Hid (Sx3 f w.heap.size (pt A.g) ⟨rp,rt⟩ w2):=⟨(zdo HB2.out.1.self).1,(HB2.out.2.1.facts).2.2.1,(HB2.out.2.1.facts).2.2.2⟩
  refine hK _ _ HSW.out ?_;clear hK K b2 hwk hws HC HK1;refine plan [6,7,8,9,10] ?_
  iterate 5
   refine tkH (v:=?_) rfl ?_ HSW.out ?_;rotate_left
   ·rintro w ⟨e1,e2,e3⟩;go_simp;try with_reducible rfl
   conv in(Act.put _ _ _)=>simp only[zL1,zL2,zL3,Act.put,zL4,zL5,zL6]
  refine plan0 ?_;refine wpAnyH_done (by kernel_rfl) ?_ _;clear HSW
  rename_i hKK
  refine hKK _ _ ?_;clear hKK;by_cases hE:E=0
  ·subst hE
   have HD:Hid (Calls Tryz.prog 84 #[.string X] w2 fun e w'=>∃ q,e=.returned (.tuple #[gv q,.int .i64 (decE X)])∧(PAt w' q (decP X)∧(∀ b off,q.ro=some ⟨b,off,none⟩→w2.heap.size≤b)∧∀ b off,q.ko=some ⟨b,off,none⟩→w2.heap.size≤b)∧Below w2.heap.size w2 w'):=Rw.zhf X w2;have hG1:=HG1.out rfl;have HG3:Hid _:=HG2.out rfl;have HG1b:Hid (zbF X=false→KK=(⟨sn+1,srows,spages⟩,61)):=hG1;clear hG1 HG0 HG1 HG2;cases hdk:zbF X with
   |false=>
    have hde:decE X=90:=by unfold Rw.decE;rw[hdk];rfl
    rw[hde] at HD;have HKe:Hid (KK=(⟨sn+1,srows,spages⟩,61)):=HG1b.out hdk;clear hde HG1b HG3 hdk;go_wp2_with fail;refine Calls.mono HD.out ?_;rintro e w3 ⟨q,rfl,-,b3⟩;have b4:=zaa w3 (gcs q)
    have HR:Hid (RP A f vr vp w KK (.returned (.int .i64 61)) (w3.alloc (gcs q))):=by
     rw[HKe.out];obtain⟨g1,g2,g3,g4⟩:=HB2.out;have b34:=b3.trans (b4.mono b3.size);exact⟨rfl,vr,vp,g1.keep fun j hj _=>b34.block j hj,fun j hj=>.inl hj,g4.trans ⟨b34.os,b34.tape,b34.output,b34.size,fun j hj _=>b34.block j hj⟩⟩
    obtain⟨qk,qX,qY,qL,qro,qrn,qrc,qko,qkn,qkc,qnp,qnt⟩:=q;simp only[gv,gcs] at HR ⊢;clear b3 b4 HD HB2 HKe;go_wp2_with fail;go_ret;exact HR.out
   |true=>
    have hde:decE X=0:=by unfold Rw.decE;rw[hdk];rfl
    rw[hde] at HD;obtain⟨hl4,-,hrs32,hrs4⟩:=zeh hdk;have HK3:Hid (KK=if(stp (rdG (rdV Kt v t) d) (zaQ (decP X)) ⟨sn+1,srows,spages⟩).2=0 then(⟨(stp (rdG (rdV Kt v t) d) (zaQ (decP X)) ⟨sn+1,srows,spages⟩).1.n,(stp (rdG (rdV Kt v t) d) (zaQ (decP X)) ⟨sn+1,srows,spages⟩).1.rows++(decP X).l,(stp (rdG (rdV Kt v t) d) (zaQ (decP X)) ⟨sn+1,srows,spages⟩).1.pages++[⟨X,⟨rp,rt⟩⟩]⟩,0) else stp (rdG (rdV Kt v t) d) (zaQ (decP X)) ⟨sn+1,srows,spages⟩):=HG3.out hdk;obtain⟨P,hP⟩:∃ P,decP X=P:=⟨_,rfl⟩;rw[hP] at HD HK3 hl4 hrs32 hrs4;obtain⟨rs,hrs⟩:∃ rs,zaQ P=rs:=⟨_,rfl⟩;have HRs:Hid (zaQ P=rs):=hrs;rw[hrs] at HK3 hrs32 hrs4;have HP4:Hid (P.l.length≤4∧(∀ r∈rs,r.p<4294967296)∧rs.length≤4):=⟨hl4,hrs32,hrs4⟩;clear hde HG1b HG3 hdk hP hrs hl4 hrs32 hrs4;go_wp2_with fail;refine Calls.mono HD.out ?_;rintro e w3 ⟨q,rfl,⟨hq,hlr,hlk⟩,b3⟩;have b4:=zaa w3 (gcs q);have g4:=zq w3 (gcs q);have hRf:=zlJ q P (w3.alloc (gcs q)) (hq.below b4 zn)
    rw[HRs.out] at hRf;obtain⟨W4,hW4⟩:∃ W4,w3.alloc (gcs q)=W4:=⟨_,rfl⟩;have hs4:W4.heap.size=w3.heap.size+1:=by rw[←hW4];simp
    rw[hW4] at hRf b4 g4;have hq4:=hq.below b4 zn;have HRf:Hid (Calls Tryz.prog 85 #[gv q] W4 fun e w'=>∃ o cap,e=.returned (.slice o rs.length cap)∧zaB w' o cap rs∧Below W4.heap.size W4 w'∧∀ b off,o=some ⟨b,off,none⟩→W4.heap.size≤b∨q.ko=some ⟨b,off,none⟩):=hRf;have b24:Below w2.heap.size w2 W4:=b3.trans (b4.mono b3.size)
    have HB4:Hid (RdI A f ⟨sn+1,srows,spages⟩ vr vp W4∧FB w.heap.size (rp:Int) rt W4∧w.heap.size+1≤w2.heap.size∧But (Ow f vr vp) w W4∧w2.heap.size≤w3.heap.size∧W4.heap.size=w3.heap.size+1∧W4.heap[w3.heap.size]? =some (gcs q)∧PAt W4 q P∧(∀ b off,q.ro=some ⟨b,off,none⟩→w2.heap.size≤b)∧∀ b off,q.ko=some ⟨b,off,none⟩→w2.heap.size≤b):=by
     obtain⟨g1,g2,g3,g4'⟩:=HB2.out;exact⟨g1.keep fun j hj _=>b24.block j hj,(b24.block _ (by omega)).trans g2,g3,g4'.trans ⟨b24.os,b24.tape,b24.output,b24.size,fun j hj _=>b24.block j hj⟩,b3.size,hs4,g4,hq4,hlr,hlk⟩
    obtain⟨c0,c1,c2,c3,c4,c5,c6,c7⟩:=zlj g4;obtain⟨qk,qX,qY,qL,qro,qrn,qrc,qko,qkn,qkc,qnp,qnt⟩:=q;simp only[gv,gcs] at HRf hW4 ⊢;simp only at c0 c1 c2 c3 c4 c5 c6 c7;have HW4:Hid _:=hW4;clear b3 b4 g4 hRf hs4 hW4 hq4 hq hlr hlk b24 HD HB2
    go_wp2_with (first|(rw[HW4.out];clear HW4))
    refine Calls.mono HRf.out ?_;rintro e w5 ⟨o,cap,rfl,hR5,b5,hlo⟩
    have HB5:Hid (RdI A f ⟨sn+1,srows,spages⟩ vr vp w5∧FB w.heap.size (rp:Int) rt w5∧w.heap.size+1≤w2.heap.size∧But (Ow f vr vp) w w5∧w2.heap.size≤w3.heap.size∧w3.heap.size+1≤w5.heap.size∧w5.heap[w3.heap.size]? =some (gcs ⟨qk,qX,qY,qL,qro,qrn,qrc,qko,qkn,qkc,qnp,qnt⟩)∧PAt w5 ⟨qk,qX,qY,qL,qro,qrn,qrc,qko,qkn,qkc,qnp,qnt⟩ P∧(∀ b off,qro=some ⟨b,off,none⟩→w2.heap.size≤b)∧(∀ b off,o=some ⟨b,off,none⟩→w2.heap.size≤b)∧zaB w5 o cap rs):=by
     obtain⟨g1,g2,g3,g4,g5,g6,g7,g8,g9,g10⟩:=HB4.out;have:=b5.size
     exact⟨g1.keep fun j hj _=>b5.block j hj,(b5.block _ (by omega)).trans g2,g3,g4.trans ⟨b5.os,b5.tape,b5.output,b5.size,fun j hj _=>b5.block j hj⟩,g5,by omega,(b5.block _ (by omega)).trans g7,g8.below b5 zn,g9,fun b off e=>by
      rcases hlo b off e with x|x
      ·omega
      ·exact g10 b off x,hR5⟩
    clear hR5 b5 hlo HRf HB4 c0 c1 c2 c3 c4 c5 c6 c7;obtain⟨m,hm⟩:∃ m,rs.length=m:=⟨_,rfl⟩;have HM:Hid (rs.length=m):=hm;have m4:(m:Int)≤4:=by have:=HP4.out.2.2;omega
    rw[hm];clear hm
    have HOw:Hid (∀ j,Ow f vr vp j→j<w.heap.size):=fun j hj=>by
     have h1:=(HK0.out.lt hj).2;exact h1
    go_wp2_with fail
    go_loopw [45] (fun iv wr=>∃ (i:Nat) (s':LS) (vr' vp':Value),i≤m∧iv=.int .i64 (i:Int)∧RdI A f s' vr' vp' wr∧Grw (Ow f vr vp) (Ow f vr' vp') w5 wr∧But (Ow f vr vp) w5 wr∧stp (rdG (rdV Kt v t) d) rs ⟨sn+1,srows,spages⟩=stp (rdG (rdV Kt v t) d) (rs.drop i) s'∧(sn+1≤s'.n∧s'.rows.length+4≤4*s'.n∧s'.pages.length+1≤s'.n)) (fun iv _=>m - zam iv)
    case atStart=>exact⟨0,⟨sn+1,srows,spages⟩,vr,vp,Nat.zero_le _,rfl,HB5.out.1,fun j hj=>.inl hj,But.refl _ _,by rw[List.drop_zero],by obtain⟨-,k2,k3⟩:=HK0.out.cnt;simp only at k2 k3 ⊢;omega⟩
    case round=>
     obtain⟨i,s',vr',vp',hi,rfl,hI',hg',hb',hst,hcn⟩:=hrel;have hOl:∀ j,Ow f vr vp j→f≤j∧j<w.heap.size:=fun j hj=>HK0.out.lt hj
     have nOw:∀ j,Ow f vr' vp' j→Ow f vr vp j∨w5.heap.size≤j:=fun j hj=>(hg' j hj).imp id fun x=>x.1
     obtain⟨q1,q2,q3,q4,q5,q6,q7,q8,q9,q10,q11⟩:=HB5.out;have hmid:∀ k,w.heap.size≤k→k<w5.heap.size→wr.heap[k]? =w5.heap[k]? :=fun k h1 h2=>hb'.block k h2 fun e=>by have:=(hOl k e).2;omega
     have hlow:∀ k,k<w.heap.size→¬Ow f vr vp k→wr.heap[k]? =w.heap[k]? :=fun k h1 h2=>(hb'.block k (by omega) h2).trans (q4.block k h1 h2)
     have hws:=hb'.size;by_cases hlt:i<m
     ·have hir:i<rs.length:=by rw[HM.out];exact hlt
      obtain⟨b,off,ho,hbl,hc⟩:=q11.2.2.2.2 (by omega);have hb2:=q10 b off ho;obtain⟨⟨bp,bt⟩,hbr⟩:∃ x,rs[i]=x:=⟨_,rfl⟩;have hget:=fun j hj=>flat_get fc 2 (fun _=>rfl) rs i ⟨bp,bt⟩ (by rw[List.getElem?_eq_getElem hir,hbr]) j hj
      have k0:wr.cell? ⟨b,off+i*2,none⟩=some (.int .u32 (bp:Int)):=by
       refine(World.cell?_of_block (a:=⟨b,off+i*2,none⟩) (hmid b (by omega) hbl)).trans ?_;have:=hc (i*2+0) _ (hget 0 (by omega));exact this
      have k1:wr.cell? ⟨b,off+i*2+1,none⟩=some (.string bt):=by
       refine(World.cell?_of_block (a:=⟨b,off+i*2+1,none⟩) (hmid b (by omega) hbl)).trans ?_;have:=hc (i*2+1) _ (hget 1 (by omega));rw[show off+(i*2+1)=off+i*2+1 by omega] at this;exact this
      have hbp:bp<4294967296:=by have:=HP4.out.2.1 ⟨bp,bt⟩ (by rw[←hbr];exact List.getElem_mem hir);exact this
      have hdrop:rs.drop i=⟨bp,bt⟩::rs.drop (i+1):=by rw[←hbr];exact List.drop_eq_getElem_cons hir
      rw[hdrop,stp] at hst;obtain⟨wr1,hwr1⟩:∃ wr1,wr.alloc (.cells #[.int .u32 (bp:Int),.string bt] 49)=wr1:=⟨_,rfl⟩;have b1:Below wr.heap.size wr wr1:=by rw[←hwr1];exact zaa _ _
      have hs1:wr1.heap.size=wr.heap.size+1:=by rw[←hwr1];simp
      have y1:FB wr.heap.size (bp:Int) bt wr1:=by rw[←hwr1];exact zq wr _
      have hfl:∀ k,A.has k∨Und A k→k<w.heap.size→wr1.heap[k]? =w.heap[k]? :=fun k hh hl=>(b1.block k (by omega)).trans (hlow k hl fun e=>by have:=(hOl k e).1;have:=HAk.out k hh;omega)
      have hCC:=HIH.out s' vr' vp' wr1 ⟨bp,bt⟩ (hI'.keep fun j hj _=>b1.block j hj) (zbO HVT.out.1 (by omega) fun k hl hh=>hfl k hh hl) (zbH HVT.out.2 fun k hl hh=>hfl k (.inr (.inr hh)) hl) (by have:=HDn.out.1;omega) hbp;have hn1:=zp5 (rdV Kt v t) d s' ⟨bp,bt⟩;obtain⟨hn2',hn3'⟩:=zhy (rdV Kt v t) d s' ⟨bp,bt⟩;generalize rdG (rdV Kt v t) d s' ⟨bp,bt⟩=kk at hCC hst hn1 hn2' hn3';obtain⟨ks,ke⟩:=kk;simp only at hst hn1 hn2' hn3';have HCC:Hid (Calls Tryz.prog 59 #[pt f,.agg #[.int .u32 (bp:Int),.string bt]] wr1 (RP A f vr' vp' wr1 (ks,ke))):=hCC;have HCn:Hid (sn+1≤ks.n∧ks.rows.length+4≤4*ks.n∧ks.pages.length+1≤ks.n):=by refine(?_:_∧_∧_);omega
      have HSt:Hid _:=hst;have HWr:Hid (Below wr.heap.size wr wr1∧wr1.heap.size=wr.heap.size+1∧(∀ j,Ow f vr' vp' j→Ow f vr vp j∨w5.heap.size≤j)∧Grw (Ow f vr vp) (Ow f vr' vp') w5 wr∧But (Ow f vr vp) w5 wr∧w.heap.size≤w5.heap.size∧But (Ow f vr vp) w w5):=⟨b1,hs1,nOw,hg',hb',by omega,q4⟩
      have HFin:Hid (∀ vr'' vp'' w6,RdI A f ks vr'' vp'' w6→Grw (Ow f vr' vp') (Ow f vr'' vp'') wr1 w6→But (Ow f vr' vp') wr1 w6→Grw (Ow f vr vp) (Ow f vr'' vp'') w5 w6∧But (Ow f vr vp) w5 w6):=fun vr'' vp'' w6 j1 j2 j3=>by
       have:=j3.size;refine⟨fun j hj=>?_,⟨j3.os.trans (b1.os.trans hb'.os),j3.tape.trans (b1.tape.trans hb'.tape),j3.output.trans (b1.output.trans hb'.output),by omega,fun j hj hn=>?_⟩⟩
       ·rcases j2 j hj with x|x
        ·exact(hg' j x).imp id fun y=>⟨y.1,by omega⟩
        ·exact .inr ⟨by omega,x.2⟩
       ·refine(j3.block j (by omega) fun e=>?_).trans ((b1.block j (by omega)).trans (hb'.block j hj hn))
        rcases nOw j e with x|x
        ·exact hn x
        ·omega
      have qi:(i:Int)<(m:Int):=by omega
      have qi0:(0:Int)≤(i:Int):=by omega
      obtain⟨u1,u2,u3,u4⟩:=y1.facts;have HWr1:Hid _:=hwr1;subst ho;clear hI' hg' hb' hst hcn hOl nOw q1 q2 q3 q4 q5 q6 q7 q8 q9 q10 q11 hmid hlow hws hir hc hb2 hget hbp hdrop hwr1 b1 hs1 y1 hfl hCC hn1 hn2' hn3' hbr
      go_wp2_with (first|(rw[HWr1.out];clear HWr1))
      refine Calls.mono HCC.out ?_;rintro e w6 ⟨rfl,vr'',vp'',j1,j2,j3⟩;obtain⟨x1,x2⟩:=HFin.out vr'' vp'' w6 j1 j2 j3;by_cases hke:ke=0
      ·subst hke
       have HRl:Hid (RdI A f ks vr'' vp'' w6∧Grw (Ow f vr vp) (Ow f vr'' vp'') w5 w6∧But (Ow f vr vp) w5 w6):=⟨j1,x1,x2⟩;clear j1 j2 j3 x1 x2 HCC HFin k0 k1 u1 u2 u3 u4;go_wp2_with fail;refine⟨⟨i+1,ks,vr'',vp'',by omega,by go_num,HRl.out.1,HRl.out.2.1,HRl.out.2.2,by rw[HSt.out];exact if_pos trivial,HCn.out⟩,?_⟩;simp[zam];omega
      ·have hke':(ke==0)=false:=by simpa using hke
       have HR:Hid (RP A f vr vp w KK (.returned (.int .i64 ke)) w6):=by
        have e0:KK=(ks,ke):=by rw[HK3.out,HSt.out,if_neg hke,if_neg hke]
        rw[e0];obtain⟨-,-,-,-,-,z6,z7⟩:=HWr.out;have:=x2.size;refine⟨rfl,vr'',vp'',j1,fun j hj=>(x1 j hj).imp id fun y=>⟨by omega,y.2⟩,z7.trans x2⟩
       clear j1 j2 j3 x1 x2 HCC HFin k0 k1 u1 u2 u3 u4;go_wp2_with fail;go_ret;exact HR.out
     ·obtain rfl:i=m:=by omega
      have hdr:rs.drop i=[]:=List.drop_eq_nil_of_le (by rw[HM.out];exact Nat.le_refl _);rw[hdr] at hst;have hst0:stp (rdG (rdV Kt v t) d) rs ⟨sn+1,srows,spages⟩=(s',0):=hst;have hKK:KK=(⟨s'.n,s'.rows++P.l,s'.pages++[⟨X,⟨rp,rt⟩⟩]⟩,0):=by rw[HK3.out,hst0,if_pos rfl]
      have hrn:qrn=P.l.length:=q8.at'.rn;have hrw:zac wr qro qrc P.l:=zeR q8.at'.rows hws fun b off e hn hl=>hmid b (by have:=q9 b off e;omega) hl
      have hpg:=(hmid _ (by omega) (by omega)).trans q7;obtain⟨ro1,rc1,hv1,-⟩:=zai hI'.rows;obtain⟨ro2,rc2,hv2,-⟩:=zai hI'.pages;subst hv1 hv2;have hIw:RdI A f s' (.slice ro1 s'.rows.length rc1) (.slice ro2 s'.pages.length rc2) wr.drew:=hI'.keep fun j hj _=>rfl
      obtain⟨vr2,W6,hrun,z6,d6,k6,hI6,hg6,hb6⟩:=hIw.addRows hcn.2.1 (show zac wr.drew qro qrc P.l from zeR hrw zn fun _ _ _ _ _=>rfl) HP4.out.1;obtain⟨W7,hW7⟩:∃ W7,W6.setCell ⟨f,2,none⟩ vr2=W7:=⟨_,rfl⟩;rw[hW7] at hI6 hg6 hb6;have hs7:=hb6.size;have hs7':wr.heap.size≤W7.heap.size:=hs7;have hk7:∀ k,k<wr.heap.size→¬Ow f (.slice ro1 s'.rows.length rc1) (.slice ro2 s'.pages.length rc2) k→W7.heap[k]? =wr.heap[k]? :=fun k h1 h2=>hb6.block k h1 h2
      have hfb7:FB w.heap.size (rp:Int) rt W7:=(hk7 _ (by omega) fun e=>by
       rcases nOw _ e with x|x
       ·have:=(hOl _ x).2;omega
       ·omega).trans ((hmid _ (by omega) (by omega)).trans q2)
      obtain⟨Wb,hWb⟩:∃ Wb,(W7.alloc (.cells #[.string X,.int .u32 (rp:Int),.string rt] 51)).drew=Wb:=⟨_,rfl⟩;have bb:Below W7.heap.size W7 Wb:=by rw[←hWb];exact(zaa W7 _).drew
      have hsb:Wb.heap.size=W7.heap.size+1:=by rw[←hWb];simp
      have hIb:RdI A f ⟨s'.n,s'.rows++P.l,s'.pages⟩ vr2 (.slice ro2 s'.pages.length rc2) Wb:=hI6.keep fun j hj _=>(bb.block j hj)
      obtain⟨vp2,W8,hrun2,z8,d8,k8,hI8,hg8,hb8⟩:=hIb.addPage hcn.2.2 ⟨X,⟨rp,rt⟩⟩ (b:=W7.heap.size) (by rw[←hWb];exact zq W7 _);obtain⟨W9,hW9⟩:∃ W9,W8.setCell ⟨f,3,none⟩ vp2=W9:=⟨_,rfl⟩;rw[hW9] at hI8 hg8 hb8;have hs9:=hb8.size
      have HR:Hid (RP A f vr vp w KK (.returned (.int .i64 0)) W9):=by
       rw[hKK];refine⟨rfl,vr2,vp2,hI8,fun j hj=>?_,⟨hb8.os.trans (bb.os.trans (hb6.os.trans (hb'.os.trans q4.os))),hb8.tape.trans (bb.tape.trans ?_),hb8.output.trans (bb.output.trans (hb6.output.trans (hb'.output.trans q4.output))),by omega,fun k h1 h2=>?_⟩⟩
       ·rcases hg8 j hj with x|x
        ·rcases hg6 j x with y|y
         ·exact(hg' j y).imp id fun z=>⟨by omega,by omega⟩
         ·exact .inr ⟨by have:=y.1;simp at this;omega,by have:=y.2;omega⟩
        ·exact .inr ⟨by omega,x.2⟩
       ·exact hb6.tape.trans (hb'.tape.trans q4.tape)
       ·have n7:¬Ow f (.slice ro1 s'.rows.length rc1) (.slice ro2 s'.pages.length rc2) k:=fun e=>by
         rcases nOw k e with x|x
         ·exact h2 x
         ·omega
        have n8:¬Ow f vr2 (.slice ro2 s'.pages.length rc2) k:=fun e=>by
         rcases hg6 k e with x|x
         ·exact n7 x
         ·have:=x.1;simp at this;omega
        exact(hb8.block k (by omega) n8).trans ((bb.block k (by omega)).trans ((hk7 k (by omega) n7).trans (hlow k h1 h2)))
      have HI7:Hid (W7.cell? ⟨f,3,none⟩=some (.slice ro2 s'.pages.length rc2)∧Wb.cell? ⟨f,3,none⟩=some (.slice ro2 s'.pages.length rc2)):=⟨(zdo hI6.self).2.2.2,(zdo hIb.self).2.2.2⟩;have HFb:Hid (FB w.heap.size (rp:Int) rt W7):=hfb7
      have nOws:∀ k,w.heap.size≤k→k<w5.heap.size→¬Ow f (.slice ro1 s'.rows.length rc1) (.slice ro2 s'.pages.length rc2) k:=fun k h1 h2 e=>by
       rcases nOw k e with x|x
       ·have:=(hOl k x).2;omega
       ·omega
      rw[←hrn] at hrun;have d2:wr.cell? ⟨f,2,none⟩=some (.slice ro1 s'.rows.length rc1):=(zdo hI'.self).2.2.1;have dq:wr.cell? ⟨w3.heap.size,4,none⟩=some (.slice qro qrn qrc):=by rw[zr hpg];rfl
      have dq6:W6.cell? ⟨w3.heap.size,4,none⟩=some (.slice qro qrn qrc):=by rw[zr ((k6 w3.heap.size (by have:w3.heap.size<wr.heap.size:=(zi hpg).1;exact this) (nOws _ (by omega) (by omega))).trans hpg)];rfl
      have dq7:W7.cell? ⟨w3.heap.size,4,none⟩=some (.slice qro qrn qrc):=by rw[zr ((hk7 w3.heap.size (zi hpg).1 (nOws _ (by omega) (by omega))).trans hpg)];rfl
      have HSq:Hid (wr.drew.cell? ⟨w3.heap.size,4,none⟩=some (.slice qro qrn qrc)∧W6.cell? ⟨w3.heap.size,4,none⟩=some (.slice qro qrn qrc)∧W7.cell? ⟨w3.heap.size,4,none⟩=some (.slice qro qrn qrc)):=⟨dq,dq6,dq7⟩;have hfb7':=hfb7.facts
      have nW7:¬Ow f vr2 (.slice ro2 s'.pages.length rc2) w.heap.size:=fun e=>by
       rcases hg6 _ e with x|x
       ·exact nOws _ zn (by omega) x
       ·have:=x.1;simp at this;omega
      have lw7:w.heap.size<W7.heap.size:=(zi hfb7).1;have hfbb:FB w.heap.size (rp:Int) rt Wb:=(bb.block _ lw7).trans hfb7;have hfb8:FB w.heap.size (rp:Int) rt W8:=(k8 _ (by omega) nW7).trans hfbb;have hfb9:FB w.heap.size (rp:Int) rt W9:=(hb8.block _ (by omega) nW7).trans hfbb;have HSr:Hid ((Wb.cell? ⟨w.heap.size,0,none⟩=some (.int .u32 (rp:Int))∧Wb.cell? ⟨w.heap.size,1,none⟩=some (.string rt))∧(W8.cell? ⟨w.heap.size,0,none⟩=some (.int .u32 (rp:Int))∧W8.cell? ⟨w.heap.size,1,none⟩=some (.string rt))∧(W9.cell? ⟨w.heap.size,0,none⟩=some (.int .u32 (rp:Int))∧W9.cell? ⟨w.heap.size,1,none⟩=some (.string rt))):=⟨⟨hfbb.facts.2.2.1,hfbb.facts.2.2.2⟩,⟨hfb8.facts.2.2.1,hfb8.facts.2.2.2⟩,⟨hfb9.facts.2.2.1,hfb9.facts.2.2.2⟩⟩;obtain⟨ro3,rc3,hv3,-⟩:=zai hI8.rows;obtain⟨ro4,rc4,hv4,-⟩:=zai hI8.pages;obtain⟨n3,hn3⟩:∃ n3,(s'.rows++P.l).length=n3:=⟨_,rfl⟩;obtain⟨n4,hn4⟩:∃ n4,(s'.pages++[(⟨X,⟨rp,rt⟩⟩:Sv)]).length=n4:=⟨_,rfl⟩
      have hv3':vr2=.slice ro3 n3 rc3:=by rw[←hn3];exact hv3
      have hv4':vp2=.slice ro4 n4 rc4:=by rw[←hn4];exact hv4
      clear hv3 hv4;subst hv3' hv4';have HW7:Hid _:=hW7;have HWb:Hid _:=hWb;have HW9:Hid _:=hW9;have HRun:Hid _:=hrun;have HZ6:Hid (W6.frozen? ⟨f,2,none⟩=false∧W6.cell? ⟨f,2,none⟩=some (.slice ro1 s'.rows.length rc1)):=⟨z6,d6⟩;have HRun2:Hid _:=And.intro hrun2 (And.intro z8 d8);have qm:¬(i:Int)<(i:Int):=by omega
      clear hI' hg' hb' hst hcn hOl nOw q1 q2 q3 q4 q5 q6 q7 q8 q9 q10 q11 hmid hlow hws hdr hst0 hKK hrn hrw hpg hIw hI6 hg6 hb6 hW7 hs7 hs7' hk7 hfb7 hWb bb hsb hIb hI8 hg8 hb8 hW9 hs9 hrun2 z8 d8 k6 k8 nOws dq dq6 dq7 hfb7' nW7 lw7 hfbb hfb8 hfb9 hrun z6 d6;go_wp2_with fail;have HSW:Hid (wr.drew.cell? ⟨w3.heap.size,4,none⟩=some (.slice qro qrn qrc)∧True):=⟨HSq.out.1,trivial⟩;refine wp_region_held (S:=fun W=>W.cell? ⟨w3.heap.size,4,none⟩=some (.slice qro qrn qrc)∧True) (by kernel_rfl) ?_;change wpAnyH _ _ _ _ _ _ _ _ (World.drew _);refine plan [0,1,2,3,5,6] ?_
      iterate 6
       refine tkH (v:=?_) rfl ?_ HSW.out ?_;rotate_left
       ·rintro w ⟨e1,e2⟩;go_simp;try with_reducible rfl
       conv in(Act.put _ _ _)=>simp only[zL1,zL2,zL3,Act.put,zL4,zL5,zL6]
      refine plan0 ?_;refine zar 4 _ (by kernel_rfl) rfl (by kernel_rfl) (fun K hK=>?_);go_simp;refine hK _ _ ⟨HSq.out.1,trivial⟩ ?_;clear hK K d2;refine zar 7 _ (by kernel_rfl) rfl (by kernel_rfl) (fun K hK=>?_);refine zpb 22 22 (.tmp 60) (.tmp 62) rfl (vs:=.slice ro1 s'.rows.length rc1) (vx:=.slice qro qrn qrc) rfl rfl HRun.out ?_;refine hK _ _ ⟨HSq.out.2.1,trivial⟩ ?_;clear hK K HRun
      replace HSW:Hid (W6.cell? ⟨w3.heap.size,4,none⟩=some (.slice qro qrn qrc)∧True):=⟨HSq.out.2.1,trivial⟩
      refine plan [8,9] ?_
      iterate 2
       refine tkH (v:=?_) rfl ?_ HSW.out ?_;rotate_left
       ·rintro w ⟨e1,e2⟩;go_simp;try with_reducible rfl
       conv in(Act.put _ _ _)=>simp only[zL1,zL2,zL3,Act.put,zL4,zL5,zL6]
      refine plan0 ?_;refine zar 10 _ (by kernel_rfl) rfl (by kernel_rfl) (fun K hK=>?_);obtain⟨z6,d6⟩:=HZ6.out;go_simp;rw[HW7.out];refine hK _ _ ⟨HSq.out.2.2,trivial⟩ ?_;clear hK K HSq z6 d6;refine wpAnyH_done (by kernel_rfl) ?_ _;clear HSW
      rename_i hKy
      refine hKy _ _ ?_;clear hKy HW7;go_wp2_with fail;have HSW:Hid ((W7.drew.cell? ⟨w.heap.size,0,none⟩=some (.int .u32 (rp:Int))∧W7.drew.cell? ⟨w.heap.size,1,none⟩=some (.string rt))):=⟨HFb.out.facts.2.2.1,HFb.out.facts.2.2.2⟩;refine wp_region_held (S:=fun W=>W.cell? ⟨w.heap.size,0,none⟩=some (.int .u32 (rp:Int))∧W.cell? ⟨w.heap.size,1,none⟩=some (.string rt)) (by kernel_rfl) ?_;change wpAnyH _ _ _ _ _ _ _ _ (World.drew _);refine plan [0,1,2,3,5,6,7] ?_
      iterate 7
       refine tkH (v:=?_) rfl ?_ HSW.out ?_;rotate_left
       ·rintro w ⟨e1,e2⟩;go_simp;try with_reducible rfl
       conv in(Act.put _ _ _)=>simp only[zL1,zL2,zL3,Act.put,zL4,zL5,zL6]
      refine plan0 ?_;obtain⟨d3,d3l⟩:=HI7.out;obtain⟨-,z8,d8⟩:=HRun2.out;refine zka 4 8 _ _ (by kernel_rfl) rfl rfl (by kernel_rfl) (by kernel_rfl) (fun K hK=>?_) (fun K hK=>?_)
      ·go_simp
       refine hK _ _ HSW.out ?_;clear hK K;refine zar 8 _ (by kernel_rfl) rfl (by kernel_rfl) (fun K hK=>?_);go_simp;rw[HWb.out];refine hK _ _ HSr.out.1 ?_;clear hK K;refine zar 9 _ (by kernel_rfl) rfl (by kernel_rfl) (fun K hK=>?_);refine zpb 29 29 (.tmp 70) (.tmp 74) rfl (vs:=.slice ro2 s'.pages.length rc2) (vx:=.slice (some ⟨W7.heap.size,0,none⟩) 1 1) rfl rfl HRun2.out.1 ?_;refine hK _ _ HSr.out.2.1 ?_;clear hK K
       replace HSW:Hid ((W8.cell? ⟨w.heap.size,0,none⟩=some (.int .u32 (rp:Int))∧W8.cell? ⟨w.heap.size,1,none⟩=some (.string rt))):=HSr.out.2.1
       refine plan [10,11] ?_
       iterate 2
        refine tkH (v:=?_) rfl ?_ HSW.out ?_;rotate_left
        ·rintro w ⟨e1,e2⟩;go_simp;try with_reducible rfl
        conv in(Act.put _ _ _)=>simp only[zL1,zL2,zL3,Act.put,zL4,zL5,zL6]
       refine plan0 ?_;refine zar 12 _ (by kernel_rfl) rfl (by kernel_rfl) (fun K hK=>?_);go_simp;rw[HW9.out];refine hK _ _ HSr.out.2.2 ?_;clear hK K;refine wpAnyH_done (by kernel_rfl) ?_ _;clear HSW
       rename_i hKx
       refine hKx _ _ ?_;clear hKx;go_wp2_with fail;go_ret;exact HR.out
      ·go_simp
       rw[HWb.out];refine hK _ _ HSr.out.1 ?_;clear hK K;refine zar 4 _ (by kernel_rfl) rfl (by kernel_rfl) (fun K hK=>?_);go_simp;refine hK _ _ HSr.out.1 ?_;clear hK K;refine zar 9 _ (by kernel_rfl) rfl (by kernel_rfl) (fun K hK=>?_);refine zpb 29 29 (.tmp 70) (.tmp 74) rfl (vs:=.slice ro2 s'.pages.length rc2) (vx:=.slice (some ⟨W7.heap.size,0,none⟩) 1 1) rfl rfl HRun2.out.1 ?_;refine hK _ _ HSr.out.2.1 ?_;clear hK K
       replace HSW:Hid ((W8.cell? ⟨w.heap.size,0,none⟩=some (.int .u32 (rp:Int))∧W8.cell? ⟨w.heap.size,1,none⟩=some (.string rt))):=HSr.out.2.1
       refine plan [10,11] ?_
       iterate 2
        refine tkH (v:=?_) rfl ?_ HSW.out ?_;rotate_left
        ·rintro w ⟨e1,e2⟩;go_simp;try with_reducible rfl
        conv in(Act.put _ _ _)=>simp only[zL1,zL2,zL3,Act.put,zL4,zL5,zL6]
       refine plan0 ?_;refine zar 12 _ (by kernel_rfl) rfl (by kernel_rfl) (fun K hK=>?_);go_simp;rw[HW9.out];refine hK _ _ HSr.out.2.2 ?_;clear hK K;refine wpAnyH_done (by kernel_rfl) ?_ _;clear HSW
       rename_i hKx
       refine hKx _ _ ?_;clear hKx;go_wp2_with fail;go_ret;exact HR.out
  ·have hE':(E==0)=false:=by simpa using hE
   have HKe:Hid (KK=(⟨sn+1,srows,spages⟩,E)):=HG0.out hE
   have HR:Hid (RP A f vr vp w KK (.returned (.int .i64 E)) w2):=by
    rw[HKe.out];obtain⟨g1,g2,g3,g4⟩:=HB2.out;exact⟨rfl,vr,vp,g1,fun j hj=>.inl hj,g4⟩
   clear HG0 HG1 HG2 HKe HB2;go_wp2_with fail;go_ret;exact HR.out
end Rz
end Go.Proofs.YtokfnghckpgjmaaGreatDoor
