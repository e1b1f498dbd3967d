import Derived.Test.YtokfnghckpgjmaaGreatDoorPD
import Derived.Room.AppendFits
import Derived.Shelf.RegionOpen
import Derived.Test.YtokfnghckpgjmaaGreatDoorPPn
set_option maxRecDepth 100000
set_option maxHeartbeats 1000000
namespace Go.Proofs.YtokfnghckpgjmaaGreatDoor
section
open Go.RowKit Go.Shelf Go.Lib
attribute [local go_sem] Oper.semAt_some
def upto (f:Nat→Int) (k:Nat):List Int:=(List.range k).map f
theorem zaj (f:Nat→Int) (k:Nat):(upto f k).length=k:=by simp[upto]
def bt (s:ByteArray) (i:Nat):Int:=((s.data[i]?.getD 0).toNat:Int)
theorem zaK (s:ByteArray) (i:Nat):0≤bt s i∧bt s i<256:=by
 unfold bt;have:=(s.data[i]?.getD 0).toNat_lt;omega
theorem zca (s:ByteArray) (a b i:Nat) (h:i<min b s.size - a):bt (s.extract a b) i=bt s (a+i):=by
 unfold bt;rw[ByteArray.data_extract,Array.getElem?_extract,if_pos (show i<min b s.data.size - a from h)]
theorem zfQ (s:ByteArray) (i:Nat) (h:i<s.size):(strCells s)[i]? =some (.int .u8 (bt s i)):=by
 unfold strCells bt;rw[List.getElem?_map,Array.getElem?_toList];have e:s.data[i]? =some s.data[i]:=Array.getElem?_eq_getElem h;rw[e];rfl
def mc (M:Nat→Int) (a c:Nat):List Value:=(upto (fun j=>M (a+j)) c).map (Value.int .u8)
theorem zcR (M:Nat→Int) (a c j:Nat) (h:j<c):(mc M a c)[j]? =some (.int .u8 (M (a+j))):=by simp[mc,upto,h]
theorem za8 (M:Nat→Int) (a c:Nat):(mc M a c).length=c:=by simp[mc,upto]
theorem zfR (M:Nat→Int) (a c:Nat) (s:ByteArray) (h:∀ j,j<s.size→bt s j=M (a+c+j)):mc M a c++strCells s=mc M a (c+s.size):=by
 apply List.ext_getElem?;intro j;by_cases h1:j<c
 ·rw[List.getElem?_append_left (by rw[za8];exact h1),zcR _ _ _ _ h1,zcR _ _ _ _ (by omega)]
 ·rw[List.getElem?_append_right (by rw[za8];omega),za8]
  by_cases h2:j<c+s.size
  ·rw[zfQ _ _ (by omega),zcR _ _ _ _ h2,h (j - c) (by omega),show a+c+(j - c)=a+j by omega]
  ·rw[List.getElem?_eq_none (by rw[strCells_length];omega),List.getElem?_eq_none (by rw[za8];omega)]
def offs (ts:Nat→ByteArray):Nat→Nat
 |0=>0
 |i+1=>offs ts i+(ts i).size
theorem zbB (ts : Nat → ByteArray) {i j : Nat} (h : i ≤ j) : offs ts i ≤ offs ts j := by
  induction j with
  | zero => obtain rfl : i = 0 := by omega
            exact Nat.le_refl _
  | succ j ih =>
    by_cases e : i = j + 1
    · subst e; exact Nat.le_refl _
    · have := ih (by omega)
      show offs ts i ≤ offs ts j + (ts j).size;omega
def Kc (g:Nat) (A B:World):Prop:=A.heap.size≤B.heap.size∧∀ j o,j≠g→A.heap[j]? =some o→o.isCells=true→B.heap[j]? =some o
theorem Kc.trans {g:Nat} {A B C:World} (h:Kc g A B) (k:Kc g B C):Kc g A C:=⟨Nat.le_trans h.1 k.1,fun j o hj ho hc=>k.2 j o hj (h.2 j o hj ho hc) hc⟩
theorem Kc.put (g:Nat) (W:World) (l:Nat) (o o':Obj) (h:W.heap[l]? =some o) (hc:o.isCells=false):Kc g W (W.putObj l o'):=
 ⟨by simp[World.putObj],fun j p _ hp hpc=>by
  by_cases e:j=l
  ·subst e;rw[h] at hp;cases hp;rw[hc] at hpc;cases hpc
  ·exact(World.putObj_heap_other e).trans hp⟩
theorem Kc.own {g:Nat} {A B:World} (h:Kc g A B) {base:Nat} {e:TypeId} {p cap n:Nat} {xs:List Value} (ho:A.ownsRow base e 1 (.slice (some ⟨p,0,none⟩) n cap) n xs) (hp:p≠g):B.ownsRow base e 1 (.slice (some ⟨p,0,none⟩) n cap) n xs:=by
 refine⟨ho.1,?_⟩;rcases ho.2 with⟨hv,_⟩|⟨g',cap',cur,hv,hb,hh,rest⟩
 ·cases hv
 ·cases hv
  exact .inr ⟨p,cap,cur,rfl,hb,h.2 _ _ hp hh rfl,rest⟩
theorem zhV {A:World} {base:Nat} {e:TypeId} {p cap n:Nat} {xs:List Value} (ho:A.ownsRow base e 1 (.slice (some ⟨p,0,none⟩) n cap) n xs):A.ownsRow base e 1 (.slice (some ⟨p,0,none⟩) 0 cap) 0 []:=by
 refine⟨rfl,?_⟩;rcases ho.2 with⟨hv,_⟩|⟨g',cap',cur,hv,hb,hh,h1,h2,h3,_⟩
 ·cases hv
 ·cases hv
  exact .inr ⟨p,cap,cur,rfl,hb,hh,Nat.zero_le _,h2,h3,by simp⟩
theorem zbL {A:World} {base:Nat} {e:TypeId} {p cap n:Nat} {xs:List Value} (ho:A.ownsRow base e 1 (.slice (some ⟨p,0,none⟩) n cap) n xs) {j:Nat} {v:Value} (h:xs[j]? =some v):A.cell? ⟨p,j,none⟩=some v:=by
 rcases ho.2 with⟨hv,_⟩|⟨g',cap',cur,hv,hb,hh,h1,h2,h3,h4⟩
 ·cases hv
 ·cases hv
  rw[zr hh];rw[←h4] at h
  have hj:j<n*1:=by
   have:=(List.getElem?_eq_some_iff.1 h).1;simp at this;omega
  rw[List.getElem?_take_of_lt hj] at h;simpa using h
theorem zaI {A:World} {base:Nat} {e:TypeId} {p cap n:Nat} {xs:List Value} (ho:A.ownsRow base e 1 (.slice (some ⟨p,0,none⟩) n cap) n xs):p<A.heap.size:=by
 rcases ho.2 with⟨hv,_⟩|⟨g',cap',cur,hv,hb,hh,_⟩
 ·cases hv
 ·cases hv
  exact(zi hh).1
theorem zb4 {F:Fence} {n:Nat} {P:Program} {o:Oper} {a:Act} {w:World} {K:Act→World→Prop} {Q:Exit→Act→World→Prop} (t u:TypeId) (s x:Operand) (ho:o.op=.call { callee:=.builtin .append,args:=#[s,x],argTypes:=#[t,u] })
  {vs vx v':Value} {w':World} (hs:a.eval s=vs) (hx:a.eval x=vx) (hrun:(Builtin.append_ #[t,u] o.type #[vs,vx]).run P w=.ok v' w') (hK:K (a.put o.dst v') w'):o.wpIn F n P a w K Q:=by
 unfold Oper.wpIn;refine⟨?_,?_⟩
 ·simp[Oper.about,ho,resolve,Target.leads]
 ·rw[Oper.semAt_plain F _ _ (by rw[ho];intro c hc;cases hc)]
  simp[execOp,ho,hs,hx,hrun,Result.andThen,resolve,invoke,builtin];exact hK
theorem zaN {F:Fence} {n:Nat} {P:Program} {ops:Array Oper} {rest:List Oper} {o:Oper} {a:Act} {w:World} {Q:Exit→Act→World→Prop} (hgd:o.guard=none) (t u:TypeId) (s x:Operand) (ho:o.op=.call { callee:=.builtin .append,args:=#[s,x],argTypes:=#[t,u] })
  {vs vx v':Value} {w':World} (hs:a.eval s=vs) (hx:a.eval x=vx) (hrun:(Builtin.append_ #[t,u] o.type #[vs,vx]).run P w=.ok v' w') (h:wpListIn F n P ops Q rest (a.put o.dst v') w'):wpListIn F n P ops Q (o::rest) a w:=
 wpListIn_plain hgd fun _ hK=>zb4 t u s x ho hs hx hrun (hK _ _ h)
theorem info5:(Tryz.prog.info? 5).map (fun i=>(i.zero,i.size,i.bytes))=some (some (.int .u8 0),1,1):=by kernel_rfl
theorem info_parts {t:TypeId} {z:Value} {s b:Nat} (h:(Tryz.prog.info? t).map (fun i=>(i.zero,i.size,i.bytes))=some (some z,s,b)):∃ i,Tryz.prog.info? t=some i∧i.zero=some z∧i.size=s∧i.bytes=b:=by
 obtain⟨i,hi,h'⟩:=Option.map_eq_some_iff.1 h;simp at h';exact⟨i,hi,h'.1,h'.2.1,h'.2.2⟩
theorem Kc.cell {g:Nat} {A B:World} (h:Kc g A B) {b x:Nat} {v:Value} (hb:b≠g) (hc:A.cell? ⟨b,x,none⟩=some v):B.cell? ⟨b,x,none⟩=some v:=by
 obtain⟨o,ho,hoc⟩:=cells_of_cell hc;have e:B.heap[b]? =A.heap[b]? :=(h.2 b o hb ho hoc).trans ho.symm;rw[←hc];unfold World.cell?;simp only[e]
theorem Kc.below {g B:Nat} {X Y:World} (h:Below B X Y) (hB:X.heap.size≤B):Kc g X Y:=⟨h.size,fun j _ _ ho _=>(h.block j (Nat.lt_of_lt_of_le (zi ho).1 hB)).trans ho⟩
theorem Kc.grown {g r:Nat} {X Y Z:World} (h:Kc g X Y) (hg:Y.grownBy Z (some r)) (hr:X.heap.size≤r):Kc g X Z:=
 ⟨Nat.le_trans h.1 hg.size,fun j o hj ho hc=>(hg.block j (Nat.lt_of_lt_of_le (zi ho).1 h.1) (by have:=(zi ho).1;intro e;cases e;omega)).trans (h.2 j o hj ho hc)⟩
theorem zae {B r:Nat} {X Y:World} (hg:X.grownBy Y (some r)) (hr:B≤r) (hB:B≤X.heap.size):Below B X Y:=⟨hg.os,hg.tape,hg.output,hg.size,fun k hk=>hg.block k (by omega) (by intro e;cases e;omega)⟩
theorem zbq (s:ByteArray) (a n:Nat):(s.extract a s.size).extract n (s.extract a s.size).size=s.extract (a+n) s.size:=by
 apply ByteArray.ext;simp[ByteArray.data_extract,Array.extract_extract]
 congr 1
 omega
def szOf:Value→Nat|.string u=>u.size|_=>0
def Yp (B0 T:Nat) (M:Nat→Int) (k:Nat) (x:Nat × Nat) (W:World):Prop:=
 B0≤x.1∧x.1<W.heap.size∧x.2≤64∧64*k+x.2≤T∧(x.2<64→64*k+x.2=T)∧∀ j,j<x.2→W.cell? ⟨x.1,j,none⟩=some (.int .u8 (M (64*k+j)))
theorem zki (n:Nat) (hn:1≤n) (l b1 b2 g len cap:Nat) (o:Option Addr) (s0:ByteArray) (ts:Nat→ByteArray) (M:Nat→Int) (T:Nat) (W:World)
  (hs0:s0.size<64) (hm0:∀ j,j<s0.size→bt s0 j=M j) (hm:∀ i,i<len→∀ j,j<(ts i).size→bt (ts i) j=M (s0.size+offs ts i+j)) (hT:T=s0.size+offs ts len) (hlen:len≤1099511627776)
  (hts:∀ i,i<len→(ts i).size≤1099511627776∧∃ b off,o=some ⟨b,off,none⟩∧b≠g∧b<W.heap.size∧W.cell? ⟨b,off+i,none⟩=some (.string (ts i)))
  (h1:W.heap[b1]? =some (.cells #[.string s0] 9 (0,0))) (h2:W.heap[b2]? =some (.cells #[.slice o len cap] 37 (0,0))) (hgW:g<W.heap.size)
  (R:Nat→World→Prop) (Rx:World→Prop) (hR:∀ k A B,R k A→Below W.heap.size A B→R k B) (hRx:∀ A B,Rx A→Below W.heap.size A B→Rx B)
  (hY:∀ k x A,R k A→Yp W.heap.size T M k x A→YieldAt Fence.wide (n - 1) Tryz.prog l #[.slice (some ⟨x.1,0,none⟩) x.2 64] A fun e B=>(e=.returned (.bool true)∧R (k+1) B∧Kc g A B)∨(e=.returned (.bool false)∧Rx B))
  (h0:R 0 W):
  CallsIn Fence.wide n Tryz.prog 277 #[.func (.yield l) #[] #[],.pointer (some ⟨b1,0,none⟩),.pointer (some ⟨b2,0,none⟩)] W fun e W'=>(∃ v,e=.returned v)∧(Rx W'∨∃ k,R k W'∧T<64*k):=by
 have hmx:Tryz.prog.follows .mixedOrders=true:=by kernel_rfl
 obtain⟨i0,hi,hz0,hz1,hz2⟩:=info_parts info5;have c1:W.cell? ⟨b1,0,none⟩=some (.string s0):=by rw[zr h1];rfl
 have HM0:Hid _:=hm0;have HM:Hid _:=hm;have HTS:Hid _:=hts;have HB1:Hid _:=h1;have HB2:Hid _:=h2;have HR:Hid _:=hR;have HRx:Hid _:=hRx;have HY:Hid _:=hY;have H0:Hid _:=h0;have HT:Hid _:=hT;have HL:Hid _:=hlen;have l1:b1<W.heap.size:=(zi h1).1;have l2:b2<W.heap.size:=(zi h2).1;clear hm0 hm hts h1 h2 hR hRx hY h0 hT hlen;refine callsIn_of_wp Tryz.func277 rfl trivial ?_ rfl;simp only[Tryz.ntmps277,zS1,zS2,zS3,Nat.reduceAdd,Nat.reduceSub,zS4,zS5,zS6,zS7,zS8,zS9];gi_wp2;obtain⟨Wm,hmk0,hown,hgrow⟩:=run_make_own (P:=Tryz.prog) W.drew W.heap.size 140 5 i0 (.int .u8 0) 1 Tryz.underlying140 hi hz0 hz1 .i64 .i64 64 (by rw[hz2];decide) (by decide) zn;have hmk:(Instr.makeSlice 140 (.int .i64 0) (.int .i64 64)).run Tryz.prog W.drew=.ok (.slice (some ⟨W.heap.size,0,none⟩) 0 64) Wm:=hmk0;obtain⟨Wa,hrun0,hownA0,hgrowA⟩:=run_append_fits_string (P:=Tryz.prog) Wm W.heap.size 140 9 140 5 i0 Tryz.underlying140 Tryz.underlying9 hi hz1 (some ⟨W.heap.size,0,none⟩) 0 64 [] hown s0 (by decide) (by omega)
 have hrun:(Builtin.append_ #[140,9] 140 #[.slice (some ⟨W.heap.size,0,none⟩) 0 64,.string s0]).run Tryz.prog Wm=.ok (.slice (some ⟨W.heap.size,0,none⟩) s0.size 64) Wa:=by rw[hrun0,Nat.zero_add]
 have c1m:Wm.cell? ⟨b1,0,none⟩=some (.string s0):=by
  have e:Wm.heap[b1]? =some (.cells #[.string s0] 9 (0,0)):=(hgrow.block b1 l1 (by simp)).trans HB1.out;rw[zr e];rfl
 have HA:Hid (Wa.ownsRow W.heap.size 5 1 (.slice (some ⟨W.heap.size,0,none⟩) s0.size 64) s0.size (mc M (64*0) s0.size)):=by
  have e:mc M (64*0) 0++strCells s0=mc M (64*0) (0+s0.size):=zfR M _ _ s0 (fun j hj=>by rw[HM0.out j hj];congr 1;omega);rw[Nat.zero_add] at e hownA0;rw[←e];exact hownA0
 have HWA:Hid (Below W.heap.size W Wa):=⟨hgrowA.os.trans hgrow.os,hgrowA.tape.trans hgrow.tape,hgrowA.output.trans hgrow.output,Nat.le_trans hgrow.size hgrowA.size,fun k hk=>(hgrowA.block k (Nat.lt_of_lt_of_le hk hgrow.size) (by simp[Value.ownBlock];omega)).trans (hgrow.block k hk (by simp))⟩;clear hmk0 hrun0 hownA0 hgrowA hown hgrow;refine wpIn_region_any hmx ?_;change wpAnyIn _ _ _ _ _ _ _ _ _ (World.drew _);refine wpAnyIn_ready (rs:=[0,1]) (by kernel_rfl) (by simp) ?_;refine(AllReadyIn.cons rfl (fun K hK=>?_) (AllReadyIn.cons rfl (fun K hK=>?_) AllReadyIn.nil))
 ·go_simp
  refine hK _ _ ?_;clear hK K;refine wpAnyIn_ready (rs:=[1]) (by kernel_rfl) (by simp) ?_;refine(AllReadyIn.cons rfl (fun K hK=>?_) AllReadyIn.nil);go_simp;refine hK _ _ ?_;clear hK K;refine wpAnyIn_ready (rs:=[2]) (by kernel_rfl) (by simp) ?_;refine(AllReadyIn.cons rfl (fun K hK=>?_) AllReadyIn.nil);rw[if_pos (by rfl)];refine zb4 140 9 _ _ rfl rfl rfl hrun ?_;refine hK _ _ ?_;clear hK K;refine wpAnyIn_ready (rs:=[3]) (by kernel_rfl) (by simp) ?_;refine(AllReadyIn.cons rfl (fun K hK=>?_) AllReadyIn.nil);go_simp;refine hK _ _ ?_;clear hK K;refine wpAnyIn_done (by kernel_rfl) ?_ _;clear hmk hrun c1m c1;have c2:Wa.cell? ⟨b2,0,none⟩=some (.slice o len cap):=by rw[zr ((HWA.out.block b2 l2).trans HB2.out)];rfl
  gi_wp2;clear c2
  gi_loopw [4,13] (fun v i wr=>∃ c j k:Nat,v=.slice (some ⟨W.heap.size,0,none⟩) c 64∧i=.int .i64 (j:Int)∧j≤len∧c<64∧64*k+c=s0.size+offs ts j∧wr.ownsRow W.heap.size 5 1 (.slice (some ⟨W.heap.size,0,none⟩) c 64) c (mc M (64*k) c)∧R k wr∧Kc g W wr) (fun _ i _=>len - (intOf i).toNat)
  case atStart=>exact⟨s0.size,0,0,rfl,rfl,Nat.zero_le _,hs0,by simp[offs],HA.out,HR.out 0 W Wa H0.out HWA.out,Kc.below HWA.out zn⟩
  case round=>
   obtain⟨c,j,k,rfl,rfl,hj,hc,hpos,hown,hRk,hkc⟩:=hrel;have HO:Hid _:=hown;have HRk:Hid _:=hRk;have HKC:Hid (Kc g W wr):=hkc;have HP:Hid _:=hpos;clear hown hRk hkc hpos HA HWA;by_cases hlt:j<len
   ·obtain⟨hsz,b,off,ho,hbg,hbW,hcell⟩:=HTS.out j hlt
    subst ho;have ct:wr.cell? ⟨b,off+j,none⟩=some (.string (ts j)):=HKC.out.cell hbg hcell;have HMj:Hid (∀ i,i<(ts j).size→bt (ts j) i=M (s0.size+offs ts j+i)):=HM.out j hlt;have HOJ:Hid (offs ts (j+1)=offs ts j+(ts j).size):=rfl;have HSZ:Hid _:=hsz;clear hcell hsz;generalize ts j=tj at*
    have g0:(0:Int)≤(j:Int):=by omega
    have g1:(j:Int)<(len:Int):=by omega
    have g2:(j:Int)≤1099511627776:=by have:=HL.out;omega
    gi_wp2;clear ct
    gi_loopw [4,6] (fun v t' wr=>∃ c d k:Nat,v=.slice (some ⟨W.heap.size,0,none⟩) c 64∧t'=.string (tj.extract d tj.size)∧d≤tj.size∧c<64∧64*k+c=s0.size+offs ts j+d∧wr.ownsRow W.heap.size 5 1 (.slice (some ⟨W.heap.size,0,none⟩) c 64) c (mc M (64*k) c)∧R k wr∧Kc g W wr) (fun _ t' _=>szOf t')
    case atStart=>exact⟨c,0,k,rfl,by simp,Nat.zero_le _,hc,HP.out,HO.out,HRk.out,HKC.out⟩
    case round=>
     clear HO HRk HKC HP hc;obtain⟨c,d,k,rfl,rfl,hd,hc,hpos,hown,hRk,hkc⟩:=hrel;have HO:Hid (wr.ownsRow W.heap.size 5 1 (.slice (some ⟨W.heap.size,0,none⟩) c 64) c (mc M (64*k) c)):=hown;have HRk:Hid (R k wr):=hRk;have HKC:Hid (Kc g W wr):=hkc;have HP:Hid (64*k+c=s0.size+offs ts j+d):=hpos;clear hown hRk hkc hpos;obtain⟨u,hu⟩:∃ u,tj.extract d tj.size=u:=⟨_,rfl⟩;have hus:u.size=tj.size - d:=by rw[←hu];simp
     have HU:Hid (tj.extract d tj.size=u):=hu
     have HUM:Hid (∀ i,i<u.size→bt u i=M (64*k+c+i)):=fun i hi=>by
      rw[←HU.out,zca _ _ _ _ (by omega),HMj.out (d+i) (by omega),HP.out];congr 1;omega
     have hum:u.size≤1099511627776:=by have:=HSZ.out;omega
     have HUS:Hid _:=hus;rw[hu];clear hu hus;have c0:(0:Int)≤(c:Int):=by omega
     have c3:(c:Int)<64:=by omega
     have hum':(u.size:Int)≤1099511627776:=by omega
     by_cases h64:64≤c+u.size
     ·have q1:(64:Int)≤(c:Int)+(u.size:Int):=by omega
      obtain⟨n1,hn1⟩:∃ n1,64 - c=n1:=⟨_,rfl⟩;have q2:(64:Int) - (c:Int)=(n1:Int):=by omega
      have q3:n1≤u.size:=by omega
      have q4:(n1:Int)≤(u.size:Int):=by omega
      have HN1:Hid (64 - c=n1∧1≤n1):=⟨hn1,by omega⟩;have hxs:(u.extract 0 n1).size=n1:=by simp;omega
      obtain⟨W5,hrun0,hown5,hgrow5⟩:=run_append_fits_string (P:=Tryz.prog) wr W.heap.size 140 9 140 5 i0 Tryz.underlying140 Tryz.underlying9 hi hz1 (some ⟨W.heap.size,0,none⟩) c 64 _ HO.out (u.extract 0 n1) (by decide) (by omega);rw[zfR M (64*k) c _ (fun i hi=>by rw[zca _ _ _ _ (by omega),Nat.zero_add];exact HUM.out i (by omega)),hxs,show c+n1=64 by omega] at hown5;have hrun:(Builtin.append_ #[140,9] 140 #[.slice (some ⟨W.heap.size,0,none⟩) c 64,.string (u.extract 0 n1)]).run Tryz.prog wr=.ok (.slice (some ⟨W.heap.size,0,none⟩) 64 64) W5:=by rw[hrun0,hxs,show c+n1=64 by omega]
      have hR5:R k W5:=HR.out k wr W5 HRk.out (zae hgrow5 zn HKC.out.1);have hK5:Kc g W W5:=HKC.out.grown hgrow5 zn
      have hYp:Yp W.heap.size T M k (W.heap.size,64) W5:=⟨Nat.le_refl _,zaI hown5,Nat.le_refl _,by
       have h1:=HP.out;have h2:=HUS.out;have h3:=zbB ts hlt;have h4:=HOJ.out;have h5:=HT.out
       have h6:=zbB ts (show j+1≤len from hlt);show 64*k+64≤T;omega,fun h=>absurd h (Nat.lt_irrefl 64),fun i hi=>zbL hown5 (zcR _ _ _ _ hi)⟩
      obtain⟨fn,tmps,assign,body,hy,hRd⟩:=HY.out k (W.heap.size,64) W5 hR5 hYp;have HO5:Hid (W5.ownsRow W.heap.size 5 1 (.slice (some ⟨W.heap.size,0,none⟩) 64 64) 64 (mc M (64*k) 64)):=hown5;have HK5:Hid (Kc g W W5):=hK5;clear hrun0 hown5 hgrow5 hR5 hK5 hYp hxs hn1
      gi_wp2_with (gi_at_builtin;refine zaN rfl 140 9 (.tmp 27) (.tmp 30) rfl (vs:=.slice (some ⟨W.heap.size,0,none⟩) c 64) (vx:=.string (u.extract 0 n1)) rfl rfl hrun ?_)
      refine hRd.mono ?_;rintro e W6 (⟨rfl,hR6,hk6⟩|⟨rfl,hx6⟩)
      ·clear hRd hy hrun
       have HR6:Hid (R (k+1) W6):=hR6;have HK6:Hid (Kc g W5 W6):=hk6;clear hR6 hk6;gi_wp2;refine wpIn_region_any hmx ?_;change wpAnyIn _ _ _ _ _ _ _ _ _ (World.drew _);refine tkI (i:=0) (v:=?_) rfl rfl ?_ ?_;rotate_left
       ·intro w
        go_simp
        try with_reducible rfl
       refine tkI (i:=1) (v:=?_) rfl rfl ?_ ?_;rotate_left
       ·intro w
        go_simp
        try with_reducible rfl
       refine tkI (i:=2) (v:=?_) rfl rfl ?_ ?_;rotate_left
       ·intro w
        go_simp
        try with_reducible rfl
       refine tkI (i:=3) (v:=?_) rfl rfl ?_ ?_;rotate_left
       ·intro w
        go_simp
        try with_reducible rfl
       refine tkI (i:=4) (v:=?_) rfl rfl ?_ ?_;rotate_left
       ·intro w
        go_simp
        try with_reducible rfl
       refine wpAnyIn_ready (rs:=[5]) (by kernel_rfl) (by simp) ?_;refine(AllReadyIn.cons rfl (fun K hK=>?_) AllReadyIn.nil);go_simp;refine hK _ _ ?_;clear hK K;refine wpAnyIn_ready (rs:=[6]) (by kernel_rfl) (by simp) ?_;refine(AllReadyIn.cons rfl (fun K hK=>?_) AllReadyIn.nil);go_simp;refine hK _ _ ?_;clear hK K;refine wpAnyIn_done (by kernel_rfl) ?_ _;gi_wp2
       go_roundw
       case rel=>
        refine⟨0,d+n1,k+1,rfl,?_,?_,by decide,?_,?_,?_,?_⟩
        ·rw[←HU.out,zbq]
        ·have:=HUS.out;omega
        ·have:=HP.out;have:=HN1.out.1;omega
        ·exact(zhV (HK6.out.own HO5.out (by omega)):W6.ownsRow _ _ _ _ _ _)
        ·exact HR.out _ W6 _ HR6.out (Below.refl _ W6).drew
        ·exact(HK5.out.trans HK6.out)
       case measure=>simp[szOf];have:=HN1.out.2;omega
      ·gi_wp2
       refine bodyPost_ret (results_none rfl _ _ _) rfl ?_;exact⟨⟨_,rfl⟩,.inl hx6⟩
     ·have q1:¬(64:Int)≤(c:Int)+(u.size:Int):=by omega
      obtain⟨W5,hrun,hown5,hgrow5⟩:=run_append_fits_string (P:=Tryz.prog) wr W.heap.size 140 9 140 5 i0 Tryz.underlying140 Tryz.underlying9 hi hz1 (some ⟨W.heap.size,0,none⟩) c 64 _ HO.out u (by decide) (by omega);rw[zfR M (64*k) c u HUM.out] at hown5;have HO5:Hid (W5.ownsRow W.heap.size 5 1 (.slice (some ⟨W.heap.size,0,none⟩) (c+u.size) 64) (c+u.size) (mc M (64*k) (c+u.size))):=hown5;have HR5:Hid (R k W5):=HR.out k wr W5 HRk.out (zae hgrow5 zn HKC.out.1);have HK5:Hid (Kc g W W5):=HKC.out.grown hgrow5 zn;clear hown5 hgrow5
      gi_wp2_with (gi_at_builtin;refine zaN rfl 140 9 (.tmp 39) (.tmp 40) rfl (vs:=.slice (some ⟨W.heap.size,0,none⟩) c 64) (vx:=.string u) rfl rfl hrun ?_)
      go_roundw
      case rel=>exact⟨c+u.size,j+1,k,rfl,by go_num,hlt,by omega,by rw[HOJ.out];have:=HP.out;have:=HUS.out;omega,HO5.out,HR5.out,HK5.out⟩
      case measure=>simp[intOf];omega
   ·obtain rfl:j=len:=by omega
    have hYp:Yp W.heap.size T M k (W.heap.size,c) wr:=⟨Nat.le_refl _,zaI HO.out,Nat.le_of_lt hc,by have:=HP.out;have:=HT.out;show 64*k+c≤T;omega,fun _=>by have:=HP.out;have:=HT.out;show 64*k+c=T;omega,fun i hi=>zbL HO.out (zcR _ _ _ _ hi)⟩;obtain⟨fn,tmps,assign,body,hy,hRd⟩:=HY.out k (W.heap.size,c) wr HRk.out hYp;have hTk:T<64*(k+1):=by have:=HP.out;have:=HT.out;omega
    clear hYp;gi_wp2;refine hRd.mono ?_;rintro e W6 (⟨rfl,hR6,hk6⟩|⟨rfl,hx6⟩)
    ·gi_wp2
     go_end0
     exact⟨⟨_,rfl⟩,.inr ⟨k+1,hR6,hTk⟩⟩
    ·gi_wp2
     go_end0
     exact⟨⟨_,rfl⟩,.inl hx6⟩
 ·go_simp
  refine hK _ _ ?_;clear hK K;refine wpAnyIn_ready (rs:=[0]) (by kernel_rfl) (by simp) ?_;refine(AllReadyIn.cons rfl (fun K hK=>?_) AllReadyIn.nil);go_simp;refine hK _ _ ?_;clear hK K;refine wpAnyIn_ready (rs:=[2]) (by kernel_rfl) (by simp) ?_;refine(AllReadyIn.cons rfl (fun K hK=>?_) AllReadyIn.nil);rw[if_pos (by rfl)];refine zb4 140 9 _ _ rfl rfl rfl hrun ?_;refine hK _ _ ?_;clear hK K;refine wpAnyIn_ready (rs:=[3]) (by kernel_rfl) (by simp) ?_;refine(AllReadyIn.cons rfl (fun K hK=>?_) AllReadyIn.nil);go_simp;refine hK _ _ ?_;clear hK K;refine wpAnyIn_done (by kernel_rfl) ?_ _;clear hmk hrun c1m c1;have c2:Wa.cell? ⟨b2,0,none⟩=some (.slice o len cap):=by rw[zr ((HWA.out.block b2 l2).trans HB2.out)];rfl
  gi_wp2;clear c2
  gi_loopw [4,13] (fun v i wr=>∃ c j k:Nat,v=.slice (some ⟨W.heap.size,0,none⟩) c 64∧i=.int .i64 (j:Int)∧j≤len∧c<64∧64*k+c=s0.size+offs ts j∧wr.ownsRow W.heap.size 5 1 (.slice (some ⟨W.heap.size,0,none⟩) c 64) c (mc M (64*k) c)∧R k wr∧Kc g W wr) (fun _ i _=>len - (intOf i).toNat)
  case atStart=>exact⟨s0.size,0,0,rfl,rfl,Nat.zero_le _,hs0,by simp[offs],HA.out,HR.out 0 W Wa H0.out HWA.out,Kc.below HWA.out zn⟩
  case round=>
   obtain⟨c,j,k,rfl,rfl,hj,hc,hpos,hown,hRk,hkc⟩:=hrel;have HO:Hid _:=hown;have HRk:Hid _:=hRk;have HKC:Hid (Kc g W wr):=hkc;have HP:Hid _:=hpos;clear hown hRk hkc hpos HA HWA;by_cases hlt:j<len
   ·obtain⟨hsz,b,off,ho,hbg,hbW,hcell⟩:=HTS.out j hlt
    subst ho;have ct:wr.cell? ⟨b,off+j,none⟩=some (.string (ts j)):=HKC.out.cell hbg hcell;have HMj:Hid (∀ i,i<(ts j).size→bt (ts j) i=M (s0.size+offs ts j+i)):=HM.out j hlt;have HOJ:Hid (offs ts (j+1)=offs ts j+(ts j).size):=rfl;have HSZ:Hid _:=hsz;clear hcell hsz;generalize ts j=tj at*
    have g0:(0:Int)≤(j:Int):=by omega
    have g1:(j:Int)<(len:Int):=by omega
    have g2:(j:Int)≤1099511627776:=by have:=HL.out;omega
    gi_wp2;clear ct
    gi_loopw [4,6] (fun v t' wr=>∃ c d k:Nat,v=.slice (some ⟨W.heap.size,0,none⟩) c 64∧t'=.string (tj.extract d tj.size)∧d≤tj.size∧c<64∧64*k+c=s0.size+offs ts j+d∧wr.ownsRow W.heap.size 5 1 (.slice (some ⟨W.heap.size,0,none⟩) c 64) c (mc M (64*k) c)∧R k wr∧Kc g W wr) (fun _ t' _=>szOf t')
    case atStart=>exact⟨c,0,k,rfl,by simp,Nat.zero_le _,hc,HP.out,HO.out,HRk.out,HKC.out⟩
    case round=>
     clear HO HRk HKC HP hc;obtain⟨c,d,k,rfl,rfl,hd,hc,hpos,hown,hRk,hkc⟩:=hrel;have HO:Hid (wr.ownsRow W.heap.size 5 1 (.slice (some ⟨W.heap.size,0,none⟩) c 64) c (mc M (64*k) c)):=hown;have HRk:Hid (R k wr):=hRk;have HKC:Hid (Kc g W wr):=hkc;have HP:Hid (64*k+c=s0.size+offs ts j+d):=hpos;clear hown hRk hkc hpos;obtain⟨u,hu⟩:∃ u,tj.extract d tj.size=u:=⟨_,rfl⟩;have hus:u.size=tj.size - d:=by rw[←hu];simp
     have HU:Hid (tj.extract d tj.size=u):=hu
     have HUM:Hid (∀ i,i<u.size→bt u i=M (64*k+c+i)):=fun i hi=>by
      rw[←HU.out,zca _ _ _ _ (by omega),HMj.out (d+i) (by omega),HP.out];congr 1;omega
     have hum:u.size≤1099511627776:=by have:=HSZ.out;omega
     have HUS:Hid _:=hus;rw[hu];clear hu hus;have c0:(0:Int)≤(c:Int):=by omega
     have c3:(c:Int)<64:=by omega
     have hum':(u.size:Int)≤1099511627776:=by omega
     by_cases h64:64≤c+u.size
     ·have q1:(64:Int)≤(c:Int)+(u.size:Int):=by omega
      obtain⟨n1,hn1⟩:∃ n1,64 - c=n1:=⟨_,rfl⟩;have q2:(64:Int) - (c:Int)=(n1:Int):=by omega
      have q3:n1≤u.size:=by omega
      have q4:(n1:Int)≤(u.size:Int):=by omega
      have HN1:Hid (64 - c=n1∧1≤n1):=⟨hn1,by omega⟩;have hxs:(u.extract 0 n1).size=n1:=by simp;omega
      obtain⟨W5,hrun0,hown5,hgrow5⟩:=run_append_fits_string (P:=Tryz.prog) wr W.heap.size 140 9 140 5 i0 Tryz.underlying140 Tryz.underlying9 hi hz1 (some ⟨W.heap.size,0,none⟩) c 64 _ HO.out (u.extract 0 n1) (by decide) (by omega);rw[zfR M (64*k) c _ (fun i hi=>by rw[zca _ _ _ _ (by omega),Nat.zero_add];exact HUM.out i (by omega)),hxs,show c+n1=64 by omega] at hown5;have hrun:(Builtin.append_ #[140,9] 140 #[.slice (some ⟨W.heap.size,0,none⟩) c 64,.string (u.extract 0 n1)]).run Tryz.prog wr=.ok (.slice (some ⟨W.heap.size,0,none⟩) 64 64) W5:=by rw[hrun0,hxs,show c+n1=64 by omega]
      have hR5:R k W5:=HR.out k wr W5 HRk.out (zae hgrow5 zn HKC.out.1);have hK5:Kc g W W5:=HKC.out.grown hgrow5 zn
      have hYp:Yp W.heap.size T M k (W.heap.size,64) W5:=⟨Nat.le_refl _,zaI hown5,Nat.le_refl _,by
       have h1:=HP.out;have h2:=HUS.out;have h3:=zbB ts hlt;have h4:=HOJ.out;have h5:=HT.out
       have h6:=zbB ts (show j+1≤len from hlt);show 64*k+64≤T;omega,fun h=>absurd h (Nat.lt_irrefl 64),fun i hi=>zbL hown5 (zcR _ _ _ _ hi)⟩
      obtain⟨fn,tmps,assign,body,hy,hRd⟩:=HY.out k (W.heap.size,64) W5 hR5 hYp;have HO5:Hid (W5.ownsRow W.heap.size 5 1 (.slice (some ⟨W.heap.size,0,none⟩) 64 64) 64 (mc M (64*k) 64)):=hown5;have HK5:Hid (Kc g W W5):=hK5;clear hrun0 hown5 hgrow5 hR5 hK5 hYp hxs hn1
      gi_wp2_with (gi_at_builtin;refine zaN rfl 140 9 (.tmp 27) (.tmp 30) rfl (vs:=.slice (some ⟨W.heap.size,0,none⟩) c 64) (vx:=.string (u.extract 0 n1)) rfl rfl hrun ?_)
      refine hRd.mono ?_;rintro e W6 (⟨rfl,hR6,hk6⟩|⟨rfl,hx6⟩)
      ·clear hRd hy hrun
       have HR6:Hid (R (k+1) W6):=hR6;have HK6:Hid (Kc g W5 W6):=hk6;clear hR6 hk6;gi_wp2;refine wpIn_region_any hmx ?_;change wpAnyIn _ _ _ _ _ _ _ _ _ (World.drew _);refine tkI (i:=0) (v:=?_) rfl rfl ?_ ?_;rotate_left
       ·intro w
        go_simp
        try with_reducible rfl
       refine tkI (i:=1) (v:=?_) rfl rfl ?_ ?_;rotate_left
       ·intro w
        go_simp
        try with_reducible rfl
       refine tkI (i:=2) (v:=?_) rfl rfl ?_ ?_;rotate_left
       ·intro w
        go_simp
        try with_reducible rfl
       refine tkI (i:=3) (v:=?_) rfl rfl ?_ ?_;rotate_left
       ·intro w
        go_simp
        try with_reducible rfl
       refine tkI (i:=4) (v:=?_) rfl rfl ?_ ?_;rotate_left
       ·intro w
        go_simp
        try with_reducible rfl
       refine wpAnyIn_ready (rs:=[5]) (by kernel_rfl) (by simp) ?_;refine(AllReadyIn.cons rfl (fun K hK=>?_) AllReadyIn.nil);go_simp;refine hK _ _ ?_;clear hK K;refine wpAnyIn_ready (rs:=[6]) (by kernel_rfl) (by simp) ?_;refine(AllReadyIn.cons rfl (fun K hK=>?_) AllReadyIn.nil);go_simp;refine hK _ _ ?_;clear hK K;refine wpAnyIn_done (by kernel_rfl) ?_ _;gi_wp2
       go_roundw
       case rel=>
        refine⟨0,d+n1,k+1,rfl,?_,?_,by decide,?_,?_,?_,?_⟩
        ·rw[←HU.out,zbq]
        ·have:=HUS.out;omega
        ·have:=HP.out;have:=HN1.out.1;omega
        ·exact(zhV (HK6.out.own HO5.out (by omega)):W6.ownsRow _ _ _ _ _ _)
        ·exact HR.out _ W6 _ HR6.out (Below.refl _ W6).drew
        ·exact(HK5.out.trans HK6.out)
       case measure=>simp[szOf];have:=HN1.out.2;omega
      ·gi_wp2
       refine bodyPost_ret (results_none rfl _ _ _) rfl ?_;exact⟨⟨_,rfl⟩,.inl hx6⟩
     ·have q1:¬(64:Int)≤(c:Int)+(u.size:Int):=by omega
      obtain⟨W5,hrun,hown5,hgrow5⟩:=run_append_fits_string (P:=Tryz.prog) wr W.heap.size 140 9 140 5 i0 Tryz.underlying140 Tryz.underlying9 hi hz1 (some ⟨W.heap.size,0,none⟩) c 64 _ HO.out u (by decide) (by omega);rw[zfR M (64*k) c u HUM.out] at hown5;have HO5:Hid (W5.ownsRow W.heap.size 5 1 (.slice (some ⟨W.heap.size,0,none⟩) (c+u.size) 64) (c+u.size) (mc M (64*k) (c+u.size))):=hown5;have HR5:Hid (R k W5):=HR.out k wr W5 HRk.out (zae hgrow5 zn HKC.out.1);have HK5:Hid (Kc g W W5):=HKC.out.grown hgrow5 zn;clear hown5 hgrow5
      gi_wp2_with (gi_at_builtin;refine zaN rfl 140 9 (.tmp 39) (.tmp 40) rfl (vs:=.slice (some ⟨W.heap.size,0,none⟩) c 64) (vx:=.string u) rfl rfl hrun ?_)
      go_roundw
      case rel=>exact⟨c+u.size,j+1,k,rfl,by go_num,hlt,by omega,by rw[HOJ.out];have:=HP.out;have:=HUS.out;omega,HO5.out,HR5.out,HK5.out⟩
      case measure=>simp[intOf];omega
   ·obtain rfl:j=len:=by omega
    have hYp:Yp W.heap.size T M k (W.heap.size,c) wr:=⟨Nat.le_refl _,zaI HO.out,Nat.le_of_lt hc,by have:=HP.out;have:=HT.out;show 64*k+c≤T;omega,fun _=>by have:=HP.out;have:=HT.out;show 64*k+c=T;omega,fun i hi=>zbL HO.out (zcR _ _ _ _ hi)⟩;obtain⟨fn,tmps,assign,body,hy,hRd⟩:=HY.out k (W.heap.size,c) wr HRk.out hYp;have hTk:T<64*(k+1):=by have:=HP.out;have:=HT.out;omega
    clear hYp;gi_wp2;refine hRd.mono ?_;rintro e W6 (⟨rfl,hR6,hk6⟩|⟨rfl,hx6⟩)
    ·gi_wp2
     go_end0
     exact⟨⟨_,rfl⟩,.inr ⟨k+1,hR6,hTk⟩⟩
    ·gi_wp2
     go_end0
     exact⟨⟨_,rfl⟩,.inl hx6⟩
end
section
open Go.RowKit Go.Shelf Go.Lib
attribute [local go_sem] Oper.semAt_some
def hs (Kt iv m:Nat→Int):Nat→Nat→Int
 |0=>iv
 |k+1=>chg Kt (hs Kt iv m k) (fun j=>m (64*k+j))
def rst (r:Nat→Int) (m:Nat→Int) (a c:Nat):Nat→Int:=fun j=>if j<c then m (a+j) else r j
theorem zog (f r:Nat→Int) (n:Int) (m:Nat→Int) (a c:Nat) (hc:c≤64):
  ((sm f r n).toList.take 8++mc m a c++(sm f r n).toList.drop (8+c)).toArray=sm f (rst r m a c) n:=by
 have hl:(mc m a c).length=c:=za8 _ _ _;have ht:((sm f r n).toList.take 8).length=8:=by simp[zbP]
 apply Array.ext_getElem?;intro i;rw[List.getElem?_toArray,List.append_assoc];by_cases h1:i<8
 ·rw[List.getElem?_append_left (by omega),List.getElem?_take_of_lt h1,Array.getElem?_toList,sm_f _ _ _ _ h1,sm_f _ _ _ _ h1]
 ·obtain⟨j,rfl⟩:∃ j,i=8+j:=⟨i - 8,by omega⟩
  rw[List.getElem?_append_right (by omega),ht,show 8+j - 8=j by omega];by_cases h2:j<c
  ·rw[List.getElem?_append_left (by omega),zcR _ _ _ _ h2,sm_r _ _ _ _ (by omega)]
   simp[rst,h2]
  ·rw[List.getElem?_append_right (by omega),hl,List.getElem?_drop,Array.getElem?_toList,show 8+c+(j - c)=8+j by omega]
   by_cases h3:j<64
   ·rw[sm_r _ _ _ _ h3,sm_r _ _ _ _ h3]
    simp[rst,h2]
   ·by_cases h4:j=64
    ·subst h4;rw[show 8+64=72 from rfl,sm_c,sm_c]
    ·rw[Array.getElem?_eq_none (by rw[zbP];omega),Array.getElem?_eq_none (by rw[zbP];omega)]
def Told (Kt iv m:Nat→Int) (W:World) (g L:Nat):Prop:=
 ∃ r,W.heap[g]? =some (.cells (sm (hs Kt iv m (L/64)) r (L:Int)) 336 (0,0))∧∀ j,j<L%64→r j=m (64*(L/64)+j)
theorem zms (n:Nat) (s0:ByteArray) (o:Option Addr) (len cap:Nat) (w:World):
  CallsIn Fence.wide n Tryz.prog 268 #[.string s0,.slice o len cap] w fun e w'=>e=.returned (.func (.func 277) #[] #[.pointer (some ⟨w.heap.size,0,none⟩),.pointer (some ⟨w.heap.size+1,0,none⟩)])∧w'=(w.alloc (.cells #[.string s0] 9)).alloc (.cells #[.slice o len cap] 37):=by
 refine callsIn_of_wp Tryz.func268 rfl trivial ?_ rfl;simp only[Tryz.ntmps268,zS1,zS2,zS3,Nat.reduceAdd,Nat.reduceSub,zS4,zS5,zS6,zS7,zS8,zS9];gi_wp2;go_ret;exact⟨rfl,rfl⟩
theorem zoh (w:World) (g:Nat) (f r:Nat→Int) (c x:Int) (hg:w.heap[g]? =some (.cells (sm f r c) 336 (0,0))):
  (w.setCell ⟨g,72,none⟩ (.int .i64 x)).heap[g]? =some (.cells (sm f r x) 336 (0,0)):=by
 rw[zx w g 72 _ _ _ hg,zl9]
theorem zbC {A B:World} {b:Nat} (h:B.heap[b]? =A.heap[b]?) (x:Nat):B.cell? ⟨b,x,none⟩=A.cell? ⟨b,x,none⟩:=by
 unfold World.cell?;simp only[h]
theorem zpD {B0 T:Nat} {M:Nat→Int} {k:Nat} {x:Nat × Nat} {W:World} {l:Nat} (o:Obj) (h:Yp B0 T M k x W) (hl:l<B0):Yp B0 T M k x (W.putObj l o):=by
 obtain⟨h1,h2,h3,h4,h5,h6⟩:=h;exact⟨h1,by simpa [World.putObj] using h2,h3,h4,h5,fun j hj=>(zbC (World.putObj_heap_other (by omega)) j).trans (h6 j hj)⟩
theorem zb5 {B:Nat} {w W W':World} {r:Option Nat} (h:w.grownBy W r) (hb:Below B W W') (hB:w.heap.size≤B):w.grownBy W' r:=
 ⟨hb.os.trans h.os,hb.tape.trans h.tape,hb.output.trans h.output,Nat.le_trans h.size hb.size,fun k hk hne=>(hb.block k (by omega)).trans (h.block k hk hne)⟩
theorem Kc.of_grown {g:Nat} {A B:World} (h:A.grownBy B (some g)):Kc g A B:=⟨h.size,fun j _ hj ho _=>(h.block j (zi ho).1 (by intro e;cases e;exact hj rfl)).trans ho⟩
def wait (m:Nat→Int) (L:Nat):ByteArray:=strOfNums (upto (fun j=>m (64*(L/64)+j)) (L%64))
theorem zkj (m:Nat→Int) (L:Nat):(wait m L).size=L%64:=by unfold wait;rw[strOfNums_size,zaj]
theorem zoi (m:Nat→Int) (hm:∀ j,0≤m j∧m j<256) (L j:Nat) (hj:j<L%64):bt (wait m L) j=m (64*(L/64)+j):=by
 have:=hm (64*(L/64)+j);unfold wait bt strOfNums;simp only[List.getElem?_toArray,List.getElem?_map,upto,List.getElem?_range hj,Option.map_some,Option.getD_some];rw[UInt8.toNat_ofNat'];omega
theorem zkk {w:World} {g:Nat} {m:Nat→Int} {L:Nat} {r:Nat→Int} {n:Int} {f:Nat→Int} (h:w.heap[g]? =some (.cells (sm f r n) 336 (0,0))) (hr:∀ j,j<L%64→r j=m (64*(L/64)+j)):
  (convert 140 9 (.slice (some ⟨g,8,none⟩) (L%64) 64)).run Tryz.prog w=.ok (.string (wait m L)) w:=by
 refine run_convert_bytes_arg w 140 5 Tryz.underlying140 Tryz.underlying5 g 8 (L%64) 64 (upto (fun j=>m (64*(L/64)+j)) (L%64)) (by rw[zaj]) (fun i hi=>?_) 9 Tryz.underlying9;rw[zr h,sm_r _ _ _ _ (by omega),hr i hi];simp[upto,List.getD,hi]
theorem znG (Kt iv m:Nat→Int) (hm:∀ j,0≤m j∧m j<256) (g L len cap:Nat) (o:Option Addr) (ts:Nat→ByteArray) (w:World) {tt:TypeId} {fr:Nat × Nat} (hK:w.heap[3]? =some (.cells (w64 Kt) tt fr)) (hg1:g≠3)
  (hL:L+offs ts len≤1099511627776) (hlen:len≤1099511627776) (ht:Told Kt iv m w g L)
  (hts:∀ i,i<len→(∃ b off,o=some ⟨b,off,none⟩∧b≠g∧b<w.heap.size∧w.cell? ⟨b,off+i,none⟩=some (.string (ts i)))∧∀ j,j<(ts i).size→bt (ts i) j=m (L+offs ts i+j)):
  CallsIn Fence.wide 5 Tryz.prog 251 #[.pointer (some ⟨g,0,none⟩),.slice o len cap] w fun e w'=>e=.returned (.tuple #[])∧Told Kt iv m w' g (L+offs ts len)∧w.grownBy w' (some g):=by
 obtain⟨r,hg,hr⟩:=ht;have hgl:g<w.heap.size:=(zi hg).1;have h1l:3<w.heap.size:=(zi hK).1;refine callsIn_of_wp_marks Tryz.func251 rfl trivial ?_ rfl;simp only[Tryz.ntmps251,zS1,zS2,zS3,Nat.reduceAdd,Nat.reduceSub,zS4,zS5,zS6,zS7,zS8,zS9];have HG:Hid _:=hg;have HK:Hid _:=hK;have HTS:Hid _:=hts;have HR:Hid _:=hr;have HLL:Hid _:=hL;have HM:Hid _:=hm;have L1:(L:Int)≤1099511627776:=by omega
 have L0:(0:Int)≤(L:Int):=by omega
 clear hg hK hts hr hL hm;gi_wp2;obtain⟨w0,hw0⟩:∃ w0,w.alloc (.cells #[.pointer (some ⟨g,0,none⟩)] 317)=w0:=⟨_,rfl⟩;have hb0:Below w.heap.size w w0:=by rw[←hw0];exact(Below.refl _ w).alloc zn _
 have G0:Hid (w0.heap[g]? =some (.cells (sm (hs Kt iv m (L/64)) r (L:Int)) 336 (0,0))):=(hb0.block g hgl).trans HG.out;have X0:Hid (w0.heap[w.heap.size]? =some (.cells #[.pointer (some ⟨g,0,none⟩)] 317 (0,0))):=by rw[←hw0];exact zq w _
 have cb:w0.cell? ⟨w.heap.size,0,none⟩=some (.pointer (some ⟨g,0,none⟩)):=by rw[zr X0.out];rfl
 have cc:w0.cell? ⟨g,72,none⟩=some (.int .i64 (L:Int)):=by rw[zr G0.out,sm_c]
 obtain⟨a0,ha0⟩:∃ a0,L%64=a0:=⟨_,rfl⟩
 have hcv:∀ n,(convert 140 9 (.slice (some ⟨g,8,none⟩) a0 64)).run Tryz.prog (w0.drewN n)=.ok (.string (wait m L)) (w0.drewN n):=fun n=>by
  rw[←ha0];exact zkk (w:=w0.drewN n) G0.out HR.out
 have t0:(L:Int).tmod 64=(a0:Int):=by rw[Int.tmod_eq_emod_of_nonneg L0];omega
 have t1:(L:Int)%64=(a0:Int):=by omega
 have t2:a0≤64:=by omega
 have t3:(a0:Int)≤64:=by omega
 have HA0:Hid (L%64=a0):=ha0;clear ha0;rw[hw0];refine(wpIn_wide (n:=5)).2 (wp_scope_straight ((wpIn_wide (n:=5)).1 ?_));gi_wp2
 gi_quiet (fail)
 obtain⟨w1,hw1⟩:∃ w1,w0.drewN nq=w1:=⟨_,rfl⟩;have hb1:Below w.heap.size w w1:=by rw[←hw1];exact below_drewN hb0 _
 have G1:Hid (w1.heap[g]? =some (.cells (sm (hs Kt iv m (L/64)) r (L:Int)) 336 (0,0))):=by rw[←hw1];exact G0.out
 have X1:Hid (w1.heap[w.heap.size]? =some (.cells #[.pointer (some ⟨g,0,none⟩)] 317 (0,0))):=by rw[←hw1];exact X0.out
 have B1:Hid _:=hb1;rw[hw1];clear hw1 hw0 hb0 hb1 hcv cb cc t0 t1 t3 t2 G0 X0 HG;gi_wp2
 gi_loopw [20] (fun i wr=>∃ j:Nat,j≤len∧i=.int .i64 (j:Int)∧wr.heap[g]? =some (.cells (sm (hs Kt iv m (L/64)) r ((L+offs ts j:Nat):Int)) 336 (0,0))∧wr.heap[w.heap.size]? =some (.cells #[.pointer (some ⟨g,0,none⟩)] 317 (0,0))∧w.grownBy wr (some g)) (fun i _=>len - (intOf i).toNat)
 case atStart=>exact⟨0,Nat.zero_le _,rfl,G1.out,X1.out,⟨B1.out.os,B1.out.tape,B1.out.output,B1.out.size,fun k hk _=>B1.out.block k hk⟩⟩
 case round=>
  clear G1 X1 B1;obtain⟨j,hj,rfl,hg,hx,hgr⟩:=hrel;have G1:Hid (wr.heap[g]? =some (.cells (sm (hs Kt iv m (L/64)) r ((L+offs ts j:Nat):Int)) 336 (0,0))):=hg;have X1:Hid (wr.heap[w.heap.size]? =some (.cells #[.pointer (some ⟨g,0,none⟩)] 317 (0,0))):=hx;have GR:Hid (w.grownBy wr (some g)):=hgr;clear hg hx hgr;have g0:(0:Int)≤(j:Int):=by omega
  have g2:(j:Int)≤1099511627776:=by omega
  by_cases hlt:j<len
  ·obtain⟨⟨b,off,ho,hbg,hbW,hcell⟩,_⟩:=HTS.out j hlt
   subst ho;have ct:wr.cell? ⟨b,off+j,none⟩=some (.string (ts j)):=(zbC (GR.out.block b hbW (by intro e;cases e;exact hbg rfl)) _).trans hcell;obtain⟨q,hq⟩:∃ q,L+offs ts j=q:=⟨_,rfl⟩;have HQ:Hid (L+offs ts j=q):=hq
   have hq1:q+(ts j).size≤1099511627776:=by
    have h1:=HLL.out;have h2:=zbB ts (show j+1≤len from hlt)
    have h3:offs ts (j+1)=offs ts j+(ts j).size:=rfl;omega
   have hq2:(q:Int)+((ts j).size:Int)≤1099511627776:=by omega
   have cb:wr.cell? ⟨w.heap.size,0,none⟩=some (.pointer (some ⟨g,0,none⟩)):=by rw[zr X1.out];rfl
   have cc:wr.cell? ⟨g,72,none⟩=some (.int .i64 (q:Int)):=by rw[zr G1.out,sm_c,hq]
   have cz:=frozen_of_row wr g 72 _ _ G1.out;have g1:(j:Int)<(len:Int):=by omega
   clear hcell hq;obtain⟨tj,htj⟩:∃ tj,ts j=tj:=⟨_,rfl⟩;have HTJ:Hid (ts j=tj):=htj;rw[htj] at ct hq1 hq2;clear htj;gi_wp2;have hne:w.heap.size≠g:=by omega
   exact⟨⟨j+1,hlt,by go_num,by rw[show L+offs ts (j+1)=q+tj.size by rw[←HQ.out,←HTJ.out];show L+(offs ts j+(ts j).size)=_;omega];exact zoh _ _ _ _ _ _ G1.out,(Below.heap_setCell _ _ _ _ hne).trans X1.out,zcv GR.out (zbn _ _ _ _)⟩,by simp[intOf];omega⟩
  ·have hjl:j=len:=by omega
   rw[hjl] at G1;rw[show(j:Int)=(len:Int) by omega];clear hlt g0 g2 hj hjl;gi_wp2;refine wpIn_label ?_
   gi_wp2_with (refine⟨trivial,?_⟩;gi_at_call 268;refine(zms _ _ _ _ _ _).mono ?_;rintro e w' ⟨rfl,rfl⟩)
   obtain⟨W2,hW2⟩:∃ W2,(wr.alloc (.cells #[.string (wait m L)] 9)).alloc (.cells #[.slice o len cap] 37)=W2:=⟨_,rfl⟩;have hn2:=zay wr (.cells #[.string (wait m L)] 9) (.cells #[.slice o len cap] 37);have hs2:W2.heap.size=wr.heap.size+2:=by rw[←hW2];simp
   rw[hW2] at hn2 ⊢;obtain⟨e1,e2,hb2⟩:=hn2;have hwr:w.heap.size<wr.heap.size:=(zi X1.out).1;have G2:=(hb2.block g (by omega)).trans G1.out;have X2:=(hb2.block _ hwr).trans X1.out;have GR2:w.grownBy W2 (some g):=zb5 GR.out hb2 (by omega);have hgW2:g<W2.heap.size:=by omega
   obtain⟨T,hT⟩:∃ T,a0+offs ts len=T:=⟨_,rfl⟩;have hA:=HA0.out;have hLL:=HLL.out;have hdiv:(L+offs ts len)/64=L/64+T/64:=by omega
   have hmod:(L+offs ts len)%64=T%64:=by omega
   have hws:(wait m L).size=a0:=by rw[zkj,hA]
   have hcnt:((L+offs ts len:Nat):Int)≤1099511627776:=by omega
   obtain⟨cnt,hcn⟩:∃ cnt:Int,((L+offs ts len:Nat):Int)=cnt:=⟨_,rfl⟩;rw[hcn] at G2
   refine zkh rfl (by omega) (gf:=277) (lb:=#[.pointer (some ⟨wr.heap.size,0,none⟩),.pointer (some ⟨wr.heap.size+1,0,none⟩)]) rfl trivial (enters_of Tryz.func277 (by kernel_rfl) rfl)
    (fun x:Nat × Nat=>#[.slice (some ⟨x.1,0,none⟩) x.2 64]) (fun _=>rfl) (Kc g) Kc.trans (fun W l o o' h hc=>Kc.put g W l o o' h hc)
    (Yp (W2.heap.size+2) T (fun j=>m (64*(L/64)+j))) (fun k x W l o' hy _ hl=>zpD o' hy hl)
    (fun k W=>64*k≤T∧W.heap[g]? =some (.cells (sm (hs Kt iv m (L/64+k)) r cnt) 336 (0,0))∧W.heap[w.heap.size]? =some (.cells #[.pointer (some ⟨g,0,none⟩)] 317 (0,0))∧w.grownBy W (some g))
    (fun W=>Told Kt iv m W g (L+offs ts len)∧w.grownBy W (some g)) 2
    (fun k W W' h hb=>⟨h.1,(hb.block g (by omega)).trans h.2.1,(hb.block _ (by omega)).trans h.2.2.1,zb5 h.2.2.2 hb (by omega)⟩)
    (fun W W' h hb=>⟨by obtain⟨r',h1,h2⟩:=h.1;exact⟨r',(hb.block g (by omega)).trans h1,h2⟩,zb5 h.2 hb (by omega)⟩)
    ⟨by omega,G2,X2,GR2⟩ (fun k=>T<64*k) (fun k W h hk=>by have:=h.1;omega)
    (fun x=>{ tmps:=#[Value.pointer (some ⟨g,0,none⟩),Value.slice o len cap,
     Value.pointer (some ⟨w.heap.size,0,none⟩),undef,Value.string (wait m L),undef,u6,.slice (some ⟨x.1,0,none⟩) x.2 64,
     Value.pointer (some ⟨g,0,none⟩),Value.pointer (some ⟨g,0,none⟩),
     Value.pointer (some ⟨g,8,none⟩),Value.pointer (some ⟨g,0,none⟩),
     Value.pointer (some ⟨g,0,none⟩),Value.pointer (some ⟨g,72,none⟩),
     Value.int IntKind.i64 (L:Int),Value.int IntKind.i64 (a0:Int),Value.slice (some ⟨g,8,none⟩) a0 64,
     Value.string (wait m L),Value.slice o len cap,Value.int IntKind.i64 (len:Int),Value.int IntKind.i64 (len:Int),
     Value.bool false,u22,u23,u24,u25,u26,u27,u28,u29,u30,u31,u32,u33,Value.string (wait m L),
     Value.slice o len cap,
     Value.func (Fn.func 277) #[] #[Value.pointer (some ⟨wr.heap.size,0,none⟩),Value.pointer (some ⟨wr.heap.size+1,0,none⟩)],
     .slice (some ⟨x.1,0,none⟩) x.2 64,undef,undef,undef,undef,undef,undef,undef,undef,undef,undef,undef,undef,undef,undef],defers:=[] }) ?assign ?body ?iter ?stop
   case assign=>
    intro l x W K hK;gi_wp2;exact hK
   case iter=>
    intro l W1 hB1 hs1 R Rx hR hRx hY h0;have hbW:Below wr.heap.size wr W1:=hb2.trans (hB1.mono (by omega))
    refine zki 4 (by omega) l wr.heap.size (wr.heap.size+1) g len cap o (wait m L) ts (fun j=>m (64*(L/64)+j)) T W1 (by omega)
     (fun j hj=>zoi m HM.out L j (by omega)) (fun i hi j hj=>?_) (by omega) hlen (fun i hi=>?_) ((hB1.block _ (by omega)).trans e1) ((hB1.block _ (by omega)).trans e2) (by omega) R Rx hR hRx (fun k x A hA' hy=>hY k x A hA' (by rw[←hs1];exact hy)) h0
    ·rw[(HTS.out i hi).2 j hj,hws]
     congr 1
     omega
    ·obtain⟨⟨b,off,ho,hbg,hbw,hcell⟩,_⟩:=HTS.out i hi
     refine⟨?_,b,off,ho,hbg,by have:=hbW.size;omega,?_⟩
     ·have h2:=zbB ts (show i+1≤len from hi)
      have h3:offs ts (i+1)=offs ts i+(ts i).size:=rfl;omega
     ·rw[←hcell]
      exact(zbC (hbW.block b (by omega)) _).trans (zbC (GR.out.block b hbw (by intro e;cases e;exact hbg rfl)) _)
   case body=>
    rintro l k ⟨p,c⟩ W ⟨hkT,hgW,hxW,hgrW⟩ ⟨y1,y2,y3,y4,y5,y6⟩;have HGW:Hid _:=hgW;have HGR:Hid (w.grownBy W (some g)):=hgrW;have HXW:Hid _:=hxW;have cb:W.cell? ⟨w.heap.size,0,none⟩=some (.pointer (some ⟨g,0,none⟩)):=by rw[zr hxW];rfl
    have hpg:p≠g:=by simp at y1;omega
    have Y3:c≤64:=y3;have Y4:64*k+c≤T:=y4;have Y5:c<64→64*k+c=T:=y5;have Y6:∀ j,j<c→W.cell? ⟨p,j,none⟩=some (.int .u8 (m (64*(L/64)+(64*k+j)))):=y6;have Y2:p<W.heap.size:=y2;by_cases hc:c<64
    ·have q1:(c:Int)<64:=by omega
     have hcr:=run_copy_row (P:=Tryz.prog) W 140 140 3 5 g 8 64 64 ⟨p,0,none⟩ c 64 _ 336 (mc m (64*(L/64)+64*k) c) Tryz.underlying140 (by kernel_rfl) hgW
      (by rw[za8];exact(Nat.min_eq_left Y3).symm) (fun j v hv=>by
       have hj:j<c:=by have:=(List.getElem?_eq_some_iff.1 hv).1;rw[za8] at this;exact this
       rw[zcR _ _ _ _ hj] at hv;rw[Addr.add_lit,Nat.zero_add,Y6 j hj,←hv,Nat.add_assoc]) (by rw[za8,zbP];omega) (fun v hv=>by
       unfold mc at hv;obtain⟨z,_,rfl⟩:=List.mem_map.1 hv;rfl)
     rw[za8,zog _ _ _ _ _ _ Y3] at hcr;have hcr':(Builtin.copy_ #[140,140] 3 #[.slice (some ⟨g,8,none⟩) 64 64,.slice (some ⟨p,0,none⟩) c 64]).run Tryz.prog W=.ok (.int .i64 (c:Int)) (W.setRow g (sm (hs Kt iv m (L/64+k)) (rst r m (64*(L/64)+64*k) c) cnt)):=hcr;have HT5:=Y5 hc;have hk1:T/64=k:=by omega
     have hk2:T%64=c:=by omega
     have FIN:Hid (Told Kt iv m (W.setRow g (sm (hs Kt iv m (L/64+k)) (rst r m (64*(L/64)+64*k) c) cnt)) g (L+offs ts len)):=by
      refine⟨_,by rw[hdiv,hk1,hcn];exact setRow_heap _ _ _ _ _ _ hgW,fun j hj=>?_⟩;rw[hmod,hk2] at hj;rw[hdiv,hk1];unfold rst;rw[if_pos hj]
      congr 1
      omega
     have GRF:Hid (W.grownBy (W.setRow g (sm (hs Kt iv m (L/64+k)) (rst r m (64*(L/64)+64*k) c) cnt)) (some g)):=⟨rfl,rfl,rfl,by rw[size_setRow];exact Nat.le_refl _,fun j _ hne=>setRow_other _ _ _ _ (by intro e;subst e;exact hne rfl)⟩;clear hcr y1 y2 y3 y4 y5 y6 Y2 Y3 Y4 Y5 Y6 hk1 hk2 HT5 hgW hxW hgrW G2 X2 GR2 e1 e2 hb2 hs2 hdiv hmod hA hLL hT hws hcnt hcn hW2;gi_wp2;exact⟨rfl,KeepsFrom.of_grownBy GRF.out (fun j e=>by cases e;exact hgW2),FIN.out,zcv HGR.out GRF.out⟩
    ·have hc64:c=64:=by omega
     subst hc64;have q1:¬((64:Nat):Int)<64:=by omega
     have hKW:W.heap[3]? =some (.cells (w64 Kt) tt fr):=(hgrW.block 3 h1l (by intro e;cases e;exact hg1 rfl)).trans HK.out;have hchg:=ziM Kt (fun j=>m (64*(L/64+k)+j)) (hs Kt iv m (L/64+k)) r cnt g p 64 W hKW Y2 (fun j hj=>by rw[Y6 j hj];congr 3;omega) (fun j=>HM.out _) hgW;have HCH:Hid _:=hchg;clear y1 y2 y3 y4 y5 y6 Y2 Y3 Y5 Y6 hgW hxW hgrW G2 X2 GR2 e1 e2 hb2 hdiv hmod hA hLL hT hws hcnt hcn hW2 hKW hchg;gi_wp2;refine⟨trivial,?_⟩;refine(CallsIn.inRound l (callsIn_wide.2 HCH.out)).mono ?_;rintro e W3 ⟨rfl,hg3,hgr3⟩;have G3:Hid (W3.heap[g]? =some (.cells (sm (hs Kt iv m (L/64+(k+1))) r cnt) 336 (0,0))):=hg3;have GR3:Hid (W.grownBy W3 (some g)):=hgr3;clear hg3 hgr3 HCH;gi_wp2;have hne:w.heap.size≠g:=by omega
     exact⟨KeepsFrom.of_grownBy GR3.out (fun j e=>by cases e;exact hgW2),Kc.of_grown GR3.out,by omega,G3.out,(GR3.out.block _ (zi HXW.out).1 (by intro e;cases e;exact hne rfl)).trans HXW.out,zcv HGR.out GR3.out⟩
   case stop=>
    rintro D W hD ⟨hT',hgr'⟩ hdf;gi_wp2;rw[Exit.noGoto_normal];refine⟨by simp,.inl ⟨_,_,rfl,run_takeDeferred hdf,?_⟩⟩;refine⟨_,results_none rfl _ _ _,rfl,?_,?_⟩
    ·obtain⟨r',h1,h2⟩:=hT'
     exact⟨r',(World.putObj_heap_other (by omega)).trans h1,h2⟩
    ·exact zb5 hgr' (zak W _ hD) (by omega)
end
section
open Go.RowKit Go.Lib
theorem zc (z:Nat):(Builtin.zeroCells #[.int .u8 0] z).toList=List.replicate z (.int .u8 0):=by
 apply List.ext_getElem?;intro i;by_cases h:i<z
 ·simp[Builtin.zeroCells,h,Nat.mod_one]
 ·simp[Builtin.zeroCells,h]
theorem zdv (w:World) (base g n cap:Nat) (xs:List Value) (hown:w.ownsRow base 5 1 (.slice (some ⟨g,0,none⟩) n cap) n xs) (z:Nat) (hz:z≤64) (hroom:n+z≤cap):
  ∃ w',(Builtin.append_ #[140,3] 140 #[.slice (some ⟨g,0,none⟩) n cap,.int .i64 (z:Int)]).run Tryz.prog w=.ok (.slice (some ⟨g,0,none⟩) (n+z) cap) w'∧
   w'.ownsRow base 5 1 (.slice (some ⟨g,0,none⟩) (n+z) cap) (n+z) (xs++List.replicate z (.int .u8 0))∧w.grownBy w' (some g):=by
 obtain⟨i0,hi,hz0,hz1,hz2⟩:=info_parts info5;have hxl:xs.length=n:=by simpa using hown.1
 rcases hown.2 with⟨hv,_⟩|⟨g',cap',cur,hv,hbg,hg,hnc,hcm,hcs,htake⟩
 ·cases hv
 ·cases hv
  have hst:=run_storeCells_at (P:=Tryz.prog) g n 5 (List.replicate z (.int .u8 0)) 0 cur w hg (by simp;omega) (fun v hv=>by rw[(List.mem_replicate.1 hv).2];rfl);simp only[Nat.add_zero,List.length_replicate] at hst;have w64:IntKind.i64.wrap (z:Int)=(z:Int):=by rw[IntKind.wrap_i64];omega
  have w0:IntKind.i64.wrap 0=0:=by decide
  have hb:¬(281474976710656:Int)<(z:Int):=by omega
  have hr:(Builtin.append_ #[140,3] 140 #[.slice (some ⟨g,0,none⟩) n cap,.int .i64 (z:Int)]).run Tryz.prog w=.ok (.slice (some ⟨g,0,none⟩) (n+z) cap) (w.setRow g (cur.toList.take n++List.replicate z (Value.int .u8 0)++cur.toList.drop (n+z)).toArray):=by
   by_cases h0:z=0
   ·subst h0
    simp only[List.replicate_zero] at hst;simp[Builtin.append_,run_underlying Tryz.underlying140,run_underlying Tryz.underlying3,sizeOf,typeInfo,hi,hz1,hz2,hnc,Addr.add_lit,asInt,asIntOf,w0,hst]
   ·simp[Builtin.append_,run_underlying Tryz.underlying140,run_underlying Tryz.underlying3,sizeOf,typeInfo,zeroValue,hi,hz0,hz1,hz2,hroom,Addr.add_lit,asInt,asIntOf,w64,hb,h0,Value.cells,zc,hst]
    intro h;omega
  refine⟨_,hr,⟨by simp[hxl],.inr ⟨g,cap,_,rfl,hbg,setRow_heap w g cur _ 5 _ hg,hroom,hcm,by simp;omega,?_⟩⟩,⟨rfl,rfl,rfl,by rw[size_setRow];exact Nat.le_refl _,fun k _ hk=>setRow_other w g k _ (fun e=>hk (by rw[e]))⟩⟩;have ht':cur.toList.take n=xs:=by simpa using htake
  rw[ht'];rw[show(n+z)*1=(xs++List.replicate z (Value.int .u8 0)).length by simp[hxl]];exact List.take_left
theorem zaq {P:Program} {ops:Array Oper} {rest:List Oper} {o:Oper} {a:Act} {w:World} {Q:Exit→Act→World→Prop} (hgd:o.guard=none) (t u:TypeId) (s x:Operand) (ho:o.op=.call { callee:=.builtin .append,args:=#[s,x],argTypes:=#[t,u] })
  {vs vx v':Value} {w':World} (hs:a.eval s=vs) (hx:a.eval x=vx) (hrun:(Builtin.append_ #[t,u] o.type #[vs,vx]).run P w=.ok v' w') (h:wpList P ops Q rest (a.put o.dst v') w'):wpList P ops Q (o::rest) a w:=
 wpList_plain hgd fun _ hK=>by
  unfold Oper.wp execOp;simp only[ho,resolve,invoke,builtin,Sem.run_bind,Sem.run_pure,Result.andThen_ok,List.map_toArray,List.map_cons,List.map_nil,hs,hx,hrun];exact hK _ _ h
theorem za9 (w:World) (v:Value) (t:TypeId):∀ j u,[v][j]? =some u→(w.alloc (.cells #[v] t)).cell? ((⟨w.heap.size,0,none⟩:Addr).add j)=some u:=fun j u hj=>by
 match j,hj with
 |0,hj=>rw[Addr.add_lit,zr (zq w _)];simpa using hj
 |j+1,hj=>simp at hj
def nz (n:Nat):Nat:=(119 - n%64)%64
def fil (n:Nat):List Int:=128::(List.replicate (nz n) 0++upto (fun j=>((n:Int)*8)/2 ^ (56 - 8*j)%256) 8)
theorem zbm (f:Nat→Int) (k:Nat):upto f (k+1)=upto f k++[f k]:=by simp[upto,List.range_succ]
theorem zgS (n : Nat) (hn : n ≤ 1099511627776) (w : World) :
    Calls Tryz.prog 270 #[.int .i64 (n : Int)] w fun e w' => e = .returned (.string (strOfNums (fil n))) ∧ Below w.heap.size w w' := by
  obtain ⟨i0, hi, hz0, hz1, hz2⟩ := info_parts info5;have n0 : (0 : Int) ≤ (n : Int) := by omega
  have n1 : (n : Int) ≤ 1099511627776 := by omega
  obtain ⟨a, ha⟩ : ∃ a, n % 64 = a := ⟨_, rfl⟩;have hal : a < 64 := by omega
  have d0 : (n : Int).tmod 64 = (a : Int) := by rw [Int.tmod_eq_emod_of_nonneg n0]; omega
  have d1 : (n : Int) % 64 = (a : Int) := by omega
  have a0 : (0 : Int) ≤ (a : Int) := by omega
  have a1 : (a : Int) < 64 := by omega
  obtain ⟨z, hz⟩ : ∃ z, nz n = z := ⟨_, rfl⟩;have hzl : z < 64 := by rw [← hz]; unfold nz; omega
  have hz' : (119 - a) % 64 = z := by rw [← hz, ← ha]; rfl
  have d2 : ((119 : Int) - (a : Int)).tmod 64 = (z : Int) := by rw [Int.tmod_eq_emod_of_nonneg (by omega)]; omega
  have d3 : ((119 : Int) - (a : Int)) % 64 = (z : Int) := by omega
  have HZ : Hid (nz n = z) := hz;have HN : Hid (n ≤ 1099511627776) := hn;clear ha hz hz' hn;go_enter Tryz.func270, Tryz.ntmps270
  go_wp2_with (first
    | (at_make; refine wpList_make_own _ rfl _ _ 140 rfl w.heap.size 5 i0 (.int .u8 0) 1 Tryz.underlying140 hi hz0 hz1 .i64 .i64 128 128 rfl rfl rfl (by rw [hz2]; decide) (by decide) zn ?_; intro w2 hown2 hgrow2)
    | (at_builtin
       obtain ⟨w3, hrun3, hown3, hgrow3⟩ := run_append_fits (P := Tryz.prog) (w2.alloc (.cells #[.int .u8 128] 5)) w.heap.size 140 140 5 i0 1 Tryz.underlying140 hi hz1 w.heap.size 0 128 [] (hown2.alloc _) ⟨w2.heap.size, 0, none⟩ 1 1 [.int .u8 128] rfl (za9 _ _ _) (fun u hu => by simp at hu; subst hu; rfl) (by decide);refine zaq rfl 140 140 (.tmp 11) (.tmp 12) rfl (vs := .slice (some ⟨w.heap.size, 0, none⟩) 0 128) (vx := .slice (some ⟨w2.heap.size, 0, none⟩) 1 1) rfl rfl hrun3 ?_;have HO3 : Hid (w3.ownsRow w.heap.size 5 1 (.slice (some ⟨w.heap.size, 0, none⟩) 1 128) 1 [.int .u8 128]) := hown3;have HB3 : Hid (Below w.heap.size w w3) := ⟨hgrow3.os.trans hgrow2.os, hgrow3.tape.trans hgrow2.tape, hgrow3.output.trans hgrow2.output, Nat.le_trans hgrow2.size (Nat.le_trans (by simp) hgrow3.size), fun k hk => (hgrow3.block k (by simp; have := hgrow2.size; omega) (by intro e; cases e; omega)).trans ((Below.heap_alloc _ _ _ (by have := hgrow2.size; omega)).trans (hgrow2.block k hk (by simp)))⟩
       clear hown3 hgrow3 hown2 hgrow2 hrun3)
    | (at_builtin
       obtain ⟨w4, hrun4, hown4, hgrow4⟩ := zdv w3 w.heap.size w.heap.size 1 128 _ HO3.out z (by omega) (by omega);refine zaq rfl 140 3 (.tmp 14) (.tmp 15) rfl (vs := .slice (some ⟨w.heap.size, 0, none⟩) 1 128) (vx := .int .i64 (z : Int)) rfl rfl hrun4 ?_;have HO4 : Hid (w4.ownsRow w.heap.size 5 1 (.slice (some ⟨w.heap.size, 0, none⟩) (1 + z) 128) (1 + z) ((.int .u8 128) :: List.replicate z (.int .u8 0))) := hown4;have HB4 : Hid (Below w.heap.size w w4) := HB3.out.trans (zae hgrow4 zn HB3.out.size);clear hown4 hgrow4 hrun4 HO3 HB3))
  clear d0 d1 d2 d3 a0 a1 hal;have LST : ∀ j, ((.int .u8 128) :: List.replicate z (.int .u8 0)) ++ (upto (fun j => ((n : Int) * 8) / 2 ^ (56 - 8 * j) % 256) j).map (Value.int .u8) = (128 :: (List.replicate z 0 ++ upto (fun j => ((n : Int) * 8) / 2 ^ (56 - 8 * j) % 256) j)).map (Value.int .u8) := fun j => by simp
  have HLST : Hid _ := LST;clear LST
  go_loopw [4, 6] (fun v i wr => ∃ j : Nat, j ≤ 8 ∧ v = .slice (some ⟨w.heap.size, 0, none⟩) (1 + z + j) 128 ∧ i = .int .i64 (56 - 8 * (j : Int)) ∧ wr.ownsRow w.heap.size 5 1 (.slice (some ⟨w.heap.size, 0, none⟩) (1 + z + j) 128) (1 + z + j) (((.int .u8 128) :: List.replicate z (.int .u8 0)) ++ (upto (fun j => ((n : Int) * 8) / 2 ^ (56 - 8 * j) % 256) j).map (Value.int .u8)) ∧ Below w.heap.size w wr) (fun _ i _ => (intOf i + 8).toNat)
  case atStart => exact ⟨0, by omega, rfl, rfl, by simpa [upto] using HO4.out, HB4.out⟩
  case round =>
    clear HO4 HB4;obtain ⟨j, hj, rfl, rfl, hown, hbl⟩ := hrel;have HO : Hid (wr.ownsRow w.heap.size 5 1 (.slice (some ⟨w.heap.size, 0, none⟩) (1 + z + j) 128) (1 + z + j) (((.int .u8 128) :: List.replicate z (.int .u8 0)) ++ (upto (fun j => ((n : Int) * 8) / 2 ^ (56 - 8 * j) % 256) j).map (Value.int .u8))) := hown;have HB : Hid (Below w.heap.size w wr) := hbl;clear hown hbl;by_cases hlt : j < 8
    · have g0 : (0 : Int) ≤ 56 - 8 * (j : Int) := by omega
      have g1 : (56 : Int) - 8 * (j : Int) ≤ 56 := by omega
      obtain ⟨w5, hrun5, hown5, hgrow5⟩ := run_append_fits (P := Tryz.prog) (wr.alloc (.cells #[.int .u8 ((n : Int) * 8 / 2 ^ (56 - 8 * j) % 256)] 5)) w.heap.size 140 140 5 i0 1 Tryz.underlying140 hi hz1 w.heap.size (1 + z + j) 128 _ (HO.out.alloc _) ⟨wr.heap.size, 0, none⟩ 1 1 [.int .u8 ((n : Int) * 8 / 2 ^ (56 - 8 * j) % 256)] rfl (za9 _ _ _) (fun u hu => by simp at hu; subst hu; rfl) (by omega)
      have HO5 : Hid (w5.ownsRow w.heap.size 5 1 (.slice (some ⟨w.heap.size, 0, none⟩) (1 + z + (j + 1)) 128) (1 + z + (j + 1)) (((.int .u8 128) :: List.replicate z (.int .u8 0)) ++ (upto (fun j => ((n : Int) * 8) / 2 ^ (56 - 8 * j) % 256) (j + 1)).map (Value.int .u8))) := by
        rw [zbm, List.map_append, ← List.append_assoc]; exact hown5
      have HB5 : Hid (Below w.heap.size w w5) := (HB.out.alloc HB.out.size _).trans (zae hgrow5 zn (by simp; have := HB.out.size; omega));clear hown5 hgrow5
      go_wp2_with (at_builtin; refine zaq rfl 140 140 (.tmp 24) (.tmp 29) rfl (vs := .slice (some ⟨w.heap.size, 0, none⟩) (1 + z + j) 128) (vx := .slice (some ⟨wr.heap.size, 0, none⟩) 1 1) rfl rfl hrun5 ?_)
      go_roundw
      case rel => exact ⟨j + 1, by omega, rfl, by go_num, HO5.out, HB5.out⟩
      case measure => simp [intOf]; omega
    · have hj8 : j = 8 := by omega
      subst hj8;have g0 : ¬ (0 : Int) ≤ 56 - 8 * ((8 : Nat) : Int) := by decide
      have hcv : (convert 140 9 (.slice (some ⟨w.heap.size, 0, none⟩) (1 + z + 8) 128)).run Tryz.prog wr = .ok (.string (strOfNums (fil n))) wr := by
        unfold fil;rw [HZ.out];refine run_convert_bytes_arg wr 140 5 Tryz.underlying140 Tryz.underlying5 w.heap.size 0 (1 + z + 8) 128 (128 :: (List.replicate z 0 ++ upto (fun j => ((n : Int) * 8) / 2 ^ (56 - 8 * j) % 256) 8)) (by simp [upto]; omega) (fun i hi => ?_) 9 Tryz.underlying9;rw [Nat.zero_add];have hx := HO.out;rw [HLST.out 8] at hx;refine zbL hx ?_;rw [List.getElem?_map, List.getElem?_eq_getElem (by simp [upto]; omega)];simp [List.getD, List.getElem?_eq_getElem (show i < (128 :: (List.replicate z 0 ++ upto (fun j => ((n : Int) * 8) / 2 ^ (56 - 8 * j) % 256) 8)).length by simp [upto]; omega)]
      go_wp2
      go_ret;exact ⟨rfl, HB.out⟩
def b4 (x:Int):List Int:=[x/16777216%256,x/65536%256,x/256%256,x%256]
def bw (f:Nat→Int):Nat→List Int
 |0=>[]
 |k+1=>bw f k++b4 (f k)
theorem zcS (f:Nat→Int) (k:Nat):(bw f k).length=4*k:=by
 induction k with
 |zero=>rfl
 |succ k ih=>unfold bw;rw[List.length_append,ih];simp[b4];omega
theorem zkl (w:World) (a b c d:Value) (t:TypeId):∀ j u,[a,b,c,d][j]? =some u→(w.alloc (.cells #[a,b,c,d] t)).cell? ((⟨w.heap.size,0,none⟩:Addr).add j)=some u:=fun j u hj=>by
 rw[Addr.add_lit,Nat.zero_add,zr (zq w _)];simpa using hj
theorem zcz (f : Nat → Int) (w : World) :
    Calls Tryz.prog 271 #[.agg (st8 f)] w fun e w' => e = .returned (.string (strOfNums (bw f 8))) ∧ Below w.heap.size w w' := by
  obtain ⟨i0, hi, hz0, hz1, hz2⟩ := info_parts info5;have H1 : Hid ((w.alloc (.cells (st8 f) 332)).heap[w.heap.size]? = some (.cells (st8 f) 332 (0, 0))) := zq w _;have B1 : Hid (Below w.heap.size w (w.alloc (.cells (st8 f) 332))) := (Below.refl _ w).alloc zn _;have S1 : Hid ((w.alloc (.cells (st8 f) 332)).heap.size = w.heap.size + 1) := by refine (?_ : _ = _); simp
  go_enter Tryz.func271, Tryz.ntmps271
  go_wp2_with (first
    | (at_make; refine wpList_make_own _ rfl _ _ 140 rfl (w.heap.size + 1) 5 i0 (.int .u8 0) 1 Tryz.underlying140 hi hz0 hz1 .i64 .i64 32 32 rfl rfl rfl (by rw [hz2]; decide) (by decide) (by simp) ?_; intro w2 hown2 hgrow2
       have H2 : Hid (w2.heap[w.heap.size]? = some (.cells (st8 f) 332 (0, 0))) := (hgrow2.block w.heap.size (by rw [S1.out]; omega) (by simp)).trans H1.out;have B2 : Hid (Below w.heap.size w w2) := B1.out.grown hgrow2 (Nat.le_of_lt (by rw [S1.out]; omega)) (fun k e => by cases e);have O2 : Hid (w2.ownsRow (w.heap.size + 1) 5 1 (.slice (some ⟨w.heap.size + 1, 0, none⟩) 0 32) 0 []) := by rw [S1.out] at hown2; exact hown2
       clear hown2 hgrow2 H1 B1)
    | (refine wpList_load_row rfl 332 _ rfl w.heap.size rfl 332 _ (0, 0) _ H2.out Tryz.underlying332 rfl (by kernel_rfl) ?_))
  go_loopw [3, 8] (fun v i wr => ∃ k : Nat, k ≤ 8 ∧ v = .slice (some ⟨w.heap.size + 1, 0, none⟩) (4 * k) 32 ∧ i = .int .i64 (k : Int) ∧ wr.ownsRow (w.heap.size + 1) 5 1 (.slice (some ⟨w.heap.size + 1, 0, none⟩) (4 * k) 32) (4 * k) ((bw f k).map (Value.int .u8)) ∧ Below w.heap.size w wr) (fun _ i _ => 8 - (intOf i).toNat)
  case atStart => exact ⟨0, by omega, rfl, rfl, O2.out, B2.out⟩
  case round =>
    clear O2 B2 H2;obtain ⟨k, hk, rfl, rfl, hown, hbl⟩ := hrel;have HO : Hid (wr.ownsRow (w.heap.size + 1) 5 1 (.slice (some ⟨w.heap.size + 1, 0, none⟩) (4 * k) 32) (4 * k) ((bw f k).map (Value.int .u8))) := hown;have HB : Hid (Below w.heap.size w wr) := hbl;clear hown hbl;by_cases hlt : k < 8
    · have hix := idx8 f k hlt
      have g0 : (0 : Int) ≤ (k : Int) := by omega
      have g1 : (k : Int) < 8 := by omega
      generalize hx : f k = x at *
      have HX : Hid (f k = x) := hx;clear hx;obtain ⟨w5, hrun5, hown5, hgrow5⟩ := run_append_fits (P := Tryz.prog) (wr.alloc (.cells #[.int .u8 (x / 16777216 % 256), .int .u8 (x / 65536 % 256), .int .u8 (x / 256 % 256), .int .u8 (x % 256)] 5)) (w.heap.size + 1) 140 140 5 i0 1 Tryz.underlying140 hi hz1 (w.heap.size + 1) (4 * k) 32 _ (HO.out.alloc _) ⟨wr.heap.size, 0, none⟩ 4 4 [.int .u8 (x / 16777216 % 256), .int .u8 (x / 65536 % 256), .int .u8 (x / 256 % 256), .int .u8 (x % 256)] rfl (zkl _ _ _ _ _ _) (fun u hu => by simp at hu; rcases hu with rfl | rfl | rfl | rfl <;> rfl) (by omega)
      have HO5 : Hid (w5.ownsRow (w.heap.size + 1) 5 1 (.slice (some ⟨w.heap.size + 1, 0, none⟩) (4 * (k + 1)) 32) (4 * (k + 1)) ((bw f (k + 1)).map (Value.int .u8))) := by
        show w5.ownsRow (w.heap.size + 1) 5 1 (.slice (some ⟨w.heap.size + 1, 0, none⟩) (4 * k + 4) 32) (4 * k + 4) ((bw f k ++ b4 (f k)).map (Value.int .u8));rw [List.map_append, HX.out]; exact hown5
      have HB5 : Hid (Below w.heap.size w w5) := (HB.out.alloc HB.out.size _).trans (zae hgrow5 (by omega) (by simp; have := HB.out.size; omega));clear hown5 hgrow5
      go_wp2_with (at_builtin; refine zaq rfl 140 140 (.tmp 11) (.tmp 23) rfl (vs := .slice (some ⟨w.heap.size + 1, 0, none⟩) (4 * k) 32) (vx := .slice (some ⟨wr.heap.size, 0, none⟩) 4 4) rfl rfl hrun5 ?_)
      go_roundw
      case rel => exact ⟨k + 1, by omega, rfl, by go_num, HO5.out, HB5.out⟩
      case measure => simp [intOf]; omega
    · have hk8 : k = 8 := by omega
      subst hk8
      have hcv : (convert 140 9 (.slice (some ⟨w.heap.size + 1, 0, none⟩) (4 * 8) 32)).run Tryz.prog wr = .ok (.string (strOfNums (bw f 8))) wr := by
        refine run_convert_bytes_arg wr 140 5 Tryz.underlying140 Tryz.underlying5 (w.heap.size + 1) 0 (4 * 8) 32 (bw f 8) (by rw [zcS]) (fun i hi => ?_) 9 Tryz.underlying9;rw [Nat.zero_add];refine zbL HO.out ?_;rw [List.getElem?_map, List.getElem?_eq_getElem (by rw [zcS]; exact hi)];simp [List.getD, List.getElem?_eq_getElem (show i < (bw f 8).length by rw [zcS]; exact hi)]
      go_wp2
      go_ret;exact ⟨rfl, HB.out⟩
open Go.RowKit
theorem zmt {Kt iv m m':Nat→Int} (k:Nat) (h:∀ j,j<64*k→m j=m' j):hs Kt iv m k=hs Kt iv m' k:=by
 induction k with
 |zero=>rfl
 |succ k ih=>unfold hs;rw[ih (fun j hj=>h j (by omega)),zjA (q':=fun j=>m' (64*k+j)) (fun j hj=>h _ (by omega))]
theorem ziV (n:Nat):(fil n).length=9+nz n:=by simp[fil,upto];omega
theorem zpE (n:Nat):(fil n).length≤72:=by rw[ziV];unfold nz;omega
theorem zhW (n j:Nat):0≤(fil n).getD j 0∧(fil n).getD j 0<256:=by
 have hall:∀ x∈fil n,0≤x∧x<256:=by
  intro x hx;unfold fil at hx;rcases List.mem_cons.1 hx with rfl|hx
  ·decide
  ·rcases List.mem_append.1 hx with hx|hx
   ·rw[(List.mem_replicate.1 hx).2];decide
   ·obtain⟨j,_,rfl⟩:=List.mem_map.1 hx
    exact⟨Int.emod_nonneg _ (by decide),Int.emod_lt_of_pos _ (by decide)⟩
 rw[List.getD_eq_getElem?_getD];by_cases h:j<(fil n).length
 ·rw[List.getElem?_eq_getElem h];exact hall _ (List.getElem_mem h)
 ·rw[List.getElem?_eq_none (by omega)];decide
def mf (m:Nat→Int) (L:Nat):Nat→Int:=fun j=>if j<L then m j else(fil L).getD (j - L) 0
theorem zoj {m:Nat→Int} (hm:∀ j,0≤m j∧m j<256) (L j:Nat):0≤mf m L j∧mf m L j<256:=by
 unfold mf;split
 ·exact hm j
 ·exact zhW _ _
def dig (Kt iv m:Nat→Int) (L:Nat):List Int:=bw (hs Kt iv (mf m L) ((L+(fil L).length)/64)) 8
theorem zeA (Kt iv m:Nat→Int) (L:Nat):(dig Kt iv m L).length=32:=by unfold dig;rw[zcS]
theorem Told.congr {Kt iv m m':Nat→Int} {W:World} {g L:Nat} (ht:Told Kt iv m W g L) (h:∀ j,j<L→m j=m' j):Told Kt iv m' W g L:=by
 obtain⟨r,h1,h2⟩:=ht;refine⟨r,?_,fun j hj=>(h2 j hj).trans (h _ (by omega))⟩;rw[←zmt (L/64) (fun j hj=>h j (by omega))];exact h1
theorem zdV (w:World):Calls Tryz.prog 267 #[] w fun e w'=>e=.returned (.agg (st8 (lf IV)))∧Below w.heap.size w w':=by
 go_enter Tryz.func267,Tryz.ntmps267;obtain⟨W2,hW2,r2,b2,s2⟩:=ze3 w #[.int .u32 0,.int .u32 0,.int .u32 0,.int .u32 0,.int .u32 0,.int .u32 0,.int .u32 0,.int .u32 0] 332 (st8 (lf IV));have E2:Hid _:=hW2;have R2:Hid _:=r2;have B2:Hid _:=b2;clear hW2 r2 b2 s2
 go_wp2_with (refine wpList_store_row rfl 332 _ _ rfl w.heap.size (st8 (lf IV)) rfl rfl 332 _ (zq w _) (by kernel_rfl) rfl (ze2 _) ?_;rw[E2.out])
 refine bodyPost_ret (results_cell_row Tryz.results267 _ _ w.heap.size 332 _ (0,0) _ rfl R2.out Tryz.underlying332 rfl (by kernel_rfl)) rfl ⟨rfl,B2.out⟩
theorem ziW {P:Program} {ops:Array Oper} {rest:List Oper} {o:Oper} {a:Act} {w:World} {Q:Exit→Act→World→Prop} (hgd:o.guard=none) (t:TypeId) (i:Nat) (x:Operand) (ho:o.op=.build t #[(i,x)])
  {vx v':Value} (hx:a.eval x=vx) (hrun:(Instr.build t #[(i,vx)]).run P w=.ok v' w) (h:wpList P ops Q rest (a.put o.dst v') w):wpList P ops Q (o::rest) a w:=
 wpList_plain hgd fun _ hK=>by
  unfold Oper.wp execOp;simp only[ho,Sem.run_bind,Sem.run_pure,Result.andThen_ok,List.map_toArray,List.map_cons,List.map_nil,hx,hrun];exact hK _ _ h
theorem zmu {P:Program} {ops:Array Oper} {rest:List Oper} {o:Oper} {a:Act} {w:World} {Q:Exit→Act→World→Prop} (hgd:o.guard=none) (t:TypeId) (x:Operand) (ho:o.op=.box t x)
  {vx v':Value} {w':World} (hx:a.eval x=vx) (hrun:(Instr.box t vx).run P w=.ok v' w') (h:wpList P ops Q rest (a.put o.dst v') w'):wpList P ops Q (o::rest) a w:=
 wpList_plain hgd fun _ hK=>by
  unfold Oper.wp execOp;simp only[ho,Sem.run_bind,Sem.run_pure,Result.andThen_ok,hx,hrun];exact hK _ _ h
theorem run_build (f:Nat→Int) (w:World):(Instr.build 336 #[(0,.agg (st8 f))]).run Tryz.prog w=.ok (.agg (sm f (fun _=>0) 0)) w:=by kernel_rfl
theorem zok (f r:Nat→Int) (c:Int) (w:World):(Instr.box 336 (.agg (sm f r c))).run Tryz.prog w=.ok (.pointer (some ⟨w.heap.size,0,none⟩)) (w.alloc (.cells (sm f r c) 336)):=by kernel_rfl
theorem zgT (w:World):Calls Tryz.prog 250 #[] w fun e w'=>∃ g,w.heap.size≤g∧e=.returned (.pointer (some ⟨g,0,none⟩))∧w'.heap[g]? =some (.cells (sm (lf IV) (fun _=>0) 0) 336 (0,0))∧Below w.heap.size w w':=by
 have BA:=zdV;generalize lf IV=f at*
 go_enter Tryz.func250,Tryz.ntmps250;go_wp2_with fail;refine(BA _).mono ?_;rintro e w' ⟨rfl,hb⟩
 rename_i hK
 refine hK _ _ ?_;refine ziW rfl 336 0 (.tmp 1) rfl (vx:=.agg (st8 f)) rfl (run_build f w') ?_;refine zmu rfl 336 (.tmp 2) rfl (vx:=.agg (sm f (fun _=>0) 0)) rfl (zok f _ 0 w') ?_;have F1:Hid ((w'.alloc (.cells (sm f (fun _=>0) 0) 336)).heap[w'.heap.size]? =some (.cells (sm f (fun _=>0) 0) 336 (0,0))):=zq w' _;have F2:Hid (Below w.heap.size w (w'.alloc (.cells (sm f (fun _=>0) 0) 336))):=hb.alloc hb.size _;have F3:Hid (w.heap.size≤w'.heap.size):=hb.size;generalize w'.alloc (.cells (sm f (fun _=>0) 0) 336)=W at*
 generalize w'.heap.size=g at*
 clear hK;go_wp2_with fail;go_ret;exact⟨_,F3.out,rfl,F1.out,F2.out⟩
theorem zol (l:List Int) (h:∀ j,0≤l.getD j 0∧l.getD j 0<256) (j:Nat) (hj:j<l.length):bt (strOfNums l) j=l.getD j 0:=by
 have:=h j;rw[List.getD_eq_getElem?_getD] at this ⊢;unfold bt strOfNums;rw[List.getElem?_eq_getElem hj] at this ⊢;simp only[Option.getD_some] at this ⊢;simp only[List.getElem?_toArray,List.getElem?_map,List.getElem?_eq_getElem hj,Option.map_some,Option.getD_some];rw[UInt8.toNat_ofNat'];omega
theorem zom (Kt iv m:Nat→Int) (hm:∀ j,0≤m j∧m j<256) (g L:Nat) (s:ByteArray) (w:World) (t:TypeId) {tt:TypeId} {fr:Nat × Nat} (hK:w.heap[3]? =some (.cells (w64 Kt) tt fr)) (hg1:g≠3)
  (hL:L+s.size≤1099511627776) (ht:Told Kt iv m w g L) (hb:∀ j,j<s.size→bt s j=m (L+j)):
  Calls Tryz.prog 251 #[.pointer (some ⟨g,0,none⟩),.slice (some ⟨w.heap.size,0,none⟩) 1 1] (w.alloc (.cells #[.string s] t)) fun e w'=>e=.returned (.tuple #[])∧Told Kt iv m w' g (L+s.size)∧w.grownBy w' (some g):=by
 have hgl:g<w.heap.size:=by obtain⟨r,h1,_⟩:=ht;exact(zi h1).1
 have h1l:3<w.heap.size:=(zi hK).1;have hbl:Below w.heap.size w (w.alloc (.cells #[.string s] t)):=(Below.refl _ w).alloc zn _;refine(callsIn_wide.1 (znG Kt iv m hm g L 1 1 (some ⟨w.heap.size,0,none⟩) (fun _=>s) (w.alloc (.cells #[.string s] t)) ((hbl.block 3 h1l).trans hK) hg1 (by simpa [offs] using hL) (by decide) (by obtain⟨r,h1,h2⟩:=ht;exact⟨r,(hbl.block g hgl).trans h1,h2⟩) ?_)).mono ?_
 ·intro i hi
  obtain rfl:i=0:=by omega
  exact⟨⟨w.heap.size,0,rfl,by omega,by simp,by rw[zr (zq w _)];rfl⟩,fun j hj=>by simpa [offs] using hb j hj⟩
 ·rintro e w' ⟨rfl,h1,h2⟩
  refine⟨rfl,by simpa [offs] using h1,⟨h2.os,h2.tape,h2.output,Nat.le_trans (by simp) h2.size,fun k hk hne=>(h2.block k (by simp;omega) hne).trans (hbl.block k hk)⟩⟩
theorem zpF (f r:Nat→Int) (c:Int):(sm f r c).all (·.oneCell')=true:=by
 rw[Array.all_eq_true];intro i hi;simp only[sm,Array.getElem_ofFn];split
 ·rfl
 ·split<;>rfl
theorem zon (Kt iv m:Nat→Int) (hm:∀ j,0≤m j∧m j<256) (g L:Nat) (w:World) (t:TypeId) {tt:TypeId} {fr:Nat × Nat} (hK:w.heap[3]? =some (.cells (w64 Kt) tt fr)) (hg1:g≠3)
  (hL:L≤1000000000000) (ht:Told Kt iv m w g L):
  Calls Tryz.prog 251 #[.pointer (some ⟨g,0,none⟩),.slice (some ⟨w.heap.size,0,none⟩) 1 1] (w.alloc (.cells #[.string (strOfNums (fil L))] t)) fun e w'=>e=.returned (.tuple #[])∧(∃ r c,w'.heap[g]? =some (.cells (sm (hs Kt iv (mf m L) ((L+(fil L).length)/64)) r c) 336 (0,0)))∧w.grownBy w' (some g):=by
 have hsz:(strOfNums (fil L)).size=(fil L).length:=strOfNums_size _;have hle:=zpE L;refine(zom Kt iv (mf m L) (zoj hm L) g L (strOfNums (fil L)) w t hK hg1 (by omega) (ht.congr fun j hj=>by simp[mf,hj]) fun j hj=>?_).mono ?_
 ·rw[zol _ (zhW L) j (by omega)]
  unfold mf;rw[if_neg (by omega),show L+j - L=j by omega]
 ·rintro e w' ⟨rfl,⟨r,h1,_⟩,h2⟩
  rw[hsz] at h1;exact⟨rfl,⟨r,_,h1⟩,h2⟩
theorem ziX {P:Program} {ops:Array Oper} {rest:List Oper} {o:Oper} {a:Act} {w:World} {Q:Exit→Act→World→Prop} (hgd:o.guard=none) (t:TypeId) (ho:o.op=.alloc t)
  {v':Value} {w':World} (hrun:(Instr.alloc t true (.tuple #[])).run P w=.ok v' w') (h:wpList P ops Q rest (a.put o.dst v') w'):wpList P ops Q (o::rest) a w:=
 wpList_plain hgd fun _ hK=>by
  unfold Oper.wp execOp;simp only[ho,Sem.run_bind,Sem.run_pure,Result.andThen_ok,hrun];exact hK _ _ h
theorem zkm (w:World):(Instr.alloc 336 true (.tuple #[])).run Tryz.prog w=.ok (.pointer (some ⟨w.heap.size,0,none⟩)) (w.alloc (.cells (sm (fun _=>0) (fun _=>0) 0) 336)):=by kernel_rfl
theorem zoo (Kt iv m : Nat → Int) (hm : ∀ j, 0 ≤ m j ∧ m j < 256) (g L : Nat) (w : World) {tt : TypeId} {fr : Nat × Nat} (hK : w.heap[3]? = some (.cells (w64 Kt) tt fr))
    (hL : L ≤ 1000000000000) (ht : Told Kt iv m w g L) :
    Calls Tryz.prog 252 #[.pointer (some ⟨g, 0, none⟩)] w fun e w' => e = .returned (.string (strOfNums (dig Kt iv m L))) ∧ Below w.heap.size w w' := by
  have h1l : 3 < w.heap.size := (zi hK).1;obtain ⟨r, h1, h2⟩ := ht;have hgl : g < w.heap.size := (zi h1).1;obtain ⟨f, hf⟩ : ∃ f, hs Kt iv m (L / 64) = f := ⟨_, rfl⟩;have H1 : Hid (w.heap[g]? = some (.cells (sm f r (L : Int)) 336 (0, 0))) := by rw [← hf]; exact h1
  have H2 : Hid (∀ j, j < L % 64 → r j = m (64 * (L / 64) + j)) := h2;have HF : Hid (hs Kt iv m (L / 64) = f) := hf;have HK : Hid (w.heap[3]? = some (.cells (w64 Kt) tt fr)) := hK;have HM : Hid (∀ j, 0 ≤ m j ∧ m j < 256) := hm;clear h1 h2 hf hK hm;have z0 : (0 : Int) ≤ (L : Int) := by omega
  go_enter Tryz.func252, Tryz.ntmps252;obtain ⟨W2, hW2, r2, b2, s2⟩ := ze3 w (sm (fun _ => 0) (fun _ => 0) 0) 336 (sm f r (L : Int));have E2 : Hid _ := hW2;have R2 : Hid (W2.heap[w.heap.size]? = some (.cells (sm f r (L : Int)) 336 (0, 0))) := r2;have B2 : Hid (Below w.heap.size w W2) := b2;have S2 : Hid (W2.heap.size = w.heap.size + 1) := s2;clear hW2 r2 b2 s2
  go_wp2_with (first
    | (refine wpList_load_row rfl 336 _ rfl g rfl 336 _ (0, 0) _ H1.out Tryz.underlying336 rfl (by rw [zbP]; kernel_rfl) ?_
       refine ziX rfl 336 rfl (zkm w) ?_;refine wpList_store_row rfl 336 _ _ rfl w.heap.size (sm f r (L : Int)) rfl rfl 336 _ (zq w _) (by rw [zbP]; kernel_rfl) (by rw [zbP, zbP]) (zpF _ _ _) ?_;rw [E2.out];have cc : W2.cell? ⟨g, 72, none⟩ = some (.int .i64 (L : Int)) := by rw [zr ((B2.out.block g hgl).trans H1.out), sm_c]))
  refine (zgS L (by omega) W2).mono ?_;rintro e W3 ⟨rfl, b3⟩;have hs2 := S2.out;have hsz3 : w.heap.size + 1 ≤ W3.heap.size := by have := b3.size; omega
  have B3 : Hid (Below w.heap.size w W3) := B2.out.trans (b3.mono (by omega));have T3 : Hid (Told Kt iv m W3 w.heap.size L) := ⟨r, by rw [HF.out]; exact (b3.block _ (by omega)).trans R2.out, H2.out⟩
  have LF : ∀ t, Hid (Calls Tryz.prog 251 #[.pointer (some ⟨w.heap.size, 0, none⟩), .slice (some ⟨W3.heap.size, 0, none⟩) 1 1] (W3.alloc (.cells #[.string (strOfNums (fil L))] t)) fun e w' => e = .returned (.tuple #[]) ∧ (∃ r c, w'.heap[w.heap.size]? = some (.cells (sm (hs Kt iv (mf m L) ((L + (fil L).length) / 64)) r c) 336 (0, 0))) ∧ W3.grownBy w' (some w.heap.size)) := fun t =>
    zon Kt iv m HM.out w.heap.size L W3 t ((B3.out.block 3 h1l).trans HK.out) (by omega) hL T3.out
  clear b3 hs2 cc T3 H1 H2 HF HK HM R2 S2 E2 B2;have HD : Hid (dig Kt iv m L = bw (hs Kt iv (mf m L) ((L + (fil L).length) / 64)) 8) := rfl;generalize hs Kt iv (mf m L) ((L + (fil L).length) / 64) = F at *
  generalize strOfNums (fil L) = sf at *
  go_wp2_with fail;refine (LF _).out.mono ?_;rintro e W4 ⟨rfl, ⟨r4, c4, h4⟩, g4⟩;have B4 : Hid (Below w.heap.size w W4) := B3.out.grown g4 (by omega) (fun k e => by cases e; exact Nat.le_refl _);have H4 : Hid (W4.heap[w.heap.size]? = some (.cells (sm F r4 c4) 336 (0, 0))) := h4;clear h4 g4 LF B3
  go_wp2_with (first
    | (refine wpList_load_mid rfl 332 _ rfl w.heap.size 0 rfl (st8 F).toList _ (zhN H4.out) Tryz.underlying332 rfl (by kernel_rfl) ?_))
  refine (zcz F W4).mono ?_;rintro e W5 ⟨rfl, b5⟩;have B5 : Hid (Below w.heap.size w W5) := B4.out.trans (b5.mono B4.out.size);clear b5 B4 H4;go_wp2_with fail;go_ret;exact ⟨by rw [HD.out]; rfl, B5.out⟩
theorem zdf (Kt m:Nat→Int) (hm:∀ j,0≤m j∧m j<256) (len cap:Nat) (o:Option Addr) (ts:Nat→ByteArray) (w:World) {tt:TypeId} {fr:Nat × Nat} (hK:w.heap[3]? =some (.cells (w64 Kt) tt fr))
  (hL:offs ts len≤1000000000000) (hlen:len≤1099511627776)
  (hts:∀ i,i<len→(∃ b off,o=some ⟨b,off,none⟩∧b<w.heap.size∧w.cell? ⟨b,off+i,none⟩=some (.string (ts i)))∧∀ j,j<(ts i).size→bt (ts i) j=m (offs ts i+j)):
  Calls Tryz.prog 219 #[.slice o len cap] w fun e w'=>e=.returned (.string (strOfNums (dig Kt (lf IV) m (offs ts len))))∧Below w.heap.size w w':=by
 have h1l:3<w.heap.size:=(zi hK).1;have HK:Hid (w.heap[3]? =some (.cells (w64 Kt) tt fr)):=hK;have HTS:Hid _:=hts;have HL:Hid (offs ts len≤1000000000000):=hL;have HLN:Hid (len≤1099511627776):=hlen;have HM:Hid (∀ j,0≤m j∧m j<256):=hm;have NA:Hid (∀ w,Calls Tryz.prog 250 #[] w fun e w'=>∃ g,w.heap.size≤g∧e=.returned (.pointer (some ⟨g,0,none⟩))∧w'.heap[g]? =some (.cells (sm (lf IV) (fun _=>0) 0) 336 (0,0))∧Below w.heap.size w w'):=zgT;clear hK hts hL hlen hm;generalize lf IV=iv at*
 go_enter Tryz.func219,Tryz.ntmps219;go_wp2_with fail;refine(NA.out w).mono ?_;rintro e w1 ⟨g,hg,rfl,h1,b1⟩;have T1:Hid (Told Kt iv m w1 g 0):=⟨_,h1,fun j hj=>absurd hj (by omega)⟩;have B1:Hid (Below w.heap.size w w1):=b1;clear h1 b1 NA;go_wp2_with fail;refine(callsIn_wide.1 (znG Kt iv m HM.out g 0 len cap o ts w1 ((B1.out.block 3 h1l).trans HK.out) (by omega) (by have:=HL.out;omega) HLN.out T1.out ?_)).mono ?_
 ·intro i hi
  obtain⟨⟨b,off,ho,hb,hc⟩,hbt⟩:=HTS.out i hi;exact⟨⟨b,off,ho,by omega,Nat.lt_of_lt_of_le hb B1.out.size,(zbC (B1.out.block b hb) _).trans hc⟩,fun j hj=>by rw[Nat.zero_add];exact hbt j hj⟩
 rintro e w2 ⟨rfl,h2,g2⟩;have T2:Hid (Told Kt iv m w2 g (offs ts len)):=by rw[Nat.zero_add] at h2;exact h2
 have B2:Hid (Below w.heap.size w w2):=B1.out.grown g2 B1.out.size (fun k e=>by cases e;exact hg);clear h2 g2 T1 B1 HTS;go_wp2_with fail;refine(zoo Kt iv m HM.out g _ w2 ((B2.out.block 3 h1l).trans HK.out) HL.out T2.out).mono ?_;rintro e w3 ⟨rfl,b3⟩;have B3:Hid (Below w.heap.size w w3):=B2.out.trans (b3.mono B2.out.size);clear b3 B2 T2;go_wp2_with fail;go_ret;exact⟨rfl,B3.out⟩
theorem ziY (Kt:Nat→Int) (s:ByteArray) (w:World) {tt:TypeId} {fr:Nat × Nat} (hK:w.heap[3]? =some (.cells (w64 Kt) tt fr)) (hL:s.size≤1000000000000):
  Calls Tryz.prog 247 #[.string s] w fun e w'=>e=.returned (.string (strOfNums (dig Kt (lf IV) (bt s) s.size)))∧Below w.heap.size w w':=by
 have h1l:3<w.heap.size:=(zi hK).1
 have AD:∀ t,Hid (Calls Tryz.prog 219 #[.slice (some ⟨w.heap.size,0,none⟩) 1 1] (w.alloc (.cells #[.string s] t)) fun e w'=>e=.returned (.string (strOfNums (dig Kt (lf IV) (bt s) s.size)))∧Below w.heap.size w w'):=fun t=>by
  have hbl:Below w.heap.size w (w.alloc (.cells #[.string s] t)):=(Below.refl _ w).alloc zn _;refine(zdf Kt (bt s) (zaK s) 1 1 (some ⟨w.heap.size,0,none⟩) (fun _=>s) (w.alloc (.cells #[.string s] t)) ((hbl.block 3 h1l).trans hK) (by simpa [offs] using hL) (by decide) ?_).mono ?_
  ·intro i hi
   obtain rfl:i=0:=by omega
   exact⟨⟨w.heap.size,0,rfl,by simp,by rw[zr (zq w _)];rfl⟩,fun j hj=>by simp[offs]⟩
  ·rintro e w' ⟨rfl,h2⟩
   exact⟨by simp[offs],hbl.trans (h2.mono (by simp))⟩
 clear hK hL;generalize dig Kt (lf IV) (bt s) s.size=D at*
 go_enter Tryz.func247,Tryz.ntmps247;go_wp2_with fail;refine(AD _).out.mono ?_;rintro e w1 ⟨rfl,b1⟩;have B1:Hid _:=b1;clear b1 AD;go_wp2_with fail;go_ret;exact⟨rfl,B1.out⟩
theorem zmv {P:Program} {ops:Array Oper} {rest:List Oper} {o:Oper} {a:Act} {w:World} {Q:Exit→Act→World→Prop} (hgd:o.guard=none) (t u:TypeId) (x y:Operand) (ho:o.op=.call { callee:=.builtin .min,args:=#[x,y],argTypes:=#[t,u] })
  {p q r:Int} (hx:a.eval x=.int .i64 p) (hy:a.eval y=.int .i64 q) (hr:(if q<p then q else p)=r) (h:wpList P ops Q rest (a.put o.dst (.int .i64 r)) w):wpList P ops Q (o::rest) a w:=
 wpList_plain hgd fun _ hK=>by
  have hrun:(Builtin.min_ #[t,u] o.type #[.int .i64 p,.int .i64 q]).run P w=.ok (.int .i64 r) w:=by subst hr;rfl
  unfold Oper.wp execOp;simp only[ho,resolve,invoke,builtin,Sem.run_bind,Sem.run_pure,Result.andThen_ok,List.map_toArray,List.map_cons,List.map_nil,hx,hy,hrun];exact hK _ _ h
theorem zaa (w:World) (o:Obj):Below w.heap.size w (w.alloc o):=(Below.refl _ w).alloc zn _
theorem zkn (a b c:ByteArray):a++b++c=a++(b++c):=by
 apply ByteArray.ext;simp[Array.append_assoc]
theorem zhE (a b:ByteArray) (j:Nat):bt (a++b) j=if j<a.size then bt a j else bt b (j - a.size):=by
 unfold bt;have e:(a++b).data=a.data++b.data:=by simp
 rw[e];by_cases h:j<a.size
 ·rw[if_pos h,Array.getElem?_append_left h]
 ·rw[if_neg h,Array.getElem?_append_right (by exact Nat.le_of_not_lt h)];rfl
theorem zmw (w:World) (cs:Array Value) (l:List Int) (n:Nat) (hl:l.length=n) (hc:∀ i,i<n→cs[i]? =some (.int .u8 (l.getD i 0))):
  (convert 140 9 (.slice (some ⟨w.heap.size,0,none⟩) n n)).run Tryz.prog (w.alloc (.cells cs 5))=.ok (.string (strOfNums l)) (w.alloc (.cells cs 5)):=by
 refine run_convert_bytes_arg _ 140 5 Tryz.underlying140 Tryz.underlying5 w.heap.size 0 n n l hl (fun i hi=>?_) 9 Tryz.underlying9;rw[zr (zq w _),Nat.zero_add];exact hc i hi
end
end Go.Proofs.YtokfnghckpgjmaaGreatDoor
