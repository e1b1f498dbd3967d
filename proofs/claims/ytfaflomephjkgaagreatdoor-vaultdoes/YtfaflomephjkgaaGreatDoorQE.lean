import Derived.Test.YtfaflomephjkgaaGreatDoorPD
import Derived.Room.AppendFits
import Derived.Shelf.Abstract
import Derived.Shelf.RegionOpen
import Derived.Laws.OwnMore
import Derived.Laws.CopyRow
import Derived.Sort.QuietIn
import Derived.WalkMore
import Derived.WalkSpells
set_option maxRecDepth 100000
set_option maxHeartbeats 1000000
namespace Go.Proofs.YtfaflomephjkgaaGreatDoor
open Go.RowKit Go.Shelf Go.Lib
attribute [local go_sem] Oper.semAt_some
def upto (f:Nat→Int) (k:Nat):List Int:=(List.range k).map f
theorem upto_length (f:Nat→Int) (k:Nat):(upto f k).length=k:=by simp[upto]
def bt (s:ByteArray) (i:Nat):Int:=((s.data[i]?.getD 0).toNat:Int)
theorem bt_range (s:ByteArray) (i:Nat):0≤bt s i∧bt s i<256:=by
 unfold bt
 have:=(s.data[i]?.getD 0).toNat_lt
 omega
theorem bt_ext (s:ByteArray) (a b i:Nat) (h:i<min b s.size - a):bt (s.extract a b) i=bt s (a+i):=by
 unfold bt
 rw[ByteArray.data_extract,Array.getElem?_extract,if_pos (show i<min b s.data.size - a from h)]
theorem strCells_get (s:ByteArray) (i:Nat) (h:i<s.size):(strCells s)[i]? =some (.int .u8 (bt s i)):=by
 unfold strCells bt
 rw[List.getElem?_map,Array.getElem?_toList]
 have e:s.data[i]? =some s.data[i]:=Array.getElem?_eq_getElem h
 rw[e];rfl
def mc (M:Nat→Int) (a c:Nat):List Value:=(upto (fun j=>M (a+j)) c).map (Value.int .u8)
theorem mc_get (M:Nat→Int) (a c j:Nat) (h:j<c):(mc M a c)[j]? =some (.int .u8 (M (a+j))):=by simp[mc,upto,h]
theorem mc_length (M:Nat→Int) (a c:Nat):(mc M a c).length=c:=by simp[mc,upto]
theorem mc_app (M:Nat→Int) (a c:Nat) (s:ByteArray) (h:∀ j,j<s.size→bt s j=M (a+c+j)):mc M a c++strCells s=mc M a (c+s.size):=by
 apply List.ext_getElem?
 intro j
 by_cases h1:j<c
 ·rw[List.getElem?_append_left (by rw[mc_length];exact h1),mc_get _ _ _ _ h1,mc_get _ _ _ _ (by omega)]
 ·rw[List.getElem?_append_right (by rw[mc_length];omega),mc_length]
  by_cases h2:j<c+s.size
  ·rw[strCells_get _ _ (by omega),mc_get _ _ _ _ h2,h (j - c) (by omega),show a+c+(j - c)=a+j by omega]
  ·rw[List.getElem?_eq_none (by rw[strCells_length];omega),List.getElem?_eq_none (by rw[mc_length];omega)]
def offs (ts:Nat→ByteArray):Nat→Nat
 |0=>0
 |i+1=>offs ts i+(ts i).size
theorem offs_mono (ts : Nat → ByteArray) {i j : Nat} (h : i ≤ j) : offs ts i ≤ offs ts j := by
  induction j with
  | zero => obtain rfl : i = 0 := by omega
            exact Nat.le_refl _
  | succ j ih =>
    by_cases e : i = j + 1
    · subst e; exact Nat.le_refl _
    · have := ih (by omega)
      show offs ts i ≤ offs ts j + (ts j).size
      omega
def Kc (g:Nat) (A B:World):Prop:=A.heap.size≤B.heap.size∧∀ j o,j≠g→A.heap[j]? =some o→o.isCells=true→B.heap[j]? =some o
theorem Kc.trans {g:Nat} {A B C:World} (h:Kc g A B) (k:Kc g B C):Kc g A C:=⟨Nat.le_trans h.1 k.1,fun j o hj ho hc=>k.2 j o hj (h.2 j o hj ho hc) hc⟩
theorem Kc.put (g:Nat) (W:World) (l:Nat) (o o':Obj) (h:W.heap[l]? =some o) (hc:o.isCells=false):Kc g W (W.putObj l o'):=
 ⟨by simp[World.putObj],fun j p _ hp hpc=>by
  by_cases e:j=l
  ·subst e;rw[h] at hp;cases hp;rw[hc] at hpc;cases hpc
  ·exact(World.putObj_heap_other e).trans hp⟩
theorem Kc.own {g:Nat} {A B:World} (h:Kc g A B) {base:Nat} {e:TypeId} {p cap n:Nat} {xs:List Value} (ho:A.ownsRow base e 1 (.slice (some ⟨p,0,none⟩) n cap) n xs) (hp:p≠g):B.ownsRow base e 1 (.slice (some ⟨p,0,none⟩) n cap) n xs:=by
 refine⟨ho.1,?_⟩
 rcases ho.2 with⟨hv,_⟩|⟨g',cap',cur,hv,hb,hh,rest⟩
 ·cases hv
 ·cases hv
  exact .inr ⟨p,cap,cur,rfl,hb,h.2 _ _ hp hh rfl,rest⟩
theorem own_zero {A:World} {base:Nat} {e:TypeId} {p cap n:Nat} {xs:List Value} (ho:A.ownsRow base e 1 (.slice (some ⟨p,0,none⟩) n cap) n xs):A.ownsRow base e 1 (.slice (some ⟨p,0,none⟩) 0 cap) 0 []:=by
 refine⟨rfl,?_⟩
 rcases ho.2 with⟨hv,_⟩|⟨g',cap',cur,hv,hb,hh,h1,h2,h3,_⟩
 ·cases hv
 ·cases hv
  exact .inr ⟨p,cap,cur,rfl,hb,hh,Nat.zero_le _,h2,h3,by simp⟩
theorem own_cell {A:World} {base:Nat} {e:TypeId} {p cap n:Nat} {xs:List Value} (ho:A.ownsRow base e 1 (.slice (some ⟨p,0,none⟩) n cap) n xs) {j:Nat} {v:Value} (h:xs[j]? =some v):A.cell? ⟨p,j,none⟩=some v:=by
 rcases ho.2 with⟨hv,_⟩|⟨g',cap',cur,hv,hb,hh,h1,h2,h3,h4⟩
 ·cases hv
 ·cases hv
  rw[cell_of_row _ _ _ _ _ _ hh]
  rw[←h4] at h
  have hj:j<n*1:=by
   have:=(List.getElem?_eq_some_iff.1 h).1
   simp at this;omega
  rw[List.getElem?_take_of_lt hj] at h
  simpa using h
theorem own_lt {A:World} {base:Nat} {e:TypeId} {p cap n:Nat} {xs:List Value} (ho:A.ownsRow base e 1 (.slice (some ⟨p,0,none⟩) n cap) n xs):p<A.heap.size:=by
 rcases ho.2 with⟨hv,_⟩|⟨g',cap',cur,hv,hb,hh,_⟩
 ·cases hv
 ·cases hv
  exact(Array.getElem?_eq_some_iff.1 hh).1
theorem opIn_append_s {F:Fence} {n:Nat} {P:Program} {o:Oper} {a:Act} {w:World} {K:Act→World→Prop} {Q:Exit→Act→World→Prop} (t u:TypeId) (s x:Operand) (ho:o.op=.call { callee:=.builtin .append,args:=#[s,x],argTypes:=#[t,u] })
  {vs vx v':Value} {w':World} (hs:a.eval s=vs) (hx:a.eval x=vx) (hrun:(Builtin.append_ #[t,u] o.type #[vs,vx]).run P w=.ok v' w') (hK:K (a.put o.dst v') w'):o.wpIn F n P a w K Q:=by
 unfold Oper.wpIn
 refine⟨?_,?_⟩
 ·simp[Oper.about,ho,resolve,Target.leads]
 ·rw[Oper.semAt_plain F _ _ (by rw[ho];intro c hc;cases hc)]
  simp[execOp,ho,hs,hx,hrun,Result.andThen,resolve,invoke,builtin]
  exact hK
theorem listIn_append_s {F:Fence} {n:Nat} {P:Program} {ops:Array Oper} {rest:List Oper} {o:Oper} {a:Act} {w:World} {Q:Exit→Act→World→Prop} (hgd:o.guard=none) (t u:TypeId) (s x:Operand) (ho:o.op=.call { callee:=.builtin .append,args:=#[s,x],argTypes:=#[t,u] })
  {vs vx v':Value} {w':World} (hs:a.eval s=vs) (hx:a.eval x=vx) (hrun:(Builtin.append_ #[t,u] o.type #[vs,vx]).run P w=.ok v' w') (h:wpListIn F n P ops Q rest (a.put o.dst v') w'):wpListIn F n P ops Q (o::rest) a w:=
 wpListIn_plain hgd fun _ hK=>opIn_append_s t u s x ho hs hx hrun (hK _ _ h)
theorem info5:(Tryz.prog.info? 5).map (fun i=>(i.zero,i.size,i.bytes))=some (some (.int .u8 0),1,1):=by kernel_rfl
theorem info_parts {t:TypeId} {z:Value} {s b:Nat} (h:(Tryz.prog.info? t).map (fun i=>(i.zero,i.size,i.bytes))=some (some z,s,b)):∃ i,Tryz.prog.info? t=some i∧i.zero=some z∧i.size=s∧i.bytes=b:=by
 obtain⟨i,hi,h'⟩:=Option.map_eq_some_iff.1 h
 simp at h'
 exact⟨i,hi,h'.1,h'.2.1,h'.2.2⟩
theorem Kc.cell {g:Nat} {A B:World} (h:Kc g A B) {b x:Nat} {v:Value} (hb:b≠g) (hc:A.cell? ⟨b,x,none⟩=some v):B.cell? ⟨b,x,none⟩=some v:=by
 obtain⟨o,ho,hoc⟩:=cells_of_cell hc
 have e:B.heap[b]? =A.heap[b]? :=(h.2 b o hb ho hoc).trans ho.symm
 rw[←hc]
 unfold World.cell?
 simp only[e]
theorem Kc.below {g B:Nat} {X Y:World} (h:Below B X Y) (hB:X.heap.size≤B):Kc g X Y:=⟨h.size,fun j _ _ ho _=>(h.block j (Nat.lt_of_lt_of_le (Array.getElem?_eq_some_iff.1 ho).1 hB)).trans ho⟩
theorem Kc.grown {g r:Nat} {X Y Z:World} (h:Kc g X Y) (hg:Y.grownBy Z (some r)) (hr:X.heap.size≤r):Kc g X Z:=
 ⟨Nat.le_trans h.1 hg.size,fun j o hj ho hc=>(hg.block j (Nat.lt_of_lt_of_le (Array.getElem?_eq_some_iff.1 ho).1 h.1) (by have:=(Array.getElem?_eq_some_iff.1 ho).1;intro e;cases e;omega)).trans (h.2 j o hj ho hc)⟩
theorem grown_below {B r:Nat} {X Y:World} (hg:X.grownBy Y (some r)) (hr:B≤r) (hB:B≤X.heap.size):Below B X Y:=⟨hg.os,hg.tape,hg.output,hg.size,fun k hk=>hg.block k (by omega) (by intro e;cases e;omega)⟩
theorem ext_ext (s:ByteArray) (a n:Nat):(s.extract a s.size).extract n (s.extract a s.size).size=s.extract (a+n) s.size:=by
 apply ByteArray.ext
 simp[ByteArray.data_extract,Array.extract_extract]
 congr 1
 omega
def szOf:Value→Nat|.string u=>u.size|_=>0
def Yp (B0 T:Nat) (M:Nat→Int) (k:Nat) (x:Nat × Nat) (W:World):Prop:=
 B0≤x.1∧x.1<W.heap.size∧x.2≤64∧64*k+x.2≤T∧(x.2<64→64*k+x.2=T)∧∀ j,j<x.2→W.cell? ⟨x.1,j,none⟩=some (.int .u8 (M (64*k+j)))
theorem parts1_in (n:Nat) (hn:1≤n) (l b1 b2 g len cap:Nat) (o:Option Addr) (s0:ByteArray) (ts:Nat→ByteArray) (M:Nat→Int) (T:Nat) (W:World)
  (hs0:s0.size<64) (hm0:∀ j,j<s0.size→bt s0 j=M j) (hm:∀ i,i<len→∀ j,j<(ts i).size→bt (ts i) j=M (s0.size+offs ts i+j)) (hT:T=s0.size+offs ts len) (hlen:len≤1099511627776)
  (hts:∀ i,i<len→(ts i).size≤1099511627776∧∃ b off,o=some ⟨b,off,none⟩∧b≠g∧b<W.heap.size∧W.cell? ⟨b,off+i,none⟩=some (.string (ts i)))
  (h1:W.heap[b1]? =some (.cells #[.string s0] 9 (0,0))) (h2:W.heap[b2]? =some (.cells #[.slice o len cap] 36 (0,0))) (hgW:g<W.heap.size)
  (R:Nat→World→Prop) (Rx:World→Prop) (hR:∀ k A B,R k A→Below W.heap.size A B→R k B) (hRx:∀ A B,Rx A→Below W.heap.size A B→Rx B)
  (hY:∀ k x A,R k A→Yp W.heap.size T M k x A→YieldAt Fence.wide (n - 1) Tryz.prog l #[.slice (some ⟨x.1,0,none⟩) x.2 64] A fun e B=>(e=.returned (.bool true)∧R (k+1) B∧Kc g A B)∨(e=.returned (.bool false)∧Rx B))
  (h0:R 0 W):
  CallsIn Fence.wide n Tryz.prog 201 #[.func (.yield l) #[] #[],.pointer (some ⟨b1,0,none⟩),.pointer (some ⟨b2,0,none⟩)] W fun e W'=>(∃ v,e=.returned v)∧(Rx W'∨∃ k,R k W'∧T<64*k):=by
 have hmx:Tryz.prog.follows .mixedOrders=true:=by kernel_rfl
 obtain⟨i0,hi,hz0,hz1,hz2⟩:=info_parts info5
 have c1:W.cell? ⟨b1,0,none⟩=some (.string s0):=by rw[cell_of_row _ _ _ _ _ _ h1];rfl
 have HM0:Hid _:=hm0
 have HM:Hid _:=hm
 have HTS:Hid _:=hts
 have HB1:Hid _:=h1
 have HB2:Hid _:=h2
 have HR:Hid _:=hR
 have HRx:Hid _:=hRx
 have HY:Hid _:=hY
 have H0:Hid _:=h0
 have HT:Hid _:=hT
 have HL:Hid _:=hlen
 have l1:b1<W.heap.size:=(Array.getElem?_eq_some_iff.1 h1).1
 have l2:b2<W.heap.size:=(Array.getElem?_eq_some_iff.1 h2).1
 clear hm0 hm hts h1 h2 hR hRx hY h0 hT hlen
 refine callsIn_of_wp Tryz.func201 rfl trivial ?_ rfl
 simp only[Tryz.ntmps201,List.size_toArray,List.length_cons,List.length_nil,Nat.reduceAdd,Nat.reduceSub,Array.replicate_succ,Array.replicate_zero,List.push_toArray,List.append_toArray,List.nil_append,List.cons_append]
 gi_wp2
 obtain⟨Wm,hmk0,hown,hgrow⟩:=run_make_own (P:=Tryz.prog) W.drew W.heap.size 98 5 i0 (.int .u8 0) 1 Tryz.underlying98 hi hz0 hz1 .i64 .i64 64 (by rw[hz2];decide) (by decide) (Nat.le_refl _)
 have hmk:(Instr.makeSlice 98 (.int .i64 0) (.int .i64 64)).run Tryz.prog W.drew=.ok (.slice (some ⟨W.heap.size,0,none⟩) 0 64) Wm:=hmk0
 obtain⟨Wa,hrun0,hownA0,hgrowA⟩:=run_append_fits_string (P:=Tryz.prog) Wm W.heap.size 98 9 98 5 i0 Tryz.underlying98 Tryz.underlying9 hi hz1 (some ⟨W.heap.size,0,none⟩) 0 64 [] hown s0 (by decide) (by omega)
 have hrun:(Builtin.append_ #[98,9] 98 #[.slice (some ⟨W.heap.size,0,none⟩) 0 64,.string s0]).run Tryz.prog Wm=.ok (.slice (some ⟨W.heap.size,0,none⟩) s0.size 64) Wa:=by rw[hrun0,Nat.zero_add]
 have c1m:Wm.cell? ⟨b1,0,none⟩=some (.string s0):=by
  have e:Wm.heap[b1]? =some (.cells #[.string s0] 9 (0,0)):=(hgrow.block b1 l1 (by simp)).trans HB1.out
  rw[cell_of_row _ _ _ _ _ _ e];rfl
 have HA:Hid (Wa.ownsRow W.heap.size 5 1 (.slice (some ⟨W.heap.size,0,none⟩) s0.size 64) s0.size (mc M (64*0) s0.size)):=by
  have e:mc M (64*0) 0++strCells s0=mc M (64*0) (0+s0.size):=mc_app M _ _ s0 (fun j hj=>by rw[HM0.out j hj];congr 1;omega)
  rw[Nat.zero_add] at e hownA0
  rw[←e]
  exact hownA0
 have HWA:Hid (Below W.heap.size W Wa):=⟨hgrowA.os.trans hgrow.os,hgrowA.tape.trans hgrow.tape,hgrowA.output.trans hgrow.output,Nat.le_trans hgrow.size hgrowA.size,fun k hk=>(hgrowA.block k (Nat.lt_of_lt_of_le hk hgrow.size) (by simp[Value.ownBlock];omega)).trans (hgrow.block k hk (by simp))⟩
 clear hmk0 hrun0 hownA0 hgrowA hown hgrow
 refine wpIn_region_any hmx ?_
 change wpAnyIn _ _ _ _ _ _ _ _ _ (World.drew _)
 refine wpAnyIn_ready (rs:=[0,1]) (by kernel_rfl) (by simp) ?_
 refine(AllReadyIn.cons rfl (fun K hK=>?_) (AllReadyIn.cons rfl (fun K hK=>?_) AllReadyIn.nil))
 ·go_simp
  refine hK _ _ ?_
  clear hK K
  refine wpAnyIn_ready (rs:=[1]) (by kernel_rfl) (by simp) ?_
  refine(AllReadyIn.cons rfl (fun K hK=>?_) AllReadyIn.nil)
  go_simp
  refine hK _ _ ?_
  clear hK K
  refine wpAnyIn_ready (rs:=[2]) (by kernel_rfl) (by simp) ?_
  refine(AllReadyIn.cons rfl (fun K hK=>?_) AllReadyIn.nil)
  rw[if_pos (by rfl)]
  refine opIn_append_s 98 9 _ _ rfl rfl rfl hrun ?_
  refine hK _ _ ?_
  clear hK K
  refine wpAnyIn_ready (rs:=[3]) (by kernel_rfl) (by simp) ?_
  refine(AllReadyIn.cons rfl (fun K hK=>?_) AllReadyIn.nil)
  go_simp
  refine hK _ _ ?_
  clear hK K
  refine wpAnyIn_done (by kernel_rfl) ?_ _
  clear hmk hrun c1m c1
  have c2:Wa.cell? ⟨b2,0,none⟩=some (.slice o len cap):=by rw[cell_of_row _ _ _ _ _ _ ((HWA.out.block b2 l2).trans HB2.out)];rfl
  gi_wp2
  clear c2
  gi_loopw [4,13] (fun v i wr=>∃ c j k:Nat,v=.slice (some ⟨W.heap.size,0,none⟩) c 64∧i=.int .i64 (j:Int)∧j≤len∧c<64∧64*k+c=s0.size+offs ts j∧wr.ownsRow W.heap.size 5 1 (.slice (some ⟨W.heap.size,0,none⟩) c 64) c (mc M (64*k) c)∧R k wr∧Kc g W wr) (fun _ i _=>len - (intOf i).toNat)
  case atStart=>exact⟨s0.size,0,0,rfl,rfl,Nat.zero_le _,hs0,by simp[offs],HA.out,HR.out 0 W Wa H0.out HWA.out,Kc.below HWA.out (Nat.le_refl _)⟩
  case round=>
   obtain⟨c,j,k,rfl,rfl,hj,hc,hpos,hown,hRk,hkc⟩:=hrel
   have HO:Hid _:=hown
   have HRk:Hid _:=hRk
   have HKC:Hid (Kc g W wr):=hkc
   have HP:Hid _:=hpos
   clear hown hRk hkc hpos HA HWA
   by_cases hlt:j<len
   ·obtain⟨hsz,b,off,ho,hbg,hbW,hcell⟩:=HTS.out j hlt
    subst ho
    have ct:wr.cell? ⟨b,off+j,none⟩=some (.string (ts j)):=HKC.out.cell hbg hcell
    have HMj:Hid (∀ i,i<(ts j).size→bt (ts j) i=M (s0.size+offs ts j+i)):=HM.out j hlt
    have HOJ:Hid (offs ts (j+1)=offs ts j+(ts j).size):=rfl
    have HSZ:Hid _:=hsz
    clear hcell hsz
    generalize ts j=tj at*
    have g0:(0:Int)≤(j:Int):=by omega
    have g1:(j:Int)<(len:Int):=by omega
    have g2:(j:Int)≤1099511627776:=by have:=HL.out;omega
    gi_wp2
    clear ct
    gi_loopw [4,6] (fun v t' wr=>∃ c d k:Nat,v=.slice (some ⟨W.heap.size,0,none⟩) c 64∧t'=.string (tj.extract d tj.size)∧d≤tj.size∧c<64∧64*k+c=s0.size+offs ts j+d∧wr.ownsRow W.heap.size 5 1 (.slice (some ⟨W.heap.size,0,none⟩) c 64) c (mc M (64*k) c)∧R k wr∧Kc g W wr) (fun _ t' _=>szOf t')
    case atStart=>exact⟨c,0,k,rfl,by simp,Nat.zero_le _,hc,HP.out,HO.out,HRk.out,HKC.out⟩
    case round=>
     clear HO HRk HKC HP hc
     obtain⟨c,d,k,rfl,rfl,hd,hc,hpos,hown,hRk,hkc⟩:=hrel
     have HO:Hid (wr.ownsRow W.heap.size 5 1 (.slice (some ⟨W.heap.size,0,none⟩) c 64) c (mc M (64*k) c)):=hown
     have HRk:Hid (R k wr):=hRk
     have HKC:Hid (Kc g W wr):=hkc
     have HP:Hid (64*k+c=s0.size+offs ts j+d):=hpos
     clear hown hRk hkc hpos
     obtain⟨u,hu⟩:∃ u,tj.extract d tj.size=u:=⟨_,rfl⟩
     have hus:u.size=tj.size - d:=by rw[←hu];simp
     have HU:Hid (tj.extract d tj.size=u):=hu
     have HUM:Hid (∀ i,i<u.size→bt u i=M (64*k+c+i)):=fun i hi=>by
      rw[←HU.out,bt_ext _ _ _ _ (by omega),HMj.out (d+i) (by omega),HP.out];congr 1;omega
     have hum:u.size≤1099511627776:=by have:=HSZ.out;omega
     have HUS:Hid _:=hus
     rw[hu]
     clear hu hus
     have c0:(0:Int)≤(c:Int):=by omega
     have c3:(c:Int)<64:=by omega
     have hum':(u.size:Int)≤1099511627776:=by omega
     by_cases h64:64≤c+u.size
     ·have q1:(64:Int)≤(c:Int)+(u.size:Int):=by omega
      obtain⟨n1,hn1⟩:∃ n1,64 - c=n1:=⟨_,rfl⟩
      have q2:(64:Int) - (c:Int)=(n1:Int):=by omega
      have q3:n1≤u.size:=by omega
      have q4:(n1:Int)≤(u.size:Int):=by omega
      have HN1:Hid (64 - c=n1∧1≤n1):=⟨hn1,by omega⟩
      have hxs:(u.extract 0 n1).size=n1:=by simp;omega
      obtain⟨W5,hrun0,hown5,hgrow5⟩:=run_append_fits_string (P:=Tryz.prog) wr W.heap.size 98 9 98 5 i0 Tryz.underlying98 Tryz.underlying9 hi hz1 (some ⟨W.heap.size,0,none⟩) c 64 _ HO.out (u.extract 0 n1) (by decide) (by omega)
      rw[mc_app M (64*k) c _ (fun i hi=>by rw[bt_ext _ _ _ _ (by omega),Nat.zero_add];exact HUM.out i (by omega)),hxs,show c+n1=64 by omega] at hown5
      have hrun:(Builtin.append_ #[98,9] 98 #[.slice (some ⟨W.heap.size,0,none⟩) c 64,.string (u.extract 0 n1)]).run Tryz.prog wr=.ok (.slice (some ⟨W.heap.size,0,none⟩) 64 64) W5:=by rw[hrun0,hxs,show c+n1=64 by omega]
      have hR5:R k W5:=HR.out k wr W5 HRk.out (grown_below hgrow5 (Nat.le_refl _) HKC.out.1)
      have hK5:Kc g W W5:=HKC.out.grown hgrow5 (Nat.le_refl _)
      have hYp:Yp W.heap.size T M k (W.heap.size,64) W5:=⟨Nat.le_refl _,own_lt hown5,Nat.le_refl _,by
       have h1:=HP.out;have h2:=HUS.out;have h3:=offs_mono ts hlt;have h4:=HOJ.out;have h5:=HT.out
       have h6:=offs_mono ts (show j+1≤len from hlt)
       show 64*k+64≤T
       omega,fun h=>absurd h (Nat.lt_irrefl 64),fun i hi=>own_cell hown5 (mc_get _ _ _ _ hi)⟩
      obtain⟨fn,tmps,assign,body,hy,hRd⟩:=HY.out k (W.heap.size,64) W5 hR5 hYp
      have HO5:Hid (W5.ownsRow W.heap.size 5 1 (.slice (some ⟨W.heap.size,0,none⟩) 64 64) 64 (mc M (64*k) 64)):=hown5
      have HK5:Hid (Kc g W W5):=hK5
      clear hrun0 hown5 hgrow5 hR5 hK5 hYp hxs hn1
      gi_wp2_with (gi_at_builtin;refine listIn_append_s rfl 98 9 (.tmp 27) (.tmp 30) rfl (vs:=.slice (some ⟨W.heap.size,0,none⟩) c 64) (vx:=.string (u.extract 0 n1)) rfl rfl hrun ?_)
      refine hRd.mono ?_
      rintro e W6 (⟨rfl,hR6,hk6⟩|⟨rfl,hx6⟩)
      ·clear hRd hy hrun
       have HR6:Hid (R (k+1) W6):=hR6
       have HK6:Hid (Kc g W5 W6):=hk6
       clear hR6 hk6
       gi_wp2
       refine wpIn_region_any hmx ?_
       change wpAnyIn _ _ _ _ _ _ _ _ _ (World.drew _)
       refine wpAnyIn_take (i:=0) (v:=?_) rfl rfl (by kernel_rfl) (by kernel_rfl) (by kernel_rfl) (fun _ _ _ h=>h) ⟨Or.inl ⟨by rfl,?_⟩,fun _=>rfl⟩ ?_
       rotate_left
       ·intro w
        go_simp
        try with_reducible rfl
       refine wpAnyIn_take (i:=1) (v:=?_) rfl rfl (by kernel_rfl) (by kernel_rfl) (by kernel_rfl) (fun _ _ _ h=>h) ⟨Or.inl ⟨by rfl,?_⟩,fun _=>rfl⟩ ?_
       rotate_left
       ·intro w
        go_simp
        try with_reducible rfl
       refine wpAnyIn_take (i:=2) (v:=?_) rfl rfl (by kernel_rfl) (by kernel_rfl) (by kernel_rfl) (fun _ _ _ h=>h) ⟨Or.inl ⟨by rfl,?_⟩,fun _=>rfl⟩ ?_
       rotate_left
       ·intro w
        go_simp
        try with_reducible rfl
       refine wpAnyIn_take (i:=3) (v:=?_) rfl rfl (by kernel_rfl) (by kernel_rfl) (by kernel_rfl) (fun _ _ _ h=>h) ⟨Or.inl ⟨by rfl,?_⟩,fun _=>rfl⟩ ?_
       rotate_left
       ·intro w
        go_simp
        try with_reducible rfl
       refine wpAnyIn_take (i:=4) (v:=?_) rfl rfl (by kernel_rfl) (by kernel_rfl) (by kernel_rfl) (fun _ _ _ h=>h) ⟨Or.inl ⟨by rfl,?_⟩,fun _=>rfl⟩ ?_
       rotate_left
       ·intro w
        go_simp
        try with_reducible rfl
       refine wpAnyIn_ready (rs:=[5]) (by kernel_rfl) (by simp) ?_
       refine(AllReadyIn.cons rfl (fun K hK=>?_) AllReadyIn.nil)
       go_simp
       refine hK _ _ ?_
       clear hK K
       refine wpAnyIn_ready (rs:=[6]) (by kernel_rfl) (by simp) ?_
       refine(AllReadyIn.cons rfl (fun K hK=>?_) AllReadyIn.nil)
       go_simp
       refine hK _ _ ?_
       clear hK K
       refine wpAnyIn_done (by kernel_rfl) ?_ _
       gi_wp2
       go_roundw
       case rel=>
        refine⟨0,d+n1,k+1,rfl,?_,?_,by decide,?_,?_,?_,?_⟩
        ·rw[←HU.out,ext_ext]
        ·have:=HUS.out;omega
        ·have:=HP.out;have:=HN1.out.1;omega
        ·exact(own_zero (HK6.out.own HO5.out (by omega)):W6.ownsRow _ _ _ _ _ _)
        ·exact HR.out _ W6 _ HR6.out (Below.refl _ W6).drew
        ·exact(HK5.out.trans HK6.out)
       case measure=>simp[szOf];have:=HN1.out.2;omega
      ·gi_wp2
       refine bodyPost_ret (results_none rfl _ _ _) rfl ?_
       exact⟨⟨_,rfl⟩,.inl hx6⟩
     ·have q1:¬(64:Int)≤(c:Int)+(u.size:Int):=by omega
      obtain⟨W5,hrun,hown5,hgrow5⟩:=run_append_fits_string (P:=Tryz.prog) wr W.heap.size 98 9 98 5 i0 Tryz.underlying98 Tryz.underlying9 hi hz1 (some ⟨W.heap.size,0,none⟩) c 64 _ HO.out u (by decide) (by omega)
      rw[mc_app M (64*k) c u HUM.out] at hown5
      have HO5:Hid (W5.ownsRow W.heap.size 5 1 (.slice (some ⟨W.heap.size,0,none⟩) (c+u.size) 64) (c+u.size) (mc M (64*k) (c+u.size))):=hown5
      have HR5:Hid (R k W5):=HR.out k wr W5 HRk.out (grown_below hgrow5 (Nat.le_refl _) HKC.out.1)
      have HK5:Hid (Kc g W W5):=HKC.out.grown hgrow5 (Nat.le_refl _)
      clear hown5 hgrow5
      gi_wp2_with (gi_at_builtin;refine listIn_append_s rfl 98 9 (.tmp 39) (.tmp 40) rfl (vs:=.slice (some ⟨W.heap.size,0,none⟩) c 64) (vx:=.string u) rfl rfl hrun ?_)
      go_roundw
      case rel=>exact⟨c+u.size,j+1,k,rfl,by go_num,hlt,by omega,by rw[HOJ.out];have:=HP.out;have:=HUS.out;omega,HO5.out,HR5.out,HK5.out⟩
      case measure=>simp[intOf];omega
   ·obtain rfl:j=len:=by omega
    have hYp:Yp W.heap.size T M k (W.heap.size,c) wr:=⟨Nat.le_refl _,own_lt HO.out,Nat.le_of_lt hc,by have:=HP.out;have:=HT.out;show 64*k+c≤T;omega,fun _=>by have:=HP.out;have:=HT.out;show 64*k+c=T;omega,fun i hi=>own_cell HO.out (mc_get _ _ _ _ hi)⟩
    obtain⟨fn,tmps,assign,body,hy,hRd⟩:=HY.out k (W.heap.size,c) wr HRk.out hYp
    have hTk:T<64*(k+1):=by have:=HP.out;have:=HT.out;omega
    clear hYp
    gi_wp2
    refine hRd.mono ?_
    rintro e W6 (⟨rfl,hR6,hk6⟩|⟨rfl,hx6⟩)
    ·gi_wp2
     go_end0
     exact⟨⟨_,rfl⟩,.inr ⟨k+1,hR6,hTk⟩⟩
    ·gi_wp2
     go_end0
     exact⟨⟨_,rfl⟩,.inl hx6⟩
 ·go_simp
  refine hK _ _ ?_
  clear hK K
  refine wpAnyIn_ready (rs:=[0]) (by kernel_rfl) (by simp) ?_
  refine(AllReadyIn.cons rfl (fun K hK=>?_) AllReadyIn.nil)
  go_simp
  refine hK _ _ ?_
  clear hK K
  refine wpAnyIn_ready (rs:=[2]) (by kernel_rfl) (by simp) ?_
  refine(AllReadyIn.cons rfl (fun K hK=>?_) AllReadyIn.nil)
  rw[if_pos (by rfl)]
  refine opIn_append_s 98 9 _ _ rfl rfl rfl hrun ?_
  refine hK _ _ ?_
  clear hK K
  refine wpAnyIn_ready (rs:=[3]) (by kernel_rfl) (by simp) ?_
  refine(AllReadyIn.cons rfl (fun K hK=>?_) AllReadyIn.nil)
  go_simp
  refine hK _ _ ?_
  clear hK K
  refine wpAnyIn_done (by kernel_rfl) ?_ _
  clear hmk hrun c1m c1
  have c2:Wa.cell? ⟨b2,0,none⟩=some (.slice o len cap):=by rw[cell_of_row _ _ _ _ _ _ ((HWA.out.block b2 l2).trans HB2.out)];rfl
  gi_wp2
  clear c2
  gi_loopw [4,13] (fun v i wr=>∃ c j k:Nat,v=.slice (some ⟨W.heap.size,0,none⟩) c 64∧i=.int .i64 (j:Int)∧j≤len∧c<64∧64*k+c=s0.size+offs ts j∧wr.ownsRow W.heap.size 5 1 (.slice (some ⟨W.heap.size,0,none⟩) c 64) c (mc M (64*k) c)∧R k wr∧Kc g W wr) (fun _ i _=>len - (intOf i).toNat)
  case atStart=>exact⟨s0.size,0,0,rfl,rfl,Nat.zero_le _,hs0,by simp[offs],HA.out,HR.out 0 W Wa H0.out HWA.out,Kc.below HWA.out (Nat.le_refl _)⟩
  case round=>
   obtain⟨c,j,k,rfl,rfl,hj,hc,hpos,hown,hRk,hkc⟩:=hrel
   have HO:Hid _:=hown
   have HRk:Hid _:=hRk
   have HKC:Hid (Kc g W wr):=hkc
   have HP:Hid _:=hpos
   clear hown hRk hkc hpos HA HWA
   by_cases hlt:j<len
   ·obtain⟨hsz,b,off,ho,hbg,hbW,hcell⟩:=HTS.out j hlt
    subst ho
    have ct:wr.cell? ⟨b,off+j,none⟩=some (.string (ts j)):=HKC.out.cell hbg hcell
    have HMj:Hid (∀ i,i<(ts j).size→bt (ts j) i=M (s0.size+offs ts j+i)):=HM.out j hlt
    have HOJ:Hid (offs ts (j+1)=offs ts j+(ts j).size):=rfl
    have HSZ:Hid _:=hsz
    clear hcell hsz
    generalize ts j=tj at*
    have g0:(0:Int)≤(j:Int):=by omega
    have g1:(j:Int)<(len:Int):=by omega
    have g2:(j:Int)≤1099511627776:=by have:=HL.out;omega
    gi_wp2
    clear ct
    gi_loopw [4,6] (fun v t' wr=>∃ c d k:Nat,v=.slice (some ⟨W.heap.size,0,none⟩) c 64∧t'=.string (tj.extract d tj.size)∧d≤tj.size∧c<64∧64*k+c=s0.size+offs ts j+d∧wr.ownsRow W.heap.size 5 1 (.slice (some ⟨W.heap.size,0,none⟩) c 64) c (mc M (64*k) c)∧R k wr∧Kc g W wr) (fun _ t' _=>szOf t')
    case atStart=>exact⟨c,0,k,rfl,by simp,Nat.zero_le _,hc,HP.out,HO.out,HRk.out,HKC.out⟩
    case round=>
     clear HO HRk HKC HP hc
     obtain⟨c,d,k,rfl,rfl,hd,hc,hpos,hown,hRk,hkc⟩:=hrel
     have HO:Hid (wr.ownsRow W.heap.size 5 1 (.slice (some ⟨W.heap.size,0,none⟩) c 64) c (mc M (64*k) c)):=hown
     have HRk:Hid (R k wr):=hRk
     have HKC:Hid (Kc g W wr):=hkc
     have HP:Hid (64*k+c=s0.size+offs ts j+d):=hpos
     clear hown hRk hkc hpos
     obtain⟨u,hu⟩:∃ u,tj.extract d tj.size=u:=⟨_,rfl⟩
     have hus:u.size=tj.size - d:=by rw[←hu];simp
     have HU:Hid (tj.extract d tj.size=u):=hu
     have HUM:Hid (∀ i,i<u.size→bt u i=M (64*k+c+i)):=fun i hi=>by
      rw[←HU.out,bt_ext _ _ _ _ (by omega),HMj.out (d+i) (by omega),HP.out];congr 1;omega
     have hum:u.size≤1099511627776:=by have:=HSZ.out;omega
     have HUS:Hid _:=hus
     rw[hu]
     clear hu hus
     have c0:(0:Int)≤(c:Int):=by omega
     have c3:(c:Int)<64:=by omega
     have hum':(u.size:Int)≤1099511627776:=by omega
     by_cases h64:64≤c+u.size
     ·have q1:(64:Int)≤(c:Int)+(u.size:Int):=by omega
      obtain⟨n1,hn1⟩:∃ n1,64 - c=n1:=⟨_,rfl⟩
      have q2:(64:Int) - (c:Int)=(n1:Int):=by omega
      have q3:n1≤u.size:=by omega
      have q4:(n1:Int)≤(u.size:Int):=by omega
      have HN1:Hid (64 - c=n1∧1≤n1):=⟨hn1,by omega⟩
      have hxs:(u.extract 0 n1).size=n1:=by simp;omega
      obtain⟨W5,hrun0,hown5,hgrow5⟩:=run_append_fits_string (P:=Tryz.prog) wr W.heap.size 98 9 98 5 i0 Tryz.underlying98 Tryz.underlying9 hi hz1 (some ⟨W.heap.size,0,none⟩) c 64 _ HO.out (u.extract 0 n1) (by decide) (by omega)
      rw[mc_app M (64*k) c _ (fun i hi=>by rw[bt_ext _ _ _ _ (by omega),Nat.zero_add];exact HUM.out i (by omega)),hxs,show c+n1=64 by omega] at hown5
      have hrun:(Builtin.append_ #[98,9] 98 #[.slice (some ⟨W.heap.size,0,none⟩) c 64,.string (u.extract 0 n1)]).run Tryz.prog wr=.ok (.slice (some ⟨W.heap.size,0,none⟩) 64 64) W5:=by rw[hrun0,hxs,show c+n1=64 by omega]
      have hR5:R k W5:=HR.out k wr W5 HRk.out (grown_below hgrow5 (Nat.le_refl _) HKC.out.1)
      have hK5:Kc g W W5:=HKC.out.grown hgrow5 (Nat.le_refl _)
      have hYp:Yp W.heap.size T M k (W.heap.size,64) W5:=⟨Nat.le_refl _,own_lt hown5,Nat.le_refl _,by
       have h1:=HP.out;have h2:=HUS.out;have h3:=offs_mono ts hlt;have h4:=HOJ.out;have h5:=HT.out
       have h6:=offs_mono ts (show j+1≤len from hlt)
       show 64*k+64≤T
       omega,fun h=>absurd h (Nat.lt_irrefl 64),fun i hi=>own_cell hown5 (mc_get _ _ _ _ hi)⟩
      obtain⟨fn,tmps,assign,body,hy,hRd⟩:=HY.out k (W.heap.size,64) W5 hR5 hYp
      have HO5:Hid (W5.ownsRow W.heap.size 5 1 (.slice (some ⟨W.heap.size,0,none⟩) 64 64) 64 (mc M (64*k) 64)):=hown5
      have HK5:Hid (Kc g W W5):=hK5
      clear hrun0 hown5 hgrow5 hR5 hK5 hYp hxs hn1
      gi_wp2_with (gi_at_builtin;refine listIn_append_s rfl 98 9 (.tmp 27) (.tmp 30) rfl (vs:=.slice (some ⟨W.heap.size,0,none⟩) c 64) (vx:=.string (u.extract 0 n1)) rfl rfl hrun ?_)
      refine hRd.mono ?_
      rintro e W6 (⟨rfl,hR6,hk6⟩|⟨rfl,hx6⟩)
      ·clear hRd hy hrun
       have HR6:Hid (R (k+1) W6):=hR6
       have HK6:Hid (Kc g W5 W6):=hk6
       clear hR6 hk6
       gi_wp2
       refine wpIn_region_any hmx ?_
       change wpAnyIn _ _ _ _ _ _ _ _ _ (World.drew _)
       refine wpAnyIn_take (i:=0) (v:=?_) rfl rfl (by kernel_rfl) (by kernel_rfl) (by kernel_rfl) (fun _ _ _ h=>h) ⟨Or.inl ⟨by rfl,?_⟩,fun _=>rfl⟩ ?_
       rotate_left
       ·intro w
        go_simp
        try with_reducible rfl
       refine wpAnyIn_take (i:=1) (v:=?_) rfl rfl (by kernel_rfl) (by kernel_rfl) (by kernel_rfl) (fun _ _ _ h=>h) ⟨Or.inl ⟨by rfl,?_⟩,fun _=>rfl⟩ ?_
       rotate_left
       ·intro w
        go_simp
        try with_reducible rfl
       refine wpAnyIn_take (i:=2) (v:=?_) rfl rfl (by kernel_rfl) (by kernel_rfl) (by kernel_rfl) (fun _ _ _ h=>h) ⟨Or.inl ⟨by rfl,?_⟩,fun _=>rfl⟩ ?_
       rotate_left
       ·intro w
        go_simp
        try with_reducible rfl
       refine wpAnyIn_take (i:=3) (v:=?_) rfl rfl (by kernel_rfl) (by kernel_rfl) (by kernel_rfl) (fun _ _ _ h=>h) ⟨Or.inl ⟨by rfl,?_⟩,fun _=>rfl⟩ ?_
       rotate_left
       ·intro w
        go_simp
        try with_reducible rfl
       refine wpAnyIn_take (i:=4) (v:=?_) rfl rfl (by kernel_rfl) (by kernel_rfl) (by kernel_rfl) (fun _ _ _ h=>h) ⟨Or.inl ⟨by rfl,?_⟩,fun _=>rfl⟩ ?_
       rotate_left
       ·intro w
        go_simp
        try with_reducible rfl
       refine wpAnyIn_ready (rs:=[5]) (by kernel_rfl) (by simp) ?_
       refine(AllReadyIn.cons rfl (fun K hK=>?_) AllReadyIn.nil)
       go_simp
       refine hK _ _ ?_
       clear hK K
       refine wpAnyIn_ready (rs:=[6]) (by kernel_rfl) (by simp) ?_
       refine(AllReadyIn.cons rfl (fun K hK=>?_) AllReadyIn.nil)
       go_simp
       refine hK _ _ ?_
       clear hK K
       refine wpAnyIn_done (by kernel_rfl) ?_ _
       gi_wp2
       go_roundw
       case rel=>
        refine⟨0,d+n1,k+1,rfl,?_,?_,by decide,?_,?_,?_,?_⟩
        ·rw[←HU.out,ext_ext]
        ·have:=HUS.out;omega
        ·have:=HP.out;have:=HN1.out.1;omega
        ·exact(own_zero (HK6.out.own HO5.out (by omega)):W6.ownsRow _ _ _ _ _ _)
        ·exact HR.out _ W6 _ HR6.out (Below.refl _ W6).drew
        ·exact(HK5.out.trans HK6.out)
       case measure=>simp[szOf];have:=HN1.out.2;omega
      ·gi_wp2
       refine bodyPost_ret (results_none rfl _ _ _) rfl ?_
       exact⟨⟨_,rfl⟩,.inl hx6⟩
     ·have q1:¬(64:Int)≤(c:Int)+(u.size:Int):=by omega
      obtain⟨W5,hrun,hown5,hgrow5⟩:=run_append_fits_string (P:=Tryz.prog) wr W.heap.size 98 9 98 5 i0 Tryz.underlying98 Tryz.underlying9 hi hz1 (some ⟨W.heap.size,0,none⟩) c 64 _ HO.out u (by decide) (by omega)
      rw[mc_app M (64*k) c u HUM.out] at hown5
      have HO5:Hid (W5.ownsRow W.heap.size 5 1 (.slice (some ⟨W.heap.size,0,none⟩) (c+u.size) 64) (c+u.size) (mc M (64*k) (c+u.size))):=hown5
      have HR5:Hid (R k W5):=HR.out k wr W5 HRk.out (grown_below hgrow5 (Nat.le_refl _) HKC.out.1)
      have HK5:Hid (Kc g W W5):=HKC.out.grown hgrow5 (Nat.le_refl _)
      clear hown5 hgrow5
      gi_wp2_with (gi_at_builtin;refine listIn_append_s rfl 98 9 (.tmp 39) (.tmp 40) rfl (vs:=.slice (some ⟨W.heap.size,0,none⟩) c 64) (vx:=.string u) rfl rfl hrun ?_)
      go_roundw
      case rel=>exact⟨c+u.size,j+1,k,rfl,by go_num,hlt,by omega,by rw[HOJ.out];have:=HP.out;have:=HUS.out;omega,HO5.out,HR5.out,HK5.out⟩
      case measure=>simp[intOf];omega
   ·obtain rfl:j=len:=by omega
    have hYp:Yp W.heap.size T M k (W.heap.size,c) wr:=⟨Nat.le_refl _,own_lt HO.out,Nat.le_of_lt hc,by have:=HP.out;have:=HT.out;show 64*k+c≤T;omega,fun _=>by have:=HP.out;have:=HT.out;show 64*k+c=T;omega,fun i hi=>own_cell HO.out (mc_get _ _ _ _ hi)⟩
    obtain⟨fn,tmps,assign,body,hy,hRd⟩:=HY.out k (W.heap.size,c) wr HRk.out hYp
    have hTk:T<64*(k+1):=by have:=HP.out;have:=HT.out;omega
    clear hYp
    gi_wp2
    refine hRd.mono ?_
    rintro e W6 (⟨rfl,hR6,hk6⟩|⟨rfl,hx6⟩)
    ·gi_wp2
     go_end0
     exact⟨⟨_,rfl⟩,.inr ⟨k+1,hR6,hTk⟩⟩
    ·gi_wp2
     go_end0
     exact⟨⟨_,rfl⟩,.inl hx6⟩
end Go.Proofs.YtfaflomephjkgaaGreatDoor
namespace Go.Proofs.YtfaflomephjkgaaGreatDoor
open Go.RowKit Go.Shelf Go.Lib
attribute [local go_sem] Oper.semAt_some
def hs (Kt iv m:Nat→Int):Nat→Nat→Int
 |0=>iv
 |k+1=>chg Kt (hs Kt iv m k) (fun j=>m (64*k+j))
def rst (r:Nat→Int) (m:Nat→Int) (a c:Nat):Nat→Int:=fun j=>if j<c then m (a+j) else r j
theorem sm_copy (f r:Nat→Int) (n:Int) (m:Nat→Int) (a c:Nat) (hc:c≤64):
  ((sm f r n).toList.take 8++mc m a c++(sm f r n).toList.drop (8+c)).toArray=sm f (rst r m a c) n:=by
 have hl:(mc m a c).length=c:=mc_length _ _ _
 have ht:((sm f r n).toList.take 8).length=8:=by simp[sm_size]
 apply Array.ext_getElem?
 intro i
 rw[List.getElem?_toArray,List.append_assoc]
 by_cases h1:i<8
 ·rw[List.getElem?_append_left (by omega),List.getElem?_take_of_lt h1,Array.getElem?_toList,sm_f _ _ _ _ h1,sm_f _ _ _ _ h1]
 ·obtain⟨j,rfl⟩:∃ j,i=8+j:=⟨i - 8,by omega⟩
  rw[List.getElem?_append_right (by omega),ht,show 8+j - 8=j by omega]
  by_cases h2:j<c
  ·rw[List.getElem?_append_left (by omega),mc_get _ _ _ _ h2,sm_r _ _ _ _ (by omega)]
   simp[rst,h2]
  ·rw[List.getElem?_append_right (by omega),hl,List.getElem?_drop,Array.getElem?_toList,show 8+c+(j - c)=8+j by omega]
   by_cases h3:j<64
   ·rw[sm_r _ _ _ _ h3,sm_r _ _ _ _ h3]
    simp[rst,h2]
   ·by_cases h4:j=64
    ·subst h4;rw[show 8+64=72 from rfl,sm_c,sm_c]
    ·rw[Array.getElem?_eq_none (by rw[sm_size];omega),Array.getElem?_eq_none (by rw[sm_size];omega)]
def Told (Kt iv m:Nat→Int) (W:World) (g L:Nat):Prop:=
 ∃ r,W.heap[g]? =some (.cells (sm (hs Kt iv m (L/64)) r (L:Int)) 222 (0,0))∧∀ j,j<L%64→r j=m (64*(L/64)+j)
theorem parts_in (n:Nat) (s0:ByteArray) (o:Option Addr) (len cap:Nat) (w:World):
  CallsIn Fence.wide n Tryz.prog 182 #[.string s0,.slice o len cap] w fun e w'=>e=.returned (.func (.func 201) #[] #[.pointer (some ⟨w.heap.size,0,none⟩),.pointer (some ⟨w.heap.size+1,0,none⟩)])∧w'=(w.alloc (.cells #[.string s0] 9)).alloc (.cells #[.slice o len cap] 36):=by
 refine callsIn_of_wp Tryz.func182 rfl trivial ?_ rfl
 simp only[Tryz.ntmps182,List.size_toArray,List.length_cons,List.length_nil,Nat.reduceAdd,Nat.reduceSub,Array.replicate_succ,Array.replicate_zero,List.push_toArray,List.append_toArray,List.nil_append,List.cons_append]
 gi_wp2
 go_ret
 exact⟨rfl,rfl⟩
theorem smset_c (w:World) (g:Nat) (f r:Nat→Int) (c x:Int) (hg:w.heap[g]? =some (.cells (sm f r c) 222 (0,0))):
  (w.setCell ⟨g,72,none⟩ (.int .i64 x)).heap[g]? =some (.cells (sm f r x) 222 (0,0)):=by
 rw[heap_setCell_same w g 72 _ _ _ hg,sm_set_c]
theorem cell_same {A B:World} {b:Nat} (h:B.heap[b]? =A.heap[b]?) (x:Nat):B.cell? ⟨b,x,none⟩=A.cell? ⟨b,x,none⟩:=by
 unfold World.cell?
 simp only[h]
theorem Yp_put {B0 T:Nat} {M:Nat→Int} {k:Nat} {x:Nat × Nat} {W:World} {l:Nat} (o:Obj) (h:Yp B0 T M k x W) (hl:l<B0):Yp B0 T M k x (W.putObj l o):=by
 obtain⟨h1,h2,h3,h4,h5,h6⟩:=h
 exact⟨h1,by simpa [World.putObj] using h2,h3,h4,h5,fun j hj=>(cell_same (World.putObj_heap_other (by omega)) j).trans (h6 j hj)⟩
theorem gb_below {B:Nat} {w W W':World} {r:Option Nat} (h:w.grownBy W r) (hb:Below B W W') (hB:w.heap.size≤B):w.grownBy W' r:=
 ⟨hb.os.trans h.os,hb.tape.trans h.tape,hb.output.trans h.output,Nat.le_trans h.size hb.size,fun k hk hne=>(hb.block k (by omega)).trans (h.block k hk hne)⟩
theorem Kc.of_grown {g:Nat} {A B:World} (h:A.grownBy B (some g)):Kc g A B:=⟨h.size,fun j _ hj ho _=>(h.block j (Array.getElem?_eq_some_iff.1 ho).1 (by intro e;cases e;exact hj rfl)).trans ho⟩
def wait (m:Nat→Int) (L:Nat):ByteArray:=strOfNums (upto (fun j=>m (64*(L/64)+j)) (L%64))
theorem wait_size (m:Nat→Int) (L:Nat):(wait m L).size=L%64:=by unfold wait;rw[strOfNums_size,upto_length]
theorem bt_wait (m:Nat→Int) (hm:∀ j,0≤m j∧m j<256) (L j:Nat) (hj:j<L%64):bt (wait m L) j=m (64*(L/64)+j):=by
 have:=hm (64*(L/64)+j)
 unfold wait bt strOfNums
 simp only[List.getElem?_toArray,List.getElem?_map,upto,List.getElem?_range hj,Option.map_some,Option.getD_some]
 rw[UInt8.toNat_ofNat']
 omega
theorem wait_conv {w:World} {g:Nat} {m:Nat→Int} {L:Nat} {r:Nat→Int} {n:Int} {f:Nat→Int} (h:w.heap[g]? =some (.cells (sm f r n) 222 (0,0))) (hr:∀ j,j<L%64→r j=m (64*(L/64)+j)):
  (convert 98 9 (.slice (some ⟨g,8,none⟩) (L%64) 64)).run Tryz.prog w=.ok (.string (wait m L)) w:=by
 refine run_convert_bytes_arg w 98 5 Tryz.underlying98 Tryz.underlying5 g 8 (L%64) 64 (upto (fun j=>m (64*(L/64)+j)) (L%64)) (by rw[upto_length]) (fun i hi=>?_) 9 Tryz.underlying9
 rw[cell_of_row _ _ _ _ _ _ h,sm_r _ _ _ _ (by omega),hr i hi]
 simp[upto,List.getD,hi]
theorem lay_in (Kt iv m:Nat→Int) (hm:∀ j,0≤m j∧m j<256) (g L len cap:Nat) (o:Option Addr) (ts:Nat→ByteArray) (w:World) {tt:TypeId} {fr:Nat × Nat} (hK:w.heap[3]? =some (.cells (w64 Kt) tt fr)) (hg1:g≠3)
  (hL:L+offs ts len≤1099511627776) (hlen:len≤1099511627776) (ht:Told Kt iv m w g L)
  (hts:∀ i,i<len→(∃ b off,o=some ⟨b,off,none⟩∧b≠g∧b<w.heap.size∧w.cell? ⟨b,off+i,none⟩=some (.string (ts i)))∧∀ j,j<(ts i).size→bt (ts i) j=m (L+offs ts i+j)):
  CallsIn Fence.wide 5 Tryz.prog 168 #[.pointer (some ⟨g,0,none⟩),.slice o len cap] w fun e w'=>e=.returned (.tuple #[])∧Told Kt iv m w' g (L+offs ts len)∧w.grownBy w' (some g):=by
 obtain⟨r,hg,hr⟩:=ht
 have hgl:g<w.heap.size:=(Array.getElem?_eq_some_iff.1 hg).1
 have h1l:3<w.heap.size:=(Array.getElem?_eq_some_iff.1 hK).1
 refine callsIn_of_wp_marks Tryz.func168 rfl trivial ?_ rfl
 simp only[Tryz.ntmps168,List.size_toArray,List.length_cons,List.length_nil,Nat.reduceAdd,Nat.reduceSub,Array.replicate_succ,Array.replicate_zero,List.push_toArray,List.append_toArray,List.nil_append,List.cons_append]
 have HG:Hid _:=hg
 have HK:Hid _:=hK
 have HTS:Hid _:=hts
 have HR:Hid _:=hr
 have HLL:Hid _:=hL
 have HM:Hid _:=hm
 have L1:(L:Int)≤1099511627776:=by omega
 have L0:(0:Int)≤(L:Int):=by omega
 clear hg hK hts hr hL hm
 gi_wp2
 obtain⟨w0,hw0⟩:∃ w0,w.alloc (.cells #[.pointer (some ⟨g,0,none⟩)] 203)=w0:=⟨_,rfl⟩
 have hb0:Below w.heap.size w w0:=by rw[←hw0];exact(Below.refl _ w).alloc (Nat.le_refl _) _
 have G0:Hid (w0.heap[g]? =some (.cells (sm (hs Kt iv m (L/64)) r (L:Int)) 222 (0,0))):=(hb0.block g hgl).trans HG.out
 have X0:Hid (w0.heap[w.heap.size]? =some (.cells #[.pointer (some ⟨g,0,none⟩)] 203 (0,0))):=by rw[←hw0];exact heap_alloc_new w _
 have cb:w0.cell? ⟨w.heap.size,0,none⟩=some (.pointer (some ⟨g,0,none⟩)):=by rw[cell_of_row _ _ _ _ _ _ X0.out];rfl
 have cc:w0.cell? ⟨g,72,none⟩=some (.int .i64 (L:Int)):=by rw[cell_of_row _ _ _ _ _ _ G0.out,sm_c]
 obtain⟨a0,ha0⟩:∃ a0,L%64=a0:=⟨_,rfl⟩
 have hcv:∀ n,(convert 98 9 (.slice (some ⟨g,8,none⟩) a0 64)).run Tryz.prog (w0.drewN n)=.ok (.string (wait m L)) (w0.drewN n):=fun n=>by
  rw[←ha0];exact wait_conv (w:=w0.drewN n) G0.out HR.out
 have t0:(L:Int).tmod 64=(a0:Int):=by rw[Int.tmod_eq_emod_of_nonneg L0];omega
 have t1:(L:Int)%64=(a0:Int):=by omega
 have t2:a0≤64:=by omega
 have t3:(a0:Int)≤64:=by omega
 have HA0:Hid (L%64=a0):=ha0
 clear ha0
 rw[hw0]
 refine(wpIn_wide (n:=5)).2 (wp_scope_straight ((wpIn_wide (n:=5)).1 ?_))
 gi_wp2
 gi_quiet (fail)
 obtain⟨w1,hw1⟩:∃ w1,w0.drewN nq=w1:=⟨_,rfl⟩
 have hb1:Below w.heap.size w w1:=by rw[←hw1];exact below_drewN hb0 _
 have G1:Hid (w1.heap[g]? =some (.cells (sm (hs Kt iv m (L/64)) r (L:Int)) 222 (0,0))):=by rw[←hw1];exact G0.out
 have X1:Hid (w1.heap[w.heap.size]? =some (.cells #[.pointer (some ⟨g,0,none⟩)] 203 (0,0))):=by rw[←hw1];exact X0.out
 have B1:Hid _:=hb1
 rw[hw1]
 clear hw1 hw0 hb0 hb1 hcv cb cc t0 t1 t3 t2 G0 X0 HG
 gi_wp2
 gi_loopw [20] (fun i wr=>∃ j:Nat,j≤len∧i=.int .i64 (j:Int)∧wr.heap[g]? =some (.cells (sm (hs Kt iv m (L/64)) r ((L+offs ts j:Nat):Int)) 222 (0,0))∧wr.heap[w.heap.size]? =some (.cells #[.pointer (some ⟨g,0,none⟩)] 203 (0,0))∧w.grownBy wr (some g)) (fun i _=>len - (intOf i).toNat)
 case atStart=>exact⟨0,Nat.zero_le _,rfl,G1.out,X1.out,⟨B1.out.os,B1.out.tape,B1.out.output,B1.out.size,fun k hk _=>B1.out.block k hk⟩⟩
 case round=>
  clear G1 X1 B1
  obtain⟨j,hj,rfl,hg,hx,hgr⟩:=hrel
  have G1:Hid (wr.heap[g]? =some (.cells (sm (hs Kt iv m (L/64)) r ((L+offs ts j:Nat):Int)) 222 (0,0))):=hg
  have X1:Hid (wr.heap[w.heap.size]? =some (.cells #[.pointer (some ⟨g,0,none⟩)] 203 (0,0))):=hx
  have GR:Hid (w.grownBy wr (some g)):=hgr
  clear hg hx hgr
  have g0:(0:Int)≤(j:Int):=by omega
  have g2:(j:Int)≤1099511627776:=by omega
  by_cases hlt:j<len
  ·obtain⟨⟨b,off,ho,hbg,hbW,hcell⟩,_⟩:=HTS.out j hlt
   subst ho
   have ct:wr.cell? ⟨b,off+j,none⟩=some (.string (ts j)):=(cell_same (GR.out.block b hbW (by intro e;cases e;exact hbg rfl)) _).trans hcell
   obtain⟨q,hq⟩:∃ q,L+offs ts j=q:=⟨_,rfl⟩
   have HQ:Hid (L+offs ts j=q):=hq
   have hq1:q+(ts j).size≤1099511627776:=by
    have h1:=HLL.out;have h2:=offs_mono ts (show j+1≤len from hlt)
    have h3:offs ts (j+1)=offs ts j+(ts j).size:=rfl
    omega
   have hq2:(q:Int)+((ts j).size:Int)≤1099511627776:=by omega
   have cb:wr.cell? ⟨w.heap.size,0,none⟩=some (.pointer (some ⟨g,0,none⟩)):=by rw[cell_of_row _ _ _ _ _ _ X1.out];rfl
   have cc:wr.cell? ⟨g,72,none⟩=some (.int .i64 (q:Int)):=by rw[cell_of_row _ _ _ _ _ _ G1.out,sm_c,hq]
   have cz:=frozen_of_row wr g 72 _ _ G1.out
   have g1:(j:Int)<(len:Int):=by omega
   clear hcell hq
   obtain⟨tj,htj⟩:∃ tj,ts j=tj:=⟨_,rfl⟩
   have HTJ:Hid (ts j=tj):=htj
   rw[htj] at ct hq1 hq2
   clear htj
   gi_wp2
   have hne:w.heap.size≠g:=by omega
   exact⟨⟨j+1,hlt,by go_num,by rw[show L+offs ts (j+1)=q+tj.size by rw[←HQ.out,←HTJ.out];show L+(offs ts j+(ts j).size)=_;omega];exact smset_c _ _ _ _ _ _ G1.out,(Below.heap_setCell _ _ _ _ hne).trans X1.out,gb_trans GR.out (gb_set _ _ _ _)⟩,by simp[intOf];omega⟩
  ·have hjl:j=len:=by omega
   rw[hjl] at G1
   rw[show(j:Int)=(len:Int) by omega]
   clear hlt g0 g2 hj hjl
   gi_wp2
   refine wpIn_label ?_
   gi_wp2_with (refine⟨trivial,?_⟩;gi_at_call 182;refine(parts_in _ _ _ _ _ _).mono ?_;rintro e w' ⟨rfl,rfl⟩)
   obtain⟨W2,hW2⟩:∃ W2,(wr.alloc (.cells #[.string (wait m L)] 9)).alloc (.cells #[.slice o len cap] 36)=W2:=⟨_,rfl⟩
   have hn2:=two_new wr (.cells #[.string (wait m L)] 9) (.cells #[.slice o len cap] 36)
   have hs2:W2.heap.size=wr.heap.size+2:=by rw[←hW2];simp
   rw[hW2] at hn2 ⊢
   obtain⟨e1,e2,hb2⟩:=hn2
   have hwr:w.heap.size<wr.heap.size:=(Array.getElem?_eq_some_iff.1 X1.out).1
   have G2:=(hb2.block g (by omega)).trans G1.out
   have X2:=(hb2.block _ hwr).trans X1.out
   have GR2:w.grownBy W2 (some g):=gb_below GR.out hb2 (by omega)
   have hgW2:g<W2.heap.size:=by omega
   obtain⟨T,hT⟩:∃ T,a0+offs ts len=T:=⟨_,rfl⟩
   have hA:=HA0.out
   have hLL:=HLL.out
   have hdiv:(L+offs ts len)/64=L/64+T/64:=by omega
   have hmod:(L+offs ts len)%64=T%64:=by omega
   have hws:(wait m L).size=a0:=by rw[wait_size,hA]
   have hcnt:((L+offs ts len:Nat):Int)≤1099511627776:=by omega
   obtain⟨cnt,hcn⟩:∃ cnt:Int,((L+offs ts len:Nat):Int)=cnt:=⟨_,rfl⟩
   rw[hcn] at G2
   refine range_law rfl (by omega) (gf:=201) (lb:=#[.pointer (some ⟨wr.heap.size,0,none⟩),.pointer (some ⟨wr.heap.size+1,0,none⟩)]) rfl trivial (enters_of Tryz.func201 (by kernel_rfl) rfl)
    (fun x:Nat × Nat=>#[.slice (some ⟨x.1,0,none⟩) x.2 64]) (fun _=>rfl) (Kc g) Kc.trans (fun W l o o' h hc=>Kc.put g W l o o' h hc)
    (Yp (W2.heap.size+2) T (fun j=>m (64*(L/64)+j))) (fun k x W l o' hy _ hl=>Yp_put o' hy hl)
    (fun k W=>64*k≤T∧W.heap[g]? =some (.cells (sm (hs Kt iv m (L/64+k)) r cnt) 222 (0,0))∧W.heap[w.heap.size]? =some (.cells #[.pointer (some ⟨g,0,none⟩)] 203 (0,0))∧w.grownBy W (some g))
    (fun W=>Told Kt iv m W g (L+offs ts len)∧w.grownBy W (some g)) 2
    (fun k W W' h hb=>⟨h.1,(hb.block g (by omega)).trans h.2.1,(hb.block _ (by omega)).trans h.2.2.1,gb_below h.2.2.2 hb (by omega)⟩)
    (fun W W' h hb=>⟨by obtain⟨r',h1,h2⟩:=h.1;exact⟨r',(hb.block g (by omega)).trans h1,h2⟩,gb_below h.2 hb (by omega)⟩)
    ⟨by omega,G2,X2,GR2⟩ (fun k=>T<64*k) (fun k W h hk=>by have:=h.1;omega)
    (fun x=>{ tmps:=#[Value.pointer (some ⟨g,0,none⟩),Value.slice o len cap,
     Value.pointer (some ⟨w.heap.size,0,none⟩),undef,Value.string (wait m L),undef,u6,.slice (some ⟨x.1,0,none⟩) x.2 64,
     Value.pointer (some ⟨g,0,none⟩),Value.pointer (some ⟨g,0,none⟩),
     Value.pointer (some ⟨g,8,none⟩),Value.pointer (some ⟨g,0,none⟩),
     Value.pointer (some ⟨g,0,none⟩),Value.pointer (some ⟨g,72,none⟩),
     Value.int IntKind.i64 (L:Int),Value.int IntKind.i64 (a0:Int),Value.slice (some ⟨g,8,none⟩) a0 64,
     Value.string (wait m L),Value.slice o len cap,Value.int IntKind.i64 (len:Int),Value.int IntKind.i64 (len:Int),
     Value.bool false,u22,u23,u24,u25,u26,u27,u28,u29,u30,u31,u32,u33,Value.string (wait m L),
     Value.slice o len cap,
     Value.func (Fn.func 201) #[] #[Value.pointer (some ⟨wr.heap.size,0,none⟩),Value.pointer (some ⟨wr.heap.size+1,0,none⟩)],
     .slice (some ⟨x.1,0,none⟩) x.2 64,undef,undef,undef,undef,undef,undef,undef,undef,undef,undef,undef,undef,undef,undef],defers:=[] }) ?assign ?body ?iter ?stop
   case assign=>
    intro l x W K hK
    gi_wp2
    exact hK
   case iter=>
    intro l W1 hB1 hs1 R Rx hR hRx hY h0
    have hbW:Below wr.heap.size wr W1:=hb2.trans (hB1.mono (by omega))
    refine parts1_in 4 (by omega) l wr.heap.size (wr.heap.size+1) g len cap o (wait m L) ts (fun j=>m (64*(L/64)+j)) T W1 (by omega)
     (fun j hj=>bt_wait m HM.out L j (by omega)) (fun i hi j hj=>?_) (by omega) hlen (fun i hi=>?_) ((hB1.block _ (by omega)).trans e1) ((hB1.block _ (by omega)).trans e2) (by omega) R Rx hR hRx (fun k x A hA' hy=>hY k x A hA' (by rw[←hs1];exact hy)) h0
    ·rw[(HTS.out i hi).2 j hj,hws]
     congr 1
     omega
    ·obtain⟨⟨b,off,ho,hbg,hbw,hcell⟩,_⟩:=HTS.out i hi
     refine⟨?_,b,off,ho,hbg,by have:=hbW.size;omega,?_⟩
     ·have h2:=offs_mono ts (show i+1≤len from hi)
      have h3:offs ts (i+1)=offs ts i+(ts i).size:=rfl
      omega
     ·rw[←hcell]
      exact(cell_same (hbW.block b (by omega)) _).trans (cell_same (GR.out.block b hbw (by intro e;cases e;exact hbg rfl)) _)
   case body=>
    rintro l k ⟨p,c⟩ W ⟨hkT,hgW,hxW,hgrW⟩ ⟨y1,y2,y3,y4,y5,y6⟩
    have HGW:Hid _:=hgW
    have HGR:Hid (w.grownBy W (some g)):=hgrW
    have HXW:Hid _:=hxW
    have cb:W.cell? ⟨w.heap.size,0,none⟩=some (.pointer (some ⟨g,0,none⟩)):=by rw[cell_of_row _ _ _ _ _ _ hxW];rfl
    have hpg:p≠g:=by simp at y1;omega
    have Y3:c≤64:=y3
    have Y4:64*k+c≤T:=y4
    have Y5:c<64→64*k+c=T:=y5
    have Y6:∀ j,j<c→W.cell? ⟨p,j,none⟩=some (.int .u8 (m (64*(L/64)+(64*k+j)))):=y6
    have Y2:p<W.heap.size:=y2
    by_cases hc:c<64
    ·have q1:(c:Int)<64:=by omega
     have hcr:=run_copy_row (P:=Tryz.prog) W 98 98 3 5 g 8 64 64 ⟨p,0,none⟩ c 64 _ 222 (mc m (64*(L/64)+64*k) c) Tryz.underlying98 (by kernel_rfl) hgW
      (by rw[mc_length];exact(Nat.min_eq_left Y3).symm) (fun j v hv=>by
       have hj:j<c:=by have:=(List.getElem?_eq_some_iff.1 hv).1;rw[mc_length] at this;exact this
       rw[mc_get _ _ _ _ hj] at hv
       rw[Addr.add_lit,Nat.zero_add,Y6 j hj,←hv,Nat.add_assoc]) (by rw[mc_length,sm_size];omega) (fun v hv=>by
       unfold mc at hv
       obtain⟨z,_,rfl⟩:=List.mem_map.1 hv
       rfl)
     rw[mc_length,sm_copy _ _ _ _ _ _ Y3] at hcr
     have hcr':(Builtin.copy_ #[98,98] 3 #[.slice (some ⟨g,8,none⟩) 64 64,.slice (some ⟨p,0,none⟩) c 64]).run Tryz.prog W=.ok (.int .i64 (c:Int)) (W.setRow g (sm (hs Kt iv m (L/64+k)) (rst r m (64*(L/64)+64*k) c) cnt)):=hcr
     have HT5:=Y5 hc
     have hk1:T/64=k:=by omega
     have hk2:T%64=c:=by omega
     have FIN:Hid (Told Kt iv m (W.setRow g (sm (hs Kt iv m (L/64+k)) (rst r m (64*(L/64)+64*k) c) cnt)) g (L+offs ts len)):=by
      refine⟨_,by rw[hdiv,hk1,hcn];exact setRow_heap _ _ _ _ _ _ hgW,fun j hj=>?_⟩
      rw[hmod,hk2] at hj
      rw[hdiv,hk1]
      unfold rst
      rw[if_pos hj]
      congr 1
      omega
     have GRF:Hid (W.grownBy (W.setRow g (sm (hs Kt iv m (L/64+k)) (rst r m (64*(L/64)+64*k) c) cnt)) (some g)):=⟨rfl,rfl,rfl,by rw[size_setRow];exact Nat.le_refl _,fun j _ hne=>setRow_other _ _ _ _ (by intro e;subst e;exact hne rfl)⟩
     clear hcr y1 y2 y3 y4 y5 y6 Y2 Y3 Y4 Y5 Y6 hk1 hk2 HT5 hgW hxW hgrW G2 X2 GR2 e1 e2 hb2 hs2 hdiv hmod hA hLL hT hws hcnt hcn hW2
     gi_wp2
     exact⟨rfl,KeepsFrom.of_grownBy GRF.out (fun j e=>by cases e;exact hgW2),FIN.out,gb_trans HGR.out GRF.out⟩
    ·have hc64:c=64:=by omega
     subst hc64
     have q1:¬((64:Nat):Int)<64:=by omega
     have hKW:W.heap[3]? =some (.cells (w64 Kt) tt fr):=(hgrW.block 3 h1l (by intro e;cases e;exact hg1 rfl)).trans HK.out
     have hchg:=change_any Kt (fun j=>m (64*(L/64+k)+j)) (hs Kt iv m (L/64+k)) r cnt g p 64 W hKW Y2 (fun j hj=>by rw[Y6 j hj];congr 3;omega) (fun j=>HM.out _) hgW
     have HCH:Hid _:=hchg
     clear y1 y2 y3 y4 y5 y6 Y2 Y3 Y5 Y6 hgW hxW hgrW G2 X2 GR2 e1 e2 hb2 hdiv hmod hA hLL hT hws hcnt hcn hW2 hKW hchg
     gi_wp2
     refine⟨trivial,?_⟩
     refine(CallsIn.inRound l (callsIn_wide.2 HCH.out)).mono ?_
     rintro e W3 ⟨rfl,hg3,hgr3⟩
     have G3:Hid (W3.heap[g]? =some (.cells (sm (hs Kt iv m (L/64+(k+1))) r cnt) 222 (0,0))):=hg3
     have GR3:Hid (W.grownBy W3 (some g)):=hgr3
     clear hg3 hgr3 HCH
     gi_wp2
     have hne:w.heap.size≠g:=by omega
     exact⟨KeepsFrom.of_grownBy GR3.out (fun j e=>by cases e;exact hgW2),Kc.of_grown GR3.out,by omega,G3.out,(GR3.out.block _ (Array.getElem?_eq_some_iff.1 HXW.out).1 (by intro e;cases e;exact hne rfl)).trans HXW.out,gb_trans HGR.out GR3.out⟩
   case stop=>
    rintro D W hD ⟨hT',hgr'⟩ hdf
    gi_wp2
    rw[Exit.noGoto_normal]
    refine⟨by simp,.inl ⟨_,_,rfl,run_takeDeferred hdf,?_⟩⟩
    refine⟨_,results_none rfl _ _ _,rfl,?_,?_⟩
    ·obtain⟨r',h1,h2⟩:=hT'
     exact⟨r',(World.putObj_heap_other (by omega)).trans h1,h2⟩
    ·exact gb_below hgr' (below_put W _ hD) (by omega)
end Go.Proofs.YtfaflomephjkgaaGreatDoor
namespace Go.Proofs.YtfaflomephjkgaaGreatDoor
open Go.RowKit Go.Lib
theorem zc (z:Nat):(Builtin.zeroCells #[.int .u8 0] z).toList=List.replicate z (.int .u8 0):=by
 apply List.ext_getElem?
 intro i
 by_cases h:i<z
 ·simp[Builtin.zeroCells,h,Nat.mod_one]
 ·simp[Builtin.zeroCells,h]
theorem run_append_zeros (w:World) (base g n cap:Nat) (xs:List Value) (hown:w.ownsRow base 5 1 (.slice (some ⟨g,0,none⟩) n cap) n xs) (z:Nat) (hz:z≤64) (hroom:n+z≤cap):
  ∃ w',(Builtin.append_ #[98,3] 98 #[.slice (some ⟨g,0,none⟩) n cap,.int .i64 (z:Int)]).run Tryz.prog w=.ok (.slice (some ⟨g,0,none⟩) (n+z) cap) w'∧
   w'.ownsRow base 5 1 (.slice (some ⟨g,0,none⟩) (n+z) cap) (n+z) (xs++List.replicate z (.int .u8 0))∧w.grownBy w' (some g):=by
 obtain⟨i0,hi,hz0,hz1,hz2⟩:=info_parts info5
 have hxl:xs.length=n:=by simpa using hown.1
 rcases hown.2 with⟨hv,_⟩|⟨g',cap',cur,hv,hbg,hg,hnc,hcm,hcs,htake⟩
 ·cases hv
 ·cases hv
  have hst:=run_storeCells_at (P:=Tryz.prog) g n 5 (List.replicate z (.int .u8 0)) 0 cur w hg (by simp;omega) (fun v hv=>by rw[(List.mem_replicate.1 hv).2];rfl)
  simp only[Nat.add_zero,List.length_replicate] at hst
  have w64:IntKind.i64.wrap (z:Int)=(z:Int):=by rw[IntKind.wrap_i64];omega
  have w0:IntKind.i64.wrap 0=0:=by decide
  have hb:¬(281474976710656:Int)<(z:Int):=by omega
  have hr:(Builtin.append_ #[98,3] 98 #[.slice (some ⟨g,0,none⟩) n cap,.int .i64 (z:Int)]).run Tryz.prog w=.ok (.slice (some ⟨g,0,none⟩) (n+z) cap) (w.setRow g (cur.toList.take n++List.replicate z (Value.int .u8 0)++cur.toList.drop (n+z)).toArray):=by
   by_cases h0:z=0
   ·subst h0
    simp only[List.replicate_zero] at hst
    simp[Builtin.append_,run_underlying Tryz.underlying98,run_underlying Tryz.underlying3,sizeOf,typeInfo,hi,hz1,hz2,hnc,Addr.add_lit,asInt,asIntOf,w0,hst]
   ·simp[Builtin.append_,run_underlying Tryz.underlying98,run_underlying Tryz.underlying3,sizeOf,typeInfo,zeroValue,hi,hz0,hz1,hz2,hroom,Addr.add_lit,asInt,asIntOf,w64,hb,h0,Value.cells,zc,hst]
    intro h
    omega
  refine⟨_,hr,⟨by simp[hxl],.inr ⟨g,cap,_,rfl,hbg,setRow_heap w g cur _ 5 _ hg,hroom,hcm,by simp;omega,?_⟩⟩,⟨rfl,rfl,rfl,by rw[size_setRow];exact Nat.le_refl _,fun k _ hk=>setRow_other w g k _ (fun e=>hk (by rw[e]))⟩⟩
  have ht':cur.toList.take n=xs:=by simpa using htake
  rw[ht']
  rw[show(n+z)*1=(xs++List.replicate z (Value.int .u8 0)).length by simp[hxl]]
  exact List.take_left
theorem list_append {P:Program} {ops:Array Oper} {rest:List Oper} {o:Oper} {a:Act} {w:World} {Q:Exit→Act→World→Prop} (hgd:o.guard=none) (t u:TypeId) (s x:Operand) (ho:o.op=.call { callee:=.builtin .append,args:=#[s,x],argTypes:=#[t,u] })
  {vs vx v':Value} {w':World} (hs:a.eval s=vs) (hx:a.eval x=vx) (hrun:(Builtin.append_ #[t,u] o.type #[vs,vx]).run P w=.ok v' w') (h:wpList P ops Q rest (a.put o.dst v') w'):wpList P ops Q (o::rest) a w:=
 wpList_plain hgd fun _ hK=>by
  unfold Oper.wp execOp
  simp only[ho,resolve,invoke,builtin,Sem.run_bind,Sem.run_pure,Result.andThen_ok,List.map_toArray,List.map_cons,List.map_nil,hs,hx,hrun]
  exact hK _ _ h
theorem cell_one (w:World) (v:Value) (t:TypeId):∀ j u,[v][j]? =some u→(w.alloc (.cells #[v] t)).cell? ((⟨w.heap.size,0,none⟩:Addr).add j)=some u:=fun j u hj=>by
 match j,hj with
 |0,hj=>rw[Addr.add_lit,cell_of_row _ _ _ _ _ _ (heap_alloc_new w _)];simpa using hj
 |j+1,hj=>simp at hj
def nz (n:Nat):Nat:=(119 - n%64)%64
def fil (n:Nat):List Int:=128::(List.replicate (nz n) 0++upto (fun j=>((n:Int)*8)/2 ^ (56 - 8*j)%256) 8)
theorem upto_succ (f:Nat→Int) (k:Nat):upto f (k+1)=upto f k++[f k]:=by simp[upto,List.range_succ]
theorem filling_any (n : Nat) (hn : n ≤ 1099511627776) (w : World) :
    Calls Tryz.prog 184 #[.int .i64 (n : Int)] w fun e w' => e = .returned (.string (strOfNums (fil n))) ∧ Below w.heap.size w w' := by
  obtain ⟨i0, hi, hz0, hz1, hz2⟩ := info_parts info5
  have n0 : (0 : Int) ≤ (n : Int) := by omega
  have n1 : (n : Int) ≤ 1099511627776 := by omega
  obtain ⟨a, ha⟩ : ∃ a, n % 64 = a := ⟨_, rfl⟩
  have hal : a < 64 := by omega
  have d0 : (n : Int).tmod 64 = (a : Int) := by rw [Int.tmod_eq_emod_of_nonneg n0]; omega
  have d1 : (n : Int) % 64 = (a : Int) := by omega
  have a0 : (0 : Int) ≤ (a : Int) := by omega
  have a1 : (a : Int) < 64 := by omega
  obtain ⟨z, hz⟩ : ∃ z, nz n = z := ⟨_, rfl⟩
  have hzl : z < 64 := by rw [← hz]; unfold nz; omega
  have hz' : (119 - a) % 64 = z := by rw [← hz, ← ha]; rfl
  have d2 : ((119 : Int) - (a : Int)).tmod 64 = (z : Int) := by rw [Int.tmod_eq_emod_of_nonneg (by omega)]; omega
  have d3 : ((119 : Int) - (a : Int)) % 64 = (z : Int) := by omega
  have HZ : Hid (nz n = z) := hz
  have HN : Hid (n ≤ 1099511627776) := hn
  clear ha hz hz' hn
  go_enter Tryz.func184, Tryz.ntmps184
  go_wp2_with (first
    | (at_make; refine wpList_make_own _ rfl _ _ 98 rfl w.heap.size 5 i0 (.int .u8 0) 1 Tryz.underlying98 hi hz0 hz1 .i64 .i64 128 128 rfl rfl rfl (by rw [hz2]; decide) (by decide) (Nat.le_refl _) ?_; intro w2 hown2 hgrow2)
    | (at_builtin
       obtain ⟨w3, hrun3, hown3, hgrow3⟩ := run_append_fits (P := Tryz.prog) (w2.alloc (.cells #[.int .u8 128] 5)) w.heap.size 98 98 5 i0 1 Tryz.underlying98 hi hz1 w.heap.size 0 128 [] (hown2.alloc _) ⟨w2.heap.size, 0, none⟩ 1 1 [.int .u8 128] rfl (cell_one _ _ _) (fun u hu => by simp at hu; subst hu; rfl) (by decide)
       refine list_append rfl 98 98 (.tmp 11) (.tmp 12) rfl (vs := .slice (some ⟨w.heap.size, 0, none⟩) 0 128) (vx := .slice (some ⟨w2.heap.size, 0, none⟩) 1 1) rfl rfl hrun3 ?_
       have HO3 : Hid (w3.ownsRow w.heap.size 5 1 (.slice (some ⟨w.heap.size, 0, none⟩) 1 128) 1 [.int .u8 128]) := hown3
       have HB3 : Hid (Below w.heap.size w w3) := ⟨hgrow3.os.trans hgrow2.os, hgrow3.tape.trans hgrow2.tape, hgrow3.output.trans hgrow2.output, Nat.le_trans hgrow2.size (Nat.le_trans (by simp) hgrow3.size), fun k hk => (hgrow3.block k (by simp; have := hgrow2.size; omega) (by intro e; cases e; omega)).trans ((Below.heap_alloc _ _ _ (by have := hgrow2.size; omega)).trans (hgrow2.block k hk (by simp)))⟩
       clear hown3 hgrow3 hown2 hgrow2 hrun3)
    | (at_builtin
       obtain ⟨w4, hrun4, hown4, hgrow4⟩ := run_append_zeros w3 w.heap.size w.heap.size 1 128 _ HO3.out z (by omega) (by omega)
       refine list_append rfl 98 3 (.tmp 14) (.tmp 15) rfl (vs := .slice (some ⟨w.heap.size, 0, none⟩) 1 128) (vx := .int .i64 (z : Int)) rfl rfl hrun4 ?_
       have HO4 : Hid (w4.ownsRow w.heap.size 5 1 (.slice (some ⟨w.heap.size, 0, none⟩) (1 + z) 128) (1 + z) ((.int .u8 128) :: List.replicate z (.int .u8 0))) := hown4
       have HB4 : Hid (Below w.heap.size w w4) := HB3.out.trans (grown_below hgrow4 (Nat.le_refl _) HB3.out.size)
       clear hown4 hgrow4 hrun4 HO3 HB3))
  clear d0 d1 d2 d3 a0 a1 hal
  have LST : ∀ j, ((.int .u8 128) :: List.replicate z (.int .u8 0)) ++ (upto (fun j => ((n : Int) * 8) / 2 ^ (56 - 8 * j) % 256) j).map (Value.int .u8) = (128 :: (List.replicate z 0 ++ upto (fun j => ((n : Int) * 8) / 2 ^ (56 - 8 * j) % 256) j)).map (Value.int .u8) := fun j => by simp
  have HLST : Hid _ := LST
  clear LST
  go_loopw [4, 6] (fun v i wr => ∃ j : Nat, j ≤ 8 ∧ v = .slice (some ⟨w.heap.size, 0, none⟩) (1 + z + j) 128 ∧ i = .int .i64 (56 - 8 * (j : Int)) ∧ wr.ownsRow w.heap.size 5 1 (.slice (some ⟨w.heap.size, 0, none⟩) (1 + z + j) 128) (1 + z + j) (((.int .u8 128) :: List.replicate z (.int .u8 0)) ++ (upto (fun j => ((n : Int) * 8) / 2 ^ (56 - 8 * j) % 256) j).map (Value.int .u8)) ∧ Below w.heap.size w wr) (fun _ i _ => (intOf i + 8).toNat)
  case atStart => exact ⟨0, by omega, rfl, rfl, by simpa [upto] using HO4.out, HB4.out⟩
  case round =>
    clear HO4 HB4
    obtain ⟨j, hj, rfl, rfl, hown, hbl⟩ := hrel
    have HO : Hid (wr.ownsRow w.heap.size 5 1 (.slice (some ⟨w.heap.size, 0, none⟩) (1 + z + j) 128) (1 + z + j) (((.int .u8 128) :: List.replicate z (.int .u8 0)) ++ (upto (fun j => ((n : Int) * 8) / 2 ^ (56 - 8 * j) % 256) j).map (Value.int .u8))) := hown
    have HB : Hid (Below w.heap.size w wr) := hbl
    clear hown hbl
    by_cases hlt : j < 8
    · have g0 : (0 : Int) ≤ 56 - 8 * (j : Int) := by omega
      have g1 : (56 : Int) - 8 * (j : Int) ≤ 56 := by omega
      obtain ⟨w5, hrun5, hown5, hgrow5⟩ := run_append_fits (P := Tryz.prog) (wr.alloc (.cells #[.int .u8 ((n : Int) * 8 / 2 ^ (56 - 8 * j) % 256)] 5)) w.heap.size 98 98 5 i0 1 Tryz.underlying98 hi hz1 w.heap.size (1 + z + j) 128 _ (HO.out.alloc _) ⟨wr.heap.size, 0, none⟩ 1 1 [.int .u8 ((n : Int) * 8 / 2 ^ (56 - 8 * j) % 256)] rfl (cell_one _ _ _) (fun u hu => by simp at hu; subst hu; rfl) (by omega)
      have HO5 : Hid (w5.ownsRow w.heap.size 5 1 (.slice (some ⟨w.heap.size, 0, none⟩) (1 + z + (j + 1)) 128) (1 + z + (j + 1)) (((.int .u8 128) :: List.replicate z (.int .u8 0)) ++ (upto (fun j => ((n : Int) * 8) / 2 ^ (56 - 8 * j) % 256) (j + 1)).map (Value.int .u8))) := by
        rw [upto_succ, List.map_append, ← List.append_assoc]; exact hown5
      have HB5 : Hid (Below w.heap.size w w5) := (HB.out.alloc HB.out.size _).trans (grown_below hgrow5 (Nat.le_refl _) (by simp; have := HB.out.size; omega))
      clear hown5 hgrow5
      go_wp2_with (at_builtin; refine list_append rfl 98 98 (.tmp 24) (.tmp 29) rfl (vs := .slice (some ⟨w.heap.size, 0, none⟩) (1 + z + j) 128) (vx := .slice (some ⟨wr.heap.size, 0, none⟩) 1 1) rfl rfl hrun5 ?_)
      go_roundw
      case rel => exact ⟨j + 1, by omega, rfl, by go_num, HO5.out, HB5.out⟩
      case measure => simp [intOf]; omega
    · have hj8 : j = 8 := by omega
      subst hj8
      have g0 : ¬ (0 : Int) ≤ 56 - 8 * ((8 : Nat) : Int) := by decide
      have hcv : (convert 98 9 (.slice (some ⟨w.heap.size, 0, none⟩) (1 + z + 8) 128)).run Tryz.prog wr = .ok (.string (strOfNums (fil n))) wr := by
        unfold fil
        rw [HZ.out]
        refine run_convert_bytes_arg wr 98 5 Tryz.underlying98 Tryz.underlying5 w.heap.size 0 (1 + z + 8) 128 (128 :: (List.replicate z 0 ++ upto (fun j => ((n : Int) * 8) / 2 ^ (56 - 8 * j) % 256) 8)) (by simp [upto]; omega) (fun i hi => ?_) 9 Tryz.underlying9
        rw [Nat.zero_add]
        have hx := HO.out
        rw [HLST.out 8] at hx
        refine own_cell hx ?_
        rw [List.getElem?_map, List.getElem?_eq_getElem (by simp [upto]; omega)]
        simp [List.getD, List.getElem?_eq_getElem (show i < (128 :: (List.replicate z 0 ++ upto (fun j => ((n : Int) * 8) / 2 ^ (56 - 8 * j) % 256) 8)).length by simp [upto]; omega)]
      go_wp2
      go_ret
      exact ⟨rfl, HB.out⟩
end Go.Proofs.YtfaflomephjkgaaGreatDoor
