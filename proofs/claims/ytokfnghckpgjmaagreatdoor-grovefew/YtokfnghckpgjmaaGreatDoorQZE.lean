import Derived.Test.YtokfnghckpgjmaaGreatDoorPPo
import Derived.Test.YtokfnghckpgjmaaGreatDoorPPk
import Derived.RangeFuncNested
import Derived.RangeFuncBound
import Derived.Shelf.RegionOpen
import Derived.OwnWalkIn
import Derived.LoopNIn
import Derived.LoopIn
import Derived.Test.YtokfnghckpgjmaaGreatDoorPZD
import Derived.Test.YtokfnghckpgjmaaGreatDoorPPn
set_option maxRecDepth 100000
set_option maxHeartbeats 2000000
namespace Go.Proofs.YtokfnghckpgjmaaGreatDoor
namespace Ra
open Go.RowKit Go.Shelf
attribute [local go_sem] Oper.semAt_some
def oU (u:ByteArray) (h:4≤u.size):Int:=rT (u[0].toNat:Int) (u[1].toNat:Int) (u[2].toNat:Int) (u[3].toNat:Int)
theorem zpz (s:ByteArray) (m:Nat) (h:4≤(s.extract (4*m) s.size).size):oU (s.extract (4*m) s.size) h=wd s m:=by
 have hs:4*m+4≤s.size:=by simp at h;omega
 unfold oU wd;rw[mS _ 0 uo,mS _ 1 uo,mS _ 2 uo,mS _ 3 uo,pQ _ _ _ uo,pQ _ _ _ uo,pQ _ _ _ uo,pQ _ _ _ uo];rfl
def kD:Value→Nat|.string u=>u.size|_=>0
theorem zof (w:World) (r:Option Nat):w.grownBy w.drew r:=⟨rfl,rfl,rfl,Nat.le_refl _,fun _ _ _=>rfl⟩
theorem zmp (n:Nat) (a:Option Addr) (len cap:Nat) (w:World):
  CallsIn Fence.wide n Tryz.prog 263 #[.slice a len cap] w fun e w'=>e=.returned (.func (.func 275) #[] #[.pointer (some ⟨w.heap.size,0,none⟩)])∧w'=w.alloc (.cells #[.slice a len cap] 37):=by
 refine callsIn_of_wp Tryz.func263 rfl trivial ?_ rfl;simp only[Tryz.ntmps263,eR,eS,eT,Nat.reduceAdd,Nat.reduceSub,eU,eV,eW,eX,eY,eZ];gi_wp2;go_ret;exact⟨rfl,rfl⟩
theorem jv (s:ByteArray) (a:Nat):(s.extract a s.size).extract 4 (s.extract a s.size).size=s.extract (a+4) s.size:=by
 apply ByteArray.ext;simp[ByteArray.data_extract,Array.extract_extract]
 congr 1
 omega
theorem zmq (ts:Nat→ByteArray) (len k m:Nat) (hk:k<len) (hm:m<(ts k).size/4):
  (cat (fun j=>dn (ts j)) k++upto (wd (ts k)) m).length<(cat (fun j=>dn (ts j)) len).length∧
  cat (fun j=>dn (ts j)) k++upto (wd (ts k)) m++[wd (ts k) m]<+:cat (fun j=>dn (ts j)) len:=by
 have h2:cat (fun j=>dn (ts j)) k++upto (wd (ts k)) m++[wd (ts k) m]<+:cat (fun j=>dn (ts j)) len:=by
  rw[List.append_assoc,←lz];refine List.IsPrefix.trans ?_ (zet _ (show k+1≤len from hk));rw[mR];exact(List.prefix_append_right_inj _).2 (zdK _ uo)
 exact⟨by have:=h2.length_le;simp at this ⊢;omega,h2⟩
theorem zkg (n:Nat) (hn:1≤n) (l Bs n₀ b len cap:Nat) (ts:Nat→ByteArray) (hlen:len≤1000) (hts:∀ j,j<len→(ts j).size≤maxLen) (hb:b<n₀) (J Jx:List Int→World→Prop) (hJ:∀ pre W,J pre W→J pre W.drew)
  (hY:∀ pre x W,J pre W→pre.length<(cat (fun j=>dn (ts j)) len).length→YieldAt Fence.wide (n - 1) Tryz.prog l #[.int .u32 x] W fun e W'=>
   (e=.returned (.bool true)∧J (pre++[x]) W'∧Below n₀ W W')∨(e=.returned (.bool false)∧Jx (pre++[x]) W'))
  (W:World) (hBs:W.cell? ⟨Bs,0,none⟩=some (.slice (some ⟨b,0,none⟩) len cap)) (hc:∀ j,j<len→W.cell? ⟨b,j,none⟩=some (.string (ts j))) (h0:J [] W):
  CallsIn Fence.wide n Tryz.prog 275 #[.func (.yield l) #[] #[],.pointer (some ⟨Bs,0,none⟩)] W fun e W'=>(∃ v,e=.returned v)∧
   ((∃ ys,ys=cat (fun j=>dn (ts j)) len∧J ys W')∨(∃ pre,pre<+:cat (fun j=>dn (ts j)) len∧Jx pre W')):=by
 have hmx:Tryz.prog.follows .mixedOrders=true:=uk
 refine callsIn_of_wp Tryz.func275 rfl trivial ?_ rfl;simp only[Tryz.ntmps275,eR,eS,eT,Nat.reduceAdd,Nat.reduceSub,eU,eV,eW,eX,eY,eZ];gi_wp2
 gi_loopw [7] (fun i wr=>∃ k:Nat,k≤len∧i=.int .i64 k∧J (cat (fun j=>dn (ts j)) k) wr∧Below n₀ W wr)
  (fun i _=>len - (intOf i).toNat)
 case atStart=>exact⟨0,Nat.zero_le _,rfl,h0,Below.refl _ _⟩
 case round=>
  obtain⟨k,hk,rfl,hJs,hnx⟩:=hrel;by_cases hlt:k<len
  ·have hcx:wr.cell? ⟨b,k,none⟩=some (.string (ts k)):=(hnx.cell (p:=⟨b,k,none⟩) hb).trans (hc k hlt)
   have hsm:=hts k hlt;unfold maxLen at hsm
   have HP:Hid (∀ m,m<(ts k).size/4→(cat (fun j=>dn (ts j)) k++upto (wd (ts k)) m).length<(cat (fun j=>dn (ts j)) len).length∧
    cat (fun j=>dn (ts j)) k++upto (wd (ts k)) m++[wd (ts k) m]<+:cat (fun j=>dn (ts j)) len):=fun m hm=>zmq ts len k m hlt hm
   have HS:Hid (cat (fun j=>dn (ts j)) (k+1)=cat (fun j=>dn (ts j)) k++upto (wd (ts k)) ((ts k).size/4)):=mR _ _;have HW:Hid (Below n₀ W wr):=hnx;generalize cat (fun j=>dn (ts j)) k=P0 at*
   generalize ts k=s at*
   have HY:Hid _:=hY;have HC:Hid _:=hc;clear hc hY hnx;gi_wp2
   gi_loopw [4] (fun t wr=>∃ m:Nat,4*m≤s.size∧t=.string (s.extract (4*m) s.size)∧J (P0++upto (wd s) m) wr∧Below n₀ W wr) (fun t _=>kD t)
   case atStart=>exact⟨0,by omega,by simp,by simpa [upto] using hJs,HW.o⟩
   case round=>
    clear hJs HW;obtain⟨m,hm,rfl,hJs,hnx⟩:=hrel;by_cases h4:4≤(s.extract (4*m) s.size).size
    ·have hms:m<s.size/4:=by simp at h4;omega
     obtain⟨fn,tmps,assign,body,hy,hR⟩:=HY.o (P0++upto (wd s) m) (oU (s.extract (4*m) s.size) h4) wr.drew (hJ _ _ hJs) (HP.o m hms).1;rw[zpz] at hR
     have hR':RoundIn Fence.wide (n - 1) Tryz.prog l fn tmps assign body wr.drew fun e W'=>∃ bv,e=.returned (.bool bv)∧((bv=true∧J (P0++upto (wd s) m++[wd s m]) W'∧Below n₀ wr.drew W')∨(bv=false∧Jx (P0++upto (wd s) m++[wd s m]) W')):=
      hR.mono (fun e W' h=>h.elim (fun h=>⟨true,h.1,.inl ⟨rfl,h.2⟩⟩) (fun h=>⟨false,h.1,.inr ⟨rfl,h.2⟩⟩))
     clear hR;generalize hu:s.extract (4*m) s.size=u at*
     have HU:Hid _:=hu;clear hu;have g0:(4:Int)≤(u.size:Int):=uo
     have k0:0<u.size:=uo
     have k1:(1:Int)<(u.size:Int):=uo
     have k2:(2:Int)<(u.size:Int):=uo
     have k3:(3:Int)<(u.size:Int):=uo
     obtain⟨y0,a0⟩:∃ y,IntKind.u32.wrap (u[0].toNat:Int)=y:=⟨_,rfl⟩;obtain⟨y1,a1⟩:∃ y,IntKind.u32.wrap (u[1].toNat:Int)=y:=⟨_,rfl⟩;obtain⟨z1,c1⟩:∃ y,IntKind.u32.wrap (y1*256)=y:=⟨_,rfl⟩;obtain⟨p1,o1⟩:∃ y,bits BinOp.or IntKind.u32 y0 z1=y:=⟨_,rfl⟩;obtain⟨y2,a2⟩:∃ y,IntKind.u32.wrap (u[2].toNat:Int)=y:=⟨_,rfl⟩;obtain⟨z2,c2⟩:∃ y,IntKind.u32.wrap (y2*65536)=y:=⟨_,rfl⟩;obtain⟨p2,o2⟩:∃ y,bits BinOp.or IntKind.u32 p1 z2=y:=⟨_,rfl⟩;obtain⟨y3,a3⟩:∃ y,IntKind.u32.wrap (u[3].toNat:Int)=y:=⟨_,rfl⟩;obtain⟨z3,c3⟩:∃ y,IntKind.u32.wrap (y3*16777216)=y:=⟨_,rfl⟩;obtain⟨x0,o3⟩:∃ y,bits BinOp.or IntKind.u32 p2 z3=y:=⟨_,rfl⟩;have hx:oU u h4=x0:=by unfold oU rT;rw[a0,a1,c1,o1,a2,c2,o2,a3,c3,o3]
     rw[hx] at hy;clear hx;have HJ:Hid _:=hJ;have HN:Hid _:=hnx;have HJs:Hid _:=hJs;clear hJ hsm hBs h0 hJs hnx hb hk hlen hts hm hms;gi_wp2;refine wpIn_region_any hmx ?_;change wpAnyIn _ _ _ _ _ _ _ _ _ (World.drew _);refine cV (i:=0) (v:=?_) rfl rfl ?_ ?_;rotate_left
     ·intro w
      go_simp
      try with_reducible rfl
     refine cV (i:=1) (v:=?_) rfl rfl ?_ ?_;rotate_left
     ·intro w
      go_simp
      try with_reducible rfl
     refine cV (i:=2) (v:=?_) rfl rfl ?_ ?_;rotate_left
     ·intro w
      go_simp
      try with_reducible rfl
     refine cV (i:=3) (v:=?_) rfl rfl ?_ ?_;rotate_left
     ·intro w
      go_simp
      try with_reducible rfl
     refine cV (i:=4) (v:=?_) rfl rfl ?_ ?_;rotate_left
     ·intro w
      go_simp
      try with_reducible rfl
     refine cV (i:=5) (v:=?_) rfl rfl ?_ ?_;rotate_left
     ·intro w
      go_simp
      try with_reducible rfl
     refine cV (i:=6) (v:=?_) rfl rfl ?_ ?_;rotate_left
     ·intro w
      go_simp
      try with_reducible rfl
     refine cV (i:=7) (v:=?_) rfl rfl ?_ ?_;rotate_left
     ·intro w
      go_simp
      try with_reducible rfl
     refine cV (i:=8) (v:=?_) rfl rfl ?_ ?_;rotate_left
     ·intro w
      go_simp
      try with_reducible rfl
     refine cV (i:=9) (v:=?_) rfl rfl ?_ ?_;rotate_left
     ·intro w
      go_simp
      try with_reducible rfl
     refine cV (i:=10) (v:=?_) rfl rfl ?_ ?_;rotate_left
     ·intro w
      go_simp
      try with_reducible rfl
     refine cV (i:=11) (v:=?_) rfl rfl ?_ ?_;rotate_left
     ·intro w
      go_simp
      try with_reducible rfl
     refine cV (i:=12) (v:=?_) rfl rfl ?_ ?_;rotate_left
     ·intro w
      go_simp
      try with_reducible rfl
     refine cV (i:=13) (v:=?_) rfl rfl ?_ ?_;rotate_left
     ·intro w
      go_simp
      try with_reducible rfl
     refine cV (i:=14) (v:=?_) rfl rfl ?_ ?_;rotate_left
     ·intro w
      go_simp
      try with_reducible rfl
     refine cV (i:=15) (v:=?_) rfl rfl ?_ ?_;rotate_left
     ·intro w
      go_simp
      try with_reducible rfl
     refine cV (i:=16) (v:=?_) rfl rfl ?_ ?_;rotate_left
     ·intro w
      go_simp
      try with_reducible rfl
     refine cV (i:=17) (v:=?_) rfl rfl ?_ ?_;rotate_left
     ·intro w
      go_simp
      try with_reducible rfl
     refine cV (i:=18) (v:=?_) rfl rfl ?_ ?_;rotate_left
     ·intro w
      go_simp
      try with_reducible rfl
     refine wpAnyIn_ready (rs:=[19]) uk us ?_;refine AllReadyIn.cons rfl (fun K hK=>?_) AllReadyIn.nil;go_simp;refine hR'.mono ?_;rintro e W3 ⟨bv,rfl,hdis⟩;refine hK _ _ ?_;clear hK K hR' hy;refine cV (i:=20) (v:=?_) rfl rfl ?_ ?_;rotate_left
     ·intro w
      go_simp
      try with_reducible rfl
     refine wpAnyIn_done uk ?_ _;have hu:=HU.o;rcases hdis with⟨rfl,hJ3,hk3⟩|⟨rfl,hJx3⟩
     ·gi_wp2
      go_roundw
      case rel=>exact⟨m+1,by rw[←hu] at h4;simp at h4;omega,by rw[←hu,jv];rfl,by rw[lz,←List.append_assoc];exact hJ3,(HN.o.drew).trans hk3⟩
      case measure=>simp[kD];omega
     ·gi_wp2
      refine bodyPost_ret (results_none rfl _ _ _) rfl ?_;exact⟨⟨_,rfl⟩,.inr ⟨_,(HP.o m (by rw[←hu] at h4;simp at h4;omega)).2,hJx3⟩⟩
    ·have g0:¬(4:Int)≤((s.extract (4*m) s.size).size:Int):=uo
     have hms:m=s.size/4:=by simp at h4;omega
     have HM:Hid _:=hms;have HJs:Hid _:=hJs;have HN:Hid _:=hnx;clear hms hJs hnx;generalize s.extract (4*m) s.size=u at*
     gi_wp2
     go_roundw
     case rel=>exact⟨k+1,by omega,by go_num,by rw[HS.o,←HM.o];exact HJs.o,HN.o⟩
     case measure=>simp[intOf];omega
  ·obtain rfl:k=len:=uo
   gi_wp2
   go_end0
   exact⟨⟨_,rfl⟩,.inl ⟨_,rfl,hJs⟩⟩
end Ra
namespace Ra
open Go.RowKit Go.Shelf
attribute [local go_sem] Oper.semAt_some
theorem zbW {F:Fence} {n:Nat} {P:Program} {ops:Array Oper} {rest:List Oper} {o:Oper} {a:Act} {w:World} {Q:Exit→Act→World→Prop} (hgd:o.guard=none) (ty:TypeId) (x:Operand) (ho:o.op=.load ty x)
  (g:Nat) (hx:a.eval x=.pointer (some ⟨g,0,none⟩)) (t:TypeId) (cs:Array Value) (fr:Nat × Nat) (d:TypeDesc) (hg:w.heap[g]? =some (.cells cs t fr))
  (hu:P.underlying ty=some d) (hd:(match d with|.struct _|.array _ _=>true|_=>false)=true) (hi:(P.info? ty).map (·.size)=some cs.size)
  (h:wpListIn F n P ops Q rest (a.put o.dst (.agg cs)) w):wpListIn F n P ops Q (o::rest) a w:=by
 refine wpListIn_plain hgd fun K hK'=>?_
 unfold Oper.wpIn;refine⟨?_,?_⟩
 ·simp[Oper.about,ho]
 ·rw[Oper.semAt_plain F _ _ (by rw[ho];intro c hc';cases hc')]
  unfold execOp;simp only[ho,hx,Instr.loadAt,Instr.sureAddr,Sem.run_bind,Sem.run_pure,Result.andThen_ok,run_loadVar_row w g t ty cs fr d hg hu hd hi];exact hK' _ _ h
theorem zcQ {F:Fence} {n:Nat} {P:Program} {ops:Array Oper} {rest:List Oper} {o:Oper} {a:Act} {w:World} {Q:Exit→Act→World→Prop} (hgd:o.guard=none) (ty:TypeId) (x y:Operand) (ho:o.op=.store ty x y)
  (g:Nat) (cells:Array Value) (hx:a.eval x=.pointer (some ⟨g,0,none⟩)) (hy:a.eval y=.agg cells)
  (t:TypeId) (old:Array Value) (hg:w.heap[g]? =some (.cells old t (0,0))) (hi:(P.info? ty).map (·.size)=some cells.size)
  (hold:old.size=cells.size) (h1:cells.all (·.oneCell')=true)
  (h:wpListIn F n P ops Q rest (a.put o.dst undef) (w.setRow g cells)):wpListIn F n P ops Q (o::rest) a w:=by
 refine wpListIn_plain hgd fun K hK'=>?_
 unfold Oper.wpIn;refine⟨?_,?_⟩
 ·simp[Oper.about,ho]
 ·rw[Oper.semAt_plain F _ _ (by rw[ho];intro c hc';cases hc')]
  unfold execOp;simp only[ho,hx,hy,Instr.storeAt,Instr.sureAddr,Sem.run_bind,Sem.run_pure,Result.andThen_ok,run_storeVar_row w g t ty old cells hg hi hold h1];exact hK' _ _ h
theorem zgR (n:Nat) (hn:1≤n) (Bs n₀ b len cap:Nat) (ts:Nat→ByteArray) (hlen:len≤1000) (hts:∀ j,j<len→(ts j).size≤maxLen) (hb:b<n₀) (w:World) (hBs:Bs<w.heap.size) (hn₀:n₀≤w.heap.size)
  (hc:w.cell? ⟨Bs,0,none⟩=some (.slice (some ⟨b,0,none⟩) len cap)) (hcs:∀ j,j<len→w.cell? ⟨b,j,none⟩=some (.string (ts j))):
  SeqStopsK Fence.wide n Tryz.prog 275 #[.pointer (some ⟨Bs,0,none⟩)] (fun x:Int=>#[Value.int .u32 x]) (Below n₀) (fun ys=>ys=cat (fun j=>dn (ts j)) len) (fun pre=>pre<+:cat (fun j=>dn (ts j)) len) (cat (fun j=>dn (ts j)) len).length w:=
 fun l J Jx W hW hJ _ hY h0=>
  zkg n hn l Bs n₀ b len cap ts hlen hts hb J Jx (fun pre W h=>hJ pre W W.drew none h (zof W none) (fun r e=>by cases e)) hY W ((hW.cell (p:=⟨Bs,0,none⟩) hBs).trans hc)
   (fun j hj=>(hW.cell (p:=⟨b,j,none⟩) (by show b<_;omega)).trans (hcs j hj)) h0
theorem mi {W W':World} {row:Option Nat} {k:Nat} {o:Obj} (h:W.heap[k]? =some o) (ho:o.isCells=true) (hg:W.grownBy W' row) (hr:∀ r,row=some r→∃ o:Obj,W.heap[r]? =some o∧o.isCells=false):W'.heap[k]? =some o:=by
 rw[hg.block k (zi h).1 (fun e=>by
  obtain⟨o',h1,h2⟩:=hr k e.symm;rw[h] at h1;cases h1;rw[ho] at h2;cases h2)]
 exact h
theorem rj (w:World) (a b c d:Obj):let W:=(((w.alloc a).alloc b).alloc c).alloc d
  W.heap[w.heap.size]? =some a∧W.heap[w.heap.size+1]? =some b∧W.heap[w.heap.size+1+1]? =some c∧W.heap[w.heap.size+1+1+1]? =some d∧W.heap.size=w.heap.size+4∧Below w.heap.size w W:=by
 have h3:=iY w a b c;have hs:(((w.alloc a).alloc b).alloc c).heap.size=w.heap.size+3:=by simp
 refine⟨(Below.heap_alloc _ _ _ uo).trans h3.1,(Below.heap_alloc _ _ _ uo).trans h3.2.1,(Below.heap_alloc _ _ _ uo).trans h3.2.2.1,?_,by simp,?_⟩
 ·have:=zq (((w.alloc a).alloc b).alloc c) d
  rw[hs] at this;exact this
 ·exact((((Below.refl _ w).alloc zn _).alloc us _).alloc (by simp;omega) _).alloc (by simp;omega) _
theorem zmr (b len cap:Nat) (ts:Nat→ByteArray) (hlen:len≤1000) (hts:∀ j,j<len→(ts j).size≤maxLen) (h16:(cat (fun j=>dn (ts j)) len).length=16) (w:World) (hb:b<w.heap.size) (hcs:∀ j,j<len→w.cell? ⟨b,j,none⟩=some (.string (ts j))):
  CallsIn Fence.wide 5 Tryz.prog 241 #[.slice (some ⟨b,0,none⟩) len cap] w fun e W'=>e=.returned (.agg (cI (lf (cat (fun j=>dn (ts j)) len))))∧Below w.heap.size w W':=by
 refine callsIn_of_wp_marks Tryz.func241 rfl trivial ?_ rfl;simp only[Tryz.ntmps241,eR,eS,eT,Nat.reduceAdd,Nat.reduceSub,eU,eV,eW,eX,eY,eZ];gi_wp2;refine(wpIn_wide (n:=5)).2 (wp_scope_straight ((wpIn_wide (n:=5)).1 ?_));gi_wp2;refine wpIn_label ?_
 gi_wp2_with (refine⟨trivial,?_⟩;gi_at_call 263;refine(zmp _ _ _ _ _).mono ?_;rintro e w' ⟨rfl,rfl⟩)
 have zz:(#[.int .u32 0,.int .u32 0,.int .u32 0,.int .u32 0,.int .u32 0,.int .u32 0,.int .u32 0,.int .u32 0,.int .u32 0,.int .u32 0,.int .u32 0,.int .u32 0,.int .u32 0,.int .u32 0,.int .u32 0,.int .u32 0]:Array Value)=cI (lf []):=rfl;rw[zz];obtain⟨W0,hW0⟩:∃ W0,(((w.alloc (.cells (cI (lf [])) 280)).alloc (.cells (cI (lf [])) 280)).alloc (.cells #[.int .i64 0] 3)).alloc (.cells #[.slice (some ⟨b,0,none⟩) len cap] 37)=W0:=⟨_,rfl⟩;have f4:=rj w (.cells (cI (lf [])) 280) (.cells (cI (lf [])) 280) (.cells #[.int .i64 0] 3) (.cells #[.slice (some ⟨b,0,none⟩) len cap] 37);rw[hW0] at f4 ⊢;clear hW0 zz;obtain⟨b0,b1,b2,b3,hsz,hB0⟩:=f4;have hc3:W0.cell? ⟨w.heap.size+1+1+1,0,none⟩=some (.slice (some ⟨b,0,none⟩) len cap):=by rw[zr b3];rfl
 have hcs0:∀ j,j<len→W0.cell? ⟨b,j,none⟩=some (.string (ts j)):=fun j hj=>(hB0.cell (p:=⟨b,j,none⟩) hb).trans (hcs j hj)
 refine wpIn_rangeFunc_ownF rfl uo (gf:=275) (lb:=#[.pointer (some ⟨w.heap.size+1+1+1,0,none⟩)]) rfl trivial (enters_of Tryz.func275 uk rfl)
  (zgR 4 uo (w.heap.size+1+1+1) w.heap.size b len cap ts hlen hts hb W0 uo uo hc3 hcs0) belowK_t (belowK_b uo) (Below.refl _ _) (fun _=>rfl)
  (fun pre W=>(pre.length<16∧W.heap[w.heap.size]? =some (.cells (cI (lf [])) 280 (0,0))∧W.heap[w.heap.size+1]? =some (.cells (cI (lf pre)) 280 (0,0))∧W.heap[w.heap.size+1+1]? =some (.cells #[.int .i64 (pre.length:Int)] 3 (0,0)))∧Below w.heap.size w W)
  (fun c pre W=>(c=.exit 0∧pre.length=16∧W.heap[w.heap.size]? =some (.cells (cI (lf [])) 280 (0,0))∧W.heap[w.heap.size+1]? =some (.cells (cI (lf pre)) 280 (0,0)))∧Below w.heap.size w W)
  (OwnFrom.and (Own.from (fun s A B row hs hg hr=>⟨hs.1,mi hs.2.1 rfl hg hr,mi hs.2.2.1 rfl hg hr,mi hs.2.2.2 rfl hg hr⟩) _) (ownFrom_below zn uo))
  (fun c=>OwnFrom.and (Own.from (fun s A B row hs hg hr=>⟨hs.1,hs.2.1,mi hs.2.2.1 rfl hg hr,mi hs.2.2.2 rfl hg hr⟩) _) (ownFrom_below zn uo))
  ⟨⟨by simp,b0,b1,b2⟩,hB0⟩
  (fun x=>{ tmps:=#[.slice (some ⟨b,0,none⟩) len cap,undef,.pointer (some ⟨w.heap.size,0,none⟩),.pointer (some ⟨w.heap.size+1,0,none⟩),.pointer (some ⟨w.heap.size+1+1,0,none⟩),.int .u32 x,.slice (some ⟨b,0,none⟩) len cap,.func (.func 275) #[] #[.pointer (some ⟨w.heap.size+1+1+1,0,none⟩)],.int .u32 x,undef,undef,undef,undef,undef,undef,undef,undef],defers:=[] }) ?assign ?body ?done ?stop
 case assign=>
  intro l x W K hK;gi_wp2;exact hK
 case body=>
  rintro l pre x W ⟨⟨hlt,h0,h1,h2⟩,hB⟩ _;have g0:(0:Int)≤(pre.length:Int):=uo
  have g1:(pre.length:Int)<16:=uo
  have c2:W.cell? ⟨w.heap.size+1+1,0,none⟩=some (.int .i64 (pre.length:Int)):=by rw[zr h2];rfl
  have z2:=frozen_of_row W _ 0 _ _ h2;have c1:W.cell? ⟨w.heap.size+1,pre.length,none⟩=some (.int .u32 (lf pre pre.length)):=by rw[zr h1];exact nO _ _ hlt
  have z1:=frozen_of_row W (w.heap.size+1) pre.length _ _ h1;have H0:Hid _:=h0;have H1:Hid _:=h1;have H2:Hid _:=h2;have HB:Hid _:=hB;have HC:Hid _:=hcs;clear h0 h1 h2 hB b0 b1 b2 b3 hB0 hc3 hcs0 hts hcs h16 hsz
  have hs1:∀ v:Int,((W.setCell ⟨w.heap.size+1,pre.length,none⟩ (.int .u32 x)).setCell ⟨w.heap.size+1+1,0,none⟩ (.int .i64 v)).heap[w.heap.size]? =some (.cells (cI (lf [])) 280 (0,0))∧
    ((W.setCell ⟨w.heap.size+1,pre.length,none⟩ (.int .u32 x)).setCell ⟨w.heap.size+1+1,0,none⟩ (.int .i64 v)).heap[w.heap.size+1]? =some (.cells (cI (lf (pre++[x]))) 280 (0,0))∧
    ((W.setCell ⟨w.heap.size+1,pre.length,none⟩ (.int .u32 x)).setCell ⟨w.heap.size+1+1,0,none⟩ (.int .i64 v)).heap[w.heap.size+1+1]? =some (.cells #[.int .i64 v] 3 (0,0)):=fun v=>by
   refine⟨?_,?_,?_⟩
   ·rw[Below.heap_setCell _ _ _ _ (by simp;omega),Below.heap_setCell _ _ _ _ us];exact H0.o
   ·rw[Below.heap_setCell _ _ _ _ us,zn0];exact nZ _ _ _ _ _ H1.o hlt
   ·have e:(W.setCell ⟨w.heap.size+1,pre.length,none⟩ (.int .u32 x)).heap[w.heap.size+1+1]? =some (.cells #[.int .i64 (pre.length:Int)] 3 (0,0)):=by rw[Below.heap_setCell _ _ _ _ us];exact H2.o
    rw[zx _ _ _ _ _ _ e];rfl
  have HS1:Hid _:=hs1;clear hs1;by_cases h16:pre.length+1=16
  ·have hq:(((pre.length:Int)+1)==16)=true:=by simp;omega
   gi_wp2;exact⟨(KeepsOthers.setCell _ _ _).trans (KeepsOthers.setCell _ _ _),⟨rfl,by simp;omega,(HS1.o _).1,(HS1.o _).2.1⟩,(HB.o.setCell us _).setCell (by simp;omega) _⟩
  ·have hq:(((pre.length:Int)+1)==16)=false:=by simp;omega
   gi_wp2;exact⟨(KeepsOthers.setCell _ _ _).trans (KeepsOthers.setCell _ _ _),((Below.refl _ _).setCell us _).setCell (by simp;omega) _,⟨by simp;omega,(HS1.o _).1,(HS1.o _).2.1,by simpa using(HS1.o _).2.2⟩,(HB.o.setCell us _).setCell (by simp;omega) _⟩
 case done=>
  rintro D ys W hD rfl ⟨⟨hlt,_⟩,_⟩ hK;omega
 case stop=>
  rintro D c pre W hD hpre ⟨⟨rfl,hp16,h0,h1⟩,hB⟩ hK;obtain rfl:pre=cat (fun j=>dn (ts j)) len:=hpre.eq_of_length uo;have H0:Hid _:=h0;have H1:Hid _:=h1;have HB:Hid _:=hB;have HK:Hid _:=hK;have HD:Hid _:=hD;clear b0 b1 b2 b3 hB0 hc3 hcs0 hts hcs h16 hp16 hpre h0 h1 hB hK hD
  gi_wp2_with (first|(refine zbW rfl 280 _ rfl (w.heap.size+1) rfl 280 _ (0,0) _ H1.o Tryz.underlying280 rfl (by rw[jO];kernel_rfl) ?_)|(refine zcQ rfl 280 _ _ rfl w.heap.size _ rfl rfl 280 _ H0.o (by rw[jO];kernel_rfl) (by rw[jO,jO]) (pw _) ?_))
  have hD:=HD.o;have hne:D≠w.heap.size:=uo
  have hK':(W.setRow w.heap.size (cI (lf (cat (fun j=>dn (ts j)) len)))).heap[D]? =some (.deferred (some [])):=(setRow_other _ _ _ _ hne).trans HK.o
  have hR:((W.setRow w.heap.size (cI (lf (cat (fun j=>dn (ts j)) len)))).putObj D (.deferred none)).heap[w.heap.size]? =some (.cells (cI (lf (cat (fun j=>dn (ts j)) len))) 280 (0,0)):=
   (World.putObj_heap_other hne.symm).trans (setRow_heap _ _ _ _ _ _ H0.o)
  rw[Exit.noGoto_ret];refine⟨by simp,.inl ⟨_,_,rfl,run_takeDeferred hK',?_⟩⟩;refine⟨_,results_cell_row Tryz.results241 _ _ w.heap.size 280 _ (0,0) _ rfl hR Tryz.underlying280 rfl (by rw[jO];kernel_rfl),rfl,?_⟩;exact(below_setRow HB.o zn _).trans (belowK_b (w:=w) zn _ D _ _ uo hK' rfl rfl)
end Ra
namespace Ra
open Go.RowKit
def opn:ByteArray:=⟨#[101,120,112,97,110,100,32,51,50,45,98,121,116,101,32,107]⟩
def jR:ByteArray:=⟨#[0,0,0,0]⟩
def tx (key nonce:ByteArray):Nat→ByteArray
 |0=>opn
 |1=>key
 |2=>jR
 |_=>nonce
theorem zpA (key nonce:ByteArray) (h1:key.size=32) (h2:nonce.size=12):
  cat (fun j=>dn (tx key nonce j)) 4=upto (wd opn) 4++upto (wd key) 8++upto (wd jR) 1++upto (wd nonce) 3:=by
 have s0:opn.size=16:=by decide
 have s2:jR.size=4:=by decide
 have e0:dn (tx key nonce 0)=upto (wd opn) 4:=by show upto (wd opn) (opn.size/4)=_;rw[s0]
 have e1:dn (tx key nonce 1)=upto (wd key) 8:=by show upto (wd key) (key.size/4)=_;rw[h1]
 have e2:dn (tx key nonce 2)=upto (wd jR) 1:=by show upto (wd jR) (jR.size/4)=_;rw[s2]
 have e3:dn (tx key nonce 3)=upto (wd nonce) 3:=by show upto (wd nonce) (nonce.size/4)=_;rw[h2]
 simp only[mR,e0,e1,e2,e3];simp[cat]
theorem zpB (key nonce:ByteArray) (h1:key.size=32) (h2:nonce.size=12):(cat (fun j=>dn (tx key nonce j)) 4).length=16:=by
 rw[zpA key nonce h1 h2];simp[fZ]
theorem rk (key nonce:ByteArray) (h1:key.size=32) (h2:nonce.size=12) (w:World):
  Calls Tryz.prog 214 #[.string key,.string nonce] w fun e w'=>e=.returned (.agg (cI (lf (cat (fun j=>dn (tx key nonce j)) 4))))∧Below w.heap.size w w':=by
 have HL:=zpB key nonce h1 h2;have s0:opn.size=16:=by decide
 have s2:jR.size=4:=by decide
 have hts:∀ j,j<4→(tx key nonce j).size≤maxLen:=fun j hj=>by
  match j,hj with
  |0,_=>show opn.size≤_;rw[s0];decide
  |1,_=>show key.size≤_;rw[h1];decide
  |2,_=>show jR.size≤_;rw[s2];decide
  |3,_=>show nonce.size≤_;rw[h2];decide
  |j+4,h=>exact absurd h uo
 have zz:(#[.int .u32 0,.int .u32 0,.int .u32 0,.int .u32 0,.int .u32 0,.int .u32 0,.int .u32 0,.int .u32 0,.int .u32 0,.int .u32 0,.int .u32 0,.int .u32 0,.int .u32 0,.int .u32 0,.int .u32 0,.int .u32 0]:Array Value)=cI (lf []):=rfl;go_enter Tryz.func214,Tryz.ntmps214;go_wp2_with fail;clear zz;have hlast:=zq (w.alloc (.cells (cI (lf [])) 280)) (.cells #[.string opn,.string key,.string jR,.string nonce] 9);rw[World.size_alloc] at hlast;have hres:=(Below.heap_alloc (w.alloc (.cells (cI (lf [])) 280)) (.cells #[.string opn,.string key,.string jR,.string nonce] 9) w.heap.size us).trans (zq w _);have hbel:Below w.heap.size w ((w.alloc (.cells (cI (lf [])) 280)).alloc (.cells #[.string opn,.string key,.string jR,.string nonce] 9)):=((Below.refl _ w).alloc zn _).alloc us _;have hsz:((w.alloc (.cells (cI (lf [])) 280)).alloc (.cells #[.string opn,.string key,.string jR,.string nonce] 9)).heap.size=w.heap.size+1+1:=by simp
 have hfill:=callsIn_wide.1 (zmr (w.heap.size+1) 4 4 (tx key nonce) uo hts HL ((w.alloc (.cells (cI (lf [])) 280)).alloc (.cells #[.string opn,.string key,.string jR,.string nonce] 9)) us
  (fun j hj=>by
   rw[zr hlast]
   match j,hj with
   |0,_=>rfl
   |1,_=>rfl
   |2,_=>rfl
   |3,_=>rfl
   |j+4,h=>exact absurd h uo))
 rw[hsz] at hfill;refine hfill.mono ?_;rintro e w1 ⟨rfl,hb1⟩;have HR:Hid (w1.heap[w.heap.size]? =some (.cells (cI (lf [])) 280 (0,0))):=(hb1.block _ uo).trans hres;have HB:Hid (Below w.heap.size w w1):=hbel.trans (hb1.mono uo);clear hfill hlast hres hbel hsz hb1 hts HL h1 h2 s0 s2
 go_wp2_with (refine wpList_store_row rfl 280 _ _ rfl w.heap.size _ rfl rfl 280 _ HR.o (by rw[jO];kernel_rfl) (by rw[jO,jO]) (pw _) ?_)
 refine bodyPost_ret (results_cell_row Tryz.results214 _ _ w.heap.size 280 _ (0,0) _ rfl (setRow_heap _ _ _ _ _ _ HR.o) Tryz.underlying280 rfl (by rw[jO];kernel_rfl)) rfl ⟨rfl,below_setRow HB.o zn _⟩
end Ra
end Go.Proofs.YtokfnghckpgjmaaGreatDoor
