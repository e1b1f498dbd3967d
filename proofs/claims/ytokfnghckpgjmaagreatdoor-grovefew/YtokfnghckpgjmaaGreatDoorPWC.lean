/- A number written in so many bytes, the least first. -/
import Derived.Test.YtokfnghckpgjmaaGreatDoorPPo
import Derived.Test.YtokfnghckpgjmaaGreatDoorPPk
import Derived.Test.YtokfnghckpgjmaaGreatDoorQYB
import Derived.Test.YtokfnghckpgjmaaGreatDoorPWR
import Derived.Test.YtokfnghckpgjmaaGreatDoorPPn
set_option maxRecDepth 100000
set_option maxHeartbeats 2000000
namespace Go.Proofs.YtokfnghckpgjmaaGreatDoor
namespace Rs
open Go.RowKit Go.Lib Go.Shelf
attribute [local go_sem] Oper.semAt_some
theorem tV (n:Int) (w:World):
  Calls Tryz.prog 245 #[.int .u64 n] w fun e w'=>e=.returned (.func (.func 265) #[] #[.pointer (some ⟨w.heap.size,0,none⟩)])∧w'=w.alloc (.cells #[.int .u64 n] 42):=by
 go_enter Tryz.func245,Tryz.ntmps245;go_wp2_with fail;go_ret;exact⟨rfl,rfl⟩
theorem zk7 (n:Int) (n0:0≤n) (N b1 p:Nat) (W1:World) (h1:W1.heap[b1]? =some (.cells #[.int .u64 n] 42 (0,0))) (R:Nat→World→Prop) (Rx:World→Prop)
  (hY:∀ k W,k<N→R k W→YieldAt Fence.wide 3 Tryz.prog p #[.int .u8 (le n k)] W fun e W'=>(e=.returned (.bool true)∧R (k+1) W')∨(e=.returned (.bool false)∧Rx W'))
  (hN:∀ W,¬R N W) (h0:R 0 W1):
  CallsIn Fence.wide 4 Tryz.prog 265 (#[.func (.yield p) #[] #[]]++#[.pointer (some ⟨b1,0,none⟩)]) W1 fun e W'=>(∃ v,e=.returned v)∧(R N W'∨Rx W'):=by
 have HY:Hid _:=hY;have HN:Hid _:=hN;have H0:Hid (R 0 W1):=h0;have c1:W1.cell? ⟨b1,0,none⟩=some (.int .u64 n):=by rw[zr h1];rfl
 clear hY hN h0 h1;refine callsIn_of_wp Tryz.func265 rfl trivial ?_ rfl;simp only[Tryz.ntmps265,eR,eS,eT,Nat.reduceAdd,Nat.reduceSub,eU,eV,eW,eX,eY,eZ];gi_wp2;clear c1
 gi_loopg [3] (N) (fun g v wr=>∃ k:Nat,k≤N∧g=N - k∧v=.int .u64 (n/256 ^ k)∧R k wr)
 case atStart=>exact⟨0,Nat.zero_le _,rfl,by rw[Int.pow_zero,Int.ediv_one],H0.o⟩
 case round=>
  clear H0;obtain⟨k,hk,rfl,rfl,hRk⟩:=hrel
  have hkN:k<N:=by
   rcases Nat.lt_or_ge k N with h|h
   ·exact h
   ·have e:k=N:=uo
    rw[e] at hRk;exact(HN.o _ hRk).elim
  have HE:Hid (n/256 ^ k/256=n/256 ^ (k+1)):=by
   refine(?_:n/256 ^ k/256=n/256 ^ (k+1));rw[Int.pow_succ,Int.ediv_ediv_of_nonneg (Int.le_of_lt (pow_pos k))]
  obtain⟨fn,tmps,assign,body,hy,hRd⟩:=HY.o k wr hkN hRk;have HL:Hid (le n k=n/256 ^ k%256):=rfl;have hx0:0≤n/256 ^ k:=Int.ediv_nonneg n0 (Int.le_of_lt (pow_pos k));rw[HL.o] at hy;obtain⟨x,hx⟩:∃ x,n/256 ^ k=x:=⟨_,rfl⟩;rw[hx] at HE hy hx0 ⊢;clear HL hx hRk;gi_wp2;refine hRd.mono ?_;rintro e W6 (⟨rfl,hR6⟩|⟨rfl,hx6⟩)
  ·gi_wp2
   gi_roundg (N - (k+1))
   case rel=>exact⟨k+1,by omega,rfl,by rw[←HE.o],hR6⟩
   case measure=>omega
  ·gi_wp2
   refine bodyPost_ret (results_none rfl _ _ _) rfl ?_;exact⟨⟨_,rfl⟩,.inr hx6⟩
theorem Wr.cells {B b:Nat} {bs:List Value} {W W':World} (h:Wr B b bs W) (hk:∀ (j:Nat) (o:Obj),W.heap[j]? =some o→o.isCells=true→W'.heap[j]? =some o):Wr B b bs W':=by
 have key:∀ p,BuilderAt 284 5 B b p bs W→BuilderAt 284 5 B b p bs W':=fun p ⟨hB,v,hb,⟨hl,ho⟩,hne⟩=>
  ⟨hB,v,hk _ _ hb rfl,⟨hl,ho.elim .inl fun⟨g,cap,cur,hv,hg,hh,r⟩=>.inr ⟨g,cap,cur,hv,hg,hk _ _ hh rfl,r⟩⟩,hne⟩
 exact h.elim (fun x=>.inl (key _ x)) (fun x=>.inr (key _ x))
theorem Wr.below {B b:Nat} {bs:List Value} {W W':World} (h:Wr B b bs W) (hk:Below W.heap.size W W'):Wr B b bs W':=
 h.cells fun j _ ho _=>(hk.block j (zi ho).1).trans ho
theorem Wr.block {B b:Nat} {bs:List Value} {W:World} (h:Wr B b bs W):∃ cs,W.heap[b]? =some (.cells cs 284 (0,0)):=
 h.elim (fun⟨_,_,hb,_⟩=>⟨_,hb⟩) (fun⟨_,_,hb,_⟩=>⟨_,hb⟩)
theorem Wr.lt {B b:Nat} {bs:List Value} {W:World} (h:Wr B b bs W):b<W.heap.size:=by
 obtain⟨cs,hb⟩:=h.block;exact(zi hb).1
theorem tX {B b:Nat} {bs:List Value} {W W':World} (h:Wr B b bs W) (hs:W.heap.size≤W'.heap.size) (hk:OthersKept 5 (some b) W W') (B':Nat):KeepsFrom B' W W':=
 ⟨hs,fun k o _ ho hc=>hk k o ho (fun e=>by
  obtain⟨cs,hb⟩:=h.block;cases e;rw[hb] at ho;cases ho;cases hc) (fun c fz e=>by rw[e] at hc;cases hc)⟩
theorem tY {b B:Nat} {w W W':World} (h:OthersKept 5 (some b) w W) (hk:Below B W W') (hB:w.heap.size≤B):OthersKept 5 (some b) w W':=
 fun k o ho hb hn=>(hk.block k (Nat.lt_of_lt_of_le (zi ho).1 hB)).trans (h k o ho hb hn)
theorem nu {w W:World} {b q:Nat} {v:Value} {t:TypeId} {fr:Nat × Nat} (h:OthersKept 5 (some b) w W) (hq:w.heap[q]? =some (.cells #[v] t fr)) (hb:q≠b) (ht:t≠5):W.heap[q]? =some (.cells #[v] t fr):=
 h q _ hq (fun e=>hb (Option.some.inj e)) (fun c fz e=>by cases e;exact ht rfl)
def NJ (B b:Nat) (bs:List Value) (n:Int) (size q1 q2:Nat) (w:World) (k:Nat) (W:World):Prop:=
 k≤size∧Wr B b (bs++(Rp.upto (le n) k).map (Value.int .u8)) W∧W.heap[q1]? =some (.cells #[.pointer (some ⟨b,0,none⟩)] 310 (0,0))∧W.heap[q2]? =some (.cells #[.int .i64 ((bs.length:Int)+(size:Int))] 3 (0,0))∧Below B w W∧OthersKept 5 (some b) w W
theorem NJ.kept {B b:Nat} {bs:List Value} {n:Int} {size q1 q2 k:Nat} {w W W':World} (h:NJ B b bs n size q1 q2 w k W) (hb:Below w.heap.size W W') (hk:∀ (j:Nat) (o:Obj),W.heap[j]? =some o→o.isCells=true→W'.heap[j]? =some o) (hB:B≤w.heap.size):NJ B b bs n size q1 q2 w k W':=
 ⟨h.1,h.2.1.cells hk,hk _ _ h.2.2.1 rfl,hk _ _ h.2.2.2.1 rfl,h.2.2.2.2.1.trans (hb.mono hB),tY h.2.2.2.2.2 hb zn⟩
theorem zk8 (B b:Nat) (bs:List Value) (n:Int) (n0:0≤n) (size:Nat) (hsz:size≤100) (w:World) (h:Wr B b bs w) (hlen:bs.length≤100) (hBw:B≤w.heap.size):
  CallsIn Fence.wide 5 Tryz.prog 216 #[.pointer (some ⟨b,0,none⟩),.int .u64 n,.int .i64 (size:Int)] w fun e w'=>e=.returned (.tuple #[])∧Wr B b (bs++(Rp.upto (le n) size).map (Value.int .u8)) w'∧Below B w w'∧OthersKept 5 (some b) w w':=by
 have HW:Hid (Wr B b bs w):=h;have h0lt:b<w.heap.size:=h.lt;have l0:(0:Int)≤(bs.length:Int):=uo
 have l1:(bs.length:Int)≤100:=uo
 have z0:(0:Int)≤(size:Int):=uo
 have z1:(size:Int)≤100:=uo
 clear h;refine callsIn_of_wp_marks Tryz.func216 rfl trivial ?_ rfl;simp only[Tryz.ntmps216,eR,eS,eT,Nat.reduceAdd,Nat.reduceSub,eU,eV,eW,eX,eY,eZ];gi_wp2;refine(wpIn_wide (n:=5)).2 (wp_scope_straight ((wpIn_wide (n:=5)).1 ?_));gi_wp2;obtain⟨w1,hw1⟩:∃ w1,w.alloc (.cells #[.pointer (some ⟨b,0,none⟩)] 310)=w1:=⟨_,rfl⟩;have b1:Below w.heap.size w w1:=by rw[←hw1];exact(Below.refl _ _).alloc zn _
 have s1:w1.heap.size=w.heap.size+1:=by rw[←hw1];simp
 have X1:Hid (w1.heap[w.heap.size]? =some (.cells #[.pointer (some ⟨b,0,none⟩)] 310 (0,0))):=by rw[←hw1];exact zq w _
 have W1:Hid (Wr B b bs w1):=HW.o.below b1;rw[hw1];clear hw1;refine⟨trivial,?_⟩;refine(callsIn_wide.2 (zj1 B b bs w1 W1.o)).mono ?_;rintro e w1' ⟨rfl,hw1'⟩;subst hw1';gi_wp2;obtain⟨w2,hw2⟩:∃ w2,w1'.alloc (.cells #[.int .i64 ((bs.length:Int)+(size:Int))] 3)=w2:=⟨_,rfl⟩;have b2:Below w1'.heap.size w1' w2:=by rw[←hw2];exact(Below.refl _ _).alloc zn _
 have s2:w2.heap.size=w.heap.size+2:=by rw[←hw2];simp;omega
 have X2:Hid (w2.heap[w.heap.size+1]? =some (.cells #[.int .i64 ((bs.length:Int)+(size:Int))] 3 (0,0))):=by rw[←hw2,←s1];exact zq w1' _
 have Y2:Hid (w2.heap[w.heap.size]? =some (.cells #[.pointer (some ⟨b,0,none⟩)] 310 (0,0))):=(b2.block _ uo).trans X1.o;have W2:Hid (Wr B b bs w2):=W1.o.below b2;have B2:Hid (Below w.heap.size w w2):=b1.trans (b2.mono uo);rw[hw2];clear hw2 b1 b2 X1 W1;refine wpIn_label ?_;gi_wp2;refine⟨trivial,?_⟩;refine(callsIn_wide.2 (tV n w2)).mono ?_;rintro e w3 ⟨rfl,hw3⟩;have b3:Below w2.heap.size w2 w3:=by rw[hw3];exact(Below.refl _ _).alloc zn _
 have s3:w3.heap.size=w.heap.size+3:=by rw[hw3];simp;omega
 have Z3:Hid (w3.heap[w2.heap.size]? =some (.cells #[.int .u64 n] 42 (0,0))):=by rw[hw3];exact zq w2 _
 have HJ0:Hid (NJ B b bs n size w.heap.size (w.heap.size+1) w 0 w3):=
  ⟨Nat.zero_le _,by simpa [Rp.upto] using W2.o.below b3,(b3.block _ uo).trans Y2.o,(b3.block _ uo).trans X2.o,(B2.o.trans (b3.mono uo)).mono hBw,
   tY (OthersKept.refl 5 (some b) w) (B2.o.trans (b3.mono uo)) zn⟩
 clear hw3 b3 W2 X2 Y2 B2;gi_wp2;rw[s2] at Z3
 refine Rp.ziN rfl uo (gf:=265) (lb:=#[.pointer (some ⟨w.heap.size+2,0,none⟩)]) rfl trivial (enters_of Tryz.func265 uk rfl) (size+1) (fun k=>#[.int .u8 (le n k)]) (fun _=>rfl)
  (fun k W=>NJ B b bs n size w.heap.size (w.heap.size+1) w k W) (fun W=>NJ B b bs n size w.heap.size (w.heap.size+1) w size W) (.exit 0)
  (fun k W W' h hk=>h.kept (hk.1.mono uo) hk.2 hBw) (fun W W' h hk=>h.kept (hk.1.mono uo) hk.2 hBw) HJ0.o
  (fun k a' _=>a'={ tmps:=#[Value.pointer (some ⟨b,0,none⟩),Value.int IntKind.u64 n,Value.int IntKind.i64 (size:Int),
     Value.pointer (some ⟨w.heap.size,0,none⟩),undef,undef,Value.pointer (some ⟨w.heap.size+1,0,none⟩),Value.int IntKind.u8 (le n k),
     Value.pointer (some ⟨b,0,none⟩),Value.pointer (some ⟨b,0,none⟩),Value.pointer (some ⟨b,0,none⟩),Value.int IntKind.i64 (bs.length:Int),Value.int IntKind.i64 (size:Int),
     Value.int IntKind.i64 ((bs.length:Int)+(size:Int)),Value.int IntKind.u64 n,Value.func (Fn.func 265) #[] #[Value.pointer (some ⟨w.heap.size+2,0,none⟩)],
     Value.int IntKind.u8 (le n k),undef,undef,undef,undef,undef,undef,undef,undef,undef,undef,undef],defers:=[] })
  (fun k a' W l o' h _ _=>h) ?assign ?body ?iter ?done ?stop
 case assign=>
  intro l k W K _ _ _ hK;gi_wp2;exact hK _ _ (Below.refl _ _) rfl
 case iter=>
  intro l W1 hB1 hs1 R Rx _ _ hRJ hY h0;exact zk7 n n0 (size+1) (w.heap.size+2) l W1 ((hB1.block _ uo).trans Z3.o) R Rx hY (fun W hW=>by have:=(hRJ _ _ hW).1;omega) h0
 case done=>
  rintro D W _ ⟨h,_⟩ _;omega
 case stop=>
  rintro D W hD hj hdf;have HJ:Hid (NJ B b bs n size w.heap.size (w.heap.size+1) w size W):=hj;clear hj;gi_wp2;rw[Exit.noGoto_normal];refine⟨by simp,.inl ⟨_,_,rfl,run_takeDeferred hdf,?_⟩⟩;have hput:Below w.heap.size W (W.putObj D _):=Rp.fh W (Obj.deferred none) uo;refine⟨_,results_none rfl _ _ _,rfl,HJ.o.2.1.cells (fun j o ho hc=>?_),HJ.o.2.2.2.2.1.trans (hput.mono hBw),tY HJ.o.2.2.2.2.2 hput zn⟩;by_cases e:j=D
  ·subst e;rw[hdf] at ho;cases ho;cases hc
  ·exact(World.putObj_heap_other e).trans ho
 case body=>
  rintro l k a' W hk ⟨hks,hw,hx,hy,hbw,hok⟩ rfl hWs;have HX:Hid (W.heap[w.heap.size]? =some (.cells #[.pointer (some ⟨b,0,none⟩)] 310 (0,0))):=hx;have HY:Hid (W.heap[w.heap.size+1]? =some (.cells #[.int .i64 ((bs.length:Int)+(size:Int))] 3 (0,0))):=hy;have HB:Hid (Below B w W):=hbw;have HO:Hid (OthersKept 5 (some b) w W):=hok;have c1:W.cell? ⟨w.heap.size,0,none⟩=some (.pointer (some ⟨b,0,none⟩)):=by rw[zr hx];rfl
  have c2:W.cell? ⟨w.heap.size+1,0,none⟩=some (.int .i64 ((bs.length:Int)+(size:Int))):=by rw[zr hy];rfl
  have hL:(bs++(Rp.upto (le n) k).map (Value.int .u8)).length=bs.length+k:=by rw[List.length_append,List.length_map,Rp.fZ]
  have HS:Hid (bs++(Rp.upto (le n) (k+1)).map (Value.int .u8)=bs++(Rp.upto (le n) k).map (Value.int .u8)++[.int .u8 (le n k)]):=by
   refine(?_:bs++(Rp.upto (le n) (k+1)).map (Value.int .u8)=bs++(Rp.upto (le n) k).map (Value.int .u8)++[.int .u8 (le n k)]);simp[Rp.upto,List.range_succ]
  obtain⟨xs,hxs⟩:∃ xs,bs++(Rp.upto (le n) k).map (Value.int .u8)=xs:=⟨_,rfl⟩;have HXS:Hid (bs++(Rp.upto (le n) k).map (Value.int .u8)=xs):=hxs;rw[hxs] at hw hL HS;have HW:Hid (Wr B b xs W):=hw;have hb0:w.heap.size≠b:=by have:=h0lt;omega
  have hb1:w.heap.size+1≠b:=by have:=h0lt;omega
  clear hx hy hbw hok hw hxs;have hmx:Tryz.prog.follows .mixedOrders=true:=uk
  have HLEN:Hid (∀ V,Wr B b xs V→CallsIn Fence.wide 2 Tryz.prog 152 #[.pointer (some ⟨b,0,none⟩)] V fun e w'=>e=.returned (.int .i64 ((bs.length:Int)+(k:Int)))∧w'=V):=fun V hV=>by
   have h:=zj1 B b xs V hV;rw[hL] at h;exact callsIn_wide.2 (h.mono fun e w' ⟨he,hw⟩=>⟨by rw[he];simp,hw⟩)
  have hq0:(0:Int)≤(k:Int):=uo
  have HD:Hid (KeepsFrom w3.heap.size W W.drew):=⟨Nat.le_refl _,fun _ _ _ h _=>h⟩;by_cases hend:k=size
  ·have q1:((bs.length:Int)+(k:Int)==(bs.length:Int)+(size:Int))=true:=by simp;omega
   have FW:Hid (Wr B b (bs++(Rp.upto (le n) size).map (Value.int .u8)) W.drew):=by
    refine(?_:Wr B b (bs++(Rp.upto (le n) size).map (Value.int .u8)) W.drew);rw[←hend,HXS.o];exact HW.o
   clear hend HS;gi_wp2;refine wpIn_region_any hmx ?_;change wpAnyIn _ _ _ _ _ _ _ _ _ (World.drew _);refine mu (F:=Fence.wide) l (by intro o ho c hc;simp at ho;rcases ho with rfl|rfl|rfl|rfl|rfl|rfl<;>cases hc) _ _ _ _ ?_;refine wpAnyIn_ready (rs:=[0,4]) uk us ?_;refine(AllReadyIn.cons rfl (fun K hK=>?_) (AllReadyIn.cons rfl (fun K hK=>?_) AllReadyIn.nil))
   ·go_simp
    refine hK _ _ ?_;clear hK K;refine cV (i:=1) (v:=?_) rfl rfl ?_ ?_;rotate_left
    ·intro w
     go_simp
     try with_reducible rfl
    conv in(Act.put _ _ _)=>simp only[bH,bI,bJ,Act.put,bK,bL,bM]
    refine cV (i:=2) (v:=?_) rfl rfl ?_ ?_;rotate_left
    ·intro w
     go_simp
     try with_reducible rfl
    conv in(Act.put _ _ _)=>simp only[bH,bI,bJ,Act.put,bK,bL,bM]
    refine wpAnyIn_ready (rs:=[3,4]) uk us ?_;refine(AllReadyIn.cons rfl (fun K hK=>?_) (AllReadyIn.cons rfl (fun K hK=>?_) AllReadyIn.nil))
    ·go_simp
     refine⟨trivial,(HLEN.o W.drew HW.o).mono ?_⟩;rintro e V ⟨rfl,rfl⟩;refine hK _ _ ?_;clear hK K;refine wpAnyIn_ready (rs:=[4]) uk us ?_;refine(AllReadyIn.cons rfl (fun K hK=>?_) AllReadyIn.nil);go_simp;refine hK _ _ ?_;clear hK K;refine cV (i:=5) (v:=?_) rfl rfl ?_ ?_;rotate_left
     ·intro w
      go_simp
      try with_reducible rfl
     conv in(Act.put _ _ _)=>simp only[bH,bI,bJ,Act.put,bK,bL,bM]
     refine wpAnyIn_done uk ?_ _;gi_wp2;exact⟨rfl,HD.o,Nat.le_refl _,FW.o,HX.o,HY.o,HB.o.drew,HO.o⟩
    ·go_simp
     refine hK _ _ ?_;clear hK K;refine wpAnyIn_ready (rs:=[3]) uk us ?_;refine(AllReadyIn.cons rfl (fun K hK=>?_) AllReadyIn.nil);go_simp;refine⟨trivial,(HLEN.o W.drew HW.o).mono ?_⟩;rintro e V ⟨rfl,rfl⟩;refine hK _ _ ?_;clear hK K;refine cV (i:=5) (v:=?_) rfl rfl ?_ ?_;rotate_left
     ·intro w
      go_simp
      try with_reducible rfl
     conv in(Act.put _ _ _)=>simp only[bH,bI,bJ,Act.put,bK,bL,bM]
     refine wpAnyIn_done uk ?_ _;gi_wp2;exact⟨rfl,HD.o,Nat.le_refl _,FW.o,HX.o,HY.o,HB.o.drew,HO.o⟩
   ·go_simp
    refine hK _ _ ?_;clear hK K;refine wpAnyIn_ready (rs:=[0]) uk us ?_;refine(AllReadyIn.cons rfl (fun K hK=>?_) AllReadyIn.nil);go_simp;refine hK _ _ ?_;clear hK K;refine cV (i:=1) (v:=?_) rfl rfl ?_ ?_;rotate_left
    ·intro w
     go_simp
     try with_reducible rfl
    conv in(Act.put _ _ _)=>simp only[bH,bI,bJ,Act.put,bK,bL,bM]
    refine cV (i:=2) (v:=?_) rfl rfl ?_ ?_;rotate_left
    ·intro w
     go_simp
     try with_reducible rfl
    conv in(Act.put _ _ _)=>simp only[bH,bI,bJ,Act.put,bK,bL,bM]
    refine wpAnyIn_ready (rs:=[3]) uk us ?_;refine(AllReadyIn.cons rfl (fun K hK=>?_) AllReadyIn.nil);go_simp;refine⟨trivial,(HLEN.o W.drew HW.o).mono ?_⟩;rintro e V ⟨rfl,rfl⟩;refine hK _ _ ?_;clear hK K;refine cV (i:=5) (v:=?_) rfl rfl ?_ ?_;rotate_left
    ·intro w
     go_simp
     try with_reducible rfl
    conv in(Act.put _ _ _)=>simp only[bH,bI,bJ,Act.put,bK,bL,bM]
    refine wpAnyIn_done uk ?_ _;gi_wp2;exact⟨rfl,HD.o,Nat.le_refl _,FW.o,HX.o,HY.o,HB.o.drew,HO.o⟩
  ·have q1:((bs.length:Int)+(k:Int)==(bs.length:Int)+(size:Int))=false:=by simp;omega
   have hkz:k+1≤size:=uo
   clear hend;gi_wp2;refine wpIn_region_any hmx ?_;change wpAnyIn _ _ _ _ _ _ _ _ _ (World.drew _);refine mu (F:=Fence.wide) l (by intro o ho c hc;simp at ho;rcases ho with rfl|rfl|rfl|rfl|rfl|rfl<;>cases hc) _ _ _ _ ?_;refine wpAnyIn_ready (rs:=[0,4]) uk us ?_;refine(AllReadyIn.cons rfl (fun K hK=>?_) (AllReadyIn.cons rfl (fun K hK=>?_) AllReadyIn.nil))
   ·go_simp
    refine hK _ _ ?_;clear hK K;refine cV (i:=1) (v:=?_) rfl rfl ?_ ?_;rotate_left
    ·intro w
     go_simp
     try with_reducible rfl
    conv in(Act.put _ _ _)=>simp only[bH,bI,bJ,Act.put,bK,bL,bM]
    refine cV (i:=2) (v:=?_) rfl rfl ?_ ?_;rotate_left
    ·intro w
     go_simp
     try with_reducible rfl
    conv in(Act.put _ _ _)=>simp only[bH,bI,bJ,Act.put,bK,bL,bM]
    refine wpAnyIn_ready (rs:=[3,4]) uk us ?_;refine(AllReadyIn.cons rfl (fun K hK=>?_) (AllReadyIn.cons rfl (fun K hK=>?_) AllReadyIn.nil))
    ·go_simp
     refine⟨trivial,(HLEN.o W.drew HW.o).mono ?_⟩;rintro e V ⟨rfl,rfl⟩;refine hK _ _ ?_;clear hK K;refine wpAnyIn_ready (rs:=[4]) uk us ?_;refine(AllReadyIn.cons rfl (fun K hK=>?_) AllReadyIn.nil);go_simp;refine hK _ _ ?_;clear hK K;refine cV (i:=5) (v:=?_) rfl rfl ?_ ?_;rotate_left
     ·intro w
      go_simp
      try with_reducible rfl
     conv in(Act.put _ _ _)=>simp only[bH,bI,bJ,Act.put,bK,bL,bM]
     refine wpAnyIn_done uk ?_ _;gi_wp2;refine⟨trivial,?_⟩;refine(CallsIn.inRound l (callsIn_wide.2 (oK B b xs (le n k) W.drew HW.o uo (by have:=HB.o.size;show B≤W.heap.size;omega)))).mono ?_;rintro e V ⟨rfl,hwV,hbV,hkV⟩;have FV:Hid (NJ B b bs n size w.heap.size (w.heap.size+1) w (k+1) V):=⟨hkz,by rw[HS.o];exact hwV,nu hkV HX.o hb0 ud,nu hkV HY.o hb1 ud,HB.o.drew.trans hbV,HO.o.trans hkV⟩;have KV:Hid (KeepsFrom w3.heap.size W V):=HD.o.trans (tX (W:=W.drew) HW.o hbV.size hkV _);clear hwV hbV hkV;gi_wp2;exact⟨KV.o,FV.o⟩
    ·go_simp
     refine hK _ _ ?_;clear hK K;refine wpAnyIn_ready (rs:=[3]) uk us ?_;refine(AllReadyIn.cons rfl (fun K hK=>?_) AllReadyIn.nil);go_simp;refine⟨trivial,(HLEN.o W.drew HW.o).mono ?_⟩;rintro e V ⟨rfl,rfl⟩;refine hK _ _ ?_;clear hK K;refine cV (i:=5) (v:=?_) rfl rfl ?_ ?_;rotate_left
     ·intro w
      go_simp
      try with_reducible rfl
     conv in(Act.put _ _ _)=>simp only[bH,bI,bJ,Act.put,bK,bL,bM]
     refine wpAnyIn_done uk ?_ _;gi_wp2;refine⟨trivial,?_⟩;refine(CallsIn.inRound l (callsIn_wide.2 (oK B b xs (le n k) W.drew HW.o uo (by have:=HB.o.size;show B≤W.heap.size;omega)))).mono ?_;rintro e V ⟨rfl,hwV,hbV,hkV⟩;have FV:Hid (NJ B b bs n size w.heap.size (w.heap.size+1) w (k+1) V):=⟨hkz,by rw[HS.o];exact hwV,nu hkV HX.o hb0 ud,nu hkV HY.o hb1 ud,HB.o.drew.trans hbV,HO.o.trans hkV⟩;have KV:Hid (KeepsFrom w3.heap.size W V):=HD.o.trans (tX (W:=W.drew) HW.o hbV.size hkV _);clear hwV hbV hkV;gi_wp2;exact⟨KV.o,FV.o⟩
   ·go_simp
    refine hK _ _ ?_;clear hK K;refine wpAnyIn_ready (rs:=[0]) uk us ?_;refine(AllReadyIn.cons rfl (fun K hK=>?_) AllReadyIn.nil);go_simp;refine hK _ _ ?_;clear hK K;refine cV (i:=1) (v:=?_) rfl rfl ?_ ?_;rotate_left
    ·intro w
     go_simp
     try with_reducible rfl
    conv in(Act.put _ _ _)=>simp only[bH,bI,bJ,Act.put,bK,bL,bM]
    refine cV (i:=2) (v:=?_) rfl rfl ?_ ?_;rotate_left
    ·intro w
     go_simp
     try with_reducible rfl
    conv in(Act.put _ _ _)=>simp only[bH,bI,bJ,Act.put,bK,bL,bM]
    refine wpAnyIn_ready (rs:=[3]) uk us ?_;refine(AllReadyIn.cons rfl (fun K hK=>?_) AllReadyIn.nil);go_simp;refine⟨trivial,(HLEN.o W.drew HW.o).mono ?_⟩;rintro e V ⟨rfl,rfl⟩;refine hK _ _ ?_;clear hK K;refine cV (i:=5) (v:=?_) rfl rfl ?_ ?_;rotate_left
    ·intro w
     go_simp
     try with_reducible rfl
    conv in(Act.put _ _ _)=>simp only[bH,bI,bJ,Act.put,bK,bL,bM]
    refine wpAnyIn_done uk ?_ _;gi_wp2;refine⟨trivial,?_⟩;refine(CallsIn.inRound l (callsIn_wide.2 (oK B b xs (le n k) W.drew HW.o uo (by have:=HB.o.size;show B≤W.heap.size;omega)))).mono ?_;rintro e V ⟨rfl,hwV,hbV,hkV⟩;have FV:Hid (NJ B b bs n size w.heap.size (w.heap.size+1) w (k+1) V):=⟨hkz,by rw[HS.o];exact hwV,nu hkV HX.o hb0 ud,nu hkV HY.o hb1 ud,HB.o.drew.trans hbV,HO.o.trans hkV⟩;have KV:Hid (KeepsFrom w3.heap.size W V):=HD.o.trans (tX (W:=W.drew) HW.o hbV.size hkV _);clear hwV hbV hkV;gi_wp2;exact⟨KV.o,FV.o⟩
end Rs
end Go.Proofs.YtokfnghckpgjmaaGreatDoor
