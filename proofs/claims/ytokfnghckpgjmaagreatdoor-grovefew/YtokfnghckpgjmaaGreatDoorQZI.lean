import Derived.Test.YtokfnghckpgjmaaGreatDoorPPo
import Derived.Test.YtokfnghckpgjmaaGreatDoorPPk
import Derived.Test.YtokfnghckpgjmaaGreatDoorQZE
import Derived.Test.YtokfnghckpgjmaaGreatDoorPZH
set_option maxRecDepth 100000
set_option maxHeartbeats 1000000
namespace Go.Proofs.YtokfnghckpgjmaaGreatDoor
namespace Ra
open Go.RowKit
theorem mo {w w':World} (h:Below w.heap.size w w') (r:Option Nat):w.grownBy w' r:=⟨h.os,h.tape,h.output,h.size,fun k hk _=>h.block k hk⟩
theorem own_below {w w':World} {base:Nat} {e:TypeId} {size:Nat} {v:Value} {n:Nat} {xs:List Value} (h:w.ownsRow base e size v n xs) (hb:Below w.heap.size w w'):w'.ownsRow base e size v n xs:=
 h.kept (mo hb none) (Classical.em _)
def b4 (x:Int):List Int:=[x%256,x/256%256,x/65536%256,x/16777216%256]
open Go.RowKit Go.Shelf
attribute [local go_sem] Oper.semAt_some
theorem zi7 (f:Nat→Int) (N:Int) (w:World):
  Calls Tryz.prog 215 #[.agg (cI f),.int .i64 N] w fun e w'=>e=.returned (.func (.func 242) #[] #[.pointer (some ⟨w.heap.size+1,0,none⟩),.pointer (some ⟨w.heap.size,0,none⟩)])∧w'=(w.alloc (.cells (cI f) 280)).alloc (.cells #[.int .i64 N] 3):=by
 go_enter Tryz.func215,Tryz.ntmps215
 go_wp2
 go_ret;exact⟨rfl,rfl⟩
theorem zgh {w w':World} {a b:Obj} (h:w'=(w.alloc a).alloc b):Below w.heap.size w w':=by
 rw[h];exact((Below.refl _ w).alloc zn _).alloc us _
def dV (f:Nat→Int) (C:Nat):List Int:=cat (fun c=>upto (dl (upd f 12 (c:Int))) 16) C
theorem zoU (f:Nat→Int) (C c k:Nat) (hc:c<C) (hk:k<16):
  (dV f c++upto (dl (upd f 12 (c:Int))) k).length<(dV f C).length∧
  dV f c++upto (dl (upd f 12 (c:Int))) k++[dl (upd f 12 (c:Int)) k]<+:dV f C:=by
 have h2:dV f c++upto (dl (upd f 12 (c:Int))) k++[dl (upd f 12 (c:Int)) k]<+:dV f C:=by
  rw[List.append_assoc,←lz];refine List.IsPrefix.trans ?_ (zet _ (show c+1≤C from hc));rw[mR];exact(List.prefix_append_right_inj _).2 (zdK _ uo)
 exact⟨by have:=h2.length_le;simp at this ⊢;omega,h2⟩
def gL (Bs:Nat) (A B:World):Prop:=B.heap[Bs]? =A.heap[Bs]? ∧B.heap[2]? =A.heap[2]?
theorem gL.refl (Bs:Nat) (A:World):gL Bs A A:=⟨rfl,rfl⟩
theorem gL.trans {Bs:Nat} {A B C:World} (h:gL Bs A B) (k:gL Bs B C):gL Bs A C:=⟨k.1.trans h.1,k.2.trans h.2⟩
theorem gL.below {Bs:Nat} {A B:World} (h:Below A.heap.size A B) (h1:Bs<A.heap.size) (h2:2<A.heap.size):gL Bs A B:=⟨h.block _ h1,h.block _ h2⟩
theorem zi8 (n:Nat) (hn:1≤n) (l Bn Bs:Nat) (f:Nat→Int) (N:Nat) (hN:N≤1048576) {tt:TypeId} {fr:Nat × Nat} (J Jx:List Int→World→Prop)
  (hJ:∀ pre W W',J pre W→Below W.heap.size W W'→J pre W')
  (hY:∀ pre x W,J pre W→pre.length<(dV f ((N+63)/64)).length→YieldAt Fence.wide (n - 1) Tryz.prog l #[.int .u32 x] W fun e W'=>
   (e=.returned (.bool true)∧J (pre++[x]) W'∧gL Bs W W')∨(e=.returned (.bool false)∧Jx (pre++[x]) W'))
  (W:World) (hcn:W.cell? ⟨Bn,0,none⟩=some (.int .i64 (N:Int))) (hs:W.heap[Bs]? =some (.cells (cI f) 280 (0,0))) (ht:W.heap[2]? =some (.cells tab tt fr)) (h0:J [] W):
  CallsIn Fence.wide n Tryz.prog 242 #[.func (.yield l) #[] #[],.pointer (some ⟨Bn,0,none⟩),.pointer (some ⟨Bs,0,none⟩)] W fun e W'=>(∃ v,e=.returned v)∧
   ((∃ ys,ys=dV f ((N+63)/64)∧J ys W')∨(∃ pre,pre<+:dV f ((N+63)/64)∧Jx pre W')):=by
 have HY:Hid _:=hY;have HJ:Hid _:=hJ;have HS:Hid _:=hs;have HT:Hid _:=ht;clear hY hJ hs ht;obtain⟨C,hC⟩:∃ C,(N+63)/64=C:=⟨_,rfl⟩;rw[hC] at HY ⊢;have g0:(0:Int)≤(N:Int):=uo
 have g1:(N:Int)≤1048576:=uo
 have HC:Hid _:=hC;clear hC;refine callsIn_of_wp Tryz.func242 rfl trivial ?_ rfl;simp only[Tryz.ntmps242,eR,eS,eT,Nat.reduceAdd,Nat.reduceSub,eU,eV,eW,eX,eY,eZ];gi_wp2;have hC:=HC.o;rw[show((N:Int)+64 - 1)/64=(C:Int) by omega];have hC2:(C:Int)≤16384:=uo
 clear HC hC g0 g1 hN hcn
 gi_loopw [12] (fun i wr=>∃ c:Nat,c≤C∧i=.int .u32 c∧J (dV f c) wr∧gL Bs W wr) (fun i _=>C - (intOf i).toNat)
 case atStart=>exact⟨0,Nat.zero_le _,rfl,h0,gL.refl _ _⟩
 case round=>
  clear h0;obtain⟨c,hc,rfl,hJs,hnx⟩:=hrel;have c0:(0:Int)≤(c:Int):=uo
  have c1:(c:Int)≤16384:=uo
  by_cases hlt:c<C
  ·have HS1:Hid (wr.heap[Bs]? =some (.cells (cI f) 280 (0,0))):=hnx.1.trans HS.o
   have HT1:Hid (wr.heap[2]? =some (.cells tab tt fr)):=hnx.2.trans HT.o;have HP:Hid _:=fun k hk=>zoU f C c k hlt hk
   have HSN:Hid (dV f (c+1)=dV f c++upto (dl (upd f 12 (c:Int))) 16):=mR _ _;have HJs:Hid _:=hJs;have HNX:Hid _:=hnx;have hwz:2<wr.heap.size:=(zi HT1.o).1;clear hJs hnx
   gi_wp2_with (first
    |(refine zbW rfl 280 _ rfl Bs rfl 280 _ (0,0) _ HS1.o Tryz.underlying280 rfl (by rw[jO];kernel_rfl) ?_)
    |(refine⟨trivial,?_⟩;gi_at_call 243;refine(callsIn_wide.2 (zpr _ _ _)).mono ?_;rintro e w2 ⟨rfl,hw2⟩;have hb2:Below wr.heap.size wr w2:=zgh hw2;clear hw2))
   refine⟨trivial,?_⟩;refine(callsIn_wide.2 (rh _ _ ((hb2.block 2 hwz).trans HT1.o))).mono ?_;rintro e w3 ⟨rfl,hb3⟩;have hb13:Below wr.heap.size wr w3:=hb2.trans (hb3.mono hb2.size);have hJ3:=HJ.o _ _ _ HJs.o hb13;have hn3:gL Bs W w3:=gL.trans HNX.o (gL.below hb13 (zi HS1.o).1 hwz);clear hb2 hb3 hb13 HJs HNX HS1 HT1 hwz;generalize hG:dl (upd f 12 (c:Int))=G at*
   clear hG;generalize dV f c=P0 at*
   gi_wp2
   gi_loopw [19] (fun i wr=>∃ k:Nat,k≤16∧i=.int .i64 k∧J (P0++upto G k) wr∧gL Bs W wr) (fun i _=>16 - (intOf i).toNat)
   case atStart=>exact⟨0,by omega,rfl,by simpa [upto] using hJ3,hn3⟩
   case round=>
    clear hJ3 hn3;obtain⟨k,hk,rfl,hJs,hnx⟩:=hrel;have k0:(0:Int)≤(k:Int):=uo
    by_cases hk16:k<16
    ·have k1:(k:Int)<16:=uo
     have hix:=zpy G k hk16;obtain⟨fn,tmps,assign,body,hy,hR⟩:=HY.o (P0++upto G k) (G k) wr hJs (HP.o k hk16).1;clear hJs;have HN:Hid _:=hnx;clear hnx;gi_wp2;refine hR.mono ?_;rintro e W3 (⟨rfl,hJ3,hk3⟩|⟨rfl,hJx3⟩)
     ·gi_wp2
      go_roundw
      case rel=>exact⟨k+1,by omega,by go_num,by rw[lz,←List.append_assoc];exact hJ3,gL.trans HN.o hk3⟩
      case measure=>simp[intOf];omega
     ·gi_wp2
      refine bodyPost_ret (results_none rfl _ _ _) rfl ?_;exact⟨⟨_,rfl⟩,.inr ⟨_,(HP.o k hk16).2,hJx3⟩⟩
    ·obtain rfl:k=16:=uo
     gi_wp2
     go_roundw
     case rel=>exact⟨c+1,by omega,by go_num,by rw[HSN.o];exact hJs,hnx⟩
     case measure=>simp[intOf];omega
  ·obtain rfl:c=C:=uo
   gi_wp2
   go_end0
   exact⟨⟨_,rfl⟩,.inl ⟨_,rfl,hJs⟩⟩
end Ra
namespace Ra
open Go.RowKit Go.Shelf
attribute [local go_sem] Oper.semAt_some
theorem zgi (n:Nat) (hn:1≤n) (Bn Bs:Nat) (f:Nat→Int) (N:Nat) (hN:N≤1048576) {tt:TypeId} {fr:Nat × Nat} (w:World) (hBn:Bn<w.heap.size) (hBs:Bs<w.heap.size)
  (hc:w.cell? ⟨Bn,0,none⟩=some (.int .i64 (N:Int))) (hs:w.heap[Bs]? =some (.cells (cI f) 280 (0,0))) (ht:w.heap[2]? =some (.cells tab tt fr)):
  SeqStopsK Fence.wide n Tryz.prog 242 #[.pointer (some ⟨Bn,0,none⟩),.pointer (some ⟨Bs,0,none⟩)] (fun x:Int=>#[Value.int .u32 x]) (gL Bs) (fun ys=>ys=dV f ((N+63)/64)) (fun pre=>pre<+:dV f ((N+63)/64)) (dV f ((N+63)/64)).length w:=
 fun l J Jx W hW hJ _ hY h0=>by
  have hz:2<w.heap.size:=(zi ht).1
  exact zi8 n hn l Bn Bs f N hN J Jx (fun pre A B h hb=>hJ pre A B none h (mo hb none) (fun r e=>by cases e)) hY W ((hW.cell (p:=⟨Bn,0,none⟩) hBn).trans hc)
   ((hW.block Bs hBs).trans hs) ((hW.block 2 hz).trans ht) h0
theorem od {F:Fence} {n:Nat} {P:Program} {o:Oper} {a:Act} {w:World} {K:Act→World→Prop} {Q:Exit→Act→World→Prop} (l:Nat) (b:∀ c,o.op≠ .defer c) (h:o.wpIn F n P a w K Q):o.wpIn (F.inRound l) n P a w K Q:=by
 unfold Oper.wpIn at h ⊢;refine⟨h.1,?_⟩;have d:=h.2;rw[Oper.semAt_plain F _ _ b] at d;rw[Oper.semAt_plain (F.inRound l) _ _ b];exact d
theorem og {F:Fence} {n:Nat} {P:Program} {b:Array Oper} {Q:Exit→Act→World→Prop} {i:Nat} {K g:Act→World→Prop} {a:Act} {w:World} (l:Nat) (k:∀ o∈b,∀ c,o.op≠ .defer c)
  (m:∀ a w,K a w→g a w) (h:wpOpIn F n P b Q i K a w):wpOpIn (F.inRound l) n P b Q i g a w:=by
 have d:=wpOpIn_mono m h;unfold wpOpIn at d ⊢;cases f:b[i]? with
 |none=>rw[f] at d;exact d
 |some o=>
  rw[f] at d;by_cases j:Region.wanted o (yielded b a.tmps)=true
  ·simp only[j,if_true] at d ⊢
   exact od l (k o (Array.mem_of_getElem? f)) d
  ·simp only[j] at d ⊢
   exact d
theorem mu {F:Fence} {n:Nat} {P:Program} {g:Region.Mode} {e:Array Oper} {Q:Exit→Act→World→Prop} (l:Nat) (m:∀ o∈e,∀ c,o.op≠ .defer c):
  ∀ (d:Nat) (b:Array Bool) (a:Act) (w:World),wpAnyIn F n P g e Q d b a w→wpAnyIn (F.inRound l) n P g e Q d b a w:=by
 intro d
 induction d with
 |zero=>intro b a w h;exact h
 |succ d p=>
  intro b a w h;exact⟨h.1,fun i q=>og l m (fun a w r=>p _ a w r) (h.2 i q)⟩
end Ra
namespace Ra
def ia (x:Int) (j:Nat):Int:=x/(256:Int) ^ j
theorem zmW (x:Int):ia x 0=x:=by simp[ia]
theorem zmX (x:Int) (j:Nat):ia x (j+1)=ia x j/256:=by
 unfold ia;rw[Int.pow_succ,Int.ediv_ediv_of_nonneg (Int.pow_nonneg ud)]
theorem zqm (x:Int) (j:Nat) (h:j<4):(b4 x)[j]?.getD 0=ia x j%256:=by
 match j,h with
 |0,_=>simp[b4,ia]
 |1,_=>simp[b4,ia]
 |2,_=>simp[b4,ia]
 |3,_=>simp[b4,ia]
 |j+4,h=>exact absurd h uo
def kb (pre:List Int):List Int:=pre.flatMap b4
theorem te (pre:List Int):(kb pre).length=4*pre.length:=by
 induction pre with
 |nil=>rfl
 |cons x r ih=>unfold kb at ih ⊢;rw[List.flatMap_cons,List.length_append,ih];simp[b4];omega
theorem zoV (pre:List Int) (x:Int):kb (pre++[x])=kb pre++b4 x:=by simp[kb]
def xf (s:ByteArray) (pre:List Int):Nat→Int:=fun i=>bits BinOp.xor IntKind.u8 (bt s i) (lf (kb pre) i)
theorem zgj (s:ByteArray) {pre l:List Int} (h:pre<+:l) (i:Nat) (hi:i<4*pre.length):xf s l i=xf s pre i:=by
 obtain⟨r,rfl⟩:=h;unfold xf lf;have e:kb (pre++r)=kb pre++kb r:=by simp[kb]
 rw[e,List.getElem?_append_left (by rw[te];exact hi)]
theorem zqn (s:ByteArray) (pre:List Int) (x:Int) (j:Nat) (h:j<4):xf s (pre++[x]) (4*pre.length+j)=bits BinOp.xor IntKind.u8 (bt s (4*pre.length+j)) (ia x j%256):=by
 unfold xf lf;rw[zoV,List.getElem?_append_right (by rw[te];omega),te,show 4*pre.length+j - 4*pre.length=j by omega,zqm x j h]
theorem tf {f g:Nat→Int} {k:Nat} (h:∀ i,i<k→f i=g i):upto f k=upto g k:=by
 unfold upto;exact List.map_congr_left fun i hi=>h i (List.mem_range.1 hi)
theorem zoW (s:ByteArray) (pre:List Int) (x:Int):upto (xf s (pre++[x])) (4*pre.length)=upto (xf s pre) (4*pre.length):=
 tf fun i hi=>zgj s (List.prefix_append _ _) i hi
open Go.RowKit Go.Shelf
attribute [local go_sem] Oper.semAt_some
theorem ownsRow_setCell_other {w:World} {base:Nat} {e:TypeId} {size:Nat} {g cap n:Nat} {xs:List Value} (h:w.ownsRow base e size (.slice (some ⟨g,0,none⟩) n cap) n xs) {a:Addr} (ha:g≠a.block) (u:Value):(w.setCell a u).ownsRow base e size (.slice (some ⟨g,0,none⟩) n cap) n xs:=by
 refine⟨h.1,?_⟩;rcases h.2 with h2|⟨g',cap',cur,hv,hg,hh,r⟩
 ·exact .inl h2
 ·refine .inr ⟨g',cap',cur,hv,hg,?_,r⟩
  cases hv;rw[Below.heap_setCell _ _ _ _ ha];exact hh
theorem zla {w:World} {base:Nat} {e:TypeId} {size:Nat} {g cap n:Nat} {xs:List Value} (h:w.ownsRow base e size (.slice (some ⟨g,0,none⟩) n cap) n xs) (b:Nat) (o:Obj) (hb:some g=some b) (ho:w.heap[b]? =some o):o.isCells=true:=by
 cases hb;rcases h.2 with⟨hv,_⟩|⟨g',cap',cur,hv,_,hh,_⟩
 ·cases hv
 ·cases hv
  rw[hh] at ho;cases ho;rfl
theorem mI {F:Fence} {n:Nat} {P:Program} {o:Oper} {a:Act} {w:World} {K:Act→World→Prop} {Q:Exit→Act→World→Prop} (t:TypeId) (s x:Operand) (ho:o.op=.call { callee:=.builtin .append,args:=#[s,x],argTypes:=#[t,t] })
  {vs vx v':Value} {w':World} (hs:a.eval s=vs) (hx:a.eval x=vx) (hrun:(Builtin.append_ #[t,t] o.type #[vs,vx]).run P w=.ok v' w') (hK:K (a.put o.dst v') w'):o.wpIn F n P a w K Q:=by
 unfold Oper.wpIn;refine⟨?_,?_⟩
 ·simp[Oper.about,ho,resolve,Target.leads]
 ·rw[Oper.semAt_plain F _ _ (by rw[ho];intro c hc;cases hc)]
  simp[execOp,ho,hs,hx,hrun,Result.andThen,resolve,invoke,builtin];exact hK
theorem zhl (f:Nat→Int) (C:Nat):(dV f C).length=16*C:=by
 unfold dV
 induction C with
 |zero=>rfl
 |succ C ih=>rw[mR,List.length_append,ih,fZ];omega
def fP (s:ByteArray) (Bx Bo:Nat) (W:World) (k:Nat) (g:Nat→Int):Prop:=
 W.heap[Bx]? =some (.cells #[.string s] 9 (0,0))∧W.heap[Bo]? =some (.cells #[.slice (some ⟨Bx+1,0,none⟩) k s.size] 140 (0,0))∧
 W.ownsRow (Bx+1) 5 1 (.slice (some ⟨Bx+1,0,none⟩) k s.size) k ((upto g k).map (Value.int .u8))
theorem zmY {W W':World} {row:Option Nat} {base:Nat} {e:TypeId} {size:Nat} {g cap n:Nat} {xs:List Value} (h:W.ownsRow base e size (.slice (some ⟨g,0,none⟩) n cap) n xs) (hg:W.grownBy W' row)
  (hr:∀ r,row=some r→∃ o:Obj,W.heap[r]? =some o∧o.isCells=false):W'.ownsRow base e size (.slice (some ⟨g,0,none⟩) n cap) n xs:=by
 refine h.kept hg (.inr fun e=>?_);obtain⟨o,h1,h2⟩:=hr g (by rw[←e];rfl);rcases h.2 with⟨hv,_⟩|⟨g',cap',cur,hv,_,hh,_⟩
 ·cases hv
 ·cases hv
  rw[hh] at h1;cases h1;cases h2
theorem fP.kept {s:ByteArray} {Bx Bo:Nat} {W W':World} {k:Nat} {g:Nat→Int} {row:Option Nat} (h:fP s Bx Bo W k g) (hg:W.grownBy W' row)
  (hr:∀ r,row=some r→∃ o:Obj,W.heap[r]? =some o∧o.isCells=false):fP s Bx Bo W' k g:=
 ⟨mi h.1 rfl hg hr,mi h.2.1 rfl hg hr,zmY h.2.2 hg hr⟩
theorem fP.congr {s:ByteArray} {Bx Bo:Nat} {W:World} {k:Nat} {g g':Nat→Int} (h:fP s Bx Bo W k g) (hc:upto g k=upto g' k):fP s Bx Bo W k g':=
 ⟨h.1,h.2.1,by rw[←hc];exact h.2.2⟩
theorem zi9 (key nonce s:ByteArray) (w:World) (h1:key.size=32) (h2:nonce.size=12) (h:s.size≤1048576) {tt:TypeId} {fr:Nat × Nat} (hg:w.heap[2]? =some (.cells tab tt fr)):
  CallsIn Fence.wide 5 Tryz.prog 178 #[.string key,.string nonce,.string s] w fun e w'=>
   e=.returned (.tuple #[.string (strOfNums (upto (xf s (dV (lf (cat (fun j=>dn (tx key nonce j)) 4)) ((s.size+63)/64))) s.size)),.int .i64 0])∧Below w.heap.size w w':=by
 have hw0:2<w.heap.size:=(zi hg).1;have H1:Hid _:=h1;have H2:Hid _:=h2;have HG:Hid _:=hg;have hl:¬(1048576:Int)<(s.size:Int):=uo
 have hl0:(s.size:Int)≤1048576:=uo
 have hld:decide ((1048576:Int)<(s.size:Int))=false:=by simp;omega
 clear h1 h2 hg;obtain⟨i0,hi,hz0,hz1,hz2⟩:=info_parts info5;refine callsIn_of_wp_marks Tryz.func178 rfl trivial ?_ rfl;simp only[Tryz.ntmps178,eR,eS,eT,Nat.reduceAdd,Nat.reduceSub,eU,eV,eW,eX,eY,eZ];gi_wp2;refine(wpIn_wide (n:=5)).2 (wp_scope_straight ((wpIn_wide (n:=5)).1 ?_))
 gi_wp2_with (first
  |(refine⟨trivial,?_⟩;gi_at_call 213;refine(callsIn_wide.2 (zn3 _ _ _ H1.o H2.o)).mono ?_;rintro e w1 ⟨rfl,hh⟩;have hh':=hh.symm;clear hh;subst hh')
  |(gi_at_make;refine wpListIn_make_own _ rfl _ _ 140 rfl (w.heap.size+1) 5 i0 (.int .u8 0) 1 Tryz.underlying140 hi hz0 hz1 .i64 .i64 (s.size:Int) s.size rfl rfl rfl (by rw[hz2];omega) (by unfold maxLen;omega) us ?_;intro w2 hown2 hgrow2))
 have hs0:(w.alloc (.cells #[.string s] 9)).heap[w.heap.size]? =some (.cells #[.string s] 9 (0,0)):=zq w _;have hsz0:(w.alloc (.cells #[.string s] 9)).heap.size=w.heap.size+1:=by simp
 have hs2:=(hgrow2.block w.heap.size uo us).trans hs0;have hb02:Below w.heap.size w w2:=((Below.refl _ w).alloc zn _).grown hgrow2 uo (fun k e=>by cases e);have hlt2:w.heap.size+1<w2.heap.size:=by have:=(hown2.lt _ rfl).2;simp at this;omega
 simp only[World.size_alloc] at hown2;obtain⟨W3,hW3⟩:∃ W3,w2.alloc (.cells #[.slice (some ⟨w.heap.size+1,0,none⟩) 0 s.size] 140)=W3:=⟨_,rfl⟩;have ho3:W3.ownsRow (w.heap.size+1) 5 1 (.slice (some ⟨w.heap.size+1,0,none⟩) 0 s.size) 0 []:=by rw[←hW3];exact hown2.alloc _
 have hbo3:W3.heap[w2.heap.size]? =some (.cells #[.slice (some ⟨w.heap.size+1,0,none⟩) 0 s.size] 140 (0,0)):=by rw[←hW3];exact zq w2 _
 have hs3:W3.heap[w.heap.size]? =some (.cells #[.string s] 9 (0,0)):=by rw[←hW3];exact(Below.heap_alloc _ _ _ uo).trans hs2
 have hb03:Below w.heap.size w W3:=by rw[←hW3];exact hb02.alloc hb02.size _
 have hsz3:W3.heap.size=w2.heap.size+1:=by rw[←hW3];simp
 rw[hW3];clear hW3 hs0 hsz0 hs2 hb02 hown2 hgrow2;have cS:W3.cell? ⟨w.heap.size,0,none⟩=some (.string s):=by rw[zr hs3];rfl
 have lS:w.heap.size<W3.heap.size:=uo
 have HO3:Hid (W3.ownsRow (w.heap.size+1) 5 1 (.slice (some ⟨w.heap.size+1,0,none⟩) 0 s.size) 0 []):=ho3;have HBo:Hid _:=hbo3;have HS3:Hid _:=hs3;have HB3:Hid _:=hb03;have HZ3:Hid _:=hsz3;clear ho3 hbo3 hs3 hb03 hsz3;refine wpIn_label ?_;gi_wp2;refine(wpIn_wide (n:=5)).2 ?_
 go_region_held3 (fun w'=>w'.cell? ⟨w.heap.size,0,none⟩=some (.string s)) (first|assumption|exact cS) ((first
  |(go_at_call 214;refine um (rk key nonce H1.o H2.o _) fun w4 hb4=>?_;have y4:w4.cell? ⟨w.heap.size,0,none⟩=some (.string s):=(hb4.cell (p:=⟨w.heap.size,0,none⟩) lS).trans cS;have HB4:Hid (Below W3.heap.size W3 w4):=⟨hb4.os,hb4.tape,hb4.output,hb4.size,hb4.block⟩;clear hb4)
  |(go_at_call 215;refine um (zi7 _ _ _) fun w5 hw5=>?_;have y5:w5.cell? ⟨w.heap.size,0,none⟩=some (.string s):=(by rw[hw5];exact zjY _ (zjY _ y4));have HW5:Hid _:=hw5;clear hw5)))
 have hw5:=HW5.o;have hB45:Below w4.heap.size w4 w5:=zgh hw5
 have f2:w5.heap[w4.heap.size+1]? =some (.cells #[.int .i64 (s.size:Int)] 3 (0,0)):=by
  rw[hw5];simpa using zq (w4.alloc _) _
 have f1:w5.heap[w4.heap.size]? =some (.cells (cI (lf (cat (fun j=>dn (tx key nonce j)) 4))) 280 (0,0)):=by
  rw[hw5];exact(Below.heap_alloc _ _ _ us).trans (zq w4 _)
 have hsz5:w5.heap.size=w4.heap.size+1+1:=by rw[hw5];simp
 clear hw5 HW5 y4 y5 cS;have hB35:Below W3.heap.size W3 w5:=HB4.o.trans (hB45.mono HB4.o.size);have hB05:Below w.heap.size w w5:=HB3.o.trans (hB35.mono HB3.o.size);have hz3:=HZ3.o;have h34:=HB4.o.size;have o5:fP s w.heap.size w2.heap.size w5 0 (xf s []):=⟨(hB35.block _ lS).trans HS3.o,(hB35.block _ uo).trans HBo.o,own_below HO3.o hB35⟩;have t5:=(hB05.block 2 hw0).trans HG.o;have c5:w5.cell? ⟨w4.heap.size+1,0,none⟩=some (.int .i64 (s.size:Int)):=by rw[zr f2];rfl
 clear f2 hB45 hB35 HB4 HB3 HS3 HBo HO3 HZ3;have HO5:Hid (fP s w.heap.size w2.heap.size w5 0 (xf s [])):=o5;have HT5:Hid _:=t5;have HC5:Hid _:=c5;have HF1:Hid _:=f1;have HB5:Hid _:=hB05;clear o5 t5 c5 f1 hB05 HG;generalize hf:lf (cat (fun j=>dn (tx key nonce j)) 4)=f at*
 have HF:Hid _:=hf;clear hf;gi_wp2;have hlt4:w2.heap.size<w4.heap.size:=uo
 have hn48:s.size≤1048576:=h
 refine wpIn_rangeFunc_ownF rfl uo (gf:=242) (lb:=#[.pointer (some ⟨w4.heap.size+1,0,none⟩),.pointer (some ⟨w4.heap.size,0,none⟩)]) rfl trivial (enters_of Tryz.func242 uk rfl)
  (zgi 4 uo (w4.heap.size+1) w4.heap.size f s.size h w5 uo uo HC5.o HF1.o HT5.o) gL.trans (fun W l o o' hl ho _ _=>⟨World.putObj_heap_other uo,World.putObj_heap_other uo⟩) (Below.refl _ _) (fun _=>rfl)
  (fun pre W=>((4*pre.length≤s.size∧w4.heap.size<W.heap.size)∧fP s w.heap.size w2.heap.size W (4*pre.length) (xf s pre))∧Below w.heap.size w W)
  (fun c pre W=>(c=.exit 0∧s.size≤4*pre.length∧fP s w.heap.size w2.heap.size W s.size (xf s pre))∧Below w.heap.size w W)
  (OwnFrom.and (Own.from (fun p A B row hp hg hr=>⟨⟨hp.1.1,Nat.lt_of_lt_of_le hp.1.2 hg.size⟩,hp.2.kept hg hr⟩) _) (ownFrom_below zn uo))
  (fun c=>OwnFrom.and (Own.from (fun p A B row hp hg hr=>⟨hp.1,hp.2.1,hp.2.2.kept hg hr⟩) _) (ownFrom_below zn uo))
  ⟨⟨⟨by simp,by omega⟩,HO5.o⟩,HB5.o⟩
  (fun x=>{ tmps:=#[.string key,.string nonce,.string s,undef,undef,.pointer (some ⟨w.heap.size,0,none⟩),.string ⟨#[]⟩,.int .i64 0,.pointer (some ⟨w2.heap.size,0,none⟩),.int .u32 x,.string key,.string nonce,.bool true,.bool false,.bool false,.string s,.int .i64 (s.size:Int),.bool false,.bool false,.string s,.int .i64 (s.size:Int),.slice (some ⟨w.heap.size+1,0,none⟩) 0 s.size,.string key,.string nonce,.agg (cI f),.string s,.int .i64 (s.size:Int),.func (.func 242) #[] #[.pointer (some ⟨w4.heap.size+1,0,none⟩),.pointer (some ⟨w4.heap.size,0,none⟩)],.int .u32 x,undef,undef,undef,undef,undef,undef,undef,undef,undef,undef,undef,undef,undef,undef,undef,undef,undef,undef,undef,undef,undef,undef],defers:=[] }) ?assign ?body ?done ?stop
 case assign=>
  intro l x W K hK;gi_wp2;exact hK
 case body=>
  rintro l pre x W ⟨⟨⟨hle,hsW⟩,ho⟩,hB⟩ _;have hmx:Tryz.prog.follows .mixedOrders=true:=uk
  clear HO5 HT5 HC5 HF1 HB5 H1 H2;gi_wp2
  gi_loopw [9,29] (fun v i wr=>∃ j:Nat,j≤4∧i=.int .i64 j∧v=.int .u32 (ia x j)∧4*pre.length+j≤s.size∧fP s w.heap.size w2.heap.size wr (4*pre.length+j) (xf s (pre++[x]))∧KeepsOthers W wr∧gL w4.heap.size W wr∧Below w.heap.size w wr) (fun _ i _=>4 - (intOf i).toNat)
  case atStart=>exact⟨0,by omega,rfl,by rw[zmW],hle,ho.congr (zoW s pre x).symm,KeepsOthers.refl _,gL.refl _ _,hB⟩
  case round=>
   clear ho hB hle;obtain⟨j,hj,rfl,rfl,hle,ho,hko,hks,hB⟩:=hrel;have XA:Hid (j<4→xf s (pre++[x]) (4*pre.length+j)=bits BinOp.xor IntKind.u8 (bt s (4*pre.length+j)) (ia x j%256)):=fun h4=>zqn s pre x j h4
   have SX:Hid (ia x (j+1)=ia x j/256):=zmX x j;have HL:Hid ((pre++[x]).length=pre.length+1):=(by show(pre++[x]).length=pre.length+1;simp);generalize hk:4*pre.length+j=k at*
   have HK:Hid (4*pre.length+j=k):=hk;clear hk;have cs:wr.cell? ⟨w.heap.size,0,none⟩=some (.string s):=by rw[zr ho.1];rfl
   have co:wr.cell? ⟨w2.heap.size,0,none⟩=some (.slice (some ⟨w.heap.size+1,0,none⟩) k s.size):=by rw[zr ho.2.1];rfl
   have zo:=frozen_of_row wr _ 0 _ _ ho.2.1;have HO:Hid (fP s w.heap.size w2.heap.size wr k (xf s (pre++[x]))):=ho;have HKO:Hid (KeepsOthers W wr):=hko;have HKS:Hid (gL w4.heap.size W wr):=hks;have HB:Hid (Below w.heap.size w wr):=hB;clear ho hko hks hB;have j0:(0:Int)≤(j:Int):=uo
   by_cases h4:j<4
   ·have j4:(j:Int)<4:=uo
    by_cases hN:k=s.size
    ·have hq:((k:Int)==(s.size:Int))=true:=by simp;omega
     have HN:Hid (k=s.size):=hN;clear hN;gi_wp2;refine⟨HKO.o,⟨rfl,?_,?_⟩,HB.o⟩
     ·have:=HK.o;have:=HN.o;rw[HL.o];omega
     ·rw[←HN.o];exact HO.o
    ·have hq:((k:Int)==(s.size:Int))=false:=by simp;omega
     have hkl:(k:Int)<(s.size:Int):=uo
     have k0:(0:Int)≤(k:Int):=uo
     clear hN;have kn:k<s.size:=uo
     obtain⟨y,hy⟩:∃ y,bits BinOp.xor IntKind.u8 (s[k].toNat:Int) (IntKind.u8.wrap (ia x j))=y:=⟨_,rfl⟩
     have HY:Hid (xf s (pre++[x]) k=y):=by
      rw[←hy,IntKind.wrap_u8',mS s k kn];exact XA.o h4
     have hwlt:w2.heap.size<wr.heap.size:=(zi HO.o.2.1).1;have hx4:w4.heap.size<wr.heap.size:=Nat.lt_of_lt_of_le hsW HKO.o.size
     obtain⟨w9,hrun,hown9,hgrow9⟩:=run_append_fits (P:=Tryz.prog) (wr.alloc (.cells #[.int .u8 y] 5)).drew (w.heap.size+1) 140 140 5 i0 1 Tryz.underlying140 hi hz1 (w.heap.size+1) k s.size _ (show(wr.alloc (.cells #[.int .u8 y] 5)).drew.ownsRow (w.heap.size+1) 5 1 (.slice (some ⟨w.heap.size+1,0,none⟩) k s.size) k ((upto (xf s (pre++[x])) k).map (Value.int .u8)) from HO.o.2.2.alloc _)
      ⟨wr.heap.size,0,none⟩ 1 1 [.int .u8 y] rfl (cell_one_new _ _ _) (fun u hu=>by simp at hu;subst hu;rfl) uo
     have hg8:wr.grownBy (wr.alloc (.cells #[.int .u8 y] 5)).drew none:=zqg (zqf (zn5 _ _) _);have e8:(wr.alloc (.cells #[.int .u8 y] 5)).drew.heap.size=wr.heap.size+1:=by show(wr.alloc (.cells #[.int .u8 y] 5)).heap.size=_;simp
     have nine:∀ b,b<wr.heap.size→b≠w.heap.size+1→w9.heap[b]? =wr.heap[b]? :=fun b hb hne=>(hgrow9.block b uo (by simpa using hne)).trans (hg8.block b hb us)
     have hbo9:w9.heap[w2.heap.size]? =some (.cells #[.slice (some ⟨w.heap.size+1,0,none⟩) k s.size] 140 (0,0)):=(nine _ hwlt uo).trans HO.o.2.1;have c9:w9.cell? ⟨w2.heap.size,0,none⟩=some (.slice (some ⟨w.heap.size+1,0,none⟩) k s.size):=by rw[zr hbo9];rfl
     have z9:=frozen_of_row w9 _ 0 _ _ hbo9
     have HOut:Hid (fP s w.heap.size w2.heap.size (w9.setCell ⟨w2.heap.size,0,none⟩ (.slice (some ⟨w.heap.size+1,0,none⟩) (k+1) s.size)) (k+1) (xf s (pre++[x]))):=by
      refine⟨(Below.heap_setCell _ _ _ _ (by simp;omega)).trans ((nine _ uo uo).trans HO.o.1),?_,?_⟩
      ·rw[zx _ _ _ _ _ _ hbo9];rfl
      ·have hh:=ownsRow_setCell_other hown9 (a:=⟨w2.heap.size,0,none⟩) (by simp;omega) (.slice (some ⟨w.heap.size+1,0,none⟩) (k+1) s.size)
       rw[lz,List.map_append,HY.o];exact hh
     have HKO2:Hid (KeepsOthers W (w9.setCell ⟨w2.heap.size,0,none⟩ (.slice (some ⟨w.heap.size+1,0,none⟩) (k+1) s.size))):=
      ((HKO.o.trans (KeepsOthers.alloc _ _)).trans (KeepsOthers.drew _)).trans ((KeepsOthers.of_grownBy hgrow9 (fun b o hb ho=>zla (HO.o.2.2.alloc (.cells #[.int .u8 y] 5)) b o hb ho)).trans (KeepsOthers.setCell _ _ _))
     have HKS2:Hid (gL w4.heap.size W (w9.setCell ⟨w2.heap.size,0,none⟩ (.slice (some ⟨w.heap.size+1,0,none⟩) (k+1) s.size))):=
      gL.trans HKS.o ⟨(Below.heap_setCell _ _ _ _ (by simp;omega)).trans (nine _ hx4 uo),(Below.heap_setCell _ _ _ _ (by simp;omega)).trans (nine _ uo uo)⟩
     have HB2:Hid (Below w.heap.size w (w9.setCell ⟨w2.heap.size,0,none⟩ (.slice (some ⟨w.heap.size+1,0,none⟩) (k+1) s.size))):=
      (((HB.o.alloc HB.o.size (.cells #[.int .u8 y] 5)).drew).grown hgrow9 (by have:=HB.o.size;omega) (fun b e=>by cases e;omega)).setCell (by simp;omega) _
     clear hown9 hgrow9 hg8 e8 nine hbo9 HO HKO HKS HB XA HY;have hi8:∀ w',(Instr.index 9 (.string s) (.int .i64 (k:Int))).run Tryz.prog w'=.ok (.int .u8 (s[k].toNat:Int)) w':=fun w'=>by simp[go_sem,k0,hkl]
     gi_wp2;refine wpIn_region_any hmx ?_;change wpAnyIn _ _ _ _ _ _ _ _ _ (World.drew _);refine mu (F:=Fence.wide) l (by intro o ho c hc;simp at ho;rcases ho with rfl|rfl|rfl|rfl|rfl|rfl|rfl|rfl|rfl|rfl|rfl<;>cases hc) _ _ _ _ ?_;refine cV (i:=5) (v:=?_) rfl rfl ?_ ?_;rotate_left
     ·intro w
      go_simp
      try with_reducible rfl
     refine cV (i:=6) (v:=?_) rfl rfl ?_ ?_;rotate_left
     ·intro w
      go_simp
      try with_reducible rfl
     refine wpAnyIn_ready (rs:=[0,1,2]) uk us ?_;refine(AllReadyIn.cons rfl (fun K hK=>?_) (AllReadyIn.cons rfl (fun K hK=>?_) (AllReadyIn.cons rfl (fun K hK=>?_) AllReadyIn.nil)))
     all_goals (go_simp;refine hK _ _ ?_;clear hK K)
     ·refine wpAnyIn_ready (rs:=[1,2]) uk us ?_
      refine(AllReadyIn.cons rfl (fun K hK=>?_) (AllReadyIn.cons rfl (fun K hK=>?_) AllReadyIn.nil))
      all_goals (go_simp;refine hK _ _ ?_;clear hK K)
      ·refine wpAnyIn_ready (rs:=[2]) uk us ?_
       refine(AllReadyIn.cons rfl (fun K hK=>?_) AllReadyIn.nil)
       all_goals (go_simp;refine hK _ _ ?_;clear hK K)
       refine cV (i:=3) (v:=?_) rfl rfl ?_ ?_;rotate_left
       ·intro w
        go_simp
        try with_reducible rfl
       refine cV (i:=4) (v:=?_) rfl rfl ?_ ?_;rotate_left
       ·intro w
        go_simp
        try with_reducible rfl
       refine cV (i:=7) (v:=?_) rfl rfl ?_ ?_;rotate_left
       ·intro w
        go_simp
        try with_reducible rfl
       refine wpAnyIn_ready (rs:=[8]) uk us ?_;refine(AllReadyIn.cons rfl (fun K hK=>?_) AllReadyIn.nil)
       all_goals (go_simp;refine hK _ _ ?_;clear hK K)
       refine wpAnyIn_ready (rs:=[9]) uk us ?_;refine(AllReadyIn.cons rfl (fun K hK=>?_) AllReadyIn.nil);rw[if_pos (by rfl)];refine mI 140 _ _ rfl rfl rfl hrun ?_;refine hK _ _ ?_;clear hK K;refine wpAnyIn_ready (rs:=[10]) uk us ?_;refine(AllReadyIn.cons rfl (fun K hK=>?_) AllReadyIn.nil)
       all_goals (go_simp;refine hK _ _ ?_;clear hK K)
       refine wpAnyIn_done uk ?_ _;gi_wp2
       go_roundw
       case rel=>exact⟨j+1,by omega,by go_num,by rw[SX.o],by have:=HK.o;omega,by rw[show 4*pre.length+(j+1)=k+1 by have:=HK.o;omega];exact HOut.o,HKO2.o,HKS2.o,HB2.o⟩
       case measure=>simp[intOf];omega
      ·refine cV (i:=3) (v:=?_) rfl rfl ?_ ?_
       rotate_left
       ·intro w
        go_simp
        try with_reducible rfl
       refine wpAnyIn_ready (rs:=[1]) uk us ?_;refine(AllReadyIn.cons rfl (fun K hK=>?_) AllReadyIn.nil)
       all_goals (go_simp;refine hK _ _ ?_;clear hK K)
       refine cV (i:=4) (v:=?_) rfl rfl ?_ ?_;rotate_left
       ·intro w
        go_simp
        try with_reducible rfl
       refine cV (i:=7) (v:=?_) rfl rfl ?_ ?_;rotate_left
       ·intro w
        go_simp
        try with_reducible rfl
       refine wpAnyIn_ready (rs:=[8]) uk us ?_;refine(AllReadyIn.cons rfl (fun K hK=>?_) AllReadyIn.nil)
       all_goals (go_simp;refine hK _ _ ?_;clear hK K)
       refine wpAnyIn_ready (rs:=[9]) uk us ?_;refine(AllReadyIn.cons rfl (fun K hK=>?_) AllReadyIn.nil);rw[if_pos (by rfl)];refine mI 140 _ _ rfl rfl rfl hrun ?_;refine hK _ _ ?_;clear hK K;refine wpAnyIn_ready (rs:=[10]) uk us ?_;refine(AllReadyIn.cons rfl (fun K hK=>?_) AllReadyIn.nil)
       all_goals (go_simp;refine hK _ _ ?_;clear hK K)
       refine wpAnyIn_done uk ?_ _;gi_wp2
       go_roundw
       case rel=>exact⟨j+1,by omega,by go_num,by rw[SX.o],by have:=HK.o;omega,by rw[show 4*pre.length+(j+1)=k+1 by have:=HK.o;omega];exact HOut.o,HKO2.o,HKS2.o,HB2.o⟩
       case measure=>simp[intOf];omega
     ·refine wpAnyIn_ready (rs:=[0,2]) uk us ?_
      refine(AllReadyIn.cons rfl (fun K hK=>?_) (AllReadyIn.cons rfl (fun K hK=>?_) AllReadyIn.nil))
      all_goals (go_simp;refine hK _ _ ?_;clear hK K)
      ·refine wpAnyIn_ready (rs:=[2]) uk us ?_
       refine(AllReadyIn.cons rfl (fun K hK=>?_) AllReadyIn.nil)
       all_goals (go_simp;refine hK _ _ ?_;clear hK K)
       refine cV (i:=3) (v:=?_) rfl rfl ?_ ?_;rotate_left
       ·intro w
        go_simp
        try with_reducible rfl
       refine cV (i:=4) (v:=?_) rfl rfl ?_ ?_;rotate_left
       ·intro w
        go_simp
        try with_reducible rfl
       refine cV (i:=7) (v:=?_) rfl rfl ?_ ?_;rotate_left
       ·intro w
        go_simp
        try with_reducible rfl
       refine wpAnyIn_ready (rs:=[8]) uk us ?_;refine(AllReadyIn.cons rfl (fun K hK=>?_) AllReadyIn.nil)
       all_goals (go_simp;refine hK _ _ ?_;clear hK K)
       refine wpAnyIn_ready (rs:=[9]) uk us ?_;refine(AllReadyIn.cons rfl (fun K hK=>?_) AllReadyIn.nil);rw[if_pos (by rfl)];refine mI 140 _ _ rfl rfl rfl hrun ?_;refine hK _ _ ?_;clear hK K;refine wpAnyIn_ready (rs:=[10]) uk us ?_;refine(AllReadyIn.cons rfl (fun K hK=>?_) AllReadyIn.nil)
       all_goals (go_simp;refine hK _ _ ?_;clear hK K)
       refine wpAnyIn_done uk ?_ _;gi_wp2
       go_roundw
       case rel=>exact⟨j+1,by omega,by go_num,by rw[SX.o],by have:=HK.o;omega,by rw[show 4*pre.length+(j+1)=k+1 by have:=HK.o;omega];exact HOut.o,HKO2.o,HKS2.o,HB2.o⟩
       case measure=>simp[intOf];omega
      ·refine cV (i:=3) (v:=?_) rfl rfl ?_ ?_
       rotate_left
       ·intro w
        go_simp
        try with_reducible rfl
       refine cV (i:=4) (v:=?_) rfl rfl ?_ ?_;rotate_left
       ·intro w
        go_simp
        try with_reducible rfl
       refine cV (i:=7) (v:=?_) rfl rfl ?_ ?_;rotate_left
       ·intro w
        go_simp
        try with_reducible rfl
       refine wpAnyIn_ready (rs:=[0,8]) uk us ?_;refine(AllReadyIn.cons rfl (fun K hK=>?_) (AllReadyIn.cons rfl (fun K hK=>?_) AllReadyIn.nil))
       all_goals (go_simp;refine hK _ _ ?_;clear hK K)
       ·refine wpAnyIn_ready (rs:=[8]) uk us ?_
        refine(AllReadyIn.cons rfl (fun K hK=>?_) AllReadyIn.nil)
        all_goals (go_simp;refine hK _ _ ?_;clear hK K)
        refine wpAnyIn_ready (rs:=[9]) uk us ?_;refine(AllReadyIn.cons rfl (fun K hK=>?_) AllReadyIn.nil);rw[if_pos (by rfl)];refine mI 140 _ _ rfl rfl rfl hrun ?_;refine hK _ _ ?_;clear hK K;refine wpAnyIn_ready (rs:=[10]) uk us ?_;refine(AllReadyIn.cons rfl (fun K hK=>?_) AllReadyIn.nil)
        all_goals (go_simp;refine hK _ _ ?_;clear hK K)
        refine wpAnyIn_done uk ?_ _;gi_wp2
        go_roundw
        case rel=>exact⟨j+1,by omega,by go_num,by rw[SX.o],by have:=HK.o;omega,by rw[show 4*pre.length+(j+1)=k+1 by have:=HK.o;omega];exact HOut.o,HKO2.o,HKS2.o,HB2.o⟩
        case measure=>simp[intOf];omega
       ·refine wpAnyIn_ready (rs:=[0]) uk us ?_
        refine(AllReadyIn.cons rfl (fun K hK=>?_) AllReadyIn.nil)
        all_goals (go_simp;refine hK _ _ ?_;clear hK K)
        refine wpAnyIn_ready (rs:=[9]) uk us ?_;refine(AllReadyIn.cons rfl (fun K hK=>?_) AllReadyIn.nil);rw[if_pos (by rfl)];refine mI 140 _ _ rfl rfl rfl hrun ?_;refine hK _ _ ?_;clear hK K;refine wpAnyIn_ready (rs:=[10]) uk us ?_;refine(AllReadyIn.cons rfl (fun K hK=>?_) AllReadyIn.nil)
        all_goals (go_simp;refine hK _ _ ?_;clear hK K)
        refine wpAnyIn_done uk ?_ _;gi_wp2
        go_roundw
        case rel=>exact⟨j+1,by omega,by go_num,by rw[SX.o],by have:=HK.o;omega,by rw[show 4*pre.length+(j+1)=k+1 by have:=HK.o;omega];exact HOut.o,HKO2.o,HKS2.o,HB2.o⟩
        case measure=>simp[intOf];omega
     ·refine cV (i:=3) (v:=?_) rfl rfl ?_ ?_
      rotate_left
      ·intro w
       go_simp
       try with_reducible rfl
      refine wpAnyIn_ready (rs:=[0,1]) uk us ?_;refine(AllReadyIn.cons rfl (fun K hK=>?_) (AllReadyIn.cons rfl (fun K hK=>?_) AllReadyIn.nil))
      all_goals (go_simp;refine hK _ _ ?_;clear hK K)
      ·refine wpAnyIn_ready (rs:=[1]) uk us ?_
       refine(AllReadyIn.cons rfl (fun K hK=>?_) AllReadyIn.nil)
       all_goals (go_simp;refine hK _ _ ?_;clear hK K)
       refine cV (i:=4) (v:=?_) rfl rfl ?_ ?_;rotate_left
       ·intro w
        go_simp
        try with_reducible rfl
       refine cV (i:=7) (v:=?_) rfl rfl ?_ ?_;rotate_left
       ·intro w
        go_simp
        try with_reducible rfl
       refine wpAnyIn_ready (rs:=[8]) uk us ?_;refine(AllReadyIn.cons rfl (fun K hK=>?_) AllReadyIn.nil)
       all_goals (go_simp;refine hK _ _ ?_;clear hK K)
       refine wpAnyIn_ready (rs:=[9]) uk us ?_;refine(AllReadyIn.cons rfl (fun K hK=>?_) AllReadyIn.nil);rw[if_pos (by rfl)];refine mI 140 _ _ rfl rfl rfl hrun ?_;refine hK _ _ ?_;clear hK K;refine wpAnyIn_ready (rs:=[10]) uk us ?_;refine(AllReadyIn.cons rfl (fun K hK=>?_) AllReadyIn.nil)
       all_goals (go_simp;refine hK _ _ ?_;clear hK K)
       refine wpAnyIn_done uk ?_ _;gi_wp2
       go_roundw
       case rel=>exact⟨j+1,by omega,by go_num,by rw[SX.o],by have:=HK.o;omega,by rw[show 4*pre.length+(j+1)=k+1 by have:=HK.o;omega];exact HOut.o,HKO2.o,HKS2.o,HB2.o⟩
       case measure=>simp[intOf];omega
      ·refine cV (i:=4) (v:=?_) rfl rfl ?_ ?_
       rotate_left
       ·intro w
        go_simp
        try with_reducible rfl
       refine cV (i:=7) (v:=?_) rfl rfl ?_ ?_;rotate_left
       ·intro w
        go_simp
        try with_reducible rfl
       refine wpAnyIn_ready (rs:=[0,8]) uk us ?_;refine(AllReadyIn.cons rfl (fun K hK=>?_) (AllReadyIn.cons rfl (fun K hK=>?_) AllReadyIn.nil))
       all_goals (go_simp;refine hK _ _ ?_;clear hK K)
       ·refine wpAnyIn_ready (rs:=[8]) uk us ?_
        refine(AllReadyIn.cons rfl (fun K hK=>?_) AllReadyIn.nil)
        all_goals (go_simp;refine hK _ _ ?_;clear hK K)
        refine wpAnyIn_ready (rs:=[9]) uk us ?_;refine(AllReadyIn.cons rfl (fun K hK=>?_) AllReadyIn.nil);rw[if_pos (by rfl)];refine mI 140 _ _ rfl rfl rfl hrun ?_;refine hK _ _ ?_;clear hK K;refine wpAnyIn_ready (rs:=[10]) uk us ?_;refine(AllReadyIn.cons rfl (fun K hK=>?_) AllReadyIn.nil)
        all_goals (go_simp;refine hK _ _ ?_;clear hK K)
        refine wpAnyIn_done uk ?_ _;gi_wp2
        go_roundw
        case rel=>exact⟨j+1,by omega,by go_num,by rw[SX.o],by have:=HK.o;omega,by rw[show 4*pre.length+(j+1)=k+1 by have:=HK.o;omega];exact HOut.o,HKO2.o,HKS2.o,HB2.o⟩
        case measure=>simp[intOf];omega
       ·refine wpAnyIn_ready (rs:=[0]) uk us ?_
        refine(AllReadyIn.cons rfl (fun K hK=>?_) AllReadyIn.nil)
        all_goals (go_simp;refine hK _ _ ?_;clear hK K)
        refine wpAnyIn_ready (rs:=[9]) uk us ?_;refine(AllReadyIn.cons rfl (fun K hK=>?_) AllReadyIn.nil);rw[if_pos (by rfl)];refine mI 140 _ _ rfl rfl rfl hrun ?_;refine hK _ _ ?_;clear hK K;refine wpAnyIn_ready (rs:=[10]) uk us ?_;refine(AllReadyIn.cons rfl (fun K hK=>?_) AllReadyIn.nil)
        all_goals (go_simp;refine hK _ _ ?_;clear hK K)
        refine wpAnyIn_done uk ?_ _;gi_wp2
        go_roundw
        case rel=>exact⟨j+1,by omega,by go_num,by rw[SX.o],by have:=HK.o;omega,by rw[show 4*pre.length+(j+1)=k+1 by have:=HK.o;omega];exact HOut.o,HKO2.o,HKS2.o,HB2.o⟩
        case measure=>simp[intOf];omega
   ·have ej:j=4:=uo
    have jn:¬(j:Int)<4:=uo
    have HEJ:Hid _:=ej;clear ej h4;gi_wp2;have e4:4*(pre++[x]).length=k:=by have:=HK.o;have:=HEJ.o;rw[HL.o];omega
    exact⟨HKO.o,HKS.o,⟨⟨by rw[e4];exact hle,Nat.lt_of_lt_of_le hsW HKO.o.size⟩,by rw[e4];exact HO.o⟩,HB.o⟩
 case done=>
  rintro D ys W hD rfl ⟨⟨⟨hle,_⟩,ho'⟩,hB⟩ hK
  have hlen:4*(dV f ((s.size+63)/64)).length=s.size:=by
   have:=zhl f ((s.size+63)/64);omega
  rw[hlen] at ho';have ho:=ho';clear ho' hle;have hD':=hD;have co:W.cell? ⟨w2.heap.size,0,none⟩=some (.slice (some ⟨w.heap.size+1,0,none⟩) s.size s.size):=by rw[zr ho.2.1];rfl
  have hcv:=zeO ho.2.2;have HB:Hid (Below w.heap.size w W):=hB;have HK:Hid (W.heap[D]? =some (.deferred (some []))):=hK;clear ho hB hK hD HO5 HT5 HC5 HF1 HB5 hi hz0 hz1 hz2;gi_wp2;rw[Exit.noGoto_ret];refine⟨by simp,.inl ⟨_,_,rfl,run_takeDeferred HK.o,?_⟩⟩;refine⟨_,results_tmp2 rfl _ _ _,?_,HB.o.trans (belowK_b (w:=w) zn W D _ _ uo HK.o rfl rfl)⟩;rw[HF.o];rfl
 case stop=>
  rintro D c pre W hD hpre ⟨⟨rfl,hge,ho'⟩,hB⟩ hK;have ho:=ho'.congr (g':=xf s (dV f ((s.size+63)/64))) (tf fun i hi=>(zgj s hpre i uo).symm);clear ho' hge hpre;have hD':=hD;have co:W.cell? ⟨w2.heap.size,0,none⟩=some (.slice (some ⟨w.heap.size+1,0,none⟩) s.size s.size):=by rw[zr ho.2.1];rfl
  have hcv:=zeO ho.2.2;have HB:Hid (Below w.heap.size w W):=hB;have HK:Hid (W.heap[D]? =some (.deferred (some []))):=hK;clear ho hB hK hD HO5 HT5 HC5 HF1 HB5 hi hz0 hz1 hz2;gi_wp2;rw[Exit.noGoto_ret];refine⟨by simp,.inl ⟨_,_,rfl,run_takeDeferred HK.o,?_⟩⟩;refine⟨_,results_tmp2 rfl _ _ _,?_,HB.o.trans (belowK_b (w:=w) zn W D _ _ uo HK.o rfl rfl)⟩;rw[HF.o];rfl
end Ra
namespace Ra
def dN (key nonce s:ByteArray):ByteArray:=strOfNums (upto (xf s (dV (lf (cat (fun j=>dn (tx key nonce j)) 4)) ((s.size+63)/64))) s.size)
theorem qo (key nonce s:ByteArray):(dN key nonce s).size=s.size:=by
 unfold dN;rw[strOfNums_size,fZ]
theorem zoX (op:BinOp) (a b:Int):0≤bits op IntKind.u8 a b∧bits op IntKind.u8 a b<256:=by
 unfold bits;rw[IntKind.wrap_u8'];omega
theorem pC (a b:Int):bits BinOp.xor IntKind.u8 a b=((BitVec.ofInt 8 a ^^^ BitVec.ofInt 8 b).toNat:Int):=by
 show IntKind.u8.wrap ((BitVec.ofInt 8 a ^^^ BitVec.ofInt 8 b).toNat:Int)=_;rw[IntKind.wrap_u8'];have:=(BitVec.ofInt 8 a ^^^ BitVec.ofInt 8 b).isLt;omega
theorem zoY (a k:Int) (h0:0≤a) (h1:a<256):bits BinOp.xor IntKind.u8 (bits BinOp.xor IntKind.u8 a k) k=a:=by
 rw[pC,pC,BitVec.ofInt_natCast,BitVec.ofNat_toNat,BitVec.setWidth_eq,BitVec.xor_assoc,BitVec.xor_self,BitVec.xor_zero];obtain⟨n,rfl⟩:=Int.eq_ofNat_of_zero_le h0;rw[BitVec.ofInt_natCast,BitVec.toNat_ofNat];omega
theorem iW (s:ByteArray) (i:Nat):0≤bt s i∧bt s i<256:=by
 unfold bt;have:=(s.data[i]?.getD 0).toNat_lt;omega
theorem pI (l:List Int) (i:Nat) (hi:i<l.length) (h0:0≤l[i]) (h1:l[i]<256):bt (strOfNums l) i=l[i]:=by
 unfold bt strOfNums;simp only[List.getElem?_toArray,List.getElem?_map,List.getElem?_eq_getElem hi,Option.map_some,Option.getD_some];rw[UInt8.toNat_ofNat'];omega
theorem zoZ (g:Nat→Int) (n i:Nat) (hi:i<n) (h0:0≤g i) (h1:g i<256):bt (strOfNums (upto g n)) i=g i:=by
 have e:(upto g n)[i]'(by rw[fZ];exact hi)=g i:=by simp[upto]
 rw[pI _ i (by rw[fZ];exact hi) (by rw[e];exact h0) (by rw[e];exact h1),e]
theorem zpV (s:ByteArray):strOfNums (upto (bt s) s.size)=s:=by
 apply ByteArray.ext;apply Array.ext
 ·show(strOfNums (upto (bt s) s.size)).size=s.size
  rw[strOfNums_size,fZ]
 ·intro i h1 h2
  have hi:i<s.size:=h2;simp only[strOfNums,upto,List.getElem_toArray,List.getElem_map,List.getElem_range];unfold bt;rw[Array.getElem?_eq_getElem h2];simp
theorem zja (key nonce s:ByteArray):dN key nonce (dN key nonce s)=s:=by
 have e:dN key nonce (dN key nonce s)=strOfNums (upto (bt s) s.size):=by
  show strOfNums (upto (xf (dN key nonce s) (dV _ (((dN key nonce s).size+63)/64))) (dN key nonce s).size)=_;rw[qo]
  congr 1
  refine tf fun i hi=>?_
  unfold xf;have hr:=zoX BinOp.xor (bt s i) (lf (kb (dV (lf (cat (fun j=>dn (tx key nonce j)) 4)) ((s.size+63)/64))) i)
  have hb:bt (dN key nonce s) i=bits BinOp.xor IntKind.u8 (bt s i) (lf (kb (dV (lf (cat (fun j=>dn (tx key nonce j)) 4)) ((s.size+63)/64))) i):=by
   unfold dN;exact zoZ _ _ i hi hr.1 hr.2
  rw[hb];exact zoY _ _ (iW s i).1 (iW s i).2
 rw[e,zpV]
open Go.RowKit
theorem zlb (key nonce s:ByteArray) (w:World) (h1:key.size=32) (h2:nonce.size=12) (h:s.size≤1048576) {tt:TypeId} {fr:Nat × Nat} (hg:w.heap[2]? =some (.cells tab tt fr)):
  Calls Tryz.prog 178 #[.string key,.string nonce,.string s] w fun e w'=>e=.returned (.tuple #[.string (dN key nonce s),.int .i64 0])∧Below w.heap.size w w':=callsIn_wide.1 (zi9 key nonce s w h1 h2 h hg)
end Ra
end Go.Proofs.YtokfnghckpgjmaaGreatDoor
