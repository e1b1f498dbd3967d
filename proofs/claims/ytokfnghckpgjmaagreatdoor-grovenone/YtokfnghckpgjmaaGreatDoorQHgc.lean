/- page: a page gets its ref, and is told. -/
import Derived.Test.YtokfnghckpgjmaaGreatDoorQIV
import Derived.Test.YtokfnghckpgjmaaGreatDoorQVB
set_option maxRecDepth 100000
set_option maxHeartbeats 4000000
namespace Go.Proofs.YtokfnghckpgjmaaGreatDoor
namespace Rz
open Go.RowKit Go.Lib Go.Shelf
open Rc Rq
open Rw (Rf fcv fc zaB Pp PAt okP encS encE pz gv Pg rpp pB gcs zcW)
open Rv (FB zab zaS)
attribute [local go_sem] Oper.semAt_some
abbrev gw (pf:Nat) (pb:Array Value):Value:=.agg #[.func (.func pf) #[] pb]
theorem zaE (w:World) (a b c:Obj) {W0:World} (h:((w.alloc a).alloc b).alloc c=W0):(W0.heap[w.heap.size]? =some a∧W0.heap[w.heap.size+1]? =some b∧W0.heap[w.heap.size+2]? =some c)∧Below w.heap.size w W0∧W0.heap.size=w.heap.size+3:=by
 have b1:=zaa w a;have b2:=zaa (w.alloc a) b;have b3:=zaa ((w.alloc a).alloc b) c;have s1:(w.alloc a).heap.size=w.heap.size+1:=by simp
 have s2:((w.alloc a).alloc b).heap.size=w.heap.size+2:=by simp
 rw[←h];refine⟨⟨?_,?_,?_⟩,(b1.trans (b2.mono (by omega))).trans (b3.mono (by omega)),by simp⟩
 ·rw[b3.block _ (by omega),b2.block _ (by omega)];exact zq w a
 ·rw[b3.block _ (by omega)];have:=zq (w.alloc a) b;rwa[s1] at this
 ·have:=zq ((w.alloc a).alloc b) c;rwa[s2] at this
def C8 (w:World) (g:Nat) (q:Pg):Prop:=w.cell? ⟨g,0,none⟩=some (.int .i64 q.k)∧w.cell? ⟨g,1,none⟩=some (.int .u32 (q.X:Int))∧w.cell? ⟨g,2,none⟩=some (.int .u32 (q.Y:Int))∧w.cell? ⟨g,3,none⟩=some (.int .i64 q.L)∧w.cell? ⟨g,4,none⟩=some (.slice q.ro q.rn q.rc)∧w.cell? ⟨g,5,none⟩=some (.slice q.ko q.kn q.kc)∧w.cell? ⟨g,6,none⟩=some (.int .u32 (q.np:Int))∧w.cell? ⟨g,7,none⟩=some (.string q.nt)
theorem zlj {w:World} {g:Nat} {q:Pg} (h:w.heap[g]? =some (gcs q)):C8 w g q:=
 ⟨by rw[zr h];rfl,by rw[zr h];rfl,by rw[zr h];rfl,by rw[zr h];rfl,by rw[zr h];rfl,by rw[zr h];rfl,by rw[zr h];rfl,by rw[zr h];rfl⟩
theorem _root_.Go.Proofs.YtokfnghckpgjmaaGreatDoor.Rv.FB.put6 {g:Nat} {a:Int} {s:ByteArray} {W:World} (h:FB g a s W) (a':Int) (s':ByteArray):FB g a' s' ((W.setCell ⟨g,0,none⟩ (.int .u32 a')).setCell ⟨g,1,none⟩ (.string s'))∧But (fun j=>j=g) W ((W.setCell ⟨g,0,none⟩ (.int .u32 a')).setCell ⟨g,1,none⟩ (.string s')):=by
 refine⟨(h.set a' s').1,rfl,rfl,rfl,by simp[World.setCell],fun j _ hn=>?_⟩;exact(heap_setCell_other _ _ _ _ hn).trans (heap_setCell_other _ _ _ _ hn)
theorem _root_.Go.Proofs.YtokfnghckpgjmaaGreatDoor.Rv.FB.but6 {S:Nat→Prop} {g:Nat} {a:Int} {s:ByteArray} {W W':World} (h:FB g a s W) (hb:But S W W') (hn:¬S g):FB g a s W':=(hb.block _ (zi h).1 hn).trans h
theorem zm6 {σ:Type} {l B:Nat} {V:Nat→Prop} {it:Nat→Sv × Int→Bool→Prop} {R:(Nat→Prop)→Nat→World→Prop} {Rx:(Nat→Prop)→World→Prop} {pl:Pm σ} {pf:Nat} {pb:Array Value} {I:σ→(Nat→Prop)→World→Prop}
  {own F F' own':Nat→Prop} {k:Nat} {s s2:σ} {W W1 W2 W3 W4 W5 W6 W7:World} {T:ByteArray} {r:Rf} (hs5:W.heap.size≤W5.heap.size) (hSz:W.heap.size+3≤W1.heap.size∧W2.heap.size=W1.heap.size+1)
  (hP:Plc B V pl pf pb I) (hA:Ask l B V it R Rx) (hI:I s F W) (hD:Dj own F W) (hB:B≤W.heap.size) (hB2:Below W.heap.size W W2) (hI3:I s2 F' W3) (hbt:But F W2 W3) (hgr:Grw F F' W2 W3) (hB4:But (fun j=>j=W1.heap.size) W3 W4) (hB45:Below W4.heap.size W4 W5) (_hK5:Kv B V own W W5)
  (hg:Grw own own' W5 W6) (hb:But own W5 W6) (hr:R own' (k+1) W6) (h67:But (fun j=>j=W.heap.size+2) W6 W7):GP R Rx I own F k ⟨s2,[⟨T,r⟩],0,r⟩ W (.returned (.tuple #[fcv r,.bool true])) W7:=by
 have b7:=h67;have b4:=hB4;have hs3:=hbt.size;have hs4:=b4.size;have hs45:=hB45.size;have hs6:=hb.size;have hs7:=b7.size;have hs2:=hB2.size
 have hF3:∀ j,F' j→(j<W.heap.size∧F j)∨(W2.heap.size≤j∧j<W3.heap.size):=fun j hj=>by
  rcases hgr j hj with h|h
  ·exact .inl ⟨hP.lt s F W hI j h,h⟩
  ·exact .inr h
 have hO6:∀ j,own' j→(j<W.heap.size∧own j)∨(W5.heap.size≤j∧j<W6.heap.size):=fun j hj=>by
  rcases hg j hj with h|h
  ·exact .inl ⟨hD.lt j h,h⟩
  ·exact .inr h
 refine⟨rfl,own',F',⟨fun j hj=>?_,fun j hj=>?_⟩,⟨fun j hj=>?_,fun j hj hF=>?_⟩,?_,?_,fun _=>?_,fun h=>absurd rfl h⟩
 ·rcases hO6 j hj with h|h
  ·exact .inl h.2
  ·exact .inr ⟨by omega,by omega⟩
 ·rcases hF3 j hj with h|h
  ·exact .inl h.2
  ·exact .inr ⟨by omega,by omega⟩
 ·rcases hO6 j hj with h|h
  ·omega
  ·omega
 ·rcases hO6 j hj with h|h<;>rcases hF3 j hF with h'|h'
  ·exact hD.no j h.2 h'.2
  ·omega
  ·omega
  ·omega
 ·refine⟨b7.os.trans (hb.os.trans (hB45.os.trans (b4.os.trans (hbt.os.trans hB2.os)))),b7.tape.trans (hb.tape.trans (hB45.tape.trans (b4.tape.trans (hbt.tape.trans hB2.tape)))),b7.output.trans (hb.output.trans (hB45.output.trans (b4.output.trans (hbt.output.trans hB2.output)))),by omega,fun j hj hn=>?_⟩
  rw[b7.block j (by omega) (by omega),hb.block j (by omega) (fun e=>hn (.inl e)),hB45.block j (by omega),b4.block j (by omega) (by omega),hbt.block j (by omega) (fun e=>hn (.inr e)),hB2.block j hj]
 ·refine hP.keep s2 F' W3 W7 hI3 (by omega) fun j hj=>?_
  have hne:j≠W1.heap.size:=fun e=>by rcases hF3 j hj with h|h<;>omega
  have hl:=hP.lt s2 F' W3 hI3 j hj;have h4:W4.heap[j]? =W3.heap[j]? :=b4.block j hl hne;have h5:W5.heap[j]? =W4.heap[j]? :=hB45.block j (by omega)
  have h6:W6.heap[j]? =W5.heap[j]? :=hb.block j (by omega) fun e=>by
   rcases hF3 j hj with h|h
   ·exact hD.no j e h.2
   ·have:=hD.lt j e;omega
  have h7:W7.heap[j]? =W6.heap[j]? :=b7.block j (by omega) fun e=>by rcases hF3 j hj with h|h<;>omega
  rw[h7,h6,h5,h4]
 ·exact hA.keep own' (k+1) W6 W7 hr (Kv.of_but b7 fun j _ e=>⟨.inr (by omega),fun e'=>by rcases hO6 _ e' with h|h<;>omega⟩)
theorem zo6 {σ:Type} (l B:Nat) (V:Nat→Prop) (it:Nat→Sv × Int→Bool→Prop) (R:(Nat→Prop)→Nat→World→Prop) (Rx:(Nat→Prop)→World→Prop) (hA:Ask l B V it R Rx)
  (pl:Pm σ) (pf:Nat) (pb:Array Value) (I:σ→(Nat→Prop)→World→Prop) (hP:Plc B V pl pf pb I) (q:Pg) (P:Pp) (own F:Nat→Prop) (k:Nat) (s:σ) (W:World)
  (hR:R own k W) (hI:I s F W) (hD:Dj own F W) (hB:B≤W.heap.size) (hq:PAt W q P) (ho:okP P) (h0:encE P=0) (r:Rf) (s2:σ) (h1:pl s (encS P)=((r,0),s2)) (hf:it k (⟨encS P,r⟩,0) true):
  Calls Tryz.prog 159 #[gw pf pb,gv q,.func (.yield l) #[] #[]] W (GP R Rx I own F k ⟨s2,[⟨encS P,r⟩],0,r⟩ W):=by
 obtain⟨W0,hW0⟩:∃ W0,((W.alloc (.cells #[.func (.func pf) #[] pb] 93)).alloc (gcs q)).alloc (.cells #[.int .u32 0,.string ⟨#[]⟩] 49)=W0:=⟨_,rfl⟩;obtain⟨⟨g0,g1,g2⟩,b0,s0⟩:=zaE _ _ _ _ hW0;have HG:Hid (W0.heap[W.heap.size]? =some (.cells #[.func (.func pf) #[] pb] 93 (0,0))∧FB (W.heap.size+2) 0 ⟨#[]⟩ W0):=⟨g0,g2⟩;obtain⟨c0,c1,c2,c3,c4,c5,c6,c7⟩:=zlj g1;have HE:Hid _:=zcW q P W0 (hq.below b0 zn) ho
 have HC:Hid (∀ W',I s F W'→Calls Tryz.prog pf (#[.string (encS P)]++pb) W' fun e W''=>e=.returned (.tuple #[fcv r,.int .i64 0])∧∃ F',I s2 F' W''∧But F W' W''∧Grw F F' W' W''):=fun W' hW'=>by
  have:=hP.call s F W' (encS P) (zcX P) hW';rw[h1] at this;exact this
 rw[h0] at HE;generalize encS P=T at*
 have HB0:Hid (Below W.heap.size W W0):=b0;have HS0:Hid (W0.heap.size=W.heap.size+3):=s0;have heg:=hP.eg;have HP:Hid (Plc B V pl pf pb I):=hP;have HA:Hid (Ask l B V it R Rx):=hA;have HR:Hid (R own k W):=hR;have HI:Hid (I s F W):=hI;have HDj:Hid (Dj own F W):=hD;have HBB:Hid (B≤W.heap.size):=hB;have HF:Hid _:=hf;clear hP hA hR hI hD hB hf h0 h1 g0 g1 g2 b0 s0 hq ho;refine(callsIn_wide (n:=5)).1 ?_;refine callsIn_of_wp Tryz.func159 rfl trivial ?_ rfl;simp only[Tryz.ntmps159,zS1,zS2,zS3,Nat.reduceAdd,Nat.reduceSub,zS4,zS5,zS6,zS7,zS8,zS9];gi_wp2;refine⟨trivial,callsIn_wide.2 (Calls.mono HE.out ?_)⟩;rintro e W1 ⟨rfl,b1⟩;clear HE c0 c1 c2 c3 c4 c5 c6 c7 hW0;obtain⟨W2,hW2⟩:∃ W2,W1.alloc (.cells #[.int .u32 0,.string ⟨#[]⟩] 49)=W2:=⟨_,rfl⟩;have b2:Below W1.heap.size W1 W2:=by rw[←hW2];exact zaa _ _
 have hs2:W2.heap.size=W1.heap.size+1:=by rw[←hW2];simp
 have HZ2:Hid (FB W1.heap.size 0 ⟨#[]⟩ W2):=by rw[←hW2];exact zaS W1
 have b02:Below W0.heap.size W0 W2:=b1.trans (b2.mono b1.size);have HB2:Hid (Below W.heap.size W W2):=HB0.out.trans (b02.mono HB0.out.size);have HY2:Hid (FB (W.heap.size+2) 0 ⟨#[]⟩ W2):=HG.out.2.grow b02;have HSz:Hid (W.heap.size+3≤W1.heap.size∧W2.heap.size=W1.heap.size+1):=⟨by have:=HS0.out;have:=b1.size;omega,hs2⟩
 have cg:W2.cell? ⟨W.heap.size,0,none⟩=some (.func (.func pf) #[] pb):=by
  rw[zr ((b02.block _ (zi HG.out.1).1).trans HG.out.1)];rfl
 have HI2:Hid (I s F W2):=HP.out.keep s F W W2 HI.out HB2.out.size fun j hj=>HB2.out.block j (HP.out.lt s F W HI.out j hj)
 clear b1 b2 hs2 b02 HG;gi_wp2;refine⟨trivial,callsIn_wide.2 (Calls.mono (HC.out W2 HI2.out) ?_)⟩;rintro e W3 ⟨rfl,F',hI3,hb3,hg3⟩;have HFl:Hid (∀ j,F j→j<W.heap.size):=HP.out.lt s F W HI.out;have nF:∀ j,W.heap.size≤j→¬F j:=fun j hj hF=>by have:=HFl.out j hF;omega
 have HY3:Hid (FB (W.heap.size+2) 0 ⟨#[]⟩ W3):=(hb3.block _ (zi HY2.out).1 (nF _ (by omega))).trans HY2.out;have hZ3:FB W1.heap.size 0 ⟨#[]⟩ W3:=(hb3.block _ (zi HZ2.out).1 (nF _ (by have:=HSz.out;omega))).trans HZ2.out;have HI3:Hid (I s2 F' W3):=hI3;have HBt:Hid (But F W2 W3):=hb3;have HGr:Hid (Grw F F' W2 W3):=hg3;obtain⟨z1,z2,z3,z4⟩:=hZ3.facts;obtain⟨W4,hW4⟩:∃ W4,(W3.setCell ⟨W1.heap.size,0,none⟩ (.int .u32 (r.p:Int))).setCell ⟨W1.heap.size,1,none⟩ (.string r.t)=W4:=⟨_,rfl⟩;obtain⟨hZ4,b4⟩:=hZ3.put6 (r.p:Int) r.t;rw[hW4] at hZ4 b4;clear hI3 hb3 hg3 cg HC HZ2 HY2 hW2;have HZ4:Hid (FB W1.heap.size (r.p:Int) r.t W4):=hZ4;have HB4:Hid (But (fun j=>j=W1.heap.size) W3 W4):=b4;clear hZ4 b4 hZ3;gi_wp2;refine wpIn_region_any (by kernel_rfl) ?_;change wpAnyIn _ _ _ _ _ _ _ _ _ (World.drew _);obtain⟨W5,hW5⟩:∃ W5,W4.drew=W5:=⟨_,rfl⟩;have b5:Below W4.heap.size W4 W5:=by rw[←hW5];exact(Below.refl _ _).drew
 rw[hW5];have HZ5:Hid (FB W1.heap.size (r.p:Int) r.t W5):=HZ4.out.grow b5;have HB45:Hid (Below W4.heap.size W4 W5):=b5;have HY5:Hid (FB (W.heap.size+2) 0 ⟨#[]⟩ W5):=(b5.block _ (by have:=HB4.out.size;have:=(zi HY3.out).1;omega)).trans ((HB4.out.block _ (zi HY3.out).1 (by have:=HSz.out;omega)).trans HY3.out)
 have HK5:Hid (Kv B V own W W5):=by
  refine(?_:Kv B V own W W5);refine(Kv.of_below HB2.out).trans (Kv.trans (b:=W3) ?_ (Kv.trans (b:=W4) ?_ (Kv.of_below b5)))
  ·exact Kv.of_but HBt.out fun j _ hF=>⟨HP.out.fp s F W HI.out j hF,fun ho=>HDj.out.no j ho hF⟩
  ·exact Kv.of_but HB4.out fun j _ e=>⟨.inr (by have:=HSz.out;have:=HBB.out;omega),fun e'=>by have:=HDj.out.lt _ e';have:=HSz.out;omega⟩
 have HR5:Hid (R own k W5):=HA.out.keep own k W W5 HR.out HK5.out;have hs5:W.heap.size≤W5.heap.size:=HK5.out.size;have hy0:=za0 (m:=4)<|HA.out.yld own k (⟨T,r⟩,0) true W5 HF.out HR5.out fun j hj=>Nat.lt_of_lt_of_le (HDj.out.lt j hj) hs5
 obtain⟨fn,tmps,assign,body,hy,hRd⟩:=hy0;have HRd:Hid (RoundIn Fence.wide 4 Tryz.prog l fn tmps assign body W5 (YP R Rx own (k+1) W5 true)):=hRd;obtain⟨y1,y2,y3,y4⟩:=HZ5.out.facts
 have HFin:Hid (∀ W6 W7 own',Grw own own' W5 W6→But own W5 W6→R own' (k+1) W6→But (fun j=>j=W.heap.size+2) W6 W7→GP R Rx I own F k ⟨s2,[⟨T,r⟩],0,r⟩ W (.returned (.tuple #[fcv r,.bool true])) W7):=by
  intro W6 W7 own' hg hb hr h67;exact zm6 hs5 HSz.out HP.out HA.out HI.out HDj.out HBB.out HB2.out HI3.out HBt.out HGr.out HB4.out HB45.out HK5.out hg hb hr h67
 clear hRd z1 z2 z3 z4 hW4 hW5 b5 hs5;refine tkI (i:=1) (v:=?_) rfl rfl ?_ ?_;rotate_left
 ·intro w
  go_simp
  try with_reducible rfl
 conv in(Act.put _ _ _)=>simp only[zL1,zL2,zL3,Act.put,zL4,zL5,zL6]
 refine tkI (i:=2) (v:=?_) rfl rfl ?_ ?_;rotate_left
 ·intro w
  go_simp
  try with_reducible rfl
 conv in(Act.put _ _ _)=>simp only[zL1,zL2,zL3,Act.put,zL4,zL5,zL6]
 refine wpAnyIn_ready (rs:=[0,3]) (by kernel_rfl) (by simp) ?_;refine(AllReadyIn.cons rfl (fun K hK=>?_) (AllReadyIn.cons rfl (fun K hK=>?_) AllReadyIn.nil))
 ·go_simp
  refine hK _ _ ?_;clear hK K;refine wpAnyIn_ready (rs:=[3]) (by kernel_rfl) (by simp) ?_;refine(AllReadyIn.cons rfl (fun K hK=>?_) AllReadyIn.nil);go_simp;refine hK _ _ ?_;clear hK K;refine tkI (i:=4) (v:=?_) rfl rfl ?_ ?_;rotate_left
  ·intro w
   go_simp
   try with_reducible rfl
  conv in(Act.put _ _ _)=>simp only[zL1,zL2,zL3,Act.put,zL4,zL5,zL6]
  refine wpAnyIn_ready (rs:=[5]) (by kernel_rfl) (by simp) ?_;refine(AllReadyIn.cons rfl (fun K hK=>?_) AllReadyIn.nil);go_simp;refine HRd.out.mono ?_;rintro e W6 ⟨own',hg6,hb6,rfl,(⟨-,hr6⟩|⟨hx,-⟩)⟩;rotate_left
  ·cases hx
  have hY6:FB (W.heap.size+2) 0 ⟨#[]⟩ W6:=HY5.out.but6 hb6 fun e=>by have:=HDj.out.lt _ e;omega
  have hZ6:FB W1.heap.size (r.p:Int) r.t W6:=HZ5.out.but6 hb6 fun e=>by have:=HDj.out.lt _ e;have:=HSz.out;omega
  have HF6:Hid _:=HFin.out W6;obtain⟨x1,x2,x3,x4⟩:=hY6.facts;obtain⟨v1,v2,v3,v4⟩:=hZ6.facts;obtain⟨W7,hW7⟩:∃ W7,(W6.setCell ⟨W.heap.size+1+1,0,none⟩ (.int .u32 (r.p:Int))).setCell ⟨W.heap.size+1+1,1,none⟩ (.string r.t)=W7:=⟨_,rfl⟩;obtain⟨hY7,b7⟩:=hY6.put6 (r.p:Int) r.t;rw[hW7] at hY7 b7;have HY7:Hid (FB (W.heap.size+2) (r.p:Int) r.t W7):=hY7;have HG7:Hid (GP R Rx I own F k ⟨s2,[⟨T,r⟩],0,r⟩ W (.returned (.tuple #[fcv r,.bool true])) W7):=HF6.out W7 own' hg6 hb6 hr6 b7;clear hy hY7 b7 hY6 hZ6 HF6 hg6 hb6 hr6 y1 y2 y3 y4;refine hK _ _ ?_;clear hK K;refine wpAnyIn_ready (rs:=[6]) (by kernel_rfl) (by simp) ?_;refine(AllReadyIn.cons rfl (fun K hK=>?_) AllReadyIn.nil);go_simp;refine hK _ _ ?_;clear hK K;refine wpAnyIn_ready (rs:=[7]) (by kernel_rfl) (by simp) ?_;refine(AllReadyIn.cons rfl (fun K hK=>?_) AllReadyIn.nil);go_simp;refine hK _ _ ?_;clear hK K;refine wpAnyIn_done (by kernel_rfl) ?_ _
  gi_wp2;refine bodyPost_ret (zab rfl _ _ _ _ _ _ rfl rfl HY7.out) rfl ?_;exact HG7.out
 ·go_simp
  refine hK _ _ ?_;clear hK K;refine tkI (i:=4) (v:=?_) rfl rfl ?_ ?_;rotate_left
  ·intro w
   go_simp
   try with_reducible rfl
  conv in(Act.put _ _ _)=>simp only[zL1,zL2,zL3,Act.put,zL4,zL5,zL6]
  refine wpAnyIn_ready (rs:=[0,5]) (by kernel_rfl) (by simp) ?_;refine(AllReadyIn.cons rfl (fun K hK=>?_) (AllReadyIn.cons rfl (fun K hK=>?_) AllReadyIn.nil))
  ·go_simp
   refine hK _ _ ?_;clear hK K;refine wpAnyIn_ready (rs:=[5]) (by kernel_rfl) (by simp) ?_;refine(AllReadyIn.cons rfl (fun K hK=>?_) AllReadyIn.nil);go_simp;refine HRd.out.mono ?_;rintro e W6 ⟨own',hg6,hb6,rfl,(⟨-,hr6⟩|⟨hx,-⟩)⟩;rotate_left
   ·cases hx
   have hY6:FB (W.heap.size+2) 0 ⟨#[]⟩ W6:=HY5.out.but6 hb6 fun e=>by have:=HDj.out.lt _ e;omega
   have hZ6:FB W1.heap.size (r.p:Int) r.t W6:=HZ5.out.but6 hb6 fun e=>by have:=HDj.out.lt _ e;have:=HSz.out;omega
   have HF6:Hid _:=HFin.out W6;obtain⟨x1,x2,x3,x4⟩:=hY6.facts;obtain⟨v1,v2,v3,v4⟩:=hZ6.facts;obtain⟨W7,hW7⟩:∃ W7,(W6.setCell ⟨W.heap.size+1+1,0,none⟩ (.int .u32 (r.p:Int))).setCell ⟨W.heap.size+1+1,1,none⟩ (.string r.t)=W7:=⟨_,rfl⟩;obtain⟨hY7,b7⟩:=hY6.put6 (r.p:Int) r.t;rw[hW7] at hY7 b7;have HY7:Hid (FB (W.heap.size+2) (r.p:Int) r.t W7):=hY7;have HG7:Hid (GP R Rx I own F k ⟨s2,[⟨T,r⟩],0,r⟩ W (.returned (.tuple #[fcv r,.bool true])) W7):=HF6.out W7 own' hg6 hb6 hr6 b7;clear hy hY7 b7 hY6 hZ6 HF6 hg6 hb6 hr6 y1 y2 y3 y4;refine hK _ _ ?_;clear hK K;refine wpAnyIn_ready (rs:=[6]) (by kernel_rfl) (by simp) ?_;refine(AllReadyIn.cons rfl (fun K hK=>?_) AllReadyIn.nil);go_simp;refine hK _ _ ?_;clear hK K;refine wpAnyIn_ready (rs:=[7]) (by kernel_rfl) (by simp) ?_;refine(AllReadyIn.cons rfl (fun K hK=>?_) AllReadyIn.nil);go_simp;refine hK _ _ ?_;clear hK K;refine wpAnyIn_done (by kernel_rfl) ?_ _
   gi_wp2;refine bodyPost_ret (zab rfl _ _ _ _ _ _ rfl rfl HY7.out) rfl ?_;exact HG7.out
  ·go_simp
   refine HRd.out.mono ?_;rintro e W6 ⟨own',hg6,hb6,rfl,(⟨-,hr6⟩|⟨hx,-⟩)⟩;rotate_left
   ·cases hx
   have hY6:FB (W.heap.size+2) 0 ⟨#[]⟩ W6:=HY5.out.but6 hb6 fun e=>by have:=HDj.out.lt _ e;omega
   have hZ6:FB W1.heap.size (r.p:Int) r.t W6:=HZ5.out.but6 hb6 fun e=>by have:=HDj.out.lt _ e;have:=HSz.out;omega
   have HF6:Hid _:=HFin.out W6;obtain⟨x1,x2,x3,x4⟩:=hY6.facts;obtain⟨v1,v2,v3,v4⟩:=hZ6.facts;obtain⟨W7,hW7⟩:∃ W7,(W6.setCell ⟨W.heap.size+1+1,0,none⟩ (.int .u32 (r.p:Int))).setCell ⟨W.heap.size+1+1,1,none⟩ (.string r.t)=W7:=⟨_,rfl⟩;obtain⟨hY7,b7⟩:=hY6.put6 (r.p:Int) r.t;rw[hW7] at hY7 b7;have HY7:Hid (FB (W.heap.size+2) (r.p:Int) r.t W7):=hY7;have HG7:Hid (GP R Rx I own F k ⟨s2,[⟨T,r⟩],0,r⟩ W (.returned (.tuple #[fcv r,.bool true])) W7):=HF6.out W7 own' hg6 hb6 hr6 b7;clear hy hY7 b7 hY6 hZ6 HF6 hg6 hb6 hr6 y1 y2 y3 y4;refine hK _ _ ?_;clear hK K;refine wpAnyIn_ready (rs:=[0]) (by kernel_rfl) (by simp) ?_;refine(AllReadyIn.cons rfl (fun K hK=>?_) AllReadyIn.nil);go_simp;refine hK _ _ ?_;clear hK K;refine wpAnyIn_ready (rs:=[6]) (by kernel_rfl) (by simp) ?_;refine(AllReadyIn.cons rfl (fun K hK=>?_) AllReadyIn.nil);go_simp;refine hK _ _ ?_;clear hK K;refine wpAnyIn_ready (rs:=[7]) (by kernel_rfl) (by simp) ?_
   refine(AllReadyIn.cons rfl (fun K hK=>?_) AllReadyIn.nil);go_simp;refine hK _ _ ?_;clear hK K;refine wpAnyIn_done (by kernel_rfl) ?_ _;gi_wp2;refine bodyPost_ret (zab rfl _ _ _ _ _ _ rfl rfl HY7.out) rfl ?_;exact HG7.out
end Rz
namespace Rz
open Go.RowKit Go.Lib Go.Shelf
open Rc Rq
open Rw (Rf fcv fc zaB Pp PAt okP encS encE pz gv Pg rpp pB gcs zcW)
open Rv (FB zab zaS)
attribute [local go_sem] Oper.semAt_some
theorem zgr {σ:Type} {l B:Nat} {V:Nat→Prop} {it:Nat→Sv × Int→Bool→Prop} {R:(Nat→Prop)→Nat→World→Prop} {Rx:(Nat→Prop)→World→Prop} {pl:Pm σ} {pf:Nat} {pb:Array Value} {I:σ→(Nat→Prop)→World→Prop}
  {own F F' own':Nat→Prop} {k:Nat} {s s2:σ} {W W1 W2 W3 W4 W5 W6 W7:World} {e0:Int} (hne:¬e0=0) (hs5:W.heap.size≤W5.heap.size) (hSz:W.heap.size+3≤W1.heap.size∧W2.heap.size=W1.heap.size+1)
  (hP:Plc B V pl pf pb I) (hA:Ask l B V it R Rx) (hI:I s F W) (hD:Dj own F W) (hB:B≤W.heap.size) (hB2:Below W.heap.size W W2) (hI3:I s2 F' W3) (hbt:But F W2 W3) (hgr:Grw F F' W2 W3) (hB4:But (fun j=>j=W1.heap.size) W3 W4) (hB45:Below W4.heap.size W4 W5) (_hK5:Kv B V own W W5)
  (hg:Grw own own' W5 W6) (hb:But own W5 W6) (hr:Rx own' W6) (h67:But (fun j=>j=W.heap.size+2) W6 W7):GP R Rx I own F k ⟨s2,[],e0,zf⟩ W (.returned (.tuple #[fcv zf,.bool false])) W7:=by
 have b7:=h67;have b4:=hB4;have hs3:=hbt.size;have hs4:=b4.size;have hs45:=hB45.size;have hs6:=hb.size;have hs7:=b7.size;have hs2:=hB2.size
 have hF3:∀ j,F' j→(j<W.heap.size∧F j)∨(W2.heap.size≤j∧j<W3.heap.size):=fun j hj=>by
  rcases hgr j hj with h|h
  ·exact .inl ⟨hP.lt s F W hI j h,h⟩
  ·exact .inr h
 have hO6:∀ j,own' j→(j<W.heap.size∧own j)∨(W5.heap.size≤j∧j<W6.heap.size):=fun j hj=>by
  rcases hg j hj with h|h
  ·exact .inl ⟨hD.lt j h,h⟩
  ·exact .inr h
 refine⟨by rw[decide_eq_false hne],own',F',⟨fun j hj=>?_,fun j hj=>?_⟩,⟨fun j hj=>?_,fun j hj hF=>?_⟩,?_,?_,fun h=>absurd h hne,fun _=>?_⟩
 ·rcases hO6 j hj with h|h
  ·exact .inl h.2
  ·exact .inr ⟨by omega,by omega⟩
 ·rcases hF3 j hj with h|h
  ·exact .inl h.2
  ·exact .inr ⟨by omega,by omega⟩
 ·rcases hO6 j hj with h|h
  ·omega
  ·omega
 ·rcases hO6 j hj with h|h<;>rcases hF3 j hF with h'|h'
  ·exact hD.no j h.2 h'.2
  ·omega
  ·omega
  ·omega
 ·refine⟨b7.os.trans (hb.os.trans (hB45.os.trans (b4.os.trans (hbt.os.trans hB2.os)))),b7.tape.trans (hb.tape.trans (hB45.tape.trans (b4.tape.trans (hbt.tape.trans hB2.tape)))),b7.output.trans (hb.output.trans (hB45.output.trans (b4.output.trans (hbt.output.trans hB2.output)))),by omega,fun j hj hn=>?_⟩
  rw[b7.block j (by omega) (by omega),hb.block j (by omega) (fun e=>hn (.inl e)),hB45.block j (by omega),b4.block j (by omega) (by omega),hbt.block j (by omega) (fun e=>hn (.inr e)),hB2.block j hj]
 ·refine hP.keep s2 F' W3 W7 hI3 (by omega) fun j hj=>?_
  have hne:j≠W1.heap.size:=fun e=>by rcases hF3 j hj with h|h<;>omega
  have hl:=hP.lt s2 F' W3 hI3 j hj;have h4:W4.heap[j]? =W3.heap[j]? :=b4.block j hl hne;have h5:W5.heap[j]? =W4.heap[j]? :=hB45.block j (by omega)
  have h6:W6.heap[j]? =W5.heap[j]? :=hb.block j (by omega) fun e=>by
   rcases hF3 j hj with h|h
   ·exact hD.no j e h.2
   ·have:=hD.lt j e;omega
  have h7:W7.heap[j]? =W6.heap[j]? :=b7.block j (by omega) fun e=>by rcases hF3 j hj with h|h<;>omega
  rw[h7,h6,h5,h4]
 ·exact hA.keepx own' W6 W7 hr (Kv.of_but b7 fun j _ e=>⟨.inr (by omega),fun e'=>by rcases hO6 _ e' with h|h<;>omega⟩)
theorem zm7 {σ:Type} (l B:Nat) (V:Nat→Prop) (it:Nat→Sv × Int→Bool→Prop) (R:(Nat→Prop)→Nat→World→Prop) (Rx:(Nat→Prop)→World→Prop) (hA:Ask l B V it R Rx)
  (pl:Pm σ) (pf:Nat) (pb:Array Value) (I:σ→(Nat→Prop)→World→Prop) (hP:Plc B V pl pf pb I) (q:Pg) (P:Pp) (own F:Nat→Prop) (k:Nat) (s:σ) (W:World)
  (hR:R own k W) (hI:I s F W) (hD:Dj own F W) (hB:B≤W.heap.size) (hq:PAt W q P) (ho:okP P) (e0:Int) (h0:encE P=e0) (hne:¬e0=0) (hf:it k (zs,e0) false):
  Calls Tryz.prog 159 #[gw pf pb,gv q,.func (.yield l) #[] #[]] W (GP R Rx I own F k ⟨s,[],e0,zf⟩ W):=by
 obtain⟨W0,hW0⟩:∃ W0,((W.alloc (.cells #[.func (.func pf) #[] pb] 93)).alloc (gcs q)).alloc (.cells #[.int .u32 0,.string ⟨#[]⟩] 49)=W0:=⟨_,rfl⟩;obtain⟨⟨g0,g1,g2⟩,b0,s0⟩:=zaE _ _ _ _ hW0;have HG:Hid (W0.heap[W.heap.size]? =some (.cells #[.func (.func pf) #[] pb] 93 (0,0))∧FB (W.heap.size+2) 0 ⟨#[]⟩ W0):=⟨g0,g2⟩;obtain⟨c0,c1,c2,c3,c4,c5,c6,c7⟩:=zlj g1;have HE:Hid _:=zcW q P W0 (hq.below b0 zn) ho;rw[h0] at HE;generalize encS P=T at*
 have HB0:Hid (Below W.heap.size W W0):=b0;have HS0:Hid (W0.heap.size=W.heap.size+3):=s0;have heg:=hP.eg;have HP:Hid (Plc B V pl pf pb I):=hP;have HA:Hid (Ask l B V it R Rx):=hA;have HR:Hid (R own k W):=hR;have HI:Hid (I s F W):=hI;have HDj:Hid (Dj own F W):=hD;have HBB:Hid (B≤W.heap.size):=hB;have HF:Hid _:=hf;clear hP hA hR hI hD hB hf h0 g0 g1 g2 b0 s0 hq ho;refine(callsIn_wide (n:=5)).1 ?_;refine callsIn_of_wp Tryz.func159 rfl trivial ?_ rfl;simp only[Tryz.ntmps159,zS1,zS2,zS3,Nat.reduceAdd,Nat.reduceSub,zS4,zS5,zS6,zS7,zS8,zS9];gi_wp2;refine⟨trivial,callsIn_wide.2 (Calls.mono HE.out ?_)⟩;rintro e W1 ⟨rfl,b1⟩;clear HE c0 c1 c2 c3 c4 c5 c6 c7 hW0;obtain⟨W2,hW2⟩:∃ W2,W1.alloc (.cells #[.int .u32 0,.string ⟨#[]⟩] 49)=W2:=⟨_,rfl⟩;have b2:Below W1.heap.size W1 W2:=by rw[←hW2];exact zaa _ _
 have hs2:W2.heap.size=W1.heap.size+1:=by rw[←hW2];simp
 have HZ2:Hid (FB W1.heap.size 0 ⟨#[]⟩ W2):=by rw[←hW2];exact zaS W1
 have b02:Below W0.heap.size W0 W2:=b1.trans (b2.mono b1.size);have HB2:Hid (Below W.heap.size W W2):=HB0.out.trans (b02.mono HB0.out.size);have HY2:Hid (FB (W.heap.size+2) 0 ⟨#[]⟩ W2):=HG.out.2.grow b02;have HSz:Hid (W.heap.size+3≤W1.heap.size∧W2.heap.size=W1.heap.size+1):=⟨by have:=HS0.out;have:=b1.size;omega,hs2⟩
 have cg:W2.cell? ⟨W.heap.size,0,none⟩=some (.func (.func pf) #[] pb):=by
  rw[zr ((b02.block _ (zi HG.out.1).1).trans HG.out.1)];rfl
 have HI2:Hid (I s F W2):=HP.out.keep s F W W2 HI.out HB2.out.size fun j hj=>HB2.out.block j (HP.out.lt s F W HI.out j hj)
 clear b1 b2 hs2 b02 HG;clear cg;have HK5:Hid (Kv B V own W W2):=Kv.of_below HB2.out;have HY5:Hid (FB (W.heap.size+2) 0 ⟨#[]⟩ W2):=HY2.out;obtain⟨z1,z2,z3,z4⟩:=HY5.out.facts;have hs5:W.heap.size≤W2.heap.size:=HK5.out.size;have HR5:Hid (R own k W2):=HA.out.keep own k W W2 HR.out HK5.out;have hy0:=za0 (m:=4)<|HA.out.yld own k (zs,e0) false W2 HF.out HR5.out fun j hj=>Nat.lt_of_lt_of_le (HDj.out.lt j hj) hs5
 obtain⟨fn,tmps,assign,body,hy,hRd⟩:=hy0;have HRd:Hid (RoundIn Fence.wide 4 Tryz.prog l fn tmps assign body W2 (YP R Rx own (k+1) W2 false)):=hRd;have ez:yv (zs,e0)=#[.agg #[.string ⟨#[]⟩,.int .u32 0,.string ⟨#[]⟩],.int .i64 e0]:=rfl;rw[ez] at hy;clear hRd hs5 ez;gi_wp2;refine HRd.out.mono ?_;rintro e W6 ⟨own',hg6,hb6,rfl,(⟨hx,-⟩|⟨-,hr6⟩)⟩
 ·cases hx
 have hY6:FB (W.heap.size+2) 0 ⟨#[]⟩ W6:=HY5.out.but6 hb6 fun e=>by have:=HDj.out.lt _ e;omega
 obtain⟨x1,x2,x3,x4⟩:=hY6.facts;obtain⟨W7,hW7⟩:∃ W7,(W6.setCell ⟨W.heap.size+1+1,0,none⟩ (.int .u32 0)).setCell ⟨W.heap.size+1+1,1,none⟩ (.string ⟨#[]⟩)=W7:=⟨_,rfl⟩;obtain⟨hY7,b7⟩:=hY6.put6 0 ⟨#[]⟩;rw[hW7] at hY7 b7;have HY7:Hid (FB (W.heap.size+2) 0 ⟨#[]⟩ W7):=hY7;have HG7:Hid (GP R Rx I own F k ⟨s,[],e0,zf⟩ W (.returned (.tuple #[fcv zf,.bool false])) W7):=zgr hne HK5.out.size HSz.out HP.out HA.out HI.out HDj.out HBB.out HB2.out HI2.out (But.refl _ _) (Grw.refl F W2 W2) (But.refl _ _) (Below.refl _ _) HK5.out hg6 hb6 hr6 b7;clear hy hY7 b7 hY6 hg6 hb6 hr6 z1 z2 z3 z4;gi_wp2;refine bodyPost_ret (zab rfl _ _ _ _ _ _ rfl rfl HY7.out) rfl ?_;exact HG7.out
theorem zm8 {σ:Type} (l B:Nat) (V:Nat→Prop) (it:Nat→Sv × Int→Bool→Prop) (R:(Nat→Prop)→Nat→World→Prop) (Rx:(Nat→Prop)→World→Prop) (hA:Ask l B V it R Rx)
  (pl:Pm σ) (pf:Nat) (pb:Array Value) (I:σ→(Nat→Prop)→World→Prop) (hP:Plc B V pl pf pb I) (q:Pg) (P:Pp) (own F:Nat→Prop) (k:Nat) (s:σ) (W:World)
  (hR:R own k W) (hI:I s F W) (hD:Dj own F W) (hB:B≤W.heap.size) (hq:PAt W q P) (ho:okP P) (h0:encE P=0) (r:Rf) (e0:Int) (s2:σ) (h1:pl s (encS P)=((r,e0),s2)) (hne:¬e0=0) (hf:it k (zs,e0) false):
  Calls Tryz.prog 159 #[gw pf pb,gv q,.func (.yield l) #[] #[]] W (GP R Rx I own F k ⟨s2,[],e0,zf⟩ W):=by
 obtain⟨W0,hW0⟩:∃ W0,((W.alloc (.cells #[.func (.func pf) #[] pb] 93)).alloc (gcs q)).alloc (.cells #[.int .u32 0,.string ⟨#[]⟩] 49)=W0:=⟨_,rfl⟩;obtain⟨⟨g0,g1,g2⟩,b0,s0⟩:=zaE _ _ _ _ hW0;have HG:Hid (W0.heap[W.heap.size]? =some (.cells #[.func (.func pf) #[] pb] 93 (0,0))∧FB (W.heap.size+2) 0 ⟨#[]⟩ W0):=⟨g0,g2⟩;obtain⟨c0,c1,c2,c3,c4,c5,c6,c7⟩:=zlj g1;have HE:Hid _:=zcW q P W0 (hq.below b0 zn) ho
 have HC:Hid (∀ W',I s F W'→Calls Tryz.prog pf (#[.string (encS P)]++pb) W' fun e W''=>e=.returned (.tuple #[fcv r,.int .i64 e0])∧∃ F',I s2 F' W''∧But F W' W''∧Grw F F' W' W''):=fun W' hW'=>by
  have:=hP.call s F W' (encS P) (zcX P) hW';rw[h1] at this;exact this
 rw[h0] at HE;generalize encS P=T at*
 have HB0:Hid (Below W.heap.size W W0):=b0;have HS0:Hid (W0.heap.size=W.heap.size+3):=s0;have heg:=hP.eg;have HP:Hid (Plc B V pl pf pb I):=hP;have HA:Hid (Ask l B V it R Rx):=hA;have HR:Hid (R own k W):=hR;have HI:Hid (I s F W):=hI;have HDj:Hid (Dj own F W):=hD;have HBB:Hid (B≤W.heap.size):=hB;have HF:Hid _:=hf;clear hP hA hR hI hD hB hf h0 h1 g0 g1 g2 b0 s0 hq ho;refine(callsIn_wide (n:=5)).1 ?_;refine callsIn_of_wp Tryz.func159 rfl trivial ?_ rfl;simp only[Tryz.ntmps159,zS1,zS2,zS3,Nat.reduceAdd,Nat.reduceSub,zS4,zS5,zS6,zS7,zS8,zS9];gi_wp2;refine⟨trivial,callsIn_wide.2 (Calls.mono HE.out ?_)⟩;rintro e W1 ⟨rfl,b1⟩;clear HE c0 c1 c2 c3 c4 c5 c6 c7 hW0;obtain⟨W2,hW2⟩:∃ W2,W1.alloc (.cells #[.int .u32 0,.string ⟨#[]⟩] 49)=W2:=⟨_,rfl⟩;have b2:Below W1.heap.size W1 W2:=by rw[←hW2];exact zaa _ _
 have hs2:W2.heap.size=W1.heap.size+1:=by rw[←hW2];simp
 have HZ2:Hid (FB W1.heap.size 0 ⟨#[]⟩ W2):=by rw[←hW2];exact zaS W1
 have b02:Below W0.heap.size W0 W2:=b1.trans (b2.mono b1.size);have HB2:Hid (Below W.heap.size W W2):=HB0.out.trans (b02.mono HB0.out.size);have HY2:Hid (FB (W.heap.size+2) 0 ⟨#[]⟩ W2):=HG.out.2.grow b02;have HSz:Hid (W.heap.size+3≤W1.heap.size∧W2.heap.size=W1.heap.size+1):=⟨by have:=HS0.out;have:=b1.size;omega,hs2⟩
 have cg:W2.cell? ⟨W.heap.size,0,none⟩=some (.func (.func pf) #[] pb):=by
  rw[zr ((b02.block _ (zi HG.out.1).1).trans HG.out.1)];rfl
 have HI2:Hid (I s F W2):=HP.out.keep s F W W2 HI.out HB2.out.size fun j hj=>HB2.out.block j (HP.out.lt s F W HI.out j hj)
 clear b1 b2 hs2 b02 HG;gi_wp2;refine⟨trivial,callsIn_wide.2 (Calls.mono (HC.out W2 HI2.out) ?_)⟩;rintro e W3 ⟨rfl,F',hI3,hb3,hg3⟩;have HFl:Hid (∀ j,F j→j<W.heap.size):=HP.out.lt s F W HI.out;have nF:∀ j,W.heap.size≤j→¬F j:=fun j hj hF=>by have:=HFl.out j hF;omega
 have HY3:Hid (FB (W.heap.size+2) 0 ⟨#[]⟩ W3):=(hb3.block _ (zi HY2.out).1 (nF _ (by omega))).trans HY2.out;have hZ3:FB W1.heap.size 0 ⟨#[]⟩ W3:=(hb3.block _ (zi HZ2.out).1 (nF _ (by have:=HSz.out;omega))).trans HZ2.out;have HI3:Hid (I s2 F' W3):=hI3;have HBt:Hid (But F W2 W3):=hb3;have HGr:Hid (Grw F F' W2 W3):=hg3;obtain⟨z1,z2,z3,z4⟩:=hZ3.facts;obtain⟨W4,hW4⟩:∃ W4,(W3.setCell ⟨W1.heap.size,0,none⟩ (.int .u32 (r.p:Int))).setCell ⟨W1.heap.size,1,none⟩ (.string r.t)=W4:=⟨_,rfl⟩;obtain⟨hZ4,b4⟩:=hZ3.put6 (r.p:Int) r.t;rw[hW4] at hZ4 b4;clear hI3 hb3 hg3 cg HC HZ2 HY2 hW2;have HZ4:Hid (FB W1.heap.size (r.p:Int) r.t W4):=hZ4;have HB4:Hid (But (fun j=>j=W1.heap.size) W3 W4):=b4;clear hZ4 b4 hZ3;have HY5:Hid (FB (W.heap.size+2) 0 ⟨#[]⟩ W4):=(HB4.out.block _ (zi HY3.out).1 (by have:=HSz.out;omega)).trans HY3.out
 have HK5:Hid (Kv B V own W W4):=by
  refine(?_:Kv B V own W W4);refine(Kv.of_below HB2.out).trans (Kv.trans (b:=W3) ?_ ?_)
  ·exact Kv.of_but HBt.out fun j _ hF=>⟨HP.out.fp s F W HI.out j hF,fun ho=>HDj.out.no j ho hF⟩
  ·exact Kv.of_but HB4.out fun j _ e=>⟨.inr (by have:=HSz.out;have:=HBB.out;omega),fun e'=>by have:=HDj.out.lt _ e';have:=HSz.out;omega⟩
 obtain⟨u1,u2,u3,u4⟩:=HY5.out.facts;have hs5:W.heap.size≤W4.heap.size:=HK5.out.size;have HR5:Hid (R own k W4):=HA.out.keep own k W W4 HR.out HK5.out;have hy0:=za0 (m:=4)<|HA.out.yld own k (zs,e0) false W4 HF.out HR5.out fun j hj=>Nat.lt_of_lt_of_le (HDj.out.lt j hj) hs5
 obtain⟨fn,tmps,assign,body,hy,hRd⟩:=hy0;have HRd:Hid (RoundIn Fence.wide 4 Tryz.prog l fn tmps assign body W4 (YP R Rx own (k+1) W4 false)):=hRd;have ez:yv (zs,e0)=#[.agg #[.string ⟨#[]⟩,.int .u32 0,.string ⟨#[]⟩],.int .i64 e0]:=rfl;rw[ez] at hy;clear hRd hs5 ez;gi_wp2;refine HRd.out.mono ?_;rintro e W6 ⟨own',hg6,hb6,rfl,(⟨hx,-⟩|⟨-,hr6⟩)⟩
 ·cases hx
 have hY6:FB (W.heap.size+2) 0 ⟨#[]⟩ W6:=HY5.out.but6 hb6 fun e=>by have:=HDj.out.lt _ e;omega
 obtain⟨x1,x2,x3,x4⟩:=hY6.facts;obtain⟨W7,hW7⟩:∃ W7,(W6.setCell ⟨W.heap.size+1+1,0,none⟩ (.int .u32 0)).setCell ⟨W.heap.size+1+1,1,none⟩ (.string ⟨#[]⟩)=W7:=⟨_,rfl⟩;obtain⟨hY7,b7⟩:=hY6.put6 0 ⟨#[]⟩;rw[hW7] at hY7 b7;have HY7:Hid (FB (W.heap.size+2) 0 ⟨#[]⟩ W7):=hY7;have HG7:Hid (GP R Rx I own F k ⟨s2,[],e0,zf⟩ W (.returned (.tuple #[fcv zf,.bool false])) W7):=zgr hne HK5.out.size HSz.out HP.out HA.out HI.out HDj.out HBB.out HB2.out HI3.out HBt.out HGr.out HB4.out (Below.refl _ _) HK5.out hg6 hb6 hr6 b7;clear hy hY7 b7 hY6 hg6 hb6 hr6 u1 u2 u3 u4;gi_wp2;refine bodyPost_ret (zab rfl _ _ _ _ _ _ rfl rfl HY7.out) rfl ?_;exact HG7.out
theorem zdC {σ:Type} (l B:Nat) (V:Nat→Prop) (it:Nat→Sv × Int→Bool→Prop) (R:(Nat→Prop)→Nat→World→Prop) (Rx:(Nat→Prop)→World→Prop) (hA:Ask l B V it R Rx)
  (pl:Pm σ) (pf:Nat) (pb:Array Value) (I:σ→(Nat→Prop)→World→Prop) (hP:Plc B V pl pf pb I) (q:Pg) (P:Pp) (own F:Nat→Prop) (k:Nat) (s:σ) (W:World)
  (hR:R own k W) (hI:I s F W) (hD:Dj own F W) (hB:B≤W.heap.size) (hq:PAt W q P) (ho:okP P) (hf:Fit it k (zaC pl s P)):
  Calls Tryz.prog 159 #[gw pf pb,gv q,.func (.yield l) #[] #[]] W (GP R Rx I own F k (zaC pl s P) W):=by
 unfold zaC at hf ⊢;by_cases h0:encE P=0
 ·rw[if_pos h0] at hf ⊢
  obtain⟨x,hx⟩:∃ x,pl s (encS P)=x:=⟨_,rfl⟩;rw[hx] at hf ⊢;obtain⟨⟨r,e0⟩,s2⟩:=x;simp only at hf ⊢;by_cases h1:e0=0
  ·subst h1
   rw[if_pos rfl] at hf ⊢;exact zo6 l B V it R Rx hA pl pf pb I hP q P own F k s W hR hI hD hB hq ho h0 r s2 hx (by have:=hf.1 0 _ rfl;exact this)
  ·rw[if_neg h1] at hf ⊢
   exact zm8 l B V it R Rx hA pl pf pb I hP q P own F k s W hR hI hD hB hq ho h0 r e0 s2 hx h1 (by have:=hf.2 h1;exact this)
 ·rw[if_neg h0] at hf ⊢
  exact zm7 l B V it R Rx hA pl pf pb I hP q P own F k s W hR hI hD hB hq ho _ rfl h0 (by have:=hf.2 h0;exact this)
end Rz
namespace Rz
open Go.RowKit Go.Lib Go.Shelf
open Rc Rq
open Rw (Rf fcv fc zaB Pp PAt PgAt okP encS encE pz gv Pg rpp pB gcs)
open Rv (FB zab zaS)
theorem zlk {P:Program} {ops:Array Oper} {rest:List Oper} {o:Oper} {a:Act} {w:World} {Q:Exit→Act→World→Prop} (hgd:o.guard=none) (t u:TypeId) (x y:Operand) (ho:o.op=.call { callee:=.builtin .min,args:=#[x,y],argTypes:=#[t,u] })
  {p q r:Int} (hx:a.eval x=.int .i64 p) (hy:a.eval y=.int .i64 q) (hr:(if q<p then q else p)=r) (h:wpList P ops Q rest (a.put o.dst (.int .i64 r)) w):wpList P ops Q (o::rest) a w:=
 wpList_plain hgd fun _ hK=>by
  have hrun:(Builtin.min_ #[t,u] o.type #[.int .i64 p,.int .i64 q]).run P w=.ok (.int .i64 r) w:=by subst hr;rfl
  unfold Oper.wp execOp;simp only[ho,resolve,invoke,builtin,Sem.run_bind,Sem.run_pure,Result.andThen_ok,List.map_toArray,List.map_cons,List.map_nil,hx,hy,hrun];exact hK _ _ h
theorem zll {P:Program} {ops:Array Oper} {rest:List Oper} {o:Oper} {a:Act} {w:World} {Q:Exit→Act→World→Prop} (hgd:o.guard=none) (t u:TypeId) (x y:Operand) (ho:o.op=.call { callee:=.builtin .max,args:=#[x,y],argTypes:=#[t,u] })
  {p q r:Int} (hx:a.eval x=.int .i64 p) (hy:a.eval y=.int .i64 q) (hr:(if q>p then q else p)=r) (h:wpList P ops Q rest (a.put o.dst (.int .i64 r)) w):wpList P ops Q (o::rest) a w:=
 wpList_plain hgd fun _ hK=>by
  have hrun:(Builtin.max_ #[t,u] o.type #[.int .i64 p,.int .i64 q]).run P w=.ok (.int .i64 r) w:=by subst hr;rfl
  unfold Oper.wp execOp;simp only[ho,resolve,invoke,builtin,Sem.run_bind,Sem.run_pure,Result.andThen_ok,List.map_toArray,List.map_cons,List.map_nil,hx,hy,hrun];exact hK _ _ h
theorem Fit.tail {σ:Type} {it:Nat→Sv × Int→Bool→Prop} {k:Nat} {g h:Gr σ} {ys:List Sv} (hf:Fit it k g) (e:g=⟨h.s,ys++h.ys,h.e,h.r⟩):Fit it (k+ys.length) h:=by
 subst e;refine⟨fun i x hx=>?_,fun hn=>?_⟩
 ·have:=hf.1 (ys.length+i) x (by show(ys++h.ys)[ys.length+i]? =_;rw[List.getElem?_append_right (by omega),Nat.add_sub_cancel_left];exact hx)
  rwa[←Nat.add_assoc] at this
 ·have:=hf.2 hn
  rw[show(⟨h.s,ys++h.ys,h.e,h.r⟩:Gr σ).ys.length=ys.length+h.ys.length from List.length_append,←Nat.add_assoc] at this;exact this
def iz:Value→Int|.int _ q=>q|_=>0
theorem zlm {l:List Rw} {next:Rf} (h:∀ r∈l,zbd r) (hn:next.p<4294967296):okP (za2 l next):=⟨Nat.zero_lt_succ _,Nat.zero_lt_succ _,hn,h,fun r hr=>by cases hr⟩
structure Lv {σ:Type} (Z:(Nat→Prop)→World→Prop) (I:σ→(Nat→Prop)→World→Prop) (pf:Nat) (pb:Array Value) (own F:Nat→Prop) (W W0:World) (next:Rf) (s:σ) (own' F':Nat→Prop) (wr:World):Prop where
 nx:FB (W.heap.size+2) (next.p:Int) next.t wr
 rs:FB (W.heap.size+1) 0 ⟨#[]⟩ wr
 gb:wr.heap[W.heap.size]? =some (.cells #[.func (.func pf) #[] pb] 93 (0,0))
 go:Grw own own' W0 wr
 gf:Grw F F' W0 wr
 dj:Dj own' F' wr
 bt:But (fun j=>own j∨F j) W wr
 i:I s F' wr
 r:Z own' wr
theorem Lv.box {σ:Type} {Z:(Nat→Prop)→World→Prop} {I:σ→(Nat→Prop)→World→Prop} {pf:Nat} {pb:Array Value} {own F:Nat→Prop} {W W0:World} {next:Rf} {s:σ} {own' F':Nat→Prop} {wr:World} (h:Lv Z I pf pb own F W W0 next s own' F' wr)
  (s0:W0.heap.size=W.heap.size+3) (ho:∀ j,own j→j<W.heap.size) (hF:∀ j,F j→j<W.heap.size):∀ j,W.heap.size≤j→j<W.heap.size+3→¬(own' j∨F' j):=fun j h1 h2 e=>by
 rcases e with e|e
 ·rcases h.go j e with x|x
  ·have:=ho j x;omega
  ·omega
 ·rcases h.gf j e with x|x
  ·have:=hF j x;omega
  ·omega
theorem Lv.step {σ:Type} {B:Nat} {V:Nat→Prop} {Z Z1:(Nat→Prop)→World→Prop} {pl:Pm σ} {I:σ→(Nat→Prop)→World→Prop} {pf:Nat} {pb:Array Value} {own F:Nat→Prop} {W W0:World} {next:Rf} {s:σ} {own' F':Nat→Prop} {wr:World} (h:Lv Z I pf pb own F W W0 next s own' F' wr)
  (s0:W0.heap.size=W.heap.size+3) (ho:∀ j,own j→j<W.heap.size) (hF:∀ j,F j→j<W.heap.size) (hP:Plc B V pl pf pb I) (hZ:∀ own W W',Z1 own W→Kv B V own W W'→Z1 own W') {W1 W2:World} {own1 F1:Nat→Prop} {s1:σ} (g1:Grw own' own1 wr W1) (g2:Grw F' F1 wr W1) (dj:Dj own1 F1 W1) (bt:But (fun j=>own' j∨F' j) wr W1) (i1:I s1 F1 W1) (r1:Z1 own1 W1) (b2:Below W1.heap.size W1 W2):
  Lv Z1 I pf pb own F W W0 next s1 own1 F1 W2:=by
 have hb:=h.box s0 ho hF;have l0:=(zi h.gb).1;have l1:=(zi h.rs).1;have l2:=(zi h.nx).1;have s1:=bt.size;have s2:=b2.size;have hsz:W0.heap.size≤wr.heap.size:=by omega
 have k2:∀ j,j<wr.heap.size→¬(own' j∨F' j)→W2.heap[j]? =wr.heap[j]? :=fun j hj hn=>(b2.block j (by omega)).trans (bt.block j hj hn)
 have hbt:=h.bt.size;refine⟨(k2 _ l2 (hb _ (by omega) (by omega))).trans h.nx,(k2 _ l1 (hb _ (by omega) (by omega))).trans h.rs,(k2 _ l0 (hb _ (by omega) (by omega))).trans h.gb,?_,?_,⟨fun j hj=>Nat.lt_of_lt_of_le (dj.lt j hj) s2,dj.no⟩,?_,hP.keep _ F1 W1 W2 i1 s2 fun j hj=>b2.block j (hP.lt _ F1 W1 i1 j hj),hZ own1 W1 W2 r1 (Kv.of_below b2)⟩
 ·exact Grw.trans (Grw.trans h.go g1 hsz s1) (Grw.refl own1 W1 W2) (by omega) s2
 ·exact Grw.trans (Grw.trans h.gf g2 hsz s1) (Grw.refl F1 W1 W2) (by omega) s2
 ·refine⟨b2.os.trans (bt.os.trans h.bt.os),b2.tape.trans (bt.tape.trans h.bt.tape),b2.output.trans (bt.output.trans h.bt.output),by omega,fun j hj hn=>?_⟩
  rw[k2 j (by omega) fun e=>?_,h.bt.block j hj hn];rcases e with e|e
  ·rcases h.go j e with x|x
   ·exact hn (.inl x)
   ·omega
  ·rcases h.gf j e with x|x
   ·exact hn (.inr x)
   ·omega
theorem Lv.put {σ:Type} {B:Nat} {V:Nat→Prop} {Z:(Nat→Prop)→World→Prop} {pl:Pm σ} {I:σ→(Nat→Prop)→World→Prop} {pf:Nat} {pb:Array Value} {own F:Nat→Prop} {W W0:World} {next nx':Rf} {s:σ} {own' F':Nat→Prop} {wr w':World} (h:Lv Z I pf pb own F W W0 next s own' F' wr)
  (s0:W0.heap.size=W.heap.size+3) (ho:∀ j,own j→j<W.heap.size) (hF:∀ j,F j→j<W.heap.size) (hB:B≤W.heap.size) (hP:Plc B V pl pf pb I) (hZ:∀ own W W',Z own W→Kv B V own W W'→Z own W') (hx:FB (W.heap.size+2) (nx'.p:Int) nx'.t w') (hb:But (fun j=>j=W.heap.size+2) wr w'):
  Lv Z I pf pb own F W W0 nx' s own' F' w':=by
 have hbx:=h.box s0 ho hF;have hs:=hb.size;have hbt:=h.bt.size;refine⟨hx,(hb.block _ (zi h.rs).1 (by omega)).trans h.rs,(hb.block _ (zi h.gb).1 (by omega)).trans h.gb,?_,?_,⟨fun j hj=>Nat.lt_of_lt_of_le (h.dj.lt j hj) hs,h.dj.no⟩,?_,?_,?_⟩
 ·exact fun j hj=>(h.go j hj).imp id fun x=>⟨x.1,by omega⟩
 ·exact fun j hj=>(h.gf j hj).imp id fun x=>⟨x.1,by omega⟩
 ·refine⟨hb.os.trans h.bt.os,hb.tape.trans h.bt.tape,hb.output.trans h.bt.output,by omega,fun j hj hn=>?_⟩
  rw[hb.block j (by omega) (by omega),h.bt.block j hj hn]
 ·exact hP.keep _ F' wr w' h.i hs fun j hj=>hb.block j (hP.lt _ F' wr h.i j hj) fun e=>hbx j (by omega) (by omega) (.inr hj)
 ·exact hZ own' wr w' h.r (Kv.of_but hb fun j _ e=>⟨.inr (by omega),fun e'=>hbx j (by omega) (by omega) (.inl e')⟩)
theorem Lv.ret {σ:Type} {B:Nat} {V:Nat→Prop} {Z:(Nat→Prop)→World→Prop} {pl:Pm σ} {I:σ→(Nat→Prop)→World→Prop} {pf:Nat} {pb:Array Value} {own F:Nat→Prop} {W W0:World} {next:Rf} {s:σ} {own' F':Nat→Prop} {wr w':World} (h:Lv Z I pf pb own F W W0 next s own' F' wr)
  (s0:W0.heap.size=W.heap.size+3) (ho:∀ j,own j→j<W.heap.size) (hF:∀ j,F j→j<W.heap.size) (hB:B≤W.heap.size) (hP:Plc B V pl pf pb I) (hZ:∀ own W W',Z own W→Kv B V own W W'→Z own W') (hb:But (fun j=>j=W.heap.size+1) wr w'):
  (Grw own own' W w'∧Grw F F' W w')∧Dj own' F' w'∧But (fun j=>own j∨F j) W w'∧I s F' w'∧Z own' w':=by
 have hbx:=h.box s0 ho hF;have hs:=hb.size;have hbt:=h.bt.size;refine⟨⟨fun j hj=>(h.go j hj).imp id fun x=>⟨by omega,by omega⟩,fun j hj=>(h.gf j hj).imp id fun x=>⟨by omega,by omega⟩⟩,⟨fun j hj=>Nat.lt_of_lt_of_le (h.dj.lt j hj) hs,h.dj.no⟩,?_,?_,?_⟩
 ·refine⟨hb.os.trans h.bt.os,hb.tape.trans h.bt.tape,hb.output.trans h.bt.output,by omega,fun j hj hn=>?_⟩
  rw[hb.block j (by omega) (by omega),h.bt.block j hj hn]
 ·exact hP.keep _ F' wr w' h.i hs fun j hj=>hb.block j (hP.lt _ F' wr h.i j hj) fun e=>hbx j (by omega) (by omega) (.inr hj)
 ·exact hZ own' wr w' h.r (Kv.of_but hb fun j _ e=>⟨.inr (by omega),fun e'=>hbx j (by omega) (by omega) (.inl e')⟩)
theorem zjf {σ : Type} (l B : Nat) (V : Nat → Prop) (it : Nat → Sv × Int → Bool → Prop) (R : (Nat → Prop) → Nat → World → Prop) (Rx : (Nat → Prop) → World → Prop) (hA : Ask l B V it R Rx)
    (pl : Pm σ) (pf : Nat) (pb : Array Value) (I : σ → (Nat → Prop) → World → Prop) (hP : Plc B V pl pf pb I) (ls : List Rw) (o : Option Addr) (cap : Nat) (own F : Nat → Prop) (k : Nat) (s : σ) (W : World)
    (hR : R own k W) (hI : I s F W) (hD : Dj own F W) (hB : B ≤ W.heap.size) (hq : zac W o cap ls) (hn : ∀ b off, o = some ⟨b, off, none⟩ → 0 < ls.length → ¬ own b ∧ ¬ F b) (ho : ∀ r ∈ ls, zbd r) (hmx : ls.length ≤ 1000) (hf : Fit it k (zal pl ls (npc ls) s zf)) :
    Calls Tryz.prog 158 #[gw pf pb, .slice o ls.length cap, .func (.yield l) #[] #[]] W (GP R Rx I own F k (zal pl ls (npc ls) s zf) W) := by
  obtain ⟨W0, hW0⟩ : ∃ W0, ((W.alloc (.cells #[.func (.func pf) #[] pb] 93)).alloc (.cells #[.int .u32 0, .string ⟨#[]⟩] 49)).alloc (.cells #[.int .u32 0, .string ⟨#[]⟩] 49) = W0 := ⟨_, rfl⟩;obtain ⟨⟨g0, g1, g2⟩, b0, s0⟩ := zaE _ _ _ _ hW0
  have HL0 : Hid (Lv (fun o W => R o (k + 0) W) I pf pb own F W W0 zf s own F W0) :=
    ⟨g2, g1, g0, Grw.refl _ _ _, Grw.refl _ _ _, ⟨fun j hj => by have := hD.lt j hj; omega, hD.no⟩, But.of_below b0, hP.keep s F W W0 hI b0.size fun j hj => b0.block j (hP.lt s F W hI j hj), hA.keep own k W W0 hR (Kv.of_below b0)⟩
  obtain ⟨G, hG⟩ : ∃ G, zal pl ls (npc ls) s zf = G := ⟨_, rfl⟩;rw [hG] at hf ⊢;have HEq : Hid (G = ⟨(zal pl ls (npc ls) s zf).s, [] ++ (zal pl ls (npc ls) s zf).ys, (zal pl ls (npc ls) s zf).e, (zal pl ls (npc ls) s zf).r⟩) := hG.symm;have hmxr : (if (0 : Int) > (ls.length : Int) - 1 then (0 : Int) else (ls.length : Int) - 1) = ((ls.length - 1 : Nat) : Int) := by split <;> omega
  have hln : (ls.length : Int) ≤ 1000 := by omega
  have hdv : (((ls.length - 1 : Nat) : Int)).tdiv 4 = ((npc ls - 1 : Nat) : Int) := by
    have := Int.ofNat_tdiv (ls.length - 1) 4;unfold npc;rw [show (ls.length - 1) / 4 + 1 - 1 = (ls.length - 1) / 4 by omega, this];rfl
  have HS0 : Hid (W0.heap.size = W.heap.size + 3) := s0;have HQ : Hid (zac W o cap ls) := hq;have HF : Hid (Fit it k G) := hf;have HO : Hid (∀ j, own j → j < W.heap.size) := hD.lt;have HFl : Hid (∀ j, F j → j < W.heap.size) := hP.lt s F W hI;have HDI : Hid (Dj own F W ∧ I s F W) := ⟨hD, hI⟩;clear hR hI hD hq hf g0 g1 g2 b0 s0 hG;go_enter Tryz.func158, Tryz.ntmps158
  go_wp2_with (refine zll rfl 3 3 (.tmp 15) (.const (.int .i64 0)) rfl rfl rfl hmxr ?_)
  have HPn : Hid (1 ≤ npc ls) := Nat.le_add_left _ _
  go_loopw [9] (fun i wr => ∃ (m : Nat) (next : Rf) (s' : σ) (ys : List Sv) (own' F' : Nat → Prop), (m ≤ npc ls ∧ next.p < 4294967296) ∧ i = .int .i64 ((m : Int) - 1) ∧ Lv (fun o W => R o (k + ys.length) W) I pf pb own F W W0 next s' own' F' wr ∧ G = ⟨(zal pl ls m s' next).s, ys ++ (zal pl ls m s' next).ys, (zal pl ls m s' next).e, (zal pl ls m s' next).r⟩) (fun i _ => (iz i + 1).toNat)
  case atStart =>
    refine ⟨npc ls, zf, s, [], own, F, ⟨Nat.le_refl _, Nat.zero_lt_succ _⟩, ?_, HL0.out, HEq.out⟩;have h1 := HPn.out;have h2 : npc ls ≤ ls.length + 1 := by unfold npc; omega
    rw [show ((npc ls : Nat) : Int) - 1 = ((npc ls - 1 : Nat) : Int) by omega];rw [IntWalk.wrap64_in _ ⟨by omega, by omega⟩]
  case round =>
    obtain ⟨m, next, s', ys, own', F', ⟨hm, hnp⟩, rfl, hL, hE⟩ := hrel;cases m with
    | zero =>
      have q0 : ¬ (0 : Int) ≤ ((0 : Nat) : Int) - 1 := by omega
      obtain ⟨zi, hzi⟩ : ∃ zi : Int, ((0 : Nat) : Int) - 1 = zi := ⟨_, rfl⟩;rw [hzi] at q0 ⊢;have HL : Hid (Lv (fun o W => R o (k + ys.length) W) I pf pb own F W W0 next s' own' F' wr) := hL;have HE : Hid _ := hE;obtain ⟨n1, n2, n3, n4⟩ := hL.nx.facts;obtain ⟨x1, x2, x3, x4⟩ := hL.rs.facts;obtain ⟨hY3, b3⟩ := hL.rs.put6 (next.p : Int) next.t;obtain ⟨W3, hW3⟩ : ∃ W3, (wr.setCell ⟨W.heap.size + 1, 0, none⟩ (.int .u32 (next.p : Int))).setCell ⟨W.heap.size + 1, 1, none⟩ (.string next.t) = W3 := ⟨_, rfl⟩;rw [hW3] at hY3 b3;have HY3 : Hid (FB (W.heap.size + 1) (next.p : Int) next.t W3) := hY3;have HR3 : Hid _ := hL.ret HS0.out HO.out HFl.out hB hP (fun o W W' h h' => hA.keep o _ W W' h h') b3;clear hL hE hY3 b3 hzi;go_wp2_with fail;refine bodyPost_ret (zab rfl _ _ _ _ _ _ rfl rfl HY3.out) rfl ?_;obtain ⟨r1, r2, r3, r4, r5⟩ := HR3.out;rw [HE.out];exact ⟨rfl, own', F', r1, r2, r3, r4, fun _ => by rw [show (zal pl ls 0 s' next).ys = [] from rfl, List.append_nil]; exact r5, fun h => absurd rfl h⟩
    | succ m =>
      rw [show (((m + 1 : Nat) : Int)) - 1 = (m : Int) by omega]
      have h4 : 4 * m ≤ ls.length := by have : m ≤ npc ls - 1 := by omega
                                        unfold npc at this; omega
      obtain ⟨e, he⟩ : ∃ e, pend ls.length m = e := ⟨_, rfl⟩;have hp1 : 4 * m ≤ e ∧ e ≤ ls.length := by rw [← he]; unfold pend; split <;> omega
      have hmin : (if (ls.length : Int) < ((m : Int) + 1) * 4 then (ls.length : Int) else ((m : Int) + 1) * 4) = (e : Int) := by rw [← he]; unfold pend; split <;> split <;> omega
      have hrun : ∀ w, (Instr.sliceAt 22 (.slice o ls.length cap) (some (.int .i64 ((m : Int) * 4))) (some (.int .i64 (e : Int))) none).run Tryz.prog w = .ok (.slice (if cap = 4 * m then o else o.map (·.add (4 * m * 4))) (e - 4 * m) (cap - 4 * m)) w := fun w => by
        rw [show (m : Int) * 4 = ((4 * m : Nat) : Int) by omega];exact zoQ o ls.length cap (4 * m) e w hp1.1 (Nat.le_trans hp1.2 HQ.out.1) HQ.out.2.2.1
      have q2 : (m : Int) ≤ 1000 := by omega
      have q0 : (0 : Int) ≤ (m : Int) := by omega
      have hbk : ∀ b off, o = some ⟨b, off, none⟩ → 0 < ls.length → b < W.heap.size → wr.heap[b]? = W.heap[b]? := fun b off e1 e2 hb => hL.bt.block b hb fun e3 => by
        obtain ⟨x1, x2⟩ := hn b off e1 e2;rcases e3 with e3 | e3
        · exact x1 e3
        · exact x2 e3
      have hrows : zac wr o cap ls := ⟨HQ.out.1, HQ.out.2.1, HQ.out.2.2.1, HQ.out.2.2.2.1, fun h0 => by
        obtain ⟨b, off, e1, hlt, hc⟩ := HQ.out.2.2.2.2 h0;exact ⟨b, off, e1, Nat.lt_of_lt_of_le hlt hL.bt.size, fun j u hu => (World.cell?_of_block (a := ⟨b, off + j, none⟩) (hbk b off e1 h0 hlt)).trans (hc j u hu)⟩⟩
      have hmid := zmQ hrows hp1.1 hp1.2;rw [← he, ← zid ls m h4] at hmid;have hplen := zk2 ls m h4;rw [he] at hplen;generalize (if cap = 4 * m then o else o.map (·.add (4 * m * 4))) = so at hrun hmid;have hfit := HF.out.tail hE;have hlv : zal pl ls (m + 1) s' next = (zaC pl s' (za2 (piece ls m) next)).then fun s'' r => zal pl ls m s'' r := rfl
      rw [hlv] at hfit hE
      have HPg : Hid (Calls Tryz.prog 159 #[gw pf pb, gv ⟨1, 0, 0, 0, so, e - 4 * m, cap - 4 * m, none, 0, 0, next.p, next.t⟩, .func (.yield l) #[] #[]] wr (GP R Rx I own' F' (k + ys.length) (zaC pl s' (za2 (piece ls m) next)) wr)) :=
        zdC l B V it R Rx hA pl pf pb I hP _ (za2 (piece ls m) next) own' F' (k + ys.length) s' wr hL.r hL.i hL.dj (Nat.le_trans hB hL.bt.size) ⟨rfl, rfl, rfl, rfl, rfl, rfl, ⟨Nat.zero_lt_succ _, Nat.zero_lt_succ _, hplen.symm, hmid, rfl, Sl.nil 2 wr⟩⟩ (zlm (fun r hr => ho r (zk3 hr)) hnp) hfit.left
      have hnp1 := zb9 hP.small s' (za2 (piece ls m) next);have hrz := zic pl s' (za2 (piece ls m) next);generalize zaC pl s' (za2 (piece ls m) next) = pg at hfit hE HPg hnp1 hrz;have HRZ : Hid (¬ pg.e = 0 → pg.r = zf) := hrz;clear hrz;obtain ⟨n1, n2, n3, n4⟩ := hL.nx.facts;have cg : wr.cell? ⟨W.heap.size, 0, none⟩ = some (.func (.func pf) #[] pb) := by rw [zr hL.gb]; rfl
      have HL : Hid (Lv (fun o W => R o (k + ys.length) W) I pf pb own F W W0 next s' own' F' wr) := hL;have HE : Hid _ := hE;clear hL hE hrows hmid hbk hfit hlv
      go_wp2_with (refine zlk rfl 3 3 (.tmp 27) (.tmp 29) rfl rfl rfl hmin ?_)
      refine HPg.out.mono ?_;rintro e2 W1 ⟨rfl, own1, F1, ⟨hg1, hg2⟩, hdj, hbt, hi1, hr1, hx1⟩;obtain ⟨W2, hW2⟩ : ∃ W2, W1.alloc (.cells #[.int .u32 (pg.r.p : Int), .string pg.r.t] 49) = W2 := ⟨_, rfl⟩;have b2 : Below W1.heap.size W1 W2 := by rw [← hW2]; exact zaa _ _
      have hZ : FB W1.heap.size (pg.r.p : Int) pg.r.t W2 := by rw [← hW2]; exact zq W1 _
      by_cases h0 : pg.e = 0
      · have hL2 := HL.out.step (Z1 := fun o W => R o (k + ys.length + pg.ys.length) W) HS0.out HO.out HFl.out hP (fun o W W' h h' => hA.keep o _ W W' h h') hg1 hg2 hdj hbt hi1 (hr1 h0) b2
        obtain ⟨v1, v2, v3, v4⟩ := hZ.facts;obtain ⟨x1, x2, x3, x4⟩ := hL2.nx.facts;obtain ⟨hY3, b3⟩ := hL2.nx.put6 (pg.r.p : Int) pg.r.t;obtain ⟨W3, hW3⟩ : ∃ W3, (W2.setCell ⟨W.heap.size + 2, 0, none⟩ (.int .u32 (pg.r.p : Int))).setCell ⟨W.heap.size + 2, 1, none⟩ (.string pg.r.t) = W3 := ⟨_, rfl⟩;rw [hW3] at hY3 b3
        have HL3 : Hid (Lv (fun o W => R o (k + (ys ++ pg.ys).length) W) I pf pb own F W W0 pg.r pg.s own1 F1 W3) := by
          have := hL2.put HS0.out HO.out HFl.out hB hP (fun o W W' h h' => hA.keep o _ W W' h h') hY3 b3;rw [List.length_append, ← Nat.add_assoc];exact this
        have h0' : decide (pg.e = 0) = true := decide_eq_true h0;clear hL2 hY3 b3 hZ b2 hg1 hg2 hdj hbt hi1 hr1 hx1;go_wp2_with fail;refine ⟨⟨m, pg.r, pg.s, ys ++ pg.ys, own1, F1, ⟨by omega, hnp1⟩, rfl, HL3.out, ?_⟩, ?_⟩
        · have := HE.out
          unfold Gr.then at this;rw [if_pos h0] at this;rw [this, List.append_assoc]
        · simp [iz]
      · have h0' : decide (pg.e = 0) = false := decide_eq_false h0
        have hL2 := HL.out.step (Z1 := Rx) HS0.out HO.out HFl.out hP hA.keepx hg1 hg2 hdj hbt hi1 (hx1 h0) b2;obtain ⟨x1, x2, x3, x4⟩ := hL2.rs.facts;obtain ⟨hY3, b3⟩ := hL2.rs.put6 0 ⟨#[]⟩;obtain ⟨W3, hW3⟩ : ∃ W3, (W2.setCell ⟨W.heap.size + 1, 0, none⟩ (.int .u32 0)).setCell ⟨W.heap.size + 1, 1, none⟩ (.string ⟨#[]⟩) = W3 := ⟨_, rfl⟩;rw [hW3] at hY3 b3;have HY3 : Hid (FB (W.heap.size + 1) 0 ⟨#[]⟩ W3) := hY3;have HR3 : Hid _ := hL2.ret HS0.out HO.out HFl.out hB hP hA.keepx b3;clear hL2 hY3 b3 hZ b2 hg1 hg2 hdj hbt hi1 hr1 hx1;go_wp2_with fail;refine bodyPost_ret (zab rfl _ _ _ _ _ _ rfl rfl HY3.out) rfl ?_;have hGe := HE.out;unfold Gr.then at hGe;rw [if_neg h0] at hGe;obtain ⟨r1, r2, r3, r4, r5⟩ := HR3.out;rw [hGe];exact ⟨by rw [show decide ((⟨pg.s, ys ++ pg.ys, pg.e, pg.r⟩ : Gr σ).e = 0) = false from h0', HRZ.out h0]; rfl, own1, F1, r1, r2, r3, r4, fun h => absurd h h0, fun _ => r5⟩
def zfw {σ:Type} (l B:Nat) (it:Nat→Sv × Int→Bool→Prop) (R:(Nat→Prop)→Nat→World→Prop) (Rx:(Nat→Prop)→World→Prop) (pl:Pm σ) (pf:Nat) (pb:Array Value) (I:σ→(Nat→Prop)→World→Prop) (G:Nat→Prop) (d:Nat):Prop:=
 ∀ (n:Nv) (ls:List Rw) (own F:Nat→Prop) (k:Nat) (s:σ) (W:World),R own k W→I s F W→Dj own F W→B≤W.heap.size→zas G d W n ls→(∀ b,G b→b<W.heap.size∧¬own b∧¬F b)→On ls→(∀ r∈ls,zbd r)→ls.length≤1000→Fit it k (zad pl d s ls)→
  Calls Tryz.prog 116 #[gw pf pb,nv n,.func (.yield l) #[] #[]] W (GP R Rx I own F k (zad pl d s ls) W)
def C5 (w:World) (g:Nat) (n:Nv):Prop:=w.cell? ⟨g,0,none⟩=some (.int .u32 (n.X:Int))∧w.cell? ⟨g,1,none⟩=some (.int .u32 (n.Y:Int))∧w.cell? ⟨g,2,none⟩=some (.int .i64 (n.L:Int))∧w.cell? ⟨g,3,none⟩=some (.slice n.ro n.rn n.rc)∧w.cell? ⟨g,4,none⟩=some (.slice n.ko n.kn n.kc)
abbrev ncs (n:Nv):Obj:=.cells #[.int .u32 (n.X:Int),.int .u32 (n.Y:Int),.int .i64 (n.L:Int),.slice n.ro n.rn n.rc,.slice n.ko n.kn n.kc] 73
theorem zhp {w:World} {g:Nat} {n:Nv} (h:w.heap[g]? =some (ncs n)):C5 w g n:=
 ⟨by rw[zr h];rfl,by rw[zr h];rfl,by rw[zr h];rfl,by rw[zr h];rfl,by rw[zr h];rfl⟩
theorem GP.outer {σ:Type} {l B:Nat} {V:Nat→Prop} {it:Nat→Sv × Int→Bool→Prop} {R:(Nat→Prop)→Nat→World→Prop} {Rx:(Nat→Prop)→World→Prop} {pl:Pm σ} {pf:Nat} {pb:Array Value} {I:σ→(Nat→Prop)→World→Prop} (hA:Ask l B V it R Rx) (hP:Plc B V pl pf pb I)
  {own F own' F':Nat→Prop} {k:Nat} {g:Gr σ} {W W0 W1 W2:World} (b0:Below W.heap.size W W0) (hO:∀ j,own j→j<W.heap.size) (hF:∀ j,F j→j<W.heap.size) (hB:B≤W.heap.size)
  (hg:Grw own own' W0 W1∧Grw F F' W0 W1) (dj:Dj own' F' W1) (bt:But (fun j=>own j∨F j) W0 W1) (i1:I g.s F' W1) (h0:g.e=0→R own' (k+g.ys.length) W1) (hx:g.e≠0→Rx own' W1) {S:Nat→Prop} (b2:But S W1 W2) (hS:∀ j,S j→W.heap.size≤j∧j<W0.heap.size) {e:Ending} (he:e=.returned (.tuple #[fcv g.r,.bool (decide (g.e=0))])):
  GP R Rx I own F k g W e W2:=by
 have s0:=b0.size;have s1:=bt.size;have s2:=b2.size
 have nO:∀ j,own' j→¬S j:=fun j hj hs=>by
  have:=hS j hs;rcases hg.1 j hj with x|x
  ·have:=hO j x;omega
  ·omega
 have nF:∀ j,F' j→¬S j:=fun j hj hs=>by
  have:=hS j hs;rcases hg.2 j hj with x|x
  ·have:=hF j x;omega
  ·omega
 have kv:Kv B V own' W1 W2:=Kv.of_but b2 fun j _ hs=>⟨.inr (by have:=hS j hs;omega),fun e=>nO j e hs⟩
 refine⟨he,own',F',⟨fun j hj=>(hg.1 j hj).imp id fun x=>⟨by omega,by omega⟩,fun j hj=>(hg.2 j hj).imp id fun x=>⟨by omega,by omega⟩⟩,⟨fun j hj=>Nat.lt_of_lt_of_le (dj.lt j hj) s2,dj.no⟩,?_,?_,fun h=>hA.keep _ _ W1 W2 (h0 h) kv,fun h=>hA.keepx _ W1 W2 (hx h) kv⟩
 ·refine⟨b2.os.trans (bt.os.trans b0.os),b2.tape.trans (bt.tape.trans b0.tape),b2.output.trans (bt.output.trans b0.output),by omega,fun j hj hn=>?_⟩
  rw[b2.block j (by omega) (fun hs=>by have:=hS j hs;omega),bt.block j (by omega) hn,b0.block j hj]
 ·exact hP.keep _ F' W1 W2 i1 s2 fun j hj=>b2.block j (hP.lt _ F' W1 i1 j hj) (nF j hj)
theorem zln {σ:Type} (l B:Nat) (V:Nat→Prop) (it:Nat→Sv × Int→Bool→Prop) (R:(Nat→Prop)→Nat→World→Prop) (Rx:(Nat→Prop)→World→Prop) (hA:Ask l B V it R Rx)
  (pl:Pm σ) (pf:Nat) (pb:Array Value) (I:σ→(Nat→Prop)→World→Prop) (hP:Plc B V pl pf pb I) (G:Nat→Prop) (d:Nat) (n:Nv) (ls:List Rw) (own F:Nat→Prop) (k:Nat) (s:σ) (W:World)
  (hR:R own k W) (hI:I s F W) (hD:Dj own F W) (hB:B≤W.heap.size) (hN:zas G (d+1) W n ls) (hG:∀ b,G b→b<W.heap.size∧¬own b∧¬F b) (ho:∀ r∈ls,zbd r) (hmx:ls.length≤1000) (hlf:leaf ls=true) (hf:Fit it k (zad pl (d+1) s ls)):
  Calls Tryz.prog 116 #[gw pf pb,nv n,.func (.yield l) #[] #[]] W (GP R Rx I own F k (zad pl (d+1) s ls) W):=by
 have hnd:zad pl (d+1) s ls=zal pl ls (npc ls) s zf:=by unfold zad;rw[if_pos hlf]
 rw[hnd] at hf ⊢;obtain⟨-,-,-,h4,-⟩:=hN;obtain⟨h5,h6,h7,h8,-⟩:=h4 hlf;obtain⟨W0,hW0⟩:∃ W0,((W.alloc (.cells #[.func (.func pf) #[] pb] 93)).alloc (ncs n)).alloc (.cells #[.int .u32 0,.string ⟨#[]⟩] 49)=W0:=⟨_,rfl⟩;obtain⟨⟨g0,g1,g2⟩,b0,s0⟩:=zaE _ _ _ _ hW0;have HLv:Hid _:=zjf l B V it R Rx hA pl pf pb I hP ls n.ro n.rc own F k s W0 (hA.keep own k W W0 hR (Kv.of_below b0)) (hP.keep s F W W0 hI b0.size fun j hj=>b0.block j (hP.lt s F W hI j hj)) ⟨fun j hj=>by have:=hD.lt j hj;omega,hD.no⟩ (by omega) (h6.below b0 zn) (fun b off e1 e2=>(hG b (h7 e2 b off e1)).2) ho hmx hf;obtain⟨g,hg⟩:∃ g,zal pl ls (npc ls) s zf=g:=⟨_,rfl⟩;rw[hg] at HLv ⊢;rw[←h5] at HLv;obtain⟨c0,c1,c2,c3,c4⟩:=zhp g1;have cg:W0.cell? ⟨W.heap.size,0,none⟩=some (.func (.func pf) #[] pb):=by rw[zr g0];rfl
 rw[h8] at c4;have HY:Hid (FB (W.heap.size+2) 0 ⟨#[]⟩ W0):=g2;have HFin:Hid _:=fun own' F' W1 W2 a1 a2 a3 a4 a5 a6 S a7 a8 e a9=>GP.outer (own':=own') (F':=F') (g:=g) (k:=k) (W1:=W1) (W2:=W2) hA hP b0 hD.lt (hP.lt s F W hI) hB a1 a2 a3 a4 a5 a6 (S:=S) a7 a8 (e:=e) a9
 have HS0:Hid (W0.heap.size=W.heap.size+3∧(∀ j,own j→j<W.heap.size)∧∀ j,F j→j<W.heap.size):=⟨s0,hD.lt,hP.lt s F W hI⟩;clear hR hI hD hf g0 g1 g2 b0 s0 hg hnd h4 h5 h6 h7 h8 hG ho;go_enter Tryz.func116,Tryz.ntmps116;go_wp2_with fail;refine Calls.mono HLv.out ?_;rintro e2 W1 ⟨rfl,own1,F1,hg1,hdj,hbt,hi1,hr1,hx1⟩
 have hY1:FB (W.heap.size+2) 0 ⟨#[]⟩ W1:=HY.out.but6 hbt fun e=>by
  rcases e with e|e
  ·have:=HS0.out.2.1 _ e;omega
  ·have:=HS0.out.2.2 _ e;omega
 obtain⟨x1,x2,x3,x4⟩:=hY1.facts;obtain⟨hY2,b2⟩:=hY1.put6 (g.r.p:Int) g.r.t;obtain⟨W2,hW2⟩:∃ W2,(W1.setCell ⟨W.heap.size+2,0,none⟩ (.int .u32 (g.r.p:Int))).setCell ⟨W.heap.size+2,1,none⟩ (.string g.r.t)=W2:=⟨_,rfl⟩;rw[hW2] at hY2 b2;have HY2:Hid (FB (W.heap.size+2) (g.r.p:Int) g.r.t W2):=hY2;have HR:Hid (GP R Rx I own F k g W (.returned (.tuple #[fcv g.r,.bool (decide (g.e=0))])) W2):=HFin.out own1 F1 W1 W2 hg1 hdj hbt hi1 hr1 hx1 _ b2 (fun j e=>⟨by omega,by have:=HS0.out.1;omega⟩) _ rfl;obtain⟨bb,hbb⟩:∃ bb,decide (g.e=0)=bb:=⟨_,rfl⟩;rw[hbb] at HR ⊢;clear hg1 hdj hbt hi1 hr1 hx1 hY1 hY2 b2 hbb;go_wp2_with fail;refine bodyPost_ret (zab rfl _ _ _ _ _ _ rfl rfl HY2.out) rfl ?_;exact HR.out
theorem zbz {σ:Type} (f:σ→List Rw→Gr σ) (m:List Rw) (ms:List (List Rw)) (s:σ) (rs:List Rf):
  zan f (m::ms) s rs=if(f s m).e=0 then(⟨(zan f ms (f s m).s (rs++[(f s m).r])).1.s,(f s m).ys++(zan f ms (f s m).s (rs++[(f s m).r])).1.ys,(zan f ms (f s m).s (rs++[(f s m).r])).1.e,(zan f ms (f s m).s (rs++[(f s m).r])).1.r⟩,(zan f ms (f s m).s (rs++[(f s m).r])).2) else(f s m,rs):=rfl
theorem Fit.kid {σ:Type} {it:Nat→Sv × Int→Bool→Prop} {k:Nat} {f:σ→List Rw→Gr σ} {m:List Rw} {ms:List (List Rw)} {s:σ} {rs:List Rf} (h:Fit it k (zan f (m::ms) s rs).1):Fit it k (f s m):=by
 rw[zbz] at h;by_cases h0:(f s m).e=0
 ·rw[if_pos h0] at h
  refine⟨fun i x hx=>h.1 i x ?_,fun hn=>absurd h0 hn⟩;show((f s m).ys++_)[i]? =_;rw[List.getElem?_append_left (List.getElem?_eq_some_iff.1 hx).1];exact hx
 ·rw[if_neg h0] at h
  exact h
theorem Fit.kids {σ:Type} {it:Nat→Sv × Int→Bool→Prop} {k:Nat} {pl:Pm σ} {d:Nat} {s:σ} {ls:List Rw} (hlf:leaf ls=false) (h:Fit it k (zad pl (d+1) s ls)):Fit it k (zan (zad pl d) (zao ls) s []).1:=by
 unfold zad at h;rw[if_neg (by rw[hlf];decide)] at h;by_cases h0:(zan (zad pl d) (zao ls) s []).1.e=0
 ·rw[if_pos h0] at h
  refine⟨fun i x hx=>h.1 i x ?_,fun hn=>absurd h0 hn⟩;show((zan (zad pl d) (zao ls) s []).1.ys++_)[i]? =_;rw[List.getElem?_append_left (List.getElem?_eq_some_iff.1 hx).1];exact hx
 ·rw[if_neg h0] at h
  exact h
theorem Fit.last {σ:Type} {it:Nat→Sv × Int→Bool→Prop} {k:Nat} {pl:Pm σ} {d:Nat} {s:σ} {ls:List Rw} (hlf:leaf ls=false) (h:Fit it k (zad pl (d+1) s ls)) (h0:(zan (zad pl d) (zao ls) s []).1.e=0):
  Fit it (k+(zan (zad pl d) (zao ls) s []).1.ys.length) (zaC pl (zan (zad pl d) (zao ls) s []).1.s (zaX ls (zan (zad pl d) (zao ls) s []).2)):=by
 unfold zad at h;rw[if_neg (by rw[hlf];decide),if_pos h0] at h;exact h.tail rfl
abbrev pcs (n:Nv) (vs:Value):Obj:=.cells #[.int .i64 2,.int .u32 (n.X:Int),.int .u32 (n.Y:Int),.int .i64 (n.L:Int),.slice none 0 0,vs,.int .u32 0,.string ⟨#[]⟩] 155
structure Nd {σ:Type} (Z:(Nat→Prop)→World→Prop) (I:σ→(Nat→Prop)→World→Prop) (pf:Nat) (pb:Array Value) (own F:Nat→Prop) (W:World) (n:Nv) (s:σ) (vs:Value) (rs:List Rf) (own' F':Nat→Prop) (wr:World):Prop where
 gb:wr.heap[W.heap.size]? =some (.cells #[.func (.func pf) #[] pb] 93 (0,0))
 nb:wr.heap[W.heap.size+1]? =some (ncs n)
 rb:FB (W.heap.size+2) 0 ⟨#[]⟩ wr
 pg:wr.heap[W.heap.size+3]? =some (pcs n vs)
 kr:wr.ownsRow (W.heap.size+4) 49 2 vs rs.length (rs.flatMap fc)
 kn:∀ b,vs.ownBlock=some b→¬(own' b∨F' b)
 go:∀ j,own' j→own j∨W.heap.size+4≤j
 gf:∀ j,F' j→F j∨W.heap.size+4≤j
 dj:Dj own' F' wr
 fl:∀ j,F' j→j<wr.heap.size
 bt:But (fun j=>own j∨F j) W wr
 i:I s F' wr
 r:Z own' wr
theorem Nd.box {σ:Type} {Z:(Nat→Prop)→World→Prop} {I:σ→(Nat→Prop)→World→Prop} {pf:Nat} {pb:Array Value} {own F:Nat→Prop} {W:World} {n:Nv} {s:σ} {vs:Value} {rs:List Rf} {own' F':Nat→Prop} {wr:World} (h:Nd Z I pf pb own F W n s vs rs own' F' wr)
  (ho:∀ j,own j→j<W.heap.size) (hF:∀ j,F j→j<W.heap.size):∀ j,W.heap.size≤j→j<W.heap.size+4→¬(own' j∨F' j):=fun j h1 h2 e=>by
 rcases e with e|e
 ·rcases h.go j e with x|x
  ·have:=ho j x;omega
  ·omega
 ·rcases h.gf j e with x|x
  ·have:=hF j x;omega
  ·omega
theorem Nd.step {σ:Type} {B:Nat} {V:Nat→Prop} {Z Z1:(Nat→Prop)→World→Prop} {pl:Pm σ} {I:σ→(Nat→Prop)→World→Prop} {pf:Nat} {pb:Array Value} {own F:Nat→Prop} {W:World} {n:Nv} {s:σ} {vs:Value} {rs:List Rf} {own' F':Nat→Prop} {wr:World} (h:Nd Z I pf pb own F W n s vs rs own' F' wr)
  (ho:∀ j,own j→j<W.heap.size) (hF:∀ j,F j→j<W.heap.size) (hP:Plc B V pl pf pb I) (hZ:∀ own W W',Z1 own W→Kv B V own W W'→Z1 own W') {w1 W1 W2:World} {own1 F1:Nat→Prop} {s1:σ} (b1:Below wr.heap.size wr w1) (g1:Grw own' own1 w1 W1) (g2:Grw F' F1 w1 W1) (dj:Dj own1 F1 W1) (bt:But (fun j=>own' j∨F' j) w1 W1) (i1:I s1 F1 W1) (r1:Z1 own1 W1) (b2:Below W1.heap.size W1 W2):
  Nd Z1 I pf pb own F W n s1 vs rs own1 F1 W2:=by
 have hb:=h.box ho hF;have l0:=(zi h.gb).1;have l1:=(zi h.nb).1;have l2:=(zi h.rb).1;have l3:=(zi h.pg).1;have s0:=b1.size;have s1:=bt.size;have s2:=b2.size;have k2:∀ j,j<wr.heap.size→¬(own' j∨F' j)→W2.heap[j]? =wr.heap[j]? :=fun j hj hn=>(b2.block j (by omega)).trans ((bt.block j (by omega) hn).trans (b1.block j hj))
 have hbt:=h.bt.size;refine⟨(k2 _ l0 (hb _ (by omega) (by omega))).trans h.gb,(k2 _ l1 (hb _ (by omega) (by omega))).trans h.nb,(k2 _ l2 (hb _ (by omega) (by omega))).trans h.rb,(k2 _ l3 (hb _ (by omega) (by omega))).trans h.pg,?_,fun b eb e=>?_,fun j hj=>?_,fun j hj=>?_,⟨fun j hj=>Nat.lt_of_lt_of_le (dj.lt j hj) s2,dj.no⟩,fun j hj=>Nat.lt_of_lt_of_le (hP.lt _ F1 W1 i1 j hj) s2,?_,hP.keep _ F1 W1 W2 i1 s2 fun j hj=>b2.block j (hP.lt _ F1 W1 i1 j hj),hZ own1 W1 W2 r1 (Kv.of_below b2)⟩
 ·refine⟨h.kr.1,?_⟩
  rcases h.kr.2 with x|⟨g,cap,cur,rfl,x2,x3,x4⟩
  ·exact .inl x
  ·exact .inr ⟨g,cap,cur,rfl,x2,(k2 g (zi x3).1 (h.kn g rfl)).trans x3,x4⟩
 ·have hl:=(h.kr.lt b eb).2
  rcases e with e|e
  ·rcases g1 b e with x|x
   ·exact h.kn b eb (.inl x)
   ·omega
  ·rcases g2 b e with x|x
   ·exact h.kn b eb (.inr x)
   ·omega
 ·rcases g1 j hj with x|x
  ·exact h.go j x
  ·exact .inr (by omega)
 ·rcases g2 j hj with x|x
  ·exact h.gf j x
  ·exact .inr (by omega)
 ·refine⟨b2.os.trans (bt.os.trans (b1.os.trans h.bt.os)),b2.tape.trans (bt.tape.trans (b1.tape.trans h.bt.tape)),b2.output.trans (bt.output.trans (b1.output.trans h.bt.output)),by omega,fun j hj hn=>?_⟩
  rw[k2 j (by omega) fun e=>?_,h.bt.block j hj hn];rcases e with e|e
  ·rcases h.go j e with x|x
   ·exact hn (.inl x)
   ·omega
  ·rcases h.gf j e with x|x
   ·exact hn (.inr x)
   ·omega
theorem Nd.app {σ:Type} {B:Nat} {V:Nat→Prop} {Z:(Nat→Prop)→World→Prop} {pl:Pm σ} {I:σ→(Nat→Prop)→World→Prop} {pf:Nat} {pb:Array Value} {own F:Nat→Prop} {W:World} {n:Nv} {s:σ} {vs:Value} {rs:List Rf} {own' F':Nat→Prop} {wr:World} (h:Nd Z I pf pb own F W n s vs rs own' F' wr)
  (ho:∀ j,own j→j<W.heap.size) (hF:∀ j,F j→j<W.heap.size) (hB:B≤W.heap.size) (hP:Plc B V pl pf pb I) (hZ:∀ own W W',Z own W→Kv B V own W W'→Z own W') {w3 w4:World} {v':Value} {r:Rf} (b3:Below wr.heap.size wr w3) (a1:w4.ownsRow (W.heap.size+4) 49 2 v' (rs.length+1) (rs.flatMap fc++fc r)) (a2:w3.grownBy w4 vs.ownBlock) (a3:v'.ownBlock=vs.ownBlock∨v'.ownBlock=some w3.heap.size):
  Nd Z I pf pb own F W n s v' (rs++[r]) own' F' (w4.setCell ⟨W.heap.size+3,5,none⟩ v')∧w4.heap[W.heap.size+3]? =some (pcs n vs):=by
 have hb:=h.box ho hF;have hbt:=h.bt.size;have s3:=b3.size;have s4:=a2.size;have hs:(w4.setCell ⟨W.heap.size+3,5,none⟩ v').heap.size=w4.heap.size:=by simp[World.setCell]
 have hlo:∀ b,vs.ownBlock=some b→W.heap.size+4≤b∧b<wr.heap.size:=h.kr.lt;have hl':∀ b,v'.ownBlock=some b→W.heap.size+4≤b∧b<w4.heap.size:=a1.lt;have k4:∀ j,j<wr.heap.size→vs.ownBlock≠some j→w4.heap[j]? =wr.heap[j]? :=fun j hj hn=>(a2.block j (by omega) (fun e=>hn e.symm)).trans (b3.block j hj)
 have k5:∀ j,j≠W.heap.size+3→(w4.setCell ⟨W.heap.size+3,5,none⟩ v').heap[j]? =w4.heap[j]? :=fun j hj=>heap_setCell_other _ _ _ _ hj
 have k:∀ j,j<wr.heap.size→vs.ownBlock≠some j→j≠W.heap.size+3→(w4.setCell ⟨W.heap.size+3,5,none⟩ v').heap[j]? =wr.heap[j]? :=fun j h1 h2 h3=>(k5 j h3).trans (k4 j h1 h2)
 have l0:=(zi h.gb).1;have l1:=(zi h.nb).1;have l2:=(zi h.rb).1;have l3:=(zi h.pg).1;have no:∀ j,j<W.heap.size+4→vs.ownBlock≠some j:=fun j hj e=>by have:=hlo j e;omega
 have p4:w4.heap[W.heap.size+3]? =some (pcs n vs):=(k4 _ l3 (no _ (by omega))).trans h.pg;refine⟨⟨(k _ l0 (no _ (by omega)) (by omega)).trans h.gb,(k _ l1 (no _ (by omega)) (by omega)).trans h.nb,(k _ l2 (no _ (by omega)) (by omega)).trans h.rb,?_,?_,fun b eb e=>?_,h.go,h.gf,⟨fun j hj=>by have:=h.dj.lt j hj;omega,h.dj.no⟩,fun j hj=>by have:=h.fl j hj;omega,?_,?_,?_⟩,p4⟩
 ·exact zx w4 _ 5 _ _ v' p4
 ·rw[List.length_append,List.flatMap_append]
  have e1:[r].flatMap fc=fc r:=by simp
  rw[e1];refine⟨a1.1,?_⟩;rcases a1.2 with x|⟨g,cap,cur,rfl,x2,x3,x4⟩
  ·exact .inl x
  ·exact .inr ⟨g,cap,cur,rfl,x2,(k5 g (by omega)).trans x3,x4⟩
 ·rcases a3 with x|x
  ·exact h.kn b (x▸eb) e
  ·rw[x] at eb
   cases eb;rcases e with e|e
   ·have:=h.dj.lt _ e;omega
   ·have:=h.fl _ e;omega
 ·refine⟨?_,?_,?_,by omega,fun j hj hn=>?_⟩
  ·exact a2.os.trans (b3.os.trans h.bt.os)
  ·exact a2.tape.trans (b3.tape.trans h.bt.tape)
  ·exact a2.output.trans (b3.output.trans h.bt.output)
  ·rw[k j (by omega) (no j (by omega)) (by omega),h.bt.block j hj hn]
 ·refine hP.keep _ F' wr _ h.i (by omega) fun j hj=>k j (h.fl j hj) (fun e=>h.kn j e (.inr hj)) fun e=>hb j (by omega) (by omega) (.inr hj)
 ·refine hZ own' wr _ h.r ⟨?_,?_,?_,by omega,fun j hj hn=>?_⟩
  ·exact a2.os.trans b3.os
  ·exact a2.tape.trans b3.tape
  ·exact a2.output.trans b3.output
  ·refine k j hj (fun e=>?_) fun e=>?_
   ·rcases hn with hn|hn
    ·have:=hlo j e;omega
    ·exact h.kn j e (.inl hn)
   ·rcases hn with hn|hn
    ·omega
    ·exact hb j (by omega) (by omega) (.inl hn)
end Rz
end Go.Proofs.YtokfnghckpgjmaaGreatDoor
