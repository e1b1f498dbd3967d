/- A reader: numbers. -/
import Derived.Test.YtokfnghckpgjmaaGreatDoorQID
set_option maxRecDepth 100000
set_option maxHeartbeats 4000000
namespace Go.Proofs.YtokfnghckpgjmaaGreatDoor
namespace Rw
open Go.RowKit Go.Lib Go.Shelf
open Rc Rq
attribute [local go_sem] Oper.semAt_some
def bt (s:ByteArray) (i:Nat):Nat:=(s.data[i]?.getD 0).toNat
def valB (s:ByteArray):Nat→Nat
 |0=>0
 |k+1=>valB s k+bt s k*2 ^ (8*k)
theorem zoF (s:ByteArray) (i:Nat):bt s i<256:=(s.data[i]?.getD 0).toNat_lt
theorem zd9 (s:ByteArray):∀ k,valB s k<2 ^ (8*k)
 |0=>by simp[valB]
 |k+1=>by
  have h1:=zd9 s k;have h2:=zoF s k;have e:2 ^ (8*(k+1))=256*2 ^ (8*k):=by rw[Nat.mul_add,Nat.pow_add,Nat.mul_comm]
  rw[e,valB];have h3:(bt s k+1)*2 ^ (8*k)≤256*2 ^ (8*k):=Nat.mul_le_mul_right _ h2;rw[Nat.succ_mul] at h3;omega
theorem zoG (s:ByteArray) (k:Nat):valB s k|||(bt s k<<<(8*k))=valB s (k+1):=by
 rw[Nat.or_comm,←Nat.shiftLeft_add_eq_or_of_lt (zd9 s k),Nat.shiftLeft_eq,valB,Nat.add_comm]
structure NJ (g6:Nat) (s:ByteArray) (Wf:World) (own:Nat→Prop) (t:Nat) (W:World):Prop where
 box:W.heap[g6]? =some (.cells #[.int .u64 (valB s t:Int)] 42 (0,0))
 own:∀ j,own j↔j=g6
 but:But (fun j=>j=g6) Wf W
theorem NJ.kw {g6:Nat} {s:ByteArray} {Wf:World} {own:Nat→Prop} {t:Nat} {W W':World} (h:NJ g6 s Wf own t W) (hk:Kw Wf.heap.size own W W'):NJ g6 s Wf own t W':=
 ⟨(hk.block _ (zi h.box).1 (.inr ((h.own _).2 rfl))).trans h.box,h.own,⟨hk.os.trans h.but.os,hk.tape.trans h.but.tape,hk.output.trans h.but.output,Nat.le_trans h.but.size hk.size,fun j hj hn=>(hk.block j (Nat.lt_of_lt_of_le hj h.but.size) (.inl hj)).trans (h.but.block j hj hn)⟩⟩
theorem zkP (g:Nat) (rest:ByteArray) (sh:Bool) (sz:Nat) (hno:sh=true∨rest.size<sz) (w:World) (h:Rd g rest sh w):
  Calls Tryz.prog 163 #[.pointer (some ⟨g,0,none⟩),.int .i64 (sz:Int)] w fun e w'=>e=.returned (.int .u64 0)∧Rd g rest true w'∧Bo g w w':=by
 have HT:Hid _:=zkN g rest sh sz hno w h;clear h;refine(callsIn_wide (n:=5)).1 ?_;refine callsIn_of_wp_marks Tryz.func163 rfl trivial ?_ rfl;simp only[Tryz.ntmps163,zS1,zS2,zS3,Nat.reduceAdd,Nat.reduceSub,zS4,zS5,zS6,zS7,zS8,zS9];gi_wp2;refine⟨trivial,callsIn_wide.2 (Calls.mono HT.out ?_)⟩;rintro e w2 ⟨rfl,r2,b2⟩;have hb:=zaa w2 (.cells #[.string ⟨#[]⟩] 9);obtain⟨c0,c1,lg,-,-⟩:=zb8 r2;have HF:Hid (Rd g rest true (w2.alloc (.cells #[.string ⟨#[]⟩] 9))∧Bo g w (w2.alloc (.cells #[.string ⟨#[]⟩] 9))):=⟨(hb.block _ lg).trans r2,b2.trans (But.of_below hb)⟩;clear r2 b2 hb;gi_wp2;refine zaJ (fun W=>results_tmp rfl _ _ _) [] _ (by simp) (fun E hE=>by simp at hE) fun W'' hb=>⟨rfl,?_,?_⟩
 ·exact(hb.block g (zi HF.out.1).1 (by simp)).trans HF.out.1
 ·exact HF.out.2.trans (hb.more fun j _ hj=>by simp at hj)
theorem zkQ (g:Nat) (rest:ByteArray) (sz:Nat) (hsz:sz≤8) (hr:sz≤rest.size) (w:World) (h:Rd g rest false w):
  Calls Tryz.prog 163 #[.pointer (some ⟨g,0,none⟩),.int .i64 (sz:Int)] w fun e w'=>e=.returned (.int .u64 (valB (rest.extract 0 sz) sz:Int))∧Rd g (rest.extract sz rest.size) false w'∧Bo g w w':=by
 have HT:Hid _:=zkO g rest sz hr w h;have hss:(rest.extract 0 sz).size=sz:=by rw[ByteArray.size_extract];omega
 obtain⟨s,hs⟩:∃ s,rest.extract 0 sz=s:=⟨_,rfl⟩;obtain⟨rs,hrs⟩:∃ rs,rest.extract sz rest.size=rs:=⟨_,rfl⟩;rw[hs,hrs] at HT;rw[hs] at hss ⊢;rw[hrs];have HLT:Hid (g<w.heap.size):=(zi h).1;clear h hs hrs;refine(callsIn_wide (n:=5)).1 ?_;refine callsIn_of_wp_marks Tryz.func163 rfl trivial ?_ rfl;simp only[Tryz.ntmps163,zS1,zS2,zS3,Nat.reduceAdd,Nat.reduceSub,zS4,zS5,zS6,zS7,zS8,zS9];gi_wp2;refine⟨trivial,callsIn_wide.2 (Calls.mono HT.out ?_)⟩;rintro e w2 ⟨rfl,r2,b2⟩;obtain⟨c0,c1,lg,-,-⟩:=zb8 r2;have HR2:Hid (Rd g rs false w2∧Bo g w w2):=⟨r2,b2⟩;clear r2 b2 HT;gi_wp2;refine⟨trivial,callsIn_wide.2 ((zeJ sz _).mono ?_)⟩;rintro e Wf ⟨rfl,hWf⟩;have hs2:((w2.alloc (.cells #[.string s] 9)).alloc (.cells #[.int .u64 0] 42)).heap.size=w2.heap.size+2:=by simp
 obtain⟨t1,t2,t3,t4,t5⟩:=trio w2 (.cells #[.string s] 9) (.cells #[.int .u64 0] 42) (.cells #[.int .i64 (sz:Int)] 3);rw[hs2];rw[←hWf] at t1 t2 t3 t4 t5;have HT1:Hid (Wf.heap[w2.heap.size]? =some (.cells #[.string s] 9 (0,0))):=t1;have HT2:Hid (Wf.heap[w2.heap.size+1]? =some (.cells #[.int .u64 0] 42 (0,0))):=t2;have HT3:Hid (Wf.heap[w2.heap.size+2]? =some (.cells #[.int .i64 (sz:Int)] 3 (0,0))):=t3;have HBf:Hid (Below w2.heap.size w2 Wf):=t4;have HSf:Hid (Wf.heap.size=w2.heap.size+3):=t5;clear hs2 hWf t1 t2 t3 t4 t5 c0 c1;gi_wp2
 refine zeI (by omega) (gf:=236) (lb:=#[.pointer (some ⟨w2.heap.size+2,0,none⟩)]) rfl (enters_of Tryz.func236 (by kernel_rfl) rfl) (α:=Nat) sz (fun k=>#[.int .i64 (8*(k:Int))]) (fun _=>rfl) (fun k x=>x=k)
  (fun own' t W=>NJ (w2.heap.size+1) s Wf own' t W) (fun _ _=>False) .ret ?hJ ?hJx (fun j=>j=w2.heap.size+1) ?hown0 ?h0
  (fun k a' _=>a'={ tmps:=#[.pointer (some ⟨g,0,none⟩),.int .i64 (sz:Int),undef,undef,.int .u64 0,.pointer (some ⟨w2.heap.size,0,none⟩),.pointer (some ⟨w2.heap.size+1,0,none⟩),.int .i64 (8*(k:Int)),.pointer (some ⟨g,0,none⟩),.int .i64 (sz:Int),.string s,.pointer (some ⟨g,0,none⟩),.pointer (some ⟨g,0,none⟩),.pointer (some ⟨g,1,none⟩),.bool false,.int .i64 (sz:Int),.func (.func 236) #[] #[.pointer (some ⟨w2.heap.size+2,0,none⟩)],.int .i64 (8*(k:Int)),undef,undef,undef,undef,undef,undef,undef,undef,undef,undef],defers:=[] }) ?hA ?assign ?body ?iter ?done ?stop
 case hJ=>intro own' k A B h hk;exact h.kw hk
 case hJx=>intro own' A B h _;exact h
 case hown0=>intro j hj;have:=HSf.out;omega
 case h0=>exact⟨by simpa [valB] using HT2.out,fun j=>Iff.rfl,But.refl _ _⟩
 case hA=>intro x a' W l o' h _ _;exact h
 case assign=>
  intro l' own' k x W' K hk hok hJk hsz' hK;clear hok hJk;gi_wp2;exact hK _ _ (Below.refl _ _) rfl
 case iter=>
  intro l' W5 hl' hB5 hs5 R' Rx' ow how hR' hRx' hY' h0';have hS:=HSf.out;refine zd7 Wf sz (w2.heap.size+2) hsz HT3.out W5 hB5 l' R' Rx' ow (fun j hj=>?_) (fun own' k W hk hRk hsz'=>hY' own' k k W hk rfl hRk hsz') h0';rcases(how j).1 hj with a|rfl
  ·omega
  ·omega
 case stop=>intro D own' W' _ _ h _;exact h.elim
 case done=>
  intro D own' W' hDe hno hJ hdf;have HDf:Hid _:=hdf;have HJe:Hid (NJ (w2.heap.size+1) s Wf own' sz W'):=hJ;have HDs:Hid (D=Wf.heap.size):=hDe;have c6:W'.cell? ⟨w2.heap.size+1,0,none⟩=some (.int .u64 (valB s sz:Int)):=by rw[zr hJ.box];rfl
  have l6:w2.heap.size+1<W'.heap.size:=(zi hJ.box).1;clear hJ hdf hDe hno;gi_wp2;refine zaJ (fun W=>results_tmp rfl _ _ _) [D] W' (by simp) (fun E hE=>by simp at hE;subst hE;exact HDf.out) fun W'' hb=>?_
  have hS:=HSf.out;have hD:=HDs.out;have h1:=HJe.out.but;have h2:=HBf.out
  have hbk:∀ j,j<w2.heap.size→W''.heap[j]? =w2.heap[j]? :=fun j hj=>(hb.block j (Nat.lt_of_lt_of_le (by omega) h1.size) fun e=>by
   have e':j=D:=by simpa using e
   omega).trans ((h1.block j (by omega) (by omega)).trans (h2.block j hj))
  refine⟨rfl,(hbk g lg).trans HR2.out.1,HR2.out.2.trans ⟨hb.os.trans (h1.os.trans h2.os),hb.tape.trans (h1.tape.trans h2.tape),hb.output.trans (h1.output.trans h2.output),Nat.le_trans h2.size (Nat.le_trans h1.size hb.size),fun j hj _=>hbk j hj⟩⟩
 case body=>
  rintro l' own' k x a' W' hk rfl hJ rfl hsz' hol;have hS:=HSf.out;have x1:=(hJ.but.block w2.heap.size (by omega) (by omega)).trans HT1.out
  have c5:W'.drew.cell? ⟨w2.heap.size,0,none⟩=some (.string s):=by
   rw[World.cell?_of_block (a:=⟨w2.heap.size,0,none⟩) (show W'.drew.heap[w2.heap.size]? =W'.heap[w2.heap.size]? from rfl),zr x1];rfl
  have c6:W'.drew.cell? ⟨w2.heap.size+1,0,none⟩=some (.int .u64 (valB s x:Int)):=by
   rw[World.cell?_of_block (a:=⟨w2.heap.size+1,0,none⟩) (show W'.drew.heap[w2.heap.size+1]? =W'.heap[w2.heap.size+1]? from rfl),zr hJ.box];rfl
  have f6:W'.drew.frozen? ⟨w2.heap.size+1,0,none⟩=false:=frozen_of_row W'.drew _ 0 _ _ (show W'.drew.heap[w2.heap.size+1]? =_ from hJ.box);have hxs:x<s.size:=by omega
  have hbx:(s[x].toNat:Int)=(bt s x:Int):=by
   unfold bt;have e:s.data[x]? =some s[x]:=Array.getElem?_eq_getElem hxs;rw[e];rfl
  have HFIN:Hid (∃ own'',(∀ j,own'' j→own' j∨(W'.heap.size≤j∧j<(W'.drew.setCell ⟨w2.heap.size+1,0,none⟩ (.int .u64 (valB s (x+1):Int))).heap.size))∧But own' W' (W'.drew.setCell ⟨w2.heap.size+1,0,none⟩ (.int .u64 (valB s (x+1):Int)))∧NJ (w2.heap.size+1) s Wf own'' (x+1) (W'.drew.setCell ⟨w2.heap.size+1,0,none⟩ (.int .u64 (valB s (x+1):Int)))):=by
   have hbs:Bo (w2.heap.size+1) W' (W'.drew.setCell ⟨w2.heap.size+1,0,none⟩ (.int .u64 (valB s (x+1):Int))):=by
    have:=zkM W'.drew (w2.heap.size+1) 0 (.int .u64 (valB s (x+1):Int));exact⟨this.os,this.tape,this.output,this.size,this.block⟩
   refine⟨own',fun j hj=>.inl hj,hbs.more fun j _ hj=>(hJ.own j).2 hj,?_,hJ.own,hJ.but.trans hbs⟩;have:=zx W'.drew (w2.heap.size+1) 0 _ _ (.int .u64 (valB s (x+1):Int)) (show W'.drew.heap[w2.heap.size+1]? =_ from hJ.box);simpa using this
  have hmx:Tryz.prog.follows .mixedOrders=true:=by kernel_rfl
  have hbl:=zoF s x;have hp64:2 ^ (8*(x+1))≤18446744073709551616:=Nat.le_trans (Nat.pow_le_pow_right (by decide) (show 8*(x+1)≤64 by omega)) (by decide);have hv1:=zd9 s (x+1);have hv2:valB s (x+1)=valB s x+bt s x*2 ^ (8*x):=rfl
  have HM1:Hid ((0:Int)≤(bt s x:Int)*2 ^ (8*x)∧(bt s x:Int)*2 ^ (8*x)≤18446744073709551615):=by
   have hb0:bt s x*2 ^ (8*x)<18446744073709551616:=by omega
   have e:((bt s x*2 ^ (8*x):Nat):Int)=(bt s x:Int)*2 ^ (8*x):=by push_cast;rfl
   refine(?_:_∧_);rw[←e];omega
  have HOR:Hid (bits BinOp.or IntKind.u64 (valB s x:Int) ((bt s x:Int)*2 ^ (8*x))=(valB s (x+1):Int)):=by
   refine(?_:bits BinOp.or IntKind.u64 (valB s x:Int) ((bt s x:Int)*2 ^ (8*x))=(valB s (x+1):Int));have e:((bt s x*2 ^ (8*x):Nat):Int)=(bt s x:Int)*2 ^ (8*x):=by push_cast;rfl
   rw[←e,u64_or_nat _ _ (by omega) (by omega),←zoG,Nat.shiftLeft_eq]
  clear hp64 hv1 hv2;have q1:(0:Int)≤(x:Int):=by omega
  have q2:(x:Int)<(s.size:Int):=by omega
  have q3:(8*(x:Int)).tdiv 8=(x:Int):=by rw[Int.mul_tdiv_cancel_left _ (by decide)]
  have q4:IntKind.i64.wrap (x:Int)=(x:Int):=wrap_i64 (by omega) (by omega);have l6:w2.heap.size+1<W'.drew.heap.size:=(zi hJ.box).1;clear hJ x1 hol hsz';gi_wp2;refine wpIn_region_any hmx ?_;change wpAnyIn _ _ _ _ _ _ _ _ _ (World.drew _);refine za5 (F:=Fence.wide) l' (by intro o ho c hc;simp at ho;rcases ho with rfl|rfl|rfl|rfl|rfl|rfl|rfl|rfl|rfl|rfl<;>cases hc) _ _ _ _ ?_;refine tkI (i:=2) (v:=?_) rfl rfl ?_ ?_;rotate_left
  ·intro w
   go_simp
   try with_reducible rfl
  conv in(Act.put _ _ _)=>simp only[zL1,zL2,zL3,Act.put,zL4,zL5,zL6]
  refine tkI (i:=6) (v:=?_) rfl rfl ?_ ?_;rotate_left
  ·intro w
   go_simp
   try with_reducible rfl
  conv in(Act.put _ _ _)=>simp only[zL1,zL2,zL3,Act.put,zL4,zL5,zL6]
  refine tkI (i:=3) (v:=.int .i64 (x:Int)) rfl rfl ?_ ?_
  ·intro w
   go_simp
   all_goals (try rw[q3])
   all_goals (try rw[q4])
  conv in(Act.put _ _ _)=>simp only[zL1,zL2,zL3,Act.put,zL4,zL5,zL6]
  refine wpAnyIn_ready (rs:=[0,1]) (by kernel_rfl) (by simp) ?_;refine(AllReadyIn.cons rfl (fun K hK=>?_) (AllReadyIn.cons rfl (fun K hK=>?_) AllReadyIn.nil))
  ·go_simp
   refine hK _ _ ?_;clear hK K;refine wpAnyIn_ready (rs:=[1]) (by kernel_rfl) (by simp) ?_;refine(AllReadyIn.cons rfl (fun K hK=>?_) AllReadyIn.nil);go_simp;refine hK _ _ ?_;clear hK K;refine tkI (i:=4) (v:=.int .u8 (bt s x:Int)) rfl rfl ?_ ?_
   ·intro w
    go_simp
   conv in(Act.put _ _ _)=>simp only[zL1,zL2,zL3,Act.put,zL4,zL5,zL6]
   refine tkI (i:=5) (v:=.int .u64 (bt s x:Int)) rfl rfl ?_ ?_
   ·intro w
    go_simp
    all_goals (try exact IntWalk.u64_in _ ⟨by omega,by omega⟩)
   conv in(Act.put _ _ _)=>simp only[zL1,zL2,zL3,Act.put,zL4,zL5,zL6]
   refine tkI (i:=7) (v:=.int .u64 ((bt s x*2 ^ (8*x):Nat):Int)) rfl rfl ?_ ?_
   ·intro w
    go_simp;rw[show(8*(x:Int)).toNat=8*x by omega];exact IntWalk.u64_in _ HM1.out
   conv in(Act.put _ _ _)=>simp only[zL1,zL2,zL3,Act.put,zL4,zL5,zL6]
   refine tkI (i:=8) (v:=.int .u64 (valB s (x+1):Int)) rfl rfl ?_ ?_
   ·intro w
    go_simp;exact HOR.out
   conv in(Act.put _ _ _)=>simp only[zL1,zL2,zL3,Act.put,zL4,zL5,zL6]
   refine wpAnyIn_ready (rs:=[9]) (by kernel_rfl) (by simp) ?_;refine(AllReadyIn.cons rfl (fun K hK=>?_) AllReadyIn.nil);go_simp;refine hK _ _ ?_;clear hK K;refine wpAnyIn_done (by kernel_rfl) ?_ _;gi_wp2;exact HFIN.out
  ·go_simp
   refine hK _ _ ?_;clear hK K;refine tkI (i:=4) (v:=.int .u8 (bt s x:Int)) rfl rfl ?_ ?_
   ·intro w
    go_simp
   conv in(Act.put _ _ _)=>simp only[zL1,zL2,zL3,Act.put,zL4,zL5,zL6]
   refine tkI (i:=5) (v:=.int .u64 (bt s x:Int)) rfl rfl ?_ ?_
   ·intro w
    go_simp
    all_goals (try exact IntWalk.u64_in _ ⟨by omega,by omega⟩)
   conv in(Act.put _ _ _)=>simp only[zL1,zL2,zL3,Act.put,zL4,zL5,zL6]
   refine tkI (i:=7) (v:=.int .u64 ((bt s x*2 ^ (8*x):Nat):Int)) rfl rfl ?_ ?_
   ·intro w
    go_simp;rw[show(8*(x:Int)).toNat=8*x by omega];exact IntWalk.u64_in _ HM1.out
   conv in(Act.put _ _ _)=>simp only[zL1,zL2,zL3,Act.put,zL4,zL5,zL6]
   refine wpAnyIn_ready (rs:=[0]) (by kernel_rfl) (by simp) ?_;refine(AllReadyIn.cons rfl (fun K hK=>?_) AllReadyIn.nil);go_simp;refine hK _ _ ?_;clear hK K;refine tkI (i:=8) (v:=.int .u64 (valB s (x+1):Int)) rfl rfl ?_ ?_
   ·intro w
    go_simp;exact HOR.out
   conv in(Act.put _ _ _)=>simp only[zL1,zL2,zL3,Act.put,zL4,zL5,zL6]
   refine wpAnyIn_ready (rs:=[9]) (by kernel_rfl) (by simp) ?_;refine(AllReadyIn.cons rfl (fun K hK=>?_) AllReadyIn.nil);go_simp;refine hK _ _ ?_;clear hK K;refine wpAnyIn_done (by kernel_rfl) ?_ _;gi_wp2;exact HFIN.out
end Rw
namespace Rw
open Go.RowKit Go.Lib Go.Shelf
open Rc Rq
structure RS where
 r:ByteArray
 s:Bool
def okN (st:RS) (n:Nat):Bool:= !st.s&&decide (n≤st.r.size)
def txtS (st:RS) (n:Nat):ByteArray:=if okN st n=true then st.r.extract 0 n else⟨#[]⟩
def numS (st:RS) (n:Nat):Nat:=if okN st n=true then valB (st.r.extract 0 n) n else 0
def aftS (st:RS) (n:Nat):RS:=if okN st n=true then⟨st.r.extract n st.r.size,false⟩ else⟨st.r,true⟩
abbrev RdS (g:Nat) (st:RS) (W:World):Prop:=Rd g st.r st.s W
theorem znL {st:RS} {n:Nat} (h:okN st n=false):st.s=true∨st.r.size<n:=by
 unfold okN at h;cases hs:st.s
 ·rw[hs] at h
  simp at h;exact .inr h
 ·exact .inl rfl
theorem zg9 {st:RS} {n:Nat} (h:okN st n=true):st.s=false∧n≤st.r.size:=by
 unfold okN at h;simpa using h
theorem zcz (g:Nat) (st:RS) (n:Nat) (w:World) (h:RdS g st w):
  Calls Tryz.prog 201 #[.pointer (some ⟨g,0,none⟩),.int .i64 (n:Int)] w fun e w'=>e=.returned (.string (txtS st n))∧RdS g (aftS st n) w'∧Bo g w w':=by
 unfold txtS aftS;cases hk:okN st n
 ·simpa using zkN g st.r st.s n (znL hk) w h
 ·obtain⟨h1,h2⟩:=zg9 hk
  have h':Rd g st.r false w:=h1▸h;simpa using zkO g st.r n h2 w h'
theorem zaD (g:Nat) (st:RS) (n:Nat) (hn:n≤8) (w:World) (h:RdS g st w):
  Calls Tryz.prog 163 #[.pointer (some ⟨g,0,none⟩),.int .i64 (n:Int)] w fun e w'=>e=.returned (.int .u64 (numS st n:Int))∧RdS g (aftS st n) w'∧Bo g w w':=by
 unfold numS aftS;cases hk:okN st n
 ·simpa using zkP g st.r st.s n (znL hk) w h
 ·obtain⟨h1,h2⟩:=zg9 hk
  have h':Rd g st.r false w:=h1▸h;simpa using zkQ g st.r n hn h2 w h'
theorem zaW (st:RS) (n:Nat):numS st n<2 ^ (8*n):=by
 unfold numS;split
 ·exact zd9 _ _
 ·exact Nat.pow_pos (by decide)
theorem zha {fn:Func} {p:Tmp} (h:fn.results=#[.cell p 79]) (tmps:Array Value) (w:World) (g:Nat) (a b c d:Value) {t:TypeId} {fr:Nat × Nat}
  (hp:tmps.getD p undef=.pointer (some ⟨g,0,none⟩)) (hg:w.heap[g]? =some (.cells #[a,b,c,d] t fr)):(results fn tmps).run Tryz.prog w=.ok (.agg #[a,b,c,d]) w:=by
 have hp':tmps[p]?.getD undef=.pointer (some ⟨g,0,none⟩):=by simpa using hp
 have c0:w.cell? ⟨g,0,none⟩=some a:=by rw[zr hg];rfl
 have c1:w.cell? ⟨g,1,none⟩=some b:=by rw[zr hg];rfl
 have c2:w.cell? ⟨g,2,none⟩=some c:=by rw[zr hg];rfl
 have c3:w.cell? ⟨g,3,none⟩=some d:=by rw[zr hg];rfl
 simp[results,h,hp',asAddr,go_sem,c0,c1,c2,c3]
theorem zea {fn:Func} {p:Tmp} (h:fn.results=#[.cell p 49]) (tmps:Array Value) (w:World) (g:Nat) (a b:Value) {t:TypeId} {fr:Nat × Nat}
  (hp:tmps.getD p undef=.pointer (some ⟨g,0,none⟩)) (hg:w.heap[g]? =some (.cells #[a,b] t fr)):(results fn tmps).run Tryz.prog w=.ok (.agg #[a,b]) w:=by
 have hp':tmps[p]?.getD undef=.pointer (some ⟨g,0,none⟩):=by simpa using hp
 have c0:w.cell? ⟨g,0,none⟩=some a:=by rw[zr hg];rfl
 have c1:w.cell? ⟨g,1,none⟩=some b:=by rw[zr hg];rfl
 simp[results,h,hp',asAddr,go_sem,c0,c1]
def r1S (st:RS):RS:=aftS st 8
def r2S (st:RS):RS:=aftS (r1S st) 4
def r3S (st:RS):RS:=aftS (r2S st) 4
def r4S (st:RS):RS:=aftS (r3S st) 1
def rowS (st:RS):Rw:=⟨numS st 8,numS (r1S st) 4,numS (r2S st) 4,txtS (r4S st) (numS (r3S st) 1)⟩
def r5S (st:RS):RS:=aftS (r4S st) (numS (r3S st) 1)
theorem zoH (g:Nat) (st:RS) (w:World) (h:RdS g st w):
  Calls Tryz.prog 205 #[.pointer (some ⟨g,0,none⟩)] w fun e w'=>e=.returned (rv (rowS st))∧RdS g (r5S st) w'∧Bo g w w':=by
 have lg:g<w.heap.size:=(zi h).1;have hbn:=zaa w (.cells #[.int .u64 0,.int .u32 0,.int .u32 0,.string ⟨#[]⟩] 79);have HG0:Hid ((w.alloc (.cells #[.int .u64 0,.int .u32 0,.int .u32 0,.string ⟨#[]⟩] 79)).heap[w.heap.size]? =some (.cells #[.int .u64 0,.int .u32 0,.int .u32 0,.string ⟨#[]⟩] 79 (0,0))):=zq w _;have HR0:Hid (RdS g st (w.alloc (.cells #[.int .u64 0,.int .u32 0,.int .u32 0,.string ⟨#[]⟩] 79))):=(hbn.block _ lg).trans h;have HB0:Hid (Bo g w (w.alloc (.cells #[.int .u64 0,.int .u32 0,.int .u32 0,.string ⟨#[]⟩] 79))):=But.of_below hbn;have HNM:Hid _:=fun st n h1 w h=>zaD g st n h1 w h
 have HTX:Hid _:=fun st n w h=>zcz g st n w h
 have n1:=zaW (r1S st) 4;have n2:=zaW (r2S st) 4;have n3:=zaW (r3S st) 1;simp only[Nat.reduceMul,Nat.reducePow] at n1 n2 n3;unfold rowS;simp only[rv];obtain⟨i0,hi0⟩:∃ i0,numS st 8=i0:=⟨_,rfl⟩;obtain⟨x0,hx0⟩:∃ x0,numS (r1S st) 4=x0:=⟨_,rfl⟩;obtain⟨y0,hy0⟩:∃ y0,numS (r2S st) 4=y0:=⟨_,rfl⟩;obtain⟨z0,hz0⟩:∃ z0,numS (r3S st) 1=z0:=⟨_,rfl⟩;obtain⟨v0,hv0⟩:∃ v0,txtS (r4S st) z0=v0:=⟨_,rfl⟩;unfold r5S;rw[hx0] at n1;rw[hy0] at n2;rw[hz0] at n3;rw[hi0,hx0,hy0,hz0,hv0];have HQ:Hid (numS st 8=i0∧numS (r1S st) 4=x0∧numS (r2S st) 4=y0∧numS (r3S st) 1=z0∧txtS (r4S st) z0=v0):=⟨hi0,hx0,hy0,hz0,hv0⟩;have q1:IntKind.u32.wrap (x0:Int)=(x0:Int):=IntWalk.u32_in _ ⟨by omega,by omega⟩;have q2:IntKind.u32.wrap (y0:Int)=(y0:Int):=IntWalk.u32_in _ ⟨by omega,by omega⟩;have q3:IntKind.i64.wrap (z0:Int)=(z0:Int):=wrap_i64 (by omega) (by omega);have q4:(z0:Int)<256:=by omega
 clear h hbn hi0 hx0 hy0 hz0 hv0;obtain⟨W0,hW0⟩:∃ W0,w.alloc (.cells #[.int .u64 0,.int .u32 0,.int .u32 0,.string ⟨#[]⟩] 79)=W0:=⟨_,rfl⟩;have HW0:Hid _:=hW0;rw[hW0] at HG0 HR0 HB0;clear hW0;have hng:w.heap.size≠g:=by omega
 go_enter Tryz.func205,Tryz.ntmps205;go_wp2_with fail;rw[HW0.out];clear HW0;refine(HNM.out st 8 (by omega) W0 HR0.out).mono ?_;rintro e w1 ⟨rfl,r1,b1⟩;have HR1:Hid (RdS g (r1S st) w1):=r1;have HB1:Hid (Bo g w w1):=HB0.out.trans b1;have HG1:Hid (w1.heap[w.heap.size]? =some (.cells #[.int .u64 0,.int .u32 0,.int .u32 0,.string ⟨#[]⟩] 79 (0,0))):=(b1.block _ (zi HG0.out).1 hng).trans HG0.out;clear r1 b1 HR0 HB0 HG0;rw[HQ.out.1];go_wp2_with fail;refine(HNM.out (r1S st) 4 (by omega) w1 HR1.out).mono ?_;rintro e w2 ⟨rfl,r2,b2⟩;have HR2:Hid (RdS g (r2S st) w2):=r2;have HB2:Hid (Bo g w w2):=HB1.out.trans b2;have HG2:Hid (w2.heap[w.heap.size]? =some (.cells #[.int .u64 0,.int .u32 0,.int .u32 0,.string ⟨#[]⟩] 79 (0,0))):=(b2.block _ (zi HG1.out).1 hng).trans HG1.out;clear r2 b2 HR1 HB1 HG1;rw[HQ.out.2.1];go_wp2_with fail;refine(HNM.out (r2S st) 4 (by omega) w2 HR2.out).mono ?_;rintro e w3 ⟨rfl,r3,b3⟩
 have HR3:Hid (RdS g (r3S st) w3):=r3;have HB3:Hid (Bo g w w3):=HB2.out.trans b3;have HG3:Hid (w3.heap[w.heap.size]? =some (.cells #[.int .u64 0,.int .u32 0,.int .u32 0,.string ⟨#[]⟩] 79 (0,0))):=(b3.block _ (zi HG2.out).1 hng).trans HG2.out;clear r3 b3 HR2 HB2 HG2;rw[HQ.out.2.2.1];go_wp2_with fail;refine(HNM.out (r3S st) 1 (by omega) w3 HR3.out).mono ?_;rintro e w4 ⟨rfl,r4,b4⟩;have HR4:Hid (RdS g (r4S st) w4):=r4;have HB4:Hid (Bo g w w4):=HB3.out.trans b4;have HG4:Hid (w4.heap[w.heap.size]? =some (.cells #[.int .u64 0,.int .u32 0,.int .u32 0,.string ⟨#[]⟩] 79 (0,0))):=(b4.block _ (zi HG3.out).1 hng).trans HG3.out;clear r4 b4 HR3 HB3 HG3;rw[HQ.out.2.2.2.1];go_wp2_with fail;refine(HTX.out (r4S st) z0 w4 HR4.out).mono ?_;rintro e w5 ⟨rfl,r5,b5⟩;rw[HQ.out.2.2.2.2];have hg5:=(b5.block _ (zi HG4.out).1 hng).trans HG4.out;have l5:w.heap.size<w5.heap.size:=(zi hg5).1;obtain⟨⟨c0,c1,c2,c3⟩,-⟩:=zbE (id:=0) (x:=0) (y:=0) (by simpa using hg5)
 have fz:∀ k,w5.frozen? ⟨w.heap.size,k,none⟩=false:=fun k=>frozen_of_row w5 _ k _ _ hg5
 have f0:=fz 0;have f1:=fz 1;have f2:=fz 2;have f3:=fz 3;have HG5:Hid _:=hg5;have HE:Hid (RdS g (aftS (r4S st) z0) w5∧Bo g w w5):=⟨r5,HB4.out.trans b5⟩;clear r5 b5 hg5 fz HR4 HB4 HG4;have X1:=zx w5 w.heap.size 0 _ _ (.int .u64 (i0:Int)) HG5.out;have X2:=zx _ w.heap.size 1 _ _ (.int .u32 (x0:Int)) X1;have X3:=zx _ w.heap.size 2 _ _ (.int .u32 (y0:Int)) X2;have X4:=zx _ w.heap.size 3 _ _ (.string v0) X3;simp only[List.setIfInBounds_toArray,List.set_cons_zero,List.set_cons_succ] at X4;have HX:Hid _:=X4
 have hoth:∀ j,j≠w.heap.size→((((w5.setCell ⟨w.heap.size,0,none⟩ (.int .u64 (i0:Int))).setCell ⟨w.heap.size,1,none⟩ (.int .u32 (x0:Int))).setCell ⟨w.heap.size,2,none⟩ (.int .u32 (y0:Int))).setCell ⟨w.heap.size,3,none⟩ (.string v0)).heap[j]? =w5.heap[j]? :=fun j hj=>by
  rw[Below.heap_setCell _ _ _ _ (fun e=>hj e),Below.heap_setCell _ _ _ _ (fun e=>hj e),Below.heap_setCell _ _ _ _ (fun e=>hj e),Below.heap_setCell _ _ _ _ (fun e=>hj e)]
 have HO:Hid _:=hoth;clear X1 X2 X3 X4 hoth;go_wp2_with fail;refine bodyPost_ret (zha rfl _ _ w.heap.size _ _ _ _ rfl HX.out) rfl ⟨rfl,(HO.out g (by omega)).trans HE.out.1,?_⟩;have hb:=HE.out.2;exact⟨hb.os,hb.tape,hb.output,by have:=hb.size;simp[World.setCell];exact this,fun j hj hn=>(HO.out j (by omega)).trans (hb.block j hj hn)⟩
def isNo (p:Nat) (t:ByteArray):Bool:=decide (p=0)&&decide (t=zcn)
theorem zpP (p:Nat) (t:ByteArray) (w:World):(binOp .eql 49 (.agg #[.int .u32 (p:Int),.string t]) (.agg #[.int .u32 0,.string zcn])).run Tryz.prog w=.ok (.bool (isNo p t)) w:=by
 have hS:Tryz.prog.underlying 49=some (.struct (Tryz.prog.fieldsOf 49)):=by kernel_rfl
 have hp:Tryz.prog.stoodInHeld 49=false:=by kernel_rfl
 have u2:=Tryz.underlying41;have u9:=Tryz.underlying9;rw[run_eql_struct,show(10000:Nat)=9999+1 from rfl,run_equalIn_agg w 9999 49 _ _ hS hp];simp only[Program.fieldsOf,Tryz.underlying49];unfold isNo;obtain⟨nt,hnt⟩:∃ nt,zcn=nt:=⟨_,rfl⟩;rw[hnt];by_cases h1:p=0
 ·subst h1
  by_cases h2:t=nt
  ·subst h2
   go_simp
  ·go_simp
   intro e;rw[ByteArray.toList_eq,ByteArray.toList_eq] at e;apply h2;obtain⟨⟨a⟩⟩:=t;obtain⟨⟨b⟩⟩:=nt;have e':a=b:=e;rw[e']
 ·go_simp
def refS (st:RS):Rf:=if isNo (numS st 4) (txtS (aftS st 4) 32)=true then⟨0,⟨#[]⟩⟩ else⟨numS st 4,txtS (aftS st 4) 32⟩
def f2S (st:RS):RS:=aftS (aftS st 4) 32
theorem zkR (g:Nat) (st:RS) (w:World) (h:RdS g st w):
  Calls Tryz.prog 203 #[.pointer (some ⟨g,0,none⟩)] w fun e w'=>e=.returned (fcv (refS st))∧RdS g (f2S st) w'∧Bo g w w':=by
 have lg:g<w.heap.size:=(zi h).1;have hbn:=zaa w (.cells #[.int .u32 0,.string ⟨#[]⟩] 49);have HG0:Hid ((w.alloc (.cells #[.int .u32 0,.string ⟨#[]⟩] 49)).heap[w.heap.size]? =some (.cells #[.int .u32 0,.string ⟨#[]⟩] 49 (0,0))):=zq w _;have HR0:Hid (RdS g st (w.alloc (.cells #[.int .u32 0,.string ⟨#[]⟩] 49))):=(hbn.block _ lg).trans h;have HB0:Hid (Bo g w (w.alloc (.cells #[.int .u32 0,.string ⟨#[]⟩] 49))):=But.of_below hbn;have HNM:Hid _:=zaD g st 4 (by omega);have HTX:Hid _:=zcz g (aftS st 4) 32;have n1:=zaW st 4;simp only[Nat.reduceMul,Nat.reducePow] at n1;unfold refS f2S;obtain⟨p,hp⟩:∃ p,numS st 4=p:=⟨_,rfl⟩;obtain⟨t,ht⟩:∃ t,txtS (aftS st 4) 32=t:=⟨_,rfl⟩;rw[hp] at n1 HNM ⊢;rw[ht] at HTX ⊢;have heq:=zpP p t;have q1:IntKind.u32.wrap (p:Int)=(p:Int):=IntWalk.u32_in _ ⟨by omega,by omega⟩;clear h hbn hp ht;obtain⟨W0,hW0⟩:∃ W0,w.alloc (.cells #[.int .u32 0,.string ⟨#[]⟩] 49)=W0:=⟨_,rfl⟩
 have HW0:Hid _:=hW0;rw[hW0] at HG0 HR0 HB0;clear hW0;have hng:w.heap.size≠g:=by omega
 obtain⟨nb,hnb⟩:∃ nb,isNo p t=nb:=⟨_,rfl⟩;rw[hnb] at heq ⊢;clear hnb;simp only[zcn] at heq;go_enter Tryz.func203,Tryz.ntmps203;go_wp2_with fail;rw[HW0.out];clear HW0;refine(HNM.out W0 HR0.out).mono ?_;rintro e w1 ⟨rfl,r1,b1⟩;have HR1:Hid (RdS g (aftS st 4) w1):=r1;have HB1:Hid (Bo g w w1):=HB0.out.trans b1;have HG1:Hid (w1.heap[w.heap.size]? =some (.cells #[.int .u32 0,.string ⟨#[]⟩] 49 (0,0))):=(b1.block _ (zi HG0.out).1 hng).trans HG0.out;clear r1 b1 HR0 HB0 HG0;go_wp2_with fail;refine(HTX.out w1 HR1.out).mono ?_;rintro e w2 ⟨rfl,r2,b2⟩;have hg2:=(b2.block _ (zi HG1.out).1 hng).trans HG1.out;have l2:w.heap.size<w2.heap.size:=(zi hg2).1;have l2g:g<w2.heap.size:=(zi r2).1;have HR2:Hid (RdS g (aftS (aftS st 4) 32) w2):=r2;have HB2:Hid (Bo g w w2):=HB1.out.trans b2;have HG2:Hid (w2.heap[w.heap.size]? =some (.cells #[.int .u32 0,.string ⟨#[]⟩] 49 (0,0))):=hg2;have f0:w2.frozen? ⟨w.heap.size,0,none⟩=false:=frozen_of_row w2 _ 0 _ _ hg2
 have f1:w2.frozen? ⟨w.heap.size,1,none⟩=false:=frozen_of_row w2 _ 1 _ _ hg2;have d0:w2.cell? ⟨w.heap.size,0,none⟩=some (.int .u32 0):=by rw[zr hg2];rfl
 have d1:w2.cell? ⟨w.heap.size,1,none⟩=some (.string ⟨#[]⟩):=by rw[zr hg2];rfl
 clear r2 b2 hg2 HR1 HB1 HG1;cases nb
 ·simp only
  have X1:=zx w2 w.heap.size 0 _ _ (.int .u32 (p:Int)) HG2.out;have X2:=zx _ w.heap.size 1 _ _ (.string t) X1;simp only[List.setIfInBounds_toArray,List.set_cons_zero,List.set_cons_succ] at X2;obtain⟨W4,hW4⟩:∃ W4,((w2.setCell ⟨w.heap.size,0,none⟩ (.int .u32 (p:Int))).setCell ⟨w.heap.size,1,none⟩ (.string t))=W4:=⟨_,rfl⟩;have hs4:W4.heap.size=w2.heap.size:=by rw[←hW4];simp[World.setCell]
  have hoth:∀ j,j≠w.heap.size→W4.heap[j]? =w2.heap[j]? :=fun j hj=>by
   rw[←hW4,Below.heap_setCell _ _ _ _ (fun e=>hj e),Below.heap_setCell _ _ _ _ (fun e=>hj e)]
  rw[hW4] at X2;have hbx:=zaa W4 (.cells #[.int .u32 (p:Int),.string t] 49);have HX:Hid _:=(hbx.block _ (by omega)).trans X2;have HRf:Hid (RdS g (aftS (aftS st 4) 32) (W4.alloc (.cells #[.int .u32 (p:Int),.string t] 49))):=(hbx.block _ (by omega)).trans ((hoth g (by omega)).trans HR2.out)
  have HBf:Hid (Bo g w (W4.alloc (.cells #[.int .u32 (p:Int),.string t] 49))):=by
   have hb:=HB2.out;have ho:W4.os=w2.os∧W4.tape=w2.tape∧W4.output=w2.output:=by rw[←hW4];exact⟨rfl,rfl,rfl⟩
   have hsz:=hb.size;exact⟨hbx.os.trans (ho.1.trans hb.os),hbx.tape.trans (ho.2.1.trans hb.tape),hbx.output.trans (ho.2.2.trans hb.output),by have:=hbx.size;omega,fun j hj hn=>(hbx.block j (by omega)).trans ((hoth j (by omega)).trans (hb.block j hj hn))⟩
  have HW4:Hid _:=hW4;clear X1 X2 hoth hbx hs4 hW4;go_wp2_with fail;rw[HW4.out];exact bodyPost_ret (zea rfl _ _ w.heap.size _ _ rfl HX.out) rfl ⟨rfl,HRf.out,HBf.out⟩
 ·simp only
  have X1:=zx w2 w.heap.size 0 _ _ (.int .u32 0) HG2.out;have X2:=zx _ w.heap.size 1 _ _ (.string ⟨#[]⟩) X1;simp only[List.setIfInBounds_toArray,List.set_cons_zero,List.set_cons_succ] at X2;obtain⟨W4,hW4⟩:∃ W4,((w2.setCell ⟨w.heap.size,0,none⟩ (.int .u32 0)).setCell ⟨w.heap.size,1,none⟩ (.string ⟨#[]⟩))=W4:=⟨_,rfl⟩;have hs4:W4.heap.size=w2.heap.size:=by rw[←hW4];simp[World.setCell]
  have hoth:∀ j,j≠w.heap.size→W4.heap[j]? =w2.heap[j]? :=fun j hj=>by
   rw[←hW4,Below.heap_setCell _ _ _ _ (fun e=>hj e),Below.heap_setCell _ _ _ _ (fun e=>hj e)]
  rw[hW4] at X2;have hbx:=zaa W4 (.cells #[.int .u32 (p:Int),.string t] 49);have HX:Hid _:=(hbx.block _ (by omega)).trans X2;have HRf:Hid (RdS g (aftS (aftS st 4) 32) (W4.alloc (.cells #[.int .u32 (p:Int),.string t] 49))):=(hbx.block _ (by omega)).trans ((hoth g (by omega)).trans HR2.out)
  have HBf:Hid (Bo g w (W4.alloc (.cells #[.int .u32 (p:Int),.string t] 49))):=by
   have hb:=HB2.out;have ho:W4.os=w2.os∧W4.tape=w2.tape∧W4.output=w2.output:=by rw[←hW4];exact⟨rfl,rfl,rfl⟩
   have hsz:=hb.size;exact⟨hbx.os.trans (ho.1.trans hb.os),hbx.tape.trans (ho.2.1.trans hb.tape),hbx.output.trans (ho.2.2.trans hb.output),by have:=hbx.size;omega,fun j hj hn=>(hbx.block j (by omega)).trans ((hoth j (by omega)).trans (hb.block j hj hn))⟩
  have HW4:Hid _:=hW4;clear X1 X2 hoth hbx hs4 hW4;go_wp2_with fail;rw[HW4.out];exact bodyPost_ret (zea rfl _ _ w.heap.size _ _ rfl HX.out) rfl ⟨rfl,HRf.out,HBf.out⟩
def lstS {α:Type} (f:RS→α) (nx:RS→RS):Nat→RS→List α × RS
 |0,st=>([],st)
 |n+1,st=>if(nx st).s=true then([],nx st) else(f st::(lstS f nx n (nx st)).1,(lstS f nx n (nx st)).2)
theorem zdB {α:Type} {f:RS→α} {nx:RS→RS} {n:Nat} {st:RS} (h:(nx st).s=true):lstS f nx (n+1) st=([],nx st):=by rw[lstS,if_pos h]
theorem zh3 {α:Type} {f:RS→α} {nx:RS→RS} {n:Nat} {st:RS} (h:(nx st).s=false):lstS f nx (n+1) st=(f st::(lstS f nx n (nx st)).1,(lstS f nx n (nx st)).2):=by rw[lstS,if_neg (by rw[h];simp)]
theorem zf7 {W W':World} {base:Nat} {v:Value} {n:Nat} {xs:List Value} (h:W.ownsRow base 79 4 v n xs) (hs:∀ b,base≤b→b<W.heap.size→W'.heap[b]? =W.heap[b]?):W'.ownsRow base 79 4 v n xs:=by
 refine⟨h.1,?_⟩;rcases h.2 with h2|⟨g,cap,cur,h1,h2,h3,h4⟩
 ·exact .inl h2
 ·exact .inr ⟨g,cap,cur,h1,h2,(hs g h2 (zi h3).1).trans h3,h4⟩
theorem zf8 {W:World} {base:Nat} {v:Value} {n:Nat} {xs:List Value} (h:W.ownsRow base 79 4 v n xs) {b:Nat} (hb:v.ownBlock=some b):base≤b:=by
 rcases h.2 with⟨rfl,-⟩|⟨g,cap,cur,rfl,h2,h3,-⟩
 ·simp[Value.ownBlock] at hb
 ·simp[Value.ownBlock] at hb
  omega
theorem zmJ {w:World} {g:Nat} {r:Rw} {t:TypeId} {fr:Nat × Nat} (h:w.heap[g]? =some (.cells #[.int .u64 (r.id:Int),.int .u32 (r.x:Int),.int .u32 (r.y:Int),.string r.v] t fr)):Sl 4 w (some ⟨g,0,none⟩) 1 1 (rc r):=by
 refine⟨Nat.le_refl _,by decide,(fun e=>by cases e),rfl,fun _=>⟨g,0,rfl,(zi h).1,fun j u hu=>?_⟩⟩;rw[Nat.zero_add,zr h];have:j<4:=(List.getElem?_eq_some_iff.1 hu).1;obtain rfl|rfl|rfl|rfl:j=0∨j=1∨j=2∨j=3:=by omega
 all_goals exact hu
theorem zoI (r:Rw):∀ u∈rc r,u.oneCell'=true:=by
 intro u hu;simp[rc] at hu;rcases hu with rfl|rfl|rfl|rfl<;>rfl
abbrev rowF (g:Nat):Value:=.func (.func 205) #[.pointer (some ⟨g,0,none⟩)] #[]
theorem zhb (g:Nat) (st:RS) (c:Nat) (hc:c≤1000) (w:World) (h:RdS g st w):
  Calls Tryz.prog 204 #[.pointer (some ⟨g,0,none⟩),.int .u64 (c:Int),rowF g] w fun e w'=>∃ v,e=.returned v∧w'.ownsRow w.heap.size 79 4 v (lstS rowS r5S c st).1.length ((lstS rowS r5S c st).1.flatMap rc)∧RdS g (lstS rowS r5S c st).2 w'∧Bo g w w':=by
 have HR:Hid _:=zoH g;have H0:Hid (RdS g st w):=h;have lg:g<w.heap.size:=(zi h).1;obtain⟨L,hL⟩:∃ L,lstS rowS r5S c st=L:=⟨_,rfl⟩;have HLL:Hid (lstS rowS r5S c st=L):=hL;rw[hL];clear h hL;go_enter Tryz.func204,Tryz.ntmps204;go_wp2_with fail;refine wp_scope_straight ?_;go_wp2_with fail;refine wp_label ?_;go_wp2_with fail
 go_loopw [7,10] (fun lv iv wr=>∃ (i:Nat) (xs:List Rw) (si:RS),i≤c∧iv=.int .u64 (i:Int)∧xs.length=i∧L=(xs++(lstS rowS r5S (c - i) si).1,(lstS rowS r5S (c - i) si).2)∧wr.ownsRow w.heap.size 79 4 lv i (xs.flatMap rc)∧RdS g si wr∧Bo g w wr) (fun _ iv _=>c - zam iv)
 case atStart=>exact⟨0,[],st,Nat.zero_le _,rfl,rfl,by rw[←HLL.out];simp,World.ownsRow_nil _ _ _ _,H0.out,But.refl _ _⟩
 case round=>
  obtain⟨i,xs,si,hi,rfl,hxl,hLe,ho,hrd,hbo⟩:=hrel;have HO:Hid _:=ho;have HRD:Hid (RdS g si wr):=hrd;have HBO:Hid (Bo g w wr):=hbo;have HLE:Hid _:=hLe;have HXL:Hid (xs.length=i):=hxl;obtain⟨lo,lc,rfl,-⟩:=zai ho;clear ho hrd hbo hLe hxl;by_cases hlt:i<c
  ·have q1:(i:Int)<(c:Int):=by omega
   obtain⟨k,hk⟩:∃ k,c - i=k+1:=⟨c - i - 1,by omega⟩;have hk2:c - (i+1)=k:=by omega
   go_wp2_with fail;refine(HR.out si wr HRD.out).mono ?_;rintro e w1 ⟨rfl,r1,b1⟩;have hle:=HLE.out;rw[hk] at hle;obtain⟨⟨id,x,y,v⟩,hrw⟩:∃ r,rowS si=r:=⟨_,rfl⟩;rw[hrw];simp only[rv];have hbx:=zaa w1 (.cells #[.int .u64 (id:Int),.int .u32 (x:Int),.int .u32 (y:Int),.string v] 79);obtain⟨c0,c1,lg1,-,-⟩:=zb8 r1;obtain⟨⟨s0,s1,s2,s3⟩,lB⟩:=zbE (zq w1 (.cells #[.int .u64 (id:Int),.int .u32 (x:Int),.int .u32 (y:Int),.string v] 79));have HB1:Hid (Bo g w w1):=HBO.out.trans b1;have HB2:Hid (Bo g w (w1.alloc (.cells #[.int .u64 (id:Int),.int .u32 (x:Int),.int .u32 (y:Int),.string v] 79))):=HB1.out.trans (But.of_below hbx);have HR2:Hid (RdS g (r5S si) (w1.alloc (.cells #[.int .u64 (id:Int),.int .u32 (x:Int),.int .u32 (y:Int),.string v] 79))):=(hbx.block _ lg1).trans r1;have HO1:Hid ((w1.alloc (.cells #[.int .u64 (id:Int),.int .u32 (x:Int),.int .u32 (y:Int),.string v] 79)).ownsRow w.heap.size 79 4 (.slice lo i lc) i (xs.flatMap rc)):=zf7 HO.out fun b hb hlt=>(hbx.block b (Nat.lt_of_lt_of_le hlt b1.size)).trans (b1.block b hlt (by omega))
   cases hsh:(r5S si).s
   ·rw[hsh] at c1
    rw[zh3 hsh,hrw] at hle
    have HLE2:Hid (L=((xs++[⟨id,x,y,v⟩])++(lstS rowS r5S k (r5S si)).1,(lstS rowS r5S k (r5S si)).2)):=by
     refine(?_:L=_);rw[hle];simp
    obtain⟨W2,hW2⟩:∃ W2,w1.alloc (.cells #[.int .u64 (id:Int),.int .u32 (x:Int),.int .u32 (y:Int),.string v] 79)=W2:=⟨_,rfl⟩;have hsW:W2.heap.size=w1.heap.size+1:=by rw[←hW2];simp
    rw[hW2] at HB2 HR2 HO1;have hbn:=zaa W2 (.cells #[.int .u64 (id:Int),.int .u32 (x:Int),.int .u32 (y:Int),.string v] 79)
    obtain⟨v',W',hrun,a1,a2,a3⟩:=zaV 22 79 Tryz.underlying22 ze7 rfl (by decide) (by decide) (W2.alloc (.cells #[.int .u64 (id:Int),.int .u32 (x:Int),.int .u32 (y:Int),.string v] 79)) w.heap.size i 1 (.slice lo i lc) (some ⟨W2.heap.size,0,none⟩) 1
     (xs.flatMap rc) (rc ⟨id,x,y,v⟩) (zf7 HO1.out fun b _ hlt=>hbn.block b hlt) (by have:=HB2.out.size;simp;omega) (zmJ (r:=⟨id,x,y,v⟩) (zq W2 _)) (zoI _) (by omega)
    have hgl:g<W2.heap.size:=(zi HR2.out).1;have hgw:∀ j,j<w.heap.size→W'.heap[j]? =W2.heap[j]? :=fun j hj=>(a2.block j (by have:=HB2.out.size;simp;omega) (fun e=>by have:=zf8 HO1.out e.symm;omega)).trans (hbn.block j (by have:=HB2.out.size;omega))
    have HFIN:Hid (W'.ownsRow w.heap.size 79 4 v' (i+1) ((xs++[(⟨id,x,y,v⟩:Rw)]).flatMap rc)∧RdS g (r5S si) W'∧Bo g w W'):=by
     refine⟨?_,(hgw g lg).trans HR2.out,?_⟩
     ·rw[List.flatMap_append];simpa using a1
     ·have hb:=HB2.out
      exact⟨a2.os.trans (hbn.os.trans hb.os),a2.tape.trans (hbn.tape.trans hb.tape),a2.output.trans (hbn.output.trans hb.output),Nat.le_trans hb.size (Nat.le_trans hbn.size a2.size),fun j hj hn=>(hgw j hj).trans (hb.block j hj hn)⟩
    obtain⟨lo',lc',rfl,-⟩:=zai a1;rw[←hW2] at hrun;have hs3:(w1.alloc (.cells #[.int .u64 (id:Int),.int .u32 (x:Int),.int .u32 (y:Int),.string v] 79)).heap.size=w1.heap.size+1:=by simp
    rw[hs3] at hrun;have q2:(i:Int)+1≤18446744073709551615:=by omega
    clear r1 b1 hle hbx hbn a1 a2 a3 hgw hsW hs3 hW2 HB1 HB2 HR2 HO1
    go_wp2_with (at_builtin;refine zaq rfl 22 22 (.tmp 18) (.tmp 20) rfl (vs:=.slice lo i lc) (vx:=.slice (some ⟨w1.heap.size+1,0,none⟩) 1 1) rfl rfl hrun ?_)
    go_roundw
    case rel=>exact⟨i+1,xs++[⟨id,x,y,v⟩],r5S si,by omega,by go_num,by rw[List.length_append,HXL.out];rfl,by rw[hk2];exact HLE2.out,HFIN.out⟩
    case measure=>simp[zam];omega
   ·rw[hsh] at c1
    rw[zdB hsh] at hle
    have HE:Hid (L=(xs,r5S si)):=by
     refine(?_:L=(xs,r5S si));rw[hle];simp
    clear r1 b1 hle hbx;go_wp2_with fail
    first|go_ret|(simp only[Exit.noGoto];go_ret)
    rw[HE.out];exact⟨_,rfl,by rw[HXL.out];exact HO1.out,HR2.out,HB2.out⟩
  ·obtain rfl:i=c:=by omega
   have q1:¬(i:Int)<(i:Int):=by omega
   have HE:Hid (L=(xs,si)):=by
    refine(?_:L=(xs,si));have:=HLE.out;rw[Nat.sub_self] at this;simpa [lstS] using this
   go_wp2_with fail;go_ret;rw[HE.out];exact⟨_,rfl,by rw[HXL.out];exact HO.out,HRD.out,HBO.out⟩
theorem zhc:(Tryz.prog.info? 49).map (fun i=>(i.zero,i.size,i.bytes))=some (some (.agg #[.int .u32 0,.string ⟨#[]⟩]),2,24):=by kernel_rfl
theorem zf9 {W W':World} {base:Nat} {v:Value} {n:Nat} {xs:List Value} (h:W.ownsRow base 49 2 v n xs) (hs:∀ b,base≤b→b<W.heap.size→W'.heap[b]? =W.heap[b]?):W'.ownsRow base 49 2 v n xs:=by
 refine⟨h.1,?_⟩;rcases h.2 with h2|⟨g,cap,cur,h1,h2,h3,h4⟩
 ·exact .inl h2
 ·exact .inr ⟨g,cap,cur,h1,h2,(hs g h2 (zi h3).1).trans h3,h4⟩
theorem zga {W:World} {base:Nat} {v:Value} {n:Nat} {xs:List Value} (h:W.ownsRow base 49 2 v n xs) {b:Nat} (hb:v.ownBlock=some b):base≤b:=by
 rcases h.2 with⟨rfl,-⟩|⟨g,cap,cur,rfl,h2,h3,-⟩
 ·simp[Value.ownBlock] at hb
 ·simp[Value.ownBlock] at hb
  omega
theorem zmK {w:World} {g:Nat} {r:Rf} {ty:TypeId} {fr:Nat × Nat} (h:w.heap[g]? =some (.cells #[.int .u32 (r.p:Int),.string r.t] ty fr)):Sl 2 w (some ⟨g,0,none⟩) 1 1 (fc r):=by
 refine⟨Nat.le_refl _,by decide,(fun e=>by cases e),rfl,fun _=>⟨g,0,rfl,(zi h).1,fun j u hu=>?_⟩⟩;rw[Nat.zero_add,zr h];have:j<2:=(List.getElem?_eq_some_iff.1 hu).1;obtain rfl|rfl:j=0∨j=1:=by omega
 all_goals exact hu
theorem zoJ (r:Rf):∀ u∈fc r,u.oneCell'=true:=by
 intro u hu;simp[fc] at hu;rcases hu with rfl|rfl<;>rfl
abbrev refF (g:Nat):Value:=.func (.func 203) #[.pointer (some ⟨g,0,none⟩)] #[]
theorem zhd (g:Nat) (st:RS) (c:Nat) (hc:c≤1000) (w:World) (h:RdS g st w):
  Calls Tryz.prog 206 #[.pointer (some ⟨g,0,none⟩),.int .u64 (c:Int),refF g] w fun e w'=>∃ v,e=.returned v∧w'.ownsRow w.heap.size 49 2 v (lstS refS f2S c st).1.length ((lstS refS f2S c st).1.flatMap fc)∧RdS g (lstS refS f2S c st).2 w'∧Bo g w w':=by
 have HR:Hid _:=zkR g;have H0:Hid (RdS g st w):=h;have lg:g<w.heap.size:=(zi h).1;obtain⟨L,hL⟩:∃ L,lstS refS f2S c st=L:=⟨_,rfl⟩;have HLL:Hid (lstS refS f2S c st=L):=hL;rw[hL];clear h hL;go_enter Tryz.func206,Tryz.ntmps206;go_wp2_with fail;refine wp_scope_straight ?_;go_wp2_with fail;refine wp_label ?_;go_wp2_with fail
 go_loopw [7,10] (fun lv iv wr=>∃ (i:Nat) (xs:List Rf) (si:RS),i≤c∧iv=.int .u64 (i:Int)∧xs.length=i∧L=(xs++(lstS refS f2S (c - i) si).1,(lstS refS f2S (c - i) si).2)∧wr.ownsRow w.heap.size 49 2 lv i (xs.flatMap fc)∧RdS g si wr∧Bo g w wr) (fun _ iv _=>c - zam iv)
 case atStart=>exact⟨0,[],st,Nat.zero_le _,rfl,rfl,by rw[←HLL.out];simp,World.ownsRow_nil _ _ _ _,H0.out,But.refl _ _⟩
 case round=>
  obtain⟨i,xs,si,hi,rfl,hxl,hLe,ho,hrd,hbo⟩:=hrel;have HO:Hid _:=ho;have HRD:Hid (RdS g si wr):=hrd;have HBO:Hid (Bo g w wr):=hbo;have HLE:Hid _:=hLe;have HXL:Hid (xs.length=i):=hxl;obtain⟨lo,lc,rfl,-⟩:=zai ho;clear ho hrd hbo hLe hxl;by_cases hlt:i<c
  ·have q1:(i:Int)<(c:Int):=by omega
   obtain⟨k,hk⟩:∃ k,c - i=k+1:=⟨c - i - 1,by omega⟩;have hk2:c - (i+1)=k:=by omega
   go_wp2_with fail;refine(HR.out si wr HRD.out).mono ?_;rintro e w1 ⟨rfl,r1,b1⟩;have hle:=HLE.out;rw[hk] at hle;obtain⟨⟨p,t⟩,hrw⟩:∃ r,refS si=r:=⟨_,rfl⟩;rw[hrw];simp only[fcv];have hbx:=zaa w1 (.cells #[.int .u32 (p:Int),.string t] 49);obtain⟨c0,c1,lg1,-,-⟩:=zb8 r1;obtain⟨⟨s0,s1⟩,lB⟩:=zco (zq w1 (.cells #[.int .u32 (p:Int),.string t] 49));have HB1:Hid (Bo g w w1):=HBO.out.trans b1;have HB2:Hid (Bo g w (w1.alloc (.cells #[.int .u32 (p:Int),.string t] 49))):=HB1.out.trans (But.of_below hbx);have HR2:Hid (RdS g (f2S si) (w1.alloc (.cells #[.int .u32 (p:Int),.string t] 49))):=(hbx.block _ lg1).trans r1;have HO1:Hid ((w1.alloc (.cells #[.int .u32 (p:Int),.string t] 49)).ownsRow w.heap.size 49 2 (.slice lo i lc) i (xs.flatMap fc)):=zf9 HO.out fun b hb hlt=>(hbx.block b (Nat.lt_of_lt_of_le hlt b1.size)).trans (b1.block b hlt (by omega))
   cases hsh:(f2S si).s
   ·rw[hsh] at c1
    rw[zh3 hsh,hrw] at hle
    have HLE2:Hid (L=((xs++[⟨p,t⟩])++(lstS refS f2S k (f2S si)).1,(lstS refS f2S k (f2S si)).2)):=by
     refine(?_:L=_);rw[hle];simp
    obtain⟨W2,hW2⟩:∃ W2,w1.alloc (.cells #[.int .u32 (p:Int),.string t] 49)=W2:=⟨_,rfl⟩;have hsW:W2.heap.size=w1.heap.size+1:=by rw[←hW2];simp
    rw[hW2] at HB2 HR2 HO1;have hbn:=zaa W2 (.cells #[.int .u32 (p:Int),.string t] 49)
    obtain⟨v',W',hrun,a1,a2,a3⟩:=zaV 153 49 Tryz.underlying153 zhc rfl (by decide) (by decide) (W2.alloc (.cells #[.int .u32 (p:Int),.string t] 49)) w.heap.size i 1 (.slice lo i lc) (some ⟨W2.heap.size,0,none⟩) 1
     (xs.flatMap fc) (fc ⟨p,t⟩) (zf9 HO1.out fun b _ hlt=>hbn.block b hlt) (by have:=HB2.out.size;simp;omega) (zmK (r:=⟨p,t⟩) (zq W2 _)) (zoJ _) (by omega)
    have hgl:g<W2.heap.size:=(zi HR2.out).1;have hgw:∀ j,j<w.heap.size→W'.heap[j]? =W2.heap[j]? :=fun j hj=>(a2.block j (by have:=HB2.out.size;simp;omega) (fun e=>by have:=zga HO1.out e.symm;omega)).trans (hbn.block j (by have:=HB2.out.size;omega))
    have HFIN:Hid (W'.ownsRow w.heap.size 49 2 v' (i+1) ((xs++[(⟨p,t⟩:Rf)]).flatMap fc)∧RdS g (f2S si) W'∧Bo g w W'):=by
     refine⟨?_,(hgw g lg).trans HR2.out,?_⟩
     ·rw[List.flatMap_append];simpa using a1
     ·have hb:=HB2.out
      exact⟨a2.os.trans (hbn.os.trans hb.os),a2.tape.trans (hbn.tape.trans hb.tape),a2.output.trans (hbn.output.trans hb.output),Nat.le_trans hb.size (Nat.le_trans hbn.size a2.size),fun j hj hn=>(hgw j hj).trans (hb.block j hj hn)⟩
    obtain⟨lo',lc',rfl,-⟩:=zai a1;rw[←hW2] at hrun;have hs3:(w1.alloc (.cells #[.int .u32 (p:Int),.string t] 49)).heap.size=w1.heap.size+1:=by simp
    rw[hs3] at hrun;have q2:(i:Int)+1≤18446744073709551615:=by omega
    clear r1 b1 hle hbx hbn a1 a2 a3 hgw hsW hs3 hW2 HB1 HB2 HR2 HO1
    go_wp2_with (at_builtin;refine zaq rfl 153 153 (.tmp 18) (.tmp 20) rfl (vs:=.slice lo i lc) (vx:=.slice (some ⟨w1.heap.size+1,0,none⟩) 1 1) rfl rfl hrun ?_)
    go_roundw
    case rel=>exact⟨i+1,xs++[⟨p,t⟩],f2S si,by omega,by go_num,by rw[List.length_append,HXL.out];rfl,by rw[hk2];exact HLE2.out,HFIN.out⟩
    case measure=>simp[zam];omega
   ·rw[hsh] at c1
    rw[zdB hsh] at hle
    have HE:Hid (L=(xs,f2S si)):=by
     refine(?_:L=(xs,f2S si));rw[hle];simp
    clear r1 b1 hle hbx;go_wp2_with fail
    first|go_ret|(simp only[Exit.noGoto];go_ret)
    rw[HE.out];exact⟨_,rfl,by rw[HXL.out];exact HO1.out,HR2.out,HB2.out⟩
  ·obtain rfl:i=c:=by omega
   have q1:¬(i:Int)<(i:Int):=by omega
   have HE:Hid (L=(xs,si)):=by
    refine(?_:L=(xs,si));have:=HLE.out;rw[Nat.sub_self] at this;simpa [lstS] using this
   go_wp2_with fail;go_ret;rw[HE.out];exact⟨_,rfl,by rw[HXL.out];exact HO.out,HRD.out,HBO.out⟩
theorem zbp {fn:Func} {p:Tmp} (h:fn.results=#[.cell p 155]) (tmps:Array Value) (w:World) (g:Nat) (a b c d e f i j:Value) {t:TypeId} {fr:Nat × Nat}
  (hp:tmps.getD p undef=.pointer (some ⟨g,0,none⟩)) (hg:w.heap[g]? =some (.cells #[a,b,c,d,e,f,i,j] t fr)):(results fn tmps).run Tryz.prog w=.ok (.agg #[a,b,c,d,e,f,i,j]) w:=by
 have hp':tmps[p]?.getD undef=.pointer (some ⟨g,0,none⟩):=by simpa using hp
 have c0:w.cell? ⟨g,0,none⟩=some a:=by rw[zr hg];rfl
 have c1:w.cell? ⟨g,1,none⟩=some b:=by rw[zr hg];rfl
 have c2:w.cell? ⟨g,2,none⟩=some c:=by rw[zr hg];rfl
 have c3:w.cell? ⟨g,3,none⟩=some d:=by rw[zr hg];rfl
 have c4:w.cell? ⟨g,4,none⟩=some e:=by rw[zr hg];rfl
 have c5:w.cell? ⟨g,5,none⟩=some f:=by rw[zr hg];rfl
 have c6:w.cell? ⟨g,6,none⟩=some i:=by rw[zr hg];rfl
 have c7:w.cell? ⟨g,7,none⟩=some j:=by rw[zr hg];rfl
 simp[results,h,hp',asAddr,go_sem,c0,c1,c2,c3,c4,c5,c6,c7]
theorem zmL (w:World) (a:Addr) (v:Value):(w.setCell a v).os=w.os:=rfl
theorem zfl (w:World) (a:Addr) (v:Value):(w.setCell a v).tape=w.tape:=rfl
theorem zh4 (w:World) (a:Addr) (v:Value):(w.setCell a v).output=w.output:=rfl
theorem zfm (w:World) (a:Addr) (v:Value):(w.setCell a v).heap.size=w.heap.size:=by simp[World.setCell]
def QT (g p:Nat) (t:ByteArray) (w:World):Prop:=w.cell? ⟨g,0,none⟩=some (.int .u32 (p:Int))∧w.cell? ⟨g,1,none⟩=some (.string t)
theorem zgb {W W':World} {B base:Nat} {v:Value} {n:Nat} {xs:List Value} (hB:B≤base) (h:W.ownsRow base 79 4 v n xs) (hs:∀ b,base≤b→b<W.heap.size→W'.heap[b]? =W.heap[b]?):W'.ownsRow B 79 4 v n xs:=by
 refine⟨h.1,?_⟩;rcases h.2 with h2|⟨g,cap,cur,h1,h2,h3,h4⟩
 ·exact .inl h2
 ·exact .inr ⟨g,cap,cur,h1,Nat.le_trans hB h2,(hs g h2 (zi h3).1).trans h3,h4⟩
def lfN (st:RS):Rf:=refS (aftS st 1)
def lfL (st:RS):List Rw × RS:=lstS rowS r5S (numS st 1) (f2S (aftS st 1))
theorem zmM (g:Nat) (st:RS) (w:World) (h:RdS g st w):
  Calls Tryz.prog 164 #[.pointer (some ⟨g,0,none⟩)] w fun e w'=>∃ ro ca,e=.returned (gv ⟨1,0,0,0,ro,(lfL st).1.length,ca,none,0,0,(lfN st).p,(lfN st).t⟩)∧w'.ownsRow w.heap.size 79 4 (.slice ro (lfL st).1.length ca) (lfL st).1.length ((lfL st).1.flatMap rc)∧RdS g (lfL st).2 w'∧Bo g w w':=by
 have HNM:Hid _:=zaD g st 1 (by omega);have HRF:Hid _:=zkR g (aftS st 1);have n1:=zaW st 1;simp only[Nat.reduceMul,Nat.reducePow] at n1;have HLS:Hid _:=zhb g (f2S (aftS st 1)) (numS st 1) (by omega);have lg:g<w.heap.size:=(zi h).1;unfold lfL lfN;obtain⟨n,hn⟩:∃ n,numS st 1=n:=⟨_,rfl⟩;obtain⟨⟨p,t⟩,hf⟩:∃ f,refS (aftS st 1)=f:=⟨_,rfl⟩;obtain⟨l,hl⟩:∃ l,lstS rowS r5S n (f2S (aftS st 1))=l:=⟨_,rfl⟩;rw[hn] at n1 HNM HLS ⊢;rw[hf] at HRF ⊢;rw[hl] at HLS ⊢;have hbn:=zaa w (.cells #[.int .i64 0,.int .u32 0,.int .u32 0,.int .i64 0,.slice none 0 0,.slice none 0 0,.int .u32 0,.string ⟨#[]⟩] 155);have HG0:Hid ((w.alloc (.cells #[.int .i64 0,.int .u32 0,.int .u32 0,.int .i64 0,.slice none 0 0,.slice none 0 0,.int .u32 0,.string ⟨#[]⟩] 155)).heap[w.heap.size]? =some (.cells #[.int .i64 0,.int .u32 0,.int .u32 0,.int .i64 0,.slice none 0 0,.slice none 0 0,.int .u32 0,.string ⟨#[]⟩] 155 (0,0))):=zq w _
 have HR0:Hid (RdS g st (w.alloc (.cells #[.int .i64 0,.int .u32 0,.int .u32 0,.int .i64 0,.slice none 0 0,.slice none 0 0,.int .u32 0,.string ⟨#[]⟩] 155))):=(hbn.block _ lg).trans h;have HB0:Hid (Bo g w (w.alloc (.cells #[.int .i64 0,.int .u32 0,.int .u32 0,.int .i64 0,.slice none 0 0,.slice none 0 0,.int .u32 0,.string ⟨#[]⟩] 155))):=But.of_below hbn;clear h hbn hn hf hl;obtain⟨W0,hW0⟩:∃ W0,w.alloc (.cells #[.int .i64 0,.int .u32 0,.int .u32 0,.int .i64 0,.slice none 0 0,.slice none 0 0,.int .u32 0,.string ⟨#[]⟩] 155)=W0:=⟨_,rfl⟩;have HW0:Hid _:=hW0;rw[hW0] at HG0 HR0 HB0;clear hW0;have hng:w.heap.size≠g:=by omega
 go_enter Tryz.func164,Tryz.ntmps164;go_wp2_with fail;rw[HW0.out];clear HW0;refine(HNM.out W0 HR0.out).mono ?_;rintro e w1 ⟨rfl,r1,b1⟩;have HR1:Hid (RdS g (aftS st 1) w1):=r1;have HB1:Hid (Bo g w w1):=HB0.out.trans b1;have HG1:Hid (w1.heap[w.heap.size]? =some (.cells #[.int .i64 0,.int .u32 0,.int .u32 0,.int .i64 0,.slice none 0 0,.slice none 0 0,.int .u32 0,.string ⟨#[]⟩] 155 (0,0))):=(b1.block _ (zi HG0.out).1 hng).trans HG0.out;clear r1 b1 HR0 HB0 HG0;go_wp2_with fail;refine(HRF.out w1 HR1.out).mono ?_;rintro e w2 ⟨rfl,r2,b2⟩;simp only[fcv];have HR2:Hid (RdS g (f2S (aftS st 1)) w2):=r2;have HB2:Hid (Bo g w w2):=HB1.out.trans b2;have HG2:Hid (w2.heap[w.heap.size]? =some (.cells #[.int .i64 0,.int .u32 0,.int .u32 0,.int .i64 0,.slice none 0 0,.slice none 0 0,.int .u32 0,.string ⟨#[]⟩] 155 (0,0))):=(b2.block _ (zi HG1.out).1 hng).trans HG1.out;have l2:w.heap.size<w2.heap.size:=(zi HG2.out).1
 clear r2 b2 HR1 HB1 HG1;have hbx:=zaa w2 (.cells #[.int .u32 (p:Int),.string t] 49);have HR3:Hid (RdS g (f2S (aftS st 1)) (w2.alloc (.cells #[.int .u32 (p:Int),.string t] 49))):=(hbx.block _ (by omega)).trans HR2.out;have HB3:Hid (Bo g w (w2.alloc (.cells #[.int .u32 (p:Int),.string t] 49))):=HB2.out.trans (But.of_below hbx);have HG3:Hid ((w2.alloc (.cells #[.int .u32 (p:Int),.string t] 49)).heap[w.heap.size]? =some (.cells #[.int .i64 0,.int .u32 0,.int .u32 0,.int .i64 0,.slice none 0 0,.slice none 0 0,.int .u32 0,.string ⟨#[]⟩] 155 (0,0))):=(hbx.block _ (by omega)).trans HG2.out;have hq3:=zq w2 (.cells #[.int .u32 (p:Int),.string t] 49);obtain⟨⟨s0,s1⟩,-⟩:=zco hq3;have HQ3:Hid _:=hq3;clear HR2 HB2 HG2 hbx hq3;go_wp2_with fail;obtain⟨W3,hW3⟩:∃ W3,w2.alloc (.cells #[.int .u32 (p:Int),.string t] 49)=W3:=⟨_,rfl⟩;have hs3:W3.heap.size=w2.heap.size+1:=by rw[←hW3];simp
 rw[hW3] at HR3 HB3 HG3 HQ3 ⊢;have HSW:Hid (QT w2.heap.size p t W3.drew):=(zco HQ3.out).1;refine wp_region_held (S:=QT w2.heap.size p t) (by kernel_rfl) ?_;change wpAnyH _ _ _ _ _ _ _ _ (World.drew _);refine plan [0,1,2,3,4] ?_
 iterate 5
  refine tkH (v:=?_) rfl ?_ HSW.out ?_;rotate_left
  ·rintro w ⟨e0,e1⟩;go_simp;try with_reducible rfl
  conv in(Act.put _ _ _)=>simp only[zL1,zL2,zL3,Act.put,zL4,zL5,zL6]
 refine plan0 ?_;refine zar 5 _ (by kernel_rfl) rfl (by kernel_rfl) (fun K hK=>?_);go_simp;refine(HLS.out W3.drew HR3.out).mono ?_;rintro e w4 ⟨v,rfl,o4,r4,b4⟩;obtain⟨ro,ca,rfl,-⟩:=zai o4;have hg4:=(b4.block _ (zi HG3.out).1 hng).trans HG3.out;have hq4:=(b4.block _ (zi HQ3.out).1 (by omega)).trans HQ3.out;obtain⟨⟨u0,u1⟩,lq⟩:=zco hq4;have HE:Hid (w4.ownsRow W3.heap.size 79 4 (.slice ro l.1.length ca) l.1.length (l.1.flatMap rc)∧RdS g l.2 w4∧Bo g w w4):=⟨o4,r4,HB3.out.trans ((But.of_below (Below.refl _ W3).drew).trans b4)⟩;have l4:w.heap.size<w4.heap.size:=(zi hg4).1;have fz:∀ k,w4.frozen? ⟨w.heap.size,k,none⟩=false:=fun k=>frozen_of_row w4 _ k _ _ hg4
 have f0:=fz 0;have f1:=fz 1;have f2:=fz 2;have f3:=fz 3;have f4:=fz 4;have f5:=fz 5;have f6:=fz 6;have f7:=fz 7;have c0:w4.cell? ⟨w.heap.size,0,none⟩=some (.int .i64 0):=by rw[zr hg4];rfl
 have c1:w4.cell? ⟨w.heap.size,1,none⟩=some (.int .u32 0):=by rw[zr hg4];rfl
 have c2:w4.cell? ⟨w.heap.size,2,none⟩=some (.int .u32 0):=by rw[zr hg4];rfl
 have c3:w4.cell? ⟨w.heap.size,3,none⟩=some (.int .i64 0):=by rw[zr hg4];rfl
 have c4:w4.cell? ⟨w.heap.size,4,none⟩=some (.slice none 0 0):=by rw[zr hg4];rfl
 have c5:w4.cell? ⟨w.heap.size,5,none⟩=some (.slice none 0 0):=by rw[zr hg4];rfl
 have c6:w4.cell? ⟨w.heap.size,6,none⟩=some (.int .u32 0):=by rw[zr hg4];rfl
 have c7:w4.cell? ⟨w.heap.size,7,none⟩=some (.string ⟨#[]⟩):=by rw[zr hg4];rfl
 have HG4:Hid _:=hg4;have HQ4:Hid _:=hq4
 replace HSW:Hid (QT w2.heap.size p t w4):=⟨u0,u1⟩
 refine hK _ _ HSW.out ?_;clear hK K;refine plan [6] ?_;refine tkH (v:=?_) rfl ?_ HSW.out ?_;rotate_left
 ·rintro w ⟨e0,e1⟩;go_simp;try with_reducible rfl
 conv in(Act.put _ _ _)=>simp only[zL1,zL2,zL3,Act.put,zL4,zL5,zL6]
 refine plan0 ?_;refine zar 7 _ (by kernel_rfl) rfl (by kernel_rfl) (fun K hK=>?_);clear r4 b4 o4 hg4 hq4 fz HR3 HB3 HG3 HQ3;have X1:=zx w4 w.heap.size 0 _ _ (.int .i64 1) HG4.out;have X2:=zx _ w.heap.size 1 _ _ (.int .u32 0) X1;have X3:=zx _ w.heap.size 2 _ _ (.int .u32 0) X2;have X4:=zx _ w.heap.size 3 _ _ (.int .i64 0) X3;have X5:=zx _ w.heap.size 4 _ _ (.slice ro l.1.length ca) X4;have X6:=zx _ w.heap.size 5 _ _ (.slice none 0 0) X5;have X7:=zx _ w.heap.size 6 _ _ (.int .u32 (p:Int)) X6;have X8:=zx _ w.heap.size 7 _ _ (.string t) X7;simp only[List.setIfInBounds_toArray,List.set_cons_zero,List.set_cons_succ] at X8;have HX:Hid _:=X8
 have hoth:∀ j,j≠w.heap.size→(((((((((w4.setCell ⟨w.heap.size,0,none⟩ (.int .i64 1)).setCell ⟨w.heap.size,1,none⟩ (.int .u32 0)).setCell ⟨w.heap.size,2,none⟩ (.int .u32 0)).setCell ⟨w.heap.size,3,none⟩ (.int .i64 0)).setCell ⟨w.heap.size,4,none⟩ (.slice ro l.1.length ca)).setCell ⟨w.heap.size,5,none⟩ (.slice none 0 0)).setCell ⟨w.heap.size,6,none⟩ (.int .u32 (p:Int))).setCell ⟨w.heap.size,7,none⟩ (.string t))).heap[j]? =w4.heap[j]? :=fun j hj=>by
  rw[Below.heap_setCell _ _ _ _ (fun e=>hj e),Below.heap_setCell _ _ _ _ (fun e=>hj e),Below.heap_setCell _ _ _ _ (fun e=>hj e),Below.heap_setCell _ _ _ _ (fun e=>hj e),Below.heap_setCell _ _ _ _ (fun e=>hj e),Below.heap_setCell _ _ _ _ (fun e=>hj e),Below.heap_setCell _ _ _ _ (fun e=>hj e),Below.heap_setCell _ _ _ _ (fun e=>hj e)]
 have HO:Hid _:=hoth;clear X1 X2 X3 X4 X5 X6 X7 X8 hoth;go_simp;refine hK _ _ (zco ((HO.out w2.heap.size (by omega)).trans HQ4.out)).1 ?_;refine wpAnyH_done (by kernel_rfl) ?_ _;go_wp2_with fail;refine bodyPost_ret (zbp rfl _ _ w.heap.size _ _ _ _ _ _ _ _ rfl HX.out) rfl ⟨ro,ca,rfl,?_,(HO.out g (by omega)).trans HE.out.2.1,?_⟩
 ·exact zgb (by omega) HE.out.1 fun b h1 h2=>HO.out b (by omega)
 ·have hb:=HE.out.2.2
  exact⟨by simp only[zmL];exact hb.os,by simp only[zfl];exact hb.tape,by simp only[zh4];exact hb.output,by simp only[zfm];exact hb.size,fun j hj hn=>(HO.out j (by omega)).trans (hb.block j hj hn)⟩
theorem zgc {W W':World} {B base:Nat} {v:Value} {n:Nat} {xs:List Value} (hB:B≤base) (h:W.ownsRow base 49 2 v n xs) (hs:∀ b,base≤b→b<W.heap.size→W'.heap[b]? =W.heap[b]?):W'.ownsRow B 49 2 v n xs:=by
 refine⟨h.1,?_⟩;rcases h.2 with h2|⟨g,cap,cur,h1,h2,h3,h4⟩
 ·exact .inl h2
 ·exact .inr ⟨g,cap,cur,h1,Nat.le_trans hB h2,(hs g h2 (zi h3).1).trans h3,h4⟩
def QC (g x y l:Nat) (w:World):Prop:=w.cell? ⟨g,0,none⟩=some (.int .u32 (x:Int))∧w.cell? ⟨g,1,none⟩=some (.int .u32 (y:Int))∧w.cell? ⟨g,2,none⟩=some (.int .i64 (l:Int))
theorem zoK {g x y l:Nat} {w:World} {t:TypeId} (h:w.heap[g]? =some (.cells #[.int .u32 (x:Int),.int .u32 (y:Int),.int .i64 (l:Int)] t (0,0))):QC g x y l w:=by
 refine⟨?_,?_,?_⟩<;>(rw[zr h];rfl)
def inC (st:RS):Nat:=numS (aftS st 1) 1
def inX (st:RS):Nat:=numS (aftS (aftS st 1) 1) 4
def inY (st:RS):Nat:=numS (aftS (aftS (aftS st 1) 1) 4) 4
def inL (st:RS):List Rf × RS:=lstS refS f2S (numS st 1) (aftS (aftS (aftS (aftS st 1) 1) 4) 4)
theorem zkS (g:Nat) (st:RS) (w:World) (h:RdS g st w):
  Calls Tryz.prog 165 #[.pointer (some ⟨g,0,none⟩)] w fun e w'=>∃ ro ca,e=.returned (gv ⟨2,inX st,inY st,(inC st:Int),none,0,0,ro,(inL st).1.length,ca,0,⟨#[]⟩⟩)∧w'.ownsRow w.heap.size 49 2 (.slice ro (inL st).1.length ca) (inL st).1.length ((inL st).1.flatMap fc)∧RdS g (inL st).2 w'∧Bo g w w':=by
 have HN1:Hid _:=zaD g st 1 (by omega);have HN2:Hid _:=zaD g (aftS st 1) 1 (by omega);have HN3:Hid _:=zaD g (aftS (aftS st 1) 1) 4 (by omega);have HN4:Hid _:=zaD g (aftS (aftS (aftS st 1) 1) 4) 4 (by omega);have n1:=zaW st 1;have n2:=zaW (aftS st 1) 1;have n3:=zaW (aftS (aftS st 1) 1) 4;have n4:=zaW (aftS (aftS (aftS st 1) 1) 4) 4;simp only[Nat.reduceMul,Nat.reducePow] at n1 n2 n3 n4;have HLS:Hid _:=zhd g (aftS (aftS (aftS (aftS st 1) 1) 4) 4) (numS st 1) (by omega);have lg:g<w.heap.size:=(zi h).1;unfold inL inC inX inY;obtain⟨n,hn⟩:∃ n,numS st 1=n:=⟨_,rfl⟩;obtain⟨l,hl⟩:∃ l,numS (aftS st 1) 1=l:=⟨_,rfl⟩;obtain⟨x,hx⟩:∃ x,numS (aftS (aftS st 1) 1) 4=x:=⟨_,rfl⟩;obtain⟨y,hy⟩:∃ y,numS (aftS (aftS (aftS st 1) 1) 4) 4=y:=⟨_,rfl⟩;obtain⟨L,hL⟩:∃ L,lstS refS f2S n (aftS (aftS (aftS (aftS st 1) 1) 4) 4)=L:=⟨_,rfl⟩;rw[hn] at n1 HN1 HLS ⊢;rw[hl] at n2 HN2 ⊢
 rw[hx] at n3 HN3 ⊢;rw[hy] at n4 HN4 ⊢;rw[hL] at HLS ⊢;have q1:IntKind.u32.wrap (x:Int)=(x:Int):=IntWalk.u32_in _ ⟨by omega,by omega⟩;have q2:IntKind.u32.wrap (y:Int)=(y:Int):=IntWalk.u32_in _ ⟨by omega,by omega⟩;have q3:IntKind.i64.wrap (l:Int)=(l:Int):=wrap_i64 (by omega) (by omega);have hbn:=zaa w (.cells #[.int .i64 0,.int .u32 0,.int .u32 0,.int .i64 0,.slice none 0 0,.slice none 0 0,.int .u32 0,.string ⟨#[]⟩] 155);have HG0:Hid ((w.alloc (.cells #[.int .i64 0,.int .u32 0,.int .u32 0,.int .i64 0,.slice none 0 0,.slice none 0 0,.int .u32 0,.string ⟨#[]⟩] 155)).heap[w.heap.size]? =some (.cells #[.int .i64 0,.int .u32 0,.int .u32 0,.int .i64 0,.slice none 0 0,.slice none 0 0,.int .u32 0,.string ⟨#[]⟩] 155 (0,0))):=zq w _;have HR0:Hid (RdS g st (w.alloc (.cells #[.int .i64 0,.int .u32 0,.int .u32 0,.int .i64 0,.slice none 0 0,.slice none 0 0,.int .u32 0,.string ⟨#[]⟩] 155))):=(hbn.block _ lg).trans h
 have HB0:Hid (Bo g w (w.alloc (.cells #[.int .i64 0,.int .u32 0,.int .u32 0,.int .i64 0,.slice none 0 0,.slice none 0 0,.int .u32 0,.string ⟨#[]⟩] 155))):=But.of_below hbn;clear h hbn hn hl hx hy hL;obtain⟨W0,hW0⟩:∃ W0,w.alloc (.cells #[.int .i64 0,.int .u32 0,.int .u32 0,.int .i64 0,.slice none 0 0,.slice none 0 0,.int .u32 0,.string ⟨#[]⟩] 155)=W0:=⟨_,rfl⟩;have HW0:Hid _:=hW0;rw[hW0] at HG0 HR0 HB0;clear hW0;have hng:w.heap.size≠g:=by omega
 go_enter Tryz.func165,Tryz.ntmps165;go_wp2_with fail;rw[HW0.out];clear HW0;refine(HN1.out W0 HR0.out).mono ?_;rintro e w1 ⟨rfl,r1,b1⟩;have HR1:Hid (RdS g (aftS st 1) w1):=r1;have HB1:Hid (Bo g w w1):=HB0.out.trans b1;have HG1:Hid (w1.heap[w.heap.size]? =some (.cells #[.int .i64 0,.int .u32 0,.int .u32 0,.int .i64 0,.slice none 0 0,.slice none 0 0,.int .u32 0,.string ⟨#[]⟩] 155 (0,0))):=(b1.block _ (zi HG0.out).1 hng).trans HG0.out;clear r1 b1 HR0 HB0 HG0;go_wp2_with fail;refine(HN2.out w1 HR1.out).mono ?_;rintro e w2 ⟨rfl,r1,b1⟩;have HR2:Hid (RdS g (aftS (aftS st 1) 1) w2):=r1;have HB2:Hid (Bo g w w2):=HB1.out.trans b1;have HG2:Hid (w2.heap[w.heap.size]? =some (.cells #[.int .i64 0,.int .u32 0,.int .u32 0,.int .i64 0,.slice none 0 0,.slice none 0 0,.int .u32 0,.string ⟨#[]⟩] 155 (0,0))):=(b1.block _ (zi HG1.out).1 hng).trans HG1.out;clear r1 b1 HR1 HB1 HG1;go_wp2_with fail;refine(HN3.out w2 HR2.out).mono ?_
 rintro e w3 ⟨rfl,r1,b1⟩;have HR3:Hid (RdS g (aftS (aftS (aftS st 1) 1) 4) w3):=r1;have HB3:Hid (Bo g w w3):=HB2.out.trans b1;have HG3:Hid (w3.heap[w.heap.size]? =some (.cells #[.int .i64 0,.int .u32 0,.int .u32 0,.int .i64 0,.slice none 0 0,.slice none 0 0,.int .u32 0,.string ⟨#[]⟩] 155 (0,0))):=(b1.block _ (zi HG2.out).1 hng).trans HG2.out;clear r1 b1 HR2 HB2 HG2;go_wp2_with fail;refine(HN4.out w3 HR3.out).mono ?_;rintro e w4 ⟨rfl,r1,b1⟩;have HR4:Hid (RdS g (aftS (aftS (aftS (aftS st 1) 1) 4) 4) w4):=r1;have HB4:Hid (Bo g w w4):=HB3.out.trans b1;have HG4:Hid (w4.heap[w.heap.size]? =some (.cells #[.int .i64 0,.int .u32 0,.int .u32 0,.int .i64 0,.slice none 0 0,.slice none 0 0,.int .u32 0,.string ⟨#[]⟩] 155 (0,0))):=(b1.block _ (zi HG3.out).1 hng).trans HG3.out;clear r1 b1 HR3 HB3 HG3;have l4:w.heap.size<w4.heap.size:=(zi HG4.out).1;have hbx:=zaa w4 (.cells #[.int .u32 (x:Int),.int .u32 (y:Int),.int .i64 (l:Int)] 70)
 have HR5:Hid (RdS g (aftS (aftS (aftS (aftS st 1) 1) 4) 4) (w4.alloc (.cells #[.int .u32 (x:Int),.int .u32 (y:Int),.int .i64 (l:Int)] 70))):=(hbx.block _ (by omega)).trans HR4.out;have HB5:Hid (Bo g w (w4.alloc (.cells #[.int .u32 (x:Int),.int .u32 (y:Int),.int .i64 (l:Int)] 70))):=HB4.out.trans (But.of_below hbx);have HG5:Hid ((w4.alloc (.cells #[.int .u32 (x:Int),.int .u32 (y:Int),.int .i64 (l:Int)] 70)).heap[w.heap.size]? =some (.cells #[.int .i64 0,.int .u32 0,.int .u32 0,.int .i64 0,.slice none 0 0,.slice none 0 0,.int .u32 0,.string ⟨#[]⟩] 155 (0,0))):=(hbx.block _ (by omega)).trans HG4.out;have hq5:=zq w4 (.cells #[.int .u32 (x:Int),.int .u32 (y:Int),.int .i64 (l:Int)] 70);have HQ5:Hid _:=hq5;clear HR4 HB4 HG4 hbx hq5;go_wp2_with fail;obtain⟨W5,hW5⟩:∃ W5,w4.alloc (.cells #[.int .u32 (x:Int),.int .u32 (y:Int),.int .i64 (l:Int)] 70)=W5:=⟨_,rfl⟩;have hs5:W5.heap.size=w4.heap.size+1:=by rw[←hW5];simp
 rw[hW5] at HR5 HB5 HG5 HQ5 ⊢;have HSW:Hid (QC w4.heap.size x y l W5.drew):=zoK HQ5.out;refine wp_region_held (S:=QC w4.heap.size x y l) (by kernel_rfl) ?_;change wpAnyH _ _ _ _ _ _ _ _ (World.drew _);refine plan [0,1,2,3,4] ?_
 iterate 5
  refine tkH (v:=?_) rfl ?_ HSW.out ?_;rotate_left
  ·rintro w ⟨e0,e1,e2⟩;go_simp;try with_reducible rfl
  conv in(Act.put _ _ _)=>simp only[zL1,zL2,zL3,Act.put,zL4,zL5,zL6]
 refine plan0 ?_;refine zar 5 _ (by kernel_rfl) rfl (by kernel_rfl) (fun K hK=>?_);go_simp;refine(HLS.out W5.drew HR5.out).mono ?_;rintro e w6 ⟨v,rfl,o6,r6,b6⟩;obtain⟨ro,ca,rfl,-⟩:=zai o6;have hg6:=(b6.block _ (zi HG5.out).1 hng).trans HG5.out;have hq6:=(b6.block _ (zi HQ5.out).1 (by omega)).trans HQ5.out;have HE:Hid (w6.ownsRow W5.heap.size 49 2 (.slice ro L.1.length ca) L.1.length (L.1.flatMap fc)∧RdS g L.2 w6∧Bo g w w6):=⟨o6,r6,HB5.out.trans ((But.of_below (Below.refl _ W5).drew).trans b6)⟩;have l6:w.heap.size<w6.heap.size:=(zi hg6).1;have fz:∀ k,w6.frozen? ⟨w.heap.size,k,none⟩=false:=fun k=>frozen_of_row w6 _ k _ _ hg6
 have f0:=fz 0;have f1:=fz 1;have f2:=fz 2;have f3:=fz 3;have f4:=fz 4;have f5:=fz 5;have f6:=fz 6;have f7:=fz 7;have c0:w6.cell? ⟨w.heap.size,0,none⟩=some (.int .i64 0):=by rw[zr hg6];rfl
 have c1:w6.cell? ⟨w.heap.size,1,none⟩=some (.int .u32 0):=by rw[zr hg6];rfl
 have c2:w6.cell? ⟨w.heap.size,2,none⟩=some (.int .u32 0):=by rw[zr hg6];rfl
 have c3:w6.cell? ⟨w.heap.size,3,none⟩=some (.int .i64 0):=by rw[zr hg6];rfl
 have c4:w6.cell? ⟨w.heap.size,4,none⟩=some (.slice none 0 0):=by rw[zr hg6];rfl
 have c5:w6.cell? ⟨w.heap.size,5,none⟩=some (.slice none 0 0):=by rw[zr hg6];rfl
 have c6:w6.cell? ⟨w.heap.size,6,none⟩=some (.int .u32 0):=by rw[zr hg6];rfl
 have c7:w6.cell? ⟨w.heap.size,7,none⟩=some (.string ⟨#[]⟩):=by rw[zr hg6];rfl
 have HG6:Hid _:=hg6;have HQ6:Hid _:=hq6
 replace HSW:Hid (QC w4.heap.size x y l w6):=zoK hq6
 refine hK _ _ HSW.out ?_;clear hK K;refine plan [6] ?_;refine tkH (v:=?_) rfl ?_ HSW.out ?_;rotate_left
 ·rintro w ⟨e0,e1,e2⟩;go_simp;try with_reducible rfl
 conv in(Act.put _ _ _)=>simp only[zL1,zL2,zL3,Act.put,zL4,zL5,zL6]
 refine plan0 ?_;refine zar 7 _ (by kernel_rfl) rfl (by kernel_rfl) (fun K hK=>?_);clear r6 b6 o6 hg6 hq6 fz HR5 HB5 HG5 HQ5;have X1:=zx w6 w.heap.size 0 _ _ (.int .i64 2) HG6.out;have X2:=zx _ w.heap.size 1 _ _ (.int .u32 (x:Int)) X1;have X3:=zx _ w.heap.size 2 _ _ (.int .u32 (y:Int)) X2;have X4:=zx _ w.heap.size 3 _ _ (.int .i64 (l:Int)) X3;have X5:=zx _ w.heap.size 4 _ _ (.slice none 0 0) X4;have X6:=zx _ w.heap.size 5 _ _ (.slice ro L.1.length ca) X5;have X7:=zx _ w.heap.size 6 _ _ (.int .u32 0) X6;have X8:=zx _ w.heap.size 7 _ _ (.string ⟨#[]⟩) X7;simp only[List.setIfInBounds_toArray,List.set_cons_zero,List.set_cons_succ] at X8;have HX:Hid _:=X8
 have hoth:∀ j,j≠w.heap.size→(((((((((w6.setCell ⟨w.heap.size,0,none⟩ (.int .i64 2)).setCell ⟨w.heap.size,1,none⟩ (.int .u32 (x:Int))).setCell ⟨w.heap.size,2,none⟩ (.int .u32 (y:Int))).setCell ⟨w.heap.size,3,none⟩ (.int .i64 (l:Int))).setCell ⟨w.heap.size,4,none⟩ (.slice none 0 0)).setCell ⟨w.heap.size,5,none⟩ (.slice ro L.1.length ca)).setCell ⟨w.heap.size,6,none⟩ (.int .u32 0)).setCell ⟨w.heap.size,7,none⟩ (.string ⟨#[]⟩))).heap[j]? =w6.heap[j]? :=fun j hj=>by
  rw[Below.heap_setCell _ _ _ _ (fun e=>hj e),Below.heap_setCell _ _ _ _ (fun e=>hj e),Below.heap_setCell _ _ _ _ (fun e=>hj e),Below.heap_setCell _ _ _ _ (fun e=>hj e),Below.heap_setCell _ _ _ _ (fun e=>hj e),Below.heap_setCell _ _ _ _ (fun e=>hj e),Below.heap_setCell _ _ _ _ (fun e=>hj e),Below.heap_setCell _ _ _ _ (fun e=>hj e)]
 have HO:Hid _:=hoth;clear X1 X2 X3 X4 X5 X6 X7 X8 hoth;go_simp;refine hK _ _ (zoK ((HO.out w4.heap.size (by omega)).trans HQ6.out)) ?_;refine wpAnyH_done (by kernel_rfl) ?_ _;go_wp2_with fail;refine bodyPost_ret (zbp rfl _ _ w.heap.size _ _ _ _ _ _ _ _ rfl HX.out) rfl ⟨ro,ca,rfl,?_,(HO.out g (by omega)).trans HE.out.2.1,?_⟩
 ·exact zgc (by omega) HE.out.1 fun b h1 h2=>HO.out b (by omega)
 ·have hb:=HE.out.2.2
  exact⟨by simp only[zmL];exact hb.os,by simp only[zfl];exact hb.tape,by simp only[zh4];exact hb.output,by simp only[zfm];exact hb.size,fun j hj hn=>(HO.out j (by omega)).trans (hb.block j hj hn)⟩
end Rw
end Go.Proofs.YtokfnghckpgjmaaGreatDoor
