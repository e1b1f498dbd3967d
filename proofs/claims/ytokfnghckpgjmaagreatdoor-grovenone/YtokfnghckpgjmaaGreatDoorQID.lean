/- A number's bytes are put, the least first. -/
import Derived.Test.YtokfnghckpgjmaaGreatDoorQIA
import Derived.Sort.LoopGhostIn
import Derived.Test.YtokfnghckpgjmaaGreatDoorPPn
set_option maxRecDepth 100000
set_option maxHeartbeats 4000000
namespace Go.Proofs.YtokfnghckpgjmaaGreatDoor
namespace Rw
open Go.RowKit Go.Lib Go.Shelf
open Rc Rq
attribute [local go_sem] Oper.semAt_some
theorem zbY {F:Fence} {n:Nat} {P:Program} {o:Oper} {a:Act} {w:World} {K:Act→World→Prop} {Q:Exit→Act→World→Prop} (l:Nat) (hd:∀ c,o.op≠ .defer c) (h:o.wpIn F n P a w K Q):o.wpIn (F.inRound l) n P a w K Q:=by
 unfold Oper.wpIn at h ⊢;refine⟨h.1,?_⟩;have h2:=h.2;rw[Oper.semAt_plain F _ _ hd] at h2;rw[Oper.semAt_plain (F.inRound l) _ _ hd];exact h2
theorem zbo {F:Fence} {n:Nat} {P:Program} {ops:Array Oper} {Q:Exit→Act→World→Prop} {i:Nat} {K K':Act→World→Prop} {a:Act} {w:World} (l:Nat) (hd:∀ o∈ops,∀ c,o.op≠ .defer c)
  (hK:∀ a w,K a w→K' a w) (h:wpOpIn F n P ops Q i K a w):wpOpIn (F.inRound l) n P ops Q i K' a w:=by
 have h':=wpOpIn_mono hK h;unfold wpOpIn at h' ⊢;cases ho:ops[i]? with
 |none=>rw[ho] at h';exact h'
 |some o=>
  rw[ho] at h';by_cases hw:Region.wanted o (yielded ops a.tmps)=true
  ·simp only[hw,if_true] at h' ⊢
   exact zbY l (hd o (Array.mem_of_getElem? ho)) h'
  ·simp only[hw] at h' ⊢
   exact h'
theorem za5 {F:Fence} {n:Nat} {P:Program} {md:Region.Mode} {ops:Array Oper} {Q:Exit→Act→World→Prop} (l:Nat) (hd:∀ o∈ops,∀ c,o.op≠ .defer c):
  ∀ (fuel:Nat) (listed:Array Bool) (a:Act) (w:World),wpAnyIn F n P md ops Q fuel listed a w→wpAnyIn (F.inRound l) n P md ops Q fuel listed a w:=by
 intro fuel
 induction fuel with
 |zero=>intro listed a w h;exact h
 |succ fuel ih=>
  intro listed a w h;exact⟨h.1,fun i hi=>zbo l hd (fun a w hk=>ih _ a w hk) (h.2 i hi)⟩
def lb (v k:Nat):UInt8:=UInt8.ofNat (v/2 ^ (8*k)%256)
def lef (v k:Nat):List UInt8:=(List.range k).map (lb v)
theorem zh2 (v k:Nat):lef v (k+1)=lef v k++[lb v k]:=by unfold lef;rw[List.range_succ,List.map_append];rfl
theorem zaz (v k:Nat):(lef v k).length=k:=by simp[lef]
theorem zpO (v k:Nat):((lb v k).toNat:Int)=(v:Int)/2 ^ (8*k)%256:=by
 unfold lb;rw[UInt8.toNat_ofNat',Nat.mod_eq_of_lt (Nat.mod_lt _ (by decide))]
 push_cast
 rfl
theorem trio (w:World) (a b c:Obj):(((w.alloc a).alloc b).alloc c).heap[w.heap.size]? =some a∧(((w.alloc a).alloc b).alloc c).heap[w.heap.size+1]? =some b∧(((w.alloc a).alloc b).alloc c).heap[w.heap.size+2]? =some c∧Below w.heap.size w (((w.alloc a).alloc b).alloc c)∧(((w.alloc a).alloc b).alloc c).heap.size=w.heap.size+3:=by
 obtain⟨x1,x2,x3⟩:=zay w a b;have hs:((w.alloc a).alloc b).heap.size=w.heap.size+2:=by simp
 have y1:=zq ((w.alloc a).alloc b) c;have y2:=zaa ((w.alloc a).alloc b) c;rw[hs] at y1 y2;exact⟨(y2.block _ (by omega)).trans x1,(y2.block _ (by omega)).trans x2,y1,x3.trans (y2.mono (by omega)),by simp⟩
theorem wrap_u8 (z:Int):IntKind.u8.wrap z=z%256:=IntKind.wrap_u8 z
structure PN (g:Nat) (own0:Nat→Prop) (bs:List UInt8) (Wf:World) (own:Nat→Prop) (xs:List UInt8) (W:World):Prop where
 wr:Wr g own (bs++xs) W
 new:∀ j,own j→own0 j∨Wf.heap.size≤j
 but:But own0 Wf W
theorem PN.kw {g:Nat} {own0:Nat→Prop} {bs:List UInt8} {Wf:World} {own:Nat→Prop} {xs:List UInt8} {W W':World} (h:PN g own0 bs Wf own xs W) (hk:Kw Wf.heap.size own W W'):PN g own0 bs Wf own xs W':=by
 obtain⟨v,h1,h2,h3⟩:=h.wr.cell;refine⟨⟨⟨v,(hk.block _ h.wr.lt (.inr h.wr.mine)).trans h1,zcT h2 fun b hb hlt=>hk.block b hlt (.inr (h3 b hb)),h3⟩,h.wr.mine,fun j hj=>⟨(h.wr.out j hj).1,Nat.lt_of_lt_of_le (h.wr.out j hj).2 hk.size⟩⟩,h.new,⟨hk.os.trans h.but.os,hk.tape.trans h.but.tape,hk.output.trans h.but.output,Nat.le_trans h.but.size hk.size,fun j hj hn=>(hk.block j (Nat.lt_of_lt_of_le hj h.but.size) (.inl hj)).trans (h.but.block j hj hn)⟩⟩
theorem zb7 (g:Nat) (own:Nat→Prop) (bs:List UInt8) (v sz:Nat) (hsz:sz≤8) (hl:bs.length≤9000) (w:World) (h:Wr g own bs w):
  Calls Tryz.prog 256 #[pvv g,.int .u64 (v:Int),.int .i64 (sz:Int)] w fun e w'=>e=.returned (.tuple #[])∧Wrote g own (bs++lef v sz) w w':=by
 have HW:Hid (Wr g own bs w):=h;have HAD:Hid _:=zdf g;clear h;refine(callsIn_wide (n:=5)).1 ?_;refine callsIn_of_wp_marks Tryz.func256 rfl trivial ?_ rfl;simp only[Tryz.ntmps256,zS1,zS2,zS3,Nat.reduceAdd,Nat.reduceSub,zS4,zS5,zS6,zS7,zS8,zS9];gi_wp2;refine⟨trivial,callsIn_wide.2 ((zeJ sz _).mono ?_)⟩;rintro e Wf ⟨rfl,hWf⟩;have hs2:((w.alloc (.cells #[pvv g] 302)).alloc (.cells #[.int .u64 (v:Int)] 42)).heap.size=w.heap.size+2:=by simp
 obtain⟨t1,t2,t3,t4,t5⟩:=trio w (.cells #[pvv g] 302) (.cells #[.int .u64 (v:Int)] 42) (.cells #[.int .i64 (sz:Int)] 3);rw[hs2];rw[←hWf] at t1 t2 t3 t4 t5;have HT1:Hid (Wf.heap[w.heap.size]? =some (.cells #[pvv g] 302 (0,0))):=t1;have HT2:Hid (Wf.heap[w.heap.size+1]? =some (.cells #[.int .u64 (v:Int)] 42 (0,0))):=t2;have HT3:Hid (Wf.heap[w.heap.size+2]? =some (.cells #[.int .i64 (sz:Int)] 3 (0,0))):=t3;have HBf:Hid (Below w.heap.size w Wf):=t4;have HSf:Hid (Wf.heap.size=w.heap.size+3):=t5;have HWf:Hid (Wr g own bs Wf):=HW.out.next t4;clear hs2 hWf t1 t2 t3 t4 t5;gi_wp2
 refine zeI (by omega) (gf:=236) (lb:=#[.pointer (some ⟨w.heap.size+2,0,none⟩)]) rfl (enters_of Tryz.func236 (by kernel_rfl) rfl) (α:=Nat) sz (fun k=>#[.int .i64 (8*(k:Int))]) (fun _=>rfl) (fun k x=>x=k)
  (fun own' t W=>PN g own bs Wf own' (lef v t) W) (fun _ _=>False) .ret ?hJ ?hJx own ?hown0 ?h0
  (fun k a' _=>a'={ tmps:=#[pvv g,.int .u64 (v:Int),.int .i64 (sz:Int),.pointer (some ⟨w.heap.size,0,none⟩),.pointer (some ⟨w.heap.size+1,0,none⟩),undef,.int .i64 (8*(k:Int)),.int .i64 (sz:Int),.func (.func 236) #[] #[.pointer (some ⟨w.heap.size+2,0,none⟩)],.int .i64 (8*(k:Int)),undef,undef,undef,undef,undef,undef],defers:=[] }) ?hA ?assign ?body ?iter ?done ?stop
 case hJ=>intro own' k A B h hk;exact h.kw hk
 case hJx=>intro own' A B h _;exact h
 case hown0=>intro j hj;exact(HWf.out.out j hj).2
 case h0=>exact⟨by simpa [lef] using HWf.out,fun j hj=>.inl hj,But.refl _ _⟩
 case hA=>intro x a' W l o' h _ _;exact h
 case assign=>
  intro l' own' k x W' K hk hok hJk hsz' hK;clear hok hJk;gi_wp2;exact hK _ _ (Below.refl _ _) rfl
 case iter=>
  intro l' W5 hl' hB5 hs5 R' Rx' ow how hR' hRx' hY' h0';have hS:=HSf.out;refine zd7 Wf sz (w.heap.size+2) hsz HT3.out W5 hB5 l' R' Rx' ow (fun j hj=>?_) (fun own' k W hk hRk hsz'=>hY' own' k k W hk rfl hRk hsz') h0';rcases(how j).1 hj with a|rfl
  ·have:=(HWf.out.out j a).2
   omega
  ·omega
 case stop=>intro D own' W' _ _ h _;exact h.elim
 case done=>
  intro D own' W' hDe hno hJ hdf;have HDf:Hid _:=hdf;have HJe:Hid (PN g own bs Wf own' (lef v sz) W'):=hJ;have HDs:Hid (D=Wf.heap.size∧¬own' D):=⟨hDe,hno⟩;clear hJ hdf hDe hno;gi_wp2;refine zaJ (fun W=>results_none rfl _ _ _) [D] W' (by simp) (fun E hE=>by simp at hE;subst hE;exact HDf.out) fun W'' hb=>⟨rfl,own',fun j hj=>?_,?_,HJe.out.wr.but hb fun j hj e=>?_⟩
  ·rcases HJe.out.new j hj with a|a
   ·exact .inl a
   ·exact .inr (by have:=HSf.out;omega)
  ·have h1:=HJe.out.but
   have h2:=HBf.out;have hS:=HSf.out;have hD:=HDs.out.1;refine⟨hb.os.trans (h1.os.trans h2.os),hb.tape.trans (h1.tape.trans h2.tape),hb.output.trans (h1.output.trans h2.output),Nat.le_trans h2.size (Nat.le_trans h1.size hb.size),fun j hj hn=>?_⟩;have hjf:j<Wf.heap.size:=by omega
   refine(hb.block j (Nat.lt_of_lt_of_le hjf h1.size) fun e=>?_).trans ((h1.block j hjf hn).trans (h2.block j hj));have e':j=D:=by simpa using e
   omega
  ·have e':j=D:=by simpa using e
   exact HDs.out.2 (e'▸hj)
 case body=>
  rintro l' own' k x a' W' hk rfl hJ rfl hsz' hol;have hS:=HSf.out;have no1:¬own w.heap.size:=fun e=>by have:=(HW.out.out _ e).2;omega
  have no2:¬own (w.heap.size+1):=fun e=>by have:=(HW.out.out _ e).2;omega
  have x1:=(hJ.but.block w.heap.size (by omega) no1).trans HT1.out;have x2:=(hJ.but.block (w.heap.size+1) (by omega) no2).trans HT2.out
  have c1:W'.drew.cell? ⟨w.heap.size,0,none⟩=some (pvv g):=by
   rw[World.cell?_of_block (a:=⟨w.heap.size,0,none⟩) (show W'.drew.heap[w.heap.size]? =W'.heap[w.heap.size]? from rfl),zr x1];rfl
  have c2:W'.drew.cell? ⟨w.heap.size+1,0,none⟩=some (.int .u64 (v:Int)):=by
   rw[World.cell?_of_block (a:=⟨w.heap.size+1,0,none⟩) (show W'.drew.heap[w.heap.size+1]? =W'.heap[w.heap.size+1]? from rfl),zr x2];rfl
  have HJd:Hid (PN g own bs Wf own' (lef v x) W'.drew):=hJ.kw ⟨rfl,rfl,rfl,Nat.le_refl _,fun _ _ _=>rfl⟩;have HCA:Hid (∀ _:True,_):=fun _=>zdf g own' (bs++lef v x) (lb v x) (by rw[List.length_append,zaz];omega) W'.drew HJd.out.wr
  rw[zpO] at HCA;have hmx:Tryz.prog.follows .mixedOrders=true:=by kernel_rfl
  have q1:(0:Int)≤(x:Int):=by omega
  have q2:(x:Int)<8:=by omega
  clear hJ x1 x2 no1 no2 hol hsz';gi_wp2;refine wpIn_region_any hmx ?_;change wpAnyIn _ _ _ _ _ _ _ _ _ (World.drew _);refine za5 (F:=Fence.wide) l' (by intro o ho c hc;simp at ho;rcases ho with rfl|rfl|rfl|rfl|rfl|rfl<;>cases hc) _ _ _ _ ?_;refine tkI (i:=2) (v:=?_) rfl rfl ?_ ?_;rotate_left
  ·intro w
   go_simp
   try with_reducible rfl
  conv in(Act.put _ _ _)=>simp only[zL1,zL2,zL3,Act.put,zL4,zL5,zL6]
  refine wpAnyIn_ready (rs:=[0,1]) (by kernel_rfl) (by simp) ?_;refine(AllReadyIn.cons rfl (fun K hK=>?_) (AllReadyIn.cons rfl (fun K hK=>?_) AllReadyIn.nil))
  ·go_simp
   refine hK _ _ ?_;clear hK K;refine wpAnyIn_ready (rs:=[1]) (by kernel_rfl) (by simp) ?_;refine(AllReadyIn.cons rfl (fun K hK=>?_) AllReadyIn.nil);go_simp;refine hK _ _ ?_;clear hK K;refine tkI (i:=3) (v:=.int .u64 ((v:Int)/2 ^ (8*x))) rfl rfl ?_ ?_
   ·intro w
    go_simp;rw[show(8*(x:Int)).toNat=8*x by omega]
   conv in(Act.put _ _ _)=>simp only[zL1,zL2,zL3,Act.put,zL4,zL5,zL6]
   refine tkI (i:=4) (v:=.int .u8 ((v:Int)/2 ^ (8*x)%256)) rfl rfl ?_ ?_
   ·intro w
    go_simp;exact wrap_u8 _
   conv in(Act.put _ _ _)=>simp only[zL1,zL2,zL3,Act.put,zL4,zL5,zL6]
   refine wpAnyIn_ready (rs:=[5]) (by kernel_rfl) (by simp) ?_;refine(AllReadyIn.cons rfl (fun K hK=>?_) AllReadyIn.nil);go_simp;refine⟨trivial,callsIn_wide.2 (Calls.mono (HCA.out trivial) ?_)⟩;rintro e W6 ⟨rfl,own6,k1,k2,k3⟩
   have HE:Hid (∃ own'',(∀ j,own'' j→own' j∨(W'.heap.size≤j∧j<W6.heap.size))∧But own' W' W6∧PN g own bs Wf own'' (lef v (x+1)) W6):=by
    have hd:=HJd.out;refine⟨own6,fun j hj=>?_,⟨k2.os,k2.tape,k2.output,k2.size,k2.block⟩,?_,fun j hj=>?_,⟨k2.os.trans hd.but.os,k2.tape.trans hd.but.tape,k2.output.trans hd.but.output,Nat.le_trans hd.but.size k2.size,fun j hj hn=>(k2.block j (Nat.lt_of_lt_of_le hj hd.but.size) fun e=>?_).trans (hd.but.block j hj hn)⟩⟩
    ·rcases k1 j hj with a|a
     ·exact .inl a
     ·exact .inr ⟨a,(k3.out j hj).2⟩
    ·rw[zh2,←List.append_assoc];exact k3
    ·rcases k1 j hj with a|a
     ·exact hd.new j a
     ·exact .inr (Nat.le_trans hd.but.size a)
    ·rcases hd.new j e with a|a
     ·exact hn a
     ·omega
   clear k1 k2 k3;refine hK _ _ ?_;clear hK K;refine wpAnyIn_done (by kernel_rfl) ?_ _;gi_wp2;exact HE.out
  ·go_simp
   refine hK _ _ ?_;clear hK K;refine tkI (i:=3) (v:=.int .u64 ((v:Int)/2 ^ (8*x))) rfl rfl ?_ ?_
   ·intro w
    go_simp;rw[show(8*(x:Int)).toNat=8*x by omega]
   conv in(Act.put _ _ _)=>simp only[zL1,zL2,zL3,Act.put,zL4,zL5,zL6]
   refine tkI (i:=4) (v:=.int .u8 ((v:Int)/2 ^ (8*x)%256)) rfl rfl ?_ ?_
   ·intro w
    go_simp;exact wrap_u8 _
   conv in(Act.put _ _ _)=>simp only[zL1,zL2,zL3,Act.put,zL4,zL5,zL6]
   refine wpAnyIn_ready (rs:=[0]) (by kernel_rfl) (by simp) ?_;refine(AllReadyIn.cons rfl (fun K hK=>?_) AllReadyIn.nil);go_simp;refine hK _ _ ?_;clear hK K;refine wpAnyIn_ready (rs:=[5]) (by kernel_rfl) (by simp) ?_;refine(AllReadyIn.cons rfl (fun K hK=>?_) AllReadyIn.nil);go_simp;refine⟨trivial,callsIn_wide.2 (Calls.mono (HCA.out trivial) ?_)⟩;rintro e W6 ⟨rfl,own6,k1,k2,k3⟩
   have HE:Hid (∃ own'',(∀ j,own'' j→own' j∨(W'.heap.size≤j∧j<W6.heap.size))∧But own' W' W6∧PN g own bs Wf own'' (lef v (x+1)) W6):=by
    have hd:=HJd.out;refine⟨own6,fun j hj=>?_,⟨k2.os,k2.tape,k2.output,k2.size,k2.block⟩,?_,fun j hj=>?_,⟨k2.os.trans hd.but.os,k2.tape.trans hd.but.tape,k2.output.trans hd.but.output,Nat.le_trans hd.but.size k2.size,fun j hj hn=>(k2.block j (Nat.lt_of_lt_of_le hj hd.but.size) fun e=>?_).trans (hd.but.block j hj hn)⟩⟩
    ·rcases k1 j hj with a|a
     ·exact .inl a
     ·exact .inr ⟨a,(k3.out j hj).2⟩
    ·rw[zh2,←List.append_assoc];exact k3
    ·rcases k1 j hj with a|a
     ·exact hd.new j a
     ·exact .inr (Nat.le_trans hd.but.size a)
    ·rcases hd.new j e with a|a
     ·exact hn a
     ·omega
   clear k1 k2 k3;refine hK _ _ ?_;clear hK K;refine wpAnyIn_done (by kernel_rfl) ?_ _;gi_wp2;exact HE.out
end Rw
namespace Rw
open Go.RowKit Go.Lib Go.Shelf
open Rc Rq
def zcn:ByteArray:=⟨#[0,0,0,0,0,0,0,0,0,0,0,0,0,0,0,0,0,0,0,0,0,0,0,0,0,0,0,0,0,0,0,0]⟩
def zbD (p:Nat) (t:ByteArray):Bool:=decide (p=0)&&decide (t=⟨#[]⟩)
theorem zg5 (p:Nat) (t:ByteArray) (w:World):(binOp .eql 49 (.agg #[.int .u32 (p:Int),.string t]) (.agg #[.int .u32 0,.string ⟨#[]⟩])).run Tryz.prog w=.ok (.bool (zbD p t)) w:=by
 have hS:Tryz.prog.underlying 49=some (.struct (Tryz.prog.fieldsOf 49)):=by kernel_rfl
 have hp:Tryz.prog.stoodInHeld 49=false:=by kernel_rfl
 have u2:=Tryz.underlying41;have u9:=Tryz.underlying9;rw[run_eql_struct,show(10000:Nat)=9999+1 from rfl,run_equalIn_agg w 9999 49 _ _ hS hp];simp only[Program.fieldsOf,Tryz.underlying49];unfold zbD;by_cases h1:p=0
 ·subst h1
  by_cases h2:t=⟨#[]⟩
  ·subst h2
   go_simp
  ·go_simp
   intro e;have h3:=decide_eq_emptyBytes t;rw[e] at h3;simp at h3;exact h2 h3
 ·go_simp
def refB (p:Nat) (t:ByteArray):List UInt8:=lef p 4++(if zbD p t=true then zcn else t).data.toList
theorem zeK (g:Nat) (own:Nat→Prop) (bs:List UInt8) (p:Nat) (t:ByteArray) (hp:p<4294967296) (hl:bs.length≤8000) (ht:t.size≤100) (w:World) (h:Wr g own bs w):
  Calls Tryz.prog 257 #[pvv g,.agg #[.int .u32 (p:Int),.string t]] w fun e w'=>e=.returned (.tuple #[])∧Wrote g own (bs++refB p t) w w':=by
 have HW:Hid (Wr g own bs w):=h;have heq:=zg5 p t;obtain⟨t',ht'⟩:∃ t',(if zbD p t=true then zcn else t)=t':=⟨_,rfl⟩
 have hts:t'.size≤100:=by
  rw[←ht'];split
  ·decide
  ·exact ht
 unfold refB;rw[ht'];have HN:Hid _:=fun own W=>zb7 g own bs p 4 (by omega) (by omega) W
 have HT:Hid _:=fun own W=>zd6 g own (bs++lef p 4) t' (by rw[List.length_append,zaz];omega) W
 clear h;cases hn:zbD p t
 ·rw[hn] at heq ht'
  simp at ht';subst ht';have q0:IntKind.u64.wrap (p:Int)=(p:Int):=IntWalk.u64_in _ ⟨by omega,by omega⟩;have hbn:=zaa w (.cells #[.int .u32 (p:Int),.string t] 49);have hgn:=zq w (.cells #[.int .u32 (p:Int),.string t] 49);obtain⟨W1,hW1⟩:∃ W1,w.alloc (.cells #[.int .u32 (p:Int),.string t] 49)=W1:=⟨_,rfl⟩;rw[hW1] at hbn hgn;have HW1:Hid _:=hW1;have HB:Hid (Below w.heap.size w W1):=hbn;have HG:Hid (W1.heap[w.heap.size]? =some (.cells #[.int .u32 (p:Int),.string t] 49 (0,0))):=hgn;clear hbn hgn hW1;go_enter Tryz.func257,Tryz.ntmps257;go_wp2_with fail;rw[HW1.out];clear HW1;refine(HN.out own W1 (HW.out.next HB.out)).mono ?_;rintro e w2 ⟨rfl,own2,k1,k2,k3⟩;have hno:¬own w.heap.size:=fun e=>by have:=(HW.out.out _ e).2;omega
  have hg2:=(k2.block w.heap.size (zi HG.out).1 hno).trans HG.out;have c1:w2.cell? ⟨w.heap.size,1,none⟩=some (.string t):=by rw[zr hg2];rfl
  have lg:w.heap.size<w2.heap.size:=(zi hg2).1
  have HK:Hid (∀ {xs:List UInt8} {W':World},Wrote g own2 xs w2 W'→Wrote g own xs w W'):=fun {xs W'} hw=>by
   refine Wrote.trans (own':=own2) (W':=w2) (fun j hj=>?_) ⟨k2.os.trans HB.out.os,k2.tape.trans HB.out.tape,k2.output.trans HB.out.output,Nat.le_trans HB.out.size k2.size,fun j hj hn=>(k2.block j (Nat.lt_of_lt_of_le hj HB.out.size) hn).trans (HB.out.block j hj)⟩ hw;rcases k1 j hj with a|a
   ·exact .inl a
   ·exact .inr (Nat.le_trans HB.out.size a)
  have K3:Hid (Wr g own2 (bs++lef p 4) w2):=k3;clear k1 k2 k3 hg2 hno HN;go_wp2_with fail;refine(HT.out own2 w2 K3.out).mono ?_;rintro e w3 ⟨rfl,k⟩;rw[List.append_assoc] at k;have HE:Hid (Wrote g own (bs++(lef p 4++(t).data.toList)) w w3):=HK.out k;clear k HT HK K3;go_wp2_with fail;refine bodyPost_end (results_none rfl _ _ _) rfl ?_;exact⟨rfl,HE.out⟩
 ·rw[hn] at heq ht'
  simp at ht';subst ht';have q0:IntKind.u64.wrap (p:Int)=(p:Int):=IntWalk.u64_in _ ⟨by omega,by omega⟩;have hbn:=zaa w (.cells #[.int .u32 (p:Int),.string zcn] 49);have hgn:=zq w (.cells #[.int .u32 (p:Int),.string zcn] 49);obtain⟨W1,hW1⟩:∃ W1,w.alloc (.cells #[.int .u32 (p:Int),.string zcn] 49)=W1:=⟨_,rfl⟩;rw[hW1] at hbn hgn;have HW1:Hid _:=hW1;have HB:Hid (Below w.heap.size w W1):=hbn;have HG:Hid (W1.heap[w.heap.size]? =some (.cells #[.int .u32 (p:Int),.string zcn] 49 (0,0))):=hgn;clear hbn hgn hW1;go_enter Tryz.func257,Tryz.ntmps257;go_wp2_with fail;have hx:=HW1.out;simp only[zcn] at hx;rw[hx];clear HW1 hx;refine(HN.out own W1 (HW.out.next HB.out)).mono ?_;rintro e w2 ⟨rfl,own2,k1,k2,k3⟩;have hno:¬own w.heap.size:=fun e=>by have:=(HW.out.out _ e).2;omega
  have hg2:=(k2.block w.heap.size (zi HG.out).1 hno).trans HG.out;have c1:w2.cell? ⟨w.heap.size,1,none⟩=some (.string zcn):=by rw[zr hg2];rfl
  have lg:w.heap.size<w2.heap.size:=(zi hg2).1
  have HK:Hid (∀ {xs:List UInt8} {W':World},Wrote g own2 xs w2 W'→Wrote g own xs w W'):=fun {xs W'} hw=>by
   refine Wrote.trans (own':=own2) (W':=w2) (fun j hj=>?_) ⟨k2.os.trans HB.out.os,k2.tape.trans HB.out.tape,k2.output.trans HB.out.output,Nat.le_trans HB.out.size k2.size,fun j hj hn=>(k2.block j (Nat.lt_of_lt_of_le hj HB.out.size) hn).trans (HB.out.block j hj)⟩ hw;rcases k1 j hj with a|a
   ·exact .inl a
   ·exact .inr (Nat.le_trans HB.out.size a)
  have K3:Hid (Wr g own2 (bs++lef p 4) w2):=k3;clear k1 k2 k3 hg2 hno HN;go_wp2_with fail;refine(HT.out own2 w2 K3.out).mono ?_;rintro e w3 ⟨rfl,k⟩;rw[List.append_assoc] at k;have HE:Hid (Wrote g own (bs++(lef p 4++(zcn).data.toList)) w w3):=HK.out k;clear k HT HK K3;go_wp2_with fail;refine bodyPost_end (results_none rfl _ _ _) rfl ?_;exact⟨rfl,HE.out⟩
structure Rf where
 p:Nat
 t:ByteArray
abbrev fcv (r:Rf):Value:=.agg #[.int .u32 (r.p:Int),.string r.t]
def fc (r:Rf):List Value:=[.int .u32 (r.p:Int),.string r.t]
def zaB (w:World) (o:Option Addr) (cap:Nat) (l:List Rf):Prop:=Sl 2 w o l.length cap (l.flatMap fc)
def fat (l:List Rf) (i:Nat):Rf:=(l[i]?).getD ⟨0,⟨#[]⟩⟩
theorem zcU {l:List Rf} {i:Nat} (h:i<l.length):l[i]? =some (fat l i):=by unfold fat;rw[List.getElem?_eq_getElem h];rfl
theorem zaB.below {w w':World} {o:Option Addr} {cap B:Nat} {l:List Rf} (h:zaB w o cap l) (hb:Below B w w') (hB:w.heap.size≤B):zaB w' o cap l:=Sl.below h hb hB
theorem zaB.ref {w:World} {o:Option Addr} {cap:Nat} {l:List Rf} (h:zaB w o cap l) {i:Nat} (hi:i<l.length):∃ b off,o=some ⟨b,off,none⟩∧b<w.heap.size∧∀ i,i<l.length→w.cell? ⟨b,off+i*2,none⟩=some (.int .u32 ((fat l i).p:Int))∧w.cell? ⟨b,off+i*2+1,none⟩=some (.string (fat l i).t):=by
 obtain⟨b,off,e,hlt,hc⟩:=h.2.2.2.2 (by omega);refine⟨b,off,e,hlt,fun i hi=>⟨hc _ _ (flat_get fc 2 (fun _=>rfl) l i _ (zcU hi) 0 (by omega)),?_⟩⟩;have:=hc _ _ (flat_get fc 2 (fun _=>rfl) l i _ (zcU hi) 1 (by omega));rwa[←Nat.add_assoc] at this
structure Pg where
 k:Int
 X:Nat
 Y:Nat
 L:Int
 ro:Option Addr
 rn:Nat
 rc:Nat
 ko:Option Addr
 kn:Nat
 kc:Nat
 np:Nat
 nt:ByteArray
abbrev gv (q:Pg):Value:=.agg #[.int .i64 q.k,.int .u32 (q.X:Int),.int .u32 (q.Y:Int),.int .i64 q.L,.slice q.ro q.rn q.rc,.slice q.ko q.kn q.kc,.int .u32 (q.np:Int),.string q.nt]
abbrev gcs (q:Pg):Obj:=.cells #[.int .i64 q.k,.int .u32 (q.X:Int),.int .u32 (q.Y:Int),.int .i64 q.L,.slice q.ro q.rn q.rc,.slice q.ko q.kn q.kc,.int .u32 (q.np:Int),.string q.nt] 155
def rowB (r:Rw):List UInt8:=lef r.id 8++(lef r.x 4++(lef r.y 4++(lef r.v.size 1++r.v.data.toList)))
def zcV (l:List Rw) (np:Nat) (nt:ByteArray):List UInt8:=lef 1 1++(lef l.length 1++(refB np nt++l.flatMap rowB))
def zbM (X Y L:Nat) (ks:List Rf):List UInt8:=lef 2 1++(lef ks.length 1++(lef L 1++(lef X 4++(lef Y 4++ks.flatMap fun r=>refB r.p r.t))))
structure Ps (g:Nat) (own0:Nat→Prop) (w:World) (bx:List (Nat × Obj)) (bs:List UInt8) (own:Nat→Prop) (W:World):Prop where
 wr:Wr g own bs W
 new:∀ j,own j→own0 j∨w.heap.size≤j
 but:But own0 w W
 box:∀ p∈bx,W.heap[p.1]? =some p.2∧¬own p.1
theorem Ps.step {g:Nat} {own0:Nat→Prop} {w:World} {bx:List (Nat × Obj)} {bs xs:List UInt8} {own:Nat→Prop} {W W':World} (h:Ps g own0 w bx bs own W) (k:Wrote g own xs W W'):∃ own',Ps g own0 w bx xs own' W':=by
 obtain⟨own',k1,k2,k3⟩:=k;refine⟨own',k3,fun j hj=>?_,⟨k2.os.trans h.but.os,k2.tape.trans h.but.tape,k2.output.trans h.but.output,Nat.le_trans h.but.size k2.size,fun j hj hn=>(k2.block j (Nat.lt_of_lt_of_le hj h.but.size) fun e=>?_).trans (h.but.block j hj hn)⟩,fun p hp=>?_⟩
 ·rcases k1 j hj with a|a
  ·exact h.new j a
  ·exact .inr (Nat.le_trans h.but.size a)
 ·rcases h.new j e with a|a
  ·exact hn a
  ·omega
 ·obtain⟨b1,b2⟩:=h.box p hp
  have hl:=(zi b1).1;refine⟨(k2.block _ hl b2).trans b1,fun e=>?_⟩;rcases k1 _ e with a|a
  ·exact b2 a
  ·omega
theorem Ps.next {g:Nat} {own0:Nat→Prop} {w:World} {bx:List (Nat × Obj)} {bs:List UInt8} {own:Nat→Prop} {W W':World} (h:Ps g own0 w bx bs own W) (hb:Below W.heap.size W W'):Ps g own0 w bx bs own W':=
 ⟨h.wr.next hb,h.new,⟨hb.os.trans h.but.os,hb.tape.trans h.but.tape,hb.output.trans h.but.output,Nat.le_trans h.but.size hb.size,fun j hj hn=>(hb.block j (Nat.lt_of_lt_of_le hj h.but.size)).trans (h.but.block j hj hn)⟩,fun p hp=>⟨(hb.block _ (zi (h.box p hp).1).1).trans (h.box p hp).1,(h.box p hp).2⟩⟩
theorem Ps.with {g:Nat} {own0:Nat→Prop} {w:World} {bx:List (Nat × Obj)} {bs:List UInt8} {own:Nat→Prop} {W:World} (h:Ps g own0 w bx bs own W) (o:Obj) (ho:(W.alloc o).heap[W.heap.size]? =some o):Ps g own0 w ((W.heap.size,o)::bx) bs own (W.alloc o):=by
 have h1:=h.next (zaa W o);refine⟨h1.wr,h1.new,h1.but,fun p hp=>?_⟩;rcases List.mem_cons.1 hp with rfl|hp
 ·exact⟨ho,fun e=>by have:=(h.wr.out _ e).2;simp at this⟩
 ·exact h1.box p hp
theorem Ps.less {g:Nat} {own0:Nat→Prop} {w:World} {bx bx':List (Nat × Obj)} {bs:List UInt8} {own:Nat→Prop} {W:World} (h:Ps g own0 w bx bs own W) (hb:∀ p∈bx',p∈bx):Ps g own0 w bx' bs own W:=⟨h.wr,h.new,h.but,fun p hp=>h.box p (hb p hp)⟩
theorem Ps.start {g:Nat} {own:Nat→Prop} {bs:List UInt8} {w:World} (h:Wr g own bs w):Ps g own w [] bs own w:=⟨h,fun _ hj=>.inl hj,But.refl _ _,fun p hp=>by cases hp⟩
theorem Ps.wrote {g:Nat} {own0:Nat→Prop} {w:World} {bx:List (Nat × Obj)} {bs:List UInt8} {own:Nat→Prop} {W:World} (h:Ps g own0 w bx bs own W):Wrote g own0 bs w W:=⟨own,h.new,h.but,h.wr⟩
theorem Ps.sl {g:Nat} {own0:Nat→Prop} {w:World} {bx:List (Nat × Obj)} {bs:List UInt8} {own:Nat→Prop} {W:World} (h:Ps g own0 w bx bs own W) {k:Nat} {o:Option Addr} {n cap:Nat} {cs:List Value} (hs:Sl k w o n cap cs) (hg:∀ b off,o=some ⟨b,off,none⟩→0<n→¬own0 b):Sl k W o n cap cs:=by
 refine⟨hs.1,hs.2.1,hs.2.2.1,hs.2.2.2.1,fun hn=>?_⟩;obtain⟨b,off,e,hlt,hc⟩:=hs.2.2.2.2 hn;exact⟨b,off,e,Nat.lt_of_lt_of_le hlt h.but.size,fun j u hu=>(World.cell?_of_block (a:=⟨b,off+j,none⟩) (h.but.block b hlt (hg b off e hn))).trans (hc j u hu)⟩
theorem zaP {W:World} {B:Nat} {q:Pg} (h:W.heap[B]? =some (gcs q)):(W.cell? ⟨B,0,none⟩=some (.int .i64 q.k)∧W.cell? ⟨B,1,none⟩=some (.int .u32 (q.X:Int))∧W.cell? ⟨B,2,none⟩=some (.int .u32 (q.Y:Int))∧W.cell? ⟨B,3,none⟩=some (.int .i64 q.L)∧W.cell? ⟨B,4,none⟩=some (.slice q.ro q.rn q.rc)∧W.cell? ⟨B,5,none⟩=some (.slice q.ko q.kn q.kc)∧W.cell? ⟨B,6,none⟩=some (.int .u32 (q.np:Int))∧W.cell? ⟨B,7,none⟩=some (.string q.nt))∧B<W.heap.size:=by
 refine⟨⟨?_,?_,?_,?_,?_,?_,?_,?_⟩,(zi h).1⟩
 all_goals rw[zr h];rfl
theorem zbE {W:World} {B:Nat} {id x y:Nat} {v:ByteArray} {t:TypeId} (h:W.heap[B]? =some (.cells #[.int .u64 (id:Int),.int .u32 (x:Int),.int .u32 (y:Int),.string v] t (0,0))):(W.cell? ⟨B,0,none⟩=some (.int .u64 (id:Int))∧W.cell? ⟨B,1,none⟩=some (.int .u32 (x:Int))∧W.cell? ⟨B,2,none⟩=some (.int .u32 (y:Int))∧W.cell? ⟨B,3,none⟩=some (.string v))∧B<W.heap.size:=by
 refine⟨⟨?_,?_,?_,?_⟩,(zi h).1⟩
 all_goals rw[zr h];rfl
theorem zmG {l:List Rw} (hv:∀ r∈l,r.v.size≤16) (i:Nat):((l.take i).flatMap rowB).length≤i*33:=by
 induction i with
 |zero=>simp
 |succ i ih=>
  by_cases h:i<l.length
  ·rw[List.take_add_one,List.getElem?_eq_getElem h,List.flatMap_append,List.length_append]
   have:=hv _ (List.getElem_mem h);simp only[Option.toList,List.flatMap_cons,List.flatMap_nil,List.append_nil,rowB,List.length_append,zaz,Array.length_toList];have e:l[i].v.data.size=l[i].v.size:=rfl;omega
  ·rw[List.take_of_length_le (by omega)]
   rw[List.take_of_length_le (by omega)] at ih;omega
theorem zg6 (g:Nat) (own0:Nat→Prop) (bs:List UInt8) (q:Pg) (l:List Rw) (hl:bs.length≤1000) (hn:l.length≤10) (hv:∀ r∈l,r.v.size≤16∧r.x<4294967296∧r.y<4294967296) (hnp:q.np<4294967296) (hnt:q.nt.size≤100) (w:World) (h:Wr g own0 bs w) (hrn:q.rn=l.length) (hr:zac w q.ro q.rc l) (hrb:∀ b off,q.ro=some ⟨b,off,none⟩→0<l.length→¬own0 b):
  Calls Tryz.prog 232 #[pvv g,gv q] w fun e w'=>e=.returned (.tuple #[])∧Wrote g own0 (bs++zcV l q.np q.nt) w w':=by
 have P0:Ps g own0 w [(w.heap.size,gcs q)] bs own0 (w.alloc (gcs q)):=(Ps.start h).with (gcs q) (zq w _);have HR:Hid (zac w q.ro q.rc l):=hr;have HRB:Hid (∀ b off,q.ro=some ⟨b,off,none⟩→0<l.length→¬own0 b):=hrb;have HV:Hid (∀ r∈l,r.v.size≤16∧r.x<4294967296∧r.y<4294967296):=hv;have HN:Hid _:=fun own xs v sz h1 h2 W=>zb7 g own xs v sz h1 h2 W
 have HRF:Hid _:=fun own xs p t h1 h2 h3 W=>zeK g own xs p t h1 h2 h3 W
 have HTX:Hid _:=fun own xs s h1 W=>zd6 g own xs s h1 W
 have HVS:Hid (∀ r∈l,r.v.size≤16):=fun r hr=>(hv r hr).1
 have hrf:(refB q.np q.nt).length≤104:=by
  unfold refB;rw[List.length_append,zaz,Array.length_toList];split
  ·decide
  ·have:q.nt.data.size=q.nt.size:=rfl
   omega
 obtain⟨qk,qX,qY,qL,qro,qrn,qrc,qko,qkn,qkc,qnp,qnt⟩:=q;simp only at hrn HR HRB hnp hnt hrf;subst hrn;have HP0:Hid _:=P0;clear P0 h hr hrb hv;obtain⟨W0,hW0⟩:∃ W0,w.alloc (gcs ⟨qk,qX,qY,qL,qro,l.length,qrc,qko,qkn,qkc,qnp,qnt⟩)=W0:=⟨_,rfl⟩;have HW0:Hid (w.alloc (.cells #[.int .i64 qk,.int .u32 (qX:Int),.int .u32 (qY:Int),.int .i64 qL,.slice qro l.length qrc,.slice qko qkn qkc,.int .u32 (qnp:Int),.string qnt] 155)=W0):=hW0;rw[hW0] at HP0;clear hW0;have q0:(l.length:Int)≤10:=by omega
 have q1:IntKind.u64.wrap (l.length:Int)=(l.length:Int):=IntWalk.u64_in _ ⟨by omega,by omega⟩;simp only[gv];go_enter Tryz.func232,Tryz.ntmps232;go_wp2_with fail;rw[HW0.out];clear HW0;refine(HN.out own0 bs 1 1 (by omega) (by omega) W0 HP0.out.wr).mono ?_;rintro e w1 ⟨rfl,k⟩;obtain⟨own1,hP⟩:=HP0.out.step k;have HP1:Hid (Ps g own0 w [(w.heap.size,gcs ⟨qk,qX,qY,qL,qro,l.length,qrc,qko,qkn,qkc,qnp,qnt⟩)] (bs++lef 1 1) own1 w1):=hP;obtain⟨⟨-,-,-,-,c4,-,c6,c7⟩,lB⟩:=zaP (hP.box _ List.mem_cons_self).1;simp only at c4 c6 c7;clear k hP HP0;go_wp2_with fail;refine(HN.out own1 (bs++lef 1 1) l.length 1 (by omega) (by rw[List.length_append,zaz];omega) w1 HP1.out.wr).mono ?_;rintro e w2 ⟨rfl,k⟩;obtain⟨own2,hP⟩:=HP1.out.step k;have HP2:Hid (Ps g own0 w [(w.heap.size,gcs ⟨qk,qX,qY,qL,qro,l.length,qrc,qko,qkn,qkc,qnp,qnt⟩)] (bs++lef 1 1++lef l.length 1) own2 w2):=hP;clear c4 c6 c7 lB;obtain⟨⟨-,-,-,-,c4,-,c6,c7⟩,lB⟩:=zaP (hP.box _ List.mem_cons_self).1
 simp only at c4 c6 c7;clear k hP HP1;go_wp2_with fail;refine(HRF.out own2 (bs++lef 1 1++lef l.length 1) qnp qnt hnp (by simp only[List.length_append,zaz];omega) hnt w2 HP2.out.wr).mono ?_;rintro e w3 ⟨rfl,k⟩;obtain⟨own3,hP⟩:=HP2.out.step k;have HP3:Hid (Ps g own0 w [(w.heap.size,gcs ⟨qk,qX,qY,qL,qro,l.length,qrc,qko,qkn,qkc,qnp,qnt⟩)] (bs++lef 1 1++lef l.length 1++refB qnp qnt) own3 w3):=hP;clear c4 c6 c7 lB;obtain⟨⟨-,-,-,-,c4,-,c6,c7⟩,lB⟩:=zaP (hP.box _ List.mem_cons_self).1;simp only at c4 c6 c7;clear k hP HP2;go_wp2_with fail;obtain⟨bs3,hbs3⟩:∃ bs3,bs++lef 1 1++lef l.length 1++refB qnp qnt=bs3:=⟨_,rfl⟩;have hb3:bs3.length≤1200:=by rw[←hbs3];simp only[List.length_append,zaz];omega
 have HE3:Hid (bs++zcV l qnp qnt=bs3++l.flatMap rowB):=by
  refine(?_:bs++zcV l qnp qnt=bs3++l.flatMap rowB);rw[←hbs3];simp only[zcV,List.append_assoc]
 rw[hbs3] at HP3;clear hbs3 c4 c6 c7 lB
 go_loopw [21] (fun iv wr=>∃ (i:Nat) (own':Nat→Prop),i≤l.length∧iv=.int .i64 (i:Int)∧Ps g own0 w [(w.heap.size,gcs ⟨qk,qX,qY,qL,qro,l.length,qrc,qko,qkn,qkc,qnp,qnt⟩)] (bs3++(l.take i).flatMap rowB) own' wr) (fun iv _=>l.length - zam iv)
 case atStart=>exact⟨0,own3,Nat.zero_le _,rfl,by simpa using HP3.out⟩
 case round=>
  obtain⟨i,own',hi,rfl,hP⟩:=hrel;have HP:Hid _:=hP;by_cases hlt:i<l.length
  ·have hsl:=hP.sl (k:=4) (cs:=l.flatMap rc) HR.out HRB.out
   obtain⟨pb,off,rfl,hbl,hc⟩:=zac.row (l:=l) hsl hlt;obtain⟨d0,d1,d2,d3⟩:=hc i hlt;have hvr:=HV.out _ (zeY hlt)
   have htk:(l.take (i+1)).flatMap rowB=(l.take i).flatMap rowB++rowB (rat l i):=by
    rw[List.take_add_one,zb1 hlt,List.flatMap_append];simp
   have hxl:=zmG HVS.out i;generalize rat l i=rr at*
   obtain⟨id,x,y,v⟩:=rr;simp only at d0 d1 d2 d3 hvr;have HTK:Hid _:=htk;have HQ4:Hid (Ps g own0 w [(wr.heap.size,(.cells #[.int .u64 (id:Int),.int .u32 (x:Int),.int .u32 (y:Int),.string v] 79)),(w.heap.size,gcs ⟨qk,qX,qY,qL,(some ⟨pb,off,none⟩),l.length,qrc,qko,qkn,qkc,qnp,qnt⟩)] (bs3++(l.take i).flatMap rowB) own' (wr.alloc (.cells #[.int .u64 (id:Int),.int .u32 (x:Int),.int .u32 (y:Int),.string v] 79))):=hP.with _ (zq wr _);have hvs:v.size≤16:=hvr.1;have q3:(i:Int)<(l.length:Int):=by omega
   have i0:(0:Int)≤(i:Int):=by omega
   have q4:IntKind.u64.wrap (x:Int)=(x:Int):=IntWalk.u64_in _ ⟨by omega,by omega⟩;have q5:IntKind.u64.wrap (y:Int)=(y:Int):=IntWalk.u64_in _ ⟨by omega,by omega⟩;have q6:IntKind.u64.wrap (v.size:Int)=(v.size:Int):=IntWalk.u64_in _ ⟨by omega,by omega⟩;have q7:(v.size:Int)≤16:=by omega
   obtain⟨xs,hxs⟩:∃ xs,bs3++(l.take i).flatMap rowB=xs:=⟨_,rfl⟩;have hxs':xs.length≤1600:=by rw[←hxs,List.length_append];omega
   rw[hxs] at HQ4;have HXS:Hid (bs3++(l.take i).flatMap rowB=xs):=hxs;obtain⟨⟨r0,r1,r2,r3⟩,lR⟩:=zbE (HQ4.out.box _ List.mem_cons_self).1;obtain⟨W4,hW4⟩:∃ W4,wr.alloc (.cells #[.int .u64 (id:Int),.int .u32 (x:Int),.int .u32 (y:Int),.string v] 79)=W4:=⟨_,rfl⟩;have HW4:Hid _:=hW4;have HP4:Hid (Ps g own0 w [(wr.heap.size,(.cells #[.int .u64 (id:Int),.int .u32 (x:Int),.int .u32 (y:Int),.string v] 79)),(w.heap.size,gcs ⟨qk,qX,qY,qL,(some ⟨pb,off,none⟩),l.length,qrc,qko,qkn,qkc,qnp,qnt⟩)] xs own' W4):=hW4▸HQ4.out;clear hP HP hc hsl htk hxl hxs hW4 hvr HQ4 r0 r1 r2 r3 lR;go_wp2_with fail;rw[HW4.out];clear HW4;have r0:=True.intro;have r1:=True.intro;have r2:=True.intro;have r3:=True.intro;have lR:=True.intro;refine(HN.out own' xs id 8 (by omega) (by omega) W4 HP4.out.wr).mono ?_;rintro e w5 ⟨rfl,k⟩;obtain⟨own5,hP⟩:=HP4.out.step k;have HP5:Hid (Ps g own0 w [(wr.heap.size,(.cells #[.int .u64 (id:Int),.int .u32 (x:Int),.int .u32 (y:Int),.string v] 79)),(w.heap.size,gcs ⟨qk,qX,qY,qL,(some ⟨pb,off,none⟩),l.length,qrc,qko,qkn,qkc,qnp,qnt⟩)] (xs++lef id 8) own5 w5):=hP
   clear r0 r1 r2 r3 lR;obtain⟨⟨r0,r1,r2,r3⟩,lR⟩:=zbE (hP.box _ List.mem_cons_self).1;clear k hP HP4;go_wp2_with fail;refine(HN.out own5 (xs++lef id 8) x 4 (by omega) (by simp only[List.length_append,zaz];omega) w5 HP5.out.wr).mono ?_;rintro e w6 ⟨rfl,k⟩;obtain⟨own6,hP⟩:=HP5.out.step k;have HP6:Hid (Ps g own0 w [(wr.heap.size,(.cells #[.int .u64 (id:Int),.int .u32 (x:Int),.int .u32 (y:Int),.string v] 79)),(w.heap.size,gcs ⟨qk,qX,qY,qL,(some ⟨pb,off,none⟩),l.length,qrc,qko,qkn,qkc,qnp,qnt⟩)] (xs++lef id 8++lef x 4) own6 w6):=hP;clear r0 r1 r2 r3 lR;obtain⟨⟨r0,r1,r2,r3⟩,lR⟩:=zbE (hP.box _ List.mem_cons_self).1;clear k hP HP5;go_wp2_with fail;refine(HN.out own6 (xs++lef id 8++lef x 4) y 4 (by omega) (by simp only[List.length_append,zaz];omega) w6 HP6.out.wr).mono ?_;rintro e w7 ⟨rfl,k⟩;obtain⟨own7,hP⟩:=HP6.out.step k;have HP7:Hid (Ps g own0 w [(wr.heap.size,(.cells #[.int .u64 (id:Int),.int .u32 (x:Int),.int .u32 (y:Int),.string v] 79)),(w.heap.size,gcs ⟨qk,qX,qY,qL,(some ⟨pb,off,none⟩),l.length,qrc,qko,qkn,qkc,qnp,qnt⟩)] (xs++lef id 8++lef x 4++lef y 4) own7 w7):=hP
   clear r0 r1 r2 r3 lR;obtain⟨⟨r0,r1,r2,r3⟩,lR⟩:=zbE (hP.box _ List.mem_cons_self).1;clear k hP HP6;go_wp2_with fail;refine(HN.out own7 (xs++lef id 8++lef x 4++lef y 4) v.size 1 (by omega) (by simp only[List.length_append,zaz];omega) w7 HP7.out.wr).mono ?_;rintro e w8 ⟨rfl,k⟩;obtain⟨own8,hP⟩:=HP7.out.step k;have HP8:Hid (Ps g own0 w [(wr.heap.size,(.cells #[.int .u64 (id:Int),.int .u32 (x:Int),.int .u32 (y:Int),.string v] 79)),(w.heap.size,gcs ⟨qk,qX,qY,qL,(some ⟨pb,off,none⟩),l.length,qrc,qko,qkn,qkc,qnp,qnt⟩)] (xs++lef id 8++lef x 4++lef y 4++lef v.size 1) own8 w8):=hP;clear r0 r1 r2 r3 lR;obtain⟨⟨r0,r1,r2,r3⟩,lR⟩:=zbE (hP.box _ List.mem_cons_self).1;clear k hP HP7;go_wp2_with fail;refine(HTX.out own8 (xs++lef id 8++lef x 4++lef y 4++lef v.size 1) v (by simp only[List.length_append,zaz];omega) w8 HP8.out.wr).mono ?_;rintro e w9 ⟨rfl,k⟩;obtain⟨own9,hP⟩:=HP8.out.step k
   have HE:Hid (Ps g own0 w [(w.heap.size,gcs ⟨qk,qX,qY,qL,(some ⟨pb,off,none⟩),l.length,qrc,qko,qkn,qkc,qnp,qnt⟩)] (bs3++(l.take (i+1)).flatMap rowB) own9 w9):=by
    refine(?_:Ps g own0 w [(w.heap.size,gcs ⟨qk,qX,qY,qL,(some ⟨pb,off,none⟩),l.length,qrc,qko,qkn,qkc,qnp,qnt⟩)] (bs3++(l.take (i+1)).flatMap rowB) own9 w9);rw[HTK.out,←List.append_assoc,HXS.out];have:=hP.less (bx':=[(w.heap.size,gcs ⟨qk,qX,qY,qL,(some ⟨pb,off,none⟩),l.length,qrc,qko,qkn,qkc,qnp,qnt⟩)]) (fun p hp=>List.mem_cons_of_mem _ hp);simpa only[rowB,List.append_assoc] using this
   clear k hP HP8 r0 r1 r2 r3 lR;go_wp2_with fail
   go_roundw
   case rel=>exact⟨i+1,own9,by omega,by go_num,HE.out⟩
   case measure=>simp[zam];omega
  ·obtain rfl:i=l.length:=by omega
   have q3:¬(l.length:Int)<(l.length:Int):=by omega
   have HE:Hid (Wrote g own0 (bs++zcV l qnp qnt) w wr):=by
    refine(?_:Wrote g own0 (bs++zcV l qnp qnt) w wr);have:=hP.wrote;rw[List.take_length] at this;rw[HE3.out];exact this
   clear hP;go_wp2_with fail;refine bodyPost_end (results_none rfl _ _ _) rfl ?_;exact⟨rfl,HE.out⟩
theorem zco {W:World} {B:Nat} {p:Nat} {v:ByteArray} {t:TypeId} (h:W.heap[B]? =some (.cells #[.int .u32 (p:Int),.string v] t (0,0))):(W.cell? ⟨B,0,none⟩=some (.int .u32 (p:Int))∧W.cell? ⟨B,1,none⟩=some (.string v))∧B<W.heap.size:=by
 refine⟨⟨?_,?_⟩,(zi h).1⟩
 all_goals rw[zr h];rfl
theorem zmH (p:Nat) (t:ByteArray) (ht:t.size≤100):(refB p t).length≤104:=by
 unfold refB;rw[List.length_append,zaz,Array.length_toList];split
 ·decide
 ·have:t.data.size=t.size:=rfl
  omega
theorem zkG {l:List Rf} {i:Nat} (h:i<l.length):fat l i∈l:=by
 have:=zcU h;exact List.mem_of_getElem? this
theorem zdx {l:List Rf} (hv:∀ r∈l,r.t.size≤100) (i:Nat):((l.take i).flatMap fun r=>refB r.p r.t).length≤i*104:=by
 induction i with
 |zero=>simp
 |succ i ih=>
  by_cases h:i<l.length
  ·rw[List.take_add_one,List.getElem?_eq_getElem h,List.flatMap_append,List.length_append]
   have:=zmH l[i].p l[i].t (hv _ (List.getElem_mem h));simp only[Option.toList,List.flatMap_cons,List.flatMap_nil,List.append_nil];omega
  ·rw[List.take_of_length_le (by omega)]
   rw[List.take_of_length_le (by omega)] at ih;omega
theorem zf6 (g:Nat) (own0:Nat→Prop) (bs:List UInt8) (q:Pg) (l:List Rf) (Ln:Nat) (hl:bs.length≤1000) (hn:l.length≤10) (hv:∀ r∈l,r.t.size≤100∧r.p<4294967296) (hX:q.X<4294967296) (hY:q.Y<4294967296) (hL:q.L=(Ln:Int)) (hLn:Ln≤1000) (w:World) (h:Wr g own0 bs w) (hrn:q.kn=l.length) (hr:zaB w q.ko q.kc l) (hrb:∀ b off,q.ko=some ⟨b,off,none⟩→0<l.length→¬own0 b):
  Calls Tryz.prog 233 #[pvv g,gv q] w fun e w'=>e=.returned (.tuple #[])∧Wrote g own0 (bs++zbM q.X q.Y Ln l) w w':=by
 have P0:Ps g own0 w [(w.heap.size,gcs q)] bs own0 (w.alloc (gcs q)):=(Ps.start h).with (gcs q) (zq w _);have HR:Hid (zaB w q.ko q.kc l):=hr;have HRB:Hid (∀ b off,q.ko=some ⟨b,off,none⟩→0<l.length→¬own0 b):=hrb;have HV:Hid (∀ r∈l,r.t.size≤100∧r.p<4294967296):=hv;have HN:Hid _:=fun own xs v sz h1 h2 W=>zb7 g own xs v sz h1 h2 W
 have HRF:Hid _:=fun own xs p t h1 h2 h3 W=>zeK g own xs p t h1 h2 h3 W
 have HVS:Hid (∀ r∈l,r.t.size≤100):=fun r hr=>(hv r hr).1
 obtain⟨qk,qX,qY,qL,qro,qrn,qrc,qko,qkn,qkc,qnp,qnt⟩:=q;simp only at hrn HR HRB hX hY hL;subst hrn;subst hL;have HP0:Hid _:=P0;clear P0 h hr hrb hv;obtain⟨W0,hW0⟩:∃ W0,w.alloc (gcs ⟨qk,qX,qY,(Ln:Int),qro,qrn,qrc,qko,l.length,qkc,qnp,qnt⟩)=W0:=⟨_,rfl⟩;have HW0:Hid (w.alloc (.cells #[.int .i64 qk,.int .u32 (qX:Int),.int .u32 (qY:Int),.int .i64 (Ln:Int),.slice qro qrn qrc,.slice qko l.length qkc,.int .u32 (qnp:Int),.string qnt] 155)=W0):=hW0;rw[hW0] at HP0;clear hW0;have q0:(l.length:Int)≤10:=by omega
 have q1:IntKind.u64.wrap (l.length:Int)=(l.length:Int):=IntWalk.u64_in _ ⟨by omega,by omega⟩;have q1a:IntKind.u64.wrap (Ln:Int)=(Ln:Int):=IntWalk.u64_in _ ⟨by omega,by omega⟩;have q1b:IntKind.u64.wrap (qX:Int)=(qX:Int):=IntWalk.u64_in _ ⟨by omega,by omega⟩;have q1c:IntKind.u64.wrap (qY:Int)=(qY:Int):=IntWalk.u64_in _ ⟨by omega,by omega⟩;simp only[gv];go_enter Tryz.func233,Tryz.ntmps233;go_wp2_with fail;rw[HW0.out];clear HW0;refine(HN.out own0 (bs) 2 1 (by omega) (by omega) W0 HP0.out.wr).mono ?_;rintro e w1 ⟨rfl,k⟩;obtain⟨own1,hP⟩:=HP0.out.step k;have HP1:Hid (Ps g own0 w [(w.heap.size,gcs ⟨qk,qX,qY,(Ln:Int),qro,qrn,qrc,qko,l.length,qkc,qnp,qnt⟩)] (bs++lef 2 1) own1 w1):=hP;obtain⟨⟨-,c1,c2,c3,-,c5,-,-⟩,lB⟩:=zaP (hP.box _ List.mem_cons_self).1;simp only at c1 c2 c3 c5;clear k hP HP0;go_wp2_with fail;refine(HN.out own1 (bs++lef 2 1) l.length 1 (by omega) (by simp only[List.length_append,zaz];omega) w1 HP1.out.wr).mono ?_
 rintro e w2 ⟨rfl,k⟩;obtain⟨own2,hP⟩:=HP1.out.step k;have HP2:Hid (Ps g own0 w [(w.heap.size,gcs ⟨qk,qX,qY,(Ln:Int),qro,qrn,qrc,qko,l.length,qkc,qnp,qnt⟩)] (bs++lef 2 1++lef l.length 1) own2 w2):=hP;clear c1 c2 c3 c5 lB;obtain⟨⟨-,c1,c2,c3,-,c5,-,-⟩,lB⟩:=zaP (hP.box _ List.mem_cons_self).1;simp only at c1 c2 c3 c5;clear k hP HP1;go_wp2_with fail;refine(HN.out own2 (bs++lef 2 1++lef l.length 1) Ln 1 (by omega) (by simp only[List.length_append,zaz];omega) w2 HP2.out.wr).mono ?_;rintro e w3 ⟨rfl,k⟩;obtain⟨own3,hP⟩:=HP2.out.step k;have HP3:Hid (Ps g own0 w [(w.heap.size,gcs ⟨qk,qX,qY,(Ln:Int),qro,qrn,qrc,qko,l.length,qkc,qnp,qnt⟩)] (bs++lef 2 1++lef l.length 1++lef Ln 1) own3 w3):=hP;clear c1 c2 c3 c5 lB;obtain⟨⟨-,c1,c2,c3,-,c5,-,-⟩,lB⟩:=zaP (hP.box _ List.mem_cons_self).1;simp only at c1 c2 c3 c5;clear k hP HP2;go_wp2_with fail;refine(HN.out own3 (bs++lef 2 1++lef l.length 1++lef Ln 1) qX 4 (by omega) (by simp only[List.length_append,zaz];omega) w3 HP3.out.wr).mono ?_
 rintro e w4 ⟨rfl,k⟩;obtain⟨own4,hP⟩:=HP3.out.step k;have HP4:Hid (Ps g own0 w [(w.heap.size,gcs ⟨qk,qX,qY,(Ln:Int),qro,qrn,qrc,qko,l.length,qkc,qnp,qnt⟩)] (bs++lef 2 1++lef l.length 1++lef Ln 1++lef qX 4) own4 w4):=hP;clear c1 c2 c3 c5 lB;obtain⟨⟨-,c1,c2,c3,-,c5,-,-⟩,lB⟩:=zaP (hP.box _ List.mem_cons_self).1;simp only at c1 c2 c3 c5;clear k hP HP3;go_wp2_with fail;refine(HN.out own4 (bs++lef 2 1++lef l.length 1++lef Ln 1++lef qX 4) qY 4 (by omega) (by simp only[List.length_append,zaz];omega) w4 HP4.out.wr).mono ?_;rintro e w5 ⟨rfl,k⟩;obtain⟨own5,hP⟩:=HP4.out.step k;have HP5:Hid (Ps g own0 w [(w.heap.size,gcs ⟨qk,qX,qY,(Ln:Int),qro,qrn,qrc,qko,l.length,qkc,qnp,qnt⟩)] (bs++lef 2 1++lef l.length 1++lef Ln 1++lef qX 4++lef qY 4) own5 w5):=hP;clear c1 c2 c3 c5 lB;obtain⟨⟨-,c1,c2,c3,-,c5,-,-⟩,lB⟩:=zaP (hP.box _ List.mem_cons_self).1;simp only at c1 c2 c3 c5;clear k hP HP4;go_wp2_with fail
 obtain⟨bs3,hbs3⟩:∃ bs3,bs++lef 2 1++lef l.length 1++lef Ln 1++lef qX 4++lef qY 4=bs3:=⟨_,rfl⟩;have hb3:bs3.length≤1200:=by rw[←hbs3];simp only[List.length_append,zaz];omega
 have HE3:Hid (bs++zbM qX qY Ln l=bs3++l.flatMap (fun r=>refB r.p r.t)):=by
  refine(?_:bs++zbM qX qY Ln l=bs3++l.flatMap (fun r=>refB r.p r.t));rw[←hbs3];simp only[zbM,List.append_assoc]
 rw[hbs3] at HP5;clear hbs3 c1 c2 c3 c5 lB
 go_loopw [35] (fun iv wr=>∃ (i:Nat) (own':Nat→Prop),i≤l.length∧iv=.int .i64 (i:Int)∧Ps g own0 w [(w.heap.size,gcs ⟨qk,qX,qY,(Ln:Int),qro,qrn,qrc,qko,l.length,qkc,qnp,qnt⟩)] (bs3++(l.take i).flatMap (fun r=>refB r.p r.t)) own' wr) (fun iv _=>l.length - zam iv)
 case atStart=>exact⟨0,own5,Nat.zero_le _,rfl,by simpa using HP5.out⟩
 case round=>
  obtain⟨i,own',hi,rfl,hP⟩:=hrel;have HP:Hid _:=hP;by_cases hlt:i<l.length
  ·have hsl:=hP.sl (k:=2) (cs:=l.flatMap fc) HR.out HRB.out
   obtain⟨pb,off,rfl,hbl,hc⟩:=zaB.ref (l:=l) hsl hlt;obtain⟨d0,d1⟩:=hc i hlt;have hvr:=HV.out _ (zkG hlt)
   have htk:(l.take (i+1)).flatMap (fun r=>refB r.p r.t)=(l.take i).flatMap (fun r=>refB r.p r.t)++refB (fat l i).p (fat l i).t:=by
    rw[List.take_add_one,zcU hlt,List.flatMap_append];simp
   have hxl:=zdx HVS.out i;generalize fat l i=rr at*
   obtain⟨p,v⟩:=rr;simp only at d0 d1 hvr htk;have HTK:Hid _:=htk;have HQ4:Hid (Ps g own0 w [(wr.heap.size,(.cells #[.int .u32 (p:Int),.string v] 49)),(w.heap.size,gcs ⟨qk,qX,qY,(Ln:Int),qro,qrn,qrc,(some ⟨pb,off,none⟩),l.length,qkc,qnp,qnt⟩)] (bs3++(l.take i).flatMap (fun r=>refB r.p r.t)) own' (wr.alloc (.cells #[.int .u32 (p:Int),.string v] 49))):=hP.with _ (zq wr _);have q3:(i:Int)<(l.length:Int):=by omega
   have i0:(0:Int)≤(i:Int):=by omega
   obtain⟨xs,hxs⟩:∃ xs,bs3++(l.take i).flatMap (fun r=>refB r.p r.t)=xs:=⟨_,rfl⟩;have hxs':xs.length≤2300:=by rw[←hxs,List.length_append];omega
   rw[hxs] at HQ4;have HXS:Hid (bs3++(l.take i).flatMap (fun r=>refB r.p r.t)=xs):=hxs;obtain⟨W6,hW6⟩:∃ W6,wr.alloc (.cells #[.int .u32 (p:Int),.string v] 49)=W6:=⟨_,rfl⟩;have HW6:Hid _:=hW6;have HP6:Hid (Ps g own0 w [(wr.heap.size,(.cells #[.int .u32 (p:Int),.string v] 49)),(w.heap.size,gcs ⟨qk,qX,qY,(Ln:Int),qro,qrn,qrc,(some ⟨pb,off,none⟩),l.length,qkc,qnp,qnt⟩)] xs own' W6):=hW6▸HQ4.out;clear hP HP hc hsl htk hxl hxs hW6 HQ4;go_wp2_with fail;rw[HW6.out];clear HW6;refine(HRF.out own' xs p v hvr.2 (by omega) hvr.1 W6 HP6.out.wr).mono ?_;rintro e w9 ⟨rfl,k⟩;obtain⟨own9,hP⟩:=HP6.out.step k
   have HE:Hid (Ps g own0 w [(w.heap.size,gcs ⟨qk,qX,qY,(Ln:Int),qro,qrn,qrc,(some ⟨pb,off,none⟩),l.length,qkc,qnp,qnt⟩)] (bs3++(l.take (i+1)).flatMap (fun r=>refB r.p r.t)) own9 w9):=by
    refine(?_:Ps g own0 w [(w.heap.size,gcs ⟨qk,qX,qY,(Ln:Int),qro,qrn,qrc,(some ⟨pb,off,none⟩),l.length,qkc,qnp,qnt⟩)] (bs3++(l.take (i+1)).flatMap (fun r=>refB r.p r.t)) own9 w9);rw[HTK.out,←List.append_assoc,HXS.out];exact hP.less (bx':=[(w.heap.size,gcs ⟨qk,qX,qY,(Ln:Int),qro,qrn,qrc,(some ⟨pb,off,none⟩),l.length,qkc,qnp,qnt⟩)]) (fun p hp=>List.mem_cons_of_mem _ hp)
   clear k hP HP6;go_wp2_with fail
   go_roundw
   case rel=>exact⟨i+1,own9,by omega,by go_num,HE.out⟩
   case measure=>simp[zam];omega
  ·obtain rfl:i=l.length:=by omega
   have q3:¬(l.length:Int)<(l.length:Int):=by omega
   have HE:Hid (Wrote g own0 (bs++zbM qX qY Ln l) w wr):=by
    refine(?_:Wrote g own0 (bs++zbM qX qY Ln l) w wr);have:=hP.wrote;rw[List.take_length] at this;rw[HE3.out];exact this
   clear hP;go_wp2_with fail;refine bodyPost_end (results_none rfl _ _ _) rfl ?_;exact⟨rfl,HE.out⟩
def rref (p:Nat) (t:ByteArray):Bool:=decide (2≤p)&&decide (t.size=32)
theorem zbN (p:Nat) (t:ByteArray) (w:World):Calls Tryz.prog 161 #[.agg #[.int .u32 (p:Int),.string t]] w fun e w'=>e=.returned (.bool (rref p t))∧Below w.heap.size w w':=by
 have HB:Hid _:=zaa w (.cells #[.int .u32 (p:Int),.string t] 49);unfold rref;by_cases h1:2≤p
 ·have q1:(2:Int)≤(p:Int):=by omega
  by_cases h2:t.size=32
  ·have q2:(t.size:Int)=32:=by omega
   go_enter Tryz.func161,Tryz.ntmps161;go_wp2_with fail;go_ret;exact⟨by simp[h1,h2],HB.out⟩
  ·have q2:((t.size:Int)==32)=false:=by simp;omega
   go_enter Tryz.func161,Tryz.ntmps161;go_wp2_with fail;go_ret;exact⟨by simp[h1,h2],HB.out⟩
 ·have q1:¬(2:Int)≤(p:Int):=by omega
  go_enter Tryz.func161,Tryz.ntmps161;go_wp2_with fail;go_ret;exact⟨by simp,HB.out⟩
def noCell (X Y:Nat) (L:Int):Bool:=decide (X=0)&&(decide (Y=0)&&decide (L=0))
theorem zkH (X Y:Nat) (L:Int) (w:World):(binOp .eql 70 (.agg #[.int .u32 (X:Int),.int .u32 (Y:Int),.int .i64 L]) (.agg #[.int .u32 0,.int .u32 0,.int .i64 0])).run Tryz.prog w=.ok (.bool (noCell X Y L)) w:=by
 have hS:Tryz.prog.underlying 70=some (.struct (Tryz.prog.fieldsOf 70)):=by kernel_rfl
 have hp:Tryz.prog.stoodInHeld 70=false:=by kernel_rfl
 have u2:=Tryz.underlying41;have u3:=Tryz.underlying3;rw[run_eql_struct,show(10000:Nat)=9999+1 from rfl,run_equalIn_agg w 9999 70 _ _ hS hp];simp only[Program.fieldsOf,Tryz.underlying70];unfold noCell;by_cases h1:X=0
 ·subst h1
  by_cases h2:Y=0
  ·subst h2
   by_cases h3:L=0
   ·subst h3
    go_simp
   ·go_simp
  ·go_simp
 ·go_simp
def zd8 (q:Pg) (l:List Rw):Bool:=(zbD q.np q.nt||rref q.np q.nt)&&(decide (l.length≤4)&&(zaG l&&(noCell q.X q.Y q.L&&decide (q.kn=0))))
theorem zfk (q:Pg) (l:List Rw) (w:World) (hrn:q.rn=l.length) (hr:zac w q.ro q.rc l):
  Calls Tryz.prog 166 #[gv q] w fun e w'=>e=.returned (.bool (zd8 q l))∧Below w.heap.size w w':=by
 have hmx:l.length≤maxLen:=Nat.le_trans hr.1 hr.2.1;have hbn:=zaa w (gcs q);have hgn:=zq w (gcs q);unfold zd8;obtain⟨W1,hW1⟩:∃ W1,w.alloc (gcs q)=W1:=⟨_,rfl⟩;rw[hW1] at hbn hgn;have HRW:Hid (∀ W:World,Below w.heap.size w W→zac W q.ro q.rc l):=fun W hW=>zac.below hr hW zn
 obtain⟨qk,qX,qY,qL,qro,qrn,qrc,qko,qkn,qkc,qnp,qnt⟩:=q;simp only at hrn HRW ⊢;subst hrn;have HG:Hid (W1.heap[w.heap.size]? =some (gcs ⟨qk,qX,qY,qL,qro,l.length,qrc,qko,qkn,qkc,qnp,qnt⟩)):=hgn;have HB:Hid (Below w.heap.size w W1):=hbn;have HW1:Hid (w.alloc (.cells #[.int .i64 qk,.int .u32 (qX:Int),.int .u32 (qY:Int),.int .i64 qL,.slice qro l.length qrc,.slice qko qkn qkc,.int .u32 (qnp:Int),.string qnt] 155)=W1):=hW1;have heq:=zg5 qnp qnt;have hcq:=zkH qX qY qL;have HRF:Hid _:=zbN qnp qnt;have HQR:Hid (∀ W:World,Below w.heap.size w W→_):=fun W hW=>zdd l qro qrc W (HRW.out W hW)
 have q0:(l.length:Int)≤9223372036854775807:=by simp only[maxLen] at hmx;omega
 clear hbn hgn hW1 hr;obtain⟨nr,hnr⟩:∃ nr,zbD qnp qnt=nr:=⟨_,rfl⟩;obtain⟨rr,hrr⟩:∃ rr,rref qnp qnt=rr:=⟨_,rfl⟩;obtain⟨rl,hrl⟩:∃ rl,zaG l=rl:=⟨_,rfl⟩;obtain⟨nc,hnc⟩:∃ nc,noCell qX qY qL=nc:=⟨_,rfl⟩;rw[hnr] at heq ⊢;rw[hrr] at HRF ⊢;rw[hrl] at HQR ⊢;rw[hnc] at hcq ⊢;clear hnr hrr hrl hnc;simp only[gv];cases nr
 ·go_enter Tryz.func166,Tryz.ntmps166
  go_wp2_with fail;rw[HW1.out];clear HW1;refine(HRF.out _).mono ?_;rintro e w2 ⟨rfl,b2⟩;have HG2:Hid (w2.heap[w.heap.size]? =some (gcs ⟨qk,qX,qY,qL,qro,l.length,qrc,qko,qkn,qkc,qnp,qnt⟩)):=(b2.block _ (zi HG.out).1).trans HG.out;have HB2:Hid (Below w.heap.size w w2):=HB.out.trans (b2.mono HB.out.size);obtain⟨⟨c0,c1,c2,c3,c4,c5,c6,c7⟩,lB⟩:=zaP HG2.out;simp only at c0 c1 c2 c3 c4 c5 c6 c7;clear b2;cases rr
  ·go_wp2_with fail
   go_ret;exact⟨by simp,HB2.out⟩
  ·by_cases h4:l.length≤4
   ·have q4:(l.length:Int)≤4:=by omega
    go_wp2_with fail;refine(HQR.out _ HB2.out).mono ?_;rintro e w5 ⟨rfl,b5⟩;have HB5:Hid (Below w.heap.size w w5):=(HB2.out).trans (b5.mono (HB2.out).size);obtain⟨⟨c0,c1,c2,c3,c4,c5,c6,c7⟩,lB⟩:=zaP ((b5.block _ (zi HG2.out).1).trans HG2.out);simp only at c0 c1 c2 c3 c4 c5 c6 c7;clear b5;cases rl
    ·go_wp2_with fail
     go_ret;exact⟨by simp,HB5.out⟩
    ·cases nc
     ·go_wp2_with fail
      go_ret;exact⟨by simp,HB5.out⟩
     ·by_cases hk:qkn=0
      ·subst hk
       go_wp2_with fail;go_ret;exact⟨by simp,HB5.out⟩
      ·have q5:((qkn:Int)==0)=false:=by simp;omega
       go_wp2_with fail;go_ret;exact⟨by simp[hk],HB5.out⟩
   ·have q4:¬(l.length:Int)≤4:=by omega
    go_wp2_with fail;go_ret;exact⟨by simp,HB2.out⟩
 ·go_enter Tryz.func166,Tryz.ntmps166
  by_cases h4:l.length≤4
  ·have q4:(l.length:Int)≤4:=by omega
   go_wp2_with fail;rw[HW1.out];refine(HQR.out _ HB.out).mono ?_;rintro e w5 ⟨rfl,b5⟩;have HB5:Hid (Below w.heap.size w w5):=(HB.out).trans (b5.mono (HB.out).size);obtain⟨⟨c0,c1,c2,c3,c4,c5,c6,c7⟩,lB⟩:=zaP ((b5.block _ (zi HG.out).1).trans HG.out);simp only at c0 c1 c2 c3 c4 c5 c6 c7;clear b5;cases rl
   ·go_wp2_with fail
    go_ret;exact⟨by simp,HB5.out⟩
   ·cases nc
    ·go_wp2_with fail
     go_ret;exact⟨by simp,HB5.out⟩
    ·by_cases hk:qkn=0
     ·subst hk
      go_wp2_with fail;go_ret;exact⟨by simp,HB5.out⟩
     ·have q5:((qkn:Int)==0)=false:=by simp;omega
      go_wp2_with fail;go_ret;exact⟨by simp[hk],HB5.out⟩
  ·have q4:¬(l.length:Int)≤4:=by omega
   go_wp2_with fail;rw[HW1.out];go_ret;exact⟨by simp,HB.out⟩
def zcp (q:Pg) (ks:List Rf):Bool:=decide (2≤ks.length∧ks.length≤4)&&(ks.all (fun r=>rref r.p r.t)&&(zaf q.X q.Y q.L&&(decide (0<q.L)&&(decide (q.rn=0)&&zbD q.np q.nt))))
theorem zmI {ks:List Rf} {i:Nat} (h:i<ks.length):(ks.take (i+1)).all (fun r=>rref r.p r.t)=((ks.take i).all (fun r=>rref r.p r.t)&&rref (fat ks i).p (fat ks i).t):=by
 rw[List.take_add_one,zcU h,List.all_append];simp
theorem zkI {ks:List Rf} {i:Nat} (h:i<ks.length) (hf:rref (fat ks i).p (fat ks i).t=false):ks.all (fun r=>rref r.p r.t)=false:=by
 rw[List.all_eq_false];exact⟨fat ks i,zkG h,by rw[hf];simp⟩
theorem zeo (q:Pg) (ks:List Rf) (w:World) (hX:q.X<4294967296) (hY:q.Y<4294967296) (hrn:q.kn=ks.length) (hr:zaB w q.ko q.kc ks):
  Calls Tryz.prog 167 #[gv q] w fun e w'=>e=.returned (.bool (zcp q ks))∧Below w.heap.size w w':=by
 have hmx:ks.length≤maxLen:=Nat.le_trans hr.1 hr.2.1;have hbn:=zaa w (gcs q);have hgn:=zq w (gcs q);unfold zcp;obtain⟨W1,hW1⟩:∃ W1,w.alloc (gcs q)=W1:=⟨_,rfl⟩;rw[hW1] at hbn hgn;have HRW:Hid (∀ W:World,Below w.heap.size w W→zaB W q.ko q.kc ks):=fun W hW=>zaB.below hr hW zn
 obtain⟨qk,qX,qY,qL,qro,qrn,qrc,qko,qkn,qkc,qnp,qnt⟩:=q;simp only at hrn HRW hX hY ⊢;subst hrn;have HG:Hid (W1.heap[w.heap.size]? =some (gcs ⟨qk,qX,qY,qL,qro,qrn,qrc,qko,ks.length,qkc,qnp,qnt⟩)):=hgn;have HB:Hid (Below w.heap.size w W1):=hbn;have HW1:Hid (w.alloc (.cells #[.int .i64 qk,.int .u32 (qX:Int),.int .u32 (qY:Int),.int .i64 qL,.slice qro qrn qrc,.slice qko ks.length qkc,.int .u32 (qnp:Int),.string qnt] 155)=W1):=hW1;have heq:=zg5 qnp qnt;have HRF:Hid _:=zbN;have HCR:Hid _:=zbU qX qY qL hX hY;have q0:(ks.length:Int)≤9223372036854775807:=by simp only[maxLen] at hmx;omega
 clear hbn hgn hW1 hr;simp only[gv];by_cases h2:2≤ks.length
 ·have q2:¬(ks.length:Int)<2:=by omega
  by_cases h4:ks.length≤4
  ·have q4:¬(4:Int)<(ks.length:Int):=by omega
   go_enter Tryz.func167,Tryz.ntmps167;go_wp2_with fail;rw[HW1.out];clear HW1
   go_loopw [18] (fun iv wr=>∃ i:Nat,i≤ks.length∧iv=.int .i64 (i:Int)∧(ks.take i).all (fun r=>rref r.p r.t)=true∧Below W1.heap.size W1 wr) (fun iv _=>ks.length - zam iv)
   case atStart=>exact⟨0,Nat.zero_le _,rfl,by simp,Below.refl _ _⟩
   case round=>
    obtain⟨i,hi,rfl,hal,hb⟩:=hrel;have HA:Hid _:=hal;have HBx:Hid (Below W1.heap.size W1 wr):=hb;have HBw:Hid (Below w.heap.size w wr):=HB.out.trans (hb.mono HB.out.size);have HGw:Hid (wr.heap[w.heap.size]? =some (gcs ⟨qk,qX,qY,qL,qro,qrn,qrc,qko,ks.length,qkc,qnp,qnt⟩)):=(hb.block _ (zi HG.out).1).trans HG.out;clear hal hb;by_cases hlt:i<ks.length
    ·obtain⟨pb,off,rfl,hbl,hc⟩:=(HRW.out wr HBw.out).ref hlt
     obtain⟨d0,d1⟩:=hc i hlt;have hat:=zmI hlt;have haf:=zkI hlt;have HCF:Hid _:=HRF.out (fat ks i).p (fat ks i).t;generalize fat ks i=rr at*
     obtain⟨p,t⟩:=rr;simp only at d0 d1 hat haf HCF;have HAT:Hid _:=hat;have HAF:Hid _:=haf;have HBr:Hid (Below wr.heap.size wr (wr.alloc (.cells #[.int .u32 (p:Int),.string t] 49))):=zaa wr _;have q5:(i:Int)<(ks.length:Int):=by omega
     have i0:(0:Int)≤(i:Int):=by omega
     obtain⟨rb,hrb⟩:∃ rb,rref p t=rb:=⟨_,rfl⟩;rw[hrb] at HCF HAT;have HRB:Hid (rref p t=rb):=hrb;clear hc hat haf hrb;go_wp2_with fail;refine(HCF.out _).mono ?_;rintro e w2 ⟨rfl,b2⟩;have HB2:Hid (Below W1.heap.size W1 w2):=HBx.out.trans ((HBr.out.trans (b2.mono (by simp))).mono HBx.out.size);clear b2;cases rb
     ·have HE:Hid (ks.all (fun r=>rref r.p r.t)=false):=HAF.out HRB.out
      have HBe:Hid (Below w.heap.size w w2):=HB.out.trans (HB2.out.mono HB.out.size);go_wp2_with fail;go_ret;rw[HE.out];exact⟨by simp,HBe.out⟩
     ·have HE:Hid ((ks.take (i+1)).all (fun r=>rref r.p r.t)=true):=by
       refine(?_:(ks.take (i+1)).all (fun r=>rref r.p r.t)=true);rw[HAT.out,HA.out];rfl
      go_wp2_with fail
      go_roundw
      case rel=>exact⟨i+1,by omega,by go_num,HE.out,HB2.out⟩
      case measure=>simp[zam];omega
    ·obtain rfl:i=ks.length:=by omega
     have q5:¬(ks.length:Int)<(ks.length:Int):=by omega
     have HE:Hid (ks.all (fun r=>rref r.p r.t)=true):=by
      have:=HA.out;rw[List.take_length] at this;exact this
     obtain⟨⟨c0,c1,c2,c3,c4,c5,c6,c7⟩,lB⟩:=zaP HGw.out;simp only at c0 c1 c2 c3 c4 c5 c6 c7;go_wp2_with fail;refine(HCR.out _).mono ?_;rintro e w2 ⟨rfl,b2⟩;have HBe:Hid (Below w.heap.size w w2):=HBw.out.trans (b2.mono HBw.out.size);have hg2:=(b2.block _ (zi HGw.out).1).trans HGw.out;clear c0 c1 c2 c3 c4 c5 c6 c7 lB;obtain⟨⟨c0,c1,c2,c3,c4,c5,c6,c7⟩,lB⟩:=zaP hg2;simp only at c0 c1 c2 c3 c4 c5 c6 c7;clear b2 hg2;cases hrs:zaf qX qY qL
     ·have HS:Hid (zaf qX qY qL=false):=hrs
      clear hrs;go_wp2_with fail;go_ret;exact⟨by rw[HE.out,HS.out];simp,HBe.out⟩
     ·have HS:Hid (zaf qX qY qL=true):=hrs
      clear hrs;by_cases hL:0<qL
      ·by_cases hz:qrn=0
       ·subst hz
        cases hnr:zbD qnp qnt
        ·rw[hnr] at heq
         have HNR:Hid (zbD qnp qnt=false):=hnr;clear hnr;go_wp2_with fail;go_ret;exact⟨by rw[HE.out,HS.out,HNR.out];simp,HBe.out⟩
        ·rw[hnr] at heq
         have HNR:Hid (zbD qnp qnt=true):=hnr;clear hnr;go_wp2_with fail;go_ret;exact⟨by rw[HE.out,HS.out,HNR.out];simp,HBe.out⟩
       ·have q7:((qrn:Int)==0)=false:=by simp;omega
        go_wp2_with fail;go_ret;exact⟨by rw[HE.out,HS.out];simp[hz],HBe.out⟩
      ·have q6:decide (0<qL)=false:=decide_eq_false hL
       have HLz:Hid (decide (0<qL)=false):=q6;go_wp2_with fail;go_ret;exact⟨by rw[HE.out,HS.out,HLz.out];simp,HBe.out⟩
  ·have q4:(4:Int)<(ks.length:Int):=by omega
   go_enter Tryz.func167,Tryz.ntmps167;go_wp2_with fail;rw[HW1.out];go_ret;exact⟨by simp,HB.out⟩
 ·have q2:(ks.length:Int)<2:=by omega
  go_enter Tryz.func167,Tryz.ntmps167;go_wp2_with fail;rw[HW1.out];go_ret;exact⟨by simp[h2],HB.out⟩
def zdi (q:Pg) (l:List Rw) (ks:List Rf):Bool:=if q.k=1 then zd8 q l else if q.k=2 then zcp q ks else false
structure PgAt (w:World) (q:Pg) (l:List Rw) (ks:List Rf):Prop where
 X32:q.X<4294967296
 Y32:q.Y<4294967296
 rn:q.rn=l.length
 rows:zac w q.ro q.rc l
 kn:q.kn=ks.length
 kids:zaB w q.ko q.kc ks
theorem PgAt.below {w w':World} {q:Pg} {l:List Rw} {ks:List Rf} {B:Nat} (h:PgAt w q l ks) (hb:Below B w w') (hB:w.heap.size≤B):PgAt w' q l ks:=⟨h.X32,h.Y32,h.rn,zac.below h.rows hb hB,h.kn,zaB.below h.kids hb hB⟩
theorem zdj (q:Pg) (l:List Rw) (ks:List Rf) (w:World) (h:PgAt w q l ks):
  Calls Tryz.prog 120 #[gv q] w fun e w'=>e=.returned (.bool (zdi q l ks))∧Below w.heap.size w w':=by
 have hbn:=zaa w (gcs q);have HL:Hid (∀ _:True,_):=fun _=>zfk q l (w.alloc (gcs q)) h.rn (zac.below h.rows hbn zn)
 have HI:Hid (∀ _:True,_):=fun _=>zeo q ks (w.alloc (gcs q)) h.X32 h.Y32 h.kn (zaB.below h.kids hbn zn)
 have HB:Hid _:=hbn;unfold zdi;obtain⟨rl,hrl⟩:∃ rl,zd8 q l=rl:=⟨_,rfl⟩;obtain⟨ri,hri⟩:∃ ri,zcp q ks=ri:=⟨_,rfl⟩;rw[hrl] at HL ⊢;rw[hri] at HI ⊢;clear hrl hri hbn h;obtain⟨qk,qX,qY,qL,qro,qrn,qrc,qko,qkn,qkc,qnp,qnt⟩:=q;simp only[gv,gcs] at HL HI HB ⊢;by_cases h1:qk=1
 ·subst h1
  go_enter Tryz.func120,Tryz.ntmps120;go_wp2_with fail;refine Calls.mono (HL.out trivial) ?_;rintro e w2 ⟨rfl,b2⟩;have HB2:Hid (Below w.heap.size w w2):=HB.out.trans (b2.mono HB.out.size);clear b2;go_wp2_with fail;go_ret;exact⟨by simp,HB2.out⟩
 ·by_cases h2:qk=2
  ·subst h2
   go_enter Tryz.func120,Tryz.ntmps120;go_wp2_with fail;refine Calls.mono (HI.out trivial) ?_;rintro e w2 ⟨rfl,b2⟩;have HB2:Hid (Below w.heap.size w w2):=HB.out.trans (b2.mono HB.out.size);clear b2;go_wp2_with fail;go_ret;exact⟨by simp,HB2.out⟩
  ·have q1:(qk==1)=false:=by simpa using h1
   have q2:(qk==2)=false:=by simpa using h2
   go_enter Tryz.func120,Tryz.ntmps120;go_wp2_with fail;go_ret;exact⟨by simp,HB.out⟩
def zg7 (q:Pg) (l:List Rw) (ks:List Rf):List UInt8:=if q.k=1 then zcV l q.np q.nt else zbM q.X q.Y q.L.toNat ks
theorem zkJ {g:Nat} {own:Nat→Prop} {bs:List UInt8} {W:World} (h:Wr g own bs W) (hne:0<bs.length):∃ o cap,W.cell? ⟨g,0,none⟩=some (.slice o bs.length cap)∧(convert 140 9 (.slice o bs.length cap)).run Tryz.prog W=.ok (.string ⟨bs.toArray⟩) W:=by
 obtain⟨v,h1,h2,-⟩:=h.cell;obtain⟨o,cap,rfl,hs⟩:=zai h2;refine⟨o,cap,by rw[zr h1];rfl,?_⟩;obtain⟨b,off,rfl,hlt,hc⟩:=hs.2.2.2.2 hne;refine run_convert_bytes_back W 140 9 5 ⟨b,off,none⟩ cap bs Tryz.underlying140 Tryz.underlying5 Tryz.underlying9 fun j hj=>?_
 rw[Addr.add_lit];refine hc j _ ?_;simp[bc,List.getElem?_eq_getElem hj]
theorem zeL {q:Pg} {l:List Rw} (h:zd8 q l=true):l.length≤4∧zaG l=true∧(∀ r∈l,r.v.size≤16∧r.x<4294967296∧r.y<4294967296)∧q.nt.size≤100:=by
 unfold zd8 at h;simp only[Bool.and_eq_true,Bool.or_eq_true,decide_eq_true_eq] at h;obtain⟨h1,h2,h3,-,-⟩:=h;refine⟨h2,h3,fun r hr=>?_,?_⟩
 ·have ho:=zbJ h3 r hr
  obtain⟨i,hi,rfl⟩:=List.getElem_of_mem hr;have hrr:=((zaU l i).1 (((zaH l).1 h3).2 i hi)).1;rw[zb2 hi] at hrr;unfold zbj at hrr;simp only[decide_eq_true_eq] at hrr;exact⟨hrr.2.2,by omega,by omega⟩
 ·rcases h1 with h1|h1
  ·unfold zbD at h1
   simp only[Bool.and_eq_true,decide_eq_true_eq] at h1;rw[h1.2];decide
  ·unfold rref at h1
   simp only[Bool.and_eq_true,decide_eq_true_eq] at h1;omega
theorem zg8 {q:Pg} {ks:List Rf} (h:zcp q ks=true):ks.length≤4∧(∀ r∈ks,r.t.size≤100)∧q.L=(q.L.toNat:Int)∧q.L.toNat≤1000:=by
 unfold zcp at h;simp only[Bool.and_eq_true,decide_eq_true_eq,List.all_eq_true] at h;obtain⟨h1,h2,h3,h4,-,-⟩:=h
 have hr:q.L≤31:=by
  unfold zaf at h3;simp only[decide_eq_true_eq] at h3;omega
 refine⟨h1.2,fun r hr=>?_,by omega,by omega⟩;have:=h2 r hr;unfold rref at this;simp only[Bool.and_eq_true,decide_eq_true_eq] at this;omega
theorem zkK (q:Pg) (l:List Rw) (ks:List Rf) (w:World) (h:PgAt w q l ks) (hnp:q.np<4294967296) (hkp:∀ r∈ks,r.p<4294967296) (hR:zdi q l ks=true):
  Calls Tryz.prog 197 #[gv q] w fun e w'=>e=.returned (.tuple #[.string ⟨(zg7 q l ks).toArray⟩,.int .i64 0])∧Below w.heap.size w w':=by
 have hbn:=zaa w (gcs q);have hgn:=zq w (gcs q);have HPR:Hid (∀ _:True,_):=fun _=>zdj q l ks (w.alloc (gcs q)) (h.below hbn zn)
 rw[hR] at HPR
 have hkk:(q.k=1∧zd8 q l=true)∨(q.k=2∧zcp q ks=true):=by
  unfold zdi at hR;by_cases h1:q.k=1
  ·rw[if_pos h1] at hR;exact .inl ⟨h1,hR⟩
  ·rw[if_neg h1] at hR
   by_cases h2:q.k=2
   ·rw[if_pos h2] at hR;exact .inr ⟨h2,hR⟩
   ·rw[if_neg h2] at hR;cases hR
 have HAT:Hid (PgAt w q l ks):=h;obtain⟨W1,hW1⟩:∃ W1,w.alloc (gcs q)=W1:=⟨_,rfl⟩;rw[hW1] at hbn hgn HPR;have HB:Hid (Below w.heap.size w W1):=hbn;have HG:Hid (W1.heap[w.heap.size]? =some (gcs q)):=hgn;have HKP:Hid (∀ r∈ks,r.p<4294967296):=hkp;have HLF:Hid _:=fun(g:Nat)=>zg6 g (fun j=>j=g) [] q l (by simp)
 have HIN:Hid _:=fun(g:Nat)=>zf6 g (fun j=>j=g) [] q ks q.L.toNat (by simp)
 have HW1:Hid _:=hW1;clear hbn hgn hW1 hR hkp h;obtain⟨pg,hpg⟩:∃ pg,zg7 q l ks=pg:=⟨_,rfl⟩;have HPG:Hid (zg7 q l ks=pg):=hpg;rw[hpg];clear hpg;obtain⟨qk,qX,qY,qL,qro,qrn,qrc,qko,qkn,qkc,qnp,qnt⟩:=q;simp only at hkk hnp HLF HIN HW1;have HW1':Hid (w.alloc (.cells #[.int .i64 qk,.int .u32 (qX:Int),.int .u32 (qY:Int),.int .i64 qL,.slice qro qrn qrc,.slice qko qkn qkc,.int .u32 (qnp:Int),.string qnt] 155)=W1):=HW1.out;simp only[gv] at HPR ⊢;go_enter Tryz.func197,Tryz.ntmps197;go_wp2_with fail;rw[HW1'.out];clear HW1 HW1';refine Calls.mono (HPR.out trivial) ?_;rintro e w2 ⟨rfl,b2⟩;have HB2:Hid (Below w.heap.size w w2):=HB.out.trans (b2.mono HB.out.size);obtain⟨⟨c0,c1,c2,c3,c4,c5,c6,c7⟩,lB⟩:=zaP ((b2.block _ (zi HG.out).1).trans HG.out);simp only at c0 c1 c2 c3 c4 c5 c6 c7;have HWR:Hid (Wr w2.heap.size (fun j=>j=w2.heap.size) [] (w2.alloc (.cells #[.slice none 0 0] 301))):=⟨⟨_,zq w2 _,World.ownsRow_nil _ _ _ _,fun b hb=>by simp[Value.ownBlock] at hb⟩,rfl,fun j hj=>by subst hj;simp⟩
 clear b2 HPR;rcases hkk with⟨rfl,hr⟩|⟨rfl,hr⟩
 ·have hf:=zeL hr
  simp only at hf
  have HPB:Hid (zcV l qnp qnt=pg):=by
   refine(?_:zcV l qnp qnt=pg);have:=HPG.out;unfold zg7 at this;simpa using this
  have HCL:=HLF.out w2.heap.size (by omega) hf.2.2.1 hnp hf.2.2.2 (w2.alloc (.cells #[.slice none 0 0] 301)) HWR.out HAT.out.rn (zac.below (zac.below HAT.out.rows HB2.out zn) (zaa w2 _) zn) (fun b off e h0 eb=>?_)
  ·simp only[List.nil_append,gv] at HCL
   rw[HPB.out] at HCL;have HCC:Hid (∀ _:True,_):=fun _=>HCL
   have hpos:0<pg.length:=by rw[←HPB.out];unfold zcV;simp[lef]
   clear HCL hf hr;go_wp2_with fail;refine Calls.mono (HCC.out trivial) ?_;rintro e w4 ⟨rfl,own4,k1,k2,k3⟩;obtain⟨o4,cap4,cw,hcv⟩:=zkJ k3 hpos;have lw:w2.heap.size<w4.heap.size:=k3.lt;have HBf:Hid (Below w.heap.size w w4):=HB2.out.trans ⟨k2.os,k2.tape,k2.output,by have:=k2.size;simp at this;omega,fun j hj=>(k2.block j (by have:=HB2.out.size;simp;omega) (fun e=>by have:=HB2.out.size;omega)).trans ((zaa w2 _).block j (by have:=HB2.out.size;omega))⟩;clear k1 k2 k3 HCC;go_wp2_with fail;go_ret2;exact⟨rfl,HBf.out⟩
  ·obtain⟨b',off',e',hlt',-⟩:=HAT.out.rows.2.2.2.2 h0
   rw[e] at e';cases e';have:=HB2.out.size;omega
 ·have hf:=zg8 hr
  simp only at hf
  have HPB:Hid (zbM qX qY qL.toNat ks=pg):=by
   refine(?_:zbM qX qY qL.toNat ks=pg);have:=HPG.out;unfold zg7 at this;simpa using this
  have HCL:=HIN.out w2.heap.size (by omega) (fun r hr'=>⟨hf.2.1 r hr',HKP.out r hr'⟩) HAT.out.X32 HAT.out.Y32 hf.2.2.1 hf.2.2.2 (w2.alloc (.cells #[.slice none 0 0] 301)) HWR.out HAT.out.kn (zaB.below (zaB.below HAT.out.kids HB2.out zn) (zaa w2 _) zn) (fun b off e h0 eb=>?_)
  ·simp only[List.nil_append,gv] at HCL
   rw[HPB.out] at HCL;have HCC:Hid (∀ _:True,_):=fun _=>HCL
   have hpos:0<pg.length:=by rw[←HPB.out];unfold zbM;simp[lef]
   clear HCL hf hr;go_wp2_with fail;refine Calls.mono (HCC.out trivial) ?_;rintro e w4 ⟨rfl,own4,k1,k2,k3⟩;obtain⟨o4,cap4,cw,hcv⟩:=zkJ k3 hpos;have lw:w2.heap.size<w4.heap.size:=k3.lt;have HBf:Hid (Below w.heap.size w w4):=HB2.out.trans ⟨k2.os,k2.tape,k2.output,by have:=k2.size;simp at this;omega,fun j hj=>(k2.block j (by have:=HB2.out.size;simp;omega) (fun e=>by have:=HB2.out.size;omega)).trans ((zaa w2 _).block j (by have:=HB2.out.size;omega))⟩;clear k1 k2 k3 HCC;go_wp2_with fail;go_ret2;exact⟨rfl,HBf.out⟩
  ·obtain⟨b',off',e',hlt',-⟩:=HAT.out.kids.2.2.2.2 h0
   rw[e] at e';cases e';have:=HB2.out.size;omega
theorem zkL (q:Pg) (l:List Rw) (ks:List Rf) (w:World) (h:PgAt w q l ks) (hR:zdi q l ks=false):
  Calls Tryz.prog 197 #[gv q] w fun e w'=>e=.returned (.tuple #[.string ⟨#[]⟩,.int .i64 90])∧Below w.heap.size w w':=by
 have hbn:=zaa w (gcs q);have HPR:Hid (∀ _:True,_):=fun _=>zdj q l ks (w.alloc (gcs q)) (h.below hbn zn)
 rw[hR] at HPR;have HB:Hid (Below w.heap.size w (w.alloc (gcs q))):=hbn;clear hbn hR h;go_enter Tryz.func197,Tryz.ntmps197;go_wp2_with fail;refine Calls.mono (HPR.out trivial) ?_;rintro e w2 ⟨rfl,b2⟩;have HB2:Hid (Below w.heap.size w w2):=HB.out.trans (b2.mono HB.out.size);clear b2 HPR HB;go_wp2_with fail;go_ret2;exact⟨rfl,HB2.out⟩
def Rd (g:Nat) (rest:ByteArray) (sh:Bool) (W:World):Prop:=W.heap[g]? =some (.cells #[.string rest,.bool sh] 193 (0,0))
theorem zb8 {g:Nat} {rest:ByteArray} {sh:Bool} {W:World} (h:Rd g rest sh W):W.cell? ⟨g,0,none⟩=some (.string rest)∧W.cell? ⟨g,1,none⟩=some (.bool sh)∧g<W.heap.size∧W.frozen? ⟨g,0,none⟩=false∧W.frozen? ⟨g,1,none⟩=false:=
 ⟨by rw[zr h];rfl,by rw[zr h];rfl,(zi h).1,frozen_of_row W _ 0 _ _ h,frozen_of_row W _ 1 _ _ h⟩
abbrev Bo (g:Nat) (w w':World):Prop:=But (fun k=>k=g) w w'
theorem zkM (W:World) (g k:Nat) (v:Value):Bo g W (W.setCell ⟨g,k,none⟩ v):=⟨rfl,rfl,rfl,by simp[World.setCell],fun j _ hn=>Below.heap_setCell _ _ _ _ (fun e=>hn e)⟩
theorem zoD {g:Nat} {rest r:ByteArray} {sh:Bool} {W:World} (h:Rd g rest sh W):Rd g r sh (W.setCell ⟨g,0,none⟩ (.string r)):=by
 have:=zx W g 0 _ _ (.string r) h;simpa [Rd] using this
theorem zoE {g:Nat} {rest:ByteArray} {sh b:Bool} {W:World} (h:Rd g rest sh W):Rd g rest b (W.setCell ⟨g,1,none⟩ (.bool b)):=by
 have:=zx W g 1 _ _ (.bool b) h;simpa [Rd] using this
theorem zkN (g:Nat) (rest:ByteArray) (sh:Bool) (n:Nat) (hno:sh=true∨rest.size<n) (w:World) (h:Rd g rest sh w):
  Calls Tryz.prog 201 #[.pointer (some ⟨g,0,none⟩),.int .i64 (n:Int)] w fun e w'=>e=.returned (.string ⟨#[]⟩)∧Rd g rest true w'∧Bo g w w':=by
 obtain⟨c0,c1,lg,f0,f1⟩:=zb8 h;have HF:Hid (Rd g rest true (w.setCell ⟨g,1,none⟩ (.bool true))∧Bo g w (w.setCell ⟨g,1,none⟩ (.bool true))):=⟨zoE h,zkM w g 1 _⟩;clear h;cases sh
 ·have hlt:rest.size<n:=by simpa using hno
  have q1:(rest.size:Int)<(n:Int):=by omega
  go_enter Tryz.func201,Tryz.ntmps201;go_wp2_with fail;go_ret;exact⟨rfl,HF.out⟩
 ·go_enter Tryz.func201,Tryz.ntmps201
  go_wp2_with fail;go_ret;exact⟨rfl,HF.out⟩
theorem zkO (g:Nat) (rest:ByteArray) (n:Nat) (hr:n≤rest.size) (w:World) (h:Rd g rest false w):
  Calls Tryz.prog 201 #[.pointer (some ⟨g,0,none⟩),.int .i64 (n:Int)] w fun e w'=>e=.returned (.string (rest.extract 0 n))∧Rd g (rest.extract n rest.size) false w'∧Bo g w w':=by
 obtain⟨c0,c1,lg,f0,f1⟩:=zb8 h;have HF:Hid (Rd g (rest.extract n rest.size) false (w.setCell ⟨g,0,none⟩ (.string (rest.extract n rest.size)))∧Bo g w (w.setCell ⟨g,0,none⟩ (.string (rest.extract n rest.size)))):=⟨zoD h,zkM w g 0 _⟩;clear h;have q1:¬(rest.size:Int)<(n:Int):=by omega
 have q2:(n:Int)≤(rest.size:Int):=by omega
 have q3:(0:Int)≤(n:Int):=by omega
 go_enter Tryz.func201,Tryz.ntmps201;go_wp2_with fail;go_ret;exact⟨rfl,HF.out⟩
end Rw
end Go.Proofs.YtokfnghckpgjmaaGreatDoor
