/- A range over a function whose body keeps rows of its own, and what the function itself keeps; what comes is not known ahead; left by its end, by a return or by a label. -/
import Derived.Test.YtfaflomephjkgaaGreatDoorQDG
import Derived.OrdersHeld
set_option maxRecDepth 100000
set_option maxHeartbeats 2000000
namespace Go.Proofs.YtfaflomephjkgaaGreatDoor.Rd
open Go.RowKit
theorem below_put {B l:Nat} (W:World) (o:Obj) (h:B≤l):Below B W (W.putObj l o):=
 ⟨rfl,rfl,rfl,by simp[World.putObj],fun k hk=>World.putObj_heap_other (by omega)⟩
theorem two_new (w:World) (a b:Obj):((w.alloc a).alloc b).heap[w.heap.size]? =some a∧((w.alloc a).alloc b).heap[w.heap.size+1]? =some b∧Below w.heap.size w ((w.alloc a).alloc b):=by
 refine⟨?_,?_,((Below.refl _ w).alloc (Nat.le_refl _) _).alloc (by simp) _⟩
 ·exact(Below.heap_alloc _ _ _ (by simp)).trans (heap_alloc_new w a)
 ·have:=heap_alloc_new (w.alloc a) b;simpa using this
def Kz (b:Nat) (A B:World):Prop:=Below b A B∧∀ (j:Nat) (o:Obj),A.heap[j]? =some o→o.isCells=true→B.heap[j]? =some o
theorem Kz.of_below {b:Nat} {A B:World} (h:Below A.heap.size A B) (hb:b≤A.heap.size):Kz b A B:=⟨h.mono hb,fun j _ ho _=>(h.block j (Array.getElem?_eq_some_iff.1 ho).1).trans ho⟩
theorem Kz.put {b:Nat} (W:World) (l:Nat) (o o':Obj) (h:W.heap[l]? =some o) (hc:o.isCells=false) (hl:b≤l):Kz b W (W.putObj l o'):=
 ⟨below_put W o' hl,fun j p hp hpc=>by
  by_cases e:j=l
  ·subst e;rw[h] at hp;cases hp;rw[hc] at hpc;cases hpc
  ·exact(World.putObj_heap_other e).trans hp⟩
def Keeps (Sx:Nat→Prop) (A B:World):Prop:=A.heap.size≤B.heap.size∧∀ j,Sx j→j<A.heap.size→B.heap[j]? =A.heap[j]?
theorem Keeps.trans {Sx:Nat→Prop} {A B C:World} (h:Keeps Sx A B) (k:Keeps Sx B C):Keeps Sx A C:=⟨Nat.le_trans h.1 k.1,fun j hj hl=>(k.2 j hj (Nat.lt_of_lt_of_le hl h.1)).trans (h.2 j hj hl)⟩
theorem Keeps.put {Sx:Nat→Prop} (W:World) (l:Nat) (o:Obj) (h:¬Sx l):Keeps Sx W (W.putObj l o):=⟨by simp[World.putObj],fun j hj _=>World.putObj_heap_other fun e=>h (by rw[←e];exact hj)⟩
theorem Keeps.below {Sx:Nat→Prop} {A B:World} (h:Below A.heap.size A B):Keeps Sx A B:=⟨h.size,fun j _ hl=>h.block j hl⟩
theorem Keeps.refl (Sx:Nat→Prop) (A:World):Keeps Sx A A:=⟨Nat.le_refl _,fun _ _ _=>rfl⟩
def Kn (B r:Nat) (A C:World):Prop:=∀ (j:Nat) (o:Obj),B≤j→j≠r→A.heap[j]? =some o→o.isCells=false→C.heap[j]? =some o
theorem Kn.trans {B r:Nat} {A C D:World} (h:Kn B r A C) (k:Kn B r C D):Kn B r A D:=fun j o hB hr ho hc=>k j o hB hr (h j o hB hr ho hc) hc
theorem Kn.below {B r:Nat} {A C:World} (h:Below A.heap.size A C):Kn B r A C:=fun j _ _ _ ho _=>(h.block j (Array.getElem?_eq_some_iff.1 ho).1).trans ho
theorem Kn.put (B r:Nat) (W:World) (o:Obj):Kn B r W (W.putObj r o):=fun _ _ _ hr ho _=>(World.putObj_heap_other hr).trans ho
def lPost7 (B:Nat) (Sx:Nat→Prop) (J Jx:World→Prop) (jump:Code) (W:World):Exit→Act→World→Prop
 |.normal,_,W'=>KeepsFrom B W W'∧Keeps Sx W W'∧J W'
 |.exit i,_,W'=>jump=.exit i∧KeepsFrom B W W'∧Jx W'
 |.ret,_,W'=>jump=.ret∧KeepsFrom B W W'∧Jx W'
 |_,_,_=>False
theorem range_law7 {F:Fence} {n:Nat} {P:Program} {g:Operand} {ps:Array Tmp} {assign body:Code} {Q:Exit→Act→World→Prop} {a:Act} {w:World}
  (hro:F.round=none) (h1:1≤n) {gf:Nat} {lb:Array Value} (hg:a.eval g=.func (.func gf) #[] lb) (hFg:F.fn gf) (eg:∀ args w,(callFunc gf args).run P w=.ok (.enter gf args) w)
  {ι α:Type} (encs:α→Array Value) (hps:∀ k,(encs k).size=ps.size) (step:ι→α→ι) (ok:ι→α→Prop) (fin:ι→Prop) (i0:ι) (Sx:Nat→Prop) (hSx:¬Sx (w.heap.size+1))
  (J:ι→World→Prop) (Jx:World→Prop) (jump:Code) (hJ:∀ k W W',J k W→Kz w.heap.size W W'→J k W') (hJx:∀ W W',Jx W→Kz w.heap.size W W'→Jx W') (h0:J i0 w)
  (A:α→Act→World→Prop) (hA:∀ k a' W l o',A k a' W→w.heap.size≤l→l<w.heap.size+2→A k a' (W.putObj l o'))
  (hassign:∀ (l:Nat) (i:ι) (k:α) (W:World) (K:Act→World→Prop),ok i k→J i W→w.heap.size+2≤W.heap.size→(∀ a' W',Below W.heap.size W W'→A k a' W'→K a' W')→
   assign.wpIn (F.inRound l) (n - 1 - 1) P (Exit.then K (fun _ _ _=>False)) { tmps:=(ps.zip (encs k)).foldl (fun t (p,v)=>t.setIfInBounds p v) a.tmps,defers:=[] } W)
  (hbody:∀ (l:Nat) (i:ι) (k:α) (a':Act) (W:World),ok i k→J i W→A k a' W→w.heap.size+2≤W.heap.size→body.wpIn (F.inRound l) (n - 1 - 1) P (lPost7 w.heap.size Sx (J (step i k)) Jx jump W) a' W)
  (hiter:∀ (l:Nat) (W1:World),l=w.heap.size+1→Below w.heap.size w W1→W1.heap.size=w.heap.size+2→∀ (R:ι→World→Prop) (Rx:World→Prop),(∀ k W W',R k W→Kz W1.heap.size W W'→R k W')→(∀ W W',Rx W→Kz W1.heap.size W W'→Rx W')→(∀ k W,R k W→J k W)→
   (∀ i k W,ok i k→R i W→YieldAt F (n - 1 - 1) P l (encs k) W fun e W'=>(e=.returned (.bool true)∧R (step i k) W'∧Keeps Sx W W'∧Kn w.heap.size l W W')∨(e=.returned (.bool false)∧Rx W'))→R i0 W1→
   CallsIn F (n - 1) P gf (#[.func (.yield l) #[] #[]]++lb) W1 fun e W'=>(∃ v,e=.returned v)∧((∃ i,fin i∧R i W')∨Rx W'))
  (hdone:∀ (D:Nat) (i:ι) (W:World),w.heap.size≤D→fin i→J i W→W.heap[D]? =some (.deferred (some []))→Q .normal { a with defers:={ target:=.collected D,args:=#[] }::a.defers } W)
  (hstop:∀ (D:Nat) (W:World),w.heap.size≤D→Jx W→W.heap[D]? =some (.deferred (some []))→jump.wpIn F n P Q { a with defers:={ target:=.collected D,args:=#[] }::a.defers } W):
  (Code.rangeFunc g ps assign body).wpIn F n P Q a w:=by
 refine wpIn_rangeFunc fun fn hfn=>?_
 rw[hro]
 obtain⟨rc,hrc⟩:∃ rc:LoopState→Option Code→Loop,rc=fun st pe=>{ state:=st,pending:=pe,fn,tmps:=a.tmps,params:=ps,assign,body,defers:=w.heap.size }:=⟨_,rfl⟩
 obtain⟨W1,hW1⟩:∃ W1,(w.alloc (.deferred (some []))).alloc (.loop (rc .ready none))=W1:=⟨_,rfl⟩
 have hn2:=two_new w (.deferred (some [])) (.loop (rc .ready none))
 have hs:W1.heap.size=w.heap.size+2:=by rw[←hW1];simp
 rw[hW1] at hn2
 obtain⟨hD1,hL1,hB1⟩:=hn2
 refine⟨w.heap.size+1,[{ target:=.collected w.heap.size,args:=#[] }],W1,{ target:=.fn (.func gf) lb,args:=#[.func (.yield (w.heap.size+1)) #[] #[]] },W1,gf,
  #[.func (.yield (w.heap.size+1)) #[] #[]]++lb,W1,?_,?_,?_,?_,fun _=>h1,?_⟩
 ·rw[←hW1,hrc];exact run_enterLoop_outer _ _ _ _ _
 ·simp only[resolve,hg]
  simp[go_sem]
 ·intro f' hf'
  simp[Target.leads] at hf'
  subst hf'
  exact hFg
 ·simp[invoke,go_sem,eg]
 ·refine(hiter (w.heap.size+1) W1 rfl hB1 hs
   (fun k W=>J k W∧W.heap[w.heap.size+1]? =some (.loop (rc .ready none))∧W.heap[w.heap.size]? =some (.deferred (some [])))
   (fun W=>Jx W∧W.heap[w.heap.size+1]? =some (.loop (rc .done (some jump)))∧W.heap[w.heap.size]? =some (.deferred (some [])))
   (fun k W W' h hb=>⟨hJ k W W' h.1 ⟨hb.1.mono (by omega),hb.2⟩,(hb.1.block _ (by omega)).trans h.2.1,(hb.1.block _ (by omega)).trans h.2.2⟩)
   (fun W W' h hb=>⟨hJx W W' h.1 ⟨hb.1.mono (by omega),hb.2⟩,(hb.1.block _ (by omega)).trans h.2.1,(hb.1.block _ (by omega)).trans h.2.2⟩)
   (fun k W h=>h.1) ?_ ⟨hJ i0 w W1 h0 (Kz.of_below hB1 (Nat.le_refl _)),hL1,hD1⟩).mono ?_
  ·rintro i k Wb hkN ⟨hj,hl,hd⟩
   have hyr:=run_yield (P:=P) (args:=encs k) hl (by rw[hrc];exact hps k)
   rw[hrc] at hyr
   refine⟨fn,_,assign,body,hyr,roundIn_of_wpIn hfn (hassign _ i k Wb _ hkN hj (by have:=(Array.getElem?_eq_some_iff.1 hl).1;omega) ?_)⟩
   intro a' W hBa hAx
   have hltb:=(Array.getElem?_eq_some_iff.1 hl).1
   have hKa:Keeps Sx Wb W:=Keeps.below hBa
   have hNa:Kn w.heap.size (w.heap.size+1) Wb W:=Kn.below hBa
   replace hj:=hJ i _ _ hj (Kz.of_below hBa (by omega))
   replace hl:=(hBa.block _ (by omega)).trans hl
   replace hd:=(hBa.block _ (by omega)).trans hd
   have hlt:w.heap.size+1<W.heap.size:=(Array.getElem?_eq_some_iff.1 hl).1
   refine⟨_,run_beginRound hl (by rw[hrc]),?_⟩
   have hl2:(W.putObj (w.heap.size+1) (.loop { rc .ready none with state:=.busy })).heap[w.heap.size+1]? =some (.loop { rc .ready none with state:=.busy }):=World.putObj_heap_same hlt
   have hd2:(W.putObj (w.heap.size+1) (.loop { rc .ready none with state:=.busy })).heap[w.heap.size]? =some (.deferred (some [])):=(World.putObj_heap_other (by omega)).trans hd
   refine wpIn_mono (hbody _ i k a' _ hkN (hJ i _ _ hj (Kz.put W _ _ _ hl rfl (by omega))) (hA k a' W _ _ hAx (by omega) (by omega)) (by simp[World.putObj];omega)) ?_
   have fin:∀ (W3:World),KeepsFrom w.heap.size (W.putObj (w.heap.size+1) (.loop { rc .ready none with state:=.busy })) W3→Jx W3→
     (Instr.endRound (w.heap.size+1) (some jump)).run P W3=.ok (.bool false) (W3.putObj (w.heap.size+1) (.loop (rc .done (some jump))))∧Jx (W3.putObj (w.heap.size+1) (.loop (rc .done (some jump))))∧
     (W3.putObj (w.heap.size+1) (.loop (rc .done (some jump)))).heap[w.heap.size+1]? =some (.loop (rc .done (some jump)))∧
     (W3.putObj (w.heap.size+1) (.loop (rc .done (some jump)))).heap[w.heap.size]? =some (.deferred (some [])):=fun W3 hk3 hj3=>by
    have hl3:=hk3.same _ _ (by omega) hl2 rfl
    have hd3:=hk3.same _ _ (Nat.le_refl _) hd2 rfl
    have hr:=run_endRound (P:=P) (some jump) hl3
    rw[hrc] at hr ⊢
    exact⟨hr,hJx _ _ hj3 (Kz.put W3 _ _ _ hl3 rfl (by omega)),World.putObj_heap_same (Array.getElem?_eq_some_iff.1 hl3).1,(World.putObj_heap_other (by omega)).trans hd3⟩
   rintro e a3 W3 hp
   cases e with
   |normal=>
    obtain⟨hk3,hkp,hj3⟩:=hp
    have hl3:=hk3.same _ _ (by omega) hl2 rfl
    have hd3:=hk3.same _ _ (Nat.le_refl _) hd2 rfl
    have hr:=run_endRound (P:=P) none hl3
    refine⟨_,_,hr,.inl ⟨rfl,⟨hJ _ _ _ hj3 (Kz.put W3 _ _ _ hl3 rfl (by omega)),?_,(World.putObj_heap_other (by omega)).trans hd3⟩,hKa.trans ((Keeps.put W _ _ hSx).trans (hkp.trans (Keeps.put W3 _ _ hSx))),hNa.trans ((Kn.put _ _ W _).trans (Kn.trans (fun j o hB _ ho hc=>hk3.same j o hB ho hc) (Kn.put _ _ W3 _)))⟩⟩
    rw[World.putObj_heap_same (Array.getElem?_eq_some_iff.1 hl3).1,hrc]
    rfl
   |exit i=>
    obtain⟨rfl,hk3,hj3⟩:=hp
    obtain⟨hr,f1,f2,f3⟩:=fin W3 hk3 hj3
    exact⟨_,_,hr,.inr ⟨rfl,f1,f2,f3⟩⟩
   |ret=>
    obtain⟨rfl,hk3,hj3⟩:=hp
    obtain⟨hr,f1,f2,f3⟩:=fin W3 hk3 hj3
    exact⟨_,_,hr,.inr ⟨rfl,f1,f2,f3⟩⟩
   |goto t=>exact hp.elim
   |panic ch=>exact hp.elim
   |outgrown=>exact hp.elim
  ·rintro e W2 ⟨⟨v,rfl⟩,⟨i,hfi,hx,hl,hd⟩|⟨hx,hl,hd⟩⟩
   ·refine⟨none,_,by have:=run_endLoop (P:=P) hl (by rw[hrc];simp);rw[hrc] at this;exact this,?_⟩
    exact hdone _ i _ (Nat.le_refl _) hfi (hJ _ _ _ hx (Kz.put W2 _ _ _ hl rfl (by omega))) ((World.putObj_heap_other (by omega)).trans hd)
   ·refine⟨some jump,_,by have:=run_endLoop (P:=P) hl (by rw[hrc];simp);rw[hrc] at this;exact this,?_⟩
    exact hstop _ _ (Nat.le_refl _) (hJx _ _ hx (Kz.put W2 _ _ _ hl rfl (by omega))) ((World.putObj_heap_other (by omega)).trans hd)
open Go.RowKit Go.Shelf Go.Lib
open Go.ChangeMaps (setBlock)
attribute [local go_sem] Oper.semAt_some
def Coh (es:Array MapEntry) (f:Nat→Option ByteArray) (seen:Array Nat) (l:List Nat):Prop:=
 (∀ e∈es.toList,∀ p:Nat,e.key=.int .u32 (p:Int)→(seen.contains e.born=true↔p∈l))∧l.Nodup∧∀ p∈l,(f p).isSome=true
def AllKeys (f:Nat→Option ByteArray) (l:List Nat):Prop:=l.Nodup∧∀ p,p∈l↔(f p).isSome=true
theorem Coh.start (es:Array MapEntry) (f:Nat→Option ByteArray):Coh es f #[] []:=⟨fun e _ p _=>by simp,List.nodup_nil,by simp⟩
theorem Coh.step {es:Array MapEntry} {cl:Nat} {f:Nat→Option ByteArray} (h:Ent es cl f) {seen:Array Nat} {l:List Nat} (hc:Coh es f seen l) {e:MapEntry} (he:e∈es.toList) (hs:seen.contains e.born=false) {p:Nat} {t:ByteArray}
  (hk:e.key=.int .u32 (p:Int)) (hf:f p=some t):p ∉ l∧Coh es f (seen.push e.born) (l++[p]):=by
 have hp:p ∉ l:=fun hm=>by have:=(hc.1 e he p hk).2 hm;rw[hs] at this;cases this
 refine⟨hp,fun x hx q hq=>?_,?_,?_⟩
 ·have h1:=hc.1 x hx q hq
  simp only[Array.contains_push,Bool.or_eq_true,beq_iff_eq,List.mem_append,List.mem_singleton]
  constructor
  ·rintro(h2|h2)
   ·exact .inl (h1.1 h2)
   ·have:=h.born he hx h2
    subst this
    rw[hk] at hq
    exact .inr (u32_inj hq).symm
  ·rintro(h2|h2)
   ·exact .inl (h1.2 h2)
   ·refine .inr ?_
    subst h2
    have hn:=((MapKept.stamped_iff es cl).1 h.st).2.2
    by_cases hxe:x=e
    ·rw[hxe]
    ·exfalso
     obtain⟨i,hi,rfl⟩:=List.mem_iff_getElem.1 he
     obtain⟨j,hj,rfl⟩:=List.mem_iff_getElem.1 hx
     rw[List.pairwise_iff_getElem] at hn
     rcases Nat.lt_trichotomy i j with hlt|heq|hlt
     ·exact hn i j hi hj hlt (by rw[hk,hq])
     ·subst heq;exact hxe rfl
     ·exact hn j i hj hi hlt (by rw[hk,hq])
 ·rw[List.nodup_append]
  exact⟨hc.2.1,by simp,fun a ha b hb=>by simp at hb;subst hb;intro e;subst e;exact hp ha⟩
 ·intro q hq
  rcases List.mem_append.1 hq with hq|hq
  ·exact hc.2.2 q hq
  ·simp at hq;subst hq;rw[hf];rfl
theorem Coh.all {es:Array MapEntry} {cl:Nat} {f:Nat→Option ByteArray} (h:Ent es cl f) {seen:Array Nat} {l:List Nat} (hc:Coh es f seen l) (h0:(leftOf es seen).size=0):AllKeys f l:=by
 refine⟨hc.2.1,fun p=>⟨hc.2.2 p,fun hp=>?_⟩⟩
 obtain⟨t,ht⟩:=Option.isSome_iff_exists.1 hp
 obtain⟨e,he,e1,_⟩:=h.all p t ht
 exact(hc.1 e he p e1).1 (all_seen es seen h0 e he)
theorem keys_any (m:Nat) (w:World):
  Calls Tryz.prog 136 #[.map (some m)] w fun e w'=>e=.returned (.func (.func 157) #[] #[.pointer (some ⟨w.heap.size,0,none⟩)])∧w'=w.alloc (.cells #[.map (some m)] 77):=by
 go_enter Tryz.func136,Tryz.ntmps136
 go_wp2_with fail
 go_ret
 exact⟨rfl,rfl⟩
theorem keys1_in (es:Array MapEntry) (cl:Nat) (f:Nat→Option ByteArray) (hE:Ent es cl f) (m mb p:Nat) (W1:World) (Sx:Nat→Prop) (s1:Sx m) (B0:Nat) (s3:B0≤W1.heap.size) (s4:p<W1.heap.size)
  (hmb:W1.heap[mb]? =some (.cells #[.map (some m)] 77 (0,0))) (hm:W1.heap[m]? =some (.map es cl)) (R:List Nat→World→Prop) (Rx:World→Prop)
  (hR:∀ k W W',R k W→Kz W1.heap.size W W'→R k W')
  (hY:∀ l x W,(f x).isSome=true∧x ∉ l→R l W→YieldAt Fence.wide 3 Tryz.prog p #[.int .u32 (x:Int)] W fun e W'=>(e=.returned (.bool true)∧R (l++[x]) W'∧Keeps Sx W W'∧Kn B0 p W W')∨(e=.returned (.bool false)∧Rx W')) (h0:R [] W1):
  CallsIn Fence.wide 4 Tryz.prog 157 (#[.func (.yield p) #[] #[]]++#[.pointer (some ⟨mb,0,none⟩)]) W1 fun e W'=>(∃ v,e=.returned v)∧((∃ l,AllKeys f l∧R l W')∨Rx W'):=by
 have HY:Hid _:=hY
 have HR:Hid _:=hR
 have H0:Hid (R [] W1):=h0
 have HE:Hid _:=hE
 have HM:Hid _:=hm
 have hml:m<W1.heap.size:=(Array.getElem?_eq_some_iff.1 hm).1
 have hmbl:mb<W1.heap.size:=(Array.getElem?_eq_some_iff.1 hmb).1
 have c1:W1.cell? ⟨mb,0,none⟩=some (.map (some m)):=by rw[cell_of_row _ _ _ _ _ _ hmb];rfl
 have hrg:=run_range_map (P:=Tryz.prog) W1 77 32 113 m es cl Tryz.underlying77 hm
 clear hY hR h0 hm hmb hE
 refine callsIn_of_wp Tryz.func157 rfl trivial ?_ rfl
 simp only[Tryz.ntmps157,List.size_toArray,List.length_cons,List.length_nil,Nat.reduceAdd,Nat.reduceSub,Array.replicate_succ,Array.replicate_zero,List.push_toArray,List.append_toArray,List.nil_append,List.cons_append]
 gi_wp2
 clear c1 hrg
 gi_loopw [] (fun wr=>∃ seen l,wr.heap[W1.heap.size]? =some (.mapIter (some m) cl seen cl)∧wr.heap[m]? =some (.map es cl)∧Coh es f seen l∧R l wr) (fun wr=>(leftOf es (wr.iterSeen W1.heap.size)).size)
 case atStart=>
  exact⟨#[],[],heap_alloc_new W1 _,(Below.heap_alloc _ _ _ hml).trans HM.out,Coh.start es f,HR.out _ _ _ H0.out (Kz.of_below (below_new W1 _) (Nat.le_refl _))⟩
 case round=>
  obtain⟨seen,l,h1,h2,h3,h4⟩:=hrel
  rcases run_next_at (P:=Tryz.prog) wr 0 W1.heap.size m cl cl seen es cl h1 h2 HE.out.st.1 (Nat.le_refl _) with⟨hz,hrun⟩|⟨e,he,w2,hal,hrun⟩
  ·have hnx:∀ ty,(Instr.next (.pointer (some ⟨W1.heap.size,0,none⟩)) false ty).run Tryz.prog wr=_:=fun _=>hrun
   have HF:Hid (∃ l,AllKeys f l∧R l wr):=⟨l,h3.all HE.out hz,h4⟩
   clear h1 h2 h3 h4 hrun
   gi_wp2
   refine bodyPost_end (results_none rfl _ _ _) rfl ?_
   exact⟨⟨_,rfl⟩,.inl HF.out⟩
  ·obtain⟨q,t,k1,k2,k3⟩:=HE.out.is e (mem_left he).1
   rw[k1,k2] at hrun
   have hnx:∀ ty,(Instr.next (.pointer (some ⟨W1.heap.size,0,none⟩)) false ty).run Tryz.prog wr=_:=fun _=>hrun
   obtain⟨W2,hW2⟩:∃ W2,setBlock w2 W1.heap.size (.mapIter (some m) cl (seen.push e.born) cl)=W2:=⟨_,rfl⟩
   rw[hW2] at hnx
   have hh:∀ k,k≠W1.heap.size→W2.heap[k]? =wr.heap[k]? :=fun k hk=>by
    rw[←hW2,setBlock_other _ _ _ hk];rcases hal with rfl|rfl<;>rfl
   have g1:W2.heap[W1.heap.size]? =some (.mapIter (some m) cl (seen.push e.born) cl):=by
    rw[←hW2];refine setBlock_same (o:=.mapIter (some m) cl seen cl) ?_;rcases hal with rfl|rfl<;>exact h1
   have g2:=(hh m (by omega)).trans h2
   have gk:Kz W1.heap.size wr W2:=by
    refine⟨⟨?_,?_,?_,?_,fun k hk=>hh k (by omega)⟩,fun j o hj hc=>?_⟩
    ·rw[←hW2];rcases hal with rfl|rfl<;>rfl
    ·rw[←hW2];rcases hal with rfl|rfl<;>rfl
    ·rw[←hW2];rcases hal with rfl|rfl<;>rfl
    ·rw[←hW2];rcases hal with rfl|rfl<;>simp[ChangeMaps.setBlock]
    ·rw[hh j fun e=>?_,hj]
     subst e;rw[h1] at hj;cases hj;cases hc
   have hen:=run_entry_at (P:=Tryz.prog) W2 W1.heap.size m cl seen es cl e g1 g2 (mem_left he).1 HE.out.st.2.1
   rw[k1,k2] at hen
   obtain⟨hql,hcoh⟩:=h3.step HE.out (mem_left he).1 (mem_left he).2 k1 k3
   have HS:Hid (wr.iterSeen W1.heap.size=seen):=iterSeen_of h1
   have G1:Hid _:=g1
   have G2:Hid _:=g2
   have HC:Hid _:=hcoh
   have HL:Hid _:=he
   have hsz:W1.heap.size<W2.heap.size:=(Array.getElem?_eq_some_iff.1 g1).1
   obtain⟨fn,tmps,assign,body,hy,hRd⟩:=HY.out l q W2 ⟨by rw[k3];rfl,hql⟩ (HR.out _ _ _ h4 gk)
   clear h1 h2 h3 h4 hrun hW2 hh g1 g2 gk he k3 k1 k2 hal hcoh hql
   gi_wp2
   refine hRd.mono ?_
   rintro e' W6 (⟨rfl,hR6,hk6,hn6⟩|⟨rfl,hx6⟩)
   ·have I6:Hid (W6.heap[W1.heap.size]? =some (.mapIter (some m) cl (seen.push e.born) cl)):=hn6 _ _ s3 (by omega) G1.out rfl
    have M6:Hid (W6.heap[m]? =some (.map es cl)):=(hk6.2 _ s1 (by omega)).trans G2.out
    clear hk6 hn6
    gi_wp2
    go_roundw
    case rel=>exact⟨seen.push e.born,l++[q],I6.out,M6.out,HC.out,hR6⟩
    case measure=>
     rw[iterSeen_of I6.out,HS.out]
     exact left_shrinks es seen e HL.out
   ·gi_wp2
    refine bodyPost_ret (results_none rfl _ _ _) rfl ?_
    exact⟨⟨_,rfl⟩,.inr hx6⟩
end Go.Proofs.YtfaflomephjkgaaGreatDoor.Rd
namespace Go.Proofs.YtfaflomephjkgaaGreatDoor.Rd
open Go.RowKit Go.Shelf Go.Lib
attribute [local go_sem] Oper.semAt_some
theorem len_le:∀ (N:Nat) (l:List Nat),l.Nodup→(∀ x∈l,x<N)→l.length≤N
 |0,l,_,h=>by
  cases l with
  |nil=>simp
  |cons a t=>exact absurd (h a (by simp)) (by omega)
 |N+1,l,hn,h=>by
  by_cases hm:N∈l
  ·have:=len_le N (l.erase N) (hn.erase N) (fun x hx=>by
    have h1:=h x (List.mem_of_mem_erase hx)
    have h2:x≠N:=fun e=>by subst e;exact hn.not_mem_erase hx
    omega)
   rw[List.length_erase_of_mem hm] at this
   omega
  ·have:=len_le N l hn (fun x hx=>by
    have h1:=h x hx
    have h2:x≠N:=fun e=>by subst e;exact hm hx
    omega)
   omega
abbrev u32v (x:Nat):Value:=.int .u32 (x:Int)
theorem info32:(Tryz.prog.info? 32).map (fun i=>(i.zero,i.size,i.bytes))=some (some (.int .u32 0),1,4):=by kernel_rfl
theorem gb_set (w:World) (g k:Nat) (v:Value):w.grownBy (w.setCell ⟨g,k,none⟩ v) (some g):=
 ⟨rfl,rfl,rfl,by simp[World.setCell],fun j _ hne=>Below.heap_setCell _ _ _ _ (fun e=>hne (by rw[e]))⟩
theorem opIn_append {F:Fence} {n:Nat} {P:Program} {o:Oper} {a:Act} {w:World} {K:Act→World→Prop} {Q:Exit→Act→World→Prop} (t u:TypeId) (s x:Operand) (ho:o.op=.call { callee:=.builtin .append,args:=#[s,x],argTypes:=#[t,u] })
  {vs vx v':Value} {w':World} (hs:a.eval s=vs) (hx:a.eval x=vx) (hrun:(Builtin.append_ #[t,u] o.type #[vs,vx]).run P w=.ok v' w') (hK:K (a.put o.dst v') w'):o.wpIn F n P a w K Q:=by
 unfold Oper.wpIn
 refine⟨?_,?_⟩
 ·simp[Oper.about,ho,resolve,Target.leads]
 ·rw[Oper.semAt_plain F _ _ (by rw[ho];intro c hc;cases hc)]
  simp[execOp,ho,hs,hx,hrun,Result.andThen,resolve,invoke,builtin]
  exact hK
theorem listIn_append {F:Fence} {n:Nat} {P:Program} {ops:Array Oper} {rest:List Oper} {o:Oper} {a:Act} {w:World} {Q:Exit→Act→World→Prop} (hgd:o.guard=none) (t u:TypeId) (s x:Operand) (ho:o.op=.call { callee:=.builtin .append,args:=#[s,x],argTypes:=#[t,u] })
  {vs vx v':Value} {w':World} (hs:a.eval s=vs) (hx:a.eval x=vx) (hrun:(Builtin.append_ #[t,u] o.type #[vs,vx]).run P w=.ok v' w') (h:wpListIn F n P ops Q rest (a.put o.dst v') w'):wpListIn F n P ops Q (o::rest) a w:=
 wpListIn_plain hgd fun _ hK=>opIn_append t u s x ho hs hx hrun (hK _ _ h)
def AJ (f:Nat→Option ByteArray) (bx:Nat) (w:World) (l:List Nat) (W:World):Prop:=
 l.Nodup∧(∀ p∈l,(f p).isSome=true)∧(∃ v,W.heap[bx]? =some (.cells #[v] 174 (0,0))∧W.ownsRow (bx+1) 32 1 v l.length (l.map u32v))∧Below bx w W
theorem ownsRow_kz {b base:Nat} {A B:World} {e:TypeId} {v:Value} {k:Nat} {xs:List Value} (h:A.ownsRow base e 1 v k xs) (hk:Kz b A B):B.ownsRow base e 1 v k xs:=by
 refine⟨h.1,?_⟩
 rcases h.2 with h|⟨g,cap,cur,e1,e2,e3,e4⟩
 ·exact .inl h
 ·exact .inr ⟨g,cap,cur,e1,e2,hk.2 g _ e3 rfl,e4⟩
theorem AJ.kz {f:Nat→Option ByteArray} {bx b:Nat} {w:World} {l:List Nat} {A B:World} (h:AJ f bx w l A) (hk:Kz b A B) (hb:bx≤b):AJ f bx w l B:=by
 obtain⟨h1,h2,⟨v,h3,h4⟩,h5⟩:=h
 exact⟨h1,h2,⟨v,hk.2 bx _ h3 rfl,ownsRow_kz h4 hk⟩,h5.trans (hk.1.mono hb)⟩
theorem appseq_in (f:Nat→Option ByteArray) (hf:∀ p t,f p=some t→p<4096) (m mb:Nat) (w:World) (hm:Pm w m f) (hmb:w.heap[mb]? =some (.cells #[.map (some m)] 77 (0,0))):
  CallsIn Fence.wide 5 Tryz.prog 174 #[.slice none 0 0,.func (.func 157) #[] #[.pointer (some ⟨mb,0,none⟩)]] w
   fun e w'=>∃ l v,e=.returned v∧AllKeys f l∧w'.ownsRow (w.heap.size+1) 32 1 v l.length (l.map u32v)∧Below w.heap.size w w':=by
 obtain⟨es,cl,hm1,hE⟩:=hm.ent
 have HM:Hid _:=hm1
 have HMB:Hid _:=hmb
 have HE:Hid _:=hE
 have HF:Hid (∀ p t,f p=some t→p<4096):=hf
 have hml:m<w.heap.size:=(Array.getElem?_eq_some_iff.1 hm1).1
 have hmbl:mb<w.heap.size:=(Array.getElem?_eq_some_iff.1 hmb).1
 clear hm hm1 hmb hE hf
 refine callsIn_of_wp_marks Tryz.func174 rfl trivial ?_ rfl
 simp only[Tryz.ntmps174,List.size_toArray,List.length_cons,List.length_nil,Nat.reduceAdd,Nat.reduceSub,Array.replicate_succ,Array.replicate_zero,List.push_toArray,List.append_toArray,List.nil_append,List.cons_append]
 gi_wp2
 have S3:(w.alloc (.cells #[.slice none 0 0] 174)).heap.size=w.heap.size+1:=by simp
 have X3:(w.alloc (.cells #[.slice none 0 0] 174)).heap[w.heap.size]? =some (.cells #[.slice none 0 0] 174 (0,0)):=heap_alloc_new w _
 have B3:Below w.heap.size w (w.alloc (.cells #[.slice none 0 0] 174)):=below_new w _
 obtain⟨w3,hw3⟩:∃ w3,w.alloc (.cells #[.slice none 0 0] 174)=w3:=⟨_,rfl⟩
 rw[hw3] at S3 X3 B3 ⊢
 clear hw3
 have HX3:Hid _:=X3
 clear X3
 refine range_law7 rfl (by omega) (gf:=157) (lb:=#[.pointer (some ⟨mb,0,none⟩)]) rfl trivial (enters_of Tryz.func157 (by kernel_rfl) rfl)
  (ι:=List Nat) (α:=Nat) (fun x=>#[u32v x]) (fun _=>rfl) (fun l x=>l++[x]) (fun l x=>(f x).isSome=true∧x ∉ l) (AllKeys f) [] (fun j=>j=m) (by omega)
  (fun l W=>AJ f w.heap.size w l W) (fun _=>False) .ret (fun l A B h hk=>h.kz hk (by omega)) (fun _ _ h _=>h) ?h0
  (fun x a' _=>a'={ tmps:=#[Value.slice none 0 0,Value.func (Fn.func 157) #[] #[Value.pointer (some ⟨mb,0,none⟩)],Value.pointer (some ⟨w.heap.size,0,none⟩),undef,Value.slice none 0 0,u32v x,
     Value.func (Fn.func 157) #[] #[Value.pointer (some ⟨mb,0,none⟩)],u32v x,undef,undef,undef,undef,undef],defers:=[] }) (fun _ _ _ _ _ h _ _=>h) ?assign ?body ?iter ?done ?stop
 case h0=>exact⟨List.nodup_nil,by simp,⟨_,HX3.out,World.ownsRow_nil _ _ _ _⟩,B3⟩
 case assign=>
  intro p l x W K hk hJ hsz hK
  clear hJ
  gi_wp2
  exact hK _ _ (Below.refl _ _) rfl
 case iter=>
  intro p W1 hp hB1 hs1 R Rx hR hRx hRJ hY h0
  exact keys1_in es cl f HE.out m mb p W1 (fun j=>j=m) rfl w3.heap.size (by omega) (by omega) ((hB1.block mb (by omega)).trans ((B3.block mb hmbl).trans HMB.out)) ((hB1.block m (by omega)).trans ((B3.block m hml).trans HM.out)) R Rx hR (fun l x W hok hr=>hY l x W hok hr) h0
 case body=>
  rintro p l x a' W hok ⟨j1,j2,⟨v,j3,j4⟩,j5⟩ rfl hsz
  have hlen:l.length≤4096:=len_le 4096 l j1 fun p hp=>by
   obtain⟨t,ht⟩:=Option.isSome_iff_exists.1 (j2 p hp)
   exact HF.out p t ht
  obtain⟨i,hi,hzz⟩:=Option.map_eq_some_iff.1 info32
  simp only[Prod.mk.injEq] at hzz
  obtain⟨hz,hs,hb⟩:=hzz
  obtain⟨v',W',hrun,r1,r2,r3⟩:=run_append_own (P:=Tryz.prog) (W.alloc (.cells #[u32v x] 32)) (w.heap.size+1) 174 174 32 i _ 1 4 Tryz.underlying174 hi hz hs hb rfl (by decide)
   v l.length (l.map u32v) (j4.alloc _) ⟨W.heap.size,0,none⟩ 1 1 [u32v x] rfl (cell_one_new _ _ _) (by simp[Value.oneCell']) (by simp only[maxLen];omega) (by omega) (by simp;omega)
  have c1:W.cell? ⟨w.heap.size,0,none⟩=some v:=by rw[cell_of_row _ _ _ _ _ _ j3];rfl
  have hbw:w.heap.size<W.heap.size:=by omega
  have nb:v.ownBlock≠some w.heap.size:=by
   rcases j4.2 with⟨rfl,_⟩|⟨g,cap,cur,rfl,hg,_⟩
   ·simp[Value.ownBlock]
   ·simp[Value.ownBlock];omega
  have k3:W'.heap[w.heap.size]? =some (.cells #[v] 174 (0,0)):=(r2.block _ (by simp;omega) (fun e=>nb e.symm)).trans ((Below.heap_alloc _ _ _ hbw).trans j3)
  have c2:W'.cell? ⟨w.heap.size,0,none⟩=some v:=by rw[cell_of_row _ _ _ _ _ _ k3];rfl
  have z2:=frozen_of_row W' w.heap.size 0 _ _ k3
  obtain⟨g',cap',rfl⟩:=ownsRow_succ r1
  have hkf:KeepsFrom w3.heap.size W (W'.setCell ⟨w.heap.size,0,none⟩ (.slice (some ⟨g',0,none⟩) (l.length+1) cap')):=by
   refine(((KeepsOthers.alloc W _).trans (KeepsOthers.of_grownBy r2 fun j o ej hj=>?_)).trans (KeepsOthers.setCell _ _ _)).from _
   rcases(j4.alloc (.cells #[u32v x] 32)).2 with⟨rfl,_⟩|⟨g,cap,cur,rfl,_,hgb,_⟩
   ·simp[Value.ownBlock] at ej
   ·simp only[Value.ownBlock,Option.some.injEq] at ej
    rw[←ej,hgb] at hj
    cases hj
    rfl
  have hbl:Below w.heap.size W (W'.setCell ⟨w.heap.size,0,none⟩ (.slice (some ⟨g',0,none⟩) (l.length+1) cap')):=by
   refine(((Below.refl w.heap.size W).alloc (by omega) (.cells #[u32v x] 32)).grown r2 (by simp;omega) fun k ek=>?_).setCell (p:=⟨w.heap.size,0,none⟩) (Nat.le_refl _) _
   rcases j4.2 with⟨rfl,_⟩|⟨g,cap,cur,rfl,hg,_⟩
   ·simp[Value.ownBlock] at ek
   ·simp[Value.ownBlock] at ek;omega
  have hrw:(W'.setCell ⟨w.heap.size,0,none⟩ (.slice (some ⟨g',0,none⟩) (l.length+1) cap')).ownsRow (w.heap.size+1) 32 1 (.slice (some ⟨g',0,none⟩) (l.length+1) cap') (l.length+1) (l.map u32v++[u32v x]):=by
   refine r1.kept (gb_set W' w.heap.size 0 _) (.inr ?_)
   rcases r1.2 with⟨h,_⟩|⟨g,cap,cur,h,hg,_⟩
   ·cases h
   ·simp only[Value.slice.injEq,Option.some.injEq,Addr.mk.injEq] at h
    simp[Value.ownBlock]
    omega
  have hbx:=set_at W' w.heap.size 0 _ _ _ (.slice (some ⟨g',0,none⟩) (l.length+1) cap') k3
  have HKF:Hid _:=hkf
  have HBL:Hid _:=hbl
  have HRW:Hid _:=hrw
  have HBX:Hid _:=hbx
  have J1:Hid _:=j1
  have J2:Hid _:=j2
  have J5:Hid _:=j5
  have HOK:Hid _:=hok
  have hnl:v=.slice none 0 0∧l.length=0∨∃ g cap,v=.slice (some ⟨g,0,none⟩) l.length cap:=by
   rcases j4.2 with h|⟨g,cap,cur,h,_⟩
   ·exact .inl h
   ·exact .inr ⟨g,cap,h⟩
  have fin:∀ a',lPost7 w3.heap.size (fun j=>j=m) (fun W=>AJ f w.heap.size w (l++[x]) W) (fun _=>False) Code.ret W Exit.normal a' (W'.setCell ⟨w.heap.size,0,none⟩ (.slice (some ⟨g',0,none⟩) (l.length+1) cap')):=fun a'=>by
   refine⟨HKF.out,⟨HBL.out.size,fun j hj _=>HBL.out.block j (by omega)⟩,?_,?_,⟨_,HBX.out,?_⟩,J5.out.trans HBL.out⟩
   ·rw[List.nodup_append]
    exact⟨J1.out,by simp,fun a ha b hb=>by simp at hb;subst hb;intro e;subst e;exact HOK.out.2 ha⟩
   ·intro q hq
    rcases List.mem_append.1 hq with hq|hq
    ·exact J2.out q hq
    ·simp at hq;subst hq;exact HOK.out.1
   ·have:=HRW.out
    rw[List.map_append,List.length_append]
    exact this
  have FIN:Hid _:=fin
  clear hkf hbl hrw hbx fin j1 j2 j5 hok r1 r2 r3 j3 j4 k3 nb
  rcases hnl with⟨rfl,hl0⟩|⟨g,cap,rfl⟩
  ·clear hl0
   gi_wp2_with (gi_at_builtin;refine listIn_append rfl 174 174 (.tmp 8) (.tmp 10) rfl (vs:=.slice none 0 0) (vx:=.slice (some ⟨W.heap.size,0,none⟩) 1 1) rfl rfl hrun ?_)
   exact FIN.out _
  ·gi_wp2_with (gi_at_builtin;refine listIn_append rfl 174 174 (.tmp 8) (.tmp 10) rfl (vs:=.slice (some ⟨g,0,none⟩) l.length cap) (vx:=.slice (some ⟨W.heap.size,0,none⟩) 1 1) rfl rfl hrun ?_)
   exact FIN.out _
 case done=>
  rintro D l W hD hfin ⟨_,_,⟨v,j3,j4⟩,j5⟩ hK
  have c1:W.cell? ⟨w.heap.size,0,none⟩=some v:=by rw[cell_of_row _ _ _ _ _ _ j3];rfl
  have J4:Hid _:=j4
  have J5:Hid _:=j5
  have HK:Hid _:=hK
  clear j3 j4 j5 hK
  gi_wp2
  refine⟨by simp,.inl ⟨_,_,rfl,run_takeDeferred HK.out,?_⟩⟩
  refine⟨_,results_tmp rfl _ _ _,l,v,rfl,hfin,?_,J5.out.trans (below_put _ _ (by omega))⟩
  exact ownsRow_putObj J4.out _ HK.out rfl
 case stop=>exact fun _ _ _ h _=>h.elim
theorem collect_any (f:Nat→Option ByteArray) (hf:∀ p t,f p=some t→p<4096) (m mb:Nat) (w:World) (hm:Pm w m f) (hmb:w.heap[mb]? =some (.cells #[.map (some m)] 77 (0,0))):
  Calls Tryz.prog 155 #[.func (.func 157) #[] #[.pointer (some ⟨mb,0,none⟩)]] w
   fun e w'=>∃ l v,e=.returned v∧AllKeys f l∧w'.ownsRow (w.heap.size+1) 32 1 v l.length (l.map u32v)∧Below w.heap.size w w':=by
 have HA:Hid _:=callsIn_wide.1 (appseq_in f hf m mb w hm hmb)
 clear hm hmb hf
 go_enter Tryz.func155,Tryz.ntmps155
 go_wp2_with fail
 refine Calls.mono HA.out ?_
 rintro e w1 ⟨l,v,rfl,h1,h2,h3⟩
 have H1:Hid _:=h1
 have H2:Hid _:=h2
 have H3:Hid _:=h3
 clear h1 h2 h3
 go_wp2_with fail
 go_ret
 exact⟨l,v,rfl,H1.out,H2.out,H3.out⟩
end Go.Proofs.YtfaflomephjkgaaGreatDoor.Rd
namespace Go.Proofs.YtfaflomephjkgaaGreatDoor.Rd
open Go.RowKit
section
variable {P : Program} {ops : Array Oper} {Q : Exit → Act → World → Prop} {md : Region.Mode} {S : World → Prop}
def wpLast (P:Program) (md:Region.Mode) (ops:Array Oper) (Q:Exit→Act→World→Prop) (S:World→Prop) (z:Nat):Nat→Array Bool→Act→World→Prop
 |0,listed,a,w=>Region.ready md ops listed=[]∧Q .normal a w
 |fuel+1,listed,a,w=>
  (Region.ready md ops listed=[]→Q .normal a w)∧
  ∀ i∈Region.ready md ops listed,wpOp P ops Q i (fun a' w'=>(i≠z→S w')∧wpLast P md ops Q S z fuel (listed.setIfInBounds i true) a' w') a w
def waitsOn (md:Region.Mode) (ops:Array Oper) (z j:Nat):Bool:=
 match ops[z]? with
 |some oz=>oz.after.any fun e=>e.on==j&&Region.binds md e
 |none=>false
theorem last_waits {z j:Nat} {listed:Array Bool} (h:waitsOn md ops z j=true) (hz:z∈Region.ready md ops listed):listed.getD j false=true:=by
 obtain⟨_,oz,ho,hall⟩:=mem_ready.1 hz
 unfold waitsOn at h
 rw[ho] at h
 simp only[Array.any_eq_true,Bool.and_eq_true,beq_iff_eq] at h
 obtain⟨k,hk,h1,h2⟩:=h
 rw[←h1]
 exact hall _ (Array.getElem_mem hk) h2
theorem wpLast_first {z i:Nat} (hwz:waitsOn md ops z i=true) {oi:Oper} {v:Value} (hi:ops[i]? =some oi) (hsel:∀ (j:Nat) (o:Oper) cs b,ops[j]? =some o→o.op≠ .select cs b)
  (hQ:∀ c a w,Q (.panic c) (a.put oi.dst v) w→Q (.panic c) a w):
  ∀ (fuel:Nat) (listed:Array Bool) (a:Act) (w:World),
   (∀ j oj,ops[j]? =some oj→j≠i→listed.getD j true=false→(∀ e∈oj.after,Region.binds md e=true→e.on≠i)→oi.apart ops oj=true)→
   i∈Region.ready md ops listed→YieldsIf P ops S oi v a→S w→
   wpLast P md ops Q S z fuel (listed.setIfInBounds i true) (a.put oi.dst v) w→wpLast P md ops Q S z (fuel+1) listed a w:=by
 intro fuel
 induction fuel with
 |zero=>
  intro listed a w _ hr hy hS H
  refine⟨fun h=>(by rw[h] at hr;cases hr),fun j hj=>?_⟩
  by_cases hji:j=i
  ·subst hji;exact hy.wpOp hi hS ⟨fun _=>hS,H⟩
  ·have:=ready_mono hj hji
   rw[H.1] at this
   cases this
 |succ fuel ih=>
  intro listed a w hfree hr hy hS H
  refine⟨fun h=>(by rw[h] at hr;cases hr),fun j hj=>?_⟩
  by_cases hji:j=i
  ·subst hji;exact hy.wpOp hi hS ⟨fun _=>hS,H⟩
  ·have hjz:j≠z:=fun e=>by
    subst e
    have h1:=last_waits hwz hj
    have h0:=(mem_ready.1 hr).1
    rcases Nat.lt_or_ge i listed.size with h'|h'
    ·simp[h'] at h0 h1;rw[h0] at h1;cases h1
    ·simp[Array.getElem?_eq_none h'] at h1
   have h1:=H.2 j (ready_mono hj hji)
   obtain⟨hjun,oj,hoj,hall⟩:=mem_ready.1 hj
   have hnot:∀ e∈oj.after,Region.binds md e=true→e.on≠i:=fun e he hb heq=>by
    have h1:=hall e he hb
    have h0:=(mem_ready.1 hr).1
    rw[heq] at h1
    rcases Nat.lt_or_ge i listed.size with h'|h'
    ·simp[h'] at h0 h1;rw[h0] at h1;cases h1
    ·simp[Array.getElem?_eq_none h'] at h1
   have h2:=wpOp_putIf hoj (hfree j oj hoj hji hjun hnot) (fun cs b=>hsel i oi cs b hi) (fun cs b=>hsel j oj cs b hoj) hQ hy h1
   have hfree':∀ k ok,ops[k]? =some ok→k≠i→(listed.setIfInBounds j true).getD k true=false→
     (∀ e∈ok.after,Region.binds md e=true→e.on≠i)→oi.apart ops ok=true:=fun k ok hk hki hun hno=>by
    refine hfree k ok hk hki ?_ hno
    by_cases hjk:j=k
    ·subst hjk;exact hjun
    ·rw[getD_set_ne true hjk] at hun;exact hun
   refine wpOp_mono (fun a' w' h3=>⟨fun _=>h3.2.1 hjz,ih (listed.setIfInBounds j true) a' w' hfree' (ready_mono hr (Ne.symm hji)) h3.1 (h3.2.1 hjz) ?_⟩) h2
   rw[Array.setIfInBounds_comm _ _ hji]
   exact h3.2.2
theorem wpLast_take {z i:Nat} (hwz:waitsOn md ops z i=true) {oi:Oper} {v:Value} {fuel:Nat} {listed:Array Bool} {a:Act} {w:World} (hi:ops[i]? =some oi)
  (hs:Region.noSelect ops=true) (hf:Region.free md ops listed i=true) (hr:(Region.ready md ops listed).contains i=true)
  (hQ:∀ c a w,Q (.panic c) (a.put oi.dst v) w→Q (.panic c) a w) (hy:YieldsIf P ops S oi v a) (hS:S w)
  (h:wpLast P md ops Q S z fuel (listed.setIfInBounds i true) (a.put oi.dst v) w):wpLast P md ops Q S z (fuel+1) listed a w:=
 wpLast_first hwz hi (Region.noSelect_spec hs) hQ fuel listed a w (Region.free_spec hi hf) (by simpa using hr) hy hS h
theorem wpLast_one {z i:Nat} {oi:Oper} {v:Value} {fuel:Nat} {listed:Array Bool} {a:Act} {w:World} (hi:ops[i]? =some oi) (hr:Region.ready md ops listed=[i]) (hy:YieldsIf P ops S oi v a) (hS:S w)
  (h:wpLast P md ops Q S z fuel (listed.setIfInBounds i true) (a.put oi.dst v) w):wpLast P md ops Q S z (fuel+1) listed a w:=by
 refine⟨fun h0=>(by rw[hr] at h0;cases h0),fun k hk=>?_⟩
 rw[hr,List.mem_singleton] at hk
 subst hk
 exact hy.wpOp hi hS ⟨fun _=>hS,h⟩
theorem wpLast_end {z:Nat} {oz:Oper} {listed:Array Bool} {a:Act} {w:World} (ho:ops[z]? =some oz) (hr:Region.ready md ops listed=[z]) (hr2:Region.ready md ops (listed.setIfInBounds z true)=[])
  (hw:Region.wanted oz (yielded ops a.tmps)=true) (h:oz.wp P a w (fun a' w'=>Q .normal a' w') Q):wpLast P md ops Q S z 1 listed a w:=by
 refine⟨fun h0=>(by rw[hr] at h0;cases h0),fun i hi=>?_⟩
 rw[hr,List.mem_singleton] at hi
 subst hi
 unfold wpOp
 simp only[ho,hw,if_true]
 exact .inl (Oper.wp_mono (fun a' w' hq=>⟨fun e=>absurd rfl e,hr2,hq⟩) h)
theorem opIn_of_op {n l:Nat} {o:Oper} {a:Act} {w:World} {K:Act→World→Prop} (hd:∀ c,o.op≠ .defer c) (h:o.wp P a w K Q):o.wpIn (Fence.wide.inRound l) n P a w K Q:=by
 refine⟨fun _ _=>trivial,?_⟩
 rw[Oper.semAt_eq _ _ _ hd]
 unfold Oper.wp at h
 generalize (execOp a.eval o).run P w=r at*
 cases r with
 |ok x w'=>
  cases x<;>simp only[Oper.upon,Oper.uponIn] at h ⊢
  case value=>exact h
  case skip=>exact h
  case defer=>exact h
  case enter f args=>exact⟨fun e=>(by cases e),CallsIn.inRound l (callsIn_wide.2 h)⟩
  case row row args=>exact⟨fun e=>(by cases e),fun c cs _=>let⟨v,w2,r,st⟩:=h c cs;⟨v,w2,r,stepsIn_wide.2 st⟩⟩
 |halt x w'=>
  cases x<;>simp only[Oper.upon,Oper.uponIn] at h ⊢
  case panic=>exact h
theorem anyIn_of_last {z n l:Nat} (hd:∀ o∈ops,∀ c,o.op≠ .defer c) (hQ:¬LetsOut Q):
  ∀ (fuel:Nat) (listed:Array Bool) (a:Act) (w:World),wpLast P md ops Q S z fuel listed a w→wpAnyIn (Fence.wide.inRound l) n P md ops Q fuel listed a w
 |0,_,_,_,h=>h
 |fuel+1,listed,a,w,h=>by
  refine⟨h.1,fun i hi=>?_⟩
  have h2:=h.2 i hi
  unfold wpOp at h2
  unfold wpOpIn
  cases ho:ops[i]? with
  |none=>rw[ho] at h2;exact anyIn_of_last hd hQ fuel _ _ _ h2.2
  |some o=>
   rw[ho] at h2
   simp only at h2 ⊢
   split
   ·rename_i hw
    rw[if_pos hw] at h2
    rcases h2 with h2|⟨_,h2⟩
    ·refine opIn_of_op (hd o (Array.mem_of_getElem? ho)) (Oper.wp_mono (fun a' w' hk=>anyIn_of_last hd hQ fuel _ _ _ hk.2) h2)
    ·exact absurd h2 hQ
   ·rename_i hw
    rw[if_neg hw] at h2
    exact⟨fun _ _=>trivial,anyIn_of_last hd hQ fuel _ _ _ h2.2⟩
def noDefer (ops:Array Oper):Bool:=ops.all fun o=>match o.op with|.defer _=>false|_=>true
theorem region_last {z n l id:Nat} {a:Act} {w:World} (hm:P.follows .mixedOrders=true) (hd:noDefer ops=true) (hQ:¬LetsOut Q)
  (h:wpLast P .any ops Q S z ops.size (Array.replicate ops.size false) a w.drew):(Code.region id ops true).wpIn (Fence.wide.inRound l) n P Q a w:=
 wpIn_region_any hm (anyIn_of_last (fun o ho c hc=>by have:=Array.all_eq_true_iff_forall_mem.1 hd o ho;rw[hc] at this;cases this) hQ _ _ _ _ h)
end
end Go.Proofs.YtfaflomephjkgaaGreatDoor.Rd
