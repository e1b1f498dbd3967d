import Derived.Test.YtokfnghckpgjmaaGreatDoorPPo
import Derived.Test.YtokfnghckpgjmaaGreatDoorPPk
import Derived.Test.YtokfnghckpgjmaaGreatDoorQA
import Derived.Deep.RegionHeld3
import Derived.Laws.CopyOwn
import Derived.Test.YtokfnghckpgjmaaGreatDoorPPm
set_option maxRecDepth 100000
set_option maxHeartbeats 1000000
namespace Go.Proofs.YtokfnghckpgjmaaGreatDoor
section
open Go.RowKit
theorem zjT (f:Nat→Int):(dH f).all (·.oneCell')=true:=by
 rw[Array.all_eq_true];intro i h;simp[dH,Value.oneCell']
theorem zfG (w:World) (B a:Nat) (f:Nat→Int) (x:Int) (hb:w.heap[B]? =some (.cells (dH f) 323 (0,0))):
  (w.setCell ⟨B,a,none⟩ (.int .u32 x)).heap[B]? =some (.cells (dH (upd f a x)) 323 (0,0)):=by
 rw[zx w B a _ _ _ hb,znX]
theorem fJ (w:World) (a b:Obj):((w.alloc a).alloc b).heap[w.heap.size]? =some a∧((w.alloc a).alloc b).heap[w.heap.size+1]? =some b∧Below w.heap.size w ((w.alloc a).alloc b):=by
 refine⟨?_,?_,((Below.refl _ w).alloc zn _).alloc us _⟩
 ·rw[Below.heap_alloc _ _ _ us]
  exact zq w a
 ·simpa using zq (w.alloc a) b
def z64:Array Value:=#[.int .u32 0,.int .u32 0,.int .u32 0,.int .u32 0,.int .u32 0,.int .u32 0,.int .u32 0,.int .u32 0,.int .u32 0,.int .u32 0,.int .u32 0,.int .u32 0,.int .u32 0,.int .u32 0,.int .u32 0,.int .u32 0,.int .u32 0,.int .u32 0,.int .u32 0,.int .u32 0,.int .u32 0,.int .u32 0,.int .u32 0,.int .u32 0,.int .u32 0,.int .u32 0,.int .u32 0,.int .u32 0,.int .u32 0,.int .u32 0,.int .u32 0,.int .u32 0,.int .u32 0,.int .u32 0,.int .u32 0,.int .u32 0,.int .u32 0,.int .u32 0,.int .u32 0,.int .u32 0,.int .u32 0,.int .u32 0,.int .u32 0,.int .u32 0,.int .u32 0,.int .u32 0,.int .u32 0,.int .u32 0,.int .u32 0,.int .u32 0,.int .u32 0,.int .u32 0,.int .u32 0,.int .u32 0,.int .u32 0,.int .u32 0,.int .u32 0,.int .u32 0,.int .u32 0,.int .u32 0,.int .u32 0,.int .u32 0,.int .u32 0,.int .u32 0]
theorem pp:z64=dH (fun _=>0):=by
 apply Array.ext
 ·rw[ku];rfl
 ·intro i h1 h2
  have h:i<64:=by rw[ku] at h2;exact h2
  simp only[dH,Array.getElem_ofFn]
  revert i
  unfold z64;intro i h1 h2 h
  match i,h with
  |0,_|1,_|2,_|3,_|4,_|5,_|6,_|7,_|8,_|9,_|10,_|11,_|12,_|13,_|14,_|15,_=>rfl
  |16,_|17,_|18,_|19,_|20,_|21,_|22,_|23,_|24,_|25,_|26,_|27,_|28,_|29,_|30,_|31,_=>rfl
  |32,_|33,_|34,_|35,_|36,_|37,_|38,_|39,_|40,_|41,_|42,_|43,_|44,_|45,_|46,_|47,_=>rfl
  |48,_|49,_|50,_|51,_|52,_|53,_|54,_|55,_|56,_|57,_|58,_|59,_|60,_|61,_|62,_|63,_=>rfl
  |k+64,h=>exact absurd h uo
theorem zfH (q:Nat→Int) (b cap:Nat) (w:World) (hb:b<w.heap.size) (hq:∀ j,j<64→w.cell? ⟨b,j,none⟩=some (.int .u8 (q j))) (hr:∀ j,0≤q j∧q j<256):
  Calls Tryz.prog 278 #[.slice (some ⟨b,0,none⟩) 64 cap] w fun e w'=>e=.returned (.agg (dH (mP q)))∧Below w.heap.size w w':=by
 have HQ:Hid _:=hq;have HR:Hid _:=hr;clear hq hr;go_enter Tryz.func278,Tryz.ntmps278;go_wp2_with fail
 go_loopw [11] (fun i wr=>∃ k:Nat,k≤64∧i=.int .i64 k∧wr.heap[w.heap.size]? =some (.cells (dH fun _=>0) 323 (0,0))∧wr.heap[w.heap.size+1]? =some (.cells (dH (jM q k)) 323 (0,0))∧Below w.heap.size w wr) (fun i _=>64 - (intOf i).toNat)
 case atStart=>
  have h2:=fJ w (.cells z64 323) (.cells z64 323);rw[pp] at h2;rw[←pp] at h2;exact⟨0,by omega,rfl,pp▸h2.1,pp▸h2.2.1,h2.2.2⟩
 case round=>
  obtain⟨k,hk,rfl,h0,h1,hbl⟩:=hrel;have H0:Hid _:=h0;have H1:Hid _:=h1;have HB:Hid _:=hbl;clear h0 hbl;by_cases hlt:k<64
  ·have hc:wr.cell? ⟨b,k,none⟩=some (.int .u8 (q k)):=(HB.o.cell (p:=⟨b,k,none⟩) hb).trans (HQ.o k hlt)
   obtain⟨a,ha⟩:∃ a,k/4=a:=⟨_,rfl⟩;have ha2:a<64:=uo
   have hcw:wr.cell? ⟨w.heap.size+1,a,none⟩=some (.int .u32 (jM q k a)):=by
    rw[zr h1,ly _ _ ha2]
   have hz:=frozen_of_row _ _ a _ _ h1;have g0:(0:Int)≤(k:Int):=uo
   have g1:(k:Int)<64:=uo
   have g2:(0:Int)≤(a:Int):=uo
   have g3:(a:Int)<64:=uo
   have d0:(k:Int).tdiv 4=(a:Int):=by rw[Int.tdiv_eq_ediv_of_nonneg g0];omega
   have d1:(k:Int)/4=(a:Int):=uo
   have hq0:=(HR.o k).1;have hq1:=(HR.o k).2;have HA:Hid _:=ha;clear h1 ha
   go_wp2
   have fB:(wr.setCell ⟨w.heap.size+1,a,none⟩ (.int .u32 (bits .or .u32 (jM q k a*256%4294967296) (q k)))).heap[w.heap.size+1]? =some (.cells (dH (jM q (k+1))) 323 (0,0)):=by
    rw[zfG _ _ _ _ _ H1.o,←HA.o];rfl
   exact⟨⟨k+1,by omega,by go_num,(Below.heap_setCell _ _ _ _ us).trans H0.o,fB,HB.o.setCell us _⟩,by simp[intOf];omega⟩
  ·have hk64:k=64:=uo
   rw[show(k:Int)=64 by omega];rw[hk64] at H1;clear h1 hk hlt hk64;go_wp2_with fail
   go_loopw [6] (fun i wr=>∃ k:Nat,k≤48∧i=.int .i64 (16+(k:Int))∧wr.heap[w.heap.size]? =some (.cells (dH fun _=>0) 323 (0,0))∧wr.heap[w.heap.size+1]? =some (.cells (dH (sw (jM q 64) k)) 323 (0,0))∧Below w.heap.size w wr) (fun i _=>64 - (intOf i).toNat)
   case atStart=>exact⟨0,by omega,rfl,H0.o,H1.o,HB.o⟩
   case round=>
    clear H0 H1 HB;obtain⟨k,hk,rfl,h0,h1,hbl⟩:=hrel;obtain⟨f0,hf0⟩:∃ f0,jM q 64=f0:=⟨_,rfl⟩;rw[hf0] at h1;have HF0:Hid (jM q 64=f0):=hf0;clear hf0;have H0:Hid _:=h0;have H1:Hid _:=h1;have HB:Hid _:=hbl;clear h0 hbl;by_cases hlt:k<48
    ·obtain⟨F,hF⟩:∃ F,sw f0 k=F:=⟨_,rfl⟩
     have HF:Hid _:=hF;rw[hF] at h1;have c2:wr.cell? ⟨w.heap.size+1,k+14,none⟩=some (.int .u32 (F (k+14))):=by rw[zr h1,ly _ _ uo]
     have c15:wr.cell? ⟨w.heap.size+1,k+1,none⟩=some (.int .u32 (F (k+1))):=by rw[zr h1,ly _ _ uo]
     have c16:wr.cell? ⟨w.heap.size+1,k,none⟩=some (.int .u32 (F k)):=by rw[zr h1,ly _ _ uo]
     have c7:wr.cell? ⟨w.heap.size+1,k+9,none⟩=some (.int .u32 (F (k+9))):=by rw[zr h1,ly _ _ uo]
     have c0:wr.cell? ⟨w.heap.size+1,k+16,none⟩=some (.int .u32 (F (k+16))):=by rw[zr h1,ly _ _ uo]
     have hz:=frozen_of_row _ _ (k+16) _ _ h1;have g0:(0:Int)≤(k:Int):=uo
     have g1:(k:Int)<48:=uo
     have i2:(16:Int)+(k:Int) - 2=((k+14:Nat):Int):=uo
     have i15:(16:Int)+(k:Int) - 15=((k+1:Nat):Int):=uo
     have i16:(16:Int)+(k:Int) - 16=(k:Int):=uo
     have i7:(16:Int)+(k:Int) - 7=((k+9:Nat):Int):=uo
     clear h1 hF;go_wp2_with fail
     go_quiet (fail)
     obtain⟨wd,hwd⟩:∃ wd,wr.drewN nq=wd:=⟨_,rfl⟩;have d16:wd.cell? ⟨w.heap.size+1,k,none⟩=some (.int .u32 (F k)):=by rw[←hwd];exact c16
     have d7:wd.cell? ⟨w.heap.size+1,k+9,none⟩=some (.int .u32 (F (k+9))):=by rw[←hwd];exact c7
     have d0:wd.cell? ⟨w.heap.size+1,16+k,none⟩=some (.int .u32 (F (k+16))):=by rw[←hwd,Nat.add_comm 16 k];exact c0
     have dz:wd.frozen? ⟨w.heap.size+1,16+k,none⟩=false:=by rw[←hwd,Nat.add_comm 16 k];exact hz
     have D0:Hid (wd.heap[w.heap.size]? =some (.cells (dH fun _=>0) 323 (0,0))):=by rw[←hwd];exact H0.o
     have D1:Hid (wd.heap[w.heap.size+1]? =some (.cells (dH F) 323 (0,0))):=by rw[←hwd,←HF.o];exact H1.o
     have DB:Hid (Below w.heap.size w wd):=by rw[←hwd];exact below_drewN HB.o _
     rw[hwd];clear hwd c2 c15 c16 c7 c0 hz H0 H1 HB i2 i15;go_wp2_with fail;refine(ziH _ _).mono ?_;rintro e w' ⟨rfl,rfl⟩
     go_wp2_with fail;refine(ziJ _ _).mono ?_;rintro e w' ⟨rfl,rfl⟩
     go_wp2_with fail;refine(zjJ _ _).mono ?_;rintro e w' ⟨rfl,rfl⟩
     go_wp2_with fail;refine(ziI _ _).mono ?_;rintro e w' ⟨rfl,rfl⟩
     go_wp2_with fail
     go_region
     have hx:(F k+bits BinOp.xor IntKind.u32 (bits BinOp.xor IntKind.u32 (t7 (F (k+1))) (pM (F (k+1)))) (F (k+1)/8)+F (k+9)+bits BinOp.xor IntKind.u32 (bits BinOp.xor IntKind.u32 (t17 (F (k+14))) (pN (F (k+14)))) (F (k+14)/1024))%4294967296=ext F (16+k):=by
      unfold ext e0 e1;rw[show 16+k - 16=k by omega,show 16+k - 15=k+1 by omega,show 16+k - 7=k+9 by omega,show 16+k - 2=k+14 by omega]
     rw[hx];clear hx d16 d7 d0 dz i16 i7
     go_wp2
     have fB:(w'.setCell ⟨w.heap.size+1,16+k,none⟩ (.int .u32 (ext F (16+k)))).heap[w.heap.size+1]? =some (.cells (dH (sw f0 (k+1))) 323 (0,0)):=by
      rw[zfG _ _ _ _ _ D1.o,←HF.o];rfl
     go_roundw
     case rel=>exact⟨k+1,by omega,by go_num,(Below.heap_setCell _ _ _ _ us).trans D0.o,by rw[HF0.o];exact fB,(DB.o.setCell us _).drew⟩
     case measure=>simp[intOf];omega
    ·obtain rfl:k=48:=uo
     clear h1 hk;have e16:(16:Int)+((48:Nat):Int)=64:=rfl
     go_wp2_with (first|(refine wpList_load_row rfl 323 _ rfl (w.heap.size+1) rfl 323 _ (0,0) _ H1.o Tryz.underlying323 rfl (by rw[ku];kernel_rfl) ?_)|(refine wpList_store_row rfl 323 _ _ rfl w.heap.size _ rfl rfl 323 _ H0.o (by rw[ku];kernel_rfl) (by rw[ku,ku]) (zjT _) ?_))
     refine bodyPost_ret (results_cell_row Tryz.results278 _ _ w.heap.size 323 _ (0,0) _ rfl (setRow_heap _ _ _ _ _ _ H0.o) Tryz.underlying323 rfl (by rw[ku];kernel_rfl)) rfl ⟨?_,below_setRow HB.o zn _⟩;rw[show mP q=sw f0 48 by rw[←HF0.o];rfl]
def sm (f r:Nat→Int) (c:Int):Array Value:=Array.ofFn (n:=73) fun i=>if i.val<8 then .int .u32 (f i.val) else if i.val<72 then .int .u8 (r (i.val - 8)) else .int .i64 c
theorem lA (f r:Nat→Int) (c:Int):(sm f r c).size=73:=by simp[sm]
theorem fg (f r:Nat→Int) (c:Int) (k:Nat) (h:k<8):(sm f r c)[k]? =some (.int .u32 (f k)):=by
 have h':k<73:=uo
 simp[sm,h',h]
theorem lN (f r:Nat→Int) (c:Int) (k:Nat) (h:k<64):(sm f r c)[8+k]? =some (.int .u8 (r k)):=by
 have h':8+k<73:=uo
 have h1:¬8+k<8:=uo
 have h2:8+k<72:=uo
 simp[sm,h',h2]
theorem kB (f r:Nat→Int) (c:Int):(sm f r c)[72]? =some (.int .i64 c):=by simp[sm]
theorem zl8 (f r:Nat→Int) (c:Int) (k:Nat) (x:Int) (h:k<8):(sm f r c).setIfInBounds k (.int .u32 x)=sm (upd f k x) r c:=by
 apply Array.ext
 ·simp[sm]
 ·intro i h1 h2
  have h3:i<(sm f r c).size:=by simpa using h1
  rw[Array.getElem_setIfInBounds h3];simp only[sm,Array.getElem_ofFn,upd];by_cases e:k=i
  ·subst e;simp[h]
  ·have e2:¬i=k:=fun e'=>e e'.symm
   rw[if_neg e];by_cases h5:i<8
   ·simp[h5,e2]
   ·simp[h5]
theorem zl9 (f r:Nat→Int) (c x:Int):(sm f r c).setIfInBounds 72 (.int .i64 x)=sm f r x:=by
 apply Array.ext
 ·simp[sm]
 ·intro i h1 h2
  have h3:i<(sm f r c).size:=by simpa using h1
  rw[Array.getElem_setIfInBounds h3];have h4:i<73:=by rw[lA] at h2;exact h2
  simp only[sm,Array.getElem_ofFn];by_cases e:72=i
  ·subst e;simp
  ·rw[if_neg e]
   by_cases h5:i<8
   ·simp[h5]
   ·simp[h5,show i<72 by omega]
theorem zhM {f g r s:Nat→Int} {c:Int} (h:∀ i,i<8→f i=g i) (h2:∀ i,i<64→r i=s i):sm f r c=sm g s c:=by
 apply Array.ext
 ·simp[sm]
 ·intro i h1 _
  have h4:i<73:=by rw[lA] at h1;exact h1
  simp only[sm,Array.getElem_ofFn];by_cases h5:i<8
  ·simp[h5,h i h5]
  ·by_cases h6:i<72
   ·simp[h5,h6,h2 (i - 8) uo]
   ·simp[h5,h6]
theorem nW {w1 w2 w3:World} {r:Option Nat} (h1:w1.grownBy w2 r) (h2:w2.grownBy w3 r):w1.grownBy w3 r:=
 ⟨h2.os.trans h1.os,h2.tape.trans h1.tape,h2.output.trans h1.output,Nat.le_trans h1.size h2.size,fun k hk hne=>(h2.block k (Nat.lt_of_lt_of_le hk h1.size) hne).trans (h1.block k hk hne)⟩
theorem pq (f:Nat→Int):(fF f).all (·.oneCell')=true:=by simp[fF,Value.oneCell']
theorem zqc (f:Nat→Int) (k:Nat) (hk:k<64) (w:World):(Instr.index 323 (.agg (dH f)) (.int .i64 (k:Int))).run Tryz.prog w=.ok (.int .u32 (f k)) w:=by
 have h41:(Tryz.prog.info? 41).map (·.size)=some 1:=uk
 obtain⟨i,hi,hs⟩:=Option.map_eq_some_iff.1 h41;have hs':i.size=1:=hs;simp[Instr.index,run_underlying Tryz.underlying323,run_underlying Tryz.underlying41,asIntOf,part,isAgg,sizeOf,typeInfo,hi,hs',go_sem,ly f k hk];intro h;omega
theorem oR (f:Nat→Int) (k:Nat) (hk:k<8) (w:World):(Instr.index 332 (.agg (fF f)) (.int .i64 (k:Int))).run Tryz.prog w=.ok (.int .u32 (f k)) w:=
 match k,hk with
 |0,_=>by kernel_rfl
 |1,_=>by kernel_rfl
 |2,_=>by kernel_rfl
 |3,_=>by kernel_rfl
 |4,_=>by kernel_rfl
 |5,_=>by kernel_rfl
 |6,_=>by kernel_rfl
 |7,_=>by kernel_rfl
 |k+8,h=>absurd h uo
theorem zds {P:Program} {op:Oper} {a:Act} {w:World} {K:Act→World→Prop} {Q:Exit→Act→World→Prop} (ty:TypeId) (x y:Operand) (ho:op.op=.store ty x y)
  (g:Nat) (cells:Array Value) (hx:a.eval x=.pointer (some ⟨g,0,none⟩)) (hy:a.eval y=.agg cells)
  (t:TypeId) (old:Array Value) (hg:w.heap[g]? =some (.cells old t (0,0))) (hi:(P.info? ty).map (·.size)=some cells.size)
  (hold:old.size=cells.size) (h1:cells.all (·.oneCell')=true)
  (h:K (a.put op.dst undef) (w.setRow g cells)):op.wp P a w K Q:=by
 unfold Oper.wp execOp;simp only[ho,hx,hy,Instr.storeAt,Instr.sureAddr,Sem.run_bind,Sem.run_pure,Result.andThen_ok,run_storeVar_row w g t ty old cells hg hi hold h1];exact h
theorem zdQ {P:Program} {op:Oper} {a:Act} {w:World} {K:Act→World→Prop} {Q:Exit→Act→World→Prop} (ty:TypeId) (x:Operand) (ho:op.op=.load ty x)
  (g:Nat) (hx:a.eval x=.pointer (some ⟨g,0,none⟩)) (t:TypeId) (cs:Array Value) (fr:Nat × Nat) (d:TypeDesc) (hg:w.heap[g]? =some (.cells cs t fr))
  (hu:P.underlying ty=some d) (hd:(match d with|.struct _|.array _ _=>true|_=>false)=true) (hi:(P.info? ty).map (·.size)=some cs.size)
  (h:K (a.put op.dst (.agg cs)) w):op.wp P a w K Q:=by
 unfold Oper.wp execOp;simp only[ho,hx,Instr.loadAt,Instr.sureAddr,Sem.run_bind,Sem.run_pure,Result.andThen_ok,run_loadVar_row w g t ty cs fr d hg hu hd hi];exact h
def gS (f G:Nat→Int) (k:Nat):Nat→Int:=fun i=>if i<k then(f i+G i)%4294967296 else f i
theorem zjU (f G:Nat→Int) (k:Nat):gS f G (k+1)=upd (gS f G k) k ((f k+G k)%4294967296):=by
 funext i
 unfold gS upd;by_cases h:i=k
 ·subst h;simp
 ·have:(i<k+1)=(i<k):=by simp;omega
  simp[h,this]
theorem zn4 (f G:Nat→Int) (k:Nat):gS f G k k=f k:=by simp[gS]
theorem zqd (w:World) (g k:Nat) (f r:Nat→Int) (c x:Int) (hg:w.heap[g]? =some (.cells (sm f r c) 336 (0,0))) (hk:k<8):
  (w.setCell ⟨g,k,none⟩ (.int .u32 x)).heap[g]? =some (.cells (sm (upd f k x) r c) 336 (0,0)):=by
 rw[zx w g k _ _ _ hg,zl8 _ _ _ _ _ hk]
theorem iI (w:World) (g k:Nat) (v:Value):w.grownBy (w.setCell ⟨g,k,none⟩ v) (some g):=
 ⟨rfl,rfl,rfl,by simp[World.setCell],fun j _ hne=>Below.heap_setCell _ _ _ _ (fun e=>hne (by rw[e]))⟩
theorem size_setRow (w:World) (g:Nat) (cs:Array Value):(w.setRow g cs).heap.size=w.heap.size:=by simp[World.setRow]
theorem pr (w:World) (old:Array Value) (t:TypeId) (cs:Array Value):∃ W2,(w.alloc (.cells old t)).setRow w.heap.size cs=W2∧W2.heap[w.heap.size]? =some (.cells cs t (0,0))∧Below w.heap.size w W2∧W2.heap.size=w.heap.size+1:=
 ⟨_,rfl,setRow_heap _ _ _ _ _ _ (zq w _),below_setRow ((Below.refl _ w).alloc zn _) zn _,by rw[size_setRow];simp⟩
theorem zhN {w:World} {g:Nat} {f r:Nat→Int} {c:Int} {t:TypeId} {fr:Nat × Nat} (h:w.heap[g]? =some (.cells (sm f r c) t fr)):w.rangeAt g 0 (fF f).toList:=fun j v hv=>by
 have hj:j<8:=(List.getElem?_eq_some_iff.1 hv).1;rw[Nat.zero_add,zr h,fg _ _ _ _ hj,←znY f j hj];simpa using hv
theorem ziM (Kt q f r : Nat → Int) (c : Int) (g b cap : Nat) (w : World) {tt : TypeId} {fr : Nat × Nat} (hK : w.heap[3]? = some (.cells (dH Kt) tt fr))
    (hb : b < w.heap.size) (hq : ∀ j, j < 64 → w.cell? ⟨b, j, none⟩ = some (.int .u8 (q j))) (hr : ∀ j, 0 ≤ q j ∧ q j < 256) (hg : w.heap[g]? = some (.cells (sm f r c) 336 (0, 0))) :
    Calls Tryz.prog 269 #[.pointer (some ⟨g, 0, none⟩), .slice (some ⟨b, 0, none⟩) 64 cap] w fun e w' => e = .returned (.tuple #[]) ∧ w'.heap[g]? = some (.cells (sm (mQ Kt f q) r c) 336 (0, 0)) ∧ w.grownBy w' (some g) := by
  have hgl : g < w.heap.size := (zi hg).1;have h1l : 3 < w.heap.size := (zi hK).1;have HK : Hid _ := hK;have HG : Hid _ := hg;have HQ : Hid _ := hq;have HR : Hid _ := hr;clear hK hg hq hr;go_enter Tryz.func269, Tryz.ntmps269;go_wp2_with fail;refine (zfH q b cap _ hb HQ.o HR.o).mono ?_;rintro e w1 ⟨rfl, hb1⟩;have G1 : Hid _ := (hb1.block g hgl).trans HG.o;have K1 : Hid _ := (hb1.block 3 h1l).trans HK.o;clear HG HK HQ HR;have c0 := (cell_of_row w1 g 0 _ _ _ G1.o).trans (fg f r c 0 ud);have c1 := (cell_of_row w1 g 1 _ _ _ G1.o).trans (fg f r c 1 ud);have c2 := (cell_of_row w1 g 2 _ _ _ G1.o).trans (fg f r c 2 ud);have c3 := (cell_of_row w1 g 3 _ _ _ G1.o).trans (fg f r c 3 ud);have c4 := (cell_of_row w1 g 4 _ _ _ G1.o).trans (fg f r c 4 ud);have c5 := (cell_of_row w1 g 5 _ _ _ G1.o).trans (fg f r c 5 ud)
  have c6 := (cell_of_row w1 g 6 _ _ _ G1.o).trans (fg f r c 6 ud);have c7 := (cell_of_row w1 g 7 _ _ _ G1.o).trans (fg f r c 7 ud);clear c0 c1 c2 c3 c4 c5 c6 c7;generalize hS : mP q = S at *
  have HS : Hid _ := hS;clear hS;have l1 : w.heap.size ≤ w1.heap.size := hb1.size;obtain ⟨W2, hW2, r2, b2, s2⟩ := pr w1 z64 323 (dH S);unfold z64 at hW2;obtain ⟨W3, hW3, r3, b3, s3⟩ := pr W2 #[.int .u32 0, .int .u32 0, .int .u32 0, .int .u32 0, .int .u32 0, .int .u32 0, .int .u32 0, .int .u32 0] 332 (fF f);have G2 : Hid (W2.heap[g]? = some (.cells (sm f r c) 336 (0, 0))) := (b2.block g uo).trans G1.o;have G3 : Hid (W3.heap[g]? = some (.cells (sm f r c) 336 (0, 0))) := (b3.block g uo).trans G2.o;have K3 : Hid (W3.heap[3]? = some (.cells (dH Kt) tt fr)) := (b3.block 3 uo).trans ((b2.block 3 uo).trans K1.o);have R2 : Hid (W3.heap[w1.heap.size]? = some (.cells (dH S) 323 (0, 0))) := (b3.block _ uo).trans r2;have R3 : Hid (W3.heap[W2.heap.size]? = some (.cells (fF f) 332 (0, 0))) := r3;have B3 : Hid (Below w.heap.size w W3) := (hb1.trans (b2.mono l1)).trans (b3.mono uo)
  have S2 : Hid _ := s2;have S3 : Hid _ := s3;have L1 : Hid _ := l1;have E2 : Hid _ := hW2;have E3 : Hid _ := hW3;clear r2 b2 r3 b3 hb1 G1 K1 hW2 hW3 s2 s3 l1
  go_wp2_with (first
    | (refine wpList_store_row rfl 323 _ _ rfl w1.heap.size _ rfl rfl 323 _ (zq w1 _) (by rw [ku]; kernel_rfl) (by rw [ku]; rfl) (zjT _) ?_
       rw [E2.o])
    | (refine wpList_load_mid rfl 332 _ rfl g 0 rfl (fF f).toList _ (zhN G2.o) Tryz.underlying332 rfl uk ?_)
    | (refine wpList_store_row rfl 332 _ _ rfl W2.heap.size (fF f) rfl rfl 332 _ (zq W2 _) uk rfl (pq _) ?_
       rw [E3.o]; clear E2 E3 G2)
    | (refine wpList_load_row rfl 323 _ rfl 3 rfl tt _ fr _ K3.o Tryz.underlying323 rfl (by rw [ku]; kernel_rfl) ?_))
  go_loopw [16] (fun i wr => ∃ k : Nat, k ≤ 64 ∧ i = .int .i64 k ∧ wr.heap[g]? = some (.cells (sm f r c) 336 (0, 0)) ∧ wr.heap[w1.heap.size]? = some (.cells (dH S) 323 (0, 0)) ∧ wr.heap[W2.heap.size]? = some (.cells (fF (jN Kt S f k)) 332 (0, 0)) ∧ Below w.heap.size w wr) (fun i _ => 64 - (intOf i).toNat)
  case atStart => exact ⟨0, by omega, rfl, G3.o, R2.o, R3.o, B3.o⟩
  case round =>
    clear G3 R2 R3 B3 K3;obtain ⟨k, hk, rfl, h0, h1, h2, hbl⟩ := hrel;have H0 : Hid _ := h0;have H1 : Hid _ := h1;have H2 : Hid _ := h2;have HB : Hid _ := hbl;clear h0 hbl;by_cases hlt : k < 64
    · have cw : wr.cell? ⟨w1.heap.size, k, none⟩ = some (.int .u32 (S k)) := (cell_of_row wr _ k _ _ _ h1).trans (ly S k hlt)
      have hix := zqc Kt k hlt;have g0 : (0 : Int) ≤ (k : Int) := by omega
      have g1 : (k : Int) < 64 := by omega
      clear h1 h2;go_wp2_with fail;refine wp_region_any uk ?_;change wpAny _ _ _ _ _ _ _ (World.drew _);refine wpAny_take (i := 1) (v := ?_) rfl uk uk uk (fun _ _ _ h => h) (Or.inl ⟨by rfl, ?_⟩) ?_;rotate_left
      · intro w
        go_simp
        try with_reducible rfl
      refine wpAny_take (i := 2) (v := ?_) rfl uk uk uk (fun _ _ _ h => h) (Or.inl ⟨by rfl, ?_⟩) ?_;rotate_left
      · intro w
        go_simp
        try with_reducible rfl
      refine wpAny_take (i := 3) (v := ?_) rfl uk uk uk (fun _ _ _ h => h) (Or.inl ⟨by rfl, ?_⟩) ?_;rotate_left
      · intro w
        go_simp
        try with_reducible rfl
      refine wpAny_ready (rs := [0, 4]) uk us ?_;refine (AllReady.cons rfl (fun K hK => ?_) (AllReady.cons rfl (fun K hK => ?_) AllReady.nil))
      · rw [if_pos (by rfl)]
        refine zdQ 332 _ rfl W2.heap.size rfl 332 _ (0, 0) _ H2.o Tryz.underlying332 rfl uk ?_;refine hK _ _ ?_;clear hK K;refine wpAny_ready (rs := [4]) uk us ?_;refine (AllReady.cons rfl (fun K hK => ?_) AllReady.nil);go_simp;refine hK _ _ ?_;clear hK K;refine wpAny_take (i := 5) (v := ?_) rfl uk uk uk (fun _ _ _ h => h) (Or.inl ⟨by rfl, ?_⟩) ?_;rotate_left
        · intro w
          go_simp
          try with_reducible rfl
        refine wpAny_ready (rs := [6]) uk us ?_;refine (AllReady.cons rfl (fun K hK => ?_) AllReady.nil);go_simp;refine (zhK _ _ _).mono ?_;rintro e w4 ⟨rfl, hb4⟩;refine hK _ _ ?_;clear hK K;have hsz : W2.heap.size < wr.heap.size := (zi H2.o).1;have hs1 : w1.heap.size < wr.heap.size := (zi H1.o).1;have J0 : Hid (w4.heap[g]? = some (.cells (sm f r c) 336 (0, 0))) := (hb4.block g (by have := L1.o; show g < wr.heap.size; omega)).trans H0.o;have J1 : Hid (w4.heap[w1.heap.size]? = some (.cells (dH S) 323 (0, 0))) := (hb4.block _ (by show _ < wr.heap.size; exact hs1)).trans H1.o;have J2 : Hid (w4.heap[W2.heap.size]? = some (.cells (fF (jN Kt S f k)) 332 (0, 0))) := (hb4.block _ (by show _ < wr.heap.size; exact hsz)).trans H2.o;have JB : Hid (Below w.heap.size w w4) := HB.o.drew.trans (hb4.mono HB.o.drew.size);clear hb4 hsz hs1;refine wpAny_ready (rs := [7]) uk us ?_
        refine (AllReady.cons rfl (fun K hK => ?_) AllReady.nil);rw [if_pos (by rfl)];refine zds 332 _ _ rfl W2.heap.size _ rfl rfl 332 _ J2.o uk rfl (pq _) ?_;refine hK _ _ ?_;clear hK K;refine wpAny_done uk ?_ _
        go_wp2
        have hn1 : w1.heap.size ≠ W2.heap.size := by have := S2.o; omega
        have hn2 : g ≠ W2.heap.size := by have := S2.o; have := L1.o; omega
        exact ⟨⟨k + 1, by omega, by go_num, (setRow_other _ _ _ _ hn2).trans J0.o, (setRow_other _ _ _ _ hn1).trans J1.o, setRow_heap _ _ _ _ _ _ J2.o, below_setRow JB.o (by have := S2.o; have := L1.o; omega) _⟩, by simp [intOf]; omega⟩
      · go_simp
        refine hK _ _ ?_;clear hK K;refine wpAny_take (i := 5) (v := ?_) rfl uk uk uk (fun _ _ _ h => h) (Or.inl ⟨by rfl, ?_⟩) ?_;rotate_left
        · intro w
          go_simp
          try with_reducible rfl
        refine wpAny_ready (rs := [0]) uk us ?_;refine (AllReady.cons rfl (fun K hK => ?_) AllReady.nil);rw [if_pos (by rfl)];refine zdQ 332 _ rfl W2.heap.size rfl 332 _ (0, 0) _ H2.o Tryz.underlying332 rfl uk ?_;refine hK _ _ ?_;clear hK K;refine wpAny_ready (rs := [6]) uk us ?_;refine (AllReady.cons rfl (fun K hK => ?_) AllReady.nil);go_simp;refine (zhK _ _ _).mono ?_;rintro e w4 ⟨rfl, hb4⟩;refine hK _ _ ?_;clear hK K;have hsz : W2.heap.size < wr.heap.size := (zi H2.o).1;have hs1 : w1.heap.size < wr.heap.size := (zi H1.o).1;have J0 : Hid (w4.heap[g]? = some (.cells (sm f r c) 336 (0, 0))) := (hb4.block g (by have := L1.o; show g < wr.heap.size; omega)).trans H0.o;have J1 : Hid (w4.heap[w1.heap.size]? = some (.cells (dH S) 323 (0, 0))) := (hb4.block _ (by show _ < wr.heap.size; exact hs1)).trans H1.o;have J2 : Hid (w4.heap[W2.heap.size]? = some (.cells (fF (jN Kt S f k)) 332 (0, 0))) := (hb4.block _ (by show _ < wr.heap.size; exact hsz)).trans H2.o
        have JB : Hid (Below w.heap.size w w4) := HB.o.drew.trans (hb4.mono HB.o.drew.size);clear hb4 hsz hs1;refine wpAny_ready (rs := [7]) uk us ?_;refine (AllReady.cons rfl (fun K hK => ?_) AllReady.nil);rw [if_pos (by rfl)];refine zds 332 _ _ rfl W2.heap.size _ rfl rfl 332 _ J2.o uk rfl (pq _) ?_;refine hK _ _ ?_;clear hK K;refine wpAny_done uk ?_ _
        go_wp2
        have hn1 : w1.heap.size ≠ W2.heap.size := by have := S2.o; omega
        have hn2 : g ≠ W2.heap.size := by have := S2.o; have := L1.o; omega
        exact ⟨⟨k + 1, by omega, by go_num, (setRow_other _ _ _ _ hn2).trans J0.o, (setRow_other _ _ _ _ hn1).trans J1.o, setRow_heap _ _ _ _ _ _ J2.o, below_setRow JB.o (by have := S2.o; have := L1.o; omega) _⟩, by simp [intOf]; omega⟩
    · have hk64 : k = 64 := by omega
      rw [show (k : Int) = 64 by omega];rw [hk64] at H2;clear h1 h2 hk hlt hk64;generalize hGG : jN Kt S f 64 = GG at *
      have HGG : Hid _ := hGG;clear hGG;have hg0 := H0.o
      go_wp2_with (refine wpList_load_row rfl 332 _ rfl W2.heap.size rfl 332 _ (0, 0) _ H2.o Tryz.underlying332 rfl uk ?_)
      clear hg0
      go_loopw [29] (fun i wr => ∃ k : Nat, k ≤ 8 ∧ i = .int .i64 k ∧ wr.heap[g]? = some (.cells (sm (gS f GG k) r c) 336 (0, 0)) ∧ w.grownBy wr (some g)) (fun i _ => 8 - (intOf i).toNat)
      case atStart => exact ⟨0, by omega, rfl, by rw [H0.o, zhM (g := gS f GG 0) (s := r) (fun i _ => by simp [gS]) (fun _ _ => rfl)], ⟨HB.o.os, HB.o.tape, HB.o.output, HB.o.size, fun k hk _ => HB.o.block k hk⟩⟩
      case round =>
        clear H0 H1 H2 HB;obtain ⟨k, hk, rfl, h0, hgr⟩ := hrel;have H0 : Hid _ := h0;have HB : Hid _ := hgr;clear hgr;by_cases hlt : k < 8
        · have cw : wr.cell? ⟨g, k, none⟩ = some (.int .u32 (f k)) := by rw [(cell_of_row wr _ k _ _ _ h0).trans (fg _ _ _ k hlt), zn4]
          have hz := frozen_of_row wr g k _ _ h0;have hix := oR GG k hlt;have g0 : (0 : Int) ≤ (k : Int) := by omega
          have g1 : (k : Int) < 8 := by omega
          clear h0;go_wp2_with fail
          go_region
          go_wp2
          have fB : (wr.setCell ⟨g, k, none⟩ (.int .u32 ((f k + GG k) % 4294967296))).heap[g]? = some (.cells (sm (gS f GG (k + 1)) r c) 336 (0, 0)) := by
            rw [zjU]; exact zqd _ _ _ _ _ _ _ H0.o hlt
          have fG : w.grownBy (wr.setCell ⟨g, k, none⟩ (.int .u32 ((f k + GG k) % 4294967296))) (some g) := nW HB.o (iI _ _ _ _);exact ⟨⟨k + 1, by omega, by go_num, fB, ⟨fG.os, fG.tape, fG.output, fG.size, fG.block⟩⟩, by simp [intOf]; omega⟩
        · have hk8 : k = 8 := by omega
          subst hk8
          go_wp2
          go_end0
          refine ⟨rfl, ?_, HB.o⟩;rw [H0.o, zhM (g := mQ Kt f q) (s := r) (fun i hi => by simp [gS, mQ, hi, HS.o, HGG.o]) (fun _ _ => rfl)]
end
end Go.Proofs.YtokfnghckpgjmaaGreatDoor
