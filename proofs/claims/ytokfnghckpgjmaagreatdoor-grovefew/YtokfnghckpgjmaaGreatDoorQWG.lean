/- A head's nonce; a block's tag; the block of a head and a body. -/
import Derived.Test.YtokfnghckpgjmaaGreatDoorPPo
import Derived.Test.YtokfnghckpgjmaaGreatDoorPPk
import Derived.Test.YtokfnghckpgjmaaGreatDoorQWD
import Derived.Test.YtokfnghckpgjmaaGreatDoorPVa
import Derived.Test.YtokfnghckpgjmaaGreatDoorQZI
set_option maxRecDepth 100000
set_option maxHeartbeats 2000000
namespace Go.Proofs.YtokfnghckpgjmaaGreatDoor
namespace Rs
open Go.RowKit Go.Lib
def Tb (Kt:Nat→Int) (w:World):Prop:=(∃ tt fr,w.heap[3]? =some (.cells (dH Kt) tt fr))∧∃ tt fr,w.heap[2]? =some (.cells Ra.tab tt fr)
theorem Tb.below {Kt:Nat→Int} {w W:World} {B:Nat} (h:Tb Kt w) (hb:Below B w W) (hB:w.heap.size≤B):Tb Kt W:=by
 obtain⟨⟨t1,f1,h1⟩,t2,f2,h2⟩:=h;exact⟨⟨t1,f1,(hb.block _ (Nat.lt_of_lt_of_le (zi h1).1 hB)).trans h1⟩,t2,f2,(hb.block _ (Nat.lt_of_lt_of_le (zi h2).1 hB)).trans h2⟩
theorem zlc (h:Hd) (w:World):(Instr.sliceAt 9 (.string (cD h)) (some (.int .i64 8)) (some (.int .i64 20)) none).run Tryz.prog w=.ok (.string (fT h)) w:=pA (cD h) (lx h) 8 20 uo uo w
theorem zgk (h:Hd) (hf:fits h) (w:World):
  Calls Tryz.prog 179 #[hv h] w fun e w'=>e=.returned (.string (fT h))∧Below w.heap.size w w':=by
 have HF:Hid (fits h):=hf;have hE:∀ w,(Instr.sliceAt 9 (.string (cD h)) (some (.int .i64 8)) (some (.int .i64 20)) none).run Tryz.prog w=.ok (.string (fT h)) w:=zlc h;have HP:Hid (∀ W,Calls Tryz.prog 180 #[hv h] W fun e w'=>e=.returned (.string (cD h))∧Below W.heap.size W w'):=nw h hf;clear hf;generalize cD h=x at*
 generalize fT h=y at*
 obtain⟨a,b,c,d⟩:=h;unfold hv at*
 go_enter Tryz.func179,Tryz.ntmps179;go_wp2_with fail;refine um (HP.o _) fun w2 b2=>?_;have B2:Hid (Below w.heap.size w w2):=((Below.refl _ w).alloc zn _).trans (b2.mono us);clear b2;go_wp2_with fail;go_ret;exact⟨rfl,B2.o⟩
theorem zmZ {P:Program} {ops:Array Oper} {rest:List Oper} {o:Oper} {a:Act} {w:World} {Q:Exit→Act→World→Prop} (hgd:o.guard=none) (t u:TypeId) (x y:Operand) (ho:o.op=.call { callee:=.builtin .max,args:=#[x,y],argTypes:=#[t,u] })
  {p q r:Int} (hx:a.eval x=.int .i64 p) (hy:a.eval y=.int .i64 q) (hr:(if p<q then q else p)=r) (h:wpList P ops Q rest (a.put o.dst (.int .i64 r)) w):wpList P ops Q (o::rest) a w:=
 wpList_plain hgd fun _ hK=>by
  have hrun:(Builtin.max_ #[t,u] o.type #[.int .i64 p,.int .i64 q]).run P w=.ok (.int .i64 r) w:=by subst hr;rfl
  unfold Oper.wp execOp;simp only[ho,resolve,invoke,builtin,Sem.run_bind,Sem.run_pure,Result.andThen_ok,List.map_toArray,List.map_cons,List.map_nil,hx,hy,hrun];exact hK _ _ h
theorem tg (b:ByteArray) (hb:b.size≤maxLen) (w:World):
  Calls Tryz.prog 96 #[.string b] w fun e w'=>e=.returned (.string (cW b))∧w'=w:=by
 unfold maxLen at hb;have h0:(0:Int)≤(b.size:Int):=uo
 have h1:(b.size:Int)≤9223372036854775807:=uo
 obtain⟨n,hn⟩:∃ n,b.size - 32=n:=⟨_,rfl⟩;have hmx:(if(b.size:Int) - 32<0 then 0 else(b.size:Int) - 32)=(n:Int):=by split<;>omega
 have hw:wrap64 ((b.size:Int) - 32)=(b.size:Int) - 32:=by unfold wrap64;omega
 have hE:∀ w,(Instr.sliceAt 9 (.string b) (some (.int .i64 (n:Int))) none none).run Tryz.prog w=.ok (.string (cW b)) w:=fun w=>by
  have hnb:n≤b.size:=uo
  simp[Instr.sliceAt,Instr.slice,run_underlying Tryz.underlying9,go_sem];unfold cW;rw[hn];simp[hnb]
 clear hn;generalize cW b=y at*
 go_enter Tryz.func96,Tryz.ntmps96
 go_wp2_with (first|(refine zmZ rfl 3 3 _ _ rfl rfl rfl hmx ?_))
 go_ret;exact⟨rfl,rfl⟩
def lF (Kt:Nat→Int) (k:Rk.Ky) (h:Hd) (body:ByteArray):ByteArray:=bl (Ra.dN (Rk.fC Kt k) (fT h)) (eK Kt (Rk.fo Kt k)) (cD h) body
theorem zgl (Kt:Nat→Int) (k:Rk.Ky) (hk:Rk.cP [k]=true):(Rk.fC Kt k).size=32:=by unfold Rk.fC;rw[if_pos hk,Rk.zgf]
theorem zgm (Kt:Nat→Int) (k:Rk.Ky) (hk:Rk.cP [k]=true):(Rk.fo Kt k).size=32:=by unfold Rk.fo;rw[if_pos hk,Rk.zgf]
theorem rh (Kt:Nat→Int) (k:Rk.Ky) (hk:Rk.cP [k]=true) (h:Hd) (hf:fits h) (body:ByteArray) (hb:body.size=200) (w:World) (hT:Tb Kt w):
  Calls Tryz.prog 138 #[Rk.kv k,hv h,.string body] w fun e w'=>e=.returned (.string (lF Kt k h body))∧Below w.heap.size w w':=by
 have HS:Hid (∀ W,Tb Kt W→Calls Tryz.prog 177 #[Rk.kv k] W fun e w'=>e=.returned (.tuple #[.string (Rk.fC Kt k),.string (Rk.fo Kt k),.int .i64 (Rk.gK k)])∧Below W.heap.size W w'):=fun W ⟨⟨_,_,h1⟩,_⟩=>Rk.zif Kt k W h1
 have HX:Hid (∀ W,Tb Kt W→Calls Tryz.prog 178 #[.string (Rk.fC Kt k),.string (fT h),.string body] W fun e w'=>e=.returned (.tuple #[.string (Ra.dN (Rk.fC Kt k) (fT h) body),.int .i64 0])∧Below W.heap.size W w'):=fun W ⟨_,_,_,h2⟩=>Ra.zlb _ _ _ W (zgl Kt k hk) (zes h) uo h2
 have HN:Hid (∀ W,Calls Tryz.prog 179 #[hv h] W fun e w'=>e=.returned (.string (fT h))∧Below W.heap.size W w'):=zgk h hf;have HP:Hid (∀ W,Calls Tryz.prog 180 #[hv h] W fun e w'=>e=.returned (.string (cD h))∧Below W.heap.size W w'):=nw h hf
 have HM:Hid (∀ W T,Tb Kt W→Calls Tryz.prog 181 #[.string (Rk.fo Kt k),.slice (some ⟨W.heap.size,0,none⟩) 1 1] (W.alloc (.cells #[.string (cD h++Ra.dN (Rk.fC Kt k) (fT h) body)] T)) fun e w'=>e=.returned (.string (eK Kt (Rk.fo Kt k) (cD h++Ra.dN (Rk.fC Kt k) (fT h) body)))∧Below W.heap.size W w'):=fun W T ⟨⟨_,_,h1⟩,_⟩=>
  rz Kt _ (by rw[zgm Kt k hk];omega) 1 uo #[.string (cD h++Ra.dN (Rk.fC Kt k) (fT h) body)] T (fun _=>cD h++Ra.dN (Rk.fC Kt k) (fT h) body) _ (by apply ByteArray.ext;simp[eF]) (by rw[ByteArray.size_append,lx,Ra.qo,hb];omega) (fun i hi=>by match i,hi with|0,_=>rfl) W h1
 have HV:Hid (lF Kt k h body=cD h++Ra.dN (Rk.fC Kt k) (fT h) body++eK Kt (Rk.fo Kt k) (cD h++Ra.dN (Rk.fC Kt k) (fT h) body)):=rfl;have zp:(cD h).size=24:=lx h;have zx:(Ra.dN (Rk.fC Kt k) (fT h) body).size=200:=by rw[Ra.qo,hb]
 have zm:(eK Kt (Rk.fo Kt k) (cD h++Ra.dN (Rk.fC Kt k) (fT h) body)).size=32:=rx _ _ _;have HT:Hid (Tb Kt w):=hT;clear hT hf hk hb;generalize Ra.dN (Rk.fC Kt k) (fT h) body=xo at*
 generalize eK Kt (Rk.fo Kt k) (cD h++xo)=ma at*
 generalize Rk.fC Kt k=se at*
 generalize Rk.fo Kt k=bi at*
 generalize Rk.gK k=su at*
 generalize fT h=no at*
 generalize cD h=pu at*
 generalize lF Kt k h body=bk at*
 obtain⟨g,sec⟩:=k;obtain⟨a,b,c,d⟩:=h;unfold hv Rk.kv at*
 simp only at HS HN HP ⊢;go_enter Tryz.func138,Tryz.ntmps138;go_wp2_with fail;obtain⟨w1,hw1⟩:∃ w1,(w.alloc (.cells #[.int .u32 g,.string sec] 142)).alloc (.cells #[.int .u32 a,.int .u32 b,.int .u32 c,.int .u64 d] 173)=w1:=⟨_,rfl⟩;have hn2:=Rp.fJ w (.cells #[.int .u32 g,.string sec] 142) (.cells #[.int .u32 a,.int .u32 b,.int .u32 c,.int .u64 d] 173);rw[hw1] at hn2;have B1:Hid (Below w.heap.size w w1):=hn2.2.2;have X1:Hid (w1.heap[w.heap.size+1]? =some (.cells #[.int .u32 a,.int .u32 b,.int .u32 c,.int .u64 d] 173 (0,0))):=hn2.2.1;have l1:w.heap.size+1<w1.heap.size:=(zi hn2.2.1).1;rw[hw1];clear hw1 hn2
 have HC:Hid (∀ W,Below w1.heap.size w1 W→W.cell? ⟨w.heap.size+1,0,none⟩=some (.int .u32 a)∧W.cell? ⟨w.heap.size+1,1,none⟩=some (.int .u32 b)∧W.cell? ⟨w.heap.size+1,2,none⟩=some (.int .u32 c)∧W.cell? ⟨w.heap.size+1,3,none⟩=some (.int .u64 d)):=fun W hB=>by
  have hV:=(hB.block _ l1).trans X1.o;exact⟨by rw[zr hV];rfl,by rw[zr hV];rfl,by rw[zr hV];rfl,by rw[zr hV];rfl⟩
 refine um (HS.o w1 (HT.o.below B1.o zn)) fun w2 b2=>?_;have D2:Hid (Below w1.heap.size w1 w2):=b2;clear b2 HS;obtain⟨ca,cb,cc,cd⟩:=HC.o w2 D2.o;go_wp2_with fail;clear ca cb cc cd;refine um (HN.o w2) fun w3 b3=>?_;have D3:Hid (Below w1.heap.size w1 w3):=D2.o.trans (b3.mono D2.o.size);clear b3 D2 HN;go_wp2_with fail;refine um (HX.o w3 (HT.o.below (B1.o.trans (D3.o.mono B1.o.size)) zn)) fun w4 b4=>?_;have D4:Hid (Below w1.heap.size w1 w4):=D3.o.trans (b4.mono D3.o.size);clear b4 D3 HX;obtain⟨ca,cb,cc,cd⟩:=HC.o w4 D4.o;have qs:¬9223372036854775807<pu.size+xo.size:=uo
 go_wp2_with fail;clear ca cb cc cd;refine um (HP.o w4) fun w5 b5=>?_;have D5:Hid (Below w1.heap.size w1 w5):=D4.o.trans (b5.mono D4.o.size);clear b5 D4 HP;have HT5:Hid (Tb Kt w5):=HT.o.below (B1.o.trans (D5.o.mono B1.o.size)) zn;obtain⟨ah,hah⟩:∃ ah,pu++xo=ah:=⟨_,rfl⟩;have zah:ah.size=224:=by rw[←hah,ByteArray.size_append];omega
 have HAH:Hid (pu++xo=ah):=hah;rw[hah] at HM HV;clear hah;have qt:¬9223372036854775807<ah.size+ma.size:=uo
 go_wp2_with fail;rw[HAH.o];refine um (HM.o w5 9 HT5.o) fun w6 b6=>?_;have B6:Hid (Below w.heap.size w w6):=B1.o.trans ((D5.o.trans (b6.mono D5.o.size)).mono B1.o.size);clear b6 D5 HM;go_wp2_with fail;go_ret;exact⟨by rw[HV.o];rfl,B6.o⟩
def ib (Kt:Nat→Int) (k:Rk.Ky) (h:Hd) (b:ByteArray):ByteArray:=Ra.dN (Rk.fC Kt k) (fT h) (b.extract 24 224)
def lG (Kt:Nat→Int) (k:Rk.Ky) (b:ByteArray):Bool:=decide (cW b=eK Kt (Rk.fo Kt k) (b.extract 0 224))
def tk (Kt:Nat→Int) (k:Rk.Ky) (h:Hd) (b:ByteArray):Bool:=lG Kt k b&&Rp.ig (ib Kt k h b)
def tv (Kt:Nat→Int) (k:Rk.Ky) (h:Hd) (b:ByteArray):ByteArray:=if tk Kt k h b=true then Rp.textOf (ib Kt k h b) else⟨#[]⟩
theorem zpW (s:ByteArray) (h:s.size=256) (a b:Nat) (hab:a≤b) (hb:b≤256) (w:World):(Instr.sliceAt 9 (.string s) (some (.int .i64 (a:Int))) (some (.int .i64 (b:Int))) none).run Tryz.prog w=.ok (.string (s.extract a b)) w:=by
 simp[Instr.sliceAt,Instr.slice,run_underlying Tryz.underlying9,go_sem,h];rw[if_pos uo,if_pos uo]
theorem th (s:ByteArray) (h:s.size=256) (b:Nat) (hb:b≤256) (w:World):(Instr.sliceAt 9 (.string s) none (some (.int .i64 (b:Int))) none).run Tryz.prog w=.ok (.string (s.extract 0 b)) w:=by
 simp[Instr.sliceAt,Instr.slice,run_underlying Tryz.underlying9,go_sem,h];intro hlt;omega
theorem nf (Kt:Nat→Int) (k:Rk.Ky) (hk:Rk.cP [k]=true) (h:Hd) (hf:fits h) (b:ByteArray) (hb:b.size=256) (w:World) (hT:Tb Kt w):
  Calls Tryz.prog 235 #[Rk.kv k,hv h,.string b] w fun e w'=>e=.returned (.tuple #[.string (tv Kt k h b),.bool (tk Kt k h b)])∧Below w.heap.size w w':=by
 have z1:(b.extract 0 224).size=224:=by rw[Rp.ext_size,hb];rfl
 have z2:(b.extract 24 224).size=200:=by rw[Rp.ext_size,hb];rfl
 have e1:∀ w,(Instr.sliceAt 9 (.string b) none (some (.int .i64 224)) none).run Tryz.prog w=.ok (.string (b.extract 0 224)) w:=th b hb 224 uo;have e2:∀ w,(Instr.sliceAt 9 (.string b) (some (.int .i64 24)) (some (.int .i64 224)) none).run Tryz.prog w=.ok (.string (b.extract 24 224)) w:=zpW b hb 24 224 uo uo;have HS:Hid (∀ W,Tb Kt W→Calls Tryz.prog 177 #[Rk.kv k] W fun e w'=>e=.returned (.tuple #[.string (Rk.fC Kt k),.string (Rk.fo Kt k),.int .i64 (Rk.gK k)])∧Below W.heap.size W w'):=fun W ⟨⟨_,_,h1⟩,_⟩=>Rk.zif Kt k W h1
 have HX:Hid (∀ W,Tb Kt W→Calls Tryz.prog 178 #[.string (Rk.fC Kt k),.string (fT h),.string (b.extract 24 224)] W fun e w'=>e=.returned (.tuple #[.string (ib Kt k h b),.int .i64 0])∧Below W.heap.size W w'):=fun W ⟨_,_,_,h2⟩=>Ra.zlb _ _ _ W (zgl Kt k hk) (zes h) uo h2
 have HN:Hid (∀ W,Calls Tryz.prog 179 #[hv h] W fun e w'=>e=.returned (.string (fT h))∧Below W.heap.size W w'):=zgk h hf;have HG:Hid (∀ W,Calls Tryz.prog 96 #[.string b] W fun e w'=>e=.returned (.string (cW b))∧w'=W):=tg b (by unfold maxLen;omega)
 have HM:Hid (∀ W T,Tb Kt W→Calls Tryz.prog 181 #[.string (Rk.fo Kt k),.slice (some ⟨W.heap.size,0,none⟩) 1 1] (W.alloc (.cells #[.string (b.extract 0 224)] T)) fun e w'=>e=.returned (.string (eK Kt (Rk.fo Kt k) (b.extract 0 224)))∧Below W.heap.size W w'):=fun W T ⟨⟨_,_,h1⟩,_⟩=>
  rz Kt _ (by rw[zgm Kt k hk];omega) 1 uo #[.string (b.extract 0 224)] T (fun _=>b.extract 0 224) _ (by apply ByteArray.ext;simp[eF]) uo (fun i hi=>by match i,hi with|0,_=>rfl) W h1
 have HE:Hid (∀ W,Calls Tryz.prog 260 #[.string (cW b),.string (eK Kt (Rk.fo Kt k) (b.extract 0 224))] W fun e w'=>e=.returned (.bool (lG Kt k b))∧Below W.heap.size W w'):=fun W=>sA _ _ (by unfold maxLen cW;rw[Rp.ext_size];omega) W
 have HU:Hid (∀ W,Calls Tryz.prog 261 #[.string (ib Kt k h b)] W fun e w'=>e=.returned (.tuple #[.string (Rp.gx (ib Kt k h b)),.int .i64 (Rp.gY (ib Kt k h b))])∧Below W.heap.size W w'):=Rp.zj2 _
 have HV:Hid ((lG Kt k b=false∧tk Kt k h b=false∧tv Kt k h b=⟨#[]⟩)∨(lG Kt k b=true∧tv Kt k h b=Rp.gx (ib Kt k h b)∧((tk Kt k h b=true∧Rp.gY (ib Kt k h b)=0)∨(tk Kt k h b=false∧Rp.gY (ib Kt k h b)=50)))):=by
  refine(?_:(lG Kt k b=false∧tk Kt k h b=false∧tv Kt k h b=⟨#[]⟩)∨(lG Kt k b=true∧tv Kt k h b=Rp.gx (ib Kt k h b)∧((tk Kt k h b=true∧Rp.gY (ib Kt k h b)=0)∨(tk Kt k h b=false∧Rp.gY (ib Kt k h b)=50))));unfold tv tk Rp.gx Rp.gY;cases lG Kt k b<;>cases Rp.ig (ib Kt k h b)<;>simp
 have HT:Hid (Tb Kt w):=hT;clear hT hf hk hb;generalize ib Kt k h b=bo at*
 generalize eK Kt (Rk.fo Kt k) (b.extract 0 224)=ma at*
 generalize Rk.fC Kt k=se at*
 generalize Rk.fo Kt k=bi at*
 generalize Rk.gK k=su at*
 generalize fT h=no at*
 generalize lG Kt k b=ok at*
 generalize tk Kt k h b=tkk at*
 generalize tv Kt k h b=tvv at*
 generalize cW b=ta at*
 generalize Rp.gx bo=uv at*
 generalize Rp.gY bo=ue at*
 generalize b.extract 0 224=x1 at*
 generalize b.extract 24 224=x2 at*
 obtain⟨g,sec⟩:=k;obtain⟨a,b',c,d⟩:=h;unfold hv Rk.kv at*
 simp only at HS HN ⊢;go_enter Tryz.func235,Tryz.ntmps235;go_wp2_with fail;obtain⟨w1,hw1⟩:∃ w1,(w.alloc (.cells #[.int .u32 g,.string sec] 142)).alloc (.cells #[.int .u32 a,.int .u32 b',.int .u32 c,.int .u64 d] 173)=w1:=⟨_,rfl⟩;have hn2:=Rp.fJ w (.cells #[.int .u32 g,.string sec] 142) (.cells #[.int .u32 a,.int .u32 b',.int .u32 c,.int .u64 d] 173);rw[hw1] at hn2;have B1:Hid (Below w.heap.size w w1):=hn2.2.2;have X1:Hid (w1.heap[w.heap.size+1]? =some (.cells #[.int .u32 a,.int .u32 b',.int .u32 c,.int .u64 d] 173 (0,0))):=hn2.2.1;have l1:w.heap.size+1<w1.heap.size:=(zi hn2.2.1).1;rw[hw1];clear hw1 hn2
 have HC:Hid (∀ W,Below w1.heap.size w1 W→W.cell? ⟨w.heap.size+1,0,none⟩=some (.int .u32 a)∧W.cell? ⟨w.heap.size+1,1,none⟩=some (.int .u32 b')∧W.cell? ⟨w.heap.size+1,2,none⟩=some (.int .u32 c)∧W.cell? ⟨w.heap.size+1,3,none⟩=some (.int .u64 d)):=fun W hB=>by
  have hV:=(hB.block _ l1).trans X1.o;exact⟨by rw[zr hV];rfl,by rw[zr hV];rfl,by rw[zr hV];rfl,by rw[zr hV];rfl⟩
 refine um (HS.o w1 (HT.o.below B1.o zn)) fun w2 b2=>?_;have D2:Hid (Below w1.heap.size w1 w2):=b2;clear b2 HS;go_wp2_with fail;refine wp_region_any uk ?_;change wpAny _ _ _ _ _ _ _ (World.drew _);obtain⟨w3,hw3⟩:∃ w3,w2.drew=w3:=⟨_,rfl⟩;have D3:Hid (Below w1.heap.size w1 w3):=by rw[←hw3];exact D2.o.drew
 rw[hw3];clear hw3 D2;refine bB [0,2,3,4] ?_
 iterate 4
  refine fS (v:=?_) rfl ?_ ?_;rotate_left
  ·intro w;go_simp;try with_reducible rfl
  conv in(Act.put _ _ _)=>simp only[bH,bI,bJ,Act.put,bK,bL,bM]
 refine bA ?_;refine wpAny_ready (rs:=[1,5]) uk us ?_;refine(AllReady.cons rfl (fun K hK=>?_) (AllReady.cons rfl (fun K hK=>?_) AllReady.nil))
 ·go_simp
  refine um (HG.o w3) fun w4 hw4=>?_;subst hw4;refine hK _ _ ?_;clear hK K;refine wpAny_ready (rs:=[5]) uk us ?_;refine(AllReady.cons rfl (fun K hK=>?_) AllReady.nil);go_simp;refine hK _ _ ?_;clear hK K;refine wpAny_ready (rs:=[6]) uk us ?_;refine(AllReady.cons rfl (fun K hK=>?_) AllReady.nil);go_simp;refine um (HM.o w4 9 (HT.o.below (B1.o.trans (D3.o.mono B1.o.size)) zn)) fun w5 b5=>?_;have D5:Hid (Below w1.heap.size w1 w5):=D3.o.trans (b5.mono D3.o.size);clear b5 D3 HM;refine hK _ _ ?_;clear hK K;refine wpAny_ready (rs:=[7]) uk us ?_;refine(AllReady.cons rfl (fun K hK=>?_) AllReady.nil);go_simp;refine um (HE.o w5) fun w6 b6=>?_;have D6:Hid (Below w1.heap.size w1 w6):=D5.o.trans (b6.mono D5.o.size);clear b6 D5 HE;refine hK _ _ ?_;clear hK K;refine bB [8] ?_;refine fS (v:=?_) rfl ?_ ?_
  rotate_left
  ·intro w;go_simp;try with_reducible rfl
  conv in(Act.put _ _ _)=>simp only[bH,bI,bJ,Act.put,bK,bL,bM]
  refine bA ?_;refine wpAny_done uk ?_ _;rcases HV.o with⟨rfl,rfl,rfl⟩|⟨rfl,rfl,HV2⟩
  ·go_wp2_with fail
   refine bodyPost_ret (results_tmp2 rfl _ _ _) rfl ?_;exact⟨rfl,B1.o.trans (D6.o.mono B1.o.size)⟩
  ·have HVV:Hid _:=HV2
   clear HV2 HV;go_wp2_with fail;refine wp_region_any uk ?_;change wpAny _ _ _ _ _ _ _ (World.drew _);obtain⟨v6,hv6⟩:∃ v6,w6.drew=v6:=⟨_,rfl⟩;have E6:Hid (Below w1.heap.size w1 v6):=by rw[←hv6];exact D6.o.drew
   rw[hv6];clear hv6 D6;obtain⟨ca,cb,cc,cd⟩:=HC.o v6 E6.o;refine bB [0,3,4] ?_
   iterate 3
    refine fS (v:=?_) rfl ?_ ?_;rotate_left
    ·intro w;go_simp;try with_reducible rfl
    conv in(Act.put _ _ _)=>simp only[bH,bI,bJ,Act.put,bK,bL,bM]
   refine bA ?_;refine wpAny_ready (rs:=[1]) uk us ?_;refine(AllReady.cons rfl (fun K hK=>?_) AllReady.nil);go_simp;refine hK _ _ ?_;clear hK K;clear ca cb cc cd;refine wpAny_ready (rs:=[2]) uk us ?_;refine(AllReady.cons rfl (fun K hK=>?_) AllReady.nil);go_simp;refine um (HN.o v6) fun w7 b7=>?_;have D7:Hid (Below w1.heap.size w1 w7):=E6.o.trans (b7.mono E6.o.size);clear b7 E6 HN;refine hK _ _ ?_;clear hK K;refine wpAny_ready (rs:=[5]) uk us ?_;refine(AllReady.cons rfl (fun K hK=>?_) AllReady.nil);go_simp;refine um (HX.o w7 (HT.o.below (B1.o.trans (D7.o.mono B1.o.size)) zn)) fun w8 b8=>?_;have D8:Hid (Below w1.heap.size w1 w8):=D7.o.trans (b8.mono D7.o.size);clear b8 D7 HX;refine hK _ _ ?_;clear hK K;refine bB [6,7,8] ?_
   iterate 3
    refine fS (v:=?_) rfl ?_ ?_;rotate_left
    ·intro w;go_simp;try with_reducible rfl
    conv in(Act.put _ _ _)=>simp only[bH,bI,bJ,Act.put,bK,bL,bM]
   refine bA ?_;refine wpAny_ready (rs:=[9]) uk us ?_;refine(AllReady.cons rfl (fun K hK=>?_) AllReady.nil);go_simp;refine hK _ _ ?_;clear hK K;refine wpAny_ready (rs:=[10]) uk us ?_;refine(AllReady.cons rfl (fun K hK=>?_) AllReady.nil);go_simp;refine hK _ _ ?_;clear hK K;refine wpAny_done uk ?_ _;go_wp2_with fail;refine um (HU.o w8) fun w9 b9=>?_;have B9:Hid (Below w.heap.size w w9):=B1.o.trans ((D8.o.trans (b9.mono D8.o.size)).mono B1.o.size);clear b9 D8 HU;rcases HVV.o with⟨rfl,rfl⟩|⟨rfl,rfl⟩
   ·go_wp2_with fail
    refine bodyPost_ret (results_tmp2 rfl _ _ _) rfl ?_;exact⟨rfl,B9.o⟩
   ·go_wp2_with fail
    refine bodyPost_ret (results_tmp2 rfl _ _ _) rfl ?_;exact⟨rfl,B9.o⟩
 ·go_simp
  refine hK _ _ ?_;clear hK K;refine wpAny_ready (rs:=[1]) uk us ?_;refine(AllReady.cons rfl (fun K hK=>?_) AllReady.nil);go_simp;refine um (HG.o _) fun w4 hw4=>?_;subst hw4;refine hK _ _ ?_;clear hK K;refine wpAny_ready (rs:=[6]) uk us ?_;refine(AllReady.cons rfl (fun K hK=>?_) AllReady.nil);go_simp;refine um (HM.o w3 9 (HT.o.below (B1.o.trans (D3.o.mono B1.o.size)) zn)) fun w5 b5=>?_;have D5:Hid (Below w1.heap.size w1 w5):=D3.o.trans (b5.mono D3.o.size);clear b5 D3 HM;refine hK _ _ ?_;clear hK K;refine wpAny_ready (rs:=[7]) uk us ?_;refine(AllReady.cons rfl (fun K hK=>?_) AllReady.nil);go_simp;refine um (HE.o w5) fun w6 b6=>?_;have D6:Hid (Below w1.heap.size w1 w6):=D5.o.trans (b6.mono D5.o.size);clear b6 D5 HE;refine hK _ _ ?_;clear hK K;refine bB [8] ?_;refine fS (v:=?_) rfl ?_ ?_
  rotate_left
  ·intro w;go_simp;try with_reducible rfl
  conv in(Act.put _ _ _)=>simp only[bH,bI,bJ,Act.put,bK,bL,bM]
  refine bA ?_;refine wpAny_done uk ?_ _;rcases HV.o with⟨rfl,rfl,rfl⟩|⟨rfl,rfl,HV2⟩
  ·go_wp2_with fail
   refine bodyPost_ret (results_tmp2 rfl _ _ _) rfl ?_;exact⟨rfl,B1.o.trans (D6.o.mono B1.o.size)⟩
  ·have HVV:Hid _:=HV2
   clear HV2 HV;go_wp2_with fail;refine wp_region_any uk ?_;change wpAny _ _ _ _ _ _ _ (World.drew _);obtain⟨v6,hv6⟩:∃ v6,w6.drew=v6:=⟨_,rfl⟩;have E6:Hid (Below w1.heap.size w1 v6):=by rw[←hv6];exact D6.o.drew
   rw[hv6];clear hv6 D6;obtain⟨ca,cb,cc,cd⟩:=HC.o v6 E6.o;refine bB [0,3,4] ?_
   iterate 3
    refine fS (v:=?_) rfl ?_ ?_;rotate_left
    ·intro w;go_simp;try with_reducible rfl
    conv in(Act.put _ _ _)=>simp only[bH,bI,bJ,Act.put,bK,bL,bM]
   refine bA ?_;refine wpAny_ready (rs:=[1]) uk us ?_;refine(AllReady.cons rfl (fun K hK=>?_) AllReady.nil);go_simp;refine hK _ _ ?_;clear hK K;clear ca cb cc cd;refine wpAny_ready (rs:=[2]) uk us ?_;refine(AllReady.cons rfl (fun K hK=>?_) AllReady.nil);go_simp;refine um (HN.o v6) fun w7 b7=>?_;have D7:Hid (Below w1.heap.size w1 w7):=E6.o.trans (b7.mono E6.o.size);clear b7 E6 HN;refine hK _ _ ?_;clear hK K;refine wpAny_ready (rs:=[5]) uk us ?_;refine(AllReady.cons rfl (fun K hK=>?_) AllReady.nil);go_simp;refine um (HX.o w7 (HT.o.below (B1.o.trans (D7.o.mono B1.o.size)) zn)) fun w8 b8=>?_;have D8:Hid (Below w1.heap.size w1 w8):=D7.o.trans (b8.mono D7.o.size);clear b8 D7 HX;refine hK _ _ ?_;clear hK K;refine bB [6,7,8] ?_
   iterate 3
    refine fS (v:=?_) rfl ?_ ?_;rotate_left
    ·intro w;go_simp;try with_reducible rfl
    conv in(Act.put _ _ _)=>simp only[bH,bI,bJ,Act.put,bK,bL,bM]
   refine bA ?_;refine wpAny_ready (rs:=[9]) uk us ?_;refine(AllReady.cons rfl (fun K hK=>?_) AllReady.nil);go_simp;refine hK _ _ ?_;clear hK K;refine wpAny_ready (rs:=[10]) uk us ?_;refine(AllReady.cons rfl (fun K hK=>?_) AllReady.nil);go_simp;refine hK _ _ ?_;clear hK K;refine wpAny_done uk ?_ _;go_wp2_with fail;refine um (HU.o w8) fun w9 b9=>?_;have B9:Hid (Below w.heap.size w w9):=B1.o.trans ((D8.o.trans (b9.mono D8.o.size)).mono B1.o.size);clear b9 D8 HU;rcases HVV.o with⟨rfl,rfl⟩|⟨rfl,rfl⟩
   ·go_wp2_with fail
    refine bodyPost_ret (results_tmp2 rfl _ _ _) rfl ?_;exact⟨rfl,B9.o⟩
   ·go_wp2_with fail
    refine bodyPost_ret (results_tmp2 rfl _ _ _) rfl ?_;exact⟨rfl,B9.o⟩
theorem qp (l:List Rk.Ky) (g:Int) (h:Rk.cq l g=0):Rk.cP l=true∧Rk.fi l g=some (Rk.dI l g)∧(Rk.dI l g).1=g∧Rk.cP [Rk.dI l g]=true:=by
 unfold Rk.cq at h;by_cases hr:Rk.cP l=true
 ·rw[if_pos hr] at h
  cases hf:Rk.fi l g with
  |none=>rw[hf] at h;simp at h
  |some k=>
   have e:Rk.dI l g=k:=by unfold Rk.dI;rw[if_pos hr,hf];rfl
   have hm:k∈l:=by unfold Rk.fi at hf;exact List.mem_of_find?_eq_some hf
   have hg:k.1=g:=by unfold Rk.fi at hf;simpa using List.find?_some hf
   obtain⟨i,hi⟩:=List.mem_iff_getElem?.1 hm;have:=((Rk.sG 0 l).1 ((Rk.nh l).1 hr).2).1 i k hi;refine⟨hr,by rw[e],by rw[e];exact hg,?_⟩;rw[e,Rk.nh];exact⟨by simp,(Rk.sF _ _ _).2 ⟨this.2,this.1,rfl⟩⟩
 ·rw[if_neg hr] at h;cases h
theorem zil (l:List Rk.Ky) (g:Int):Rk.cq l g=0∨Rk.cq l g=40∨Rk.cq l g=41:=by
 unfold Rk.cq;split
 ·split
  ·exact .inl rfl
  ·exact .inr (.inr rfl)
 ·exact .inr (.inl rfl)
def sE (l:List Rk.Ky) (h:Hd) (s:ByteArray):Int:=if Rk.cq l h.2.1=0 then Rp.eh s else Rk.cq l h.2.1
def sV (Kt:Nat→Int) (l:List Rk.Ky) (h:Hd) (s:ByteArray):ByteArray:=if Rk.cq l h.2.1=0∧s.size≤198 then lF Kt (Rk.dI l h.2.1) h (Rp.ef s) else⟨#[]⟩
theorem zm0 (Kt:Nat→Int) (l:List Rk.Ky) (o:Option Addr) (cap:Nat) (h:Hd) (hf:fits h) (s:ByteArray) (w:World) (hr:Rk.Ring w o cap l) (hT:Tb Kt w):
  Calls Tryz.prog 94 #[.slice o l.length cap,hv h,.string s] w fun e w'=>e=.returned (.tuple #[.string (sV Kt l h s),.int .i64 (sE l h s)])∧Below w.heap.size w w':=by
 have HF:Hid (∀ W,Rk.Ring W o cap l→Calls Tryz.prog 109 #[.slice o l.length cap,.int .u32 h.2.1] W fun e w'=>e=.returned (.tuple #[Rk.kv (Rk.dI l h.2.1),.int .i64 (Rk.cq l h.2.1)])∧Below W.heap.size W w'):=fun W hW=>Rk.sJ l h.2.1 o cap W hW
 have HB:Hid (Rk.cq l h.2.1=0→s.size≤198→∀ W,Tb Kt W→Calls Tryz.prog 138 #[Rk.kv (Rk.dI l h.2.1),hv h,.string (Rp.ef s)] W fun e w'=>e=.returned (.string (lF Kt (Rk.dI l h.2.1) h (Rp.ef s)))∧Below W.heap.size W w'):=fun h0 hs W hW=>
  rh Kt _ (qp l _ h0).2.2.2 h hf _ (Rp.oL s) W hW
 have HV:Hid ((Rk.cq l h.2.1≠0∧sE l h s=Rk.cq l h.2.1∧sV Kt l h s=⟨#[]⟩)∨(Rk.cq l h.2.1=0∧¬s.size≤198∧sE l h s=50∧sV Kt l h s=⟨#[]⟩)∨(Rk.cq l h.2.1=0∧s.size≤198∧sE l h s=0∧sV Kt l h s=lF Kt (Rk.dI l h.2.1) h (Rp.ef s))):=by
  refine(?_:(Rk.cq l h.2.1≠0∧sE l h s=Rk.cq l h.2.1∧sV Kt l h s=⟨#[]⟩)∨(Rk.cq l h.2.1=0∧¬s.size≤198∧sE l h s=50∧sV Kt l h s=⟨#[]⟩)∨(Rk.cq l h.2.1=0∧s.size≤198∧sE l h s=0∧sV Kt l h s=lF Kt (Rk.dI l h.2.1) h (Rp.ef s)));unfold sE sV Rp.eh;by_cases h0:Rk.cq l h.2.1=0<;>by_cases h1:s.size≤198<;>simp[h0,h1]
 have HP:Hid (∀ W,Calls Tryz.prog 137 #[.string s] W fun e w'=>e=.returned (.tuple #[.string (Rp.fd s),.int .i64 (Rp.eh s)])∧Below W.heap.size W w'):=Rp.zn6 s;have HR:Hid (Rk.Ring w o cap l):=hr;have HT:Hid (Tb Kt w):=hT;have HQ:Hid (Rk.cq l h.2.1=0∨Rk.cq l h.2.1=40∨Rk.cq l h.2.1=41):=zil l h.2.1;clear hr hT hf;generalize lF Kt (Rk.dI l h.2.1) h (Rp.ef s)=bk at*
 generalize sV Kt l h s=sv at*
 generalize sE l h s=se at*
 generalize hk:Rk.dI l h.2.1=k at*
 generalize Rk.cq l h.2.1=fe at*
 clear hk;obtain⟨kg,ks⟩:=k;obtain⟨a,b,c,d⟩:=h;unfold hv Rk.kv at*
 simp only at HF HB ⊢;go_enter Tryz.func94,Tryz.ntmps94;go_wp2_with fail;obtain⟨w1,hw1⟩:∃ w1,w.alloc (.cells #[.int .u32 a,.int .u32 b,.int .u32 c,.int .u64 d] 173)=w1:=⟨_,rfl⟩;have B1:Hid (Below w.heap.size w w1):=by rw[←hw1];exact(Below.refl _ w).alloc zn _
 have X1:Hid (w1.heap[w.heap.size]? =some (.cells #[.int .u32 a,.int .u32 b,.int .u32 c,.int .u64 d] 173 (0,0))):=by rw[←hw1];exact zq w _
 have l1:w.heap.size<w1.heap.size:=(zi X1.o).1;rw[hw1];clear hw1
 have HC:Hid (∀ W,Below w1.heap.size w1 W→W.cell? ⟨w.heap.size,0,none⟩=some (.int .u32 a)∧W.cell? ⟨w.heap.size,1,none⟩=some (.int .u32 b)∧W.cell? ⟨w.heap.size,2,none⟩=some (.int .u32 c)∧W.cell? ⟨w.heap.size,3,none⟩=some (.int .u64 d)):=fun W hB=>by
  have hV:=(hB.block _ l1).trans X1.o;exact⟨by rw[zr hV];rfl,by rw[zr hV];rfl,by rw[zr hV];rfl,by rw[zr hV];rfl⟩
 refine um (HF.o w1 (HR.o.below B1.o zn)) fun w2 b2=>?_;have D2:Hid (Below w1.heap.size w1 w2):=b2;clear b2 HF;rcases HV.o with⟨h0,rfl,rfl⟩|⟨rfl,h1,rfl,rfl⟩|⟨rfl,h1,rfl,rfl⟩
 ·have q0:(se !=0)=true:=by simpa using h0
  clear HV HB;go_wp2_with fail;refine bodyPost_ret (results_tmp2 rfl _ _ _) rfl ?_;exact⟨rfl,B1.o.trans ((D2.o.trans ((Below.refl _ w2).alloc zn _ |>.mono D2.o.size)).mono B1.o.size)⟩
 ·clear HV HB HQ
  go_wp2_with fail;obtain⟨w3,hw3⟩:∃ w3,w2.alloc (.cells #[.int .u32 kg,.string ks] 142)=w3:=⟨_,rfl⟩;have b3:Below w2.heap.size w2 w3:=by rw[←hw3];exact(Below.refl _ w2).alloc zn _
  have D3:Hid (Below w1.heap.size w1 w3):=D2.o.trans (b3.mono D2.o.size);rw[hw3];clear hw3 b3 D2;refine(HP.o w3).mono ?_;rw[(Rp.zhQ s h1).1,(Rp.zhQ s h1).2];rintro e w4 ⟨rfl,b4⟩;have D4:Hid (Below w1.heap.size w1 w4):=D3.o.trans (b4.mono D3.o.size);clear b4 D3 HP h1;go_wp2_with fail;refine bodyPost_ret (results_tmp2 rfl _ _ _) rfl ?_;exact⟨rfl,B1.o.trans (D4.o.mono B1.o.size)⟩
 ·have HB2:Hid _:=HB.o rfl h1
  clear HV HQ HB;go_wp2_with fail;obtain⟨w3,hw3⟩:∃ w3,w2.alloc (.cells #[.int .u32 kg,.string ks] 142)=w3:=⟨_,rfl⟩;have b3:Below w2.heap.size w2 w3:=by rw[←hw3];exact(Below.refl _ w2).alloc zn _
  have D3:Hid (Below w1.heap.size w1 w3):=D2.o.trans (b3.mono D2.o.size);have K3:Hid (w3.heap[w2.heap.size]? =some (.cells #[.int .u32 kg,.string ks] 142 (0,0))):=by rw[←hw3];exact zq w2 _
  rw[hw3];clear hw3 b3 D2;refine(HP.o w3).mono ?_;rw[(Rp.zfI s h1).1,(Rp.zfI s h1).2];rintro e w4 ⟨rfl,b4⟩;have D4:Hid (Below w1.heap.size w1 w4):=D3.o.trans (b4.mono D3.o.size);have K4:=(b4.block _ (zi K3.o).1).trans K3.o;have k0:w4.cell? ⟨w2.heap.size,0,none⟩=some (.int .u32 kg):=by rw[zr K4];rfl
  have k1:w4.cell? ⟨w2.heap.size,1,none⟩=some (.string ks):=by rw[zr K4];rfl
  clear b4 D3 HP h1 K4 K3;obtain⟨ca,cb,cc,cd⟩:=HC.o w4 D4.o;go_wp2_with fail;clear ca cb cc cd k0 k1;refine um (HB2.o w4 (HT.o.below (B1.o.trans (D4.o.mono B1.o.size)) zn)) fun w5 b5=>?_;have D5:Hid (Below w1.heap.size w1 w5):=D4.o.trans (b5.mono D4.o.size);clear b5 D4 HB2;go_wp2_with fail;refine bodyPost_ret (results_tmp2 rfl _ _ _) rfl ?_;exact⟨rfl,B1.o.trans (D5.o.mono B1.o.size)⟩
def hB (b:ByteArray):Hd:=gv (b.extract 0 24)
def oE (Kt:Nat→Int) (l:List Rk.Ky) (b:ByteArray):Int:=
 if Rk.cP l=true then if b.size=256 then if gk (b.extract 0 24)=true then if Rk.cq l (hB b).2.1=0 then if tk Kt (Rk.dI l (hB b).2.1) (hB b) b=true then 0 else 61 else Rk.cq l (hB b).2.1 else 61 else 61 else 40
def oH (Kt:Nat→Int) (l:List Rk.Ky) (b:ByteArray):Hd:=if oE Kt l b=0 then hB b else zh
def oS (Kt:Nat→Int) (l:List Rk.Ky) (b:ByteArray):ByteArray:=if oE Kt l b=0 then tv Kt (Rk.dI l (hB b).2.1) (hB b) b else⟨#[]⟩
theorem jt {fn:Func} {p u v:Tmp} (h:fn.results=#[.cell p 173,.tmp u,.tmp v]) (tmps:Array Value) (w:World) (g:Nat) (k:Hd) {t:TypeId} {fr:Nat × Nat}
  (hp:tmps.getD p undef=.pointer (some ⟨g,0,none⟩)) (hg:w.heap[g]? =some (.cells #[.int .u32 k.1,.int .u32 k.2.1,.int .u32 k.2.2.1,.int .u64 k.2.2.2] t fr)):(results fn tmps).run Tryz.prog w=.ok (.tuple #[hv k,tmps.getD u undef,tmps.getD v undef]) w:=by
 have hp':tmps[p]?.getD undef=.pointer (some ⟨g,0,none⟩):=by simpa using hp
 simp[results,h,hp',asAddr,run_loadVar_row w g t 173 _ fr _ hg Tryz.underlying173 rfl uk,hv]
theorem zm1 (Kt:Nat→Int) (l:List Rk.Ky) (o:Option Addr) (cap:Nat) (b:ByteArray) (w:World) (hr:Rk.Ring w o cap l) (hT:Tb Kt w):
  Calls Tryz.prog 200 #[.slice o l.length cap,.string b] w fun e w'=>e=.returned (.tuple #[hv (oH Kt l b),.string (oS Kt l b),.int .i64 (oE Kt l b)])∧Below w.heap.size w w':=by
 have HRi:Hid (∀ W,Rk.Ring W o cap l→Calls Tryz.prog 156 #[.slice o l.length cap] W fun e w'=>e=.returned (.bool (Rk.cP l))∧Below W.heap.size W w'):=fun W hW=>Rk.nT l o cap W hW
 have HG:Hid (∀ W,Calls Tryz.prog 234 #[.string (b.extract 0 24)] W fun e w'=>e=.returned (.tuple #[hv (hB b),.bool (gk (b.extract 0 24))])∧Below W.heap.size W w'):=zoT (b.extract 0 24);have HF:Hid (∀ W,Rk.Ring W o cap l→Calls Tryz.prog 109 #[.slice o l.length cap,.int .u32 (hB b).2.1] W fun e w'=>e=.returned (.tuple #[Rk.kv (Rk.dI l (hB b).2.1),.int .i64 (Rk.cq l (hB b).2.1)])∧Below W.heap.size W w'):=fun W hW=>Rk.sJ l (hB b).2.1 o cap W hW
 have HX:Hid (Rk.cq l (hB b).2.1=0→b.size=256→∀ W,Tb Kt W→Calls Tryz.prog 235 #[Rk.kv (Rk.dI l (hB b).2.1),hv (hB b),.string b] W fun e w'=>e=.returned (.tuple #[.string (tv Kt (Rk.dI l (hB b).2.1) (hB b) b),.bool (tk Kt (Rk.dI l (hB b).2.1) (hB b) b)])∧Below W.heap.size W w'):=fun h0 hs W hW=>
  nf Kt _ (qp l _ h0).2.2.2 (hB b) (znW _) b hs W hW
 have HQ:Hid (Rk.cq l (hB b).2.1=0∨Rk.cq l (hB b).2.1=40∨Rk.cq l (hB b).2.1=41):=zil l _;have HEX:Hid (b.size=256→∀ w,(Instr.sliceAt 9 (.string b) none (some (.int .i64 24)) none).run Tryz.prog w=.ok (.string (b.extract 0 24)) w):=fun h=>th b h 24 uo
 have HR:Hid (Rk.Ring w o cap l):=hr;have HT:Hid (Tb Kt w):=hT
 have HV:Hid ((Rk.cP l=false∧oE Kt l b=40∧oH Kt l b=zh∧oS Kt l b=⟨#[]⟩)∨(Rk.cP l=true∧b.size≠256∧oE Kt l b=61∧oH Kt l b=zh∧oS Kt l b=⟨#[]⟩)∨(Rk.cP l=true∧b.size=256∧gk (b.extract 0 24)=false∧oE Kt l b=61∧oH Kt l b=zh∧oS Kt l b=⟨#[]⟩)
  ∨(Rk.cP l=true∧b.size=256∧gk (b.extract 0 24)=true∧Rk.cq l (hB b).2.1≠0∧oE Kt l b=Rk.cq l (hB b).2.1∧oH Kt l b=zh∧oS Kt l b=⟨#[]⟩)
  ∨(Rk.cP l=true∧b.size=256∧gk (b.extract 0 24)=true∧Rk.cq l (hB b).2.1=0∧tk Kt (Rk.dI l (hB b).2.1) (hB b) b=false∧oE Kt l b=61∧oH Kt l b=zh∧oS Kt l b=⟨#[]⟩)
  ∨(Rk.cP l=true∧b.size=256∧gk (b.extract 0 24)=true∧Rk.cq l (hB b).2.1=0∧tk Kt (Rk.dI l (hB b).2.1) (hB b) b=true∧oE Kt l b=0∧oH Kt l b=hB b∧oS Kt l b=tv Kt (Rk.dI l (hB b).2.1) (hB b) b)):=by
  refine(?_:(_∧_)∨_);unfold oH oS oE;cases hR:Rk.cP l
  ·left;simp
  ·right
   by_cases hz:b.size=256
   ·right
    cases hg:gk (b.extract 0 24)
    ·left;simp[hz]
    ·right
     by_cases hf:Rk.cq l (hB b).2.1=0
     ·right
      cases ht:tk Kt (Rk.dI l (hB b).2.1) (hB b) b
      ·left;simp[hz,hf]
      ·right;simp[hz,hf]
     ·left;simp[hz,hf]
   ·left;simp[hz]
 clear hr hT;generalize tv Kt (Rk.dI l (hB b).2.1) (hB b) b=tvv at*
 generalize tk Kt (Rk.dI l (hB b).2.1) (hB b) b=tkk at*
 generalize hk:Rk.dI l (hB b).2.1=k at*
 generalize Rk.cq l (hB b).2.1=fe at*
 clear hk;generalize oE Kt l b=oe at*
 generalize oS Kt l b=os at*
 generalize oH Kt l b=oh at*
 generalize hB b=hb at*
 generalize gk (b.extract 0 24)=gkk at*
 generalize b.extract 0 24=x at*
 generalize Rk.cP l=ri at*
 obtain⟨kg,ks⟩:=k;obtain⟨a,b',c,d⟩:=hb;rcases HV.o with⟨rfl,rfl,rfl,rfl⟩|⟨rfl,hz,rfl,rfl,rfl⟩|⟨rfl,hz,rfl,rfl,rfl,rfl⟩|⟨rfl,hz,rfl,h0,rfl,rfl,rfl⟩|⟨rfl,hz,rfl,rfl,rfl,rfl,rfl,rfl⟩|⟨rfl,hz,rfl,rfl,rfl,rfl,rfl,rfl⟩
 ·clear HV
  unfold hv Rk.kv at*
  simp only at HG HF HX ⊢;go_enter Tryz.func200,Tryz.ntmps200;go_wp2_with fail;obtain⟨w1,hw1⟩:∃ w1,w.alloc (.cells #[.int .u32 0,.int .u32 0,.int .u32 0,.int .u64 0] 173)=w1:=⟨_,rfl⟩;have D1:Hid (Below w.heap.size w w1):=by rw[←hw1];exact(Below.refl _ w).alloc zn _
  have Z1:Hid (w1.heap[w.heap.size]? =some (.cells #[.int .u32 0,.int .u32 0,.int .u32 0,.int .u64 0] 173 (0,0))):=by rw[←hw1];exact zq w _
  rw[hw1];clear hw1;refine um (HRi.o w1 (HR.o.below D1.o zn)) fun w2 b2=>?_;have D2:Hid (Below w.heap.size w w2):=D1.o.trans (b2.mono D1.o.size);have Z2:Hid (w2.heap[w.heap.size]? =some (.cells #[.int .u32 0,.int .u32 0,.int .u32 0,.int .u64 0] 173 (0,0))):=(b2.block _ (zi Z1.o).1).trans Z1.o;clear b2 D1 Z1 HRi
  go_wp2_with (refine wpList_store_row rfl 173 _ _ rfl w.heap.size _ rfl rfl 173 _ Z2.o uk rfl (by simp[Value.oneCell']) ?_)
  refine bodyPost_ret (jt rfl _ _ w.heap.size zh rfl (setRow_heap _ _ _ _ _ _ Z2.o)) rfl ?_;exact⟨rfl,below_setRow D2.o zn _⟩
 ·clear HV
  unfold hv Rk.kv at*
  simp only at HG HF HX ⊢;go_enter Tryz.func200,Tryz.ntmps200;go_wp2_with fail;obtain⟨w1,hw1⟩:∃ w1,w.alloc (.cells #[.int .u32 0,.int .u32 0,.int .u32 0,.int .u64 0] 173)=w1:=⟨_,rfl⟩;have D1:Hid (Below w.heap.size w w1):=by rw[←hw1];exact(Below.refl _ w).alloc zn _
  have Z1:Hid (w1.heap[w.heap.size]? =some (.cells #[.int .u32 0,.int .u32 0,.int .u32 0,.int .u64 0] 173 (0,0))):=by rw[←hw1];exact zq w _
  rw[hw1];clear hw1;refine um (HRi.o w1 (HR.o.below D1.o zn)) fun w2 b2=>?_;have D2:Hid (Below w.heap.size w w2):=D1.o.trans (b2.mono D1.o.size);have Z2:Hid (w2.heap[w.heap.size]? =some (.cells #[.int .u32 0,.int .u32 0,.int .u32 0,.int .u64 0] 173 (0,0))):=(b2.block _ (zi Z1.o).1).trans Z1.o;clear b2 D1 Z1 HRi;have q2:((b.size:Int) !=256)=true:=by simp;omega
  go_wp2_with (refine wpList_store_row rfl 173 _ _ rfl w.heap.size _ rfl rfl 173 _ Z2.o uk rfl (by simp[Value.oneCell']) ?_)
  refine bodyPost_ret (jt rfl _ _ w.heap.size zh rfl (setRow_heap _ _ _ _ _ _ Z2.o)) rfl ?_;exact⟨rfl,below_setRow D2.o zn _⟩
 ·clear HV
  unfold hv Rk.kv at*
  simp only at HG HF HX ⊢;go_enter Tryz.func200,Tryz.ntmps200;go_wp2_with fail;obtain⟨w1,hw1⟩:∃ w1,w.alloc (.cells #[.int .u32 0,.int .u32 0,.int .u32 0,.int .u64 0] 173)=w1:=⟨_,rfl⟩;have D1:Hid (Below w.heap.size w w1):=by rw[←hw1];exact(Below.refl _ w).alloc zn _
  have Z1:Hid (w1.heap[w.heap.size]? =some (.cells #[.int .u32 0,.int .u32 0,.int .u32 0,.int .u64 0] 173 (0,0))):=by rw[←hw1];exact zq w _
  rw[hw1];clear hw1;refine um (HRi.o w1 (HR.o.below D1.o zn)) fun w2 b2=>?_;have D2:Hid (Below w.heap.size w w2):=D1.o.trans (b2.mono D1.o.size);have Z2:Hid (w2.heap[w.heap.size]? =some (.cells #[.int .u32 0,.int .u32 0,.int .u32 0,.int .u64 0] 173 (0,0))):=(b2.block _ (zi Z1.o).1).trans Z1.o;clear b2 D1 Z1 HRi;have q2:(b.size:Int)=256:=uo
  have ex:=HEX.o hz;go_wp2_with fail;refine um (HG.o w2) fun w3 b3=>?_;have D3:Hid (Below w.heap.size w w3):=D2.o.trans (b3.mono D2.o.size);have Z3:Hid (w3.heap[w.heap.size]? =some (.cells #[.int .u32 0,.int .u32 0,.int .u32 0,.int .u64 0] 173 (0,0))):=(b3.block _ (zi Z2.o).1).trans Z2.o;clear b3 D2 Z2 HG ex;have Z3a:Hid ((w3.alloc (.cells #[.int .u32 a,.int .u32 b',.int .u32 c,.int .u64 d] 173)).heap[w.heap.size]? =some (.cells #[.int .u32 0,.int .u32 0,.int .u32 0,.int .u64 0] 173 (0,0))):=(Below.heap_alloc _ _ _ (zi Z3.o).1).trans Z3.o;have D3a:Hid (Below w.heap.size w (w3.alloc (.cells #[.int .u32 a,.int .u32 b',.int .u32 c,.int .u64 d] 173))):=D3.o.alloc D3.o.size _
  go_wp2_with (refine wpList_store_row rfl 173 _ _ rfl w.heap.size _ rfl rfl 173 _ Z3a.o uk rfl (by simp[Value.oneCell']) ?_)
  refine bodyPost_ret (jt rfl _ _ w.heap.size zh rfl (setRow_heap _ _ _ _ _ _ Z3a.o)) rfl ?_;exact⟨rfl,below_setRow D3a.o zn _⟩
 ·clear HV
  unfold hv Rk.kv at*
  simp only at HG HF HX ⊢;go_enter Tryz.func200,Tryz.ntmps200;go_wp2_with fail;obtain⟨w1,hw1⟩:∃ w1,w.alloc (.cells #[.int .u32 0,.int .u32 0,.int .u32 0,.int .u64 0] 173)=w1:=⟨_,rfl⟩;have D1:Hid (Below w.heap.size w w1):=by rw[←hw1];exact(Below.refl _ w).alloc zn _
  have Z1:Hid (w1.heap[w.heap.size]? =some (.cells #[.int .u32 0,.int .u32 0,.int .u32 0,.int .u64 0] 173 (0,0))):=by rw[←hw1];exact zq w _
  rw[hw1];clear hw1;refine um (HRi.o w1 (HR.o.below D1.o zn)) fun w2 b2=>?_;have D2:Hid (Below w.heap.size w w2):=D1.o.trans (b2.mono D1.o.size);have Z2:Hid (w2.heap[w.heap.size]? =some (.cells #[.int .u32 0,.int .u32 0,.int .u32 0,.int .u64 0] 173 (0,0))):=(b2.block _ (zi Z1.o).1).trans Z1.o;clear b2 D1 Z1 HRi;have q2:(b.size:Int)=256:=uo
  have ex:=HEX.o hz;go_wp2_with fail;refine um (HG.o w2) fun w3 b3=>?_;have D3:Hid (Below w.heap.size w w3):=D2.o.trans (b3.mono D2.o.size);have Z3:Hid (w3.heap[w.heap.size]? =some (.cells #[.int .u32 0,.int .u32 0,.int .u32 0,.int .u64 0] 173 (0,0))):=(b3.block _ (zi Z2.o).1).trans Z2.o;clear b3 D2 Z2 HG ex;have Z3a:Hid ((w3.alloc (.cells #[.int .u32 a,.int .u32 b',.int .u32 c,.int .u64 d] 173)).heap[w.heap.size]? =some (.cells #[.int .u32 0,.int .u32 0,.int .u32 0,.int .u64 0] 173 (0,0))):=(Below.heap_alloc _ _ _ (zi Z3.o).1).trans Z3.o;have D3a:Hid (Below w.heap.size w (w3.alloc (.cells #[.int .u32 a,.int .u32 b',.int .u32 c,.int .u64 d] 173))):=D3.o.alloc D3.o.size _;go_wp2_with fail;obtain⟨v3,hv3⟩:∃ v3,w3.alloc (.cells #[.int .u32 a,.int .u32 b',.int .u32 c,.int .u64 d] 173)=v3:=⟨_,rfl⟩;have X3:Hid (v3.heap[w3.heap.size]? =some (.cells #[.int .u32 a,.int .u32 b',.int .u32 c,.int .u64 d] 173 (0,0))):=by rw[←hv3];exact zq w3 _
  rw[hv3] at Z3a D3a;rw[hv3];clear hv3 D3 Z3;refine um (HF.o v3 (HR.o.below D3a.o zn)) fun w4 b4=>?_;have D4:Hid (Below w.heap.size w w4):=D3a.o.trans (b4.mono D3a.o.size);have Z4:Hid (w4.heap[w.heap.size]? =some (.cells #[.int .u32 0,.int .u32 0,.int .u32 0,.int .u64 0] 173 (0,0))):=(b4.block _ (zi Z3a.o).1).trans Z3a.o;have X4:Hid (w4.heap[w3.heap.size]? =some (.cells #[.int .u32 a,.int .u32 b',.int .u32 c,.int .u64 d] 173 (0,0))):=(b4.block _ (zi X3.o).1).trans X3.o;clear b4 D3a Z3a X3 HF;have Z4a:Hid ((w4.alloc (.cells #[.int .u32 kg,.string ks] 142)).heap[w.heap.size]? =some (.cells #[.int .u32 0,.int .u32 0,.int .u32 0,.int .u64 0] 173 (0,0))):=(Below.heap_alloc _ _ _ (zi Z4.o).1).trans Z4.o;have D4a:Hid (Below w.heap.size w (w4.alloc (.cells #[.int .u32 kg,.string ks] 142))):=D4.o.alloc D4.o.size _;have q0:(oe !=0)=true:=by simpa using h0
  go_wp2_with (refine wpList_store_row rfl 173 _ _ rfl w.heap.size _ rfl rfl 173 _ Z4a.o uk rfl (by simp[Value.oneCell']) ?_)
  refine bodyPost_ret (jt rfl _ _ w.heap.size zh rfl (setRow_heap _ _ _ _ _ _ Z4a.o)) rfl ?_;exact⟨rfl,below_setRow D4a.o zn _⟩
 ·clear HV
  unfold hv Rk.kv at*
  simp only at HG HF HX ⊢;go_enter Tryz.func200,Tryz.ntmps200;go_wp2_with fail;obtain⟨w1,hw1⟩:∃ w1,w.alloc (.cells #[.int .u32 0,.int .u32 0,.int .u32 0,.int .u64 0] 173)=w1:=⟨_,rfl⟩;have D1:Hid (Below w.heap.size w w1):=by rw[←hw1];exact(Below.refl _ w).alloc zn _
  have Z1:Hid (w1.heap[w.heap.size]? =some (.cells #[.int .u32 0,.int .u32 0,.int .u32 0,.int .u64 0] 173 (0,0))):=by rw[←hw1];exact zq w _
  rw[hw1];clear hw1;refine um (HRi.o w1 (HR.o.below D1.o zn)) fun w2 b2=>?_;have D2:Hid (Below w.heap.size w w2):=D1.o.trans (b2.mono D1.o.size);have Z2:Hid (w2.heap[w.heap.size]? =some (.cells #[.int .u32 0,.int .u32 0,.int .u32 0,.int .u64 0] 173 (0,0))):=(b2.block _ (zi Z1.o).1).trans Z1.o;clear b2 D1 Z1 HRi;have q2:(b.size:Int)=256:=uo
  have ex:=HEX.o hz;go_wp2_with fail;refine um (HG.o w2) fun w3 b3=>?_;have D3:Hid (Below w.heap.size w w3):=D2.o.trans (b3.mono D2.o.size);have Z3:Hid (w3.heap[w.heap.size]? =some (.cells #[.int .u32 0,.int .u32 0,.int .u32 0,.int .u64 0] 173 (0,0))):=(b3.block _ (zi Z2.o).1).trans Z2.o;clear b3 D2 Z2 HG ex;have Z3a:Hid ((w3.alloc (.cells #[.int .u32 a,.int .u32 b',.int .u32 c,.int .u64 d] 173)).heap[w.heap.size]? =some (.cells #[.int .u32 0,.int .u32 0,.int .u32 0,.int .u64 0] 173 (0,0))):=(Below.heap_alloc _ _ _ (zi Z3.o).1).trans Z3.o;have D3a:Hid (Below w.heap.size w (w3.alloc (.cells #[.int .u32 a,.int .u32 b',.int .u32 c,.int .u64 d] 173))):=D3.o.alloc D3.o.size _;go_wp2_with fail;obtain⟨v3,hv3⟩:∃ v3,w3.alloc (.cells #[.int .u32 a,.int .u32 b',.int .u32 c,.int .u64 d] 173)=v3:=⟨_,rfl⟩;have X3:Hid (v3.heap[w3.heap.size]? =some (.cells #[.int .u32 a,.int .u32 b',.int .u32 c,.int .u64 d] 173 (0,0))):=by rw[←hv3];exact zq w3 _
  rw[hv3] at Z3a D3a;rw[hv3];clear hv3 D3 Z3;refine um (HF.o v3 (HR.o.below D3a.o zn)) fun w4 b4=>?_;have D4:Hid (Below w.heap.size w w4):=D3a.o.trans (b4.mono D3a.o.size);have Z4:Hid (w4.heap[w.heap.size]? =some (.cells #[.int .u32 0,.int .u32 0,.int .u32 0,.int .u64 0] 173 (0,0))):=(b4.block _ (zi Z3a.o).1).trans Z3a.o;have X4:Hid (w4.heap[w3.heap.size]? =some (.cells #[.int .u32 a,.int .u32 b',.int .u32 c,.int .u64 d] 173 (0,0))):=(b4.block _ (zi X3.o).1).trans X3.o;clear b4 D3a Z3a X3 HF;have Z4a:Hid ((w4.alloc (.cells #[.int .u32 kg,.string ks] 142)).heap[w.heap.size]? =some (.cells #[.int .u32 0,.int .u32 0,.int .u32 0,.int .u64 0] 173 (0,0))):=(Below.heap_alloc _ _ _ (zi Z4.o).1).trans Z4.o;have D4a:Hid (Below w.heap.size w (w4.alloc (.cells #[.int .u32 kg,.string ks] 142))):=D4.o.alloc D4.o.size _;have HX2:Hid _:=HX.o trivial hz;clear HX;have Y4:Hid ((w4.alloc (.cells #[.int .u32 kg,.string ks] 142)).heap[w3.heap.size]? =some (.cells #[.int .u32 a,.int .u32 b',.int .u32 c,.int .u64 d] 173 (0,0))):=(Below.heap_alloc _ _ _ (zi X4.o).1).trans X4.o
  have hh0:(w4.alloc (.cells #[.int .u32 kg,.string ks] 142)).cell? ⟨w3.heap.size,0,none⟩=some (.int .u32 a):=by rw[zr Y4.o];rfl
  have hh1:(w4.alloc (.cells #[.int .u32 kg,.string ks] 142)).cell? ⟨w3.heap.size,1,none⟩=some (.int .u32 b'):=by rw[zr Y4.o];rfl
  have hh2:(w4.alloc (.cells #[.int .u32 kg,.string ks] 142)).cell? ⟨w3.heap.size,2,none⟩=some (.int .u32 c):=by rw[zr Y4.o];rfl
  have hh3:(w4.alloc (.cells #[.int .u32 kg,.string ks] 142)).cell? ⟨w3.heap.size,3,none⟩=some (.int .u64 d):=by rw[zr Y4.o];rfl
  go_wp2_with (refine wpList_load_row rfl 173 _ rfl w3.heap.size rfl 173 _ (0,0) _ Y4.o Tryz.underlying173 rfl uk ?_)
  clear hh0 hh1 hh2 hh3;obtain⟨v4,hv4⟩:∃ v4,w4.alloc (.cells #[.int .u32 kg,.string ks] 142)=v4:=⟨_,rfl⟩;rw[hv4] at Z4a D4a Y4;rw[hv4];clear hv4 D4 Z4 X4;refine um (HX2.o v4 (HT.o.below D4a.o zn)) fun w5 b5=>?_;have D5:Hid (Below w.heap.size w w5):=D4a.o.trans (b5.mono D4a.o.size);have Z5:Hid (w5.heap[w.heap.size]? =some (.cells #[.int .u32 0,.int .u32 0,.int .u32 0,.int .u64 0] 173 (0,0))):=(b5.block _ (zi Z4a.o).1).trans Z4a.o;have X5:Hid (w5.heap[w3.heap.size]? =some (.cells #[.int .u32 a,.int .u32 b',.int .u32 c,.int .u64 d] 173 (0,0))):=(b5.block _ (zi Y4.o).1).trans Y4.o;clear b5 D4a Z4a Y4 HX2
  go_wp2_with (refine wpList_store_row rfl 173 _ _ rfl w.heap.size _ rfl rfl 173 _ Z5.o uk rfl (by simp[Value.oneCell']) ?_)
  refine bodyPost_ret (jt rfl _ _ w.heap.size zh rfl (setRow_heap _ _ _ _ _ _ Z5.o)) rfl ?_;exact⟨rfl,below_setRow D5.o zn _⟩
 ·clear HV
  unfold hv Rk.kv at*
  simp only at HG HF HX ⊢;go_enter Tryz.func200,Tryz.ntmps200;go_wp2_with fail;obtain⟨w1,hw1⟩:∃ w1,w.alloc (.cells #[.int .u32 0,.int .u32 0,.int .u32 0,.int .u64 0] 173)=w1:=⟨_,rfl⟩;have D1:Hid (Below w.heap.size w w1):=by rw[←hw1];exact(Below.refl _ w).alloc zn _
  have Z1:Hid (w1.heap[w.heap.size]? =some (.cells #[.int .u32 0,.int .u32 0,.int .u32 0,.int .u64 0] 173 (0,0))):=by rw[←hw1];exact zq w _
  rw[hw1];clear hw1;refine um (HRi.o w1 (HR.o.below D1.o zn)) fun w2 b2=>?_;have D2:Hid (Below w.heap.size w w2):=D1.o.trans (b2.mono D1.o.size);have Z2:Hid (w2.heap[w.heap.size]? =some (.cells #[.int .u32 0,.int .u32 0,.int .u32 0,.int .u64 0] 173 (0,0))):=(b2.block _ (zi Z1.o).1).trans Z1.o;clear b2 D1 Z1 HRi;have q2:(b.size:Int)=256:=uo
  have ex:=HEX.o hz;go_wp2_with fail;refine um (HG.o w2) fun w3 b3=>?_;have D3:Hid (Below w.heap.size w w3):=D2.o.trans (b3.mono D2.o.size);have Z3:Hid (w3.heap[w.heap.size]? =some (.cells #[.int .u32 0,.int .u32 0,.int .u32 0,.int .u64 0] 173 (0,0))):=(b3.block _ (zi Z2.o).1).trans Z2.o;clear b3 D2 Z2 HG ex;have Z3a:Hid ((w3.alloc (.cells #[.int .u32 a,.int .u32 b',.int .u32 c,.int .u64 d] 173)).heap[w.heap.size]? =some (.cells #[.int .u32 0,.int .u32 0,.int .u32 0,.int .u64 0] 173 (0,0))):=(Below.heap_alloc _ _ _ (zi Z3.o).1).trans Z3.o;have D3a:Hid (Below w.heap.size w (w3.alloc (.cells #[.int .u32 a,.int .u32 b',.int .u32 c,.int .u64 d] 173))):=D3.o.alloc D3.o.size _;go_wp2_with fail;obtain⟨v3,hv3⟩:∃ v3,w3.alloc (.cells #[.int .u32 a,.int .u32 b',.int .u32 c,.int .u64 d] 173)=v3:=⟨_,rfl⟩;have X3:Hid (v3.heap[w3.heap.size]? =some (.cells #[.int .u32 a,.int .u32 b',.int .u32 c,.int .u64 d] 173 (0,0))):=by rw[←hv3];exact zq w3 _
  rw[hv3] at Z3a D3a;rw[hv3];clear hv3 D3 Z3;refine um (HF.o v3 (HR.o.below D3a.o zn)) fun w4 b4=>?_;have D4:Hid (Below w.heap.size w w4):=D3a.o.trans (b4.mono D3a.o.size);have Z4:Hid (w4.heap[w.heap.size]? =some (.cells #[.int .u32 0,.int .u32 0,.int .u32 0,.int .u64 0] 173 (0,0))):=(b4.block _ (zi Z3a.o).1).trans Z3a.o;have X4:Hid (w4.heap[w3.heap.size]? =some (.cells #[.int .u32 a,.int .u32 b',.int .u32 c,.int .u64 d] 173 (0,0))):=(b4.block _ (zi X3.o).1).trans X3.o;clear b4 D3a Z3a X3 HF;have Z4a:Hid ((w4.alloc (.cells #[.int .u32 kg,.string ks] 142)).heap[w.heap.size]? =some (.cells #[.int .u32 0,.int .u32 0,.int .u32 0,.int .u64 0] 173 (0,0))):=(Below.heap_alloc _ _ _ (zi Z4.o).1).trans Z4.o;have D4a:Hid (Below w.heap.size w (w4.alloc (.cells #[.int .u32 kg,.string ks] 142))):=D4.o.alloc D4.o.size _;have HX2:Hid _:=HX.o trivial hz;clear HX;have Y4:Hid ((w4.alloc (.cells #[.int .u32 kg,.string ks] 142)).heap[w3.heap.size]? =some (.cells #[.int .u32 a,.int .u32 b',.int .u32 c,.int .u64 d] 173 (0,0))):=(Below.heap_alloc _ _ _ (zi X4.o).1).trans X4.o
  have hh0:(w4.alloc (.cells #[.int .u32 kg,.string ks] 142)).cell? ⟨w3.heap.size,0,none⟩=some (.int .u32 a):=by rw[zr Y4.o];rfl
  have hh1:(w4.alloc (.cells #[.int .u32 kg,.string ks] 142)).cell? ⟨w3.heap.size,1,none⟩=some (.int .u32 b'):=by rw[zr Y4.o];rfl
  have hh2:(w4.alloc (.cells #[.int .u32 kg,.string ks] 142)).cell? ⟨w3.heap.size,2,none⟩=some (.int .u32 c):=by rw[zr Y4.o];rfl
  have hh3:(w4.alloc (.cells #[.int .u32 kg,.string ks] 142)).cell? ⟨w3.heap.size,3,none⟩=some (.int .u64 d):=by rw[zr Y4.o];rfl
  go_wp2_with (refine wpList_load_row rfl 173 _ rfl w3.heap.size rfl 173 _ (0,0) _ Y4.o Tryz.underlying173 rfl uk ?_)
  clear hh0 hh1 hh2 hh3;obtain⟨v4,hv4⟩:∃ v4,w4.alloc (.cells #[.int .u32 kg,.string ks] 142)=v4:=⟨_,rfl⟩;rw[hv4] at Z4a D4a Y4;rw[hv4];clear hv4 D4 Z4 X4;refine um (HX2.o v4 (HT.o.below D4a.o zn)) fun w5 b5=>?_;have D5:Hid (Below w.heap.size w w5):=D4a.o.trans (b5.mono D4a.o.size);have Z5:Hid (w5.heap[w.heap.size]? =some (.cells #[.int .u32 0,.int .u32 0,.int .u32 0,.int .u64 0] 173 (0,0))):=(b5.block _ (zi Z4a.o).1).trans Z4a.o;have X5:Hid (w5.heap[w3.heap.size]? =some (.cells #[.int .u32 a,.int .u32 b',.int .u32 c,.int .u64 d] 173 (0,0))):=(b5.block _ (zi Y4.o).1).trans Y4.o;clear b5 D4a Z4a Y4 HX2
  go_wp2_with (first|(refine wpList_load_row rfl 173 _ rfl w3.heap.size rfl 173 _ (0,0) _ X5.o Tryz.underlying173 rfl uk ?_)|(refine wpList_store_row rfl 173 _ _ rfl w.heap.size _ rfl rfl 173 _ Z5.o uk rfl (by simp[Value.oneCell']) ?_))
  refine bodyPost_ret (jt rfl _ _ w.heap.size (a,b',c,d) rfl (setRow_heap _ _ _ _ _ _ Z5.o)) rfl ?_;exact⟨rfl,below_setRow D5.o zn _⟩
theorem qq (l:List Rk.Ky) (h:Hd) (s:ByteArray):sE l h s=0↔Rk.cq l h.2.1=0∧s.size≤198:=by
 unfold sE Rp.eh;by_cases h0:Rk.cq l h.2.1=0
 ·rw[if_pos h0]
  by_cases h1:s.size≤198
  ·simp[h0,h1]
  ·simp[h0,h1]
 ·rw[if_neg h0]
  simp[h0]
theorem zim (Kt:Nat→Int) (l:List Rk.Ky) (h:Hd) (s:ByteArray) (h0:sE l h s=0):sV Kt l h s=lF Kt (Rk.dI l h.2.1) h (Rp.ef s):=by
 unfold sV;rw[if_pos ((qq l h s).1 h0)]
theorem zin (Kt:Nat→Int) (k:Rk.Ky) (h:Hd) (s:ByteArray):jG (Ra.dN (Rk.fC Kt k) (fT h)) (eK Kt (Rk.fo Kt k)) (cD h) (Rp.ef s) (lF Kt k h (Rp.ef s)):=
 zqa _ _ _ _ (lx h) (by rw[Ra.qo,Rp.oL]) (fun _=>rx _ _ _)
theorem zjb (Kt:Nat→Int) (l:List Rk.Ky) (h:Hd) (hf:fits h) (s b:ByteArray) (h0:sE l h s=0) (ha:b.extract 0 224=(sV Kt l h s).extract 0 224):
  hB b=h∧gk (b.extract 0 24)=true∧Rk.cq l h.2.1=0∧Rk.cP l=true∧ib Kt (Rk.dI l h.2.1) h b=Rp.ef s∧lG Kt (Rk.dI l h.2.1) b=decide (cW b=cW (sV Kt l h s)):=by
 have hI:=zin Kt (Rk.dI l h.2.1) h s;rw[←zim Kt l h s h0] at hI;obtain⟨hfe,hsz⟩:=(qq l h s).1 h0
 have e1:b.extract 0 24=cD h:=by
  have:=jv b 0 224 0 24 uo;rw[ha,jv _ 0 224 0 24 uo] at this;exact this.symm.trans hI.head
 have e2:b.extract 24 224=Ra.dN (Rk.fC Kt (Rk.dI l h.2.1)) (fT h) (Rp.ef s):=by
  have:=jv b 0 224 24 224 uo;rw[ha,jv _ 0 224 24 224 uo] at this;exact this.symm.trans hI.rest
 refine⟨by unfold hB;rw[e1];exact zpj h hf,by rw[e1];exact zny h hf,hfe,(qp l _ hfe).1,?_,?_⟩
 ·unfold ib
  rw[e2,Ra.zja]
 ·unfold lG
  rw[ha,←hI.tag]
theorem mz (Kt:Nat→Int) (l:List Rk.Ky) (h:Hd) (hf:fits h) (s:ByteArray) (h0:sE l h s=0):
  (sV Kt l h s).size=256∧(sV Kt l h s).extract 0 24=cD h∧oE Kt l (sV Kt l h s)=0∧oH Kt l (sV Kt l h s)=h∧oS Kt l (sV Kt l h s)=s:=by
 have hI:=zin Kt (Rk.dI l h.2.1) h s;rw[←zim Kt l h s h0] at hI;obtain⟨hfe,hsz⟩:=(qq l h s).1 h0;obtain⟨k1,k2,k3,k4,k5,k6⟩:=zjb Kt l h hf s (sV Kt l h s) h0 rfl
 have kt:tk Kt (Rk.dI l h.2.1) h (sV Kt l h s)=true:=by
  unfold tk;rw[k6,k5,Rp.zgM s hsz];simp
 have ke:oE Kt l (sV Kt l h s)=0:=by
  unfold oE;rw[if_pos k4,if_pos hI.size,if_pos k2,k1,if_pos k3,if_pos kt]
 refine⟨hI.size,hI.head,ke,by unfold oH;rw[if_pos ke,k1],?_⟩;unfold oS tv;rw[if_pos ke,k1,if_pos kt,k5,Rp.zdJ s hsz]
end Rs
end Go.Proofs.YtokfnghckpgjmaaGreatDoor
