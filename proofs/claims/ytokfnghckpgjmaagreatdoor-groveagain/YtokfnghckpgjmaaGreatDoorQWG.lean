/- A head's nonce; a block's tag; the block of a head and a body. -/
import Derived.Test.YtokfnghckpgjmaaGreatDoorQWD
import Derived.Test.YtokfnghckpgjmaaGreatDoorPVa
import Derived.Test.YtokfnghckpgjmaaGreatDoorQZI
set_option maxRecDepth 100000
set_option maxHeartbeats 2000000
namespace Go.Proofs.YtokfnghckpgjmaaGreatDoor
namespace Rs
open Go.RowKit Go.Lib
def Tb (Kt:Nat→Int) (w:World):Prop:=(∃ tt fr,w.heap[3]? =some (.cells (w64 Kt) tt fr))∧∃ tt fr,w.heap[2]? =some (.cells Ra.tab tt fr)
theorem Tb.below {Kt:Nat→Int} {w W:World} {B:Nat} (h:Tb Kt w) (hb:Below B w W) (hB:w.heap.size≤B):Tb Kt W:=by
 obtain⟨⟨t1,f1,h1⟩,t2,f2,h2⟩:=h;exact⟨⟨t1,f1,(hb.block _ (Nat.lt_of_lt_of_le (zi h1).1 hB)).trans h1⟩,t2,f2,(hb.block _ (Nat.lt_of_lt_of_le (zi h2).1 hB)).trans h2⟩
theorem zlc (h:Hd) (w:World):(Instr.sliceAt 9 (.string (putS h)) (some (.int .i64 8)) (some (.int .i64 20)) none).run Tryz.prog w=.ok (.string (zaO h)) w:=zk9 (putS h) (zbI h) 8 20 (by omega) (by omega) w
theorem zgk (h:Hd) (hf:fits h) (w:World):
  Calls Tryz.prog 179 #[hv h] w fun e w'=>e=.returned (.string (zaO h))∧Below w.heap.size w w':=by
 have HF:Hid (fits h):=hf;have hE:∀ w,(Instr.sliceAt 9 (.string (putS h)) (some (.int .i64 8)) (some (.int .i64 20)) none).run Tryz.prog w=.ok (.string (zaO h)) w:=zlc h;have HP:Hid (∀ W,Calls Tryz.prog 180 #[hv h] W fun e w'=>e=.returned (.string (putS h))∧Below W.heap.size W w'):=zdk h hf;clear hf;generalize putS h=x at*
 generalize zaO h=y at*
 obtain⟨a,b,c,d⟩:=h;unfold hv at*
 go_enter Tryz.func179,Tryz.ntmps179;go_wp2_with fail;refine(HP.out _).mono ?_;rintro e w2 ⟨rfl,b2⟩;have B2:Hid (Below w.heap.size w w2):=((Below.refl _ w).alloc zn _).trans (b2.mono (by simp));clear b2;go_wp2_with fail;go_ret;exact⟨rfl,B2.out⟩
theorem zmZ {P:Program} {ops:Array Oper} {rest:List Oper} {o:Oper} {a:Act} {w:World} {Q:Exit→Act→World→Prop} (hgd:o.guard=none) (t u:TypeId) (x y:Operand) (ho:o.op=.call { callee:=.builtin .max,args:=#[x,y],argTypes:=#[t,u] })
  {p q r:Int} (hx:a.eval x=.int .i64 p) (hy:a.eval y=.int .i64 q) (hr:(if p<q then q else p)=r) (h:wpList P ops Q rest (a.put o.dst (.int .i64 r)) w):wpList P ops Q (o::rest) a w:=
 wpList_plain hgd fun _ hK=>by
  have hrun:(Builtin.max_ #[t,u] o.type #[.int .i64 p,.int .i64 q]).run P w=.ok (.int .i64 r) w:=by subst hr;rfl
  unfold Oper.wp execOp;simp only[ho,resolve,invoke,builtin,Sem.run_bind,Sem.run_pure,Result.andThen_ok,List.map_toArray,List.map_cons,List.map_nil,hx,hy,hrun];exact hK _ _ h
theorem zhm (b:ByteArray) (hb:b.size≤maxLen) (w:World):
  Calls Tryz.prog 96 #[.string b] w fun e w'=>e=.returned (.string (tagS b))∧w'=w:=by
 unfold maxLen at hb;have h0:(0:Int)≤(b.size:Int):=by omega
 have h1:(b.size:Int)≤9223372036854775807:=by omega
 obtain⟨n,hn⟩:∃ n,b.size - 32=n:=⟨_,rfl⟩;have hmx:(if(b.size:Int) - 32<0 then 0 else(b.size:Int) - 32)=(n:Int):=by split<;>omega
 have hw:wrap64 ((b.size:Int) - 32)=(b.size:Int) - 32:=by unfold wrap64;omega
 have hE:∀ w,(Instr.sliceAt 9 (.string b) (some (.int .i64 (n:Int))) none none).run Tryz.prog w=.ok (.string (tagS b)) w:=fun w=>by
  have hnb:n≤b.size:=by omega
  simp[Instr.sliceAt,Instr.slice,run_underlying Tryz.underlying9,go_sem];unfold tagS;rw[hn];simp[hnb]
 clear hn;generalize tagS b=y at*
 go_enter Tryz.func96,Tryz.ntmps96
 go_wp2_with (first|(refine zmZ rfl 3 3 _ _ rfl rfl rfl hmx ?_))
 go_ret;exact⟨rfl,rfl⟩
def zcB (Kt:Nat→Int) (k:Rk.Ky) (h:Hd) (body:ByteArray):ByteArray:=bl (Ra.xorS (Rk.zba Kt k) (zaO h)) (macS Kt (Rk.zbs Kt k)) (putS h) body
theorem zgl (Kt:Nat→Int) (k:Rk.Ky) (hk:Rk.zaf [k]=true):(Rk.zba Kt k).size=32:=by unfold Rk.zba;rw[if_pos hk,Rk.zgf]
theorem zgm (Kt:Nat→Int) (k:Rk.Ky) (hk:Rk.zaf [k]=true):(Rk.zbs Kt k).size=32:=by unfold Rk.zbs;rw[if_pos hk,Rk.zgf]
theorem zdU (Kt:Nat→Int) (k:Rk.Ky) (hk:Rk.zaf [k]=true) (h:Hd) (hf:fits h) (body:ByteArray) (hb:body.size=200) (w:World) (hT:Tb Kt w):
  Calls Tryz.prog 138 #[Rk.kv k,hv h,.string body] w fun e w'=>e=.returned (.string (zcB Kt k h body))∧Below w.heap.size w w':=by
 have HS:Hid (∀ W,Tb Kt W→Calls Tryz.prog 177 #[Rk.kv k] W fun e w'=>e=.returned (.tuple #[.string (Rk.zba Kt k),.string (Rk.zbs Kt k),.int .i64 (Rk.subE k)])∧Below W.heap.size W w'):=fun W ⟨⟨_,_,h1⟩,_⟩=>Rk.zif Kt k W h1
 have HX:Hid (∀ W,Tb Kt W→Calls Tryz.prog 178 #[.string (Rk.zba Kt k),.string (zaO h),.string body] W fun e w'=>e=.returned (.tuple #[.string (Ra.xorS (Rk.zba Kt k) (zaO h) body),.int .i64 0])∧Below W.heap.size W w'):=fun W ⟨_,_,_,h2⟩=>Ra.zlb _ _ _ W (zgl Kt k hk) (zes h) (by omega) h2
 have HN:Hid (∀ W,Calls Tryz.prog 179 #[hv h] W fun e w'=>e=.returned (.string (zaO h))∧Below W.heap.size W w'):=zgk h hf;have HP:Hid (∀ W,Calls Tryz.prog 180 #[hv h] W fun e w'=>e=.returned (.string (putS h))∧Below W.heap.size W w'):=zdk h hf
 have HM:Hid (∀ W T,Tb Kt W→Calls Tryz.prog 181 #[.string (Rk.zbs Kt k),.slice (some ⟨W.heap.size,0,none⟩) 1 1] (W.alloc (.cells #[.string (putS h++Ra.xorS (Rk.zba Kt k) (zaO h) body)] T)) fun e w'=>e=.returned (.string (macS Kt (Rk.zbs Kt k) (putS h++Ra.xorS (Rk.zba Kt k) (zaO h) body)))∧Below W.heap.size W w'):=fun W T ⟨⟨_,_,h1⟩,_⟩=>
  zgV Kt _ (by rw[zgm Kt k hk];omega) 1 (by omega) #[.string (putS h++Ra.xorS (Rk.zba Kt k) (zaO h) body)] T (fun _=>putS h++Ra.xorS (Rk.zba Kt k) (zaO h) body) _ (by apply ByteArray.ext;simp[catS]) (by rw[ByteArray.size_append,zbI,Ra.zcZ,hb];omega) (fun i hi=>by match i,hi with|0,_=>rfl) W h1
 have HV:Hid (zcB Kt k h body=putS h++Ra.xorS (Rk.zba Kt k) (zaO h) body++macS Kt (Rk.zbs Kt k) (putS h++Ra.xorS (Rk.zba Kt k) (zaO h) body)):=rfl;have zp:(putS h).size=24:=zbI h;have zx:(Ra.xorS (Rk.zba Kt k) (zaO h) body).size=200:=by rw[Ra.zcZ,hb]
 have zm:(macS Kt (Rk.zbs Kt k) (putS h++Ra.xorS (Rk.zba Kt k) (zaO h) body)).size=32:=zdY _ _ _;have HT:Hid (Tb Kt w):=hT;clear hT hf hk hb;generalize Ra.xorS (Rk.zba Kt k) (zaO h) body=xo at*
 generalize macS Kt (Rk.zbs Kt k) (putS h++xo)=ma at*
 generalize Rk.zba Kt k=se at*
 generalize Rk.zbs Kt k=bi at*
 generalize Rk.subE k=su at*
 generalize zaO h=no at*
 generalize putS h=pu at*
 generalize zcB Kt k h body=bk at*
 obtain⟨g,sec⟩:=k;obtain⟨a,b,c,d⟩:=h;unfold hv Rk.kv at*
 simp only at HS HN HP ⊢;go_enter Tryz.func138,Tryz.ntmps138;go_wp2_with fail;obtain⟨w1,hw1⟩:∃ w1,(w.alloc (.cells #[.int .u32 g,.string sec] 142)).alloc (.cells #[.int .u32 a,.int .u32 b,.int .u32 c,.int .u64 d] 173)=w1:=⟨_,rfl⟩;have hn2:=Rp.zay w (.cells #[.int .u32 g,.string sec] 142) (.cells #[.int .u32 a,.int .u32 b,.int .u32 c,.int .u64 d] 173);rw[hw1] at hn2;have B1:Hid (Below w.heap.size w w1):=hn2.2.2;have X1:Hid (w1.heap[w.heap.size+1]? =some (.cells #[.int .u32 a,.int .u32 b,.int .u32 c,.int .u64 d] 173 (0,0))):=hn2.2.1;have l1:w.heap.size+1<w1.heap.size:=(zi hn2.2.1).1;rw[hw1];clear hw1 hn2
 have HC:Hid (∀ W,Below w1.heap.size w1 W→W.cell? ⟨w.heap.size+1,0,none⟩=some (.int .u32 a)∧W.cell? ⟨w.heap.size+1,1,none⟩=some (.int .u32 b)∧W.cell? ⟨w.heap.size+1,2,none⟩=some (.int .u32 c)∧W.cell? ⟨w.heap.size+1,3,none⟩=some (.int .u64 d)):=fun W hB=>by
  have hV:=(hB.block _ l1).trans X1.out;exact⟨by rw[zr hV];rfl,by rw[zr hV];rfl,by rw[zr hV];rfl,by rw[zr hV];rfl⟩
 refine(HS.out w1 (HT.out.below B1.out zn)).mono ?_;rintro e w2 ⟨rfl,b2⟩;have D2:Hid (Below w1.heap.size w1 w2):=b2;clear b2 HS;obtain⟨ca,cb,cc,cd⟩:=HC.out w2 D2.out;go_wp2_with fail;clear ca cb cc cd;refine(HN.out w2).mono ?_;rintro e w3 ⟨rfl,b3⟩;have D3:Hid (Below w1.heap.size w1 w3):=D2.out.trans (b3.mono D2.out.size);clear b3 D2 HN;go_wp2_with fail;refine(HX.out w3 (HT.out.below (B1.out.trans (D3.out.mono B1.out.size)) zn)).mono ?_;rintro e w4 ⟨rfl,b4⟩;have D4:Hid (Below w1.heap.size w1 w4):=D3.out.trans (b4.mono D3.out.size);clear b4 D3 HX;obtain⟨ca,cb,cc,cd⟩:=HC.out w4 D4.out;have qs:¬9223372036854775807<pu.size+xo.size:=by omega
 go_wp2_with fail;clear ca cb cc cd;refine(HP.out w4).mono ?_;rintro e w5 ⟨rfl,b5⟩;have D5:Hid (Below w1.heap.size w1 w5):=D4.out.trans (b5.mono D4.out.size);clear b5 D4 HP;have HT5:Hid (Tb Kt w5):=HT.out.below (B1.out.trans (D5.out.mono B1.out.size)) zn;obtain⟨ah,hah⟩:∃ ah,pu++xo=ah:=⟨_,rfl⟩;have zah:ah.size=224:=by rw[←hah,ByteArray.size_append];omega
 have HAH:Hid (pu++xo=ah):=hah;rw[hah] at HM HV;clear hah;have qt:¬9223372036854775807<ah.size+ma.size:=by omega
 go_wp2_with fail;rw[HAH.out];refine(HM.out w5 9 HT5.out).mono ?_;rintro e w6 ⟨rfl,b6⟩;have B6:Hid (Below w.heap.size w w6):=B1.out.trans ((D5.out.trans (b6.mono D5.out.size)).mono B1.out.size);clear b6 D5 HM;go_wp2_with fail;go_ret;exact⟨by rw[HV.out];rfl,B6.out⟩
def zbt (Kt:Nat→Int) (k:Rk.Ky) (h:Hd) (b:ByteArray):ByteArray:=Ra.xorS (Rk.zba Kt k) (zaO h) (b.extract 24 224)
def zep (Kt:Nat→Int) (k:Rk.Ky) (b:ByteArray):Bool:=decide (tagS b=macS Kt (Rk.zbs Kt k) (b.extract 0 224))
def tk (Kt:Nat→Int) (k:Rk.Ky) (h:Hd) (b:ByteArray):Bool:=zep Kt k b&&Rp.zbA (zbt Kt k h b)
def tv (Kt:Nat→Int) (k:Rk.Ky) (h:Hd) (b:ByteArray):ByteArray:=if tk Kt k h b=true then Rp.textOf (zbt Kt k h b) else⟨#[]⟩
theorem zpW (s:ByteArray) (h:s.size=256) (a b:Nat) (hab:a≤b) (hb:b≤256) (w:World):(Instr.sliceAt 9 (.string s) (some (.int .i64 (a:Int))) (some (.int .i64 (b:Int))) none).run Tryz.prog w=.ok (.string (s.extract a b)) w:=by
 simp[Instr.sliceAt,Instr.slice,run_underlying Tryz.underlying9,go_sem,h];rw[if_pos (by omega),if_pos (by omega)]
theorem zhn (s:ByteArray) (h:s.size=256) (b:Nat) (hb:b≤256) (w:World):(Instr.sliceAt 9 (.string s) none (some (.int .i64 (b:Int))) none).run Tryz.prog w=.ok (.string (s.extract 0 b)) w:=by
 simp[Instr.sliceAt,Instr.slice,run_underlying Tryz.underlying9,go_sem,h];intro hlt;omega
theorem zcz (Kt:Nat→Int) (k:Rk.Ky) (hk:Rk.zaf [k]=true) (h:Hd) (hf:fits h) (b:ByteArray) (hb:b.size=256) (w:World) (hT:Tb Kt w):
  Calls Tryz.prog 235 #[Rk.kv k,hv h,.string b] w fun e w'=>e=.returned (.tuple #[.string (tv Kt k h b),.bool (tk Kt k h b)])∧Below w.heap.size w w':=by
 have z1:(b.extract 0 224).size=224:=by rw[Rp.ext_size,hb];rfl
 have z2:(b.extract 24 224).size=200:=by rw[Rp.ext_size,hb];rfl
 have e1:∀ w,(Instr.sliceAt 9 (.string b) none (some (.int .i64 224)) none).run Tryz.prog w=.ok (.string (b.extract 0 224)) w:=zhn b hb 224 (by omega);have e2:∀ w,(Instr.sliceAt 9 (.string b) (some (.int .i64 24)) (some (.int .i64 224)) none).run Tryz.prog w=.ok (.string (b.extract 24 224)) w:=zpW b hb 24 224 (by omega) (by omega);have HS:Hid (∀ W,Tb Kt W→Calls Tryz.prog 177 #[Rk.kv k] W fun e w'=>e=.returned (.tuple #[.string (Rk.zba Kt k),.string (Rk.zbs Kt k),.int .i64 (Rk.subE k)])∧Below W.heap.size W w'):=fun W ⟨⟨_,_,h1⟩,_⟩=>Rk.zif Kt k W h1
 have HX:Hid (∀ W,Tb Kt W→Calls Tryz.prog 178 #[.string (Rk.zba Kt k),.string (zaO h),.string (b.extract 24 224)] W fun e w'=>e=.returned (.tuple #[.string (zbt Kt k h b),.int .i64 0])∧Below W.heap.size W w'):=fun W ⟨_,_,_,h2⟩=>Ra.zlb _ _ _ W (zgl Kt k hk) (zes h) (by omega) h2
 have HN:Hid (∀ W,Calls Tryz.prog 179 #[hv h] W fun e w'=>e=.returned (.string (zaO h))∧Below W.heap.size W w'):=zgk h hf;have HG:Hid (∀ W,Calls Tryz.prog 96 #[.string b] W fun e w'=>e=.returned (.string (tagS b))∧w'=W):=zhm b (by unfold maxLen;omega)
 have HM:Hid (∀ W T,Tb Kt W→Calls Tryz.prog 181 #[.string (Rk.zbs Kt k),.slice (some ⟨W.heap.size,0,none⟩) 1 1] (W.alloc (.cells #[.string (b.extract 0 224)] T)) fun e w'=>e=.returned (.string (macS Kt (Rk.zbs Kt k) (b.extract 0 224)))∧Below W.heap.size W w'):=fun W T ⟨⟨_,_,h1⟩,_⟩=>
  zgV Kt _ (by rw[zgm Kt k hk];omega) 1 (by omega) #[.string (b.extract 0 224)] T (fun _=>b.extract 0 224) _ (by apply ByteArray.ext;simp[catS]) (by omega) (fun i hi=>by match i,hi with|0,_=>rfl) W h1
 have HE:Hid (∀ W,Calls Tryz.prog 260 #[.string (tagS b),.string (macS Kt (Rk.zbs Kt k) (b.extract 0 224))] W fun e w'=>e=.returned (.bool (zep Kt k b))∧Below W.heap.size W w'):=fun W=>zdZ _ _ (by unfold maxLen tagS;rw[Rp.ext_size];omega) W
 have HU:Hid (∀ W,Calls Tryz.prog 261 #[.string (zbt Kt k h b)] W fun e w'=>e=.returned (.tuple #[.string (Rp.unV (zbt Kt k h b)),.int .i64 (Rp.unE (zbt Kt k h b))])∧Below W.heap.size W w'):=Rp.zj2 _
 have HV:Hid ((zep Kt k b=false∧tk Kt k h b=false∧tv Kt k h b=⟨#[]⟩)∨(zep Kt k b=true∧tv Kt k h b=Rp.unV (zbt Kt k h b)∧((tk Kt k h b=true∧Rp.unE (zbt Kt k h b)=0)∨(tk Kt k h b=false∧Rp.unE (zbt Kt k h b)=50)))):=by
  refine(?_:(zep Kt k b=false∧tk Kt k h b=false∧tv Kt k h b=⟨#[]⟩)∨(zep Kt k b=true∧tv Kt k h b=Rp.unV (zbt Kt k h b)∧((tk Kt k h b=true∧Rp.unE (zbt Kt k h b)=0)∨(tk Kt k h b=false∧Rp.unE (zbt Kt k h b)=50))));unfold tv tk Rp.unV Rp.unE;cases zep Kt k b<;>cases Rp.zbA (zbt Kt k h b)<;>simp
 have HT:Hid (Tb Kt w):=hT;clear hT hf hk hb;generalize zbt Kt k h b=bo at*
 generalize macS Kt (Rk.zbs Kt k) (b.extract 0 224)=ma at*
 generalize Rk.zba Kt k=se at*
 generalize Rk.zbs Kt k=bi at*
 generalize Rk.subE k=su at*
 generalize zaO h=no at*
 generalize zep Kt k b=ok at*
 generalize tk Kt k h b=tkk at*
 generalize tv Kt k h b=tvv at*
 generalize tagS b=ta at*
 generalize Rp.unV bo=uv at*
 generalize Rp.unE bo=ue at*
 generalize b.extract 0 224=x1 at*
 generalize b.extract 24 224=x2 at*
 obtain⟨g,sec⟩:=k;obtain⟨a,b',c,d⟩:=h;unfold hv Rk.kv at*
 simp only at HS HN ⊢;go_enter Tryz.func235,Tryz.ntmps235;go_wp2_with fail;obtain⟨w1,hw1⟩:∃ w1,(w.alloc (.cells #[.int .u32 g,.string sec] 142)).alloc (.cells #[.int .u32 a,.int .u32 b',.int .u32 c,.int .u64 d] 173)=w1:=⟨_,rfl⟩;have hn2:=Rp.zay w (.cells #[.int .u32 g,.string sec] 142) (.cells #[.int .u32 a,.int .u32 b',.int .u32 c,.int .u64 d] 173);rw[hw1] at hn2;have B1:Hid (Below w.heap.size w w1):=hn2.2.2;have X1:Hid (w1.heap[w.heap.size+1]? =some (.cells #[.int .u32 a,.int .u32 b',.int .u32 c,.int .u64 d] 173 (0,0))):=hn2.2.1;have l1:w.heap.size+1<w1.heap.size:=(zi hn2.2.1).1;rw[hw1];clear hw1 hn2
 have HC:Hid (∀ W,Below w1.heap.size w1 W→W.cell? ⟨w.heap.size+1,0,none⟩=some (.int .u32 a)∧W.cell? ⟨w.heap.size+1,1,none⟩=some (.int .u32 b')∧W.cell? ⟨w.heap.size+1,2,none⟩=some (.int .u32 c)∧W.cell? ⟨w.heap.size+1,3,none⟩=some (.int .u64 d)):=fun W hB=>by
  have hV:=(hB.block _ l1).trans X1.out;exact⟨by rw[zr hV];rfl,by rw[zr hV];rfl,by rw[zr hV];rfl,by rw[zr hV];rfl⟩
 refine(HS.out w1 (HT.out.below B1.out zn)).mono ?_;rintro e w2 ⟨rfl,b2⟩;have D2:Hid (Below w1.heap.size w1 w2):=b2;clear b2 HS;go_wp2_with fail;refine wp_region_any (by kernel_rfl) ?_;change wpAny _ _ _ _ _ _ _ (World.drew _);obtain⟨w3,hw3⟩:∃ w3,w2.drew=w3:=⟨_,rfl⟩;have D3:Hid (Below w1.heap.size w1 w3):=by rw[←hw3];exact D2.out.drew
 rw[hw3];clear hw3 D2;refine plan [0,2,3,4] ?_
 iterate 4
  refine tkA (v:=?_) rfl ?_ ?_;rotate_left
  ·intro w;go_simp;try with_reducible rfl
  conv in(Act.put _ _ _)=>simp only[zL1,zL2,zL3,Act.put,zL4,zL5,zL6]
 refine plan0 ?_;refine wpAny_ready (rs:=[1,5]) (by kernel_rfl) (by simp) ?_;refine(AllReady.cons rfl (fun K hK=>?_) (AllReady.cons rfl (fun K hK=>?_) AllReady.nil))
 ·go_simp
  refine(HG.out w3).mono ?_;rintro e w4 ⟨rfl,hw4⟩;subst hw4;refine hK _ _ ?_;clear hK K;refine wpAny_ready (rs:=[5]) (by kernel_rfl) (by simp) ?_;refine(AllReady.cons rfl (fun K hK=>?_) AllReady.nil);go_simp;refine hK _ _ ?_;clear hK K;refine wpAny_ready (rs:=[6]) (by kernel_rfl) (by simp) ?_;refine(AllReady.cons rfl (fun K hK=>?_) AllReady.nil);go_simp;refine(HM.out w4 9 (HT.out.below (B1.out.trans (D3.out.mono B1.out.size)) zn)).mono ?_;rintro e w5 ⟨rfl,b5⟩;have D5:Hid (Below w1.heap.size w1 w5):=D3.out.trans (b5.mono D3.out.size);clear b5 D3 HM;refine hK _ _ ?_;clear hK K;refine wpAny_ready (rs:=[7]) (by kernel_rfl) (by simp) ?_;refine(AllReady.cons rfl (fun K hK=>?_) AllReady.nil);go_simp;refine(HE.out w5).mono ?_;rintro e w6 ⟨rfl,b6⟩;have D6:Hid (Below w1.heap.size w1 w6):=D5.out.trans (b6.mono D5.out.size);clear b6 D5 HE;refine hK _ _ ?_;clear hK K;refine plan [8] ?_;refine tkA (v:=?_) rfl ?_ ?_
  rotate_left
  ·intro w;go_simp;try with_reducible rfl
  conv in(Act.put _ _ _)=>simp only[zL1,zL2,zL3,Act.put,zL4,zL5,zL6]
  refine plan0 ?_;refine wpAny_done (by kernel_rfl) ?_ _;rcases HV.out with⟨rfl,rfl,rfl⟩|⟨rfl,rfl,HV2⟩
  ·go_wp2_with fail
   refine bodyPost_ret (results_tmp2 rfl _ _ _) rfl ?_;exact⟨rfl,B1.out.trans (D6.out.mono B1.out.size)⟩
  ·have HVV:Hid _:=HV2
   clear HV2 HV;go_wp2_with fail;refine wp_region_any (by kernel_rfl) ?_;change wpAny _ _ _ _ _ _ _ (World.drew _);obtain⟨v6,hv6⟩:∃ v6,w6.drew=v6:=⟨_,rfl⟩;have E6:Hid (Below w1.heap.size w1 v6):=by rw[←hv6];exact D6.out.drew
   rw[hv6];clear hv6 D6;obtain⟨ca,cb,cc,cd⟩:=HC.out v6 E6.out;refine plan [0,3,4] ?_
   iterate 3
    refine tkA (v:=?_) rfl ?_ ?_;rotate_left
    ·intro w;go_simp;try with_reducible rfl
    conv in(Act.put _ _ _)=>simp only[zL1,zL2,zL3,Act.put,zL4,zL5,zL6]
   refine plan0 ?_;refine wpAny_ready (rs:=[1]) (by kernel_rfl) (by simp) ?_;refine(AllReady.cons rfl (fun K hK=>?_) AllReady.nil);go_simp;refine hK _ _ ?_;clear hK K;clear ca cb cc cd;refine wpAny_ready (rs:=[2]) (by kernel_rfl) (by simp) ?_;refine(AllReady.cons rfl (fun K hK=>?_) AllReady.nil);go_simp;refine(HN.out v6).mono ?_;rintro e w7 ⟨rfl,b7⟩;have D7:Hid (Below w1.heap.size w1 w7):=E6.out.trans (b7.mono E6.out.size);clear b7 E6 HN;refine hK _ _ ?_;clear hK K;refine wpAny_ready (rs:=[5]) (by kernel_rfl) (by simp) ?_;refine(AllReady.cons rfl (fun K hK=>?_) AllReady.nil);go_simp;refine(HX.out w7 (HT.out.below (B1.out.trans (D7.out.mono B1.out.size)) zn)).mono ?_;rintro e w8 ⟨rfl,b8⟩;have D8:Hid (Below w1.heap.size w1 w8):=D7.out.trans (b8.mono D7.out.size);clear b8 D7 HX;refine hK _ _ ?_;clear hK K;refine plan [6,7,8] ?_
   iterate 3
    refine tkA (v:=?_) rfl ?_ ?_;rotate_left
    ·intro w;go_simp;try with_reducible rfl
    conv in(Act.put _ _ _)=>simp only[zL1,zL2,zL3,Act.put,zL4,zL5,zL6]
   refine plan0 ?_;refine wpAny_ready (rs:=[9]) (by kernel_rfl) (by simp) ?_;refine(AllReady.cons rfl (fun K hK=>?_) AllReady.nil);go_simp;refine hK _ _ ?_;clear hK K;refine wpAny_ready (rs:=[10]) (by kernel_rfl) (by simp) ?_;refine(AllReady.cons rfl (fun K hK=>?_) AllReady.nil);go_simp;refine hK _ _ ?_;clear hK K;refine wpAny_done (by kernel_rfl) ?_ _;go_wp2_with fail;refine(HU.out w8).mono ?_;rintro e w9 ⟨rfl,b9⟩;have B9:Hid (Below w.heap.size w w9):=B1.out.trans ((D8.out.trans (b9.mono D8.out.size)).mono B1.out.size);clear b9 D8 HU;rcases HVV.out with⟨rfl,rfl⟩|⟨rfl,rfl⟩
   ·go_wp2_with fail
    refine bodyPost_ret (results_tmp2 rfl _ _ _) rfl ?_;exact⟨rfl,B9.out⟩
   ·go_wp2_with fail
    refine bodyPost_ret (results_tmp2 rfl _ _ _) rfl ?_;exact⟨rfl,B9.out⟩
 ·go_simp
  refine hK _ _ ?_;clear hK K;refine wpAny_ready (rs:=[1]) (by kernel_rfl) (by simp) ?_;refine(AllReady.cons rfl (fun K hK=>?_) AllReady.nil);go_simp;refine(HG.out _).mono ?_;rintro e w4 ⟨rfl,hw4⟩;subst hw4;refine hK _ _ ?_;clear hK K;refine wpAny_ready (rs:=[6]) (by kernel_rfl) (by simp) ?_;refine(AllReady.cons rfl (fun K hK=>?_) AllReady.nil);go_simp;refine(HM.out w3 9 (HT.out.below (B1.out.trans (D3.out.mono B1.out.size)) zn)).mono ?_;rintro e w5 ⟨rfl,b5⟩;have D5:Hid (Below w1.heap.size w1 w5):=D3.out.trans (b5.mono D3.out.size);clear b5 D3 HM;refine hK _ _ ?_;clear hK K;refine wpAny_ready (rs:=[7]) (by kernel_rfl) (by simp) ?_;refine(AllReady.cons rfl (fun K hK=>?_) AllReady.nil);go_simp;refine(HE.out w5).mono ?_;rintro e w6 ⟨rfl,b6⟩;have D6:Hid (Below w1.heap.size w1 w6):=D5.out.trans (b6.mono D5.out.size);clear b6 D5 HE;refine hK _ _ ?_;clear hK K;refine plan [8] ?_;refine tkA (v:=?_) rfl ?_ ?_
  rotate_left
  ·intro w;go_simp;try with_reducible rfl
  conv in(Act.put _ _ _)=>simp only[zL1,zL2,zL3,Act.put,zL4,zL5,zL6]
  refine plan0 ?_;refine wpAny_done (by kernel_rfl) ?_ _;rcases HV.out with⟨rfl,rfl,rfl⟩|⟨rfl,rfl,HV2⟩
  ·go_wp2_with fail
   refine bodyPost_ret (results_tmp2 rfl _ _ _) rfl ?_;exact⟨rfl,B1.out.trans (D6.out.mono B1.out.size)⟩
  ·have HVV:Hid _:=HV2
   clear HV2 HV;go_wp2_with fail;refine wp_region_any (by kernel_rfl) ?_;change wpAny _ _ _ _ _ _ _ (World.drew _);obtain⟨v6,hv6⟩:∃ v6,w6.drew=v6:=⟨_,rfl⟩;have E6:Hid (Below w1.heap.size w1 v6):=by rw[←hv6];exact D6.out.drew
   rw[hv6];clear hv6 D6;obtain⟨ca,cb,cc,cd⟩:=HC.out v6 E6.out;refine plan [0,3,4] ?_
   iterate 3
    refine tkA (v:=?_) rfl ?_ ?_;rotate_left
    ·intro w;go_simp;try with_reducible rfl
    conv in(Act.put _ _ _)=>simp only[zL1,zL2,zL3,Act.put,zL4,zL5,zL6]
   refine plan0 ?_;refine wpAny_ready (rs:=[1]) (by kernel_rfl) (by simp) ?_;refine(AllReady.cons rfl (fun K hK=>?_) AllReady.nil);go_simp;refine hK _ _ ?_;clear hK K;clear ca cb cc cd;refine wpAny_ready (rs:=[2]) (by kernel_rfl) (by simp) ?_;refine(AllReady.cons rfl (fun K hK=>?_) AllReady.nil);go_simp;refine(HN.out v6).mono ?_;rintro e w7 ⟨rfl,b7⟩;have D7:Hid (Below w1.heap.size w1 w7):=E6.out.trans (b7.mono E6.out.size);clear b7 E6 HN;refine hK _ _ ?_;clear hK K;refine wpAny_ready (rs:=[5]) (by kernel_rfl) (by simp) ?_;refine(AllReady.cons rfl (fun K hK=>?_) AllReady.nil);go_simp;refine(HX.out w7 (HT.out.below (B1.out.trans (D7.out.mono B1.out.size)) zn)).mono ?_;rintro e w8 ⟨rfl,b8⟩;have D8:Hid (Below w1.heap.size w1 w8):=D7.out.trans (b8.mono D7.out.size);clear b8 D7 HX;refine hK _ _ ?_;clear hK K;refine plan [6,7,8] ?_
   iterate 3
    refine tkA (v:=?_) rfl ?_ ?_;rotate_left
    ·intro w;go_simp;try with_reducible rfl
    conv in(Act.put _ _ _)=>simp only[zL1,zL2,zL3,Act.put,zL4,zL5,zL6]
   refine plan0 ?_;refine wpAny_ready (rs:=[9]) (by kernel_rfl) (by simp) ?_;refine(AllReady.cons rfl (fun K hK=>?_) AllReady.nil);go_simp;refine hK _ _ ?_;clear hK K;refine wpAny_ready (rs:=[10]) (by kernel_rfl) (by simp) ?_;refine(AllReady.cons rfl (fun K hK=>?_) AllReady.nil);go_simp;refine hK _ _ ?_;clear hK K;refine wpAny_done (by kernel_rfl) ?_ _;go_wp2_with fail;refine(HU.out w8).mono ?_;rintro e w9 ⟨rfl,b9⟩;have B9:Hid (Below w.heap.size w w9):=B1.out.trans ((D8.out.trans (b9.mono D8.out.size)).mono B1.out.size);clear b9 D8 HU;rcases HVV.out with⟨rfl,rfl⟩|⟨rfl,rfl⟩
   ·go_wp2_with fail
    refine bodyPost_ret (results_tmp2 rfl _ _ _) rfl ?_;exact⟨rfl,B9.out⟩
   ·go_wp2_with fail
    refine bodyPost_ret (results_tmp2 rfl _ _ _) rfl ?_;exact⟨rfl,B9.out⟩
theorem zfu (l:List Rk.Ky) (g:Int) (h:Rk.feS l g=0):Rk.zaf l=true∧Rk.zbr l g=some (Rk.fkS l g)∧(Rk.fkS l g).1=g∧Rk.zaf [Rk.fkS l g]=true:=by
 unfold Rk.feS at h;by_cases hr:Rk.zaf l=true
 ·rw[if_pos hr] at h
  cases hf:Rk.zbr l g with
  |none=>rw[hf] at h;simp at h
  |some k=>
   have e:Rk.fkS l g=k:=by unfold Rk.fkS;rw[if_pos hr,hf];rfl
   have hm:k∈l:=by unfold Rk.zbr at hf;exact List.mem_of_find?_eq_some hf
   have hg:k.1=g:=by unfold Rk.zbr at hf;simpa using List.find?_some hf
   obtain⟨i,hi⟩:=List.mem_iff_getElem?.1 hm;have:=((Rk.zd2 0 l).1 ((Rk.zbX l).1 hr).2).1 i k hi;refine⟨hr,by rw[e],by rw[e];exact hg,?_⟩;rw[e,Rk.zbX];exact⟨by simp,(Rk.zdh _ _ _).2 ⟨this.2,this.1,rfl⟩⟩
 ·rw[if_neg hr] at h;cases h
theorem zil (l:List Rk.Ky) (g:Int):Rk.feS l g=0∨Rk.feS l g=40∨Rk.feS l g=41:=by
 unfold Rk.feS;split
 ·split
  ·exact .inl rfl
  ·exact .inr (.inr rfl)
 ·exact .inr (.inl rfl)
def sE (l:List Rk.Ky) (h:Hd) (s:ByteArray):Int:=if Rk.feS l h.2.1=0 then Rp.padE s else Rk.feS l h.2.1
def sV (Kt:Nat→Int) (l:List Rk.Ky) (h:Hd) (s:ByteArray):ByteArray:=if Rk.feS l h.2.1=0∧s.size≤198 then zcB Kt (Rk.fkS l h.2.1) h (Rp.za4 s) else⟨#[]⟩
theorem zm0 (Kt:Nat→Int) (l:List Rk.Ky) (o:Option Addr) (cap:Nat) (h:Hd) (hf:fits h) (s:ByteArray) (w:World) (hr:Rk.Ring w o cap l) (hT:Tb Kt w):
  Calls Tryz.prog 94 #[.slice o l.length cap,hv h,.string s] w fun e w'=>e=.returned (.tuple #[.string (sV Kt l h s),.int .i64 (sE l h s)])∧Below w.heap.size w w':=by
 have HF:Hid (∀ W,Rk.Ring W o cap l→Calls Tryz.prog 109 #[.slice o l.length cap,.int .u32 h.2.1] W fun e w'=>e=.returned (.tuple #[Rk.kv (Rk.fkS l h.2.1),.int .i64 (Rk.feS l h.2.1)])∧Below W.heap.size W w'):=fun W hW=>Rk.zfi l h.2.1 o cap W hW
 have HB:Hid (Rk.feS l h.2.1=0→s.size≤198→∀ W,Tb Kt W→Calls Tryz.prog 138 #[Rk.kv (Rk.fkS l h.2.1),hv h,.string (Rp.za4 s)] W fun e w'=>e=.returned (.string (zcB Kt (Rk.fkS l h.2.1) h (Rp.za4 s)))∧Below W.heap.size W w'):=fun h0 hs W hW=>
  zdU Kt _ (zfu l _ h0).2.2.2 h hf _ (Rp.zcc s) W hW
 have HV:Hid ((Rk.feS l h.2.1≠0∧sE l h s=Rk.feS l h.2.1∧sV Kt l h s=⟨#[]⟩)∨(Rk.feS l h.2.1=0∧¬s.size≤198∧sE l h s=50∧sV Kt l h s=⟨#[]⟩)∨(Rk.feS l h.2.1=0∧s.size≤198∧sE l h s=0∧sV Kt l h s=zcB Kt (Rk.fkS l h.2.1) h (Rp.za4 s))):=by
  refine(?_:(Rk.feS l h.2.1≠0∧sE l h s=Rk.feS l h.2.1∧sV Kt l h s=⟨#[]⟩)∨(Rk.feS l h.2.1=0∧¬s.size≤198∧sE l h s=50∧sV Kt l h s=⟨#[]⟩)∨(Rk.feS l h.2.1=0∧s.size≤198∧sE l h s=0∧sV Kt l h s=zcB Kt (Rk.fkS l h.2.1) h (Rp.za4 s)));unfold sE sV Rp.padE;by_cases h0:Rk.feS l h.2.1=0<;>by_cases h1:s.size≤198<;>simp[h0,h1]
 have HP:Hid (∀ W,Calls Tryz.prog 137 #[.string s] W fun e w'=>e=.returned (.tuple #[.string (Rp.padV s),.int .i64 (Rp.padE s)])∧Below W.heap.size W w'):=Rp.zn6 s;have HR:Hid (Rk.Ring w o cap l):=hr;have HT:Hid (Tb Kt w):=hT;have HQ:Hid (Rk.feS l h.2.1=0∨Rk.feS l h.2.1=40∨Rk.feS l h.2.1=41):=zil l h.2.1;clear hr hT hf;generalize zcB Kt (Rk.fkS l h.2.1) h (Rp.za4 s)=bk at*
 generalize sV Kt l h s=sv at*
 generalize sE l h s=se at*
 generalize hk:Rk.fkS l h.2.1=k at*
 generalize Rk.feS l h.2.1=fe at*
 clear hk;obtain⟨kg,ks⟩:=k;obtain⟨a,b,c,d⟩:=h;unfold hv Rk.kv at*
 simp only at HF HB ⊢;go_enter Tryz.func94,Tryz.ntmps94;go_wp2_with fail;obtain⟨w1,hw1⟩:∃ w1,w.alloc (.cells #[.int .u32 a,.int .u32 b,.int .u32 c,.int .u64 d] 173)=w1:=⟨_,rfl⟩;have B1:Hid (Below w.heap.size w w1):=by rw[←hw1];exact(Below.refl _ w).alloc zn _
 have X1:Hid (w1.heap[w.heap.size]? =some (.cells #[.int .u32 a,.int .u32 b,.int .u32 c,.int .u64 d] 173 (0,0))):=by rw[←hw1];exact zq w _
 have l1:w.heap.size<w1.heap.size:=(zi X1.out).1;rw[hw1];clear hw1
 have HC:Hid (∀ W,Below w1.heap.size w1 W→W.cell? ⟨w.heap.size,0,none⟩=some (.int .u32 a)∧W.cell? ⟨w.heap.size,1,none⟩=some (.int .u32 b)∧W.cell? ⟨w.heap.size,2,none⟩=some (.int .u32 c)∧W.cell? ⟨w.heap.size,3,none⟩=some (.int .u64 d)):=fun W hB=>by
  have hV:=(hB.block _ l1).trans X1.out;exact⟨by rw[zr hV];rfl,by rw[zr hV];rfl,by rw[zr hV];rfl,by rw[zr hV];rfl⟩
 refine(HF.out w1 (HR.out.below B1.out zn)).mono ?_;rintro e w2 ⟨rfl,b2⟩;have D2:Hid (Below w1.heap.size w1 w2):=b2;clear b2 HF;rcases HV.out with⟨h0,rfl,rfl⟩|⟨rfl,h1,rfl,rfl⟩|⟨rfl,h1,rfl,rfl⟩
 ·have q0:(se !=0)=true:=by simpa using h0
  clear HV HB;go_wp2_with fail;refine bodyPost_ret (results_tmp2 rfl _ _ _) rfl ?_;exact⟨rfl,B1.out.trans ((D2.out.trans ((Below.refl _ w2).alloc zn _ |>.mono D2.out.size)).mono B1.out.size)⟩
 ·clear HV HB HQ
  go_wp2_with fail;obtain⟨w3,hw3⟩:∃ w3,w2.alloc (.cells #[.int .u32 kg,.string ks] 142)=w3:=⟨_,rfl⟩;have b3:Below w2.heap.size w2 w3:=by rw[←hw3];exact(Below.refl _ w2).alloc zn _
  have D3:Hid (Below w1.heap.size w1 w3):=D2.out.trans (b3.mono D2.out.size);rw[hw3];clear hw3 b3 D2;refine(HP.out w3).mono ?_;rw[(Rp.zhQ s h1).1,(Rp.zhQ s h1).2];rintro e w4 ⟨rfl,b4⟩;have D4:Hid (Below w1.heap.size w1 w4):=D3.out.trans (b4.mono D3.out.size);clear b4 D3 HP h1;go_wp2_with fail;refine bodyPost_ret (results_tmp2 rfl _ _ _) rfl ?_;exact⟨rfl,B1.out.trans (D4.out.mono B1.out.size)⟩
 ·have HB2:Hid _:=HB.out rfl h1
  clear HV HQ HB;go_wp2_with fail;obtain⟨w3,hw3⟩:∃ w3,w2.alloc (.cells #[.int .u32 kg,.string ks] 142)=w3:=⟨_,rfl⟩;have b3:Below w2.heap.size w2 w3:=by rw[←hw3];exact(Below.refl _ w2).alloc zn _
  have D3:Hid (Below w1.heap.size w1 w3):=D2.out.trans (b3.mono D2.out.size);have K3:Hid (w3.heap[w2.heap.size]? =some (.cells #[.int .u32 kg,.string ks] 142 (0,0))):=by rw[←hw3];exact zq w2 _
  rw[hw3];clear hw3 b3 D2;refine(HP.out w3).mono ?_;rw[(Rp.zfI s h1).1,(Rp.zfI s h1).2];rintro e w4 ⟨rfl,b4⟩;have D4:Hid (Below w1.heap.size w1 w4):=D3.out.trans (b4.mono D3.out.size);have K4:=(b4.block _ (zi K3.out).1).trans K3.out;have k0:w4.cell? ⟨w2.heap.size,0,none⟩=some (.int .u32 kg):=by rw[zr K4];rfl
  have k1:w4.cell? ⟨w2.heap.size,1,none⟩=some (.string ks):=by rw[zr K4];rfl
  clear b4 D3 HP h1 K4 K3;obtain⟨ca,cb,cc,cd⟩:=HC.out w4 D4.out;go_wp2_with fail;clear ca cb cc cd k0 k1;refine(HB2.out w4 (HT.out.below (B1.out.trans (D4.out.mono B1.out.size)) zn)).mono ?_;rintro e w5 ⟨rfl,b5⟩;have D5:Hid (Below w1.heap.size w1 w5):=D4.out.trans (b5.mono D4.out.size);clear b5 D4 HB2;go_wp2_with fail;refine bodyPost_ret (results_tmp2 rfl _ _ _) rfl ?_;exact⟨rfl,B1.out.trans (D5.out.mono B1.out.size)⟩
def hB (b:ByteArray):Hd:=gv (b.extract 0 24)
def oE (Kt:Nat→Int) (l:List Rk.Ky) (b:ByteArray):Int:=
 if Rk.zaf l=true then if b.size=256 then if gk (b.extract 0 24)=true then if Rk.feS l (hB b).2.1=0 then if tk Kt (Rk.fkS l (hB b).2.1) (hB b) b=true then 0 else 61 else Rk.feS l (hB b).2.1 else 61 else 61 else 40
def oH (Kt:Nat→Int) (l:List Rk.Ky) (b:ByteArray):Hd:=if oE Kt l b=0 then hB b else zh
def oS (Kt:Nat→Int) (l:List Rk.Ky) (b:ByteArray):ByteArray:=if oE Kt l b=0 then tv Kt (Rk.fkS l (hB b).2.1) (hB b) b else⟨#[]⟩
theorem zav {fn:Func} {p u v:Tmp} (h:fn.results=#[.cell p 173,.tmp u,.tmp v]) (tmps:Array Value) (w:World) (g:Nat) (k:Hd) {t:TypeId} {fr:Nat × Nat}
  (hp:tmps.getD p undef=.pointer (some ⟨g,0,none⟩)) (hg:w.heap[g]? =some (.cells #[.int .u32 k.1,.int .u32 k.2.1,.int .u32 k.2.2.1,.int .u64 k.2.2.2] t fr)):(results fn tmps).run Tryz.prog w=.ok (.tuple #[hv k,tmps.getD u undef,tmps.getD v undef]) w:=by
 have hp':tmps[p]?.getD undef=.pointer (some ⟨g,0,none⟩):=by simpa using hp
 simp[results,h,hp',asAddr,run_loadVar_row w g t 173 _ fr _ hg Tryz.underlying173 rfl (by kernel_rfl),hv]
theorem zm1 (Kt:Nat→Int) (l:List Rk.Ky) (o:Option Addr) (cap:Nat) (b:ByteArray) (w:World) (hr:Rk.Ring w o cap l) (hT:Tb Kt w):
  Calls Tryz.prog 200 #[.slice o l.length cap,.string b] w fun e w'=>e=.returned (.tuple #[hv (oH Kt l b),.string (oS Kt l b),.int .i64 (oE Kt l b)])∧Below w.heap.size w w':=by
 have HRi:Hid (∀ W,Rk.Ring W o cap l→Calls Tryz.prog 156 #[.slice o l.length cap] W fun e w'=>e=.returned (.bool (Rk.zaf l))∧Below W.heap.size W w'):=fun W hW=>Rk.zbU l o cap W hW
 have HG:Hid (∀ W,Calls Tryz.prog 234 #[.string (b.extract 0 24)] W fun e w'=>e=.returned (.tuple #[hv (hB b),.bool (gk (b.extract 0 24))])∧Below W.heap.size W w'):=zoT (b.extract 0 24);have HF:Hid (∀ W,Rk.Ring W o cap l→Calls Tryz.prog 109 #[.slice o l.length cap,.int .u32 (hB b).2.1] W fun e w'=>e=.returned (.tuple #[Rk.kv (Rk.fkS l (hB b).2.1),.int .i64 (Rk.feS l (hB b).2.1)])∧Below W.heap.size W w'):=fun W hW=>Rk.zfi l (hB b).2.1 o cap W hW
 have HX:Hid (Rk.feS l (hB b).2.1=0→b.size=256→∀ W,Tb Kt W→Calls Tryz.prog 235 #[Rk.kv (Rk.fkS l (hB b).2.1),hv (hB b),.string b] W fun e w'=>e=.returned (.tuple #[.string (tv Kt (Rk.fkS l (hB b).2.1) (hB b) b),.bool (tk Kt (Rk.fkS l (hB b).2.1) (hB b) b)])∧Below W.heap.size W w'):=fun h0 hs W hW=>
  zcz Kt _ (zfu l _ h0).2.2.2 (hB b) (znW _) b hs W hW
 have HQ:Hid (Rk.feS l (hB b).2.1=0∨Rk.feS l (hB b).2.1=40∨Rk.feS l (hB b).2.1=41):=zil l _;have HEX:Hid (b.size=256→∀ w,(Instr.sliceAt 9 (.string b) none (some (.int .i64 24)) none).run Tryz.prog w=.ok (.string (b.extract 0 24)) w):=fun h=>zhn b h 24 (by omega)
 have HR:Hid (Rk.Ring w o cap l):=hr;have HT:Hid (Tb Kt w):=hT
 have HV:Hid ((Rk.zaf l=false∧oE Kt l b=40∧oH Kt l b=zh∧oS Kt l b=⟨#[]⟩)∨(Rk.zaf l=true∧b.size≠256∧oE Kt l b=61∧oH Kt l b=zh∧oS Kt l b=⟨#[]⟩)∨(Rk.zaf l=true∧b.size=256∧gk (b.extract 0 24)=false∧oE Kt l b=61∧oH Kt l b=zh∧oS Kt l b=⟨#[]⟩)
  ∨(Rk.zaf l=true∧b.size=256∧gk (b.extract 0 24)=true∧Rk.feS l (hB b).2.1≠0∧oE Kt l b=Rk.feS l (hB b).2.1∧oH Kt l b=zh∧oS Kt l b=⟨#[]⟩)
  ∨(Rk.zaf l=true∧b.size=256∧gk (b.extract 0 24)=true∧Rk.feS l (hB b).2.1=0∧tk Kt (Rk.fkS l (hB b).2.1) (hB b) b=false∧oE Kt l b=61∧oH Kt l b=zh∧oS Kt l b=⟨#[]⟩)
  ∨(Rk.zaf l=true∧b.size=256∧gk (b.extract 0 24)=true∧Rk.feS l (hB b).2.1=0∧tk Kt (Rk.fkS l (hB b).2.1) (hB b) b=true∧oE Kt l b=0∧oH Kt l b=hB b∧oS Kt l b=tv Kt (Rk.fkS l (hB b).2.1) (hB b) b)):=by
  refine(?_:(_∧_)∨_);unfold oH oS oE;cases hR:Rk.zaf l
  ·left;simp
  ·right
   by_cases hz:b.size=256
   ·right
    cases hg:gk (b.extract 0 24)
    ·left;simp[hz]
    ·right
     by_cases hf:Rk.feS l (hB b).2.1=0
     ·right
      cases ht:tk Kt (Rk.fkS l (hB b).2.1) (hB b) b
      ·left;simp[hz,hf]
      ·right;simp[hz,hf]
     ·left;simp[hz,hf]
   ·left;simp[hz]
 clear hr hT;generalize tv Kt (Rk.fkS l (hB b).2.1) (hB b) b=tvv at*
 generalize tk Kt (Rk.fkS l (hB b).2.1) (hB b) b=tkk at*
 generalize hk:Rk.fkS l (hB b).2.1=k at*
 generalize Rk.feS l (hB b).2.1=fe at*
 clear hk;generalize oE Kt l b=oe at*
 generalize oS Kt l b=os at*
 generalize oH Kt l b=oh at*
 generalize hB b=hb at*
 generalize gk (b.extract 0 24)=gkk at*
 generalize b.extract 0 24=x at*
 generalize Rk.zaf l=ri at*
 obtain⟨kg,ks⟩:=k;obtain⟨a,b',c,d⟩:=hb;rcases HV.out with⟨rfl,rfl,rfl,rfl⟩|⟨rfl,hz,rfl,rfl,rfl⟩|⟨rfl,hz,rfl,rfl,rfl,rfl⟩|⟨rfl,hz,rfl,h0,rfl,rfl,rfl⟩|⟨rfl,hz,rfl,rfl,rfl,rfl,rfl,rfl⟩|⟨rfl,hz,rfl,rfl,rfl,rfl,rfl,rfl⟩
 ·clear HV
  unfold hv Rk.kv at*
  simp only at HG HF HX ⊢;go_enter Tryz.func200,Tryz.ntmps200;go_wp2_with fail;obtain⟨w1,hw1⟩:∃ w1,w.alloc (.cells #[.int .u32 0,.int .u32 0,.int .u32 0,.int .u64 0] 173)=w1:=⟨_,rfl⟩;have D1:Hid (Below w.heap.size w w1):=by rw[←hw1];exact(Below.refl _ w).alloc zn _
  have Z1:Hid (w1.heap[w.heap.size]? =some (.cells #[.int .u32 0,.int .u32 0,.int .u32 0,.int .u64 0] 173 (0,0))):=by rw[←hw1];exact zq w _
  rw[hw1];clear hw1;refine(HRi.out w1 (HR.out.below D1.out zn)).mono ?_;rintro e w2 ⟨rfl,b2⟩;have D2:Hid (Below w.heap.size w w2):=D1.out.trans (b2.mono D1.out.size);have Z2:Hid (w2.heap[w.heap.size]? =some (.cells #[.int .u32 0,.int .u32 0,.int .u32 0,.int .u64 0] 173 (0,0))):=(b2.block _ (zi Z1.out).1).trans Z1.out;clear b2 D1 Z1 HRi
  go_wp2_with (refine wpList_store_row rfl 173 _ _ rfl w.heap.size _ rfl rfl 173 _ Z2.out (by kernel_rfl) rfl (by simp[Value.oneCell']) ?_)
  refine bodyPost_ret (zav rfl _ _ w.heap.size zh rfl (setRow_heap _ _ _ _ _ _ Z2.out)) rfl ?_;exact⟨rfl,below_setRow D2.out zn _⟩
 ·clear HV
  unfold hv Rk.kv at*
  simp only at HG HF HX ⊢;go_enter Tryz.func200,Tryz.ntmps200;go_wp2_with fail;obtain⟨w1,hw1⟩:∃ w1,w.alloc (.cells #[.int .u32 0,.int .u32 0,.int .u32 0,.int .u64 0] 173)=w1:=⟨_,rfl⟩;have D1:Hid (Below w.heap.size w w1):=by rw[←hw1];exact(Below.refl _ w).alloc zn _
  have Z1:Hid (w1.heap[w.heap.size]? =some (.cells #[.int .u32 0,.int .u32 0,.int .u32 0,.int .u64 0] 173 (0,0))):=by rw[←hw1];exact zq w _
  rw[hw1];clear hw1;refine(HRi.out w1 (HR.out.below D1.out zn)).mono ?_;rintro e w2 ⟨rfl,b2⟩;have D2:Hid (Below w.heap.size w w2):=D1.out.trans (b2.mono D1.out.size);have Z2:Hid (w2.heap[w.heap.size]? =some (.cells #[.int .u32 0,.int .u32 0,.int .u32 0,.int .u64 0] 173 (0,0))):=(b2.block _ (zi Z1.out).1).trans Z1.out;clear b2 D1 Z1 HRi;have q2:((b.size:Int) !=256)=true:=by simp;omega
  go_wp2_with (refine wpList_store_row rfl 173 _ _ rfl w.heap.size _ rfl rfl 173 _ Z2.out (by kernel_rfl) rfl (by simp[Value.oneCell']) ?_)
  refine bodyPost_ret (zav rfl _ _ w.heap.size zh rfl (setRow_heap _ _ _ _ _ _ Z2.out)) rfl ?_;exact⟨rfl,below_setRow D2.out zn _⟩
 ·clear HV
  unfold hv Rk.kv at*
  simp only at HG HF HX ⊢;go_enter Tryz.func200,Tryz.ntmps200;go_wp2_with fail;obtain⟨w1,hw1⟩:∃ w1,w.alloc (.cells #[.int .u32 0,.int .u32 0,.int .u32 0,.int .u64 0] 173)=w1:=⟨_,rfl⟩;have D1:Hid (Below w.heap.size w w1):=by rw[←hw1];exact(Below.refl _ w).alloc zn _
  have Z1:Hid (w1.heap[w.heap.size]? =some (.cells #[.int .u32 0,.int .u32 0,.int .u32 0,.int .u64 0] 173 (0,0))):=by rw[←hw1];exact zq w _
  rw[hw1];clear hw1;refine(HRi.out w1 (HR.out.below D1.out zn)).mono ?_;rintro e w2 ⟨rfl,b2⟩;have D2:Hid (Below w.heap.size w w2):=D1.out.trans (b2.mono D1.out.size);have Z2:Hid (w2.heap[w.heap.size]? =some (.cells #[.int .u32 0,.int .u32 0,.int .u32 0,.int .u64 0] 173 (0,0))):=(b2.block _ (zi Z1.out).1).trans Z1.out;clear b2 D1 Z1 HRi;have q2:(b.size:Int)=256:=by omega
  have ex:=HEX.out hz;go_wp2_with fail;refine(HG.out w2).mono ?_;rintro e w3 ⟨rfl,b3⟩;have D3:Hid (Below w.heap.size w w3):=D2.out.trans (b3.mono D2.out.size);have Z3:Hid (w3.heap[w.heap.size]? =some (.cells #[.int .u32 0,.int .u32 0,.int .u32 0,.int .u64 0] 173 (0,0))):=(b3.block _ (zi Z2.out).1).trans Z2.out;clear b3 D2 Z2 HG ex;have Z3a:Hid ((w3.alloc (.cells #[.int .u32 a,.int .u32 b',.int .u32 c,.int .u64 d] 173)).heap[w.heap.size]? =some (.cells #[.int .u32 0,.int .u32 0,.int .u32 0,.int .u64 0] 173 (0,0))):=(Below.heap_alloc _ _ _ (zi Z3.out).1).trans Z3.out;have D3a:Hid (Below w.heap.size w (w3.alloc (.cells #[.int .u32 a,.int .u32 b',.int .u32 c,.int .u64 d] 173))):=D3.out.alloc D3.out.size _
  go_wp2_with (refine wpList_store_row rfl 173 _ _ rfl w.heap.size _ rfl rfl 173 _ Z3a.out (by kernel_rfl) rfl (by simp[Value.oneCell']) ?_)
  refine bodyPost_ret (zav rfl _ _ w.heap.size zh rfl (setRow_heap _ _ _ _ _ _ Z3a.out)) rfl ?_;exact⟨rfl,below_setRow D3a.out zn _⟩
 ·clear HV
  unfold hv Rk.kv at*
  simp only at HG HF HX ⊢;go_enter Tryz.func200,Tryz.ntmps200;go_wp2_with fail;obtain⟨w1,hw1⟩:∃ w1,w.alloc (.cells #[.int .u32 0,.int .u32 0,.int .u32 0,.int .u64 0] 173)=w1:=⟨_,rfl⟩;have D1:Hid (Below w.heap.size w w1):=by rw[←hw1];exact(Below.refl _ w).alloc zn _
  have Z1:Hid (w1.heap[w.heap.size]? =some (.cells #[.int .u32 0,.int .u32 0,.int .u32 0,.int .u64 0] 173 (0,0))):=by rw[←hw1];exact zq w _
  rw[hw1];clear hw1;refine(HRi.out w1 (HR.out.below D1.out zn)).mono ?_;rintro e w2 ⟨rfl,b2⟩;have D2:Hid (Below w.heap.size w w2):=D1.out.trans (b2.mono D1.out.size);have Z2:Hid (w2.heap[w.heap.size]? =some (.cells #[.int .u32 0,.int .u32 0,.int .u32 0,.int .u64 0] 173 (0,0))):=(b2.block _ (zi Z1.out).1).trans Z1.out;clear b2 D1 Z1 HRi;have q2:(b.size:Int)=256:=by omega
  have ex:=HEX.out hz;go_wp2_with fail;refine(HG.out w2).mono ?_;rintro e w3 ⟨rfl,b3⟩;have D3:Hid (Below w.heap.size w w3):=D2.out.trans (b3.mono D2.out.size);have Z3:Hid (w3.heap[w.heap.size]? =some (.cells #[.int .u32 0,.int .u32 0,.int .u32 0,.int .u64 0] 173 (0,0))):=(b3.block _ (zi Z2.out).1).trans Z2.out;clear b3 D2 Z2 HG ex;have Z3a:Hid ((w3.alloc (.cells #[.int .u32 a,.int .u32 b',.int .u32 c,.int .u64 d] 173)).heap[w.heap.size]? =some (.cells #[.int .u32 0,.int .u32 0,.int .u32 0,.int .u64 0] 173 (0,0))):=(Below.heap_alloc _ _ _ (zi Z3.out).1).trans Z3.out;have D3a:Hid (Below w.heap.size w (w3.alloc (.cells #[.int .u32 a,.int .u32 b',.int .u32 c,.int .u64 d] 173))):=D3.out.alloc D3.out.size _;go_wp2_with fail;obtain⟨v3,hv3⟩:∃ v3,w3.alloc (.cells #[.int .u32 a,.int .u32 b',.int .u32 c,.int .u64 d] 173)=v3:=⟨_,rfl⟩;have X3:Hid (v3.heap[w3.heap.size]? =some (.cells #[.int .u32 a,.int .u32 b',.int .u32 c,.int .u64 d] 173 (0,0))):=by rw[←hv3];exact zq w3 _
  rw[hv3] at Z3a D3a;rw[hv3];clear hv3 D3 Z3;refine(HF.out v3 (HR.out.below D3a.out zn)).mono ?_;rintro e w4 ⟨rfl,b4⟩;have D4:Hid (Below w.heap.size w w4):=D3a.out.trans (b4.mono D3a.out.size);have Z4:Hid (w4.heap[w.heap.size]? =some (.cells #[.int .u32 0,.int .u32 0,.int .u32 0,.int .u64 0] 173 (0,0))):=(b4.block _ (zi Z3a.out).1).trans Z3a.out;have X4:Hid (w4.heap[w3.heap.size]? =some (.cells #[.int .u32 a,.int .u32 b',.int .u32 c,.int .u64 d] 173 (0,0))):=(b4.block _ (zi X3.out).1).trans X3.out;clear b4 D3a Z3a X3 HF;have Z4a:Hid ((w4.alloc (.cells #[.int .u32 kg,.string ks] 142)).heap[w.heap.size]? =some (.cells #[.int .u32 0,.int .u32 0,.int .u32 0,.int .u64 0] 173 (0,0))):=(Below.heap_alloc _ _ _ (zi Z4.out).1).trans Z4.out;have D4a:Hid (Below w.heap.size w (w4.alloc (.cells #[.int .u32 kg,.string ks] 142))):=D4.out.alloc D4.out.size _;have q0:(oe !=0)=true:=by simpa using h0
  go_wp2_with (refine wpList_store_row rfl 173 _ _ rfl w.heap.size _ rfl rfl 173 _ Z4a.out (by kernel_rfl) rfl (by simp[Value.oneCell']) ?_)
  refine bodyPost_ret (zav rfl _ _ w.heap.size zh rfl (setRow_heap _ _ _ _ _ _ Z4a.out)) rfl ?_;exact⟨rfl,below_setRow D4a.out zn _⟩
 ·clear HV
  unfold hv Rk.kv at*
  simp only at HG HF HX ⊢;go_enter Tryz.func200,Tryz.ntmps200;go_wp2_with fail;obtain⟨w1,hw1⟩:∃ w1,w.alloc (.cells #[.int .u32 0,.int .u32 0,.int .u32 0,.int .u64 0] 173)=w1:=⟨_,rfl⟩;have D1:Hid (Below w.heap.size w w1):=by rw[←hw1];exact(Below.refl _ w).alloc zn _
  have Z1:Hid (w1.heap[w.heap.size]? =some (.cells #[.int .u32 0,.int .u32 0,.int .u32 0,.int .u64 0] 173 (0,0))):=by rw[←hw1];exact zq w _
  rw[hw1];clear hw1;refine(HRi.out w1 (HR.out.below D1.out zn)).mono ?_;rintro e w2 ⟨rfl,b2⟩;have D2:Hid (Below w.heap.size w w2):=D1.out.trans (b2.mono D1.out.size);have Z2:Hid (w2.heap[w.heap.size]? =some (.cells #[.int .u32 0,.int .u32 0,.int .u32 0,.int .u64 0] 173 (0,0))):=(b2.block _ (zi Z1.out).1).trans Z1.out;clear b2 D1 Z1 HRi;have q2:(b.size:Int)=256:=by omega
  have ex:=HEX.out hz;go_wp2_with fail;refine(HG.out w2).mono ?_;rintro e w3 ⟨rfl,b3⟩;have D3:Hid (Below w.heap.size w w3):=D2.out.trans (b3.mono D2.out.size);have Z3:Hid (w3.heap[w.heap.size]? =some (.cells #[.int .u32 0,.int .u32 0,.int .u32 0,.int .u64 0] 173 (0,0))):=(b3.block _ (zi Z2.out).1).trans Z2.out;clear b3 D2 Z2 HG ex;have Z3a:Hid ((w3.alloc (.cells #[.int .u32 a,.int .u32 b',.int .u32 c,.int .u64 d] 173)).heap[w.heap.size]? =some (.cells #[.int .u32 0,.int .u32 0,.int .u32 0,.int .u64 0] 173 (0,0))):=(Below.heap_alloc _ _ _ (zi Z3.out).1).trans Z3.out;have D3a:Hid (Below w.heap.size w (w3.alloc (.cells #[.int .u32 a,.int .u32 b',.int .u32 c,.int .u64 d] 173))):=D3.out.alloc D3.out.size _;go_wp2_with fail;obtain⟨v3,hv3⟩:∃ v3,w3.alloc (.cells #[.int .u32 a,.int .u32 b',.int .u32 c,.int .u64 d] 173)=v3:=⟨_,rfl⟩;have X3:Hid (v3.heap[w3.heap.size]? =some (.cells #[.int .u32 a,.int .u32 b',.int .u32 c,.int .u64 d] 173 (0,0))):=by rw[←hv3];exact zq w3 _
  rw[hv3] at Z3a D3a;rw[hv3];clear hv3 D3 Z3;refine(HF.out v3 (HR.out.below D3a.out zn)).mono ?_;rintro e w4 ⟨rfl,b4⟩;have D4:Hid (Below w.heap.size w w4):=D3a.out.trans (b4.mono D3a.out.size);have Z4:Hid (w4.heap[w.heap.size]? =some (.cells #[.int .u32 0,.int .u32 0,.int .u32 0,.int .u64 0] 173 (0,0))):=(b4.block _ (zi Z3a.out).1).trans Z3a.out;have X4:Hid (w4.heap[w3.heap.size]? =some (.cells #[.int .u32 a,.int .u32 b',.int .u32 c,.int .u64 d] 173 (0,0))):=(b4.block _ (zi X3.out).1).trans X3.out;clear b4 D3a Z3a X3 HF;have Z4a:Hid ((w4.alloc (.cells #[.int .u32 kg,.string ks] 142)).heap[w.heap.size]? =some (.cells #[.int .u32 0,.int .u32 0,.int .u32 0,.int .u64 0] 173 (0,0))):=(Below.heap_alloc _ _ _ (zi Z4.out).1).trans Z4.out;have D4a:Hid (Below w.heap.size w (w4.alloc (.cells #[.int .u32 kg,.string ks] 142))):=D4.out.alloc D4.out.size _;have HX2:Hid _:=HX.out trivial hz;clear HX;have Y4:Hid ((w4.alloc (.cells #[.int .u32 kg,.string ks] 142)).heap[w3.heap.size]? =some (.cells #[.int .u32 a,.int .u32 b',.int .u32 c,.int .u64 d] 173 (0,0))):=(Below.heap_alloc _ _ _ (zi X4.out).1).trans X4.out
  have hh0:(w4.alloc (.cells #[.int .u32 kg,.string ks] 142)).cell? ⟨w3.heap.size,0,none⟩=some (.int .u32 a):=by rw[zr Y4.out];rfl
  have hh1:(w4.alloc (.cells #[.int .u32 kg,.string ks] 142)).cell? ⟨w3.heap.size,1,none⟩=some (.int .u32 b'):=by rw[zr Y4.out];rfl
  have hh2:(w4.alloc (.cells #[.int .u32 kg,.string ks] 142)).cell? ⟨w3.heap.size,2,none⟩=some (.int .u32 c):=by rw[zr Y4.out];rfl
  have hh3:(w4.alloc (.cells #[.int .u32 kg,.string ks] 142)).cell? ⟨w3.heap.size,3,none⟩=some (.int .u64 d):=by rw[zr Y4.out];rfl
  go_wp2_with (refine wpList_load_row rfl 173 _ rfl w3.heap.size rfl 173 _ (0,0) _ Y4.out Tryz.underlying173 rfl (by kernel_rfl) ?_)
  clear hh0 hh1 hh2 hh3;obtain⟨v4,hv4⟩:∃ v4,w4.alloc (.cells #[.int .u32 kg,.string ks] 142)=v4:=⟨_,rfl⟩;rw[hv4] at Z4a D4a Y4;rw[hv4];clear hv4 D4 Z4 X4;refine(HX2.out v4 (HT.out.below D4a.out zn)).mono ?_;rintro e w5 ⟨rfl,b5⟩;have D5:Hid (Below w.heap.size w w5):=D4a.out.trans (b5.mono D4a.out.size);have Z5:Hid (w5.heap[w.heap.size]? =some (.cells #[.int .u32 0,.int .u32 0,.int .u32 0,.int .u64 0] 173 (0,0))):=(b5.block _ (zi Z4a.out).1).trans Z4a.out;have X5:Hid (w5.heap[w3.heap.size]? =some (.cells #[.int .u32 a,.int .u32 b',.int .u32 c,.int .u64 d] 173 (0,0))):=(b5.block _ (zi Y4.out).1).trans Y4.out;clear b5 D4a Z4a Y4 HX2
  go_wp2_with (refine wpList_store_row rfl 173 _ _ rfl w.heap.size _ rfl rfl 173 _ Z5.out (by kernel_rfl) rfl (by simp[Value.oneCell']) ?_)
  refine bodyPost_ret (zav rfl _ _ w.heap.size zh rfl (setRow_heap _ _ _ _ _ _ Z5.out)) rfl ?_;exact⟨rfl,below_setRow D5.out zn _⟩
 ·clear HV
  unfold hv Rk.kv at*
  simp only at HG HF HX ⊢;go_enter Tryz.func200,Tryz.ntmps200;go_wp2_with fail;obtain⟨w1,hw1⟩:∃ w1,w.alloc (.cells #[.int .u32 0,.int .u32 0,.int .u32 0,.int .u64 0] 173)=w1:=⟨_,rfl⟩;have D1:Hid (Below w.heap.size w w1):=by rw[←hw1];exact(Below.refl _ w).alloc zn _
  have Z1:Hid (w1.heap[w.heap.size]? =some (.cells #[.int .u32 0,.int .u32 0,.int .u32 0,.int .u64 0] 173 (0,0))):=by rw[←hw1];exact zq w _
  rw[hw1];clear hw1;refine(HRi.out w1 (HR.out.below D1.out zn)).mono ?_;rintro e w2 ⟨rfl,b2⟩;have D2:Hid (Below w.heap.size w w2):=D1.out.trans (b2.mono D1.out.size);have Z2:Hid (w2.heap[w.heap.size]? =some (.cells #[.int .u32 0,.int .u32 0,.int .u32 0,.int .u64 0] 173 (0,0))):=(b2.block _ (zi Z1.out).1).trans Z1.out;clear b2 D1 Z1 HRi;have q2:(b.size:Int)=256:=by omega
  have ex:=HEX.out hz;go_wp2_with fail;refine(HG.out w2).mono ?_;rintro e w3 ⟨rfl,b3⟩;have D3:Hid (Below w.heap.size w w3):=D2.out.trans (b3.mono D2.out.size);have Z3:Hid (w3.heap[w.heap.size]? =some (.cells #[.int .u32 0,.int .u32 0,.int .u32 0,.int .u64 0] 173 (0,0))):=(b3.block _ (zi Z2.out).1).trans Z2.out;clear b3 D2 Z2 HG ex;have Z3a:Hid ((w3.alloc (.cells #[.int .u32 a,.int .u32 b',.int .u32 c,.int .u64 d] 173)).heap[w.heap.size]? =some (.cells #[.int .u32 0,.int .u32 0,.int .u32 0,.int .u64 0] 173 (0,0))):=(Below.heap_alloc _ _ _ (zi Z3.out).1).trans Z3.out;have D3a:Hid (Below w.heap.size w (w3.alloc (.cells #[.int .u32 a,.int .u32 b',.int .u32 c,.int .u64 d] 173))):=D3.out.alloc D3.out.size _;go_wp2_with fail;obtain⟨v3,hv3⟩:∃ v3,w3.alloc (.cells #[.int .u32 a,.int .u32 b',.int .u32 c,.int .u64 d] 173)=v3:=⟨_,rfl⟩;have X3:Hid (v3.heap[w3.heap.size]? =some (.cells #[.int .u32 a,.int .u32 b',.int .u32 c,.int .u64 d] 173 (0,0))):=by rw[←hv3];exact zq w3 _
  rw[hv3] at Z3a D3a;rw[hv3];clear hv3 D3 Z3;refine(HF.out v3 (HR.out.below D3a.out zn)).mono ?_;rintro e w4 ⟨rfl,b4⟩;have D4:Hid (Below w.heap.size w w4):=D3a.out.trans (b4.mono D3a.out.size);have Z4:Hid (w4.heap[w.heap.size]? =some (.cells #[.int .u32 0,.int .u32 0,.int .u32 0,.int .u64 0] 173 (0,0))):=(b4.block _ (zi Z3a.out).1).trans Z3a.out;have X4:Hid (w4.heap[w3.heap.size]? =some (.cells #[.int .u32 a,.int .u32 b',.int .u32 c,.int .u64 d] 173 (0,0))):=(b4.block _ (zi X3.out).1).trans X3.out;clear b4 D3a Z3a X3 HF;have Z4a:Hid ((w4.alloc (.cells #[.int .u32 kg,.string ks] 142)).heap[w.heap.size]? =some (.cells #[.int .u32 0,.int .u32 0,.int .u32 0,.int .u64 0] 173 (0,0))):=(Below.heap_alloc _ _ _ (zi Z4.out).1).trans Z4.out;have D4a:Hid (Below w.heap.size w (w4.alloc (.cells #[.int .u32 kg,.string ks] 142))):=D4.out.alloc D4.out.size _;have HX2:Hid _:=HX.out trivial hz;clear HX;have Y4:Hid ((w4.alloc (.cells #[.int .u32 kg,.string ks] 142)).heap[w3.heap.size]? =some (.cells #[.int .u32 a,.int .u32 b',.int .u32 c,.int .u64 d] 173 (0,0))):=(Below.heap_alloc _ _ _ (zi X4.out).1).trans X4.out
  have hh0:(w4.alloc (.cells #[.int .u32 kg,.string ks] 142)).cell? ⟨w3.heap.size,0,none⟩=some (.int .u32 a):=by rw[zr Y4.out];rfl
  have hh1:(w4.alloc (.cells #[.int .u32 kg,.string ks] 142)).cell? ⟨w3.heap.size,1,none⟩=some (.int .u32 b'):=by rw[zr Y4.out];rfl
  have hh2:(w4.alloc (.cells #[.int .u32 kg,.string ks] 142)).cell? ⟨w3.heap.size,2,none⟩=some (.int .u32 c):=by rw[zr Y4.out];rfl
  have hh3:(w4.alloc (.cells #[.int .u32 kg,.string ks] 142)).cell? ⟨w3.heap.size,3,none⟩=some (.int .u64 d):=by rw[zr Y4.out];rfl
  go_wp2_with (refine wpList_load_row rfl 173 _ rfl w3.heap.size rfl 173 _ (0,0) _ Y4.out Tryz.underlying173 rfl (by kernel_rfl) ?_)
  clear hh0 hh1 hh2 hh3;obtain⟨v4,hv4⟩:∃ v4,w4.alloc (.cells #[.int .u32 kg,.string ks] 142)=v4:=⟨_,rfl⟩;rw[hv4] at Z4a D4a Y4;rw[hv4];clear hv4 D4 Z4 X4;refine(HX2.out v4 (HT.out.below D4a.out zn)).mono ?_;rintro e w5 ⟨rfl,b5⟩;have D5:Hid (Below w.heap.size w w5):=D4a.out.trans (b5.mono D4a.out.size);have Z5:Hid (w5.heap[w.heap.size]? =some (.cells #[.int .u32 0,.int .u32 0,.int .u32 0,.int .u64 0] 173 (0,0))):=(b5.block _ (zi Z4a.out).1).trans Z4a.out;have X5:Hid (w5.heap[w3.heap.size]? =some (.cells #[.int .u32 a,.int .u32 b',.int .u32 c,.int .u64 d] 173 (0,0))):=(b5.block _ (zi Y4.out).1).trans Y4.out;clear b5 D4a Z4a Y4 HX2
  go_wp2_with (first|(refine wpList_load_row rfl 173 _ rfl w3.heap.size rfl 173 _ (0,0) _ X5.out Tryz.underlying173 rfl (by kernel_rfl) ?_)|(refine wpList_store_row rfl 173 _ _ rfl w.heap.size _ rfl rfl 173 _ Z5.out (by kernel_rfl) rfl (by simp[Value.oneCell']) ?_))
  refine bodyPost_ret (zav rfl _ _ w.heap.size (a,b',c,d) rfl (setRow_heap _ _ _ _ _ _ Z5.out)) rfl ?_;exact⟨rfl,below_setRow D5.out zn _⟩
theorem zfv (l:List Rk.Ky) (h:Hd) (s:ByteArray):sE l h s=0↔Rk.feS l h.2.1=0∧s.size≤198:=by
 unfold sE Rp.padE;by_cases h0:Rk.feS l h.2.1=0
 ·rw[if_pos h0]
  by_cases h1:s.size≤198
  ·simp[h0,h1]
  ·simp[h0,h1]
 ·rw[if_neg h0]
  simp[h0]
theorem zim (Kt:Nat→Int) (l:List Rk.Ky) (h:Hd) (s:ByteArray) (h0:sE l h s=0):sV Kt l h s=zcB Kt (Rk.fkS l h.2.1) h (Rp.za4 s):=by
 unfold sV;rw[if_pos ((zfv l h s).1 h0)]
theorem zin (Kt:Nat→Int) (k:Rk.Ky) (h:Hd) (s:ByteArray):BlockIs (Ra.xorS (Rk.zba Kt k) (zaO h)) (macS Kt (Rk.zbs Kt k)) (putS h) (Rp.za4 s) (zcB Kt k h (Rp.za4 s)):=
 zqa _ _ _ _ (zbI h) (by rw[Ra.zcZ,Rp.zcc]) (fun _=>zdY _ _ _)
theorem zjb (Kt:Nat→Int) (l:List Rk.Ky) (h:Hd) (hf:fits h) (s b:ByteArray) (h0:sE l h s=0) (ha:b.extract 0 224=(sV Kt l h s).extract 0 224):
  hB b=h∧gk (b.extract 0 24)=true∧Rk.feS l h.2.1=0∧Rk.zaf l=true∧zbt Kt (Rk.fkS l h.2.1) h b=Rp.za4 s∧zep Kt (Rk.fkS l h.2.1) b=decide (tagS b=tagS (sV Kt l h s)):=by
 have hI:=zin Kt (Rk.fkS l h.2.1) h s;rw[←zim Kt l h s h0] at hI;obtain⟨hfe,hsz⟩:=(zfv l h s).1 h0
 have e1:b.extract 0 24=putS h:=by
  have:=zbq b 0 224 0 24 (by omega);rw[ha,zbq _ 0 224 0 24 (by omega)] at this;exact this.symm.trans hI.head
 have e2:b.extract 24 224=Ra.xorS (Rk.zba Kt (Rk.fkS l h.2.1)) (zaO h) (Rp.za4 s):=by
  have:=zbq b 0 224 24 224 (by omega);rw[ha,zbq _ 0 224 24 224 (by omega)] at this;exact this.symm.trans hI.rest
 refine⟨by unfold hB;rw[e1];exact zpj h hf,by rw[e1];exact zny h hf,hfe,(zfu l _ hfe).1,?_,?_⟩
 ·unfold zbt
  rw[e2,Ra.zja]
 ·unfold zep
  rw[ha,←hI.tag]
theorem zbG (Kt:Nat→Int) (l:List Rk.Ky) (h:Hd) (hf:fits h) (s:ByteArray) (h0:sE l h s=0):
  (sV Kt l h s).size=256∧(sV Kt l h s).extract 0 24=putS h∧oE Kt l (sV Kt l h s)=0∧oH Kt l (sV Kt l h s)=h∧oS Kt l (sV Kt l h s)=s:=by
 have hI:=zin Kt (Rk.fkS l h.2.1) h s;rw[←zim Kt l h s h0] at hI;obtain⟨hfe,hsz⟩:=(zfv l h s).1 h0;obtain⟨k1,k2,k3,k4,k5,k6⟩:=zjb Kt l h hf s (sV Kt l h s) h0 rfl
 have kt:tk Kt (Rk.fkS l h.2.1) h (sV Kt l h s)=true:=by
  unfold tk;rw[k6,k5,Rp.zgM s hsz];simp
 have ke:oE Kt l (sV Kt l h s)=0:=by
  unfold oE;rw[if_pos k4,if_pos hI.size,if_pos k2,k1,if_pos k3,if_pos kt]
 refine⟨hI.size,hI.head,ke,by unfold oH;rw[if_pos ke,k1],?_⟩;unfold oS tv;rw[if_pos ke,k1,if_pos kt,k5,Rp.zdJ s hsz]
end Rs
end Go.Proofs.YtokfnghckpgjmaaGreatDoor
