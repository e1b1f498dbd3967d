/- The mac. -/
import Derived.Test.YtfaflomephjkgaaGreatDoorQTd
import Derived.Test.YtfaflomephjkgaaGreatDoorQH
import Derived.RegionTactic
import Derived.Test.YtfaflomephjkgaaGreatDoorPPl
set_option maxRecDepth 100000
set_option maxHeartbeats 4000000
namespace Go.Proofs.YtfaflomephjkgaaGreatDoor
open Go.RowKit Go.Lib
def catS (ts:Nat→ByteArray):Nat→ByteArray
 |0=>⟨#[]⟩
 |j+1=>catS ts j++ts j
theorem catS_size (ts:Nat→ByteArray) (n:Nat):(catS ts n).size=offs ts n:=by
 induction n with
 |zero=>rfl
 |succ n ih=>show(catS ts n++ts n).size=offs ts n+(ts n).size;rw[ByteArray.size_append,ih]
theorem catS_bt (ts:Nat→ByteArray):∀ n i,i<n→∀ j,j<(ts i).size→bt (ts i) j=bt (catS ts n) (offs ts i+j):=by
 intro n
 induction n with
 |zero=>intro i hi;omega
 |succ n ih=>
  intro i hi j hj
  show _=bt (catS ts n++ts n) (offs ts i+j)
  rw[bt_app,catS_size]
  by_cases e:i=n
  ·subst e
   rw[if_neg (by omega),show offs ts i+j - offs ts i=j by omega]
  ·have h1:offs ts (i+1)≤offs ts n:=offs_mono ts (by omega)
   have h2:offs ts (i+1)=offs ts i+(ts i).size:=rfl
   rw[if_pos (by omega)]
   exact ih i (by omega) j hj
def shaS (Kt:Nat→Int) (s:ByteArray):ByteArray:=strOfNums (dig Kt (lf IV) (bt s) s.size)
theorem shaS_size (Kt:Nat→Int) (s:ByteArray):(shaS Kt s).size=32:=by unfold shaS;rw[strOfNums_size,dig_length]
theorem kpart_size (Kt:Nat→Int) (key:ByteArray):(kpart Kt key).size=64:=by unfold kpart;rw[strOfNums_size,upto_length]
def macS (Kt:Nat→Int) (key C:ByteArray):ByteArray:=shaS Kt (msk (kpart Kt key) 92++shaS Kt (msk (kpart Kt key) 54++C))
theorem macS_size (Kt:Nat→Int) (key C:ByteArray):(macS Kt key C).size=32:=shaS_size _ _
theorem add_cat (Kt:Nat→Int) (len cap:Nat) (o:Option Addr) (ts:Nat→ByteArray) (C:ByteArray) (hC:catS ts len=C) (w:World) {tt:TypeId} {fr:Nat × Nat} (hK:w.heap[3]? =some (.cells (w64 Kt) tt fr))
  (hL:C.size≤1000000000000) (hlen:len≤1099511627776)
  (hts:∀ i,i<len→∃ b off,o=some ⟨b,off,none⟩∧b<w.heap.size∧w.cell? ⟨b,off+i,none⟩=some (.string (ts i))):
  Calls Tryz.prog 143 #[.slice o len cap] w fun e w'=>e=.returned (.string (shaS Kt C))∧Below w.heap.size w w':=by
 have hz:C.size=offs ts len:=by rw[←hC];exact catS_size ts len
 refine(add_any Kt (bt C) (bt_range C) len cap o ts w hK (by omega) hlen fun i hi=>⟨hts i hi,fun j hj=>by rw[←hC];exact catS_bt ts len i hi j hj⟩).mono ?_
 rintro e w' ⟨rfl,h⟩
 exact⟨by unfold shaS;rw[hz],h⟩
theorem info9:(Tryz.prog.info? 9).map (fun i=>(i.zero,i.size,i.bytes))=some (some (.string ⟨#[]⟩),1,16):=by kernel_rfl
def ahead (x:ByteArray) (ts:Nat→ByteArray):Nat→ByteArray
 |0=>x
 |i+1=>ts i
theorem cat_ahead (x:ByteArray) (ts:Nat→ByteArray) (n:Nat):catS (ahead x ts) (n+1)=x++catS ts n:=by
 induction n with
 |zero=>apply ByteArray.ext;simp[catS,ahead]
 |succ n ih=>
  show catS (ahead x ts) (n+1)++ts n=x++(catS ts n++ts n)
  rw[ih,app_assoc]
theorem app_texts (W:World) (B:Nat) (x:ByteArray) (hB:W.heap[B]? =some (.cells #[.string x] 9 (0,0))) (o:Option Addr) (len cap:Nat) (ho:o=none→len=0∧cap=0) (ts:Nat→ByteArray) (hlen:len≤1000000)
  (hts:∀ i,i<len→∃ b off,o=some ⟨b,off,none⟩∧b<W.heap.size∧W.cell? ⟨b,off+i,none⟩=some (.string (ts i))) (ty:TypeId):
  ∃ p c W',(Builtin.append_ #[36,36] ty #[.slice (some ⟨B,0,none⟩) 1 1,.slice o len cap]).run Tryz.prog W=.ok (.slice (some ⟨p,0,none⟩) (len+1) c) W'∧p<W'.heap.size∧Below B W W'∧∀ i,i<len+1→W'.cell? ⟨p,i,none⟩=some (.string (ahead x ts i)):=by
 obtain⟨i0,hi,hz0,hz1,hz2⟩:=info_parts info9
 have hBl:B<W.heap.size:=(Array.getElem?_eq_some_iff.1 hB).1
 cases o with
 |none=>
  obtain⟨rfl,rfl⟩:=ho rfl
  refine⟨B,1,W,?_,hBl,Below.refl _ _,fun i hi=>?_⟩
  ·simp[Builtin.append_,run_underlying Tryz.underlying36,sizeOf,typeInfo,hi,Builtin.lenOf,Builtin.firstCells,loadCells,storeCells]
  ·obtain rfl:i=0:=by omega
   rw[cell_of_row _ _ _ _ _ _ hB];rfl
 |some a=>
  have hown:W.ownsRow B 9 1 (.slice (some ⟨B,0,none⟩) 1 1) 1 [.string x]:=⟨rfl,.inr ⟨B,1,#[.string x],rfl,Nat.le_refl _,hB,Nat.le_refl _,by decide,rfl,rfl⟩⟩
  have hcat:∀ j u,((List.range len).map fun i=>Value.string (ts i))[j]? =some u→W.cell? (a.add j)=some u:=fun j u hj=>by
   have hjl:j<len:=by have:=(List.getElem?_eq_some_iff.1 hj).1;simpa using this
   obtain⟨b,off,hab,_,hc⟩:=hts j hjl
   rw[Option.some.inj hab,Addr.add_lit,hc]
   simpa [hjl] using hj
  obtain⟨v',W',hr,ho',hg,_,_⟩:=run_append_own_at (P:=Tryz.prog) W B 36 ty 9 i0 (.string ⟨#[]⟩) 1 16 Tryz.underlying36 hi hz0 hz1 hz2 rfl (by decide) _ 1 _ hown a len cap ((List.range len).map fun i=>Value.string (ts i)) (by simp) hcat (fun u hu=>by obtain⟨i,_,rfl⟩:=List.mem_map.1 hu;rfl) (by unfold maxLen;omega) (by omega) (Nat.le_of_lt hBl)
  obtain⟨p,c,hv⟩:∃ p c,v'=.slice (some ⟨p,0,none⟩) (1+len) c:=by
   rcases ho'.2 with⟨_,h0⟩|⟨p,c,_,h,_⟩
   ·omega
   ·exact⟨p,c,h⟩
  subst hv
  refine⟨p,c,W',by rw[hr,Nat.add_comm],own_lt ho',grown_below hg (Nat.le_refl _) (Nat.le_of_lt hBl),fun i hi'=>own_cell ho' ?_⟩
  match i,hi' with
  |0,_=>rfl
  |i+1,h=>simp[ahead,show i<len by omega]
theorem mac_any (Kt:Nat→Int) (key:ByteArray) (hk:key.size≤1000000) (len cap:Nat) (o:Option Addr) (ho:o=none→len=0∧cap=0) (ts:Nat→ByteArray) (C:ByteArray) (hC:catS ts len=C) (w:World) {tt:TypeId} {fr:Nat × Nat} (hK:w.heap[3]? =some (.cells (w64 Kt) tt fr))
  (hL:C.size≤1000000000) (hlen:len≤1000000) (hts:∀ i,i<len→∃ b off,o=some ⟨b,off,none⟩∧b<w.heap.size∧w.cell? ⟨b,off+i,none⟩=some (.string (ts i))):
  Calls Tryz.prog 119 #[.string key,.slice o len cap] w fun e w'=>e=.returned (.string (macS Kt key C))∧Below w.heap.size w w':=by
 have h1l:3<w.heap.size:=(Array.getElem?_eq_some_iff.1 hK).1
 have HK:Hid (w.heap[3]? =some (.cells (w64 Kt) tt fr)):=hK
 have HTS:Hid (∀ i,i<len→∃ b off,o=some ⟨b,off,none⟩∧b<w.heap.size∧w.cell? ⟨b,off+i,none⟩=some (.string (ts i))):=hts
 have HO:Hid (o=none→len=0∧cap=0):=ho
 have HC:Hid (catS ts len=C):=hC
 have HM:Hid (macS Kt key C=shaS Kt (msk (kpart Kt key) 92++shaS Kt (msk (kpart Kt key) 54++C))):=rfl
 have PA:Hid (Calls Tryz.prog 141 #[.string key] w fun e w'=>e=.returned (.string (kpart Kt key))∧Below w.heap.size w w'):=part_any Kt key hk w hK
 have hps:=kpart_size Kt key
 clear hK hts ho hC
 generalize kpart Kt key=p at*
 go_enter Tryz.func119,Tryz.ntmps119
 go_wp2_with fail
 refine PA.out.mono ?_
 rintro e w1 ⟨rfl,b1⟩
 have B1:Hid (Below w.heap.size w w1):=b1
 clear b1 PA
 go_wp2_with fail
 refine(masked_any p (by omega) 54 w1).mono ?_
 rintro e w2 ⟨rfl,b2⟩
 have B2:Hid (Below w.heap.size w w2):=B1.out.trans (b2.mono B1.out.size)
 have hxs:=msk_size p 54
 clear b2 B1
 obtain⟨x,hx⟩:∃ x,msk p 54=x:=⟨_,rfl⟩
 rw[hx] at HM hxs ⊢
 clear hx
 obtain⟨W3,hW3⟩:∃ W3,w2.alloc (.cells #[.string x] 9)=W3:=⟨_,rfl⟩
 have B3:Hid (Below w.heap.size w W3):=by rw[←hW3];exact B2.out.alloc B2.out.size _
 have R3:W3.heap[w2.heap.size]? =some (.cells #[.string x] 9 (0,0)):=by rw[←hW3];exact heap_alloc_new w2 _
 obtain⟨pp,c,W4,hr4,hp4,b4,hc4⟩:=app_texts W3 w2.heap.size x R3 o len cap HO.out ts hlen (fun i hi=>by
  obtain⟨b,off,h1,h2,h3⟩:=HTS.out i hi
  exact⟨b,off,h1,Nat.lt_of_lt_of_le h2 B3.out.size,(cell_same (B3.out.block b h2) _).trans h3⟩) 36
 have B4:Hid (Below w.heap.size w W4):=B3.out.trans (b4.mono B2.out.size)
 have C4:Hid (∀ i,i<len+1→W4.cell? ⟨pp,i,none⟩=some (.string (ahead x ts i))):=hc4
 rw[←hW3] at hr4
 clear R3 hW3 b4 hc4 B3
 go_wp2_with (at_builtin;refine list_append rfl 36 36 (.tmp 11) (.tmp 12) rfl (vs:=.slice (some ⟨w2.heap.size,0,none⟩) 1 1) (vx:=.slice o len cap) rfl rfl hr4 ?_)
 refine(masked_any p (by omega) 92 W4).mono ?_
 rintro e w5 ⟨rfl,b5⟩
 have B5:Hid (Below w.heap.size w w5):=B4.out.trans (b5.mono B4.out.size)
 have C5:Hid (∀ i,i<len+1→w5.cell? ⟨pp,i,none⟩=some (.string (ahead x ts i))):=fun i hi=>(cell_same (b5.block pp hp4) _).trans (C4.out i hi)
 have hp5:pp<w5.heap.size:=Nat.lt_of_lt_of_le hp4 b5.size
 have hys:=msk_size p 92
 clear b5 B4 C4 B2 hr4
 obtain⟨y,hy⟩:∃ y,msk p 92=y:=⟨_,rfl⟩
 rw[hy] at HM hys ⊢
 clear hy
 have hAC:(x++C).size=x.size+C.size:=ByteArray.size_append
 go_wp2_with fail
 refine(add_cat Kt (len+1) c (some ⟨pp,0,none⟩) (ahead x ts) (x++C) (by rw[cat_ahead,HC.out]) w5 ((B5.out.block 3 h1l).trans HK.out) (by omega) (by omega) (fun i hi=>⟨pp,0,rfl,hp5,by rw[Nat.zero_add];exact C5.out i hi⟩)).mono ?_
 rintro e w6 ⟨rfl,b6⟩
 have B6:Hid (Below w.heap.size w w6):=B5.out.trans (b6.mono B5.out.size)
 have hzs:=shaS_size Kt (x++C)
 clear b6 B5 C5
 obtain⟨z,hz⟩:∃ z,shaS Kt (x++C)=z:=⟨_,rfl⟩
 rw[hz] at HM hzs ⊢
 clear hz
 have hBC:(y++z).size=y.size+z.size:=ByteArray.size_append
 have AD:∀ T,Hid (Calls Tryz.prog 143 #[.slice (some ⟨w6.heap.size,0,none⟩) 2 2] (w6.alloc (.cells #[.string y,.string z] T)) fun e w'=>e=.returned (.string (shaS Kt (y++z)))∧Below w6.heap.size w6 w'):=fun T=>
  (add_cat Kt 2 2 (some ⟨w6.heap.size,0,none⟩) (fun i=>if i=0 then y else z) (y++z) (by apply ByteArray.ext;simp[catS]) (w6.alloc (.cells #[.string y,.string z] T)) (((below_new w6 _).block 3 (by have:=B6.out.size;omega)).trans ((B6.out.block 3 h1l).trans HK.out)) (by omega) (by decide) (fun i hi=>⟨w6.heap.size,0,rfl,by simp,by
   rw[Nat.zero_add,cell_of_row _ _ _ _ _ _ (heap_alloc_new w6 _)]
   match i,hi with
   |0,_=>rfl
   |1,_=>rfl⟩)).mono fun e w' ⟨h1,h2⟩=>⟨h1,(below_new w6 _).trans (h2.mono (by simp))⟩
 go_wp2_with fail
 refine(AD _).out.mono ?_
 rintro e w7 ⟨rfl,b7⟩
 have B7:Hid (Below w.heap.size w w7):=B6.out.trans (b7.mono B6.out.size)
 clear b7 B6 AD
 go_wp2_with fail
 go_ret
 exact⟨by rw[HM.out];rfl,B7.out⟩
theorem mac_new (Kt:Nat→Int) (key:ByteArray) (hk:key.size≤1000000) (n:Nat) (hn:n≤1000) (cs:Array Value) (T:TypeId) (ts:Nat→ByteArray) (C:ByteArray) (hC:catS ts n=C) (hL:C.size≤1000000000) (hc:∀ i,i<n→cs[i]? =some (.string (ts i))) (w:World) {tt:TypeId} {fr:Nat × Nat} (hK:w.heap[3]? =some (.cells (w64 Kt) tt fr)):
  Calls Tryz.prog 119 #[.string key,.slice (some ⟨w.heap.size,0,none⟩) n n] (w.alloc (.cells cs T)) fun e w'=>e=.returned (.string (macS Kt key C))∧Below w.heap.size w w':=by
 have h1l:3<w.heap.size:=(Array.getElem?_eq_some_iff.1 hK).1
 refine(mac_any Kt key hk n n (some ⟨w.heap.size,0,none⟩) (fun h=>by cases h) ts C hC (w.alloc (.cells cs T)) (((below_new w _).block 3 h1l).trans hK) hL (by omega) fun i hi=>⟨w.heap.size,0,rfl,by simp,?_⟩).mono fun e w' ⟨h1,h2⟩=>⟨h1,(below_new w _).trans (h2.mono (by simp))⟩
 rw[Nat.zero_add,cell_of_row _ _ _ _ _ _ (heap_alloc_new w _)]
 exact hc i hi
theorem or_zero (x y:Int) (x0:0≤x) (x1:x<256) (y0:0≤y) (y1:y<256):(bits .or .u8 x y=0↔x=0∧y=0)∧0≤bits .or .u8 x y∧bits .or .u8 x y<256:=by
 obtain⟨a,rfl⟩:=Int.eq_ofNat_of_zero_le x0
 obtain⟨b,rfl⟩:=Int.eq_ofNat_of_zero_le y0
 rw[u8_or_nat a b (by omega) (by omega)]
 have h1:a|||b<2 ^ 8:=Nat.or_lt_two_pow (by omega) (by omega)
 refine⟨?_,by omega,by omega⟩
 have h2:a|||b=0↔a=0∧b=0:=Nat.or_eq_zero_iff
 omega
theorem xor_zero (x y:Int) (x0:0≤x) (x1:x<256) (y0:0≤y) (y1:y<256):(bits .xor .u8 x y=0↔x=y)∧0≤bits .xor .u8 x y∧bits .xor .u8 x y<256:=by
 obtain⟨a,rfl⟩:=Int.eq_ofNat_of_zero_le x0
 obtain⟨b,rfl⟩:=Int.eq_ofNat_of_zero_le y0
 rw[u8_xor_nat a b (by omega) (by omega)]
 have h1:a ^^^ b<2 ^ 8:=Nat.xor_lt_two_pow (by omega) (by omega)
 refine⟨?_,by omega,by omega⟩
 have h2:a ^^^ b=0↔a=b:=by
  constructor
  ·intro h
   have e:(a ^^^ b) ^^^ b=a:=by rw[Nat.xor_assoc,Nat.xor_self,Nat.xor_zero]
   rw[h,Nat.zero_xor] at e
   exact e.symm
  ·rintro rfl
   exact Nat.xor_self _
 omega
theorem bt_same (a b:ByteArray) (hs:a.size=b.size) (h:∀ j,j<a.size→bt a j=bt b j):a=b:=by
 apply ByteArray.ext
 apply Array.ext
 ·exact hs
 ·intro i h1 h2
  have:=h i h1
  unfold bt at this
  rw[Array.getElem?_eq_getElem h1,Array.getElem?_eq_getElem h2] at this
  simp only[Option.getD_some] at this
  exact UInt8.toNat_inj.1 (by omega)
theorem equal_any (a b:ByteArray) (ha:a.size≤maxLen) (w:World):
  Calls Tryz.prog 129 #[.string a,.string b] w fun e w'=>e=.returned (.bool (decide (a=b)))∧Below w.heap.size w w':=by
 unfold maxLen at ha
 by_cases hs:a.size=b.size
 ·have q0:((a.size:Int) !=(b.size:Int))=false:=by simp[hs]
  have HS:Hid (a.size=b.size):=hs
  have hsz:(a.size:Int)≤9223372036854775807:=by omega
  clear hs
  go_enter Tryz.func129,Tryz.ntmps129
  go_wp2_with fail
  go_loopw [5,14] (fun v i wr=>∃ (k:Nat) (x:Int),k≤a.size∧v=.int .u8 x∧i=.int .i64 (k:Int)∧(x=0↔∀ j,j<k→bt a j=bt b j)∧0≤x∧x<256∧Below w.heap.size w wr) (fun _ i _=>a.size - (intOf i).toNat)
  case atStart=>exact⟨0,0,by omega,rfl,rfl,by simp,by decide,by decide,Below.refl _ _⟩
  case round=>
   obtain⟨k,x,hk,rfl,rfl,hx,x0,x1,hbe⟩:=hrel
   have HX:Hid (x=0↔∀ j,j<k→bt a j=bt b j):=hx
   have BX:Hid (Below w.heap.size w wr):=hbe
   clear hx hbe
   by_cases hlt:k<a.size
   ·have g0:(k:Int)<(a.size:Int):=by omega
    have g1:(0:Int)≤(k:Int):=by omega
    have i1:=idx_s a k hlt
    have i2:=idx_s b k (by have:=HS.out;omega)
    have ra:=bt_range a k
    have rb:=bt_range b k
    have HV:Hid (∀ j,j<k→True):=fun _ _=>trivial
    obtain⟨p,hp⟩:∃ p,bt a k=p:=⟨_,rfl⟩
    obtain⟨q,hq⟩:∃ q,bt b k=q:=⟨_,rfl⟩
    rw[hp] at i1 ra
    rw[hq] at i2 rb
    have HPQ:Hid (bt a k=p∧bt b k=q):=⟨hp,hq⟩
    have hxo:=xor_zero p q ra.1 ra.2 rb.1 rb.2
    have hoo:=or_zero x (bits .xor .u8 p q) x0 x1 hxo.2.1 hxo.2.2
    have HOO:Hid (((bits .or .u8 x (bits .xor .u8 p q)=0↔x=0∧bits .xor .u8 p q=0)∧0≤bits .or .u8 x (bits .xor .u8 p q)∧bits .or .u8 x (bits .xor .u8 p q)<256)∧(bits .xor .u8 p q=0↔p=q)):=⟨hoo,hxo.1⟩
    clear hp hq hxo hoo HV
    go_wp2_with fail
    refine wp_region_any (by kernel_rfl) ?_
    change wpAny _ _ _ _ _ _ _ (World.drew _)
    refine plan [0,1,2,3,4,5,6,7,8] ?_
    iterate 9
     refine tkA (v:=?_) rfl (by kernel_rfl) (fun _ _ _ h=>h) (by kernel_rfl) ?_ ?_
     rotate_left
     ·intro w;go_simp;try with_reducible rfl
     conv in(Act.put _ _ _)=>simp only[List.getElem_toArray,List.getElem_cons_succ,List.getElem_cons_zero,Act.put,List.setIfInBounds_toArray,List.set_cons_succ,List.set_cons_zero]
    refine plan0 ?_
    refine wpAny_ready (rs:=[9]) (by kernel_rfl) (by simp) ?_
    refine(AllReady.cons rfl (fun K hK=>?_) AllReady.nil)
    go_simp
    refine hK _ _ ?_
    clear hK K
    refine wpAny_done (by kernel_rfl) ?_ _
    go_wp2_with fail
    go_roundw
    case rel=>
     refine⟨k+1,_,hlt,rfl,by go_num,?_,HOO.out.1.2.1,HOO.out.1.2.2,BX.out.drew⟩
     rw[HOO.out.1.1,HOO.out.2,HX.out]
     obtain⟨hp,hq⟩:=HPQ.out
     constructor
     ·rintro⟨h1,h2⟩ j hj
      by_cases e:j=k
      ·subst e;rw[hp,hq,h2]
      ·exact h1 j (by omega)
     ·intro h
      exact⟨fun j hj=>h j (by omega),by rw[←hp,←hq];exact h k (by omega)⟩
    case measure=>simp[intOf];omega
   ·obtain rfl:k=a.size:=by omega
    have a0:¬(a.size:Int)<(a.size:Int):=by omega
    have hfin:(x==0)=decide (a=b):=by
     by_cases e:a=b
     ·subst e
      have:x=0:=HX.out.2 (fun j _=>rfl)
      simp[this]
     ·have:¬x=0:=fun h0=>e (bt_same a b HS.out (HX.out.1 h0))
      simp[this,e]
    have HF:Hid ((x==0)=decide (a=b)):=hfin
    clear hfin
    go_wp2_with fail
    go_ret
    exact⟨by rw[←HF.out];rfl,BX.out⟩
 ·have q0:((a.size:Int) !=(b.size:Int))=true:=by simp;omega
  have hd:decide (a=b)=false:=by simp;intro e;exact hs (by rw[e])
  rw[hd]
  clear hd
  go_enter Tryz.func129,Tryz.ntmps129
  go_wp2_with fail
  go_ret
  exact⟨rfl,Below.refl _ _⟩
open Go.RowKit Go.Shelf Go.Lib
attribute [local go_sem] Oper.semAt_some
def tsq (Kt:Nat→Int) (key label:ByteArray):Nat→ByteArray
 |0=>⟨#[]⟩
 |i+1=>macS Kt key (tsq Kt key label i++label++strOfNums [((i+1:Nat):Int)])
theorem tsq_size (Kt:Nat→Int) (key label:ByteArray) (i:Nat):(tsq Kt key label (i+1)).size=32:=macS_size _ _ _
theorem tsq_le (Kt:Nat→Int) (key label:ByteArray) (i:Nat):(tsq Kt key label i).size≤32:=by
 cases i with
 |zero=>exact Nat.zero_le _
 |succ i=>rw[tsq_size];exact Nat.le_refl _
def xpd (Kt:Nat→Int) (key label:ByteArray) (k:Nat):Int:=bt (tsq Kt key label (k/32+1)) (k%32)
theorem xpd_at (Kt:Nat→Int) (key label:ByteArray) (i k:Nat) (hk:k<32):xpd Kt key label (32*i+k)=bt (tsq Kt key label (i+1)) k:=by
 unfold xpd
 rw[show(32*i+k)/32=i by omega,show(32*i+k)%32=k by omega]
theorem one_new (w:World) (x:Int):(convert 98 9 (.slice (some ⟨w.heap.size,0,none⟩) 1 1)).run Tryz.prog (w.alloc (.cells #[.int .u8 x] 5))=.ok (.string (strOfNums [x])) (w.alloc (.cells #[.int .u8 x] 5)):=
 conv_new w #[.int .u8 x] [x] 1 rfl (fun i hi=>by
  match i,hi with
  |0,_=>rfl)
theorem expanded1_in (Kt:Nat→Int) (key label:ByteArray) (hk:key.size≤1000000) (hlb:label.size≤1000000) (b1 b2 N:Nat) (hN:N≤8160) (w0:World) (hb1:b1<w0.heap.size) (hb2:b2<w0.heap.size) (h1:w0.heap[b1]? =some (.cells #[.string key] 9 (0,0))) (h2:w0.heap[b2]? =some (.cells #[.string label] 9 (0,0)))
  {tt:TypeId} {fr:Nat × Nat} (hK:w0.heap[3]? =some (.cells (w64 Kt) tt fr)):
  Yields8 198 #[.pointer (some ⟨b1,0,none⟩),.pointer (some ⟨b2,0,none⟩)] (xpd Kt key label) N w0:=by
 intro l W hKq R Rx hR hRx hY hN' h0
 have h1l:3<w0.heap.size:=(Array.getElem?_eq_some_iff.1 hK).1
 have HY:Hid _:=hY
 have HN:Hid _:=hN'
 have HR:Hid _:=hR
 have HRx:Hid _:=hRx
 have H0:Hid (R 0 W):=h0
 have KB:Hid (∀ A:World,Kq w0.heap.size W A→A.heap[b1]? =some (.cells #[.string key] 9 (0,0))∧A.heap[b2]? =some (.cells #[.string label] 9 (0,0))∧A.heap[3]? =some (.cells (w64 Kt) tt fr)):=fun A hA=>
  ⟨(hKq.trans hA).2 b1 _ hb1 h1 rfl,(hKq.trans hA).2 b2 _ hb2 h2 rfl,(hKq.trans hA).2 3 _ h1l hK rfl⟩
 have hWl:w0.heap.size≤W.heap.size:=hKq.1
 clear hY hN' hR hRx h0 hKq h1 h2 hK
 refine callsIn_of_wp Tryz.func198 rfl trivial ?_ rfl
 simp only[Tryz.ntmps198,List.size_toArray,List.length_cons,List.length_nil,Nat.reduceAdd,Nat.reduceSub,Array.replicate_succ,Array.replicate_zero,List.push_toArray,List.append_toArray,List.nil_append,List.cons_append]
 gi_wp2
 gi_loopw [4,7] (fun v i wr=>∃ k:Nat,k≤255∧v=.string (tsq Kt key label k)∧i=.int .i64 (k:Int)∧R (32*k) wr∧Kq w0.heap.size W wr) (fun _ i _=>255 - natOf i)
 case atStart=>exact⟨0,by omega,rfl,rfl,H0.out,Kq.refl _ _⟩
 case round=>
  clear H0
  obtain⟨k,hk255,rfl,rfl,hRk,hKk⟩:=hrel
  have HRk:Hid (R (32*k) wr):=hRk
  have HKk:Hid (Kq w0.heap.size W wr):=hKk
  obtain⟨f1,f2,f3⟩:=KB.out wr hKk
  have c1:wr.cell? ⟨b1,0,none⟩=some (.string key):=by rw[cell_of_row _ _ _ _ _ _ f1];rfl
  have c2:wr.cell? ⟨b2,0,none⟩=some (.string label):=by rw[cell_of_row _ _ _ _ _ _ f2];rfl
  have F3:Hid (wr.heap[3]? =some (.cells (w64 Kt) tt fr)):=f3
  have k0:(0:Int)≤(k:Int):=by omega
  clear hRk hKk f1 f2 f3
  by_cases hlt:k<255
  ·have k1:(k:Int)<255:=by omega
   have hoc:=one_new wr ((k:Int)+1)
   have hts:=tsq_le Kt key label k
   have HT1:Hid (tsq Kt key label (k+1)=macS Kt key (tsq Kt key label k++label++strOfNums [(k:Int)+1])):=rfl
   have hT1s:=tsq_size Kt key label k
   have HXP:Hid (∀ j,j<32→xpd Kt key label (32*k+j)=bt (tsq Kt key label (k+1)) j):=fun j hj=>xpd_at Kt key label k j hj
   obtain⟨T1,hTT⟩:∃ T1,tsq Kt key label (k+1)=T1:=⟨_,rfl⟩
   have HTT:Hid (tsq Kt key label (k+1)=T1):=hTT
   rw[hTT] at HT1 hT1s HXP
   clear hTT
   generalize tsq Kt key label k=T0 at*
   have hos:(strOfNums [(k:Int)+1]).size=1:=strOfNums_size _
   generalize strOfNums [(k:Int)+1]=O1 at*
   have hcat:(T0++label++O1).size=T0.size+label.size+O1.size:=by rw[ByteArray.size_append,ByteArray.size_append]
   have MC:Hid (Calls Tryz.prog 119 #[.string key,.slice (some ⟨wr.heap.size+1,0,none⟩) 3 3] ((wr.alloc (.cells #[.int .u8 ((k:Int)+1)] 5)).alloc (.cells #[.string T0,.string label,.string O1] 9)) fun e w'=>e=.returned (.string T1)∧Below wr.heap.size wr w'):=by
    have hsz:(wr.alloc (.cells #[.int .u8 ((k:Int)+1)] 5)).heap.size=wr.heap.size+1:=by simp
    refine(?_:Calls Tryz.prog 119 #[.string key,.slice (some ⟨wr.heap.size+1,0,none⟩) 3 3] ((wr.alloc (.cells #[.int .u8 ((k:Int)+1)] 5)).alloc (.cells #[.string T0,.string label,.string O1] 9)) fun e w'=>e=.returned (.string T1)∧Below wr.heap.size wr w')
    rw[HT1.out,←hsz]
    refine(mac_new Kt key hk 3 (by decide) #[.string T0,.string label,.string O1] 9 (fun i=>if i=0 then T0 else if i=1 then label else O1) (T0++label++O1) (by apply ByteArray.ext;simp[catS]) (by omega) (fun i hi=>by
     match i,hi with
     |0,_=>rfl
     |1,_=>rfl
     |2,_=>rfl) (wr.alloc (.cells #[.int .u8 ((k:Int)+1)] 5)) (((below_new wr _).block 3 (by have:=HKk.out.1;omega)).trans F3.out)).mono fun e w' ⟨e1,e2⟩=>⟨e1,(below_new wr _).trans (e2.mono (by omega))⟩
   gi_wp2
   refine⟨trivial,?_⟩
   refine(callsIn_wide.2 MC.out).mono ?_
   rintro e w3 ⟨rfl,b3⟩
   have R3:Hid (R (32*k) w3):=HR.out _ wr w3 HRk.out (b3.mono HKk.out.1)
   have K3:Hid (Kq w0.heap.size W w3):=HKk.out.trans (Kq.below b3 (by have:=HKk.out.1;omega))
   clear b3 MC HRk HKk F3 c1 c2 hoc HT1 hcat
   gi_wp2
   gi_loopw [22] (fun i wx=>∃ j:Nat,j≤32∧i=.int .i64 (j:Int)∧R (32*k+j) wx∧Kq w0.heap.size W wx) (fun i _=>32 - natOf i)
   case atStart=>exact⟨0,by omega,rfl,R3.out,K3.out⟩
   case round=>
    clear R3 K3
    obtain⟨j,hj,rfl,hRj,hKj⟩:=hrel
    have HRj:Hid (R (32*k+j) wr):=hRj
    have HKj:Hid (Kq w0.heap.size W wr):=hKj
    have j0:(0:Int)≤(j:Int):=by omega
    by_cases hj32:j<32
    ·have j1:(j:Int)<32:=by omega
     have hix:=idx_s T1 j (by omega)
     obtain⟨fn,tmps,assign,body,hy,hRd⟩:=HY.out (32*k+j) wr hRj
     rw[HXP.out j hj32] at hy
     generalize bt T1 j=x at*
     clear hRj hKj
     gi_wp2
     refine hRd.mono ?_
     rintro e W6 (⟨rfl,hR6,hk6⟩|⟨rfl,hx6⟩)
     ·gi_wp2
      go_roundw
      case rel=>exact⟨j+1,hj32,by go_num,hR6,HKj.out.trans hk6⟩
      case measure=>simp[natOf];omega
     ·gi_wp2
      refine bodyPost_ret (results_none rfl _ _ _) rfl ?_
      exact⟨⟨_,rfl⟩,hx6⟩
    ·obtain rfl:j=32:=by omega
     clear hRj hKj
     gi_wp2
     go_roundw
     case rel=>exact⟨k+1,hlt,by rw[HTT.out],by go_num,HRj.out,HKj.out⟩
     case measure=>simp[natOf];omega
  ·obtain rfl:k=255:=by omega
   have hlast:=HN.out _ wr HRk.out
   omega
theorem expanded_any8 (key label:ByteArray) (w:World):
  Calls Tryz.prog 177 #[.string key,.string label] w fun e w'=>e=.returned (.func (.func 198) #[] #[.pointer (some ⟨w.heap.size,0,none⟩),.pointer (some ⟨w.heap.size+1,0,none⟩)])∧w'=(w.alloc (.cells #[.string key] 9)).alloc (.cells #[.string label] 9):=by
 go_enter Tryz.func177,Tryz.ntmps177
 go_wp2_with fail
 go_ret
 exact⟨rfl,rfl⟩
def xS (Kt:Nat→Int) (key label:ByteArray) (n:Nat):ByteArray:=strOfNums (upto (xpd Kt key label) n)
theorem xS_size (Kt:Nat→Int) (key label:ByteArray) (n:Nat):(xS Kt key label n).size=n:=by unfold xS;rw[strOfNums_size,upto_length]
theorem expand_yes (Kt:Nat→Int) (key label:ByteArray) (hk:key.size≤1000000) (hlb:label.size≤1000000) (n:Nat) (hn:n≤8160) (w:World) {tt:TypeId} {fr:Nat × Nat} (hK:w.heap[3]? =some (.cells (w64 Kt) tt fr)):
  Calls Tryz.prog 158 #[.string key,.string label,.int .i64 (n:Int)] w fun e w'=>e=.returned (.tuple #[.string (xS Kt key label n),.int .i64 0])∧Below w.heap.size w w':=by
 have FE:Hid (Calls Tryz.prog 165 #[.int .i64 (n:Int),.func (.func 198) #[] #[.pointer (some ⟨w.heap.size,0,none⟩),.pointer (some ⟨w.heap.size+1,0,none⟩)]] ((w.alloc (.cells #[.string key] 9)).alloc (.cells #[.string label] 9)) fun e w'=>e=.returned (.string (xS Kt key label n))∧Below w.heap.size w w'):=by
  obtain⟨e1,e2,hb⟩:=two_new w (.cells #[.string key] 9) (.cells #[.string label] 9)
  have h1l:3<w.heap.size:=(Array.getElem?_eq_some_iff.1 hK).1
  refine(callsIn_wide.1 (first_in 198 _ (xpd Kt key label) n (by omega) _ (enters_of Tryz.func198 (by kernel_rfl) rfl) (expanded1_in Kt key label hk hlb w.heap.size (w.heap.size+1) (max n 1) (by omega) _ (by simp;omega) (by simp) e1 e2 ((hb.block 3 h1l).trans hK)))).mono fun e w' ⟨h1,h2⟩=>⟨h1,hb.trans (h2.mono (by simp;omega))⟩
 have q1:decide ((n:Int)<0)=false:=by simp
 have q2:decide ((8160:Int)<(n:Int))=false:=by simp;omega
 generalize xS Kt key label n=X at*
 clear hK
 go_enter Tryz.func158,Tryz.ntmps158
 go_wp2_with fail
 refine(expanded_any8 key label w).mono ?_
 rintro e w1 ⟨rfl,rfl⟩
 go_wp2_with fail
 refine FE.out.mono ?_
 rintro e w2 ⟨rfl,b2⟩
 have B2:Hid (Below w.heap.size w w2):=b2
 clear b2 FE
 go_wp2_with fail
 go_ret2
 exact⟨rfl,B2.out⟩
end Go.Proofs.YtfaflomephjkgaaGreatDoor
namespace Go.Proofs.YtfaflomephjkgaaGreatDoor
open Go.RowKit Go.Lib
theorem bt_part (s:ByteArray) (k j:Nat) (hk:64*k+64≤(filS s).size) (hj:j<64):bt ((filS s).extract (64*k) (64*k+64)) j=mf (bt s) s.size (64*k+j):=by
 rw[bt_ext _ _ _ _ (by omega),bt_filS _ _ (by omega)]
theorem refSum_any (Kt:Nat→Int) (s:ByteArray) (hsz:s.size≤1000000) (w:World) {tt:TypeId} {fr:Nat × Nat} (hT:w.heap[1]? =some (.cells (w64 Kt) tt fr)):
  Calls Tryz.prog 125 #[.string s] w fun e w'=>e=.returned (.string (strOfNums (dig Kt (lf IV) (bt s) s.size)))∧Below w.heap.size w w':=by
 have h0l:1<w.heap.size:=(Array.getElem?_eq_some_iff.1 hT).1
 have HT:Hid (w.heap[1]? =some (.cells (w64 Kt) tt fr)):=hT
 have HS:Hid (s.size≤1000000):=hsz
 have FA:Hid (∀ w,Calls Tryz.prog 147 #[] w fun e w'=>e=.returned (.slice (some ⟨w.heap.size,0,none⟩) 8 8)∧w'=w.alloc (.cells (st8 (lf IV)) 32)):=first_any
 have HD:Hid (dig Kt (lf IV) (bt s) s.size=bw (hs Kt (lf IV) (mf (bt s) s.size) ((filS s).size/64)) 8):=by
  refine(?_:dig Kt (lf IV) (bt s) s.size=_);rw[filS_size];rfl
 have HZ:Hid ((filS s).size%64=0∧(filS s).size≤1000072):=by rw[filS_size];exact⟨fil_whole s.size,by have:=fil_le s.size;have:=HS.out;omega⟩
 have HBP:Hid (∀ k j,64*k+64≤(filS s).size→j<64→bt ((filS s).extract (64*k) (64*k+64)) j=mf (bt s) s.size (64*k+j)):=fun k j=>bt_part s k j
 have FL:Hid (Calls Tryz.prog 146 #[.string s] w fun e w'=>e=.returned (.string (filS s))∧Below w.heap.size w w'):=filled_any s hsz w
 clear hT hsz
 generalize filS s=f at*
 generalize lf IV=iv at*
 generalize mf (bt s) s.size=mm at*
 obtain⟨i0,hi,hz0,hz1,hz2⟩:=info_parts info5
 go_enter Tryz.func125,Tryz.ntmps125
 go_wp2_with fail
 refine FL.out.mono ?_
 rintro e w1 ⟨rfl,b1⟩
 have B1:Hid (Below w.heap.size w w1):=b1
 clear b1 FL
 go_wp2_with fail
 refine(FA.out w1).mono ?_
 rintro e w2 ⟨rfl,h2⟩
 have R2:Hid (w2.heap[w1.heap.size]? =some (.cells (st8 iv) 32 (0,0))):=by rw[h2];exact heap_alloc_new w1 _
 have B2:Hid (Below w.heap.size w w2):=by rw[h2];exact B1.out.alloc B1.out.size _
 have S2:Hid (w.heap.size≤w1.heap.size):=B1.out.size
 clear h2 B1 FA
 go_wp2_with fail
 go_loopw [4,5] (fun v i wr=>∃ (k b:Nat),64*k≤f.size∧v=.slice (some ⟨b,0,none⟩) 8 8∧i=.int .i64 (64*(k:Int))∧w.heap.size≤b∧wr.heap[b]? =some (.cells (st8 (hs Kt iv mm k)) 32 (0,0))∧Below w.heap.size w wr) (fun _ i _=>f.size - (intOf i).toNat)
 case atStart=>exact⟨0,_,by omega,rfl,rfl,S2.out,R2.out,B2.out⟩
 case round=>
  clear R2 B2 S2
  obtain⟨k,b,hk,rfl,rfl,hb,hrow,hbe⟩:=hrel
  have RX:Hid (wr.heap[b]? =some (.cells (st8 (hs Kt iv mm k)) 32 (0,0))):=hrow
  have BX:Hid (Below w.heap.size w wr):=hbe
  have hz:=HZ.out
  have k0:(0:Int)≤64*(k:Int):=by omega
  have k1:64*(k:Int)≤1000072:=by omega
  clear hrow hbe
  by_cases hlt:64*k<f.size
  ·have a1:64*(k:Int)<(f.size:Int):=by omega
   have a2:64*(k:Int)+64≤(f.size:Int):=by omega
   have hk6:64*k+64≤f.size:=by omega
   have hz6:(f.extract (64*k) (64*k+64)).size=64:=by simp;omega
   clear hz
   go_wp2_with fail
   refine(rpart_any Kt (hs Kt iv mm k) (f.extract (64*k) (64*k+64)) hz6 b wr RX.out ((BX.out.block 1 h0l).trans HT.out)).mono ?_
   rintro e w3 ⟨g',rfl,hg',hr',b3⟩
   have R3:Hid (w3.heap[g']? =some (.cells (st8 (hs Kt iv mm (k+1))) 32 (0,0))):=by
    rw[show hs Kt iv mm (k+1)=chg Kt (hs Kt iv mm k) (bt (f.extract (64*k) (64*k+64))) from(chg_congr (fun j hj=>HBP.out k j hk6 hj)).symm];exact hr'
   have B3:Hid (Below w.heap.size w w3):=BX.out.trans (b3.mono BX.out.size)
   have G3:Hid (w.heap.size≤g'):=Nat.le_trans BX.out.size hg'
   clear RX BX hr' b3 hg' hz6
   go_wp2_with fail
   go_roundw
   case rel=>exact⟨k+1,g',by omega,rfl,by go_num,G3.out,R3.out,B3.out⟩
   case measure=>simp[intOf];omega
  ·have hkk:64*k=f.size:=by omega
   have hkd:f.size/64=k:=by omega
   have a1:¬64*(k:Int)<(f.size:Int):=by omega
   rw[hkd] at HD
   have hbl:b<wr.heap.size:=(Array.getElem?_eq_some_iff.1 RX.out).1
   have hwl:w.heap.size≤wr.heap.size:=BX.out.size
   generalize hs Kt iv mm k=F at*
   clear hz HBP HZ hkd k1
   go_wp2_with fail
   obtain⟨wo,hwo⟩:∃ wo,wo=wr:=⟨_,rfl⟩
   subst hwo
   go_loopw [6,7] (fun v i wx=>∃ t:Nat,t≤8∧i=.int .i64 (t:Int)∧wx.ownsRow wo.heap.size 5 1 v (4*t) ((bw F t).map (Value.int .u8))∧Below wo.heap.size wo wx) (fun _ i _=>8 - (intOf i).toNat)
   case atStart=>exact⟨0,by omega,rfl,World.ownsRow_nil _ _ _ _,Below.refl _ _⟩
   case round=>
    obtain⟨t,ht,rfl,hown,hbw⟩:=hrel
    have HO:Hid (wr.ownsRow wo.heap.size 5 1 u6 (4*t) ((bw F t).map (Value.int .u8))):=hown
    have HB:Hid (Below wo.heap.size wo wr):=hbw
    clear hown hbw
    by_cases hlt8:t<8
    ·have t0:(0:Int)≤(t:Int):=by omega
     have t1:(t:Int)<8:=by omega
     have c0:wr.cell? ⟨b,t,none⟩=some (.int .u32 (F t)):=(cell_of_row wr b t _ _ _ ((HB.out.block b hbl).trans RX.out)).trans (st8_get F t hlt8)
     obtain⟨x,hx⟩:∃ x,F t=x:=⟨_,rfl⟩
     rw[hx] at c0
     have HX:Hid (F t=x):=hx
     have HSW:Hid (wr.cell? ⟨b,t,none⟩=some (.int .u32 x)∧True):=⟨c0,trivial⟩
     clear c0 hx
     go_wp2_with fail
     refine wp_region_held (S:=fun w'=>w'.cell? ⟨b,t,none⟩=some (.int .u32 x)∧True) (by kernel_rfl) ?_
     change wpAnyH _ _ _ _ _ _ _ _ (World.drew _)
     refine plan [0,1,2,3,4,5,6,7,8,9,10,11,12,13,14,15,16,17,18,19,20,21,22,23] ?_
     iterate 24
      refine tkH (v:=?_) rfl (by kernel_rfl) (fun _ _ _ h=>h) (by kernel_rfl) ?_ HSW.out ?_
      rotate_left
      ·rintro w ⟨c1,_⟩;go_simp;try with_reducible rfl
      conv in(Act.put _ _ _)=>simp only[List.getElem_toArray,List.getElem_cons_succ,List.getElem_cons_zero,Act.put,List.setIfInBounds_toArray,List.set_cons_succ,List.set_cons_zero]
     refine plan0 ?_
     refine readyH 24 _ (by kernel_rfl) rfl (by kernel_rfl) (fun K hK=>?_)
     go_simp
     rw[show(#[.int .u8 (IntKind.u8.wrap (x/16777216)),.int .u8 (IntKind.u8.wrap (x/65536)),.int .u8 (IntKind.u8.wrap (x/256)),.int .u8 (IntKind.u8.wrap x)]:Array Value)=#[.int .u8 (x/16777216%256),.int .u8 (x/65536%256),.int .u8 (x/256%256),.int .u8 (x%256)] by simp only[IntKind.wrap_u8]]
     obtain⟨W4,hW4⟩:∃ W,(wr.alloc (.cells #[.int .u8 (x/16777216%256),.int .u8 (x/65536%256),.int .u8 (x/256%256),.int .u8 (x%256)] 5)).drew=W:=⟨_,rfl⟩
     have B4:Hid (Below wo.heap.size wo W4):=by rw[←hW4];exact(HB.out.alloc HB.out.size _).drew
     have O4:Hid (W4.ownsRow wo.heap.size 5 1 u6 (4*t) ((bw F t).map (Value.int .u8))):=by rw[←hW4];exact(HO.out.alloc _).drew
     have N4:∀ j u,[Value.int .u8 (x/16777216%256),.int .u8 (x/65536%256),.int .u8 (x/256%256),.int .u8 (x%256)][j]? =some u→W4.cell? ((⟨wr.heap.size,0,none⟩:Addr).add j)=some u:=by rw[←hW4];exact cell_four wr _ _ _ _ 5
     have hbo:b<W4.heap.size:=Nat.lt_of_lt_of_le hbl B4.out.size
     have S4:Hid (W4.cell? ⟨b,t,none⟩=some (.int .u32 x)∧True):=⟨(cell_of_row W4 b t _ _ _ ((B4.out.block b hbl).trans RX.out)).trans (by rw[st8_get F t hlt8,HX.out]),trivial⟩
     rw[hW4]
     obtain⟨v5,W5,hr5,o5,g5,_,_⟩:=run_append_own_at (P:=Tryz.prog) W4 wo.heap.size 98 98 5 i0 (.int .u8 0) 1 1 Tryz.underlying98 hi hz0 hz1 hz2 rfl (by decide) u6 (4*t) _ O4.out ⟨wr.heap.size,0,none⟩ 4 4 [.int .u8 (x/16777216%256),.int .u8 (x/65536%256),.int .u8 (x/256%256),.int .u8 (x%256)] rfl N4 (fun u hu=>by simp at hu;rcases hu with rfl|rfl|rfl|rfl<;>rfl) (by unfold maxLen;omega) (by omega) B4.out.size
     have O5:Hid (W5.ownsRow wo.heap.size 5 1 v5 (4*(t+1)) ((bw F (t+1)).map (Value.int .u8))):=by
      show W5.ownsRow wo.heap.size 5 1 v5 (4*t+4) ((bw F t++b4 (F t)).map (Value.int .u8))
      rw[List.map_append,HX.out];exact o5
     have B5:Hid (Below wo.heap.size wo W5):=B4.out.grown g5 B4.out.size (fun k e=>(O4.out.lt k e).1)
     have S5:Hid (W5.cell? ⟨b,t,none⟩=some (.int .u32 x)∧True):=⟨(cell_of_row W5 b t _ _ _ ((B5.out.block b hbl).trans RX.out)).trans (by rw[st8_get F t hlt8,HX.out]),trivial⟩
     clear hW4 HO HB o5 g5 O4 B4 N4 HSW
     refine hK _ _ S4.out ?_
     clear hK K
     refine readyH 25 _ (by kernel_rfl) rfl (by kernel_rfl) (fun K hK=>?_)
     refine op_append 98 98 (.tmp 28) (.tmp 52) rfl rfl rfl hr5 ?_
     refine hK _ _ S5.out ?_
     clear hK K
     conv in(Act.put _ _ _)=>simp only[List.getElem_toArray,List.getElem_cons_succ,List.getElem_cons_zero,Act.put,List.setIfInBounds_toArray,List.set_cons_succ,List.set_cons_zero]
     refine readyH 26 _ (by kernel_rfl) rfl (by kernel_rfl) (fun K hK=>?_)
     go_simp
     refine hK _ _ S5.out ?_
     clear hK K
     refine wpAnyH_done (by kernel_rfl) ?_ _
     clear S4 S5
     go_wp2_with fail
     go_roundw
     case rel=>exact⟨t+1,by omega,by go_num,O5.out,B5.out⟩
     case measure=>simp[intOf];omega
    ·obtain rfl:t=8:=by omega
     have hcv:(convert 98 9 u6).run Tryz.prog wr=.ok (.string (strOfNums (bw F 8))) wr:=by
      obtain⟨p,cap,hv⟩:∃ p cap,u6=.slice (some ⟨p,0,none⟩) (4*8) cap:=by
       rcases HO.out.2 with⟨_,h0⟩|⟨p,cap,_,h,_⟩
       ·omega
       ·exact⟨p,cap,h⟩
      subst hv
      refine run_convert_bytes_arg wr 98 5 Tryz.underlying98 Tryz.underlying5 p 0 (4*8) cap (bw F 8) (by rw[bw_length]) (fun i hi=>?_) 9 Tryz.underlying9
      rw[Nat.zero_add]
      refine own_cell HO.out ?_
      rw[List.getElem?_map,List.getElem?_eq_getElem (by rw[bw_length];exact hi)]
      simp[List.getD,List.getElem?_eq_getElem (show i<(bw F 8).length by rw[bw_length];exact hi)]
     have BF:Hid (Below w.heap.size w wr):=BX.out.trans (HB.out.mono hwl)
     clear HO HB BX RX
     go_wp2_with fail
     go_ret
     exact⟨by rw[HD.out];rfl,BF.out⟩
theorem upto_congr {f g:Nat→Int} {n:Nat} (h:∀ i,i<n→f i=g i):upto f n=upto g n:=by
 unfold upto
 exact List.map_congr_left fun i hi=>h i (List.mem_range.1 hi)
theorem bt_upto (s:ByteArray) (n j:Nat) (hj:j<n):bt (strOfNums (upto (bt s) n)) j=bt s j:=by
 have hg:∀ i,(upto (bt s) n).getD i 0=if i<n then bt s i else 0:=fun i=>by
  rw[List.getD_eq_getElem?_getD]
  unfold upto
  by_cases h:i<n
  ·simp[h]
  ·simp[h]
 rw[bt_nums _ (fun i=>by rw[hg];split;exact bt_range s i;decide) j (by rw[upto_length];exact hj),hg,if_pos hj]
theorem msk_kpart (Kt:Nat→Int) (key:ByteArray) (c:Int):msk (kpart Kt key) c=strOfNums (upto (fun i=>bits .xor .u8 (bt (kp Kt key) i) c) 64):=by
 unfold msk
 rw[kpart_size]
 refine congrArg strOfNums (upto_congr fun i hi=>?_)
 unfold kpart
 rw[bt_upto _ _ _ hi]
theorem rpart3_any (Kt:Nat→Int) (key:ByteArray) (hk:key.size≤1000000) (c:Int) (w:World) {tt:TypeId} {fr:Nat × Nat} (hT:w.heap[1]? =some (.cells (w64 Kt) tt fr)):
  Calls Tryz.prog 149 #[.string key,.int .u8 c] w fun e w'=>e=.returned (.string (msk (kpart Kt key) c))∧Below w.heap.size w w':=by
 have HT:Hid (w.heap[1]? =some (.cells (w64 Kt) tt fr)):=hT
 obtain⟨i0,hi,hz0,hz1,hz2⟩:=info_parts info5
 rw[msk_kpart]
 clear hT
 by_cases h64:64<key.size
 ·have q1:(64:Int)<(key.size:Int):=by omega
  have hkp:kp Kt key=shaS Kt key:=by unfold kp;rw[if_pos h64];rfl
  have RS:Hid (Calls Tryz.prog 125 #[.string key] w fun e w'=>e=.returned (.string (shaS Kt key))∧Below w.heap.size w w'):=refSum_any Kt key hk w HT.out
  rw[hkp]
  clear hkp
  obtain⟨K,hK⟩:∃ K,shaS Kt key=K:=⟨_,rfl⟩
  have hKs:K.size=32:=by rw[←hK];exact shaS_size _ _
  rw[hK] at RS ⊢
  clear hK
  go_enter Tryz.func149,Tryz.ntmps149
  go_wp2_with fail
  refine RS.out.mono ?_
  rintro e WW ⟨rfl,b1⟩
  have B1:Hid (Below w.heap.size w WW):=b1
  clear b1 RS
  go_wp2_with fail
  go_loopw [5,6] (fun v i wr=>∃ j:Nat,j≤64∧i=.int .i64 (j:Int)∧wr.ownsRow WW.heap.size 5 1 v j ((upto (fun i=>bits .xor .u8 (bt K i) c) j).map (Value.int .u8))∧Below WW.heap.size WW wr) (fun _ i _=>64 - (intOf i).toNat)
  case atStart=>exact⟨0,by omega,rfl,World.ownsRow_nil _ _ _ _,Below.refl _ _⟩
  case round=>
   obtain⟨j,hj,rfl,hown,hbe⟩:=hrel
   have HO:Hid (wr.ownsRow WW.heap.size 5 1 u5 j ((upto (fun i=>bits .xor .u8 (bt K i) c) j).map (Value.int .u8))):=hown
   have HB:Hid (Below WW.heap.size WW wr):=hbe
   clear hown hbe
   by_cases hlt:j<64
   ·have j0:(0:Int)≤(j:Int):=by omega
    have j1:(j:Int)<64:=by omega
    obtain⟨x,hx⟩:∃ x,bt K j=x:=⟨_,rfl⟩
    have HX:Hid (bt K j=x):=hx
    obtain⟨v5,W5,hr5,o5,g5,_,_⟩:=run_append_own_at (P:=Tryz.prog) (wr.alloc (.cells #[.int .u8 (bits .xor .u8 x c)] 5)) WW.heap.size 98 98 5 i0 (.int .u8 0) 1 1 Tryz.underlying98 hi hz0 hz1 hz2 rfl (by decide) u5 j _ (HO.out.alloc _) ⟨wr.heap.size,0,none⟩ 1 1 [.int .u8 (bits .xor .u8 x c)] rfl (cell_one _ _ _) (fun u hu=>by simp at hu;subst hu;rfl) (by unfold maxLen;omega) (by omega) (by have:=HB.out.size;simp;omega)
    have O5:Hid (W5.ownsRow WW.heap.size 5 1 v5 (j+1) ((upto (fun i=>bits .xor .u8 (bt K i) c) (j+1)).map (Value.int .u8))):=by
     rw[upto_succ,List.map_append,HX.out];exact o5
    have B5:Hid (Below WW.heap.size WW W5):=(HB.out.alloc HB.out.size _).grown g5 (by have:=HB.out.size;simp;omega) (fun k e=>(HO.out.lt k e).1)
    clear o5 g5
    by_cases hk:j<K.size
    ·have k1:(j:Int)<(K.size:Int):=by omega
     have hix:=idx_s K j hk
     rw[hx] at hix
     clear hx
     go_wp2_with (at_builtin;refine list_append rfl 98 98 (.tmp 24) (.tmp 28) rfl (vs:=u5) (vx:=.slice (some ⟨wr.heap.size,0,none⟩) 1 1) rfl rfl hr5 ?_)
     go_roundw
     case rel=>exact⟨j+1,hlt,by go_num,O5.out,B5.out⟩
     case measure=>simp[intOf];omega
    ·have k1:¬(j:Int)<(K.size:Int):=by omega
     obtain rfl:x=0:=by rw[←hx];exact bt_out K j (by omega)
     clear hx
     go_wp2_with (at_builtin;refine list_append rfl 98 98 (.tmp 24) (.tmp 28) rfl (vs:=u5) (vx:=.slice (some ⟨wr.heap.size,0,none⟩) 1 1) rfl rfl hr5 ?_)
     go_roundw
     case rel=>exact⟨j+1,hlt,by go_num,O5.out,B5.out⟩
     case measure=>simp[intOf];omega
   ·obtain rfl:j=64:=by omega
    have hcv:(convert 98 9 u5).run Tryz.prog wr=.ok (.string (strOfNums (upto (fun i=>bits .xor .u8 (bt K i) c) 64))) wr:=by
     obtain⟨p,cap,hv⟩:∃ p cap,u5=.slice (some ⟨p,0,none⟩) 64 cap:=by
      rcases HO.out.2 with⟨_,h0⟩|⟨p,cap,_,h,_⟩
      ·omega
      ·exact⟨p,cap,h⟩
     subst hv
     refine run_convert_bytes_arg wr 98 5 Tryz.underlying98 Tryz.underlying5 p 0 64 cap _ (by rw[upto_length]) (fun i hi=>?_) 9 Tryz.underlying9
     rw[Nat.zero_add]
     refine own_cell HO.out ?_
     simp[upto,List.getD,hi]
    have BF:Hid (Below w.heap.size w wr):=B1.out.trans (HB.out.mono B1.out.size)
    clear HO
    go_wp2_with fail
    go_ret
    exact⟨rfl,BF.out⟩
 ·have q1:¬(64:Int)<(key.size:Int):=by omega
  have hkp:kp Kt key=key:=by unfold kp;rw[if_neg h64]
  rw[hkp]
  clear hkp
  obtain⟨K,hK⟩:∃ K,key=K:=⟨_,rfl⟩
  rw[hK] at q1 hk ⊢
  obtain⟨WW,hWW⟩:∃ WW,WW=w:=⟨_,rfl⟩
  have HW:Hid (WW=w):=hWW
  clear hK h64
  go_enter Tryz.func149,Tryz.ntmps149
  go_wp2_with fail
  rw[←hWW]
  clear hWW
  go_loopw [5,6] (fun v i wr=>∃ j:Nat,j≤64∧i=.int .i64 (j:Int)∧wr.ownsRow WW.heap.size 5 1 v j ((upto (fun i=>bits .xor .u8 (bt K i) c) j).map (Value.int .u8))∧Below WW.heap.size WW wr) (fun _ i _=>64 - (intOf i).toNat)
  case atStart=>exact⟨0,by omega,rfl,World.ownsRow_nil _ _ _ _,Below.refl _ _⟩
  case round=>
   obtain⟨j,hj,rfl,hown,hbe⟩:=hrel
   have HO:Hid (wr.ownsRow WW.heap.size 5 1 u5 j ((upto (fun i=>bits .xor .u8 (bt K i) c) j).map (Value.int .u8))):=hown
   have HB:Hid (Below WW.heap.size WW wr):=hbe
   clear hown hbe
   by_cases hlt:j<64
   ·have j0:(0:Int)≤(j:Int):=by omega
    have j1:(j:Int)<64:=by omega
    obtain⟨x,hx⟩:∃ x,bt K j=x:=⟨_,rfl⟩
    have HX:Hid (bt K j=x):=hx
    obtain⟨v5,W5,hr5,o5,g5,_,_⟩:=run_append_own_at (P:=Tryz.prog) (wr.alloc (.cells #[.int .u8 (bits .xor .u8 x c)] 5)) WW.heap.size 98 98 5 i0 (.int .u8 0) 1 1 Tryz.underlying98 hi hz0 hz1 hz2 rfl (by decide) u5 j _ (HO.out.alloc _) ⟨wr.heap.size,0,none⟩ 1 1 [.int .u8 (bits .xor .u8 x c)] rfl (cell_one _ _ _) (fun u hu=>by simp at hu;subst hu;rfl) (by unfold maxLen;omega) (by omega) (by have:=HB.out.size;simp;omega)
    have O5:Hid (W5.ownsRow WW.heap.size 5 1 v5 (j+1) ((upto (fun i=>bits .xor .u8 (bt K i) c) (j+1)).map (Value.int .u8))):=by
     rw[upto_succ,List.map_append,HX.out];exact o5
    have B5:Hid (Below WW.heap.size WW W5):=(HB.out.alloc HB.out.size _).grown g5 (by have:=HB.out.size;simp;omega) (fun k e=>(HO.out.lt k e).1)
    clear o5 g5
    by_cases hk:j<K.size
    ·have k1:(j:Int)<(K.size:Int):=by omega
     have hix:=idx_s K j hk
     rw[hx] at hix
     clear hx
     go_wp2_with (at_builtin;refine list_append rfl 98 98 (.tmp 24) (.tmp 28) rfl (vs:=u5) (vx:=.slice (some ⟨wr.heap.size,0,none⟩) 1 1) rfl rfl hr5 ?_)
     go_roundw
     case rel=>exact⟨j+1,hlt,by go_num,O5.out,B5.out⟩
     case measure=>simp[intOf];omega
    ·have k1:¬(j:Int)<(K.size:Int):=by omega
     obtain rfl:x=0:=by rw[←hx];exact bt_out K j (by omega)
     clear hx
     go_wp2_with (at_builtin;refine list_append rfl 98 98 (.tmp 24) (.tmp 28) rfl (vs:=u5) (vx:=.slice (some ⟨wr.heap.size,0,none⟩) 1 1) rfl rfl hr5 ?_)
     go_roundw
     case rel=>exact⟨j+1,hlt,by go_num,O5.out,B5.out⟩
     case measure=>simp[intOf];omega
   ·obtain rfl:j=64:=by omega
    have hcv:(convert 98 9 u5).run Tryz.prog wr=.ok (.string (strOfNums (upto (fun i=>bits .xor .u8 (bt K i) c) 64))) wr:=by
     obtain⟨p,cap,hv⟩:∃ p cap,u5=.slice (some ⟨p,0,none⟩) 64 cap:=by
      rcases HO.out.2 with⟨_,h0⟩|⟨p,cap,_,h,_⟩
      ·omega
      ·exact⟨p,cap,h⟩
     subst hv
     refine run_convert_bytes_arg wr 98 5 Tryz.underlying98 Tryz.underlying5 p 0 64 cap _ (by rw[upto_length]) (fun i hi=>?_) 9 Tryz.underlying9
     rw[Nat.zero_add]
     refine own_cell HO.out ?_
     simp[upto,List.getD,hi]
    have BF:Hid (Below w.heap.size w wr):=by rw[←HW.out];exact HB.out
    clear HO
    go_wp2_with fail
    go_ret
    exact⟨rfl,BF.out⟩
theorem refMac_any (Kt:Nat→Int) (key s:ByteArray) (hk:key.size≤1000000) (hs:s.size≤100000) (w:World) {tt:TypeId} {fr:Nat × Nat} (hT:w.heap[1]? =some (.cells (w64 Kt) tt fr)):
  Calls Tryz.prog 103 #[.string key,.string s] w fun e w'=>e=.returned (.string (macS Kt key s))∧Below w.heap.size w w':=by
 have h0l:1<w.heap.size:=(Array.getElem?_eq_some_iff.1 hT).1
 have TX:Hid (Calls Tryz.prog 126 #[.string key,.string s] w fun e w'=>∃ b,e=.returned (.slice (some ⟨b,0,none⟩) 2 2)∧w'.cell? ⟨b,1,none⟩=some (.string (msk (kpart Kt key) 92++shaS Kt (msk (kpart Kt key) 54++s)))∧Below w.heap.size w w'):=by
  have HT:Hid (w.heap[1]? =some (.cells (w64 Kt) tt fr)):=hT
  have PA:Hid (∀ (c:Int) (W:World),W.heap[1]? =some (.cells (w64 Kt) tt fr)→Calls Tryz.prog 149 #[.string key,.int .u8 c] W fun e w'=>e=.returned (.string (msk (kpart Kt key) c))∧Below W.heap.size W w'):=fun c W h=>rpart3_any Kt key hk c W h
  have hm1:(msk (kpart Kt key) 54).size=64:=by rw[msk_size,kpart_size]
  have hm2:(msk (kpart Kt key) 92).size=64:=by rw[msk_size,kpart_size]
  obtain⟨x,hx⟩:∃ x,msk (kpart Kt key) 54=x:=⟨_,rfl⟩
  obtain⟨y,hy⟩:∃ y,msk (kpart Kt key) 92=y:=⟨_,rfl⟩
  have P1:=PA.out 54
  have P2:=PA.out 92
  rw[hx] at P1 hm1 ⊢
  rw[hy] at P2 hm2 ⊢
  have H1:Hid _:=P1
  have H2:Hid _:=P2
  clear hT P1 P2 PA hx hy
  refine(?_:Calls Tryz.prog 126 #[.string key,.string s] w fun e w'=>∃ b,e=.returned (.slice (some ⟨b,0,none⟩) 2 2)∧w'.cell? ⟨b,1,none⟩=some (.string (y++shaS Kt (x++s)))∧Below w.heap.size w w')
  have z1:(x.size:Int)+(s.size:Int)≤100064:=by omega
  go_enter Tryz.func126,Tryz.ntmps126
  go_wp2_with fail
  refine(H1.out w HT.out).mono ?_
  rintro e w1 ⟨rfl,b1⟩
  have B1:Hid (Below w.heap.size w w1):=b1
  clear b1
  have hxs:(x++s).size=x.size+s.size:=ByteArray.size_append
  go_wp2_with fail
  refine(H2.out w1 ((B1.out.block 1 h0l).trans HT.out)).mono ?_
  rintro e w2 ⟨rfl,b2⟩
  have B2:Hid (Below w.heap.size w w2):=B1.out.trans (b2.mono B1.out.size)
  clear b2 B1
  go_wp2_with fail
  refine(refSum_any Kt (x++s) (by omega) w2 ((B2.out.block 1 h0l).trans HT.out)).mono ?_
  rintro e w3 ⟨rfl,b3⟩
  have B3:Hid (Below w.heap.size w w3):=B2.out.trans (b3.mono B2.out.size)
  rw[show strOfNums (dig Kt (lf IV) (bt (x++s)) (x++s).size)=shaS Kt (x++s) from rfl]
  obtain⟨z,hz⟩:∃ z,shaS Kt (x++s)=z:=⟨_,rfl⟩
  have hzs:z.size=32:=by rw[←hz];exact shaS_size _ _
  have HZ:Hid (shaS Kt (x++s)=z):=hz
  rw[hz]
  clear hz
  clear b3 B2
  have R4:Hid ((w3.alloc (.cells #[.string (x++s),.string (y++z)] 9)).cell? ⟨w3.heap.size,1,none⟩=some (.string (y++z))):=by rw[cell_of_row _ _ _ _ _ _ (heap_alloc_new w3 _)];rfl
  have B4:Hid (Below w.heap.size w (w3.alloc (.cells #[.string (x++s),.string (y++z)] 9))):=B3.out.alloc B3.out.size _
  go_wp2_with fail
  go_ret
  exact⟨w3.heap.size,rfl,by rw[HZ.out];exact R4.out,B4.out⟩
 have HT:Hid (w.heap[1]? =some (.cells (w64 Kt) tt fr)):=hT
 have HM:Hid (macS Kt key s=shaS Kt (msk (kpart Kt key) 92++shaS Kt (msk (kpart Kt key) 54++s))):=rfl
 have hms:(msk (kpart Kt key) 92++shaS Kt (msk (kpart Kt key) 54++s)).size=96:=by rw[ByteArray.size_append,msk_size,kpart_size,shaS_size]
 generalize msk (kpart Kt key) 92++shaS Kt (msk (kpart Kt key) 54++s)=M at*
 clear hT
 go_enter Tryz.func103,Tryz.ntmps103
 go_wp2_with fail
 refine TX.out.mono ?_
 rintro e w1 ⟨b,rfl,c1,b1⟩
 have B1:Hid (Below w.heap.size w w1):=b1
 clear b1 TX
 go_wp2_with fail
 refine(refSum_any Kt M (by omega) w1 ((B1.out.block 1 h0l).trans HT.out)).mono ?_
 rintro e w2 ⟨rfl,b2⟩
 have B2:Hid (Below w.heap.size w w2):=B1.out.trans (b2.mono B1.out.size)
 rw[show strOfNums (dig Kt (lf IV) (bt M) M.size)=shaS Kt M from rfl]
 generalize shaS Kt M=z at*
 clear b2 B1
 go_wp2_with fail
 go_ret
 exact⟨by rw[HM.out];rfl,B2.out⟩
def outS (Kt:Nat→Int) (key label:ByteArray):Nat→ByteArray
 |0=>⟨#[]⟩
 |j+1=>outS Kt key label j++tsq Kt key label (j+1)
theorem outS_size (Kt:Nat→Int) (key label:ByteArray) (j:Nat):(outS Kt key label j).size=32*j:=by
 induction j with
 |zero=>rfl
 |succ j ih=>show(outS Kt key label j++tsq Kt key label (j+1)).size=_;rw[ByteArray.size_append,ih,tsq_size];omega
theorem outS_bt (Kt:Nat→Int) (key label:ByteArray) (j:Nat):∀ k,k<32*j→bt (outS Kt key label j) k=xpd Kt key label k:=by
 induction j with
 |zero=>intro k hk;omega
 |succ j ih=>
  intro k hk
  show bt (outS Kt key label j++tsq Kt key label (j+1)) k=_
  rw[bt_app,outS_size]
  by_cases h:k<32*j
  ·rw[if_pos h];exact ih k h
  ·rw[if_neg h,←xpd_at Kt key label j (k - 32*j) (by omega),show 32*j+(k - 32*j)=k by omega]
theorem xpd_byte (Kt:Nat→Int) (key label:ByteArray) (k:Nat):0≤xpd Kt key label k∧xpd Kt key label k<256:=bt_range _ _
theorem outS_cut (Kt:Nat→Int) (key label:ByteArray) (j n:Nat) (h:n≤32*j):(outS Kt key label j).extract 0 n=xS Kt key label n:=by
 have hs:((outS Kt key label j).extract 0 n).size=n:=by have:=outS_size Kt key label j;simp;omega
 refine bt_same _ _ (by rw[hs,xS_size]) fun k hk=>?_
 rw[hs] at hk
 rw[bt_ext _ _ _ _ (by have:=outS_size Kt key label j;omega),Nat.zero_add,outS_bt _ _ _ _ _ (by omega)]
 unfold xS
 have hg:∀ i,(upto (xpd Kt key label) n).getD i 0=if i<n then xpd Kt key label i else 0:=fun i=>by
  rw[List.getD_eq_getElem?_getD]
  unfold upto
  by_cases h:i<n
  ·simp[h]
  ·simp[h]
 rw[bt_nums _ (fun i=>by rw[hg];split;exact xpd_byte _ _ _ _;decide) k (by rw[upto_length];exact hk),hg,if_pos hk]
theorem refExpand_yes (Kt:Nat→Int) (key label:ByteArray) (hk:key.size≤1000000) (hlb:label.size≤1000) (n:Nat) (hn:n≤8160) (w:World) {tt:TypeId} {fr:Nat × Nat} (hT:w.heap[1]? =some (.cells (w64 Kt) tt fr)):
  Calls Tryz.prog 124 #[.string key,.string label,.int .i64 (n:Int)] w fun e w'=>e=.returned (.tuple #[.string (xS Kt key label n),.int .i64 0])∧Below w.heap.size w w':=by
 have h0l:1<w.heap.size:=(Array.getElem?_eq_some_iff.1 hT).1
 have HT:Hid (w.heap[1]? =some (.cells (w64 Kt) tt fr)):=hT
 have q1:decide ((n:Int)<0)=false:=by simp
 have q2:decide ((8160:Int)<(n:Int))=false:=by simp;omega
 clear hT
 go_enter Tryz.func124,Tryz.ntmps124
 go_wp2_with fail
 go_loopw [8,9,10] (fun u v i wr=>∃ j:Nat,(j=0∨32*j<n+32)∧u=.string (outS Kt key label j)∧v=.string (tsq Kt key label j)∧i=.int .i64 ((j:Int)+1)∧Below w.heap.size w wr) (fun _ _ i _=>300 - natOf i)
 case atStart=>exact⟨0,.inl rfl,rfl,rfl,rfl,Below.refl _ _⟩
 case round=>
  obtain⟨j,hj,rfl,rfl,rfl,hbe⟩:=hrel
  have BX:Hid (Below w.heap.size w wr):=hbe
  clear hbe
  have hos:=outS_size Kt key label j
  have hts:=tsq_le Kt key label j
  have j0:(0:Int)≤(j:Int):=by omega
  by_cases hlt:32*j<n
  ·have k1:((outS Kt key label j).size:Int)<(n:Int):=by omega
   have j1:(j:Int)<255:=by omega
   have hoc:=one_new wr ((j:Int)+1)
   have HOS:Hid (outS Kt key label (j+1)=outS Kt key label j++tsq Kt key label (j+1)):=rfl
   have HT1:Hid (tsq Kt key label (j+1)=macS Kt key (tsq Kt key label j++label++strOfNums [(j:Int)+1])):=rfl
   have hT1s:=tsq_size Kt key label j
   have hOs:(outS Kt key label j).size≤8160:=by omega
   obtain⟨T1,hTT⟩:∃ T1,tsq Kt key label (j+1)=T1:=⟨_,rfl⟩
   have HTT:Hid (tsq Kt key label (j+1)=T1):=hTT
   rw[hTT] at HT1 hT1s HOS
   clear hTT hos
   generalize tsq Kt key label j=T0 at*
   generalize outS Kt key label j=O0 at*
   have hbs:(strOfNums [(j:Int)+1]).size=1:=strOfNums_size _
   generalize strOfNums [(j:Int)+1]=O1 at*
   have hcat:(T0++label++O1).size=T0.size+label.size+O1.size:=by rw[ByteArray.size_append,ByteArray.size_append]
   have hc1:(T0++label).size=T0.size+label.size:=ByteArray.size_append
   have z1:(T0.size:Int)+(label.size:Int)≤2000:=by omega
   have z2:(O0.size:Int)≤8160:=by omega
   have z3:(T0.size:Int)+(label.size:Int)+(O1.size:Int)≤2001:=by omega
   go_wp2_with fail
   have BA:Below w.heap.size w (wr.alloc (.cells #[.int .u8 ((j:Int)+1)] 5)):=BX.out.alloc BX.out.size _
   refine(refMac_any Kt key (T0++label++O1) hk (by omega) _ ((BA.block 1 h0l).trans HT.out)).mono ?_
   rintro e w3 ⟨rfl,b3⟩
   have B3:Hid (Below w.heap.size w w3):=BA.trans (b3.mono BA.size)
   rw[←HT1.out]
   have zT:(T1.size:Int)=32:=by omega
   clear b3 BA BX hoc hcat hc1
   go_wp2_with fail
   go_roundw
   case rel=>exact⟨j+1,.inr (by omega),by rw[HOS.out],by rw[HTT.out],by go_num,B3.out⟩
   case measure=>simp[natOf];omega
  ·have k1:¬((outS Kt key label j).size:Int)<(n:Int):=by omega
   have hcut:=outS_cut Kt key label j n (by omega)
   have k2:(n:Int)≤((outS Kt key label j).size:Int):=by omega
   generalize outS Kt key label j=O0 at*
   have HC:Hid (O0.extract 0 n=xS Kt key label n):=hcut
   clear hcut
   go_wp2_with fail
   go_ret2
   exact⟨by rw[←HC.out];rfl,BX.out⟩
end Go.Proofs.YtfaflomephjkgaaGreatDoor
