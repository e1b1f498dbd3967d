/- Rows in a block of their own: two of them change places. -/
import Derived.Test.YtokfnghckpgjmaaGreatDoorQGD
import Derived.Test.YtokfnghckpgjmaaGreatDoorQJAv
import Derived.Sort.AssemblyPlain
set_option maxRecDepth 100000
set_option maxHeartbeats 2000000
namespace Go.Proofs.YtokfnghckpgjmaaGreatDoor
namespace Rq
open Go.RowKit Go.Lib Go.Shelf
open Rc
theorem zfj (W:World) (g k:Nat) (v:Value) (own:Nat→Prop) (h:own g):But own W (W.setCell ⟨g,k,none⟩ v):=
 ⟨rfl,rfl,rfl,by simp[World.setCell],fun j _ hn=>Below.heap_setCell _ _ _ _ (fun e=>hn (by have e':j=g:=e;rw[e'];exact h))⟩
instance:Inhabited Rw:=⟨⟨0,0,0,⟨#[]⟩⟩⟩
def Ur (w:World) (g z:Nat) (d:Array Rw):Prop:=∃ cs,w.heap[g]? =some (.cells cs 79 (0,0))∧(cs.size=z∧d.size*4≤z)∧∀ i,i<d.size→∀ j,j<4→cs[i*4+j]? =(rc d[i]!)[j]?
theorem Ur.lt {w:World} {g z:Nat} {d:Array Rw} (h:Ur w g z d):g<w.heap.size:=by
 obtain⟨cs,h1,h2⟩:=h;exact(zi h1).1
theorem Ur.same {w w':World} {g z:Nat} {d:Array Rw} (h:Ur w g z d) (e:w'.heap[g]? =w.heap[g]?):Ur w' g z d:=by
 obtain⟨cs,h1,h2⟩:=h;exact⟨cs,e.trans h1,h2⟩
theorem Ur.cell {w:World} {g z:Nat} {d:Array Rw} (h:Ur w g z d) (i:Nat) (hi:i<d.size):
  (w.cell? ⟨g,i*4,none⟩=some (.int .u64 (d[i]!.id:Int))∧w.cell? ⟨g,i*4+1,none⟩=some (.int .u32 (d[i]!.x:Int))∧w.cell? ⟨g,i*4+2,none⟩=some (.int .u32 (d[i]!.y:Int))∧w.cell? ⟨g,i*4+3,none⟩=some (.string d[i]!.v))∧∀ k,w.frozen? ⟨g,k,none⟩=false:=by
 obtain⟨cs,h1,h2,h3⟩:=h;refine⟨⟨?_,?_,?_,?_⟩,fun k=>frozen_of_row w _ _ _ _ h1⟩
 ·rw[zr h1];exact h3 i hi 0 (by omega)
 ·rw[zr h1];exact h3 i hi 1 (by omega)
 ·rw[zr h1];exact h3 i hi 2 (by omega)
 ·rw[zr h1];exact h3 i hi 3 (by omega)
def set4 (w:World) (g i:Nat) (r:Rw):World:=(((w.setCell ⟨g,i*4,none⟩ (.int .u64 (r.id:Int))).setCell ⟨g,i*4+1,none⟩ (.int .u32 (r.x:Int))).setCell ⟨g,i*4+2,none⟩ (.int .u32 (r.y:Int))).setCell ⟨g,i*4+3,none⟩ (.string r.v)
theorem Ur.set {w:World} {g z:Nat} {d:Array Rw} (h:Ur w g z d) (i:Nat) (hi:i<d.size) (r:Rw):Ur (set4 w g i r) g z (d.setIfInBounds i r):=by
 obtain⟨cs,h1,h2,h3⟩:=h;have X1:=zx w g (i*4) _ _ (.int .u64 (r.id:Int)) h1;have X2:=zx _ g (i*4+1) _ _ (.int .u32 (r.x:Int)) X1;have X3:=zx _ g (i*4+2) _ _ (.int .u32 (r.y:Int)) X2;have X4:=zx _ g (i*4+3) _ _ (.string r.v) X3;refine⟨_,X4,⟨by simpa using h2.1,by simpa using h2.2⟩,fun k hk j hj=>?_⟩;simp only[Array.size_setIfInBounds] at hk;simp only[Array.getElem?_setIfInBounds,Array.size_setIfInBounds];by_cases e:i=k
 ·subst e
  have hs:i*4+3<cs.size:=by have:=h2.1;have:=h2.2;omega
  have er:(d.setIfInBounds i r)[i]! =r:=by simp[getElem!_pos,hk]
  rw[er];obtain rfl|rfl|rfl|rfl:j=0∨j=1∨j=2∨j=3:=by omega
  ·rw[if_neg (by omega),if_neg (by omega),if_neg (by omega),if_pos (by omega),if_pos (by omega)];rfl
  ·rw[if_neg (by omega),if_neg (by omega),if_pos (by omega),if_pos (by omega)];rfl
  ·rw[if_neg (by omega),if_pos (by omega),if_pos (by omega)];rfl
  ·rw[if_pos (by omega),if_pos (by omega)];rfl
 ·have er:(d.setIfInBounds i r)[k]! =d[k]! :=by simp[getElem!_pos,hk,e]
  rw[er,if_neg (by omega),if_neg (by omega),if_neg (by omega),if_neg (by omega)];exact h3 k hk j hj
abbrev Bg (g:Nat) (w w':World):Prop:=But (fun k=>k=g) w w'
theorem Bg.drew {g:Nat} (w:World):Bg g w w.drew:=⟨rfl,rfl,rfl,Nat.le_refl _,fun _ _ _=>rfl⟩
theorem zkC (w:World) (g i:Nat) (r:Rw):Bg g w (set4 w g i r):=
 (((zfj w g _ _ (fun k=>k=g) rfl).trans (zfj _ g _ _ (fun k=>k=g) rfl)).trans (zfj _ g _ _ (fun k=>k=g) rfl)).trans (zfj _ g _ _ (fun k=>k=g) rfl)
theorem Ur.swp {w:World} {g z:Nat} {d:Array Rw} (h:Ur w g z d) (i j:Nat) (hi:i<d.size) (hj:j<d.size):
  Ur (set4 (set4 w g i d[j]!) g j d[i]!) g z (Sort.swp d i j)∧Bg g w (set4 (set4 w g i d[j]!) g j d[i]!):=
 ⟨(h.set i hi _).set j (by simpa using hj) _,(zkC w g i _).trans (zkC _ g j _)⟩
theorem zkD {w:World} {base:Nat} {v:Value} {l:List Rw} (h:w.ownsRow base 79 4 v l.length (l.flatMap rc)) (hl:l≠[]):∃ g cap,v=.slice (some ⟨g,0,none⟩) l.length cap∧base≤g∧Ur w g (cap*4) l.toArray:=by
 rcases h.2 with⟨-,h0⟩|⟨g,cap,cur,rfl,h2,h3,h4,-,h6,h7⟩
 ·exact absurd (List.eq_nil_of_length_eq_zero h0) hl
 ·refine⟨g,cap,rfl,h2,cur,h3,⟨h6,by have:=Nat.mul_le_mul_right 4 h4;simp;omega⟩,fun i hi j hj=>?_⟩
  have hi':i<l.length:=by simpa using hi
  have e:l.toArray[i]! =l[i]:=by simp[getElem!_pos,hi']
  rw[e,←flat_get rc 4 (fun _=>rfl) l i _ (List.getElem?_eq_getElem hi') j hj,←h7,List.getElem?_take_of_lt (by omega),Array.getElem?_toList]
theorem zkE {w w':World} {base g cap:Nat} {l m:List Rw} (h:w.ownsRow base 79 4 (.slice (some ⟨g,0,none⟩) l.length cap) l.length (l.flatMap rc)) (hu:Ur w' g (cap*4) m.toArray) (hm:m.length=l.length):w'.ownsRow base 79 4 (.slice (some ⟨g,0,none⟩) m.length cap) m.length (m.flatMap rc):=by
 obtain⟨cs',k1,k2,k3⟩:=hu;rcases h.2 with⟨h0,-⟩|⟨g',cap',cur,he,h2,h3,h4,h5,h6,h7⟩
 ·cases h0
 ·cases he
  have hz:=k2.1;refine⟨zcx rc 4 (fun _=>rfl) m,.inr ⟨g,cap,cs',rfl,h2,k1,by omega,h5,by omega,?_⟩⟩;refine List.ext_getElem? fun q=>?_
  by_cases hq:q<m.length*4
  ·have hi:q/4<m.length:=by omega
   rw[List.getElem?_take_of_lt hq,Array.getElem?_toList,show q=q/4*4+q%4 by omega,k3 (q/4) (by simpa using hi) (q%4) (by omega),flat_get rc 4 (fun _=>rfl) m (q/4) _ (List.getElem?_eq_getElem hi) (q%4) (by omega)];have e:m.toArray[q/4]! =m[q/4]:=by simp[getElem!_pos,hi]
   rw[e]
  ·rw[List.getElem?_eq_none (by simp;omega),List.getElem?_eq_none (by rw[zcx rc 4 (fun _=>rfl) m];omega)]
structure Cmp (w0:World) (ok:Rw→Prop) (lt:Rw→Rw→Bool) (cf:Nat) (cb:Array Value):Prop where
 eg:∀ args w,(callFunc cf args).run Tryz.prog w=.ok (.enter cf args) w
 calls:∀ W,Below w0.heap.size w0 W→∀ a b:Rw,ok a→ok b→Calls Tryz.prog cf (#[rv a,rv b]++cb) W fun e W'=>∃ c:Int,e=.returned (.int .i64 c)∧decide (c<0)=lt a b∧Below W.heap.size W W'
section
variable (lt : Rw → Rw → Bool)
theorem zg1 (a b i:Nat) (d:Array Rw) (h:i<b):Sort.insOuter lt a b i d=Sort.insOuter lt a b (i+1) (Sort.insInner lt a i d):=by
 rw[Sort.insOuter,if_pos h]
theorem zf5 (a b i:Nat) (d:Array Rw) (h:¬i<b):Sort.insOuter lt a b i d=d:=by rw[Sort.insOuter,if_neg h]
theorem zg2 (a j:Nat) (d:Array Rw) (h:a<j+1) (hl:lt d[j+1]! d[j]! =true):Sort.insInner lt a (j+1) d=Sort.insInner lt a j (Sort.swp d (j+1) j):=by
 rw[Sort.insInner];simp only[hl,Bool.and_true];rw[if_pos (by simpa using h)]
theorem zg3 (a j:Nat) (d:Array Rw) (h:j≤a):Sort.insInner lt a j d=d:=by
 cases j with
 |zero=>rfl
 |succ j=>rw[Sort.insInner,if_neg];simp;omega
theorem zg4 (a j:Nat) (d:Array Rw) (hl:lt d[j+1]! d[j]! =false):Sort.insInner lt a (j+1) d=d:=by
 rw[Sort.insInner];simp[hl]
end
theorem zoC {w:World} {g z:Nat} {d:Array Rw} (h:Ur w g z d):Ur w.drew g z d:=h.same rfl
theorem zpM {ok:Rw→Prop} {d:Array Rw} {i j:Nat} (hi:i<d.size) (hj:j<d.size) (h:∀ k,k<d.size→ok d[k]!):∀ k,k<(Sort.swp d i j).size→ok (Sort.swp d i j)[k]! :=by
 intro k hk;simp only[Sort.swp,Array.size_setIfInBounds] at hk ⊢;by_cases e1:j=k
 ·subst e1
  have:((d.setIfInBounds i d[j]!).setIfInBounds j d[i]!)[j]! =d[i]! :=by simp[getElem!_pos,hj]
  rw[this];exact h i hi
 ·by_cases e2:i=k
  ·subst e2
   have:((d.setIfInBounds i d[j]!).setIfInBounds j d[i]!)[i]! =d[j]! :=by simp[getElem!_pos,hi,e1]
   rw[this];exact h j hj
  ·have:((d.setIfInBounds i d[j]!).setIfInBounds j d[i]!)[k]! =d[k]! :=by simp[getElem!_pos,hk,e1,e2]
   rw[this];exact h k hk
def TwoR (g i:Nat) (r s:Rw) (w:World):Prop:=(w.cell? ⟨g,i*4,none⟩=some (.int .u64 (r.id:Int))∧w.cell? ⟨g,i*4+1,none⟩=some (.int .u32 (r.x:Int))∧w.cell? ⟨g,i*4+2,none⟩=some (.int .u32 (r.y:Int))∧w.cell? ⟨g,i*4+3,none⟩=some (.string r.v))∧
 (w.cell? ⟨g,(i+1)*4,none⟩=some (.int .u64 (s.id:Int))∧w.cell? ⟨g,(i+1)*4+1,none⟩=some (.int .u32 (s.x:Int))∧w.cell? ⟨g,(i+1)*4+2,none⟩=some (.int .u32 (s.y:Int))∧w.cell? ⟨g,(i+1)*4+3,none⟩=some (.string s.v))
theorem zmF (w0:World) (ok:Rw→Prop) (lt:Rw→Rw→Bool) (cf:Nat) (cb:Array Value) (hC:Cmp w0 ok lt cf cb) (g z cap a b:Nat) (d:Array Rw) (hok:∀ i,i<d.size→ok d[i]!) (ha:a≤b) (hb:b≤d.size) (hd:d.size≤1000000) (w:World) (h:Ur w g z d) (hg:w0.heap.size≤g) (hW:Below w0.heap.size w0 w):
  Calls Tryz.prog 121 #[.slice (some ⟨g,0,none⟩) d.size cap,.int .i64 (a:Int),.int .i64 (b:Int),.func (.func cf) #[] cb] w fun e w'=>e=.returned (.tuple #[])∧Ur w' g z (Sort.insertionSort lt d a b)∧Bg g w w':=by
 have HU:Hid (Ur w g z d):=h;have HCm:Hid (Cmp w0 ok lt cf cb):=hC;have HOK:Hid (∀ i,i<d.size→ok d[i]!):=hok;have HW0:Hid (w0.heap.size≤g∧Below w0.heap.size w0 w):=⟨hg,hW⟩;have heg:=hC.eg;clear h hC hok hg hW;obtain⟨n,hn⟩:∃ n,d.size=n:=⟨_,rfl⟩;rw[hn] at hb hd ⊢;go_enter Tryz.func121,Tryz.ntmps121;go_wp2_with fail
 go_loopw [8] (fun iv wr=>∃ (i:Nat) (d1:Array Rw),iv=.int .i64 (i:Int)∧i≤max (a+1) b∧a<i∧Ur wr g z d1∧(d1.size=n∧∀ i,i<d1.size→ok d1[i]!)∧Sort.insOuter lt a b i d1=Sort.insertionSort lt d a b∧Bg g w wr) (fun iv _=>b - zam iv)
 case atStart=>exact⟨a+1,d,by go_num,by omega,by omega,HU.out,⟨hn,HOK.out⟩,rfl,But.refl _ _⟩
 case round=>
  obtain⟨i,d1,rfl,hib,hai,hu,⟨hs1,hok1⟩,he,hbg⟩:=hrel;have U1:Hid (Ur wr g z d1):=hu;have O1:Hid (∀ i,i<d1.size→ok d1[i]!):=hok1;have E1:Hid _:=he;have B1:Hid _:=hbg;clear hu he hbg hok1;by_cases hlt:i<b
  ·have q1:(i:Int)<(b:Int):=by omega
   go_wp2_with fail;rw[zg1 lt a b i d1 hlt] at E1
   go_loopw [9] (fun jv wr2=>∃ (j:Nat) (d2:Array Rw),jv=.int .i64 (j:Int)∧j≤i∧Ur wr2 g z d2∧(d2.size=n∧∀ i,i<d2.size→ok d2[i]!)∧Sort.insInner lt a j d2=Sort.insInner lt a i d1∧Bg g w wr2) (fun jv _=>zam jv)
   case atStart=>exact⟨i,d1,rfl,by omega,U1.out,⟨hs1,O1.out⟩,rfl,B1.out⟩
   case round=>
    obtain⟨j,d2,rfl,hji,hu,⟨hs2,hok2⟩,he,hbg⟩:=hrel;have E2:Hid _:=he;have B2:Hid (Bg g w wr):=hbg;have U2:Hid (Ur wr g z d2):=hu;have O2:Hid (∀ i,i<d2.size→ok d2[i]!):=hok2;clear he hbg hok2;by_cases hja:a<j
    ·obtain⟨j',rfl⟩:∃ j',j=j'+1:=⟨j - 1,by omega⟩
     obtain⟨⟨x0,x1,x2,x3⟩,fz⟩:=hu.cell (j'+1) (by omega);obtain⟨⟨y0,y1,y2,y3⟩,-⟩:=hu.cell j' (by omega);have hct:=HCm.out.calls wr.drew;have o1:=O2.out (j'+1) (by omega);have o2:=O2.out j' (by omega);have hbw:Below w0.heap.size w0 wr:=HW0.out.2.trans ⟨B2.out.os,B2.out.tape,B2.out.output,B2.out.size,fun k hk=>B2.out.block k (Nat.lt_of_lt_of_le hk HW0.out.2.size) (fun e=>by have:=HW0.out.1;omega)⟩;have HCA:Hid (∀ _:True,Calls Tryz.prog cf (#[rv d2[j'+1]!,rv d2[j']!]++cb) wr.drew fun e W'=>∃ c:Int,e=.returned (.int .i64 c)∧decide (c<0)=lt d2[j'+1]! d2[j']! ∧Below wr.heap.size wr W'):=fun _=>(hct (hbw.trans ⟨rfl,rfl,rfl,Nat.le_refl _,fun _ _=>rfl⟩) _ _ o1 o2).mono fun e W' ⟨c,h1,h2,h3⟩=>⟨c,h1,h2,⟨h3.os,h3.tape,h3.output,h3.size,h3.block⟩⟩
     have HSW:Hid (TwoR g j' d2[j']! d2[j'+1]! wr.drew):=⟨⟨y0,y1,y2,y3⟩,⟨x0,x1,x2,x3⟩⟩;clear hct o1 o2 hbw x0 x1 x2 x3 y0 y1 y2 y3 fz hu;obtain⟨rx,hx⟩:∃ rx,d2[j'+1]! =rx:=⟨_,rfl⟩;obtain⟨ry,hy⟩:∃ ry,d2[j']! =ry:=⟨_,rfl⟩;have HX:Hid (d2[j'+1]! =rx):=hx;have HY:Hid (d2[j']! =ry):=hy;rw[hx,hy] at HCA HSW;clear hx hy;obtain⟨xi,xx,xy,xv⟩:=rx;obtain⟨yi,yx,yy,yv⟩:=ry;have q2:(a:Int)<(j':Int)+1:=by omega
     have q3:(j':Int)+1<(n:Int):=by omega
     have q4:(j':Int)<(n:Int):=by omega
     have q5:(0:Int)≤(j':Int):=by omega
     have q6:(0:Int)≤(j':Int)+1:=by omega
     have q7:IntKind.i64.wrap (j':Int)=(j':Int):=wrap_i64 (by omega) (by omega);have hc:((j'+1:Nat):Int)=(j':Int)+1:=by omega
     rw[hc];clear hc;simp only[rv] at HCA;go_wp2_with fail;refine wp_region_held (S:=TwoR g j' ⟨yi,yx,yy,yv⟩ ⟨xi,xx,xy,xv⟩) (by kernel_rfl) ?_;change wpAnyH _ _ _ _ _ _ _ _ (World.drew _);refine plan [0,1,2,3,4,5,6,7,8,9,10] ?_
     iterate 11
      refine tkH (v:=?_) rfl ?_ HSW.out ?_;rotate_left
      ·rintro w ⟨⟨e0,e1,e2,e3⟩,f0,f1,f2,f3⟩;go_simp;try with_reducible rfl
      conv in(Act.put _ _ _)=>simp only[zL1,zL2,zL3,Act.put,zL4,zL5,zL6]
     refine plan0 ?_;refine wpAnyH_take (i:=11) (v:=.int .i64 (j':Int)) rfl (by kernel_rfl) (by kernel_rfl) (by kernel_rfl) (fun _ _ _ h=>h) (Or.inl ⟨by kernel_rfl,?_⟩) HSW.out ?_
     ·intro w hS
      go_simp
      try rw[q7]
     conv in(Act.put _ _ _)=>simp only[zL1,zL2,zL3,Act.put,zL4,zL5,zL6]
     refine plan [12,13] ?_
     iterate 2
      refine tkH (v:=?_) rfl ?_ HSW.out ?_;rotate_left
      ·rintro w ⟨⟨e0,e1,e2,e3⟩,f0,f1,f2,f3⟩;go_simp;try with_reducible rfl
      conv in(Act.put _ _ _)=>simp only[zL1,zL2,zL3,Act.put,zL4,zL5,zL6]
     refine plan0 ?_;refine zar 14 _ (by kernel_rfl) rfl (by kernel_rfl) (fun K hK=>?_);go_simp;refine Calls.mono (HCA.out trivial) ?_;rintro e w1 ⟨c,rfl,hcl,b1⟩;have B3:Bg g w w1:=B2.out.trans (But.of_below b1);have U3:Ur w1 g z d2:=Ur.same U2.out (b1.block _ U2.out.lt);obtain⟨⟨x0,x1,x2,x3⟩,fz⟩:=U3.cell (j'+1) (by omega);obtain⟨⟨y0,y1,y2,y3⟩,-⟩:=U3.cell j' (by omega);rw[HX.out] at x0 x1 x2 x3;rw[HY.out] at y0 y1 y2 y3;simp only at x0 x1 x2 x3 y0 y1 y2 y3
     replace HSW:Hid (TwoR g j' ⟨yi,yx,yy,yv⟩ ⟨xi,xx,xy,xv⟩ w1):=⟨⟨y0,y1,y2,y3⟩,⟨x0,x1,x2,x3⟩⟩
     have HB3:Hid (Bg g w w1):=B3;have HU3:Hid (Ur w1 g z d2):=U3;clear x0 x1 x2 x3 y0 y1 y2 y3 B3 U3 b1;refine hK _ _ HSW.out ?_;clear hK K;cases hl:lt ⟨xi,xx,xy,xv⟩ ⟨yi,yx,yy,yv⟩
     ·have HE:Hid (Sort.insInner lt a i d1=d2):=by
       refine(?_:Sort.insInner lt a i d1=d2);rw[←E2.out,zg4 lt a j' d2 (by rw[HX.out,HY.out];exact hl)]
      have q8:¬c<0:=of_decide_eq_false (hcl.trans hl);clear hl hcl;refine plan [15,16] ?_
      iterate 2
       refine tkH (v:=?_) rfl ?_ HSW.out ?_;rotate_left
       ·rintro w ⟨⟨e0,e1,e2,e3⟩,f0,f1,f2,f3⟩;go_simp;try with_reducible rfl
       conv in(Act.put _ _ _)=>simp only[zL1,zL2,zL3,Act.put,zL4,zL5,zL6]
      refine plan0 ?_;refine wpAnyH_done (by kernel_rfl) ?_ _;go_wp2_with fail
      go_roundw
      case rel=>exact⟨i+1,d2,by go_num,by omega,by omega,HU3.out,⟨hs2,O2.out⟩,by rw[←E1.out,HE.out],HB3.out⟩
      case measure=>simp[zam];omega
     ·have HE:Hid (Sort.insInner lt a (j'+1) d2=Sort.insInner lt a j' (Sort.swp d2 (j'+1) j')):=zg2 lt a j' d2 hja (by rw[HX.out,HY.out];exact hl)
      have q8:c<0:=of_decide_eq_true (hcl.trans hl);have HW:=Ur.swp HU3.out (j'+1) j' (by omega) (by omega);rw[HX.out,HY.out] at HW;simp only[set4] at HW;have HW1:Hid _:=HW.1;have HW2:Hid _:=HW.2;have O3:Hid (∀ k,k<(Sort.swp d2 (j'+1) j').size→ok (Sort.swp d2 (j'+1) j')[k]!):=zpM (by omega) (by omega) O2.out;have S3:Hid ((Sort.swp d2 (j'+1) j').size=n):=by refine(?_:(Sort.swp d2 (j'+1) j').size=n);simp[Sort.swp,hs2]
      clear hl hcl HW;refine plan [15,16] ?_
      iterate 2
       refine tkH (v:=?_) rfl ?_ HSW.out ?_;rotate_left
       ·rintro w ⟨⟨e0,e1,e2,e3⟩,f0,f1,f2,f3⟩;go_simp;try with_reducible rfl
       conv in(Act.put _ _ _)=>simp only[zL1,zL2,zL3,Act.put,zL4,zL5,zL6]
      refine plan0 ?_;refine wpAnyH_done (by kernel_rfl) ?_ _;obtain⟨⟨y0,y1,y2,y3⟩,x0,x1,x2,x3⟩:=HSW.out;simp only at x0 x1 x2 x3 y0 y1 y2 y3;have lg:g<w1.heap.size:=HU3.out.lt;go_wp2_with fail
      go_region
      go_wp2_with fail
      go_roundw
      case rel=>
       refine⟨j',Sort.swp d2 (j'+1) j',by go_num,by omega,?_,⟨S3.out,O3.out⟩,by rw[←HE.out];exact E2.out,?_⟩
       ·exact zoC HW1.out
       ·exact(HB3.out.trans HW2.out).trans (Bg.drew _)
      case measure=>simp[zam]
    ·have q2:¬(a:Int)<(j:Int):=by omega
     have HE:Hid (Sort.insInner lt a i d1=d2):=by
      refine(?_:Sort.insInner lt a i d1=d2);rw[←E2.out,zg3 lt a j d2 (by omega)]
     clear hu;go_wp2_with fail
     go_quiet (fail)
     rename_i hK
     refine hK _ _ ?_;have U3:Hid (Ur (wr.drewN nq) g z d2):=Ur.same U2.out rfl;have B3:Hid (Bg g w (wr.drewN nq)):=B2.out.trans ⟨rfl,rfl,rfl,Nat.le_refl _,fun _ _ _=>rfl⟩;go_wp2_with fail
     go_roundw
     case rel=>exact⟨i+1,d2,by go_num,by omega,by omega,U3.out,⟨hs2,O2.out⟩,by rw[←E1.out,HE.out],B3.out⟩
     case measure=>simp[zam];omega
  ·have q1:¬(i:Int)<(b:Int):=by omega
   go_wp2_with fail;refine bodyPost_end (results_none rfl _ _ _) rfl ?_;refine⟨rfl,?_,B1.out⟩;have:=E1.out;rw[zf5 lt a b i d1 hlt] at this;rw[←this];exact U1.out
end Rq
end Go.Proofs.YtokfnghckpgjmaaGreatDoor
