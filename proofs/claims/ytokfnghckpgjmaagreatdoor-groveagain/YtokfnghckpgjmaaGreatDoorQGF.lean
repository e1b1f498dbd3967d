/- The tree of rows. -/
import Derived.Test.YtokfnghckpgjmaaGreatDoorQCK
set_option maxRecDepth 100000
set_option maxHeartbeats 4000000
namespace Go.Proofs.YtokfnghckpgjmaaGreatDoor
namespace Rq
open Go.RowKit Go.Lib Go.Shelf
open Rc
theorem zaq {P:Program} {c:Array Oper} {b:List Oper} {o:Oper} {a:Act} {w:World} {Q:Exit→Act→World→Prop} (e:o.guard=none) (t u:TypeId) (s x:Operand) (g:o.op=.call { callee:=.builtin .append,args:=#[s,x],argTypes:=#[t,u] })
  {vs vx v':Value} {f:World} (i:a.eval s=vs) (j:a.eval x=vx) (d:(Builtin.append_ #[t,u] o.type #[vs,vx]).run P w=.ok v' f) (h:wpList P c Q b (a.put o.dst v') f):wpList P c Q (o::b) a w:=
 wpList_plain e fun _ k=>by
  unfold Oper.wp execOp;simp only[g,resolve,invoke,builtin,Sem.run_bind,Sem.run_pure,Result.andThen_ok,List.map_toArray,List.map_cons,List.map_nil,i,j,d];exact k _ _ h
theorem zgQ (a:Addr) (n c:Nat) (w:World):(binOp .eql 22 (.slice (some a) n c) (.slice none 0 0)).run Tryz.prog w=.ok (.bool false) w:=by kernel_rfl
theorem zkd (l:List Rw) (o:Option Addr) (a:Nat) (w:World) (i:zac w o a l) (h:0<l.length) (j:l.length≤1000):
  Calls Tryz.prog 101 #[.slice o l.length a] w fun e m=>∃ v,e=.returned v∧m.ownsRow w.heap.size 79 4 v l.length (l.flatMap rc)∧Below w.heap.size w m:=by
 obtain⟨b,c,rfl,x,_⟩:=i.row h;have d:=zaa w (.cells #[] 79)
 have f:(w.alloc (.cells #[] 79)).ownsRow w.heap.size 79 4 (.slice (some ⟨w.heap.size,0,none⟩) 0 0) 0 []:=
  ⟨by simp,.inr ⟨w.heap.size,0,#[],rfl,Nat.le_refl _,zq w _,Nat.le_refl _,by decide,rfl,rfl⟩⟩
 obtain⟨n,p,g,q,r,y⟩:=zaV 22 79 Tryz.underlying22 ze7 rfl (by decide) (by decide) (w.alloc (.cells #[] 79)) w.heap.size 0 l.length (.slice (some ⟨w.heap.size,0,none⟩) 0 0) (some ⟨b,c,none⟩) a
    [] (l.flatMap rc) f (by simp) (Sl.below i d zn) (zj7 l) (by omega)
 have s:Hid _:=d.grown r (by simp) fun k t=>by simp[Value.ownBlock] at t;omega
 have u:Hid (p.ownsRow w.heap.size 79 4 n l.length (l.flatMap rc)):=by
  have:=q;rw[Nat.zero_add,List.nil_append] at this;exact this
 have z:=fun w=>zgQ ⟨b,c,none⟩ l.length a w
 go_enter Tryz.func101,Tryz.ntmps101
 go_wp2_with (refine zaq rfl 22 22 (.tmp 5) (.tmp 6) rfl rfl rfl g ?_)
 go_ret;exact⟨n,rfl,u.out,s.out⟩
theorem zfd:leaf []=true:=rfl
theorem zmj (G:Nat→Prop) (d:Nat) (w:World):zas G (d+1) w ⟨0,0,0,none,0,0,none,0,0⟩ []:=
 ⟨rfl,rfl,rfl,fun _=>⟨rfl,Sl.nil 4 w,fun h=>absurd h (by decide),rfl,Sl.nil 5 w⟩,fun h=>by rw[zfd] at h;cases h⟩
theorem zbK {k:Func} {p:Tmp} (h:k.results=#[.cell p 73]) (f:Array Value) (w:World) (g:Nat) (a b c d e:Value) {t:TypeId}
  (l:f.getD p undef=.pointer (some ⟨g,0,none⟩)) (i:w.heap[g]? =some (.cells #[a,b,c,d,e] t (0,0))):(results k f).run Tryz.prog w=.ok (.agg #[a,b,c,d,e]) w:=by
 have m:w.cell? ⟨g,0,none⟩=some a:=by rw[zr i];rfl
 have n:w.cell? ⟨g,1,none⟩=some b:=by rw[zr i];rfl
 have o:w.cell? ⟨g,2,none⟩=some c:=by rw[zr i];rfl
 have q:w.cell? ⟨g,3,none⟩=some d:=by rw[zr i];rfl
 have r:w.cell? ⟨g,4,none⟩=some e:=by rw[zr i];rfl
 simp[results,h,(by simpa using l),asAddr,go_sem,m,n,o,q,r]
theorem zbV {w:World} {g:Nat} {a b c d e:Value} {t:TypeId} (f:w.heap[g]? =some (.cells #[a,b,c,d,e] t (0,0))):
  w.frozen? ⟨g,0,none⟩=false∧w.frozen? ⟨g,1,none⟩=false∧w.frozen? ⟨g,2,none⟩=false∧w.frozen? ⟨g,3,none⟩=false∧w.frozen? ⟨g,4,none⟩=false∧
  w.cell? ⟨g,0,none⟩=some a∧w.cell? ⟨g,1,none⟩=some b∧w.cell? ⟨g,2,none⟩=some c∧w.cell? ⟨g,3,none⟩=some d∧w.cell? ⟨g,4,none⟩=some e:=
 ⟨frozen_of_row w g 0 _ _ f,frozen_of_row w g 1 _ _ f,frozen_of_row w g 2 _ _ f,frozen_of_row w g 3 _ _ f,frozen_of_row w g 4 _ _ f,by rw[zr f];rfl,by rw[zr f];rfl,by rw[zr f];rfl,by rw[zr f];rfl,by rw[zr f];rfl⟩
theorem setc (w:World) (g k:Nat) (v:Value) {j:Nat} (hj:j≠g):(w.setCell ⟨g,k,none⟩ v).heap[j]? =w.heap[j]? :=Below.heap_setCell _ _ _ _ hj
theorem zcO {w:World} {g:Nat} {x0 l m n p:Value} {t:TypeId} (h:w.heap[g]? =some (.cells #[x0,l,m,n,p] t (0,0))) (a b c d e:Value):
  (((((w.setCell ⟨g,0,none⟩ a).setCell ⟨g,1,none⟩ b).setCell ⟨g,2,none⟩ c).setCell ⟨g,3,none⟩ d).setCell ⟨g,4,none⟩ e).heap[g]? =some (.cells #[a,b,c,d,e] t (0,0))∧
  (∀ j,j≠g→(((((w.setCell ⟨g,0,none⟩ a).setCell ⟨g,1,none⟩ b).setCell ⟨g,2,none⟩ c).setCell ⟨g,3,none⟩ d).setCell ⟨g,4,none⟩ e).heap[j]? =w.heap[j]?)∧
  Below g w (((((w.setCell ⟨g,0,none⟩ a).setCell ⟨g,1,none⟩ b).setCell ⟨g,2,none⟩ c).setCell ⟨g,3,none⟩ d).setCell ⟨g,4,none⟩ e):=by
 have x:=zx _ g 4 _ _ e (zx _ g 3 _ _ d (zx _ g 2 _ _ c (zx _ g 1 _ _ b (zx w g 0 _ _ a h))))
 have o:∀ j,j≠g→(((((w.setCell ⟨g,0,none⟩ a).setCell ⟨g,1,none⟩ b).setCell ⟨g,2,none⟩ c).setCell ⟨g,3,none⟩ d).setCell ⟨g,4,none⟩ e).heap[j]? =w.heap[j]? :=fun j f=>by
  rw[setc _ _ _ _ f,setc _ _ _ _ f,setc _ _ _ _ f,setc _ _ _ _ f,setc _ _ _ _ f]
 have i:∀ (w:World) (k:Nat) (v:Value),Below g w (w.setCell ⟨g,k,none⟩ v):=fun w k v=>⟨rfl,rfl,rfl,by simp[World.setCell],fun j f=>setc w g k v (by omega)⟩
 exact⟨x,o,(i w 0 a).trans ((i _ 1 b).trans ((i _ 2 c).trans ((i _ 3 d).trans (i _ 4 e))))⟩
theorem zfP {g X Y:Nat} {L:Int} {w w':World} (h:CelS g X Y L w) (e:w'.heap[g]? =w.heap[g]?):CelS g X Y L w':=
 ⟨(World.cell?_of_block (a:=⟨g,0,none⟩) e).trans h.1,(World.cell?_of_block (a:=⟨g,1,none⟩) e).trans h.2.1,(World.cell?_of_block (a:=⟨g,2,none⟩) e).trans h.2.2⟩
theorem zmk (d:Nat) (o:Option Addr) (a:Nat) (w:World):
  Calls Tryz.prog 70 #[.slice o 0 a] w fun e c=>∃ n:Nv,e=.returned (nv n)∧zas (fun b=>w.heap.size≤b) (d+1) c n []∧Below w.heap.size w c:=by
 have f:Hid (Below w.heap.size w (w.alloc (.cells #[.int .u32 0,.int .u32 0,.int .i64 0,.slice none 0 0,.slice none 0 0] 73))):=zaa w _;have g:Hid ((w.alloc (.cells #[.int .u32 0,.int .u32 0,.int .i64 0,.slice none 0 0,.slice none 0 0] 73)).heap[w.heap.size]? =some (.cells #[.int .u32 0,.int .u32 0,.int .i64 0,.slice none 0 0,.slice none 0 0] 73 (0,0))):=zq w _;go_enter Tryz.func70,Tryz.ntmps70;go_wp2_with fail;refine bodyPost_ret (zbK rfl _ _ _ _ _ _ _ _ rfl g.out) rfl ⟨⟨0,0,0,none,0,0,none,0,0⟩,rfl,zmj _ d _,f.out⟩
theorem zke (d:Nat) (l:List Rw) (o:Option Addr) (u:Nat) (w:World) (hr:zac w o u l) (Z:On l) (B:l.length≤1000) (P:0<l.length) (D:leaf l=true):
  Calls Tryz.prog 70 #[.slice o l.length u] w fun e w'=>∃ n:Nv,e=.returned (nv n)∧zas (fun b=>w.heap.size≤b) (d+1) w' n l∧Below w.heap.size w w':=by
  have Q:Hid _:=D;have R:Hid (∀ W,zac W o u l→_):=fun W h=>zkd l o u W h P B
  have a0:zac (w.alloc (.cells #[.int .u32 0,.int .u32 0,.int .i64 0,.slice none 0 0,.slice none 0 0] 73)) o u l:=hr.below (zaa w _) zn;have HC:Hid _:=zez l o u (w.alloc (.cells #[.int .u32 0,.int .u32 0,.int .i64 0,.slice none 0 0,.slice none 0 0] 73)) a0 P Z B;have C:Hid ((w.alloc (.cells #[.int .u32 0,.int .u32 0,.int .i64 0,.slice none 0 0,.slice none 0 0] 73)).heap[w.heap.size]? =some (.cells #[.int .u32 0,.int .u32 0,.int .i64 0,.slice none 0 0,.slice none 0 0] 73 (0,0))):=zq w _;have T:Hid (Below w.heap.size w (w.alloc (.cells #[.int .u32 0,.int .u32 0,.int .i64 0,.slice none 0 0,.slice none 0 0] 73))):=zaa w _;have HR:Hid _:=hr;obtain⟨X,hX⟩:∃ X,cx l=X:=⟨_,rfl⟩;obtain⟨Y,hY⟩:∃ Y,cy l=Y:=⟨_,rfl⟩;obtain⟨L,hL⟩:∃ L:Int,(lev l:Int)=L:=⟨_,rfl⟩;have HX:Hid _:=hX;have HY:Hid _:=hY;have HL:Hid _:=hL
  by_cases h4:l.length≤4
  ·have q1:=decide_eq_true (by omega)
   go_enter Tryz.func70,Tryz.ntmps70;go_wp2_with fail;refine Calls.mono HC.out ?_;rintro e j ⟨rfl,k⟩;have y:=(k.block _ (by simp)).trans C.out;have z:w.heap.size<j.heap.size:=by have:=k.size;simp at this;omega
   have q:Hid (Below w.heap.size w (j.alloc (.cells #[.int .u32 (X:Int),.int .u32 (Y:Int),.int .i64 L] 70))):=(T.out.trans (k.mono (by simp))).trans ((zaa j _).mono (by omega));have r:Hid ((j.alloc (.cells #[.int .u32 (X:Int),.int .u32 (Y:Int),.int .i64 L] 70)).heap[w.heap.size]? =some (.cells #[.int .u32 0,.int .u32 0,.int .i64 0,.slice none 0 0,.slice none 0 0] 73 (0,0))):=((zaa j _).block _ z).trans y;have g:Hid ((j.alloc (.cells #[.int .u32 (X:Int),.int .u32 (Y:Int),.int .i64 L] 70)).heap[j.heap.size]? =some (.cells #[.int .u32 (X:Int),.int .u32 (Y:Int),.int .i64 L] 70 (0,0))):=zq j _;go_wp2_with fail;have a:Hid _:=(zi r.out).1;have i:Hid _:=(zi g.out).1
   have m:Hid _:=Nat.ne_of_gt z;obtain⟨A,E⟩:∃ A,j.heap.size=A:=⟨_,rfl⟩;obtain⟨s,F⟩:∃ s,j.alloc (.cells #[.int .u32 (X:Int),.int .u32 (Y:Int),.int .i64 L] 70)=s:=⟨_,rfl⟩;rw[F] at q r g a i ⊢;rw[E] at g i m ⊢;obtain⟨t0,t1,t2⟩:=Cel.cells g.out;go_wp2_with fail;have c:Hid _:=Cel.cells g.out;have G:Hid _:=HR.out.below q.out zn;refine wp_region_held (S:=CelS A X Y L) (by kernel_rfl) ?_;change wpAnyH _ _ _ _ _ _ _ _ (World.drew _);refine plan [0,1] ?_
   iterate 2
    refine tkH (v:=?_) rfl ?_ c.out ?_;rotate_left
    ·rintro w ⟨e1,e2,e3⟩;go_simp;try with_reducible rfl
    conv in(Act.put _ _ _)=>simp only[zL1,zL2,zL3,Act.put,zL4,zL5,zL6]
   refine plan0 ?_;refine zar 2 _ (by kernel_rfl) rfl (by kernel_rfl) (fun K H=>?_);go_simp;refine(R.out s.drew (Sl.below G.out ((Below.refl _ s).drew) zn)).mono ?_;rintro e W3 ⟨v,rfl,I,k⟩
   replace k:=(Below.refl _ s).drew.trans k
   replace c:Hid _:=CelS.below (Cel.cells g.out) k i.out
   have p:Hid _:=(k.block _ a.out).trans r.out;refine H _ _ c.out ?_;obtain⟨x,f,rfl,sl⟩:=zai I;obtain⟨n,U⟩:∃ n,l.length=n:=⟨_,rfl⟩;rw[U];refine plan [3] ?_;refine tkH (v:=?_) rfl ?_ c.out ?_;rotate_left
   ·rintro w ⟨e1,e2,e3⟩;go_simp;try with_reducible rfl
   conv in(Act.put _ _ _)=>simp only[zL1,zL2,zL3,Act.put,zL4,zL5,zL6]
   refine plan0 ?_;obtain⟨z0,z1,z2,z3,z4,f0,f1,f2,f3,f4⟩:=zbV p.out;obtain⟨p1,V,p3⟩:=zcO p.out (.int .u32 (X:Int)) (.int .u32 (Y:Int)) (.int .i64 L) (.slice x n f) (.slice none 0 0);have J:Hid _:=p1;have M:Hid _:=q.out.trans ((k.mono (Nat.le_of_lt a.out)).trans p3)
   have HN:Hid (zas (fun b=>w.heap.size≤b) (d+1) (((((W3.setCell ⟨w.heap.size,0,none⟩ (.int .u32 (X:Int))).setCell ⟨w.heap.size,1,none⟩ (.int .u32 (Y:Int))).setCell ⟨w.heap.size,2,none⟩ (.int .i64 L)).setCell ⟨w.heap.size,3,none⟩ (.slice x n f)).setCell ⟨w.heap.size,4,none⟩ (.slice none 0 0)) ⟨X,Y,lev l,x,n,f,none,0,0⟩ l):=by
    refine(?_:zas (fun b=>w.heap.size≤b) (d+1) _ _ l);refine⟨HX.out.symm,HY.out.symm,rfl,fun _=>⟨U.symm,?_,fun _ b t e=>?_,rfl,Sl.nil 5 _⟩,fun h=>by rw[Q.out] at h;cases h⟩
    ·refine Sl.same sl (by simp[World.setCell]) fun b t e _=>V b ?_
     have N:s.heap.size≤b:=(zaL I (by have O:x=some ⟨b,t,none⟩:=e;rw[O];rfl)).1;have:=a.out;omega
    ·have N:s.heap.size≤b:=(zaL I (by have O:x=some ⟨b,t,none⟩:=e;rw[O];rfl)).1
     have:=a.out;omega
   replace c:Hid _:=zfP c.out (V A m.out)
   refine zar 4 _ (by kernel_rfl) rfl (by kernel_rfl) (fun K H=>?_);go_simp;refine H _ _ c.out ?_;refine wpAnyH_done (by kernel_rfl) ?_ _;go_wp2_with fail;refine bodyPost_ret (zbK rfl _ _ _ _ _ _ _ _ rfl J.out) rfl ⟨⟨X,Y,lev l,x,n,f,none,0,0⟩,?_,HN.out,M.out⟩;rw[←HL.out]
  ·have q1:=decide_eq_false (by omega)
   have q2:(L==0)=true:=by
    rw[beq_iff_eq,←hL];unfold leaf at D;rw[decide_eq_true_iff] at D;omega
   go_enter Tryz.func70,Tryz.ntmps70;go_wp2_with fail;refine Calls.mono HC.out ?_;rintro e j ⟨rfl,k⟩;have y:=(k.block _ (by simp)).trans C.out;have z:w.heap.size<j.heap.size:=by have:=k.size;simp at this;omega
   have q:Hid (Below w.heap.size w (j.alloc (.cells #[.int .u32 (X:Int),.int .u32 (Y:Int),.int .i64 L] 70))):=(T.out.trans (k.mono (by simp))).trans ((zaa j _).mono (by omega));have r:Hid ((j.alloc (.cells #[.int .u32 (X:Int),.int .u32 (Y:Int),.int .i64 L] 70)).heap[w.heap.size]? =some (.cells #[.int .u32 0,.int .u32 0,.int .i64 0,.slice none 0 0,.slice none 0 0] 73 (0,0))):=((zaa j _).block _ z).trans y;have g:Hid ((j.alloc (.cells #[.int .u32 (X:Int),.int .u32 (Y:Int),.int .i64 L] 70)).heap[j.heap.size]? =some (.cells #[.int .u32 (X:Int),.int .u32 (Y:Int),.int .i64 L] 70 (0,0))):=zq j _;go_wp2_with fail;have a:Hid _:=(zi r.out).1;have i:Hid _:=(zi g.out).1
   have m:Hid _:=Nat.ne_of_gt z;obtain⟨A,E⟩:∃ A,j.heap.size=A:=⟨_,rfl⟩;obtain⟨s,F⟩:∃ s,j.alloc (.cells #[.int .u32 (X:Int),.int .u32 (Y:Int),.int .i64 L] 70)=s:=⟨_,rfl⟩;rw[F] at q r g a i ⊢;rw[E] at g i m ⊢;obtain⟨t0,t1,t2⟩:=Cel.cells g.out;go_wp2_with fail;have c:Hid _:=Cel.cells g.out;have G:Hid _:=HR.out.below q.out zn;refine wp_region_held (S:=CelS A X Y L) (by kernel_rfl) ?_;change wpAnyH _ _ _ _ _ _ _ _ (World.drew _);refine plan [0,1] ?_
   iterate 2
    refine tkH (v:=?_) rfl ?_ c.out ?_;rotate_left
    ·rintro w ⟨e1,e2,e3⟩;go_simp;try with_reducible rfl
    conv in(Act.put _ _ _)=>simp only[zL1,zL2,zL3,Act.put,zL4,zL5,zL6]
   refine plan0 ?_;refine zar 2 _ (by kernel_rfl) rfl (by kernel_rfl) (fun K H=>?_);go_simp;refine(R.out s.drew (Sl.below G.out ((Below.refl _ s).drew) zn)).mono ?_;rintro e W3 ⟨v,rfl,I,k⟩
   replace k:=(Below.refl _ s).drew.trans k
   replace c:Hid _:=CelS.below (Cel.cells g.out) k i.out
   have p:Hid _:=(k.block _ a.out).trans r.out;refine H _ _ c.out ?_;obtain⟨x,f,rfl,sl⟩:=zai I;obtain⟨n,U⟩:∃ n,l.length=n:=⟨_,rfl⟩;rw[U];refine plan [3] ?_;refine tkH (v:=?_) rfl ?_ c.out ?_;rotate_left
   ·rintro w ⟨e1,e2,e3⟩;go_simp;try with_reducible rfl
   conv in(Act.put _ _ _)=>simp only[zL1,zL2,zL3,Act.put,zL4,zL5,zL6]
   refine plan0 ?_;obtain⟨z0,z1,z2,z3,z4,f0,f1,f2,f3,f4⟩:=zbV p.out;obtain⟨p1,V,p3⟩:=zcO p.out (.int .u32 (X:Int)) (.int .u32 (Y:Int)) (.int .i64 L) (.slice x n f) (.slice none 0 0);have J:Hid _:=p1;have M:Hid _:=q.out.trans ((k.mono (Nat.le_of_lt a.out)).trans p3)
   have HN:Hid (zas (fun b=>w.heap.size≤b) (d+1) (((((W3.setCell ⟨w.heap.size,0,none⟩ (.int .u32 (X:Int))).setCell ⟨w.heap.size,1,none⟩ (.int .u32 (Y:Int))).setCell ⟨w.heap.size,2,none⟩ (.int .i64 L)).setCell ⟨w.heap.size,3,none⟩ (.slice x n f)).setCell ⟨w.heap.size,4,none⟩ (.slice none 0 0)) ⟨X,Y,lev l,x,n,f,none,0,0⟩ l):=by
    refine(?_:zas (fun b=>w.heap.size≤b) (d+1) _ _ l);refine⟨HX.out.symm,HY.out.symm,rfl,fun _=>⟨U.symm,?_,fun _ b t e=>?_,rfl,Sl.nil 5 _⟩,fun h=>by rw[Q.out] at h;cases h⟩
    ·refine Sl.same sl (by simp[World.setCell]) fun b t e _=>V b ?_
     have N:s.heap.size≤b:=(zaL I (by have O:x=some ⟨b,t,none⟩:=e;rw[O];rfl)).1;have:=a.out;omega
    ·have N:s.heap.size≤b:=(zaL I (by have O:x=some ⟨b,t,none⟩:=e;rw[O];rfl)).1
     have:=a.out;omega
   replace c:Hid _:=zfP c.out (V A m.out)
   refine zar 4 _ (by kernel_rfl) rfl (by kernel_rfl) (fun K H=>?_);go_simp;refine H _ _ c.out ?_;refine wpAnyH_done (by kernel_rfl) ?_ _;go_wp2_with fail;refine bodyPost_ret (zbK rfl _ _ _ _ _ _ _ _ rfl J.out) rfl ⟨⟨X,Y,lev l,x,n,f,none,0,0⟩,?_,HN.out,M.out⟩;rw[←HL.out]
def kl (l:List Rw) (j:Nat):List (List Rw):=((List.range j).map (part l)).filter fun m=> !m.isEmpty
theorem zod (l:List Rw):kl l 4=zao l:=rfl
theorem zpw {l:List Rw} {j:Nat} (h:part l j=[]):kl l (j+1)=kl l j:=by
 unfold kl;rw[List.range_succ,List.map_append,List.filter_append];simp[h]
theorem zkf {l:List Rw} {j:Nat} (h:part l j≠[]):kl l (j+1)=kl l j++[part l j]:=by
 unfold kl;rw[List.range_succ,List.map_append,List.filter_append];simp[h]
theorem zpx (l:List Rw) (j:Nat):(kl l j).length≤j:=by
 unfold kl;exact Nat.le_trans (List.length_filter_le _ _) (by simp)
structure KJ (d:Nat) (l:List Rw) (w3:World) (j:Nat) (ks:List Nv) (v:Value) (W:World):Prop where
 len:ks.length=(kl l j).length
 own:W.ownsRow w3.heap.size 73 5 v ks.length (ks.flatMap nc)
 nodes:∀ i (h1:i<ks.length) (h2:i<(kl l j).length),zas (fun b=>w3.heap.size≤b∧v.ownBlock≠some b) d W ks[i] (kl l j)[i]
 bel:Below w3.heap.size w3 W
theorem KJ.skip {d:Nat} {l:List Rw} {w3:World} {j:Nat} {ks:List Nv} {v:Value} {W:World} (h:KJ d l w3 j ks v W) (hp:part l j=[]):KJ d l w3 (j+1) ks v W:=by
 obtain⟨h1,h2,h3,h4⟩:=h;refine⟨by rw[zpw hp];exact h1,h2,?_,h4⟩;rw[zpw hp];exact h3
theorem KJ.step {d:Nat} {l:List Rw} {r:World} {j:Nat} {o:List Nv} {v:Value} {W W1 W2 W':World} (h:KJ d l r j o v W) (x:part l j≠[]) {n:Nv} {v':Value}
  (k:Below W.heap.size W W1) (F:zas (fun b=>W.heap.size≤b) d W1 n (part l j)) (c:Below W1.heap.size W1 W2) (G:W'.ownsRow r.heap.size 73 5 v' (o.length+1) (o.flatMap nc++nc n)) (p:W2.grownBy W' v.ownBlock) (s:v'.ownBlock=v.ownBlock∨v'.ownBlock=some W2.heap.size):
  KJ d l r (j+1) (o++[n]) v' W':=by
 have y:=k.size;have z:=c.size;have H:=h.bel.size;have D:∀ b,v.ownBlock=some b→r.heap.size≤b∧b<W.heap.size:=fun b f=>zaL h.own f
 have m:∀ b,b<W2.heap.size→v.ownBlock≠some b→W'.heap[b]? =W2.heap[b]? :=fun b f q=>p.block b f fun e=>q e.symm
 have t:∀ b,b<W2.heap.size→v.ownBlock≠some b→v'.ownBlock≠some b:=fun b f q e=>by
  rcases s with s|s
  ·rw[s] at e;exact q e
  ·rw[s] at e;cases e;omega
 refine⟨by rw[zkf x,List.length_append,List.length_append,h.len];rfl,?_,fun i E I=>?_,h.bel.trans ⟨?_,?_,?_,?_,fun b f=>?_⟩⟩
 ·rw[List.length_append,List.flatMap_append];simpa using G
 ·have e:(kl l (j+1))[i]=(kl l j++[part l j])[i]'(by rw[←zkf x];exact I):=by congr 1;exact zkf x
  rw[e];by_cases u:i<o.length
  ·rw[List.getElem_append_left u,List.getElem_append_left (by rw[←h.len];exact u)]
   have A:=((h.nodes i u (by rw[←h.len];exact u)).below k zn).below c zn;have B:zas (fun b=>(r.heap.size≤b∧v.ownBlock≠some b)∧b<W2.heap.size) d W2 o[i] ((kl l j)[i]'(by rw[←h.len];exact u)):=A.mono fun b f g=>⟨g,f⟩
   exact(B.same p.size fun b g f=>m b f g.1.2).mono fun b _ g=>⟨g.1.1,t b g.2 g.1.2⟩
  ·have C:i=o.length:=by rw[List.length_append] at E;simp at E;omega
   subst C;rw[List.getElem_append_right zn,List.getElem_append_right (by rw[h.len];omega)];simp only[Nat.sub_self,h.len,List.getElem_cons_zero];have B:zas (fun b=>W.heap.size≤b∧b<W2.heap.size) d W2 n (part l j):=(F.below c zn).mono fun b f g=>⟨g,f⟩
   have w:∀ b,W.heap.size≤b→v.ownBlock≠some b:=fun b f e=>by have:=(D b e).2;omega
   exact(B.same p.size fun b g f=>m b f (w b g.1)).mono fun b _ g=>⟨by omega,t b g.2 (w b g.1)⟩
 ·exact p.os.trans (c.os.trans k.os)
 ·exact p.tape.trans (c.tape.trans k.tape)
 ·exact p.output.trans (c.output.trans k.output)
 ·exact Nat.le_trans y (Nat.le_trans z p.size)
 ·exact(m b (by omega) (fun e=>by have:=(D b e).1;omega)).trans ((c.block b (by omega)).trans (k.block b (by omega)))
theorem ixs (vs:Nat→Value) (j:Nat) (hj:j<4) (w:World):(Instr.index 176 (.agg #[vs 0,vs 1,vs 2,vs 3]) (.int .i64 (j:Int))).run Tryz.prog w=.ok (vs j) w:=by
 obtain rfl|rfl|rfl|rfl:j=0∨j=1∨j=2∨j=3:=by omega
 all_goals kernel_rfl
theorem zml {w:World} {g:Nat} {n:Nv} {t:TypeId} {b:Nat × Nat} (h:w.heap[g]? =some (.cells #[.int .u32 (n.X:Int),.int .u32 (n.Y:Int),.int .i64 (n.L:Int),.slice n.ro n.rn n.rc,.slice n.ko n.kn n.kc] t b)):Sl 5 w (some ⟨g,0,none⟩) 1 1 (nc n):=by
 refine⟨Nat.le_refl _,by decide,(fun e=>by cases e),rfl,fun _=>⟨g,0,rfl,(zi h).1,fun j u a=>?_⟩⟩;rw[Nat.zero_add,zr h];have:j<5:=(List.getElem?_eq_some_iff.1 a).1;obtain rfl|rfl|rfl|rfl|rfl:j=0∨j=1∨j=2∨j=3∨j=4:=by omega
 all_goals simpa [nc] using a
theorem zoe (n:Nv):∀ u∈nc n,u.oneCell'=true:=by
 have:=zpu [n];simpa using this
theorem ziT (d:Nat) (ih:∀ (l:List Rw) (o:Option Addr) (cap:Nat) (w:World),zac w o cap l→On l→l.length≤1000→lev l<d→
   Calls Tryz.prog 70 #[.slice o l.length cap] w fun e w'=>∃ n:Nv,e=.returned (nv n)∧zas (fun b=>w.heap.size≤b) d w' n l∧Below w.heap.size w w')
  (l:List Rw) (o:Option Addr) (cap:Nat) (w:World) (hr:zac w o cap l) (hon:On l) (hmax:l.length≤1000) (hlf:leaf l=false) (hd:lev l<d+1):
  Calls Tryz.prog 70 #[.slice o l.length cap] w fun e w'=>∃ n:Nv,e=.returned (nv n)∧zas (fun b=>w.heap.size≤b) (d+1) w' n l∧Below w.heap.size w w':=by
  obtain⟨h4,m,hm⟩:=zda hlf;have hne:0<l.length:=by omega
  have HLf:Hid (leaf l=false):=hlf;have IH:Hid _:=ih;have HSh:Hid (∀ W,zac W o cap l→_):=fun W h=>ziS m l o cap W h hon hmax hm
  have HHR:zac (w.alloc (.cells #[.int .u32 0,.int .u32 0,.int .i64 0,.slice none 0 0,.slice none 0 0] 73)) o cap l:=hr.below (zaa w _) zn;have HC:Hid _:=zez l o cap (w.alloc (.cells #[.int .u32 0,.int .u32 0,.int .i64 0,.slice none 0 0,.slice none 0 0] 73)) HHR hne hon hmax;have HG2n:Hid ((w.alloc (.cells #[.int .u32 0,.int .u32 0,.int .i64 0,.slice none 0 0,.slice none 0 0] 73)).heap[w.heap.size]? =some (.cells #[.int .u32 0,.int .u32 0,.int .i64 0,.slice none 0 0,.slice none 0 0] 73 (0,0))):=zq w _;have HBn:Hid (Below w.heap.size w (w.alloc (.cells #[.int .u32 0,.int .u32 0,.int .i64 0,.slice none 0 0,.slice none 0 0] 73))):=zaa w _;have HR:Hid (zac w o cap l):=hr;obtain⟨X,hX⟩:∃ X,cx l=X:=⟨_,rfl⟩;obtain⟨Y,hY⟩:∃ Y,cy l=Y:=⟨_,rfl⟩;obtain⟨L,hL⟩:∃ L:Int,(lev l:Int)=L:=⟨_,rfl⟩;have HX:Hid (cx l=X):=hX;have HY:Hid (cy l=Y):=hY;have HL:Hid ((lev l:Int)=L):=hL;rw[hX,hY,hL] at HC
  have q0:((l.length:Int)==0)=false:=by rw[beq_eq_false_iff_ne];omega
  have n0:¬l.length=0:=by omega
  rw[hX,hY,hL] at HSh;have q1:decide ((l.length:Int)≤4)=false:=decide_eq_false (by omega);have q2:(L==0)=false:=by rw[beq_eq_false_iff_ne,←hL];omega
  have HM:Hid (lev l=m+1):=hm;have HD:Hid (lev l<d+1):=hd;have Hon:Hid (On l):=hon;clear hlf h4 hm hd hon ih;clear hr HHR hX hY hL;go_enter Tryz.func70,Tryz.ntmps70;go_wp2_with fail;refine Calls.mono HC.out ?_;rintro e W1 ⟨rfl,b1⟩;have HG2a:=(b1.block _ (by simp)).trans HG2n.out;have hs1:w.heap.size<W1.heap.size:=by have:=b1.size;simp at this;omega
  have HB2:Hid (Below w.heap.size w (W1.alloc (.cells #[.int .u32 (X:Int),.int .u32 (Y:Int),.int .i64 L] 70))):=(HBn.out.trans (b1.mono (by simp))).trans ((zaa W1 _).mono (by omega));have HG2:Hid ((W1.alloc (.cells #[.int .u32 (X:Int),.int .u32 (Y:Int),.int .i64 L] 70)).heap[w.heap.size]? =some (.cells #[.int .u32 0,.int .u32 0,.int .i64 0,.slice none 0 0,.slice none 0 0] 73 (0,0))):=((zaa W1 _).block _ hs1).trans HG2a;have HG3:Hid ((W1.alloc (.cells #[.int .u32 (X:Int),.int .u32 (Y:Int),.int .i64 L] 70)).heap[W1.heap.size]? =some (.cells #[.int .u32 (X:Int),.int .u32 (Y:Int),.int .i64 L] 70 (0,0))):=zq W1 _;clear b1 HG2a;go_wp2_with fail;have HG2s:Hid (w.heap.size<(W1.alloc (.cells #[.int .u32 (X:Int),.int .u32 (Y:Int),.int .i64 L] 70)).heap.size):=(zi HG2.out).1;have HG3s:Hid (W1.heap.size<(W1.alloc (.cells #[.int .u32 (X:Int),.int .u32 (Y:Int),.int .i64 L] 70)).heap.size):=(zi HG3.out).1
  have HG32:Hid (W1.heap.size≠w.heap.size):=Nat.ne_of_gt hs1;obtain⟨g3,hg3⟩:∃ g3,W1.heap.size=g3:=⟨_,rfl⟩;obtain⟨W2,hW2⟩:∃ W2,W1.alloc (.cells #[.int .u32 (X:Int),.int .u32 (Y:Int),.int .i64 L] 70)=W2:=⟨_,rfl⟩;rw[hW2] at HB2 HG2 HG3 HG2s HG3s ⊢;rw[hg3] at HG3 HG3s HG32 ⊢;clear hW2 hg3 hs1 HC HG2n HBn;obtain⟨t0,t1,t2⟩:=Cel.cells HG3.out;go_wp2_with fail;refine Calls.mono (HSh.out W2 (HR.out.below HB2.out zn)) ?_;rintro e W3 ⟨vs,rfl,hvs,b3⟩;have HV:Hid (∀ q,q<4→W3.ownsRow W2.heap.size 79 4 (vs q) (part l q).length ((part l q).flatMap rc)):=hvs;have HB3:Hid (Below W2.heap.size W2 W3):=b3;clear hvs b3 t0 t1 t2;go_wp2_with fail
  go_loopw [4,28] (fun kv i wr=>∃ j:Nat,j≤4∧i=.int .i64 (j:Int)∧∃ ks,KJ d l W3 j ks kv wr) (fun _ i _=>4 - zam i)
  case atStart=>exact⟨0,by omega,rfl,[],rfl,World.ownsRow_nil _ _ _ _,fun i h1 _=>absurd h1 (by simp),Below.refl _ _⟩
  case round=>
   obtain⟨j,hj,rfl,ks,hJ⟩:=hrel;have HJ:Hid (KJ d l W3 j ks u4 wr):=hJ;clear hJ;by_cases hlt:j<4
   ·have q3:(j:Int)<4:=by omega
    have hix:=ixs vs j hlt;obtain⟨oj,cj,ej,sj⟩:=zai (HV.out j hlt);rw[ej] at hix;have HS:Hid (zac wr oj cj (part l j)):=Sl.below sj (HJ.out.bel) zn;have HP:Hid _:=ze0 l j;clear sj ej;obtain⟨pl,hpl⟩:∃ pl,(part l j).length=pl:=⟨_,rfl⟩;have HPL:Hid ((part l j).length=pl):=hpl;rw[hpl] at hix;clear hpl;have k1:(j:Int)+1≤9223372036854775807:=by omega
    by_cases hp:pl=0
    ·have q4:decide (0<pl)=false:=decide_eq_false (by omega)
     have HN:Hid (KJ d l W3 (j+1) ks u4 wr):=HJ.out.skip (List.eq_nil_of_length_eq_zero (by rw[HPL.out];exact hp));clear hp;go_wp2_with fail
     go_roundw
     case rel=>exact⟨j+1,by omega,by go_num,ks,HN.out⟩
     case measure=>simp[zam];omega
    ·have q4:decide (0<pl)=true:=decide_eq_true (by omega)
     have HNP:Hid (part l j≠[]):=fun e=>by have:=HPL.out;rw[e] at this;exact hp this.symm
     clear hp;go_wp2_with fail;have hcall:=IH.out (part l j) oj cj wr HS.out (Hon.out.part j) (Nat.le_trans HP.out hmax) (by have:=zhI Hon.out HM.out j;have:=HM.out;have:=HD.out;omega);rw[HPL.out] at hcall;refine hcall.mono ?_;rintro e W4 ⟨nn,rfl,n4,b4⟩;clear hcall;obtain⟨nX,nY,nL,nro,nrn,nrc,nko,nkn,nkc⟩:=nn;have hb5:=zaa W4 (.cells #[.int .u32 (nX:Int),.int .u32 (nY:Int),.int .i64 (nL:Int),.slice nro nrn nrc,.slice nko nkn nkc] 73);have hkl:=zpx l j
     obtain⟨v',W',hrun,a1,a2,a3⟩:=zaV 71 73 Tryz.underlying71 zmh rfl (by decide) (by decide) (W4.alloc (.cells #[.int .u32 (nX:Int),.int .u32 (nY:Int),.int .i64 (nL:Int),.slice nro nrn nrc,.slice nko nkn nkc] 73)) W3.heap.size ks.length 1 u4 (some ⟨W4.heap.size,0,none⟩) 1
      (ks.flatMap nc) (nc ⟨nX,nY,nL,nro,nrn,nrc,nko,nkn,nkc⟩) (zcy HJ.out.own fun b _ hb=>(hb5.block b (by have:=b4.size;omega)).trans (b4.block b hb)) (by have:=HJ.out.bel.size;have:=b4.size;simp;omega) (zml (zq W4 _)) (zoe _) (by have:=HJ.out.len;omega)
     have HN:Hid (KJ d l W3 (j+1) (ks++[⟨nX,nY,nL,nro,nrn,nrc,nko,nkn,nkc⟩]) v' W'):=HJ.out.step HNP.out b4 n4 hb5 a1 a2 a3;clear n4 b4 hb5 a1 a2 a3 hkl
     go_wp2_with (refine zaq rfl 71 71 (.tmp 34) (.tmp 37) rfl rfl rfl hrun ?_)
     go_roundw
     case rel=>exact⟨j+1,by omega,by go_num,_,HN.out⟩
     case measure=>simp[zam];omega
   ·obtain rfl:j=4:=by omega
    have q3:¬((4:Nat):Int)<4:=by omega
    obtain⟨ko,kc,rfl,sk⟩:=zai HJ.out.own;obtain⟨kn,hkn⟩:∃ kn,ks.length=kn:=⟨_,rfl⟩;have HKN:Hid (ks.length=kn):=hkn;have hg2:wr.heap[w.heap.size]? =some (.cells #[.int .u32 0,.int .u32 0,.int .i64 0,.slice none 0 0,.slice none 0 0] 73 (0,0)):=(HJ.out.bel.block _ (by have:=HB3.out.size;have:=HG2s.out;omega)).trans ((HB3.out.block _ HG2s.out).trans HG2.out);have hg3:wr.heap[g3]? =some (.cells #[.int .u32 (X:Int),.int .u32 (Y:Int),.int .i64 L] 70 (0,0)):=(HJ.out.bel.block _ (by have:=HB3.out.size;have:=HG3s.out;omega)).trans ((HB3.out.block _ HG3s.out).trans HG3.out);obtain⟨z0,z1,z2,z3,z4,f0,f1,f2,f3,f4⟩:=zbV hg2;obtain⟨t0,t1,t2⟩:=Cel.cells hg3;obtain⟨p1,p2,p3⟩:=zcO hg2 (.int .u32 (X:Int)) (.int .u32 (Y:Int)) (.int .i64 L) (.slice none 0 0) (.slice ko kn kc);have HP1:Hid _:=p1;have HP3:Hid (Below w.heap.size w _):=HB2.out.trans (((HB3.out.trans (HJ.out.bel.mono HB3.out.size)).mono (Nat.le_of_lt HG2s.out)).trans p3)
    have HN:Hid (zas (fun b=>w.heap.size≤b) (d+1) (((((wr.setCell ⟨w.heap.size,0,none⟩ (.int .u32 (X:Int))).setCell ⟨w.heap.size,1,none⟩ (.int .u32 (Y:Int))).setCell ⟨w.heap.size,2,none⟩ (.int .i64 L)).setCell ⟨w.heap.size,3,none⟩ (.slice none 0 0)).setCell ⟨w.heap.size,4,none⟩ (.slice ko kn kc)) ⟨X,Y,lev l,none,0,0,ko,kn,kc⟩ l):=by
     refine(?_:zas (fun b=>w.heap.size≤b) (d+1) _ _ l);have hlt3:w.heap.size<W3.heap.size:=by have:=HB3.out.size;have:=HG2s.out;omega
     have hkl:=zod l;refine⟨HX.out.symm,HY.out.symm,rfl,(fun h=>by rw[HLf.out] at h;cases h),fun _=>⟨rfl,Sl.nil 4 _,ks,hkn.symm,?_,?_,fun _ b off e=>?_,fun i h1 h2=>?_⟩⟩
     ·rw[←hkl];exact HJ.out.len
     ·refine Sl.same sk (by simp[World.setCell]) fun b off e _=>p2 b ?_
      have e':ko=some ⟨b,off,none⟩:=e;have hh:W3.heap.size≤b:=(zaL HJ.out.own (by rw[e'];rfl)).1;omega
     ·have e':ko=some ⟨b,off,none⟩:=e
      have hh:W3.heap.size≤b:=(zaL HJ.out.own (by rw[e'];rfl)).1;show w.heap.size≤b;omega
     ·have a:=HJ.out.nodes i h1 h2
      exact(a.same (by simp[World.setCell]) fun b hG _=>p2 b (by have:=hG.1;omega)).mono fun b _ hG=>by have:=hG.1;show w.heap.size≤b;omega
    rw[hkn];clear p1 p2 p3 hg2 hg3 sk hkn;go_wp2_with fail;refine bodyPost_ret (zbK rfl _ _ _ _ _ _ _ _ rfl HP1.out) rfl ⟨⟨X,Y,lev l,none,0,0,ko,kn,kc⟩,?_,HN.out,HP3.out⟩;rw[←HL.out]
theorem zhS:∀ (d:Nat) (l:List Rw) (o:Option Addr) (cap:Nat) (w:World),zac w o cap l→On l→l.length≤1000→lev l<d→
  Calls Tryz.prog 70 #[.slice o l.length cap] w fun e w'=>∃ n:Nv,e=.returned (nv n)∧zas (fun b=>w.heap.size≤b) d w' n l∧Below w.heap.size w w'
 |0,_,_,_,_,_,_,_,h=>absurd h (by omega)
 |d+1,l,o,cap,w,hr,hon,hmax,hd=>by
  by_cases hne:l.length=0
  ·have:l=[]:=List.eq_nil_of_length_eq_zero hne
   subst this;exact zmk d o cap w
  ·cases hlf:leaf l
   ·exact ziT d (zhS d) l o cap w hr hon hmax hlf hd
   ·exact zke d l o cap w hr hon hmax (by omega) hlf
theorem zcP {fn:Func} {p u:Tmp} (h:fn.results=#[.cell p 73,.tmp u]) (tmps:Array Value) (w:World) (g:Nat) (a b c d e x:Value) {t:TypeId}
  (hp:tmps.getD p undef=.pointer (some ⟨g,0,none⟩)) (hu:tmps.getD u undef=x) (hg:w.heap[g]? =some (.cells #[a,b,c,d,e] t (0,0))):(results fn tmps).run Tryz.prog w=.ok (.tuple #[.agg #[a,b,c,d,e],x]) w:=by
 have hp':tmps[p]?.getD undef=.pointer (some ⟨g,0,none⟩):=by simpa using hp
 have hu':tmps[u]?.getD undef=x:=by simpa using hu
 have c0:w.cell? ⟨g,0,none⟩=some a:=by rw[zr hg];rfl
 have c1:w.cell? ⟨g,1,none⟩=some b:=by rw[zr hg];rfl
 have c2:w.cell? ⟨g,2,none⟩=some c:=by rw[zr hg];rfl
 have c3:w.cell? ⟨g,3,none⟩=some d:=by rw[zr hg];rfl
 have c4:w.cell? ⟨g,4,none⟩=some e:=by rw[zr hg];rfl
 simp[results,h,hp',hu',asAddr,go_sem,c0,c1,c2,c3,c4]
theorem zhT (l:List Rw) (o:Option Addr) (cap:Nat) (w:World) (hr:zac w o cap l) (h:zaG l=false):
  Calls Tryz.prog 36 #[.slice o l.length cap] w fun e w'=>e=.returned (.tuple #[nv ⟨0,0,0,none,0,0,none,0,0⟩,.int .i64 80])∧Below w.heap.size w w':=by
 have hbn:=zaa w (.cells #[.int .u32 0,.int .u32 0,.int .i64 0,.slice none 0 0,.slice none 0 0] 73);have HC:Hid _:=zdd l o cap _ (hr.below hbn zn);rw[h] at HC;have HBn:Hid _:=hbn;have HG:Hid _:=zq w (.cells #[.int .u32 0,.int .u32 0,.int .i64 0,.slice none 0 0,.slice none 0 0] 73);clear hr h hbn;go_enter Tryz.func36,Tryz.ntmps36;go_wp2_with fail;refine Calls.mono HC.out ?_;rintro e W1 ⟨rfl,b1⟩;have hg:W1.heap[w.heap.size]? =some (.cells #[.int .u32 0,.int .u32 0,.int .i64 0,.slice none 0 0,.slice none 0 0] 73 (0,0)):=(b1.block _ (by simp)).trans HG.out;have HB1:Hid (Below w.heap.size w W1):=HBn.out.trans (b1.mono (by simp));obtain⟨z0,z1,z2,z3,z4,f0,f1,f2,f3,f4⟩:=zbV hg;obtain⟨p1,_,p3⟩:=zcO hg (.int .u32 0) (.int .u32 0) (.int .i64 0) (.slice none 0 0) (.slice none 0 0);have HP1:Hid _:=p1;have HP3:Hid _:=HB1.out.trans p3;clear p1 p3 b1 HC hg;go_wp2_with fail;refine bodyPost_ret (zcP rfl _ _ _ _ _ _ _ _ _ rfl rfl HP1.out) rfl ⟨rfl,HP3.out⟩
theorem zhU (l:List Rw) (o:Option Addr) (cap:Nat) (w:World) (hr:zac w o cap l) (h:zaG l=true):
  Calls Tryz.prog 36 #[.slice o l.length cap] w fun e w'=>∃ n:Nv,e=.returned (.tuple #[nv n,.int .i64 0])∧zas (fun b=>w.heap.size≤b) 32 w' n l∧Below w.heap.size w w':=by
 have hbn:=zaa w (.cells #[.int .u32 0,.int .u32 0,.int .i64 0,.slice none 0 0,.slice none 0 0] 73);have HC:Hid _:=zdd l o cap _ (hr.below hbn zn);have HT:Hid (∀ W,zac W o cap l→_):=fun W hW=>zhS 32 l o cap W hW (zbJ h) ((zaH l).1 h).1 (by have:=zfE (zbJ h);omega)
 rw[h] at HC;have HBn:Hid _:=hbn;have HR:Hid _:=hr;have HG:Hid _:=zq w (.cells #[.int .u32 0,.int .u32 0,.int .i64 0,.slice none 0 0,.slice none 0 0] 73);clear hr h hbn;go_enter Tryz.func36,Tryz.ntmps36;go_wp2_with fail;refine Calls.mono HC.out ?_;rintro e W1 ⟨rfl,b1⟩;have HB1:Hid (Below w.heap.size w W1):=HBn.out.trans (b1.mono (by simp));have HG1:Hid (W1.heap[w.heap.size]? =some (.cells #[.int .u32 0,.int .u32 0,.int .i64 0,.slice none 0 0,.slice none 0 0] 73 (0,0))):=(b1.block _ (by simp)).trans HG.out;have HS1:Hid (w.heap.size<W1.heap.size):=(zi HG1.out).1;clear b1 HC;go_wp2_with fail;refine Calls.mono (HT.out W1 (HR.out.below HB1.out zn)) ?_;rintro e W2 ⟨⟨nX,nY,nL,nro,nrn,nrc,nko,nkn,nkc⟩,rfl,n1,b2⟩;have hg:W2.heap[w.heap.size]? =some (.cells #[.int .u32 0,.int .u32 0,.int .i64 0,.slice none 0 0,.slice none 0 0] 73 (0,0)):=(b2.block _ HS1.out).trans HG1.out;obtain⟨z0,z1,z2,z3,z4,f0,f1,f2,f3,f4⟩:=zbV hg
 obtain⟨p1,p2,p3⟩:=zcO hg (.int .u32 (nX:Int)) (.int .u32 (nY:Int)) (.int .i64 (nL:Int)) (.slice nro nrn nrc) (.slice nko nkn nkc);have HP1:Hid _:=p1;have HP3:Hid (Below w.heap.size w _):=(HB1.out.trans (b2.mono (Nat.le_of_lt HS1.out))).trans p3;have HN:Hid _:=(n1.same (by simp[World.setCell]) (fun b hG _=>p2 b (by have:=HS1.out;omega))).mono fun b _ hG=>(by have:=HS1.out;omega:w.heap.size≤b)
 clear p1 p2 p3 b2 hg n1;go_wp2_with fail;refine bodyPost_ret (zcP rfl _ _ _ _ _ _ _ _ _ rfl rfl HP1.out) rfl ⟨⟨nX,nY,nL,nro,nrn,nrc,nko,nkn,nkc⟩,rfl,HN.out,HP3.out⟩
theorem zmm (o:Option Addr) (n cap r:Nat) (w:World) (hr:r≤cap) (ho:o=none→cap=0):(Instr.sliceAt 22 (.slice o n cap) none (some (.int .i64 (r:Int))) none).run Tryz.prog w=.ok (.slice o r cap) w:=by
 have h1:(r:Int)≤(cap:Int):=by omega
 cases o with
 |none=>
  have:=ho rfl;subst this;obtain rfl:r=0:=by omega
  simp[Instr.sliceAt,Instr.slice,run_underlying Tryz.underlying22,go_sem]
 |some a=>
  simp[Instr.sliceAt,Instr.slice,run_underlying Tryz.underlying22,go_sem];intro h;omega
theorem zac.head {w:World} {o:Option Addr} {cap:Nat} {l:List Rw} (h:zac w o cap l) (n:Nat):zac w o cap (l.take n):=by
 have hle:(l.take n).length≤l.length:=by rw[List.length_take];omega
 refine⟨Nat.le_trans hle h.1,h.2.1,h.2.2.1,zcx rc 4 (fun _=>rfl) _,fun hn=>?_⟩;obtain⟨b,off,e,hlt,hc⟩:=h.2.2.2.2 (by omega);refine⟨b,off,e,hlt,fun j u hu=>hc j u ?_⟩;have:l.flatMap rc=(l.take n).flatMap rc++(l.drop n).flatMap rc:=by rw[←List.flatMap_append,List.take_append_drop]
 rw[this,List.getElem?_append_left (List.getElem?_eq_some_iff.1 hu).1];exact hu
def qs (l:List Rw):List Nat:=[0,1,2,3].filter fun q=> !(part l q).isEmpty
theorem kids_qs (l:List Rw):zao l=(qs l).map (part l):=by
 unfold zao qs;rw[List.filter_map];rfl
theorem qs_lt {l:List Rw} {q:Nat} (h:q∈qs l):q<4∧part l q≠[]:=by
 unfold qs at h;rw[List.mem_filter] at h;refine⟨?_,fun e=>by rw[e] at h;simp at h⟩;have:=h.1;simp at this;omega
end Rq
end Go.Proofs.YtokfnghckpgjmaaGreatDoor
