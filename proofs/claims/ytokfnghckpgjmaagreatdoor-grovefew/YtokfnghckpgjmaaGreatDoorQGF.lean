/- The tree of rows. -/
import Derived.Test.YtokfnghckpgjmaaGreatDoorPPo
import Derived.Test.YtokfnghckpgjmaaGreatDoorPPk
import Derived.Test.YtokfnghckpgjmaaGreatDoorQCK
set_option maxRecDepth 100000
set_option maxHeartbeats 4000000
namespace Go.Proofs.YtokfnghckpgjmaaGreatDoor
namespace Rq
open Go.RowKit Go.Lib Go.Shelf
open Rc
theorem gT {P:Program} {c:Array Oper} {b:List Oper} {o:Oper} {a:Act} {w:World} {Q:Exit→Act→World→Prop} (e:o.guard=none) (t u:TypeId) (s x:Operand) (g:o.op=.call { callee:=.builtin .append,args:=#[s,x],argTypes:=#[t,u] })
  {vs vx v':Value} {f:World} (i:a.eval s=vs) (j:a.eval x=vx) (d:(Builtin.append_ #[t,u] o.type #[vs,vx]).run P w=.ok v' f) (h:wpList P c Q b (a.put o.dst v') f):wpList P c Q (o::b) a w:=
 wpList_plain e fun _ k=>by
  unfold Oper.wp execOp;simp only[g,resolve,invoke,builtin,Sem.run_bind,Sem.run_pure,Result.andThen_ok,List.map_toArray,List.map_cons,List.map_nil,i,j,d];exact k _ _ h
theorem sW (a:Addr) (n c:Nat) (w:World):(binOp .eql 22 (.slice (some a) n c) (.slice none 0 0)).run Tryz.prog w=.ok (.bool false) w:=uk
theorem zkd (l:List Rw) (o:Option Addr) (a:Nat) (w:World) (i:cH w o a l) (h:0<l.length) (j:l.length≤1000):
  Calls Tryz.prog 101 #[.slice o l.length a] w fun e m=>∃ v,e=.returned v∧m.ownsRow w.heap.size 79 4 v l.length (l.flatMap rc)∧Below w.heap.size w m:=by
 obtain⟨b,c,rfl,x,_⟩:=i.row h;have d:=bF w (.cells #[] 79)
 have f:(w.alloc (.cells #[] 79)).ownsRow w.heap.size 79 4 (.slice (some ⟨w.heap.size,0,none⟩) 0 0) 0 []:=
  ⟨by simp,.inr ⟨w.heap.size,0,#[],rfl,Nat.le_refl _,zq w _,Nat.le_refl _,by decide,rfl,rfl⟩⟩
 obtain⟨n,p,g,q,r,y⟩:=iu 22 79 Tryz.underlying22 mF rfl ud ud (w.alloc (.cells #[] 79)) w.heap.size 0 l.length (.slice (some ⟨w.heap.size,0,none⟩) 0 0) (some ⟨b,c,none⟩) a
    [] (l.flatMap rc) f us (Sl.below i d zn) (oZ l) uo
 have s:Hid _:=d.grown r us fun k t=>by simp[Value.ownBlock] at t;omega
 have u:Hid (p.ownsRow w.heap.size 79 4 n l.length (l.flatMap rc)):=by
  have:=q;rw[Nat.zero_add,List.nil_append] at this;exact this
 have z:=fun w=>sW ⟨b,c,none⟩ l.length a w
 go_enter Tryz.func101,Tryz.ntmps101
 go_wp2_with (refine gT rfl 22 22 (.tmp 5) (.tmp 6) rfl rfl rfl g ?_)
 go_ret;exact⟨n,rfl,u.o,s.o⟩
theorem zfd:leaf []=true:=rfl
theorem zmj (G:Nat→Prop) (d:Nat) (w:World):ci G (d+1) w ⟨0,0,0,none,0,0,none,0,0⟩ []:=
 ⟨rfl,rfl,rfl,fun _=>⟨rfl,Sl.nil 4 w,fun h=>absurd h ud,rfl,Sl.nil 5 w⟩,fun h=>by rw[zfd] at h;cases h⟩
theorem mG {k:Func} {p:Tmp} (h:k.results=#[.cell p 73]) (f:Array Value) (w:World) (g:Nat) (a b c d e:Value) {t:TypeId}
  (l:f.getD p undef=.pointer (some ⟨g,0,none⟩)) (i:w.heap[g]? =some (.cells #[a,b,c,d,e] t (0,0))):(results k f).run Tryz.prog w=.ok (.agg #[a,b,c,d,e]) w:=by
 have m:w.cell? ⟨g,0,none⟩=some a:=by rw[zr i];rfl
 have n:w.cell? ⟨g,1,none⟩=some b:=by rw[zr i];rfl
 have o:w.cell? ⟨g,2,none⟩=some c:=by rw[zr i];rfl
 have q:w.cell? ⟨g,3,none⟩=some d:=by rw[zr i];rfl
 have r:w.cell? ⟨g,4,none⟩=some e:=by rw[zr i];rfl
 simp[results,h,(by simpa using l),asAddr,go_sem,m,n,o,q,r]
theorem et {w:World} {g:Nat} {a b c d e:Value} {t:TypeId} (f:w.heap[g]? =some (.cells #[a,b,c,d,e] t (0,0))):
  w.frozen? ⟨g,0,none⟩=false∧w.frozen? ⟨g,1,none⟩=false∧w.frozen? ⟨g,2,none⟩=false∧w.frozen? ⟨g,3,none⟩=false∧w.frozen? ⟨g,4,none⟩=false∧
  w.cell? ⟨g,0,none⟩=some a∧w.cell? ⟨g,1,none⟩=some b∧w.cell? ⟨g,2,none⟩=some c∧w.cell? ⟨g,3,none⟩=some d∧w.cell? ⟨g,4,none⟩=some e:=
 ⟨frozen_of_row w g 0 _ _ f,frozen_of_row w g 1 _ _ f,frozen_of_row w g 2 _ _ f,frozen_of_row w g 3 _ _ f,frozen_of_row w g 4 _ _ f,by rw[zr f];rfl,by rw[zr f];rfl,by rw[zr f];rfl,by rw[zr f];rfl,by rw[zr f];rfl⟩
theorem dp (w:World) (g k:Nat) (v:Value) {j:Nat} (hj:j≠g):(w.setCell ⟨g,k,none⟩ v).heap[j]? =w.heap[j]? :=Below.heap_setCell _ _ _ _ hj
theorem lT {w:World} {g:Nat} {x0 l m n p:Value} {t:TypeId} (h:w.heap[g]? =some (.cells #[x0,l,m,n,p] t (0,0))) (a b c d e:Value):
  (((((w.setCell ⟨g,0,none⟩ a).setCell ⟨g,1,none⟩ b).setCell ⟨g,2,none⟩ c).setCell ⟨g,3,none⟩ d).setCell ⟨g,4,none⟩ e).heap[g]? =some (.cells #[a,b,c,d,e] t (0,0))∧
  (∀ j,j≠g→(((((w.setCell ⟨g,0,none⟩ a).setCell ⟨g,1,none⟩ b).setCell ⟨g,2,none⟩ c).setCell ⟨g,3,none⟩ d).setCell ⟨g,4,none⟩ e).heap[j]? =w.heap[j]?)∧
  Below g w (((((w.setCell ⟨g,0,none⟩ a).setCell ⟨g,1,none⟩ b).setCell ⟨g,2,none⟩ c).setCell ⟨g,3,none⟩ d).setCell ⟨g,4,none⟩ e):=by
 have x:=zx _ g 4 _ _ e (zx _ g 3 _ _ d (zx _ g 2 _ _ c (zx _ g 1 _ _ b (zx w g 0 _ _ a h))))
 have o:∀ j,j≠g→(((((w.setCell ⟨g,0,none⟩ a).setCell ⟨g,1,none⟩ b).setCell ⟨g,2,none⟩ c).setCell ⟨g,3,none⟩ d).setCell ⟨g,4,none⟩ e).heap[j]? =w.heap[j]? :=fun j f=>by
  rw[dp _ _ _ _ f,dp _ _ _ _ f,dp _ _ _ _ f,dp _ _ _ _ f,dp _ _ _ _ f]
 have i:∀ (w:World) (k:Nat) (v:Value),Below g w (w.setCell ⟨g,k,none⟩ v):=fun w k v=>⟨rfl,rfl,rfl,by simp[World.setCell],fun j f=>dp w g k v uo⟩
 exact⟨x,o,(i w 0 a).trans ((i _ 1 b).trans ((i _ 2 c).trans ((i _ 3 d).trans (i _ 4 e))))⟩
theorem qJ {g X Y:Nat} {L:Int} {w w':World} (h:cG g X Y L w) (e:w'.heap[g]? =w.heap[g]?):cG g X Y L w':=
 ⟨(World.cell?_of_block (a:=⟨g,0,none⟩) e).trans h.1,(World.cell?_of_block (a:=⟨g,1,none⟩) e).trans h.2.1,(World.cell?_of_block (a:=⟨g,2,none⟩) e).trans h.2.2⟩
theorem zmk (d:Nat) (o:Option Addr) (a:Nat) (w:World):
  Calls Tryz.prog 70 #[.slice o 0 a] w fun e c=>∃ n:Nv,e=.returned (nv n)∧ci (fun b=>w.heap.size≤b) (d+1) c n []∧Below w.heap.size w c:=by
 have f:Hid (Below w.heap.size w (w.alloc (.cells #[.int .u32 0,.int .u32 0,.int .i64 0,.slice none 0 0,.slice none 0 0] 73))):=bF w _;have g:Hid ((w.alloc (.cells #[.int .u32 0,.int .u32 0,.int .i64 0,.slice none 0 0,.slice none 0 0] 73)).heap[w.heap.size]? =some (.cells #[.int .u32 0,.int .u32 0,.int .i64 0,.slice none 0 0,.slice none 0 0] 73 (0,0))):=zq w _;go_enter Tryz.func70,Tryz.ntmps70;go_wp2_with fail;refine bodyPost_ret (mG rfl _ _ _ _ _ _ _ _ rfl g.o) rfl ⟨⟨0,0,0,none,0,0,none,0,0⟩,rfl,zmj _ d _,f.o⟩
theorem zke (d:Nat) (l:List Rw) (o:Option Addr) (u:Nat) (w:World) (hr:cH w o u l) (Z:On l) (B:l.length≤1000) (P:0<l.length) (D:leaf l=true):
  Calls Tryz.prog 70 #[.slice o l.length u] w fun e w'=>∃ n:Nv,e=.returned (nv n)∧ci (fun b=>w.heap.size≤b) (d+1) w' n l∧Below w.heap.size w w':=by
  have Q:Hid _:=D;have R:Hid (∀ W,cH W o u l→_):=fun W h=>zkd l o u W h P B
  have a0:cH (w.alloc (.cells #[.int .u32 0,.int .u32 0,.int .i64 0,.slice none 0 0,.slice none 0 0] 73)) o u l:=hr.below (bF w _) zn;have HC:Hid _:=zez l o u (w.alloc (.cells #[.int .u32 0,.int .u32 0,.int .i64 0,.slice none 0 0,.slice none 0 0] 73)) a0 P Z B;have C:Hid ((w.alloc (.cells #[.int .u32 0,.int .u32 0,.int .i64 0,.slice none 0 0,.slice none 0 0] 73)).heap[w.heap.size]? =some (.cells #[.int .u32 0,.int .u32 0,.int .i64 0,.slice none 0 0,.slice none 0 0] 73 (0,0))):=zq w _;have T:Hid (Below w.heap.size w (w.alloc (.cells #[.int .u32 0,.int .u32 0,.int .i64 0,.slice none 0 0,.slice none 0 0] 73))):=bF w _;have HR:Hid _:=hr;obtain⟨X,hX⟩:∃ X,cx l=X:=⟨_,rfl⟩;obtain⟨Y,hY⟩:∃ Y,cy l=Y:=⟨_,rfl⟩;obtain⟨L,hL⟩:∃ L:Int,(cQ l:Int)=L:=⟨_,rfl⟩;have HX:Hid _:=hX;have HY:Hid _:=hY;have HL:Hid _:=hL
  by_cases h4:l.length≤4
  ·have q1:=decide_eq_true uo
   go_enter Tryz.func70,Tryz.ntmps70;go_wp2_with fail;refine Calls.mono HC.o ?_;rintro e j ⟨rfl,k⟩;have y:=(k.block _ us).trans C.o;have z:w.heap.size<j.heap.size:=by have:=k.size;simp at this;omega
   have q:Hid (Below w.heap.size w (j.alloc (.cells #[.int .u32 (X:Int),.int .u32 (Y:Int),.int .i64 L] 70))):=(T.o.trans (k.mono us)).trans ((bF j _).mono uo);have r:Hid ((j.alloc (.cells #[.int .u32 (X:Int),.int .u32 (Y:Int),.int .i64 L] 70)).heap[w.heap.size]? =some (.cells #[.int .u32 0,.int .u32 0,.int .i64 0,.slice none 0 0,.slice none 0 0] 73 (0,0))):=((bF j _).block _ z).trans y;have g:Hid ((j.alloc (.cells #[.int .u32 (X:Int),.int .u32 (Y:Int),.int .i64 L] 70)).heap[j.heap.size]? =some (.cells #[.int .u32 (X:Int),.int .u32 (Y:Int),.int .i64 L] 70 (0,0))):=zq j _;go_wp2_with fail;have a:Hid _:=(zi r.o).1;have i:Hid _:=(zi g.o).1
   have m:Hid _:=Nat.ne_of_gt z;obtain⟨A,E⟩:∃ A,j.heap.size=A:=⟨_,rfl⟩;obtain⟨s,F⟩:∃ s,j.alloc (.cells #[.int .u32 (X:Int),.int .u32 (Y:Int),.int .i64 L] 70)=s:=⟨_,rfl⟩;rw[F] at q r g a i ⊢;rw[E] at g i m ⊢;obtain⟨t0,t1,t2⟩:=el.cells g.o;go_wp2_with fail;have c:Hid _:=el.cells g.o;have G:Hid _:=HR.o.below q.o zn;refine wp_region_held (S:=cG A X Y L) uk ?_;change wpAnyH _ _ _ _ _ _ _ _ (World.drew _);refine bB [0,1] ?_
   iterate 2
    refine bS (v:=?_) rfl ?_ c.o ?_;rotate_left
    ·rintro w ⟨e1,e2,e3⟩;go_simp;try with_reducible rfl
    conv in(Act.put _ _ _)=>simp only[bH,bI,bJ,Act.put,bK,bL,bM]
   refine bA ?_;refine dF 2 _ uk rfl uk (fun K H=>?_);go_simp;refine(R.o s.drew (Sl.below G.o ((Below.refl _ s).drew) zn)).mono ?_;rintro e W3 ⟨v,rfl,I,k⟩
   replace k:=(Below.refl _ s).drew.trans k
   replace c:Hid _:=cG.below (el.cells g.o) k i.o
   have p:Hid _:=(k.block _ a.o).trans r.o;refine H _ _ c.o ?_;obtain⟨x,f,rfl,sl⟩:=dx I;obtain⟨n,U⟩:∃ n,l.length=n:=⟨_,rfl⟩;rw[U];refine bB [3] ?_;refine bS (v:=?_) rfl ?_ c.o ?_;rotate_left
   ·rintro w ⟨e1,e2,e3⟩;go_simp;try with_reducible rfl
   conv in(Act.put _ _ _)=>simp only[bH,bI,bJ,Act.put,bK,bL,bM]
   refine bA ?_;obtain⟨z0,z1,z2,z3,z4,f0,f1,f2,f3,f4⟩:=et p.o;obtain⟨p1,V,p3⟩:=lT p.o (.int .u32 (X:Int)) (.int .u32 (Y:Int)) (.int .i64 L) (.slice x n f) (.slice none 0 0);have J:Hid _:=p1;have M:Hid _:=q.o.trans ((k.mono (Nat.le_of_lt a.o)).trans p3)
   have HN:Hid (ci (fun b=>w.heap.size≤b) (d+1) (((((W3.setCell ⟨w.heap.size,0,none⟩ (.int .u32 (X:Int))).setCell ⟨w.heap.size,1,none⟩ (.int .u32 (Y:Int))).setCell ⟨w.heap.size,2,none⟩ (.int .i64 L)).setCell ⟨w.heap.size,3,none⟩ (.slice x n f)).setCell ⟨w.heap.size,4,none⟩ (.slice none 0 0)) ⟨X,Y,cQ l,x,n,f,none,0,0⟩ l):=by
    refine(?_:ci (fun b=>w.heap.size≤b) (d+1) _ _ l);refine⟨HX.o.symm,HY.o.symm,rfl,fun _=>⟨U.symm,?_,fun _ b t e=>?_,rfl,Sl.nil 5 _⟩,fun h=>by rw[Q.o] at h;cases h⟩
    ·refine Sl.same sl (by simp[World.setCell]) fun b t e _=>V b ?_
     have N:s.heap.size≤b:=(fu I (by have O:x=some ⟨b,t,none⟩:=e;rw[O];rfl)).1;have:=a.o;omega
    ·have N:s.heap.size≤b:=(fu I (by have O:x=some ⟨b,t,none⟩:=e;rw[O];rfl)).1
     have:=a.o;omega
   replace c:Hid _:=qJ c.o (V A m.o)
   refine dF 4 _ uk rfl uk (fun K H=>?_);go_simp;refine H _ _ c.o ?_;refine wpAnyH_done uk ?_ _;go_wp2_with fail;refine bodyPost_ret (mG rfl _ _ _ _ _ _ _ _ rfl J.o) rfl ⟨⟨X,Y,cQ l,x,n,f,none,0,0⟩,?_,HN.o,M.o⟩;rw[←HL.o]
  ·have q1:=decide_eq_false uo
   have q2:(L==0)=true:=by
    rw[beq_iff_eq,←hL];unfold leaf at D;rw[decide_eq_true_iff] at D;omega
   go_enter Tryz.func70,Tryz.ntmps70;go_wp2_with fail;refine Calls.mono HC.o ?_;rintro e j ⟨rfl,k⟩;have y:=(k.block _ us).trans C.o;have z:w.heap.size<j.heap.size:=by have:=k.size;simp at this;omega
   have q:Hid (Below w.heap.size w (j.alloc (.cells #[.int .u32 (X:Int),.int .u32 (Y:Int),.int .i64 L] 70))):=(T.o.trans (k.mono us)).trans ((bF j _).mono uo);have r:Hid ((j.alloc (.cells #[.int .u32 (X:Int),.int .u32 (Y:Int),.int .i64 L] 70)).heap[w.heap.size]? =some (.cells #[.int .u32 0,.int .u32 0,.int .i64 0,.slice none 0 0,.slice none 0 0] 73 (0,0))):=((bF j _).block _ z).trans y;have g:Hid ((j.alloc (.cells #[.int .u32 (X:Int),.int .u32 (Y:Int),.int .i64 L] 70)).heap[j.heap.size]? =some (.cells #[.int .u32 (X:Int),.int .u32 (Y:Int),.int .i64 L] 70 (0,0))):=zq j _;go_wp2_with fail;have a:Hid _:=(zi r.o).1;have i:Hid _:=(zi g.o).1
   have m:Hid _:=Nat.ne_of_gt z;obtain⟨A,E⟩:∃ A,j.heap.size=A:=⟨_,rfl⟩;obtain⟨s,F⟩:∃ s,j.alloc (.cells #[.int .u32 (X:Int),.int .u32 (Y:Int),.int .i64 L] 70)=s:=⟨_,rfl⟩;rw[F] at q r g a i ⊢;rw[E] at g i m ⊢;obtain⟨t0,t1,t2⟩:=el.cells g.o;go_wp2_with fail;have c:Hid _:=el.cells g.o;have G:Hid _:=HR.o.below q.o zn;refine wp_region_held (S:=cG A X Y L) uk ?_;change wpAnyH _ _ _ _ _ _ _ _ (World.drew _);refine bB [0,1] ?_
   iterate 2
    refine bS (v:=?_) rfl ?_ c.o ?_;rotate_left
    ·rintro w ⟨e1,e2,e3⟩;go_simp;try with_reducible rfl
    conv in(Act.put _ _ _)=>simp only[bH,bI,bJ,Act.put,bK,bL,bM]
   refine bA ?_;refine dF 2 _ uk rfl uk (fun K H=>?_);go_simp;refine(R.o s.drew (Sl.below G.o ((Below.refl _ s).drew) zn)).mono ?_;rintro e W3 ⟨v,rfl,I,k⟩
   replace k:=(Below.refl _ s).drew.trans k
   replace c:Hid _:=cG.below (el.cells g.o) k i.o
   have p:Hid _:=(k.block _ a.o).trans r.o;refine H _ _ c.o ?_;obtain⟨x,f,rfl,sl⟩:=dx I;obtain⟨n,U⟩:∃ n,l.length=n:=⟨_,rfl⟩;rw[U];refine bB [3] ?_;refine bS (v:=?_) rfl ?_ c.o ?_;rotate_left
   ·rintro w ⟨e1,e2,e3⟩;go_simp;try with_reducible rfl
   conv in(Act.put _ _ _)=>simp only[bH,bI,bJ,Act.put,bK,bL,bM]
   refine bA ?_;obtain⟨z0,z1,z2,z3,z4,f0,f1,f2,f3,f4⟩:=et p.o;obtain⟨p1,V,p3⟩:=lT p.o (.int .u32 (X:Int)) (.int .u32 (Y:Int)) (.int .i64 L) (.slice x n f) (.slice none 0 0);have J:Hid _:=p1;have M:Hid _:=q.o.trans ((k.mono (Nat.le_of_lt a.o)).trans p3)
   have HN:Hid (ci (fun b=>w.heap.size≤b) (d+1) (((((W3.setCell ⟨w.heap.size,0,none⟩ (.int .u32 (X:Int))).setCell ⟨w.heap.size,1,none⟩ (.int .u32 (Y:Int))).setCell ⟨w.heap.size,2,none⟩ (.int .i64 L)).setCell ⟨w.heap.size,3,none⟩ (.slice x n f)).setCell ⟨w.heap.size,4,none⟩ (.slice none 0 0)) ⟨X,Y,cQ l,x,n,f,none,0,0⟩ l):=by
    refine(?_:ci (fun b=>w.heap.size≤b) (d+1) _ _ l);refine⟨HX.o.symm,HY.o.symm,rfl,fun _=>⟨U.symm,?_,fun _ b t e=>?_,rfl,Sl.nil 5 _⟩,fun h=>by rw[Q.o] at h;cases h⟩
    ·refine Sl.same sl (by simp[World.setCell]) fun b t e _=>V b ?_
     have N:s.heap.size≤b:=(fu I (by have O:x=some ⟨b,t,none⟩:=e;rw[O];rfl)).1;have:=a.o;omega
    ·have N:s.heap.size≤b:=(fu I (by have O:x=some ⟨b,t,none⟩:=e;rw[O];rfl)).1
     have:=a.o;omega
   replace c:Hid _:=qJ c.o (V A m.o)
   refine dF 4 _ uk rfl uk (fun K H=>?_);go_simp;refine H _ _ c.o ?_;refine wpAnyH_done uk ?_ _;go_wp2_with fail;refine bodyPost_ret (mG rfl _ _ _ _ _ _ _ _ rfl J.o) rfl ⟨⟨X,Y,cQ l,x,n,f,none,0,0⟩,?_,HN.o,M.o⟩;rw[←HL.o]
def kl (l:List Rw) (j:Nat):List (List Rw):=((List.range j).map (part l)).filter fun m=> !m.isEmpty
theorem zod (l:List Rw):kl l 4=cR l:=rfl
theorem qK {l:List Rw} {j:Nat} (h:part l j=[]):kl l (j+1)=kl l j:=by
 unfold kl;rw[List.range_succ,List.map_append,List.filter_append];simp[h]
theorem nr {l:List Rw} {j:Nat} (h:part l j≠[]):kl l (j+1)=kl l j++[part l j]:=by
 unfold kl;rw[List.range_succ,List.map_append,List.filter_append];simp[h]
theorem zpx (l:List Rw) (j:Nat):(kl l j).length≤j:=by
 unfold kl;exact Nat.le_trans (List.length_filter_le _ _) us
structure KJ (d:Nat) (l:List Rw) (w3:World) (j:Nat) (ks:List Nv) (v:Value) (W:World):Prop where
 len:ks.length=(kl l j).length
 own:W.ownsRow w3.heap.size 73 5 v ks.length (ks.flatMap nc)
 nodes:∀ i (h1:i<ks.length) (h2:i<(kl l j).length),ci (fun b=>w3.heap.size≤b∧v.ownBlock≠some b) d W ks[i] (kl l j)[i]
 bel:Below w3.heap.size w3 W
theorem KJ.skip {d:Nat} {l:List Rw} {w3:World} {j:Nat} {ks:List Nv} {v:Value} {W:World} (h:KJ d l w3 j ks v W) (hp:part l j=[]):KJ d l w3 (j+1) ks v W:=by
 obtain⟨h1,h2,h3,h4⟩:=h;refine⟨by rw[qK hp];exact h1,h2,?_,h4⟩;rw[qK hp];exact h3
theorem KJ.step {d:Nat} {l:List Rw} {r:World} {j:Nat} {o:List Nv} {v:Value} {W W1 W2 W':World} (h:KJ d l r j o v W) (x:part l j≠[]) {n:Nv} {v':Value}
  (k:Below W.heap.size W W1) (F:ci (fun b=>W.heap.size≤b) d W1 n (part l j)) (c:Below W1.heap.size W1 W2) (G:W'.ownsRow r.heap.size 73 5 v' (o.length+1) (o.flatMap nc++nc n)) (p:W2.grownBy W' v.ownBlock) (s:v'.ownBlock=v.ownBlock∨v'.ownBlock=some W2.heap.size):
  KJ d l r (j+1) (o++[n]) v' W':=by
 have y:=k.size;have z:=c.size;have H:=h.bel.size;have D:∀ b,v.ownBlock=some b→r.heap.size≤b∧b<W.heap.size:=fun b f=>fu h.own f
 have m:∀ b,b<W2.heap.size→v.ownBlock≠some b→W'.heap[b]? =W2.heap[b]? :=fun b f q=>p.block b f fun e=>q e.symm
 have t:∀ b,b<W2.heap.size→v.ownBlock≠some b→v'.ownBlock≠some b:=fun b f q e=>by
  rcases s with s|s
  ·rw[s] at e;exact q e
  ·rw[s] at e;cases e;omega
 refine⟨by rw[nr x,List.length_append,List.length_append,h.len];rfl,?_,fun i E I=>?_,h.bel.trans ⟨?_,?_,?_,?_,fun b f=>?_⟩⟩
 ·rw[List.length_append,List.flatMap_append];simpa using G
 ·have e:(kl l (j+1))[i]=(kl l j++[part l j])[i]'(by rw[←nr x];exact I):=by congr 1;exact nr x
  rw[e];by_cases u:i<o.length
  ·rw[List.getElem_append_left u,List.getElem_append_left (by rw[←h.len];exact u)]
   have A:=((h.nodes i u (by rw[←h.len];exact u)).below k zn).below c zn;have B:ci (fun b=>(r.heap.size≤b∧v.ownBlock≠some b)∧b<W2.heap.size) d W2 o[i] ((kl l j)[i]'(by rw[←h.len];exact u)):=A.mono fun b f g=>⟨g,f⟩
   exact(B.same p.size fun b g f=>m b f g.1.2).mono fun b _ g=>⟨g.1.1,t b g.2 g.1.2⟩
  ·have C:i=o.length:=by rw[List.length_append] at E;simp at E;omega
   subst C;rw[List.getElem_append_right zn,List.getElem_append_right (by rw[h.len];omega)];simp only[Nat.sub_self,h.len,List.getElem_cons_zero];have B:ci (fun b=>W.heap.size≤b∧b<W2.heap.size) d W2 n (part l j):=(F.below c zn).mono fun b f g=>⟨g,f⟩
   have w:∀ b,W.heap.size≤b→v.ownBlock≠some b:=fun b f e=>by have:=(D b e).2;omega
   exact(B.same p.size fun b g f=>m b f (w b g.1)).mono fun b _ g=>⟨by omega,t b g.2 (w b g.1)⟩
 ·exact p.os.trans (c.os.trans k.os)
 ·exact p.tape.trans (c.tape.trans k.tape)
 ·exact p.output.trans (c.output.trans k.output)
 ·exact Nat.le_trans y (Nat.le_trans z p.size)
 ·exact(m b uo (fun e=>by have:=(D b e).1;omega)).trans ((c.block b uo).trans (k.block b uo))
theorem ixs (vs:Nat→Value) (j:Nat) (hj:j<4) (w:World):(Instr.index 176 (.agg #[vs 0,vs 1,vs 2,vs 3]) (.int .i64 (j:Int))).run Tryz.prog w=.ok (vs j) w:=by
 obtain rfl|rfl|rfl|rfl:j=0∨j=1∨j=2∨j=3:=uo
 all_goals kernel_rfl
theorem zml {w:World} {g:Nat} {n:Nv} {t:TypeId} {b:Nat × Nat} (h:w.heap[g]? =some (.cells #[.int .u32 (n.X:Int),.int .u32 (n.Y:Int),.int .i64 (n.L:Int),.slice n.ro n.rn n.rc,.slice n.ko n.kn n.kc] t b)):Sl 5 w (some ⟨g,0,none⟩) 1 1 (nc n):=by
 refine⟨Nat.le_refl _,by decide,(fun e=>by cases e),rfl,fun _=>⟨g,0,rfl,(zi h).1,fun j u a=>?_⟩⟩;rw[Nat.zero_add,zr h];have:j<5:=(List.getElem?_eq_some_iff.1 a).1;obtain rfl|rfl|rfl|rfl|rfl:j=0∨j=1∨j=2∨j=3∨j=4:=uo
 all_goals simpa [nc] using a
theorem zoe (n:Nv):∀ u∈nc n,u.oneCell'=true:=by
 have:=zpu [n];simpa using this
theorem ziT (d:Nat) (ih:∀ (l:List Rw) (o:Option Addr) (cap:Nat) (w:World),cH w o cap l→On l→l.length≤1000→cQ l<d→
   Calls Tryz.prog 70 #[.slice o l.length cap] w fun e w'=>∃ n:Nv,e=.returned (nv n)∧ci (fun b=>w.heap.size≤b) d w' n l∧Below w.heap.size w w')
  (l:List Rw) (o:Option Addr) (cap:Nat) (w:World) (hr:cH w o cap l) (hon:On l) (hmax:l.length≤1000) (hlf:leaf l=false) (hd:cQ l<d+1):
  Calls Tryz.prog 70 #[.slice o l.length cap] w fun e w'=>∃ n:Nv,e=.returned (nv n)∧ci (fun b=>w.heap.size≤b) (d+1) w' n l∧Below w.heap.size w w':=by
  obtain⟨h4,m,hm⟩:=mY hlf;have hne:0<l.length:=uo
  have HLf:Hid (leaf l=false):=hlf;have IH:Hid _:=ih;have HSh:Hid (∀ W,cH W o cap l→_):=fun W h=>ziS m l o cap W h hon hmax hm
  have HHR:cH (w.alloc (.cells #[.int .u32 0,.int .u32 0,.int .i64 0,.slice none 0 0,.slice none 0 0] 73)) o cap l:=hr.below (bF w _) zn;have HC:Hid _:=zez l o cap (w.alloc (.cells #[.int .u32 0,.int .u32 0,.int .i64 0,.slice none 0 0,.slice none 0 0] 73)) HHR hne hon hmax;have HG2n:Hid ((w.alloc (.cells #[.int .u32 0,.int .u32 0,.int .i64 0,.slice none 0 0,.slice none 0 0] 73)).heap[w.heap.size]? =some (.cells #[.int .u32 0,.int .u32 0,.int .i64 0,.slice none 0 0,.slice none 0 0] 73 (0,0))):=zq w _;have HBn:Hid (Below w.heap.size w (w.alloc (.cells #[.int .u32 0,.int .u32 0,.int .i64 0,.slice none 0 0,.slice none 0 0] 73))):=bF w _;have HR:Hid (cH w o cap l):=hr;obtain⟨X,hX⟩:∃ X,cx l=X:=⟨_,rfl⟩;obtain⟨Y,hY⟩:∃ Y,cy l=Y:=⟨_,rfl⟩;obtain⟨L,hL⟩:∃ L:Int,(cQ l:Int)=L:=⟨_,rfl⟩;have HX:Hid (cx l=X):=hX;have HY:Hid (cy l=Y):=hY;have HL:Hid ((cQ l:Int)=L):=hL;rw[hX,hY,hL] at HC
  have q0:((l.length:Int)==0)=false:=by rw[beq_eq_false_iff_ne];omega
  have n0:¬l.length=0:=uo
  rw[hX,hY,hL] at HSh;have q1:decide ((l.length:Int)≤4)=false:=decide_eq_false uo;have q2:(L==0)=false:=by rw[beq_eq_false_iff_ne,←hL];omega
  have HM:Hid (cQ l=m+1):=hm;have HD:Hid (cQ l<d+1):=hd;have fs:Hid (On l):=hon;clear hlf h4 hm hd hon ih;clear hr HHR hX hY hL;go_enter Tryz.func70,Tryz.ntmps70;go_wp2_with fail;refine Calls.mono HC.o ?_;rintro e W1 ⟨rfl,b1⟩;have HG2a:=(b1.block _ us).trans HG2n.o;have hs1:w.heap.size<W1.heap.size:=by have:=b1.size;simp at this;omega
  have HB2:Hid (Below w.heap.size w (W1.alloc (.cells #[.int .u32 (X:Int),.int .u32 (Y:Int),.int .i64 L] 70))):=(HBn.o.trans (b1.mono us)).trans ((bF W1 _).mono uo);have HG2:Hid ((W1.alloc (.cells #[.int .u32 (X:Int),.int .u32 (Y:Int),.int .i64 L] 70)).heap[w.heap.size]? =some (.cells #[.int .u32 0,.int .u32 0,.int .i64 0,.slice none 0 0,.slice none 0 0] 73 (0,0))):=((bF W1 _).block _ hs1).trans HG2a;have HG3:Hid ((W1.alloc (.cells #[.int .u32 (X:Int),.int .u32 (Y:Int),.int .i64 L] 70)).heap[W1.heap.size]? =some (.cells #[.int .u32 (X:Int),.int .u32 (Y:Int),.int .i64 L] 70 (0,0))):=zq W1 _;clear b1 HG2a;go_wp2_with fail;have HG2s:Hid (w.heap.size<(W1.alloc (.cells #[.int .u32 (X:Int),.int .u32 (Y:Int),.int .i64 L] 70)).heap.size):=(zi HG2.o).1;have HG3s:Hid (W1.heap.size<(W1.alloc (.cells #[.int .u32 (X:Int),.int .u32 (Y:Int),.int .i64 L] 70)).heap.size):=(zi HG3.o).1
  have HG32:Hid (W1.heap.size≠w.heap.size):=Nat.ne_of_gt hs1;obtain⟨g3,hg3⟩:∃ g3,W1.heap.size=g3:=⟨_,rfl⟩;obtain⟨W2,hW2⟩:∃ W2,W1.alloc (.cells #[.int .u32 (X:Int),.int .u32 (Y:Int),.int .i64 L] 70)=W2:=⟨_,rfl⟩;rw[hW2] at HB2 HG2 HG3 HG2s HG3s ⊢;rw[hg3] at HG3 HG3s HG32 ⊢;clear hW2 hg3 hs1 HC HG2n HBn;obtain⟨t0,t1,t2⟩:=el.cells HG3.o;go_wp2_with fail;refine Calls.mono (HSh.o W2 (HR.o.below HB2.o zn)) ?_;rintro e W3 ⟨vs,rfl,hvs,b3⟩;have HV:Hid (∀ q,q<4→W3.ownsRow W2.heap.size 79 4 (vs q) (part l q).length ((part l q).flatMap rc)):=hvs;have HB3:Hid (Below W2.heap.size W2 W3):=b3;clear hvs b3 t0 t1 t2;go_wp2_with fail
  go_loopw [4,28] (fun kv i wr=>∃ j:Nat,j≤4∧i=.int .i64 (j:Int)∧∃ ks,KJ d l W3 j ks kv wr) (fun _ i _=>4 - bu i)
  case atStart=>exact⟨0,by omega,rfl,[],rfl,World.ownsRow_nil _ _ _ _,fun i h1 _=>absurd h1 us,Below.refl _ _⟩
  case round=>
   obtain⟨j,hj,rfl,ks,hJ⟩:=hrel;have HJ:Hid (KJ d l W3 j ks u4 wr):=hJ;clear hJ;by_cases hlt:j<4
   ·have q3:(j:Int)<4:=uo
    have hix:=ixs vs j hlt;obtain⟨oj,cj,ej,sj⟩:=dx (HV.o j hlt);rw[ej] at hix;have HS:Hid (cH wr oj cj (part l j)):=Sl.below sj (HJ.o.bel) zn;have HP:Hid _:=oP l j;clear sj ej;obtain⟨pl,hpl⟩:∃ pl,(part l j).length=pl:=⟨_,rfl⟩;have HPL:Hid ((part l j).length=pl):=hpl;rw[hpl] at hix;clear hpl;have k1:(j:Int)+1≤9223372036854775807:=uo
    by_cases hp:pl=0
    ·have q4:decide (0<pl)=false:=decide_eq_false uo
     have HN:Hid (KJ d l W3 (j+1) ks u4 wr):=HJ.o.skip (List.eq_nil_of_length_eq_zero (by rw[HPL.o];exact hp));clear hp;go_wp2_with fail
     go_roundw
     case rel=>exact⟨j+1,by omega,by go_num,ks,HN.o⟩
     case measure=>simp[bu];omega
    ·have q4:decide (0<pl)=true:=decide_eq_true uo
     have HNP:Hid (part l j≠[]):=fun e=>by have:=HPL.o;rw[e] at this;exact hp this.symm
     clear hp;go_wp2_with fail;have hcall:=IH.o (part l j) oj cj wr HS.o (fs.o.part j) (Nat.le_trans HP.o hmax) (by have:=rW fs.o HM.o j;have:=HM.o;have:=HD.o;omega);rw[HPL.o] at hcall;refine hcall.mono ?_;rintro e W4 ⟨nn,rfl,n4,b4⟩;clear hcall;obtain⟨nX,nY,nL,nro,nrn,nrc,nko,nkn,nkc⟩:=nn;have hb5:=bF W4 (.cells #[.int .u32 (nX:Int),.int .u32 (nY:Int),.int .i64 (nL:Int),.slice nro nrn nrc,.slice nko nkn nkc] 73);have hkl:=zpx l j
     obtain⟨v',W',hrun,a1,a2,a3⟩:=iu 71 73 Tryz.underlying71 zmh rfl ud ud (W4.alloc (.cells #[.int .u32 (nX:Int),.int .u32 (nY:Int),.int .i64 (nL:Int),.slice nro nrn nrc,.slice nko nkn nkc] 73)) W3.heap.size ks.length 1 u4 (some ⟨W4.heap.size,0,none⟩) 1
      (ks.flatMap nc) (nc ⟨nX,nY,nL,nro,nrn,nrc,nko,nkn,nkc⟩) (kI HJ.o.own fun b _ hb=>(hb5.block b (by have:=b4.size;omega)).trans (b4.block b hb)) (by have:=HJ.o.bel.size;have:=b4.size;simp;omega) (zml (zq W4 _)) (zoe _) (by have:=HJ.o.len;omega)
     have HN:Hid (KJ d l W3 (j+1) (ks++[⟨nX,nY,nL,nro,nrn,nrc,nko,nkn,nkc⟩]) v' W'):=HJ.o.step HNP.o b4 n4 hb5 a1 a2 a3;clear n4 b4 hb5 a1 a2 a3 hkl
     go_wp2_with (refine gT rfl 71 71 (.tmp 34) (.tmp 37) rfl rfl rfl hrun ?_)
     go_roundw
     case rel=>exact⟨j+1,by omega,by go_num,_,HN.o⟩
     case measure=>simp[bu];omega
   ·obtain rfl:j=4:=uo
    have q3:¬((4:Nat):Int)<4:=uo
    obtain⟨ko,kc,rfl,sk⟩:=dx HJ.o.own;obtain⟨kn,hkn⟩:∃ kn,ks.length=kn:=⟨_,rfl⟩;have HKN:Hid (ks.length=kn):=hkn;have hg2:wr.heap[w.heap.size]? =some (.cells #[.int .u32 0,.int .u32 0,.int .i64 0,.slice none 0 0,.slice none 0 0] 73 (0,0)):=(HJ.o.bel.block _ (by have:=HB3.o.size;have:=HG2s.o;omega)).trans ((HB3.o.block _ HG2s.o).trans HG2.o);have hg3:wr.heap[g3]? =some (.cells #[.int .u32 (X:Int),.int .u32 (Y:Int),.int .i64 L] 70 (0,0)):=(HJ.o.bel.block _ (by have:=HB3.o.size;have:=HG3s.o;omega)).trans ((HB3.o.block _ HG3s.o).trans HG3.o);obtain⟨z0,z1,z2,z3,z4,f0,f1,f2,f3,f4⟩:=et hg2;obtain⟨t0,t1,t2⟩:=el.cells hg3;obtain⟨p1,p2,p3⟩:=lT hg2 (.int .u32 (X:Int)) (.int .u32 (Y:Int)) (.int .i64 L) (.slice none 0 0) (.slice ko kn kc);have HP1:Hid _:=p1;have HP3:Hid (Below w.heap.size w _):=HB2.o.trans (((HB3.o.trans (HJ.o.bel.mono HB3.o.size)).mono (Nat.le_of_lt HG2s.o)).trans p3)
    have HN:Hid (ci (fun b=>w.heap.size≤b) (d+1) (((((wr.setCell ⟨w.heap.size,0,none⟩ (.int .u32 (X:Int))).setCell ⟨w.heap.size,1,none⟩ (.int .u32 (Y:Int))).setCell ⟨w.heap.size,2,none⟩ (.int .i64 L)).setCell ⟨w.heap.size,3,none⟩ (.slice none 0 0)).setCell ⟨w.heap.size,4,none⟩ (.slice ko kn kc)) ⟨X,Y,cQ l,none,0,0,ko,kn,kc⟩ l):=by
     refine(?_:ci (fun b=>w.heap.size≤b) (d+1) _ _ l);have hlt3:w.heap.size<W3.heap.size:=by have:=HB3.o.size;have:=HG2s.o;omega
     have hkl:=zod l;refine⟨HX.o.symm,HY.o.symm,rfl,(fun h=>by rw[HLf.o] at h;cases h),fun _=>⟨rfl,Sl.nil 4 _,ks,hkn.symm,?_,?_,fun _ b off e=>?_,fun i h1 h2=>?_⟩⟩
     ·rw[←hkl];exact HJ.o.len
     ·refine Sl.same sk (by simp[World.setCell]) fun b off e _=>p2 b ?_
      have e':ko=some ⟨b,off,none⟩:=e;have hh:W3.heap.size≤b:=(fu HJ.o.own (by rw[e'];rfl)).1;omega
     ·have e':ko=some ⟨b,off,none⟩:=e
      have hh:W3.heap.size≤b:=(fu HJ.o.own (by rw[e'];rfl)).1;show w.heap.size≤b;omega
     ·have a:=HJ.o.nodes i h1 h2
      exact(a.same (by simp[World.setCell]) fun b hG _=>p2 b (by have:=hG.1;omega)).mono fun b _ hG=>by have:=hG.1;show w.heap.size≤b;omega
    rw[hkn];clear p1 p2 p3 hg2 hg3 sk hkn;go_wp2_with fail;refine bodyPost_ret (mG rfl _ _ _ _ _ _ _ _ rfl HP1.o) rfl ⟨⟨X,Y,cQ l,none,0,0,ko,kn,kc⟩,?_,HN.o,HP3.o⟩;rw[←HL.o]
theorem zhS:∀ (d:Nat) (l:List Rw) (o:Option Addr) (cap:Nat) (w:World),cH w o cap l→On l→l.length≤1000→cQ l<d→
  Calls Tryz.prog 70 #[.slice o l.length cap] w fun e w'=>∃ n:Nv,e=.returned (nv n)∧ci (fun b=>w.heap.size≤b) d w' n l∧Below w.heap.size w w'
 |0,_,_,_,_,_,_,_,h=>absurd h uo
 |d+1,l,o,cap,w,hr,hon,hmax,hd=>by
  by_cases hne:l.length=0
  ·have:l=[]:=List.eq_nil_of_length_eq_zero hne
   subst this;exact zmk d o cap w
  ·cases hlf:leaf l
   ·exact ziT d (zhS d) l o cap w hr hon hmax hlf hd
   ·exact zke d l o cap w hr hon hmax uo hlf
theorem sX {fn:Func} {p u:Tmp} (h:fn.results=#[.cell p 73,.tmp u]) (tmps:Array Value) (w:World) (g:Nat) (a b c d e x:Value) {t:TypeId}
  (hp:tmps.getD p undef=.pointer (some ⟨g,0,none⟩)) (hu:tmps.getD u undef=x) (hg:w.heap[g]? =some (.cells #[a,b,c,d,e] t (0,0))):(results fn tmps).run Tryz.prog w=.ok (.tuple #[.agg #[a,b,c,d,e],x]) w:=by
 have hp':tmps[p]?.getD undef=.pointer (some ⟨g,0,none⟩):=by simpa using hp
 have hu':tmps[u]?.getD undef=x:=by simpa using hu
 have c0:w.cell? ⟨g,0,none⟩=some a:=by rw[zr hg];rfl
 have c1:w.cell? ⟨g,1,none⟩=some b:=by rw[zr hg];rfl
 have c2:w.cell? ⟨g,2,none⟩=some c:=by rw[zr hg];rfl
 have c3:w.cell? ⟨g,3,none⟩=some d:=by rw[zr hg];rfl
 have c4:w.cell? ⟨g,4,none⟩=some e:=by rw[zr hg];rfl
 simp[results,h,hp',hu',asAddr,go_sem,c0,c1,c2,c3,c4]
theorem sY (l:List Rw) (o:Option Addr) (cap:Nat) (w:World) (hr:cH w o cap l) (h:dg l=false):
  Calls Tryz.prog 36 #[.slice o l.length cap] w fun e w'=>e=.returned (.tuple #[nv ⟨0,0,0,none,0,0,none,0,0⟩,.int .i64 80])∧Below w.heap.size w w':=by
 have hbn:=bF w (.cells #[.int .u32 0,.int .u32 0,.int .i64 0,.slice none 0 0,.slice none 0 0] 73);have HC:Hid _:=sM l o cap _ (hr.below hbn zn);rw[h] at HC;have HBn:Hid _:=hbn;have HG:Hid _:=zq w (.cells #[.int .u32 0,.int .u32 0,.int .i64 0,.slice none 0 0,.slice none 0 0] 73);clear hr h hbn;go_enter Tryz.func36,Tryz.ntmps36;go_wp2_with fail;refine Calls.mono HC.o ?_;rintro e W1 ⟨rfl,b1⟩;have hg:W1.heap[w.heap.size]? =some (.cells #[.int .u32 0,.int .u32 0,.int .i64 0,.slice none 0 0,.slice none 0 0] 73 (0,0)):=(b1.block _ us).trans HG.o;have HB1:Hid (Below w.heap.size w W1):=HBn.o.trans (b1.mono us);obtain⟨z0,z1,z2,z3,z4,f0,f1,f2,f3,f4⟩:=et hg;obtain⟨p1,_,p3⟩:=lT hg (.int .u32 0) (.int .u32 0) (.int .i64 0) (.slice none 0 0) (.slice none 0 0);have HP1:Hid _:=p1;have HP3:Hid _:=HB1.o.trans p3;clear p1 p3 b1 HC hg;go_wp2_with fail;refine bodyPost_ret (sX rfl _ _ _ _ _ _ _ _ _ rfl rfl HP1.o) rfl ⟨rfl,HP3.o⟩
theorem sZ (l:List Rw) (o:Option Addr) (cap:Nat) (w:World) (hr:cH w o cap l) (h:dg l=true):
  Calls Tryz.prog 36 #[.slice o l.length cap] w fun e w'=>∃ n:Nv,e=.returned (.tuple #[nv n,.int .i64 0])∧ci (fun b=>w.heap.size≤b) 32 w' n l∧Below w.heap.size w w':=by
 have hbn:=bF w (.cells #[.int .u32 0,.int .u32 0,.int .i64 0,.slice none 0 0,.slice none 0 0] 73);have HC:Hid _:=sM l o cap _ (hr.below hbn zn);have HT:Hid (∀ W,cH W o cap l→_):=fun W hW=>zhS 32 l o cap W hW (ji h) ((iX l).1 h).1 (by have:=nQ (ji h);omega)
 rw[h] at HC;have HBn:Hid _:=hbn;have HR:Hid _:=hr;have HG:Hid _:=zq w (.cells #[.int .u32 0,.int .u32 0,.int .i64 0,.slice none 0 0,.slice none 0 0] 73);clear hr h hbn;go_enter Tryz.func36,Tryz.ntmps36;go_wp2_with fail;refine Calls.mono HC.o ?_;rintro e W1 ⟨rfl,b1⟩;have HB1:Hid (Below w.heap.size w W1):=HBn.o.trans (b1.mono us);have HG1:Hid (W1.heap[w.heap.size]? =some (.cells #[.int .u32 0,.int .u32 0,.int .i64 0,.slice none 0 0,.slice none 0 0] 73 (0,0))):=(b1.block _ us).trans HG.o;have HS1:Hid (w.heap.size<W1.heap.size):=(zi HG1.o).1;clear b1 HC;go_wp2_with fail;refine Calls.mono (HT.o W1 (HR.o.below HB1.o zn)) ?_;rintro e W2 ⟨⟨nX,nY,nL,nro,nrn,nrc,nko,nkn,nkc⟩,rfl,n1,b2⟩;have hg:W2.heap[w.heap.size]? =some (.cells #[.int .u32 0,.int .u32 0,.int .i64 0,.slice none 0 0,.slice none 0 0] 73 (0,0)):=(b2.block _ HS1.o).trans HG1.o;obtain⟨z0,z1,z2,z3,z4,f0,f1,f2,f3,f4⟩:=et hg
 obtain⟨p1,p2,p3⟩:=lT hg (.int .u32 (nX:Int)) (.int .u32 (nY:Int)) (.int .i64 (nL:Int)) (.slice nro nrn nrc) (.slice nko nkn nkc);have HP1:Hid _:=p1;have HP3:Hid (Below w.heap.size w _):=(HB1.o.trans (b2.mono (Nat.le_of_lt HS1.o))).trans p3;have HN:Hid _:=(n1.same (by simp[World.setCell]) (fun b hG _=>p2 b (by have:=HS1.o;omega))).mono fun b _ hG=>(by have:=HS1.o;omega:w.heap.size≤b)
 clear p1 p2 p3 b2 hg n1;go_wp2_with fail;refine bodyPost_ret (sX rfl _ _ _ _ _ _ _ _ _ rfl rfl HP1.o) rfl ⟨⟨nX,nY,nL,nro,nrn,nrc,nko,nkn,nkc⟩,rfl,HN.o,HP3.o⟩
def F5 (g:Nat) (a b c d e:Value) (w:World):Prop:=w.cell? ⟨g,0,none⟩=some a∧w.cell? ⟨g,1,none⟩=some b∧w.cell? ⟨g,2,none⟩=some c∧w.cell? ⟨g,3,none⟩=some d∧w.cell? ⟨g,4,none⟩=some e
theorem F5.of {g:Nat} {a b c d e:Value} {w:World} {t:TypeId} (h:w.heap[g]? =some (.cells #[a,b,c,d,e] t (0,0))):F5 g a b c d e w:=(et h).2.2.2.2.2
theorem F5.same {g:Nat} {a b c d e:Value} {w w':World} (h:F5 g a b c d e w) (f:w'.heap[g]? =w.heap[g]?):F5 g a b c d e w':=
 ⟨(World.cell?_of_block (a:=⟨g,0,none⟩) f).trans h.1,(World.cell?_of_block (a:=⟨g,1,none⟩) f).trans h.2.1,(World.cell?_of_block (a:=⟨g,2,none⟩) f).trans h.2.2.1,(World.cell?_of_block (a:=⟨g,3,none⟩) f).trans h.2.2.2.1,(World.cell?_of_block (a:=⟨g,4,none⟩) f).trans h.2.2.2.2⟩
theorem kJ (a b c:Int) (s:ByteArray) (w:World):(binOp .eql 79 (.agg #[.int .u64 a,.int .u32 b,.int .u32 c,.string s]) (.agg #[.int .u64 a,.int .u32 b,.int .u32 c,.string s])).run Tryz.prog w=.ok (.bool true) w:=by
 have hS:Tryz.prog.underlying 79=some (.struct (Tryz.prog.fieldsOf 79)):=uk
 have hp:Tryz.prog.stoodInHeld 79=false:=uk
 have u1:=Tryz.underlying42;have u2:=Tryz.underlying41;have u9:=Tryz.underlying9;rw[run_eql_struct,show(10000:Nat)=9999+1 from rfl,run_equalIn_agg w 9999 79 _ _ hS hp];simp only[Program.fieldsOf,Tryz.underlying79];go_simp
theorem kK (a b c:Int) (s:ByteArray) (w:World):(binOp .neq 79 (.agg #[.int .u64 a,.int .u32 b,.int .u32 c,.string s]) (.agg #[.int .u64 a,.int .u32 b,.int .u32 c,.string s])).run Tryz.prog w=.ok (.bool false) w:=by
 have h:=kJ a b c s w;rw[run_eql_struct] at h;rw[run_neq_struct];cases e:(Op.equalIn 10000 79 (.agg #[.int .u64 a,.int .u32 b,.int .u32 c,.string s]) (.agg #[.int .u64 a,.int .u32 b,.int .u32 c,.string s])).run Tryz.prog w with
 |ok b w'=>rw[e] at h;simp[Result.andThen] at h ⊢;simp[h]
 |_=>rw[e] at h;simp[Result.andThen] at h
theorem kM (a b c:Int) (w:World):(binOp .eql 70 (.agg #[.int .u32 a,.int .u32 b,.int .i64 c]) (.agg #[.int .u32 a,.int .u32 b,.int .i64 c])).run Tryz.prog w=.ok (.bool true) w:=by
 have hS:Tryz.prog.underlying 70=some (.struct (Tryz.prog.fieldsOf 70)):=uk
 have hp:Tryz.prog.stoodInHeld 70=false:=uk
 have u2:=Tryz.underlying41;have u3:=Tryz.underlying3;rw[run_eql_struct,show(10000:Nat)=9999+1 from rfl,run_equalIn_agg w 9999 70 _ _ hS hp];simp only[Program.fieldsOf,Tryz.underlying70];go_simp
theorem kN (a b c:Int) (w:World):(binOp .neq 70 (.agg #[.int .u32 a,.int .u32 b,.int .i64 c]) (.agg #[.int .u32 a,.int .u32 b,.int .i64 c])).run Tryz.prog w=.ok (.bool false) w:=by
 have h:=kM a b c w;rw[run_eql_struct] at h;rw[run_neq_struct];cases e:(Op.equalIn 10000 70 (.agg #[.int .u32 a,.int .u32 b,.int .i64 c]) (.agg #[.int .u32 a,.int .u32 b,.int .i64 c])).run Tryz.prog w with
 |ok b w'=>rw[e] at h;simp[Result.andThen] at h ⊢;simp[h]
 |_=>rw[e] at h;simp[Result.andThen] at h
def F8 (b x p y:Nat) (r:Rw) (w:World):Prop:=Fr w b x r∧Fr w p y r
theorem kO (l:List Rw) (o:Option Addr) (cap:Nat) (o2:Option Addr) (cap2:Nat) (w:World) (hr:cH w o cap l) (hr2:cH w o2 cap2 l):
  Calls Tryz.prog 31 #[.slice o l.length cap,.slice o2 l.length cap2] w fun e w'=>e=.returned (.bool true)∧Below w.heap.size w w':=by
 have q0:¬(l.length:Int)≠(l.length:Int):=uo
 have hmx:l.length≤maxLen:=Nat.le_trans hr.1 hr.2.1;go_enter Tryz.func31,Tryz.ntmps31;go_wp2_with fail
 go_loopw [5] (fun i wr=>∃ k:Nat,k≤l.length∧i=.int .i64 (k:Int)∧Below w.heap.size w wr) (fun i _=>l.length - bu i)
 case atStart=>exact⟨0,by omega,rfl,Below.refl _ _⟩
 case round=>
  obtain⟨k,hk,rfl,hb⟩:=hrel;by_cases hlt:k<l.length
  ·obtain⟨b,off,rfl,hbl,hc⟩:=(hr.below hb zn).row hlt
   obtain⟨b2,off2,rfl,hbl2,hc2⟩:=(hr2.below hb zn).row hlt;have q1:(k:Int)<(l.length:Int):=uo
   have k0:(0:Int)≤(k:Int):=uo
   have k1:(k:Int)+1≤9223372036854775807:=by simp only[maxLen] at hmx;omega
   have HSW:Hid (F8 b (off+k*4) b2 (off2+k*4) (cK l k) wr.drew):=⟨hc k hlt,hc2 k hlt⟩;generalize cK l k=r at*
   obtain⟨id,x,y,v⟩:=r;have hnq:=kK (id:Int) (x:Int) (y:Int) v;have HB:Hid (Below w.heap.size w wr.drew):=hb.drew;clear hc hc2 hb;go_wp2_with fail;refine wp_region_held (S:=F8 b (off+k*4) b2 (off2+k*4) ⟨id,x,y,v⟩) uk ?_;change wpAnyH _ _ _ _ _ _ _ _ (World.drew _);refine bB [0,1,2,3,4,5,6,7,8] ?_
   iterate 9
    refine bS (v:=?_) rfl ?_ HSW.o ?_;rotate_left
    ·rintro w ⟨⟨e1,e2,e3,e4⟩,e5,e6,e7,e8⟩;go_simp;try with_reducible rfl
    conv in(Act.put _ _ _)=>simp only[bH,bI,bJ,Act.put,bK,bL,bM]
   refine bA ?_;refine wpAnyH_done uk ?_ _;go_wp2_with fail
   go_roundw
   case rel=>exact⟨k+1,by omega,by go_num,HB.o⟩
   case measure=>simp[bu];omega
  ·obtain rfl:k=l.length:=uo
   have q1:¬(l.length:Int)<(l.length:Int):=uo
   have HB:Hid (Below w.heap.size w wr):=hb;clear hb;go_wp2_with fail;go_ret;exact⟨rfl,HB.o⟩
def NN (g:Nat) (m n:Nv) (w:World):Prop:=
 F5 g (.int .u32 (m.X:Int)) (.int .u32 (m.Y:Int)) (.int .i64 (m.L:Int)) (.slice m.ro m.rn m.rc) (.slice m.ko m.kn m.kc) w∧F5 (g+1) (.int .u32 (n.X:Int)) (.int .u32 (n.Y:Int)) (.int .i64 (n.L:Int)) (.slice n.ro n.rn n.rc) (.slice n.ko n.kn n.kc) w
theorem NN.same {g:Nat} {m n:Nv} {w w':World} (h:NN g m n w) (e:w'.heap[g]? =w.heap[g]?) (f:w'.heap[g+1]? =w.heap[g+1]?):NN g m n w':=⟨h.1.same e,h.2.same f⟩
def S7 (g:Nat) (m n:Nv) (b x b2 x2:Nat) (k1 k2:Nv) (w:World):Prop:=NN g m n w∧nl w b x k1∧nl w b2 x2 k2
theorem eN (d:Nat) (IH0:∀ (l:List Rw) (m n:Nv) (w:World) (G G':Nat→Prop),ci G d w m l→ci G' d w n l→Calls Tryz.prog 38 #[nv m,nv n] w fun e w'=>e=.returned (.bool true)∧Below w.heap.size w w')
  (X Y L:Nat) (ro ro':Option Addr) (rcc rcc':Nat) (ko ko':Option Addr) (kn kc kc':Nat) (w:World) (G G':Nat→Prop) (lr:List Rw) (hr1:cH w ro rcc lr) (hr2:cH w ro' rcc' lr)
  (ks ks':List Nv) (kl:List (List Rw)) (e1:kn=ks.length) (e2:kn=ks'.length) (e3:ks.length=kl.length) (hk1:kH w ko kc ks) (hk2:kH w ko' kc' ks')
  (hn1:∀ i (h1:i<ks.length) (h2:i<kl.length),ci G d w ks[i] kl[i]) (hn2:∀ i (h1:i<ks'.length) (h2:i<kl.length),ci G' d w ks'[i] kl[i]):
  Calls Tryz.prog 38 #[.agg #[.int .u32 (X:Int),.int .u32 (Y:Int),.int .i64 (L:Int),.slice ro lr.length rcc,.slice ko kn kc],.agg #[.int .u32 (X:Int),.int .u32 (Y:Int),.int .i64 (L:Int),.slice ro' lr.length rcc',.slice ko' kn kc']] w
   fun e w'=>e=.returned (.bool true)∧Below w.heap.size w w':=by
 have IH:Hid _:=IH0;have hmx:kn≤maxLen:=by have:=hk1.1;have:=hk1.2.1;omega
 obtain⟨n1,n2,n3⟩:=fJ w (.cells #[.int .u32 (X:Int),.int .u32 (Y:Int),.int .i64 (L:Int),.slice ro lr.length rcc,.slice ko kn kc] 73) (.cells #[.int .u32 (X:Int),.int .u32 (Y:Int),.int .i64 (L:Int),.slice ro' lr.length rcc',.slice ko' kn kc'] 73);have HN1:Hid _:=n1;have HN2:Hid _:=n2;have HN3:Hid _:=n3;have HS:Hid _:=kO lr ro rcc ro' rcc' _ (hr1.below n3 zn) (hr2.below n3 zn);have hnc:=kN (X:Int) (Y:Int) (L:Int);have HK1:Hid (kH w ko kc ks):=hk1;have HK2:Hid (kH w ko' kc' ks'):=hk2;have HD1:Hid _:=hn1;have HD2:Hid _:=hn2;obtain⟨rn,hrn⟩:∃ rn,lr.length=rn:=⟨_,rfl⟩;rw[hrn] at HN1 HN2 HN3 HS ⊢;have q0:¬(kn:Int)≠(kn:Int):=uo
 have E1:Hid (kn=ks.length∧kn=ks'.length∧ks.length=kl.length):=⟨e1,e2,e3⟩;clear n1 n2 n3 hr1 hr2 hk1 hk2 hn1 hn2 IH0 hrn e1 e2 e3;go_enter Tryz.func38,Tryz.ntmps38;go_wp2_with fail;refine Calls.mono HS.o ?_;rintro e w1 ⟨rfl,b1⟩;have hs0:((w.alloc (.cells #[.int .u32 (X:Int),.int .u32 (Y:Int),.int .i64 (L:Int),.slice ro rn rcc,.slice ko kn kc] 73)).alloc (.cells #[.int .u32 (X:Int),.int .u32 (Y:Int),.int .i64 (L:Int),.slice ro' rn rcc',.slice ko' kn kc'] 73)).heap.size=w.heap.size+2:=by simp
 have HG1:Hid (w1.heap[w.heap.size]? =some (.cells #[.int .u32 (X:Int),.int .u32 (Y:Int),.int .i64 (L:Int),.slice ro rn rcc,.slice ko kn kc] 73 (0,0))):=(b1.block _ uo).trans HN1.o;have HG2:Hid (w1.heap[w.heap.size+1]? =some (.cells #[.int .u32 (X:Int),.int .u32 (Y:Int),.int .i64 (L:Int),.slice ro' rn rcc',.slice ko' kn kc'] 73 (0,0))):=(b1.block _ uo).trans HN2.o;have HB1:Hid (Below w.heap.size w w1):=HN3.o.trans (b1.mono uo);obtain⟨z0,z1,z2,z3,z4,f0,f1,f2,f3,f4⟩:=et HG1.o;obtain⟨y0,y1,y2,y3,y4,p0,p1,p2,p3,p4⟩:=et HG2.o;clear b1 HN1 HN2 HN3 HS hs0 z0 z1 z2 z3 z4 y0 y1 y2 y3 y4;go_wp2_with fail;clear f0 f1 f2 f3 f4 p0 p1 p2 p3 p4
 go_loopw [6] (fun j wr=>∃ i:Nat,i≤kn∧j=.int .i64 (i:Int)∧wr.heap[w.heap.size]? =some (.cells #[.int .u32 (X:Int),.int .u32 (Y:Int),.int .i64 (L:Int),.slice ro rn rcc,.slice ko kn kc] 73 (0,0))∧wr.heap[w.heap.size+1]? =some (.cells #[.int .u32 (X:Int),.int .u32 (Y:Int),.int .i64 (L:Int),.slice ro' rn rcc',.slice ko' kn kc'] 73 (0,0))∧Below w.heap.size w wr) (fun j _=>kn - bu j)
 case atStart=>exact⟨0,by omega,rfl,HG1.o,HG2.o,HB1.o⟩
 case round=>
  obtain⟨i,hi,rfl,g1,g2,hb⟩:=hrel;have HGr:Hid _:=g1;have HGs:Hid _:=g2;have HBr:Hid (Below w.heap.size w wr):=hb;have hgs:w.heap.size+1<wr.heap.size:=(zi g2).1;have HSZ:Hid (w.heap.size+1<wr.heap.size):=hgs;obtain⟨z0,z1,z2,z3,z4,f0,f1,f2,f3,f4⟩:=et g1;clear z0 z1 z2 z3 z4;by_cases hlt:i<kn
  ·obtain⟨e1,e2,e3⟩:=E1.o
   have hi1:i<ks.length:=uo
   have hi2:i<ks'.length:=uo
   have hi3:i<kl.length:=uo
   obtain⟨b,off,rfl,hbl0,hc⟩:=HK1.o.node uo;obtain⟨b2,off2,rfl,hbl2,hc2⟩:=HK2.o.node uo;have HCall:Hid (∀ W,Below w.heap.size w W→_):=fun W hW=>IH.o kl[i] ks[i] ks'[i] W G G' ((HD1.o i hi1 hi3).below hW zn) ((HD2.o i hi2 hi3).below hW zn)
   have x1:=(hc i hi1).same (hb.block b hbl0);have x2:=(hc2 i hi2).same (hb.block b2 hbl2);generalize ks[i]=k1 at*
   generalize ks'[i]=k2 at*
   have q1:(i:Int)<(kn:Int):=uo
   have i0:(0:Int)≤(i:Int):=uo
   have i1:(i:Int)+1≤9223372036854775807:=by simp only[maxLen] at hmx;omega
   have HSW:Hid (S7 w.heap.size ⟨X,Y,L,ro,rn,rcc,some ⟨b,off,none⟩,kn,kc⟩ ⟨X,Y,L,ro',rn,rcc',some ⟨b2,off2,none⟩,kn,kc'⟩ b (off+i*5) b2 (off2+i*5) k1 k2 wr.drew):=⟨⟨F5.of g1,F5.of g2⟩,x1,x2⟩;have hb0:b<wr.heap.size:=Nat.lt_of_lt_of_le hbl0 hb.size;have hb2:b2<wr.heap.size:=Nat.lt_of_lt_of_le hbl2 hb.size;clear hc hc2 x1 x2 hb g1 g2 hgs e1 e2 e3 hi1 hi2 hi3 hmx;go_wp2_with fail;refine wp_region_held (S:=S7 w.heap.size ⟨X,Y,L,ro,rn,rcc,some ⟨b,off,none⟩,kn,kc⟩ ⟨X,Y,L,ro',rn,rcc',some ⟨b2,off2,none⟩,kn,kc'⟩ b (off+i*5) b2 (off2+i*5) k1 k2) uk ?_;change wpAnyH _ _ _ _ _ _ _ _ (World.drew _);clear f0 f1 f2 f3 f4;refine bB [0,1,2,3,4,5,6,7,8,9] ?_
   iterate 10
    refine bS (v:=?_) rfl ?_ HSW.o ?_;rotate_left
    ·rintro w ⟨⟨⟨e1,e2,e3,e4,e5⟩,e6,e7,e8,e9,e10⟩,⟨a1,a2,a3,a4,a5⟩,c1,c2,c3,c4,c5⟩;go_simp;try with_reducible rfl
    conv in(Act.put _ _ _)=>simp only[bH,bI,bJ,Act.put,bK,bL,bM]
   refine bA ?_;refine dF 10 _ uk rfl uk (fun K hK=>?_);go_simp;refine Calls.mono (HCall.o wr.drew HBr.o.drew) ?_;rintro e w2 ⟨rfl,b1⟩
   replace b1:Below wr.heap.size wr w2:=(Below.refl _ wr).drew.trans b1
   have HG3:Hid _:=(b1.block _ (by have:=HSZ.o;omega)).trans HGr.o;have HG4:Hid _:=(b1.block _ HSZ.o).trans HGs.o;have HB2:Hid (Below w.heap.size w w2):=HBr.o.trans (b1.mono HBr.o.size)
   replace HSW:Hid (S7 w.heap.size ⟨X,Y,L,ro,rn,rcc,some ⟨b,off,none⟩,kn,kc⟩ ⟨X,Y,L,ro',rn,rcc',some ⟨b2,off2,none⟩,kn,kc'⟩ b (off+i*5) b2 (off2+i*5) k1 k2 w2):=⟨HSW.o.1.same (b1.block _ (by have:=HSZ.o;omega)) (b1.block _ HSZ.o),HSW.o.2.1.same (b1.block _ hb0),HSW.o.2.2.same (b1.block _ hb2)⟩
   refine hK _ _ HSW.o ?_;clear hK K b1;refine bB [11] ?_;refine bS (v:=?_) rfl ?_ HSW.o ?_;rotate_left
   ·rintro w ⟨⟨⟨e1,e2,e3,e4,e5⟩,e6,e7,e8,e9,e10⟩,⟨a1,a2,a3,a4,a5⟩,c1,c2,c3,c4,c5⟩;go_simp;try with_reducible rfl
   conv in(Act.put _ _ _)=>simp only[bH,bI,bJ,Act.put,bK,bL,bM]
   refine bA ?_;refine wpAnyH_done uk ?_ _;clear HSW HCall;go_wp2_with fail
   go_roundw
   case rel=>exact⟨i+1,by omega,by go_num,HG3.o,HG4.o,HB2.o⟩
   case measure=>simp[bu];omega
  ·obtain rfl:i=kn:=uo
   have q1:¬(i:Int)<(i:Int):=uo
   clear hb g1 g2 hgs;go_wp2_with fail;go_ret;exact⟨rfl,HBr.o⟩
theorem dr:∀ (d:Nat) (l:List Rw) (m n:Nv) (w:World) (G G':Nat→Prop),ci G d w m l→ci G' d w n l→
  Calls Tryz.prog 38 #[nv m,nv n] w fun e w'=>e=.returned (.bool true)∧Below w.heap.size w w'
 |0,_,_,_,_,_,_,h,_=>h.elim
 |d+1,l,m,n,w,G,G',h,h'=>by
  obtain⟨X,Y,L,ro,rn,rcc,ko,kn,kc⟩:=m;obtain⟨X',Y',L',ro',rn',rcc',ko',kn',kc'⟩:=n;obtain⟨h1,h2,h3,h4,h5⟩:=h;obtain⟨g1,g2,g3,g4,g5⟩:=h';simp only at h1 h2 h3 h4 h5 g1 g2 g3 g4 g5;subst h1 h2 h3 g1 g2 g3;cases hlf:leaf l
  ·obtain⟨a,b,ks,c,e,f,_,g⟩:=h5 hlf
   obtain⟨a',b',ks',c',e',f',_,g'⟩:=g5 hlf;subst a a';obtain rfl:kn'=kn:=uo
   exact eN d (dr d) _ _ _ ro ro' rcc rcc' ko ko' kn' kc kc' w G G' [] b b' ks ks' (cR l) c c' e f f' g g'
  ·obtain⟨a,b,_,c,e⟩:=h4 hlf
   obtain⟨a',b',_,c',e'⟩:=g4 hlf;subst a a' c c';exact eN d (dr d) _ _ _ ro ro' rcc rcc' ko ko' 0 kc kc' w G G' l b b' [] [] [] rfl rfl rfl e e' (fun i h=>absurd h us) (fun i h=>absurd h us)
theorem nm {s t:ByteArray} (h:s≠t) (e:s.toList=t.toList):False:=by
 rw[ByteArray.toList_eq,ByteArray.toList_eq] at e;apply h;obtain⟨⟨a⟩⟩:=s;obtain⟨⟨b⟩⟩:=t;have e':a=b:=e;rw[e']
def gl (r s:Rw):Bool:=decide (r.id=s.id)&&(decide (r.x=s.x)&&(decide (r.y=s.y)&&decide (r.v=s.v)))
theorem zn8 (r s:Rw):gl r s=true↔r=s:=by
 unfold gl;simp only[Bool.and_eq_true,decide_eq_true_eq];exact⟨fun h=>by obtain⟨a,b,c,d⟩:=r;obtain⟨a2,b2,c2,d2⟩:=s;simp only at h;obtain⟨h1,h2,h3,h4⟩:=h;rw[h1,h2,h3,h4],fun h=>by rw[h];exact⟨rfl,rfl,rfl,rfl⟩⟩
theorem zn9 (a b c a' b' c':Nat) (s t:ByteArray) (w:World):(binOp .eql 79 (.agg #[.int .u64 (a:Int),.int .u32 (b:Int),.int .u32 (c:Int),.string s]) (.agg #[.int .u64 (a':Int),.int .u32 (b':Int),.int .u32 (c':Int),.string t])).run Tryz.prog w=.ok (.bool (gl ⟨a,b,c,s⟩ ⟨a',b',c',t⟩)) w:=by
 have hS:Tryz.prog.underlying 79=some (.struct (Tryz.prog.fieldsOf 79)):=uk
 have hp:Tryz.prog.stoodInHeld 79=false:=uk
 have u2:=Tryz.underlying41;have u4:=Tryz.underlying42;have u9:=Tryz.underlying9;rw[run_eql_struct,show(10000:Nat)=9999+1 from rfl,run_equalIn_agg w 9999 79 _ _ hS hp];simp only[Program.fieldsOf,Tryz.underlying79];unfold gl;simp only;by_cases h1:a=a'
 ·subst h1
  by_cases h2:b=b'
  ·subst h2
   by_cases h3:c=c'
   ·subst h3
    by_cases h4:s=t
    ·subst h4
     go_simp
    ·go_simp
     exact fun e=>nm h4 e
   ·go_simp
    exact fun e=>absurd (Int.ofNat_inj.1 e) h3
  ·go_simp
   exact fun e=>absurd (Int.ofNat_inj.1 e) h2
 ·go_simp
  exact fun e=>absurd (Int.ofNat_inj.1 e) h1
theorem zoa (a b c a' b' c':Nat) (s t:ByteArray) (w:World):(binOp .neq 79 (.agg #[.int .u64 (a:Int),.int .u32 (b:Int),.int .u32 (c:Int),.string s]) (.agg #[.int .u64 (a':Int),.int .u32 (b':Int),.int .u32 (c':Int),.string t])).run Tryz.prog w=.ok (.bool (!gl ⟨a,b,c,s⟩ ⟨a',b',c',t⟩)) w:=by
 have h:=zn9 a b c a' b' c' s t w;rw[run_eql_struct] at h;rw[run_neq_struct];cases e:(Op.equalIn 10000 79 (.agg #[.int .u64 (a:Int),.int .u32 (b:Int),.int .u32 (c:Int),.string s]) (.agg #[.int .u64 (a':Int),.int .u32 (b':Int),.int .u32 (c':Int),.string t])).run Tryz.prog w with
 |ok b w'=>rw[e] at h;simp[Result.andThen] at h ⊢;simp[h]
 |_=>rw[e] at h;simp[Result.andThen] at h
def eI {α:Type} (f:α→α→Bool) (l m:List α):Bool:=decide (l.length=m.length)&&((l.zip m).all fun p=>f p.1 p.2)
theorem qI {α:Type} (f:α→α→Bool) (hf:∀ a b,f a b=true↔a=b):∀ (l m:List α),eI f l m=true↔l=m
 |[],[]=>by simp[eI]
 |[],b::m=>by simp[eI]
 |a::l,[]=>by simp[eI]
 |a::l,b::m=>by
  have ih:=qI f hf l m;unfold eI at ih ⊢;simp only[Bool.and_eq_true,decide_eq_true_eq,List.length_cons,List.zip_cons_cons,List.all_cons,Nat.add_right_cancel_iff] at ih ⊢;rw[hf];constructor
  ·rintro⟨h1,h2,h3⟩;rw[h2,ih.1 ⟨h1,h3⟩]
  ·intro h;cases h;exact⟨rfl,rfl,(ih.2 rfl).2⟩
theorem sO {α:Type} (f:α→α→Bool) {l m:List α} {i:Nat} {a b:α} (h:l[i]? =some a) (h':m[i]? =some b):((l.zip m).take (i+1)).all (fun p=>f p.1 p.2)=(((l.zip m).take i).all (fun p=>f p.1 p.2)&&f a b):=by
 have:(l.zip m)[i]? =some (a,b):=by rw[List.getElem?_zip_eq_some];exact⟨h,h'⟩
 rw[List.take_add_one,this,List.all_append];simp
theorem sP {α:Type} (f:α→α→Bool) {l m:List α} {i:Nat} {a b:α} (h:l[i]? =some a) (h':m[i]? =some b) (hf:f a b=false):(l.zip m).all (fun p=>f p.1 p.2)=false:=by
 have:(l.zip m)[i]? =some (a,b):=by rw[List.getElem?_zip_eq_some];exact⟨h,h'⟩
 cases e:(l.zip m).all (fun p=>f p.1 p.2)
 ·rfl
 ·rw[List.all_eq_true] at e
  have:=e _ (List.mem_of_getElem? this);simp only at this;rw[hf] at this;cases this
def F8b (b x p y:Nat) (r s:Rw) (w:World):Prop:=Fr w b x r∧Fr w p y s
theorem zj9 (l m:List Rw) (o:Option Addr) (cap:Nat) (o2:Option Addr) (cap2:Nat) (w:World) (hr:cH w o cap l) (hr2:cH w o2 cap2 m):
  Calls Tryz.prog 31 #[.slice o l.length cap,.slice o2 m.length cap2] w fun e w'=>e=.returned (.bool (eI gl l m))∧Below w.heap.size w w':=by
 have hmx:l.length≤maxLen:=Nat.le_trans hr.1 hr.2.1;by_cases hlm:l.length=m.length
 ·have q0:(l.length:Int)=(m.length:Int):=uo
  have HE0:Hid (eI gl l m=((l.zip m).all fun p=>gl p.1 p.2)):=by
   refine(?_:eI gl l m=((l.zip m).all fun p=>gl p.1 p.2));unfold eI;simp[hlm]
  generalize eI gl l m=res at*
  have HL:Hid (l.length=m.length):=hlm;rw[←hlm];clear hlm q0;go_enter Tryz.func31,Tryz.ntmps31;go_wp2_with fail
  go_loopw [5] (fun i wr=>∃ k:Nat,k≤l.length∧i=.int .i64 (k:Int)∧((l.zip m).take k).all (fun p=>gl p.1 p.2)=true∧Below w.heap.size w wr) (fun i _=>l.length - bu i)
  case atStart=>exact⟨0,by omega,rfl,by simp,Below.refl _ _⟩
  case round=>
   obtain⟨k,hk,rfl,hal,hb⟩:=hrel;have HA:Hid _:=hal;clear hal;by_cases hlt:k<l.length
   ·have hlt2:k<m.length:=by have:=HL.o;omega
    obtain⟨b,off,rfl,hbl,hc⟩:=(hr.below hb zn).row hlt;obtain⟨b2,off2,rfl,hbl2,hc2⟩:=(hr2.below hb zn).row hlt2;have q1:(k:Int)<(l.length:Int):=uo
    have k0:(0:Int)≤(k:Int):=uo
    have k1:(k:Int)+1≤9223372036854775807:=by simp only[maxLen] at hmx;omega
    have HSW:Hid (F8b b (off+k*4) b2 (off2+k*4) (cK l k) (cK m k) wr.drew):=⟨hc k hlt,hc2 k hlt2⟩;have HZT:Hid _:=sO gl (mV hlt) (mV hlt2);have HZF:Hid _:=sP gl (mV hlt) (mV hlt2);generalize cK l k=r at*
    generalize cK m k=r2 at*
    obtain⟨id,x,y,v⟩:=r;obtain⟨id2,x2,y2,v2⟩:=r2;have hnq:=zoa id x y id2 x2 y2 v v2;have HB:Hid (Below w.heap.size w wr.drew):=hb.drew;obtain⟨eb,heb⟩:∃ eb,gl ⟨id,x,y,v⟩ ⟨id2,x2,y2,v2⟩=eb:=⟨_,rfl⟩;have HEB:Hid (gl ⟨id,x,y,v⟩ ⟨id2,x2,y2,v2⟩=eb):=heb;rw[heb] at hnq;clear hc hc2 hb heb;clear hlt2 hbl hbl2;go_wp2_with fail;refine wp_region_held (S:=F8b b (off+k*4) b2 (off2+k*4) ⟨id,x,y,v⟩ ⟨id2,x2,y2,v2⟩) uk ?_;change wpAnyH _ _ _ _ _ _ _ _ (World.drew _);refine bB [0,1,2,3,4,5,6,7,8] ?_
    iterate 9
     refine bS (v:=?_) rfl ?_ HSW.o ?_;rotate_left
     ·rintro w ⟨⟨e1,e2,e3,e4⟩,e5,e6,e7,e8⟩;go_simp;try with_reducible rfl
     conv in(Act.put _ _ _)=>simp only[bH,bI,bJ,Act.put,bK,bL,bM]
    refine bA ?_;refine wpAnyH_done uk ?_ _;cases eb
    ·simp only[Bool.not_false]
     clear hnq k1;go_wp2_with fail;go_ret;refine⟨?_,HB.o⟩;rw[HE0.o,HZF.o HEB.o];rfl
    ·simp only[Bool.not_true]
     clear hnq;go_wp2_with fail
     go_roundw
     case rel=>exact⟨k+1,by omega,by go_num,by rw[HZT.o,HA.o,HEB.o];rfl,HB.o⟩
     case measure=>simp[bu];omega
   ·obtain rfl:k=l.length:=uo
    have q1:¬(l.length:Int)<(l.length:Int):=uo
    have HB:Hid (Below w.heap.size w wr):=hb;clear hb;go_wp2_with fail;go_ret;refine⟨?_,HB.o⟩;rw[HE0.o];have:=HA.o;rw[List.take_of_length_le (by rw[List.length_zip];omega)] at this;rw[this];rfl
 ·have q0:((l.length:Int)==(m.length:Int))=false:=by simp;omega
  have HE0:Hid (eI gl l m=false):=by
   refine(?_:eI gl l m=false);unfold eI;simp[hlm]
  go_enter Tryz.func31,Tryz.ntmps31;go_wp2_with fail;go_ret;rw[HE0.o];exact⟨by simp,Below.refl _ _⟩
theorem zmm (o:Option Addr) (n cap r:Nat) (w:World) (hr:r≤cap) (ho:o=none→cap=0):(Instr.sliceAt 22 (.slice o n cap) none (some (.int .i64 (r:Int))) none).run Tryz.prog w=.ok (.slice o r cap) w:=by
 have h1:(r:Int)≤(cap:Int):=uo
 cases o with
 |none=>
  have:=ho rfl;subst this;obtain rfl:r=0:=uo
  simp[Instr.sliceAt,Instr.slice,run_underlying Tryz.underlying22,go_sem]
 |some a=>
  simp[Instr.sliceAt,Instr.slice,run_underlying Tryz.underlying22,go_sem];intro h;omega
theorem lU (a:Nat) {k n:Nat} (h:k≤n):bR a k/2 ^ n=a/2 ^ n:=by
 obtain⟨m,rfl⟩:=Nat.le.dest h;unfold bR;rw[Nat.pow_add,←Nat.div_div_eq_div_mul,Nat.mul_div_cancel _ (Nat.two_pow_pos k),Nat.div_div_eq_div_mul]
theorem jH (a:Nat) {k n:Nat} (h:k≤n):bR (bR a k) n=bR a n:=by
 unfold bR;have:=lU a h;unfold bR at this;rw[this]
def X2 (b x:Nat) (p q:Nat) (w:World):Prop:=w.cell? ⟨b,x+1,none⟩=some (.int .u32 (p:Int))∧w.cell? ⟨b,x+2,none⟩=some (.int .u32 (q:Int))
theorem X2.same {b x p q:Nat} {w w':World} (h:X2 b x p q w) (e:w'.heap[b]? =w.heap[b]?):X2 b x p q w':=
 ⟨(World.cell?_of_block (a:=⟨b,x+1,none⟩) e).trans h.1,(World.cell?_of_block (a:=⟨b,x+2,none⟩) e).trans h.2⟩
structure AJ (xx yy:Nat) (w:World) (m:Nat) (W:World):Prop where
 res:W.heap[w.heap.size]? =some (.cells #[.int .u32 0,.int .u32 0,.int .i64 0] 70 (0,0))
 cel:W.heap[w.heap.size+1]? =some (.cells #[.int .u32 ((bR xx m:Nat):Int),.int .u32 ((bR yy m:Nat):Int),.int .i64 (m:Int)] 70 (0,0))
 bel:Below w.heap.size w W
theorem AJ.size {xx yy:Nat} {w W:World} {m:Nat} (h:AJ xx yy w m W):w.heap.size+2≤W.heap.size:=(zi h.cel).1
theorem AJ.next {xx yy:Nat} {w W W':World} {m B:Nat} (h:AJ xx yy w m W) (hb:Below B W W') (hB:w.heap.size+2≤B):AJ xx yy w m W':=
 ⟨(hb.block _ uo).trans h.res,(hb.block _ uo).trans h.cel,h.bel.trans (hb.mono uo)⟩
theorem lV {xx yy x y m:Nat} (hx:xx<2147483648) (hy:yy<2147483648) (h1:x<2147483648) (h2:y<2147483648) (hm:m≤31):ck (bR xx m) (bR yy m) (m:Int) x y=decide (fH xx yy x y≤m):=by
 unfold ck;apply decide_eq_decide.2;rw[rV xx yy x y m uo uo uo uo,nP,Int.toNat_natCast];constructor
 ·rintro⟨_,a,b⟩;exact⟨a.symm,b.symm⟩
 ·rintro⟨a,b⟩
  exact⟨⟨hm,Nat.lt_of_le_of_lt (kx _ _) hx,Nat.lt_of_le_of_lt (kx _ _) hy,oO _ zn,oO _ zn⟩,a.symm,b.symm⟩
def kP (w:World) (g:Nat):Nat:=match w.cell? ⟨g,2,none⟩ with|some (.int _ n)=>n.toNat|_=>0
theorem iN {xx yy:Nat} {w W:World} {m:Nat} (h:AJ xx yy w m W):kP W (w.heap.size+1)=m:=by
 unfold kP;rw[(el.cells h.cel).2.2];simp
theorem wrap_u64 {m:Int} (h0:0≤m) (h1:m<18446744073709551616):IntKind.u64.wrap m=m:=by
 obtain⟨n,rfl⟩:=Int.eq_ofNat_of_zero_le h0;exact u64_in n uo
theorem kQ (f n:Nat) (zf zn:Int) (hf:(f:Int)=zf) (hn:(n:Int)=zn) (h1:f<4294967296) (h2:n≤31):
  IntKind.u64.wrap (zf/2 ^ min zn.toNat 64*2 ^ min zn.toNat 64)%4294967296=((bR f n:Nat):Int):=by
 subst hf hn;have hl:=kx f n;rw[Int.toNat_natCast,show min n 64=n by omega];have e:((f:Int)/2 ^ n*2 ^ n)=((bR f n:Nat):Int):=by unfold bR;push_cast;rfl
 rw[e,wrap_u64 uo uo];omega
theorem fX (l:List Rw) (o:Option Addr) (cap:Nat) (w:World) (hr:cH w o cap l) (hne:0<l.length) (hon:On l) (hmax:l.length≤1000):
  Calls Tryz.prog 104 #[.slice o l.length cap] w fun e w'=>e=.returned (cv (cx l) (cy l) (cQ l))∧Below w.heap.size w w':=by
 obtain⟨b,off,rfl,hbl,hc⟩:=hr.row hne;obtain⟨_,d1,d2,_⟩:=hc 0 hne;rw[Nat.zero_mul,Nat.add_zero,←zpo] at d1;rw[Nat.zero_mul,Nat.add_zero,←zpp] at d2;have on0':=mX hon;have q2:(0:Int)<(l.length:Int):=uo
 have hbn:=bF w (.cells #[.int .u32 0,.int .u32 0,.int .i64 0] 70);have HSW:Hid (X2 b off (x0 l) (y0 l) (w.alloc (.cells #[.int .u32 0,.int .u32 0,.int .i64 0] 70)).drew):=X2.same ⟨d1,d2⟩ (hbn.block b hbl);have HX:Hid (x0 l<2147483648∧y0 l<2147483648):=on0';have HR:Hid (cH w (some ⟨b,off,none⟩) cap l):=hr;have HN:Hid _:=zq w (.cells #[.int .u32 0,.int .u32 0,.int .i64 0] 70);have HBn:Hid _:=hbn;have hbs:b<(w.alloc (.cells #[.int .u32 0,.int .u32 0,.int .i64 0] 70)).heap.size:=by simp;omega
 clear d1 d2 hc on0' hbn hr;go_enter Tryz.func104,Tryz.ntmps104;go_wp2_with fail;refine wp_region_held (S:=X2 b off (x0 l) (y0 l)) uk ?_;change wpAnyH _ _ _ _ _ _ _ _ (World.drew _);refine bB [0,1,2,3,4,5,6,7,8] ?_
 iterate 9
  refine bS (v:=?_) rfl ?_ HSW.o ?_;rotate_left
  ·rintro w ⟨e1,e2⟩;go_simp;try with_reducible rfl
  conv in(Act.put _ _ _)=>simp only[bH,bI,bJ,Act.put,bK,bL,bM]
 refine bA ?_;refine dF 9 _ uk rfl uk (fun K hK=>?_);go_simp;obtain⟨n1,n2,n3⟩:=fJ w (.cells #[.int .u32 0,.int .u32 0,.int .i64 0] 70) (.cells #[.int .u32 0,.int .u32 0,.int .i64 0] 70);have hsz:((w.alloc (.cells #[.int .u32 0,.int .u32 0,.int .i64 0] 70)).alloc (.cells #[.int .u32 0,.int .u32 0,.int .i64 0] 70)).drew.heap.size=w.heap.size+2:=by simp
 have HN1:((w.alloc (.cells #[.int .u32 0,.int .u32 0,.int .i64 0] 70)).alloc (.cells #[.int .u32 0,.int .u32 0,.int .i64 0] 70)).drew.heap[w.heap.size]? =some (.cells #[.int .u32 0,.int .u32 0,.int .i64 0] 70 (0,0)):=n1;have HN2:((w.alloc (.cells #[.int .u32 0,.int .u32 0,.int .i64 0] 70)).alloc (.cells #[.int .u32 0,.int .u32 0,.int .i64 0] 70)).drew.heap[w.heap.size+1]? =some (.cells #[.int .u32 0,.int .u32 0,.int .i64 0] 70 (0,0)):=n2;have HN3:Below w.heap.size w ((w.alloc (.cells #[.int .u32 0,.int .u32 0,.int .i64 0] 70)).alloc (.cells #[.int .u32 0,.int .u32 0,.int .i64 0] 70)).drew:=n3.drew
 replace HSW:Hid (X2 b off (x0 l) (y0 l) ((w.alloc (.cells #[.int .u32 0,.int .u32 0,.int .i64 0] 70)).alloc (.cells #[.int .u32 0,.int .u32 0,.int .i64 0] 70)).drew):=HSW.o.same ((bF (w.alloc (.cells #[.int .u32 0,.int .u32 0,.int .i64 0] 70)) (.cells #[.int .u32 0,.int .u32 0,.int .i64 0] 70)).block b hbs)
 refine hK _ _ HSW.o ?_;clear hK K n1 n2 n3 HN HBn hbs;obtain⟨W2,hW2⟩:∃ W2,((w.alloc (.cells #[.int .u32 0,.int .u32 0,.int .i64 0] 70)).alloc (.cells #[.int .u32 0,.int .u32 0,.int .i64 0] 70)).drew=W2:=⟨_,rfl⟩;rw[hW2] at HN1 HN2 HN3 HSW hsz ⊢;clear hW2;obtain⟨z0,z1,z2,f0,f1,f2⟩:=gE HN2;obtain⟨h3,b3⟩:=lM HN2 (.int .u32 ((x0 l:Nat):Int)) (.int .u32 ((y0 l:Nat):Int)) (.int .i64 0)
 have HJ0:Hid (AJ (x0 l) (y0 l) w 0 (((W2.setCell ⟨w.heap.size+1,0,none⟩ (.int .u32 ((x0 l:Nat):Int))).setCell ⟨w.heap.size+1,1,none⟩ (.int .u32 ((y0 l:Nat):Int))).setCell ⟨w.heap.size+1,2,none⟩ (.int .i64 0))):=
  ⟨(b3.block _ uo).trans HN1,by rw[iH,iH];exact h3,HN3.trans (b3.mono uo)⟩
 replace HSW:Hid (X2 b off (x0 l) (y0 l) (((W2.setCell ⟨w.heap.size+1,0,none⟩ (.int .u32 ((x0 l:Nat):Int))).setCell ⟨w.heap.size+1,1,none⟩ (.int .u32 ((y0 l:Nat):Int))).setCell ⟨w.heap.size+1,2,none⟩ (.int .i64 0))):=HSW.o.same (b3.block b uo)
 clear h3 b3 HN1 HN2 HN3 hsz;refine dF 10 _ uk rfl uk (fun K hK=>?_);go_simp;refine hK _ _ HSW.o ?_;clear hK K f0 f1 f2 z0 z1 z2;obtain⟨W3,hW3⟩:∃ W3,((W2.setCell ⟨w.heap.size+1,0,none⟩ (.int .u32 ((x0 l:Nat):Int))).setCell ⟨w.heap.size+1,1,none⟩ (.int .u32 ((y0 l:Nat):Int))).setCell ⟨w.heap.size+1,2,none⟩ (.int .i64 0)=W3:=⟨_,rfl⟩;rw[hW3] at HJ0 HSW ⊢;clear hW3 HSW;refine wpAnyH_done uk ?_ _;obtain⟨g3,hg3⟩:∃ g3,w.heap.size+1=g3:=⟨_,rfl⟩;have HG3:Hid (w.heap.size+1=g3):=hg3;rw[hg3];clear hg3;go_wp2_with fail
 go_loopw [4] (fun i wr=>∃ k:Nat,1≤k∧k≤l.length∧i=.int .i64 (k:Int)∧AJ (x0 l) (y0 l) w (dU (x0 l) (y0 l) (l.take k)) wr) (fun i _=>l.length - bu i)
 case atStart=>
  refine⟨1,by omega,by omega,rfl,?_⟩
  have:dU (x0 l) (y0 l) (l.take 1)=0:=by
   cases l with
   |nil=>simp at hne
   |cons r t=>simp[dU,x0,y0,fH];rfl
  rw[this];exact HJ0.o
 case round=>
  obtain⟨k,hk1,hk,rfl,hj⟩:=hrel;obtain⟨W4,hW4⟩:∃ W4,wr=W4:=⟨_,rfl⟩;rw[hW4] at hj ⊢;clear hW4;have HJ:Hid _:=hj;have HSZ:Hid (w.heap.size+2≤W4.heap.size):=hj.size;have hsz1:g3<W4.heap.size:=by have:=HSZ.o;have:=HG3.o;omega
  by_cases hlt:k<l.length
  ·have hrow:=(HR.o.below hj.bel zn).row hlt
   obtain⟨b',off',e,hbl4,hc⟩:=hrow;cases e;obtain⟨c0,c1,c2,c3⟩:=hc k hlt;have q1:(k:Int)<(l.length:Int):=uo
   have k0:(0:Int)≤(k:Int):=uo
   have k1:(k:Int)+1≤9223372036854775807:=uo
   have onr:=hon _ (mW hlt);have on0':=HX.o
   have hmle:dU (x0 l) (y0 l) (l.take k)≤31:=by
    have h1:=nQ hon;have h2:=pT (x0 l) (y0 l) (l.take k) (l.drop k);rw[List.take_append_drop] at h2;unfold cQ at h1;omega
   have hnx:dU (x0 l) (y0 l) (l.take (k+1))=max (dU (x0 l) (y0 l) (l.take k)) (fH (x0 l) (y0 l) (cK l k).x (cK l k).y):=by
    rw[qG l k hlt,pT,sN]
   have hlv:=zpn (x0 l) (y0 l) (cK l k).x (cK l k).y on0'.1 on0'.2 onr.1 onr.2;have HH:Hid (∀ m,m≤31→∀ W,_):=fun m (hm:m≤31) (W:World)=>iK (bR (x0 l) m) (bR (y0 l) m) (m:Int) (cK l k).x (cK l k).y (by have:=kx (x0 l) m;omega) (by have:=kx (y0 l) m;omega) uo uo W
   have HE:Hid (∀ m,m≤31→ck (bR (x0 l) m) (bR (y0 l) m) (m:Int) (cK l k).x (cK l k).y=decide (fH (x0 l) (y0 l) (cK l k).x (cK l k).y≤m)):=fun m hm=>lV on0'.1 on0'.2 onr.1 onr.2 hm
   have HNX:Hid _:=hnx;have HJc:=HJ.o.cel;generalize dU (x0 l) (y0 l) (l.take k)=m0 at*
   generalize fH (x0 l) (y0 l) (cK l k).x (cK l k).y=lv at*
   generalize x0 l=xx at*
   generalize y0 l=yy at*
   generalize cK l k=r at*
   obtain⟨id,x,y,v⟩:=r;simp only at c0 c1 c2 c3 HH HE;rw[HG3.o] at HJc;obtain⟨t0,t1,t2⟩:=el.cells HJc;have HM0:=HH.o m0 hmle;rw[HE.o m0 hmle] at HM0;have HM:Hid _:=HM0;clear hc onr hj hnx HM0 HJc;obtain⟨fx,hfx⟩:∃ fx,bR xx m0=fx:=⟨_,rfl⟩;obtain⟨fy,hfy⟩:∃ fy,bR yy m0=fy:=⟨_,rfl⟩;obtain⟨zm,hzm⟩:∃ zm:Int,(m0:Int)=zm:=⟨_,rfl⟩;rw[hfx] at t0;rw[hfy] at t1;rw[hzm] at t2
   rw[hfx,hfy,hzm] at HM;clear hfx hfy hzm;go_wp2_with fail;refine um (HM.o _) fun W5 b5=>?_;have hb4:=bF W4 (.cells #[.int .u64 (id:Int),.int .u32 (x:Int),.int .u32 (y:Int),.string v] 79);have HJ5:Hid (AJ xx yy w m0 W5):=(HJ.o.next hb4 HSZ.o).next b5 (by have:=HSZ.o;simp;omega);have HF5:Hid (F4 W4.heap.size ⟨id,x,y,v⟩ W5):=F4.same (F4.of (zq W4 _)) (b5.block _ us);have HS5:Hid (W4.heap.size<W5.heap.size):=by have:=b5.size;simp at this;exact this
   obtain⟨g5,hg5⟩:∃ g5,W4.heap.size=g5:=⟨_,rfl⟩;have HG5:Hid (w.heap.size+2≤g5):=by rw[←hg5];exact HSZ.o
   rw[hg5] at HF5 HS5 ⊢;clear b5 hb4 HM hg5 t0 t1 t2 c0 c1 c2 c3 HSZ hsz1 hbl4;go_wp2_with fail
   go_loopw [6] (fun vb wr=>∃ m,m0≤m∧m≤max m0 lv∧vb=.bool (decide (lv≤m))∧AJ xx yy w m wr∧F4 g5 ⟨id,x,y,v⟩ wr∧g5<wr.heap.size) (fun _ wr=>32 - kP wr (w.heap.size+1))
   case atStart=>exact⟨m0,by omega,by omega,rfl,HJ5.o,HF5.o,HS5.o⟩
   case round=>
    obtain⟨m,hm0,hm1,rfl,hj,hf,hs⟩:=hrel;by_cases hin:lv≤m
    ·rw[decide_eq_true hin]
     have HL:Hid (AJ xx yy w (max m0 lv) wr):=by rw[show max m0 lv=m by omega];exact hj
     clear hj hf;go_wp2_with fail
     go_roundw
     case rel=>exact⟨k+1,by omega,by omega,by go_num,by rw[HNX.o];exact HL.o⟩
     case measure=>simp[bu];omega
    ·rw[decide_eq_false hin]
     have hm30:m≤30:=uo
     have HJw:Hid (AJ xx yy w m wr):=hj;have HFw:Hid (F4 g5 ⟨id,x,y,v⟩ wr):=hf;have hjs:=hj.size;have hs1:g3<wr.heap.size:=by have:=HG3.o;omega
     have hcel:=hj.cel;rw[HG3.o] at hcel;have HCEL:Hid _:=hcel;obtain⟨t0,t1,t2⟩:=el.cells hcel;clear hcel;have s1:bR xx (m+1)=bR (bR xx m) (m+1):=(jH xx uo).symm;have s2:bR yy (m+1)=bR (bR yy m) (m+1):=(jH yy uo).symm;have bx:bR xx m<2147483648:=Nat.lt_of_le_of_lt (kx _ _) on0'.1;have bY:bR yy m<2147483648:=Nat.lt_of_le_of_lt (kx _ _) on0'.2;obtain⟨fx,hfx⟩:∃ fx,bR xx m=fx:=⟨_,rfl⟩;obtain⟨fy,hfy⟩:∃ fy,bR yy m=fy:=⟨_,rfl⟩;rw[hfx] at t0 s1 bx;rw[hfy] at t1 s2 bY;have S1:Hid _:=s1;have S2:Hid _:=s2;clear hj hf s1 s2 hfx hfy hjs;obtain⟨zm,hzm⟩:∃ zm:Int,(m:Int)=zm:=⟨_,rfl⟩;have HZ:Hid ((m:Int)=zm):=hzm;rw[hzm] at t2;have i1:zm+1≤9223372036854775807:=uo
     have i0:0≤zm:=uo
     obtain⟨zx,hzx⟩:∃ zx:Int,(fx:Int)=zx:=⟨_,rfl⟩;obtain⟨zy,hzy⟩:∃ zy:Int,(fy:Int)=zy:=⟨_,rfl⟩;rw[hzx] at t0;rw[hzy] at t1;have HZX:Hid ((fx:Int)=zx):=hzx;have HZY:Hid ((fy:Int)=zy):=hzy;have HSw:Hid (g5<wr.heap.size):=hs;have wx:IntKind.u64.wrap zx=zx:=wrap_u64 uo uo;have wy:IntKind.u64.wrap zy=zy:=wrap_u64 uo uo;have r1:=kQ fx (m+1) zx (zm+1) hzx uo uo uo;have u1:=kQ fy (m+1) zy (zm+1) hzy uo uo uo;have HM:=HH.o (m+1) uo;rw[HE.o (m+1) uo,S1.o,S2.o,show((m+1:Nat):Int)=zm+1 by omega] at HM
     replace HM:Hid _:=HM
     have HNM:Hid (m0≤m+1∧m+1≤max m0 lv∧m≤30):=⟨by omega,by omega,by omega⟩;have hjs:=HJw.o.size;obtain⟨px,hpx⟩:∃ px,bR fx (m+1)=px:=⟨_,rfl⟩;obtain⟨py,hpy⟩:∃ py,bR fy (m+1)=py:=⟨_,rfl⟩;have HPX:Hid (bR xx (m+1)=px):=by rw[S1.o];exact hpx
     have HPY:Hid (bR yy (m+1)=py):=by rw[S2.o];exact hpy
     rw[hpx] at r1 HM;rw[hpy] at u1 HM;obtain⟨zn,hzn⟩:∃ zn:Int,zm+1=zn:=⟨_,rfl⟩;have HZN:Hid (((m+1:Nat):Int)=zn):=by refine(?_:((m+1:Nat):Int)=zn);omega
     clear hzm hzx hzy hm0 hm1 hin hm30 bx bY hpx hpy S1 S2 HZ HZX HZY hjs;rw[hzn] at i1 r1 u1 HM;have i2:0≤zn:=uo
     have hznw:IntKind.i64.wrap zn=zn:=wrap_i64 uo i1;have hznu:IntKind.u64.wrap zn=zn:=wrap_u64 uo uo;obtain⟨v1,v2,v3,v4⟩:=HFw.o;have hg53:g5≠g3:=by have:=HG5.o;have:=HG3.o;omega
     obtain⟨y0,y1,y2,y3,y4,y5⟩:=gE HCEL.o;clear y3 y4 y5 k0 k1 q1;obtain⟨p1,p2⟩:=lM HCEL.o (.int .u32 (px:Int)) (.int .u32 (py:Int)) (.int .i64 zn);have hss:(((wr.setCell ⟨g3,0,none⟩ (.int .u32 (px:Int))).setCell ⟨g3,1,none⟩ (.int .u32 (py:Int))).setCell ⟨g3,2,none⟩ (.int .i64 zn)).heap.size=wr.heap.size:=by simp[World.setCell]
     have hb6:=bF (((wr.setCell ⟨g3,0,none⟩ (.int .u32 (px:Int))).setCell ⟨g3,1,none⟩ (.int .u32 (py:Int))).setCell ⟨g3,2,none⟩ (.int .i64 zn)) (.cells #[.int .u32 (px:Int),.int .u32 (py:Int),.int .i64 zn] 70)
     have HJ6:Hid (AJ xx yy w (m+1) ((((wr.setCell ⟨g3,0,none⟩ (.int .u32 (px:Int))).setCell ⟨g3,1,none⟩ (.int .u32 (py:Int))).setCell ⟨g3,2,none⟩ (.int .i64 zn)).alloc (.cells #[.int .u32 (px:Int),.int .u32 (py:Int),.int .i64 zn] 70))):=by
      refine(?_:AJ xx yy w (m+1) ((((wr.setCell ⟨g3,0,none⟩ (.int .u32 (px:Int))).setCell ⟨g3,1,none⟩ (.int .u32 (py:Int))).setCell ⟨g3,2,none⟩ (.int .i64 zn)).alloc (.cells #[.int .u32 (px:Int),.int .u32 (py:Int),.int .i64 zn] 70)));have e3:=HG3.o;refine⟨(hb6.block _ uo).trans ((p2.block _ uo).trans HJw.o.res),?_,HJw.o.bel.trans ((p2.mono uo).trans (hb6.mono uo))⟩;rw[e3,HPX.o,HPY.o,HZN.o];exact(hb6.block _ uo).trans p1
     have HF6:Hid (F4 g5 ⟨id,x,y,v⟩ ((((wr.setCell ⟨g3,0,none⟩ (.int .u32 (px:Int))).setCell ⟨g3,1,none⟩ (.int .u32 (py:Int))).setCell ⟨g3,2,none⟩ (.int .i64 zn)).alloc (.cells #[.int .u32 (px:Int),.int .u32 (py:Int),.int .i64 zn] 70))):=by
      refine(?_:F4 g5 ⟨id,x,y,v⟩ ((((wr.setCell ⟨g3,0,none⟩ (.int .u32 (px:Int))).setCell ⟨g3,1,none⟩ (.int .u32 (py:Int))).setCell ⟨g3,2,none⟩ (.int .i64 zn)).alloc (.cells #[.int .u32 (px:Int),.int .u32 (py:Int),.int .i64 zn] 70)));refine HFw.o.same ((hb6.block _ (by have:=HSw.o;omega)).trans ?_);exact(dp _ _ _ _ hg53).trans ((dp _ _ _ _ hg53).trans (dp _ _ _ _ hg53))
     have HS6:Hid (g5<((((wr.setCell ⟨g3,0,none⟩ (.int .u32 (px:Int))).setCell ⟨g3,1,none⟩ (.int .u32 (py:Int))).setCell ⟨g3,2,none⟩ (.int .i64 zn)).alloc (.cells #[.int .u32 (px:Int),.int .u32 (py:Int),.int .i64 zn] 70)).heap.size):=by have h1:=HSw.o;have h2:=hb6.size;rw[hss] at h2;exact Nat.lt_of_lt_of_le h1 h2
     clear p1 p2 hss hb6;go_wp2_with fail;refine um (HM.o _) fun W7 b7=>?_;have HJ7:Hid (AJ xx yy w (m+1) W7):=HJ6.o.next b7 HJ6.o.size;have HF7:Hid (F4 g5 ⟨id,x,y,v⟩ W7):=HF6.o.same (b7.block _ HS6.o);have HS7:Hid (g5<W7.heap.size):=Nat.lt_of_lt_of_le HS6.o b7.size;clear b7 HJ6 HF6 HS6;go_wp2_with fail
     go_roundw
     case rel=>exact⟨m+1,HNM.o.1,HNM.o.2.1,rfl,HJ7.o,HF7.o,HS7.o⟩
     case measure=>
      rw[iN HJ7.o,iN HJw.o];have:=HNM.o.2.2;omega
  ·obtain rfl:k=l.length:=uo
   have q1:¬(l.length:Int)<(l.length:Int):=uo
   rw[List.take_length] at HJ;have e3:=HG3.o;have hc3:=HJ.o.cel;rw[e3] at hc3;obtain⟨z0,z1,z2,f0,f1,f2⟩:=gE HJ.o.res;obtain⟨j0,j1,j2,t0,t1,t2⟩:=gE hc3;obtain⟨h3,b3⟩:=lM HJ.o.res (.int .u32 ((bR (x0 l) (dU (x0 l) (y0 l) l):Nat):Int)) (.int .u32 ((bR (y0 l) (dU (x0 l) (y0 l) l):Nat):Int)) (.int .i64 ((dU (x0 l) (y0 l) l:Nat):Int));have H3:Hid _:=h3;have B3:Hid (Below w.heap.size w _):=HJ.o.bel.trans b3;clear hj h3 b3 hc3 j0 j1 j2 e3 hsz1;go_wp2_with fail;exact bodyPost_ret (ziR rfl _ _ _ _ _ _ rfl H3.o) rfl ⟨rfl,B3.o⟩
theorem ge (n:Nat) (hn:n≤1000) (w:World):(Instr.makeSlice 22 (.int .i64 0) (.int .i64 (n:Int))).run Tryz.prog w=.ok (.slice (some ⟨w.heap.size,0,none⟩) 0 n) (w.alloc (.cells (madeCells #[.int .u64 0,.int .u32 0,.int .u32 0,.string ⟨#[]⟩] (n*4)) 79)):=by
 obtain⟨i,hi,hz,hs,hb⟩:=info_parts mF;have hr:=run_make (P:=Tryz.prog) w 22 79 i _ Tryz.underlying22 hi hz .i64 .i64 0 n uo uo (by rw[hb];omega) uo;simp only[Int.toNat_natCast,hs] at hr;exact hr
theorem jW (d:Nat) (o:Option Addr) (cap:Nat) (w:World):
  Calls Tryz.prog 72 #[.slice o 0 cap] w fun e w'=>∃ n:Nv,e=.returned (nv n)∧ci (fun b=>w.heap.size≤b) (d+1) w' n []∧Below w.heap.size w w':=by
 have HB:Hid (Below w.heap.size w (w.alloc (.cells #[.int .u32 0,.int .u32 0,.int .i64 0,.slice none 0 0,.slice none 0 0] 73))):=bF w _;have HG:Hid ((w.alloc (.cells #[.int .u32 0,.int .u32 0,.int .i64 0,.slice none 0 0,.slice none 0 0] 73)).heap[w.heap.size]? =some (.cells #[.int .u32 0,.int .u32 0,.int .i64 0,.slice none 0 0,.slice none 0 0] 73 (0,0))):=zq w _;go_enter Tryz.func72,Tryz.ntmps72;go_wp2_with fail;refine bodyPost_ret (mG rfl _ _ _ _ _ _ _ _ rfl HG.o) rfl ⟨⟨0,0,0,none,0,0,none,0,0⟩,rfl,zmj _ d _,HB.o⟩
theorem ix (d:Nat) (l:List Rw) (o:Option Addr) (cap:Nat) (w:World) (hr:cH w o cap l) (hon:On l) (hmax:l.length≤1000) (hne:0<l.length) (hlf:leaf l=true):
  Calls Tryz.prog 72 #[.slice o l.length cap] w fun e w'=>∃ n:Nv,e=.returned (nv n)∧ci (fun b=>w.heap.size≤b) (d+1) w' n l∧Below w.heap.size w w':=by
  have HLf:Hid (leaf l=true):=hlf;have HHR:cH (w.alloc (.cells #[.int .u32 0,.int .u32 0,.int .i64 0,.slice none 0 0,.slice none 0 0] 73)) o cap l:=hr.below (bF w _) zn;have HC:Hid _:=fX l o cap (w.alloc (.cells #[.int .u32 0,.int .u32 0,.int .i64 0,.slice none 0 0,.slice none 0 0] 73)) HHR hne hon hmax;have HG2n:Hid ((w.alloc (.cells #[.int .u32 0,.int .u32 0,.int .i64 0,.slice none 0 0,.slice none 0 0] 73)).heap[w.heap.size]? =some (.cells #[.int .u32 0,.int .u32 0,.int .i64 0,.slice none 0 0,.slice none 0 0] 73 (0,0))):=zq w _;have HBn:Hid (Below w.heap.size w (w.alloc (.cells #[.int .u32 0,.int .u32 0,.int .i64 0,.slice none 0 0,.slice none 0 0] 73))):=bF w _;have HR:Hid (cH w o cap l):=hr;obtain⟨X,hX⟩:∃ X,cx l=X:=⟨_,rfl⟩;obtain⟨Y,hY⟩:∃ Y,cy l=Y:=⟨_,rfl⟩;obtain⟨L,hL⟩:∃ L:Int,(cQ l:Int)=L:=⟨_,rfl⟩;have HX:Hid (cx l=X):=hX;have HY:Hid (cy l=Y):=hY;have HL:Hid ((cQ l:Int)=L):=hL
  rw[hX,hY,hL] at HC;have q0:((l.length:Int)==0)=false:=by rw[beq_eq_false_iff_ne];omega
  have n0:¬l.length=0:=uo
  by_cases h4:l.length≤4
  ·have q1:decide ((l.length:Int)≤4)=true:=decide_eq_true uo
   clear hlf h4;clear hr HHR hX hY hL;go_enter Tryz.func72,Tryz.ntmps72;go_wp2_with fail;refine Calls.mono HC.o ?_;rintro e W1 ⟨rfl,b1⟩;have HG2a:=(b1.block _ us).trans HG2n.o;have hs1:w.heap.size<W1.heap.size:=by have:=b1.size;simp at this;omega
   have HB2:Hid (Below w.heap.size w (W1.alloc (.cells #[.int .u32 (X:Int),.int .u32 (Y:Int),.int .i64 L,.slice none 0 0,.slice none 0 0] 73))):=(HBn.o.trans (b1.mono us)).trans ((bF W1 _).mono uo);have HG2:Hid ((W1.alloc (.cells #[.int .u32 (X:Int),.int .u32 (Y:Int),.int .i64 L,.slice none 0 0,.slice none 0 0] 73)).heap[w.heap.size]? =some (.cells #[.int .u32 0,.int .u32 0,.int .i64 0,.slice none 0 0,.slice none 0 0] 73 (0,0))):=((bF W1 _).block _ hs1).trans HG2a;have HG3:Hid ((W1.alloc (.cells #[.int .u32 (X:Int),.int .u32 (Y:Int),.int .i64 L,.slice none 0 0,.slice none 0 0] 73)).heap[W1.heap.size]? =some (.cells #[.int .u32 (X:Int),.int .u32 (Y:Int),.int .i64 L,.slice none 0 0,.slice none 0 0] 73 (0,0))):=zq W1 _;clear b1 HG2a;go_wp2_with fail;have HG2s:Hid (w.heap.size<(W1.alloc (.cells #[.int .u32 (X:Int),.int .u32 (Y:Int),.int .i64 L,.slice none 0 0,.slice none 0 0] 73)).heap.size):=(zi HG2.o).1
   have HG3s:Hid ((W1.alloc (.cells #[.int .u32 (X:Int),.int .u32 (Y:Int),.int .i64 L,.slice none 0 0,.slice none 0 0] 73)).heap.size=W1.heap.size+1):=by refine(?_:(W1.alloc (.cells #[.int .u32 (X:Int),.int .u32 (Y:Int),.int .i64 L,.slice none 0 0,.slice none 0 0] 73)).heap.size=W1.heap.size+1);simp
   have HG32:Hid (w.heap.size<W1.heap.size):=hs1;obtain⟨g3,hg3⟩:∃ g3,W1.heap.size=g3:=⟨_,rfl⟩;obtain⟨W2,hW2⟩:∃ W2,W1.alloc (.cells #[.int .u32 (X:Int),.int .u32 (Y:Int),.int .i64 L,.slice none 0 0,.slice none 0 0] 73)=W2:=⟨_,rfl⟩;rw[hW2] at HB2 HG2 HG3 HG2s HG3s ⊢;rw[hg3] at HG3 HG3s HG32 ⊢;clear hW2 hg3 hs1 HC HG2n HBn;obtain⟨z0,z1,z2,z3,z4,t0,t1,t2,t3,t4⟩:=et HG3.o;have hmk:=ge l.length hmax W2;have hb2:=bF W2 (.cells (madeCells #[.int .u64 0,.int .u32 0,.int .u32 0,.string ⟨#[]⟩] (l.length*4)) 79)
   have hown:(W2.alloc (.cells (madeCells #[.int .u64 0,.int .u32 0,.int .u32 0,.string ⟨#[]⟩] (l.length*4)) 79)).ownsRow W2.heap.size 79 4 (.slice (some ⟨W2.heap.size,0,none⟩) 0 l.length) 0 []:=
    ⟨by simp,.inr ⟨W2.heap.size,l.length,_,rfl,Nat.le_refl _,zq W2 _,Nat.zero_le _,by simp only[maxLen];omega,by rw[size_madeCells],by simp⟩⟩
   obtain⟨v',W',hrun,a1,a2,a3⟩:=iu 22 79 Tryz.underlying22 mF rfl ud ud (W2.alloc (.cells (madeCells #[.int .u64 0,.int .u32 0,.int .u32 0,.string ⟨#[]⟩] (l.length*4)) 79)) W2.heap.size 0 l.length (.slice (some ⟨W2.heap.size,0,none⟩) 0 l.length) o cap
    [] (l.flatMap rc) hown us (Sl.below (HR.o.below HB2.o zn) hb2 zn) (oZ l) uo
   rw[Nat.zero_add,List.nil_append] at a1;have hbW:Below W2.heap.size W2 W':=hb2.grown a2 us fun k ek=>by simp[Value.ownBlock] at ek;omega
   obtain⟨ro,rcap,rfl,sl⟩:=dx a1;have hro:∀ b off,ro=some ⟨b,off,none⟩→W2.heap.size≤b:=fun b off e=>(fu a1 (by rw[e];rfl)).1
   have hg3':W'.heap[g3]? =some (.cells #[.int .u32 (X:Int),.int .u32 (Y:Int),.int .i64 L,.slice none 0 0,.slice none 0 0] 73 (0,0)):=(hbW.block _ (by have:=HG3s.o;omega)).trans HG3.o;have hg2':W'.heap[w.heap.size]? =some (.cells #[.int .u32 0,.int .u32 0,.int .i64 0,.slice none 0 0,.slice none 0 0] 73 (0,0)):=(hbW.block _ HG2s.o).trans HG2.o;obtain⟨ln,hln⟩:∃ ln,l.length=ln:=⟨_,rfl⟩;have HLN:Hid (l.length=ln):=hln;obtain⟨y0,y1,y2,y3,y4,x0',x1,x2,x3,x4⟩:=et hg3';have hst:=zx W' g3 3 _ _ (.slice ro ln rcap) hg3';have hg32:w.heap.size≠g3:=by have:=HG32.o;omega
   have hst2:(W'.setCell ⟨g3,3,none⟩ (.slice ro ln rcap)).heap[w.heap.size]? =some (.cells #[.int .u32 0,.int .u32 0,.int .i64 0,.slice none 0 0,.slice none 0 0] 73 (0,0)):=(dp _ _ _ _ hg32).trans hg2';obtain⟨k0,k1,k2,k3,k4,j0,j1,j2,j3,j4⟩:=et hst2;obtain⟨i0,i1,i2,i3,i4,m0,m1,m2,m3,m4⟩:=et (a:=.int .u32 (X:Int)) (b:=.int .u32 (Y:Int)) (c:=.int .i64 L) (d:=.slice ro ln rcap) (e:=.slice none 0 0) hst;obtain⟨p1,p2,p3⟩:=lT hst2 (.int .u32 (X:Int)) (.int .u32 (Y:Int)) (.int .i64 L) (.slice ro ln rcap) (.slice none 0 0);have b4:Below g3 W' (W'.setCell ⟨g3,3,none⟩ (.slice ro ln rcap)):=⟨rfl,rfl,rfl,by simp[World.setCell],fun j hj=>dp _ _ _ _ uo⟩;have H3:=HG3s.o;have H32:=HG32.o;have hB5:Below w.heap.size w (W'.setCell ⟨g3,3,none⟩ (.slice ro ln rcap)):=HB2.o.trans ((hbW.mono uo).trans (b4.mono uo));have hsl:Sl 4 (W'.setCell ⟨g3,3,none⟩ (.slice ro ln rcap)) ro l.length rcap (l.flatMap rc):=Sl.same sl (by simp[World.setCell]) fun b off e _=>dp _ _ _ _ (by have:=hro b off e;omega)
   rw[hln] at hrun hmk ⊢;clear hbW hg3' hg2' hst hst2 b4 hown hb2 a1 a2 a3 sl z0 z1 z2 z3 z4 t0 t1 t2 t3 t4;obtain⟨W5,hW5⟩:∃ W5,W'.setCell ⟨g3,3,none⟩ (.slice ro ln rcap)=W5:=⟨_,rfl⟩;rw[hW5] at k0 k1 k2 k3 k4 j0 j1 j2 j3 j4 i0 i1 i2 i3 i4 m0 m1 m2 m3 m4 p1 p2 p3 hB5 hsl;have HP1:Hid _:=p1;have HP3:Hid (Below w.heap.size w _):=hB5.trans p3
   have HN:Hid (ci (fun b=>w.heap.size≤b) (d+1) (((((W5.setCell ⟨w.heap.size,0,none⟩ (.int .u32 (X:Int))).setCell ⟨w.heap.size,1,none⟩ (.int .u32 (Y:Int))).setCell ⟨w.heap.size,2,none⟩ (.int .i64 L)).setCell ⟨w.heap.size,3,none⟩ (.slice ro ln rcap)).setCell ⟨w.heap.size,4,none⟩ (.slice none 0 0)) ⟨X,Y,cQ l,ro,ln,rcap,none,0,0⟩ l):=by
    refine(?_:ci (fun b=>w.heap.size≤b) (d+1) _ _ l);refine⟨HX.o.symm,HY.o.symm,rfl,fun _=>⟨hln.symm,?_,fun _ b off e=>?_,rfl,Sl.nil 5 _⟩,fun h=>by rw[HLf.o] at h;cases h⟩
    ·exact Sl.same hsl (by simp[World.setCell]) fun b off e _=>p2 b (by have:=hro b off e;omega)
    ·have:=hro b off e
     show w.heap.size≤b;omega
   clear p1 p2 p3 hB5 hsl hro hln i0 i1 i2 i3 i4 y0 y1 y2 y4 x0' x1 x2 x4 hg32 H3 H32;go_wp2_with fail;rw[hmk]
   go_wp2_with (at_builtin;refine gT rfl 22 22 (.tmp 28) (.tmp 29) rfl (vs:=.slice (some ⟨W2.heap.size,0,none⟩) 0 ln) (vx:=.slice o ln cap) rfl rfl hrun ?_)
   refine bodyPost_ret (mG rfl _ _ _ _ _ _ _ _ rfl HP1.o) rfl ⟨⟨X,Y,cQ l,ro,ln,rcap,none,0,0⟩,?_,HN.o,HP3.o⟩;rw[←HL.o]
  ·have q1:decide ((l.length:Int)≤4)=false:=decide_eq_false uo
   have q2:(L==0)=true:=by
    rw[beq_iff_eq,←hL];unfold leaf at hlf;rw[decide_eq_true_iff] at hlf;omega
   clear hlf h4;clear hr HHR hX hY hL;go_enter Tryz.func72,Tryz.ntmps72;go_wp2_with fail;refine Calls.mono HC.o ?_;rintro e W1 ⟨rfl,b1⟩;have HG2a:=(b1.block _ us).trans HG2n.o;have hs1:w.heap.size<W1.heap.size:=by have:=b1.size;simp at this;omega
   have HB2:Hid (Below w.heap.size w (W1.alloc (.cells #[.int .u32 (X:Int),.int .u32 (Y:Int),.int .i64 L,.slice none 0 0,.slice none 0 0] 73))):=(HBn.o.trans (b1.mono us)).trans ((bF W1 _).mono uo);have HG2:Hid ((W1.alloc (.cells #[.int .u32 (X:Int),.int .u32 (Y:Int),.int .i64 L,.slice none 0 0,.slice none 0 0] 73)).heap[w.heap.size]? =some (.cells #[.int .u32 0,.int .u32 0,.int .i64 0,.slice none 0 0,.slice none 0 0] 73 (0,0))):=((bF W1 _).block _ hs1).trans HG2a;have HG3:Hid ((W1.alloc (.cells #[.int .u32 (X:Int),.int .u32 (Y:Int),.int .i64 L,.slice none 0 0,.slice none 0 0] 73)).heap[W1.heap.size]? =some (.cells #[.int .u32 (X:Int),.int .u32 (Y:Int),.int .i64 L,.slice none 0 0,.slice none 0 0] 73 (0,0))):=zq W1 _;clear b1 HG2a;go_wp2_with fail;have HG2s:Hid (w.heap.size<(W1.alloc (.cells #[.int .u32 (X:Int),.int .u32 (Y:Int),.int .i64 L,.slice none 0 0,.slice none 0 0] 73)).heap.size):=(zi HG2.o).1
   have HG3s:Hid ((W1.alloc (.cells #[.int .u32 (X:Int),.int .u32 (Y:Int),.int .i64 L,.slice none 0 0,.slice none 0 0] 73)).heap.size=W1.heap.size+1):=by refine(?_:(W1.alloc (.cells #[.int .u32 (X:Int),.int .u32 (Y:Int),.int .i64 L,.slice none 0 0,.slice none 0 0] 73)).heap.size=W1.heap.size+1);simp
   have HG32:Hid (w.heap.size<W1.heap.size):=hs1;obtain⟨g3,hg3⟩:∃ g3,W1.heap.size=g3:=⟨_,rfl⟩;obtain⟨W2,hW2⟩:∃ W2,W1.alloc (.cells #[.int .u32 (X:Int),.int .u32 (Y:Int),.int .i64 L,.slice none 0 0,.slice none 0 0] 73)=W2:=⟨_,rfl⟩;rw[hW2] at HB2 HG2 HG3 HG2s HG3s ⊢;rw[hg3] at HG3 HG3s HG32 ⊢;clear hW2 hg3 hs1 HC HG2n HBn;obtain⟨z0,z1,z2,z3,z4,t0,t1,t2,t3,t4⟩:=et HG3.o;have hmk:=ge l.length hmax W2;have hb2:=bF W2 (.cells (madeCells #[.int .u64 0,.int .u32 0,.int .u32 0,.string ⟨#[]⟩] (l.length*4)) 79)
   have hown:(W2.alloc (.cells (madeCells #[.int .u64 0,.int .u32 0,.int .u32 0,.string ⟨#[]⟩] (l.length*4)) 79)).ownsRow W2.heap.size 79 4 (.slice (some ⟨W2.heap.size,0,none⟩) 0 l.length) 0 []:=
    ⟨by simp,.inr ⟨W2.heap.size,l.length,_,rfl,Nat.le_refl _,zq W2 _,Nat.zero_le _,by simp only[maxLen];omega,by rw[size_madeCells],by simp⟩⟩
   obtain⟨v',W',hrun,a1,a2,a3⟩:=iu 22 79 Tryz.underlying22 mF rfl ud ud (W2.alloc (.cells (madeCells #[.int .u64 0,.int .u32 0,.int .u32 0,.string ⟨#[]⟩] (l.length*4)) 79)) W2.heap.size 0 l.length (.slice (some ⟨W2.heap.size,0,none⟩) 0 l.length) o cap
    [] (l.flatMap rc) hown us (Sl.below (HR.o.below HB2.o zn) hb2 zn) (oZ l) uo
   rw[Nat.zero_add,List.nil_append] at a1;have hbW:Below W2.heap.size W2 W':=hb2.grown a2 us fun k ek=>by simp[Value.ownBlock] at ek;omega
   obtain⟨ro,rcap,rfl,sl⟩:=dx a1;have hro:∀ b off,ro=some ⟨b,off,none⟩→W2.heap.size≤b:=fun b off e=>(fu a1 (by rw[e];rfl)).1
   have hg3':W'.heap[g3]? =some (.cells #[.int .u32 (X:Int),.int .u32 (Y:Int),.int .i64 L,.slice none 0 0,.slice none 0 0] 73 (0,0)):=(hbW.block _ (by have:=HG3s.o;omega)).trans HG3.o;have hg2':W'.heap[w.heap.size]? =some (.cells #[.int .u32 0,.int .u32 0,.int .i64 0,.slice none 0 0,.slice none 0 0] 73 (0,0)):=(hbW.block _ HG2s.o).trans HG2.o;obtain⟨ln,hln⟩:∃ ln,l.length=ln:=⟨_,rfl⟩;have HLN:Hid (l.length=ln):=hln;obtain⟨y0,y1,y2,y3,y4,x0',x1,x2,x3,x4⟩:=et hg3';have hst:=zx W' g3 3 _ _ (.slice ro ln rcap) hg3';have hg32:w.heap.size≠g3:=by have:=HG32.o;omega
   have hst2:(W'.setCell ⟨g3,3,none⟩ (.slice ro ln rcap)).heap[w.heap.size]? =some (.cells #[.int .u32 0,.int .u32 0,.int .i64 0,.slice none 0 0,.slice none 0 0] 73 (0,0)):=(dp _ _ _ _ hg32).trans hg2';obtain⟨k0,k1,k2,k3,k4,j0,j1,j2,j3,j4⟩:=et hst2;obtain⟨i0,i1,i2,i3,i4,m0,m1,m2,m3,m4⟩:=et (a:=.int .u32 (X:Int)) (b:=.int .u32 (Y:Int)) (c:=.int .i64 L) (d:=.slice ro ln rcap) (e:=.slice none 0 0) hst;obtain⟨p1,p2,p3⟩:=lT hst2 (.int .u32 (X:Int)) (.int .u32 (Y:Int)) (.int .i64 L) (.slice ro ln rcap) (.slice none 0 0);have b4:Below g3 W' (W'.setCell ⟨g3,3,none⟩ (.slice ro ln rcap)):=⟨rfl,rfl,rfl,by simp[World.setCell],fun j hj=>dp _ _ _ _ uo⟩;have H3:=HG3s.o;have H32:=HG32.o;have hB5:Below w.heap.size w (W'.setCell ⟨g3,3,none⟩ (.slice ro ln rcap)):=HB2.o.trans ((hbW.mono uo).trans (b4.mono uo));have hsl:Sl 4 (W'.setCell ⟨g3,3,none⟩ (.slice ro ln rcap)) ro l.length rcap (l.flatMap rc):=Sl.same sl (by simp[World.setCell]) fun b off e _=>dp _ _ _ _ (by have:=hro b off e;omega)
   rw[hln] at hrun hmk ⊢;clear hbW hg3' hg2' hst hst2 b4 hown hb2 a1 a2 a3 sl z0 z1 z2 z3 z4 t0 t1 t2 t3 t4;obtain⟨W5,hW5⟩:∃ W5,W'.setCell ⟨g3,3,none⟩ (.slice ro ln rcap)=W5:=⟨_,rfl⟩;rw[hW5] at k0 k1 k2 k3 k4 j0 j1 j2 j3 j4 i0 i1 i2 i3 i4 m0 m1 m2 m3 m4 p1 p2 p3 hB5 hsl;have HP1:Hid _:=p1;have HP3:Hid (Below w.heap.size w _):=hB5.trans p3
   have HN:Hid (ci (fun b=>w.heap.size≤b) (d+1) (((((W5.setCell ⟨w.heap.size,0,none⟩ (.int .u32 (X:Int))).setCell ⟨w.heap.size,1,none⟩ (.int .u32 (Y:Int))).setCell ⟨w.heap.size,2,none⟩ (.int .i64 L)).setCell ⟨w.heap.size,3,none⟩ (.slice ro ln rcap)).setCell ⟨w.heap.size,4,none⟩ (.slice none 0 0)) ⟨X,Y,cQ l,ro,ln,rcap,none,0,0⟩ l):=by
    refine(?_:ci (fun b=>w.heap.size≤b) (d+1) _ _ l);refine⟨HX.o.symm,HY.o.symm,rfl,fun _=>⟨hln.symm,?_,fun _ b off e=>?_,rfl,Sl.nil 5 _⟩,fun h=>by rw[HLf.o] at h;cases h⟩
    ·exact Sl.same hsl (by simp[World.setCell]) fun b off e _=>p2 b (by have:=hro b off e;omega)
    ·have:=hro b off e
     show w.heap.size≤b;omega
   clear p1 p2 p3 hB5 hsl hro hln i0 i1 i2 i3 i4 y0 y1 y2 y4 x0' x1 x2 x4 hg32 H3 H32;go_wp2_with fail;rw[hmk]
   go_wp2_with (at_builtin;refine gT rfl 22 22 (.tmp 28) (.tmp 29) rfl (vs:=.slice (some ⟨W2.heap.size,0,none⟩) 0 ln) (vx:=.slice o ln cap) rfl rfl hrun ?_)
   refine bodyPost_ret (mG rfl _ _ _ _ _ _ _ _ rfl HP1.o) rfl ⟨⟨X,Y,cQ l,ro,ln,rcap,none,0,0⟩,?_,HN.o,HP3.o⟩;rw[←HL.o]
structure KE (d:Nat) (l:List Rw) (w:World) (B:Nat) (j:Nat) (ks:List Nv) (v:Value) (W:World):Prop where
 len:ks.length=(kl l j).length
 own:W.ownsRow B 73 5 v ks.length (ks.flatMap nc)
 nodes:∀ i (h1:i<ks.length) (h2:i<(kl l j).length),ci (fun b=>B≤b∧v.ownBlock≠some b) d W ks[i] (kl l j)[i]
 bel:Below w.heap.size w W
 base:w.heap.size≤B∧B≤W.heap.size
theorem KE.skip {d:Nat} {l:List Rw} {w:World} {B j:Nat} {ks:List Nv} {v:Value} {W:World} (h:KE d l w B j ks v W) (hp:part l j=[]):KE d l w B (j+1) ks v W:=by
 obtain⟨h1,h2,h3,h4,h5⟩:=h;refine⟨by rw[qK hp];exact h1,h2,?_,h4,h5⟩;rw[qK hp];exact h3
theorem KE.next {d:Nat} {l:List Rw} {w:World} {B j:Nat} {ks:List Nv} {v:Value} {W W':World} (h:KE d l w B j ks v W) (hb:Below W.heap.size W W'):KE d l w B j ks v W':=
 ⟨h.len,kI h.own fun b _ hlt=>hb.block b hlt,fun i h1 h2=>(h.nodes i h1 h2).below hb zn,h.bel.trans (hb.mono h.bel.size),h.base.1,Nat.le_trans h.base.2 hb.size⟩
theorem KE.set {d:Nat} {l:List Rw} {w:World} {B j:Nat} {ks:List Nv} {v:Value} {W:World} (h:KE d l w B j ks v W) (g k:Nat) (u:Value) (hg:g<B) (hw:w.heap.size≤g):KE d l w B j ks v (W.setCell ⟨g,k,none⟩ u):=
 ⟨h.len,kI h.own fun b hb _=>dp _ _ _ _ (by have:=(fu h.own hb).1;omega),fun i h1 h2=>(h.nodes i h1 h2).same (by simp[World.setCell]) fun b hG _=>dp _ _ _ _ (by have:=hG.1;omega),
  h.bel.trans ⟨rfl,rfl,rfl,by simp[World.setCell],fun b hb=>dp _ _ _ _ uo⟩,h.base.1,by have:=h.base.2;simp[World.setCell];exact this⟩
theorem KE.step {d:Nat} {l:List Rw} {w:World} {B j:Nat} {ks:List Nv} {v:Value} {W W1 W2 W':World} (h:KE d l w B j ks v W) (hp:part l j≠[]) {n:Nv} {v':Value}
  (hb1:Below W.heap.size W W1) (hn:ci (fun b=>W.heap.size≤b) d W1 n (part l j)) (hb2:Below W1.heap.size W1 W2) (ho:W'.ownsRow B 73 5 v' (ks.length+1) (ks.flatMap nc++nc n)) (hg:W2.grownBy W' v.ownBlock) (hf:v'.ownBlock=v.ownBlock∨v'.ownBlock=some W2.heap.size):
  KE d l w B (j+1) (ks++[n]) v' W':=by
 have hs1:=hb1.size;have hs2:=hb2.size;have hw3:=h.bel.size;have hbs:=h.base;have hv:∀ b,v.ownBlock=some b→B≤b∧b<W.heap.size:=fun b hb=>fu h.own hb
 have keep:∀ b,b<W2.heap.size→v.ownBlock≠some b→W'.heap[b]? =W2.heap[b]? :=fun b hb hne=>hg.block b hb fun e=>hne e.symm
 have nv':∀ b,b<W2.heap.size→v.ownBlock≠some b→v'.ownBlock≠some b:=fun b hb hne e=>by
  rcases hf with hf|hf
  ·rw[hf] at e;exact hne e
  ·rw[hf] at e;cases e;omega
 refine⟨by rw[nr hp,List.length_append,List.length_append,h.len];rfl,?_,fun i h1 h2=>?_,h.bel.trans ⟨?_,?_,?_,?_,fun b hb=>?_⟩,hbs.1,Nat.le_trans hbs.2 (Nat.le_trans hs1 (Nat.le_trans hs2 hg.size))⟩
 ·rw[List.length_append,List.flatMap_append];simpa using ho
 ·have e:(kl l (j+1))[i]=(kl l j++[part l j])[i]'(by rw[←nr hp];exact h2):=by congr 1;exact nr hp
  rw[e];by_cases hi:i<ks.length
  ·rw[List.getElem_append_left hi,List.getElem_append_left (by rw[←h.len];exact hi)]
   have a:=h.nodes i hi (by rw[←h.len];exact hi);have a2:=(a.below hb1 zn).below hb2 zn;have a0:ci (fun b=>(B≤b∧v.ownBlock≠some b)∧b<W2.heap.size) d W2 ks[i] ((kl l j)[i]'(by rw[←h.len];exact hi)):=a2.mono fun b hb hG=>⟨hG,hb⟩
   exact(a0.same hg.size fun b hG hb=>keep b hb hG.1.2).mono fun b _ hG=>⟨hG.1.1,nv' b hG.2 hG.1.2⟩
  ·have hi':i=ks.length:=by rw[List.length_append] at h1;simp at h1;omega
   subst hi';rw[List.getElem_append_right zn,List.getElem_append_right (by rw[h.len];omega)];simp only[Nat.sub_self,h.len,List.getElem_cons_zero];have a2:=hn.below hb2 zn;have a0:ci (fun b=>W.heap.size≤b∧b<W2.heap.size) d W2 n (part l j):=a2.mono fun b hb hG=>⟨hG,hb⟩
   have hvb:∀ b,W.heap.size≤b→v.ownBlock≠some b:=fun b hb e=>by have:=(hv b e).2;omega
   exact(a0.same hg.size fun b hG hb=>keep b hb (hvb b hG.1)).mono fun b _ hG=>⟨by omega,nv' b hG.2 (hvb b hG.1)⟩
 ·exact hg.os.trans (hb2.os.trans hb1.os)
 ·exact hg.tape.trans (hb2.tape.trans hb1.tape)
 ·exact hg.output.trans (hb2.output.trans hb1.output)
 ·exact Nat.le_trans hs1 (Nat.le_trans hs2 hg.size)
 ·exact(keep b uo (fun e=>by have:=(hv b e).1;omega)).trans ((hb2.block b uo).trans (hb1.block b uo))
def K4 (g:Nat) (v:Value) (w:World):Prop:=w.cell? ⟨g,4,none⟩=some v∧True
def QS (g X Y:Nat) (L:Int) (b x p q:Nat) (w:World):Prop:=cG g X Y L w∧X2 b x p q w
theorem iO (d:Nat) (ih:∀ (l:List Rw) (o:Option Addr) (cap:Nat) (w:World),cH w o cap l→On l→l.length≤1000→cQ l<d→
   Calls Tryz.prog 72 #[.slice o l.length cap] w fun e w'=>∃ n:Nv,e=.returned (nv n)∧ci (fun b=>w.heap.size≤b) d w' n l∧Below w.heap.size w w')
  (l:List Rw) (o:Option Addr) (cap:Nat) (w:World) (hr:cH w o cap l) (hon:On l) (hmax:l.length≤1000) (hlf:leaf l=false) (hd:cQ l<d+1):
  Calls Tryz.prog 72 #[.slice o l.length cap] w fun e w'=>∃ n:Nv,e=.returned (nv n)∧ci (fun b=>w.heap.size≤b) (d+1) w' n l∧Below w.heap.size w w':=by
  obtain⟨h4,m,hm⟩:=mY hlf;have hne:0<l.length:=uo
  have HLf:Hid (leaf l=false):=hlf;have IH:Hid _:=ih;have HHR:cH (w.alloc (.cells #[.int .u32 0,.int .u32 0,.int .i64 0,.slice none 0 0,.slice none 0 0] 73)) o cap l:=hr.below (bF w _) zn;have HC:Hid _:=fX l o cap (w.alloc (.cells #[.int .u32 0,.int .u32 0,.int .i64 0,.slice none 0 0,.slice none 0 0] 73)) HHR hne hon hmax;have HG2n:Hid ((w.alloc (.cells #[.int .u32 0,.int .u32 0,.int .i64 0,.slice none 0 0,.slice none 0 0] 73)).heap[w.heap.size]? =some (.cells #[.int .u32 0,.int .u32 0,.int .i64 0,.slice none 0 0,.slice none 0 0] 73 (0,0))):=zq w _;have HBn:Hid (Below w.heap.size w (w.alloc (.cells #[.int .u32 0,.int .u32 0,.int .i64 0,.slice none 0 0,.slice none 0 0] 73))):=bF w _;have HR:Hid (cH w o cap l):=hr;obtain⟨X,hX⟩:∃ X,cx l=X:=⟨_,rfl⟩;obtain⟨Y,hY⟩:∃ Y,cy l=Y:=⟨_,rfl⟩;obtain⟨L,hL⟩:∃ L:Int,(cQ l:Int)=L:=⟨_,rfl⟩;have HX:Hid (cx l=X):=hX;have HY:Hid (cy l=Y):=hY
  have HL:Hid ((cQ l:Int)=L):=hL;rw[hX,hY,hL] at HC;have q0:((l.length:Int)==0)=false:=by rw[beq_eq_false_iff_ne];omega
  have n0:¬l.length=0:=uo
  have q1:decide ((l.length:Int)≤4)=false:=decide_eq_false uo;have q2:(L==0)=false:=by rw[beq_eq_false_iff_ne,←hL];omega
  have HM:Hid (cQ l=m+1):=hm;have HD:Hid (cQ l<d+1):=hd;have fs:Hid (On l):=hon;have hcl:=mC hon;rw[hX,hY,hm] at hcl;have HCL:Hid (Cl X Y (m+1)):=hcl
  have HHas:Hid (∀ r∈l,ck X Y ((m+1:Nat):Int) r.x r.y=true):=fun r hr'=>by
   have:=nR hon hr';rwa[hX,hY,hm] at this
  have HLm:Hid (L=((m+1:Nat):Int)):=by refine(?_:L=((m+1:Nat):Int));rw[←hL,hm]
  clear hlf h4 hm hd hon ih hcl;clear hr HHR hX hY hL;go_enter Tryz.func72,Tryz.ntmps72;go_wp2_with fail;refine Calls.mono HC.o ?_;rintro e W1 ⟨rfl,b1⟩;have HG2a:=(b1.block _ us).trans HG2n.o;have hs1:w.heap.size<W1.heap.size:=by have:=b1.size;simp at this;omega
  have HB2:Hid (Below w.heap.size w (W1.alloc (.cells #[.int .u32 (X:Int),.int .u32 (Y:Int),.int .i64 L,.slice none 0 0,.slice none 0 0] 73))):=(HBn.o.trans (b1.mono us)).trans ((bF W1 _).mono uo);have HG2:Hid ((W1.alloc (.cells #[.int .u32 (X:Int),.int .u32 (Y:Int),.int .i64 L,.slice none 0 0,.slice none 0 0] 73)).heap[w.heap.size]? =some (.cells #[.int .u32 0,.int .u32 0,.int .i64 0,.slice none 0 0,.slice none 0 0] 73 (0,0))):=((bF W1 _).block _ hs1).trans HG2a;have HG3:Hid ((W1.alloc (.cells #[.int .u32 (X:Int),.int .u32 (Y:Int),.int .i64 L,.slice none 0 0,.slice none 0 0] 73)).heap[W1.heap.size]? =some (.cells #[.int .u32 (X:Int),.int .u32 (Y:Int),.int .i64 L,.slice none 0 0,.slice none 0 0] 73 (0,0))):=zq W1 _;clear b1 HG2a;go_wp2_with fail;have HG2s:Hid (w.heap.size<(W1.alloc (.cells #[.int .u32 (X:Int),.int .u32 (Y:Int),.int .i64 L,.slice none 0 0,.slice none 0 0] 73)).heap.size):=(zi HG2.o).1
  have HG3s:Hid ((W1.alloc (.cells #[.int .u32 (X:Int),.int .u32 (Y:Int),.int .i64 L,.slice none 0 0,.slice none 0 0] 73)).heap.size=W1.heap.size+1):=by refine(?_:(W1.alloc (.cells #[.int .u32 (X:Int),.int .u32 (Y:Int),.int .i64 L,.slice none 0 0,.slice none 0 0] 73)).heap.size=W1.heap.size+1);simp
  have HG32:Hid (w.heap.size<W1.heap.size):=hs1;obtain⟨g3,hg3⟩:∃ g3,W1.heap.size=g3:=⟨_,rfl⟩;obtain⟨W2,hW2⟩:∃ W2,W1.alloc (.cells #[.int .u32 (X:Int),.int .u32 (Y:Int),.int .i64 L,.slice none 0 0,.slice none 0 0] 73)=W2:=⟨_,rfl⟩;rw[hW2] at HB2 HG2 HG3 HG2s HG3s ⊢;rw[hg3] at HG3 HG3s HG32 ⊢;clear hW2 hg3 hs1 HC HG2n HBn;obtain⟨z0,z1,z2,z3,z4,t0,t1,t2,t3,t4⟩:=et HG3.o;have HKE:Hid (KE d l w W2.heap.size 0 [] (.slice none 0 0) W2):=⟨rfl,World.ownsRow_nil _ _ _ _,fun i h1 _=>absurd h1 us,HB2.o,Nat.le_of_lt HG2s.o,Nat.le_refl _⟩;go_wp2_with fail;clear z0 z1 z2 z3 z4 t0 t1 t2 t3 t4
  go_loopw [4] (fun i wr=>∃ j:Nat,j≤4∧i=.int .i64 (j:Int)∧∃ ks kv,KE d l w W2.heap.size j ks kv wr∧wr.heap[g3]? =some (.cells #[.int .u32 (X:Int),.int .u32 (Y:Int),.int .i64 L,.slice none 0 0,kv] 73 (0,0))∧wr.heap[w.heap.size]? =some (.cells #[.int .u32 0,.int .u32 0,.int .i64 0,.slice none 0 0,.slice none 0 0] 73 (0,0))) (fun i _=>4 - bu i)
  case atStart=>exact⟨0,by omega,rfl,[],.slice none 0 0,HKE.o,HG3.o,HG2.o⟩
  case round=>
   obtain⟨j,hj,rfl,ks,kv,hJ,hg3,hg2⟩:=hrel;obtain⟨W4,hW4⟩:∃ W4,wr=W4:=⟨_,rfl⟩;rw[hW4] at hJ hg3 hg2 ⊢;clear hW4;have HJ:Hid (KE d l w W2.heap.size j ks kv W4):=hJ;have HG3':Hid (W4.heap[g3]? =some (.cells #[.int .u32 (X:Int),.int .u32 (Y:Int),.int .i64 L,.slice none 0 0,kv] 73 (0,0))):=hg3;have HG2':Hid (W4.heap[w.heap.size]? =some (.cells #[.int .u32 0,.int .u32 0,.int .i64 0,.slice none 0 0,.slice none 0 0] 73 (0,0))):=hg2;obtain⟨ko,kc,rfl,sk⟩:=dx hJ.own;by_cases hlt:j<4
   ·have q3:(j:Int)<4:=uo
    have k1:(j:Int)+1≤9223372036854775807:=uo
    have HQ:Hid _:=gj X Y L (j:Int) (by have:=HCL.o.x31;omega) (by have:=HCL.o.y31;omega);have hqy:=gZ HCL.o hlt;rw[←HLm.o] at hqy;rw[hqy] at HQ;simp only[qv] at HQ;have hqc:=HCL.o.quarter j hlt
    have HIn:Hid (∀ r∈l,ck (X+2 ^ m*(j%2)) (Y+2 ^ m*(j/2)) (m:Int) r.x r.y=decide (wq m r.x r.y=j)):=fun r hr'=>by
     have h1:=HCL.o.in_quarter (x:=r.x) (y:=r.y) j hlt;have h2:=HHas.o r hr';cases e:ck (X+2 ^ m*(j%2)) (Y+2 ^ m*(j/2)) (m:Int) r.x r.y
     ·symm;rw[decide_eq_false_iff_not];intro e2;rw[h1.2 ⟨h2,e2⟩] at e;cases e
     ·symm;rw[decide_eq_true_iff];exact(h1.1 e).2
    have hqx31:=hqc.x31;have hqy31:=hqc.y31;have HH:Hid (∀ (x y:Nat),x<4294967296→y<4294967296→∀ W,_):=fun x y (hx:x<4294967296) (hy:y<4294967296) (W:World)=>iK (X+2 ^ m*(j%2)) (Y+2 ^ m*(j/2)) (m:Int) x y uo uo hx hy W
    obtain⟨qX,hqX⟩:∃ qX,X+2 ^ m*(j%2)=qX:=⟨_,rfl⟩;obtain⟨qY,hqY⟩:∃ qY,Y+2 ^ m*(j/2)=qY:=⟨_,rfl⟩;obtain⟨zm,hzm⟩:∃ zm:Int,(m:Int)=zm:=⟨_,rfl⟩;rw[hqX,hqY,hzm] at HQ HIn HH;obtain⟨z0,z1,z2,z3,z4,t0,t1,t2,t3,t4⟩:=et hg3;have hgs:g3<W4.heap.size:=(zi hg3).1;clear z0 z1 z2 z3 z4 hqy hqc hqx31 hqy31 hqX hqY hzm hg3 hg2 hJ sk;go_wp2_with fail;refine um (HQ.o _) fun W5 b5=>?_;have HB5:Hid (Below W4.heap.size W4 (W5.alloc (.cells #[.int .u32 (qX:Int),.int .u32 (qY:Int),.int .i64 zm] 70))):=b5.trans ((bF W5 _).mono b5.size);have HG5:Hid ((W5.alloc (.cells #[.int .u32 (qX:Int),.int .u32 (qY:Int),.int .i64 zm] 70)).heap[W5.heap.size]? =some (.cells #[.int .u32 (qX:Int),.int .u32 (qY:Int),.int .i64 zm] 70 (0,0))):=zq W5 _;clear b5 t0 t1 t2 t3 t4 HQ;go_wp2_with fail;obtain⟨g5,hg5⟩:∃ g5,W5.heap.size=g5:=⟨_,rfl⟩;obtain⟨W6,hW6⟩:∃ W6,W5.alloc (.cells #[.int .u32 (qX:Int),.int .u32 (qY:Int),.int .i64 zm] 70)=W6:=⟨_,rfl⟩
    rw[hW6] at HB5 HG5 ⊢;rw[hg5] at HG5 ⊢;clear hW6 hg5;have HR6:Hid (cH W6 o cap l):=cH.below (cH.below HR.o HJ.o.bel zn) HB5.o zn
    go_loopw [7,8] (fun pv i wr=>∃ k:Nat,k≤l.length∧i=.int .i64 (k:Int)∧wr.ownsRow W6.heap.size 79 4 pv (pk m l k j).length ((pk m l k j).flatMap rc)∧Below W6.heap.size W6 wr) (fun _ i _=>l.length - bu i)
    case atStart=>
     refine⟨0,by omega,rfl,?_,Below.refl _ _⟩;have:pk m l 0 j=[]:=by simp[pk]
     rw[this];exact World.ownsRow_nil _ _ _ _
    case round=>
     obtain⟨k,hk,rfl,ho,hb⟩:=hrel;have HO:Hid _:=ho;have HBk:Hid (Below W6.heap.size W6 wr):=hb;obtain⟨po,pc,rfl,sp⟩:=dx ho;obtain⟨pn,hpn⟩:∃ pn,(pk m l k j).length=pn:=⟨_,rfl⟩;have HPN:Hid ((pk m l k j).length=pn):=hpn;have hpl:=zpv m l k j;rw[hpn] at ho HO sp hpl ⊢;by_cases hkl:k<l.length
     ·obtain⟨b,off,rfl,hbl,hc⟩:=(HR6.o.below hb zn).row hkl
      obtain⟨c0,c1,c2,c3⟩:=hc k hkl;have onr:=fs.o _ (mW hkl);have HC:=HH.o (cK l k).x (cK l k).y uo uo;rw[HIn.o _ (mW hkl)] at HC;have hnx:=sQ m l k j hkl;have q5:(k:Int)<(l.length:Int):=uo
      have k0:(0:Int)≤(k:Int):=uo
      have k2:(k:Int)+1≤9223372036854775807:=uo
      have g5k:wr.heap[g5]? =some (.cells #[.int .u32 (qX:Int),.int .u32 (qY:Int),.int .i64 zm] 70 (0,0)):=(hb.block _ (zi HG5.o).1).trans HG5.o;have hg5k:g5<wr.heap.size:=(zi g5k).1;generalize cK l k=r at*
      obtain⟨id,x,y,v⟩:=r;simp only at c0 c1 c2 c3 HC hnx onr;have HSW:Hid (QS g5 qX qY zm b (off+k*4) x y wr.drew):=⟨el.cells g5k,c1,c2⟩;have HCR:Hid (Fr wr b (off+k*4) ⟨id,x,y,v⟩):=⟨c0,c1,c2,c3⟩;clear hc onr c0 c1 c2 c3 g5k;by_cases hw:wq m x y=j
      ·rw[decide_eq_true hw] at HC
       rw[if_pos hw] at hnx
       replace HC:Hid _:=HC
       have HNX:Hid (pk m l (k+1) j=pk m l k j++[⟨id,x,y,v⟩]):=hnx;clear hnx hw;go_wp2_with fail;refine wp_region_held (S:=QS g5 qX qY zm b (off+k*4) x y) uk ?_;change wpAnyH _ _ _ _ _ _ _ _ (World.drew _);refine bB [0,1,2,3,4,5,6,7,8,9,10] ?_
       iterate 11
        refine bS (v:=?_) rfl ?_ HSW.o ?_;rotate_left
        ·rintro w ⟨⟨e1,e2,e3⟩,e4,e5⟩;go_simp;try with_reducible rfl
        conv in(Act.put _ _ _)=>simp only[bH,bI,bJ,Act.put,bK,bL,bM]
       refine bA ?_;refine dF 11 _ uk rfl uk (fun K hK=>?_);go_simp;refine um (HC.o _) fun w1 b1=>?_
       replace b1:Below wr.heap.size wr w1:=(Below.refl _ wr).drew.trans b1
       replace HSW:Hid (QS g5 qX qY zm b (off+k*4) x y w1):=⟨qJ HSW.o.1 (b1.block _ hg5k),HSW.o.2.same (b1.block b hbl)⟩
       refine hK _ _ HSW.o ?_;clear hK K;refine bB [12] ?_;refine bS (v:=?_) rfl ?_ HSW.o ?_;rotate_left
       ·rintro w ⟨⟨e1,e2,e3⟩,e4,e5⟩;go_simp;try with_reducible rfl
       conv in(Act.put _ _ _)=>simp only[bH,bI,bJ,Act.put,bK,bL,bM]
       refine bA ?_;refine wpAnyH_done uk ?_ _;obtain⟨c0,c1,c2,c3⟩:=HCR.o.same (b1.block b hbl);simp only at c0 c1 c2 c3;have hbn:=bF w1 (.cells #[.int .u64 (id:Int),.int .u32 (x:Int),.int .u32 (y:Int),.string v] 79)
       obtain⟨v',W',hrun,a1,a2,a3⟩:=iu 22 79 Tryz.underlying22 mF rfl ud ud (w1.alloc (.cells #[.int .u64 (id:Int),.int .u32 (x:Int),.int .u32 (y:Int),.string v] 79)) W6.heap.size pn 1 (.slice po pn pc) (some ⟨w1.heap.size,0,none⟩) 1
        ((pk m l k j).flatMap rc) (rc ⟨id,x,y,v⟩) (kI HO.o fun b _ hb'=>(hbn.block b (Nat.lt_of_lt_of_le hb' b1.size)).trans (b1.block b hb')) (by have:=HBk.o.size;have:=b1.size;simp;omega) (zob (r:=⟨id,x,y,v⟩) (zq w1 _)) (zoc _) uo
       have HO1:Hid (W'.ownsRow W6.heap.size 79 4 v' (pk m l (k+1) j).length ((pk m l (k+1) j).flatMap rc)):=by
        refine(?_:W'.ownsRow W6.heap.size 79 4 v' (pk m l (k+1) j).length ((pk m l (k+1) j).flatMap rc));rw[HNX.o,List.flatMap_append,List.length_append,HPN.o];simpa using a1
       have HB1:Hid (Below W6.heap.size W6 W'):=(HBk.o.trans ((b1.mono HBk.o.size).trans (hbn.mono (Nat.le_trans HBk.o.size b1.size)))).grown a2 (by have:=HBk.o.size;have:=b1.size;simp;omega) fun b eb=>(fu HO.o eb).1
       clear b1 hbn a1 a2 a3 HSW HC hb ho sp
       go_wp2_with (at_builtin;refine gT rfl 22 22 (.tmp 63) (.tmp 68) rfl (vs:=.slice po pn pc) (vx:=.slice (some ⟨w1.heap.size,0,none⟩) 1 1) rfl rfl hrun ?_)
       go_roundw
       case rel=>exact⟨k+1,by omega,by go_num,HO1.o,HB1.o⟩
       case measure=>simp[bu];omega
      ·rw[decide_eq_false hw] at HC
       rw[if_neg hw,List.append_nil] at hnx
       replace HC:Hid _:=HC
       have HNX:Hid (pk m l (k+1) j=pk m l k j):=hnx;clear hnx hw;go_wp2_with fail;refine wp_region_held (S:=QS g5 qX qY zm b (off+k*4) x y) uk ?_;change wpAnyH _ _ _ _ _ _ _ _ (World.drew _);refine bB [0,1,2,3,4,5,6,7,8,9,10] ?_
       iterate 11
        refine bS (v:=?_) rfl ?_ HSW.o ?_;rotate_left
        ·rintro w ⟨⟨e1,e2,e3⟩,e4,e5⟩;go_simp;try with_reducible rfl
        conv in(Act.put _ _ _)=>simp only[bH,bI,bJ,Act.put,bK,bL,bM]
       refine bA ?_;refine dF 11 _ uk rfl uk (fun K hK=>?_);go_simp;refine um (HC.o _) fun w1 b1=>?_
       replace b1:Below wr.heap.size wr w1:=(Below.refl _ wr).drew.trans b1
       replace HSW:Hid (QS g5 qX qY zm b (off+k*4) x y w1):=⟨qJ HSW.o.1 (b1.block _ hg5k),HSW.o.2.same (b1.block b hbl)⟩
       refine hK _ _ HSW.o ?_;clear hK K;refine bB [12] ?_;refine bS (v:=?_) rfl ?_ HSW.o ?_;rotate_left
       ·rintro w ⟨⟨e1,e2,e3⟩,e4,e5⟩;go_simp;try with_reducible rfl
       conv in(Act.put _ _ _)=>simp only[bH,bI,bJ,Act.put,bK,bL,bM]
       refine bA ?_;refine wpAnyH_done uk ?_ _
       have HO1:Hid (w1.ownsRow W6.heap.size 79 4 (.slice po pn pc) (pk m l (k+1) j).length ((pk m l (k+1) j).flatMap rc)):=by
        refine(?_:w1.ownsRow W6.heap.size 79 4 (.slice po pn pc) (pk m l (k+1) j).length ((pk m l (k+1) j).flatMap rc));rw[HNX.o,HPN.o];exact kI HO.o fun b _ hb'=>b1.block b hb'
       have HB1:Hid (Below W6.heap.size W6 w1):=HBk.o.trans (b1.mono HBk.o.size);clear b1 HSW HC hb ho sp;go_wp2_with fail
       go_roundw
       case rel=>exact⟨k+1,by omega,by go_num,HO1.o,HB1.o⟩
       case measure=>simp[bu];omega
     ·obtain rfl:k=l.length:=uo
      have q5:¬(l.length:Int)<(l.length:Int):=uo
      have epk:pk m l l.length j=part l j:=by unfold pk part;rw[List.take_length,HM.o];rfl
      rw[epk] at HO HPN sp;have HJr:Hid (KE d l w W2.heap.size j ks (.slice ko ks.length kc) wr):=(HJ.o.next HB5.o).next HBk.o;obtain⟨kn,hkn⟩:∃ kn,ks.length=kn:=⟨_,rfl⟩;have HKN:Hid (ks.length=kn):=hkn;have hB6:Below W4.heap.size W4 wr:=HB5.o.trans (HBk.o.mono HB5.o.size)
      have HG3r:Hid (wr.heap[g3]? =some (.cells #[.int .u32 (X:Int),.int .u32 (Y:Int),.int .i64 L,.slice none 0 0,.slice ko kn kc] 73 (0,0))):=by
       have:=(hB6.block _ hgs).trans HG3'.o;rw[hkn] at this;exact this
      have HG2r:Hid (wr.heap[w.heap.size]? =some (.cells #[.int .u32 0,.int .u32 0,.int .i64 0,.slice none 0 0,.slice none 0 0] 73 (0,0))):=(hB6.block _ (zi HG2'.o).1).trans HG2'.o;rw[hkn] at HJr;clear hB6 hb ho hkn;by_cases hp0:pn=0
      ·have q6:decide (0<pn)=false:=decide_eq_false uo
       have HSk:Hid (KE d l w W2.heap.size (j+1) ks (.slice ko kn kc) wr):=HJr.o.skip (List.eq_nil_of_length_eq_zero (by rw[HPN.o];exact hp0));clear hp0 sp;go_wp2_with fail
       go_roundw
       case rel=>exact⟨j+1,by omega,by go_num,ks,_,HSk.o,HG3r.o,HG2r.o⟩
       case measure=>simp[bu];omega
      ·have q6:decide (0<pn)=true:=decide_eq_true uo
       have HNP:Hid (part l j≠[]):=fun e=>by have:=HPN.o;rw[e] at this;exact hp0 this.symm
       have hra:cH wr.drew po pc (part l j):=by
        have e:Sl 4 wr po pn pc ((part l j).flatMap rc):=sp;rw[←HPN.o] at e;exact e
       have hcall:=IH.o (part l j) po pc wr.drew hra (fs.o.part j) (Nat.le_trans (oP l j) hmax) (by have:=rW fs.o HM.o j;have:=HM.o;have:=HD.o;omega);rw[HPN.o] at hcall
       replace hcall:Hid _:=hcall
       have hgr:g3<wr.heap.size:=(zi HG3r.o).1;have HSW:Hid (K4 g3 (.slice ko kn kc) wr.drew):=⟨(et HG3r.o).2.2.2.2.2.2.2.2.2,trivial⟩;have k2:=HKN.o;have hkl:=zpx l j;clear hp0 sp hra;go_wp2_with fail;refine zfO (z:=7) (S:=K4 g3 (.slice ko kn kc)) uk ?_;change jm _ _ _ _ _ _ 8 _ _ _;refine lD (i:=0) (v:=?_) uk rfl uk uk uk (fun _ _ _ h=>h) (Or.inl ⟨by kernel_rfl,?_⟩) HSW.o ?_;rotate_left
       ·intro w hS
        obtain⟨e1,e2⟩:=hS;go_simp
        try with_reducible rfl
       conv in(Act.put _ _ _)=>simp only[bH,bI,bJ,Act.put,bK,bL,bM]
       refine lD (i:=1) (v:=?_) uk rfl uk uk uk (fun _ _ _ h=>h) (Or.inl ⟨by kernel_rfl,?_⟩) HSW.o ?_;rotate_left
       ·intro w hS
        obtain⟨e1,e2⟩:=hS;go_simp
        try with_reducible rfl
       conv in(Act.put _ _ _)=>simp only[bH,bI,bJ,Act.put,bK,bL,bM]
       refine lD (i:=2) (v:=?_) uk rfl uk uk uk (fun _ _ _ h=>h) (Or.inl ⟨by kernel_rfl,?_⟩) HSW.o ?_;rotate_left
       ·intro w hS
        obtain⟨e1,e2⟩:=hS;go_simp
        try with_reducible rfl
       conv in(Act.put _ _ _)=>simp only[bH,bI,bJ,Act.put,bK,bL,bM]
       refine oc 3 _ uk rfl uk (fun K hK=>?_);go_simp;refine Calls.mono hcall.o ?_;rintro e W7 ⟨nn,rfl,n7,b7⟩
       replace b7:Below wr.heap.size wr W7:=(Below.refl _ wr).drew.trans b7
       have n7':ci (fun b=>wr.heap.size≤b) d W7 nn (part l j):=n7;obtain⟨nX,nY,nL,nro,nrn,nrc,nko,nkn,nkc⟩:=nn
       replace HSW:Hid (K4 g3 (.slice ko kn kc) W7):=⟨(World.cell?_of_block (a:=⟨g3,4,none⟩) (b7.block g3 hgr)).trans HSW.o.1,trivial⟩
       refine hK _ _ HSW.o ?_;clear hK K hcall n7;have hb8:=bF W7 (.cells #[.int .u32 (nX:Int),.int .u32 (nY:Int),.int .i64 (nL:Int),.slice nro nrn nrc,.slice nko nkn nkc] 73);have hs7:=b7.size
       obtain⟨v',W',hrun,a1,a2,a3⟩:=iu 71 73 Tryz.underlying71 zmh rfl ud ud (W7.alloc (.cells #[.int .u32 (nX:Int),.int .u32 (nY:Int),.int .i64 (nL:Int),.slice nro nrn nrc,.slice nko nkn nkc] 73)) W2.heap.size kn 1 (.slice ko kn kc) (some ⟨W7.heap.size,0,none⟩) 1
        (ks.flatMap nc) (nc ⟨nX,nY,nL,nro,nrn,nrc,nko,nkn,nkc⟩) (by have:=HJr.o.own;rw[HKN.o] at this;exact kI this fun b _ hb=>(hb8.block b uo).trans (b7.block b hb)) (by have:=HJr.o.base.2;simp;omega) (zml (zq W7 _)) (zoe _) (by have:=HJr.o.len;omega)
       have hstep:=HJr.o.step HNP.o b7 n7' hb8 (by rw[HKN.o];exact a1) a2 a3;have hob:∀ b,(Value.slice ko kn kc).ownBlock=some b→W2.heap.size≤b:=fun b hb=>(fu HJr.o.own hb).1
       have hg3W:g3<W2.heap.size:=by have:=HG3s.o;omega
       have keepg:W'.heap[g3]? =some (.cells #[.int .u32 (X:Int),.int .u32 (Y:Int),.int .i64 L,.slice none 0 0,.slice ko kn kc] 73 (0,0)):=(a2.block g3 (by simp;omega) (by intro e;have:=hob g3 e.symm;omega)).trans ((hb8.block g3 uo).trans ((b7.block g3 hgr).trans HG3r.o));have hgw:w.heap.size<g3:=HG32.o;have keepw:W'.heap[w.heap.size]? =some (.cells #[.int .u32 0,.int .u32 0,.int .i64 0,.slice none 0 0,.slice none 0 0] 73 (0,0)):=(a2.block _ (by simp;omega) (by intro e;have:=hob _ e.symm;omega)).trans ((hb8.block _ uo).trans ((b7.block _ uo).trans HG2r.o));obtain⟨g',cap',rfl⟩:=ownsRow_succ a1;have HFIN:Hid _:=hstep.set g3 4 (.slice (some ⟨g',0,none⟩) (kn+1) cap') hg3W uo;have HFG:Hid _:=zx W' g3 4 _ _ (.slice (some ⟨g',0,none⟩) (kn+1) cap') keepg;have HFW:Hid _:=(dp W' g3 4 (.slice (some ⟨g',0,none⟩) (kn+1) cap') (by omega:w.heap.size≠g3)).trans keepw
       have z4:=(et keepg).2.2.2.2.1;have z5:=(et keepg).2.2.2.2.2.2.2.2.2;refine oc 4 _ uk rfl uk (fun K hK=>?_);go_simp;refine hK _ _ (⟨(World.cell?_of_block (a:=⟨g3,4,none⟩) (hb8.block g3 uo)).trans HSW.o.1,trivial⟩:K4 g3 (.slice ko kn kc) (W7.alloc (.cells #[.int .u32 (nX:Int),.int .u32 (nY:Int),.int .i64 (nL:Int),.slice nro nrn nrc,.slice nko nkn nkc] 73))) ?_;clear hK K;refine oc 5 _ uk rfl uk (fun K hK=>?_);refine zj8 71 71 (.tmp 74) (.tmp 77) rfl rfl rfl hrun ?_
       replace HSW:Hid (K4 g3 (.slice ko kn kc) W'):=⟨z5,trivial⟩
       refine hK _ _ HSW.o ?_;clear hK K hstep keepg keepw hob a1 a2 a3 b7 hb8 n7'
       conv in(Act.put _ _ _)=>simp only[bH,bI,bJ,Act.put,bK,bL,bM]
       refine lD (i:=6) (v:=?_) uk rfl uk uk uk (fun _ _ _ h=>h) (Or.inl ⟨by kernel_rfl,?_⟩) HSW.o ?_;rotate_left
       ·intro w hS
        obtain⟨e1,e2⟩:=hS;go_simp
        try with_reducible rfl
       conv in(Act.put _ _ _)=>simp only[bH,bI,bJ,Act.put,bK,bL,bM]
       refine ziP rfl uk uk uk ?_;go_simp;clear z4 z5;go_wp2_with fail
       go_roundw
       case rel=>exact⟨j+1,by omega,by go_num,_,_,HFIN.o,HFG.o,HFW.o⟩
       case measure=>simp[bu];omega
   ·obtain rfl:j=4:=uo
    have q3:¬((4:Nat):Int)<4:=uo
    obtain⟨kn,hkn⟩:∃ kn,ks.length=kn:=⟨_,rfl⟩;rw[hkn] at hg3;obtain⟨z0,z1,z2,z3,z4,f0,f1,f2,f3,f4⟩:=et hg2;obtain⟨y0,y1,y2,y3,y4,t0,t1,t2,t3,t4⟩:=et hg3;obtain⟨p1,p2,p3⟩:=lT hg2 (.int .u32 (X:Int)) (.int .u32 (Y:Int)) (.int .i64 L) (.slice none 0 0) (.slice ko kn kc);have HP1:Hid _:=p1;have HP3:Hid (Below w.heap.size w _):=hJ.bel.trans p3
    have HN:Hid (ci (fun b=>w.heap.size≤b) (d+1) (((((W4.setCell ⟨w.heap.size,0,none⟩ (.int .u32 (X:Int))).setCell ⟨w.heap.size,1,none⟩ (.int .u32 (Y:Int))).setCell ⟨w.heap.size,2,none⟩ (.int .i64 L)).setCell ⟨w.heap.size,3,none⟩ (.slice none 0 0)).setCell ⟨w.heap.size,4,none⟩ (.slice ko kn kc)) ⟨X,Y,cQ l,none,0,0,ko,kn,kc⟩ l):=by
     refine(?_:ci (fun b=>w.heap.size≤b) (d+1) _ _ l);have hlt3:w.heap.size<W2.heap.size:=HG2s.o;have hkl:=zod l;refine⟨HX.o.symm,HY.o.symm,rfl,(fun h=>by rw[HLf.o] at h;cases h),fun _=>⟨rfl,Sl.nil 4 _,ks,hkn.symm,?_,?_,fun _ b off e=>?_,fun i h1 h2=>?_⟩⟩
     ·rw[←hkl];exact hJ.len
     ·refine Sl.same sk (by simp[World.setCell]) fun b off e _=>p2 b ?_
      have e':ko=some ⟨b,off,none⟩:=e;have hh:W2.heap.size≤b:=(fu hJ.own (by rw[e'];rfl)).1;omega
     ·have e':ko=some ⟨b,off,none⟩:=e
      have hh:W2.heap.size≤b:=(fu hJ.own (by rw[e'];rfl)).1;show w.heap.size≤b;omega
     ·have a:=hJ.nodes i h1 h2
      exact(a.same (by simp[World.setCell]) fun b hG _=>p2 b (by have:=hG.1;omega)).mono fun b _ hG=>by have:=hG.1;show w.heap.size≤b;omega
    clear p1 p2 p3 hg2 hg3 sk hkn hJ y0 y1 y2 y3 y4;go_wp2_with fail;refine bodyPost_ret (mG rfl _ _ _ _ _ _ _ _ rfl HP1.o) rfl ⟨⟨X,Y,cQ l,none,0,0,ko,kn,kc⟩,?_,HN.o,HP3.o⟩;rw[←HL.o]
theorem gg:∀ (d:Nat) (l:List Rw) (o:Option Addr) (cap:Nat) (w:World),cH w o cap l→On l→l.length≤1000→cQ l<d→
  Calls Tryz.prog 72 #[.slice o l.length cap] w fun e w'=>∃ n:Nv,e=.returned (nv n)∧ci (fun b=>w.heap.size≤b) d w' n l∧Below w.heap.size w w'
 |0,_,_,_,_,_,_,_,h=>absurd h uo
 |d+1,l,o,cap,w,hr,hon,hmax,hd=>by
  by_cases hne:l.length=0
  ·have:l=[]:=List.eq_nil_of_length_eq_zero hne
   subst this;exact jW d o cap w
  ·cases hlf:leaf l
   ·exact iO d (gg d) l o cap w hr hon hmax hlf hd
   ·exact ix d l o cap w hr hon hmax uo hlf
end Rq
end Go.Proofs.YtokfnghckpgjmaaGreatDoor
