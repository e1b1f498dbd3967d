/- The document's own device: New. -/
import Derived.Test.YtokfnghckpgjmaaGreatDoorPPo
import Derived.Test.YtokfnghckpgjmaaGreatDoorPPk
import Derived.Test.YtokfnghckpgjmaaGreatDoorPRE
import Derived.Deep.RegionHeld3
set_option maxRecDepth 100000
set_option maxHeartbeats 1000000
namespace Go.Proofs.YtokfnghckpgjmaaGreatDoor
namespace Rd
open Go.RowKit
structure NJ (W:World) (r k1 k2 k3:Nat) (v1 v2 v3:Value):Prop where
 self:W.heap[r]? =some (.cells #[v1,v2,v3,.int .u64 0,.string (zs 32),.int .u32 0,.int .i64 (-1),.bool false] 110 (0,0))
 o1:W.ownsRow (r+1) 9 1 v1 k1 (List.replicate k1 (.string (zs 256)))
 o2:W.ownsRow (r+1) 9 1 v2 k2 (List.replicate k2 (.string ⟨#[]⟩))
 o3:W.ownsRow (r+1) 4 1 v3 k3 (List.replicate k3 (.bool false))
 d1:∀ g,v1.ownBlock=some g→v2.ownBlock≠some g∧v3.ownBlock≠some g
 d2:∀ g,v2.ownBlock=some g→v3.ownBlock≠some g
theorem lp {w w':World} {base:Nat} {e:TypeId} {v:Value} {k:Nat} {xs:List Value} (h:w.ownsRow base e 1 v k xs) (hs:∀ g,v.ownBlock=some g→w'.heap[g]? =w.heap[g]?):w'.ownsRow base e 1 v k xs:=by
 refine⟨h.1,?_⟩;rcases h.2 with h|⟨g,cap,cur,e1,e2,e3,e4⟩
 ·exact .inl h
 ·exact .inr ⟨g,cap,cur,e1,e2,(hs g (by rw[e1];rfl)).trans e3,e4⟩
theorem NJ.put1 {W W8:World} {r k1 k2 k3:Nat} {v1 v2 v3:Value} (h:NJ W r k1 k2 k3 v1 v2 v3) (u:Value) (hs:∀ j,j<W.heap.size→some j≠v1.ownBlock→W8.heap[j]? =W.heap[j]?)
  (hown:W8.ownsRow (r+1) 9 1 u (k1+1) (List.replicate k1 (.string (zs 256))++[(.string (zs 256))])) (hat:v1.ownBlock=u.ownBlock∨∃ g,u.ownBlock=some g∧W.heap.size≤g):NJ (W8.setCell ⟨r,0,none⟩ u) r (k1+1) k2 k3 u v2 v3:=by
 have hr:r<W.heap.size:=(zi h.self).1;have hs8:W8.heap[r]? =W.heap[r]? :=hs r hr (fun e=>by have:=(fM h.o1 e.symm).1;omega)
 have p2:(W8.setCell ⟨r,0,none⟩ u).ownsRow (r+1) 9 1 v2 k2 (List.replicate k2 (.string ⟨#[]⟩)):=lp h.o2 fun g hg=>by
  have hl:=fM h.o2 hg;have hn:v1.ownBlock≠some g:=fun e=>(h.d1 g e).1 hg
  exact(Below.heap_setCell _ _ _ _ (by show g≠r;omega)).trans (hs g hl.2 (Ne.symm hn))
 have p3:(W8.setCell ⟨r,0,none⟩ u).ownsRow (r+1) 4 1 v3 k3 (List.replicate k3 (.bool false)):=lp h.o3 fun g hg=>by
  have hl:=fM h.o3 hg;have hn:v1.ownBlock≠some g:=fun e=>(h.d1 g e).2 hg
  exact(Below.heap_setCell _ _ _ _ (by show g≠r;omega)).trans (hs g hl.2 (Ne.symm hn))
 have p1:(W8.setCell ⟨r,0,none⟩ u).ownsRow (r+1) 9 1 u (k1+1) (List.replicate (k1+1) (.string (zs 256))):=by
  rw[List.replicate_succ'];exact lp hown fun g hg=>Below.heap_setCell _ _ _ _ (by have:=(fM hown hg).1;show g≠r;omega)
 have n2:∀ g,u.ownBlock=some g→v2.ownBlock≠some g:=fun g hu hg=>by
  have hl:=fM h.o2 hg;rcases hat with e|⟨g',e,hge⟩
  ·rw[←e] at hu
   exact(fun e=>(h.d1 g e).1 hg:v1.ownBlock≠some g) hu
  ·rw[hu] at e;cases e;omega
 have n3:∀ g,u.ownBlock=some g→v3.ownBlock≠some g:=fun g hu hg=>by
  have hl:=fM h.o3 hg;rcases hat with e|⟨g',e,hge⟩
  ·rw[←e] at hu
   exact(fun e=>(h.d1 g e).2 hg:v1.ownBlock≠some g) hu
  ·rw[hu] at e;cases e;omega
 exact⟨gu _ _ _ _ _ _ _ (hs8.trans h.self),p1,p2,p3,fun g hg=>⟨n2 g hg,n3 g hg⟩,h.d2⟩
theorem NJ.put2 {W W8:World} {r k1 k2 k3:Nat} {v1 v2 v3:Value} (h:NJ W r k1 k2 k3 v1 v2 v3) (u:Value) (hs:∀ j,j<W.heap.size→some j≠v2.ownBlock→W8.heap[j]? =W.heap[j]?)
  (hown:W8.ownsRow (r+1) 9 1 u (k2+1) (List.replicate k2 (.string ⟨#[]⟩)++[(.string ⟨#[]⟩)])) (hat:v2.ownBlock=u.ownBlock∨∃ g,u.ownBlock=some g∧W.heap.size≤g):NJ (W8.setCell ⟨r,1,none⟩ u) r k1 (k2+1) k3 v1 u v3:=by
 have hr:r<W.heap.size:=(zi h.self).1;have hs8:W8.heap[r]? =W.heap[r]? :=hs r hr (fun e=>by have:=(fM h.o2 e.symm).1;omega)
 have p1:(W8.setCell ⟨r,1,none⟩ u).ownsRow (r+1) 9 1 v1 k1 (List.replicate k1 (.string (zs 256))):=lp h.o1 fun g hg=>by
  have hl:=fM h.o1 hg;have hn:v2.ownBlock≠some g:=(h.d1 g hg).1;exact(Below.heap_setCell _ _ _ _ (by show g≠r;omega)).trans (hs g hl.2 (Ne.symm hn))
 have p3:(W8.setCell ⟨r,1,none⟩ u).ownsRow (r+1) 4 1 v3 k3 (List.replicate k3 (.bool false)):=lp h.o3 fun g hg=>by
  have hl:=fM h.o3 hg;have hn:v2.ownBlock≠some g:=fun e=>h.d2 g e hg
  exact(Below.heap_setCell _ _ _ _ (by show g≠r;omega)).trans (hs g hl.2 (Ne.symm hn))
 have p2:(W8.setCell ⟨r,1,none⟩ u).ownsRow (r+1) 9 1 u (k2+1) (List.replicate (k2+1) (.string ⟨#[]⟩)):=by
  rw[List.replicate_succ'];exact lp hown fun g hg=>Below.heap_setCell _ _ _ _ (by have:=(fM hown hg).1;show g≠r;omega)
 have n1:∀ g,u.ownBlock=some g→v1.ownBlock≠some g:=fun g hu hg=>by
  have hl:=fM h.o1 hg;rcases hat with e|⟨g',e,hge⟩
  ·rw[←e] at hu
   exact((h.d1 g hg).1:v2.ownBlock≠some g) hu
  ·rw[hu] at e;cases e;omega
 have n3:∀ g,u.ownBlock=some g→v3.ownBlock≠some g:=fun g hu hg=>by
  have hl:=fM h.o3 hg;rcases hat with e|⟨g',e,hge⟩
  ·rw[←e] at hu
   exact(fun e=>h.d2 g e hg:v2.ownBlock≠some g) hu
  ·rw[hu] at e;cases e;omega
 exact⟨gu _ _ _ _ _ _ _ (hs8.trans h.self),p1,p2,p3,fun g hg=>⟨fun e=>n1 g e hg,(h.d1 g hg).2⟩,fun g hg=>n3 g hg⟩
theorem NJ.put3 {W W8:World} {r k1 k2 k3:Nat} {v1 v2 v3:Value} (h:NJ W r k1 k2 k3 v1 v2 v3) (u:Value) (hs:∀ j,j<W.heap.size→some j≠v3.ownBlock→W8.heap[j]? =W.heap[j]?)
  (hown:W8.ownsRow (r+1) 4 1 u (k3+1) (List.replicate k3 (.bool false)++[(.bool false)])) (hat:v3.ownBlock=u.ownBlock∨∃ g,u.ownBlock=some g∧W.heap.size≤g):NJ (W8.setCell ⟨r,2,none⟩ u) r k1 k2 (k3+1) v1 v2 u:=by
 have hr:r<W.heap.size:=(zi h.self).1;have hs8:W8.heap[r]? =W.heap[r]? :=hs r hr (fun e=>by have:=(fM h.o3 e.symm).1;omega)
 have p1:(W8.setCell ⟨r,2,none⟩ u).ownsRow (r+1) 9 1 v1 k1 (List.replicate k1 (.string (zs 256))):=lp h.o1 fun g hg=>by
  have hl:=fM h.o1 hg;have hn:v3.ownBlock≠some g:=(h.d1 g hg).2;exact(Below.heap_setCell _ _ _ _ (by show g≠r;omega)).trans (hs g hl.2 (Ne.symm hn))
 have p2:(W8.setCell ⟨r,2,none⟩ u).ownsRow (r+1) 9 1 v2 k2 (List.replicate k2 (.string ⟨#[]⟩)):=lp h.o2 fun g hg=>by
  have hl:=fM h.o2 hg;have hn:v3.ownBlock≠some g:=h.d2 g hg;exact(Below.heap_setCell _ _ _ _ (by show g≠r;omega)).trans (hs g hl.2 (Ne.symm hn))
 have p3:(W8.setCell ⟨r,2,none⟩ u).ownsRow (r+1) 4 1 u (k3+1) (List.replicate (k3+1) (.bool false)):=by
  rw[List.replicate_succ'];exact lp hown fun g hg=>Below.heap_setCell _ _ _ _ (by have:=(fM hown hg).1;show g≠r;omega)
 have n1:∀ g,u.ownBlock=some g→v1.ownBlock≠some g:=fun g hu hg=>by
  have hl:=fM h.o1 hg;rcases hat with e|⟨g',e,hge⟩
  ·rw[←e] at hu
   exact((h.d1 g hg).2:v3.ownBlock≠some g) hu
  ·rw[hu] at e;cases e;omega
 have n2:∀ g,u.ownBlock=some g→v2.ownBlock≠some g:=fun g hu hg=>by
  have hl:=fM h.o2 hg;rcases hat with e|⟨g',e,hge⟩
  ·rw[←e] at hu
   exact(h.d2 g hg:v3.ownBlock≠some g) hu
  ·rw[hu] at e;cases e;omega
 exact⟨gu _ _ _ _ _ _ _ (hs8.trans h.self),p1,p2,p3,fun g hg=>⟨(h.d1 g hg).1,fun e=>n1 g e hg⟩,fun g hg e=>n2 g e hg⟩
theorem qw {W w6 w8:World} {o:Obj} {row:Option Nat} (b6:Below W.heap.size W w6) (hg:(w6.alloc o).grownBy w8 row) (j:Nat) (hj:j<W.heap.size) (hne:some j≠row):w8.heap[j]? =W.heap[j]? :=
 (hg.block j (by simp;have:=b6.size;omega) hne).trans (((bF w6 o).block j (by have:=b6.size;omega)).trans (b6.block j hj))
theorem tq {w:World} {base k:Nat} {e:TypeId} {v val:Value} (h:w.ownsRow base e 1 v k (List.replicate k val)) (hk:0<k):∃ g cap cs,v=.slice (some ⟨g,0,none⟩) k cap∧base≤g∧v.ownBlock=some g∧w.heap[g]? =some (.cells cs e (0,0))∧k≤cs.size∧∀ i,i<k→cs[i]? =some val:=by
 obtain⟨h0,h1⟩:=h;rcases h1 with⟨_,h1⟩|⟨g,cap,cur,e1,e2,e3,e4,e5,e6,e7⟩
 ·omega
 ·refine⟨g,cap,cur,e1,e2,by rw[e1];rfl,e3,by omega,fun i hi=>?_⟩
  have h2:(cur.toList.take (k*1))[i]? =cur[i]? :=by rw[List.getElem?_take_of_lt uo,Array.getElem?_toList]
  rw[←h2,e7];simp[hi]
theorem ff {W w6 w8:World} {o:Obj} {row:Option Nat} {B:Nat} (b6:Below W.heap.size W w6) (hg:(w6.alloc o).grownBy w8 row) (hrow:∀ g,row=some g→B≤g) (hB:B≤W.heap.size):Below B W w8:=
 ⟨hg.os.trans b6.os,hg.tape.trans b6.tape,hg.output.trans b6.output,Nat.le_trans b6.size (Nat.le_trans us hg.size),fun j hj=>qw b6 hg j uo (fun e=>by have:=hrow j e.symm;omega)⟩
theorem jC {w:World} {r k:Nat} {e:TypeId} {v:Value} {xs:List Value} (h:w.ownsRow (r+1) e 1 v k xs):some r≠v.ownBlock:=fun e=>by have:=(fM h e.symm).1;omega
theorem zp1:(Tryz.prog.info? 4).map (fun i=>(i.zero,i.size,i.bytes))=some (some (.bool false),1,1):=uk
theorem zlu {t:TypeId} {z:Value} {s b:Nat} (h:(Tryz.prog.info? t).map (fun i=>(i.zero,i.size,i.bytes))=some (some z,s,b)):∃ i,Tryz.prog.info? t=some i∧i.zero=some z∧i.size=s∧i.bytes=b:=by
 cases e:Tryz.prog.info? t with
 |none=>rw[e] at h;cases h
 |some i=>rw[e] at h;simp only[Option.map_some,Option.some.injEq,Prod.mk.injEq] at h;exact⟨i,rfl,h.1,h.2.1,h.2.2⟩
theorem znb (n:Nat) (h0:4≤n) (h1:n≤4096) (w:World):
  Calls Tryz.prog 41 #[.int .i64 (n:Int)] w fun e w'=>∃ r x,e=.returned (.tuple #[pt r,.int .i64 0])∧Rf w' r x (ce n)∧(∀ k,Rv r x k→w.heap.size≤k)∧Below w.heap.size w w':=by
 obtain⟨i9,hi9,a0,a1,a2⟩:=zlu ry;obtain⟨i4,hi4,b0,b1,b2⟩:=zlu zp1;go_enter Tryz.func41,Tryz.ntmps41;have q1:¬(n:Int)<4:=uo
 have q2:¬(4096:Int)<(n:Int):=uo
 go_wp2_with fail;refine um (zeC 32 uo w) fun w1 bz=>?_;have BZ:Hid (Below w.heap.size w w1):=bz;clear bz;obtain⟨z,hz⟩:∃ z,zs 32=z:=⟨_,rfl⟩;rw[hz];go_wp2_with fail;have bz:=BZ.o.size
 go_loopw [5] (fun iv wr=>∃ (k:Nat) (v1 v2 v3:Value),iv=.int .i64 (k:Int)∧k≤n∧NJ wr w1.heap.size k k k v1 v2 v3∧Below w.heap.size w wr) (fun iv _=>n - bu iv)
 case atStart=>
  refine⟨0,.slice none 0 0,.slice none 0 0,.slice none 0 0,rfl,by omega,⟨?_,⟨rfl,.inl ⟨rfl,rfl⟩⟩,⟨rfl,.inl ⟨rfl,rfl⟩⟩,⟨rfl,.inl ⟨rfl,rfl⟩⟩,fun g hg=>(by cases hg),fun g hg=>(by cases hg)⟩,BZ.o.alloc bz _⟩;rw[hz];exact zq w1 _
 case round=>
  obtain⟨k,v1,v2,v3,rfl,hkn,hj,hb⟩:=hrel;generalize w1.heap.size=r at*
  have HJ:Hid (NJ wr r k k k v1 v2 v3):=hj;have HB:Hid (Below w.heap.size w wr):=hb;have hrl:r<wr.heap.size:=(zi hj.self).1;clear hj hb;by_cases hlt:k<n
  ·have p1:(k:Int)<(n:Int):=uo
   have HS:Hid (wr.drew.heap[r]? =some (.cells #[v1,v2,v3,.int .u64 0,.string (zs 32),.int .u32 0,.int .i64 (-1),.bool false] 110 (0,0))):=HJ.o.self;have c0:wr.drew.cell? ⟨r,0,none⟩=some v1:=by rw[zr HS.o];rfl
   have hz2:=zkt 256;go_wp2_with fail
   go_region_law (first
    |(rw[if_pos (by rfl)];unfold Oper.wp;go_simp;refine um (zeC 256 uo _) fun w6 b6=>?_;have c6:w6.cell? ⟨r,0,none⟩=some v1:=(World.cell?_of_block (a:=⟨r,0,none⟩) (b6.block r hrl)).trans c0;have c6a:(w6.alloc (.cells #[.string (zs 256)] 9)).cell? ⟨r,0,none⟩=some v1:=(World.cell?_of_block (a:=⟨r,0,none⟩) ((bF w6 _).block r (Nat.lt_of_lt_of_le hrl b6.size))).trans c6;have hr6:r≠w6.heap.size:=Nat.ne_of_lt (Nat.lt_of_lt_of_le hrl b6.size))
    |(refine step_append_lies _ (by rfl) _ _ 37 (by rfl) (r+1) 9 i9 (.string ⟨#[]⟩) 1 16 Tryz.underlying37 hi9 a0 a1 a2 rfl ud v1 k _ (by rfl) ((zjk (w:=wr.drew) HJ.o.o1 b6 zn).alloc _) ⟨w6.heap.size,0,none⟩ 1 1 [.string (zs 256)] (by rfl) rfl (kE _ _ _) (by intro u hu;simp at hu;subst hu;rfl) ud (by unfold maxLen;omega) uo (by simp;have:wr.heap.size≤w6.heap.size:=b6.size;omega) (w6.heap.size+1) us ?_;intro g cap w8 hown8 hgrow8 hat8 hlt8;have gr8:=qw b6 hgrow8;have hs8:=(gr8 r hrl (jC HJ.o.o1)).trans HS.o;have c8:w8.cell? ⟨r,0,none⟩=some v1:=(zr hs8).trans rfl;have f8:w8.frozen? ⟨r,0,none⟩=false:=frozen_of_row w8 _ _ _ _ hs8))
   all_goals (
    have J0:Hid (NJ (w8.setCell ⟨r,0,none⟩ (.slice (some ⟨g,0,none⟩) (k+1) cap)) r (k+1) k k (.slice (some ⟨g,0,none⟩) (k+1) cap) v2 v3):=HJ.o.put1 _ gr8 hown8 (hat8.imp id fun e=>⟨g,rfl,by have:wr.heap.size≤w6.heap.size:=b6.size;omega⟩);have B0:Hid (Below w.heap.size w (w8.setCell ⟨r,0,none⟩ (.slice (some ⟨g,0,none⟩) (k+1) cap))):=(HB.o.drew.trans (ff b6 hgrow8 (fun q hq=>by have:=(fM HJ.o.o1 hq).1;omega) HB.o.size)).setCell (p:=⟨r,0,none⟩) bz _;clear hown8 hgrow8 hat8 hlt8 gr8 hs8 c8 f8 c6 c6a hr6 c0 b6 HS;obtain⟨u0,hu0⟩:∃ u0,Value.slice (some ⟨g,0,none⟩) (k+1) cap=u0:=⟨_,rfl⟩;rw[hu0] at J0 B0 ⊢;obtain⟨W1,hW1⟩:∃ W1,w8.setCell ⟨r,0,none⟩ u0=W1:=⟨_,rfl⟩;rw[hW1] at J0 B0 ⊢;clear hW1 hu0;have HS1:Hid (W1.heap[r]? =_):=J0.o.self;have c10:W1.cell? ⟨r,1,none⟩=some v2:=(zr HS1.o).trans rfl;have hr1:r<W1.heap.size:=(zi HS1.o).1;have hne1:r≠W1.heap.size:=Nat.ne_of_lt hr1
    go_wp2_with (at_builtin;refine wpList_append_lies _ rfl _ _ 37 rfl (r+1) 9 i9 (.string ⟨#[]⟩) 1 16 Tryz.underlying37 hi9 a0 a1 a2 rfl ud v2 k _ (by rfl) (J0.o.o2.alloc _) ⟨W1.heap.size,0,none⟩ 1 1 [(.string ⟨#[]⟩)] (by rfl) rfl ?c1 ?c2 ud ?c3 ?c4 ?c5 (W1.heap.size+1) ?c6 ?_)
    case c1=>first|exact kE _ _ _|(intro j u hu;rw[←hsz1];exact kE _ _ _ j u hu)
    case c2=>intro u hu;simp at hu;subst hu;rfl
    case c3=>unfold maxLen;omega
    case c4=>omega
    case c5=>exact Nat.le_trans hr1 (bF _ _).size
    case c6=>first|(simp;done)|simp[World.setCell]
    intro g1 cap1 y1 hown1 hgrow1 hat1 hlt1;have gr1:=qw (Below.refl _ W1) hgrow1;have hs1:=(gr1 r hr1 (jC J0.o.o2)).trans HS1.o;have c18:y1.cell? ⟨r,1,none⟩=some v2:=(zr hs1).trans rfl;have f18:y1.frozen? ⟨r,1,none⟩=false:=frozen_of_row y1 _ _ _ _ hs1;have J1:Hid (NJ (y1.setCell ⟨r,1,none⟩ (.slice (some ⟨g1,0,none⟩) (k+1) cap1)) r (k+1) (k+1) k u0 (.slice (some ⟨g1,0,none⟩) (k+1) cap1) v3):=J0.o.put2 _ gr1 hown1 (hat1.imp id fun e=>⟨g1,rfl,by omega⟩);have B1:Hid (Below w.heap.size w (y1.setCell ⟨r,1,none⟩ (.slice (some ⟨g1,0,none⟩) (k+1) cap1))):=(B0.o.trans (ff (Below.refl _ W1) hgrow1 (fun q hq=>by have:=(fM J0.o.o2 hq).1;omega) uo)).setCell (p:=⟨r,1,none⟩) bz _;have hsz1:(y1.setCell ⟨r,1,none⟩ (.slice (some ⟨g1,0,none⟩) (k+1) cap1)).heap.size=y1.heap.size:=by simp[World.setCell]
    have d18:y1.cell? ⟨r,2,none⟩=some v3:=(zr hs1).trans rfl;clear hown1 hgrow1 hat1 hlt1 gr1 hs1;have HS2:Hid ((y1.setCell ⟨r,1,none⟩ (.slice (some ⟨g1,0,none⟩) (k+1) cap1)).heap[r]? =_):=J1.o.self;have c20:(y1.setCell ⟨r,1,none⟩ (.slice (some ⟨g1,0,none⟩) (k+1) cap1)).cell? ⟨r,2,none⟩=some v3:=(zr HS2.o).trans rfl;have hr2:r<(y1.setCell ⟨r,1,none⟩ (.slice (some ⟨g1,0,none⟩) (k+1) cap1)).heap.size:=(zi HS2.o).1;have hne2:r≠(y1.setCell ⟨r,1,none⟩ (.slice (some ⟨g1,0,none⟩) (k+1) cap1)).heap.size:=Nat.ne_of_lt hr2
    go_wp2_with (at_builtin;refine wpList_append_lies _ rfl _ _ 43 rfl (r+1) 4 i4 (.bool false) 1 1 Tryz.underlying43 hi4 b0 b1 b2 rfl ud v3 k _ (by rfl) (J1.o.o3.alloc _) ⟨y1.heap.size,0,none⟩ 1 1 [(.bool false)] (by rfl) rfl ?c1 ?c2 ud ?c3 ?c4 ?c5 (y1.heap.size+1) ?c6 ?_)
    case c1=>first|exact kE _ _ _|(intro j u hu;rw[←hsz1];exact kE _ _ _ j u hu)
    case c2=>intro u hu;simp at hu;subst hu;rfl
    case c3=>unfold maxLen;omega
    case c4=>omega
    case c5=>exact Nat.le_trans hr2 (bF _ _).size
    case c6=>first|(simp;done)|simp[World.setCell]
    intro g2 cap2 y2 hown2 hgrow2 hat2 hlt2;have gr2:=qw (Below.refl _ (y1.setCell ⟨r,1,none⟩ (.slice (some ⟨g1,0,none⟩) (k+1) cap1))) hgrow2;have hs2:=(gr2 r hr2 (jC J1.o.o3)).trans HS2.o;have c28:y2.cell? ⟨r,2,none⟩=some v3:=(zr hs2).trans rfl;have f28:y2.frozen? ⟨r,2,none⟩=false:=frozen_of_row y2 _ _ _ _ hs2;have J2:Hid (NJ (y2.setCell ⟨r,2,none⟩ (.slice (some ⟨g2,0,none⟩) (k+1) cap2)) r (k+1) (k+1) (k+1) u0 (.slice (some ⟨g1,0,none⟩) (k+1) cap1) (.slice (some ⟨g2,0,none⟩) (k+1) cap2)):=J1.o.put3 _ gr2 hown2 (hat2.imp id fun e=>⟨g2,rfl,by omega⟩);have B2:Hid (Below w.heap.size w (y2.setCell ⟨r,2,none⟩ (.slice (some ⟨g2,0,none⟩) (k+1) cap2))):=(B1.o.trans (ff (Below.refl _ (y1.setCell ⟨r,1,none⟩ (.slice (some ⟨g1,0,none⟩) (k+1) cap1))) hgrow2 (fun q hq=>by have:=(fM J1.o.o3 hq).1;omega) uo)).setCell (p:=⟨r,2,none⟩) bz _;have hsz2:(y2.setCell ⟨r,2,none⟩ (.slice (some ⟨g2,0,none⟩) (k+1) cap2)).heap.size=y2.heap.size:=by simp[World.setCell]
    have d28:y2.cell? ⟨r,2,none⟩=some v3:=(zr hs2).trans rfl;clear hown2 hgrow2 hat2 hlt2 gr2 hs2;go_wp2_with fail
    go_roundw
    case rel=>exact⟨k+1,u0,_,_,by go_num,by omega,J2.o,B2.o⟩
    case measure=>simp[bu];omega)
  ·have p1:¬(k:Int)<(n:Int):=uo
   have hk:k=n:=uo
   subst hk;go_wp2_with fail;go_ret2;obtain⟨g1,k1,s1,e1,f1,i1,j1,m1,o1⟩:=tq HJ.o.o1 uo;obtain⟨g2,k2,s2,e2,f2,i2,j2,m2,o2⟩:=tq HJ.o.o2 uo;obtain⟨g3,k3,s3,e3,f3,i3,j3,m3,o3⟩:=tq HJ.o.o3 uo;have hd1:=HJ.o.d1 g1 i1;have hd2:=HJ.o.d2 g2 i2;rw[i2,i3] at hd1;rw[i3] at hd2;refine⟨r,rfl,⟨g1,g2,g3,k1,k2,k3⟩,⟨?_,⟨s1,j1,m1,o1⟩,⟨s2,j2,m2,o2⟩,⟨s3,j3,m3,o3⟩,?_,?_,?_,?_,?_,?_⟩,?_,HB.o⟩
   ·have:=HJ.o.self
    rw[e1,e2,e3] at this;exact this
   ·show r≠g1;omega
   ·show r≠g2;omega
   ·show r≠g3;omega
   ·exact fun e=>hd1.1 (by rw[show g1=g2 from e])
   ·exact fun e=>hd1.2 (by rw[show g1=g3 from e])
   ·exact fun e=>hd2 (by rw[show g2=g3 from e])
   ·intro q hq
    rcases hq with e|e|e|e<;>(try simp only at e)<;>omega
end Rd
end Go.Proofs.YtokfnghckpgjmaaGreatDoor
