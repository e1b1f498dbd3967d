/- A row of numbers that is sorted: rows, less, insertion. -/
import Derived.Test.YtfaflomephjkgaaGreatDoorQDI
import Derived.Sort.AssemblyPlain
set_option maxRecDepth 100000
set_option maxHeartbeats 2000000
namespace Go.Proofs.YtfaflomephjkgaaGreatDoor.Rd
open Go.RowKit
def Us (w:World) (g:Nat) (d:Array Nat):Prop:=∃ cs,w.heap[g]? =some (.cells cs 32 (0,0))∧d.size≤cs.size∧∀ i,i<d.size→cs[i]? =some (u32v d[i]!)
theorem Us.lt {w:World} {g:Nat} {d:Array Nat} (h:Us w g d):g<w.heap.size:=by
 obtain⟨cs,h1,h2⟩:=h
 exact(Array.getElem?_eq_some_iff.1 h1).1
theorem Us.same {w w':World} {g:Nat} {d:Array Nat} (h:Us w g d) (e:w'.heap[g]? =w.heap[g]?):Us w' g d:=by
 obtain⟨cs,h1,h2⟩:=h
 exact⟨cs,e.trans h1,h2⟩
theorem Us.cell {w:World} {g:Nat} {d:Array Nat} (h:Us w g d) (i:Nat) (hi:i<d.size):w.cell? ⟨g,i,none⟩=some (.int .u32 ((d[i]! :Nat):Int))∧w.frozen? ⟨g,i,none⟩=false:=by
 obtain⟨cs,h1,h2,h3⟩:=h
 exact⟨by rw[cell_of_row _ _ _ _ _ _ h1,h3 i hi],frozen_of_row w _ _ _ _ h1⟩
theorem Us.set {w:World} {g:Nat} {d:Array Nat} (h:Us w g d) (i:Nat) (x:Nat):Us (w.setCell ⟨g,i,none⟩ (.int .u32 (x:Int))) g (d.setIfInBounds i x):=by
 obtain⟨cs,h1,h2,h3⟩:=h
 refine⟨_,set_at _ _ _ _ _ _ _ h1,by simpa using h2,fun j hj=>?_⟩
 simp only[Array.size_setIfInBounds] at hj
 rw[Array.getElem?_setIfInBounds]
 by_cases hij:i=j
 ·subst hij
  rw[if_pos rfl,if_pos (by omega)]
  simp[getElem!_pos,hj]
 ·rw[if_neg hij,h3 j hj]
  simp[getElem!_pos,hj,hij]
abbrev Bg (g:Nat) (w w':World):Prop:=But (fun k=>k=g) w w'
theorem Bg.drew {g:Nat} (w:World):Bg g w w.drew:=⟨rfl,rfl,rfl,Nat.le_refl _,fun _ _ _=>rfl⟩
theorem Bg.drewN {g:Nat} (w:World) (n:Nat):Bg g w (w.drewN n):=⟨rfl,rfl,rfl,Nat.le_refl _,fun _ _ _=>rfl⟩
theorem Us.swp {w:World} {g:Nat} {d:Array Nat} (h:Us w g d) (i j:Nat):
  Us ((w.setCell ⟨g,i,none⟩ (.int .u32 ((d[j]! :Nat):Int))).setCell ⟨g,j,none⟩ (.int .u32 ((d[i]! :Nat):Int))) g (Sort.swp d i j)∧
  Bg g w ((w.setCell ⟨g,i,none⟩ (.int .u32 ((d[j]! :Nat):Int))).setCell ⟨g,j,none⟩ (.int .u32 ((d[i]! :Nat):Int))):=
 ⟨(h.set i _).set j _,(But.set (S:=fun k=>k=g) _ _ _ _ rfl).trans (But.set _ _ _ _ rfl)⟩
def ltN (x y:Nat):Bool:=decide (x<y)
theorem swoN:Sort.SWO ltN:=⟨fun x=>by simp[ltN],fun x y z h k=>by simp[ltN] at*;omega,fun x y z h k=>by simp[ltN] at*;omega⟩
theorem nan_any (x:Nat) (w:World):Calls Tryz.prog 209 #[.int .u32 (x:Int)] w fun e w'=>e=.returned (.bool false)∧w'=w:=by
 go_enter Tryz.func209,Tryz.ntmps209
 go_wp2_with fail
 go_ret
 exact⟨by simp,rfl⟩
theorem less_any (x y:Nat) (w:World):Calls Tryz.prog 193 #[.int .u32 (x:Int),.int .u32 (y:Int)] w fun e w'=>e=.returned (.bool (ltN x y))∧w'=w:=by
 go_enter Tryz.func193,Tryz.ntmps193
 go_wp2_with (go_at_call 209;refine(nan_any _ _).mono ?_;rintro e w' ⟨rfl,rfl⟩)
 go_ret
 exact⟨rfl,rfl⟩
theorem insOuter_in (a b i:Nat) (d:Array Nat) (h:i<b):Sort.insOuter ltN a b i d=Sort.insOuter ltN a b (i+1) (Sort.insInner ltN a i d):=by
 rw[Sort.insOuter,if_pos h]
theorem insOuter_out (a b i:Nat) (d:Array Nat) (h:¬i<b):Sort.insOuter ltN a b i d=d:=by rw[Sort.insOuter,if_neg h]
theorem insInner_in (a j:Nat) (d:Array Nat) (h:a<j+1) (hl:ltN d[j+1]! d[j]! =true):Sort.insInner ltN a (j+1) d=Sort.insInner ltN a j (Sort.swp d (j+1) j):=by
 rw[Sort.insInner];simp only[hl,Bool.and_true];rw[if_pos (by simpa using h)]
theorem insInner_le (a j:Nat) (d:Array Nat) (h:j≤a):Sort.insInner ltN a j d=d:=by
 cases j with
 |zero=>rfl
 |succ j=>rw[Sort.insInner,if_neg];simp;omega
theorem insInner_no (a j:Nat) (d:Array Nat) (hl:ltN d[j+1]! d[j]! =false):Sort.insInner ltN a (j+1) d=d:=by
 rw[Sort.insInner];simp[hl]
theorem insertion_any (g cap a b:Nat) (d:Array Nat) (ha:a≤b) (hb:b≤d.size) (hd:d.size≤1000000) (w:World) (h:Us w g d):
  Calls Tryz.prog 187 #[.slice (some ⟨g,0,none⟩) d.size cap,.int .i64 (a:Int),.int .i64 (b:Int)] w fun e w'=>e=.returned (.tuple #[])∧Us w' g (Sort.insertionSort ltN d a b)∧Bg g w w':=by
 have HU:Hid _:=h
 clear h
 obtain⟨n,hn⟩:∃ n,d.size=n:=⟨_,rfl⟩
 rw[hn] at hb hd ⊢
 go_enter Tryz.func187,Tryz.ntmps187
 go_wp2_with fail
 go_loopw [6] (fun iv wr=>∃ (i:Nat) (d1:Array Nat),iv=.int .i64 (i:Int)∧i≤max (a+1) b∧a<i∧Us wr g d1∧d1.size=n∧Sort.insOuter ltN a b i d1=Sort.insertionSort ltN d a b∧Bg g w wr) (fun iv _=>b - natOf iv)
 case atStart=>exact⟨a+1,d,by go_num,by omega,by omega,HU.out,hn,rfl,But.refl _ _⟩
 case round=>
  obtain⟨i,d1,rfl,hib,hai,hu,hs1,he,hbg⟩:=hrel
  have U1:Hid _:=hu
  have E1:Hid _:=he
  have B1:Hid _:=hbg
  clear hu he hbg
  by_cases hlt:i<b
  ·have q1:(i:Int)<(b:Int):=by omega
   go_wp2_with fail
   rw[insOuter_in a b i d1 hlt] at E1
   go_loopw [7] (fun jv wr2=>∃ (j:Nat) (d2:Array Nat),jv=.int .i64 (j:Int)∧j≤i∧Us wr2 g d2∧d2.size=n∧Sort.insInner ltN a j d2=Sort.insInner ltN a i d1∧Bg g w wr2) (fun jv _=>natOf jv)
   case atStart=>exact⟨i,d1,rfl,by omega,U1.out,hs1,rfl,B1.out⟩
   case round=>
    obtain⟨j,d2,rfl,hji,hu,hs2,he,hbg⟩:=hrel
    have E2:Hid _:=he
    have B2:Hid _:=hbg
    have U2:Hid _:=hu
    clear he hbg
    by_cases hja:a<j
    ·obtain⟨j',rfl⟩:∃ j',j=j'+1:=⟨j - 1,by omega⟩
     obtain⟨x1,y1⟩:=hu.cell (j'+1) (by omega)
     obtain⟨x2,y2⟩:=hu.cell j' (by omega)
     have q2:(a:Int)<(j':Int)+1:=by omega
     have q3:(j':Int)+1<(n:Int):=by omega
     have q4:(j':Int)<(n:Int):=by omega
     have q5:(0:Int)≤(j':Int):=by omega
     generalize hx:d2[j'+1]! =xv at*
     generalize hy:d2[j']! =yv at*
     have HX:Hid (d2[j'+1]! =xv):=hx
     have HY:Hid (d2[j']! =yv):=hy
     have hc:((j'+1:Nat):Int)=(j':Int)+1:=by omega
     rw[hc]
     clear hx hy hu hc
     go_wp2_with fail
     go_quiet (first|(go_at_call 193;refine Calls.quiet_of_same (less_any _ _ _)))
     rename_i hK
     refine hK _ _ ?_
     have U3:Us (wr.drewN nq) g d2:=Us.same U2.out rfl
     have B3:Bg g w (wr.drewN nq):=B2.out.trans (Bg.drewN wr nq)
     obtain⟨wq,hwq⟩:∃ wq,wr.drewN nq=wq:=⟨_,rfl⟩
     rw[hwq] at U3 B3 ⊢
     obtain⟨x1',y1'⟩:=U3.cell (j'+1) (by omega)
     obtain⟨x2',y2'⟩:=U3.cell j' (by omega)
     have HB3:Hid _:=B3
     have HU3:Hid _:=U3
     rw[HX.out] at x1'
     rw[HY.out] at x2'
     clear hwq U3 B3 x1 x2 y1 y2
     cases hl:ltN xv yv
     ·have HE:Hid (Sort.insInner ltN a i d1=d2):=by
       refine(?_:Sort.insInner ltN a i d1=d2)
       rw[←E2.out,insInner_no a j' d2 (by rw[HX.out,HY.out];exact hl)]
      clear hl
      go_wp2_with fail
      go_roundw
      case rel=>exact⟨i+1,d2,by go_num,by omega,by omega,HU3.out,hs2,by rw[←E1.out,HE.out],HB3.out⟩
      case measure=>simp[natOf];omega
     ·have HE:Hid (Sort.insInner ltN a (j'+1) d2=Sort.insInner ltN a j' (Sort.swp d2 (j'+1) j')):=insInner_in a j' d2 hja (by rw[HX.out,HY.out];exact hl)
      have HW:=Us.swp HU3.out (j'+1) j'
      rw[HX.out,HY.out] at HW
      have HW1:Hid _:=HW.1
      have HW2:Hid _:=HW.2
      clear hl HW
      go_wp2_with fail
      go_region
      go_wp2_with fail
      go_roundw
      case rel=>exact⟨j',Sort.swp d2 (j'+1) j',by go_num,by omega,HW1.out,by simp[Sort.swp,hs2],by rw[←HE.out];exact E2.out,(HB3.out.trans HW2.out).trans (Bg.drew _)⟩
      case measure=>simp[natOf]
    ·have q2:¬(a:Int)<(j:Int):=by omega
     have HE:Hid (Sort.insInner ltN a i d1=d2):=by
      refine(?_:Sort.insInner ltN a i d1=d2)
      rw[←E2.out,insInner_le a j d2 (by omega)]
     clear hu
     go_wp2_with fail
     go_quiet (fail)
     rename_i hK
     refine hK _ _ ?_
     have U3:Hid (Us (wr.drewN nq) g d2):=Us.same U2.out rfl
     have B3:Hid (Bg g w (wr.drewN nq)):=B2.out.trans (Bg.drewN wr nq)
     go_wp2_with fail
     go_roundw
     case rel=>exact⟨i+1,d2,by go_num,by omega,by omega,U3.out,hs2,by rw[←E1.out,HE.out],B3.out⟩
     case measure=>simp[natOf];omega
  ·have q1:¬(i:Int)<(b:Int):=by omega
   go_wp2_with fail
   refine bodyPost_end (results_none rfl _ _ _) rfl ?_
   refine⟨rfl,?_,B1.out⟩
   have:=E1.out
   rw[insOuter_out a b i d1 hlt] at this
   rw[←this]
   exact U1.out
end Go.Proofs.YtfaflomephjkgaaGreatDoor.Rd
