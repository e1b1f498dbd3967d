/- Rows in a block of their own: two of them change places. -/
import Derived.Test.YtokfnghckpgjmaaGreatDoorPPo
import Derived.Test.YtokfnghckpgjmaaGreatDoorQGF
import Derived.Test.YtokfnghckpgjmaaGreatDoorQJAv
import Derived.Sort.AssemblyPlain
set_option maxRecDepth 100000
namespace Go.Proofs.YtokfnghckpgjmaaGreatDoor
namespace Rq
open Go.RowKit Go.Lib Go.Shelf
open Rc
instance : Inhabited Rw := ⟨⟨0, 0, 0, ⟨#[]⟩⟩⟩
def Ur (w:World) (g z:Nat) (d:Array Rw):Prop:=∃ cs,w.heap[g]? =some (.cells cs 79 (0,0))∧(cs.size=z∧d.size*4≤z)∧∀ i,i<d.size→∀ j,j<4→cs[i*4+j]? =(rc d[i]!)[j]?
theorem Ur.lt {w:World} {g z:Nat} {d:Array Rw} (h:Ur w g z d):g<w.heap.size:=by
 obtain⟨cs,h1,h2⟩:=h;exact(zi h1).1
abbrev Bg (g:Nat) (w w':World):Prop:=bC (fun k=>k=g) w w'
theorem zkD {w:World} {base:Nat} {v:Value} {l:List Rw} (h:w.ownsRow base 79 4 v l.length (l.flatMap rc)) (hl:l≠[]):∃ g cap,v=.slice (some ⟨g,0,none⟩) l.length cap∧base≤g∧Ur w g (cap*4) l.toArray:=by
 rcases h.2 with⟨-,h0⟩|⟨g,cap,cur,rfl,h2,h3,h4,-,h6,h7⟩
 ·exact absurd (List.eq_nil_of_length_eq_zero h0) hl
 ·refine⟨g,cap,rfl,h2,cur,h3,⟨h6,by have:=Nat.mul_le_mul_right 4 h4;simp;omega⟩,fun i hi j hj=>?_⟩
  have hi':i<l.length:=by simpa using hi
  have e:l.toArray[i]! =l[i]:=by simp[getElem!_pos,hi']
  rw[e,←flat_get rc 4 (fun _=>rfl) l i _ (List.getElem?_eq_getElem hi') j hj,←h7,List.getElem?_take_of_lt uo,Array.getElem?_toList]
theorem zkE {w w':World} {base g cap:Nat} {l m:List Rw} (h:w.ownsRow base 79 4 (.slice (some ⟨g,0,none⟩) l.length cap) l.length (l.flatMap rc)) (hu:Ur w' g (cap*4) m.toArray) (hm:m.length=l.length):w'.ownsRow base 79 4 (.slice (some ⟨g,0,none⟩) m.length cap) m.length (m.flatMap rc):=by
 obtain⟨cs',k1,k2,k3⟩:=hu;rcases h.2 with⟨h0,-⟩|⟨g',cap',cur,he,h2,h3,h4,h5,h6,h7⟩
 ·cases h0
 ·cases he
  have hz:=k2.1;refine⟨nk rc 4 (fun _=>rfl) m,.inr ⟨g,cap,cs',rfl,h2,k1,by omega,h5,by omega,?_⟩⟩;refine List.ext_getElem? fun q=>?_
  by_cases hq:q<m.length*4
  ·have hi:q/4<m.length:=uo
   rw[List.getElem?_take_of_lt hq,Array.getElem?_toList,show q=q/4*4+q%4 by omega,k3 (q/4) (by simpa using hi) (q%4) uo,flat_get rc 4 (fun _=>rfl) m (q/4) _ (List.getElem?_eq_getElem hi) (q%4) uo];have e:m.toArray[q/4]! =m[q/4]:=by simp[getElem!_pos,hi]
   rw[e]
  ·rw[List.getElem?_eq_none (by simp;omega),List.getElem?_eq_none (by rw[nk rc 4 (fun _=>rfl) m];omega)]
end Rq
end Go.Proofs.YtokfnghckpgjmaaGreatDoor
