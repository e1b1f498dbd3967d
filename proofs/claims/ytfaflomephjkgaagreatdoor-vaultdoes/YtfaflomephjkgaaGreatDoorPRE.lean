/- The document's own device: Image; two lists, the same or not. -/
import Derived.Test.YtfaflomephjkgaaGreatDoorQDG
import Derived.Deep.AppendLies
set_option maxRecDepth 100000
namespace Go.Proofs.YtfaflomephjkgaaGreatDoor.Rd
open Go.RowKit
theorem owns_below {w w':World} {B base:Nat} {e:TypeId} {v:Value} {k:Nat} {xs:List Value} (h:w.ownsRow base e 1 v k xs) (hb:Below B w w') (hB:w.heap.size≤B):w'.ownsRow base e 1 v k xs:=by
 refine⟨h.1,?_⟩
 rcases h.2 with h|⟨g,cap,cur,e1,e2,e3,e4⟩
 ·exact .inl h
 ·exact .inr ⟨g,cap,cur,e1,e2,(hb.block g (by have:=(Array.getElem?_eq_some_iff.1 e3).1;omega)).trans e3,e4⟩
theorem owns_tx {w:World} {base k:Nat} {v:Value} {f:Nat→ByteArray} (h:w.ownsRow base 9 1 v k ((List.range k).map fun i=>.string (f i))) (hk:0<k):∃ g cap,v=.slice (some ⟨g,0,none⟩) k cap∧base≤g∧Tx w g k f:=by
 obtain⟨h0,h1⟩:=h
 rcases h1 with⟨_,h1⟩|⟨g,cap,cur,e1,e2,e3,e4,e5,e6,e7⟩
 ·omega
 ·refine⟨g,cap,e1,e2,cur,e3,by omega,fun i hi=>?_⟩
  have h2:(cur.toList.take (k*1))[i]? =cur[i]? :=by rw[List.getElem?_take_of_lt (by omega),Array.getElem?_toList]
  rw[←h2,e7]
  simp[hi]
theorem own_lt {w:World} {base k g:Nat} {e:TypeId} {v:Value} {xs:List Value} (h:w.ownsRow base e 1 v k xs) (hg:v.ownBlock=some g):base≤g∧g<w.heap.size:=by
 rcases h.2 with⟨h1,_⟩|⟨g',cap,cur,e1,e2,e3,e4⟩
 ·rw[h1] at hg;cases hg
 ·rw[e1] at hg;cases hg;exact⟨e2,(Array.getElem?_eq_some_iff.1 e3).1⟩
theorem cell_one (w:World) (v:Value) (t:TypeId) (j:Nat) (u:Value) (h:[v][j]? =some u):(w.alloc (.cells #[v] t)).cell? ((⟨w.heap.size,0,none⟩:Addr).add j)=some u:=by
 cases j with
 |zero=>simp at h;subst h;exact cell_of_row _ _ _ _ _ _ (heap_alloc_new w _)
 |succ j=>simp at h
end Go.Proofs.YtfaflomephjkgaaGreatDoor.Rd
