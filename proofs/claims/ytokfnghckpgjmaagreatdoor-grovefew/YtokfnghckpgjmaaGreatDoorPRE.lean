/- The document's own device: Image; two lists, the same or not. -/
import Derived.Test.YtokfnghckpgjmaaGreatDoorQDG
import Derived.Deep.AppendLies
set_option maxRecDepth 100000
namespace Go.Proofs.YtokfnghckpgjmaaGreatDoor
namespace Rd
open Go.RowKit
theorem zjk {w w':World} {B base:Nat} {e:TypeId} {v:Value} {k:Nat} {xs:List Value} (h:w.ownsRow base e 1 v k xs) (hb:Below B w w') (hB:w.heap.size≤B):w'.ownsRow base e 1 v k xs:=by
 refine⟨h.1,?_⟩;rcases h.2 with h|⟨g,cap,cur,e1,e2,e3,e4⟩
 ·exact .inl h
 ·exact .inr ⟨g,cap,cur,e1,e2,(hb.block g (by have:=(zi e3).1;omega)).trans e3,e4⟩
theorem fM {w:World} {base k g:Nat} {e:TypeId} {v:Value} {xs:List Value} (h:w.ownsRow base e 1 v k xs) (hg:v.ownBlock=some g):base≤g∧g<w.heap.size:=by
 rcases h.2 with⟨h1,_⟩|⟨g',cap,cur,e1,e2,e3,e4⟩
 ·rw[h1] at hg;cases hg
 ·rw[e1] at hg;cases hg;exact⟨e2,(zi e3).1⟩
theorem kE (w:World) (v:Value) (t:TypeId) (j:Nat) (u:Value) (h:[v][j]? =some u):(w.alloc (.cells #[v] t)).cell? ((⟨w.heap.size,0,none⟩:Addr).add j)=some u:=by
 cases j with
 |zero=>simp at h;subst h;exact zr (zq w _)
 |succ j=>simp at h
end Rd
end Go.Proofs.YtokfnghckpgjmaaGreatDoor
