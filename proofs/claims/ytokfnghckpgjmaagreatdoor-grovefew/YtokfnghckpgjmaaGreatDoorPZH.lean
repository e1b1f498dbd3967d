import Derived.Test.YtokfnghckpgjmaaGreatDoorPPo
import Derived.Test.YtokfnghckpgjmaaGreatDoorQYM
import Derived.Test.YtokfnghckpgjmaaGreatDoorRows
import Derived.WalkSpells
import Derived.WalkLawsBesides
import Derived.Test.YtokfnghckpgjmaaGreatDoorPPm
set_option maxRecDepth 100000
namespace Go.Proofs.YtokfnghckpgjmaaGreatDoor
namespace Ra
open Go.RowKit
theorem info5:(Tryz.prog.info? 5).map (fun i=>(i.zero,i.size,i.bytes))=some (some (.int .u8 0),1,1):=uk
theorem zeO {w:World} {base:Nat} {v:Value} {n:Nat} {xs:List Int} (h:w.ownsRow base 5 1 v n (xs.map (Value.int .u8))):
  (convert 140 9 v).run Tryz.prog w=.ok (.string (strOfNums xs)) w:=by
 obtain⟨hl,h⟩:=h;rcases h with⟨rfl,rfl⟩|⟨g,cap,cur,rfl,_,hg,hn,_,hc,ht⟩
 ·have:xs=[]:=by simpa using hl
  subst this;exact run_convert_bytes_nil w 140 5 Tryz.underlying140 Tryz.underlying5 0 0 9 Tryz.underlying9
 ·have hlen:xs.length=n:=by simpa using hl
  refine run_convert_bytes_arg w 140 5 Tryz.underlying140 Tryz.underlying5 g 0 n cap xs hlen (fun i hi=>?_) 9 Tryz.underlying9;rw[zr hg,Nat.zero_add];have h1:(cur.toList.take (n*1))[i]? =(xs.map (Value.int .u8))[i]? :=by rw[ht]
  rw[List.getElem?_take,if_pos uo] at h1;rw[←Array.getElem?_toList,h1];have:i<xs.length:=uo
  simp[List.getD,List.getElem?_eq_getElem this]
end Ra
end Go.Proofs.YtokfnghckpgjmaaGreatDoor
