/- A ref that is handed in. -/
import Derived.Test.YtokfnghckpgjmaaGreatDoorQYM
import Derived.Test.YtokfnghckpgjmaaGreatDoorQKA
import Derived.Deep.SlicePairs
import Derived.OpenShut
set_option maxRecDepth 100000
namespace Go.Proofs.YtokfnghckpgjmaaGreatDoor
namespace Rv
open Go.RowKit Go.ChangeShapes Go.WideShapes Go.Deep
theorem zmV:Tryz.prog.cellsOf 49=2:=by kernel_rfl
theorem zgW:Tryz.prog.cellsOf 41=1:=by kernel_rfl
theorem zks:Tryz.prog.cellsOf 9=1:=by kernel_rfl
theorem ref_of_arg {H:Type} {enc:TypeId × Value→H} {W:World} {v:Value} {base:Nat} {d:DataW H} {p:List MemPlace} (hv':Value.okWide Tryz.prog W .any base 49 v) (h:DataW.Trod enc Tryz.prog W 0 (fun _=>true) true 49 v d p):∃ (a:Int) (s:ByteArray),v=.agg #[.int .u32 a,.string s]:=by
 obtain⟨cs,rfl,hcs⟩:=okWide_struct Tryz.underlying49 hv';rw[zmV] at hcs;obtain⟨n,h⟩:=h;obtain⟨xs,m,_,_,_,hlen,hf⟩:=DataW.trod_struct Tryz.underlying49 h
 obtain⟨c0,c1,rfl⟩:∃ c0 c1,cs=#[c0,c1]:=by
  match cs,hcs with
  |⟨[c0,c1]⟩,_=>exact⟨c0,c1,rfl⟩
 obtain⟨y0,y1,rfl⟩:∃ y0 y1,xs=[y0,y1]:=by
  match xs,hlen with
  |[y0,y1],_=>exact⟨y0,y1,rfl⟩
 have e0:=hf 0 _ rfl;have e1:=hf 1 _ rfl;simp[Value.cells,zgW,zks] at e0 e1;obtain⟨a,ea,_,wa⟩:=DataW.trod_int Tryz.underlying41 e0;obtain⟨s,eb,_,wb⟩:=DataW.trod_string Tryz.underlying9 e1;simp at ea eb;subst ea eb;exact⟨a,s,rfl⟩
end Rv
end Go.Proofs.YtokfnghckpgjmaaGreatDoor
