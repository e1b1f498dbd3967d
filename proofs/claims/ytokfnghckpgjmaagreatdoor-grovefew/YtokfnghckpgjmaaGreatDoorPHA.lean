/- QuadBuilds: the tree of rows, and which rows may be. -/
import Derived.Test.YtokfnghckpgjmaaGreatDoorPPo
import Derived.Test.YtokfnghckpgjmaaGreatDoorPPk
import Derived.Test.YtokfnghckpgjmaaGreatDoorQGF
set_option maxRecDepth 100000
set_option maxHeartbeats 1000000
namespace Go.Proofs.YtokfnghckpgjmaaGreatDoor
namespace Rq
open Go.RowKit Go.Lib Go.Shelf
open Rc
theorem jX (l:List Rw) (o:Option Addr) (cap:Nat) (w:World) (hr:cH w o cap l) (h:dg l=true):
  Calls Tryz.prog 37 #[.slice o l.length cap] w fun e w'=>∃ n:Nv,e=.returned (.tuple #[nv n,.int .i64 0])∧ci (fun b=>w.heap.size≤b) 32 w' n l∧Below w.heap.size w w':=by
 have hbn:=bF w (.cells #[.int .u32 0,.int .u32 0,.int .i64 0,.slice none 0 0,.slice none 0 0] 73);have HC:Hid _:=iw l o cap _ (hr.below hbn zn);have HT:Hid (∀ W,cH W o cap l→_):=fun W hW=>gg 32 l o cap W hW (ji h) ((iX l).1 h).1 (by have:=nQ (ji h);omega)
 rw[h] at HC;have HBn:Hid _:=hbn;have HR:Hid _:=hr;have HG:Hid _:=zq w (.cells #[.int .u32 0,.int .u32 0,.int .i64 0,.slice none 0 0,.slice none 0 0] 73);clear hr h hbn;go_enter Tryz.func37,Tryz.ntmps37;go_wp2_with fail;refine Calls.mono HC.o ?_;rintro e W1 ⟨rfl,b1⟩;have HB1:Hid (Below w.heap.size w W1):=HBn.o.trans (b1.mono us);have HG1:Hid (W1.heap[w.heap.size]? =some (.cells #[.int .u32 0,.int .u32 0,.int .i64 0,.slice none 0 0,.slice none 0 0] 73 (0,0))):=(b1.block _ us).trans HG.o;have HS1:Hid (w.heap.size<W1.heap.size):=(zi HG1.o).1;clear b1 HC;go_wp2_with fail;refine Calls.mono (HT.o W1 (HR.o.below HB1.o zn)) ?_;rintro e W2 ⟨⟨nX,nY,nL,nro,nrn,nrc,nko,nkn,nkc⟩,rfl,n1,b2⟩;have hg:W2.heap[w.heap.size]? =some (.cells #[.int .u32 0,.int .u32 0,.int .i64 0,.slice none 0 0,.slice none 0 0] 73 (0,0)):=(b2.block _ HS1.o).trans HG1.o;obtain⟨z0,z1,z2,z3,z4,f0,f1,f2,f3,f4⟩:=et hg
 obtain⟨p1,p2,p3⟩:=lT hg (.int .u32 (nX:Int)) (.int .u32 (nY:Int)) (.int .i64 (nL:Int)) (.slice nro nrn nrc) (.slice nko nkn nkc);have HP1:Hid _:=p1;have HP3:Hid (Below w.heap.size w _):=(HB1.o.trans (b2.mono (Nat.le_of_lt HS1.o))).trans p3;have HN:Hid _:=(n1.same (by simp[World.setCell]) (fun b hG _=>p2 b (by have:=HS1.o;omega))).mono fun b _ hG=>(by have:=HS1.o;omega:w.heap.size≤b)
 clear p1 p2 p3 b2 hg n1;go_wp2_with fail;refine bodyPost_ret (sX rfl _ _ _ _ _ _ _ _ _ rfl rfl HP1.o) rfl ⟨⟨nX,nY,nL,nro,nrn,nrc,nko,nkn,nkc⟩,rfl,HN.o,HP3.o⟩
end Rq
end Go.Proofs.YtokfnghckpgjmaaGreatDoor
