/- The document's own device: Image; two lists, the same or not. -/
import Derived.Test.YtfaflomephjkgaaGreatDoorPRE
import Derived.Test.YtfaflomephjkgaaGreatDoorQDM
import Derived.Deep.AppendLies
set_option maxRecDepth 100000
set_option maxHeartbeats 1000000
namespace Go.Proofs.YtfaflomephjkgaaGreatDoor.Rd
open Go.RowKit
theorem rimage_any (r:Nat) (x:Rp) (s:St) (w:World) (h:Rf w r x s) (hk:Ok s):
  Calls Tryz.prog 9 #[pt r] w fun e w'=>∃ g cap,e=.returned (.slice (some ⟨g,0,none⟩) s.n cap)∧Tx w' g s.n (holdS s)∧w.heap.size≤g∧Below w.heap.size w w':=by
 have HD:Hid (Rf w r x s):=h
 have HK:Hid (Ok s):=hk
 have n0:=hk.n0
 have n1:=hk.n1
 clear h hk
 obtain⟨i0,hi⟩:∃ i,Tryz.prog.info? 9=some i:=by
  cases e:Tryz.prog.info? 9 with
  |none=>have:=info9;rw[e] at this;cases this
  |some i=>exact⟨i,rfl⟩
 have hi9:=info9
 rw[hi] at hi9
 simp only[Option.map_some,Option.some.injEq,Prod.mk.injEq] at hi9
 obtain⟨hz0,hz1,hz2⟩:=hi9
 go_enter Tryz.func9,Tryz.ntmps9
 go_wp2_with fail
 go_loopw [3,4] (fun v iv wr=>∃ k:Nat,k≤s.n∧iv=.int .i64 (k:Int)∧wr.ownsRow w.heap.size 9 1 v k ((List.range k).map fun i=>.string (holdS s i))∧Below w.heap.size w wr) (fun _ i _=>s.n - natOf i)
 case atStart=>exact⟨0,by omega,rfl,⟨rfl,.inl ⟨rfl,rfl⟩⟩,Below.refl _ _⟩
 case round=>
  obtain⟨k,hkl,rfl,ho,hb⟩:=hrel
  have HO:Hid (wr.ownsRow w.heap.size 9 1 u3 k ((List.range k).map fun i=>.string (holdS s i))):=ho
  have B1:Hid (Below w.heap.size w wr):=hb
  have HF:Hid (Rf wr r x s):=HD.out.below hb (Nat.le_refl _)
  obtain⟨c0,z0⟩:=HF.out.c0
  clear ho hb
  by_cases hlt:k<s.n
  ·have q1:(k:Int)<(s.n:Int):=by omega
   have q0:(0:Int)≤(k:Int):=by omega
   have hwr:IntKind.u32.wrap (k:Int)=(k:Int):=IntWalk.u32_in _ (by omega)
   have hbs:=B1.out.size
   go_wp2_with fail
   refine(rholds_any r x s k hlt wr HF.out HK.out).mono ?_
   rintro e w2 ⟨rfl,rfl⟩
   obtain⟨u,hu⟩:∃ u,holdS s k=u:=⟨_,rfl⟩
   rw[hu]
   go_wp2_with (at_builtin;refine wpList_append_lies _ rfl _ _ 36 rfl w.heap.size 9 i0 (.string ⟨#[]⟩) 1 16 Tryz.underlying36 hi hz0 hz1 hz2 rfl (by decide) _ _ _ (by rfl) (HO.out.alloc _) ⟨w2.heap.size,0,none⟩ 1 1 [.string u] (by rfl) rfl ?c1 ?c2 (by decide) ?c3 ?c4 ?c5 (w2.heap.size+1) ?c6 ?_)
   case c1=>exact cell_one _ _ _
   case c2=>intro u hu;simp at hu;subst hu;rfl
   case c3=>unfold maxLen;omega
   case c4=>omega
   case c5=>simp;omega
   case c6=>simp
   intro g cap w3 hown hgrow hat hgl
   have HO3:Hid (w3.ownsRow w.heap.size 9 1 (.slice (some ⟨g,0,none⟩) (k+1) cap) (k+1) ((List.range k).map (fun i=>.string (holdS s i))++[.string u])):=hown
   have B3:Hid (Below w.heap.size w w3):=(B1.out.alloc hbs _).trans ⟨hgrow.os,hgrow.tape,hgrow.output,hgrow.size,fun j hj=>hgrow.block j (by simp;omega) (fun e=>by have:=(own_lt HO.out e.symm).1;omega)⟩
   have HU:Hid _:=hu
   clear hown hgrow hat hgl hu
   go_wp2_with fail
   go_roundw
   case rel=>exact⟨k+1,by omega,by go_num,by rw[List.range_succ,List.map_append,List.map_cons,List.map_nil,HU.out];exact HO3.out,B3.out⟩
   case measure=>simp[natOf];omega
  ·have q1:¬(k:Int)<(s.n:Int):=by omega
   have hk:k=s.n:=by omega
   subst hk
   go_wp2_with fail
   go_ret
   obtain⟨g,cap,e1,e2,e3⟩:=owns_tx HO.out (by omega)
   exact⟨g,⟨cap,by rw[e1];rfl⟩,e3,e2,B1.out⟩
theorem same_any (g g' n c c':Nat) (f f':Nat→ByteArray) (hn:n≤4096) (hf:∀ i,i<n→f i=f' i) (w:World) (h:Tx w g n f) (h':Tx w g' n f'):
  Calls Tryz.prog 7 #[.slice (some ⟨g,0,none⟩) n c,.slice (some ⟨g',0,none⟩) n c'] w fun e w'=>e=.returned (.bool true)∧Below w.heap.size w w':=by
 have H1:Hid (Tx w g n f):=h
 have H2:Hid (Tx w g' n f'):=h'
 have HE:Hid _:=hf
 clear h h' hf
 go_enter Tryz.func7,Tryz.ntmps7
 go_wp2_with fail
 go_loopw [5] (fun iv wr=>∃ k:Nat,k≤n∧iv=.int .i64 (k:Int)∧Below w.heap.size w wr) (fun i _=>n - natOf i)
 case atStart=>exact⟨0,by omega,rfl,Below.refl _ _⟩
 case round=>
  obtain⟨k,hkl,rfl,hb⟩:=hrel
  have B1:Hid (Below w.heap.size w wr):=hb
  by_cases hlt:k<n
  ·have q1:(k:Int)<(n:Int):=by omega
   have q0:(0:Int)≤(k:Int):=by omega
   obtain⟨e1,y1⟩:=(H1.out.same (hb.block g H1.out.lt)).cell k hlt
   obtain⟨e2,y2⟩:=(H2.out.same (hb.block g' H2.out.lt)).cell k hlt
   rw[←HE.out k hlt] at e2
   generalize f k=u at*
   clear hb
   go_wp2_with fail
   go_region
   go_wp2_with fail
   go_roundw
   case rel=>exact⟨k+1,by omega,by go_num,B1.out.drew⟩
   case measure=>simp[natOf];omega
  ·have q1:¬(k:Int)<(n:Int):=by omega
   clear hb
   go_wp2_with fail
   go_ret
   exact⟨rfl,B1.out⟩
end Go.Proofs.YtfaflomephjkgaaGreatDoor.Rd
