/- A region in a round of a range over a function, taken as outside. -/
import Derived.Test.YtokfnghckpgjmaaGreatDoorQYA
import Derived.Sort.LoopGhostIn
set_option maxRecDepth 100000
namespace Go.Proofs.YtokfnghckpgjmaaGreatDoor
namespace Rs
open Go.RowKit Go.Shelf
theorem od {F:Fence} {n:Nat} {P:Program} {o:Oper} {a:Act} {w:World} {K:Act→World→Prop} {Q:Exit→Act→World→Prop} (l:Nat) (b:∀ c,o.op≠ .defer c) (h:o.wpIn F n P a w K Q):o.wpIn (F.inRound l) n P a w K Q:=by
 unfold Oper.wpIn at h ⊢;refine⟨h.1,?_⟩;have d:=h.2;rw[Oper.semAt_plain F _ _ b] at d;rw[Oper.semAt_plain (F.inRound l) _ _ b];exact d
theorem og {F:Fence} {n:Nat} {P:Program} {b:Array Oper} {Q:Exit→Act→World→Prop} {i:Nat} {K g:Act→World→Prop} {a:Act} {w:World} (l:Nat) (k:∀ o∈b,∀ c,o.op≠ .defer c)
  (m:∀ a w,K a w→g a w) (h:wpOpIn F n P b Q i K a w):wpOpIn (F.inRound l) n P b Q i g a w:=by
 have d:=wpOpIn_mono m h;unfold wpOpIn at d ⊢;cases f:b[i]? with
 |none=>rw[f] at d;exact d
 |some o=>
  rw[f] at d;by_cases j:Region.wanted o (yielded b a.tmps)=true
  ·simp only[j,if_true] at d ⊢
   exact od l (k o (Array.mem_of_getElem? f)) d
  ·simp only[j] at d ⊢
   exact d
theorem mu {F:Fence} {n:Nat} {P:Program} {g:Region.Mode} {e:Array Oper} {Q:Exit→Act→World→Prop} (l:Nat) (m:∀ o∈e,∀ c,o.op≠ .defer c):
  ∀ (d:Nat) (b:Array Bool) (a:Act) (w:World),wpAnyIn F n P g e Q d b a w→wpAnyIn (F.inRound l) n P g e Q d b a w:=by
 intro d
 induction d with
 |zero=>intro b a w h;exact h
 |succ d p=>
  intro b a w h;exact⟨h.1,fun i q=>og l m (fun a w r=>p _ a w r) (h.2 i q)⟩
end Rs
end Go.Proofs.YtokfnghckpgjmaaGreatDoor
