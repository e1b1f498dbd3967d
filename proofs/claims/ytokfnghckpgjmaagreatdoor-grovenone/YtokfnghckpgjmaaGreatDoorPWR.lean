/- A region in a round of a range over a function, taken as outside. -/
import Derived.Test.YtokfnghckpgjmaaGreatDoorQYA
import Derived.Sort.LoopGhostIn
set_option maxRecDepth 100000
namespace Go.Proofs.YtokfnghckpgjmaaGreatDoor
namespace Rs
open Go.RowKit Go.Shelf
theorem zbY {F:Fence} {n:Nat} {P:Program} {o:Oper} {a:Act} {w:World} {K:Act→World→Prop} {Q:Exit→Act→World→Prop} (l:Nat) (hd:∀ c,o.op≠ .defer c) (h:o.wpIn F n P a w K Q):o.wpIn (F.inRound l) n P a w K Q:=by
 unfold Oper.wpIn at h ⊢;refine⟨h.1,?_⟩;have h2:=h.2;rw[Oper.semAt_plain F _ _ hd] at h2;rw[Oper.semAt_plain (F.inRound l) _ _ hd];exact h2
theorem zbo {F:Fence} {n:Nat} {P:Program} {ops:Array Oper} {Q:Exit→Act→World→Prop} {i:Nat} {K K':Act→World→Prop} {a:Act} {w:World} (l:Nat) (hd:∀ o∈ops,∀ c,o.op≠ .defer c)
  (hK:∀ a w,K a w→K' a w) (h:wpOpIn F n P ops Q i K a w):wpOpIn (F.inRound l) n P ops Q i K' a w:=by
 have h':=wpOpIn_mono hK h;unfold wpOpIn at h' ⊢;cases ho:ops[i]? with
 |none=>rw[ho] at h';exact h'
 |some o=>
  rw[ho] at h';by_cases hw:Region.wanted o (yielded ops a.tmps)=true
  ·simp only[hw,if_true] at h' ⊢
   exact zbY l (hd o (Array.mem_of_getElem? ho)) h'
  ·simp only[hw] at h' ⊢
   exact h'
theorem za5 {F:Fence} {n:Nat} {P:Program} {md:Region.Mode} {ops:Array Oper} {Q:Exit→Act→World→Prop} (l:Nat) (hd:∀ o∈ops,∀ c,o.op≠ .defer c):
  ∀ (fuel:Nat) (listed:Array Bool) (a:Act) (w:World),wpAnyIn F n P md ops Q fuel listed a w→wpAnyIn (F.inRound l) n P md ops Q fuel listed a w:=by
 intro fuel
 induction fuel with
 |zero=>intro listed a w h;exact h
 |succ fuel ih=>
  intro listed a w h;exact⟨h.1,fun i hi=>zbo l hd (fun a w hk=>ih _ a w hk) (h.2 i hi)⟩
end Rs
end Go.Proofs.YtokfnghckpgjmaaGreatDoor
