/- Rings of keys, as lists: which are right, a key's place, a ring with a key more. -/
import Derived.Test.YtokfnghckpgjmaaGreatDoorPPo
import Derived.ProofKit
set_option maxRecDepth 100000
namespace Go.Proofs.YtokfnghckpgjmaaGreatDoor
namespace Rk
abbrev Ky:=Int × ByteArray
def cT:Int→List Ky→Bool
 |_,[]=>true
 |a,k::t=>decide (a<k.1)&&(decide (k.2.size=32)&&cT k.1 t)
def cP (l:List Ky):Bool:=decide (l.length≤16)&&cT 0 l
def ft (l:List Ky) (g:Int):Nat:=(l.takeWhile fun k=>decide (k.1<g)).length
def fi (l:List Ky) (g:Int):Option Ky:=l.find? fun k=>decide (k.1=g)
theorem zkw (l:List Ky) (g:Int):ft l g≤l.length:=by
 unfold ft;exact(List.takeWhile_sublist _).length_le
theorem zd0 (k:Ky) (l:List Ky) (g:Int):ft (k::l) g=if k.1<g then ft l g+1 else 0:=by
 unfold ft;by_cases h:k.1<g<;>simp[h]
theorem zkx (l:List Ky) (g:Int):∀ i k,i<ft l g→l[i]? =some k→k.1<g:=by
 induction l with
 |nil=>intro i k h e;simp at e
 |cons a t ih=>
  intro i k h e;rw[zd0] at h;split at h
  ·cases i with
   |zero=>simp at e;subst e;assumption
   |succ j=>exact ih j k uo (by simpa using e)
  ·omega
theorem sD (l:List Ky) (g:Int) (n:Nat) (hn:n≤l.length) (h1:∀ i k,i<n→l[i]? =some k→k.1<g) (h2:∀ k,l[n]? =some k→g≤k.1):ft l g=n:=by
 induction l generalizing n with
 |nil=>simp at hn;subst hn;rfl
 |cons a t ih=>
  rw[zd0];cases n with
  |zero=>have:=h2 a us;rw[if_neg uo]
  |succ m=>
   have:=h1 0 a uo us;rw[if_pos this,ih m (by simpa using hn) (fun i k hi e=>h1 (i+1) k uo (by simpa using e)) (fun k e=>h2 k (by simpa using e))]
theorem sF (a:Int) (k:Ky) (t:List Ky):cT a (k::t)=true↔a<k.1∧k.2.size=32∧cT k.1 t=true:=by simp[cT]
theorem sG (a:Int) (l:List Ky):cT a l=true↔(∀ (i:Nat) (k:Ky),l[i]? =some k→k.2.size=32∧a<k.1)∧(∀ (i j:Nat) (k m:Ky),i<j→l[i]? =some k→l[j]? =some m→k.1<m.1):=by
 induction l generalizing a with
 |nil=>simp[cT]
 |cons x t ih=>
  rw[sF,ih x.1];constructor
  ·rintro⟨h1,h2,h3,h4⟩
   refine⟨fun i k e=>?_,fun i j k m hij e1 e2=>?_⟩
   ·cases i with
    |zero=>simp at e;subst e;exact⟨h2,h1⟩
    |succ i=>simp at e;have:=h3 i k e;exact⟨this.1,by omega⟩
   ·cases j with
    |zero=>omega
    |succ j=>
     simp at e2;cases i with
     |zero=>simp at e1;subst e1;exact(h3 j m e2).2
     |succ i=>simp at e1;exact h4 i j k m uo e1 e2
  ·rintro⟨h1,h2⟩
   refine⟨(h1 0 x us).2,(h1 0 x us).1,fun i k e=>⟨(h1 (i+1) k (by simpa using e)).1,h2 0 (i+1) x k uo us (by simpa using e)⟩,fun i j k m hij e1 e2=>h2 (i+1) (j+1) k m uo (by simpa using e1) (by simpa using e2)⟩
theorem nh (l:List Ky):cP l=true↔l.length≤16∧cT 0 l=true:=by simp[cP]
end Rk
end Go.Proofs.YtokfnghckpgjmaaGreatDoor
