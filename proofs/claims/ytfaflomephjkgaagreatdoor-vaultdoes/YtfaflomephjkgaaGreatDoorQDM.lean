/- A short row sorted; the keys of a map, rising. -/
import Derived.Test.YtfaflomephjkgaaGreatDoorPDL
import Derived.Test.YtfaflomephjkgaaGreatDoorPAb
import Derived.Test.YtfaflomephjkgaaGreatDoorQDI
import Derived.BigRegion
import Derived.Test.YtfaflomephjkgaaGreatDoorQDG
set_option maxRecDepth 100000
set_option maxHeartbeats 4000000
namespace Go.Proofs.YtfaflomephjkgaaGreatDoor.Rd
open Go.RowKit
def Sorts (N:Nat):Prop:=∀ (g cap:Nat) (d:Array Nat) (w:World),d.size≤N→Us w g d→
 Calls Tryz.prog 156 #[.slice (some ⟨g,0,none⟩) d.size cap] w fun e w'=>e=.returned (.tuple #[])∧(∃ d',Sort.PermIn 0 d.size d d'∧Sort.SortedIn ltN 0 d.size d'∧Us w' g d')∧Bg g w w'
theorem pdq_small (g cap a b:Nat) (d:Array Nat) (l:Int) (ha:a≤b) (hab:b - a≤12) (hb:b≤d.size) (hd:d.size≤1000000) (w:World) (h:Us w g d):
  Calls Tryz.prog 175 #[.slice (some ⟨g,0,none⟩) d.size cap,.int .i64 (a:Int),.int .i64 (b:Int),.int .i64 l] w fun e w'=>e=.returned (.tuple #[])∧Us w' g (Sort.insertionSort ltN d a b)∧Bg g w w':=by
 have HI:Hid _:=insertion_any g cap a b d ha hb hd w h
 have q1:(b:Int) - (a:Int)≤12:=by omega
 have q2:0≤(b:Int) - (a:Int):=by omega
 clear h
 go_enter Tryz.func175,Tryz.ntmps175
 go_wp2_with fail
 refine wp_loop_rounds 1 ?_
 rw[rounds_succ]
 go_wp2_with fail
 refine Calls.mono HI.out ?_
 rintro e w1 ⟨rfl,u1,b1⟩
 have U1:Hid _:=u1
 have B1:Hid _:=b1
 clear u1 b1
 go_wp2_with fail
 refine bodyPost_ret (results_none rfl _ _ _) rfl ?_
 exact⟨rfl,U1.out,B1.out⟩
theorem sorts_small:Sorts 12:=by
 intro g cap d w hd h
 have HP:∀ l,Hid (Calls Tryz.prog 175 #[.slice (some ⟨g,0,none⟩) d.size cap,.int .i64 0,.int .i64 (d.size:Int),.int .i64 l] w fun e w'=>e=.returned (.tuple #[])∧Us w' g (Sort.insertionSort ltN d 0 d.size)∧Bg g w w'):=
  fun l=>pdq_small g cap 0 d.size d l (by omega) (by omega) (Nat.le_refl _) (by omega) w h
 have HL:Hid _:=Tryz.bits_Len (d.size:Int) w (by omega) (by omega)
 have HS:=Sort.insertionSort_holds (lt:=ltN) swoN d 0 d.size (by omega) (Nat.le_refl _)
 have hu:IntKind.u64.wrap (d.size:Int)=(d.size:Int):=IntWalk.u64_in _ (by omega)
 clear h
 go_enter Tryz.func156,Tryz.ntmps156
 go_wp2_with fail
 refine Calls.mono HL.out ?_
 rintro e w1 ⟨rfl,rfl⟩
 generalize ((Lib.bitLen (d.size:Int).toNat:Nat):Int)=l at*
 go_wp2_with fail
 refine Calls.mono (HP l).out ?_
 rintro e w2 ⟨rfl,u2,b2⟩
 have U2:Hid _:=u2
 have B2:Hid _:=b2
 clear u2 b2
 go_wp2_with fail
 refine bodyPost_end (results_none rfl _ _ _) rfl ?_
 exact⟨rfl,⟨_,HS.1,HS.2,U2.out⟩,B2.out⟩
theorem insertion_nil (w:World):Calls Tryz.prog 187 #[.slice none 0 0,.int .i64 0,.int .i64 0] w fun e w'=>e=.returned (.tuple #[])∧w'=w:=by
 go_enter Tryz.func187,Tryz.ntmps187
 go_wp2_with fail
 refine wp_loop_rounds 1 ?_
 rw[rounds_succ]
 go_wp2_with fail
 refine bodyPost_end (results_none rfl _ _ _) rfl ?_
 exact⟨rfl,rfl⟩
theorem pdq_nil (l:Int) (w:World):Calls Tryz.prog 175 #[.slice none 0 0,.int .i64 0,.int .i64 0,.int .i64 l] w fun e w'=>e=.returned (.tuple #[])∧w'=w:=by
 go_enter Tryz.func175,Tryz.ntmps175
 go_wp2_with fail
 refine wp_loop_rounds 1 ?_
 rw[rounds_succ]
 go_wp2_with fail
 refine(insertion_nil w).mono ?_
 rintro e w1 ⟨rfl,rfl⟩
 go_wp2_with fail
 refine bodyPost_ret (results_none rfl _ _ _) rfl ?_
 exact⟨rfl,rfl⟩
theorem sort_nil (w:World):Calls Tryz.prog 156 #[.slice none 0 0] w fun e w'=>e=.returned (.tuple #[])∧w'=w:=by
 have HL:Hid (Calls Tryz.prog 176 #[.int .u64 0] w fun e w'=>e=.returned (.int .i64 0)∧w'=w):=Tryz.bits_Len 0 w (by omega) (by omega)
 go_enter Tryz.func156,Tryz.ntmps156
 go_wp2_with fail
 refine Calls.mono HL.out ?_
 rintro e w1 ⟨rfl,rfl⟩
 go_wp2_with fail
 refine(pdq_nil 0 w1).mono ?_
 rintro e w2 ⟨rfl,rfl⟩
 go_wp2_with fail
 refine bodyPost_end (results_none rfl _ _ _) rfl ?_
 exact⟨rfl,rfl⟩
open Go.RowKit Go.Shelf Go.Lib
attribute [local go_sem] Oper.semAt_some
def Rising (f:Nat→Option ByteArray) (l:List Nat):Prop:=l.Pairwise (·<·)∧∀ p,p∈l↔(f p).isSome=true
def RowOf (w:World) (base:Nat) (v:Value) (l:List Nat):Prop:=(v=.slice none 0 0∧l=[])∨∃ g cap,v=.slice (some ⟨g,0,none⟩) l.length cap∧base≤g∧Us w g l.toArray
theorem perm_whole {d d':Array Nat} (h:Sort.PermIn 0 d.size d d'):d'.toList.Perm d.toList:=by
 obtain⟨h1,h2,h3⟩:=h
 rw[Array.extract_eq_self_of_le (Nat.le_refl _),←h1,Array.extract_eq_self_of_le (Nat.le_refl _)] at h3
 exact h3
theorem rising_of {f:Nat→Option ByteArray} {l:List Nat} (hl:AllKeys f l) {d':Array Nat} (hp:Sort.PermIn 0 l.toArray.size l.toArray d') (hs:Sort.SortedIn ltN 0 l.toArray.size d'):Rising f d'.toList∧d'.size=l.length:=by
 have hsz:d'.size=l.length:=by simpa using hp.1
 have hpm:=perm_whole hp
 have hn:d'.toList.Nodup:=hpm.nodup_iff.2 hl.1
 refine⟨⟨?_,fun p=>?_⟩,hsz⟩
 ·rw[List.pairwise_iff_getElem]
  intro i j hi hj hij
  simp only[Array.length_toList] at hi hj
  have h1:=hs i j (by omega) hij (by simp;omega)
  simp only[ltN,decide_eq_false_iff_not,getElem!_pos,hi,hj] at h1
  rw[List.Nodup,List.pairwise_iff_getElem] at hn
  have h2:=hn i j (by simpa using hi) (by simpa using hj) hij
  simp only[Array.getElem_toList] at h2 ⊢
  omega
 ·rw[hpm.mem_iff]
  exact hl.2 p
theorem us_of_owns {w:World} {base:Nat} {v:Value} {l:List Nat} (h:w.ownsRow base 32 1 v l.length (l.map u32v)):RowOf w base v l:=by
 rcases h.2 with⟨rfl,h0⟩|⟨g,cap,cur,rfl,hb,hg,hn,hc,hz,ht⟩
 ·exact .inl ⟨rfl,List.eq_nil_of_length_eq_zero h0⟩
 ·refine .inr ⟨g,cap,rfl,hb,cur,hg,by simp;omega,fun i hi=>?_⟩
  simp only[List.size_toArray] at hi
  have h1:(cur.toList.take (l.length*1))[i]? =some (u32v l[i]):=by rw[ht];simp[hi]
  rw[List.getElem?_take_of_lt (by omega),Array.getElem?_toList] at h1
  rw[h1]
  simp[getElem!_pos,hi]
theorem sorted_any (N:Nat) (hS:Sorts N) (f:Nat→Option ByteArray) (hf:∀ p t,f p=some t→p<4096) (hc:∀ l,AllKeys f l→l.length≤N) (m mb:Nat) (w:World) (hm:Pm w m f) (hmb:w.heap[mb]? =some (.cells #[.map (some m)] 77 (0,0))):
  Calls Tryz.prog 135 #[.func (.func 157) #[] #[.pointer (some ⟨mb,0,none⟩)]] w
   fun e w'=>∃ l v,e=.returned v∧Rising f l∧l.length≤N∧RowOf w' (w.heap.size+1) v l∧Below w.heap.size w w':=by
 have HA:Hid _:=collect_any f hf m mb w hm hmb
 have HS:Hid (Sorts N):=hS
 have HC:Hid _:=hc
 clear hm hmb hf hS hc
 go_enter Tryz.func135,Tryz.ntmps135
 go_wp2_with fail
 refine Calls.mono HA.out ?_
 rintro e w1 ⟨l,v,rfl,h1,h2,h3⟩
 have H1:Hid (AllKeys f l):=h1
 have H3:Hid (Below w.heap.size w w1):=h3
 rcases us_of_owns h2 with⟨rfl,rfl⟩|⟨g,cap,rfl,hb,hu⟩
 ·clear h1 h2 h3
  go_wp2_with fail
  refine(sort_nil w1).mono ?_
  rintro e w2 ⟨rfl,rfl⟩
  go_wp2_with fail
  go_ret
  exact⟨[],_,rfl,⟨List.Pairwise.nil,H1.out.2⟩,by simp,.inl ⟨rfl,rfl⟩,H3.out⟩
 ·have HB:Hid (w.heap.size+1≤g):=hb
  have HC2:Hid (Calls Tryz.prog 156 #[.slice (some ⟨g,0,none⟩) l.length cap] w1 fun e w'=>e=.returned (.tuple #[])∧(∃ d',Sort.PermIn 0 l.toArray.size l.toArray d'∧Sort.SortedIn ltN 0 l.toArray.size d'∧Us w' g d')∧Bg g w1 w'):=HS.out g cap l.toArray w1 (by simpa using HC.out l h1) hu
  clear h1 h2 h3 hb hu
  go_wp2_with fail
  refine Calls.mono HC2.out ?_
  rintro e w2 ⟨rfl,⟨d',hp,hs,hu⟩,b2⟩
  have R2:=rising_of H1.out hp hs
  have HR2:Hid _:=R2
  have HU2:Hid _:=hu
  have B2:Hid _:=b2
  clear hp hs hu b2 R2
  go_wp2_with fail
  go_ret
  refine⟨d'.toList,_,rfl,HR2.out.1,?_,.inr ⟨g,cap,?_,HB.out,by have hu:Us w2 g d':=HU2.out;simpa using hu⟩,H3.out.trans (But.below B2.out (fun k e=>by have:=HB.out;omega) H3.out.size)⟩
  ·have:=HC.out l H1.out
   simp[HR2.out.2]
   exact this
  ·simp[HR2.out.2]
theorem all_any (o:Option Addr) (n cap:Nat) (w:World):
  Calls Tryz.prog 134 #[.slice o n cap] w fun e w'=>e=.returned (.func (.func 154) #[] #[.pointer (some ⟨w.heap.size,0,none⟩)])∧w'=w.alloc (.cells #[.slice o n cap] 174):=by
 go_enter Tryz.func134,Tryz.ntmps134
 go_wp2_with fail
 go_ret
 exact⟨rfl,rfl⟩
theorem rising_any (N:Nat) (hS:Sorts N) (d b m:Nat) (s:St) (w:World) (h:Dev w d b m s) (hk:Ok s) (hc:∀ l,AllKeys s.pd l→l.length≤N):
  Calls Tryz.prog 114 #[pt d] w fun e w'=>∃ l o cap mb,e=.returned (.func (.func 154) #[] #[.pointer (some ⟨mb,0,none⟩)])∧Rising s.pd l∧l.length≤N∧w.heap.size≤mb∧
   w'.heap[mb]? =some (.cells #[.slice o l.length cap] 174 (0,0))∧RowOf w' w.heap.size (.slice o l.length cap) l∧Below w.heap.size w w':=by
 obtain⟨c7,z7⟩:=h.c7
 have HS:Hid (Sorts N):=hS
 have HC:Hid (∀ l,AllKeys s.pd l→l.length≤N):=hc
 have HD:Hid (Dev w d b m s):=h
 have HF:Hid (∀ p t,s.pd p=some t→p<4096):=fun p t e=>by have:=(hk.pd p t e).1;have:=hk.n1;omega
 clear h hk hS hc
 go_enter Tryz.func114,Tryz.ntmps114
 go_wp2_with fail
 refine(keys_any m w).mono ?_
 rintro e w1 ⟨rfl,rfl⟩
 have P1:Pm (w.alloc (.cells #[.map (some m)] 77)) m s.pd:=HD.out.map.same (Below.heap_alloc _ _ _ HD.out.lt.2.2)
 have H1:Hid _:=sorted_any N HS.out s.pd HF.out HC.out m w.heap.size (w.alloc (.cells #[.map (some m)] 77)) P1 (heap_alloc_new w _)
 have B1:Hid (Below w.heap.size w (w.alloc (.cells #[.map (some m)] 77))):=below_new w _
 obtain⟨w1,hw1⟩:∃ w1,w.alloc (.cells #[.map (some m)] 77)=w1:=⟨_,rfl⟩
 rw[hw1] at H1 B1 ⊢
 clear P1 hw1 c7 z7
 go_wp2_with fail
 refine Calls.mono H1.out ?_
 rintro e w2 ⟨l,v,rfl,h1,h2,h3,h4⟩
 have R2:Hid (Rising s.pd l):=h1
 have B2:Hid (Below w.heap.size w w2):=B1.out.trans (h4.mono B1.out.size)
 have hrow:∃ o cap,v=.slice o l.length cap∧RowOf w2 w.heap.size (.slice o l.length cap) l:=by
  rcases h3 with⟨rfl,rfl⟩|⟨g,cap,rfl,hb,hu⟩
  ·exact⟨none,0,rfl,.inl ⟨rfl,rfl⟩⟩
  ·exact⟨_,cap,rfl,.inr ⟨g,cap,rfl,by have:=B1.out.size;omega,hu⟩⟩
 obtain⟨o,cap,rfl,hr⟩:=hrow
 have HR:Hid _:=hr
 have HN:Hid (l.length≤N):=h2
 clear h1 h2 h3 h4 hr
 go_wp2_with fail
 refine(all_any o l.length cap w2).mono ?_
 rintro e w3 ⟨rfl,rfl⟩
 go_wp2_with fail
 go_ret
 refine⟨l,o,cap,w2.heap.size,rfl,R2.out,HN.out,B2.out.size,heap_alloc_new w2 _,?_,B2.out.trans ((below_new w2 _).mono B2.out.size)⟩
 rcases HR.out with h|⟨g,cap',e,hb,hu⟩
 ·exact .inl h
 ·exact .inr ⟨g,cap',e,hb,hu.same (Below.heap_alloc _ _ _ hu.lt)⟩
end Go.Proofs.YtfaflomephjkgaaGreatDoor.Rd
namespace Go.Proofs.YtfaflomephjkgaaGreatDoor.Rd
open Go.RowKit Go.Shelf Go.Lib
attribute [local go_sem] Oper.semAt_some
def rank (f:Nat→Option ByteArray) (p:Nat):Nat:=((List.range p).filter fun q=>(f q).isSome).length
theorem rank_succ (f:Nat→Option ByteArray) (p:Nat):rank f (p+1)=rank f p+if(f p).isSome=true then 1 else 0:=by
 unfold rank
 rw[List.range_succ,List.filter_append,List.length_append]
 congr 1
 by_cases h:(f p).isSome=true<;>simp[h]
theorem rank_filter (f:Nat→Option ByteArray):∀ (n i p:Nat),((List.range n).filter fun q=>(f q).isSome)[i]? =some p→rank f p=i
 |0,i,p,h=>by simp at h
 |n+1,i,p,h=>by
  rw[List.range_succ,List.filter_append] at h
  by_cases hi:i<((List.range n).filter fun q=>(f q).isSome).length
  ·rw[List.getElem?_append_left hi] at h
   exact rank_filter f n i p h
  ·rw[List.getElem?_append_right (by omega)] at h
   by_cases hn:(f n).isSome=true
   ·simp only[List.filter_cons,hn,if_true,List.filter_nil] at h
    have hj:i - ((List.range n).filter fun q=>(f q).isSome).length=0:=by
     have:=(List.getElem?_eq_some_iff.1 h).1;simp at this;omega
    rw[hj] at h
    simp at h
    subst h
    unfold rank
    omega
   ·simp[hn] at h
theorem Rising.eq {f:Nat→Option ByteArray} {l:List Nat} (h:Rising f l) (n:Nat) (hn:∀ p t,f p=some t→p<n):l=(List.range n).filter fun q=>(f q).isSome:=by
 have hp2:((List.range n).filter fun q=>(f q).isSome).Pairwise (·<·):=List.Pairwise.filter _ List.pairwise_lt_range
 have nd:∀ {l:List Nat},l.Pairwise (·<·)→l.Nodup:=fun h=>h.imp (fun h=>by omega)
 refine List.Perm.eq_of_pairwise (le:=(·<·)) (fun a b _ _ h1 h2=>by omega) h.1 hp2 ((List.perm_ext_iff_of_nodup (nd h.1) (nd hp2)).2 fun p=>?_)
 rw[h.2 p,List.mem_filter,List.mem_range]
 constructor
 ·intro hs
  obtain⟨t,ht⟩:=Option.isSome_iff_exists.1 hs
  exact⟨hn p t ht,hs⟩
 ·exact fun h=>h.2
theorem Rising.rank {f:Nat→Option ByteArray} {l:List Nat} (h:Rising f l) (n:Nat) (hn:∀ p t,f p=some t→p<n) {i p:Nat} (hi:l[i]? =some p):Rd.rank f p=i:=by
 have:=h.eq n hn
 rw[this] at hi
 exact rank_filter f n i p hi
theorem Rising.one {f:Nat→Option ByteArray} {l:List Nat} (h:Rising f l) (n:Nat) (hn:∀ p t,f p=some t→p<n) {i p q:Nat} (hi:l[i]? =some p) (hq:(f q).isSome=true) (hr:Rd.rank f q=i):q=p:=by
 obtain⟨j,hj⟩:=List.mem_iff_getElem?.1 ((h.2 q).2 hq)
 have:=h.rank n hn hj
 rw[this] at hr
 subst hr
 rw[hi] at hj
 exact(Option.some.inj hj).symm
theorem Rising.lt {f:Nat→Option ByteArray} {l:List Nat} (h:Rising f l) (n:Nat) (hn:∀ p t,f p=some t→p<n) {q:Nat} (hq:(f q).isSome=true):Rd.rank f q<l.length:=by
 obtain⟨j,hj⟩:=List.mem_iff_getElem?.1 ((h.2 q).2 hq)
 rw[h.rank n hn hj]
 exact(List.getElem?_eq_some_iff.1 hj).1
def kept (fs:List Int) (i:Nat):Nat:=match fs[i]? with|some f=>if 1≤f∧f≤4 then(f*64).toNat else 0|none=>0
def torn (t o:ByteArray) (k:Nat):ByteArray:=t.extract 0 k++o.extract k o.size
theorem torn_zero (t o:ByteArray):torn t o 0=o:=by
 unfold torn
 have h1:t.extract 0 0=ByteArray.empty:=by simp
 rw[h1,ByteArray.empty_append]
 exact ByteArray.extract_zero_size
theorem torn_size (t o:ByteArray) (k:Nat) (hk:k≤256) (ht:t.size=256) (ho:o.size=256):(torn t o k).size=256:=by
 unfold torn;rw[ByteArray.size_append,ByteArray.size_extract,ByteArray.size_extract];omega
theorem kept_le (fs:List Int) (i:Nat):kept fs i≤256:=by
 unfold kept
 split
 ·split
  ·omega
  ·omega
 ·omega
def wkTx (s:St) (fs:List Int) (k:Nat) (p:Nat):ByteArray:=match s.pd p with
 |some t=>if rank s.pd p<k then torn t (s.tx p) (kept fs (rank s.pd p)) else s.tx p
 |none=>s.tx p
def wakeTx (s:St) (fs:List Int) (p:Nat):ByteArray:=match s.pd p with
 |some t=>torn t (s.tx p) (kept fs (rank s.pd p))
 |none=>s.tx p
theorem wkTx_zero (s:St) (fs:List Int):wkTx s fs 0=s.tx:=by
 funext p;unfold wkTx;split
 ·rw[if_neg (by omega)]
 ·rfl
theorem wkTx_step (s:St) (fs:List Int) (l:List Nat) (h:Rising s.pd l) (hk:Ok s) (i x:Nat) (t:ByteArray) (hi:l[i]? =some x) (ht:s.pd x=some t):
  wkTx s fs (i+1)=at' (wkTx s fs i) x (torn t (s.tx x) (kept fs i))∧wkTx s fs i x=s.tx x:=by
 have hn:∀ p t,s.pd p=some t→p<s.n:=fun p t e=>(hk.pd p t e).1
 have hr:=h.rank s.n hn hi
 refine⟨?_,?_⟩
 ·funext q
  unfold at'
  by_cases hq:q=x
  ·subst hq
   rw[if_pos rfl]
   unfold wkTx
   rw[ht,hr]
   simp
  ·rw[if_neg hq]
   unfold wkTx
   cases hp:s.pd q with
   |none=>rfl
   |some u=>
    simp only
    have hne:rank s.pd q≠i:=fun e=>hq (h.one s.n hn hi (by rw[hp];rfl) e)
    by_cases h1:rank s.pd q<i
    ·rw[if_pos h1,if_pos (by omega)]
    ·rw[if_neg h1,if_neg (by omega)]
 ·unfold wkTx
  rw[ht,hr]
  simp
theorem wkTx_all (s:St) (fs:List Int) (l:List Nat) (h:Rising s.pd l) (hk:Ok s) (k:Nat) (hl:k=l.length∨fs.length≤k):wkTx s fs k=wakeTx s fs:=by
 have hn:∀ p t,s.pd p=some t→p<s.n:=fun p t e=>(hk.pd p t e).1
 funext p
 unfold wkTx wakeTx
 cases hp:s.pd p with
 |none=>rfl
 |some t=>
  simp only
  by_cases h1:rank s.pd p<k
  ·rw[if_pos h1]
  ·rw[if_neg h1]
   rcases hl with rfl|hl
   ·exact absurd (h.lt s.n hn (by rw[hp];rfl)) h1
   ·have:kept fs (rank s.pd p)=0:=by unfold kept;rw[List.getElem?_eq_none (by omega)]
    rw[this,torn_zero]
def wakeS (s:St) (fs:List Int):St:=backS { s with tx:=wakeTx s fs,pd:=fun _=>none }
theorem wakeTx_size {s:St} (h:Ok s) (fs:List Int) (p:Nat) (hp:p<s.n):(wakeTx s fs p).size=256:=by
 unfold wakeTx
 cases hq:s.pd p with
 |none=>exact h.tx p hp
 |some t=>exact torn_size _ _ _ (kept_le _ _) (h.pd p t hq).2 (h.tx p hp)
theorem wakeS_ok {s:St} (h:Ok s) (fs:List Int):Ok (wakeS s fs):=
 backS_ok ⟨h.n0,h.n1,wakeTx_size h fs,fun _ _ e=>by simp at e,h.l0,h.l1,h.lc,h.c0,h.c1,h.b0,h.b1⟩
theorem all1_in (l:List Nat) (hl:l.length≤4096) (o:Option Addr) (cap mb p base:Nat) (W1:World) (Sx:Nat→Prop) (B0:Nat) (s1:∀ a,o=some a→Sx a.block)
  (hmb:W1.heap[mb]? =some (.cells #[.slice o l.length cap] 174 (0,0))) (hrow:RowOf W1 base (.slice o l.length cap) l) (R:Nat→World→Prop) (Rx:World→Prop)
  (hY:∀ i (x:Nat × Nat) W,(x.1=i∧l[i]? =some x.2)→R i W→YieldAt Fence.wide 3 Tryz.prog p #[.int .i64 (x.1:Int),.int .u32 (x.2:Int)] W fun e W'=>(e=.returned (.bool true)∧R (i+1) W'∧Keeps Sx W W'∧Kn B0 p W W')∨(e=.returned (.bool false)∧Rx W')) (h0:R 0 W1):
  CallsIn Fence.wide 4 Tryz.prog 154 (#[.func (.yield p) #[] #[]]++#[.pointer (some ⟨mb,0,none⟩)]) W1 fun e W'=>(∃ v,e=.returned v)∧((∃ i,i=l.length∧R i W')∨Rx W'):=by
 have HY:Hid _:=hY
 have H0:Hid (R 0 W1):=h0
 have HRW:Hid (RowOf W1 base (.slice o l.length cap) l):=hrow
 have c1:W1.cell? ⟨mb,0,none⟩=some (.slice o l.length cap):=by rw[cell_of_row _ _ _ _ _ _ hmb];rfl
 clear hY h0 hmb hrow
 refine callsIn_of_wp Tryz.func154 rfl trivial ?_ rfl
 simp only[Tryz.ntmps154,List.size_toArray,List.length_cons,List.length_nil,Nat.reduceAdd,Nat.reduceSub,Array.replicate_succ,Array.replicate_zero,List.push_toArray,List.append_toArray,List.nil_append,List.cons_append]
 gi_wp2
 clear c1
 gi_loopw [7] (fun i wr=>∃ k:Nat,k≤l.length∧i=.int .i64 (k:Int)∧R k wr∧Keeps Sx W1 wr) (fun i _=>l.length - natOf i)
 case atStart=>exact⟨0,by omega,rfl,H0.out,Keeps.refl _ _⟩
 case round=>
  obtain⟨k,hkl,rfl,hRk,hq⟩:=hrel
  have HRk:Hid (R k wr):=hRk
  have HQ:Hid (Keeps Sx W1 wr):=hq
  clear hRk hq
  by_cases hlt:k<l.length
  ·obtain⟨g,cap',e,hb,hu⟩:∃ g cap',Value.slice o l.length cap=.slice (some ⟨g,0,none⟩) l.length cap'∧base≤g∧Us W1 g l.toArray:=by
    rcases HRW.out with⟨_,rfl⟩|h
    ·simp at hlt
    ·exact h
   simp only[Value.slice.injEq] at e
   obtain⟨rfl,_,rfl⟩:=e
   have hu2:Us wr g l.toArray:=hu.same (HQ.out.2 g (s1 _ rfl) hu.lt)
   obtain⟨x1,y1⟩:=hu2.cell k (by simpa using hlt)
   have hx:l[k]? =some (l.toArray[k]!):=by simp[getElem!_pos,hlt]
   generalize l.toArray[k]! =xv at*
   obtain⟨fn,tmps,assign,body,hy,hRd⟩:=HY.out k (k,xv) wr ⟨rfl,hx⟩ HRk.out
   simp only at hy
   have q1:(k:Int)<(l.length:Int):=by omega
   have k0:(0:Int)≤(k:Int):=by omega
   have k1:(k:Int)+1≤9223372036854775807:=by omega
   have HX:Hid _:=hx
   clear hu hu2 hb hx y1
   gi_wp2
   refine hRd.mono ?_
   rintro e W6 (⟨rfl,hR6,hk6,_⟩|⟨rfl,hx6⟩)
   ·have K6:Hid (Keeps Sx W1 W6):=HQ.out.trans hk6
    clear hk6
    gi_wp2
    go_roundw
    case rel=>exact⟨k+1,by omega,by go_num,hR6,K6.out⟩
    case measure=>simp[natOf];omega
   ·gi_wp2
    refine bodyPost_ret (results_none rfl _ _ _) rfl ?_
    exact⟨⟨_,rfl⟩,.inr hx6⟩
  ·have hk:k=l.length:=by omega
   have q1:¬(k:Int)<(l.length:Int):=by omega
   have HE:Hid (R l.length wr):=by have:=HRk.out;rw[hk] at this;exact this
   clear hk
   gi_wp2
   refine bodyPost_end (results_none rfl _ _ _) rfl ?_
   exact⟨⟨_,rfl⟩,.inl HE.out⟩
end Go.Proofs.YtfaflomephjkgaaGreatDoor.Rd
namespace Go.Proofs.YtfaflomephjkgaaGreatDoor.Rd
open Go.RowKit Go.Shelf Go.Lib
attribute [local go_sem] Oper.semAt_some
def Fs (w:World) (o:Option Addr) (fs:List Int):Prop:=fs≠[]→∃ b off,o=some ⟨b,off,none⟩∧b<w.heap.size∧∀ (i:Nat) f,fs[i]? =some f→w.cell? ⟨b,off+i,none⟩=some (.int .i64 f)
theorem Fs.but {S:Nat→Prop} {w w':World} {o:Option Addr} {fs:List Int} (h:Fs w o fs) (hb:But S w w') (hs:∀ a,o=some a→¬S a.block):Fs w' o fs:=by
 intro hne
 obtain⟨b,off,e,hl,hc⟩:=h hne
 exact⟨b,off,e,Nat.lt_of_lt_of_le hl hb.size,fun i f hi=>(World.cell?_of_block (a:=⟨b,off+i,none⟩) (hb.block b hl (hs _ e))).trans (hc i f hi)⟩
theorem Fs.below {w w':World} {o:Option Addr} {fs:List Int} (h:Fs w o fs) (hb:Below w.heap.size w w'):Fs w' o fs:=
 h.but (S:=fun _=>False) (But.of_below hb) (fun _ _ h=>h)
structure SJ (s:St) (fs:List Int) (fo:Option Addr) (fc d b m:Nat) (w:World) (k:Nat) (W:World):Prop where
 dev:Dev W d b m { s with tx:=wkTx s fs k }
 pd:W.heap[w.heap.size]? =some (.cells #[pt d] 25 (0,0))
 pf:W.heap[w.heap.size+1]? =some (.cells #[.slice fo fs.length fc] 110 (0,0))
 fs:Fs W fo fs
 but:But (fun k=>k=b) w W
theorem field_wr (t:ByteArray) (w:World):(Instr.field 113 (.agg #[.string t]) 0).run Tryz.prog w=.ok (.string t) w:=by
 simp[Instr.field,run_underlying Tryz.underlying113,part,asAgg,go_sem]
theorem cell_kz {b:Nat} {A B:World} (hk:Kz b A B) {a:Addr} {v:Value} (h:A.cell? a=some v):B.cell? a=some v:=by
 obtain⟨o,ho,hc⟩:=cells_of_cell h
 exact(World.cell?_of_block ((hk.2 _ o ho hc).trans ho.symm)).trans h
theorem SJ.kz {s:St} {fs:List Int} {fo:Option Addr} {fc d b m:Nat} {w:World} {k c:Nat} {A B:World} (h:SJ s fs fo fc d b m w k A) (hk:Kz c A B) (hw:w.heap.size≤c) (hm:m<c):SJ s fs fo fc d b m w k B:=by
 obtain⟨h1,h2,h3,h4,h5⟩:=h
 obtain⟨cs,r1,r2⟩:=h1.row
 refine⟨⟨hk.2 _ _ h1.self rfl,⟨cs,hk.2 _ _ r1 rfl,r2⟩,h1.map.same (hk.1.block m hm),h1.db,h1.dm,h1.bm⟩,hk.2 _ _ h2 rfl,hk.2 _ _ h3 rfl,fun hne=>?_,⟨hk.1.os.trans h5.os,hk.1.tape.trans h5.tape,hk.1.output.trans h5.output,Nat.le_trans h5.size hk.1.size,fun j hj hb=>(hk.1.block j (by omega)).trans (h5.block j hj hb)⟩⟩
 obtain⟨b',off,e,hl,hc⟩:=h4 hne
 exact⟨b',off,e,Nat.lt_of_lt_of_le hl hk.1.size,fun i f hi=>cell_kz hk (hc i f hi)⟩
theorem RowOf.below {w w':World} {base B:Nat} {v:Value} {l:List Nat} (h:RowOf w base v l) (hb:Below B w w') (hB:w.heap.size≤B):RowOf w' base v l:=by
 rcases h with h|⟨g,cap,e,h1,hu⟩
 ·exact .inl h
 ·exact .inr ⟨g,cap,e,h1,hu.same (hb.block g (by have:=hu.lt;omega))⟩
theorem settle_in (N:Nat) (hN:N≤4096) (hS:Sorts N) (d b m:Nat) (s:St) (fs:List Int) (fo:Option Addr) (fc:Nat) (w:World) (h:Dev w d b m s) (hk:Ok s) (hc:∀ l,AllKeys s.pd l→l.length≤N) (hf:Fs w fo fs) (hfb:fs≠[]→∀ a,fo=some a→¬Dv d b m a.block):
  CallsIn Fence.wide 5 Tryz.prog 87 #[pt d,.slice fo fs.length fc] w fun e w'=>e=.returned (.tuple #[])∧Dev w' d b m { s with tx:=wakeTx s fs,pd:=fun _=>none }∧But (Dv d b m) w w':=by
 have HS:Hid (Sorts N):=hS
 have HC:Hid (∀ l,AllKeys s.pd l→l.length≤N):=hc
 have HD:Hid (Dev w d b m s):=h
 have HK:Hid (Ok s):=hk
 have HF:Hid (Fs w fo fs):=hf
 have HFB:Hid _:=hfb
 clear h hk hS hc hf hfb
 refine callsIn_of_wp_marks Tryz.func87 rfl trivial ?_ rfl
 simp only[Tryz.ntmps87,List.size_toArray,List.length_cons,List.length_nil,Nat.reduceAdd,Nat.reduceSub,Array.replicate_succ,Array.replicate_zero,List.push_toArray,List.append_toArray,List.nil_append,List.cons_append]
 gi_wp2
 refine(wpIn_wide (n:=5)).2 (wp_scope_straight ((wpIn_wide (n:=5)).1 ?_))
 gi_wp2
 refine wpIn_label ?_
 have h2:=two_new w (.cells #[pt d] 25) (.cells #[.slice fo fs.length fc] 110)
 have e3:((w.alloc (.cells #[pt d] 25)).alloc (.cells #[.slice fo fs.length fc] 110)).heap.size=w.heap.size+2:=by simp
 obtain⟨w2,hw2⟩:∃ w2,(w.alloc (.cells #[pt d] 25)).alloc (.cells #[.slice fo fs.length fc] 110)=w2:=⟨_,rfl⟩
 rw[hw2] at h2 e3 ⊢
 clear hw2
 obtain⟨x0,x1,B2⟩:=h2
 have c0:w2.cell? ⟨w.heap.size,0,none⟩=some (pt d):=by rw[cell_of_row _ _ _ _ _ _ x0];rfl
 have X0:Hid _:=x0
 have X1:Hid _:=x1
 have D2:Hid (Dev w2 d b m s):=HD.out.below B2 (Nat.le_refl _)
 clear x0 x1
 gi_wp2
 refine⟨trivial,callsIn_wide.2 ((rising_any N HS.out d b m s w2 D2.out HK.out HC.out).mono ?_)⟩
 rintro e w3 ⟨l,o,cap,mb,rfl,r1,r2,r3,r4,r5,r6⟩
 have HR1:Hid (Rising s.pd l):=r1
 have HR4:Hid _:=r4
 have HR5:Hid (RowOf w3 w2.heap.size (.slice o l.length cap) l):=r5
 have HR6:Hid (Below w2.heap.size w2 w3):=r6
 have Y0:Hid (w3.heap[w.heap.size]? =some (.cells #[pt d] 25 (0,0))):=(r6.block _ (by omega)).trans X0.out
 have Y1:Hid (w3.heap[w.heap.size+1]? =some (.cells #[.slice fo fs.length fc] 110 (0,0))):=(r6.block _ (by omega)).trans X1.out
 have B3:Hid (Below w.heap.size w w3):=B2.trans (r6.mono (by omega))
 have S3:=r6.size
 have SX:Hid (∀ a,o=some a→a.block<w3.heap.size∧w.heap.size≤a.block):=fun a ea=>by
  rcases r5 with⟨e,_⟩|⟨g,cap',e,hb,hu⟩
  ·simp only[Value.slice.injEq] at e;rw[e.1] at ea;cases ea
  ·simp only[Value.slice.injEq] at e;rw[e.1] at ea;cases ea;exact⟨hu.lt,by simp only;omega⟩
 obtain⟨hd0,hb0,hm0⟩:=HD.out.lt
 have hdb:=HD.out.db
 have hdm:=HD.out.dm
 have hbm:=HD.out.bm
 clear r1 r4 r5 r6 c0
 gi_wp2
 refine range_law7 rfl (by omega) (gf:=154) (lb:=#[.pointer (some ⟨mb,0,none⟩)]) rfl trivial (enters_of Tryz.func154 (by kernel_rfl) rfl)
  (ι:=Nat) (α:=Nat × Nat) (fun x=>#[.int .i64 (x.1:Int),.int .u32 (x.2:Int)]) (fun _=>rfl) (fun i _=>i+1) (fun i x=>x.1=i∧l[i]? =some x.2) (fun i=>i=l.length) 0 (fun j=>∃ a,o=some a∧a.block=j) ?hsx
  (fun k W=>SJ s fs fo fc d b m w k W) (fun W=>∃ k,fs.length≤k∧SJ s fs fo fc d b m w k W) (.exit 0) (fun k A B h hk=>?hJ) (fun A B h hk=>?hJx) ?h0
  (fun x a' _=>a'={ tmps:=#[pt d,Value.slice fo fs.length fc,Value.pointer (some ⟨w.heap.size,0,none⟩),Value.pointer (some ⟨w.heap.size+1,0,none⟩),.int .i64 (x.1:Int),.int .u32 (x.2:Int),undef,pt d,Value.func (Fn.func 154) #[] #[Value.pointer (some ⟨mb,0,none⟩)],.int .i64 (x.1:Int),.int .u32 (x.2:Int),undef,undef,undef,undef,undef,undef,undef,undef,undef,undef,undef,undef,undef,undef,undef,undef,undef,undef,undef,undef,undef,undef,undef,undef,undef,undef,undef,undef,undef,undef,undef,undef,undef,undef,undef,undef,undef,undef,undef,undef,undef,undef,undef,undef,undef,undef,undef,undef,undef,undef,undef,undef,undef,undef],defers:=[] }) (fun _ _ _ _ _ h _ _=>h) ?assign ?body ?iter ?done ?stop
 case hsx=>
  rintro⟨a,ea,e⟩
  have:=(SX.out a ea).1
  omega
 case hJ=>exact h.kz hk (by omega) (by omega)
 case hJx=>
  obtain⟨k,h1,h2⟩:=h
  exact⟨k,h1,h2.kz hk (by omega) (by omega)⟩
 case h0=>
  refine⟨?_,Y0.out,Y1.out,HF.out.below B3.out,But.of_below B3.out⟩
  rw[wkTx_zero]
  exact HD.out.below B3.out (Nat.le_refl _)
 case assign=>
  rintro p i ⟨i',x⟩ W K hk hJ hsz hK
  clear hJ hk
  gi_wp2
  exact hK _ _ (Below.refl _ _) rfl
 case iter=>
  intro p W1 hp hB1 hs1 R Rx hR hRx hRJ hY h0
  exact all1_in l (by omega) o cap mb p w2.heap.size W1 (fun j=>∃ a,o=some a∧a.block=j) w3.heap.size (fun a ea=>⟨a,ea,rfl⟩) ((hB1.block mb (by have:=(Array.getElem?_eq_some_iff.1 HR4.out).1;omega)).trans HR4.out) (RowOf.below HR5.out hB1 (Nat.le_refl _)) R Rx (fun i x W hok hr=>hY i x W hok hr) h0
 case body=>
  rintro p i ⟨i',x⟩ a' W ⟨hi,hx⟩ hJ rfl hsz
  simp only at hi hx
  subst hi
  have c2:W.cell? ⟨w.heap.size,0,none⟩=some (pt d):=by rw[cell_of_row _ _ _ _ _ _ hJ.pd];rfl
  have c3:W.cell? ⟨w.heap.size+1,0,none⟩=some (.slice fo fs.length fc):=by rw[cell_of_row _ _ _ _ _ _ hJ.pf];rfl
  have J:Hid (SJ s fs fo fc d b m w i' W):=hJ
  obtain⟨t,ht⟩:=Option.isSome_iff_exists.1 ((HR1.out.2 x).1 (List.mem_of_getElem? hx))
  obtain⟨hxn,htz⟩:=HK.out.pd x t ht
  obtain⟨hst,hol⟩:=wkTx_step s fs l HR1.out HK.out i' x t hx ht
  have HST:Hid _:=hst
  have k0:(0:Int)≤(i':Int):=by omega
  have HH:Hid (l[i']? =some x):=hx
  by_cases hif:i'<fs.length
  ·obtain⟨fb,off,rfl,hfl2,hfc⟩:=hJ.fs (by intro e;rw[e] at hif;simp at hif)
   obtain⟨f,hfi⟩:∃ f,fs[i']? =some f:=⟨_,List.getElem?_eq_getElem hif⟩
   have x3:=hfc i' f hfi
   have q1:¬(fs.length:Int)≤(i':Int):=by omega
   have q2:(i':Int)<(fs.length:Int):=by omega
   have HFI:Hid (fs[i']? =some f):=hfi
   have stay:kept fs i'=0→SJ s fs (some ⟨fb,off,none⟩) fc d b m w (i'+1) W:=fun hz=>by
    have e:wkTx s fs (i'+1)=wkTx s fs i':=by
     rw[hst,hz,torn_zero]
     funext q
     unfold at'
     split
     ·rename_i e;rw[e,hol]
     ·rfl
    exact⟨by rw[e];exact hJ.dev,hJ.pd,hJ.pf,hJ.fs,hJ.but⟩
   have STAY:Hid _:=stay
   have hfb':=HFB.out (fun h=>by rw[h] at hif;simp at hif) _ rfl
   obtain⟨c6,z6⟩:=hJ.dev.c6
   obtain⟨c7,z7⟩:=hJ.dev.c7
   obtain⟨e1,e2,y1,y2⟩:=hJ.dev.row.cells x hxn
   have hlk:(Instr.lookup 77 (.map (some m)) (.int .u32 (x:Int)) false).run Tryz.prog W.drew=_:=(hJ.dev.map.same (w':=W.drew) rfl).look x false
   have D4:Hid _:=hJ.dev
   simp only at c6 e1 e2 hlk
   rw[hol] at e1
   rw[ht] at hlk
   simp only[Option.getD_some,Bool.false_eq_true,if_false] at hlk
   have hoz:=HK.out.tx x hxn
   generalize s.tx x=old at*
   have qx:(x:Int)<(s.n:Int):=by omega
   have qx0:(0:Int)≤(x:Int):=by omega
   clear hJ hst hol ht hx hfc hfi stay
   by_cases hf1:f<1
   ·have HZ:Hid (kept fs i'=0):=by refine(?_:kept fs i'=0);unfold kept;rw[HFI.out];simp only;rw[if_neg (by omega)]
    gi_wp2
    exact⟨(KeepsOthers.refl W).from _,Keeps.refl _ _,STAY.out HZ.out⟩
   ·by_cases hf4:4<f
    ·have HZ:Hid (kept fs i'=0):=by refine(?_:kept fs i'=0);unfold kept;rw[HFI.out];simp only;rw[if_neg (by omega)]
     gi_wp2
     exact⟨(KeepsOthers.refl W).from _,Keeps.refl _ _,STAY.out HZ.out⟩
    ·obtain⟨k,hkk⟩:∃ k:Nat,(f*64).toNat=k:=⟨_,rfl⟩
     have hk1:f*64=(k:Int):=by omega
     have hk2:k≤256:=by omega
     have HZ:Hid (kept fs i'=k):=by refine(?_:kept fs i'=k);unfold kept;rw[HFI.out];simp only;rw[if_pos (by omega),hkk]
     have hwr:IntKind.i64.wrap (f*64)=(k:Int):=by rw[IntWalk.i64_in _ (by omega),hk1]
     clear hkk hk1
     have hk3:k≤t.size:=by omega
     have hk4:k≤old.size:=by omega
     have hfw:=field_wr t
     gi_wp2
     have HSW:Hid (W.drew.cell? ⟨w.heap.size,0,none⟩=some (pt d)∧W.drew.cell? ⟨d,6,none⟩=some (.slice (some ⟨b,0,none⟩) s.n s.n)∧W.drew.cell? ⟨d,7,none⟩=some (.map (some m))∧W.drew.cell? ⟨b,x*2,none⟩=some (.string old)∧
      (Instr.lookup 77 (.map (some m)) (.int .u32 (x:Int)) false).run Tryz.prog W.drew=.ok (.agg #[.string t]) W.drew):=⟨c2,c6,c7,e1,hlk⟩
     refine region_last (z:=27) (S:=fun u=>u.cell? ⟨w.heap.size,0,none⟩=some (pt d)∧u.cell? ⟨d,6,none⟩=some (.slice (some ⟨b,0,none⟩) s.n s.n)∧u.cell? ⟨d,7,none⟩=some (.map (some m))∧u.cell? ⟨b,x*2,none⟩=some (.string old)∧
      (Instr.lookup 77 (.map (some m)) (.int .u32 (x:Int)) false).run Tryz.prog u=.ok (.agg #[.string t]) u) (by kernel_rfl) (by kernel_rfl) ?lets ?_
     case lets=>
      rintro⟨a,u,h⟩
      exact h
     change wpLast _ _ _ _ _ _ 28 _ _ _
     clear c2 c3 c6 c7 e1 hlk
     have hk5:(k:Int)≤256:=by omega
     obtain⟨ta,hta⟩:∃ ta,t.extract 0 k=ta:=⟨_,rfl⟩
     obtain⟨tb,htb⟩:∃ tb,old.extract k 256=tb:=⟨_,rfl⟩
     have hla:¬9223372036854775807<ta.size+tb.size:=by rw[←hta,←htb,ByteArray.size_extract,ByteArray.size_extract];omega
     refine wpLast_take (i:=0) (v:=?_) (by kernel_rfl) rfl (by kernel_rfl) (by kernel_rfl) (by kernel_rfl) (fun _ _ _ h=>h) (Or.inl ⟨by kernel_rfl,?_⟩) HSW.out ?_
     rotate_left
     ·intro w hS
      obtain⟨s1,s2,s3,s4,s5⟩:=hS
      go_simp
      try with_reducible rfl
     conv in(Act.put _ _ _)=>simp only[List.getElem_toArray,List.getElem_cons_succ,List.getElem_cons_zero,Act.put,List.setIfInBounds_toArray,List.set_cons_succ,List.set_cons_zero]
     refine wpLast_take (i:=1) (v:=?_) (by kernel_rfl) rfl (by kernel_rfl) (by kernel_rfl) (by kernel_rfl) (fun _ _ _ h=>h) (Or.inl ⟨by kernel_rfl,?_⟩) HSW.out ?_
     rotate_left
     ·intro w hS
      obtain⟨s1,s2,s3,s4,s5⟩:=hS
      go_simp
      try with_reducible rfl
     conv in(Act.put _ _ _)=>simp only[List.getElem_toArray,List.getElem_cons_succ,List.getElem_cons_zero,Act.put,List.setIfInBounds_toArray,List.set_cons_succ,List.set_cons_zero]
     refine wpLast_take (i:=2) (v:=?_) (by kernel_rfl) rfl (by kernel_rfl) (by kernel_rfl) (by kernel_rfl) (fun _ _ _ h=>h) (Or.inl ⟨by kernel_rfl,?_⟩) HSW.out ?_
     rotate_left
     ·intro w hS
      obtain⟨s1,s2,s3,s4,s5⟩:=hS
      go_simp
      try with_reducible rfl
     conv in(Act.put _ _ _)=>simp only[List.getElem_toArray,List.getElem_cons_succ,List.getElem_cons_zero,Act.put,List.setIfInBounds_toArray,List.set_cons_succ,List.set_cons_zero]
     refine wpLast_take (i:=3) (v:=?_) (by kernel_rfl) rfl (by kernel_rfl) (by kernel_rfl) (by kernel_rfl) (fun _ _ _ h=>h) (Or.inl ⟨by kernel_rfl,?_⟩) HSW.out ?_
     rotate_left
     ·intro w hS
      obtain⟨s1,s2,s3,s4,s5⟩:=hS
      go_simp
      try with_reducible rfl
     conv in(Act.put _ _ _)=>simp only[List.getElem_toArray,List.getElem_cons_succ,List.getElem_cons_zero,Act.put,List.setIfInBounds_toArray,List.set_cons_succ,List.set_cons_zero]
     refine wpLast_take (i:=4) (v:=?_) (by kernel_rfl) rfl (by kernel_rfl) (by kernel_rfl) (by kernel_rfl) (fun _ _ _ h=>h) (Or.inl ⟨by kernel_rfl,?_⟩) HSW.out ?_
     rotate_left
     ·intro w hS
      obtain⟨s1,s2,s3,s4,s5⟩:=hS
      go_simp
      try with_reducible rfl
     conv in(Act.put _ _ _)=>simp only[List.getElem_toArray,List.getElem_cons_succ,List.getElem_cons_zero,Act.put,List.setIfInBounds_toArray,List.set_cons_succ,List.set_cons_zero]
     refine wpLast_take (i:=5) (v:=?_) (by kernel_rfl) rfl (by kernel_rfl) (by kernel_rfl) (by kernel_rfl) (fun _ _ _ h=>h) (Or.inl ⟨by kernel_rfl,?_⟩) HSW.out ?_
     rotate_left
     ·intro w hS
      obtain⟨s1,s2,s3,s4,s5⟩:=hS
      go_simp
      try with_reducible rfl
     conv in(Act.put _ _ _)=>simp only[List.getElem_toArray,List.getElem_cons_succ,List.getElem_cons_zero,Act.put,List.setIfInBounds_toArray,List.set_cons_succ,List.set_cons_zero]
     refine wpLast_take (i:=6) (v:=?_) (by kernel_rfl) rfl (by kernel_rfl) (by kernel_rfl) (by kernel_rfl) (fun _ _ _ h=>h) (Or.inl ⟨by kernel_rfl,?_⟩) HSW.out ?_
     rotate_left
     ·intro w hS
      obtain⟨s1,s2,s3,s4,s5⟩:=hS
      go_simp
      try with_reducible rfl
     conv in(Act.put _ _ _)=>simp only[List.getElem_toArray,List.getElem_cons_succ,List.getElem_cons_zero,Act.put,List.setIfInBounds_toArray,List.set_cons_succ,List.set_cons_zero]
     refine wpLast_take (i:=7) (v:=?_) (by kernel_rfl) rfl (by kernel_rfl) (by kernel_rfl) (by kernel_rfl) (fun _ _ _ h=>h) (Or.inl ⟨by kernel_rfl,?_⟩) HSW.out ?_
     rotate_left
     ·intro w hS
      obtain⟨s1,s2,s3,s4,s5⟩:=hS
      go_simp
      try with_reducible rfl
     conv in(Act.put _ _ _)=>simp only[List.getElem_toArray,List.getElem_cons_succ,List.getElem_cons_zero,Act.put,List.setIfInBounds_toArray,List.set_cons_succ,List.set_cons_zero]
     refine wpLast_take (i:=8) (v:=?_) (by kernel_rfl) rfl (by kernel_rfl) (by kernel_rfl) (by kernel_rfl) (fun _ _ _ h=>h) (Or.inl ⟨by kernel_rfl,?_⟩) HSW.out ?_
     rotate_left
     ·intro w hS
      obtain⟨s1,s2,s3,s4,s5⟩:=hS
      go_simp
      try with_reducible rfl
     conv in(Act.put _ _ _)=>simp only[List.getElem_toArray,List.getElem_cons_succ,List.getElem_cons_zero,Act.put,List.setIfInBounds_toArray,List.set_cons_succ,List.set_cons_zero]
     refine wpLast_take (i:=9) (v:=?_) (by kernel_rfl) rfl (by kernel_rfl) (by kernel_rfl) (by kernel_rfl) (fun _ _ _ h=>h) (Or.inl ⟨by kernel_rfl,?_⟩) HSW.out ?_
     rotate_left
     ·intro w hS
      obtain⟨s1,s2,s3,s4,s5⟩:=hS
      go_simp
      try with_reducible rfl
     conv in(Act.put _ _ _)=>simp only[List.getElem_toArray,List.getElem_cons_succ,List.getElem_cons_zero,Act.put,List.setIfInBounds_toArray,List.set_cons_succ,List.set_cons_zero]
     refine wpLast_take (i:=10) (v:=?_) (by kernel_rfl) rfl (by kernel_rfl) (by kernel_rfl) (by kernel_rfl) (fun _ _ _ h=>h) (Or.inl ⟨by kernel_rfl,?_⟩) HSW.out ?_
     rotate_left
     ·intro w hS
      obtain⟨s1,s2,s3,s4,s5⟩:=hS
      go_simp
      try with_reducible rfl
     conv in(Act.put _ _ _)=>simp only[List.getElem_toArray,List.getElem_cons_succ,List.getElem_cons_zero,Act.put,List.setIfInBounds_toArray,List.set_cons_succ,List.set_cons_zero]
     refine wpLast_take (i:=11) (v:=?_) (by kernel_rfl) rfl (by kernel_rfl) (by kernel_rfl) (by kernel_rfl) (fun _ _ _ h=>h) (Or.inl ⟨by kernel_rfl,?_⟩) HSW.out ?_
     rotate_left
     ·intro w hS
      obtain⟨s1,s2,s3,s4,s5⟩:=hS
      go_simp
      try with_reducible rfl
     conv in(Act.put _ _ _)=>simp only[List.getElem_toArray,List.getElem_cons_succ,List.getElem_cons_zero,Act.put,List.setIfInBounds_toArray,List.set_cons_succ,List.set_cons_zero]
     refine wpLast_take (i:=12) (v:=?_) (by kernel_rfl) rfl (by kernel_rfl) (by kernel_rfl) (by kernel_rfl) (fun _ _ _ h=>h) (Or.inl ⟨by kernel_rfl,?_⟩) HSW.out ?_
     rotate_left
     ·intro w hS
      obtain⟨s1,s2,s3,s4,s5⟩:=hS
      go_simp
      try with_reducible rfl
     conv in(Act.put _ _ _)=>simp only[List.getElem_toArray,List.getElem_cons_succ,List.getElem_cons_zero,Act.put,List.setIfInBounds_toArray,List.set_cons_succ,List.set_cons_zero]
     refine wpLast_take (i:=13) (v:=?_) (by kernel_rfl) rfl (by kernel_rfl) (by kernel_rfl) (by kernel_rfl) (fun _ _ _ h=>h) (Or.inl ⟨by kernel_rfl,?_⟩) HSW.out ?_
     rotate_left
     ·intro w hS
      obtain⟨s1,s2,s3,s4,s5⟩:=hS
      go_simp
      try with_reducible rfl
     conv in(Act.put _ _ _)=>simp only[List.getElem_toArray,List.getElem_cons_succ,List.getElem_cons_zero,Act.put,List.setIfInBounds_toArray,List.set_cons_succ,List.set_cons_zero]
     refine wpLast_take (i:=14) (v:=?_) (by kernel_rfl) rfl (by kernel_rfl) (by kernel_rfl) (by kernel_rfl) (fun _ _ _ h=>h) (Or.inl ⟨by kernel_rfl,?_⟩) HSW.out ?_
     rotate_left
     ·intro w hS
      obtain⟨s1,s2,s3,s4,s5⟩:=hS
      go_simp
      try with_reducible rfl
     conv in(Act.put _ _ _)=>simp only[List.getElem_toArray,List.getElem_cons_succ,List.getElem_cons_zero,Act.put,List.setIfInBounds_toArray,List.set_cons_succ,List.set_cons_zero]
     refine wpLast_take (i:=15) (v:=?_) (by kernel_rfl) rfl (by kernel_rfl) (by kernel_rfl) (by kernel_rfl) (fun _ _ _ h=>h) (Or.inl ⟨by kernel_rfl,?_⟩) HSW.out ?_
     rotate_left
     ·intro w hS
      obtain⟨s1,s2,s3,s4,s5⟩:=hS
      go_simp
      try with_reducible rfl
     conv in(Act.put _ _ _)=>simp only[List.getElem_toArray,List.getElem_cons_succ,List.getElem_cons_zero,Act.put,List.setIfInBounds_toArray,List.set_cons_succ,List.set_cons_zero]
     refine wpLast_take (i:=16) (v:=?_) (by kernel_rfl) rfl (by kernel_rfl) (by kernel_rfl) (by kernel_rfl) (fun _ _ _ h=>h) (Or.inl ⟨by kernel_rfl,?_⟩) HSW.out ?_
     rotate_left
     ·intro w hS
      obtain⟨s1,s2,s3,s4,s5⟩:=hS
      go_simp
      try with_reducible rfl
     conv in(Act.put _ _ _)=>simp only[List.getElem_toArray,List.getElem_cons_succ,List.getElem_cons_zero,Act.put,List.setIfInBounds_toArray,List.set_cons_succ,List.set_cons_zero]
     refine wpLast_take (i:=17) (v:=?_) (by kernel_rfl) rfl (by kernel_rfl) (by kernel_rfl) (by kernel_rfl) (fun _ _ _ h=>h) (Or.inl ⟨by kernel_rfl,?_⟩) HSW.out ?_
     rotate_left
     ·intro w hS
      obtain⟨s1,s2,s3,s4,s5⟩:=hS
      go_simp
      try with_reducible rfl
     conv in(Act.put _ _ _)=>simp only[List.getElem_toArray,List.getElem_cons_succ,List.getElem_cons_zero,Act.put,List.setIfInBounds_toArray,List.set_cons_succ,List.set_cons_zero]
     refine wpLast_take (i:=18) (v:=?_) (by kernel_rfl) rfl (by kernel_rfl) (by kernel_rfl) (by kernel_rfl) (fun _ _ _ h=>h) (Or.inl ⟨by kernel_rfl,?_⟩) HSW.out ?_
     rotate_left
     ·intro w hS
      obtain⟨s1,s2,s3,s4,s5⟩:=hS
      go_simp
      try with_reducible rfl
     conv in(Act.put _ _ _)=>simp only[List.getElem_toArray,List.getElem_cons_succ,List.getElem_cons_zero,Act.put,List.setIfInBounds_toArray,List.set_cons_succ,List.set_cons_zero]
     refine wpLast_take (i:=19) (v:=?_) (by kernel_rfl) rfl (by kernel_rfl) (by kernel_rfl) (by kernel_rfl) (fun _ _ _ h=>h) (Or.inl ⟨by kernel_rfl,?_⟩) HSW.out ?_
     rotate_left
     ·intro w hS
      obtain⟨s1,s2,s3,s4,s5⟩:=hS
      go_simp
      try with_reducible rfl
     conv in(Act.put _ _ _)=>simp only[List.getElem_toArray,List.getElem_cons_succ,List.getElem_cons_zero,Act.put,List.setIfInBounds_toArray,List.set_cons_succ,List.set_cons_zero]
     refine wpLast_take (i:=20) (v:=?_) (by kernel_rfl) rfl (by kernel_rfl) (by kernel_rfl) (by kernel_rfl) (fun _ _ _ h=>h) (Or.inl ⟨by kernel_rfl,?_⟩) HSW.out ?_
     rotate_left
     ·intro w hS
      obtain⟨s1,s2,s3,s4,s5⟩:=hS
      go_simp
      try with_reducible rfl
     conv in(Act.put _ _ _)=>simp only[List.getElem_toArray,List.getElem_cons_succ,List.getElem_cons_zero,Act.put,List.setIfInBounds_toArray,List.set_cons_succ,List.set_cons_zero]
     refine wpLast_take (i:=21) (v:=?_) (by kernel_rfl) rfl (by kernel_rfl) (by kernel_rfl) (by kernel_rfl) (fun _ _ _ h=>h) (Or.inl ⟨by kernel_rfl,?_⟩) HSW.out ?_
     rotate_left
     ·intro w hS
      obtain⟨s1,s2,s3,s4,s5⟩:=hS
      go_simp
      try with_reducible rfl
     conv in(Act.put _ _ _)=>simp only[List.getElem_toArray,List.getElem_cons_succ,List.getElem_cons_zero,Act.put,List.setIfInBounds_toArray,List.set_cons_succ,List.set_cons_zero]
     refine wpLast_take (i:=22) (v:=?_) (by kernel_rfl) rfl (by kernel_rfl) (by kernel_rfl) (by kernel_rfl) (fun _ _ _ h=>h) (Or.inl ⟨by kernel_rfl,?_⟩) HSW.out ?_
     rotate_left
     ·intro w hS
      obtain⟨s1,s2,s3,s4,s5⟩:=hS
      go_simp
      try with_reducible rfl
     conv in(Act.put _ _ _)=>simp only[List.getElem_toArray,List.getElem_cons_succ,List.getElem_cons_zero,Act.put,List.setIfInBounds_toArray,List.set_cons_succ,List.set_cons_zero]
     refine wpLast_take (i:=23) (v:=?_) (by kernel_rfl) rfl (by kernel_rfl) (by kernel_rfl) (by kernel_rfl) (fun _ _ _ h=>h) (Or.inl ⟨by kernel_rfl,?_⟩) HSW.out ?_
     rotate_left
     ·intro w hS
      obtain⟨s1,s2,s3,s4,s5⟩:=hS
      go_simp
      try with_reducible rfl
     conv in(Act.put _ _ _)=>simp only[List.getElem_toArray,List.getElem_cons_succ,List.getElem_cons_zero,Act.put,List.setIfInBounds_toArray,List.set_cons_succ,List.set_cons_zero]
     refine wpLast_take (i:=24) (v:=?_) (by kernel_rfl) rfl (by kernel_rfl) (by kernel_rfl) (by kernel_rfl) (fun _ _ _ h=>h) (Or.inl ⟨by kernel_rfl,?_⟩) HSW.out ?_
     rotate_left
     ·intro w hS
      obtain⟨s1,s2,s3,s4,s5⟩:=hS
      go_simp
      try with_reducible rfl
     conv in(Act.put _ _ _)=>simp only[List.getElem_toArray,List.getElem_cons_succ,List.getElem_cons_zero,Act.put,List.setIfInBounds_toArray,List.set_cons_succ,List.set_cons_zero]
     refine wpLast_one (i:=25) (v:=?_) rfl (by kernel_rfl) (Or.inl ⟨by kernel_rfl,?_⟩) HSW.out ?_
     rotate_left
     ·intro w hS
      obtain⟨s1,s2,s3,s4,s5⟩:=hS
      go_simp
      try with_reducible rfl
     conv in(Act.put _ _ _)=>simp only[List.getElem_toArray,List.getElem_cons_succ,List.getElem_cons_zero,Act.put,List.setIfInBounds_toArray,List.set_cons_succ,List.set_cons_zero]
     refine wpLast_one (i:=26) (v:=?_) rfl (by kernel_rfl) (Or.inl ⟨by kernel_rfl,?_⟩) HSW.out ?_
     rotate_left
     ·intro w hS
      obtain⟨s1,s2,s3,s4,s5⟩:=hS
      go_simp
      try with_reducible rfl
     conv in(Act.put _ _ _)=>simp only[List.getElem_toArray,List.getElem_cons_succ,List.getElem_cons_zero,Act.put,List.setIfInBounds_toArray,List.set_cons_succ,List.set_cons_zero]
     refine wpLast_end rfl (by kernel_rfl) (by kernel_rfl) (by kernel_rfl) ?_
     unfold Oper.wp
     have y1d:W.drew.frozen? ⟨b,x*2,none⟩=false:=y1
     have e1d:=HSW.out.2.2.2.1
     go_simp
     show lPost7 w3.heap.size (fun j=>∃ a,o=some a∧a.block=j) (fun W=>SJ s fs (some ⟨fb,off,none⟩) fc d b m w (i'+1) W) _ _ W Exit.normal _ _
     have hnew:ta++tb=torn t old (kept fs i'):=by rw[HZ.out,←hta,←htb];unfold torn;rw[hoz]
     have hB:But (fun k=>k=b) W (W.setCell ⟨b,x*2,none⟩ (.string (ta++tb))).drew:=(But.set (S:=fun k=>k=b) W b (x*2) _ rfl).trans ⟨rfl,rfl,rfl,Nat.le_refl _,fun _ _ _=>rfl⟩
     have hj:=J.out
     refine⟨((KeepsOthers.setCell W ⟨b,x*2,none⟩ _).trans (KeepsOthers.drew _)).from _,⟨hB.size,fun j hj hl=>?_⟩,⟨⟨?_,?_,?_,hdb,hdm,hbm⟩,?_,?_,?_,?_⟩⟩
     ·obtain⟨a,ea,e⟩:=hj
      exact hB.block j hl (by have:=(SX.out a ea).2;omega)
     ·exact(hB.block d hj.dev.lt.1 hdb).trans hj.dev.self
     ·have hr:=hj.dev.row.setText x hxn (ta++tb)
      show Row (W.setCell ⟨b,x*2,none⟩ (.string (ta++tb))).drew b s.n (wkTx s fs (i'+1)) s.bad
      rw[HST.out,←hnew]
      exact hr
     ·exact hj.dev.map.same (hB.block m hj.dev.lt.2.2 (Ne.symm hbm))
     ·exact(hB.block _ (Array.getElem?_eq_some_iff.1 hj.pd).1 (by omega)).trans hj.pd
     ·exact(hB.block _ (Array.getElem?_eq_some_iff.1 hj.pf).1 (by omega)).trans hj.pf
     ·exact hj.fs.but hB fun a ea e=>by cases ea;exact hfb' (.inr (.inl e))
     ·exact hj.but.trans hB
  ·have q1:(fs.length:Int)≤(i':Int):=by omega
   have q2:¬(i':Int)<(fs.length:Int):=by omega
   clear hJ hst hol ht hx
   gi_wp2
   exact⟨rfl,(KeepsOthers.refl W).from _,i',by omega,J.out⟩
 case done=>
  rintro D i W hD rfl hJ hK
  have hw:=wkTx_all s fs l HR1.out HK.out l.length (.inl rfl)
  have c2:W.cell? ⟨w.heap.size,0,none⟩=some (pt d):=by rw[cell_of_row _ _ _ _ _ _ hJ.pd];rfl
  obtain⟨c7,z7⟩:=hJ.dev.c7
  obtain⟨w4,hcl,pm4,b4,z4⟩:=hJ.dev.map.clear 0
  have HJ:Hid (SJ s fs fo fc d b m w l.length W):=hJ
  have HK2:Hid _:=hK
  have HW:Hid _:=hw
  have PM4:Hid _:=pm4
  have B4:Hid _:=b4
  clear hJ hK hw pm4 b4
  gi_wp2
  have hb4:=B4.out
  have hD4:w4.heap[D]? =some (.deferred (some [])):=(hb4.block D (Array.getElem?_eq_some_iff.1 HK2.out).1 (by omega)).trans HK2.out
  refine⟨by simp,.inl ⟨_,_,rfl,run_takeDeferred hD4,?_⟩⟩
  have hj:=HJ.out
  have hp:∀ k,k≠D→(w4.putObj D (.deferred none)).heap[k]? =w4.heap[k]? :=fun k hk=>World.putObj_heap_other hk
  refine⟨_,results_none rfl _ _ _,rfl,⟨?_,?_,?_,hdb,hdm,hbm⟩,?_⟩
  ·exact(hp d (by omega)).trans ((hb4.block d hj.dev.lt.1 hdm).trans hj.dev.self)
  ·show Row _ b s.n (wakeTx s fs) s.bad
   rw[←HW.out]
   exact Row.same (hj.dev.row.same (hb4.block b hj.dev.lt.2.1 hbm)) (hp b (by omega))
  ·exact Pm.same PM4.out (hp m (by omega))
  ·have h1:But (Dv d b m) w w4:=(hj.but.more fun k e=>.inr (.inl e)).trans (hb4.more fun k e=>.inr (.inr e))
   exact⟨h1.os,h1.tape,h1.output,by simpa [World.putObj] using h1.size,fun k hk hn=>(hp k (by omega)).trans (h1.block k hk hn)⟩
 case stop=>
  rintro D W hD ⟨k,hk1,hJ⟩ hK
  have hw:=wkTx_all s fs l HR1.out HK.out k (.inr hk1)
  have c2:W.cell? ⟨w.heap.size,0,none⟩=some (pt d):=by rw[cell_of_row _ _ _ _ _ _ hJ.pd];rfl
  obtain⟨c7,z7⟩:=hJ.dev.c7
  obtain⟨w4,hcl,pm4,b4,z4⟩:=hJ.dev.map.clear 0
  have HJ:Hid (SJ s fs fo fc d b m w k W):=hJ
  have HK2:Hid _:=hK
  have HW:Hid _:=hw
  have PM4:Hid _:=pm4
  have B4:Hid _:=b4
  clear hJ hK hw pm4 b4
  gi_wp2
  have hb4:=B4.out
  have hD4:w4.heap[D]? =some (.deferred (some [])):=(hb4.block D (Array.getElem?_eq_some_iff.1 HK2.out).1 (by omega)).trans HK2.out
  refine⟨by simp,.inl ⟨_,_,rfl,run_takeDeferred hD4,?_⟩⟩
  have hj:=HJ.out
  have hp:∀ k2,k2≠D→(w4.putObj D (.deferred none)).heap[k2]? =w4.heap[k2]? :=fun k2 hk=>World.putObj_heap_other hk
  refine⟨_,results_none rfl _ _ _,rfl,⟨?_,?_,?_,hdb,hdm,hbm⟩,?_⟩
  ·exact(hp d (by omega)).trans ((hb4.block d hj.dev.lt.1 hdm).trans hj.dev.self)
  ·show Row _ b s.n (wakeTx s fs) s.bad
   rw[←HW.out]
   exact Row.same (hj.dev.row.same (hb4.block b hj.dev.lt.2.1 hbm)) (hp b (by omega))
  ·exact Pm.same PM4.out (hp m (by omega))
  ·have h1:But (Dv d b m) w w4:=(hj.but.more fun k2 e=>.inr (.inl e)).trans (hb4.more fun k2 e=>.inr (.inr e))
   exact⟨h1.os,h1.tape,h1.output,by simpa [World.putObj] using h1.size,fun k2 hk hn=>(hp k2 (by omega)).trans (h1.block k2 hk hn)⟩
theorem wake_fs (N:Nat) (hN:N≤4096) (hS:Sorts N) (d b m:Nat) (s:St) (fs:List Int) (fo:Option Addr) (fc:Nat) (w:World) (h:Dev w d b m s) (hk:Ok s) (hc:∀ l,AllKeys s.pd l→l.length≤N) (hf:Fs w fo fs) (hfb:fs≠[]→∀ a,fo=some a→¬Dv d b m a.block):
  Calls Tryz.prog 64 #[pt d,.slice fo fs.length fc] w fun e w'=>e=.returned (.int .i64 0)∧Dev w' d b m (wakeS s fs)∧But (Dv d b m) w w':=by
 have H1:Hid _:=callsIn_wide.1 (settle_in N hN hS d b m s fs fo fc w h hk hc hf hfb)
 clear h hk hc hf hfb hS
 go_enter Tryz.func64,Tryz.ntmps64
 go_wp2_with fail
 refine Calls.mono H1.out ?_
 rintro e w1 ⟨rfl,d1,b1⟩
 have H2:Hid _:=back_any d b m _ w1 d1
 have B1:Hid _:=b1
 clear d1 b1 H1
 go_wp2_with fail
 refine Calls.mono H2.out ?_
 rintro e w2 ⟨rfl,d2,b2⟩
 have D2:Hid _:=d2
 have B2:Hid _:=b2
 clear d2 b2
 go_wp2_with fail
 go_ret
 exact⟨rfl,D2.out,B1.out.trans B2.out⟩
end Go.Proofs.YtfaflomephjkgaaGreatDoor.Rd
namespace Go.Proofs.YtfaflomephjkgaaGreatDoor.Rd
open Go.RowKit
theorem Rf.all {w:World} {r:Nat} {x:Rp} {s s':St} (h:Rf w r x s) (hn:s'.n=s.n) (h1:∀ i,i<s.n→s.tx i=s'.tx i) (h2:∀ i,i<s.n→pend s.pd i=pend s'.pd i) (h3:s'.bad=s.bad) (h4:rcells x s=rcells x s'):Rf w r x s':=
 ⟨by rw[←h4];exact h.self,by rw[hn];exact h.rl.ext h1,by rw[hn];exact h.rp.ext h2,by rw[hn,h3];exact h.rb,h.n1,h.n2,h.n3,h.n4,h.n5,h.n6⟩
def wkK (s:St) (fs:List Int) (k:Nat):St:={ s with tx:=fun i=>if i<k then wakeTx s fs i else s.tx i,pd:=fun i=>if i<k then none else s.pd i }
theorem wkK_zero (s:St) (fs:List Int):wkK s fs 0=s:=by cases s;simp[wkK]
theorem wkK_none (s:St) (fs:List Int) (k:Nat) (h:s.pd k=none):wkK s fs (k+1)=wkK s fs k:=by
 unfold wkK
 congr 1
 ·funext i
  by_cases h1:i<k
  ·rw[if_pos h1,if_pos (by omega)]
  ·by_cases h2:i=k
   ·subst h2;rw[if_pos (by omega),if_neg (by omega)];unfold wakeTx;rw[h]
   ·rw[if_neg (by omega),if_neg (by omega)]
 ·funext i
  by_cases h1:i<k
  ·rw[if_pos h1,if_pos (by omega)]
  ·by_cases h2:i=k
   ·subst h2;rw[if_pos (by omega),if_neg (by omega),h]
   ·rw[if_neg (by omega),if_neg (by omega)]
theorem wkK_some (s:St) (fs:List Int) (k:Nat) (t:ByteArray) (h:s.pd k=some t):wkK s fs (k+1)={ wkK s fs k with tx:=at' (wkK s fs k).tx k (wakeTx s fs k),pd:=put (wkK s fs k).pd k none }:=by
 unfold wkK
 congr 1
 ·funext i
  unfold at'
  by_cases h2:i=k
  ·subst h2;rw[if_pos (by omega),if_pos rfl]
  ·rw[if_neg h2]
   by_cases h1:i<k
   ·rw[if_pos (by omega)];simp[h1]
   ·rw[if_neg (by omega)];simp[h1]
 ·funext i
  unfold put
  by_cases h2:i=k
  ·subst h2;rw[if_pos (by omega),if_pos rfl]
  ·rw[if_neg h2]
   by_cases h1:i<k
   ·rw[if_pos (by omega)];simp[h1]
   ·rw[if_neg (by omega)];simp[h1]
theorem rank_le (f:Nat→Option ByteArray) (k:Nat):rank f k≤k:=by
 unfold rank
 refine Nat.le_trans (List.length_filter_le _ _) ?_
 simp
theorem rwake_any (r:Nat) (x:Rp) (s:St) (fs:List Int) (fo:Option Addr) (fc:Nat) (w:World) (h:Rf w r x s) (hk:Ok s) (hf:Fs w fo fs) (hfb:fs≠[]→∀ a,fo=some a→¬Rv r x a.block):
  Calls Tryz.prog 63 #[pt r,.slice fo fs.length fc] w fun e w'=>e=.returned (.tuple #[])∧Rf w' r x (wakeS s fs)∧But (Rv r x) w w':=by
 have HD:Hid (Rf w r x s):=h
 have HK:Hid (Ok s):=hk
 have HFS:Hid _:=hf
 have HFB:Hid _:=hfb
 have n1:=hk.n1
 clear h hk hf hfb
 go_enter Tryz.func63,Tryz.ntmps63
 go_wp2_with fail
 go_loopw [4,5] (fun kv iv wr=>∃ (k c:Nat),iv=.int .i64 (k:Int)∧kv=.int .i64 (c:Int)∧k≤s.n∧c=rank s.pd k∧Rf wr r x (wkK s fs k)∧But (Rv r x) w wr∧Fs wr fo fs) (fun _ iv _=>s.n - natOf iv)
 case atStart=>exact⟨0,0,rfl,rfl,by omega,rfl,by rw[wkK_zero];exact HD.out,But.refl _ _,HFS.out⟩
 case round=>
  obtain⟨k,c,rfl,rfl,hkn,hcr,hf,hb,hfs⟩:=hrel
  obtain⟨c0,z0⟩:wr.cell? ⟨r,0,none⟩=some (.slice (some ⟨x.l,0,none⟩) s.n x.lc)∧_:=hf.c0
  obtain⟨c1,z1⟩:wr.cell? ⟨r,1,none⟩=some (.slice (some ⟨x.p,0,none⟩) s.n x.pc)∧_:=hf.c1
  have HF:Hid _:=hf
  have HB:Hid _:=hb
  have FS:Hid _:=hfs
  have HCR:Hid (c=rank s.pd k):=hcr
  have hck:c≤k:=by rw[hcr];exact rank_le _ _
  clear hf hb hfs hcr
  by_cases hlt:k<s.n
  ·have q1:(k:Int)<(s.n:Int):=by omega
   have q0:(0:Int)≤(k:Int):=by omega
   have q0c:(0:Int)≤(c:Int):=by omega
   obtain⟨e0,y0⟩:=HF.out.rl.cell k hlt
   obtain⟨e1,y1⟩:=HF.out.rp.cell k hlt
   have hpk:pend (wkK s fs k).pd k=(s.pd k).getD ⟨#[]⟩:=by unfold pend wkK;simp
   have htk:(wkK s fs k).tx k=s.tx k:=by unfold wkK;simp
   rw[hpk] at e1
   rw[htk] at e0
   clear hpk htk
   cases hp:s.pd k with
   |none=>
    rw[hp] at e1
    simp only[Option.getD_none] at e1
    have HN:Hid _:=wkK_none s fs k hp
    have HRK:Hid (rank s.pd (k+1)=rank s.pd k):=by
     refine(?_:rank s.pd (k+1)=rank s.pd k)
     rw[rank_succ,hp];simp
    clear hp
    go_wp2_with fail
    go_roundw
    case rel=>exact⟨k+1,c,by go_num,rfl,by omega,by rw[HRK.out,HCR.out],by rw[HN.out];exact HF.out,HB.out,FS.out⟩
    case measure=>simp[natOf];omega
   |some t=>
    rw[hp] at e1
    simp only[Option.getD_some] at e1
    have hz1:=(HK.out.pd k t hp).2
    have hz0:=HK.out.tx k hlt
    have hz:=nonempty_of hz1
    have HN:Hid _:=wkK_some s fs k t hp
    have HRK:Hid (rank s.pd (k+1)=rank s.pd k+1):=by
     refine(?_:rank s.pd (k+1)=rank s.pd k+1)
     rw[rank_succ,hp];simp
    have HWT:Hid (wakeTx s fs k=torn t (s.tx k) (kept fs c)):=by
     refine(?_:wakeTx s fs k=torn t (s.tx k) (kept fs c))
     unfold wakeTx;rw[hp,HCR.out]
    have hx4:=HF.out.n4
    have hx1:=HF.out.n1
    have hx2:=HF.out.n2
    have H1:Hid _:=HF.out.setL k hlt (wakeTx s fs k)
    have HD1:Hid (Rf (wr.setCell ⟨x.l,k,none⟩ (.string (wakeTx s fs k))).drew r x { wkK s fs k with tx:=at' (wkK s fs k).tx k (wakeTx s fs k) }):=H1.out.1.same fun _ _=>rfl
    have BD:Hid (But (Rv r x) (wr.setCell ⟨x.l,k,none⟩ (.string (wakeTx s fs k))) (wr.setCell ⟨x.l,k,none⟩ (.string (wakeTx s fs k))).drew):=⟨rfl,rfl,rfl,Nat.le_refl _,fun _ _ _=>rfl⟩
    have H2:Hid _:=HD1.out.dropP k hlt
    have FS':Hid (Fs ((wr.setCell ⟨x.l,k,none⟩ (.string (wakeTx s fs k))).drew.setCell ⟨x.p,k,none⟩ (.string ⟨#[]⟩)) fo fs):=fun hne=>(Fs.but FS.out (H1.out.2.trans (BD.out.trans H2.out.2)) (HFB.out hne)) hne
    generalize hold:s.tx k=old at*
    clear hp hold
    have hex:old.extract 0 256=old:=by rw[←hz0];exact ByteArray.extract_zero_size
    by_cases hcl:c<fs.length
    ·have q2:(c:Int)<(fs.length:Int):=by omega
     obtain⟨fb,off,rfl,hfl,hfc⟩:=FS.out (by intro e;rw[e] at hcl;simp at hcl)
     obtain⟨f,hfi⟩:∃ f,fs[c]? =some f:=⟨_,List.getElem?_eq_getElem hcl⟩
     have x3:=hfc c f hfi
     have HFI:Hid _:=hfi
     clear hfc hfi
     by_cases hf1:1≤f
     ·by_cases hf4:f≤4
      ·obtain⟨m,hm64⟩:∃ m:Nat,64*f=(m:Int):=⟨(64*f).toNat,by omega⟩
       have hm256:m≤256:=by omega
       have hm:Hid (kept fs c=m):=by
        refine(?_:kept fs c=m)
        unfold kept;rw[HFI.out];simp only;rw[if_pos ⟨hf1,hf4⟩];omega
       obtain⟨nw,hnw⟩:∃ nw,t.extract 0 m++old.extract m 256=nw:=⟨_,rfl⟩
       have hw:wakeTx s fs k=nw:=by rw[HWT.out,hm.out,←hnw,←hz0];rfl
       rw[hw] at H1 HD1 BD H2 FS' HN
       clear hw
       have HM64:Hid _:=hm64
       clear hm64
       go_wp2_with fail
       rw[HM64.out]
       have hza:(t.extract 0 m).size=m:=by rw[ByteArray.size_extract];omega
       have hzb:(old.extract m 256).size=256 - m:=by rw[ByteArray.size_extract];omega
       have hl:¬9223372036854775807<m+(256 - m):=by omega
       have HNW:Hid _:=hnw
       clear hnw
       go_region
       rw[HNW.out]
       obtain⟨c1',z1'⟩:(wr.setCell ⟨x.l,k,none⟩ (.string nw)).drew.cell? ⟨r,1,none⟩=some (.slice (some ⟨x.p,0,none⟩) s.n x.pc)∧_:=HD1.out.c1
       obtain⟨e1',y1'⟩:=HD1.out.rp.cell k hlt
       go_wp2_with fail
       go_roundw
       case rel=>exact⟨k+1,c+1,by go_num,by go_num,by omega,by rw[HRK.out,HCR.out],by rw[HN.out];exact H2.out.1,(HB.out.trans H1.out.2).trans (BD.out.trans H2.out.2),FS'.out⟩
       case measure=>simp[natOf];omega
      ·have hm:Hid (kept fs c=0):=by
        refine(?_:kept fs c=0)
        unfold kept;rw[HFI.out];simp;omega
       have hw:wakeTx s fs k=old:=by rw[HWT.out,hm.out,torn_zero]
       rw[hw] at H1 HD1 BD H2 FS' HN
       clear hw
       go_wp2_with fail
       go_region
       obtain⟨c1',z1'⟩:(wr.setCell ⟨x.l,k,none⟩ (.string old)).drew.cell? ⟨r,1,none⟩=some (.slice (some ⟨x.p,0,none⟩) s.n x.pc)∧_:=HD1.out.c1
       obtain⟨e1',y1'⟩:=HD1.out.rp.cell k hlt
       go_wp2_with fail
       go_roundw
       case rel=>exact⟨k+1,c+1,by go_num,by go_num,by omega,by rw[HRK.out,HCR.out],by rw[HN.out];exact H2.out.1,(HB.out.trans H1.out.2).trans (BD.out.trans H2.out.2),FS'.out⟩
       case measure=>simp[natOf];omega
     ·have hm:Hid (kept fs c=0):=by
       refine(?_:kept fs c=0)
       unfold kept;rw[HFI.out];simp;omega
      have hw:wakeTx s fs k=old:=by rw[HWT.out,hm.out,torn_zero]
      rw[hw] at H1 HD1 BD H2 FS' HN
      clear hw
      go_wp2_with fail
      go_region
      obtain⟨c1',z1'⟩:(wr.setCell ⟨x.l,k,none⟩ (.string old)).drew.cell? ⟨r,1,none⟩=some (.slice (some ⟨x.p,0,none⟩) s.n x.pc)∧_:=HD1.out.c1
      obtain⟨e1',y1'⟩:=HD1.out.rp.cell k hlt
      go_wp2_with fail
      go_roundw
      case rel=>exact⟨k+1,c+1,by go_num,by go_num,by omega,by rw[HRK.out,HCR.out],by rw[HN.out];exact H2.out.1,(HB.out.trans H1.out.2).trans (BD.out.trans H2.out.2),FS'.out⟩
      case measure=>simp[natOf];omega
    ·have q2:¬(c:Int)<(fs.length:Int):=by omega
     have hm:Hid (kept fs c=0):=by
      refine(?_:kept fs c=0)
      unfold kept;rw[List.getElem?_eq_none (by omega)]
     have hw:wakeTx s fs k=old:=by rw[HWT.out,hm.out,torn_zero]
     rw[hw] at H1 HD1 BD H2 FS' HN
     clear hw
     go_wp2_with fail
     go_region
     obtain⟨c1',z1'⟩:(wr.setCell ⟨x.l,k,none⟩ (.string old)).drew.cell? ⟨r,1,none⟩=some (.slice (some ⟨x.p,0,none⟩) s.n x.pc)∧_:=HD1.out.c1
     obtain⟨e1',y1'⟩:=HD1.out.rp.cell k hlt
     go_wp2_with fail
     go_roundw
     case rel=>exact⟨k+1,c+1,by go_num,by go_num,by omega,by rw[HRK.out,HCR.out],by rw[HN.out];exact H2.out.1,(HB.out.trans H1.out.2).trans (BD.out.trans H2.out.2),FS'.out⟩
     case measure=>simp[natOf];omega
  ·have q1:¬(k:Int)<(s.n:Int):=by omega
   have hk:k=s.n:=by omega
   have HKN:Hid (k=s.n):=hk
   obtain⟨c6,z6⟩:=HF.out.c6
   obtain⟨c7,z7⟩:=HF.out.c7
   clear hk
   go_wp2_with fail
   refine bodyPost_end (results_none rfl _ _ _) rfl ?_
   have g1:=HF.out.setSelf 7 (.bool false) { wkK s fs k with ended:=false } rfl rfl rfl rfl rfl
   have g2:=g1.1.setSelf 6 (.int .i64 (-1)) { wkK s fs k with ended:=false,cut:=false,left:=0 } rfl rfl rfl rfl rfl
   refine⟨rfl,?_,HB.out.trans (g1.2.trans g2.2)⟩
   refine g2.1.all rfl (fun i hi=>?_) (fun i hi=>?_) rfl rfl
   ·have hi':i<s.n:=hi
    show(if i<k then wakeTx s fs i else s.tx i)=wakeTx s fs i
    rw[if_pos (by rw[HKN.out];exact hi')]
   ·have hi':i<s.n:=hi
    show(if i<k then none else s.pd i).getD _=_
    rw[if_pos (by rw[HKN.out];exact hi')]
    rfl
end Go.Proofs.YtfaflomephjkgaaGreatDoor.Rd
