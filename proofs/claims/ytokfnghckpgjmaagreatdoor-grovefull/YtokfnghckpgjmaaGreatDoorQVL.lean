/- Ring: keys of so many generations. -/
import Derived.Test.YtokfnghckpgjmaaGreatDoorQVB
set_option maxRecDepth 100000
set_option maxHeartbeats 4000000
namespace Go.Proofs.YtokfnghckpgjmaaGreatDoor
namespace Rv
open Go.RowKit Go.Lib
open Rd (But St Ok Dev Dv pt zaa zam)
def krs:Nat→List Rk.Ky
 |0=>[]
 |i+1=>krs i++[(((i+1:Nat):Int),Rk.rep ((65+i:Nat):Int))]
theorem zhr (n:Nat):(krs n).length=n:=by induction n with|zero=>rfl|succ n ih=>simp[krs,ih]
theorem zgw {w w':World} {base n:Nat} {v:Value} {t:TypeId} {k:Nat} {cs:List Value} (h:w.ownsRow base t k v n cs) (hb:Below w.heap.size w w'):w'.ownsRow base t k v n cs:=by
 refine⟨h.1,?_⟩;rcases h.2 with⟨h1,h2⟩|⟨g,cap',cur,h1,h2,h3,h4⟩
 ·exact .inl ⟨h1,h2⟩
 ·exact .inr ⟨g,cap',cur,h1,h2,(hb.block _ (hlt h3)).trans h3,h4⟩
theorem zm9 (n:Nat) (hn:n≤8) (w:World):
  Calls Tryz.prog 43 #[.int .i64 (n:Int)] w fun e w'=>∃ o cap,e=.returned (.slice o n cap)∧Rk.Ring w' o cap (krs n)∧(∀ b off,o=some ⟨b,off,none⟩→w.heap.size≤b)∧Below w.heap.size w w':=by
 obtain⟨i0,hi,hz0,hz1,hz2⟩:=info_parts Rk.info5;go_enter Tryz.func43,Tryz.ntmps43;go_wp2_with fail
 go_loopw [3,4] (fun lv iv wr=>∃ i:Nat,i≤n∧iv=.int .i64 ((i:Int)+1)∧wr.ownsRow w.heap.size 142 2 lv i (Rk.cellsOf (krs i))∧Below w.heap.size w wr) (fun _ iv _=>n+1 - zam iv)
 case atStart=>exact⟨0,by omega,rfl,World.ownsRow_nil _ _ _ _,Below.refl _ _⟩
 case round=>
  obtain⟨i,hin,rfl,ho,hb⟩:=hrel;have HO:Hid (wr.ownsRow w.heap.size 142 2 u3 i (Rk.cellsOf (krs i))):=ho;have HB:Hid (Below w.heap.size w wr):=hb;obtain⟨W1,rfl⟩:∃ W1,W1=wr:=⟨_,rfl⟩;obtain⟨LV,rfl⟩:∃ LV,LV=u3:=⟨_,rfl⟩;have ls1:=hb.size;by_cases hlt':i<n
  ·have g0:(i:Int)+1≤(n:Int):=by omega
   obtain⟨c,hc⟩:∃ c,64+((i:Int)+1)=c:=⟨_,rfl⟩;have k1:IntKind.i64.wrap (64+((i:Int)+1))=c:=by rw[hc];exact IntWalk.i64_in _ ⟨by omega,by omega⟩
   have k2:IntKind.u8.wrap c=c:=IntWalk.u8_in _ ⟨by omega,by omega⟩;have k3:IntKind.u32.wrap ((i:Int)+1)=(i:Int)+1:=IntWalk.u32_in _ ⟨by omega,by omega⟩;have k4:(i:Int)+1+1≤9223372036854775807:=by omega
   have HCC:Hid (((65+i:Nat):Int)=c):=(by omega:((65+i:Nat):Int)=c);clear ho hb;go_wp2_with fail
   go_loopw [5,6] (fun v j wi=>∃ k:Nat,k≤32∧j=.int .i64 (k:Int)∧wi.ownsRow W1.heap.size 5 1 v k ((List.replicate k c).map (Value.int .u8))∧Below W1.heap.size W1 wi) (fun _ j _=>32 - zam j)
   case atStart=>exact⟨0,by omega,rfl,World.ownsRow_nil _ _ _ _,Below.refl _ _⟩
   case round=>
    obtain⟨k,hk,rfl,ho5,hb5⟩:=hrel;have HB5:Hid (Below W1.heap.size W1 wr):=hb5;have ls5:=hb5.size;by_cases hlk:k<32
    ·have q0:(k:Int)<32:=by omega
     have q1:(0:Int)≤(k:Int):=by omega
     obtain⟨v',w',hr5,hown5,hgrow5,hn5,hat5⟩:=run_append_own_at (P:=Tryz.prog) (wr.alloc (.cells #[.int .u8 c] 5)) W1.heap.size 140 140 5 i0 (.int .u8 0) 1 1 Tryz.underlying140 hi hz0 hz1 hz2 rfl (by decide) u5 k _ (ho5.alloc _) ⟨wr.heap.size,0,none⟩ 1 1 [.int .u8 c] rfl (Rk.za9 _ _ _) (fun u hu=>by simp at hu;subst hu;rfl) (by simp only[maxLen];omega) (by omega) (by simp;omega);have hne:∀ j,u5.ownBlock=some j→W1.heap.size≤j:=fun j e=>(ho5.lt j e).1
     have HO5:Hid (w'.ownsRow W1.heap.size 5 1 v' (k+1) ((List.replicate (k+1) c).map (Value.int .u8))):=by
      refine(?_:w'.ownsRow _ _ _ _ _ _);rw[List.replicate_succ',List.map_append];exact hown5
     have B5:Hid (Below W1.heap.size W1 w'):=(hb5.trans ((zaa wr _).mono (by omega))).grown hgrow5 (by simp;omega) (fun j e=>hne j e);clear ho5 hb5 hown5 hgrow5 hn5 hat5 hne
     go_wp2_with (at_builtin;refine zaq rfl 140 140 (.tmp 16) (.tmp 20) rfl (vs:=u5) (vx:=.slice (some ⟨wr.heap.size,0,none⟩) 1 1) rfl rfl hr5 ?_)
     go_roundw
     case rel=>exact⟨k+1,by omega,by go_num,HO5.out,B5.out⟩
     case measure=>simp[zam];omega
    ·have q0:¬(k:Int)<32:=by omega
     obtain rfl:k=32:=by omega
     obtain⟨p,cap5,rfl⟩:∃ p cap,u5=.slice (some ⟨p,0,none⟩) 32 cap:=by
      rcases ho5.2 with⟨_,h⟩|⟨p,cap,_,rfl,_⟩
      ·omega
      ·exact⟨p,cap,rfl⟩
     have hcv:(convert 140 9 (.slice (some ⟨p,0,none⟩) 32 cap5)).run Tryz.prog wr=.ok (.string (Rk.rep c)) wr:=by
      refine run_convert_bytes_arg wr 140 5 Tryz.underlying140 Tryz.underlying5 p 0 32 cap5 (List.replicate 32 c) (by simp) (fun i hi=>?_) 9 Tryz.underlying9;rw[Nat.zero_add];refine Rk.zci ho5 ?_;exact Rk.zoA _ c 32 i hi
     have b6:=zaa wr (.cells #[.int .u32 ((i:Int)+1),.string (Rk.rep c)] 142);have hg6:=zq wr (.cells #[.int .u32 ((i:Int)+1),.string (Rk.rep c)] 142);have ho6:=zgw (zgw HO.out hb5) b6;obtain⟨v7,W7,hrun7,a1,a2⟩:=Rk.zeH (wr.alloc (.cells #[.int .u32 ((i:Int)+1),.string (Rk.rep c)] 142)) w.heap.size i LV (some ⟨wr.heap.size,0,none⟩) 1 (krs i) [((i:Int)+1,Rk.rep c)] ho6 (by simp;omega) (Rk.zh1 hg6) (by rw[zhr];simp;omega)
     have HO7:Hid (W7.ownsRow w.heap.size 142 2 v7 (i+1) (Rk.cellsOf (krs (i+1)))):=by
      refine(?_:W7.ownsRow _ _ _ _ _ _)
      have e:krs (i+1)=krs i++[((i:Int)+1,Rk.rep c)]:=by
       show krs i++[_]=_;rw[HCC.out];rfl
      rw[e];exact a1
     have HB7:Hid (Below w.heap.size w W7):=(HB.out.trans ((hb5.trans (b6.mono ls5)).mono ls1)).grown a2 (by simp;omega) (fun j e=>(ho6.lt j e).1);simp only[List.length_cons,List.length_nil] at hrun7;clear ho5 hb5 b6 hg6 ho6 a1 a2
     go_wp2_with (at_builtin;refine zaq rfl 40 40 (.tmp 22) (.tmp 28) rfl (vs:=LV) (vx:=.slice (some ⟨wr.heap.size,0,none⟩) 1 1) rfl rfl hrun7 ?_)
     go_roundw
     case rel=>exact⟨i+1,by omega,by go_num,HO7.out,HB7.out⟩
     case measure=>simp[zam];omega
  ·obtain rfl:i=n:=by omega
   have g0:¬(i:Int)+1≤(i:Int):=by omega
   obtain⟨-,o,cap,rfl,hring⟩:=Rk.zcF ho;rw[zhr] at ho ⊢;have HR:Hid (Rk.Ring W1 o cap (krs i)):=hring;have HF:Hid (∀ b off,o=some ⟨b,off,none⟩→w.heap.size≤b):=zgq ho;clear ho hb hring HO;go_wp2_with fail;go_ret;exact⟨o,cap,rfl,HR.out,HF.out,HB.out⟩
def plcB (t:St) (p:Nat):Bool:=decide (2≤p)&&decide (p<t.n)
def zjj (v:Vs) (t:St) (p:Nat):Int:=if plcB t p=true∧(v.tk p).isSome=false then 0 else 2
theorem zna (A:Pl) (v:Vs) (t:St) (p:Nat) (hp:p≤4294967295) (w:World) (hv:Vlt w A v t) (hk:Ok t):
  Calls Tryz.prog 77 #[pt A.g,.int .u32 (p:Int)] w fun e w'=>e=.returned (.int .i64 (zjj v t p))∧Vlt w' A (if zjj v t p=0 then take v p else v) t∧But A.has w w':=by
 have HV:Hid (Vlt w A v t):=hv;have HN:Hid (∀ _:True,_):=fun _=>zbb A v t w hv
 have HPl:Hid (∀ _:True,_):=fun _=>zdt A v t p hp w hv hk
 have HTk:Hid (∀ _:True,_):=fun _=>zcs A v t p w hv
 have hpb:(decide (2≤p)&&decide (p<t.n))=plcB t p:=rfl;rw[hpb] at HPl;obtain⟨E,hE⟩:∃ E,zjj v t p=E:=⟨_,rfl⟩;rw[hE];unfold zjj at hE;have HE:Hid ((if plcB t p=true∧(v.tk p).isSome=false then(0:Int) else 2)=E):=hE;clear hv hk hE hpb;go_enter Tryz.func77,Tryz.ntmps77;go_wp2_with fail;refine Calls.mono (HN.out trivial) ?_;rintro e w1 ⟨rfl,hw1⟩;have hw1':=hw1.symm;clear hw1 HN;subst hw1';go_wp2_with fail;refine Calls.mono (HPl.out trivial) ?_;rintro e w1 ⟨rfl,hw1⟩;have hw1':=hw1.symm;clear hw1 HPl;subst hw1';cases hb:plcB t p with
 |false=>
  have h2:E=2:=by rw[←HE.out,hb];simp
  subst h2;clear hb HE;go_wp2_with fail;go_ret;exact⟨rfl,HV.out,But.refl _ _⟩
 |true=>
  cases ht:(v.tk p).isSome with
  |true=>
   have h2:E=2:=by rw[←HE.out,hb,ht];simp
   subst h2;rw[ht] at HTk;clear hb ht HE;go_wp2_with fail;refine Calls.mono (HTk.out trivial) ?_;rintro e w2 ⟨rfl,b2⟩;have HV2:Hid (Vlt w2 A v t):=HV.out.below b2 zn;have HB2:Hid (But A.has w w2):=But.of_below b2;clear b2 HTk HV;go_wp2_with fail;go_ret;exact⟨rfl,HV2.out,HB2.out⟩
  |false=>
   have h2:E=0:=by rw[←HE.out,hb,ht];simp
   subst h2;rw[ht] at HTk;clear hb ht HE;go_wp2_with fail;refine Calls.mono (HTk.out trivial) ?_;rintro e w2 ⟨rfl,b2⟩;have HV2:Hid (Vlt w2 A v t):=HV.out.below b2 zn;have HB2:Hid (But A.has w w2):=But.of_below b2;clear b2 HTk HV;obtain⟨hs2,-⟩:=HV2.out.self;obtain⟨⟨-,-,-,-,-,c5⟩,-⟩:=zdm hs2;obtain⟨W3,hrun,hm3,b3,hz3⟩:=HV2.out.map.update p ();have hst3:=HV2.out.take_step hm3 b3;have HV3:Hid (Vlt W3 A (take v p) t):=hst3.1;have HB3:Hid (But A.has w W3):=HB2.out.trans hst3.2;have lg:=HV2.out.lt.1;clear hs2 hm3 b3 hst3 HV2 HB2 hz3;go_wp2_with fail;go_ret;exact⟨rfl,HV3.out,HB3.out⟩
end Rv
end Go.Proofs.YtokfnghckpgjmaaGreatDoor
