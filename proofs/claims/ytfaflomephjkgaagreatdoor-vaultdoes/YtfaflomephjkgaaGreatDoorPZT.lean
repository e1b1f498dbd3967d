import Derived.Test.YtfaflomephjkgaaGreatDoorQZI
import Derived.Test.YtfaflomephjkgaaGreatDoorQZC
set_option maxRecDepth 100000
set_option maxHeartbeats 2000000
namespace Go.Proofs.YtfaflomephjkgaaGreatDoor.Ra
open Go.RowKit
theorem refat0 (g cap:Nat) (f:Nat→Int) (w:World) (h:RowS w g cap f):Calls Tryz.prog 153 #[.slice (some ⟨g,0,none⟩) 16 cap,.int .i64 0,.int .i64 4,.int .i64 8,.int .i64 12] w fun e w'=>e=.returned (.tuple #[])∧RowS w' g cap (qt f 0 4 8 12)∧w.grownBy w' (some g):=
 refat_any g cap f 0 4 8 12 (by decide) (by decide) (by decide) (by decide) (by decide) (by decide) (by decide) (by decide) (by decide) (by decide) w h
theorem refat1 (g cap:Nat) (f:Nat→Int) (w:World) (h:RowS w g cap f):Calls Tryz.prog 153 #[.slice (some ⟨g,0,none⟩) 16 cap,.int .i64 1,.int .i64 5,.int .i64 9,.int .i64 13] w fun e w'=>e=.returned (.tuple #[])∧RowS w' g cap (qt f 1 5 9 13)∧w.grownBy w' (some g):=
 refat_any g cap f 1 5 9 13 (by decide) (by decide) (by decide) (by decide) (by decide) (by decide) (by decide) (by decide) (by decide) (by decide) w h
theorem refat2 (g cap:Nat) (f:Nat→Int) (w:World) (h:RowS w g cap f):Calls Tryz.prog 153 #[.slice (some ⟨g,0,none⟩) 16 cap,.int .i64 2,.int .i64 6,.int .i64 10,.int .i64 14] w fun e w'=>e=.returned (.tuple #[])∧RowS w' g cap (qt f 2 6 10 14)∧w.grownBy w' (some g):=
 refat_any g cap f 2 6 10 14 (by decide) (by decide) (by decide) (by decide) (by decide) (by decide) (by decide) (by decide) (by decide) (by decide) w h
theorem refat3 (g cap:Nat) (f:Nat→Int) (w:World) (h:RowS w g cap f):Calls Tryz.prog 153 #[.slice (some ⟨g,0,none⟩) 16 cap,.int .i64 3,.int .i64 7,.int .i64 11,.int .i64 15] w fun e w'=>e=.returned (.tuple #[])∧RowS w' g cap (qt f 3 7 11 15)∧w.grownBy w' (some g):=
 refat_any g cap f 3 7 11 15 (by decide) (by decide) (by decide) (by decide) (by decide) (by decide) (by decide) (by decide) (by decide) (by decide) w h
theorem refat4 (g cap:Nat) (f:Nat→Int) (w:World) (h:RowS w g cap f):Calls Tryz.prog 153 #[.slice (some ⟨g,0,none⟩) 16 cap,.int .i64 0,.int .i64 5,.int .i64 10,.int .i64 15] w fun e w'=>e=.returned (.tuple #[])∧RowS w' g cap (qt f 0 5 10 15)∧w.grownBy w' (some g):=
 refat_any g cap f 0 5 10 15 (by decide) (by decide) (by decide) (by decide) (by decide) (by decide) (by decide) (by decide) (by decide) (by decide) w h
theorem refat5 (g cap:Nat) (f:Nat→Int) (w:World) (h:RowS w g cap f):Calls Tryz.prog 153 #[.slice (some ⟨g,0,none⟩) 16 cap,.int .i64 1,.int .i64 6,.int .i64 11,.int .i64 12] w fun e w'=>e=.returned (.tuple #[])∧RowS w' g cap (qt f 1 6 11 12)∧w.grownBy w' (some g):=
 refat_any g cap f 1 6 11 12 (by decide) (by decide) (by decide) (by decide) (by decide) (by decide) (by decide) (by decide) (by decide) (by decide) w h
theorem refat6 (g cap:Nat) (f:Nat→Int) (w:World) (h:RowS w g cap f):Calls Tryz.prog 153 #[.slice (some ⟨g,0,none⟩) 16 cap,.int .i64 2,.int .i64 7,.int .i64 8,.int .i64 13] w fun e w'=>e=.returned (.tuple #[])∧RowS w' g cap (qt f 2 7 8 13)∧w.grownBy w' (some g):=
 refat_any g cap f 2 7 8 13 (by decide) (by decide) (by decide) (by decide) (by decide) (by decide) (by decide) (by decide) (by decide) (by decide) w h
theorem refat7 (g cap:Nat) (f:Nat→Int) (w:World) (h:RowS w g cap f):Calls Tryz.prog 153 #[.slice (some ⟨g,0,none⟩) 16 cap,.int .i64 3,.int .i64 4,.int .i64 9,.int .i64 14] w fun e w'=>e=.returned (.tuple #[])∧RowS w' g cap (qt f 3 4 9 14)∧w.grownBy w' (some g):=
 refat_any g cap f 3 4 9 14 (by decide) (by decide) (by decide) (by decide) (by decide) (by decide) (by decide) (by decide) (by decide) (by decide) w h
theorem rowS_of {w:World} {base:Nat} {v:Value} {f:Nat→Int} (h:w.ownsRow base 32 1 v 16 ((upto f 16).map (Value.int .u32))):
  ∃ g cap,v=.slice (some ⟨g,0,none⟩) 16 cap∧base≤g∧cap≤maxLen∧RowS w g cap f:=by
 obtain⟨_,h⟩:=h
 rcases h with⟨_,h⟩|⟨g,cap,cur,hv,hg,hh,hn,hc,hs,ht⟩
 ·cases h
 ·refine⟨g,cap,hv,hg,hc,cur,hh,by omega,hn,fun i hi=>?_⟩
  have h1:(cur.toList.take (16*1))[i]? =((upto f 16).map (Value.int .u32))[i]? :=by rw[ht]
  rw[List.getElem?_take,if_pos (by omega),Array.getElem?_toList] at h1
  rw[h1]
  simp[upto,hi]
theorem rBlock_yes (key nonce:ByteArray) (c:Int) (w:World) (h1:key.size=32) (h2:nonce.size=12):
  Calls Tryz.prog 131 #[.string key,.int .u32 c,.string nonce] w fun e w'=>e=.returned (.tuple #[.string (blkS key c nonce),.int .i64 0])∧Below w.heap.size w w':=by
 have g1:((key.size:Int) !=32)=false:=by simp[h1]
 have g2:((nonce.size:Int) !=12)=false:=by simp[h2]
 have H1:Hid _:=h1
 have H2:Hid _:=h2
 clear h1 h2
 obtain⟨i0,hi,hz0,hz1,hz2⟩:=info_parts info22
 obtain⟨j0,hj,hy0,hy1,hy2⟩:=info_parts info5
 go_enter Tryz.func131,Tryz.ntmps131
 go_wp2_with fail
 refine(State_any key nonce c H1.out H2.out _).mono ?_
 rintro e w1 ⟨v,rfl,hown,hb1⟩
 have HB:Hid (blkS key c nonce=strOfNums (bts (blk (stt key c nonce)) 16)):=rfl
 generalize stt key c nonce=S at*
 obtain⟨g,cap,rfl,hg,hcap,hrow⟩:=rowS_of hown
 have hglt:=hrow.lt
 have hcells:∀ j u,((upto S 16).map (Value.int .u32))[j]? =some u→w1.cell? ⟨g,j,none⟩=some u:=fun j u hj=>by
  have hj16:j<16:=by
   rcases Nat.lt_or_ge j 16 with h|h
   ·exact h
   ·rw[List.getElem?_eq_none (by simp[upto_length];omega)] at hj;cases hj
  rw[(hrow.cell j hj16).1]
  simpa [upto,List.getElem?_map,List.getElem?_range,hj16] using hj
 clear hown
 go_wp2_with (first
  |(at_make;refine wpList_make_own _ rfl _ _ 174 rfl w1.heap.size 32 i0 (.int .u32 0) 1 Tryz.underlying174 hi hz0 hz1 .i64 .i64 16 16 rfl rfl rfl (by rw[hz2];decide) (by unfold maxLen;decide) (Nat.le_refl _) ?_;intro w2 hown2 hgrow2)
  |(at_builtin;refine wpList_append_own _ rfl _ _ 174 rfl w1.heap.size 32 i0 (.int .u32 0) 1 4 Tryz.underlying174 hi hz0 hz1 hz2 rfl (by decide) _ _ _ rfl hown2 ⟨g,0,none⟩ 16 cap ((upto S 16).map (Value.int .u32)) rfl ?c0 ?c1 ?c2 ?c3 ?c4 ?c5 ?_))
 case c0=>simp[upto_length]
 case c1=>
  intro j u hj
  rw[Addr.add_lit,Nat.zero_add]
  exact hgrow2.cell (hcells j u hj) (by simp)
 case c2=>
  intro u hu
  obtain⟨z,_,rfl⟩:=List.mem_map.1 hu
  rfl
 case c3=>unfold maxLen;omega
 case c4=>omega
 case c5=>exact hgrow2.size
 intro v' w3 hown3 hgrow3 _
 have hb2:Below w.heap.size w w2:=hb1.grown hgrow2 hb1.size (fun k e=>by cases e)
 have hb3:Below w.heap.size w w3:=hb2.grown hgrow3 hb2.size (fun k e=>by cases e;exact hb1.size)
 have hr3:RowS w3 g cap S:=(hrow.same (hgrow2.block g hglt (by simp))).same (hgrow3.block g (Nat.lt_of_lt_of_le hglt hgrow2.size) (by intro e;simp[Value.ownBlock] at e;omega))
 obtain⟨g2,cap2,rfl,hg2,hcap2,hrow2⟩:=rowS_of (f:=S) (by simpa using hown3)
 have hne:g≠g2:=by omega
 clear hb1 hrow hcells hown2 hgrow2 hown3 hgrow3 hb2
 go_wp2
 go_loopw [10] (fun i wr=>∃ k:Nat,k≤10∧i=.int .i64 k∧RowS wr g2 cap2 (rnds S k)∧RowS wr g cap S∧Below w.heap.size w wr) (fun i _=>10 - (intOf i).toNat)
 case atStart=>exact⟨0,by omega,rfl,hrow2,hr3,hb3⟩
 case round=>
  clear hrow2 hr3 hb3
  obtain⟨k,hk,rfl,hr2,hr,hb⟩:=hrel
  have HR:Hid (RowS wr g2 cap2 (rnds S k)):=hr2
  have HW:Hid (RowS wr g cap S):=hr
  have HL:Hid _:=hb
  clear hr2 hr hb
  by_cases hlt:k<10
  ·go_wp2_with fail
   refine(refat0 g2 cap2 _ _ HR.out).mono ?_
   rintro e x1 ⟨rfl,r1,gb1⟩
   have G1:Hid _:=gb_trans (gb_refl _ _) gb1
   clear gb1
   have R1:Hid _:=r1
   clear r1
   go_wp2_with fail
   refine(refat1 g2 cap2 _ _ R1.out).mono ?_
   rintro e x2 ⟨rfl,r2,gb2⟩
   have G2:Hid _:=gb_trans G1.out gb2
   clear gb2
   have R2:Hid _:=r2
   clear r2
   go_wp2_with fail
   refine(refat2 g2 cap2 _ _ R2.out).mono ?_
   rintro e x3 ⟨rfl,r3,gb3⟩
   have G3:Hid _:=gb_trans G2.out gb3
   clear gb3
   have R3:Hid _:=r3
   clear r3
   go_wp2_with fail
   refine(refat3 g2 cap2 _ _ R3.out).mono ?_
   rintro e x4 ⟨rfl,r4,gb4⟩
   have G4:Hid _:=gb_trans G3.out gb4
   clear gb4
   have R4:Hid _:=r4
   clear r4
   go_wp2_with fail
   refine(refat4 g2 cap2 _ _ R4.out).mono ?_
   rintro e x5 ⟨rfl,r5,gb5⟩
   have G5:Hid _:=gb_trans G4.out gb5
   clear gb5
   have R5:Hid _:=r5
   clear r5
   go_wp2_with fail
   refine(refat5 g2 cap2 _ _ R5.out).mono ?_
   rintro e x6 ⟨rfl,r6,gb6⟩
   have G6:Hid _:=gb_trans G5.out gb6
   clear gb6
   have R6:Hid _:=r6
   clear r6
   go_wp2_with fail
   refine(refat6 g2 cap2 _ _ R6.out).mono ?_
   rintro e x7 ⟨rfl,r7,gb7⟩
   have G7:Hid _:=gb_trans G6.out gb7
   clear gb7
   have R7:Hid _:=r7
   clear r7
   go_wp2_with fail
   refine(refat7 g2 cap2 _ _ R7.out).mono ?_
   rintro e x8 ⟨rfl,r8,gb8⟩
   have G8:Hid _:=gb_trans G7.out gb8
   clear gb8
   have R8:Hid _:=r8
   clear r8
   go_wp2
   have hgl:=HW.out.lt
   exact⟨⟨k+1,by omega,by go_num,R8.out,HW.out.same (G8.out.block g hgl (by simp;omega)),HL.out.grown G8.out HL.out.size (fun j e=>by cases e;have:=HL.out.size;omega)⟩,by simp[intOf];omega⟩
  ·have e10:k=10:=by omega
   rw[show(k:Int)=10 by omega]
   subst e10
   clear hk
   go_wp2
   obtain⟨B2,hB2⟩:∃ B,wr.heap.size=B:=⟨_,rfl⟩
   have l1:g<B2:=by have:=HW.out.lt;omega
   have l2:g2<B2:=by have:=HR.out.lt;omega
   have l3:w.heap.size≤B2:=by have:=HL.out.size;omega
   have HB2:Hid (B2≤wr.heap.size):=by rw[hB2];exact Nat.le_refl _
   clear hB2
   go_loopw [11,12] (fun v i wr=>∃ k:Nat,k≤16∧i=.int .i64 k∧wr.ownsRow B2 5 1 v (4*k) ((bts (blk S) k).map (Value.int .u8))∧RowS wr g2 cap2 (rnds S 10)∧RowS wr g cap S∧Below w.heap.size w wr∧B2≤wr.heap.size) (fun _ i _=>16 - (intOf i).toNat)
   case atStart=>exact⟨0,by omega,rfl,World.ownsRow_nil _ _ _ _,HR.out,HW.out,HL.out,HB2.out⟩
   case round=>
    clear HR HW HL HB2
    obtain⟨k,hk,rfl,hown,hr2,hr,hb,hnb⟩:=hrel
    by_cases hlt:k<16
    ·have c2:=(hr2.cell k hlt).1
     have c1:=(hr.cell k hlt).1
     have k0:(0:Int)≤(k:Int):=by omega
     have k1:(k:Int)<16:=by omega
     have HR:Hid (RowS wr g2 cap2 (rnds S 10)):=hr2
     have HW:Hid (RowS wr g cap S):=hr
     have HL:Hid _:=hb
     have HO:Hid _:=hown
     have HN:Hid _:=hnb
     clear hr2 hr hb hown hnb
     generalize hX:rnds S 10 k=X at*
     have HX:Hid _:=hX
     clear hX
     generalize hY:S k=Y at*
     have HY:Hid _:=hY
     clear hY
     go_wp2
     go_quiet (fail)
     have ho:(wr.drewN nq).ownsRow B2 5 1 _ (4*k) ((bts (blk S) k).map (Value.int .u8)):=HO.out
     have HR1:Hid (RowS (wr.drewN nq) g2 cap2 (rnds S 10)):=HR.out.drN nq
     have HW1:Hid (RowS (wr.drewN nq) g cap S):=HW.out.drN nq
     have hl:=below_drewN HL.out nq
     have HN1:Hid (B2≤(wr.drewN nq).heap.size):=HN.out
     clear HO HR HW HL c1 c2 HN
     generalize wr.drewN nq=wx at*
     obtain⟨x,hx⟩:∃ x,(X+Y)%4294967296=x:=⟨_,rfl⟩
     have HB4:Hid (blk S k=x):=by
      show(rnds S 10 k+S k)%4294967296=x
      rw[HX.out,HY.out];exact hx
     have HQ4:Hid (b4 x=[x%256,x/256%256,x/65536%256,x/16777216]):=by
      show[x%256,x/256%256,x/65536%256,x/16777216%256]=_
      rw[show x/16777216%256=x/16777216 by omega]
     go_wp2_with (at_builtin;refine wpList_append_own _ rfl _ _ 98 rfl B2 5 j0 (.int .u8 0) 1 1 Tryz.underlying98 hj hy0 hy1 hy2 rfl (by decide) _ _ _ rfl (ho.alloc _) ⟨wx.heap.size,0,none⟩ 4 4 ([x%256,x/256%256,x/65536%256,x/16777216].map (Value.int .u8)) rfl rfl ?e1 ?e2 ?e3 ?e4 ?e5 ?_)
     case e1=>
      intro j u hj
      rw[Addr.add_lit,cell_of_row _ _ _ _ _ _ (heap_alloc_new wx _),Nat.zero_add]
      simpa using hj
     case e2=>intro u hu;simp at hu;rcases hu with rfl|rfl|rfl|rfl<;>rfl
     case e3=>unfold maxLen;omega
     case e4=>omega
     case e5=>have:=HN1.out;simp;omega
     intro v5 w5 hown5 hgrow5 _
     have hgw:=HW1.out.lt
     have hgw2:=HR1.out.lt
     have hnb5:B2≤w5.heap.size:=by have:=hgrow5.size;have:=HN1.out;simp at*;omega
     have hl5:=(hl.alloc hl.size (.cells #[.int .u8 (x%256),.int .u8 (x/256%256),.int .u8 (x/65536%256),.int .u8 (x/16777216)] 5)).grown hgrow5 (by have:=hl.size;simp;omega) (fun j e=>Nat.le_trans l3 (ho.lt j e).1)
     have HR5:Hid (RowS w5 g2 cap2 (rnds S 10)):=(HR1.out.al _).same (hgrow5.block g2 (by simp;omega) (fun e=>by have:=(ho.lt g2 e.symm).1;omega))
     have HW5:Hid (RowS w5 g cap S):=(HW1.out.al _).same (hgrow5.block g (by simp;omega) (fun e=>by have:=(ho.lt g e.symm).1;omega))
     have HO5:Hid _:=hown5
     have HL5:Hid _:=hl5
     have HN5:Hid _:=hnb5
     clear ho hl hgrow5 hown5 hl5 hnb5 HR1 HW1 hgw hgw2 hx
     go_wp2
     go_roundw
     case rel=>exact⟨k+1,by omega,by go_num,by rw[bts_succ,HB4.out,List.map_append,HQ4.out];exact HO5.out,HR5.out,HW5.out,HL5.out,HN5.out⟩
     case measure=>simp[intOf];omega
    ·obtain rfl:k=16:=by omega
     have hcv:=own_string hown
     clear hown hnb hr2 hr
     go_wp2
     go_ret2
     exact⟨by rw[HB.out];rfl,hb⟩
end Go.Proofs.YtfaflomephjkgaaGreatDoor.Ra
