/- The reference's Get. -/
import Derived.Test.YtfaflomephjkgaaGreatDoorQWD
import Derived.Test.YtfaflomephjkgaaGreatDoorPPl
set_option maxRecDepth 100000
set_option maxHeartbeats 4000000
namespace Go.Proofs.YtfaflomephjkgaaGreatDoor.Rs
open Go.RowKit Go.Lib
theorem ext24n (s:ByteArray) (h:s.size=24) (b:Nat) (hb:b≤24) (w:World):(Instr.sliceAt 9 (.string s) none (some (.int .i64 (b:Int))) none).run Tryz.prog w=.ok (.string (s.extract 0 b)) w:=by
 simp[Instr.sliceAt,Instr.slice,run_underlying Tryz.underlying9,go_sem,h]
 intro hlt
 omega
theorem ext24t (s:ByteArray) (h:s.size=24) (w:World):(Instr.sliceAt 9 (.string s) (some (.int .i64 20)) none none).run Tryz.prog w=.ok (.string (s.extract 20 24)) w:=by
 simp[Instr.sliceAt,Instr.slice,run_underlying Tryz.underlying9,go_sem,h]
theorem gk_tail (s:ByteArray) (hs:s.size=24):gk s=decide (s.extract 20 24=z4):=by
 unfold gk
 rw[decide_eq_true hs,Bool.true_and,decide_eq_decide,put_hd s hs]
 have hz:(s.extract 20 24).size=4:=by rw[Rp.ext_size,hs];rfl
 constructor
 ·intro h
  refine Rp.bt_same _ _ (by rw[hz];rfl) fun j hj=>?_
  rw[hz] at hj
  rw[Rp.bt_ext _ _ _ _ (by omega),h _ (by omega) (by omega)]
  match j,hj with
  |0,_=>rfl
  |1,_=>rfl
  |2,_=>rfl
  |3,_=>rfl
 ·intro h i h1 h2
  have e:Rp.bt (s.extract 20 24) (i - 20)=Rp.bt z4 (i - 20):=by rw[h]
  rw[Rp.bt_ext _ _ _ _ (by omega),show 20+(i - 20)=i by omega] at e
  rw[e]
  obtain⟨j,rfl⟩:∃ j,i=20+j:=⟨i - 20,by omega⟩
  rw[show 20+j - 20=j by omega]
  match j,(show j<4 by omega) with
  |0,_=>rfl
  |1,_=>rfl
  |2,_=>rfl
  |3,_=>rfl
theorem rGet_any (s:ByteArray) (w:World):
  Calls Tryz.prog 79 #[.string s] w fun e w'=>e=.returned (.tuple #[hv (gv s),.bool (gk s)])∧Below w.heap.size w w':=by
 by_cases hs:s.size=24
 ·have q:(s.size:Int)=24:=by omega
  have HS:Hid (s.size=24):=hs
  have HG:Hid (gk s=decide (s.extract 20 24=z4)):=gk_tail s hs
  have xt:∀ w,(Instr.sliceAt 9 (.string s) (some (.int .i64 20)) none none).run Tryz.prog w=.ok (.string (s.extract 20 24)) w:=ext24t s hs
  have x0:∀ w,(Instr.sliceAt 9 (.string s) none (some (.int .i64 4)) none).run Tryz.prog w=.ok (.string (s.extract 0 4)) w:=ext24n s hs 4 (by omega)
  have x1:∀ w,(Instr.sliceAt 9 (.string s) (some (.int .i64 4)) (some (.int .i64 8)) none).run Tryz.prog w=.ok (.string (s.extract 4 8)) w:=ext24 s hs 4 8 (by omega) (by omega)
  have x2:∀ w,(Instr.sliceAt 9 (.string s) (some (.int .i64 8)) (some (.int .i64 12)) none).run Tryz.prog w=.ok (.string (s.extract 8 12)) w:=ext24 s hs 8 12 (by omega) (by omega)
  have x3:∀ w,(Instr.sliceAt 9 (.string s) (some (.int .i64 12)) (some (.int .i64 20)) none).run Tryz.prog w=.ok (.string (s.extract 12 20)) w:=ext24 s hs 12 20 (by omega) (by omega)
  have HR:Hid (∀ t:ByteArray,∀ a b:Nat,t=s.extract a b→a≤b→b≤24→b≤a+8→∀ V,Calls Tryz.prog 108 #[.string t] V fun e w'=>e=.returned (.int .u64 (rd t (b - a)))∧∃ n,w'=V.drewN n):=fun t a b ht h1 h2 h3 V=>by
   have hz:t.size=b - a:=by rw[ht,Rp.ext_size];omega
   have:=rget_any t (by omega) V
   rw[hz] at this
   exact this
  obtain⟨t0,ht0⟩:∃ t,s.extract 0 4=t:=⟨_,rfl⟩
  obtain⟨t1,ht1⟩:∃ t,s.extract 4 8=t:=⟨_,rfl⟩
  obtain⟨t2,ht2⟩:∃ t,s.extract 8 12=t:=⟨_,rfl⟩
  obtain⟨t3,ht3⟩:∃ t,s.extract 12 20=t:=⟨_,rfl⟩
  have R0:Hid (∀ V,Calls Tryz.prog 108 #[.string t0] V fun e w'=>e=.returned (.int .u64 (rd t0 4))∧∃ n,w'=V.drewN n):=HR.out t0 0 4 ht0.symm (by omega) (by omega) (by omega)
  have R1:Hid (∀ V,Calls Tryz.prog 108 #[.string t1] V fun e w'=>e=.returned (.int .u64 (rd t1 4))∧∃ n,w'=V.drewN n):=HR.out t1 4 8 ht1.symm (by omega) (by omega) (by omega)
  have R2:Hid (∀ V,Calls Tryz.prog 108 #[.string t2] V fun e w'=>e=.returned (.int .u64 (rd t2 4))∧∃ n,w'=V.drewN n):=HR.out t2 8 12 ht2.symm (by omega) (by omega) (by omega)
  have R3:Hid (∀ V,Calls Tryz.prog 108 #[.string t3] V fun e w'=>e=.returned (.int .u64 (rd t3 8))∧∃ n,w'=V.drewN n):=HR.out t3 12 20 ht3.symm (by omega) (by omega) (by omega)
  have HH:Hid (hdOf s=(rd t0 4,rd t1 4,rd t2 4,rd t3 8)):=by refine(?_:hdOf s=(rd t0 4,rd t1 4,rd t2 4,rd t3 8));unfold hdOf;rw[ht0,ht1,ht2,ht3]
  obtain⟨a,ha⟩:∃ x,rd t0 4=x:=⟨_,rfl⟩
  obtain⟨b,hb⟩:∃ x,rd t1 4=x:=⟨_,rfl⟩
  obtain⟨c,hc⟩:∃ x,rd t2 4=x:=⟨_,rfl⟩
  obtain⟨d,hd⟩:∃ x,rd t3 8=x:=⟨_,rfl⟩
  have a2:0≤a∧a<4294967296:=by rw[←ha];exact rd_range t0 4
  have b2:0≤b∧b<4294967296:=by rw[←hb];exact rd_range t1 4
  have c2:0≤c∧c<4294967296:=by rw[←hc];exact rd_range t2 4
  have d2:0≤d∧d<18446744073709551616:=by rw[←hd];exact rd_range t3 8
  rw[ha] at R0
  rw[hb] at R1
  rw[hc] at R2
  rw[hd] at R3
  rw[ha,hb,hc,hd] at HH
  rw[ht0] at x0
  rw[ht1] at x1
  rw[ht2] at x2
  rw[ht3] at x3
  obtain⟨a0,a1⟩:=a2
  obtain⟨b0,b1⟩:=b2
  obtain⟨c0,c1⟩:=c2
  obtain⟨d0,d1⟩:=d2
  have wa:IntKind.u32.wrap a=a:=by rw[IntKind.wrap_u32]<;>omega
  have wb:IntKind.u32.wrap b=b:=by rw[IntKind.wrap_u32]<;>omega
  have wc:IntKind.u32.wrap c=c:=by rw[IntKind.wrap_u32]<;>omega
  clear ht0 ht1 ht2 ht3 ha hb hc hd HR a0 a1 b0 b1 c0 c1 d0 d1
  by_cases hz:s.extract 20 24=z4
  ·have HV:Hid (gk s=true∧gv s=(a,b,c,d)):=by
    refine(?_:gk s=true∧gv s=(a,b,c,d))
    have e:gk s=true:=by rw[HG.out];simp[hz]
    exact⟨e,by unfold gv;rw[if_pos e,HH.out]⟩
   rw[hz] at xt
   unfold z4 at xt
   clear hz HG HH
   go_enter Tryz.func79,Tryz.ntmps79
   go_wp2_with fail
   refine wp_region_any (by kernel_rfl) ?_
   change wpAny _ _ _ _ _ _ _ (World.drew _)
   refine plan [0,1,4,5,8,9,12,13] ?_
   iterate 8
    refine tkA (v:=?_) rfl (by kernel_rfl) (fun _ _ _ h=>h) (by kernel_rfl) ?_ ?_
    rotate_left
    ·intro w;go_simp;try with_reducible rfl
    conv in(Act.put _ _ _)=>simp only[List.getElem_toArray,List.getElem_cons_succ,List.getElem_cons_zero,Act.put,List.setIfInBounds_toArray,List.set_cons_succ,List.set_cons_zero]
   refine plan0 ?_
   refine wpAny_ready (rs:=[2]) (by kernel_rfl) (by simp) ?_
   refine(AllReady.cons rfl (fun K hK=>?_) AllReady.nil)
   go_simp
   refine(R0.out _).mono ?_
   rintro e _ ⟨rfl,n2,rfl⟩
   refine hK _ _ ?_
   clear hK K
   refine plan [3] ?_
   refine tkA (v:=?_) rfl (by kernel_rfl) (fun _ _ _ h=>h) (by kernel_rfl) ?_ ?_
   rotate_left
   ·intro w;go_simp;try with_reducible rfl
   conv in(Act.put _ _ _)=>simp only[List.getElem_toArray,List.getElem_cons_succ,List.getElem_cons_zero,Act.put,List.setIfInBounds_toArray,List.set_cons_succ,List.set_cons_zero]
   refine plan0 ?_
   refine wpAny_ready (rs:=[6]) (by kernel_rfl) (by simp) ?_
   refine(AllReady.cons rfl (fun K hK=>?_) AllReady.nil)
   go_simp
   refine(R1.out _).mono ?_
   rintro e _ ⟨rfl,n6,rfl⟩
   refine hK _ _ ?_
   clear hK K
   refine plan [7] ?_
   refine tkA (v:=?_) rfl (by kernel_rfl) (fun _ _ _ h=>h) (by kernel_rfl) ?_ ?_
   rotate_left
   ·intro w;go_simp;try with_reducible rfl
   conv in(Act.put _ _ _)=>simp only[List.getElem_toArray,List.getElem_cons_succ,List.getElem_cons_zero,Act.put,List.setIfInBounds_toArray,List.set_cons_succ,List.set_cons_zero]
   refine plan0 ?_
   refine wpAny_ready (rs:=[10]) (by kernel_rfl) (by simp) ?_
   refine(AllReady.cons rfl (fun K hK=>?_) AllReady.nil)
   go_simp
   refine(R2.out _).mono ?_
   rintro e _ ⟨rfl,n10,rfl⟩
   refine hK _ _ ?_
   clear hK K
   refine plan [11] ?_
   refine tkA (v:=?_) rfl (by kernel_rfl) (fun _ _ _ h=>h) (by kernel_rfl) ?_ ?_
   rotate_left
   ·intro w;go_simp;try with_reducible rfl
   conv in(Act.put _ _ _)=>simp only[List.getElem_toArray,List.getElem_cons_succ,List.getElem_cons_zero,Act.put,List.setIfInBounds_toArray,List.set_cons_succ,List.set_cons_zero]
   refine plan0 ?_
   refine wpAny_ready (rs:=[14]) (by kernel_rfl) (by simp) ?_
   refine(AllReady.cons rfl (fun K hK=>?_) AllReady.nil)
   go_simp
   refine(R3.out _).mono ?_
   rintro e _ ⟨rfl,n14,rfl⟩
   refine hK _ _ ?_
   clear hK K
   refine plan [15] ?_
   refine tkA (v:=?_) rfl (by kernel_rfl) (fun _ _ _ h=>h) (by kernel_rfl) ?_ ?_
   rotate_left
   ·intro w;go_simp;try with_reducible rfl
   conv in(Act.put _ _ _)=>simp only[List.getElem_toArray,List.getElem_cons_succ,List.getElem_cons_zero,Act.put,List.setIfInBounds_toArray,List.set_cons_succ,List.set_cons_zero]
   refine plan0 ?_
   refine wpAny_ready (rs:=[16]) (by kernel_rfl) (by simp) ?_
   refine(AllReady.cons rfl (fun K hK=>?_) AllReady.nil)
   go_simp
   refine hK _ _ ?_
   clear hK K
   refine wpAny_ready (rs:=[17]) (by kernel_rfl) (by simp) ?_
   refine(AllReady.cons rfl (fun K hK=>?_) AllReady.nil)
   go_simp
   refine hK _ _ ?_
   clear hK K
   refine wpAny_done (by kernel_rfl) ?_ _
   go_wp2_with fail
   have hZ:(w.alloc (.cells #[.int .u32 0,.int .u32 0,.int .u32 0,.int .u64 0] 91)).heap[w.heap.size]? =some (.cells #[.int .u32 0,.int .u32 0,.int .u32 0,.int .u64 0] 91 (0,0)):=heap_alloc_new w _
   have hP:=fun k=>put_four (w:=(w.alloc (.cells #[.int .u32 0,.int .u32 0,.int .u32 0,.int .u64 0] 91)).drewN k) hZ (.int .u32 a) (.int .u32 b) (.int .u32 c) (.int .u64 d)
   refine bodyPost_ret (results_head rfl _ _ w.heap.size (a,b,c,d) rfl (hP _).1) rfl ?_
   exact⟨by rw[HV.out.1,HV.out.2];rfl,(below_dN ((Below.refl _ w).alloc (Nat.le_refl _) _) _).trans (hP _).2⟩
  ·have HV:Hid (gk s=false∧gv s=zh):=by
    refine(?_:gk s=false∧gv s=zh)
    have e:gk s=false:=by rw[HG.out];simp[hz]
    exact⟨e,by unfold gv;rw[if_neg (by rw[e];decide)]⟩
   have q3:((s.extract 20 24).toList==z4.toList)=false:=by rw[Rp.toList_dec];exact decide_eq_false hz
   generalize s.extract 20 24=y at*
   have e4:z4.toList=[0,0,0,0]:=by kernel_rfl
   rw[e4] at q3
   clear hz HG HH
   go_enter Tryz.func79,Tryz.ntmps79
   go_wp2_with fail
   refine bodyPost_ret (results_head rfl _ _ w.heap.size zh rfl (heap_alloc_new w _)) rfl ?_
   exact⟨by rw[HV.out.1,HV.out.2];rfl,(Below.refl _ w).alloc (Nat.le_refl _) _⟩
 ·have q:((s.size:Int) !=24)=true:=by simp;omega
  have HV:Hid (gv s=zh∧gk s=false):=by
   refine(?_:gv s=zh∧gk s=false)
   simp[gv,gk,hs]
  clear hs
  go_enter Tryz.func79,Tryz.ntmps79
  go_wp2_with fail
  refine bodyPost_ret (results_head rfl _ _ w.heap.size zh rfl (heap_alloc_new w _)) rfl ?_
  exact⟨by rw[HV.out.1,HV.out.2];rfl,(Below.refl _ w).alloc (Nat.le_refl _) _⟩
end Go.Proofs.YtfaflomephjkgaaGreatDoor.Rs
