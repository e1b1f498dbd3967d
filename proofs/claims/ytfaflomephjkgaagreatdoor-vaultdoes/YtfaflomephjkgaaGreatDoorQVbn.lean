/- bent: what is done to both devices. -/
import Derived.Test.YtfaflomephjkgaaGreatDoorQVRN
import Derived.Test.YtfaflomephjkgaaGreatDoorQDM
import Derived.Deep.RegionHeld3
set_option maxRecDepth 100000
set_option maxHeartbeats 8000000
namespace Go.Proofs.YtfaflomephjkgaaGreatDoor.Rv
open Go.RowKit Go.Lib
open Go.Proofs.YtfaflomephjkgaaGreatDoor.Rd (But St Ok Dev Dv pt below_new natOf)
theorem keys_few {s:St} (h:Ok s) (l:List Nat) (hl:Rd.AllKeys s.pd l):l.length≤s.n:=
 Rd.len_le s.n l hl.1 fun p hp=>by
  obtain⟨t,ht⟩:=Option.isSome_iff_exists.1 ((hl.2 p).1 hp)
  exact(h.pd p t ht).1
theorem put_n (s:St) (p:Nat) (t:ByteArray):(Rd.putS s p t).n=s.n:=by unfold Rd.putS;(repeat' split)<;>first|rfl|exact(Rd.opS_tx s).2.2.2.1
theorem bad_n (s:St) (p:Nat) (t:Bool):(Rd.badS s p t).n=s.n:=by unfold Rd.badS;(repeat' split)<;>first|rfl|exact(Rd.opS_tx s).2.2.2.1
theorem wrap_u64 (n:Int):0≤IntKind.u64.wrap n:=by
 simp only[IntKind.wrap]
 rw[if_neg (by simp[IntKind.signed])]
 exact Int.emod_nonneg _ (by decide)
def BentP (w0:World) (A:Pl) (P:Qp) (v:Vs) (t:St) (W:World) (e:Ending) (W':World):Prop:=e=.returned (.bool true)∧∃ t',Both w0 A P v t' W'∧But (fun k=>A.has k∨P.has k) W W'∧t'.n=t.n
theorem bent_put (w0:World) (A:Pl) (P:Qp) (v:Vs) (t:St) (x:Vo) (hx:VoOk x) (w:World) (hb:Both w0 A P v t w) (hm:(IntKind.u64.wrap x.n).tmod 4=0):
  Calls Tryz.prog 36 #[pt A.d,pt P.r,vov x] w (BentP w0 A P v t w):=by
 have b1:=below_new w (.cells #[.int .i64 x.op,.int .u32 (x.p:Int),.int .i64 x.n,.string x.s] 34)
 have v1:=VB.new w x
 obtain⟨W1,hW1⟩:∃ W1,w.alloc (.cells #[.int .i64 x.op,.int .u32 (x.p:Int),.int .i64 x.n,.string x.s] 34)=W1:=⟨_,rfl⟩
 rw[hW1] at b1 v1
 have HW1:Hid _:=hW1
 have HB1:Hid (Both w0 A P v t W1):=hb.below b1
 have HV1:Hid (VB W1 w.heap.size x):=v1
 have HOb:Hid (¬A.has w.heap.size∧¬P.has w.heap.size):=⟨fun e=>by have:=hb.va.has_lt e;omega,fun e=>by have:=hb.vq.has_lt e;omega⟩
 have HX:Hid (VoOk x):=hx
 have HOK:Hid (Ok t):=hb.ok
 have HD:Hid (∀ t' W',Both w0 A P v t' W'→But (fun k=>A.has k∨P.has k) W1 W'→t'.n=t.n→BentP w0 A P v t w (.returned (.bool true)) W'):=fun t' W' h1 h2 h3=>⟨rfl,t',h1,but_below b1 h2,h3⟩
 have c1:=v1.c1
 have c2:=v1.c2
 have c3:=v1.c3
 have HF:Hid (∀ W,_):=fun W=>Rd.filled_any x.s W
 generalize Rd.fillS x.s=T at*
 clear hW1 b1 v1 hb hx
 go_enter Tryz.func36,Tryz.ntmps36
 go_wp2_with (first|(rw[HW1.out];clear HW1))
 go_region_held3 (fun w'=>w'.cell? ⟨w.heap.size,1,none⟩=some (.int .u32 (x.p:Int))∧w'.cell? ⟨w.heap.size,3,none⟩=some (.string x.s)) (first|go_keep|assumption|(refine⟨?_,?_⟩<;>assumption)|(refine⟨?_,?_,?_⟩<;>assumption)) (first
   |(go_at_call 58;refine Calls.mono (Rd.rput_any P.r P.x t x.p HX.out.p1 T w4 h4.vq.dev HOK.out) ?_;rintro e w5 ⟨rfl,r5,b5⟩;have q5:=h4.vq.dev_step r5 b5 (put_n _ _ _);have v5:=v4.but q5.2 HOb.out.2;have y51:=v5.c1;have y53:=v5.c3)
   |(go_at_call 51;refine Calls.mono (HF.out w3) ?_;rintro e w4 ⟨rfl,b4⟩;have h4:=f3.below b4;have v4:=v3.below b4 (Nat.le_refl _);have y41:=v4.c1;have y43:=v4.c3)
   |(go_at_call 57;refine Calls.mono (Rd.put_any A.d A.b A.m t x.p HX.out.p1 T w2 h2.va.dev HOK.out) ?_;rintro e w3 ⟨rfl,d3,b3⟩;have q3:=h2.va.dev_step d3 b3;have f3:=h2.half q3.1 q3.2;have v3:=v2.but q3.2 HOb.out.1;have y31:=v3.c1;have y33:=v3.c3)
   |(go_at_call 51;refine Calls.mono (HF.out _) ?_;rintro e w2 ⟨rfl,b2⟩;have h2:=(HB1.out.below (below_drew W1)).below b2;have v2:=(HV1.out.below (below_drew W1) (Nat.le_refl _)).below b2 (Nat.le_refl _);have y21:=v2.c1;have y23:=v2.c3))
 have HE:Hid (Both w0 A P v (Rd.putS t x.p T) w5∧But (fun k=>A.has k∨P.has k) W1 w5):=⟨h2.whole h4 q5.1 q5.2 rfl (Rd.putS_ok HOK.out _ _),(But.of_below ((below_drew W1).trans (b2.mono (Nat.le_refl _)))).trans (two_buts (q3.2.trans (But.of_below b4)) q5.2)⟩
 clear b2 h2 v2 y21 y23 d3 b3 q3 f3 v3 y31 y33 b4 h4 v4 y41 y43 r5 b5 q5 v5 y51 y53
 go_wp2_with fail
 go_ret
 exact HD.out _ _ HE.out.1 HE.out.2 (put_n _ _ _)
theorem bent_bad (w0:World) (A:Pl) (P:Qp) (v:Vs) (t:St) (x:Vo) (hx:VoOk x) (w:World) (hb:Both w0 A P v t w) (hm:(IntKind.u64.wrap x.n).tmod 4=1):
  Calls Tryz.prog 36 #[pt A.d,pt P.r,vov x] w (BentP w0 A P v t w):=by
 have b1:=below_new w (.cells #[.int .i64 x.op,.int .u32 (x.p:Int),.int .i64 x.n,.string x.s] 34)
 have v1:=VB.new w x
 obtain⟨W1,hW1⟩:∃ W1,w.alloc (.cells #[.int .i64 x.op,.int .u32 (x.p:Int),.int .i64 x.n,.string x.s] 34)=W1:=⟨_,rfl⟩
 rw[hW1] at b1 v1
 have HW1:Hid _:=hW1
 have HB1:Hid (Both w0 A P v t W1):=hb.below b1
 have HV1:Hid (VB W1 w.heap.size x):=v1
 have HOb:Hid (¬A.has w.heap.size∧¬P.has w.heap.size):=⟨fun e=>by have:=hb.va.has_lt e;omega,fun e=>by have:=hb.vq.has_lt e;omega⟩
 have HX:Hid (VoOk x):=hx
 have HOK:Hid (Ok t):=hb.ok
 have HD:Hid (∀ t' W',Both w0 A P v t' W'→But (fun k=>A.has k∨P.has k) W1 W'→t'.n=t.n→BentP w0 A P v t w (.returned (.bool true)) W'):=fun t' W' h1 h2 h3=>⟨rfl,t',h1,but_below b1 h2,h3⟩
 have c1:=v1.c1
 have c2:=v1.c2
 have c3:=v1.c3
 obtain⟨bo,hbo⟩:∃ bo,decide (((x.s.size:Int)).tmod 2=0)=bo:=⟨_,rfl⟩
 clear hW1 b1 v1 hb hx
 go_enter Tryz.func36,Tryz.ntmps36
 go_wp2_with (first|(rw[HW1.out];clear HW1))
 go_region_held3 (fun w'=>w'.cell? ⟨w.heap.size,1,none⟩=some (.int .u32 (x.p:Int))∧w'.cell? ⟨w.heap.size,3,none⟩=some (.string x.s)) (first|go_keep|assumption|(refine⟨?_,?_⟩<;>assumption)|(refine⟨?_,?_,?_⟩<;>assumption)) (first
   |(go_at_call 59;refine Calls.mono (Rd.bad_any A.d A.b A.m t x.p HX.out.p1 _ _ (HB1.out.below (below_drew W1)).va.dev HOK.out) ?_;rintro e w2 ⟨rfl,d2,b2⟩;have h1:=HB1.out.below (below_drew W1);have q2:=h1.va.dev_step d2 b2;have f2:=h1.half q2.1 q2.2;have v2:=(HV1.out.below (below_drew W1) (Nat.le_refl _)).but q2.2 HOb.out.1;have y21:=v2.c1;have y23:=v2.c3)
   |(go_at_call 60;refine Calls.mono (Rd.rbad_any P.r P.x t x.p HX.out.p1 _ w2 f2.vq.dev HOK.out) ?_;rintro e w3 ⟨rfl,r3,b3⟩;have q3:=f2.vq.dev_step r3 b3 (bad_n _ _ _);have v3:=v2.but q3.2 HOb.out.2;have y31:=v3.c1;have y33:=v3.c3))
 have HE:Hid (Both w0 A P v _ w3∧But (fun k=>A.has k∨P.has k) W1 w3):=⟨h1.whole f2 q3.1 q3.2 rfl (Rd.badS_ok HOK.out _ _),(But.of_below (below_drew W1)).trans (two_buts q2.2 q3.2)⟩
 clear h1 q2 d2 b2 f2 v2 y21 y23 r3 b3 q3 v3 y31 y33 hbo
 go_wp2_with fail
 go_ret
 exact HD.out _ _ HE.out.1 HE.out.2 (bad_n _ _ _)
theorem bent_cut (w0:World) (A:Pl) (P:Qp) (v:Vs) (t:St) (x:Vo) (hx:VoOk x) (w:World) (hb:Both w0 A P v t w) (hz:x.s.size≤9223372036854775807) (hm:(IntKind.u64.wrap x.n).tmod 4=2):
  Calls Tryz.prog 36 #[pt A.d,pt P.r,vov x] w (BentP w0 A P v t w):=by
 have b1:=below_new w (.cells #[.int .i64 x.op,.int .u32 (x.p:Int),.int .i64 x.n,.string x.s] 34)
 have v1:=VB.new w x
 obtain⟨W1,hW1⟩:∃ W1,w.alloc (.cells #[.int .i64 x.op,.int .u32 (x.p:Int),.int .i64 x.n,.string x.s] 34)=W1:=⟨_,rfl⟩
 rw[hW1] at b1 v1
 have HW1:Hid _:=hW1
 have HB1:Hid (Both w0 A P v t W1):=hb.below b1
 have HV1:Hid (VB W1 w.heap.size x):=v1
 have HOb:Hid (¬A.has w.heap.size∧¬P.has w.heap.size):=⟨fun e=>by have:=hb.va.has_lt e;omega,fun e=>by have:=hb.vq.has_lt e;omega⟩
 have HX:Hid (VoOk x):=hx
 have HOK:Hid (Ok t):=hb.ok
 have HD:Hid (∀ t' W',Both w0 A P v t' W'→But (fun k=>A.has k∨P.has k) W1 W'→t'.n=t.n→BentP w0 A P v t w (.returned (.bool true)) W'):=fun t' W' h1 h2 h3=>⟨rfl,t',h1,but_below b1 h2,h3⟩
 have c1:=v1.c1
 have c2:=v1.c2
 have c3:=v1.c3
 have HZ:Hid (x.s.size≤9223372036854775807):=hz
 clear hz
 clear hW1 b1 v1 hb hx
 go_enter Tryz.func36,Tryz.ntmps36
 go_wp2_with (first|(rw[HW1.out];clear HW1))
 refine Calls.mono (Rd.cut_any A.d A.b A.m t (x.s.size:Int) W1 HB1.out.va.dev) ?_
 rintro e w2 ⟨rfl,d2,b2⟩
 have q2:=HB1.out.va.dev_step d2 b2
 have HF2:Hid _:=HB1.out.half q2.1 q2.2
 have HQ2:Hid (But A.has W1 w2):=q2.2
 have v2:=HV1.out.but q2.2 HOb.out.1
 have y3:=v2.c3
 clear d2 b2 q2 v2 c1 c2 c3
 go_wp2_with fail
 refine Calls.mono (Rd.rcut_any P.r P.x t (x.s.size:Int) (by omega) (by have:=HZ.out;omega) w2 HF2.out.vq.dev) ?_
 rintro e w3 ⟨rfl,r3,b3⟩
 have q3:=HF2.out.vq.dev_step r3 b3 rfl
 have HE:Hid (Both w0 A P v (Rd.cutS t (x.s.size:Int)) w3∧But (fun k=>A.has k∨P.has k) W1 w3):=⟨HB1.out.whole HF2.out q3.1 q3.2 rfl (Rd.cutS_ok HOK.out _ (by omega) (by have:=HZ.out;omega)),two_buts HQ2.out q3.2⟩
 clear r3 b3 q3 y3
 go_wp2_with fail
 go_ret
 exact HD.out _ _ HE.out.1 HE.out.2 rfl
theorem bent_wake (w0:World) (A:Pl) (P:Qp) (v:Vs) (t:St) (x:Vo) (hx:VoOk x) (w:World) (hb:Both w0 A P v t w) (hn:t.n≤12) (hm:(IntKind.u64.wrap x.n).tmod 4=3):
  Calls Tryz.prog 36 #[pt A.d,pt P.r,vov x] w (BentP w0 A P v t w):=by
 have b1:=below_new w (.cells #[.int .i64 x.op,.int .u32 (x.p:Int),.int .i64 x.n,.string x.s] 34)
 have v1:=VB.new w x
 obtain⟨W1,hW1⟩:∃ W1,w.alloc (.cells #[.int .i64 x.op,.int .u32 (x.p:Int),.int .i64 x.n,.string x.s] 34)=W1:=⟨_,rfl⟩
 rw[hW1] at b1 v1
 have HW1:Hid _:=hW1
 have HB1:Hid (Both w0 A P v t W1):=hb.below b1
 have HV1:Hid (VB W1 w.heap.size x):=v1
 have HOb:Hid (¬A.has w.heap.size∧¬P.has w.heap.size):=⟨fun e=>by have:=hb.va.has_lt e;omega,fun e=>by have:=hb.vq.has_lt e;omega⟩
 have HX:Hid (VoOk x):=hx
 have HOK:Hid (Ok t):=hb.ok
 have HD:Hid (∀ t' W',Both w0 A P v t' W'→But (fun k=>A.has k∨P.has k) W1 W'→t'.n=t.n→BentP w0 A P v t w (.returned (.bool true)) W'):=fun t' W' h1 h2 h3=>⟨rfl,t',h1,but_below b1 h2,h3⟩
 have c1:=v1.c1
 have c2:=v1.c2
 have c3:=v1.c3
 have HN:Hid (t.n≤12):=hn
 have b2:=below_new W1 (.cells #[.int .i64 2] 3)
 have g2:(W1.alloc (.cells #[.int .i64 2] 3)).heap[W1.heap.size]? =some (.cells #[.int .i64 2] 3 (0,0)):=heap_alloc_new W1 _
 obtain⟨W2,hW2⟩:∃ W2,W1.alloc (.cells #[.int .i64 2] 3)=W2:=⟨_,rfl⟩
 rw[hW2] at b2 g2
 have HW2:Hid _:=hW2
 have HB2:Hid (Both w0 A P v t W2):=HB1.out.below b2
 have hfs:Rd.Fs W2 (some ⟨W1.heap.size,0,none⟩) [2]:=fun _=>⟨W1.heap.size,0,rfl,hlt g2,fun i f hi=>by
  match i,hi with
  |0,hi=>rw[cell_of_row _ _ _ _ _ _ g2];simpa using hi
  |i+1,hi=>simp at hi⟩
 have HR:Hid (∀ _:True,_):=fun _=>Rd.rwake_any P.r P.x t [2] (some ⟨W1.heap.size,0,none⟩) 1 W2 HB2.out.vq.dev HOK.out hfs (fun _ a e hh=>by cases e;exact Nat.lt_irrefl _ (HB1.out.vq.dev.own hh))
 have HBW:Hid (Below W1.heap.size W1 W2):=b2
 simp only[List.length_cons,List.length_nil,Nat.zero_add] at HR
 clear hn b2 g2 hW2 hfs
 clear hW1 b1 v1 hb hx
 go_enter Tryz.func36,Tryz.ntmps36
 go_wp2_with (first|(rw[HW1.out];clear HW1))
 try rw[HW2.out]
 try (go_wp2_with (first|(rw[HW2.out];clear HW2)))
 refine Calls.mono (HR.out trivial) ?_
 rintro e w3 ⟨rfl,r3,b3⟩
 have q3:=HB2.out.vq.dev_step r3 b3 (t':=Rd.wakeS t [2]) rfl
 have hf3:=HB2.out.halfR q3.1 q3.2
 have b4:=below_new w3 (.cells #[.int .i64 2] 3)
 have g4:(w3.alloc (.cells #[.int .i64 2] 3)).heap[w3.heap.size]? =some (.cells #[.int .i64 2] 3 (0,0)):=heap_alloc_new w3 _
 obtain⟨W4,hW4⟩:∃ W4,w3.alloc (.cells #[.int .i64 2] 3)=W4:=⟨_,rfl⟩
 rw[hW4] at b4 g4
 have HW4:Hid _:=hW4
 have HH4:Hid _:=hf3.below b4
 have HB4:Hid (But P.has W2 W4):=q3.2.trans (But.of_below b4)
 have hfs:Rd.Fs W4 (some ⟨w3.heap.size,0,none⟩) [2]:=fun _=>⟨w3.heap.size,0,rfl,hlt g4,fun i f hi=>by
  match i,hi with
  |0,hi=>rw[cell_of_row _ _ _ _ _ _ g4];simpa using hi
  |i+1,hi=>simp at hi⟩
 have HE:Hid (∀ _:True,_):=fun _=>Rd.wake_fs 12 (by omega) Rd.sorts_small A.d A.b A.m t [2] (some ⟨w3.heap.size,0,none⟩) 1 W4 HH4.out.va.dev HOK.out (fun l hl=>Nat.le_trans (keys_few HOK.out l hl) HN.out) hfs (fun _ a e hh=>by cases e;exact Nat.lt_irrefl _ (hf3.va.has_lt (.inr (.inr hh))))
 simp only[List.length_cons,List.length_nil,Nat.zero_add] at HE
 clear r3 b3 q3 hf3 b4 g4 hW4 hfs HR c1 c2 c3
 go_wp2_with (first|(rw[HW4.out];clear HW4))
 refine Calls.mono (HE.out trivial) ?_
 rintro e w5 ⟨rfl,d5,b5⟩
 have q5:=HH4.out.va.dev_step d5 b5
 have HZ:Hid (Both w0 A P v (Rd.wakeS t [2]) w5∧But (fun k=>A.has k∨P.has k) W1 w5):=⟨HB2.out.wholeR HH4.out q5.1 q5.2 rfl (Rd.wakeS_ok HOK.out _),(But.of_below HBW.out).trans (two_butsR HB4.out q5.2)⟩
 clear d5 b5 q5 HE
 go_wp2_with fail
 go_ret
 exact HD.out _ _ HZ.out.1 HZ.out.2 rfl
theorem bent_any (w0:World) (A:Pl) (P:Qp) (v:Vs) (t:St) (x:Vo) (hx:VoOk x) (w:World) (hb:Both w0 A P v t w) (hz:x.s.size≤9223372036854775807) (hn:t.n≤12):
  Calls Tryz.prog 36 #[pt A.d,pt P.r,vov x] w (BentP w0 A P v t w):=by
 have h0:0≤(IntKind.u64.wrap x.n).tmod 4∧(IntKind.u64.wrap x.n).tmod 4<4:=by
  have h1:0≤IntKind.u64.wrap x.n:=wrap_u64 x.n
  exact⟨Int.tmod_nonneg _ h1,Int.tmod_lt_of_pos _ (by decide)⟩
 rcases(show(IntKind.u64.wrap x.n).tmod 4=0∨(IntKind.u64.wrap x.n).tmod 4=1∨(IntKind.u64.wrap x.n).tmod 4=2∨(IntKind.u64.wrap x.n).tmod 4=3 by omega) with h|h|h|h
 ·exact bent_put w0 A P v t x hx w hb h
 ·exact bent_bad w0 A P v t x hx w hb h
 ·exact bent_cut w0 A P v t x hx w hb hz h
 ·exact bent_wake w0 A P v t x hx w hb hn h
def wrR (Kt:Nat→Int) (v:Vs) (t:St) (s:ByteArray):(Int × Nat × ByteArray) × Vs × St:=
 if 198<s.size then((50,0,⟨#[]⟩),v,t) else
 match leastS v.tk t.n with
 |none=>((110,0,⟨#[]⟩),v,t)
 |some p=>if putE Kt v t p s=0 then((0,p,putV Kt v t p s),take (putN v p s) p,putT Kt v t p s) else((putE Kt v t p s,0,⟨#[]⟩),putN v p s,putT Kt v t p s)
theorem wr_long {Kt:Nat→Int} {v:Vs} {t:St} {s:ByteArray} (h:198<s.size):wrR Kt v t s=((50,0,⟨#[]⟩),v,t):=by unfold wrR;rw[if_pos h]
theorem wr_full {Kt:Nat→Int} {v:Vs} {t:St} {s:ByteArray} (h:¬198<s.size) (hl:leastS v.tk t.n=none):wrR Kt v t s=((110,0,⟨#[]⟩),v,t):=by unfold wrR;rw[if_neg h,hl]
theorem wr_put {Kt:Nat→Int} {v:Vs} {t:St} {s:ByteArray} (h:¬198<s.size) {p:Nat} (hl:leastS v.tk t.n=some p) (h0:putE Kt v t p s=0):wrR Kt v t s=((0,p,putV Kt v t p s),take (putN v p s) p,putT Kt v t p s):=by
 unfold wrR;rw[if_neg h,hl];show(if _ then _ else _)=_;rw[if_pos h0]
theorem wr_err {Kt:Nat→Int} {v:Vs} {t:St} {s:ByteArray} (h:¬198<s.size) {p:Nat} (hl:leastS v.tk t.n=some p) (h0:putE Kt v t p s≠0):wrR Kt v t s=((putE Kt v t p s,0,⟨#[]⟩),putN v p s,putT Kt v t p s):=by
 unfold wrR;rw[if_neg h,hl];show(if _ then _ else _)=_;rw[if_neg h0]
theorem wr_ok (Kt:Nat→Int) {n k:Nat} {v:Vs} {t:St} (h:Pln n k v t) (hn:n≤4096) (hk:Ok t) (s:ByteArray):Pln n (k+1) (wrR Kt v t s).2.1 (wrR Kt v t s).2.2∧Ok (wrR Kt v t s).2.2∧(wrR Kt v t s).2.1.ring=v.ring∧(wrR Kt v t s).1.2.1≤4294967295:=by
 by_cases hz:198<s.size
 ·rw[wr_long hz];exact⟨h.more (Nat.le_succ _),hk,rfl,Nat.zero_le _⟩
 ·cases hl:leastS v.tk t.n with
  |none=>rw[wr_full hz hl];exact⟨h.more (Nat.le_succ _),hk,rfl,Nat.zero_le _⟩
  |some p=>
   have hl':=hl
   rw[h.nn] at hl'
   obtain⟨l2,ln,lf⟩:=least_is h hl'
   by_cases h0:putE Kt v t p s=0
   ·rw[wr_put hz hl h0]
    exact⟨(h.put Kt p s).take l2 ln (by rw[(putN_tk v p s).1];exact lf),putT_ok Kt hk p s,(putN_tk v p s).2,by show p≤_;omega⟩
   ·rw[wr_err hz hl h0]
    exact⟨h.put Kt p s,putT_ok Kt hk p s,(putN_tk v p s).2,Nat.zero_le _⟩
theorem write_all (Kt:Nat→Int) (A:Pl) (s:ByteArray) (hs2:s.size≤1000) (w:World) {n k:Nat} {v:Vs} {t:St} (h:Pln n k v t) (hn:n≤4096) (hk':k≤1000) (hv:Vlt w A v t) (hk:Ok t) (hT:Rs.Tb Kt w):
  Calls Tryz.prog 13 #[pt A.g,.string s] w fun e w'=>e=.returned (.tuple #[rf (wrR Kt v t s).1.2.1 (wrR Kt v t s).1.2.2,.int .i64 (wrR Kt v t s).1.1])∧Vlt w' A (wrR Kt v t s).2.1 (wrR Kt v t s).2.2∧But A.has w w':=by
 by_cases hz:198<s.size
 ·rw[wr_long hz]
  refine(write_pad A v t s hz (by omega) w hv).mono ?_
  rintro e w' ⟨rfl,b⟩
  exact⟨rfl,hv.below b (Nat.le_refl _),But.of_below b⟩
 ·cases hl:leastS v.tk t.n with
  |none=>
   rw[wr_full hz hl]
   refine(write_full A v t s (by omega) w hv hk hl).mono ?_
   rintro e w' ⟨rfl,b⟩
   exact⟨rfl,hv.below b (Nat.le_refl _),But.of_below b⟩
  |some p=>
   have hl':=hl
   rw[h.nn] at hl'
   obtain⟨l2,ln,lf⟩:=least_is h hl'
   refine(write_put Kt A v t s (by omega) w hv hk hT (p:=p) (h.fits (by omega) (by omega)) (by have:=h.s;omega) hl (by rw[h.nn];exact ln)).mono ?_
   rintro e w' ⟨hh,b⟩
   rcases hh with⟨h0,rfl,v1⟩|⟨h0,rfl,v1⟩
   ·rw[wr_put hz hl h0];exact⟨rfl,v1,b⟩
   ·rw[wr_err hz hl h0];exact⟨rfl,v1,b⟩
theorem wwrite_all (Kt:Nat→Int) (P:Qp) (s:ByteArray) (w:World) {n k:Nat} {v:Vs} {t:St} (h:Pln n k v t) (hn:n≤4096) (hk':k≤1000) (hv:Qlt w P v t) (hk:Ok t) (hT:Rs.Tr Kt w):
  Calls Tryz.prog 22 #[pt P.q,.string s] w fun e w'=>e=.returned (.tuple #[rf (wrR Kt v t s).1.2.1 (wrR Kt v t s).1.2.2,.int .i64 (wrR Kt v t s).1.1])∧Qlt w' P (wrR Kt v t s).2.1 (wrR Kt v t s).2.2∧But P.has w w':=by
 by_cases hz:198<s.size
 ·rw[wr_long hz]
  refine(wwrite_pad P.q s hz w).mono ?_
  rintro e w' ⟨rfl,b⟩
  exact⟨rfl,hv.below b (Nat.le_refl _),But.of_below b⟩
 ·refine(wwrite_any Kt P v t s (by omega) w hv hk hT h.c2 (fun p hp=>h.fits (by omega) (by have:=h.nn;omega)) (by have:=h.s;omega)).mono ?_
  intro e w' hh
  rcases hh with⟨p,hp,hl,hh,b⟩|⟨hl,rfl,b⟩
  ·rcases hh with⟨h0,rfl,v1⟩|⟨h0,rfl,v1⟩
   ·rw[wr_put hz hl h0];exact⟨rfl,v1,b⟩
   ·rw[wr_err hz hl h0];exact⟨rfl,v1,b⟩
  ·rw[wr_full hz hl];exact⟨rfl,hv.below b (Nat.le_refl _),But.of_below b⟩
theorem eql_same (a:Int) (s:ByteArray) (w:World):(binOp .eql 48 (.agg #[.int .u32 a,.string s]) (.agg #[.int .u32 a,.string s])).run Tryz.prog w=.ok (.bool true) w:=by
 have hS:Tryz.prog.underlying 48=some (.struct (Tryz.prog.fieldsOf 48)):=by kernel_rfl
 have hp:Tryz.prog.stoodInHeld 48=false:=by kernel_rfl
 have u2:=Tryz.underlying32
 have u9:=Tryz.underlying9
 rw[run_eql_struct,show(10000:Nat)=9999+1 from rfl,run_equalIn_agg w 9999 48 _ _ hS hp]
 simp only[Program.fieldsOf,Tryz.underlying48]
 go_simp
theorem did_write_ok (Kt:Nat→Int) (w0:World) (base n k:Nat) (hk:k≤1000) (A:Pl) (P:Qp) (v:Vs) (t:St) (l:List (Nat × ByteArray)) (lv:Value) (x:Vo) (hx:VoOk x) (w:World) (hT:Rs.Tb Kt w0) (hR:Rs.Tr Kt w0)
  (hs:Sta w0 base A P v t l lv w) (hp:Pln n k v t) (hm:(IntKind.u64.wrap x.op).tmod 9=0) (hn:n≤4096) (hl:l.length≤100) (hE:(wrR Kt v t (cut2 x.s)).1.1=0):
  Calls Tryz.prog 6 #[pt A.g,pt A.d,pt P.q,lv,vov x] w (DidP w0 base n k A P l):=by
 have b1:=below_new w (.cells #[.int .i64 x.op,.int .u32 (x.p:Int),.int .i64 x.n,.string x.s] 34)
 have v1:=VB.new w x
 obtain⟨W1,hW1⟩:∃ W1,w.alloc (.cells #[.int .i64 x.op,.int .u32 (x.p:Int),.int .i64 x.n,.string x.s] 34)=W1:=⟨_,rfl⟩
 rw[hW1] at b1 v1
 have HW1:Hid _:=hW1
 have HS1:Hid (Sta w0 base A P v t l lv W1):=hs.below b1
 have HV1:Hid (VB W1 w.heap.size x):=v1
 have HOb:Hid (¬A.has w.heap.size∧¬P.has w.heap.size):=⟨fun e=>by have:=hs.hi _ (.inl e);have:=hs.bz;omega,fun e=>by have:=hs.hi _ (.inr e);have:=hs.bz;omega⟩
 have HX:Hid (VoOk x):=hx
 have HP:Hid (Pln n k v t):=hp
 have HT:Hid (Rs.Tb Kt w0):=hT
 have HR:Hid (Rs.Tr Kt w0):=hR
 have HK:Hid (k≤1000):=hk
 have HD:Hid (∀ v' t' l' lv' W',Sta w0 base A P v' t' l' lv' W'→Pln n (k+1) v' t'→l'.length≤l.length+1→DidP w0 base n k A P l (.returned (.tuple #[lv',.bool true])) W'):=fun v' t' l' lv' W' h1 h2 h3=>⟨A,P,v',t',l',lv',rfl,h1,h2,⟨rfl,rfl,rfl⟩,h3⟩
 have HBw:Hid (Below w.heap.size w W1):=b1
 have HC:Hid (∀ W,_):=fun W=>lcut_any x.s W
 have c0:=v1.c0
 have c1:=v1.c1
 have c2:=v1.c2
 have c3:=v1.c3
 have HE:Hid (∀ W,Both w0 A P v t W→_):=fun W h=>write_all Kt A (cut2 x.s) (by have:=cut2_size x.s;omega) W hp hn hk h.va h.ok (h.tb hT)
 have HF:Hid (∀ W v' t',Half w0 A P v t v' t' W→_):=fun W v' t' (h:Half w0 A P v t v' t' W)=>wwrite_all Kt P (cut2 x.s) W hp hn hk h.vq hs.bo.ok (hR.below h.bel (Nat.le_refl _))
 obtain⟨hpl,hok,hrg,hwp⟩:=wr_ok Kt hp hn hs.bo.ok (cut2 x.s)
 have HOwn:Hid (∀ g,lv.ownBlock=some g→g<w.heap.size):=fun g hg=>(own_base hs.row hg).2
 generalize wrR Kt v t (cut2 x.s)=RR at*
 obtain⟨⟨OE,wp,OV⟩,v',t'⟩:=RR
 simp only at HE HF hpl hok hrg hE hwp
 have HPl:Hid _:=hpl
 have HRg:Hid _:=hrg
 have HOk:Hid _:=hok
 have HWp:Hid (wp≤4294967295):=hwp
 have HL:Hid (l.length≤100):=hl
 have heq:=eql_same (wp:Int) OV
 clear hpl hrg hok hl hwp hn
 generalize cut2 x.s=S2 at*
 subst hE
 clear hW1 b1 v1 hT hR hs hp hx hk
 go_enter Tryz.func6,Tryz.ntmps6
 go_wp2_with (first|(rw[HW1.out];clear HW1))
 refine Calls.mono (HC.out W1) ?_
 rintro e W1' ⟨rfl,hw⟩
 have hw':=hw.symm
 clear hw HC
 subst hw'
 have HZ1:Hid (w.heap.size≤W1.heap.size):=HBw.out.size
 go_wp2_with fail
 refine Calls.mono (HE.out _ HS1.out.bo) ?_
 rintro e w2 ⟨rfl,d2,b2⟩
 have hh2:=HS1.out.bo.half d2 b2
 have b3:=below_new w2 (.cells #[.int .u32 (wp:Int),.string OV] 48)
 have g3:FB w2.heap.size (wp:Int) OV (w2.alloc (.cells #[.int .u32 (wp:Int),.string OV] 48)):=heap_alloc_new w2 _
 obtain⟨W3,hW3⟩:∃ W3,w2.alloc (.cells #[.int .u32 (wp:Int),.string OV] 48)=W3:=⟨_,rfl⟩
 rw[hW3] at b3 g3
 have HW3:Hid _:=hW3
 have HH3:Hid (Half w0 A P v t v' t' W3):=hh2.below b3
 have HB3:Hid (But A.has W1 W3):=b2.trans (But.of_below b3)
 have HG3:Hid (FB w2.heap.size (wp:Int) OV W3):=g3
 have HNa:Hid (¬P.has w2.heap.size∧w.heap.size≤w2.heap.size):=⟨fun hh=>by have:=HS1.out.bo.vq.has_lt hh;have:=b2.size;omega,Nat.le_trans HZ1.out b2.size⟩
 clear hh2 d2 b2 b3 g3 hW3 c0 c1 c2 c3 HE
 go_wp2_with (first|(rw[HW3.out];clear HW3))
 refine Calls.mono (HF.out W3 _ _ HH3.out) ?_
 rintro e w4 ⟨rfl,q4,b4⟩
 have hs4:=HS1.out.step (HS1.out.bo.whole HH3.out q4 b4 HRg.out HOk.out) (two_buts HB3.out b4)
 have ga4:=HG3.out.but b4 HNa.out.1
 have b5:=below_new w4 (.cells #[.int .u32 (wp:Int),.string OV] 48)
 have gb5:FB w4.heap.size (wp:Int) OV (w4.alloc (.cells #[.int .u32 (wp:Int),.string OV] 48)):=heap_alloc_new w4 _
 obtain⟨W5,hW5⟩:∃ W5,w4.alloc (.cells #[.int .u32 (wp:Int),.string OV] 48)=W5:=⟨_,rfl⟩
 rw[hW5] at b5 gb5
 have HW5:Hid _:=hW5
 have ga5:=ga4.grow b5
 have HS5:Hid (Sta w0 base A P v' t' l lv W5):=hs4.below b5
 have HNb:Hid (w.heap.size≤w4.heap.size):=Nat.le_trans HNa.out.2 (Nat.le_trans (Nat.le_of_lt (hlt HG3.out)) b4.size)
 obtain⟨-,-,f0,f1⟩:=ga5.facts
 obtain⟨-,-,f2,f3⟩:=gb5.facts
 have la:=hlt ga5
 have lb:=hlt gb5
 have HGa:Hid (FB w2.heap.size (wp:Int) OV W5):=ga5
 have HGb:Hid (FB w4.heap.size (wp:Int) OV W5):=gb5
 clear hs4 q4 b4 ga4 b5 ga5 gb5 hW5 HF
 obtain⟨lv',W6,r1,hs6,b6⟩:=HS5.out.push wp HWp.out OV HL.out HPl.out.ne
 have HS6:Hid (Sta w0 base A P v' t' (l++[(wp,OV)]) lv' W6):=hs6
 have ga6:=HGa.out.but b6 (fun hh=>by have:=HOwn.out _ hh;have:=HNa.out.2;omega)
 have gb6:=HGb.out.but b6 (fun hh=>by have:=HOwn.out _ hh;have:=HNb.out;omega)
 obtain⟨-,-,k0,k1⟩:=ga6.facts
 obtain⟨-,-,k2,k3⟩:=gb6.facts
 have ma:=hlt ga6
 have mb:=hlt gb6
 clear hs6 b6 ga6 gb6
 go_wp2_with (first|(rw[HW5.out];clear HW5)|(at_builtin;refine list_append rfl 29 29 (.tmp 58) (.tmp 60) rfl (vs:=lv) (vx:=.slice (some ⟨W5.heap.size,0,none⟩) 1 1) rfl rfl r1 ?_))
 go_ret2
 exact HD.out _ _ _ _ _ HS6.out HPl.out (by simp)
theorem did_write_no (Kt:Nat→Int) (w0:World) (base n k:Nat) (hk:k≤1000) (A:Pl) (P:Qp) (v:Vs) (t:St) (l:List (Nat × ByteArray)) (lv:Value) (x:Vo) (hx:VoOk x) (w:World) (hT:Rs.Tb Kt w0) (hR:Rs.Tr Kt w0)
  (hs:Sta w0 base A P v t l lv w) (hp:Pln n k v t) (hm:(IntKind.u64.wrap x.op).tmod 9=0) (hn:n≤4096) (hl:l.length≤100) (hE:(wrR Kt v t (cut2 x.s)).1.1≠0):
  Calls Tryz.prog 6 #[pt A.g,pt A.d,pt P.q,lv,vov x] w (DidP w0 base n k A P l):=by
 have b1:=below_new w (.cells #[.int .i64 x.op,.int .u32 (x.p:Int),.int .i64 x.n,.string x.s] 34)
 have v1:=VB.new w x
 obtain⟨W1,hW1⟩:∃ W1,w.alloc (.cells #[.int .i64 x.op,.int .u32 (x.p:Int),.int .i64 x.n,.string x.s] 34)=W1:=⟨_,rfl⟩
 rw[hW1] at b1 v1
 have HW1:Hid _:=hW1
 have HS1:Hid (Sta w0 base A P v t l lv W1):=hs.below b1
 have HV1:Hid (VB W1 w.heap.size x):=v1
 have HOb:Hid (¬A.has w.heap.size∧¬P.has w.heap.size):=⟨fun e=>by have:=hs.hi _ (.inl e);have:=hs.bz;omega,fun e=>by have:=hs.hi _ (.inr e);have:=hs.bz;omega⟩
 have HX:Hid (VoOk x):=hx
 have HP:Hid (Pln n k v t):=hp
 have HT:Hid (Rs.Tb Kt w0):=hT
 have HR:Hid (Rs.Tr Kt w0):=hR
 have HK:Hid (k≤1000):=hk
 have HD:Hid (∀ v' t' l' lv' W',Sta w0 base A P v' t' l' lv' W'→Pln n (k+1) v' t'→l'.length≤l.length+1→DidP w0 base n k A P l (.returned (.tuple #[lv',.bool true])) W'):=fun v' t' l' lv' W' h1 h2 h3=>⟨A,P,v',t',l',lv',rfl,h1,h2,⟨rfl,rfl,rfl⟩,h3⟩
 have HBw:Hid (Below w.heap.size w W1):=b1
 have HC:Hid (∀ W,_):=fun W=>lcut_any x.s W
 have c0:=v1.c0
 have c1:=v1.c1
 have c2:=v1.c2
 have c3:=v1.c3
 have HE:Hid (∀ W,Both w0 A P v t W→_):=fun W h=>write_all Kt A (cut2 x.s) (by have:=cut2_size x.s;omega) W hp hn hk h.va h.ok (h.tb hT)
 have HF:Hid (∀ W v' t',Half w0 A P v t v' t' W→_):=fun W v' t' (h:Half w0 A P v t v' t' W)=>wwrite_all Kt P (cut2 x.s) W hp hn hk h.vq hs.bo.ok (hR.below h.bel (Nat.le_refl _))
 obtain⟨hpl,hok,hrg,hwp⟩:=wr_ok Kt hp hn hs.bo.ok (cut2 x.s)
 have HOwn:Hid (∀ g,lv.ownBlock=some g→g<w.heap.size):=fun g hg=>(own_base hs.row hg).2
 generalize wrR Kt v t (cut2 x.s)=RR at*
 obtain⟨⟨OE,wp,OV⟩,v',t'⟩:=RR
 simp only at HE HF hpl hok hrg hE hwp
 have HPl:Hid _:=hpl
 have HRg:Hid _:=hrg
 have HOk:Hid _:=hok
 have HWp:Hid (wp≤4294967295):=hwp
 have HL:Hid (l.length≤100):=hl
 have heq:=eql_same (wp:Int) OV
 clear hpl hrg hok hl hwp hn
 generalize cut2 x.s=S2 at*
 have hE1:decide (OE=0)=false:=decide_eq_false hE
 have hE2:(OE==0)=false:=by simpa using hE
 clear hW1 b1 v1 hT hR hs hp hx hk
 go_enter Tryz.func6,Tryz.ntmps6
 go_wp2_with (first|(rw[HW1.out];clear HW1))
 refine Calls.mono (HC.out W1) ?_
 rintro e W1' ⟨rfl,hw⟩
 have hw':=hw.symm
 clear hw HC
 subst hw'
 have HZ1:Hid (w.heap.size≤W1.heap.size):=HBw.out.size
 go_wp2_with fail
 refine Calls.mono (HE.out _ HS1.out.bo) ?_
 rintro e w2 ⟨rfl,d2,b2⟩
 have hh2:=HS1.out.bo.half d2 b2
 have b3:=below_new w2 (.cells #[.int .u32 (wp:Int),.string OV] 48)
 have g3:FB w2.heap.size (wp:Int) OV (w2.alloc (.cells #[.int .u32 (wp:Int),.string OV] 48)):=heap_alloc_new w2 _
 obtain⟨W3,hW3⟩:∃ W3,w2.alloc (.cells #[.int .u32 (wp:Int),.string OV] 48)=W3:=⟨_,rfl⟩
 rw[hW3] at b3 g3
 have HW3:Hid _:=hW3
 have HH3:Hid (Half w0 A P v t v' t' W3):=hh2.below b3
 have HB3:Hid (But A.has W1 W3):=b2.trans (But.of_below b3)
 have HG3:Hid (FB w2.heap.size (wp:Int) OV W3):=g3
 have HNa:Hid (¬P.has w2.heap.size∧w.heap.size≤w2.heap.size):=⟨fun hh=>by have:=HS1.out.bo.vq.has_lt hh;have:=b2.size;omega,Nat.le_trans HZ1.out b2.size⟩
 clear hh2 d2 b2 b3 g3 hW3 c0 c1 c2 c3 HE
 go_wp2_with (first|(rw[HW3.out];clear HW3))
 refine Calls.mono (HF.out W3 _ _ HH3.out) ?_
 rintro e w4 ⟨rfl,q4,b4⟩
 have hs4:=HS1.out.step (HS1.out.bo.whole HH3.out q4 b4 HRg.out HOk.out) (two_buts HB3.out b4)
 have ga4:=HG3.out.but b4 HNa.out.1
 have b5:=below_new w4 (.cells #[.int .u32 (wp:Int),.string OV] 48)
 have gb5:FB w4.heap.size (wp:Int) OV (w4.alloc (.cells #[.int .u32 (wp:Int),.string OV] 48)):=heap_alloc_new w4 _
 obtain⟨W5,hW5⟩:∃ W5,w4.alloc (.cells #[.int .u32 (wp:Int),.string OV] 48)=W5:=⟨_,rfl⟩
 rw[hW5] at b5 gb5
 have HW5:Hid _:=hW5
 have ga5:=ga4.grow b5
 have HS5:Hid (Sta w0 base A P v' t' l lv W5):=hs4.below b5
 have HNb:Hid (w.heap.size≤w4.heap.size):=Nat.le_trans HNa.out.2 (Nat.le_trans (Nat.le_of_lt (hlt HG3.out)) b4.size)
 obtain⟨-,-,f0,f1⟩:=ga5.facts
 obtain⟨-,-,f2,f3⟩:=gb5.facts
 have la:=hlt ga5
 have lb:=hlt gb5
 have HGa:Hid (FB w2.heap.size (wp:Int) OV W5):=ga5
 have HGb:Hid (FB w4.heap.size (wp:Int) OV W5):=gb5
 clear hs4 q4 b4 ga4 b5 ga5 gb5 hW5 HF
 go_wp2_with (first|(rw[HW5.out];clear HW5))
 go_ret2
 exact HD.out _ _ _ _ _ HS5.out HPl.out (Nat.le_succ _)
theorem did_super_ok (Kt:Nat→Int) (w0:World) (base n k:Nat) (hk:k≤1000) (A:Pl) (P:Qp) (v:Vs) (t:St) (l:List (Nat × ByteArray)) (lv:Value) (x:Vo) (hx:VoOk x) (w:World) (hT:Rs.Tb Kt w0) (hR:Rs.Tr Kt w0)
  (hs:Sta w0 base A P v t l lv w) (hp:Pln n k v t) (hm:(IntKind.u64.wrap x.op).tmod 9=1) (hl:l.length≤100) (hE:supE Kt v t x.p (cut2 x.s)=0):
  Calls Tryz.prog 6 #[pt A.g,pt A.d,pt P.q,lv,vov x] w (DidP w0 base n k A P l):=by
 have b1:=below_new w (.cells #[.int .i64 x.op,.int .u32 (x.p:Int),.int .i64 x.n,.string x.s] 34)
 have v1:=VB.new w x
 obtain⟨W1,hW1⟩:∃ W1,w.alloc (.cells #[.int .i64 x.op,.int .u32 (x.p:Int),.int .i64 x.n,.string x.s] 34)=W1:=⟨_,rfl⟩
 rw[hW1] at b1 v1
 have HW1:Hid _:=hW1
 have HS1:Hid (Sta w0 base A P v t l lv W1):=hs.below b1
 have HV1:Hid (VB W1 w.heap.size x):=v1
 have HOb:Hid (¬A.has w.heap.size∧¬P.has w.heap.size):=⟨fun e=>by have:=hs.hi _ (.inl e);have:=hs.bz;omega,fun e=>by have:=hs.hi _ (.inr e);have:=hs.bz;omega⟩
 have HX:Hid (VoOk x):=hx
 have HP:Hid (Pln n k v t):=hp
 have HT:Hid (Rs.Tb Kt w0):=hT
 have HR:Hid (Rs.Tr Kt w0):=hR
 have HK:Hid (k≤1000):=hk
 have HD:Hid (∀ v' t' l' lv' W',Sta w0 base A P v' t' l' lv' W'→Pln n (k+1) v' t'→l'.length≤l.length+1→DidP w0 base n k A P l (.returned (.tuple #[lv',.bool true])) W'):=fun v' t' l' lv' W' h1 h2 h3=>⟨A,P,v',t',l',lv',rfl,h1,h2,⟨rfl,rfl,rfl⟩,h3⟩
 have HBw:Hid (Below w.heap.size w W1):=b1
 have HC:Hid (∀ W,_):=fun W=>lcut_any x.s W
 have c0:=v1.c0
 have c1:=v1.c1
 have c2:=v1.c2
 have c3:=v1.c3
 have HE:Hid (∀ W,Both w0 A P v t W→_):=fun W h=>super_any Kt A v t x.p (cut2 x.s) W h.va h.ok (h.tb hT) (fun h2=>hp.fits (by omega) (by omega)) (by have:=hp.s;omega)
 have HF:Hid (∀ W v' t',Half w0 A P v t v' t' W→_):=fun W v' t' (h:Half w0 A P v t v' t' W)=>wsuper_any Kt P v t x.p (cut2 x.s) W h.vq hs.bo.ok (hR.below h.bel (Nat.le_refl _)) (fun h2=>hp.fits (by omega) (by omega)) (by have:=hp.s;omega) hp.f
 obtain⟨hpl,hok,hrg⟩:=sup_ok Kt hp hs.bo.ok x.p (cut2 x.s)
 have HPl:Hid _:=hpl
 have HRg:Hid _:=hrg
 have HOk:Hid _:=hok
 have HL:Hid (l.length≤100):=hl
 clear hpl hrg hok hl
 generalize supN v x.p (cut2 x.s)=v' at*
 generalize supT Kt v t x.p (cut2 x.s)=t' at*
 generalize supV Kt v t x.p (cut2 x.s)=OV at*
 generalize supE Kt v t x.p (cut2 x.s)=OE at*
 generalize cut2 x.s=S2 at*
 subst hE
 clear hW1 b1 v1 hT hR hs hp hx hk
 go_enter Tryz.func6,Tryz.ntmps6
 go_wp2_with (first|(rw[HW1.out];clear HW1))
 refine Calls.mono (HC.out W1) ?_
 rintro e W1' ⟨rfl,hw⟩
 have hw':=hw.symm
 clear hw HC
 subst hw'
 obtain⟨ob,hob⟩:∃ ob,w.heap.size=ob:=⟨_,rfl⟩
 rw[hob] at c0 c1 c2 c3 HV1 HOb
 generalize w.heap.size=ob' at*
 subst hob
 go_wp2_with fail
 refine Calls.mono (HE.out _ HS1.out.bo) ?_
 rintro e w2 ⟨rfl,d2,b2⟩
 have HH2:Hid (Half w0 A P v t v' t' w2):=HS1.out.bo.half d2 b2
 have HV2:Hid (VB w2 ob' x):=HV1.out.but b2 HOb.out.1
 have HB2:Hid (But A.has W1 w2):=b2
 have y1:=HV2.out.c1
 clear d2 b2 c0 c1 c2 c3 HE
 go_wp2_with fail
 refine Calls.mono (HF.out w2 _ _ HH2.out) ?_
 rintro e w3 ⟨rfl,q3,b3⟩
 have HS3:Hid (Sta w0 base A P v' t' l lv w3):=HS1.out.step (HS1.out.bo.whole HH2.out q3 b3 HRg.out HOk.out) (two_buts HB2.out b3)
 have HV3:Hid (VB w3 ob' x):=HV2.out.but b3 HOb.out.2
 have y1:=HV3.out.c1
 clear q3 b3 HF
 obtain⟨lv',W4,r1,hs4,b4⟩:=HS3.out.push x.p HX.out.p1 OV HL.out HPl.out.ne
 have HS4:Hid (Sta w0 base A P v' t' (l++[(x.p,OV)]) lv' W4):=hs4
 clear hs4 b4
 go_wp2_with (first|(at_builtin;refine list_append rfl 29 29 (.tmp 91) (.tmp 96) rfl (vs:=lv) (vx:=.slice (some ⟨w3.heap.size,0,none⟩) 1 1) rfl rfl r1 ?_))
 go_ret2
 exact HD.out _ _ _ _ _ HS4.out HPl.out (by simp)
theorem did_super_no (Kt:Nat→Int) (w0:World) (base n k:Nat) (hk:k≤1000) (A:Pl) (P:Qp) (v:Vs) (t:St) (l:List (Nat × ByteArray)) (lv:Value) (x:Vo) (hx:VoOk x) (w:World) (hT:Rs.Tb Kt w0) (hR:Rs.Tr Kt w0)
  (hs:Sta w0 base A P v t l lv w) (hp:Pln n k v t) (hm:(IntKind.u64.wrap x.op).tmod 9=1) (hl:l.length≤100) (hE:supE Kt v t x.p (cut2 x.s)≠0):
  Calls Tryz.prog 6 #[pt A.g,pt A.d,pt P.q,lv,vov x] w (DidP w0 base n k A P l):=by
 have b1:=below_new w (.cells #[.int .i64 x.op,.int .u32 (x.p:Int),.int .i64 x.n,.string x.s] 34)
 have v1:=VB.new w x
 obtain⟨W1,hW1⟩:∃ W1,w.alloc (.cells #[.int .i64 x.op,.int .u32 (x.p:Int),.int .i64 x.n,.string x.s] 34)=W1:=⟨_,rfl⟩
 rw[hW1] at b1 v1
 have HW1:Hid _:=hW1
 have HS1:Hid (Sta w0 base A P v t l lv W1):=hs.below b1
 have HV1:Hid (VB W1 w.heap.size x):=v1
 have HOb:Hid (¬A.has w.heap.size∧¬P.has w.heap.size):=⟨fun e=>by have:=hs.hi _ (.inl e);have:=hs.bz;omega,fun e=>by have:=hs.hi _ (.inr e);have:=hs.bz;omega⟩
 have HX:Hid (VoOk x):=hx
 have HP:Hid (Pln n k v t):=hp
 have HT:Hid (Rs.Tb Kt w0):=hT
 have HR:Hid (Rs.Tr Kt w0):=hR
 have HK:Hid (k≤1000):=hk
 have HD:Hid (∀ v' t' l' lv' W',Sta w0 base A P v' t' l' lv' W'→Pln n (k+1) v' t'→l'.length≤l.length+1→DidP w0 base n k A P l (.returned (.tuple #[lv',.bool true])) W'):=fun v' t' l' lv' W' h1 h2 h3=>⟨A,P,v',t',l',lv',rfl,h1,h2,⟨rfl,rfl,rfl⟩,h3⟩
 have HBw:Hid (Below w.heap.size w W1):=b1
 have HC:Hid (∀ W,_):=fun W=>lcut_any x.s W
 have c0:=v1.c0
 have c1:=v1.c1
 have c2:=v1.c2
 have c3:=v1.c3
 have HE:Hid (∀ W,Both w0 A P v t W→_):=fun W h=>super_any Kt A v t x.p (cut2 x.s) W h.va h.ok (h.tb hT) (fun h2=>hp.fits (by omega) (by omega)) (by have:=hp.s;omega)
 have HF:Hid (∀ W v' t',Half w0 A P v t v' t' W→_):=fun W v' t' (h:Half w0 A P v t v' t' W)=>wsuper_any Kt P v t x.p (cut2 x.s) W h.vq hs.bo.ok (hR.below h.bel (Nat.le_refl _)) (fun h2=>hp.fits (by omega) (by omega)) (by have:=hp.s;omega) hp.f
 obtain⟨hpl,hok,hrg⟩:=sup_ok Kt hp hs.bo.ok x.p (cut2 x.s)
 have HPl:Hid _:=hpl
 have HRg:Hid _:=hrg
 have HOk:Hid _:=hok
 have HL:Hid (l.length≤100):=hl
 clear hpl hrg hok hl
 generalize supN v x.p (cut2 x.s)=v' at*
 generalize supT Kt v t x.p (cut2 x.s)=t' at*
 generalize supV Kt v t x.p (cut2 x.s)=OV at*
 generalize supE Kt v t x.p (cut2 x.s)=OE at*
 generalize cut2 x.s=S2 at*
 have hE1:decide (OE=0)=false:=decide_eq_false hE
 have hE2:(OE==0)=false:=by simpa using hE
 clear hW1 b1 v1 hT hR hs hp hx hk
 go_enter Tryz.func6,Tryz.ntmps6
 go_wp2_with (first|(rw[HW1.out];clear HW1))
 refine Calls.mono (HC.out W1) ?_
 rintro e W1' ⟨rfl,hw⟩
 have hw':=hw.symm
 clear hw HC
 subst hw'
 obtain⟨ob,hob⟩:∃ ob,w.heap.size=ob:=⟨_,rfl⟩
 rw[hob] at c0 c1 c2 c3 HV1 HOb
 generalize w.heap.size=ob' at*
 subst hob
 go_wp2_with fail
 refine Calls.mono (HE.out _ HS1.out.bo) ?_
 rintro e w2 ⟨rfl,d2,b2⟩
 have HH2:Hid (Half w0 A P v t v' t' w2):=HS1.out.bo.half d2 b2
 have HV2:Hid (VB w2 ob' x):=HV1.out.but b2 HOb.out.1
 have HB2:Hid (But A.has W1 w2):=b2
 have y1:=HV2.out.c1
 clear d2 b2 c0 c1 c2 c3 HE
 go_wp2_with fail
 refine Calls.mono (HF.out w2 _ _ HH2.out) ?_
 rintro e w3 ⟨rfl,q3,b3⟩
 have HS3:Hid (Sta w0 base A P v' t' l lv w3):=HS1.out.step (HS1.out.bo.whole HH2.out q3 b3 HRg.out HOk.out) (two_buts HB2.out b3)
 have HV3:Hid (VB w3 ob' x):=HV2.out.but b3 HOb.out.2
 have y1:=HV3.out.c1
 clear q3 b3 HF
 go_wp2_with fail
 go_ret2
 exact HD.out _ _ _ _ _ HS3.out HPl.out (Nat.le_succ _)
theorem did_read (Kt:Nat→Int) (w0:World) (base n k:Nat) (hk:k≤1000) (A:Pl) (P:Qp) (v:Vs) (t:St) (l:List (Nat × ByteArray)) (lv:Value) (x:Vo) (hx:VoOk x) (w:World) (hT:Rs.Tb Kt w0) (hR:Rs.Tr Kt w0)
  (hs:Sta w0 base A P v t l lv w) (hp:Pln n k v t) (hm:(IntKind.u64.wrap x.op).tmod 9=2):
  Calls Tryz.prog 6 #[pt A.g,pt A.d,pt P.q,lv,vov x] w (DidP w0 base n k A P l):=by
 have b1:=below_new w (.cells #[.int .i64 x.op,.int .u32 (x.p:Int),.int .i64 x.n,.string x.s] 34)
 have v1:=VB.new w x
 obtain⟨W1,hW1⟩:∃ W1,w.alloc (.cells #[.int .i64 x.op,.int .u32 (x.p:Int),.int .i64 x.n,.string x.s] 34)=W1:=⟨_,rfl⟩
 rw[hW1] at b1 v1
 have HW1:Hid _:=hW1
 have HS1:Hid (Sta w0 base A P v t l lv W1):=hs.below b1
 have HV1:Hid (VB W1 w.heap.size x):=v1
 have HOb:Hid (¬A.has w.heap.size∧¬P.has w.heap.size):=⟨fun e=>by have:=hs.hi _ (.inl e);have:=hs.bz;omega,fun e=>by have:=hs.hi _ (.inr e);have:=hs.bz;omega⟩
 have HX:Hid (VoOk x):=hx
 have HP:Hid (Pln n k v t):=hp
 have HT:Hid (Rs.Tb Kt w0):=hT
 have HR:Hid (Rs.Tr Kt w0):=hR
 have HK:Hid (k≤1000):=hk
 have HD:Hid (∀ v' t' l' lv' W',Sta w0 base A P v' t' l' lv' W'→Pln n (k+1) v' t'→l'.length≤l.length+1→DidP w0 base n k A P l (.returned (.tuple #[lv',.bool true])) W'):=fun v' t' l' lv' W' h1 h2 h3=>⟨A,P,v',t',l',lv',rfl,h1,h2,⟨rfl,rfl,rfl⟩,h3⟩
 have HBw:Hid (Below w.heap.size w W1):=b1
 have HC:Hid (∀ W,_):=fun W=>lcut_any x.s W
 have c0:=v1.c0
 have c1:=v1.c1
 have c2:=v1.c2
 have c3:=v1.c3
 have HRf:Hid (∀ W:World,W.ownsRow base 48 2 lv l.length (rfs l)→_):=fun W h=>refOf_any l lv x base W h
 have HE:Hid (∀ W,Both w0 A P v t W→_):=fun W h=>read_any Kt A v t (refS l x).1 (refS_le l hs.rl x hx.p1) (refS l x).2 W h.va h.ok (h.tb hT)
 have HF:Hid (∀ W,Both w0 A P v t W→_):=fun W h=>wread_any Kt P v t (refS l x).1 (refS_le l hs.rl x hx.p1) (refS l x).2 W h.vq h.ok (h.tr hR)
 generalize refS l x=r at*
 obtain⟨rp,rs⟩:=r
 simp only at HRf HE HF
 generalize pgS Kt v t rp rs=OS at*
 generalize pgE Kt v t rp rs=OE at*
 generalize cut2 x.s=S2 at*
 clear hW1 b1 v1 hT hR hs hp hx hk
 go_enter Tryz.func6,Tryz.ntmps6
 go_wp2_with (first|(rw[HW1.out];clear HW1))
 refine Calls.mono (HC.out W1) ?_
 rintro e W1' ⟨rfl,hw⟩
 have hw':=hw.symm
 clear hw HC
 subst hw'
 go_wp2_with fail
 refine Calls.mono (HRf.out W1 HS1.out.row) ?_
 rintro e w2 ⟨rfl,b2⟩
 have HS2:Hid (Sta w0 base A P v t l lv w2):=HS1.out.below b2
 have HV2:Hid (VB w2 w.heap.size x):=HV1.out.below b2 (Nat.le_refl _)
 clear b2 c0 c1 c2 c3
 go_wp2_with fail
 refine Calls.mono (HE.out w2 HS2.out.bo) ?_
 rintro e w3 ⟨rfl,b3⟩
 have HS3:Hid (Sta w0 base A P v t l lv w3):=HS2.out.below b3
 have v3:=HV2.out.below b3 (Nat.le_refl _)
 have c0:=v3.c0
 have c1:=v3.c1
 have c2:=v3.c2
 have c3:=v3.c3
 clear b3 v3
 go_wp2_with fail
 refine Calls.mono (HRf.out w3 HS3.out.row) ?_
 rintro e w4 ⟨rfl,b4⟩
 have HS4:Hid (Sta w0 base A P v t l lv w4):=HS3.out.below b4
 clear b4 c0 c1 c2 c3
 go_wp2_with fail
 refine Calls.mono (HF.out w4 HS4.out.bo) ?_
 rintro e w5 ⟨rfl,b5⟩
 have HS5:Hid (Sta w0 base A P v t l lv w5):=HS4.out.below b5
 clear b5
 go_wp2_with fail
 go_ret2
 exact HD.out _ _ _ _ _ HS5.out (HP.out.more (Nat.le_succ _)) (Nat.le_succ _)
theorem did_first (Kt:Nat→Int) (w0:World) (base n k:Nat) (hk:k≤1000) (A:Pl) (P:Qp) (v:Vs) (t:St) (l:List (Nat × ByteArray)) (lv:Value) (x:Vo) (hx:VoOk x) (w:World) (hT:Rs.Tb Kt w0) (hR:Rs.Tr Kt w0)
  (hs:Sta w0 base A P v t l lv w) (hp:Pln n k v t) (hm:(IntKind.u64.wrap x.op).tmod 9=3):
  Calls Tryz.prog 6 #[pt A.g,pt A.d,pt P.q,lv,vov x] w (DidP w0 base n k A P l):=by
 have b1:=below_new w (.cells #[.int .i64 x.op,.int .u32 (x.p:Int),.int .i64 x.n,.string x.s] 34)
 have v1:=VB.new w x
 obtain⟨W1,hW1⟩:∃ W1,w.alloc (.cells #[.int .i64 x.op,.int .u32 (x.p:Int),.int .i64 x.n,.string x.s] 34)=W1:=⟨_,rfl⟩
 rw[hW1] at b1 v1
 have HW1:Hid _:=hW1
 have HS1:Hid (Sta w0 base A P v t l lv W1):=hs.below b1
 have HV1:Hid (VB W1 w.heap.size x):=v1
 have HOb:Hid (¬A.has w.heap.size∧¬P.has w.heap.size):=⟨fun e=>by have:=hs.hi _ (.inl e);have:=hs.bz;omega,fun e=>by have:=hs.hi _ (.inr e);have:=hs.bz;omega⟩
 have HX:Hid (VoOk x):=hx
 have HP:Hid (Pln n k v t):=hp
 have HT:Hid (Rs.Tb Kt w0):=hT
 have HR:Hid (Rs.Tr Kt w0):=hR
 have HK:Hid (k≤1000):=hk
 have HD:Hid (∀ v' t' l' lv' W',Sta w0 base A P v' t' l' lv' W'→Pln n (k+1) v' t'→l'.length≤l.length+1→DidP w0 base n k A P l (.returned (.tuple #[lv',.bool true])) W'):=fun v' t' l' lv' W' h1 h2 h3=>⟨A,P,v',t',l',lv',rfl,h1,h2,⟨rfl,rfl,rfl⟩,h3⟩
 have HBw:Hid (Below w.heap.size w W1):=b1
 have HC:Hid (∀ W,_):=fun W=>lcut_any x.s W
 have c0:=v1.c0
 have c1:=v1.c1
 have c2:=v1.c2
 have c3:=v1.c3
 have HRf:Hid (∀ W:World,W.ownsRow base 48 2 lv l.length (rfs l)→_):=fun W h=>refOf_any l lv x base W h
 have HE:Hid (∀ W,Both w0 A P v t W→_):=fun W h=>first_any Kt A v t (refS l x).1 (refS_le l hs.rl x hx.p1) (refS l x).2 W h.va h.ok (h.tb hT)
 have HF:Hid (∀ W,Both w0 A P v t W→_):=fun W h=>wfirst_any Kt P v t (refS l x).1 (refS_le l hs.rl x hx.p1) (refS l x).2 W h.vq h.ok (h.tr hR)
 generalize refS l x=r at*
 obtain⟨rp,rs⟩:=r
 simp only at HRf HE HF
 generalize opS Kt v t rp rs=OS at*
 generalize opE Kt v t rp rs=OE at*
 generalize cut2 x.s=S2 at*
 clear hW1 b1 v1 hT hR hs hp hx hk
 go_enter Tryz.func6,Tryz.ntmps6
 go_wp2_with (first|(rw[HW1.out];clear HW1))
 refine Calls.mono (HC.out W1) ?_
 rintro e W1' ⟨rfl,hw⟩
 have hw':=hw.symm
 clear hw HC
 subst hw'
 go_wp2_with fail
 refine Calls.mono (HRf.out W1 HS1.out.row) ?_
 rintro e w2 ⟨rfl,b2⟩
 have hs2:=HS1.out.below b2
 have b3:=below_new w2 (.cells #[.int .u32 (rp:Int),.string rs] 48)
 have g3:FB w2.heap.size (rp:Int) rs (w2.alloc (.cells #[.int .u32 (rp:Int),.string rs] 48)):=heap_alloc_new w2 _
 obtain⟨W3,hW3⟩:∃ W3,w2.alloc (.cells #[.int .u32 (rp:Int),.string rs] 48)=W3:=⟨_,rfl⟩
 rw[hW3] at b3 g3
 have HW3:Hid _:=hW3
 have HS3:Hid (Sta w0 base A P v t l lv W3):=hs2.below b3
 have HG3:Hid (FB w2.heap.size (rp:Int) rs W3):=g3
 obtain⟨-,-,f0,f1⟩:=g3.facts
 have m3:=hlt g3
 clear hs2 b2 b3 g3 hW3 c0 c1 c2 c3
 go_wp2_with (first|(rw[HW3.out];clear HW3))
 refine Calls.mono (HE.out W3 HS3.out.bo) ?_
 rintro e w4 ⟨rfl,b4⟩
 have HS4:Hid (Sta w0 base A P v t l lv w4):=HS3.out.below b4
 have g4:=HG3.out.grow b4
 obtain⟨-,-,f0,f1⟩:=g4.facts
 have m4:=hlt g4
 clear b4 g4
 go_wp2_with fail
 refine Calls.mono (HF.out w4 HS4.out.bo) ?_
 rintro e w5 ⟨rfl,b5⟩
 have HS5:Hid (Sta w0 base A P v t l lv w5):=HS4.out.below b5
 clear b5
 go_wp2_with fail
 go_ret2
 exact HD.out _ _ _ _ _ HS5.out (HP.out.more (Nat.le_succ _)) (Nat.le_succ _)
theorem wtake_any (P:Qp) (v:Vs) (t:St) (p:Nat) (hp:p≤4294967295) (w:World) (h:Qlt w P v t) (hk:Ok t):
  Calls Tryz.prog 30 #[pt P.q,.int .u32 (p:Int)] w fun e w'=>e=.returned (.int .i64 (takeE v t p))∧Qlt w' P (if takeE v t p=0 then take v p else v) t∧But P.has w w':=wmark_any true P v t p hp w h hk
theorem wgive_any (P:Qp) (v:Vs) (t:St) (p:Nat) (hp:p≤4294967295) (w:World) (h:Qlt w P v t) (hk:Ok t):
  Calls Tryz.prog 31 #[pt P.q,.int .u32 (p:Int)] w fun e w'=>e=.returned (.int .i64 (giveE v t p))∧Qlt w' P (if giveE v t p=0 then give v p else v) t∧But P.has w w':=wmark_any false P v t p hp w h hk
theorem pln_take {n k:Nat} {v:Vs} {t:St} (h:Pln n k v t) (p:Nat):Pln n (k+1) (if takeE v t p=0 then take v p else v) t∧(if takeE v t p=0 then take v p else v).ring=v.ring:=by
 split
 ·rename_i he
  unfold takeE at he
  split at he
  ·rename_i hh
   obtain⟨h1,h2⟩:=hh
   unfold plcB at h1
   rw[Bool.and_eq_true,decide_eq_true_eq,decide_eq_true_eq,h.nn] at h1
   exact⟨(h.take h1.1 h1.2 h2).more (Nat.le_succ _),rfl⟩
  ·omega
 ·exact⟨h.more (Nat.le_succ _),rfl⟩
theorem pln_give {n k:Nat} {v:Vs} {t:St} (h:Pln n k v t) (p:Nat):Pln n (k+1) (if giveE v t p=0 then give v p else v) t∧(if giveE v t p=0 then give v p else v).ring=v.ring:=by
 split
 ·rename_i he
  unfold giveE at he
  split at he
  ·rename_i hh
   obtain⟨h1,h2⟩:=hh
   unfold plcB at h1
   rw[Bool.and_eq_true,decide_eq_true_eq,decide_eq_true_eq,h.nn] at h1
   exact⟨(h.give h1.1 h1.2 h2).more (Nat.le_succ _),rfl⟩
  ·omega
 ·exact⟨h.more (Nat.le_succ _),rfl⟩
theorem did_take (Kt:Nat→Int) (w0:World) (base n k:Nat) (hk:k≤1000) (A:Pl) (P:Qp) (v:Vs) (t:St) (l:List (Nat × ByteArray)) (lv:Value) (x:Vo) (hx:VoOk x) (w:World) (hT:Rs.Tb Kt w0) (hR:Rs.Tr Kt w0)
  (hs:Sta w0 base A P v t l lv w) (hp:Pln n k v t) (hm:(IntKind.u64.wrap x.op).tmod 9=4):
  Calls Tryz.prog 6 #[pt A.g,pt A.d,pt P.q,lv,vov x] w (DidP w0 base n k A P l):=by
 have b1:=below_new w (.cells #[.int .i64 x.op,.int .u32 (x.p:Int),.int .i64 x.n,.string x.s] 34)
 have v1:=VB.new w x
 obtain⟨W1,hW1⟩:∃ W1,w.alloc (.cells #[.int .i64 x.op,.int .u32 (x.p:Int),.int .i64 x.n,.string x.s] 34)=W1:=⟨_,rfl⟩
 rw[hW1] at b1 v1
 have HW1:Hid _:=hW1
 have HS1:Hid (Sta w0 base A P v t l lv W1):=hs.below b1
 have HV1:Hid (VB W1 w.heap.size x):=v1
 have HOb:Hid (¬A.has w.heap.size∧¬P.has w.heap.size):=⟨fun e=>by have:=hs.hi _ (.inl e);have:=hs.bz;omega,fun e=>by have:=hs.hi _ (.inr e);have:=hs.bz;omega⟩
 have HX:Hid (VoOk x):=hx
 have HP:Hid (Pln n k v t):=hp
 have HT:Hid (Rs.Tb Kt w0):=hT
 have HR:Hid (Rs.Tr Kt w0):=hR
 have HK:Hid (k≤1000):=hk
 have HD:Hid (∀ v' t' l' lv' W',Sta w0 base A P v' t' l' lv' W'→Pln n (k+1) v' t'→l'.length≤l.length+1→DidP w0 base n k A P l (.returned (.tuple #[lv',.bool true])) W'):=fun v' t' l' lv' W' h1 h2 h3=>⟨A,P,v',t',l',lv',rfl,h1,h2,⟨rfl,rfl,rfl⟩,h3⟩
 have HBw:Hid (Below w.heap.size w W1):=b1
 have HC:Hid (∀ W,_):=fun W=>lcut_any x.s W
 have c0:=v1.c0
 have c1:=v1.c1
 have c2:=v1.c2
 have c3:=v1.c3
 have HE:Hid (∀ W,Both w0 A P v t W→_):=fun W h=>take_any A v t x.p hx.p1 W h.va h.ok
 have HF:Hid (∀ W v' t',Half w0 A P v t v' t' W→_):=fun W v' t' (h:Half w0 A P v t v' t' W)=>wtake_any P v t x.p hx.p1 W h.vq hs.bo.ok
 obtain⟨hpl,hrg⟩:=pln_take hp x.p
 have HPl:Hid _:=hpl
 have HRg:Hid _:=hrg
 clear hpl hrg
 generalize (if takeE v t x.p=0 then take v x.p else v)=v' at*
 generalize takeE v t x.p=OE at*
 generalize cut2 x.s=S2 at*
 clear hW1 b1 v1 hT hR hs hp hx hk
 go_enter Tryz.func6,Tryz.ntmps6
 go_wp2_with (first|(rw[HW1.out];clear HW1))
 refine Calls.mono (HC.out W1) ?_
 rintro e W1' ⟨rfl,hw⟩
 have hw':=hw.symm
 clear hw HC
 subst hw'
 have HSd:Hid (Sta w0 base A P v t l lv W1.drew):=HS1.out.below (below_drew W1)
 have HVd:Hid (VB W1.drew w.heap.size x):=HV1.out.below (below_drew W1) (Nat.le_refl _)
 obtain⟨ob,hob⟩:∃ ob,w.heap.size=ob:=⟨_,rfl⟩
 rw[hob] at c0 c1 c2 c3 HVd HOb
 generalize w.heap.size=ob' at*
 subst hob
 go_wp2_with fail
 go_region_held3 (fun w'=>w'.cell? ⟨ob',1,none⟩=some (.int .u32 (x.p:Int))) (first|go_keep|assumption|(refine⟨?_,?_⟩<;>assumption)|(refine⟨?_,?_,?_⟩<;>assumption)) (first
   |(go_at_call 29;refine Calls.mono (HE.out _ HSd.out.bo) ?_;rintro e w2 ⟨rfl,d2,b2⟩;have f2:=HSd.out.bo.half d2 b2;have y21:=(HVd.out.but b2 HOb.out.1).c1)
   |(go_at_call 30;refine Calls.mono (HF.out w2 _ _ f2) ?_;rintro e w3 ⟨rfl,q3,b3⟩;have y31:=((HVd.out.but b2 HOb.out.1).but b3 HOb.out.2).c1))
 have HS3:Hid (Sta w0 base A P v' t l lv w3):=HSd.out.step (HSd.out.bo.whole f2 q3 b3 HRg.out HSd.out.bo.ok) (two_buts b2 b3)
 clear d2 b2 q3 b3 f2 y21 y31
 go_wp2_with fail
 go_ret2
 exact HD.out _ _ _ _ _ HS3.out HPl.out (Nat.le_succ _)
theorem did_give (Kt:Nat→Int) (w0:World) (base n k:Nat) (hk:k≤1000) (A:Pl) (P:Qp) (v:Vs) (t:St) (l:List (Nat × ByteArray)) (lv:Value) (x:Vo) (hx:VoOk x) (w:World) (hT:Rs.Tb Kt w0) (hR:Rs.Tr Kt w0)
  (hs:Sta w0 base A P v t l lv w) (hp:Pln n k v t) (hm:(IntKind.u64.wrap x.op).tmod 9=5):
  Calls Tryz.prog 6 #[pt A.g,pt A.d,pt P.q,lv,vov x] w (DidP w0 base n k A P l):=by
 have b1:=below_new w (.cells #[.int .i64 x.op,.int .u32 (x.p:Int),.int .i64 x.n,.string x.s] 34)
 have v1:=VB.new w x
 obtain⟨W1,hW1⟩:∃ W1,w.alloc (.cells #[.int .i64 x.op,.int .u32 (x.p:Int),.int .i64 x.n,.string x.s] 34)=W1:=⟨_,rfl⟩
 rw[hW1] at b1 v1
 have HW1:Hid _:=hW1
 have HS1:Hid (Sta w0 base A P v t l lv W1):=hs.below b1
 have HV1:Hid (VB W1 w.heap.size x):=v1
 have HOb:Hid (¬A.has w.heap.size∧¬P.has w.heap.size):=⟨fun e=>by have:=hs.hi _ (.inl e);have:=hs.bz;omega,fun e=>by have:=hs.hi _ (.inr e);have:=hs.bz;omega⟩
 have HX:Hid (VoOk x):=hx
 have HP:Hid (Pln n k v t):=hp
 have HT:Hid (Rs.Tb Kt w0):=hT
 have HR:Hid (Rs.Tr Kt w0):=hR
 have HK:Hid (k≤1000):=hk
 have HD:Hid (∀ v' t' l' lv' W',Sta w0 base A P v' t' l' lv' W'→Pln n (k+1) v' t'→l'.length≤l.length+1→DidP w0 base n k A P l (.returned (.tuple #[lv',.bool true])) W'):=fun v' t' l' lv' W' h1 h2 h3=>⟨A,P,v',t',l',lv',rfl,h1,h2,⟨rfl,rfl,rfl⟩,h3⟩
 have HBw:Hid (Below w.heap.size w W1):=b1
 have HC:Hid (∀ W,_):=fun W=>lcut_any x.s W
 have c0:=v1.c0
 have c1:=v1.c1
 have c2:=v1.c2
 have c3:=v1.c3
 have HE:Hid (∀ W,Both w0 A P v t W→_):=fun W h=>give_any A v t x.p hx.p1 W h.va h.ok
 have HF:Hid (∀ W v' t',Half w0 A P v t v' t' W→_):=fun W v' t' (h:Half w0 A P v t v' t' W)=>wgive_any P v t x.p hx.p1 W h.vq hs.bo.ok
 obtain⟨hpl,hrg⟩:=pln_give hp x.p
 have HPl:Hid _:=hpl
 have HRg:Hid _:=hrg
 clear hpl hrg
 generalize (if giveE v t x.p=0 then give v x.p else v)=v' at*
 generalize giveE v t x.p=OE at*
 generalize cut2 x.s=S2 at*
 clear hW1 b1 v1 hT hR hs hp hx hk
 go_enter Tryz.func6,Tryz.ntmps6
 go_wp2_with (first|(rw[HW1.out];clear HW1))
 refine Calls.mono (HC.out W1) ?_
 rintro e W1' ⟨rfl,hw⟩
 have hw':=hw.symm
 clear hw HC
 subst hw'
 have HSd:Hid (Sta w0 base A P v t l lv W1.drew):=HS1.out.below (below_drew W1)
 have HVd:Hid (VB W1.drew w.heap.size x):=HV1.out.below (below_drew W1) (Nat.le_refl _)
 obtain⟨ob,hob⟩:∃ ob,w.heap.size=ob:=⟨_,rfl⟩
 rw[hob] at c0 c1 c2 c3 HVd HOb
 generalize w.heap.size=ob' at*
 subst hob
 go_wp2_with fail
 go_region_held3 (fun w'=>w'.cell? ⟨ob',1,none⟩=some (.int .u32 (x.p:Int))) (first|go_keep|assumption|(refine⟨?_,?_⟩<;>assumption)|(refine⟨?_,?_,?_⟩<;>assumption)) (first
   |(go_at_call 14;refine Calls.mono (HE.out _ HSd.out.bo) ?_;rintro e w2 ⟨rfl,d2,b2⟩;have f2:=HSd.out.bo.half d2 b2;have y21:=(HVd.out.but b2 HOb.out.1).c1)
   |(go_at_call 31;refine Calls.mono (HF.out w2 _ _ f2) ?_;rintro e w3 ⟨rfl,q3,b3⟩;have y31:=((HVd.out.but b2 HOb.out.1).but b3 HOb.out.2).c1))
 have HS3:Hid (Sta w0 base A P v' t l lv w3):=HSd.out.step (HSd.out.bo.whole f2 q3 b3 HRg.out HSd.out.bo.ok) (two_buts b2 b3)
 clear d2 b2 q3 b3 f2 y21 y31
 go_wp2_with fail
 go_ret2
 exact HD.out _ _ _ _ _ HS3.out HPl.out (Nat.le_succ _)
theorem did_gen (Kt:Nat→Int) (w0:World) (base n k:Nat) (hk:k≤1000) (A:Pl) (P:Qp) (v:Vs) (t:St) (l:List (Nat × ByteArray)) (lv:Value) (x:Vo) (hx:VoOk x) (w:World) (hT:Rs.Tb Kt w0) (hR:Rs.Tr Kt w0)
  (hs:Sta w0 base A P v t l lv w) (hp:Pln n k v t) (hm:(IntKind.u64.wrap x.op).tmod 9=7):
  Calls Tryz.prog 6 #[pt A.g,pt A.d,pt P.q,lv,vov x] w (DidP w0 base n k A P l):=by
 have b1:=below_new w (.cells #[.int .i64 x.op,.int .u32 (x.p:Int),.int .i64 x.n,.string x.s] 34)
 have v1:=VB.new w x
 obtain⟨W1,hW1⟩:∃ W1,w.alloc (.cells #[.int .i64 x.op,.int .u32 (x.p:Int),.int .i64 x.n,.string x.s] 34)=W1:=⟨_,rfl⟩
 rw[hW1] at b1 v1
 have HW1:Hid _:=hW1
 have HS1:Hid (Sta w0 base A P v t l lv W1):=hs.below b1
 have HV1:Hid (VB W1 w.heap.size x):=v1
 have HOb:Hid (¬A.has w.heap.size∧¬P.has w.heap.size):=⟨fun e=>by have:=hs.hi _ (.inl e);have:=hs.bz;omega,fun e=>by have:=hs.hi _ (.inr e);have:=hs.bz;omega⟩
 have HX:Hid (VoOk x):=hx
 have HP:Hid (Pln n k v t):=hp
 have HT:Hid (Rs.Tb Kt w0):=hT
 have HR:Hid (Rs.Tr Kt w0):=hR
 have HK:Hid (k≤1000):=hk
 have HD:Hid (∀ v' t' l' lv' W',Sta w0 base A P v' t' l' lv' W'→Pln n (k+1) v' t'→l'.length≤l.length+1→DidP w0 base n k A P l (.returned (.tuple #[lv',.bool true])) W'):=fun v' t' l' lv' W' h1 h2 h3=>⟨A,P,v',t',l',lv',rfl,h1,h2,⟨rfl,rfl,rfl⟩,h3⟩
 have HBw:Hid (Below w.heap.size w W1):=b1
 have HC:Hid (∀ W,_):=fun W=>lcut_any x.s W
 have c0:=v1.c0
 have c1:=v1.c1
 have c2:=v1.c2
 have c3:=v1.c3
 have HRf:Hid (∀ W:World,W.ownsRow base 48 2 lv l.length (rfs l)→_):=fun W h=>refOf_any l lv x base W h
 have HE:Hid (∀ W,Both w0 A P v t W→_):=fun W h=>gen_any Kt A v t (refS l x).1 (refS_le l hs.rl x hx.p1) (refS l x).2 W h.va h.ok (h.tb hT)
 have HF:Hid (∀ W,Both w0 A P v t W→_):=fun W h=>wgen_any Kt P v t (refS l x).1 (refS_le l hs.rl x hx.p1) (refS l x).2 W h.vq h.ok (h.tr hR)
 generalize refS l x=r at*
 obtain⟨rp,rs⟩:=r
 simp only at HRf HE HF
 generalize (pgH Kt v t rp rs).2.1=OG at*
 generalize pgE Kt v t rp rs=OE at*
 generalize cut2 x.s=S2 at*
 clear hW1 b1 v1 hT hR hs hp hx hk
 go_enter Tryz.func6,Tryz.ntmps6
 go_wp2_with (first|(rw[HW1.out];clear HW1))
 refine Calls.mono (HC.out W1) ?_
 rintro e W1' ⟨rfl,hw⟩
 have hw':=hw.symm
 clear hw HC
 subst hw'
 go_wp2_with fail
 refine Calls.mono (HRf.out W1 HS1.out.row) ?_
 rintro e w2 ⟨rfl,b2⟩
 have HS2:Hid (Sta w0 base A P v t l lv w2):=HS1.out.below b2
 have HV2:Hid (VB w2 w.heap.size x):=HV1.out.below b2 (Nat.le_refl _)
 clear b2 c0 c1 c2 c3
 go_wp2_with fail
 refine Calls.mono (HE.out w2 HS2.out.bo) ?_
 rintro e w3 ⟨rfl,b3⟩
 have HS3:Hid (Sta w0 base A P v t l lv w3):=HS2.out.below b3
 have v3:=HV2.out.below b3 (Nat.le_refl _)
 have c0:=v3.c0
 have c1:=v3.c1
 have c2:=v3.c2
 have c3:=v3.c3
 clear b3 v3
 go_wp2_with fail
 refine Calls.mono (HRf.out w3 HS3.out.row) ?_
 rintro e w4 ⟨rfl,b4⟩
 have HS4:Hid (Sta w0 base A P v t l lv w4):=HS3.out.below b4
 clear b4 c0 c1 c2 c3
 go_wp2_with fail
 refine Calls.mono (HF.out w4 HS4.out.bo) ?_
 rintro e w5 ⟨rfl,b5⟩
 have HS5:Hid (Sta w0 base A P v t l lv w5):=HS4.out.below b5
 clear b5
 go_wp2_with fail
 go_ret2
 exact HD.out _ _ _ _ _ HS5.out (HP.out.more (Nat.le_succ _)) (Nat.le_succ _)
theorem did_bent (Kt:Nat→Int) (w0:World) (base n k:Nat) (hk:k≤1000) (A:Pl) (P:Qp) (v:Vs) (t:St) (l:List (Nat × ByteArray)) (lv:Value) (x:Vo) (hx:VoOk x) (w:World) (hT:Rs.Tb Kt w0) (hR:Rs.Tr Kt w0)
  (hs:Sta w0 base A P v t l lv w) (hp:Pln n k v t) (hm:(IntKind.u64.wrap x.op).tmod 9=8) (hn:t.n≤12) (hz:x.s.size≤9223372036854775807):
  Calls Tryz.prog 6 #[pt A.g,pt A.d,pt P.q,lv,vov x] w (DidP w0 base n k A P l):=by
 have b1:=below_new w (.cells #[.int .i64 x.op,.int .u32 (x.p:Int),.int .i64 x.n,.string x.s] 34)
 have v1:=VB.new w x
 obtain⟨W1,hW1⟩:∃ W1,w.alloc (.cells #[.int .i64 x.op,.int .u32 (x.p:Int),.int .i64 x.n,.string x.s] 34)=W1:=⟨_,rfl⟩
 rw[hW1] at b1 v1
 have HW1:Hid _:=hW1
 have HS1:Hid (Sta w0 base A P v t l lv W1):=hs.below b1
 have HV1:Hid (VB W1 w.heap.size x):=v1
 have HOb:Hid (¬A.has w.heap.size∧¬P.has w.heap.size):=⟨fun e=>by have:=hs.hi _ (.inl e);have:=hs.bz;omega,fun e=>by have:=hs.hi _ (.inr e);have:=hs.bz;omega⟩
 have HX:Hid (VoOk x):=hx
 have HP:Hid (Pln n k v t):=hp
 have HT:Hid (Rs.Tb Kt w0):=hT
 have HR:Hid (Rs.Tr Kt w0):=hR
 have HK:Hid (k≤1000):=hk
 have HD:Hid (∀ v' t' l' lv' W',Sta w0 base A P v' t' l' lv' W'→Pln n (k+1) v' t'→l'.length≤l.length+1→DidP w0 base n k A P l (.returned (.tuple #[lv',.bool true])) W'):=fun v' t' l' lv' W' h1 h2 h3=>⟨A,P,v',t',l',lv',rfl,h1,h2,⟨rfl,rfl,rfl⟩,h3⟩
 have HBw:Hid (Below w.heap.size w W1):=b1
 have HC:Hid (∀ W,_):=fun W=>lcut_any x.s W
 have c0:=v1.c0
 have c1:=v1.c1
 have c2:=v1.c2
 have c3:=v1.c3
 have HBe:Hid (∀ W,Both w0 A P v t W→_):=fun W h=>bent_any w0 A P v t x hx W h hz hn
 generalize cut2 x.s=S2 at*
 clear hn hz
 clear hW1 b1 v1 hT hR hs hp hx hk
 go_enter Tryz.func6,Tryz.ntmps6
 go_wp2_with (first|(rw[HW1.out];clear HW1))
 refine Calls.mono (HC.out W1) ?_
 rintro e W1' ⟨rfl,hw⟩
 have hw':=hw.symm
 clear hw HC
 subst hw'
 have HSd:Hid (Sta w0 base A P v t l lv W1.drew):=HS1.out.below (below_drew W1)
 have hq:=HS1.out.bo.vq.cells.1.1
 have HVd:Hid (VB W1.drew w.heap.size x):=HV1.out.below (below_drew W1) (Nat.le_refl _)
 generalize w.heap.size=ob' at*
 go_wp2_with fail
 go_region_held3 (fun w'=>w'.cell? ⟨ob',0,none⟩=some (.int .i64 x.op)∧w'.cell? ⟨ob',1,none⟩=some (.int .u32 (x.p:Int))∧w'.cell? ⟨ob',2,none⟩=some (.int .i64 x.n)∧w'.cell? ⟨ob',3,none⟩=some (.string x.s)∧w'.cell? ⟨P.q,0,none⟩=some (pt P.r)) (first|go_keep|assumption|(refine⟨?_,?_⟩<;>assumption)|(refine⟨?_,?_,?_⟩<;>assumption)|(refine⟨?_,?_,?_,?_,?_⟩<;>assumption)) (first
   |(go_at_call 36;refine Calls.mono (HBe.out _ HSd.out.bo) ?_;rintro e w2 ⟨rfl,t',h2,b2,n2⟩;have v2:=HVd.out.but b2 (fun hh=>hh.elim HOb.out.1 HOb.out.2);have y20:=v2.c0;have y21:=v2.c1;have y22:=v2.c2;have y23:=v2.c3;have yq:=h2.vq.cells.1.1))
 have HS2:Hid (Sta w0 base A P v t' l lv w2):=HSd.out.step h2 b2
 have HN2:Hid (t'.n=t.n):=n2
 clear h2 b2 n2 v2 y20 y21 y22 y23 yq
 go_wp2_with fail
 go_ret2
 exact HD.out _ _ _ _ _ HS2.out ((HP.out.more (Nat.le_succ _)).dev HN2.out) (Nat.le_succ _)
end Go.Proofs.YtfaflomephjkgaaGreatDoor.Rv
